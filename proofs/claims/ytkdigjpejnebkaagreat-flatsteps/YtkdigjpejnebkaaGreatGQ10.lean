import Derived.Test.YtkdigjpejnebkaaGreatGQ00
import Derived.Test.YtkdigjpejnebkaaGreatGQ01
import Derived.Test.YtkdigjpejnebkaaGreatGQ07
import Derived.Test.YtkdigjpejnebkaaGreatGQ09
import Derived.Test.YtkdigjpejnebkaaGreatGQ08
import Derived.Test.YtkdigjpejnebkaaGreatGQ02
import Derived.Test.YtkdigjpejnebkaaGreatGQ06
import Derived.Deep.RegionHeld3
import Derived.Deep.RegionLaw
import Derived.Deep.DeepCutAuto
set_option maxHeartbeats 20000000
set_option linter.unusedVariables false
set_option maxRecDepth 100000
set_option linter.unusedSimpArgs false
namespace Go.Proofs.YtkdigjpejnebkaaGreat
namespace FW
open Go.RowKit
def di (x:Int×Int):Array Value:=#[I x.1,I x.2]
theorem b7 {N g:Nat} {w W:World} (h:Below N w W) (hg:N<=g) (v0 v1:Value):Below N w ((W.setCell (Ad g 0) v0).setCell (Ad g 1) v1):=(h.setCell (p:=(Ad g 0)) hg v0).setCell (p:=(Ad g 1)) hg v1
theorem T3 (l:List AM.Ar) (v:Value) (a size way:Int) (w:World) (h:AW.Has w v l) (hf:AW.dC l) (ha:-9223372036854775808<=a/\a<=9223372036854775807) (hz:size<=9223372036854775807) :
  Calls Tryz.prog 205 #[v,I a,I size,I way] w fun e w'=>e=.returned (.agg (di (FM.bG l a size way)))/\Below w.heap.size w w':=by
 have Lz:=ai (fun p V (hV:AW.Has V v l)=>AW.DU l v p V hV hf)
 have HH:=ai h
 have cP:=ai ((Below.refl w.heap.size w).alloc (Nat.le_refl _) (.cells #[I 0,I 0] 68))
 have X0:=ai (B.new w #[I 0,I 0] 68)
 have HF:Hid (FM.bG l a size way=if way=2/\¬a%8=0 then (3,a) else FM.bB l a way size.toNat):=rfl
 obtain⟨⟨R1,R2⟩,hR⟩:∃R,R=FM.bG l a size way:=⟨_,rfl⟩
 rw[<- hR] at HF ⊢
 clear hR h hf
 unfold di
 simp only
 obtain⟨ao,vn,cap,rfl⟩:∃ao n cap,v=.slice ao n cap:=by
  obtain⟨ao,cap,h,_⟩:=HH.o
  exact⟨ao,_,cap,h⟩
 have Ld:a.tmod 8=0↔a%8=0:=by rw[Int.tmod_eq_emod];split <;> omega
 by_cases hal:way=2/\¬a%8=0
 · have HR:Hid ((R1,R2)=(3,a)):=by show _=_;rw[HF.o,if_pos hal]
   obtain⟨rfl,hal⟩:=hal
   have h8:(a.tmod 8==0)=false:=by rw[beq_eq_false_iff_ne];exact fun g=>hal (Ld.1 g)
   clear Ld hal
   go_enter Tryz.func205,Tryz.ntmps205
   go_wp2
   exact bodyPost_ret (v:=.agg #[I 3,I a]) (by simp[results,Tryz.results205,go_sem]) rfl ⟨by rw[(Prod.mk.inj HR.o).1,(Prod.mk.inj HR.o).2],(Below.refl w.heap.size w).alloc (Nat.le_refl _) _⟩
 · have HR:Hid ((R1,R2)=FM.bB l a way size.toNat):=by show _=_;rw[HF.o,if_neg hal]
   clear HF
   by_cases c:way=2
   · subst c
     have h8:a.tmod 8=0:=Ld.2 (Classical.not_not.1 (fun g=>hal ⟨rfl,g⟩))
     clear Ld hal
     go_enter Tryz.func205,Tryz.ntmps205
     go_wp2_with fail
     go_loopw [23] (fun iv wr=>∃k:Nat,k<=size.toNat/\iv=I (k:Int)/\FM.bB l a 2 k=(0,0)/\wr.heap[w.heap.size]?=some (.cells #[I 0,I 0] 68 (0,0))/\Below w.heap.size w wr) (fun iv _=>size.toNat-(intOf iv).toNat)
     case atStart=>exact⟨0,by omega,rfl,rfl,X0.o,cP.o⟩
     case round =>
      obtain⟨k,hk,rfl,Iz,hx,hb⟩:=hrel
      have HN:=ai Iz
      have HX:=ai hx
      have HB:=ai hb
      clear Iz hx hb X0 cP
      by_cases hlt:(k:Int)<size
      · have hsm:-9223372036854775808<=a+k/\a+k<=9223372036854775807:=by
         cases k with
         | zero=>omega
         | succ j =>
          have:=FM.iT HN.o
          omega
        have HST:=ai (FM.iL HN.o)
        have mK:Hid (∀f:Int×Int,FM.bB l a 2 (k+1)=f->¬f.1=0->(R1,R2)=f):=fun f h1 h2=>HR.o.trans (FM.iM h1 h2 _ (by omega))
        have kq:=ai (fun V hV=>Lz.o ((a+k).tdiv 16) V hV)
        have HQ:Hid (0<=a+k->(a+k).tdiv 16=(a+k)/16):=fun h=>Int.tdiv_eq_ediv_of_nonneg h
        obtain⟨⟨⟨pp,pn,pt,pz⟩,ok⟩,hF⟩:∃F,F=AM.aW l ((a+k).tdiv 16):=⟨_,rfl⟩
        have nD:=ai hF
        rw[<- hF] at kq
        have Hp:Hid (∀V,AW.Has V (.slice ao vn cap) l->Calls Tryz.prog 95 #[.slice ao vn cap,I ((a+k).tdiv 16)] V fun e w'=>e=.returned (.tuple #[.agg #[I pp,I pn,I pt,.bool pz],.bool ok])/\Below V.heap.size V w'):=kq
        clear hF kq
        have pR:Hid ((a+k<0->FM.eu l (a+k) 2=(1,a+k))/\(0<=a+k->ok=false->FM.eu l (a+k) 2=(1,a+k))/\(0<=a+k->ok=true->0<=pt/\pt<=3/\(FM.dQ pt 2=true->FM.eu l (a+k) 2=(2,a+k))/\(FM.dQ pt 2=false->FM.eu l (a+k) 2=(0,0)))):=by
         refine⟨fun h=>FM.iq (.inl h),fun h h2=>?_,fun h h2=>?_⟩
         · refine FM.iq (.inr ?_)
           rw[<- HQ.o h,<- nD.o]
           exact h2
         · have e1:=nD.o
           rw[HQ.o h] at e1
           have h3:(AM.aW l ((a+k)/16)).2=true:=by rw[<- e1];exact h2
           have h4:=FM.cU (FM.eI h3) h3
           have e2:(AM.aW l ((a+k)/16)).1.bE=pt:=by rw[<- e1]
           rw[e2] at h4
           exact⟨h4.2.2.1,h4.2.2.2,fun h5=>FM.lT h h3 (by rw[e2];exact h5),fun h5=>FM.tE h h3 (by rw[e2];exact h5)⟩
        clear nD
        by_cases hneg:a+k<0
        · have iW:=ai (mK.o _ (HST.o.trans (pR.o.1 hneg)) (by simp))
          clear pR mK HST
          go_wp2_with (go_at_call 95;refine(Hp.o _ (HH.o.below HB.o)).mono ?_;rintro e w1 ⟨rfl,hb1⟩;have bh:=ai (aB HB.o hb1);have X1:=ai (B.below HX.o hb1 (B.isLt HX.o));clear hb1;have mN:=B.isLt X1.o;have hne:¬w.heap.size=w1.heap.size:=(by omega);obtain⟨x0,x1⟩:=B.c2 X1.o;have f0:∀k,w1.frozen? (Ad w.heap.size k)=false:=fun k=>B.free X1.o k)
          exact bodyPost_ret (v:=.agg #[I 1,I (a+k)]) (by simp[results,Tryz.results205,go_sem,x0,x1,mN]) rfl ⟨by rw[(Prod.mk.inj iW.o).1,(Prod.mk.inj iW.o).2],(b7 bh.o (Nat.le_refl _) _ _).alloc (by simp;omega) _⟩
        · have hnn:0<=a+k:=by omega
          have oK:=Hp
          rw[HQ.o hnn] at oK
          clear hneg Hp HQ
          cases ok with
          | false =>
           have iW:=ai (mK.o _ (HST.o.trans (pR.o.2.1 (by omega) rfl)) (by simp))
           clear pR mK HST
           go_wp2_with (go_at_call 95;refine(oK.o _ (HH.o.below HB.o)).mono ?_;rintro e w1 ⟨rfl,hb1⟩;have bh:=ai (aB HB.o hb1);have X1:=ai (B.below HX.o hb1 (B.isLt HX.o));clear hb1;have mN:=B.isLt X1.o;have hne:¬w.heap.size=w1.heap.size:=(by omega);obtain⟨x0,x1⟩:=B.c2 X1.o;have f0:∀k,w1.frozen? (Ad w.heap.size k)=false:=fun k=>B.free X1.o k)
           exact bodyPost_ret (v:=.agg #[I 1,I (a+k)]) (by simp[results,Tryz.results205,go_sem,x0,x1,mN]) rfl ⟨by rw[(Prod.mk.inj iW.o).1,(Prod.mk.inj iW.o).2],(b7 bh.o (Nat.le_refl _) _ _).alloc (by simp;omega) _⟩
          | true =>
           have hpt:=pR.o.2.2 hnn rfl
           have Gm:=wO pt 2 hpt.1 hpt.2.1
           have mj:=ai hpt.2.2
           have jq:Hid (∀V,Calls Tryz.prog 211 #[I 2] V fun e w'=>e=.returned (I (eU 2))/\Below V.heap.size V w'):=fun V=>(zH 2 V).mono fun e w' ⟨h1,h2⟩=>⟨h1,by rw[<- h2];exact Below.refl _ _⟩
           clear hpt pR
           obtain⟨RN,YD⟩:=ex (eU 2)
           rw[<- YD] at Gm jq
           clear YD
           go_wp2_with (go_at_call 95;refine(oK.o _ (HH.o.below HB.o)).mono ?_;rintro e w1 ⟨rfl,hb1⟩;have bh:=ai (aB HB.o hb1);have X1:=ai (B.below HX.o hb1 (B.isLt HX.o));clear hb1;have mN:=B.isLt X1.o)
           obtain⟨W,hW⟩:=ex (w1.alloc (.cells #[I pp,I pn,I pt,.bool pz] 59))
           have HW:=ai hW
           have hs:W.heap.size=w1.heap.size+1:=by rw[hW];simp
           have qx:=Q.dZ W
           have hkc:=@Q.cD W
           have c2:∀x:Q.dG W.heap.size W,x.world.cell? (Ad w1.heap.size 2)=some (I pt):=fun x=>by rw[hkc x _ _ (by omega),hW];simp
           have oL:Hid (Below w.heap.size w W):=by show Below _ _ _;rw[hW];exact bh.o.alloc bh.o.size _
           have XW:Hid (W.heap[w.heap.size]?=some (.cells #[I 0,I 0] 68 (0,0))):=by show _=_;rw[hW];exact B.alloc X1.o _
           clear hW hs hkc
           rw[<- HW.o]
           cases fw:FM.dQ pt 2 with
           | true =>
            rw[fw] at Gm
            have UG:(bits BinOp.and IntKind.i64 pt RN==RN)=false:=Gm
            have iW:=ai (mK.o _ (HST.o.trans (mj.o.1 fw)) (by simp))
            clear mK HST mj Gm fw
            refine Q.aX (by kernel_rfl) (by kernel_rfl) ?_
            repeat (first | go_big_quiet_step ((go_at_call 211;exact Q.bN jq.o _)) | quiet_step ((go_at_call 211;exact Q.bN jq.o _)))
            refine wpQuiet_nil ?_
            intro _ hw'
            obtain⟨x,hw''⟩:=hw'
            subst hw''
            have bY:=ai (aB oL.o x.keeps)
            have X2:=ai (B.below XW.o x.keeps (B.isLt XW.o))
            obtain⟨w2,xA⟩:=ex x.world
            rw[<- xA] at bY X2 ⊢
            clear xA c2
            obtain⟨x0,x1⟩:=B.c2 X2.o
            have f0:∀k,w2.frozen? (Ad w.heap.size k)=false:=fun k=>B.free X2.o k
            go_wp2
            exact bodyPost_ret (v:=.agg #[I 2,I (a+k)]) (by simp[results,Tryz.results205,go_sem,x0,x1]) rfl ⟨by rw[(Prod.mk.inj iW.o).1,(Prod.mk.inj iW.o).2],b7 bY.o (Nat.le_refl _) _ _⟩
           | false =>
            rw[fw] at Gm
            have UG:(bits BinOp.and IntKind.i64 pt RN==RN)=true:=Gm
            have l7:=ai (HST.o.trans (mj.o.2 fw))
            clear mK HST mj Gm fw
            refine Q.aX (by kernel_rfl) (by kernel_rfl) ?_
            repeat (first | go_big_quiet_step ((go_at_call 211;exact Q.bN jq.o _)) | quiet_step ((go_at_call 211;exact Q.bN jq.o _)))
            refine wpQuiet_nil ?_
            intro _ hw'
            obtain⟨x,hw''⟩:=hw'
            subst hw''
            have bY:=ai (aB oL.o x.keeps)
            have X2:=ai (B.below XW.o x.keeps (B.isLt XW.o))
            obtain⟨w2,xA⟩:=ex x.world
            rw[<- xA] at bY X2 ⊢
            clear xA c2
            go_wp2
            go_roundw
            case rel=>exact⟨k+1,by omega,by go_num,l7.o,X2.o,bY.o⟩
            case measure=>simp[intOf];omega
      · have IC:k=size.toNat:=by omega
        have iW:Hid ((R1,R2)=(0,0)):=by show _=_;rw[HR.o,<- IC];exact HN.o
        obtain⟨x0,x1⟩:=B.c2 HX.o
        have f0:∀k,wr.frozen? (Ad w.heap.size k)=false:=fun k=>B.free HX.o k
        clear IC
        go_wp2
        exact bodyPost_ret (v:=.agg #[I 0,I 0]) (by simp[results,Tryz.results205,go_sem,x0,x1]) rfl ⟨by rw[(Prod.mk.inj iW.o).1,(Prod.mk.inj iW.o).2],b7 HB.o (Nat.le_refl _) _ _⟩
   · have hw2:(way==2)=false:=by rw[beq_eq_false_iff_ne];exact c
     clear Ld hal c
     go_enter Tryz.func205,Tryz.ntmps205
     go_wp2_with fail
     go_loopw [23] (fun iv wr=>∃k:Nat,k<=size.toNat/\iv=I (k:Int)/\FM.bB l a way k=(0,0)/\wr.heap[w.heap.size]?=some (.cells #[I 0,I 0] 68 (0,0))/\Below w.heap.size w wr) (fun iv _=>size.toNat-(intOf iv).toNat)
     case atStart=>exact⟨0,by omega,rfl,rfl,X0.o,cP.o⟩
     case round =>
      obtain⟨k,hk,rfl,Iz,hx,hb⟩:=hrel
      have HN:=ai Iz
      have HX:=ai hx
      have HB:=ai hb
      clear Iz hx hb X0 cP
      by_cases hlt:(k:Int)<size
      · have hsm:-9223372036854775808<=a+k/\a+k<=9223372036854775807:=by
         cases k with
         | zero=>omega
         | succ j =>
          have:=FM.iT HN.o
          omega
        have HST:=ai (FM.iL HN.o)
        have mK:Hid (∀f:Int×Int,FM.bB l a way (k+1)=f->¬f.1=0->(R1,R2)=f):=fun f h1 h2=>HR.o.trans (FM.iM h1 h2 _ (by omega))
        have kq:=ai (fun V hV=>Lz.o ((a+k).tdiv 16) V hV)
        have HQ:Hid (0<=a+k->(a+k).tdiv 16=(a+k)/16):=fun h=>Int.tdiv_eq_ediv_of_nonneg h
        obtain⟨⟨⟨pp,pn,pt,pz⟩,ok⟩,hF⟩:∃F,F=AM.aW l ((a+k).tdiv 16):=⟨_,rfl⟩
        have nD:=ai hF
        rw[<- hF] at kq
        have Hp:Hid (∀V,AW.Has V (.slice ao vn cap) l->Calls Tryz.prog 95 #[.slice ao vn cap,I ((a+k).tdiv 16)] V fun e w'=>e=.returned (.tuple #[.agg #[I pp,I pn,I pt,.bool pz],.bool ok])/\Below V.heap.size V w'):=kq
        clear hF kq
        have pR:Hid ((a+k<0->FM.eu l (a+k) way=(1,a+k))/\(0<=a+k->ok=false->FM.eu l (a+k) way=(1,a+k))/\(0<=a+k->ok=true->0<=pt/\pt<=3/\(FM.dQ pt way=true->FM.eu l (a+k) way=(2,a+k))/\(FM.dQ pt way=false->FM.eu l (a+k) way=(0,0)))):=by
         refine⟨fun h=>FM.iq (.inl h),fun h h2=>?_,fun h h2=>?_⟩
         · refine FM.iq (.inr ?_)
           rw[<- HQ.o h,<- nD.o]
           exact h2
         · have e1:=nD.o
           rw[HQ.o h] at e1
           have h3:(AM.aW l ((a+k)/16)).2=true:=by rw[<- e1];exact h2
           have h4:=FM.cU (FM.eI h3) h3
           have e2:(AM.aW l ((a+k)/16)).1.bE=pt:=by rw[<- e1]
           rw[e2] at h4
           exact⟨h4.2.2.1,h4.2.2.2,fun h5=>FM.lT h h3 (by rw[e2];exact h5),fun h5=>FM.tE h h3 (by rw[e2];exact h5)⟩
        clear nD
        by_cases hneg:a+k<0
        · have iW:=ai (mK.o _ (HST.o.trans (pR.o.1 hneg)) (by simp))
          clear pR mK HST
          go_wp2_with (go_at_call 95;refine(Hp.o _ (HH.o.below HB.o)).mono ?_;rintro e w1 ⟨rfl,hb1⟩;have bh:=ai (aB HB.o hb1);have X1:=ai (B.below HX.o hb1 (B.isLt HX.o));clear hb1;have mN:=B.isLt X1.o;have hne:¬w.heap.size=w1.heap.size:=(by omega);obtain⟨x0,x1⟩:=B.c2 X1.o;have f0:∀k,w1.frozen? (Ad w.heap.size k)=false:=fun k=>B.free X1.o k)
          exact bodyPost_ret (v:=.agg #[I 1,I (a+k)]) (by simp[results,Tryz.results205,go_sem,x0,x1,mN]) rfl ⟨by rw[(Prod.mk.inj iW.o).1,(Prod.mk.inj iW.o).2],(b7 bh.o (Nat.le_refl _) _ _).alloc (by simp;omega) _⟩
        · have hnn:0<=a+k:=by omega
          have oK:=Hp
          rw[HQ.o hnn] at oK
          clear hneg Hp HQ
          cases ok with
          | false =>
           have iW:=ai (mK.o _ (HST.o.trans (pR.o.2.1 (by omega) rfl)) (by simp))
           clear pR mK HST
           go_wp2_with (go_at_call 95;refine(oK.o _ (HH.o.below HB.o)).mono ?_;rintro e w1 ⟨rfl,hb1⟩;have bh:=ai (aB HB.o hb1);have X1:=ai (B.below HX.o hb1 (B.isLt HX.o));clear hb1;have mN:=B.isLt X1.o;have hne:¬w.heap.size=w1.heap.size:=(by omega);obtain⟨x0,x1⟩:=B.c2 X1.o;have f0:∀k,w1.frozen? (Ad w.heap.size k)=false:=fun k=>B.free X1.o k)
           exact bodyPost_ret (v:=.agg #[I 1,I (a+k)]) (by simp[results,Tryz.results205,go_sem,x0,x1,mN]) rfl ⟨by rw[(Prod.mk.inj iW.o).1,(Prod.mk.inj iW.o).2],(b7 bh.o (Nat.le_refl _) _ _).alloc (by simp;omega) _⟩
          | true =>
           have hpt:=pR.o.2.2 hnn rfl
           have Gm:=wO pt way hpt.1 hpt.2.1
           have mj:=ai hpt.2.2
           have jq:Hid (∀V,Calls Tryz.prog 211 #[I way] V fun e w'=>e=.returned (I (eU way))/\Below V.heap.size V w'):=fun V=>(zH way V).mono fun e w' ⟨h1,h2⟩=>⟨h1,by rw[<- h2];exact Below.refl _ _⟩
           clear hpt pR
           obtain⟨RN,YD⟩:=ex (eU way)
           rw[<- YD] at Gm jq
           clear YD
           go_wp2_with (go_at_call 95;refine(oK.o _ (HH.o.below HB.o)).mono ?_;rintro e w1 ⟨rfl,hb1⟩;have bh:=ai (aB HB.o hb1);have X1:=ai (B.below HX.o hb1 (B.isLt HX.o));clear hb1;have mN:=B.isLt X1.o)
           obtain⟨W,hW⟩:=ex (w1.alloc (.cells #[I pp,I pn,I pt,.bool pz] 59))
           have HW:=ai hW
           have hs:W.heap.size=w1.heap.size+1:=by rw[hW];simp
           have qx:=Q.dZ W
           have hkc:=@Q.cD W
           have c2:∀x:Q.dG W.heap.size W,x.world.cell? (Ad w1.heap.size 2)=some (I pt):=fun x=>by rw[hkc x _ _ (by omega),hW];simp
           have oL:Hid (Below w.heap.size w W):=by show Below _ _ _;rw[hW];exact bh.o.alloc bh.o.size _
           have XW:Hid (W.heap[w.heap.size]?=some (.cells #[I 0,I 0] 68 (0,0))):=by show _=_;rw[hW];exact B.alloc X1.o _
           clear hW hs hkc
           rw[<- HW.o]
           cases fw:FM.dQ pt way with
           | true =>
            rw[fw] at Gm
            have UG:(bits BinOp.and IntKind.i64 pt RN==RN)=false:=Gm
            have iW:=ai (mK.o _ (HST.o.trans (mj.o.1 fw)) (by simp))
            clear mK HST mj Gm fw
            refine Q.aX (by kernel_rfl) (by kernel_rfl) ?_
            repeat (first | go_big_quiet_step ((go_at_call 211;exact Q.bN jq.o _)) | quiet_step ((go_at_call 211;exact Q.bN jq.o _)))
            refine wpQuiet_nil ?_
            intro _ hw'
            obtain⟨x,hw''⟩:=hw'
            subst hw''
            have bY:=ai (aB oL.o x.keeps)
            have X2:=ai (B.below XW.o x.keeps (B.isLt XW.o))
            obtain⟨w2,xA⟩:=ex x.world
            rw[<- xA] at bY X2 ⊢
            clear xA c2
            obtain⟨x0,x1⟩:=B.c2 X2.o
            have f0:∀k,w2.frozen? (Ad w.heap.size k)=false:=fun k=>B.free X2.o k
            go_wp2
            exact bodyPost_ret (v:=.agg #[I 2,I (a+k)]) (by simp[results,Tryz.results205,go_sem,x0,x1]) rfl ⟨by rw[(Prod.mk.inj iW.o).1,(Prod.mk.inj iW.o).2],b7 bY.o (Nat.le_refl _) _ _⟩
           | false =>
            rw[fw] at Gm
            have UG:(bits BinOp.and IntKind.i64 pt RN==RN)=true:=Gm
            have l7:=ai (HST.o.trans (mj.o.2 fw))
            clear mK HST mj Gm fw
            refine Q.aX (by kernel_rfl) (by kernel_rfl) ?_
            repeat (first | go_big_quiet_step ((go_at_call 211;exact Q.bN jq.o _)) | quiet_step ((go_at_call 211;exact Q.bN jq.o _)))
            refine wpQuiet_nil ?_
            intro _ hw'
            obtain⟨x,hw''⟩:=hw'
            subst hw''
            have bY:=ai (aB oL.o x.keeps)
            have X2:=ai (B.below XW.o x.keeps (B.isLt XW.o))
            obtain⟨w2,xA⟩:=ex x.world
            rw[<- xA] at bY X2 ⊢
            clear xA c2
            go_wp2
            go_roundw
            case rel=>exact⟨k+1,by omega,by go_num,l7.o,X2.o,bY.o⟩
            case measure=>simp[intOf];omega
      · have IC:k=size.toNat:=by omega
        have iW:Hid ((R1,R2)=(0,0)):=by show _=_;rw[HR.o,<- IC];exact HN.o
        obtain⟨x0,x1⟩:=B.c2 HX.o
        have f0:∀k,wr.frozen? (Ad w.heap.size k)=false:=fun k=>B.free HX.o k
        clear IC
        go_wp2
        exact bodyPost_ret (v:=.agg #[I 0,I 0]) (by simp[results,Tryz.results205,go_sem,x0,x1]) rfl ⟨by rw[(Prod.mk.inj iW.o).1,(Prod.mk.inj iW.o).2],b7 HB.o (Nat.le_refl _) _ _⟩
end FW
namespace GF
open Go.RowKit GK
open FW (ai aB)
theorem Mem.space {lo mb:Nat} {w:World} {D:Nat->Prop} {sl:Int} {v:Value} {L:List Lc} {ss:List FM.Sp} (h:Mem lo mb w D sl v L ss) (k:Nat) (hk:k<ss.length) :
  ∃sb cap aa na ca ap cp,v=.slice (some (Ad sb 0)) ss.length cap/\sb<w.heap.size/\bw L k=⟨(FM.ax ss k).live,.slice aa na ca,.slice ap (FM.ax ss k).aj.length cp⟩ /\
   w.cell? (Ad sb (k*3))=some (.bool (FM.ax ss k).live)/\w.cell? (Ad sb (k*3+1))=some (.slice aa na ca)/\w.cell? (Ad sb (k*3+2))=some (.slice ap (FM.ax ss k).aj.length cp) /\
   AW.Has w (.slice aa na ca) (FM.ax ss k).aw/\FW.iN w ap (FM.ax ss k).aj/\(FM.ax ss k).aj.length<=cp/\(∀j,w.frozen? (Ad sb j)=false)/\(0<(FM.ax ss k).aj.length->∃pb,ap=some (Ad pb 0)/\pb<w.heap.size):=by
 obtain⟨ao,cap,e,_,hg⟩:=aJ h.row
 have hlen:=h.len
 have hk':k<L.length:=by omega
 obtain⟨sb,rfl,_,hlt⟩:=hg (by omega)
 have hr:=h.row
 rw[e] at hr
 have hs:=h.each k hk'
 obtain⟨aa,ca,ea,_,_⟩:=aJ (show w.ownsRow lo _ 4 _ _ _ from hs.aw)
 obtain⟨ap,cp,ep,Gk,Lh⟩:=aJ hs.aj
 have hc:∀j,j<3->w.cell? (Ad sb (k*3+j))=(bH (bw L k))[j]?:=fun j hj=>cZ bH dw vV hr k j hk' hj
 have hl:bw L k=⟨(FM.ax ss k).live,.slice aa (FM.ax ss k).aw.length ca,.slice ap (FM.ax ss k).aj.length cp⟩:=by
  rw[<- ea,<- ep,<- hs.live]
 refine⟨sb,cap,aa,_,ca,ap,cp,by rw[<- hlen];exact e,hlt,hl,?_,?_,?_,?_,?_,Gk,fun j=>gi hr j,fun hp=>by
  obtain⟨q,e1,_,e3⟩:=Lh hp
  exact⟨q,e1,e3⟩⟩
 · have:=hc 0 (by omega)
   rw[hl] at this
   exact this
 · have:=hc 1 (by omega)
   rw[hl] at this
   exact this
 · have:=hc 2 (by omega)
   rw[hl] at this
   exact this
 · rw[<- ea];exact hs.aw.has
 · intro hp
   obtain⟨q,rfl,hq1,hq2⟩:=Lh hp
   refine⟨q,0,rfl,hq2,fun i hi=>?_⟩
   have hr:=hs.aj
   rw[ep] at hr
   have Gl:∀j,j<2->w.cell? (Ad q (i*2+j))=(aH (FM.aN (FM.ax ss k).aj i))[j]?:=fun j hj=>cZ aH bl FM.yC hr i j hi hj
   rw[Nat.zero_add]
   exact⟨Gl 0 (by omega),Gl 1 (by omega)⟩
theorem FQ {ps:List FM.Pg} {p:Int} {i j:Nat} (h:FW.Low ps p j) (hi:i<ps.length) (hp:(FM.aN ps i).page=p) (hr:FW.yj ps):j=i:=by
 rcases Nat.lt_trichotomy j i with g | g | g
 · have h1:=h.high j (Nat.le_refl _) (by omega)
   have h2:=hr j i g hi
   omega
 · exact g
 · have:=h.low i g
   omega
def yl (ps:List FM.Pg) (vp:Value) (a n:Int) (f:Int×Int) (w:World) (e:Ending) (w':World):Prop :=
 Below w.heap.size w w'/\((¬f.1=0/\e=.returned (.tuple #[Nl,.agg (FW.di f)]))∨(f.1=0/\∃i pb cp,GM.Reach ps a n i/\vp=.slice (some (Ad pb 0)) ps.length cp/\e=.returned (.tuple #[.slice (some (Ad pb (i*2))) (GM.cW a n-a/16+1).toNat (cp-i),.agg #[I 0,I 0]])))
theorem zJ {lo mb:Nat} {D:Nat->Prop} {sl:Int} {v:Value} {L:List Lc} {ss:List FM.Sp} (k:Nat) (a n way:Int) (w:World) (h:Mem lo mb w D sl v L ss) (hk:k<ss.length) (hn:ss.length<=1000) (hL:GM.ql (FM.ax ss k)) (ha:M.dD a) (rZ:1<=n) (QO:n<=8) :
  Calls Tryz.prog 197 #[.pointer (some (Ad mb 0)),I (k:Int),I a,I n,I way] w (yl (FM.ax ss k).aj (bw L k).vp a n (FM.bG (FM.ax ss k).aw a n way) w):=by
 obtain⟨sb,cap,aa,na,ca,ap,cp,hv,jQ,hlc,c0,c1,c2,Gs,Lm,Gk,_,Yw⟩:=h.space k hk
 have HAP:=ai Yw
 have HM:=ai h
 have hfit:=AM.eJ _ hL.check
 have hlen:(FM.ax ss k).aj.length<=65025:=by
  have h1:=GM.dU hL
  have h2:=FW.gf (FM.ax ss k).aw
  omega
 have Tn:=ai (fun V (hV:Below w.heap.size w V)=>FW.T3 (FM.ax ss k).aw (.slice aa na ca) a n way V (Gs.below hV) hfit ha (by omega))
 have Eo:=ai (fun p V (hV:Below w.heap.size w V)=>FW.zN (FM.ax ss k).aj p ap cp V (Lm.below hV) hL.nO (by omega))
 have jd:=ai (fun g=>GM.ng hL (a:=a) (way:=way) rZ (by omega) g)
 have RZ:=ai hL.nO
 have PB:=ai Lm
 have PF:=ai (fun g=>(GM.uW (l:=(FM.ax ss k).aw) (a:=a) (n:=n) (way:=way) g).1)
 rw[hlc]
 obtain⟨s,hs⟩:=ex (FM.ax ss k)
 rw[<- hs] at c0 c2 Tn Eo jd RZ PB PF HAP Gk hlen ⊢
 obtain⟨f,hf⟩:=ex (FM.bG s.aw a n way)
 rw[<- hf] at Tn jd PF ⊢
 obtain⟨lv,hlv⟩:=ex s.live
 rw[<- hlv] at c0
 obtain⟨ps,hps⟩:=ex s.aj
 rw[<- hps] at c2 Eo jd RZ PB HAP Gk hlen ⊢
 obtain⟨np,fE⟩:=ex ps.length
 have vd:=ai fE
 rw[<- fE] at c2 Eo Gk hlen HAP
 obtain⟨ns,hns⟩:=ex ss.length
 rw[<- hns] at hv hk hn
 subst hv
 have m1:w.cell? (Ad mb 1)=some (.slice (some (Ad sb 0)) ns cap):=B.cell h.head 1 rfl
 have jc:(k:Int)<(ns:Int):=by omega
 have hmb:=B.isLt h.head
 have XT:¬mb=w.heap.size:=by omega
 have ahi:¬sb=w.heap.size:=by omega
 simp only
 obtain⟨f1,f2⟩:=f
 unfold FW.di at Tn
 simp only at Tn
 have cL:=ai (((Below.refl w.heap.size w).alloc (Nat.le_refl _) (.cells #[I 0,I 0] 68)).alloc (by simp) (.cells #[.bool lv,.slice aa na ca,.slice ap np cp] 53))
 have BY:=ai (B.alloc (B.new w #[I 0,I 0] 68) (.cells #[.bool lv,.slice aa na ca,.slice ap np cp] 53))
 have BS:Hid (((w.alloc (.cells #[I 0,I 0] 68)).alloc (.cells #[.bool lv,.slice aa na ca,.slice ap np cp] 53)).heap[w.heap.size+1]?=some (.cells #[.bool lv,.slice aa na ca,.slice ap np cp] 53 (0,0))):=by
  have:=B.new (w.alloc (.cells #[I 0,I 0] 68)) #[.bool lv,.slice aa na ca,.slice ap np cp] 53
  rw[World.size_alloc] at this
  exact this
 clear h hs hf hlv hps fE hns hL Gs Lm hfit hlc Yw
 by_cases y9:f1=0
 · subst y9
   obtain⟨i,hre⟩:=jd.o rfl
   have Bu:=hre.low
   have hhi:=hre.high
   have hlast:GM.cW a n-a/16=0∨GM.cW a n-a/16=1:=by rcases hre.last with e | ⟨e,_⟩ <;> omega
   have OU:=ai (show GM.cW a n=(a+n-1)/16 from rfl)
   have hin:=hre.lt
   have ach:i+(GM.cW a n-a/16+1).toNat<=np:=by rw[vd.o];rcases hre.last with e | ⟨e,e2,_⟩ <;> omega
   have KY:=ai hre
   rw[<- vd.o] at hin
   obtain⟨pb,hap,hpb⟩:=HAP.o (by omega)
   subst hap
   have l0:0<=(a+n-1)/16-a/16:=by have:=OU.o;omega
   have l1:(i:Int)+(a+n-1)/16-a/16+1<=(np:Int):=by have:=OU.o;omega
   have l2:(np:Int)<=(cp:Int):=by omega
   clear hre jd PF
   go_enter Tryz.func197,Tryz.ntmps197
   go_wp2_with (first
    | (go_at_call 205;refine(Tn.o _ cL.o).mono ?_;rintro e w1 ⟨rfl,hb1⟩;have bh:=ai (cL.o.trans (hb1.mono cL.o.size));have bY:=ai (bh.o.alloc bh.o.size (.cells #[I 0,I f2] 68));have BS2:=ai (B.alloc (B.below BS.o hb1 (B.isLt BS.o)) (.cells #[I 0,I f2] 68));have EU:=ai (B.alloc (B.below BY.o hb1 (B.isLt BY.o)) (.cells #[I 0,I f2] 68));have s2:=B.cell (v:=.slice (some (Ad pb 0)) np cp) BS2.o 2 rfl;clear hb1)
    | (go_at_call 60;refine(Eo.o _ _ bY.o).mono ?_;rintro e w2 ⟨j,hj,rfl,hb2⟩;obtain rfl:=FQ hj KY.o.lt KY.o.first RZ.o;have fK:=ai (bY.o.trans (hb2.mono bY.o.size));have BS3:=ai (B.below BS2.o hb2 (B.isLt BS2.o));have PN:=ai (B.below EU.o hb2 (B.isLt EU.o));have s3:=B.cell (v:=.slice (some (Ad pb 0)) np cp) BS3.o 2 rfl;have y0:=B.cell (v:=I 0) PN.o 0 rfl;have y1:=B.cell (v:=I 0) PN.o 1 rfl;have y2:=B.free PN.o 0;have y3:=B.free PN.o 1;clear hb2 hj))
   refine bodyPost_ret (v:=.tuple #[.slice (some (Ad pb (j*2))) (((j:Int)+(a+n-1)/16-a/16+1).toNat-j) (cp-j),.agg #[I 0,I 0]]) (by simp[results,Tryz.results197,go_sem,y0,y1]) rfl ?_
   refine⟨(fK.o.setCell (p:=(Ad w.heap.size 0)) (Nat.le_refl _) _).setCell (p:=(Ad w.heap.size 1)) (Nat.le_refl _) _,.inr ⟨rfl,j,pb,cp,KY.o,rfl,?_⟩⟩
   have e:((j:Int)+(a+n-1)/16-a/16+1).toNat-j=(GM.cW a n-a/16+1).toNat:=by have:=OU.o;omega
   rw[e]
 · have hfi:(f1==0)=false:=by rw[beq_eq_false_iff_ne];exact y9
   have Zz:=ai y9
   clear jd PF Eo y9
   go_enter Tryz.func197,Tryz.ntmps197
   go_wp2_with (go_at_call 205;refine(Tn.o _ cL.o).mono ?_;rintro e w1 ⟨rfl,hb1⟩;have bh:=ai (cL.o.trans (hb1.mono cL.o.size));have tP:=ai (B.below BY.o hb1 (B.isLt BY.o));have y0:∀ob,(w1.alloc ob).cell? (Ad w.heap.size 0)=some (I 0):=(fun ob=>B.cell (B.alloc tP.o ob) 0 rfl);have y1:∀ob,(w1.alloc ob).cell? (Ad w.heap.size 1)=some (I 0):=(fun ob=>B.cell (B.alloc tP.o ob) 1 rfl);have y2:∀ob,(w1.alloc ob).frozen? (Ad w.heap.size 0)=false:=(fun ob=>B.free (B.alloc tP.o ob) 0);have y3:∀ob,(w1.alloc ob).frozen? (Ad w.heap.size 1)=false:=(fun ob=>B.free (B.alloc tP.o ob) 1);have hne:¬w.heap.size=w1.heap.size:=(by have:=B.isLt tP.o;omega);clear hb1)
   go_region
   all_goals
    go_wp2
    refine bodyPost_ret (v:=.tuple #[Nl,.agg #[I f1,I f2]]) (by simp[results,Tryz.results197,go_sem,y0,y1]) rfl ?_
    exact⟨((bh.o.alloc bh.o.size _).drew.setCell (p:=(Ad w.heap.size 0)) (Nat.le_refl _) _).setCell (p:=(Ad w.heap.size 1)) (Nat.le_refl _) _,.inl ⟨Zz.o,rfl⟩⟩
end GF
namespace GW
open Go.RowKit GK GG
open FW (ai aB)
def blk (v:Value) (b:Nat):Prop:=v.ownBlock=some b
theorem xj (a : Addr) (w : World) : (method 396 144 (.pointer (some a)) "Load").run Tryz.prog w = .ok (192, .pointer (some a)) w := by kernel_rfl
theorem Am (a : Addr) (w : World) : (nilAhead 396 144 (.pointer (some a)) "Load").run Tryz.prog w = .ok (some false) w := by kernel_rfl
theorem Dh (a : Addr) (w : World) : (method 396 144 (.pointer (some a)) "Store").run Tryz.prog w = .ok (195, .pointer (some a)) w := by kernel_rfl
theorem Hb (a : Addr) (w : World) : (nilAhead 396 144 (.pointer (some a)) "Store").run Tryz.prog w = .ok (some false) w := by kernel_rfl
theorem J7 (a : Addr) (w : World) : (method 396 144 (.pointer (some a)) "Map").run Tryz.prog w = .ok (193, .pointer (some a)) w := by kernel_rfl
theorem Ot (a : Addr) (w : World) : (nilAhead 396 144 (.pointer (some a)) "Map").run Tryz.prog w = .ok (some false) w := by kernel_rfl
theorem Dg (a : Addr) (w : World) : (method 396 144 (.pointer (some a)) "Unmap").run Tryz.prog w = .ok (196, .pointer (some a)) w := by kernel_rfl
theorem Ha (a : Addr) (w : World) : (nilAhead 396 144 (.pointer (some a)) "Unmap").run Tryz.prog w = .ok (some false) w := by kernel_rfl
theorem yU (a : Addr) (w : World) : (method 396 144 (.pointer (some a)) "Protect").run Tryz.prog w = .ok (194, .pointer (some a)) w := by kernel_rfl
theorem Ce (a : Addr) (w : World) : (nilAhead 396 144 (.pointer (some a)) "Protect").run Tryz.prog w = .ok (some false) w := by kernel_rfl
theorem FN (a : Addr) (w : World) : (method 396 144 (.pointer (some a)) "Fork").run Tryz.prog w = .ok (191, .pointer (some a)) w := by kernel_rfl
theorem KV (a : Addr) (w : World) : (nilAhead 396 144 (.pointer (some a)) "Fork").run Tryz.prog w = .ok (some false) w := by kernel_rfl
theorem xm (a : Addr) (w : World) : (method 396 144 (.pointer (some a)) "Drop").run Tryz.prog w = .ok (190, .pointer (some a)) w := by kernel_rfl
theorem Ao (a : Addr) (w : World) : (nilAhead 396 144 (.pointer (some a)) "Drop").run Tryz.prog w = .ok (some false) w := by kernel_rfl
def Out {σ:Type} (Hd:World->(Nat->Prop)->σ->Prop) (w:World) (D:Nat->Prop) (v:Value) (s:σ) (e:Ending) (w':World):Prop:=∃D',e=.returned v/\Hd w' D' s/\Kp D w w'/\∀b,D' b->D b∨w.heap.size<=b
structure gQ {σ:Type} (lo mb:Nat) (Hd:World->(Nat->Prop)->σ->Prop) (Ok:σ->List Bool->Prop) (o:vK σ):Prop where
 kp:∀(w w':World) (D E:Nat->Prop) (s:σ),Hd w D s->Kp E w w'->(∀b,D b->¬E b)->Hd w' D s
 dom:∀(w:World) (D:Nat->Prop) (s:σ),Hd w D s->∀b,D b->lo<=b/\b<w.heap.size
 ok:Av o Ok
 load:∀(w:World) D s fl (k:Nat) (a n way:Int),Hd w D s->Ok s fl->fl.getD k false=true->M.dD a->1<=n->n<=8->(way=0∨way=2)->Calls Tryz.prog 192 #[.pointer (some (Ad mb 0)),I (k:Int),I a,I n,I way] w (Out Hd w D (.tuple #[.string (o.load s k a n way).1.1,.agg (FW.di (o.load s k a n way).1.2)]) (o.load s k a n way).2)
 store:∀(w:World) D s fl (k:Nat) (a:Int) (d:ByteArray),Hd w D s->Ok s fl->fl.getD k false=true->M.dD a->1<=d.size->d.size<=8->Calls Tryz.prog 195 #[.pointer (some (Ad mb 0)),I (k:Int),I a,.string d] w (Out Hd w D (.agg (FW.di (o.store s k a d).1)) (o.store s k a d).2)
 map:∀(w:World) D s fl (k:Nat) (p n q:Int),Hd w D s->Ok s fl->fl.getD k false=true->M.dD p->M.dD n->Calls Tryz.prog 193 #[.pointer (some (Ad mb 0)),I (k:Int),I p,I n,I q] w (Out Hd w D (I (o.map s k p n q).1) (o.map s k p n q).2)
 jV:∀(w:World) D s fl (k:Nat) (p n:Int),Hd w D s->Ok s fl->fl.getD k false=true->M.dD p->M.dD n->Calls Tryz.prog 196 #[.pointer (some (Ad mb 0)),I (k:Int),I p,I n] w (Out Hd w D (I (o.jV s k p n).1) (o.jV s k p n).2)
 fq:∀(w:World) D s fl (k:Nat) (p n q:Int),Hd w D s->Ok s fl->fl.getD k false=true->M.dD p->M.dD n->Calls Tryz.prog 194 #[.pointer (some (Ad mb 0)),I (k:Int),I p,I n,I q] w (Out Hd w D (I (o.fq s k p n q).1) (o.fq s k p n q).2)
 fork:∀(w:World) D s fl (k:Nat),Hd w D s->Ok s fl->fl.getD k false=true->Calls Tryz.prog 191 #[.pointer (some (Ad mb 0)),I (k:Int)] w (Out Hd w D (I (o.fork s k).1) (o.fork s k).2)
 drop:∀(w:World) D s fl (k:Nat),Hd w D s->Ok s fl->fl.getD k false=true->Calls Tryz.prog 190 #[.pointer (some (Ad mb 0)),I (k:Int)] w (Out Hd w D (.tuple #[]) (o.drop s k))
def aI (p:PM.Pr):List Value:=[I (p.r 0),I (p.r 1),I (p.r 2),I (p.r 3),I (p.r 4),I (p.r 5),I (p.r 6),I (p.r 7),I p.pc,I p.st,I p.cd,I p.fk,I p.fa]
def bM (x:FM.Wd):List Value:=[I x.proc,I x.value]
theorem bc (p:PM.Pr):(aI p).length=13:=rfl
theorem cx (p:FM.Wd):(bM p).length=2:=rfl
structure jk {σ:Type} (Hd:World->(Nat->Prop)->σ->Prop) (lo mb gb:Nat) (w:World) (D:Nat->Prop) (vr vo:Value) (st:St σ):Prop where
 head:w.heap[gb]?=some (.cells #[.iface 144 (.pointer (some (Ad mb 0))),vr,vo] 151 (0,0))
 mem:Hd w D st.mem
 procs:w.ownsRow lo 70 13 vr st.ps.length (st.ps.flatMap aI)
 outs:w.ownsRow lo 78 2 vo st.out.length (st.out.flatMap bM)
 base:lo<=gb
 n1:¬D gb
 n2:¬blk vr gb
 n3:¬blk vo gb
 n4:∀b,blk vr b->¬D b
 n5:∀b,blk vo b->¬D b
 n6:∀b,blk vr b->¬blk vo b
def kg (gb:Nat) (D:Nat->Prop) (vr vo:Value) (b:Nat):Prop:=b=gb∨D b∨blk vr b∨blk vo b
section
variable {σ:Type} {Hd:World->(Nat->Prop)->σ->Prop} {Ok:σ->List Bool->Prop} {o:vK σ} {lo mb gb:Nat} {w w':World} {D:Nat->Prop} {vr vo:Value} {st:St σ}
theorem jk.kp (C:gQ lo mb Hd Ok o) {E:Nat->Prop} (h:jk Hd lo mb gb w D vr vo st) (hk:Kp E w w') (hd:∀b,kg gb D vr vo b->¬E b):jk Hd lo mb gb w' D vr vo st :=
 ⟨hk.keep h.head (hd _ (.inl rfl)),C.kp _ _ _ _ _ h.mem hk (fun b hb=>hd b (.inr (.inl hb))),hk.row h.procs (fun g hg=>hd g (.inr (.inr (.inl hg)))),hk.row h.outs (fun g hg=>hd g (.inr (.inr (.inr hg)))),h.base,h.n1,h.n2,h.n3,h.n4,h.n5,h.n6⟩
theorem jk.below (C:gQ lo mb Hd Ok o) (h:jk Hd lo mb gb w D vr vo st) (hb:Below w.heap.size w w'):jk Hd lo mb gb w' D vr vo st:=h.kp C (Kp.aF (D:=fun _=>False) hb) (fun _ _ g=>g)
theorem jk.lt (C:gQ lo mb Hd Ok o) (h:jk Hd lo mb gb w D vr vo st) (b:Nat) (hb:kg gb D vr vo b):lo<=b/\b<w.heap.size:=by
 rcases hb with g | g | g | g
 · rw[g];exact⟨h.base,B.isLt h.head⟩
 · exact C.dom _ _ _ h.mem b g
 · exact h.procs.lt b g
 · exact h.outs.lt b g
theorem jk.turn (C:gQ lo mb Hd Ok o) {D':Nat->Prop} {m:σ} (h:jk Hd lo mb gb w D vr vo st) (hm:Hd w' D' m) (hk:Kp D w w') (hd:∀b,D' b->D b∨w.heap.size<=b):jk Hd lo mb gb w' D' vr vo { st with mem:=m }:=by
 have h1:∀b,b<w.heap.size->¬D b->¬D' b:=fun b hb hn g=>by
  rcases hd b g with x | x
  · exact hn x
  · omega
 exact⟨hk.keep h.head h.n1,hm,hk.row h.procs h.n4,hk.row h.outs h.n5,h.base,h1 _ (B.isLt h.head) h.n1,h.n2,h.n3,fun b hb=>h1 b (h.procs.lt b hb).2 (h.n4 b hb),fun b hb=>h1 b (h.outs.lt b hb).2 (h.n5 b hb),h.n6⟩
def Left (Hd:World->(Nat->Prop)->σ->Prop) (lo mb gb:Nat) (w:World) (D:Nat->Prop) (vr vo:Value) (st':St σ) (w':World):Prop:=∃D' vr' vo',jk Hd lo mb gb w' D' vr' vo' st'/\Kp (kg gb D vr vo) w w'/\∀b,kg gb D' vr' vo' b->kg gb D vr vo b∨w.heap.size<=b
theorem Left.refl (h:jk Hd lo mb gb w D vr vo st):Left Hd lo mb gb w D vr vo st w:=⟨D,vr,vo,h,Kp.refl _ _,fun b hb=>.inl hb⟩
theorem Left.pj (C:gQ lo mb Hd Ok o) {D':Nat->Prop} {m:σ} (h:jk Hd lo mb gb w D vr vo st) (hm:Hd w' D' m) (hk:Kp D w w') (hd:∀b,D' b->D b∨w.heap.size<=b):Left Hd lo mb gb w D vr vo { st with mem:=m } w' :=
 ⟨D',vr,vo,h.turn C hm hk hd,hk.mono (fun b _ g=>.inr (.inl g)),fun b hb=>by
  rcases hb with g | g | g | g
  · exact .inl (.inl g)
  · rcases hd b g with x | x
    · exact .inl (.inr (.inl x))
    · exact .inr x
  · exact .inl (.inr (.inr (.inl g)))
  · exact .inl (.inr (.inr (.inr g)))⟩
theorem Left.trans {w2:World} {D1:Nat->Prop} {r1 o1:Value} {JK:St σ} (hk:Kp (kg gb D vr vo) w w') (hd:∀b,kg gb D1 r1 o1 b->kg gb D vr vo b∨w.heap.size<=b) (h2:Left Hd lo mb gb w' D1 r1 o1 JK w2):Left Hd lo mb gb w D vr vo JK w2:=by
 obtain⟨D',vr',vo',hg,hk2,hd2⟩:=h2
 have hs:=hk.size
 refine⟨D',vr',vo',hg,hk.trans hk2 (fun b hb g=>?_),fun b hb=>?_⟩
 · rcases hd b g with x | x
   · exact x
   · omega
 · rcases hd2 b hb with x | x
   · exact hd b x
   · exact .inr (by omega)
theorem Left.after {w2:World} {JK:St σ} (hb:Below w.heap.size w w') (h2:Left Hd lo mb gb w' D vr vo JK w2):Left Hd lo mb gb w D vr vo JK w2:=Left.trans (Kp.aF hb) (fun b hb=>.inl hb) h2
theorem Left.more (C:gQ lo mb Hd Ok o) {w2:World} {JK:St σ} (h:Left Hd lo mb gb w D vr vo JK w') (hb:Below w'.heap.size w' w2):Left Hd lo mb gb w D vr vo JK w2:=by
 obtain⟨D',vr',vo',hg,hk2,hd2⟩:=h
 exact⟨D',vr',vo',hg.below C hb,hk2.trans (Kp.aF hb) (fun _ _ g=>g),hd2⟩
theorem Aa {v v':Value} {O:Obj} (hat:v'.ownBlock=v.ownBlock∨v'.ownBlock=some (w.alloc O).heap.size) (b:Nat) (hb:blk v' b):blk v b∨b=w.heap.size+1:=by
 unfold blk at hb ⊢
 rcases hat with e | e
 · exact .inl (by rw[<- e];exact hb)
 · right
   rw[e,World.size_alloc] at hb
   injection hb with hb
   exact hb.symm
theorem jk.WI (C:gQ lo mb Hd Ok o) {w4:World} {O:Obj} {vr':Value} {p:PM.Pr} (h:jk Hd lo mb gb w D vr vo st) (hgr:(w.alloc O).grownBy w4 vr.ownBlock) (hown:w4.ownsRow lo 70 13 vr' (st.ps.length+1) (st.ps.flatMap aI++aI p)) (hat:vr'.ownBlock=vr.ownBlock∨vr'.ownBlock=some (w.alloc O).heap.size) :
  Left Hd lo mb gb w D vr vo { st with ps:=st.ps++[p] } (w4.setCell (Ad gb 1) vr'):=by
 have s2:=hgr.size
 rw[World.size_alloc] at s2
 have hbk:=Aa hat
 have kA:Kp (blk vr) w w4:=(Kp.alloc (blk vr) w O).trans (Kp.grown hgr (fun _ e=>e)) (fun _ _ g=>g)
 have kS:Kp (fun b=>b=gb) w4 (w4.setCell (Ad gb 1) vr'):=Kp.set _ _ _ _ rfl
 have lgb:=B.isLt h.head
 have hlt:=h.lt C
 have e1:¬blk vr' gb:=fun g=>by
  rcases hbk _ g with x | x
  · exact h.n2 x
  · omega
 refine⟨D,vr',vo,⟨B.set (kA.keep h.head h.n2) 1 vr',?_,?_,?_,h.base,h.n1,e1,h.n3,?_,h.n5,?_⟩,?_,?_⟩
 · exact C.kp _ _ _ _ _ (C.kp _ _ _ _ _ h.mem kA (fun b hb g=>h.n4 b g hb)) kS (fun b hb g=>h.n1 (g ▸ hb))
 · show(w4.setCell _ _).ownsRow lo _ 13 vr' (st.ps++[p]).length ((st.ps++[p]).flatMap aI)
   rw[List.length_append,List.flatMap_append]
   exact kS.row (by simpa using hown) (fun g hg e=>e1 (e ▸ hg))
 · exact kS.row (kA.row h.outs (fun g hg e=>h.n6 g e hg)) (fun g hg e=>h.n3 (e ▸ hg))
 · intro b hb g
   rcases hbk _ hb with x | x
   · exact h.n4 b x g
   · have:=hlt b (.inr (.inl g));omega
 · intro b hb g
   rcases hbk _ hb with x | x
   · exact h.n6 b x g
   · have:=hlt b (.inr (.inr (.inr g)));omega
 · exact(kA.mono (fun b _ g=>.inr (.inr (.inl g)))).trans (kS.mono (fun b _ g=>.inl g)) (fun _ _ g=>g)
 · intro b hb
   rcases hb with g | g | g | g
   · exact .inl (.inl g)
   · exact .inl (.inr (.inl g))
   · rcases hbk _ g with x | x
     · exact .inl (.inr (.inr (.inl x)))
     · exact .inr (by omega)
   · exact .inl (.inr (.inr (.inr g)))
theorem jk.WH (C:gQ lo mb Hd Ok o) {w4:World} {O:Obj} {vo':Value} {x:FM.Wd} (h:jk Hd lo mb gb w D vr vo st) (hgr:(w.alloc O).grownBy w4 vo.ownBlock) (hown:w4.ownsRow lo 78 2 vo' (st.out.length+1) (st.out.flatMap bM++bM x)) (hat:vo'.ownBlock=vo.ownBlock∨vo'.ownBlock=some (w.alloc O).heap.size) :
  Left Hd lo mb gb w D vr vo { st with out:=st.out++[x] } (w4.setCell (Ad gb 2) vo'):=by
 have s2:=hgr.size
 rw[World.size_alloc] at s2
 have hbk:=Aa hat
 have kA:Kp (blk vo) w w4:=(Kp.alloc (blk vo) w O).trans (Kp.grown hgr (fun _ e=>e)) (fun _ _ g=>g)
 have kS:Kp (fun b=>b=gb) w4 (w4.setCell (Ad gb 2) vo'):=Kp.set _ _ _ _ rfl
 have lgb:=B.isLt h.head
 have hlt:=h.lt C
 have e1:¬blk vo' gb:=fun g=>by
  rcases hbk _ g with x | x
  · exact h.n3 x
  · omega
 refine⟨D,vr,vo',⟨B.set (kA.keep h.head h.n3) 2 vo',?_,?_,?_,h.base,h.n1,h.n2,e1,h.n4,?_,?_⟩,?_,?_⟩
 · exact C.kp _ _ _ _ _ (C.kp _ _ _ _ _ h.mem kA (fun b hb g=>h.n5 b g hb)) kS (fun b hb g=>h.n1 (g ▸ hb))
 · exact kS.row (kA.row h.procs (fun g hg e=>h.n6 g hg e)) (fun g hg e=>h.n2 (e ▸ hg))
 · show(w4.setCell _ _).ownsRow lo _ 2 vo' (st.out++[x]).length ((st.out++[x]).flatMap bM)
   rw[List.length_append,List.flatMap_append]
   exact kS.row (by simpa using hown) (fun g hg e=>e1 (e ▸ hg))
 · intro b hb g
   rcases hbk _ hb with x | x
   · exact h.n5 b x g
   · have:=hlt b (.inr (.inl g));omega
 · intro b hb g
   rcases hbk _ g with x | x
   · exact h.n6 b hb x
   · have:=hlt b (.inr (.inr (.inl hb)));omega
 · exact(kA.mono (fun b _ g=>.inr (.inr (.inr g)))).trans (kS.mono (fun b _ g=>.inl g)) (fun _ _ g=>g)
 · intro b hb
   rcases hb with g | g | g | g
   · exact .inl (.inl g)
   · exact .inl (.inr (.inl g))
   · exact .inl (.inr (.inr (.inl g)))
   · rcases hbk _ g with x | x
     · exact .inl (.inr (.inr (.inr x)))
     · exact .inr (by omega)
def eZ (ys:Nat->Prop) (Hd:World->(Nat->Prop)->σ->Prop) (lo mb gb:Nat) (w:World) (D:Nat->Prop) (vr vo:Value) (st':St σ) (w':World):Prop:=∃D' vr' vo',jk Hd lo mb gb w' D' vr' vo' st'/\Kp (kg gb D vr vo) w w'/\(∀b,kg gb D' vr' vo' b->kg gb D vr vo b∨w.heap.size<=b)/\∀b,ys b->¬kg gb D' vr' vo' b
theorem eZ.left {ys:Nat->Prop} {st':St σ} (h:eZ ys Hd lo mb gb w D vr vo st' w'):Left Hd lo mb gb w D vr vo st' w':=by
 obtain⟨D',r,v,h1,h2,h3,_⟩:=h
 exact⟨D',r,v,h1,h2,h3⟩
theorem eZ.set (C:gQ lo mb Hd Ok o) {ys:Nat->Prop} {st':St σ} (h:eZ ys Hd lo mb gb w D vr vo st' w') (a:Addr) (x:Value) (hy:ys a.block) (hw:w.heap.size<=a.block):eZ ys Hd lo mb gb w D vr vo st' (w'.setCell a x):=by
 obtain⟨D',r,v,h1,h2,h3,h4⟩:=h
 have kS:Kp (fun b=>b=a.block) w' (w'.setCell a x):=Kp.set _ _ _ _ rfl
 exact⟨D',r,v,h1.kp C kS (fun b hb e=>h4 _ hy (e ▸ hb)),h2.trans kS (fun b hb e=>by omega),h3,h4⟩
theorem eZ.more (C:gQ lo mb Hd Ok o) {ys:Nat->Prop} {w2:World} {st':St σ} (h:eZ ys Hd lo mb gb w D vr vo st' w') (hb:Below w'.heap.size w' w2):eZ ys Hd lo mb gb w D vr vo st' w2:=by
 obtain⟨D',r,v,h1,h2,h3,h4⟩:=h
 exact⟨D',r,v,h1.below C hb,h2.trans (Kp.aF hb) (fun _ _ g=>g),h3,h4⟩
theorem eZ.alloc (C:gQ lo mb Hd Ok o) {ys:Nat->Prop} {st':St σ} (h:eZ ys Hd lo mb gb w D vr vo st' w') (ob:Obj):eZ (fun b=>ys b∨b=w'.heap.size) Hd lo mb gb w D vr vo st' (w'.alloc ob):=by
 obtain⟨D',r,v,h1,h2,h3,h4⟩:=h
 have hb:Below w'.heap.size w' (w'.alloc ob):=(Below.refl _ _).alloc (Nat.le_refl _) ob
 exact⟨D',r,v,h1.below C hb,h2.trans (Kp.aF hb) (fun _ _ g=>g),h3,fun b hy g=>by
  rcases hy with e | e
  · exact h4 b e g
  · have:=h1.lt C b g;omega⟩
theorem eZ.sub {ys zs:Nat->Prop} {st':St σ} (h:eZ ys Hd lo mb gb w D vr vo st' w') (hs:∀b,zs b->ys b):eZ zs Hd lo mb gb w D vr vo st' w':=by
 obtain⟨D',r,v,h1,h2,h3,h4⟩:=h
 exact⟨D',r,v,h1,h2,h3,fun b hb=>h4 b (hs b hb)⟩
theorem eZ.behind (C:gQ lo mb Hd Ok o) {w2:World} {st':St σ} (h:jk Hd lo mb gb w D vr vo st) (hb:Below w.heap.size w w') (h2:Left Hd lo mb gb w' D vr vo st' w2):eZ (fun b=>w.heap.size<=b/\b<w'.heap.size) Hd lo mb gb w D vr vo st' w2:=by
 obtain⟨D',r,v,g1,g2,g3⟩:=h2
 have hs:=hb.size
 refine⟨D',r,v,g1,(Kp.aF hb).trans g2 (fun _ _ g=>g),fun b hb'=>?_,fun b hy g=>?_⟩
 · rcases g3 b hb' with x | x
   · exact .inl x
   · exact .inr (by omega)
 · rcases g3 b g with x | x
   · have:=h.lt C b x;omega
   · omega
theorem jk.aside (C:gQ lo mb Hd Ok o) {w2:World} {b:Nat} {ob:Obj} (h:jk Hd lo mb gb w D vr vo st) (hk:Kp (kg gb D vr vo) w' w2) (hw:w.heap.size<=b) (hb:w'.heap[b]?=some ob):w2.heap[b]?=some ob :=
 hk.keep hb (fun g=>by have:=h.lt C b g;omega)
theorem eZ.step {ys:Nat->Prop} {w2:World} {D1:Nat->Prop} {r1 o1:Value} {JK:St σ} (hys:∀b,ys b->b<w'.heap.size) (hk:Kp (kg gb D vr vo) w w') (hd:∀b,kg gb D1 r1 o1 b->kg gb D vr vo b∨w.heap.size<=b) (hn:∀b,ys b->¬kg gb D1 r1 o1 b) (h2:Left Hd lo mb gb w' D1 r1 o1 JK w2):eZ ys Hd lo mb gb w D vr vo JK w2:=by
 obtain⟨D',vr',vo',hg,hk2,hd2⟩:=h2
 have hs:=hk.size
 refine⟨D',vr',vo',hg,hk.trans hk2 (fun b hb g=>?_),fun b hb=>?_,fun b hy g=>?_⟩
 · rcases hd b g with x | x
   · exact x
   · omega
 · rcases hd2 b hb with x | x
   · exact hd b x
   · exact .inr (by omega)
 · rcases hd2 b g with x | x
   · exact hn b hy x
   · have:=hys b hy;omega
theorem Left.keep {w2:World} {JK:St σ} {b:Nat} {ob:Obj} (h2:Left Hd lo mb gb w D vr vo JK w2) (hb:w.heap[b]?=some ob) (hn:¬kg gb D vr vo b):w2.heap[b]?=some ob:=by
 obtain⟨_,_,_,_,hk2,_⟩:=h2
 exact hk2.keep hb hn
theorem jk.proc (h:jk Hd lo mb gb w D vr vo st) (k:Nat) (hk:k<st.ps.length):∃pb cap,vr=.slice (some (Ad pb 0)) st.ps.length cap/\pb<w.heap.size/\(∀j,j<13->w.cell? (Ad pb (k*13+j))=(aI (FM.au st.ps k))[j]?)/\∀j,w.frozen? (Ad pb j)=false:=by
 obtain⟨ao,cap,e,_,hg⟩:=aJ h.procs
 obtain⟨pb,rfl,_,hlt⟩:=hg (by omega)
 have hr:=h.procs
 rw[e] at hr
 exact⟨pb,cap,e,hlt,fun j hj=>cZ aI bc FM.vS hr k j hk hj,fun j=>gi hr j⟩
end
end GW
end Go.Proofs.YtkdigjpejnebkaaGreat
