import Derived.Test.YtpgifpeohlllfaaGreatGT25
set_option maxHeartbeats 20000000
set_option linter.unusedVariables false
set_option maxRecDepth 100000
set_option linter.unusedSimpArgs false
namespace Go.Proofs.YtpgifpeohlllfaaGreat
namespace FW
open Go.RowKit
def Dk (x:Int×Int):Array Value:=#[I x.1,I x.2]
theorem iz {N g:Nat} {w W:World} (h:Below N w W) (hg:N<=g) (v0 v1:Value):Below N w ((W.setCell (Ad g 0) v0).setCell (Ad g 1) v1):=(h.setCell (p:=(Ad g 0)) hg v0).setCell (p:=(Ad g 1)) hg v1
theorem Oe (l:List AM.Ar) (v:Value) (a size way:Int) (w:World) (h:AW.Has w v l) (hf:AW.ft l) (ha:-9223372036854775808<=a/\a<=9223372036854775807) (hz:size<=9223372036854775807) :
  Calls Tryz.prog 96 #[v,I a,I size,I way] w fun e w'=>e=.returned (.agg (Dk (FM.fO l a size way)))/\Below w.heap.size w w':=by
 have um:=ai (fun p V (hV:AW.Has V v l)=>AW.qm l v p V hV hf);have HH:=ai h;have bR:=ai ((Below.refl w.heap.size w).alloc (Nat.le_refl _) (.cells #[I 0,I 0] 36));have X0:=ai (B.new w #[I 0,I 0] 36);have HF:Hid (FM.fO l a size way=if way=2/\¬a%8=0 then (3,a) else FM.fq l a way size.toNat):=rfl;obtain⟨⟨R1,R2⟩,hR⟩:∃R,R=FM.fO l a size way:=⟨_,rfl⟩;rw[<- hR] at HF ⊢;clear hR h hf;unfold Dk;simp only;obtain⟨ao,vn,cap,rfl⟩:∃ao n cap,v=.slice ao n cap:=by
  obtain⟨ao,cap,h,_⟩:=HH.o;exact⟨ao,_,cap,h⟩
 have Zp:a.tmod 8=0↔a%8=0:=by rw[Int.tmod_eq_emod];split <;> omega
 by_cases hal:way=2/\¬a%8=0
 · have HR:Hid ((R1,R2)=(3,a)):=by show _=_;rw[HF.o,if_pos hal]
   obtain⟨rfl,hal⟩:=hal;have h8:(a.tmod 8==0)=false:=by rw[beq_eq_false_iff_ne];exact fun g=>hal (Zp.1 g)
   clear Zp hal;go_enter Tryz.func96,Tryz.ntmps96;go_wp2;exact bodyPost_ret (v:=.agg #[I 3,I a]) (by simp[results,Tryz.results96,go_sem]) rfl ⟨by rw[(Prod.mk.inj HR.o).1,(Prod.mk.inj HR.o).2],(Below.refl w.heap.size w).alloc (Nat.le_refl _) _⟩
 · have HR:Hid ((R1,R2)=FM.fq l a way size.toNat):=by show _=_;rw[HF.o,if_neg hal]
   clear HF;by_cases c:way=2
   · subst c;have h8:a.tmod 8=0:=Zp.2 (Classical.not_not.1 (fun g=>hal ⟨rfl,g⟩));clear Zp hal;go_enter Tryz.func96,Tryz.ntmps96;go_wp2_with fail
     go_loopw [23] (fun iv wr=>∃k:Nat,k<=size.toNat/\iv=I (k:Int)/\FM.fq l a 2 k=(0,0)/\wr.heap[w.heap.size]?=some (.cells #[I 0,I 0] 36 (0,0))/\Below w.heap.size w wr) (fun iv _=>size.toNat-(intOf iv).toNat)
     case atStart=>exact⟨0,by omega,rfl,rfl,X0.o,bR.o⟩
     case round =>
      obtain⟨k,hk,rfl,lj,hx,hb⟩:=hrel;have HN:=ai lj;have HX:=ai hx;have HB:=ai hb;clear lj hx hb X0 bR;by_cases hlt:(k:Int)<size
      · have hsm:-9223372036854775808<=a+k/\a+k<=9223372036854775807:=by
         cases k with
         | zero=>omega
         | succ j =>
          have:=FM.nV HN.o;omega
        have HST:=ai (FM.mW HN.o);have s9:Hid (∀f:Int×Int,FM.fq l a 2 (k+1)=f->¬f.1=0->(R1,R2)=f):=fun f h1 h2=>HR.o.trans (FM.pk h1 h2 _ (by omega))
        have pG:=ai (fun V hV=>um.o ((a+k).tdiv 16) V hV);have HQ:Hid (0<=a+k->(a+k).tdiv 16=(a+k)/16):=fun h=>Int.tdiv_eq_ediv_of_nonneg h
        obtain⟨⟨⟨pp,pn,pt,pz⟩,ok⟩,hF⟩:∃F,F=AM.aR l ((a+k).tdiv 16):=⟨_,rfl⟩;have D3:=ai hF;rw[<- hF] at pG;have Jb:Hid (∀V,AW.Has V (.slice ao vn cap) l->Calls Tryz.prog 70 #[.slice ao vn cap,I ((a+k).tdiv 16)] V fun e w'=>e=.returned (.tuple #[.agg #[I pp,I pn,I pt,.bool pz],.bool ok])/\Below V.heap.size V w'):=pG;clear hF pG;have MM:Hid ((a+k<0->FM.jN l (a+k) 2=(1,a+k))/\(0<=a+k->ok=false->FM.jN l (a+k) 2=(1,a+k))/\(0<=a+k->ok=true->0<=pt/\pt<=3/\(FM.iQ pt 2=true->FM.jN l (a+k) 2=(2,a+k))/\(FM.iQ pt 2=false->FM.jN l (a+k) 2=(0,0)))):=by
         refine⟨fun h=>FM.uh (.inl h),fun h h2=>?_,fun h h2=>?_⟩
         · refine FM.uh (.inr ?_);rw[<- HQ.o h,<- D3.o];exact h2
         · have e1:=D3.o;rw[HQ.o h] at e1;have h3:(AM.aR l ((a+k)/16)).2=true:=by rw[<- e1];exact h2
           have h4:=FM.kO (FM.lN h3) h3;have e2:(AM.aR l ((a+k)/16)).1.bV=pt:=by rw[<- e1]
           rw[e2] at h4;exact⟨h4.2.2.1,h4.2.2.2,fun h5=>FM.zS h h3 (by rw[e2];exact h5),fun h5=>FM.J4 h h3 (by rw[e2];exact h5)⟩
        clear D3;by_cases hneg:a+k<0
        · have sY:=ai (s9.o _ (HST.o.trans (MM.o.1 hneg)) (by simp));clear MM s9 HST;go_wp2_with (go_at_call 70;refine(Jb.o _ (HH.o.below HB.o)).mono ?_;rintro e w1 ⟨rfl,hb1⟩;have bE:=ai (aD HB.o hb1);have X1:=ai (B.below HX.o hb1 (B.isLt HX.o));clear hb1;have DI:=B.isLt X1.o;have hne:¬w.heap.size=w1.heap.size:=(by omega);obtain⟨x0,x1⟩:=B.c2 X1.o;have f0:∀k,w1.frozen? (Ad w.heap.size k)=false:=fun k=>B.free X1.o k)
          exact bodyPost_ret (v:=.agg #[I 1,I (a+k)]) (by simp[results,Tryz.results96,go_sem,x0,x1,DI]) rfl ⟨by rw[(Prod.mk.inj sY.o).1,(Prod.mk.inj sY.o).2],(iz bE.o (Nat.le_refl _) _ _).alloc (by simp;omega) _⟩
        · have hnn:0<=a+k:=by omega
          have Ja:=Jb;rw[HQ.o hnn] at Ja;clear hneg Jb HQ;cases ok with
          | false =>
           have sY:=ai (s9.o _ (HST.o.trans (MM.o.2.1 (by omega) rfl)) (by simp));clear MM s9 HST;go_wp2_with (go_at_call 70;refine(Ja.o _ (HH.o.below HB.o)).mono ?_;rintro e w1 ⟨rfl,hb1⟩;have bE:=ai (aD HB.o hb1);have X1:=ai (B.below HX.o hb1 (B.isLt HX.o));clear hb1;have DI:=B.isLt X1.o;have hne:¬w.heap.size=w1.heap.size:=(by omega);obtain⟨x0,x1⟩:=B.c2 X1.o;have f0:∀k,w1.frozen? (Ad w.heap.size k)=false:=fun k=>B.free X1.o k)
           exact bodyPost_ret (v:=.agg #[I 1,I (a+k)]) (by simp[results,Tryz.results96,go_sem,x0,x1,DI]) rfl ⟨by rw[(Prod.mk.inj sY.o).1,(Prod.mk.inj sY.o).2],(iz bE.o (Nat.le_refl _) _ _).alloc (by simp;omega) _⟩
          | true =>
           have hpt:=MM.o.2.2 hnn rfl;have Ia:=yA pt 2 hpt.1 hpt.2.1;have DD:=ai hpt.2.2;have sZ:Hid (∀V,Calls Tryz.prog 140 #[I 2] V fun e w'=>e=.returned (I (oW 2))/\Below V.heap.size V w'):=fun V=>(Bk 2 V).mono fun e w' ⟨h1,h2⟩=>⟨h1,by rw[<- h2];exact Below.refl _ _⟩
           clear hpt MM;obtain⟨RN,hRN⟩:=ex (oW 2);rw[<- hRN] at Ia sZ;clear hRN;go_wp2_with (go_at_call 70;refine(Ja.o _ (HH.o.below HB.o)).mono ?_;rintro e w1 ⟨rfl,hb1⟩;have bE:=ai (aD HB.o hb1);have X1:=ai (B.below HX.o hb1 (B.isLt HX.o));clear hb1;have DI:=B.isLt X1.o)
           obtain⟨W,hW⟩:=ex (w1.alloc (.cells #[I pp,I pn,I pt,.bool pz] 47));have HW:=ai hW;have hs:W.heap.size=w1.heap.size+1:=by rw[hW];simp
           have j3:=Q.dE W;have hkc:=@Q.cV W;have c2:∀x:Q.ez W.heap.size W,x.world.cell? (Ad w1.heap.size 2)=some (I pt):=fun x=>by rw[hkc x _ _ (by omega),hW];simp
           have DC:Hid (Below w.heap.size w W):=by show Below _ _ _;rw[hW];exact bE.o.alloc bE.o.size _
           have XW:Hid (W.heap[w.heap.size]?=some (.cells #[I 0,I 0] 36 (0,0))):=by show _=_;rw[hW];exact B.alloc X1.o _
           clear hW hs hkc;rw[<- HW.o];cases AH:FM.iQ pt 2 with
           | true =>
            rw[AH] at Ia;have WN:(bits BinOp.and IntKind.i64 pt RN==RN)=false:=Ia;have sY:=ai (s9.o _ (HST.o.trans (DD.o.1 AH)) (by simp));clear s9 HST DD Ia AH;refine Q.bu (by kernel_rfl) (by kernel_rfl) ?_
            repeat (first | go_big_quiet_step ((go_at_call 140;exact Q.bM sZ.o _)) | quiet_step ((go_at_call 140;exact Q.bM sZ.o _)))
            refine wpQuiet_nil ?_;intro _ hw';obtain⟨x,hw''⟩:=hw';subst hw'';have cM:=ai (aD DC.o x.keeps);have X2:=ai (B.below XW.o x.keeps (B.isLt XW.o));obtain⟨w2,ze⟩:=ex x.world;rw[<- ze] at cM X2 ⊢;clear ze c2;obtain⟨x0,x1⟩:=B.c2 X2.o;have f0:∀k,w2.frozen? (Ad w.heap.size k)=false:=fun k=>B.free X2.o k
            go_wp2;exact bodyPost_ret (v:=.agg #[I 2,I (a+k)]) (by simp[results,Tryz.results96,go_sem,x0,x1]) rfl ⟨by rw[(Prod.mk.inj sY.o).1,(Prod.mk.inj sY.o).2],iz cM.o (Nat.le_refl _) _ _⟩
           | false =>
            rw[AH] at Ia;have WN:(bits BinOp.and IntKind.i64 pt RN==RN)=true:=Ia;have ju:=ai (HST.o.trans (DD.o.2 AH));clear s9 HST DD Ia AH;refine Q.bu (by kernel_rfl) (by kernel_rfl) ?_
            repeat (first | go_big_quiet_step ((go_at_call 140;exact Q.bM sZ.o _)) | quiet_step ((go_at_call 140;exact Q.bM sZ.o _)))
            refine wpQuiet_nil ?_;intro _ hw';obtain⟨x,hw''⟩:=hw';subst hw'';have cM:=ai (aD DC.o x.keeps);have X2:=ai (B.below XW.o x.keeps (B.isLt XW.o));obtain⟨w2,ze⟩:=ex x.world;rw[<- ze] at cM X2 ⊢;clear ze c2;go_wp2;go_roundw
            case rel=>exact⟨k+1,by omega,by go_num,ju.o,X2.o,cM.o⟩
            case measure=>simp[intOf];omega
      · have ZP:k=size.toNat:=by omega
        have sY:Hid ((R1,R2)=(0,0)):=by show _=_;rw[HR.o,<- ZP];exact HN.o
        obtain⟨x0,x1⟩:=B.c2 HX.o;have f0:∀k,wr.frozen? (Ad w.heap.size k)=false:=fun k=>B.free HX.o k
        clear ZP;go_wp2;exact bodyPost_ret (v:=.agg #[I 0,I 0]) (by simp[results,Tryz.results96,go_sem,x0,x1]) rfl ⟨by rw[(Prod.mk.inj sY.o).1,(Prod.mk.inj sY.o).2],iz HB.o (Nat.le_refl _) _ _⟩
   · have hw2:(way==2)=false:=by rw[beq_eq_false_iff_ne];exact c
     clear Zp hal c;go_enter Tryz.func96,Tryz.ntmps96;go_wp2_with fail
     go_loopw [23] (fun iv wr=>∃k:Nat,k<=size.toNat/\iv=I (k:Int)/\FM.fq l a way k=(0,0)/\wr.heap[w.heap.size]?=some (.cells #[I 0,I 0] 36 (0,0))/\Below w.heap.size w wr) (fun iv _=>size.toNat-(intOf iv).toNat)
     case atStart=>exact⟨0,by omega,rfl,rfl,X0.o,bR.o⟩
     case round =>
      obtain⟨k,hk,rfl,lj,hx,hb⟩:=hrel;have HN:=ai lj;have HX:=ai hx;have HB:=ai hb;clear lj hx hb X0 bR;by_cases hlt:(k:Int)<size
      · have hsm:-9223372036854775808<=a+k/\a+k<=9223372036854775807:=by
         cases k with
         | zero=>omega
         | succ j =>
          have:=FM.nV HN.o;omega
        have HST:=ai (FM.mW HN.o);have s9:Hid (∀f:Int×Int,FM.fq l a way (k+1)=f->¬f.1=0->(R1,R2)=f):=fun f h1 h2=>HR.o.trans (FM.pk h1 h2 _ (by omega))
        have pG:=ai (fun V hV=>um.o ((a+k).tdiv 16) V hV);have HQ:Hid (0<=a+k->(a+k).tdiv 16=(a+k)/16):=fun h=>Int.tdiv_eq_ediv_of_nonneg h
        obtain⟨⟨⟨pp,pn,pt,pz⟩,ok⟩,hF⟩:∃F,F=AM.aR l ((a+k).tdiv 16):=⟨_,rfl⟩;have D3:=ai hF;rw[<- hF] at pG;have Jb:Hid (∀V,AW.Has V (.slice ao vn cap) l->Calls Tryz.prog 70 #[.slice ao vn cap,I ((a+k).tdiv 16)] V fun e w'=>e=.returned (.tuple #[.agg #[I pp,I pn,I pt,.bool pz],.bool ok])/\Below V.heap.size V w'):=pG;clear hF pG;have MM:Hid ((a+k<0->FM.jN l (a+k) way=(1,a+k))/\(0<=a+k->ok=false->FM.jN l (a+k) way=(1,a+k))/\(0<=a+k->ok=true->0<=pt/\pt<=3/\(FM.iQ pt way=true->FM.jN l (a+k) way=(2,a+k))/\(FM.iQ pt way=false->FM.jN l (a+k) way=(0,0)))):=by
         refine⟨fun h=>FM.uh (.inl h),fun h h2=>?_,fun h h2=>?_⟩
         · refine FM.uh (.inr ?_);rw[<- HQ.o h,<- D3.o];exact h2
         · have e1:=D3.o;rw[HQ.o h] at e1;have h3:(AM.aR l ((a+k)/16)).2=true:=by rw[<- e1];exact h2
           have h4:=FM.kO (FM.lN h3) h3;have e2:(AM.aR l ((a+k)/16)).1.bV=pt:=by rw[<- e1]
           rw[e2] at h4;exact⟨h4.2.2.1,h4.2.2.2,fun h5=>FM.zS h h3 (by rw[e2];exact h5),fun h5=>FM.J4 h h3 (by rw[e2];exact h5)⟩
        clear D3;by_cases hneg:a+k<0
        · have sY:=ai (s9.o _ (HST.o.trans (MM.o.1 hneg)) (by simp));clear MM s9 HST;go_wp2_with (go_at_call 70;refine(Jb.o _ (HH.o.below HB.o)).mono ?_;rintro e w1 ⟨rfl,hb1⟩;have bE:=ai (aD HB.o hb1);have X1:=ai (B.below HX.o hb1 (B.isLt HX.o));clear hb1;have DI:=B.isLt X1.o;have hne:¬w.heap.size=w1.heap.size:=(by omega);obtain⟨x0,x1⟩:=B.c2 X1.o;have f0:∀k,w1.frozen? (Ad w.heap.size k)=false:=fun k=>B.free X1.o k)
          exact bodyPost_ret (v:=.agg #[I 1,I (a+k)]) (by simp[results,Tryz.results96,go_sem,x0,x1,DI]) rfl ⟨by rw[(Prod.mk.inj sY.o).1,(Prod.mk.inj sY.o).2],(iz bE.o (Nat.le_refl _) _ _).alloc (by simp;omega) _⟩
        · have hnn:0<=a+k:=by omega
          have Ja:=Jb;rw[HQ.o hnn] at Ja;clear hneg Jb HQ;cases ok with
          | false =>
           have sY:=ai (s9.o _ (HST.o.trans (MM.o.2.1 (by omega) rfl)) (by simp));clear MM s9 HST;go_wp2_with (go_at_call 70;refine(Ja.o _ (HH.o.below HB.o)).mono ?_;rintro e w1 ⟨rfl,hb1⟩;have bE:=ai (aD HB.o hb1);have X1:=ai (B.below HX.o hb1 (B.isLt HX.o));clear hb1;have DI:=B.isLt X1.o;have hne:¬w.heap.size=w1.heap.size:=(by omega);obtain⟨x0,x1⟩:=B.c2 X1.o;have f0:∀k,w1.frozen? (Ad w.heap.size k)=false:=fun k=>B.free X1.o k)
           exact bodyPost_ret (v:=.agg #[I 1,I (a+k)]) (by simp[results,Tryz.results96,go_sem,x0,x1,DI]) rfl ⟨by rw[(Prod.mk.inj sY.o).1,(Prod.mk.inj sY.o).2],(iz bE.o (Nat.le_refl _) _ _).alloc (by simp;omega) _⟩
          | true =>
           have hpt:=MM.o.2.2 hnn rfl;have Ia:=yA pt way hpt.1 hpt.2.1;have DD:=ai hpt.2.2;have sZ:Hid (∀V,Calls Tryz.prog 140 #[I way] V fun e w'=>e=.returned (I (oW way))/\Below V.heap.size V w'):=fun V=>(Bk way V).mono fun e w' ⟨h1,h2⟩=>⟨h1,by rw[<- h2];exact Below.refl _ _⟩
           clear hpt MM;obtain⟨RN,hRN⟩:=ex (oW way);rw[<- hRN] at Ia sZ;clear hRN;go_wp2_with (go_at_call 70;refine(Ja.o _ (HH.o.below HB.o)).mono ?_;rintro e w1 ⟨rfl,hb1⟩;have bE:=ai (aD HB.o hb1);have X1:=ai (B.below HX.o hb1 (B.isLt HX.o));clear hb1;have DI:=B.isLt X1.o)
           obtain⟨W,hW⟩:=ex (w1.alloc (.cells #[I pp,I pn,I pt,.bool pz] 47));have HW:=ai hW;have hs:W.heap.size=w1.heap.size+1:=by rw[hW];simp
           have j3:=Q.dE W;have hkc:=@Q.cV W;have c2:∀x:Q.ez W.heap.size W,x.world.cell? (Ad w1.heap.size 2)=some (I pt):=fun x=>by rw[hkc x _ _ (by omega),hW];simp
           have DC:Hid (Below w.heap.size w W):=by show Below _ _ _;rw[hW];exact bE.o.alloc bE.o.size _
           have XW:Hid (W.heap[w.heap.size]?=some (.cells #[I 0,I 0] 36 (0,0))):=by show _=_;rw[hW];exact B.alloc X1.o _
           clear hW hs hkc;rw[<- HW.o];cases AH:FM.iQ pt way with
           | true =>
            rw[AH] at Ia;have WN:(bits BinOp.and IntKind.i64 pt RN==RN)=false:=Ia;have sY:=ai (s9.o _ (HST.o.trans (DD.o.1 AH)) (by simp));clear s9 HST DD Ia AH;refine Q.bu (by kernel_rfl) (by kernel_rfl) ?_
            repeat (first | go_big_quiet_step ((go_at_call 140;exact Q.bM sZ.o _)) | quiet_step ((go_at_call 140;exact Q.bM sZ.o _)))
            refine wpQuiet_nil ?_;intro _ hw';obtain⟨x,hw''⟩:=hw';subst hw'';have cM:=ai (aD DC.o x.keeps);have X2:=ai (B.below XW.o x.keeps (B.isLt XW.o));obtain⟨w2,ze⟩:=ex x.world;rw[<- ze] at cM X2 ⊢;clear ze c2;obtain⟨x0,x1⟩:=B.c2 X2.o;have f0:∀k,w2.frozen? (Ad w.heap.size k)=false:=fun k=>B.free X2.o k
            go_wp2;exact bodyPost_ret (v:=.agg #[I 2,I (a+k)]) (by simp[results,Tryz.results96,go_sem,x0,x1]) rfl ⟨by rw[(Prod.mk.inj sY.o).1,(Prod.mk.inj sY.o).2],iz cM.o (Nat.le_refl _) _ _⟩
           | false =>
            rw[AH] at Ia;have WN:(bits BinOp.and IntKind.i64 pt RN==RN)=true:=Ia;have ju:=ai (HST.o.trans (DD.o.2 AH));clear s9 HST DD Ia AH;refine Q.bu (by kernel_rfl) (by kernel_rfl) ?_
            repeat (first | go_big_quiet_step ((go_at_call 140;exact Q.bM sZ.o _)) | quiet_step ((go_at_call 140;exact Q.bM sZ.o _)))
            refine wpQuiet_nil ?_;intro _ hw';obtain⟨x,hw''⟩:=hw';subst hw'';have cM:=ai (aD DC.o x.keeps);have X2:=ai (B.below XW.o x.keeps (B.isLt XW.o));obtain⟨w2,ze⟩:=ex x.world;rw[<- ze] at cM X2 ⊢;clear ze c2;go_wp2;go_roundw
            case rel=>exact⟨k+1,by omega,by go_num,ju.o,X2.o,cM.o⟩
            case measure=>simp[intOf];omega
      · have ZP:k=size.toNat:=by omega
        have sY:Hid ((R1,R2)=(0,0)):=by show _=_;rw[HR.o,<- ZP];exact HN.o
        obtain⟨x0,x1⟩:=B.c2 HX.o;have f0:∀k,wr.frozen? (Ad w.heap.size k)=false:=fun k=>B.free HX.o k
        clear ZP;go_wp2;exact bodyPost_ret (v:=.agg #[I 0,I 0]) (by simp[results,Tryz.results96,go_sem,x0,x1]) rfl ⟨by rw[(Prod.mk.inj sY.o).1,(Prod.mk.inj sY.o).2],iz HB.o (Nat.le_refl _) _ _⟩
end FW
namespace KX
open Go.RowKit GK KO
open FW (ai aD)
open KW (bJ bI aK aZ fh cK aI dA bU dX)
open KS (Lc bw kM cD blk cJ)
theorem sM {l:List AM.Ar} {a n way:Int} (h1:1<=n) (h8:n<=8) (h:(FM.fO l a n way).1=0):FM.fO l a n way=(0,0)/\16<=a/\a+n<=4096/\∀i,0<=i->i<n->(AM.aR l ((a+i)/16)).2=true:=by
 have hb:FM.fO l a n way=FM.fq l a way n.toNat:=by
  unfold FM.fO at h ⊢;by_cases c:way=2/\¬a%8=0
  · rw[if_pos c] at h;cases h
  · rw[if_neg c]
 rw[hb] at h ⊢;have all:∀m:Nat,(FM.fq l a way m).1=0->FM.fq l a way m=(0,0)/\∀i:Nat,i<m->(FM.jN l (a+i) way).1=0:=fun m=>by
  induction m with
  | zero=>intro _;exact⟨rfl,fun i hi=>by omega⟩
  | succ m ih =>
   intro hm;have h0:(FM.fq l a way m).1=0:=by
    by_cases c:(FM.fq l a way m).1=0
    · exact c
    · rw[FM.fq,if_neg c] at hm;exact hm
   obtain⟨e,hi⟩:=ih h0;rw[FM.mW e] at hm ⊢;refine⟨(FM.oM hm).1,fun i hlt=>?_⟩;by_cases c:i=m
   · subst c;exact hm
   · exact hi i (by omega)
 obtain⟨e,hi⟩:=all n.toNat h;obtain⟨m,hm⟩:∃m,n.toNat=m+1:=⟨n.toNat-1,by omega⟩;have hs:=FM.nV (l:=l) (a:=a) (way:=way) (k:=m) (by rw[<- hm];exact e);refine⟨e,hs.1,by omega,fun i h0 hn=>?_⟩;have:=hi i.toNat (by omega);rw[show a+(i.toNat:Int)=a+i by omega] at this;exact(FM.oM this).2.2.1
theorem vQ {lo mb:Nat} {tt:TypeId} {X:List Value} (k:KM.Kn) (S:St) (w:World) (j:Nat) (a n way:Int) (h:Km lo mb tt X w S k) (hR:KM.aQ k) (hj:j<k.aj.length) (ha:M.gu a) (hn:1<=n/\n<=8) (hf:(FM.fO (KM.au k.aj j).aB a n way).1≠0) :
  Calls Tryz.prog 52 #[.pointer (some (Ad mb 0)),I (j:Int),I a,I n,I way] w fun e w'=>e=.returned (.tuple #[Nl,.agg #[I (FM.fO (KM.au k.aj j).aB a n way).1,I (FM.fO (KM.au k.aj j).aB a n way).2]])/\Below w.heap.size w w':=by
 have hcc:=hR.c;obtain⟨pb,cP,A⟩:=h.toKr.sp (by omega);have c3:=h.c3;rw[A.v] at c3;have a1:=A.x1 j hj;have hfit:AW.ft (KM.au k.aj j).aB:=AM.gU _ (hR.sp hj).aB;have om:=ai (fun V (hb:Below w.heap.size w V)=>FW.Oe _ _ a n way V (AW.Has.below (h.toKr.aB hj) hb) hfit ha (by omega));obtain⟨ax,cx,sI,_,_⟩:=aN (h.each j hj).aB;rw[sI] at om a1;have DJ:(j:Int)<(k.aj.length:Int):=by omega
 have oJ:=h.lt;have hpl:=A.lt;unfold FW.Dk at om;obtain⟨F,hF⟩:=ex (FM.fO (KM.au k.aj j).aB a n way);rw[<- hF] at om hf ⊢;obtain⟨f0,f1⟩:=F;simp only at om hf ⊢;have fb:(f0 != 0)=true:=by simpa using hf
 have bR:=ai ((Below.refl w.heap.size w).alloc (Nat.le_refl _) (.cells #[I 0,I 0] 36));have R0:=ai (B.new w #[I 0,I 0] 36);have d3:=(bR.o.cell (p:=(Ad mb 3)) oJ).trans c3;have d1:=(bR.o.cell (p:=(Ad pb (j*3+1))) hpl).trans a1;obtain⟨np,rH⟩:=ex k.aj.length;rw[<- rH] at d3 DJ;obtain⟨na,nZ⟩:=ex ((KM.au k.aj j).aB.length);rw[<- nZ] at d1 om;clear h hR hj A c3 a1 hfit sI hF hf hcc rH nZ ha hn;go_enter Tryz.func52,Tryz.ntmps52;go_upto_region 3 with(go_at_call 96;refine(om.o _ bR.o).mono ?_;rintro e w1 ⟨rfl,hb1⟩;have bE:=ai (aD bR.o hb1);have R1:=ai (B.below R0.o hb1 (B.isLt R0.o));have FX:=ai (B.new w1 #[I f0,I f1] 36);obtain⟨y0,y1⟩:=B.c2 FX.o;clear hb1)
 have cQ:=ai (bE.o.alloc bE.o.size (.cells #[I f0,I f1] 36));have DI:=B.isLt R1.o;have R2:=ai (B.alloc R1.o (.cells #[I f0,I f1] 36));obtain⟨z0,z1⟩:=B.c2 R2.o;have q0:=B.free R2.o 0;have q1:=B.free R2.o 1;have hne:¬w.heap.size=w1.heap.size:=by omega
 obtain⟨W,hW⟩:=ex (w1.alloc (.cells #[I f0,I f1] 36));rw[<- hW] at cQ R2 z0 z1 q0 q1 y0 y1 ⊢;clear hW;go_region;go_wp2;have R3:((W.setCell (Ad w.heap.size 0) (I f0)).setCell (Ad w.heap.size 1) (I f1)).heap[w.heap.size]?=some (.cells #[I f0,I f1] 36 (0,0)):=B.set (B.set R2.o 0 _) 1 _;obtain⟨v0,v1⟩:=B.c2 R3;refine bodyPost_ret (v:=.tuple #[Nl,.agg #[I f0,I f1]]) (by simp[results,Tryz.results52,go_sem,v0,v1]) rfl ?_;exact⟨rfl,by first | exact((cQ.o.setCell (p:=(Ad w.heap.size 0)) (Nat.le_refl _) _).setCell (p:=(Ad w.heap.size 1)) (Nat.le_refl _) _).drew | exact(cQ.o.setCell (p:=(Ad w.heap.size 0)) (Nat.le_refl _) _).setCell (p:=(Ad w.heap.size 1)) (Nat.le_refl _) _⟩
def Ao (k:KM.Kn) (j:Nat) (a n way:Int):Nat->KM.Kn
 | 0=>k
 | 1=>(KM.dz k j a way).2
 | _=>(KM.iO k j a n way).2
def Ag (k:KM.Kn) (j:Nat) (a n way:Int):Nat->List Int
 | 0=>[]
 | 1=>[((KM.dz k j a way).1:Int)]
 | _=>[((KM.dz k j a way).1:Int),((KM.iO k j a n way).1:Int)]
def ids (l:List Nat):List Int:=l.map fun x:Nat=>(x:Int)
def rp (a n:Int):Nat:=if KM.cA a n=a/16 then 1 else 2
theorem tA (k:KM.Kn) (j:Nat) (a n way:Int):KM.aO k j a n way=((KM.aO k j a n way).1,Ao k j a n way (rp a n))/\ids (KM.aO k j a n way).1=Ag k j a n way (rp a n)/\(KM.aO k j a n way).1.length=rp a n:=by
 unfold KM.aO rp;by_cases c:KM.cA a n=a/16
 · rw[if_pos c,if_pos c];exact⟨rfl,rfl,rfl⟩
 · rw[if_neg c,if_neg c];exact⟨rfl,rfl,rfl⟩
theorem st0 (k:KM.Kn) (j:Nat) (a n way:Int):Ao k j a n way 0=k:=rfl
theorem st1 (k:KM.Kn) (j:Nat) (a n way:Int):Ao k j a n way 1=(KM.cI k j (a/16) way []).2:=by unfold Ao KM.dz;rfl
theorem st2 (k:KM.Kn) (j:Nat) (a n way:Int):Ao k j a n way 2=(KM.cI (KM.cI k j (a/16) way []).2 j (KM.cA a n) way [((KM.cI k j (a/16) way []).1:Int)]).2:=by unfold Ao KM.iO KM.dz;rfl
theorem id0 (k:KM.Kn) (j:Nat) (a n way:Int):Ag k j a n way 0=[]:=rfl
theorem id1 (k:KM.Kn) (j:Nat) (a n way:Int):Ag k j a n way 1=[((KM.cI k j (a/16) way []).1:Int)]:=by unfold Ag KM.dz;rfl
theorem id2 (k:KM.Kn) (j:Nat) (a n way:Int):Ag k j a n way 2=[((KM.cI k j (a/16) way []).1:Int)]++[((KM.cI (KM.cI k j (a/16) way []).2 j (KM.cA a n) way [((KM.cI k j (a/16) way []).1:Int)]).1:Int)]:=by unfold Ag KM.iO KM.dz;rfl
theorem Ch.local {S S':St} {w w2 w3:World} {D:Nat->Prop} (h:Ch S w S' w2) (k:Kp D w2 w3) (hd:∀b,D b->w.heap.size<=b):Ch S w S' w3:=⟨⟨k.os.trans h.kp.os,k.tape.trans h.kp.tape,k.output.trans h.kp.output,Nat.le_trans h.kp.size k.size,fun b hb hn=>(k.block b (Nat.lt_of_lt_of_le hb h.kp.size) (fun g=>by have:=hd b g;omega)).trans (h.kp.block b hb hn)⟩,h.no,h.eS,h.eF,h.eL,h.eP⟩
theorem O4 (k:KM.Kn) (j:Nat) (a n way:Int) (m:Nat) (hm:m<=2):(Ag k j a n way m).length=m:=by
 rcases(show m=0∨m=1∨m=2 by omega) with rfl | rfl | rfl <;> rfl
theorem yF {lo mb:Nat} {tt:TypeId} {X:List Value} (k:KM.Kn) (S:St) (w:World) (j:Nat) (a n way:Int) (h:Km lo mb tt X w S k) (hR:KM.aQ k) (hj:j<k.aj.length) (ha:M.gu a) (hn:1<=n/\n<=8) (hf:(FM.fO (KM.au k.aj j).aB a n way).1=0) (hX:vB X k.ak) :
  Calls Tryz.prog 52 #[.pointer (some (Ad mb 0)),I (j:Int),I a,I n,I way] w fun e w'=>∃av cv S',e=.returned (.tuple #[.slice av (KM.aO k j a n way).1.length cv,.agg #[I 0,I 0]])/\Held w' S' av (ids (KM.aO k j a n way).1)/\Km lo mb tt X w' S' (KM.aO k j a n way).2/\Ch S w S' w':=by
 have hcc:=hR.c;obtain⟨Vn,hal,hau,hmap⟩:=sM hn.1 hn.2 hf;have jP:KM.mapped k j (a/16):=by
  have:=hmap 0 (by omega) (by omega);rw[Int.add_zero] at this;exact this
 have hm2:KM.mapped k j (KM.cA a n):=by
  have:=hmap (n-1) (by omega) (by omega);unfold KM.cA;rw[show a+n-1=a+(n-1) by omega];exact this
 have hlast:KM.cA a n=a/16+((rp a n:Nat):Int)-1:=by
  unfold rp;have:=KM.G1 (a:=a) hn.1 hn.2;by_cases c:KM.cA a n=a/16
  · rw[if_pos c];omega
  · rw[if_neg c];omega
 have hp2:rp a n=1∨rp a n=2:=by unfold rp;split <;> omega
 have A1:=(KM.kT hR hj jP way (held:=[]) (by simp)).1;obtain⟨hr1,hr2,hr3⟩:=tA k j a n way;have hpw:∀m,m<rp a n->KM.aQ (Ao k j a n way m)/\j<(Ao k j a n way m).aj.length/\KM.mapped (Ao k j a n way m) j (a/16+(m:Int))/\(Ao k j a n way m).ak=k.ak/\(KM.cI (Ao k j a n way m) j (a/16+(m:Int)) way (Ag k j a n way m)).2=Ao k j a n way (m+1)/\Ag k j a n way (m+1)=Ag k j a n way m++[((KM.cI (Ao k j a n way m) j (a/16+(m:Int)) way (Ag k j a n way m)).1:Int)]:=fun m hm=>by
  rcases(show m=0∨(m=1/\rp a n=2) by omega) with rfl | ⟨rfl,h2⟩
  · have e:a/16+((0:Nat):Int)=a/16:=by omega
    rw[e,st0,id0,Nat.zero_add,st1,id1];exact⟨hR,hj,jP,rfl,rfl,rfl⟩
  · have e:a/16+((1:Nat):Int)=KM.cA a n:=by omega
    have e2:1+1=2:=rfl;rw[e,e2,st1,id1,st2,id2];obtain⟨BR,hBR⟩:=ex (KM.cI k j (a/16) way []);rw[<- hBR] at A1 ⊢;refine⟨A1.right,?_,A1.kept.mapped hj hm2,A1.kept.ak,rfl,rfl⟩;rw[A1.kept.np];exact hj
 have HBR:Hid (∀V S' m av nv cv,m<rp a n->nv=m->Km lo mb tt X V S' (Ao k j a n way m)->Held V S' av (Ag k j a n way m)->Calls Tryz.prog 97 #[.pointer (some (Ad mb 0)),I (j:Int),I (a/16+(m:Int)),I way,.slice av nv cv] V fun e w'=>∃i:Nat,e=.returned (I (i:Int))/\Ag k j a n way (m+1)=Ag k j a n way m++[(i:Int)]/\∃S2,Km lo mb tt X w' S2 (Ao k j a n way (m+1))/\Ch S' V S2 w'):=fun V S' m av nv cv hm hnv hV hh=>by
  obtain⟨q1,q2,q3,q4,q5,q6⟩:=hpw m hm;have hil:=O4 k j a n way m (by omega);have:=Mv (Ao k j a n way m) S' V j (a/16+(m:Int)) way (Ag k j a n way m) av cv hV q1 q2 q3 (by rw[q4];exact hX) (by omega) hh;rw[hil] at this;subst hnv;refine this.mono fun e w' ⟨g1,S2,g2,g3⟩=>⟨_,g1,q6,S2,q5 ▸ g2,g3⟩
 have bB:Hid (∀V S' av nv cv,nv=rp a n->Held V S' av (Ag k j a n way (rp a n))->Km lo mb tt X V S' (Ao k j a n way (rp a n))->Ch S w S' V->(∃av' cv' S'',Ending.returned (.tuple #[.slice av nv cv,.agg #[I 0,I 0]])=.returned (.tuple #[.slice av' (KM.aO k j a n way).1.length cv',.agg #[I 0,I 0]])/\Held V S'' av' (ids (KM.aO k j a n way).1)/\Km lo mb tt X V S'' (KM.aO k j a n way).2/\Ch S w S'' V)):=fun V S' av nv cv e1 g1 g2 g3=>by
  have e2:(KM.aO k j a n way).2=Ao k j a n way (rp a n):=congrArg Prod.snd hr1;exact⟨av,cv,S',by rw[e1,hr3],by rw[hr2];exact g1,by rw[e2];exact g2,g3⟩
 obtain⟨P,hP⟩:∃P:Ending->World->Prop,P=fun e w'=>∃av cv S',e=.returned (.tuple #[.slice av (KM.aO k j a n way).1.length cv,.agg #[I 0,I 0]])/\Held w' S' av (ids (KM.aO k j a n way).1)/\Km lo mb tt X w' S' (KM.aO k j a n way).2/\Ch S w S' w':=⟨_,rfl⟩
 have kY:Hid (∀V S' av nv cv,nv=rp a n->Held V S' av (Ag k j a n way (rp a n))->Km lo mb tt X V S' (Ao k j a n way (rp a n))->Ch S w S' V->P (.returned (.tuple #[.slice av nv cv,.agg #[I 0,I 0]])) V):=fun V S' av nv cv e1 g1 g2 g3=>by rw[hP];exact bB.o V S' av nv cv e1 g1 g2 g3
 rw[<- hP];obtain⟨pb,cP,A⟩:=h.toKr.sp (by omega);have c3:=h.c3;rw[A.v] at c3;have a1:=A.x1 j hj;have hfit:AW.ft (KM.au k.aj j).aB:=AM.gU _ (hR.sp hj).aB;have om:=ai (fun V (hb:Below w.heap.size w V)=>FW.Oe _ _ a n way V (AW.Has.below (h.toKr.aB hj) hb) hfit ha (by omega));rw[Vn] at om;obtain⟨ax,cx,sI,_,_⟩:=aN (h.each j hj).aB;rw[sI] at om a1;have DJ:(j:Int)<(k.aj.length:Int):=by omega
 have oJ:=h.lt;have hpl:=A.lt;unfold FW.Dk at om;simp only at om;have bR:=ai ((Below.refl w.heap.size w).alloc (Nat.le_refl _) (.cells #[I 0,I 0] 36));have R0:=ai (B.new w #[I 0,I 0] 36);have d3:=(bR.o.cell (p:=(Ad mb 3)) oJ).trans c3;have d1:=(bR.o.cell (p:=(Ad pb (j*3+1))) hpl).trans a1;obtain⟨np,rH⟩:=ex k.aj.length;rw[<- rH] at d3 DJ;obtain⟨na,nZ⟩:=ex ((KM.au k.aj j).aB.length);rw[<- nZ] at d1 om;have n0:Hid (S.lab w.heap.size=.no):=h.toKr.new (Nat.le_refl _);have wZ:=ai h;have Wy:Hid (KM.cA a n=a/16+((rp a n:Nat):Int)-1):=hlast;have hlq:(a+n-1)/16=a/16+((rp a n:Nat):Int)-1:=hlast;have HIL:=ai (O4 k j a n way);obtain⟨PG,hPG⟩:=ex (rp a n);rw[<- hPG] at HBR kY hp2 hlq;have ha0:0<=a:=by omega
 have han:0<=a+n-1:=by omega
 have hw1:IntKind.i64.wrap (a+n)=a+n:=IntWalk.i64_in _ (by omega);have hw2:IntKind.i64.wrap (a+n-1)=a+n-1:=IntWalk.i64_in _ (by omega);obtain⟨i0,hin,hz0,hz1,hz2⟩:=info_parts Ht;have ry:=ai hin;have vo:=ai hz0;have vk:=ai hz1;have uj:=ai hz2;have aeg:a/16<=256:=by omega
 have hap:0<=a/16:=by omega
 obtain⟨Q,hQ⟩:=ex (a/16);have HQ:=ai hQ;rw[<- hQ] at HBR hlq aeg hap;have hqa:a.tdiv 16=Q:=by rw[hQ];exact Int.tdiv_eq_ediv_of_nonneg ha0
 have hqb:(a+n-1).tdiv 16=Q+(PG:Int)-1:=by rw[<- hlq];exact Int.tdiv_eq_ediv_of_nonneg han
 clear h hR hj A c3 a1 hfit sI Vn hcc rH nZ ha hmap jP hm2 hlast Wy A1 hr1 hr2 hr3 hpw bB hP hPG hX hf hal hau ha0 han hQ hin hz0 hz1 hz2 hlq;go_enter Tryz.func52,Tryz.ntmps52;go_wp2_with (go_at_call 96;refine(om.o _ bR.o).mono ?_;rintro e w1 ⟨rfl,hb1⟩;have bE:=ai (aD bR.o hb1);have R1:=ai (B.below R0.o hb1 (B.isLt R0.o));have FX:=ai (B.new w1 #[I 0,I 0] 36);obtain⟨y0,y1⟩:=B.c2 FX.o;clear hb1)
 have cQ:=ai (bE.o.alloc bE.o.size (.cells #[I 0,I 0] 36));have R2:=ai (B.alloc R1.o (.cells #[I 0,I 0] 36));obtain⟨W,hW⟩:=ex (w1.alloc (.cells #[I 0,I 0] 36));rw[<- hW] at cQ R2 y0 y1 ⊢;clear hW y0 y1 FX R1 bE;go_loopw [13,14] (fun fv pv wr=>∃(m:Nat) (S':St) (av:Option Addr) (cv:Nat),m<=PG/\pv=I (Q+(m:Int))/\fv=.slice av m cv/\wr.ownsRow W.heap.size 3 1 (.slice av m cv) m ((Ag k j a n way m).flatMap bU)/\(∀b,blk (.slice av m cv) b->S'.lab b=.no)/\Km lo mb tt X wr S' (Ao k j a n way m)/\Ch S W S' wr) (fun _ pv _=>(Q+(PG:Int)-intOf pv).toNat)
 case atStart=>exact⟨0,S,none,0,by omega,by simp,rfl,World.ownsRow_nil _ _ _ _,fun b hb=>(by cases hb),wZ.o.below cQ.o,Ch.refl _ _⟩
 case round =>
  obtain⟨m,S',av,cv,hm,rfl,rfl,hrow,hno,dG,hch⟩:=hrel;have Dw:=ai hrow;have jc:=ai hno;have D4:=ai hch;by_cases hlt:m<PG
  · have hle:Q+(m:Int)<=Q+(PG:Int)-1:=by omega
    have hil:=HIL.o m (by omega);have hrow2:=hrow;rw[<- hil] at hrow2;have mO:=(zj (S:=S') (n:=m) (l:=Ag k j a n way m) (by rw[hil];exact hrow) hno).2;have agi:=ai (HBR.o wr S' m av m cv hlt rfl dG mO);clear hrow hno dG hch hrow2 mO hil wZ;go_wp2_with (first
     | (at_builtin;refine bO (P:=Tryz.prog) rfl _ _ 99 rfl W.heap.size 3 i0 (I 0) 1 8 Tryz.underlying99 ry.o vo.o vk.o uj.o rfl (by decide) (.slice av m cv) m ((Ag k j a n way m).flatMap bU) rfl oh.o (some (Ad w2.heap.size 0)) 1 1 [I (i:Int)] rfl rfl (fun _=>⟨_,rfl,B.news (B.new w2 _ _)⟩) (by intro u hu;simp at hu;rw[hu];rfl) (by unfold maxLen;omega) (by omega) (by have:=lR.o.kp.size;simp;omega) ?_;intro v' w' hown hgr hat;obtain⟨aG,cG,C9,_,_⟩:=aN hown;subst C9;have HO3:=ai hown;have HG3:=ai hgr;have pR:=ai hat;clear hown hgr hat)
     | (go_at_call 97;refine agi.o.mono ?_;rintro e w2 ⟨i,rfl,hid,S2,hk2,hc2⟩;have HID:=ai hid;have jd:=ai hk2;have lR:=ai (D4.o.trans hc2);have MF:=ai (hc2.kp.row Dw.o (fun b hb z=>z (jc.o b hb)));have Dy:=ai (fun b (hb:blk (.slice av m cv) b)=>hc2.no b (Dw.o.lt b hb).2 (jc.o b hb));have oh:=ai (MF.o.alloc (.cells #[I (i:Int)] 3));clear hid hk2 hc2))
    go_roundw
    case rel =>
     have kA:Kp (fun b=>blk (.slice av m cv) b) w2 (w2.alloc (.cells #[I (i:Int)] 3)):=Kp.alloc _ _ _;have kB:=kA.trans (Kp.grown (D:=fun b=>blk (.slice av m cv) b) HG3.o (fun q hq=>hq)) (fun _ _ g=>g);have hlab:∀b,blk (.slice aG (m+1) cG) b->S2.lab b=.no:=fun b hb=>by
      rcases pR.o with g | g
      · exact Dy.o b (by show Value.ownBlock _=_;rw[<- g];exact hb)
      · have hb:Value.ownBlock _=some b:=hb;rw[g] at hb;injection hb with hb;rw[World.size_alloc] at hb;exact jd.o.toKr.new (by omega)
     refine⟨m+1,S2,aG,cG,by omega,by go_num,rfl,?_,hlab,?_,?_⟩
     · rw[HID.o,List.flatMap_append];have e:[(i:Int)].flatMap bU=[I (i:Int)]:=rfl;rw[e];exact HO3.o
     · exact jd.o.kp kB (fun b hb g=>hb (Dy.o b g))
     · exact KX.Ch.local lR.o kB (fun b g=>(MF.o.lt b g).1)
    case measure=>simp[intOf];omega
  · obtain rfl:m=PG:=by omega
    have hgt:¬Q+(m:Int)<=Q+(m:Int)-1:=by omega
    have hil:=HIL.o m (by omega);have mO:=(zj (S:=S') (n:=m) (l:=Ag k j a n way m) (by rw[hil];exact hrow) hno).2;have HX:=ai (kY.o);have R8:=ai mO;have YK:=ai dG;have RW:=ai (hch.keep R2.o n0.out);obtain⟨y0,y1⟩:=B.c2 RW.o;have q0:=B.free RW.o 0;have q1:=B.free RW.o 1;have HCW:=ai ((Ch.below cQ.o).trans hch);have hnl:S'.lab w.heap.size=.no:=hch.no _ (B.isLt R2.o) n0.out;have UK:Hid (∀V,V=(wr.setCell (Ad w.heap.size 0) (I 0)).setCell (Ad w.heap.size 1) (I 0)->Held V S' av (Ag k j a n way m)/\Km lo mb tt X V S' (Ao k j a n way m)/\Ch S w S' V/\V.heap[w.heap.size]?=some (.cells #[I 0,I 0] 36 (0,0))):=fun V hV=>by
     have kp:Kp (fun b=>b=w.heap.size) wr V:=by rw[hV];exact(Kp.set (fun b=>b=w.heap.size) wr (Ad w.heap.size 0) _ rfl).trans (Kp.set (fun b=>b=w.heap.size) _ (Ad w.heap.size 1) _ rfl) (fun _ _ g=>g)
     refine⟨⟨KX.aZ.kp R8.o.has kp (fun b off e z=>?_),R8.o.no,fun b off e=>Nat.lt_of_lt_of_le (R8.o.lt b off e) kp.size⟩,YK.o.kp kp (fun b hb z=>hb (by rw[z];exact hnl)),KX.Ch.local HCW.o kp (fun b z=>by omega),by rw[hV];exact B.set (B.set RW.o 0 _) 1 _⟩;have:W.heap.size<=b:=by
      subst e;rcases Dw.o.2 with⟨h0,_⟩ | ⟨g,cap',cur,hv,hbs,_⟩
      · cases h0
      · injection hv with e1 _ _;injection e1 with e1;injection e1 with e1 _ _;omega
     have:=B.isLt R2.o;omega
    have Gm:=ai (fun V (hV:V=(wr.setCell (Ad w.heap.size 0) (I 0)).setCell (Ad w.heap.size 1) (I 0))=>kY.o V S' av m cv rfl (UK.o V hV).1 (UK.o V hV).2.1 (UK.o V hV).2.2.1);clear hrow hno dG hch mO hil wZ HX R8 YK HCW hnl HBR;go_wp2;obtain⟨v0,v1⟩:=B.c2 (UK.o _ rfl).2.2.2;refine bodyPost_ret (v:=.tuple #[.slice av m cv,.agg #[I 0,I 0]]) (by simp[results,Tryz.results52,go_sem,v0,v1]) rfl ?_;exact Gm.o _ rfl
end KX
namespace KY
open Go.RowKit GK KO
open FW (ai aD)
open KW (bJ bI aK aZ fh cK aI dA bU kK eB)
open KS (Lc bw kM cD blk cJ)
open KX (vB)
def km:Prop:=∀(k:KM.Kn) (a:fh) (w:World),cK w a k->Small k->Calls Tryz.prog 55 #[.agg (aI a k)] w (vh w k)
def fB (k:KM.Kn):List Value:=KW.r7 (KW.j4 k.ak k.ak.length) 256
theorem Fv {k:KM.Kn} (hr:LM.dC k.ak=true) {hs:List LM.Sh} (h:KM.Same k.ak hs):vB (fB k) hs:=fun n hn=>by
 unfold fB;rw[KW.yr _ n 256 hn,KW.wO k.ak hr n,KM.vM h]
theorem yz {hs:List LM.Sh} (h:LM.dC hs=true) (i:Nat) (hi:i<hs.length):(LM.aY hs i).bg.length<=16:=by
 have all:∀n,LM.cN hs n=true->∀i,i<n->LM.bQ (LM.aY hs i)=true:=fun n=>by
  induction n with
  | zero=>intro _ i hi;omega
  | succ n ih =>
   intro hn i hi;unfold LM.cN at hn;rw[Bool.and_eq_true,Bool.and_eq_true] at hn;by_cases c:i=n
   · rw[c];exact hn.2.1
   · exact ih hn.1 i (by omega)
 have hb:=all hs.length h i hi;unfold LM.bQ at hb;rw[Bool.and_eq_true] at hb;have:=LM.jr _ _ hb.2;omega
theorem lG {k:KM.Kn} (hR:KM.aQ k) (hF:eB k):Small k:=by
 have hc:=hR.c;refine⟨by omega,fun i hi=>?_,by omega,by omega,by omega,fun i hi=>?_,fun i hi=>by have:=KX.jq hR hi;omega⟩
 · have:=yz hR.eJ i hi;omega
 · have:=AM.gP _ (hR.sp hi).aB;omega
theorem Zf {lo mb:Nat} {w' V:World} {S:St} {k:KM.Kn} {hs:List LM.Sh} {k0:KM.Kn} {a:fh} (hr:Kr lo w' S (KM.aT k hs)) (hm:w'.heap[mb]?=some (.cells (kK a k0) 104 (0,0))) (hlb:lo<=mb) (hno:S.lab mb=.no) (ht:fB k0=fB k)
  (hV:V=((((w'.setCell (Ad mb 0) S.vS).setCell (Ad mb 1) S.vF).setCell (Ad mb 2) S.vL).setCell (Ad mb 3) S.vP).setCell (Ad mb 4) (I k.hand)) :
  Km lo mb 104 (fB k) V ⟨fun b=>if b=mb then .head else S.lab b,S.vS,S.vF,S.vL,S.vP,S.L⟩ (KM.aT k hs):=by
 have kp:Kp (fun b=>b=mb) w' V:=by
  rw[hV];exact((((Kp.set (fun b=>b=mb) w' (Ad mb 0) _ rfl).trans (Kp.set (fun b=>b=mb) _ (Ad mb 1) _ rfl) (fun _ _ g=>g)).trans (Kp.set (fun b=>b=mb) _ (Ad mb 2) _ rfl) (fun _ _ g=>g)).trans (Kp.set (fun b=>b=mb) _ (Ad mb 3) _ rfl) (fun _ _ g=>g)).trans (Kp.set (fun b=>b=mb) _ (Ad mb 4) _ rfl) (fun _ _ g=>g)
 have r1:=hr.kp kp (fun b hb e=>hb (by rw[e];exact hno));have lb:∀b c,S.lab b=c->c≠.no->(if b=mb then Lb.head else S.lab b)=c:=fun b c e hc=>by
  rw[if_neg,e];intro x;exact hc (by rw[<- e,x];exact hno)
 refine⟨⟨fun b hb=>?_,r1.ak,r1.bg,r1.frames,r1.slots,r1.aj,r1.len,r1.each,fun b hb=>lb b _ (r1.lS b hb) (by simp),fun i hi b hb=>lb b _ (r1.lX i hi b hb) (by simp),fun b hb=>lb b _ (r1.lF b hb) (by simp),fun b hb=>lb b _ (r1.lL b hb) (by simp),fun b hb=>lb b _ (r1.lP b hb) (by simp),fun i hi b hb=>lb b _ (r1.lA i hi b hb) (by simp),fun i hi b hb=>lb b _ (r1.lE i hi b hb) (by simp)⟩,?_,if_pos rfl⟩
 · by_cases c:b=mb
   · rw[c];exact⟨hlb,Nat.lt_of_lt_of_le (B.isLt hm) kp.size⟩
   · have hb:(if b=mb then Lb.head else S.lab b)≠.no:=hb;rw[if_neg c] at hb;exact r1.iJ b hb
 · rw[hV,B.set (B.set (B.set (B.set (B.set hm 0 S.vS) 1 S.vF) 2 S.vL) 3 S.vP) 4 (I k.hand)];unfold kK KW.m9;rw[<- ht];congr 2
theorem qG (uW:km) (k:KM.Kn) (a:fh) (mb:Nat) (w:World) (hK:cK w a k) (hsm:Small k) (hm:w.heap[mb]?=some (.cells (kK a k) 104 (0,0))) (lo:Nat) (hlo:lo<=mb) :
  Calls Tryz.prog 84 #[.pointer (some (Ad mb 0))] w fun e w'=>e=.returned (.tuple #[])/\∃S hs,KM.Same k.ak hs/\Km lo mb 104 (fB k) w' S (KM.aT k hs)/\(∀b,S.lab b≠.no->b=mb∨w.heap.size<=b)/\Kp (fun b=>b=mb) w w':=by
 have Ni:=ai (uW k a w hK hsm);have oJ:=B.isLt hm;have HM:=ai hm;have bB:Hid (∀w1 S hs V,KM.Same k.ak hs->Kr w.heap.size w1 S (KM.aT k hs)->Below w.heap.size w w1->V=((((w1.setCell (Ad mb 0) S.vS).setCell (Ad mb 1) S.vF).setCell (Ad mb 2) S.vL).setCell (Ad mb 3) S.vP).setCell (Ad mb 4) (I k.hand)->∃S hs,KM.Same k.ak hs/\Km lo mb 104 (fB k) V S (KM.aT k hs)/\(∀b,S.lab b≠.no->b=mb∨w.heap.size<=b)/\Kp (fun b=>b=mb) w V):=fun w1 S hs V h1 h2 h3 h4=>by
  have jP:=B.below HM.o h3 oJ;have hno:S.lab mb=.no:=Classical.not_not.1 fun x=>by have:=(h2.iJ mb x).1;omega
  have r1:Kr lo w1 S (KM.aT k hs):=h2.mono (by omega);have m:=Zf r1 jP hlo hno rfl h4;refine⟨_,hs,h1,m,fun b hb=>?_,?_⟩
  · by_cases c:b=mb
    · exact .inl c
    · have hb:(if b=mb then Lb.head else S.lab b)≠.no:=hb;rw[if_neg c] at hb;exact .inr (h2.iJ b hb).1
  · have kp:Kp (fun b=>b=mb) w1 V:=by
     rw[h4];exact((((Kp.set (fun b=>b=mb) w1 (Ad mb 0) _ rfl).trans (Kp.set (fun b=>b=mb) _ (Ad mb 1) _ rfl) (fun _ _ g=>g)).trans (Kp.set (fun b=>b=mb) _ (Ad mb 2) _ rfl) (fun _ _ g=>g)).trans (Kp.set (fun b=>b=mb) _ (Ad mb 3) _ rfl) (fun _ _ g=>g)).trans (Kp.set (fun b=>b=mb) _ (Ad mb 4) _ rfl) (fun _ _ g=>g)
    exact(Kp.bc h3).trans kp (fun _ _ g=>g)
 have abw:Hid (Calls Tryz.prog 55 #[.agg (aI a k)] w fun e w'=>∃S hs aS nS cS aF nF cF aL nL cL aP nP cP,S.vS=.slice aS nS cS/\S.vF=.slice aF nF cF/\S.vL=.slice aL nL cL/\S.vP=.slice aP nP cP/\KM.Same k.ak hs/\e=.returned (.agg #[.slice aS nS cS,.slice aF nF cF,.slice aL nL cL,.slice aP nP cP,I k.hand])/\Kr w.heap.size w' S (KM.aT k hs)/\Below w.heap.size w w'):=Ni.o.mono fun e w' ⟨S,hs,h1,h2,h3,h4⟩=>by
  obtain⟨aS,cS,eS,_⟩:=aN h3.ak;obtain⟨aF,cF,eF,_⟩:=aN h3.frames;obtain⟨aL,cL,eL,_⟩:=aN h3.slots;obtain⟨aP,cP,eP,_⟩:=aN h3.aj;exact⟨S,hs,aS,_,cS,aF,_,cF,aL,_,cL,aP,_,cP,eS,eF,eL,eP,h1,by rw[h2,eS,eF,eL,eP],h3,h4⟩
 have c0:w.cell? (Ad mb 0)=some (.slice a.aS k.ak.length a.cS):=B.cell hm 0 rfl;have c1:w.cell? (Ad mb 1)=some (.slice a.aF k.frames.length a.cF):=B.cell hm 1 rfl;have c2:w.cell? (Ad mb 2)=some (.slice a.aL k.slots.length a.cL):=B.cell hm 2 rfl;have c3:w.cell? (Ad mb 3)=some (.slice a.aP k.aj.length a.cP):=B.cell hm 3 rfl;have c4:w.cell? (Ad mb 4)=some (I k.hand):=B.cell hm 4 rfl;have HCM:Hid (∀V,Below w.heap.size w V->(V.cell? (Ad mb 0)=some (.slice a.aS k.ak.length a.cS)/\V.cell? (Ad mb 1)=some (.slice a.aF k.frames.length a.cF)/\V.cell? (Ad mb 2)=some (.slice a.aL k.slots.length a.cL)/\V.cell? (Ad mb 3)=some (.slice a.aP k.aj.length a.cP)/\V.cell? (Ad mb 4)=some (I k.hand))/\V.frozen? (Ad mb 0)=false/\V.frozen? (Ad mb 1)=false/\V.frozen? (Ad mb 2)=false/\V.frozen? (Ad mb 3)=false/\V.frozen? (Ad mb 4)=false):=fun V hb=>by
  have h1:=B.below HM.o hb oJ;exact⟨⟨B.cell h1 0 rfl,B.cell h1 1 rfl,B.cell h1 2 rfl,B.cell h1 3 rfl,B.cell h1 4 rfl⟩,B.free h1 0,B.free h1 1,B.free h1 2,B.free h1 3,B.free h1 4⟩
 unfold aI at abw;clear hm hK hsm Ni;go_enter Tryz.func84,Tryz.ntmps84;go_wp2_with (go_at_call 55;refine abw.o.mono ?_;rintro e w1 ⟨S,hs,aS,nS,cS,aF,nF,cF,aL,nL,cL,aP,nP,cP,eS,eF,eL,eP,hsame,rfl,hkr,hb1⟩;have HF1:=ai (fun V=>bB.o w1 S hs V hsame hkr hb1);rw[eS,eF,eL,eP] at HF1;obtain⟨⟨y0,y1,y2,y3,y4⟩,f0,f1,f2,f3,f4⟩:=HCM.o w1 hb1;clear hsame hkr hb1 eS eF eL eP)
 refine bodyPost_end (v:=.tuple #[]) (by simp[results,Tryz.results84,go_sem]) rfl ?_;exact⟨rfl,HF1.o _ rfl⟩
end KY
end Go.Proofs.YtpgifpeohlllfaaGreat
