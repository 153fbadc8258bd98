import Derived.Test.YtkdigjpejnebkaaGreatGU00
import Derived.Test.YtkdigjpejnebkaaGreatGU10
import Derived.Test.YtkdigjpejnebkaaGreatGU27
import Derived.Test.YtkdigjpejnebkaaGreatGU29
import Derived.Test.YtkdigjpejnebkaaGreatGU28
import Derived.Test.YtkdigjpejnebkaaGreatGU20
import Derived.Test.YtkdigjpejnebkaaGreatGU21
set_option maxHeartbeats 20000000
set_option linter.unusedVariables false
set_option maxRecDepth 100000
set_option linter.unusedSimpArgs false
namespace Go.Proofs.YtkdigjpejnebkaaGreat
namespace FW
open Go.RowKit
theorem DM (l:List AM.Ar) (v:Value) (a size way:Int) (w:World) (h:AW.Has w v l) (hc:AM.aD l=0) (ha:-9223372036854775808<=a/\a<=9223372036854775807) (hz:size<=9223372036854775807) :
  Calls Tryz.prog 48 #[v,I a,I size,I way] w fun e w'=>e=.returned (.agg (dm (FM.bG l a size way)))/\Below w.heap.size w w':=by
 have Lq:=ai (fun p V (hV:AW.Has V v l)=>AW.rR l v p V hV hc)
 have HH:=ai h
 have cM:=ai ((Below.refl w.heap.size w).alloc (Nat.le_refl _) (.cells #[I 0,I 0] 68))
 have X0:=ai (B.new w #[I 0,I 0] 68)
 have HF:Hid (FM.bG l a size way=if way=2/\¬a%8=0 then (3,a) else FM.bB l a way size.toNat):=rfl
 obtain⟨⟨R1,R2⟩,hR⟩:∃R,R=FM.bG l a size way:=⟨_,rfl⟩
 rw[<- hR] at HF ⊢
 clear hR h hc
 unfold dm
 simp only
 obtain⟨ao,vn,cap,rfl⟩:∃ao n cap,v=.slice ao n cap:=by
  obtain⟨ao,cap,h,_⟩:=HH.o
  exact⟨ao,_,cap,h⟩
 have K4:a.tmod 8=0↔a%8=0:=by rw[Int.tmod_eq_emod];split <;> omega
 by_cases hal:way=2/\¬a%8=0
 · have HR:Hid ((R1,R2)=(3,a)):=by show _=_;rw[HF.o,if_pos hal]
   obtain⟨rfl,hal⟩:=hal
   have h8:(a.tmod 8==0)=false:=by rw[beq_eq_false_iff_ne];exact fun g=>hal (K4.1 g)
   clear K4 hal
   go_enter Tryz.func48,Tryz.ntmps48
   go_wp2
   exact bodyPost_ret (v:=.agg #[I 3,I a]) (by simp[results,Tryz.results48,go_sem]) rfl ⟨by rw[(Prod.mk.inj HR.o).1,(Prod.mk.inj HR.o).2],(Below.refl w.heap.size w).alloc (Nat.le_refl _) _⟩
 · have HR:Hid ((R1,R2)=FM.bB l a way size.toNat):=by show _=_;rw[HF.o,if_neg hal]
   clear HF
   by_cases c:way=2
   · subst c
     have h8:a.tmod 8=0:=K4.2 (Classical.not_not.1 (fun g=>hal ⟨rfl,g⟩))
     clear K4 hal
     go_enter Tryz.func48,Tryz.ntmps48
     go_wp2_with fail
     go_loopw [9] (fun iv wr=>∃k:Nat,k<=size.toNat/\iv=I (k:Int)/\FM.bB l a 2 k=(0,0)/\wr.heap[w.heap.size]?=some (.cells #[I 0,I 0] 68 (0,0))/\Below w.heap.size w wr) (fun iv _=>size.toNat-(intOf iv).toNat)
     case atStart=>exact⟨0,by omega,rfl,rfl,X0.o,cM.o⟩
     case round =>
      obtain⟨k,hk,rfl,Iw,hx,hb⟩:=hrel
      have HN:=ai Iw
      have HX:=ai hx
      have HB:=ai hb
      clear Iw hx hb X0 cM
      by_cases hlt:(k:Int)<size
      · have hsm:k=0∨(16<=a/\a+k<=4096):=by
         cases k with
         | zero=>exact .inl rfl
         | succ j =>
          have:=FM.iP HN.o
          omega
        have HST:=ai (FM.iJ HN.o)
        have mI:Hid (∀f:Int×Int,FM.bB l a 2 (k+1)=f->¬f.1=0->(R1,R2)=f):=fun f h1 h2=>HR.o.trans (FM.iK h1 h2 _ (by omega))
        by_cases hout:a<0∨4096<a
        · obtain rfl:k=0:=by omega
          have gQ:Hid ((R1,R2)=(1,a)):=mI.o _ (HST.o.trans (by
           rw[show a+((0:Nat):Int)=a by omega]
           refine FM.iq ?_
           rcases hout with g | g
           · exact .inl g
           · right
             cases e:(AM.aX l (a/16)).2 with
             | false=>rfl
             | true =>
              have:=FM.cQ (FM.eJ e) e
              omega)) (by simp)
          obtain⟨x0,x1⟩:=B.c2 HX.o
          have f0:∀k,wr.frozen? (Ad w.heap.size k)=false:=fun k=>B.free HX.o k
          clear mI HST hsm
          by_cases hneg:a<0
          · clear hout
            go_wp2
            exact bodyPost_ret (v:=.agg #[I 1,I a]) (by simp[results,Tryz.results48,go_sem,x0,x1]) rfl ⟨by rw[(Prod.mk.inj gQ.o).1,(Prod.mk.inj gQ.o).2],b6 HB.o (Nat.le_refl _) _ _⟩
          · have hbig:4096<a:=by omega
            clear hout
            go_wp2
            exact bodyPost_ret (v:=.agg #[I 1,I a]) (by simp[results,Tryz.results48,go_sem,x0,x1]) rfl ⟨by rw[(Prod.mk.inj gQ.o).1,(Prod.mk.inj gQ.o).2],b6 HB.o (Nat.le_refl _) _ _⟩
        · have h1:¬a<0:=by omega
          have h2:¬4096<a:=by omega
          have hnn:0<=a+k:=by omega
          have hub:a+k<=4096:=by omega
          clear hout hsm
          have kj:=ai (fun V hV=>Lq.o ((a+k)/16) V hV)
          obtain⟨⟨⟨pp,pn,pt,pz⟩,ok⟩,hF⟩:∃F,F=AM.aX l ((a+k)/16):=⟨_,rfl⟩
          have pN:=ai hF
          rw[<- hF] at kj
          have oH:Hid (∀V,AW.Has V (.slice ao vn cap) l->Calls Tryz.prog 42 #[.slice ao vn cap,I ((a+k)/16)] V fun e w'=>e=.returned (.tuple #[.agg #[I pp,I pn,I pt,.bool pz],.bool ok])/\Below V.heap.size V w'):=kj
          clear hF kj
          have pO:Hid ((ok=false->FM.eu l (a+k) 2=(1,a+k))/\(ok=true->0<=pt/\pt<=3/\(FM.dR pt 2=true->FM.eu l (a+k) 2=(2,a+k))/\(FM.dR pt 2=false->FM.eu l (a+k) 2=(0,0)))):=by
           refine⟨fun h2=>?_,fun h2=>?_⟩
           · refine FM.iq (.inr ?_)
             rw[<- pN.o]
             exact h2
           · have e1:=pN.o
             have h3:(AM.aX l ((a+k)/16)).2=true:=by rw[<- e1];exact h2
             have h4:=FM.cQ (FM.eJ h3) h3
             have e2:(AM.aX l ((a+k)/16)).1.bE=pt:=by rw[<- e1]
             rw[e2] at h4
             exact⟨h4.2.2.1,h4.2.2.2,fun h5=>FM.lT hnn h3 (by rw[e2];exact h5),fun h5=>FM.tB hnn h3 (by rw[e2];exact h5)⟩
          clear pN
          cases ok with
          | false =>
           have gQ:=ai (mI.o _ (HST.o.trans (pO.o.1 rfl)) (by simp))
           clear pO mI HST
           go_wp2_with (go_at_call 42;refine(oH.o _ (HH.o.below HB.o)).mono ?_;rintro e w1 ⟨rfl,hb1⟩;have bj:=ai (aB HB.o hb1);have X1:=ai (B.below HX.o hb1 (B.isLt HX.o));clear hb1;have mK:=B.isLt X1.o;have hne:¬w.heap.size=w1.heap.size:=(by omega);obtain⟨x0,x1⟩:=B.c2 X1.o;have f0:∀k,w1.frozen? (Ad w.heap.size k)=false:=fun k=>B.free X1.o k)
           exact bodyPost_ret (v:=.agg #[I 1,I (a+k)]) (by simp[results,Tryz.results48,go_sem,x0,x1,mK]) rfl ⟨by rw[(Prod.mk.inj gQ.o).1,(Prod.mk.inj gQ.o).2],(b6 bj.o (Nat.le_refl _) _ _).alloc (by simp;omega) _⟩
          | true =>
           have hpt:=pO.o.2 rfl
           have l8:=ai hpt.2.2
           clear pO
           cases fh:FM.dR pt 2 with
           | true =>
            have hp2:pt<2:=by
             have:=of_decide_eq_true fh
             omega
            have gQ:=ai (mI.o _ (HST.o.trans (l8.o.1 fh)) (by simp))
            clear mI HST l8 fh hpt
            go_wp2_with (go_at_call 42;refine(oH.o _ (HH.o.below HB.o)).mono ?_;rintro e w1 ⟨rfl,hb1⟩;have bj:=ai (aB HB.o hb1);have X1:=ai (B.below HX.o hb1 (B.isLt HX.o));clear hb1;have mK:=B.isLt X1.o;have hne:¬w.heap.size=w1.heap.size:=(by omega);obtain⟨x0,x1⟩:=B.c2 X1.o;have f0:∀k,w1.frozen? (Ad w.heap.size k)=false:=fun k=>B.free X1.o k)
            exact bodyPost_ret (v:=.agg #[I 2,I (a+k)]) (by simp[results,Tryz.results48,go_sem,x0,x1,mK]) rfl ⟨by rw[(Prod.mk.inj gQ.o).1,(Prod.mk.inj gQ.o).2],(b6 bj.o (Nat.le_refl _) _ _).alloc (by simp;omega) _⟩
           | false =>
            have hp2:¬pt<2:=by
             have:=of_decide_eq_false fh
             omega
            have kG:=ai (HST.o.trans (l8.o.2 fh))
            clear mI HST l8 fh hpt
            go_wp2_with (go_at_call 42;refine(oH.o _ (HH.o.below HB.o)).mono ?_;rintro e w1 ⟨rfl,hb1⟩;have bj:=ai (aB HB.o hb1);have X1:=ai (B.below HX.o hb1 (B.isLt HX.o));clear hb1;have mK:=B.isLt X1.o;have hne:¬w.heap.size=w1.heap.size:=(by omega);obtain⟨x0,x1⟩:=B.c2 X1.o;have f0:∀k,w1.frozen? (Ad w.heap.size k)=false:=fun k=>B.free X1.o k)
            go_roundw
            case rel=>exact⟨k+1,by omega,by go_num,kG.o,B.alloc X1.o _,bj.o.alloc bj.o.size _⟩
            case measure=>simp[intOf];omega
      · have Iy:k=size.toNat:=by omega
        have gQ:Hid ((R1,R2)=(0,0)):=by show _=_;rw[HR.o,<- Iy];exact HN.o
        obtain⟨x0,x1⟩:=B.c2 HX.o
        have f0:∀k,wr.frozen? (Ad w.heap.size k)=false:=fun k=>B.free HX.o k
        clear Iy
        go_wp2
        exact bodyPost_ret (v:=.agg #[I 0,I 0]) (by simp[results,Tryz.results48,go_sem,x0,x1]) rfl ⟨by rw[(Prod.mk.inj gQ.o).1,(Prod.mk.inj gQ.o).2],b6 HB.o (Nat.le_refl _) _ _⟩
   · by_cases c1:way=1
     · subst c1
       clear K4 hal c
       go_enter Tryz.func48,Tryz.ntmps48
       go_wp2_with fail
       go_loopw [9] (fun iv wr=>∃k:Nat,k<=size.toNat/\iv=I (k:Int)/\FM.bB l a 1 k=(0,0)/\wr.heap[w.heap.size]?=some (.cells #[I 0,I 0] 68 (0,0))/\Below w.heap.size w wr) (fun iv _=>size.toNat-(intOf iv).toNat)
       case atStart=>exact⟨0,by omega,rfl,rfl,X0.o,cM.o⟩
       case round =>
        obtain⟨k,hk,rfl,Iw,hx,hb⟩:=hrel
        have HN:=ai Iw
        have HX:=ai hx
        have HB:=ai hb
        clear Iw hx hb X0 cM
        by_cases hlt:(k:Int)<size
        · have hsm:k=0∨(16<=a/\a+k<=4096):=by
           cases k with
           | zero=>exact .inl rfl
           | succ j =>
            have:=FM.iP HN.o
            omega
          have HST:=ai (FM.iJ HN.o)
          have mI:Hid (∀f:Int×Int,FM.bB l a 1 (k+1)=f->¬f.1=0->(R1,R2)=f):=fun f h1 h2=>HR.o.trans (FM.iK h1 h2 _ (by omega))
          by_cases hout:a<0∨4096<a
          · obtain rfl:k=0:=by omega
            have gQ:Hid ((R1,R2)=(1,a)):=mI.o _ (HST.o.trans (by
             rw[show a+((0:Nat):Int)=a by omega]
             refine FM.iq ?_
             rcases hout with g | g
             · exact .inl g
             · right
               cases e:(AM.aX l (a/16)).2 with
               | false=>rfl
               | true =>
                have:=FM.cQ (FM.eJ e) e
                omega)) (by simp)
            obtain⟨x0,x1⟩:=B.c2 HX.o
            have f0:∀k,wr.frozen? (Ad w.heap.size k)=false:=fun k=>B.free HX.o k
            clear mI HST hsm
            by_cases hneg:a<0
            · clear hout
              go_wp2
              exact bodyPost_ret (v:=.agg #[I 1,I a]) (by simp[results,Tryz.results48,go_sem,x0,x1]) rfl ⟨by rw[(Prod.mk.inj gQ.o).1,(Prod.mk.inj gQ.o).2],b6 HB.o (Nat.le_refl _) _ _⟩
            · have hbig:4096<a:=by omega
              clear hout
              go_wp2
              exact bodyPost_ret (v:=.agg #[I 1,I a]) (by simp[results,Tryz.results48,go_sem,x0,x1]) rfl ⟨by rw[(Prod.mk.inj gQ.o).1,(Prod.mk.inj gQ.o).2],b6 HB.o (Nat.le_refl _) _ _⟩
          · have h1:¬a<0:=by omega
            have h2:¬4096<a:=by omega
            have hnn:0<=a+k:=by omega
            have hub:a+k<=4096:=by omega
            clear hout hsm
            have kj:=ai (fun V hV=>Lq.o ((a+k)/16) V hV)
            obtain⟨⟨⟨pp,pn,pt,pz⟩,ok⟩,hF⟩:∃F,F=AM.aX l ((a+k)/16):=⟨_,rfl⟩
            have pN:=ai hF
            rw[<- hF] at kj
            have oH:Hid (∀V,AW.Has V (.slice ao vn cap) l->Calls Tryz.prog 42 #[.slice ao vn cap,I ((a+k)/16)] V fun e w'=>e=.returned (.tuple #[.agg #[I pp,I pn,I pt,.bool pz],.bool ok])/\Below V.heap.size V w'):=kj
            clear hF kj
            have pO:Hid ((ok=false->FM.eu l (a+k) 1=(1,a+k))/\(ok=true->0<=pt/\pt<=3/\(FM.dR pt 1=true->FM.eu l (a+k) 1=(2,a+k))/\(FM.dR pt 1=false->FM.eu l (a+k) 1=(0,0)))):=by
             refine⟨fun h2=>?_,fun h2=>?_⟩
             · refine FM.iq (.inr ?_)
               rw[<- pN.o]
               exact h2
             · have e1:=pN.o
               have h3:(AM.aX l ((a+k)/16)).2=true:=by rw[<- e1];exact h2
               have h4:=FM.cQ (FM.eJ h3) h3
               have e2:(AM.aX l ((a+k)/16)).1.bE=pt:=by rw[<- e1]
               rw[e2] at h4
               exact⟨h4.2.2.1,h4.2.2.2,fun h5=>FM.lT hnn h3 (by rw[e2];exact h5),fun h5=>FM.tB hnn h3 (by rw[e2];exact h5)⟩
            clear pN
            cases ok with
            | false =>
             have gQ:=ai (mI.o _ (HST.o.trans (pO.o.1 rfl)) (by simp))
             clear pO mI HST
             go_wp2_with (go_at_call 42;refine(oH.o _ (HH.o.below HB.o)).mono ?_;rintro e w1 ⟨rfl,hb1⟩;have bj:=ai (aB HB.o hb1);have X1:=ai (B.below HX.o hb1 (B.isLt HX.o));clear hb1;have mK:=B.isLt X1.o;have hne:¬w.heap.size=w1.heap.size:=(by omega);obtain⟨x0,x1⟩:=B.c2 X1.o;have f0:∀k,w1.frozen? (Ad w.heap.size k)=false:=fun k=>B.free X1.o k)
             exact bodyPost_ret (v:=.agg #[I 1,I (a+k)]) (by simp[results,Tryz.results48,go_sem,x0,x1,mK]) rfl ⟨by rw[(Prod.mk.inj gQ.o).1,(Prod.mk.inj gQ.o).2],(b6 bj.o (Nat.le_refl _) _ _).alloc (by simp;omega) _⟩
            | true =>
             have hpt:=pO.o.2 rfl
             have l8:=ai hpt.2.2
             clear pO
             cases fh:FM.dR pt 1 with
             | true =>
              have hp2:pt.tmod 2=0:=by
               have:=of_decide_eq_true fh
               rw[Int.tmod_eq_emod_of_nonneg hpt.1]
               omega
              have gQ:=ai (mI.o _ (HST.o.trans (l8.o.1 fh)) (by simp))
              clear mI HST l8 fh hpt
              go_wp2_with (go_at_call 42;refine(oH.o _ (HH.o.below HB.o)).mono ?_;rintro e w1 ⟨rfl,hb1⟩;have bj:=ai (aB HB.o hb1);have X1:=ai (B.below HX.o hb1 (B.isLt HX.o));clear hb1;have mK:=B.isLt X1.o;have hne:¬w.heap.size=w1.heap.size:=(by omega);obtain⟨x0,x1⟩:=B.c2 X1.o;have f0:∀k,w1.frozen? (Ad w.heap.size k)=false:=fun k=>B.free X1.o k)
              exact bodyPost_ret (v:=.agg #[I 2,I (a+k)]) (by simp[results,Tryz.results48,go_sem,x0,x1,mK]) rfl ⟨by rw[(Prod.mk.inj gQ.o).1,(Prod.mk.inj gQ.o).2],(b6 bj.o (Nat.le_refl _) _ _).alloc (by simp;omega) _⟩
             | false =>
              have hp2:pt.tmod 2=1:=by
               have:=of_decide_eq_false fh
               rw[Int.tmod_eq_emod_of_nonneg hpt.1]
               omega
              have kG:=ai (HST.o.trans (l8.o.2 fh))
              clear mI HST l8 fh hpt
              go_wp2_with (go_at_call 42;refine(oH.o _ (HH.o.below HB.o)).mono ?_;rintro e w1 ⟨rfl,hb1⟩;have bj:=ai (aB HB.o hb1);have X1:=ai (B.below HX.o hb1 (B.isLt HX.o));clear hb1;have mK:=B.isLt X1.o;have hne:¬w.heap.size=w1.heap.size:=(by omega);obtain⟨x0,x1⟩:=B.c2 X1.o;have f0:∀k,w1.frozen? (Ad w.heap.size k)=false:=fun k=>B.free X1.o k)
              go_roundw
              case rel=>exact⟨k+1,by omega,by go_num,kG.o,B.alloc X1.o _,bj.o.alloc bj.o.size _⟩
              case measure=>simp[intOf];omega
        · have Iy:k=size.toNat:=by omega
          have gQ:Hid ((R1,R2)=(0,0)):=by show _=_;rw[HR.o,<- Iy];exact HN.o
          obtain⟨x0,x1⟩:=B.c2 HX.o
          have f0:∀k,wr.frozen? (Ad w.heap.size k)=false:=fun k=>B.free HX.o k
          clear Iy
          go_wp2
          exact bodyPost_ret (v:=.agg #[I 0,I 0]) (by simp[results,Tryz.results48,go_sem,x0,x1]) rfl ⟨by rw[(Prod.mk.inj gQ.o).1,(Prod.mk.inj gQ.o).2],b6 HB.o (Nat.le_refl _) _ _⟩
     · have hw2:(way==2)=false:=by rw[beq_eq_false_iff_ne];exact c
       have hw1:(way==1)=false:=by rw[beq_eq_false_iff_ne];exact c1
       clear K4 hal
       go_enter Tryz.func48,Tryz.ntmps48
       go_wp2_with fail
       go_loopw [9] (fun iv wr=>∃k:Nat,k<=size.toNat/\iv=I (k:Int)/\FM.bB l a way k=(0,0)/\wr.heap[w.heap.size]?=some (.cells #[I 0,I 0] 68 (0,0))/\Below w.heap.size w wr) (fun iv _=>size.toNat-(intOf iv).toNat)
       case atStart=>exact⟨0,by omega,rfl,rfl,X0.o,cM.o⟩
       case round =>
        obtain⟨k,hk,rfl,Iw,hx,hb⟩:=hrel
        have HN:=ai Iw
        have HX:=ai hx
        have HB:=ai hb
        clear Iw hx hb X0 cM
        by_cases hlt:(k:Int)<size
        · have hsm:k=0∨(16<=a/\a+k<=4096):=by
           cases k with
           | zero=>exact .inl rfl
           | succ j =>
            have:=FM.iP HN.o
            omega
          have HST:=ai (FM.iJ HN.o)
          have mI:Hid (∀f:Int×Int,FM.bB l a way (k+1)=f->¬f.1=0->(R1,R2)=f):=fun f h1 h2=>HR.o.trans (FM.iK h1 h2 _ (by omega))
          by_cases hout:a<0∨4096<a
          · obtain rfl:k=0:=by omega
            have gQ:Hid ((R1,R2)=(1,a)):=mI.o _ (HST.o.trans (by
             rw[show a+((0:Nat):Int)=a by omega]
             refine FM.iq ?_
             rcases hout with g | g
             · exact .inl g
             · right
               cases e:(AM.aX l (a/16)).2 with
               | false=>rfl
               | true =>
                have:=FM.cQ (FM.eJ e) e
                omega)) (by simp)
            obtain⟨x0,x1⟩:=B.c2 HX.o
            have f0:∀k,wr.frozen? (Ad w.heap.size k)=false:=fun k=>B.free HX.o k
            clear mI HST hsm
            by_cases hneg:a<0
            · clear hout
              go_wp2
              exact bodyPost_ret (v:=.agg #[I 1,I a]) (by simp[results,Tryz.results48,go_sem,x0,x1]) rfl ⟨by rw[(Prod.mk.inj gQ.o).1,(Prod.mk.inj gQ.o).2],b6 HB.o (Nat.le_refl _) _ _⟩
            · have hbig:4096<a:=by omega
              clear hout
              go_wp2
              exact bodyPost_ret (v:=.agg #[I 1,I a]) (by simp[results,Tryz.results48,go_sem,x0,x1]) rfl ⟨by rw[(Prod.mk.inj gQ.o).1,(Prod.mk.inj gQ.o).2],b6 HB.o (Nat.le_refl _) _ _⟩
          · have h1:¬a<0:=by omega
            have h2:¬4096<a:=by omega
            have hnn:0<=a+k:=by omega
            have hub:a+k<=4096:=by omega
            clear hout hsm
            have kj:=ai (fun V hV=>Lq.o ((a+k)/16) V hV)
            obtain⟨⟨⟨pp,pn,pt,pz⟩,ok⟩,hF⟩:∃F,F=AM.aX l ((a+k)/16):=⟨_,rfl⟩
            have pN:=ai hF
            rw[<- hF] at kj
            have oH:Hid (∀V,AW.Has V (.slice ao vn cap) l->Calls Tryz.prog 42 #[.slice ao vn cap,I ((a+k)/16)] V fun e w'=>e=.returned (.tuple #[.agg #[I pp,I pn,I pt,.bool pz],.bool ok])/\Below V.heap.size V w'):=kj
            clear hF kj
            have pO:Hid ((ok=false->FM.eu l (a+k) way=(1,a+k))/\(ok=true->0<=pt/\pt<=3/\(FM.dR pt way=true->FM.eu l (a+k) way=(2,a+k))/\(FM.dR pt way=false->FM.eu l (a+k) way=(0,0)))):=by
             refine⟨fun h2=>?_,fun h2=>?_⟩
             · refine FM.iq (.inr ?_)
               rw[<- pN.o]
               exact h2
             · have e1:=pN.o
               have h3:(AM.aX l ((a+k)/16)).2=true:=by rw[<- e1];exact h2
               have h4:=FM.cQ (FM.eJ h3) h3
               have e2:(AM.aX l ((a+k)/16)).1.bE=pt:=by rw[<- e1]
               rw[e2] at h4
               exact⟨h4.2.2.1,h4.2.2.2,fun h5=>FM.lT hnn h3 (by rw[e2];exact h5),fun h5=>FM.tB hnn h3 (by rw[e2];exact h5)⟩
            clear pN
            cases ok with
            | false =>
             have gQ:=ai (mI.o _ (HST.o.trans (pO.o.1 rfl)) (by simp))
             clear pO mI HST
             go_wp2_with (go_at_call 42;refine(oH.o _ (HH.o.below HB.o)).mono ?_;rintro e w1 ⟨rfl,hb1⟩;have bj:=ai (aB HB.o hb1);have X1:=ai (B.below HX.o hb1 (B.isLt HX.o));clear hb1;have mK:=B.isLt X1.o;have hne:¬w.heap.size=w1.heap.size:=(by omega);obtain⟨x0,x1⟩:=B.c2 X1.o;have f0:∀k,w1.frozen? (Ad w.heap.size k)=false:=fun k=>B.free X1.o k)
             exact bodyPost_ret (v:=.agg #[I 1,I (a+k)]) (by simp[results,Tryz.results48,go_sem,x0,x1,mK]) rfl ⟨by rw[(Prod.mk.inj gQ.o).1,(Prod.mk.inj gQ.o).2],(b6 bj.o (Nat.le_refl _) _ _).alloc (by simp;omega) _⟩
            | true =>
             have hpt:=pO.o.2 rfl
             have l8:=ai hpt.2.2
             clear pO
             cases fh:FM.dR pt way with
             | true =>
              exfalso
              have:=of_decide_eq_true fh
              omega
             | false =>
              skip
              have kG:=ai (HST.o.trans (l8.o.2 fh))
              clear mI HST l8 fh hpt
              go_wp2_with (go_at_call 42;refine(oH.o _ (HH.o.below HB.o)).mono ?_;rintro e w1 ⟨rfl,hb1⟩;have bj:=ai (aB HB.o hb1);have X1:=ai (B.below HX.o hb1 (B.isLt HX.o));clear hb1;have mK:=B.isLt X1.o;have hne:¬w.heap.size=w1.heap.size:=(by omega);obtain⟨x0,x1⟩:=B.c2 X1.o;have f0:∀k,w1.frozen? (Ad w.heap.size k)=false:=fun k=>B.free X1.o k)
              go_roundw
              case rel=>exact⟨k+1,by omega,by go_num,kG.o,B.alloc X1.o _,bj.o.alloc bj.o.size _⟩
              case measure=>simp[intOf];omega
        · have Iy:k=size.toNat:=by omega
          have gQ:Hid ((R1,R2)=(0,0)):=by show _=_;rw[HR.o,<- Iy];exact HN.o
          obtain⟨x0,x1⟩:=B.c2 HX.o
          have f0:∀k,wr.frozen? (Ad w.heap.size k)=false:=fun k=>B.free HX.o k
          clear Iy
          go_wp2
          exact bodyPost_ret (v:=.agg #[I 0,I 0]) (by simp[results,Tryz.results48,go_sem,x0,x1]) rfl ⟨by rw[(Prod.mk.inj gQ.o).1,(Prod.mk.inj gQ.o).2],b6 HB.o (Nat.le_refl _) _ _⟩
end FW
namespace GO
open Go.RowKit GK
open FW (ai aB)
theorem II {l:List AM.Ar} (h:AM.aD l=0):AW.dE l:=by
 have hl:=AM.dY l h
 refine⟨fun i hi=>?_,by omega⟩
 have:=AM.dC l i (AM.dD l h i hi)
 unfold AM.Fits
 refine⟨⟨by omega,by omega⟩,⟨by omega,by omega⟩,by omega,by omega⟩
theorem ub {f:FM.Fl} (h:GG.lZ GM.qy (GH.aZ f)):f.procs.length=f.ak.length:=by
 have:=congrArg List.length h.mem.flags
 simpa [GG.running,GH.aZ] using this
theorem sM {f:FM.Fl} (h:GG.lZ GM.qy (GH.aZ f)):∀j,j<f.ak.length->(FM.ax f.ak j).aw.length<=100000/\(FM.ax f.ak j).aj.length<=100000:=fun j hj=>by
 have he:FM.aU (FM.ax f.ak j)=true:=h.mem.each j hj
 have h1:=FM.q8 he
 have h2:=FW.gB (FM.ax f.ak j).aw
 refine⟨?_,by omega⟩
 cases hv:(FM.ax f.ak j).live with
 | true =>
  have:=AM.dY _ (GM.gp he hv).check
  omega
 | false =>
  unfold FM.aU at he
  rw[hv] at he
  simp only[Bool.false_eq_true,if_false,Bool.and_eq_true,decide_eq_true_eq] at he
  omega
theorem SL {f:FM.Fl} {k:Nat} (h:GG.lZ GM.qy (GH.aZ f)) (hk:k<f.procs.length) (hs:(FM.au f.procs k).st=1):Rt f k:=by
 have hl:=h.mem.live (k:=k) (by rw[GG.wJ];exact Bool.and_eq_true_iff.2 ⟨decide_eq_true hk,decide_eq_true hs⟩)
 exact⟨h.mem.each,hl.2,sM h,by have:f.out.length<=2000:=h.out;omega,h.mem.room,h.mem.slots.2⟩
theorem Mm {s:FM.Sp} (h:GM.qj s) {i:Nat} (hi:i<s.aj.length):(GM.rX s.aj (FM.aN s.aj i).page).size=16:=by
 have hm:FM.aN s.aj i∈s.aj:=by
  unfold FM.aN
  rw[List.getD_eq_getElem?_getD,List.getElem?_eq_getElem hi]
  exact List.getElem_mem hi
 unfold GM.rX
 rw[GR.oZ h.nN hm]
 exact h.size i hi
theorem Mo {s:FM.Sp} (h:GM.qj s) {a n:Int} {i:Nat} (hr:GM.Reach s.aj a n i) (hn:1<=n) (QF:n<=8) (j:Nat) (hj:(j:Int)<n):(GM.rX s.aj ((a+(j:Int))/16)).size=16:=by
 have hl:=hr.last
 by_cases c:(a+(j:Int))/16=a/16
 · rw[c,<- hr.first]
   exact Mm h hr.lt
 · rcases hl with g | ⟨g1,g2,g3⟩
   · unfold GM.cV at g
     omega
   · have:(a+(j:Int))/16=GM.cV a n:=by
      unfold GM.cV at g1 ⊢
      omega
     rw[this,<- g3]
     exact Mm h g2
structure Good (f:FM.Fl) (k:Nat) (i:PM.ey):Prop where
 Tb:(FM.bG (FM.ax f.ak k).aw (FM.au f.procs k).pc 8 2).1=0
 ins:PM.ins (GM.ig (FM.ax f.ak k).aj (FM.au f.procs k).pc 8)=i
 bad:i.bad=false
 fits:i.fits
 ld:i.op=9->(FM.bG (FM.ax f.ak k).aw (wrap64 ((FM.au f.procs k).r i.b.toNat+i.m)) i.c 0).1=0
 st:i.op=10->(FM.bG (FM.ax f.ak k).aw (wrap64 ((FM.au f.procs k).r i.b.toNat+i.m)) i.c 1).1=0
def rG (f:FM.Fl) (k:Nat) (i:PM.ey) (val:Int) (g:FM.Fl):FM.Fl:=⟨g.slots,g.ak,f.procs.set k (PM.doneN (FM.au f.procs k) i val)++(if (i.op=16/\i.m=5)/\0<=val then [PM.doneN (FM.au f.procs k) i 0] else []),g.out⟩
theorem rM (i:PM.ey) (n:Nat) (ps:List PM.Pr) (h:ps.length=n):GG.fX i n ps=ps:=by
 unfold GG.fX
 subst h
 simp
theorem uj (i:PM.ey) (ps:List PM.Pr) (p q:PM.Pr) (k:Nat) (hk:k<ps.length):GG.fX i ps.length ((ps++[p]).set k q)=ps.set k q++[PM.doneN p i 0]:=by
 unfold GG.fX
 rw[List.set_append_left _ _ hk]
 have hl:(ps.set k q).length=ps.length:=List.length_set
 rw[<- hl,List.take_left',List.drop_left']
 · rfl
 · rfl
 · rfl
theorem sj {i:PM.ey} (hb:i.bad=false) (h:i.op=9∨i.op=10):i.c=1∨i.c=2∨i.c=4∨i.c=8:=by
 have g:i.bad=(decide (8<=i.a∨8<=i.b) || !(PM.dL i.c)):=by
  unfold PM.ey.bad
  rcases h with h | h <;> rw[h] <;> simp
 rw[g] at hb
 simp only[Bool.or_eq_false_iff,Bool.not_eq_false',PM.dL,decide_eq_true_eq] at hb
 exact hb.2
theorem I0 {i:PM.ey} (hb:i.bad=false) (h:i.op=16):1<=i.m/\i.m<=6:=by
 unfold PM.ey.bad at hb
 rw[h,if_neg (by decide),if_pos rfl] at hb
 simpa using hb
theorem wU {f:FM.Fl} {k:Nat} {i:PM.ey} (hb:i.bad=false) (h:i.op=10):((GR.wW f k i).size:Int)=i.c:=by
 have:=sj hb (.inr h)
 unfold GR.wW
 rw[GG.pU]
 omega
theorem pD {f g:FM.Fl} {k:Nat} {i:PM.ey} {v:Int} (h:GR.Run f k) (G:Good f k i) (hg:g.procs=f.procs) (hno:¬((i.op=16/\i.m=5)/\0<=v)) (ha:GG.bJ GM.aQ (GH.aZ f) k i=((v,(0,0)),GH.aZ g)):GR.di f (k:Int)=rG f k i v g:=by
 rw[GR.step_done h G.Tb G.ins ha,hg,rM _ _ _ List.length_set]
 unfold rG
 rw[if_neg hno,List.append_nil]
theorem NF {f:FM.Fl} {k:Nat} {i:PM.ey} (h:GR.Run f k) (G:Good f k i) (ho:i.op=9):GR.di f (k:Int)=rG f k i (GG.rB (GM.ig (FM.ax f.ak k).aj (wrap64 ((FM.au f.procs k).r i.b.toNat+i.m)) i.c)) f :=
 pD h G rfl (by rw[ho];exact fun g=>absurd g.1.1 (by decide)) (GR.Oo G.bad ho (G.ld ho))
theorem Km {f:FM.Fl} {k:Nat} {i:PM.ey} (h:GR.Run f k) (G:Good f k i) (ho:i.op=10):GR.di f (k:Int)=rG f k i 0 (GR.jl f k { FM.ax f.ak k with aj:=GM.fS (FM.ax f.ak k).aj (wrap64 ((FM.au f.procs k).r i.b.toNat+i.m)) (GR.wW f k i) }) :=
 pD h G rfl (by rw[ho];exact fun g=>absurd g.1.1 (by decide)) (GR.KL G.bad ho (by rw[wU G.bad ho];exact G.st ho))
theorem ND {f:FM.Fl} {k:Nat} {i:PM.ey} (h:GR.Run f k) (G:Good f k i) (h1:¬i.op=9) (h2:¬i.op=10) (h3:¬i.op=16):GR.di f (k:Int)=rG f k i 0 f :=
 pD h G rfl (fun g=>h3 g.1.1) (GR.Om G.bad h1 h2 h3)
theorem JY (m:GM.Mf) (k:Nat) (p n q:Int):(GM.mapM m k p n q).2.slots=m.slots:=by
 unfold GM.mapM GM.gz
 split
 · rfl
 · split <;> rfl
theorem CE (m:GM.Mf) (k:Nat) (p n:Int):(GM.gU m k p n).2.slots=m.slots:=by
 unfold GM.gU GM.gz
 split <;> rfl
theorem yR (m:GM.Mf) (k:Nat) (p n q:Int):(GM.eB m k p n q).2.slots=m.slots:=by
 unfold GM.eB GM.gz
 split <;> rfl
theorem LR {f:FM.Fl} {k:Nat} {c:Int} (h1:(GG.cu GM.aQ (GH.aZ f) k c).2.mem.slots=f.slots) (h2:(GG.cu GM.aQ (GH.aZ f) k c).2.ps=f.procs):(GG.cu GM.aQ (GH.aZ f) k c).2=GH.aZ (dO f k c):=by
 unfold dO
 generalize GG.cu GM.aQ (GH.aZ f) k c=r at *
 obtain⟨x,⟨⟨a,b⟩,d,e⟩⟩:=r
 simp only at h1 h2
 subst h1 h2
 rfl
theorem Rg {f:FM.Fl} {k:Nat} {c:Int} (h:¬c=5) (hc:1<=c/\c<=6):(GG.cu GM.aQ (GH.aZ f) k c).2=GH.aZ (dO f k c):=by
 have hc':c=1∨c=2∨c=3∨c=4∨c=6:=by omega
 rcases hc' with rfl | rfl | rfl | rfl | rfl
 · rfl
 · exact LR (by rw[GR.j5];exact JY _ _ _ _ _) (by rw[GR.j5];rfl)
 · exact LR (by rw[GR.jP];exact CE _ _ _ _) (by rw[GR.jP];rfl)
 · exact LR (by rw[GR.iC];exact yR _ _ _ _ _) (by rw[GR.iC];rfl)
 · rfl
theorem NG {f:FM.Fl} {k:Nat} {i:PM.ey} (h:GR.Run f k) (G:Good f k i) (ho:i.op=16):GR.di f (k:Int)=rG f k i (dZ f k i.m) (dO f k i.m):=by
 have hc:=I0 G.bad ho
 have ha:=GR.Oq (f:=f) (k:=k) G.bad ho
 by_cases c:i.m=5
 · by_cases d:4<=f.ak.length∨f.slots<FM.room f.ak+AM.br (FM.ax f.ak k).aw
   · obtain⟨e1,e2⟩:=Bq (f:=f) (k:=k) d
     rw[c,GR.tA d] at ha
     rw[c,e1,e2]
     exact pD h G rfl (fun g=>absurd g.2 (by decide)) ha
   · obtain⟨e1,e2⟩:=DD (f:=f) (k:=k) (fun g=>d (.inl g)) (fun g=>d (.inr g))
     rw[c,GR.qh (fun g=>d (.inl g)) (fun g=>d (.inr g))] at ha
     rw[c,e1,e2,GR.step_done h G.Tb G.ins ha]
     dsimp only
     rw[GG.pV,if_pos h.lt,uj _ _ _ _ _ h.lt]
     unfold rG
     rw[if_pos ⟨⟨ho,c⟩,by omega⟩]
 · have e:=Rg (f:=f) (k:=k) c hc
   rw[e] at ha
   exact pD h G rfl (fun g=>c g.1.2) ha
theorem tF (p:PM.Pr) (i:PM.ey):∃k0 a1 a2 a3 a4:Int,PM.j6 p i=#[I k0,I a1,I a2,I a3,I a4] /\
  ((i.bad=true/\k0=4)∨(i.bad=false/\((i.op=9/\k0=1/\a1=wrap64 (p.r i.b.toNat+i.m)/\a2=i.c/\a4=0)∨(i.op=10/\k0=2/\a1=wrap64 (p.r i.b.toNat+i.m)/\a2=i.c/\a3=p.r i.a.toNat/\a4=0)∨(i.op=16/\k0=3/\a4=i.m)∨(¬i.op=9/\¬i.op=10/\¬i.op=16/\k0=0/\a4=0)))):=by
 unfold PM.j6
 by_cases hb:i.bad=true
 · rw[if_pos hb]
   exact⟨_,_,_,_,_,rfl,.inl ⟨hb,rfl⟩⟩
 · have hb':i.bad=false:=by simpa using hb
   rw[if_neg hb]
   by_cases h1:i.op=9
   · rw[if_pos h1]
     exact⟨_,_,_,_,_,rfl,.inr ⟨hb',.inl ⟨h1,rfl,rfl,rfl,rfl⟩⟩⟩
   · rw[if_neg h1]
     by_cases h2:i.op=10
     · rw[if_pos h2]
       exact⟨_,_,_,_,_,rfl,.inr ⟨hb',.inr (.inl ⟨h2,rfl,rfl,rfl,rfl,rfl⟩)⟩⟩
     · rw[if_neg h2]
       by_cases h3:i.op=16
       · rw[if_pos h3]
         exact⟨_,_,_,_,_,rfl,.inr ⟨hb',.inr (.inr (.inl ⟨h3,rfl,rfl⟩))⟩⟩
       · rw[if_neg h3]
         exact⟨_,_,_,_,_,rfl,.inr ⟨hb',.inr (.inr (.inr ⟨h1,h2,h3,rfl,rfl⟩))⟩⟩
theorem ye {lo mb k:Nat} (c:Int) (f:FM.Fl) (v:Value) (L:List GF.Lc) (vr vo:Value) (w:World) (h:Fo lo mb w f v L vr vo) (hk2:k<f.procs.length) (hok:GG.lZ GM.qy (GH.aZ f)) (hs:(FM.au f.procs k).st=1) (hc:1<=c/\c<=6) :
  Calls Tryz.prog 56 #[.pointer (some (Ad mb 0)),I (k:Int),I c] w (kV lo mb v vr vo w (dZ f k c) (dO f k c)):=by
 have hl:=ub hok
 have hk:k<f.ak.length:=by omega
 have hr:=SL hok hk2 hs
 have h4:f.ak.length<=4:=hok.mem.few.2
 have hf:=II (nk hr hk).check
 have hi:∀j,j<8->M.dF ((FM.au f.procs k).r j):=(hok.fit k hk2).1
 have hc':c=1∨c=2∨c=3∨c=4∨c=5∨c=6:=by omega
 rcases hc' with rfl | rfl | rfl | rfl | rfl | rfl
 · exact Kz f v L vr vo w h hk hk2 h4 (by omega) hr.out
 · exact yc f v L vr vo w h hk hk2 h4 (by omega) hr hf hi
 · exact rQ f v L vr vo w h hk hk2 h4 (by omega) hr hf hi
 · exact nX f v L vr vo w h hk hk2 h4 (by omega) hr hf hi
 · exact qh f v L vr vo w h hk hk2 h4 (by omega) hr hl
 · exact KC f v L vr vo w h hk hk2 h4 (by omega)
end GO
namespace GO
open Go.RowKit GK
open GF (Lc vY bu bH aH eP blk eT eQ dw bl nt dg)
open GW (aI bR bg cB)
open FW (ai aB)
theorem Oh (p:PM.Pr) (i:PM.ey) (w:World) (hbad:i.bad=true):Calls Tryz.prog 51 #[p.val,.agg i.cells] w fun e w'=>e=.returned (.agg #[I 4,I 0,I 0,I 0,I 0])/\Below w.heap.size w w':=by
 have HD:=ai (PW.xy i)
 rw[hbad] at HD
 obtain⟨op,a,b,c,m⟩:=i
 clear hbad
 unfold PM.ey.cells at HD ⊢
 simp only at HD ⊢
 unfold PM.Pr.val
 have cM:=ai ((((Below.refl w.heap.size w).alloc (Nat.le_refl _) (.cells p.row 70)).alloc (by simp) (.cells #[I op,I a,I b,I c,I m] 99)).alloc (by simp;omega) (.cells #[I 0,I 0,I 0,I 0,I 0] 101))
 have BR:=ai (B.new ((w.alloc (.cells p.row 70)).alloc (.cells #[I op,I a,I b,I c,I m] 99)) #[I 0,I 0,I 0,I 0,I 0] 101)
 rw[World.size_alloc,World.size_alloc] at BR
 go_enter Tryz.func51,Tryz.ntmps51
 go_wp2_with fail
 refine(HD.o _).mono ?_
 rintro e w1 ⟨rfl,hb1⟩
 have bj:=ai (cM.o.trans (hb1.mono cM.o.size))
 have iU:=ai (B.below BR.o hb1 (B.isLt BR.o))
 clear hb1 cM BR HD
 have Z9:=bj.o.size
 have l1:=B.isLt iU.o
 obtain⟨t0,t1,t2,t3,t4⟩:=B.c5 iU.o
 have u0:∀j,w1.frozen? (Ad (w.heap.size+1+1) j)=false:=fun j=>B.free iU.o j
 go_wp2
 refine bodyPost_ret (v:=.agg #[I 4,I 0,I 0,I 0,I 0]) (by simp[results,Tryz.results51,go_sem,t0,t1,t2,t3,t4]) rfl ?_
 exact⟨rfl,PW.cN bj.o (by omega) _ _ _ _ _⟩
theorem Oc {f:FM.Fl} {k m:Nat} (hr:Rt f k) (hk:k<f.ak.length) {a way:Int} (hm:1<=m) (K6:m<=8) (hx:(FM.bG (FM.ax f.ak k).aw a (m:Int) way).1=0) (va:Value) (sQ:∃ao n c,va=.slice ao n c) (ap:Option Addr) (cp:Nat) (V:World) (hp:FW.iL V ap (FM.ax f.ak k).aj) :
  Calls Tryz.prog 50 #[.agg #[.bool (FM.ax f.ak k).live,va,.slice ap (FM.ax f.ak k).aj.length cp],I a,I (m:Int)] V fun e w'=>e=.returned (.string (GM.ig (FM.ax f.ak k).aj a (m:Int)))/\Below V.heap.size V w':=by
 have hl:=nk hr hk
 obtain⟨i,R⟩:=GM.m8 hl (n:=(m:Int)) (by omega) (by omega) hx
 have h1:=R.low
 have h2:=R.high
 have hz:∀j,j<m->(GM.rX (FM.ax f.ak k).aj ((a+(j:Int))/16)).size=16:=fun j hj=>Mo hl R (by omega) (by omega) j (by omega)
 rw[<- GR.GJ _ a m (by omega) hm K6 hz]
 exact GR.zi _ va ap cp a m V sQ hp (hr.lens k hk).2 (by omega) (by omega) (by omega) hz
theorem SQ {f:FM.Fl} {k:Nat} (hr:Rt f k) (hk:k<f.ak.length) {a:Int} {m:Nat} {way:Int} (hm:1<=m) (K6:m<=8) (hx:(FM.bG (FM.ax f.ak k).aw a (m:Int) way).1=0):(GM.ig (FM.ax f.ak k).aj a (m:Int)).size=m:=by
 obtain⟨i,R⟩:=GM.m8 (nk hr hk) (n:=(m:Int)) (by omega) (by omega) hx
 have:=GM.zX (nk hr hk) (by omega) R
 omega
section
variable {lo mb:Nat} {w:World} {f:FM.Fl} {v:Value} {L:List Lc} {vr vo:Value}
theorem TF {k sb cap:Nat} (h:Fo lo mb w f (.slice (some (Ad sb 0)) f.ak.length cap) L vr vo) (hk:k<f.ak.length) (hr:Rt f k) {a:Int} {d:ByteArray} (h1:1<=d.size) (h8:d.size<=8) (hx:(FM.bG (FM.ax f.ak k).aw a (d.size:Int) 1).1=0) :
  Calls Tryz.prog 54 #[.pointer (some (Ad sb (k*3))),I a,.string d] w fun e w'=>e=.returned (.tuple #[])/\Fo lo mb w' (GR.jl f k { FM.ax f.ak k with aj:=GM.fS (FM.ax f.ak k).aj a d }) (.slice (some (Ad sb 0)) f.ak.length cap) L vr vo/\Kp (fun b=>blk (bu L k).vp b) w w':=by
 have hl:=nk hr hk
 obtain⟨i,R⟩:=GM.m8 hl (n:=(d.size:Int)) (by omega) (by omega) hx
 have g1:=R.low
 have g2:=R.high
 have hz:∀j:Nat,j<d.size->(GM.rX (FM.ax f.ak k).aj ((a+(j:Int))/16)).size=16:=fun j hj=>Mo hl R (by omega) (by omega) j (by omega)
 have hsz:∀g∈(FM.ax f.ak k).aj,g.data.size=16:=fun g hg=>by
  obtain⟨j,hj,rfl⟩:=FM.ie hg
  exact hl.size j hj
 rw[<- GR.EU _ a d hl.nN hsz (by omega) h1 h8 hz]
 have kK:k<L.length:=by rw[h.mem.len];exact hk
 obtain⟨sb',cap',aa,na,ca,ap,cp,e1,jN,hlc,c0,c1,c2,_,_,_,_,jh⟩:=h.mem.space k hk
 injection e1 with e1 _ e2
 injection e1 with e1
 injection e1 with e1
 subst e1 e2
 obtain⟨pb,rfl,hpb⟩:=jh (Nat.lt_of_le_of_lt (Nat.zero_le _) R.lt)
 have J6:=h.mem.each k kK
 have hrow:=J6.aj
 rw[hlc] at hrow
 have hne:sb≠pb:=fun e=>(h.mem.n3 k kK sb rfl).2 (by rw[hlc,e];rfl)
 refine(GR.zh lo pb sb (k*3) cp (FM.ax f.ak k).aj a d w c2 hrow hne (by omega) (by omega) h8 (hr.lens k hk).2 hl.size (fun j hj=>?_)).mono ?_
 · have:=GM.nO hl.check (x:=(FM.aN (FM.ax f.ak k).aj j).page) (by
    rw[<- hl.nums]
    unfold FM.numbers
    refine List.mem_map.2 ⟨_,?_,rfl⟩
    unfold FM.aN
    rw[List.getD_eq_getElem?_getD,List.getElem?_eq_getElem hj]
    exact List.getElem_mem hj)
   exact⟨by omega,by omega⟩
 · rintro e w' ⟨he,ho,iz⟩
   have QG:Kp (fun b=>blk (bu L k).vp b) w w':=iz.mono (fun b _ e=>by rw[hlc,e];rfl)
   refine⟨he,?_,QG⟩
   have hid:=nt L k kK
   have key:=h.turn kK (l:=bu L k) (s:={ FM.ax f.ak k with aj:=GR.cX (FM.ax f.ak k).aj a d d.size }) (w2:=w') (QG.mono (fun b _ e=>.inr e)) (by
    rw[hid]
    exact QG.row h.mem.row (fun g hg e=>(h.mem.n3 k kK g hg).2 e)) ⟨J6.live,QG.row J6.aw (fun g hg e=>(h.mem.n4 k k kK kK g e).1 hg),by
     rw[hlc]
     show w'.ownsRow lo _ 2 (.slice (some (Ad pb 0)) (FM.ax f.ak k).aj.length cp) (GR.cX (FM.ax f.ak k).aj a d d.size).length _
     rw[GR.oQ]
     exact ho⟩ (fun b g=>.inl g) (fun b g=>.inl g) (fun b g=>(h.mem.n4 k k kK kK b g).1)
   rw[hid] at key
   exact key
theorem Fo.E5 {pb cr:Nat} (h:Fo lo mb w f v L (.slice (some (Ad pb 0)) f.procs.length cr) vo) {k:Nat} (hk:k<f.procs.length) (N:PM.Pr) :
  Fo lo mb ((((((((((((((w.setCell (Ad pb (k*13)) (I (N.r 0))).setCell (Ad pb (k*13+1)) (I (N.r 1))).setCell (Ad pb (k*13+2)) (I (N.r 2))).setCell (Ad pb (k*13+3)) (I (N.r 3))).setCell (Ad pb (k*13+4)) (I (N.r 4))).setCell (Ad pb (k*13+5)) (I (N.r 5))).setCell (Ad pb (k*13+6)) (I (N.r 6))).setCell (Ad pb (k*13+7)) (I (N.r 7))).setCell (Ad pb (k*13+8)) (I N.pc)).setCell (Ad pb (k*13+9)) (I N.st)).setCell (Ad pb (k*13+10)) (I N.cd)).setCell (Ad pb (k*13+11)) (I N.fk)).setCell (Ad pb (k*13+12)) (I N.fa))) ⟨f.slots,f.ak,f.procs.set k N,f.out⟩ v L (.slice (some (Ad pb 0)) f.procs.length cr) vo/\Kp (fun b=>b=pb) w ((((((((((((((w.setCell (Ad pb (k*13)) (I (N.r 0))).setCell (Ad pb (k*13+1)) (I (N.r 1))).setCell (Ad pb (k*13+2)) (I (N.r 2))).setCell (Ad pb (k*13+3)) (I (N.r 3))).setCell (Ad pb (k*13+4)) (I (N.r 4))).setCell (Ad pb (k*13+5)) (I (N.r 5))).setCell (Ad pb (k*13+6)) (I (N.r 6))).setCell (Ad pb (k*13+7)) (I (N.r 7))).setCell (Ad pb (k*13+8)) (I N.pc)).setCell (Ad pb (k*13+9)) (I N.st)).setCell (Ad pb (k*13+10)) (I N.cd)).setCell (Ad pb (k*13+11)) (I N.fk)).setCell (Ad pb (k*13+12)) (I N.fa))):=by
 have kS:Kp (fun b=>b=pb) w ((((((((((((((w.setCell (Ad pb (k*13)) (I (N.r 0))).setCell (Ad pb (k*13+1)) (I (N.r 1))).setCell (Ad pb (k*13+2)) (I (N.r 2))).setCell (Ad pb (k*13+3)) (I (N.r 3))).setCell (Ad pb (k*13+4)) (I (N.r 4))).setCell (Ad pb (k*13+5)) (I (N.r 5))).setCell (Ad pb (k*13+6)) (I (N.r 6))).setCell (Ad pb (k*13+7)) (I (N.r 7))).setCell (Ad pb (k*13+8)) (I N.pc)).setCell (Ad pb (k*13+9)) (I N.st)).setCell (Ad pb (k*13+10)) (I N.cd)).setCell (Ad pb (k*13+11)) (I N.fk)).setCell (Ad pb (k*13+12)) (I N.fa))):=GW.Di w pb k N rfl
 refine⟨⟨h.mem.kp kS (fun b g e=>g.1 (by rw[e];rfl)),?_,kS.row h.words (fun g hg e=>h.apart pb rfl (e ▸ hg)),h.apart⟩,kS⟩
 rw[List.length_set]
 exact GW.zF h.procs k hk N
theorem Fo.child {w1 w4:World} {vr':Value} {o:PM.Pr} (h:Fo lo mb w f v L vr vo) (hb:Below w.heap.size w w1) (hgr:w1.grownBy w4 vr.ownBlock) (hown:w4.ownsRow lo 70 13 vr' (f.procs.length+1) (f.procs.flatMap aI++aI o))
  (hat:vr'.ownBlock=vr.ownBlock∨vr'.ownBlock=some w1.heap.size) :
  Fo lo mb (w4.setCell (Ad mb 2) vr') ⟨f.slots,f.ak,f.procs++[o],f.out⟩ v L vr' vo/\Kp (fun b=>b=mb∨blk vr b) w (w4.setCell (Ad mb 2) vr'):=by
 have hz:=hb.size
 have hmb:=B.isLt h.mem.head
 have kC:Kp (blk vr) w w4:=(Kp.aF hb).trans (Kp.grown hgr (fun _ e=>e)) (fun _ _ g=>g)
 have kS:Kp (fun b=>b=mb) w4 (w4.setCell (Ad mb 2) vr'):=Kp.set _ _ _ _ rfl
 have hv':∀b,blk vr' b->blk vr b∨b=w1.heap.size:=fun b g=>by
  have g':vr'.ownBlock=some b:=g
  rcases hat with e | e
  · exact .inl (by show vr.ownBlock=some b;rw[<- e];exact g')
  · rw[e] at g';injection g' with g';exact .inr g'.symm
 have hap:∀b,lo<=b->b<w.heap.size->Ap vr vo b->Ap vr' vo b:=fun b _ hlt g=>⟨fun x=>by rcases hv' b x with y | y;exact g.1 y;omega,g.2⟩
 refine⟨⟨?_,?_,?_,?_⟩,(kC.mono (fun b _ g=>.inr g)).trans (kS.mono (fun b _ g=>.inl g)) (fun _ _ g=>g)⟩
 · exact((h.mem.dom (D':=fun b=>Ap vr vo b/\Ap vr' vo b) (fun b h1 h2 h3=>⟨h3,hap b h1 h2 h3⟩)).kp kC (fun b g e=>g.1.1 e)).PN (j:=2) (u:=vr') (vr':=vr') (vo':=vo) rfl |>.dom (fun b _ _ g=>g.2)
 · refine kS.row ?_ (fun g hg e=>?_)
   · rw[List.length_append,List.flatMap_append]
     simpa using hown
   · rcases hv' g hg with y | y
     · exact h.mem.d1.1 (e ▸ y)
     · omega
 · exact kS.row (kC.row h.words (fun g hg e=>h.apart g e hg)) (fun g hg e=>h.mem.d1.2 (e ▸ hg))
 · intro b hb hb2
   rcases hv' b hb with y | y
   · exact h.apart b y hb2
   · have:=(h.words.lt b hb2).2;omega
end
def qx (w:World) (g:FM.Fl) (e:Ending) (w':World):Prop:=∃az cs ar cr ao co,e=.returned (.agg (FW.bw g az ar ao cs cr co))/\(∀V,Kp (fun b=>b<w.heap.size) w' V->FW.fK V g az ar ao)/\Below w.heap.size w w'
theorem Ug (w:World) (g:Nat) (v0 v1 v2 v3:Value):Kp (fun b=>b=g) w ((((w.setCell (Ad g 0) v0).setCell (Ad g 1) v1).setCell (Ad g 2) v2).setCell (Ad g 3) v3) :=
 (((Kp.set (fun b=>b=g) w (Ad g 0) v0 rfl).trans (Kp.set (fun b=>b=g) _ (Ad g 1) v1 rfl) (fun _ _ h=>h)).trans (Kp.set (fun b=>b=g) _ (Ad g 2) v2 rfl) (fun _ _ h=>h)).trans (Kp.set (fun b=>b=g) _ (Ad g 3) v3 rfl) (fun _ _ h=>h)
theorem sH {lo mb b1:Nat} {w W:World} {g:FM.Fl} {v:Value} {L:List Lc} {vr vo:Value} {sl:Int} (h:Fo lo mb W g v L vr vo) (hsl:g.slots=sl) (hlo:b1<lo) (h1:w.heap.size<=b1) (hb:Below w.heap.size w W) :
  qx w g (.returned (.agg #[I sl,v,vr,vo])) ((((W.setCell (Ad b1 0) (I sl)).setCell (Ad b1 1) v).setCell (Ad b1 2) vr).setCell (Ad b1 3) vo):=by
 subst hsl
 have hk:=Ug W b1 (I g.slots) v vr vo
 have hF:=h.kp hk (fun b e=>.inl (by omega))
 obtain⟨az,ar,ao,cs,cr,co,e1,e2,e3,_⟩:=hF.has
 have hB:Below w.heap.size w ((((W.setCell (Ad b1 0) (I g.slots)).setCell (Ad b1 1) v).setCell (Ad b1 2) vr).setCell (Ad b1 3) vo):=Kp.below hb hk hb.size (fun b e=>by omega)
 refine⟨az,cs,ar,cr,ao,co,by rw[e1,e2,e3];rfl,fun V hV=>?_,hB⟩
 obtain⟨Lg,ar',ov,cs',YR,DY,d1,d2,d3,hh⟩:=(hF.kp hV (fun b e=>.inl (by omega))).has
 rw[d1] at e1
 rw[d2] at e2
 rw[d3] at e3
 injection e1 with e1
 injection e2 with e2
 injection e3 with e3
 rw[<- e1,<- e2,<- e3]
 exact hh
end GO
end Go.Proofs.YtkdigjpejnebkaaGreat
