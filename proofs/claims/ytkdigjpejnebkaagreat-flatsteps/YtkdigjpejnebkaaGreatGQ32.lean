import Derived.Test.YtkdigjpejnebkaaGreatGQ00
import Derived.Test.YtkdigjpejnebkaaGreatGQ31
import Derived.Deep.DeepCutAuto
import Derived.Deep.CutBlock
set_option maxHeartbeats 20000000
set_option linter.unusedVariables false
set_option maxRecDepth 100000
set_option linter.unusedSimpArgs false
namespace Go.Proofs.YtkdigjpejnebkaaGreat
namespace GO
open Go.RowKit GK
open GF (Lc vV bw bH aH eO blk eQ eP dw bl nu dg)
open GW (aI bM bc cx)
open FW (ai aB)
theorem Qc (p:PM.Pr):∀u∈aI p,u.oneCell'=true:=fun u hu=>GH.A4 [p] u (by simpa using hu)
theorem Jr {f:FM.Fl} {k:Nat} {i:PM.ey} {val gs:Int} {Nt:List FM.Sp} {go:List FM.Wd} {q N N0:PM.Pr} {w w':World} {e:Ending} (hN:N=PM.doneN q i val) (hN0:N0=PM.doneN q i 0) (hq:q=FM.au f.procs k) (hy:(i.op=16/\i.m=5)/\0<=val) (h:rQ w ⟨gs,Nt,f.procs.set k N++[N0],go⟩ e w'):rQ w (rE f k i val ⟨gs,Nt,f.procs,go⟩) e w':=by
 unfold rE
 rw[if_pos hy,<- hq,<- hN,<- hN0]
 exact h
theorem De {f:FM.Fl} {k:Nat} {i:PM.ey} {val gs:Int} {Nt:List FM.Sp} {go:List FM.Wd} {q N:PM.Pr} {w w':World} {e:Ending} (hN:N=PM.doneN q i val) (hq:q=FM.au f.procs k) (hno:¬((i.op=16/\i.m=5)/\0<=val)) (h:rQ w ⟨gs,Nt,f.procs.set k N,go⟩ e w'):rQ w (rE f k i val ⟨gs,Nt,f.procs,go⟩) e w':=by
 unfold rE
 rw[if_neg hno,List.append_nil,<- hq,<- hN]
 exact h
theorem JI (f:FM.Fl) (k:Nat) (az ar ao:Option Addr) (cs cr co:Nat) (w:World) (h:FW.fJ w f az ar ao) (hok:GG.l8 GM.qy (GH.bb f)) (hk2:k<f.procs.length) (hs:(FM.au f.procs k).st=1) (ho:f.out.length<2000) :
  Calls Tryz.prog 16 #[.agg (FW.bC f az ar ao cs cr co),I (k:Int)] w (rQ w (GR.dV f (k:Int))):=by
 have En:Hid (GR.Run f k):=⟨hk2,hs,ho⟩
 have qo:=ai (SN hok hk2 hs)
 have Cj:=ai hs
 have Ty:=ai (hok.fit k hk2)
 clear ho
 have hl:=Bf hok
 have hk:k<f.ak.length:=by omega
 have h4:f.ak.length<=4:=hok.mem.few.2
 have u9:=ai hok
 have EO:=ai hk
 have lY:=ai hk2
 obtain⟨ns,hns⟩:=ex f.ak.length
 obtain⟨nr,fw⟩:=ex f.procs.length
 obtain⟨no,hno⟩:=ex f.out.length
 have iy:=ai hns
 have ja:=ai fw
 have jb:=ai hno
 obtain⟨q,hq⟩:=ex (FM.au f.procs k)
 have HQ:=ai hq
 have HOW:Hid (∀V,Below w.heap.size w V->Calls Tryz.prog 47 #[.agg #[I f.slots,.slice az ns cs,.slice ar nr cr,.slice ao no co]] V (Ou V f)):=fun V hV=>by
  have:=A9 f az ar ao cs cr co V (h.below hV) (by omega) (vU hok) (by omega) (by have:f.out.length<=2000:=hok.out;omega)
  unfold FW.bC at this
  rw[<- hns,<- fw,<- hno] at this
  exact this
 unfold FW.bC
 rw[<- hns,<- fw,<- hno]
 rw[<- hq] at hs
 obtain⟨P,hP⟩:=ex (rQ w (GR.dV f (k:Int)))
 have HP:Hid (∀e w',rQ w (GR.dV f (k:Int)) e w'->P e w'):=fun e w' g=>by rw[hP];exact g
 rw[<- hP]
 have cL:=ai (((Below.refl w.heap.size w).alloc (Nat.le_refl _) (.cells #[I f.slots,.slice az ns cs,.slice ar nr cr,.slice ao no co] 30)).alloc (by simp) (.cells #[I 0,Nl,Nl,Nl] 30))
 have BZ:=ai (B.new (w.alloc (.cells #[I f.slots,.slice az ns cs,.slice ar nr cr,.slice ao no co] 30)) #[I 0,Nl,Nl,Nl] 30)
 rw[World.size_alloc] at BZ
 have jc:(k:Int)<(ns:Int):=by omega
 have iB:(k:Int)<(nr:Int):=by omega
 have abZ:nr<=4:=by omega
 clear h hok hP hns fw hno hq hl hk hk2
 go_enter Tryz.func16,Tryz.ntmps16
 go_wp2_with (go_at_call 47;refine(HOW.o _ cL.o).mono ?_;rintro e w3 ⟨ob,v,L,vr,vo,rfl,EE,hF,hb3⟩;obtain⟨sb,cap,pb,uj,aa,na,ca,ap,cp,I9,Lp,rfl,rfl,rfl,hlc,A⟩:=hF.at EO.o lY.o;rw[World.size_alloc,World.size_alloc] at EE;have HF3:=ai hF;have fK:=ai hb3;have uv:=ai A;have K9:=ai (B.below BZ.o (hb3.mono (by simp)) (B.isLt BZ.o));obtain⟨z0,z1,z2,z3⟩:=B.c4 K9.o;have zf:∀j,w3.frozen? ⟨w.heap.size+1,j,none⟩=false:=fun j=>B.free K9.o j;have zl:=B.isLt K9.o;have q9:w3.cell? ⟨pb,k*13+9,none⟩=some (I q.st):=(A.pr 9 (by omega)).trans (by rw[HQ.o];rfl);have jQ:=A.sl;have hpb:=A.pl;clear hF hb3 A;rw[<- iy.o,<- ja.o,<- jb.o])
 have vZ:=ai HF3.o.Qk
 have oL:=ai (cL.o.trans ((fK.o.mono (by simp;omega)).alloc (by have:=fK.o.size;simp at this ⊢;omega) (.cells #[I f.slots,.slice (some ⟨sb,0,none⟩) f.ak.length cap,.slice (some ⟨pb,0,none⟩) f.procs.length uj,.slice I9 f.out.length Lp] 30)))
 have SF:=ai (B.alloc K9.o (.cells #[I f.slots,.slice (some ⟨sb,0,none⟩) f.ak.length cap,.slice (some ⟨pb,0,none⟩) f.procs.length uj,.slice I9 f.out.length Lp] 30))
 rw[<- iy.o,<- ja.o,<- jb.o] at oL SF
 have HEW:Hid (w3.alloc (.cells #[I f.slots,.slice (some ⟨sb,0,none⟩) f.ak.length cap,.slice (some ⟨pb,0,none⟩) f.procs.length uj,.slice I9 f.out.length Lp] 30)=w3.alloc (.cells #[I f.slots,.slice (some ⟨sb,0,none⟩) ns cap,.slice (some ⟨pb,0,none⟩) nr uj,.slice I9 no Lp] 30)):=by
  show _=_
  rw[iy.o,ja.o,jb.o]
 rw[HEW.o] at vZ
 obtain⟨W,hW⟩:=ex (w3.alloc (.cells #[I f.slots,.slice (some ⟨sb,0,none⟩) ns cap,.slice (some ⟨pb,0,none⟩) nr uj,.slice I9 no Lp] 30))
 obtain⟨mb,hmb⟩:=ex w3.heap.size
 obtain⟨b1,hb1⟩:=ex (w.heap.size+1)
 rw[<- hW] at vZ oL SF ⊢
 rw[<- hmb] at vZ ⊢
 rw[<- hb1] at SF ⊢
 have Pn:b1<ob:=by omega
 have hwb:w.heap.size<=b1:=by omega
 clear hs HEW K9 fK HF3 uv HOW cL BZ z0 z1 z2 z3 zf zl q9 jQ hpb hlc EE hW hmb hb1
 obtain⟨sb',cap',pb',YL,aa,na,ca,ap,cp,oG,D5,e1,e2,e3,hlc,A⟩:=vZ.o.at EO.o lY.o
 injection e1 with e1 _ U0
 injection e1 with e1
 injection e1 with e1
 injection e2 with e2 _ e2'
 injection e2 with e2
 injection e2 with e2
 injection e3 with e3 _ e3'
 subst e1 U0 e2 e2' e3 e3'
 have Cu:=ai A
 have jQ:=A.sl
 have hpb:=A.pl
 obtain⟨lv,hlv⟩:=ex ((FM.ax f.ak k).live)
 obtain⟨np,fE⟩:=ex ((FM.ax f.ak k).aj.length)
 obtain⟨fx,Yg⟩:=ex (FM.bG (FM.ax f.ak k).aw q.pc 8 2)
 obtain⟨xk,xa⟩:=fx
 have qA:=ai hlv
 have vd:=ai fE
 have PD:=ai Yg
 have rU:Hid (AM.aD (FM.ax f.ak k).aw=0):=(nt qo.o EO.o).check
 have Vz:Hid (∀(V:World) (a s y:Int),Below W.heap.size W V->M.dD a->s<=9223372036854775807->Calls Tryz.prog 48 #[.slice aa na ca,I a,I s,I y] V fun e w'=>e=.returned (.agg (FW.di (FM.bG (FM.ax f.ak k).aw a s y)))/\Below V.heap.size V w'):=fun V a s y hV ha hz=>FW.DV _ _ a s y V (Cu.o.aw.below hV) rU.o ha hz
 have Zz:Hid (∀V,Below W.heap.size W V->Calls Tryz.prog 48 #[.slice aa na ca,I q.pc,I 8,I 2] V fun e w'=>e=.returned (.agg #[I xk,I xa])/\Below V.heap.size V w'):=fun V hV=>by
  have:=Vz.o V q.pc 8 2 hV (by rw[HQ.o];exact Ty.o.2) (by decide)
  rw[<- PD.o] at this
  exact this
 have Sv:Hid (∀V,Below W.heap.size W V->V.cell? ⟨sb,k*3,none⟩=some (.bool lv)/\V.cell? ⟨sb,k*3+1,none⟩=some (.slice aa na ca)/\V.cell? ⟨sb,k*3+2,none⟩=some (.slice ap np cp)):=fun V hV=>⟨(M.aA hV jQ).trans (by rw[qA.o];exact Cu.o.c0),(M.aA hV jQ).trans Cu.o.c1,(M.aA hV jQ).trans (by rw[vd.o];exact Cu.o.c2)⟩
 have O8:Hid (∀V,Below W.heap.size W V->V.cell? ⟨pb,k*13,none⟩=some (I (q.r 0))/\V.cell? ⟨pb,k*13+1,none⟩=some (I (q.r 1))/\V.cell? ⟨pb,k*13+2,none⟩=some (I (q.r 2))/\V.cell? ⟨pb,k*13+3,none⟩=some (I (q.r 3))/\V.cell? ⟨pb,k*13+4,none⟩=some (I (q.r 4))/\V.cell? ⟨pb,k*13+5,none⟩=some (I (q.r 5))/\V.cell? ⟨pb,k*13+6,none⟩=some (I (q.r 6))/\V.cell? ⟨pb,k*13+7,none⟩=some (I (q.r 7))/\V.cell? ⟨pb,k*13+8,none⟩=some (I q.pc)/\V.cell? ⟨pb,k*13+9,none⟩=some (I q.st)/\V.cell? ⟨pb,k*13+10,none⟩=some (I q.cd)/\V.cell? ⟨pb,k*13+11,none⟩=some (I q.fk)/\V.cell? ⟨pb,k*13+12,none⟩=some (I q.fa)):=fun V hV=>⟨(M.aA hV hpb).trans ((Cu.o.pr 0 (by omega)).trans (by rw[HQ.o];rfl)),(M.aA hV hpb).trans ((Cu.o.pr 1 (by omega)).trans (by rw[HQ.o];rfl)),(M.aA hV hpb).trans ((Cu.o.pr 2 (by omega)).trans (by rw[HQ.o];rfl)),(M.aA hV hpb).trans ((Cu.o.pr 3 (by omega)).trans (by rw[HQ.o];rfl)),(M.aA hV hpb).trans ((Cu.o.pr 4 (by omega)).trans (by rw[HQ.o];rfl)),(M.aA hV hpb).trans ((Cu.o.pr 5 (by omega)).trans (by rw[HQ.o];rfl)),(M.aA hV hpb).trans ((Cu.o.pr 6 (by omega)).trans (by rw[HQ.o];rfl)),(M.aA hV hpb).trans ((Cu.o.pr 7 (by omega)).trans (by rw[HQ.o];rfl)),(M.aA hV hpb).trans ((Cu.o.pr 8 (by omega)).trans (by rw[HQ.o];rfl)),(M.aA hV hpb).trans ((Cu.o.pr 9 (by omega)).trans (by rw[HQ.o];rfl)),(M.aA hV hpb).trans ((Cu.o.pr 10 (by omega)).trans (by rw[HQ.o];rfl)),(M.aA hV hpb).trans ((Cu.o.pr 11 (by omega)).trans (by rw[HQ.o];rfl)),(M.aA hV hpb).trans ((Cu.o.pr 12 (by omega)).trans (by rw[HQ.o];rfl))⟩
 clear A hlv fE Yg
 go_cut [8] (fun x8 wx=>∃X,x8=.pointer (some ⟨X,0,none⟩)/\W.heap.size<=X/\wx.heap[X]?=some (.cells #[I xk,I xa] 68 (0,0))/\Below W.heap.size W wx)
 case first =>
  have cJ:Hid (∀V,Below W.heap.size W V->V.cell? ⟨sb,k*3+1,none⟩=some (.slice aa na ca)/\V.cell? ⟨pb,k*13+8,none⟩=some (I q.pc)):=fun V hV=>⟨(Sv.o V hV).2.1,(O8.o V hV).2.2.2.2.2.2.2.2.1⟩
  have cB:Hid (Below W.heap.size W W.drew):=(Below.refl _ _).drew
  refine GZ.mR (S:=fun V=>Below W.heap.size W V) (z:=10) (by kernel_rfl) ?_
  refine GZ.tk 0 cB.o ?_ ?_ ?_
  rotate_left 1
  · intro V h
    obtain⟨k0,k1⟩:=cJ.o V h
    go_simp
    try with_reducible rfl
  refine GZ.tk 1 cB.o ?_ ?_ ?_
  rotate_left 1
  · intro V h
    obtain⟨k0,k1⟩:=cJ.o V h
    go_simp
    try with_reducible rfl
  refine GZ.tk 2 cB.o ?_ ?_ ?_
  rotate_left 1
  · intro V h
    obtain⟨k0,k1⟩:=cJ.o V h
    go_simp
    try with_reducible rfl
  refine GZ.tk 3 cB.o ?_ ?_ ?_
  rotate_left 1
  · intro V h
    obtain⟨k0,k1⟩:=cJ.o V h
    go_simp
    try with_reducible rfl
  refine GZ.tk 4 cB.o ?_ ?_ ?_
  rotate_left 1
  · intro V h
    obtain⟨k0,k1⟩:=cJ.o V h
    go_simp
    try with_reducible rfl
  refine GZ.tk 5 cB.o ?_ ?_ ?_
  rotate_left 1
  · intro V h
    obtain⟨k0,k1⟩:=cJ.o V h
    go_simp
    try with_reducible rfl
  refine GZ.tk 6 cB.o ?_ ?_ ?_
  rotate_left 1
  · intro V h
    obtain⟨k0,k1⟩:=cJ.o V h
    go_simp
    try with_reducible rfl
  refine GZ.tk 7 cB.o ?_ ?_ ?_
  rotate_left 1
  · intro V h
    obtain⟨k0,k1⟩:=cJ.o V h
    go_simp
    try with_reducible rfl
  refine GZ.all (rs:=[8,9]) (by kernel_rfl) (by simp) ?_
  refine GZ.bJ.cons rfl (fun K hK=>?_) ?_
  · go_simp;go_at_call 48;refine(Zz.o _ cB.o).mono ?_;rintro e w6 ⟨rfl,Cy⟩;have wa:Hid (Below W.heap.size W w6):=cB.o.trans (Cy.mono cB.o.size);clear Cy;go_simp
    refine hK.out _ _ (fun _=>?_) ?_
    · exact wa.o
    clear hK K
    try simp only[Act.put,List.setIfInBounds_toArray,List.set_cons_zero,List.set_cons_succ]
    have HA6:Hid (∀o,Below W.heap.size W (w6.alloc o)):=fun o=>wa.o.alloc wa.o.size o
    refine GZ.all (rs:=[9]) (by kernel_rfl) (by simp) ?_
    refine GZ.bJ.cons rfl (fun K hK=>?_) GZ.bJ.nil
    go_simp
    refine hK.out _ _ (fun _=>?_) ?_
    · exact HA6.o _
    clear hK K
    try simp only[Act.put,List.setIfInBounds_toArray,List.set_cons_zero,List.set_cons_succ]
    refine GZ.all (rs:=[10]) (by kernel_rfl) (by simp) ?_
    refine GZ.bJ.cons rfl (fun K hK=>?_) GZ.bJ.nil
    go_simp
    refine hK.out _ _ (fun g=>absurd rfl g) ?_
    refine GZ.done (by kernel_rfl) ?_ _
    go_wp2_with fail
    go_meet
    case rel=>exact⟨_,rfl,wa.o.size,B.new w6 _ _,HA6.o _⟩
  refine GZ.bJ.cons rfl (fun K hK=>?_) GZ.bJ.nil
  have Aw:Hid (Below W.heap.size W (W.drew.alloc (.cells #[I 0,I 0] 68))):=cB.o.alloc cB.o.size _
  have BX0:Hid ((W.drew.alloc (.cells #[I 0,I 0] 68)).heap[W.heap.size]?=some (.cells #[I 0,I 0] 68 (0,0))):=B.new W.drew _ _
  go_simp
  refine hK.out _ _ (fun _=>?_) ?_
  · exact Aw.o
  clear hK K
  try simp only[Act.put,List.setIfInBounds_toArray,List.set_cons_zero,List.set_cons_succ]
  refine GZ.all (rs:=[8]) (by kernel_rfl) (by simp) ?_
  refine GZ.bJ.cons rfl (fun K hK=>?_) GZ.bJ.nil
  go_simp;go_at_call 48;refine(Zz.o _ Aw.o).mono ?_;rintro e w6 ⟨rfl,Cy⟩;have wa:Hid (Below W.heap.size W w6):=Aw.o.trans (Cy.mono Aw.o.size);have BX6:=ai (B.below BX0.o Cy (B.isLt BX0.o));obtain⟨j0,j1⟩:=B.c2 BX6.o;have jf:∀j,w6.frozen? ⟨W.heap.size,j,none⟩=false:=fun j=>B.free BX6.o j;clear Cy;go_simp
  refine hK.out _ _ (fun _=>?_) ?_
  · exact wa.o
  clear hK K
  try simp only[Act.put,List.setIfInBounds_toArray,List.set_cons_zero,List.set_cons_succ]
  refine GZ.all (rs:=[10]) (by kernel_rfl) (by simp) ?_
  refine GZ.bJ.cons rfl (fun K hK=>?_) GZ.bJ.nil
  go_simp
  refine hK.out _ _ (fun g=>absurd rfl g) ?_
  refine GZ.done (by kernel_rfl) ?_ _
  go_wp2_with fail
  go_meet
  case rel=>exact⟨_,rfl,Nat.le_refl _,P7 BX6.o _ _,Kp.below wa.o (MJ (D:=fun b=>b=W.heap.size) _ _ _ _ rfl) wa.o.size (fun b e=>by omega)⟩
 case rest =>
  obtain⟨X,rfl,hX,SU,hbc⟩:=hcut
  have BX:=ai SU
  have kO:=ai hbc
  have c80:wc.cell? ⟨X,0,none⟩=some (I xk):=B.cell SU 0 rfl
  have hXl:=B.isLt SU
  have hcs:=hbc.size
  clear SU hbc Zz
  go_upto_if 40 with fail
  have rV:=ai ((kO.o.alloc kO.o.size (.cells #[I 0,I 0,I 0,I 0,I 0] 99)).alloc (by have:=kO.o.size;simp;omega) (.cells #[I 0,I 0,I 0,I 0,I 0] 101))
  have B9:=ai (B.alloc (B.new wc #[I 0,I 0,I 0,I 0,I 0] 99) (.cells #[I 0,I 0,I 0,I 0,I 0] 101))
  have Wv:=ai (B.new (wc.alloc (.cells #[I 0,I 0,I 0,I 0,I 0] 99)) #[I 0,I 0,I 0,I 0,I 0] 101)
  have B8:=ai (B.alloc (B.alloc BX.o (.cells #[I 0,I 0,I 0,I 0,I 0] 99)) (.cells #[I 0,I 0,I 0,I 0,I 0] 101))
  rw[World.size_alloc] at Wv
  obtain⟨W8,hW8⟩:=ex ((wc.alloc (.cells #[I 0,I 0,I 0,I 0,I 0] 99)).alloc (.cells #[I 0,I 0,I 0,I 0,I 0] 101))
  rw[<- hW8] at rV B9 Wv B8 ⊢
  obtain⟨x9,hx9⟩:=ex wc.heap.size
  rw[<- hx9] at B9 Wv ⊢
  have hX9:X<x9:=by omega
  have hWX:W.heap.size<=X:=hX
  clear hW8 hx9 c80 kO BX hXl hcs
  have VA:=ai (vZ.o.below rV.o)
  have Y8:Hid (∀V,Kp (fun b=>b=X∨b=x9∨b=x9+1) W8 V->Below W.heap.size W V):=fun V hV=>Kp.below rV.o hV rV.o.size (fun b e=>by omega)
  go_cut [] (fun wx=>Kp (fun b=>b=X∨b=x9∨b=x9+1) W8 wx/\∃yk ya,wx.heap[X]?=some (.cells #[I yk,I ya] 68 (0,0))/\((¬yk=0/\GR.dV f (k:Int)=GR.Iq f k (yk,ya))∨(yk=0/\∃i,Good f k i/\wx.heap[x9]?=some (.cells i.cells 99 (0,0))/\wx.heap[x9+1]?=some (.cells (PM.km q i) 101 (0,0)))))
  case first =>
   by_cases hx0:xk=0
   case neg =>
    have Z6:(xk==0)=false:=by rw[beq_eq_false_iff_ne];exact hx0
    go_wp2
    go_meet
    case rel=>exact⟨Kp.refl _ _,xk,xa,B8.o,.inl ⟨hx0,by
     have e:=PD.o
     rw[HQ.o] at e
     have:=GR.E1 En.o (by rw[<- e];exact hx0)
     rw[<- e] at this
     exact this⟩⟩
   subst hx0
   have HX0:Hid ((FM.bG (FM.ax f.ak k).aw q.pc 8 2).1=0):=by show _=_;rw[<- PD.o]
   obtain⟨D,hD⟩:=ex (GM.ig (FM.ax f.ak k).aj q.pc 8)
   have HD:=ai hD
   obtain⟨i,hi⟩:=ex (PM.ins D)
   have HI:=ai hi
   have HD8:Hid (D.size=8):=by show _=_;rw[HD.o];exact SS qo.o EO.o (m:=8) (by omega) (by omega) HX0.o
   have oI:Hid i.fits:=by rw[HI.o];exact PM.po D HD8.o
   have ES:Hid (∀V,Below W.heap.size W V->Calls Tryz.prog 50 #[.agg #[.bool lv,.slice aa na ca,.slice ap np cp],I q.pc,I 8] V fun e w'=>e=.returned (.string D)/\Below V.heap.size V w'):=fun V hV=>by
    rw[HD.o,qA.o,vd.o]
    exact Oc qo.o EO.o (m:=8) (by omega) (by omega) HX0.o _ ⟨_,_,_,rfl⟩ ap cp V (Cu.o.aj.below hV)
   have nC:Hid (∀V,Calls Tryz.prog 49 #[.string D] V fun e w'=>e=.returned (.agg i.cells)/\Below V.heap.size V w'):=fun V=>by
    rw[HI.o]
    exact PW.Nv D V HD8.o
   obtain⟨k0,a1,a2,a3,a4,Yx,xH⟩:=tI q i
   have ZM:=ai Yx
   have Ew:=ai xH
   have HAS:Hid (∀V,Calls Tryz.prog 51 #[q.val,.agg i.cells] V fun e w'=>e=.returned (.agg #[I k0,I a1,I a2,I a3,I a4])/\Below V.heap.size V w'):=fun V=>by
    rw[<- ZM.o]
    cases hb:i.bad with
    | false=>exact PW.Oj q i V oI.o hb
    | true =>
     have:=Oh q i V hb
     have e:PM.km q i=#[I 4,I 0,I 0,I 0,I 0]:=by
      unfold PM.km
      rw[if_pos hb]
     rw[e]
     exact this
   clear hD hi Yx xH
   obtain⟨op,ia,ib,ic,im⟩:=i
   unfold PM.ey.cells at nC HAS
   simp only at nC HAS
   unfold PM.Pr.val PM.Pr.row at HAS
   go_wp2_with fail
   have cB:Hid (Below W8.heap.size W8 W8.drew):=(Below.refl _ _).drew
   have Ci:Hid (∀V,Below W8.heap.size W8 V->Below W.heap.size W V):=fun V hV=>rV.o.trans (hV.mono rV.o.size)
   have cJ:Hid (∀V,Below W8.heap.size W8 V->V.cell? ⟨sb,k*3,none⟩=some (.bool lv)/\V.cell? ⟨sb,k*3+1,none⟩=some (.slice aa na ca)/\V.cell? ⟨sb,k*3+2,none⟩=some (.slice ap np cp)/\V.cell? ⟨pb,k*13+8,none⟩=some (I q.pc)):=fun V hV=>⟨(Sv.o V (Ci.o V hV)).1,(Sv.o V (Ci.o V hV)).2.1,(Sv.o V (Ci.o V hV)).2.2,(O8.o V (Ci.o V hV)).2.2.2.2.2.2.2.2.1⟩
   refine GZ.mR (S:=fun V=>Below W8.heap.size W8 V) (z:=9) (by kernel_rfl) ?_
   refine GZ.tk 0 cB.o ?_ ?_ ?_
   rotate_left 1
   · intro V h
     obtain⟨k0,k1,k2,k3⟩:=cJ.o V h
     go_simp
     try with_reducible rfl
   refine GZ.tk 1 cB.o ?_ ?_ ?_
   rotate_left 1
   · intro V h
     obtain⟨k0,k1,k2,k3⟩:=cJ.o V h
     go_simp
     try with_reducible rfl
   refine GZ.tk 2 cB.o ?_ ?_ ?_
   rotate_left 1
   · intro V h
     obtain⟨k0,k1,k2,k3⟩:=cJ.o V h
     go_simp
     try with_reducible rfl
   refine GZ.tk 3 cB.o ?_ ?_ ?_
   rotate_left 1
   · intro V h
     obtain⟨k0,k1,k2,k3⟩:=cJ.o V h
     go_simp
     try with_reducible rfl
   refine GZ.tk 4 cB.o ?_ ?_ ?_
   rotate_left 1
   · intro V h
     obtain⟨k0,k1,k2,k3⟩:=cJ.o V h
     go_simp
     try with_reducible rfl
   refine GZ.tk 5 cB.o ?_ ?_ ?_
   rotate_left 1
   · intro V h
     obtain⟨k0,k1,k2,k3⟩:=cJ.o V h
     go_simp
     try with_reducible rfl
   refine GZ.tk 6 cB.o ?_ ?_ ?_
   rotate_left 1
   · intro V h
     obtain⟨k0,k1,k2,k3⟩:=cJ.o V h
     go_simp
     try with_reducible rfl
   refine GZ.all (rs:=[7]) (by kernel_rfl) (by simp) ?_
   refine GZ.bJ.cons rfl (fun K hK=>?_) GZ.bJ.nil
   go_simp;go_at_call 50;refine(ES.o _ (Ci.o _ cB.o)).mono ?_;rintro e w6 ⟨rfl,Cy⟩;have wa:Hid (Below W8.heap.size W8 w6):=cB.o.trans (Cy.mono cB.o.size);clear Cy;go_simp
   refine hK.out _ _ (fun _=>?_) ?_
   · exact wa.o
   clear hK K
   try simp only[Act.put,List.setIfInBounds_toArray,List.set_cons_zero,List.set_cons_succ]
   refine GZ.all (rs:=[8]) (by kernel_rfl) (by simp) ?_
   refine GZ.bJ.cons rfl (fun K hK=>?_) GZ.bJ.nil
   go_simp;go_at_call 49;refine(nC.o _).mono ?_;rintro e w7 ⟨rfl,tL⟩;have iE:Hid (Below W8.heap.size W8 w7):=wa.o.trans (tL.mono wa.o.size);have SJ:=ai (B.below B9.o iE.o (B.isLt B9.o));obtain⟨j0,j1,j2,j3,j4⟩:=B.c5 SJ.o;have jf:∀j,w7.frozen? ⟨x9,j,none⟩=false:=fun j=>B.free SJ.o j;clear tL;go_simp
   refine hK.out _ _ (fun _=>?_) ?_
   · exact iE.o
   clear hK K
   try simp only[Act.put,List.setIfInBounds_toArray,List.set_cons_zero,List.set_cons_succ]
   refine GZ.all (rs:=[9]) (by kernel_rfl) (by simp) ?_
   refine GZ.bJ.cons rfl (fun K hK=>?_) GZ.bJ.nil
   go_simp
   refine hK.out _ _ (fun g=>absurd rfl g) ?_
   refine GZ.done (by kernel_rfl) ?_ _
   have La:=ai (Wz SJ.o (I op) (I ia) (I ib) (I ic) (I im))
   have OY:Hid (Kp (fun b=>b=X∨b=x9∨b=x9+1) W8 (((((w7.setCell ⟨x9,0,none⟩ (I op)).setCell ⟨x9,1,none⟩ (I ia)).setCell ⟨x9,2,none⟩ (I ib)).setCell ⟨x9,3,none⟩ (I ic)).setCell ⟨x9,4,none⟩ (I im))):=(Kp.aF iE.o).trans (VQ _ _ _ _ _ _ _ (.inr (.inl rfl))) (fun _ _ g=>g)
   have SK:=ai ((VQ (D:=fun b=>b=x9) w7 x9 (I op) (I ia) (I ib) (I ic) (I im) rfl).keep (B.below Wv.o iE.o (B.isLt Wv.o)) (by omega))
   have SG:=ai ((VQ (D:=fun b=>b=x9) w7 x9 (I op) (I ia) (I ib) (I ic) (I im) rfl).keep (B.below B8.o iE.o (B.isLt B8.o)) (by omega))
   obtain⟨Lb,Xp⟩:=ex ((((((w7.setCell ⟨x9,0,none⟩ (I op)).setCell ⟨x9,1,none⟩ (I ia)).setCell ⟨x9,2,none⟩ (I ib)).setCell ⟨x9,3,none⟩ (I ic)).setCell ⟨x9,4,none⟩ (I im)))
   rw[<- Xp] at La OY SK SG ⊢
   clear Xp j0 j1 j2 j3 j4 jf SJ iE wa cJ Ci cB ES nC
   go_wp2_with fail
   have cB:Hid (Below Lb.heap.size Lb Lb.drew):=(Below.refl _ _).drew
   have Ci:Hid (∀V,Below Lb.heap.size Lb V->Below W.heap.size W V):=fun V hV=>(Y8.o _ OY.o).trans (hV.mono (Y8.o _ OY.o).size)
   have cJ:Hid (∀V,Below Lb.heap.size Lb V->V.cell? ⟨pb,k*13,none⟩=some (I (q.r 0))/\V.cell? ⟨pb,k*13+1,none⟩=some (I (q.r 1))/\V.cell? ⟨pb,k*13+2,none⟩=some (I (q.r 2))/\V.cell? ⟨pb,k*13+3,none⟩=some (I (q.r 3))/\V.cell? ⟨pb,k*13+4,none⟩=some (I (q.r 4))/\V.cell? ⟨pb,k*13+5,none⟩=some (I (q.r 5))/\V.cell? ⟨pb,k*13+6,none⟩=some (I (q.r 6))/\V.cell? ⟨pb,k*13+7,none⟩=some (I (q.r 7))/\V.cell? ⟨pb,k*13+8,none⟩=some (I q.pc)/\V.cell? ⟨pb,k*13+9,none⟩=some (I q.st)/\V.cell? ⟨pb,k*13+10,none⟩=some (I q.cd)/\V.cell? ⟨pb,k*13+11,none⟩=some (I q.fk)/\V.cell? ⟨pb,k*13+12,none⟩=some (I q.fa)/\V.cell? ⟨x9,0,none⟩=some (I op)/\V.cell? ⟨x9,1,none⟩=some (I ia)/\V.cell? ⟨x9,2,none⟩=some (I ib)/\V.cell? ⟨x9,3,none⟩=some (I ic)/\V.cell? ⟨x9,4,none⟩=some (I im)):=fun V hV=>by
    obtain⟨d0,d1,d2,d3,d4,d5,d6,d7,d8,d9,d10,d11,d12⟩:=O8.o V (Ci.o V hV)
    have hx:=B.below La.o hV (B.isLt La.o)
    exact⟨d0,d1,d2,d3,d4,d5,d6,d7,d8,d9,d10,d11,d12,B.cell hx 0 rfl,B.cell hx 1 rfl,B.cell hx 2 rfl,B.cell hx 3 rfl,B.cell hx 4 rfl⟩
   refine GZ.mR (S:=fun V=>Below Lb.heap.size Lb V) (z:=5) (by kernel_rfl) ?_
   refine GZ.tk 0 cB.o ?_ ?_ ?_
   rotate_left 1
   · intro V h
     obtain⟨k0,k1,k2,k3,k4,k5,k6,k7,k8,k9,k10,k11,k12,k13,k14,k15,k16,k17⟩:=cJ.o V h
     go_simp
     try with_reducible rfl
   refine GZ.tk 1 cB.o ?_ ?_ ?_
   rotate_left 1
   · intro V h
     obtain⟨k0,k1,k2,k3,k4,k5,k6,k7,k8,k9,k10,k11,k12,k13,k14,k15,k16,k17⟩:=cJ.o V h
     go_simp
     try with_reducible rfl
   refine GZ.tk 2 cB.o ?_ ?_ ?_
   rotate_left 1
   · intro V h
     obtain⟨k0,k1,k2,k3,k4,k5,k6,k7,k8,k9,k10,k11,k12,k13,k14,k15,k16,k17⟩:=cJ.o V h
     go_simp
     try with_reducible rfl
   refine GZ.tk 3 cB.o ?_ ?_ ?_
   rotate_left 1
   · intro V h
     obtain⟨k0,k1,k2,k3,k4,k5,k6,k7,k8,k9,k10,k11,k12,k13,k14,k15,k16,k17⟩:=cJ.o V h
     go_simp
     try with_reducible rfl
   refine GZ.all (rs:=[4]) (by kernel_rfl) (by simp) ?_
   refine GZ.bJ.cons rfl (fun K hK=>?_) GZ.bJ.nil
   go_simp;go_at_call 51;refine(HAS.o _).mono ?_;rintro e w7 ⟨rfl,tL⟩;have iE:Hid (Below Lb.heap.size Lb w7):=cB.o.trans (tL.mono cB.o.size);have SJ:=ai (B.below SK.o iE.o (B.isLt SK.o));obtain⟨j0,j1,j2,j3,j4⟩:=B.c5 SJ.o;have jf:∀j,w7.frozen? ⟨x9+1,j,none⟩=false:=fun j=>B.free SJ.o j;clear tL;go_simp
   refine hK.out _ _ (fun _=>?_) ?_
   · exact iE.o
   clear hK K
   try simp only[Act.put,List.setIfInBounds_toArray,List.set_cons_zero,List.set_cons_succ]
   refine GZ.all (rs:=[5]) (by kernel_rfl) (by simp) ?_
   refine GZ.bJ.cons rfl (fun K hK=>?_) GZ.bJ.nil
   go_simp
   refine hK.out _ _ (fun g=>absurd rfl g) ?_
   refine GZ.done (by kernel_rfl) ?_ _
   have vQ:=ai (Wz SJ.o (I k0) (I a1) (I a2) (I a3) (I a4))
   have H6:=ai ((VQ (D:=fun b=>b=x9+1) w7 (x9+1) (I k0) (I a1) (I a2) (I a3) (I a4) rfl).keep (B.below La.o iE.o (B.isLt La.o)) (by omega))
   have zA:=ai ((VQ (D:=fun b=>b=x9+1) w7 (x9+1) (I k0) (I a1) (I a2) (I a3) (I a4) rfl).keep (B.below SG.o iE.o (B.isLt SG.o)) (by omega))
   have Ho:Hid (Kp (fun b=>b=X∨b=x9∨b=x9+1) W8 (((((w7.setCell ⟨x9+1,0,none⟩ (I k0)).setCell ⟨x9+1,1,none⟩ (I a1)).setCell ⟨x9+1,2,none⟩ (I a2)).setCell ⟨x9+1,3,none⟩ (I a3)).setCell ⟨x9+1,4,none⟩ (I a4))):=OY.o.trans ((Kp.aF iE.o).trans (VQ _ _ _ _ _ _ _ (.inr (.inr rfl))) (fun _ _ g=>g)) (fun _ _ g=>g)
   obtain⟨vt,Xo⟩:=ex ((((((w7.setCell ⟨x9+1,0,none⟩ (I k0)).setCell ⟨x9+1,1,none⟩ (I a1)).setCell ⟨x9+1,2,none⟩ (I a2)).setCell ⟨x9+1,3,none⟩ (I a3)).setCell ⟨x9+1,4,none⟩ (I a4)))
   rw[<- Xo] at vQ H6 zA Ho ⊢
   clear Xo j0 j1 j2 j3 j4 jf SJ iE cJ Ci cB HAS SK SG La OY
   have Hw:=ai (Y8.o _ Ho.o)
   have vg:Hid ((FM.bG (FM.ax f.ak k).aw (FM.au f.procs k).pc 8 2).1=0):=by show _=_;rw[<- HQ.o];exact HX0.o
   have HG2:Hid (PM.ins (GM.ig (FM.ax f.ak k).aj (FM.au f.procs k).pc 8)=⟨op,ia,ib,ic,im⟩):=by show _=_;rw[<- HQ.o,<- HD.o];exact HI.o.symm
   have c0:vt.cell? ⟨x9+1,0,none⟩=some (I k0):=B.cell vQ.o 0 rfl
   have xf:∀j,vt.frozen? ⟨X,j,none⟩=false:=fun j=>B.free zA.o j
   obtain⟨xc0,xc1⟩:=B.c2 zA.o
   have hp8:vt.cell? ⟨pb,k*13+8,none⟩=some (I q.pc):=(O8.o _ Hw.o).2.2.2.2.2.2.2.2.1
   clear HX0 HD8
   have xH:=Ew.o
   rcases xH with⟨qJ,rfl⟩ | ⟨qJ,⟨ho,rfl,ha1,ha2,DD⟩ | ⟨ho,rfl,ha1,ha2,ha3,DD⟩ | ⟨ho,rfl,DD⟩ | ⟨h9,h10,Bu,rfl,DD⟩⟩
   · have qR:=ai qJ
     clear qJ
     go_wp2
     go_meet
     case rel=>exact⟨Ho.o.trans (MJ _ _ _ _ (.inl rfl)) (fun _ _ g=>g),4,q.pc,P7 zA.o _ _,.inl ⟨by decide,by
      rw[HQ.o]
      exact GR.tS En.o vg.o HG2.o (show ¬(4:Int)=0 by decide) (GR.RL qR.o)⟩⟩
   · have qR:=ai qJ
     have PC:=ai ho
     have se:=ai (sB qJ (.inl ho))
     have tJ:=ai ha1
     have fL:=ai ha2
     obtain⟨fy,Yf⟩:=ex (FM.bG (FM.ax f.ak k).aw a1 a2 0)
     obtain⟨yk,ya⟩:=fy
     have Zx:=ai Yf
     have nD:Hid (∀V,Below W.heap.size W V->Calls Tryz.prog 48 #[.slice aa na ca,I a1,I a2,I 0] V fun e w'=>e=.returned (.agg #[I yk,I ya])/\Below V.heap.size V w'):=fun V hV=>by
      have:=Vz.o V a1 a2 0 hV (by rw[tJ.o];exact GG.fS _) (by have h1:=se.o;have h2:=fL.o;simp only at h1 h2;omega)
      rw[<- Zx.o] at this
      exact this
     clear qJ ho ha1 ha2 DD Yf
     go_wp2_with fail
     have cB:Hid (Below vt.heap.size vt vt.drew):=(Below.refl _ _).drew
     have Ci:Hid (∀V,Below vt.heap.size vt V->Below W.heap.size W V):=fun V hV=>Hw.o.trans (hV.mono Hw.o.size)
     have cJ:Hid (∀V,Below vt.heap.size vt V->V.cell? ⟨sb,k*3+1,none⟩=some (.slice aa na ca)/\V.cell? ⟨x9+1,1,none⟩=some (I a1)/\V.cell? ⟨x9+1,2,none⟩=some (I a2)):=fun V hV=>by
      have hx:=B.below vQ.o hV (B.isLt vQ.o)
      exact⟨(Sv.o V (Ci.o V hV)).2.1,B.cell hx 1 rfl,B.cell hx 2 rfl⟩
     refine GZ.mR (S:=fun V=>Below vt.heap.size vt V) (z:=9) (by kernel_rfl) ?_
     refine GZ.tk 0 cB.o ?_ ?_ ?_
     rotate_left 1
     · intro V h
       obtain⟨k0,k1,k2⟩:=cJ.o V h
       go_simp
       try with_reducible rfl
     refine GZ.tk 1 cB.o ?_ ?_ ?_
     rotate_left 1
     · intro V h
       obtain⟨k0,k1,k2⟩:=cJ.o V h
       go_simp
       try with_reducible rfl
     refine GZ.tk 2 cB.o ?_ ?_ ?_
     rotate_left 1
     · intro V h
       obtain⟨k0,k1,k2⟩:=cJ.o V h
       go_simp
       try with_reducible rfl
     refine GZ.tk 3 cB.o ?_ ?_ ?_
     rotate_left 1
     · intro V h
       obtain⟨k0,k1,k2⟩:=cJ.o V h
       go_simp
       try with_reducible rfl
     refine GZ.tk 4 cB.o ?_ ?_ ?_
     rotate_left 1
     · intro V h
       obtain⟨k0,k1,k2⟩:=cJ.o V h
       go_simp
       try with_reducible rfl
     refine GZ.tk 5 cB.o ?_ ?_ ?_
     rotate_left 1
     · intro V h
       obtain⟨k0,k1,k2⟩:=cJ.o V h
       go_simp
       try with_reducible rfl
     refine GZ.tk 6 cB.o ?_ ?_ ?_
     rotate_left 1
     · intro V h
       obtain⟨k0,k1,k2⟩:=cJ.o V h
       go_simp
       try with_reducible rfl
     refine GZ.tk 7 cB.o ?_ ?_ ?_
     rotate_left 1
     · intro V h
       obtain⟨k0,k1,k2⟩:=cJ.o V h
       go_simp
       try with_reducible rfl
     refine GZ.all (rs:=[8]) (by kernel_rfl) (by simp) ?_
     refine GZ.bJ.cons rfl (fun K hK=>?_) GZ.bJ.nil
     go_simp;go_at_call 48;refine(nD.o _ (Ci.o _ cB.o)).mono ?_;rintro e w7 ⟨rfl,tL⟩;have iE:Hid (Below vt.heap.size vt w7):=cB.o.trans (tL.mono cB.o.size);have VN:=ai (B.below zA.o iE.o (B.isLt zA.o));obtain⟨j0,j1⟩:=B.c2 VN.o;have jf:∀j,w7.frozen? ⟨X,j,none⟩=false:=fun j=>B.free VN.o j;clear tL;go_simp
     refine hK.out _ _ (fun _=>?_) ?_
     · exact iE.o
     clear hK K
     try simp only[Act.put,List.setIfInBounds_toArray,List.set_cons_zero,List.set_cons_succ]
     refine GZ.all (rs:=[9]) (by kernel_rfl) (by simp) ?_
     refine GZ.bJ.cons rfl (fun K hK=>?_) GZ.bJ.nil
     go_simp
     refine hK.out _ _ (fun g=>absurd rfl g) ?_
     refine GZ.done (by kernel_rfl) ?_ _
     go_wp2_with fail
     go_meet
     case rel =>
      have e:=Zx.o
      rw[tJ.o,fL.o,HQ.o] at e
      refine⟨Ho.o.trans ((Kp.aF iE.o).trans (MJ _ _ _ _ (.inl rfl)) (fun _ _ g=>g)) (fun _ _ g=>g),yk,ya,P7 VN.o _ _,?_⟩
      by_cases hy:yk=0
      · exact .inr ⟨hy,⟨op,ia,ib,ic,im⟩,⟨vg.o,HG2.o,qR.o,oI.o,fun _=>by rw[<- e];exact hy,fun g=>absurd (PC.o.symm.trans g) (by decide)⟩,(MJ (D:=fun b=>b=X) w7 X (I yk) (I ya) rfl).keep (B.below H6.o iE.o (B.isLt H6.o)) (by omega),by rw[ZM.o];exact(MJ (D:=fun b=>b=X) w7 X (I yk) (I ya) rfl).keep (B.below vQ.o iE.o (B.isLt vQ.o)) (by omega)⟩
      · refine .inl ⟨hy,?_⟩
        exact GR.tS En.o vg.o HG2.o (y:=(yk,ya)) hy (by rw[e];exact GR.Ek qR.o PC.o (by rw[<- e];exact hy))
   · have qR:=ai qJ
     have PC:=ai ho
     have se:=ai (sB qJ (.inr ho))
     have tJ:=ai ha1
     have fL:=ai ha2
     obtain⟨fy,Yf⟩:=ex (FM.bG (FM.ax f.ak k).aw a1 a2 1)
     obtain⟨yk,ya⟩:=fy
     have Zx:=ai Yf
     have nD:Hid (∀V,Below W.heap.size W V->Calls Tryz.prog 48 #[.slice aa na ca,I a1,I a2,I 1] V fun e w'=>e=.returned (.agg #[I yk,I ya])/\Below V.heap.size V w'):=fun V hV=>by
      have:=Vz.o V a1 a2 1 hV (by rw[tJ.o];exact GG.fS _) (by have h1:=se.o;have h2:=fL.o;simp only at h1 h2;omega)
      rw[<- Zx.o] at this
      exact this
     clear qJ ho ha1 ha2 DD Yf ha3
     go_wp2_with fail
     have cB:Hid (Below vt.heap.size vt vt.drew):=(Below.refl _ _).drew
     have Ci:Hid (∀V,Below vt.heap.size vt V->Below W.heap.size W V):=fun V hV=>Hw.o.trans (hV.mono Hw.o.size)
     have cJ:Hid (∀V,Below vt.heap.size vt V->V.cell? ⟨sb,k*3+1,none⟩=some (.slice aa na ca)/\V.cell? ⟨x9+1,1,none⟩=some (I a1)/\V.cell? ⟨x9+1,2,none⟩=some (I a2)):=fun V hV=>by
      have hx:=B.below vQ.o hV (B.isLt vQ.o)
      exact⟨(Sv.o V (Ci.o V hV)).2.1,B.cell hx 1 rfl,B.cell hx 2 rfl⟩
     refine GZ.mR (S:=fun V=>Below vt.heap.size vt V) (z:=9) (by kernel_rfl) ?_
     refine GZ.tk 0 cB.o ?_ ?_ ?_
     rotate_left 1
     · intro V h
       obtain⟨k0,k1,k2⟩:=cJ.o V h
       go_simp
       try with_reducible rfl
     refine GZ.tk 1 cB.o ?_ ?_ ?_
     rotate_left 1
     · intro V h
       obtain⟨k0,k1,k2⟩:=cJ.o V h
       go_simp
       try with_reducible rfl
     refine GZ.tk 2 cB.o ?_ ?_ ?_
     rotate_left 1
     · intro V h
       obtain⟨k0,k1,k2⟩:=cJ.o V h
       go_simp
       try with_reducible rfl
     refine GZ.tk 3 cB.o ?_ ?_ ?_
     rotate_left 1
     · intro V h
       obtain⟨k0,k1,k2⟩:=cJ.o V h
       go_simp
       try with_reducible rfl
     refine GZ.tk 4 cB.o ?_ ?_ ?_
     rotate_left 1
     · intro V h
       obtain⟨k0,k1,k2⟩:=cJ.o V h
       go_simp
       try with_reducible rfl
     refine GZ.tk 5 cB.o ?_ ?_ ?_
     rotate_left 1
     · intro V h
       obtain⟨k0,k1,k2⟩:=cJ.o V h
       go_simp
       try with_reducible rfl
     refine GZ.tk 6 cB.o ?_ ?_ ?_
     rotate_left 1
     · intro V h
       obtain⟨k0,k1,k2⟩:=cJ.o V h
       go_simp
       try with_reducible rfl
     refine GZ.tk 7 cB.o ?_ ?_ ?_
     rotate_left 1
     · intro V h
       obtain⟨k0,k1,k2⟩:=cJ.o V h
       go_simp
       try with_reducible rfl
     refine GZ.all (rs:=[8]) (by kernel_rfl) (by simp) ?_
     refine GZ.bJ.cons rfl (fun K hK=>?_) GZ.bJ.nil
     go_simp;go_at_call 48;refine(nD.o _ (Ci.o _ cB.o)).mono ?_;rintro e w7 ⟨rfl,tL⟩;have iE:Hid (Below vt.heap.size vt w7):=cB.o.trans (tL.mono cB.o.size);have VN:=ai (B.below zA.o iE.o (B.isLt zA.o));obtain⟨j0,j1⟩:=B.c2 VN.o;have jf:∀j,w7.frozen? ⟨X,j,none⟩=false:=fun j=>B.free VN.o j;clear tL;go_simp
     refine hK.out _ _ (fun _=>?_) ?_
     · exact iE.o
     clear hK K
     try simp only[Act.put,List.setIfInBounds_toArray,List.set_cons_zero,List.set_cons_succ]
     refine GZ.all (rs:=[9]) (by kernel_rfl) (by simp) ?_
     refine GZ.bJ.cons rfl (fun K hK=>?_) GZ.bJ.nil
     go_simp
     refine hK.out _ _ (fun g=>absurd rfl g) ?_
     refine GZ.done (by kernel_rfl) ?_ _
     go_wp2_with fail
     go_meet
     case rel =>
      have e:=Zx.o
      rw[tJ.o,fL.o,HQ.o] at e
      refine⟨Ho.o.trans ((Kp.aF iE.o).trans (MJ _ _ _ _ (.inl rfl)) (fun _ _ g=>g)) (fun _ _ g=>g),yk,ya,P7 VN.o _ _,?_⟩
      by_cases hy:yk=0
      · exact .inr ⟨hy,⟨op,ia,ib,ic,im⟩,⟨vg.o,HG2.o,qR.o,oI.o,fun g=>absurd (PC.o.symm.trans g) (by decide),fun _=>by rw[<- e];exact hy⟩,(MJ (D:=fun b=>b=X) w7 X (I yk) (I ya) rfl).keep (B.below H6.o iE.o (B.isLt H6.o)) (by omega),by rw[ZM.o];exact(MJ (D:=fun b=>b=X) w7 X (I yk) (I ya) rfl).keep (B.below vQ.o iE.o (B.isLt vQ.o)) (by omega)⟩
      · refine .inl ⟨hy,?_⟩
        have e2:=GR.Cc (f:=f) (k:=k) qR.o PC.o (by rw[wS qR.o PC.o,<- e];exact hy)
        rw[wS qR.o PC.o,<- e] at e2
        exact GR.tS En.o vg.o HG2.o (y:=(yk,ya)) hy e2
   · have qR:=ai qJ
     have PC:=ai ho
     clear qJ ho DD
     go_wp2
     go_meet
     case rel=>exact⟨Ho.o,0,xa,zA.o,.inr ⟨rfl,⟨op,ia,ib,ic,im⟩,⟨vg.o,HG2.o,qR.o,oI.o,fun g=>absurd (PC.o.symm.trans g) (by decide),fun g=>absurd (PC.o.symm.trans g) (by decide)⟩,H6.o,by rw[ZM.o];exact vQ.o⟩⟩
   · have qR:=ai qJ
     have H9:=ai h9
     have H10:=ai h10
     clear qJ h9 h10 Bu DD
     go_wp2
     go_meet
     case rel=>exact⟨Ho.o,0,xa,zA.o,.inr ⟨rfl,⟨op,ia,ib,ic,im⟩,⟨vg.o,HG2.o,qR.o,oI.o,fun g=>absurd g H9.o,fun g=>absurd g H10.o⟩,H6.o,by rw[ZM.o];exact vQ.o⟩⟩
  case rest =>
   obtain⟨iB,yk,ya,SU,hor⟩:=hcut
   have Hw:=ai (Y8.o _ iB)
   have Ez:=ai SU
   obtain⟨xc0,xc1⟩:=B.c2 SU
   have yz:Hid (∀V,Below W.heap.size W V->∀j,V.frozen? ⟨pb,j,none⟩=false):=fun V hV j=>gi (vZ.o.below hV).procs j
   have O7:Hid (∀V,Below wc.heap.size wc V->Below W.heap.size W V):=fun V hV=>Hw.o.trans (hV.mono Hw.o.size)
   have ahw:¬mb=sb:=fun e=>vZ.o.mem.n1 (by rw[e];rfl)
   have acz:¬b1=sb:=fun e=>by have:=(vZ.o.mem.row.lt sb rfl).1;omega
   clear iB SU Y8 VA B8 B9 Wv
   rcases hor with⟨hy,hst⟩ | ⟨hy,i,hg,h9,h10⟩
   · have hyi:(yk==0)=false:=by rw[beq_eq_false_iff_ne];exact hy
     have HST:=ai hst
     have Wn:Hid (∀V,Calls Tryz.prog 52 #[.agg #[I (q.r 0),I (q.r 1),I (q.r 2),I (q.r 3),I (q.r 4),I (q.r 5),I (q.r 6),I (q.r 7),I q.pc,I q.st,I q.cd,I q.fk,I q.fa],.agg #[I yk,I ya]] V fun e w'=>e=.returned (.agg #[I (q.r 0),I (q.r 1),I (q.r 2),I (q.r 3),I (q.r 4),I (q.r 5),I (q.r 6),I (q.r 7),I q.pc,I 3,I q.cd,I yk,I ya])/\Below V.heap.size V w'):=fun V=>FW.FU q yk ya V
     clear hst
     go_wp2_with fail
     have cB:Hid (Below wc.heap.size wc wc.drew):=(Below.refl _ _).drew
     have cJ:Hid (∀V,Below wc.heap.size wc V->V.cell? ⟨pb,k*13,none⟩=some (I (q.r 0))/\V.cell? ⟨pb,k*13+1,none⟩=some (I (q.r 1))/\V.cell? ⟨pb,k*13+2,none⟩=some (I (q.r 2))/\V.cell? ⟨pb,k*13+3,none⟩=some (I (q.r 3))/\V.cell? ⟨pb,k*13+4,none⟩=some (I (q.r 4))/\V.cell? ⟨pb,k*13+5,none⟩=some (I (q.r 5))/\V.cell? ⟨pb,k*13+6,none⟩=some (I (q.r 6))/\V.cell? ⟨pb,k*13+7,none⟩=some (I (q.r 7))/\V.cell? ⟨pb,k*13+8,none⟩=some (I q.pc)/\V.cell? ⟨pb,k*13+9,none⟩=some (I q.st)/\V.cell? ⟨pb,k*13+10,none⟩=some (I q.cd)/\V.cell? ⟨pb,k*13+11,none⟩=some (I q.fk)/\V.cell? ⟨pb,k*13+12,none⟩=some (I q.fa)/\V.cell? ⟨X,0,none⟩=some (I yk)/\V.cell? ⟨X,1,none⟩=some (I ya)):=fun V hV=>by
      obtain⟨d0,d1,d2,d3,d4,d5,d6,d7,d8,d9,d10,d11,d12⟩:=O8.o V (O7.o V hV)
      have hx:=B.below Ez.o hV (B.isLt Ez.o)
      exact⟨d0,d1,d2,d3,d4,d5,d6,d7,d8,d9,d10,d11,d12,B.cell hx 0 rfl,B.cell hx 1 rfl⟩
     refine GZ.mR (S:=fun V=>Below wc.heap.size wc V) (z:=7) (by kernel_rfl) ?_
     refine GZ.tk 0 cB.o ?_ ?_ ?_
     rotate_left 1
     · intro V h
       obtain⟨k0,k1,k2,k3,k4,k5,k6,k7,k8,k9,k10,k11,k12,k13,k14⟩:=cJ.o V h
       go_simp
       try with_reducible rfl
     refine GZ.tk 1 cB.o ?_ ?_ ?_
     rotate_left 1
     · intro V h
       obtain⟨k0,k1,k2,k3,k4,k5,k6,k7,k8,k9,k10,k11,k12,k13,k14⟩:=cJ.o V h
       go_simp
       try with_reducible rfl
     refine GZ.tk 2 cB.o ?_ ?_ ?_
     rotate_left 1
     · intro V h
       obtain⟨k0,k1,k2,k3,k4,k5,k6,k7,k8,k9,k10,k11,k12,k13,k14⟩:=cJ.o V h
       go_simp
       try with_reducible rfl
     refine GZ.tk 3 cB.o ?_ ?_ ?_
     rotate_left 1
     · intro V h
       obtain⟨k0,k1,k2,k3,k4,k5,k6,k7,k8,k9,k10,k11,k12,k13,k14⟩:=cJ.o V h
       go_simp
       try with_reducible rfl
     refine GZ.tk 4 cB.o ?_ ?_ ?_
     rotate_left 1
     · intro V h
       obtain⟨k0,k1,k2,k3,k4,k5,k6,k7,k8,k9,k10,k11,k12,k13,k14⟩:=cJ.o V h
       go_simp
       try with_reducible rfl
     refine GZ.all (rs:=[5]) (by kernel_rfl) (by simp) ?_
     refine GZ.bJ.cons rfl (fun K hK=>?_) GZ.bJ.nil
     go_simp;go_at_call 52;refine(Wn.o _).mono ?_;rintro e w7 ⟨rfl,tL⟩;have iE:Hid (Below wc.heap.size wc w7):=cB.o.trans (tL.mono cB.o.size);obtain⟨p0,p1,p2,p3,p4,p5,p6,p7,p8,p9,TV,TU,TS,t0,t1⟩:=cJ.o _ iE.o;have tf:=yz.o _ (O7.o _ iE.o);clear tL;go_simp
     refine hK.out _ _ (fun _=>?_) ?_
     · exact iE.o
     clear hK K
     try simp only[Act.put,List.setIfInBounds_toArray,List.set_cons_zero,List.set_cons_succ]
     refine GZ.all (rs:=[6]) (by kernel_rfl) (by simp) ?_
     refine GZ.bJ.cons rfl (fun K hK=>?_) GZ.bJ.nil
     go_simp
     refine hK.out _ _ (fun _=>?_) ?_
     · exact iE.o
     clear hK K
     try simp only[Act.put,List.setIfInBounds_toArray,List.set_cons_zero,List.set_cons_succ]
     refine GZ.all (rs:=[7]) (by kernel_rfl) (by simp) ?_
     refine GZ.bJ.cons rfl (fun K hK=>?_) GZ.bJ.nil
     go_simp
     refine hK.out _ _ (fun g=>absurd rfl g) ?_
     refine GZ.done (by kernel_rfl) ?_ _
     have si:Hid (Fo ob mb (((((((((((((w7.setCell ⟨pb,k*13,none⟩ (I (q.r 0))).setCell ⟨pb,k*13+1,none⟩ (I (q.r 1))).setCell ⟨pb,k*13+2,none⟩ (I (q.r 2))).setCell ⟨pb,k*13+3,none⟩ (I (q.r 3))).setCell ⟨pb,k*13+4,none⟩ (I (q.r 4))).setCell ⟨pb,k*13+5,none⟩ (I (q.r 5))).setCell ⟨pb,k*13+6,none⟩ (I (q.r 6))).setCell ⟨pb,k*13+7,none⟩ (I (q.r 7))).setCell ⟨pb,k*13+8,none⟩ (I q.pc)).setCell ⟨pb,k*13+9,none⟩ (I 3)).setCell ⟨pb,k*13+10,none⟩ (I q.cd)).setCell ⟨pb,k*13+11,none⟩ (I yk)).setCell ⟨pb,k*13+12,none⟩ (I ya)) ⟨f.slots,f.ak,f.procs.set k (FW.kJ q (yk,ya)),f.out⟩ (.slice (some ⟨sb,0,none⟩) f.ak.length cap) L (.slice (some ⟨pb,0,none⟩) f.procs.length uj) (.slice I9 f.out.length Lp)/\Kp (fun b=>b=pb) w7 (((((((((((((w7.setCell ⟨pb,k*13,none⟩ (I (q.r 0))).setCell ⟨pb,k*13+1,none⟩ (I (q.r 1))).setCell ⟨pb,k*13+2,none⟩ (I (q.r 2))).setCell ⟨pb,k*13+3,none⟩ (I (q.r 3))).setCell ⟨pb,k*13+4,none⟩ (I (q.r 4))).setCell ⟨pb,k*13+5,none⟩ (I (q.r 5))).setCell ⟨pb,k*13+6,none⟩ (I (q.r 6))).setCell ⟨pb,k*13+7,none⟩ (I (q.r 7))).setCell ⟨pb,k*13+8,none⟩ (I q.pc)).setCell ⟨pb,k*13+9,none⟩ (I 3)).setCell ⟨pb,k*13+10,none⟩ (I q.cd)).setCell ⟨pb,k*13+11,none⟩ (I yk)).setCell ⟨pb,k*13+12,none⟩ (I ya))):=(vZ.o.below (O7.o _ iE.o)).Fb lY.o (FW.kJ q (yk,ya))
     obtain⟨wK,hwK⟩:=ex ((((((((((((((w7.setCell ⟨pb,k*13,none⟩ (I (q.r 0))).setCell ⟨pb,k*13+1,none⟩ (I (q.r 1))).setCell ⟨pb,k*13+2,none⟩ (I (q.r 2))).setCell ⟨pb,k*13+3,none⟩ (I (q.r 3))).setCell ⟨pb,k*13+4,none⟩ (I (q.r 4))).setCell ⟨pb,k*13+5,none⟩ (I (q.r 5))).setCell ⟨pb,k*13+6,none⟩ (I (q.r 6))).setCell ⟨pb,k*13+7,none⟩ (I (q.r 7))).setCell ⟨pb,k*13+8,none⟩ (I q.pc)).setCell ⟨pb,k*13+9,none⟩ (I 3)).setCell ⟨pb,k*13+10,none⟩ (I q.cd)).setCell ⟨pb,k*13+11,none⟩ (I yk)).setCell ⟨pb,k*13+12,none⟩ (I ya)))
     rw[<- hwK] at si ⊢
     clear hwK p0 p1 p2 p3 p4 p5 p6 p7 p8 p9 TV TU TS t0 t1 tf cJ cB Wn
     have BZK:=ai (si.o.2.keep (B.below (B.below SF.o Hw.o (B.isLt SF.o)) iE.o (B.isLt (B.below SF.o Hw.o (B.isLt SF.o)))) (fun e=>by have:=(vZ.o.procs.lt pb rfl).1;omega))
     have LA:Hid (Below w.heap.size w wK):=Kp.below (oL.o.trans ((O7.o _ iE.o).mono oL.o.size)) si.o.2 (by have:=oL.o.size;have:=(O7.o _ iE.o).size;omega) (fun b e=>by have:=(vZ.o.procs.lt pb rfl).1;omega)
     have hm:=si.o.1.mem.head
     rw[<- iy.o,<- ja.o,<- jb.o] at hm
     obtain⟨m0,m1,m2,m3⟩:=B.c4 hm
     have hkk:k<(f.procs.set k (FW.kJ q (yk,ya))).length:=by rw[List.length_set];exact lY.o
     obtain⟨sbK,aii,pbK,crK,aK,nK,cK,apK,cpK,aoK,coK,e1,e2,e3,e4,AK⟩:=si.o.1.at EO.o hkk
     injection e1 with e1 _ U0
     injection e1 with e1
     injection e1 with e1
     subst e1 U0
     have s0:=AK.c0
     have s1:=AK.c1
     have s2:=AK.c2
     have sf:=AK.fs
     obtain⟨z0,z1,z2,z3⟩:=B.c4 BZK.o
     have zf:∀j,wK.frozen? ⟨b1,j,none⟩=false:=fun j=>B.free BZK.o j
     obtain⟨g1,g2⟩:=si.o.1.drop EO.o
     have HE1:=ai g1
     have Jk:=ai g2
     clear AK hm g1 g2 hkk e2 e3 e4
     go_wp2
     refine bodyPost_ret (v:=.agg #[I f.slots,.slice (some ⟨sb,0,none⟩) ns cap,.slice (some ⟨pb,0,none⟩) nr uj,.slice I9 no Lp]) (by simp[results,Tryz.results16,go_sem,z0,z1,z2,z3,acz]) rfl ?_
     refine HP.o _ _ ?_
     have hE:=sL (w:=w) (b1:=b1) (sl:=f.slots) HE1.o rfl Pn hwb (Kp.below LA.o Jk.o LA.o.size (fun b e=>by have:=(vZ.o.mem.row.lt sb rfl).1;omega))
     rw[HST.o]
     have eK:GR.Iq f k (yk,ya)=GR.jo ⟨f.slots,f.ak,f.procs.set k (FW.kJ q (yk,ya)),f.out⟩ k FM.E6:=by rw[HQ.o];rfl
     rw[eK]
     rw[<- iy.o,<- ja.o,<- jb.o] at hE
     exact hE
   · subst hy
     have HG:=ai hg
     have zB:=ai h9
     obtain⟨k0,a1,a2,a3,a4,Yx,xH⟩:=tI q i
     rw[Yx] at h10
     have PQ:=ai h10
     have Ew:=ai xH
     have c0:wc.cell? ⟨x9+1,0,none⟩=some (I k0):=B.cell h10 0 rfl
     have hWc:=Hw.o.size
     clear hg h9 h10 Yx xH
     go_upto_block 1 with fail
     go_cut [11] (fun x11 wx=>∃val g v' L' vo',x11=I val/\Fo ob mb wx g v' L' (.slice (some ⟨pb,0,none⟩) f.procs.length uj) vo'/\g.procs=f.procs/\GR.dV f (k:Int)=rE f k i val g/\Kp (fun b=>ob<=b/\b<W.heap.size) wc wx)
     case first =>
      rcases Ew.o with⟨qJ,_⟩ | ⟨qJ,⟨ho,rfl,ha1,ha2,DD⟩ | ⟨ho,rfl,ha1,ha2,ha3,DD⟩ | ⟨ho,rfl,DD⟩ | ⟨g9,g10,g16,rfl,DD⟩⟩
      · rw[HG.o.bad] at qJ;cases qJ
      · obtain⟨m,hm,EF,Lf⟩:∃m:Nat,a2=(m:Int)/\1<=m/\m<=8:=by
         have:=sB HG.o.bad (.inl ho)
         exact⟨a2.toNat,by omega,by omega,by omega⟩
        have HXL:Hid ((FM.bG (FM.ax f.ak k).aw a1 (m:Int) 0).1=0):=by
         have:=HG.o.ld ho
         rw[<- HQ.o,<- ha1,<- ha2,hm] at this
         exact this
        obtain⟨D2,hD2⟩:=ex (GM.ig (FM.ax f.ak k).aj a1 (m:Int))
        have Hq:Hid (GR.dV f (k:Int)=rE f k i (GG.rz D2) f):=by
         have:=NB En.o HG.o ho
         rw[<- HQ.o,<- ha1,<- ha2,hm,<- hD2] at this
         exact this
        have hz:D2.size=m:=by rw[hD2];exact SS qo.o EO.o EF Lf HXL.o
        have hgn:GG.rz D2=wrap64 (Lib.leNat D2.data.toList:Nat):=by
         unfold GG.rz
         rw[if_pos ⟨by omega,by omega⟩]
        have HNU:Hid (∀x:Q.dG wc.heap.size wc,Calls Tryz.prog 53 #[.string D2] x.world fun e w'=>e=.returned (I (GG.rz D2))/\∃y:Q.dG wc.heap.size wc,w'=y.world):=fun x=>by
         rw[hgn]
         refine(CW.xh D2 x.world (by omega) (by omega)).mono ?_
         rintro e w' ⟨he,rfl⟩
         exact⟨he,x,rfl⟩
        have ES:Hid (∀x:Q.dG wc.heap.size wc,Calls Tryz.prog 50 #[.agg #[.bool lv,.slice aa na ca,.slice ap np cp],I a1,I (m:Int)] x.world fun e w'=>e=.returned (.string D2)/\∃y:Q.dG wc.heap.size wc,w'=y.world):=fun x=>by
         rw[hD2,qA.o,vd.o]
         refine(Oc qo.o EO.o EF Lf HXL.o _ ⟨_,_,_,rfl⟩ ap cp x.world (Cu.o.aj.below (O7.o _ x.keeps))).mono ?_
         rintro e w' ⟨he,hb⟩
         exact⟨he,⟨w',x.keeps.trans (hb.mono x.keeps.size)⟩,rfl⟩
        subst hm
        obtain⟨GV,hGV⟩:=ex (GG.rz D2)
        rw[<- hGV] at Hq HNU
        clear qJ ho ha1 ha2 DD hD2 hz hgn hGV
        have qx:=Q.dZ wc
        have e0:∀x:Q.dG wc.heap.size wc,x.world.cell? ⟨sb,k*3,none⟩=some (.bool lv):=fun x=>(Sv.o _ (O7.o _ x.keeps)).1
        have e1:∀x:Q.dG wc.heap.size wc,x.world.cell? ⟨sb,k*3+1,none⟩=some (.slice aa na ca):=fun x=>(Sv.o _ (O7.o _ x.keeps)).2.1
        have e2:∀x:Q.dG wc.heap.size wc,x.world.cell? ⟨sb,k*3+2,none⟩=some (.slice ap np cp):=fun x=>(Sv.o _ (O7.o _ x.keeps)).2.2
        have e3:∀x:Q.dG wc.heap.size wc,x.world.cell? ⟨x9+1,1,none⟩=some (I a1):=fun x=>B.cell (B.below PQ.o x.keeps (B.isLt PQ.o)) 1 rfl
        have e4:∀x:Q.dG wc.heap.size wc,x.world.cell? ⟨x9+1,2,none⟩=some (I (m:Int)):=fun x=>B.cell (B.below PQ.o x.keeps (B.isLt PQ.o)) 2 rfl
        go_wp2_with fail
        refine Q.aX (by kernel_rfl) (by kernel_rfl) ?_
        repeat (first | go_big_quiet_step ((first | (go_at_call 50;exact ES.o _) | (go_at_call 53;exact HNU.o _))) | quiet_step ((first | (go_at_call 50;exact ES.o _) | (go_at_call 53;exact HNU.o _))))
        refine wpQuiet_nil ?_
        intro _ hw'
        obtain⟨x,hw''⟩:=hw'
        subst hw''
        go_wp2_with fail
        go_meet
        case rel=>exact⟨GV,f,_,_,_,rfl,vZ.o.below (O7.o _ x.keeps),rfl,Hq.o,Kp.aF x.keeps⟩
      · obtain⟨m,hm,EF,Lf⟩:∃m:Nat,a2=(m:Int)/\1<=m/\m<=8:=by
         have:=sB HG.o.bad (.inr ho)
         exact⟨a2.toNat,by omega,by omega,by omega⟩
        obtain⟨dd,hdd⟩:=ex (GG.kR a3 (m:Int))
        have uK:GR.wU f k i=dd:=by
         unfold GR.wU
         rw[hdd,ha3,<- hm,ha2,HQ.o]
        have hdz:dd.size=m:=by
         rw[hdd,GG.pX]
         omega
        have HXL:Hid ((FM.bG (FM.ax f.ak k).aw a1 (dd.size:Int) 1).1=0):=by
         have:=HG.o.st ho
         rw[<- HQ.o,<- ha1,<- ha2,hm,<- hdz] at this
         exact this
        have Hq:Hid (GR.dV f (k:Int)=rE f k i 0 (GR.jo f k { FM.ax f.ak k with aj:=GM.fT (FM.ax f.ak k).aj a1 dd })):=by
         have:=Kw En.o HG.o ho
         rw[uK,<- HQ.o,<- ha1] at this
         exact this
        have HBS:Hid (∀V,Calls Tryz.prog 55 #[I a3,I (m:Int)] V fun e w'=>e=.returned (.string dd)/\Below V.heap.size V w'):=fun V=>by
         rw[hdd]
         exact CW.uo a3 m V Lf
        have Zb:Hid (∀V,Below wc.heap.size wc V->Calls Tryz.prog 54 #[.pointer (some ⟨sb,k*3,none⟩),I a1,.string dd] V fun e w'=>e=.returned (.tuple #[])/\Fo ob mb w' (GR.jo f k { FM.ax f.ak k with aj:=GM.fT (FM.ax f.ak k).aj a1 dd }) (.slice (some ⟨sb,0,none⟩) f.ak.length cap) L (.slice (some ⟨pb,0,none⟩) f.procs.length uj) (.slice I9 f.out.length Lp)/\Kp (fun b=>blk (bw L k).vp b) V w'):=fun V hV=>TD (vZ.o.below (O7.o _ hV)) EO.o qo.o (by omega) (by omega) HXL.o
        have U8:Hid (∀b,blk (bw L k).vp b->ob<=b/\b<W.heap.size):=fun b e=>(vZ.o.mem.each k (by rw[vZ.o.mem.len];exact EO.o)).aj.lt b e
        subst hm
        clear qJ ho ha1 ha2 ha3 DD hdd uK hdz
        have pP:Hid (∀V,Below wc.heap.size wc V->V.cell? ⟨x9+1,1,none⟩=some (I a1)/\V.cell? ⟨x9+1,2,none⟩=some (I (m:Int))/\V.cell? ⟨x9+1,3,none⟩=some (I a3)):=fun V hV=>by
         have hx:=B.below PQ.o hV (B.isLt PQ.o)
         exact⟨B.cell hx 1 rfl,B.cell hx 2 rfl,B.cell hx 3 rfl⟩
        have cJ:Hid (∀V:World,(V.cell? ⟨x9+1,1,none⟩=some (I a1)/\V.cell? ⟨x9+1,2,none⟩=some (I (m:Int))/\V.cell? ⟨x9+1,3,none⟩=some (I a3))->(V.cell? ⟨x9+1,1,none⟩=some (I a1)/\V.cell? ⟨x9+1,2,none⟩=some (I (m:Int))/\V.cell? ⟨x9+1,3,none⟩=some (I a3))):=fun V h=>h
        have cB:Hid (Below wc.heap.size wc wc.drew):=(Below.refl _ _).drew
        go_wp2_with fail
        refine wp_region_held_drew (S:=fun V=>V.cell? ⟨x9+1,1,none⟩=some (I a1)/\V.cell? ⟨x9+1,2,none⟩=some (I (m:Int))/\V.cell? ⟨x9+1,3,none⟩=some (I a3)) (by kernel_rfl) ?_ (fun hHeld=>?_)
        · exact pP.o _ cB.o
        refine GZ.htk 0 (by assumption) ?_ ?_ ?_
        rotate_left 1
        · intro V h
          obtain⟨k0,k1,k2⟩:=cJ.o V h
          go_simp
          try with_reducible rfl
        refine GZ.htk 1 (by assumption) ?_ ?_ ?_
        rotate_left 1
        · intro V h
          obtain⟨k0,k1,k2⟩:=cJ.o V h
          go_simp
          try with_reducible rfl
        refine GZ.htk 2 (by assumption) ?_ ?_ ?_
        rotate_left 1
        · intro V h
          obtain⟨k0,k1,k2⟩:=cJ.o V h
          go_simp
          try with_reducible rfl
        refine GZ.htk 3 (by assumption) ?_ ?_ ?_
        rotate_left 1
        · intro V h
          obtain⟨k0,k1,k2⟩:=cJ.o V h
          go_simp
          try with_reducible rfl
        refine GZ.htk 4 (by assumption) ?_ ?_ ?_
        rotate_left 1
        · intro V h
          obtain⟨k0,k1,k2⟩:=cJ.o V h
          go_simp
          try with_reducible rfl
        refine GZ.htk 5 (by assumption) ?_ ?_ ?_
        rotate_left 1
        · intro V h
          obtain⟨k0,k1,k2⟩:=cJ.o V h
          go_simp
          try with_reducible rfl
        refine GZ.htk 6 (by assumption) ?_ ?_ ?_
        rotate_left 1
        · intro V h
          obtain⟨k0,k1,k2⟩:=cJ.o V h
          go_simp
          try with_reducible rfl
        refine wpAnyH_ready (rs:=[7]) (by kernel_rfl) (by simp) ?_
        refine AllReadyH.cons rfl (fun K hK=>?_) AllReadyH.nil
        go_simp;go_at_call 55;refine(HBS.o _).mono ?_;rintro e w6 ⟨rfl,Cy⟩;have wa:Hid (Below wc.heap.size wc w6):=cB.o.trans (Cy.mono cB.o.size);clear Cy;go_simp
        refine hK.out _ _ ?_ (fun hHeld=>?_)
        · try dsimp only
          exact pP.o _ wa.o
        clear hK K
        try simp only[Act.put,List.setIfInBounds_toArray,List.set_cons_zero,List.set_cons_succ]
        refine wpAnyH_ready (rs:=[8]) (by kernel_rfl) (by simp) ?_
        refine AllReadyH.cons rfl (fun K hK=>?_) AllReadyH.nil
        go_simp;go_at_call 54;refine(Zb.o _ wa.o).mono ?_;rintro e w7 ⟨rfl,hF7,hk7⟩;have HF7:=ai hF7;have Hn:=ai hk7;have HS7:Hid (w7.cell? ⟨x9+1,1,none⟩=some (I a1)/\w7.cell? ⟨x9+1,2,none⟩=some (I (m:Int))/\w7.cell? ⟨x9+1,3,none⟩=some (I a3)):=(fun hx=>⟨B.cell hx 1 rfl,B.cell hx 2 rfl,B.cell hx 3 rfl⟩) (Hn.o.keep (B.below PQ.o wa.o (B.isLt PQ.o)) (fun e=>by have:=U8.o _ e;omega));clear hF7 hk7;go_simp
        refine hK.out _ _ ?_ (fun hHeld=>?_)
        · try dsimp only
          exact HS7.o
        clear hK K
        try simp only[Act.put,List.setIfInBounds_toArray,List.set_cons_zero,List.set_cons_succ]
        refine wpAnyH_done (by kernel_rfl) ?_ _
        go_wp2_with fail
        go_meet
        case rel=>exact⟨0,_,_,_,_,rfl,HF7.o,rfl,Hq.o,(Kp.aF wa.o).trans (Hn.o.mono (fun b _ e=>U8.o b e)) (fun _ _ g=>g)⟩
      · have Hs:Hid (Calls Tryz.prog 56 #[.pointer (some ⟨mb,0,none⟩),I (k:Int),I a4] wc (kY ob mb (.slice (some ⟨sb,0,none⟩) f.ak.length cap) (.slice (some ⟨pb,0,none⟩) f.procs.length uj) (.slice I9 f.out.length Lp) wc (ed f k a4) (dN f k a4))):=xZ a4 f _ L _ _ wc (vZ.o.below Hw.o) lY.o u9.o Cj.o (by rw[DD];exact I7 HG.o.bad ho)
        have Hq:Hid (GR.dV f (k:Int)=rE f k i (ed f k a4) (dN f k a4)):=by
         show _=_
         rw[DD]
         exact NC En.o HG.o ho
        have d4:wc.cell? ⟨x9+1,4,none⟩=some (I a4):=B.cell PQ.o 4 rfl
        obtain⟨CV,hCV⟩:=ex (ed f k a4)
        obtain⟨CF,hCF⟩:=ex (dN f k a4)
        have HCP:Hid (CF.procs=f.procs):=by show _=_;rw[hCF];rfl
        rw[<- hCV,<- hCF] at Hs Hq
        clear qJ ho DD hCV hCF
        go_wp2_with (go_at_call 56;refine Hs.o.mono ?_;rintro e w6 ⟨rfl,v6,L6,vo6,Nn,tK⟩;have VB:=ai Nn;have Ax:=ai tK;clear Nn tK)
        go_meet
        case rel=>exact⟨CV,CF,v6,L6,vo6,rfl,VB.o,HCP.o,Hq.o,Ax.o.mono (fun b _ e=>by
         rcases e with e | e | e
         · rw[e]
           exact⟨vZ.o.mem.base,B.isLt vZ.o.mem.head⟩
         · exact vZ.o.mem.row.lt b e
         · exact vZ.o.words.lt b e)⟩
      · have Hq:=ai (NA En.o HG.o g9 g10 g16)
        clear qJ g9 g10 g16 DD
        go_wp2
        go_meet
        case rel=>exact⟨0,f,_,_,_,rfl,vZ.o.below Hw.o,rfl,Hq.o,Kp.refl _ _⟩
     case rest =>
      obtain⟨val,g,v',L',vo',rfl,hFg,Lh,hst,hkg⟩:=hcut
      obtain⟨gs,Nt,gpr,go⟩:=g
      simp only at Lh
      subst Lh
      obtain⟨Lr,ar',oG,cs',YL,D5,e1,e2,e3,_⟩:=hFg.has
      simp only at e1 e2 e3
      clear e2
      subst e1 e3
      have HFG:=ai hFg
      have HST:=ai hst
      have ZR:=ai (hkg.keep zB.o (by omega))
      have BA3:=ai (hkg.keep PQ.o (by omega))
      have K9:=ai (hkg.keep (B.below SF.o Hw.o (B.isLt SF.o)) (by omega))
      have PI:Hid (Below w.heap.size w wc):=Kp.below (oL.o.trans (Hw.o.mono oL.o.size)) hkg (by have:=oL.o.size;omega) (fun b e=>by omega)
      have oM:=hFg.procs
      have p0:wc.cell? ⟨pb,k*13,none⟩=some (I (q.r 0)):=(cZ aI bc FM.vS oM k 0 lY.o (by omega)).trans (by rw[HQ.o];rfl)
      have p1:wc.cell? ⟨pb,k*13+1,none⟩=some (I (q.r 1)):=(cZ aI bc FM.vS oM k 1 lY.o (by omega)).trans (by rw[HQ.o];rfl)
      have p2:wc.cell? ⟨pb,k*13+2,none⟩=some (I (q.r 2)):=(cZ aI bc FM.vS oM k 2 lY.o (by omega)).trans (by rw[HQ.o];rfl)
      have p3:wc.cell? ⟨pb,k*13+3,none⟩=some (I (q.r 3)):=(cZ aI bc FM.vS oM k 3 lY.o (by omega)).trans (by rw[HQ.o];rfl)
      have p4:wc.cell? ⟨pb,k*13+4,none⟩=some (I (q.r 4)):=(cZ aI bc FM.vS oM k 4 lY.o (by omega)).trans (by rw[HQ.o];rfl)
      have p5:wc.cell? ⟨pb,k*13+5,none⟩=some (I (q.r 5)):=(cZ aI bc FM.vS oM k 5 lY.o (by omega)).trans (by rw[HQ.o];rfl)
      have p6:wc.cell? ⟨pb,k*13+6,none⟩=some (I (q.r 6)):=(cZ aI bc FM.vS oM k 6 lY.o (by omega)).trans (by rw[HQ.o];rfl)
      have p7:wc.cell? ⟨pb,k*13+7,none⟩=some (I (q.r 7)):=(cZ aI bc FM.vS oM k 7 lY.o (by omega)).trans (by rw[HQ.o];rfl)
      have p8:wc.cell? ⟨pb,k*13+8,none⟩=some (I q.pc):=(cZ aI bc FM.vS oM k 8 lY.o (by omega)).trans (by rw[HQ.o];rfl)
      have p9:wc.cell? ⟨pb,k*13+9,none⟩=some (I q.st):=(cZ aI bc FM.vS oM k 9 lY.o (by omega)).trans (by rw[HQ.o];rfl)
      have TV:wc.cell? ⟨pb,k*13+10,none⟩=some (I q.cd):=(cZ aI bc FM.vS oM k 10 lY.o (by omega)).trans (by rw[HQ.o];rfl)
      have TU:wc.cell? ⟨pb,k*13+11,none⟩=some (I q.fk):=(cZ aI bc FM.vS oM k 11 lY.o (by omega)).trans (by rw[HQ.o];rfl)
      have TS:wc.cell? ⟨pb,k*13+12,none⟩=some (I q.fa):=(cZ aI bc FM.vS oM k 12 lY.o (by omega)).trans (by rw[HQ.o];rfl)
      have hpl:pb<wc.heap.size:=(oM.lt pb rfl).2
      have hpo:ob<=pb:=(oM.lt pb rfl).1
      have hpW:=(vZ.o.procs.lt pb rfl).2
      have ag8:=B.isLt BA3.o
      have ag9:x9<wc.heap.size:=B.isLt ZR.o
      obtain⟨op,ia,ib,ic,im⟩:=i
      obtain⟨i0,i1,i2,i3,i4⟩:=B.c5 ZR.o
      obtain⟨N,hN⟩:=ex (PM.doneN q ⟨op,ia,ib,ic,im⟩ val)
      have HN:=ai hN
      have Jl:Hid (∀V,Calls Tryz.prog 57 #[.agg #[I (q.r 0),I (q.r 1),I (q.r 2),I (q.r 3),I (q.r 4),I (q.r 5),I (q.r 6),I (q.r 7),I q.pc,I q.st,I q.cd,I q.fk,I q.fa],.agg #[I op,I ia,I ib,I ic,I im],I val] V fun e w'=>e=.returned (.agg #[I (N.r 0),I (N.r 1),I (N.r 2),I (N.r 3),I (N.r 4),I (N.r 5),I (N.r 6),I (N.r 7),I N.pc,I N.st,I N.cd,I N.fk,I N.fa])/\Below V.heap.size V w'):=fun V=>by
       have:=PW.Ai q ⟨op,ia,ib,ic,im⟩ val V HG.o.fits HG.o.bad
       rw[<- HN.o] at this
       exact this
      have dH:=ai ((Below.refl wc.heap.size wc).alloc (Nat.le_refl _) (.cells #[I (q.r 0),I (q.r 1),I (q.r 2),I (q.r 3),I (q.r 4),I (q.r 5),I (q.r 6),I (q.r 7),I q.pc,I q.st,I q.cd,I q.fk,I q.fa] 70))
      have B12:=ai (B.new wc #[I (q.r 0),I (q.r 1),I (q.r 2),I (q.r 3),I (q.r 4),I (q.r 5),I (q.r 6),I (q.r 7),I q.pc,I q.st,I q.cd,I q.fk,I q.fa] 70)
      clear hFg hst hkg oM hN c0
      go_upto_region 33 with(go_at_call 57;refine(Jl.o _).mono ?_;rintro e w7 ⟨rfl,tL⟩;have iE:Hid (Below wc.heap.size wc w7):=dH.o.trans (tL.mono dH.o.size);have VO:=ai (B.below B12.o tL (B.isLt B12.o));have r0:w7.cell? ⟨pb,k*13,none⟩=some (I (q.r 0)):=(M.aA iE.o hpl).trans p0;have r1:w7.cell? ⟨pb,k*13+1,none⟩=some (I (q.r 1)):=(M.aA iE.o hpl).trans p1;have r2:w7.cell? ⟨pb,k*13+2,none⟩=some (I (q.r 2)):=(M.aA iE.o hpl).trans p2;have r3:w7.cell? ⟨pb,k*13+3,none⟩=some (I (q.r 3)):=(M.aA iE.o hpl).trans p3;have r4:w7.cell? ⟨pb,k*13+4,none⟩=some (I (q.r 4)):=(M.aA iE.o hpl).trans p4;have r5:w7.cell? ⟨pb,k*13+5,none⟩=some (I (q.r 5)):=(M.aA iE.o hpl).trans p5;have r6:w7.cell? ⟨pb,k*13+6,none⟩=some (I (q.r 6)):=(M.aA iE.o hpl).trans p6;have r7:w7.cell? ⟨pb,k*13+7,none⟩=some (I (q.r 7)):=(M.aA iE.o hpl).trans p7;have r8:w7.cell? ⟨pb,k*13+8,none⟩=some (I q.pc):=(M.aA iE.o hpl).trans p8;have r9:w7.cell? ⟨pb,k*13+9,none⟩=some (I q.st):=(M.aA iE.o hpl).trans p9;have ED:w7.cell? ⟨pb,k*13+10,none⟩=some (I q.cd):=(M.aA iE.o hpl).trans TV;have EC:w7.cell? ⟨pb,k*13+11,none⟩=some (I q.fk):=(M.aA iE.o hpl).trans TU;have EB:w7.cell? ⟨pb,k*13+12,none⟩=some (I q.fa):=(M.aA iE.o hpl).trans TS;have pf7:∀j,w7.frozen? ⟨pb,j,none⟩=false:=fun j=>gi (HFG.o.below iE.o).procs j;clear tL)
      have qB:Hid (Fo ob mb (((((((((((((w7.setCell ⟨pb,k*13,none⟩ (I (N.r 0))).setCell ⟨pb,k*13+1,none⟩ (I (N.r 1))).setCell ⟨pb,k*13+2,none⟩ (I (N.r 2))).setCell ⟨pb,k*13+3,none⟩ (I (N.r 3))).setCell ⟨pb,k*13+4,none⟩ (I (N.r 4))).setCell ⟨pb,k*13+5,none⟩ (I (N.r 5))).setCell ⟨pb,k*13+6,none⟩ (I (N.r 6))).setCell ⟨pb,k*13+7,none⟩ (I (N.r 7))).setCell ⟨pb,k*13+8,none⟩ (I N.pc)).setCell ⟨pb,k*13+9,none⟩ (I N.st)).setCell ⟨pb,k*13+10,none⟩ (I N.cd)).setCell ⟨pb,k*13+11,none⟩ (I N.fk)).setCell ⟨pb,k*13+12,none⟩ (I N.fa)) ⟨gs,Nt,f.procs.set k N,go⟩ (.slice Lr Nt.length cs') L' (.slice (some ⟨pb,0,none⟩) f.procs.length uj) (.slice oG go.length D5)/\Kp (fun b=>b=pb) w7 (((((((((((((w7.setCell ⟨pb,k*13,none⟩ (I (N.r 0))).setCell ⟨pb,k*13+1,none⟩ (I (N.r 1))).setCell ⟨pb,k*13+2,none⟩ (I (N.r 2))).setCell ⟨pb,k*13+3,none⟩ (I (N.r 3))).setCell ⟨pb,k*13+4,none⟩ (I (N.r 4))).setCell ⟨pb,k*13+5,none⟩ (I (N.r 5))).setCell ⟨pb,k*13+6,none⟩ (I (N.r 6))).setCell ⟨pb,k*13+7,none⟩ (I (N.r 7))).setCell ⟨pb,k*13+8,none⟩ (I N.pc)).setCell ⟨pb,k*13+9,none⟩ (I N.st)).setCell ⟨pb,k*13+10,none⟩ (I N.cd)).setCell ⟨pb,k*13+11,none⟩ (I N.fk)).setCell ⟨pb,k*13+12,none⟩ (I N.fa))):=(HFG.o.below iE.o).Fb lY.o N
      obtain⟨wN,hwN⟩:=ex ((((((((((((((w7.setCell ⟨pb,k*13,none⟩ (I (N.r 0))).setCell ⟨pb,k*13+1,none⟩ (I (N.r 1))).setCell ⟨pb,k*13+2,none⟩ (I (N.r 2))).setCell ⟨pb,k*13+3,none⟩ (I (N.r 3))).setCell ⟨pb,k*13+4,none⟩ (I (N.r 4))).setCell ⟨pb,k*13+5,none⟩ (I (N.r 5))).setCell ⟨pb,k*13+6,none⟩ (I (N.r 6))).setCell ⟨pb,k*13+7,none⟩ (I (N.r 7))).setCell ⟨pb,k*13+8,none⟩ (I N.pc)).setCell ⟨pb,k*13+9,none⟩ (I N.st)).setCell ⟨pb,k*13+10,none⟩ (I N.cd)).setCell ⟨pb,k*13+11,none⟩ (I N.fk)).setCell ⟨pb,k*13+12,none⟩ (I N.fa)))
      rw[<- hwN] at qB ⊢
      obtain⟨AA,Xl⟩:=ex wc.heap.size
      rw[<- Xl] at VO ⊢
      have BI4:=ai (qB.o.2.keep (B.below ZR.o iE.o (B.isLt ZR.o)) (by omega))
      have BA4:=ai (qB.o.2.keep (B.below BA3.o iE.o (B.isLt BA3.o)) (by omega))
      have BZ4:=ai (qB.o.2.keep (B.below K9.o iE.o (B.isLt K9.o)) (by omega))
      have aef:=ai (qB.o.2.keep VO.o (by omega))
      have hpx:pb<AA:=by omega
      have hp9:pb<x9:=by omega
      have hmo:ob<=mb:=vZ.o.mem.base
      have LA:Hid (Below w.heap.size w wN):=Kp.below (PI.o.trans (iE.o.mono PI.o.size)) qB.o.2 (by have:=PI.o.size;have:=iE.o.size;omega) (fun b e=>by omega)
      clear hwN Xl r0 r1 r2 r3 r4 r5 r6 r7 r8 r9 ED EC EB pf7 p0 p1 p2 p3 p4 p5 p6 p7 p8 p9 TV TU TS i0 i1 i2 i3 i4 Jl dH B12 VO ZR BA3 K9
      have VX:=qB.o.1.mem.head
      obtain⟨m0,m1,m2,m3⟩:=B.c4 VX
      obtain⟨z0,z1,z2,z3⟩:=B.c4 BZ4.o
      have zf:∀j,wN.frozen? ⟨b1,j,none⟩=false:=fun j=>B.free BZ4.o j
      have d4:wN.cell? ⟨x9+1,4,none⟩=some (I a4):=B.cell BA4.o 4 rfl
      have PJ:Hid (a4=5↔(op=16/\im=5)):=by
       have hb:=HG.o.bad
       rcases Ew.o with⟨g,_⟩ | ⟨_,⟨o,_,_,_,e⟩ | ⟨o,_,_,_,_,e⟩ | ⟨o,_,e⟩ | ⟨_,_,g16,_,e⟩⟩
       · rw[hb] at g;cases g
       · exact⟨fun h=>by omega,fun h=>by omega⟩
       · exact⟨fun h=>by omega,fun h=>by omega⟩
       · exact⟨fun h=>⟨o,by omega⟩,fun h=>by omega⟩
       · exact⟨fun h=>by omega,fun h=>absurd h.1 g16⟩
      clear VX Ew
      obtain⟨nsp,Ut⟩:=ex Nt.length
      obtain⟨ngo,Uu⟩:=ex go.length
      have R8:=ai Ut
      have Sa:=ai Uu
      rw[<- Ut] at m1
      rw[<- Uu] at m3
      rw[<- ja.o] at m2
      clear Ut Uu
      by_cases h5:a4=5
      case neg =>
       have h5i:(a4==5)=false:=by rw[beq_eq_false_iff_ne];exact h5
       go_wp2
       refine bodyPost_ret (v:=.agg #[I gs,.slice Lr nsp cs',.slice (some ⟨pb,0,none⟩) nr uj,.slice oG ngo D5]) (by simp[results,Tryz.results16,go_sem,z0,z1,z2,z3]) rfl ?_
       refine HP.o _ _ ?_
       have hE:=sL (w:=w) (b1:=b1) (sl:=gs) qB.o.1 rfl Pn hwb LA.o
       rw[<- R8.o,<- Sa.o,<- ja.o] at hE
       rw[HST.o]
       refine De HN.o HQ.o ?_ hE
       exact(fun g=>h5 (PJ.o.2 g.1))
      subst h5
      by_cases hv:0<=val
      case neg =>
       have hvi:val<0:=by omega
       have HV:=ai hv
       clear hv
       go_wp2
       refine bodyPost_ret (v:=.agg #[I gs,.slice Lr nsp cs',.slice (some ⟨pb,0,none⟩) nr uj,.slice oG ngo D5]) (by simp[results,Tryz.results16,go_sem,z0,z1,z2,z3]) rfl ?_
       refine HP.o _ _ ?_
       have hE:=sL (w:=w) (b1:=b1) (sl:=gs) qB.o.1 rfl Pn hwb LA.o
       rw[<- R8.o,<- Sa.o,<- ja.o] at hE
       rw[HST.o]
       refine De HN.o HQ.o ?_ hE
       exact(fun g=>by have h1:=g.2;have h2:=HV.o;omega)
      have HV:=ai hv
      obtain⟨N0,hN0⟩:=ex (PM.doneN q ⟨op,ia,ib,ic,im⟩ 0)
      have HN0:=ai hN0
      have HD0:Hid (∀V,Calls Tryz.prog 57 #[.agg #[I (q.r 0),I (q.r 1),I (q.r 2),I (q.r 3),I (q.r 4),I (q.r 5),I (q.r 6),I (q.r 7),I q.pc,I q.st,I q.cd,I q.fk,I q.fa],.agg #[I op,I ia,I ib,I ic,I im],I 0] V fun e w'=>e=.returned (.agg #[I (N0.r 0),I (N0.r 1),I (N0.r 2),I (N0.r 3),I (N0.r 4),I (N0.r 5),I (N0.r 6),I (N0.r 7),I N0.pc,I N0.st,I N0.cd,I N0.fk,I N0.fa])/\Below V.heap.size V w'):=fun V=>by
       have:=PW.Ai q ⟨op,ia,ib,ic,im⟩ 0 V HG.o.fits HG.o.bad
       rw[<- HN0.o] at this
       exact this
      obtain⟨ir,s0,s1,s2,s3⟩:=info_parts Bn
      have Pw:=ai s0
      have Zg:=ai s1
      have mg:=ai s2
      have Lx:=ai s3
      have cJ:Hid (∀V,Kp (fun b=>blk (.slice (some ⟨pb,0,none⟩) nr uj) b) wN V->V.cell? ⟨mb,2,none⟩=some (.slice (some ⟨pb,0,none⟩) nr uj)/\V.cell? ⟨AA,0,none⟩=some (I (q.r 0))/\V.cell? ⟨AA,1,none⟩=some (I (q.r 1))/\V.cell? ⟨AA,2,none⟩=some (I (q.r 2))/\V.cell? ⟨AA,3,none⟩=some (I (q.r 3))/\V.cell? ⟨AA,4,none⟩=some (I (q.r 4))/\V.cell? ⟨AA,5,none⟩=some (I (q.r 5))/\V.cell? ⟨AA,6,none⟩=some (I (q.r 6))/\V.cell? ⟨AA,7,none⟩=some (I (q.r 7))/\V.cell? ⟨AA,8,none⟩=some (I q.pc)/\V.cell? ⟨AA,9,none⟩=some (I q.st)/\V.cell? ⟨AA,10,none⟩=some (I q.cd)/\V.cell? ⟨AA,11,none⟩=some (I q.fk)/\V.cell? ⟨AA,12,none⟩=some (I q.fa)/\V.cell? ⟨x9,0,none⟩=some (I op)/\V.cell? ⟨x9,1,none⟩=some (I ia)/\V.cell? ⟨x9,2,none⟩=some (I ib)/\V.cell? ⟨x9,3,none⟩=some (I ic)/\V.cell? ⟨x9,4,none⟩=some (I im)):=fun V hV=>by
       have h1:=hV.keep qB.o.1.mem.head (fun g=>qB.o.1.mem.d1.1 g)
       rw[<- ja.o] at h1
       have h2:=hV.keep aef.o (fun g=>by have:=Option.some.inj (show some pb=some AA from g);omega)
       have h3:=hV.keep BI4.o (fun g=>by have:=Option.some.inj (show some pb=some x9 from g);omega)
       exact⟨B.cell h1 2 rfl,B.cell h2 0 rfl,B.cell h2 1 rfl,B.cell h2 2 rfl,B.cell h2 3 rfl,B.cell h2 4 rfl,B.cell h2 5 rfl,B.cell h2 6 rfl,B.cell h2 7 rfl,B.cell h2 8 rfl,B.cell h2 9 rfl,B.cell h2 10 rfl,B.cell h2 11 rfl,B.cell h2 12 rfl,B.cell h3 0 rfl,B.cell h3 1 rfl,B.cell h3 2 rfl,B.cell h3 3 rfl,B.cell h3 4 rfl⟩
      have cB:Hid (Kp (fun b=>blk (.slice (some ⟨pb,0,none⟩) nr uj) b) wN wN.drew):=Kp.drew _ _
      clear s0 s1 s2 s3 hN0
      go_wp2_with fail
      refine GZ.mR (S:=fun V=>Kp (fun b=>blk (.slice (some ⟨pb,0,none⟩) nr uj) b) wN V) (z:=8) (by kernel_rfl) ?_
      refine GZ.tk 0 cB.o ?_ ?_ ?_
      rotate_left 1
      · intro V h
        obtain⟨k0,k1,k2,k3,k4,k5,k6,k7,k8,k9,k10,k11,k12,k13,k14,k15,k16,k17,k18⟩:=cJ.o V h
        go_simp
        try with_reducible rfl
      refine GZ.tk 1 cB.o ?_ ?_ ?_
      rotate_left 1
      · intro V h
        obtain⟨k0,k1,k2,k3,k4,k5,k6,k7,k8,k9,k10,k11,k12,k13,k14,k15,k16,k17,k18⟩:=cJ.o V h
        go_simp
        try with_reducible rfl
      refine GZ.tk 2 cB.o ?_ ?_ ?_
      rotate_left 1
      · intro V h
        obtain⟨k0,k1,k2,k3,k4,k5,k6,k7,k8,k9,k10,k11,k12,k13,k14,k15,k16,k17,k18⟩:=cJ.o V h
        go_simp
        try with_reducible rfl
      refine GZ.tk 3 cB.o ?_ ?_ ?_
      rotate_left 1
      · intro V h
        obtain⟨k0,k1,k2,k3,k4,k5,k6,k7,k8,k9,k10,k11,k12,k13,k14,k15,k16,k17,k18⟩:=cJ.o V h
        go_simp
        try with_reducible rfl
      refine GZ.all (rs:=[4]) (by kernel_rfl) (by simp) ?_
      refine GZ.bJ.cons rfl (fun K hK=>?_) GZ.bJ.nil
      go_simp;go_at_call 57;refine(HD0.o _).mono ?_;rintro e w8 ⟨rfl,UJ⟩;have rV:Hid (Below wN.heap.size wN w8):=(Below.refl wN.heap.size wN).drew.trans UJ;have Tj:Hid (Kp (fun b=>blk (.slice (some ⟨pb,0,none⟩) nr uj) b) wN w8):=Kp.aF rV.o;have Aw:Hid (∀o,Kp (fun b=>blk (.slice (some ⟨pb,0,none⟩) nr uj) b) wN (w8.alloc o)):=fun o=>Tj.o.trans (Kp.alloc _ _ o) (fun _ _ g=>g);clear UJ;go_simp
      refine hK.out _ _ (fun _=>?_) ?_
      · exact Tj.o
      clear hK K
      try simp only[Act.put,List.setIfInBounds_toArray,List.set_cons_zero,List.set_cons_succ]
      refine GZ.all (rs:=[5]) (by kernel_rfl) (by simp) ?_
      refine GZ.bJ.cons rfl (fun K hK=>?_) GZ.bJ.nil
      go_simp
      refine hK.out _ _ (fun _=>?_) ?_
      · exact Aw.o _
      clear hK K
      try simp only[Act.put,List.setIfInBounds_toArray,List.set_cons_zero,List.set_cons_succ]
      have tO:Hid (∀o,(w8.alloc o).ownsRow ob 70 13 (.slice (some ⟨pb,0,none⟩) nr uj) nr ((f.procs.set k N).flatMap aI)):=fun o=>by
       have h:=qB.o.1.procs
       rw[<- ja.o] at h
       have e:(f.procs.set k N).length=nr:=by rw[List.length_set,<- ja.o]
       simp only[e] at h
       exact Kp.row ((Kp.aF (D:=fun _=>False) rV.o).trans (Kp.alloc (fun _=>False) _ o) (fun _ _ g=>g)) h (fun _ _ g=>g)
      have R4:Hid (∀(O:Obj) (wG:World) (vG:Value),(w8.alloc O).grownBy wG (Value.ownBlock (.slice (some ⟨pb,0,none⟩) nr uj))->wG.ownsRow ob 70 13 vG (nr+1) ((f.procs.set k N).flatMap aI++aI N0)->(vG.ownBlock=Value.ownBlock (.slice (some ⟨pb,0,none⟩) nr uj)∨vG.ownBlock=some (w8.alloc O).heap.size)->Fo ob mb (wG.setCell ⟨mb,2,none⟩ vG) ⟨gs,Nt,f.procs.set k N++[N0],go⟩ (.slice Lr Nt.length cs') L' vG (.slice oG go.length D5)/\Kp (fun b=>b=mb∨b=pb) wN (wG.setCell ⟨mb,2,none⟩ vG)):=fun O wG vG g1 g2 g3=>by
       have e:(f.procs.set k N).length=nr:=by rw[List.length_set,<- ja.o]
       obtain⟨h1,h2⟩:=qB.o.1.child (w1:=w8.alloc O) (o:=N0) (rV.o.alloc rV.o.size O) g1 (by simp only[e];exact g2) g3
       exact⟨h1,h2.mono (fun b _ x=>x.elim .inl (fun y=>.inr (Option.some.inj y).symm))⟩
      refine GZ.all (rs:=[6]) (by kernel_rfl) (by simp) ?_
      refine GZ.bJ.cons rfl (fun K hK=>?_) GZ.bJ.nil
      rw[if_pos (by rfl)];refine cF (P:=Tryz.prog) _ _ 27 rfl ob 70 ir (.agg #[I 0,I 0,I 0,I 0,I 0,I 0,I 0,I 0,I 0,I 0,I 0,I 0,I 0]) 13 104 Tryz.underlying27 Pw.o Zg.o mg.o Lx.o rfl (by decide) (.slice (some ⟨pb,0,none⟩) nr uj) nr ((f.procs.set k N).flatMap aI) rfl (tO.o _) (some ⟨w8.heap.size,0,none⟩) 1 1 (aI N0) rfl rfl (fun _=>⟨_,rfl,lq w8 (aI N0) _⟩) (Qc N0) (by unfold maxLen;omega) (by omega) (by rw[World.size_alloc];have:=rV.o.size;have:=B.isLt qB.o.1.mem.head;omega) ?_;intro vG wG xB uN DC;obtain⟨aG,cG,MV,_,_⟩:=aJ xB;subst MV;have zu:=ai (R4.o _ _ _ uN xB DC);have qP:Hid (Kp (fun b=>blk (.slice (some ⟨pb,0,none⟩) nr uj) b) wN wG):=(Aw.o _).trans (Kp.grown uN (fun _ e=>e)) (fun _ _ g=>g);have VV:=(cJ.o wG qP.o).1;have hof:wG.frozen? ⟨mb,2,none⟩=false:=B.free (qP.o.keep qB.o.1.mem.head (fun g=>qB.o.1.mem.d1.1 g)) 2;clear xB uN DC
      refine hK.out _ _ (fun _=>?_) ?_
      · exact qP.o
      clear hK K
      try simp only[Act.put,List.setIfInBounds_toArray,List.set_cons_zero,List.set_cons_succ]
      refine GZ.all (rs:=[7]) (by kernel_rfl) (by simp) ?_
      refine GZ.bJ.cons rfl (fun K hK=>?_) GZ.bJ.nil
      go_simp
      refine hK.out _ _ (fun _=>?_) ?_
      · exact qP.o
      clear hK K
      try simp only[Act.put,List.setIfInBounds_toArray,List.set_cons_zero,List.set_cons_succ]
      refine GZ.all (rs:=[8]) (by kernel_rfl) (by simp) ?_
      refine GZ.bJ.cons rfl (fun K hK=>?_) GZ.bJ.nil
      go_simp
      refine hK.out _ _ (fun g=>absurd rfl g) ?_
      refine GZ.done (by kernel_rfl) ?_ _
      obtain⟨wE,hwE⟩:=ex (wG.setCell ⟨mb,2,none⟩ (.slice aG (nr+1) cG))
      rw[<- hwE] at zu ⊢
      have K8:=ai (zu.o.2.keep BZ4.o (fun e=>by rcases e with e | e <;> omega))
      have ET:Hid (Below w.heap.size w wE):=Kp.below LA.o zu.o.2 LA.o.size (fun b e=>by rcases e with e | e <;> omega)
      clear hwE m0 m1 m2 m3 z0 z1 z2 z3 zf d4 VV hof cJ cB HD0 tO R4 qP
      have VX:=zu.o.1.mem.head
      rw[<- R8.o,<- Sa.o] at VX
      obtain⟨m0,m1,m2,m3⟩:=B.c4 VX
      obtain⟨z0,z1,z2,z3⟩:=B.c4 K8.o
      have zf:∀j,wE.frozen? ⟨b1,j,none⟩=false:=fun j=>B.free K8.o j
      clear VX
      go_wp2
      refine bodyPost_ret (v:=.agg #[I gs,.slice Lr nsp cs',.slice aG (nr+1) cG,.slice oG ngo D5]) (by simp[results,Tryz.results16,go_sem,z0,z1,z2,z3]) rfl ?_
      refine HP.o _ _ ?_
      have hE:=sL (w:=w) (b1:=b1) (sl:=gs) zu.o.1 rfl Pn hwb ET.o
      rw[<- R8.o,<- Sa.o] at hE
      rw[HST.o]
      exact Jr HN.o HN0.o HQ.o ⟨PJ.o.1 (by trivial),HV.o⟩ hE
end GO
end Go.Proofs.YtkdigjpejnebkaaGreat
