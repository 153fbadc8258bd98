import Derived.Test.YtkdigjpejnebkaaGreatGU00
import Derived.Test.YtkdigjpejnebkaaGreatGU31
import Derived.Deep.DeepCutAuto
import Derived.Deep.CutBlock
set_option maxHeartbeats 20000000
set_option linter.unusedVariables false
set_option maxRecDepth 100000
set_option linter.unusedSimpArgs false
namespace Go.Proofs.YtkdigjpejnebkaaGreat
namespace GO
open Go.RowKit GK
open GF (Lc vY bu bH aH eP blk eT eQ dw bl nt dg)
open GW (aI bR bg cB)
open FW (ai aB)
theorem PY (p:PM.Pr):∀u∈aI p,u.oneCell'=true:=fun u hu=>GH.Fg [p] u (by simpa using hu)
theorem Ji {f:FM.Fl} {k:Nat} {i:PM.ey} {val gs:Int} {Nv:List FM.Sp} {go:List FM.Wd} {q N N0:PM.Pr} {w w':World} {e:Ending} (hN:N=PM.doneN q i val) (hN0:N0=PM.doneN q i 0) (hq:q=FM.au f.procs k) (hy:(i.op=16/\i.m=5)/\0<=val) (h:qx w ⟨gs,Nv,f.procs.set k N++[N0],go⟩ e w'):qx w (rG f k i val ⟨gs,Nv,f.procs,go⟩) e w':=by
 unfold rG
 rw[if_pos hy,<- hq,<- hN,<- hN0]
 exact h
theorem Db {f:FM.Fl} {k:Nat} {i:PM.ey} {val gs:Int} {Nv:List FM.Sp} {go:List FM.Wd} {q N:PM.Pr} {w w':World} {e:Ending} (hN:N=PM.doneN q i val) (hq:q=FM.au f.procs k) (hno:¬((i.op=16/\i.m=5)/\0<=val)) (h:qx w ⟨gs,Nv,f.procs.set k N,go⟩ e w'):qx w (rG f k i val ⟨gs,Nv,f.procs,go⟩) e w':=by
 unfold rG
 rw[if_neg hno,List.append_nil,<- hq,<- hN]
 exact h
theorem Jw (f:FM.Fl) (k:Nat) (az ar ao:Option Addr) (cs cr co:Nat) (w:World) (h:FW.fK w f az ar ao) (hok:GG.lZ GM.qy (GH.aZ f)) (hk2:k<f.procs.length) (hs:(FM.au f.procs k).st=1) (ho:f.out.length<2000) :
  Calls Tryz.prog 16 #[.agg (FW.bw f az ar ao cs cr co),I (k:Int)] w (qx w (GR.di f (k:Int))):=by
 have Ej:Hid (GR.Run f k):=⟨hk2,hs,ho⟩
 have qm:=ai (SL hok hk2 hs)
 have Cg:=ai hs
 have Tx:=ai (hok.fit k hk2)
 clear ho
 have hl:=ub hok
 have hk:k<f.ak.length:=by omega
 have h4:f.ak.length<=4:=hok.mem.few.2
 have tH:=ai hok
 have Aw:=ai hk
 have lY:=ai hk2
 obtain⟨ns,hns⟩:=ex f.ak.length
 obtain⟨nr,fh⟩:=ex f.procs.length
 obtain⟨no,hno⟩:=ex f.out.length
 have iw:=ai hns
 have iW:=ai fh
 have iY:=ai hno
 obtain⟨q,hq⟩:=ex (FM.au f.procs k)
 have HQ:=ai hq
 have HOW:Hid (∀V,Below w.heap.size w V->Calls Tryz.prog 47 #[.agg #[I f.slots,.slice az ns cs,.slice ar nr cr,.slice ao no co]] V (KN V f)):=fun V hV=>by
  have:=vX f az ar ao cs cr co V (h.below hV) (by omega) (sM hok) (by omega) (by have:f.out.length<=2000:=hok.out;omega)
  unfold FW.bw at this
  rw[<- hns,<- fh,<- hno] at this
  exact this
 unfold FW.bw
 rw[<- hns,<- fh,<- hno]
 rw[<- hq] at hs
 obtain⟨P,hP⟩:=ex (qx w (GR.di f (k:Int)))
 have HP:Hid (∀e w',qx w (GR.di f (k:Int)) e w'->P e w'):=fun e w' g=>by rw[hP];exact g
 rw[<- hP]
 have cY:=ai (((Below.refl w.heap.size w).alloc (Nat.le_refl _) (.cells #[I f.slots,.slice az ns cs,.slice ar nr cr,.slice ao no co] 30)).alloc (by simp) (.cells #[I 0,Nl,Nl,Nl] 30))
 have BZ:=ai (B.new (w.alloc (.cells #[I f.slots,.slice az ns cs,.slice ar nr cr,.slice ao no co] 30)) #[I 0,Nl,Nl,Nl] 30)
 rw[World.size_alloc] at BZ
 have jd:(k:Int)<(ns:Int):=by omega
 have iz:(k:Int)<(nr:Int):=by omega
 have ab9:nr<=4:=by omega
 clear h hok hP hns fh hno hq hl hk hk2
 go_enter Tryz.func16,Tryz.ntmps16
 go_wp2_with (go_at_call 47;refine(HOW.o _ cY.o).mono ?_;rintro e w3 ⟨ob,v,L,vr,vo,rfl,Ct,hF,hb3⟩;obtain⟨sb,cap,pb,ui,aa,na,ca,ap,cp,I2,Le,rfl,rfl,rfl,hlc,A⟩:=hF.at Aw.o lY.o;rw[World.size_alloc,World.size_alloc] at Ct;have VJ:=ai hF;have fH:=ai hb3;have uy:=ai A;have Et:=ai (B.below BZ.o (hb3.mono (by simp)) (B.isLt BZ.o));obtain⟨z0,z1,z2,z3⟩:=B.c4 Et.o;have zf:∀j,w3.frozen? ⟨w.heap.size+1,j,none⟩=false:=fun j=>B.free Et.o j;have zl:=B.isLt Et.o;have q9:w3.cell? ⟨pb,k*13+9,none⟩=some (I q.st):=(A.pr 9 (by omega)).trans (by rw[HQ.o];rfl);have jN:=A.sl;have hpb:=A.pl;clear hF hb3 A;rw[<- iw.o,<- iW.o,<- iY.o])
 have wj:=ai VJ.o.Qa
 have oI:=ai (cY.o.trans ((fH.o.mono (by simp;omega)).alloc (by have:=fH.o.size;simp at this ⊢;omega) (.cells #[I f.slots,.slice (some ⟨sb,0,none⟩) f.ak.length cap,.slice (some ⟨pb,0,none⟩) f.procs.length ui,.slice I2 f.out.length Le] 30)))
 have SC:=ai (B.alloc Et.o (.cells #[I f.slots,.slice (some ⟨sb,0,none⟩) f.ak.length cap,.slice (some ⟨pb,0,none⟩) f.procs.length ui,.slice I2 f.out.length Le] 30))
 rw[<- iw.o,<- iW.o,<- iY.o] at oI SC
 have HEW:Hid (w3.alloc (.cells #[I f.slots,.slice (some ⟨sb,0,none⟩) f.ak.length cap,.slice (some ⟨pb,0,none⟩) f.procs.length ui,.slice I2 f.out.length Le] 30)=w3.alloc (.cells #[I f.slots,.slice (some ⟨sb,0,none⟩) ns cap,.slice (some ⟨pb,0,none⟩) nr ui,.slice I2 no Le] 30)):=by
  show _=_
  rw[iw.o,iW.o,iY.o]
 rw[HEW.o] at wj
 obtain⟨W,hW⟩:=ex (w3.alloc (.cells #[I f.slots,.slice (some ⟨sb,0,none⟩) ns cap,.slice (some ⟨pb,0,none⟩) nr ui,.slice I2 no Le] 30))
 obtain⟨mb,hmb⟩:=ex w3.heap.size
 obtain⟨b1,hb1⟩:=ex (w.heap.size+1)
 rw[<- hW] at wj oI SC ⊢
 rw[<- hmb] at wj ⊢
 rw[<- hb1] at SC ⊢
 have K9:b1<ob:=by omega
 have hwb:w.heap.size<=b1:=by omega
 clear hs HEW Et fH VJ uy HOW cY BZ z0 z1 z2 z3 zf zl q9 jN hpb hlc Ct hW hmb hb1
 obtain⟨sb',cap',pb',YR,aa,na,ca,ap,cp,ov,DY,e1,e2,e3,hlc,A⟩:=wj.o.at Aw.o lY.o
 injection e1 with e1 _ U6
 injection e1 with e1
 injection e1 with e1
 injection e2 with e2 _ e2'
 injection e2 with e2
 injection e2 with e2
 injection e3 with e3 _ e3'
 subst e1 U6 e2 e2' e3 e3'
 have Cr:=ai A
 have jN:=A.sl
 have hpb:=A.pl
 obtain⟨lv,hlv⟩:=ex ((FM.ax f.ak k).live)
 obtain⟨np,fB⟩:=ex ((FM.ax f.ak k).aj.length)
 obtain⟨fx,Ym⟩:=ex (FM.bG (FM.ax f.ak k).aw q.pc 8 2)
 obtain⟨xk,xa⟩:=fx
 have qA:=ai hlv
 have uv:=ai fB
 have Po:=ai Ym
 have vQ:Hid (AM.aD (FM.ax f.ak k).aw=0):=(nk qm.o Aw.o).check
 have ZK:Hid (∀(V:World) (a s y:Int),Below W.heap.size W V->M.dF a->s<=9223372036854775807->Calls Tryz.prog 48 #[.slice aa na ca,I a,I s,I y] V fun e w'=>e=.returned (.agg (FW.dm (FM.bG (FM.ax f.ak k).aw a s y)))/\Below V.heap.size V w'):=fun V a s y hV ha hz=>FW.DM _ _ a s y V (Cr.o.aw.below hV) vQ.o ha hz
 have ZL:Hid (∀V,Below W.heap.size W V->Calls Tryz.prog 48 #[.slice aa na ca,I q.pc,I 8,I 2] V fun e w'=>e=.returned (.agg #[I xk,I xa])/\Below V.heap.size V w'):=fun V hV=>by
  have:=ZK.o V q.pc 8 2 hV (by rw[HQ.o];exact Tx.o.2) (by decide)
  rw[<- Po.o] at this
  exact this
 have Sr:Hid (∀V,Below W.heap.size W V->V.cell? ⟨sb,k*3,none⟩=some (.bool lv)/\V.cell? ⟨sb,k*3+1,none⟩=some (.slice aa na ca)/\V.cell? ⟨sb,k*3+2,none⟩=some (.slice ap np cp)):=fun V hV=>⟨(M.aA hV jN).trans (by rw[qA.o];exact Cr.o.c0),(M.aA hV jN).trans Cr.o.c1,(M.aA hV jN).trans (by rw[uv.o];exact Cr.o.c2)⟩
 have Ty:Hid (∀V,Below W.heap.size W V->V.cell? ⟨pb,k*13,none⟩=some (I (q.r 0))/\V.cell? ⟨pb,k*13+1,none⟩=some (I (q.r 1))/\V.cell? ⟨pb,k*13+2,none⟩=some (I (q.r 2))/\V.cell? ⟨pb,k*13+3,none⟩=some (I (q.r 3))/\V.cell? ⟨pb,k*13+4,none⟩=some (I (q.r 4))/\V.cell? ⟨pb,k*13+5,none⟩=some (I (q.r 5))/\V.cell? ⟨pb,k*13+6,none⟩=some (I (q.r 6))/\V.cell? ⟨pb,k*13+7,none⟩=some (I (q.r 7))/\V.cell? ⟨pb,k*13+8,none⟩=some (I q.pc)/\V.cell? ⟨pb,k*13+9,none⟩=some (I q.st)/\V.cell? ⟨pb,k*13+10,none⟩=some (I q.cd)/\V.cell? ⟨pb,k*13+11,none⟩=some (I q.fk)/\V.cell? ⟨pb,k*13+12,none⟩=some (I q.fa)):=fun V hV=>⟨(M.aA hV hpb).trans ((Cr.o.pr 0 (by omega)).trans (by rw[HQ.o];rfl)),(M.aA hV hpb).trans ((Cr.o.pr 1 (by omega)).trans (by rw[HQ.o];rfl)),(M.aA hV hpb).trans ((Cr.o.pr 2 (by omega)).trans (by rw[HQ.o];rfl)),(M.aA hV hpb).trans ((Cr.o.pr 3 (by omega)).trans (by rw[HQ.o];rfl)),(M.aA hV hpb).trans ((Cr.o.pr 4 (by omega)).trans (by rw[HQ.o];rfl)),(M.aA hV hpb).trans ((Cr.o.pr 5 (by omega)).trans (by rw[HQ.o];rfl)),(M.aA hV hpb).trans ((Cr.o.pr 6 (by omega)).trans (by rw[HQ.o];rfl)),(M.aA hV hpb).trans ((Cr.o.pr 7 (by omega)).trans (by rw[HQ.o];rfl)),(M.aA hV hpb).trans ((Cr.o.pr 8 (by omega)).trans (by rw[HQ.o];rfl)),(M.aA hV hpb).trans ((Cr.o.pr 9 (by omega)).trans (by rw[HQ.o];rfl)),(M.aA hV hpb).trans ((Cr.o.pr 10 (by omega)).trans (by rw[HQ.o];rfl)),(M.aA hV hpb).trans ((Cr.o.pr 11 (by omega)).trans (by rw[HQ.o];rfl)),(M.aA hV hpb).trans ((Cr.o.pr 12 (by omega)).trans (by rw[HQ.o];rfl))⟩
 clear A hlv fB Ym
 go_cut [8] (fun x8 wx=>∃X,x8=.pointer (some ⟨X,0,none⟩)/\W.heap.size<=X/\wx.heap[X]?=some (.cells #[I xk,I xa] 68 (0,0))/\Below W.heap.size W wx)
 case first =>
  have cI:Hid (∀V,Below W.heap.size W V->V.cell? ⟨sb,k*3+1,none⟩=some (.slice aa na ca)/\V.cell? ⟨pb,k*13+8,none⟩=some (I q.pc)):=fun V hV=>⟨(Sr.o V hV).2.1,(Ty.o V hV).2.2.2.2.2.2.2.2.1⟩
  have cw:Hid (Below W.heap.size W W.drew):=(Below.refl _ _).drew
  refine GZ.lV (S:=fun V=>Below W.heap.size W V) (z:=10) (by kernel_rfl) ?_
  refine GZ.tk 0 cw.o ?_ ?_ ?_
  rotate_left 1
  · intro V h
    obtain⟨k0,k1⟩:=cI.o V h
    go_simp
    try with_reducible rfl
  refine GZ.tk 1 cw.o ?_ ?_ ?_
  rotate_left 1
  · intro V h
    obtain⟨k0,k1⟩:=cI.o V h
    go_simp
    try with_reducible rfl
  refine GZ.tk 2 cw.o ?_ ?_ ?_
  rotate_left 1
  · intro V h
    obtain⟨k0,k1⟩:=cI.o V h
    go_simp
    try with_reducible rfl
  refine GZ.tk 3 cw.o ?_ ?_ ?_
  rotate_left 1
  · intro V h
    obtain⟨k0,k1⟩:=cI.o V h
    go_simp
    try with_reducible rfl
  refine GZ.tk 4 cw.o ?_ ?_ ?_
  rotate_left 1
  · intro V h
    obtain⟨k0,k1⟩:=cI.o V h
    go_simp
    try with_reducible rfl
  refine GZ.tk 5 cw.o ?_ ?_ ?_
  rotate_left 1
  · intro V h
    obtain⟨k0,k1⟩:=cI.o V h
    go_simp
    try with_reducible rfl
  refine GZ.tk 6 cw.o ?_ ?_ ?_
  rotate_left 1
  · intro V h
    obtain⟨k0,k1⟩:=cI.o V h
    go_simp
    try with_reducible rfl
  refine GZ.tk 7 cw.o ?_ ?_ ?_
  rotate_left 1
  · intro V h
    obtain⟨k0,k1⟩:=cI.o V h
    go_simp
    try with_reducible rfl
  refine GZ.all (rs:=[8,9]) (by kernel_rfl) (by simp) ?_
  refine GZ.bI.cons rfl (fun K hK=>?_) ?_
  · go_simp;go_at_call 48;refine(ZL.o _ cw.o).mono ?_;rintro e w6 ⟨rfl,Ge⟩;have ux:Hid (Below W.heap.size W w6):=cw.o.trans (Ge.mono cw.o.size);clear Ge;go_simp
    refine hK.out _ _ (fun _=>?_) ?_
    · exact ux.o
    clear hK K
    try simp only[Act.put,List.setIfInBounds_toArray,List.set_cons_zero,List.set_cons_succ]
    have HA6:Hid (∀o,Below W.heap.size W (w6.alloc o)):=fun o=>ux.o.alloc ux.o.size o
    refine GZ.all (rs:=[9]) (by kernel_rfl) (by simp) ?_
    refine GZ.bI.cons rfl (fun K hK=>?_) GZ.bI.nil
    go_simp
    refine hK.out _ _ (fun _=>?_) ?_
    · exact HA6.o _
    clear hK K
    try simp only[Act.put,List.setIfInBounds_toArray,List.set_cons_zero,List.set_cons_succ]
    refine GZ.all (rs:=[10]) (by kernel_rfl) (by simp) ?_
    refine GZ.bI.cons rfl (fun K hK=>?_) GZ.bI.nil
    go_simp
    refine hK.out _ _ (fun g=>absurd rfl g) ?_
    refine GZ.done (by kernel_rfl) ?_ _
    go_wp2_with fail
    go_meet
    case rel=>exact⟨_,rfl,ux.o.size,B.new w6 _ _,HA6.o _⟩
  refine GZ.bI.cons rfl (fun K hK=>?_) GZ.bI.nil
  have Au:Hid (Below W.heap.size W (W.drew.alloc (.cells #[I 0,I 0] 68))):=cw.o.alloc cw.o.size _
  have BX0:Hid ((W.drew.alloc (.cells #[I 0,I 0] 68)).heap[W.heap.size]?=some (.cells #[I 0,I 0] 68 (0,0))):=B.new W.drew _ _
  go_simp
  refine hK.out _ _ (fun _=>?_) ?_
  · exact Au.o
  clear hK K
  try simp only[Act.put,List.setIfInBounds_toArray,List.set_cons_zero,List.set_cons_succ]
  refine GZ.all (rs:=[8]) (by kernel_rfl) (by simp) ?_
  refine GZ.bI.cons rfl (fun K hK=>?_) GZ.bI.nil
  go_simp;go_at_call 48;refine(ZL.o _ Au.o).mono ?_;rintro e w6 ⟨rfl,Ge⟩;have ux:Hid (Below W.heap.size W w6):=Au.o.trans (Ge.mono Au.o.size);have BX6:=ai (B.below BX0.o Ge (B.isLt BX0.o));obtain⟨j0,j1⟩:=B.c2 BX6.o;have jf:∀j,w6.frozen? ⟨W.heap.size,j,none⟩=false:=fun j=>B.free BX6.o j;clear Ge;go_simp
  refine hK.out _ _ (fun _=>?_) ?_
  · exact ux.o
  clear hK K
  try simp only[Act.put,List.setIfInBounds_toArray,List.set_cons_zero,List.set_cons_succ]
  refine GZ.all (rs:=[10]) (by kernel_rfl) (by simp) ?_
  refine GZ.bI.cons rfl (fun K hK=>?_) GZ.bI.nil
  go_simp
  refine hK.out _ _ (fun g=>absurd rfl g) ?_
  refine GZ.done (by kernel_rfl) ?_ _
  go_wp2_with fail
  go_meet
  case rel=>exact⟨_,rfl,Nat.le_refl _,PO BX6.o _ _,Kp.below ux.o (MO (D:=fun b=>b=W.heap.size) _ _ _ _ rfl) ux.o.size (fun b e=>by omega)⟩
 case rest =>
  obtain⟨X,rfl,hX,SR,hbc⟩:=hcut
  have BX:=ai SR
  have l9:=ai hbc
  have c80:wc.cell? ⟨X,0,none⟩=some (I xk):=B.cell SR 0 rfl
  have hXl:=B.isLt SR
  have hcs:=hbc.size
  clear SR hbc ZL
  go_upto_if 40 with fail
  have rV:=ai ((l9.o.alloc l9.o.size (.cells #[I 0,I 0,I 0,I 0,I 0] 99)).alloc (by have:=l9.o.size;simp;omega) (.cells #[I 0,I 0,I 0,I 0,I 0] 101))
  have B9:=ai (B.alloc (B.new wc #[I 0,I 0,I 0,I 0,I 0] 99) (.cells #[I 0,I 0,I 0,I 0,I 0] 101))
  have WH:=ai (B.new (wc.alloc (.cells #[I 0,I 0,I 0,I 0,I 0] 99)) #[I 0,I 0,I 0,I 0,I 0] 101)
  have B8:=ai (B.alloc (B.alloc BX.o (.cells #[I 0,I 0,I 0,I 0,I 0] 99)) (.cells #[I 0,I 0,I 0,I 0,I 0] 101))
  rw[World.size_alloc] at WH
  obtain⟨W8,hW8⟩:=ex ((wc.alloc (.cells #[I 0,I 0,I 0,I 0,I 0] 99)).alloc (.cells #[I 0,I 0,I 0,I 0,I 0] 101))
  rw[<- hW8] at rV B9 WH B8 ⊢
  obtain⟨x9,hx9⟩:=ex wc.heap.size
  rw[<- hx9] at B9 WH ⊢
  have hX9:X<x9:=by omega
  have hWX:W.heap.size<=X:=hX
  clear hW8 hx9 c80 l9 BX hXl hcs
  have VH:=ai (wj.o.below rV.o)
  have Ze:Hid (∀V,Kp (fun b=>b=X∨b=x9∨b=x9+1) W8 V->Below W.heap.size W V):=fun V hV=>Kp.below rV.o hV rV.o.size (fun b e=>by omega)
  go_cut [] (fun wx=>Kp (fun b=>b=X∨b=x9∨b=x9+1) W8 wx/\∃yk ya,wx.heap[X]?=some (.cells #[I yk,I ya] 68 (0,0))/\((¬yk=0/\GR.di f (k:Int)=GR.Ik f k (yk,ya))∨(yk=0/\∃i,Good f k i/\wx.heap[x9]?=some (.cells i.cells 99 (0,0))/\wx.heap[x9+1]?=some (.cells (PM.j6 q i) 101 (0,0)))))
  case first =>
   by_cases hx0:xk=0
   case neg =>
    have hxi:(xk==0)=false:=by rw[beq_eq_false_iff_ne];exact hx0
    go_wp2
    go_meet
    case rel=>exact⟨Kp.refl _ _,xk,xa,B8.o,.inl ⟨hx0,by
     have e:=Po.o
     rw[HQ.o] at e
     have:=GR.EW Ej.o (by rw[<- e];exact hx0)
     rw[<- e] at this
     exact this⟩⟩
   subst hx0
   have HX0:Hid ((FM.bG (FM.ax f.ak k).aw q.pc 8 2).1=0):=by show _=_;rw[<- Po.o]
   obtain⟨D,hD⟩:=ex (GM.ig (FM.ax f.ak k).aj q.pc 8)
   have HD:=ai hD
   obtain⟨i,hi⟩:=ex (PM.ins D)
   have HI:=ai hi
   have HD8:Hid (D.size=8):=by show _=_;rw[HD.o];exact SQ qm.o Aw.o (m:=8) (by omega) (by omega) HX0.o
   have oC:Hid i.fits:=by rw[HI.o];exact PM.pj D HD8.o
   have EM:Hid (∀V,Below W.heap.size W V->Calls Tryz.prog 50 #[.agg #[.bool lv,.slice aa na ca,.slice ap np cp],I q.pc,I 8] V fun e w'=>e=.returned (.string D)/\Below V.heap.size V w'):=fun V hV=>by
    rw[HD.o,qA.o,uv.o]
    exact Oc qm.o Aw.o (m:=8) (by omega) (by omega) HX0.o _ ⟨_,_,_,rfl⟩ ap cp V (Cr.o.aj.below hV)
   have nB:Hid (∀V,Calls Tryz.prog 49 #[.string D] V fun e w'=>e=.returned (.agg i.cells)/\Below V.heap.size V w'):=fun V=>by
    rw[HI.o]
    exact PW.Nz D V HD8.o
   obtain⟨k0,a1,a2,a3,a4,YD,xJ⟩:=tF q i
   have ZX:=ai YD
   have Ep:=ai xJ
   have HAS:Hid (∀V,Calls Tryz.prog 51 #[q.val,.agg i.cells] V fun e w'=>e=.returned (.agg #[I k0,I a1,I a2,I a3,I a4])/\Below V.heap.size V w'):=fun V=>by
    rw[<- ZX.o]
    cases hb:i.bad with
    | false=>exact PW.Oj q i V oC.o hb
    | true =>
     have:=Oh q i V hb
     have e:PM.j6 q i=#[I 4,I 0,I 0,I 0,I 0]:=by
      unfold PM.j6
      rw[if_pos hb]
     rw[e]
     exact this
   clear hD hi YD xJ
   obtain⟨op,ia,ib,ic,im⟩:=i
   unfold PM.ey.cells at nB HAS
   simp only at nB HAS
   unfold PM.Pr.val PM.Pr.row at HAS
   go_wp2_with fail
   have cw:Hid (Below W8.heap.size W8 W8.drew):=(Below.refl _ _).drew
   have Cf:Hid (∀V,Below W8.heap.size W8 V->Below W.heap.size W V):=fun V hV=>rV.o.trans (hV.mono rV.o.size)
   have cI:Hid (∀V,Below W8.heap.size W8 V->V.cell? ⟨sb,k*3,none⟩=some (.bool lv)/\V.cell? ⟨sb,k*3+1,none⟩=some (.slice aa na ca)/\V.cell? ⟨sb,k*3+2,none⟩=some (.slice ap np cp)/\V.cell? ⟨pb,k*13+8,none⟩=some (I q.pc)):=fun V hV=>⟨(Sr.o V (Cf.o V hV)).1,(Sr.o V (Cf.o V hV)).2.1,(Sr.o V (Cf.o V hV)).2.2,(Ty.o V (Cf.o V hV)).2.2.2.2.2.2.2.2.1⟩
   refine GZ.lV (S:=fun V=>Below W8.heap.size W8 V) (z:=9) (by kernel_rfl) ?_
   refine GZ.tk 0 cw.o ?_ ?_ ?_
   rotate_left 1
   · intro V h
     obtain⟨k0,k1,k2,k3⟩:=cI.o V h
     go_simp
     try with_reducible rfl
   refine GZ.tk 1 cw.o ?_ ?_ ?_
   rotate_left 1
   · intro V h
     obtain⟨k0,k1,k2,k3⟩:=cI.o V h
     go_simp
     try with_reducible rfl
   refine GZ.tk 2 cw.o ?_ ?_ ?_
   rotate_left 1
   · intro V h
     obtain⟨k0,k1,k2,k3⟩:=cI.o V h
     go_simp
     try with_reducible rfl
   refine GZ.tk 3 cw.o ?_ ?_ ?_
   rotate_left 1
   · intro V h
     obtain⟨k0,k1,k2,k3⟩:=cI.o V h
     go_simp
     try with_reducible rfl
   refine GZ.tk 4 cw.o ?_ ?_ ?_
   rotate_left 1
   · intro V h
     obtain⟨k0,k1,k2,k3⟩:=cI.o V h
     go_simp
     try with_reducible rfl
   refine GZ.tk 5 cw.o ?_ ?_ ?_
   rotate_left 1
   · intro V h
     obtain⟨k0,k1,k2,k3⟩:=cI.o V h
     go_simp
     try with_reducible rfl
   refine GZ.tk 6 cw.o ?_ ?_ ?_
   rotate_left 1
   · intro V h
     obtain⟨k0,k1,k2,k3⟩:=cI.o V h
     go_simp
     try with_reducible rfl
   refine GZ.all (rs:=[7]) (by kernel_rfl) (by simp) ?_
   refine GZ.bI.cons rfl (fun K hK=>?_) GZ.bI.nil
   go_simp;go_at_call 50;refine(EM.o _ (Cf.o _ cw.o)).mono ?_;rintro e w6 ⟨rfl,Ge⟩;have ux:Hid (Below W8.heap.size W8 w6):=cw.o.trans (Ge.mono cw.o.size);clear Ge;go_simp
   refine hK.out _ _ (fun _=>?_) ?_
   · exact ux.o
   clear hK K
   try simp only[Act.put,List.setIfInBounds_toArray,List.set_cons_zero,List.set_cons_succ]
   refine GZ.all (rs:=[8]) (by kernel_rfl) (by simp) ?_
   refine GZ.bI.cons rfl (fun K hK=>?_) GZ.bI.nil
   go_simp;go_at_call 49;refine(nB.o _).mono ?_;rintro e w7 ⟨rfl,vJ⟩;have iT:Hid (Below W8.heap.size W8 w7):=ux.o.trans (vJ.mono ux.o.size);have SH:=ai (B.below B9.o iT.o (B.isLt B9.o));obtain⟨j0,j1,j2,j3,j4⟩:=B.c5 SH.o;have jf:∀j,w7.frozen? ⟨x9,j,none⟩=false:=fun j=>B.free SH.o j;clear vJ;go_simp
   refine hK.out _ _ (fun _=>?_) ?_
   · exact iT.o
   clear hK K
   try simp only[Act.put,List.setIfInBounds_toArray,List.set_cons_zero,List.set_cons_succ]
   refine GZ.all (rs:=[9]) (by kernel_rfl) (by simp) ?_
   refine GZ.bI.cons rfl (fun K hK=>?_) GZ.bI.nil
   go_simp
   refine hK.out _ _ (fun g=>absurd rfl g) ?_
   refine GZ.done (by kernel_rfl) ?_ _
   have K2:=ai (WL SH.o (I op) (I ia) (I ib) (I ic) (I im))
   have OP:Hid (Kp (fun b=>b=X∨b=x9∨b=x9+1) W8 (((((w7.setCell ⟨x9,0,none⟩ (I op)).setCell ⟨x9,1,none⟩ (I ia)).setCell ⟨x9,2,none⟩ (I ib)).setCell ⟨x9,3,none⟩ (I ic)).setCell ⟨x9,4,none⟩ (I im))):=(Kp.aF iT.o).trans (VX _ _ _ _ _ _ _ (.inr (.inl rfl))) (fun _ _ g=>g)
   have SI:=ai ((VX (D:=fun b=>b=x9) w7 x9 (I op) (I ia) (I ib) (I ic) (I im) rfl).keep (B.below WH.o iT.o (B.isLt WH.o)) (by omega))
   have SD:=ai ((VX (D:=fun b=>b=x9) w7 x9 (I op) (I ia) (I ib) (I ic) (I im) rfl).keep (B.below B8.o iT.o (B.isLt B8.o)) (by omega))
   obtain⟨K3,Xy⟩:=ex ((((((w7.setCell ⟨x9,0,none⟩ (I op)).setCell ⟨x9,1,none⟩ (I ia)).setCell ⟨x9,2,none⟩ (I ib)).setCell ⟨x9,3,none⟩ (I ic)).setCell ⟨x9,4,none⟩ (I im)))
   rw[<- Xy] at K2 OP SI SD ⊢
   clear Xy j0 j1 j2 j3 j4 jf SH iT ux cI Cf cw EM nB
   go_wp2_with fail
   have cw:Hid (Below K3.heap.size K3 K3.drew):=(Below.refl _ _).drew
   have Cf:Hid (∀V,Below K3.heap.size K3 V->Below W.heap.size W V):=fun V hV=>(Ze.o _ OP.o).trans (hV.mono (Ze.o _ OP.o).size)
   have cI:Hid (∀V,Below K3.heap.size K3 V->V.cell? ⟨pb,k*13,none⟩=some (I (q.r 0))/\V.cell? ⟨pb,k*13+1,none⟩=some (I (q.r 1))/\V.cell? ⟨pb,k*13+2,none⟩=some (I (q.r 2))/\V.cell? ⟨pb,k*13+3,none⟩=some (I (q.r 3))/\V.cell? ⟨pb,k*13+4,none⟩=some (I (q.r 4))/\V.cell? ⟨pb,k*13+5,none⟩=some (I (q.r 5))/\V.cell? ⟨pb,k*13+6,none⟩=some (I (q.r 6))/\V.cell? ⟨pb,k*13+7,none⟩=some (I (q.r 7))/\V.cell? ⟨pb,k*13+8,none⟩=some (I q.pc)/\V.cell? ⟨pb,k*13+9,none⟩=some (I q.st)/\V.cell? ⟨pb,k*13+10,none⟩=some (I q.cd)/\V.cell? ⟨pb,k*13+11,none⟩=some (I q.fk)/\V.cell? ⟨pb,k*13+12,none⟩=some (I q.fa)/\V.cell? ⟨x9,0,none⟩=some (I op)/\V.cell? ⟨x9,1,none⟩=some (I ia)/\V.cell? ⟨x9,2,none⟩=some (I ib)/\V.cell? ⟨x9,3,none⟩=some (I ic)/\V.cell? ⟨x9,4,none⟩=some (I im)):=fun V hV=>by
    obtain⟨d0,d1,d2,d3,d4,d5,d6,d7,d8,d9,d10,d11,d12⟩:=Ty.o V (Cf.o V hV)
    have hx:=B.below K2.o hV (B.isLt K2.o)
    exact⟨d0,d1,d2,d3,d4,d5,d6,d7,d8,d9,d10,d11,d12,B.cell hx 0 rfl,B.cell hx 1 rfl,B.cell hx 2 rfl,B.cell hx 3 rfl,B.cell hx 4 rfl⟩
   refine GZ.lV (S:=fun V=>Below K3.heap.size K3 V) (z:=5) (by kernel_rfl) ?_
   refine GZ.tk 0 cw.o ?_ ?_ ?_
   rotate_left 1
   · intro V h
     obtain⟨k0,k1,k2,k3,k4,k5,k6,k7,k8,k9,k10,k11,k12,k13,k14,k15,k16,k17⟩:=cI.o V h
     go_simp
     try with_reducible rfl
   refine GZ.tk 1 cw.o ?_ ?_ ?_
   rotate_left 1
   · intro V h
     obtain⟨k0,k1,k2,k3,k4,k5,k6,k7,k8,k9,k10,k11,k12,k13,k14,k15,k16,k17⟩:=cI.o V h
     go_simp
     try with_reducible rfl
   refine GZ.tk 2 cw.o ?_ ?_ ?_
   rotate_left 1
   · intro V h
     obtain⟨k0,k1,k2,k3,k4,k5,k6,k7,k8,k9,k10,k11,k12,k13,k14,k15,k16,k17⟩:=cI.o V h
     go_simp
     try with_reducible rfl
   refine GZ.tk 3 cw.o ?_ ?_ ?_
   rotate_left 1
   · intro V h
     obtain⟨k0,k1,k2,k3,k4,k5,k6,k7,k8,k9,k10,k11,k12,k13,k14,k15,k16,k17⟩:=cI.o V h
     go_simp
     try with_reducible rfl
   refine GZ.all (rs:=[4]) (by kernel_rfl) (by simp) ?_
   refine GZ.bI.cons rfl (fun K hK=>?_) GZ.bI.nil
   go_simp;go_at_call 51;refine(HAS.o _).mono ?_;rintro e w7 ⟨rfl,vJ⟩;have iT:Hid (Below K3.heap.size K3 w7):=cw.o.trans (vJ.mono cw.o.size);have SH:=ai (B.below SI.o iT.o (B.isLt SI.o));obtain⟨j0,j1,j2,j3,j4⟩:=B.c5 SH.o;have jf:∀j,w7.frozen? ⟨x9+1,j,none⟩=false:=fun j=>B.free SH.o j;clear vJ;go_simp
   refine hK.out _ _ (fun _=>?_) ?_
   · exact iT.o
   clear hK K
   try simp only[Act.put,List.setIfInBounds_toArray,List.set_cons_zero,List.set_cons_succ]
   refine GZ.all (rs:=[5]) (by kernel_rfl) (by simp) ?_
   refine GZ.bI.cons rfl (fun K hK=>?_) GZ.bI.nil
   go_simp
   refine hK.out _ _ (fun g=>absurd rfl g) ?_
   refine GZ.done (by kernel_rfl) ?_ _
   have vT:=ai (WL SH.o (I k0) (I a1) (I a2) (I a3) (I a4))
   have Hs:=ai ((VX (D:=fun b=>b=x9+1) w7 (x9+1) (I k0) (I a1) (I a2) (I a3) (I a4) rfl).keep (B.below K2.o iT.o (B.isLt K2.o)) (by omega))
   have zz:=ai ((VX (D:=fun b=>b=x9+1) w7 (x9+1) (I k0) (I a1) (I a2) (I a3) (I a4) rfl).keep (B.below SD.o iT.o (B.isLt SD.o)) (by omega))
   have Hj:Hid (Kp (fun b=>b=X∨b=x9∨b=x9+1) W8 (((((w7.setCell ⟨x9+1,0,none⟩ (I k0)).setCell ⟨x9+1,1,none⟩ (I a1)).setCell ⟨x9+1,2,none⟩ (I a2)).setCell ⟨x9+1,3,none⟩ (I a3)).setCell ⟨x9+1,4,none⟩ (I a4))):=OP.o.trans ((Kp.aF iT.o).trans (VX _ _ _ _ _ _ _ (.inr (.inr rfl))) (fun _ _ g=>g)) (fun _ _ g=>g)
   obtain⟨vv,Xx⟩:=ex ((((((w7.setCell ⟨x9+1,0,none⟩ (I k0)).setCell ⟨x9+1,1,none⟩ (I a1)).setCell ⟨x9+1,2,none⟩ (I a2)).setCell ⟨x9+1,3,none⟩ (I a3)).setCell ⟨x9+1,4,none⟩ (I a4)))
   rw[<- Xx] at vT Hs zz Hj ⊢
   clear Xx j0 j1 j2 j3 j4 jf SH iT cI Cf cw HAS SI SD K2 OP
   have Hn:=ai (Ze.o _ Hj.o)
   have vk:Hid ((FM.bG (FM.ax f.ak k).aw (FM.au f.procs k).pc 8 2).1=0):=by show _=_;rw[<- HQ.o];exact HX0.o
   have HG2:Hid (PM.ins (GM.ig (FM.ax f.ak k).aj (FM.au f.procs k).pc 8)=⟨op,ia,ib,ic,im⟩):=by show _=_;rw[<- HQ.o,<- HD.o];exact HI.o.symm
   have c0:vv.cell? ⟨x9+1,0,none⟩=some (I k0):=B.cell vT.o 0 rfl
   have xf:∀j,vv.frozen? ⟨X,j,none⟩=false:=fun j=>B.free zz.o j
   obtain⟨xc0,xc1⟩:=B.c2 zz.o
   have hp8:vv.cell? ⟨pb,k*13+8,none⟩=some (I q.pc):=(Ty.o _ Hn.o).2.2.2.2.2.2.2.2.1
   clear HX0 HD8
   have xJ:=Ep.o
   rcases xJ with⟨qI,rfl⟩ | ⟨qI,⟨ho,rfl,ha1,ha2,Dz⟩ | ⟨ho,rfl,ha1,ha2,ha3,Dz⟩ | ⟨ho,rfl,Dz⟩ | ⟨h9,h10,Bn,rfl,Dz⟩⟩
   · have qQ:=ai qI
     clear qI
     go_wp2
     go_meet
     case rel=>exact⟨Hj.o.trans (MO _ _ _ _ (.inl rfl)) (fun _ _ g=>g),4,q.pc,PO zz.o _ _,.inl ⟨by decide,by
      rw[HQ.o]
      exact GR.tR Ej.o vk.o HG2.o (show ¬(4:Int)=0 by decide) (GR.RB qQ.o)⟩⟩
   · have qQ:=ai qI
     have Pn:=ai ho
     have tM:=ai (sj qI (.inl ho))
     have tI:=ai ha1
     have fL:=ai ha2
     obtain⟨fy,Yl⟩:=ex (FM.bG (FM.ax f.ak k).aw a1 a2 0)
     obtain⟨yk,ya⟩:=fy
     have ZI:=ai Yl
     have pN:Hid (∀V,Below W.heap.size W V->Calls Tryz.prog 48 #[.slice aa na ca,I a1,I a2,I 0] V fun e w'=>e=.returned (.agg #[I yk,I ya])/\Below V.heap.size V w'):=fun V hV=>by
      have:=ZK.o V a1 a2 0 hV (by rw[tI.o];exact GG.fR _) (by have h1:=tM.o;have h2:=fL.o;simp only at h1 h2;omega)
      rw[<- ZI.o] at this
      exact this
     clear qI ho ha1 ha2 Dz Yl
     go_wp2_with fail
     have cw:Hid (Below vv.heap.size vv vv.drew):=(Below.refl _ _).drew
     have Cf:Hid (∀V,Below vv.heap.size vv V->Below W.heap.size W V):=fun V hV=>Hn.o.trans (hV.mono Hn.o.size)
     have cI:Hid (∀V,Below vv.heap.size vv V->V.cell? ⟨sb,k*3+1,none⟩=some (.slice aa na ca)/\V.cell? ⟨x9+1,1,none⟩=some (I a1)/\V.cell? ⟨x9+1,2,none⟩=some (I a2)):=fun V hV=>by
      have hx:=B.below vT.o hV (B.isLt vT.o)
      exact⟨(Sr.o V (Cf.o V hV)).2.1,B.cell hx 1 rfl,B.cell hx 2 rfl⟩
     refine GZ.lV (S:=fun V=>Below vv.heap.size vv V) (z:=9) (by kernel_rfl) ?_
     refine GZ.tk 0 cw.o ?_ ?_ ?_
     rotate_left 1
     · intro V h
       obtain⟨k0,k1,k2⟩:=cI.o V h
       go_simp
       try with_reducible rfl
     refine GZ.tk 1 cw.o ?_ ?_ ?_
     rotate_left 1
     · intro V h
       obtain⟨k0,k1,k2⟩:=cI.o V h
       go_simp
       try with_reducible rfl
     refine GZ.tk 2 cw.o ?_ ?_ ?_
     rotate_left 1
     · intro V h
       obtain⟨k0,k1,k2⟩:=cI.o V h
       go_simp
       try with_reducible rfl
     refine GZ.tk 3 cw.o ?_ ?_ ?_
     rotate_left 1
     · intro V h
       obtain⟨k0,k1,k2⟩:=cI.o V h
       go_simp
       try with_reducible rfl
     refine GZ.tk 4 cw.o ?_ ?_ ?_
     rotate_left 1
     · intro V h
       obtain⟨k0,k1,k2⟩:=cI.o V h
       go_simp
       try with_reducible rfl
     refine GZ.tk 5 cw.o ?_ ?_ ?_
     rotate_left 1
     · intro V h
       obtain⟨k0,k1,k2⟩:=cI.o V h
       go_simp
       try with_reducible rfl
     refine GZ.tk 6 cw.o ?_ ?_ ?_
     rotate_left 1
     · intro V h
       obtain⟨k0,k1,k2⟩:=cI.o V h
       go_simp
       try with_reducible rfl
     refine GZ.tk 7 cw.o ?_ ?_ ?_
     rotate_left 1
     · intro V h
       obtain⟨k0,k1,k2⟩:=cI.o V h
       go_simp
       try with_reducible rfl
     refine GZ.all (rs:=[8]) (by kernel_rfl) (by simp) ?_
     refine GZ.bI.cons rfl (fun K hK=>?_) GZ.bI.nil
     go_simp;go_at_call 48;refine(pN.o _ (Cf.o _ cw.o)).mono ?_;rintro e w7 ⟨rfl,vJ⟩;have iT:Hid (Below vv.heap.size vv w7):=cw.o.trans (vJ.mono cw.o.size);have VU:=ai (B.below zz.o iT.o (B.isLt zz.o));obtain⟨j0,j1⟩:=B.c2 VU.o;have jf:∀j,w7.frozen? ⟨X,j,none⟩=false:=fun j=>B.free VU.o j;clear vJ;go_simp
     refine hK.out _ _ (fun _=>?_) ?_
     · exact iT.o
     clear hK K
     try simp only[Act.put,List.setIfInBounds_toArray,List.set_cons_zero,List.set_cons_succ]
     refine GZ.all (rs:=[9]) (by kernel_rfl) (by simp) ?_
     refine GZ.bI.cons rfl (fun K hK=>?_) GZ.bI.nil
     go_simp
     refine hK.out _ _ (fun g=>absurd rfl g) ?_
     refine GZ.done (by kernel_rfl) ?_ _
     go_wp2_with fail
     go_meet
     case rel =>
      have e:=ZI.o
      rw[tI.o,fL.o,HQ.o] at e
      refine⟨Hj.o.trans ((Kp.aF iT.o).trans (MO _ _ _ _ (.inl rfl)) (fun _ _ g=>g)) (fun _ _ g=>g),yk,ya,PO VU.o _ _,?_⟩
      by_cases hy:yk=0
      · exact .inr ⟨hy,⟨op,ia,ib,ic,im⟩,⟨vk.o,HG2.o,qQ.o,oC.o,fun _=>by rw[<- e];exact hy,fun g=>absurd (Pn.o.symm.trans g) (by decide)⟩,(MO (D:=fun b=>b=X) w7 X (I yk) (I ya) rfl).keep (B.below Hs.o iT.o (B.isLt Hs.o)) (by omega),by rw[ZX.o];exact(MO (D:=fun b=>b=X) w7 X (I yk) (I ya) rfl).keep (B.below vT.o iT.o (B.isLt vT.o)) (by omega)⟩
      · refine .inl ⟨hy,?_⟩
        exact GR.tR Ej.o vk.o HG2.o (y:=(yk,ya)) hy (by rw[e];exact GR.Eg qQ.o Pn.o (by rw[<- e];exact hy))
   · have qQ:=ai qI
     have Pn:=ai ho
     have tM:=ai (sj qI (.inr ho))
     have tI:=ai ha1
     have fL:=ai ha2
     obtain⟨fy,Yl⟩:=ex (FM.bG (FM.ax f.ak k).aw a1 a2 1)
     obtain⟨yk,ya⟩:=fy
     have ZI:=ai Yl
     have pN:Hid (∀V,Below W.heap.size W V->Calls Tryz.prog 48 #[.slice aa na ca,I a1,I a2,I 1] V fun e w'=>e=.returned (.agg #[I yk,I ya])/\Below V.heap.size V w'):=fun V hV=>by
      have:=ZK.o V a1 a2 1 hV (by rw[tI.o];exact GG.fR _) (by have h1:=tM.o;have h2:=fL.o;simp only at h1 h2;omega)
      rw[<- ZI.o] at this
      exact this
     clear qI ho ha1 ha2 Dz Yl ha3
     go_wp2_with fail
     have cw:Hid (Below vv.heap.size vv vv.drew):=(Below.refl _ _).drew
     have Cf:Hid (∀V,Below vv.heap.size vv V->Below W.heap.size W V):=fun V hV=>Hn.o.trans (hV.mono Hn.o.size)
     have cI:Hid (∀V,Below vv.heap.size vv V->V.cell? ⟨sb,k*3+1,none⟩=some (.slice aa na ca)/\V.cell? ⟨x9+1,1,none⟩=some (I a1)/\V.cell? ⟨x9+1,2,none⟩=some (I a2)):=fun V hV=>by
      have hx:=B.below vT.o hV (B.isLt vT.o)
      exact⟨(Sr.o V (Cf.o V hV)).2.1,B.cell hx 1 rfl,B.cell hx 2 rfl⟩
     refine GZ.lV (S:=fun V=>Below vv.heap.size vv V) (z:=9) (by kernel_rfl) ?_
     refine GZ.tk 0 cw.o ?_ ?_ ?_
     rotate_left 1
     · intro V h
       obtain⟨k0,k1,k2⟩:=cI.o V h
       go_simp
       try with_reducible rfl
     refine GZ.tk 1 cw.o ?_ ?_ ?_
     rotate_left 1
     · intro V h
       obtain⟨k0,k1,k2⟩:=cI.o V h
       go_simp
       try with_reducible rfl
     refine GZ.tk 2 cw.o ?_ ?_ ?_
     rotate_left 1
     · intro V h
       obtain⟨k0,k1,k2⟩:=cI.o V h
       go_simp
       try with_reducible rfl
     refine GZ.tk 3 cw.o ?_ ?_ ?_
     rotate_left 1
     · intro V h
       obtain⟨k0,k1,k2⟩:=cI.o V h
       go_simp
       try with_reducible rfl
     refine GZ.tk 4 cw.o ?_ ?_ ?_
     rotate_left 1
     · intro V h
       obtain⟨k0,k1,k2⟩:=cI.o V h
       go_simp
       try with_reducible rfl
     refine GZ.tk 5 cw.o ?_ ?_ ?_
     rotate_left 1
     · intro V h
       obtain⟨k0,k1,k2⟩:=cI.o V h
       go_simp
       try with_reducible rfl
     refine GZ.tk 6 cw.o ?_ ?_ ?_
     rotate_left 1
     · intro V h
       obtain⟨k0,k1,k2⟩:=cI.o V h
       go_simp
       try with_reducible rfl
     refine GZ.tk 7 cw.o ?_ ?_ ?_
     rotate_left 1
     · intro V h
       obtain⟨k0,k1,k2⟩:=cI.o V h
       go_simp
       try with_reducible rfl
     refine GZ.all (rs:=[8]) (by kernel_rfl) (by simp) ?_
     refine GZ.bI.cons rfl (fun K hK=>?_) GZ.bI.nil
     go_simp;go_at_call 48;refine(pN.o _ (Cf.o _ cw.o)).mono ?_;rintro e w7 ⟨rfl,vJ⟩;have iT:Hid (Below vv.heap.size vv w7):=cw.o.trans (vJ.mono cw.o.size);have VU:=ai (B.below zz.o iT.o (B.isLt zz.o));obtain⟨j0,j1⟩:=B.c2 VU.o;have jf:∀j,w7.frozen? ⟨X,j,none⟩=false:=fun j=>B.free VU.o j;clear vJ;go_simp
     refine hK.out _ _ (fun _=>?_) ?_
     · exact iT.o
     clear hK K
     try simp only[Act.put,List.setIfInBounds_toArray,List.set_cons_zero,List.set_cons_succ]
     refine GZ.all (rs:=[9]) (by kernel_rfl) (by simp) ?_
     refine GZ.bI.cons rfl (fun K hK=>?_) GZ.bI.nil
     go_simp
     refine hK.out _ _ (fun g=>absurd rfl g) ?_
     refine GZ.done (by kernel_rfl) ?_ _
     go_wp2_with fail
     go_meet
     case rel =>
      have e:=ZI.o
      rw[tI.o,fL.o,HQ.o] at e
      refine⟨Hj.o.trans ((Kp.aF iT.o).trans (MO _ _ _ _ (.inl rfl)) (fun _ _ g=>g)) (fun _ _ g=>g),yk,ya,PO VU.o _ _,?_⟩
      by_cases hy:yk=0
      · exact .inr ⟨hy,⟨op,ia,ib,ic,im⟩,⟨vk.o,HG2.o,qQ.o,oC.o,fun g=>absurd (Pn.o.symm.trans g) (by decide),fun _=>by rw[<- e];exact hy⟩,(MO (D:=fun b=>b=X) w7 X (I yk) (I ya) rfl).keep (B.below Hs.o iT.o (B.isLt Hs.o)) (by omega),by rw[ZX.o];exact(MO (D:=fun b=>b=X) w7 X (I yk) (I ya) rfl).keep (B.below vT.o iT.o (B.isLt vT.o)) (by omega)⟩
      · refine .inl ⟨hy,?_⟩
        have e2:=GR.B0 (f:=f) (k:=k) qQ.o Pn.o (by rw[wU qQ.o Pn.o,<- e];exact hy)
        rw[wU qQ.o Pn.o,<- e] at e2
        exact GR.tR Ej.o vk.o HG2.o (y:=(yk,ya)) hy e2
   · have qQ:=ai qI
     have Pn:=ai ho
     clear qI ho Dz
     go_wp2
     go_meet
     case rel=>exact⟨Hj.o,0,xa,zz.o,.inr ⟨rfl,⟨op,ia,ib,ic,im⟩,⟨vk.o,HG2.o,qQ.o,oC.o,fun g=>absurd (Pn.o.symm.trans g) (by decide),fun g=>absurd (Pn.o.symm.trans g) (by decide)⟩,Hs.o,by rw[ZX.o];exact vT.o⟩⟩
   · have qQ:=ai qI
     have H9:=ai h9
     have H10:=ai h10
     clear qI h9 h10 Bn Dz
     go_wp2
     go_meet
     case rel=>exact⟨Hj.o,0,xa,zz.o,.inr ⟨rfl,⟨op,ia,ib,ic,im⟩,⟨vk.o,HG2.o,qQ.o,oC.o,fun g=>absurd g H9.o,fun g=>absurd g H10.o⟩,Hs.o,by rw[ZX.o];exact vT.o⟩⟩
  case rest =>
   obtain⟨iz,yk,ya,SR,hor⟩:=hcut
   have Hn:=ai (Ze.o _ iz)
   have Eu:=ai SR
   obtain⟨xc0,xc1⟩:=B.c2 SR
   have yB:Hid (∀V,Below W.heap.size W V->∀j,V.frozen? ⟨pb,j,none⟩=false):=fun V hV j=>fZ (wj.o.below hV).procs j
   have OY:Hid (∀V,Below wc.heap.size wc V->Below W.heap.size W V):=fun V hV=>Hn.o.trans (hV.mono Hn.o.size)
   have ahU:¬mb=sb:=fun e=>wj.o.mem.n1 (by rw[e];rfl)
   have acK:¬b1=sb:=fun e=>by have:=(wj.o.mem.row.lt sb rfl).1;omega
   clear iz SR Ze VH B8 B9 WH
   rcases hor with⟨hy,hst⟩ | ⟨hy,i,hg,h9,h10⟩
   · have hyi:(yk==0)=false:=by rw[beq_eq_false_iff_ne];exact hy
     have HST:=ai hst
     have Ww:Hid (∀V,Calls Tryz.prog 52 #[.agg #[I (q.r 0),I (q.r 1),I (q.r 2),I (q.r 3),I (q.r 4),I (q.r 5),I (q.r 6),I (q.r 7),I q.pc,I q.st,I q.cd,I q.fk,I q.fa],.agg #[I yk,I ya]] V fun e w'=>e=.returned (.agg #[I (q.r 0),I (q.r 1),I (q.r 2),I (q.r 3),I (q.r 4),I (q.r 5),I (q.r 6),I (q.r 7),I q.pc,I 3,I q.cd,I yk,I ya])/\Below V.heap.size V w'):=fun V=>FW.FL q yk ya V
     clear hst
     go_wp2_with fail
     have cw:Hid (Below wc.heap.size wc wc.drew):=(Below.refl _ _).drew
     have cI:Hid (∀V,Below wc.heap.size wc V->V.cell? ⟨pb,k*13,none⟩=some (I (q.r 0))/\V.cell? ⟨pb,k*13+1,none⟩=some (I (q.r 1))/\V.cell? ⟨pb,k*13+2,none⟩=some (I (q.r 2))/\V.cell? ⟨pb,k*13+3,none⟩=some (I (q.r 3))/\V.cell? ⟨pb,k*13+4,none⟩=some (I (q.r 4))/\V.cell? ⟨pb,k*13+5,none⟩=some (I (q.r 5))/\V.cell? ⟨pb,k*13+6,none⟩=some (I (q.r 6))/\V.cell? ⟨pb,k*13+7,none⟩=some (I (q.r 7))/\V.cell? ⟨pb,k*13+8,none⟩=some (I q.pc)/\V.cell? ⟨pb,k*13+9,none⟩=some (I q.st)/\V.cell? ⟨pb,k*13+10,none⟩=some (I q.cd)/\V.cell? ⟨pb,k*13+11,none⟩=some (I q.fk)/\V.cell? ⟨pb,k*13+12,none⟩=some (I q.fa)/\V.cell? ⟨X,0,none⟩=some (I yk)/\V.cell? ⟨X,1,none⟩=some (I ya)):=fun V hV=>by
      obtain⟨d0,d1,d2,d3,d4,d5,d6,d7,d8,d9,d10,d11,d12⟩:=Ty.o V (OY.o V hV)
      have hx:=B.below Eu.o hV (B.isLt Eu.o)
      exact⟨d0,d1,d2,d3,d4,d5,d6,d7,d8,d9,d10,d11,d12,B.cell hx 0 rfl,B.cell hx 1 rfl⟩
     refine GZ.lV (S:=fun V=>Below wc.heap.size wc V) (z:=7) (by kernel_rfl) ?_
     refine GZ.tk 0 cw.o ?_ ?_ ?_
     rotate_left 1
     · intro V h
       obtain⟨k0,k1,k2,k3,k4,k5,k6,k7,k8,k9,k10,k11,k12,k13,k14⟩:=cI.o V h
       go_simp
       try with_reducible rfl
     refine GZ.tk 1 cw.o ?_ ?_ ?_
     rotate_left 1
     · intro V h
       obtain⟨k0,k1,k2,k3,k4,k5,k6,k7,k8,k9,k10,k11,k12,k13,k14⟩:=cI.o V h
       go_simp
       try with_reducible rfl
     refine GZ.tk 2 cw.o ?_ ?_ ?_
     rotate_left 1
     · intro V h
       obtain⟨k0,k1,k2,k3,k4,k5,k6,k7,k8,k9,k10,k11,k12,k13,k14⟩:=cI.o V h
       go_simp
       try with_reducible rfl
     refine GZ.tk 3 cw.o ?_ ?_ ?_
     rotate_left 1
     · intro V h
       obtain⟨k0,k1,k2,k3,k4,k5,k6,k7,k8,k9,k10,k11,k12,k13,k14⟩:=cI.o V h
       go_simp
       try with_reducible rfl
     refine GZ.tk 4 cw.o ?_ ?_ ?_
     rotate_left 1
     · intro V h
       obtain⟨k0,k1,k2,k3,k4,k5,k6,k7,k8,k9,k10,k11,k12,k13,k14⟩:=cI.o V h
       go_simp
       try with_reducible rfl
     refine GZ.all (rs:=[5]) (by kernel_rfl) (by simp) ?_
     refine GZ.bI.cons rfl (fun K hK=>?_) GZ.bI.nil
     go_simp;go_at_call 52;refine(Ww.o _).mono ?_;rintro e w7 ⟨rfl,vJ⟩;have iT:Hid (Below wc.heap.size wc w7):=cw.o.trans (vJ.mono cw.o.size);obtain⟨p0,p1,p2,p3,p4,p5,p6,p7,p8,p9,TX,TW,TV,t0,t1⟩:=cI.o _ iT.o;have tf:=yB.o _ (OY.o _ iT.o);clear vJ;go_simp
     refine hK.out _ _ (fun _=>?_) ?_
     · exact iT.o
     clear hK K
     try simp only[Act.put,List.setIfInBounds_toArray,List.set_cons_zero,List.set_cons_succ]
     refine GZ.all (rs:=[6]) (by kernel_rfl) (by simp) ?_
     refine GZ.bI.cons rfl (fun K hK=>?_) GZ.bI.nil
     go_simp
     refine hK.out _ _ (fun _=>?_) ?_
     · exact iT.o
     clear hK K
     try simp only[Act.put,List.setIfInBounds_toArray,List.set_cons_zero,List.set_cons_succ]
     refine GZ.all (rs:=[7]) (by kernel_rfl) (by simp) ?_
     refine GZ.bI.cons rfl (fun K hK=>?_) GZ.bI.nil
     go_simp
     refine hK.out _ _ (fun g=>absurd rfl g) ?_
     refine GZ.done (by kernel_rfl) ?_ _
     have rY:Hid (Fo ob mb (((((((((((((w7.setCell ⟨pb,k*13,none⟩ (I (q.r 0))).setCell ⟨pb,k*13+1,none⟩ (I (q.r 1))).setCell ⟨pb,k*13+2,none⟩ (I (q.r 2))).setCell ⟨pb,k*13+3,none⟩ (I (q.r 3))).setCell ⟨pb,k*13+4,none⟩ (I (q.r 4))).setCell ⟨pb,k*13+5,none⟩ (I (q.r 5))).setCell ⟨pb,k*13+6,none⟩ (I (q.r 6))).setCell ⟨pb,k*13+7,none⟩ (I (q.r 7))).setCell ⟨pb,k*13+8,none⟩ (I q.pc)).setCell ⟨pb,k*13+9,none⟩ (I 3)).setCell ⟨pb,k*13+10,none⟩ (I q.cd)).setCell ⟨pb,k*13+11,none⟩ (I yk)).setCell ⟨pb,k*13+12,none⟩ (I ya)) ⟨f.slots,f.ak,f.procs.set k (FW.kI q (yk,ya)),f.out⟩ (.slice (some ⟨sb,0,none⟩) f.ak.length cap) L (.slice (some ⟨pb,0,none⟩) f.procs.length ui) (.slice I2 f.out.length Le)/\Kp (fun b=>b=pb) w7 (((((((((((((w7.setCell ⟨pb,k*13,none⟩ (I (q.r 0))).setCell ⟨pb,k*13+1,none⟩ (I (q.r 1))).setCell ⟨pb,k*13+2,none⟩ (I (q.r 2))).setCell ⟨pb,k*13+3,none⟩ (I (q.r 3))).setCell ⟨pb,k*13+4,none⟩ (I (q.r 4))).setCell ⟨pb,k*13+5,none⟩ (I (q.r 5))).setCell ⟨pb,k*13+6,none⟩ (I (q.r 6))).setCell ⟨pb,k*13+7,none⟩ (I (q.r 7))).setCell ⟨pb,k*13+8,none⟩ (I q.pc)).setCell ⟨pb,k*13+9,none⟩ (I 3)).setCell ⟨pb,k*13+10,none⟩ (I q.cd)).setCell ⟨pb,k*13+11,none⟩ (I yk)).setCell ⟨pb,k*13+12,none⟩ (I ya))):=(wj.o.below (OY.o _ iT.o)).E5 lY.o (FW.kI q (yk,ya))
     obtain⟨wK,hwK⟩:=ex ((((((((((((((w7.setCell ⟨pb,k*13,none⟩ (I (q.r 0))).setCell ⟨pb,k*13+1,none⟩ (I (q.r 1))).setCell ⟨pb,k*13+2,none⟩ (I (q.r 2))).setCell ⟨pb,k*13+3,none⟩ (I (q.r 3))).setCell ⟨pb,k*13+4,none⟩ (I (q.r 4))).setCell ⟨pb,k*13+5,none⟩ (I (q.r 5))).setCell ⟨pb,k*13+6,none⟩ (I (q.r 6))).setCell ⟨pb,k*13+7,none⟩ (I (q.r 7))).setCell ⟨pb,k*13+8,none⟩ (I q.pc)).setCell ⟨pb,k*13+9,none⟩ (I 3)).setCell ⟨pb,k*13+10,none⟩ (I q.cd)).setCell ⟨pb,k*13+11,none⟩ (I yk)).setCell ⟨pb,k*13+12,none⟩ (I ya)))
     rw[<- hwK] at rY ⊢
     clear hwK p0 p1 p2 p3 p4 p5 p6 p7 p8 p9 TX TW TV t0 t1 tf cI cw Ww
     have BZK:=ai (rY.o.2.keep (B.below (B.below SC.o Hn.o (B.isLt SC.o)) iT.o (B.isLt (B.below SC.o Hn.o (B.isLt SC.o)))) (fun e=>by have:=(wj.o.procs.lt pb rfl).1;omega))
     have Ls:Hid (Below w.heap.size w wK):=Kp.below (oI.o.trans ((OY.o _ iT.o).mono oI.o.size)) rY.o.2 (by have:=oI.o.size;have:=(OY.o _ iT.o).size;omega) (fun b e=>by have:=(wj.o.procs.lt pb rfl).1;omega)
     have hm:=rY.o.1.mem.head
     rw[<- iw.o,<- iW.o,<- iY.o] at hm
     obtain⟨m0,m1,m2,m3⟩:=B.c4 hm
     have hkk:k<(f.procs.set k (FW.kI q (yk,ya))).length:=by rw[List.length_set];exact lY.o
     obtain⟨sbK,aiG,pbK,crK,aK,nK,cK,apK,cpK,aoK,coK,e1,e2,e3,e4,AK⟩:=rY.o.1.at Aw.o hkk
     injection e1 with e1 _ U6
     injection e1 with e1
     injection e1 with e1
     subst e1 U6
     have s0:=AK.c0
     have s1:=AK.c1
     have s2:=AK.c2
     have sf:=AK.fs
     obtain⟨z0,z1,z2,z3⟩:=B.c4 BZK.o
     have zf:∀j,wK.frozen? ⟨b1,j,none⟩=false:=fun j=>B.free BZK.o j
     obtain⟨g1,g2⟩:=rY.o.1.drop Aw.o
     have HE1:=ai g1
     have Ja:=ai g2
     clear AK hm g1 g2 hkk e2 e3 e4
     go_wp2
     refine bodyPost_ret (v:=.agg #[I f.slots,.slice (some ⟨sb,0,none⟩) ns cap,.slice (some ⟨pb,0,none⟩) nr ui,.slice I2 no Le]) (by simp[results,Tryz.results16,go_sem,z0,z1,z2,z3,acK]) rfl ?_
     refine HP.o _ _ ?_
     have hE:=sH (w:=w) (b1:=b1) (sl:=f.slots) HE1.o rfl K9 hwb (Kp.below Ls.o Ja.o Ls.o.size (fun b e=>by have:=(wj.o.mem.row.lt sb rfl).1;omega))
     rw[HST.o]
     have eK:GR.Ik f k (yk,ya)=GR.jl ⟨f.slots,f.ak,f.procs.set k (FW.kI q (yk,ya)),f.out⟩ k FM.E0:=by rw[HQ.o];rfl
     rw[eK]
     rw[<- iw.o,<- iW.o,<- iY.o] at hE
     exact hE
   · subst hy
     have HG:=ai hg
     have zA:=ai h9
     obtain⟨k0,a1,a2,a3,a4,YD,xJ⟩:=tF q i
     rw[YD] at h10
     have PB:=ai h10
     have Ep:=ai xJ
     have c0:wc.cell? ⟨x9+1,0,none⟩=some (I k0):=B.cell h10 0 rfl
     have hWc:=Hn.o.size
     clear hg h9 h10 YD xJ
     go_upto_block 1 with fail
     go_cut [11] (fun x11 wx=>∃val g v' L' vo',x11=I val/\Fo ob mb wx g v' L' (.slice (some ⟨pb,0,none⟩) f.procs.length ui) vo'/\g.procs=f.procs/\GR.di f (k:Int)=rG f k i val g/\Kp (fun b=>ob<=b/\b<W.heap.size) wc wx)
     case first =>
      rcases Ep.o with⟨qI,_⟩ | ⟨qI,⟨ho,rfl,ha1,ha2,Dz⟩ | ⟨ho,rfl,ha1,ha2,ha3,Dz⟩ | ⟨ho,rfl,Dz⟩ | ⟨g9,g10,g16,rfl,Dz⟩⟩
      · rw[HG.o.bad] at qI;cases qI
      · obtain⟨m,hm,z6,K6⟩:∃m:Nat,a2=(m:Int)/\1<=m/\m<=8:=by
         have:=sj HG.o.bad (.inl ho)
         exact⟨a2.toNat,by omega,by omega,by omega⟩
        have HXL:Hid ((FM.bG (FM.ax f.ak k).aw a1 (m:Int) 0).1=0):=by
         have:=HG.o.ld ho
         rw[<- HQ.o,<- ha1,<- ha2,hm] at this
         exact this
        obtain⟨D2,hD2⟩:=ex (GM.ig (FM.ax f.ak k).aj a1 (m:Int))
        have KY:Hid (GR.di f (k:Int)=rG f k i (GG.rB D2) f):=by
         have:=NF Ej.o HG.o ho
         rw[<- HQ.o,<- ha1,<- ha2,hm,<- hD2] at this
         exact this
        have hz:D2.size=m:=by rw[hD2];exact SQ qm.o Aw.o z6 K6 HXL.o
        have hgn:GG.rB D2=wrap64 (Lib.leNat D2.data.toList:Nat):=by
         unfold GG.rB
         rw[if_pos ⟨by omega,by omega⟩]
        have HNU:Hid (∀x:Q.dA wc.heap.size wc,Calls Tryz.prog 53 #[.string D2] x.world fun e w'=>e=.returned (I (GG.rB D2))/\∃y:Q.dA wc.heap.size wc,w'=y.world):=fun x=>by
         rw[hgn]
         refine(CW.xj D2 x.world (by omega) (by omega)).mono ?_
         rintro e w' ⟨he,rfl⟩
         exact⟨he,x,rfl⟩
        have EM:Hid (∀x:Q.dA wc.heap.size wc,Calls Tryz.prog 50 #[.agg #[.bool lv,.slice aa na ca,.slice ap np cp],I a1,I (m:Int)] x.world fun e w'=>e=.returned (.string D2)/\∃y:Q.dA wc.heap.size wc,w'=y.world):=fun x=>by
         rw[hD2,qA.o,uv.o]
         refine(Oc qm.o Aw.o z6 K6 HXL.o _ ⟨_,_,_,rfl⟩ ap cp x.world (Cr.o.aj.below (OY.o _ x.keeps))).mono ?_
         rintro e w' ⟨he,hb⟩
         exact⟨he,⟨w',x.keeps.trans (hb.mono x.keeps.size)⟩,rfl⟩
        subst hm
        obtain⟨GV,hGV⟩:=ex (GG.rB D2)
        rw[<- hGV] at KY HNU
        clear qI ho ha1 ha2 Dz hD2 hz hgn hGV
        have oG:=Q.dS wc
        have e0:∀x:Q.dA wc.heap.size wc,x.world.cell? ⟨sb,k*3,none⟩=some (.bool lv):=fun x=>(Sr.o _ (OY.o _ x.keeps)).1
        have e1:∀x:Q.dA wc.heap.size wc,x.world.cell? ⟨sb,k*3+1,none⟩=some (.slice aa na ca):=fun x=>(Sr.o _ (OY.o _ x.keeps)).2.1
        have e2:∀x:Q.dA wc.heap.size wc,x.world.cell? ⟨sb,k*3+2,none⟩=some (.slice ap np cp):=fun x=>(Sr.o _ (OY.o _ x.keeps)).2.2
        have e3:∀x:Q.dA wc.heap.size wc,x.world.cell? ⟨x9+1,1,none⟩=some (I a1):=fun x=>B.cell (B.below PB.o x.keeps (B.isLt PB.o)) 1 rfl
        have e4:∀x:Q.dA wc.heap.size wc,x.world.cell? ⟨x9+1,2,none⟩=some (I (m:Int)):=fun x=>B.cell (B.below PB.o x.keeps (B.isLt PB.o)) 2 rfl
        go_wp2_with fail
        refine Q.aW (by kernel_rfl) (by kernel_rfl) ?_
        repeat (first | go_big_quiet_step ((first | (go_at_call 50;exact EM.o _) | (go_at_call 53;exact HNU.o _))) | quiet_step ((first | (go_at_call 50;exact EM.o _) | (go_at_call 53;exact HNU.o _))))
        refine wpQuiet_nil ?_
        intro _ hw'
        obtain⟨x,hw''⟩:=hw'
        subst hw''
        go_wp2_with fail
        go_meet
        case rel=>exact⟨GV,f,_,_,_,rfl,wj.o.below (OY.o _ x.keeps),rfl,KY.o,Kp.aF x.keeps⟩
      · obtain⟨m,hm,z6,K6⟩:∃m:Nat,a2=(m:Int)/\1<=m/\m<=8:=by
         have:=sj HG.o.bad (.inr ho)
         exact⟨a2.toNat,by omega,by omega,by omega⟩
        obtain⟨dd,hdd⟩:=ex (GG.kQ a3 (m:Int))
        have uN:GR.wW f k i=dd:=by
         unfold GR.wW
         rw[hdd,ha3,<- hm,ha2,HQ.o]
        have hdz:dd.size=m:=by
         rw[hdd,GG.pU]
         omega
        have HXL:Hid ((FM.bG (FM.ax f.ak k).aw a1 (dd.size:Int) 1).1=0):=by
         have:=HG.o.st ho
         rw[<- HQ.o,<- ha1,<- ha2,hm,<- hdz] at this
         exact this
        have KY:Hid (GR.di f (k:Int)=rG f k i 0 (GR.jl f k { FM.ax f.ak k with aj:=GM.fS (FM.ax f.ak k).aj a1 dd })):=by
         have:=Km Ej.o HG.o ho
         rw[uN,<- HQ.o,<- ha1] at this
         exact this
        have HBS:Hid (∀V,Calls Tryz.prog 55 #[I a3,I (m:Int)] V fun e w'=>e=.returned (.string dd)/\Below V.heap.size V w'):=fun V=>by
         rw[hdd]
         exact CW.um a3 m V K6
        have Zh:Hid (∀V,Below wc.heap.size wc V->Calls Tryz.prog 54 #[.pointer (some ⟨sb,k*3,none⟩),I a1,.string dd] V fun e w'=>e=.returned (.tuple #[])/\Fo ob mb w' (GR.jl f k { FM.ax f.ak k with aj:=GM.fS (FM.ax f.ak k).aj a1 dd }) (.slice (some ⟨sb,0,none⟩) f.ak.length cap) L (.slice (some ⟨pb,0,none⟩) f.procs.length ui) (.slice I2 f.out.length Le)/\Kp (fun b=>blk (bu L k).vp b) V w'):=fun V hV=>TF (wj.o.below (OY.o _ hV)) Aw.o qm.o (by omega) (by omega) HXL.o
        have Vf:Hid (∀b,blk (bu L k).vp b->ob<=b/\b<W.heap.size):=fun b e=>(wj.o.mem.each k (by rw[wj.o.mem.len];exact Aw.o)).aj.lt b e
        subst hm
        clear qI ho ha1 ha2 ha3 Dz hdd uN hdz
        have tG:Hid (∀V,Below wc.heap.size wc V->V.cell? ⟨x9+1,1,none⟩=some (I a1)/\V.cell? ⟨x9+1,2,none⟩=some (I (m:Int))/\V.cell? ⟨x9+1,3,none⟩=some (I a3)):=fun V hV=>by
         have hx:=B.below PB.o hV (B.isLt PB.o)
         exact⟨B.cell hx 1 rfl,B.cell hx 2 rfl,B.cell hx 3 rfl⟩
        have cI:Hid (∀V:World,(V.cell? ⟨x9+1,1,none⟩=some (I a1)/\V.cell? ⟨x9+1,2,none⟩=some (I (m:Int))/\V.cell? ⟨x9+1,3,none⟩=some (I a3))->(V.cell? ⟨x9+1,1,none⟩=some (I a1)/\V.cell? ⟨x9+1,2,none⟩=some (I (m:Int))/\V.cell? ⟨x9+1,3,none⟩=some (I a3))):=fun V h=>h
        have cw:Hid (Below wc.heap.size wc wc.drew):=(Below.refl _ _).drew
        go_wp2_with fail
        refine wp_region_held_drew (S:=fun V=>V.cell? ⟨x9+1,1,none⟩=some (I a1)/\V.cell? ⟨x9+1,2,none⟩=some (I (m:Int))/\V.cell? ⟨x9+1,3,none⟩=some (I a3)) (by kernel_rfl) ?_ (fun hHeld=>?_)
        · exact tG.o _ cw.o
        refine GZ.htk 0 (by assumption) ?_ ?_ ?_
        rotate_left 1
        · intro V h
          obtain⟨k0,k1,k2⟩:=cI.o V h
          go_simp
          try with_reducible rfl
        refine GZ.htk 1 (by assumption) ?_ ?_ ?_
        rotate_left 1
        · intro V h
          obtain⟨k0,k1,k2⟩:=cI.o V h
          go_simp
          try with_reducible rfl
        refine GZ.htk 2 (by assumption) ?_ ?_ ?_
        rotate_left 1
        · intro V h
          obtain⟨k0,k1,k2⟩:=cI.o V h
          go_simp
          try with_reducible rfl
        refine GZ.htk 3 (by assumption) ?_ ?_ ?_
        rotate_left 1
        · intro V h
          obtain⟨k0,k1,k2⟩:=cI.o V h
          go_simp
          try with_reducible rfl
        refine GZ.htk 4 (by assumption) ?_ ?_ ?_
        rotate_left 1
        · intro V h
          obtain⟨k0,k1,k2⟩:=cI.o V h
          go_simp
          try with_reducible rfl
        refine GZ.htk 5 (by assumption) ?_ ?_ ?_
        rotate_left 1
        · intro V h
          obtain⟨k0,k1,k2⟩:=cI.o V h
          go_simp
          try with_reducible rfl
        refine GZ.htk 6 (by assumption) ?_ ?_ ?_
        rotate_left 1
        · intro V h
          obtain⟨k0,k1,k2⟩:=cI.o V h
          go_simp
          try with_reducible rfl
        refine wpAnyH_ready (rs:=[7]) (by kernel_rfl) (by simp) ?_
        refine AllReadyH.cons rfl (fun K hK=>?_) AllReadyH.nil
        go_simp;go_at_call 55;refine(HBS.o _).mono ?_;rintro e w6 ⟨rfl,Ge⟩;have ux:Hid (Below wc.heap.size wc w6):=cw.o.trans (Ge.mono cw.o.size);clear Ge;go_simp
        refine hK.out _ _ ?_ (fun hHeld=>?_)
        · try dsimp only
          exact tG.o _ ux.o
        clear hK K
        try simp only[Act.put,List.setIfInBounds_toArray,List.set_cons_zero,List.set_cons_succ]
        refine wpAnyH_ready (rs:=[8]) (by kernel_rfl) (by simp) ?_
        refine AllReadyH.cons rfl (fun K hK=>?_) AllReadyH.nil
        go_simp;go_at_call 54;refine(Zh.o _ ux.o).mono ?_;rintro e w7 ⟨rfl,hF7,hk7⟩;have HF7:=ai hF7;have Hh:=ai hk7;have HS7:Hid (w7.cell? ⟨x9+1,1,none⟩=some (I a1)/\w7.cell? ⟨x9+1,2,none⟩=some (I (m:Int))/\w7.cell? ⟨x9+1,3,none⟩=some (I a3)):=(fun hx=>⟨B.cell hx 1 rfl,B.cell hx 2 rfl,B.cell hx 3 rfl⟩) (Hh.o.keep (B.below PB.o ux.o (B.isLt PB.o)) (fun e=>by have:=Vf.o _ e;omega));clear hF7 hk7;go_simp
        refine hK.out _ _ ?_ (fun hHeld=>?_)
        · try dsimp only
          exact HS7.o
        clear hK K
        try simp only[Act.put,List.setIfInBounds_toArray,List.set_cons_zero,List.set_cons_succ]
        refine wpAnyH_done (by kernel_rfl) ?_ _
        go_wp2_with fail
        go_meet
        case rel=>exact⟨0,_,_,_,_,rfl,HF7.o,rfl,KY.o,(Kp.aF ux.o).trans (Hh.o.mono (fun b _ e=>Vf.o b e)) (fun _ _ g=>g)⟩
      · have Lr:Hid (Calls Tryz.prog 56 #[.pointer (some ⟨mb,0,none⟩),I (k:Int),I a4] wc (kV ob mb (.slice (some ⟨sb,0,none⟩) f.ak.length cap) (.slice (some ⟨pb,0,none⟩) f.procs.length ui) (.slice I2 f.out.length Le) wc (dZ f k a4) (dO f k a4))):=ye a4 f _ L _ _ wc (wj.o.below Hn.o) lY.o tH.o Cg.o (by rw[Dz];exact I0 HG.o.bad ho)
        have KY:Hid (GR.di f (k:Int)=rG f k i (dZ f k a4) (dO f k a4)):=by
         show _=_
         rw[Dz]
         exact NG Ej.o HG.o ho
        have d4:wc.cell? ⟨x9+1,4,none⟩=some (I a4):=B.cell PB.o 4 rfl
        obtain⟨CV,hCV⟩:=ex (dZ f k a4)
        obtain⟨CF,hCF⟩:=ex (dO f k a4)
        have HCP:Hid (CF.procs=f.procs):=by show _=_;rw[hCF];rfl
        rw[<- hCV,<- hCF] at Lr KY
        clear qI ho Dz hCV hCF
        go_wp2_with (go_at_call 56;refine Lr.o.mono ?_;rintro e w6 ⟨rfl,v6,L6,vo6,Nr,tJ⟩;have VI:=ai Nr;have Cz:=ai tJ;clear Nr tJ)
        go_meet
        case rel=>exact⟨CV,CF,v6,L6,vo6,rfl,VI.o,HCP.o,KY.o,Cz.o.mono (fun b _ e=>by
         rcases e with e | e | e
         · rw[e]
           exact⟨wj.o.mem.base,B.isLt wj.o.mem.head⟩
         · exact wj.o.mem.row.lt b e
         · exact wj.o.words.lt b e)⟩
      · have KY:=ai (ND Ej.o HG.o g9 g10 g16)
        clear qI g9 g10 g16 Dz
        go_wp2
        go_meet
        case rel=>exact⟨0,f,_,_,_,rfl,wj.o.below Hn.o,rfl,KY.o,Kp.refl _ _⟩
     case rest =>
      obtain⟨val,g,v',L',vo',rfl,hFg,K8,hst,hkg⟩:=hcut
      obtain⟨gs,Nv,gpr,go⟩:=g
      simp only at K8
      subst K8
      obtain⟨Lg,ar',ov,cs',YR,DY,e1,e2,e3,_⟩:=hFg.has
      simp only at e1 e2 e3
      clear e2
      subst e1 e3
      have ZJ:=ai hFg
      have HST:=ai hst
      have Z4:=ai (hkg.keep zA.o (by omega))
      have BA3:=ai (hkg.keep PB.o (by omega))
      have Et:=ai (hkg.keep (B.below SC.o Hn.o (B.isLt SC.o)) (by omega))
      have Tz:Hid (Below w.heap.size w wc):=Kp.below (oI.o.trans (Hn.o.mono oI.o.size)) hkg (by have:=oI.o.size;omega) (fun b e=>by omega)
      have oK:=hFg.procs
      have p0:wc.cell? ⟨pb,k*13,none⟩=some (I (q.r 0)):=(cZ aI bg FM.vV oK k 0 lY.o (by omega)).trans (by rw[HQ.o];rfl)
      have p1:wc.cell? ⟨pb,k*13+1,none⟩=some (I (q.r 1)):=(cZ aI bg FM.vV oK k 1 lY.o (by omega)).trans (by rw[HQ.o];rfl)
      have p2:wc.cell? ⟨pb,k*13+2,none⟩=some (I (q.r 2)):=(cZ aI bg FM.vV oK k 2 lY.o (by omega)).trans (by rw[HQ.o];rfl)
      have p3:wc.cell? ⟨pb,k*13+3,none⟩=some (I (q.r 3)):=(cZ aI bg FM.vV oK k 3 lY.o (by omega)).trans (by rw[HQ.o];rfl)
      have p4:wc.cell? ⟨pb,k*13+4,none⟩=some (I (q.r 4)):=(cZ aI bg FM.vV oK k 4 lY.o (by omega)).trans (by rw[HQ.o];rfl)
      have p5:wc.cell? ⟨pb,k*13+5,none⟩=some (I (q.r 5)):=(cZ aI bg FM.vV oK k 5 lY.o (by omega)).trans (by rw[HQ.o];rfl)
      have p6:wc.cell? ⟨pb,k*13+6,none⟩=some (I (q.r 6)):=(cZ aI bg FM.vV oK k 6 lY.o (by omega)).trans (by rw[HQ.o];rfl)
      have p7:wc.cell? ⟨pb,k*13+7,none⟩=some (I (q.r 7)):=(cZ aI bg FM.vV oK k 7 lY.o (by omega)).trans (by rw[HQ.o];rfl)
      have p8:wc.cell? ⟨pb,k*13+8,none⟩=some (I q.pc):=(cZ aI bg FM.vV oK k 8 lY.o (by omega)).trans (by rw[HQ.o];rfl)
      have p9:wc.cell? ⟨pb,k*13+9,none⟩=some (I q.st):=(cZ aI bg FM.vV oK k 9 lY.o (by omega)).trans (by rw[HQ.o];rfl)
      have TX:wc.cell? ⟨pb,k*13+10,none⟩=some (I q.cd):=(cZ aI bg FM.vV oK k 10 lY.o (by omega)).trans (by rw[HQ.o];rfl)
      have TW:wc.cell? ⟨pb,k*13+11,none⟩=some (I q.fk):=(cZ aI bg FM.vV oK k 11 lY.o (by omega)).trans (by rw[HQ.o];rfl)
      have TV:wc.cell? ⟨pb,k*13+12,none⟩=some (I q.fa):=(cZ aI bg FM.vV oK k 12 lY.o (by omega)).trans (by rw[HQ.o];rfl)
      have hpl:pb<wc.heap.size:=(oK.lt pb rfl).2
      have hpo:ob<=pb:=(oK.lt pb rfl).1
      have hpW:=(wj.o.procs.lt pb rfl).2
      have ahw:=B.isLt BA3.o
      have ahx:x9<wc.heap.size:=B.isLt Z4.o
      obtain⟨op,ia,ib,ic,im⟩:=i
      obtain⟨i0,i1,i2,i3,i4⟩:=B.c5 Z4.o
      obtain⟨N,hN⟩:=ex (PM.doneN q ⟨op,ia,ib,ic,im⟩ val)
      have HN:=ai hN
      have Jb:Hid (∀V,Calls Tryz.prog 57 #[.agg #[I (q.r 0),I (q.r 1),I (q.r 2),I (q.r 3),I (q.r 4),I (q.r 5),I (q.r 6),I (q.r 7),I q.pc,I q.st,I q.cd,I q.fk,I q.fa],.agg #[I op,I ia,I ib,I ic,I im],I val] V fun e w'=>e=.returned (.agg #[I (N.r 0),I (N.r 1),I (N.r 2),I (N.r 3),I (N.r 4),I (N.r 5),I (N.r 6),I (N.r 7),I N.pc,I N.st,I N.cd,I N.fk,I N.fa])/\Below V.heap.size V w'):=fun V=>by
       have:=PW.Ag q ⟨op,ia,ib,ic,im⟩ val V HG.o.fits HG.o.bad
       rw[<- HN.o] at this
       exact this
      have dJ:=ai ((Below.refl wc.heap.size wc).alloc (Nat.le_refl _) (.cells #[I (q.r 0),I (q.r 1),I (q.r 2),I (q.r 3),I (q.r 4),I (q.r 5),I (q.r 6),I (q.r 7),I q.pc,I q.st,I q.cd,I q.fk,I q.fa] 70))
      have B12:=ai (B.new wc #[I (q.r 0),I (q.r 1),I (q.r 2),I (q.r 3),I (q.r 4),I (q.r 5),I (q.r 6),I (q.r 7),I q.pc,I q.st,I q.cd,I q.fk,I q.fa] 70)
      clear hFg hst hkg oK hN c0
      go_upto_region 33 with(go_at_call 57;refine(Jb.o _).mono ?_;rintro e w7 ⟨rfl,vJ⟩;have iT:Hid (Below wc.heap.size wc w7):=dJ.o.trans (vJ.mono dJ.o.size);have VV:=ai (B.below B12.o vJ (B.isLt B12.o));have r0:w7.cell? ⟨pb,k*13,none⟩=some (I (q.r 0)):=(M.aA iT.o hpl).trans p0;have r1:w7.cell? ⟨pb,k*13+1,none⟩=some (I (q.r 1)):=(M.aA iT.o hpl).trans p1;have r2:w7.cell? ⟨pb,k*13+2,none⟩=some (I (q.r 2)):=(M.aA iT.o hpl).trans p2;have r3:w7.cell? ⟨pb,k*13+3,none⟩=some (I (q.r 3)):=(M.aA iT.o hpl).trans p3;have r4:w7.cell? ⟨pb,k*13+4,none⟩=some (I (q.r 4)):=(M.aA iT.o hpl).trans p4;have r5:w7.cell? ⟨pb,k*13+5,none⟩=some (I (q.r 5)):=(M.aA iT.o hpl).trans p5;have r6:w7.cell? ⟨pb,k*13+6,none⟩=some (I (q.r 6)):=(M.aA iT.o hpl).trans p6;have r7:w7.cell? ⟨pb,k*13+7,none⟩=some (I (q.r 7)):=(M.aA iT.o hpl).trans p7;have r8:w7.cell? ⟨pb,k*13+8,none⟩=some (I q.pc):=(M.aA iT.o hpl).trans p8;have r9:w7.cell? ⟨pb,k*13+9,none⟩=some (I q.st):=(M.aA iT.o hpl).trans p9;have Ey:w7.cell? ⟨pb,k*13+10,none⟩=some (I q.cd):=(M.aA iT.o hpl).trans TX;have Ex:w7.cell? ⟨pb,k*13+11,none⟩=some (I q.fk):=(M.aA iT.o hpl).trans TW;have Ew:w7.cell? ⟨pb,k*13+12,none⟩=some (I q.fa):=(M.aA iT.o hpl).trans TV;have pf7:∀j,w7.frozen? ⟨pb,j,none⟩=false:=fun j=>fZ (ZJ.o.below iT.o).procs j;clear vJ)
      have qB:Hid (Fo ob mb (((((((((((((w7.setCell ⟨pb,k*13,none⟩ (I (N.r 0))).setCell ⟨pb,k*13+1,none⟩ (I (N.r 1))).setCell ⟨pb,k*13+2,none⟩ (I (N.r 2))).setCell ⟨pb,k*13+3,none⟩ (I (N.r 3))).setCell ⟨pb,k*13+4,none⟩ (I (N.r 4))).setCell ⟨pb,k*13+5,none⟩ (I (N.r 5))).setCell ⟨pb,k*13+6,none⟩ (I (N.r 6))).setCell ⟨pb,k*13+7,none⟩ (I (N.r 7))).setCell ⟨pb,k*13+8,none⟩ (I N.pc)).setCell ⟨pb,k*13+9,none⟩ (I N.st)).setCell ⟨pb,k*13+10,none⟩ (I N.cd)).setCell ⟨pb,k*13+11,none⟩ (I N.fk)).setCell ⟨pb,k*13+12,none⟩ (I N.fa)) ⟨gs,Nv,f.procs.set k N,go⟩ (.slice Lg Nv.length cs') L' (.slice (some ⟨pb,0,none⟩) f.procs.length ui) (.slice ov go.length DY)/\Kp (fun b=>b=pb) w7 (((((((((((((w7.setCell ⟨pb,k*13,none⟩ (I (N.r 0))).setCell ⟨pb,k*13+1,none⟩ (I (N.r 1))).setCell ⟨pb,k*13+2,none⟩ (I (N.r 2))).setCell ⟨pb,k*13+3,none⟩ (I (N.r 3))).setCell ⟨pb,k*13+4,none⟩ (I (N.r 4))).setCell ⟨pb,k*13+5,none⟩ (I (N.r 5))).setCell ⟨pb,k*13+6,none⟩ (I (N.r 6))).setCell ⟨pb,k*13+7,none⟩ (I (N.r 7))).setCell ⟨pb,k*13+8,none⟩ (I N.pc)).setCell ⟨pb,k*13+9,none⟩ (I N.st)).setCell ⟨pb,k*13+10,none⟩ (I N.cd)).setCell ⟨pb,k*13+11,none⟩ (I N.fk)).setCell ⟨pb,k*13+12,none⟩ (I N.fa))):=(ZJ.o.below iT.o).E5 lY.o N
      obtain⟨wN,hwN⟩:=ex ((((((((((((((w7.setCell ⟨pb,k*13,none⟩ (I (N.r 0))).setCell ⟨pb,k*13+1,none⟩ (I (N.r 1))).setCell ⟨pb,k*13+2,none⟩ (I (N.r 2))).setCell ⟨pb,k*13+3,none⟩ (I (N.r 3))).setCell ⟨pb,k*13+4,none⟩ (I (N.r 4))).setCell ⟨pb,k*13+5,none⟩ (I (N.r 5))).setCell ⟨pb,k*13+6,none⟩ (I (N.r 6))).setCell ⟨pb,k*13+7,none⟩ (I (N.r 7))).setCell ⟨pb,k*13+8,none⟩ (I N.pc)).setCell ⟨pb,k*13+9,none⟩ (I N.st)).setCell ⟨pb,k*13+10,none⟩ (I N.cd)).setCell ⟨pb,k*13+11,none⟩ (I N.fk)).setCell ⟨pb,k*13+12,none⟩ (I N.fa)))
      rw[<- hwN] at qB ⊢
      obtain⟨Az,Xv⟩:=ex wc.heap.size
      rw[<- Xv] at VV ⊢
      have BI4:=ai (qB.o.2.keep (B.below Z4.o iT.o (B.isLt Z4.o)) (by omega))
      have BA4:=ai (qB.o.2.keep (B.below BA3.o iT.o (B.isLt BA3.o)) (by omega))
      have TA:=ai (qB.o.2.keep (B.below Et.o iT.o (B.isLt Et.o)) (by omega))
      have aez:=ai (qB.o.2.keep VV.o (by omega))
      have hpx:pb<Az:=by omega
      have hp9:pb<x9:=by omega
      have hmo:ob<=mb:=wj.o.mem.base
      have Ls:Hid (Below w.heap.size w wN):=Kp.below (Tz.o.trans (iT.o.mono Tz.o.size)) qB.o.2 (by have:=Tz.o.size;have:=iT.o.size;omega) (fun b e=>by omega)
      clear hwN Xv r0 r1 r2 r3 r4 r5 r6 r7 r8 r9 Ey Ex Ew pf7 p0 p1 p2 p3 p4 p5 p6 p7 p8 p9 TX TW TV i0 i1 i2 i3 i4 Jb dJ B12 VV Z4 BA3 Et
      have V9:=qB.o.1.mem.head
      obtain⟨m0,m1,m2,m3⟩:=B.c4 V9
      obtain⟨z0,z1,z2,z3⟩:=B.c4 TA.o
      have zf:∀j,wN.frozen? ⟨b1,j,none⟩=false:=fun j=>B.free TA.o j
      have d4:wN.cell? ⟨x9+1,4,none⟩=some (I a4):=B.cell BA4.o 4 rfl
      have Px:Hid (a4=5↔(op=16/\im=5)):=by
       have hb:=HG.o.bad
       rcases Ep.o with⟨g,_⟩ | ⟨_,⟨o,_,_,_,e⟩ | ⟨o,_,_,_,_,e⟩ | ⟨o,_,e⟩ | ⟨_,_,g16,_,e⟩⟩
       · rw[hb] at g;cases g
       · exact⟨fun h=>by omega,fun h=>by omega⟩
       · exact⟨fun h=>by omega,fun h=>by omega⟩
       · exact⟨fun h=>⟨o,by omega⟩,fun h=>by omega⟩
       · exact⟨fun h=>by omega,fun h=>absurd h.1 g16⟩
      clear V9 Ep
      obtain⟨nsp,Uw⟩:=ex Nv.length
      obtain⟨ngo,Ux⟩:=ex go.length
      have RY:=ai Uw
      have R4:=ai Ux
      rw[<- Uw] at m1
      rw[<- Ux] at m3
      rw[<- iW.o] at m2
      clear Uw Ux
      by_cases h5:a4=5
      case neg =>
       have h5i:(a4==5)=false:=by rw[beq_eq_false_iff_ne];exact h5
       go_wp2
       refine bodyPost_ret (v:=.agg #[I gs,.slice Lg nsp cs',.slice (some ⟨pb,0,none⟩) nr ui,.slice ov ngo DY]) (by simp[results,Tryz.results16,go_sem,z0,z1,z2,z3]) rfl ?_
       refine HP.o _ _ ?_
       have hE:=sH (w:=w) (b1:=b1) (sl:=gs) qB.o.1 rfl K9 hwb Ls.o
       rw[<- RY.o,<- R4.o,<- iW.o] at hE
       rw[HST.o]
       refine Db HN.o HQ.o ?_ hE
       exact(fun g=>h5 (Px.o.2 g.1))
      subst h5
      by_cases hv:0<=val
      case neg =>
       have hvi:val<0:=by omega
       have HV:=ai hv
       clear hv
       go_wp2
       refine bodyPost_ret (v:=.agg #[I gs,.slice Lg nsp cs',.slice (some ⟨pb,0,none⟩) nr ui,.slice ov ngo DY]) (by simp[results,Tryz.results16,go_sem,z0,z1,z2,z3]) rfl ?_
       refine HP.o _ _ ?_
       have hE:=sH (w:=w) (b1:=b1) (sl:=gs) qB.o.1 rfl K9 hwb Ls.o
       rw[<- RY.o,<- R4.o,<- iW.o] at hE
       rw[HST.o]
       refine Db HN.o HQ.o ?_ hE
       exact(fun g=>by have h1:=g.2;have h2:=HV.o;omega)
      have HV:=ai hv
      obtain⟨N0,hN0⟩:=ex (PM.doneN q ⟨op,ia,ib,ic,im⟩ 0)
      have HN0:=ai hN0
      have HD0:Hid (∀V,Calls Tryz.prog 57 #[.agg #[I (q.r 0),I (q.r 1),I (q.r 2),I (q.r 3),I (q.r 4),I (q.r 5),I (q.r 6),I (q.r 7),I q.pc,I q.st,I q.cd,I q.fk,I q.fa],.agg #[I op,I ia,I ib,I ic,I im],I 0] V fun e w'=>e=.returned (.agg #[I (N0.r 0),I (N0.r 1),I (N0.r 2),I (N0.r 3),I (N0.r 4),I (N0.r 5),I (N0.r 6),I (N0.r 7),I N0.pc,I N0.st,I N0.cd,I N0.fk,I N0.fa])/\Below V.heap.size V w'):=fun V=>by
       have:=PW.Ag q ⟨op,ia,ib,ic,im⟩ 0 V HG.o.fits HG.o.bad
       rw[<- HN0.o] at this
       exact this
      obtain⟨ir,s0,s1,s2,s3⟩:=info_parts Bg
      have KR:=ai s0
      have Tk:=ai s1
      have lu:=ai s2
      have Hb:=ai s3
      have cI:Hid (∀V,Kp (fun b=>blk (.slice (some ⟨pb,0,none⟩) nr ui) b) wN V->V.cell? ⟨mb,2,none⟩=some (.slice (some ⟨pb,0,none⟩) nr ui)/\V.cell? ⟨Az,0,none⟩=some (I (q.r 0))/\V.cell? ⟨Az,1,none⟩=some (I (q.r 1))/\V.cell? ⟨Az,2,none⟩=some (I (q.r 2))/\V.cell? ⟨Az,3,none⟩=some (I (q.r 3))/\V.cell? ⟨Az,4,none⟩=some (I (q.r 4))/\V.cell? ⟨Az,5,none⟩=some (I (q.r 5))/\V.cell? ⟨Az,6,none⟩=some (I (q.r 6))/\V.cell? ⟨Az,7,none⟩=some (I (q.r 7))/\V.cell? ⟨Az,8,none⟩=some (I q.pc)/\V.cell? ⟨Az,9,none⟩=some (I q.st)/\V.cell? ⟨Az,10,none⟩=some (I q.cd)/\V.cell? ⟨Az,11,none⟩=some (I q.fk)/\V.cell? ⟨Az,12,none⟩=some (I q.fa)/\V.cell? ⟨x9,0,none⟩=some (I op)/\V.cell? ⟨x9,1,none⟩=some (I ia)/\V.cell? ⟨x9,2,none⟩=some (I ib)/\V.cell? ⟨x9,3,none⟩=some (I ic)/\V.cell? ⟨x9,4,none⟩=some (I im)):=fun V hV=>by
       have h1:=hV.keep qB.o.1.mem.head (fun g=>qB.o.1.mem.d1.1 g)
       rw[<- iW.o] at h1
       have h2:=hV.keep aez.o (fun g=>by have:=Option.some.inj (show some pb=some Az from g);omega)
       have h3:=hV.keep BI4.o (fun g=>by have:=Option.some.inj (show some pb=some x9 from g);omega)
       exact⟨B.cell h1 2 rfl,B.cell h2 0 rfl,B.cell h2 1 rfl,B.cell h2 2 rfl,B.cell h2 3 rfl,B.cell h2 4 rfl,B.cell h2 5 rfl,B.cell h2 6 rfl,B.cell h2 7 rfl,B.cell h2 8 rfl,B.cell h2 9 rfl,B.cell h2 10 rfl,B.cell h2 11 rfl,B.cell h2 12 rfl,B.cell h3 0 rfl,B.cell h3 1 rfl,B.cell h3 2 rfl,B.cell h3 3 rfl,B.cell h3 4 rfl⟩
      have cw:Hid (Kp (fun b=>blk (.slice (some ⟨pb,0,none⟩) nr ui) b) wN wN.drew):=Kp.drew _ _
      clear s0 s1 s2 s3 hN0
      go_wp2_with fail
      refine GZ.lV (S:=fun V=>Kp (fun b=>blk (.slice (some ⟨pb,0,none⟩) nr ui) b) wN V) (z:=8) (by kernel_rfl) ?_
      refine GZ.tk 0 cw.o ?_ ?_ ?_
      rotate_left 1
      · intro V h
        obtain⟨k0,k1,k2,k3,k4,k5,k6,k7,k8,k9,k10,k11,k12,k13,k14,k15,k16,k17,k18⟩:=cI.o V h
        go_simp
        try with_reducible rfl
      refine GZ.tk 1 cw.o ?_ ?_ ?_
      rotate_left 1
      · intro V h
        obtain⟨k0,k1,k2,k3,k4,k5,k6,k7,k8,k9,k10,k11,k12,k13,k14,k15,k16,k17,k18⟩:=cI.o V h
        go_simp
        try with_reducible rfl
      refine GZ.tk 2 cw.o ?_ ?_ ?_
      rotate_left 1
      · intro V h
        obtain⟨k0,k1,k2,k3,k4,k5,k6,k7,k8,k9,k10,k11,k12,k13,k14,k15,k16,k17,k18⟩:=cI.o V h
        go_simp
        try with_reducible rfl
      refine GZ.tk 3 cw.o ?_ ?_ ?_
      rotate_left 1
      · intro V h
        obtain⟨k0,k1,k2,k3,k4,k5,k6,k7,k8,k9,k10,k11,k12,k13,k14,k15,k16,k17,k18⟩:=cI.o V h
        go_simp
        try with_reducible rfl
      refine GZ.all (rs:=[4]) (by kernel_rfl) (by simp) ?_
      refine GZ.bI.cons rfl (fun K hK=>?_) GZ.bI.nil
      go_simp;go_at_call 57;refine(HD0.o _).mono ?_;rintro e w8 ⟨rfl,UO⟩;have rV:Hid (Below wN.heap.size wN w8):=(Below.refl wN.heap.size wN).drew.trans UO;have Th:Hid (Kp (fun b=>blk (.slice (some ⟨pb,0,none⟩) nr ui) b) wN w8):=Kp.aF rV.o;have Au:Hid (∀o,Kp (fun b=>blk (.slice (some ⟨pb,0,none⟩) nr ui) b) wN (w8.alloc o)):=fun o=>Th.o.trans (Kp.alloc _ _ o) (fun _ _ g=>g);clear UO;go_simp
      refine hK.out _ _ (fun _=>?_) ?_
      · exact Th.o
      clear hK K
      try simp only[Act.put,List.setIfInBounds_toArray,List.set_cons_zero,List.set_cons_succ]
      refine GZ.all (rs:=[5]) (by kernel_rfl) (by simp) ?_
      refine GZ.bI.cons rfl (fun K hK=>?_) GZ.bI.nil
      go_simp
      refine hK.out _ _ (fun _=>?_) ?_
      · exact Au.o _
      clear hK K
      try simp only[Act.put,List.setIfInBounds_toArray,List.set_cons_zero,List.set_cons_succ]
      have tN:Hid (∀o,(w8.alloc o).ownsRow ob 70 13 (.slice (some ⟨pb,0,none⟩) nr ui) nr ((f.procs.set k N).flatMap aI)):=fun o=>by
       have h:=qB.o.1.procs
       rw[<- iW.o] at h
       have e:(f.procs.set k N).length=nr:=by rw[List.length_set,<- iW.o]
       simp only[e] at h
       exact Kp.row ((Kp.aF (D:=fun _=>False) rV.o).trans (Kp.alloc (fun _=>False) _ o) (fun _ _ g=>g)) h (fun _ _ g=>g)
      have RU:Hid (∀(O:Obj) (wG:World) (vG:Value),(w8.alloc O).grownBy wG (Value.ownBlock (.slice (some ⟨pb,0,none⟩) nr ui))->wG.ownsRow ob 70 13 vG (nr+1) ((f.procs.set k N).flatMap aI++aI N0)->(vG.ownBlock=Value.ownBlock (.slice (some ⟨pb,0,none⟩) nr ui)∨vG.ownBlock=some (w8.alloc O).heap.size)->Fo ob mb (wG.setCell ⟨mb,2,none⟩ vG) ⟨gs,Nv,f.procs.set k N++[N0],go⟩ (.slice Lg Nv.length cs') L' vG (.slice ov go.length DY)/\Kp (fun b=>b=mb∨b=pb) wN (wG.setCell ⟨mb,2,none⟩ vG)):=fun O wG vG g1 g2 g3=>by
       have e:(f.procs.set k N).length=nr:=by rw[List.length_set,<- iW.o]
       obtain⟨h1,h2⟩:=qB.o.1.child (w1:=w8.alloc O) (o:=N0) (rV.o.alloc rV.o.size O) g1 (by simp only[e];exact g2) g3
       exact⟨h1,h2.mono (fun b _ x=>x.elim .inl (fun y=>.inr (Option.some.inj y).symm))⟩
      refine GZ.all (rs:=[6]) (by kernel_rfl) (by simp) ?_
      refine GZ.bI.cons rfl (fun K hK=>?_) GZ.bI.nil
      rw[if_pos (by rfl)];refine cD (P:=Tryz.prog) _ _ 27 rfl ob 70 ir (.agg #[I 0,I 0,I 0,I 0,I 0,I 0,I 0,I 0,I 0,I 0,I 0,I 0,I 0]) 13 104 Tryz.underlying27 KR.o Tk.o lu.o Hb.o rfl (by decide) (.slice (some ⟨pb,0,none⟩) nr ui) nr ((f.procs.set k N).flatMap aI) rfl (tN.o _) (some ⟨w8.heap.size,0,none⟩) 1 1 (aI N0) rfl rfl (fun _=>⟨_,rfl,lh w8 (aI N0) _⟩) (PY N0) (by unfold maxLen;omega) (by omega) (by rw[World.size_alloc];have:=rV.o.size;have:=B.isLt qB.o.1.mem.head;omega) ?_;intro vG wG xC uQ Dy;obtain⟨aG,cG,M0,_,_⟩:=aL xC;subst M0;have zu:=ai (RU.o _ _ _ uQ xC Dy);have qO:Hid (Kp (fun b=>blk (.slice (some ⟨pb,0,none⟩) nr ui) b) wN wG):=(Au.o _).trans (Kp.grown uQ (fun _ e=>e)) (fun _ _ g=>g);have V6:=(cI.o wG qO.o).1;have hof:wG.frozen? ⟨mb,2,none⟩=false:=B.free (qO.o.keep qB.o.1.mem.head (fun g=>qB.o.1.mem.d1.1 g)) 2;clear xC uQ Dy
      refine hK.out _ _ (fun _=>?_) ?_
      · exact qO.o
      clear hK K
      try simp only[Act.put,List.setIfInBounds_toArray,List.set_cons_zero,List.set_cons_succ]
      refine GZ.all (rs:=[7]) (by kernel_rfl) (by simp) ?_
      refine GZ.bI.cons rfl (fun K hK=>?_) GZ.bI.nil
      go_simp
      refine hK.out _ _ (fun _=>?_) ?_
      · exact qO.o
      clear hK K
      try simp only[Act.put,List.setIfInBounds_toArray,List.set_cons_zero,List.set_cons_succ]
      refine GZ.all (rs:=[8]) (by kernel_rfl) (by simp) ?_
      refine GZ.bI.cons rfl (fun K hK=>?_) GZ.bI.nil
      go_simp
      refine hK.out _ _ (fun g=>absurd rfl g) ?_
      refine GZ.done (by kernel_rfl) ?_ _
      obtain⟨wE,hwE⟩:=ex (wG.setCell ⟨mb,2,none⟩ (.slice aG (nr+1) cG))
      rw[<- hwE] at zu ⊢
      have K1:=ai (zu.o.2.keep TA.o (fun e=>by rcases e with e | e <;> omega))
      have EO:Hid (Below w.heap.size w wE):=Kp.below Ls.o zu.o.2 Ls.o.size (fun b e=>by rcases e with e | e <;> omega)
      clear hwE m0 m1 m2 m3 z0 z1 z2 z3 zf d4 V6 hof cI cw HD0 tN RU qO
      have V9:=zu.o.1.mem.head
      rw[<- RY.o,<- R4.o] at V9
      obtain⟨m0,m1,m2,m3⟩:=B.c4 V9
      obtain⟨z0,z1,z2,z3⟩:=B.c4 K1.o
      have zf:∀j,wE.frozen? ⟨b1,j,none⟩=false:=fun j=>B.free K1.o j
      clear V9
      go_wp2
      refine bodyPost_ret (v:=.agg #[I gs,.slice Lg nsp cs',.slice aG (nr+1) cG,.slice ov ngo DY]) (by simp[results,Tryz.results16,go_sem,z0,z1,z2,z3]) rfl ?_
      refine HP.o _ _ ?_
      have hE:=sH (w:=w) (b1:=b1) (sl:=gs) zu.o.1 rfl K9 hwb EO.o
      rw[<- RY.o,<- R4.o] at hE
      rw[HST.o]
      exact Ji HN.o HN0.o HQ.o ⟨Px.o.1 (by trivial),HV.o⟩ hE
end GO
end Go.Proofs.YtkdigjpejnebkaaGreat
