import Derived.Test.YtkdigjpejnebkaaGreatGU00
import Derived.Test.YtkdigjpejnebkaaGreatGU26
import Derived.Test.YtkdigjpejnebkaaGreatGU27
import Derived.Test.YtkdigjpejnebkaaGreatGU28
set_option maxHeartbeats 20000000
set_option linter.unusedVariables false
set_option maxRecDepth 100000
set_option linter.unusedSimpArgs false
namespace Go.Proofs.YtkdigjpejnebkaaGreat
namespace GO
open Go.RowKit GK
open GF (Lc vY bu bH aH eP blk eT eQ dw bl nt dg)
open GW (aI bR bg cB)
open FW (ai aB)
theorem nk {f:FM.Fl} {k:Nat} (h:Rt f k) (hk:k<f.ak.length):GM.qj (FM.ax f.ak k):=GM.gp (h.each k hk) h.live
theorem Bv {lo mb k sb cap:Nat} {w W:World} {f:FM.Fl} {L:List Lc} {vr vo:Value} {ae:Option Addr} {ne ce:Nat} {al:List AM.Ar} (h:Fo lo mb w f (.slice (some (Ad sb 0)) f.ak.length cap) L vr vo) (hk:k<f.ak.length) (hk2:k<f.procs.length) (hr:Rt f k) (hb:Below w.heap.size w W) (ho:AW.Own w.heap.size W (.slice ae ne ce) al) (hc:AM.aD al=0) :
  Calls Tryz.prog 87 #[.pointer (some (Ad sb (k*3))),.slice ae ne ce] W fun e w'=>e=.returned (.tuple #[])/\∃L',Fo lo mb w' (GR.jl f k { FM.ax f.ak k with aw:=al,aj:=GR.eo al (FM.ax f.ak k).aj 255 }) (.slice (some (Ad sb 0)) f.ak.length cap) L' vr vo/\Kp (fun b=>b=sb) w w':=by
 have hW:=h.below hb
 obtain⟨sb',cap',pb,cr,aa,na,ca,ap,cp,ao,co,e1,_,_,_,A⟩:=hW.at hk hk2
 injection e1 with e1 _ e2
 injection e1 with e1
 injection e1 with e1
 subst e1 e2
 refine(GR.QO sb (k*3) cp ne ce (FM.ax f.ak k).live (.slice aa na ca) ae ap al (FM.ax f.ak k).aj W ⟨_,_,_,rfl⟩ A.c0 A.c1 A.c2 (A.fs _) (A.fs _) A.aj (hr.lens k hk).2 ho.has hc).mono ?_
 rintro e w' ⟨he,w1,av,cv,rfl,hb1,ho1⟩
 obtain⟨g1,g2⟩:=h.fit hk (by have:=B.isLt h.mem.head;have:=h.mem.base;omega) hb ho hb1 ho1
 exact⟨he,_,g1,g2⟩
theorem Uc {f:FM.Fl} {k:Nat} (h:¬(AW.dH (FM.ax f.ak k).aw ((FM.au f.procs k).r 0) ((FM.au f.procs k).r 1) ((FM.au f.procs k).r 2)).2=0):dZ f k 2=(AW.dH (FM.ax f.ak k).aw ((FM.au f.procs k).r 0) ((FM.au f.procs k).r 1) ((FM.au f.procs k).r 2)).2/\dO f k 2=f:=by
 unfold dZ dO
 rw[GR.D8 rfl rfl rfl h]
 exact⟨rfl,rfl⟩
theorem Qh {f:FM.Fl} {k:Nat} (hl:GM.qj (FM.ax f.ak k)) (h:(AW.dH (FM.ax f.ak k).aw ((FM.au f.procs k).r 0) ((FM.au f.procs k).r 1) ((FM.au f.procs k).r 2)).2=0) (hr:¬f.slots<FM.room f.ak+(FM.au f.procs k).r 1):dZ f k 2=0/\dO f k 2=GR.jl f k { FM.ax f.ak k with aw:=(AW.dH (FM.ax f.ak k).aw ((FM.au f.procs k).r 0) ((FM.au f.procs k).r 1) ((FM.au f.procs k).r 2)).1,aj:=GR.eo (AW.dH (FM.ax f.ak k).aw ((FM.au f.procs k).r 0) ((FM.au f.procs k).r 1) ((FM.au f.procs k).r 2)).1 (FM.ax f.ak k).aj 255 }:=by
 rw[GR.Bu hl h]
 unfold dZ dO
 rw[GR.yc rfl rfl rfl h hr]
 exact⟨rfl,rfl⟩
theorem MF {f:FM.Fl} {k:Nat} (h:(AW.dH (FM.ax f.ak k).aw ((FM.au f.procs k).r 0) ((FM.au f.procs k).r 1) ((FM.au f.procs k).r 2)).2=0) (hr:f.slots<FM.room f.ak+(FM.au f.procs k).r 1):dZ f k 2=8/\dO f k 2=f:=by
 unfold dZ dO
 rw[GR.zn rfl rfl rfl h hr]
 exact⟨rfl,rfl⟩
theorem Qj {f:FM.Fl} {k:Nat} (hl:GM.qj (FM.ax f.ak k)) (h:(AW.dH (FM.ax f.ak k).aw ((FM.au f.procs k).r 0) ((FM.au f.procs k).r 1) ((FM.au f.procs k).r 2)).2=0):AM.aD (AW.dH (FM.ax f.ak k).aw ((FM.au f.procs k).r 0) ((FM.au f.procs k).r 1) ((FM.au f.procs k).r 2)).1=0:=(GM.kZ hl.check h).1
theorem Ud {f:FM.Fl} {k:Nat} (hl:GM.qj (FM.ax f.ak k)) (h:(AW.dH (FM.ax f.ak k).aw ((FM.au f.procs k).r 0) ((FM.au f.procs k).r 1) ((FM.au f.procs k).r 2)).2=0):1<=(FM.au f.procs k).r 1/\(FM.au f.procs k).r 1<=256:=by
 obtain⟨_,h2,_,_⟩:=GM.kZ hl.check h
 omega
theorem yc {lo mb k:Nat} (f:FM.Fl) (v:Value) (L:List Lc) (vr vo:Value) (w:World) (h:Fo lo mb w f v L vr vo) (hk:k<f.ak.length) (hk2:k<f.procs.length) (h4:f.ak.length<=4) (K5:f.procs.length<=4) (hr:Rt f k) (YE:AW.dE (FM.ax f.ak k).aw) (hi:∀j,j<8->M.dF ((FM.au f.procs k).r j)) :
  Calls Tryz.prog 56 #[.pointer (some (Ad mb 0)),I (k:Int),I 2] w (kV lo mb v vr vo w (dZ f k 2) (dO f k 2)):=by
 obtain⟨sb,cap,pb,cr,aa,na,ca,ap,cp,ao,co,rfl,rfl,rfl,hlc,A⟩:=h.at hk hk2
 have q0:w.cell? (Ad pb (k*13))=some (I ((FM.au f.procs k).r 0)):=A.pr 0 (by omega)
 have q1:w.cell? (Ad pb (k*13+1))=some (I ((FM.au f.procs k).r 1)):=A.pr 1 (by omega)
 have q2:w.cell? (Ad pb (k*13+2))=some (I ((FM.au f.procs k).r 2)):=A.pr 2 (by omega)
 have q3:w.cell? (Ad pb (k*13+3))=some (I ((FM.au f.procs k).r 3)):=A.pr 3 (by omega)
 have q4:w.cell? (Ad pb (k*13+4))=some (I ((FM.au f.procs k).r 4)):=A.pr 4 (by omega)
 have q5:w.cell? (Ad pb (k*13+5))=some (I ((FM.au f.procs k).r 5)):=A.pr 5 (by omega)
 have q6:w.cell? (Ad pb (k*13+6))=some (I ((FM.au f.procs k).r 6)):=A.pr 6 (by omega)
 have q7:w.cell? (Ad pb (k*13+7))=some (I ((FM.au f.procs k).r 7)):=A.pr 7 (by omega)
 obtain⟨m0,m1,m2,m3⟩:=B.c4 h.mem.head
 have hmb:=B.isLt h.mem.head
 have hlo:=h.mem.base
 have jN:=A.sl
 have hpb:=A.pl
 have c0:=A.c0
 have c1:=A.c1
 have c2:=A.c2
 have f0:=A.fs (k*3)
 have f1:=A.fs (k*3+1)
 have f2:=A.fs (k*3+2)
 have XZ:∀j,w.frozen? (Ad mb j)=false:=fun j=>B.free h.mem.head j
 have jd:(k:Int)<(f.ak.length:Int):=by omega
 have iz:(k:Int)<(f.procs.length:Int):=by omega
 have HA:=ai A
 have qm:=ai hr
 have oC:=ai YE
 have Tu:=ai hi
 have Ez:=hr.room
 obtain⟨H,hH⟩:=ex (FM.room f.ak)
 have YN:0<=H:=by rw[hH];exact(FW.mn f.ak f.ak.length).1
 rw[<- hH] at Ez
 have HH:=ai hH
 obtain⟨er,her⟩:=ex ((AW.dH (FM.ax f.ak k).aw ((FM.au f.procs k).r 0) ((FM.au f.procs k).r 1) ((FM.au f.procs k).r 2)).2)
 obtain⟨al,hal⟩:=ex ((AW.dH (FM.ax f.ak k).aw ((FM.au f.procs k).r 0) ((FM.au f.procs k).r 1) ((FM.au f.procs k).r 2)).1)
 have Co:=ai her
 have nD:=ai hal
 have Wy:=ai (hi 1 (by omega))
 have HF:=ai h
 obtain⟨r0,oF⟩:=ex ((FM.au f.procs k).r 0)
 obtain⟨r1,hr1⟩:=ex ((FM.au f.procs k).r 1)
 obtain⟨r2,hr2⟩:=ex ((FM.au f.procs k).r 2)
 obtain⟨r3,hr3⟩:=ex ((FM.au f.procs k).r 3)
 obtain⟨r4,hr4⟩:=ex ((FM.au f.procs k).r 4)
 obtain⟨r5,uL⟩:=ex ((FM.au f.procs k).r 5)
 obtain⟨r6,uK⟩:=ex ((FM.au f.procs k).r 6)
 obtain⟨r7,uJ⟩:=ex ((FM.au f.procs k).r 7)
 rw[<- oF] at q0
 rw[<- hr1] at q1
 rw[<- hr2] at q2
 rw[<- hr3] at q3
 rw[<- hr4] at q4
 rw[<- uL] at q5
 rw[<- uK] at q6
 rw[<- uJ] at q7
 obtain⟨P,hP⟩:=ex (kV lo mb (.slice (some (Ad sb 0)) f.ak.length cap) (.slice (some (Ad pb 0)) f.procs.length cr) (.slice ao f.out.length co) w (dZ f k 2) (dO f k 2))
 have HP:Hid (∀e w',kV lo mb (.slice (some (Ad sb 0)) f.ak.length cap) (.slice (some (Ad pb 0)) f.procs.length cr) (.slice ao f.out.length co) w (dZ f k 2) (dO f k 2) e w'->P e w'):=fun e w' g=>by rw[hP];exact g
 rw[<- hP]
 obtain⟨ns,hns⟩:=ex f.ak.length
 obtain⟨nr,fh⟩:=ex f.procs.length
 obtain⟨no,hno⟩:=ex f.out.length
 obtain⟨np,fB⟩:=ex ((FM.ax f.ak k).aj.length)
 obtain⟨lv,hlv⟩:=ex ((FM.ax f.ak k).live)
 rw[<- hns] at m1 jd h4
 rw[<- fh] at m2 iz K5
 rw[<- hno] at m3
 rw[<- fB] at c2
 rw[<- hlv] at c0
 have iw:=ai hns
 have iW:=ai fh
 have iY:=ai hno
 have zw:=ai fB
 have Em:=ai hlv
 have rU:=ai oF
 have pM:=ai hr1
 have Cm:=ai hr2
 have OW:=ai hr3
 have OU:=ai hr4
 have OT:=ai uL
 have OS:=ai uK
 have OQ:=ai uJ
 clear h A hlc hP hns fh hno fB hlv oF hr1 hr2 hr3 hr4 uL uK uJ
 go_enter Tryz.func56,Tryz.ntmps56
 go_wp2_with fail
 have dJ:=ai ((Below.refl w.heap.size w).alloc (Nat.le_refl _) (.cells #[I r0,I r1,I r2,I r3,I r4,I r5,I r6,I r7] 66))
 have zy:=ai (B.new w #[I r0,I r1,I r2,I r3,I r4,I r5,I r6,I r7] 66)
 obtain⟨WA,gw⟩:=ex (w.alloc (.cells #[I r0,I r1,I r2,I r3,I r4,I r5,I r6,I r7] 66))
 rw[<- gw] at dJ zy ⊢
 obtain⟨xb,nA⟩:=ex w.heap.size
 rw[<- nA] at zy ⊢
 have tL:=ai nA
 have jk:=ai (HF.o.below dJ.o)
 have XH:w.heap.size<=WA.heap.size:=dJ.o.size
 clear gw nA
 clear her hal
 have cw:Hid (Below WA.heap.size WA WA.drew):=(Below.refl _ _).drew
 have M3:sb<WA.heap.size:=by omega
 have Ng:=(M.aA dJ.o jN).trans c1
 have cI:Hid (∀V,Below WA.heap.size WA V->V.cell? (Ad sb (k*3+1))=some (.slice aa na ca)/\V.cell? (Ad xb 0)=some (I r0)/\V.cell? (Ad xb 1)=some (I r1)/\V.cell? (Ad xb 2)=some (I r2)):=fun V hV=>by
  have hx:=B.below zy.o hV (B.isLt zy.o)
  exact⟨(M.aA hV M3).trans Ng,B.cell hx 0 rfl,B.cell hx 1 rfl,B.cell hx 2 rfl⟩
 have EJ:Hid (Calls Tryz.prog 83 #[.slice aa na ca,I r0,I r1,I r2] WA.drew fun e w'=>∃r,e=.returned (.tuple #[r,I er])/\AW.Own WA.heap.size w' r al/\Below WA.heap.size WA w'):=by
  have ha:=(HA.o.aw.below dJ.o).below cw.o
  refine(AW.Qi _ _ r0 r1 r2 WA.drew ha oC.o (by rw[rU.o];exact Tu.o 0 (by omega)) (by rw[pM.o];exact Tu.o 1 (by omega))).mono ?_
  rintro e w' ⟨r,h1,h2,h3⟩
  rw[rU.o,pM.o,Cm.o,<- Co.o] at h1
  rw[rU.o,pM.o,Cm.o,<- nD.o] at h2
  exact⟨r,h1,h2,cw.o.trans h3⟩
 refine wp_region_held_drew (S:=fun V=>Below WA.heap.size WA V) (by kernel_rfl) ?_ (fun hHeld=>?_)
 · exact cw.o
 refine GZ.htk 0 (by assumption) ?_ ?_ ?_
 rotate_left 1
 · intro V h
   obtain⟨k0,k1,k2,k3⟩:=cI.o V h
   go_simp
   try with_reducible rfl
 refine GZ.htk 1 (by assumption) ?_ ?_ ?_
 rotate_left 1
 · intro V h
   obtain⟨k0,k1,k2,k3⟩:=cI.o V h
   go_simp
   try with_reducible rfl
 refine GZ.htk 2 (by assumption) ?_ ?_ ?_
 rotate_left 1
 · intro V h
   obtain⟨k0,k1,k2,k3⟩:=cI.o V h
   go_simp
   try with_reducible rfl
 refine GZ.htk 3 (by assumption) ?_ ?_ ?_
 rotate_left 1
 · intro V h
   obtain⟨k0,k1,k2,k3⟩:=cI.o V h
   go_simp
   try with_reducible rfl
 refine GZ.htk 4 (by assumption) ?_ ?_ ?_
 rotate_left 1
 · intro V h
   obtain⟨k0,k1,k2,k3⟩:=cI.o V h
   go_simp
   try with_reducible rfl
 refine GZ.htk 5 (by assumption) ?_ ?_ ?_
 rotate_left 1
 · intro V h
   obtain⟨k0,k1,k2,k3⟩:=cI.o V h
   go_simp
   try with_reducible rfl
 refine GZ.htk 6 (by assumption) ?_ ?_ ?_
 rotate_left 1
 · intro V h
   obtain⟨k0,k1,k2,k3⟩:=cI.o V h
   go_simp
   try with_reducible rfl
 refine GZ.htk 7 (by assumption) ?_ ?_ ?_
 rotate_left 1
 · intro V h
   obtain⟨k0,k1,k2,k3⟩:=cI.o V h
   go_simp
   try with_reducible rfl
 refine GZ.htk 8 (by assumption) ?_ ?_ ?_
 rotate_left 1
 · intro V h
   obtain⟨k0,k1,k2,k3⟩:=cI.o V h
   go_simp
   try with_reducible rfl
 refine GZ.htk 9 (by assumption) ?_ ?_ ?_
 rotate_left 1
 · intro V h
   obtain⟨k0,k1,k2,k3⟩:=cI.o V h
   go_simp
   try with_reducible rfl
 refine wpAnyH_ready (rs:=[10]) (by kernel_rfl) (by simp) ?_
 refine AllReadyH.cons rfl (fun K hK=>?_) AllReadyH.nil
 go_simp;go_at_call 83;refine EJ.o.mono ?_;rintro e w5 ⟨r,rfl,Iu,ot⟩;obtain⟨ae,ce,her,_,_⟩:=aL (show w5.ownsRow _ _ 4 _ _ _ from Iu);subst her;obtain⟨ne,hne⟩:=ex al.length;rw[<- hne] at Iu ⊢;have Zx:=ai Iu;have jg:=ai ot;clear Iu ot hne;go_simp
 refine hK.out _ _ ?_ (fun hHeld=>?_)
 · try dsimp only
   exact jg.o
 clear hK K
 try simp only[Act.put,List.setIfInBounds_toArray,List.set_cons_zero,List.set_cons_succ]
 refine GZ.htk 11 (by assumption) ?_ ?_ ?_
 rotate_left 1
 · intro V h
   obtain⟨k0,k1,k2,k3⟩:=cI.o V h
   go_simp
   try with_reducible rfl
 refine GZ.htk 12 (by assumption) ?_ ?_ ?_
 rotate_left 1
 · intro V h
   obtain⟨k0,k1,k2,k3⟩:=cI.o V h
   go_simp
   try with_reducible rfl
 refine GZ.htk 13 (by assumption) ?_ ?_ ?_
 rotate_left 1
 · intro V h
   obtain⟨k0,k1,k2,k3⟩:=cI.o V h
   go_simp
   try with_reducible rfl
 refine wpAnyH_ready (rs:=[14]) (by kernel_rfl) (by simp) ?_
 refine AllReadyH.cons rfl (fun K hK=>?_) AllReadyH.nil
 go_simp
 refine hK.out _ _ ?_ (fun hHeld=>?_)
 · try dsimp only
   exact jg.o
 clear hK K
 try simp only[Act.put,List.setIfInBounds_toArray,List.set_cons_zero,List.set_cons_succ]
 refine wpAnyH_ready (rs:=[15]) (by kernel_rfl) (by simp) ?_
 refine AllReadyH.cons rfl (fun K hK=>?_) AllReadyH.nil
 go_simp
 refine hK.out _ _ ?_ (fun hHeld=>?_)
 · try dsimp only
   exact jg.o
 clear hK K
 try simp only[Act.put,List.setIfInBounds_toArray,List.set_cons_zero,List.set_cons_succ]
 refine wpAnyH_done (by kernel_rfl) ?_ _
 go_wp2_with fail
 have Sj:=ai (jk.o.below jg.o)
 haveI:=Q.dS w5
 have e0:∀x:Q.dA w5.heap.size w5,x.world.cell? (Ad mb 0)=some (I f.slots):=fun x=>(Q.cA x _ _ (B.isLt Sj.o.mem.head)).trans (B.cell Sj.o.mem.head 0 rfl)
 have e1:∀x:Q.dA w5.heap.size w5,x.world.cell? (Ad mb 1)=some (.slice (some (Ad sb 0)) ns cap):=fun x=>(Q.cA x _ _ (B.isLt Sj.o.mem.head)).trans (B.cell Sj.o.mem.head 1 (by rw[iw.o];rfl))
 have e2:∀x:Q.dA w5.heap.size w5,x.world.cell? (Ad mb 2)=some (.slice (some (Ad pb 0)) nr cr):=fun x=>(Q.cA x _ _ (B.isLt Sj.o.mem.head)).trans (B.cell Sj.o.mem.head 2 (by rw[iW.o];rfl))
 have e3:∀x:Q.dA w5.heap.size w5,x.world.cell? (Ad mb 3)=some (.slice ao no co):=fun x=>(Q.cA x _ _ (B.isLt Sj.o.mem.head)).trans (B.cell Sj.o.mem.head 3 (by rw[iY.o];rfl))
 have I7:Hid (∀x:Q.dA w5.heap.size w5,Calls Tryz.prog 84 #[.agg #[I f.slots,.slice (some (Ad sb 0)) ns cap,.slice (some (Ad pb 0)) nr cr,.slice ao no co]] x.world fun e w'=>e=.returned (I H)/\∃y:Q.dA w5.heap.size w5,w'=y.world):=fun x=>by
  obtain⟨az,ar,ov,cs,YR,DY,q1,q2,q3,q4⟩:=(Sj.o.below x.keeps).has
  injection q1 with q1 _ q1'
  injection q2 with q2 _ q2'
  injection q3 with q3 _ q3'
  subst q1 q2 q3 q1' q2' q3'
  have h:=GR.sW f (some (Ad sb 0)) (some (Ad pb 0)) ao cap cr co x.world q4.ak (by rw[<- iw.o];exact h4) (fun j hj=>(qm.o.lens j hj).2)
  unfold FW.bw at h
  rw[<- iw.o,<- iW.o,<- iY.o] at h
  refine h.mono fun e w'' ⟨he,hb⟩=>⟨?_,⟨w'',x.keeps.trans (hb.mono x.keeps.size)⟩,rfl⟩
  rw[he,HH.o,<- Iz qm.o,iw.o]
 have e5:∀x:Q.dA w5.heap.size w5,x.world.cell? (Ad xb 1)=some (I r1):=fun x=>(cI.o _ (jg.o.trans (x.keeps.mono jg.o.size))).2.2.1
 obtain⟨h0,h5⟩:=Ez
 by_cases hz:er=0
 · subst hz
   have qI:=Ud (nk qm.o hk) Co.o.symm
   rw[<- pM.o] at qI
   by_cases hlt:f.slots<H+r1
   · have hv:=ai (MF Co.o.symm (by rw[<- HH.o,<- pM.o];exact hlt))
     refine Q.aW (by kernel_rfl) (by kernel_rfl) ?_
     repeat (first | go_big_quiet_step ((first | (go_at_call 84;exact I7.o _))) | quiet_step ((first | (go_at_call 84;exact I7.o _))))
     refine wpQuiet_nil ?_
     intro _ hw'
     obtain⟨x,hw''⟩:=hw'
     subst hw''
     go_wp2
     exact HP.o _ _ ⟨by rw[hv.out.1];rfl,_,_,_,by rw[hv.out.2];exact jk.o.below (jg.o.trans (x.keeps.mono jg.o.size)),(Kp.aF dJ.o).trans (Kp.aF (D:=fun _=>False) (jg.o.trans (x.keeps.mono jg.o.size))) (fun _ _ g=>g.elim)⟩
   · have yZ:H+r1<=f.slots:=by omega
     refine Q.aW (by kernel_rfl) (by kernel_rfl) ?_
     repeat (first | go_big_quiet_step ((first | (go_at_call 84;exact I7.o _))) | quiet_step ((first | (go_at_call 84;exact I7.o _))))
     refine wpQuiet_nil ?_
     intro _ hw'
     obtain⟨x,hw''⟩:=hw'
     subst hw''
     have hv:=ai (Qh (nk qm.o hk) Co.o.symm (by rw[<- HH.o,<- pM.o];exact hlt))
     have OX:=ai (Bv jk.o hk hk2 qm.o (jg.o.trans (x.keeps.mono jg.o.size)) (Kp.row (Kp.aF (D:=fun _=>False) x.keeps) Zx.o (fun _ _ g=>g)) (by rw[nD.o];exact Qj (nk qm.o hk) Co.o.symm))
     go_wp2_with (go_at_call 87;refine OX.o.mono ?_;rintro e w6 ⟨rfl,L6,Nr,tJ⟩;have VI:=ai Nr;have Cz:=ai tJ;clear Nr tJ)
     exact HP.o _ _ ⟨by rw[hv.out.1];rfl,_,_,_,by rw[hv.out.2,<- nD.o];exact VI.o,(Kp.aF dJ.o).trans (Cz.o.mono (fun b _ e=>.inr (.inl (by subst e;rfl)))) (fun _ _ g=>g)⟩
 · have VY:(er==0)=false:=by rw[beq_eq_false_iff_ne];exact hz
   have hv:=ai (Uc (f:=f) (k:=k) (by rw[<- Co.o];exact hz))
   refine Q.aW (by kernel_rfl) (by kernel_rfl) ?_
   repeat (first | go_big_quiet_step ((first | (go_at_call 84;exact I7.o _))) | quiet_step ((first | (go_at_call 84;exact I7.o _))))
   refine wpQuiet_nil ?_
   intro _ hw'
   obtain⟨x,hw''⟩:=hw'
   subst hw''
   go_wp2
   exact HP.o _ _ ⟨by rw[hv.out.1,<- Co.o];rfl,_,_,_,by rw[hv.out.2];exact jk.o.below (jg.o.trans (x.keeps.mono jg.o.size)),(Kp.aF dJ.o).trans (Kp.aF (D:=fun _=>False) (jg.o.trans (x.keeps.mono jg.o.size))) (fun _ _ g=>g.elim)⟩
theorem LG {f:FM.Fl} {k:Nat} (h:¬(AW.bO (FM.ax f.ak k).aw ((FM.au f.procs k).r 0) ((FM.au f.procs k).r 1)).2=0):dZ f k 3=(AW.bO (FM.ax f.ak k).aw ((FM.au f.procs k).r 0) ((FM.au f.procs k).r 1)).2/\dO f k 3=f:=by
 unfold dZ dO
 rw[GR.zm rfl rfl h]
 exact⟨rfl,rfl⟩
theorem Jl {f:FM.Fl} {k:Nat} (hl:GM.qj (FM.ax f.ak k)) (h:(AW.bO (FM.ax f.ak k).aw ((FM.au f.procs k).r 0) ((FM.au f.procs k).r 1)).2=0):dZ f k 3=0/\dO f k 3=GR.jl f k { FM.ax f.ak k with aw:=(AW.bO (FM.ax f.ak k).aw ((FM.au f.procs k).r 0) ((FM.au f.procs k).r 1)).1,aj:=GR.eo (AW.bO (FM.ax f.ak k).aw ((FM.au f.procs k).r 0) ((FM.au f.procs k).r 1)).1 (FM.ax f.ak k).aj 255 }:=by
 rw[GR.Kg hl h]
 unfold dZ dO
 rw[GR.rQ rfl rfl h]
 exact⟨rfl,rfl⟩
theorem Jo {f:FM.Fl} {k:Nat} (hl:GM.qj (FM.ax f.ak k)) (h:(AW.bO (FM.ax f.ak k).aw ((FM.au f.procs k).r 0) ((FM.au f.procs k).r 1)).2=0):AM.aD (AW.bO (FM.ax f.ak k).aw ((FM.au f.procs k).r 0) ((FM.au f.procs k).r 1)).1=0:=(GM.o5 hl.check h).1
theorem rQ {lo mb k:Nat} (f:FM.Fl) (v:Value) (L:List Lc) (vr vo:Value) (w:World) (h:Fo lo mb w f v L vr vo) (hk:k<f.ak.length) (hk2:k<f.procs.length) (h4:f.ak.length<=4) (K5:f.procs.length<=4) (hr:Rt f k) (YE:AW.dE (FM.ax f.ak k).aw) (hi:∀j,j<8->M.dF ((FM.au f.procs k).r j)) :
  Calls Tryz.prog 56 #[.pointer (some (Ad mb 0)),I (k:Int),I 3] w (kV lo mb v vr vo w (dZ f k 3) (dO f k 3)):=by
 obtain⟨sb,cap,pb,cr,aa,na,ca,ap,cp,ao,co,rfl,rfl,rfl,hlc,A⟩:=h.at hk hk2
 have q0:w.cell? (Ad pb (k*13))=some (I ((FM.au f.procs k).r 0)):=A.pr 0 (by omega)
 have q1:w.cell? (Ad pb (k*13+1))=some (I ((FM.au f.procs k).r 1)):=A.pr 1 (by omega)
 have q2:w.cell? (Ad pb (k*13+2))=some (I ((FM.au f.procs k).r 2)):=A.pr 2 (by omega)
 have q3:w.cell? (Ad pb (k*13+3))=some (I ((FM.au f.procs k).r 3)):=A.pr 3 (by omega)
 have q4:w.cell? (Ad pb (k*13+4))=some (I ((FM.au f.procs k).r 4)):=A.pr 4 (by omega)
 have q5:w.cell? (Ad pb (k*13+5))=some (I ((FM.au f.procs k).r 5)):=A.pr 5 (by omega)
 have q6:w.cell? (Ad pb (k*13+6))=some (I ((FM.au f.procs k).r 6)):=A.pr 6 (by omega)
 have q7:w.cell? (Ad pb (k*13+7))=some (I ((FM.au f.procs k).r 7)):=A.pr 7 (by omega)
 obtain⟨m0,m1,m2,m3⟩:=B.c4 h.mem.head
 have hmb:=B.isLt h.mem.head
 have hlo:=h.mem.base
 have jN:=A.sl
 have hpb:=A.pl
 have c0:=A.c0
 have c1:=A.c1
 have c2:=A.c2
 have f0:=A.fs (k*3)
 have f1:=A.fs (k*3+1)
 have f2:=A.fs (k*3+2)
 have XZ:∀j,w.frozen? (Ad mb j)=false:=fun j=>B.free h.mem.head j
 have jd:(k:Int)<(f.ak.length:Int):=by omega
 have iz:(k:Int)<(f.procs.length:Int):=by omega
 have HA:=ai A
 have qm:=ai hr
 have oC:=ai YE
 have Tu:=ai hi
 have Ez:=hr.room
 obtain⟨H,hH⟩:=ex (FM.room f.ak)
 have YN:0<=H:=by rw[hH];exact(FW.mn f.ak f.ak.length).1
 rw[<- hH] at Ez
 have HH:=ai hH
 obtain⟨er,her⟩:=ex ((AW.bO (FM.ax f.ak k).aw ((FM.au f.procs k).r 0) ((FM.au f.procs k).r 1)).2)
 obtain⟨al,hal⟩:=ex ((AW.bO (FM.ax f.ak k).aw ((FM.au f.procs k).r 0) ((FM.au f.procs k).r 1)).1)
 have Co:=ai her
 have nD:=ai hal
 have Wy:=ai (hi 1 (by omega))
 have HF:=ai h
 obtain⟨r0,oF⟩:=ex ((FM.au f.procs k).r 0)
 obtain⟨r1,hr1⟩:=ex ((FM.au f.procs k).r 1)
 obtain⟨r2,hr2⟩:=ex ((FM.au f.procs k).r 2)
 obtain⟨r3,hr3⟩:=ex ((FM.au f.procs k).r 3)
 obtain⟨r4,hr4⟩:=ex ((FM.au f.procs k).r 4)
 obtain⟨r5,uL⟩:=ex ((FM.au f.procs k).r 5)
 obtain⟨r6,uK⟩:=ex ((FM.au f.procs k).r 6)
 obtain⟨r7,uJ⟩:=ex ((FM.au f.procs k).r 7)
 rw[<- oF] at q0
 rw[<- hr1] at q1
 rw[<- hr2] at q2
 rw[<- hr3] at q3
 rw[<- hr4] at q4
 rw[<- uL] at q5
 rw[<- uK] at q6
 rw[<- uJ] at q7
 obtain⟨P,hP⟩:=ex (kV lo mb (.slice (some (Ad sb 0)) f.ak.length cap) (.slice (some (Ad pb 0)) f.procs.length cr) (.slice ao f.out.length co) w (dZ f k 3) (dO f k 3))
 have HP:Hid (∀e w',kV lo mb (.slice (some (Ad sb 0)) f.ak.length cap) (.slice (some (Ad pb 0)) f.procs.length cr) (.slice ao f.out.length co) w (dZ f k 3) (dO f k 3) e w'->P e w'):=fun e w' g=>by rw[hP];exact g
 rw[<- hP]
 obtain⟨ns,hns⟩:=ex f.ak.length
 obtain⟨nr,fh⟩:=ex f.procs.length
 obtain⟨no,hno⟩:=ex f.out.length
 obtain⟨np,fB⟩:=ex ((FM.ax f.ak k).aj.length)
 obtain⟨lv,hlv⟩:=ex ((FM.ax f.ak k).live)
 rw[<- hns] at m1 jd h4
 rw[<- fh] at m2 iz K5
 rw[<- hno] at m3
 rw[<- fB] at c2
 rw[<- hlv] at c0
 have iw:=ai hns
 have iW:=ai fh
 have iY:=ai hno
 have zw:=ai fB
 have Em:=ai hlv
 have rU:=ai oF
 have pM:=ai hr1
 have Cm:=ai hr2
 have OW:=ai hr3
 have OU:=ai hr4
 have OT:=ai uL
 have OS:=ai uK
 have OQ:=ai uJ
 clear h A hlc hP hns fh hno fB hlv oF hr1 hr2 hr3 hr4 uL uK uJ
 go_enter Tryz.func56,Tryz.ntmps56
 go_wp2_with fail
 have dJ:=ai ((Below.refl w.heap.size w).alloc (Nat.le_refl _) (.cells #[I r0,I r1,I r2,I r3,I r4,I r5,I r6,I r7] 66))
 have zy:=ai (B.new w #[I r0,I r1,I r2,I r3,I r4,I r5,I r6,I r7] 66)
 obtain⟨WA,gw⟩:=ex (w.alloc (.cells #[I r0,I r1,I r2,I r3,I r4,I r5,I r6,I r7] 66))
 rw[<- gw] at dJ zy ⊢
 obtain⟨xb,nA⟩:=ex w.heap.size
 rw[<- nA] at zy ⊢
 have tL:=ai nA
 have jk:=ai (HF.o.below dJ.o)
 have XH:w.heap.size<=WA.heap.size:=dJ.o.size
 clear gw nA
 clear her hal
 have cw:Hid (Below WA.heap.size WA WA.drew):=(Below.refl _ _).drew
 have M3:sb<WA.heap.size:=by omega
 have Ng:=(M.aA dJ.o jN).trans c1
 have cI:Hid (∀V,Below WA.heap.size WA V->V.cell? (Ad sb (k*3+1))=some (.slice aa na ca)/\V.cell? (Ad xb 0)=some (I r0)/\V.cell? (Ad xb 1)=some (I r1)/\V.cell? (Ad xb 2)=some (I r2)):=fun V hV=>by
  have hx:=B.below zy.o hV (B.isLt zy.o)
  exact⟨(M.aA hV M3).trans Ng,B.cell hx 0 rfl,B.cell hx 1 rfl,B.cell hx 2 rfl⟩
 have EJ:Hid (Calls Tryz.prog 85 #[.slice aa na ca,I r0,I r1] WA.drew fun e w'=>∃r,e=.returned (.tuple #[r,I er])/\AW.Own WA.heap.size w' r al/\Below WA.heap.size WA w'):=by
  have ha:=(HA.o.aw.below dJ.o).below cw.o
  refine(AW.Jm _ _ r0 r1 WA.drew ha oC.o (by rw[rU.o];exact Tu.o 0 (by omega)) (by rw[pM.o];exact Tu.o 1 (by omega))).mono ?_
  rintro e w' ⟨r,h1,h2,h3⟩
  rw[rU.o,pM.o,<- Co.o] at h1
  rw[rU.o,pM.o,<- nD.o] at h2
  exact⟨r,h1,h2,cw.o.trans h3⟩
 refine wp_region_held_drew (S:=fun V=>Below WA.heap.size WA V) (by kernel_rfl) ?_ (fun hHeld=>?_)
 · exact cw.o
 refine GZ.htk 0 (by assumption) ?_ ?_ ?_
 rotate_left 1
 · intro V h
   obtain⟨k0,k1,k2,k3⟩:=cI.o V h
   go_simp
   try with_reducible rfl
 refine GZ.htk 1 (by assumption) ?_ ?_ ?_
 rotate_left 1
 · intro V h
   obtain⟨k0,k1,k2,k3⟩:=cI.o V h
   go_simp
   try with_reducible rfl
 refine GZ.htk 2 (by assumption) ?_ ?_ ?_
 rotate_left 1
 · intro V h
   obtain⟨k0,k1,k2,k3⟩:=cI.o V h
   go_simp
   try with_reducible rfl
 refine GZ.htk 3 (by assumption) ?_ ?_ ?_
 rotate_left 1
 · intro V h
   obtain⟨k0,k1,k2,k3⟩:=cI.o V h
   go_simp
   try with_reducible rfl
 refine GZ.htk 4 (by assumption) ?_ ?_ ?_
 rotate_left 1
 · intro V h
   obtain⟨k0,k1,k2,k3⟩:=cI.o V h
   go_simp
   try with_reducible rfl
 refine GZ.htk 5 (by assumption) ?_ ?_ ?_
 rotate_left 1
 · intro V h
   obtain⟨k0,k1,k2,k3⟩:=cI.o V h
   go_simp
   try with_reducible rfl
 refine GZ.htk 6 (by assumption) ?_ ?_ ?_
 rotate_left 1
 · intro V h
   obtain⟨k0,k1,k2,k3⟩:=cI.o V h
   go_simp
   try with_reducible rfl
 refine GZ.htk 7 (by assumption) ?_ ?_ ?_
 rotate_left 1
 · intro V h
   obtain⟨k0,k1,k2,k3⟩:=cI.o V h
   go_simp
   try with_reducible rfl
 refine wpAnyH_ready (rs:=[8]) (by kernel_rfl) (by simp) ?_
 refine AllReadyH.cons rfl (fun K hK=>?_) AllReadyH.nil
 go_simp;go_at_call 85;refine EJ.o.mono ?_;rintro e w5 ⟨r,rfl,Iu,ot⟩;obtain⟨ae,ce,her,_,_⟩:=aL (show w5.ownsRow _ _ 4 _ _ _ from Iu);subst her;obtain⟨ne,hne⟩:=ex al.length;rw[<- hne] at Iu ⊢;have Zx:=ai Iu;have jg:=ai ot;clear Iu ot hne;go_simp
 refine hK.out _ _ ?_ (fun hHeld=>?_)
 · try dsimp only
   exact jg.o
 clear hK K
 try simp only[Act.put,List.setIfInBounds_toArray,List.set_cons_zero,List.set_cons_succ]
 refine GZ.htk 9 (by assumption) ?_ ?_ ?_
 rotate_left 1
 · intro V h
   obtain⟨k0,k1,k2,k3⟩:=cI.o V h
   go_simp
   try with_reducible rfl
 refine GZ.htk 10 (by assumption) ?_ ?_ ?_
 rotate_left 1
 · intro V h
   obtain⟨k0,k1,k2,k3⟩:=cI.o V h
   go_simp
   try with_reducible rfl
 refine GZ.htk 11 (by assumption) ?_ ?_ ?_
 rotate_left 1
 · intro V h
   obtain⟨k0,k1,k2,k3⟩:=cI.o V h
   go_simp
   try with_reducible rfl
 refine wpAnyH_ready (rs:=[12]) (by kernel_rfl) (by simp) ?_
 refine AllReadyH.cons rfl (fun K hK=>?_) AllReadyH.nil
 go_simp
 refine hK.out _ _ ?_ (fun hHeld=>?_)
 · try dsimp only
   exact jg.o
 clear hK K
 try simp only[Act.put,List.setIfInBounds_toArray,List.set_cons_zero,List.set_cons_succ]
 refine wpAnyH_ready (rs:=[13]) (by kernel_rfl) (by simp) ?_
 refine AllReadyH.cons rfl (fun K hK=>?_) AllReadyH.nil
 go_simp
 refine hK.out _ _ ?_ (fun hHeld=>?_)
 · try dsimp only
   exact jg.o
 clear hK K
 try simp only[Act.put,List.setIfInBounds_toArray,List.set_cons_zero,List.set_cons_succ]
 refine wpAnyH_done (by kernel_rfl) ?_ _
 by_cases hz:er=0
 · subst hz
   have hv:=ai (Jl (nk qm.o hk) Co.o.symm)
   have OX:=ai (Bv jk.o hk hk2 qm.o (jg.o) (Zx.o) (by rw[nD.o];exact Jo (nk qm.o hk) Co.o.symm))
   go_wp2_with (go_at_call 87;refine OX.o.mono ?_;rintro e w6 ⟨rfl,L6,Nr,tJ⟩;have VI:=ai Nr;have Cz:=ai tJ;clear Nr tJ)
   exact HP.o _ _ ⟨by rw[hv.out.1];rfl,_,_,_,by rw[hv.out.2,<- nD.o];exact VI.o,(Kp.aF dJ.o).trans (Cz.o.mono (fun b _ e=>.inr (.inl (by subst e;rfl)))) (fun _ _ g=>g)⟩
 · have VY:(er==0)=false:=by rw[beq_eq_false_iff_ne];exact hz
   have hv:=ai (LG (f:=f) (k:=k) (by rw[<- Co.o];exact hz))
   go_wp2
   exact HP.o _ _ ⟨by rw[hv.out.1,<- Co.o];rfl,_,_,_,by rw[hv.out.2];exact jk.o.below (jg.o),(Kp.aF dJ.o).trans (Kp.aF (D:=fun _=>False) (jg.o)) (fun _ _ g=>g.elim)⟩
theorem Fe {f:FM.Fl} {k:Nat} (h:¬(AW.bc (FM.ax f.ak k).aw ((FM.au f.procs k).r 0) ((FM.au f.procs k).r 1) ((FM.au f.procs k).r 2)).2=0):dZ f k 4=(AW.bc (FM.ax f.ak k).aw ((FM.au f.procs k).r 0) ((FM.au f.procs k).r 1) ((FM.au f.procs k).r 2)).2/\dO f k 4=f:=by
 unfold dZ dO
 rw[GR.vL rfl rfl rfl h]
 exact⟨rfl,rfl⟩
theorem CZ {f:FM.Fl} {k:Nat} (hl:GM.qj (FM.ax f.ak k)) (h:(AW.bc (FM.ax f.ak k).aw ((FM.au f.procs k).r 0) ((FM.au f.procs k).r 1) ((FM.au f.procs k).r 2)).2=0):dZ f k 4=0/\dO f k 4=GR.jl f k { FM.ax f.ak k with aw:=(AW.bc (FM.ax f.ak k).aw ((FM.au f.procs k).r 0) ((FM.au f.procs k).r 1) ((FM.au f.procs k).r 2)).1,aj:=GR.eo (AW.bc (FM.ax f.ak k).aw ((FM.au f.procs k).r 0) ((FM.au f.procs k).r 1) ((FM.au f.procs k).r 2)).1 (FM.ax f.ak k).aj 255 }:=by
 rw[GR.DJ hl h]
 unfold dZ dO
 rw[GR.nX rfl rfl rfl h]
 exact⟨rfl,rfl⟩
theorem C3 {f:FM.Fl} {k:Nat} (hl:GM.qj (FM.ax f.ak k)) (h:(AW.bc (FM.ax f.ak k).aw ((FM.au f.procs k).r 0) ((FM.au f.procs k).r 1) ((FM.au f.procs k).r 2)).2=0):AM.aD (AW.bc (FM.ax f.ak k).aw ((FM.au f.procs k).r 0) ((FM.au f.procs k).r 1) ((FM.au f.procs k).r 2)).1=0:=(GM.mJ hl.check h).1
theorem nX {lo mb k:Nat} (f:FM.Fl) (v:Value) (L:List Lc) (vr vo:Value) (w:World) (h:Fo lo mb w f v L vr vo) (hk:k<f.ak.length) (hk2:k<f.procs.length) (h4:f.ak.length<=4) (K5:f.procs.length<=4) (hr:Rt f k) (YE:AW.dE (FM.ax f.ak k).aw) (hi:∀j,j<8->M.dF ((FM.au f.procs k).r j)) :
  Calls Tryz.prog 56 #[.pointer (some (Ad mb 0)),I (k:Int),I 4] w (kV lo mb v vr vo w (dZ f k 4) (dO f k 4)):=by
 obtain⟨sb,cap,pb,cr,aa,na,ca,ap,cp,ao,co,rfl,rfl,rfl,hlc,A⟩:=h.at hk hk2
 have q0:w.cell? (Ad pb (k*13))=some (I ((FM.au f.procs k).r 0)):=A.pr 0 (by omega)
 have q1:w.cell? (Ad pb (k*13+1))=some (I ((FM.au f.procs k).r 1)):=A.pr 1 (by omega)
 have q2:w.cell? (Ad pb (k*13+2))=some (I ((FM.au f.procs k).r 2)):=A.pr 2 (by omega)
 have q3:w.cell? (Ad pb (k*13+3))=some (I ((FM.au f.procs k).r 3)):=A.pr 3 (by omega)
 have q4:w.cell? (Ad pb (k*13+4))=some (I ((FM.au f.procs k).r 4)):=A.pr 4 (by omega)
 have q5:w.cell? (Ad pb (k*13+5))=some (I ((FM.au f.procs k).r 5)):=A.pr 5 (by omega)
 have q6:w.cell? (Ad pb (k*13+6))=some (I ((FM.au f.procs k).r 6)):=A.pr 6 (by omega)
 have q7:w.cell? (Ad pb (k*13+7))=some (I ((FM.au f.procs k).r 7)):=A.pr 7 (by omega)
 obtain⟨m0,m1,m2,m3⟩:=B.c4 h.mem.head
 have hmb:=B.isLt h.mem.head
 have hlo:=h.mem.base
 have jN:=A.sl
 have hpb:=A.pl
 have c0:=A.c0
 have c1:=A.c1
 have c2:=A.c2
 have f0:=A.fs (k*3)
 have f1:=A.fs (k*3+1)
 have f2:=A.fs (k*3+2)
 have XZ:∀j,w.frozen? (Ad mb j)=false:=fun j=>B.free h.mem.head j
 have jd:(k:Int)<(f.ak.length:Int):=by omega
 have iz:(k:Int)<(f.procs.length:Int):=by omega
 have HA:=ai A
 have qm:=ai hr
 have oC:=ai YE
 have Tu:=ai hi
 have Ez:=hr.room
 obtain⟨H,hH⟩:=ex (FM.room f.ak)
 have YN:0<=H:=by rw[hH];exact(FW.mn f.ak f.ak.length).1
 rw[<- hH] at Ez
 have HH:=ai hH
 obtain⟨er,her⟩:=ex ((AW.bc (FM.ax f.ak k).aw ((FM.au f.procs k).r 0) ((FM.au f.procs k).r 1) ((FM.au f.procs k).r 2)).2)
 obtain⟨al,hal⟩:=ex ((AW.bc (FM.ax f.ak k).aw ((FM.au f.procs k).r 0) ((FM.au f.procs k).r 1) ((FM.au f.procs k).r 2)).1)
 have Co:=ai her
 have nD:=ai hal
 have Wy:=ai (hi 1 (by omega))
 have HF:=ai h
 obtain⟨r0,oF⟩:=ex ((FM.au f.procs k).r 0)
 obtain⟨r1,hr1⟩:=ex ((FM.au f.procs k).r 1)
 obtain⟨r2,hr2⟩:=ex ((FM.au f.procs k).r 2)
 obtain⟨r3,hr3⟩:=ex ((FM.au f.procs k).r 3)
 obtain⟨r4,hr4⟩:=ex ((FM.au f.procs k).r 4)
 obtain⟨r5,uL⟩:=ex ((FM.au f.procs k).r 5)
 obtain⟨r6,uK⟩:=ex ((FM.au f.procs k).r 6)
 obtain⟨r7,uJ⟩:=ex ((FM.au f.procs k).r 7)
 rw[<- oF] at q0
 rw[<- hr1] at q1
 rw[<- hr2] at q2
 rw[<- hr3] at q3
 rw[<- hr4] at q4
 rw[<- uL] at q5
 rw[<- uK] at q6
 rw[<- uJ] at q7
 obtain⟨P,hP⟩:=ex (kV lo mb (.slice (some (Ad sb 0)) f.ak.length cap) (.slice (some (Ad pb 0)) f.procs.length cr) (.slice ao f.out.length co) w (dZ f k 4) (dO f k 4))
 have HP:Hid (∀e w',kV lo mb (.slice (some (Ad sb 0)) f.ak.length cap) (.slice (some (Ad pb 0)) f.procs.length cr) (.slice ao f.out.length co) w (dZ f k 4) (dO f k 4) e w'->P e w'):=fun e w' g=>by rw[hP];exact g
 rw[<- hP]
 obtain⟨ns,hns⟩:=ex f.ak.length
 obtain⟨nr,fh⟩:=ex f.procs.length
 obtain⟨no,hno⟩:=ex f.out.length
 obtain⟨np,fB⟩:=ex ((FM.ax f.ak k).aj.length)
 obtain⟨lv,hlv⟩:=ex ((FM.ax f.ak k).live)
 rw[<- hns] at m1 jd h4
 rw[<- fh] at m2 iz K5
 rw[<- hno] at m3
 rw[<- fB] at c2
 rw[<- hlv] at c0
 have iw:=ai hns
 have iW:=ai fh
 have iY:=ai hno
 have zw:=ai fB
 have Em:=ai hlv
 have rU:=ai oF
 have pM:=ai hr1
 have Cm:=ai hr2
 have OW:=ai hr3
 have OU:=ai hr4
 have OT:=ai uL
 have OS:=ai uK
 have OQ:=ai uJ
 clear h A hlc hP hns fh hno fB hlv oF hr1 hr2 hr3 hr4 uL uK uJ
 go_enter Tryz.func56,Tryz.ntmps56
 go_wp2_with fail
 have dJ:=ai ((Below.refl w.heap.size w).alloc (Nat.le_refl _) (.cells #[I r0,I r1,I r2,I r3,I r4,I r5,I r6,I r7] 66))
 have zy:=ai (B.new w #[I r0,I r1,I r2,I r3,I r4,I r5,I r6,I r7] 66)
 obtain⟨WA,gw⟩:=ex (w.alloc (.cells #[I r0,I r1,I r2,I r3,I r4,I r5,I r6,I r7] 66))
 rw[<- gw] at dJ zy ⊢
 obtain⟨xb,nA⟩:=ex w.heap.size
 rw[<- nA] at zy ⊢
 have tL:=ai nA
 have jk:=ai (HF.o.below dJ.o)
 have XH:w.heap.size<=WA.heap.size:=dJ.o.size
 clear gw nA
 clear her hal
 have cw:Hid (Below WA.heap.size WA WA.drew):=(Below.refl _ _).drew
 have M3:sb<WA.heap.size:=by omega
 have Ng:=(M.aA dJ.o jN).trans c1
 have cI:Hid (∀V,Below WA.heap.size WA V->V.cell? (Ad sb (k*3+1))=some (.slice aa na ca)/\V.cell? (Ad xb 0)=some (I r0)/\V.cell? (Ad xb 1)=some (I r1)/\V.cell? (Ad xb 2)=some (I r2)):=fun V hV=>by
  have hx:=B.below zy.o hV (B.isLt zy.o)
  exact⟨(M.aA hV M3).trans Ng,B.cell hx 0 rfl,B.cell hx 1 rfl,B.cell hx 2 rfl⟩
 have EJ:Hid (Calls Tryz.prog 86 #[.slice aa na ca,I r0,I r1,I r2] WA.drew fun e w'=>∃r,e=.returned (.tuple #[r,I er])/\AW.Own WA.heap.size w' r al/\Below WA.heap.size WA w'):=by
  have ha:=(HA.o.aw.below dJ.o).below cw.o
  refine(AW.C0 _ _ r0 r1 r2 WA.drew ha oC.o (by rw[rU.o];exact Tu.o 0 (by omega)) (by rw[pM.o];exact Tu.o 1 (by omega))).mono ?_
  rintro e w' ⟨r,h1,h2,h3⟩
  rw[rU.o,pM.o,Cm.o,<- Co.o] at h1
  rw[rU.o,pM.o,Cm.o,<- nD.o] at h2
  exact⟨r,h1,h2,cw.o.trans h3⟩
 refine wp_region_held_drew (S:=fun V=>Below WA.heap.size WA V) (by kernel_rfl) ?_ (fun hHeld=>?_)
 · exact cw.o
 refine GZ.htk 0 (by assumption) ?_ ?_ ?_
 rotate_left 1
 · intro V h
   obtain⟨k0,k1,k2,k3⟩:=cI.o V h
   go_simp
   try with_reducible rfl
 refine GZ.htk 1 (by assumption) ?_ ?_ ?_
 rotate_left 1
 · intro V h
   obtain⟨k0,k1,k2,k3⟩:=cI.o V h
   go_simp
   try with_reducible rfl
 refine GZ.htk 2 (by assumption) ?_ ?_ ?_
 rotate_left 1
 · intro V h
   obtain⟨k0,k1,k2,k3⟩:=cI.o V h
   go_simp
   try with_reducible rfl
 refine GZ.htk 3 (by assumption) ?_ ?_ ?_
 rotate_left 1
 · intro V h
   obtain⟨k0,k1,k2,k3⟩:=cI.o V h
   go_simp
   try with_reducible rfl
 refine GZ.htk 4 (by assumption) ?_ ?_ ?_
 rotate_left 1
 · intro V h
   obtain⟨k0,k1,k2,k3⟩:=cI.o V h
   go_simp
   try with_reducible rfl
 refine GZ.htk 5 (by assumption) ?_ ?_ ?_
 rotate_left 1
 · intro V h
   obtain⟨k0,k1,k2,k3⟩:=cI.o V h
   go_simp
   try with_reducible rfl
 refine GZ.htk 6 (by assumption) ?_ ?_ ?_
 rotate_left 1
 · intro V h
   obtain⟨k0,k1,k2,k3⟩:=cI.o V h
   go_simp
   try with_reducible rfl
 refine GZ.htk 7 (by assumption) ?_ ?_ ?_
 rotate_left 1
 · intro V h
   obtain⟨k0,k1,k2,k3⟩:=cI.o V h
   go_simp
   try with_reducible rfl
 refine GZ.htk 8 (by assumption) ?_ ?_ ?_
 rotate_left 1
 · intro V h
   obtain⟨k0,k1,k2,k3⟩:=cI.o V h
   go_simp
   try with_reducible rfl
 refine GZ.htk 9 (by assumption) ?_ ?_ ?_
 rotate_left 1
 · intro V h
   obtain⟨k0,k1,k2,k3⟩:=cI.o V h
   go_simp
   try with_reducible rfl
 refine wpAnyH_ready (rs:=[10]) (by kernel_rfl) (by simp) ?_
 refine AllReadyH.cons rfl (fun K hK=>?_) AllReadyH.nil
 go_simp;go_at_call 86;refine EJ.o.mono ?_;rintro e w5 ⟨r,rfl,Iu,ot⟩;obtain⟨ae,ce,her,_,_⟩:=aL (show w5.ownsRow _ _ 4 _ _ _ from Iu);subst her;obtain⟨ne,hne⟩:=ex al.length;rw[<- hne] at Iu ⊢;have Zx:=ai Iu;have jg:=ai ot;clear Iu ot hne;go_simp
 refine hK.out _ _ ?_ (fun hHeld=>?_)
 · try dsimp only
   exact jg.o
 clear hK K
 try simp only[Act.put,List.setIfInBounds_toArray,List.set_cons_zero,List.set_cons_succ]
 refine GZ.htk 11 (by assumption) ?_ ?_ ?_
 rotate_left 1
 · intro V h
   obtain⟨k0,k1,k2,k3⟩:=cI.o V h
   go_simp
   try with_reducible rfl
 refine GZ.htk 12 (by assumption) ?_ ?_ ?_
 rotate_left 1
 · intro V h
   obtain⟨k0,k1,k2,k3⟩:=cI.o V h
   go_simp
   try with_reducible rfl
 refine GZ.htk 13 (by assumption) ?_ ?_ ?_
 rotate_left 1
 · intro V h
   obtain⟨k0,k1,k2,k3⟩:=cI.o V h
   go_simp
   try with_reducible rfl
 refine wpAnyH_ready (rs:=[14]) (by kernel_rfl) (by simp) ?_
 refine AllReadyH.cons rfl (fun K hK=>?_) AllReadyH.nil
 go_simp
 refine hK.out _ _ ?_ (fun hHeld=>?_)
 · try dsimp only
   exact jg.o
 clear hK K
 try simp only[Act.put,List.setIfInBounds_toArray,List.set_cons_zero,List.set_cons_succ]
 refine wpAnyH_ready (rs:=[15]) (by kernel_rfl) (by simp) ?_
 refine AllReadyH.cons rfl (fun K hK=>?_) AllReadyH.nil
 go_simp
 refine hK.out _ _ ?_ (fun hHeld=>?_)
 · try dsimp only
   exact jg.o
 clear hK K
 try simp only[Act.put,List.setIfInBounds_toArray,List.set_cons_zero,List.set_cons_succ]
 refine wpAnyH_done (by kernel_rfl) ?_ _
 by_cases hz:er=0
 · subst hz
   have hv:=ai (CZ (nk qm.o hk) Co.o.symm)
   have OX:=ai (Bv jk.o hk hk2 qm.o (jg.o) (Zx.o) (by rw[nD.o];exact C3 (nk qm.o hk) Co.o.symm))
   go_wp2_with (go_at_call 87;refine OX.o.mono ?_;rintro e w6 ⟨rfl,L6,Nr,tJ⟩;have VI:=ai Nr;have Cz:=ai tJ;clear Nr tJ)
   exact HP.o _ _ ⟨by rw[hv.out.1];rfl,_,_,_,by rw[hv.out.2,<- nD.o];exact VI.o,(Kp.aF dJ.o).trans (Cz.o.mono (fun b _ e=>.inr (.inl (by subst e;rfl)))) (fun _ _ g=>g)⟩
 · have VY:(er==0)=false:=by rw[beq_eq_false_iff_ne];exact hz
   have hv:=ai (Fe (f:=f) (k:=k) (by rw[<- Co.o];exact hz))
   go_wp2
   exact HP.o _ _ ⟨by rw[hv.out.1,<- Co.o];rfl,_,_,_,by rw[hv.out.2];exact jk.o.below (jg.o),(Kp.aF dJ.o).trans (Kp.aF (D:=fun _=>False) (jg.o)) (fun _ _ g=>g.elim)⟩
end GO
end Go.Proofs.YtkdigjpejnebkaaGreat
