import Derived.Test.YtkdigjpejnebkaaGreatGQ00
import Derived.Test.YtkdigjpejnebkaaGreatGQ26
import Derived.Test.YtkdigjpejnebkaaGreatGQ27
import Derived.Test.YtkdigjpejnebkaaGreatGQ28
set_option maxHeartbeats 20000000
set_option linter.unusedVariables false
set_option maxRecDepth 100000
set_option linter.unusedSimpArgs false
namespace Go.Proofs.YtkdigjpejnebkaaGreat
namespace GO
open Go.RowKit GK
open GF (Lc vV bw bH aH eO blk eQ eP dw bl nu dg)
open GW (aI bM bc cx)
open FW (ai aB)
theorem nt {f:FM.Fl} {k:Nat} (h:Rt f k) (hk:k<f.ak.length):GM.ql (FM.ax f.ak k):=GM.fX (h.each k hk) h.live
theorem BB {lo mb k sb cap:Nat} {w W:World} {f:FM.Fl} {L:List Lc} {vr vo:Value} {ae:Option Addr} {ne ce:Nat} {al:List AM.Ar} (h:Fo lo mb w f (.slice (some (Ad sb 0)) f.ak.length cap) L vr vo) (hk:k<f.ak.length) (hk2:k<f.procs.length) (hr:Rt f k) (hb:Below w.heap.size w W) (ho:AW.Own w.heap.size W (.slice ae ne ce) al) (hc:AM.aD al=0) :
  Calls Tryz.prog 87 #[.pointer (some (Ad sb (k*3))),.slice ae ne ce] W fun e w'=>e=.returned (.tuple #[])/\∃L',Fo lo mb w' (GR.jo f k { FM.ax f.ak k with aw:=al,aj:=GR.eo al (FM.ax f.ak k).aj 255 }) (.slice (some (Ad sb 0)) f.ak.length cap) L' vr vo/\Kp (fun b=>b=sb) w w':=by
 have hW:=h.below hb
 obtain⟨sb',cap',pb,cr,aa,na,ca,ap,cp,ao,co,e1,_,_,_,A⟩:=hW.at hk hk2
 injection e1 with e1 _ e2
 injection e1 with e1
 injection e1 with e1
 subst e1 e2
 refine(GR.QX sb (k*3) cp ne ce (FM.ax f.ak k).live (.slice aa na ca) ae ap al (FM.ax f.ak k).aj W ⟨_,_,_,rfl⟩ A.c0 A.c1 A.c2 (A.fs _) (A.fs _) A.aj (hr.lens k hk).2 ho.has hc).mono ?_
 rintro e w' ⟨he,w1,av,cv,rfl,hb1,ho1⟩
 obtain⟨g1,g2⟩:=h.fit hk (by have:=B.isLt h.mem.head;have:=h.mem.base;omega) hb ho hb1 ho1
 exact⟨he,_,g1,g2⟩
theorem Ua {f:FM.Fl} {k:Nat} (h:¬(AW.dF (FM.ax f.ak k).aw ((FM.au f.procs k).r 0) ((FM.au f.procs k).r 1) ((FM.au f.procs k).r 2)).2=0):ed f k 2=(AW.dF (FM.ax f.ak k).aw ((FM.au f.procs k).r 0) ((FM.au f.procs k).r 1) ((FM.au f.procs k).r 2)).2/\dN f k 2=f:=by
 unfold ed dN
 rw[GR.Ec rfl rfl rfl h]
 exact⟨rfl,rfl⟩
theorem Qq {f:FM.Fl} {k:Nat} (hl:GM.ql (FM.ax f.ak k)) (h:(AW.dF (FM.ax f.ak k).aw ((FM.au f.procs k).r 0) ((FM.au f.procs k).r 1) ((FM.au f.procs k).r 2)).2=0) (hr:¬f.slots<FM.room f.ak+(FM.au f.procs k).r 1):ed f k 2=0/\dN f k 2=GR.jo f k { FM.ax f.ak k with aw:=(AW.dF (FM.ax f.ak k).aw ((FM.au f.procs k).r 0) ((FM.au f.procs k).r 1) ((FM.au f.procs k).r 2)).1,aj:=GR.eo (AW.dF (FM.ax f.ak k).aw ((FM.au f.procs k).r 0) ((FM.au f.procs k).r 1) ((FM.au f.procs k).r 2)).1 (FM.ax f.ak k).aj 255 }:=by
 rw[GR.Bz hl h]
 unfold ed dN
 rw[GR.xY rfl rfl rfl h hr]
 exact⟨rfl,rfl⟩
theorem MC {f:FM.Fl} {k:Nat} (h:(AW.dF (FM.ax f.ak k).aw ((FM.au f.procs k).r 0) ((FM.au f.procs k).r 1) ((FM.au f.procs k).r 2)).2=0) (hr:f.slots<FM.room f.ak+(FM.au f.procs k).r 1):ed f k 2=8/\dN f k 2=f:=by
 unfold ed dN
 rw[GR.zn rfl rfl rfl h hr]
 exact⟨rfl,rfl⟩
theorem Qs {f:FM.Fl} {k:Nat} (hl:GM.ql (FM.ax f.ak k)) (h:(AW.dF (FM.ax f.ak k).aw ((FM.au f.procs k).r 0) ((FM.au f.procs k).r 1) ((FM.au f.procs k).r 2)).2=0):AM.aD (AW.dF (FM.ax f.ak k).aw ((FM.au f.procs k).r 0) ((FM.au f.procs k).r 1) ((FM.au f.procs k).r 2)).1=0:=(GM.ll hl.check h).1
theorem Ub {f:FM.Fl} {k:Nat} (hl:GM.ql (FM.ax f.ak k)) (h:(AW.dF (FM.ax f.ak k).aw ((FM.au f.procs k).r 0) ((FM.au f.procs k).r 1) ((FM.au f.procs k).r 2)).2=0):1<=(FM.au f.procs k).r 1/\(FM.au f.procs k).r 1<=256:=by
 obtain⟨_,h2,_,_⟩:=GM.ll hl.check h
 omega
theorem xY {lo mb k:Nat} (f:FM.Fl) (v:Value) (L:List Lc) (vr vo:Value) (w:World) (h:Fo lo mb w f v L vr vo) (hk:k<f.ak.length) (hk2:k<f.procs.length) (h4:f.ak.length<=4) (Le:f.procs.length<=4) (hr:Rt f k) (Yy:AW.dC (FM.ax f.ak k).aw) (hi:∀j,j<8->M.dD ((FM.au f.procs k).r j)) :
  Calls Tryz.prog 56 #[.pointer (some (Ad mb 0)),I (k:Int),I 2] w (kY lo mb v vr vo w (ed f k 2) (dN f k 2)):=by
 obtain⟨sb,cap,pb,cr,aa,na,ca,ap,cp,ao,co,rfl,rfl,rfl,hlc,A⟩:=h.at hk hk2
 have q0:w.cell? (Ad pb (k*13))=some (I ((FM.au f.procs k).r 0)):=A.pr 0 (by omega)
 have q1:w.cell? (Ad pb (k*13+1))=some (I ((FM.au f.procs k).r 1)):=A.pr 1 (by omega)
 have q2:w.cell? (Ad pb (k*13+2))=some (I ((FM.au f.procs k).r 2)):=A.pr 2 (by omega)
 have q3:w.cell? (Ad pb (k*13+3))=some (I ((FM.au f.procs k).r 3)):=A.pr 3 (by omega)
 have q4:w.cell? (Ad pb (k*13+4))=some (I ((FM.au f.procs k).r 4)):=A.pr 4 (by omega)
 have q5:w.cell? (Ad pb (k*13+5))=some (I ((FM.au f.procs k).r 5)):=A.pr 5 (by omega)
 have q6:w.cell? (Ad pb (k*13+6))=some (I ((FM.au f.procs k).r 6)):=A.pr 6 (by omega)
 have q7:w.cell? (Ad pb (k*13+7))=some (I ((FM.au f.procs k).r 7)):=A.pr 7 (by omega)
 obtain⟨m0,m1,m2,m3⟩:=B.c4 h.mem.head
 have hmb:=B.isLt h.mem.head
 have hlo:=h.mem.base
 have jQ:=A.sl
 have hpb:=A.pl
 have c0:=A.c0
 have c1:=A.c1
 have c2:=A.c2
 have f0:=A.fs (k*3)
 have f1:=A.fs (k*3+1)
 have f2:=A.fs (k*3+2)
 have XQ:∀j,w.frozen? (Ad mb j)=false:=fun j=>B.free h.mem.head j
 have jc:(k:Int)<(f.ak.length:Int):=by omega
 have iB:(k:Int)<(f.procs.length:Int):=by omega
 have HA:=ai A
 have qo:=ai hr
 have oI:=ai Yy
 have Tw:=ai hi
 have Gd:=hr.room
 obtain⟨H,hH⟩:=ex (FM.room f.ak)
 have YG:0<=H:=by rw[hH];exact(FW.mz f.ak f.ak.length).1
 rw[<- hH] at Gd
 have HH:=ai hH
 obtain⟨er,her⟩:=ex ((AW.dF (FM.ax f.ak k).aw ((FM.au f.procs k).r 0) ((FM.au f.procs k).r 1) ((FM.au f.procs k).r 2)).2)
 obtain⟨al,hal⟩:=ex ((AW.dF (FM.ax f.ak k).aw ((FM.au f.procs k).r 0) ((FM.au f.procs k).r 1) ((FM.au f.procs k).r 2)).1)
 have Cr:=ai her
 have nE:=ai hal
 have Wp:=ai (hi 1 (by omega))
 have HF:=ai h
 obtain⟨r0,ma⟩:=ex ((FM.au f.procs k).r 0)
 obtain⟨r1,hr1⟩:=ex ((FM.au f.procs k).r 1)
 obtain⟨r2,hr2⟩:=ex ((FM.au f.procs k).r 2)
 obtain⟨r3,hr3⟩:=ex ((FM.au f.procs k).r 3)
 obtain⟨r4,hr4⟩:=ex ((FM.au f.procs k).r 4)
 obtain⟨r5,uI⟩:=ex ((FM.au f.procs k).r 5)
 obtain⟨r6,uH⟩:=ex ((FM.au f.procs k).r 6)
 obtain⟨r7,uG⟩:=ex ((FM.au f.procs k).r 7)
 rw[<- ma] at q0
 rw[<- hr1] at q1
 rw[<- hr2] at q2
 rw[<- hr3] at q3
 rw[<- hr4] at q4
 rw[<- uI] at q5
 rw[<- uH] at q6
 rw[<- uG] at q7
 obtain⟨P,hP⟩:=ex (kY lo mb (.slice (some (Ad sb 0)) f.ak.length cap) (.slice (some (Ad pb 0)) f.procs.length cr) (.slice ao f.out.length co) w (ed f k 2) (dN f k 2))
 have HP:Hid (∀e w',kY lo mb (.slice (some (Ad sb 0)) f.ak.length cap) (.slice (some (Ad pb 0)) f.procs.length cr) (.slice ao f.out.length co) w (ed f k 2) (dN f k 2) e w'->P e w'):=fun e w' g=>by rw[hP];exact g
 rw[<- hP]
 obtain⟨ns,hns⟩:=ex f.ak.length
 obtain⟨nr,fw⟩:=ex f.procs.length
 obtain⟨no,hno⟩:=ex f.out.length
 obtain⟨np,fE⟩:=ex ((FM.ax f.ak k).aj.length)
 obtain⟨lv,hlv⟩:=ex ((FM.ax f.ak k).live)
 rw[<- hns] at m1 jc h4
 rw[<- fw] at m2 iB Le
 rw[<- hno] at m3
 rw[<- fE] at c2
 rw[<- hlv] at c0
 have iy:=ai hns
 have ja:=ai fw
 have jb:=ai hno
 have zx:=ai fE
 have Et:=ai hlv
 have rT:=ai ma
 have pQ:=ai hr1
 have Co:=ai hr2
 have O4:=ai hr3
 have O3:=ai hr4
 have O2:=ai uI
 have O1:=ai uH
 have OZ:=ai uG
 clear h A hlc hP hns fw hno fE hlv ma hr1 hr2 hr3 hr4 uI uH uG
 go_enter Tryz.func56,Tryz.ntmps56
 go_wp2_with fail
 have dH:=ai ((Below.refl w.heap.size w).alloc (Nat.le_refl _) (.cells #[I r0,I r1,I r2,I r3,I r4,I r5,I r6,I r7] 66))
 have zz:=ai (B.new w #[I r0,I r1,I r2,I r3,I r4,I r5,I r6,I r7] 66)
 obtain⟨WA,fH⟩:=ex (w.alloc (.cells #[I r0,I r1,I r2,I r3,I r4,I r5,I r6,I r7] 66))
 rw[<- fH] at dH zz ⊢
 obtain⟨xb,nA⟩:=ex w.heap.size
 rw[<- nA] at zz ⊢
 have tN:=ai nA
 have jn:=ai (HF.o.below dH.o)
 have Xy:w.heap.size<=WA.heap.size:=dH.o.size
 clear fH nA
 clear her hal
 have cB:Hid (Below WA.heap.size WA WA.drew):=(Below.refl _ _).drew
 have MW:sb<WA.heap.size:=by omega
 have Na:=(M.aA dH.o jQ).trans c1
 have cJ:Hid (∀V,Below WA.heap.size WA V->V.cell? (Ad sb (k*3+1))=some (.slice aa na ca)/\V.cell? (Ad xb 0)=some (I r0)/\V.cell? (Ad xb 1)=some (I r1)/\V.cell? (Ad xb 2)=some (I r2)):=fun V hV=>by
  have hx:=B.below zz.o hV (B.isLt zz.o)
  exact⟨(M.aA hV MW).trans Na,B.cell hx 0 rfl,B.cell hx 1 rfl,B.cell hx 2 rfl⟩
 have EM:Hid (Calls Tryz.prog 83 #[.slice aa na ca,I r0,I r1,I r2] WA.drew fun e w'=>∃r,e=.returned (.tuple #[r,I er])/\AW.Own WA.heap.size w' r al/\Below WA.heap.size WA w'):=by
  have ha:=(HA.o.aw.below dH.o).below cB.o
  refine(AW.Qr _ _ r0 r1 r2 WA.drew ha oI.o (by rw[rT.o];exact Tw.o 0 (by omega)) (by rw[pQ.o];exact Tw.o 1 (by omega))).mono ?_
  rintro e w' ⟨r,h1,h2,h3⟩
  rw[rT.o,pQ.o,Co.o,<- Cr.o] at h1
  rw[rT.o,pQ.o,Co.o,<- nE.o] at h2
  exact⟨r,h1,h2,cB.o.trans h3⟩
 refine wp_region_held_drew (S:=fun V=>Below WA.heap.size WA V) (by kernel_rfl) ?_ (fun hHeld=>?_)
 · exact cB.o
 refine GZ.htk 0 (by assumption) ?_ ?_ ?_
 rotate_left 1
 · intro V h
   obtain⟨k0,k1,k2,k3⟩:=cJ.o V h
   go_simp
   try with_reducible rfl
 refine GZ.htk 1 (by assumption) ?_ ?_ ?_
 rotate_left 1
 · intro V h
   obtain⟨k0,k1,k2,k3⟩:=cJ.o V h
   go_simp
   try with_reducible rfl
 refine GZ.htk 2 (by assumption) ?_ ?_ ?_
 rotate_left 1
 · intro V h
   obtain⟨k0,k1,k2,k3⟩:=cJ.o V h
   go_simp
   try with_reducible rfl
 refine GZ.htk 3 (by assumption) ?_ ?_ ?_
 rotate_left 1
 · intro V h
   obtain⟨k0,k1,k2,k3⟩:=cJ.o V h
   go_simp
   try with_reducible rfl
 refine GZ.htk 4 (by assumption) ?_ ?_ ?_
 rotate_left 1
 · intro V h
   obtain⟨k0,k1,k2,k3⟩:=cJ.o V h
   go_simp
   try with_reducible rfl
 refine GZ.htk 5 (by assumption) ?_ ?_ ?_
 rotate_left 1
 · intro V h
   obtain⟨k0,k1,k2,k3⟩:=cJ.o V h
   go_simp
   try with_reducible rfl
 refine GZ.htk 6 (by assumption) ?_ ?_ ?_
 rotate_left 1
 · intro V h
   obtain⟨k0,k1,k2,k3⟩:=cJ.o V h
   go_simp
   try with_reducible rfl
 refine GZ.htk 7 (by assumption) ?_ ?_ ?_
 rotate_left 1
 · intro V h
   obtain⟨k0,k1,k2,k3⟩:=cJ.o V h
   go_simp
   try with_reducible rfl
 refine GZ.htk 8 (by assumption) ?_ ?_ ?_
 rotate_left 1
 · intro V h
   obtain⟨k0,k1,k2,k3⟩:=cJ.o V h
   go_simp
   try with_reducible rfl
 refine GZ.htk 9 (by assumption) ?_ ?_ ?_
 rotate_left 1
 · intro V h
   obtain⟨k0,k1,k2,k3⟩:=cJ.o V h
   go_simp
   try with_reducible rfl
 refine wpAnyH_ready (rs:=[10]) (by kernel_rfl) (by simp) ?_
 refine AllReadyH.cons rfl (fun K hK=>?_) AllReadyH.nil
 go_simp;go_at_call 83;refine EM.o.mono ?_;rintro e w5 ⟨r,rfl,Iy,kV⟩;obtain⟨ae,ce,her,_,_⟩:=aJ (show w5.ownsRow _ _ 4 _ _ _ from Iy);subst her;obtain⟨ne,hne⟩:=ex al.length;rw[<- hne] at Iy ⊢;have Zn:=ai Iy;have gK:=ai kV;clear Iy kV hne;go_simp
 refine hK.out _ _ ?_ (fun hHeld=>?_)
 · try dsimp only
   exact gK.o
 clear hK K
 try simp only[Act.put,List.setIfInBounds_toArray,List.set_cons_zero,List.set_cons_succ]
 refine GZ.htk 11 (by assumption) ?_ ?_ ?_
 rotate_left 1
 · intro V h
   obtain⟨k0,k1,k2,k3⟩:=cJ.o V h
   go_simp
   try with_reducible rfl
 refine GZ.htk 12 (by assumption) ?_ ?_ ?_
 rotate_left 1
 · intro V h
   obtain⟨k0,k1,k2,k3⟩:=cJ.o V h
   go_simp
   try with_reducible rfl
 refine GZ.htk 13 (by assumption) ?_ ?_ ?_
 rotate_left 1
 · intro V h
   obtain⟨k0,k1,k2,k3⟩:=cJ.o V h
   go_simp
   try with_reducible rfl
 refine wpAnyH_ready (rs:=[14]) (by kernel_rfl) (by simp) ?_
 refine AllReadyH.cons rfl (fun K hK=>?_) AllReadyH.nil
 go_simp
 refine hK.out _ _ ?_ (fun hHeld=>?_)
 · try dsimp only
   exact gK.o
 clear hK K
 try simp only[Act.put,List.setIfInBounds_toArray,List.set_cons_zero,List.set_cons_succ]
 refine wpAnyH_ready (rs:=[15]) (by kernel_rfl) (by simp) ?_
 refine AllReadyH.cons rfl (fun K hK=>?_) AllReadyH.nil
 go_simp
 refine hK.out _ _ ?_ (fun hHeld=>?_)
 · try dsimp only
   exact gK.o
 clear hK K
 try simp only[Act.put,List.setIfInBounds_toArray,List.set_cons_zero,List.set_cons_succ]
 refine wpAnyH_done (by kernel_rfl) ?_ _
 go_wp2_with fail
 have Sq:=ai (jn.o.below gK.o)
 haveI:=Q.dZ w5
 have e0:∀x:Q.dG w5.heap.size w5,x.world.cell? (Ad mb 0)=some (I f.slots):=fun x=>(Q.cD x _ _ (B.isLt Sq.o.mem.head)).trans (B.cell Sq.o.mem.head 0 rfl)
 have e1:∀x:Q.dG w5.heap.size w5,x.world.cell? (Ad mb 1)=some (.slice (some (Ad sb 0)) ns cap):=fun x=>(Q.cD x _ _ (B.isLt Sq.o.mem.head)).trans (B.cell Sq.o.mem.head 1 (by rw[iy.o];rfl))
 have e2:∀x:Q.dG w5.heap.size w5,x.world.cell? (Ad mb 2)=some (.slice (some (Ad pb 0)) nr cr):=fun x=>(Q.cD x _ _ (B.isLt Sq.o.mem.head)).trans (B.cell Sq.o.mem.head 2 (by rw[ja.o];rfl))
 have e3:∀x:Q.dG w5.heap.size w5,x.world.cell? (Ad mb 3)=some (.slice ao no co):=fun x=>(Q.cD x _ _ (B.isLt Sq.o.mem.head)).trans (B.cell Sq.o.mem.head 3 (by rw[jb.o];rfl))
 have Jf:Hid (∀x:Q.dG w5.heap.size w5,Calls Tryz.prog 84 #[.agg #[I f.slots,.slice (some (Ad sb 0)) ns cap,.slice (some (Ad pb 0)) nr cr,.slice ao no co]] x.world fun e w'=>e=.returned (I H)/\∃y:Q.dG w5.heap.size w5,w'=y.world):=fun x=>by
  obtain⟨az,ar,oG,cs,YL,D5,q1,q2,q3,q4⟩:=(Sq.o.below x.keeps).has
  injection q1 with q1 _ q1'
  injection q2 with q2 _ q2'
  injection q3 with q3 _ q3'
  subst q1 q2 q3 q1' q2' q3'
  have h:=GR.sZ f (some (Ad sb 0)) (some (Ad pb 0)) ao cap cr co x.world q4.ak (by rw[<- iy.o];exact h4) (fun j hj=>(qo.o.lens j hj).2)
  unfold FW.bC at h
  rw[<- iy.o,<- ja.o,<- jb.o] at h
  refine h.mono fun e w'' ⟨he,hb⟩=>⟨?_,⟨w'',x.keeps.trans (hb.mono x.keeps.size)⟩,rfl⟩
  rw[he,HH.o,<- ID qo.o,iy.o]
 have e5:∀x:Q.dG w5.heap.size w5,x.world.cell? (Ad xb 1)=some (I r1):=fun x=>(cJ.o _ (gK.o.trans (x.keeps.mono gK.o.size))).2.2.1
 obtain⟨h0,h5⟩:=Gd
 by_cases hz:er=0
 · subst hz
   have qJ:=Ub (nt qo.o hk) Cr.o.symm
   rw[<- pQ.o] at qJ
   by_cases hlt:f.slots<H+r1
   · have hv:=ai (MC Cr.o.symm (by rw[<- HH.o,<- pQ.o];exact hlt))
     refine Q.aX (by kernel_rfl) (by kernel_rfl) ?_
     repeat (first | go_big_quiet_step ((first | (go_at_call 84;exact Jf.o _))) | quiet_step ((first | (go_at_call 84;exact Jf.o _))))
     refine wpQuiet_nil ?_
     intro _ hw'
     obtain⟨x,hw''⟩:=hw'
     subst hw''
     go_wp2
     exact HP.o _ _ ⟨by rw[hv.out.1];rfl,_,_,_,by rw[hv.out.2];exact jn.o.below (gK.o.trans (x.keeps.mono gK.o.size)),(Kp.aF dH.o).trans (Kp.aF (D:=fun _=>False) (gK.o.trans (x.keeps.mono gK.o.size))) (fun _ _ g=>g.elim)⟩
   · have yZ:H+r1<=f.slots:=by omega
     refine Q.aX (by kernel_rfl) (by kernel_rfl) ?_
     repeat (first | go_big_quiet_step ((first | (go_at_call 84;exact Jf.o _))) | quiet_step ((first | (go_at_call 84;exact Jf.o _))))
     refine wpQuiet_nil ?_
     intro _ hw'
     obtain⟨x,hw''⟩:=hw'
     subst hw''
     have hv:=ai (Qq (nt qo.o hk) Cr.o.symm (by rw[<- HH.o,<- pQ.o];exact hlt))
     have O5:=ai (BB jn.o hk hk2 qo.o (gK.o.trans (x.keeps.mono gK.o.size)) (Kp.row (Kp.aF (D:=fun _=>False) x.keeps) Zn.o (fun _ _ g=>g)) (by rw[nE.o];exact Qs (nt qo.o hk) Cr.o.symm))
     go_wp2_with (go_at_call 87;refine O5.o.mono ?_;rintro e w6 ⟨rfl,L6,Nn,tK⟩;have VB:=ai Nn;have Ax:=ai tK;clear Nn tK)
     exact HP.o _ _ ⟨by rw[hv.out.1];rfl,_,_,_,by rw[hv.out.2,<- nE.o];exact VB.o,(Kp.aF dH.o).trans (Ax.o.mono (fun b _ e=>.inr (.inl (by subst e;rfl)))) (fun _ _ g=>g)⟩
 · have VR:(er==0)=false:=by rw[beq_eq_false_iff_ne];exact hz
   have hv:=ai (Ua (f:=f) (k:=k) (by rw[<- Cr.o];exact hz))
   refine Q.aX (by kernel_rfl) (by kernel_rfl) ?_
   repeat (first | go_big_quiet_step ((first | (go_at_call 84;exact Jf.o _))) | quiet_step ((first | (go_at_call 84;exact Jf.o _))))
   refine wpQuiet_nil ?_
   intro _ hw'
   obtain⟨x,hw''⟩:=hw'
   subst hw''
   go_wp2
   exact HP.o _ _ ⟨by rw[hv.out.1,<- Cr.o];rfl,_,_,_,by rw[hv.out.2];exact jn.o.below (gK.o.trans (x.keeps.mono gK.o.size)),(Kp.aF dH.o).trans (Kp.aF (D:=fun _=>False) (gK.o.trans (x.keeps.mono gK.o.size))) (fun _ _ g=>g.elim)⟩
theorem LL {f:FM.Fl} {k:Nat} (h:¬(AW.bP (FM.ax f.ak k).aw ((FM.au f.procs k).r 0) ((FM.au f.procs k).r 1)).2=0):ed f k 3=(AW.bP (FM.ax f.ak k).aw ((FM.au f.procs k).r 0) ((FM.au f.procs k).r 1)).2/\dN f k 3=f:=by
 unfold ed dN
 rw[GR.zm rfl rfl h]
 exact⟨rfl,rfl⟩
theorem Ju {f:FM.Fl} {k:Nat} (hl:GM.ql (FM.ax f.ak k)) (h:(AW.bP (FM.ax f.ak k).aw ((FM.au f.procs k).r 0) ((FM.au f.procs k).r 1)).2=0):ed f k 3=0/\dN f k 3=GR.jo f k { FM.ax f.ak k with aw:=(AW.bP (FM.ax f.ak k).aw ((FM.au f.procs k).r 0) ((FM.au f.procs k).r 1)).1,aj:=GR.eo (AW.bP (FM.ax f.ak k).aw ((FM.au f.procs k).r 0) ((FM.au f.procs k).r 1)).1 (FM.ax f.ak k).aj 255 }:=by
 rw[GR.Kq hl h]
 unfold ed dN
 rw[GR.rO rfl rfl h]
 exact⟨rfl,rfl⟩
theorem Jx {f:FM.Fl} {k:Nat} (hl:GM.ql (FM.ax f.ak k)) (h:(AW.bP (FM.ax f.ak k).aw ((FM.au f.procs k).r 0) ((FM.au f.procs k).r 1)).2=0):AM.aD (AW.bP (FM.ax f.ak k).aw ((FM.au f.procs k).r 0) ((FM.au f.procs k).r 1)).1=0:=(GM.o7 hl.check h).1
theorem rO {lo mb k:Nat} (f:FM.Fl) (v:Value) (L:List Lc) (vr vo:Value) (w:World) (h:Fo lo mb w f v L vr vo) (hk:k<f.ak.length) (hk2:k<f.procs.length) (h4:f.ak.length<=4) (Le:f.procs.length<=4) (hr:Rt f k) (Yy:AW.dC (FM.ax f.ak k).aw) (hi:∀j,j<8->M.dD ((FM.au f.procs k).r j)) :
  Calls Tryz.prog 56 #[.pointer (some (Ad mb 0)),I (k:Int),I 3] w (kY lo mb v vr vo w (ed f k 3) (dN f k 3)):=by
 obtain⟨sb,cap,pb,cr,aa,na,ca,ap,cp,ao,co,rfl,rfl,rfl,hlc,A⟩:=h.at hk hk2
 have q0:w.cell? (Ad pb (k*13))=some (I ((FM.au f.procs k).r 0)):=A.pr 0 (by omega)
 have q1:w.cell? (Ad pb (k*13+1))=some (I ((FM.au f.procs k).r 1)):=A.pr 1 (by omega)
 have q2:w.cell? (Ad pb (k*13+2))=some (I ((FM.au f.procs k).r 2)):=A.pr 2 (by omega)
 have q3:w.cell? (Ad pb (k*13+3))=some (I ((FM.au f.procs k).r 3)):=A.pr 3 (by omega)
 have q4:w.cell? (Ad pb (k*13+4))=some (I ((FM.au f.procs k).r 4)):=A.pr 4 (by omega)
 have q5:w.cell? (Ad pb (k*13+5))=some (I ((FM.au f.procs k).r 5)):=A.pr 5 (by omega)
 have q6:w.cell? (Ad pb (k*13+6))=some (I ((FM.au f.procs k).r 6)):=A.pr 6 (by omega)
 have q7:w.cell? (Ad pb (k*13+7))=some (I ((FM.au f.procs k).r 7)):=A.pr 7 (by omega)
 obtain⟨m0,m1,m2,m3⟩:=B.c4 h.mem.head
 have hmb:=B.isLt h.mem.head
 have hlo:=h.mem.base
 have jQ:=A.sl
 have hpb:=A.pl
 have c0:=A.c0
 have c1:=A.c1
 have c2:=A.c2
 have f0:=A.fs (k*3)
 have f1:=A.fs (k*3+1)
 have f2:=A.fs (k*3+2)
 have XQ:∀j,w.frozen? (Ad mb j)=false:=fun j=>B.free h.mem.head j
 have jc:(k:Int)<(f.ak.length:Int):=by omega
 have iB:(k:Int)<(f.procs.length:Int):=by omega
 have HA:=ai A
 have qo:=ai hr
 have oI:=ai Yy
 have Tw:=ai hi
 have Gd:=hr.room
 obtain⟨H,hH⟩:=ex (FM.room f.ak)
 have YG:0<=H:=by rw[hH];exact(FW.mz f.ak f.ak.length).1
 rw[<- hH] at Gd
 have HH:=ai hH
 obtain⟨er,her⟩:=ex ((AW.bP (FM.ax f.ak k).aw ((FM.au f.procs k).r 0) ((FM.au f.procs k).r 1)).2)
 obtain⟨al,hal⟩:=ex ((AW.bP (FM.ax f.ak k).aw ((FM.au f.procs k).r 0) ((FM.au f.procs k).r 1)).1)
 have Cr:=ai her
 have nE:=ai hal
 have Wp:=ai (hi 1 (by omega))
 have HF:=ai h
 obtain⟨r0,ma⟩:=ex ((FM.au f.procs k).r 0)
 obtain⟨r1,hr1⟩:=ex ((FM.au f.procs k).r 1)
 obtain⟨r2,hr2⟩:=ex ((FM.au f.procs k).r 2)
 obtain⟨r3,hr3⟩:=ex ((FM.au f.procs k).r 3)
 obtain⟨r4,hr4⟩:=ex ((FM.au f.procs k).r 4)
 obtain⟨r5,uI⟩:=ex ((FM.au f.procs k).r 5)
 obtain⟨r6,uH⟩:=ex ((FM.au f.procs k).r 6)
 obtain⟨r7,uG⟩:=ex ((FM.au f.procs k).r 7)
 rw[<- ma] at q0
 rw[<- hr1] at q1
 rw[<- hr2] at q2
 rw[<- hr3] at q3
 rw[<- hr4] at q4
 rw[<- uI] at q5
 rw[<- uH] at q6
 rw[<- uG] at q7
 obtain⟨P,hP⟩:=ex (kY lo mb (.slice (some (Ad sb 0)) f.ak.length cap) (.slice (some (Ad pb 0)) f.procs.length cr) (.slice ao f.out.length co) w (ed f k 3) (dN f k 3))
 have HP:Hid (∀e w',kY lo mb (.slice (some (Ad sb 0)) f.ak.length cap) (.slice (some (Ad pb 0)) f.procs.length cr) (.slice ao f.out.length co) w (ed f k 3) (dN f k 3) e w'->P e w'):=fun e w' g=>by rw[hP];exact g
 rw[<- hP]
 obtain⟨ns,hns⟩:=ex f.ak.length
 obtain⟨nr,fw⟩:=ex f.procs.length
 obtain⟨no,hno⟩:=ex f.out.length
 obtain⟨np,fE⟩:=ex ((FM.ax f.ak k).aj.length)
 obtain⟨lv,hlv⟩:=ex ((FM.ax f.ak k).live)
 rw[<- hns] at m1 jc h4
 rw[<- fw] at m2 iB Le
 rw[<- hno] at m3
 rw[<- fE] at c2
 rw[<- hlv] at c0
 have iy:=ai hns
 have ja:=ai fw
 have jb:=ai hno
 have zx:=ai fE
 have Et:=ai hlv
 have rT:=ai ma
 have pQ:=ai hr1
 have Co:=ai hr2
 have O4:=ai hr3
 have O3:=ai hr4
 have O2:=ai uI
 have O1:=ai uH
 have OZ:=ai uG
 clear h A hlc hP hns fw hno fE hlv ma hr1 hr2 hr3 hr4 uI uH uG
 go_enter Tryz.func56,Tryz.ntmps56
 go_wp2_with fail
 have dH:=ai ((Below.refl w.heap.size w).alloc (Nat.le_refl _) (.cells #[I r0,I r1,I r2,I r3,I r4,I r5,I r6,I r7] 66))
 have zz:=ai (B.new w #[I r0,I r1,I r2,I r3,I r4,I r5,I r6,I r7] 66)
 obtain⟨WA,fH⟩:=ex (w.alloc (.cells #[I r0,I r1,I r2,I r3,I r4,I r5,I r6,I r7] 66))
 rw[<- fH] at dH zz ⊢
 obtain⟨xb,nA⟩:=ex w.heap.size
 rw[<- nA] at zz ⊢
 have tN:=ai nA
 have jn:=ai (HF.o.below dH.o)
 have Xy:w.heap.size<=WA.heap.size:=dH.o.size
 clear fH nA
 clear her hal
 have cB:Hid (Below WA.heap.size WA WA.drew):=(Below.refl _ _).drew
 have MW:sb<WA.heap.size:=by omega
 have Na:=(M.aA dH.o jQ).trans c1
 have cJ:Hid (∀V,Below WA.heap.size WA V->V.cell? (Ad sb (k*3+1))=some (.slice aa na ca)/\V.cell? (Ad xb 0)=some (I r0)/\V.cell? (Ad xb 1)=some (I r1)/\V.cell? (Ad xb 2)=some (I r2)):=fun V hV=>by
  have hx:=B.below zz.o hV (B.isLt zz.o)
  exact⟨(M.aA hV MW).trans Na,B.cell hx 0 rfl,B.cell hx 1 rfl,B.cell hx 2 rfl⟩
 have EM:Hid (Calls Tryz.prog 85 #[.slice aa na ca,I r0,I r1] WA.drew fun e w'=>∃r,e=.returned (.tuple #[r,I er])/\AW.Own WA.heap.size w' r al/\Below WA.heap.size WA w'):=by
  have ha:=(HA.o.aw.below dH.o).below cB.o
  refine(AW.Jv _ _ r0 r1 WA.drew ha oI.o (by rw[rT.o];exact Tw.o 0 (by omega)) (by rw[pQ.o];exact Tw.o 1 (by omega))).mono ?_
  rintro e w' ⟨r,h1,h2,h3⟩
  rw[rT.o,pQ.o,<- Cr.o] at h1
  rw[rT.o,pQ.o,<- nE.o] at h2
  exact⟨r,h1,h2,cB.o.trans h3⟩
 refine wp_region_held_drew (S:=fun V=>Below WA.heap.size WA V) (by kernel_rfl) ?_ (fun hHeld=>?_)
 · exact cB.o
 refine GZ.htk 0 (by assumption) ?_ ?_ ?_
 rotate_left 1
 · intro V h
   obtain⟨k0,k1,k2,k3⟩:=cJ.o V h
   go_simp
   try with_reducible rfl
 refine GZ.htk 1 (by assumption) ?_ ?_ ?_
 rotate_left 1
 · intro V h
   obtain⟨k0,k1,k2,k3⟩:=cJ.o V h
   go_simp
   try with_reducible rfl
 refine GZ.htk 2 (by assumption) ?_ ?_ ?_
 rotate_left 1
 · intro V h
   obtain⟨k0,k1,k2,k3⟩:=cJ.o V h
   go_simp
   try with_reducible rfl
 refine GZ.htk 3 (by assumption) ?_ ?_ ?_
 rotate_left 1
 · intro V h
   obtain⟨k0,k1,k2,k3⟩:=cJ.o V h
   go_simp
   try with_reducible rfl
 refine GZ.htk 4 (by assumption) ?_ ?_ ?_
 rotate_left 1
 · intro V h
   obtain⟨k0,k1,k2,k3⟩:=cJ.o V h
   go_simp
   try with_reducible rfl
 refine GZ.htk 5 (by assumption) ?_ ?_ ?_
 rotate_left 1
 · intro V h
   obtain⟨k0,k1,k2,k3⟩:=cJ.o V h
   go_simp
   try with_reducible rfl
 refine GZ.htk 6 (by assumption) ?_ ?_ ?_
 rotate_left 1
 · intro V h
   obtain⟨k0,k1,k2,k3⟩:=cJ.o V h
   go_simp
   try with_reducible rfl
 refine GZ.htk 7 (by assumption) ?_ ?_ ?_
 rotate_left 1
 · intro V h
   obtain⟨k0,k1,k2,k3⟩:=cJ.o V h
   go_simp
   try with_reducible rfl
 refine wpAnyH_ready (rs:=[8]) (by kernel_rfl) (by simp) ?_
 refine AllReadyH.cons rfl (fun K hK=>?_) AllReadyH.nil
 go_simp;go_at_call 85;refine EM.o.mono ?_;rintro e w5 ⟨r,rfl,Iy,kV⟩;obtain⟨ae,ce,her,_,_⟩:=aJ (show w5.ownsRow _ _ 4 _ _ _ from Iy);subst her;obtain⟨ne,hne⟩:=ex al.length;rw[<- hne] at Iy ⊢;have Zn:=ai Iy;have gK:=ai kV;clear Iy kV hne;go_simp
 refine hK.out _ _ ?_ (fun hHeld=>?_)
 · try dsimp only
   exact gK.o
 clear hK K
 try simp only[Act.put,List.setIfInBounds_toArray,List.set_cons_zero,List.set_cons_succ]
 refine GZ.htk 9 (by assumption) ?_ ?_ ?_
 rotate_left 1
 · intro V h
   obtain⟨k0,k1,k2,k3⟩:=cJ.o V h
   go_simp
   try with_reducible rfl
 refine GZ.htk 10 (by assumption) ?_ ?_ ?_
 rotate_left 1
 · intro V h
   obtain⟨k0,k1,k2,k3⟩:=cJ.o V h
   go_simp
   try with_reducible rfl
 refine GZ.htk 11 (by assumption) ?_ ?_ ?_
 rotate_left 1
 · intro V h
   obtain⟨k0,k1,k2,k3⟩:=cJ.o V h
   go_simp
   try with_reducible rfl
 refine wpAnyH_ready (rs:=[12]) (by kernel_rfl) (by simp) ?_
 refine AllReadyH.cons rfl (fun K hK=>?_) AllReadyH.nil
 go_simp
 refine hK.out _ _ ?_ (fun hHeld=>?_)
 · try dsimp only
   exact gK.o
 clear hK K
 try simp only[Act.put,List.setIfInBounds_toArray,List.set_cons_zero,List.set_cons_succ]
 refine wpAnyH_ready (rs:=[13]) (by kernel_rfl) (by simp) ?_
 refine AllReadyH.cons rfl (fun K hK=>?_) AllReadyH.nil
 go_simp
 refine hK.out _ _ ?_ (fun hHeld=>?_)
 · try dsimp only
   exact gK.o
 clear hK K
 try simp only[Act.put,List.setIfInBounds_toArray,List.set_cons_zero,List.set_cons_succ]
 refine wpAnyH_done (by kernel_rfl) ?_ _
 by_cases hz:er=0
 · subst hz
   have hv:=ai (Ju (nt qo.o hk) Cr.o.symm)
   have O5:=ai (BB jn.o hk hk2 qo.o (gK.o) (Zn.o) (by rw[nE.o];exact Jx (nt qo.o hk) Cr.o.symm))
   go_wp2_with (go_at_call 87;refine O5.o.mono ?_;rintro e w6 ⟨rfl,L6,Nn,tK⟩;have VB:=ai Nn;have Ax:=ai tK;clear Nn tK)
   exact HP.o _ _ ⟨by rw[hv.out.1];rfl,_,_,_,by rw[hv.out.2,<- nE.o];exact VB.o,(Kp.aF dH.o).trans (Ax.o.mono (fun b _ e=>.inr (.inl (by subst e;rfl)))) (fun _ _ g=>g)⟩
 · have VR:(er==0)=false:=by rw[beq_eq_false_iff_ne];exact hz
   have hv:=ai (LL (f:=f) (k:=k) (by rw[<- Cr.o];exact hz))
   go_wp2
   exact HP.o _ _ ⟨by rw[hv.out.1,<- Cr.o];rfl,_,_,_,by rw[hv.out.2];exact jn.o.below (gK.o),(Kp.aF dH.o).trans (Kp.aF (D:=fun _=>False) (gK.o)) (fun _ _ g=>g.elim)⟩
theorem Fk {f:FM.Fl} {k:Nat} (h:¬(AW.bg (FM.ax f.ak k).aw ((FM.au f.procs k).r 0) ((FM.au f.procs k).r 1) ((FM.au f.procs k).r 2)).2=0):ed f k 4=(AW.bg (FM.ax f.ak k).aw ((FM.au f.procs k).r 0) ((FM.au f.procs k).r 1) ((FM.au f.procs k).r 2)).2/\dN f k 4=f:=by
 unfold ed dN
 rw[GR.vJ rfl rfl rfl h]
 exact⟨rfl,rfl⟩
theorem C3 {f:FM.Fl} {k:Nat} (hl:GM.ql (FM.ax f.ak k)) (h:(AW.bg (FM.ax f.ak k).aw ((FM.au f.procs k).r 0) ((FM.au f.procs k).r 1) ((FM.au f.procs k).r 2)).2=0):ed f k 4=0/\dN f k 4=GR.jo f k { FM.ax f.ak k with aw:=(AW.bg (FM.ax f.ak k).aw ((FM.au f.procs k).r 0) ((FM.au f.procs k).r 1) ((FM.au f.procs k).r 2)).1,aj:=GR.eo (AW.bg (FM.ax f.ak k).aw ((FM.au f.procs k).r 0) ((FM.au f.procs k).r 1) ((FM.au f.procs k).r 2)).1 (FM.ax f.ak k).aj 255 }:=by
 rw[GR.DN hl h]
 unfold ed dN
 rw[GR.oa rfl rfl rfl h]
 exact⟨rfl,rfl⟩
theorem C6 {f:FM.Fl} {k:Nat} (hl:GM.ql (FM.ax f.ak k)) (h:(AW.bg (FM.ax f.ak k).aw ((FM.au f.procs k).r 0) ((FM.au f.procs k).r 1) ((FM.au f.procs k).r 2)).2=0):AM.aD (AW.bg (FM.ax f.ak k).aw ((FM.au f.procs k).r 0) ((FM.au f.procs k).r 1) ((FM.au f.procs k).r 2)).1=0:=(GM.mM hl.check h).1
theorem oa {lo mb k:Nat} (f:FM.Fl) (v:Value) (L:List Lc) (vr vo:Value) (w:World) (h:Fo lo mb w f v L vr vo) (hk:k<f.ak.length) (hk2:k<f.procs.length) (h4:f.ak.length<=4) (Le:f.procs.length<=4) (hr:Rt f k) (Yy:AW.dC (FM.ax f.ak k).aw) (hi:∀j,j<8->M.dD ((FM.au f.procs k).r j)) :
  Calls Tryz.prog 56 #[.pointer (some (Ad mb 0)),I (k:Int),I 4] w (kY lo mb v vr vo w (ed f k 4) (dN f k 4)):=by
 obtain⟨sb,cap,pb,cr,aa,na,ca,ap,cp,ao,co,rfl,rfl,rfl,hlc,A⟩:=h.at hk hk2
 have q0:w.cell? (Ad pb (k*13))=some (I ((FM.au f.procs k).r 0)):=A.pr 0 (by omega)
 have q1:w.cell? (Ad pb (k*13+1))=some (I ((FM.au f.procs k).r 1)):=A.pr 1 (by omega)
 have q2:w.cell? (Ad pb (k*13+2))=some (I ((FM.au f.procs k).r 2)):=A.pr 2 (by omega)
 have q3:w.cell? (Ad pb (k*13+3))=some (I ((FM.au f.procs k).r 3)):=A.pr 3 (by omega)
 have q4:w.cell? (Ad pb (k*13+4))=some (I ((FM.au f.procs k).r 4)):=A.pr 4 (by omega)
 have q5:w.cell? (Ad pb (k*13+5))=some (I ((FM.au f.procs k).r 5)):=A.pr 5 (by omega)
 have q6:w.cell? (Ad pb (k*13+6))=some (I ((FM.au f.procs k).r 6)):=A.pr 6 (by omega)
 have q7:w.cell? (Ad pb (k*13+7))=some (I ((FM.au f.procs k).r 7)):=A.pr 7 (by omega)
 obtain⟨m0,m1,m2,m3⟩:=B.c4 h.mem.head
 have hmb:=B.isLt h.mem.head
 have hlo:=h.mem.base
 have jQ:=A.sl
 have hpb:=A.pl
 have c0:=A.c0
 have c1:=A.c1
 have c2:=A.c2
 have f0:=A.fs (k*3)
 have f1:=A.fs (k*3+1)
 have f2:=A.fs (k*3+2)
 have XQ:∀j,w.frozen? (Ad mb j)=false:=fun j=>B.free h.mem.head j
 have jc:(k:Int)<(f.ak.length:Int):=by omega
 have iB:(k:Int)<(f.procs.length:Int):=by omega
 have HA:=ai A
 have qo:=ai hr
 have oI:=ai Yy
 have Tw:=ai hi
 have Gd:=hr.room
 obtain⟨H,hH⟩:=ex (FM.room f.ak)
 have YG:0<=H:=by rw[hH];exact(FW.mz f.ak f.ak.length).1
 rw[<- hH] at Gd
 have HH:=ai hH
 obtain⟨er,her⟩:=ex ((AW.bg (FM.ax f.ak k).aw ((FM.au f.procs k).r 0) ((FM.au f.procs k).r 1) ((FM.au f.procs k).r 2)).2)
 obtain⟨al,hal⟩:=ex ((AW.bg (FM.ax f.ak k).aw ((FM.au f.procs k).r 0) ((FM.au f.procs k).r 1) ((FM.au f.procs k).r 2)).1)
 have Cr:=ai her
 have nE:=ai hal
 have Wp:=ai (hi 1 (by omega))
 have HF:=ai h
 obtain⟨r0,ma⟩:=ex ((FM.au f.procs k).r 0)
 obtain⟨r1,hr1⟩:=ex ((FM.au f.procs k).r 1)
 obtain⟨r2,hr2⟩:=ex ((FM.au f.procs k).r 2)
 obtain⟨r3,hr3⟩:=ex ((FM.au f.procs k).r 3)
 obtain⟨r4,hr4⟩:=ex ((FM.au f.procs k).r 4)
 obtain⟨r5,uI⟩:=ex ((FM.au f.procs k).r 5)
 obtain⟨r6,uH⟩:=ex ((FM.au f.procs k).r 6)
 obtain⟨r7,uG⟩:=ex ((FM.au f.procs k).r 7)
 rw[<- ma] at q0
 rw[<- hr1] at q1
 rw[<- hr2] at q2
 rw[<- hr3] at q3
 rw[<- hr4] at q4
 rw[<- uI] at q5
 rw[<- uH] at q6
 rw[<- uG] at q7
 obtain⟨P,hP⟩:=ex (kY lo mb (.slice (some (Ad sb 0)) f.ak.length cap) (.slice (some (Ad pb 0)) f.procs.length cr) (.slice ao f.out.length co) w (ed f k 4) (dN f k 4))
 have HP:Hid (∀e w',kY lo mb (.slice (some (Ad sb 0)) f.ak.length cap) (.slice (some (Ad pb 0)) f.procs.length cr) (.slice ao f.out.length co) w (ed f k 4) (dN f k 4) e w'->P e w'):=fun e w' g=>by rw[hP];exact g
 rw[<- hP]
 obtain⟨ns,hns⟩:=ex f.ak.length
 obtain⟨nr,fw⟩:=ex f.procs.length
 obtain⟨no,hno⟩:=ex f.out.length
 obtain⟨np,fE⟩:=ex ((FM.ax f.ak k).aj.length)
 obtain⟨lv,hlv⟩:=ex ((FM.ax f.ak k).live)
 rw[<- hns] at m1 jc h4
 rw[<- fw] at m2 iB Le
 rw[<- hno] at m3
 rw[<- fE] at c2
 rw[<- hlv] at c0
 have iy:=ai hns
 have ja:=ai fw
 have jb:=ai hno
 have zx:=ai fE
 have Et:=ai hlv
 have rT:=ai ma
 have pQ:=ai hr1
 have Co:=ai hr2
 have O4:=ai hr3
 have O3:=ai hr4
 have O2:=ai uI
 have O1:=ai uH
 have OZ:=ai uG
 clear h A hlc hP hns fw hno fE hlv ma hr1 hr2 hr3 hr4 uI uH uG
 go_enter Tryz.func56,Tryz.ntmps56
 go_wp2_with fail
 have dH:=ai ((Below.refl w.heap.size w).alloc (Nat.le_refl _) (.cells #[I r0,I r1,I r2,I r3,I r4,I r5,I r6,I r7] 66))
 have zz:=ai (B.new w #[I r0,I r1,I r2,I r3,I r4,I r5,I r6,I r7] 66)
 obtain⟨WA,fH⟩:=ex (w.alloc (.cells #[I r0,I r1,I r2,I r3,I r4,I r5,I r6,I r7] 66))
 rw[<- fH] at dH zz ⊢
 obtain⟨xb,nA⟩:=ex w.heap.size
 rw[<- nA] at zz ⊢
 have tN:=ai nA
 have jn:=ai (HF.o.below dH.o)
 have Xy:w.heap.size<=WA.heap.size:=dH.o.size
 clear fH nA
 clear her hal
 have cB:Hid (Below WA.heap.size WA WA.drew):=(Below.refl _ _).drew
 have MW:sb<WA.heap.size:=by omega
 have Na:=(M.aA dH.o jQ).trans c1
 have cJ:Hid (∀V,Below WA.heap.size WA V->V.cell? (Ad sb (k*3+1))=some (.slice aa na ca)/\V.cell? (Ad xb 0)=some (I r0)/\V.cell? (Ad xb 1)=some (I r1)/\V.cell? (Ad xb 2)=some (I r2)):=fun V hV=>by
  have hx:=B.below zz.o hV (B.isLt zz.o)
  exact⟨(M.aA hV MW).trans Na,B.cell hx 0 rfl,B.cell hx 1 rfl,B.cell hx 2 rfl⟩
 have EM:Hid (Calls Tryz.prog 86 #[.slice aa na ca,I r0,I r1,I r2] WA.drew fun e w'=>∃r,e=.returned (.tuple #[r,I er])/\AW.Own WA.heap.size w' r al/\Below WA.heap.size WA w'):=by
  have ha:=(HA.o.aw.below dH.o).below cB.o
  refine(AW.C4 _ _ r0 r1 r2 WA.drew ha oI.o (by rw[rT.o];exact Tw.o 0 (by omega)) (by rw[pQ.o];exact Tw.o 1 (by omega))).mono ?_
  rintro e w' ⟨r,h1,h2,h3⟩
  rw[rT.o,pQ.o,Co.o,<- Cr.o] at h1
  rw[rT.o,pQ.o,Co.o,<- nE.o] at h2
  exact⟨r,h1,h2,cB.o.trans h3⟩
 refine wp_region_held_drew (S:=fun V=>Below WA.heap.size WA V) (by kernel_rfl) ?_ (fun hHeld=>?_)
 · exact cB.o
 refine GZ.htk 0 (by assumption) ?_ ?_ ?_
 rotate_left 1
 · intro V h
   obtain⟨k0,k1,k2,k3⟩:=cJ.o V h
   go_simp
   try with_reducible rfl
 refine GZ.htk 1 (by assumption) ?_ ?_ ?_
 rotate_left 1
 · intro V h
   obtain⟨k0,k1,k2,k3⟩:=cJ.o V h
   go_simp
   try with_reducible rfl
 refine GZ.htk 2 (by assumption) ?_ ?_ ?_
 rotate_left 1
 · intro V h
   obtain⟨k0,k1,k2,k3⟩:=cJ.o V h
   go_simp
   try with_reducible rfl
 refine GZ.htk 3 (by assumption) ?_ ?_ ?_
 rotate_left 1
 · intro V h
   obtain⟨k0,k1,k2,k3⟩:=cJ.o V h
   go_simp
   try with_reducible rfl
 refine GZ.htk 4 (by assumption) ?_ ?_ ?_
 rotate_left 1
 · intro V h
   obtain⟨k0,k1,k2,k3⟩:=cJ.o V h
   go_simp
   try with_reducible rfl
 refine GZ.htk 5 (by assumption) ?_ ?_ ?_
 rotate_left 1
 · intro V h
   obtain⟨k0,k1,k2,k3⟩:=cJ.o V h
   go_simp
   try with_reducible rfl
 refine GZ.htk 6 (by assumption) ?_ ?_ ?_
 rotate_left 1
 · intro V h
   obtain⟨k0,k1,k2,k3⟩:=cJ.o V h
   go_simp
   try with_reducible rfl
 refine GZ.htk 7 (by assumption) ?_ ?_ ?_
 rotate_left 1
 · intro V h
   obtain⟨k0,k1,k2,k3⟩:=cJ.o V h
   go_simp
   try with_reducible rfl
 refine GZ.htk 8 (by assumption) ?_ ?_ ?_
 rotate_left 1
 · intro V h
   obtain⟨k0,k1,k2,k3⟩:=cJ.o V h
   go_simp
   try with_reducible rfl
 refine GZ.htk 9 (by assumption) ?_ ?_ ?_
 rotate_left 1
 · intro V h
   obtain⟨k0,k1,k2,k3⟩:=cJ.o V h
   go_simp
   try with_reducible rfl
 refine wpAnyH_ready (rs:=[10]) (by kernel_rfl) (by simp) ?_
 refine AllReadyH.cons rfl (fun K hK=>?_) AllReadyH.nil
 go_simp;go_at_call 86;refine EM.o.mono ?_;rintro e w5 ⟨r,rfl,Iy,kV⟩;obtain⟨ae,ce,her,_,_⟩:=aJ (show w5.ownsRow _ _ 4 _ _ _ from Iy);subst her;obtain⟨ne,hne⟩:=ex al.length;rw[<- hne] at Iy ⊢;have Zn:=ai Iy;have gK:=ai kV;clear Iy kV hne;go_simp
 refine hK.out _ _ ?_ (fun hHeld=>?_)
 · try dsimp only
   exact gK.o
 clear hK K
 try simp only[Act.put,List.setIfInBounds_toArray,List.set_cons_zero,List.set_cons_succ]
 refine GZ.htk 11 (by assumption) ?_ ?_ ?_
 rotate_left 1
 · intro V h
   obtain⟨k0,k1,k2,k3⟩:=cJ.o V h
   go_simp
   try with_reducible rfl
 refine GZ.htk 12 (by assumption) ?_ ?_ ?_
 rotate_left 1
 · intro V h
   obtain⟨k0,k1,k2,k3⟩:=cJ.o V h
   go_simp
   try with_reducible rfl
 refine GZ.htk 13 (by assumption) ?_ ?_ ?_
 rotate_left 1
 · intro V h
   obtain⟨k0,k1,k2,k3⟩:=cJ.o V h
   go_simp
   try with_reducible rfl
 refine wpAnyH_ready (rs:=[14]) (by kernel_rfl) (by simp) ?_
 refine AllReadyH.cons rfl (fun K hK=>?_) AllReadyH.nil
 go_simp
 refine hK.out _ _ ?_ (fun hHeld=>?_)
 · try dsimp only
   exact gK.o
 clear hK K
 try simp only[Act.put,List.setIfInBounds_toArray,List.set_cons_zero,List.set_cons_succ]
 refine wpAnyH_ready (rs:=[15]) (by kernel_rfl) (by simp) ?_
 refine AllReadyH.cons rfl (fun K hK=>?_) AllReadyH.nil
 go_simp
 refine hK.out _ _ ?_ (fun hHeld=>?_)
 · try dsimp only
   exact gK.o
 clear hK K
 try simp only[Act.put,List.setIfInBounds_toArray,List.set_cons_zero,List.set_cons_succ]
 refine wpAnyH_done (by kernel_rfl) ?_ _
 by_cases hz:er=0
 · subst hz
   have hv:=ai (C3 (nt qo.o hk) Cr.o.symm)
   have O5:=ai (BB jn.o hk hk2 qo.o (gK.o) (Zn.o) (by rw[nE.o];exact C6 (nt qo.o hk) Cr.o.symm))
   go_wp2_with (go_at_call 87;refine O5.o.mono ?_;rintro e w6 ⟨rfl,L6,Nn,tK⟩;have VB:=ai Nn;have Ax:=ai tK;clear Nn tK)
   exact HP.o _ _ ⟨by rw[hv.out.1];rfl,_,_,_,by rw[hv.out.2,<- nE.o];exact VB.o,(Kp.aF dH.o).trans (Ax.o.mono (fun b _ e=>.inr (.inl (by subst e;rfl)))) (fun _ _ g=>g)⟩
 · have VR:(er==0)=false:=by rw[beq_eq_false_iff_ne];exact hz
   have hv:=ai (Fk (f:=f) (k:=k) (by rw[<- Cr.o];exact hz))
   go_wp2
   exact HP.o _ _ ⟨by rw[hv.out.1,<- Cr.o];rfl,_,_,_,by rw[hv.out.2];exact jn.o.below (gK.o),(Kp.aF dH.o).trans (Kp.aF (D:=fun _=>False) (gK.o)) (fun _ _ g=>g.elim)⟩
end GO
end Go.Proofs.YtkdigjpejnebkaaGreat
