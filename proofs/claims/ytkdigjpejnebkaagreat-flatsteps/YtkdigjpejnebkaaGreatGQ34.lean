import Derived.Test.YtkdigjpejnebkaaGreatGQ00
import Derived.Test.YtkdigjpejnebkaaGreatGQ32
import Derived.Test.YtkdigjpejnebkaaGreatGQ33
import Derived.Test.YtkdigjpejnebkaaGreatGQ06
set_option maxHeartbeats 20000000
set_option linter.unusedVariables false
set_option maxRecDepth 100000
set_option linter.unusedSimpArgs false
namespace Go.Proofs.YtkdigjpejnebkaaGreat
namespace GT
open Go.RowKit GK GH
open FW (ai aB)
theorem YJ:FW.mL nB:=⟨by unfold M.dD nB;decide,⟨by unfold M.bD nB;simp,fun k hk=>absurd hk (Nat.not_lt_zero _)⟩,by unfold M.bD nB;simp,by unfold M.bD nB;simp⟩
theorem UU {g:FM.Fl} (h:GG.l8 GM.qy (bb g)):FW.mL g:=by
 have h4:g.ak.length<=4:=h.mem.few.2
 have hl:=GO.Bf h
 have ho:g.out.length<=2000:=h.out
 have hs:0<=g.slots/\g.slots<=512:=h.mem.slots
 refine⟨⟨by omega,by omega⟩,⟨by unfold M.bD;omega,fun k hk=>?_⟩,by unfold M.bD;omega,by unfold M.bD;omega⟩
 have hr:FM.aU (FM.ax g.ak k)=true:=h.mem.each k hk
 have hlen:=GO.vU h k hk
 cases hv:(FM.ax g.ak k).live with
 | true =>
  have L:=GM.fX hr hv
  refine⟨GO.IP L.check,by unfold M.bD;omega,fun j hj=>⟨?_,?_⟩⟩
  · have:=GM.nP L.check (x:=(FM.aN (FM.ax g.ak k).aj j).page) (by
     rw[<- L.nums]
     unfold FM.numbers
     refine List.mem_map.2 ⟨_,?_,rfl⟩
     unfold FM.aN
     rw[List.getD_eq_getElem?_getD,List.getElem?_eq_getElem hj]
     exact List.getElem_mem hj)
    exact⟨by omega,by omega⟩
  · unfold M.bD
    rw[L.size j hj]
    decide
 | false =>
  unfold FM.aU at hr
  rw[hv] at hr
  simp only[Bool.false_eq_true,if_false,Bool.and_eq_true,decide_eq_true_eq] at hr
  have ea:(FM.ax g.ak k).aw=[]:=List.length_eq_zero_iff.1 hr.1
  have ep:(FM.ax g.ak k).aj.length=0:=by have:=hr.2;omega
  exact⟨by rw[ea];exact⟨fun i hi=>absurd hi (Nat.not_lt_zero _),by simp⟩,by rw[ep];unfold M.bD;omega,fun j hj=>by omega⟩
theorem LU (f:FM.Fl) (pick:Int):(GG.stepG GM.aQ (bb f) pick).1=FW.gw f.procs f.out.length pick:=by
 unfold GG.stepG FW.gw
 have e1:(bb f).ps=f.procs:=rfl
 have e2:(bb f).out=f.out:=rfl
 rw[e1,e2]
 by_cases d:0<=pick/\pick<(f.procs.length:Int)
 · rw[if_neg (fun g=>g d),if_pos d]
   by_cases s:(FM.au f.procs pick.toNat).st=1
   · rw[if_neg (fun g=>g s)]
     by_cases o:2000<=f.out.length
     · rw[if_pos o,if_pos ⟨s,o⟩]
     · have e3:(if (FM.au f.procs pick.toNat).st=1/\2000<=f.out.length then (2:Int) else 0)=0:=if_neg (fun g=>o g.2)
       rw[if_neg o,e3]
       dsimp only
       split <;> rfl
   · rw[if_pos s,if_neg (fun g=>s g.1)]
 · rw[if_pos d,if_neg d]
theorem E2 (f:FM.Fl) (pick:Int) (hp:pS f.procs):(¬FM.bV f=0/\ov f pick=(nB,FM.bV f))∨(FM.bV f=0/\¬FW.gw f.procs f.out.length pick=0/\ov f pick=(nB,FW.gw f.procs f.out.length pick))∨(FM.bV f=0/\FW.gw f.procs f.out.length pick=0/\ov f pick=(GR.dV f pick,0)/\GG.l8 GM.qy (bb f)/\GG.l8 GM.qy (bb (GR.dV f pick))/\∃k:Nat,pick=(k:Int)/\k<f.procs.length/\((FM.au f.procs k).st=1->f.out.length<2000)):=by
 unfold ov kX
 by_cases c:FM.bV f=0
 case neg=>rw[if_pos c];exact .inl ⟨c,rfl⟩
 rw[if_neg (fun g=>g c)]
 have hok:=Gt c hp
 have e:=LU f pick
 dsimp only
 rw[e]
 by_cases d:FW.gw f.procs f.out.length pick=0
 · rw[if_neg (fun g=>g d)]
   refine .inr (.inr ⟨c,d,rfl,hok,GG.step_ok GM.IK hok pick,?_⟩)
   unfold FW.gw at d
   by_cases a:0<=pick/\pick<(f.procs.length:Int)
   · rw[if_pos a] at d
     refine⟨pick.toNat,by omega,by omega,fun hs=>?_⟩
     by_cases o:2000<=f.out.length
     · rw[if_pos ⟨hs,o⟩] at d
       cases d
     · omega
   · rw[if_neg a] at d
     cases d
 · rw[if_pos d]
   exact .inr (.inl ⟨c,d,rfl⟩)
theorem JH (f:FM.Fl) (pick:Int) (az ar ao:Option Addr) (cs cr co:Nat) (w:World) (h:FW.fJ w f az ar ao) (hf:FW.mL f) (hp:pS f.procs)
  (px:∀V,Below w.heap.size w V->Calls Tryz.prog 13 #[.agg (FW.bC f az ar ao cs cr co)] V fun e w'=>e=.returned (I (FM.bV f))/\Below V.heap.size V w')
  (hbg:∀V,Calls Tryz.prog 10 #[] V fun e w'=>e=.returned (.bool true)/\Below V.heap.size V w') :
  Calls Tryz.prog 4 #[.agg (FW.bC f az ar ao cs cr co),I pick] w fun e w'=>e=.returned (.bool true)/\Below w.heap.size w w':=by
 have HST:=ai (fun V (hV:Below w.heap.size w V)=>sA f pick az ar ao cs cr co V (h.below hV) hf hp)
 have ZF:=ai px
 have PI:=ai hbg
 have rS:=ai (fun V (hV:Below w.heap.size w V)=>FW.yH f.procs f.out.length pick ar ao cr co V (h.below hV).procs (by have:=hf.procs;unfold M.bD at this;omega))
 have Hr:Hid ((¬FM.bV f=0/\ov f pick=(nB,FM.bV f))∨(FM.bV f=0/\¬FW.gw f.procs f.out.length pick=0/\ov f pick=(nB,FW.gw f.procs f.out.length pick))∨(FM.bV f=0/\FW.gw f.procs f.out.length pick=0/\(ov f pick).2=0/\FW.mL (ov f pick).1/\∀V,Below w.heap.size w V->Calls Tryz.prog 16 #[.agg (FW.bC f az ar ao cs cr co),I pick] V (GO.rQ V (ov f pick).1))):=by
  rcases E2 f pick hp with h1 | h1 | ⟨h1,h2,h3,h4,h5,k,rfl,h6,h7⟩
  · exact .inl h1
  · exact .inr (.inl h1)
  · refine .inr (.inr ⟨h1,h2,by rw[h3],by rw[h3];exact UU h5,fun V hV=>?_⟩)
    rw[h3]
    by_cases hs:(FM.au f.procs k).st=1
    · exact GO.JI f k az ar ao cs cr co V (h.below hV) h4 h6 hs (h7 hs)
    · exact GO.E3 f k az ar ao cs cr co V (h.below hV) h4 h6 hs
 obtain⟨R,hR⟩:=ex (ov f pick)
 rw[<- hR] at HST Hr
 obtain⟨C,hC⟩:=ex (FM.bV f)
 obtain⟨SE,hSE⟩:=ex (FW.gw f.procs f.out.length pick)
 rw[<- hC] at ZF Hr
 rw[<- hSE] at rS Hr
 unfold FW.bC at HST ZF Hr ⊢
 obtain⟨ns,hns⟩:=ex f.ak.length
 obtain⟨nr,fw⟩:=ex f.procs.length
 obtain⟨no,hno⟩:=ex f.out.length
 obtain⟨sl,hsl⟩:=ex f.slots
 rw[<- hns,<- fw,<- hno,<- hsl] at HST ZF Hr ⊢
 rw[<- fw,<- hno] at rS
 clear h hf hp px hbg hR hC hSE hns fw hno hsl
 obtain⟨g,er⟩:=R
 simp only at Hr
 have dH:=ai ((Below.refl w.heap.size w).alloc (Nat.le_refl _) (.cells #[I sl,.slice az ns cs,.slice ar nr cr,.slice ao no co] 30))
 have XA:=ai (B.new w #[I sl,.slice az ns cs,.slice ar nr cr,.slice ao no co] 30)
 go_enter Tryz.func4,Tryz.ntmps4
 go_wp2_with fail
 obtain⟨WA,fH⟩:=ex (w.alloc (.cells #[I sl,.slice az ns cs,.slice ar nr cr,.slice ao no co] 30))
 obtain⟨x,hx⟩:=ex w.heap.size
 rw[<- fH] at dH XA ⊢
 rw[<- hx] at XA ⊢
 have hxw:w.heap.size<=x:=by omega
 clear hx fH
 go_at_call 14
 refine(HST.o _ dH.o).mono ?_
 rintro e w1 ⟨a1,c1,a2,c2,a3,c3,rfl,hfl,hb1⟩
 have Hq:=ai hfl
 have bh:=ai (dH.o.trans (hb1.mono dH.o.size))
 have X1:=ai (B.below XA.o hb1 (B.isLt XA.o))
 have hxl:x<WA.heap.size:=B.isLt XA.o
 unfold FW.bC
 obtain⟨gs,hgs⟩:=ex g.slots
 obtain⟨n1,rZ⟩:=ex g.ak.length
 obtain⟨n2,l6⟩:=ex g.procs.length
 obtain⟨n3,Pj⟩:=ex g.out.length
 have Wj:Hid (FW.mL g->∀V b1 b2 b3 d1 d2 d3,FW.fJ V g a1 a2 a3->FW.fJ V g b1 b2 b3->Calls Tryz.prog 11 #[.agg #[I gs,.slice a1 n1 c1,.slice a2 n2 c2,.slice a3 n3 c3],.agg #[I gs,.slice b1 n1 d1,.slice b2 n2 d2,.slice b3 n3 d3]] V fun e w'=>e=.returned (.bool true)/\Below V.heap.size V w'):=fun hg V b1 b2 b3 d1 d2 d3 h1 h2=>by
  have:=FW.yL g a1 a2 a3 b1 b2 b3 c1 c2 c3 d1 d2 d3 V h1 h2 hg
  unfold FW.bC at this
  rw[<- hgs,<- rZ,<- l6,<- Pj] at this
  exact this
 dsimp only
 rw[<- hgs,<- rZ,<- l6,<- Pj]
 have Vv:=ai hgs
 have Es:=ai rZ
 have yx:=ai l6
 have Jh:=ai Pj
 obtain⟨x0,x1,x2,x3⟩:=B.c4 X1.o
 have hw1:x<w1.heap.size:=B.isLt X1.o
 have hxn:¬x=w1.heap.size:=by omega
 have LA:=ai (bh.o.alloc bh.o.size (.cells #[I gs,.slice a1 n1 c1,.slice a2 n2 c2,.slice a3 n3 c3] 30))
 have NN:=ai (B.new w1 #[I gs,.slice a1 n1 c1,.slice a2 n2 c2,.slice a3 n3 c3] 30)
 have CD:=ai ((Below.refl w1.heap.size w1).alloc (Nat.le_refl _) (.cells #[I gs,.slice a1 n1 c1,.slice a2 n2 c2,.slice a3 n3 c3] 30))
 clear hfl hb1 HST dH XA hgs rZ l6 Pj
 go_wp2_with fail
 go_at_call 13
 refine(ZF.o _ LA.o).mono ?_
 rintro e w2 ⟨rfl,hb2⟩
 have bY:=ai (LA.o.trans (hb2.mono LA.o.size))
 have iw:=ai (CD.o.trans (hb2.mono CD.o.size))
 have N2:=ai (B.below NN.o hb2 (B.isLt NN.o))
 have X2:=ai (B.below X1.o iw.o (B.isLt X1.o))
 obtain⟨nb,hnb⟩:=ex w1.heap.size
 rw[<- hnb] at N2
 rw[<- hnb]
 have ag7:¬x=nb:=by omega
 have ahu:w.heap.size<=nb:=by have:=bh.o.size;omega
 have hnl:nb<w2.heap.size:=B.isLt N2.o
 obtain⟨y0,y1,y2,y3⟩:=B.c4 X2.o
 obtain⟨m0,m1,m2,m3⟩:=B.c4 N2.o
 have hx2:x<w2.heap.size:=B.isLt X2.o
 have nD:Hid (∀V,Below w2.heap.size w2 V->FW.fJ V g a1 a2 a3):=fun V hV=>Hq.o V (Kp.aF (iw.o.trans (hV.mono iw.o.size)))
 have VD:=ai (bY.o.alloc bY.o.size (.cells #[I 0,Nl,Nl,Nl] 30))
 have NZ:=ai (B.alloc N2.o (.cells #[I 0,Nl,Nl,Nl] 30))
 have XZ:=ai (B.alloc X2.o (.cells #[I 0,Nl,Nl,Nl] 30))
 have ZZ:=ai (B.new w2 #[I 0,Nl,Nl,Nl] 30)
 have K0:=ai ((Below.refl w2.heap.size w2).alloc (Nat.le_refl _) (.cells #[I 0,Nl,Nl,Nl] 30))
 clear hb2 LA CD NN x0 x1 x2 x3 ZF hnb hw1 hxn X1 bh
 rcases Hr.o with⟨hc,hr⟩ | ⟨hc,hs,hr⟩ | ⟨hc,hs,hr,hft,vW⟩
 · injection hr with hg he
   have Gl:(C==0)=false:=by rw[beq_eq_false_iff_ne];exact hc
   subst he
   have OB:Hid (∀V,Below w2.heap.size w2 V->Calls Tryz.prog 11 #[.agg #[I gs,.slice a1 n1 c1,.slice a2 n2 c2,.slice a3 n3 c3],.agg #[I 0,Nl,Nl,Nl]] V fun e w'=>e=.returned (.bool true)/\Below V.heap.size V w'):=fun V hV=>by
    have:=Wj.o (by rw[hg];exact YJ) V none none none 0 0 0 (nD.o V hV) (by rw[hg];exact nV V)
    rw[show gs=0 by rw[Vv.o,hg];rfl,show n1=0 by rw[Es.o,hg];rfl,show n2=0 by rw[yx.o,hg];rfl,show n3=0 by rw[Jh.o,hg];rfl] at this ⊢
    exact this
   clear Hr Wj hg
   go_wp2_with (first
    | (go_at_call 15;refine(rS.o _ bY.o).mono ?_;rintro e w3 ⟨rfl,rfl⟩)
    | (go_at_call 10;refine(PI.o _).mono ?_;rintro e w4 ⟨rfl,hb4⟩;have lZ:=ai (VD.o.trans (hb4.mono VD.o.size));have Ay:=ai (K0.o.trans (hb4.mono K0.o.size));have N4:=B.below NZ.o hb4 (B.isLt NZ.o);have V4:=B.below ZZ.o hb4 (B.isLt ZZ.o);obtain⟨q0,q1,q2,q3⟩:=B.c4 N4;obtain⟨v0,v1,v2,v3⟩:=B.c4 V4;clear hb4 N4 V4)
    | (go_at_call 11;refine(OB.o _ Ay.o).mono ?_;rintro e w5 ⟨rfl,kV⟩;have gK:=ai (lZ.o.trans (kV.mono lZ.o.size));clear kV))
   go_ret
   exact⟨rfl,gK.o⟩
 · injection hr with hg he
   subst hc
   have hsi:(SE==0)=false:=by rw[beq_eq_false_iff_ne];exact hs
   subst he
   have OB:Hid (∀V,Below w2.heap.size w2 V->Calls Tryz.prog 11 #[.agg #[I gs,.slice a1 n1 c1,.slice a2 n2 c2,.slice a3 n3 c3],.agg #[I 0,Nl,Nl,Nl]] V fun e w'=>e=.returned (.bool true)/\Below V.heap.size V w'):=fun V hV=>by
    have:=Wj.o (by rw[hg];exact YJ) V none none none 0 0 0 (nD.o V hV) (by rw[hg];exact nV V)
    rw[show gs=0 by rw[Vv.o,hg];rfl,show n1=0 by rw[Es.o,hg];rfl,show n2=0 by rw[yx.o,hg];rfl,show n3=0 by rw[Jh.o,hg];rfl] at this ⊢
    exact this
   clear Hr Wj hg
   go_wp2_with (first
    | (go_at_call 15;refine(rS.o _ bY.o).mono ?_;rintro e w3 ⟨rfl,rfl⟩)
    | (go_at_call 10;refine(PI.o _).mono ?_;rintro e w4 ⟨rfl,hb4⟩;have lZ:=ai (VD.o.trans (hb4.mono VD.o.size));have Ay:=ai (K0.o.trans (hb4.mono K0.o.size));have N4:=B.below NZ.o hb4 (B.isLt NZ.o);have V4:=B.below ZZ.o hb4 (B.isLt ZZ.o);obtain⟨q0,q1,q2,q3⟩:=B.c4 N4;obtain⟨v0,v1,v2,v3⟩:=B.c4 V4;clear hb4 N4 V4)
    | (go_at_call 11;refine(OB.o _ Ay.o).mono ?_;rintro e w5 ⟨rfl,kV⟩;have gK:=ai (lZ.o.trans (kV.mono lZ.o.size));clear kV))
   go_ret
   exact⟨rfl,gK.o⟩
 · subst hc hs
   have hee:er=0:=hr
   subst hee
   have oI:=ai hft
   have HFS:=ai vW
   clear Hr hr hft vW
   go_wp2_with (first
    | (go_at_call 15;refine(rS.o _ bY.o).mono ?_;rintro e w3 ⟨rfl,rfl⟩)
    | (go_at_call 16;refine(HFS.o _ VD.o).mono ?_;rintro e w4 ⟨b1,d1,b2,d2,b3,d3,rfl,Yi,hb4⟩;unfold FW.bC;rw[<- Vv.o,<- Es.o,<- yx.o,<- Jh.o];have Zy:=ai Yi;have lZ:=ai (VD.o.trans (hb4.mono VD.o.size));have Ay:=ai (K0.o.trans (hb4.mono K0.o.size));have N4:=ai (B.below NZ.o hb4 (B.isLt NZ.o));have V4:=ai (B.below ZZ.o hb4 (B.isLt ZZ.o));obtain⟨v0,v1,v2,v3⟩:=B.c4 V4.o;have vf:∀j,w4.frozen? (Ad w2.heap.size j)=false:=fun j=>B.free V4.o j;clear Yi hb4)
    | fail)
   have zw:=ai (GO.kp4 w4 w2.heap.size (I gs) (.slice b1 n1 d1) (.slice b2 n2 d2) (.slice b3 n3 d3))
   have N5:=ai (zw.o.keep N4.o (by omega))
   have V5:=ai (B.set (B.set (B.set (B.set V4.o 0 (I gs)) 1 (.slice b1 n1 d1)) 2 (.slice b2 n2 d2)) 3 (.slice b3 n3 d3))
   have gK:=ai (Kp.below lZ.o zw.o lZ.o.size (fun b e=>by rw[e];exact bY.o.size))
   have Tv:=ai (Kp.below Ay.o zw.o Ay.o.size (fun b e=>by rw[e];exact Nat.le_refl _))
   obtain⟨Z,hZ⟩:=ex ((((w4.setCell (Ad w2.heap.size 0) (I gs)).setCell (Ad w2.heap.size 1) (.slice b1 n1 d1)).setCell (Ad w2.heap.size 2) (.slice b2 n2 d2)).setCell (Ad w2.heap.size 3) (.slice b3 n3 d3))
   rw[<- hZ] at zw N5 V5 gK Tv ⊢
   have OB:Hid (∀V,Below Z.heap.size Z V->Calls Tryz.prog 11 #[.agg #[I gs,.slice a1 n1 c1,.slice a2 n2 c2,.slice a3 n3 c3],.agg #[I gs,.slice b1 n1 d1,.slice b2 n2 d2,.slice b3 n3 d3]] V fun e w'=>e=.returned (.bool true)/\Below V.heap.size V w'):=fun V hV=>by
    refine Wj.o oI.o V b1 b2 b3 d1 d2 d3 (nD.o V (Tv.o.trans (hV.mono Tv.o.size))) (Zy.o V ?_)
    exact(zw.o.mono (fun b _ e=>by rw[e];simp)).trans (Kp.aF hV) (fun _ _ g=>g)
   clear hZ v0 v1 v2 v3 vf Wj Zy nD HFS oI
   go_wp2_with (first
    | (go_at_call 10;refine(PI.o _).mono ?_;rintro e w6 ⟨rfl,Cy⟩;have wa:=ai (gK.o.trans (Cy.mono gK.o.size));have Ax:=ai Cy;have N6:=B.below N5.o Cy (B.isLt N5.o);have V6:=B.below V5.o Cy (B.isLt V5.o);obtain⟨q0,q1,q2,q3⟩:=B.c4 N6;obtain⟨v0,v1,v2,v3⟩:=B.c4 V6;clear Cy N6 V6)
    | (go_at_call 11;refine(OB.o _ Ax.o).mono ?_;rintro e w7 ⟨rfl,tL⟩;have iE:=ai (wa.o.trans (tL.mono wa.o.size));clear tL))
   go_ret
   exact⟨rfl,iE.o⟩
end GT
namespace FW
open Go.RowKit
theorem yF (o:List FM.Wd) (n:Nat) (ao:Option Addr) (co:Nat) (w:World) (h:yq w ao o) (hno:o.length<=140737488351232) (hn:n<=140737488351232) :
  Calls Tryz.prog 43 #[.slice ao o.length co,I (n:Int)] w fun e w'=>e=.returned (.bool (FM.dh o n o.length))/\Below w.heap.size w w':=by
 have HO:=ai h
 have EJ:Hid (∀k,k<=o.length->FM.dh o n k=false->FM.dh o n o.length=false):=fun k hk e=>FM.oO e _ hk
 have Th:=ai (fun x V=>AW.iF x 0 ((n:Int)-1) V)
 obtain⟨A,hA⟩:=ex (FM.dh o n o.length)
 rw[<- hA] at EJ ⊢
 have HA:=ai hA
 clear h hA
 go_enter Tryz.func43,Tryz.ntmps43
 go_wp2
 go_loopw [5] (fun iv wr=>∃j:Nat,j<=o.length/\iv=I (j:Int)/\FM.dh o n j=true/\Below w.heap.size w wr) (fun iv _=>o.length-(intOf iv).toNat)
 case atStart=>exact⟨0,by omega,rfl,rfl,Below.refl _ _⟩
 case round =>
  obtain⟨j,hj,rfl,hall,hb⟩:=hrel
  have HB:=ai hb
  have VL:=ai hall
  clear hall
  by_cases hlt:j<o.length
  · obtain⟨b,off,hao,hbl,bQ⟩:=(HO.o.below hb) (by omega)
    subst hao
    obtain⟨c0,c1⟩:=bQ j hlt
    have Tg:Hid (FM.dh o n (j+1)=decide (0<=(FM.lC o j).proc/\(FM.lC o j).proc<=(n:Int)-1)):=by
     show(FM.dh o n j&&FM.wj (FM.lC o j) n)=_
     rw[VL.o,Bool.true_and]
     unfold FM.wj
     rw[decide_eq_decide]
     omega
    have Hf:=ai (EJ.o (j+1) (by omega))
    have RX:=ai (Th.o (FM.lC o j).proc)
    obtain⟨wp,hq⟩:∃q,q=(FM.lC o j).proc:=⟨_,rfl⟩
    rw[<- hq] at Tg c0 RX
    obtain⟨T,hT⟩:=ex (decide (0<=wp/\wp<=(n:Int)-1))
    rw[<- hT] at Tg RX
    clear hq hT bQ hb VL c1
    cases T with
    | false =>
     have yx:=ai (Hf.o Tg.o)
     go_wp2_with (go_at_call 27;refine(RX.o _).mono ?_;rintro e w1 ⟨rfl,rfl⟩)
     go_ret
     exact⟨aY yx.o.symm,HB.o⟩
    | true =>
     go_wp2_with (go_at_call 27;refine(RX.o _).mono ?_;rintro e w1 ⟨rfl,rfl⟩)
     go_roundw
     case rel=>exact⟨j+1,by omega,by go_num,Tg.o,HB.o⟩
     case measure=>simp[intOf];omega
  · obtain rfl:j=o.length:=by omega
    clear hb
    have fL:Hid (A=true):=HA.o.trans VL.o
    go_wp2
    go_ret
    exact⟨aY fL.o.symm,HB.o⟩
end FW
end Go.Proofs.YtkdigjpejnebkaaGreat
