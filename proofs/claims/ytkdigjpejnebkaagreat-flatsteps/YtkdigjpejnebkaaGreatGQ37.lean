import Derived.Test.YtkdigjpejnebkaaGreatGQ00
import Derived.Test.YtkdigjpejnebkaaGreatGQ14
import Derived.Test.YtkdigjpejnebkaaGreatGQ36
set_option maxHeartbeats 20000000
set_option linter.unusedVariables false
set_option maxRecDepth 100000
set_option linter.unusedSimpArgs false
namespace Go.Proofs.YtkdigjpejnebkaaGreat
namespace W
open Go.RowKit
theorem Wx (nm:ByteArray) (an ag ay ar:Option Addr) (cn gl cg cy cr:Nat) (en:Int) (w:World):Calls Tryz.prog 136 #[.agg #[.string nm,.slice an 0 cn,.slice ag gl cg,.slice ay 0 cy,.slice ar 0 cr,I en]] w fun e w'=>e=.returned (.bool true)/\Below w.heap.size w w':=by
 have HB:=ai ((Below.refl w.heap.size w).alloc (Nat.le_refl _) (.cells #[.string nm,.slice an 0 cn,.slice ag gl cg,.slice ay 0 cy,.slice ar 0 cr,I en] 135))
 go_enter Tryz.func136,Tryz.ntmps136
 go_wp2
 go_loopw [10] (fun iv wr=>iv=I 0/\Below w.heap.size w wr) (fun _ _=>0)
 case atStart=>exact⟨rfl,HB.o⟩
 case round =>
  obtain⟨rfl,hb⟩:=hrel
  have bY:=ai hb
  clear hb
  go_wp2
  go_ret
  exact⟨rfl,bY.o⟩
theorem WC (nm:ByteArray) (an ag ay ar:Option Addr) (cn gl cg cy cr:Nat) (en:Int) (w:World):Calls Tryz.prog 137 #[.agg #[.string nm,.slice an 0 cn,.slice ag gl cg,.slice ay 0 cy,.slice ar 0 cr,I en]] w fun e w'=>e=.returned (.bool true)/\Below w.heap.size w w':=by
 have HB:=ai ((Below.refl w.heap.size w).alloc (Nat.le_refl _) (.cells #[.string nm,.slice an 0 cn,.slice ag gl cg,.slice ay 0 cy,.slice ar 0 cr,I en] 135))
 go_enter Tryz.func137,Tryz.ntmps137
 go_wp2
 go_loopw [11] (fun iv wr=>iv=I 0/\Below w.heap.size w wr) (fun _ _=>0)
 case atStart=>exact⟨rfl,HB.o⟩
 case round =>
  obtain⟨rfl,hb⟩:=hrel
  have bY:=ai hb
  clear hb
  go_wp2
  go_ret
  exact⟨rfl,bY.o⟩
theorem JE (ay:Option Addr) (cy:Nat) (w:World):Calls Tryz.prog 135 #[.slice ay 0 cy] w fun e w'=>e=.returned Nl/\Below w.heap.size w w':=by
 go_enter Tryz.func135,Tryz.ntmps135
 go_wp2
 go_loopw [3,8] (fun sv iv wr=>sv=Nl/\iv=I 0/\Below w.heap.size w wr) (fun _ _ _=>0)
 case atStart=>exact⟨rfl,rfl,Below.refl _ _⟩
 case round =>
  obtain⟨rfl,rfl,hb⟩:=hrel
  have bY:=ai hb
  clear hb
  go_wp2
  go_ret
  exact⟨rfl,bY.o⟩
theorem T5 (nm:ByteArray) (an ag ay ar:Option Addr) (cn gl cg cy cr:Nat) (en:Int) (w:World) (hn:∀V,Calls Tryz.prog 149 #[.string nm] V fun e w'=>e=.returned (.bool true)/\Below V.heap.size V w'):Calls Tryz.prog 130 #[.agg #[.string nm,.slice an 0 cn,.slice ag gl cg,.slice ay 0 cy,.slice ar 0 cr,I en]] w fun e w'=>e=.returned (.bool true)/\Below w.heap.size w w':=by
 have HN:=ai hn
 clear hn
 have HB:=ai ((Below.refl w.heap.size w).alloc (Nat.le_refl _) (.cells #[.string nm,.slice an 0 cn,.slice ag gl cg,.slice ay 0 cy,.slice ar 0 cr,I en] 135))
 have X0:=ai (B.new w #[.string nm,.slice an 0 cn,.slice ag gl cg,.slice ay 0 cy,.slice ar 0 cr,I en] 135)
 go_enter Tryz.func130,Tryz.ntmps130
 go_wp2_with (go_at_call 149;refine(HN.o _).mono ?_;rintro e w1 ⟨rfl,hb1⟩;have bh:=ai (HB.o.trans (hb1.mono HB.o.size));have X1:=ai (B.below X0.o hb1 (B.isLt X0.o));have x1:w1.cell? (Ad w.heap.size 1)=some (.slice an 0 cn):=B.cell X1.o 1 rfl;clear hb1)
 go_loopw [16] (fun iv wr=>iv=I 0/\wr.heap[w.heap.size]?=some (.cells #[.string nm,.slice an 0 cn,.slice ag gl cg,.slice ay 0 cy,.slice ar 0 cr,I en] 135 (0,0))/\Below w.heap.size w wr) (fun _ _=>0)
 case atStart=>exact⟨rfl,X1.o,bh.o⟩
 case round =>
  obtain⟨rfl,hx,hb⟩:=hrel
  have HX:=ai hx
  have bY:=ai hb
  have y3:wr.cell? (Ad w.heap.size 3)=some (.slice ay 0 cy):=B.cell hx 3 rfl
  clear hb hx bh X1 x1
  go_wp2
  clear y3
  go_loopw [27] (fun iv wi=>iv=I 0/\wi.heap[w.heap.size]?=some (.cells #[.string nm,.slice an 0 cn,.slice ag gl cg,.slice ay 0 cy,.slice ar 0 cr,I en] 135 (0,0))/\Below w.heap.size w wi) (fun _ _=>0)
  case atStart=>exact⟨rfl,HX.o,bY.o⟩
  case round =>
   clear HX bY
   obtain⟨rfl,hx,hb⟩:=hrel
   have HX:=ai hx
   have fK:=ai hb
   have y4:wr.cell? (Ad w.heap.size 4)=some (.slice ar 0 cr):=B.cell hx 4 rfl
   clear hb hx
   go_wp2
   clear y4
   go_loopw [39] (fun iv wi=>iv=I 0/\Below w.heap.size w wi) (fun _ _=>0)
   case atStart=>exact⟨rfl,fK.o⟩
   case round =>
    obtain⟨rfl,hb⟩:=hrel
    have lZ:=ai hb
    clear hb
    go_wp2
    go_ret
    exact⟨rfl,lZ.o⟩
theorem U3 (nm:ByteArray) (gs:List M.Sg) (en:Int) (an ag ay ar:Option Addr) (cn cg cy cr:Nat) (w:World) (h:M.mJ w ⟨an,cn,ag,cg,ay,cy,ar,cr⟩ ⟨nm,[],gs,[],[],en⟩) (hf:M.Fit ⟨nm,[],gs,[],[],en⟩) (h1:M.oC nm=true) (h2:M.qh ⟨nm,[],gs,[],[],en⟩=true) (h3:gs.all M.fC=true) (h4:M.uq gs=true) (h5:M.uh ⟨nm,[],gs,[],[],en⟩=true) :
  Calls Tryz.prog 115 #[.agg #[.string nm,.slice an 0 cn,.slice ag gs.length cg,.slice ay 0 cy,.slice ar 0 cr,I en]] w fun e w'=>e=.returned (I 0)/\Below w.heap.size w w':=by
 have nC:Hid (∀V,Calls Tryz.prog 149 #[.string nm] V fun e w'=>e=.returned (.bool true)/\Below V.heap.size V w'):=fun V=>(FX nm V hf.name).mono fun e w' ⟨e1,e2⟩=>⟨by rw[e1,h1],by rw[<- e2];exact Below.refl _ _⟩
 have EK:=ai (fun V=>T5 nm an ag ay ar cn gs.length cg cy cr en V nC.o)
 have ER:Hid (∀V,Calls Tryz.prog 131 #[.agg #[.string nm,.slice an 0 cn,.slice ag gs.length cg,.slice ay 0 cy,.slice ar 0 cr,I en]] V fun e w'=>e=.returned (.bool true)/\Below V.heap.size V w'):=fun V=>(vB ⟨nm,[],gs,[],[],en⟩ ⟨an,cn,ag,cg,ay,cy,ar,cr⟩ V hf).mono fun e w' ⟨e1,e2⟩=>⟨by rw[e1,h2],e2⟩
 have R3:Hid (∀V,Below w.heap.size w V->Calls Tryz.prog 132 #[.slice ag gs.length cg] V fun e w'=>e=.returned (.bool true)/\Below V.heap.size V w'):=fun V hV=>(vA gs ag cg V (h.below hV).cX hf.cX hf.seg).mono fun e w' ⟨e1,e2⟩=>⟨by rw[e1,h3],e2⟩
 have Px:Hid (∀V,Below w.heap.size w V->Calls Tryz.prog 133 #[.slice ag gs.length cg] V fun e w'=>e=.returned (.bool false)/\Below V.heap.size V w'):=fun V hV=>(Da gs ag cg V (h.below hV).cX hf.cX h3).mono fun e w' ⟨e1,e2⟩=>⟨by rw[e1,h4];rfl,e2⟩
 have HTW:Hid (∀ao c V,Calls Tryz.prog 134 #[.slice ao 0 c] V fun e w'=>e=.returned (.bool false)/\Below V.heap.size V w'):=fun ao c V=>(JC [] ao c V (fun h=>absurd h (Nat.not_lt_zero _)) (Nat.zero_le _) (fun k hk=>absurd hk (Nat.not_lt_zero _))).mono fun e w' ⟨e1,e2⟩=>⟨by rw[e1];rfl,e2⟩
 have HSN:=ai (fun V=>JE ay cy V)
 have Jd:=ai (fun V=>Wx nm an ag ay ar cn gs.length cg cy cr en V)
 have HRL:=ai (fun V=>WC nm an ag ay ar cn gs.length cg cy cr en V)
 have qq:Hid (∀V,Below w.heap.size w V->Calls Tryz.prog 138 #[.agg #[.string nm,.slice an 0 cn,.slice ag gs.length cg,.slice ay 0 cy,.slice ar 0 cr,I en]] V fun e w'=>e=.returned (.bool true)/\Below V.heap.size V w'):=fun V hV=>(vI ⟨nm,[],gs,[],[],en⟩ ⟨an,cn,ag,cg,ay,cy,ar,cr⟩ V (h.below hV) hf h3).mono fun e w' ⟨e1,e2⟩=>⟨by rw[e1,h5],e2⟩
 obtain⟨gl,hgl⟩:=ex gs.length
 rw[<- hgl] at EK ER R3 Px Jd HRL qq ⊢
 clear h hf h1 h2 h3 h4 h5 hgl nC
 have HB:=ai ((Below.refl w.heap.size w).alloc (Nat.le_refl _) (.cells #[.string nm,.slice an 0 cn,.slice ag gl cg,.slice ay 0 cy,.slice ar 0 cr,I en] 135))
 have X:=ai (B.new w #[.string nm,.slice an 0 cn,.slice ag gl cg,.slice ay 0 cy,.slice ar 0 cr,I en] 135)
 go_enter Tryz.func115,Tryz.ntmps115
 go_wp2_with (first
  | (go_at_call 130;refine(EK.o _).mono ?_;rintro e w1 ⟨rfl,hb⟩;have bh:=ai (HB.o.trans (hb.mono HB.o.size));have X1:=ai (B.below X.o hb (B.isLt X.o));clear hb;have k10:w1.cell? (Ad w.heap.size 0)=some (.string nm):=B.cell X1.o 0 rfl;have k11:w1.cell? (Ad w.heap.size 1)=some (.slice an 0 cn):=B.cell X1.o 1 rfl;have k12:w1.cell? (Ad w.heap.size 2)=some (.slice ag gl cg):=B.cell X1.o 2 rfl;have k13:w1.cell? (Ad w.heap.size 3)=some (.slice ay 0 cy):=B.cell X1.o 3 rfl;have k14:w1.cell? (Ad w.heap.size 4)=some (.slice ar 0 cr):=B.cell X1.o 4 rfl;have k15:w1.cell? (Ad w.heap.size 5)=some (I en):=B.cell X1.o 5 rfl)
  | (go_at_call 131;refine(ER.o _).mono ?_;rintro e w2 ⟨rfl,hb⟩;have bY:=ai (bh.o.trans (hb.mono bh.o.size));have X2:=ai (B.below X1.o hb (B.isLt X1.o));clear hb;have k22:w2.cell? (Ad w.heap.size 2)=some (.slice ag gl cg):=B.cell X2.o 2 rfl)
  | (go_at_call 132;refine(R3.o _ bY.o).mono ?_;rintro e w3 ⟨rfl,hb⟩;have fK:=ai (bY.o.trans (hb.mono bY.o.size));have X3:=ai (B.below X2.o hb (B.isLt X2.o));clear hb;have k32:w3.cell? (Ad w.heap.size 2)=some (.slice ag gl cg):=B.cell X3.o 2 rfl)
  | (go_at_call 133;refine(Px.o _ fK.o).mono ?_;rintro e w4 ⟨rfl,hb⟩;have lZ:=ai (fK.o.trans (hb.mono fK.o.size));have X4:=ai (B.below X3.o hb (B.isLt X3.o));clear hb;have k41:w4.cell? (Ad w.heap.size 1)=some (.slice an 0 cn):=B.cell X4.o 1 rfl)
  | (have _:=X6;go_at_call 134;refine(HTW.o _ _ _).mono ?_;rintro e w7 ⟨rfl,hb⟩;have iE:=ai (wa.o.trans (hb.mono wa.o.size));have X7:=ai (B.below X6.o hb (B.isLt X6.o));clear hb;have k70:w7.cell? (Ad w.heap.size 0)=some (.string nm):=B.cell X7.o 0 rfl;have k71:w7.cell? (Ad w.heap.size 1)=some (.slice an 0 cn):=B.cell X7.o 1 rfl;have k72:w7.cell? (Ad w.heap.size 2)=some (.slice ag gl cg):=B.cell X7.o 2 rfl;have k73:w7.cell? (Ad w.heap.size 3)=some (.slice ay 0 cy):=B.cell X7.o 3 rfl;have k74:w7.cell? (Ad w.heap.size 4)=some (.slice ar 0 cr):=B.cell X7.o 4 rfl;have k75:w7.cell? (Ad w.heap.size 5)=some (I en):=B.cell X7.o 5 rfl)
  | (go_at_call 134;refine(HTW.o _ _ _).mono ?_;rintro e w5 ⟨rfl,hb⟩;have gK:=ai (lZ.o.trans (hb.mono lZ.o.size));have X5:=ai (B.below X4.o hb (B.isLt X4.o));clear hb;have k53:w5.cell? (Ad w.heap.size 3)=some (.slice ay 0 cy):=B.cell X5.o 3 rfl)
  | (go_at_call 135;refine(HSN.o _).mono ?_;rintro e w6 ⟨rfl,hb⟩;have wa:=ai (gK.o.trans (hb.mono gK.o.size));have X6:=ai (B.below X5.o hb (B.isLt X5.o));clear hb)
  | (go_at_call 136;refine(Jd.o _).mono ?_;rintro e w8 ⟨rfl,hb⟩;have rV:=ai (iE.o.trans (hb.mono iE.o.size));have X8:=ai (B.below X7.o hb (B.isLt X7.o));clear hb;have k80:w8.cell? (Ad w.heap.size 0)=some (.string nm):=B.cell X8.o 0 rfl;have k81:w8.cell? (Ad w.heap.size 1)=some (.slice an 0 cn):=B.cell X8.o 1 rfl;have k82:w8.cell? (Ad w.heap.size 2)=some (.slice ag gl cg):=B.cell X8.o 2 rfl;have k83:w8.cell? (Ad w.heap.size 3)=some (.slice ay 0 cy):=B.cell X8.o 3 rfl;have k84:w8.cell? (Ad w.heap.size 4)=some (.slice ar 0 cr):=B.cell X8.o 4 rfl;have k85:w8.cell? (Ad w.heap.size 5)=some (I en):=B.cell X8.o 5 rfl)
  | (go_at_call 137;refine(HRL.o _).mono ?_;rintro e w9 ⟨rfl,hb⟩;have HB9:=ai (rV.o.trans (hb.mono rV.o.size));have X9:=ai (B.below X8.o hb (B.isLt X8.o));clear hb;have k90:w9.cell? (Ad w.heap.size 0)=some (.string nm):=B.cell X9.o 0 rfl;have k91:w9.cell? (Ad w.heap.size 1)=some (.slice an 0 cn):=B.cell X9.o 1 rfl;have k92:w9.cell? (Ad w.heap.size 2)=some (.slice ag gl cg):=B.cell X9.o 2 rfl;have k93:w9.cell? (Ad w.heap.size 3)=some (.slice ay 0 cy):=B.cell X9.o 3 rfl;have k94:w9.cell? (Ad w.heap.size 4)=some (.slice ar 0 cr):=B.cell X9.o 4 rfl;have k95:w9.cell? (Ad w.heap.size 5)=some (I en):=B.cell X9.o 5 rfl)
  | (go_at_call 138;refine(qq.o _ HB9.o).mono ?_;rintro e Lb ⟨rfl,hb⟩;have ad0:=ai (HB9.o.trans (hb.mono HB9.o.size));have X10:=ai (B.below X9.o hb (B.isLt X9.o));clear hb))
 go_ret
 exact⟨rfl,ad0.o⟩
end W
namespace LW
open Go.RowKit Go.WideMaps Go.Maps
open W (ai)
theorem Ed (l:List LM.Li) (ao:Option Addr) (cap:Nat) (w:World) (h:LM.He w ao l) (hf:LM.ZN l) (px:∀k,k<l.length->∀V,Below w.heap.size w V->Calls Tryz.prog 115 #[.agg (M.eY (LM.cA l k).a (LM.cA l k).i)] V fun e w'=>e=.returned (I (M.jm (LM.cA l k).i))/\Below V.heap.size V w'):Calls Tryz.prog 99 #[.slice ao l.length cap] w (ac4 l w):=by
 have HH:=ai h
 have HF:=ai hf
 have Ht:=ai px
 have hn:l.length<=140737488351232:=hf.1
 clear h hf px
 have hmm:=@run_makeMap Tryz.prog
 go_enter Tryz.func99,Tryz.ntmps99
 go_wp2
 go_loopw [12] (fun i wr=>∃k:Nat,k<=l.length/\i=I k/\LM.kM l k=0/\Below w.heap.size w wr) (fun i _=>l.length-(intOf i).toNat)
 case atStart=>exact⟨0,by omega,rfl,rfl,Below.refl _ _⟩
 case round =>
  obtain⟨k,hk,rfl,hz,hb⟩:=hrel
  have HZ:=ai hz
  have kI:=ai hb
  clear hz
  by_cases hlt:k<l.length
  · obtain⟨b,off,hao,hbl,bQ⟩:=(HH.o.below hb) (by omega)
    subst hao
    obtain⟨⟨c0,c1,c2,c3,c4,c5⟩,hi⟩:=bQ k hlt
    have sX:=HF.o.2 k hlt
    have cJ:=ai (Ht.o k hlt)
    have HE:Hid (LM.kM l (k+1)=M.jm (LM.cA l k).i):=by
     show _=_
     simp only[LM.kM]
     rw[if_pos HZ.o]
    have ES:Hid (M.jm (LM.cA l k).i≠0->LM.lU l=M.jm (LM.cA l k).i):=fun g=>by
     have e1:LM.kM l (k+1)≠0:=by rw[HE.o];exact g
     have e2:=LM.uX l (k+1) e1 l.length (by omega)
     unfold LM.lU
     rw[e2,if_neg e1,HE.o]
    obtain⟨x,hx⟩:=ex (LM.cA l k)
    rw[<- hx] at c0 c1 c2 c3 c4 c5 hi sX HE ES cJ
    clear hx bQ hb
    obtain⟨⟨nm,ns,gs,ys,rs,en⟩,⟨an,cn,ag,cg,ay,cy,ar,cr⟩⟩:=x
    simp only at c0 c1 c2 c3 c4 c5
    have dH:=ai (kI.o.alloc kI.o.size (.cells #[.string nm,.slice an ns.length cn,.slice ag gs.length cg,.slice ay ys.length cy,.slice ar rs.length cr,I en] 135))
    have HC:Hid (∀W,Below wr.heap.size wr W->Calls Tryz.prog 115 #[.agg #[.string nm,.slice an ns.length cn,.slice ag gs.length cg,.slice ay ys.length cy,.slice ar rs.length cr,I en]] W fun e w'=>e=.returned (I (M.jm ⟨nm,ns,gs,ys,rs,en⟩))/\Below W.heap.size W w'):=fun V hb=>cJ.o V (kI.o.trans (hb.mono kI.o.size))
    clear hi sX cJ Ht
    obtain⟨c,hc⟩:=ex (M.jm ⟨nm,ns,gs,ys,rs,en⟩)
    simp only at HE ES
    rw[<- hc] at HC HE ES
    clear hc
    by_cases hcz:c=0
    · subst hcz
      clear ES
      go_wp2_with (go_at_call 115;refine(HC.o _ ((Below.refl _ _).alloc (Nat.le_refl _) _)).mono ?_;rintro e w1 ⟨rfl,hb⟩;have dH:=ai (dH.o.trans (hb.mono dH.o.size));clear hb)
      go_roundw
      case rel=>exact⟨k+1,by omega,by go_num,HE.o,dH.o⟩
      case measure=>simp[intOf];omega
    · have ET:=ai (ES.o hcz)
      have ahP:(c==0)=false:=by simpa using hcz
      clear ES HE
      go_wp2_with (go_at_call 115;refine(HC.o _ ((Below.refl _ _).alloc (Nat.le_refl _) _)).mono ?_;rintro e w1 ⟨rfl,hb⟩;have dH:=ai (dH.o.trans (hb.mono dH.o.size));clear hb)
      go_ret2
      refine⟨dH.o,?_⟩
      rw[ET.o,if_neg hcz]
      rfl
  · obtain rfl:k=l.length:=by omega
    clear hb
    obtain⟨m,hm⟩:=ex wr.heap.size
    have hsm:w.heap.size<=m:=by rw[hm];exact kI.o.size
    have HM0:Hid ((wr.alloc (.map #[] 0)).ownsMap Tryz.prog 9 LM.Rv m 0 (.map [])):=by
     rw[hm]
     exact World.ownsMap_made _ _ _ _
    have HM:=ai hm
    clear hm
    go_wp2
    rw[<- HM.o]
    go_loopw [25] (fun i wi=>∃(k:Nat) (D:DataW Value),k<=l.length/\i=I k/\wi.ownsMap Tryz.prog 9 LM.Rv m k D/\LM.Nm l k D/\Below w.heap.size w wi) (fun i _=>l.length-(intOf i).toNat)
    case atStart=>exact⟨0,.map [],Nat.zero_le _,rfl,HM0.o,LM.Qh l,kI.o.alloc kI.o.size _⟩
    case round =>
     obtain⟨k,D,hk,rfl,hown,M0,hb⟩:=hrel
     have HW:=ai hown
     have HN:=ai M0
     have yA:=ai hb
     by_cases hlt:k<l.length
     · obtain⟨b,off,hao,hbl,bQ⟩:=(HH.o.below hb) (by omega)
       subst hao
       obtain⟨⟨c0,c1,c2,c3,c4,c5⟩,hi⟩:=bQ k hlt
       have sX:=(HF.o.2 k hlt).name
       have qQ:=ai (LM.Qi hlt hown.isMap (hown.tidy W.law) M0)
       obtain⟨x,hx⟩:=ex (LM.cA l k)
       rw[<- hx] at c0 c1 c2 c3 c4 c5 sX qQ
       clear hx bQ hb hi hown M0
       obtain⟨⟨nm,ns,gs,ys,rs,en⟩,⟨an,cn,ag,cg,ay,cy,ar,cr⟩⟩:=x
       simp only at c0 c1 c2 c3 c4 c5 sX
       have hkey:=W.Ir sX
       have hkm:k<maxLen:=by unfold maxLen;omega
       have dH:=ai (yA.o.alloc yA.o.size (.cells #[.string nm,.slice an ns.length cn,.slice ag gs.length cg,.slice ay ys.length cy,.slice ar rs.length cr,I en] 135))
       have Y7:=ai (HW.o.alloc (.cells #[.string nm,.slice an ns.length cn,.slice ag gs.length cg,.slice ay ys.length cy,.slice ar rs.length cr,I en] 135))
       go_wp2_with (first | (at_mapUpdate;refine wpList_mapUpdate_own _ rfl _ _ _ 171 rfl 9 135 W.law Tryz.underlying171 LM.Rv m k D rfl Y7.o hkm _ _ _ rfl rfl hkey _ [] rfl ?_;intro w1 hown1 hgrow1;have ur:=ai hown1;have bh:=ai (dH.o.grown hgrow1 dH.o.size (fun j hj=>by cases hj;exact hsm));clear hown1 hgrow1) | go_in)
       go_roundw
       case rel=>exact⟨k+1,_,by omega,by go_num,ur.o,qQ.o,bh.o⟩
       case measure=>simp[intOf];omega
     · obtain rfl:k=l.length:=by omega
       have hlen:=hown.len Tryz.underlying171 3
       have HE0:=ai HZ.o
       by_cases ho:M.iI (LM.fD l) l.length=true
       · have hsz:=M0.all.2 ho
         have ET:Hid (LM.lU l=0):=by
          show _=_
          unfold LM.lU M.pd
          rw[if_pos HE0.o,LM.gZ,ho]
          rfl
         rw[hsz] at hlen
         clear hown M0 hb hsz ho
         go_wp2
         go_ret2
         refine⟨yA.o,?_⟩
         rw[ET.o,if_pos rfl]
         exact⟨_,D,rfl,HW.o,HN.o⟩
       · have hsz:Maps.size D<l.length:=by
          have h1:=M0.le
          have h2:=M0.all
          rcases Nat.lt_or_ge (Maps.size D) l.length with g | g
          · exact g
          · exact(ho (h2.1 (by omega))).elim
         have ET:Hid (LM.lU l=5):=by
          show _=_
          unfold LM.lU M.pd
          rw[if_pos HE0.o,LM.gZ,if_neg ho]
         obtain⟨z,hz⟩:=ex (Maps.size D)
         rw[<- hz] at hlen hsz
         have hsz':(z:Int)<(l.length:Int):=by omega
         clear hown M0 hb ho hz
         go_wp2
         go_ret2
         refine⟨yA.o,?_⟩
         rw[ET.o,if_neg (by decide)]
         rfl
end LW
namespace LW
open Go.RowKit
open W (ai)
theorem yI (l:List LM.Ob) (ao:Option Addr) (cap:Nat) (w:World) (h:Oi l ao w) (Yc:l.length<=7) (hpx:∀k,k<l.length->∀V,Below w.heap.size w V->Calls Tryz.prog 118 #[.agg (LM.kH (LM.dO l k)),.slice ao l.length cap] V (Au (LM.wW l (LM.dO l k)) V)):Calls Tryz.prog 102 #[.slice ao l.length cap] w (Jb (LM.kQ l) w):=by
 have HO:=ai h
 have HPX:=ai hpx
 clear h hpx
 obtain⟨R,hR⟩:=ex (LM.kQ l)
 have HR:Hid (R=LM.qF l l.length):=hR
 rw[<- hR]
 clear hR
 obtain⟨i0,hin,hz0,hz1,hz2⟩:=info_parts MP
 go_enter Tryz.func102,Tryz.ntmps102
 go_wp2
 go_loopw [15,4] (fun i v wr=>∃(a:Nat) (E:List LM.Sp) (hs:List LM.Sh),a<=l.length/\i=I a/\LM.qF l a=some E/\hs.map LM.plain=E/\hs.length<=a*1600/\Rs w.heap.size wr v hs/\Below w.heap.size w wr) (fun i _ _=>l.length-(intOf i).toNat)
 case atStart=>exact⟨0,[],[],by omega,rfl,rfl,rfl,by simp,Rs.nil _ _,Below.refl _ _⟩
 case round =>
  obtain⟨a,E,hs,hal,rfl,hE,Uw,hlen,hrs,hb⟩:=hrel
  have HE:=ai hE
  have Tt:=ai Uw
  have Hi:=ai hrs
  have kI:=ai hb
  by_cases hlt:a<l.length
  · have HOr:=ai (HO.o.below hb)
    obtain⟨b,off,hao,hbl,bQ⟩:=HOr.o.has (by omega)
    obtain⟨⟨c0,c1,c2,c3,c4,c5,c6⟩,him⟩:=bQ a hlt
    have hbs:=HO.o.base a hlt
    have px:=HO.o.YM a hlt
    have R6:Hid (∀V,Below wr.heap.size wr V->Calls Tryz.prog 118 #[.agg (LM.kH (LM.dO l a)),.slice ao l.length cap] V (Au (LM.wW l (LM.dO l a)) V)):=fun V hb=>HPX.o a hlt V (kI.o.trans (hb.mono kI.o.size))
    have cB:Hid (LM.wW l (LM.dO l a)=none->R=none):=fun g=>by
     rw[HR.o]
     refine LM.xg (k:=a+1) ?_ l.length (by omega)
     simp only[LM.qF,HE.o,g]
    have Cj:Hid (∀ps,LM.wW l (LM.dO l a)=some ps->LM.qF l (a+1)=some (E++LM.uA (LM.dO l a) ps (LM.dO l a).i.cX.length)):=fun ps g=>by simp only[LM.qF,HE.o,g]
    have kq:Hid (∀ps,LM.wW l (LM.dO l a)=some ps->ps.length<=16/\∀j,j<ps.length->LM.ot (LM.yR ps j)):=fun ps g=>by
     have h1:=LM.zQ g
     have h2:=(LM.counts_of px).2.2.2.2
     exact⟨by omega,LM.Ih px hbs.1 hbs.2 _ ps (Nat.le_refl _) g⟩
    obtain⟨b2,l9,Gp,Nf,uL⟩:=HO.o.has (by omega)
    have Gj:=(uL a hlt).2
    obtain⟨o,ho⟩:=ex (LM.dO l a)
    rw[<- ho] at Gj
    rw[<- ho] at c0 c1 c2 c3 c4 c5 c6 him hbs px R6 cB Cj kq
    have hcn:=LM.counts_of px
    have Aw:=ai (LM.nL px)
    have Wo:=ai him
    simp only[LM.kH] at R6
    obtain⟨bs,Dd,hag,Nc,Pk⟩:=Gj.cX (by omega)
    have HLG:=ai Pk
    rw[hag] at R6 c2
    clear ho bQ hb hE Uw hrs him Pk hag Gj uL Gp Nf Wo
    subst hao
    have dH:=ai (kI.o.alloc kI.o.size (.cells #[.string o.i.name,.slice o.a.an o.i.needs.length o.a.cn,.slice (some (Ad bs Dd)) o.i.cX.length o.a.cg,.slice o.a.ay o.i.syms.length o.a.cy,.slice o.a.ar o.i.fh.length o.a.cr,I o.i.entry,I o.base] 178))
    have jq:=ai ((Below.refl wr.heap.size wr).alloc (Nat.le_refl _) (.cells #[.string o.i.name,.slice o.a.an o.i.needs.length o.a.cn,.slice (some (Ad bs Dd)) o.i.cX.length o.a.cg,.slice o.a.ay o.i.syms.length o.a.cy,.slice o.a.ar o.i.fh.length o.a.cr,I o.i.entry,I o.base] 178))
    have BO:=ai (B.new wr #[.string o.i.name,.slice o.a.an o.i.needs.length o.a.cn,.slice (some (Ad bs Dd)) o.i.cX.length o.a.cg,.slice o.a.ay o.i.syms.length o.a.cy,.slice o.a.ar o.i.fh.length o.a.cr,I o.i.entry,I o.base] 178)
    have mV:=ai (R6.o _ jq.o)
    cases e:LM.wW l o with
    | none =>
     have HRN:=ai (cB.o e)
     rw[e] at mV
     clear e cB Cj kq
     go_wp2_with (go_at_call 118;refine mV.o.mono ?_;rintro e w1 ⟨hb,rfl⟩;have bh:=ai (dH.o.trans (hb.mono dH.o.size));clear hb)
     go_ret2
     show Jb R w _ _
     rw[HRN.o]
     exact⟨bh.o,rfl⟩
    | some ps =>
     have adr:=ai (Cj.o ps e)
     obtain⟨hps,Yh⟩:=kq.o ps e
     have adH:=ai Yh
     rw[e] at mV
     clear e cB Cj kq Yh
     have oJ:∀q,u4.ownBlock=some q->q<wr.heap.size:=fun q hq=>(Hi.o.row.lt q hq).2
     have OE:=ai oJ
     clear oJ
     go_wp2_with (go_at_call 118;refine mV.o.mono ?_;rintro e w1 ⟨hb,v7,rfl,oM⟩;have bh:=ai (dH.o.trans (hb.mono dH.o.size));have ur:=ai (jq.o.trans (hb.mono jq.o.size));have yE:=ai oM;have BO1:=ai (B.below BO.o hb (B.isLt BO.o));have g2:=B.cell BO1.o 2 rfl;clear hb oM)
     obtain⟨ap,cp,hv7,Ge⟩:=Qa yE.o u4.ownBlock (fun q hq=>by have:=OE.o q hq;simp;omega)
     subst hv7
     have Wk:=ai Ge
     have Ze:=ai (Hi.o.below ur.o)
     have abV:=kI.o.size
     obtain⟨rb,oJ⟩:=ex u4.ownBlock
     have OG:=ai oJ
     rw[<- oJ] at Wk OE
     clear Ge yE mV R6 jq dH Hi ur g2 BO c0 c1 c2 c3 c4 c5 c6 oJ HOr hbl
     obtain⟨ob,EE⟩:=ex wr.heap.size
     rw[<- EE] at BO1 OE abV
     rw[<- EE]
     have Zq:Hid (some ob≠rb):=fun e=>by have:=OE.o ob e.symm;omega
     clear EE kI OE
     go_loopw [31,4] (fun i v wm=>∃(k:Nat) (hs':List LM.Sh),k<=o.i.cX.length/\i=I k/\hs'.map LM.plain=E++LM.uA o ps k/\hs'.length<=a*1600+k*255/\Rs w.heap.size wm v hs'/\Below w.heap.size w wm/\Fr w1 rb wm v.ownBlock) (fun i _ _=>o.i.cX.length-(intOf i).toNat)
     case atStart=>exact⟨0,hs,by omega,rfl,by rw[Tt.o];simp[LM.uA],by omega,Ze.o,bh.o,by rw[OG.o];exact Fr.refl _ _⟩
     case round =>
      obtain⟨k,hs',hk,rfl,Uw,hlen',hrs,hb,M6⟩:=hrel
      have Hl:=ai Uw
      have mg:=ai hrs
      have Sw:=ai hb
      have HFm:=ai M6
      clear Ze OG hlen Tt
      by_cases hlk:k<o.i.cX.length
      · obtain⟨c0,c1,c2,c3,c4⟩:=M.xo hb Nc HLG.o k hlk
        have jQ:=Aw.o k hlk
        have Nb:bs<wr.heap.size:=Nat.lt_of_lt_of_le Nc hb.size
        have l7:Hid (LM.uA o ps (k+1)=LM.uA o ps k++LM.wV o ps (M.dz o.i.cX k) (M.dz o.i.cX k).aj.toNat):=rfl
        obtain⟨s,SX⟩:=ex (M.dz o.i.cX k)
        rw[<- SX] at c0 c1 c2 c3 c4 jQ l7
        clear SX
        obtain⟨P,hP⟩:∃P:Nat,s.aj=(P:Int):=⟨s.aj.toNat,by omega⟩
        obtain⟨pg,pn,dt,wb,qZ0⟩:=s
        simp only at c0 c1 c2 c3 c4 jQ l7 hP
        subst hP
        rw[Int.toNat_natCast] at l7
        have hvb:∀q,u4.ownBlock=some q->q<wr.heap.size:=fun q hq=>(mg.o.row.lt q hq).2
        have HVB:=ai hvb
        have dH:=ai (Sw.o.alloc Sw.o.size (.cells #[I pg,I P,.string dt,.bool wb,.bool qZ0] 129))
        have jq:=ai ((Below.refl wr.heap.size wr).alloc (Nat.le_refl _) (.cells #[I pg,I P,.string dt,.bool wb,.bool qZ0] 129))
        have BS:=ai (B.new wr #[I pg,I P,.string dt,.bool wb,.bool qZ0] 129)
        have jn:=ai (HFm.o.trans (Fr.aF jq.o u4.ownBlock))
        have Vd:=ai (mg.o.below jq.o)
        clear hvb Uw hrs hb M6
        go_wp2
        obtain⟨vb,hvb⟩:=ex u4.ownBlock
        have HVE:=ai hvb
        rw[<- hvb] at HVB
        obtain⟨WA,fH⟩:=ex (wr.alloc (.cells #[I pg,I P,.string dt,.bool wb,.bool qZ0] 129))
        rw[<- fH] at dH jq BS jn Vd
        rw[<- fH]
        obtain⟨sb,Gb⟩:=ex wr.heap.size
        rw[<- Gb] at BS HVB
        rw[<- Gb]
        have qQ:Hid (some sb≠vb):=fun e=>by have:=HVB.o sb e.symm;omega
        clear hvb fH Gb jq HVB mg Sw HFm c0 c1 c2 c3 c4 Nb
        have hpb:∀n:Nat,n<P->0<=o.base+pg+(n:Int)/\o.base+pg+(n:Int)<=3000:=fun n hn=>by omega
        have R5:=ai hpb
        have Tm:Hid (∀n:Nat,n<P->∀V,Calls Tryz.prog 119 #[.agg #[I pg,I (P:Int),.string dt,.bool wb,.bool qZ0],I n] V fun e w'=>e=.returned (.string (LM.sK ⟨pg,P,dt,wb,qZ0⟩ n))/\Below V.heap.size V w'):=fun n hn V=>FA ⟨pg,P,dt,wb,qZ0⟩ n V (by omega) (by show dt.size<=100000;omega)
        clear hpb
        go_loopw [37,4] (fun i v wi=>∃(n:Nat) (hs2:List LM.Sh),n<=P/\i=I n/\hs2.map LM.plain=(E++LM.uA o ps k)++LM.wV o ps ⟨pg,P,dt,wb,qZ0⟩ n/\hs2.length<=a*1600+k*255+n/\Rs w.heap.size wi v hs2/\Below w.heap.size w wi/\Fr w1 rb wi v.ownBlock/\Fr WA vb wi v.ownBlock) (fun i _ _=>P-(intOf i).toNat)
        case atStart=>exact⟨0,hs',by omega,rfl,by rw[Hl.o];simp[LM.wV],by omega,Vd.o,dH.o,jn.o,by rw[HVE.o];exact Fr.refl _ _⟩
        case round =>
         obtain⟨n,hs2,hn,rfl,hm3,M4,hrs,hb,M6,vW⟩:=hrel
         have HM3:=ai hm3
         have Lx:=ai hrs
         have yA:=ai hb
         have HFi:=ai M6
         have HFs:=ai vW
         have acy:=hb.size
         clear Vd dH jn HVE Hl hlen' hm3 hrs hb
         by_cases hnP:n<P
         · have BOi:=ai (M6.keep BO1.o Zq.o)
           have ZQ:=ai (vW.keep BS.o qQ.o)
           have y6:=B.cell BOi.o 6 rfl
           have z0:=B.cell ZQ.o 0 rfl
           have z1:=B.cell ZQ.o 1 rfl
           have z2:=B.cell ZQ.o 2 rfl
           have z3:=B.cell ZQ.o 3 rfl
           have z4:=B.cell ZQ.o 4 rfl
           have HPi:=ai (Wk.o.fr M6)
           have hpb:=R5.o n hnP
           have vd:=ai (LM.Fu o ps ⟨pg,P,dt,wb,qZ0⟩ n)
           have HG2:=ai (Tm.o n hnP)
           have PD:Hid (∀V,Below wr.heap.size wr V->Calls Tryz.prog 120 #[I (o.base+pg+(n:Int)),.slice ap ps.length cp] V fun e w'=>(∃v,e=.returned v/\w'.ownsRow V.heap.size 121 2 v (LM.gv (o.base+pg+(n:Int)) ps).length ((LM.gv (o.base+pg+(n:Int)) ps).flatMap LM.Ak))/\Below V.heap.size V w'):=fun V hb=>DL _ ps ap cp V hpb.1 hpb.2 (HPi.o.below hb) (by omega) adH.o
           have qO:Hid (LM.pgN o ps ⟨pg,P,dt,wb,qZ0⟩ n=⟨o.base+pg+(n:Int),LM.sK ⟨pg,P,dt,wb,qZ0⟩ n,LM.gv (o.base+pg+(n:Int)) ps⟩):=rfl
           obtain⟨F,hF⟩:=ex (LM.gv (o.base+pg+(n:Int)) ps)
           obtain⟨D,hD⟩:=ex (LM.sK ⟨pg,P,dt,wb,qZ0⟩ n)
           rw[<- hF] at PD qO
           rw[<- hD] at HG2 qO
           have hl3:hs2.length<=100000:=by omega
           have hrow:=Lx.o.row.lt
           have Zf:=ai hrow
           clear hF hD M6 vW hrow
           obtain⟨i0,hin,hz0,hz1,hz2⟩:=info_parts MP
           go_wp2_with (first
            | (go_at_call 119;refine(HG2.o _).mono ?_;rintro e w2 ⟨rfl,hb⟩;have CA:=ai hb;clear hb)
            | (go_at_call 120;refine(PD.o _ CA.o).mono ?_;rintro e w3 ⟨⟨v8,rfl,yD⟩,hb⟩;obtain⟨af,cf,hvf,hfn⟩:=TM yD u4.ownBlock (fun q hq=>by have:=(Zf.o q hq).2;have:=CA.o.size;omega);subst hvf;have qB:=ai hfn;have U7:=ai (CA.o.trans (hb.mono CA.o.size));have uv:=ai (U7.o.alloc U7.o.size (.cells #[I (o.base+pg+(n:Int)),.string D,.slice af F.length cf] 62));have HR4:=ai (Lx.o.below uv.o);have adI:=ai (qB.o.below ((Below.refl w3.heap.size w3).alloc (Nat.le_refl _) (.cells #[I (o.base+pg+(n:Int)),.string D,.slice af F.length cf] 62)));have Jh:=ai (B.new w3 #[I (o.base+pg+(n:Int)),.string D,.slice af F.length cf] 62);have Ul:w.heap.size<=w3.heap.size:=Nat.le_trans acy U7.o.size;clear hb yD hfn)
            | (at_builtin;refine wpList_append_lies _ rfl _ _ 23 rfl w.heap.size 62 i0 (.agg #[I 0,.string ⟨#[]⟩,Nl]) 3 48 Tryz.underlying23 hin hz0 hz1 hz2 rfl (by decide) _ _ _ rfl HR4.o.row (Ad w3.heap.size 0) 1 1 [I (o.base+pg+(n:Int)),.string D,.slice af F.length cf] rfl rfl (B.news Jh.o) (by intro u hu;simp at hu;rcases hu with rfl | rfl | rfl <;> rfl) (by decide) (by unfold maxLen;omega) (by omega) (by simp;omega) (w3.heap.size+1) (by simp) ?_;intro gg YO w4 SY hgrow QR ahx;have Ck:=ai SY;have Cq:=ai hgrow;have K7:=ai QR;clear SY hgrow QR))
           have Yu:u4.ownBlock=some gg∨gg=(w3.alloc (.cells #[I (o.base+pg+(n:Int)),.string D,.slice af F.length cf] 62)).heap.size:=by rw[World.size_alloc];exact K7.o
           have HF4:=ai ((Fr.aF uv.o u4.ownBlock).trans (Fr.Qg Cq.o Cq.o.size Yu))
           go_roundw
           case rel=>exact⟨n+1,hs2++[⟨o.base+pg+(n:Int),D,F,af,cf⟩],by omega,by go_num,by rw[vd.o,qO.o,List.map_append,HM3.o,List.append_assoc];rfl,by rw[List.length_append];simp;omega,(Rs.more (x:=⟨o.base+pg+(n:Int),D,F,af,cf⟩) HR4.o.fix adI.o Ck.o Cq.o Cq.o.size Yu),((yA.o.trans (uv.o.mono yA.o.size)).grown Cq.o (by simp;omega) (fun q hq=>by have:=(Zf.o q hq).1;omega)),HFi.o.trans HF4.o,HFs.o.trans HF4.o⟩
           case measure=>simp[intOf];omega
         · obtain rfl:n=P:=by omega
           clear M6 vW
           go_wp2
           go_roundw
           case rel=>exact⟨k+1,hs2,by omega,by go_num,by rw[l7.o,HM3.o,List.append_assoc],by omega,Lx.o,yA.o,HFi.o⟩
           case measure=>simp[intOf];omega
      · obtain rfl:k=o.i.cX.length:=by omega
        clear Uw hrs hb M6
        go_wp2
        go_roundw
        case rel=>exact⟨a+1,_,hs',by omega,by go_num,adr.o,Hl.o,by omega,mg.o,Sw.o⟩
        case measure=>simp[intOf];omega
  · obtain rfl:a=l.length:=by omega
    have HX:Hid (R=some E):=by rw[HR.o];exact HE.o
    obtain⟨ah,ch,hv,hh,hc⟩:=Hi.o.has
    subst hv
    have Wq:=ai hh
    clear hE Uw hrs hb hh
    go_wp2
    go_ret2
    show Jb R w _ _
    rw[HX.o]
    exact⟨kI.o,hs,ah,ch,Tt.o,rfl,Wq.o,hc⟩
end LW
end Go.Proofs.YtkdigjpejnebkaaGreat
