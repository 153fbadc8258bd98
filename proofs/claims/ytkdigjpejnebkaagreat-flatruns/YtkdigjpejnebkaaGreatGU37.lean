import Derived.Test.YtkdigjpejnebkaaGreatGU00
import Derived.Test.YtkdigjpejnebkaaGreatGU14
import Derived.Test.YtkdigjpejnebkaaGreatGU36
set_option maxHeartbeats 20000000
set_option linter.unusedVariables false
set_option maxRecDepth 100000
set_option linter.unusedSimpArgs false
namespace Go.Proofs.YtkdigjpejnebkaaGreat
namespace W
open Go.RowKit
theorem WJ (nm:ByteArray) (an ag ay ar:Option Addr) (cn gl cg cy cr:Nat) (en:Int) (w:World):Calls Tryz.prog 136 #[.agg #[.string nm,.slice an 0 cn,.slice ag gl cg,.slice ay 0 cy,.slice ar 0 cr,I en]] w fun e w'=>e=.returned (.bool true)/\Below w.heap.size w w':=by
 have HB:=ai ((Below.refl w.heap.size w).alloc (Nat.le_refl _) (.cells #[.string nm,.slice an 0 cn,.slice ag gl cg,.slice ay 0 cy,.slice ar 0 cr,I en] 135))
 go_enter Tryz.func136,Tryz.ntmps136
 go_wp2
 go_loopw [10] (fun iv wr=>iv=I 0/\Below w.heap.size w wr) (fun _ _=>0)
 case atStart=>exact⟨rfl,HB.o⟩
 case round =>
  obtain⟨rfl,hb⟩:=hrel
  have bW:=ai hb
  clear hb
  go_wp2
  go_ret
  exact⟨rfl,bW.o⟩
theorem WM (nm:ByteArray) (an ag ay ar:Option Addr) (cn gl cg cy cr:Nat) (en:Int) (w:World):Calls Tryz.prog 137 #[.agg #[.string nm,.slice an 0 cn,.slice ag gl cg,.slice ay 0 cy,.slice ar 0 cr,I en]] w fun e w'=>e=.returned (.bool true)/\Below w.heap.size w w':=by
 have HB:=ai ((Below.refl w.heap.size w).alloc (Nat.le_refl _) (.cells #[.string nm,.slice an 0 cn,.slice ag gl cg,.slice ay 0 cy,.slice ar 0 cr,I en] 135))
 go_enter Tryz.func137,Tryz.ntmps137
 go_wp2
 go_loopw [11] (fun iv wr=>iv=I 0/\Below w.heap.size w wr) (fun _ _=>0)
 case atStart=>exact⟨rfl,HB.o⟩
 case round =>
  obtain⟨rfl,hb⟩:=hrel
  have bW:=ai hb
  clear hb
  go_wp2
  go_ret
  exact⟨rfl,bW.o⟩
theorem Jt (ay:Option Addr) (cy:Nat) (w:World):Calls Tryz.prog 135 #[.slice ay 0 cy] w fun e w'=>e=.returned Nl/\Below w.heap.size w w':=by
 go_enter Tryz.func135,Tryz.ntmps135
 go_wp2
 go_loopw [3,8] (fun sv iv wr=>sv=Nl/\iv=I 0/\Below w.heap.size w wr) (fun _ _ _=>0)
 case atStart=>exact⟨rfl,rfl,Below.refl _ _⟩
 case round =>
  obtain⟨rfl,rfl,hb⟩:=hrel
  have bW:=ai hb
  clear hb
  go_wp2
  go_ret
  exact⟨rfl,bW.o⟩
theorem T7 (nm:ByteArray) (an ag ay ar:Option Addr) (cn gl cg cy cr:Nat) (en:Int) (w:World) (hn:∀V,Calls Tryz.prog 149 #[.string nm] V fun e w'=>e=.returned (.bool true)/\Below V.heap.size V w'):Calls Tryz.prog 130 #[.agg #[.string nm,.slice an 0 cn,.slice ag gl cg,.slice ay 0 cy,.slice ar 0 cr,I en]] w fun e w'=>e=.returned (.bool true)/\Below w.heap.size w w':=by
 have HN:=ai hn
 clear hn
 have HB:=ai ((Below.refl w.heap.size w).alloc (Nat.le_refl _) (.cells #[.string nm,.slice an 0 cn,.slice ag gl cg,.slice ay 0 cy,.slice ar 0 cr,I en] 135))
 have X0:=ai (B.new w #[.string nm,.slice an 0 cn,.slice ag gl cg,.slice ay 0 cy,.slice ar 0 cr,I en] 135)
 go_enter Tryz.func130,Tryz.ntmps130
 go_wp2_with (go_at_call 149;refine(HN.o _).mono ?_;rintro e w1 ⟨rfl,hb1⟩;have bj:=ai (HB.o.trans (hb1.mono HB.o.size));have X1:=ai (B.below X0.o hb1 (B.isLt X0.o));have x1:w1.cell? (Ad w.heap.size 1)=some (.slice an 0 cn):=B.cell X1.o 1 rfl;clear hb1)
 go_loopw [16] (fun iv wr=>iv=I 0/\wr.heap[w.heap.size]?=some (.cells #[.string nm,.slice an 0 cn,.slice ag gl cg,.slice ay 0 cy,.slice ar 0 cr,I en] 135 (0,0))/\Below w.heap.size w wr) (fun _ _=>0)
 case atStart=>exact⟨rfl,X1.o,bj.o⟩
 case round =>
  obtain⟨rfl,hx,hb⟩:=hrel
  have HX:=ai hx
  have bW:=ai hb
  have y3:wr.cell? (Ad w.heap.size 3)=some (.slice ay 0 cy):=B.cell hx 3 rfl
  clear hb hx bj X1 x1
  go_wp2
  clear y3
  go_loopw [27] (fun iv wi=>iv=I 0/\wi.heap[w.heap.size]?=some (.cells #[.string nm,.slice an 0 cn,.slice ag gl cg,.slice ay 0 cy,.slice ar 0 cr,I en] 135 (0,0))/\Below w.heap.size w wi) (fun _ _=>0)
  case atStart=>exact⟨rfl,HX.o,bW.o⟩
  case round =>
   clear HX bW
   obtain⟨rfl,hx,hb⟩:=hrel
   have HX:=ai hx
   have fH:=ai hb
   have y4:wr.cell? (Ad w.heap.size 4)=some (.slice ar 0 cr):=B.cell hx 4 rfl
   clear hb hx
   go_wp2
   clear y4
   go_loopw [39] (fun iv wi=>iv=I 0/\Below w.heap.size w wi) (fun _ _=>0)
   case atStart=>exact⟨rfl,fH.o⟩
   case round =>
    obtain⟨rfl,hb⟩:=hrel
    have mU:=ai hb
    clear hb
    go_wp2
    go_ret
    exact⟨rfl,mU.o⟩
theorem U9 (nm:ByteArray) (gs:List M.Sg) (en:Int) (an ag ay ar:Option Addr) (cn cg cy cr:Nat) (w:World) (h:M.mH w ⟨an,cn,ag,cg,ay,cy,ar,cr⟩ ⟨nm,[],gs,[],[],en⟩) (hf:M.Fit ⟨nm,[],gs,[],[],en⟩) (h1:M.oo nm=true) (h2:M.qg ⟨nm,[],gs,[],[],en⟩=true) (h3:gs.all M.fE=true) (h4:M.uo gs=true) (h5:M.ug ⟨nm,[],gs,[],[],en⟩=true) :
  Calls Tryz.prog 115 #[.agg #[.string nm,.slice an 0 cn,.slice ag gs.length cg,.slice ay 0 cy,.slice ar 0 cr,I en]] w fun e w'=>e=.returned (I 0)/\Below w.heap.size w w':=by
 have nB:Hid (∀V,Calls Tryz.prog 149 #[.string nm] V fun e w'=>e=.returned (.bool true)/\Below V.heap.size V w'):=fun V=>(FO nm V hf.name).mono fun e w' ⟨e1,e2⟩=>⟨by rw[e1,h1],by rw[<- e2];exact Below.refl _ _⟩
 have R3:=ai (fun V=>T7 nm an ag ay ar cn gs.length cg cy cr en V nB.o)
 have EL:Hid (∀V,Calls Tryz.prog 131 #[.agg #[.string nm,.slice an 0 cn,.slice ag gs.length cg,.slice ay 0 cy,.slice ar 0 cr,I en]] V fun e w'=>e=.returned (.bool true)/\Below V.heap.size V w'):=fun V=>(vD ⟨nm,[],gs,[],[],en⟩ ⟨an,cn,ag,cg,ay,cy,ar,cr⟩ V hf).mono fun e w' ⟨e1,e2⟩=>⟨by rw[e1,h2],e2⟩
 have RT:Hid (∀V,Below w.heap.size w V->Calls Tryz.prog 132 #[.slice ag gs.length cg] V fun e w'=>e=.returned (.bool true)/\Below V.heap.size V w'):=fun V hV=>(vB gs ag cg V (h.below hV).cW hf.cW hf.seg).mono fun e w' ⟨e1,e2⟩=>⟨by rw[e1,h3],e2⟩
 have Pf:Hid (∀V,Below w.heap.size w V->Calls Tryz.prog 133 #[.slice ag gs.length cg] V fun e w'=>e=.returned (.bool false)/\Below V.heap.size V w'):=fun V hV=>(C7 gs ag cg V (h.below hV).cW hf.cW h3).mono fun e w' ⟨e1,e2⟩=>⟨by rw[e1,h4];rfl,e2⟩
 have HTW:Hid (∀ao c V,Calls Tryz.prog 134 #[.slice ao 0 c] V fun e w'=>e=.returned (.bool false)/\Below V.heap.size V w'):=fun ao c V=>(Jr [] ao c V (fun h=>absurd h (Nat.not_lt_zero _)) (Nat.zero_le _) (fun k hk=>absurd hk (Nat.not_lt_zero _))).mono fun e w' ⟨e1,e2⟩=>⟨by rw[e1];rfl,e2⟩
 have HSN:=ai (fun V=>Jt ay cy V)
 have I5:=ai (fun V=>WJ nm an ag ay ar cn gs.length cg cy cr en V)
 have HRL:=ai (fun V=>WM nm an ag ay ar cn gs.length cg cy cr en V)
 have qq:Hid (∀V,Below w.heap.size w V->Calls Tryz.prog 138 #[.agg #[.string nm,.slice an 0 cn,.slice ag gs.length cg,.slice ay 0 cy,.slice ar 0 cr,I en]] V fun e w'=>e=.returned (.bool true)/\Below V.heap.size V w'):=fun V hV=>(vK ⟨nm,[],gs,[],[],en⟩ ⟨an,cn,ag,cg,ay,cy,ar,cr⟩ V (h.below hV) hf h3).mono fun e w' ⟨e1,e2⟩=>⟨by rw[e1,h5],e2⟩
 obtain⟨gl,hgl⟩:=ex gs.length
 rw[<- hgl] at R3 EL RT Pf I5 HRL qq ⊢
 clear h hf h1 h2 h3 h4 h5 hgl nB
 have HB:=ai ((Below.refl w.heap.size w).alloc (Nat.le_refl _) (.cells #[.string nm,.slice an 0 cn,.slice ag gl cg,.slice ay 0 cy,.slice ar 0 cr,I en] 135))
 have X:=ai (B.new w #[.string nm,.slice an 0 cn,.slice ag gl cg,.slice ay 0 cy,.slice ar 0 cr,I en] 135)
 go_enter Tryz.func115,Tryz.ntmps115
 go_wp2_with (first
  | (go_at_call 130;refine(R3.o _).mono ?_;rintro e w1 ⟨rfl,hb⟩;have bj:=ai (HB.o.trans (hb.mono HB.o.size));have X1:=ai (B.below X.o hb (B.isLt X.o));clear hb;have k10:w1.cell? (Ad w.heap.size 0)=some (.string nm):=B.cell X1.o 0 rfl;have k11:w1.cell? (Ad w.heap.size 1)=some (.slice an 0 cn):=B.cell X1.o 1 rfl;have k12:w1.cell? (Ad w.heap.size 2)=some (.slice ag gl cg):=B.cell X1.o 2 rfl;have k13:w1.cell? (Ad w.heap.size 3)=some (.slice ay 0 cy):=B.cell X1.o 3 rfl;have k14:w1.cell? (Ad w.heap.size 4)=some (.slice ar 0 cr):=B.cell X1.o 4 rfl;have k15:w1.cell? (Ad w.heap.size 5)=some (I en):=B.cell X1.o 5 rfl)
  | (go_at_call 131;refine(EL.o _).mono ?_;rintro e w2 ⟨rfl,hb⟩;have bW:=ai (bj.o.trans (hb.mono bj.o.size));have X2:=ai (B.below X1.o hb (B.isLt X1.o));clear hb;have k22:w2.cell? (Ad w.heap.size 2)=some (.slice ag gl cg):=B.cell X2.o 2 rfl)
  | (go_at_call 132;refine(RT.o _ bW.o).mono ?_;rintro e w3 ⟨rfl,hb⟩;have fH:=ai (bW.o.trans (hb.mono bW.o.size));have X3:=ai (B.below X2.o hb (B.isLt X2.o));clear hb;have k32:w3.cell? (Ad w.heap.size 2)=some (.slice ag gl cg):=B.cell X3.o 2 rfl)
  | (go_at_call 133;refine(Pf.o _ fH.o).mono ?_;rintro e w4 ⟨rfl,hb⟩;have mU:=ai (fH.o.trans (hb.mono fH.o.size));have X4:=ai (B.below X3.o hb (B.isLt X3.o));clear hb;have k41:w4.cell? (Ad w.heap.size 1)=some (.slice an 0 cn):=B.cell X4.o 1 rfl)
  | (have _:=X6;go_at_call 134;refine(HTW.o _ _ _).mono ?_;rintro e w7 ⟨rfl,hb⟩;have iT:=ai (ux.o.trans (hb.mono ux.o.size));have X7:=ai (B.below X6.o hb (B.isLt X6.o));clear hb;have k70:w7.cell? (Ad w.heap.size 0)=some (.string nm):=B.cell X7.o 0 rfl;have k71:w7.cell? (Ad w.heap.size 1)=some (.slice an 0 cn):=B.cell X7.o 1 rfl;have k72:w7.cell? (Ad w.heap.size 2)=some (.slice ag gl cg):=B.cell X7.o 2 rfl;have k73:w7.cell? (Ad w.heap.size 3)=some (.slice ay 0 cy):=B.cell X7.o 3 rfl;have k74:w7.cell? (Ad w.heap.size 4)=some (.slice ar 0 cr):=B.cell X7.o 4 rfl;have k75:w7.cell? (Ad w.heap.size 5)=some (I en):=B.cell X7.o 5 rfl)
  | (go_at_call 134;refine(HTW.o _ _ _).mono ?_;rintro e w5 ⟨rfl,hb⟩;have jg:=ai (mU.o.trans (hb.mono mU.o.size));have X5:=ai (B.below X4.o hb (B.isLt X4.o));clear hb;have k53:w5.cell? (Ad w.heap.size 3)=some (.slice ay 0 cy):=B.cell X5.o 3 rfl)
  | (go_at_call 135;refine(HSN.o _).mono ?_;rintro e w6 ⟨rfl,hb⟩;have ux:=ai (jg.o.trans (hb.mono jg.o.size));have X6:=ai (B.below X5.o hb (B.isLt X5.o));clear hb)
  | (go_at_call 136;refine(I5.o _).mono ?_;rintro e w8 ⟨rfl,hb⟩;have rV:=ai (iT.o.trans (hb.mono iT.o.size));have X8:=ai (B.below X7.o hb (B.isLt X7.o));clear hb;have k80:w8.cell? (Ad w.heap.size 0)=some (.string nm):=B.cell X8.o 0 rfl;have k81:w8.cell? (Ad w.heap.size 1)=some (.slice an 0 cn):=B.cell X8.o 1 rfl;have k82:w8.cell? (Ad w.heap.size 2)=some (.slice ag gl cg):=B.cell X8.o 2 rfl;have k83:w8.cell? (Ad w.heap.size 3)=some (.slice ay 0 cy):=B.cell X8.o 3 rfl;have k84:w8.cell? (Ad w.heap.size 4)=some (.slice ar 0 cr):=B.cell X8.o 4 rfl;have k85:w8.cell? (Ad w.heap.size 5)=some (I en):=B.cell X8.o 5 rfl)
  | (go_at_call 137;refine(HRL.o _).mono ?_;rintro e w9 ⟨rfl,hb⟩;have HB9:=ai (rV.o.trans (hb.mono rV.o.size));have X9:=ai (B.below X8.o hb (B.isLt X8.o));clear hb;have k90:w9.cell? (Ad w.heap.size 0)=some (.string nm):=B.cell X9.o 0 rfl;have k91:w9.cell? (Ad w.heap.size 1)=some (.slice an 0 cn):=B.cell X9.o 1 rfl;have k92:w9.cell? (Ad w.heap.size 2)=some (.slice ag gl cg):=B.cell X9.o 2 rfl;have k93:w9.cell? (Ad w.heap.size 3)=some (.slice ay 0 cy):=B.cell X9.o 3 rfl;have k94:w9.cell? (Ad w.heap.size 4)=some (.slice ar 0 cr):=B.cell X9.o 4 rfl;have k95:w9.cell? (Ad w.heap.size 5)=some (I en):=B.cell X9.o 5 rfl)
  | (go_at_call 138;refine(qq.o _ HB9.o).mono ?_;rintro e K3 ⟨rfl,hb⟩;have aek:=ai (HB9.o.trans (hb.mono HB9.o.size));have X10:=ai (B.below X9.o hb (B.isLt X9.o));clear hb))
 go_ret
 exact⟨rfl,aek.o⟩
end W
namespace LW
open Go.RowKit Go.WideMaps Go.Maps
open W (ai)
theorem D9 (l:List LM.Li) (ao:Option Addr) (cap:Nat) (w:World) (h:LM.G6 w ao l) (hf:LM.ZY l) (qa:∀k,k<l.length->∀V,Below w.heap.size w V->Calls Tryz.prog 115 #[.agg (M.eZ (LM.cx l k).a (LM.cx l k).i)] V fun e w'=>e=.returned (I (M.ji (LM.cx l k).i))/\Below V.heap.size V w'):Calls Tryz.prog 99 #[.slice ao l.length cap] w (adi l w):=by
 have HH:=ai h
 have HF:=ai hf
 have Sm:=ai qa
 have hn:l.length<=140737488351232:=hf.1
 clear h hf qa
 have hmm:=@run_makeMap Tryz.prog
 go_enter Tryz.func99,Tryz.ntmps99
 go_wp2
 go_loopw [12] (fun i wr=>∃k:Nat,k<=l.length/\i=I k/\LM.kM l k=0/\Below w.heap.size w wr) (fun i _=>l.length-(intOf i).toNat)
 case atStart=>exact⟨0,by omega,rfl,rfl,Below.refl _ _⟩
 case round =>
  obtain⟨k,hk,rfl,hz,hb⟩:=hrel
  have HZ:=ai hz
  have kH:=ai hb
  clear hz
  by_cases hlt:k<l.length
  · obtain⟨b,off,hao,hbl,bP⟩:=(HH.o.below hb) (by omega)
    subst hao
    obtain⟨⟨c0,c1,c2,c3,c4,c5⟩,hi⟩:=bP k hlt
    have sU:=HF.o.2 k hlt
    have cI:=ai (Sm.o k hlt)
    have HE:Hid (LM.kM l (k+1)=M.ji (LM.cx l k).i):=by
     show _=_
     simp only[LM.kM]
     rw[if_pos HZ.o]
    have EM:Hid (M.ji (LM.cx l k).i≠0->LM.lU l=M.ji (LM.cx l k).i):=fun g=>by
     have e1:LM.kM l (k+1)≠0:=by rw[HE.o];exact g
     have e2:=LM.u6 l (k+1) e1 l.length (by omega)
     unfold LM.lU
     rw[e2,if_neg e1,HE.o]
    obtain⟨x,hx⟩:=ex (LM.cx l k)
    rw[<- hx] at c0 c1 c2 c3 c4 c5 hi sU HE EM cI
    clear hx bP hb
    obtain⟨⟨nm,ns,gs,ys,rs,en⟩,⟨an,cn,ag,cg,ay,cy,ar,cr⟩⟩:=x
    simp only at c0 c1 c2 c3 c4 c5
    have dJ:=ai (kH.o.alloc kH.o.size (.cells #[.string nm,.slice an ns.length cn,.slice ag gs.length cg,.slice ay ys.length cy,.slice ar rs.length cr,I en] 135))
    have HC:Hid (∀W,Below wr.heap.size wr W->Calls Tryz.prog 115 #[.agg #[.string nm,.slice an ns.length cn,.slice ag gs.length cg,.slice ay ys.length cy,.slice ar rs.length cr,I en]] W fun e w'=>e=.returned (I (M.ji ⟨nm,ns,gs,ys,rs,en⟩))/\Below W.heap.size W w'):=fun V hb=>cI.o V (kH.o.trans (hb.mono kH.o.size))
    clear hi sU cI Sm
    obtain⟨c,hc⟩:=ex (M.ji ⟨nm,ns,gs,ys,rs,en⟩)
    simp only at HE EM
    rw[<- hc] at HC HE EM
    clear hc
    by_cases hcz:c=0
    · subst hcz
      clear EM
      go_wp2_with (go_at_call 115;refine(HC.o _ ((Below.refl _ _).alloc (Nat.le_refl _) _)).mono ?_;rintro e w1 ⟨rfl,hb⟩;have dJ:=ai (dJ.o.trans (hb.mono dJ.o.size));clear hb)
      go_roundw
      case rel=>exact⟨k+1,by omega,by go_num,HE.o,dJ.o⟩
      case measure=>simp[intOf];omega
    · have EO:=ai (EM.o hcz)
      have aic:(c==0)=false:=by simpa using hcz
      clear EM HE
      go_wp2_with (go_at_call 115;refine(HC.o _ ((Below.refl _ _).alloc (Nat.le_refl _) _)).mono ?_;rintro e w1 ⟨rfl,hb⟩;have dJ:=ai (dJ.o.trans (hb.mono dJ.o.size));clear hb)
      go_ret2
      refine⟨dJ.o,?_⟩
      rw[EO.o,if_neg hcz]
      rfl
  · obtain rfl:k=l.length:=by omega
    clear hb
    obtain⟨m,hm⟩:=ex wr.heap.size
    have hsm:w.heap.size<=m:=by rw[hm];exact kH.o.size
    have HM0:Hid ((wr.alloc (.map #[] 0)).ownsMap Tryz.prog 9 LM.Rv m 0 (.map [])):=by
     rw[hm]
     exact World.ownsMap_made _ _ _ _
    have HM:=ai hm
    clear hm
    go_wp2
    rw[<- HM.o]
    go_loopw [25] (fun i wi=>∃(k:Nat) (D:DataW Value),k<=l.length/\i=I k/\wi.ownsMap Tryz.prog 9 LM.Rv m k D/\LM.Nm l k D/\Below w.heap.size w wi) (fun i _=>l.length-(intOf i).toNat)
    case atStart=>exact⟨0,.map [],Nat.zero_le _,rfl,HM0.o,LM.P7 l,kH.o.alloc kH.o.size _⟩
    case round =>
     obtain⟨k,D,hk,rfl,hown,M6,hb⟩:=hrel
     have HW:=ai hown
     have HN:=ai M6
     have yC:=ai hb
     by_cases hlt:k<l.length
     · obtain⟨b,off,hao,hbl,bP⟩:=(HH.o.below hb) (by omega)
       subst hao
       obtain⟨⟨c0,c1,c2,c3,c4,c5⟩,hi⟩:=bP k hlt
       have sU:=(HF.o.2 k hlt).name
       have qP:=ai (LM.P8 hlt hown.isMap (hown.tidy W.law) M6)
       obtain⟨x,hx⟩:=ex (LM.cx l k)
       rw[<- hx] at c0 c1 c2 c3 c4 c5 sU qP
       clear hx bP hb hi hown M6
       obtain⟨⟨nm,ns,gs,ys,rs,en⟩,⟨an,cn,ag,cg,ay,cy,ar,cr⟩⟩:=x
       simp only at c0 c1 c2 c3 c4 c5 sU
       have hkey:=W.Il sU
       have hkm:k<maxLen:=by unfold maxLen;omega
       have dJ:=ai (yC.o.alloc yC.o.size (.cells #[.string nm,.slice an ns.length cn,.slice ag gs.length cg,.slice ay ys.length cy,.slice ar rs.length cr,I en] 135))
       have HWA:=ai (HW.o.alloc (.cells #[.string nm,.slice an ns.length cn,.slice ag gs.length cg,.slice ay ys.length cy,.slice ar rs.length cr,I en] 135))
       go_wp2_with (first | (at_mapUpdate;refine wpList_mapUpdate_own _ rfl _ _ _ 171 rfl 9 135 W.law Tryz.underlying171 LM.Rv m k D rfl HWA.o hkm _ _ _ rfl rfl hkey _ [] rfl ?_;intro w1 hown1 hgrow1;have ur:=ai hown1;have bj:=ai (dJ.o.grown hgrow1 dJ.o.size (fun j hj=>by cases hj;exact hsm));clear hown1 hgrow1) | go_in)
       go_roundw
       case rel=>exact⟨k+1,_,by omega,by go_num,ur.o,qP.o,bj.o⟩
       case measure=>simp[intOf];omega
     · obtain rfl:k=l.length:=by omega
       have hlen:=hown.len Tryz.underlying171 3
       have WC:=ai HZ.o
       by_cases ho:M.iG (LM.fF l) l.length=true
       · have hsz:=M6.all.2 ho
         have EO:Hid (LM.lU l=0):=by
          show _=_
          unfold LM.lU M.o9
          rw[if_pos WC.o,LM.gZ,ho]
          rfl
         rw[hsz] at hlen
         clear hown M6 hb hsz ho
         go_wp2
         go_ret2
         refine⟨yC.o,?_⟩
         rw[EO.o,if_pos rfl]
         exact⟨_,D,rfl,HW.o,HN.o⟩
       · have hsz:Maps.size D<l.length:=by
          have h1:=M6.le
          have h2:=M6.all
          rcases Nat.lt_or_ge (Maps.size D) l.length with g | g
          · exact g
          · exact(ho (h2.1 (by omega))).elim
         have EO:Hid (LM.lU l=5):=by
          show _=_
          unfold LM.lU M.o9
          rw[if_pos WC.o,LM.gZ,if_neg ho]
         obtain⟨z,hz⟩:=ex (Maps.size D)
         rw[<- hz] at hlen hsz
         have hsz':(z:Int)<(l.length:Int):=by omega
         clear hown M6 hb ho hz
         go_wp2
         go_ret2
         refine⟨yC.o,?_⟩
         rw[EO.o,if_neg (by decide)]
         rfl
end LW
namespace LW
open Go.RowKit
open W (ai)
theorem yJ (l:List LM.Ob) (ao:Option Addr) (cap:Nat) (w:World) (h:Oi l ao w) (Yi:l.length<=7) (hpx:∀k,k<l.length->∀V,Below w.heap.size w V->Calls Tryz.prog 118 #[.agg (LM.kF (LM.dP l k)),.slice ao l.length cap] V (Ao (LM.wY l (LM.dP l k)) V)):Calls Tryz.prog 102 #[.slice ao l.length cap] w (I4 (LM.kP l) w):=by
 have HO:=ai h
 have HPX:=ai hpx
 clear h hpx
 obtain⟨R,hR⟩:=ex (LM.kP l)
 have HR:Hid (R=LM.qF l l.length):=hR
 rw[<- hR]
 clear hR
 obtain⟨i0,hin,hz0,hz1,hz2⟩:=info_parts MS
 go_enter Tryz.func102,Tryz.ntmps102
 go_wp2
 go_loopw [15,4] (fun i v wr=>∃(a:Nat) (E:List LM.Sp) (hs:List LM.Sh),a<=l.length/\i=I a/\LM.qF l a=some E/\hs.map LM.plain=E/\hs.length<=a*1600/\Rs w.heap.size wr v hs/\Below w.heap.size w wr) (fun i _ _=>l.length-(intOf i).toNat)
 case atStart=>exact⟨0,[],[],by omega,rfl,rfl,rfl,by simp,Rs.nil _ _,Below.refl _ _⟩
 case round =>
  obtain⟨a,E,hs,hal,rfl,hE,Uz,hlen,hrs,hb⟩:=hrel
  have HE:=ai hE
  have Tq:=ai Uz
  have Ha:=ai hrs
  have kH:=ai hb
  by_cases hlt:a<l.length
  · have HOr:=ai (HO.o.below hb)
    obtain⟨b,off,hao,hbl,bP⟩:=HOr.o.has (by omega)
    obtain⟨⟨c0,c1,c2,c3,c4,c5,c6⟩,him⟩:=bP a hlt
    have hbs:=HO.o.base a hlt
    have qa:=HO.o.YS a hlt
    have RX:Hid (∀V,Below wr.heap.size wr V->Calls Tryz.prog 118 #[.agg (LM.kF (LM.dP l a)),.slice ao l.length cap] V (Ao (LM.wY l (LM.dP l a)) V)):=fun V hb=>HPX.o a hlt V (kH.o.trans (hb.mono kH.o.size))
    have cw:Hid (LM.wY l (LM.dP l a)=none->R=none):=fun g=>by
     rw[HR.o]
     refine LM.xh (k:=a+1) ?_ l.length (by omega)
     simp only[LM.qF,HE.o,g]
    have Cg:Hid (∀ps,LM.wY l (LM.dP l a)=some ps->LM.qF l (a+1)=some (E++LM.uD (LM.dP l a) ps (LM.dP l a).i.cW.length)):=fun ps g=>by simp only[LM.qF,HE.o,g]
    have kj:Hid (∀ps,LM.wY l (LM.dP l a)=some ps->ps.length<=16/\∀j,j<ps.length->LM.oc (LM.yQ ps j)):=fun ps g=>by
     have h1:=LM.zP g
     have h2:=(LM.counts_of qa).2.2.2.2
     exact⟨by omega,LM.Ib qa hbs.1 hbs.2 _ ps (Nat.le_refl _) g⟩
    obtain⟨b2,l7,Gg,Nj,uO⟩:=HO.o.has (by omega)
    have Ga:=(uO a hlt).2
    obtain⟨o,ho⟩:=ex (LM.dP l a)
    rw[<- ho] at Ga
    rw[<- ho] at c0 c1 c2 c3 c4 c5 c6 him hbs qa RX cw Cg kj
    have hcn:=LM.counts_of qa
    have Au:=ai (LM.nJ qa)
    have Wx:=ai him
    simp only[LM.kF] at RX
    obtain⟨bs,Da,hag,Ni,O7⟩:=Ga.cW (by omega)
    have HLG:=ai O7
    rw[hag] at RX c2
    clear ho bP hb hE Uz hrs him O7 hag Ga uO Gg Nj Wx
    subst hao
    have dJ:=ai (kH.o.alloc kH.o.size (.cells #[.string o.i.name,.slice o.a.an o.i.needs.length o.a.cn,.slice (some (Ad bs Da)) o.i.cW.length o.a.cg,.slice o.a.ay o.i.syms.length o.a.cy,.slice o.a.ar o.i.fu.length o.a.cr,I o.i.entry,I o.base] 178))
    have jm:=ai ((Below.refl wr.heap.size wr).alloc (Nat.le_refl _) (.cells #[.string o.i.name,.slice o.a.an o.i.needs.length o.a.cn,.slice (some (Ad bs Da)) o.i.cW.length o.a.cg,.slice o.a.ay o.i.syms.length o.a.cy,.slice o.a.ar o.i.fu.length o.a.cr,I o.i.entry,I o.base] 178))
    have BO:=ai (B.new wr #[.string o.i.name,.slice o.a.an o.i.needs.length o.a.cn,.slice (some (Ad bs Da)) o.i.cW.length o.a.cg,.slice o.a.ay o.i.syms.length o.a.cy,.slice o.a.ar o.i.fu.length o.a.cr,I o.i.entry,I o.base] 178)
    have mR:=ai (RX.o _ jm.o)
    cases e:LM.wY l o with
    | none =>
     have HRN:=ai (cw.o e)
     rw[e] at mR
     clear e cw Cg kj
     go_wp2_with (go_at_call 118;refine mR.o.mono ?_;rintro e w1 ⟨hb,rfl⟩;have bj:=ai (dJ.o.trans (hb.mono dJ.o.size));clear hb)
     go_ret2
     show I4 R w _ _
     rw[HRN.o]
     exact⟨bj.o,rfl⟩
    | some ps =>
     have adF:=ai (Cg.o ps e)
     obtain⟨hps,Yn⟩:=kj.o ps e
     have adY:=ai Yn
     rw[e] at mR
     clear e cw Cg kj Yn
     have oD:∀q,u4.ownBlock=some q->q<wr.heap.size:=fun q hq=>(Ha.o.row.lt q hq).2
     have OA:=ai oD
     clear oD
     go_wp2_with (go_at_call 118;refine mR.o.mono ?_;rintro e w1 ⟨hb,v7,rfl,oK⟩;have bj:=ai (dJ.o.trans (hb.mono dJ.o.size));have ur:=ai (jm.o.trans (hb.mono jm.o.size));have EH:=ai oK;have BO1:=ai (B.below BO.o hb (B.isLt BO.o));have g2:=B.cell BO1.o 2 rfl;clear hb oK)
     obtain⟨ap,cp,hv7,FY⟩:=PV EH.o u4.ownBlock (fun q hq=>by have:=OA.o q hq;simp;omega)
     subst hv7
     have Ws:=ai FY
     have Zj:=ai (Ha.o.below ur.o)
     have ab5:=kH.o.size
     obtain⟨rb,oD⟩:=ex u4.ownBlock
     have OB:=ai oD
     rw[<- oD] at Ws OA
     clear FY EH mR RX jm dJ Ha ur g2 BO c0 c1 c2 c3 c4 c5 c6 oD HOr hbl
     obtain⟨ob,Ct⟩:=ex wr.heap.size
     rw[<- Ct] at BO1 OA ab5
     rw[<- Ct]
     have ZB:Hid (some ob≠rb):=fun e=>by have:=OA.o ob e.symm;omega
     clear Ct kH OA
     go_loopw [31,4] (fun i v wm=>∃(k:Nat) (hs':List LM.Sh),k<=o.i.cW.length/\i=I k/\hs'.map LM.plain=E++LM.uD o ps k/\hs'.length<=a*1600+k*255/\Rs w.heap.size wm v hs'/\Below w.heap.size w wm/\Fr w1 rb wm v.ownBlock) (fun i _ _=>o.i.cW.length-(intOf i).toNat)
     case atStart=>exact⟨0,hs,by omega,rfl,by rw[Tq.o];simp[LM.uD],by omega,Zj.o,bj.o,by rw[OB.o];exact Fr.refl _ _⟩
     case round =>
      obtain⟨k,hs',hk,rfl,Uz,hlen',hrs,hb,Na⟩:=hrel
      have I8:=ai Uz
      have lu:=ai hrs
      have Ss:=ai hb
      have HFm:=ai Na
      clear Zj OB hlen Tq
      by_cases hlk:k<o.i.cW.length
      · obtain⟨c0,c1,c2,c3,c4⟩:=M.xp hb Ni HLG.o k hlk
        have jN:=Au.o k hlk
        have Nh:bs<wr.heap.size:=Nat.lt_of_lt_of_le Ni hb.size
        have kG:Hid (LM.uD o ps (k+1)=LM.uD o ps k++LM.wX o ps (M.dB o.i.cW k) (M.dB o.i.cW k).aj.toNat):=rfl
        obtain⟨s,SU⟩:=ex (M.dB o.i.cW k)
        rw[<- SU] at c0 c1 c2 c3 c4 jN kG
        clear SU
        obtain⟨P,hP⟩:∃P:Nat,s.aj=(P:Int):=⟨s.aj.toNat,by omega⟩
        obtain⟨pg,pn,dt,wb,qZ0⟩:=s
        simp only at c0 c1 c2 c3 c4 jN kG hP
        subst hP
        rw[Int.toNat_natCast] at kG
        have hvb:∀q,u4.ownBlock=some q->q<wr.heap.size:=fun q hq=>(lu.o.row.lt q hq).2
        have HVB:=ai hvb
        have dJ:=ai (Ss.o.alloc Ss.o.size (.cells #[I pg,I P,.string dt,.bool wb,.bool qZ0] 129))
        have jm:=ai ((Below.refl wr.heap.size wr).alloc (Nat.le_refl _) (.cells #[I pg,I P,.string dt,.bool wb,.bool qZ0] 129))
        have BS:=ai (B.new wr #[I pg,I P,.string dt,.bool wb,.bool qZ0] 129)
        have jk:=ai (HFm.o.trans (Fr.aF jm.o u4.ownBlock))
        have Vj:=ai (lu.o.below jm.o)
        clear hvb Uz hrs hb Na
        go_wp2
        obtain⟨vb,hvb⟩:=ex u4.ownBlock
        have HVE:=ai hvb
        rw[<- hvb] at HVB
        obtain⟨WA,gw⟩:=ex (wr.alloc (.cells #[I pg,I P,.string dt,.bool wb,.bool qZ0] 129))
        rw[<- gw] at dJ jm BS jk Vj
        rw[<- gw]
        obtain⟨sb,FV⟩:=ex wr.heap.size
        rw[<- FV] at BS HVB
        rw[<- FV]
        have qP:Hid (some sb≠vb):=fun e=>by have:=HVB.o sb e.symm;omega
        clear hvb gw FV jm HVB lu Ss HFm c0 c1 c2 c3 c4 Nh
        have hpb:∀n:Nat,n<P->0<=o.base+pg+(n:Int)/\o.base+pg+(n:Int)<=3000:=fun n hn=>by omega
        have RV:=ai hpb
        have Tn:Hid (∀n:Nat,n<P->∀V,Calls Tryz.prog 119 #[.agg #[I pg,I (P:Int),.string dt,.bool wb,.bool qZ0],I n] V fun e w'=>e=.returned (.string (LM.sG ⟨pg,P,dt,wb,qZ0⟩ n))/\Below V.heap.size V w'):=fun n hn V=>Fs ⟨pg,P,dt,wb,qZ0⟩ n V (by omega) (by show dt.size<=100000;omega)
        clear hpb
        go_loopw [37,4] (fun i v wi=>∃(n:Nat) (hs2:List LM.Sh),n<=P/\i=I n/\hs2.map LM.plain=(E++LM.uD o ps k)++LM.wX o ps ⟨pg,P,dt,wb,qZ0⟩ n/\hs2.length<=a*1600+k*255+n/\Rs w.heap.size wi v hs2/\Below w.heap.size w wi/\Fr w1 rb wi v.ownBlock/\Fr WA vb wi v.ownBlock) (fun i _ _=>P-(intOf i).toNat)
        case atStart=>exact⟨0,hs',by omega,rfl,by rw[I8.o];simp[LM.wX],by omega,Vj.o,dJ.o,jk.o,by rw[HVE.o];exact Fr.refl _ _⟩
        case round =>
         obtain⟨n,hs2,hn,rfl,Wa,M8,hrs,hb,Na,y9⟩:=hrel
         have HM3:=ai Wa
         have Hb:=ai hrs
         have yC:=ai hb
         have HFi:=ai Na
         have HFs:=ai y9
         have acJ:=hb.size
         clear Vj dJ jk HVE I8 hlen' Wa hrs hb
         by_cases hnP:n<P
         · have BOi:=ai (Na.keep BO1.o ZB.o)
           have Z3:=ai (y9.keep BS.o qP.o)
           have y6:=B.cell BOi.o 6 rfl
           have z0:=B.cell Z3.o 0 rfl
           have z1:=B.cell Z3.o 1 rfl
           have z2:=B.cell Z3.o 2 rfl
           have z3:=B.cell Z3.o 3 rfl
           have z4:=B.cell Z3.o 4 rfl
           have HPi:=ai (Ws.o.fr Na)
           have hpb:=RV.o n hnP
           have uv:=ai (LM.Fj o ps ⟨pg,P,dt,wb,qZ0⟩ n)
           have HG2:=ai (Tn.o n hnP)
           have Po:Hid (∀V,Below wr.heap.size wr V->Calls Tryz.prog 120 #[I (o.base+pg+(n:Int)),.slice ap ps.length cp] V fun e w'=>(∃v,e=.returned v/\w'.ownsRow V.heap.size 121 2 v (LM.gq (o.base+pg+(n:Int)) ps).length ((LM.gq (o.base+pg+(n:Int)) ps).flatMap LM.Ai))/\Below V.heap.size V w'):=fun V hb=>DG _ ps ap cp V hpb.1 hpb.2 (HPi.o.below hb) (by omega) adY.o
           have qN:Hid (LM.pgN o ps ⟨pg,P,dt,wb,qZ0⟩ n=⟨o.base+pg+(n:Int),LM.sG ⟨pg,P,dt,wb,qZ0⟩ n,LM.gq (o.base+pg+(n:Int)) ps⟩):=rfl
           obtain⟨F,hF⟩:=ex (LM.gq (o.base+pg+(n:Int)) ps)
           obtain⟨D,hD⟩:=ex (LM.sG ⟨pg,P,dt,wb,qZ0⟩ n)
           rw[<- hF] at Po qN
           rw[<- hD] at HG2 qN
           have hl3:hs2.length<=100000:=by omega
           have hrow:=Hb.o.row.lt
           have Zk:=ai hrow
           clear hF hD Na y9 hrow
           obtain⟨i0,hin,hz0,hz1,hz2⟩:=info_parts MS
           go_wp2_with (first
            | (go_at_call 119;refine(HG2.o _).mono ?_;rintro e w2 ⟨rfl,hb⟩;have Cv:=ai hb;clear hb)
            | (go_at_call 120;refine(Po.o _ Cv.o).mono ?_;rintro e w3 ⟨⟨v8,rfl,yF⟩,hb⟩;obtain⟨af,cf,hvf,hfn⟩:=TP yF u4.ownBlock (fun q hq=>by have:=(Zk.o q hq).2;have:=Cv.o.size;omega);subst hvf;have qB:=ai hfn;have Ve:=ai (Cv.o.trans (hb.mono Cv.o.size));have uy:=ai (Ve.o.alloc Ve.o.size (.cells #[I (o.base+pg+(n:Int)),.string D,.slice af F.length cf] 62));have Zm:=ai (Hb.o.below uy.o);have adZ:=ai (qB.o.below ((Below.refl w3.heap.size w3).alloc (Nat.le_refl _) (.cells #[I (o.base+pg+(n:Int)),.string D,.slice af F.length cf] 62)));have Cx:=ai (B.new w3 #[I (o.base+pg+(n:Int)),.string D,.slice af F.length cf] 62);have Uo:w.heap.size<=w3.heap.size:=Nat.le_trans acJ Ve.o.size;clear hb yF hfn)
            | (at_builtin;refine wpList_append_lies _ rfl _ _ 23 rfl w.heap.size 62 i0 (.agg #[I 0,.string ⟨#[]⟩,Nl]) 3 48 Tryz.underlying23 hin hz0 hz1 hz2 rfl (by decide) _ _ _ rfl Zm.o.row (Ad w3.heap.size 0) 1 1 [I (o.base+pg+(n:Int)),.string D,.slice af F.length cf] rfl rfl (B.news Cx.o) (by intro u hu;simp at hu;rcases hu with rfl | rfl | rfl <;> rfl) (by decide) (by unfold maxLen;omega) (by omega) (by simp;omega) (w3.heap.size+1) (by simp) ?_;intro gg YU w4 SV hgrow QI ahV;have Ch:=ai SV;have Cn:=ai hgrow;have K0:=ai QI;clear SV hgrow QI))
           have YA:u4.ownBlock=some gg∨gg=(w3.alloc (.cells #[I (o.base+pg+(n:Int)),.string D,.slice af F.length cf] 62)).heap.size:=by rw[World.size_alloc];exact K0.o
           have HF4:=ai ((Fr.aF uy.o u4.ownBlock).trans (Fr.P6 Cn.o Cn.o.size YA))
           go_roundw
           case rel=>exact⟨n+1,hs2++[⟨o.base+pg+(n:Int),D,F,af,cf⟩],by omega,by go_num,by rw[uv.o,qN.o,List.map_append,HM3.o,List.append_assoc];rfl,by rw[List.length_append];simp;omega,(Rs.more (x:=⟨o.base+pg+(n:Int),D,F,af,cf⟩) Zm.o.fix adZ.o Ch.o Cn.o Cn.o.size YA),((yC.o.trans (uy.o.mono yC.o.size)).grown Cn.o (by simp;omega) (fun q hq=>by have:=(Zk.o q hq).1;omega)),HFi.o.trans HF4.o,HFs.o.trans HF4.o⟩
           case measure=>simp[intOf];omega
         · obtain rfl:n=P:=by omega
           clear Na y9
           go_wp2
           go_roundw
           case rel=>exact⟨k+1,hs2,by omega,by go_num,by rw[kG.o,HM3.o,List.append_assoc],by omega,Hb.o,yC.o,HFi.o⟩
           case measure=>simp[intOf];omega
      · obtain rfl:k=o.i.cW.length:=by omega
        clear Uz hrs hb Na
        go_wp2
        go_roundw
        case rel=>exact⟨a+1,_,hs',by omega,by go_num,adF.o,I8.o,by omega,lu.o,Ss.o⟩
        case measure=>simp[intOf];omega
  · obtain rfl:a=l.length:=by omega
    have HX:Hid (R=some E):=by rw[HR.o];exact HE.o
    obtain⟨ah,ch,hv,hh,hc⟩:=Ha.o.has
    subst hv
    have Wz:=ai hh
    clear hE Uz hrs hb hh
    go_wp2
    go_ret2
    show I4 R w _ _
    rw[HX.o]
    exact⟨kH.o,hs,ah,ch,Tq.o,rfl,Wz.o,hc⟩
end LW
end Go.Proofs.YtkdigjpejnebkaaGreat
