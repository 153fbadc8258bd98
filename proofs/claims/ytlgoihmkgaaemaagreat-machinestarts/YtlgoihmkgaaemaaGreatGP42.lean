import Derived.Test.YtlgoihmkgaaemaaGreatGP41
set_option maxHeartbeats 20000000
set_option linter.unusedVariables false
set_option maxRecDepth 100000
set_option linter.unusedSimpArgs false
namespace Go.Proofs.YtlgoihmkgaaemaaGreat
open Go.RowKit Tryz
variable (nm:ByteArray) (an ag ay ar:Option Addr) (cn gl cg cy cr:Nat) (en:Int) (w:World)
theorem aku:Calls prog 164 #[.agg #[.string nm,.slice an 0 cn,.slice ag gl cg,.slice ay 0 cy,.slice ar 0 cr,I en]] w λe w'=>e=.returned (.bool true)/\Below w.heap.size w w':=by
 have HB:=aB ((aN w.heap.size w).alloc (aJ _) (.cells #[.string nm,.slice an 0 cn,.slice ag gl cg,.slice ay 0 cy,.slice ar 0 cr,I en] 56));go_enter func164,ntmps164;go_wp2;go_loopw [10] (λiv wr=>iv=I 0/\Below w.heap.size w wr) (λ_ _=>0)
 case atStart=>grind [Hid.o]
 case round =>
  obtain⟨rfl,hb⟩:=hrel;have iI:=aB hb;clear hb;go_wp2;go_ret;exact⟨rfl,iI.o⟩
theorem akv:Calls prog 165 #[.agg #[.string nm,.slice an 0 cn,.slice ag gl cg,.slice ay 0 cy,.slice ar 0 cr,I en]] w λe w'=>e=.returned (.bool true)/\Below w.heap.size w w':=by
 have HB:=aB ((aN w.heap.size w).alloc (aJ _) (.cells #[.string nm,.slice an 0 cn,.slice ag gl cg,.slice ay 0 cy,.slice ar 0 cr,I en] 56));go_enter func165,ntmps165;go_wp2;go_loopw [11] (λiv wr=>iv=I 0/\Below w.heap.size w wr) (λ_ _=>0)
 case atStart=>grind [Hid.o]
 case round =>
  obtain⟨rfl,hb⟩:=hrel;have iI:=aB hb;clear hb;go_wp2;go_ret;exact⟨rfl,iI.o⟩
theorem ZZ:Calls prog 163 #[.slice ay 0 cy] w λe w'=>e=.returned Nl/\Below w.heap.size w w':=by
 go_enter func163,ntmps163;go_wp2;go_loopw [3,8] (λsv iv wr=>sv=Nl/\iv=I 0/\Below w.heap.size w wr) (λ_ _ _=>0)
 case atStart=>grind [Below.refl]
 case round =>
  obtain⟨rfl,rfl,hb⟩:=hrel;have iI:=aB hb;clear hb;go_wp2;go_ret;exact⟨rfl,iI.o⟩
theorem ahJ (hn:∀V,Calls prog 200 #[.string nm] V λe w'=>e=.returned (.bool true)/\Below V.heap.size V w'):Calls prog 158 #[.agg #[.string nm,.slice an 0 cn,.slice ag gl cg,.slice ay 0 cy,.slice ar 0 cr,I en]] w λe w'=>e=.returned (.bool true)/\Below w.heap.size w w':=by
 have HN:=aB hn;clear hn;have HB:=aB ((aN w.heap.size w).alloc (aJ _) (.cells #[.string nm,.slice an 0 cn,.slice ag gl cg,.slice ay 0 cy,.slice ar 0 cr,I en] 56));have X0:=aB (bG w #[.string nm,.slice an 0 cn,.slice ag gl cg,.slice ay 0 cy,.slice ar 0 cr,I en] 56);go_enter func158,ntmps158;go_wp2_with (go_at_call 200;refine(HN.o _).mono ?_;rintro e w1 ⟨rfl,b⟩;have dz:=aB (HB.o.trans (b.mono HB.o.size));have X1:=aB (aO X0.o b (aM X0.o));have x1:w1.cell? (Ad w.heap.size 1)=some (.slice an 0 cn):=aA X1.o 1 rfl;clear b);go_loopw [16] (λiv wr=>iv=I 0/\wr.heap[w.heap.size]?=some (.cells #[.string nm,.slice an 0 cn,.slice ag gl cg,.slice ay 0 cy,.slice ar 0 cr,I en] 56 (0,0))/\Below w.heap.size w wr) (λ_ _=>0)
 case atStart=>grind [Hid.o]
 case round =>
  obtain⟨rfl,hx,hb⟩:=hrel;have HX:=aB hx;have iI:=aB hb;have y3:wr.cell? (Ad w.heap.size 3)=some (.slice ay 0 cy):=aA hx 3 rfl;clear hb hx dz X1 x1;go_wp2;clear y3;go_loopw [27] (λiv wi=>iv=I 0/\wi.heap[w.heap.size]?=some (.cells #[.string nm,.slice an 0 cn,.slice ag gl cg,.slice ay 0 cy,.slice ar 0 cr,I en] 56 (0,0))/\Below w.heap.size w wi) (λ_ _=>0)
  case atStart=>exact⟨rfl,HX.o,iI.o⟩
  case round =>
   clear HX iI;obtain⟨rfl,hx,hb⟩:=hrel;have kE:=aB hb;have y4:wr.cell? (Ad w.heap.size 4)=some (.slice ar 0 cr):=aA hx 4 rfl;clear hb hx;go_wp2;clear y4;go_loopw [39] (λiv wi=>iv=I 0/\Below w.heap.size w wi) (λ_ _=>0)
   case atStart=>exact⟨rfl,kE.o⟩
   case round =>
    obtain⟨rfl,hb⟩:=hrel;have vX:=aB hb;clear hb;go_wp2;go_ret;exact⟨rfl,vX.o⟩
theorem ahK (gs:List qw) (en:Int) (an ag ay ar:Option Addr) (cn cg cy cr:Nat) (w:World) (h:qM w ⟨an,cn,ag,cg,ay,cy,ar,cr⟩ ⟨nm,[],gs,[],[],en⟩) (hf:KL ⟨nm,[],gs,[],[],en⟩) (h1:uR nm=true) (h2:Dp ⟨nm,[],gs,[],[],en⟩=true) (h3:gs.all lU=true) (h4:Dq gs=true) (h5:Dn ⟨nm,[],gs,[],[],en⟩=true) :
  Calls prog 109 #[.agg #[.string nm,.slice an 0 cn,.slice ag gs.length cg,.slice ay 0 cy,.slice ar 0 cr,I en]] w λe w'=>e=.returned (I 0)/\Below w.heap.size w w':=by
 have PE:Hid (∀V,Calls prog 200 #[.string nm] V λe w'=>e=.returned (.bool true)/\Below V.heap.size V w'):=λV=>(WH nm V hf.name).mono λe w' ⟨e1,e2⟩=>⟨Γ,by grind [Below.refl]⟩
 have Sr:=aB (λV=>ahJ nm an ag ay ar cn gs.length cg cy cr en V PE.o);have K:Hid (∀V,Calls prog 159 #[.agg #[.string nm,.slice an 0 cn,.slice ag gs.length cg,.slice ay 0 cy,.slice ar 0 cr,I en]] V λe w'=>e=.returned (.bool true)/\Below V.heap.size V w'):=λV=>(KD ⟨nm,[],gs,[],[],en⟩ ⟨an,cn,ag,cg,ay,cy,ar,cr⟩ V hf).mono λe w' ⟨e1,e2⟩=>⟨Γ,e2⟩
 have r:Hid (∀V,Below w.heap.size w V->Calls prog 160 #[.slice ag gs.length cg] V λe w'=>e=.returned (.bool true)/\Below V.heap.size V w'):=λV hV=>(KC gs ag cg V (h.below hV).jT hf.jT hf.seg).mono λe w' ⟨e1,e2⟩=>⟨Γ,e2⟩
 have A:Hid (∀V,Below w.heap.size w V->Calls prog 161 #[.slice ag gs.length cg] V λe w'=>e=.returned (.bool false)/\Below V.heap.size V w'):=λV hV=>(Tt gs ag cg V (h.below hV).jT hf.jT h3).mono λe w' ⟨e1,e2⟩=>⟨Γ,e2⟩
 have q:Hid (∀ao c V,Calls prog 162 #[.slice ao 0 c] V λe w'=>e=.returned (.bool false)/\Below V.heap.size V w'):=λao c V=>(ZY [] ao c V (λh=>absurd h (gY _)) (rB _) (λk hk=>absurd hk (gY _))).mono λe w' ⟨e1,e2⟩=>⟨by rw[e1];rfl,e2⟩
 have Tg:=aB (λV=>ZZ ay cy V);have G:=aB (λV=>aku nm an ag ay ar cn gs.length cg cy cr en V);have J:=aB (λV=>akv nm an ag ay ar cn gs.length cg cy cr en V);have vt:Hid (∀V,Below w.heap.size w V->Calls prog 166 #[.agg #[.string nm,.slice an 0 cn,.slice ag gs.length cg,.slice ay 0 cy,.slice ar 0 cr,I en]] V λe w'=>e=.returned (.bool true)/\Below V.heap.size V w'):=λV hV=>(KG ⟨nm,[],gs,[],[],en⟩ ⟨an,cn,ag,cg,ay,cy,ar,cr⟩ V (h.below hV) hf h3).mono λe w' ⟨e1,e2⟩=>⟨Γ,e2⟩
 generalize gs.length=gl at Sr K r A G J vt ⊢;clear h hf h1 h2 h3 h4 h5 PE;have HB:=aB ((aN w.heap.size w).alloc (aJ _) (.cells #[.string nm,.slice an 0 cn,.slice ag gl cg,.slice ay 0 cy,.slice ar 0 cr,I en] 56));have X:=aB (bG w #[.string nm,.slice an 0 cn,.slice ag gl cg,.slice ay 0 cy,.slice ar 0 cr,I en] 56);go_enter func109,ntmps109;go_wp2_with (first
  | (go_at_call 158;refine(Sr.o _).mono ?_;rintro e w1 ⟨rfl,hb⟩;have dz:=aB (HB.o.trans (hb.mono HB.o.size));have X1:=aB (aO X.o hb (aM X.o));clear hb;have a2:w1.cell? (Ad w.heap.size 0)=some (.string nm):=aA X1.o 0 rfl;have ad:w1.cell? (Ad w.heap.size 1)=some (.slice an 0 cn):=aA X1.o 1 rfl;have U:w1.cell? (Ad w.heap.size 2)=some (.slice ag gl cg):=aA X1.o 2 rfl;have a6:w1.cell? (Ad w.heap.size 3)=some (.slice ay 0 cy):=aA X1.o 3 rfl;have O:w1.cell? (Ad w.heap.size 4)=some (.slice ar 0 cr):=aA X1.o 4 rfl;have T:w1.cell? (Ad w.heap.size 5)=some (I en):=aA X1.o 5 rfl)
  | (go_at_call 159;refine(K.o _).mono ?_;rintro e w2 ⟨rfl,hb⟩;have iI:=aB (dz.o.trans (hb.mono dz.o.size));have X2:=aB (aO X1.o hb (aM X1.o));clear hb;have a0:w2.cell? (Ad w.heap.size 2)=some (.slice ag gl cg):=aA X2.o 2 rfl)
  | (go_at_call 160;refine(r.o _ iI.o).mono ?_;rintro e w3 ⟨rfl,hb⟩;have kE:=aB (iI.o.trans (hb.mono iI.o.size));have X3:=aB (aO X2.o hb (aM X2.o));clear hb;have al:w3.cell? (Ad w.heap.size 2)=some (.slice ag gl cg):=aA X3.o 2 rfl)
  | (go_at_call 161;refine(A.o _ kE.o).mono ?_;rintro e w4 ⟨rfl,hb⟩;have vX:=aB (kE.o.trans (hb.mono kE.o.size));have X4:=aB (aO X3.o hb (aM X3.o));clear hb;have a8:w4.cell? (Ad w.heap.size 1)=some (.slice an 0 cn):=aA X4.o 1 rfl)
  | (go_at_call 162;refine(q.o _ _ _).mono ?_;rintro e w7 ⟨rfl,hb⟩;have F:=aB (y.o.trans (hb.mono y.o.size));have X7:=aB (aO X6.o hb (aM X6.o));clear hb;have aj:w7.cell? (Ad w.heap.size 0)=some (.string nm):=aA X7.o 0 rfl;have ah:w7.cell? (Ad w.heap.size 1)=some (.slice an 0 cn):=aA X7.o 1 rfl;have R:w7.cell? (Ad w.heap.size 2)=some (.slice ag gl cg):=aA X7.o 2 rfl;have a3:w7.cell? (Ad w.heap.size 3)=some (.slice ay 0 cy):=aA X7.o 3 rfl;have N:w7.cell? (Ad w.heap.size 4)=some (.slice ar 0 cr):=aA X7.o 4 rfl;have ae:w7.cell? (Ad w.heap.size 5)=some (I en):=aA X7.o 5 rfl)
  | (go_at_call 162;refine(q.o _ _ _).mono ?_;rintro e w5 ⟨rfl,hb⟩;have J0:=aB (vX.o.trans (hb.mono vX.o.size));have X5:=aB (aO X4.o hb (aM X4.o));clear hb;have a1:w5.cell? (Ad w.heap.size 3)=some (.slice ay 0 cy):=aA X5.o 3 rfl)
  | (go_at_call 163;refine(Tg.o _).mono ?_;rintro e w6 ⟨rfl,hb⟩;have y:=aB (J0.o.trans (hb.mono J0.o.size));have X6:=aB (aO X5.o hb (aM X5.o));clear hb)
  | (go_at_call 164;refine(G.o _).mono ?_;rintro e w8 ⟨rfl,hb⟩;have B:=aB (F.o.trans (hb.mono F.o.size));have X8:=aB (aO X7.o hb (aM X7.o));clear hb;have M:w8.cell? (Ad w.heap.size 0)=some (.string nm):=aA X8.o 0 rfl;have a7:w8.cell? (Ad w.heap.size 1)=some (.slice an 0 cn):=aA X8.o 1 rfl;have a5:w8.cell? (Ad w.heap.size 2)=some (.slice ag gl cg):=aA X8.o 2 rfl;have aa:w8.cell? (Ad w.heap.size 3)=some (.slice ay 0 cy):=aA X8.o 3 rfl;have ac:w8.cell? (Ad w.heap.size 4)=some (.slice ar 0 cr):=aA X8.o 4 rfl;have Q:w8.cell? (Ad w.heap.size 5)=some (I en):=aA X8.o 5 rfl)
  | (go_at_call 165;refine(J.o _).mono ?_;rintro e w9 ⟨rfl,hb⟩;have b:=aB (B.o.trans (hb.mono B.o.size));have X9:=aB (aO X8.o hb (aM X8.o));clear hb;have ab:w9.cell? (Ad w.heap.size 0)=some (.string nm):=aA X9.o 0 rfl;have a4:w9.cell? (Ad w.heap.size 1)=some (.slice an 0 cn):=aA X9.o 1 rfl;have Z:w9.cell? (Ad w.heap.size 2)=some (.slice ag gl cg):=aA X9.o 2 rfl;have af:w9.cell? (Ad w.heap.size 3)=some (.slice ay 0 cy):=aA X9.o 3 rfl;have W:w9.cell? (Ad w.heap.size 4)=some (.slice ar 0 cr):=aA X9.o 4 rfl;have Y:w9.cell? (Ad w.heap.size 5)=some (I en):=aA X9.o 5 rfl)
  | (go_at_call 166;refine(vt.o _ b.o).mono ?_;rintro e a9 ⟨rfl,hb⟩;have L:=aB (b.o.trans (hb.mono b.o.size));clear hb))
 go_ret;exact⟨rfl,L.o⟩
open Go.RowKit Go.WideMaps Go.Maps
theorem QZ (l:List jd) (ao:Option Addr) (cap:Nat) (w:World) (h:Em w ao l) (hf:afh l) (Dk:∀k,k<l.length->∀V,Below w.heap.size w V->Calls prog 109 #[.agg (jU (cQ l k).a (cQ l k).i)] V λe w'=>e=.returned (I (mM (cQ l k).i))/\Below V.heap.size V w'):Calls prog 63 #[.slice ao l.length cap] w (akB l w):=by
 have HH:=aB h;have HF:=aB hf;have OJ:=aB Dk;have hn:l.length<=140737488351232:=hf.1;clear h hf Dk;have U:=@run_makeMap prog;go_enter func63,ntmps63;go_wp2;go_loopw [12] (λi wr=>∃k:Nat,k<=l.length/\i=I k/\pd l k=0/\Below w.heap.size w wr) (λi _=>l.length-(intOf i).toNat)
 case atStart=>exact⟨0,ω,rfl,rfl,aN _ _⟩
 case round =>
  obtain⟨k,hk,rfl,hz,hb⟩:=hrel;have HZ:=aB hz;have pI:=aB hb;clear hz;by_cases hlt:k<l.length
  . obtain⟨b,off,K,Q,dZ⟩:=(HH.o.below hb) ω;subst K;obtain⟨⟨c0,c1,c2,c3,c4,c5⟩,hi⟩:=dZ k hlt;have Pc:=HF.o.2 k hlt;have uZ:=aB (OJ.o k hlt);have HE:Hid (pd l (k+1)=mM (cQ l k).i):=by
     show _=_;simp only[pd];rw[aQ HZ.o]
    have y:Hid (mM (cQ l k).i≠0->pj l=mM (cQ l k).i):=λg=>by
     have e1:pd l (k+1)≠0:=by rw[HE.o];exact g
     have e2:=FY l (k+1) e1 l.length ω;unfold pj;rw[e2,aH e1,HE.o]
    generalize cQ l k=x at c0 c1 c2 c3 c4 c5 hi Pc HE y uZ;clear dZ hb;obtain⟨⟨nm,ns,gs,ys,rs,en⟩,⟨an,cn,ag,cg,ay,cy,ar,cr⟩⟩:=x;simp only at c0 c1 c2 c3 c4 c5;have jo:=aB (pI.o.alloc pI.o.size (.cells #[.string nm,.slice an ns.length cn,.slice ag gs.length cg,.slice ay ys.length cy,.slice ar rs.length cr,I en] 56));have HC:Hid (∀W,Below wr.heap.size wr W->Calls prog 109 #[.agg #[.string nm,.slice an ns.length cn,.slice ag gs.length cg,.slice ay ys.length cy,.slice ar rs.length cr,I en]] W λe w'=>e=.returned (I (mM ⟨nm,ns,gs,ys,rs,en⟩))/\Below W.heap.size W w'):=λV hb=>uZ.o V (pI.o.trans (hb.mono pI.o.size))
    clear hi Pc uZ OJ;obtain⟨c,hc⟩:=ex (mM ⟨nm,ns,gs,ys,rs,en⟩);simp only at HE y;rw[<- hc] at HC HE y;clear hc;by_cases hcz:c=0
    . subst hcz;clear y;go_wp2_with (go_at_call 109;refine(HC.o _ ((aN _ _).alloc (aJ _) _)).mono ?_;rintro e w1 ⟨rfl,hb⟩;have jo:=aB (jo.o.trans (hb.mono jo.o.size));clear hb);go_roundw
      case rel=>exact⟨k+1,ω,by go_num,HE.o,jo.o⟩
      case measure=>simp[intOf];omega
    have B:=aB (y.o hcz);have X:(c==0)=false:=by grind
    clear y HE;go_wp2_with (go_at_call 109;refine(HC.o _ ((aN _ _).alloc (aJ _) _)).mono ?_;rintro e w1 ⟨rfl,hb⟩;have jo:=aB (jo.o.trans (hb.mono jo.o.size));clear hb)
    go_ret2
    refine⟨jo.o,?_⟩;rw[B.o,aH hcz];rfl
  obtain rfl:k=l.length:=by omega
  clear hb;obtain⟨m,hm⟩:=ex wr.heap.size;have O:w.heap.size<=m:=by rw[hm];exact pI.o.size
  have R:Hid ((wr.alloc (.map #[] 0)).ownsMap prog 9 aam m 0 (.map [])):=by
   rw[hm];exact World.ownsMap_made _ _ _ _
  have HM:=aB hm;clear hm;go_wp2;rw[<- HM.o];go_loopw [25] (λi wi=>∃(k:Nat) (D:DataW Value),k<=l.length/\i=I k/\wi.ownsMap prog 9 aam m k D/\Lb l k D/\Below w.heap.size w wi) (λi _=>l.length-(intOf i).toNat)
  case atStart=>exact⟨0,.map [],rB _,rfl,R.o,ac2 l,pI.o.alloc pI.o.size _⟩
  case round =>
   obtain⟨k,D,hk,rfl,q,MH,hb⟩:=hrel;have HW:=aB q;have HN:=aB MH;have F:=aB hb;by_cases hlt:k<l.length
   . obtain⟨b,off,K,Q,dZ⟩:=(HH.o.below hb) ω;subst K;obtain⟨⟨c0,c1,c2,c3,c4,c5⟩,hi⟩:=dZ k hlt;have Pc:=(HF.o.2 k hlt).name;have N:=aB (ac3 hlt q.isMap (q.tidy QP) MH);generalize cQ l k=x at c0 c1 c2 c3 c4 c5 Pc N;clear dZ hb hi q MH;obtain⟨⟨nm,ns,gs,ys,rs,en⟩,⟨an,cn,ag,cg,ay,cy,ar,cr⟩⟩:=x;simp only at c0 c1 c2 c3 c4 c5 Pc;have M:=Vc Pc;have mL:k<maxLen:=by unfold maxLen;omega
     have jo:=aB (F.o.alloc F.o.size (.cells #[.string nm,.slice an ns.length cn,.slice ag gs.length cg,.slice ay ys.length cy,.slice ar rs.length cr,I en] 56));have ot:=aB (HW.o.alloc (.cells #[.string nm,.slice an ns.length cn,.slice ag gs.length cg,.slice ay ys.length cy,.slice ar rs.length cr,I en] 56));go_wp2_with (first | (at_mapUpdate;refine Wm _ rfl _ _ _ 124 rfl 9 56 QP underlying124 aam m k D rfl ot.o mL _ _ _ rfl rfl M _ [] rfl ?_;intro w1 A r;have Fp:=aB A;have dz:=aB (jo.o.grown r jo.o.size (λj hj=>by cases hj;exact O));clear A r) | go_in);go_roundw
     case rel=>exact⟨k+1,_,ω,by go_num,Fp.o,N.o,dz.o⟩
     case measure=>simp[intOf];omega
   obtain rfl:k=l.length:=by omega
   have J:=q.len underlying124 3;have L:=aB HZ.o;by_cases ho:o8 (ku l) l.length=true
   . have G:=MH.all.2 ho;have B:Hid (pj l=0):=by
      show _=_;unfold pj yg;rw[aQ L.o,tV,ho];rfl
     rw[G] at J;clear q MH hb G ho;go_wp2
     go_ret2
     refine⟨F.o,?_⟩;rw[B.o,aQ rfl];exact⟨_,D,rfl,HW.o,HN.o⟩
   have G:Maps.size D<l.length:=by
    have h1:=MH.le;have h2:=MH.all;rcases Nat.lt_or_ge (Maps.size D) l.length with g | g
    . exact g
    exact(ho (h2.1 ω)).elim
   have B:Hid (pj l=5):=by
    show _=_;unfold pj yg;rw[aQ L.o,tV,aH ho]
   generalize Maps.size D=z at J G;have T:(z:Int)<(l.length:Int):=by omega
   clear q MH hb ho;go_wp2
   go_ret2
   refine⟨F.o,?_⟩;rw[B.o,aH Δ];rfl
theorem MV (l:List kI) (ao:Option Addr) (cap:Nat) (w:World) (h:Q6 l ao w) (hl7:l.length<=7) (hpx:∀k,k<l.length->∀V,Below w.heap.size w V->Calls prog 112 #[.agg (pS (dX l k)),.slice ao l.length cap] V (Ds (wB l (dX l k)) V)):Calls prog 66 #[.slice ao l.length cap] w (KS (tu l) w):=by
 have HO:=aB h;have aQ:=aB hpx;clear h hpx;obtain⟨R,hR⟩:=ex (tu l);have HR:Hid (R=uF l l.length):=hR;rw[<- hR];clear hR;obtain⟨i0,a4,a9,au,am⟩:=mQ Vf;go_enter func66,ntmps66;go_wp2;go_loopw [15,4] (λi v wr=>∃(a:Nat) (E:List F8) (hs:List bD),a<=l.length/\i=I a/\uF l a=some E/\hs.map eD=E/\hs.length<=a*1600/\B6 w.heap.size wr v hs/\Below w.heap.size w wr) (λi _ _=>l.length-(intOf i).toNat)
 case atStart=>exact⟨0,[],[],ω,rfl,rfl,rfl,ξ,B6.nil _ _,aN _ _⟩
 case round =>
  obtain⟨a,E,hs,bS,rfl,hE,A,a8,y,hb⟩:=hrel;have HE:=aB hE;have a0:=aB A;have Me:=aB y;have pI:=aB hb;by_cases hlt:a<l.length
  . have av:=aB (HO.o.below hb);obtain⟨b,off,b4,bi,dZ⟩:=av.o.has ω;obtain⟨⟨c0,c1,c2,c3,c4,c5,c6⟩,ad⟩:=dZ a hlt;have a1:=HO.o.base a hlt;have Dk:=HO.o.chk a hlt;have N:Hid (∀V,Below wr.heap.size wr V->Calls prog 112 #[.agg (pS (dX l a)),.slice ao l.length cap] V (Ds (wB l (dX l a)) V)):=λV hb=>aQ.o a hlt V (pI.o.trans (hb.mono pI.o.size))
    have o5:Hid (wB l (dX l a)=none->R=none):=λg=>by
     rw[HR.o];refine Ix (k:=a+1) ?_ l.length ω;simp only[uF,HE.o,g]
    have ZE:Hid (∀ps,wB l (dX l a)=some ps->uF l (a+1)=some (E++yM (dX l a) ps (dX l a).i.jT.length)):=λps g=>by simp only[uF,HE.o,g]
    have I9:Hid (∀ps,wB l (dX l a)=some ps->ps.length<=16/\∀j,j<ps.length->Xi (yi ps j)):=λps g=>by
     have h1:=K5 g;have h2:=(wL Dk).2.2.2.2;exact⟨ω,Q9 Dk a1.1 a1.2 _ ps (aJ _) g⟩
    obtain⟨b2,ZL,bq,bt,ZT⟩:=HO.o.has ω;have Ww:=(ZT a hlt).2;generalize dX l a=o at Ww c0 c1 c2 c3 c4 c5 c6 ad a1 Dk N o5 ZE I9;have c8:=wL Dk;have bA:=aB (yh Dk);simp only[pS] at N;obtain⟨bs,ZK,ae,bz,aD⟩:=Ww.jT ω;have b6:=aB aD;rw[ae] at N c2;clear dZ hb hE A y ad aD ae Ww ZT bq bt;subst b4;have jo:=aB (pI.o.alloc pI.o.size (.cells #[.string o.i.name,.slice o.a.an o.i.needs.length o.a.cn,.slice (some (Ad bs ZK)) o.i.jT.length o.a.cg,.slice o.a.ay o.i.syms.length o.a.cy,.slice o.a.ar o.i.qH.length o.a.cr,I o.i.entry,I o.base] 131));have PC:=aB ((aN wr.heap.size wr).alloc (aJ _) (.cells #[.string o.i.name,.slice o.a.an o.i.needs.length o.a.cn,.slice (some (Ad bs ZK)) o.i.jT.length o.a.cg,.slice o.a.ay o.i.syms.length o.a.cy,.slice o.a.ar o.i.qH.length o.a.cr,I o.i.entry,I o.base] 131));have BO:=aB (bG wr #[.string o.i.name,.slice o.a.an o.i.needs.length o.a.cn,.slice (some (Ad bs ZK)) o.i.jT.length o.a.cg,.slice o.a.ay o.i.syms.length o.a.cy,.slice o.a.ar o.i.qH.length o.a.cr,I o.i.entry,I o.base] 131);have Cv:=aB (N.o _ PC.o);cases e:wB l o with
    | none =>
     have bv:=aB (o5.o e);rw[e] at Cv;clear e o5 ZE I9;go_wp2_with (go_at_call 112;refine Cv.o.mono ?_;rintro e w1 ⟨hb,rfl⟩;have dz:=aB (jo.o.trans (hb.mono jo.o.size));clear hb)
     go_ret2
     show KS R w _ _;rw[bv.o];exact⟨dz.o,rfl⟩
    | some ps =>
     have ba:=aB (ZE.o ps e);obtain⟨bX,aw⟩:=I9.o ps e;have bd:=aB aw;rw[e] at Cv;clear e o5 ZE I9 aw;have MG:∀q,u4.ownBlock=some q->q<wr.heap.size:=λq hq=>(Me.o.row.lt q hq).2
     have J:=aB MG;clear MG;go_wp2_with (go_at_call 112;refine Cv.o.mono ?_;rintro e w1 ⟨hb,v7,rfl,aF⟩;have dz:=aB (jo.o.trans (hb.mono jo.o.size));have Fp:=aB (PC.o.trans (hb.mono PC.o.size));have Ke:=aB aF;have W:=aB (aO BO.o hb (aM BO.o));have g2:=aA W.o 2 rfl;clear hb aF);obtain⟨ap,cp,b1,aq⟩:=acQ Ke.o u4.ownBlock (λq hq=>by have:=J.o q hq;simp;omega);subst b1;have ac:=aB aq;have aP:=aB (Me.o.below Fp.o);have aS:=pI.o.size;obtain⟨rb,MG⟩:=ex u4.ownBlock;have Kc:=aB MG;rw[<- MG] at ac J;clear aq Ke Cv N PC jo Me Fp g2 BO c0 c1 c2 c3 c4 c5 c6 MG av bi;generalize wr.heap.size=ob at W J aS ⊢;have bo:Hid (some ob≠rb):=λe=>by have:=J.o ob e.symm;omega
     clear pI J;go_loopw [31,4] (λi v wm=>∃(k:Nat) (hs':List bD),k<=o.i.jT.length/\i=I k/\hs'.map eD=E++yM o ps k/\hs'.length<=a*1600+k*255/\B6 w.heap.size wm v hs'/\Below w.heap.size w wm/\uu w1 rb wm v.ownBlock) (λi _ _=>o.i.jT.length-(intOf i).toNat)
     case atStart=>exact⟨0,hs,ω,rfl,by rw[a0.o];simp[yM],ω,aP.o,dz.o,by rw[Kc.o];exact uu.refl _ _⟩
     case round =>
      obtain⟨k,hs',hk,rfl,A,Y,y,hb,Qt⟩:=hrel;have YG:=aB A;have Ii:=aB y;have T:=aB hb;have ab:=aB Qt;clear aP Kc a8 a0;by_cases hlk:k<o.i.jT.length
      . obtain⟨c0,c1,c2,c3,c4⟩:=Aw hb bz b6.o k hlk;have O8:=bA.o k hlk;have uy:Hid (yM o ps (k+1)=yM o ps k++Ay o ps (fh o.i.jT k) (fh o.i.jT k).aY.toNat):=rfl;generalize fh o.i.jT k=s at c0 c1 c2 c3 c4 O8 uy;obtain⟨P,hP⟩:∃P:Nat,s.aY=(P:Int):=⟨s.aY.toNat,ω⟩;obtain⟨pg,pn,dt,wb,r⟩:=s;simp only at c0 c1 c2 c3 c4 O8 uy hP;subst hP;rw[kq] at uy;have G:∀q,u4.ownBlock=some q->q<wr.heap.size:=λq hq=>(Ii.o.row.lt q hq).2
        have Q:=aB G;have jo:=aB (T.o.alloc T.o.size (.cells #[I pg,I P,.string dt,.bool wb,.bool r] 166));have PC:=aB ((aN wr.heap.size wr).alloc (aJ _) (.cells #[I pg,I P,.string dt,.bool wb,.bool r] 166));have BS:=aB (bG wr #[I pg,I P,.string dt,.bool wb,.bool r] 166);have DB:=aB (ab.o.trans (uu.cA PC.o u4.ownBlock));have a3:=aB (Ii.o.below PC.o);clear G A y hb Qt;go_wp2;obtain⟨vb,G⟩:=ex u4.ownBlock;have aH:=aB G;rw[<- G] at Q;generalize wr.alloc (.cells #[I pg,I P,.string dt,.bool wb,.bool r] 166)=WA at jo PC BS DB a3 ⊢;generalize wr.heap.size=sb at BS Q ⊢;have bm:Hid (some sb≠vb):=λe=>by have:=Q.o sb e.symm;omega
        clear G PC Q Ii T ab c0 c1 c2 c3 c4;have M:∀n:Nat,n<P->0<=o.base+pg+(n:Int)/\o.base+pg+(n:Int)<=3000:=λn hn=>by omega
        have b3:=aB M;have Nr:Hid (∀n:Nat,n<P->∀V,Calls prog 113 #[.agg #[I pg,I (P:Int),.string dt,.bool wb,.bool r],I n] V λe w'=>e=.returned (.string (wI ⟨pg,P,dt,wb,r⟩ n))/\Below V.heap.size V w'):=λn hn V=>TB ⟨pg,P,dt,wb,r⟩ n V ω (by show dt.size<=100000;omega)
        clear M;go_loopw [37,4] (λi v wi=>∃(n:Nat) (B:List bD),n<=P/\i=I n/\B.map eD=(E++yM o ps k)++Ay o ps ⟨pg,P,dt,wb,r⟩ n/\B.length<=a*1600+k*255+n/\B6 w.heap.size wi v B/\Below w.heap.size w wi/\uu w1 rb wi v.ownBlock/\uu WA vb wi v.ownBlock) (λi _ _=>P-(intOf i).toNat)
        case atStart=>exact⟨0,hs',ω,rfl,by rw[YG.o];simp[Ay],ω,a3.o,jo.o,DB.o,by rw[aH.o];exact uu.refl _ _⟩
        case round =>
         obtain⟨n,B,hn,rfl,al,QK,y,hb,Qt,Jv⟩:=hrel;have a5:=aB al;have Z:=aB y;have X:=aB hb;have ag:=aB Qt;have aX:=aB Jv;have bE:=hb.size;clear a3 jo DB aH YG Y al y hb;by_cases hnP:n<P
         . have b9:=aB (Qt.keep W.o bo.o);have L:=aB (Jv.keep BS.o bm.o);have y6:=aA b9.o 6 rfl;have z0:=aA L.o 0 rfl;have z1:=aA L.o 1 rfl;have z2:=aA L.o 2 rfl;have z3:=aA L.o 3 rfl;have z4:=aA L.o 4 rfl;have bx:=aB (ac.o.fr Qt);have M:=b3.o n hnP;have b0:=aB (TF o ps ⟨pg,P,dt,wb,r⟩ n);have aC:=aB (Nr.o n hnP);have aj:Hid (∀V,Below wr.heap.size wr V->Calls prog 114 #[I (o.base+pg+(n:Int)),.slice ap ps.length cp] V λe w'=>(∃v,e=.returned v/\w'.ownsRow V.heap.size 226 2 v (kZ (o.base+pg+(n:Int)) ps).length ((kZ (o.base+pg+(n:Int)) ps).flatMap Dv))/\Below V.heap.size V w'):=λV hb=>QX _ ps ap cp V M.1 M.2 (bx.o.below hb) ω bd.o
           have Yr:Hid (ac1 o ps ⟨pg,P,dt,wb,r⟩ n=⟨o.base+pg+(n:Int),wI ⟨pg,P,dt,wb,r⟩ n,kZ (o.base+pg+(n:Int)) ps⟩):=rfl;obtain⟨D,hD⟩:=ex (wI ⟨pg,P,dt,wb,r⟩ n);generalize kZ (o.base+pg+(n:Int)) ps=F at aj Yr;rw[<- hD] at aC Yr;have bW:B.length<=100000:=by omega
           have U:=Z.o.row.lt;have Yw:=aB U;clear hD Qt Jv U;obtain⟨i0,a4,a9,au,am⟩:=mQ Vf;go_wp2_with (first
            | (go_at_call 113;refine(aC.o _).mono ?_;rintro e w2 ⟨rfl,hb⟩;have ZB:=aB hb;clear hb)
            | (go_at_call 114;refine(aj.o _ ZB.o).mono ?_;rintro e w3 ⟨⟨v8,rfl,a7⟩,hb⟩;obtain⟨af,cf,bn,aE⟩:=af3 a7 u4.ownBlock (λq hq=>by have:=(Yw.o q hq).2;have:=ZB.o.size;omega);subst bn;have Mk:=aB aE;have a2:=aB (ZB.o.trans (hb.mono ZB.o.size));have C2:=aB (a2.o.alloc a2.o.size (.cells #[I (o.base+pg+(n:Int)),.string D,.slice af F.length cf] 145));have aa:=aB (Z.o.below C2.o);have b8:=aB (Mk.o.below ((aN w3.heap.size w3).alloc (aJ _) (.cells #[I (o.base+pg+(n:Int)),.string D,.slice af F.length cf] 145)));have bp:=aB (bG w3 #[I (o.base+pg+(n:Int)),.string D,.slice af F.length cf] 145);have bL:w.heap.size<=w3.heap.size:=gj bE a2.o.size;clear hb a7 aE)
            | (at_builtin;refine Ku _ rfl _ _ 23 rfl w.heap.size 145 i0 (.agg #[I 0,.string ⟨#[]⟩,Nl]) 3 48 underlying23 a4 a9 au am rfl Δ _ _ _ rfl aa.o.row (Ad w3.heap.size 0) 1 1 [I (o.base+pg+(n:Int)),.string D,.slice af F.length cf] rfl rfl (EW bp.o) (by intro u hu;simp at hu;rcases hu with rfl | rfl | rfl <;> rfl) Δ (by unfold maxLen;omega) ω (by simp;omega) (w3.heap.size+1) ξ ?_;intro gg bP w4 a6 K az c7;have bb:=aB a6;have O:=aB K;have bF:=aB az;clear a6 K az))
           have aL:u4.ownBlock=some gg\/gg=(w3.alloc (.cells #[I (o.base+pg+(n:Int)),.string D,.slice af F.length cf] 145)).heap.size:=by rw[fp];exact bF.o
           have aG:=aB ((uu.cA C2.o u4.ownBlock).trans (uu.aj2 O.o O.o.size aL));go_roundw
           case rel=>exact⟨n+1,B++[⟨o.base+pg+(n:Int),D,F,af,cf⟩],ω,by go_num,by rw[b0.o,Yr.o,P7,a5.o,wj];rfl,by rw[gM];simp;omega,(B6.more (x:=⟨o.base+pg+(n:Int),D,F,af,cf⟩) aa.o.fix b8.o bb.o O.o O.o.size aL),((X.o.trans (C2.o.mono X.o.size)).grown O.o (by simp;omega) (λq hq=>by have:=(Yw.o q hq).1;omega)),ag.o.trans aG.o,aX.o.trans aG.o⟩
           case measure=>simp[intOf];omega
         obtain rfl:n=P:=by omega
         clear Qt Jv;go_wp2;go_roundw
         case rel=>exact⟨k+1,B,ω,by go_num,by rw[uy.o,a5.o,wj],ω,Z.o,X.o,ag.o⟩
         case measure=>simp[intOf];omega
      obtain rfl:k=o.i.jT.length:=by omega
      clear A y hb Qt;go_wp2;go_roundw
      case rel=>exact⟨a+1,_,hs',ω,by go_num,ba.o,YG.o,ω,Ii.o,T.o⟩
      case measure=>simp[intOf];omega
  obtain rfl:a=l.length:=by omega
  have HX:Hid (R=some E):=by rw[HR.o];omega
  obtain⟨ah,ch,hv,hh,hc⟩:=Me.o.has;subst hv;have b5:=aB hh;clear hE A y hb hh;go_wp2
  go_ret2
  show KS R w _ _;rw[HX.o];exact⟨pI.o,hs,ah,ch,a0.o,rfl,b5.o,hc⟩
theorem WW (p:jd) (libs:List jd) (ao:Option Addr) (cap:Nat) (w:World) (hp:qM w p.a p.i) (h:Em w ao libs) (hfp:KL p.i) (hf:afh libs)
  (Dk:∀k,k<(p::libs).length->∀V,Below w.heap.size w V->Calls prog 109 #[.agg (jU (cQ (p::libs) k).a (cQ (p::libs) k).i)] V λe w'=>e=.returned (I (mM (cQ (p::libs) k).i))/\Below V.heap.size V w')
  (hga:∀m D V,al3 (p::libs) m D V->Calls prog 64 #[Cc (cQ (p::libs) 0),.map (some m)] V (Qw (p::libs) (M7 (p::libs) (p::libs).length 0 [0]) V))
  (hpx:∀ix ao cap k V,k<(fB (p::libs) 1 ix).length->Calls prog 112 #[.agg (pS (dX (fB (p::libs) 1 ix) k)),.slice ao (fB (p::libs) 1 ix).length cap] V (Ds (wB (fB (p::libs) 1 ix) (dX (fB (p::libs) 1 ix) k)) V)) :
  Calls prog 22 #[Cc p,.slice ao libs.length cap] w (aff (p::libs) w):=by
 have bP:libs.length<=140737488351232:=hf.1;have aL:=aB Dk;have aF:=aB hga;have az:=aB hpx;have HL:=aB h;have X:Hid (∀V,Below w.heap.size w V->∀k,k<(p::libs).length->qM V (cQ (p::libs) k).a (cQ (p::libs) k).i):=λV hb k hk=>by
  cases k with
  | zero=>exact hp.below hb
  | succ k =>
   have b9:k<libs.length:=by grind
   obtain⟨b,off,_,_,hl⟩:=h ω;exact(hl k b9).2.below hb
 have DB:Hid (∀k,k<(p::libs).length->KL (cQ (p::libs) k).i):=λk hk=>by
  cases k with
  | zero=>exact hfp
  | succ k=>exact hf.2 k Γ
 clear hp h hfp hf Dk hga hpx;have a1:=aB (((aN w.heap.size w).alloc (aJ _) (.cells (jU p.a p.i) 56)).alloc ξ (.cells #[Nl,Nl,I 0] 25));have BM:=aB (bB (bG w (jU p.a p.i) 56) (.cells #[Nl,Nl,I 0] 25));have a7:=bG (w.alloc (.cells (jU p.a p.i) 56)) #[Nl,Nl,I 0] 25;rw[fp] at a7;have BR:=aB a7;clear a7;unfold Cc;go_enter func22,ntmps22;by_cases h6:6<libs.length
 . have HE:Hid (mn (p::libs)=2):=by
    show _=_
    grind [mn]
   clear BM BR;simp only[jU] at a1 ⊢;go_wp2;exact bW (v:=.tuple #[.agg #[Nl,Nl,I 0],I 2]) (by simp[results,results22,go_sem]) rfl ⟨a1.o,by rw[HE.o];simp⟩
 have h7:(p::libs).length<=7:=by grind
 have af:Hid ((((w.alloc (.cells (jU p.a p.i) 56)).alloc (.cells #[Nl,Nl,I 0] 25)).alloc (.cells (jU p.a p.i) 56)).ownsRow (w.heap.size+2) 56 6 (.slice (some (Ad (w.heap.size+2) 0)) 1 1) 1 (qP p)):=by
  have h:=World.ownsRow_lit (base:=w.heap.size+2) (e:=56) (size:=6) ((w.alloc (.cells (jU p.a p.i) 56)).alloc (.cells #[Nl,Nl,I 0] 25)) (jU p.a p.i) 1 ξ Δ rfl;have e:((w.alloc (.cells (jU p.a p.i) 56)).alloc (.cells #[Nl,Nl,I 0] 25)).heap.size=w.heap.size+2:=by simp
  rw[e] at h;exact h
 have kE:=aB (a1.o.alloc (by simp;omega) (.cells (jU p.a p.i) 56));have M:=aB (bB BM.o (.cells (jU p.a p.i) 56));have V4:=aB (bB BR.o (.cells (jU p.a p.i) 56));clear BM BR a1;simp only[jU] at af kE M V4 ⊢;go_wp2_with (at_builtin;refine FH rfl _ _ rfl (w.heap.size+2) p (w.heap.size+2) ρ af.o ao cap libs rfl (HL.o.below kE.o) ω ξ ?_;intro gg bS w1 a4 F au;have dz:=aB (kE.o.grown F (by simp;omega) (λq hq=>Γ));have al:=aB (EY M.o F ξ);have Di:=aB (EY V4.o F ξ);have ac:=aB (af2 (l:=p::libs) a4 au (X.o _ dz.o));clear a4 F au);obtain⟨all,K⟩:=ex (p::libs);have ap:Hid (cQ all 0=p):=by rw[K];rfl
 have a3:libs.length+1=all.length:=by grind
 rw[<- K] at ac X DB h7 aL aF az;rw[<- K,a3];clear af kE M V4 HL;have bb:=aB K;clear K;refine(QZ all _ _ _ ac.o ⟨by grind [bM],DB.o⟩ (λk hk V hV=>aL.o k hk V (dz.o.trans (hV.mono dz.o.size)))).mono ?_;rintro e w2 ⟨hb,y⟩;have iI:=aB (dz.o.trans (hb.mono dz.o.size));have G:=aB (aO al.o hb (aM al.o));have Jj:=aB (aO Di.o hb (aM Di.o));clear hb al Di dz ac;by_cases hby:pj all=0
 . rw[aQ hby] at y;obtain⟨m,D,rfl,a5,MH⟩:=y;obtain⟨Dk,ZP⟩:=TJ hby;have aG:Hid (al3 all m D w2):=⟨ω,h7,Dk,DB.o,ZP,X.o _ iI.o,a5,MH⟩;have zh:=aB Dk;clear a5 MH ZP Dk;have m0:=aA G.o 0 rfl;have m1:=aA G.o 1 rfl;have m2:=aA G.o 2 rfl;have m3:=aA G.o 3 rfl;have m4:=aA G.o 4 rfl;have m5:=aA G.o 5 rfl;have aS:=aB hby;clear hby;go_wp2_with fail;have Kg:=aB (aF.o m D w2 aG.o);rw[ap.o] at Kg;refine Calls.mono (P:=prog) Kg.o ?_;rintro e w3 ⟨hb,y⟩;have kE:=aB (iI.o.trans (hb.mono iI.o.size));have M:=aB (aO G.o hb (aM G.o));have V4:=aB (aO Jj.o hb (aM Jj.o));clear hb G Jj Kg m0 m1 m2 m3 m4 m5;have r0:=aA V4.o 0 rfl;have r1:=aA V4.o 1 rfl;have r2:=aA V4.o 2 rfl;have rf:=br V4.o;have rl:=aM V4.o;cases eg:M7 all all.length 0 [0] with
   | none =>
    rw[eg] at y;obtain rfl:=y;have HE:Hid (mn all=6):=by
     grind [mn,Hid.o]
    clear eg;go_wp2;exact bW (v:=.tuple #[.agg #[Nl,Nl,I 0],I 6]) (by simp[results,results22,go_sem,r0,r1,r2]) rfl ⟨((kE.o.setCell ξ _).setCell ξ _).setCell ξ _,by grind [Hid.o]⟩
   | some ix =>
    rw[eg] at y;obtain⟨Y,b3,L,rfl,hO⟩:=y;have B:=Y.pos;have b1:=Y.le;have O:Hid (yl (dX (fB all 1 ix) (ix.length-1))=jW all 1 ix):=Ph all ix 1 B;have N:Hid (Q6 (fB all 1 ix) b3 w3):=by
     refine⟨hO,by grind [kM],λk hk=>?_,λk hk=>?_,aal zh.o h7 Y⟩
     . grind [kM,uG,Hid.o,Ht.lt]
     grind [kM,uG,Hid.o,Ht.lt]
    have a2:ix.length=(fB all 1 ix).length:=(kM all ix 1).symm;have W:Hid (mn all=if 256<jW all 1 ix then 3 else match tu (fB all 1 ix) with
      | none=>7
      | some _=>0):=by
     grind [mn,Hid.o]
    have aX:=aB eg;generalize jW all 1 ix=EN at O W;have aq:=aB (az.o ix);obtain⟨U9,aa⟩:=ex (fB all 1 ix);rw[<- aa] at N W O hO a2 aq;have b4:=aB aa;rw[a2] at O B b1;rw[a2];clear aa eg Y a2 aG aS;obtain⟨b,off,bs,bm,dZ⟩:=hO B;subst bs;obtain⟨k1,aw⟩:=ex (U9.length-1);have T:k1<U9.length:=by omega
    rw[<- aw] at O;obtain⟨⟨c0,c1,c2,c3,c4,c5,c6⟩,av⟩:=dZ k1 T;have vt:=aB (λV hb=>acT (dX U9 k1) V (av.below hb) (N.o.chk k1 T) (by have:=N.o.base k1 T;omega) (by have:=N.o.base k1 T;omega));generalize dX U9 k1=o at c0 c1 c2 c3 c4 c5 c6 vt O;simp only[pS] at vt;rw[O.o] at vt;have bv:IntKind.i64.wrap ((U9.length:Int)-1)=(k1:Int):=by grind [IntWalk.i64_in]
    clear dZ hO av O aw a3 X DB;by_cases aAq:256<EN
    . have HE:Hid (mn all=3):=by
       grind
      clear W;go_wp2_with (go_at_call 65;refine(vt.o _ (aN _ _)).mono ?_;rintro e w4 ⟨rfl,hb⟩;have vX:=aB (kE.o.trans (hb.mono kE.o.size));have A:=aB (aO V4.o hb (aM V4.o));have s0:=aA A.o 0 rfl;have s1:=aA A.o 1 rfl;have s2:=aA A.o 2 rfl;have sf:=br A.o;clear hb);exact bW (v:=.tuple #[.agg #[Nl,Nl,I 0],I 3]) (by simp[results,results22,go_sem,s0,s1,s2]) rfl ⟨((vX.o.setCell ξ _).setCell ξ _).setCell ξ _,by grind [Hid.o]⟩
    have U:Hid (∀V,Q6 U9 (some (Ad b off)) V->Calls prog 66 #[.slice (some (Ad b off)) U9.length L] V (KS (tu U9) V)):=λV hV=>MV U9 _ L V hV ω (λk hk V' hV'=>aq.o _ L k V' hk)
    cases es:tu U9 with
    | none =>
     have HE:Hid (mn all=7):=by
      grind
     rw[es] at U;clear W es;go_wp2_with (first
      | (go_at_call 65;refine(vt.o _ (aN _ _)).mono ?_;rintro e w4 ⟨rfl,hb⟩;have vX:=aB (kE.o.trans (hb.mono kE.o.size));have A:=aB (aO V4.o hb (aM V4.o));have R:=aB (N.o.below hb);clear hb)
      | (go_at_call 66;refine(U.o _ R.o).mono ?_;rintro e w5 ⟨hb,rfl⟩;have J0:=aB (vX.o.trans (hb.mono vX.o.size));have J:=aB (aO A.o hb (aM A.o));have s0:=aA J.o 0 rfl;have s1:=aA J.o 1 rfl;have s2:=aA J.o 2 rfl;have sf:=br J.o;clear hb))
     exact bW (v:=.tuple #[.agg #[Nl,Nl,I 0],I 7]) (by simp[results,results22,go_sem,s0,s1,s2]) rfl ⟨((J0.o.setCell ξ _).setCell ξ _).setCell ξ _,by grind [Hid.o]⟩
    | some E =>
     have HE:Hid (mn all=0):=by
      grind
     have bF:=aB es;rw[es] at U;clear W es;go_wp2_with (first
      | (go_at_call 65;refine(vt.o _ (aN _ _)).mono ?_;rintro e w4 ⟨rfl,hb⟩;have vX:=aB (kE.o.trans (hb.mono kE.o.size));have A:=aB (aO V4.o hb (aM V4.o));have ab:=aB (aO M.o hb (aM M.o));have R:=aB (N.o.below hb);clear hb)
      | (go_at_call 66;refine(U.o _ R.o).mono ?_;rintro e w5 ⟨hb,hs,ah,ch,aD,rfl,aP,bd⟩;have J0:=aB (vX.o.trans (hb.mono vX.o.size));have J:=aB (aO A.o hb (aM A.o));have aC:=aB (aO ab.o hb (aM ab.o));have ae:=aB (R.o.below hb);have bp:=aB aD;have ba:=aB aP;clear hb aD aP))
     clear U vt N R V4 A M ab kE r0 r1 r2 rf rl c0 c1 c2 c3 c4 c5 c6 bv bm T;obtain⟨b5,bt,bE,ZW,aE⟩:=ae.o.has B;obtain⟨⟨d0,d1,d2,d3,d4,d5,d6⟩,bz⟩:=aE 0 B;have a9:b=b5:=by grind
     have am:off=bt:=by grind
     rw[<- a9,<- am] at d0 d1 d2 d3 d4 d5 d6;rw[<- a9] at ZW;simp only[Nat.zero_mul,jt] at d0 d1 d2 d3 d4 d5 d6;have bL:=ae.o.base 0 B;have b2:0<=p.i.entry/\p.i.entry<4080:=by
      have h:=Pk (zh.o 0 ω)
      grind [Hid.o]
     have ca:Hid ((cQ all 0).i.entry=p.i.entry):=by rw[ap.o];rfl
     have bn:Hid (∀V,Below w5.heap.size w5 V->Calls prog 67 #[.slice (some (Ad b off)) U9.length L] V λe w'=>∃r,e=.returned r/\eO V.heap.size w' r (sG U9)/\Below V.heap.size V w'):=λV hb=>Q0 U9 _ L V (ae.o.below hb) ω
     have Z:=aB (λV=>Q5 (dX U9 0) p.i.entry V ω ω b2.1 ω);obtain⟨o0,a6⟩:=ex (dX U9 0);have bX:=aB a6;rw[<- a6] at d0 d1 d2 d3 d4 d5 d6 Z;simp only[pS] at Z;have c8:b≠w.heap.size+1:=λe=>by
      rw[e] at d6;have h:=J.o
      grind [World.cell?]
     have HS:Hid (∀V,Below w5.heap.size w5 V->V.cell? (Ad b off)=some (.string o0.i.name)/\V.cell? (Ad b (off+1))=some (.slice o0.a.an o0.i.needs.length o0.a.cn)/\V.cell? (Ad b (off+2))=some (.slice o0.a.ag o0.i.jT.length o0.a.cg)/\V.cell? (Ad b (off+3))=some (.slice o0.a.ay o0.i.syms.length o0.a.cy)/\V.cell? (Ad b (off+4))=some (.slice o0.a.ar o0.i.qH.length o0.a.cr)/\V.cell? (Ad b (off+5))=some (I o0.i.entry)/\V.cell? (Ad b (off+6))=some (I o0.base)/\V.cell? (Ad w.heap.size 5)=some (I p.i.entry)):=λV hb=>⟨(cW hb ZW).trans d0,(cW hb ZW).trans d1,(cW hb ZW).trans d2,(cW hb ZW).trans d3,(cW hb ZW).trans d4,(cW hb ZW).trans d5,(cW hb ZW).trans d6,aA (aO aC.o hb (aM aC.o)) 5 rfl⟩
     obtain⟨AD,ad⟩:=ex (yN o0 p.i.entry);rw[<- ad] at Z;have c7:=aB ad;clear a6 ad d0 d1 d2 d3 d4 d5 d6 bz aE bE a9 am;have xB:=aB (aN w5.heap.size w5).drew;have o5:=aB (HS.o _ xB.o)
     go_region_held3 (λV=>V.cell? (Ad b off)=some (.string o0.i.name)/\V.cell? (Ad b (off+1))=some (.slice o0.a.an o0.i.needs.length o0.a.cn)/\V.cell? (Ad b (off+2))=some (.slice o0.a.ag o0.i.jT.length o0.a.cg)/\V.cell? (Ad b (off+3))=some (.slice o0.a.ay o0.i.syms.length o0.a.cy)/\V.cell? (Ad b (off+4))=some (.slice o0.a.ar o0.i.qH.length o0.a.cr)/\V.cell? (Ad b (off+5))=some (I o0.i.entry)/\V.cell? (Ad b (off+6))=some (I o0.base)/\V.cell? (Ad w.heap.size 5)=some (I p.i.entry)) (first | exact b6.o | exact bx.o | exact o5.o | grind [Hid.o])
      (first
       | (go_at_call 67;refine(bn.o _ xB.o).mono ?_;rintro e w6 ⟨v8,rfl,a8,hb⟩;obtain⟨ar,cr,b0,bq⟩:=Ei a8;subst b0;have bo:=aB a8;have aj:=aB (xB.o.trans (hb.mono xB.o.size));have bx:=aB (HS.o _ aj.o);clear hb a8 bq)
       | (go_at_call 68;refine(Z.o _).mono ?_;rintro e w7 ⟨rfl,hb⟩;have a0:=aB (aj.o.trans (hb.mono aj.o.size));have b6:=aB (HS.o _ a0.o);have bi:=aB (zL bo.o hb);have Q:=aB (aO J.o a0.o (aM J.o));have s0:=aA Q.o 0 rfl;have s1:=aA Q.o 1 rfl;have s2:=aA Q.o 2 rfl;have sf:=br Q.o;have Uq:Hid (∀u0 u1 u2,(λV:World=>V.cell? (Ad b off)=some (.string o0.i.name)/\V.cell? (Ad b (off+1))=some (.slice o0.a.an o0.i.needs.length o0.a.cn)/\V.cell? (Ad b (off+2))=some (.slice o0.a.ag o0.i.jT.length o0.a.cg)/\V.cell? (Ad b (off+3))=some (.slice o0.a.ay o0.i.syms.length o0.a.cy)/\V.cell? (Ad b (off+4))=some (.slice o0.a.ar o0.i.qH.length o0.a.cr)/\V.cell? (Ad b (off+5))=some (I o0.i.entry)/\V.cell? (Ad b (off+6))=some (I o0.base)/\V.cell? (Ad w.heap.size 5)=some (I p.i.entry)) (((w7.setCell (Ad (w.heap.size+1) 0) u0).setCell (Ad (w.heap.size+1) 1) u1).setCell (Ad (w.heap.size+1) 2) u2)):=(λu0 u1 u2=>by grind [tU,Hid.o]);clear hb))
     have bA:=aB (WY Q.o (ba.o.below a0.o) (.slice ar (sG U9).length cr) (.slice ah hs.length ch) (I AD));have b8:=aB (aad (rb:=w.heap.size+1) bi.o (gm (aM J.o) xB.o.size) (.slice ar (sG U9).length cr) (.slice ah hs.length ch) (I AD));have aY:=aB ((((J0.o.trans (a0.o.mono J0.o.size)).setCell (p:=(Ad (w.heap.size+1) 0)) ξ (.slice ar (sG U9).length cr)).setCell (p:=(Ad (w.heap.size+1) 1)) ξ (.slice ah hs.length ch)).setCell (p:=(Ad (w.heap.size+1) 2)) ξ (I AD));go_wp2;refine bW (v:=.tuple #[.agg #[.slice ar (sG U9).length cr,.slice ah hs.length ch,I AD],I 0]) (by simp[results,results22,go_sem,s0,s1,s2]) rfl ⟨aY.o,?_⟩;rw[<- bb.o,HE.o,aQ rfl];refine⟨ix,E,.slice ar (sG U9).length cr,hs,ah,ch,aX.o,by grind [Hid.o],bp.o,?_,?_,bA.o,bd⟩
     . grind [Hid.o]
     rw[<- b4.o];exact b8.o.mono (gj J0.o.size xB.o.size)
 rw[aH hby] at y;subst y;have HE:Hid (mn all=pj all):=by
  show _=_
  grind [mn]
 generalize pj all=er at HE hby ⊢;have c9:(er==0)=false:=by grind
 have r0:=aA Jj.o 0 rfl;have r1:=aA Jj.o 1 rfl;have r2:=aA Jj.o 2 rfl;have rf:=br Jj.o;go_wp2;exact bW (v:=.tuple #[.agg #[Nl,Nl,I 0],I er]) (by simp[results,results22,go_sem,r0,r1,r2]) rfl ⟨((iI.o.setCell ξ _).setCell ξ _).setCell ξ _,by grind [Hid.o]⟩
end Go.Proofs.YtlgoihmkgaaemaaGreat
