import Derived.Test.YtlgoihmkgaaemaaGreatGQ16
set_option maxHeartbeats 20000000
set_option linter.unusedVariables false
set_option maxRecDepth 100000
set_option linter.unusedSimpArgs false
namespace Go.Proofs.YtlgoihmkgaaemaaGreat
open Go.RowKit Tryz
theorem aeK {hs:List bC} {ar:List aX} {k n:Nat} (hk:k<ar.length) (hn:n<(bw ar k).aD.toNat) (hz:(bw ar k).zero=false) (he:fG hs ((bw ar k).page+(n:Int))=⟨#[]⟩):uu hs ar=false:=by
 cases q:uu hs ar with
 | false=>rfl
 | true =>
  unfold uu at q;rw[nB] at q;have:=q (bw ar k) (kT hk);rw[nB] at this;have:=this n (vN.2 hn);rw[hz,he] at this;cases this
theorem abV {hs:List bC} {ar:List aX} (h:∀k,k<ar.length->∀n,n<(bw ar k).aD.toNat->(bw ar k).zero=true\/fG hs ((bw ar k).page+(n:Int))≠⟨#[]⟩):uu hs ar=true:=by
 unfold uu;rw[nB];intro a ha;obtain⟨k,hk,rfl⟩:=mZ Ab ha;rw[nB];intro n hn;rcases h k hk n (vN.1 hn) with g | g
 . rw[show(ar.getD k Ab).zero=true from g];rfl
 rw[TV,fX];right;intro e;refine g ?_;have:(fG hs ((bw ar k).page+(n:Int))).size=0:=e;generalize fG hs ((bw ar k).page+(n:Int))=x at this ⊢;obtain⟨⟨l⟩⟩:=x;have:l=[]:=o9 this;rw[this]
variable {cap lo g n:Nat} {us:List fC} (hs:List bC)
theorem OS (ar:List aX) (va:Value) (mb:Nat) (w:World) (ha:gD w va ar) (hc:bj ar=0) (hmb:mb<w.heap.size) (hfl:∀n:Nat,n<256->w.cell? (Ad mb (5+n))=some (.string (fG hs n))) :
  Calls prog 190 #[.pointer (some (Ad mb 0)),va] w λe w'=>e=.returned (.bool (uu hs ar))/\Below w.heap.size w w':=by
 obtain⟨ao,cap,rfl,di⟩:=ha;have T:=jF ar hc;have HL:=ai di;have Q:=ai hfl;have Qk:=ai (λk (hk:k<ar.length)=>ig ar k (gP ar hc k hk));have xQ:=ai (λk n=>@aeK hs ar k n);have F:=ai (@abV hs ar);obtain⟨A,hA⟩:=ex (uu hs ar);rw[<- hA] at xQ F ⊢;clear di hfl hA;go_enter func190,ntmps190;go_wp2;go_loopw [10] (λiv wr=>∃k:Nat,k<=ar.length/\iv=I (k:Int)/\Below w.heap.size w wr/\∀i,i<k->∀n,n<(bw ar i).aD.toNat->(bw ar i).zero=true\/fG hs ((bw ar i).page+(n:Int))≠⟨#[]⟩) (λiv _=>ar.length-(intOf iv).toNat)
 case atStart=>grind [Below.refl]
 case round =>
  obtain⟨k,hk,rfl,hb,Fq⟩:=hrel;have HB:=ai hb;have HP:=ai Fq;clear Fq;by_cases hlt:k<ar.length
  . obtain⟨b,off,O,Xv⟩:=HL.o.resolve_left (λe=>Γ);subst O;obtain⟨d0,d1,d2,d3⟩:=Xv k hlt;have B:=Xv.lt k hlt;have c0:=(hb.cell (p:=(Ad b (off+k*4))) B).trans d0;have c1:=(hb.cell (p:=(Ad b (off+k*4+1))) B).trans d1;have c2:=(hb.cell (p:=(Ad b (off+k*4+2))) B).trans d2;have c3:=(hb.cell (p:=(Ad b (off+k*4+3))) B).trans d3;have L:=Qk.o k hlt;have xQ:=ai (λn=>xQ.o k n hlt);have HS:Hid (∀n,n<(bw ar k).aD.toNat->(bw ar k).zero=true\/fG hs ((bw ar k).page+(n:Int))≠⟨#[]⟩)->Hid (∀i,i<k+1->∀n,n<(bw ar i).aD.toNat->(bw ar i).zero=true\/fG hs ((bw ar i).page+(n:Int))≠⟨#[]⟩):=λg i hi=>by
     by_cases e:i=k
     . rw[e];exact g.out
     exact HP.o i ω
    generalize bw ar k=a at c0 c1 c2 c3 L xQ HS;obtain⟨pg,ps,pt,z⟩:=a;simp only at c0 c1 c2 c3 L xQ HS;obtain⟨pn,rfl⟩:∃pn:Nat,pg=(pn:Int):=⟨pg.toNat,ω⟩;obtain⟨pm,rfl⟩:∃pm:Nat,ps=(pm:Int):=⟨ps.toNat,ω⟩;rw[jW] at HS xQ;have iQ:=ai (HB.o.alloc HB.o.size (.cells #[I (pn:Int),I (pm:Int),I pt,.bool z] 139));have SA:=ai (bH wr #[I (pn:Int),I (pm:Int),I pt,.bool z] 139);clear d0 d1 d2 d3 Xv HP F Qk HL hb;go_wp2;generalize wr.alloc (.cells #[I (pn:Int),I (pm:Int),I pt,.bool z] 139)=W1 at iQ SA ⊢;generalize wr.heap.size=sb at SA ⊢;clear c0 c1 c2 c3;have s0:W1.cell? (Ad sb 0)=some (I (pn:Int)):=aA SA.o 0 rfl;have s3:W1.cell? (Ad sb 3)=some (.bool z):=aA SA.o 3 rfl;have R:Hid (∀n:Nat,n<256->W1.cell? (Ad mb (5+n))=some (.string (fG hs n))):=λn hn=>(iQ.o.cell (p:=(Ad mb (5+n))) hmb).trans (Q.o n hn)
    go_loopw [16] (λiv wq=>∃n:Nat,n<=pm/\iv=I (n:Int)/\(wq.heap=W1.heap/\Below w.heap.size w wq)/\∀i,i<n->z=true\/fG hs ((pn:Int)+(i:Int))≠⟨#[]⟩) (λiv _=>pm-(intOf iv).toNat)
    case atStart=>exact⟨0,ω,rfl,⟨rfl,iQ.o⟩,λi hi=>ω⟩
    case round =>
     obtain⟨n,hn,rfl,⟨hD,G⟩,Fq⟩:=hrel;generalize wr=wq at hD G ⊢;have J:=ai G;have M:=ai hD;have Qj:=ai Fq;have r0:wq.cell? (Ad sb 0)=some (I (pn:Int)):=(KH (by rw[hD])).trans s0;have r3:wq.cell? (Ad sb 3)=some (.bool z):=(KH (by rw[hD])).trans s3;have K:Hid (∀n:Nat,n<256->wq.cell? (Ad mb (5+n))=some (.string (fG hs n))):=λn hn=>(KH (by rw[M.o])).trans (R.o n hn)
     clear hD G Fq;by_cases KI:n<pm
     . have N:(n:Int)<(pm:Int):=by omega
       have HN:Hid (∀wz:World,wz=wq.drew->(wz.heap=W1.heap/\Below w.heap.size w wz)):=λwz e=>by rw[e];exact⟨M.o,J.o.drew⟩
       have y:Hid ((z=true\/fG hs ((pn:Int)+(n:Int))≠⟨#[]⟩)->∀i,i<n+1->z=true\/fG hs ((pn:Int)+(i:Int))≠⟨#[]⟩):=λg i hi=>by
        by_cases e:i=n
        . rw[e];exact g
        exact Qj.o i ω
       cases z with
       | true =>
        clear xQ HS Qj;go_wp2;go_region;go_wp2;go_roundw
        case rel=>exact⟨n+1,ω,by go_num,HN.o _ rfl,y.o (.inl trivial)⟩
        case measure=>simp[intOf];omega
       | false =>
        have q:=K.o (pn+n) ω;have ew:IntKind.i64.wrap ((pn:Int)+(n:Int))=((pn+n:Nat):Int):=by rw[T9];omega
        have ei:((pn+n:Nat):Int)=(pn:Int)+(n:Int):=by omega
        have i0:(0:Int)<=((pn+n:Nat):Int):=by omega
        have i1:((pn+n:Nat):Int)<256:=by omega
        have xQ:=ai (xQ.o n KI rfl);rw[<- ei] at xQ y;obtain⟨X,hX⟩:=ex (pn+n);rw[<- hX] at q ew i0 i1 xQ y;generalize fG hs (X:Int)=D at q xQ y;clear HS Qj K hX ei;by_cases hz:D=⟨#[]⟩
        . have hA:=xQ.o hz;subst hA hz;go_wp2;go_region;go_wp2;go_ret;exact⟨rfl,J.o.drew⟩
        have U:D.toList.isEmpty=false:=by
         rw[NN];cases q2:D.data.toList.isEmpty with
         | false=>rfl
         | true=>exact absurd (by obtain⟨⟨l⟩⟩:=D;have e:l=[]:=List.isEmpty_iff.1 q2;rw[e]) hz
        clear xQ;go_wp2;go_region;go_wp2;go_roundw
        case rel=>exact⟨n+1,ω,by go_num,HN.o _ rfl,y.o (.inr hz)⟩
        case measure=>simp[intOf];omega
     obtain rfl:n=pm:=by omega
     have Mf:=ai (HS Qj);have N:¬(n:Int)<(n:Int):=by omega
     go_wp2;go_roundw
     case rel=>exact⟨k+1,ω,by go_num,J.o,Mf.o⟩
     case measure=>simp[intOf];omega
  obtain rfl:k=ar.length:=by omega
  have hA:=F.o HP.o;subst hA;clear hb;go_wp2;go_ret;exact⟨rfl,HB.o⟩
open Go.RowKit
theorem OO (s:dA) (va:Value) (ap:Option Addr) (cp mb:Nat) (w:World) (ha:gD w va s.aJ) (hf:VU s) (hmb:mb<w.heap.size) (hfl:∀n:Nat,n<256->w.cell? (Ad mb (5+n))=some (.string (fG hs n))) :
  Calls prog 141 #[.pointer (some (Ad mb 0)),.agg #[.bool s.live,va,.slice ap s.bh.length cp]] w λe w'=>e=.returned (.bool (rY hs s))/\Below w.heap.size w w':=by
 have ym:=ai (λV (hV:Below w.heap.size w V)=>CR s.aJ va V (ha.below hV) hf.aJ);have q:Hid (bj s.aJ=0->∀V,Below w.heap.size w V->Calls prog 190 #[.pointer (some (Ad mb 0)),va] V λe w'=>e=.returned (.bool (uu hs s.aJ))/\Below V.heap.size V w'):=λhc V hV=>OS hs s.aJ va mb V (ha.below hV) hc (dV hmb hV.size) (λn hn=>(hV.cell (p:=(Ad mb (5+n))) hmb).trans (hfl n hn))
 obtain⟨A,hA⟩:=ex (rY hs s);rw[<- hA];obtain⟨aa,ca,Ie,_⟩:=ha;subst Ie;have G:=hf.aJ.2;have K:s.bh.length<=140737488351232:=hf.bh;unfold rY at hA;have HA:=ai hA;clear hf hfl hA;obtain⟨np,C0⟩:=ex s.bh.length;obtain⟨C,hC⟩:=ex (bj s.aJ);obtain⟨E,hE⟩:=ex (uu hs s.aJ);obtain⟨lv,F⟩:=ex s.live;generalize s.aJ.length=na at HA ym q G ⊢;rw[<- C0] at HA K ⊢;rw[<- hC] at HA ym q;rw[<- hE] at HA q;rw[<- F] at HA ⊢;clear C0 hC hE F;have HB:=ai ((aN w.heap.size w).alloc (aK _) (.cells #[.bool lv,.slice aa na ca,.slice ap np cp] 99));have X0:=ai (bH w #[.bool lv,.slice aa na ca,.slice ap np cp] 99);cases lv with
 | false =>
  have qO:Hid (A=(decide (na=0)&&decide (np=0))):=HA;clear HA ym q;rcases(show(na=0/\np=0)\/(na=0/\¬np=0)\/¬na=0 by omega) with⟨g,k⟩ | ⟨g,k⟩ | g
  . have h0:((na:Int)==0)=true:=by grind
    have h1:((np:Int)==0)=true:=by grind
    have CF:Hid (A=true):=by grind
    clear qO g k;go_enter func141,ntmps141;go_wp2;go_ret;exact⟨dC (λb=>Ending.returned (.bool b)) CF.o.symm,HB.o⟩
  . have h0:((na:Int)==0)=true:=by grind
    have h1:((np:Int)==0)=false:=by grind
    have CF:Hid (A=false):=by grind
    clear qO g k;go_enter func141,ntmps141;go_wp2;go_ret;exact⟨dC (λb=>Ending.returned (.bool b)) CF.o.symm,HB.o⟩
  have h0:((na:Int)==0)=false:=by grind
  have CF:Hid (A=false):=by grind
  clear qO g;go_enter func141,ntmps141;go_wp2;go_ret;exact⟨dC (λb=>Ending.returned (.bool b)) CF.o.symm,HB.o⟩
 | true =>
  have qO:Hid (A=(decide (C=0)&&E)):=HA;clear HA;by_cases g:C=0
  . subst g;have J:=ai (q.o rfl);have CF:Hid (A=E):=qO;clear qO q;go_enter func141,ntmps141;go_wp2_with (first | (go_at_call 117;refine(ym.o _ HB.o).mono ?_;rintro e w1 ⟨rfl,y⟩;have cD:=ai (bq HB.o y);have X1:=ai (aU X0.o y ξ);have x1:w1.cell? (Ad w.heap.size 1)=some (.slice aa na ca):=aA X1.o 1 rfl;clear y) | (go_at_call 190;refine(J.o _ cD.o).mono ?_;rintro e w2 ⟨rfl,B⟩;have iJ:=ai (bq cD.o B);clear B));go_ret;exact⟨dC (λb=>Ending.returned (.bool b)) CF.o.symm,iJ.o⟩
  have CF:Hid (A=false):=by grind
  have g0:(C==0)=false:=by grind
  clear qO q;go_enter func141,ntmps141;go_wp2_with (go_at_call 117;refine(ym.o _ HB.o).mono ?_;rintro e w1 ⟨rfl,y⟩;have cD:=ai (bq HB.o y);clear y);go_ret;exact⟨dC (λb=>Ending.returned (.bool b)) CF.o.symm,cD.o⟩
theorem rA (l:List aX):0<=bf l/\bf l<=65025:=by
 unfold bf;split
 . rename_i h
   have h1:=jF l h;have h2:=EI l h l.length (aK _);omega
 omega
theorem GX (l:List dA):∀k,0<=kG l k/\kG l k<=65025*k
 | 0=>⟨vM _,by show(0:Int)<=_;omega⟩
 | k+1=>by
  have h1:=GX l k;have h2:=rA (ak l k).aJ
  grind [kG]
theorem GY (l:List dA) (ao:Option Addr) (cap mb:Nat) (w:World) (h:Dl w ao l) (hf:∀k,k<l.length->dQ (ak l k).aJ) (hn:l.length<=1000000) (hmb:w.cell? (Ad mb 3)=some (.slice ao l.length cap)) :
  Calls prog 143 #[.pointer (some (Ad mb 0))] w λe w'=>e=.returned (I (eU l))/\Below w.heap.size w w':=by
 have HF:=ai hf;have HH:=ai h;have Pw:=ai (GX l);have Tu:Hid (∀k,kG l (k+1)=kG l k+bf (ak l k).aJ):=λk=>rfl
 clear h hf;go_enter func143,ntmps143;go_wp2;go_loopw [3,12] (λsv iv wr=>∃k:Nat,k<=l.length/\iv=I (k:Int)/\sv=I (kG l k)/\Below w.heap.size w wr) (λ_ iv _=>l.length-(intOf iv).toNat)
 case atStart=>exact⟨0,ω,rfl,rfl,aN _ _⟩
 case round =>
  obtain⟨k,hk,rfl,rfl,hb⟩:=hrel;have HB:=ai hb;have Lg:=Pw.o k;by_cases hlt:k<l.length
  . obtain⟨b,off,F,J,di⟩:=(HH.o.below hb) ω;subst F;obtain⟨va,ap,cp,c0,c1,c2,c3,c4,c5⟩:=di k hlt;have Qf:=HF.o k hlt;have q:=Tu.o k;have G:=rA (ak l k).aJ;obtain⟨aa,ca,rfl,_⟩:=id c3;have HT:Hid (∀W,Below wr.heap.size wr W->Calls prog 70 #[.slice aa (ak l k).aJ.length ca] W λe w'=>e=.returned (I (bf (ak l k).aJ))/\Below W.heap.size W w'):=λW hW=>rW _ _ _ (c3.below hW) Qf
    obtain⟨na,CS⟩:=ex ((ak l k).aJ.length);obtain⟨lv,A⟩:=ex ((ak l k).live);obtain⟨T,hT⟩:=ex (bf (ak l k).aJ);obtain⟨R,hR⟩:=ex (kG l k);generalize (ak l k).bh.length=n at c2 c5;rw[<- CS] at c1 HT;rw[<- A] at c0;rw[<- hT] at HT q G;rw[<- hR] at q Lg ⊢;have B:=ai q;clear CS A hT hR c3 c4 c5 Qf di hb q;have iQ:=ai (HB.o.alloc HB.o.size (.cells #[.bool lv,.slice aa na ca,.slice ap n cp] 99));go_wp2_with (go_at_call 70;refine(HT.o _ ((aN _ _).alloc (aK _) _)).mono ?_;rintro e w1 ⟨rfl,y⟩;have cD:=ai (bq iQ.o y);clear y);go_roundw
    case rel=>exact⟨k+1,ω,by go_num,by rw[B.o],cD.o⟩
    case measure=>simp[intOf];omega
  obtain rfl:k=l.length:=by omega
  clear hb;go_wp2;go_ret;exact⟨rfl,HB.o⟩
def yi (u:fC):List Value:=[I u.refs,I u.page,.bool u.zero]
theorem Aj (u:fC):(yi u).length=3:=rfl
def il (lo:Nat) (w:World) (g n cap:Nat) (us:List fC):Prop:=us.length=n/\w.ownsRow lo 302 3 (.slice (some (Ad g 0)) n cap) n (us.flatMap yi)
theorem il.kp {w w':World} {D:Nat->Prop} (h:il lo w g n cap us) (hk:aH D w w') (hd:¬D g):il lo w' g n cap us:=⟨h.1,hk.row h.2 (λb hb=>by injection hb with hb;grind)⟩
theorem il.lt {w:World} (h:il lo w g n cap us):lo<=g/\g<w.heap.size:=h.2.lt g rfl
theorem il.at {w:World} (h:il lo w g n cap us) (i:Nat) (hi:i<n):w.cell? (Ad g (i*3))=some (I (dz us i).refs)/\w.cell? (Ad g (i*3+1))=some (I (dz us i).page)/\w.cell? (Ad g (i*3+2))=some (.bool (dz us i).zero):=by
 obtain⟨h1,h2⟩:=h;subst h1;exact⟨gw yi Aj nJ h2 i 0 hi ω,gw yi Aj nJ h2 i 1 hi ω,gw yi Aj nJ h2 i 2 hi ω⟩
theorem VS {D:Nat->Prop} {w w':World} (h:aH D w w'):aH D w w'.drew:=h.trans (aH.drew D w') (λ_ _ x=>x)
theorem il.d {w:World} (h:il lo w g n cap us):il lo w.drew g n cap us:=h.kp (aH.drew (λ_=>False) w) (λx=>x)
theorem abS {α:Type} (f:α->List Value) (hf:∀x,(f x).length=3) (d:α) (x:α) (a b c:Value) (hx:f x=[a,b,c]) (l:List α) (i:Nat) (hi:i<l.length):(l.set i x).flatMap f=(((l.flatMap f).set (i*3) a).set (i*3+1) b).set (i*3+2) c:=by
 induction l generalizing i with
 | nil=>cases hi
 | cons y r ih =>
  cases i with
  | zero =>
   rw[sK,o8,o8,hx];obtain⟨p,q,s,e⟩:∃p q s,f y=[p,q,s]:=by
    have:=hf y
    match h:f y with
    | [p,q,s]=>grind
    | []=>grind
    | [_]=>grind
    | [_,_]=>grind
    | _::_::_::_::_=>grind
   rw[e];rfl
  | succ i =>
   grind
theorem il.set {w:World} (h:il lo w g n cap us) (i:Nat) (hi:i<n) (u:fC):il lo (((w.setCell (Ad g (i*3)) (I u.refs)).setCell (Ad g (i*3+1)) (I u.page)).setCell (Ad g (i*3+2)) (.bool u.zero)) g n cap (us.set i u):=by
 refine⟨by rw[dE];exact h.1,?_⟩;rw[abS yi Aj nJ u _ _ _ rfl us i (by rw[h.1];exact hi)];exact dJ (dJ (dJ h.2 _ _) _ _) _ _
theorem VQ (us:List fC) (e:bJ) (z:Bool) (lo g n cap:Nat) (w:World) (h:il lo w g n cap us) (hn:n<=1000) (he:cH e.page/\cH e.loc) (hr:∀i,i<n->0<=(dz us i).refs/\(dz us i).refs<=1000000) :
  Calls prog 191 #[.slice (some (Ad g 0)) n cap,.agg #[I e.page,I e.kind,I e.loc],.bool z] w λx w'=>x=.returned (.bool (qz us e z))/\aH (λb=>b=g) w w'/\il lo w' g n cap (if qz us e z then uL us e z else us):=by
 obtain⟨A,hA⟩:=ex (qz us e z);rw[<- hA];obtain⟨R,hR⟩:=ex (if A then uL us e z else us);rw[<- hR];have HA:=ai hA;have HR:=ai hR;clear hA hR;have M:=h.lt.2;have HU:=ai h;have N:us.length=n:=h.1;obtain⟨pg,kd,lc⟩:=e;simp only at he ⊢;have B:=ai (aH.alloc (λb=>b=g) w (.cells #[I pg,I kd,I lc] 174));have q:=ai (h.kp (aH.alloc (λ_=>False) w (.cells #[I pg,I kd,I lc] 174)) (λx=>x));clear h;by_cases c:0<=lc/\lc<(n:Int)
 . obtain⟨i,rfl⟩:∃i:Nat,lc=(i:Int):=⟨lc.toNat,ω⟩;have hi:i<n:=by omega
   obtain⟨u0,u1,u2⟩:=HU.o.at i hi;have J:=hr i hi;have qO:Hid (A=!(decide (0<(dz us i).refs)&&(decide ((dz us i).page≠pg) || (dz us i).zero != z))):=by
    grind [qz]
   have y:=ai (q.o.set i hi ⟨(dz us i).refs+1,pg,z⟩);have F:Hid (uL us ⟨pg,kd,(i:Int)⟩ z=us.set i ⟨(dz us i).refs+1,pg,z⟩):=by
    rfl
   obtain⟨U,hU⟩:=ex (dz us i);rw[<- hU] at u0 u1 u2 J qO y F;obtain⟨ur,up,uz⟩:=U;simp only at u0 u1 u2 J qO y F;have L:=ai hU;clear hU hr HA;have O:IntKind.i64.wrap (ur+1)=ur+1:=by rw[T9];omega
   have BE:=ai (bH w #[I pg,I kd,I (i:Int)] 174);have fV:Hid (∀V,aH (λb=>b=g) w V->∀us',il lo V g n cap us'->A=true->us'=us.set i ⟨ur+1,pg,z⟩->il lo V g n cap R):=λV _ us' ho ha e=>by
    have:R=us':=by rw[HR.o,aC ha,F.o,e]
    grind
   have G:Hid (A=false->R=us):=λha=>by rw[HR.o,ha];rfl
   clear HR F;have hw:=(show(¬0<ur\/(0<ur/\up=pg/\uz=z))\/((0<ur/\up=pg/\¬uz=z)\/(0<ur/\¬up=pg)) by grind);have HT:Hid (¬0<ur\/(0<ur/\up=pg/\uz=z)->A=true):=λh=>by
    rcases h with g1 | ⟨g1,g2,g3⟩
    . have d1:decide (0<ur)=false:=fE g1;have:Hid (A=true):=by grind
      exact this
    have b1:(up != pg)=false:=by grind
    have b2:(uz==z)=true:=by grind
    have:Hid (A=true):=by grind
    exact this
   have HE:Hid ((0<ur/\up=pg/\¬uz=z)\/(0<ur/\¬up=pg)->A=false):=λh=>by
    rcases h with⟨g1,g2,g3⟩ | ⟨g1,g2⟩
    . have b2:(uz==z)=false:=by grind
      have:Hid (A=false):=by grind
      exact this
    have:Hid (A=false):=by grind
    exact this
   clear qO;go_enter func191,ntmps191;go_wp2;generalize w.alloc (.cells #[I pg,I kd,I (i:Int)] 174)=W at B q y BE ⊢;generalize w.heap.size=eb at BE ⊢;obtain⟨y0,y1,y2⟩:=q.o.at i hi;rw[<- L.o] at y0 y1 y2;have f0:W.frozen? (Ad g (i*3))=false:=ie q.o.2 _;have f1:W.frozen? (Ad g (i*3+1))=false:=ie q.o.2 _;have f2:W.frozen? (Ad g (i*3+2))=false:=ie q.o.2 _;have w0:W.cell? (Ad eb 0)=some (I pg):=aA BE.o 0 rfl;clear u0 u1 u2;rcases hw with h | h
   . have CF:=ai (HT.o h);rcases h with g1 | ⟨g1,g2,g3⟩
     case' inr =>
      have b1:(up != pg)=false:=by grind
      have b2:(uz==z)=true:=by grind
      clear g2 g3
     case' inl=>have d1:decide (0<ur)=false:=fE ω
     all_goals
      go_region;go_wp2;go_region;go_wp2;go_ret;have K:=B.o.trans (xS (D:=λb=>b=g) W g (i*3) (i*3+1) (i*3+2) (I (ur+1)) (I pg) (.bool z) rfl) (λ_ _ x=>x);exact⟨dC (λb=>Ending.returned (.bool b)) CF.o.symm,VS (VS K),fV.o _ (VS (VS K)) _ y.o.d.d CF.o rfl⟩
   have CF:=ai (HE.o h);clear fV y;rcases h with⟨g1,g2,g3⟩ | ⟨g1,g2⟩
   case' inr =>
    have b1:(up != pg)=true:=by grind
    clear g2
   case' inl =>
    have b1:(up != pg)=false:=by grind
    have b2:(uz==z)=false:=by grind
    clear g2 g3
   all_goals
    go_region;go_wp2;go_ret;rw[G.o CF.o];exact⟨dC (λb=>Ending.returned (.bool b)) CF.o.symm,VS B.o,q.o.d⟩
 have CF:Hid (A=false):=by
  grind [qz]
 have G:Hid (R=us):=by grind [Hid.o]
 clear HA hr HR;rcases(show lc<0\/(0<=lc/\(n:Int)<=lc) by omega) with g1 | ⟨g1,g2⟩
 all_goals
  go_enter func191,ntmps191;go_wp2;go_ret;rw[G.o];exact⟨dC (λb=>Ending.returned (.bool b)) CF.o.symm,B.o,q.o⟩
theorem Lj (s:dA) (va:Value) (ap:Option Addr) (cp:Nat) (uf us:List fC) (lo gf nf cf gs ns cs:Nat) (bd:Int) (w0 w:World) (ha:gD w0 va s.aJ) (he:eX bZ 3 iD w0 ap s.bh) (hfit:VU s) (hw:Below w0.heap.size w0 w) (hlo:w0.heap.size<=lo) (huf:il lo w gf nf cf uf) (hus:il lo w gs ns cs us) (hne:¬gf=gs) (hb1:ot uf nf bd) (hb2:ot us ns bd) (hB:bd<=100000) (Qe:nf<=1000) (hns:ns<=1000) :
  Calls prog 142 #[.agg #[.bool s.live,va,.slice ap s.bh.length cp],.slice (some (Ad gf 0)) nf cf,.slice (some (Ad gs 0)) ns cs] w λx w'=>x=.returned (.bool (kW s.aJ s.bh (uf,us) s.bh.length))/\aH (λb=>b=gf\/b=gs) w w'/\(kW s.aJ s.bh (uf,us) s.bh.length=true->il lo w' gf nf cf (ku s.aJ s.bh (uf,us) s.bh.length).1/\il lo w' gs ns cs (ku s.aJ s.bh (uf,us) s.bh.length).2):=by
 obtain⟨lv,ar,es⟩:=s;simp only at ha he hfit ⊢;have Z:=ai ha;have a8:=ai he;have IM:=ai hfit.aJ;have a5:=ai hfit.Qs;have au:es.length<=140737488351232:=hfit.bh;have HW:=ai hw;have aw:=huf.lt;have ay:=hus.lt;have ac:=ai (MZ ar es (uf,us) nf ns bd hb1 hb2);have xQ:=ai (aeS ar es (uf,us));have zB:Hid (∀k,kW ar es (uf,us) k=true->Ao ar (uq es k) (ku ar es (uf,us) k).1 (ku ar es (uf,us) k).2 (bc es k)=true->kW ar es (uf,us) (k+1)=true/\ku ar es (uf,us) (k+1)=wy ar (ku ar es (uf,us) k) (bc es k)):=λk h1 h2=>⟨by grind [kW],rfl⟩
 have N:Hid (∀k,uq es (k+1)=(bc es k).page):=λk=>by rfl
 obtain⟨aa,ca,Ie,_⟩:=id ha;subst Ie;obtain⟨na,CS⟩:=ex ar.length;rw[<- CS] at Z ⊢;have tV:=ai (aH.alloc (λb=>b=gf\/b=gs) w (.cells #[.bool lv,.slice aa na ca,.slice ap es.length cp] 99));have BS:=ai (bH w #[.bool lv,.slice aa na ca,.slice ap es.length cp] 99);have Y:=ai (huf.kp (aH.alloc (λ_=>False) w (.cells #[.bool lv,.slice aa na ca,.slice ap es.length cp] 99)) (λx=>x));have U:=ai (hus.kp (aH.alloc (λ_=>False) w (.cells #[.bool lv,.slice aa na ca,.slice ap es.length cp] 99)) (λx=>x));clear ha he hfit hw huf hus hb1 hb2 CS;go_enter func142,ntmps142;go_wp2;obtain⟨W,hW⟩:=ex (w.alloc (.cells #[.bool lv,.slice aa na ca,.slice ap es.length cp] 99));rw[<- hW] at tV BS Y U ⊢;obtain⟨sb,Bl⟩:=ex w.heap.size;have aC:¬sb=gf:=by omega
 have an:¬sb=gs:=by omega
 have aF:W.heap.size=sb+1:=by simp_all
 have am:w0.heap.size<=sb:=by omega
 have az:gf<sb:=by omega
 have ao:gs<sb:=by omega
 rw[<- Bl] at BS ⊢;clear hW Bl;go_loopw [7,15] (λlv iv wr=>∃k:Nat,k<=es.length/\iv=I (k:Int)/\lv=I (uq es k)/\kW ar es (uf,us) k=true/\aH (λb=>b=gf\/b=gs) W wr/\il lo wr gf nf cf (ku ar es (uf,us) k).1/\il lo wr gs ns cs (ku ar es (uf,us) k).2) (λ_ iv _=>es.length-(intOf iv).toNat)
 case atStart=>exact⟨0,ω,rfl,rfl,rfl,aH.refl _ _,Y.o,U.o⟩
 case round =>
  obtain⟨k,hk,rfl,rfl,a7,yz,ad,a4⟩:=hrel;have a0:=ai yz;have a1:=ai a7;have K:=ai ad;have J:=ai a4;obtain⟨L,hL⟩:=ex (uq es k);rw[<- hL];have bs:=yz.keep BS.o (λx=>ω);have av:=yz.size;have s2:wr.cell? (Ad sb 2)=some (.slice ap es.length cp):=aA bs 2 rfl;have a3:=ai bs;by_cases hlt:k<es.length
  . have O:=(yz.below (tV.o.below HW.o HW.o.size (λb hb=>ω)) ω (λb hb=>ω):Below w0.heap.size w0 wr);have fU:=ai O;obtain⟨eb,eo,ag,aj,di⟩:=a8.o ω;subst ag;have ce:∀j,j<3->wr.cell? (Ad eb (eo+k*3+j))=(bZ (bc es k))[j]?:=λj hj=>(O.cell (p:=(Ad eb (eo+k*3+j))) aj).trans (di k hlt j hj)
    have e0:=ce 0 ω;have e1:=ce 1 ω;have e2:=ce 2 ω;rw[lB] at e0;have A:=a5.o k hlt;have xQ:=ai (xQ.o k hlt);have zB:=ai (zB.o k a1.o);have N:=ai (N.o k);obtain⟨ab,a9,ae,af⟩:=ac.o k ω a1.o;have ah:(k:Int)<=255:=by omega
    have G:Hid (ot (ku ar es (uf,us) k).1 nf 1000000/\ot (ku ar es (uf,us) k).2 ns 1000000):=⟨ab.mono ω,a9.mono ω⟩;have WH:Hid (∀V,Below w0.heap.size w0 V->Calls prog 77 #[.slice aa na ca,I (bc es k).page] V λe w'=>e=.returned (.tuple #[.agg (pI (aV ar (bc es k).page).1),.bool (aV ar (bc es k).page).2])/\Below V.heap.size V w'):=λV hV=>yq ar _ _ V (Z.o.below hV) IM.o
    rw[<- hL] at xQ zB;have B:Hid (∀u:List fC×List fC,wy ar u (bc es k)=if (bc es k).kind=1 then (uL u.1 (bc es k) (aV ar (bc es k).page).1.zero,u.2) else (u.1,uL u.2 (bc es k) (aV ar (bc es k).page).1.zero)):=λu=>rfl
    obtain⟨UU,a6⟩:=ex (ku ar es (uf,us) k);rw[<- a6] at xQ zB G K J;obtain⟨U1,U2⟩:=UU;unfold Ao at xQ zB;obtain⟨E,hE⟩:=ex (bc es k);rw[<- hE] at e0 e1 e2 A xQ zB N WH B;obtain⟨pg,kd,lc⟩:=E;simp only at xQ zB G K J A N WH B;have x0:wr.cell? (Ad eb (eo+k*3))=some (I pg):=e0;have x1:wr.cell? (Ad eb (eo+k*3+1))=some (I kd):=e1;have x2:wr.cell? (Ad eb (eo+k*3+2))=some (I lc):=e2;obtain⟨⟨fa,ok⟩,hF⟩:∃F,F=aV ar pg:=⟨_,rfl⟩;rw[<- hF] at xQ zB WH B;obtain⟨f1,f2,f3,z⟩:=fa;unfold pI at WH;simp only at xQ zB WH B;have R:=ai (λV (hV:il lo V gf nf cf U1)=>VQ U1 ⟨pg,kd,lc⟩ z lo gf nf cf V hV Qe ⟨A.1,A.2.2⟩ (λi hi=>G.o.1.2 i hi));have Q:=ai (λV (hV:il lo V gs ns cs U2)=>VQ U2 ⟨pg,kd,lc⟩ z lo gs ns cs V hV hns ⟨A.1,A.2.2⟩ (λi hi=>G.o.2.2 i hi));obtain⟨A1,T⟩:=ex (qz U1 ⟨pg,kd,lc⟩ z);obtain⟨A2,a2⟩:=ex (qz U2 ⟨pg,kd,lc⟩ z);rw[<- T,<- a2] at xQ zB;rw[<- T] at R;rw[<- a2] at Q;have aE:=O.size;have KA:=ai (a0.o.trans (aH.alloc (λb=>b=gf\/b=gs) wr (.cells #[I pg,I kd,I lc] 174)) (λ_ _ x=>x));have iQ:=ai (fU.o.alloc fU.o.size (.cells #[I pg,I kd,I lc] 174));have OA:=ai (K.o.kp (aH.alloc (λ_=>False) wr (.cells #[I pg,I kd,I lc] 174)) (λx=>x));have OB:=ai (J.o.kp (aH.alloc (λ_=>False) wr (.cells #[I pg,I kd,I lc] 174)) (λx=>x));have aB:(wr.alloc (.cells #[I pg,I kd,I lc] 174)).cell? (Ad sb 1)=some (.slice aa na ca):=aA (bu a3.o _) 1 rfl;have BE:=ai (bH wr #[I pg,I kd,I lc] 174);clear e0 e1 e2 hL a6 hE hF T a2 yz a7 ad a4 O di ce ab a9 ae af ac a8 Z IM a5 Y U a0 fU K J G bs a3 BS ah;go_wp2_with fail;refine(WH.o _ iQ.o).mono ?_;rintro e w1 ⟨rfl,hb1⟩;have X:=aU BE.o hb1 ξ;have al:=aQ X;obtain⟨t0,t1,t2⟩:=zn X;have O1:=ai (OA.o.kp (aH.bQ (D:=λ_=>False) hb1) (λx=>x));have O2:=ai (OB.o.kp (aH.bQ (D:=λ_=>False) hb1) (λx=>x));have KX:=ai ((KA.o.trans (aH.bQ hb1) (λ_ _ x=>x)).trans (aH.alloc (λb=>b=gf\/b=gs) w1 (.cells #[I f1,I f2,I f3,.bool z] 139)) (λ_ _ x=>x));clear hb1 X BE KA OA OB iQ WH;rcases(show(ok=false\/(ok=true/\pg<=L)\/(ok=true/\L<pg/\(kd==1)=false/\(kd==2)=false))\/(ok=true/\L<pg/\kd=1)\/(ok=true/\L<pg/\kd=2) by cases ok <;> simp <;> omega) with h | ⟨rfl,hl,rfl⟩ | ⟨rfl,hl,rfl⟩
    . have q:=ai (xQ.o (by rcases h with rfl | ⟨rfl,h⟩ | ⟨rfl,h,k1,k2⟩ <;> grind));clear xQ zB R Q B;rcases h with rfl | ⟨rfl,h⟩ | ⟨rfl,h,k1,k2⟩
      all_goals
       go_wp2;go_ret;exact⟨dC (λb=>Ending.returned (.bool b)) q.o.symm,tV.o.trans KX.o (λ_ _ x=>x),λx=>by rw[q.o] at x;cases x⟩
    . clear Q;cases A1
      case' true=>have Tv:=ai (zB.o Γ)
      case' false=>have q:=ai (xQ.o Γ)
      all_goals
       clear xQ zB;go_wp2_with (go_at_call 191;refine(R.o _ (O1.o.kp (aH.alloc (λ_=>False) _ _) (λx=>x))).mono ?_;rintro e w3 ⟨rfl,y,M⟩;have K3:=ai (KX.o.trans (y.mono (D1:=λb=>b=gf\/b=gs) (λb _ x=>.inl x)) (λ_ _ x=>x));have O3:=ai M;have P3:=ai ((O2.o.kp (aH.alloc (λ_=>False) _ _) (λx=>x)).kp y (λx=>hne x.symm));clear y M)
      . go_ret;exact⟨dC (λb=>Ending.returned (.bool b)) q.o.symm,tV.o.trans K3.o (λ_ _ x=>x),λx=>by rw[q.o] at x;cases x⟩
      go_roundw
      case rel=>grind [Hid.o]
      grind [intOf]
    clear R;cases A2
    case' true=>have Tv:=ai (zB.o Γ)
    case' false=>have q:=ai (xQ.o Γ)
    all_goals
     clear xQ zB;go_wp2_with (go_at_call 191;refine(Q.o _ (O2.o.kp (aH.alloc (λ_=>False) _ _) (λx=>x))).mono ?_;rintro e w3 ⟨rfl,y,M⟩;have K3:=ai (KX.o.trans (y.mono (D1:=λb=>b=gf\/b=gs) (λb _ x=>.inr x)) (λ_ _ x=>x));have O3:=ai M;have P3:=ai ((O1.o.kp (aH.alloc (λ_=>False) _ _) (λx=>x)).kp y hne);clear y M)
    . go_ret;exact⟨dC (λb=>Ending.returned (.bool b)) q.o.symm,tV.o.trans K3.o (λ_ _ x=>x),λx=>by rw[q.o] at x;cases x⟩
    go_roundw
    case rel=>grind [Hid.o]
    grind [intOf]
  obtain rfl:k=es.length:=by omega
  clear hL;go_wp2;go_ret;exact⟨dC (λb=>Ending.returned (.bool b)) a1.o.symm,tV.o.trans a0.o (λ_ _ x=>x),λ_=>⟨K.o,J.o⟩⟩
theorem aeM (d:ByteArray):d.toList.isEmpty=decide (d.size=0):=by
 rw[NN];obtain⟨⟨l⟩⟩:=d;cases l with
 | nil=>rfl
 | cons a r=>rfl
theorem QF (d:ByteArray):(d.toList=[])=(d.size=0):=by
 rw[NN];obtain⟨⟨l⟩⟩:=d
 grind [ByteArray.size]
theorem LS (f:nA) (w:World):Calls prog 216 #[.agg #[.string f.data,I f.refs,.bool f.kE,.bool f.seen]] w λe w'=>e=.returned (.bool (ve f))/\Below w.heap.size w w':=by
 obtain⟨d,r,dy,sn⟩:=f;unfold ve;simp only;obtain⟨A,hA⟩:=ex (decide (d.size=0/\r=0/\dy=false/\sn=false));rw[<- hA];have HA:=ai hA;clear hA;go_enter func216,ntmps216;go_wp2
 all_goals
  go_ret;refine⟨dC (λb=>Ending.returned (.bool b)) ?_,(aN _ _).alloc (aK _) _⟩
  grind [QF,Hid.o]
theorem ahI:rX=yj:=by decide
theorem Jk (p:Int) (z:Bool) (mb:Nat) (w:World) (hfl:∀n:Nat,n<256->w.cell? (Ad mb (5+n))=some (.string (fG hs n))) (hp:0<=p/\p<256) :
  Calls prog 130 #[.pointer (some (Ad mb 0)),I p,.bool z] w λe w'=>e=.returned (.string (gz hs p z))/\Below w.heap.size w w':=by
 have HZ:Hid (∀V,Calls prog 170 #[.string ⟨#[0]⟩,I 16] V λe w'=>e=.returned (.string yj)/\Below V.heap.size V w'):=λV=>by rw[<- ahI];exact Gz V
 cases z with
 | true =>
  have HF:Hid (gz hs p true=yj):=rfl;rw[HF.o];clear hfl;generalize yj=Z at HZ ⊢;clear HF;go_enter func130,ntmps130;go_wp2_with (go_at_call 170;refine(HZ.o _).mono ?_;rintro e w1 ⟨rfl,b⟩;have cD:=ai b;clear b);go_ret;exact⟨rfl,cD.o⟩
 | false =>
  obtain⟨n,rfl⟩:∃n:Nat,p=(n:Int):=⟨p.toNat,ω⟩;have q:=hfl n ω;have HF:Hid (gz hs (n:Int) false=fG hs n):=rfl;rw[HF.o];generalize fG hs (n:Int)=D at q ⊢;clear HF hfl HZ;go_enter func130,ntmps130;go_wp2;go_ret;exact⟨rfl,aN _ _⟩
theorem ma {P:Program} {f:FuncId} {args:Array Value} {v:Value} {w:World} (x:ed w.heap.size w) (h:∀W,Below w.heap.size w W->Calls P f args W λe w'=>e=.returned v/\Below W.heap.size W w') :
  Calls P f args x.world λe w''=>e=.returned v/\∃y:ed w.heap.size w,w''=y.world :=
 (h x.world x.keeps).mono λe w'' ⟨he,hb⟩=>⟨he,⟨w'',x.keeps.trans (hb.mono x.keeps.size)⟩,rfl⟩
theorem amF (x y:ByteArray):(x.toList==y.toList)=decide (x=y):=by
 rw[NN,NN];by_cases c:x=y
 . grind
 rw[fE c,gT];exact λe=>c (by cases x;simp_all)
theorem OQ (f:nA) (u:fC) (mb:Nat) (w:World) (hmb:mb<w.heap.size) (hfl:∀n:Nat,n<256->w.cell? (Ad mb (5+n))=some (.string (fG hs n))) (hp:u.refs≠0->0<=u.page/\u.page<256) (hd:bD f.data.size) :
  Calls prog 192 #[.pointer (some (Ad mb 0)),.agg #[.string f.data,I f.refs,.bool f.kE,.bool f.seen],.agg #[I u.refs,I u.page,.bool u.zero]] w λe w'=>e=.returned (.bool (kQ hs f u))/\Below w.heap.size w w':=by
 obtain⟨A,hA⟩:=ex (kQ hs f u);rw[<- hA];unfold kQ at hA;have HA:=ai hA;have q:=ai (λV=>LS f V);obtain⟨IZ,G⟩:=ex (ve f);rw[<- G] at HA q;clear G;obtain⟨d,r,dy,sn⟩:=f;obtain⟨ur,up,uz⟩:=u;simp only at HA q hp hd ⊢;unfold bD at hd;have HB:=ai (((aN w.heap.size w).alloc (aK _) (.cells #[.string d,I r,.bool dy,.bool sn] 169)).alloc ξ (.cells #[I ur,I up,.bool uz] 302));have L:=ai hfl;clear hA hfl;by_cases c:ur=0
 . subst c;rw[aC rfl] at HA;go_enter func192,ntmps192;go_wp2_with (go_at_call 216;refine(q.o _).mono ?_;rintro e w1 ⟨rfl,F⟩;have cD:=ai (bq HB.o F);clear F);go_ret;exact⟨dC (λb=>Ending.returned (.bool b)) HA.o.symm,cD.o⟩
 rw[aB c] at HA;have cb:(ur==0)=false:=by grind
 have Rj:=hp c;clear q hp;by_cases c1:r=ur
 . have J:(r != ur)=false:=by grind
   by_cases c2:d.size=16
   . have K:((d.size:Int) != 16)=false:=by grind
     have qO:Hid (A=(dy || decide (d=gz hs up uz))):=by grind
     have Aw:Hid (∀V,Below w.heap.size w V->Calls prog 130 #[.pointer (some (Ad mb 0)),I up,.bool uz] V λe w'=>e=.returned (.string (gz hs up uz))/\Below V.heap.size V w'):=λV hV=>Jk hs up uz mb V (λn hn=>(hV.cell (p:=(Ad mb (5+n))) hmb).trans (L.o n hn)) Rj
     obtain⟨FK,y⟩:=ex (gz hs up uz);rw[<- y] at qO Aw;have BF:=ai (bu (bH w #[.string d,I r,.bool dy,.bool sn] 169) (.cells #[I ur,I up,.bool uz] 302));have BU:=ai (bH (w.alloc (.cells #[.string d,I r,.bool dy,.bool sn] 169)) #[I ur,I up,.bool uz] 302);rw[fY] at BU;clear y HA c c1 c2;go_enter func192,ntmps192;go_wp2_with fail;obtain⟨W,hW⟩:=ex ((w.alloc (.cells #[.string d,I r,.bool dy,.bool sn] 169)).alloc (.cells #[I ur,I up,.bool uz] 302));rw[<- hW] at HB BF BU ⊢;have Fs:=kf W;have k0:∀x:ed W.heap.size W,x.world.cell? (Ad w.heap.size 0)=some (.string d):=λx=>by grind [fJ,aA,Hid.o]
     have k2:∀x:ed W.heap.size W,x.world.cell? (Ad w.heap.size 2)=some (.bool dy):=λx=>by rw[fJ x _ _ (aQ BF.o)];simp_all
     have l1:∀x:ed W.heap.size W,x.world.cell? (Ad (w.heap.size+1) 1)=some (I up):=λx=>by rw[fJ x _ _ (aQ BU.o)];simp_all
     have l2:∀x:ed W.heap.size W,x.world.cell? (Ad (w.heap.size+1) 2)=some (.bool uz):=λx=>by rw[fJ x _ _ (aQ BU.o)];exact aA BU.o 2 rfl
     have B:=ai (λV (hV:Below W.heap.size W V)=>Aw.o V (HB.o.trans (hV.mono HB.o.size)));clear hW Aw BF BU;cases dy with
     | true =>
      have CF:Hid (A=true):=qO;clear qO;refine eT ρ κ ?_
      repeat (first | go_big_quiet_step (fail) | quiet_step (fail))
      refine mM ?_;rintro _ ⟨x,rfl⟩;go_wp2;go_ret;exact⟨dC (λb=>Ending.returned (.bool b)) CF.o.symm,HB.o.trans (x.keeps.mono HB.o.size)⟩
     | false =>
      have CF:Hid (A=(d.toList==FK.toList)):=by grind [amF]
      clear qO;refine eT ρ κ ?_
      repeat (first | go_big_quiet_step ((go_at_call 130;exact ma _ B.o)) | quiet_step ((go_at_call 130;exact ma _ B.o)))
      refine mM ?_;rintro _ ⟨x,rfl⟩;go_wp2;go_ret;exact⟨dC (λb=>Ending.returned (.bool b)) CF.o.symm,HB.o.trans (x.keeps.mono HB.o.size)⟩
   have K:((d.size:Int) != 16)=true:=by grind
   have qO:Hid (A=false):=by grind
   clear HA c c1 c2;go_enter func192,ntmps192;go_wp2;go_ret;exact⟨dC (λb=>Ending.returned (.bool b)) qO.o.symm,HB.o⟩
 have J:(r != ur)=true:=by grind
 have qO:Hid (A=false):=by grind
 clear HA c c1;go_enter func192,ntmps192;go_wp2;go_ret;exact⟨dC (λb=>Ending.returned (.bool b)) qO.o.symm,HB.o⟩
theorem Z7 {n:Nat} {p:Nat->Bool} {i:Nat} (hi:i<n) (h:p i=false):(List.range n).all p=false:=by
 grind
theorem VT {n:Nat} {p:Nat->Bool} (h:∀i,i<n->p i=true):(List.range n).all p=true:=by
 grind
theorem MU (fs:List nA) (us:List fC) (aF:Option Addr) (cF mb lo g cap:Nat) (w:World) (hF:eX jI 4 fN w aF fs) (hU:il lo w g fs.length cap us) (hmb:mb<w.heap.size) (yr:w.cell? (Ad mb 1)=some (.slice aF fs.length cF)) (hfl:∀n:Nat,n<256->w.cell? (Ad mb (5+n))=some (.string (fG hs n))) (hp:∀i,i<fs.length->(dz us i).refs≠0->0<=(dz us i).page/\(dz us i).page<256) (hd:∀i,i<fs.length->bD (aM fs i).data.size) (hn:fs.length<=64) :
  Calls prog 144 #[.pointer (some (Ad mb 0)),.slice (some (Ad g 0)) fs.length cap] w λe w'=>e=.returned (.bool ((List.range fs.length).all λi=>kQ hs (aM fs i) (dz us i)))/\Below w.heap.size w w':=by
 have HH:=ai hF;have HU:=ai hU;have hg:=hU.lt.2;have K5:Hid (∀i,i<fs.length->∀V,Below w.heap.size w V->Calls prog 192 #[.pointer (some (Ad mb 0)),.agg #[.string (aM fs i).data,I (aM fs i).refs,.bool (aM fs i).kE,.bool (aM fs i).seen],.agg #[I (dz us i).refs,I (dz us i).page,.bool (dz us i).zero]] V λe w'=>e=.returned (.bool (kQ hs (aM fs i) (dz us i)))/\Below V.heap.size V w'):=λi hi V hV=>OQ hs _ _ mb V (dV hmb hV.size) (λn hn=>(hV.cell (p:=(Ad mb (5+n))) hmb).trans (hfl n hn)) (hp i hi) (hd i hi)
 have sk:=ai (λi (hi:i<fs.length)=>@Z7 fs.length (λi=>kQ hs (aM fs i) (dz us i)) i hi);have He:=ai (@VT fs.length (λi=>kQ hs (aM fs i) (dz us i)));generalize ((List.range fs.length).all λi=>kQ hs (aM fs i) (dz us i))=A at sk He ⊢;obtain⟨n,y⟩:=ex fs.length;rw[<- y] at HU K5 sk He yr hn ⊢;have F:=ai y;clear hF hU hfl hp hd y;go_enter func144,ntmps144;go_wp2;go_loopw [13] (λiv wr=>∃k:Nat,k<=n/\iv=I (k:Int)/\Below w.heap.size w wr/\∀i,i<k->kQ hs (aM fs i) (dz us i)=true) (λiv _=>n-(intOf iv).toNat)
 case atStart=>grind [Below.refl]
 case round =>
  obtain⟨k,hk,rfl,hb,Fq⟩:=hrel;have HB:=ai hb;have HP:=ai Fq;clear Fq;by_cases hlt:k<n
  . obtain⟨fb,fo,J,K,di⟩:=HH.o (by rw[<- F.o];omega);subst J;have ce:∀j,j<4->wr.cell? (Ad fb (fo+k*4+j))=(jI (aM fs k))[j]?:=λj hj=>(hb.cell (p:=(Ad fb (fo+k*4+j))) K).trans (di k (by rw[<- F.o];exact hlt) j hj)
    have y0:=ce 0 ω;have y1:=ce 1 ω;have y2:=ce 2 ω;have y3:=ce 3 ω;rw[lB] at y0;obtain⟨z0,z1,z2⟩:=HU.o.at k hlt;have K5:=ai (K5.o k hlt);have sk:=ai (sk.o k hlt);have Qj:Hid (kQ hs (aM fs k) (dz us k)=true->∀i,i<k+1->kQ hs (aM fs i) (dz us i)=true):=λg i hi=>by
     by_cases e:i=k
     . rw[e];exact g
     exact HP.o i ω
    obtain⟨R,hR⟩:=ex (kQ hs (aM fs k) (dz us k));have sk:Hid (R=false->A=false):=λg=>sk.o (by rw[<- hR];exact g)
    rw[<- hR] at K5 Qj;obtain⟨u,hu⟩:=ex (dz us k);generalize aM fs k=f at K5 y0 y1 y2 y3;rw[<- hu] at K5 z0 z1 z2;obtain⟨d,r,dy,sn⟩:=f;obtain⟨ur,up,uz⟩:=u;simp only at K5 z0 z1 z2;have x0:wr.cell? (Ad fb (fo+k*4))=some (.string d):=y0;have x1:wr.cell? (Ad fb (fo+k*4+1))=some (I r):=y1;have x2:wr.cell? (Ad fb (fo+k*4+2))=some (.bool dy):=y2;have x3:wr.cell? (Ad fb (fo+k*4+3))=some (.bool sn):=y3;have N:=hb.size;have iQ:=ai (HB.o.alloc HB.o.size (.cells #[.string d,I r,.bool dy,.bool sn] 169));have BF:=ai (bH wr #[.string d,I r,.bool dy,.bool sn] 169);clear hR hu y0 y1 y2 y3 ce di hb He;go_wp2_with fail;generalize wr.alloc (.cells #[.string d,I r,.bool dy,.bool sn] 169)=W at iQ BF ⊢;generalize wr.heap.size=sb at BF ⊢;clear x0 x1 x2 x3;have Fs:=kf W;have k0:∀x:ed W.heap.size W,x.world.cell? (Ad sb 0)=some (.string d):=λx=>by rw[fJ x _ _ (aQ BF.o)];exact aA BF.o 0 rfl
    have k1:∀x:ed W.heap.size W,x.world.cell? (Ad sb 1)=some (I r):=λx=>by rw[fJ x _ _ (aQ BF.o)];exact aA BF.o 1 rfl
    have k2:∀x:ed W.heap.size W,x.world.cell? (Ad sb 2)=some (.bool dy):=λx=>by rw[fJ x _ _ (aQ BF.o)];exact aA BF.o 2 rfl
    have k3:∀x:ed W.heap.size W,x.world.cell? (Ad sb 3)=some (.bool sn):=λx=>by rw[fJ x _ _ (aQ BF.o)];exact aA BF.o 3 rfl
    have q:g<W.heap.size:=by have:=iQ.o.size;omega
    have l0:∀x:ed W.heap.size W,x.world.cell? (Ad g (k*3))=some (I ur):=λx=>by rw[fJ x _ _ q];exact(iQ.o.cell (p:=(Ad g (k*3))) hg).trans z0
    have l1:∀x:ed W.heap.size W,x.world.cell? (Ad g (k*3+1))=some (I up):=λx=>by rw[fJ x _ _ q];exact(iQ.o.cell (p:=(Ad g (k*3+1))) hg).trans z1
    have l2:∀x:ed W.heap.size W,x.world.cell? (Ad g (k*3+2))=some (.bool uz):=λx=>by rw[fJ x _ _ q];exact(iQ.o.cell (p:=(Ad g (k*3+2))) hg).trans z2
    have B:=ai (λV (hV:Below W.heap.size W V)=>K5.o V (iQ.o.trans (hV.mono iQ.o.size)));have M:(0:Int)<=(k:Int):=by omega
    have L:(k:Int)<(n:Int):=by omega
    clear K5 BF z0 z1 z2;refine eT κ κ ?_
    repeat (first | go_big_quiet_step ((go_at_call 192;exact ma _ B.o)) | quiet_step ((go_at_call 192;exact ma _ B.o)))
    refine mM ?_;rintro _ ⟨x,rfl⟩;have jc:=ai (iQ.o.trans (x.keeps.mono iQ.o.size));clear k0 k1 k2 k3 l0 l1 l2 B;cases R with
    | false =>
     have HA:=ai (sk.o rfl);go_wp2;go_ret;exact⟨dC (λb=>Ending.returned (.bool b)) HA.o.symm,jc.o⟩
    | true =>
     have G:=ai (Qj.o rfl);clear Qj sk;go_wp2;go_roundw
     case rel=>exact⟨k+1,ω,by go_num,jc.o,G.o⟩
     case measure=>simp[intOf];omega
  obtain rfl:k=n:=by omega
  have HA:=ai (He.o HP.o);clear hb;go_wp2;go_ret;exact⟨dC (λb=>Ending.returned (.bool b)) HA.o.symm,HB.o⟩
end Go.Proofs.YtlgoihmkgaaemaaGreat
