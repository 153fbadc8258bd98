import Derived.Test.YtlgoihmkgaaemaaGreatGP10
set_option maxHeartbeats 20000000
set_option linter.unusedVariables false
set_option maxRecDepth 100000
set_option linter.unusedSimpArgs false
namespace Go.Proofs.YtlgoihmkgaaemaaGreat
open Go.RowKit Tryz
variable {n lo g:Nat} {us:List fC} (hs:List bD) (l:List aU)
theorem aaA {hs:List bD} {ar:List aU} {k n:Nat} (hk:k<ar.length) (hn:n<(bw ar k).aY.toNat) (hz:(bw ar k).zero=false) (he:fE hs ((bw ar k).page+(n:Int))=⟨#[]⟩):sA hs ar=false:=by
 cases q:sA hs ar with
 | false=>rfl
 | true =>
  unfold sA at q;rw[sV] at q;have:=q (bw ar k) (kT hk);rw[sV] at this;have:=this n (uO.2 hn);rw[hz,he] at this;cases this
theorem Xz {hs:List bD} {ar:List aU} (h:∀k,k<ar.length->∀n,n<(bw ar k).aY.toNat->(bw ar k).zero=true\/fE hs ((bw ar k).page+(n:Int))≠⟨#[]⟩):sA hs ar=true:=by
 unfold sA;rw[sV];intro a ha;obtain⟨k,hk,rfl⟩:=jE vB ha;rw[sV];intro n hn;rcases h k hk n (uO.1 hn) with g | g
 . rw[show(ar.getD k vB).zero=true from g];rfl
 rw[D3,iP];right;intro e;refine g ?_;have:(fE hs ((bw ar k).page+(n:Int))).size=0:=e;generalize fE hs ((bw ar k).page+(n:Int))=x at this ⊢;obtain⟨⟨l⟩⟩:=x;have:l=[]:=mR this;rw[this]
theorem Lt (ar:List aU) (va:Value) (mb:Nat) (w:World) (ha:eN w va ar) (hc:bf ar=0) (hmb:mb<w.heap.size) (hfl:∀n:Nat,n<256->w.cell? (Ad mb (5+n))=some (.string (fE hs n))) :
  Calls prog 190 #[.pointer (some (Ad mb 0)),va] w λe w'=>e=.returned (.bool (sA hs ar))/\Below w.heap.size w w':=by
 obtain⟨ao,cap,rfl,dZ⟩:=ha;have M:=mK ar hc;have HL:=ai dZ;have K:=ai hfl;have QB:=ai (λk (hk:k<ar.length)=>gB ar k (gp ar hc k hk));have qI:=ai (λk n=>@aaA hs ar k n);have r:=ai (@Xz hs ar);obtain⟨A,hA⟩:=ex (sA hs ar);rw[<- hA] at qI r ⊢;clear dZ hfl hA;go_enter func190,ntmps190;go_wp2;go_loopw [10] (λiv wr=>∃k:Nat,k<=ar.length/\iv=I (k:Int)/\Below w.heap.size w wr/\∀i,i<k->∀n,n<(bw ar i).aY.toNat->(bw ar i).zero=true\/fE hs ((bw ar i).page+(n:Int))≠⟨#[]⟩) (λiv _=>ar.length-(intOf iv).toNat)
 case atStart=>grind [Below.refl]
 case round =>
  obtain⟨k,hk,rfl,hb,FM⟩:=hrel;have HB:=ai hb;have HP:=ai FM;clear FM;by_cases hlt:k<ar.length
  . obtain⟨b,off,J,Td⟩:=HL.o.resolve_left (λe=>Γ);subst J;obtain⟨d0,d1,d2,d3⟩:=Td k hlt;have h:=Td.lt k hlt;have c0:=(hb.cell (p:=(Ad b (off+k*4))) h).trans d0;have c1:=(hb.cell (p:=(Ad b (off+k*4+1))) h).trans d1;have c2:=(hb.cell (p:=(Ad b (off+k*4+2))) h).trans d2;have c3:=(hb.cell (p:=(Ad b (off+k*4+3))) h).trans d3;have y:=QB.o k hlt;have qI:=ai (λn=>qI.o k n hlt);have HS:Hid (∀n,n<(bw ar k).aY.toNat->(bw ar k).zero=true\/fE hs ((bw ar k).page+(n:Int))≠⟨#[]⟩)->Hid (∀i,i<k+1->∀n,n<(bw ar i).aY.toNat->(bw ar i).zero=true\/fE hs ((bw ar i).page+(n:Int))≠⟨#[]⟩):=λg i hi=>by
     by_cases e:i=k
     . rw[e];exact g.out
     exact HP.o i ω
    generalize bw ar k=a at c0 c1 c2 c3 y qI HS;obtain⟨pg,ps,pt,z⟩:=a;simp only at c0 c1 c2 c3 y qI HS;obtain⟨pn,rfl⟩:∃pn:Nat,pg=(pn:Int):=⟨pg.toNat,ω⟩;obtain⟨pm,rfl⟩:∃pm:Nat,ps=(pm:Int):=⟨ps.toNat,ω⟩;rw[kq] at HS qI;have jo:=ai (HB.o.alloc HB.o.size (.cells #[I (pn:Int),I (pm:Int),I pt,.bool z] 139));have SA:=ai (bG wr #[I (pn:Int),I (pm:Int),I pt,.bool z] 139);clear d0 d1 d2 d3 Td HP r QB HL hb;go_wp2;generalize wr.alloc (.cells #[I (pn:Int),I (pm:Int),I pt,.bool z] 139)=W1 at jo SA ⊢;generalize wr.heap.size=sb at SA ⊢;clear c0 c1 c2 c3;have s0:W1.cell? (Ad sb 0)=some (I (pn:Int)):=aA SA.o 0 rfl;have s3:W1.cell? (Ad sb 3)=some (.bool z):=aA SA.o 3 rfl;have L:Hid (∀n:Nat,n<256->W1.cell? (Ad mb (5+n))=some (.string (fE hs n))):=λn hn=>(jo.o.cell (p:=(Ad mb (5+n))) hmb).trans (K.o n hn)
    go_loopw [16] (λiv wq=>∃n:Nat,n<=pm/\iv=I (n:Int)/\(wq.heap=W1.heap/\Below w.heap.size w wq)/\∀i,i<n->z=true\/fE hs ((pn:Int)+(i:Int))≠⟨#[]⟩) (λiv _=>pm-(intOf iv).toNat)
    case atStart=>exact⟨0,ω,rfl,⟨rfl,jo.o⟩,λi hi=>ω⟩
    case round =>
     obtain⟨n,hn,rfl,⟨hD,ZX⟩,FM⟩:=hrel;generalize wr=wq at hD ZX ⊢;have Tk:=ai ZX;have B:=ai hD;have Cv:=ai FM;have r0:wq.cell? (Ad sb 0)=some (I (pn:Int)):=(Hm (by rw[hD])).trans s0;have r3:wq.cell? (Ad sb 3)=some (.bool z):=(Hm (by rw[hD])).trans s3;have F:Hid (∀n:Nat,n<256->wq.cell? (Ad mb (5+n))=some (.string (fE hs n))):=λn hn=>(Hm (by rw[B.o])).trans (L.o n hn)
     clear hD ZX FM;by_cases Br:n<pm
     . have G:(n:Int)<(pm:Int):=by omega
       have HN:Hid (∀wz:World,wz=wq.drew->(wz.heap=W1.heap/\Below w.heap.size w wz)):=λwz e=>by rw[e];exact⟨B.o,Tk.o.drew⟩
       have Mf:Hid ((z=true\/fE hs ((pn:Int)+(n:Int))≠⟨#[]⟩)->∀i,i<n+1->z=true\/fE hs ((pn:Int)+(i:Int))≠⟨#[]⟩):=λg i hi=>by
        by_cases e:i=n
        . rw[e];exact g
        exact Cv.o i ω
       cases z with
       | true =>
        clear qI HS Cv;go_wp2;go_region;go_wp2;go_roundw
        case rel=>exact⟨n+1,ω,by go_num,HN.o _ rfl,Mf.o (.inl trivial)⟩
        case measure=>simp[intOf];omega
       | false =>
        have q:=F.o (pn+n) ω;have ew:IntKind.i64.wrap ((pn:Int)+(n:Int))=((pn+n:Nat):Int):=by rw[Ql];omega
        have ei:((pn+n:Nat):Int)=(pn:Int)+(n:Int):=by omega
        have i0:(0:Int)<=((pn+n:Nat):Int):=by omega
        have i1:((pn+n:Nat):Int)<256:=by omega
        have qI:=ai (qI.o n Br rfl);rw[<- ei] at qI Mf;obtain⟨X,hX⟩:=ex (pn+n);rw[<- hX] at q ew i0 i1 qI Mf;generalize fE hs (X:Int)=D at q qI Mf;clear HS Cv F hX ei;by_cases hz:D=⟨#[]⟩
        . have hA:=qI.o hz;subst hA hz;go_wp2;go_region;go_wp2;go_ret;exact⟨rfl,Tk.o.drew⟩
        have N:D.toList.isEmpty=false:=by
         rw[Ea];cases q2:D.data.toList.isEmpty with
         | false=>rfl
         | true=>exact absurd (by obtain⟨⟨l⟩⟩:=D;have e:l=[]:=List.isEmpty_iff.1 q2;rw[e]) hz
        clear qI;go_wp2;go_region;go_wp2;go_roundw
        case rel=>exact⟨n+1,ω,by go_num,HN.o _ rfl,Mf.o (.inr hz)⟩
        case measure=>simp[intOf];omega
     obtain rfl:n=pm:=by omega
     have Cu:=ai (HS Cv);have G:¬(n:Int)<(n:Int):=by omega
     go_wp2;go_roundw
     case rel=>exact⟨k+1,ω,by go_num,Tk.o,Cu.o⟩
     case measure=>simp[intOf];omega
  obtain rfl:k=ar.length:=by omega
  have hA:=r.o HP.o;subst hA;clear hb;go_wp2;go_ret;exact⟨rfl,HB.o⟩
theorem Lq (s:cZ) (va:Value) (ap:Option Addr) (cp mb:Nat) (w:World) (ha:eN w va s.bu) (hf:Gh s) (hmb:mb<w.heap.size) (hfl:∀n:Nat,n<256->w.cell? (Ad mb (5+n))=some (.string (fE hs n))) :
  Calls prog 141 #[.pointer (some (Ad mb 0)),.agg #[.bool s.live,va,.slice ap s.bl.length cp]] w λe w'=>e=.returned (.bool (qx hs s))/\Below w.heap.size w w':=by
 have zh:=ai (λV (hV:Below w.heap.size w V)=>jL s.bu va V (ha.below hV) hf.bu);have h:Hid (bf s.bu=0->∀V,Below w.heap.size w V->Calls prog 190 #[.pointer (some (Ad mb 0)),va] V λe w'=>e=.returned (.bool (sA hs s.bu))/\Below V.heap.size V w'):=λhc V hV=>Lt hs s.bu va mb V (ha.below hV) hc (gm hmb hV.size) (λn hn=>(hV.cell (p:=(Ad mb (5+n))) hmb).trans (hfl n hn))
 obtain⟨A,hA⟩:=ex (qx hs s);rw[<- hA];obtain⟨aa,ca,Ec,_⟩:=ha;subst Ec;have B:=hf.bu.2;have G:s.bl.length<=140737488351232:=hf.bl;unfold qx at hA;have HA:=ai hA;clear hf hfl hA;obtain⟨np,FC⟩:=ex s.bl.length;obtain⟨C,hC⟩:=ex (bf s.bu);obtain⟨E,hE⟩:=ex (sA hs s.bu);obtain⟨lv,y⟩:=ex s.live;generalize s.bu.length=na at HA zh h B ⊢;rw[<- FC] at HA G ⊢;rw[<- hC] at HA zh h;rw[<- hE] at HA h;rw[<- y] at HA ⊢;clear FC hC hE y;have HB:=ai ((aN w.heap.size w).alloc (aJ _) (.cells #[.bool lv,.slice aa na ca,.slice ap np cp] 99));have X0:=ai (bG w #[.bool lv,.slice aa na ca,.slice ap np cp] 99);cases lv with
 | false =>
  have vv:Hid (A=(decide (na=0)&&decide (np=0))):=HA;clear HA zh h;rcases(show(na=0/\np=0)\/(na=0/\¬np=0)\/¬na=0 by omega) with⟨g,k⟩ | ⟨g,k⟩ | g
  . have h0:((na:Int)==0)=true:=by grind
    have h1:((np:Int)==0)=true:=by grind
    have C2:Hid (A=true):=by grind
    clear vv g k;go_enter func141,ntmps141;go_wp2;go_ret;exact⟨dO (λb=>Ending.returned (.bool b)) C2.o.symm,HB.o⟩
  . have h0:((na:Int)==0)=true:=by grind
    have h1:((np:Int)==0)=false:=by grind
    have C2:Hid (A=false):=by grind
    clear vv g k;go_enter func141,ntmps141;go_wp2;go_ret;exact⟨dO (λb=>Ending.returned (.bool b)) C2.o.symm,HB.o⟩
  have h0:((na:Int)==0)=false:=by grind
  have C2:Hid (A=false):=by grind
  clear vv g;go_enter func141,ntmps141;go_wp2;go_ret;exact⟨dO (λb=>Ending.returned (.bool b)) C2.o.symm,HB.o⟩
 | true =>
  have vv:Hid (A=(decide (C=0)&&E)):=HA;clear HA;by_cases g:C=0
  . subst g;have F:=ai (h.o rfl);have C2:Hid (A=E):=vv;clear vv h;go_enter func141,ntmps141;go_wp2_with (first | (go_at_call 117;refine(zh.o _ HB.o).mono ?_;rintro e w1 ⟨rfl,q⟩;have dz:=ai (cJ HB.o q);have X1:=ai (aO X0.o q ξ);have x1:w1.cell? (Ad w.heap.size 1)=some (.slice aa na ca):=aA X1.o 1 rfl;clear q) | (go_at_call 190;refine(F.o _ dz.o).mono ?_;rintro e w2 ⟨rfl,r⟩;have iI:=ai (cJ dz.o r);clear r));go_ret;exact⟨dO (λb=>Ending.returned (.bool b)) C2.o.symm,iI.o⟩
  have C2:Hid (A=false):=by grind
  have g0:(C==0)=false:=by grind
  clear vv h;go_enter func141,ntmps141;go_wp2_with (go_at_call 117;refine(zh.o _ HB.o).mono ?_;rintro e w1 ⟨rfl,q⟩;have dz:=ai (cJ HB.o q);clear q);go_ret;exact⟨dO (λb=>Ending.returned (.bool b)) C2.o.symm,dz.o⟩
theorem mI:0<=bR l/\bR l<=65025:=by
 unfold bR;split
 . rename_i h
   have h1:=mK l h;have h2:=CG l h l.length (aJ _);omega
 omega
theorem xL (l:List cZ):∀k,0<=iU l k/\iU l k<=65025*k
 | 0=>⟨Bx _,by show(0:Int)<=_;omega⟩
 | k+1=>by
  have h1:=xL l k;have h2:=mI (ak l k).bu
  grind [iU]
theorem Eu (l:List cZ) (ao:Option Addr) (cap mb:Nat) (w:World) (h:su w ao l) (hf:∀k,k<l.length->dG (ak l k).bu) (hn:l.length<=1000000) (hmb:w.cell? (Ad mb 3)=some (.slice ao l.length cap)) :
  Calls prog 143 #[.pointer (some (Ad mb 0))] w λe w'=>e=.returned (I (dJ l))/\Below w.heap.size w w':=by
 have HF:=ai hf;have HH:=ai h;have Kc:=ai (xL l);have Me:Hid (∀k,iU l (k+1)=iU l k+bR (ak l k).bu):=λk=>rfl
 clear h hf;go_enter func143,ntmps143;go_wp2;go_loopw [3,12] (λsv iv wr=>∃k:Nat,k<=l.length/\iv=I (k:Int)/\sv=I (iU l k)/\Below w.heap.size w wr) (λ_ iv _=>l.length-(intOf iv).toNat)
 case atStart=>exact⟨0,ω,rfl,rfl,aN _ _⟩
 case round =>
  obtain⟨k,hk,rfl,rfl,hb⟩:=hrel;have HB:=ai hb;have MG:=Kc.o k;by_cases hlt:k<l.length
  . obtain⟨b,off,F,G,dZ⟩:=(HH.o.below hb) ω;subst F;obtain⟨va,ap,cp,c0,c1,c2,c3,c4,c5⟩:=dZ k hlt;have Pc:=HF.o k hlt;have q:=Me.o k;have B:=mI (ak l k).bu;obtain⟨aa,ca,rfl,_⟩:=id c3;have HT:Hid (∀W,Below wr.heap.size wr W->Calls prog 70 #[.slice aa (ak l k).bu.length ca] W λe w'=>e=.returned (I (bR (ak l k).bu))/\Below W.heap.size W w'):=λW hW=>xk _ _ _ (c3.below hW) Pc
    obtain⟨na,tR⟩:=ex ((ak l k).bu.length);obtain⟨lv,y⟩:=ex ((ak l k).live);obtain⟨T,hT⟩:=ex (bR (ak l k).bu);obtain⟨R,hR⟩:=ex (iU l k);generalize (ak l k).bl.length=n at c2 c5;rw[<- tR] at c1 HT;rw[<- y] at c0;rw[<- hT] at HT q B;rw[<- hR] at q MG ⊢;have A:=ai q;clear tR y hT hR c3 c4 c5 Pc dZ hb q;have jo:=ai (HB.o.alloc HB.o.size (.cells #[.bool lv,.slice aa na ca,.slice ap n cp] 99));go_wp2_with (go_at_call 70;refine(HT.o _ ((aN _ _).alloc (aJ _) _)).mono ?_;rintro e w1 ⟨rfl,r⟩;have dz:=ai (cJ jo.o r);clear r);go_roundw
    case rel=>exact⟨k+1,ω,by go_num,by rw[A.o],dz.o⟩
    case measure=>simp[intOf];omega
  obtain rfl:k=l.length:=by omega
  clear hb;go_wp2;go_ret;exact⟨rfl,HB.o⟩
def vN (u:fC):List Value:=[I u.refs,I u.page,.bool u.zero]
theorem yr (u:fC):(vN u).length=3:=rfl
def iz (lo:Nat) (w:World) (g n cap:Nat) (us:List fC):Prop:=us.length=n/\w.ownsRow lo 302 3 (.slice (some (Ad g 0)) n cap) n (us.flatMap vN)
theorem iz.kp {w w':World} {D:Nat->Prop} {cap:Nat} (h:iz lo w g n cap us) (hk:aI D w w') (hd:¬D g):iz lo w' g n cap us:=⟨h.1,hk.row h.2 (λb hb=>by injection hb with hb;grind)⟩
theorem iz.lt {w:World} {cap:Nat} (h:iz lo w g n cap us):lo<=g/\g<w.heap.size:=h.2.lt g rfl
theorem iz.at {w:World} {cap:Nat} (h:iz lo w g n cap us) (i:Nat) (hi:i<n):w.cell? (Ad g (i*3))=some (I (dx us i).refs)/\w.cell? (Ad g (i*3+1))=some (I (dx us i).page)/\w.cell? (Ad g (i*3+2))=some (.bool (dx us i).zero):=by
 obtain⟨h1,h2⟩:=h;subst h1;exact⟨kF vN yr dM h2 i 0 hi ω,kF vN yr dM h2 i 1 hi ω,kF vN yr dM h2 i 2 hi ω⟩
theorem CQ {D:Nat->Prop} {w w':World} (h:aI D w w'):aI D w w'.drew:=h.trans (aI.drew D w') (λ_ _ x=>x)
theorem iz.d {w:World} {cap:Nat} (h:iz lo w g n cap us):iz lo w.drew g n cap us:=h.kp (aI.drew (λ_=>False) w) (λx=>x)
theorem Xx {α:Type} (f:α->List Value) (hf:∀x,(f x).length=3) (d:α) (x:α) (a b c:Value) (hx:f x=[a,b,c]) (l:List α) (i:Nat) (hi:i<l.length):(l.set i x).flatMap f=(((l.flatMap f).set (i*3) a).set (i*3+1) b).set (i*3+2) c:=by
 induction l generalizing i with
 | nil=>cases hi
 | cons y r ih =>
  cases i with
  | zero =>
   rw[eI,oF,oF,hx];obtain⟨p,q,s,e⟩:∃p q s,f y=[p,q,s]:=by
    have:=hf y
    match h:f y with
    | [p,q,s]=>grind
    | []=>grind
    | [_]=>grind
    | [_,_]=>grind
    | _::_::_::_::_=>grind
   rw[e];rfl
  | succ i =>
   grind
theorem iz.set {w:World} {cap:Nat} (h:iz lo w g n cap us) (i:Nat) (hi:i<n) (u:fC):iz lo (((w.setCell (Ad g (i*3)) (I u.refs)).setCell (Ad g (i*3+1)) (I u.page)).setCell (Ad g (i*3+2)) (.bool u.zero)) g n cap (us.set i u):=by
 refine⟨by rw[gX];exact h.1,?_⟩;rw[Xx vN yr dM u _ _ _ rfl us i (by rw[h.1];exact hi)];exact fI (fI (fI h.2 _ _) _ _) _ _
theorem Ru (us:List fC) (e:bK) (z:Bool) (lo g n cap:Nat) (w:World) (h:iz lo w g n cap us) (hn:n<=1000) (he:cR e.page/\cR e.loc) (hr:∀i,i<n->0<=(dx us i).refs/\(dx us i).refs<=1000000) :
  Calls prog 191 #[.slice (some (Ad g 0)) n cap,.agg #[I e.page,I e.kind,I e.loc],.bool z] w λx w'=>x=.returned (.bool (px us e z))/\aI (λb=>b=g) w w'/\iz lo w' g n cap (if px us e z then sY us e z else us):=by
 obtain⟨A,hA⟩:=ex (px us e z);rw[<- hA];obtain⟨R,hR⟩:=ex (if A then sY us e z else us);rw[<- hR];have HA:=ai hA;have HR:=ai hR;clear hA hR;have J:=h.lt.2;have HU:=ai h;have L:us.length=n:=h.1;obtain⟨pg,kd,lc⟩:=e;simp only at he ⊢;have UD:=ai (aI.alloc (λb=>b=g) w (.cells #[I pg,I kd,I lc] 174));have ZC:=ai (h.kp (aI.alloc (λ_=>False) w (.cells #[I pg,I kd,I lc] 174)) (λx=>x));clear h;by_cases c:0<=lc/\lc<(n:Int)
 . obtain⟨i,rfl⟩:∃i:Nat,lc=(i:Int):=⟨lc.toNat,ω⟩;have hi:i<n:=by omega
   obtain⟨u0,u1,u2⟩:=HU.o.at i hi;have F:=hr i hi;have vv:Hid (A=!(decide (0<(dx us i).refs)&&(decide ((dx us i).page≠pg) || (dx us i).zero != z))):=by
    grind [px]
   have r:=ai (ZC.o.set i hi ⟨(dx us i).refs+1,pg,z⟩);have y:Hid (sY us ⟨pg,kd,(i:Int)⟩ z=us.set i ⟨(dx us i).refs+1,pg,z⟩):=by
    rfl
   obtain⟨U,hU⟩:=ex (dx us i);rw[<- hU] at u0 u1 u2 F vv r y;obtain⟨ur,up,uz⟩:=U;simp only at u0 u1 u2 F vv r y;have q:=ai hU;clear hU hr HA;have G:IntKind.i64.wrap (ur+1)=ur+1:=by rw[Ql];omega
   have BE:=ai (bG w #[I pg,I kd,I (i:Int)] 174);have eW:Hid (∀V,aI (λb=>b=g) w V->∀us',iz lo V g n cap us'->A=true->us'=us.set i ⟨ur+1,pg,z⟩->iz lo V g n cap R):=λV _ us' ho ha e=>by
    have:R=us':=by rw[HR.o,aQ ha,y.o,e]
    grind
   have B:Hid (A=false->R=us):=λha=>by rw[HR.o,ha];rfl
   clear HR y;rcases(show ¬0<ur\/(0<ur/\up=pg/\uz=z)\/(0<ur/\up=pg/\¬uz=z)\/(0<ur/\¬up=pg) by
    grind) with g1 | ⟨g1,g2,g3⟩ | ⟨g1,g2,g3⟩ | ⟨g1,g2⟩
   . have d1:decide (0<ur)=false:=eH g1;have C2:Hid (A=true):=by grind
     clear vv;go_enter func191,ntmps191;go_wp2;generalize w.alloc (.cells #[I pg,I kd,I (i:Int)] 174)=W at UD ZC r BE ⊢;generalize w.heap.size=eb at BE ⊢;obtain⟨y0,y1,y2⟩:=ZC.o.at i hi;have v0:W.cell? (Ad g (i*3))=some (I ur):=by rw[y0,<- q.o]
     have v1:W.cell? (Ad g (i*3+1))=some (I up):=by rw[y1,<- q.o]
     have v2:W.cell? (Ad g (i*3+2))=some (.bool uz):=by rw[y2,<- q.o]
     have f0:W.frozen? (Ad g (i*3))=false:=iN ZC.o.2 _;have f1:W.frozen? (Ad g (i*3+1))=false:=iN ZC.o.2 _;have f2:W.frozen? (Ad g (i*3+2))=false:=iN ZC.o.2 _;have w0:W.cell? (Ad eb 0)=some (I pg):=aA BE.o 0 rfl;clear u0 u1 u2 y0 y1 y2;go_region;go_wp2;go_region;go_wp2;go_ret;have K:=UD.o.trans (vw (D:=λb=>b=g) W g (i*3) (i*3+1) (i*3+2) (I (ur+1)) (I pg) (.bool z) rfl) (λ_ _ x=>x);exact⟨dO (λb=>Ending.returned (.bool b)) C2.o.symm,CQ (CQ K),eW.o _ (CQ (CQ K)) _ r.o.d.d C2.o rfl⟩
   . have b1:(up != pg)=false:=by grind
     have b2:(uz==z)=true:=by grind
     have C2:Hid (A=true):=by grind
     clear vv g2 g3;go_enter func191,ntmps191;go_wp2;generalize w.alloc (.cells #[I pg,I kd,I (i:Int)] 174)=W at UD ZC r BE ⊢;generalize w.heap.size=eb at BE ⊢;obtain⟨y0,y1,y2⟩:=ZC.o.at i hi;have v0:W.cell? (Ad g (i*3))=some (I ur):=by rw[y0,<- q.o]
     have v1:W.cell? (Ad g (i*3+1))=some (I up):=by rw[y1,<- q.o]
     have v2:W.cell? (Ad g (i*3+2))=some (.bool uz):=by rw[y2,<- q.o]
     have f0:W.frozen? (Ad g (i*3))=false:=iN ZC.o.2 _;have f1:W.frozen? (Ad g (i*3+1))=false:=iN ZC.o.2 _;have f2:W.frozen? (Ad g (i*3+2))=false:=iN ZC.o.2 _;have w0:W.cell? (Ad eb 0)=some (I pg):=aA BE.o 0 rfl;clear u0 u1 u2 y0 y1 y2;go_region;go_wp2;go_region;go_wp2;go_ret;have K:=UD.o.trans (vw (D:=λb=>b=g) W g (i*3) (i*3+1) (i*3+2) (I (ur+1)) (I pg) (.bool z) rfl) (λ_ _ x=>x);exact⟨dO (λb=>Ending.returned (.bool b)) C2.o.symm,CQ (CQ K),eW.o _ (CQ (CQ K)) _ r.o.d.d C2.o rfl⟩
   . have b1:(up != pg)=false:=by grind
     have b2:(uz==z)=false:=by grind
     have C2:Hid (A=false):=by grind
     clear vv g2 g3 eW;go_enter func191,ntmps191;go_wp2;generalize w.alloc (.cells #[I pg,I kd,I (i:Int)] 174)=W at UD ZC r BE ⊢;generalize w.heap.size=eb at BE ⊢;obtain⟨y0,y1,y2⟩:=ZC.o.at i hi;have v0:W.cell? (Ad g (i*3))=some (I ur):=by rw[y0,<- q.o]
     have v1:W.cell? (Ad g (i*3+1))=some (I up):=by rw[y1,<- q.o]
     have v2:W.cell? (Ad g (i*3+2))=some (.bool uz):=by rw[y2,<- q.o]
     have w0:W.cell? (Ad eb 0)=some (I pg):=aA BE.o 0 rfl;clear u0 u1 u2 y0 y1 y2 r;go_region;go_wp2;go_ret;rw[B.o C2.o];exact⟨dO (λb=>Ending.returned (.bool b)) C2.o.symm,CQ UD.o,ZC.o.d⟩
   have b1:(up != pg)=true:=by grind
   have C2:Hid (A=false):=by grind
   clear vv g2 eW;go_enter func191,ntmps191;go_wp2;generalize w.alloc (.cells #[I pg,I kd,I (i:Int)] 174)=W at UD ZC r BE ⊢;generalize w.heap.size=eb at BE ⊢;obtain⟨y0,y1,y2⟩:=ZC.o.at i hi;have v0:W.cell? (Ad g (i*3))=some (I ur):=by rw[y0,<- q.o]
   have v1:W.cell? (Ad g (i*3+1))=some (I up):=by rw[y1,<- q.o]
   have w0:W.cell? (Ad eb 0)=some (I pg):=aA BE.o 0 rfl;clear u0 u1 u2 y0 y1 y2 r;go_region;go_wp2;go_ret;rw[B.o C2.o];exact⟨dO (λb=>Ending.returned (.bool b)) C2.o.symm,CQ UD.o,ZC.o.d⟩
 have C2:Hid (A=false):=by
  grind [px]
 have B:Hid (R=us):=by grind [Hid.o]
 clear HA hr HR;rcases(show lc<0\/(0<=lc/\(n:Int)<=lc) by omega) with g1 | ⟨g1,g2⟩
 all_goals
  go_enter func191,ntmps191;go_wp2;go_ret;rw[B.o];exact⟨dO (λb=>Ending.returned (.bool b)) C2.o.symm,UD.o,ZC.o⟩
theorem Ig (s:cZ) (va:Value) (ap:Option Addr) (cp:Nat) (uf us:List fC) (lo gf nf cf gs ns cs:Nat) (bd:Int) (w0 w:World) (ha:eN w0 va s.bu) (he:dE bC 3 gJ w0 ap s.bl) (hfit:Gh s) (hw:Below w0.heap.size w0 w) (hlo:w0.heap.size<=lo) (huf:iz lo w gf nf cf uf) (hus:iz lo w gs ns cs us) (hne:¬gf=gs) (hb1:mY uf nf bd) (hb2:mY us ns bd) (hB:bd<=100000) (Ju:nf<=1000) (hns:ns<=1000) :
  Calls prog 142 #[.agg #[.bool s.live,va,.slice ap s.bl.length cp],.slice (some (Ad gf 0)) nf cf,.slice (some (Ad gs 0)) ns cs] w λx w'=>x=.returned (.bool (kg s.bu s.bl (uf,us) s.bl.length))/\aI (λb=>b=gf\/b=gs) w w'/\(kg s.bu s.bl (uf,us) s.bl.length=true->iz lo w' gf nf cf (jK s.bu s.bl (uf,us) s.bl.length).1/\iz lo w' gs ns cs (jK s.bu s.bl (uf,us) s.bl.length).2):=by
 obtain⟨lv,ar,es⟩:=s;simp only at ha he hfit ⊢;have Z:=ai ha;have a4:=ai he;have DB:=ai hfit.bu;have Ti:=ai hfit.MQ;have ay:es.length<=140737488351232:=hfit.bl;have HW:=ai hw;have av:=huf.lt;have al:=hus.lt;have Tk:=ai (JS ar es (uf,us) nf ns bd hb1 hb2);have qI:=ai (aaO ar es (uf,us));have uy:Hid (∀k,kg ar es (uf,us) k=true->yz ar (qh es k) (jK ar es (uf,us) k).1 (jK ar es (uf,us) k).2 (aW es k)=true->kg ar es (uf,us) (k+1)=true/\jK ar es (uf,us) (k+1)=ue ar (jK ar es (uf,us) k) (aW es k)):=λk h1 h2=>⟨by grind [kg],rfl⟩
 have O:Hid (∀k,qh es (k+1)=(aW es k).page):=λk=>by rfl
 obtain⟨aa,ca,Ec,_⟩:=id ha;subst Ec;obtain⟨na,tR⟩:=ex ar.length;rw[<- tR] at Z ⊢;have xB:=ai (aI.alloc (λb=>b=gf\/b=gs) w (.cells #[.bool lv,.slice aa na ca,.slice ap es.length cp] 99));have BS:=ai (bG w #[.bool lv,.slice aa na ca,.slice ap es.length cp] 99);have Y:=ai (huf.kp (aI.alloc (λ_=>False) w (.cells #[.bool lv,.slice aa na ca,.slice ap es.length cp] 99)) (λx=>x));have T:=ai (hus.kp (aI.alloc (λ_=>False) w (.cells #[.bool lv,.slice aa na ca,.slice ap es.length cp] 99)) (λx=>x));clear ha he hfit hw huf hus hb1 hb2 tR;go_enter func142,ntmps142;go_wp2;obtain⟨W,hW⟩:=ex (w.alloc (.cells #[.bool lv,.slice aa na ca,.slice ap es.length cp] 99));rw[<- hW] at xB BS Y T ⊢;obtain⟨sb,O8⟩:=ex w.heap.size;have au:¬sb=gf:=by omega
 have aw:¬sb=gs:=by omega
 have am:W.heap.size=sb+1:=by simp_all
 have ao:w0.heap.size<=sb:=by omega
 have aq:gf<sb:=by omega
 have aj:gs<sb:=by omega
 rw[<- O8] at BS ⊢;clear hW O8;go_loopw [7,15] (λlv iv wr=>∃k:Nat,k<=es.length/\iv=I (k:Int)/\lv=I (qh es k)/\kg ar es (uf,us) k=true/\aI (λb=>b=gf\/b=gs) W wr/\iz lo wr gf nf cf (jK ar es (uf,us) k).1/\iz lo wr gs ns cs (jK ar es (uf,us) k).2) (λ_ iv _=>es.length-(intOf iv).toNat)
 case atStart=>exact⟨0,ω,rfl,rfl,rfl,aI.refl _ _,Y.o,T.o⟩
 case round =>
  obtain⟨k,hk,rfl,rfl,a0,J9,a3,a1⟩:=hrel;have X:=ai J9;have R:=ai a0;have K:=ai a3;have M:=ai a1;obtain⟨L,hL⟩:=ex (qh es k);rw[<- hL];have bs:=J9.keep BS.o (λx=>ω);have an:=J9.size;have s2:wr.cell? (Ad sb 2)=some (.slice ap es.length cp):=aA bs 2 rfl;have a2:=ai bs;by_cases hlt:k<es.length
  . have Q:=(J9.below (xB.o.below HW.o HW.o.size (λb hb=>ω)) ω (λb hb=>ω):Below w0.heap.size w0 wr);have eB:=ai Q;obtain⟨eb,eo,a9,af,dZ⟩:=a4.o ω;subst a9;have ce:∀j,j<3->wr.cell? (Ad eb (eo+k*3+j))=(bC (aW es k))[j]?:=λj hj=>(Q.cell (p:=(Ad eb (eo+k*3+j))) af).trans (dZ k hlt j hj)
    have e0:=ce 0 ω;have e1:=ce 1 ω;have e2:=ce 2 ω;rw[jt] at e0;have J:=Ti.o k hlt;have qI:=ai (qI.o k hlt);have uy:=ai (uy.o k R.o);have O:=ai (O.o k);obtain⟨a7,a5,ad,ag⟩:=Tk.o k ω R.o;have ae:(k:Int)<=255:=by omega
    have N:Hid (mY (jK ar es (uf,us) k).1 nf 1000000/\mY (jK ar es (uf,us) k).2 ns 1000000):=⟨a7.mono ω,a5.mono ω⟩;have Tj:Hid (∀V,Below w0.heap.size w0 V->Calls prog 77 #[.slice aa na ca,I (aW es k).page] V λe w'=>e=.returned (.tuple #[.agg (ou (bc ar (aW es k).page).1),.bool (bc ar (aW es k).page).2])/\Below V.heap.size V w'):=λV hV=>zg ar _ _ V (Z.o.below hV) DB.o
    rw[<- hL] at qI uy;have y:Hid (∀u:List fC×List fC,ue ar u (aW es k)=if (aW es k).kind=1 then (sY u.1 (aW es k) (bc ar (aW es k).page).1.zero,u.2) else (u.1,sY u.2 (aW es k) (bc ar (aW es k).page).1.zero)):=λu=>rfl
    obtain⟨UU,a6⟩:=ex (jK ar es (uf,us) k);rw[<- a6] at qI uy N K M;obtain⟨U1,U2⟩:=UU;unfold yz at qI uy;obtain⟨E,hE⟩:=ex (aW es k);rw[<- hE] at e0 e1 e2 J qI uy O Tj y;obtain⟨pg,kd,lc⟩:=E;simp only at qI uy N K M J O Tj y;have x0:wr.cell? (Ad eb (eo+k*3))=some (I pg):=e0;have x1:wr.cell? (Ad eb (eo+k*3+1))=some (I kd):=e1;have x2:wr.cell? (Ad eb (eo+k*3+2))=some (I lc):=e2;obtain⟨⟨fa,ok⟩,hF⟩:∃F,F=bc ar pg:=⟨_,rfl⟩;rw[<- hF] at qI uy Tj y;obtain⟨f1,f2,f3,z⟩:=fa;unfold ou at Tj;simp only at qI uy Tj y;have B:=ai (λV (hV:iz lo V gf nf cf U1)=>Ru U1 ⟨pg,kd,lc⟩ z lo gf nf cf V hV Ju ⟨J.1,J.2.2⟩ (λi hi=>N.o.1.2 i hi));have A:=ai (λV (hV:iz lo V gs ns cs U2)=>Ru U2 ⟨pg,kd,lc⟩ z lo gs ns cs V hV hns ⟨J.1,J.2.2⟩ (λi hi=>N.o.2.2 i hi));obtain⟨A1,U⟩:=ex (px U1 ⟨pg,kd,lc⟩ z);obtain⟨A2,Zx⟩:=ex (px U2 ⟨pg,kd,lc⟩ z);rw[<- U,<- Zx] at qI uy;rw[<- U] at B;rw[<- Zx] at A;have az:=Q.size;have KA:=ai (X.o.trans (aI.alloc (λb=>b=gf\/b=gs) wr (.cells #[I pg,I kd,I lc] 174)) (λ_ _ x=>x));have jo:=ai (eB.o.alloc eB.o.size (.cells #[I pg,I kd,I lc] 174));have OA:=ai (K.o.kp (aI.alloc (λ_=>False) wr (.cells #[I pg,I kd,I lc] 174)) (λx=>x));have OB:=ai (M.o.kp (aI.alloc (λ_=>False) wr (.cells #[I pg,I kd,I lc] 174)) (λx=>x));have ah:(wr.alloc (.cells #[I pg,I kd,I lc] 174)).cell? (Ad sb 1)=some (.slice aa na ca):=aA (bB a2.o _) 1 rfl;have BE:=ai (bG wr #[I pg,I kd,I lc] 174);clear e0 e1 e2 hL a6 hE hF U Zx J9 a0 a3 a1 Q dZ ce a7 a5 ad ag Tk a4 Z DB Ti Y T X eB K M N bs a2 BS ae;cases ok with
    | false =>
     have h:=ai (qI.o rfl);clear qI uy B A y;go_wp2_with (go_at_call 77;refine(Tj.o _ jo.o).mono ?_;rintro e w1 ⟨rfl,hb1⟩;have K1:=ai (KA.o.trans (aI.cA hb1) (λ_ _ x=>x));have MJ:=ai (aO BE.o hb1 ξ);have G:wr.heap.size<w1.heap.size:=aM MJ.o;clear hb1);have KX:=ai (K1.o.trans (aI.alloc (λb=>b=gf\/b=gs) w1 (.cells #[I f1,I f2,I f3,.bool z] 139)) (λ_ _ x=>x));go_ret;exact⟨dO (λb=>Ending.returned (.bool b)) h.o.symm,xB.o.trans KX.o (λ_ _ x=>x),λx=>by rw[h.o] at x;cases x⟩
    | true =>
     by_cases hlp:pg<=L
     . have h:=ai (qI.o Γ);clear qI uy B A y;go_wp2_with (go_at_call 77;refine(Tj.o _ jo.o).mono ?_;rintro e w1 ⟨rfl,hb1⟩;have K1:=ai (KA.o.trans (aI.cA hb1) (λ_ _ x=>x));have MJ:=ai (aO BE.o hb1 ξ);have t0:w1.cell? (Ad wr.heap.size 0)=some (I pg):=aA MJ.o 0 rfl;have G:wr.heap.size<w1.heap.size:=aM MJ.o;clear hb1);have KX:=ai (K1.o.trans (aI.alloc (λb=>b=gf\/b=gs) w1 (.cells #[I f1,I f2,I f3,.bool z] 139)) (λ_ _ x=>x));go_ret;exact⟨dO (λb=>Ending.returned (.bool b)) h.o.symm,xB.o.trans KX.o (λ_ _ x=>x),λx=>by rw[h.o] at x;cases x⟩
     have a8:L<pg:=by omega
     rw[dW a8] at qI uy;by_cases k1:kd=1
     . rw[aQ k1] at qI uy;have ac:(kd==1)=true:=by grind
       have HK:=ai k1;clear A k1;cases A1 with
       | false =>
        have h:=ai (qI.o rfl);clear qI uy y;go_wp2_with (first | (go_at_call 77;refine(Tj.o _ jo.o).mono ?_;rintro e w1 ⟨rfl,hb1⟩;have K1:=ai (KA.o.trans (aI.cA hb1) (λ_ _ x=>x));have O1:=ai (OA.o.kp (aI.cA (D:=λ_=>False) hb1) (λx=>x));have O2:=ai (OB.o.kp (aI.cA (D:=λ_=>False) hb1) (λx=>x));have MJ:=ai (aO BE.o hb1 ξ);have t0:w1.cell? (Ad wr.heap.size 0)=some (I pg):=aA MJ.o 0 rfl;have t1:w1.cell? (Ad wr.heap.size 1)=some (I kd):=aA MJ.o 1 rfl;have t2:w1.cell? (Ad wr.heap.size 2)=some (I lc):=aA MJ.o 2 rfl;have G:wr.heap.size<w1.heap.size:=aM MJ.o;clear hb1) | (go_at_call 191;refine(B.o _ (O1.o.kp (aI.alloc (λ_=>False) _ _) (λx=>x))).mono ?_;rintro e w3 ⟨rfl,q,r⟩;have K3:=ai ((K1.o.trans (aI.alloc (λb=>b=gf\/b=gs) _ _) (λ_ _ x=>x)).trans (q.mono (D1:=λb=>b=gf\/b=gs) (λb _ x=>.inl x)) (λ_ _ x=>x));clear q r));have KX:=ai K3.o;go_ret;exact⟨dO (λb=>Ending.returned (.bool b)) h.o.symm,xB.o.trans KX.o (λ_ _ x=>x),λx=>by rw[h.o] at x;cases x⟩
       | true =>
        have Th:=ai (uy.o rfl);clear qI uy;go_wp2_with (first | (go_at_call 77;refine(Tj.o _ jo.o).mono ?_;rintro e w1 ⟨rfl,hb1⟩;have K1:=ai (KA.o.trans (aI.cA hb1) (λ_ _ x=>x));have O1:=ai (OA.o.kp (aI.cA (D:=λ_=>False) hb1) (λx=>x));have O2:=ai (OB.o.kp (aI.cA (D:=λ_=>False) hb1) (λx=>x));have MJ:=ai (aO BE.o hb1 ξ);have t0:w1.cell? (Ad wr.heap.size 0)=some (I pg):=aA MJ.o 0 rfl;have t1:w1.cell? (Ad wr.heap.size 1)=some (I kd):=aA MJ.o 1 rfl;have t2:w1.cell? (Ad wr.heap.size 2)=some (I lc):=aA MJ.o 2 rfl;have G:wr.heap.size<w1.heap.size:=aM MJ.o;clear hb1) | (go_at_call 191;refine(B.o _ (O1.o.kp (aI.alloc (λ_=>False) _ _) (λx=>x))).mono ?_;rintro e w3 ⟨rfl,q,r⟩;have K3:=ai ((K1.o.trans (aI.alloc (λb=>b=gf\/b=gs) _ _) (λ_ _ x=>x)).trans (q.mono (D1:=λb=>b=gf\/b=gs) (λb _ x=>.inl x)) (λ_ _ x=>x));have O3:=ai r;have P3:=ai ((O2.o.kp (aI.alloc (λ_=>False) _ _) (λx=>x)).kp q (λx=>hne x.symm));clear q r));go_roundw
        case rel=>grind [Hid.o]
        grind [intOf]
     rw[aH k1] at qI uy;clear B;have ac:(kd==1)=false:=by grind
     by_cases k2:kd=2
     . rw[aQ k2] at qI uy;have ab:(kd==2)=true:=by grind
       have HK:=ai k1;clear k1 k2;cases A2 with
       | false =>
        have h:=ai (qI.o rfl);clear qI uy y;go_wp2_with (first | (go_at_call 77;refine(Tj.o _ jo.o).mono ?_;rintro e w1 ⟨rfl,hb1⟩;have K1:=ai (KA.o.trans (aI.cA hb1) (λ_ _ x=>x));have O1:=ai (OA.o.kp (aI.cA (D:=λ_=>False) hb1) (λx=>x));have O2:=ai (OB.o.kp (aI.cA (D:=λ_=>False) hb1) (λx=>x));have MJ:=ai (aO BE.o hb1 ξ);have t0:w1.cell? (Ad wr.heap.size 0)=some (I pg):=aA MJ.o 0 rfl;have t1:w1.cell? (Ad wr.heap.size 1)=some (I kd):=aA MJ.o 1 rfl;have t2:w1.cell? (Ad wr.heap.size 2)=some (I lc):=aA MJ.o 2 rfl;have G:wr.heap.size<w1.heap.size:=aM MJ.o;clear hb1) | (go_at_call 191;refine(A.o _ (O2.o.kp (aI.alloc (λ_=>False) _ _) (λx=>x))).mono ?_;rintro e w3 ⟨rfl,q,r⟩;have K3:=ai ((K1.o.trans (aI.alloc (λb=>b=gf\/b=gs) _ _) (λ_ _ x=>x)).trans (q.mono (D1:=λb=>b=gf\/b=gs) (λb _ x=>.inr x)) (λ_ _ x=>x));clear q r));have KX:=ai K3.o;go_ret;exact⟨dO (λb=>Ending.returned (.bool b)) h.o.symm,xB.o.trans KX.o (λ_ _ x=>x),λx=>by rw[h.o] at x;cases x⟩
       | true =>
        have Th:=ai (uy.o rfl);clear qI uy;go_wp2_with (first | (go_at_call 77;refine(Tj.o _ jo.o).mono ?_;rintro e w1 ⟨rfl,hb1⟩;have K1:=ai (KA.o.trans (aI.cA hb1) (λ_ _ x=>x));have O1:=ai (OA.o.kp (aI.cA (D:=λ_=>False) hb1) (λx=>x));have O2:=ai (OB.o.kp (aI.cA (D:=λ_=>False) hb1) (λx=>x));have MJ:=ai (aO BE.o hb1 ξ);have t0:w1.cell? (Ad wr.heap.size 0)=some (I pg):=aA MJ.o 0 rfl;have t1:w1.cell? (Ad wr.heap.size 1)=some (I kd):=aA MJ.o 1 rfl;have t2:w1.cell? (Ad wr.heap.size 2)=some (I lc):=aA MJ.o 2 rfl;have G:wr.heap.size<w1.heap.size:=aM MJ.o;clear hb1) | (go_at_call 191;refine(A.o _ (O2.o.kp (aI.alloc (λ_=>False) _ _) (λx=>x))).mono ?_;rintro e w3 ⟨rfl,q,r⟩;have K3:=ai ((K1.o.trans (aI.alloc (λb=>b=gf\/b=gs) _ _) (λ_ _ x=>x)).trans (q.mono (D1:=λb=>b=gf\/b=gs) (λb _ x=>.inr x)) (λ_ _ x=>x));have O3:=ai r;have P3:=ai ((O1.o.kp (aI.alloc (λ_=>False) _ _) (λx=>x)).kp q hne);clear q r));go_roundw
        case rel=>grind [Hid.o]
        grind [intOf]
     rw[aH k2] at qI uy;have ab:(kd==2)=false:=by grind
     have h:=ai (qI.o rfl);clear qI uy A y k1 k2;go_wp2_with (go_at_call 77;refine(Tj.o _ jo.o).mono ?_;rintro e w1 ⟨rfl,hb1⟩;have K1:=ai (KA.o.trans (aI.cA hb1) (λ_ _ x=>x));have MJ:=ai (aO BE.o hb1 ξ);have t0:w1.cell? (Ad wr.heap.size 0)=some (I pg):=aA MJ.o 0 rfl;have t1:w1.cell? (Ad wr.heap.size 1)=some (I kd):=aA MJ.o 1 rfl;have G:wr.heap.size<w1.heap.size:=aM MJ.o;clear hb1);have KX:=ai (K1.o.trans (aI.alloc (λb=>b=gf\/b=gs) w1 (.cells #[I f1,I f2,I f3,.bool z] 139)) (λ_ _ x=>x));go_ret;exact⟨dO (λb=>Ending.returned (.bool b)) h.o.symm,xB.o.trans KX.o (λ_ _ x=>x),λx=>by rw[h.o] at x;cases x⟩
  obtain rfl:k=es.length:=by omega
  clear hL;go_wp2;go_ret;exact⟨dO (λb=>Ending.returned (.bool b)) R.o.symm,xB.o.trans X.o (λ_ _ x=>x),λ_=>⟨K.o,M.o⟩⟩
theorem Q3 (ao:Option Addr) (cap:Nat) (w:World) :
  Calls prog 118 #[.slice ao 0 cap] w λe w'=>e=.returned (.bool (mH []))/\Below w.heap.size w w':=by
 go_enter func118,ntmps118;go_wp2;refine zE 1 ?_;rw[zz];go_wp2;go_ret;exact⟨rfl,aN _ _⟩
theorem Pf (b off cap:Nat) (w:World) (hl:ru w b off l) (hn:l.length<=140737488351232) :
  Calls prog 118 #[.slice (some (Ad b off)) l.length cap] w λe w'=>e=.returned (.bool (mH l))/\Below w.heap.size w w':=by
 go_enter func118,ntmps118;go_wp2;go_loopw [7] (λi wr=>∃k:Nat,k<=l.length/\i=I k/\oV l k=false/\Below w.heap.size w wr) (λi _=>l.length-(intOf i).toNat)
 case atStart=>exact⟨0,ω,rfl,rfl,aN _ _⟩
 case round =>
  obtain⟨k,hk,rfl,hz,hb⟩:=hrel;have HZ:=aB hz;have pI:=aB hb;clear hz;by_cases hlt:k<l.length
  . obtain⟨c0,c1,c2,c3⟩:=(hl.below hb) k hlt;obtain⟨a,ha⟩:=ex (bw l k);rw[<- ha] at c0 c1 c2 c3;have HA:=aB ha;clear ha hb;by_cases hzr:a.zero=true
    . have HX:Hid (mH l=true):=acZ l k hlt (by grind [Hid.o]);go_wp2;go_ret;exact⟨ij (by rw[HX.o]),pI.o.alloc pI.o.size _⟩
    have h:a.zero=false:=by grind
    clear hzr;have HX:Hid (oV l (k+1)=false):=by
     grind [oV,Hid.o]
    go_wp2
    grind [intOf,Hid.o,Below.alloc,Below.size]
  obtain rfl:k=l.length:=by omega
  go_wp2;go_ret;exact⟨ij HZ.o.symm,pI.o⟩
theorem Q4 (v:Value) (w:World) (h:eN w v l) (hf:dG l) :
  Calls prog 118 #[v] w λe w'=>e=.returned (.bool (mH l))/\Below w.heap.size w w':=by
 obtain⟨ao,cap,rfl,h⟩:=h;rcases h with rfl | ⟨b,off,rfl,hl⟩
 . exact Q3 ao cap w
 exact Pf l b off cap w hl hf.2
theorem Jz (ao:Option Addr) (cap:Nat) (w:World) (h:gz w ao hs) (hf:m6 hs) :
  Calls prog 120 #[.slice ao hs.length cap] w λe w'=>e=.returned (.bool (tv hs))/\Below w.heap.size w w':=by
 have HF:=aB hf;have HH:=aB h;have hn:hs.length<=140737488351232:=hf.1;clear h hf;go_enter func120,ntmps120;go_wp2;go_loopw [7] (λi wr=>∃k:Nat,k<=hs.length/\i=I k/\lV hs k=true/\Below w.heap.size w wr) (λi _=>hs.length-(intOf i).toNat)
 case atStart=>exact⟨0,ω,rfl,rfl,aN _ _⟩
 case round =>
  obtain⟨k,hk,rfl,hz,hb⟩:=hrel;have HZ:=aB hz;have pI:=aB hb;clear hz;by_cases hlt:k<hs.length
  . obtain⟨b,off,q,r,dZ⟩:=(HH.o.below hb) ω;subst q;obtain⟨c0,c1,c2,c3⟩:=dZ k hlt;have Pc:=HF.o.2 k hlt;have HE:Hid (lV hs (k+1)=cK (aZ hs k)):=by
     grind [lV,Hid.o]
    have YL:Hid (cK (aZ hs k)=false->tv hs=false):=λe=>TD hs k hlt e
    generalize aZ hs k=s at c0 c1 c2 c3 Pc HE YL;clear dZ hb;have jo:=aB (pI.o.alloc pI.o.size (.cells #[I s.page,.string s.data,.slice s.ao s.df.length s.cap] 145));have HC:Hid (∀W,Below wr.heap.size wr W->Calls prog 122 #[.agg #[I s.page,.string s.data,.slice s.ao s.df.length s.cap]] W λe w'=>e=.returned (.bool (cK s))/\Below W.heap.size W w'):=λW hb=>B0 s W (c3.below hb) Pc
    clear c3 Pc;cases e:cK s with
    | true =>
     rw[e] at HC HE;clear e;go_wp2_with (go_at_call 122;refine(HC.o _ ((aN _ _).alloc (aJ _) _)).mono ?_;rintro e w1 ⟨rfl,hb⟩;have jo:=aB (jo.o.trans (hb.mono jo.o.size));clear hb);go_roundw
     case rel=>exact⟨k+1,ω,by go_num,HE.o,jo.o⟩
     case measure=>simp[intOf];omega
    | false =>
     have HX:=aB (YL.o e);rw[e] at HC;clear e YL HE;go_wp2_with (go_at_call 122;refine(HC.o _ ((aN _ _).alloc (aJ _) _)).mono ?_;rintro e w1 ⟨rfl,hb⟩;have jo:=aB (jo.o.trans (hb.mono jo.o.size));clear hb);go_ret;exact⟨ij (by rw[HX.o]),jo.o⟩
  obtain rfl:k=hs.length:=by omega
  go_wp2;go_ret;exact⟨ij HZ.o.symm,pI.o⟩
theorem N0 {a a':Option Addr} {n' m m':Nat} (h1:a=a') (h2:n=n') (h3:m=m'):Value.slice a n m=.slice a' n' m':=by grind
theorem QW (hs:List bD) (en:Int) (va:Value) (ao:Option Addr) (cap:Nat) (w:World) (ha:eN w va l) (hc:bf l=0) (h:gz w ao hs) (hn:hs.length<=140737488351232) (hcap:hs.length<=cap) :
  Calls prog 119 #[.agg #[va,.slice ao hs.length cap,I en]] w λe w'=>e=.returned (.bool (jV l hs))/\Below w.heap.size w w':=by
 obtain⟨b,off,M⟩:∃b off,0<hs.length->ao=some (Ad b off)/\b<w.heap.size/\Le w b off hs:=by
  by_cases h0:0<hs.length
  . obtain⟨b,off,h1,h2,h3⟩:=h h0
    grind
  simp_all
 have O:=aB M;have HC:=aB hc;have R:=mK l hc;obtain⟨aa,ca,rfl,Q⟩:=ha;have UG:Hid (0<l.length->∃b off,aa=some (Ad b off)/\ru w b off l):=λg=>by
  grind
 clear M hc h Q;have HB:=aB ((aN w.heap.size w).alloc (aJ _) (.cells #[.slice aa l.length ca,.slice ao hs.length cap,I en] 25));go_enter func119,ntmps119;go_wp2;go_loopw [12,3] (λix v wr=>∃(i c:Nat) (Zz:Option Addr),i<=l.length/\ix=I i/\v=.slice Zz (hs.length-c) (cap-c)/\c<=hs.length/\(c<hs.length->Zz=some (Ad b (off+c*3)))/\(hs.take c).map (·.page)=fN l i/\Below w.heap.size w wr) (λix _ _=>l.length-(intOf ix).toNat)
 case atStart=>exact⟨0,0,ao,ω,rfl,rfl,ω,λg=>by grind [Hid.o],rfl,HB.o⟩
 case round =>
  obtain⟨i,c,Zz,hi,rfl,rfl,F,y,B,hb⟩:=hrel;have J:=aB y;have q:=aB B;have pI:=aB hb;clear y B;by_cases hlt:i<l.length
  . obtain⟨ba,Y,r,hl⟩:=UG.o ω;subst r;obtain⟨c0,c1,c2,c3⟩:=(hl.below hb) i hlt;have L:=gB l i (gp l HC.o i hlt);have Yr:Hid (∀n,n<(bw l i).aY.toNat->∃t,ni l=(fN l i++kY (bw l i) n)++((bw l i).page+(n:Int))::t):=λn hn=>Ra l i hlt n hn
    have uy:Hid (fN l (i+1)=fN l i++kY (bw l i) (bw l i).aY.toNat):=rfl;obtain⟨a,r⟩:=ex (bw l i);rw[<- r] at c0 c1 c2 c3 L Yr uy;clear r hb;obtain⟨P,hP⟩:∃P:Nat,a.aY=(P:Int):=⟨a.aY.toNat,ω⟩;rw[hP] at c1 L Yr uy;rw[kq] at Yr uy;have jo:=aB (pI.o.alloc pI.o.size (.cells #[I a.page,I (P:Int),I a.gh,.bool a.zero] 139));have BA:=aB (bG wr #[I a.page,I (P:Int),I a.gh,.bool a.zero] 139);go_wp2;go_loopw [18,3] (λnx v wi=>∃(n c:Nat) (Zz:Option Addr),n<=P/\nx=I n/\v=.slice Zz (hs.length-c) (cap-c)/\c<=hs.length/\(c<hs.length->Zz=some (Ad b (off+c*3)))/\(hs.take c).map (·.page)=fN l i++kY a n/\Below w.heap.size w wi/\wi.heap[wr.heap.size]?=some (.cells #[I a.page,I (P:Int),I a.gh,.bool a.zero] 139 (0,0))) (λnx _ _=>P-(intOf nx).toNat)
    case atStart=>exact⟨0,c,Zz,ω,rfl,rfl,F,J.o,by rw[q.o];simp[kY],jo.o,BA.o⟩
    case round =>
     obtain⟨n,c,Zz,U,rfl,rfl,F,y,B,hb,K⟩:=hrel;have J:=aB y;have q:=aB B;have A:=aB hb;have N:=aB K;have x0:=aA K 0 rfl;clear y B K;by_cases hlp:n<P
     . obtain⟨t,ht⟩:=Yr.o n hlp;have HT:=aB ht;clear ht;by_cases hce:c=hs.length
       . have HX:Hid (jV l hs=false):=TH (by have h:=q.o;rw[hce] at h;exact h) HT.o;have hz:hs.length-c=0:=by omega
         rw[hz];clear hz hce;go_wp2
         go_quiet (fail)
         go_wp2;go_ret;exact⟨ij HX.o.symm,lJ A.o _⟩
       have G:c<hs.length:=by omega
       have T:(((hs.length-c:Nat):Int)==0)=false:=by simp;omega
       have X:0<hs.length-c:=by omega
       obtain⟨-,g2,g3⟩:=O.o ω;obtain⟨d0,d1,d2,d3⟩:=(Qx (hb.mono (Nat.le_of_eq rfl)) g2 g3) c G;have r:=J.o G;subst r;have Z:(1:Int)<=((hs.length-c:Nat):Int):=by omega
       by_cases QG:(aZ hs c).page=a.page+(n:Int)
       . have HX:Hid ((hs.take (c+1)).map (·.page)=fN l i++kY a (n+1)):=by
          show _=_;rw[Du hs c G,q.o,QG,wH,wj]
         rw[QG] at d0;clear QG d1 d2 d3 hb hce;by_cases hc1:cap-c=1
         . go_wp2
           go_quiet (fail)
           go_wp2;go_roundw
           case rel=>exact⟨n+1,c+1,_,ω,by go_num,N0 rfl ω ω,ω,λg=>ω,HX.o,lJ A.o _,N.o⟩
           case measure=>simp[intOf];omega
         go_wp2
         go_quiet (fail)
         go_wp2;go_roundw
         case rel=>exact⟨n+1,c+1,_,ω,by go_num,N0 rfl ω ω,ω,λg=>by simp[Nat.add_mul,zC],HX.o,lJ A.o _,N.o⟩
         case measure=>simp[intOf];omega
       have HX:Hid (jV l hs=false):=TI G q.o HT.o QG;have W:((aZ hs c).page==a.page+(n:Int))=false:=by simpa using QG
       clear QG d1 d2 d3 hb hce;go_wp2
       go_quiet (fail)
       go_wp2;go_ret;exact⟨ij HX.o.symm,lJ A.o _⟩
     obtain rfl:n=P:=by omega
     go_wp2;go_roundw
     case rel=>exact⟨i+1,c,Zz,ω,by go_num,rfl,F,J.o,by rw[uy.o];exact q.o,A.o⟩
     case measure=>simp[intOf];omega
  obtain rfl:i=l.length:=by omega
  have HX:=aB (Xf F q.o);go_wp2;go_ret;refine⟨ij ?_,pI.o⟩;rw[HX.o];rw[Bool.eq_iff_iff];simp;omega
end Go.Proofs.YtlgoihmkgaaemaaGreat
