import Derived.Test.YtlgoihmkgaaemaaGreatGP31
set_option maxHeartbeats 20000000
set_option linter.unusedVariables false
set_option maxRecDepth 100000
set_option linter.unusedSimpArgs false
namespace Go.Proofs.YtlgoihmkgaaemaaGreat
open Go.RowKit Tryz
theorem YE (p:Int):∀n,q9 p n=(List.range n).map (λm:Nat=>p+(m:Int)):=λn=>by
 induction n with
 | zero=>rfl
 | succ n ih=>rw[OO,ih,Wp,P7];rfl
theorem abx (l:List aU):ni l=gG l:=by
 have:∀n,n<=l.length->fN l n=xW l n:=λn=>by
  induction n with
  | zero=>intro _;unfold xW;rfl
  | succ n ih =>
   intro h;rw[PM l n ω,<- ih ω,YE];rfl
 unfold ni;rw[this l.length (aJ _)];unfold xW;rw[sW]
theorem aiP {l:List aU} {hs:List bD} {en:Int} (h:iF l hs en=0):afw l hs:=by
 obtain⟨r1,r2,r3⟩:=yo h;have hp:hs.map (·.page)=gG l:=by
  unfold iF at h;rw[aQ r1] at h;rw[<- abx];have:jV l hs=true:=by grind
  exact kr this
 have b:nV l hs hs.length=true:=by
  rw[CM] at h;unfold Ai at h;rw[aQ r1] at h
  grind
 refine⟨r1,λp c=>?_,hp,r2,λs hs'=>?_,?_⟩
 . have hm:p∈hs.map (·.page):=by rw[hp];exact(Bb r1).2 c
   obtain⟨k,hk,e⟩:=M5 hs p hm;have hi:=Ej l hs hs.length b k hk;unfold Cb at hi;rw[e] at hi;have:bc l p=bE l p:=by
    unfold bc at c ⊢
    grind
   rw[this]
   grind
 . obtain⟨k,hk,e⟩:=List.getElem_of_mem hs';have:=(oG hs hs.length r2 k hk).1;rw[show aZ hs k=s by rw[<- e];unfold aZ;grind] at this;exact this
 have e:hs.length=(gG l).length:=by rw[<- hp,jw]
 have s1:=EU.sorted (NG r1);have:=Af (q9 1 255) (gG l) s1 (C4 _ _) (λx hx=>(xV _ _ _).2 (by have:=UI r1 hx;omega));rw[Jh] at this;omega
variable {k:aT} {fl:List Bool} {j:Nat} {hs:List bD}
structure YC (hs:List bD) (k:aT) (fl:List Bool):Prop where
 ok:gQ k fl
 same:cD k.aD hs
theorem Yz (h:gQ k fl) (hk:fl.getD j false=true) (a n way:Int):(iG k j a n way).2.aD=k.aD:=by
 obtain⟨hj,hl⟩:=h.at_ hk;by_cases c:1<=n/\n<=8
 . by_cases g:(dh (iD k j) a n way).1=0
   . rw[tO c.1 c.2 g];obtain⟨m1,m2,_⟩:=oL c.1 c.2 g;exact(qd h.right hj a n way m1 m2).kept.aD
   rw[vq c.1 c.2 g]
 rw[GQ c]
theorem Yy (h:gQ k fl) (hk:fl.getD j false=true) (s:cD k.aD hs) (a n way:Int) (h1:1<=n) (h8:n<=8):iG (aV k hs) j a n way=((iG k j a n way).1,aV (iG k j a n way).2 hs):=by
 obtain⟨hj,hl⟩:=h.at_ hk;by_cases g:(dh (iD k j) a n way).1=0
 . obtain⟨m1,m2,_⟩:=oL h1 h8 g;have e:m7 (aV k hs) j a n way=m7 k j a n way:=by
    rw[AY h.right hj a n way m1 m2,AY (h.right.Al s) hj a n way m1 m2];congr 1;funext p;exact IQ s j p
   rw[tO h1 h8 g,tO (k:=aV k hs) h1 h8 g,e,tE h.right hj m1 s]
 rw[vq h1 h8 g,vq (k:=aV k hs) h1 h8 g];rfl
theorem Uv (h:gQ k fl) (hk:fl.getD j false=true) (a:Int) (d:ByteArray) (h1:1<=d.size) (h8:d.size<=8):(jQ k j a d).2.aD=k.aD:=by
 obtain⟨hj,hl⟩:=h.at_ hk;by_cases g:(dh (iD k j) a d.size 1).1=0
 . rw[ui g];obtain⟨m1,m2,_⟩:=oL ω ω g;exact(zR h.right hj a d ω ω m1 m2).aD
 rw[vT g]
theorem Uu (h:gQ k fl) (hk:fl.getD j false=true) (s:cD k.aD hs) (a:Int) (d:ByteArray) (h1:1<=d.size) (h8:d.size<=8):jQ (aV k hs) j a d=((jQ k j a d).1,aV (jQ k j a d).2 hs):=by
 obtain⟨hj,hl⟩:=h.at_ hk;by_cases g:(dh (iD k j) a d.size 1).1=0
 . obtain⟨m1,m2,_⟩:=oL ω ω g;rw[ui g,ui (k:=aV k hs) g,Gn h.right hj m1 s]
 rw[vT g,vT (k:=aV k hs) g];rfl
theorem EJ (h:gQ k fl) (hk:fl.getD j false=true) (r:List aU×Int):(je k j r).2.aD=k.aD:=by
 obtain⟨hj,hl⟩:=h.at_ hk;unfold je
 repeat' split
 . rfl
 . rfl
 exact(wW k hj r.1).1
theorem EI (k:aT) (hs:List bD) (j:Nat) (r:List aU×Int):je (aV k hs) j r=((je k j r).1,aV (je k j r).2 hs):=by
 unfold je;show(if ¬r.2=0 then (r.2,aV k hs) else if dJ k.aj-bR (iD k j)+bR r.1>(k.slots.length:Int) then (8,aV k hs) else (0,lj (aV k hs) j r.1))=_;rw[GH]
 repeat' split
 all_goals rfl
theorem Mh (h:gQ k fl) (hk:fl.getD j false=true):(jf k j).2.aD=k.aD:=by
 obtain⟨hj,hl⟩:=h.at_ hk;unfold jf
 repeat' split
 . rfl
 . rfl
 exact(Co h.right hj).aD
theorem YA (k:aT) (hs:List bD) (j:Nat):jf (aV k hs) j=((jf k j).1,aV (jf k j).2 hs):=by
 unfold jf;show(if k.aj.length=4 then (2,aV k hs) else if dJ k.aj+bR (iD k j)>(k.slots.length:Int) then (8,aV k hs) else (0,oD (aV k hs) j))=_;rw[I0]
 repeat' split
 all_goals rfl
theorem abp (hs:List bD):Nu dN dN (YC hs) (λk=>aV k hs) where
 load:=λs fl k a n way h hk h1 h8=>Yy h.ok hk h.same a n way h1 h8
 store:=λs fl k a d h hk h1 h8=>Uu h.ok hk h.same a d h1 h8
 map:=λs fl k p n q h hk=>EI s hs k _
 ry:=λs fl k p n h hk=>EI s hs k _
 kL:=λs fl k p n q h hk=>EI s hs k _
 fork:=λs fl k h hk=>YA s hs k
 drop:=λs fl k h hk=>I2 s hs k
theorem tN {k k':aT} (h:k'.aD=k.aD) (s:cD k.aD hs):cD k'.aD hs:=by rw[h];exact s
theorem Sq (hs:List bD):uK dN (YC hs) where
 load:=λs fl k a n way h hk=>⟨jF.load s fl k a n way h.ok hk,tN (Yz h.ok hk a n way) h.same⟩
 size:=λs fl k a n way h hk=>jF.size s fl k a n way h.ok hk
 fault:=λs fl k a n way h hk=>jF.fault s fl k a n way h.ok hk
 none:=λs fl k a n way h hk=>jF.none s fl k a n way h.ok hk
 store:=λs fl k a d h hk h1 h8=>⟨jF.store s fl k a d h.ok hk h1 h8,tN (Uv h.ok hk a d h1 h8) h.same⟩
 WE:=λs fl k a d h hk=>jF.WE s fl k a d h.ok hk
 map:=λs fl k p n q h hk=>⟨jF.map s fl k p n q h.ok hk,tN (EJ h.ok hk _) h.same⟩
 ry:=λs fl k p n h hk=>⟨jF.ry s fl k p n h.ok hk,tN (EJ h.ok hk _) h.same⟩
 kL:=λs fl k p n q h hk=>⟨jF.kL s fl k p n q h.ok hk,tN (EJ h.ok hk _) h.same⟩
 Wz:=λs fl k h hk g=>⟨jF.Wz s fl k h.ok hk g,tN (Mh h.ok hk) h.same⟩
 Qu:=λs fl k h hk g=>⟨jF.Qu s fl k h.ok hk g,tN (Mh h.ok hk) h.same⟩
 aj3:=λs fl k p n q h hk=>jF.aj3 s fl k p n q h.ok hk
 Wc:=λs fl k p n h hk=>jF.Wc s fl k p n h.ok hk
 Kh:=λs fl k p n q h hk=>jF.Kh s fl k p n q h.ok hk
 few:=λs fl h=>jF.few s fl h.ok
 drop:=λs fl k h hk=>⟨jF.drop s fl k h.ok hk,tN ((pB s k (λ_=>true)).1) h.same⟩
theorem abu {s:dC aT} (h:fZ gQ s) (g:cD s.mem.aD hs):fZ (YC hs) s:=⟨⟨h.mem,g⟩,h.fit,h.right,h.words,h.out⟩
theorem aiK {s:dC aT} (h:fZ (YC hs) s):fZ gQ s/\cD s.mem.aD hs:=⟨⟨h.mem.ok,h.fit,h.right,h.words,h.out⟩,h.mem.same⟩
theorem OH {s:dC aT} (h:fZ gQ s) (g:cD s.mem.aD hs):fZ gQ (lN (λk=>aV k hs) s):=⟨⟨h.mem.right.Al g,h.mem.flags⟩,h.fit,h.right,h.words,h.out⟩
theorem ad8 {m:iM} (h:fZ gQ (nN m)):eu m=0:=Pw h
theorem Ns {m:iM} (h:fZ gQ (nN m)) (picks:List Int):yC m picks=if 2000<picks.length then ((wY,2):iM×Int) else match gK dN picks picks.length (some (nN m)) with
  | none=>(wY,2)
  | some s=>(A4 s,0):=by
 unfold yC A5 xc;rw[aH (λg=>g (ad8 h))];by_cases c:2000<picks.length
 . rw[aQ c,aQ c];rfl
 rw[aH c,aH c];cases gK dN picks picks.length (some (nN m)) with
 | none=>rfl
 | some s=>rfl
theorem abq {m:iM} (h:fZ gQ (nN m)) {hs:List bD} (g:cD m.fA.aD hs) (picks:List Int):∃hs',cD (yC m picks).1.fA.aD hs'/\yC (m8 m hs) picks=(m8 (yC m picks).1 hs',(yC m picks).2):=by
 have h':fZ gQ (nN (m8 m hs)):=OH h g;have e:=Mi (abp hs) (Sq hs) (abu h g) picks picks.length;have e':gK dN picks picks.length (some (nN (m8 m hs)))=(gK dN picks picks.length (some (nN m))).map (lN (λk=>aV k hs)):=e;rw[Ns h,Ns h',e'];by_cases c:2000<picks.length
 . rw[aQ c,aQ c];exact⟨[],rfl,rfl⟩
 rw[aH c,aH c];cases f:gK dN picks picks.length (some (nN m)) with
 | none=>exact⟨[],rfl,rfl⟩
 | some s=>exact⟨hs,(aiK (Cy (Sq hs) (abu h g) picks _ s f)).2,rfl⟩
def uh (w:World) (r:iM×Int) (e:Ending) (w':World):Prop:=∃hs a ar cr ao co,cD r.1.fA.aD hs/\e=.returned (.tuple #[.agg (eU (m8 r.1 hs) a ar ao cr co),I r.2])/\(∀V,aI (λb=>b<w.heap.size) w' V->rR V a ar ao (m8 r.1 hs))/\Below w.heap.size w w'
def Sk:gN:=⟨none,0,none,0,none,0,none,0⟩
theorem VD (w:World):rR w Sk none none (m8 wY []):=⟨⟨λh=>absurd h (gY _),λh=>absurd h (gY _),λh=>absurd h (gY _),λh=>absurd h (gY _)⟩,λh=>absurd h (gY _),λh=>absurd h (gY _)⟩
theorem Nn {w w':World} (er:Int) (hb:Below w.heap.size w w'):uh w (wY,er) (.returned (.tuple #[.agg #[Nl,Nl,Nl,Nl,I 0,Nl,Nl],I er])) w':=⟨[],Sk,none,0,none,0,rfl,rfl,λV _=>VD V,hb⟩
theorem pC (W:World) (b:Nat) (v0 v1 v2 v3 v4 v5 v6:Value):aI (λx=>x=b) W (((((((W.setCell (Ad b 0) v0).setCell (Ad b 1) v1).setCell (Ad b 2) v2).setCell (Ad b 3) v3).setCell (Ad b 4) v4).setCell (Ad b 5) v5).setCell (Ad b 6) v6):=by
 have k:∀(A:World) (i:Nat) (v:Value),aI (λx=>x=b) A (A.setCell (Ad b i) v):=λA i v=>aI.set _ A (Ad b i) v rfl
 exact((Sl W b v0 v1 v2 v3 v4).trans (k _ _ _) (λ_ _ g=>g)).trans (k _ _ _) (λ_ _ g=>g)
theorem adS {V w2:World} {k:aT} {hs:List bD} {a:gN} (s:cD k.aD hs) (hK:∀U,aI (λb=>b<V.heap.size) w2 U->iB U a (aV k hs)) (hb:Below V.heap.size V w2) :
  iC V.heap.size w2.heap.size (w2.alloc (.cells (bj a (aV k hs)) 185)) (λb=>b=w2.heap.size\/(V.heap.size<=b/\b<w2.heap.size)) k:=by
 have hz:=hb.size;refine⟨⟨hs,a,V.heap.size,w2.heap.size,s,bG w2 _ _,λU hU=>hK U ?_,aJ _,ξ,ω,λb=>Iff.rfl⟩,hz⟩;exact(aI.alloc (λb=>b<V.heap.size) w2 _).trans hU (λb hb g=>ω)
theorem aa5 {lo mb:Nat} {w2 w3 w4:World} {D:Nat->Prop} {m:iM} {vr vo:Value} (hm:iC lo mb w2 D m.fA) (h23:Below w2.heap.size w2 w3) (hr:w3.ownsRow w2.heap.size 77 13 vr m.procs.length (m.procs.flatMap bV)) (h34:Below w3.heap.size w3 w4) (ho:w4.ownsRow w3.heap.size 91 2 vo m.out.length (m.out.flatMap jP)) :
  gD (iC lo mb) lo mb w4.heap.size (w4.alloc (.cells #[.iface 183 (.pointer (some (Ad mb 0))),vr,vo] 191)) D vr vo (nN m):=by
 have hlo:lo<=w2.heap.size:=by have:=hm.dom mb hm.inD;omega
 have h:=h23.size;have y:=h34.size;have hA:Below w4.heap.size w4 (w4.alloc (.cells #[.iface 183 (.pointer (some (Ad mb 0))),vr,vo] 191)):=(aN _ _).alloc (aJ _) _;have r:Below w2.heap.size w2 (w4.alloc (.cells #[.iface 183 (.pointer (some (Ad mb 0))),vr,vo] 191)):=(h23.trans (h34.mono h)).trans (hA.mono ω);have q:=aI.row (aI.cA (D:=λ_=>False) h34) hr (λ_ _ g=>g);have lr:∀b,qz vr b->w2.heap.size<=b/\b<w3.heap.size:=λb hb=>hr.lt b hb
 have lw:∀b,qz vo b->w3.heap.size<=b/\b<w4.heap.size:=λb hb=>ho.lt b hb
 have ld:∀b,D b->b<w2.heap.size:=λb hb=>(hm.dom b hb).2
 refine⟨bG w4 _ _,hm.kp (aI.cA (D:=λ_=>False) r) (λ_ _ g=>g),?_,?_,ω,λg=>by have:=ld _ g;omega,λg=>by have:=lr _ g;omega,λg=>by have:=lw _ g;omega,λb hb g=>by have:=lr b hb;have:=ld _ g;omega,λb hb g=>by have:=lw b hb;have:=ld _ g;omega,λb hb g=>by have:=lr b hb;have:=lw b g;omega⟩
 . exact oQ (aI.row (aI.cA (D:=λ_=>False) hA) q (λ_ _ g=>g)) (λg hg=>by have:=lr g hg;omega)
 exact oQ (aI.row (aI.cA (D:=λ_=>False) hA) ho (λ_ _ g=>g)) (λg hg=>by have:=lw g hg;omega)
theorem aa4 {lo mb gb z:Nat} {w':World} {D':Nat->Prop} {O5 O6:Value} {s:dC aT} (hg:gD (iC lo mb) lo mb gb w' D' O5 O6 s) (hz:z<lo) :
  ∃s0 n0 q0 s1 n1 q1 s2 n2 q2 s3 n3 q3 hd a5 c5 a6 c6,(w'.cell? (Ad mb 0)=some (.slice s0 n0 q0)/\w'.cell? (Ad mb 1)=some (.slice s1 n1 q1)/\w'.cell? (Ad mb 2)=some (.slice s2 n2 q2)/\w'.cell? (Ad mb 3)=some (.slice s3 n3 q3)/\w'.cell? (Ad mb 4)=some (I hd)/\w'.cell? (Ad gb 1)=some (.slice a5 s.ps.length c5)/\w'.cell? (Ad gb 2)=some (.slice a6 s.out.length c6))/\(¬mb=z/\¬gb=z)/\∃hs a,cD s.mem.aD hs/\eU (m8 (A4 s) hs) a a5 a6 c5 c6=#[.slice s0 n0 q0,.slice s1 n1 q1,.slice s2 n2 q2,.slice s3 n3 q3,I hd,.slice a5 s.ps.length c5,.slice a6 s.out.length c6]/\∀V,aI (λb=>b<=z) w' V->rR V a a5 a6 (m8 (A4 s) hs):=by
 obtain⟨a5,c5,rfl,_,_⟩:=bh hg.procs;obtain⟨a6,c6,rfl,_,_⟩:=bh hg.outs;obtain⟨⟨hs,a,n,sz,h1,h2,h3,h4,h5,h6,h7⟩,hb⟩:=hg.mem;have h:=gD.lt (QA lo mb) hg;obtain⟨e0,e1,e2,e3,e4⟩:=kj h2;refine⟨_,_,_,_,_,_,_,_,_,_,_,_,_,a5,c5,a6,c6,⟨e0,e1,e2,e3,e4,aA hg.head 1 rfl,aA hg.head 2 rfl⟩,⟨ω,λe=>by have:=hg.base;omega⟩,hs,a,h1,rfl,λV hV=>⟨h3 V (hV.mono (λb _ g=>ω)),agq (hV.row hg.procs (λb hb e=>by have:=(h b (.inr (.inr (.inl hb)))).1;omega)),ago (hV.row hg.outs (λb hb e=>by have:=(h b (.inr (.inr (.inr hb)))).1;omega))⟩⟩
theorem Sj (F:FuncId) (hF:F=46\/F=61) (m:iM) (r:Int×Option (dC aT)) (q:Nat) (a:gN) (ar ao:Option Addr) (cr co:Nat) (w:World) (h:rR w a ar ao m) (hf:Ct m) (hr:r.1=0->∃s,r.2=some s)
  (hc:eu m=0->∀(V:World) (lo mb gb:Nat) (D:Nat->Prop) (vr vo:Value),Below w.heap.size w V->w.heap.size<=lo->gD (iC lo mb) lo mb gb V D vr vo (nN m)->Calls prog F #[.pointer (some ⟨gb,0,none⟩),.pointer (some ⟨q,0,none⟩)] V (Ak (iC lo mb) lo mb gb V D vr vo r)) :
  Calls prog 45 #[.agg (eU m a ar ao cr co),.func (.func F) #[] #[.pointer (some ⟨q,0,none⟩)]] w (uh w (A5 m r)):=by
 have zh:Hid (∀V,Below w.heap.size w V->Calls prog 15 #[.agg (eU m a ar ao cr co)] V λe w'=>e=.returned (I (eu m))/\Below V.heap.size V w'):=λV hV=>L5 m a ar ao cr co V (h.below hV) hf
 have Sr:Hid (eu m=0->∀V,Below w.heap.size w V->Calls prog 79 #[.agg (bj a m.fA)] V λe w'=>∃s0 n0 q0 s1 n1 q1 s2 n2 q2 s3 n3 q3 hd,e=.returned (.agg #[.slice s0 n0 q0,.slice s1 n1 q1,.slice s2 n2 q2,.slice s3 n3 q3,I hd])/\Below V.heap.size V w'/\iC V.heap.size w'.heap.size (w'.alloc (.cells #[.slice s0 n0 q0,.slice s1 n1 q1,.slice s2 n2 q2,.slice s3 n3 q3,I hd] 185)) (λb=>b=w'.heap.size\/(V.heap.size<=b/\b<w'.heap.size)) m.fA):=λhk V hV=>by
  obtain⟨c1,c2,c3,c4⟩:=Cs hk;refine(wM m.fA a V (h.fA.below hV) (AA c1 hf.fA)).mono ?_;rintro e w' ⟨S,hs,g1,g2,g3,g4⟩;obtain⟨a',e1,e2⟩:=GK g3;have e3:e=.returned (.agg (bj a' (aV m.fA hs))):=by rw[g2,<- e1];rfl
  exact⟨_,_,_,_,_,_,_,_,_,_,_,_,_,e3,g4,adS g1 e2 g4⟩
 have Ke:Hid (eu m=0->∀V,Below w.heap.size w V->Calls prog 94 #[.slice ar m.procs.length cr] V λe w'=>∃a' c',e=.returned (.slice a' m.procs.length c')/\w'.ownsRow V.heap.size 77 13 (.slice a' m.procs.length c') m.procs.length (m.procs.flatMap bV)/\Below V.heap.size V w'):=λhk V hV=>by
  obtain⟨c1,c2,c3,c4⟩:=Cs hk;have:=c1.c.2.2.1.2;refine(aeq ar m.procs.length cr (m.procs.flatMap bV) V (eV bV 13 sL _) ((adQ h.procs).below hV) (agp _) ω).mono ?_;rintro e w' ⟨v,rfl,h1,h2⟩;obtain⟨a',c',rfl,_,_⟩:=bh h1;exact⟨a',c',rfl,h1,h2⟩
 have A:Hid (eu m=0->∀V,Below w.heap.size w V->Calls prog 95 #[.slice ao m.out.length co] V λe w'=>∃a' c',e=.returned (.slice a' m.out.length c')/\w'.ownsRow V.heap.size 91 2 (.slice a' m.out.length c') m.out.length (m.out.flatMap jP)/\Below V.heap.size V w'):=λhk V hV=>by
  obtain⟨c1,c2,c3,c4⟩:=Cs hk;refine(aen ao m.out.length co (m.out.flatMap jP) V (eV jP 2 yD _) ((adO h.out).below hV) (agn _) ω).mono ?_;rintro e w' ⟨v,rfl,h1,h2⟩;obtain⟨a',c',rfl,_,_⟩:=bh h1;exact⟨a',c',rfl,h1,h2⟩
 have HC:=ai hc;have HR:=ai hr;obtain⟨ck,Dk⟩:=ex (eu m);have y:Hid (A5 m r=if ¬ck=0 then (wY,ck) else if ¬r.1=0 then (wY,r.1) else match r.2 with | none=>(wY,r.1) | some s=>(A4 s,0)):=by rw[Dk];exact rfl
 rw[<- Dk] at zh Sr Ke A HC;obtain⟨R,hR⟩:=ex (A5 m r);rw[<- hR] at y ⊢;obtain⟨P,hP⟩:=ex (uh w R);have HP:Hid (∀e w',uh w R e w'->P e w'):=λe w' h=>by rw[hP];exact h
 rw[<- hP];unfold eU at zh ⊢;unfold bj at Sr;obtain⟨x0,an⟩:∃n,n=m.fA.aD.length:=⟨_,rfl⟩;obtain⟨x1,ag⟩:∃n,n=m.fA.frames.length:=⟨_,rfl⟩;obtain⟨x2,al⟩:∃n,n=m.fA.slots.length:=⟨_,rfl⟩;obtain⟨x3,ad⟩:∃n,n=m.fA.aj.length:=⟨_,rfl⟩;obtain⟨x4,am⟩:∃n,n=m.fA.hand:=⟨_,rfl⟩;obtain⟨np,FC⟩:=ex m.procs.length;obtain⟨no,G⟩:=ex m.out.length;rw[<- an,<- ag,<- al,<- ad,<- am] at zh Sr ⊢;rw[<- FC,<- G] at zh ⊢;rw[<- FC] at Ke;rw[<- G] at A;have aX:=ai FC;have sS:=ai G;have mh:=ai (((aN w.heap.size w).alloc (aJ _) (.cells #[.slice a.aS x0 a.cS,.slice a.aF x1 a.cF,.slice a.aL x2 a.cL,.slice a.aP x3 a.cP,I x4,.slice ar np cr,.slice ao no co] 34)).alloc ξ (.cells #[Nl,Nl,Nl,Nl,I 0,Nl,Nl] 34));have BX:=ai (bB (bG w #[.slice a.aS x0 a.cS,.slice a.aF x1 a.cF,.slice a.aL x2 a.cL,.slice a.aP x3 a.cP,I x4,.slice ar np cr,.slice ao no co] 34) (.cells #[Nl,Nl,Nl,Nl,I 0,Nl,Nl] 34));have BZ:=ai (bG (w.alloc (.cells #[.slice a.aS x0 a.cS,.slice a.aF x1 a.cF,.slice a.aL x2 a.cL,.slice a.aP x3 a.cP,I x4,.slice ar np cr,.slice ao no co] 34)) #[Nl,Nl,Nl,Nl,I 0,Nl,Nl] 34);clear h hf hc hr Dk hR hP an ag al ad am FC G;go_enter func45,ntmps45;go_wp2_with fail;obtain⟨WA,lQ⟩:=ex ((w.alloc (.cells #[.slice a.aS x0 a.cS,.slice a.aF x1 a.cF,.slice a.aL x2 a.cL,.slice a.aP x3 a.cP,I x4,.slice ar np cr,.slice ao no co] 34)).alloc (.cells #[Nl,Nl,Nl,Nl,I 0,Nl,Nl] 34));have Q:(w.alloc (.cells #[.slice a.aS x0 a.cS,.slice a.aF x1 a.cF,.slice a.aL x2 a.cL,.slice a.aP x3 a.cP,I x4,.slice ar np cr,.slice ao no co] 34)).heap.size=w.heap.size+1:=by simp
 rw[Q] at BZ;rw[<- lQ] at mh BX BZ ⊢;obtain⟨x,U⟩:=ex w.heap.size;obtain⟨z,O⟩:=ex (w.heap.size+1);rw[<- O] at BZ ⊢;rw[<- U] at BX ⊢;have b1:=ai U;have b3:=ai O;have b2:¬x=z:=by omega
 have b6:¬z=x:=by omega
 have Uq:Hid (∀V,Below WA.heap.size WA V->V.cell? ⟨x,0,none⟩=some (.slice a.aS x0 a.cS)/\V.cell? ⟨x,1,none⟩=some (.slice a.aF x1 a.cF)/\V.cell? ⟨x,2,none⟩=some (.slice a.aL x2 a.cL)/\V.cell? ⟨x,3,none⟩=some (.slice a.aP x3 a.cP)/\V.cell? ⟨x,4,none⟩=some (I x4)/\V.cell? ⟨x,5,none⟩=some (.slice ar np cr)/\V.cell? ⟨x,6,none⟩=some (.slice ao no co)):=λV hb=>by
  have h1:=aO BX.o hb (aM BX.o);exact lD h1
 have Y:Hid (∀V,Below WA.heap.size WA V->(V.cell? ⟨z,0,none⟩=some Nl/\V.cell? ⟨z,1,none⟩=some Nl/\V.cell? ⟨z,2,none⟩=some Nl/\V.cell? ⟨z,3,none⟩=some Nl/\V.cell? ⟨z,4,none⟩=some (I 0)/\V.cell? ⟨z,5,none⟩=some Nl/\V.cell? ⟨z,6,none⟩=some Nl)/\V.frozen? ⟨z,0,none⟩=false/\V.frozen? ⟨z,1,none⟩=false/\V.frozen? ⟨z,2,none⟩=false/\V.frozen? ⟨z,3,none⟩=false/\V.frozen? ⟨z,4,none⟩=false/\V.frozen? ⟨z,5,none⟩=false/\V.frozen? ⟨z,6,none⟩=false):=λV hb=>by
  have h1:=aO BZ.o hb (aM BZ.o);exact⟨lD h1,br h1 0,br h1 1,br h1 2,br h1 3,br h1 4,br h1 5,br h1 6⟩
 have aE:=aM BZ.o;have N:Hid (w.heap.size<=z):=(by rw[O];omega:w.heap.size<=z);clear lQ Q U O BX BZ;refine(zh.o _ mh.o).mono ?_;rintro e w1 ⟨rfl,J⟩;have dz:=ai J;obtain⟨⟨z0,z1,z2,z3,z4,z5,z6⟩,f0,f1,f2,f3,f4,f5,f6⟩:=Y.o _ J;obtain⟨y0,y1,y2,y3,y4,y5,y6⟩:=Uq.o _ J;clear J zh;by_cases hk0:ck=0
 . subst hk0;have Sv:=ai (HC.o rfl);have a8:=ai (Sr.o rfl);have a1:=ai (Ke.o rfl);have a7:=ai (A.o rfl);have L:Hid (R=if ¬r.1=0 then (wY,r.1) else match r.2 with | none=>(wY,r.1) | some s=>(A4 s,0)):=by rw[y.o,aH (λg=>g rfl)];exact rfl
   clear HC Sr Ke A y;go_wp2_with (go_at_call 79;refine(a8.o _ (mh.o.trans (dz.o.mono mh.o.size))).mono ?_;rintro e w2 ⟨s0,n0,q0,s1,n1,q1,s2,n2,q2,s3,n3,q3,hd,rfl,aq,hm⟩;have YG:=ai hm;have iI:=ai aq;clear hm aq);obtain⟨mb,Z⟩:=ex w2.heap.size;obtain⟨D0,ab⟩:∃D0:Nat->Prop,D0=λb=>b=w2.heap.size\/(w1.heap.size<=b/\b<w2.heap.size):=⟨_,rfl⟩
   obtain⟨WM,K⟩:=ex (w2.alloc (.cells #[.slice s0 n0 q0,.slice s1 n1 q1,.slice s2 n2 q2,.slice s3 n3 q3,I hd] 185));have ae:Below w1.heap.size w1 WM:=by rw[K];exact iI.o.alloc iI.o.size _
   rw[<- ab,<- K,<- Z] at YG;rw[<- K,<- Z];clear Z ab K;have ah:=ai (dz.o.trans (ae.mono dz.o.size));have Aa:=ai ah.o.drew;have o5:=ai ((Uq.o _ Aa.o).2.2.2.2.2);clear y0 y1 y2 y3 y4 y5 y6 z0 z1 z2 z3 z4 z5 z6 f0 f1 f2 f3 f4 f5 f6 ae;go_cut [8] (λx8 wx=>∃gb D vr vo,x8=.pointer (some ⟨gb,0,none⟩)/\gD (iC w1.heap.size mb) w1.heap.size mb gb wx D vr vo (nN m)/\Below WA.heap.size WA wx)
   case first =>
    go_region_held3 (λV=>V.cell? ⟨x,5,none⟩=some (.slice ar np cr)/\V.cell? ⟨x,6,none⟩=some (.slice ao no co)) (first | exact ay.o | exact Fq.o | exact o5.o | exact(Uq.o _ (B.o.alloc B.o.size _)).2.2.2.2.2)
     (first
      | (go_at_call 94;refine(a1.o _ (mh.o.trans (Aa.o.mono mh.o.size))).mono ?_;rintro e w3 ⟨a3,c3,rfl,ac,X⟩;have aY:=ai ac;have kE:=ai X;have H8:=ai (Aa.o.trans (X.mono Aa.o.size));have Fq:=ai ((Uq.o _ H8.o).2.2.2.2.2);clear ac X)
      | (go_at_call 95;refine(a7.o _ (mh.o.trans (H8.o.mono mh.o.size))).mono ?_;rintro e w4 ⟨a4,c4,rfl,a9,a0⟩;have av:=ai a9;have vX:=ai a0;have B:=ai (H8.o.trans (a0.mono H8.o.size));have ay:=ai ((Uq.o _ B.o).2.2.2.2.2);clear a9 a0))
    all_goals
     go_wp2_with fail
     go_meet
     case rel =>
      refine⟨_,_,_,_,rfl,aa5 YG.o ((aN _ _).drew.trans kE.o) ?_ vX.o ?_,B.o.alloc B.o.size _⟩
      . rw[<- aX.o];exact aY.o
      rw[<- sS.o];exact av.o
   case rest =>
    obtain⟨gb,D,vr,vo,rfl,hg,W⟩:=hcut;have HG:=ai hg;have ZI:=ai W;have aG:=ai (mh.o.trans (W.mono mh.o.size));have az:Hid (w.heap.size<=w1.heap.size):=(by have:=mh.o.size;have:=dz.o.size;omega:w.heap.size<=w1.heap.size);have uZ:=ai (Sv.o wc w1.heap.size mb gb D vr vo aG.o az.o hg);have T:=ai (λb=>gD.lt (QA w1.heap.size mb) hg b);have ZA:Hid (z<w1.heap.size):=gm aE dz.o.size;clear hg W Sv a8 a1 a7 YG iI ah Aa o5;by_cases ZN:r.1=0
    . obtain⟨s,hs⟩:=HR.o ZN;have yZ:Hid (R=(A4 s,0)):=by rw[L.o,aH (λg=>g ZN),hs];exact rfl
      obtain⟨n5,af⟩:∃n,n=s.ps.length:=⟨_,rfl⟩;obtain⟨n6,au⟩:∃n,n=s.out.length:=⟨_,rfl⟩;have DY:Hid (Calls prog F #[.pointer (some ⟨gb,0,none⟩),.pointer (some ⟨q,0,none⟩)] wc λe w'=>∃s0 n0 q0 s1 n1 q1 s2 n2 q2 s3 n3 q3 hd a5 c5 a6 c6,e=.returned (I 0)/\Below WA.heap.size WA w'/\(w'.cell? ⟨mb,0,none⟩=some (.slice s0 n0 q0)/\w'.cell? ⟨mb,1,none⟩=some (.slice s1 n1 q1)/\w'.cell? ⟨mb,2,none⟩=some (.slice s2 n2 q2)/\w'.cell? ⟨mb,3,none⟩=some (.slice s3 n3 q3)/\w'.cell? ⟨mb,4,none⟩=some (I hd)/\w'.cell? ⟨gb,1,none⟩=some (.slice a5 n5 c5)/\w'.cell? ⟨gb,2,none⟩=some (.slice a6 n6 c6))/\(¬mb=z/\¬gb=z)/\∃hs a,cD s.mem.aD hs/\eU (m8 (A4 s) hs) a a5 a6 c5 c6=#[.slice s0 n0 q0,.slice s1 n1 q1,.slice s2 n2 q2,.slice s3 n3 q3,I hd,.slice a5 n5 c5,.slice a6 n6 c6]/\∀V,aI (λb=>b<=z) w' V->rR V a a5 a6 (m8 (A4 s) hs)):=uZ.o.mono λe w' ⟨h1,h2,h3⟩=>by
       obtain⟨D',O5,O6,aw,_,_⟩:=h3 s hs;rw[ZN] at h1;obtain⟨s0,n0,q0,s1,n1,q1,s2,n2,q2,s3,n3,q3,hd,a5,c5,a6,c6,g1,g2,g3⟩:=aa4 aw ZA.o;rw[<- af,<- au] at g1 g3;exact⟨s0,n0,q0,s1,n1,q1,s2,n2,q2,s3,n3,q3,hd,a5,c5,a6,c6,h1,aI.below ZI.o h2 ZI.o.size (λb hb=>gj dz.o.size (T.o b hb).1),g1,g2,g3⟩
      clear L uZ hs ZN HR af au T HG;rcases hF with rfl | rfl
      all_goals
       go_wp2_with ((first | go_at_call 46 | go_at_call 61);refine DY.o.mono ?_;rintro e w5 ⟨s0,n0,q0,s1,n1,q1,s2,n2,q2,s3,n3,q3,hd,a5,c5,a6,c6,rfl,Hp,aa,aC,ap⟩;have J0:=ai Hp;have VM:=ai aa;have b0:=ai ap;obtain⟨⟨z0,z1,z2,z3,z4,z5,z6⟩,f0,f1,f2,f3,f4,f5,f6⟩:=Y.o _ Hp;obtain⟨b4,b5⟩:=aC;clear Hp aa ap)
       obtain⟨k0,k1,k2,k3,k4,k5,k6⟩:=VM.o;go_region
       all_goals
        go_wp2;refine bW (v:=.tuple #[.agg #[.slice s0 n0 q0,.slice s1 n1 q1,.slice s2 n2 q2,.slice s3 n3 q3,I hd,.slice a5 n5 c5,.slice a6 n6 c6],I 0]) (by simp[results,results45,go_sem,z0,z1,z2,z3,z4,z5,z6]) rfl ?_;refine HP.o _ _ ?_;rw[yZ.o];have a2:=(pC w5 z (.slice s0 n0 q0) (.slice s1 n1 q1) (.slice s2 n2 q2) (.slice s3 n3 q3) (I hd) (.slice a5 n5 c5) (.slice a6 n6 c6)).trans (aI.drew (λb=>b=z) _) (λ_ _ g=>g);obtain⟨hs,a',g1,g2,g3⟩:=b0.o;exact⟨hs,a',a5,c5,a6,c6,g1,by rw[g2],λV hV=>g3 _ ((a2.mono (λb _ e=>Nat.le_of_eq e)).trans hV (λb _ g=>uN (gm g N.o))),aI.below (mh.o.trans (J0.o.mono mh.o.size)) a2 (gj mh.o.size J0.o.size) (λb e=>by rw[e];exact N.o)⟩
    have yZ:Hid (R=(wY,r.1)):=by rw[L.o,aQ ZN];exact rfl
    obtain⟨rc,M⟩:=ex r.1;have vd:Hid (Calls prog F #[.pointer (some ⟨gb,0,none⟩),.pointer (some ⟨q,0,none⟩)] wc λe w'=>e=.returned (I rc)/\Below WA.heap.size WA w'):=uZ.o.mono λe w' ⟨h1,h2,h3⟩=>by
     rw[<- M] at h1;exact⟨h1,aI.below ZI.o h2 ZI.o.size (λb hb=>gj dz.o.size (T.o b hb).1)⟩
    have Il:(rc==0)=false:=by rw[jx,M];exact ZN
    rw[<- M] at yZ;clear L uZ ZN HR M;rcases hF with rfl | rfl
    all_goals
     go_wp2_with ((first | go_at_call 46 | go_at_call 61);refine vd.o.mono ?_;rintro e w5 ⟨rfl,Hp⟩;have J0:=ai Hp;obtain⟨⟨z0,z1,z2,z3,z4,z5,z6⟩,f0,f1,f2,f3,f4,f5,f6⟩:=Y.o _ Hp;clear Hp)
     refine bW (v:=.tuple #[.agg #[Nl,Nl,Nl,Nl,I 0,Nl,Nl],I rc]) (by simp[results,results45,go_sem,z0,z1,z2,z3,z4,z5,z6]) rfl ?_;refine HP.o _ _ ?_;rw[yZ.o];exact Nn rc (aI.below (mh.o.trans (J0.o.mono mh.o.size)) (pC w5 z _ _ _ _ _ _ _) (gj mh.o.size J0.o.size) (λb e=>by rw[e];exact N.o))
 have yZ:Hid (R=(wY,ck)):=by rw[y.o,aQ hk0];exact rfl
 have Il:(ck==0)=false:=by rw[jx];exact hk0
 clear y hk0 HC Sr Ke A;go_wp2;refine bW (v:=.tuple #[.agg #[Nl,Nl,Nl,Nl,I 0,Nl,Nl],I ck]) (by simp[results,results45,go_sem,z0,z1,z2,z3,z4,z5,z6]) rfl ?_;refine HP.o _ _ ?_;rw[yZ.o];exact Nn ck (aI.below (mh.o.trans (dz.o.mono mh.o.size)) (pC w1 z _ _ _ _ _ _ _) (gj mh.o.size dz.o.size) (λb e=>by rw[e];exact N.o))
abbrev Px:=Sj 61 (.inr rfl)
theorem I5 {w w':World} {ao:Option Addr} {l:List Int} (h:yE w ao l) (hb:Below w.heap.size w w'):yE w' ao l:=λhl=>by
 obtain⟨b,off,e,hlt,hc⟩:=h hl;exact⟨b,off,e,gm hlt hb.size,λi hi=>(hb.cell (p:=⟨b,off+i,none⟩) hlt).trans (hc i hi)⟩
theorem aa1 (st:dC aT) (picks:List Int) (h:(xc dN st picks).1=0):∃s,(xc dN st picks).2=some s:=by
 unfold xc at h ⊢;by_cases c:2000<picks.length
 . rw[aQ c] at h;cases h
 rw[aH c] at h ⊢;cases e:gK dN picks picks.length (some st) with
 | none=>rw[e] at h;cases h
 | some s=>exact⟨s,rfl⟩
theorem aa2 {m:iM} {lo mb gb:Nat} {D:Nat->Prop} {vr vo:Value} (picks:List Int) (ap:Option Addr) (cp q:Nat) (V:World) (hk:eu m=0) (hp:L6 m.procs) (hg:gD (iC lo mb) lo mb gb V D vr vo (nN m)) (hq:V.cell? ⟨q,0,none⟩=some (.slice ap picks.length cp)) (hn:yE V ap picks) (hps:0<picks.length->∀b,ap=some b->b.block<lo) (hpl:picks.length<=140737488351232) :
  Calls prog 61 #[.pointer (some ⟨gb,0,none⟩),.pointer (some ⟨q,0,none⟩)] V (Ak (iC lo mb) lo mb gb V D vr vo (xc dN (nN m) picks)):=by
 have HS:=ai (adT (QA lo mb) picks ap cp V hg (agr hk hp) hn (λh0 b e g=>by have:=(hg.lt (QA lo mb) _ g).1;have:=hps h0 b e;omega) hpl);generalize xc dN (nN m) picks=X at HS ⊢;obtain⟨P,hP⟩:=ex (Ak (iC lo mb) lo mb gb V D vr vo X);have HP:Hid (∀w',(aI (kV gb D vr vo) V w'/\∀s,X.2=some s->cY (iC lo mb) lo mb gb V D vr vo s w')->P (.returned (I X.1)) w'):=λw' h=>by
  rw[hP];exact⟨rfl,h.1,h.2⟩
 rw[<- hP];obtain⟨X1,r⟩:=ex X.1;have Cu:Hid (Calls prog 62 #[.pointer (some ⟨gb,0,none⟩),.slice ap picks.length cp] V λe w'=>e=.returned (I X1)/\aI (kV gb D vr vo) V w'/\∀s,X.2=some s->cY (iC lo mb) lo mb gb V D vr vo s w'):=by rw[r];exact HS.o
 rw[<- r] at HP;clear hP hg HS r hn hps;go_enter func61,ntmps61;go_wp2_with (go_at_call 62;refine Cu.o.mono ?_;rintro e w1 ⟨rfl,hl⟩;have HL:=ai hl;clear hl);exact HP.o _ HL.o
theorem adP (m:iM) (picks:List Int) (ap:Option Addr) (cp:Nat) (a:gN) (ar ao:Option Addr) (cr co:Nat) (w:World) (h:rR w a ar ao m) (hf:Ct m) (hp:L6 m.procs) (hn:yE w ap picks) (hps:0<picks.length->∀b,ap=some b->b.block<w.heap.size) (hpl:picks.length<=140737488351232) :
  Calls prog 20 #[.agg (eU m a ar ao cr co),.slice ap picks.length cp] w (uh w (yC m picks)):=by
 obtain⟨r,hr⟩:=ex (yC m picks);have OJ:Hid (∀V q,Below w.heap.size w V->V.cell? ⟨q,0,none⟩=some (.slice ap picks.length cp)->Calls prog 45 #[.agg (eU m a ar ao cr co),.func (.func 61) #[] #[.pointer (some ⟨q,0,none⟩)]] V λe w'=>∃s0 n0 q0 s1 n1 q1 s2 n2 q2 s3 n3 q3 hd s5 n5 q5 s6 n6 q6 er,e=.returned (.tuple #[.agg #[.slice s0 n0 q0,.slice s1 n1 q1,.slice s2 n2 q2,.slice s3 n3 q3,I hd,.slice s5 n5 q5,.slice s6 n6 q6],I er])/\Below V.heap.size V w'/\∀U,aI (λb=>b<V.heap.size) w' U->Below w.heap.size w U->uh w r (.returned (.tuple #[.agg #[.slice s0 n0 q0,.slice s1 n1 q1,.slice s2 n2 q2,.slice s3 n3 q3,I hd,.slice s5 n5 q5,.slice s6 n6 q6],I er])) U):=λV q hV hq=>by
  rw[hr];refine(Px m (xc dN (nN m) picks) q a ar ao cr co V (h.below hV) hf (aa1 _ _) (λhk U lo mb gb D vr vo hU hlo hg=>aa2 picks ap cp q U hk hp hg ((hU.cell (p:=⟨q,0,none⟩) (nu _ _ hq)).trans hq) (I5 (I5 hn hV) hU) (λh0 b e=>gm (hps h0 b e) (gj hV.size hlo)) hpl)).mono ?_;rintro e w' ⟨hs,a1,a2,c2,a3,c3,W,rfl,h1,h2⟩;exact⟨_,_,_,_,_,_,_,_,_,_,_,_,_,_,_,_,_,_,_,_,rfl,h2,λU hU hb=>⟨hs,a1,a2,c2,a3,c3,W,rfl,λV2 h3=>h1 _ (hU.trans h3 (λb _ g=>gm g hV.size)),hb⟩⟩
 rw[<- hr];generalize uh w r=P at OJ ⊢;clear h hf hp hr hn hps;unfold eU at OJ ⊢;obtain⟨x0,J⟩:∃n,n=m.fA.aD.length:=⟨_,rfl⟩;obtain⟨x1,F⟩:∃n,n=m.fA.frames.length:=⟨_,rfl⟩;obtain⟨x2,O⟩:∃n,n=m.fA.slots.length:=⟨_,rfl⟩;obtain⟨x3,L⟩:∃n,n=m.fA.aj.length:=⟨_,rfl⟩;obtain⟨x4,G⟩:∃n,n=m.fA.hand:=⟨_,rfl⟩;obtain⟨no,N⟩:=ex m.out.length;generalize m.procs.length=np at OJ ⊢;rw[<- J,<- F,<- O,<- L,<- G,<- N] at OJ ⊢;clear J F O L G N;generalize picks.length=pl at OJ ⊢;clear hpl;obtain⟨WQ,A⟩:=ex ((w.alloc (.cells #[.slice a.aS x0 a.cS,.slice a.aF x1 a.cF,.slice a.aL x2 a.cL,.slice a.aP x3 a.cP,I x4,.slice ar np cr,.slice ao no co] 34)).alloc (.cells #[.slice ap pl cp] 48));have Q:WQ.heap.size=w.heap.size+1+1:=by rw[A];simp
 have BQ:WQ.heap[w.heap.size+1]?=some (.cells #[.slice ap pl cp] 48 (0,0)):=by
  rw[A];have:=bG (w.alloc (.cells #[.slice a.aS x0 a.cS,.slice a.aF x1 a.cF,.slice a.aL x2 a.cL,.slice a.aP x3 a.cP,I x4,.slice ar np cr,.slice ao no co] 34)) #[.slice ap pl cp] 48;simpa using this
 have Ja:Below w.heap.size w WQ:=by rw[A];exact((aN w.heap.size w).alloc (aJ _) _).alloc ξ _
 have mh:=ai (Ja.alloc Ja.size (.cells #[Nl,Nl,Nl,Nl,I 0,Nl,Nl] 34));have hq:(WQ.alloc (.cells #[Nl,Nl,Nl,Nl,I 0,Nl,Nl] 34)).cell? ⟨w.heap.size+1,0,none⟩=some (.slice ap pl cp):=aA (bB BQ _) 0 rfl;have BZ:=bG WQ #[Nl,Nl,Nl,Nl,I 0,Nl,Nl] 34;rw[Q] at BZ;obtain⟨WA,lQ⟩:=ex (WQ.alloc (.cells #[Nl,Nl,Nl,Nl,I 0,Nl,Nl] 34));rw[<- lQ] at mh hq BZ;have M:=ai (OJ.o WA (w.heap.size+1) mh.o hq);have B:=ai BZ;rw[A] at lQ;rw[lQ] at M;have ot:=ai lQ;clear lQ A Q BQ Ja hq BZ OJ;go_enter func20,ntmps20;go_wp2_with (go_at_call 45;refine M.o.mono ?_;rintro e w1 ⟨s0,n0,q0,s1,n1,q1,s2,n2,q2,s3,n3,q3,hd,s5,n5,q5,s6,n6,q6,er,rfl,hb,ho⟩;rw[<- ot.o] at hb ho;have dz:=ai hb;have T:=ai ho;have y:=aO B.o hb (aM B.o);obtain⟨z0,z1,z2,z3,z4,z5,z6⟩:=lD y;have f0:=br y 0;have f1:=br y 1;have f2:=br y 2;have f3:=br y 3;have f4:=br y 4;have f5:=br y 5;have f6:=br y 6;clear hb ho y);refine bW (v:=.tuple #[.agg #[.slice s0 n0 q0,.slice s1 n1 q1,.slice s2 n2 q2,.slice s3 n3 q3,I hd,.slice s5 n5 q5,.slice s6 n6 q6],I er]) (by simp[results,results20,go_sem,z0,z1,z2,z3,z4,z5,z6]) rfl ?_;have K:=pC w1 (w.heap.size+1+1) (.slice s0 n0 q0) (.slice s1 n1 q1) (.slice s2 n2 q2) (.slice s3 n3 q3) (I hd) (.slice s5 n5 q5) (.slice s6 n6 q6);have R:=aM B.o;exact T.o _ (K.mono (λb _ e=>by rw[e];exact R)) (aI.below (mh.o.trans (dz.o.mono mh.o.size)) K (gj mh.o.size dz.o.size) (λb e=>ω))
end Go.Proofs.YtlgoihmkgaaemaaGreat
