import Derived.Test.YtlgoihmkgaaemaaGreatGP21
set_option maxHeartbeats 20000000
set_option linter.unusedVariables false
set_option maxRecDepth 100000
set_option linter.unusedSimpArgs false
namespace Go.Proofs.YtlgoihmkgaaemaaGreat
open Go.RowKit Tryz
def jk (k:aT) (sp size way:Int) (ways:List Int):Int:=if fR k sp≠0 then fR k sp else if ¬(1<=size/\size<=8) then 3 else if way∈ways then 0 else 10
def M8 (w:World) (k:aT) (e:Ending) (w':World):Prop:=∃mb S hs,e=.returned (.tuple #[.pointer (some (Ad mb 0)),I 0])/\cD k.aD hs/\bO w.heap.size mb 158 (jq k) w' S (aV k hs)/\Below w.heap.size w w'
theorem Cf {w:World} {a:gN} {k:aT} {sp:Int} (h:Calls prog 76 #[.agg (bj a k),I sp] w (xN w a k (fR k sp))) (hc:fR k sp≠0):Calls prog 76 #[.agg (bj a k),I sp] w λe w'=>e=.returned (.tuple #[.pointer none,I (fR k sp)])/\Below w.heap.size w w':=h.mono λe w' ⟨hb,hh⟩=>by
 grind
theorem AB {w:World} {a:gN} {k:aT} {sp:Int} (h:Calls prog 76 #[.agg (bj a k),I sp] w (xN w a k (fR k sp))) (hc:fR k sp=0):Calls prog 76 #[.agg (bj a k),I sp] w λe w'=>∃mb,e=.returned (.tuple #[.pointer (some (Ad mb 0)),I 0])/\w.heap.size<=mb/\w'.heap[mb]?=some (.cells (tY a k) 158 (0,0))/\Below w.heap.size w w':=h.mono λe w' ⟨hb,hh⟩=>by
 grind
theorem sH {k:aT} {sp:Int} (h:fR k sp=0):bg k/\0<=sp/\sp.toNat<k.aj.length/\(ak k.aj sp.toNat).live=true:=by
 grind [fR,wV]
theorem Ga (k:aT) (a:gN) (sp size way:Int) (ways:List Int) (aw:Option Addr) (cw:Nat) (w:World) (hK:iB w a k) (hF:kN k) (hsp:cR sp) (hw:dE iL 1 0 w aw ways) (Js:ways.length<=1000000) (hc:jk k sp size way ways≠0) :
  Calls prog 271 #[.agg (bj a k),I sp,I size,I way,.slice aw ways.length cw] w λe w'=>e=.returned (.tuple #[.pointer none,I (jk k sp size way ways)])/\Below w.heap.size w w':=by
 have zu:=ai (λV (hV:Below w.heap.size w V)=>yP k a sp V (hK.below hV) hF hsp);have q:=ai (λV (hV:Below w.heap.size w V)=>xM ways way aw cw V (hw.below hV) Js);have eB:=ai ((aN w.heap.size w).alloc (aJ _) (.cells (bj a k) 30));have KB:=ai (bG w (bj a k) 30);obtain⟨C,hC⟩:=ex (jk k sp size way ways);rw[<- hC] at hc ⊢;obtain⟨P,hP⟩:∃P:Ending->World->Prop,P=λe w'=>e=.returned (.tuple #[.pointer none,I C])/\Below w.heap.size w w':=⟨_,rfl⟩
 have HE:Hid (∀V,Below w.heap.size w V->P (.returned (.tuple #[.pointer none,I C])) V):=λV hV=>by grind
 rw[<- hP];clear hP;unfold jk at hC;by_cases c1:fR k sp=0
 . rw[aH (λx=>x c1)] at hC;have Kf:=ai (λV hV=>AB (zu.o V hV) c1);by_cases c2:1<=size/\size<=8
   . rw[aH (λx=>x c2)] at hC;have c3:way∉ways:=λx=>by grind
     rw[aH c3] at hC;subst hC;rw[eH c3] at q;obtain⟨g1,g2⟩:=c2;clear zu c1 c3 hK hF hsp hw hc;unfold bj at Kf eB KB ⊢;go_enter func271,ntmps271;go_wp2_with (first
      | (go_at_call 76;refine(Kf.o _ eB.o).mono ?_;rintro e w1 ⟨mb,rfl,vW,h,b⟩;have dz:=ai (cJ eB.o b);clear b h)
      | (go_at_call 282;refine(q.o _ dz.o).mono ?_;rintro e w2 ⟨rfl,rfl⟩))
     exact HE.o _ dz.o
   rw[aQ c2] at hC;subst hC;clear zu q c1 hK hF hsp hw hc;unfold bj at Kf eB KB ⊢;rcases(ω:size<1\/(1<=size/\8<size)) with g | ⟨g1,g2⟩
   . go_enter func271,ntmps271;go_wp2_with (go_at_call 76;refine(Kf.o _ eB.o).mono ?_;rintro e w1 ⟨mb,rfl,vW,h,b⟩;have dz:=ai (cJ eB.o b);clear b h);exact HE.o _ dz.o
   have g3:¬size<1:=by omega
   go_enter func271,ntmps271;go_wp2_with (go_at_call 76;refine(Kf.o _ eB.o).mono ?_;rintro e w1 ⟨mb,rfl,vW,h,b⟩;have dz:=ai (cJ eB.o b);clear b h);exact HE.o _ dz.o
 rw[aQ c1] at hC;have Kf:=ai (λV hV=>Cf (zu.o V hV) c1);rw[<- hC] at Kf;have cb:(C != 0)=true:=by grind
 clear zu q c1 hK hF hsp hw hc hC;unfold bj at Kf eB KB ⊢;go_enter func271,ntmps271;go_wp2_with (go_at_call 76;refine(Kf.o _ eB.o).mono ?_;rintro e w1 ⟨rfl,b⟩;have dz:=ai (cJ eB.o b);clear b);exact HE.o _ dz.o
theorem IE (FE:si) (k:aT) (a:gN) (sp size way:Int) (ways:List Int) (aw:Option Addr) (cw:Nat) (w:World) (hK:iB w a k) (hF:kN k) (hsp:cR sp) (hw:dE iL 1 0 w aw ways) (Js:ways.length<=1000000) (hc:jk k sp size way ways=0) :
  Calls prog 271 #[.agg (bj a k),I sp,I size,I way,.slice aw ways.length cw] w (M8 w k):=by
 have c1:fR k sp=0:=by
  grind [jk]
 have c2:1<=size/\size<=8:=by
  grind [jk]
 have c3:way∈ways:=by
  grind [jk]
 have hR:=(sH c1).1;have r:=AA hR hF;have Kf:=ai (λV (hV:Below w.heap.size w V)=>AB (yP k a sp V (hK.below hV) hF hsp) c1);have A:=ai (λV (hV:Below w.heap.size w V)=>xM ways way aw cw V (hw.below hV) Js);rw[dW c3] at A;have eB:=ai ((aN w.heap.size w).alloc (aJ _) (.cells (bj a k) 30));have q:Hid (∀V mb,Below w.heap.size w V->w.heap.size<=mb->V.heap[mb]?=some (.cells (tY a k) 158 (0,0))->Calls prog 267 #[.pointer (some (Ad mb 0))] V λe w'=>e=.returned (.tuple #[])/\M8 w k (.returned (.tuple #[.pointer (some (Ad mb 0)),I 0])) w'):=λV mb hV vW h=>(Rp FE k a mb V (hK.below hV) r h w.heap.size vW).mono λe w' ⟨h1,S,hs,h2,h3,h4,h5⟩=>⟨h1,mb,S,hs,rfl,h2,h3,aI.below hV h5 hV.size (λb e=>ω)⟩
 generalize M8 w k=P at q ⊢;obtain⟨g1,g2⟩:=c2;clear c1 c3 hK hF hsp hw hc hR r;unfold bj at Kf eB ⊢;go_enter func271,ntmps271;go_wp2_with (first
  | (go_at_call 76;refine(Kf.o _ eB.o).mono ?_;rintro e w1 ⟨mb,rfl,vW,h,y⟩;have dz:=ai (cJ eB.o y);have YG:=ai h;have B:Hid (w.heap.size<=mb):=(by simp at vW;grind);clear y h vW)
  | (go_at_call 282;refine(A.o _ dz.o).mono ?_;rintro e w2 ⟨rfl,rfl⟩)
  | (go_at_call 267;refine(q.o _ _ dz.o B.o YG.o).mono ?_;rintro e w3 ⟨rfl,hq⟩;have HQ:=ai hq;clear hq))
 exact HQ.o
def gU:aT:=⟨[],[],[],[],0⟩
def ahV:gv:=⟨λ_=>.no,Nl,Nl,Nl,Nl,[]⟩
def dY (w:World) (k:aT) (vs:List Value) (e:Ending) (w':World):Prop:=∃S hs,cD k.aD hs/\e=.returned (.tuple (Value.agg #[S.vS,S.vF,S.vL,S.vP,I k.hand]::vs).toArray)/\Kr w.heap.size w' S (aV k hs)/\Below w.heap.size w w'
theorem adb (lo:Nat) (w:World):Kr lo w ahV gU:=by
 refine⟨λb hb=>absurd rfl hb,nt _ _ _ _,λi hi=>?_,nt _ _ _ _,nt _ _ _ _,nt _ _ _ _,rfl,λi hi=>?_,λb hb=>?_,λi hi=>?_,λb hb=>?_,λb hb=>?_,λb hb=>?_,λi hi=>?_,λi hi=>?_⟩
 all_goals first | cases hb | cases hi
theorem vM {w w':World} (vs:List Value) (hb:Below w.heap.size w w'):dY w gU vs (.returned (.tuple (Value.agg #[Nl,Nl,Nl,Nl,I 0]::vs).toArray)) w':=⟨ahV,[],rfl,rfl,adb _ _,hb⟩
theorem Li {k:aT} {sp size way:Int} {ways:List Int} (h:jk k sp size way ways=0):fR k sp=0/\(1<=size/\size<=8)/\way∈ways:=by
 grind [jk]
theorem En {W:World} {rb fb:Nat} (hr:W.heap[rb]?=some (.cells #[Nl,Nl,Nl,Nl,I 0] 30 (0,0))) (hf:W.heap[fb]?=some (.cells #[I 0,I 0] 75 (0,0))) (hne:rb≠fb) (s f l p h x y:Value) {V:World} (hV:V=((((((W.setCell (Ad rb 0) s).setCell (Ad rb 1) f).setCell (Ad rb 2) l).setCell (Ad rb 3) p).setCell (Ad rb 4) h).setCell (Ad fb 0) x).setCell (Ad fb 1) y) :
  V.heap[rb]?=some (.cells #[s,f,l,p,h] 30 (0,0))/\V.heap[fb]?=some (.cells #[x,y] 75 (0,0))/\aI (λb=>b=rb\/b=fb) W V:=by
 have h1:(((((W.setCell (Ad rb 0) s).setCell (Ad rb 1) f).setCell (Ad rb 2) l).setCell (Ad rb 3) p).setCell (Ad rb 4) h).heap[rb]?=some (.cells #[s,f,l,p,h] 30 (0,0)):=dm (dm (dm (dm (dm hr 0 s) 1 f) 2 l) 3 p) 4 h;have q:fb≠rb:=λe=>hne e.symm
 have h2:=jy (jy (jy (jy (jy hf rb 0 s q) rb 1 f q) rb 2 l q) rb 3 p q) rb 4 h q;subst hV;refine⟨jy (jy h1 fb 0 x hne) fb 1 y hne,dm (dm h2 0 x) 1 y,?_⟩;have k:∀(A:World) (g j:Nat) (v:Value),g=rb\/g=fb->aI (λb=>b=rb\/b=fb) A (A.setCell (Ad g j) v):=λA g j v hg=>aI.set _ A (Ad g j) v hg
 exact((((((k _ _ _ _ (.inl rfl)).trans (k _ _ _ _ (.inl rfl)) (λ_ _ g=>g)).trans (k _ _ _ _ (.inl rfl)) (λ_ _ g=>g)).trans (k _ _ _ _ (.inl rfl)) (λ_ _ g=>g)).trans (k _ _ _ _ (.inl rfl)) (λ_ _ g=>g)).trans (k _ _ _ _ (.inr rfl)) (λ_ _ g=>g)).trans (k _ _ _ _ (.inr rfl)) (λ_ _ g=>g)
theorem LZ {s:bD} (h:cK s=true):ym s:=by
 unfold cK lW at h;rw[cV,iP] at h;obtain⟨⟨h1,h2,h3⟩,hf⟩:=h;have hl:=oO _ _ hf;refine⟨⟨ω,ω⟩,by unfold bM;omega,by unfold bM;omega,λk hk=>?_⟩;have all:∀n,dK s.df n=true->∀i,i<n->dK s.df i=true/\zM (ow s.df i) (l8 s.df i)=true:=λn=>by
  induction n with
  | zero=>intro _ i hi;omega
  | succ n ih =>
   intro hn i hi;simp only[dK,cV] at hn;by_cases c:i=n
   . rw[c];exact hn
   exact ih hn.1 i ω
 obtain⟨g1,g2⟩:=all _ hf k hk;have g3:=oO _ _ g1;unfold zM at g2;rw[iP] at g2;exact⟨⟨ω,ω⟩,by unfold bM;omega⟩
theorem Uk {hs:List bD} (h:dR hs=true) (hl:hs.length<=255):m6 hs:=⟨by unfold bM;omega,λk hk=>LZ (oG hs hs.length h k hk).1⟩
theorem ug {k:aT} (h:bg k):kN k:=by
 have hc:=h.c;obtain⟨r1,r2⟩:=yO h;have hh:=h.hand;refine⟨Uk h.m9 ω,by unfold bM;omega,λi hi=>⟨?_,?_⟩,by unfold bM;omega,λi hi=>⟨?_,?_⟩,by unfold bM;omega,λi hi=>⟨?_,?_,λn hn=>?_⟩,⟨ω,ω⟩⟩
 . have f:=h.Bt i hi;unfold bM;by_cases c:bY k.aj 1 i=[]
   . rw[f.zero c];exact rB _
   rw[f.size c];decide
 . have:=r1 i hi;exact⟨ω,ω⟩
 . have f:=h.slt i hi;unfold bM;by_cases c:bY k.aj 2 i=[]
   . rw[f.zero c];exact rB _
   rw[f.size c];decide
 . have:=r2 i hi;exact⟨ω,ω⟩
 . exact kH _ (h.sp hi).bu
 . have:=oP h hi;unfold bM;omega
 have s:=h.sp hi;have he:aW (ak k.aj i).bl n∈(ak k.aj i).bl:=kT hn;obtain⟨e1,e2⟩:=s.MQ _ he;have e3:=sM s.bu e1;rcases e2 with⟨e4,e5,e6⟩ | ⟨e4,e5,e6⟩
 . exact⟨⟨ω,ω⟩,by rw[e4];exact⟨Δ,Δ⟩,⟨ω,ω⟩⟩
 exact⟨⟨ω,ω⟩,by rw[e4];exact⟨Δ,Δ⟩,⟨ω,ω⟩⟩
theorem GK {lo:Nat} {w:World} {S:gv} {k:aT} (h:Kr lo w S k):∃a,#[S.vS,S.vF,S.vL,S.vP,I k.hand]=bj a k/\∀U,aI (λb=>b<lo) w U->iB U a k:=by
 obtain⟨a,p,_⟩:=h.has;refine⟨a,by unfold bj;rw[p.eS,p.eF,p.eL,p.eP],λU hU=>?_⟩;obtain⟨a',p',ha⟩:=(h.kp hU (λb hb e=>by have:=(h.vD b hb).1;omega)).has;have e1:=p.eS.symm.trans p'.eS;have e2:=p.eF.symm.trans p'.eF;have e3:=p.eL.symm.trans p'.eL;have e4:=p.eP.symm.trans p'.eP;injection e1 with q1 _ q2;injection e2 with q3 _ q4;injection e3 with q5 _ q6;injection e4 with q7 _ q8;have:a'=a:=by
  cases a;cases a';simp only at q1 q2 q3 q4 q5 q6 q7 q8;subst q1 q2 q3 q4 q5 q6 q7 q8;rfl
 rw[<- this];exact ha
def akN (w:World) (k:aT) (vs:List Value) (e:Ending) (w':World):Prop:=∃hs a,cD k.aD hs/\e=.returned (.tuple (Value.agg (bj a (aV k hs))::vs).toArray)/\(∀U,aI (λb=>b<w.heap.size) w' U->iB U a (aV k hs))/\Below w.heap.size w w'
theorem aaV {w:World} {k:aT} {vs:List Value} {e:Ending} {w':World} (h:dY w k vs e w'):akN w k vs e w':=by
 obtain⟨S,hs,h1,h2,h3,h4⟩:=h;obtain⟨a,e1,e2⟩:=GK h3;exact⟨hs,a,h1,by rw[h2,<- e1];rfl,e2,h4⟩
theorem Er (l:List Nat):(CO l).length=l.length:=by unfold CO;rw[jw]
theorem Vp (l:List Nat) (n:Nat) (hn:n<l.length):Ev (CO l) n=((l.getD n 0:Nat):Int):=by
 unfold Ev CO;rw[jI,Ks,jI,pX hn];rfl
theorem Oc {lo mb:Nat} {tt:TypeId} {X:List Value} (k:aT) (S:gv) (w:World) (l:List Nat) (av:Option Addr) (cv:Nat) (h:bO lo mb tt X w S k) (hH:nW w S av (CO l)) (hl:∀n,n<l.length->l.getD n 0<k.frames.length) (hll:l.length<=2) (hsz:∀n,n<l.length->(aK k.frames (l.getD n 0)).data.size<=1000) (Ju:0<k.frames.length) :
  Calls prog 273 #[.pointer (some (Ad mb 0)),.slice av l.length cv] w λe w'=>e=.returned (.string (iV k.frames l l.length))/\w'=w:=by
 obtain⟨fb,cF,A⟩:=h.toKr.fr Ju;have c1:=h.c1;rw[A.v] at c1;have HX:=ai A.x0;have HH:=ai hH.has;have HL:=ai hl;have r:=ai hsz;have F:Hid (∀n,n<=l.length->(iV k.frames l n).size<=n*1000):=λn=>by
  induction n with
  | zero=>intro _;exact rB _
  | succ n ih =>
   intro hn;unfold iV;rw[ByteArray.size_append];have:=ih ω;have:=hsz n ω;omega
 generalize k.frames.length=nf at c1 HX HL;clear h hH A hl hsz Ju;go_enter func273,ntmps273;go_wp2;go_loopw [5,10] (λdv iv wr=>∃n:Nat,n<=l.length/\iv=I (n:Int)/\dv=.string (iV k.frames l n)/\wr=w) (λ_ iv _=>l.length-(intOf iv).toNat)
 case atStart=>exact⟨0,ω,rfl,rfl,rfl⟩
 case round =>
  obtain⟨n,hn,rfl,rfl,rfl⟩:=hrel;by_cases hlt:n<l.length
  . have G:(n:Int)<(l.length:Int):=by omega
    have B:=F.o n hn;have b:=r.o n hlt;obtain⟨eb,eo,y,K,dZ⟩:=HH.o (by rw[Er];omega);subst y;have y0:=dZ n (by rw[Er];exact hlt) 0 ω;rw[jt,PZ] at y0;have e0:=Vp l n hlt;have x0:wr.cell? (Ad eb (eo+n))=some (I ((l.getD n 0:Nat):Int)):=by
     rw[<- e0];exact y0
    have hq:=HL.o n hlt;have xF:=HX.o (l.getD n 0) hq;have uy:Hid (iV k.frames l (n+1)=iV k.frames l n++(aK k.frames (l.getD n 0)).data):=rfl;generalize l.getD n 0=q at x0 xF uy hq b;generalize (aK k.frames q).data=FD at xF uy b;generalize iV k.frames l n=JD at uy B ⊢;have J:(q:Int)<(nf:Int):=by omega
    clear dZ y0 e0;go_wp2;go_roundw
    case rel=>exact⟨n+1,ω,by go_num,by rw[uy.o],trivial⟩
    case measure=>simp[intOf];omega
  obtain rfl:n=l.length:=by omega
  go_wp2;go_ret;exact⟨rfl,rfl⟩
theorem AE (k:aT) (l:List Nat) (s:ByteArray):∀n,(lZ k l s n).frames.length=k.frames.length
 | 0=>rfl
 | n+1=>by
  unfold lZ wT;show(List.set _ _ _).length=_;rw[gX,AE k l s n]
theorem aas {lo mb:Nat} {tt:TypeId} {X:List Value} (k:aT) (S:gv) (w:World) (l:List Nat) (s:ByteArray) (av:Option Addr) (cv:Nat) (h:bO lo mb tt X w S k) (hH:nW w S av (CO l)) (hl:∀n,n<l.length->l.getD n 0<k.frames.length) (hll:l.length<=2) (hs:l.length*16<=s.size) (hs2:s.size<=1000) (Ju:0<k.frames.length) :
  Calls prog 278 #[.pointer (some (Ad mb 0)),.slice av l.length cv,.string s] w (mU lo mb tt X w S (.tuple #[]) (lZ k l s l.length)):=by
 have HH:=ai hH;have HL:=ai hl;have MI:Hid (∀V n,n<l.length->bO lo mb tt X V S (lZ k l s n)->∃fb cF,¬mb=fb/\V.cell? (Ad mb 1)=some (.slice (some (Ad fb 0)) k.frames.length cF)/\(∀V',Below V.heap.size V V'->V'.cell? (Ad fb (l.getD n 0*4))=some (.string (aK (lZ k l s n).frames (l.getD n 0)).data)/\V'.frozen? (Ad fb (l.getD n 0*4))=false/\bO lo mb tt X (V'.setCell (Ad fb (l.getD n 0*4)) (.string (s.extract (n*16) (n*16+16)))) S (lZ k l s (n+1))/\cU S V S (V'.setCell (Ad fb (l.getD n 0*4)) (.string (s.extract (n*16) (n*16+16)))))):=λV n hn hV=>by
  obtain⟨fb,cF,A⟩:=hV.toKr.fr (by rw[AE];exact Ju);have c1:=hV.c1;rw[A.v,AE] at c1;refine⟨fb,cF,λe=>by have:=A.lab;rw[<- e,hV.lH] at this;simp at this,c1,λV' hb=>?_⟩;have B:=hV.below hb;obtain⟨Q,W,A'⟩:=B.toKr.fr (by rw[AE];exact Ju);have e:Q=fb:=by
   have:=A'.v;rw[A.v] at this;injection this with e1 _ _;injection e1 with e1;injection e1 with e1 _ _;exact e1.symm
  subst e;have hi:l.getD n 0<(lZ k l s n).frames.length:=by rw[AE];exact hl n hn
  exact⟨A'.x0 _ hi,A'.fz _,B.MK A'.v hi (j:=0) ω rfl,(cU.below hb).trans (AJ B.toKr A'.v)⟩
 have O:Hid (∀V n,n<l.length->Calls prog 171 #[.string s,I ((n:Int)*16),I 16] V λe w'=>e=.returned (.tuple #[.string (s.extract (n*16) (n*16+16)),I 0])/\Below V.heap.size V w'):=λV n hn=>by
  have:=GZ s (n*16) 16 V ω ω;rw[show((n*16:Nat):Int)=(n:Int)*16 by omega,show((16:Nat):Int)=16 from rfl] at this;exact this
 have xB:=ai h;have eW:Hid (∀V,bO lo mb tt X V S (lZ k l s l.length)->cU S w S V->mU lo mb tt X w S (.tuple #[]) (lZ k l s l.length) (.returned (.tuple #[])) V):=λV h1 h2=>⟨rfl,h1,h2⟩
 generalize mU lo mb tt X w S (.tuple #[]) (lZ k l s l.length)=P at eW ⊢;generalize k.frames.length=nf at MI HL;clear h hH hl Ju hs hs2;go_enter func278,ntmps278;go_wp2;go_loopw [10] (λiv wr=>∃n:Nat,n<=l.length/\iv=I (n:Int)/\bO lo mb tt X wr S (lZ k l s n)/\cU S w S wr) (λiv _=>l.length-(intOf iv).toNat)
 case atStart=>exact⟨0,ω,rfl,xB.o,cU.refl _ _⟩
 case round =>
  obtain⟨n,hn,rfl,mL,b⟩:=hrel;by_cases hlt:n<l.length
  . have R:(n:Int)<(l.length:Int):=by omega
    have Ao:=HH.o.ch b;obtain⟨eb,eo,N,U,dZ⟩:=Ao.has (by rw[Er];omega);subst N;have y0:=dZ n (by rw[Er];exact hlt) 0 ω;rw[jt,PZ] at y0;have e0:=Vp l n hlt;have x0:wr.cell? (Ad eb (eo+n))=some (I ((l.getD n 0:Nat):Int)):=by
     rw[<- e0];exact y0
    have hq:=HL.o n hlt;obtain⟨fb,cF,M,c1,K⟩:=MI.o wr n hlt mL;have y:=ai K;have F:=ai (λV=>O.o V n hlt);have OJ:=ai b;generalize l.getD n 0=q at x0 hq y;generalize (aK (lZ k l s n).frames q).data=FD at y;generalize s.extract (n*16) (n*16+16)=PD at y F;have T:(q:Int)<(nf:Int):=by omega
    have NQ:mb<wr.heap.size:=nu wr _ c1;have Y:IntKind.i64.wrap ((n:Int)*16)=(n:Int)*16:=wh _ ω;clear dZ y0 e0 mL b K Ao xB;go_upto_region 3 with fail;have xB:=ai (aN wr.heap.size wr).drew;have o5:Hid (wr.drew.cell? (Ad mb 1)=some (.slice (some (Ad fb 0)) nf cF)):=(xB.o.cell (p:=(Ad mb 1)) NQ).trans c1
    go_region_held3 (λV=>V.cell? (Ad mb 1)=some (.slice (some (Ad fb 0)) nf cF)) (first | exact Fq.o | exact o5.o | exact G.o)
     ((go_at_call 171;refine(F.o _).mono ?_;rintro r w5 ⟨rfl,Hp⟩;have J:=ai (xB.o.trans (Hp.mono xB.o.size));have Fq:Hid (w5.cell? (Ad mb 1)=some (.slice (some (Ad fb 0)) nf cF)):=(J.o.cell (p:=(Ad mb 1)) NQ).trans c1;have G:Hid ((w5.setCell (Ad fb (q*4)) (.string PD)).cell? (Ad mb 1)=some (.slice (some (Ad fb 0)) nf cF)):=(cN _ _ _ _ _ _ M).trans Fq.o;obtain⟨z0,z1,z2,z3⟩:=y.o w5 J.o;have Ih:=ai z2;have L:=ai z3;clear Hp z2 z3))
    all_goals clear o5 Fq G F
    all_goals go_wp2
    go_roundw
    case rel=>exact⟨n+1,ω,by go_num,Ih.o,OJ.o.trans L.o⟩
    case measure=>simp[intOf];omega
  obtain rfl:n=l.length:=by omega
  have HX:=ai (eW.o wr mL b);clear mL b;go_wp2
  first
   | exact HX.o
   | (refine vY (v:=.tuple #[]) (by simp[results,results278,go_sem]) rfl ?_;exact HX.o)
def qQ (k:aT) (sp a n way:Int):aT×ByteArray×(Int×Int)×Int:=if jk k sp n way [0,2]≠0 then (gU,⟨#[]⟩,(0,0),jk k sp n way [0,2]) else if (dh (ak k.aj sp.toNat).bu a n way).1≠0 then (gU,⟨#[]⟩,dh (ak k.aj sp.toNat).bu a n way,0) else ((bk k sp.toNat a n way).2,m7 k sp.toNat a n way,(0,0),0)
theorem ac7 (V:World):dE iL 1 0 (V.alloc (.cells #[I 0,I 2] 3)) (some (Ad V.heap.size 0)) [0,2]:=λ_=>by
 have h:=bG V #[I 0,I 2] 3;refine⟨V.heap.size,0,rfl,aM h,λi hi j hj=>?_⟩;obtain rfl:j=0:=by omega
 have hi:i<2:=hi;rcases(ω:i=0\/i=1) with rfl | rfl
 . exact aA h 0 rfl
 exact aA h 1 rfl
theorem aap (FE:si) (k:aT) (a:gN) (sp ad n way:Int) (w:World) (hK:iB w a k) (hF:kN k) (hsp:cR sp) (had:cR ad) :
  Calls prog 262 #[.agg (bj a k),I sp,I ad,I n,I way] w (dY w (qQ k sp ad n way).1 [.string (qQ k sp ad n way).2.1,.agg #[I (qQ k sp ad n way).2.2.1.1,I (qQ k sp ad n way).2.2.1.2],I (qQ k sp ad n way).2.2.2]):=by
 obtain⟨WA,lQ⟩:=ex (((w.alloc (.cells (bj a k) 30)).alloc (.cells #[Nl,Nl,Nl,Nl,I 0] 30)).alloc (.cells #[I 0,I 0] 75));have N:Below w.heap.size w WA:=by rw[lQ];exact(((aN _ _).alloc (aJ _) _).alloc ξ _).alloc (by simp;omega) _
 have kb:WA.heap[w.heap.size]?=some (.cells (bj a k) 30 (0,0)):=by grind [bB,bG]
 have rb:WA.heap[w.heap.size+1]?=some (.cells #[Nl,Nl,Nl,Nl,I 0] 30 (0,0)):=by
  grind [bB,bG,World.size_alloc]
 have fb:WA.heap[w.heap.size+1+1]?=some (.cells #[I 0,I 0] 75 (0,0)):=by
  grind [bG,World.size_alloc]
 have T:WA.heap.size=w.heap.size+3:=by simp_all
 obtain⟨WB,J⟩:=ex (WA.alloc (.cells #[I 0,I 2] 3));have h:Below w.heap.size w WB:=by grind [Below.alloc]
 have q:dE iL 1 0 WB (some (Ad WA.heap.size 0)) [0,2]:=by grind [ac7]
 have R:WB.heap.size=w.heap.size+4:=by simp_all
 have RB:Hid (∀V,Below WB.heap.size WB V->V.heap[w.heap.size+1]?=some (.cells #[Nl,Nl,Nl,Nl,I 0] 30 (0,0))):=λV hb=>aO (by grind [bB]) hb ω
 have FB:Hid (∀V,Below WB.heap.size WB V->V.heap[w.heap.size+1+1]?=some (.cells #[I 0,I 0] 75 (0,0))):=λV hb=>aO (by grind [bB]) hb ω
 have k0:WA.cell? (Ad w.heap.size 0)=some (.slice a.aS k.aD.length a.cS):=aA kb 0 rfl;have k1:WA.cell? (Ad w.heap.size 1)=some (.slice a.aF k.frames.length a.cF):=aA kb 1 rfl;have k2:WA.cell? (Ad w.heap.size 2)=some (.slice a.aL k.slots.length a.cL):=aA kb 2 rfl;have k3:WA.cell? (Ad w.heap.size 3)=some (.slice a.aP k.aj.length a.cP):=aA kb 3 rfl;have k4:WA.cell? (Ad w.heap.size 4)=some (I k.hand):=aA kb 4 rfl;have ot:=ai lQ;have X:=ai J;have dz:=ai h;by_cases c:jk k sp n way [0,2]=0
 . obtain⟨O,hn,a7⟩:=Li c;obtain⟨hR,QF,hj,QJ⟩:=sH O;obtain⟨j,ag⟩:∃j:Nat,sp=(j:Int):=⟨sp.toNat,ω⟩;subst ag;rw[kq] at hj QJ;have zu:=ai (IE FE k a (j:Int) n way [0,2] (some (Ad WA.heap.size 0)) 2 WB (hK.below h) hF hsp q ξ c);rw[show([0,2]:List Int).length=2 from rfl] at zu;have Vb:w.heap.size+1≠w.heap.size+1+1:=by omega
   have af:=ai (ω:w.heap.size+1+1<WB.heap.size);by_cases hf:(dh (ak k.aj j).bu ad n way).1=0
   . obtain⟨a9,al,aa,B⟩:=yq hn.1 hn.2 hf;have vW:eZ k j (ad/16):=by
      have:=B 0 ω ω;rw[Kk] at this;exact this
     have K:eZ k j (dH ad n):=by
      have:=B (n-1) ω ω;unfold dH;rw[show ad+n-1=ad+(n-1) by omega];exact this
     have RH:=qd hR hj ad n way vW K;have a8:=RH.kept.aD;have ac:=hR.c;have a6:0<(bk k j ad n way).2.frames.length:=by rw[RH.kept.nf];omega
     have QK:(bk k j ad n way).1.length<=2:=by
      rw[(Cg k j ad n way).2.2];unfold oH
      grind
     have Pb:∀m,m<(bk k j ad n way).1.length->(bk k j ad n way).1.getD m 0<(bk k j ad n way).2.frames.length:=λm hm=>by
      rw[RH.kept.nf];by_cases z:dH ad n=ad/16
      . have e:(bk k j ad n way).1=[(fD k j ad way).1]:=by unfold bk;rw[aQ z]
        rw[e] at hm ⊢;have hm:m<1:=hm;obtain rfl:m=0:=by omega
        exact RH.one.2
      have e:(bk k j ad n way).1=[(fD k j ad way).1,(kO k j ad n way).1]:=by unfold bk;rw[aH z]
      rw[e] at hm ⊢;have hm:m<2:=hm;rcases(ω:m=0\/m=1) with rfl | rfl
      . exact RH.one.2
      exact(RH.two z).2
     have ZM:∀m,m<(bk k j ad n way).1.length->(aK (bk k j ad n way).2.frames ((bk k j ad n way).1.getD m 0)).data.size<=1000:=λm hm=>by
      have hi:=Pb m hm;by_cases z:(aK (bk k j ad n way).2.frames ((bk k j ad n way).1.getD m 0)).refs=0
      . have:=(RH.right.Bt _ hi).zero ((RH.right.Bt _ hi).nil z);rw[this];show(0:Nat)<=1000;omega
      have:=(RH.right.Bt _ hi).size ((RH.right.Bt _ hi).ne z);omega
     have Q:EF (fq k j) ad n:=⟨qg hR hj vW,qg hR hj K⟩;have Z:=Cm Q hn.1 hn.2;have ah:=zW Q hn.1 hn.2;have NT:=yt hR hj ad n way vW K;have L:Hid (∀V,Calls prog 171 #[.string (iV (bk k j ad n way).2.frames (bk k j ad n way).1 (bk k j ad n way).1.length),I (((ad%16).toNat:Nat):Int),I n] V λe w'=>e=.returned (.tuple #[.string (m7 k j ad n way),I 0])/\Below V.heap.size V w'):=λV=>by
      have:=GZ (iV (bk k j ad n way).2.frames (bk k j ad n way).1 (bk k j ad n way).1.length) (ad%16).toNat n.toNat V (by rw[NT];omega) (by rw[NT];omega);rw[show((n.toNat:Nat):Int)=n by omega] at this;exact this
     have am:ad.tmod 16=(((ad%16).toNat:Nat):Int):=by
      rw[aeX ω];omega
     have hA:qQ k (j:Int) ad n way=((bk k j ad n way).2,m7 k j ad n way,(0,0),0):=by
      unfold qQ;rw[aH (λx=>x c),kq,aH (λx=>x hf)]
     rw[hA];have yZ:Hid (∀V S mb hs,cD k.aD hs->bO WB.heap.size mb 158 (jq k) V S (aV k hs)->Below w.heap.size w V->V.heap[w.heap.size+1]?=some (.cells #[Nl,Nl,Nl,Nl,I 0] 30 (0,0))->V.heap[w.heap.size+1+1]?=some (.cells #[I 0,I 0] 75 (0,0))->Calls prog 272 #[.pointer (some (Ad mb 0)),I (j:Int),I ad,I n,I way] V λe w'=>∃av nv cv aS nS cS aF nF cF aL nL cL aP nP cP hd,e=.returned (.tuple #[.slice av nv cv,.agg #[I 0,I 0]])/\w'.cell? (Ad mb 0)=some (.slice aS nS cS)/\w'.cell? (Ad mb 1)=some (.slice aF nF cF)/\w'.cell? (Ad mb 2)=some (.slice aL nL cL)/\w'.cell? (Ad mb 3)=some (.slice aP nP cP)/\w'.cell? (Ad mb 4)=some (I hd)/\mb<w'.heap.size/\(∀V',Below w'.heap.size w' V'->Calls prog 273 #[.pointer (some (Ad mb 0)),.slice av nv cv] V' λe w''=>e=.returned (.string (iV (bk k j ad n way).2.frames (bk k j ad n way).1 (bk k j ad n way).1.length))/\w''=V')/\w'.heap[w.heap.size+1]?=some (.cells #[Nl,Nl,Nl,Nl,I 0] 30 (0,0))/\w'.heap[w.heap.size+1+1]?=some (.cells #[I 0,I 0] 75 (0,0))/\Below w.heap.size w w'/\(∀U,aI (λb=>b=w.heap.size+1\/b=w.heap.size+1+1) w' U->dY w (bk k j ad n way).2 [.string (m7 k j ad n way),.agg #[I 0,I 0],I 0] (.returned (.tuple #[.agg #[.slice aS nS cS,.slice aF nF cF,.slice aL nL cL,.slice aP nP cP,I hd],.string (m7 k j ad n way),.agg #[I 0,I 0],I 0])) U)):=λV S mb hs hsame hV hbV hrV hfV=>by
      have an:=hR.Al hsame;refine(IH (aV k hs) S V j ad n way hV an hj had hn hf (N9 hR.m9 hsame)).mono λe w' ⟨av,cv,S',e1,Ao,hk',hc'⟩=>?_
      rw[tE hR hj vW hsame] at hk' e1 Ao;have O9:∀b,b<WB.heap.size->S.lab b=.no:=λb hb=>BC.1 λx=>by have:=(hV.vD b x).1;omega
      have QN:=af.o;obtain⟨aS,cS,eS,_⟩:=bh hk'.aD;obtain⟨aF,cF,eF,_⟩:=bh hk'.frames;obtain⟨aL,cL,eL,_⟩:=bh hk'.slots;obtain⟨aP,cP,eP,_⟩:=bh hk'.aj;have c0:=hk'.c0;have c1:=hk'.c1;have c2:=hk'.c2;have c3:=hk'.c3;rw[eS] at c0;rw[eF] at c1;rw[eL] at c2;rw[eP] at c3;have W:Below w.heap.size w w':=aI.below hbV hc'.kp hbV.size (λb hb=>by have:=(hV.vD b hb).1;omega);refine⟨av,_,cv,aS,_,cS,aF,_,cF,aL,_,cL,aP,_,cP,_,e1,c0,c1,c2,c3,hk'.c4,hk'.lt,λV' hb'=>?_,hc'.keep hrV (O9 _ ω),hc'.keep hfV (O9 _ QN),W,λU hU=>⟨S',hs,by rw[a8];omega,by rw[eS,eF,eL,eP];rfl,?_,?_⟩⟩
      . exact Oc (aV (bk k j ad n way).2 hs) S' V' (bk k j ad n way).1 av cv (hk'.below hb') (Ao.ch (cU.below hb')) (λm hm=>Pb m hm) QK (λm hm=>ZM m hm) a6
      . exact(hk'.toKr.kp hU (λb hb e=>hb (hc'.no b (by have:=aM hfV;omega) (O9 b ω)))).mono ω
      exact aI.below W hU W.size (λb e=>ω)
     obtain⟨P,hP⟩:=ex (dY w (bk k j ad n way).2 [.string (m7 k j ad n way),.agg #[I 0,I 0],I 0]);rw[<- hP] at yZ;obtain⟨LD,a0⟩:=ex (m7 k j ad n way);rw[<- a0] at yZ L;obtain⟨JD,a3⟩:=ex (iV (bk k j ad n way).2.frames (bk k j ad n way).1 (bk k j ad n way).1.length);rw[<- a3] at yZ L;obtain⟨md,a1⟩:=ex ((ad%16).toNat);rw[<- a1] at L am;show Calls _ _ _ _ (dY w (bk k j ad n way).2 [.string (m7 k j ad n way),.agg #[I 0,I 0],I 0]);rw[<- hP];have Sp:Hid (Calls prog 271 #[.agg (bj a k),I (j:Int),I n,I way,.slice (some (Ad WA.heap.size 0)) 2 2] WB λe w'=>∃mb S hs,e=.returned (.tuple #[.pointer (some (Ad mb 0)),I 0])/\cD k.aD hs/\bO WB.heap.size mb 158 (jq k) w' S (aV k hs)/\Below WB.heap.size WB w'):=zu.o;unfold bj at Sp ot ⊢;clear hK hF hsp had hA c hP lQ J N h kb rb fb q T R zu hf a9 al aa B vW K a8 hR O hn a7 hj QJ QF RH ac a6 QK Pb ZM Q Z ah NT a0 a3 a1;go_enter func262,ntmps262;go_upto_region 1 with fail;rw[<- ot.o];go_upto_region 7 with(first
      | (go_at_call 271;rw[<- X.o];refine Sp.o.mono ?_;rintro e w1 ⟨mb,S1,ae,rfl,y,A,h⟩;have iI:=ai (dz.o.trans (h.mono dz.o.size));have R1:=ai (RB.o _ h);have F1:=ai (FB.o _ h);have Dg:=ai A;have ZE:=ai y;clear h A y)
      | (go_at_call 272;refine(yZ.o _ _ _ _ ZE.o Dg.o iI.o R1.o F1.o).mono ?_;rintro e w2 ⟨av,nv,cv,aS,nS,cS,aF,nF,cF,aL,nL,cL,aP,nP,cP,hd,rfl,m0,m1,m2,m3,m4,NQ,a5,a2,a4,r,M⟩;have ab:=ai a5;clear a5;have R2:=ai a2;have F2:=ai a4;have Dh:=ai M;have X2:=ai (bG w2 #[I 0,I 0] 75);obtain⟨x0,x1⟩:=s8 X2.o;clear a2 a4 r M))
     have R3:=ai (bB R2.o (.cells #[I 0,I 0] 75));have F3:=ai (bB F2.o (.cells #[I 0,I 0] 75));have HA:=ai ((aN w2.heap.size w2).alloc (aJ _) (.cells #[I 0,I 0] 75));have p0:=(HA.o.cell (p:=(Ad mb 0)) NQ).trans m0;have p1:=(HA.o.cell (p:=(Ad mb 1)) NQ).trans m1;have p2:=(HA.o.cell (p:=(Ad mb 2)) NQ).trans m2;have p3:=(HA.o.cell (p:=(Ad mb 3)) NQ).trans m3;have p4:=(HA.o.cell (p:=(Ad mb 4)) NQ).trans m4;obtain⟨W3,G⟩:=ex (w2.alloc (.cells #[I 0,I 0] 75));rw[<- G] at R3 F3 HA p0 p1 p2 p3 p4 ⊢;clear G m0 m1 m2 m3 m4 x0 x1;obtain⟨y0,y1,y2,y3,y4⟩:=kj R3.o;obtain⟨z0,z1⟩:=s8 F3.o;have f0:=br R3.o 0;have f1:=br R3.o 1;have f2:=br R3.o 2;have f3:=br R3.o 3;have f4:=br R3.o 4;have g0:=br F3.o 0;have g1:=br F3.o 1;have h7:=ai (λV=>En R3.o F3.o Vb (.slice aS nS cS) (.slice aF nF cF) (.slice aL nL cL) (.slice aP nP cP) (I hd) (I 0) (I 0) (V:=V));go_wp2_with (first
      | (go_at_call 273;refine(ab.o _ HA.o).mono ?_;rintro e w4 ⟨rfl,rfl⟩)
      | (go_at_call 171;refine(L.o _).mono ?_;rintro e w5 ⟨rfl,Hp⟩;have J0:=ai Hp;have R5:=ai (aO R3.o Hp (aM R3.o));have F5:=ai (aO F3.o Hp (aM F3.o));have F:mb<w4.heap.size:=gm NQ HA.o.size;have p0:=(Hp.cell (p:=(Ad mb 0)) F).trans p0;have p1:=(Hp.cell (p:=(Ad mb 1)) F).trans p1;have p2:=(Hp.cell (p:=(Ad mb 2)) F).trans p2;have p3:=(Hp.cell (p:=(Ad mb 3)) F).trans p3;have p4:=(Hp.cell (p:=(Ad mb 4)) F).trans p4;obtain⟨y0,y1,y2,y3,y4⟩:=kj R5.o;obtain⟨z0,z1⟩:=s8 F5.o;have f0:=br R5.o 0;have f1:=br R5.o 1;have f2:=br R5.o 2;have f3:=br R5.o 3;have f4:=br R5.o 4;have g0:=br F5.o 0;have g1:=br F5.o 1;clear Hp))
     have h7:=ai (λV=>En R5.o F5.o Vb (.slice aS nS cS) (.slice aF nF cF) (.slice aL nL cL) (.slice aP nP cP) (I hd) (I 0) (I 0) (V:=V));obtain⟨q1,q2,q3⟩:=h7.out _ rfl;obtain⟨y0,y1,y2,y3,y4⟩:=kj q1;obtain⟨z0,z1⟩:=s8 q2;refine bW (v:=.tuple #[.agg #[.slice aS nS cS,.slice aF nF cF,.slice aL nL cL,.slice aP nP cP,I hd],.string LD,.agg #[I 0,I 0],I 0]) (by simp[results,results262,go_sem,y0,y1,y2,y3,y4,z0,z1]) rfl ?_;exact Dh.o _ (((aI.cA HA.o).trans (aI.cA J0.o) (λ_ _ g=>g)).trans q3 (λ_ _ g=>g))
   have hA:qQ k (j:Int) ad n way=(gU,⟨#[]⟩,dh (ak k.aj j).bu ad n way,0):=by
    unfold qQ
    grind
   rw[hA];obtain⟨FA,Y⟩:=ex (dh (ak k.aj j).bu ad n way);have yZ:Hid (∀V S mb hs,cD k.aD hs->bO WB.heap.size mb 158 (jq k) V S (aV k hs)->Calls prog 272 #[.pointer (some (Ad mb 0)),I (j:Int),I ad,I n,I way] V λe w'=>e=.returned (.tuple #[Nl,.agg #[I FA.1,I FA.2]])/\Below V.heap.size V w'):=λV S mb hs hsame hV=>by
    rw[Y];exact Gb (aV k hs) S V j ad n way hV (hR.Al hsame) hj had hn hf
   rw[<- Y] at hf ⊢;have Zu:(FA.1 != 0)=true:=by grind
   have Sp:Hid (Calls prog 271 #[.agg (bj a k),I (j:Int),I n,I way,.slice (some (Ad WA.heap.size 0)) 2 2] WB λe w'=>∃mb S hs,e=.returned (.tuple #[.pointer (some (Ad mb 0)),I 0])/\cD k.aD hs/\bO WB.heap.size mb 158 (jq k) w' S (aV k hs)/\Below WB.heap.size WB w'):=zu.o;obtain⟨f0,f1⟩:=FA;simp only at yZ Zu ⊢;have eW:Hid (∀V,Below w.heap.size w V->dY w gU [.string ⟨#[]⟩,.agg #[I f0,I f1],I 0] (.returned (.tuple #[.agg #[Nl,Nl,Nl,Nl,I 0],.string ⟨#[]⟩,.agg #[I f0,I f1],I 0])) V):=λV hV=>vM _ hV
   obtain⟨P,hP⟩:=ex (dY w gU [.string ⟨#[]⟩,.agg #[I f0,I f1],I 0]);rw[<- hP] at eW ⊢;unfold bj at Sp ot ⊢;clear hK hF hsp had hA c hP lQ J N h kb rb fb q T R zu hf hR O hn a7 hj QJ QF Y;go_enter func262,ntmps262;go_upto_region 1 with fail;rw[<- ot.o];go_upto_region 6 with(first
    | (go_at_call 271;rw[<- X.o];refine Sp.o.mono ?_;rintro e w1 ⟨mb,S1,ae,rfl,y,A,h⟩;have iI:=ai (dz.o.trans (h.mono dz.o.size));have R1:=ai (RB.o _ h);have F1:=ai (FB.o _ h);have Dg:=ai A;have ZE:=ai y;clear h A y)
    | (go_at_call 272;refine(yZ.o _ _ _ _ ZE.o Dg.o).mono ?_;rintro e w2 ⟨rfl,r⟩;have R2:=ai (aO R1.o r (aM R1.o));have F2:=ai (aO F1.o r (aM F1.o));have kE:=ai (iI.o.trans (r.mono iI.o.size));have X2:=ai (bG w2 #[I f0,I f1] 75);obtain⟨x0,x1⟩:=s8 X2.o;clear r))
   have R3:=ai (bB R2.o (.cells #[I f0,I f1] 75));have F3:=ai (bB F2.o (.cells #[I f0,I f1] 75));have vX:=ai (kE.o.alloc kE.o.size (.cells #[I f0,I f1] 75));have ao:=aM F2.o;obtain⟨W3,G⟩:=ex (w2.alloc (.cells #[I f0,I f1] 75));rw[<- G] at R3 F3 vX x0 x1 ⊢;clear G;obtain⟨y0,y1,y2,y3,y4⟩:=kj R3.o;obtain⟨z0,z1⟩:=s8 F3.o;have e0:=br R3.o 0;have e1:=br R3.o 1;have e2:=br R3.o 2;have e3:=br R3.o 3;have e4:=br R3.o 4;have g0:=br F3.o 0;have g1:=br F3.o 1;have h7:=ai (λV=>En R3.o F3.o Vb Nl Nl Nl Nl (I 0) (I f0) (I f1) (V:=V));go_region;go_wp2;obtain⟨q1,q2,q3⟩:=h7.out _ rfl;obtain⟨y0,y1,y2,y3,y4⟩:=kj q1;obtain⟨z0,z1⟩:=s8 q2;refine bW (v:=.tuple #[.agg #[Nl,Nl,Nl,Nl,I 0],.string ⟨#[]⟩,.agg #[I f0,I f1],I 0]) (by simp[results,results262,go_sem,y0,y1,y2,y3,y4,z0,z1]) rfl ?_;exact eW.o _ (aI.below vX.o (q3.trans (aI.drew _ _) (λ_ _ g=>g)) vX.o.size (λb e=>ω))
 have hA:qQ k sp ad n way=(gU,⟨#[]⟩,(0,0),jk k sp n way [0,2]):=by unfold qQ;grind
 rw[hA];have zu:=ai (Ga k a sp n way [0,2] (some (Ad WA.heap.size 0)) 2 WB (hK.below h) hF hsp q ξ c);rw[show([0,2]:List Int).length=2 from rfl] at zu;obtain⟨C,hC⟩:=ex (jk k sp n way [0,2]);rw[<- hC] at zu c ⊢;have cb:(C != 0)=true:=by grind
 have eW:Hid (∀V,Below w.heap.size w V->dY w gU [.string ⟨#[]⟩,.agg #[I 0,I 0],I C] (.returned (.tuple #[.agg #[Nl,Nl,Nl,Nl,I 0],.string ⟨#[]⟩,.agg #[I 0,I 0],I C])) V):=λV hV=>vM _ hV
 obtain⟨P,hP⟩:=ex (dY w gU [.string ⟨#[]⟩,.agg #[I 0,I 0],I C]);rw[<- hP] at eW ⊢;unfold bj at zu ot ⊢;clear hK hF hsp had hA hC c hP lQ J N h kb rb fb q T R;go_enter func262,ntmps262;go_upto_region 1 with fail;rw[<- ot.o];go_upto_region 3 with(go_at_call 271;rw[<- X.o];refine zu.o.mono ?_;rintro e w1 ⟨rfl,h⟩;have iI:=ai (dz.o.trans (h.mono dz.o.size));have R1:=ai (RB.o _ h);have F1:=ai (FB.o _ h);clear h);obtain⟨y0,y1,y2,y3,y4⟩:=kj R1.o;obtain⟨z0,z1⟩:=s8 F1.o;have f0:=br R1.o 0;have f1:=br R1.o 1;have f2:=br R1.o 2;have f3:=br R1.o 3;have f4:=br R1.o 4;have g0:=br F1.o 0;have g1:=br F1.o 1;have h7:=ai (λV=>En R1.o F1.o ω Nl Nl Nl Nl (I 0) (I 0) (I 0) (V:=V));go_wp2;obtain⟨q1,q2,q3⟩:=h7.out _ rfl;obtain⟨y0,y1,y2,y3,y4⟩:=kj q1;obtain⟨z0,z1⟩:=s8 q2;refine bW (v:=.tuple #[.agg #[Nl,Nl,Nl,Nl,I 0],.string ⟨#[]⟩,.agg #[I 0,I 0],I C]) (by simp[results,results262,go_sem,y0,y1,y2,y3,y4,z0,z1]) rfl ?_;exact eW.o _ (aI.below iI.o q3 iI.o.size (λb e=>ω))
end Go.Proofs.YtlgoihmkgaaemaaGreat
