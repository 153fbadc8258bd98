import Derived.Test.YtlgoihmkgaaemaaGreatGP06
set_option maxHeartbeats 20000000
set_option linter.unusedVariables false
set_option maxRecDepth 100000
set_option linter.unusedSimpArgs false
namespace Go.Proofs.YtlgoihmkgaaemaaGreat
open Go.RowKit Tryz
def uX (nf ns:Nat) (ar:List aU) (es:List bK) (i:Nat):Bool:=((bc ar (aW es i).page).2&&(i==0 || decide ((aW es (i-1)).page<(aW es i).page)))&&(if (aW es i).kind=1 then decide (0<=(aW es i).loc/\(aW es i).loc<=(nf:Int)-1) else if (aW es i).kind=2 then decide (0<=(aW es i).loc/\(aW es i).loc<=(ns:Int)-1) else false)
def qj (nf ns:Nat) (ar:List aU) (es:List bK):Nat->Bool
 | 0=>true
 | k+1=>qj nf ns ar es k&&uX nf ns ar es k
def ua (hs:List bD) (ar:List aU) (p:Int):Bool:=!((bc ar p).2&&(!(bc ar p).1.zero&&!(dB hs p).isSome))
def oo (hs:List bD) (ar:List aU):Nat->Bool
 | 0=>true
 | k+1=>oo hs ar k&&ua hs ar ((k:Int)+1)
def nj (hs:List bD) (nf ns:Nat) (s:cZ):Bool:=if s.live then decide (bf s.bu=0)&&(qj nf ns s.bu s.bl s.bl.length&&oo hs s.bu 255) else decide (s.bu.length=0)&&decide (s.bl.length=0)
structure uJ where
 n:Int
 page:Int
 fine:Bool
 FO:aU
def XV:uJ:=⟨0,0,true,vB⟩
def qV (a:uJ) (p:Int) (r:aU):uJ:=⟨a.n+1,p,a.fine&&(decide (a.n=0) || (decide (p=a.page)&&r.zero==a.FO.zero)),r⟩
def Gu (ar:List aU) (kd i:Int) (a:uJ) (e:bK):uJ:=if e.kind=kd/\e.loc=i then qV a e.page (bc ar e.page).1 else a
def qW (ar:List aU) (es:List bK) (kd i:Int) (a:uJ):Nat->uJ
 | 0=>a
 | k+1=>Gu ar kd i (qW ar es kd i a k) (aW es k)
def AW (ss:List cZ) (kd i:Int):Nat->uJ
 | 0=>XV
 | k+1=>qW (ak ss k).bu (ak ss k).bl kd i (AW ss kd i k) (ak ss k).bl.length
def gw (ss:List cZ) (kd i:Int):uJ:=AW ss kd i ss.length
def qX (hs:List bD) (f:ko) (a:uJ):Bool:=decide (f.refs=a.n)&&(!(decide (a.n=0)&&!nk f)&&!(decide (0<a.n)&&(!a.fine || (decide (f.data.size≠16) || (!f.ja&&decide (f.data≠fM hs a.page a.FO.zero))))))
def uw (f:mJ) (a:uJ):Bool:=decide (f.refs=a.n)&&(!(decide (a.n=0)&&!oa f)&&!(decide (0<a.n)&&(!a.fine || decide (f.data.size≠16))))
def rO (k:aT):Nat->Bool
 | 0=>true
 | n+1=>rO k n&&nj k.aD k.frames.length k.slots.length (ak k.aj n)
def uV (k:aT):Nat->Bool
 | 0=>true
 | n+1=>uV k n&&qX k.aD (aK k.frames n) (gw k.aj 1 n)
def uT (k:aT):Nat->Bool
 | 0=>true
 | n+1=>uT k n&&uw (bI k.slots n) (gw k.aj 2 n)
def sD (k:aT):Bool:=dR k.aD&&(decide (0<=k.hand/\k.hand<=(k.frames.length:Int)-1)&&(rO k k.aj.length&&(decide (dJ k.aj<=(k.slots.length:Int))&&(uV k k.frames.length&&uT k k.slots.length))))
theorem xP {f:Nat->Bool} {g:Nat->Bool} (h0:g 0=true) (hs:∀k,g (k+1)=(g k&&f k)):∀n,g n=true↔∀i,i<n->f i=true
 | 0=>⟨λ_ i hi=>ω,λ_=>h0⟩
 | n+1=>by
  rw[hs,cV,xP h0 hs n]
  grind
variable {ar:List aU} {hs:List bD} {us:List fC} {j:Nat} {p:Int} {l:List aU} (k:aT) (es:List bK) (e:bK)
theorem Yd {nf ns:Nat} {es:List bK}:qj nf ns ar es es.length=true↔(∀e∈es,tK nf ns ar e)/\ky es:=by
 rw[xP (f:=uX nf ns ar es) rfl (λ_=>rfl),<- Gs];have b:∀i,i<es.length->(uX nf ns ar es i=true↔tK nf ns ar (aW es i)/\qh es i<(aW es i).page):=λi hi=>by
  unfold uX tK qh;rw[cV,cV,D3,Hg,iP];constructor
  . rintro⟨⟨h1,h2⟩,h3⟩;refine⟨⟨h1,?_⟩,?_⟩
    . grind
    by_cases c:i=0
    . rw[aQ c];have:=nA h1;omega
    omega
  grind
 grind
theorem RO:oo hs ar 255=true↔∀p,(bc ar p).2=true->(bc ar p).1.zero=false->(dB hs p).isSome=true:=by
 rw[xP (f:=λk=>ua hs ar ((k:Int)+1)) rfl (λ_=>rfl)];constructor
 . intro h p hp hz;have hb:=nA hp;have:=h (p-1).toNat ω
   grind [ua]
 grind [ua]
theorem JP {nf ns:Nat} {s:cZ}:nj hs nf ns s=true↔sQ hs nf ns s:=by
 unfold nj;by_cases c:s.live=true
 . rw[aQ c,cV,cV,iP,Yd,RO];exact⟨λh=>⟨λd=>Γ,h.1,h.2.1.2,h.2.1.1,h.2.2⟩,λh=>⟨h.bu,⟨h.MQ,h.m9⟩,h.aD⟩⟩
 rw[aH c,cV,iP,iP];constructor
 . rintro⟨h1,h2⟩;have ha:=mR h1;have he:=mR h2;refine⟨λ_=>⟨ha,he⟩,by rw[ha];rfl,by simp_all,λe g=>Γ,λp hp=>?_⟩;rw[ha] at hp;cases hp
 grind [sQ.dead]
structure xR (L:List (Int×Bool)) (a:uJ):Prop where
 n:a.n=L.length
 fine:a.fine=true↔∀x∈L,∀y∈L,x=y
 last:L≠[]->(a.page,a.FO.zero)∈L
theorem adv {L:List (Int×Bool)} {a:uJ} (h:xR L a) (p:Int) (r:aU):xR (L++[(p,r.zero)]) (qV a p r):=by
 refine⟨by show a.n+1=_;grind [xR.n],?_,λ_=>mj.2 (.inr (by simp[qV]))⟩;show(a.fine&&(decide (a.n=0) || (decide (p=a.page)&&r.zero==a.FO.zero)))=true↔_;rw[cV,h.fine,D3,cV,iP,iP,Hg];constructor
 . rintro⟨h1,h2⟩ x hx y hy;have q:∀z∈L,z=(p,r.zero):=λz hz=>by
    have b:L≠[]:=List.ne_nil_of_mem hz;have h2:=h2.resolve_left (λe=>b (mR (by grind [xR.n])));rw[h1 z hz _ (h.last b),h2.1,h2.2]
   grind
 intro g;refine⟨λx hx y hy=>g x (mj.2 (.inl hx)) y (mj.2 (.inl hy)),?_⟩;by_cases c:L=[]
 . left;rw[h.n,c];rfl
 right;have:=g _ (mj.2 (.inl (h.last c))) (p,r.zero) (mj.2 (.inr ξ))
 grind
theorem RV {L:List (Int×Bool)} {a:uJ} (h:xR L a) (ar:List aU) (es:List bK) (kd i:Int):∀k,k<=es.length->xR (L++jN ar kd i (es.take k)) (qW ar es kd i a k)
 | 0,_=>by rw[List.take_zero];show xR (L++[]) a;grind
 | k+1,hk=>by
  have ih:=RV h ar es kd i k ω
  grind [zQ,mv,Gu,qW,qU,adv,nM]
theorem VA (ss:List cZ) (kd i:Int):∀k,k<=ss.length->xR (bY (ss.take k) kd i) (AW ss kd i k)
 | 0,_=>⟨rfl,⟨λ_ x hx=>(by cases hx),λ_=>rfl⟩,λe=>absurd rfl e⟩
 | k+1,hk=>by
  have:=RV (VA ss kd i k ω) (ak ss k).bu (ak ss k).bl kd i _ (aJ _);rw[sW] at this;rw[CU ss k ω];exact this
theorem Aj (ss:List cZ) (kd i:Int):xR (bY ss kd i) (gw ss kd i):=by
 have:=VA ss kd i ss.length (aJ _);rw[sW] at this;exact this
theorem RY {L:List (Int×Bool)} {a:uJ} (h:xR L a) (f:ko):qX hs f a=true↔lB hs L f:=by
 unfold qX;rw[cV,cV,iP];by_cases c:L=[]
 . subst c;have hn:a.n=0:=h.n;rw[hn];simp only[decide_true,ju,Bool.not_not,Int.lt_irrefl,decide_false,qK,Km,qJ,AZ];exact⟨λe=>by grind [lB.none],λe=>⟨by rw[e.zero rfl];rfl,e.zero rfl⟩⟩
 have hp:0<L.length:=Qk.2 c;have hn:0<a.n:=by rw[h.n];omega
 rw[eH (ω:¬a.n=0),dW hn];simp only[qK,Km,ju,true_and,Qe,Hj,Bool.not_eq_false',Bool.and_eq_false_iff,Qq,Decidable.not_not];constructor
 . rintro⟨h1,h2,h3,h4⟩;refine⟨h1.trans h.n,λe=>absurd e c,h.fine.1 h2,λ_=>h3,λd x hx=>?_⟩;rw[h.fine.1 h2 x hx _ (h.last c)]
   grind
 intro g;refine⟨g.refs.trans h.n.symm,h.fine.2 g.one,g.size c,?_⟩;cases d:f.ja with
 | true=>grind
 | false=>exact .inr (g.fill d _ (h.last c))
theorem RJ {L:List (Int×Bool)} {a:uJ} (h:xR L a) (f:mJ):uw f a=true↔mN L f:=by
 unfold uw;rw[cV,cV,iP];by_cases c:L=[]
 . subst c;have hn:a.n=0:=h.n;rw[hn];simp only[decide_true,ju,Bool.not_not,Int.lt_irrefl,decide_false,qK,Km,qJ,Cn];exact⟨λe=>by grind [mN.none],λe=>⟨by rw[e.zero rfl];rfl,e.zero rfl⟩⟩
 have hp:0<L.length:=Qk.2 c;have hn:0<a.n:=by rw[h.n];omega
 rw[eH (ω:¬a.n=0),dW hn];simp only[qK,Km,ju,true_and,Qe,Hj,Bool.not_eq_false',Qq,Decidable.not_not];constructor
 . rintro⟨h1,h2,h3⟩;exact⟨h1.trans h.n,λe=>absurd e c,h.fine.1 h2,λ_=>h3⟩
 grind [mN.refs,xR.n,xR.fine,mN.one,mN.size]
theorem Yc (hc:lh k=true):sD k=true↔bg k:=by
 unfold sD;simp only[cV,iP];rw[xP (g:=rO k) (f:=λn=>nj k.aD k.frames.length k.slots.length (ak k.aj n)) rfl (λ_=>rfl),xP (g:=uV k) (f:=λn=>qX k.aD (aK k.frames n) (gw k.aj 1 n)) rfl (λ_=>rfl),xP (g:=uT k) (f:=λn=>uw (bI k.slots n) (gw k.aj 2 n)) rfl (λ_=>rfl)];constructor
 . rintro⟨h1,h2,h3,h4,h5,h6⟩;refine⟨hc,h1,ω,λs hs=>?_,h4,λi hi=>(RY (Aj _ _ _) _).1 (h5 i hi),λi hi=>(RJ (Aj _ _ _) _).1 (h6 i hi)⟩;obtain⟨j,hj,rfl⟩:=jE rP hs;exact JP.1 (h3 j hj)
 intro h;have hh:=h.hand;exact⟨h.m9,ω,λi hi=>JP.2 (h.sp hi),h.room,λi hi=>(RY (Aj _ _ _) _).2 (h.Bt i hi),λi hi=>(RJ (Aj _ _ _) _).2 (h.slt i hi)⟩
def sJ (k:aT):Int:=if lh k=false then 2 else if sD k then 0 else 1
theorem Ub:sJ k=dD k:=by
 grind [sJ,dD,Yc,Oz]
def mY (us:List fC) (n:Nat) (B:Int):Prop:=us.length=n/\∀i,i<n->0<=(dx us i).refs/\(dx us i).refs<=B
theorem mY.mono {n:Nat} {B C:Int} (h:mY us n B) (hc:B<=C):mY us n C:=⟨h.1,λi hi=>⟨(h.2 i hi).1,Int.le_trans (h.2 i hi).2 hc⟩⟩
theorem mY.use {n:Nat} {B:Int} (h:mY us n B) (e:bK) (z:Bool) (hok:px us e z=true):mY (sY us e z) n (B+1):=by
 have hb:=(zP.1 hok).1;obtain⟨h1,h2⟩:=h;refine⟨by grind [sY],λi hi=>?_⟩
 grind [sY,Gl]
theorem T9 {last:Int} {uf:List fC} {e:bK} (h:yz ar last uf us e=true):(bc ar e.page).2=true/\last<e.page/\((e.kind=1/\px uf e (bc ar e.page).1.zero=true)\/(e.kind=2/\px us e (bc ar e.page).1.zero=true)):=by
 grind [yz]
theorem JS (ar:List aU) (es:List bK) (u:List fC×List fC) (nf ns:Nat) (B:Int) (h1:mY u.1 nf B) (h2:mY u.2 ns B):∀k,k<=es.length->kg ar es u k=true->mY (jK ar es u k).1 nf (B+k)/\mY (jK ar es u k).2 ns (B+k)/\(k:Int)<=(if k=0 then 0 else (aW es (k-1)).page)/\(if k=0 then 0 else (aW es (k-1)).page)<256
 | 0,_,_=>⟨h1.mono ω,h2.mono ω,Bx _,ω⟩
 | k+1,hk,hb=>by
  unfold kg at hb;rw[cV] at hb;obtain⟨a1,a2,a3,a4⟩:=JS ar es u nf ns B h1 h2 k ω hb.1;obtain⟨b1,b2,b3⟩:=T9 hb.2;have hm:=nA b1
  grind [qh,ue,jK,mY.use,mY.mono]
theorem I1 (ar:List aU) (es:List bK) (u:List fC×List fC):∀(k n:Nat),k<=n->kg ar es u k=false->kg ar es u n=false
 | k,0,h,e=>by
  grind
 | k,n+1,h,e=>by
  by_cases c:k=n+1
  . grind
  rw[kg,I1 ar es u k n ω e,qK]
theorem aaO (ar:List aU) (es:List bK) (u:List fC×List fC) (k:Nat) (hk:k<es.length) (h:yz ar (qh es k) (jK ar es u k).1 (jK ar es u k).2 (aW es k)=false):kg ar es u es.length=false :=
 I1 ar es u (k+1) es.length hk (by grind [kg])
theorem Vu (n:Nat):mY (List.replicate n dM) n 0:=by
 refine⟨qL,λi hi=>?_⟩;unfold dx;rw[jI,Wo,aQ hi];exact⟨Bx _,Bx _⟩
theorem Vv (hs:List bD) (ss:List cZ) (u:List fC×List fC) (nf ns:Nat) (h1:mY u.1 nf 0) (h2:mY u.2 ns 0):∀k,k<=ss.length->oI hs ss u k=true->mY (kP ss u k).1 nf (255*k)/\mY (kP ss u k).2 ns (255*k)
 | 0,_,_=>⟨h1,h2⟩
 | k+1,hk,hb=>by
  unfold oI at hb;rw[cV,cV] at hb;obtain⟨a1,a2⟩:=Vv hs ss u nf ns h1 h2 k ω hb.1;obtain⟨b1,b2,_,_⟩:=JS (ak ss k).bu (ak ss k).bl (kP ss u k) nf ns (255*k) a1 a2 _ (aJ _) hb.2.2
  grind [kP,mY.mono]
theorem TW {k:aT} (hr:dR k.aD=true) (hb:oI k.aD k.aj (List.replicate k.frames.length dM,List.replicate k.slots.length dM) k.aj.length=true) (i:Nat) (hi:i<k.frames.length) (hn:(dx (AK k).1 i).refs≠0):0<=(dx (AK k).1 i).page/\(dx (AK k).1 i).page<256:=by
 obtain⟨a1,a2⟩:=AQ hr (Oo k.frames.length k.slots.length) k.aj _ (aJ _) hb;have hs:=a1.2.1 i hi;have hs:zl (bY (k.aj.take k.aj.length) 1 i) (dx (AK k).1 i):=hs;rw[sW] at hs;have b:bY k.aj 1 i≠[]:=λe=>hn ((AO hs).2 e)
 obtain⟨x,hx⟩:=Ky _ b;have e:=hs.2 x hx;obtain⟨s,q,en,h,_,_,r⟩:=oK.1 hx;obtain⟨j,hj,rfl⟩:=jE rP q;have hm:=nA ((a2 j hj).MQ en h).1
 grind
theorem LI (hs:List bD) (ss:List cZ) (u:List fC×List fC):∀(k n:Nat),k<=n->oI hs ss u k=false->oI hs ss u n=false
 | k,0,h,e=>by
  grind
 | k,n+1,h,e=>by
  by_cases c:k=n+1
  . grind
  rw[oI,LI hs ss u k n ω e,qK]
def dH (a n:Int):Int:=(a+n-1)/16
def fD (k:aT) (j:Nat) (a way:Int):Nat×aT:=dU k j (a/16) way []
def kO (k:aT) (j:Nat) (a n way:Int):Nat×aT:=dU (fD k j a way).2 j (dH a n) way [((fD k j a way).1:Int)]
def bk (k:aT) (j:Nat) (a n way:Int):List Nat×aT:=if dH a n=a/16 then ([(fD k j a way).1],(fD k j a way).2) else ([(fD k j a way).1,(kO k j a n way).1],(kO k j a n way).2)
structure ady (k:aT) (j:Nat) (a n way:Int):Prop where
 right:bg (bk k j a n way).2
 kept:fT k (bk k j a n way).2
 one:bH (ak (bk k j a n way).2.aj j).bl (a/16)=some ⟨a/16,1,(fD k j a way).1⟩/\(fD k j a way).1<k.frames.length
 two:dH a n≠a/16->bH (ak (bk k j a n way).2.aj j).bl (dH a n)=some ⟨dH a n,1,(kO k j a n way).1⟩/\(kO k j a n way).1<k.frames.length
theorem qd {k:aT} (h:bg k) (hj:j<k.aj.length) (a n way:Int) (h1:eZ k j (a/16)) (h2:eZ k j (dH a n)):ady k j a n way:=by
 have A:=(rQ h hj h1 way (held:=[]) ξ).1;by_cases c:dH a n=a/16
 . have e:bk k j a n way=([(fD k j a way).1],(fD k j a way).2):=by grind [bk]
   exact⟨by rw[e];exact A.right,by rw[e];exact A.kept,by rw[e];exact⟨A.here,A.lt⟩,λx=>absurd c x⟩
 have b:j<(fD k j a way).2.aj.length:=by grind [fD,fY.kept,fT.np]
 have B:=(rQ (k:=(fD k j a way).2) A.right b (A.kept.mapped hj h2) way (held:=[((fD k j a way).1:Int)]) ξ).1;have e:bk k j a n way=([(fD k j a way).1,(kO k j a n way).1],(kO k j a n way).2):=by grind [bk]
 refine⟨by rw[e];exact B.right,by rw[e];exact A.kept.trans B.kept,?_,λ_=>?_⟩
 . rw[e];exact⟨B.stay j b (a/16) _ A.here rfl Γ (λx=>c x.2.symm),A.lt⟩
 rw[e];refine⟨B.here,?_⟩;have hl:=B.lt
 grind [kO,fD,fY.kept,fT.nf]
def wU (k:aT) (j:Nat) (es:List bK) (e:bK):aT:=ek { k with aj:=k.aj.set j (eT (ak k.aj j) es) } e
theorem Yh {k:aT} (h:bg k) (hj:j<k.aj.length) {pre post:List bK} {e:bK} (he:(ak k.aj j).bl=pre++e::post):(wU k j (pre++post) e).frames.length=k.frames.length/\(wU k j (pre++post) e).slots.length=k.slots.length/\(wU k j (pre++post) e).aD=k.aD/\(wU k j (pre++post) e).hand=k.hand/\(wU k j (pre++post) e).aj=k.aj.set j (eT (ak k.aj j) (pre++post)) /\
  (∀n,aK (wU k j (pre++post) e).frames n=if e.kind=1/\e.loc=(n:Int) then tG (aK k.frames n) else aK k.frames n) /\
  (∀n,bI (wU k j (pre++post) e).slots n=if e.kind=2/\e.loc=(n:Int) then wS (bI k.slots n) else bI k.slots n):=by
 have hm:e∈(ak k.aj j).bl:=by grind
 unfold wU ek
 grind [jO,j6,yQ]
theorem Yg {k:aT} (h:bg k) (hj:j<k.aj.length) {pre post:List bK} {e:bK} (he:(ak k.aj j).bl=pre++e::post):bg (wU k j (pre++post) e):=by
 have b:=h.sp hj;obtain⟨f1,f2,f3,f4,f5,f6,f7⟩:=Yh h hj he;have y:(wU k j (pre++post) e).aj.length=k.aj.length:=by grind
 have q:∀x,x∈pre++post->x∈(ak k.aj j).bl:=λx hx=>by
  grind
 have MH:∀kd a:Int,∃X Y,bY k.aj kd a=X++(jN (ak k.aj j).bu kd a [e]++Y)/\bY (k.aj.set j (eT (ak k.aj j) (pre++post))) kd a=X++Y:=λkd a=>by
  obtain⟨u,v,g1,g2⟩:=zT k.aj j (eT (ak k.aj j) (pre++post)) kd a hj;refine⟨u++jN (ak k.aj j).bu kd a pre,jN (ak k.aj j).bu kd a post++v,?_,?_⟩
  . grind [zU,mv,xQ]
  rw[g2,zU];show u++(jN (ak k.aj j).bu kd a (pre++post)++v)=_
  grind [mv]
 refine⟨?_,by rw[f3];exact h.m9,by simp_all [bg.hand],?_,?_,?_,?_⟩
 . have:=h.counts
   grind [lh]
 . rw[f1,f2,f3,f5];intro s hs;rcases aeW hs with g | rfl
   . exact h.each s g
   refine⟨λdd=>?_,b.bu,?_,λx hx=>b.MQ x (q x hx),b.aD⟩
   . have r:=(b.dead dd).2
     simp_all
   have hr:ky (ak k.aj j).bl:=b.m9;rw[he] at hr;exact List.Pairwise.sublist ((List.Sublist.append (List.Sublist.refl pre) (List.sublist_cons_self e post)).map _) hr
 . rw[f2,f5,Cl _ _ (eT (ak k.aj j) (pre++post)) hj rfl];exact h.room
 . intro n hn;rw[f1] at hn;rw[f3,f5,f6];obtain⟨X,Y,h1,h2⟩:=MH 1 n
   grind [qU,nM,bg.Bt,lB.less]
 intro n hn;rw[f2] at hn;rw[f5,f7];obtain⟨X,Y,h1,h2⟩:=MH 2 n
 grind [qU,nM,bg.slt,mN.less]
theorem qi {α:Type} (d:α):∀(l m:List α),l.length=m.length->(∀i,i<l.length->l.getD i d=m.getD i d)->l=m
 | [],[],_,_=>rfl
 | [],b::r,h,_=>by simp at h
 | a::r,[],h,_=>by simp at h
 | a::r,b::t,h,g=>by
  have h0:a=b:=g 0 (Qc _);have h1:=qi d r t Γ (λi hi=>g (i+1) (Qb hi))
  grind
def Hy (f:ko) (d:Int):ko:=if f.refs+d=0 then eG else ⟨f.data,f.refs+d,f.ja,f.seen⟩
def Hx (f:mJ) (d:Int):mJ:=if f.refs+d=0 then gP else ⟨f.data,f.refs+d⟩
def kv (k:aT) (e:bK) (d:Int):aT:=if e.kind=1 then { k with frames:=k.frames.set e.loc.toNat (Hy (aK k.frames e.loc.toNat) d) } else { k with slots:=k.slots.set e.loc.toNat (Hx (bI k.slots e.loc.toNat) d) }
theorem GF:kv k e (-1)=ek k e:=by
 rfl
theorem Fl:(ek k e).aj=k.aj:=by grind [ek]
theorem T7:(ek k e).aD=k.aD/\(ek k e).hand=k.hand:=by grind [ek]
theorem XY:(ek k e).frames.length=k.frames.length/\(ek k e).slots.length=k.slots.length:=by
 grind [ek]
def nZ (k:aT) (j:Nat) (es:List bK):aT:={ k with aj:=k.aj.set j (eT (ak k.aj j) es) }
theorem T6 (j:Nat) (es:List bK) (e:bK):ek (nZ k j es) e=nZ (ek k e) j es:=by grind [ek,nZ]
theorem XQ (j:Nat) (hj:j<k.aj.length) (es fs:List bK):nZ (nZ k j es) j fs=nZ k j fs:=by
 unfold nZ;simp only[rD];rw[kQ _ _ _ _ hj,aQ rfl];rfl
theorem XR (j:Nat) (hj:j<k.aj.length):nZ k j (ak k.aj j).bl=k:=by
 unfold nZ;have:k.aj.set j (eT (ak k.aj j) (ak k.aj j).bl)=k.aj:=qi rP _ _ gX (λi hi=>by
  have:=kQ k.aj j i (eT (ak k.aj j) (ak k.aj j).bl) hj;unfold ak at this ⊢;rw[this];by_cases c:j=i
  . rw[aQ c,c];rfl
  grind)
 rw[this]
theorem adt (j:Nat) (hj:j<k.aj.length) (es:List bK):(ak (nZ k j es).aj j).bl=es:=by
 show(ak (k.aj.set j _) j).bl=es;rw[kQ _ _ _ _ hj,aQ rfl];rfl
def dQ (k:aT) (es:List bK) (p:bK->Bool):Nat->aT
 | 0=>k
 | n+1=>if p (aW es n) then ek (dQ k es p n) (aW es n) else dQ k es p n
def iu (es:List bK) (p:bK->Bool):List bK:=es.filter λe=>!p e
def dn (k:aT) (j:Nat) (p:bK->Bool):aT:=nZ (dQ k (ak k.aj j).bl p (ak k.aj j).bl.length) j (iu (ak k.aj j).bl p)
theorem nB (k:aT) (es:List bK) (p:bK->Bool):∀n,(dQ k es p n).aj=k.aj
 | 0=>rfl
 | n+1=>by
  unfold dQ;split
  . rw[Fl,nB k es p n]
  exact nB k es p n
theorem GA (k:aT) (es:List bK) (p:bK->Bool):∀n,(dQ k es p n).aD=k.aD/\(dQ k es p n).hand=k.hand/\(dQ k es p n).frames.length=k.frames.length/\(dQ k es p n).slots.length=k.slots.length
 | 0=>⟨rfl,rfl,rfl,rfl⟩
 | n+1=>by
  have ih:=GA k es p n
  grind [dQ,T7,XY]
theorem Yf (n:Nat) (h:n<es.length):es.drop n=aW es n::es.drop (n+1):=by
 grind [List.drop_eq_getElem_cons,aW]
theorem Ya (p:bK->Bool) (n:Nat) (h:n<es.length):iu (es.take (n+1)) p=iu (es.take n) p++(if p (aW es n) then [] else [aW es n]):=by
 grind [iu,zQ]
theorem A0 {k:aT} (h:bg k) {j:Nat} (hj:j<k.aj.length) (p:bK->Bool):∀n,n<=(ak k.aj j).bl.length->bg (nZ (dQ k (ak k.aj j).bl p n) j (iu ((ak k.aj j).bl.take n) p++(ak k.aj j).bl.drop n))
 | 0,_=>by
  have:iu ((ak k.aj j).bl.take 0) p++(ak k.aj j).bl.drop 0=(ak k.aj j).bl:=rfl;rw[this];show bg (nZ k j (ak k.aj j).bl)
  grind [XR]
 | n+1,hn=>by
  have ih:=A0 h hj p n ω;have hlt:n<(ak k.aj j).bl.length:=by omega
  have b:j<(dQ k (ak k.aj j).bl p n).aj.length:=by grind [nB]
  rw[Yf _ n hlt] at ih;rw[Ya _ p n hlt];unfold dQ;cases g:p (aW (ak k.aj j).bl n) with
  | true =>
   rw[aQ rfl,aQ rfl,Ko];have q:j<(nZ (dQ k (ak k.aj j).bl p n) j (iu ((ak k.aj j).bl.take n) p++aW (ak k.aj j).bl n::(ak k.aj j).bl.drop (n+1))).aj.length:=by
    show j<List.length (List.set _ _ _)
    grind
   have:=Yg ih q (adt _ j b _);have e:wU (nZ (dQ k (ak k.aj j).bl p n) j (iu ((ak k.aj j).bl.take n) p++aW (ak k.aj j).bl n::(ak k.aj j).bl.drop (n+1))) j (iu ((ak k.aj j).bl.take n) p++(ak k.aj j).bl.drop (n+1)) (aW (ak k.aj j).bl n)=nZ (ek (dQ k (ak k.aj j).bl p n) (aW (ak k.aj j).bl n)) j (iu ((ak k.aj j).bl.take n) p++(ak k.aj j).bl.drop (n+1)):=by
    show ek (nZ (nZ _ j _) j _) _=_
    grind [XQ,T6]
   grind
  | false =>
   grind
theorem zk {k:aT} (h:bg k) (hj:j<k.aj.length) (p:bK->Bool):bg (dn k j p):=by
 have:=A0 h hj p _ (aJ _);rw[sW,List.drop_length,Ko] at this;exact this
theorem iW (j:Nat) (p:bK->Bool):(dn k j p).aj=k.aj.set j (eT (ak k.aj j) (iu (ak k.aj j).bl p)):=by
 show((dQ k (ak k.aj j).bl p _).aj).set j _=_;rw[nB]
theorem pB (j:Nat) (p:bK->Bool):(dn k j p).aD=k.aD/\(dn k j p).hand=k.hand/\(dn k j p).frames.length=k.frames.length/\(dn k j p).slots.length=k.slots.length:=GA k _ p _
theorem JT (k:aT) (i:Nat) (es:List bK):∀n,∃x,(dQ k es (lM (i:Int)) n).frames=k.frames.set i x/\(dQ k es (lM (i:Int)) n).slots=k.slots
 | 0=>⟨aK k.frames i,by
   show k.frames=_;refine(qi eG _ _ gX (λm hm=>?_)).symm;rw[gX] at hm;by_cases c:i=m
   . subst c;rw[fu _ _ _ _ hm];rfl
   grind,rfl⟩
 | n+1=>by
  obtain⟨x,h1,h2⟩:=JT k i es n
  grind [dQ,yT,ek,List.set_set]
def kK (k:aT) (i:Nat):Nat->aT
 | 0=>k
 | n+1=>dn (kK k i n) n (lM (i:Int))
theorem zS {k:aT} (h:bg k) (i:Nat):∀n,n<=k.aj.length->bg (kK k i n)/\(kK k i n).aD=k.aD/\(kK k i n).hand=k.hand/\(∃x,(kK k i n).frames=k.frames.set i x)/\(kK k i n).slots=k.slots/\(kK k i n).aj.length=k.aj.length/\∀m,m<k.aj.length->ak (kK k i n).aj m=if m<n then oJ i (ak k.aj m) else ak k.aj m
 | 0,_=>by
  obtain⟨x,hx,_⟩:=JT k i [] 0;exact⟨h,rfl,rfl,⟨x,hx⟩,rfl,rfl,λm _=>ρ⟩
 | n+1,hn=>by
  obtain⟨r,h1,h2,⟨x,h3⟩,h4,h5,h6⟩:=zS h i n ω;have hj:n<(kK k i n).aj.length:=by omega
  have fr:=pB (kK k i n) n (lM (i:Int));obtain⟨y,c1,c2⟩:=JT (kK k i n) i (ak (kK k i n).aj n).bl (ak (kK k i n).aj n).bl.length;refine⟨zk r hj _,fr.1.trans h1,fr.2.1.trans h2,⟨y,?_⟩,?_,?_,λm hm=>?_⟩
  . show(dQ _ _ _ _).frames=_
    simp_all
  . show(dQ _ _ _ _).slots=_
    grind
  . show(dn _ _ _).aj.length=_
    grind [iW]
  show ak (dn _ _ _).aj m=_;rw[iW,kQ _ _ _ _ hj];by_cases c:n=m
  . subst c;rw[aQ rfl,aQ ω,h6 n hm,aH ω];rfl
  grind
theorem aaL {k:aT} (h:bg k) {i:Nat} (hi:i<k.frames.length):kK k i k.aj.length=A3 k i:=by
 obtain⟨r,h1,h2,⟨x,h3⟩,h4,h5,h6⟩:=zS h i k.aj.length (aJ _);have hs:(kK k i k.aj.length).aj=k.aj.map (oJ i):=by
  refine qi rP _ _ Γ (λm hm=>?_)
  grind [ak]
 have hf:=r.Bt i Γ;have hz:bY (kK k i k.aj.length).aj 1 i=[]:=by
  rw[hs];exact qy _ _ _ _ (λs _=>yu s.bu i s.bl)
 have hx:x=eG:=by
  grind [aK,lB.zero]
 have:∀a b:aT,a.aD=b.aD->a.frames=b.frames->a.slots=b.slots->a.aj=b.aj->a.hand=b.hand->a=b:=λa b e1 e2 e3 e4 e5=>by
  cases a;simp_all
 exact this _ _ h1 (by rw[h3,hx];rfl) h4 hs h2
theorem Vy {k:aT} (h:bg k) {i:Nat} (hi:i<k.frames.length) (hj:j<k.aj.length) {a b:Nat} (ha:a<(ak k.aj j).bl.length) (hb:b<(ak k.aj j).bl.length) (h1:lM (i:Int) (aW (ak k.aj j).bl a)=true) (h2:lM (i:Int) (aW (ak k.aj j).bl b)=true):a=b:=by
 have vW:=j5 hj (kT (d:=gJ) ha);have q:=j5 hj (kT (d:=gJ) hb);have g1:=yT.1 h1;have g2:=yT.1 h2;unfold aW at g1 g2;rw[g1.1,g1.2] at vW;rw[g2.1,g2.2] at q;have e:=(h.Bt i hi).one _ vW _ q;injection e with e _;have hr:=(h.sp hj).m9
 grind [List.pairwise_iff_getElem]
theorem TZ (i s:Int) (es:List bK) (n:Nat) (hn:n<es.length) (h:lM i (aW es n)=true) (ho:∀m,m<es.length->lM i (aW es m)=true->m=n):es.set n ⟨(aW es n).page,2,s⟩=jY i s es:=by
 refine qi gJ _ _ (by grind [jY]) (λm hm=>?_)
 grind [jY,aW]
theorem XL (i s:Int) (es:List bK) (h:∀m,m<es.length->lM i (aW es m)=false):jY i s es=es:=by
 refine qi gJ _ _ (by grind [jY]) (λm hm=>?_)
 grind [jY,aW]
theorem bg.space {k:aT} (h:bg k) (hj:j<k.aj.length) {s:cZ} (hs:sQ k.aD k.frames.length k.slots.length s) (hn:∀kd a,fO s kd a=fO (ak k.aj j) kd a) (hr:dJ (k.aj.set j s)<=k.slots.length):bg { k with aj:=k.aj.set j s }:=by
 have nn:∀kd a,bY (k.aj.set j s) kd a=bY k.aj kd a:=λkd a=>by
  obtain⟨u,v,g1,g2⟩:=zT k.aj j s kd a hj
  grind
 refine⟨?_,h.m9,h.hand,?_,hr,λi hi=>?_,λi hi=>?_⟩
 . have:=h.counts
   grind [lh]
 . grind [each]
 . grind [Bt]
 grind [slt]
theorem LK (l:List cZ):∀(j:Nat) (s:cZ),j<l.length->dJ (l.set j s)=dJ l-bR (ak l j).bu+bR s.bu:=λj s hj=>by
 have:∀n,iU (l.set j s) n=iU l n+if j<n then bR s.bu-bR (ak l j).bu else 0:=λn=>by
  induction n with
  | zero=>rfl
  | succ n ih =>
   grind [iU,kQ]
 grind [dJ]
def DA (old new:List aU):Prop:=∀p,(bc new p).2=true->((bc old p).2=true/\(bc new p).1.zero=(bc old p).1.zero)\/((bc old p).2=false/\(bc new p).1.zero=true)
theorem TX {n q:Int} (h:(jz l p n q).2=0):bf (jz l p n q).1=0/\DA l (jz l p n q).1:=by
 obtain⟨h1,h2⟩:=Mz l p n q h;refine⟨h1,λx hx=>?_⟩;have hb:=nA hx;obtain⟨m,rfl⟩:∃m:Nat,x=(m:Int):=⟨x.toNat,ω⟩
 grind
theorem Ps {n:Int} (h:(gL l p n).2=0):bf (gL l p n).1=0/\DA l (gL l p n).1:=by
 obtain⟨h1,h2⟩:=G1 l p n h;refine⟨h1,λx hx=>?_⟩;have hb:=nA hx;obtain⟨m,rfl⟩:∃m:Nat,x=(m:Int):=⟨x.toNat,ω⟩
 grind
theorem LG {n q:Int} (h:(fV l p n q).2=0):bf (fV l p n q).1=0/\DA l (fV l p n q).1:=by
 obtain⟨h1,h2⟩:=DM l p n q h;refine⟨h1,λx hx=>?_⟩;have hb:=nA hx;obtain⟨m,rfl⟩:∃m:Nat,x=(m:Int):=⟨x.toNat,ω⟩
 grind
def kR (l:List aU) (e:bK):Bool:=!(bc l e.page).2
def lj (k:aT) (j:Nat) (l:List aU):aT:={ dn k j (kR l) with aj:=(dn k j (kR l)).aj.set j ⟨(ak k.aj j).live,l,iu (ak k.aj j).bl (kR l)⟩ }
theorem R8 {k:aT} (h:bg k) (hj:j<k.aj.length) (hl:(ak k.aj j).live=true) (hc:bf l=0) (ht:DA (ak k.aj j).bu l) (hr:dJ k.aj-bR (ak k.aj j).bu+bR l<=k.slots.length):bg (lj k j l):=by
 have hf:=zk h hj (kR l);have F:=iW k j (kR l);have B:=pB k j (kR l);have r:j<(dn k j (kR l)).aj.length:=by grind
 have q:ak (dn k j (kR l)).aj j=eT (ak k.aj j) (iu (ak k.aj j).bl (kR l)):=by grind [kQ]
 have y:=h.sp hj;have b:=hf.sp r;rw[q] at b;have A:∀e∈iu (ak k.aj j).bl (kR l),(bc l e.page).2=true/\e∈(ak k.aj j).bl:=λe he=>by
  grind [iu,kR]
 refine bg.space hf r ⟨λdd=>?_,hc,b.m9,λe he=>⟨(A e he).1,(b.MQ e he).2⟩,λp hp hz=>?_⟩ (λkd a=>?_) ?_
 . grind
 . rcases ht p hp with g | g
   . grind [sQ.aD]
   grind
 . rw[q];unfold fO;refine List.map_congr_left λe he=>?_
   have hm:=A e (List.mem_filter.1 he).1;rcases ht e.page hm.1 with g | g
   . show(e.page,_)=(e.page,_);rw[g.2];rfl
   have:=(y.MQ e hm.2).1
   grind
 rw[LK _ _ _ r,q,F,Cl _ _ (eT (ak k.aj j) (iu (ak k.aj j).bl (kR l))) hj rfl,B.2.2.2];exact hr
def ql (k:aT) (j:Nat):aT:={ dn k j (λ_=>true) with aj:=(dn k j (λ_=>true)).aj.set j rP }
theorem aaN (p:Int):(bc [] p).2=false:=by
 rfl
theorem XO (hs:List bD) (nf ns:Nat):sQ hs nf ns rP:=by
 refine⟨λ_=>⟨rfl,rfl⟩,rfl,List.Pairwise.nil,λe he=>?_,λp hp=>?_⟩
 . cases he
 have hp:(bc [] p).2=true:=hp
 grind [aaN]
theorem Yb:iu es (λ_=>true)=[]:=by simp[iu]
theorem Ua {k:aT} (h:bg k) (hj:j<k.aj.length):bg (ql k j):=by
 have hf:=zk h hj (λ_=>true);have y:=iW k j (λ_=>true);have r:=pB k j (λ_=>true);have q:j<(dn k j (λ_=>true)).aj.length:=by grind
 have b:ak (dn k j (λ_=>true)).aj j=eT (ak k.aj j) []:=by grind [kQ,Yb]
 have ht:0<=bR (ak k.aj j).bu:=by
  have:=yx (h.sp hj);omega
 refine bg.space hf q (XO _ _ _) (λkd a=>?_) ?_
 . rw[b];rfl
 rw[LK _ _ _ q,b,y,Cl _ _ (eT (ak k.aj j) (iu (ak k.aj j).bl (λ_=>true))) hj rfl,r.2.2.2];have:=h.room;show dJ k.aj-bR (ak k.aj j).bu+bR []<=_;have e:bR []=0:=rfl;omega
def fH (k:aT) (es:List bK):Nat->aT
 | 0=>k
 | n+1=>kv (fH k es n) (aW es n) 1
def oD (k:aT) (j:Nat):aT:={ fH k (ak k.aj j).bl (ak k.aj j).bl.length with aj:=(fH k (ak k.aj j).bl (ak k.aj j).bl.length).aj++[ak k.aj j] }
def yS (f:ko) (c:Nat):ko:=⟨f.data,f.refs+c,f.ja,f.seen⟩
def yR (f:mJ) (c:Nat):mJ:=⟨f.data,f.refs+c⟩
theorem IY (f:ko):yS f 0=f:=by simp[yS]
theorem IW (f:mJ):yR f 0=f:=by simp[yR]
theorem wP {k:aT} (h:bg k) {j:Nat} (hj:j<k.aj.length):∀m,m<=(ak k.aj j).bl.length->(fH k (ak k.aj j).bl m).aD=k.aD/\(fH k (ak k.aj j).bl m).hand=k.hand/\(fH k (ak k.aj j).bl m).aj=k.aj/\(fH k (ak k.aj j).bl m).frames.length=k.frames.length/\(fH k (ak k.aj j).bl m).slots.length=k.slots.length /\
  (∀n,n<k.frames.length->aK (fH k (ak k.aj j).bl m).frames n=yS (aK k.frames n) (jN (ak k.aj j).bu 1 n ((ak k.aj j).bl.take m)).length) /\
  (∀n,n<k.slots.length->bI (fH k (ak k.aj j).bl m).slots n=yR (bI k.slots n) (jN (ak k.aj j).bu 2 n ((ak k.aj j).bl.take m)).length)
 | 0,_=>⟨rfl,rfl,rfl,rfl,rfl,λn _=>(IY _).symm,λn _=>(IW _).symm⟩
 | m+1,hm=>by
  obtain⟨h1,h2,h3,h4,h5,h6,h7⟩:=wP h hj m ω;have hlt:m<(ak k.aj j).bl.length:=by omega
  have r:aW (ak k.aj j).bl m∈(ak k.aj j).bl:=kT hlt;rw[zQ _ m hlt];obtain⟨e,he⟩:=ex (aW (ak k.aj j).bl m);obtain⟨q,hq⟩:=ex (fH k (ak k.aj j).bl m);rw[<- he] at r ⊢;have hs:fH k (ak k.aj j).bl (m+1)=kv q e 1:=by rw[hq,he];rfl
  rw[<- hq] at h1 h2 h3 h4 h5 h6 h7;rw[hs];have y:∀(f:ko) (a b:Nat),yS (yS f a) b=yS f (a+b):=λf a b=>by grind [yS]
  have A:∀(f:mJ) (a b:Nat),yR (yR f a) b=yR f (a+b):=λf a b=>by grind [yR]
  rcases jO h hj r with b | b
  . have hc:kv q e 1={ q with frames:=q.frames.set e.loc.toNat (Hy (aK q.frames e.loc.toNat) 1) }:=by grind [kv]
    rw[hc];refine⟨h1,h2,h3,Γ,h5,λn hn=>?_,λn hn=>?_⟩
    . show aK (q.frames.set _ _) n=_;rw[j6 _ _ _ _ ω,mv,gM];by_cases c:e.loc.toNat=n
      . rw[aQ c,qU _ (ω:e.kind=1/\e.loc=(n:Int)),<- y,<- h6 n hn,c];have hr:0<=(aK q.frames n).refs:=by
         rw[h6 n hn];have:=(h.Bt n hn).refs;show 0<=(aK k.frames n).refs+_;omega
        unfold Hy;rw[aH ω];rfl
      rw[aH c,nM _ (show ¬(e.kind=1/\e.loc=(n:Int)) by omega),h6 n hn];rfl
    grind [mv,nM]
  have hc:kv q e 1={ q with slots:=q.slots.set e.loc.toNat (Hx (bI q.slots e.loc.toNat) 1) }:=by grind [kv]
  rw[hc];refine⟨h1,h2,h3,h4,Γ,λn hn=>?_,λn hn=>?_⟩
  . grind [mv,nM]
  show bI (q.slots.set _ _) n=_;rw[yQ _ _ _ _ ω,mv,gM];by_cases c:e.loc.toNat=n
  . rw[aQ c,qU _ (ω:e.kind=2/\e.loc=(n:Int)),<- A,<- h7 n hn,c];have hr:0<=(bI q.slots n).refs:=by
     rw[h7 n hn];have:=(h.slt n hn).refs;show 0<=(bI k.slots n).refs+_;omega
    unfold Hx;rw[aH ω];rfl
  rw[aH c,nM _ (show ¬(e.kind=2/\e.loc=(n:Int)) by omega),h7 n hn];rfl
structure sK (k:aT) (j:Nat) (f:aT):Prop where
 aD:f.aD=k.aD
 hand:f.hand=k.hand
 aj:f.aj=k.aj++[ak k.aj j]
 nf:f.frames.length=k.frames.length
 ns:f.slots.length=k.slots.length
 Bt:∀n,n<k.frames.length->aK f.frames n=yS (aK k.frames n) (fO (ak k.aj j) 1 n).length
 slt:∀n,n<k.slots.length->bI f.slots n=yR (bI k.slots n) (fO (ak k.aj j) 2 n).length
theorem Co {k:aT} (h:bg k) (hj:j<k.aj.length):sK k j (oD k j):=by
 obtain⟨h1,h2,h3,h4,h5,h6,h7⟩:=wP h hj _ (aJ _);rw[sW] at h6 h7;exact⟨h1,h2,by show _++_=_;rw[h3],h4,h5,h6,h7⟩
theorem T8 {k:aT} (h:bg k) (hj:j<k.aj.length) (h4:k.aj.length≠4) (hr:dJ k.aj+bR (ak k.aj j).bu<=k.slots.length):bg (oD k j):=by
 have F:=Co h hj;have hc:=h.c;have nn:∀kd a,bY (oD k j).aj kd a=bY k.aj kd a++fO (ak k.aj j) kd a:=λkd a=>by
  grind [Fk,lu,LP,sK.aj]
 have sub:∀kd a,∀x∈fO (ak k.aj j) kd a,x∈bY k.aj kd a:=λkd a x hx=>by
  grind [uI,oK,Ck]
 have b:∀kd a,∀x∈bY k.aj kd a++fO (ak k.aj j) kd a,x∈bY k.aj kd a:=λkd a x hx=>by
  grind
 have nil:∀kd a,bY k.aj kd a++fO (ak k.aj j) kd a=[]->bY k.aj kd a=[]/\fO (ak k.aj j) kd a=[]:=λkd a e=>Qo.1 e
 have ne:∀kd a,bY k.aj kd a++fO (ak k.aj j) kd a≠[]->bY k.aj kd a≠[]:=λkd a hn e=>hn (by
  rw[e];refine ae0.2 λx hx=>?_
  grind)
 refine⟨?_,by rw[F.aD];exact h.m9,by rw[F.hand,F.nf];exact h.hand,?_,?_,λn hn=>?_,λn hn=>?_⟩
 . grind [lh,sK.nf,sK.ns,sK.aj,sK.aD]
 . grind [sK.aD,sK.nf,sK.ns,sK.aj,bg.each,bg.sp]
 . rw[F.aj,LL,F.ns];exact hr
 . rw[F.nf] at hn;rw[F.aD,nn,F.Bt n hn];have hf:=h.Bt n hn;refine⟨?_,λe=>?_,λx hx y hy=>hf.one x (b 1 n x hx) y (b 1 n y hy),λe=>hf.size (ne 1 n e),λd x hx=>hf.fill d x (b 1 n x hx)⟩
   . show(aK k.frames n).refs+_=_
     grind [lB.refs]
   grind [IY,lB.zero]
 rw[F.ns] at hn;rw[nn,F.slt n hn];have hf:=h.slt n hn;refine⟨?_,λe=>?_,λx hx y hy=>hf.one x (b 2 n x hx) y (b 2 n y hy),λe=>hf.size (ne 2 n e)⟩
 . show(bI k.slots n).refs+_=_
   grind [mN.refs]
 grind [IW,mN.zero]
theorem oq {es:List bK} {e:bK} (h:bH es p=some e):e∈es:=Qr h
theorem aaQ {es:List bK} {e:bK} (h:bH es p=some e):e.page=p:=by
 have:=List.find?_some h
 grind
theorem adu {a b:aT} {m n:Nat} (hE:bH (ak a.aj m).bl p=bH (ak b.aj n).bl p) (hd:∀x,bH (ak a.aj m).bl p=some x->(x.kind=1->(aK a.frames x.loc.toNat).data=(aK b.frames x.loc.toNat).data)/\(x.kind≠1->(bI a.slots x.loc.toNat).data=(bI b.slots x.loc.toNat).data)) (hf:bH (ak a.aj m).bl p=none->fM a.aD p (bc (ak a.aj m).bu p).1.zero=fM b.aD p (bc (ak b.aj n).bu p).1.zero):fq a m p=fq b n p:=by
 grind [fq]
theorem XN (l:List cZ) (s:cZ) (m:Nat):ak (l++[s]) m=if m<l.length then ak l m else if m=l.length then s else rP:=by
 grind [ak]
theorem wW (hj:j<k.aj.length) (l:List aU):(lj k j l).aD=k.aD/\(lj k j l).hand=k.hand/\(lj k j l).frames.length=k.frames.length/\(lj k j l).slots.length=k.slots.length/\(lj k j l).aj.length=k.aj.length/\∀m,m<k.aj.length->ak (lj k j l).aj m=if j=m then ⟨(ak k.aj j).live,l,iu (ak k.aj j).bl (kR l)⟩ else ak k.aj m:=by
 have b:=pB k j (kR l);have h:j<(dn k j (kR l)).aj.length:=by grind [iW]
 refine⟨b.1,b.2.1,b.2.2.1,b.2.2.2,?_,λm hm=>?_⟩
 . show(List.set _ _ _).length=_
   grind [iW]
 show ak (List.set _ _ _) m=_
 grind [kQ,iW]
end Go.Proofs.YtlgoihmkgaaemaaGreat
