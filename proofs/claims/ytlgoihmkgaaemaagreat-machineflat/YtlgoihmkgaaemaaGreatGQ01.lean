import Derived.Test.YtlgoihmkgaaemaaGreatGQ00
import Derived.Test.YtlgoihmkgaaemaaGreatProg
set_option maxHeartbeats 20000000
set_option linter.unusedVariables false
set_option maxRecDepth 100000
set_option linter.unusedSimpArgs false
namespace Go.Proofs.YtlgoihmkgaaemaaGreat
open Go.RowKit Tryz
variable {w w':World} {b:Nat} {o:Obj} {C:Array Value} {t:TypeId} {a0 a1 a2:Value} (l:List aX) (a:aX) (n:Nat) (hs:List bC)
theorem Re (h:bj l=0):wM l=true:=by
 grind [bj]
theorem Gd (l:List aX) (hc:bj l=0):∀k,k<=l.length->(fH l k 0).m=false/\(∀n,(fH l k n).m=false->fH l k n=iL)/\(∀n,0<=(fH l k n).p/\(fH l k n).p<=3)
 | 0,_=>⟨rfl,λn _=>rfl,λn=>by simp[fH,iL]⟩
 | k+1,hk=>by
  have ih:=Gd l hc k ω;have ho:=ig l k (gP l hc k ω);refine⟨?_,λn=>?_,λn=>?_⟩
  . simp only[fH,jV];grind
  . simp only[fH,jV]
    grind
  simp only[fH,jV]
  grind
theorem DR (hc:bj l=0):oL (iK l):=by
 have h:=Gd l hc l.length (aK _);exact⟨h.1,h.2.1,h.2.2⟩
theorem DN (F:Nat->cX) (hF:oL F) (how:cX->cX×Int) (page t:Int) (hp:1<=page)
  (hn:∀s,(s.m=false->s=iL)->((how s).1.m=false->(how s).1=iL)) (hq:∀s,0<=s.p/\s.p<=3->0<=(how s).1.p/\(how s).1.p<=3):oL (gV F how page t):=by
 refine⟨?_,λn=>?_,λn=>?_⟩
 . grind [gV,oL.zero]
 . simp only[gV];split
   . simp_all [oL.none]
   exact hF.none n
 simp only[gV];split
 . simp_all [oL.jP]
 exact hF.jP n
theorem Ks (F:Nat->cX) (h0:(F 0).m=false):∀k,(cT F (k+1)).length<=k
 | 0=>by grind [cT]
 | k+1=>by
  have ih:=Ks F h0 k
  grind [cT,zx]
theorem pJ (F:Nat->cX) (hF:oL F):bj (ic F)=0:=by
 grind [ic,Ks,Kt,bj,oL.zero]
theorem IE (hc:bj l=0) (F:Nat->cX) (p:Nat) (h:wK l p=F p):(aV l p).2=(F p).m/\(aV l p).1.jP=(F p).p/\(aV l p).1.zero=(F p).z:=by
 grind [aV,wK,Gf,Ab,iL]
theorem DV (F:Nat->cX) (hF:oL F) (p:Nat) (hp:p<256):(aV (ic F) p).2=(F p).m/\(aV (ic F) p).1.jP=(F p).p/\(aV (ic F) p).1.zero=(F p).z :=
 IE _ (pJ F hF) F p (Xr F hF p hp)
theorem DU (hc:bj l=0) (p:Nat):(aV l p).2=(iK l p).m/\(aV l p).1.jP=(iK l p).p/\(aV l p).1.zero=(iK l p).z :=
 IE l hc (iK l) p (DM l _ l rfl (Re l hc) p)
theorem gy (hc:bj l=0):(∀i,i<l.length->EJ (bw l i))/\l.length<=140737488351232:=by
 refine⟨λi hi=>?_,by grind [jF]⟩;have ho:=ig l i (gP l hc i hi)
 grind [EJ]
theorem Ku (F:Nat->cX) (how:cX->cX×Int):∀(c n:Nat),km F how n c=0->∀k,n<=k->k<n+c->(how (F k)).2=0
 | 0,n,_,k,h1,h2=>by omega
 | c+1,n,h,k,h1,h2=>by
  simp only[km] at h;split at h
  . rename_i h0
    by_cases e:k=n
    . grind
    exact Ku F how c (n+1) h k ω ω
  omega
open Go.RowKit
def ml (a:aX) (n:Nat):List Int:=(List.range n).map (λm:Nat=>a.page+(m:Int))
def fK (l:List aX):Nat->List Int
 | 0=>[]
 | i+1=>fK l i++ml (bw l i) (bw l i).aD.toNat
def lW (l:List aX):List Int:=fK l l.length
def jD (l:List aX) (hs:List bC):Bool:=decide (hs.map (·.page)=lW l)
def ql (l:List aX):Nat->Bool
 | 0=>false
 | k+1=>ql l k || (bw l k).zero
def mW (l:List aX):Bool:=ql l l.length
def mU (hs:List bC):Nat->Bool
 | 0=>true
 | k+1=>mU hs k&&cY (bk hs k)
def tM (hs:List bC):Bool:=mU hs hs.length
def Ct (l:List aX) (en:Int):Bool:=(b6 l (en.tdiv 16)).2&&(decide (2<=(b6 l (en.tdiv 16)).1.jP)&&decide (en.tmod 8=0))
def gU (l:List aX) (hs:List bC) (en:Int):Int:=if bj l=0 then (if !mW l&&(jD l hs&&(tM hs&&Ct l en)) then 0 else 1) else bj l
theorem yI:ml a (n+1)=ml a n++[a.page+(n:Int)]:=by
 grind [ml,List.range_succ]
theorem Te (m:Nat) (h:n<m):∃t,ml a m=ml a n++(a.page+(n:Int))::t:=by
 induction m with
 | zero=>omega
 | succ m ih =>
  by_cases e:n=m
  . simp_all [yI]
  grind [yI]
theorem Ii (l:List aX) (i:Nat):∀n,i<=n->∃t,fK l n=fK l i++t
 | 0,h=>by simp_all
 | n+1,h=>by
  by_cases e:i=n+1
  . simp_all
  obtain⟨t,ht⟩:=Ii l i n ω
  grind [fK]
theorem Vv (i:Nat) (hi:i<l.length) (n:Nat) (hn:n<(bw l i).aD.toNat):∃t,lW l=(fK l i++ml (bw l i) n)++((bw l i).page+(n:Int))::t:=by
 obtain⟨t,ht⟩:=Ii l (i+1) l.length ω;obtain⟨u,hu⟩:=Te (bw l i) n _ hn
 grind [lW,fK]
theorem I1 (l:List aX):∀(k n:Nat),k<=n->ql l k=true->ql l n=true
 | k,0,h,hk=>by grind
 | k,n+1,h,hk=>by
  by_cases e:k=n+1
  . grind
  simp[ql,I1 l k n ω hk]
theorem ahp (k:Nat) (hk:k<l.length) (h:(bw l k).zero=true):mW l=true:=I1 l (k+1) l.length ω (by simp[ql,h])
theorem Ol (l:List aX):∀n,ql l n=false->∀i,i<n->(bw l i).zero=false
 | 0,_,i,hi=>by omega
 | n+1,h,i,hi=>by
  simp only[ql,Ua] at h;by_cases e:i=n
  . grind
  exact Ol l n h.1 i ω
theorem Ef (l:List bC):∀(k n:Nat),k<=n->mU l k=false->mU l n=false
 | k,0,h,hk=>by grind
 | k,n+1,h,hk=>by
  by_cases e:k=n+1
  . grind
  simp[mU,Ef l k n ω hk]
theorem Yc (l:List bC) (k:Nat) (hk:k<l.length) (h:cY (bk l k)=false):tM l=false:=Ef l (k+1) l.length ω (by simp[mU,h])
theorem De (l:List bC):∀n,mU l n=true->∀i,i<n->cY (bk l i)=true
 | 0,_,i,hi=>by omega
 | n+1,h,i,hi=>by
  simp only[mU,cK] at h;by_cases e:i=n
  . grind
  exact De l n h.1 i ω
theorem FC (c:Nat) (h:c<hs.length):(hs.take (c+1)).map (·.page)=(hs.take c).map (·.page)++[(bk hs c).page]:=by
 grind [List.take_succ_eq_append_getElem,bk]
theorem Yh {l:List aX} {hs:List bC} {pre t:List Int} {x:Int} (hp:(hs.take hs.length).map (·.page)=pre) (ho:lW l=pre++x::t):jD l hs=false:=by
 simp_all [jD]
theorem Yi {l:List aX} {hs:List bC} {pre t:List Int} {x:Int} {c:Nat} (hc:c<hs.length) (hp:(hs.take c).map (·.page)=pre) (ho:lW l=pre++x::t) (hx:(bk hs c).page≠x):jD l hs=false:=by
 unfold jD;refine fE (λe=>?_);have h1:=FC hs c hc
 grind [List.take_append_drop,List.append_cancel_left]
theorem abA {l:List aX} {hs:List bC} {c:Nat} (hc:c<=hs.length) (hp:(hs.take c).map (·.page)=fK l l.length):jD l hs=decide (c=hs.length):=by
 grind [jD,lW,List.length_map]
def OG (w:World) (b off:Nat) (l:List bC):Prop:=∀i,i<l.length ->
 w.cell? (Ad b (off+i*3))=some (I (bk l i).page)/\w.cell? (Ad b (off+i*3+1))=some (.string (bk l i).data)/\w.cell? (Ad b (off+i*3+2))=some (.slice (bk l i).ao (bk l i).dR.length (bk l i).cap)/\xC w (bk l i).ao (bk l i).dR
theorem ajv {off:Nat} {l:List bC} (hb:Below w.heap.size w w') (hlt:b<w.heap.size) (h:OG w b off l):OG w' b off l:=λi hi=>by
 obtain⟨c0,c1,c2,c3⟩:=h i hi
 grind [cJ,xC.below]
def kq (w:World) (ao:Option Addr) (l:List bC):Prop:=dG OG w ao l
theorem kq.below {ao:Option Addr} {l:List bC} (h:kq w ao l) (hb:Below w.heap.size w w'):kq w' ao l:=dG.below (lie:=OG) (λhb hlt h=>ajv hb hlt h) h hb
def uh (l:List bC):Prop:=bD l.length/\∀k,k<l.length->KR (bk l k)
theorem Yd {p:Int} (h:0<=p/\p<=3):p=0\/p=1\/p=2\/p=3:=by omega
theorem Yg (hc:bj l=0) (p:Int) (h:(b6 l p).2=true):0<=(b6 l p).1.jP/\(b6 l p).1.jP<=3:=by
 by_cases e:∃k,k<l.length/\jt (bw l k) p=true
 . obtain⟨k,hk,hh⟩:=e;have:∃k,k<l.length/\jt (bw l k) p=true/\∀i,i<k->jt (bw l i) p=false:=by
    induction k using Nat.strongRecOn with
    | _ k ih =>
     grind
   obtain⟨k,hk,h1,h2⟩:=this;rw[vJ l p k hk h2 h1]
   simp_all [ig,gP]
 grind [wN]
def uw (hs:List bC) (k:Nat):Bool:=k==0 || decide ((bk hs (k-1)).page<(bk hs k).page)
def lC (hs:List bC):Nat->Bool
 | 0=>true
 | k+1=>lC hs k&&(cY (bk hs k)&&uw hs k)
def iG (hs:List bC):Bool:=lC hs hs.length
theorem Ih (l:List bC):∀(k n:Nat),k<=n->lC l k=false->lC l n=false
 | k,0,h,hk=>by grind
 | k,n+1,h,hk=>by
  by_cases e:k=n+1
  . grind
  simp[lC,Ih l k n ω hk]
theorem ael (l:List bC) (k:Nat) (hk:k<l.length) (h:(cY (bk l k)&&uw l k)=false):iG l=false:=Ih l (k+1) l.length ω (by grind [lC])
theorem tN (l:List bC):∀n,lC l n=true->∀i,i<n->cY (bk l i)=true/\uw l i=true
 | 0,_,i,hi=>by omega
 | n+1,h,i,hi=>by
  simp only[lC,cK] at h;by_cases e:i=n
  . grind
  exact tN l n h.1 i ω
theorem Ou (l:List bC):∀n,(∀i,i<n->cY (bk l i)=true/\uw l i=true)->lC l n=true
 | 0,_=>rfl
 | n+1,h=>by
  simp only[lC,cK];exact⟨Ou l n (λi hi=>h i ω),h n ω⟩
def GJ (l:List aX) (hs:List bC) (k:Nat):Bool:=(b6 l (bk hs k).page).2&&!(b6 l (bk hs k).page).1.zero
def Cq (l:List aX) (hs:List bC):Nat->Bool
 | 0=>true
 | k+1=>Cq l hs k&&GJ l hs k
theorem GI (l:List aX) (hs:List bC):∀n,Cq l hs n=true->∀i,i<n->GJ l hs i=true
 | 0,_,i,hi=>by omega
 | n+1,h,i,hi=>by
  simp only[Cq,cK] at h;by_cases e:i=n
  . grind
  exact GI l hs n h.1 i ω
theorem VB (l:List aX) (hs:List bC):∀n,(∀i,i<n->GJ l hs i=true)->Cq l hs n=true
 | 0,_=>rfl
 | n+1,h=>by
  simp only[Cq,cK];exact⟨VB l hs n (λi hi=>h i ω),h n ω⟩
def KQ (l:List aX) (hs:List bC) (en:Int):Int:=if bj l=0 then (if decide ((hs.length:Int)=mL l l.length)&&(iG hs&&(Cq l hs hs.length&&Ct l en)) then 0 else 1) else bj l
/-! the pages of areas that are right rise -/
def mX (L:List Int):Prop:=L.Pairwise (·<·)
theorem Ai (x:Int):x∈ml a n↔a.page<=x/\x<a.page+(n:Int):=by
 unfold ml;rw[tD];constructor
 . grind
 rintro⟨h1,h2⟩;exact⟨(x-a.page).toNat,vN.2 ω,ω⟩
theorem FB (a:aX):∀n,mX (ml a n)
 | 0=>by simp[ml,mX]
 | n+1=>by
  rw[yI];unfold mX;rw[KE];refine⟨FB a n,ξ,λx hx y hy=>?_⟩
  grind [Ai]
theorem QC:(ml a n).length=n:=by simp[ml]
theorem Vz (hc:bj l=0) (i:Nat) (hi:i+1<l.length):(bw l i).page+(bw l i).aD<=(bw l (i+1)).page:=by
 have h:=gP l hc (i+1) hi
 grind [pF,nW,aX.zC]
theorem ER (l:List aX) (hc:bj l=0):∀i,i<=l.length->∀x∈fK l i,∀j,j<l.length->i<=j->x<(bw l j).page
 | 0,_,x,hx,j,_,_=>by grind [fK]
 | i+1,hi,x,hx,j,hj,hij=>by
  simp only[fK,kJ] at hx;rcases hx with hx | hx
  . exact ER l hc i ω x hx j hj ω
  have hk:=ig l i (gP l hc i ω);have h1:=(Ai _ _ _).1 hx;have step:∀d,i+1+d<l.length->(bw l i).page+(bw l i).aD<=(bw l (i+1+d)).page:=by
   intro d;induction d with
   | zero=>simp_all [Vz]
   | succ d ih =>
    intro h;have h2:=ih ω;have h3:=Vz l hc (i+1+d) h;have h4:=ig l (i+1+d) (gP l hc (i+1+d) ω)
    grind
  have:=step (j-(i+1)) ω
  grind
theorem yG (l:List aX) (hc:bj l=0):∀i,i<=l.length->mX (fK l i)
 | 0,_=>by simp[fK,mX]
 | i+1,hi=>by
  simp only[fK];unfold mX;rw[KE];refine⟨yG l hc i ω,FB _ _,λx hx y hy=>?_⟩;have h1:=ER l hc i ω x hx i ω (aK _)
  grind [Ai]
theorem yH (l:List aX) (hc:bj l=0):∀i,i<=l.length->((fK l i).length:Int)=mL l i
 | 0,_=>rfl
 | i+1,hi=>by
  have ih:=yH l hc i ω;have hk:=ig l i (gP l hc i ω)
  grind [fK,mL,QC]
theorem uV (l:List aX) (x:Int):∀i,x∈fK l i↔∃k,k<i/\jt (bw l k) x=true
 | 0=>by simp[fK]
 | i+1=>by
  simp only[fK,kJ];rw[uV l x i,Ai]
  grind [jt,aX.zC]
theorem yE {x:Int} {L:List Int} (h:mX (x::L)):mX L/\∀z∈L,x<z:=⟨(Ag.1 h).2,(Ag.1 h).1⟩
theorem EM:∀(K L:List Int),mX L->mX K->(∀z∈L,z∈K)->L.length<=K.length
 | [],L,_,_,hm=>by
  cases L with
  | nil=>omega
  | cons x L=>grind [List.mem_cons_self]
 | y::K,L,hL,hK,hm=>by
  cases L with
  | nil=>grind
  | cons x L =>
   obtain⟨hL1,hL2⟩:=yE hL;obtain⟨hK1,hK2⟩:=yE hK;by_cases e:x=y
   . subst e;have:=EM K L hL1 hK1 (λz hz=>by
      grind)
     grind
   have hx:x∈K:=by
    grind
   have b:=hK2 x hx;have:=EM K (x::L) hL hK1 (λz hz=>by
    grind)
   grind
theorem Ot:∀(L K:List Int),mX L->mX K->(∀z∈L,z∈K)->K.length<=L.length->L=K
 | [],K,_,_,_,hl=>by
  simp_all
 | x::L,K,hL,hK,hm,hl=>by
  cases K with
  | nil=>grind [List.mem_cons_self]
  | cons y K =>
   obtain⟨hL1,hL2⟩:=yE hL;obtain⟨hK1,hK2⟩:=yE hK;have e:x=y:=by
    rcases qZ.1 (hm x Gs) with g | g
    . exact g
    have b:=hK2 x g;have:=EM K (x::L) hL hK1 (λz hz=>by
     grind)
    grind
   subst e;rw[Ot L K hL1 hK1 (λz hz=>by
    grind) Γ]
theorem I2 (h:iG hs=true):mX (hs.map (·.page)):=by
 have step:∀i j,i<j->j<hs.length->(bk hs i).page<(bk hs j).page:=by
  intro i j b hj;induction j with
  | zero=>omega
  | succ j ih =>
   have h1:=(tN hs hs.length h (j+1) hj).2
   grind [uw]
 grind [mX,List.pairwise_iff_getElem,bk]
theorem Vs (h:mX (hs.map (·.page))) (k:Nat) (hk:k<hs.length):uw hs k=true:=by
 grind [uw,mX,List.pairwise_iff_getElem,bk]
theorem RJ (p:Int) (k:Nat) (hk:k<l.length) (h:jt (bw l k) p=true):∃j,j<l.length/\b6 l p=(bw l j,true):=by
 induction k using Nat.strongRecOn with
 | _ k ih =>
  grind [vJ]
theorem abz (p:Int) (h:(b6 l p).2=true):∃k,k<l.length/\jt (bw l k) p=true:=by
 grind [wN]
theorem akA (k:Nat) (h:k<hs.length):(bk hs k).page∈hs.map (·.page):=by
 grind [bk]
theorem QD (x:Int) (h:x∈hs.map (·.page)):∃k,k<hs.length/\(bk hs k).page=x:=by
 obtain⟨s,b,rfl⟩:=tD.1 h;obtain⟨k,hk,e⟩:=aa4 b;refine⟨k,hk,?_⟩
 grind [bk]
theorem VC (hc:bj l=0) (p:Int) (j k:Nat) (hj:j<l.length) (hk:k<l.length) (h1:jt (bw l j) p=true) (h2:jt (bw l k) p=true):j=k:=by
 have q:∀j k,j<k->k<l.length->jt (bw l j) p=true->jt (bw l k) p=true->False:=by
  intro j k b hk h1 h2;have hm:p∈fK l k:=(uV l p k).2 ⟨j,b,h1⟩;have:=ER l hc k ω p hm k hk (aK _)
  grind [jt]
 grind
theorem abv (hc:bj l=0) :
  (!mW l&&(jD l hs&&tM hs))=(decide ((hs.length:Int)=mL l l.length)&&(iG hs&&Cq l hs hs.length)):=by
 rw[TU];simp only[cK,aaK,fX];constructor
 . rintro⟨hz,he,F⟩;have b:hs.map (·.page)=lW l:=jY he;have q:=dC List.length b;rw[fI] at q;have hr:mX (hs.map (·.page)):=by rw[b];exact yG l hc l.length (aK _)
   refine⟨by rw[q];exact yH l hc l.length (aK _),?_,?_⟩
   . exact Ou hs hs.length (λi hi=>⟨De hs hs.length F i hi,Vs hs hr i hi⟩)
   refine VB l hs hs.length (λi hi=>?_);have hm:(bk hs i).page∈fK l l.length:=by
    have:=akA hs i hi;rw[b] at this;exact this
   obtain⟨k,hk,hh⟩:=(uV l _ _).1 hm;obtain⟨j,hj,e⟩:=RJ l _ k hk hh;unfold GJ;rw[e];simp[Ol l l.length hz j hj]
 rintro⟨q,hr,A⟩;have y:∀z∈hs.map (·.page),z∈lW l:=λz hz=>by
  obtain⟨k,hk,rfl⟩:=QD hs z hz;have:=GI l hs hs.length A k hk;unfold GJ at this;simp only[cK] at this;obtain⟨j,hj,hh⟩:=abz l _ this.1;exact(uV l _ _).2 ⟨j,hj,hh⟩
 have b:hs.map (·.page)=lW l:=Ot _ _ (I2 hs hr) (yG l hc l.length (aK _)) y (by
  grind [yH,lW])
 refine⟨?_,fD b,?_⟩
 . cases hz:mW l
   . rfl
   exfalso;have:∃i,i<l.length/\(bw l i).zero=true:=by
    by_cases g:∃i,i<l.length/\(bw l i).zero=true
    . exact g
    have B:∀n,n<=l.length->ql l n=false:=by
     intro n;induction n with
     | zero=>intro _;rfl
     | succ n ih =>
      grind [ql]
    grind [mW]
   obtain⟨i,hi,L⟩:=this;have hk:=ig l i (gP l hc i hi);have hh:jt (bw l i) (bw l i).page=true:=by
    grind [jt,aX.zC]
   have hm:(bw l i).page∈hs.map (·.page):=by
    rw[b];exact(uV l _ _).2 ⟨i,hi,hh⟩
   obtain⟨k,G,K⟩:=QD hs _ hm;have J:=GI l hs hs.length A k G
   grind [GJ,VC,vJ]
 have B:∀n,n<=hs.length->mU hs n=true:=by
  intro n;induction n with
  | zero=>intro _;rfl
  | succ n ih =>
   intro hn;simp only[mU,cK];exact⟨ih ω,(tN hs hs.length hr n ω).1⟩
 exact B hs.length (aK _)
theorem LI (en:Int):gU l hs en=KQ l hs en:=by
 grind [gU,KQ,abv]
structure fw where
 i:sO
 a:II
 base:Int
def amw:fw:=⟨⟨⟨#[]⟩,[],[],[],[],0⟩,⟨none,0,none,0,none,0,none,0⟩,0⟩
def bE (l:List fw) (k:Nat):fw:=l.getD k amw
def iB (o:fw):Array Value:=#[.string o.i.name,.slice o.a.an o.i.needs.length o.a.cn,.slice o.a.ag o.i.fA.length o.a.cg,.slice o.a.ay o.i.syms.length o.a.cy,.slice o.a.ar o.i.lV.length o.a.cr,I o.i.entry,I o.base]
def OD (w:World) (b off:Nat) (l:List fw):Prop:=∀k,k<l.length ->
 (w.cell? (Ad b (off+k*7))=some (.string (bE l k).i.name)/\w.cell? (Ad b (off+k*7+1))=some (.slice (bE l k).a.an (bE l k).i.needs.length (bE l k).a.cn) /\
  w.cell? (Ad b (off+k*7+2))=some (.slice (bE l k).a.ag (bE l k).i.fA.length (bE l k).a.cg)/\w.cell? (Ad b (off+k*7+3))=some (.slice (bE l k).a.ay (bE l k).i.syms.length (bE l k).a.cy) /\
  w.cell? (Ad b (off+k*7+4))=some (.slice (bE l k).a.ar (bE l k).i.lV.length (bE l k).a.cr)/\w.cell? (Ad b (off+k*7+5))=some (I (bE l k).i.entry)/\w.cell? (Ad b (off+k*7+6))=some (I (bE l k).base))/\l9 w (bE l k).a (bE l k).i
theorem aju {off:Nat} {l:List fw} (hb:Below w.heap.size w w') (hlt:b<w.heap.size) (h:OD w b off l):OD w' b off l:=λk hk=>by
 obtain⟨⟨c0,c1,c2,c3,c4,c5,c6⟩,hi⟩:=h k hk
 grind [cJ,l9.below]
def Ei (w:World) (ao:Option Addr) (l:List fw):Prop:=dG OD w ao l
theorem Ei.below {ao:Option Addr} {l:List fw} (h:Ei w ao l) (hb:Below w.heap.size w w'):Ei w' ao l:=dG.below (lie:=OD) (λhb hlt h=>aju hb hlt h) h hb
def tO (i:sO):pV:=cQ i.fA (i.fA.length-1)
def kK (o:fw):Int:=o.base+(tO o.i).page+(tO o.i).aD
def ow (o:fw) (Li:Int):Int:=o.base*16+Li
def sP (s:pV):Int:=if s.wr then (if s.ex then 3 else 1) else (if s.ex then 2 else 0)
theorem mz {i:sO} (hc:gQ i=0) (k:Nat) (hk:k<i.fA.length):0<=(cQ i.fA k).page/\1<=(cQ i.fA k).aD/\(cQ i.fA k).page+(cQ i.fA k).aD<=255/\((cQ i.fA k).data.size:Int)<=(cQ i.fA k).aD*16:=by
 unfold gQ at hc;split at hc
 . omega
 split at hc
 . omega
 split at hc
 . omega
 rename_i h
 have h':KM i=true:=by grind
 unfold KM at h';have:=N9 lM Lu i.fA k hk h';unfold lM at this;exact jY this
theorem pX {i:sO} (hc:gQ i=0):1<=i.fA.length/\i.fA.length<=6/\i.needs.length<=4/\i.syms.length<=12/\i.lV.length<=16:=by
 grind [gQ,Fz]
theorem yJ {i:sO} (hc:gQ i=0):0<=(tO i).page/\1<=(tO i).aD/\(tO i).page+(tO i).aD<=255:=by
 have h1:=pX hc;have h2:=mz hc (i.fA.length-1) ω;exact⟨h2.1,h2.2.1,h2.2.2.1⟩
theorem aU {N:Nat} (h:w.heap[b]?=some o) (hb:Below N w w') (hlt:b<N):w'.heap[b]?=some o:=(hb.block b hlt).trans h
theorem aQ (h:w.heap[b]?=some o):b<w.heap.size:=(Array.getElem?_eq_some_iff.1 h).1
theorem bu (h:w.heap[b]?=some o) (o':Obj):(w.alloc o').heap[b]?=some o:=(Below.heap_alloc w o' b (aQ h)).trans h
theorem aA {fr:Nat×Nat} (h:w.heap[b]?=some (.cells C t fr)) (j:Nat) {v:Value} (hj:C[j]?=some v):w.cell? (Ad b j)=some v:=(aaE w b j C t fr h).trans hj
theorem bG (h:w.heap[b]?=some (.cells C t (0,0))) (j:Nat):w.frozen? (Ad b j)=false:=frozen_of_row w b j C t h
theorem nt (h:w.heap[b]?=some o) (g j:Nat) (v:Value) (hne:b≠g):(w.setCell (Ad g j) v).heap[b]?=some o:=(heap_setCell_other w (Ad g j) b v hne).trans h
theorem gH (h:w.heap[b]?=some (.cells C t (0,0))) (j:Nat) (v:Value):(w.setCell (Ad b j) v).heap[b]?=some (.cells (C.setIfInBounds j v) t (0,0)):=heap_setCell_same w b j C t v h
theorem bH (w:World) (C:Array Value) (t:TypeId):(w.alloc (.cells C t)).heap[w.heap.size]?=some (.cells C t (0,0)):=TT w _
theorem xY {fr:Nat×Nat} (h:w.heap[b]?=some (.cells C t fr)):∀j u,C.toList[j]?=some u->w.cell? (((Ad b 0):Addr).add j)=some u:=λj u hj=>by
 grind [Addr.add_lit,aA]
theorem AK {row:Option Nat} (h:w.heap[b]?=some o) (hg:w.grownBy w' row) (hne:some b≠row):w'.heap[b]?=some o:=(hg.block b (aQ h) hne).trans h
theorem xZ (h:w.heap[b]?=some (.cells #[a0,a1] t (0,0))):w.cell? (Ad b 0)=some a0/\w.cell? (Ad b 1)=some a1:=⟨aA h 0 rfl,aA h 1 rfl⟩
theorem zn (h:w.heap[b]?=some (.cells #[a0,a1,a2] t (0,0))):w.cell? (Ad b 0)=some a0/\w.cell? (Ad b 1)=some a1/\w.cell? (Ad b 2)=some a2:=⟨aA h 0 rfl,aA h 1 rfl,aA h 2 rfl⟩
theorem TD {a3:Value} (h:w.heap[b]?=some (.cells #[a0,a1,a2,a3] t (0,0))):w.cell? (Ad b 0)=some a0/\w.cell? (Ad b 1)=some a1/\w.cell? (Ad b 2)=some a2/\w.cell? (Ad b 3)=some a3:=⟨aA h 0 rfl,aA h 1 rfl,aA h 2 rfl,aA h 3 rfl⟩
theorem o5 {a3 a4:Value} (h:w.heap[b]?=some (.cells #[a0,a1,a2,a3,a4] t (0,0))):w.cell? (Ad b 0)=some a0/\w.cell? (Ad b 1)=some a1/\w.cell? (Ad b 2)=some a2/\w.cell? (Ad b 3)=some a3/\w.cell? (Ad b 4)=some a4:=⟨aA h 0 rfl,aA h 1 rfl,aA h 2 rfl,aA h 3 rfl,aA h 4 rfl⟩
theorem aq {p:Prop} (h:p):Hid p:=h
theorem gX {a b:Bool} (h:a=b):Ending.returned (.bool a)=.returned (.bool b):=by rw[h]
theorem N0 (n:Int) (w:World):Calls prog 220 #[.int .u8 n] w λe w'=>e=.returned (.bool (xx n))/\w=w':=by
 by_cases h1:97<=n/\n<=122
 . have e:xx n=true:=by grind [xx]
   rw[e];obtain⟨a,b⟩:=h1;go_enter func220,ntmps220;go_wp2;go_ret
   simp_all
 by_cases h2:48<=n/\n<=57
 . have e:xx n=true:=by grind [xx]
   rw[e];obtain⟨a,b⟩:=h2;have c:decide (97<=n)=false:=by grind
   clear h1;go_enter func220,ntmps220;go_wp2;go_ret
   simp_all
 by_cases h3:n=95
 . subst h3;go_enter func220,ntmps220;go_wp2;go_ret;exact⟨rfl,rfl⟩
 have e:xx n=false:=by grind [xx]
 rw[e];have q:(n==95)=false:=by grind
 by_cases a:97<=n
 . have b:decide (n<=122)=false:=by grind
   have c:48<=n:=by omega
   have d:decide (n<=57)=false:=by grind
   clear h1 h2;go_enter func220,ntmps220;go_wp2;go_ret
   simp_all
 by_cases c:48<=n
 . have d:decide (n<=57)=false:=by grind
   clear h1 h2;go_enter func220,ntmps220;go_wp2;go_ret
   simp_all
 clear h1 h2;go_enter func220,ntmps220;go_wp2;go_ret
 simp_all
theorem rh (s:ByteArray) (w:World) (hs:bD s.size):Calls prog 200 #[.string s] w λe w'=>e=.returned (.bool (jM s))/\w=w':=by
 unfold bD at hs;by_cases h1:1<=s.size
 . by_cases h2:s.size<=12
   . have d1:¬(s.size:Int)<1:=by omega
     have d2:¬12<(s.size:Int):=by omega
     go_enter func200,ntmps200;go_wp2
     go_loop [14] (λi=>∃k:Nat,k<=s.size/\i=I k/\∀j (hj:j<s.size),j<k->xx s[j].toNat=true) (λi=>s.size-(intOf i).toNat)
     case atStart=>exact⟨0,ω,rfl,λj _ h=>ω⟩
     case round =>
      obtain⟨k,hk,rfl,b⟩:=hrel;have HA:=aq b;clear b;by_cases hlt:k<s.size
      . cases hc:xx s[k].toNat
        . have HR:=aq (akp s k hlt hc);go_wp2_with (go_at_call 220;refine(N0 _ _).mono ?_;rintro e w' ⟨rfl,rfl⟩;rw[hc]);go_ret;exact⟨gX HR.o.symm,rfl⟩
        have HC:=aq hc;go_wp2_with (go_at_call 220;refine(N0 _ _).mono ?_;rintro e w' ⟨rfl,rfl⟩;rw[hc])
        grind [intOf,Hid.o]
      obtain rfl:k=s.size:=by omega
      have HR:=aq (ahh s h1 h2 (λk hk=>HA.o k hk hk));go_wp2;go_ret;exact⟨gX HR.o.symm,rfl⟩
   have HR:=aq (U8 s (λh=>h2 h.2));have d1:¬(s.size:Int)<1:=by omega
   have d2:12<(s.size:Int):=by omega
   go_enter func200,ntmps200;go_wp2;go_ret;exact⟨gX HR.o.symm,rfl⟩
 have HR:=aq (U8 s (λh=>h1 h.1));have d1:(s.size:Int)<1:=by omega
 go_enter func200,ntmps200;go_wp2;go_ret;exact⟨gX HR.o.symm,rfl⟩
theorem Qu (i:sO) (a:II) (w:World) (h:l9 w a i) (hf:BH i):Calls prog 158 #[.agg (gI a i)] w λe w'=>e=.returned (.bool (N8 i))/\Below w.heap.size w w':=by
 obtain⟨an,cn,ag,cg,ay,cy,ar,cr⟩:=a;obtain⟨nm,ns,gs,ys,rs,en⟩:=i;obtain⟨h1,h2,h3,h4⟩:=h;obtain⟨f1,f2,f3,f4,f5,f6,f7,f8,f9,L⟩:=hf;simp only at h1 h2 h3 h4 f1 f2 f3 f4 f5 f6 f7 f8 f9 L;unfold bD at f2 f6 f8;simp only[gI,N8];have H1:=aq h1;have H3:=aq h3;have H4:=aq h4;have F3:=aq f3;have F7:=aq f7;have F9:=aq f9;clear h1 h2 h3 h4 f3 f4 f5 f7 f9 L;have a0:=aq (bH w #[.string nm,.slice an ns.length cn,.slice ag gs.length cg,.slice ay ys.length cy,.slice ar rs.length cr,I en] 56);have fU:=aq ((aN w.heap.size w).alloc (aK _) (.cells #[.string nm,.slice an ns.length cn,.slice ag gs.length cg,.slice ay ys.length cy,.slice ar rs.length cr,I en] 56));obtain⟨X,hX⟩:∃X:Array Value,X=#[.string nm,.slice an ns.length cn,.slice ag gs.length cg,.slice ay ys.length cy,.slice ar rs.length cr,I en]:=⟨_,rfl⟩;have HX:=aq hX;rw[<- hX] at a0 fU;clear hX;cases e1:jM nm
 . go_enter func158,ntmps158;go_wp2_with (go_at_call 200;refine(rh _ _ f1).mono ?_;rintro e w' ⟨rfl,rfl⟩;rw[e1]);go_ret;rw[<- HX.o];exact⟨rfl,fU.o⟩
 go_enter func158,ntmps158;go_wp2_with (go_at_call 200;refine(rh _ _ f1).mono ?_;rintro e w' ⟨rfl,rfl⟩;rw[e1]);rw[<- HX.o];go_loopw [16] (λi wr=>∃k:Nat,k<=ns.length/\i=I k/\(∀j,j<k->jM (iy ns j)=true)/\wr.heap[w.heap.size]?=some (.cells X 56 (0,0))/\Below w.heap.size w wr) (λi _=>ns.length-(intOf i).toNat)
 case atStart=>grind [Hid.o]
 case round =>
  obtain⟨k0,hk,rfl,q,oZ,hb⟩:=hrel;have N:=aq q;have Q:=aq oZ;have cD:=aq hb;have R:=aA oZ 0 (by rw[HX.o];rfl);have T:=aA oZ 1 (by rw[HX.o];rfl);have J:=aA oZ 2 (by rw[HX.o];rfl);have U:=aA oZ 3 (by rw[HX.o];rfl);have Y:=aA oZ 4 (by rw[HX.o];rfl);have K:=aA oZ 5 (by rw[HX.o];rfl);clear q oZ;by_cases hlt:k0<ns.length
  . obtain⟨b,off,B,F,hl⟩:=H1.o ω;have Xv:(k0:Int)<(ns.length:Int):=by omega
    have c0:=abg hb F hl k0 hlt;have fs:=F3.o k0 hlt;obtain⟨x,hx⟩:=ex (iy ns k0);rw[<- hx] at c0 fs;have A:=aq hx;clear hx hb hl;subst B;cases hc:jM x
    . have HR:Hid ((true&&(ns.all jM&&(ys.all (λy=>jM y.name)&&rs.all nC)))=false):=by
       show _=_;rw[ye jM U7 ns k0 hlt (by show jM (iy ns k0)=false;rw[<- A.o];exact hc)];simp
      go_wp2_with (go_at_call 200;refine(rh _ _ fs).mono ?_;rintro e w' ⟨rfl,rfl⟩;rw[hc])
      go_ret;exact⟨gX HR.o.symm,cD.o⟩
    go_wp2_with (go_at_call 200;refine(rh _ _ fs).mono ?_;rintro e w' ⟨rfl,rfl⟩;rw[hc])
    go_roundw
    case rel=>exact⟨k0+1,ω,by go_num,λj h=>if e:j=k0 then by rw[e,<- A.o];exact hc else N.o j ω,Q.o,cD.o⟩
    case measure=>simp[intOf];omega
  obtain rfl:k0=ns.length:=by omega
  clear hb;go_wp2_with (go_at_call 200;fail);go_loopw [27] (λi wr=>∃k:Nat,k<=ys.length/\i=I k/\(∀j,j<k->jM (nu ys j).name=true)/\wr.heap[w.heap.size]?=some (.cells X 56 (0,0))/\Below w.heap.size w wr) (λi _=>ys.length-(intOf i).toNat)
  case atStart=>exact⟨0,ω,rfl,λj h=>ω,Q.o,cD.o⟩
  case round =>
   obtain⟨k1,hk,rfl,q,oZ,hb⟩:=hrel;have W:=aq q;have M:=aq oZ;have iJ:=aq hb;have R:=aA oZ 0 (by rw[HX.o];rfl);have T:=aA oZ 1 (by rw[HX.o];rfl);have J:=aA oZ 2 (by rw[HX.o];rfl);have U:=aA oZ 3 (by rw[HX.o];rfl);have Y:=aA oZ 4 (by rw[HX.o];rfl);have K:=aA oZ 5 (by rw[HX.o];rfl);clear q oZ;by_cases hlt:k1<ys.length
   . obtain⟨b,off,B,F,hl⟩:=H3.o ω;have Xv:(k1:Int)<(ys.length:Int):=by omega
     obtain⟨c0,c1⟩:=Qy hb F hl k1 hlt;have fs:=(F7.o k1 hlt).1;obtain⟨y,hx⟩:=ex (nu ys k1);rw[<- hx] at c0 c1 fs;have A:=aq hx;clear hx hb hl;obtain⟨x,xp⟩:=y;simp only at c0 c1 fs;subst B;cases hc:jM x
     . have HR:Hid ((true&&(ns.all jM&&(ys.all (λy=>jM y.name)&&rs.all nC)))=false):=by
        show _=_;rw[ye (λy=>jM y.name) U5 ys k1 hlt (by show jM (nu ys k1).name=false;rw[<- A.o];exact hc)];simp
       go_wp2_with (go_at_call 200;refine(rh _ _ fs).mono ?_;rintro e w' ⟨rfl,rfl⟩;rw[hc])
       go_ret;exact⟨gX HR.o.symm,iJ.o.alloc iJ.o.size _⟩
     go_wp2_with (go_at_call 200;refine(rh _ _ fs).mono ?_;rintro e w' ⟨rfl,rfl⟩;rw[hc])
     go_roundw
     case rel=>exact⟨k1+1,ω,by go_num,λj h=>if e:j=k1 then by rw[e,<- A.o];exact hc else W.o j ω,bu M.o _,iJ.o.alloc iJ.o.size _⟩
     case measure=>simp[intOf];omega
   obtain rfl:k1=ys.length:=by omega
   clear hb;go_wp2_with (go_at_call 200;fail);go_loopw [39] (λi wr=>∃k:Nat,k<=rs.length/\i=I k/\(∀j,j<k->nC (ji rs j)=true)/\wr.heap[w.heap.size]?=some (.cells X 56 (0,0))/\Below w.heap.size w wr) (λi _=>rs.length-(intOf i).toNat)
   case atStart=>exact⟨0,ω,rfl,λj h=>ω,M.o,iJ.o⟩
   case round =>
    obtain⟨k2,hk,rfl,q,oZ,hb⟩:=hrel;have qO:=aq q;have O:=aq oZ;have ou:=aq hb;have R:=aA oZ 0 (by rw[HX.o];rfl);have T:=aA oZ 1 (by rw[HX.o];rfl);have J:=aA oZ 2 (by rw[HX.o];rfl);have U:=aA oZ 3 (by rw[HX.o];rfl);have Y:=aA oZ 4 (by rw[HX.o];rfl);have K:=aA oZ 5 (by rw[HX.o];rfl);clear q oZ;by_cases hlt:k2<rs.length
    . obtain⟨b,off,B,F,hl⟩:=H4.o ω;have Xv:(k2:Int)<(rs.length:Int):=by omega
      obtain⟨c0,c1,c2⟩:=U9 hb F hl k2 hlt;have fs:=(F9.o k2 hlt).2.1;obtain⟨y,hx⟩:=ex (ji rs k2);rw[<- hx] at c0 c1 c2 fs;have A:=aq hx;clear hx hb hl;obtain⟨xp,x,xa⟩:=y;simp only at c0 c1 c2 fs;subst B;by_cases he:x.size=0
      . have G:Hid (nC ⟨xp,x,xa⟩=true):=by show _=_;unfold nC;simp only;rw[fD he];rfl
        obtain rfl:x=⟨#[]⟩:=by cases x with | mk d=>congr 1;exact Array.eq_empty_of_size_eq_zero he
        go_wp2;go_roundw
        case rel=>exact⟨k2+1,ω,by go_num,λj h=>if e:j=k2 then by rw[e,<- A.o];exact G.out else qO.o j ω,bu O.o _,ou.o.alloc ou.o.size _⟩
        case measure=>simp[intOf];omega
      have Z:¬x.toList=[]:=by rw[Lib.toList_data];intro e;exact he (by rw[Lib.size_eq,e];rfl)
      have S6:x.toList.isEmpty=false:=by cases hh:x.toList with | nil=>exact absurd hh Z | cons _ _=>rfl
      cases hc:jM x
      . have HR:Hid ((true&&(ns.all jM&&(ys.all (λy=>jM y.name)&&rs.all nC)))=false):=by
         show _=_;rw[ye nC ajt rs k2 hlt (by show nC (ji rs k2)=false;rw[<- A.o];unfold nC;simp only;rw[hc,fE he];rfl)];simp
        go_wp2_with (go_at_call 200;refine(rh _ _ fs).mono ?_;rintro e w' ⟨rfl,rfl⟩;rw[hc])
        go_ret;exact⟨gX HR.o.symm,ou.o.alloc ou.o.size _⟩
      have G:Hid (nC ⟨xp,x,xa⟩=true):=by show _=_;unfold nC;simp only;rw[hc];simp
      go_wp2_with (go_at_call 200;refine(rh _ _ fs).mono ?_;rintro e w' ⟨rfl,rfl⟩;rw[hc])
      go_roundw
      case rel=>exact⟨k2+1,ω,by go_num,λj h=>if e:j=k2 then by rw[e,<- A.o];exact G.out else qO.o j ω,bu O.o _,ou.o.alloc ou.o.size _⟩
      case measure=>simp[intOf];omega
    obtain rfl:k2=rs.length:=by omega
    clear hb;have HR:Hid ((true&&(ns.all jM&&(ys.all (λy=>jM y.name)&&rs.all nC)))=true):=by
     show _=_;rw[xM jM U7 ns (λj hj=>N.o j hj),xM (λy=>jM y.name) U5 ys (λj hj=>W.o j hj),xM nC ajt rs (λj hj=>qO.o j hj)];rfl
    go_wp2;go_ret;exact⟨gX HR.o.symm,ou.o⟩
structure ed (B:Nat) (w:World) where
 world:World
 keeps:Below B w world
theorem kf (w:World):Nonempty (ed w.heap.size w):=⟨⟨w,aN _ _⟩⟩
theorem eT {P:Program} {id:Nat} {Q:Exit->Act->World->Prop} {a:Act} {l:List Oper} (hm:P.follows .mixedOrders=true) (hB:Region.lexB .any l.toArray=true)
  (h:wpQuiet P l.toArray (λw'=>∃x:ed w.heap.size w,w'=x.world) (λa'=>∀w',(∃x:ed w.heap.size w,w'=x.world)->Q .normal a' w') l a):(Code.region id l.toArray true).wp P Q a w :=
 wp_region_quiet (C:=λw'=>∃x:ed w.heap.size w,w'=x.world) hm hB ⟨⟨_,(aN _ _).drew⟩,rfl⟩ (by simpa using h)
theorem iP {P:Program} {f:FuncId} {args:Array Value} {v:Value} (h:∀W,Calls P f args W λe w'=>e=.returned v/\Below W.heap.size W w') (x:ed w.heap.size w) :
  Calls P f args x.world λe w''=>e=.returned v/\∃y:ed w.heap.size w,w''=y.world :=
 (h x.world).mono λe w'' ⟨he,hb⟩=>⟨he,⟨w'',x.keeps.trans (hb.mono x.keeps.size)⟩,rfl⟩
theorem fJ {w:World} (x:ed w.heap.size w) (b o:Nat) (h:b<w.heap.size):x.world.cell? (Ad b o)=w.cell? (Ad b o):=x.keeps.cell (p:=(Ad b o)) h
theorem NY (i:sO) (a:II) (w:World) (hf:BH i):Calls prog 159 #[.agg (gI a i)] w λe w'=>e=.returned (.bool (Fz i))/\Below w.heap.size w w':=by
 obtain⟨an,cn,ag,cg,ay,cy,ar,cr⟩:=a;obtain⟨nm,ns,gs,ys,rs,en⟩:=i;obtain⟨f1,f2,f3,f4,f5,f6,f7,f8,f9,B⟩:=hf;simp only at f2 f4 f6 f8;unfold bD at f2 f4 f6 f8;simp only[gI,Fz];have fU:∀o,Hid (Below w.heap.size w (w.alloc o)):=λo=>(aN w.heap.size w).alloc (aK _) o
 obtain⟨r,hr⟩:=ex (decide (1<=gs.length/\gs.length<=6/\ns.length<=4/\ys.length<=12/\rs.length<=16));rw[<- hr];have HR:=aq hr;clear hr f1 f3 f5 f7 f9 B;obtain⟨ln,y⟩:∃n,n=ns.length:=⟨_,rfl⟩;obtain⟨lg,q⟩:∃n,n=gs.length:=⟨_,rfl⟩;obtain⟨ly,A⟩:∃n,n=ys.length:=⟨_,rfl⟩;obtain⟨lr,b⟩:∃n,n=rs.length:=⟨_,rfl⟩;rw[<- y,<- q,<- A,<- b] at HR;rw[<- y,<- q,<- A,<- b];rw[<- y] at f2;rw[<- q] at f4;rw[<- A] at f6;rw[<- b] at f8;clear y q A b;by_cases d1:1<=(lg:Int)
 . by_cases d2:(lg:Int)<=6
   . by_cases d3:(ln:Int)<=4
     . by_cases d4:(ly:Int)<=12
       . by_cases d5:(lr:Int)<=16
         . have e:r=true:=by grind [Hid.o]
           subst e;go_enter func159,ntmps159;go_wp2;go_ret;exact⟨rfl,(fU _).out⟩
         have e:r=false:=by grind [Hid.o]
         subst e;go_enter func159,ntmps159;go_wp2;go_ret;exact⟨rfl,(fU _).out⟩
       have e:r=false:=by grind [Hid.o]
       subst e;go_enter func159,ntmps159;go_wp2;go_ret;exact⟨rfl,(fU _).out⟩
     have e:r=false:=by grind [Hid.o]
     subst e;go_enter func159,ntmps159;go_wp2;go_ret;exact⟨rfl,(fU _).out⟩
   have e:r=false:=by grind [Hid.o]
   subst e;go_enter func159,ntmps159;go_wp2;go_ret;exact⟨rfl,(fU _).out⟩
 have e:r=false:=by grind [Hid.o]
 subst e;have q4:decide ((1:Int)<=(lg:Int))=false:=fE d1;obtain rfl:lg=0:=by omega
 go_enter func159,ntmps159;go_wp2;go_ret;exact⟨rfl,(fU _).out⟩
theorem NW (l:List pV) (ao:Option Addr) (cap:Nat) (w:World) (h:dG xN w ao l) (hn:bD l.length) (hf:∀k,k<l.length->abj (cQ l k)) :
  Calls prog 160 #[.slice ao l.length cap] w λe w'=>e=.returned (.bool (l.all lM))/\Below w.heap.size w w':=by
 unfold bD at hn;have H:=aq h;have F:=aq hf;clear h hf;go_enter func160,ntmps160;go_wp2;go_loopw [7] (λi wr=>∃k:Nat,k<=l.length/\i=I k/\(∀j,j<k->lM (cQ l j)=true)/\Below w.heap.size w wr) (λi _=>l.length-(intOf i).toNat)
 case atStart=>grind [Below.refl]
 case round =>
  obtain⟨k,hk,rfl,A,hb⟩:=hrel;have HA:=aq A;have HB:=aq hb;clear A;by_cases hlt:k<l.length
  . obtain⟨b,off,J,M,hl⟩:=H.o ω;subst J;obtain⟨c0,c1,c2,c3,c4⟩:=yB hb M hl k hlt;obtain⟨g1,g2,g3⟩:=F.o k hlt;obtain⟨s,hs⟩:=ex (cQ l k);rw[<- hs] at c0 c1 c2 c3 c4 g1 g2 g3;have HS:=aq hs;clear hs hb hl;obtain⟨p,n,d,x,y⟩:=s;simp only at c0 c1 c2 c3 c4 g1 g2 g3;unfold cH at g1 g2;unfold bD at g3;have Xv:(k:Int)<(l.length:Int):=by omega
    have q:Hid (¬(0<=p/\1<=n/\p+n<=255/\(d.size:Int)<=n*16)->l.all lM=false):=λhx =>
     ye lM Lu l k hlt (by show lM (cQ l k)=false;rw[<- HS.o];exact fE hx)
    by_cases d1:0<=p
    . have B:¬p<0:=by omega
      by_cases d2:1<=n
      . have G:¬n<1:=by omega
        by_cases d3:p+n<=255
        . have N:¬255-p<n:=by omega
          by_cases d4:(d.size:Int)<=n*16
          . have K:¬n*16<(d.size:Int):=by omega
            have L:Hid (lM ⟨p,n,d,x,y⟩=true):=fD ⟨d1,d2,d3,d4⟩;go_wp2;go_roundw
            case rel=>exact⟨k+1,ω,by go_num,λj h=>if e:j=k then by rw[e,<- HS.o];exact L.out else HA.o j ω,HB.o.alloc HB.o.size _⟩
            case measure=>simp[intOf];omega
          have K:n*16<(d.size:Int):=by omega
          have HR:=aq (q.out ω);go_wp2;go_ret;exact⟨gX HR.o.symm,HB.o.alloc HB.o.size _⟩
        have N:255-p<n:=by omega
        have HR:=aq (q.out ω);go_wp2;go_ret;exact⟨gX HR.o.symm,HB.o.alloc HB.o.size _⟩
      have G:n<1:=by omega
      have HR:=aq (q.out ω);go_wp2;go_ret;exact⟨gX HR.o.symm,HB.o.alloc HB.o.size _⟩
    have B:p<0:=by omega
    have HR:=aq (q.out ω);go_wp2;go_ret;exact⟨gX HR.o.symm,HB.o.alloc HB.o.size _⟩
  obtain rfl:k=l.length:=by omega
  have HR:=aq (xM lM Lu l (λj hj=>HA.o j hj));clear hb;go_wp2;go_ret;exact⟨gX HR.o.symm,HB.o⟩
theorem ad3 (l:List pV) (k n:Nat) (h:sN l k=false) (hk:k<=n):sN l n=false:=by
 induction n with
 | zero=>grind
 | succ n ih =>
  grind [sN]
theorem ag8 (l:List pV) (k:Nat) (hk:k<l.length) (h:sN l (k+1)=false):C9 l=false:=ad3 l (k+1) l.length h hk
theorem XO (l:List pV) (ao:Option Addr) (cap:Nat) (w:World) (h:dG xN w ao l) (hn:bD l.length) (hr:l.all lM=true) :
  Calls prog 161 #[.slice ao l.length cap] w λe w'=>e=.returned (.bool (!C9 l))/\Below w.heap.size w w':=by
 unfold bD at hn;have H:=aq h;have F:=aq hr;clear h hr;go_enter func161,ntmps161;go_wp2;go_loopw [3] (λi wr=>∃k:Nat,1<=k/\(k<=l.length\/k=1)/\i=I k/\sN l k=true/\Below w.heap.size w wr) (λi _=>l.length-(intOf i).toNat)
 case atStart=>exact⟨1,ω,.inr rfl,rfl,rfl,aN _ _⟩
 case round =>
  obtain⟨k,Q,hk,rfl,B,hb⟩:=hrel;have HA:=aq B;have HB:=aq hb;clear B;by_cases hlt:k<l.length
  . obtain⟨b,off,L,G,hl⟩:=H.o ω;subst L;obtain⟨c0,c1,c2,c3,c4⟩:=yB hb G hl k hlt;obtain⟨e0,e1,e2,e3,e4⟩:=yB hb G hl (k-1) ω;have g1:0<=(cQ l (k-1)).page/\1<=(cQ l (k-1)).aD/\(cQ l (k-1)).page+(cQ l (k-1)).aD<=255/\_:=jY (N9 lM Lu l (k-1) ω F.o);have q:Hid (sN l (k+1)=decide ((cQ l (k-1)).page+(cQ l (k-1)).aD<=(cQ l k).page)):=by
     show _=_;simp only[sN,HA.o,tE,U6]
     grind
    obtain⟨t,ht⟩:=ex (cQ l (k-1));generalize cQ l k=s at c0 c1 c2 c3 c4 q;rw[<- ht] at e0 e1 e2 e3 e4 g1 q;clear ht hb hl;obtain⟨sp,sn,sd,sx,sy⟩:=s;obtain⟨tp,tn,td,tx,ty⟩:=t;simp only at c0 c1 c2 c3 c4 e0 e1 e2 e3 e4 g1 q;obtain⟨g1,g2,g3,g4⟩:=g1;clear c1 c2 c3 c4 e2 e3 e4 g4;have Xv:(k:Int)<(l.length:Int):=by omega
    have Fs:=kf wr;have A:=@fJ wr;have K:b<wr.heap.size:=dV G HB.o.size;have k0:∀x:ed wr.heap.size wr,x.world.cell? (Ad b (off+k*5))=some (I sp):=λx=>by rw[A x _ _ K,c0]
    have k1:∀x:ed wr.heap.size wr,x.world.cell? ⟨b,off+(k-1)*5,none⟩=some (I tp):=λx=>by rw[A x _ _ K,e0]
    have k2:∀x:ed wr.heap.size wr,x.world.cell? ⟨b,off+(k-1)*5+1,none⟩=some (I tn):=λx=>by rw[A x _ _ K,e1]
    clear A c0 e0 e1;by_cases d:sp<tp+tn
    . have M:Hid (sN l (k+1)=false):=by show _=_;rw[q.out];exact fE ω
      go_wp2;refine eT κ κ ?_
      repeat (first | go_big_quiet_step (fail) | quiet_step (fail))
      refine mM ?_;intro _ J;obtain⟨x,y⟩:=J;subst y;go_wp2;go_ret;exact⟨gX (by rw[ag8 l k hlt M.out];rfl),HB.o.trans (x.keeps.mono HB.o.size)⟩
    have N:Hid (sN l (k+1)=true):=by show _=_;rw[q.out];exact fD ω
    go_wp2;refine eT κ κ ?_
    repeat (first | go_big_quiet_step (fail) | quiet_step (fail))
    refine mM ?_;intro _ J;obtain⟨x,y⟩:=J;subst y;go_wp2;go_roundw
    case rel=>exact⟨k+1,ω,.inl ω,by go_num,N.out,HB.o.trans (x.keeps.mono HB.o.size)⟩
    case measure=>simp[intOf];omega
  have HR:Hid (C9 l=true):=by
   show _=_;unfold C9;rcases hk with hk | hk
   . rw[show l.length=k by omega];exact HA.o
   rcases Nz l.length 1 with h0 | h0
   . rw[show l.length=0 by omega];rfl
   rw[show l.length=k by omega];exact HA.o
  have O:¬(k:Int)<(l.length:Int):=by omega
  clear hb;go_wp2;go_ret;exact⟨gX (by rw[HR.o];rfl),HB.o⟩
end Go.Proofs.YtlgoihmkgaaemaaGreat
