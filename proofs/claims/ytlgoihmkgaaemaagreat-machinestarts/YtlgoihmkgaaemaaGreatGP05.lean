import Derived.Test.YtlgoihmkgaaemaaGreatGP04
set_option maxHeartbeats 20000000
set_option linter.unusedVariables false
set_option maxRecDepth 100000
set_option linter.unusedSimpArgs false
namespace Go.Proofs.YtlgoihmkgaaemaaGreat
open Go.RowKit Tryz
def ng (hs:List bD) (k:Nat):Bool:=k==0 || decide ((aZ hs (k-1)).page<(aZ hs k).page)
def ji (hs:List bD):Nat->Bool
 | 0=>true
 | k+1=>ji hs k&&(cK (aZ hs k)&&ng hs k)
def dR (hs:List bD):Bool:=ji hs hs.length
theorem Fa (l:List bD):∀(k n:Nat),k<=n->ji l k=false->ji l n=false
 | k,0,h,hk=>by grind
 | k,n+1,h,hk=>by
  by_cases e:k=n+1
  . grind
  simp[ji,Fa l k n ω hk]
theorem N6 (l:List bD) (k:Nat) (hk:k<l.length) (h:(cK (aZ l k)&&ng l k)=false):dR l=false:=Fa l (k+1) l.length ω (by grind [ji])
theorem oG (l:List bD):∀n,ji l n=true->∀i,i<n->cK (aZ l i)=true/\ng l i=true
 | 0,_,i,hi=>by omega
 | n+1,h,i,hi=>by
  simp only[ji,cV] at h;by_cases e:i=n
  . grind
  exact oG l n h.1 i ω
theorem KW (l:List bD):∀n,(∀i,i<n->cK (aZ l i)=true/\ng l i=true)->ji l n=true
 | 0,_=>rfl
 | n+1,h=>by
  simp only[ji,cV];exact⟨KW l n (λi hi=>h i ω),h n ω⟩
def Cb (l:List aU) (hs:List bD) (k:Nat):Bool:=(bE l (aZ hs k).page).2&&!(bE l (aZ hs k).page).1.zero
def nV (l:List aU) (hs:List bD):Nat->Bool
 | 0=>true
 | k+1=>nV l hs k&&Cb l hs k
theorem Iy (l:List aU) (hs:List bD):∀(k n:Nat),k<=n->nV l hs k=false->nV l hs n=false
 | k,0,h,hk=>by grind
 | k,n+1,h,hk=>by
  by_cases e:k=n+1
  . grind
  simp[nV,Iy l hs k n ω hk]
variable {x:Int×Bool} {i:Nat} {L:List (Int×Bool)} (l:List aU) (hs:List bD) (ar:List aU) (kd:Int)
theorem af9 (k:Nat) (hk:k<hs.length) (h:Cb l hs k=false):nV l hs hs.length=false:=Iy l hs (k+1) hs.length ω (by grind [nV])
theorem Ej (l:List aU) (hs:List bD):∀n,nV l hs n=true->∀i,i<n->Cb l hs i=true
 | 0,_,i,hi=>by omega
 | n+1,h,i,hi=>by
  simp only[nV,cV] at h;by_cases e:i=n
  . grind
  exact Ej l hs n h.1 i ω
theorem Re (l:List aU) (hs:List bD):∀n,(∀i,i<n->Cb l hs i=true)->nV l hs n=true
 | 0,_=>rfl
 | n+1,h=>by
  simp only[nV,cV];exact⟨Re l hs n (λi hi=>h i ω),h n ω⟩
def Ai (l:List aU) (hs:List bD) (en:Int):Int:=if bf l=0 then (if decide ((hs.length:Int)=iy l l.length)&&(dR hs&&(nV l hs hs.length&&wK l en)) then 0 else 1) else bf l
/-! the pages of areas that are right rise -/
def lY (L:List Int):Prop:=L.Pairwise (·<·)
theorem yj (a:aU) (n:Nat) (x:Int):x∈kY a n↔a.page<=x/\x<a.page+(n:Int):=by
 unfold kY;rw[zB];constructor
 . grind
 rintro⟨h1,h2⟩;exact⟨(x-a.page).toNat,uO.2 ω,ω⟩
theorem Dt (a:aU):∀n,lY (kY a n)
 | 0=>by simp[kY,lY]
 | n+1=>by
  rw[wH];unfold lY;rw[Wn];refine⟨Dt a n,ξ,λx hx y hy=>?_⟩
  grind [yj]
theorem M0 (a:aU) (n:Nat):(kY a n).length=n:=by simp[kY]
theorem Rb (hc:bf l=0) (i:Nat) (hi:i+1<l.length):(bw l i).page+(bw l i).aY<=(bw l (i+1)).page:=by
 have h:=gp l hc (i+1) hi
 grind [nD,jH,aU.pL]
theorem CK (l:List aU) (hc:bf l=0):∀i,i<=l.length->∀x∈fN l i,∀j,j<l.length->i<=j->x<(bw l j).page
 | 0,_,x,hx,j,_,_=>by grind [fN]
 | i+1,hi,x,hx,j,hj,hij=>by
  simp only[fN,mj] at hx;rcases hx with hx | hx
  . exact CK l hc i ω x hx j hj ω
  have hk:=gB l i (gp l hc i ω);have h1:=(yj _ _ _).1 hx;have step:∀d,i+1+d<l.length->(bw l i).page+(bw l i).aY<=(bw l (i+1+d)).page:=by
   intro d;induction d with
   | zero=>simp_all [Rb]
   | succ d ih =>
    intro h;have h2:=ih ω;have h3:=Rb l hc (i+1+d) h;have h4:=gB l (i+1+d) (gp l hc (i+1+d) ω)
    grind
  have:=step (j-(i+1)) ω
  grind
theorem wD (l:List aU) (hc:bf l=0):∀i,i<=l.length->lY (fN l i)
 | 0,_=>by simp[fN,lY]
 | i+1,hi=>by
  simp only[fN];unfold lY;rw[Wn];refine⟨wD l hc i ω,Dt _ _,λx hx y hy=>?_⟩;have h1:=CK l hc i ω x hx i ω (aJ _)
  grind [yj]
theorem wF (l:List aU) (hc:bf l=0):∀i,i<=l.length->((fN l i).length:Int)=iy l i
 | 0,_=>rfl
 | i+1,hi=>by
  have ih:=wF l hc i ω;have hk:=gB l i (gp l hc i ω)
  grind [fN,iy,M0]
theorem tA (l:List aU) (x:Int):∀i,x∈fN l i↔∃k,k<i/\gW (bw l k) x=true
 | 0=>by simp[fN]
 | i+1=>by
  simp only[fN,mj];rw[tA l x i,yj]
  grind [gW,aU.pL]
theorem wy {x:Int} {L:List Int} (h:lY (x::L)):lY L/\∀z∈L,x<z:=⟨(BH.1 h).2,(BH.1 h).1⟩
theorem CJ:∀(K L:List Int),lY L->lY K->(∀z∈L,z∈K)->L.length<=K.length
 | [],L,_,_,hm=>by
  cases L with
  | nil=>omega
  | cons x L=>grind [List.mem_cons_self]
 | y::K,L,hL,hK,hm=>by
  cases L with
  | nil=>grind
  | cons x L =>
   obtain⟨hL1,hL2⟩:=wy hL;obtain⟨hK1,hK2⟩:=wy hK;by_cases e:x=y
   . subst e;have:=CJ K L hL1 hK1 (λz hz=>by
      grind)
     grind
   have hx:x∈K:=by
    grind
   have b:=hK2 x hx;have:=CJ K (x::L) hL hK1 (λz hz=>by
    grind)
   grind
theorem KV:∀(L K:List Int),lY L->lY K->(∀z∈L,z∈K)->K.length<=L.length->L=K
 | [],K,_,_,_,hl=>by
  simp_all
 | x::L,K,hL,hK,hm,hl=>by
  cases K with
  | nil=>grind [List.mem_cons_self]
  | cons y K =>
   obtain⟨hL1,hL2⟩:=wy hL;obtain⟨hK1,hK2⟩:=wy hK;have e:x=y:=by
    rcases rC.1 (hm x Hn) with g | g
    . exact g
    have b:=hK2 x g;have:=CJ K (x::L) hL hK1 (λz hz=>by
     grind)
    grind
   subst e;rw[KV L K hL1 hK1 (λz hz=>by
    grind) Γ]
theorem FV (h:dR hs=true):lY (hs.map (·.page)):=by
 have step:∀i j,i<j->j<hs.length->(aZ hs i).page<(aZ hs j).page:=by
  intro i j b hj;induction j with
  | zero=>omega
  | succ j ih =>
   have h1:=(oG hs hs.length h (j+1) hj).2
   grind [ng]
 grind [lY,List.pairwise_iff_getElem,aZ]
theorem Q8 (h:lY (hs.map (·.page))) (k:Nat) (hk:k<hs.length):ng hs k=true:=by
 grind [ng,lY,List.pairwise_iff_getElem,aZ]
theorem N7 (p:Int) (k:Nat) (hk:k<l.length) (h:gW (bw l k) p=true):∃j,j<l.length/\bE l p=(bw l j,true):=by
 induction k using Nat.strongRecOn with
 | _ k ih =>
  grind [rp]
theorem Xe (p:Int) (h:(bE l p).2=true):∃k,k<l.length/\gW (bw l k) p=true:=by
 grind [rh]
theorem aga (k:Nat) (h:k<hs.length):(aZ hs k).page∈hs.map (·.page):=by
 grind [aZ]
theorem M5 (x:Int) (h:x∈hs.map (·.page)):∃k,k<hs.length/\(aZ hs k).page=x:=by
 obtain⟨s,b,rfl⟩:=zB.1 h;obtain⟨k,hk,e⟩:=List.getElem_of_mem b;refine⟨k,hk,?_⟩
 grind [aZ]
theorem Rf (hc:bf l=0) (p:Int) (j k:Nat) (hj:j<l.length) (hk:k<l.length) (h1:gW (bw l j) p=true) (h2:gW (bw l k) p=true):j=k:=by
 have h:∀j k,j<k->k<l.length->gW (bw l j) p=true->gW (bw l k) p=true->False:=by
  intro j k b hk h1 h2;have hm:p∈fN l k:=(tA l p k).2 ⟨j,b,h1⟩;have:=CK l hc k ω p hm k hk (aJ _)
  grind [gW]
 grind
theorem Xd (hc:bf l=0) :
  (!mH l&&(jV l hs&&tv hs))=(decide ((hs.length:Int)=iy l l.length)&&(dR hs&&nV l hs hs.length)):=by
 rw[Bool.eq_iff_iff];simp only[cV,Qe,iP];constructor
 . rintro⟨hz,he,A⟩;have b:hs.map (·.page)=ni l:=kr he;have h:=dO List.length b;rw[jw] at h;have hr:lY (hs.map (·.page)):=by rw[b];exact wD l hc l.length (aJ _)
   refine⟨by rw[h];exact wF l hc l.length (aJ _),?_,?_⟩
   . exact KW hs hs.length (λi hi=>⟨FU hs hs.length A i hi,Q8 hs hr i hi⟩)
   refine Re l hs hs.length (λi hi=>?_);have hm:(aZ hs i).page∈fN l l.length:=by
    have:=aga hs i hi;rw[b] at this;exact this
   obtain⟨k,hk,hh⟩:=(tA l _ _).1 hm;obtain⟨j,hj,e⟩:=N7 l _ k hk hh;unfold Cb;rw[e];simp[KT l l.length hz j hj]
 rintro⟨h,hr,q⟩;have y:∀z∈hs.map (·.page),z∈ni l:=λz hz=>by
  obtain⟨k,hk,rfl⟩:=M5 hs z hz;have:=Ej l hs hs.length q k hk;unfold Cb at this;simp only[cV] at this;obtain⟨j,hj,hh⟩:=Xe l _ this.1;exact(tA l _ _).2 ⟨j,hj,hh⟩
 have b:hs.map (·.page)=ni l:=KV _ _ (FV hs hr) (wD l hc l.length (aJ _)) y (by
  grind [wF,ni])
 refine⟨?_,dW b,?_⟩
 . cases hz:mH l
   . rfl
   exfalso;have:∃i,i<l.length/\(bw l i).zero=true:=by
    by_cases g:∃i,i<l.length/\(bw l i).zero=true
    . exact g
    have r:∀n,n<=l.length->oV l n=false:=by
     intro n;induction n with
     | zero=>intro _;rfl
     | succ n ih =>
      grind [oV]
    grind [mH]
   obtain⟨i,hi,J⟩:=this;have hk:=gB l i (gp l hc i hi);have hh:gW (bw l i) (bw l i).page=true:=by
    grind [gW,aU.pL]
   have hm:(bw l i).page∈hs.map (·.page):=by
    rw[b];exact(tA l _ _).2 ⟨i,hi,hh⟩
   obtain⟨k,B,G⟩:=M5 hs _ hm;have F:=Ej l hs hs.length q k B
   grind [Cb,Rf,rp]
 have r:∀n,n<=hs.length->lV hs n=true:=by
  intro n;induction n with
  | zero=>intro _;rfl
  | succ n ih =>
   intro hn;simp only[lV,cV];exact⟨ih ω,(oG hs hs.length hr n ω).1⟩
 exact r hs.length (aJ _)
theorem CM (en:Int):iF l hs en=Ai l hs en:=by
 grind [iF,Ai,Xd]
structure ko where
 data:ByteArray
 refs:Int
 ja:Bool
 seen:Bool
variable {f:ko}
structure mJ where
 data:ByteArray
 refs:Int
structure bK where
 page:Int
 kind:Int
 loc:Int
variable {es:List bK} {e:bK}
structure cZ where
 live:Bool
 bu:List aU
 bl:List bK
variable {ss:List cZ}
structure aT where
 aD:List bD
 frames:List ko
 slots:List mJ
 aj:List cZ
 hand:Int
variable {k:aT}
def eG:ko:=⟨⟨#[]⟩,0,false,false⟩
def gP:mJ:=⟨⟨#[]⟩,0⟩
def gJ:bK:=⟨0,0,0⟩
def rP:cZ:=⟨false,[],[]⟩
def aK (l:List ko) (i:Nat):ko:=l.getD i eG
def bI (l:List mJ) (i:Nat):mJ:=l.getD i gP
def aW (l:List bK) (i:Nat):bK:=l.getD i gJ
def ak (l:List cZ) (i:Nat):cZ:=l.getD i rP
theorem kT {α:Type} {d:α}:∀{l:List α} {i:Nat},i<l.length->l.getD i d∈l
 | [],i,h=>absurd h (gY _)
 | a::r,0,h=>Hn
 | a::r,i+1,h=>Kv _ (kT (l:=r) (BG h))
theorem jE {α:Type} (d:α):∀{l:List α} {x:α},x∈l->∃i,i<l.length/\l.getD i d=x
 | a::r,x,h=>by
  rcases rC.1 h with rfl | h
  . exact⟨0,Qc _,rfl⟩
  obtain⟨i,hi,e⟩:=jE d h;exact⟨i+1,Qb hi,e⟩
theorem fu {α:Type} (d x:α):∀(l:List α) (i:Nat),i<l.length->(l.set i x).getD i d=x
 | a::r,0,_=>rfl
 | a::r,i+1,h=>fu d x r i (BG h)
theorem tJ {α:Type} (d x:α):∀(l:List α) (i j:Nat),i≠j->(l.set i x).getD j d=l.getD j d
 | [],_,_,_=>rfl
 | a::r,0,0,h=>absurd rfl h
 | a::r,0,j+1,_=>rfl
 | a::r,i+1,0,_=>rfl
 | a::r,i+1,j+1,h=>tJ d x r i j (λe=>h (by rw[e]))
def fO (s:cZ) (kd at_:Int):List (Int×Bool):=(s.bl.filter λe=>decide (e.kind=kd/\e.loc=at_)).map λe=>(e.page,(bc s.bu e.page).1.zero)
def bY (ss:List cZ) (kd at_:Int):List (Int×Bool):=ss.flatMap λs=>fO s kd at_
def dB (hs:List bD) (p:Int):Option bD:=hs.find? λs=>decide (s.page=p)
def fE (hs:List bD) (p:Int):ByteArray:=match dB hs p with
 | some s=>o9 s
 | none=>⟨#[]⟩
def vQ:ByteArray:=⟨#[0,0,0,0,0,0,0,0,0,0,0,0,0,0,0,0]⟩
def fM (hs:List bD) (p:Int) (z:Bool):ByteArray:=if z then vQ else fE hs p
def tK (nf ns:Nat) (ar:List aU) (e:bK):Prop:=(bc ar e.page).2=true/\((e.kind=1/\0<=e.loc/\e.loc<nf)\/(e.kind=2/\0<=e.loc/\e.loc<ns))
structure sQ (hs:List bD) (nf ns:Nat) (s:cZ):Prop where
 dead:s.live=false->s.bu=[]/\s.bl=[]
 bu:bf s.bu=0
 m9:(s.bl.map (·.page)).Pairwise (·<·)
 MQ:∀e∈s.bl,tK nf ns s.bu e
 aD:∀p,(bc s.bu p).2=true->(bc s.bu p).1.zero=false->(dB hs p).isSome=true
structure lB (hs:List bD) (L:List (Int×Bool)) (f:ko):Prop where
 refs:f.refs=L.length
 zero:L=[]->f=eG
 one:∀x∈L,∀y∈L,x=y
 size:L≠[]->f.data.size=16
 fill:f.ja=false->∀x∈L,f.data=fM hs x.1 x.2
structure mN (L:List (Int×Bool)) (s:mJ):Prop where
 refs:s.refs=L.length
 zero:L=[]->s=gP
 one:∀x∈L,∀y∈L,x=y
 size:L≠[]->s.data.size=16
def iU (l:List cZ):Nat->Int
 | 0=>0
 | k+1=>iU l k+bR (ak l k).bu
def dJ (l:List cZ):Int:=iU l l.length
def lh (k:aT):Bool:=decide ((3<=k.frames.length/\k.frames.length<=64)/\k.slots.length<=512/\(1<=k.aj.length/\k.aj.length<=4)/\k.aD.length<=255)
structure bg (k:aT):Prop where
 counts:lh k=true
 m9:dR k.aD=true
 hand:0<=k.hand/\k.hand<k.frames.length
 each:∀s∈k.aj,sQ k.aD k.frames.length k.slots.length s
 room:dJ k.aj<=k.slots.length
 Bt:∀i:Nat,i<k.frames.length->lB k.aD (bY k.aj 1 i) (aK k.frames i)
 slt:∀i:Nat,i<k.slots.length->mN (bY k.aj 2 i) (bI k.slots i)
theorem bg.c (h:bg k):(3<=k.frames.length/\k.frames.length<=64)/\k.slots.length<=512/\(1<=k.aj.length/\k.aj.length<=4)/\k.aD.length<=255:=kr h.counts
theorem LP (a:Int):bY [] kd a=[]:=rfl
theorem lu (s:cZ) (r:List cZ) (kd a:Int):bY (s::r) kd a=fO s kd a++bY r kd a:=oF
theorem Fk (l r:List cZ) (kd a:Int):bY (l++r) kd a=bY l kd a++bY r kd a:=wk
theorem uI {s:cZ} {kd a:Int}:x∈fO s kd a↔∃e∈s.bl,e.kind=kd/\e.loc=a/\x=(e.page,(bc s.bu e.page).1.zero):=by
 grind [fO]
theorem oK {kd a:Int}:x∈bY ss kd a↔∃s∈ss,∃e∈s.bl,e.kind=kd/\e.loc=a/\x=(e.page,(bc s.bu e.page).1.zero):=by
 grind [bY,uI]
theorem zT:∀(l:List cZ) (j:Nat) (s:cZ) (kd a:Int),j<l.length->∃u v,bY l kd a=u++(fO (ak l j) kd a++v)/\bY (l.set j s) kd a=u++(fO s kd a++v)
 | x::r,0,s,kd,a,_=>⟨[],bY r kd a,lu x r kd a,lu s r kd a⟩
 | x::r,j+1,s,kd,a,h=>by
  obtain⟨u,v,h1,h2⟩:=zT r j s kd a (BG h);refine⟨fO x kd a++u,v,?_,?_⟩
  . rw[lu,h1,wj];rfl
  grind [lu]
theorem ub (f:cZ->cZ) (kd a:Int) (kd' a':Int):∀(l:List cZ),(∀s∈l,fO (f s) kd a=fO s kd' a')->bY (l.map f) kd a=bY l kd' a'
 | [],_=>rfl
 | x::r,h=>by
  rw[Kl,lu,lu,h x Hn,ub f kd a kd' a' r (λs hs=>h s (Kv _ hs))]
theorem qy (f:cZ->cZ) (kd a:Int):∀(l:List cZ),(∀s∈l,fO (f s) kd a=[])->bY (l.map f) kd a=[]
 | [],_=>rfl
 | x::r,h=>by
  rw[Kl,lu,h x Hn,qy f kd a r (λs hs=>h s (Kv _ hs))];rfl
theorem uU (l m:List cZ):∀k,(∀i,i<k->(ak l i).bu=(ak m i).bu)->iU l k=iU m k
 | 0,_=>rfl
 | k+1,h=>by rw[iU,iU,uU l m k (λi hi=>h i (Nat.lt_succ_of_lt hi)),h k (Kp k)]
def ky (es:List bK):Prop:=(es.map (·.page)).Pairwise (·<·)
def bH (es:List bK) (p:Int):Option bK:=es.find? λe=>decide (e.page=p)
theorem LM {a:bK} {r:List bK} (h:ky (a::r)):ky r/\∀e∈r,a.page<e.page:=by
 have:=BH.1 h;exact⟨this.2,λe he=>this.1 _ (List.mem_map_of_mem he)⟩
theorem iY:∀{es:List bK} {p:Int} {e:bK},ky es->(bH es p=some e↔e∈es/\e.page=p)
 | [],p,e,_=>by simp[bH]
 | a::r,p,e,h=>by
  have hr:=LM h;by_cases c:a.page=p
  . grind [bH]
  have:bH (a::r) p=bH r p:=by simp[bH,c]
  rw[this,iY hr.1]
  grind
theorem vR {p:Int}:bH es p=none↔∀e∈es,e.page≠p:=by
 grind [bH]
def mX:List bK->bK->List bK
 | [],e=>[e]
 | a::r,e=>if a.page<e.page then a::mX r e else if a.page=e.page then e::r else e::a::r
theorem wQ:∀{es:List bK} {e:bK},ky es->∃pre post,es=pre++((bH es e.page).toList++post)/\mX es e=pre++e::post/\(∀x∈pre,x.page<e.page)/\∀x∈post,e.page<x.page
 | [],e,_=>⟨[],[],rfl,rfl,ξ,ξ⟩
 | a::r,e,h=>by
  have hr:=LM h;unfold mX;by_cases c:a.page<e.page
  . obtain⟨pre,post,h1,h2,h3,h4⟩:=wQ (es:=r) (e:=e) hr.1;have:bH (a::r) e.page=bH r e.page:=by grind [bH]
    grind
  rw[aH c];by_cases d:a.page=e.page
  . have:bH (a::r) e.page=some a:=by simp[bH,d]
    rw[aQ d,this];exact⟨[],r,rfl,rfl,ξ,λx hx=>Γ⟩
  have:bH (a::r) e.page=none:=vR.2 λx hx=>by
   grind
  rw[aH d,this];refine⟨[],a::r,rfl,rfl,ξ,λx hx=>?_⟩
  grind
theorem aaK {pre post:List bK} (hp:ky pre) (hq:ky post) (h1:∀x∈pre,x.page<e.page) (h2:∀x∈post,e.page<x.page):ky (pre++e::post):=by
 grind [ky,List.pairwise_cons]
theorem CS {a b:List bK} (h:ky (a++b)):ky a/\ky b:=by
 grind [ky]
theorem Ov (h:ky es):ky (mX es e):=by
 obtain⟨b,post,h1,h2,h3,h4⟩:=wQ (e:=e) h;rw[h2];rw[h1] at h;exact aaK (CS h).1 (CS (CS h).2).2 h3 h4
def jN (ar:List aU) (kd a:Int) (es:List bK):List (Int×Bool):=(es.filter λe=>decide (e.kind=kd/\e.loc=a)).map λe=>(e.page,(bc ar e.page).1.zero)
theorem zU (s:cZ) (kd a:Int):fO s kd a=jN s.bu kd a s.bl:=rfl
theorem mv (a:Int) (l r:List bK):jN ar kd a (l++r)=jN ar kd a l++jN ar kd a r:=by grind [jN]
theorem xQ (a:Int) (e:bK) (r:List bK):jN ar kd a (e::r)=jN ar kd a [e]++jN ar kd a r:=mv ar kd a [e] r
theorem qU {kd a:Int} (h:e.kind=kd/\e.loc=a):jN ar kd a [e]=[(e.page,(bc ar e.page).1.zero)]:=by simp[jN,h]
theorem nM {kd a:Int} (h:¬(e.kind=kd/\e.loc=a)):jN ar kd a [e]=[]:=by
 grind [jN]
theorem Nj {ar:List aU} {kd a:Int}:x∈jN ar kd a es↔∃e∈es,e.kind=kd/\e.loc=a/\x=(e.page,(bc ar e.page).1.zero):=uI (s:=⟨true,ar,es⟩)
theorem LO {ar:List aU} {kd a:Int} (h:∀e∈es,¬(e.kind=kd/\e.loc=a)):jN ar kd a es=[]:=by
 simp_all [ae0,Nj]
theorem Ck {l:List cZ} {j:Nat} (h:j<l.length):ak l j∈l:=kT h
theorem bg.sp (h:bg k) {j:Nat} (hj:j<k.aj.length):sQ k.aD k.frames.length k.slots.length (ak k.aj j):=h.each _ (Ck hj)
theorem j5 {j:Nat} (hj:j<ss.length) (he:e∈(ak ss j).bl):(e.page,(bc (ak ss j).bu e.page).1.zero)∈bY ss e.kind e.loc:=oK.2 ⟨_,Ck hj,e,he,rfl,rfl,rfl⟩
theorem bg.frame (h:bg k) (hf:lB k.aD (bY k.aj 1 i) f):bg { k with frames:=k.frames.set i f }:=by
 have hl:(k.frames.set i f).length=k.frames.length:=gX;refine⟨?_,h.m9,by simp_all [hand],?_,h.room,?_,h.slt⟩
 . have:=h.counts
   grind [lh]
 . grind [each]
 intro n hn;have b:n<k.frames.length:=by grind
 show lB k.aD (bY k.aj 1 n) ((k.frames.set i f).getD n eG);by_cases c:i=n
 . grind
 rw[tJ _ _ _ _ _ c];exact h.Bt n b
theorem bg.turn (h:bg k) {x:Int} (hx:0<=x/\x<k.frames.length):bg { k with hand:=x }:=⟨h.counts,h.m9,hx,h.each,h.room,h.Bt,h.slt⟩
theorem lB.seen {hs:List bD} (h:lB hs L f) (b:Bool) (hL:L≠[]):lB hs L { f with seen:=b }:=⟨h.refs,λe=>absurd e hL,h.one,h.size,h.fill⟩
theorem lB.ne {hs:List bD} (h:lB hs L f) (hr:f.refs≠0):L≠[]:=λe=>hr (by rw[h.refs,e];rfl)
theorem lB.nil {hs:List bD} (h:lB hs L f) (hr:f.refs=0):L=[]:=by
 have:=h.refs
 simp_all
theorem mN.nil {f:mJ} (h:mN L f) (hr:f.refs=0):L=[]:=by
 have:=h.refs
 simp_all
theorem lB.none:lB hs [] eG:=⟨rfl,λ_=>rfl,ξ,λh=>absurd rfl h,ξ⟩
theorem mN.none:mN [] gP:=⟨rfl,λ_=>rfl,ξ,λh=>absurd rfl h⟩
def tG (f:ko):ko:=if f.refs-1=0 then eG else { f with refs:=f.refs-1 }
def wS (f:mJ):mJ:=if f.refs-1=0 then gP else { f with refs:=f.refs-1 }
theorem lB.less {hs:List bD} {X Y:List (Int×Bool)} (h:lB hs (X++x::Y) f):lB hs (X++Y) (tG f):=by
 have hr:=h.refs;have hn:X++x::Y≠[]:=by simp
 have hm:∀y∈X++Y,y∈X++x::Y:=λy hy=>by
  grind
 rw[gM,D5] at hr;unfold tG;by_cases c:f.refs-1=0
 . rw[aQ c];have:X++Y=[]:=mR Γ
   grind [lB.none]
 rw[aH c];refine⟨?_,λe=>?_,λa ha b hb=>h.one a (hm a ha) b (hm b hb),λ_=>h.size hn,λd y hy=>h.fill d y (hm y hy)⟩
 . grind
 simp_all
theorem mN.less {X Y:List (Int×Bool)} {f:mJ} (h:mN (X++x::Y) f):mN (X++Y) (wS f):=by
 have hr:=h.refs;have hn:X++x::Y≠[]:=by simp
 have hm:∀y∈X++Y,y∈X++x::Y:=λy hy=>by
  grind
 rw[gM,D5] at hr;unfold wS;by_cases c:f.refs-1=0
 . rw[aQ c];have:X++Y=[]:=mR Γ
   grind [mN.none]
 rw[aH c];refine⟨?_,λe=>?_,λa ha b hb=>h.one a (hm a ha) b (hm b hb),λ_=>h.size hn⟩
 . grind
 simp_all
def lM (i:Int) (e:bK):Bool:=decide (e.kind=1/\e.loc=i)
def wR (i:Int) (es:List bK):List bK:=es.filter λe=>!lM i e
def jY (i s:Int) (es:List bK):List bK:=es.map λe=>if lM i e then ⟨e.page,2,s⟩ else e
def yV (l:List ko):Option Nat:=l.findIdx? λf=>decide (f.refs=0)
def yU (l:List mJ):Option Nat:=l.findIdx? λf=>decide (f.refs=0)
def oJ (i:Int) (s:cZ):cZ:={ s with bl:=wR i s.bl }
def kJ (i s:Int) (sp:cZ):cZ:={ sp with bl:=jY i s sp.bl }
def A3 (k:aT) (i:Nat):aT:={ k with frames:=k.frames.set i eG,aj:=k.aj.map (oJ i) }
def Gm (k:aT) (i s:Nat):aT:={ k with frames:=k.frames.set i eG,slots:=k.slots.set s ⟨(aK k.frames i).data,(aK k.frames i).refs⟩,aj:=k.aj.map (kJ i s) }
def fe (k:aT) (i:Nat):aT:=if (aK k.frames i).ja then (match yU k.slots with
 | some s=>Gm k i s
 | none=>A3 k i) else A3 k i
def fq (k:aT) (j:Nat) (p:Int):ByteArray:=match bH (ak k.aj j).bl p with
 | some e=>if e.kind=1 then (aK k.frames e.loc.toNat).data else (bI k.slots e.loc.toNat).data
 | none=>fM k.aD p (bc (ak k.aj j).bu p).1.zero
theorem Oy {α β:Type} (f:α->β) (d:α) (d':β):∀(l:List α) (i:Nat),i<l.length->(l.map f).getD i d'=f (l.getD i d)
 | a::r,0,_=>rfl
 | a::r,i+1,h=>Oy f d d' r i (BG h)
theorem yT {i:Int}:lM i e=true↔e.kind=1/\e.loc=i:=by simp[lM]
theorem pA {i:Int}:lM i e=false↔¬(e.kind=1/\e.loc=i):=by simp[lM]
theorem AV {i:Int}:e∈wR i es↔e∈es/\¬(e.kind=1/\e.loc=i):=by
 grind [wR,pA]
theorem Ow {i:Int} (h:ky es):ky (wR i es):=List.Pairwise.sublist (List.filter_sublist.map _) h
theorem TY (i s:Int) (es:List bK):(jY i s es).map (·.page)=es.map (·.page):=by
 grind [jY,List.map_congr_left]
theorem LH {i s:Int} (h:ky es):ky (jY i s es):=by grind [ky,TY]
theorem Cj {i s:Int} {x:bK}:x∈jY i s es↔(x∈es/\¬(x.kind=1/\x.loc=i))\/∃e∈es,(e.kind=1/\e.loc=i)/\x=⟨e.page,2,s⟩:=by
 grind [jY,pA]
theorem Vz (i kd a:Int) (es:List bK) (h:¬(kd=1/\a=i)):jN ar kd a (wR i es)=jN ar kd a es:=by
 unfold jN wR;rw[List.filter_filter]
 grind [pA]
theorem yu (i:Int) (es:List bK):jN ar 1 i (wR i es)=[]:=LO λe he=>(AV.1 he).2
theorem JQ (ar:List aU) (i s kd a:Int) (h:¬(kd=1/\a=i)) (h2:¬(kd=2/\a=s)):∀es:List bK,jN ar kd a (jY i s es)=jN ar kd a es
 | []=>rfl
 | e::r=>by
  have e1:jY i s (e::r)=(if lM i e then ⟨e.page,2,s⟩ else e)::jY i s r:=rfl;rw[e1,xQ,xQ ar kd a e r,JQ ar i s kd a h h2 r]
  grind [nM,pA]
theorem Gt (i s:Int) (es:List bK):jN ar 1 i (jY i s es)=[]:=LO λe he g=>by
 grind [Cj]
theorem IU (ar:List aU) (i s:Int):∀es:List bK,(∀e∈es,¬(e.kind=2/\e.loc=s))->jN ar 2 s (jY i s es)=jN ar 1 i es
 | [],_=>rfl
 | e::r,h=>by
  have e1:jY i s (e::r)=(if lM i e then ⟨e.page,2,s⟩ else e)::jY i s r:=rfl;rw[e1,xQ,xQ ar 1 i e r,IU ar i s r (λx hx=>h x (Kv _ hx))]
  grind [qU,pA,nM]
theorem Ou (f:cZ->cZ) (hf:∀s,(f s).bu=s.bu) (l:List cZ):dJ (l.map f)=dJ l:=by
 grind [dJ,uU,ak]
theorem bg.aqs (h:bg k) (hi:i<k.frames.length):bg (A3 k i):=by
 have hl:(k.frames.set i eG).length=k.frames.length:=gX;have hm:(k.aj.map (oJ i)).length=k.aj.length:=jw ..;refine⟨?_,h.m9,by show 0<=k.hand/\k.hand<((k.frames.set i eG).length:Int);simp_all [hand],?_,?_,?_,?_⟩
 . have:=h.counts
   grind [lh,A3]
 . show ∀s∈k.aj.map (oJ i),sQ k.aD (k.frames.set i eG).length k.slots.length s;rw[hl];intro s hs;obtain⟨s,q,rfl⟩:=zB.1 hs;have g:=h.each s q;exact⟨λd=>⟨(g.dead d).1,by show wR i s.bl=[];rw[(g.dead d).2];rfl⟩,g.bu,Ow g.m9,λe he=>g.MQ e (AV.1 he).1,g.aD⟩
 . show dJ (k.aj.map (oJ i))<=_;rw[Ou (oJ i) (λ_=>rfl)];exact h.room
 . intro n hn;have b:n<k.frames.length:=by rw[<- hl];exact hn
   show lB k.aD (bY (k.aj.map (oJ i)) 1 n) ((k.frames.set i eG).getD n eG);by_cases c:i=n
   . subst c;rw[fu _ _ _ _ b,qy (oJ i) 1 i _ (λs _=>yu s.bu i s.bl)];exact lB.none _
   rw[tJ _ _ _ _ _ c,ub (oJ i) 1 n 1 n _ (λs _=>Vz s.bu i 1 n s.bl ω)];exact h.Bt n b
 intro n hn;show mN (bY (k.aj.map (oJ i)) 2 n) (bI k.slots n);rw[ub (oJ i) 2 n 2 n _ (λs _=>Vz s.bu i 2 n s.bl ω)];exact h.slt n hn
theorem bg.apn (h:bg k) {s:Nat} (hi:i<k.frames.length) (hs:s<k.slots.length) (hf:bY k.aj 2 s=[]):bg (Gm k i s):=by
 have hl:(k.frames.set i eG).length=k.frames.length:=gX;have r:(k.slots.set s ⟨(aK k.frames i).data,(aK k.frames i).refs⟩).length=k.slots.length:=gX;have hm:(k.aj.map (kJ i s)).length=k.aj.length:=jw ..;have y:∀sp∈k.aj,∀e∈sp.bl,¬(e.kind=2/\e.loc=(s:Int)):=λsp q e he g=>by
  have:(e.page,(bc sp.bu e.page).1.zero)∈bY k.aj 2 s:=oK.2 ⟨sp,q,e,he,g.1,g.2,rfl⟩
  grind
 refine⟨?_,h.m9,by show 0<=k.hand/\k.hand<((k.frames.set i eG).length:Int);simp_all [hand],?_,?_,?_,?_⟩
 . have:=h.counts
   grind [lh,Gm]
 . show ∀sp∈k.aj.map (kJ i s),sQ k.aD (k.frames.set i eG).length (k.slots.set s ⟨(aK k.frames i).data,(aK k.frames i).refs⟩).length sp;rw[hl,r];intro sp q;obtain⟨sp,A,rfl⟩:=zB.1 q;have g:=h.each sp A;refine⟨λd=>⟨(g.dead d).1,by show jY i s sp.bl=[];rw[(g.dead d).2];rfl⟩,g.bu,LH g.m9,λe he=>?_,g.aD⟩;rcases Cj.1 he with x | ⟨x,hx,hc,rfl⟩
   . exact g.MQ e x.1
   exact⟨(g.MQ x hx).1,.inr ⟨rfl,Γ,Γ⟩⟩
 . show dJ (k.aj.map (kJ i s))<=((k.slots.set s ⟨(aK k.frames i).data,(aK k.frames i).refs⟩).length:Int);rw[r,Ou (kJ i s) (λ_=>rfl)];exact h.room
 . intro n hn;have b:n<k.frames.length:=by rw[<- hl];exact hn
   show lB k.aD (bY (k.aj.map (kJ i s)) 1 n) ((k.frames.set i eG).getD n eG);by_cases c:i=n
   . subst c;rw[fu _ _ _ _ b,qy (kJ i s) 1 i _ (λsp _=>Gt sp.bu i s sp.bl)];exact lB.none _
   rw[tJ _ _ _ _ _ c,ub (kJ i s) 1 n 1 n _ (λsp _=>JQ sp.bu i s 1 n ω ω sp.bl)];exact h.Bt n b
 intro n hn;have b:n<k.slots.length:=by rw[<- r];exact hn
 show mN (bY (k.aj.map (kJ i s)) 2 n) ((k.slots.set s ⟨(aK k.frames i).data,(aK k.frames i).refs⟩).getD n gP);by_cases c:s=n
 . subst c;rw[fu _ _ _ _ b,ub (kJ i s) 2 s 1 i _ (λsp q=>IU sp.bu i s sp.bl (y sp q))];have g:=h.Bt i hi;exact⟨g.refs,λe=>by rw[g.zero e];rfl,g.one,g.size⟩
 rw[tJ _ _ _ _ _ c,ub (kJ i s) 2 n 2 n _ (λsp _=>JQ sp.bu i s 2 n ω ω sp.bl)];exact h.slt n b
theorem Vx:∀(n:Nat) (L:List Int),(∀i:Nat,i<n->(i:Int)∈L)->n<=L.length
 | 0,_,_=>rB _
 | n+1,L,h=>by
  have hn:=h n (Kp n);have:=Vx n (L.erase (n:Int)) (λi hi=>(Qn ω).2 (h i ω))
  grind
def yA (ss:List cZ):List bK:=ss.flatMap (·.bl)
theorem yx {hs:List bD} {nf ns:Nat} {s:cZ} (g:sQ hs nf ns s):(s.bl.length:Int)<=bR s.bu:=by
 rw[SH g.bu];have:=Af (gG s.bu) (s.bl.map (·.page)) g.m9 (NG g.bu).sorted (λx hx=>by
  obtain⟨e,he,rfl⟩:=zB.1 hx;exact(Ms g.bu _).1 (g.MQ e he).1)
 grind
theorem Ng (l r:List cZ):∀k,k<=l.length->iU (l++r) k=iU l k:=λk hk=>uU _ _ _ λi hi=>by
 grind [ak]
theorem LL (l:List cZ) (s:cZ):dJ (l++[s])=dJ l+bR s.bu:=by
 simp[dJ,iU,Ng,ak]
theorem GI:∀(m:Nat) (l:List cZ),l.length=m->(∀s∈l,(s.bl.length:Int)<=bR s.bu)->((yA l).length:Int)<=dJ l
 | 0,l,h,_=>by
  have:l=[]:=mR h;subst this;exact Bx _
 | m+1,l,h,hs=>by
  have hne:l≠[]:=λe=>by grind
  obtain⟨l',s,rfl⟩:∃l' s,l=l'++[s]:=⟨l.dropLast,l.getLast hne,(aeY hne).symm⟩;rw[LL];have:=GI m l' Γ (λx hx=>hs x (mj.2 (.inl hx)))
  grind [yA]
theorem bg.slot (h:bg k) (hi:i<k.frames.length) (hr:(aK k.frames i).refs≠0):∃s,yU k.slots=some s/\s<k.slots.length/\bY k.aj 2 s=[]:=by
 cases hf:yU k.slots with
 | some s =>
  obtain⟨h1,h2,_⟩:=Qs.1 hf
  grind [bI,slt,mN.nil]
 | none =>
  exfalso;have q:=Wq.1 hf;have r:∀n:Nat,n<k.slots.length->∃e∈yA k.aj,e.kind=2/\e.loc=(n:Int):=λn hn=>by
   have h1:=q (bI k.slots n) (kT hn);have h2:=(h.slt n hn).refs;have h3:bY k.aj 2 n≠[]:=λe=>by
    grind
   obtain⟨x,hx⟩:=Ky _ h3;obtain⟨s,hs,e,he,g1,g2,_⟩:=oK.1 hx;exact⟨e,uP.2 ⟨s,hs,he⟩,g1,g2⟩
  have hp:=Vx k.slots.length (((yA k.aj).filter λe:bK=>decide (e.kind=2)).map (·.loc)) (λn hn=>by
   grind)
  rw[jw] at hp;have b:=GI _ k.aj rfl (λs hs=>yx (h.each s hs));have y:=h.room;obtain⟨x,hx⟩:=Ky _ ((h.Bt i hi).ne hr)
  grind [oK,yA,List.length_filter_eq_length_iff]
theorem bg.aside (h:bg k) (hi:i<k.frames.length) (hr:(aK k.frames i).refs≠0):bg (fe k i):=by
 grind [fe,slot,apn,aqs]
def eT (s:cZ) (es:List bK):cZ:=⟨s.live,s.bu,es⟩
def ek (k:aT) (e:bK):aT:=if e.kind=1 then { k with frames:=k.frames.set e.loc.toNat (tG (aK k.frames e.loc.toNat)) } else { k with slots:=k.slots.set e.loc.toNat (wS (bI k.slots e.loc.toNat)) }
def gA (k:aT) (j:Nat) (e:bK):aT:={ k with aj:=k.aj.set j (eT (ak k.aj j) (mX (ak k.aj j).bl e)) }
def jb (k:aT) (i:Nat) (d:ByteArray) (dy:Bool):aT:={ k with frames:=k.frames.set i ⟨d,1,dy,false⟩ }
def ft (k:aT) (j:Nat) (p:Int) (i:Nat) (d:ByteArray) (dy:Bool):aT:=match bH (ak k.aj j).bl p with
 | none=>gA (jb k i d dy) j ⟨p,1,i⟩
 | some e=>ek (gA (jb k i d dy) j ⟨p,1,i⟩) e
theorem IV {j:Nat} (hj:j<ss.length) (e:bK) (hr:ky (ak ss j).bl) (kd a:Int):∃X Y,bY ss kd a=X++(jN (ak ss j).bu kd a (bH (ak ss j).bl e.page).toList++Y)/\bY (ss.set j (eT (ak ss j) (mX (ak ss j).bl e))) kd a=X++(jN (ak ss j).bu kd a [e]++Y):=by
 obtain⟨b,post,h1,h2,_,_⟩:=wQ (e:=e) hr;obtain⟨u,v,g1,g2⟩:=zT ss j (eT (ak ss j) (mX (ak ss j).bl e)) kd a hj;refine⟨u++jN (ak ss j).bu kd a b,jN (ak ss j).bu kd a post++v,?_,?_⟩
 . grind [zU,mv]
 rw[g2,zU];show u++(jN (ak ss j).bu kd a (mX (ak ss j).bl e)++v)=_
 grind [mv,xQ]
theorem RQ (h:ky es) (e:bK) (p:Int):bH (mX es e) p=if p=e.page then some e else bH es p:=by
 have hp:=Ov (e:=e) h;obtain⟨b,post,h1,h2,h3,h4⟩:=wQ (e:=e) h
 grind [iY,vR]
theorem kQ (l:List cZ) (j n:Nat) (s:cZ) (hj:j<l.length):ak (l.set j s) n=if j=n then s else ak l n:=by
 grind [ak]
theorem j6 (l:List ko) (j n:Nat) (s:ko) (hj:j<l.length):aK (l.set j s) n=if j=n then s else aK l n:=by
 grind [aK]
theorem yQ (l:List mJ) (j n:Nat) (s:mJ) (hj:j<l.length):bI (l.set j s) n=if j=n then s else bI l n:=by
 grind [bI]
theorem Cl (l:List cZ) (j:Nat) (s:cZ) (hj:j<l.length) (ha:s.bu=(ak l j).bu):dJ (l.set j s)=dJ l:=by
 grind [dJ,uU,kQ]
structure ki (k:aT) (j:Nat) (p:Int) (i:Nat) (d:ByteArray) (dy:Bool):Prop where
 right:bg k
 hj:j<k.aj.length
 hp:(bc (ak k.aj j).bu p).2=true
 hi:i<k.frames.length
 free:bY k.aj 1 i=[]
 size:d.size=16
 fill:dy=false->d=fM k.aD p (bc (ak k.aj j).bu p).1.zero
theorem jO (h:bg k) {j:Nat} (hj:j<k.aj.length) (he:e∈(ak k.aj j).bl):(e.kind=1/\(e.loc.toNat:Int)=e.loc/\e.loc.toNat<k.frames.length)\/(e.kind=2/\(e.loc.toNat:Int)=e.loc/\e.loc.toNat<k.slots.length):=by
 rcases((h.sp hj).MQ e he).2 with g | g
 . omega
 omega
theorem py (k:aT) (j:Nat) (p:Int) (i:Nat) (d:ByteArray) (dy:Bool) (m:ki k j p i d dy):(ft k j p i d dy).frames.length=k.frames.length/\(ft k j p i d dy).slots.length=k.slots.length/\(ft k j p i d dy).aD=k.aD/\(ft k j p i d dy).hand=k.hand/\(ft k j p i d dy).aj=k.aj.set j (eT (ak k.aj j) (mX (ak k.aj j).bl ⟨p,1,i⟩)) /\
  (∀n,aK (ft k j p i d dy).frames n=if n=i then ⟨d,1,dy,false⟩ else match bH (ak k.aj j).bl p with
   | some e=>if e.kind=1/\e.loc=(n:Int) then tG (aK k.frames n) else aK k.frames n
   | none=>aK k.frames n) /\
  (∀n,bI (ft k j p i d dy).slots n=match bH (ak k.aj j).bl p with
   | some e=>if e.kind=2/\e.loc=(n:Int) then wS (bI k.slots n) else bI k.slots n
   | none=>bI k.slots n):=by
 have hr:=(m.right.sp m.hj).m9;unfold ft;cases g:bH (ak k.aj j).bl p with
 | none =>
  refine⟨gX,rfl,rfl,rfl,rfl,λn=>?_,λn=>rfl⟩;show aK (k.frames.set i _) n=_
  grind [j6,ki.hi]
 | some e =>
  have he:=(iY hr).1 g;have h:e.kind=1->e.loc.toNat≠i:=λh1 h2=>by
   have:=j5 m.hj he.1;rcases jO m.right m.hj he.1 with b | b
   . grind [ki.free]
   omega
  dsimp only;unfold ek;rcases jO m.right m.hj he.1 with b | b
  . rw[aQ b.1];have h:=h b.1;refine⟨by show((k.frames.set i _).set _ _).length=_;grind,rfl,rfl,rfl,rfl,λn=>?_,λn=>?_⟩
    . show aK ((k.frames.set i _).set _ (tG (aK (k.frames.set i _) _))) n=_
      grind [j6,ki.hi]
    show bI k.slots n=if e.kind=2/\e.loc=(n:Int) then _ else _
    grind
  rw[aH ω];refine⟨gX,gX,rfl,rfl,rfl,λn=>?_,λn=>?_⟩
  . show aK (k.frames.set i _) n=if n=i then _ else if e.kind=1/\e.loc=(n:Int) then _ else _
    grind [j6,ki.hi]
  show bI (k.slots.set _ (wS (bI k.slots _))) n=if e.kind=2/\e.loc=(n:Int) then _ else _
  grind [yQ]
theorem yw {j:Nat} {p:Int} {d:ByteArray} {dy:Bool} (m:ki k j p i d dy):bg (ft k j p i d dy):=by
 have h:=m.right;have b:=h.sp m.hj;obtain⟨f1,f2,f3,f4,f5,f6,f7⟩:=py k j p i d dy m;have A:(ft k j p i d dy).aj.length=k.aj.length:=by grind
 refine⟨?_,by rw[f3];exact h.m9,by simp_all [bg.hand],?_,?_,?_,?_⟩
 . have:=h.counts
   grind [lh]
 . rw[f1,f2,f3,f5];intro s hs;rcases aeW hs with g | rfl
   . exact h.each s g
   refine⟨λdd=>?_,b.bu,Ov b.m9,λe he=>?_,b.aD⟩
   . have:=m.hp;rw[(b.dead dd).1] at this;cases this
   obtain⟨q,post,h1,h2,_,_⟩:=wQ (e:=(⟨p,1,i⟩:bK)) b.m9;rw[show(eT (ak k.aj j) (mX (ak k.aj j).bl ⟨p,1,i⟩)).bl=q++⟨p,1,i⟩::post from h2] at he;have r:∀x,x∈q\/x∈post->x∈(ak k.aj j).bl:=λx hx=>by
    grind
   rcases mj.1 he with g | g
   . exact b.MQ e (r e (.inl g))
   rcases rC.1 g with rfl | g
   . exact⟨m.hp,.inl ⟨rfl,Γ,by show(i:Int)<_;have:=m.hi;omega⟩⟩
   exact b.MQ e (r e (.inr g))
 . rw[f2,f5,Cl _ _ (eT (ak k.aj j) (mX (ak k.aj j).bl ⟨p,1,i⟩)) m.hj rfl];exact h.room
 . intro n hn;rw[f1] at hn;rw[f3,f5,f6];obtain⟨X,Y,h1,h2⟩:=IV m.hj ⟨p,1,i⟩ b.m9 1 n;rw[h2];by_cases c:n=i
   . subst c;rw[aQ rfl,qU _ (e:=(⟨p,1,n⟩:bK)) ⟨rfl,rfl⟩];rw[m.free] at h1;have hX:X=[]:=(Qo.1 h1.symm).1;have hY:Y=[]:=(Qo.1 (Qo.1 h1.symm).2).2;subst hX hY;refine⟨rfl,λe=>(by cases e),λx hx y hy=>?_,λ_=>m.size,λe x hx=>?_⟩
     . grind
     grind [ki.fill]
   rw[aH c,nM _ (e:=(⟨p,1,i⟩:bK)) (λg=>c Γ)];have hf:=h.Bt n hn;rw[h1] at hf;cases g:bH (ak k.aj j).bl p with
   | none =>
    rw[g] at hf;exact hf
   | some e =>
    grind [qU,nM,lB.less]
 intro n hn;rw[f2] at hn;rw[f5,f7];obtain⟨X,Y,h1,h2⟩:=IV m.hj ⟨p,1,i⟩ b.m9 2 n;rw[h2,nM _ (e:=(⟨p,1,i⟩:bK)) (λg=>Γ)];have hf:=h.slt n hn;rw[h1] at hf;cases g:bH (ak k.aj j).bl p with
 | none =>
  rw[g] at hf;exact hf
 | some e =>
  grind [qU,nM,mN.less]
end Go.Proofs.YtlgoihmkgaaemaaGreat
