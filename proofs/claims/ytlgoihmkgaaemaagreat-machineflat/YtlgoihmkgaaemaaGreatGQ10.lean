import Derived.Test.YtlgoihmkgaaemaaGreatGQ09
set_option maxHeartbeats 20000000
set_option linter.unusedVariables false
set_option maxRecDepth 100000
set_option linter.unusedSimpArgs false
namespace Go.Proofs.YtlgoihmkgaaemaaGreat
open Go.RowKit Tryz
variable {all:List fy} {ix:List Nat} {hs:List bC} {l:List aX} {V:World} {rb:Nat} {p way:Int} (s:ByteArray)
theorem abm (h:jk all=0):all.length<=7/\(∀k,k<all.length->gQ (bV all k).i=0)/\∃ix E,sS all all.length 0 [0]=some ix/\eQ all 1 ix<=256/\oD (bM all 1 ix)=some E:=by
 unfold jk at h;by_cases h7:7<all.length
 . rw[aC h7] at h;cases h
 rw[aB h7] at h;by_cases hb:pN all=0
 . rw[aC hb] at h;refine⟨ω,(LK hb).1,?_⟩;cases hg:sS all all.length 0 [0] with
   | none=>rw[hg] at h;cases h
   | some ix =>
    rw[hg] at h;simp only at h;by_cases he:256<eQ all 1 ix
    . rw[aC he] at h;cases h
    rw[aB he] at h;cases hs:oD (bM all 1 ix) with
    | none=>rw[hs] at h;cases h
    | some E=>exact⟨ix,E,rfl,ω,hs⟩
 rw[aB hb] at h;exact(hb h).elim
theorem I0 {l:List fw}:∀{n:Nat} {E:List yM},lN l n=some E->∀k,k<n->∃ps,uK l (bE l k)=some ps
 | 0,E,_,k,hk=>by omega
 | n+1,E,h,k,hk=>by
  cases e:lN l n with
  | none=>rw[wW e (n+1) ω] at h;cases h
  | some E' =>
   by_cases hkn:k=n
   . subst hkn;cases g:uK l (bE l k) with
     | none=>simp only[lN,e,g] at h;cases h
     | some ps=>exact⟨ps,rfl⟩
   exact I0 e k ω
theorem abk (hc:∀j,j<all.length->gQ (bV all j).i=0) (hx:nk all ix) (he:eQ all 1 ix<=256) (n:Nat) (hn:n<(bM all 1 ix).length) :
  1<=(bE (bM all 1 ix) n).base/\kK (bE (bM all 1 ix) n)<=256:=by
 rw[cC] at hn;have h2:=iU all ix 1 n hn;have hb:=pd all hc (ix.take n) 1 (λj hj=>hx.lt j (KC hj));have ht:=xy all hc ix 1 (n+1) hx.lt;rw[GA ix n hn,ue] at ht;unfold kK at ht ⊢;rw[h2.1,h2.2.2];simp only at ht;omega
theorem ahm (o:fw) (ps:List lu) (s:pV) (n:Nat):∀x∈sQ o ps s n,x.dR.length<=ps.length:=λx hx=>by
 unfold sQ at hx;obtain⟨m,_,rfl⟩:=tD.1 hx;exact Cr _ ps
theorem Ve (o:fw) (ps:List lu):∀k,∀x∈ov o ps k,x.dR.length<=ps.length
 | 0,x,hx=>by simp[ov] at hx
 | k+1,x,hx=>by
  simp only[ov] at hx;rcases kJ.1 hx with h | h
  . exact Ve o ps k x h
  exact ahm o ps _ _ x h
theorem Vb (o:fw) (hc:gQ o.i=0) (ps:List lu):∀k,k<=o.i.fA.length->(ov o ps k).length<=k*255
 | 0,_=>by simp[ov]
 | k+1,hk=>by
  have ih:=Vb o hc ps k ω;have hb:=mz hc k ω;simp only[ov,ft];have:(sQ o ps (cQ o.i.fA k) (cQ o.i.fA k).aD.toNat).length=(cQ o.i.fA k).aD.toNat:=by simp[sQ]
  omega
theorem Od {l:List fw} (hc:∀k,k<l.length->gQ (bE l k).i=0):∀n,n<=l.length->∀E,lN l n=some E->E.length<=n*1600/\∀x∈E,x.dR.length<=16
 | 0,_,E,h=>by
  simp only[lN] at h;injection h with h;subst h;exact⟨ξ,λx hx=>by simp at hx⟩
 | n+1,hn,E,h=>by
  cases e:lN l n with
  | none=>rw[wW e (n+1) ω] at h;cases h
  | some E' =>
   obtain⟨ps,hps⟩:=I0 h n ω;have h2:=Rx e hps;rw[h2] at h;injection h with h;subst h;obtain⟨ih1,ih2⟩:=Od hc n ω E' e;have Lh:=hc n ω;have hcn:=pX Lh;have hpl:=yF hps;have hsl:=Vb (bE l n) Lh ps _ (aK _);refine⟨by rw[ft];omega,λx hx=>?_⟩;rcases kJ.1 hx with g | g
   . exact ih2 x g
   have:=Ve _ ps _ x g;omega
theorem Ta (h7:all.length<=7) (hc:∀j,j<all.length->gQ (bV all j).i=0) (hx:nk all ix) {E:List yM} (h:oD (bM all 1 ix)=some E) (hm:hs.map eZ=E) :
  bD hs.length/\∀k,k<hs.length->bD (bk hs k).dR.length:=by
 have q:=hx.le;have b:=Od (l:=bM all 1 ix) (λk hk=>by
  rw[cC] at hk;rw[(iU all ix 1 k hk).1];exact hc _ (hx.lt _ (uX ix k hk))) _ (aK _) E h
 rw[cC] at b;subst hm;rw[fI] at b;unfold bD;refine⟨ω,λk hk=>?_⟩;have h1:=b.2 (eZ (bk hs k)) (tD.2 ⟨_,by
  unfold bk;rw[cB,fF hk];exact Gk hk,rfl⟩)
 have h2:(eZ (bk hs k)).dR.length=(bk hs k).dR.length:=rfl;omega
theorem Rw {all:List fy} {ix:List Nat} {needs:List ByteArray} (h:nk all ix):∀k Lf,mA all ix needs k=some Lf->nk all Lf
 | 0,Lf,e=>by simp only[mA] at e;injection e with e;subst e;exact h
 | k+1,Lf,e=>by
  cases g:mA all ix needs k with
  | none=>rw[ES g (k+1) ω] at e;cases e
  | some jx =>
   cases q:vZ all (iy needs k) with
   | none=>rw[LA g q] at e;cases e
   | some j =>
    rw[Lz g q] at e;injection e with e;subst e;exact(Rw h k jx g).add (Co q).1
theorem ZU {all:List fy}:∀(f n:Nat) (ix Lf:List Nat),nk all ix->sS all f n ix=some Lf->nk all Lf
 | 0,n,ix,Lf,h,e=>by simp only[sS] at e;injection e with e;subst e;exact h
 | f+1,n,ix,Lf,h,e=>by
  by_cases hn:n<ix.length
  . cases g:mA all ix (uW all ix n) (uW all ix n).length with
    | none=>rw[RI all f n ix hn g] at e;cases e
    | some jx =>
     rw[RG all f n ix jx hn g] at e;exact ZU f (n+1) jx Lf (Rw h _ jx g) e
  rw[VD all (f+1) n ix hn] at e;injection e with e;subst e;exact h
theorem ahn (h:0<all.length):nk all [0]:=⟨ξ,ξ,λj hj=>by simp at hj;omega⟩
open Go.RowKit
structure I9 (l:List fw):Prop where
 chk:∀n,n<l.length->gQ (bE l n).i=0
 pg:∀n,n<l.length->1<=(bE l n).base/\kK (bE l n)<=256
 ord:∀n j,j<n->n<l.length->kK (bE l j)<=(bE l n).base
theorem akz (hc:∀j,j<all.length->gQ (bV all j).i=0) (hx:nk all ix) (he:eQ all 1 ix<=256):I9 (bM all 1 ix):=by
 refine⟨λn hn=>?_,abk hc hx he,λn j hj hn=>?_⟩
 . rw[cC] at hn;rw[(iU all ix 1 n hn).1];exact hc _ (hx.lt _ (uX ix n hn))
 rw[cC] at hn;have h2:=iU all ix 1 j ω;have e:kK (bE (bM all 1 ix) j)=eQ all 1 (ix.take (j+1)):=by
  rw[GA ix j ω,ue];unfold kK;rw[h2.1,h2.2.2]
 rw[e,(iU all ix 1 n hn).2.2];have ht:=xy all hc (ix.take n) 1 (j+1) (λq hq=>hx.lt q (KC hq));rw[TR,Kw ω] at ht;exact ht
structure GM (l:List fw) (j k m p:Nat):Prop where
 hj:j<l.length
 hk:k<(bE l j).i.fA.length
 hm:(m:Int)<(cQ (bE l j).i.fA k).aD
 hp:(p:Int)=(bE l j).base+(cQ (bE l j).i.fA k).page+(m:Int)
theorem GM.rng {l:List fw} (hg:I9 l) {j k m p:Nat} (h:GM l j k m p):(bE l j).base<=(p:Int)/\(p:Int)<kK (bE l j)/\1<=p/\p<=255:=by
 have hb:=mz (hg.chk j h.hj) k h.hk;have hl:=Oo (hg.chk j h.hj) k h.hk;have hp:=hg.pg j h.hj;have h1:=h.hm;have h2:=h.hp;unfold kK at hp ⊢;omega
/-! the fixes of a page lie one behind the other -/
def Uo:Int->List oa->Prop
 | _,[]=>True
 | e,f::r=>(e<=f.off/\f.off<=16/\1<=(f.bytes.size:Int)/\(f.bytes.size:Int)<=16-f.off)/\Uo (f.off+(f.bytes.size:Int)) r
theorem Vx:∀(l:List oa) (e:Int),Uo e l->∀k,k<l.length->xB (if k=0 then e else lO l k) (nD l k)=true
 | x::r,e,h,0,_=>by
  rw[aC rfl];exact fD h.1
 | x::r,e,h,k+1,hk=>by
  have ih:=Vx r _ h.2 k (by simpa using hk);rw[aB ω];have e1:nD (x::r) (k+1)=nD r k:=by simp[nD]
  rw[e1];cases k with
  | zero=>rw[aC rfl] at ih;exact ih
  | succ k =>
   rw[aB ω] at ih;have e2:lO (x::r) (k+1+1)=lO r (k+1):=by simp[lO,nD]
   rw[e2];exact ih
theorem I3 (l:List oa) (h:∀k,k<l.length->xB (lO l k) (nD l k)=true):∀n,n<=l.length->eO l n=true
 | 0,_=>rfl
 | n+1,hn=>by
  simp only[eO];rw[I3 l h n ω,h n ω];rfl
theorem aet {l:List oa} (h:Uo 0 l):eO l l.length=true:=by
 refine I3 l (λk hk=>?_) _ (aK _);have:=Vx l 0 h k hk;by_cases e:k=0
 . subst e;exact this
 rw[aB e] at this;exact this
def Ja:Int->List lu->Prop
 | _,[]=>True
 | e,p::r=>(e<=p.pos/\p.bytes.size=8)/\Ja (p.pos+8) r
def Ox:Int->List lu->Int
 | e,[]=>e
 | _,p::r=>Ox (p.pos+8) r
theorem LJ:∀(ps:List lu) (e:Int) (p:lu),Ja e ps->Ox e ps<=p.pos->p.bytes.size=8->Ja e (ps++[p])
 | [],e,p,_,h1,h2=>⟨⟨h1,h2⟩,trivial⟩
 | x::r,e,p,h,h1,h2=>⟨h.1,LJ r _ p h.2 h1 h2⟩
theorem LB:∀(ps:List lu) (e:Int) (p:lu),Ox e (ps++[p])=p.pos+8
 | [],_,_=>rfl
 | x::r,_,p=>LB r _ p
theorem I5 (page:Int):∀(ps:List lu) (e lo:Int),Ja lo ps->e<=max 0 (lo-page*16)->Uo e (iM page ps)
 | [],_,_,_,_=>trivial
 | p::r,e,lo,h,he=>by
  have h1:=h.1;unfold iM;rw[o8];unfold Eh;by_cases c:max (page*16) p.pos<min (page*16+16) (p.pos+8)
  . rw[aC c];have hsz:(p.bytes.extract (max (page*16) p.pos-p.pos).toNat (max (page*16) p.pos-p.pos+(min (page*16+16) (p.pos+8)-max (page*16) p.pos)).toNat).size=(min (page*16+16) (p.pos+8)-max (page*16) p.pos).toNat:=by
     rw[Bp _ _ _ ω ω];omega
    refine⟨?_,?_⟩
    . simp only;rw[hsz];omega
    simp only;rw[hsz];exact I5 page r _ (p.pos+8) h.2 ω
  rw[aB c];exact I5 page r e (p.pos+8) h.2 ω
theorem Vt {i:sO} (hc:gQ i=0) (k:Nat) (hk:k+1<i.lV.length):(ji i.lV k).pos+8<=(ji i.lV (k+1)).pos:=by
 have h:=ZW hc (k+1) hk;unfold tK at h;simp only[cK,TV] at h;rcases h.1 with g | g
 . simp at g
 simpa using g
theorem Ow {l:List fw} {o:fw} (hc:gQ o.i=0):∀(k:Nat) (ps:List lu),k<=o.i.lV.length->jQ l o k=some ps->Ja (o.base*16) ps/\(Ox (o.base*16) ps=if k=0 then o.base*16 else o.base*16+(ji o.i.lV (k-1)).pos+8)
 | 0,ps,_,h=>by simp only[jQ] at h;injection h with h;subst h;exact⟨trivial,rfl⟩
 | k+1,ps,hk,h=>by
  cases e:jQ l o k with
  | none=>rw[EP e (k+1) ω] at h;cases h
  | some qs =>
   cases g:vW l o (ji o.i.lV k).name with
   | none =>
    simp only[jQ] at h;rw[e] at h;simp only at h;rw[g] at h;cases h
   | some t =>
    rw[aed e g] at h;injection h with h;subst h;obtain⟨ih1,ih2⟩:=Ow hc k qs ω e;have hb:=EO hc k ω;have hsz:(KO o (ji o.i.lV k) t).bytes.size=8:=by
     show(⟨(Lib.leBytes 8 (kz (t+(ji o.i.lV k).add))).toArray⟩:ByteArray).size=8;rw[Lib.size_eq];simp[Lib.leBytes]
    have b:(KO o (ji o.i.lV k) t).pos=o.base*16+(ji o.i.lV k).pos:=rfl;refine⟨LJ qs _ _ ih1 ?_ hsz,?_⟩
    . rw[ih2,b];by_cases k0:k=0
      . rw[aC k0];omega
      rw[aB k0];have:=Vt hc (k-1) ω;rw[show k-1+1=k by omega] at this;omega
    rw[LB,aB ω,b,T5]
theorem aek {l:List fw} (hg:I9 l) {j k m p:Nat} (h:GM l j k m p) {ps:List lu} (hps:uK l (bE l j)=some ps) (s:bC) (h1:s.page=(p:Int)) (h2:s.data=pL (cQ (bE l j).i.fA k) m) (h3:s.dR=iM (p:Int) ps):cY s=true:=by
 have hr:=h.rng hg;have Gt:=hg.pg j h.hj;unfold cY pM;rw[fD (by rw[h1,h2,Lx];omega),tE,h3];exact aet (I5 (p:Int) ps 0 _ (Ow (hg.chk j h.hj) _ ps (aK _) hps).1 ω)
/-! each sheet has its spot -/
theorem ahs {l:List fw} (j:Nat) (hj:j<l.length) (hg:I9 l) (ps:List lu) (k:Nat) (hk:k<(bE l j).i.fA.length) (n:Nat) (hn:n<=(cQ (bE l j).i.fA k).aD.toNat):∀x∈sQ (bE l j) ps (cQ (bE l j).i.fA k) n,∃m p,GM l j k m p/\x=⟨(p:Int),pL (cQ (bE l j).i.fA k) m,iM (p:Int) ps⟩:=λx hx=>by
 unfold sQ at hx;obtain⟨m,hm,rfl⟩:=tD.1 hx;have hm':=vN.1 hm;have hb:=mz (hg.chk j hj) k hk;have hp:=hg.pg j hj;obtain⟨p,hpe⟩:∃p:Nat,(p:Int)=(bE l j).base+(cQ (bE l j).i.fA k).page+(m:Int):=⟨((bE l j).base+(cQ (bE l j).i.fA k).page+(m:Int)).toNat,ω⟩;refine⟨m,p,⟨hj,hk,ω,hpe⟩,?_⟩;unfold abu;rw[hpe]
theorem Vr {l:List fw} (j:Nat) (hj:j<l.length) (hg:I9 l) (ps:List lu):∀n,n<=(bE l j).i.fA.length->∀x∈ov (bE l j) ps n,∃k m p,k<n/\GM l j k m p/\x=⟨(p:Int),pL (cQ (bE l j).i.fA k) m,iM (p:Int) ps⟩
 | 0,_,x,hx=>by simp[ov] at hx
 | n+1,hn,x,hx=>by
  simp only[ov] at hx;rcases kJ.1 hx with h | h
  . obtain⟨k,m,p,h1,h2⟩:=Vr j hj hg ps n ω x h;exact⟨k,m,p,ω,h2⟩
  obtain⟨m,p,h2⟩:=ahs j hj hg ps n ω _ (aK _) x h;exact⟨n,m,p,ω,h2⟩
theorem Vy {l:List fw} (hg:I9 l):∀n,n<=l.length->∀E,lN l n=some E->∀x∈E,∃j k m p ps,j<n/\GM l j k m p/\uK l (bE l j)=some ps/\x=⟨(p:Int),pL (cQ (bE l j).i.fA k) m,iM (p:Int) ps⟩
 | 0,_,E,h,x,hx=>by
  simp only[lN] at h;injection h with h;subst h;simp at hx
 | n+1,hn,E,h,x,hx=>by
  cases e:lN l n with
  | none=>rw[wW e (n+1) ω] at h;cases h
  | some E' =>
   obtain⟨ps,hps⟩:=I0 h n ω;rw[Rx e hps] at h;injection h with h;subst h;rcases kJ.1 hx with g | g
   . obtain⟨j,k,m,p,qs,h1,h2⟩:=Vy hg n ω E' e x g;exact⟨j,k,m,p,qs,ω,h2⟩
   obtain⟨k,m,p,h1,h2,h3⟩:=Vr n ω hg ps _ (aK _) x g;exact⟨n,k,m,p,ps,ω,h2,hps,h3⟩
/-! .. and each spot its sheet; the pages rise -/
/-! the board has the same pages -/
theorem ahq {l:List fw} (hg:I9 l) {E:List yM} (hE:oD l=some E) (hm:hs.map eZ=E) (i:Nat) (hi:i<hs.length):∃j k m p ps,GM l j k m p/\uK l (bE l j)=some ps/\(bk hs i).page=(p:Int)/\(bk hs i).data=pL (cQ (bE l j).i.fA k) m/\(bk hs i).dR=iM (p:Int) ps:=by
 have b:eZ (bk hs i)∈E:=by
  rw[<- hm];refine tD.2 ⟨_,?_,rfl⟩;unfold bk;rw[cB,fF hi];exact Gk hi
 obtain⟨j,k,m,p,ps,_,h1,h2,h3⟩:=Vy hg _ (aK _) E hE _ b;exact⟨j,k,m,p,ps,h1,h2,dC yM.page h3,dC yM.data h3,dC yM.dR h3⟩
open Go.RowKit Go.WideMaps Go.Maps
def Un (all:List fy) (w:World) (e:Ending) (w':World):Prop:=Below w.heap.size w w' /\
 if jk all=0 then ∃(ix:List Nat) (E:List yM) (r:Value) (hs:List bC) (ao:Option Addr) (cap:Nat),sS all all.length 0 [0]=some ix/\oD (bM all 1 ix)=some E/\hs.map eZ=E /\
  e=.returned (.tuple #[.agg #[r,.slice ao hs.length cap,I (ow (bE (bM all 1 ix) 0) (bV all 0).i.entry)],I 0])/\eB w.heap.size w' r (qT (bM all 1 ix))/\kq w' ao hs/\hs.length<=cap
 else e=.returned (.tuple #[.agg #[Nl,Nl,I 0],I (jk all)])
theorem vU (V:World) (rb b j:Nat) (u0 u1 u2:Value) (h:b≠rb):(((V.setCell (Ad rb 0) u0).setCell (Ad rb 1) u1).setCell (Ad rb 2) u2).cell? (Ad b j)=V.cell? (Ad b j):=by
 grind [World.cell?_setCell_far]
def Ob (V:World) (rb:Nat) (u0 u1 u2:Value):World:=((V.setCell (Ad rb 0) u0).setCell (Ad rb 1) u1).setCell (Ad rb 2) u2
theorem Oa (V:World) (rb:Nat) (u0 u1 u2:Value):(Ob V rb u0 u1 u2).heap.size=V.heap.size:=by simp[Ob]
theorem aef {b off:Nat} {t:TypeId} {x:Int} {y:ByteArray} (h:V.heap[rb]?=some (.cells #[Nl,Nl,I 0] t (0,0))) (c0:V.cell? (Ad b off)=some (I x)) (c1:V.cell? (Ad b (off+1))=some (.string y)):b≠rb:=λe=>by
 grind [World.cell?]
theorem abo {t:TypeId} (h:V.heap[rb]?=some (.cells #[Nl,Nl,I 0] t (0,0))) {ao:Option Addr} {l:List oa} (g:xC V ao l) (u0 u1 u2:Value):xC (Ob V rb u0 u1 u2) ao l:=λhl=>by
 obtain⟨b,off,e,hb,di⟩:=g hl;obtain⟨c0,c1⟩:=di 0 hl;have hne:=aef h c0 c1;refine⟨b,off,e,by grind [Oa],λk hk=>?_⟩;obtain⟨d0,d1⟩:=di k hk;exact⟨(vU V rb b _ u0 u1 u2 hne).trans d0,(vU V rb b _ u0 u1 u2 hne).trans d1⟩
theorem abn {t:TypeId} (h:V.heap[rb]?=some (.cells #[Nl,Nl,I 0] t (0,0))) {ao:Option Addr} {l:List bC} (g:kq V ao l) (u0 u1 u2:Value):kq (Ob V rb u0 u1 u2) ao l:=λhl=>by
 obtain⟨b,off,e,hb,di⟩:=g hl;obtain⟨c0,c1,_,_⟩:=di 0 hl;have hne:=aef h c0 c1;refine⟨b,off,e,by grind [Oa],λk hk=>?_⟩;obtain⟨d0,d1,d2,d3⟩:=di k hk;exact⟨(vU V rb b _ u0 u1 u2 hne).trans d0,(vU V rb b _ u0 u1 u2 hne).trans d1,(vU V rb b _ u0 u1 u2 hne).trans d2,abo h d3 u0 u1 u2⟩
theorem aee {lo:Nat} {v:Value} (h:eB lo V v l) (hlt:rb<lo) (u0 u1 u2:Value):eB lo (Ob V rb u0 u1 u2) v l :=
 KF (KF (KF h hlt _) hlt _) hlt _
theorem Ry (p:fy) (libs:List fy) (ao:Option Addr) (cap:Nat) (w:World) (hp:l9 w p.a p.i) (h:Cu w ao libs) (hfp:BH p.i) (hf:Uq libs) :
  Calls prog 22 #[xz p,.slice ao libs.length cap] w (Un (p::libs) w):=by
 have cb:libs.length<=140737488351232:=hf.1;have HL:=aq h;have a2:Hid (∀V,Below w.heap.size w V->∀k,k<(p::libs).length->l9 V (bV (p::libs) k).a (bV (p::libs) k).i):=λV hb k hk=>by
  cases k with
  | zero=>exact hp.below hb
  | succ k =>
   have bs:k<libs.length:=by grind
   obtain⟨b,off,_,_,hl⟩:=h ω;exact(hl k bs).2.below hb
 have IM:Hid (∀k,k<(p::libs).length->BH (bV (p::libs) k).i):=λk hk=>by
  cases k with
  | zero=>exact hfp
  | succ k=>exact hf.2 k Γ
 clear hp h hfp hf;have Y:=aq (((aN w.heap.size w).alloc (aK _) (.cells (gI p.a p.i) 56)).alloc ξ (.cells #[Nl,Nl,I 0] 25));have BM:=aq (bu (bH w (gI p.a p.i) 56) (.cells #[Nl,Nl,I 0] 25));have ab:=bH (w.alloc (.cells (gI p.a p.i) 56)) #[Nl,Nl,I 0] 25;rw[fY] at ab;have BR:=aq ab;clear ab;unfold xz;go_enter func22,ntmps22;by_cases h6:6<libs.length
 . have HE:Hid (jk (p::libs)=2):=by
    show _=_
    grind [jk]
   clear BM BR;simp only[gI] at Y ⊢;go_wp2;exact b9 (v:=.tuple #[.agg #[Nl,Nl,I 0],I 2]) (by simp[results,results22,go_sem]) rfl ⟨Y.o,by rw[HE.o];simp⟩
 have h7:(p::libs).length<=7:=by grind
 have ad:Hid ((((w.alloc (.cells (gI p.a p.i) 56)).alloc (.cells #[Nl,Nl,I 0] 25)).alloc (.cells (gI p.a p.i) 56)).ownsRow (w.heap.size+2) 56 6 (.slice (some (Ad (w.heap.size+2) 0)) 1 1) 1 (sU p)):=by
  have h:=World.ownsRow_lit (base:=w.heap.size+2) (e:=56) (size:=6) ((w.alloc (.cells (gI p.a p.i) 56)).alloc (.cells #[Nl,Nl,I 0] 25)) (gI p.a p.i) 1 ξ Δ rfl;have e:((w.alloc (.cells (gI p.a p.i) 56)).alloc (.cells #[Nl,Nl,I 0] 25)).heap.size=w.heap.size+2:=by simp
  rw[e] at h;exact h
 have ou:=aq (Y.o.alloc (by simp;omega) (.cells (gI p.a p.i) 56));have M:=aq (bu BM.o (.cells (gI p.a p.i) 56));have UC:=aq (bu BR.o (.cells (gI p.a p.i) 56));clear BM BR Y;simp only[gI] at ad ou M UC ⊢;go_wp2_with (at_builtin;refine IJ rfl _ _ rfl (w.heap.size+2) p (w.heap.size+2) ρ ad.o ao cap libs rfl (HL.o.below ou.o) ω ξ ?_;intro gg ci w1 a4 G ap;have cD:=aq (ou.o.grown G (by simp;omega) (λq hq=>Γ));have a8:=aq (AK M.o G ξ);have Iz:=aq (AK UC.o G ξ);have a6:=aq (akr (l:=p::libs) a4 ap (a2.o _ cD.o));clear a4 G ap);obtain⟨all,L⟩:=ex (p::libs);have aL:Hid (bV all 0=p):=by rw[L];rfl
 have a5:libs.length+1=all.length:=by grind
 rw[<- L] at a6 a2 IM h7;rw[<- L,a5];clear ad ou M UC HL;have bz:=aq L;clear L;refine(X8 all _ _ _ a6.o ⟨by grind [bD],IM.o⟩).mono ?_;rintro e w2 ⟨hb,y⟩;have iJ:=aq (cD.o.trans (hb.mono cD.o.size));have F:=aq (aU a8.o hb (aQ a8.o));have TE:=aq (aU Iz.o hb (aQ Iz.o));clear hb a8 Iz cD a6;by_cases hby:pN all=0
 . rw[aC hby] at y;obtain⟨m,D,rfl,a3,NU⟩:=y;obtain⟨Lh,aF⟩:=LK hby;have aE:Hid (Oj all m D w2):=⟨ω,h7,Lh,IM.o,aF,a2.o _ iJ.o,a3,NU⟩;have ym:=aq Lh;clear a3 NU aF Lh;have m0:=aA F.o 0 rfl;have m1:=aA F.o 1 rfl;have m2:=aA F.o 2 rfl;have m3:=aA F.o 3 rfl;have m4:=aA F.o 4 rfl;have m5:=aA F.o 5 rfl;have bP:=aq hby;clear hby;go_wp2_with fail;have Ns:=aq (X7 all m D w2 aE.o);rw[aL.o] at Ns;refine Calls.mono (P:=prog) Ns.o ?_;rintro e w3 ⟨hb,y⟩;have ou:=aq (iJ.o.trans (hb.mono iJ.o.size));have M:=aq (aU F.o hb (aQ F.o));have UC:=aq (aU TE.o hb (aQ TE.o));clear hb F TE Ns m0 m1 m2 m3 m4 m5;have r0:=aA UC.o 0 rfl;have r1:=aA UC.o 1 rfl;have r2:=aA UC.o 2 rfl;have rf:=bG UC.o;have rl:=aQ UC.o;cases eg:sS all all.length 0 [0] with
   | none =>
    rw[eg] at y;obtain rfl:=y;have HE:Hid (jk all=6):=by
     grind [jk,Hid.o]
    clear eg;go_wp2;exact b9 (v:=.tuple #[.agg #[Nl,Nl,I 0],I 6]) (by simp[results,results22,go_sem,r0,r1,r2]) rfl ⟨((ou.o.setCell ξ _).setCell ξ _).setCell ξ _,by grind [Hid.o]⟩
   | some ix =>
    rw[eg] at y;obtain⟨a0,bx,Q,rfl,hO⟩:=y;have B:=a0.pos;have bd:=a0.le;have N:Hid (kK (bE (bM all 1 ix) (ix.length-1))=eQ all 1 ix):=Ij all ix 1 B;have O:Hid (Oi (bM all 1 ix) bx w3):=by
     refine⟨hO,by grind [cC],λk hk=>?_,λk hk=>?_,aeo ym.o h7 a0⟩
     . grind [cC,iU,Hid.o,nk.lt]
     grind [cC,iU,Hid.o,nk.lt]
    have a1:ix.length=(bM all 1 ix).length:=(cC all ix 1).symm;have X:Hid (jk all=if 256<eQ all 1 ix then 3 else match oD (bM all 1 ix) with
      | none=>7
      | some _=>0):=by
     grind [jk,Hid.o]
    have bp:=aq eg;generalize eQ all 1 ix=EN at N X;obtain⟨ZJ,ae⟩:=ex (bM all 1 ix);rw[<- ae] at O X N hO a1;have bt:=aq ae;rw[a1] at N B bd;rw[a1];clear ae eg a0 a1 aE bP;obtain⟨b,off,b4,b6,di⟩:=hO B;subst b4;obtain⟨k1,am⟩:=ex (ZJ.length-1);have T:k1<ZJ.length:=by omega
    rw[<- am] at N;obtain⟨⟨c0,c1,c2,c3,c4,c5,c6⟩,au⟩:=di k1 T;have B6:=aq (λV hb=>Vm (bE ZJ k1) V (au.below hb) (O.o.chk k1 T) (by have:=O.o.base k1 T;omega) (by have:=O.o.base k1 T;omega));generalize bE ZJ k1=o at c0 c1 c2 c3 c4 c5 c6 B6 N;simp only[iB] at B6;rw[N.o] at B6;have ba:IntKind.i64.wrap ((ZJ.length:Int)-1)=(k1:Int):=by grind [IntWalk.i64_in]
    clear di hO au N am a5 a2 IM;by_cases aD2:256<EN
    . have HE:Hid (jk all=3):=by
       grind
      clear X;go_wp2_with (go_at_call 65;refine(B6.o _ (aN _ _)).mono ?_;rintro e w4 ⟨rfl,hb⟩;have Cc:=aq (ou.o.trans (hb.mono ou.o.size));have A:=aq (aU UC.o hb (aQ UC.o));have s0:=aA A.o 0 rfl;have s1:=aA A.o 1 rfl;have s2:=aA A.o 2 rfl;have sf:=bG A.o;clear hb);exact b9 (v:=.tuple #[.agg #[Nl,Nl,I 0],I 3]) (by simp[results,results22,go_sem,s0,s1,s2]) rfl ⟨((Cc.o.setCell ξ _).setCell ξ _).setCell ξ _,by grind [Hid.o]⟩
    have W:Hid (∀V,Oi ZJ (some (Ad b off)) V->Calls prog 66 #[.slice (some (Ad b off)) ZJ.length Q] V (Og (oD ZJ) V)):=λV hV=>Tb ZJ _ Q V hV ω
    cases es:oD ZJ with
    | none =>
     have HE:Hid (jk all=7):=by
      grind
     rw[es] at W;clear X es;go_wp2_with (first
      | (go_at_call 65;refine(B6.o _ (aN _ _)).mono ?_;rintro e w4 ⟨rfl,hb⟩;have Cc:=aq (ou.o.trans (hb.mono ou.o.size));have A:=aq (aU UC.o hb (aQ UC.o));have R:=aq (O.o.below hb);clear hb)
      | (go_at_call 66;refine(W.o _ R.o).mono ?_;rintro e w5 ⟨hb,rfl⟩;have Nu:=aq (Cc.o.trans (hb.mono Cc.o.size));have J:=aq (aU A.o hb (aQ A.o));have s0:=aA J.o 0 rfl;have s1:=aA J.o 1 rfl;have s2:=aA J.o 2 rfl;have sf:=bG J.o;clear hb))
     exact b9 (v:=.tuple #[.agg #[Nl,Nl,I 0],I 7]) (by simp[results,results22,go_sem,s0,s1,s2]) rfl ⟨((Nu.o.setCell ξ _).setCell ξ _).setCell ξ _,by grind [Hid.o]⟩
    | some E =>
     have HE:Hid (jk all=0):=by
      grind
     have cc:=aq es;rw[es] at W;clear X es;go_wp2_with (first
      | (go_at_call 65;refine(B6.o _ (aN _ _)).mono ?_;rintro e w4 ⟨rfl,hb⟩;have Cc:=aq (ou.o.trans (hb.mono ou.o.size));have A:=aq (aU UC.o hb (aQ UC.o));have al:=aq (aU M.o hb (aQ M.o));have R:=aq (O.o.below hb);clear hb)
      | (go_at_call 66;refine(W.o _ R.o).mono ?_;rintro e w5 ⟨hb,hs,ah,ch,az,rfl,aG,aR⟩;have Nu:=aq (Cc.o.trans (hb.mono Cc.o.size));have J:=aq (aU A.o hb (aQ A.o));have av:=aq (aU al.o hb (aQ al.o));have aj:=aq (R.o.below hb);have c7:=aq az;have b0:=aq aG;clear hb az aG))
     clear W B6 O R UC A M al ou r0 r1 r2 rf rl c0 c1 c2 c3 c4 c5 c6 ba b6 T;obtain⟨b5,b2,b3,K,aP⟩:=aj.o.has B;obtain⟨⟨d0,d1,d2,d3,d4,d5,d6⟩,b1⟩:=aP 0 B;have aa:b=b5:=by grind
     have aw:off=b2:=by grind
     rw[<- aa,<- aw] at d0 d1 d2 d3 d4 d5 d6;rw[<- aa] at K;simp only[NC,lB] at d0 d1 d2 d3 d4 d5 d6;have c9:=aj.o.base 0 B;have bb:0<=p.i.entry/\p.i.entry<4080:=by
      have h:=Ik (ym.o 0 ω)
      grind [Hid.o]
     have cf:Hid ((bV all 0).i.entry=p.i.entry):=by rw[aL.o];rfl
     have bF:Hid (∀V,Below w5.heap.size w5 V->Calls prog 67 #[.slice (some (Ad b off)) ZJ.length Q] V λe w'=>∃r,e=.returned r/\eB V.heap.size w' r (qT ZJ)/\Below V.heap.size V w'):=λV hb=>Vn ZJ _ Q V (aj.o.below hb) ω
     have Z:=aq (λV=>yC (bE ZJ 0) p.i.entry V ω ω bb.1 ω);obtain⟨o0,af⟩:=ex (bE ZJ 0);have cd:=aq af;rw[<- af] at d0 d1 d2 d3 d4 d5 d6 Z;simp only[iB] at Z;have c8:b≠w.heap.size+1:=λe=>by
      rw[e] at d6;have h:=J.o
      grind [World.cell?]
     have HS:Hid (∀V,Below w5.heap.size w5 V->V.cell? (Ad b off)=some (.string o0.i.name)/\V.cell? (Ad b (off+1))=some (.slice o0.a.an o0.i.needs.length o0.a.cn)/\V.cell? (Ad b (off+2))=some (.slice o0.a.ag o0.i.fA.length o0.a.cg)/\V.cell? (Ad b (off+3))=some (.slice o0.a.ay o0.i.syms.length o0.a.cy)/\V.cell? (Ad b (off+4))=some (.slice o0.a.ar o0.i.lV.length o0.a.cr)/\V.cell? (Ad b (off+5))=some (I o0.i.entry)/\V.cell? (Ad b (off+6))=some (I o0.base)/\V.cell? (Ad w.heap.size 5)=some (I p.i.entry)):=λV hb=>⟨(cJ hb K).trans d0,(cJ hb K).trans d1,(cJ hb K).trans d2,(cJ hb K).trans d3,(cJ hb K).trans d4,(cJ hb K).trans d5,(cJ hb K).trans d6,aA (aU av.o hb (aQ av.o)) 5 rfl⟩
     obtain⟨AD,ac⟩:=ex (ow o0 p.i.entry);rw[<- ac] at Z;have ce:=aq ac;clear af ac d0 d1 d2 d3 d4 d5 d6 b1 aP b3 aa aw;have tV:=aq (aN w5.heap.size w5).drew;have pK:=aq (HS.o _ tV.o)
     go_region_held3 (λV=>V.cell? (Ad b off)=some (.string o0.i.name)/\V.cell? (Ad b (off+1))=some (.slice o0.a.an o0.i.needs.length o0.a.cn)/\V.cell? (Ad b (off+2))=some (.slice o0.a.ag o0.i.fA.length o0.a.cg)/\V.cell? (Ad b (off+3))=some (.slice o0.a.ay o0.i.syms.length o0.a.cy)/\V.cell? (Ad b (off+4))=some (.slice o0.a.ar o0.i.lV.length o0.a.cr)/\V.cell? (Ad b (off+5))=some (I o0.i.entry)/\V.cell? (Ad b (off+6))=some (I o0.base)/\V.cell? (Ad w.heap.size 5)=some (I p.i.entry)) (first | exact aS.o | exact bi.o | exact pK.o | grind [Hid.o])
      (first
       | (go_at_call 67;refine(bF.o _ tV.o).mono ?_;rintro e w6 ⟨v8,rfl,a9,hb⟩;obtain⟨ar,cr,bm,b8⟩:=Cl a9;subst bm;have bL:=aq a9;have a7:=aq (tV.o.trans (hb.mono tV.o.size));have bi:=aq (HS.o _ a7.o);clear hb a9 b8)
       | (go_at_call 68;refine(Z.o _).mono ?_;rintro e w7 ⟨rfl,hb⟩;have Y1:=aq (a7.o.trans (hb.mono a7.o.size));have aS:=aq (HS.o _ Y1.o);have bA:=aq (Cm bL.o hb);have U:=aq (aU J.o Y1.o (aQ J.o));have s0:=aA U.o 0 rfl;have s1:=aA U.o 1 rfl;have s2:=aA U.o 2 rfl;have sf:=bG U.o;have IK:Hid (∀u0 u1 u2,(λV:World=>V.cell? (Ad b off)=some (.string o0.i.name)/\V.cell? (Ad b (off+1))=some (.slice o0.a.an o0.i.needs.length o0.a.cn)/\V.cell? (Ad b (off+2))=some (.slice o0.a.ag o0.i.fA.length o0.a.cg)/\V.cell? (Ad b (off+3))=some (.slice o0.a.ay o0.i.syms.length o0.a.cy)/\V.cell? (Ad b (off+4))=some (.slice o0.a.ar o0.i.lV.length o0.a.cr)/\V.cell? (Ad b (off+5))=some (I o0.i.entry)/\V.cell? (Ad b (off+6))=some (I o0.base)/\V.cell? (Ad w.heap.size 5)=some (I p.i.entry)) (((w7.setCell (Ad (w.heap.size+1) 0) u0).setCell (Ad (w.heap.size+1) 1) u1).setCell (Ad (w.heap.size+1) 2) u2)):=(λu0 u1 u2=>by grind [vU,Hid.o]);clear hb))
     have bn:=aq (abn U.o (b0.o.below Y1.o) (.slice ar (qT ZJ).length cr) (.slice ah hs.length ch) (I AD));have bS:=aq (aee (rb:=w.heap.size+1) bA.o (dV (aQ J.o) tV.o.size) (.slice ar (qT ZJ).length cr) (.slice ah hs.length ch) (I AD));have bv:=aq ((((Nu.o.trans (Y1.o.mono Nu.o.size)).setCell (p:=(Ad (w.heap.size+1) 0)) ξ (.slice ar (qT ZJ).length cr)).setCell (p:=(Ad (w.heap.size+1) 1)) ξ (.slice ah hs.length ch)).setCell (p:=(Ad (w.heap.size+1) 2)) ξ (I AD));go_wp2;refine b9 (v:=.tuple #[.agg #[.slice ar (qT ZJ).length cr,.slice ah hs.length ch,I AD],I 0]) (by simp[results,results22,go_sem,s0,s1,s2]) rfl ⟨bv.o,?_⟩;rw[<- bz.o,HE.o,aC rfl];refine⟨ix,E,.slice ar (qT ZJ).length cr,hs,ah,ch,bp.o,by grind [Hid.o],c7.o,?_,?_,bn.o,aR⟩
     . grind [Hid.o]
     rw[<- bt.o];exact bS.o.mono (eJ Nu.o.size tV.o.size)
 rw[aB hby] at y;subst y;have HE:Hid (jk all=pN all):=by
  show _=_
  grind [jk]
 generalize pN all=er at HE hby ⊢;have ca:(er==0)=false:=by grind
 have r0:=aA TE.o 0 rfl;have r1:=aA TE.o 1 rfl;have r2:=aA TE.o 2 rfl;have rf:=bG TE.o;go_wp2;exact b9 (v:=.tuple #[.agg #[Nl,Nl,I 0],I er]) (by simp[results,results22,go_sem,r0,r1,r2]) rfl ⟨((iJ.o.setCell ξ _).setCell ξ _).setCell ξ _,by grind [Hid.o]⟩
theorem akq {l:List fw} (hg:I9 l) {E:List yM} (hE:oD l=some E) (hm:hs.map eZ=E) (i:Nat) (hi:i<hs.length):KR (bk hs i):=by
 obtain⟨j,k,m,p,ps,h1,h2,h3,h4,h5⟩:=ahq hg hE hm i hi;have hr:=h1.rng hg;have hb:=aek hg h1 h2 _ h3 h4 h5;have b:=yF h2;have y:=pX (hg.chk j h1.hj);have A:=Cr (p:Int) ps;unfold cY at hb;simp only[cK] at hb;refine⟨?_,?_,?_,λq hq=>?_⟩
 . rw[h3];unfold cH;omega
 . rw[h4,Lx];unfold bD;omega
 . rw[h5];unfold bD;omega
 have hf:∀n,eO (bk hs i).dR n=true->∀q,q<n->xB (lO (bk hs i).dR q) (nD (bk hs i).dR q)=true:=λn=>by
  induction n with
  | zero=>intro _ q hq;omega
  | succ n ih =>
   intro h q hq;simp only[eO,cK] at h;by_cases e:q=n
   . subst e;exact h.2
   exact ih h.1 q ω
 have hx:=jY (hf _ hb.2 q hq);have he:0<=lO (bk hs i).dR q:=by
  cases q with
  | zero=>exact vM _
  | succ q =>
   have hy:=jY (hf _ hb.2 q ω);have hz:∀n,n<(bk hs i).dR.length->0<=lO (bk hs i).dR n:=λn=>by
    induction n with
    | zero=>intro _;exact vM _
    | succ n ih =>
     intro hn;have hw:=jY (hf _ hb.2 n ω);have:=ih ω;simp only[lO];omega
   have:=hz q ω;simp only[lO];omega
 unfold ajx cH bD;omega
theorem X6 {w w':World} {e:Ending} (hap:0<all.length) (h:Un all w e w') (he:jk all=0):∃ar AL cr ah hs ch EN,e=.returned (.tuple #[.agg #[.slice ar (List.length AL) cr,.slice ah (List.length hs) ch,I EN],I 0])/\gD w' (.slice ar AL.length cr) AL/\dQ AL/\kq w' ah hs/\uh hs/\hs.length<=ch/\cH EN/\Below w.heap.size w w':=by
 obtain⟨hb,y⟩:=h;rw[aC he] at y;obtain⟨ix,E,r,hs,ah,ch,A,G,B,rfl,b,L,K⟩:=y;obtain⟨h7,Lh,F,E2,M,q,-⟩:=abm he;obtain rfl:F=ix:=aaH (M.symm.trans A);have hx:=ZU _ _ _ _ (ahn hap) A;have hg:=akz Lh hx q;have ha:=aev Lh hx q;obtain⟨ar,cr,rfl,-⟩:=Cl b;have J:0<(bM all 1 F).length:=by rw[cC];exact hx.pos
 refine⟨ar,_,cr,ah,hs,ch,_,rfl,eB.has b,gy _ (by have:=pJ _ ha.2;rw[<- ha.1] at this;exact this),L,⟨(Ta h7 Lh hx G B).1,akq hg G B⟩,K,?_,hb⟩;have h1:=hg.pg 0 J;have h2:=yJ (hg.chk 0 J);have h3:=Ik (Lh 0 hap);unfold cH ow;unfold kK at h1;omega
def ua (jP way:Int):Bool:=decide ((way=1/\jP%2=0)\/(way=2/\jP<2))
def lU (l:List aX) (p way:Int):Int×Int :=
 if p<0\/(aV l (p/16)).2=false then (1,p) else if ua (aV l (p/16)).1.jP way=true then (2,p) else (0,0)
def cE (l:List aX) (a way:Int):Nat->Int×Int
 | 0=>(0,0)
 | n+1=>if (cE l a way n).1=0 then lU l (a+n) way else cE l a way n
def bB (l:List aX) (a size way:Int):Int×Int:=if way=2/\¬a%8=0 then (3,a) else cE l a way size.toNat
theorem rV (h:(lU l p way).1=0):lU l p way=(0,0)/\0<=p/\(aV l (p/16)).2=true/\ua (aV l (p/16)).1.jP way=false:=by
 grind [lU]
theorem SP (h:p<0\/(aV l (p/16)).2=false):lU l p way=(1,p):=by grind [lU]
theorem Zy (h:0<=p) (h2:(aV l (p/16)).2=true) (h3:ua (aV l (p/16)).1.jP way=true):lU l p way=(2,p):=by
 grind [lU]
theorem aiQ (h:0<=p) (h2:(aV l (p/16)).2=true) (h3:ua (aV l (p/16)).1.jP way=false):lU l p way=(0,0):=by
 grind [lU]
theorem Mv {l:List aX} {a way:Int} {k:Nat} {f:Int×Int} (h:cE l a way k=f) (hf:¬f.1=0):∀n,k<=n->cE l a way n=f
 | 0,hn=>by grind
 | n+1,hn=>by
  by_cases e:k=n+1
  . grind
  have ih:=Mv h hf n ω
  grind [cE]
theorem AH {a:Int} {k:Nat} (h:cE l a way k=(0,0)):cE l a way (k+1)=lU l (a+k) way:=by
 grind [cE]
theorem EH:∀(l:List aX) (q:Int),(b6 l q).2=true->∃k,k<l.length/\jt (bw l k) q=true/\(b6 l q).1=bw l k
 | [],q,h=>by cases h
 | a::r,q,h=>by
  unfold b6 at h ⊢;by_cases c:jt a q=true
  . rw[aC c];exact⟨0,ξ,c,rfl⟩
  rw[aB c] at h ⊢;obtain⟨k,h1,h2,h3⟩:=EH r q h;exact⟨k+1,Γ,h2,h3⟩
theorem jB {q:Int} (hc:bj l=0) (h:(aV l q).2=true):1<=q/\q<256/\0<=(aV l q).1.jP/\(aV l q).1.jP<=3:=by
 have e:aV l q=b6 l q:=by grind [aV]
 rw[e] at h ⊢;obtain⟨k,h1,h2,h4⟩:=EH l q h;have h5:=ig l _ (gP l hc _ h1);have h6:(bw l k).page<=q/\q<(bw l k).page+(bw l k).aD:=jY h2
 grind
theorem zm {q:Int} (h:(aV l q).2=true):bj l=0:=by
 grind [aV]
theorem DK {l:List aX} {a way:Int}:∀{k:Nat},cE l a way (k+1)=(0,0)->16<=a/\a+k<4096
 | 0,h=>by
  rw[AH rfl] at h;obtain⟨_,h1,h2,_⟩:=rV (by rw[h]);have:=jB (zm h2) h2;omega
 | k+1,h=>by
  have h0:cE l a way (k+1)=(0,0):=by
   grind [cE,rV]
  have ih:=DK h0;rw[AH h0] at h;obtain⟨_,h1,h2,_⟩:=rV (by rw[h]);have:=jB (zm h2) h2;omega
theorem oK:∀(qs ps:List Int),ps.Pairwise (·<·)->qs.Pairwise (·<·)->(∀x∈ps,x∈qs)->ps.length<=qs.length
 | [],[],_,_,_=>aK _
 | [],p::ps,_,_,h=>by cases h p Gs
 | q::qs,[],_,_,_=>by simp
 | q::qs,p::ps,h1,h2,h=>by
  rw[Ag] at h1 h2;by_cases e:p=q
  . subst e;have:=oK qs ps h1.2 h2.2 (λx hx=>by
     grind)
    grind
  have hp:p∈qs:=by
   grind
  have hq:=h2.1 p hp;have:=oK qs (p::ps) (Ag.2 h1) h2.2 (λx hx=>by
   grind)
  grind
theorem Hy:∀(qs ps:List Int),ps.Pairwise (·<·)->qs.Pairwise (·<·)->(∀x∈ps,x∈qs)->ps.length=qs.length->ps=qs
 | [],[],_,_,_,_=>rfl
 | [],p::ps,_,_,_,h=>by simp at h
 | q::qs,[],_,_,_,h=>by simp at h
 | q::qs,p::ps,h1,h2,h,hl=>by
  have h1':=h1;rw[Ag] at h1 h2;simp only[tG] at hl;by_cases e:p=q
  . subst e;rw[Hy qs ps h1.2 h2.2 (λx hx=>by
     grind) ω]
  have hp:p∈qs:=by
   grind
  have hq:=h2.1 p hp;have:=oK qs (p::ps) h1' h2.2 (λx hx=>by
   grind)
  grind
def jT (p:Int):Nat->List Int
 | 0=>[]
 | n+1=>p::jT (p+1) n
theorem AE (p:Int):∀n,(jT p n).length=n:=λn=>by
 induction n generalizing p with
 | zero=>rfl
 | succ n ih=>grind [jT]
theorem sF:∀(n:Nat) (p x:Int),x∈jT p n↔p<=x/\x<p+n
 | 0,p,x=>by constructor <;> intro h;cases h;omega
 | n+1,p,x=>by
  show x∈p::jT (p+1) n↔_;rw[qZ,sF n (p+1) x];omega
theorem xk:∀(n:Nat) (p:Int),(jT p n).Pairwise (·<·)
 | 0,p=>List.Pairwise.nil
 | n+1,p=>Ag.2 ⟨λx hx=>by grind [sF],xk n (p+1)⟩
def cI:List aX->List Int
 | []=>[]
 | a::r=>jT a.page a.aD.toNat++cI r
theorem P6:∀(l:List aX) (x:Int),x∈cI l↔(b6 l x).2=true
 | [],x=>by constructor <;> intro h <;> cases h
 | a::r,x=>by
  show x∈jT a.page a.aD.toNat++cI r↔_;rw[kJ,sF,P6 r x];show _↔(if jt a x=true then (a,true) else b6 r x).2=true;by_cases c:jt a x=true
  . have h6:a.page<=x/\x<a.page+a.aD:=jY c
    grind
  have h6:¬(a.page<=x/\x<a.page+a.aD):=λg=>c (fD g)
  grind
def Bz:Int->List aX->Prop
 | _,[]=>True
 | lo,a::r=>lo<=a.page/\1<=a.aD/\Bz (a.page+a.aD) r
theorem Bz.low:∀{l:List aX} {lo:Int},Bz lo l->∀x∈cI l,lo<=x
 | [],lo,h,x,hx=>by cases hx
 | a::r,lo,h,x,hx=>by
  obtain⟨h1,h2,h3⟩:=h;rcases kJ.1 hx with g | g
  . grind [sF]
  have:=h3.low x g;omega
theorem Bz.sorted:∀{l:List aX} {lo:Int},Bz lo l->(cI l).Pairwise (·<·)
 | [],lo,h=>List.Pairwise.nil
 | a::r,lo,h=>by
  obtain⟨h1,h2,h3⟩:=h;show(jT a.page a.aD.toNat++cI r).Pairwise (·<·);rw[KE];refine⟨xk _ _,h3.sorted,λx hx y hy=>?_⟩;have:=(sF _ _ _).1 hx;have:=h3.low y hy;omega
def P7 (l:List aX):Prop:=∀i,i<l.length->(1<=(bw l i).page/\1<=(bw l i).aD)/\(0<i->(bw l (i-1)).page+(bw l (i-1)).aD<=(bw l i).page)
theorem P7.tail {a:aX} {r:List aX} (h:P7 (a::r)):P7 r:=λi hi=>by
 have h1:=h (i+1) Γ;refine⟨h1.1,λg=>?_⟩;have h2:=h1.2 ω;obtain⟨j,rfl⟩:∃j,i=j+1:=⟨i-1,ω⟩;exact h2
theorem SN:∀(l:List aX) (lo:Int),P7 l->(∀a r,l=a::r->lo<=a.page)->Bz lo l
 | [],lo,h,_=>trivial
 | a::r,lo,h,hlo=>by
  have h0:=(h 0 ξ).1;refine⟨hlo a r rfl,h0.2,SN r _ h.tail (λb q e=>?_)⟩;subst e;exact(h 1 ξ).2 ω
theorem Xc (hc:bj l=0):P7 l:=λi hi=>by
 have h:=gP l hc i hi;have h1:=ig l i h
 grind [pF,nW,aX.zC]
theorem nZ (hc:bj l=0):Bz 1 l:=SN l 1 (Xc hc) (λa r e=>by
 subst e;exact((Xc hc) 0 ξ).1.1)
theorem SM (a:aX) (r:List aX):∀k,mL (a::r) (k+1)=a.aD+mL r k
 | 0=>by show(0:Int)+a.aD=a.aD+0;omega
 | k+1=>by
  show mL (a::r) (k+1)+(bw (a::r) (k+1)).aD=a.aD+(mL r k+(bw r k).aD);rw[SM a r k]
  grind [bw]
theorem Ix:∀{l:List aX} {lo:Int},Bz lo l->((cI l).length:Int)=mL l l.length
 | [],lo,h=>rfl
 | a::r,lo,h=>by
  obtain⟨h1,h2,h3⟩:=h;show(((jT a.page a.aD.toNat++cI r).length:Nat):Int)=mL (a::r) (r.length+1);rw[SM,ft,AE,<- Ix h3];omega
theorem oX (hc:bj l=0):bf l=((cI l).length:Int):=by
 unfold bf;rw[aC hc,Ix (nZ hc)]
theorem qd (hc:bj l=0) (x:Int):(aV l x).2=true↔x∈cI l:=by
 grind [P6,aV]
theorem Zu (hc:bj l=0) (ps:List Int):(((ps.length:Int)=bf l)/\(∀x∈ps,(aV l x).2=true)/\ps.Pairwise (·<·))↔ps=cI l:=by
 constructor
 . rintro⟨h1,h2,h3⟩;rw[oX hc] at h1;exact Hy _ _ h3 (nZ hc).sorted (λx hx=>(qd hc x).1 (h2 x hx)) ω
 intro e;subst e;exact⟨(oX hc).symm,λx hx=>(qd hc x).2 hx,(nZ hc).sorted⟩
def zF (k:Nat) (n:Int):ByteArray:=⟨(Lib.leBytes k (kz n)).toArray⟩
theorem C8 (k:Nat) (n:Int):(zF k n).size=k:=by
 grind [zF,Lib.size_eq,Lib.leBytes_length]
structure eu where
 op:Int
 a:Int
 b:Int
 c:Int
 m:Int
def eu.cells (i:eu):Array Value:=#[I i.op,I i.a,I i.b,I i.c,I i.m]
def tJ (n:Int):Prop:=0<=n/\n<=255
instance (n:Int):Decidable (tJ n):=by unfold tJ;infer_instance
def eu.fits (i:eu):Prop:=tJ i.op/\tJ i.a/\tJ i.b/\tJ i.c/\-2147483648<=i.m/\i.m<=2147483647
instance (i:eu):Decidable i.fits:=by unfold eu.fits;infer_instance
def eu.bytes (i:eu):ByteArray:=(((zF 1 i.op++zF 1 i.a)++zF 1 i.b)++zF 1 i.c)++zF 4 i.m
theorem Lt (i:eu):i.bytes.size=8:=by
 rfl
def yb (n:Int):Int:=if 2147483648<=n then n-4294967296 else n
def uE (s:ByteArray) (k:Nat):Int:=((s.data.toList.getD k 0).toNat:Int)
def iC (s:ByteArray):eu:=⟨uE s 0,uE s 1,uE s 2,uE s 3,yb (Lib.leNat (s.data.toList.drop 4))⟩
theorem Fx (k:Nat):tJ (uE s k):=by
 unfold tJ uE;have:=(s.data.toList.getD k 0).toNat_lt;omega
theorem Gx (k:Nat):wrap64 (uE s k)=uE s k:=by
 grind [Fx,tJ,wrap64]
theorem KL (k:Nat) (h:k<s.size):((s[k].toNat:Nat):Int)=uE s k:=by
 unfold uE;have h':k<s.data.toList.length:=by simp_all
 rw[cB,fF h'];rfl
theorem U3 (h:s.size=8):Lib.leNat (s.data.toList.drop 4)<4294967296:=by
 grind [Kj,List.length_drop,Lib.size_eq]
theorem Ls (n:Int) (h0:0<=n) (h1:n<4294967296):-2147483648<=yb n/\yb n<=2147483647:=by
 grind [yb]
theorem Ec (h:s.size=8):(iC s).fits:=by
 have h4:=U3 s h;have h5:=Ls (Lib.leNat (s.data.toList.drop 4)) ω ω;exact⟨Fx s 0,Fx s 1,Fx s 2,Fx s 3,h5.1,h5.2⟩
theorem ako (n:Int) (h0:0<=n) (h1:n<4294967296):IntKind.i32.wrap n=yb n:=by
 grind [yb,IntKind.wrap_i32]
theorem S9 (h:s.size=8):(s.extract 4 8).data.toList=s.data.toList.drop 4:=by
 grind [Lib.extract_data,List.take_of_length_le,Lib.size_eq]
end Go.Proofs.YtlgoihmkgaaemaaGreat
