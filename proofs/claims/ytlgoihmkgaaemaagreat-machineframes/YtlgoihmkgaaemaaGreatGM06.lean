import Derived.Test.YtlgoihmkgaaemaaGreatGM05
set_option maxHeartbeats 20000000
set_option linter.unusedVariables false
set_option maxRecDepth 100000
set_option linter.unusedSimpArgs false
namespace Go.Proofs.YtlgoihmkgaaemaaGreat
open Go.RowKit
def rE (k:aR) (j:Nat) (p:Int):Bool:=(aW (ak k.aj j).aT p).1.zero
def dX (k:aR) (j:Nat) (p:Int):Prop:=(aW (ak k.aj j).aT p).2=true
def dn (k:aR) (j:Nat) (p:Int) (held:List Int):Nat×aR:=match bk (ak k.aj j).bf p with
 | some e=>if e.kind=1 then (e.loc.toNat,k) else ((bJ k held).1,eH (bJ k held).2 j p (bJ k held).1 (bE (bJ k held).2.slots e.loc.toNat).data true)
 | none=>((bJ k held).1,eH (bJ k held).2 j p (bJ k held).1 (fY (bJ k held).2.aM p (rE (bJ k held).2 j p)) false)
def kJ (k:aR) (j:Nat) (p:Int) (a:Nat) (held:List Int):Nat×aR:=if (aD k.frames a).refs=1 then (a,k) else ((bJ k (held++[(a:Int)])).1,eH (bJ k (held++[(a:Int)])).2 j p (bJ k (held++[(a:Int)])).1 (aD (bJ k (held++[(a:Int)])).2.frames a).data true)
def y8 (way:Int) (f:lK):lK:=⟨f.data,f.refs,f.jw || decide (way=1),true⟩
def QF (k:aR) (way:Int) (i:Nat):aR:={ k with frames:=k.frames.set i (y8 way (aD k.frames i)) }
def ir (k:aR) (j:Nat) (p way:Int) (held:List Int):Nat×aR:=if way=1 then kJ (dn k j p held).2 j p (dn k j p held).1 held else dn k j p held
def dG (k:aR) (j:Nat) (p way:Int) (held:List Int):Nat×aR:=((ir k j p way held).1,QF (ir k j p way held).2 way (ir k j p way held).1)
structure fK (k:aR) (j:Nat) (p:Int) (held:List Int) (r:Nat×aR):Prop where
 right:aY r.2
 kept:fE k r.2
 lt:r.1<k.frames.length
 here:bk (ak r.2.aj j).bf p=some ⟨p,1,r.1⟩
 stay:∀j',j'<k.aj.length->∀q e,bk (ak k.aj j').bf q=some e->e.kind=1->e.loc∈held->¬(j'=j/\q=p)->bk (ak r.2.aj j').bf q=some e
theorem tH {k:aR} {j:Nat} {p:Int} {i:Nat} {d:ByteArray} {dy:Bool} (m:jO k j p i d dy) (n:Nat) (q:Int):bk (ak (eH k j p i d dy).aj n).bf q=if j=n/\q=p then some ⟨p,1,i⟩ else bk (ak k.aj n).bf q:=by
 obtain⟨_,_,_,_,f5,_,_⟩:=oC k j p i d dy m;rw[f5,iC _ _ _ _ m.hj];by_cases c:j=n
 · rw[aB c];show bk (mE (ak k.aj j).bf ⟨p,1,i⟩) q=_;rw[QC (m.right.sp m.hj).mn]
   grind
 grind
theorem ua.stay {k:aR} (h:aY k) {held:List Int} {g:Nat×aR} (G:ua k held g) {j:Nat} (hj:j<k.aj.length) {q:Int} {e:bC} (he:bk (ak k.aj j).bf q=some e) (hn:e.kind=1->e.loc∈held):bk (ak g.2.aj j).bf q=some e:=by
 have hm:=(gX (h.sp hj).mn).1 he;rw[G.ML j hj q ?_,he];intro x hx c;rw[he] at hx;injection hx with hx;subst hx;have hb:=(iU h hj hm.1).resolve_right (fun y=>by omega);have hne:(aD k.frames e.loc.toNat).refs≠0:=fun z=>by
  have:=ji hj hm.1;rw[c.1,<- hb.2.1,(h.zt _ hb.2.2).nil z] at this
  grind
 have:=(G.PF e.loc.toNat (by grind) hne).1;omega
theorem ua.mapped {k:aR} {held:List Int} {g:Nat×aR} (G:ua k held g) {j:Nat} (hj:j<k.aj.length) {p:Int} (hp:dX k j p):(aW (ak g.2.aj j).aT p).2=true:=by rw[G.kept.aT j hj];exact hp
theorem FI (hs:List bG) (hr:gS hs=true) (p:Int) (h:(iD hs p).isSome=true):(eV hs p).size=16:=by
 unfold eV;cases g:iD hs p with
 | none=>grind
 | some s =>
  have hm:s∈hs:=UD g;obtain⟨i,hi,e⟩:=lu Bv hm;have hb:=(qF hs hs.length hr i hi).1;rw[show bu hs i=s from e] at hb;unfold df oY at hb;simp only[eG,kR] at hb;exact zF s.data s.eO hb.1.2.2 s.eO.length hb.2
theorem DU {k:aR} (h:aY k) {j:Nat} (hj:j<k.aj.length) {p:Int} (hp:dX k j p):(fY k.aM p (rE k j p)).size=16:=by
 unfold fY;cases z:rE k j p with
 | true=>rfl
 | false=>exact FI _ h.mn p ((h.sp hj).aM p hp z)
theorem zO {k:aR} (h:aY k) {j:Nat} (hj:j<k.aj.length) {p:Int} (hp:dX k j p) {held:List Int} (hl:held.length<=2):fK k j p held (dn k j p held):=by
 have hsp:=h.sp hj;have G:=sN h hl;unfold dn;cases g:bk (ak k.aj j).bf p with
 | none =>
  dsimp only;have hent:bk (ak (bJ k held).2.aj j).bf p=none:=by grind [ua.ML]
  have hpk:fY (bJ k held).2.aM p (rE (bJ k held).2 j p)=cC (bJ k held).2 j p:=by unfold cC;rw[hent];rfl
  have hj':j<(bJ k held).2.aj.length:=by rw[G.kept.np];exact hj
  have m:jO (bJ k held).2 j p (bJ k held).1 (fY (bJ k held).2.aM p (rE (bJ k held).2 j p)) false:=⟨G.right,hj',G.mapped hj hp,by rw[G.kept.nf];exact G.lt,G.free,DU G.right hj' (G.mapped hj hp),fun _=>rfl⟩;refine⟨xH m,G.kept.trans (DL m hpk),G.lt,by grind [tH],fun j' hj2 q e he hk hin hne=>?_⟩
  grind [tH,ua.stay]
 | some e =>
  have he:=(gX hsp.mn).1 g;dsimp only;by_cases c:e.kind=1
  · rw[aB c];have hb:=(iU h hj he.1).resolve_right (fun y=>by omega);refine⟨h,fE.refl k,hb.2.2,?_,fun j' hj2 q e he hk hin hne=>he⟩;show bk (ak k.aj j).bf p=some ⟨p,1,(e.loc.toNat:Int)⟩;rw[g,hb.2.1,<- c,<- he.2]
  · rw[au c];have hb:=(iU h hj he.1).resolve_left (fun y=>c y.1);have hent:bk (ak (bJ k held).2.aj j).bf p=some e:=by grind [ua.ML]
    have hj':j<(bJ k held).2.aj.length:=by rw[G.kept.np];exact hj
    have he':=(gX (G.right.sp hj').mn).1 hent;have hpk:(bE (bJ k held).2.slots e.loc.toNat).data=cC (bJ k held).2 j p:=by grind [cC]
    have hsz:(bE (bJ k held).2.slots e.loc.toNat).data.size=16:=(G.right.slt e.loc.toNat (by grind [ua.kept,fE.ns])).size (fun z=>by
     grind [ji])
    have m:jO (bJ k held).2 j p (bJ k held).1 (bE (bJ k held).2.slots e.loc.toNat).data true:=⟨G.right,hj',G.mapped hj hp,by rw[G.kept.nf];exact G.lt,G.free,hsz,fun y=>by cases y⟩;refine⟨xH m,G.kept.trans (DL m hpk),G.lt,by grind [tH],fun j' hj2 q e he hk hin hne=>?_⟩
    grind [tH,ua.stay]
theorem K4 {k:aR} (h:aY k) {j:Nat} (hj:j<k.aj.length) {p:Int} (hp:dX k j p) {a:Nat} (ha:bk (ak k.aj j).bf p=some ⟨p,1,a⟩) {held:List Int} (hl:held.length<=1):fK k j p held (kJ k j p a held)/\(aD (kJ k j p a held).2.frames (kJ k j p a held).1).refs=1:=by
 have hsp:=h.sp hj;have he:=(gX hsp.mn).1 ha;have hb:=(iU h hj he.1).resolve_right (fun y=>by grind);have hat:a<k.frames.length:=by grind
 unfold kJ;by_cases c:(aD k.frames a).refs=1
 · rw[aB c];exact⟨⟨h,fE.refl k,hat,ha,fun j' hj2 q e he hk hin hne=>he⟩,c⟩
 · rw[au c];have G:=sN h (held:=held++[(a:Int)]) (by grind);obtain⟨g,hg⟩:=ex (bJ k (held++[(a:Int)]));rw[<- hg] at G ⊢;have hent:bk (ak g.2.aj j).bf p=some ⟨p,1,a⟩:=G.stay h hj ha (fun _=>lQ.2 (.inr (by simp)));have hj':j<g.2.aj.length:=by rw[G.kept.np];exact hj
   have he':=(gX (G.right.sp hj').mn).1 hent;have hpk:(aD g.2.frames a).data=cC g.2 j p:=by grind [cC]
   have hsz:(aD g.2.frames a).data.size=16:=(G.right.zt a (by rw[G.kept.nf];exact hat)).size (fun z=>by
    have:=ji hj' he'.1
    grind)
   have m:jO g.2 j p g.1 (aD g.2.frames a).data true:=⟨G.right,hj',G.mapped hj hp,by rw[G.kept.nf];exact G.lt,G.free,hsz,fun y=>by cases y⟩;refine⟨⟨xH m,G.kept.trans (DL m hpk),G.lt,by grind [tH],fun j' hj2 q e he hk hin hne=>?_⟩,?_⟩
   · grind [tH,ua.stay]
   grind [oC]
theorem YI {k:aR} {j:Nat} {p:Int} {held:List Int} {r:Nat×aR} (b:fK k j p held r) (hj:j<k.aj.length) (way:Int):fK k j p held (r.1,QF r.2 way r.1):=by
 have h:=b.right;have hlt:r.1<r.2.frames.length:=by rw[b.kept.nf];exact b.lt
 have hj':j<r.2.aj.length:=by rw[b.kept.np];exact hj
 have he:=(gX (h.sp hj').mn).1 b.here;have hL:bT r.2.aj 1 r.1≠[]:=fun z=>by
  have:=ji hj' he.1
  grind
 have hf:=h.zt r.1 hlt;have hR:aY (QF r.2 way r.1):=h.frame (f:=y8 way (aD r.2.frames r.1)) ⟨hf.refs,fun e=>absurd e hL,hf.one,hf.size,fun d=>hf.fill (by
  have d:((aD r.2.frames r.1).jw || decide (way=1))=false:=d
  grind)⟩
 refine⟨hR,b.kept.trans ⟨rfl,fC,rfl,rfl,fun _ _=>rfl,fun _ _=>rfl,fun n hn q=>?_⟩,b.lt,b.here,b.stay⟩;unfold cC;show(match bk (ak r.2.aj n).bf q with
  | some e=>if e.kind=1 then (aD (r.2.frames.set r.1 (y8 way (aD r.2.frames r.1))) e.loc.toNat).data else (bE r.2.slots e.loc.toNat).data
  | none=>_)=_
 cases bk (ak r.2.aj n).bf q with
 | none=>rfl
 | some e =>
  show(if e.kind=1 then _ else _)=if e.kind=1 then _ else _
  rw[jM _ _ _ _ hlt];by_cases c:r.1=e.loc.toNat
  · rw[aB c,<- c];rfl
  grind
theorem fK.trans {k:aR} {j:Nat} {p:Int} {held:List Int} {r s:Nat×aR} (a:fK k j p held r) (b:fK r.2 j p held s):fK k j p held s :=
 ⟨b.right,a.kept.trans b.kept,by have:=b.lt;grind [kept,fE.nf],b.here,fun j' hj' q e he h1 h2 h3=>b.stay j' (by grind [kept,fE.np]) q e (a.stay j' hj' q e he h1 h2 h3) h1 h2 h3⟩
theorem fE.mapped {k k':aR} (h:fE k k') {j:Nat} (hj:j<k.aj.length) {p:Int} (hp:dX k j p):dX k' j p:=by grind [dX,aT]
theorem qK {k:aR} (h:aY k) {j:Nat} (hj:j<k.aj.length) {p:Int} (hp:dX k j p) (way:Int) {held:List Int} (hl:held.length<=1):fK k j p held (dG k j p way held)/\(way=1->(aD (dG k j p way held).2.frames (dG k j p way held).1).refs=1/\(aD (dG k j p way held).2.frames (dG k j p way held).1).jw=true):=by
 have P:=zO h hj hp (held:=held) (by omega);have hT:fK k j p held (ir k j p way held)/\(way=1->(aD (ir k j p way held).2.frames (ir k j p way held).1).refs=1):=by
  grind [ir,K4,fK.right,fK.kept,fE.np,fE.mapped,fK.here,fK.trans]
 refine⟨YI hT.1 hj way,fun c=>?_⟩;have hlt:(ir k j p way held).1<(ir k j p way held).2.frames.length:=by rw[hT.1.kept.nf];exact hT.1.lt
 have e:aD (dG k j p way held).2.frames (dG k j p way held).1=y8 way (aD (ir k j p way held).2.frames (ir k j p way held).1):=by
  show aD ((ir k j p way held).2.frames.set _ _) (ir k j p way held).1=_
  grind [jM]
 grind [y8]
open Go.RowKit
structure eT where
 refs:Int
 page:Int
 zero:Bool
def dx:eT:=⟨0,0,false⟩
def cU (l:List eT) (i:Nat):eT:=l.getD i dx
def ow (us:List eT) (e:bC) (z:Bool):Bool:=decide (0<=e.loc/\e.loc<(us.length:Int))&&!(decide (0<(cU us e.loc.toNat).refs)&&(decide ((cU us e.loc.toNat).page≠e.page) || (cU us e.loc.toNat).zero != z))
def rU (us:List eT) (e:bC) (z:Bool):List eT:=us.set e.loc.toNat ⟨(cU us e.loc.toNat).refs+1,e.page,z⟩
def xI (ar:List aX) (last:Int) (uf us:List eT) (e:bC):Bool:=(aW ar e.page).2&&(decide (last<e.page)&&(if e.kind=1 then ow uf e (aW ar e.page).1.zero else if e.kind=2 then ow us e (aW ar e.page).1.zero else false))
def tJ (ar:List aX) (u:List eT×List eT) (e:bC):List eT×List eT:=if e.kind=1 then (rU u.1 e (aW ar e.page).1.zero,u.2) else (u.1,rU u.2 e (aW ar e.page).1.zero)
def rq (es:List bC) (k:Nat):Int:=if k=0 then 0 else (aV es (k-1)).page
def jr (ar:List aX) (es:List bC) (u:List eT×List eT):Nat->List eT×List eT
 | 0=>u
 | k+1=>tJ ar (jr ar es u k) (aV es k)
def jN (ar:List aX) (es:List bC) (u:List eT×List eT):Nat->Bool
 | 0=>true
 | k+1=>jN ar es u k&&xI ar (rq es k) (jr ar es u k).1 (jr ar es u k).2 (aV es k)
def ru (hs:List bG) (ar:List aX):Bool:=ar.all fun a=>(List.range a.aO.toNat).all fun n=>a.zero || decide ((eV hs (a.page+(n:Int))).size≠0)
def pF (hs:List bG) (s:cV):Bool:=if s.live then decide (bj s.aT=0)&&ru hs s.aT else decide (s.aT.length=0)&&decide (s.bf.length=0)
def ky (ss:List cV) (u:List eT×List eT):Nat->List eT×List eT
 | 0=>u
 | k+1=>jr (ak ss k).aT (ak ss k).bf (ky ss u k) (ak ss k).bf.length
def nQ (hs:List bG) (ss:List cV) (u:List eT×List eT):Nat->Bool
 | 0=>true
 | k+1=>nQ hs ss u k&&(pF hs (ak ss k)&&jN (ak ss k).aT (ak ss k).bf (ky ss u k) (ak ss k).bf.length)
def sM (f:lK):Bool:=decide (f.data.size=0/\f.refs=0/\f.jw=false/\f.seen=false)
def tI (f:oO):Bool:=decide (f.data.size=0/\f.refs=0)
def jJ (hs:List bG) (f:lK) (u:eT):Bool:=if u.refs=0 then sM f else decide (f.refs=u.refs/\f.data.size=16)&&(f.jw || decide (f.data=fY hs u.page u.zero))
def lZ (s:oO) (u:eT):Bool:=if u.refs=0 then tI s else decide (s.refs=u.refs/\s.data.size=16)
def zL (k:aR):List eT×List eT:=ky k.aj (List.replicate k.frames.length dx,List.replicate k.slots.length dx) k.aj.length
def CJ (k:aR):Bool:=gS k.aM&&(decide (0<=k.hand/\k.hand<(k.frames.length:Int))&&(nQ k.aM k.aj (List.replicate k.frames.length dx,List.replicate k.slots.length dx) k.aj.length&&(decide (dZ k.aj<=(k.slots.length:Int))&&((List.range k.frames.length).all (fun i=>jJ k.aM (aD k.frames i) (cU (zL k).1 i))&&(List.range k.slots.length).all (fun i=>lZ (bE k.slots i) (cU (zL k).2 i))))))
def gh (k:aR):Int:=if nk k=false then 2 else if CJ k then 0 else 1
def yx (L:List (Int×Bool)) (u:eT):Prop:=u.refs=L.length/\∀x∈L,x=(u.page,u.zero)
def xK (N:Int->Int->List (Int×Bool)) (nf ns:Nat) (u:List eT×List eT):Prop:=(u.1.length=nf/\u.2.length=ns)/\(∀i:Nat,i<nf->yx (N 1 i) (cU u.1 i))/\∀i:Nat,i<ns->yx (N 2 i) (cU u.2 i)
theorem Fq (l:List eT) (j n:Nat) (s:eT) (hj:j<l.length):cU (l.set j s) n=if j=n then s else cU l n:=by
 grind [cU]
theorem Ng {L:List (Int×Bool)} {u:eT} (h:yx L u) {p:Int} {z:Bool} (hc:¬(0<u.refs/\(u.page≠p∨u.zero≠z))):yx (L++[(p,z)]) ⟨u.refs+1,p,z⟩:=by
 refine⟨by show u.refs+1=_;rw[h.1,fD];rfl,fun x hx=>?_⟩;rcases lQ.1 hx with g | g
 · have hpos:0<u.refs:=by rw[h.1];grind
   have e:=h.2 x g
   grind
 grind
theorem yX {us:List eT} {e:bC} {z:Bool}:ow us e z=true↔(0<=e.loc/\e.loc<(us.length:Int))/\¬(0<(cU us e.loc.toNat).refs/\((cU us e.loc.toNat).page≠e.page∨(cU us e.loc.toNat).zero≠z)):=by
 grind [ow]
theorem YN {N:Int->Int->List (Int×Bool)} {nf ns:Nat} {u:List eT×List eT} (h:xK N nf ns u) {ar:List aX} {last:Int} {e:bC} (hb:xI ar last u.1 u.2 e=true) :
  xK (fun kd i=>N kd i++jK ar kd i [e]) nf ns (tJ ar u e)/\yh nf ns ar e/\last<e.page:=by
 unfold xI at hb;rw[eG,eG,kR] at hb;obtain⟨h1,h2,h3⟩:=hb;obtain⟨⟨l1,l2⟩,s1,s2⟩:=h;by_cases c:e.kind=1
 · rw[aB c] at h3;obtain⟨b,hc⟩:=yX.1 h3;refine⟨⟨⟨?_,?_⟩,fun i hi=>?_,fun i hi=>?_⟩,⟨h1,.inl ⟨c,b.1,by omega⟩⟩,h2⟩
   · grind [tJ,rU]
   · grind [tJ]
   · grind [tJ,rU,Fq,rG,Ng,nH]
   grind [tJ,nH]
 · rw[au c] at h3;by_cases c2:e.kind=2
   · rw[aB c2] at h3;obtain⟨b,hc⟩:=yX.1 h3;refine⟨⟨⟨?_,?_⟩,fun i hi=>?_,fun i hi=>?_⟩,⟨h1,.inr ⟨c2,b.1,by omega⟩⟩,h2⟩
     · grind [tJ]
     · grind [tJ,rU]
     · grind [tJ,nH]
     grind [tJ,rU,Fq,rG,Ng,nH]
   grind
theorem YO {N:Int->Int->List (Int×Bool)} {nf ns:Nat} {u:List eT×List eT} (h:xK N nf ns u) {ar:List aX} {last:Int} {e:bC} (he:yh nf ns ar e) (hl:last<e.page) (ho:∀x∈N e.kind e.loc,x=(e.page,(aW ar e.page).1.zero)):xI ar last u.1 u.2 e=true:=by
 obtain⟨⟨l1,l2⟩,s1,s2⟩:=h;unfold xI;rw[he.1,gU hl,tv,tv];have key:∀(us:List eT) (n:Nat),us.length=n->(0<=e.loc/\e.loc<(n:Int))->yx (N e.kind (e.loc.toNat:Int)) (cU us e.loc.toNat)->ow us e (aW ar e.page).1.zero=true:=fun us n hn hb hs=>by
  rw[yX];refine⟨by omega,fun ⟨a,b⟩=>?_⟩;rw[hs.1] at a;obtain⟨x,hx⟩:=List.exists_mem_of_length_pos (show 0<(N e.kind (e.loc.toNat:Int)).length by omega);have e1:=hs.2 x hx
  grind
 rcases he.2 with g | g
 · grind
 grind
theorem DK (es:List bC) (k:Nat) (hk:k<es.length):es.take (k+1)=es.take k++[aV es k]:=by
 grind [List.take_add_one,aV]
theorem FJ {N:Int->Int->List (Int×Bool)} {nf ns:Nat} {u:List eT×List eT} (h:xK N nf ns u) (ar:List aX) (es:List bC):∀k,k<=es.length->jN ar es u k=true->xK (fun kd i=>N kd i++jK ar kd i (es.take k)) nf ns (jr ar es u k)/\∀i,i<k->yh nf ns ar (aV es i)/\rq es i<(aV es i).page
 | 0,_,_=>⟨by
  have e:(fun kd i=>N kd i++jK ar kd i (es.take 0))=N:=by grind [jK]
  rw[e];exact h,fun i hi=>by omega⟩
 | k+1,hk,hb=>by
  unfold jN at hb;rw[eG] at hb;obtain⟨a1,a2⟩:=FJ h ar es k (by omega) hb.1;obtain⟨b1,b2,b3⟩:=YN a1 hb.2;refine⟨?_,fun i hi=>?_⟩
  · have e:(fun kd i=>N kd i++jK ar kd i (es.take (k+1)))=fun kd i=>(N kd i++jK ar kd i (es.take k))++jK ar kd i [aV es k]:=by
     grind [DK,mN]
    rw[e];exact b1
  grind
theorem KV {N:Int->Int->List (Int×Bool)} {nf ns:Nat} {u:List eT×List eT} (h:xK N nf ns u) (ar:List aX) (es:List bC) (he:∀i,i<es.length->yh nf ns ar (aV es i)/\rq es i<(aV es i).page) (ho:∀kd i,∀x∈N kd i++jK ar kd i es,∀y∈N kd i++jK ar kd i es,x=y):∀k,k<=es.length->jN ar es u k=true
 | 0,_=>rfl
 | k+1,hk=>by
  have ih:=KV h ar es he ho k (by omega);unfold jN;rw[ih,tv];obtain⟨a1,_⟩:=FJ h ar es k (by omega) ih;refine YO a1 (he k (by omega)).1 (he k (by omega)).2 fun x hx=>?_
  have hm:(aV es k)∈es:=jL (by omega);refine ho (aV es k).kind (aV es k).loc x ?_ _ (lQ.2 (.inr (Mj.2 ⟨_,hm,rfl,rfl,rfl⟩)))
  grind [Mj]
open Go.RowKit
theorem DV (es:List bC) (k:Nat):(es.map (·.page)).getD k 0=(aV es k).page:=by
 unfold aV;rw[fy,fy,Aq];cases es[k]? <;> rfl
theorem kM {ar:List aX} {p:Int} (h:(aW ar p).2=true):1<=p/\p<256:=by
 have:=ik (s7 h) h;omega
theorem Nj {nf ns:Nat} {ar:List aX} {es:List bC}:(∀i,i<es.length->yh nf ns ar (aV es i)/\rq es i<(aV es i).page)↔(∀e∈es,yh nf ns ar e)/\jC es:=by
 constructor
 · intro h;refine⟨fun e he=>?_,Aa _ fun k h1 h2=>?_⟩
   · obtain⟨i,hi,rfl⟩:=lu gY he;exact(h i hi).1
   grind [DV,rq]
 · rintro⟨h1,h2⟩ i hi;have he:=h1 (aV es i) (jL hi);refine⟨he,?_⟩;unfold rq;by_cases c:i=0
   · rw[aB c];have:=kM he.1;omega
   · rw[au c,<- DV,<- DV];exact Jp h2 i (by omega) (by grind)
theorem FH {hs:List bG} (hr:gS hs=true) (p:Int):(eV hs p).size≠0↔(iD hs p).isSome=true:=by
 constructor
 · intro h;unfold eV at h;cases g:iD hs p with
   | some s=>rfl
   | none=>rw[g] at h;exact absurd rfl h
 grind [FI]
theorem aa8 {ar:List aX} (hc:bj ar=0) (p:Int):(aW ar p).2=true↔∃a∈ar,a.page<=p/\p<a.page+a.aO/\aW ar p=(a,true):=by
 grind [aW,Bo,bB,Jt]
theorem aa7 {ar:List aX} (hc:bj ar=0) {a:aX} (ha:a∈ar) {p:Int} (h1:a.page<=p) (h2:p<a.page+a.aO):aW ar p=(a,true):=by
 obtain⟨k,hk,e⟩:=lu xp ha;have e:bB ar k=a:=e;have hit:iJ (bB ar k) p=true:=by grind [Jt]
 grind [aW,MS,Bo,Qh]
theorem Np {hs:List bG} (hr:gS hs=true) {ar:List aX} (hc:bj ar=0):ru hs ar=true↔∀p,(aW ar p).2=true->(aW ar p).1.zero=false->(iD hs p).isSome=true:=by
 unfold ru;rw[pS];constructor
 · intro h p hp hz;obtain⟨a,ha,h1,h2,e⟩:=(aa8 hc p).1 hp;rw[e] at hz;have hz:a.zero=false:=hz;have:=h a ha;rw[pS] at this;have:=this (p-a.page).toNat (uy.2 (by omega))
   grind [FH]
 · intro h a ha;rw[pS];intro n hn;have hn:=uy.1 hn;have e:=aa7 hc ha (p:=a.page+(n:Int)) (by omega) (by omega)
   grind [FH]
theorem aa6 (ss:List cV) (k:Nat) (hk:k<ss.length):ss.take (k+1)=ss.take k++[ak ss k]:=by
 grind [List.take_add_one,ak]
theorem Ic (ss:List cV) (k:Nat) (hk:k<ss.length) (kd a:Int):bT (ss.take (k+1)) kd a=bT (ss.take k) kd a++fw (ak ss k) kd a:=by
 grind [aa6,EC,kL,KQ]
theorem Nf (nf ns:Nat):xK (fun _ _=>[]) nf ns (List.replicate nf dx,List.replicate ns dx):=by
 have h:∀n i,cU (List.replicate n dx) i=dx:=fun n i=>by
  grind [cU]
 refine⟨⟨uA,uA⟩,fun i _=>?_,fun i _=>?_⟩
 · grind [yx,dx]
 grind [yx,dx]
theorem afl {hs:List bG} (hr:gS hs=true) {nf ns:Nat} {s:cV} (h1:pF hs s=true) (h2:(∀e∈s.bf,yh nf ns s.aT e)/\jC s.bf):uN hs nf ns s:=by
 unfold pF at h1;by_cases c:s.live=true
 · rw[aB c,eG,kR] at h1;exact⟨fun d=>(by grind),h1.1,h2.2,h2.1,(Np hr h1.1).1 h1.2⟩
 · rw[au c,eG,kR,kR] at h1;have ha:=kT h1.1;refine⟨fun _=>⟨ha,kT h1.2⟩,by rw[ha];rfl,h2.2,h2.1,fun p hp=>?_⟩;rw[ha] at hp;cases hp
theorem afm {hs:List bG} (hr:gS hs=true) {nf ns:Nat} {s:cV} (h:uN hs nf ns s):pF hs s=true:=by
 grind [pF,Np,uN.aT,uN.aM,uN.dead]
theorem zN {hs:List bG} (hr:gS hs=true) {nf ns:Nat} {u:List eT×List eT} (h:xK (fun _ _=>[]) nf ns u) (ss:List cV):∀k,k<=ss.length->nQ hs ss u k=true->xK (fun kd i=>bT (ss.take k) kd i) nf ns (ky ss u k)/\∀i,i<k->uN hs nf ns (ak ss i)
 | 0,_,_=>⟨by
  have e:(fun kd i=>bT (ss.take 0) kd i)=fun _ _=>[]:=by rfl
  rw[e];exact h,fun i hi=>by omega⟩
 | k+1,hk,hb=>by
  unfold nQ at hb;rw[eG,eG] at hb;obtain⟨a1,a2⟩:=zN hr h ss k (by omega) hb.1;obtain⟨b1,b2⟩:=FJ a1 (ak ss k).aT (ak ss k).bf _ (aH _) hb.2.2;refine⟨?_,fun i hi=>?_⟩
  · have e:(fun kd i=>bT (ss.take (k+1)) kd i)=fun kd i=>bT (ss.take k) kd i++jK (ak ss k).aT kd i ((ak ss k).bf.take (ak ss k).bf.length):=by
     funext kd i;rw[Ic ss k (by omega),vh];rfl
    rw[e];exact b1
  · by_cases c:i=k
    · simp_all [afl,Nj]
    grind
theorem VK {ss:List cV} {k:Nat} {kd a:Int} {x:Int×Bool} (h:x∈bT (ss.take k) kd a):x∈bT ss kd a:=by
 grind [o9]
theorem Nh {hs:List bG} (hr:gS hs=true) {nf ns:Nat} {u:List eT×List eT} (h:xK (fun _ _=>[]) nf ns u) (ss:List cV) (hsp:∀i,i<ss.length->uN hs nf ns (ak ss i)) (ho:∀kd i,∀x∈bT ss kd i,∀y∈bT ss kd i,x=y):∀k,k<=ss.length->nQ hs ss u k=true
 | 0,_=>rfl
 | k+1,hk=>by
  have ih:=Nh hr h ss hsp ho k (by omega);unfold nQ;obtain⟨a1,_⟩:=zN hr h ss k (by omega) ih;have g:=hsp k (by omega);rw[ih,afm hr g,tv,tv];refine KV a1 _ _ (Nj.2 ⟨g.ML,g.mn⟩) (fun kd i x hx y hy=>?_) _ (aH _);have key:∀z,z∈bT (ss.take k) kd i++jK (ak ss k).aT kd i (ak ss k).bf->z∈bT ss kd i:=fun z hz=>by
   refine VK (k:=k+1) ?_;rw[Ic ss k (by omega)];exact hz
  grind
theorem DR (f:lK):sM f=true↔f=gM:=by
 unfold sM;rw[kR];constructor
 · rintro⟨h1,h2,h3,h4⟩;obtain⟨⟨⟨d⟩⟩,r,a,b⟩:=f;simp only at h2 h3 h4;subst h2 h3 h4;have:d=[]:=kT h1;subst this;rfl
 · rintro rfl;exact⟨rfl,rfl,rfl,rfl⟩
theorem FE (f:oO):tI f=true↔f=nR:=by
 unfold tI;rw[kR];constructor
 · rintro⟨h1,h2⟩;obtain⟨⟨⟨d⟩⟩,r⟩:=f;simp only at h2;subst h2;have:d=[]:=kT h1;subst this;rfl
 · rintro rfl;exact⟨rfl,rfl⟩
theorem Qx {L:List (Int×Bool)} {u:eT} (h:yx L u):∀x∈L,∀y∈L,x=y:=fun x hx y hy=>(h.2 x hx).trans (h.2 y hy).symm
theorem zM {L:List (Int×Bool)} {u:eT} (h:yx L u):u.refs=0↔L=[]:=by
 rw[h.1]
 simp_all
theorem T7 {hs:List bG} {L:List (Int×Bool)} {u:eT} (h:yx L u) (f:lK):jJ hs f u=true↔lJ hs L f:=by
 unfold jJ;by_cases c:u.refs=0
 · grind [zM,DR,lJ.none,lJ.zero]
 · have hL:L≠[]:=fun e=>c ((zM h).2 e)
   rw[au c,eG,kR,Un,kR];constructor
   · rintro⟨⟨h1,h2⟩,h3⟩;refine⟨h1.trans h.1,fun e=>absurd e hL,Qx h,fun _=>h2,fun d x hx=>?_⟩;rw[h.2 x hx]
     grind
   · intro g;refine⟨⟨g.refs.trans h.1.symm,g.size hL⟩,?_⟩;cases d:f.jw with
     | true=>grind
     | false =>
      obtain⟨x,hx⟩:=JI _ hL;have:=g.fill d x hx;rw[h.2 x hx] at this
      grind
theorem T3 {L:List (Int×Bool)} {u:eT} (h:yx L u) (f:oO):lZ f u=true↔oF L f:=by
 unfold lZ;by_cases c:u.refs=0
 · grind [zM,FE,oF.none,oF.zero]
 · have hL:L≠[]:=fun e=>c ((zM h).2 e)
   rw[au c,kR];constructor
   · rintro⟨h1,h2⟩;exact⟨h1.trans h.1,fun e=>absurd e hL,Qx h,fun _=>h2⟩
   · intro g;exact⟨g.refs.trans h.1.symm,g.size hL⟩
theorem YK (k:aR) (hc:nk k=true):CJ k=true↔aY k:=by
 unfold CJ;simp only[eG,kR,pS,uy];have hz:=Nf k.frames.length k.slots.length;have hn:(fun kd i=>bT (k.aj.take k.aj.length) kd i)=fun kd i=>bT k.aj kd i:=by grind
 constructor
 · rintro⟨h1,h2,h3,h4,h5,h6⟩;obtain⟨a1,a2⟩:=zN h1 hz k.aj _ (aH _) h3;rw[hn] at a1;refine⟨hc,h1,h2,fun s hs=>?_,h4,fun i hi=>(T7 (a1.2.1 i hi) _).1 (h5 i hi),fun i hi=>(T3 (a1.2.2 i hi) _).1 (h6 i hi)⟩;obtain⟨j,hj,rfl⟩:=lu qJ hs;exact a2 j hj
 · intro h;have ho:∀kd i,∀x∈bT k.aj kd i,∀y∈bT k.aj kd i,x=y:=fun kd i x hx y hy=>by
    obtain⟨s,hs,e,he,g1,g2,_⟩:=o9.1 hx;obtain⟨j,hj,rfl⟩:=lu qJ hs;rcases iU h hj he with b | b
    · have:=(h.zt e.loc.toNat b.2.2).one x (by grind) y (by grind);omega
    grind [aY.slt,oF.one]
   have hb:=Nh h.mn hz k.aj (fun i hi=>h.sp hi) ho _ (aH _);obtain⟨a1,_⟩:=zN h.mn hz k.aj _ (aH _) hb;rw[hn] at a1;exact⟨h.mn,h.hand,hb,h.room,fun i hi=>(T7 (a1.2.1 i hi) _).2 (h.zt i hi),fun i hi=>(T3 (a1.2.2 i hi) _).2 (h.slt i hi)⟩
theorem vU (k:aR):gh k=0↔aY k:=by
 grind [gh,YK,aY.counts]
open Go.RowKit
open Go.RowKit
def mF (us:List eT) (n:Nat) (B:Int):Prop:=us.length=n/\∀i,i<n->0<=(cU us i).refs/\(cU us i).refs<=B
theorem mF.mono {us:List eT} {n:Nat} {B C:Int} (h:mF us n B) (hc:B<=C):mF us n C:=⟨h.1,fun i hi=>⟨(h.2 i hi).1,Int.le_trans (h.2 i hi).2 hc⟩⟩
theorem mF.use {us:List eT} {n:Nat} {B:Int} (h:mF us n B) (e:bC) (z:Bool) (hok:ow us e z=true):mF (rU us e z) n (B+1):=by
 have hb:=(yX.1 hok).1;obtain⟨h1,h2⟩:=h;refine⟨by grind [rU],fun i hi=>?_⟩
 grind [rU,Fq]
theorem SI {ar:List aX} {last:Int} {uf us:List eT} {e:bC} (h:xI ar last uf us e=true):(aW ar e.page).2=true/\last<e.page/\((e.kind=1/\ow uf e (aW ar e.page).1.zero=true)∨(e.kind=2/\ow us e (aW ar e.page).1.zero=true)):=by
 grind [xI]
theorem Je (ar:List aX) (es:List bC) (u:List eT×List eT) (nf ns:Nat) (B:Int) (h1:mF u.1 nf B) (h2:mF u.2 ns B):∀k,k<=es.length->jN ar es u k=true->mF (jr ar es u k).1 nf (B+k)/\mF (jr ar es u k).2 ns (B+k)/\(k:Int)<=(if k=0 then 0 else (aV es (k-1)).page)/\(if k=0 then 0 else (aV es (k-1)).page)<256
 | 0,_,_=>⟨h1.mono (by omega),h2.mono (by omega),Am _,by omega⟩
 | k+1,hk,hb=>by
  unfold jN at hb;rw[eG] at hb;obtain⟨a1,a2,a3,a4⟩:=Je ar es u nf ns B h1 h2 k (by omega) hb.1;obtain⟨b1,b2,b3⟩:=SI hb.2;have hm:=kM b1
  grind [rq,tJ,jr,mF.use,mF.mono]
theorem Ik (ar:List aX) (es:List bC) (u:List eT×List eT):∀(k n:Nat),k<=n->jN ar es u k=false->jN ar es u n=false
 | k,0,h,e=>by
  grind
 | k,n+1,h,e=>by
  by_cases c:k=n+1
  · grind
  · rw[jN,Ik ar es u k n (by omega) e,GH]
theorem YM (ar:List aX) (es:List bC) (u:List eT×List eT) (k:Nat) (hk:k<es.length) (h:xI ar (rq es k) (jr ar es u k).1 (jr ar es u k).2 (aV es k)=false):jN ar es u es.length=false :=
 Ik ar es u (k+1) es.length hk (by grind [jN])
theorem TY (n:Nat):mF (List.replicate n dx) n 0:=by
 refine⟨uA,fun i hi=>?_⟩;unfold cU;rw[fy,List.getElem?_replicate,aB hi];exact⟨Am _,Am _⟩
theorem TZ (hs:List bG) (ss:List cV) (u:List eT×List eT) (nf ns:Nat) (h1:mF u.1 nf 0) (h2:mF u.2 ns 0):∀k,k<=ss.length->nQ hs ss u k=true->mF (ky ss u k).1 nf (255*k)/\mF (ky ss u k).2 ns (255*k)
 | 0,_,_=>⟨h1,h2⟩
 | k+1,hk,hb=>by
  unfold nQ at hb;rw[eG,eG] at hb;obtain⟨a1,a2⟩:=TZ hs ss u nf ns h1 h2 k (by omega) hb.1;obtain⟨b1,b2,_,_⟩:=Je (ak ss k).aT (ak ss k).bf (ky ss u k) nf ns (255*k) a1 a2 _ (aH _) hb.2.2
  grind [ky,mF.mono]
theorem Sy {k:aR} (hr:gS k.aM=true) (hb:nQ k.aM k.aj (List.replicate k.frames.length dx,List.replicate k.slots.length dx) k.aj.length=true) (i:Nat) (hi:i<k.frames.length) (hn:(cU (zL k).1 i).refs≠0):0<=(cU (zL k).1 i).page/\(cU (zL k).1 i).page<256:=by
 obtain⟨a1,a2⟩:=zN hr (Nf k.frames.length k.slots.length) k.aj _ (aH _) hb;have hs:=a1.2.1 i hi;have hs:yx (bT (k.aj.take k.aj.length) 1 i) (cU (zL k).1 i):=hs;rw[vh] at hs;have hne:bT k.aj 1 i≠[]:=fun e=>hn ((zM hs).2 e)
 obtain⟨x,hx⟩:=JI _ hne;have e:=hs.2 x hx;obtain⟨s,hsm,en,hen,_,_,hxe⟩:=o9.1 hx;obtain⟨j,hj,rfl⟩:=lu qJ hsm;have hm:=kM ((a2 j hj).ML en hen).1
 grind
theorem KG (hs:List bG) (ss:List cV) (u:List eT×List eT):∀(k n:Nat),k<=n->nQ hs ss u k=false->nQ hs ss u n=false
 | k,0,h,e=>by
  grind
 | k,n+1,h,e=>by
  by_cases c:k=n+1
  · grind
  · rw[nQ,KG hs ss u k n (by omega) e,GH]
open Go.RowKit
def cj (a n:Int):Int:=(a+n-1)/16
def eU (k:aR) (j:Nat) (a way:Int):Nat×aR:=dG k j (a/16) way []
def kx (k:aR) (j:Nat) (a n way:Int):Nat×aR:=dG (eU k j a way).2 j (cj a n) way [((eU k j a way).1:Int)]
def aZ (k:aR) (j:Nat) (a n way:Int):List Nat×aR:=if cj a n=a/16 then ([(eU k j a way).1],(eU k j a way).2) else ([(eU k j a way).1,(kx k j a n way).1],(kx k j a n way).2)
structure aba (k:aR) (j:Nat) (a n way:Int):Prop where
 right:aY (aZ k j a n way).2
 kept:fE k (aZ k j a n way).2
 one:bk (ak (aZ k j a n way).2.aj j).bf (a/16)=some ⟨a/16,1,(eU k j a way).1⟩/\(eU k j a way).1<k.frames.length
 two:cj a n≠a/16->bk (ak (aZ k j a n way).2.aj j).bf (cj a n)=some ⟨cj a n,1,(kx k j a n way).1⟩/\(kx k j a n way).1<k.frames.length
theorem nT {k:aR} (h:aY k) {j:Nat} (hj:j<k.aj.length) (a n way:Int) (h1:dX k j (a/16)) (h2:dX k j (cj a n)):aba k j a n way:=by
 have A:=(qK h hj h1 way (held:=[]) (by simp)).1;by_cases c:cj a n=a/16
 · have e:aZ k j a n way=([(eU k j a way).1],(eU k j a way).2):=by grind [aZ]
   exact⟨by rw[e];exact A.right,by rw[e];exact A.kept,by rw[e];exact⟨A.here,A.lt⟩,fun x=>absurd c x⟩
 · have hj':j<(eU k j a way).2.aj.length:=by grind [eU,fK.kept,fE.np]
   have B:=(qK (k:=(eU k j a way).2) A.right hj' (A.kept.mapped hj h2) way (held:=[((eU k j a way).1:Int)]) (by simp)).1;have e:aZ k j a n way=([(eU k j a way).1,(kx k j a n way).1],(kx k j a n way).2):=by grind [aZ]
   refine⟨by rw[e];exact B.right,by rw[e];exact A.kept.trans B.kept,?_,fun _=>?_⟩
   · rw[e];exact⟨B.stay j hj' (a/16) _ A.here rfl (by grind) (fun x=>c x.2.symm),A.lt⟩
   · rw[e];refine⟨B.here,?_⟩;have hl:=B.lt
     grind [kx,eU,fK.kept,fE.nf]
open Go.RowKit
def l7 (k:aR) (j:Nat) (es:List bC) (e:bC):aR:=dE { k with aj:=k.aj.set j (dU (ak k.aj j) es) } e
theorem DW {k:aR} (h:aY k) {j:Nat} (hj:j<k.aj.length) {pre post:List bC} {e:bC} (he:(ak k.aj j).bf=pre++e::post):(l7 k j (pre++post) e).frames.length=k.frames.length/\(l7 k j (pre++post) e).slots.length=k.slots.length/\(l7 k j (pre++post) e).aM=k.aM/\(l7 k j (pre++post) e).hand=k.hand/\(l7 k j (pre++post) e).aj=k.aj.set j (dU (ak k.aj j) (pre++post)) /\
  (∀n,aD (l7 k j (pre++post) e).frames n=if e.kind=1/\e.loc=(n:Int) then rp (aD k.frames n) else aD k.frames n) /\
  (∀n,bE (l7 k j (pre++post) e).slots n=if e.kind=2/\e.loc=(n:Int) then uk (bE k.slots n) else bE k.slots n):=by
 have hm:e∈(ak k.aj j).bf:=by grind
 unfold l7 dE
 grind [iU,jM,xY]
theorem KZ {k:aR} (h:aY k) {j:Nat} (hj:j<k.aj.length) {pre post:List bC} {e:bC} (he:(ak k.aj j).bf=pre++e::post):aY (l7 k j (pre++post) e):=by
 have hsp:=h.sp hj;obtain⟨f1,f2,f3,f4,f5,f6,f7⟩:=DW h hj he;have hlen:(l7 k j (pre++post) e).aj.length=k.aj.length:=by grind
 have hin:∀x,x∈pre++post->x∈(ak k.aj j).bf:=fun x hx=>by
  grind
 have hnm:∀kd a:Int,∃X Y,bT k.aj kd a=X++(jK (ak k.aj j).aT kd a [e]++Y)/\bT (k.aj.set j (dU (ak k.aj j) (pre++post))) kd a=X++Y:=fun kd a=>by
  obtain⟨u,v,g1,g2⟩:=yZ k.aj j (dU (ak k.aj j) (pre++post)) kd a hj;refine⟨u++jK (ak k.aj j).aT kd a pre,jK (ak k.aj j).aT kd a post++v,?_,?_⟩
  · grind [y7,mN,wU]
  · rw[g2,y7];show u++(jK (ak k.aj j).aT kd a (pre++post)++v)=_
    grind [mN]
 refine⟨?_,by rw[f3];exact h.mn,by simp_all [aY.hand],?_,?_,?_,?_⟩
 · have:=h.counts
   grind [nk]
 · rw[f1,f2,f3,f5];intro s hs;rcases acd hs with g | rfl
   · exact h.each s g
   · refine⟨fun dd=>?_,hsp.aT,?_,fun x hx=>hsp.ML x (hin x hx),hsp.aM⟩
     · have hnil:=(hsp.dead dd).2
       simp_all
     · have hr:jC (ak k.aj j).bf:=hsp.mn;rw[he] at hr;exact UA ((List.Sublist.append (List.Sublist.refl pre) (List.sublist_cons_self e post)).map _) hr
 · rw[f2,f5,A3 _ _ (dU (ak k.aj j) (pre++post)) hj rfl];exact h.room
 · intro n hn;rw[f1] at hn;rw[f3,f5,f6];obtain⟨X,Y,h1,h2⟩:=hnm 1 n
   grind [rG,nH,aY.zt,lJ.less]
 · intro n hn;rw[f2] at hn;rw[f5,f7];obtain⟨X,Y,h1,h2⟩:=hnm 2 n
   grind [rG,nH,aY.slt,oF.less]
open Go.RowKit
theorem pd {α:Type} (d:α):∀(l m:List α),l.length=m.length->(∀i,i<l.length->l.getD i d=m.getD i d)->l=m
 | [],[],_,_=>rfl
 | [],b::r,h,_=>by simp at h
 | a::r,[],h,_=>by simp at h
 | a::r,b::t,h,g=>by
  have h0:a=b:=g 0 (OM _);have h1:=pd d r t (by grind) (fun i hi=>g (i+1) (OL hi))
  grind
def G6 (f:lK) (d:Int):lK:=if f.refs+d=0 then gM else ⟨f.data,f.refs+d,f.jw,f.seen⟩
def G5 (f:oO) (d:Int):oO:=if f.refs+d=0 then nR else ⟨f.data,f.refs+d⟩
def jW (k:aR) (e:bC) (d:Int):aR:=if e.kind=1 then { k with frames:=k.frames.set e.loc.toNat (G6 (aD k.frames e.loc.toNat) d) } else { k with slots:=k.slots.set e.loc.toNat (G5 (bE k.slots e.loc.toNat) d) }
theorem FN (k:aR) (e:bC):jW k e (-1)=dE k e:=by
 rfl
theorem ED (k:aR) (e:bC):(dE k e).aj=k.aj:=by grind [dE]
theorem SG (k:aR) (e:bC):(dE k e).aM=k.aM/\(dE k e).hand=k.hand:=by grind [dE]
theorem VM (k:aR) (e:bC):(dE k e).frames.length=k.frames.length/\(dE k e).slots.length=k.slots.length:=by
 grind [dE]
def jV (k:aR) (j:Nat) (es:List bC):aR:={ k with aj:=k.aj.set j (dU (ak k.aj j) es) }
theorem Ii (k:aR) (j:Nat) (es:List bC) (e:bC):dE (jV k j es) e=jV (dE k e) j es:=by grind [dE,jV]
theorem KI (k:aR) (j:Nat) (hj:j<k.aj.length) (es fs:List bC):jV (jV k j es) j fs=jV k j fs:=by
 unfold jV;simp only[pQ];rw[iC _ _ _ _ hj,aB rfl];rfl
theorem KJ (k:aR) (j:Nat) (hj:j<k.aj.length):jV k j (ak k.aj j).bf=k:=by
 unfold jV;have:k.aj.set j (dU (ak k.aj j) (ak k.aj j).bf)=k.aj:=pd qJ _ _ fC (fun i hi=>by
  have:=iC k.aj j i (dU (ak k.aj j) (ak k.aj j).bf) hj;unfold ak at this ⊢;rw[this];by_cases c:j=i
  · rw[aB c,c];rfl
  grind)
 rw[this]
theorem QA (k:aR) (j:Nat) (hj:j<k.aj.length) (es:List bC):(ak (jV k j es).aj j).bf=es:=by
 show(ak (k.aj.set j _) j).bf=es;rw[iC _ _ _ _ hj,aB rfl];rfl
def cQ (k:aR) (es:List bC) (p:bC->Bool):Nat->aR
 | 0=>k
 | n+1=>if p (aV es n) then dE (cQ k es p n) (aV es n) else cQ k es p n
def eQ (es:List bC) (p:bC->Bool):List bC:=es.filter fun e=>!p e
def dz (k:aR) (j:Nat) (p:bC->Bool):aR:=jV (cQ k (ak k.aj j).bf p (ak k.aj j).bf.length) j (eQ (ak k.aj j).bf p)
theorem kN (k:aR) (es:List bC) (p:bC->Bool):∀n,(cQ k es p n).aj=k.aj
 | 0=>rfl
 | n+1=>by
  unfold cQ;split
  · rw[ED,kN k es p n]
  · exact kN k es p n
theorem FL (k:aR) (es:List bC) (p:bC->Bool):∀n,(cQ k es p n).aM=k.aM/\(cQ k es p n).hand=k.hand/\(cQ k es p n).frames.length=k.frames.length/\(cQ k es p n).slots.length=k.slots.length
 | 0=>⟨rfl,rfl,rfl,rfl⟩
 | n+1=>by
  have ih:=FL k es p n
  grind [cQ,SG,VM]
theorem KW (es:List bC) (n:Nat) (h:n<es.length):es.drop n=aV es n::es.drop (n+1):=by
 grind [List.drop_eq_getElem_cons,aV]
theorem KR (es:List bC) (p:bC->Bool) (n:Nat) (h:n<es.length):eQ (es.take (n+1)) p=eQ (es.take n) p++(if p (aV es n) then [] else [aV es n]):=by
 grind [eQ,DK]
theorem vT {k:aR} (h:aY k) {j:Nat} (hj:j<k.aj.length) (p:bC->Bool):∀n,n<=(ak k.aj j).bf.length->aY (jV (cQ k (ak k.aj j).bf p n) j (eQ ((ak k.aj j).bf.take n) p++(ak k.aj j).bf.drop n))
 | 0,_=>by
  have:eQ ((ak k.aj j).bf.take 0) p++(ak k.aj j).bf.drop 0=(ak k.aj j).bf:=rfl;rw[this];show aY (jV k j (ak k.aj j).bf)
  grind [KJ]
 | n+1,hn=>by
  have ih:=vT h hj p n (by omega);have hlt:n<(ak k.aj j).bf.length:=by omega
  have UI:j<(cQ k (ak k.aj j).bf p n).aj.length:=by grind [kN]
  rw[KW _ n hlt] at ih;rw[KR _ p n hlt];unfold cQ;cases g:p (aV (ak k.aj j).bf n) with
  | true =>
   rw[aB rfl,aB rfl,C6];have hj2:j<(jV (cQ k (ak k.aj j).bf p n) j (eQ ((ak k.aj j).bf.take n) p++aV (ak k.aj j).bf n::(ak k.aj j).bf.drop (n+1))).aj.length:=by
    show j<List.length (List.set _ _ _)
    grind
   have:=KZ ih hj2 (QA _ j UI _);have e:l7 (jV (cQ k (ak k.aj j).bf p n) j (eQ ((ak k.aj j).bf.take n) p++aV (ak k.aj j).bf n::(ak k.aj j).bf.drop (n+1))) j (eQ ((ak k.aj j).bf.take n) p++(ak k.aj j).bf.drop (n+1)) (aV (ak k.aj j).bf n)=jV (dE (cQ k (ak k.aj j).bf p n) (aV (ak k.aj j).bf n)) j (eQ ((ak k.aj j).bf.take n) p++(ak k.aj j).bf.drop (n+1)):=by
    show dE (jV (jV _ j _) j _) _=_
    grind [KI,Ii]
   grind
  | false =>
   grind
theorem yw {k:aR} (h:aY k) {j:Nat} (hj:j<k.aj.length) (p:bC->Bool):aY (dz k j p):=by
 have:=vT h hj p _ (aH _);rw[vh,Uq,C6] at this;exact this
theorem gF (k:aR) (j:Nat) (p:bC->Bool):(dz k j p).aj=k.aj.set j (dU (ak k.aj j) (eQ (ak k.aj j).bf p)):=by
 show((cQ k (ak k.aj j).bf p _).aj).set j _=_;rw[kN]
theorem mU (k:aR) (j:Nat) (p:bC->Bool):(dz k j p).aM=k.aM/\(dz k j p).hand=k.hand/\(dz k j p).frames.length=k.frames.length/\(dz k j p).slots.length=k.slots.length:=FL k _ p _
theorem Jf (k:aR) (i:Nat) (es:List bC):∀n,∃x,(cQ k es (kV (i:Int)) n).frames=k.frames.set i x/\(cQ k es (kV (i:Int)) n).slots=k.slots
 | 0=>⟨aD k.frames i,by
   show k.frames=_;refine(pd gM _ _ fC (fun m hm=>?_)).symm;rw[fC] at hm;by_cases c:i=m
   · subst c;rw[eI _ _ _ _ hm];rfl
   grind,rfl⟩
 | n+1=>by
  obtain⟨x,h1,h2⟩:=Jf k i es n
  grind [cQ,yc,dE,List.set_set]
def kg (k:aR) (i:Nat):Nat->aR
 | 0=>k
 | n+1=>dz (kg k i n) n (kV (i:Int))
theorem yY {k:aR} (h:aY k) (i:Nat):∀n,n<=k.aj.length->aY (kg k i n)/\(kg k i n).aM=k.aM/\(kg k i n).hand=k.hand/\(∃x,(kg k i n).frames=k.frames.set i x)/\(kg k i n).slots=k.slots/\(kg k i n).aj.length=k.aj.length/\∀m,m<k.aj.length->ak (kg k i n).aj m=if m<n then nU i (ak k.aj m) else ak k.aj m
 | 0,_=>by
  obtain⟨x,hx,_⟩:=Jf k i [] 0;exact⟨h,rfl,rfl,⟨x,hx⟩,rfl,rfl,fun m _=>by rfl⟩
 | n+1,hn=>by
  obtain⟨r,h1,h2,⟨x,h3⟩,h4,h5,h6⟩:=yY h i n (by omega);have hj:n<(kg k i n).aj.length:=by omega
  have fr:=mU (kg k i n) n (kV (i:Int));obtain⟨y,c1,c2⟩:=Jf (kg k i n) i (ak (kg k i n).aj n).bf (ak (kg k i n).aj n).bf.length;refine⟨yw r hj _,fr.1.trans h1,fr.2.1.trans h2,⟨y,?_⟩,?_,?_,fun m hm=>?_⟩
  · show(cQ _ _ _ _).frames=_
    simp_all
  · show(cQ _ _ _ _).slots=_
    grind
  · show(dz _ _ _).aj.length=_
    grind [gF]
  · show ak (dz _ _ _).aj m=_;rw[gF,iC _ _ _ _ hj];by_cases c:n=m
    · subst c;rw[aB rfl,aB (by omega),h6 n hm,au (by omega)];rfl
    grind
theorem YH {k:aR} (h:aY k) {i:Nat} (hi:i<k.frames.length):kg k i k.aj.length=zR k i:=by
 obtain⟨r,h1,h2,⟨x,h3⟩,h4,h5,h6⟩:=yY h i k.aj.length (aH _);have hs:(kg k i k.aj.length).aj=k.aj.map (nU i):=by
  refine pd qJ _ _ (by grind) (fun m hm=>?_)
  grind [ak]
 have hf:=r.zt i (by grind);have hz:bT (kg k i k.aj.length).aj 1 i=[]:=by
  rw[hs];exact pG _ _ _ _ (fun s _=>xG s.aT i s.bf)
 have hx:x=gM:=by
  grind [aD,lJ.zero]
 have:∀a b:aR,a.aM=b.aM->a.frames=b.frames->a.slots=b.slots->a.aj=b.aj->a.hand=b.hand->a=b:=fun a b e1 e2 e3 e4 e5=>by
  cases a;simp_all
 exact this _ _ h1 (by rw[h3,hx];rfl) h4 hs h2
theorem T5 {k:aR} (h:aY k) {i:Nat} (hi:i<k.frames.length) {j:Nat} (hj:j<k.aj.length) {a b:Nat} (ha:a<(ak k.aj j).bf.length) (hb:b<(ak k.aj j).bf.length) (h1:kV (i:Int) (aV (ak k.aj j).bf a)=true) (h2:kV (i:Int) (aV (ak k.aj j).bf b)=true):a=b:=by
 have nC:=ji hj (jL (d:=gY) ha);have hm2:=ji hj (jL (d:=gY) hb);have g1:=yc.1 h1;have g2:=yc.1 h2;unfold aV at g1 g2;rw[g1.1,g1.2] at nC;rw[g2.1,g2.2] at hm2;have e:=(h.zt i hi).one _ nC _ hm2;injection e with e _;have hr:=(h.sp hj).mn
 grind [List.pairwise_iff_getElem]
theorem SC (i s:Int) (es:List bC) (n:Nat) (hn:n<es.length) (h:kV i (aV es n)=true) (ho:∀m,m<es.length->kV i (aV es m)=true->m=n):es.set n ⟨(aV es n).page,2,s⟩=jI i s es:=by
 refine pd gY _ _ (by grind [jI]) (fun m hm=>?_)
 grind [jI,aV]
theorem VF (i s:Int) (es:List bC) (h:∀m,m<es.length->kV i (aV es m)=false):jI i s es=es:=by
 refine pd gY _ _ (by grind [jI]) (fun m hm=>?_)
 grind [jI,aV]
end Go.Proofs.YtlgoihmkgaaemaaGreat
