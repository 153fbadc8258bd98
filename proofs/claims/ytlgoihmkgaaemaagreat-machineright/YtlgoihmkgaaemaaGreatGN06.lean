import Derived.Test.YtlgoihmkgaaemaaGreatGN05
set_option maxHeartbeats 20000000
set_option linter.unusedVariables false
set_option maxRecDepth 100000
set_option linter.unusedSimpArgs false
namespace Go.Proofs.YtlgoihmkgaaemaaGreat
open Go.RowKit
def rT (k:aT) (j:Nat) (p:Int):Bool:=(aY (ak k.aj j).aU p).1.zero
def ez (k:aT) (j:Nat) (p:Int):Prop:=(aY (ak k.aj j).aU p).2=true
def dA (k:aT) (j:Nat) (p:Int) (held:List Int):Nat×aT:=match bu (ak k.aj j).bc p with
 | some e=>if e.kind=1 then (e.loc.toNat,k) else ((bN k held).1,eU (bN k held).2 j p (bN k held).1 (bH (bN k held).2.slots e.loc.toNat).data true)
 | none=>((bN k held).1,eU (bN k held).2 j p (bN k held).1 (gm (bN k held).2.aM p (rT (bN k held).2 j p)) false)
def kM (k:aT) (j:Nat) (p:Int) (a:Nat) (held:List Int):Nat×aT:=if (aH k.frames a).refs=1 then (a,k) else ((bN k (held++[(a:Int)])).1,eU (bN k (held++[(a:Int)])).2 j p (bN k (held++[(a:Int)])).1 (aH (bN k (held++[(a:Int)])).2.frames a).data true)
def zt (way:Int) (f:lQ):lQ:=⟨f.data,f.refs,f.jo || decide (way=1),true⟩
def QU (k:aT) (way:Int) (i:Nat):aT:={ k with frames:=k.frames.set i (zt way (aH k.frames i)) }
def iz (k:aT) (j:Nat) (p way:Int) (held:List Int):Nat×aT:=if way=1 then kM (dA k j p held).2 j p (dA k j p held).1 held else dA k j p held
def dN (k:aT) (j:Nat) (p way:Int) (held:List Int):Nat×aT:=((iz k j p way held).1,QU (iz k j p way held).2 way (iz k j p way held).1)
structure fR (k:aT) (j:Nat) (p:Int) (held:List Int) (r:Nat×aT):Prop where
 right:aZ r.2
 kept:fM k r.2
 lt:r.1<k.frames.length
 here:bu (ak r.2.aj j).bc p=some ⟨p,1,r.1⟩
 stay:∀j',j'<k.aj.length->∀q e,bu (ak k.aj j').bc q=some e->e.kind=1->e.loc∈held->¬(j'=j/\q=p)->bu (ak r.2.aj j').bc q=some e
theorem tR {k:aT} {j:Nat} {p:Int} {i:Nat} {d:ByteArray} {dy:Bool} (m:jT k j p i d dy) (n:Nat) (q:Int):bu (ak (eU k j p i d dy).aj n).bc q=if j=n/\q=p then some ⟨p,1,i⟩ else bu (ak k.aj n).bc q:=by
 obtain⟨_,_,_,_,f5,_,_⟩:=oK k j p i d dy m;rw[f5,iI _ _ _ _ m.hj];by_cases c:j=n
 · rw[aC c];show bu (mH (ak k.aj j).bc ⟨p,1,i⟩) q=_;rw[QR (m.right.sp m.hj).mr]
   grind
 grind
theorem um.stay {k:aT} (h:aZ k) {held:List Int} {g:Nat×aT} (G:um k held g) {j:Nat} (hj:j<k.aj.length) {q:Int} {e:bI} (he:bu (ak k.aj j).bc q=some e) (hn:e.kind=1->e.loc∈held):bu (ak g.2.aj j).bc q=some e:=by
 have hm:=(ie (h.sp hj).mr).1 he;rw[G.M6 j hj q ?_,he];intro x hx c;rw[he] at hx;injection hx with hx;subst hx;have hb:=(ja h hj hm.1).resolve_right (fun y=>by omega);have hne:(aH k.frames e.loc.toNat).refs≠0:=fun z=>by
  have:=jr hj hm.1;rw[c.1,<- hb.2.1,(h.zL _ hb.2.2).nil z] at this
  grind
 have:=(G.PZ e.loc.toNat (by grind) hne).1;omega
theorem um.mapped {k:aT} {held:List Int} {g:Nat×aT} (G:um k held g) {j:Nat} (hj:j<k.aj.length) {p:Int} (hp:ez k j p):(aY (ak g.2.aj j).aU p).2=true:=by rw[G.kept.aU j hj];exact hp
theorem FZ (hs:List bJ) (hr:gX hs=true) (p:Int) (h:(iJ hs p).isSome=true):(fq hs p).size=16:=by
 unfold fq;cases g:iJ hs p with
 | none=>grind
 | some s =>
  have hm:s∈hs:=U4 g;obtain⟨i,hi,e⟩:=lG Cb hm;have hb:=(qR hs hs.length hr i hi).1;rw[show bl hs i=s from e] at hb;unfold di pq at hb;simp only[eQ,kX] at hb;exact zU s.data s.dZ hb.1.2.2 s.dZ.length hb.2
theorem D8 {k:aT} (h:aZ k) {j:Nat} (hj:j<k.aj.length) {p:Int} (hp:ez k j p):(gm k.aM p (rT k j p)).size=16:=by
 unfold gm;cases z:rT k j p with
 | true=>rfl
 | false=>exact FZ _ h.mr p ((h.sp hj).aM p hp z)
theorem Ab {k:aT} (h:aZ k) {j:Nat} (hj:j<k.aj.length) {p:Int} (hp:ez k j p) {held:List Int} (hl:held.length<=2):fR k j p held (dA k j p held):=by
 have hsp:=h.sp hj;have G:=s8 h hl;unfold dA;cases g:bu (ak k.aj j).bc p with
 | none =>
  dsimp only;have hent:bu (ak (bN k held).2.aj j).bc p=none:=by grind [um.M6]
  have hpk:gm (bN k held).2.aM p (rT (bN k held).2 j p)=cI (bN k held).2 j p:=by unfold cI;rw[hent];rfl
  have hj':j<(bN k held).2.aj.length:=by rw[G.kept.np];exact hj
  have m:jT (bN k held).2 j p (bN k held).1 (gm (bN k held).2.aM p (rT (bN k held).2 j p)) false:=⟨G.right,hj',G.mapped hj hp,by rw[G.kept.nf];exact G.lt,G.free,D8 G.right hj' (G.mapped hj hp),fun _=>rfl⟩;refine⟨xX m,G.kept.trans (DZ m hpk),G.lt,by grind [tR],fun j' hj2 q e he hk hin hne=>?_⟩
  grind [tR,um.stay]
 | some e =>
  have he:=(ie hsp.mr).1 g;dsimp only;by_cases c:e.kind=1
  · rw[aC c];have hb:=(ja h hj he.1).resolve_right (fun y=>by omega);refine⟨h,fM.refl k,hb.2.2,?_,fun j' hj2 q e he hk hin hne=>he⟩;show bu (ak k.aj j).bc p=some ⟨p,1,(e.loc.toNat:Int)⟩;rw[g,hb.2.1,<- c,<- he.2]
  · rw[aA c];have hb:=(ja h hj he.1).resolve_left (fun y=>c y.1);have hent:bu (ak (bN k held).2.aj j).bc p=some e:=by grind [um.M6]
    have hj':j<(bN k held).2.aj.length:=by rw[G.kept.np];exact hj
    have he':=(ie (G.right.sp hj').mr).1 hent;have hpk:(bH (bN k held).2.slots e.loc.toNat).data=cI (bN k held).2 j p:=by grind [cI]
    have hsz:(bH (bN k held).2.slots e.loc.toNat).data.size=16:=(G.right.slt e.loc.toNat (by grind [um.kept,fM.ns])).size (fun z=>by
     grind [jr])
    have m:jT (bN k held).2 j p (bN k held).1 (bH (bN k held).2.slots e.loc.toNat).data true:=⟨G.right,hj',G.mapped hj hp,by rw[G.kept.nf];exact G.lt,G.free,hsz,fun y=>by cases y⟩;refine⟨xX m,G.kept.trans (DZ m hpk),G.lt,by grind [tR],fun j' hj2 q e he hk hin hne=>?_⟩
    grind [tR,um.stay]
theorem Li {k:aT} (h:aZ k) {j:Nat} (hj:j<k.aj.length) {p:Int} (hp:ez k j p) {a:Nat} (ha:bu (ak k.aj j).bc p=some ⟨p,1,a⟩) {held:List Int} (hl:held.length<=1):fR k j p held (kM k j p a held)/\(aH (kM k j p a held).2.frames (kM k j p a held).1).refs=1:=by
 have hsp:=h.sp hj;have he:=(ie hsp.mr).1 ha;have hb:=(ja h hj he.1).resolve_right (fun y=>by grind);have hat:a<k.frames.length:=by grind
 unfold kM;by_cases c:(aH k.frames a).refs=1
 · rw[aC c];exact⟨⟨h,fM.refl k,hat,ha,fun j' hj2 q e he hk hin hne=>he⟩,c⟩
 · rw[aA c];have G:=s8 h (held:=held++[(a:Int)]) (by grind);obtain⟨g,hg⟩:=ex (bN k (held++[(a:Int)]));rw[<- hg] at G ⊢;have hent:bu (ak g.2.aj j).bc p=some ⟨p,1,a⟩:=G.stay h hj ha (fun _=>lV.2 (.inr (by simp)));have hj':j<g.2.aj.length:=by rw[G.kept.np];exact hj
   have he':=(ie (G.right.sp hj').mr).1 hent;have hpk:(aH g.2.frames a).data=cI g.2 j p:=by grind [cI]
   have hsz:(aH g.2.frames a).data.size=16:=(G.right.zL a (by rw[G.kept.nf];exact hat)).size (fun z=>by
    have:=jr hj' he'.1
    grind)
   have m:jT g.2 j p g.1 (aH g.2.frames a).data true:=⟨G.right,hj',G.mapped hj hp,by rw[G.kept.nf];exact G.lt,G.free,hsz,fun y=>by cases y⟩;refine⟨⟨xX m,G.kept.trans (DZ m hpk),G.lt,by grind [tR],fun j' hj2 q e he hk hin hne=>?_⟩,?_⟩
   · grind [tR,um.stay]
   grind [oK]
theorem Zb {k:aT} {j:Nat} {p:Int} {held:List Int} {r:Nat×aT} (b:fR k j p held r) (hj:j<k.aj.length) (way:Int):fR k j p held (r.1,QU r.2 way r.1):=by
 have h:=b.right;have hlt:r.1<r.2.frames.length:=by rw[b.kept.nf];exact b.lt
 have hj':j<r.2.aj.length:=by rw[b.kept.np];exact hj
 have he:=(ie (h.sp hj').mr).1 b.here;have hL:bW r.2.aj 1 r.1≠[]:=fun z=>by
  have:=jr hj' he.1
  grind
 have hf:=h.zL r.1 hlt;have hR:aZ (QU r.2 way r.1):=h.frame (f:=zt way (aH r.2.frames r.1)) ⟨hf.refs,fun e=>absurd e hL,hf.one,hf.size,fun d=>hf.fill (by
  have d:((aH r.2.frames r.1).jo || decide (way=1))=false:=d
  grind)⟩
 refine⟨hR,b.kept.trans ⟨rfl,fJ,rfl,rfl,fun _ _=>rfl,fun _ _=>rfl,fun n hn q=>?_⟩,b.lt,b.here,b.stay⟩;unfold cI;show(match bu (ak r.2.aj n).bc q with
  | some e=>if e.kind=1 then (aH (r.2.frames.set r.1 (zt way (aH r.2.frames r.1))) e.loc.toNat).data else (bH r.2.slots e.loc.toNat).data
  | none=>_)=_
 cases bu (ak r.2.aj n).bc q with
 | none=>rfl
 | some e =>
  show(if e.kind=1 then _ else _)=if e.kind=1 then _ else _
  rw[jQ _ _ _ _ hlt];by_cases c:r.1=e.loc.toNat
  · rw[aC c,<- c];rfl
  grind
theorem fR.trans {k:aT} {j:Nat} {p:Int} {held:List Int} {r s:Nat×aT} (a:fR k j p held r) (b:fR r.2 j p held s):fR k j p held s :=
 ⟨b.right,a.kept.trans b.kept,by have:=b.lt;grind [kept,fM.nf],b.here,fun j' hj' q e he h1 h2 h3=>b.stay j' (by grind [kept,fM.np]) q e (a.stay j' hj' q e he h1 h2 h3) h1 h2 h3⟩
theorem fM.mapped {k k':aT} (h:fM k k') {j:Nat} (hj:j<k.aj.length) {p:Int} (hp:ez k j p):ez k' j p:=by grind [ez,aU]
theorem qW {k:aT} (h:aZ k) {j:Nat} (hj:j<k.aj.length) {p:Int} (hp:ez k j p) (way:Int) {held:List Int} (hl:held.length<=1):fR k j p held (dN k j p way held)/\(way=1->(aH (dN k j p way held).2.frames (dN k j p way held).1).refs=1/\(aH (dN k j p way held).2.frames (dN k j p way held).1).jo=true):=by
 have P:=Ab h hj hp (held:=held) (by omega);have hT:fR k j p held (iz k j p way held)/\(way=1->(aH (iz k j p way held).2.frames (iz k j p way held).1).refs=1):=by
  grind [iz,Li,fR.right,fR.kept,fM.np,fM.mapped,fR.here,fR.trans]
 refine⟨Zb hT.1 hj way,fun c=>?_⟩;have hlt:(iz k j p way held).1<(iz k j p way held).2.frames.length:=by rw[hT.1.kept.nf];exact hT.1.lt
 have e:aH (dN k j p way held).2.frames (dN k j p way held).1=zt way (aH (iz k j p way held).2.frames (iz k j p way held).1):=by
  show aH ((iz k j p way held).2.frames.set _ _) (iz k j p way held).1=_
  grind [jQ]
 grind [zt]
open Go.RowKit
structure fe where
 refs:Int
 page:Int
 zero:Bool
def dC:fe:=⟨0,0,false⟩
def cX (l:List fe) (i:Nat):fe:=l.getD i dC
def oJ (us:List fe) (e:bI) (z:Bool):Bool:=decide (0<=e.loc/\e.loc<(us.length:Int))&&!(decide (0<(cX us e.loc.toNat).refs)&&(decide ((cX us e.loc.toNat).page≠e.page) || (cX us e.loc.toNat).zero != z))
def sF (us:List fe) (e:bI) (z:Bool):List fe:=us.set e.loc.toNat ⟨(cX us e.loc.toNat).refs+1,e.page,z⟩
def xY (ar:List aX) (last:Int) (uf us:List fe) (e:bI):Bool:=(aY ar e.page).2&&(decide (last<e.page)&&(if e.kind=1 then oJ uf e (aY ar e.page).1.zero else if e.kind=2 then oJ us e (aY ar e.page).1.zero else false))
def tT (ar:List aX) (u:List fe×List fe) (e:bI):List fe×List fe:=if e.kind=1 then (sF u.1 e (aY ar e.page).1.zero,u.2) else (u.1,sF u.2 e (aY ar e.page).1.zero)
def rJ (es:List bI) (k:Nat):Int:=if k=0 then 0 else (aW es (k-1)).page
def jx (ar:List aX) (es:List bI) (u:List fe×List fe):Nat->List fe×List fe
 | 0=>u
 | k+1=>tT ar (jx ar es u k) (aW es k)
def jS (ar:List aX) (es:List bI) (u:List fe×List fe):Nat->Bool
 | 0=>true
 | k+1=>jS ar es u k&&xY ar (rJ es k) (jx ar es u k).1 (jx ar es u k).2 (aW es k)
def rK (hs:List bJ) (ar:List aX):Bool:=ar.all fun a=>(List.range a.aQ.toNat).all fun n=>a.zero || decide ((fq hs (a.page+(n:Int))).size≠0)
def pM (hs:List bJ) (s:cY):Bool:=if s.live then decide (bk s.aU=0)&&rK hs s.aU else decide (s.aU.length=0)&&decide (s.bc.length=0)
def kG (ss:List cY) (u:List fe×List fe):Nat->List fe×List fe
 | 0=>u
 | k+1=>jx (ak ss k).aU (ak ss k).bc (kG ss u k) (ak ss k).bc.length
def nY (hs:List bJ) (ss:List cY) (u:List fe×List fe):Nat->Bool
 | 0=>true
 | k+1=>nY hs ss u k&&(pM hs (ak ss k)&&jS (ak ss k).aU (ak ss k).bc (kG ss u k) (ak ss k).bc.length)
def s7 (f:lQ):Bool:=decide (f.data.size=0/\f.refs=0/\f.jo=false/\f.seen=false)
def tS (f:oZ):Bool:=decide (f.data.size=0/\f.refs=0)
def jN (hs:List bJ) (f:lQ) (u:fe):Bool:=if u.refs=0 then s7 f else decide (f.refs=u.refs/\f.data.size=16)&&(f.jo || decide (f.data=gm hs u.page u.zero))
def l9 (s:oZ) (u:fe):Bool:=if u.refs=0 then tS s else decide (s.refs=u.refs/\s.data.size=16)
def zY (k:aT):List fe×List fe:=kG k.aj (List.replicate k.frames.length dC,List.replicate k.slots.length dC) k.aj.length
def CY (k:aT):Bool:=gX k.aM&&(decide (0<=k.hand/\k.hand<(k.frames.length:Int))&&(nY k.aM k.aj (List.replicate k.frames.length dC,List.replicate k.slots.length dC) k.aj.length&&(decide (eB k.aj<=(k.slots.length:Int))&&((List.range k.frames.length).all (fun i=>jN k.aM (aH k.frames i) (cX (zY k).1 i))&&(List.range k.slots.length).all (fun i=>l9 (bH k.slots i) (cX (zY k).2 i))))))
def gq (k:aT):Int:=if nB k=false then 2 else if CY k then 0 else 1
def yO (L:List (Int×Bool)) (u:fe):Prop:=u.refs=L.length/\∀x∈L,x=(u.page,u.zero)
def yb (N:Int->Int->List (Int×Bool)) (nf ns:Nat) (u:List fe×List fe):Prop:=(u.1.length=nf/\u.2.length=ns)/\(∀i:Nat,i<nf->yO (N 1 i) (cX u.1 i))/\∀i:Nat,i<ns->yO (N 2 i) (cX u.2 i)
theorem FL (l:List fe) (j n:Nat) (s:fe) (hj:j<l.length):cX (l.set j s) n=if j=n then s else cX l n:=by
 grind [cX]
theorem Nw {L:List (Int×Bool)} {u:fe} (h:yO L u) {p:Int} {z:Bool} (hc:¬(0<u.refs/\(u.page≠p∨u.zero≠z))):yO (L++[(p,z)]) ⟨u.refs+1,p,z⟩:=by
 refine⟨by show u.refs+1=_;rw[h.1,fK];rfl,fun x hx=>?_⟩;rcases lV.1 hx with g | g
 · have hpos:0<u.refs:=by rw[h.1];grind
   have e:=h.2 x g
   grind
 grind
theorem zm {us:List fe} {e:bI} {z:Bool}:oJ us e z=true↔(0<=e.loc/\e.loc<(us.length:Int))/\¬(0<(cX us e.loc.toNat).refs/\((cX us e.loc.toNat).page≠e.page∨(cX us e.loc.toNat).zero≠z)):=by
 grind [oJ]
theorem Zg {N:Int->Int->List (Int×Bool)} {nf ns:Nat} {u:List fe×List fe} (h:yb N nf ns u) {ar:List aX} {last:Int} {e:bI} (hb:xY ar last u.1 u.2 e=true) :
  yb (fun kd i=>N kd i++jO ar kd i [e]) nf ns (tT ar u e)/\yC nf ns ar e/\last<e.page:=by
 unfold xY at hb;rw[eQ,eQ,kX] at hb;obtain⟨h1,h2,h3⟩:=hb;obtain⟨⟨l1,l2⟩,s1,s2⟩:=h;by_cases c:e.kind=1
 · rw[aC c] at h3;obtain⟨b,hc⟩:=zm.1 h3;refine⟨⟨⟨?_,?_⟩,fun i hi=>?_,fun i hi=>?_⟩,⟨h1,.inl ⟨c,b.1,by omega⟩⟩,h2⟩
   · grind [tT,sF]
   · grind [tT]
   · grind [tT,sF,FL,rU,Nw,nO]
   grind [tT,nO]
 · rw[aA c] at h3;by_cases c2:e.kind=2
   · rw[aC c2] at h3;obtain⟨b,hc⟩:=zm.1 h3;refine⟨⟨⟨?_,?_⟩,fun i hi=>?_,fun i hi=>?_⟩,⟨h1,.inr ⟨c2,b.1,by omega⟩⟩,h2⟩
     · grind [tT]
     · grind [tT,sF]
     · grind [tT,nO]
     grind [tT,sF,FL,rU,Nw,nO]
   grind
theorem Zh {N:Int->Int->List (Int×Bool)} {nf ns:Nat} {u:List fe×List fe} (h:yb N nf ns u) {ar:List aX} {last:Int} {e:bI} (he:yC nf ns ar e) (hl:last<e.page) (ho:∀x∈N e.kind e.loc,x=(e.page,(aY ar e.page).1.zero)):xY ar last u.1 u.2 e=true:=by
 obtain⟨⟨l1,l2⟩,s1,s2⟩:=h;unfold xY;rw[he.1,gZ hl,tK,tK];have key:∀(us:List fe) (n:Nat),us.length=n->(0<=e.loc/\e.loc<(n:Int))->yO (N e.kind (e.loc.toNat:Int)) (cX us e.loc.toNat)->oJ us e (aY ar e.page).1.zero=true:=fun us n hn hb hs=>by
  rw[zm];refine⟨by omega,fun ⟨a,b⟩=>?_⟩;rw[hs.1] at a;obtain⟨x,hx⟩:=List.exists_mem_of_length_pos (show 0<(N e.kind (e.loc.toNat:Int)).length by omega);have e1:=hs.2 x hx
  grind
 rcases he.2 with g | g
 · grind
 grind
theorem DY (es:List bI) (k:Nat) (hk:k<es.length):es.take (k+1)=es.take k++[aW es k]:=by
 grind [List.take_add_one,aW]
theorem F7 {N:Int->Int->List (Int×Bool)} {nf ns:Nat} {u:List fe×List fe} (h:yb N nf ns u) (ar:List aX) (es:List bI):∀k,k<=es.length->jS ar es u k=true->yb (fun kd i=>N kd i++jO ar kd i (es.take k)) nf ns (jx ar es u k)/\∀i,i<k->yC nf ns ar (aW es i)/\rJ es i<(aW es i).page
 | 0,_,_=>⟨by
  have e:(fun kd i=>N kd i++jO ar kd i (es.take 0))=N:=by grind [jO]
  rw[e];exact h,fun i hi=>by omega⟩
 | k+1,hk,hb=>by
  unfold jS at hb;rw[eQ] at hb;obtain⟨a1,a2⟩:=F7 h ar es k (by omega) hb.1;obtain⟨b1,b2,b3⟩:=Zg a1 hb.2;refine⟨?_,fun i hi=>?_⟩
  · have e:(fun kd i=>N kd i++jO ar kd i (es.take (k+1)))=fun kd i=>(N kd i++jO ar kd i (es.take k))++jO ar kd i [aW es k]:=by
     grind [DY,mQ]
    rw[e];exact b1
  grind
theorem Lb {N:Int->Int->List (Int×Bool)} {nf ns:Nat} {u:List fe×List fe} (h:yb N nf ns u) (ar:List aX) (es:List bI) (he:∀i,i<es.length->yC nf ns ar (aW es i)/\rJ es i<(aW es i).page) (ho:∀kd i,∀x∈N kd i++jO ar kd i es,∀y∈N kd i++jO ar kd i es,x=y):∀k,k<=es.length->jS ar es u k=true
 | 0,_=>rfl
 | k+1,hk=>by
  have ih:=Lb h ar es he ho k (by omega);unfold jS;rw[ih,tK];obtain⟨a1,_⟩:=F7 h ar es k (by omega) ih;refine Zh a1 (he k (by omega)).1 (he k (by omega)).2 fun x hx=>?_
  have hm:(aW es k)∈es:=jP (by omega);refine ho (aW es k).kind (aW es k).loc x ?_ _ (lV.2 (.inr (Mw.2 ⟨_,hm,rfl,rfl,rfl⟩)))
  grind [Mw]
open Go.RowKit
theorem D9 (es:List bI) (k:Nat):(es.map (·.page)).getD k 0=(aW es k).page:=by
 unfold aW;rw[fG,fG,AH];cases es[k]? <;> rfl
theorem kP {ar:List aX} {p:Int} (h:(aY ar p).2=true):1<=p/\p<256:=by
 have:=iu (tF h) h;omega
theorem NA {nf ns:Nat} {ar:List aX} {es:List bI}:(∀i,i<es.length->yC nf ns ar (aW es i)/\rJ es i<(aW es i).page)↔(∀e∈es,yC nf ns ar e)/\jH es:=by
 constructor
 · intro h;refine⟨fun e he=>?_,Ap _ fun k h1 h2=>?_⟩
   · obtain⟨i,hi,rfl⟩:=lG gV he;exact(h i hi).1
   grind [D9,rJ]
 · rintro⟨h1,h2⟩ i hi;have he:=h1 (aW es i) (jP hi);refine⟨he,?_⟩;unfold rJ;by_cases c:i=0
   · rw[aC c];have:=kP he.1;omega
   · rw[aA c,<- D9,<- D9];exact JC h2 i (by omega) (by grind)
theorem FY {hs:List bJ} (hr:gX hs=true) (p:Int):(fq hs p).size≠0↔(iJ hs p).isSome=true:=by
 constructor
 · intro h;unfold fq at h;cases g:iJ hs p with
   | some s=>rfl
   | none=>rw[g] at h;exact absurd rfl h
 grind [FZ]
theorem abK {ar:List aX} (hc:bk ar=0) (p:Int):(aY ar p).2=true↔∃a∈ar,a.page<=p/\p<a.page+a.aQ/\aY ar p=(a,true):=by
 grind [aY,BJ,bC,JH]
theorem abJ {ar:List aX} (hc:bk ar=0) {a:aX} (ha:a∈ar) {p:Int} (h1:a.page<=p) (h2:p<a.page+a.aQ):aY ar p=(a,true):=by
 obtain⟨k,hk,e⟩:=lG xI ha;have e:bC ar k=a:=e;have hit:iQ (bC ar k) p=true:=by grind [JH]
 grind [aY,Nf,BJ,Qw]
theorem ND {hs:List bJ} (hr:gX hs=true) {ar:List aX} (hc:bk ar=0):rK hs ar=true↔∀p,(aY ar p).2=true->(aY ar p).1.zero=false->(iJ hs p).isSome=true:=by
 unfold rK;rw[qa];constructor
 · intro h p hp hz;obtain⟨a,ha,h1,h2,e⟩:=(abK hc p).1 hp;rw[e] at hz;have hz:a.zero=false:=hz;have:=h a ha;rw[qa] at this;have:=this (p-a.page).toNat (uJ.2 (by omega))
   grind [FY]
 · intro h a ha;rw[qa];intro n hn;have hn:=uJ.1 hn;have e:=abJ hc ha (p:=a.page+(n:Int)) (by omega) (by omega)
   grind [FY]
theorem abI (ss:List cY) (k:Nat) (hk:k<ss.length):ss.take (k+1)=ss.take k++[ak ss k]:=by
 grind [List.take_add_one,ak]
theorem Iy (ss:List cY) (k:Nat) (hk:k<ss.length) (kd a:Int):bW (ss.take (k+1)) kd a=bW (ss.take k) kd a++fE (ak ss k) kd a:=by
 grind [abI,EP,kO,K5]
theorem Nv (nf ns:Nat):yb (fun _ _=>[]) nf ns (List.replicate nf dC,List.replicate ns dC):=by
 have h:∀n i,cX (List.replicate n dC) i=dC:=fun n i=>by
  grind [cX]
 refine⟨⟨uK,uK⟩,fun i _=>?_,fun i _=>?_⟩
 · grind [yO,dC]
 grind [yO,dC]
theorem af5 {hs:List bJ} (hr:gX hs=true) {nf ns:Nat} {s:cY} (h1:pM hs s=true) (h2:(∀e∈s.bc,yC nf ns s.aU e)/\jH s.bc):uX hs nf ns s:=by
 unfold pM at h1;by_cases c:s.live=true
 · rw[aC c,eQ,kX] at h1;exact⟨fun d=>(by grind),h1.1,h2.2,h2.1,(ND hr h1.1).1 h1.2⟩
 · rw[aA c,eQ,kX,kX] at h1;have ha:=jY h1.1;refine⟨fun _=>⟨ha,jY h1.2⟩,by rw[ha];rfl,h2.2,h2.1,fun p hp=>?_⟩;rw[ha] at hp;cases hp
theorem af6 {hs:List bJ} (hr:gX hs=true) {nf ns:Nat} {s:cY} (h:uX hs nf ns s):pM hs s=true:=by
 grind [pM,ND,uX.aU,uX.aM,uX.dead]
theorem Aa {hs:List bJ} (hr:gX hs=true) {nf ns:Nat} {u:List fe×List fe} (h:yb (fun _ _=>[]) nf ns u) (ss:List cY):∀k,k<=ss.length->nY hs ss u k=true->yb (fun kd i=>bW (ss.take k) kd i) nf ns (kG ss u k)/\∀i,i<k->uX hs nf ns (ak ss i)
 | 0,_,_=>⟨by
  have e:(fun kd i=>bW (ss.take 0) kd i)=fun _ _=>[]:=by rfl
  rw[e];exact h,fun i hi=>by omega⟩
 | k+1,hk,hb=>by
  unfold nY at hb;rw[eQ,eQ] at hb;obtain⟨a1,a2⟩:=Aa hr h ss k (by omega) hb.1;obtain⟨b1,b2⟩:=F7 a1 (ak ss k).aU (ak ss k).bc _ (aI _) hb.2.2;refine⟨?_,fun i hi=>?_⟩
  · have e:(fun kd i=>bW (ss.take (k+1)) kd i)=fun kd i=>bW (ss.take k) kd i++jO (ak ss k).aU kd i ((ak ss k).bc.take (ak ss k).bc.length):=by
     funext kd i;rw[Iy ss k (by omega),vK];rfl
    rw[e];exact b1
  · by_cases c:i=k
    · simp_all [af5,NA]
    grind
theorem Wd {ss:List cY} {k:Nat} {kd a:Int} {x:Int×Bool} (h:x∈bW (ss.take k) kd a):x∈bW ss kd a:=by
 grind [pC]
theorem Ny {hs:List bJ} (hr:gX hs=true) {nf ns:Nat} {u:List fe×List fe} (h:yb (fun _ _=>[]) nf ns u) (ss:List cY) (hsp:∀i,i<ss.length->uX hs nf ns (ak ss i)) (ho:∀kd i,∀x∈bW ss kd i,∀y∈bW ss kd i,x=y):∀k,k<=ss.length->nY hs ss u k=true
 | 0,_=>rfl
 | k+1,hk=>by
  have ih:=Ny hr h ss hsp ho k (by omega);unfold nY;obtain⟨a1,_⟩:=Aa hr h ss k (by omega) ih;have g:=hsp k (by omega);rw[ih,af6 hr g,tK,tK];refine Lb a1 _ _ (NA.2 ⟨g.M6,g.mr⟩) (fun kd i x hx y hy=>?_) _ (aI _);have key:∀z,z∈bW (ss.take k) kd i++jO (ak ss k).aU kd i (ak ss k).bc->z∈bW ss kd i:=fun z hz=>by
   refine Wd (k:=k+1) ?_;rw[Iy ss k (by omega)];exact hz
  grind
theorem D5 (f:lQ):s7 f=true↔f=gM:=by
 unfold s7;rw[kX];constructor
 · rintro⟨h1,h2,h3,h4⟩;obtain⟨⟨⟨d⟩⟩,r,a,b⟩:=f;simp only at h2 h3 h4;subst h2 h3 h4;have:d=[]:=jY h1;subst this;rfl
 · rintro rfl;exact⟨rfl,rfl,rfl,rfl⟩
theorem FW (f:oZ):tS f=true↔f=nK:=by
 unfold tS;rw[kX];constructor
 · rintro⟨h1,h2⟩;obtain⟨⟨⟨d⟩⟩,r⟩:=f;simp only at h2;subst h2;have:d=[]:=jY h1;subst this;rfl
 · rintro rfl;exact⟨rfl,rfl⟩
theorem QM {L:List (Int×Bool)} {u:fe} (h:yO L u):∀x∈L,∀y∈L,x=y:=fun x hx y hy=>(h.2 x hx).trans (h.2 y hy).symm
theorem zZ {L:List (Int×Bool)} {u:fe} (h:yO L u):u.refs=0↔L=[]:=by
 rw[h.1]
 simp_all
theorem Uq {hs:List bJ} {L:List (Int×Bool)} {u:fe} (h:yO L u) (f:lQ):jN hs f u=true↔lN hs L f:=by
 unfold jN;by_cases c:u.refs=0
 · grind [zZ,D5,lN.none,lN.zero]
 · have hL:L≠[]:=fun e=>c ((zZ h).2 e)
   rw[aA c,eQ,kX,UJ,kX];constructor
   · rintro⟨⟨h1,h2⟩,h3⟩;refine⟨h1.trans h.1,fun e=>absurd e hL,QM h,fun _=>h2,fun d x hx=>?_⟩;rw[h.2 x hx]
     grind
   · intro g;refine⟨⟨g.refs.trans h.1.symm,g.size hL⟩,?_⟩;cases d:f.jo with
     | true=>grind
     | false =>
      obtain⟨x,hx⟩:=JU _ hL;have:=g.fill d x hx;rw[h.2 x hx] at this
      grind
theorem Ul {L:List (Int×Bool)} {u:fe} (h:yO L u) (f:oZ):l9 f u=true↔oM L f:=by
 unfold l9;by_cases c:u.refs=0
 · grind [zZ,FW,oM.none,oM.zero]
 · have hL:L≠[]:=fun e=>c ((zZ h).2 e)
   rw[aA c,kX];constructor
   · rintro⟨h1,h2⟩;exact⟨h1.trans h.1,fun e=>absurd e hL,QM h,fun _=>h2⟩
   · intro g;exact⟨g.refs.trans h.1.symm,g.size hL⟩
theorem Zd (k:aT) (hc:nB k=true):CY k=true↔aZ k:=by
 unfold CY;simp only[eQ,kX,qa,uJ];have hz:=Nv k.frames.length k.slots.length;have hn:(fun kd i=>bW (k.aj.take k.aj.length) kd i)=fun kd i=>bW k.aj kd i:=by grind
 constructor
 · rintro⟨h1,h2,h3,h4,h5,h6⟩;obtain⟨a1,a2⟩:=Aa h1 hz k.aj _ (aI _) h3;rw[hn] at a1;refine⟨hc,h1,h2,fun s hs=>?_,h4,fun i hi=>(Uq (a1.2.1 i hi) _).1 (h5 i hi),fun i hi=>(Ul (a1.2.2 i hi) _).1 (h6 i hi)⟩;obtain⟨j,hj,rfl⟩:=lG qV hs;exact a2 j hj
 · intro h;have ho:∀kd i,∀x∈bW k.aj kd i,∀y∈bW k.aj kd i,x=y:=fun kd i x hx y hy=>by
    obtain⟨s,hs,e,he,g1,g2,_⟩:=pC.1 hx;obtain⟨j,hj,rfl⟩:=lG qV hs;rcases ja h hj he with b | b
    · have:=(h.zL e.loc.toNat b.2.2).one x (by grind) y (by grind);omega
    grind [aZ.slt,oM.one]
   have hb:=Ny h.mr hz k.aj (fun i hi=>h.sp hi) ho _ (aI _);obtain⟨a1,_⟩:=Aa h.mr hz k.aj _ (aI _) hb;rw[hn] at a1;exact⟨h.mr,h.hand,hb,h.room,fun i hi=>(Uq (a1.2.1 i hi) _).2 (h.zL i hi),fun i hi=>(Ul (a1.2.2 i hi) _).2 (h.slt i hi)⟩
theorem wC (k:aT):gq k=0↔aZ k:=by
 grind [gq,Zd,aZ.counts]
open Go.RowKit
open Go.RowKit
def mI (us:List fe) (n:Nat) (B:Int):Prop:=us.length=n/\∀i,i<n->0<=(cX us i).refs/\(cX us i).refs<=B
theorem mI.mono {us:List fe} {n:Nat} {B C:Int} (h:mI us n B) (hc:B<=C):mI us n C:=⟨h.1,fun i hi=>⟨(h.2 i hi).1,Int.le_trans (h.2 i hi).2 hc⟩⟩
theorem mI.use {us:List fe} {n:Nat} {B:Int} (h:mI us n B) (e:bI) (z:Bool) (hok:oJ us e z=true):mI (sF us e z) n (B+1):=by
 have hb:=(zm.1 hok).1;obtain⟨h1,h2⟩:=h;refine⟨by grind [sF],fun i hi=>?_⟩
 grind [sF,FL]
theorem S9 {ar:List aX} {last:Int} {uf us:List fe} {e:bI} (h:xY ar last uf us e=true):(aY ar e.page).2=true/\last<e.page/\((e.kind=1/\oJ uf e (aY ar e.page).1.zero=true)∨(e.kind=2/\oJ us e (aY ar e.page).1.zero=true)):=by
 grind [xY]
theorem Jq (ar:List aX) (es:List bI) (u:List fe×List fe) (nf ns:Nat) (B:Int) (h1:mI u.1 nf B) (h2:mI u.2 ns B):∀k,k<=es.length->jS ar es u k=true->mI (jx ar es u k).1 nf (B+k)/\mI (jx ar es u k).2 ns (B+k)/\(k:Int)<=(if k=0 then 0 else (aW es (k-1)).page)/\(if k=0 then 0 else (aW es (k-1)).page)<256
 | 0,_,_=>⟨h1.mono (by omega),h2.mono (by omega),AB _,by omega⟩
 | k+1,hk,hb=>by
  unfold jS at hb;rw[eQ] at hb;obtain⟨a1,a2,a3,a4⟩:=Jq ar es u nf ns B h1 h2 k (by omega) hb.1;obtain⟨b1,b2,b3⟩:=S9 hb.2;have hm:=kP b1
  grind [rJ,tT,jx,mI.use,mI.mono]
theorem IH (ar:List aX) (es:List bI) (u:List fe×List fe):∀(k n:Nat),k<=n->jS ar es u k=false->jS ar es u n=false
 | k,0,h,e=>by
  grind
 | k,n+1,h,e=>by
  by_cases c:k=n+1
  · grind
  · rw[jS,IH ar es u k n (by omega) e,GZ]
theorem Zf (ar:List aX) (es:List bI) (u:List fe×List fe) (k:Nat) (hk:k<es.length) (h:xY ar (rJ es k) (jx ar es u k).1 (jx ar es u k).2 (aW es k)=false):jS ar es u es.length=false :=
 IH ar es u (k+1) es.length hk (by grind [jS])
theorem Uj (n:Nat):mI (List.replicate n dC) n 0:=by
 refine⟨uK,fun i hi=>?_⟩;unfold cX;rw[fG,List.getElem?_replicate,aC hi];exact⟨AB _,AB _⟩
theorem Uk (hs:List bJ) (ss:List cY) (u:List fe×List fe) (nf ns:Nat) (h1:mI u.1 nf 0) (h2:mI u.2 ns 0):∀k,k<=ss.length->nY hs ss u k=true->mI (kG ss u k).1 nf (255*k)/\mI (kG ss u k).2 ns (255*k)
 | 0,_,_=>⟨h1,h2⟩
 | k+1,hk,hb=>by
  unfold nY at hb;rw[eQ,eQ] at hb;obtain⟨a1,a2⟩:=Uk hs ss u nf ns h1 h2 k (by omega) hb.1;obtain⟨b1,b2,_,_⟩:=Jq (ak ss k).aU (ak ss k).bc (kG ss u k) nf ns (255*k) a1 a2 _ (aI _) hb.2.2
  grind [kG,mI.mono]
theorem SV {k:aT} (hr:gX k.aM=true) (hb:nY k.aM k.aj (List.replicate k.frames.length dC,List.replicate k.slots.length dC) k.aj.length=true) (i:Nat) (hi:i<k.frames.length) (hn:(cX (zY k).1 i).refs≠0):0<=(cX (zY k).1 i).page/\(cX (zY k).1 i).page<256:=by
 obtain⟨a1,a2⟩:=Aa hr (Nv k.frames.length k.slots.length) k.aj _ (aI _) hb;have hs:=a1.2.1 i hi;have hs:yO (bW (k.aj.take k.aj.length) 1 i) (cX (zY k).1 i):=hs;rw[vK] at hs;have hne:bW k.aj 1 i≠[]:=fun e=>hn ((zZ hs).2 e)
 obtain⟨x,hx⟩:=JU _ hne;have e:=hs.2 x hx;obtain⟨s,hsm,en,hen,_,_,hxe⟩:=pC.1 hx;obtain⟨j,hj,rfl⟩:=lG qV hsm;have hm:=kP ((a2 j hj).M6 en hen).1
 grind
theorem KR (hs:List bJ) (ss:List cY) (u:List fe×List fe):∀(k n:Nat),k<=n->nY hs ss u k=false->nY hs ss u n=false
 | k,0,h,e=>by
  grind
 | k,n+1,h,e=>by
  by_cases c:k=n+1
  · grind
  · rw[nY,KR hs ss u k n (by omega) e,GZ]
open Go.RowKit
def cD (a n:Int):Int:=(a+n-1)/16
def fp (k:aT) (j:Nat) (a way:Int):Nat×aT:=dN k j (a/16) way []
def kF (k:aT) (j:Nat) (a n way:Int):Nat×aT:=dN (fp k j a way).2 j (cD a n) way [((fp k j a way).1:Int)]
def bf (k:aT) (j:Nat) (a n way:Int):List Nat×aT:=if cD a n=a/16 then ([(fp k j a way).1],(fp k j a way).2) else ([(fp k j a way).1,(kF k j a n way).1],(kF k j a n way).2)
structure abM (k:aT) (j:Nat) (a n way:Int):Prop where
 right:aZ (bf k j a n way).2
 kept:fM k (bf k j a n way).2
 one:bu (ak (bf k j a n way).2.aj j).bc (a/16)=some ⟨a/16,1,(fp k j a way).1⟩/\(fp k j a way).1<k.frames.length
 two:cD a n≠a/16->bu (ak (bf k j a n way).2.aj j).bc (cD a n)=some ⟨cD a n,1,(kF k j a n way).1⟩/\(kF k j a n way).1<k.frames.length
theorem nZ {k:aT} (h:aZ k) {j:Nat} (hj:j<k.aj.length) (a n way:Int) (h1:ez k j (a/16)) (h2:ez k j (cD a n)):abM k j a n way:=by
 have A:=(qW h hj h1 way (held:=[]) (by simp)).1;by_cases c:cD a n=a/16
 · have e:bf k j a n way=([(fp k j a way).1],(fp k j a way).2):=by grind [bf]
   exact⟨by rw[e];exact A.right,by rw[e];exact A.kept,by rw[e];exact⟨A.here,A.lt⟩,fun x=>absurd c x⟩
 · have hj':j<(fp k j a way).2.aj.length:=by grind [fp,fR.kept,fM.np]
   have B:=(qW (k:=(fp k j a way).2) A.right hj' (A.kept.mapped hj h2) way (held:=[((fp k j a way).1:Int)]) (by simp)).1;have e:bf k j a n way=([(fp k j a way).1,(kF k j a n way).1],(kF k j a n way).2):=by grind [bf]
   refine⟨by rw[e];exact B.right,by rw[e];exact A.kept.trans B.kept,?_,fun _=>?_⟩
   · rw[e];exact⟨B.stay j hj' (a/16) _ A.here rfl (by grind) (fun x=>c x.2.symm),A.lt⟩
   · rw[e];refine⟨B.here,?_⟩;have hl:=B.lt
     grind [kF,fp,fR.kept,fM.nf]
open Go.RowKit
def mh (k:aT) (j:Nat) (es:List bI) (e:bI):aT:=dM { k with aj:=k.aj.set j (ek (ak k.aj j) es) } e
theorem Ea {k:aT} (h:aZ k) {j:Nat} (hj:j<k.aj.length) {pre post:List bI} {e:bI} (he:(ak k.aj j).bc=pre++e::post):(mh k j (pre++post) e).frames.length=k.frames.length/\(mh k j (pre++post) e).slots.length=k.slots.length/\(mh k j (pre++post) e).aM=k.aM/\(mh k j (pre++post) e).hand=k.hand/\(mh k j (pre++post) e).aj=k.aj.set j (ek (ak k.aj j) (pre++post)) /\
  (∀n,aH (mh k j (pre++post) e).frames n=if e.kind=1/\e.loc=(n:Int) then rI (aH k.frames n) else aH k.frames n) /\
  (∀n,bH (mh k j (pre++post) e).slots n=if e.kind=2/\e.loc=(n:Int) then uA (bH k.slots n) else bH k.slots n):=by
 have hm:e∈(ak k.aj j).bc:=by grind
 unfold mh dM
 grind [ja,jQ,yu]
theorem Lh {k:aT} (h:aZ k) {j:Nat} (hj:j<k.aj.length) {pre post:List bI} {e:bI} (he:(ak k.aj j).bc=pre++e::post):aZ (mh k j (pre++post) e):=by
 have hsp:=h.sp hj;obtain⟨f1,f2,f3,f4,f5,f6,f7⟩:=Ea h hj he;have hlen:(mh k j (pre++post) e).aj.length=k.aj.length:=by grind
 have hin:∀x,x∈pre++post->x∈(ak k.aj j).bc:=fun x hx=>by
  grind
 have hnm:∀kd a:Int,∃X Y,bW k.aj kd a=X++(jO (ak k.aj j).aU kd a [e]++Y)/\bW (k.aj.set j (ek (ak k.aj j) (pre++post))) kd a=X++Y:=fun kd a=>by
  obtain⟨u,v,g1,g2⟩:=zo k.aj j (ek (ak k.aj j) (pre++post)) kd a hj;refine⟨u++jO (ak k.aj j).aU kd a pre,jO (ak k.aj j).aU kd a post++v,?_,?_⟩
  · grind [zq,mQ,xn]
  · rw[g2,zq];show u++(jO (ak k.aj j).aU kd a (pre++post)++v)=_
    grind [mQ]
 refine⟨?_,by rw[f3];exact h.mr,by simp_all [aZ.hand],?_,?_,?_,?_⟩
 · have:=h.counts
   grind [nB]
 · rw[f1,f2,f3,f5];intro s hs;rcases acQ hs with g | rfl
   · exact h.each s g
   · refine⟨fun dd=>?_,hsp.aU,?_,fun x hx=>hsp.M6 x (hin x hx),hsp.aM⟩
     · have hnil:=(hsp.dead dd).2
       simp_all
     · have hr:jH (ak k.aj j).bc:=hsp.mr;rw[he] at hr;exact UZ ((List.Sublist.append (List.Sublist.refl pre) (List.sublist_cons_self e post)).map _) hr
 · rw[f2,f5,Bl _ _ (ek (ak k.aj j) (pre++post)) hj rfl];exact h.room
 · intro n hn;rw[f1] at hn;rw[f3,f5,f6];obtain⟨X,Y,h1,h2⟩:=hnm 1 n
   grind [rU,nO,aZ.zL,lN.less]
 · intro n hn;rw[f2] at hn;rw[f5,f7];obtain⟨X,Y,h1,h2⟩:=hnm 2 n
   grind [rU,nO,aZ.slt,oM.less]
open Go.RowKit
theorem pD {α:Type} (d:α):∀(l m:List α),l.length=m.length->(∀i,i<l.length->l.getD i d=m.getD i d)->l=m
 | [],[],_,_=>rfl
 | [],b::r,h,_=>by simp at h
 | a::r,[],h,_=>by simp at h
 | a::r,b::t,h,g=>by
  have h0:a=b:=g 0 (O7 _);have h1:=pD d r t (by grind) (fun i hi=>g (i+1) (O6 hi))
  grind
def Hl (f:lQ) (d:Int):lQ:=if f.refs+d=0 then gM else ⟨f.data,f.refs+d,f.jo,f.seen⟩
def Hk (f:oZ) (d:Int):oZ:=if f.refs+d=0 then nK else ⟨f.data,f.refs+d⟩
def ki (k:aT) (e:bI) (d:Int):aT:=if e.kind=1 then { k with frames:=k.frames.set e.loc.toNat (Hl (aH k.frames e.loc.toNat) d) } else { k with slots:=k.slots.set e.loc.toNat (Hk (bH k.slots e.loc.toNat) d) }
theorem Ga (k:aT) (e:bI):ki k e (-1)=dM k e:=by
 rfl
theorem ER (k:aT) (e:bI):(dM k e).aj=k.aj:=by grind [dM]
theorem S6 (k:aT) (e:bI):(dM k e).aM=k.aM/\(dM k e).hand=k.hand:=by grind [dM]
theorem Wf (k:aT) (e:bI):(dM k e).frames.length=k.frames.length/\(dM k e).slots.length=k.slots.length:=by
 grind [dM]
def kg (k:aT) (j:Nat) (es:List bI):aT:={ k with aj:=k.aj.set j (ek (ak k.aj j) es) }
theorem IE (k:aT) (j:Nat) (es:List bI) (e:bI):dM (kg k j es) e=kg (dM k e) j es:=by grind [dM,kg]
theorem KT (k:aT) (j:Nat) (hj:j<k.aj.length) (es fs:List bI):kg (kg k j es) j fs=kg k j fs:=by
 unfold kg;simp only[pY];rw[iI _ _ _ _ hj,aC rfl];rfl
theorem KU (k:aT) (j:Nat) (hj:j<k.aj.length):kg k j (ak k.aj j).bc=k:=by
 unfold kg;have:k.aj.set j (ek (ak k.aj j) (ak k.aj j).bc)=k.aj:=pD qV _ _ fJ (fun i hi=>by
  have:=iI k.aj j i (ek (ak k.aj j) (ak k.aj j).bc) hj;unfold ak at this ⊢;rw[this];by_cases c:j=i
  · rw[aC c,c];rfl
  grind)
 rw[this]
theorem QP (k:aT) (j:Nat) (hj:j<k.aj.length) (es:List bI):(ak (kg k j es).aj j).bc=es:=by
 show(ak (k.aj.set j _) j).bc=es;rw[iI _ _ _ _ hj,aC rfl];rfl
def cU (k:aT) (es:List bI) (p:bI->Bool):Nat->aT
 | 0=>k
 | n+1=>if p (aW es n) then dM (cU k es p n) (aW es n) else cU k es p n
def eZ (es:List bI) (p:bI->Bool):List bI:=es.filter fun e=>!p e
def dD (k:aT) (j:Nat) (p:bI->Bool):aT:=kg (cU k (ak k.aj j).bc p (ak k.aj j).bc.length) j (eZ (ak k.aj j).bc p)
theorem kQ (k:aT) (es:List bI) (p:bI->Bool):∀n,(cU k es p n).aj=k.aj
 | 0=>rfl
 | n+1=>by
  unfold cU;split
  · rw[ER,kQ k es p n]
  · exact kQ k es p n
theorem F8 (k:aT) (es:List bI) (p:bI->Bool):∀n,(cU k es p n).aM=k.aM/\(cU k es p n).hand=k.hand/\(cU k es p n).frames.length=k.frames.length/\(cU k es p n).slots.length=k.slots.length
 | 0=>⟨rfl,rfl,rfl,rfl⟩
 | n+1=>by
  have ih:=F8 k es p n
  grind [cU,S6,Wf]
theorem Lf (es:List bI) (n:Nat) (h:n<es.length):es.drop n=aW es n::es.drop (n+1):=by
 grind [List.drop_eq_getElem_cons,aW]
theorem K6 (es:List bI) (p:bI->Bool) (n:Nat) (h:n<es.length):eZ (es.take (n+1)) p=eZ (es.take n) p++(if p (aW es n) then [] else [aW es n]):=by
 grind [eZ,DY]
theorem wB {k:aT} (h:aZ k) {j:Nat} (hj:j<k.aj.length) (p:bI->Bool):∀n,n<=(ak k.aj j).bc.length->aZ (kg (cU k (ak k.aj j).bc p n) j (eZ ((ak k.aj j).bc.take n) p++(ak k.aj j).bc.drop n))
 | 0,_=>by
  have:eZ ((ak k.aj j).bc.take 0) p++(ak k.aj j).bc.drop 0=(ak k.aj j).bc:=rfl;rw[this];show aZ (kg k j (ak k.aj j).bc)
  grind [KU]
 | n+1,hn=>by
  have ih:=wB h hj p n (by omega);have hlt:n<(ak k.aj j).bc.length:=by omega
  have Vb:j<(cU k (ak k.aj j).bc p n).aj.length:=by grind [kQ]
  rw[Lf _ n hlt] at ih;rw[K6 _ p n hlt];unfold cU;cases g:p (aW (ak k.aj j).bc n) with
  | true =>
   rw[aC rfl,aC rfl,Dl];have hj2:j<(kg (cU k (ak k.aj j).bc p n) j (eZ ((ak k.aj j).bc.take n) p++aW (ak k.aj j).bc n::(ak k.aj j).bc.drop (n+1))).aj.length:=by
    show j<List.length (List.set _ _ _)
    grind
   have:=Lh ih hj2 (QP _ j Vb _);have e:mh (kg (cU k (ak k.aj j).bc p n) j (eZ ((ak k.aj j).bc.take n) p++aW (ak k.aj j).bc n::(ak k.aj j).bc.drop (n+1))) j (eZ ((ak k.aj j).bc.take n) p++(ak k.aj j).bc.drop (n+1)) (aW (ak k.aj j).bc n)=kg (dM (cU k (ak k.aj j).bc p n) (aW (ak k.aj j).bc n)) j (eZ ((ak k.aj j).bc.take n) p++(ak k.aj j).bc.drop (n+1)):=by
    show dM (kg (kg _ j _) j _) _=_
    grind [KT,IE]
   grind
  | false =>
   grind
theorem yN {k:aT} (h:aZ k) {j:Nat} (hj:j<k.aj.length) (p:bI->Bool):aZ (dD k j p):=by
 have:=wB h hj p _ (aI _);rw[vK,UL,Dl] at this;exact this
theorem gL (k:aT) (j:Nat) (p:bI->Bool):(dD k j p).aj=k.aj.set j (ek (ak k.aj j) (eZ (ak k.aj j).bc p)):=by
 show((cU k (ak k.aj j).bc p _).aj).set j _=_;rw[kQ]
theorem mY (k:aT) (j:Nat) (p:bI->Bool):(dD k j p).aM=k.aM/\(dD k j p).hand=k.hand/\(dD k j p).frames.length=k.frames.length/\(dD k j p).slots.length=k.slots.length:=F8 k _ p _
theorem Jr (k:aT) (i:Nat) (es:List bI):∀n,∃x,(cU k es (kY (i:Int)) n).frames=k.frames.set i x/\(cU k es (kY (i:Int)) n).slots=k.slots
 | 0=>⟨aH k.frames i,by
   show k.frames=_;refine(pD gM _ _ fJ (fun m hm=>?_)).symm;rw[fJ] at hm;by_cases c:i=m
   · subst c;rw[eV _ _ _ _ hm];rfl
   grind,rfl⟩
 | n+1=>by
  obtain⟨x,h1,h2⟩:=Jr k i es n
  grind [cU,yz,dM,List.set_set]
def kq (k:aT) (i:Nat):Nat->aT
 | 0=>k
 | n+1=>dD (kq k i n) n (kY (i:Int))
theorem zn {k:aT} (h:aZ k) (i:Nat):∀n,n<=k.aj.length->aZ (kq k i n)/\(kq k i n).aM=k.aM/\(kq k i n).hand=k.hand/\(∃x,(kq k i n).frames=k.frames.set i x)/\(kq k i n).slots=k.slots/\(kq k i n).aj.length=k.aj.length/\∀m,m<k.aj.length->ak (kq k i n).aj m=if m<n then oa i (ak k.aj m) else ak k.aj m
 | 0,_=>by
  obtain⟨x,hx,_⟩:=Jr k i [] 0;exact⟨h,rfl,rfl,⟨x,hx⟩,rfl,rfl,fun m _=>by rfl⟩
 | n+1,hn=>by
  obtain⟨r,h1,h2,⟨x,h3⟩,h4,h5,h6⟩:=zn h i n (by omega);have hj:n<(kq k i n).aj.length:=by omega
  have fr:=mY (kq k i n) n (kY (i:Int));obtain⟨y,c1,c2⟩:=Jr (kq k i n) i (ak (kq k i n).aj n).bc (ak (kq k i n).aj n).bc.length;refine⟨yN r hj _,fr.1.trans h1,fr.2.1.trans h2,⟨y,?_⟩,?_,?_,fun m hm=>?_⟩
  · show(cU _ _ _ _).frames=_
    simp_all
  · show(cU _ _ _ _).slots=_
    grind
  · show(dD _ _ _).aj.length=_
    grind [gL]
  · show ak (dD _ _ _).aj m=_;rw[gL,iI _ _ _ _ hj];by_cases c:n=m
    · subst c;rw[aC rfl,aC (by omega),h6 n hm,aA (by omega)];rfl
    grind
theorem Za {k:aT} (h:aZ k) {i:Nat} (hi:i<k.frames.length):kq k i k.aj.length=Af k i:=by
 obtain⟨r,h1,h2,⟨x,h3⟩,h4,h5,h6⟩:=zn h i k.aj.length (aI _);have hs:(kq k i k.aj.length).aj=k.aj.map (oa i):=by
  refine pD qV _ _ (by grind) (fun m hm=>?_)
  grind [ak]
 have hf:=r.zL i (by grind);have hz:bW (kq k i k.aj.length).aj 1 i=[]:=by
  rw[hs];exact pN _ _ _ _ (fun s _=>xW s.aU i s.bc)
 have hx:x=gM:=by
  grind [aH,lN.zero]
 have:∀a b:aT,a.aM=b.aM->a.frames=b.frames->a.slots=b.slots->a.aj=b.aj->a.hand=b.hand->a=b:=fun a b e1 e2 e3 e4 e5=>by
  cases a;simp_all
 exact this _ _ h1 (by rw[h3,hx];rfl) h4 hs h2
theorem Un {k:aT} (h:aZ k) {i:Nat} (hi:i<k.frames.length) {j:Nat} (hj:j<k.aj.length) {a b:Nat} (ha:a<(ak k.aj j).bc.length) (hb:b<(ak k.aj j).bc.length) (h1:kY (i:Int) (aW (ak k.aj j).bc a)=true) (h2:kY (i:Int) (aW (ak k.aj j).bc b)=true):a=b:=by
 have nJ:=jr hj (jP (d:=gV) ha);have hm2:=jr hj (jP (d:=gV) hb);have g1:=yz.1 h1;have g2:=yz.1 h2;unfold aW at g1 g2;rw[g1.1,g1.2] at nJ;rw[g2.1,g2.2] at hm2;have e:=(h.zL i hi).one _ nJ _ hm2;injection e with e _;have hr:=(h.sp hj).mr
 grind [List.pairwise_iff_getElem]
theorem SY (i s:Int) (es:List bI) (n:Nat) (hn:n<es.length) (h:kY i (aW es n)=true) (ho:∀m,m<es.length->kY i (aW es m)=true->m=n):es.set n ⟨(aW es n).page,2,s⟩=jM i s es:=by
 refine pD gV _ _ (by grind [jM]) (fun m hm=>?_)
 grind [jM,aW]
theorem V5 (i s:Int) (es:List bI) (h:∀m,m<es.length->kY i (aW es m)=false):jM i s es=es:=by
 refine pD gV _ _ (by grind [jM]) (fun m hm=>?_)
 grind [jM,aW]
end Go.Proofs.YtlgoihmkgaaemaaGreat
