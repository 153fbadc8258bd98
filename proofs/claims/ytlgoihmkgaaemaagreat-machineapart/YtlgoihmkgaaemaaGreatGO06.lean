import Derived.Test.YtlgoihmkgaaemaaGreatGO05
set_option maxHeartbeats 20000000
set_option linter.unusedVariables false
set_option maxRecDepth 100000
set_option linter.unusedSimpArgs false
namespace Go.Proofs.YtlgoihmkgaaemaaGreat
open Go.RowKit
def oG (k:aR) (j:Nat) (p:Int):Bool:=(aV (ak k.aj j).aT p).1.zero
def dV (k:aR) (j:Nat) (p:Int):Prop:=(aV (ak k.aj j).aT p).2=true
def dD (k:aR) (j:Nat) (p:Int) (held:List Int):Nat×aR:=match bl (ak k.aj j).bf p with
 | some e=>if e.kind=1 then (e.loc.toNat,k) else ((bM k held).1,eQ (bM k held).2 j p (bM k held).1 (bE (bM k held).2.slots e.loc.toNat).data true)
 | none=>((bM k held).1,eQ (bM k held).2 j p (bM k held).1 (fY (bM k held).2.aM p (oG (bM k held).2 j p)) false)
def kP (k:aR) (j:Nat) (p:Int) (a:Nat) (held:List Int):Nat×aR:=if (aH k.frames a).refs=1 then (a,k) else ((bM k (held++[(a:Int)])).1,eQ (bM k (held++[(a:Int)])).2 j p (bM k (held++[(a:Int)])).1 (aH (bM k (held++[(a:Int)])).2.frames a).data true)
def zy (way:Int) (f:lV):lV:=⟨f.data,f.refs,f.jG || decide (way=1),true⟩
def Q8 (k:aR) (way:Int) (i:Nat):aR:={ k with frames:=k.frames.set i (zy way (aH k.frames i)) }
def iB (k:aR) (j:Nat) (p way:Int) (held:List Int):Nat×aR:=if way=1 then kP (dD k j p held).2 j p (dD k j p held).1 held else dD k j p held
def dN (k:aR) (j:Nat) (p way:Int) (held:List Int):Nat×aR:=((iB k j p way held).1,Q8 (iB k j p way held).2 way (iB k j p way held).1)
structure fW (k:aR) (j:Nat) (p:Int) (held:List Int) (r:Nat×aR):Prop where
 right:aW r.2
 kept:fN k r.2
 lt:r.1<k.frames.length
 here:bl (ak r.2.aj j).bf p=some ⟨p,1,r.1⟩
 stay:∀j',j'<k.aj.length->∀q e,bl (ak k.aj j').bf q=some e->e.kind=1->e.loc∈held->¬(j'=j/\q=p)->bl (ak r.2.aj j').bf q=some e
theorem tV {k:aR} {j:Nat} {p:Int} {i:Nat} {d:ByteArray} {dy:Bool} (m:jW k j p i d dy) (n:Nat) (q:Int):bl (ak (eQ k j p i d dy).aj n).bf q=if j=n/\q=p then some ⟨p,1,i⟩ else bl (ak k.aj n).bf q:=by
 obtain⟨_,_,_,_,f5,_,_⟩:=oQ k j p i d dy m;rw[f5,iI _ _ _ _ m.hj];by_cases c:j=n
 · rw[aB c];show bl (mI (ak k.aj j).bf ⟨p,1,i⟩) q=_;rw[Q5 (m.right.sp m.hj).lT]
   grind
 grind
theorem uw.stay {k:aR} (h:aW k) {held:List Int} {g:Nat×aR} (G:uw k held g) {j:Nat} (hj:j<k.aj.length) {q:Int} {e:bD} (he:bl (ak k.aj j).bf q=some e) (hn:e.kind=1->e.loc∈held):bl (ak g.2.aj j).bf q=some e:=by
 have hm:=(gJ (h.sp hj).lT).1 he;rw[G.Mq j hj q ?_,he];intro x hx c;rw[he] at hx;injection hx with hx;subst hx;have hb:=(iO h hj hm.1).resolve_right (fun y=>by omega);have hne:(aH k.frames e.loc.toNat).refs≠0:=fun z=>by
  have:=ju hj hm.1;rw[c.1,<- hb.2.1,(h.zP _ hb.2.2).nil z] at this
  grind
 have:=(G.Qf e.loc.toNat (by grind) hne).1;omega
theorem uw.mapped {k:aR} {held:List Int} {g:Nat×aR} (G:uw k held g) {j:Nat} (hj:j<k.aj.length) {p:Int} (hp:dV k j p):(aV (ak g.2.aj j).aT p).2=true:=by rw[G.kept.aT j hj];exact hp
theorem Gd (hs:List bG) (hr:ia hs=true) (p:Int) (h:(iJ hs p).isSome=true):(fq hs p).size=16:=by
 unfold fq;cases g:iJ hs p with
 | none=>grind
 | some s =>
  have hm:s∈hs:=Vt g;obtain⟨i,hi,e⟩:=lM Ce hm;have hb:=(qY hs hs.length hr i hi).1;rw[show bu hs i=s from e] at hb;unfold dw pE at hb;simp only[eO,lh] at hb;exact zY s.data s.eZ hb.1.2.2 s.eZ.length hb.2
theorem Ed {k:aR} (h:aW k) {j:Nat} (hj:j<k.aj.length) {p:Int} (hp:dV k j p):(fY k.aM p (oG k j p)).size=16:=by
 unfold fY;cases z:oG k j p with
 | true=>rfl
 | false=>exact Gd _ h.lT p ((h.sp hj).aM p hp z)
theorem Ah {k:aR} (h:aW k) {j:Nat} (hj:j<k.aj.length) {p:Int} (hp:dV k j p) {held:List Int} (hl:held.length<=2):fW k j p held (dD k j p held):=by
 have hsp:=h.sp hj;have G:=tq h hl;unfold dD;cases g:bl (ak k.aj j).bf p with
 | none =>
  dsimp only;have hent:bl (ak (bM k held).2.aj j).bf p=none:=by grind [uw.Mq]
  have hpk:fY (bM k held).2.aM p (oG (bM k held).2 j p)=bY (bM k held).2 j p:=by unfold bY;rw[hent];rfl
  have hj':j<(bM k held).2.aj.length:=by rw[G.kept.np];exact hj
  have m:jW (bM k held).2 j p (bM k held).1 (fY (bM k held).2.aM p (oG (bM k held).2 j p)) false:=⟨G.right,hj',G.mapped hj hp,by rw[G.kept.nf];exact G.lt,G.free,Ed G.right hj' (G.mapped hj hp),fun _=>rfl⟩;refine⟨xY m,G.kept.trans (D8 m hpk),G.lt,by grind [tV],fun j' hj2 q e he hk hin hne=>?_⟩
  grind [tV,uw.stay]
 | some e =>
  have he:=(gJ hsp.lT).1 g;dsimp only;by_cases c:e.kind=1
  · rw[aB c];have hb:=(iO h hj he.1).resolve_right (fun y=>by omega);refine⟨h,fN.refl k,hb.2.2,?_,fun j' hj2 q e he hk hin hne=>he⟩;show bl (ak k.aj j).bf p=some ⟨p,1,(e.loc.toNat:Int)⟩;rw[g,hb.2.1,<- c,<- he.2]
  · rw[au c];have hb:=(iO h hj he.1).resolve_left (fun y=>c y.1);have hent:bl (ak (bM k held).2.aj j).bf p=some e:=by grind [uw.Mq]
    have hj':j<(bM k held).2.aj.length:=by rw[G.kept.np];exact hj
    have he':=(gJ (G.right.sp hj').lT).1 hent;have hpk:(bE (bM k held).2.slots e.loc.toNat).data=bY (bM k held).2 j p:=by grind [bY]
    have hsz:(bE (bM k held).2.slots e.loc.toNat).data.size=16:=(G.right.slt e.loc.toNat (by grind [uw.kept,fN.ns])).size (fun z=>by
     grind [ju])
    have m:jW (bM k held).2 j p (bM k held).1 (bE (bM k held).2.slots e.loc.toNat).data true:=⟨G.right,hj',G.mapped hj hp,by rw[G.kept.nf];exact G.lt,G.free,hsz,fun y=>by cases y⟩;refine⟨xY m,G.kept.trans (D8 m hpk),G.lt,by grind [tV],fun j' hj2 q e he hk hin hne=>?_⟩
    grind [tV,uw.stay]
theorem Lu {k:aR} (h:aW k) {j:Nat} (hj:j<k.aj.length) {p:Int} (hp:dV k j p) {a:Nat} (ha:bl (ak k.aj j).bf p=some ⟨p,1,a⟩) {held:List Int} (hl:held.length<=1):fW k j p held (kP k j p a held)/\(aH (kP k j p a held).2.frames (kP k j p a held).1).refs=1:=by
 have hsp:=h.sp hj;have he:=(gJ hsp.lT).1 ha;have hb:=(iO h hj he.1).resolve_right (fun y=>by grind);have hat:a<k.frames.length:=by grind
 unfold kP;by_cases c:(aH k.frames a).refs=1
 · rw[aB c];exact⟨⟨h,fN.refl k,hat,ha,fun j' hj2 q e he hk hin hne=>he⟩,c⟩
 · rw[au c];have G:=tq h (held:=held++[(a:Int)]) (by grind);obtain⟨g,hg⟩:=ex (bM k (held++[(a:Int)]));rw[<- hg] at G ⊢;have hent:bl (ak g.2.aj j).bf p=some ⟨p,1,a⟩:=G.stay h hj ha (fun _=>l5.2 (.inr (by simp)));have hj':j<g.2.aj.length:=by rw[G.kept.np];exact hj
   have he':=(gJ (G.right.sp hj').lT).1 hent;have hpk:(aH g.2.frames a).data=bY g.2 j p:=by grind [bY]
   have hsz:(aH g.2.frames a).data.size=16:=(G.right.zP a (by rw[G.kept.nf];exact hat)).size (fun z=>by
    have:=ju hj' he'.1
    grind)
   have m:jW g.2 j p g.1 (aH g.2.frames a).data true:=⟨G.right,hj',G.mapped hj hp,by rw[G.kept.nf];exact G.lt,G.free,hsz,fun y=>by cases y⟩;refine⟨⟨xY m,G.kept.trans (D8 m hpk),G.lt,by grind [tV],fun j' hj2 q e he hk hin hne=>?_⟩,?_⟩
   · grind [tV,uw.stay]
   grind [oQ]
theorem Zp {k:aR} {j:Nat} {p:Int} {held:List Int} {r:Nat×aR} (b:fW k j p held r) (hj:j<k.aj.length) (way:Int):fW k j p held (r.1,Q8 r.2 way r.1):=by
 have h:=b.right;have hlt:r.1<r.2.frames.length:=by rw[b.kept.nf];exact b.lt
 have hj':j<r.2.aj.length:=by rw[b.kept.np];exact hj
 have he:=(gJ (h.sp hj').lT).1 b.here;have hL:bU r.2.aj 1 r.1≠[]:=fun z=>by
  have:=ju hj' he.1
  grind
 have hf:=h.zP r.1 hlt;have hR:aW (Q8 r.2 way r.1):=h.frame (f:=zy way (aH r.2.frames r.1)) ⟨hf.refs,fun e=>absurd e hL,hf.one,hf.size,fun d=>hf.fill (by
  have d:((aH r.2.frames r.1).jG || decide (way=1))=false:=d
  grind)⟩
 refine⟨hR,b.kept.trans ⟨rfl,fC,rfl,rfl,fun _ _=>rfl,fun _ _=>rfl,fun n hn q=>?_⟩,b.lt,b.here,b.stay⟩;unfold bY;show(match bl (ak r.2.aj n).bf q with
  | some e=>if e.kind=1 then (aH (r.2.frames.set r.1 (zy way (aH r.2.frames r.1))) e.loc.toNat).data else (bE r.2.slots e.loc.toNat).data
  | none=>_)=_
 cases bl (ak r.2.aj n).bf q with
 | none=>rfl
 | some e =>
  show(if e.kind=1 then _ else _)=if e.kind=1 then _ else _
  rw[jU _ _ _ _ hlt];by_cases c:r.1=e.loc.toNat
  · rw[aB c,<- c];rfl
  grind
theorem fW.trans {k:aR} {j:Nat} {p:Int} {held:List Int} {r s:Nat×aR} (a:fW k j p held r) (b:fW r.2 j p held s):fW k j p held s :=
 ⟨b.right,a.kept.trans b.kept,by have:=b.lt;grind [kept,fN.nf],b.here,fun j' hj' q e he h1 h2 h3=>b.stay j' (by grind [kept,fN.np]) q e (a.stay j' hj' q e he h1 h2 h3) h1 h2 h3⟩
theorem fN.mapped {k k':aR} (h:fN k k') {j:Nat} (hj:j<k.aj.length) {p:Int} (hp:dV k j p):dV k' j p:=by grind [dV,aT]
theorem rq {k:aR} (h:aW k) {j:Nat} (hj:j<k.aj.length) {p:Int} (hp:dV k j p) (way:Int) {held:List Int} (hl:held.length<=1):fW k j p held (dN k j p way held)/\(way=1->(aH (dN k j p way held).2.frames (dN k j p way held).1).refs=1/\(aH (dN k j p way held).2.frames (dN k j p way held).1).jG=true):=by
 have P:=Ah h hj hp (held:=held) (by omega);have hT:fW k j p held (iB k j p way held)/\(way=1->(aH (iB k j p way held).2.frames (iB k j p way held).1).refs=1):=by
  grind [iB,Lu,fW.right,fW.kept,fN.np,fN.mapped,fW.here,fW.trans]
 refine⟨Zp hT.1 hj way,fun c=>?_⟩;have hlt:(iB k j p way held).1<(iB k j p way held).2.frames.length:=by rw[hT.1.kept.nf];exact hT.1.lt
 have e:aH (dN k j p way held).2.frames (dN k j p way held).1=zy way (aH (iB k j p way held).2.frames (iB k j p way held).1):=by
  show aH ((iB k j p way held).2.frames.set _ _) (iB k j p way held).1=_
  grind [jU]
 grind [zy]
open Go.RowKit
structure fh where
 refs:Int
 page:Int
 zero:Bool
def dG:fh:=⟨0,0,false⟩
def cY (l:List fh) (i:Nat):fh:=l.getD i dG
def oP (us:List fh) (e:bD) (z:Bool):Bool:=decide (0<=e.loc/\e.loc<(us.length:Int))&&!(decide (0<(cY us e.loc.toNat).refs)&&(decide ((cY us e.loc.toNat).page≠e.page) || (cY us e.loc.toNat).zero != z))
def sK (us:List fh) (e:bD) (z:Bool):List fh:=us.set e.loc.toNat ⟨(cY us e.loc.toNat).refs+1,e.page,z⟩
def yb (ar:List aY) (last:Int) (uf us:List fh) (e:bD):Bool:=(aV ar e.page).2&&(decide (last<e.page)&&(if e.kind=1 then oP uf e (aV ar e.page).1.zero else if e.kind=2 then oP us e (aV ar e.page).1.zero else false))
def tX (ar:List aY) (u:List fh×List fh) (e:bD):List fh×List fh:=if e.kind=1 then (sK u.1 e (aV ar e.page).1.zero,u.2) else (u.1,sK u.2 e (aV ar e.page).1.zero)
def rT (es:List bD) (k:Nat):Int:=if k=0 then 0 else (aX es (k-1)).page
def jD (ar:List aY) (es:List bD) (u:List fh×List fh):Nat->List fh×List fh
 | 0=>u
 | k+1=>tX ar (jD ar es u k) (aX es k)
def jV (ar:List aY) (es:List bD) (u:List fh×List fh):Nat->Bool
 | 0=>true
 | k+1=>jV ar es u k&&yb ar (rT es k) (jD ar es u k).1 (jD ar es u k).2 (aX es k)
def rU (hs:List bG) (ar:List aY):Bool:=ar.all fun a=>(List.range a.aQ.toNat).all fun n=>a.zero || decide ((fq hs (a.page+(n:Int))).size≠0)
def pT (hs:List bG) (s:cZ):Bool:=if s.live then decide (bj s.aT=0)&&rU hs s.aT else decide (s.aT.length=0)&&decide (s.bf.length=0)
def kJ (ss:List cZ) (u:List fh×List fh):Nat->List fh×List fh
 | 0=>u
 | k+1=>jD (ak ss k).aT (ak ss k).bf (kJ ss u k) (ak ss k).bf.length
def oa (hs:List bG) (ss:List cZ) (u:List fh×List fh):Nat->Bool
 | 0=>true
 | k+1=>oa hs ss u k&&(pT hs (ak ss k)&&jV (ak ss k).aT (ak ss k).bf (kJ ss u k) (ak ss k).bf.length)
def tj (f:lV):Bool:=decide (f.data.size=0/\f.refs=0/\f.jG=false/\f.seen=false)
def tW (f:pd):Bool:=decide (f.data.size=0/\f.refs=0)
def jQ (hs:List bG) (f:lV) (u:fh):Bool:=if u.refs=0 then tj f else decide (f.refs=u.refs/\f.data.size=16)&&(f.jG || decide (f.data=fY hs u.page u.zero))
def mh (s:pd) (u:fh):Bool:=if u.refs=0 then tW s else decide (s.refs=u.refs/\s.data.size=16)
def Ae (k:aR):List fh×List fh:=kJ k.aj (List.replicate k.frames.length dG,List.replicate k.slots.length dG) k.aj.length
def C0 (k:aR):Bool:=ia k.aM&&(decide (0<=k.hand/\k.hand<(k.frames.length:Int))&&(oa k.aM k.aj (List.replicate k.frames.length dG,List.replicate k.slots.length dG) k.aj.length&&(decide (eD k.aj<=(k.slots.length:Int))&&((List.range k.frames.length).all (fun i=>jQ k.aM (aH k.frames i) (cY (Ae k).1 i))&&(List.range k.slots.length).all (fun i=>mh (bE k.slots i) (cY (Ae k).2 i))))))
def fV (k:aR):Int:=if nz k=false then 2 else if C0 k then 0 else 1
def yR (L:List (Int×Bool)) (u:fh):Prop:=u.refs=L.length/\∀x∈L,x=(u.page,u.zero)
def ye (N:Int->Int->List (Int×Bool)) (nf ns:Nat) (u:List fh×List fh):Prop:=(u.1.length=nf/\u.2.length=ns)/\(∀i:Nat,i<nf->yR (N 1 i) (cY u.1 i))/\∀i:Nat,i<ns->yR (N 2 i) (cY u.2 i)
theorem FU (l:List fh) (j n:Nat) (s:fh) (hj:j<l.length):cY (l.set j s) n=if j=n then s else cY l n:=by
 grind [cY]
theorem NH {L:List (Int×Bool)} {u:fh} (h:yR L u) {p:Int} {z:Bool} (hc:¬(0<u.refs/\(u.page≠p∨u.zero≠z))):yR (L++[(p,z)]) ⟨u.refs+1,p,z⟩:=by
 refine⟨by show u.refs+1=_;rw[h.1,fM];rfl,fun x hx=>?_⟩;rcases l5.1 hx with g | g
 · have hpos:0<u.refs:=by rw[h.1];grind
   have e:=h.2 x g
   grind
 grind
theorem zt {us:List fh} {e:bD} {z:Bool}:oP us e z=true↔(0<=e.loc/\e.loc<(us.length:Int))/\¬(0<(cY us e.loc.toNat).refs/\((cY us e.loc.toNat).page≠e.page∨(cY us e.loc.toNat).zero≠z)):=by
 grind [oP]
theorem Zu {N:Int->Int->List (Int×Bool)} {nf ns:Nat} {u:List fh×List fh} (h:ye N nf ns u) {ar:List aY} {last:Int} {e:bD} (hb:yb ar last u.1 u.2 e=true) :
  ye (fun kd i=>N kd i++jS ar kd i [e]) nf ns (tX ar u e)/\yC nf ns ar e/\last<e.page:=by
 unfold yb at hb;rw[eO,eO,lh] at hb;obtain⟨h1,h2,h3⟩:=hb;obtain⟨⟨l1,l2⟩,s1,s2⟩:=h;by_cases c:e.kind=1
 · rw[aB c] at h3;obtain⟨b,hc⟩:=zt.1 h3;refine⟨⟨⟨?_,?_⟩,fun i hi=>?_,fun i hi=>?_⟩,⟨h1,.inl ⟨c,b.1,by omega⟩⟩,h2⟩
   · grind [tX,sK]
   · grind [tX]
   · grind [tX,sK,FU,se,NH,nN]
   grind [tX,nN]
 · rw[au c] at h3;by_cases c2:e.kind=2
   · rw[aB c2] at h3;obtain⟨b,hc⟩:=zt.1 h3;refine⟨⟨⟨?_,?_⟩,fun i hi=>?_,fun i hi=>?_⟩,⟨h1,.inr ⟨c2,b.1,by omega⟩⟩,h2⟩
     · grind [tX]
     · grind [tX,sK]
     · grind [tX,nN]
     grind [tX,sK,FU,se,NH,nN]
   grind
theorem Zv {N:Int->Int->List (Int×Bool)} {nf ns:Nat} {u:List fh×List fh} (h:ye N nf ns u) {ar:List aY} {last:Int} {e:bD} (he:yC nf ns ar e) (hl:last<e.page) (ho:∀x∈N e.kind e.loc,x=(e.page,(aV ar e.page).1.zero)):yb ar last u.1 u.2 e=true:=by
 obtain⟨⟨l1,l2⟩,s1,s2⟩:=h;unfold yb;rw[he.1,ic hl,tN,tN];have key:∀(us:List fh) (n:Nat),us.length=n->(0<=e.loc/\e.loc<(n:Int))->yR (N e.kind (e.loc.toNat:Int)) (cY us e.loc.toNat)->oP us e (aV ar e.page).1.zero=true:=fun us n hn hb hs=>by
  rw[zt];refine⟨by omega,fun ⟨a,b⟩=>?_⟩;rw[hs.1] at a;obtain⟨x,hx⟩:=List.exists_mem_of_length_pos (show 0<(N e.kind (e.loc.toNat:Int)).length by omega);have e1:=hs.2 x hx
  grind
 rcases he.2 with g | g
 · grind
 grind
theorem D7 (es:List bD) (k:Nat) (hk:k<es.length):es.take (k+1)=es.take k++[aX es k]:=by
 grind [List.take_add_one,aX]
theorem Ge {N:Int->Int->List (Int×Bool)} {nf ns:Nat} {u:List fh×List fh} (h:ye N nf ns u) (ar:List aY) (es:List bD):∀k,k<=es.length->jV ar es u k=true->ye (fun kd i=>N kd i++jS ar kd i (es.take k)) nf ns (jD ar es u k)/\∀i,i<k->yC nf ns ar (aX es i)/\rT es i<(aX es i).page
 | 0,_,_=>⟨by
  have e:(fun kd i=>N kd i++jS ar kd i (es.take 0))=N:=by grind [jS]
  rw[e];exact h,fun i hi=>by omega⟩
 | k+1,hk,hb=>by
  unfold jV at hb;rw[eO] at hb;obtain⟨a1,a2⟩:=Ge h ar es k (by omega) hb.1;obtain⟨b1,b2,b3⟩:=Zu a1 hb.2;refine⟨?_,fun i hi=>?_⟩
  · have e:(fun kd i=>N kd i++jS ar kd i (es.take (k+1)))=fun kd i=>(N kd i++jS ar kd i (es.take k))++jS ar kd i [aX es k]:=by
     grind [D7,mP]
    rw[e];exact b1
  grind
theorem Lq {N:Int->Int->List (Int×Bool)} {nf ns:Nat} {u:List fh×List fh} (h:ye N nf ns u) (ar:List aY) (es:List bD) (he:∀i,i<es.length->yC nf ns ar (aX es i)/\rT es i<(aX es i).page) (ho:∀kd i,∀x∈N kd i++jS ar kd i es,∀y∈N kd i++jS ar kd i es,x=y):∀k,k<=es.length->jV ar es u k=true
 | 0,_=>rfl
 | k+1,hk=>by
  have ih:=Lq h ar es he ho k (by omega);unfold jV;rw[ih,tN];obtain⟨a1,_⟩:=Ge h ar es k (by omega) ih;refine Zv a1 (he k (by omega)).1 (he k (by omega)).2 fun x hx=>?_
  have hm:(aX es k)∈es:=jT (by omega);refine ho (aX es k).kind (aX es k).loc x ?_ _ (l5.2 (.inr (ML.2 ⟨_,hm,rfl,rfl,rfl⟩)))
  grind [ML]
open Go.RowKit
theorem Ee (es:List bD) (k:Nat):(es.map (·.page)).getD k 0=(aX es k).page:=by
 unfold aX;rw[fK,fK,AQ];cases es[k]? <;> rfl
theorem kf {ar:List aY} {p:Int} (h:(aV ar p).2=true):1<=p/\p<256:=by
 have:=iw (tH h) h;omega
theorem NK {nf ns:Nat} {ar:List aY} {es:List bD}:(∀i,i<es.length->yC nf ns ar (aX es i)/\rT es i<(aX es i).page)↔(∀e∈es,yC nf ns ar e)/\jJ es:=by
 constructor
 · intro h;refine⟨fun e he=>?_,Aw _ fun k h1 h2=>?_⟩
   · obtain⟨i,hi,rfl⟩:=lM gY he;exact(h i hi).1
   grind [Ee,rT]
 · rintro⟨h1,h2⟩ i hi;have he:=h1 (aX es i) (jT hi);refine⟨he,?_⟩;unfold rT;by_cases c:i=0
   · rw[aB c];have:=kf he.1;omega
   · rw[au c,<- Ee,<- Ee];exact JL h2 i (by omega) (by grind)
theorem Gc {hs:List bG} (hr:ia hs=true) (p:Int):(fq hs p).size≠0↔(iJ hs p).isSome=true:=by
 constructor
 · intro h;unfold fq at h;cases g:iJ hs p with
   | some s=>rfl
   | none=>rw[g] at h;exact absurd rfl h
 grind [Gd]
theorem abU {ar:List aY} (hc:bj ar=0) (p:Int):(aV ar p).2=true↔∃a∈ar,a.page<=p/\p<a.page+a.aQ/\aV ar p=(a,true):=by
 grind [aV,BW,bC,JP]
theorem abT {ar:List aY} (hc:bj ar=0) {a:aY} (ha:a∈ar) {p:Int} (h1:a.page<=p) (h2:p<a.page+a.aQ):aV ar p=(a,true):=by
 obtain⟨k,hk,e⟩:=lM xK ha;have e:bC ar k=a:=e;have hit:iU (bC ar k) p=true:=by grind [JP]
 grind [aV,Ns,BW,QI]
theorem NN {hs:List bG} (hr:ia hs=true) {ar:List aY} (hc:bj ar=0):rU hs ar=true↔∀p,(aV ar p).2=true->(aV ar p).1.zero=false->(iJ hs p).isSome=true:=by
 unfold rU;rw[ql];constructor
 · intro h p hp hz;obtain⟨a,ha,h1,h2,e⟩:=(abU hc p).1 hp;rw[e] at hz;have hz:a.zero=false:=hz;have:=h a ha;rw[ql] at this;have:=this (p-a.page).toNat (uR.2 (by omega))
   grind [Gc]
 · intro h a ha;rw[ql];intro n hn;have hn:=uR.1 hn;have e:=abT hc ha (p:=a.page+(n:Int)) (by omega) (by omega)
   grind [Gc]
theorem abS (ss:List cZ) (k:Nat) (hk:k<ss.length):ss.take (k+1)=ss.take k++[ak ss k]:=by
 grind [List.take_add_one,ak]
theorem IE (ss:List cZ) (k:Nat) (hk:k<ss.length) (kd a:Int):bU (ss.take (k+1)) kd a=bU (ss.take k) kd a++fJ (ak ss k) kd a:=by
 grind [abS,EU,kT,Li]
theorem NG (nf ns:Nat):ye (fun _ _=>[]) nf ns (List.replicate nf dG,List.replicate ns dG):=by
 have h:∀n i,cY (List.replicate n dG) i=dG:=fun n i=>by
  grind [cY]
 refine⟨⟨uS,uS⟩,fun i _=>?_,fun i _=>?_⟩
 · grind [yR,dG]
 grind [yR,dG]
theorem af4 {hs:List bG} (hr:ia hs=true) {nf ns:Nat} {s:cZ} (h1:pT hs s=true) (h2:(∀e∈s.bf,yC nf ns s.aT e)/\jJ s.bf):vh hs nf ns s:=by
 unfold pT at h1;by_cases c:s.live=true
 · rw[aB c,eO,lh] at h1;exact⟨fun d=>(by grind),h1.1,h2.2,h2.1,(NN hr h1.1).1 h1.2⟩
 · rw[au c,eO,lh,lh] at h1;have ha:=lj h1.1;refine⟨fun _=>⟨ha,lj h1.2⟩,by rw[ha];rfl,h2.2,h2.1,fun p hp=>?_⟩;rw[ha] at hp;cases hp
theorem af5 {hs:List bG} (hr:ia hs=true) {nf ns:Nat} {s:cZ} (h:vh hs nf ns s):pT hs s=true:=by
 grind [pT,NN,vh.aT,vh.aM,vh.dead]
theorem Ag {hs:List bG} (hr:ia hs=true) {nf ns:Nat} {u:List fh×List fh} (h:ye (fun _ _=>[]) nf ns u) (ss:List cZ):∀k,k<=ss.length->oa hs ss u k=true->ye (fun kd i=>bU (ss.take k) kd i) nf ns (kJ ss u k)/\∀i,i<k->vh hs nf ns (ak ss i)
 | 0,_,_=>⟨by
  have e:(fun kd i=>bU (ss.take 0) kd i)=fun _ _=>[]:=by rfl
  rw[e];exact h,fun i hi=>by omega⟩
 | k+1,hk,hb=>by
  unfold oa at hb;rw[eO,eO] at hb;obtain⟨a1,a2⟩:=Ag hr h ss k (by omega) hb.1;obtain⟨b1,b2⟩:=Ge a1 (ak ss k).aT (ak ss k).bf _ (aD _) hb.2.2;refine⟨?_,fun i hi=>?_⟩
  · have e:(fun kd i=>bU (ss.take (k+1)) kd i)=fun kd i=>bU (ss.take k) kd i++jS (ak ss k).aT kd i ((ak ss k).bf.take (ak ss k).bf.length):=by
     funext kd i;rw[IE ss k (by omega),vQ];rfl
    rw[e];exact b1
  · by_cases c:i=k
    · simp_all [af4,NK]
    grind
theorem WE {ss:List cZ} {k:Nat} {kd a:Int} {x:Int×Bool} (h:x∈bU (ss.take k) kd a):x∈bU ss kd a:=by
 grind [pI]
theorem NI {hs:List bG} (hr:ia hs=true) {nf ns:Nat} {u:List fh×List fh} (h:ye (fun _ _=>[]) nf ns u) (ss:List cZ) (hsp:∀i,i<ss.length->vh hs nf ns (ak ss i)) (ho:∀kd i,∀x∈bU ss kd i,∀y∈bU ss kd i,x=y):∀k,k<=ss.length->oa hs ss u k=true
 | 0,_=>rfl
 | k+1,hk=>by
  have ih:=NI hr h ss hsp ho k (by omega);unfold oa;obtain⟨a1,_⟩:=Ag hr h ss k (by omega) ih;have g:=hsp k (by omega);rw[ih,af5 hr g,tN,tN];refine Lq a1 _ _ (NK.2 ⟨g.Mq,g.lT⟩) (fun kd i x hx y hy=>?_) _ (aD _);have key:∀z,z∈bU (ss.take k) kd i++jS (ak ss k).aT kd i (ak ss k).bf->z∈bU ss kd i:=fun z hz=>by
   refine WE (k:=k+1) ?_;rw[IE ss k (by omega)];exact hz
  grind
theorem Eb (f:lV):tj f=true↔f=gX:=by
 unfold tj;rw[lh];constructor
 · rintro⟨h1,h2,h3,h4⟩;obtain⟨⟨⟨d⟩⟩,r,a,b⟩:=f;simp only at h2 h3 h4;subst h2 h3 h4;have:d=[]:=lj h1;subst this;rfl
 · rintro rfl;exact⟨rfl,rfl,rfl,rfl⟩
theorem Gb (f:pd):tW f=true↔f=oc:=by
 unfold tW;rw[lh];constructor
 · rintro⟨h1,h2⟩;obtain⟨⟨⟨d⟩⟩,r⟩:=f;simp only at h2;subst h2;have:d=[]:=lj h1;subst this;rfl
 · rintro rfl;exact⟨rfl,rfl⟩
theorem QY {L:List (Int×Bool)} {u:fh} (h:yR L u):∀x∈L,∀y∈L,x=y:=fun x hx y hy=>(h.2 x hx).trans (h.2 y hy).symm
theorem Af {L:List (Int×Bool)} {u:fh} (h:yR L u):u.refs=0↔L=[]:=by
 rw[h.1]
 simp_all
theorem UM {hs:List bG} {L:List (Int×Bool)} {u:fh} (h:yR L u) (f:lV):jQ hs f u=true↔lU hs L f:=by
 unfold jQ;by_cases c:u.refs=0
 · grind [Af,Eb,lU.none,lU.zero]
 · have hL:L≠[]:=fun e=>c ((Af h).2 e)
   rw[au c,eO,lh,Ve,lh];constructor
   · rintro⟨⟨h1,h2⟩,h3⟩;refine⟨h1.trans h.1,fun e=>absurd e hL,QY h,fun _=>h2,fun d x hx=>?_⟩;rw[h.2 x hx]
     grind
   · intro g;refine⟨⟨g.refs.trans h.1.symm,g.size hL⟩,?_⟩;cases d:f.jG with
     | true=>grind
     | false =>
      obtain⟨x,hx⟩:=J4 _ hL;have:=g.fill d x hx;rw[h.2 x hx] at this
      grind
theorem UI {L:List (Int×Bool)} {u:fh} (h:yR L u) (f:pd):mh f u=true↔oV L f:=by
 unfold mh;by_cases c:u.refs=0
 · grind [Af,Gb,oV.none,oV.zero]
 · have hL:L≠[]:=fun e=>c ((Af h).2 e)
   rw[au c,lh];constructor
   · rintro⟨h1,h2⟩;exact⟨h1.trans h.1,fun e=>absurd e hL,QY h,fun _=>h2⟩
   · intro g;exact⟨g.refs.trans h.1.symm,g.size hL⟩
theorem Zr (k:aR) (hc:nz k=true):C0 k=true↔aW k:=by
 unfold C0;simp only[eO,lh,ql,uR];have hz:=NG k.frames.length k.slots.length;have hn:(fun kd i=>bU (k.aj.take k.aj.length) kd i)=fun kd i=>bU k.aj kd i:=by grind
 constructor
 · rintro⟨h1,h2,h3,h4,h5,h6⟩;obtain⟨a1,a2⟩:=Ag h1 hz k.aj _ (aD _) h3;rw[hn] at a1;refine⟨hc,h1,h2,fun s hs=>?_,h4,fun i hi=>(UM (a1.2.1 i hi) _).1 (h5 i hi),fun i hi=>(UI (a1.2.2 i hi) _).1 (h6 i hi)⟩;obtain⟨j,hj,rfl⟩:=lM rp hs;exact a2 j hj
 · intro h;have ho:∀kd i,∀x∈bU k.aj kd i,∀y∈bU k.aj kd i,x=y:=fun kd i x hx y hy=>by
    obtain⟨s,hs,e,he,g1,g2,_⟩:=pI.1 hx;obtain⟨j,hj,rfl⟩:=lM rp hs;rcases iO h hj he with b | b
    · have:=(h.zP e.loc.toNat b.2.2).one x (by grind) y (by grind);omega
    grind [aW.slt,oV.one]
   have hb:=NI h.lT hz k.aj (fun i hi=>h.sp hi) ho _ (aD _);obtain⟨a1,_⟩:=Ag h.lT hz k.aj _ (aD _) hb;rw[hn] at a1;exact⟨h.lT,h.hand,hb,h.room,fun i hi=>(UM (a1.2.1 i hi) _).2 (h.zP i hi),fun i hi=>(UI (a1.2.2 i hi) _).2 (h.slt i hi)⟩
theorem oh (k:aR):fV k=0↔aW k:=by
 grind [fV,Zr,aW.counts]
open Go.RowKit
open Go.RowKit
def mJ (us:List fh) (n:Nat) (B:Int):Prop:=us.length=n/\∀i,i<n->0<=(cY us i).refs/\(cY us i).refs<=B
theorem mJ.mono {us:List fh} {n:Nat} {B C:Int} (h:mJ us n B) (hc:B<=C):mJ us n C:=⟨h.1,fun i hi=>⟨(h.2 i hi).1,Int.le_trans (h.2 i hi).2 hc⟩⟩
theorem mJ.use {us:List fh} {n:Nat} {B:Int} (h:mJ us n B) (e:bD) (z:Bool) (hok:oP us e z=true):mJ (sK us e z) n (B+1):=by
 have hb:=(zt.1 hok).1;obtain⟨h1,h2⟩:=h;refine⟨by grind [sK],fun i hi=>?_⟩
 grind [sK,FU]
theorem Tv {ar:List aY} {last:Int} {uf us:List fh} {e:bD} (h:yb ar last uf us e=true):(aV ar e.page).2=true/\last<e.page/\((e.kind=1/\oP uf e (aV ar e.page).1.zero=true)∨(e.kind=2/\oP us e (aV ar e.page).1.zero=true)):=by
 grind [yb]
theorem Jw (ar:List aY) (es:List bD) (u:List fh×List fh) (nf ns:Nat) (B:Int) (h1:mJ u.1 nf B) (h2:mJ u.2 ns B):∀k,k<=es.length->jV ar es u k=true->mJ (jD ar es u k).1 nf (B+k)/\mJ (jD ar es u k).2 ns (B+k)/\(k:Int)<=(if k=0 then 0 else (aX es (k-1)).page)/\(if k=0 then 0 else (aX es (k-1)).page)<256
 | 0,_,_=>⟨h1.mono (by omega),h2.mono (by omega),AK _,by omega⟩
 | k+1,hk,hb=>by
  unfold jV at hb;rw[eO] at hb;obtain⟨a1,a2,a3,a4⟩:=Jw ar es u nf ns B h1 h2 k (by omega) hb.1;obtain⟨b1,b2,b3⟩:=Tv hb.2;have hm:=kf b1
  grind [rT,tX,jD,mJ.use,mJ.mono]
theorem IL (ar:List aY) (es:List bD) (u:List fh×List fh):∀(k n:Nat),k<=n->jV ar es u k=false->jV ar es u n=false
 | k,0,h,e=>by
  grind
 | k,n+1,h,e=>by
  by_cases c:k=n+1
  · grind
  · rw[jV,IL ar es u k n (by omega) e,G7]
theorem Zt (ar:List aY) (es:List bD) (u:List fh×List fh) (k:Nat) (hk:k<es.length) (h:yb ar (rT es k) (jD ar es u k).1 (jD ar es u k).2 (aX es k)=false):jV ar es u es.length=false :=
 IL ar es u (k+1) es.length hk (by grind [jV])
theorem UG (n:Nat):mJ (List.replicate n dG) n 0:=by
 refine⟨uS,fun i hi=>?_⟩;unfold cY;rw[fK,List.getElem?_replicate,aB hi];exact⟨AK _,AK _⟩
theorem UH (hs:List bG) (ss:List cZ) (u:List fh×List fh) (nf ns:Nat) (h1:mJ u.1 nf 0) (h2:mJ u.2 ns 0):∀k,k<=ss.length->oa hs ss u k=true->mJ (kJ ss u k).1 nf (255*k)/\mJ (kJ ss u k).2 ns (255*k)
 | 0,_,_=>⟨h1,h2⟩
 | k+1,hk,hb=>by
  unfold oa at hb;rw[eO,eO] at hb;obtain⟨a1,a2⟩:=UH hs ss u nf ns h1 h2 k (by omega) hb.1;obtain⟨b1,b2,_,_⟩:=Jw (ak ss k).aT (ak ss k).bf (kJ ss u k) nf ns (255*k) a1 a2 _ (aD _) hb.2.2
  grind [kJ,mJ.mono]
theorem Tj {k:aR} (hr:ia k.aM=true) (hb:oa k.aM k.aj (List.replicate k.frames.length dG,List.replicate k.slots.length dG) k.aj.length=true) (i:Nat) (hi:i<k.frames.length) (hn:(cY (Ae k).1 i).refs≠0):0<=(cY (Ae k).1 i).page/\(cY (Ae k).1 i).page<256:=by
 obtain⟨a1,a2⟩:=Ag hr (NG k.frames.length k.slots.length) k.aj _ (aD _) hb;have hs:=a1.2.1 i hi;have hs:yR (bU (k.aj.take k.aj.length) 1 i) (cY (Ae k).1 i):=hs;rw[vQ] at hs;have hne:bU k.aj 1 i≠[]:=fun e=>hn ((Af hs).2 e)
 obtain⟨x,hx⟩:=J4 _ hne;have e:=hs.2 x hx;obtain⟨s,hsm,en,hen,_,_,hxe⟩:=pI.1 hx;obtain⟨j,hj,rfl⟩:=lM rp hsm;have hm:=kf ((a2 j hj).Mq en hen).1
 grind
theorem K6 (hs:List bG) (ss:List cZ) (u:List fh×List fh):∀(k n:Nat),k<=n->oa hs ss u k=false->oa hs ss u n=false
 | k,0,h,e=>by
  grind
 | k,n+1,h,e=>by
  by_cases c:k=n+1
  · grind
  · rw[oa,K6 hs ss u k n (by omega) e,G7]
open Go.RowKit
def cB (a n:Int):Int:=(a+n-1)/16
def fp (k:aR) (j:Nat) (a way:Int):Nat×aR:=dN k j (a/16) way []
def kI (k:aR) (j:Nat) (a n way:Int):Nat×aR:=dN (fp k j a way).2 j (cB a n) way [((fp k j a way).1:Int)]
def aZ (k:aR) (j:Nat) (a n way:Int):List Nat×aR:=if cB a n=a/16 then ([(fp k j a way).1],(fp k j a way).2) else ([(fp k j a way).1,(kI k j a n way).1],(kI k j a n way).2)
structure abW (k:aR) (j:Nat) (a n way:Int):Prop where
 right:aW (aZ k j a n way).2
 kept:fN k (aZ k j a n way).2
 one:bl (ak (aZ k j a n way).2.aj j).bf (a/16)=some ⟨a/16,1,(fp k j a way).1⟩/\(fp k j a way).1<k.frames.length
 two:cB a n≠a/16->bl (ak (aZ k j a n way).2.aj j).bf (cB a n)=some ⟨cB a n,1,(kI k j a n way).1⟩/\(kI k j a n way).1<k.frames.length
theorem od {k:aR} (h:aW k) {j:Nat} (hj:j<k.aj.length) (a n way:Int) (h1:dV k j (a/16)) (h2:dV k j (cB a n)):abW k j a n way:=by
 have A:=(rq h hj h1 way (held:=[]) (by simp)).1;by_cases c:cB a n=a/16
 · have e:aZ k j a n way=([(fp k j a way).1],(fp k j a way).2):=by grind [aZ]
   exact⟨by rw[e];exact A.right,by rw[e];exact A.kept,by rw[e];exact⟨A.here,A.lt⟩,fun x=>absurd c x⟩
 · have hj':j<(fp k j a way).2.aj.length:=by grind [fp,fW.kept,fN.np]
   have B:=(rq (k:=(fp k j a way).2) A.right hj' (A.kept.mapped hj h2) way (held:=[((fp k j a way).1:Int)]) (by simp)).1;have e:aZ k j a n way=([(fp k j a way).1,(kI k j a n way).1],(kI k j a n way).2):=by grind [aZ]
   refine⟨by rw[e];exact B.right,by rw[e];exact A.kept.trans B.kept,?_,fun _=>?_⟩
   · rw[e];exact⟨B.stay j hj' (a/16) _ A.here rfl (by grind) (fun x=>c x.2.symm),A.lt⟩
   · rw[e];refine⟨B.here,?_⟩;have hl:=B.lt
     grind [kI,fp,fW.kept,fN.nf]
open Go.RowKit
def ml (k:aR) (j:Nat) (es:List bD) (e:bD):aR:=dM { k with aj:=k.aj.set j (ek (ak k.aj j) es) } e
theorem Ef {k:aR} (h:aW k) {j:Nat} (hj:j<k.aj.length) {pre post:List bD} {e:bD} (he:(ak k.aj j).bf=pre++e::post):(ml k j (pre++post) e).frames.length=k.frames.length/\(ml k j (pre++post) e).slots.length=k.slots.length/\(ml k j (pre++post) e).aM=k.aM/\(ml k j (pre++post) e).hand=k.hand/\(ml k j (pre++post) e).aj=k.aj.set j (ek (ak k.aj j) (pre++post)) /\
  (∀n,aH (ml k j (pre++post) e).frames n=if e.kind=1/\e.loc=(n:Int) then rR (aH k.frames n) else aH k.frames n) /\
  (∀n,bE (ml k j (pre++post) e).slots n=if e.kind=2/\e.loc=(n:Int) then uG (bE k.slots n) else bE k.slots n):=by
 have hm:e∈(ak k.aj j).bf:=by grind
 unfold ml dM
 grind [iO,jU,yu]
theorem Lt {k:aR} (h:aW k) {j:Nat} (hj:j<k.aj.length) {pre post:List bD} {e:bD} (he:(ak k.aj j).bf=pre++e::post):aW (ml k j (pre++post) e):=by
 have hsp:=h.sp hj;obtain⟨f1,f2,f3,f4,f5,f6,f7⟩:=Ef h hj he;have hlen:(ml k j (pre++post) e).aj.length=k.aj.length:=by grind
 have hin:∀x,x∈pre++post->x∈(ak k.aj j).bf:=fun x hx=>by
  grind
 have hnm:∀kd a:Int,∃X Y,bU k.aj kd a=X++(jS (ak k.aj j).aT kd a [e]++Y)/\bU (k.aj.set j (ek (ak k.aj j) (pre++post))) kd a=X++Y:=fun kd a=>by
  obtain⟨u,v,g1,g2⟩:=zw k.aj j (ek (ak k.aj j) (pre++post)) kd a hj;refine⟨u++jS (ak k.aj j).aT kd a pre,jS (ak k.aj j).aT kd a post++v,?_,?_⟩
  · grind [zx,mP,xp]
  · rw[g2,zx];show u++(jS (ak k.aj j).aT kd a (pre++post)++v)=_
    grind [mP]
 refine⟨?_,by rw[f3];exact h.lT,by simp_all [aW.hand],?_,?_,?_,?_⟩
 · have:=h.counts
   grind [nz]
 · rw[f1,f2,f3,f5];intro s hs;rcases acT hs with g | rfl
   · exact h.each s g
   · refine⟨fun dd=>?_,hsp.aT,?_,fun x hx=>hsp.Mq x (hin x hx),hsp.aM⟩
     · have hnil:=(hsp.dead dd).2
       simp_all
     · have hr:jJ (ak k.aj j).bf:=hsp.lT;rw[he] at hr;exact Vq ((List.Sublist.append (List.Sublist.refl pre) (List.sublist_cons_self e post)).map _) hr
 · rw[f2,f5,Bo _ _ (ek (ak k.aj j) (pre++post)) hj rfl];exact h.room
 · intro n hn;rw[f1] at hn;rw[f3,f5,f6];obtain⟨X,Y,h1,h2⟩:=hnm 1 n
   grind [se,nN,aW.zP,lU.less]
 · intro n hn;rw[f2] at hn;rw[f5,f7];obtain⟨X,Y,h1,h2⟩:=hnm 2 n
   grind [se,nN,aW.slt,oV.less]
open Go.RowKit
theorem pJ {α:Type} (d:α):∀(l m:List α),l.length=m.length->(∀i,i<l.length->l.getD i d=m.getD i d)->l=m
 | [],[],_,_=>rfl
 | [],b::r,h,_=>by simp at h
 | a::r,[],h,_=>by simp at h
 | a::r,b::t,h,g=>by
  have h0:a=b:=g 0 (Pk _);have h1:=pJ d r t (by grind) (fun i hi=>g (i+1) (Pj hi))
  grind
def Hr (f:lV) (d:Int):lV:=if f.refs+d=0 then gX else ⟨f.data,f.refs+d,f.jG,f.seen⟩
def Hq (f:pd) (d:Int):pd:=if f.refs+d=0 then oc else ⟨f.data,f.refs+d⟩
def ko (k:aR) (e:bD) (d:Int):aR:=if e.kind=1 then { k with frames:=k.frames.set e.loc.toNat (Hr (aH k.frames e.loc.toNat) d) } else { k with slots:=k.slots.set e.loc.toNat (Hq (bE k.slots e.loc.toNat) d) }
theorem Gh (k:aR) (e:bD):ko k e (-1)=dM k e:=by
 rfl
theorem EW (k:aR) (e:bD):(dM k e).aj=k.aj:=by grind [dM]
theorem Tt (k:aR) (e:bD):(dM k e).aM=k.aM/\(dM k e).hand=k.hand:=by grind [dM]
theorem WH (k:aR) (e:bD):(dM k e).frames.length=k.frames.length/\(dM k e).slots.length=k.slots.length:=by
 grind [dM]
def km (k:aR) (j:Nat) (es:List bD):aR:={ k with aj:=k.aj.set j (ek (ak k.aj j) es) }
theorem IJ (k:aR) (j:Nat) (es:List bD) (e:bD):dM (km k j es) e=km (dM k e) j es:=by grind [dM,km]
theorem K8 (k:aR) (j:Nat) (hj:j<k.aj.length) (es fs:List bD):km (km k j es) j fs=km k j fs:=by
 unfold km;simp only[qi];rw[iI _ _ _ _ hj,aB rfl];rfl
theorem K9 (k:aR) (j:Nat) (hj:j<k.aj.length):km k j (ak k.aj j).bf=k:=by
 unfold km;have:k.aj.set j (ek (ak k.aj j) (ak k.aj j).bf)=k.aj:=pJ rp _ _ fC (fun i hi=>by
  have:=iI k.aj j i (ek (ak k.aj j) (ak k.aj j).bf) hj;unfold ak at this ⊢;rw[this];by_cases c:j=i
  · rw[aB c,c];rfl
  grind)
 rw[this]
theorem Q3 (k:aR) (j:Nat) (hj:j<k.aj.length) (es:List bD):(ak (km k j es).aj j).bf=es:=by
 show(ak (k.aj.set j _) j).bf=es;rw[iI _ _ _ _ hj,aB rfl];rfl
def cU (k:aR) (es:List bD) (p:bD->Bool):Nat->aR
 | 0=>k
 | n+1=>if p (aX es n) then dM (cU k es p n) (aX es n) else cU k es p n
def fe (es:List bD) (p:bD->Bool):List bD:=es.filter fun e=>!p e
def dH (k:aR) (j:Nat) (p:bD->Bool):aR:=km (cU k (ak k.aj j).bf p (ak k.aj j).bf.length) j (fe (ak k.aj j).bf p)
theorem kV (k:aR) (es:List bD) (p:bD->Bool):∀n,(cU k es p n).aj=k.aj
 | 0=>rfl
 | n+1=>by
  unfold cU;split
  · rw[EW,kV k es p n]
  · exact kV k es p n
theorem Gf (k:aR) (es:List bD) (p:bD->Bool):∀n,(cU k es p n).aM=k.aM/\(cU k es p n).hand=k.hand/\(cU k es p n).frames.length=k.frames.length/\(cU k es p n).slots.length=k.slots.length
 | 0=>⟨rfl,rfl,rfl,rfl⟩
 | n+1=>by
  have ih:=Gf k es p n
  grind [cU,Tt,WH]
theorem Lr (es:List bD) (n:Nat) (h:n<es.length):es.drop n=aX es n::es.drop (n+1):=by
 grind [List.drop_eq_getElem_cons,aX]
theorem Lj (es:List bD) (p:bD->Bool) (n:Nat) (h:n<es.length):fe (es.take (n+1)) p=fe (es.take n) p++(if p (aX es n) then [] else [aX es n]):=by
 grind [fe,D7]
theorem wF {k:aR} (h:aW k) {j:Nat} (hj:j<k.aj.length) (p:bD->Bool):∀n,n<=(ak k.aj j).bf.length->aW (km (cU k (ak k.aj j).bf p n) j (fe ((ak k.aj j).bf.take n) p++(ak k.aj j).bf.drop n))
 | 0,_=>by
  have:fe ((ak k.aj j).bf.take 0) p++(ak k.aj j).bf.drop 0=(ak k.aj j).bf:=rfl;rw[this];show aW (km k j (ak k.aj j).bf)
  grind [K9]
 | n+1,hn=>by
  have ih:=wF h hj p n (by omega);have hlt:n<(ak k.aj j).bf.length:=by omega
  have Vy:j<(cU k (ak k.aj j).bf p n).aj.length:=by grind [kV]
  rw[Lr _ n hlt] at ih;rw[Lj _ p n hlt];unfold cU;cases g:p (aX (ak k.aj j).bf n) with
  | true =>
   rw[aB rfl,aB rfl,Dq];have hj2:j<(km (cU k (ak k.aj j).bf p n) j (fe ((ak k.aj j).bf.take n) p++aX (ak k.aj j).bf n::(ak k.aj j).bf.drop (n+1))).aj.length:=by
    show j<List.length (List.set _ _ _)
    grind
   have:=Lt ih hj2 (Q3 _ j Vy _);have e:ml (km (cU k (ak k.aj j).bf p n) j (fe ((ak k.aj j).bf.take n) p++aX (ak k.aj j).bf n::(ak k.aj j).bf.drop (n+1))) j (fe ((ak k.aj j).bf.take n) p++(ak k.aj j).bf.drop (n+1)) (aX (ak k.aj j).bf n)=km (dM (cU k (ak k.aj j).bf p n) (aX (ak k.aj j).bf n)) j (fe ((ak k.aj j).bf.take n) p++(ak k.aj j).bf.drop (n+1)):=by
    show dM (km (km _ j _) j _) _=_
    grind [K8,IJ]
   grind
  | false =>
   grind
theorem yQ {k:aR} (h:aW k) {j:Nat} (hj:j<k.aj.length) (p:bD->Bool):aW (dH k j p):=by
 have:=wF h hj p _ (aD _);rw[vQ,Vg,Dq] at this;exact this
theorem gN (k:aR) (j:Nat) (p:bD->Bool):(dH k j p).aj=k.aj.set j (ek (ak k.aj j) (fe (ak k.aj j).bf p)):=by
 show((cU k (ak k.aj j).bf p _).aj).set j _=_;rw[kV]
theorem mY (k:aR) (j:Nat) (p:bD->Bool):(dH k j p).aM=k.aM/\(dH k j p).hand=k.hand/\(dH k j p).frames.length=k.frames.length/\(dH k j p).slots.length=k.slots.length:=Gf k _ p _
theorem Jx (k:aR) (i:Nat) (es:List bD):∀n,∃x,(cU k es (ll (i:Int)) n).frames=k.frames.set i x/\(cU k es (ll (i:Int)) n).slots=k.slots
 | 0=>⟨aH k.frames i,by
   show k.frames=_;refine(pJ gX _ _ fC (fun m hm=>?_)).symm;rw[fC] at hm;by_cases c:i=m
   · subst c;rw[eT _ _ _ _ hm];rfl
   grind,rfl⟩
 | n+1=>by
  obtain⟨x,h1,h2⟩:=Jx k i es n
  grind [cU,yz,dM,List.set_set]
def kv (k:aR) (i:Nat):Nat->aR
 | 0=>k
 | n+1=>dH (kv k i n) n (ll (i:Int))
theorem zu {k:aR} (h:aW k) (i:Nat):∀n,n<=k.aj.length->aW (kv k i n)/\(kv k i n).aM=k.aM/\(kv k i n).hand=k.hand/\(∃x,(kv k i n).frames=k.frames.set i x)/\(kv k i n).slots=k.slots/\(kv k i n).aj.length=k.aj.length/\∀m,m<k.aj.length->ak (kv k i n).aj m=if m<n then og i (ak k.aj m) else ak k.aj m
 | 0,_=>by
  obtain⟨x,hx,_⟩:=Jx k i [] 0;exact⟨h,rfl,rfl,⟨x,hx⟩,rfl,rfl,fun m _=>by rfl⟩
 | n+1,hn=>by
  obtain⟨r,h1,h2,⟨x,h3⟩,h4,h5,h6⟩:=zu h i n (by omega);have hj:n<(kv k i n).aj.length:=by omega
  have fr:=mY (kv k i n) n (ll (i:Int));obtain⟨y,c1,c2⟩:=Jx (kv k i n) i (ak (kv k i n).aj n).bf (ak (kv k i n).aj n).bf.length;refine⟨yQ r hj _,fr.1.trans h1,fr.2.1.trans h2,⟨y,?_⟩,?_,?_,fun m hm=>?_⟩
  · show(cU _ _ _ _).frames=_
    simp_all
  · show(cU _ _ _ _).slots=_
    grind
  · show(dH _ _ _).aj.length=_
    grind [gN]
  · show ak (dH _ _ _).aj m=_;rw[gN,iI _ _ _ _ hj];by_cases c:n=m
    · subst c;rw[aB rfl,aB (by omega),h6 n hm,au (by omega)];rfl
    grind
theorem Zo {k:aR} (h:aW k) {i:Nat} (hi:i<k.frames.length):kv k i k.aj.length=Ak k i:=by
 obtain⟨r,h1,h2,⟨x,h3⟩,h4,h5,h6⟩:=zu h i k.aj.length (aD _);have hs:(kv k i k.aj.length).aj=k.aj.map (og i):=by
  refine pJ rp _ _ (by grind) (fun m hm=>?_)
  grind [ak]
 have hf:=r.zP i (by grind);have hz:bU (kv k i k.aj.length).aj 1 i=[]:=by
  rw[hs];exact pU _ _ _ _ (fun s _=>xX s.aT i s.bf)
 have hx:x=gX:=by
  grind [aH,lU.zero]
 have:∀a b:aR,a.aM=b.aM->a.frames=b.frames->a.slots=b.slots->a.aj=b.aj->a.hand=b.hand->a=b:=fun a b e1 e2 e3 e4 e5=>by
  cases a;simp_all
 exact this _ _ h1 (by rw[h3,hx];rfl) h4 hs h2
theorem UK {k:aR} (h:aW k) {i:Nat} (hi:i<k.frames.length) {j:Nat} (hj:j<k.aj.length) {a b:Nat} (ha:a<(ak k.aj j).bf.length) (hb:b<(ak k.aj j).bf.length) (h1:ll (i:Int) (aX (ak k.aj j).bf a)=true) (h2:ll (i:Int) (aX (ak k.aj j).bf b)=true):a=b:=by
 have ni:=ju hj (jT (d:=gY) ha);have hm2:=ju hj (jT (d:=gY) hb);have g1:=yz.1 h1;have g2:=yz.1 h2;unfold aX at g1 g2;rw[g1.1,g1.2] at ni;rw[g2.1,g2.2] at hm2;have e:=(h.zP i hi).one _ ni _ hm2;injection e with e _;have hr:=(h.sp hj).lT
 grind [List.pairwise_iff_getElem]
theorem Tm (i s:Int) (es:List bD) (n:Nat) (hn:n<es.length) (h:ll i (aX es n)=true) (ho:∀m,m<es.length->ll i (aX es m)=true->m=n):es.set n ⟨(aX es n).page,2,s⟩=jP i s es:=by
 refine pJ gY _ _ (by grind [jP]) (fun m hm=>?_)
 grind [jP,aX]
theorem Ww (i s:Int) (es:List bD) (h:∀m,m<es.length->ll i (aX es m)=false):jP i s es=es:=by
 refine pJ gY _ _ (by grind [jP]) (fun m hm=>?_)
 grind [jP,aX]
end Go.Proofs.YtlgoihmkgaaemaaGreat
