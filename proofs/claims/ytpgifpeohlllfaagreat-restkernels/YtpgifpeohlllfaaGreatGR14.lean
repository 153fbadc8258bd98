import Derived.Test.YtpgifpeohlllfaaGreatGR13
set_option maxHeartbeats 20000000
set_option linter.unusedVariables false
set_option maxRecDepth 100000
set_option linter.unusedSimpArgs false
namespace Go.Proofs.YtpgifpeohlllfaaGreat
open Go.RowKit
variable {lo mb:Nat} {tt:TypeId} {X:List Value} {w:World} {S:dE} {k:aN}
theorem I6 (h:bu lo mb tt X w S k) {g j:Nat} {u:Value} {c:jO} (hg:S.lab g=c) (hc:c≠.head):(w.setCell (Ad g j) u).heap[mb]?=some (.cells ([S.vS,S.vF,S.vL,S.vP,I k.hand]++X).toArray tt (0,0)) :=
 iM h.head g j u (fun e=>hc (by grind [bu.lH]))
theorem bu.Bb (h:bu lo mb tt X w S k) {g n cap:Nat} (hv:S.vF=.slice (some (Ad g 0)) n cap) {i j:Nat} (hi:i<k.frames.length) (hj:j<4) {f:jm} {u:Value} (e:fB f=(fB (au k.frames i)).set j u) :
  bu lo mb tt X (w.setCell (Ad g (i*4+j)) u) S { k with frames:=k.frames.set i f }:=⟨h.toKr.Bb hv hi hj e,I6 h (h.lF g (by rw[hv];rfl)) (by simp),h.lH⟩
theorem bu.YK (h:bu lo mb tt X w S k) {g n cap:Nat} (hv:S.vL=.slice (some (Ad g 0)) n cap) {i j:Nat} (hi:i<k.slots.length) (hj:j<2) {f:lD} {u:Value} (e:fA f=(fA (br k.slots i)).set j u) :
  bu lo mb tt X (w.setCell (Ad g (i*2+j)) u) S { k with slots:=k.slots.set i f }:=⟨h.toKr.YK hv hi hj e,I6 h (h.lL g (by rw[hv];rfl)) (by simp),h.lH⟩
theorem sL (h:Kr lo w S k) {g n cap:Nat} (hv:S.vF=.slice (some (Ad g 0)) n cap) {V:World} {i:Nat} {u:Value}:bU S V S (V.setCell (Ad g i) u):=bU.set (by rw[h.lF g (by rw[hv];rfl)];simp)
theorem QZ (h:Kr lo w S k) {g n cap:Nat} (hv:S.vL=.slice (some (Ad g 0)) n cap) {V:World} {i:Nat} {u:Value}:bU S V S (V.setCell (Ad g i) u):=bU.set (by rw[h.lL g (by rw[hv];rfl)];simp)
theorem bu.SM (h:bu lo mb tt X w S k) {g n cap:Nat} (hv:S.vF=.slice (some (Ad g 0)) n cap) {i:Nat} (hi:i<k.frames.length) (f:jm) :
  bu lo mb tt X ((((w.setCell (Ad g (i*4)) (.string f.data)).setCell (Ad g (i*4+1)) (I f.refs)).setCell (Ad g (i*4+2)) (.bool f.eX)).setCell (Ad g (i*4+3)) (.bool f.seen)) S { k with frames:=k.frames.set i f } /\
  bU S w S ((((w.setCell (Ad g (i*4)) (.string f.data)).setCell (Ad g (i*4+1)) (I f.refs)).setCell (Ad g (i*4+2)) (.bool f.eX)).setCell (Ad g (i*4+3)) (.bool f.seen)):=by
 have h1:=h.Bb hv hi (j:=0) (by omega) (f:=⟨f.data,(au k.frames i).refs,(au k.frames i).eX,(au k.frames i).seen⟩) (u:=.string f.data) rfl;have h2:=h1.Bb hv (i:=i) (by grind) (j:=1) (by omega) (f:=⟨f.data,f.refs,(au k.frames i).eX,(au k.frames i).seen⟩) (u:=I f.refs) (by simp only[au,eD _ _ _ _ hi];rfl);have h3:=h2.Bb hv (i:=i) (by grind) (j:=2) (by omega) (f:=⟨f.data,f.refs,f.eX,(au k.frames i).seen⟩) (u:=.bool f.eX) (by simp only[au,pF,eD _ _ _ _ hi];rfl);have h4:=h3.Bb hv (i:=i) (by grind) (j:=3) (by omega) (f:=f) (u:=.bool f.seen) (by simp only[au,pF,eD _ _ _ _ hi];rfl);simp only[pF] at h4;exact⟨h4,(((sL h.toKr hv).trans (sL h.toKr hv)).trans (sL h.toKr hv)).trans (sL h.toKr hv)⟩
theorem bu.ace (h:bu lo mb tt X w S k) {g n cap:Nat} (hv:S.vL=.slice (some (Ad g 0)) n cap) {i:Nat} (hi:i<k.slots.length) (f:lD) :
  bu lo mb tt X ((w.setCell (Ad g (i*2)) (.string f.data)).setCell (Ad g (i*2+1)) (I f.refs)) S { k with slots:=k.slots.set i f } /\
  bU S w S ((w.setCell (Ad g (i*2)) (.string f.data)).setCell (Ad g (i*2+1)) (I f.refs)):=by
 have h1:=h.YK hv hi (j:=0) (by omega) (f:=⟨f.data,(br k.slots i).refs⟩) (u:=.string f.data) rfl;have h2:=h1.YK hv (i:=i) (by grind) (j:=1) (by omega) (f:=f) (u:=I f.refs) (by simp only[br,eD _ _ _ _ hi];rfl);simp only[pF] at h2;exact⟨h2,(QZ h.toKr hv).trans (QZ h.toKr hv)⟩
theorem bu.XT (h:bu lo mb tt X w S k) (x:Int):bu lo mb tt X (w.setCell (Ad mb 4) (I x)) S { k with hand:=x }/\bU S w S (w.setCell (Ad mb 4) (I x)):=by
 have hk:aM (fun b=>b=mb) w (w.setCell (Ad mb 4) (I x)):=aM.set _ _ _ _ rfl;have z:∀{b:Nat} {c:jO},S.lab b=c->c≠.head->¬b=mb:=fun e hc x=>hc (by grind [lH])
 refine⟨⟨⟨fun b hb=>⟨(h.rV b hb).1,iH (h.rV b hb).2 hk.size⟩,hk.row h.aD (fun b hb=>z (h.lS b hb) (by simp)),fun i hi=>hk.row (h.cM i hi) (fun b hb=>z (h.lX i hi b hb) (by simp)),hk.row h.frames (fun b hb=>z (h.lF b hb) (by simp)),hk.row h.slots (fun b hb=>z (h.lL b hb) (by simp)),hk.row h.aj (fun b hb=>z (h.lP b hb) (by simp)),h.len,fun i hi=>(h.each i hi).kp hk (fun b hb=>z (h.lA i hi b hb) (by simp)) (fun b hb=>z (h.lE i hi b hb) (by simp)),h.lS,h.lX,h.lF,h.lL,h.lP,h.lA,h.lE⟩,?_,h.lH⟩,bU.set (by grind)⟩;rw[dD h.head 4 (I x)];simp
theorem bu.turn {w2:World} (h:bu lo mb tt X w S k) {j:Nat} (hj:j<k.aj.length) {l:wO} {s:cO} {lab':Nat->jO}
  (hk:aM (fun b=>S.lab b=.aU j∨S.lab b=.aj∨S.lab b=.bk j) w w2) (hrow:w2.ownsRow lo 43 3 S.vP S.L.length ((S.L.set j l).flatMap eT)) (hs:kF lo w2 l s)
  (hb:∀b,lab' b≠.no->lo<=b/\b<w2.heap.size) (hlab:∀b c,S.lab b=c->c≠.no->c≠.bk j->c≠.aU j->lab' b=c) (hA:∀b,bQ l.va b->lab' b=.bk j) (hE:∀b,bQ l.vp b->lab' b=.aU j) :
  bu lo mb tt X w2 ⟨lab',S.vS,S.vF,S.vL,S.vP,S.L.set j l⟩ { k with aj:=k.aj.set j s } :=
 ⟨h.toKr.turn hj hk hrow hs hb hlab hA hE,hk.keep h.head (fun x=>by grind [lH]),hlab mb _ h.lH (by simp) (by simp) (by simp)⟩
theorem L1 (L:List wO) (j:Nat):L.set j (fZ L j)=L:=by
 grind [fZ,List.set_getElem_self,List.set_eq_of_length_le]
theorem bu.Z8 (h:bu lo mb tt X w S k) {j:Nat} (hj:j<k.aj.length) {g n cap:Nat} (hv:(fZ S.L j).vp=.slice (some (Ad g 0)) n cap) {i c:Nat} (hi:i<(ak k.aj j).aU.length) (hc:c<3) {e:bG} {u:Value} (he:bj e=(bj (aH (ak k.aj j).aU i)).set c u) :
  bu lo mb tt X (w.setCell (Ad g (i*3+c)) u) S { k with aj:=k.aj.set j (dG (ak k.aj j) ((ak k.aj j).aU.set i e)) }/\bU S w S (w.setCell (Ad g (i*3+c)) u):=by
 have hgl:S.lab g=.aU j:=h.lE j hj g (by rw[hv];rfl);have hk:aM (fun b=>b=g) w (w.setCell (Ad g (i*3+c)) u):=aM.set _ _ _ _ rfl;have z:∀{b:Nat} {c:jO},S.lab b=c->c≠.aU j->¬b=g:=fun e hc x=>hc (by grind)
 have hs:=h.each j hj;have hn:n=(ak k.aj j).aU.length:=by
  obtain⟨ao,c,e,_⟩:=aY hs.bC
  grind
 subst hn;have hr:=hs.bC;rw[hv] at hr;refine⟨?_,bU.set (by grind)⟩;have:=h.turn (w2:=w.setCell (Ad g (i*3+c)) u) hj (l:=fZ S.L j) (s:=dG (ak k.aj j) ((ak k.aj j).aU.set i e)) (lab':=S.lab) (hk.mono (fun b _ e=>.inl (by grind))) (by rw[L1];exact hk.row h.aj (fun b hb=>z (h.lP b hb) (by simp))) ⟨hs.live,hk.row hs.bk (fun b hb=>z (h.lA j hj b hb) (by simp)),?_⟩ (fun b hb=>⟨(h.rV b hb).1,iH (h.rV b hb).2 hk.size⟩) (fun b c e _ _ _=>e) (fun b hb=>h.lA j hj b hb) (fun b hb=>h.lE j hj b hb)
 · simp_all [L1]
 · have r2:=o6 hr (i*3+c) u;show World.ownsRow _ lo _ 3 (fZ S.L j).vp ((ak k.aj j).aU.set i e).length (((ak k.aj j).aU.set i e).flatMap bj);rw[iG,hv,nK bj 3 (fun _=>rfl) dW e c u hc _ i hi he];exact r2
def vM (S:dE) (j:Nat) (v:Value):Nat->jO:=fun b=>if v.ownBlock=some b then .aU j else S.lab b
theorem bu.XR {w1:World} (h:bu lo mb tt X w S k) {j:Nat} (hj:j<k.aj.length) {v:Value} {es:List bG} {pb n cap:Nat} (hP:S.vP=.slice (some (Ad pb 0)) n cap)
  (hk:aM (fun b=>S.lab b=.aU j) w w1) (hr:w1.ownsRow lo 45 3 v es.length (es.flatMap bj)) (hat:∀b,bQ v b->S.lab b=.aU j∨S.lab b=.no) :
  bu lo mb tt X (w1.setCell (Ad pb (j*3+2)) v) ⟨vM S j v,S.vS,S.vF,S.vL,S.vP,S.L.set j ⟨(fZ S.L j).lv,(fZ S.L j).va,v⟩⟩ { k with aj:=k.aj.set j (dG (ak k.aj j) es) } /\
  ((∀b,b<w.heap.size->bQ v b->S.lab b=.aU j)->bU S w ⟨vM S j v,S.vS,S.vF,S.vL,S.vP,S.L.set j ⟨(fZ S.L j).lv,(fZ S.L j).va,v⟩⟩ (w1.setCell (Ad pb (j*3+2)) v)):=by
 have hpl:S.lab pb=.aj:=h.lP pb (by rw[hP];rfl);have pN:aM (fun b=>b=pb) w1 (w1.setCell (Ad pb (j*3+2)) v):=aM.set _ _ _ _ rfl;have hs:=h.each j hj;have hl:=h.len;have hrl:∀b,bQ v b->lo<=b/\b<w1.heap.size:=fun b hb=>hr.lt b hb
 have hlab:∀b c,S.lab b=c->c≠.no->c≠.aU j->vM S j v b=c:=fun b c e h1 h2=>by
  unfold vM;rw[bf,e];intro x;rcases hat b x with y | y
  · grind
  grind
 have hn:n=S.L.length:=by
  obtain⟨ao,c,e,_⟩:=aY h.aj
  grind
 subst hn;have hr1:=hk.row h.aj (fun b hb e=>by rw[h.lP b hb] at e;simp at e);rw[hP] at hr1;have hr2:=o6 hr1 (j*3+2) v;rw[<- nK eT 3 (fun _=>rfl) LO ⟨(fZ S.L j).lv,(fZ S.L j).va,v⟩ 2 v (by omega) S.L j (by omega) rfl] at hr2;have hsz:=gy hk.size pN.size;refine⟨h.turn hj (l:=⟨(fZ S.L j).lv,(fZ S.L j).va,v⟩) (s:=dG (ak k.aj j) es) (lab':=vM S j v) ((hk.mono (D1:=fun b=>S.lab b=.aU j∨S.lab b=.aj∨S.lab b=.bk j) (fun b _ e=>.inl e)).trans pN (fun b _ e=>.inr (.inl (by grind)))) (by grind) ⟨hs.live,?_,?_⟩ ?_ (fun b c e h1 _ h3=>hlab b c e h1 h3) (fun b hb=>hlab b _ (h.lA j hj b hb) (by simp) (by simp)) (fun b hb=>aR hb),fun hold=>⟨?_,?_,rfl,rfl,rfl,rfl⟩⟩
 · exact pN.row (hk.row hs.bk (fun b hb e=>by rw[h.lA j hj b hb] at e;simp at e)) (fun b hb e=>by have:=h.lA j hj b hb;grind)
 · exact pN.row hr (fun b hb e=>by
    subst e;rcases hat b hb with y | y <;> · grind)
 · intro b hb;unfold vM at hb;by_cases c:v.ownBlock=some b
   · exact⟨(hrl b c).1,iH (hrl b c).2 pN.size⟩
   · rw[bf c] at hb;exact⟨(h.rV b hb).1,iH (h.rV b hb).2 hsz⟩
 · exact(hk.mono (fun b _ e=>by grind)).trans pN (fun b _ e=>by grind)
 · intro b hb hno;show vM S j v b=.no;unfold vM;rw[bf,hno];intro x;have:=hold b hb x
   grind
open Go.RowKit
theorem nD {α:Type} (d:α):∀(l m:List α),l.length=m.length->(∀i,i<l.length->l.getD i d=m.getD i d)->l=m
 | [],[],_,_=>rfl
 | [],b::r,h,_=>by simp at h
 | a::r,[],h,_=>by simp at h
 | a::r,b::t,h,g=>by
  have h0:a=b:=g 0 (Kh _);have h1:=nD d r t (by grind) (fun i hi=>g (i+1) (Kg hi))
  grind
def Df (f:jm) (d:Int):jm:=if f.refs+d=0 then eW else ⟨f.data,f.refs+d,f.eX,f.seen⟩
def De (f:lD) (d:Int):lD:=if f.refs+d=0 then jS else ⟨f.data,f.refs+d⟩
def jr (k:aN) (e:bG) (d:Int):aN:=if e.kind=1 then { k with frames:=k.frames.set e.loc.toNat (Df (au k.frames e.loc.toNat) d) } else { k with slots:=k.slots.set e.loc.toNat (De (br k.slots e.loc.toNat) d) }
theorem Cx (k:aN) (e:bG):jr k e (-1)=cK k e:=by
 rfl
theorem AW (k:aN) (e:bG):(cK k e).aj=k.aj:=by grind [cK]
theorem N1 (k:aN) (e:bG):(cK k e).aD=k.aD/\(cK k e).hand=k.hand:=by grind [cK]
theorem Re (k:aN) (e:bG):(cK k e).frames.length=k.frames.length/\(cK k e).slots.length=k.slots.length:=by
 grind [cK]
def mi (k:aN) (j:Nat) (es:List bG):aN:={ k with aj:=k.aj.set j (dG (ak k.aj j) es) }
theorem N0 (k:aN) (j:Nat) (es:List bG) (e:bG):cK (mi k j es) e=mi (cK k e) j es:=by grind [cK,mi]
theorem Q6 (k:aN) (j:Nat) (hj:j<k.aj.length) (es fs:List bG):mi (mi k j es) j fs=mi k j fs:=by
 unfold mi;simp only[pF];rw[lO _ _ _ _ hj,aR rfl];rfl
theorem Q7 (k:aN) (j:Nat) (hj:j<k.aj.length):mi k j (ak k.aj j).aU=k:=by
 unfold mi;have:k.aj.set j (dG (ak k.aj j) (ak k.aj j).aU)=k.aj:=nD sM _ _ iG (fun i hi=>by
  have:=lO k.aj j i (dG (ak k.aj j) (ak k.aj j).aU) hj;unfold ak at this ⊢;rw[this];by_cases c:j=i
  · rw[aR c,c];rfl
  grind)
 rw[this]
theorem Wx (k:aN) (j:Nat) (hj:j<k.aj.length) (es:List bG):(ak (mi k j es).aj j).aU=es:=by
 show(ak (k.aj.set j _) j).aU=es;rw[lO _ _ _ _ hj,aR rfl];rfl
def dH (k:aN) (es:List bG) (p:bG->Bool):Nat->aN
 | 0=>k
 | n+1=>if p (aH es n) then cK (dH k es p n) (aH es n) else dH k es p n
def j4 (es:List bG) (p:bG->Bool):List bG:=es.filter fun e=>!p e
def jy (k:aN) (j:Nat) (p:bG->Bool):aN:=mi (dH k (ak k.aj j).aU p (ak k.aj j).aU.length) j (j4 (ak k.aj j).aU p)
theorem lG (k:aN) (es:List bG) (p:bG->Bool):∀n,(dH k es p n).aj=k.aj
 | 0=>rfl
 | n+1=>by
  unfold dH;split
  · rw[AW,lG k es p n]
  · exact lG k es p n
theorem Cw (k:aN) (es:List bG) (p:bG->Bool):∀n,(dH k es p n).aD=k.aD/\(dH k es p n).hand=k.hand/\(dH k es p n).frames.length=k.frames.length/\(dH k es p n).slots.length=k.slots.length
 | 0=>⟨rfl,rfl,rfl,rfl⟩
 | n+1=>by
  have ih:=Cw k es p n
  grind [dH,N1,Re]
theorem Rl (es:List bG) (n:Nat) (h:n<es.length):es.drop n=aH es n::es.drop (n+1):=by
 grind [List.drop_eq_getElem_cons,aH]
theorem Rh (es:List bG) (p:bG->Bool) (n:Nat) (h:n<es.length):j4 (es.take (n+1)) p=j4 (es.take n) p++(if p (aH es n) then [] else [aH es n]):=by
 grind [j4,vO]
theorem xe {k:aN} (h:bc k) {j:Nat} (hj:j<k.aj.length) (p:bG->Bool):∀n,n<=(ak k.aj j).aU.length->bc (mi (dH k (ak k.aj j).aU p n) j (j4 ((ak k.aj j).aU.take n) p++(ak k.aj j).aU.drop n))
 | 0,_=>by
  have:j4 ((ak k.aj j).aU.take 0) p++(ak k.aj j).aU.drop 0=(ak k.aj j).aU:=rfl;rw[this];show bc (mi k j (ak k.aj j).aU)
  grind [Q7]
 | n+1,hn=>by
  have ih:=xe h hj p n (by omega);have hlt:n<(ak k.aj j).aU.length:=by omega
  have MV:j<(dH k (ak k.aj j).aU p n).aj.length:=by grind [lG]
  rw[Rl _ n hlt] at ih;rw[Rh _ p n hlt];unfold dH;cases g:p (aH (ak k.aj j).aU n) with
  | true =>
   rw[aR rfl,aR rfl,E2];have hj2:j<(mi (dH k (ak k.aj j).aU p n) j (j4 ((ak k.aj j).aU.take n) p++aH (ak k.aj j).aU n::(ak k.aj j).aU.drop (n+1))).aj.length:=by
    show j<List.length (List.set _ _ _)
    grind
   have:=Rm ih hj2 (Wx _ j MV _);have e:sS (mi (dH k (ak k.aj j).aU p n) j (j4 ((ak k.aj j).aU.take n) p++aH (ak k.aj j).aU n::(ak k.aj j).aU.drop (n+1))) j (j4 ((ak k.aj j).aU.take n) p++(ak k.aj j).aU.drop (n+1)) (aH (ak k.aj j).aU n)=mi (cK (dH k (ak k.aj j).aU p n) (aH (ak k.aj j).aU n)) j (j4 ((ak k.aj j).aU.take n) p++(ak k.aj j).aU.drop (n+1)):=by
    show cK (mi (mi _ j _) j _) _=_
    grind [Q6,N0]
   grind
  | false =>
   grind
theorem JT {k:aN} (h:bc k) {j:Nat} (hj:j<k.aj.length) (p:bG->Bool):bc (jy k j p):=by
 have:=xe h hj p _ (aI _);rw[qd,List.drop_length,E2] at this;exact this
theorem zi (k:aN) (j:Nat) (p:bG->Bool):(jy k j p).aj=k.aj.set j (dG (ak k.aj j) (j4 (ak k.aj j).aU p)):=by
 show((dH k (ak k.aj j).aU p _).aj).set j _=_;rw[lG]
theorem Mg (k:aN) (j:Nat) (p:bG->Bool):(jy k j p).aD=k.aD/\(jy k j p).hand=k.hand/\(jy k j p).frames.length=k.frames.length/\(jy k j p).slots.length=k.slots.length:=Cw k _ p _
theorem EC (k:aN) (i:Nat) (es:List bG):∀n,∃x,(dH k es (iu (i:Int)) n).frames=k.frames.set i x/\(dH k es (iu (i:Int)) n).slots=k.slots
 | 0=>⟨au k.frames i,by
   show k.frames=_;refine(nD eW _ _ iG (fun m hm=>?_)).symm;rw[iG] at hm;by_cases c:i=m
   · subst c;rw[eD _ _ _ _ hm];rfl
   grind,rfl⟩
 | n+1=>by
  obtain⟨x,h1,h2⟩:=EC k i es n
  grind [dH,uJ,cK,List.set_set]
def jw (k:aN) (i:Nat):Nat->aN
 | 0=>k
 | n+1=>jy (jw k i n) n (iu (i:Int))
theorem vQ {k:aN} (h:bc k) (i:Nat):∀n,n<=k.aj.length->bc (jw k i n)/\(jw k i n).aD=k.aD/\(jw k i n).hand=k.hand/\(∃x,(jw k i n).frames=k.frames.set i x)/\(jw k i n).slots=k.slots/\(jw k i n).aj.length=k.aj.length/\∀m,m<k.aj.length->ak (jw k i n).aj m=if m<n then kU i (ak k.aj m) else ak k.aj m
 | 0,_=>by
  obtain⟨x,hx,_⟩:=EC k i [] 0;exact⟨h,rfl,rfl,⟨x,hx⟩,rfl,rfl,fun m _=>by rfl⟩
 | n+1,hn=>by
  obtain⟨r,h1,h2,⟨x,h3⟩,h4,h5,h6⟩:=vQ h i n (by omega);have hj:n<(jw k i n).aj.length:=by omega
  have fr:=Mg (jw k i n) n (iu (i:Int));obtain⟨y,c1,c2⟩:=EC (jw k i n) i (ak (jw k i n).aj n).aU (ak (jw k i n).aj n).aU.length;refine⟨JT r hj _,fr.1.trans h1,fr.2.1.trans h2,⟨y,?_⟩,?_,?_,fun m hm=>?_⟩
  · show(dH _ _ _ _).frames=_
    simp_all
  · show(dH _ _ _ _).slots=_
    grind
  · show(jy _ _ _).aj.length=_
    grind [zi]
  · show ak (jy _ _ _).aj m=_;rw[zi,lO _ _ _ _ hj];by_cases c:n=m
    · subst c;rw[aR rfl,aR (by omega),h6 n hm,bf (by omega)];rfl
    grind
theorem Uf {k:aN} (h:bc k) {i:Nat} (hi:i<k.frames.length):jw k i k.aj.length=uK k i:=by
 obtain⟨r,h1,h2,⟨x,h3⟩,h4,h5,h6⟩:=vQ h i k.aj.length (aI _);have hs:(jw k i k.aj.length).aj=k.aj.map (kU i):=by
  refine nD sM _ _ (by grind) (fun m hm=>?_)
  grind [ak]
 have hf:=r.yS i (by grind);have hz:ck (jw k i k.aj.length).aj 1 i=[]:=by
  rw[hs];exact nT _ _ _ _ (fun s _=>uo s.bk i s.aU)
 have hx:x=eW:=by
  grind [au,kI.zero]
 have:∀a b:aN,a.aD=b.aD->a.frames=b.frames->a.slots=b.slots->a.aj=b.aj->a.hand=b.hand->a=b:=fun a b e1 e2 e3 e4 e5=>by
  cases a;simp_all
 exact this _ _ h1 (by rw[h3,hx];rfl) h4 hs h2
theorem Pf {k:aN} (h:bc k) {i:Nat} (hi:i<k.frames.length) {j:Nat} (hj:j<k.aj.length) {a b:Nat} (ha:a<(ak k.aj j).aU.length) (hb:b<(ak k.aj j).aU.length) (h1:iu (i:Int) (aH (ak k.aj j).aU a)=true) (h2:iu (i:Int) (aH (ak k.aj j).aU b)=true):a=b:=by
 have rZ:=jb hj (jc (d:=dW) ha);have hm2:=jb hj (jc (d:=dW) hb);have g1:=uJ.1 h1;have g2:=uJ.1 h2;unfold aH at g1 g2;rw[g1.1,g1.2] at rZ;rw[g2.1,g2.2] at hm2;have e:=(h.yS i hi).one _ rZ _ hm2;injection e with e _;have hr:=(h.sp hj).kP
 grind [List.pairwise_iff_getElem]
theorem NR (i s:Int) (es:List bG) (n:Nat) (hn:n<es.length) (h:iu i (aH es n)=true) (ho:∀m,m<es.length->iu i (aH es m)=true->m=n):es.set n ⟨(aH es n).page,2,s⟩=iJ i s es:=by
 refine nD dW _ _ (by grind [iJ]) (fun m hm=>?_)
 grind [iJ,aH]
theorem Q0 (i s:Int) (es:List bG) (h:∀m,m<es.length->iu i (aH es m)=false):iJ i s es=es:=by
 refine nD dW _ _ (by grind [iJ]) (fun m hm=>?_)
 grind [iJ,aH]
open Go.RowKit
def eu (k:aN) (es:List bG):Nat->aN
 | 0=>k
 | n+1=>jr (eu k es n) (aH es n) 1
def qV (k:aN) (j:Nat):aN:={ eu k (ak k.aj j).aU (ak k.aj j).aU.length with aj:=(eu k (ak k.aj j).aU (ak k.aj j).aU.length).aj++[ak k.aj j] }
def wZ (f:jm) (c:Nat):jm:=⟨f.data,f.refs+c,f.eX,f.seen⟩
def wY (f:lD) (c:Nat):lD:=⟨f.data,f.refs+c⟩
theorem NZ (f:jm):wZ f 0=f:=by simp[wZ]
theorem NY (f:lD):wY f 0=f:=by simp[wY]
theorem wT {k:aN} (h:bc k) {j:Nat} (hj:j<k.aj.length):∀m,m<=(ak k.aj j).aU.length->(eu k (ak k.aj j).aU m).aD=k.aD/\(eu k (ak k.aj j).aU m).hand=k.hand/\(eu k (ak k.aj j).aU m).aj=k.aj/\(eu k (ak k.aj j).aU m).frames.length=k.frames.length/\(eu k (ak k.aj j).aU m).slots.length=k.slots.length /\
  (∀n,n<k.frames.length->au (eu k (ak k.aj j).aU m).frames n=wZ (au k.frames n) (iP (ak k.aj j).bk 1 n ((ak k.aj j).aU.take m)).length) /\
  (∀n,n<k.slots.length->br (eu k (ak k.aj j).aU m).slots n=wY (br k.slots n) (iP (ak k.aj j).bk 2 n ((ak k.aj j).aU.take m)).length)
 | 0,_=>⟨rfl,rfl,rfl,rfl,rfl,fun n _=>(NZ _).symm,fun n _=>(NY _).symm⟩
 | m+1,hm=>by
  obtain⟨h1,h2,h3,h4,h5,h6,h7⟩:=wT h hj m (by omega);have hlt:m<(ak k.aj j).aU.length:=by omega
  have hin:aH (ak k.aj j).aU m∈(ak k.aj j).aU:=jc hlt;rw[vO _ m hlt];obtain⟨e,he⟩:=ex (aH (ak k.aj j).aU m);obtain⟨q,hq⟩:=ex (eu k (ak k.aj j).aU m);rw[<- he] at hin ⊢;have hs:eu k (ak k.aj j).aU (m+1)=jr q e 1:=by rw[hq,he];rfl
  rw[<- hq] at h1 h2 h3 h4 h5 h6 h7;rw[hs];have amB:∀(f:jm) (a b:Nat),wZ (wZ f a) b=wZ f (a+b):=fun f a b=>by grind [wZ]
  have amA:∀(f:lD) (a b:Nat),wY (wY f a) b=wY f (a+b):=fun f a b=>by grind [wY]
  rcases ic h hj hin with b | b
  · have hc:jr q e 1={ q with frames:=q.frames.set e.loc.toNat (Df (au q.frames e.loc.toNat) 1) }:=by grind [jr]
    rw[hc];refine⟨h1,h2,h3,by grind,h5,fun n hn=>?_,fun n hn=>?_⟩
    · show au (q.frames.set _ _) n=_;rw[iD _ _ _ _ (by omega),kH,fk];by_cases c:e.loc.toNat=n
      · rw[aR c,ot _ (show e.kind=1/\e.loc=(n:Int) by omega),<- amB,<- h6 n hn,c];have hr:0<=(au q.frames n).refs:=by
         rw[h6 n hn];have:=(h.yS n hn).refs;show 0<=(au k.frames n).refs+_;omega
        unfold Df;rw[bf (by omega)];rfl
      · rw[bf c,lQ _ (show ¬(e.kind=1/\e.loc=(n:Int)) by omega),h6 n hn];rfl
    grind [kH,lQ]
  · have hc:jr q e 1={ q with slots:=q.slots.set e.loc.toNat (De (br q.slots e.loc.toNat) 1) }:=by grind [jr]
    rw[hc];refine⟨h1,h2,h3,h4,by grind,fun n hn=>?_,fun n hn=>?_⟩
    · grind [kH,lQ]
    · show br (q.slots.set _ _) n=_;rw[uI _ _ _ _ (by omega),kH,fk];by_cases c:e.loc.toNat=n
      · rw[aR c,ot _ (show e.kind=2/\e.loc=(n:Int) by omega),<- amA,<- h7 n hn,c];have hr:0<=(br q.slots n).refs:=by
         rw[h7 n hn];have:=(h.slt n hn).refs;show 0<=(br k.slots n).refs+_;omega
        unfold De;rw[bf (by omega)];rfl
      · rw[bf c,lQ _ (show ¬(e.kind=2/\e.loc=(n:Int)) by omega),h7 n hn];rfl
open Go.RowKit
theorem lq {es:List bG} {p:Int} {e:bG} (h:bD es p=some e):e∈es:=Kz h
theorem Uj {es:List bG} {p:Int} {e:bG} (h:bD es p=some e):e.page=p:=by
 have:=List.find?_some h
 grind
theorem Wy {a b:aN} {m n:Nat} {p:Int} (hE:bD (ak a.aj m).aU p=bD (ak b.aj n).aU p) (hd:∀x,bD (ak a.aj m).aU p=some x->(x.kind=1->(au a.frames x.loc.toNat).data=(au b.frames x.loc.toNat).data)/\(x.kind≠1->(br a.slots x.loc.toNat).data=(br b.slots x.loc.toNat).data)) (hf:bD (ak a.aj m).aU p=none->dY a.aD p (bh (ak a.aj m).bk p).1.zero=dY b.aD p (bh (ak b.aj n).bk p).1.zero):dO a m p=dO b n p:=by
 grind [dO]
theorem Q5 (l:List cO) (s:cO) (m:Nat):ak (l++[s]) m=if m<l.length then ak l m else if m=l.length then s else sM:=by
 grind [ak]
open Go.RowKit
variable {lo mb:Nat} {tt:TypeId} {X:List Value} {w:World} {S:dE} {k:aN}
theorem zW (L:List wO) (l:wO) (k:Nat):fZ (L++[l]) k=if k<L.length then fZ L k else if k=L.length then l else LO:=by
 grind [fZ]
def sK (S:dE) (v:Value) (l:wO):Nat->jO:=fun b=>if v.ownBlock=some b then .aj else if l.va.ownBlock=some b then .bk S.L.length else if l.vp.ownBlock=some b then .aU S.L.length else S.lab b
theorem bu.push {w2 w4:World} {v':Value} {l:wO} {s:cO} {O:Obj} (h:bu lo mb tt X w S k) (hlo:lo<=w.heap.size) (hb2:Below w.heap.size w w2)
  (hso:kF w.heap.size w2 l s) (hne:∀b,bQ l.vp b->¬bQ l.va b) (hgr:(w2.alloc O).grownBy w4 S.vP.ownBlock) (hown:w4.ownsRow lo 43 3 v' (S.L.length+1) (S.L.flatMap eT++eT l))
  (hat:v'.ownBlock=S.vP.ownBlock∨v'.ownBlock=some (w2.alloc O).heap.size) :
  bu lo mb tt X (w4.setCell (Ad mb 3) v') ⟨sK S v' l,S.vS,S.vF,S.vL,v',S.L++[l]⟩ { k with aj:=k.aj++[s] }/\(∀b,b<w.heap.size->S.lab b=.no->sK S v' l b=.no)/\aM (fun b=>S.lab b≠.no) w (w4.setCell (Ad mb 3) v'):=by
 have s1:=hb2.size;have s2:=hgr.size;have hz:(w2.alloc O).heap.size=w2.heap.size+1:=ig _ _;rw[hz] at s2 hat
 have kA:aM (bQ S.vP) w w2:=aM.cH hb2;have kB:aM (bQ S.vP) w2 (w2.alloc O):=aM.alloc _ w2 O;have kC:aM (bQ S.vP) (w2.alloc O) w4:=aM.grown hgr (fun _ e=>e);have kD:=kA.trans (kB.trans kC (fun _ _ g=>g)) (fun _ _ g=>g);have pN:aM (fun b=>b=mb) w4 (w4.setCell (Ad mb 3) v'):=aM.set _ _ _ _ rfl;have eA:∀b,bQ l.va b∨bQ l.vp b->w.heap.size<=b/\b<w2.heap.size:=fun b hb=>by
  rcases hb with g | g
  · exact hso.bk.lt b g
  · exact hso.bC.lt b g
 have hvb:∀b,bQ S.vP b->b<w.heap.size:=fun b hb=>(h.aj.lt b hb).2
 have hv4:∀b,bQ v' b->bQ S.vP b∨b=w2.heap.size+1:=fun b hb=>by
  grind [bQ]
 have hmb:=aT h.head;have old:∀b c,S.lab b=c->c≠.no->c≠.aj->sK S v' l b=c:=fun b c e h1 h2=>by
  have hb:=(h.rV b (by grind)).2;unfold sK;rw[bf,bf,bf,e]
  · intro x;have:=eA b (.inr x);omega
  · intro x;have:=eA b (.inl x);omega
  · intro x;rcases hv4 b x with g | g
    · exact h2 (by rw[<- e];exact h.lP b g)
    · omega
 have zD:∀{b:Nat} {c:jO},S.lab b=c->c≠.aj->¬bQ S.vP b:=fun e hc x=>hc (by rw[<- e];exact h.lP _ x)
 have zH:∀{b:Nat} {c:jO},S.lab b=c->c≠.head->¬b=mb:=fun e hc x=>hc (by rw[<- e,x];exact h.lH)
 have row:∀{e:TypeId} {n m:Nat} {v:Value} {xs:List Value},w.ownsRow lo e n v m xs->(∀b,bQ v b->¬bQ S.vP b/\¬b=mb)->(w4.setCell (Ad mb 3) v').ownsRow lo e n v m xs:=fun hr hq=>pN.row (kD.row hr (fun b hb=>(hq b hb).1)) (fun b hb=>(hq b hb).2)
 have hle:(S.L++[l]).length=S.L.length+1:=by simp
 have hlen:=h.len;refine⟨⟨⟨fun b hb=>?_,row h.aD (fun b hb=>⟨zD (h.lS b hb) (by simp),zH (h.lS b hb) (by simp)⟩),fun i hi=>row (h.cM i hi) (fun b hb=>⟨zD (h.lX i hi b hb) (by simp),zH (h.lX i hi b hb) (by simp)⟩),row h.frames (fun b hb=>⟨zD (h.lF b hb) (by simp),zH (h.lF b hb) (by simp)⟩),row h.slots (fun b hb=>⟨zD (h.lL b hb) (by simp),zH (h.lL b hb) (by simp)⟩),?_,?_,fun i hi=>?_,fun b hb=>old b _ (h.lS b hb) (by simp) (by simp),fun i hi b hb=>old b _ (h.lX i hi b hb) (by simp) (by simp),fun b hb=>old b _ (h.lF b hb) (by simp) (by simp),fun b hb=>old b _ (h.lL b hb) (by simp) (by simp),fun b hb=>aR hb,fun i hi b hb=>?_,fun i hi b hb=>?_⟩,?_,old mb _ h.lH (by simp) (by simp)⟩,fun b hb e=>?_,?_⟩
 · have hb:sK S v' l b≠.no:=hb;have hs4:(w4.setCell (Ad mb 3) v').heap.size=w4.heap.size:=by simp
   rw[hs4];unfold sK at hb;by_cases c:v'.ownBlock=some b
   · exact hown.lt b c
   · rw[bf c] at hb;by_cases d:l.va.ownBlock=some b
     · have:=eA b (.inl d);omega
     · rw[bf d] at hb;by_cases e:l.vp.ownBlock=some b
       · have:=eA b (.inr e);omega
       · rw[bf e] at hb;have:=h.rV b hb;omega
 · show World.ownsRow _ lo _ 3 v' (S.L++[l]).length _;rw[hle,qg];have:w4.ownsRow lo 43 3 v' (S.L.length+1) (S.L.flatMap eT++[l].flatMap eT):=by grind
   exact pN.row this (fun b hb e=>by
    rcases hv4 b hb with g | g
    · grind
    · omega)
 · grind
 · have hi:i<(k.aj++[s]).length:=hi;rw[fk,vt] at hi;show kF lo _ (fZ (S.L++[l]) i) (ak (k.aj++[s]) i);rw[zW,Q5,hlen];by_cases c:i<k.aj.length
   · rw[aR c,aR c];exact((h.each i c).kp kD (fun b hb=>zD (h.lA i c b hb) (by simp)) (fun b hb=>zD (h.lE i c b hb) (by simp))).kp pN (fun b hb=>zH (h.lA i c b hb) (by simp)) (fun b hb=>zH (h.lE i c b hb) (by simp))
   · have e:i=k.aj.length:=by omega
     rw[bf c,bf c,aR e,aR e];refine((hso.mono hlo).kp (kB.trans kC (fun _ _ g=>g)) (fun b hb g=>?_) (fun b hb g=>?_)).kp pN (fun b hb e=>?_) (fun b hb e=>?_)
     · grind
     · grind
     · grind
     grind
 · have hi:i<(k.aj++[s]).length:=hi;rw[fk,vt] at hi;have hb:bQ (fZ (S.L++[l]) i).va b:=hb;rw[zW,hlen] at hb;by_cases c:i<k.aj.length
   · rw[aR c] at hb;exact old b _ (h.lA i c b hb) (by simp) (by simp)
   · have e:i=k.aj.length:=by omega
     rw[bf c,aR e] at hb;have hx:=eA b (.inl hb);show sK S v' l b=.bk i;unfold sK;rw[bf,aR (show l.va.ownBlock=some b from hb),e,hlen];intro x;rcases hv4 b x with g | g
     · grind
     · omega
 · have hi:i<(k.aj++[s]).length:=hi;rw[fk,vt] at hi;have hb:bQ (fZ (S.L++[l]) i).vp b:=hb;rw[zW,hlen] at hb;by_cases c:i<k.aj.length
   · rw[aR c] at hb;exact old b _ (h.lE i c b hb) (by simp) (by simp)
   · have e:i=k.aj.length:=by omega
     rw[bf c,aR e] at hb;have hx:=eA b (.inr hb);show sK S v' l b=.aU i;unfold sK;rw[bf,bf (show ¬l.va.ownBlock=some b from hne b hb),aR (show l.vp.ownBlock=some b from hb),e,hlen];intro x;rcases hv4 b x with g | g
     · grind
     · omega
 · have:w4.heap[mb]?=some (.cells ([S.vS,S.vF,S.vL,S.vP,I k.hand]++X).toArray tt (0,0)):=kD.keep h.head (fun x=>by grind);rw[dD this 3 v'];simp
 · unfold sK;rw[bf,bf,bf,e]
   · intro x;have:=eA b (.inr x);omega
   · intro x;have:=eA b (.inl x);omega
   · intro x;rcases hv4 b x with g | g
     · grind
     · omega
 · exact(kD.mono (fun b _ g=>by grind)).trans pN (fun b _ e=>by grind)
open Go.RowKit
variable {lo mb:Nat} {tt:TypeId} {X:List Value} {w:World} {S:dE} {k:aN}
theorem bu.c0 (h:bu lo mb tt X w S k):w.cell? (Ad mb 0)=some S.vS:=aB h.head 0 (by simp)
theorem bu.c1 (h:bu lo mb tt X w S k):w.cell? (Ad mb 1)=some S.vF:=aB h.head 1 (by simp)
theorem bu.c2 (h:bu lo mb tt X w S k):w.cell? (Ad mb 2)=some S.vL:=aB h.head 2 (by simp)
theorem bu.c3 (h:bu lo mb tt X w S k):w.cell? (Ad mb 3)=some S.vP:=aB h.head 3 (by simp)
theorem bu.c4 (h:bu lo mb tt X w S k):w.cell? (Ad mb 4)=some (I k.hand):=aB h.head 4 (by simp)
theorem bu.cx (h:bu lo mb tt X w S k) (n:Nat) {v:Value} (hv:X[n]?=some v):w.cell? (Ad mb (5+n))=some v:=aB h.head (5+n) (by
 grind)
theorem bu.free (h:bu lo mb tt X w S k) (j:Nat):w.frozen? (Ad mb j)=false:=aO h.head j
theorem bu.lt (h:bu lo mb tt X w S k):mb<w.heap.size:=aT h.head
theorem bu.lo_le (h:bu lo mb tt X w S k):lo<=mb:=(h.rV mb (by grind [lH])).1
structure xW (w:World) (S:dE) (k:aN) (fb cF:Nat):Prop where
 v:S.vF=.slice (some (Ad fb 0)) k.frames.length cF
 x0:∀i,i<k.frames.length->w.cell? (Ad fb (i*4))=some (.string (au k.frames i).data)
 x1:∀i,i<k.frames.length->w.cell? (Ad fb (i*4+1))=some (I (au k.frames i).refs)
 x2:∀i,i<k.frames.length->w.cell? (Ad fb (i*4+2))=some (.bool (au k.frames i).eX)
 x3:∀i,i<k.frames.length->w.cell? (Ad fb (i*4+3))=some (.bool (au k.frames i).seen)
 fz:∀j,w.frozen? (Ad fb j)=false
 lt:fb<w.heap.size
 lab:S.lab fb=.frames
 cap:k.frames.length<=cF
theorem Kr.fr (h:Kr lo w S k) (hn:0<k.frames.length):∃fb cF,xW w S k fb cF:=by
 obtain⟨ao,cap,e,hc,hg⟩:=aY h.frames;obtain⟨g,rfl,hg1,hg2⟩:=hg hn;have hr:=h.frames;rw[e] at hr;have at_:=fun i (hi:i<k.frames.length) j (hj:j<4)=>jJ fB (fun _=>rfl) eW hr i j hi hj
 exact⟨g,cap,e,fun i hi=>at_ i hi 0 (by omega),fun i hi=>at_ i hi 1 (by omega),fun i hi=>at_ i hi 2 (by omega),fun i hi=>at_ i hi 3 (by omega),gp hr,hg2,h.lF g (by rw[e];rfl),hc⟩
structure Yt (w:World) (S:dE) (k:aN) (fb cF:Nat):Prop where
 v:S.vL=.slice (some (Ad fb 0)) k.slots.length cF
 x0:∀i,i<k.slots.length->w.cell? (Ad fb (i*2))=some (.string (br k.slots i).data)
 x1:∀i,i<k.slots.length->w.cell? (Ad fb (i*2+1))=some (I (br k.slots i).refs)
 fz:∀j,w.frozen? (Ad fb j)=false
 lt:fb<w.heap.size
 lab:S.lab fb=.slots
theorem Kr.sl (h:Kr lo w S k) (hn:0<k.slots.length):∃fb cF,Yt w S k fb cF:=by
 obtain⟨ao,cap,e,hc,hg⟩:=aY h.slots;obtain⟨g,rfl,hg1,hg2⟩:=hg hn;have hr:=h.slots;rw[e] at hr;have at_:=fun i (hi:i<k.slots.length) j (hj:j<2)=>jJ fA (fun _=>rfl) jS hr i j hi hj
 exact⟨g,cap,e,fun i hi=>at_ i hi 0 (by omega),fun i hi=>at_ i hi 1 (by omega),gp hr,hg2,h.lL g (by rw[e];rfl)⟩
structure acX (w:World) (S:dE) (k:aN) (pb cP:Nat):Prop where
 v:S.vP=.slice (some (Ad pb 0)) k.aj.length cP
 x0:∀i,i<k.aj.length->w.cell? (Ad pb (i*3))=some (.bool (ak k.aj i).live)
 x1:∀i,i<k.aj.length->w.cell? (Ad pb (i*3+1))=some (fZ S.L i).va
 x2:∀i,i<k.aj.length->w.cell? (Ad pb (i*3+2))=some (fZ S.L i).vp
 fz:∀j,w.frozen? (Ad pb j)=false
 lt:pb<w.heap.size
 lab:S.lab pb=.aj
theorem Kr.sp (h:Kr lo w S k) (hn:0<k.aj.length):∃pb cP,acX w S k pb cP:=by
 obtain⟨ao,cap,e,hc,hg⟩:=aY h.aj;have hl:=h.len;obtain⟨g,rfl,hg1,hg2⟩:=hg (by omega);have hr:=h.aj;rw[e] at hr;have at_:=fun i (hi:i<k.aj.length) j (hj:j<3)=>jJ eT (fun _=>rfl) LO hr i j (by omega) hj
 exact⟨g,cap,by grind,fun i hi=>by rw[<- (h.each i hi).live];exact at_ i hi 0 (by omega),fun i hi=>at_ i hi 1 (by omega),fun i hi=>at_ i hi 2 (by omega),gp hr,hg2,h.lP g (by rw[e];rfl)⟩
theorem Kr.aU (h:Kr lo w S k) {i:Nat} (hi:i<k.aj.length):∃ae ce,(fZ S.L i).vp=.slice ae (ak k.aj i).aU.length ce/\cJ bj 3 dW w ae (ak k.aj i).aU:=by
 obtain⟨ae,ce,e,_,hr⟩:=mL bj (fun _=>rfl) dW (h.each i hi).bC
 grind
theorem Kr.bk (h:Kr lo w S k) {i:Nat} (hi:i<k.aj.length):fu w (fZ S.L i).va (ak k.aj i).bk:=(h.each i hi).bk.has
open Go.RowKit
open Go.RowKit
theorem rC {k:aN} (h:bc k) {j j0:Nat} (hj:j<k.aj.length) (SY:j0<k.aj.length) {p q:Int} {a b:Nat} (h1:bD (ak k.aj j).aU p=some ⟨p,1,a⟩) (h2:bD (ak k.aj j0).aU q=some ⟨q,1,b⟩) (hpq:q≠p):a≠b:=fun e=>by
 subst e;have m1:=jb hj (lq h1);have m2:=jb SY (lq h2);have hb:=ic h hj (lq h1);have hlt:a<k.frames.length:=by
  grind
 have:=(h.yS a hlt).one _ m1 _ m2
 grind
theorem xd {k:aN} (h:bc k) {j0:Nat} (SY:j0<k.aj.length) {q:Int} {b:Nat} (h2:bD (ak k.aj j0).aU q=some ⟨q,1,b⟩):b<k.frames.length/\(au k.frames b).refs≠0:=by
 have m2:=jb SY (lq h2);have hb:=ic h SY (lq h2);have hlt:b<k.frames.length:=by
  grind
 refine⟨hlt,fun z=>?_⟩;have:=(h.yS b hlt).nil z
 grind
theorem JQ {k:aN} (h:bc k) {j:Nat} (hj:j<k.aj.length) {p:Int} (hp:dx k j p) {held:List Int} (hl:held.length<=2) {j0:Nat} (SY:j0<k.aj.length) {q:Int} {b:Nat} (h2:bD (ak k.aj j0).aU q=some ⟨q,1,b⟩) (hin:(b:Int)∈held) (hpq:q≠p):au (cI k j p held).2.frames b=au k.frames b:=by
 have hsp:=h.sp hj;have G:=ll h hl;have hH:=G.IJ b hin (xd h SY h2).2;unfold cI;cases g:bD (ak k.aj j).aU p with
 | none =>
  dsimp only;have hent:bD (ak (bE k held).2.aj j).aU p=none:=by grind [oC.Hf]
  have hj':j<(bE k held).2.aj.length:=by rw[G.kept.np];exact hj
  have m:je (bE k held).2 j p (bE k held).1 (dY (bE k held).2.aD p (jq (bE k held).2 j p)) false:=⟨G.right,hj',G.mapped hj hp,by rw[G.kept.nf];exact G.lt,G.free,Ac G.right hj' (G.mapped hj hp),fun _=>rfl⟩
  grind [mN]
 | some e =>
  have he:=(gh hsp.kP).1 g;dsimp only;by_cases c:e.kind=1
  · grind
  · rw[bf c];have hb:=(ic h hj he.1).resolve_left (fun y=>c y.1);have hent:bD (ak (bE k held).2.aj j).aU p=some e:=by grind [oC.Hf]
    have hj':j<(bE k held).2.aj.length:=by rw[G.kept.np];exact hj
    have he':=(gh (G.right.sp hj').kP).1 hent;have hsz:(br (bE k held).2.slots e.loc.toNat).data.size=16:=(G.right.slt e.loc.toNat (by grind [oC.kept,fp.ns])).size (fun z=>by
     grind [jb])
    have m:je (bE k held).2 j p (bE k held).1 (br (bE k held).2.slots e.loc.toNat).data true:=⟨G.right,hj',G.mapped hj hp,by rw[G.kept.nf];exact G.lt,G.free,hsz,fun y=>by cases y⟩
    grind [mN]
theorem Ob {k:aN} (h:bc k) {j:Nat} (hj:j<k.aj.length) {p:Int} (hp:dx k j p) {a:Nat} (ha:bD (ak k.aj j).aU p=some ⟨p,1,a⟩) {held:List Int} (hl:held.length<=1) {j0:Nat} (SY:j0<k.aj.length) {q:Int} {b:Nat} (h2:bD (ak k.aj j0).aU q=some ⟨q,1,b⟩) (hin:(b:Int)∈held) (hpq:q≠p):au (iB k j p a held).2.frames b=au k.frames b:=by
 have hab:=rC h hj SY ha h2 hpq;have hat:=(xd h hj ha).1;unfold iB;by_cases c:(au k.frames a).refs=1
 · grind
 · rw[bf c];have G:=ll h (held:=held++[(a:Int)]) (by grind);have hH:=G.IJ b (kq.2 (.inl hin)) (xd h SY h2).2;obtain⟨g,hg⟩:=ex (bE k (held++[(a:Int)]));rw[<- hg] at G hH ⊢;have hent:bD (ak g.2.aj j).aU p=some ⟨p,1,a⟩:=G.stay h hj ha (fun _=>kq.2 (.inr (by simp)));have hj':j<g.2.aj.length:=by rw[G.kept.np];exact hj
   have he':=(gh (G.right.sp hj').kP).1 hent;have hsz:(au g.2.frames a).data.size=16:=(G.right.yS a (by rw[G.kept.nf];exact hat)).size (fun z=>by
    have:=jb hj' he'.1
    grind)
   have m:je g.2 j p g.1 (au g.2.frames a).data true:=⟨G.right,hj',G.mapped hj hp,by rw[G.kept.nf];exact G.lt,G.free,hsz,fun y=>by cases y⟩
   grind [mN]
theorem N4 {k:aN} (h:bc k) {j:Nat} (hj:j<k.aj.length) {p:Int} (hp:dx k j p) (way:Int) {held:List Int} (hl:held.length<=1) {j0:Nat} (SY:j0<k.aj.length) {q:Int} {b:Nat} (h2:bD (ak k.aj j0).aU q=some ⟨q,1,b⟩) (hin:(b:Int)∈held) (hpq:q≠p):au (cQ k j p way held).2.frames b=au k.frames b:=by
 have P:=sP h hj hp (held:=held) (by omega);have PH:=JQ h hj hp (held:=held) (by omega) SY h2 hin hpq;have hT:ft k j p held (fQ k j p way held)/\au (fQ k j p way held).2.frames b=au k.frames b:=by
  unfold fQ;by_cases c:way=1
  · rw[aR c];have A:=GL P.right (by rw[P.kept.np];exact hj) (P.kept.mapped hj hp) P.here hl;refine⟨P.trans A.1,?_⟩;rw[Ob P.right (by rw[P.kept.np];exact hj) (P.kept.mapped hj hp) P.here hl (by rw[P.kept.np];exact SY) (P.stay j0 SY q _ h2 rfl hin (fun x=>hpq x.2)) hin hpq];exact PH
  grind
 have T:=hT.1;have hne:=rC T.right (by rw[T.kept.np];exact hj) (by rw[T.kept.np];exact SY) T.here (T.stay j0 SY q _ h2 rfl hin (fun x=>hpq x.2)) hpq;show au ((fQ k j p way held).2.frames.set _ _) b=_
 grind [iD,ft.kept,fp.nf,ft.lt]
structure pX (k:aN) (j:Nat) (p:Int) (i:Nat):Prop where
 here:bD (ak k.aj j).aU p=some ⟨p,1,i⟩
 lt:i<k.frames.length
 refs:(au k.frames i).refs=1
 eX:(au k.frames i).eX=true
theorem L9 {k:aN} (h:bc k) {j:Nat} (hj:j<k.aj.length) (a n:Int) (h1:dx k j (a/16)) (h2:dx k j (cD a n)):pX (aW k j a n 1).2 j (a/16) (eH k j a 1).1/\(cD a n≠a/16->pX (aW k j a n 1).2 j (cD a n) (ir k j a n 1).1):=by
 have R:=nz h hj a n 1 h1 h2;obtain⟨A,A2⟩:=mj h hj h1 1 (held:=[]) (by simp);have A2:=A2 rfl;by_cases c:cD a n=a/16
 · have e:aW k j a n 1=([(eH k j a 1).1],(eH k j a 1).2):=by grind [aW]
   refine⟨?_,fun x=>absurd c x⟩;rw[e];exact⟨A.here,by have:=A.kept.nf;have:=A.lt;show(cQ k j (a/16) 1 []).1<(cQ k j (a/16) 1 []).2.frames.length;omega,A2.1,A2.2⟩
 · have hj':j<(eH k j a 1).2.aj.length:=by grind [eH,ft.kept,fp.np]
   have hm':=A.kept.mapped hj h2;obtain⟨B,B2⟩:=mj (k:=(eH k j a 1).2) A.right hj' hm' 1 (held:=[((eH k j a 1).1:Int)]) (by simp);have B2:=B2 rfl;have hh:=N4 (k:=(eH k j a 1).2) A.right hj' hm' 1 (held:=[((eH k j a 1).1:Int)]) (by simp) hj' A.here (by simp[eH]) (fun x=>c x.symm);have e:aW k j a n 1=([(eH k j a 1).1,(ir k j a n 1).1],(ir k j a n 1).2):=by grind [aW]
   have hB:ir k j a n 1=cQ (eH k j a 1).2 j (cD a n) 1 [((eH k j a 1).1:Int)]:=rfl;have hlen:(ir k j a n 1).2.frames.length=k.frames.length:=by rw[hB,B.kept.nf];exact A.kept.nf
   rw[e];refine⟨⟨?_,?_,?_,?_⟩,fun _=>⟨?_,?_,?_,?_⟩⟩
   · grind [eH,ft.stay,ft.here]
   · show(eH k j a 1).1<(ir k j a n 1).2.frames.length;rw[hlen];exact A.lt
   · grind [eH]
   · grind [eH]
   · exact B.here
   · show(ir k j a n 1).1<(ir k j a n 1).2.frames.length;rw[hlen];have:=B.lt
     grind [ft.kept,fp.nf]
   · grind
   grind
def sQ (k:aN) (i:Nat) (d:ByteArray):aN:={ k with frames:=k.frames.set i ⟨d,(au k.frames i).refs,(au k.frames i).eX,(au k.frames i).seen⟩ }
theorem yC {k:aN} (h:bc k) {j:Nat} (hj:j<k.aj.length) {p:Int} {i:Nat} (a:pX k j p i) {d:ByteArray} (hd:d.size=16):bc (sQ k i d):=by
 have hf:=h.yS i a.lt;refine h.frame ⟨hf.refs,fun e=>?_,hf.one,fun _=>hd,fun x=>?_⟩
 · have:=hf.refs
   grind [pX.refs]
 grind [pX.eX]
theorem Ab {k:aN} (h:bc k) {j:Nat} (hj:j<k.aj.length) {p:Int} {i:Nat} (a:pX k j p i) (d:ByteArray) {m:Nat} (hm:m<k.aj.length) (q:Int):dO (sQ k i d) m q=if m=j/\q=p then d else dO k m q:=by
 have at_:∀n,au (sQ k i d).frames n=if i=n then ⟨d,(au k.frames i).refs,(au k.frames i).eX,(au k.frames i).seen⟩ else au k.frames n:=fun n=>iD _ _ _ _ a.lt
 by_cases c:m=j/\q=p
 · grind [dO,au,sQ,pX.here]
 · rw[bf c];refine Wy rfl (fun x hx=>⟨fun hk=>?_,fun _=>rfl⟩) (fun _=>rfl);have hx:bD (ak k.aj m).aU q=some x:=hx;rw[at_];by_cases e:i=x.loc.toNat
   · exfalso;have m1:x∈(ak k.aj m).aU:=lq hx;have hb:=(ic h hm m1).resolve_right (fun y=>by omega);have hxl:x.loc=(i:Int):=by omega
     have e2:x=⟨q,1,i⟩:=by
      have:=Uj hx;obtain⟨a1,a2,a3⟩:=x
      grind
     rw[e2] at hx;have hpq:q=p:=by
      by_cases z:q=p
      · exact z
      · exact absurd rfl (rC h hj hm a.here hx z)
     have hmj:m≠j:=fun z=>c ⟨z,hpq⟩
     have hr:=(h.yS i a.lt).refs;rw[a.refs] at hr;have two:2<=(ck k.aj 1 i).length:=by
      have key:∀(l:List cO) (a b:Nat),a<b->b<l.length->(iz (ak l a) 1 i)≠[]->(iz (ak l b) 1 i)≠[]->2<=(ck l 1 i).length:=fun l=>by
       induction l with
       | nil=>grind
       | cons s r ih =>
        intro a b hab hb h1 h2;rw[km,fk];cases a with
        | zero =>
         have h1':1<=(iz s 1 i).length:=Kt.2 h1;obtain⟨b',rfl⟩:∃b',b=b'+1:=⟨b-1,by omega⟩;have h2':iz (ak r b') 1 i≠[]:=h2;have:1<=(ck r 1 i).length:=by
          obtain⟨y,hy⟩:=E7 _ h2';refine Kt.2 fun z=>?_
          have:y∈ck r 1 i:=ua.2 ⟨_,Cj (by grind),hy⟩
          grind
         omega
        | succ a =>
         obtain⟨b',rfl⟩:∃b',b=b'+1:=⟨b-1,by omega⟩;have:=ih a b' (by omega) (by grind) h1 h2;omega
      have n1:iz (ak k.aj j) 1 i≠[]:=fun z=>by
       have:(_:Int×Bool)∈iz (ak k.aj j) 1 i:=uu.2 ⟨_,lq a.here,rfl,rfl,rfl⟩
       grind
      have n2:iz (ak k.aj m) 1 i≠[]:=fun z=>by
       have:(_:Int×Bool)∈iz (ak k.aj m) 1 i:=uu.2 ⟨_,lq hx,rfl,rfl,rfl⟩
       grind
      grind
     omega
   grind
def qT (f:Int->ByteArray) (a n:Int):ByteArray:=if cD a n=a/16 then f (a/16) else f (a/16)++f (cD a n)
def Cq (f:Int->ByteArray) (a:Int) (d:ByteArray):ByteArray:=gF (qT f a d.size) (a%16).toNat d
def Ie (f:Int->ByteArray) (a:Int) (d:ByteArray) (p:Int):ByteArray:=if p=a/16 then (Cq f a d).extract 0 16 else if p=cD a d.size then (Cq f a d).extract 16 32 else f p
def gK (fs:List jm) (ids:List Nat):Nat->ByteArray
 | 0=>⟨#[]⟩
 | n+1=>gK fs ids n++(au fs (ids.getD n 0)).data
def j3 (k:aN) (ids:List Nat) (s:ByteArray):Nat->aN
 | 0=>k
 | n+1=>sQ (j3 k ids s n) (ids.getD n 0) (s.extract (n*16) (n*16+16))
def qR (k:aN) (j:Nat) (a n way:Int):ByteArray:=(gK (aW k j a n way).2.frames (aW k j a n way).1 (aW k j a n way).1.length).extract (a%16).toNat ((a%16).toNat+n.toNat)
def rT (k:aN) (j:Nat) (a:Int) (d:ByteArray):aN:=j3 (aW k j a d.size 1).2 (aW k j a d.size 1).1 (gF (gK (aW k j a d.size 1).2.frames (aW k j a d.size 1).1 (aW k j a d.size 1).1.length) (a%16).toNat d) (aW k j a d.size 1).1.length
theorem GI {k:aN} {j:Nat} {p:Int} {i:Nat} (h:bD (ak k.aj j).aU p=some ⟨p,1,i⟩):dO k j p=(au k.frames i).data:=by
 grind [dO]
theorem yz {k:aN} (h:bc k) {j:Nat} (hj:j<k.aj.length) (a n way:Int) (h1:dx k j (a/16)) (h2:dx k j (cD a n)):gK (aW k j a n way).2.frames (aW k j a n way).1 (aW k j a n way).1.length=qT (dO k j) a n:=by
 have R:=nz h hj a n way h1 h2;have p1:=R.kept.Vt j hj (a/16);have p2:=R.kept.Vt j hj (cD a n);rw[GI R.one.1] at p1;unfold qT;rw[<- p1,<- p2];by_cases c:cD a n=a/16
 · rw[aR c];have e:(aW k j a n way).1=[(eH k j a way).1]:=by grind [aW]
   rw[e];rfl
 · rw[bf c,GI (R.two c).1];have e:(aW k j a n way).1=[(eH k j a way).1,(ir k j a n way).1]:=by grind [aW]
   rw[e];rfl
theorem qu {k:aN} (h:bc k) {j:Nat} (hj:j<k.aj.length) {p:Int} (hp:dx k j p):(dO k j p).size=16:=by
 unfold dO;cases g:bD (ak k.aj j).aU p with
 | none=>exact Ac h hj hp
 | some e =>
  have hb:=ic h hj (lq g);have hn:=jb hj (lq g);dsimp only;rcases hb with b | b
  · rw[aR b.1];exact(h.yS _ b.2.2).size (fun z=>by grind)
  grind [bc.slt,l7.size]
end Go.Proofs.YtpgifpeohlllfaaGreat
