import Derived.Test.YtlgoihmkgaaemaaGreatGO15
set_option maxHeartbeats 20000000
set_option linter.unusedVariables false
set_option maxRecDepth 100000
set_option linter.unusedSimpArgs false
namespace Go.Proofs.YtlgoihmkgaaemaaGreat
open Go.RowKit
variable {lo mb:Nat} {tt:TypeId} {X:List Value} {w:World} {S:gL} {k:aR}
theorem D5 (L:List Ab) (l:Ab) (k:Nat):fL (L++[l]) k=if k<L.length then fL L k else if k=L.length then l else xn:=by
 grind [fL]
def wu (S:gL) (v:Value) (l:Ab):Nat->o9:=fun b=>if v.ownBlock=some b then .aj else if l.va.ownBlock=some b then .aT S.L.length else if l.vp.ownBlock=some b then .bf S.L.length else S.lab b
theorem bJ.push {w2 w4:World} {v':Value} {l:Ab} {s:cZ} {O:Obj} (h:bJ lo mb tt X w S k) (hlo:lo<=w.heap.size) (hb2:Below w.heap.size w w2)
  (hso:mX w.heap.size w2 l s) (hne:∀b,bX l.vp b->¬bX l.va b) (hgr:(w2.alloc O).grownBy w4 S.vP.ownBlock) (hown:w4.ownsRow lo 99 3 v' (S.L.length+1) (S.L.flatMap gV++gV l))
  (hat:v'.ownBlock=S.vP.ownBlock∨v'.ownBlock=some (w2.alloc O).heap.size) :
  bJ lo mb tt X (w4.setCell (Ad mb 3) v') ⟨wu S v' l,S.vS,S.vF,S.vL,v',S.L++[l]⟩ { k with aj:=k.aj++[s] }/\(∀b,b<w.heap.size->S.lab b=.no->wu S v' l b=.no)/\aC (fun b=>S.lab b≠.no) w (w4.setCell (Ad mb 3) v'):=by
 have s1:=hb2.size;have s2:=hgr.size;have hz:(w2.alloc O).heap.size=w2.heap.size+1:=gh _ _;rw[hz] at s2 hat
 have kA:aC (bX S.vP) w w2:=aC.bZ hb2;have kB:aC (bX S.vP) w2 (w2.alloc O):=aC.alloc _ w2 O;have kC:aC (bX S.vP) (w2.alloc O) w4:=aC.grown hgr (fun _ e=>e);have kD:=kA.trans (kB.trans kC (fun _ _ g=>g)) (fun _ _ g=>g);have su:aC (fun b=>b=mb) w4 (w4.setCell (Ad mb 3) v'):=aC.set _ _ _ _ rfl;have eA:∀b,bX l.va b∨bX l.vp b->w.heap.size<=b/\b<w2.heap.size:=fun b hb=>by
  rcases hb with g | g
  · exact hso.aT.lt b g
  · exact hso.aQ.lt b g
 have hvb:∀b,bX S.vP b->b<w.heap.size:=fun b hb=>(h.aj.lt b hb).2
 have hv4:∀b,bX v' b->bX S.vP b∨b=w2.heap.size+1:=fun b hb=>by
  grind [bX]
 have hmb:=aJ h.head;have old:∀b c,S.lab b=c->c≠.no->c≠.aj->wu S v' l b=c:=fun b c e h1 h2=>by
  have hb:=(h.yL b (by grind)).2;unfold wu;rw[au,au,au,e]
  · intro x;have:=eA b (.inr x);omega
  · intro x;have:=eA b (.inl x);omega
  · intro x;rcases hv4 b x with g | g
    · exact h2 (by rw[<- e];exact h.lP b g)
    · omega
 have zD:∀{b:Nat} {c:o9},S.lab b=c->c≠.aj->¬bX S.vP b:=fun e hc x=>hc (by rw[<- e];exact h.lP _ x)
 have zH:∀{b:Nat} {c:o9},S.lab b=c->c≠.head->¬b=mb:=fun e hc x=>hc (by rw[<- e,x];exact h.lH)
 have row:∀{e:TypeId} {n m:Nat} {v:Value} {xs:List Value},w.ownsRow lo e n v m xs->(∀b,bX v b->¬bX S.vP b/\¬b=mb)->(w4.setCell (Ad mb 3) v').ownsRow lo e n v m xs:=fun hr hq=>su.row (kD.row hr (fun b hb=>(hq b hb).1)) (fun b hb=>(hq b hb).2)
 have hle:(S.L++[l]).length=S.L.length+1:=by simp
 have hlen:=h.len;refine⟨⟨⟨fun b hb=>?_,row h.aM (fun b hb=>⟨zD (h.lS b hb) (by simp),zH (h.lS b hb) (by simp)⟩),fun i hi=>row (h.eZ i hi) (fun b hb=>⟨zD (h.lX i hi b hb) (by simp),zH (h.lX i hi b hb) (by simp)⟩),row h.frames (fun b hb=>⟨zD (h.lF b hb) (by simp),zH (h.lF b hb) (by simp)⟩),row h.slots (fun b hb=>⟨zD (h.lL b hb) (by simp),zH (h.lL b hb) (by simp)⟩),?_,?_,fun i hi=>?_,fun b hb=>old b _ (h.lS b hb) (by simp) (by simp),fun i hi b hb=>old b _ (h.lX i hi b hb) (by simp) (by simp),fun b hb=>old b _ (h.lF b hb) (by simp) (by simp),fun b hb=>old b _ (h.lL b hb) (by simp) (by simp),fun b hb=>aB hb,fun i hi b hb=>?_,fun i hi b hb=>?_⟩,?_,old mb _ h.lH (by simp) (by simp)⟩,fun b hb e=>?_,?_⟩
 · have hb:wu S v' l b≠.no:=hb;have hs4:(w4.setCell (Ad mb 3) v').heap.size=w4.heap.size:=by simp
   rw[hs4];unfold wu at hb;by_cases c:v'.ownBlock=some b
   · exact hown.lt b c
   · rw[au c] at hb;by_cases d:l.va.ownBlock=some b
     · have:=eA b (.inl d);omega
     · rw[au d] at hb;by_cases e:l.vp.ownBlock=some b
       · have:=eA b (.inr e);omega
       · rw[au e] at hb;have:=h.yL b hb;omega
 · show World.ownsRow _ lo _ 3 v' (S.L++[l]).length _;rw[hle,xO];have:w4.ownsRow lo 99 3 v' (S.L.length+1) (S.L.flatMap gV++[l].flatMap gV):=by grind
   exact su.row this (fun b hb e=>by
    rcases hv4 b hb with g | g
    · grind
    · omega)
 · grind
 · have hi:i<(k.aj++[s]).length:=hi;rw[fM,AU] at hi;show mX lo _ (fL (S.L++[l]) i) (ak (k.aj++[s]) i);rw[D5,K7,hlen];by_cases c:i<k.aj.length
   · rw[aB c,aB c];exact((h.each i c).kp kD (fun b hb=>zD (h.lA i c b hb) (by simp)) (fun b hb=>zD (h.lE i c b hb) (by simp))).kp su (fun b hb=>zH (h.lA i c b hb) (by simp)) (fun b hb=>zH (h.lE i c b hb) (by simp))
   · have e:i=k.aj.length:=by omega
     rw[au c,au c,aB e,aB e];refine((hso.mono hlo).kp (kB.trans kC (fun _ _ g=>g)) (fun b hb g=>?_) (fun b hb g=>?_)).kp su (fun b hb e=>?_) (fun b hb e=>?_)
     · grind
     · grind
     · grind
     grind
 · have hi:i<(k.aj++[s]).length:=hi;rw[fM,AU] at hi;have hb:bX (fL (S.L++[l]) i).va b:=hb;rw[D5,hlen] at hb;by_cases c:i<k.aj.length
   · rw[aB c] at hb;exact old b _ (h.lA i c b hb) (by simp) (by simp)
   · have e:i=k.aj.length:=by omega
     rw[au c,aB e] at hb;have hx:=eA b (.inl hb);show wu S v' l b=.aT i;unfold wu;rw[au,aB (show l.va.ownBlock=some b from hb),e,hlen];intro x;rcases hv4 b x with g | g
     · grind
     · omega
 · have hi:i<(k.aj++[s]).length:=hi;rw[fM,AU] at hi;have hb:bX (fL (S.L++[l]) i).vp b:=hb;rw[D5,hlen] at hb;by_cases c:i<k.aj.length
   · rw[aB c] at hb;exact old b _ (h.lE i c b hb) (by simp) (by simp)
   · have e:i=k.aj.length:=by omega
     rw[au c,aB e] at hb;have hx:=eA b (.inr hb);show wu S v' l b=.bf i;unfold wu;rw[au,au (show ¬l.va.ownBlock=some b from hne b hb),aB (show l.vp.ownBlock=some b from hb),e,hlen];intro x;rcases hv4 b x with g | g
     · grind
     · omega
 · have:w4.heap[mb]?=some (.cells ([S.vS,S.vF,S.vL,S.vP,I k.hand]++X).toArray tt (0,0)):=kD.keep h.head (fun x=>by grind);rw[fP this 3 v'];simp
 · unfold wu;rw[au,au,au,e]
   · intro x;have:=eA b (.inr x);omega
   · intro x;have:=eA b (.inl x);omega
   · intro x;rcases hv4 b x with g | g
     · grind
     · omega
 · exact(kD.mono (fun b _ g=>by grind)).trans su (fun b _ e=>by grind)
theorem bJ.aoO (h:bJ lo mb tt X w S k) {j:Nat} (hj:j<k.aj.length) {v:Value} {l:List aY} {pb n cap:Nat} (hP:S.vP=.slice (some (Ad pb 0)) n cap) (hr:ez lo w v l) (hat:∀b,bX v b->S.lab b=.no) :
  bJ lo mb tt X (w.setCell (Ad pb (j*3+1)) v) ⟨K4 S j v,S.vS,S.vF,S.vL,S.vP,S.L.set j ⟨(fL S.L j).lv,v,(fL S.L j).vp⟩⟩ { k with aj:=k.aj.set j ⟨(ak k.aj j).live,l,(ak k.aj j).bf⟩ }/\aC (fun b=>S.lab b≠.no) w (w.setCell (Ad pb (j*3+1)) v):=by
 have hpl:S.lab pb=.aj:=h.lP pb (by rw[hP];rfl);have su:aC (fun b=>b=pb) w (w.setCell (Ad pb (j*3+1)) v):=aC.set _ _ _ _ rfl;have hs:=h.each j hj;have hl:=h.len;have hlab:∀b c,S.lab b=c->c≠.no->K4 S j v b=c:=fun b c e h1=>by
  unfold K4;rw[au,e];intro x;exact h1 (e.symm.trans (hat b x))
 have hn:n=S.L.length:=by
  obtain⟨ao,c,e,_⟩:=bg h.aj
  grind
 subst hn;have hr1:=h.aj;rw[hP] at hr1;have hr2:=fy hr1 (j*3+1) v;rw[<- kL gV 3 (fun _=>rfl) xn ⟨(fL S.L j).lv,v,(fL S.L j).vp⟩ 1 v (by omega) S.L j (by omega) rfl] at hr2;refine⟨h.turn hj (l:=⟨(fL S.L j).lv,v,(fL S.L j).vp⟩) (s:=⟨(ak k.aj j).live,l,(ak k.aj j).bf⟩) (lab':=K4 S j v) (su.mono (fun b _ e=>.inr (.inl (by grind)))) (by grind) ⟨hs.live,?_,?_⟩ ?_ (fun b c e h1 _ _=>hlab b c e h1) (fun b hb=>aB hb) (fun b hb=>hlab b _ (h.lE j hj b hb) (by simp)),su.mono (fun b _ e=>by grind)⟩
 · exact su.row hr (fun b hb e=>by have:=hat b hb;grind)
 · exact su.row hs.aQ (fun b hb e=>by have:=h.lE j hj b hb;grind)
 · intro b hb;unfold K4 at hb;by_cases c:v.ownBlock=some b
   · exact⟨(hr.lt b c).1,fD (hr.lt b c).2 su.size⟩
   · rw[au c] at hb;exact⟨(h.yL b hb).1,fD (h.yL b hb).2 su.size⟩
theorem bJ.zero (h:bJ lo mb tt X w S k) {j:Nat} (hj:j<k.aj.length) {pb n cap:Nat} (hP:S.vP=.slice (some (Ad pb 0)) n cap) :
  bJ lo mb tt X (((w.setCell (Ad pb (j*3)) (.bool false)).setCell (Ad pb (j*3+1)) Nl).setCell (Ad pb (j*3+2)) Nl) ⟨S.lab,S.vS,S.vF,S.vL,S.vP,S.L.set j xn⟩ { k with aj:=k.aj.set j rp }/\cK S w ⟨S.lab,S.vS,S.vF,S.vL,S.vP,S.L.set j xn⟩ (((w.setCell (Ad pb (j*3)) (.bool false)).setCell (Ad pb (j*3+1)) Nl).setCell (Ad pb (j*3+2)) Nl):=by
 have hpl:S.lab pb=.aj:=h.lP pb (by rw[hP];rfl);have hl:=h.len;have su:aC (fun b=>b=pb) w (((w.setCell (Ad pb (j*3)) (.bool false)).setCell (Ad pb (j*3+1)) Nl).setCell (Ad pb (j*3+2)) Nl):=xD w pb _ _ _ _ _ _ rfl;have hn:n=S.L.length:=by
  obtain⟨ao,c,e,_⟩:=bg h.aj
  grind
 subst hn;have hr1:=h.aj;rw[hP] at hr1;have hr2:=fy hr1 (j*3) (.bool false);have hlj:j<S.L.length:=by omega
 have e1:=kL gV 3 (fun _=>rfl) xn ⟨false,(fL S.L j).va,(fL S.L j).vp⟩ 0 (.bool false) (by omega) S.L j hlj rfl;rw[mF] at e1;rw[<- e1] at hr2;have hr3:=fy hr2 (j*3+1) Nl;have e2:=kL gV 3 (fun _=>rfl) xn ⟨false,Nl,(fL S.L j).vp⟩ 1 Nl (by omega) (S.L.set j ⟨false,(fL S.L j).va,(fL S.L j).vp⟩) j (by grind) (by rw[eT _ _ _ _ hlj];rfl);rw[<- e2,qi] at hr3;have hr4:=fy hr3 (j*3+2) Nl;have e3:=kL gV 3 (fun _=>rfl) xn xn 2 Nl (by omega) (S.L.set j ⟨false,Nl,(fL S.L j).vp⟩) j (by grind) (by rw[eT _ _ _ _ hlj];rfl);rw[<- e3,qi] at hr4;refine⟨h.turn hj (l:=xn) (s:=rp) (lab':=S.lab) (su.mono (fun b _ e=>.inr (.inl (by grind)))) (by grind) ⟨rfl,mG _ _ _ _,mG _ _ _ _⟩ (fun b hb=>⟨(h.yL b hb).1,fD (h.yL b hb).2 su.size⟩) (fun b c e _ _ _=>e) (fun b hb=>by cases hb) (fun b hb=>by cases hb),su.mono (fun b _ e=>by grind),fun _ _ e=>e,rfl,rfl,rfl,rfl⟩
open Go.RowKit
variable {lo mb:Nat} {tt:TypeId} {X:List Value} {w:World} {S:gL} {k:aR}
theorem bJ.c0 (h:bJ lo mb tt X w S k):w.cell? (Ad mb 0)=some S.vS:=aq h.head 0 (by simp)
theorem bJ.c1 (h:bJ lo mb tt X w S k):w.cell? (Ad mb 1)=some S.vF:=aq h.head 1 (by simp)
theorem bJ.c2 (h:bJ lo mb tt X w S k):w.cell? (Ad mb 2)=some S.vL:=aq h.head 2 (by simp)
theorem bJ.c3 (h:bJ lo mb tt X w S k):w.cell? (Ad mb 3)=some S.vP:=aq h.head 3 (by simp)
theorem bJ.c4 (h:bJ lo mb tt X w S k):w.cell? (Ad mb 4)=some (I k.hand):=aq h.head 4 (by simp)
theorem bJ.cx (h:bJ lo mb tt X w S k) (n:Nat) {v:Value} (hv:X[n]?=some v):w.cell? (Ad mb (5+n))=some v:=aq h.head (5+n) (by
 grind)
theorem bJ.free (h:bJ lo mb tt X w S k) (j:Nat):w.frozen? (Ad mb j)=false:=aO h.head j
theorem bJ.lt (h:bJ lo mb tt X w S k):mb<w.heap.size:=aJ h.head
theorem bJ.lo_le (h:bJ lo mb tt X w S k):lo<=mb:=(h.yL mb (by grind [lH])).1
structure Bj (w:World) (S:gL) (k:aR) (fb cF:Nat):Prop where
 v:S.vF=.slice (some (Ad fb 0)) k.frames.length cF
 x0:∀i,i<k.frames.length->w.cell? (Ad fb (i*4))=some (.string (aH k.frames i).data)
 x1:∀i,i<k.frames.length->w.cell? (Ad fb (i*4+1))=some (I (aH k.frames i).refs)
 x2:∀i,i<k.frames.length->w.cell? (Ad fb (i*4+2))=some (.bool (aH k.frames i).jG)
 x3:∀i,i<k.frames.length->w.cell? (Ad fb (i*4+3))=some (.bool (aH k.frames i).seen)
 fz:∀j,w.frozen? (Ad fb j)=false
 lt:fb<w.heap.size
 lab:S.lab fb=.frames
 cap:k.frames.length<=cF
theorem Kr.fr (h:Kr lo w S k) (hn:0<k.frames.length):∃fb cF,Bj w S k fb cF:=by
 obtain⟨ao,cap,e,hc,hg⟩:=bg h.frames;obtain⟨g,rfl,hg1,hg2⟩:=hg hn;have hr:=h.frames;rw[e] at hr;have at_:=fun i (hi:i<k.frames.length) j (hj:j<4)=>kq jd (fun _=>rfl) gX hr i j hi hj
 exact⟨g,cap,e,fun i hi=>at_ i hi 0 (by omega),fun i hi=>at_ i hi 1 (by omega),fun i hi=>at_ i hi 2 (by omega),fun i hi=>at_ i hi 3 (by omega),iL hr,hg2,h.lF g (by rw[e];rfl),hc⟩
structure adp (w:World) (S:gL) (k:aR) (fb cF:Nat):Prop where
 v:S.vL=.slice (some (Ad fb 0)) k.slots.length cF
 x0:∀i,i<k.slots.length->w.cell? (Ad fb (i*2))=some (.string (bE k.slots i).data)
 x1:∀i,i<k.slots.length->w.cell? (Ad fb (i*2+1))=some (I (bE k.slots i).refs)
 fz:∀j,w.frozen? (Ad fb j)=false
 lt:fb<w.heap.size
 lab:S.lab fb=.slots
theorem Kr.sl (h:Kr lo w S k) (hn:0<k.slots.length):∃fb cF,adp w S k fb cF:=by
 obtain⟨ao,cap,e,hc,hg⟩:=bg h.slots;obtain⟨g,rfl,hg1,hg2⟩:=hg hn;have hr:=h.slots;rw[e] at hr;have at_:=fun i (hi:i<k.slots.length) j (hj:j<2)=>kq jc (fun _=>rfl) oc hr i j hi hj
 exact⟨g,cap,e,fun i hi=>at_ i hi 0 (by omega),fun i hi=>at_ i hi 1 (by omega),iL hr,hg2,h.lL g (by rw[e];rfl)⟩
structure aib (w:World) (S:gL) (k:aR) (pb cP:Nat):Prop where
 v:S.vP=.slice (some (Ad pb 0)) k.aj.length cP
 x0:∀i,i<k.aj.length->w.cell? (Ad pb (i*3))=some (.bool (ak k.aj i).live)
 x1:∀i,i<k.aj.length->w.cell? (Ad pb (i*3+1))=some (fL S.L i).va
 x2:∀i,i<k.aj.length->w.cell? (Ad pb (i*3+2))=some (fL S.L i).vp
 fz:∀j,w.frozen? (Ad pb j)=false
 lt:pb<w.heap.size
 lab:S.lab pb=.aj
theorem Kr.sp (h:Kr lo w S k) (hn:0<k.aj.length):∃pb cP,aib w S k pb cP:=by
 obtain⟨ao,cap,e,hc,hg⟩:=bg h.aj;have hl:=h.len;obtain⟨g,rfl,hg1,hg2⟩:=hg (by omega);have hr:=h.aj;rw[e] at hr;have at_:=fun i (hi:i<k.aj.length) j (hj:j<3)=>kq gV (fun _=>rfl) xn hr i j (by omega) hj
 exact⟨g,cap,by grind,fun i hi=>by rw[<- (h.each i hi).live];exact at_ i hi 0 (by omega),fun i hi=>at_ i hi 1 (by omega),fun i hi=>at_ i hi 2 (by omega),iL hr,hg2,h.lP g (by rw[e];rfl)⟩
theorem Kr.bf (h:Kr lo w S k) {i:Nat} (hi:i<k.aj.length):∃ae ce,(fL S.L i).vp=.slice ae (ak k.aj i).bf.length ce/\eB bw 3 gY w ae (ak k.aj i).bf:=by
 obtain⟨ae,ce,e,_,hr⟩:=oO bw (fun _=>rfl) gY (h.each i hi).aQ
 grind
theorem Kr.aT (h:Kr lo w S k) {i:Nat} (hi:i<k.aj.length):gD w (fL S.L i).va (ak k.aj i).aT:=(h.each i hi).aT.has
open Go.RowKit
def gj (lo mb:Nat) (tt:TypeId) (X:List Value) (w:World) (S:gL) (v:Value) (k':aR) (e:Ending) (w':World):Prop:=e=.returned v/\∃S',bJ lo mb tt X w' S' k'/\cK S w S' w'
def mO (lo mb:Nat) (tt:TypeId) (X:List Value) (w:World) (S:gL) (v:Value) (k':aR) (e:Ending) (w':World):Prop:=e=.returned v/\bJ lo mb tt X w' S k'/\cK S w S w'
theorem DY {lo mb:Nat} {tt:TypeId} {X:List Value} (k:aR) (S:gL) (w:World) (e:bD) (d:Int) (h:bJ lo mb tt X w S k) (h1:e.kind=1->0<=e.loc/\e.loc<(k.frames.length:Int)) (h2:e.kind≠1->0<=e.loc/\e.loc<(k.slots.length:Int)) (hd:d=1∨d=-1)
  (hr:(e.kind=1->-1000000<=(aH k.frames e.loc.toNat).refs/\(aH k.frames e.loc.toNat).refs<=1000000)/\(e.kind≠1->-1000000<=(bE k.slots e.loc.toNat).refs/\(bE k.slots e.loc.toNat).refs<=1000000)) :
  Calls Tryz.prog 270 #[.pointer (some (Ad mb 0)),rQ e,I d] w (mO lo mb tt X w S (.tuple #[]) (ko k e d)):=by
 obtain⟨pg,kd,lc⟩:=e;unfold rQ;simp only at h1 h2 hr ⊢;have gB:=ai ((aK w.heap.size w).alloc (aD _) (.cells #[I pg,I kd,I lc] 174));have EB:=ai (bB w #[I pg,I kd,I lc] 174);have HM:=ai (h.below gB.o);have HC0:Hid (cK S w S (w.alloc (.cells #[I pg,I kd,I lc] 174))):=cK.below gB.o;by_cases c:kd=1
 · obtain⟨i,rfl⟩:∃i:Nat,lc=(i:Int):=⟨lc.toNat,by omega⟩;have hi:i<k.frames.length:=by omega
   obtain⟨fb,cF,A⟩:=HM.o.toKr.fr (by omega);have hrr:=hr.1 c;rw[jz] at hrr;have x1:=A.x1 i hi;have x0:=A.x0 i hi;have x2:=A.x2 i hi;have x3:=A.x3 i hi;have f0:=A.fz (i*4);have f1:=A.fz (i*4+1);have f2:=A.fz (i*4+2);have f3:=A.fz (i*4+3);have c1:=HM.o.c1;rw[A.v] at c1;have e0:(w.alloc (.cells #[I pg,I kd,I (i:Int)] 174)).cell? (Ad w.heap.size 1)=some (I kd):=aq EB.o 1 rfl;have e2:(w.alloc (.cells #[I pg,I kd,I (i:Int)] 174)).cell? (Ad w.heap.size 2)=some (I (i:Int)):=aq EB.o 2 rfl;have Jj:(i:Int)<(k.frames.length:Int):=by omega
   have dB:Hid (∀V,(∃f,V=((w.alloc (.cells #[I pg,I kd,I (i:Int)] 174)).setCell (Ad fb (i*4+1)) (I ((aH k.frames i).refs+d))).drew/\f=aH k.frames i/\¬f.refs+d=0)∨(∃f,f=aH k.frames i/\f.refs+d=0/\V=((((((w.alloc (.cells #[I pg,I kd,I (i:Int)] 174)).setCell (Ad fb (i*4+1)) (I ((aH k.frames i).refs+d))).setCell (Ad fb (i*4)) (.string ⟨#[]⟩)).setCell (Ad fb (i*4+1)) (I 0)).setCell (Ad fb (i*4+2)) (.bool false)).setCell (Ad fb (i*4+3)) (.bool false)).drew)->mO lo mb tt X w S (.tuple #[]) (ko k ⟨pg,kd,(i:Int)⟩ d) (.returned (.tuple #[])) V):=fun V hV=>by
    have hk:ko k ⟨pg,kd,(i:Int)⟩ d={ k with frames:=k.frames.set i (Hr (aH k.frames i) d) }:=by
     grind [ko]
    rw[hk];have HD:=HM.o;have CD:=HC0.o;have hDr:∀V:World,Below V.heap.size V V.drew:=fun V=>(aK _ _).drew
    have m1:=HD.Mk A.v hi (j:=1) (by omega) (f:=⟨(aH k.frames i).data,(aH k.frames i).refs+d,(aH k.frames i).jG,(aH k.frames i).seen⟩) (u:=I ((aH k.frames i).refs+d)) rfl;have ch1:=CD.trans (Ac HD.toKr A.v (i:=i*4+1) (u:=I ((aH k.frames i).refs+d)));rcases hV with⟨f,rfl,rfl,hz⟩ | ⟨f,rfl,hz,rfl⟩
    · unfold Hr;rw[au hz];exact⟨rfl,m1.below (hDr _),ch1.trans (cK.below (hDr _))⟩
    · unfold Hr;rw[aB hz];have m2:=m1.aff A.v (i:=i) (by grind) gX;simp only[qi] at m2;exact⟨rfl,m2.1.below (hDr _),(ch1.trans m2.2).trans (cK.below (hDr _))⟩
   obtain⟨P,hP⟩:=ex (mO lo mb tt X w S (.tuple #[]) (ko k ⟨pg,kd,(i:Int)⟩ d));rw[<- hP] at dB ⊢;obtain⟨F,hF⟩:=ex (aH k.frames i);rw[<- hF] at x0 x1 x2 x3 hrr dB;obtain⟨n,hn⟩:=ex k.frames.length;rw[<- hn] at c1 Jj;have kb:(kd==1)=true:=by grind
   have hw:IntKind.i64.wrap (F.refs+d)=F.refs+d:=vN _ (by omega);clear h1 h2 hr h hP hF hn HM HC0 A EB gB c hd hrr hi;by_cases z:F.refs+d=0
   · have zb:(F.refs+d==0)=true:=by grind
     have HZ:=ai z;clear z;go_enter Tryz.func270,Tryz.ntmps270;go_upto_region 2 with fail;go_region;go_wp2;refine bI (v:=.tuple #[]) (by simp[results]) rfl ?_
     grind [Hid.o]
   · have zb:(F.refs+d==0)=false:=by grind
     have HZ:=ai z;clear z;go_enter Tryz.func270,Tryz.ntmps270;go_upto_region 2 with fail;go_region;go_wp2;refine bI (v:=.tuple #[]) (by simp[results]) rfl ?_
     grind [Hid.o]
 · obtain⟨i,rfl⟩:∃i:Nat,lc=(i:Int):=⟨lc.toNat,by omega⟩;have hi:i<k.slots.length:=by omega
   obtain⟨fb,cF,A⟩:=HM.o.toKr.sl (by omega);have hrr:=hr.2 c;rw[jz] at hrr;have x1:=A.x1 i hi;have x0:=A.x0 i hi;have f0:=A.fz (i*2);have f1:=A.fz (i*2+1);have c1:=HM.o.c2;rw[A.v] at c1;have e0:(w.alloc (.cells #[I pg,I kd,I (i:Int)] 174)).cell? (Ad w.heap.size 1)=some (I kd):=aq EB.o 1 rfl;have e2:(w.alloc (.cells #[I pg,I kd,I (i:Int)] 174)).cell? (Ad w.heap.size 2)=some (I (i:Int)):=aq EB.o 2 rfl;have Jj:(i:Int)<(k.slots.length:Int):=by omega
   have dB:Hid (∀V,(∃f,V=((w.alloc (.cells #[I pg,I kd,I (i:Int)] 174)).setCell (Ad fb (i*2+1)) (I ((bE k.slots i).refs+d))).drew/\f=bE k.slots i/\¬f.refs+d=0)∨(∃f,f=bE k.slots i/\f.refs+d=0/\V=((((w.alloc (.cells #[I pg,I kd,I (i:Int)] 174)).setCell (Ad fb (i*2+1)) (I ((bE k.slots i).refs+d))).setCell (Ad fb (i*2)) (.string ⟨#[]⟩)).setCell (Ad fb (i*2+1)) (I 0)).drew)->mO lo mb tt X w S (.tuple #[]) (ko k ⟨pg,kd,(i:Int)⟩ d) (.returned (.tuple #[])) V):=fun V hV=>by
    have hk:ko k ⟨pg,kd,(i:Int)⟩ d={ k with slots:=k.slots.set i (Hq (bE k.slots i) d) }:=by
     grind [ko]
    rw[hk];have HD:=HM.o;have CD:=HC0.o;have hDr:∀V:World,Below V.heap.size V V.drew:=fun V=>(aK _ _).drew
    have m1:=HD.afc A.v hi (j:=1) (by omega) (f:=⟨(bE k.slots i).data,(bE k.slots i).refs+d⟩) (u:=I ((bE k.slots i).refs+d)) rfl;have ch1:=CD.trans (abR HD.toKr A.v (i:=i*2+1) (u:=I ((bE k.slots i).refs+d)));rcases hV with⟨f,rfl,rfl,hz⟩ | ⟨f,rfl,hz,rfl⟩
    · unfold Hq;rw[au hz];exact⟨rfl,m1.below (hDr _),ch1.trans (cK.below (hDr _))⟩
    · unfold Hq;rw[aB hz];have m2:=m1.alC A.v (i:=i) (by grind) oc;simp only[qi] at m2;exact⟨rfl,m2.1.below (hDr _),(ch1.trans m2.2).trans (cK.below (hDr _))⟩
   obtain⟨P,hP⟩:=ex (mO lo mb tt X w S (.tuple #[]) (ko k ⟨pg,kd,(i:Int)⟩ d));rw[<- hP] at dB ⊢;obtain⟨F,hF⟩:=ex (bE k.slots i);rw[<- hF] at x0 x1 hrr dB;obtain⟨n,hn⟩:=ex k.slots.length;rw[<- hn] at c1 Jj;have kb:(kd==1)=false:=by grind
   have hw:IntKind.i64.wrap (F.refs+d)=F.refs+d:=vN _ (by omega);clear h1 h2 hr h hP hF hn HM HC0 A EB gB c hd hrr hi;by_cases z:F.refs+d=0
   · have zb:(F.refs+d==0)=true:=by grind
     have HZ:=ai z;clear z;go_enter Tryz.func270,Tryz.ntmps270;go_upto_region 6 with fail;go_region;go_wp2;refine vK (v:=.tuple #[]) (by simp[results]) rfl ?_
     grind [Hid.o]
   · have zb:(F.refs+d==0)=false:=by grind
     have HZ:=ai z;clear z;go_enter Tryz.func270,Tryz.ntmps270;go_upto_region 6 with fail;go_region;go_wp2;refine vK (v:=.tuple #[]) (by simp[results]) rfl ?_
     grind [Hid.o]
open Go.RowKit
def ma (held:List Int) (k:aR) (i:Nat):aR:=if held.contains (i:Int) then k else { k with frames:=k.frames.set i (CZ (aH k.frames i)) }
theorem S9 {lo mb:Nat} {tt:TypeId} {X:List Value} (k:aR) (S:gL) (w:World) (i:Nat) (held:List Int) (ah:Option Addr) (ch:Nat) (h:bJ lo mb tt X w S k) (hi:i<k.frames.length) (hh:eB iF 1 0 w ah held) (hl:held.length<=1000000) :
  Calls Tryz.prog 296 #[.pointer (some (Ad mb 0)),I (i:Int),.slice ah held.length ch] w (mO lo mb tt X w S (.bool (held.contains (i:Int) || (aH k.frames i).seen)) (ma held k i)):=by
 obtain⟨fb,cF,A⟩:=h.toKr.fr (by omega);have HCO:=ai (xk held (i:Int) ah ch w hh hl);have x3:=A.x3 i hi;have f3:=A.fz (i*4+3);have c1:=h.c1;rw[A.v] at c1;have Jj:(i:Int)<(k.frames.length:Int):=by omega
 rw[<- List.contains_eq_mem] at HCO;cases hc:held.contains (i:Int) with
 | true =>
  have dB:Hid (mO lo mb tt X w S (.bool (true || (aH k.frames i).seen)) (ma held k i) (.returned (.bool true)) w):=⟨by simp,by grind [ma],cK.refl _ _⟩;rw[hc] at HCO;obtain⟨P,hP⟩:=ex (mO lo mb tt X w S (.bool (true || (aH k.frames i).seen)) (ma held k i));rw[<- hP] at dB ⊢;clear hP hc hh h A hi hl x3 f3 c1 Jj;go_enter Tryz.func296,Tryz.ntmps296;go_wp2_with (go_at_call 282;refine HCO.o.mono ?_;rintro e w1 ⟨rfl,rfl⟩)
  exact dB.o
 | false =>
  have dB:Hid (mO lo mb tt X w S (.bool (false || (aH k.frames i).seen)) (ma held k i) (.returned (.bool (aH k.frames i).seen)) (w.setCell (Ad fb (i*4+3)) (.bool false))):=⟨by simp,by
   unfold ma;rw[au (by grind)];exact h.Mk A.v hi (j:=3) (by omega) rfl,Ac h.toKr A.v⟩
  rw[hc] at HCO;obtain⟨P,hP⟩:=ex (mO lo mb tt X w S (.bool (false || (aH k.frames i).seen)) (ma held k i));rw[<- hP] at dB ⊢;obtain⟨F,hF⟩:=ex (aH k.frames i);rw[<- hF] at x3 dB;obtain⟨n,hn⟩:=ex k.frames.length;rw[<- hn] at c1 Jj;clear hP hc hh h A hi hl hF hn;go_enter Tryz.func296,Tryz.ntmps296;go_wp2_with (go_at_call 282;refine HCO.o.mono ?_;rintro e w1 ⟨rfl,rfl⟩)
  exact dB.o
theorem ES {lo mb:Nat} {tt:TypeId} {X:List Value} (k:aR) (S:gL) (w:World) (h:bJ lo mb tt X w S k) (hh:0<=k.hand/\k.hand<k.frames.length) (hn:k.frames.length<=1000000) :
  Calls Tryz.prog 251 #[.pointer (some (Ad mb 0))] w (mO lo mb tt X w S (.tuple #[]) { k with hand:=jl k }):=by
 obtain⟨fb,cF,A⟩:=h.toKr.fr (by omega);have dB:Hid (∀x,x=jl k->mO lo mb tt X w S (.tuple #[]) { k with hand:=jl k } (.returned (.tuple #[])) (w.setCell (Ad mb 4) (I x)).drew):=fun x hx=>by
  rw[hx];have:=h.ahs (jl k);exact⟨rfl,this.1.below (aK _ _).drew,this.2.trans (cK.below (aK _ _).drew)⟩
 have hm:(k.hand+1).tmod (k.frames.length:Int)=jl k:=by
  grind [jl]
 have c1:=h.c1;rw[A.v] at c1;have c4:=h.c4;have f4:=h.free 4;obtain⟨P,hP⟩:=ex (mO lo mb tt X w S (.tuple #[]) { k with hand:=jl k });rw[<- hP] at dB ⊢;obtain⟨NX,hNX⟩:=ex (jl k);rw[<- hNX] at dB hm;obtain⟨hd,hhd⟩:=ex k.hand;rw[<- hhd] at c4 hh hm;obtain⟨n,hne⟩:=ex k.frames.length;rw[<- hne] at c1 hh hm hn;have hw:IntKind.i64.wrap (hd+1)=hd+1:=vN _ (by omega);have hn0:¬(n:Int)=0:=by omega
 have hNb:-9223372036854775808<=NX/\NX<=9223372036854775807:=by
  have h1:0<=(hd+1).tmod (n:Int):=Int.tmod_nonneg _ (by omega);have h2:(hd+1).tmod (n:Int)<(n:Int):=Int.tmod_lt_of_pos _ (by omega);omega
 clear hP hNX hhd hne h A;go_enter Tryz.func251,Tryz.ntmps251;go_region
 all_goals go_wp2
 all_goals refine vK (v:=.tuple #[]) (by simp[results]) rfl ?_
 grind [Hid.o]
open Go.RowKit
theorem kW (l:bD):(bw l).length=3:=rfl
theorem Gl (w:World):(sizeOf 174).run Tryz.prog w=.ok 3 w:=by rfl
theorem af6 (w:World):(zeroValue 174).run Tryz.prog w=.ok (.agg #[I 0,I 0,I 0]) w:=by rfl
def oH (lo:Nat) (vp:Value) (l:List bD) (w:World) (e:Ending) (w':World):Prop:=∃v',e=.returned v'/\w'.ownsRow lo 174 3 v' l.length (l.flatMap bw)/\aC (bX vp) w w'/\(∀b,bX v' b->bX vp b∨w.heap.size<=b)
theorem yD {α:Type} {w:World} {lo:Nat} {e:TypeId} {k n:Nat} {ao:Option Addr} {cap:Nat} {xs:List Value} (h:w.ownsRow lo e k (.slice ao n cap) n xs):mR w ao n xs:=fun hm=>by
 rcases h.2 with⟨h0,h1⟩ | ⟨g,cap',cur,hv,_,hg,_,_,_,ht⟩
 · omega
 grind [Addr.add_lit,cell_of_row]
theorem TC (lo:Nat) (ps zs:List bD) (ao az:Option Addr) (cap cz wz:Nat) (w:World) (h:w.ownsRow lo 174 3 (.slice ao ps.length cap) ps.length (ps.flatMap bw)) (hz:w.ownsRow wz 174 3 (.slice az zs.length cz) zs.length (zs.flatMap bw)) (hlo:lo<=w.heap.size) (hm:1<=zs.length) (hn:ps.length<=100000) (Hh:zs.length<=100000) :
  Calls Tryz.prog 299 #[.slice ao ps.length cap,I (ps.length:Int),.slice az zs.length cz] w (oH lo (.slice ao ps.length cap) (ps++zs) w):=by
 have HH:=ai h;have HF:=ai (yD (α:=Unit) hz);have HL:=ai (fw bw 3 kW zs);have H1:=ai (tT zs);obtain⟨_,_,e0,Hi,_⟩:=bg h;injection e0 with e1 e2 e3;subst e3;obtain⟨n,hne⟩:=ex ps.length;obtain⟨m,hme⟩:=ex zs.length;have dB:Hid (∀v' (w':World),w'.ownsRow lo 174 3 v' (n+m) (ps.flatMap bw++zs.flatMap bw)->aC (bX (.slice ao n cap)) w w'->(∀b,bX v' b->bX (.slice ao n cap) b∨w.heap.size<=b)->oH lo (.slice ao n cap) (ps++zs) w (.returned v') w'):=fun v' w' h1 h2 h3=>⟨v',rfl,by grind,h2,h3⟩
 rw[<- hne] at HH hn Hi ⊢;rw[<- hme] at HF HL hm Hh ⊢;obtain⟨P,hP⟩:=ex (oH lo (.slice ao n cap) (ps++zs) w);rw[<- hP] at dB ⊢;obtain⟨XS,hXS⟩:=ex (ps.flatMap bw);obtain⟨ZS,hZS⟩:=ex (zs.flatMap bw);rw[<- hXS] at HH dB;rw[<- hZS] at HF HL H1 dB;obtain⟨i0,hin,hz0,hz1,hz2⟩:=jy H0;have Eu:=ai hin;have Ia:=ai hz0;have E9:=ai hz1;have yZ:=ai hz2;have hm0:((m:Int)==0)=false:=by grind
 clear h hz hne hme hP hXS hZS hin hz0 hz1 hz2 e1 e2;go_enter Tryz.func299,Tryz.ntmps299;go_wp2_with (at_builtin;refine fE (P:=Tryz.prog) rfl _ _ 97 rfl lo 174 i0 (.agg #[I 0,I 0,I 0]) 3 24 Tryz.underlying97 Eu.o Ia.o E9.o yZ.o rfl (by decide) (.slice ao n cap) n XS rfl HH.o az m cz ZS rfl HL.o HF.o H1.o (by unfold maxLen;omega) (by omega) hlo ?_;intro v' w' hown hgr hat;have C3:=ai hown;have HG2:=ai hgr;have E1:=ai hat;clear hown hgr hat)
 all_goals
  refine dB.o _ _ C3.o (aC.grown HG2.o (fun _ e=>e)) (fun b hb=>?_);unfold bX at hb ⊢;rcases E1.o with e | e
  · grind
  grind
open Go.RowKit
theorem Cs {α:Type} (a b:List α) (n:Nat) (h:a.length=n):(a++b).take n=a:=by grind
theorem WR {α:Type} (R Y X:List α) (a b:Nat) (hb:b=a+Y.length) (h:b+X.length<=R.length):(splice (splice R a Y) b X).take (b+X.length)=R.take a++(Y++X):=by
 subst hb;have h1:(splice R a Y).take (a+Y.length)=R.take a++Y:=by
  unfold splice;rw[<- vR];exact Cs _ _ _ (by grind)
 unfold splice at h1 ⊢;rw[h1,<- vR,vR (R.take a) Y X];exact Cs _ _ _ (by rw[fM,vT,fM];omega)
theorem Rh {α:Type} (R Y X:List α) (a b:Nat) (hb:b=a+Y.length) (h:b+X.length<=R.length):(splice (splice R b X) a Y).take (b+X.length)=R.take a++(Y++X):=by
 subst hb;have h1:(splice R (a+Y.length) X).take a=R.take a:=by
  grind [splice]
 have h2:(splice R (a+Y.length) X).drop (a+Y.length)=X++R.drop (a+Y.length+X.length):=by
  grind [splice]
 have h3:splice (splice R (a+Y.length) X) a Y=R.take a++(Y++(X++R.drop (a+Y.length+X.length))):=by
  rw[<- h2,<- h1];rfl
 rw[h3,<- vR,<- vR,vR (R.take a) Y X];exact Cs _ _ _ (by grind)
theorem Lv (ps:List bD) (i:Nat):(ps.flatMap bw).drop (i*3)=(ps.drop i).flatMap bw:=by
 induction ps generalizing i with
 | nil=>simp
 | cons a r ih =>
  cases i with
  | zero=>simp
  | succ i =>
   rw[nV,Vn,<- ih i,show(i+1)*3=i*3+3 by omega];rfl
theorem Eh (ps:List bD) (i:Nat):(ps.flatMap bw).take (i*3)=(ps.take i).flatMap bw:=by
 induction ps generalizing i with
 | nil=>simp
 | cons a r ih =>
  cases i with
  | zero=>simp
  | succ i =>
   rw[nV,Vm,nV,<- ih i,show(i+1)*3=i*3+3 by omega];rfl
theorem Ei (w:World) (g:Nat) (cs:Array Value):aC (fun b=>b=g) w (w.setRow g cs):=⟨rfl,rfl,rfl,by simp_all,fun b _ hn=>setRow_other w g b cs hn⟩
theorem OQ (lo:Nat) (ps zs:List bD) (pb zb cap cz wz i:Nat) (w:World) (h:w.ownsRow lo 174 3 (.slice (some (Ad pb 0)) ps.length cap) ps.length (ps.flatMap bw)) (hz:w.ownsRow wz 174 3 (.slice (some (Ad zb 0)) zs.length cz) zs.length (zs.flatMap bw)) (hne:zb≠pb) (hi:i<ps.length) (hm:1<=zs.length) (hn:ps.length<=100000) (Hh:zs.length<=100000) (hroom:ps.length+zs.length<=cap) :
  Calls Tryz.prog 299 #[.slice (some (Ad pb 0)) ps.length cap,I (i:Int),.slice (some (Ad zb 0)) zs.length cz] w (oH lo (.slice (some (Ad pb 0)) ps.length cap) (ps.take i++(zs++ps.drop i)) w):=by
 have HFZ:=ai (yD (α:=Unit) hz);have Hy:=ai (yD (α:=Unit) h);have H1:=ai (tT zs);have H1P:=ai (tT ps);obtain⟨cur,hcz,hgc,hcs,hct,hlo,hcm⟩:∃cur:Array Value,cur.size=cap*3/\w.heap[pb]?=some (.cells cur 174 (0,0))/\cap<=maxLen/\cur.toList.take (ps.length*3)=ps.flatMap bw/\lo<=pb/\ps.length<=cap:=by
  rcases h.2 with⟨h0,_⟩ | ⟨g,cap',cur,hv,hb,hg,h1,h2,h3,h4⟩
  · cases h0
  grind
 obtain⟨afb,hzg,ao1⟩:∃afb:Array Value,w.heap[zb]?=some (.cells afb 174 (0,0))/\0<afb.size:=by
  rcases hz.2 with⟨h0,_⟩ | ⟨g,cap',zc,hv,hb,hg,h1,h2,h3,h4⟩
  · cases h0
  grind
 have hlx:=fw bw 3 kW ps;have hlz:=fw bw 3 kW zs;obtain⟨R,hR⟩:=ex cur.toList;have hRl:R.length=cap*3:=by grind
 have hRg:w.heap[pb]?=some (.cells R.toArray 174 (0,0)):=by rw[hR];omega
 rw[<- hR] at hct;obtain⟨n,Yy⟩:=ex ps.length;obtain⟨m,hme⟩:=ex zs.length;obtain⟨XS,hXS⟩:=ex (ps.flatMap bw);obtain⟨ZS,hZS⟩:=ex (zs.flatMap bw);rw[<- hZS] at HFZ H1 hlz;rw[<- hXS] at Hy hlx hct H1P;rw[<- hme] at HFZ hlz hm Hh hroom ⊢;rw[<- Yy] at Hy hlx hct hi hn hroom hcm ⊢;obtain⟨DS,hDS⟩:=ex (XS.drop (i*3));have hDl:DS.length=(n-i)*3:=by grind
 obtain⟨R1,JQ⟩:=ex (splice R ((i+m)*3) DS);have ajX:R1.length=cap*3:=by rw[JQ,length_splice _ _ _ (by omega)];exact hRl
 obtain⟨R2,hR2⟩:=ex (splice R1 (i*3) ZS);have afF:R2.length=cap*3:=by rw[hR2,length_splice _ _ _ (by omega)];omega
 have afE:R2.take ((n+m)*3)=XS.take (i*3)++(ZS++DS):=by
  have:=Rh R ZS DS (i*3) ((i+m)*3) (by omega) (by omega)
  grind
 have afx:∀ty dc sc,(Builtin.copy_ #[97,97] ty #[.slice (some (Ad pb ((i+m)*3))) (n+m-(i+m)) dc,.slice (some (Ad pb (i*3))) (n+m-i) sc]).run Tryz.prog w.drew=.ok (goInt (n-i)) (w.drew.setRow pb R1.toArray):=fun ty dc sc=>by
  have:=uh (P:=Tryz.prog) w.drew 97 97 ty 174 3 Tryz.underlying97 Gl pb ((i+m)*3) (n+m-(i+m)) dc (some (Ad pb (i*3))) (n+m-i) sc R 174 hRg DS (by grind) (fun _=>⟨_,rfl,fun j u hu=>by
   obtain⟨ad,e,hc⟩:=Hy.o (by omega);injection e with e;subst e;have:=hc (i*3+j) u (by rw[hDS,Vl] at hu;exact hu);rw[tO] at this ⊢;rw[lZ] at this;exact this⟩) (by omega) (fun u hu=>H1P.o u (by rw[hDS] at hu;exact Vp hu))
  rw[this,<- JQ];congr 2;simp only[Dm];split <;> omega
 have hg1:(w.drew.setRow pb R1.toArray).heap[pb]?=some (.cells R1.toArray 174 (0,0)):=tM w.drew pb _ _ _ _ hRg;obtain⟨W1,hW1⟩:=ex (w.drew.setRow pb R1.toArray);rw[<- hW1] at afx hg1;have kp1:aC (fun b=>b=pb) w W1:=by rw[hW1];exact(aC.drew _ w).trans (Ei w.drew pb R1.toArray) (fun _ _ g=>g)
 have ajP:∀ty dc,(Builtin.copy_ #[97,97] ty #[.slice (some (Ad pb (i*3))) (n+m-i) dc,.slice (some (Ad zb 0)) m cz]).run Tryz.prog W1=.ok (goInt m) (W1.setRow pb R2.toArray):=fun ty dc=>by
  have:=uh (P:=Tryz.prog) W1 97 97 ty 174 3 Tryz.underlying97 Gl pb (i*3) (n+m-i) dc (some (Ad zb 0)) m cz R1 174 hg1 ZS (by rw[hlz];simp only[Dm];split <;> omega) (fun _=>⟨_,rfl,fun j u hu=>by
   obtain⟨ad,e,hc⟩:=HFZ.o (by omega);injection e with e;subst e;have:=hc j u hu;exact kp1.cell this (by rw[tO];exact hne)⟩) (by omega) H1.o
  rw[this,<- hR2];congr 2;simp only[Dm];split <;> omega
 have hg2:(W1.setRow pb R2.toArray).heap[pb]?=some (.cells R2.toArray 174 (0,0)):=tM W1 pb _ _ _ _ hg1;have dB:Hid (oH lo (.slice (some (Ad pb 0)) n cap) (ps.take i++(zs++ps.drop i)) w (.returned (.slice (some (Ad pb 0)) (n+m) cap)) (W1.setRow pb R2.toArray)):=by
  have hl:(ps.take i++(zs++ps.drop i)).length=n+m:=by rw[fM,fM,vT,J0,<- Yy,<- hme];omega
  refine⟨_,rfl,?_,(kp1.trans (Ei W1 pb _) (fun _ _ g=>g)).mono (fun b _ e=>by rw[e];rfl),fun b hb=>.inl hb⟩;rw[hl];have hx:(ps.take i++(zs++ps.drop i)).flatMap bw=R2.take ((n+m)*3):=by
   rw[afE,hXS,hZS,hDS,hXS,Eh,Lv,xO,xO]
  rw[hx];exact⟨by rw[vT,afF];omega,.inr ⟨pb,cap,R2.toArray,rfl,hlo,hg2,hroom,hcs,by omega,by simp⟩⟩
 obtain⟨P,hP⟩:=ex (oH lo (.slice (some (Ad pb 0)) n cap) (ps.take i++(zs++ps.drop i)) w);rw[<- hP] at dB ⊢;have hov:∀lb cb,(callFunc 303 #[.slice (some (Ad zb 0)) m cz,.slice (some (Ad pb ((i+m)*3))) lb cb]).run Tryz.prog w=.ok (.value (.bool false)) w:=fun lb cb=>by
  rw[run_callFunc_extern Tryz.func303 (by kernel_rfl) (by kernel_rfl) (by kernel_rfl) (e:=Extern.SlicesOverlaps.overlaps #[97,97] #[4]) (by kernel_rfl),
   Lib.run_overlaps_apart w 97 4 174 Tryz.underlying97 3 Gl (Ad zb 0) (Ad pb ((i+m)*3)) m cz lb cb hne 174 174 afb.size cur.size (by simp[World.shape?,hzg]) (by simp[World.shape?,hgc]) (by omega) (aO hzg 0) (aO hzg afb.size)]
  rfl
 have hm0:((m:Int)==0)=false:=by rw[kF];omega
 have hi0:((i:Int)==(n:Int))=false:=by rw[kF];omega
 have hw1:IntKind.i64.wrap ((i:Int)+(m:Int))=(i:Int)+(m:Int):=vN _ (by omega);have hb1:(0:Int)<=(i:Int)+(m:Int):=by omega
 have hin:i<=n:=by omega
 have htn:((i:Int)+(m:Int)).toNat=i+m:=by omega
 have hb2:¬(cap=i+m):=by omega
 have hb3:(i:Int)<=(n:Int)+(m:Int):=by omega
 have hb4:¬(cap=i):=by omega
 have hr2:¬((cap:Int)<(n:Int)+(m:Int)):=by omega
 have apP:cap<=9223372036854775807:=by unfold maxLen at hcs;omega
 clear h hz Yy hme hXS hZS hDS hDl JQ hR2 hW1 hR hRl hRg ajX afF afE hlx hlz hct hgc hcz hzg ao1 hP hg1 hg2 kp1 HFZ Hy H1 H1P hcs;go_enter Tryz.func299,Tryz.ntmps299;go_wp2_with (simp only[hov])
 go_region_law (refine SD rfl _ _ 97 97 rfl _ _ (by simp[Act.eval,Act.put]) (by simp[Act.eval,Act.put]) (afx _ _ _) ?_)
 go_wp2_with (at_builtin;refine Ot _ rfl _ _ 97 97 rfl _ _ rfl rfl (ajP _ _) ?_)
 exact dB.o
open Go.RowKit
theorem Ri (lo:Nat) (ps zs:List bD) (pb zb cap cz wz i:Nat) (w:World) (h:w.ownsRow lo 174 3 (.slice (some (Ad pb 0)) ps.length cap) ps.length (ps.flatMap bw)) (hz:w.ownsRow wz 174 3 (.slice (some (Ad zb 0)) zs.length cz) zs.length (zs.flatMap bw)) (hlo:lo<=w.heap.size) (hi:i<ps.length) (hm:1<=zs.length) (hn:ps.length<=100000) (Hh:zs.length<=100000) (hroom:cap<ps.length+zs.length) :
  Calls Tryz.prog 299 #[.slice (some (Ad pb 0)) ps.length cap,I (i:Int),.slice (some (Ad zb 0)) zs.length cz] w (oH lo (.slice (some (Ad pb 0)) ps.length cap) (ps.take i++(zs++ps.drop i)) w):=by
 have HFZ:=ai (yD (α:=Unit) hz);have Hy:=ai (yD (α:=Unit) h);have H1:=ai (tT zs);have H1P:=ai (tT ps);have hpb:pb<w.heap.size:=(h.lt pb rfl).2;have hzb:zb<w.heap.size:=(hz.lt zb rfl).2;have hcm:ps.length<=cap:=by
  grind [bg]
 have hlx:=fw bw 3 kW ps;have hlz:=fw bw 3 kW zs;obtain⟨n,Yy⟩:=ex ps.length;obtain⟨m,hme⟩:=ex zs.length;obtain⟨XS,hXS⟩:=ex (ps.flatMap bw);obtain⟨ZS,hZS⟩:=ex (zs.flatMap bw);rw[<- hZS] at HFZ H1 hlz;rw[<- hXS] at Hy hlx H1P;rw[<- hme] at HFZ hlz hm Hh hroom ⊢;rw[<- Yy] at Hy hlx hi hn hroom hcm ⊢;obtain⟨i0,hin,hz0,hz1,hz2⟩:=jy H0;have hold:(Builtin.firstCells i0.size i (.slice (some (Ad pb 0)) i cap)).run Tryz.prog w.drew=.ok (XS.take (i*3)).toArray w.drew:=by
  rw[hz1];exact ahz w.drew 3 i (Ad pb 0) i cap (XS.take (i*3)) (by grind) (fun j u hu=>by
   rw[List.getElem?_take] at hu;split at hu
   · obtain⟨ad,e,hc⟩:=Hy.o (by omega);injection e with e;subst e;exact hc j u hu
   grind)
 have hik:i+(n+m-i)=n+m:=by omega
 have hkk:(n:Int)+(m:Int)-(i:Int)=((n+m-i:Nat):Int):=by omega
 obtain⟨G,hG⟩:=ex (grownCap w (n+m) cap 174);obtain⟨R,hR⟩:∃R:List Value,R=XS.take (i*3)++jw [I 0,I 0,I 0] (n+m-i)++jw [I 0,I 0,I 0] (G-(n+m)):=⟨_,rfl⟩;have hGn:n+m<=G:=by rw[hG];exact grownCap_ge w _ _ _
 have aj1:G<=maxLen:=by rw[hG];exact grownCap_le_maxLen w (n+m) cap _ (by unfold maxLen;omega)
 have hRl:R.length=G*3:=by
  rw[hR,fM,fM,mo,mo,vT,hlx]
  grind
 have hRt:R.take (i*3)=XS.take (i*3):=by
  grind
 have hrz:∀ty,(Builtin.append_ #[97,3] ty #[.slice (some (Ad pb 0)) i cap,I ((n:Int)+(m:Int)-(i:Int))]).run Tryz.prog w=.ok (.slice (some (Ad w.heap.size 0)) (n+m) G) (w.drew.alloc (.cells R.toArray 174)):=fun ty=>by
  have h:=Lib.run_append_grow_zeros (P:=Tryz.prog) w 97 3 ty 174 i0 _ .i64 .i64 Tryz.underlying97 Tryz.underlying3 hin hz0 (some (Ad pb 0)) i cap (XS.take (i*3)) hold (n+m-i) (by omega) (by omega) (by omega) (by omega) (by grind) (by rw[hz2,hik];exact growslice_fits hroom (by omega));rw[hik,<- hG] at h;rw[hkk,h];congr 3;rw[hR];have e1:=Cy (Value.cells (.agg #[I 0,I 0,I 0])) (n+m-i) (by decide);have e2:=Cy (Value.cells (.agg #[I 0,I 0,I 0])) (G-(n+m)) (by decide);apply Array.toList_inj.1;rw[Array.toList_append,Array.toList_append,e1,e2];rfl
 have hg0:(w.drew.alloc (.cells R.toArray 174)).heap[w.heap.size]?=some (.cells R.toArray 174 (0,0)):=bB w.drew _ _;obtain⟨W0,hW0⟩:=ex (w.drew.alloc (.cells R.toArray 174));rw[<- hW0] at hrz hg0;have kp0:Below w.heap.size w W0:=by rw[hW0];exact(aK _ _).drew.alloc (aD _) _
 obtain⟨H,hH⟩:=ex w.heap.size;rw[<- hH] at hrz hg0 hlo;obtain⟨DS,hDS⟩:=ex (XS.drop (i*3));have hDl:DS.length=(n-i)*3:=by rw[hDS,J0,hlx];omega
 obtain⟨R1,JQ⟩:=ex (splice R (i*3) ZS);have ajX:R1.length=G*3:=by rw[JQ,length_splice _ _ _ (by omega)];exact hRl
 obtain⟨R2,hR2⟩:=ex (splice R1 ((i+m)*3) DS);have afF:R2.length=G*3:=by rw[hR2,length_splice _ _ _ (by omega)];omega
 have afE:R2.take ((n+m)*3)=XS.take (i*3)++(ZS++DS):=by
  have:=WR R ZS DS (i*3) ((i+m)*3) (by omega) (by omega);rw[<- JQ,<- hR2,hDl,show(i+m)*3+(n-i)*3=(n+m)*3 by omega] at this;rw[this,hRt]
 have afx:∀ty dc,(Builtin.copy_ #[97,97] ty #[.slice (some (Ad H (i*3))) (n+m-i) dc,.slice (some (Ad zb 0)) m cz]).run Tryz.prog W0=.ok (goInt m) (W0.setRow H R1.toArray):=fun ty dc=>by
  have:=uh (P:=Tryz.prog) W0 97 97 ty 174 3 Tryz.underlying97 Gl H (i*3) (n+m-i) dc (some (Ad zb 0)) m cz R 174 hg0 ZS (by rw[hlz];simp only[Dm];split <;> omega) (fun _=>⟨_,rfl,fun j u hu=>by
   obtain⟨ad,e,hc⟩:=HFZ.o (by omega);injection e with e;subst e;have:=hc j u hu;rw[tO] at this ⊢;exact(kp0.cell (p:=(Ad zb (0+j))) hzb).trans this⟩) (by omega) H1.o
  rw[this,<- JQ];congr 2;simp only[Dm];split <;> omega
 have hg1:(W0.setRow H R1.toArray).heap[H]?=some (.cells R1.toArray 174 (0,0)):=tM W0 H _ _ _ _ hg0;obtain⟨W1,hW1⟩:=ex (W0.setRow H R1.toArray);rw[<- hW1] at afx hg1;have kp1:Below w.heap.size w W1:=by rw[hW1];exact below_setRow kp0 (by omega) _
 have ajP:∀ty dc sc,(Builtin.copy_ #[97,97] ty #[.slice (some (Ad H ((i+m)*3))) (n+m-(i+m)) dc,.slice (some (Ad pb (i*3))) (n-i) sc]).run Tryz.prog W1.drew=.ok (goInt (n-i)) (W1.drew.setRow H R2.toArray):=fun ty dc sc=>by
  have:=uh (P:=Tryz.prog) W1.drew 97 97 ty 174 3 Tryz.underlying97 Gl H ((i+m)*3) (n+m-(i+m)) dc (some (Ad pb (i*3))) (n-i) sc R1 174 hg1 DS (by rw[hDl];simp only[Dm];split <;> omega) (fun _=>⟨_,rfl,fun j u hu=>by
   obtain⟨ad,e,hc⟩:=Hy.o (by omega);injection e with e;subst e;have:=hc (i*3+j) u (by rw[hDS,Vl] at hu;exact hu);rw[tO] at this ⊢;rw[lZ] at this;exact(kp1.cell (p:=(Ad pb (i*3+j))) hpb).trans this⟩) (by omega) (fun u hu=>H1P.o u (by rw[hDS] at hu;exact Vp hu))
  rw[this,<- hR2];congr 2;simp only[Dm];split <;> omega
 have hg2:(W1.drew.setRow H R2.toArray).heap[H]?=some (.cells R2.toArray 174 (0,0)):=tM W1.drew H _ _ _ _ hg1;have kp2:Below w.heap.size w (W1.drew.setRow H R2.toArray):=below_setRow kp1.drew (by omega) _;have dB:Hid (oH lo (.slice (some (Ad pb 0)) n cap) (ps.take i++(zs++ps.drop i)) w (.returned (.slice (some (Ad H 0)) (n+m) G)) (W1.drew.setRow H R2.toArray)):=by
  have hl:(ps.take i++(zs++ps.drop i)).length=n+m:=by rw[fM,fM,vT,J0,<- Yy,<- hme];omega
  refine⟨_,rfl,?_,aC.bZ kp2,fun b hb=>.inr (by have:some H=some b:=hb;injection this;omega)⟩;rw[hl];have hx:(ps.take i++(zs++ps.drop i)).flatMap bw=R2.take ((n+m)*3):=by
   rw[afE,hXS,hZS,hDS,hXS,Eh,Lv,xO,xO]
  rw[hx];exact⟨by rw[vT,afF];omega,.inr ⟨H,G,R2.toArray,rfl,hlo,hg2,hGn,aj1,by omega,by simp⟩⟩
 obtain⟨P,hP⟩:=ex (oH lo (.slice (some (Ad pb 0)) n cap) (ps.take i++(zs++ps.drop i)) w);rw[<- hP] at dB ⊢;have hm0:((m:Int)==0)=false:=by rw[kF];omega
 have au7:((i:Int)==(n:Int))=false:=by rw[kF];omega
 have hw1:IntKind.i64.wrap ((i:Int)+(m:Int))=(i:Int)+(m:Int):=vN _ (by omega);have hb1:(0:Int)<=(i:Int)+(m:Int):=by omega
 have htn:((i:Int)+(m:Int)).toNat=i+m:=by omega
 have hb2:¬(G=i+m):=by omega
 have hb3:(i:Int)<=(n:Int):=by omega
 have hb4:¬(cap=i):=by omega
 have Fm:¬(G=i):=by omega
 have hr2:(cap:Int)<(n:Int)+(m:Int):=by omega
 have apP:G<=9223372036854775807:=by unfold maxLen at aj1;omega
 clear h hz Yy hme hXS hZS hDS hDl JQ hR2 hW1 hW0 hR hRl hRt ajX afF afE hlx hlz hP hg0 hg1 hg2 kp0 kp1 kp2 HFZ Hy H1 H1P aj1 hG hH hold hin hz0 hz1 hz2 hik hkk;go_enter Tryz.func299,Tryz.ntmps299;go_wp2_with (first
  | (at_builtin;refine Lib.wpList_append_run _ rfl _ _ _ _ rfl _ _ rfl rfl _ _ (hrz _) ?_)
  | (at_builtin;refine Ot _ rfl _ _ 97 97 rfl _ _ rfl rfl (afx _ _) ?_))
 go_region_law (refine SD rfl _ _ 97 97 rfl _ _ (by simp[Act.eval,Act.put]) (by simp[Act.eval,Act.put]) (ajP _ _ _) ?_)
 go_wp2;exact dB.o
theorem TD (lo:Nat) (ps zs:List bD) (vp vz:Value) (wz i:Nat) (w:World) (h:w.ownsRow lo 174 3 vp ps.length (ps.flatMap bw)) (hz:w.ownsRow wz 174 3 vz zs.length (zs.flatMap bw)) (hlo:lo<=w.heap.size) (hne:∀b,bX vz b->¬bX vp b) (hi:i<=ps.length) (hm:1<=zs.length) (hn:ps.length<=100000) (Hh:zs.length<=100000) :
  Calls Tryz.prog 299 #[vp,I (i:Int),vz] w (oH lo vp (ps.take i++(zs++ps.drop i)) w):=by
 obtain⟨ao,cap,rfl,Hi,hg⟩:=bg h;obtain⟨az,cz,rfl,_,hgz⟩:=bg hz;by_cases c:i=ps.length
 · subst c;have e:ps.take ps.length++(zs++ps.drop ps.length)=ps++zs:=by grind
   rw[e];exact TC lo ps zs ao az cap cz wz w h hz hlo hm hn Hh
 · obtain⟨pb,rfl,_,_⟩:=hg (by omega);obtain⟨zb,rfl,_,_⟩:=hgz (by omega);by_cases d:ps.length+zs.length<=cap
   · exact OQ lo ps zs pb zb cap cz wz i w h hz (fun e=>hne zb rfl (by rw[e];rfl)) (by omega) hm hn Hh d
   · exact Ri lo ps zs pb zb cap cz wz i w h hz hlo (by omega) hm hn Hh (by omega)
end Go.Proofs.YtlgoihmkgaaemaaGreat
