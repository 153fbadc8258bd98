import Derived.Test.YtpgifpeohlllfaaGreatGP00
import Derived.Test.YtpgifpeohlllfaaGreatGP19
import Derived.Test.YtpgifpeohlllfaaGreatGP13
set_option maxHeartbeats 20000000
set_option linter.unusedVariables false
set_option maxRecDepth 100000
set_option linter.unusedSimpArgs false
namespace Go.Proofs.YtpgifpeohlllfaaGreat
namespace KM
open Go.RowKit
theorem ik {es:List En} {p:Int} {e:En} (h:aT es p=some e):e∈es:=List.mem_of_find?_eq_some h
theorem MO {es:List En} {p:Int} {e:En} (h:aT es p=some e):e.page=p:=by
 have:=List.find?_some h
 simpa using this
theorem OC {a b:Kn} {m n:Nat} {p:Int} (hE:aT (aq a.aj m).au p=aT (aq b.aj n).au p) (hd:∀x,aT (aq a.aj m).au p=some x->(x.kind=1->(aD a.frames x.loc.toNat).data=(aD b.frames x.loc.toNat).data)/\(x.kind≠1->(bk a.slots x.loc.toNat).data=(bk b.slots x.loc.toNat).data)) (hf:aT (aq a.aj m).au p=none->dh a.ak p (AM.aK (aq a.aj m).aA p).1.zero=dh b.ak p (AM.aK (aq b.aj n).aA p).1.zero):cK a m p=cK b n p:=by
 unfold cK
 rw[<- hE]
 cases g:aT (aq a.aj m).au p with
 | none=>exact hf g
 | some x =>
  have:=hd x g
  by_cases c:x.kind=1
  · simp only[if_pos c];exact this.1 c
  · simp only[if_neg c];exact this.2 c
theorem Ic (l:List Sp) (s:Sp) (m:Nat):aq (l++[s]) m=if m<l.length then aq l m else if m=l.length then s else DN:=by
 unfold aq
 rw[List.getD_eq_getElem?_getD,List.getD_eq_getElem?_getD]
 by_cases h:m<l.length
 · rw[if_pos h,List.getElem?_append_left h]
 · rw[if_neg h,List.getElem?_append_right (by omega)]
   by_cases h2:m=l.length
   · rw[if_pos h2,h2,Nat.sub_self];rfl
   · rw[if_neg h2]
     obtain⟨d,hd⟩:∃d,m-l.length=d+1:=⟨m-l.length-1,by omega⟩
     rw[hd];rfl
end KM
namespace KO
open Go.RowKit GK
open FW (ai aC)
open KW (bE bD aI aU fe cO aH)
open KS (Lc bO oD dm blk cT)
variable {lo mb:Nat} {tt:TypeId} {X:List Value} {w:World} {S:St} {k:KM.Kn}
theorem s9 (L:List Lc) (l:Lc) (k:Nat):dm (L++[l]) k=if k<L.length then dm L k else if k=L.length then l else oD:=by
 unfold dm
 rw[List.getD_eq_getElem?_getD,List.getD_eq_getElem?_getD]
 by_cases h:k<L.length
 · rw[if_pos h,List.getElem?_append_left h]
 · rw[if_neg h,List.getElem?_append_right (by omega)]
   by_cases h2:k=L.length
   · rw[if_pos h2,h2,Nat.sub_self];rfl
   · rw[if_neg h2]
     obtain⟨d,hd⟩:∃d,k-L.length=d+1:=⟨k-L.length-1,by omega⟩
     rw[hd];rfl
def tq (S:St) (v:Value) (l:Lc):Nat->Lb:=fun b=>if v.ownBlock=some b then .aj else if l.va.ownBlock=some b then .aA S.L.length else if l.vp.ownBlock=some b then .au S.L.length else S.lab b
theorem Km.push {w2 w4:World} {v':Value} {l:Lc} {s:KM.Sp} {O:Obj} (h:Km lo mb tt X w S k) (hlo:lo<=w.heap.size) (hb2:Below w.heap.size w w2)
  (O9:cT w.heap.size w2 l s) (hne:∀b,blk l.vp b->¬blk l.va b) (hgr:(w2.alloc O).grownBy w4 S.vP.ownBlock) (hown:w4.ownsRow lo 43 3 v' (S.L.length+1) (S.L.flatMap bO++bO l))
  (hat:v'.ownBlock=S.vP.ownBlock∨v'.ownBlock=some (w2.alloc O).heap.size) :
  Km lo mb tt X (w4.setCell (Ad mb 3) v') ⟨tq S v' l,S.vS,S.vF,S.vL,v',S.L++[l]⟩ { k with aj:=k.aj++[s] }/\(∀b,b<w.heap.size->S.lab b=.no->tq S v' l b=.no)/\Kp (fun b=>S.lab b≠.no) w (w4.setCell (Ad mb 3) v'):=by
 have s1:=hb2.size
 have s2:=hgr.size
 have hz:(w2.alloc O).heap.size=w2.heap.size+1:=World.size_alloc _ _
 rw[hz] at s2 hat
 have kA:Kp (blk S.vP) w w2:=Kp.aW hb2
 have kB:Kp (blk S.vP) w2 (w2.alloc O):=Kp.alloc _ w2 O
 have kC:Kp (blk S.vP) (w2.alloc O) w4:=Kp.grown hgr (fun _ e=>e)
 have kD:=kA.trans (kB.trans kC (fun _ _ g=>g)) (fun _ _ g=>g)
 have mM:Kp (fun b=>b=mb) w4 (w4.setCell (Ad mb 3) v'):=Kp.set _ _ _ _ rfl
 have eA:∀b,blk l.va b∨blk l.vp b->w.heap.size<=b/\b<w2.heap.size:=fun b hb=>by
  rcases hb with g | g
  · exact O9.aA.lt b g
  · exact O9.aB.lt b g
 have hvb:∀b,blk S.vP b->b<w.heap.size:=fun b hb=>(h.aj.lt b hb).2
 have hv4:∀b,blk v' b->blk S.vP b∨b=w2.heap.size+1:=fun b hb=>by
  unfold blk at hb ⊢
  rcases hat with e | e
  · exact .inl (by rw[<- e];exact hb)
  · right
    rw[e] at hb
    injection hb with hb
    exact hb.symm
 have hmb:=B.isLt h.head
 have old:∀b c,S.lab b=c->c≠.no->c≠.aj->tq S v' l b=c:=fun b c e h1 h2=>by
  have hb:=(h.mW b (by rw[e];exact h1)).2
  unfold tq
  rw[if_neg,if_neg,if_neg,e]
  · intro x;have:=eA b (.inr x);omega
  · intro x;have:=eA b (.inl x);omega
  · intro x
    rcases hv4 b x with g | g
    · exact h2 (by rw[<- e];exact h.lP b g)
    · omega
 have lsp:∀b,S.lab b=.aj->tq S v' l b=.aj:=fun b e=>by
  have hb:=(h.mW b (by rw[e];simp)).2
  unfold tq
  by_cases c:v'.ownBlock=some b
  · rw[if_pos c]
  · rw[if_neg c,if_neg,if_neg,e]
    · intro x;have:=eA b (.inr x);omega
    · intro x;have:=eA b (.inl x);omega
 have zD:∀{b:Nat} {c:Lb},S.lab b=c->c≠.aj->¬blk S.vP b:=fun e hc x=>hc (by rw[<- e];exact h.lP _ x)
 have zH:∀{b:Nat} {c:Lb},S.lab b=c->c≠.head->¬b=mb:=fun e hc x=>hc (by rw[<- e,x];exact h.lH)
 have row:∀{e:TypeId} {n m:Nat} {v:Value} {xs:List Value},w.ownsRow lo e n v m xs->(∀b,blk v b->¬blk S.vP b/\¬b=mb)->(w4.setCell (Ad mb 3) v').ownsRow lo e n v m xs:=fun hr hq=>mM.row (kD.row hr (fun b hb=>(hq b hb).1)) (fun b hb=>(hq b hb).2)
 have hle:(S.L++[l]).length=S.L.length+1:=by simp
 have hlen:=h.len
 refine⟨⟨⟨fun b hb=>?_,row h.ak (fun b hb=>⟨zD (h.lS b hb) (by simp),zH (h.lS b hb) (by simp)⟩),fun i hi=>row (h.bq i hi) (fun b hb=>⟨zD (h.lX i hi b hb) (by simp),zH (h.lX i hi b hb) (by simp)⟩),row h.frames (fun b hb=>⟨zD (h.lF b hb) (by simp),zH (h.lF b hb) (by simp)⟩),row h.slots (fun b hb=>⟨zD (h.lL b hb) (by simp),zH (h.lL b hb) (by simp)⟩),?_,?_,fun i hi=>?_,fun b hb=>old b _ (h.lS b hb) (by simp) (by simp),fun i hi b hb=>old b _ (h.lX i hi b hb) (by simp) (by simp),fun b hb=>old b _ (h.lF b hb) (by simp) (by simp),fun b hb=>old b _ (h.lL b hb) (by simp) (by simp),fun b hb=>if_pos hb,fun i hi b hb=>?_,fun i hi b hb=>?_⟩,?_,old mb _ h.lH (by simp) (by simp)⟩,fun b hb e=>?_,?_⟩
 · have hb:tq S v' l b≠.no:=hb
   have hs4:(w4.setCell (Ad mb 3) v').heap.size=w4.heap.size:=by simp
   rw[hs4]
   unfold tq at hb
   by_cases c:v'.ownBlock=some b
   · exact hown.lt b c
   · rw[if_neg c] at hb
     by_cases d:l.va.ownBlock=some b
     · have:=eA b (.inl d);omega
     · rw[if_neg d] at hb
       by_cases e:l.vp.ownBlock=some b
       · have:=eA b (.inr e);omega
       · rw[if_neg e] at hb
         have:=h.mW b hb;omega
 · show World.ownsRow _ lo _ 3 v' (S.L++[l]).length _
   rw[hle,List.flatMap_append]
   have:w4.ownsRow lo 43 3 v' (S.L.length+1) (S.L.flatMap bO++[l].flatMap bO):=by simpa using hown
   exact mM.row this (fun b hb e=>by
    rcases hv4 b hb with g | g
    · exact zH (h.lP b g) (by simp) e
    · omega)
 · show(S.L++[l]).length=(k.aj++[s]).length
   simp[hlen]
 · have hi:i<(k.aj++[s]).length:=hi
   rw[List.length_append,List.length_singleton] at hi
   show cT lo _ (dm (S.L++[l]) i) (KM.aq (k.aj++[s]) i)
   rw[s9,KM.Ic,hlen]
   by_cases c:i<k.aj.length
   · rw[if_pos c,if_pos c]
     exact((h.each i c).kp kD (fun b hb=>zD (h.lA i c b hb) (by simp)) (fun b hb=>zD (h.lE i c b hb) (by simp))).kp mM (fun b hb=>zH (h.lA i c b hb) (by simp)) (fun b hb=>zH (h.lE i c b hb) (by simp))
   · have e:i=k.aj.length:=by omega
     rw[if_neg c,if_neg c,if_pos e,if_pos e]
     refine((O9.mono hlo).kp (kB.trans kC (fun _ _ g=>g)) (fun b hb g=>?_) (fun b hb g=>?_)).kp mM (fun b hb e=>?_) (fun b hb e=>?_)
     · have:=hvb b g;have:=eA b (.inl hb);omega
     · have:=hvb b g;have:=eA b (.inr hb);omega
     · have:=eA b (.inl hb);omega
     · have:=eA b (.inr hb);omega
 · have hi:i<(k.aj++[s]).length:=hi
   rw[List.length_append,List.length_singleton] at hi
   have hb:blk (dm (S.L++[l]) i).va b:=hb
   rw[s9,hlen] at hb
   by_cases c:i<k.aj.length
   · rw[if_pos c] at hb
     exact old b _ (h.lA i c b hb) (by simp) (by simp)
   · have e:i=k.aj.length:=by omega
     rw[if_neg c,if_pos e] at hb
     have hx:=eA b (.inl hb)
     show tq S v' l b=.aA i
     unfold tq
     rw[if_neg,if_pos (show l.va.ownBlock=some b from hb),e,hlen]
     intro x
     rcases hv4 b x with g | g
     · have:=hvb b g;omega
     · omega
 · have hi:i<(k.aj++[s]).length:=hi
   rw[List.length_append,List.length_singleton] at hi
   have hb:blk (dm (S.L++[l]) i).vp b:=hb
   rw[s9,hlen] at hb
   by_cases c:i<k.aj.length
   · rw[if_pos c] at hb
     exact old b _ (h.lE i c b hb) (by simp) (by simp)
   · have e:i=k.aj.length:=by omega
     rw[if_neg c,if_pos e] at hb
     have hx:=eA b (.inr hb)
     show tq S v' l b=.au i
     unfold tq
     rw[if_neg,if_neg (show ¬l.va.ownBlock=some b from hne b hb),if_pos (show l.vp.ownBlock=some b from hb),e,hlen]
     intro x
     rcases hv4 b x with g | g
     · have:=hvb b g;omega
     · omega
 · have:w4.heap[mb]?=some (.cells ([S.vS,S.vF,S.vL,S.vP,I k.hand]++X).toArray tt (0,0)):=kD.keep h.head (fun x=>by have:=h.lP mb x;rw[h.lH] at this;simp at this)
   rw[B.set this 3 v']
   simp
 · unfold tq
   rw[if_neg,if_neg,if_neg,e]
   · intro x;have:=eA b (.inr x);omega
   · intro x;have:=eA b (.inl x);omega
   · intro x
     rcases hv4 b x with g | g
     · have:=h.lP b g;rw[e] at this;simp at this
     · omega
 · exact(kD.mono (fun b _ g=>by rw[h.lP b g];simp)).trans mM (fun b _ e=>by rw[e,h.lH];simp)
end KO
namespace KO
open Go.RowKit GK
open FW (ai aC)
open KW (bE bD aI aU fe cO aH dH)
open KS (Lc bO oD dm blk cT)
variable {lo mb:Nat} {tt:TypeId} {X:List Value} {w:World} {S:St} {k:KM.Kn}
theorem Km.c0 (h:Km lo mb tt X w S k):w.cell? (Ad mb 0)=some S.vS:=B.cell h.head 0 (by simp)
theorem Km.c1 (h:Km lo mb tt X w S k):w.cell? (Ad mb 1)=some S.vF:=B.cell h.head 1 (by simp)
theorem Km.c2 (h:Km lo mb tt X w S k):w.cell? (Ad mb 2)=some S.vL:=B.cell h.head 2 (by simp)
theorem Km.c3 (h:Km lo mb tt X w S k):w.cell? (Ad mb 3)=some S.vP:=B.cell h.head 3 (by simp)
theorem Km.c4 (h:Km lo mb tt X w S k):w.cell? (Ad mb 4)=some (I k.hand):=B.cell h.head 4 (by simp)
theorem Km.cx (h:Km lo mb tt X w S k) (n:Nat) {v:Value} (hv:X[n]?=some v):w.cell? (Ad mb (5+n))=some v:=B.cell h.head (5+n) (by
 rw[List.getElem?_toArray,List.getElem?_append_right (by simp),<- hv]
 congr 1
 simp)
theorem Km.free (h:Km lo mb tt X w S k) (j:Nat):w.frozen? (Ad mb j)=false:=B.free h.head j
theorem Km.lt (h:Km lo mb tt X w S k):mb<w.heap.size:=B.isLt h.head
theorem Km.lo_le (h:Km lo mb tt X w S k):lo<=mb:=(h.mW mb (by rw[h.lH];simp)).1
structure abr (w:World) (S:St) (k:KM.Kn) (fb cF:Nat):Prop where
 v:S.vF=.slice (some (Ad fb 0)) k.frames.length cF
 x0:∀i,i<k.frames.length->w.cell? (Ad fb (i*4))=some (.string (KM.aD k.frames i).data)
 x1:∀i,i<k.frames.length->w.cell? (Ad fb (i*4+1))=some (I (KM.aD k.frames i).refs)
 x2:∀i,i<k.frames.length->w.cell? (Ad fb (i*4+2))=some (.bool (KM.aD k.frames i).bW)
 x3:∀i,i<k.frames.length->w.cell? (Ad fb (i*4+3))=some (.bool (KM.aD k.frames i).seen)
 fz:∀j,w.frozen? (Ad fb j)=false
 lt:fb<w.heap.size
 lab:S.lab fb=.frames
 cap:k.frames.length<=cF
theorem Kr.fr (h:Kr lo w S k) (hn:0<k.frames.length):∃fb cF,abr w S k fb cF:=by
 obtain⟨ao,cap,e,hc,hg⟩:=aR h.frames
 obtain⟨g,rfl,hg1,hg2⟩:=hg hn
 have hr:=h.frames
 rw[e] at hr
 have at_:=fun i (hi:i<k.frames.length) j (hj:j<4)=>iu bE (fun _=>rfl) KM.l9 hr i j hi hj
 exact⟨g,cap,e,fun i hi=>at_ i hi 0 (by omega),fun i hi=>at_ i hi 1 (by omega),fun i hi=>at_ i hi 2 (by omega),fun i hi=>at_ i hi 3 (by omega),cV hr,hg2,h.lF g (by rw[e];rfl),hc⟩
structure aaq (w:World) (S:St) (k:KM.Kn) (fb cF:Nat):Prop where
 v:S.vL=.slice (some (Ad fb 0)) k.slots.length cF
 x0:∀i,i<k.slots.length->w.cell? (Ad fb (i*2))=some (.string (KM.bk k.slots i).data)
 x1:∀i,i<k.slots.length->w.cell? (Ad fb (i*2+1))=some (I (KM.bk k.slots i).refs)
 fz:∀j,w.frozen? (Ad fb j)=false
 lt:fb<w.heap.size
 lab:S.lab fb=.slots
theorem Kr.sl (h:Kr lo w S k) (hn:0<k.slots.length):∃fb cF,aaq w S k fb cF:=by
 obtain⟨ao,cap,e,hc,hg⟩:=aR h.slots
 obtain⟨g,rfl,hg1,hg2⟩:=hg hn
 have hr:=h.slots
 rw[e] at hr
 have at_:=fun i (hi:i<k.slots.length) j (hj:j<2)=>iu bD (fun _=>rfl) KM.xY hr i j hi hj
 exact⟨g,cap,e,fun i hi=>at_ i hi 0 (by omega),fun i hi=>at_ i hi 1 (by omega),cV hr,hg2,h.lL g (by rw[e];rfl)⟩
structure aap (w:World) (S:St) (k:KM.Kn) (pb cP:Nat):Prop where
 v:S.vP=.slice (some (Ad pb 0)) k.aj.length cP
 x0:∀i,i<k.aj.length->w.cell? (Ad pb (i*3))=some (.bool (KM.aq k.aj i).live)
 x1:∀i,i<k.aj.length->w.cell? (Ad pb (i*3+1))=some (dm S.L i).va
 x2:∀i,i<k.aj.length->w.cell? (Ad pb (i*3+2))=some (dm S.L i).vp
 fz:∀j,w.frozen? (Ad pb j)=false
 lt:pb<w.heap.size
 lab:S.lab pb=.aj
theorem Kr.sp (h:Kr lo w S k) (hn:0<k.aj.length):∃pb cP,aap w S k pb cP:=by
 obtain⟨ao,cap,e,hc,hg⟩:=aR h.aj
 have hl:=h.len
 obtain⟨g,rfl,hg1,hg2⟩:=hg (by omega)
 have hr:=h.aj
 rw[e] at hr
 have at_:=fun i (hi:i<k.aj.length) j (hj:j<3)=>iu bO (fun _=>rfl) oD hr i j (by omega) hj
 exact⟨g,cap,by rw[e,hl],fun i hi=>by rw[<- (h.each i hi).live];exact at_ i hi 0 (by omega),fun i hi=>at_ i hi 1 (by omega),fun i hi=>at_ i hi 2 (by omega),cV hr,hg2,h.lP g (by rw[e];rfl)⟩
theorem Kr.au (h:Kr lo w S k) {i:Nat} (hi:i<k.aj.length):∃ae ce,(dm S.L i).vp=.slice ae (KM.aq k.aj i).au.length ce/\aU aI 3 KM.jz w ae (KM.aq k.aj i).au:=by
 obtain⟨ae,ce,e,_,hr⟩:=jm aI (fun _=>rfl) KM.jz (h.each i hi).aB
 exact⟨ae,ce,e,hr⟩
theorem Kr.aA (h:Kr lo w S k) {i:Nat} (hi:i<k.aj.length):AW.Has w (dm S.L i).va (KM.aq k.aj i).aA:=(h.each i hi).aA.has
end KO
namespace KX
open Go.RowKit GK KO
open FW (ai aC)
open KW (bE bD aI aU fe cO aH dH bQ)
open KS (Lc bO oD dm blk cT)
def fH (lo mb:Nat) (tt:TypeId) (X:List Value) (w:World) (S:St) (v:Value) (k':KM.Kn) (e:Ending) (w':World):Prop:=e=.returned v/\∃S',Km lo mb tt X w' S' k'/\Ch S w S' w'
def mS (lo mb:Nat) (tt:TypeId) (X:List Value) (w:World) (S:St) (v:Value) (k':KM.Kn) (e:Ending) (w':World):Prop:=e=.returned v/\Km lo mb tt X w' S k'/\Ch S w S w'
theorem tI {lo mb:Nat} {tt:TypeId} {X:List Value} (k:KM.Kn) (S:St) (w:World) (e:KM.En) (d:Int) (h:Km lo mb tt X w S k) (h1:e.kind=1->0<=e.loc/\e.loc<(k.frames.length:Int)) (h2:e.kind≠1->0<=e.loc/\e.loc<(k.slots.length:Int)) (hd:d=1∨d=-1)
  (hr:(e.kind=1->-1000000<=(KM.aD k.frames e.loc.toNat).refs/\(KM.aD k.frames e.loc.toNat).refs<=1000000)/\(e.kind≠1->-1000000<=(KM.bk k.slots e.loc.toNat).refs/\(KM.bk k.slots e.loc.toNat).refs<=1000000)) :
  Calls Tryz.prog 85 #[.pointer (some (Ad mb 0)),dH e,I d] w (mS lo mb tt X w S (.tuple #[]) (KM.fP k e d)):=by
 obtain⟨pg,kd,lc⟩:=e
 unfold dH
 simp only at h1 h2 hr ⊢
 have bI:=ai ((Below.refl w.heap.size w).alloc (Nat.le_refl _) (.cells #[I pg,I kd,I lc] 45))
 have EB:=ai (B.new w #[I pg,I kd,I lc] 45)
 have HM:=ai (h.below bI.o)
 have YA:Hid (Ch S w S (w.alloc (.cells #[I pg,I kd,I lc] 45))):=Ch.below bI.o
 by_cases c:kd=1
 · obtain⟨i,rfl⟩:∃i:Nat,lc=(i:Int):=⟨lc.toNat,by have:=h1 c;omega⟩
   have hi:i<k.frames.length:=by have:=h1 c;omega
   obtain⟨fb,cF,A⟩:=HM.o.toKr.fr (by omega)
   have SE:=hr.1 c
   rw[Int.toNat_natCast] at SE
   have x1:=A.x1 i hi
   have x0:=A.x0 i hi
   have x2:=A.x2 i hi
   have x3:=A.x3 i hi
   have f0:=A.fz (i*4)
   have f1:=A.fz (i*4+1)
   have f2:=A.fz (i*4+2)
   have f3:=A.fz (i*4+3)
   have c1:=HM.o.c1
   rw[A.v] at c1
   have e0:(w.alloc (.cells #[I pg,I kd,I (i:Int)] 45)).cell? (Ad w.heap.size 1)=some (I kd):=B.cell EB.o 1 rfl
   have e2:(w.alloc (.cells #[I pg,I kd,I (i:Int)] 45)).cell? (Ad w.heap.size 2)=some (I (i:Int)):=B.cell EB.o 2 rfl
   have zm:(i:Int)<(k.frames.length:Int):=by omega
   have bh:Hid (∀V,(∃f,V=((w.alloc (.cells #[I pg,I kd,I (i:Int)] 45)).setCell (Ad fb (i*4+1)) (I ((KM.aD k.frames i).refs+d))).drew/\f=KM.aD k.frames i/\¬f.refs+d=0)∨(∃f,f=KM.aD k.frames i/\f.refs+d=0/\V=((((((w.alloc (.cells #[I pg,I kd,I (i:Int)] 45)).setCell (Ad fb (i*4+1)) (I ((KM.aD k.frames i).refs+d))).setCell (Ad fb (i*4)) (.string ⟨#[]⟩)).setCell (Ad fb (i*4+1)) (I 0)).setCell (Ad fb (i*4+2)) (.bool false)).setCell (Ad fb (i*4+3)) (.bool false)).drew)->mS lo mb tt X w S (.tuple #[]) (KM.fP k ⟨pg,kd,(i:Int)⟩ d) (.returned (.tuple #[])) V):=fun V hV=>by
    have hk:KM.fP k ⟨pg,kd,(i:Int)⟩ d={ k with frames:=k.frames.set i (KM.Dp (KM.aD k.frames i) d) }:=by
     unfold KM.fP
     rw[if_pos c,Int.toNat_natCast]
    rw[hk]
    have HD:=HM.o
    have CD:=YA.o
    have NU:∀V:World,Below V.heap.size V V.drew:=fun V=>(Below.refl _ _).drew
    have m1:=HD.sP A.v hi (j:=1) (by omega) (f:=⟨(KM.aD k.frames i).data,(KM.aD k.frames i).refs+d,(KM.aD k.frames i).bW,(KM.aD k.frames i).seen⟩) (u:=I ((KM.aD k.frames i).refs+d)) rfl
    have Tn:=CD.trans (MW HD.toKr A.v (i:=i*4+1) (u:=I ((KM.aD k.frames i).refs+d)))
    rcases hV with⟨f,rfl,rfl,hz⟩ | ⟨f,rfl,hz,rfl⟩
    · unfold KM.Dp
      rw[if_neg hz]
      exact⟨rfl,m1.below (NU _),Tn.trans (Ch.below (NU _))⟩
    · unfold KM.Dp
      rw[if_pos hz]
      have m2:=m1.LP A.v (i:=i) (by simpa using hi) KM.l9
      simp only[List.set_set] at m2
      exact⟨rfl,m2.1.below (NU _),(Tn.trans m2.2).trans (Ch.below (NU _))⟩
   obtain⟨P,hP⟩:=ex (mS lo mb tt X w S (.tuple #[]) (KM.fP k ⟨pg,kd,(i:Int)⟩ d))
   rw[<- hP] at bh ⊢
   obtain⟨F,hF⟩:=ex (KM.aD k.frames i)
   rw[<- hF] at x0 x1 x2 x3 SE bh
   obtain⟨n,hn⟩:=ex k.frames.length
   rw[<- hn] at c1 zm
   have kb:(kd==1)=true:=by simpa using c
   have hw:IntKind.i64.wrap (F.refs+d)=F.refs+d:=IntWalk.i64_in _ (by omega)
   have HHF:=ai hF
   have hin:i<n:=by omega
   have DV:n<=140737488351232∨True:=.inr trivial
   clear h1 h2 hr h hP hF hn HM YA A EB bI c hd SE DV hi
   by_cases z:F.refs+d=0
   · have zb:(F.refs+d==0)=true:=by simpa using z
     have HZ:=ai z
     clear z
     go_enter Tryz.func85,Tryz.ntmps85
     go_upto_region 2 with fail
     go_region
     go_wp2
     refine bodyPost_ret (v:=.tuple #[]) (by simp[results,Tryz.results85,go_sem]) rfl ?_
     exact bh.o _ (.inr ⟨F,rfl,HZ.o,rfl⟩)
   · have zb:(F.refs+d==0)=false:=by simpa using z
     have HZ:=ai z
     clear z
     go_enter Tryz.func85,Tryz.ntmps85
     go_upto_region 2 with fail
     go_region
     go_wp2
     refine bodyPost_ret (v:=.tuple #[]) (by simp[results,Tryz.results85,go_sem]) rfl ?_
     exact bh.o _ (.inl ⟨F,rfl,rfl,HZ.o⟩)
 · obtain⟨i,rfl⟩:∃i:Nat,lc=(i:Int):=⟨lc.toNat,by have:=h2 c;omega⟩
   have hi:i<k.slots.length:=by have:=h2 c;omega
   obtain⟨fb,cF,A⟩:=HM.o.toKr.sl (by omega)
   have SE:=hr.2 c
   rw[Int.toNat_natCast] at SE
   have x1:=A.x1 i hi
   have x0:=A.x0 i hi
   have f0:=A.fz (i*2)
   have f1:=A.fz (i*2+1)
   have c1:=HM.o.c2
   rw[A.v] at c1
   have e0:(w.alloc (.cells #[I pg,I kd,I (i:Int)] 45)).cell? (Ad w.heap.size 1)=some (I kd):=B.cell EB.o 1 rfl
   have e2:(w.alloc (.cells #[I pg,I kd,I (i:Int)] 45)).cell? (Ad w.heap.size 2)=some (I (i:Int)):=B.cell EB.o 2 rfl
   have zm:(i:Int)<(k.slots.length:Int):=by omega
   have bh:Hid (∀V,(∃f,V=((w.alloc (.cells #[I pg,I kd,I (i:Int)] 45)).setCell (Ad fb (i*2+1)) (I ((KM.bk k.slots i).refs+d))).drew/\f=KM.bk k.slots i/\¬f.refs+d=0)∨(∃f,f=KM.bk k.slots i/\f.refs+d=0/\V=((((w.alloc (.cells #[I pg,I kd,I (i:Int)] 45)).setCell (Ad fb (i*2+1)) (I ((KM.bk k.slots i).refs+d))).setCell (Ad fb (i*2)) (.string ⟨#[]⟩)).setCell (Ad fb (i*2+1)) (I 0)).drew)->mS lo mb tt X w S (.tuple #[]) (KM.fP k ⟨pg,kd,(i:Int)⟩ d) (.returned (.tuple #[])) V):=fun V hV=>by
    have hk:KM.fP k ⟨pg,kd,(i:Int)⟩ d={ k with slots:=k.slots.set i (KM.Dn (KM.bk k.slots i) d) }:=by
     unfold KM.fP
     rw[if_neg c,Int.toNat_natCast]
    rw[hk]
    have HD:=HM.o
    have CD:=YA.o
    have NU:∀V:World,Below V.heap.size V V.drew:=fun V=>(Below.refl _ _).drew
    have m1:=HD.KV A.v hi (j:=1) (by omega) (f:=⟨(KM.bk k.slots i).data,(KM.bk k.slots i).refs+d⟩) (u:=I ((KM.bk k.slots i).refs+d)) rfl
    have Tn:=CD.trans (chL HD.toKr A.v (i:=i*2+1) (u:=I ((KM.bk k.slots i).refs+d)))
    rcases hV with⟨f,rfl,rfl,hz⟩ | ⟨f,rfl,hz,rfl⟩
    · unfold KM.Dn
      rw[if_neg hz]
      exact⟨rfl,m1.below (NU _),Tn.trans (Ch.below (NU _))⟩
    · unfold KM.Dn
      rw[if_pos hz]
      have m2:=m1.UT A.v (i:=i) (by simpa using hi) KM.xY
      simp only[List.set_set] at m2
      exact⟨rfl,m2.1.below (NU _),(Tn.trans m2.2).trans (Ch.below (NU _))⟩
   obtain⟨P,hP⟩:=ex (mS lo mb tt X w S (.tuple #[]) (KM.fP k ⟨pg,kd,(i:Int)⟩ d))
   rw[<- hP] at bh ⊢
   obtain⟨F,hF⟩:=ex (KM.bk k.slots i)
   rw[<- hF] at x0 x1 SE bh
   obtain⟨n,hn⟩:=ex k.slots.length
   rw[<- hn] at c1 zm
   have kb:(kd==1)=false:=by simpa using c
   have hw:IntKind.i64.wrap (F.refs+d)=F.refs+d:=IntWalk.i64_in _ (by omega)
   have HHF:=ai hF
   have hin:i<n:=by omega
   clear h1 h2 hr h hP hF hn HM YA A EB bI c hd SE hi
   by_cases z:F.refs+d=0
   · have zb:(F.refs+d==0)=true:=by simpa using z
     have HZ:=ai z
     clear z
     go_enter Tryz.func85,Tryz.ntmps85
     go_upto_region 6 with fail
     go_region
     go_wp2
     refine bodyPost_end (v:=.tuple #[]) (by simp[results,Tryz.results85,go_sem]) rfl ?_
     exact bh.o _ (.inr ⟨F,rfl,HZ.o,rfl⟩)
   · have zb:(F.refs+d==0)=false:=by simpa using z
     have HZ:=ai z
     clear z
     go_enter Tryz.func85,Tryz.ntmps85
     go_upto_region 6 with fail
     go_region
     go_wp2
     refine bodyPost_end (v:=.tuple #[]) (by simp[results,Tryz.results85,go_sem]) rfl ?_
     exact bh.o _ (.inl ⟨F,rfl,rfl,HZ.o⟩)
def jo (held:List Int) (k:KM.Kn) (i:Nat):KM.Kn:=if held.contains (i:Int) then k else { k with frames:=k.frames.set i (KM.unseen (KM.aD k.frames i)) }
theorem Ev {lo mb:Nat} {tt:TypeId} {X:List Value} (k:KM.Kn) (S:St) (w:World) (i:Nat) (held:List Int) (ah:Option Addr) (ch:Nat) (h:Km lo mb tt X w S k) (hi:i<k.frames.length) (hh:aU bQ 1 0 w ah held) (hl:held.length<=1000000) :
  Calls Tryz.prog 188 #[.pointer (some (Ad mb 0)),I (i:Int),.slice ah held.length ch] w (mS lo mb tt X w S (.bool (held.contains (i:Int) || (KM.aD k.frames i).seen)) (jo held k i)):=by
 obtain⟨fb,cF,A⟩:=h.toKr.fr (by omega)
 have Ry:=ai (KW.mQ held (i:Int) ah ch w hh hl)
 have x3:=A.x3 i hi
 have f3:=A.fz (i*4+3)
 have c1:=h.c1
 rw[A.v] at c1
 have zm:(i:Int)<(k.frames.length:Int):=by omega
 rw[<- List.contains_eq_mem] at Ry
 cases hc:held.contains (i:Int) with
 | true =>
  have bh:Hid (mS lo mb tt X w S (.bool (true || (KM.aD k.frames i).seen)) (jo held k i) (.returned (.bool true)) w):=⟨by simp,by unfold jo;rw[if_pos hc];exact h,Ch.refl _ _⟩
  rw[hc] at Ry
  obtain⟨P,hP⟩:=ex (mS lo mb tt X w S (.bool (true || (KM.aD k.frames i).seen)) (jo held k i))
  rw[<- hP] at bh ⊢
  clear hP hc hh h A hi hl x3 f3 c1 zm
  go_enter Tryz.func188,Tryz.ntmps188
  go_wp2_with (go_at_call 95;refine Ry.o.mono ?_;rintro e w1 ⟨rfl,rfl⟩)
  exact bh.o
 | false =>
  have bh:Hid (mS lo mb tt X w S (.bool (false || (KM.aD k.frames i).seen)) (jo held k i) (.returned (.bool (KM.aD k.frames i).seen)) (w.setCell (Ad fb (i*4+3)) (.bool false))):=⟨by simp,by
   unfold jo
   rw[if_neg (by rw[hc];simp)]
   exact h.sP A.v hi (j:=3) (by omega) rfl,MW h.toKr A.v⟩
  rw[hc] at Ry
  obtain⟨P,hP⟩:=ex (mS lo mb tt X w S (.bool (false || (KM.aD k.frames i).seen)) (jo held k i))
  rw[<- hP] at bh ⊢
  obtain⟨F,hF⟩:=ex (KM.aD k.frames i)
  rw[<- hF] at x3 bh
  obtain⟨n,hn⟩:=ex k.frames.length
  rw[<- hn] at c1 zm
  clear hP hc hh h A hi hl hF hn
  go_enter Tryz.func188,Tryz.ntmps188
  go_wp2_with (go_at_call 95;refine Ry.o.mono ?_;rintro e w1 ⟨rfl,rfl⟩)
  exact bh.o
theorem rK {lo mb:Nat} {tt:TypeId} {X:List Value} (k:KM.Kn) (S:St) (w:World) (h:Km lo mb tt X w S k) (hh:0<=k.hand/\k.hand<k.frames.length) (hn:k.frames.length<=1000000) :
  Calls Tryz.prog 189 #[.pointer (some (Ad mb 0))] w (mS lo mb tt X w S (.tuple #[]) { k with hand:=KM.fN k }):=by
 obtain⟨fb,cF,A⟩:=h.toKr.fr (by omega)
 have NU:Below w.heap.size w w.drew:=(Below.refl _ _).drew
 have bh:Hid (∀x,x=KM.fN k->mS lo mb tt X w S (.tuple #[]) { k with hand:=KM.fN k } (.returned (.tuple #[])) (w.setCell (Ad mb 4) (I x)).drew):=fun x hx=>by
  rw[hx]
  have:=h.Ox (KM.fN k)
  exact⟨rfl,this.1.below (Below.refl _ _).drew,this.2.trans (Ch.below (Below.refl _ _).drew)⟩
 have hm:(k.hand+1).tmod (k.frames.length:Int)=KM.fN k:=by
  unfold KM.fN
  rw[Int.tmod_eq_emod_of_nonneg (by omega)]
 have c1:=h.c1
 rw[A.v] at c1
 have c4:=h.c4
 have f4:=h.free 4
 obtain⟨P,hP⟩:=ex (mS lo mb tt X w S (.tuple #[]) { k with hand:=KM.fN k })
 rw[<- hP] at bh ⊢
 obtain⟨NX,hNX⟩:=ex (KM.fN k)
 rw[<- hNX] at bh hm
 obtain⟨hd,AY⟩:=ex k.hand
 rw[<- AY] at c4 hh hm
 obtain⟨n,hne⟩:=ex k.frames.length
 rw[<- hne] at c1 hh hm hn
 have hw:IntKind.i64.wrap (hd+1)=hd+1:=IntWalk.i64_in _ (by omega)
 have hn0:¬(n:Int)=0:=by omega
 have hnb:((n:Int)==0)=false:=by rw[beq_eq_false_iff_ne];exact hn0
 have hNb:-9223372036854775808<=NX/\NX<=9223372036854775807:=by
  have h1:0<=(hd+1).tmod (n:Int):=Int.tmod_nonneg _ (by omega)
  have h2:(hd+1).tmod (n:Int)<(n:Int):=Int.tmod_lt_of_pos _ (by omega)
  omega
 have hw2:IntKind.i64.wrap NX=NX:=IntWalk.i64_in _ hNb
 clear hP hNX AY hne h A
 go_enter Tryz.func189,Tryz.ntmps189
 go_region
 all_goals go_wp2
 all_goals refine bodyPost_end (v:=.tuple #[]) (by simp[results,Tryz.results189,go_sem]) rfl ?_
 all_goals exact bh.o _ rfl
end KX
namespace KI
open Go.RowKit GK
open KW (aI)
open KS (blk gw)
open FW (ai aC)
theorem eQ (l:KM.En):(aI l).length=3:=rfl
theorem Cc (w:World):(sizeOf 45).run Tryz.prog w=.ok 3 w:=by kernel_rfl
theorem UB (w:World):(zeroValue 45).run Tryz.prog w=.ok (.agg #[I 0,I 0,I 0]) w:=by kernel_rfl
def jV (lo:Nat) (vp:Value) (l:List KM.En) (w:World) (e:Ending) (w':World):Prop:=∃v',e=.returned v'/\w'.ownsRow lo 45 3 v' l.length (l.flatMap aI)/\Kp (blk vp) w w'/\(∀b,blk v' b->blk vp b∨w.heap.size<=b)
theorem iC {α:Type} {w:World} {lo:Nat} {e:TypeId} {k n:Nat} {ao:Option Addr} {cap:Nat} {xs:List Value} (h:w.ownsRow lo e k (.slice ao n cap) n xs):From w ao n xs:=fun hm=>by
 rcases h.2 with⟨h0,h1⟩ | ⟨g,cap',cur,hv,_,hg,_,_,_,ht⟩
 · omega
 · injection hv with e1 e2 e3
   refine⟨(Ad g 0),e1,fun j u hu=>?_⟩
   rw[Addr.add_lit,Nat.zero_add,cell_of_row w g j cur e (0,0) hg]
   rw[<- ht,List.getElem?_take] at hu
   split at hu
   · simpa using hu
   · cases hu
theorem ET (lo:Nat) (ps zs:List KM.En) (ao az:Option Addr) (cap cz wz:Nat) (w:World) (h:w.ownsRow lo 45 3 (.slice ao ps.length cap) ps.length (ps.flatMap aI)) (hz:w.ownsRow wz 45 3 (.slice az zs.length cz) zs.length (zs.flatMap aI)) (hlo:lo<=w.heap.size) (hm:1<=zs.length) (hn:ps.length<=100000) (qK:zs.length<=100000) :
  Calls Tryz.prog 192 #[.slice ao ps.length cap,I (ps.length:Int),.slice az zs.length cz] w (jV lo (.slice ao ps.length cap) (ps++zs) w):=by
 have HH:=ai h
 have HF:=ai (iC (α:=Unit) hz)
 have HL:=ai (bG aI 3 eQ zs)
 have H1:=ai (gw zs)
 obtain⟨_,_,e0,yw,_⟩:=aR h
 injection e0 with e1 e2 e3
 subst e3
 obtain⟨n,hne⟩:=ex ps.length
 obtain⟨m,hme⟩:=ex zs.length
 have bh:Hid (∀v' (w':World),w'.ownsRow lo 45 3 v' (n+m) (ps.flatMap aI++zs.flatMap aI)->Kp (blk (.slice ao n cap)) w w'->(∀b,blk v' b->blk (.slice ao n cap) b∨w.heap.size<=b)->jV lo (.slice ao n cap) (ps++zs) w (.returned v') w'):=fun v' w' h1 h2 h3=>⟨v',rfl,by rw[List.length_append,List.flatMap_append,<- hne,<- hme];exact h1,h2,h3⟩
 rw[<- hne] at HH hn yw ⊢
 rw[<- hme] at HF HL hm qK ⊢
 obtain⟨P,hP⟩:=ex (jV lo (.slice ao n cap) (ps++zs) w)
 rw[<- hP] at bh ⊢
 obtain⟨XS,J4⟩:=ex (ps.flatMap aI)
 obtain⟨ZS,NR⟩:=ex (zs.flatMap aI)
 rw[<- J4] at HH bh
 rw[<- NR] at HF HL H1 bh
 obtain⟨i0,hin,hz0,hz1,hz2⟩:=info_parts AJ
 have qX:=ai hin
 have vh:=ai hz0
 have vg:=ai hz1
 have tM:=ai hz2
 have hm0:((m:Int)==0)=false:=by rw[beq_eq_false_iff_ne];omega
 clear h hz hne hme hP J4 NR hin hz0 hz1 hz2 e1 e2
 go_enter Tryz.func192,Tryz.ntmps192
 go_wp2_with (at_builtin;refine ck (P:=Tryz.prog) rfl _ _ 41 rfl lo 45 i0 (.agg #[I 0,I 0,I 0]) 3 24 Tryz.underlying41 qX.o vh.o vg.o tM.o rfl (by decide) (.slice ao n cap) n XS rfl HH.o az m cz ZS rfl HL.o HF.o H1.o (by unfold maxLen;omega) (by omega) hlo ?_;intro v' w' hown hgr hat;have om:=ai hown;have HG2:=ai hgr;have ma:=ai hat;clear hown hgr hat)
 all_goals
  refine bh.o _ _ om.o (Kp.grown HG2.o (fun _ e=>e)) (fun b hb=>?_)
  unfold blk at hb ⊢
  rcases ma.o with e | e
  · exact .inl (by rw[<- e];exact hb)
  · right
    rw[e] at hb
    injection hb with hb
    omega
theorem take_left' {α:Type} (a b:List α) (n:Nat) (h:a.length=n):(a++b).take n=a:=by subst h;exact List.take_left
theorem drop_left' {α:Type} (a b:List α) (n:Nat) (h:a.length=n):(a++b).drop n=b:=by subst h;exact List.drop_left
theorem Ib {α:Type} (R Y X:List α) (a b:Nat) (hb:b=a+Y.length) (h:b+X.length<=R.length):(splice (splice R a Y) b X).take (b+X.length)=R.take a++(Y++X):=by
 subst hb
 have h1:(splice R a Y).take (a+Y.length)=R.take a++Y:=by
  unfold splice
  rw[<- List.append_assoc]
  exact take_left' _ _ _ (by rw[List.length_append,List.length_take];omega)
 unfold splice at h1 ⊢
 rw[h1,<- List.append_assoc,List.append_assoc (R.take a) Y X]
 exact take_left' _ _ _ (by rw[List.length_append,List.length_take,List.length_append];omega)
theorem Ca {α:Type} (R Y X:List α) (a b:Nat) (hb:b=a+Y.length) (h:b+X.length<=R.length):(splice (splice R b X) a Y).take (b+X.length)=R.take a++(Y++X):=by
 subst hb
 have h1:(splice R (a+Y.length) X).take a=R.take a:=by
  unfold splice
  rw[List.take_append_of_le_length (by rw[List.length_take];omega),List.take_take,Nat.min_eq_left (by omega)]
 have h2:(splice R (a+Y.length) X).drop (a+Y.length)=X++R.drop (a+Y.length+X.length):=by
  unfold splice
  exact drop_left' _ _ _ (by rw[List.length_take];omega)
 have h3:splice (splice R (a+Y.length) X) a Y=R.take a++(Y++(X++R.drop (a+Y.length+X.length))):=by
  rw[<- h2,<- h1]
  rfl
 rw[h3,<- List.append_assoc,<- List.append_assoc,List.append_assoc (R.take a) Y X]
 exact take_left' _ _ _ (by rw[List.length_append,List.length_take,List.length_append];omega)
theorem zJ (ps:List KM.En) (i:Nat):(ps.flatMap aI).drop (i*3)=(ps.drop i).flatMap aI:=by
 induction ps generalizing i with
 | nil=>simp
 | cons a r ih =>
  cases i with
  | zero=>simp
  | succ i =>
   rw[List.flatMap_cons,List.drop_succ_cons,<- ih i,show(i+1)*3=i*3+3 by omega]
   rfl
theorem sM (ps:List KM.En) (i:Nat):(ps.flatMap aI).take (i*3)=(ps.take i).flatMap aI:=by
 induction ps generalizing i with
 | nil=>simp
 | cons a r ih =>
  cases i with
  | zero=>simp
  | succ i =>
   rw[List.flatMap_cons,List.take_succ_cons,List.flatMap_cons,<- ih i,show(i+1)*3=i*3+3 by omega]
   rfl
theorem sO (w:World) (g:Nat) (cs:Array Value):Kp (fun b=>b=g) w (w.setRow g cs):=⟨rfl,rfl,rfl,by simp[World.setRow],fun b _ hn=>setRow_other w g b cs hn⟩
theorem AG (lo:Nat) (ps zs:List KM.En) (pb zb cap cz wz i:Nat) (w:World) (h:w.ownsRow lo 45 3 (.slice (some (Ad pb 0)) ps.length cap) ps.length (ps.flatMap aI)) (hz:w.ownsRow wz 45 3 (.slice (some (Ad zb 0)) zs.length cz) zs.length (zs.flatMap aI)) (hne:zb≠pb) (hi:i<ps.length) (hm:1<=zs.length) (hn:ps.length<=100000) (qK:zs.length<=100000) (hroom:ps.length+zs.length<=cap) :
  Calls Tryz.prog 192 #[.slice (some (Ad pb 0)) ps.length cap,I (i:Int),.slice (some (Ad zb 0)) zs.length cz] w (jV lo (.slice (some (Ad pb 0)) ps.length cap) (ps.take i++(zs++ps.drop i)) w):=by
 have QB:=ai (iC (α:=Unit) hz)
 have pQ:=ai (iC (α:=Unit) h)
 have H1:=ai (gw zs)
 have Od:=ai (gw ps)
 obtain⟨cur,hcz,SQ,hcs,hct,hlo,hcm⟩:∃cur:Array Value,cur.size=cap*3/\w.heap[pb]?=some (.cells cur 45 (0,0))/\cap<=maxLen/\cur.toList.take (ps.length*3)=ps.flatMap aI/\lo<=pb/\ps.length<=cap:=by
  rcases h.2 with⟨h0,_⟩ | ⟨g,cap',cur,hv,hb,hg,h1,h2,h3,h4⟩
  · cases h0
  · injection hv with e1 e2 e3
    injection e1 with e1
    injection e1 with e1 _ _
    subst e1 e3
    exact⟨cur,h3,hg,h2,h4,hb,h1⟩
 obtain⟨Kt,XE,Y8⟩:∃Kt:Array Value,w.heap[zb]?=some (.cells Kt 45 (0,0))/\0<Kt.size:=by
  rcases hz.2 with⟨h0,_⟩ | ⟨g,cap',zc,hv,hb,hg,h1,h2,h3,h4⟩
  · cases h0
  · injection hv with e1 e2 e3
    injection e1 with e1
    injection e1 with e1 _ _
    subst e1
    exact⟨zc,hg,by rw[h3];omega⟩
 have hlx:=bG aI 3 eQ ps
 have E5:=bG aI 3 eQ zs
 obtain⟨R,hR⟩:=ex cur.toList
 have Mu:R.length=cap*3:=by rw[hR];simpa using hcz
 have Z3:w.heap[pb]?=some (.cells R.toArray 45 (0,0)):=by rw[hR];simpa using SQ
 rw[<- hR] at hct
 obtain⟨n,yt⟩:=ex ps.length
 obtain⟨m,hme⟩:=ex zs.length
 obtain⟨XS,J4⟩:=ex (ps.flatMap aI)
 obtain⟨ZS,NR⟩:=ex (zs.flatMap aI)
 rw[<- NR] at QB H1 E5
 rw[<- J4] at pQ hlx hct Od
 rw[<- hme] at QB E5 hm qK hroom ⊢
 rw[<- yt] at pQ hlx hct hi hn hroom hcm ⊢
 obtain⟨DS,MB⟩:=ex (XS.drop (i*3))
 have hDl:DS.length=(n-i)*3:=by rw[MB,List.length_drop,hlx];omega
 obtain⟨R1,sH⟩:=ex (splice R ((i+m)*3) DS)
 have A4:R1.length=cap*3:=by rw[sH,length_splice _ _ _ (by rw[hDl,Mu];omega)];exact Mu
 obtain⟨R2,A3⟩:=ex (splice R1 (i*3) ZS)
 have Fa:R2.length=cap*3:=by rw[A3,length_splice _ _ _ (by rw[E5,A4];omega)];exact A4
 have Mv:R2.take ((n+m)*3)=XS.take (i*3)++(ZS++DS):=by
  have:=Ca R ZS DS (i*3) ((i+m)*3) (by rw[E5];omega) (by rw[hDl,Mu];omega)
  rw[<- sH,<- A3,hDl,show(i+m)*3+(n-i)*3=(n+m)*3 by omega] at this
  rw[this,<- hct,List.take_take,Nat.min_eq_left (by omega)]
 have Mm:∀ty dc sc,(Builtin.copy_ #[41,41] ty #[.slice (some (Ad pb ((i+m)*3))) (n+m-(i+m)) dc,.slice (some (Ad pb (i*3))) (n+m-i) sc]).run Tryz.prog w.drew=.ok (goInt (n-i)) (w.drew.setRow pb R1.toArray):=fun ty dc sc=>by
  have:=jY (P:=Tryz.prog) w.drew 41 41 ty 45 3 Tryz.underlying41 Cc pb ((i+m)*3) (n+m-(i+m)) dc (some (Ad pb (i*3))) (n+m-i) sc R 45 Z3 DS (by rw[hDl];simp only[Nat.min_def];split <;> omega) (fun _=>⟨_,rfl,fun j u hu=>by
   obtain⟨ad,e,hc⟩:=pQ.o (by omega)
   injection e with e
   subst e
   have:=hc (i*3+j) u (by rw[MB,List.getElem?_drop] at hu;exact hu)
   rw[Addr.add_lit] at this ⊢
   rw[Nat.zero_add] at this
   exact this⟩) (by rw[hDl,Mu];omega) (fun u hu=>Od.o u (by rw[MB] at hu;exact List.mem_of_mem_drop hu))
  rw[this,<- sH]
  congr 2
  simp only[Nat.min_def];split <;> omega
 have hg1:(w.drew.setRow pb R1.toArray).heap[pb]?=some (.cells R1.toArray 45 (0,0)):=setRow_heap w.drew pb _ _ _ _ Z3
 obtain⟨W1,hW1⟩:=ex (w.drew.setRow pb R1.toArray)
 rw[<- hW1] at Mm hg1
 have Sq:Kp (fun b=>b=pb) w W1:=by rw[hW1];exact(Kp.drew _ w).trans (sO w.drew pb R1.toArray) (fun _ _ g=>g)
 have SZ:∀ty dc,(Builtin.copy_ #[41,41] ty #[.slice (some (Ad pb (i*3))) (n+m-i) dc,.slice (some (Ad zb 0)) m cz]).run Tryz.prog W1=.ok (goInt m) (W1.setRow pb R2.toArray):=fun ty dc=>by
  have:=jY (P:=Tryz.prog) W1 41 41 ty 45 3 Tryz.underlying41 Cc pb (i*3) (n+m-i) dc (some (Ad zb 0)) m cz R1 45 hg1 ZS (by rw[E5];simp only[Nat.min_def];split <;> omega) (fun _=>⟨_,rfl,fun j u hu=>by
   obtain⟨ad,e,hc⟩:=QB.o (by omega)
   injection e with e
   subst e
   have:=hc j u hu
   exact Sq.cell this (by rw[Addr.add_lit];exact hne)⟩) (by rw[E5,A4];omega) H1.o
  rw[this,<- A3]
  congr 2
  simp only[Nat.min_def];split <;> omega
 have hg2:(W1.setRow pb R2.toArray).heap[pb]?=some (.cells R2.toArray 45 (0,0)):=setRow_heap W1 pb _ _ _ _ hg1
 have bh:Hid (jV lo (.slice (some (Ad pb 0)) n cap) (ps.take i++(zs++ps.drop i)) w (.returned (.slice (some (Ad pb 0)) (n+m) cap)) (W1.setRow pb R2.toArray)):=by
  have hl:(ps.take i++(zs++ps.drop i)).length=n+m:=by rw[List.length_append,List.length_append,List.length_take,List.length_drop,<- yt,<- hme];omega
  refine⟨_,rfl,?_,(Sq.trans (sO W1 pb _) (fun _ _ g=>g)).mono (fun b _ e=>by rw[e];rfl),fun b hb=>.inl hb⟩
  rw[hl]
  have hx:(ps.take i++(zs++ps.drop i)).flatMap aI=R2.take ((n+m)*3):=by
   rw[Mv,J4,NR,MB,J4,sM,zJ,List.flatMap_append,List.flatMap_append]
  rw[hx]
  exact⟨by rw[List.length_take,Fa];omega,.inr ⟨pb,cap,R2.toArray,rfl,hlo,hg2,hroom,hcs,by simpa using Fa,by simp⟩⟩
 obtain⟨P,hP⟩:=ex (jV lo (.slice (some (Ad pb 0)) n cap) (ps.take i++(zs++ps.drop i)) w)
 rw[<- hP] at bh ⊢
 have hov:∀lb cb,(callFunc 205 #[.slice (some (Ad zb 0)) m cz,.slice (some (Ad pb ((i+m)*3))) lb cb]).run Tryz.prog w=.ok (.value (.bool false)) w:=fun lb cb=>by
  rw[run_callFunc_extern Tryz.func205 (by kernel_rfl) (by kernel_rfl) (by kernel_rfl) (e:=Extern.SlicesOverlaps.overlaps #[41,41] #[4]) (by kernel_rfl),
   Lib.run_overlaps_apart w 41 4 45 Tryz.underlying41 3 Cc (Ad zb 0) (Ad pb ((i+m)*3)) m cz lb cb hne 45 45 Kt.size cur.size (by simp[World.shape?,XE]) (by simp[World.shape?,SQ]) (by omega) (B.free XE 0) (B.free XE Kt.size)]
  rfl
 have hm0:((m:Int)==0)=false:=by rw[beq_eq_false_iff_ne];omega
 have hi0:((i:Int)==(n:Int))=false:=by rw[beq_eq_false_iff_ne];omega
 have hw1:IntKind.i64.wrap ((i:Int)+(m:Int))=(i:Int)+(m:Int):=IntWalk.i64_in _ (by omega)
 have hb1:(0:Int)<=(i:Int)+(m:Int):=by omega
 have hin:i<=n:=by omega
 have htn:((i:Int)+(m:Int)).toNat=i+m:=by omega
 have hb2:¬(cap=i+m):=by omega
 have hb3:(i:Int)<=(n:Int)+(m:Int):=by omega
 have hb4:¬(cap=i):=by omega
 have hr2:¬((cap:Int)<(n:Int)+(m:Int)):=by omega
 have VK:cap<=9223372036854775807:=by unfold maxLen at hcs;omega
 clear h hz yt hme J4 NR MB hDl sH A3 hW1 hR Mu Z3 A4 Fa Mv hlx E5 hct SQ hcz XE Y8 hP hg1 hg2 Sq QB pQ H1 Od hcs
 go_enter Tryz.func192,Tryz.ntmps192
 go_wp2_with (simp only[hov])
 go_region_law (refine x8 rfl _ _ 41 41 rfl _ _ (by simp[Act.eval,Act.put]) (by simp[Act.eval,Act.put]) (Mm _ _ _) ?_)
 go_wp2_with (at_builtin;refine uR _ rfl _ _ 41 41 rfl _ _ rfl rfl (SZ _ _) ?_)
 exact bh.o
end KI
end Go.Proofs.YtpgifpeohlllfaaGreat
