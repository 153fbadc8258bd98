import Derived.Test.YtpgifpeohlllfaaGreatGS00
import Derived.Test.YtpgifpeohlllfaaGreatGS16
import Derived.Test.YtpgifpeohlllfaaGreatGS02
import Derived.Test.YtpgifpeohlllfaaGreatGS10
set_option maxHeartbeats 20000000
set_option linter.unusedVariables false
set_option maxRecDepth 100000
set_option linter.unusedSimpArgs false
namespace Go.Proofs.YtpgifpeohlllfaaGreat
namespace KM
open Go.RowKit
theorem jo {es:List En} {p:Int} {e:En} (h:bc es p=some e):e∈es:=List.mem_of_find?_eq_some h
theorem O5 {es:List En} {p:Int} {e:En} (h:bc es p=some e):e.page=p:=by
 have:=List.find?_some h
 simpa using this
theorem QJ {a b:Kn} {m n:Nat} {p:Int} (hE:bc (au a.aj m).aA p=bc (au b.aj n).aA p) (hd:∀x,bc (au a.aj m).aA p=some x->(x.kind=1->(aI a.frames x.loc.toNat).data=(aI b.frames x.loc.toNat).data)/\(x.kind≠1->(bG a.slots x.loc.toNat).data=(bG b.slots x.loc.toNat).data)) (hf:bc (au a.aj m).aA p=none->dY a.ak p (AM.aT (au a.aj m).aD p).1.zero=dY b.ak p (AM.aT (au b.aj n).aD p).1.zero):dB a m p=dB b n p:=by
 unfold dB
 rw[<- hE]
 cases g:bc (au a.aj m).aA p with
 | none=>exact hf g
 | some x =>
  have:=hd x g
  by_cases c:x.kind=1
  · simp only[if_pos c];exact this.1 c
  · simp only[if_neg c];exact this.2 c
theorem JV (l:List Sp) (s:Sp) (m:Nat):au (l++[s]) m=if m<l.length then au l m else if m=l.length then s else Fw:=by
 unfold au
 rw[List.getD_eq_getElem?_getD,List.getD_eq_getElem?_getD]
 by_cases h:m<l.length
 · rw[if_pos h,List.getElem?_append_left h]
 · rw[if_neg h,List.getElem?_append_right (by omega)]
   by_cases h2:m=l.length
   · rw[if_pos h2,h2,Nat.sub_self];rfl
   · rw[if_neg h2]
     obtain⟨d,hd⟩:∃d,m-l.length=d+1:=⟨m-l.length-1,by omega⟩
     rw[hd];rfl
end KM
namespace KO
open Go.RowKit GK
open FW (ai aB)
open KW (bE bD aK aZ fu cI aJ)
open KS (Lc bJ oY dC blk cU)
variable {lo mb:Nat} {tt:TypeId} {X:List Value} {w:World} {S:St} {k:KM.Kn}
theorem uA (L:List Lc) (l:Lc) (k:Nat):dC (L++[l]) k=if k<L.length then dC L k else if k=L.length then l else oY:=by
 unfold dC
 rw[List.getD_eq_getElem?_getD,List.getD_eq_getElem?_getD]
 by_cases h:k<L.length
 · rw[if_pos h,List.getElem?_append_left h]
 · rw[if_neg h,List.getElem?_append_right (by omega)]
   by_cases h2:k=L.length
   · rw[if_pos h2,h2,Nat.sub_self];rfl
   · rw[if_neg h2]
     obtain⟨d,hd⟩:∃d,k-L.length=d+1:=⟨k-L.length-1,by omega⟩
     rw[hd];rfl
def uC (S:St) (v:Value) (l:Lc):Nat->Lb:=fun b=>if v.ownBlock=some b then .aj else if l.va.ownBlock=some b then .aD S.L.length else if l.vp.ownBlock=some b then .aA S.L.length else S.lab b
theorem Km.push {w2 w4:World} {v':Value} {l:Lc} {s:KM.Sp} {O:Obj} (h:Km lo mb tt X w S k) (hlo:lo<=w.heap.size) (hb2:Below w.heap.size w w2)
  (Q8:cU w.heap.size w2 l s) (hne:∀b,blk l.vp b->¬blk l.va b) (hgr:(w2.alloc O).grownBy w4 S.vP.ownBlock) (hown:w4.ownsRow lo 43 3 v' (S.L.length+1) (S.L.flatMap bJ++bJ l))
  (hat:v'.ownBlock=S.vP.ownBlock∨v'.ownBlock=some (w2.alloc O).heap.size) :
  Km lo mb tt X (w4.setCell (Ad mb 3) v') ⟨uC S v' l,S.vS,S.vF,S.vL,v',S.L++[l]⟩ { k with aj:=k.aj++[s] }/\(∀b,b<w.heap.size->S.lab b=.no->uC S v' l b=.no)/\Kp (fun b=>S.lab b≠.no) w (w4.setCell (Ad mb 3) v'):=by
 have s1:=hb2.size
 have s2:=hgr.size
 have hz:(w2.alloc O).heap.size=w2.heap.size+1:=World.size_alloc _ _
 rw[hz] at s2 hat
 have kA:Kp (blk S.vP) w w2:=Kp.aY hb2
 have kB:Kp (blk S.vP) w2 (w2.alloc O):=Kp.alloc _ w2 O
 have kC:Kp (blk S.vP) (w2.alloc O) w4:=Kp.grown hgr (fun _ e=>e)
 have kD:=kA.trans (kB.trans kC (fun _ _ g=>g)) (fun _ _ g=>g)
 have gY:Kp (fun b=>b=mb) w4 (w4.setCell (Ad mb 3) v'):=Kp.set _ _ _ _ rfl
 have eA:∀b,blk l.va b∨blk l.vp b->w.heap.size<=b/\b<w2.heap.size:=fun b hb=>by
  rcases hb with g | g
  · exact Q8.aD.lt b g
  · exact Q8.aH.lt b g
 have hvb:∀b,blk S.vP b->b<w.heap.size:=fun b hb=>(h.aj.lt b hb).2
 have hv4:∀b,blk v' b->blk S.vP b∨b=w2.heap.size+1:=fun b hb=>by
  unfold blk at hb ⊢
  rcases hat with e | e
  · exact .inl (by rw[<- e];exact hb)
  · right
    rw[e] at hb
    injection hb with hb
    exact hb.symm
 have hmb:=B.isLt h.head
 have old:∀b c,S.lab b=c->c≠.no->c≠.aj->uC S v' l b=c:=fun b c e h1 h2=>by
  have hb:=(h.kP b (by rw[e];exact h1)).2
  unfold uC
  rw[if_neg,if_neg,if_neg,e]
  · intro x;have:=eA b (.inr x);omega
  · intro x;have:=eA b (.inl x);omega
  · intro x
    rcases hv4 b x with g | g
    · exact h2 (by rw[<- e];exact h.lP b g)
    · omega
 have lsp:∀b,S.lab b=.aj->uC S v' l b=.aj:=fun b e=>by
  have hb:=(h.kP b (by rw[e];simp)).2
  unfold uC
  by_cases c:v'.ownBlock=some b
  · rw[if_pos c]
  · rw[if_neg c,if_neg,if_neg,e]
    · intro x;have:=eA b (.inr x);omega
    · intro x;have:=eA b (.inl x);omega
 have zD:∀{b:Nat} {c:Lb},S.lab b=c->c≠.aj->¬blk S.vP b:=fun e hc x=>hc (by rw[<- e];exact h.lP _ x)
 have zH:∀{b:Nat} {c:Lb},S.lab b=c->c≠.head->¬b=mb:=fun e hc x=>hc (by rw[<- e,x];exact h.lH)
 have row:∀{e:TypeId} {n m:Nat} {v:Value} {xs:List Value},w.ownsRow lo e n v m xs->(∀b,blk v b->¬blk S.vP b/\¬b=mb)->(w4.setCell (Ad mb 3) v').ownsRow lo e n v m xs:=fun hr hq=>gY.row (kD.row hr (fun b hb=>(hq b hb).1)) (fun b hb=>(hq b hb).2)
 have hle:(S.L++[l]).length=S.L.length+1:=by simp
 have hlen:=h.len
 refine⟨⟨⟨fun b hb=>?_,row h.ak (fun b hb=>⟨zD (h.lS b hb) (by simp),zH (h.lS b hb) (by simp)⟩),fun i hi=>row (h.bh i hi) (fun b hb=>⟨zD (h.lX i hi b hb) (by simp),zH (h.lX i hi b hb) (by simp)⟩),row h.frames (fun b hb=>⟨zD (h.lF b hb) (by simp),zH (h.lF b hb) (by simp)⟩),row h.slots (fun b hb=>⟨zD (h.lL b hb) (by simp),zH (h.lL b hb) (by simp)⟩),?_,?_,fun i hi=>?_,fun b hb=>old b _ (h.lS b hb) (by simp) (by simp),fun i hi b hb=>old b _ (h.lX i hi b hb) (by simp) (by simp),fun b hb=>old b _ (h.lF b hb) (by simp) (by simp),fun b hb=>old b _ (h.lL b hb) (by simp) (by simp),fun b hb=>if_pos hb,fun i hi b hb=>?_,fun i hi b hb=>?_⟩,?_,old mb _ h.lH (by simp) (by simp)⟩,fun b hb e=>?_,?_⟩
 · have hb:uC S v' l b≠.no:=hb
   have hs4:(w4.setCell (Ad mb 3) v').heap.size=w4.heap.size:=by simp
   rw[hs4]
   unfold uC at hb
   by_cases c:v'.ownBlock=some b
   · exact hown.lt b c
   · rw[if_neg c] at hb
     by_cases d:l.va.ownBlock=some b
     · have:=eA b (.inl d);omega
     · rw[if_neg d] at hb
       by_cases e:l.vp.ownBlock=some b
       · have:=eA b (.inr e);omega
       · rw[if_neg e] at hb
         have:=h.kP b hb;omega
 · show World.ownsRow _ lo _ 3 v' (S.L++[l]).length _
   rw[hle,List.flatMap_append]
   have:w4.ownsRow lo 43 3 v' (S.L.length+1) (S.L.flatMap bJ++[l].flatMap bJ):=by simpa using hown
   exact gY.row this (fun b hb e=>by
    rcases hv4 b hb with g | g
    · exact zH (h.lP b g) (by simp) e
    · omega)
 · show(S.L++[l]).length=(k.aj++[s]).length
   simp[hlen]
 · have hi:i<(k.aj++[s]).length:=hi
   rw[List.length_append,List.length_singleton] at hi
   show cU lo _ (dC (S.L++[l]) i) (KM.au (k.aj++[s]) i)
   rw[uA,KM.JV,hlen]
   by_cases c:i<k.aj.length
   · rw[if_pos c,if_pos c]
     exact((h.each i c).kp kD (fun b hb=>zD (h.lA i c b hb) (by simp)) (fun b hb=>zD (h.lE i c b hb) (by simp))).kp gY (fun b hb=>zH (h.lA i c b hb) (by simp)) (fun b hb=>zH (h.lE i c b hb) (by simp))
   · have e:i=k.aj.length:=by omega
     rw[if_neg c,if_neg c,if_pos e,if_pos e]
     refine((Q8.mono hlo).kp (kB.trans kC (fun _ _ g=>g)) (fun b hb g=>?_) (fun b hb g=>?_)).kp gY (fun b hb e=>?_) (fun b hb e=>?_)
     · have:=hvb b g;have:=eA b (.inl hb);omega
     · have:=hvb b g;have:=eA b (.inr hb);omega
     · have:=eA b (.inl hb);omega
     · have:=eA b (.inr hb);omega
 · have hi:i<(k.aj++[s]).length:=hi
   rw[List.length_append,List.length_singleton] at hi
   have hb:blk (dC (S.L++[l]) i).va b:=hb
   rw[uA,hlen] at hb
   by_cases c:i<k.aj.length
   · rw[if_pos c] at hb
     exact old b _ (h.lA i c b hb) (by simp) (by simp)
   · have e:i=k.aj.length:=by omega
     rw[if_neg c,if_pos e] at hb
     have hx:=eA b (.inl hb)
     show uC S v' l b=.aD i
     unfold uC
     rw[if_neg,if_pos (show l.va.ownBlock=some b from hb),e,hlen]
     intro x
     rcases hv4 b x with g | g
     · have:=hvb b g;omega
     · omega
 · have hi:i<(k.aj++[s]).length:=hi
   rw[List.length_append,List.length_singleton] at hi
   have hb:blk (dC (S.L++[l]) i).vp b:=hb
   rw[uA,hlen] at hb
   by_cases c:i<k.aj.length
   · rw[if_pos c] at hb
     exact old b _ (h.lE i c b hb) (by simp) (by simp)
   · have e:i=k.aj.length:=by omega
     rw[if_neg c,if_pos e] at hb
     have hx:=eA b (.inr hb)
     show uC S v' l b=.aA i
     unfold uC
     rw[if_neg,if_neg (show ¬l.va.ownBlock=some b from hne b hb),if_pos (show l.vp.ownBlock=some b from hb),e,hlen]
     intro x
     rcases hv4 b x with g | g
     · have:=hvb b g;omega
     · omega
 · have:w4.heap[mb]?=some (.cells ([S.vS,S.vF,S.vL,S.vP,I k.hand]++X).toArray tt (0,0)):=kD.keep h.head (fun x=>by have:=h.lP mb x;rw[h.lH] at this;simp at this)
   rw[B.set this 3 v']
   simp
 · unfold uC
   rw[if_neg,if_neg,if_neg,e]
   · intro x;have:=eA b (.inr x);omega
   · intro x;have:=eA b (.inl x);omega
   · intro x
     rcases hv4 b x with g | g
     · have:=h.lP b g;rw[e] at this;simp at this
     · omega
 · exact(kD.mono (fun b _ g=>by rw[h.lP b g];simp)).trans gY (fun b _ e=>by rw[e,h.lH];simp)
end KO
namespace KO
open Go.RowKit GK
open FW (ai aB)
open KW (bE bD aK aZ fu cI aJ dN)
open KS (Lc bJ oY dC blk cU)
variable {lo mb:Nat} {tt:TypeId} {X:List Value} {w:World} {S:St} {k:KM.Kn}
theorem Km.c0 (h:Km lo mb tt X w S k):w.cell? (Ad mb 0)=some S.vS:=B.cell h.head 0 (by simp)
theorem Km.c1 (h:Km lo mb tt X w S k):w.cell? (Ad mb 1)=some S.vF:=B.cell h.head 1 (by simp)
theorem Km.c2 (h:Km lo mb tt X w S k):w.cell? (Ad mb 2)=some S.vL:=B.cell h.head 2 (by simp)
theorem Km.c3 (h:Km lo mb tt X w S k):w.cell? (Ad mb 3)=some S.vP:=B.cell h.head 3 (by simp)
theorem Km.c4 (h:Km lo mb tt X w S k):w.cell? (Ad mb 4)=some (I k.hand):=B.cell h.head 4 (by simp)
theorem Km.cx (h:Km lo mb tt X w S k) (n:Nat) {v:Value} (hv:X[n]?=some v):w.cell? (Ad mb (5+n))=some v:=B.cell h.head (5+n) (by
 rw[List.getElem?_toArray,List.getElem?_append_right (by simp),<- hv]
 congr 1
 simp)
theorem Km.free (h:Km lo mb tt X w S k) (j:Nat):w.frozen? (Ad mb j)=false:=B.free h.head j
theorem Km.lt (h:Km lo mb tt X w S k):mb<w.heap.size:=B.isLt h.head
theorem Km.lo_le (h:Km lo mb tt X w S k):lo<=mb:=(h.kP mb (by rw[h.lH];simp)).1
structure aey (w:World) (S:St) (k:KM.Kn) (fb cF:Nat):Prop where
 v:S.vF=.slice (some (Ad fb 0)) k.frames.length cF
 x0:∀i,i<k.frames.length->w.cell? (Ad fb (i*4))=some (.string (KM.aI k.frames i).data)
 x1:∀i,i<k.frames.length->w.cell? (Ad fb (i*4+1))=some (I (KM.aI k.frames i).refs)
 x2:∀i,i<k.frames.length->w.cell? (Ad fb (i*4+2))=some (.bool (KM.aI k.frames i).b9)
 x3:∀i,i<k.frames.length->w.cell? (Ad fb (i*4+3))=some (.bool (KM.aI k.frames i).seen)
 fz:∀j,w.frozen? (Ad fb j)=false
 lt:fb<w.heap.size
 lab:S.lab fb=.frames
 cap:k.frames.length<=cF
theorem Kr.fr (h:Kr lo w S k) (hn:0<k.frames.length):∃fb cF,aey w S k fb cF:=by
 obtain⟨ao,cap,e,hc,hg⟩:=aQ h.frames
 obtain⟨g,rfl,hg1,hg2⟩:=hg hn
 have hr:=h.frames
 rw[e] at hr
 have at_:=fun i (hi:i<k.frames.length) j (hj:j<4)=>iQ bE (fun _=>rfl) KM.kY hr i j hi hj
 exact⟨g,cap,e,fun i hi=>at_ i hi 0 (by omega),fun i hi=>at_ i hi 1 (by omega),fun i hi=>at_ i hi 2 (by omega),fun i hi=>at_ i hi 3 (by omega),dn hr,hg2,h.lF g (by rw[e];rfl),hc⟩
structure ac9 (w:World) (S:St) (k:KM.Kn) (fb cF:Nat):Prop where
 v:S.vL=.slice (some (Ad fb 0)) k.slots.length cF
 x0:∀i,i<k.slots.length->w.cell? (Ad fb (i*2))=some (.string (KM.bG k.slots i).data)
 x1:∀i,i<k.slots.length->w.cell? (Ad fb (i*2+1))=some (I (KM.bG k.slots i).refs)
 fz:∀j,w.frozen? (Ad fb j)=false
 lt:fb<w.heap.size
 lab:S.lab fb=.slots
theorem Kr.sl (h:Kr lo w S k) (hn:0<k.slots.length):∃fb cF,ac9 w S k fb cF:=by
 obtain⟨ao,cap,e,hc,hg⟩:=aQ h.slots
 obtain⟨g,rfl,hg1,hg2⟩:=hg hn
 have hr:=h.slots
 rw[e] at hr
 have at_:=fun i (hi:i<k.slots.length) j (hj:j<2)=>iQ bD (fun _=>rfl) KM.sS hr i j hi hj
 exact⟨g,cap,e,fun i hi=>at_ i hi 0 (by omega),fun i hi=>at_ i hi 1 (by omega),dn hr,hg2,h.lL g (by rw[e];rfl)⟩
structure ac8 (w:World) (S:St) (k:KM.Kn) (pb cP:Nat):Prop where
 v:S.vP=.slice (some (Ad pb 0)) k.aj.length cP
 x0:∀i,i<k.aj.length->w.cell? (Ad pb (i*3))=some (.bool (KM.au k.aj i).live)
 x1:∀i,i<k.aj.length->w.cell? (Ad pb (i*3+1))=some (dC S.L i).va
 x2:∀i,i<k.aj.length->w.cell? (Ad pb (i*3+2))=some (dC S.L i).vp
 fz:∀j,w.frozen? (Ad pb j)=false
 lt:pb<w.heap.size
 lab:S.lab pb=.aj
theorem Kr.sp (h:Kr lo w S k) (hn:0<k.aj.length):∃pb cP,ac8 w S k pb cP:=by
 obtain⟨ao,cap,e,hc,hg⟩:=aQ h.aj
 have hl:=h.len
 obtain⟨g,rfl,hg1,hg2⟩:=hg (by omega)
 have hr:=h.aj
 rw[e] at hr
 have at_:=fun i (hi:i<k.aj.length) j (hj:j<3)=>iQ bJ (fun _=>rfl) oY hr i j (by omega) hj
 exact⟨g,cap,by rw[e,hl],fun i hi=>by rw[<- (h.each i hi).live];exact at_ i hi 0 (by omega),fun i hi=>at_ i hi 1 (by omega),fun i hi=>at_ i hi 2 (by omega),dn hr,hg2,h.lP g (by rw[e];rfl)⟩
theorem Kr.aA (h:Kr lo w S k) {i:Nat} (hi:i<k.aj.length):∃ae ce,(dC S.L i).vp=.slice ae (KM.au k.aj i).aA.length ce/\aZ aK 3 KM.jI w ae (KM.au k.aj i).aA:=by
 obtain⟨ae,ce,e,_,hr⟩:=jN aK (fun _=>rfl) KM.jI (h.each i hi).aH
 exact⟨ae,ce,e,hr⟩
theorem Kr.aD (h:Kr lo w S k) {i:Nat} (hi:i<k.aj.length):AW.Has w (dC S.L i).va (KM.au k.aj i).aD:=(h.each i hi).aD.has
end KO
namespace KB
open Go.RowKit
theorem LF {s t:ByteArray} (h:∀i:Nat,s.data.toList[i]?=t.data.toList[i]?):s=t:=by
 apply ByteArray.ext
 exact Array.toList_inj.1 (List.ext_getElem? h)
end KB
namespace KM
open Go.RowKit
theorem lT {k:Kn} (h:aU k) {j j0:Nat} (hj:j<k.aj.length) (EA:j0<k.aj.length) {p q:Int} {a b:Nat} (h1:bc (au k.aj j).aA p=some ⟨p,1,a⟩) (h2:bc (au k.aj j0).aA q=some ⟨q,1,b⟩) (L8:q≠p):a≠b:=fun e=>by
 subst e
 have m1:=fO hj (jo h1)
 have m2:=fO EA (jo h2)
 have hb:=fV h hj (jo h1)
 have hlt:a<k.frames.length:=by
  rcases hb with b | b
  · have:=b.2.2;simpa using this
  · have:=b.1;simp at this
 have:=(h.nz a hlt).one _ m1 _ m2
 injection this with e _
 exact L8 e.symm
theorem xj {k:Kn} (h:aU k) {j0:Nat} (EA:j0<k.aj.length) {q:Int} {b:Nat} (h2:bc (au k.aj j0).aA q=some ⟨q,1,b⟩):b<k.frames.length/\(aI k.frames b).refs≠0:=by
 have m2:=fO EA (jo h2)
 have hb:=fV h EA (jo h2)
 have hlt:b<k.frames.length:=by
  rcases hb with b | b
  · have:=b.2.2;simpa using this
  · have:=b.1;simp at this
 refine⟨hlt,fun z=>?_⟩
 have:=(h.nz b hlt).nil z
 rw[this] at m2
 cases m2
theorem Cm {k:Kn} (h:aU k) {j:Nat} (hj:j<k.aj.length) {p:Int} (hp:mapped k j p) {held:List Int} (hl:held.length<=2) {j0:Nat} (EA:j0<k.aj.length) {q:Int} {b:Nat} (h2:bc (au k.aj j0).aA q=some ⟨q,1,b⟩) (hin:(b:Int)∈held) (L8:q≠p):aI (bY k j p held).2.frames b=aI k.frames b:=by
 have hsp:=h.sp hj
 have G:=m6 h hl
 have hH:=G.yN b hin (xj h EA h2).2
 unfold bY
 cases g:bc (au k.aj j).aA p with
 | none =>
  dsimp only
  have hent:bc (au (bR k held).2.aj j).aA p=none:=by rw[G.vW j hj p (fun e he=>by rw[g] at he;cases he),g]
  have hj':j<(bR k held).2.aj.length:=by rw[G.kept.np];exact hj
  have m:kQ (bR k held).2 j p (bR k held).1 (dY (bR k held).2.ak p (zeroAt (bR k held).2 j p)) false:=⟨G.right,hj',G.mapped hj hp,by rw[G.kept.nf];exact G.lt,G.free,uI G.right hj' (G.mapped hj hp),fun _=>rfl⟩
  rw[(iB _ _ _ _ _ _ m).2.2.2.2.2.1 b,if_neg hH.1,hent]
  exact hH.2
 | some e =>
  have he:=(dH hsp.eN).1 g
  dsimp only
  by_cases c:e.kind=1
  · rw[if_pos c]
  · rw[if_neg c]
    have hb:=(fV h hj he.1).resolve_left (fun y=>c y.1)
    have hent:bc (au (bR k held).2.aj j).aA p=some e:=by rw[G.vW j hj p (fun x hx=>by rw[g] at hx;injection hx with hx;subst hx;exact fun y=>c y.1),g]
    have hj':j<(bR k held).2.aj.length:=by rw[G.kept.np];exact hj
    have he':=(dH (G.right.sp hj').eN).1 hent
    have hsz:(bG (bR k held).2.slots e.loc.toNat).data.size=16:=(G.right.slt e.loc.toNat (by rw[G.kept.ns];exact hb.2.2)).size (fun z=>by
     have:=fO hj' he'.1
     rw[hb.1,<- hb.2.1,z] at this
     cases this)
    have m:kQ (bR k held).2 j p (bR k held).1 (bG (bR k held).2.slots e.loc.toNat).data true:=⟨G.right,hj',G.mapped hj hp,by rw[G.kept.nf];exact G.lt,G.free,hsz,fun y=>by cases y⟩
    rw[(iB _ _ _ _ _ _ m).2.2.2.2.2.1 b,if_neg hH.1,hent]
    show(if e.kind=1/\e.loc=(b:Int) then _ else _)=_
    rw[if_neg (fun x=>c x.1)]
    exact hH.2
theorem H9 {k:Kn} (h:aU k) {j:Nat} (hj:j<k.aj.length) {p:Int} (hp:mapped k j p) {a:Nat} (ha:bc (au k.aj j).aA p=some ⟨p,1,a⟩) {held:List Int} (hl:held.length<=1) {j0:Nat} (EA:j0<k.aj.length) {q:Int} {b:Nat} (h2:bc (au k.aj j0).aA q=some ⟨q,1,b⟩) (hin:(b:Int)∈held) (L8:q≠p):aI (ic k j p a held).2.frames b=aI k.frames b:=by
 have hab:=lT h hj EA ha h2 L8
 have hat:=(xj h hj ha).1
 unfold ic
 by_cases c:(aI k.frames a).refs=1
 · rw[if_pos c]
 · rw[if_neg c]
   have G:=m6 h (held:=held++[(a:Int)]) (by rw[List.length_append,List.length_singleton];omega)
   have hH:=G.yN b (List.mem_append.2 (.inl hin)) (xj h EA h2).2
   obtain⟨g,hg⟩:=ex (bR k (held++[(a:Int)]))
   rw[<- hg] at G hH ⊢
   have hent:bc (au g.2.aj j).aA p=some ⟨p,1,a⟩:=G.stay h hj ha (fun _=>List.mem_append.2 (.inr (by simp)))
   have hj':j<g.2.aj.length:=by rw[G.kept.np];exact hj
   have he':=(dH (G.right.sp hj').eN).1 hent
   have hsz:(aI g.2.frames a).data.size=16:=(G.right.nz a (by rw[G.kept.nf];exact hat)).size (fun z=>by
    have:=fO hj' he'.1
    rw[z] at this
    cases this)
   have m:kQ g.2 j p g.1 (aI g.2.frames a).data true:=⟨G.right,hj',G.mapped hj hp,by rw[G.kept.nf];exact G.lt,G.free,hsz,fun y=>by cases y⟩
   show aI (cW g.2 j p g.1 _ true).frames b=_
   rw[(iB _ _ _ _ _ _ m).2.2.2.2.2.1 b,if_neg hH.1,hent]
   show(if (1:Int)=1/\(a:Int)=(b:Int) then _ else _)=_
   rw[if_neg (fun x=>hab (by omega))]
   exact hH.2
theorem Hz {k:Kn} (h:aU k) {j:Nat} (hj:j<k.aj.length) {p:Int} (hp:mapped k j p) (way:Int) {held:List Int} (hl:held.length<=1) {j0:Nat} (EA:j0<k.aj.length) {q:Int} {b:Nat} (h2:bc (au k.aj j0).aA q=some ⟨q,1,b⟩) (hin:(b:Int)∈held) (L8:q≠p):aI (cj k j p way held).2.frames b=aI k.frames b:=by
 have P:=pP h hj hp (held:=held) (by omega)
 have PH:=Cm h hj hp (held:=held) (by omega) EA h2 hin L8
 have hT:j3 k j p held (iH k j p way held)/\aI (iH k j p way held).2.frames b=aI k.frames b:=by
  unfold iH
  by_cases c:way=1
  · rw[if_pos c]
    have A:=Bv P.right (by rw[P.kept.np];exact hj) (P.kept.mapped hj hp) P.here hl
    refine⟨P.trans A.1,?_⟩
    rw[H9 P.right (by rw[P.kept.np];exact hj) (P.kept.mapped hj hp) P.here hl (by rw[P.kept.np];exact EA) (P.stay j0 EA q _ h2 rfl hin (fun x=>L8 x.2)) hin L8]
    exact PH
  · rw[if_neg c];exact⟨P,PH⟩
 have T:=hT.1
 have hne:=lT T.right (by rw[T.kept.np];exact hj) (by rw[T.kept.np];exact EA) T.here (T.stay j0 EA q _ h2 rfl hin (fun x=>L8 x.2)) L8
 show aI ((iH k j p way held).2.frames.set _ _) b=_
 rw[eU _ _ _ _ (by rw[T.kept.nf];exact T.lt),if_neg hne]
 exact hT.2
structure Alone (k:Kn) (j:Nat) (p:Int) (i:Nat):Prop where
 here:bc (au k.aj j).aA p=some ⟨p,1,i⟩
 lt:i<k.frames.length
 refs:(aI k.frames i).refs=1
 b9:(aI k.frames i).b9=true
theorem DZ {k:Kn} (h:aU k) {j:Nat} (hj:j<k.aj.length) (a n:Int) (h1:mapped k j (a/16)) (h2:mapped k j (bZ a n)):Alone (aO k j a n 1).2 j (a/16) (dz k j a 1).1/\(bZ a n≠a/16->Alone (aO k j a n 1).2 j (bZ a n) (iI k j a n 1).1):=by
 have R:=nT h hj a n 1 h1 h2
 obtain⟨A,A2⟩:=kF h hj h1 1 (held:=[]) (by simp)
 have A2:=A2 rfl
 by_cases c:bZ a n=a/16
 · have e:aO k j a n 1=([(dz k j a 1).1],(dz k j a 1).2):=by unfold aO;rw[if_pos c]
   refine⟨?_,fun x=>absurd c x⟩
   rw[e]
   exact⟨A.here,by have:=A.kept.nf;have:=A.lt;show(cj k j (a/16) 1 []).1<(cj k j (a/16) 1 []).2.frames.length;omega,A2.1,A2.2⟩
 · have hj':j<(dz k j a 1).2.aj.length:=by have:=A.kept.np;unfold dz;omega
   have hm':=A.kept.mapped hj h2
   obtain⟨B,B2⟩:=kF (k:=(dz k j a 1).2) A.right hj' hm' 1 (held:=[((dz k j a 1).1:Int)]) (by simp)
   have B2:=B2 rfl
   have hh:=Hz (k:=(dz k j a 1).2) A.right hj' hm' 1 (held:=[((dz k j a 1).1:Int)]) (by simp) hj' A.here (by simp[dz]) (fun x=>c x.symm)
   have e:aO k j a n 1=([(dz k j a 1).1,(iI k j a n 1).1],(iI k j a n 1).2):=by unfold aO;rw[if_neg c]
   have hB:iI k j a n 1=cj (dz k j a 1).2 j (bZ a n) 1 [((dz k j a 1).1:Int)]:=rfl
   have hlen:(iI k j a n 1).2.frames.length=k.frames.length:=by rw[hB,B.kept.nf];exact A.kept.nf
   rw[e]
   refine⟨⟨?_,?_,?_,?_⟩,fun _=>⟨?_,?_,?_,?_⟩⟩
   · exact B.stay j hj' (a/16) _ A.here rfl (by simp[dz]) (fun x=>c x.2.symm)
   · show(dz k j a 1).1<(iI k j a n 1).2.frames.length
     rw[hlen];exact A.lt
   · show(aI (iI k j a n 1).2.frames (dz k j a 1).1).refs=1
     rw[hB]
     have:aI (cj (dz k j a 1).2 j (bZ a n) 1 [((dz k j a 1).1:Int)]).2.frames (dz k j a 1).1=aI (dz k j a 1).2.frames (dz k j a 1).1:=hh
     rw[this];exact A2.1
   · show(aI (iI k j a n 1).2.frames (dz k j a 1).1).b9=true
     rw[hB]
     have:aI (cj (dz k j a 1).2 j (bZ a n) 1 [((dz k j a 1).1:Int)]).2.frames (dz k j a 1).1=aI (dz k j a 1).2.frames (dz k j a 1).1:=hh
     rw[this];exact A2.2
   · exact B.here
   · show(iI k j a n 1).1<(iI k j a n 1).2.frames.length
     rw[hlen]
     have:=B.lt
     have:=A.kept.nf
     show(cj (dz k j a 1).2 j (bZ a n) 1 [((dz k j a 1).1:Int)]).1<_
     unfold dz at *
     omega
   · exact B2.1
   · exact B2.2
def wJ (k:Kn) (i:Nat) (d:ByteArray):Kn:={ k with frames:=k.frames.set i ⟨d,(aI k.frames i).refs,(aI k.frames i).b9,(aI k.frames i).seen⟩ }
theorem rV {k:Kn} (h:aU k) {j:Nat} (hj:j<k.aj.length) {p:Int} {i:Nat} (a:Alone k j p i) {d:ByteArray} (hd:d.size=16):aU (wJ k i d):=by
 have hf:=h.nz i a.lt
 refine h.frame ⟨hf.refs,fun e=>?_,hf.one,fun _=>hd,fun x=>?_⟩
 · have:=hf.refs
   rw[e,a.refs] at this
   cases this
 · have x:(aI k.frames i).b9=false:=x
   rw[a.b9] at x;cases x
theorem uB {k:Kn} (h:aU k) {j:Nat} (hj:j<k.aj.length) {p:Int} {i:Nat} (a:Alone k j p i) (d:ByteArray) {m:Nat} (hm:m<k.aj.length) (q:Int):dB (wJ k i d) m q=if m=j/\q=p then d else dB k m q:=by
 have at_:∀n,aI (wJ k i d).frames n=if i=n then ⟨d,(aI k.frames i).refs,(aI k.frames i).b9,(aI k.frames i).seen⟩ else aI k.frames n:=fun n=>eU _ _ _ _ a.lt
 by_cases c:m=j/\q=p
 · rw[if_pos c,c.1,c.2]
   unfold dB
   show(match bc (au k.aj j).aA p with
    | some e=>if e.kind=1 then (aI (wJ k i d).frames e.loc.toNat).data else _
    | none=>_)=d
   rw[a.here]
   show(if (1:Int)=1 then (aI (wJ k i d).frames (i:Int).toNat).data else _)=d
   rw[if_pos rfl,Int.toNat_natCast,at_,if_pos rfl]
 · rw[if_neg c]
   refine QJ rfl (fun x hx=>⟨fun hk=>?_,fun _=>rfl⟩) (fun _=>rfl)
   have hx:bc (au k.aj m).aA q=some x:=hx
   rw[at_]
   by_cases e:i=x.loc.toNat
   · exfalso
     have m1:x∈(au k.aj m).aA:=jo hx
     have hb:=(fV h hm m1).resolve_right (fun y=>by omega)
     have hxl:x.loc=(i:Int):=by omega
     have e2:x=⟨q,1,i⟩:=by
      have:=O5 hx
      obtain⟨a1,a2,a3⟩:=x
      simp only at this hk hxl
      rw[this,hk,hxl]
     rw[e2] at hx
     have L8:q=p:=by
      by_cases z:q=p
      · exact z
      · exact absurd rfl (lT h hj hm a.here hx z)
     have hmj:m≠j:=fun z=>c ⟨z,L8⟩
     have hr:=(h.nz i a.lt).refs
     rw[a.refs] at hr
     have two:2<=(names k.aj 1 i).length:=by
      have key:∀(l:List Sp) (a b:Nat),a<b->b<l.length->(fq (au l a) 1 i)≠[]->(fq (au l b) 1 i)≠[]->2<=(names l 1 i).length:=fun l=>by
       induction l with
       | nil=>intro a b _ hb;simp at hb
       | cons s r ih =>
        intro a b hab hb h1 h2
        rw[fT,List.length_append]
        cases a with
        | zero =>
         have h1':1<=(fq s 1 i).length:=List.length_pos_iff.2 h1
         obtain⟨b',rfl⟩:∃b',b=b'+1:=⟨b-1,by omega⟩
         have h2':fq (au r b') 1 i≠[]:=h2
         have:1<=(names r 1 i).length:=by
          obtain⟨y,hy⟩:=List.exists_mem_of_ne_nil _ h2'
          refine List.length_pos_iff.2 fun z=>?_
          have:y∈names r 1 i:=List.mem_flatMap.2 ⟨_,xD (by simpa using hb),hy⟩
          rw[z] at this;cases this
         omega
        | succ a =>
         obtain⟨b',rfl⟩:∃b',b=b'+1:=⟨b-1,by omega⟩
         have:=ih a b' (by omega) (by simpa using hb) h1 h2
         omega
      have n1:fq (au k.aj j) 1 i≠[]:=fun z=>by
       have:(_:Int×Bool)∈fq (au k.aj j) 1 i:=mq.2 ⟨_,jo a.here,rfl,rfl,rfl⟩
       rw[z] at this;cases this
      have n2:fq (au k.aj m) 1 i≠[]:=fun z=>by
       have:(_:Int×Bool)∈fq (au k.aj m) 1 i:=mq.2 ⟨_,jo hx,rfl,rfl,rfl⟩
       rw[z] at this;cases this
      rcases Nat.lt_or_gt_of_ne hmj with g | g
      · exact key k.aj m j g hj n2 n1
      · exact key k.aj j m g hm n1 n2
     omega
   · rw[if_neg e]
def qZ (f:Int->ByteArray) (a n:Int):ByteArray:=if bZ a n=a/16 then f (a/16) else f (a/16)++f (bZ a n)
def laidB (f:Int->ByteArray) (a:Int) (d:ByteArray):ByteArray:=CL.over (qZ f a d.size) (a%16).toNat d
def Gb (f:Int->ByteArray) (a:Int) (d:ByteArray) (p:Int):ByteArray:=if p=a/16 then (laidB f a d).extract 0 16 else if p=bZ a d.size then (laidB f a d).extract 16 32 else f p
def fB (fs:List Fr) (ids:List Nat):Nat->ByteArray
 | 0=>⟨#[]⟩
 | n+1=>fB fs ids n++(aI fs (ids.getD n 0)).data
def iy (k:Kn) (ids:List Nat) (s:ByteArray):Nat->Kn
 | 0=>k
 | n+1=>wJ (iy k ids s n) (ids.getD n 0) (s.extract (n*16) (n*16+16))
def vh (k:Kn) (j:Nat) (a n way:Int):ByteArray:=(fB (aO k j a n way).2.frames (aO k j a n way).1 (aO k j a n way).1.length).extract (a%16).toNat ((a%16).toNat+n.toNat)
def pK (k:Kn) (j:Nat) (a:Int) (d:ByteArray):Kn:=iy (aO k j a d.size 1).2 (aO k j a d.size 1).1 (CL.over (fB (aO k j a d.size 1).2.frames (aO k j a d.size 1).1 (aO k j a d.size 1).1.length) (a%16).toNat d) (aO k j a d.size 1).1.length
theorem empty_append (d:ByteArray):(⟨#[]⟩:ByteArray)++d=d:=by
 apply KB.LF
 intro i
 simp
theorem Bc {k:Kn} {j:Nat} {p:Int} {i:Nat} (h:bc (au k.aj j).aA p=some ⟨p,1,i⟩):dB k j p=(aI k.frames i).data:=by
 unfold dB
 rw[h]
 show(if (1:Int)=1 then (aI k.frames (i:Int).toNat).data else _)=_
 rw[if_pos rfl,Int.toNat_natCast]
theorem rP {k:Kn} (h:aU k) {j:Nat} (hj:j<k.aj.length) (a n way:Int) (h1:mapped k j (a/16)) (h2:mapped k j (bZ a n)):fB (aO k j a n way).2.frames (aO k j a n way).1 (aO k j a n way).1.length=qZ (dB k j) a n:=by
 have R:=nT h hj a n way h1 h2
 have p1:=R.kept.Cn j hj (a/16)
 have p2:=R.kept.Cn j hj (bZ a n)
 rw[Bc R.one.1] at p1
 unfold qZ
 rw[<- p1,<- p2]
 by_cases c:bZ a n=a/16
 · rw[if_pos c]
   have e:(aO k j a n way).1=[(dz k j a way).1]:=by unfold aO;rw[if_pos c]
   rw[e]
   exact empty_append _
 · rw[if_neg c,Bc (R.two c).1]
   have e:(aO k j a n way).1=[(dz k j a way).1,(iI k j a n way).1]:=by unfold aO;rw[if_neg c]
   rw[e]
   show((⟨#[]⟩:ByteArray)++_)++_=_
   rw[empty_append]
   rfl
theorem lU {k:Kn} (h:aU k) {j:Nat} (hj:j<k.aj.length) {p:Int} (hp:mapped k j p):(dB k j p).size=16:=by
 unfold dB
 cases g:bc (au k.aj j).aA p with
 | none=>exact uI h hj hp
 | some e =>
  have hb:=fV h hj (jo g)
  have hn:=fO hj (jo g)
  dsimp only
  rcases hb with b | b
  · rw[if_pos b.1]
    exact(h.nz _ b.2.2).size (fun z=>by rw[b.1,<- b.2.1,z] at hn;cases hn)
  · rw[if_neg (by omega)]
    exact(h.slt _ b.2.2).size (fun z=>by rw[b.1,<- b.2.1,z] at hn;cases hn)
theorem nV (s:ByteArray) (q:Nat) (t:ByteArray) (h:q+t.size<=s.size):(CL.over s q t).size=s.size:=by
 have h1:(CL.over s q t).size=(CL.over s q t).data.toList.length:=by simp
 have h2:s.size=s.data.toList.length:=by simp
 have h3:t.size=t.data.toList.length:=by simp
 rw[h1]
 unfold CL.over
 simp only[List.length_append,List.length_take,List.length_drop]
 simp at h2 h3 ⊢
 omega
theorem yT (s:ByteArray) (a b:Nat) (h:b<=s.size) (hab:a<=b):(s.extract a b).size=b-a:=by
 simp[ByteArray.size_extract];omega
theorem Gr {a n:Int} (h1:1<=n) (h8:n<=8):(bZ a n=a/16/\a%16+n<=16)∨(bZ a n=a/16+1/\16<a%16+n):=by
 unfold bZ;omega
structure Xc (f:Int->ByteArray) (a n:Int):Prop where
 one:(f (a/16)).size=16
 two:(f (bZ a n)).size=16
theorem qw {f:Int->ByteArray} {a n:Int} (h:Xc f a n) (h1:1<=n) (h8:n<=8):((qZ f a n).size:Int)=if bZ a n=a/16 then 16 else 32:=by
 unfold qZ
 split
 · rw[h.one];rfl
 · rw[ByteArray.size_append,h.one,h.two];rfl
theorem yB {f:Int->ByteArray} {a n:Int} (h:Xc f a n) (h1:1<=n) (h8:n<=8):(a%16).toNat+n.toNat<=(qZ f a n).size:=by
 have:=qw h h1 h8
 rcases Gr (a:=a) h1 h8 with g | g
 · rw[if_pos g.1] at this;omega
 · rw[if_neg (by omega)] at this;omega
theorem Ko {f:Int->ByteArray} {a:Int} {d:ByteArray} (h:Xc f a d.size) (h1:1<=(d.size:Int)) (h8:(d.size:Int)<=8):((laidB f a d).size:Int)=if bZ a d.size=a/16 then 16 else 32:=by
 unfold laidB
 rw[nV _ _ _ (by have:=yB h h1 h8;omega)]
 exact qw h h1 h8
structure Ia (k:Kn) (j:Nat) (a:Int) (d:ByteArray) (r:Kn):Prop where
 right:aU r
 ak:r.ak=k.ak
 nf:r.frames.length=k.frames.length
 ns:r.slots.length=k.slots.length
 np:r.aj.length=k.aj.length
 live:∀m,m<k.aj.length->(au r.aj m).live=(au k.aj m).live
 aD:∀m,m<k.aj.length->(au r.aj m).aD=(au k.aj m).aD
 Cn:∀m,m<k.aj.length->∀p,dB r m p=if m=j then Gb (dB k j) a d p else dB k m p
theorem JT {k:Kn} (h:aU k) {j:Nat} (hj:j<k.aj.length) (a:Int) (d:ByteArray) (hd1:1<=(d.size:Int)) (hd8:(d.size:Int)<=8) (h1:mapped k j (a/16)) (h2:mapped k j (bZ a d.size)):Ia k j a d (pK k j a d):=by
 have R:=nT h hj a d.size 1 h1 h2
 have A:=DZ h hj a d.size h1 h2
 have hP:Xc (dB k j) a d.size:=⟨lU h hj h1,lU h hj h2⟩
 have hL:=Ko hP hd1 hd8
 have Fz:=Gr (a:=a) hd1 hd8
 unfold pK
 rw[rP h hj a d.size 1 h1 h2]
 obtain⟨s,hs⟩:=ex (laidB (dB k j) a d)
 have hs':CL.over (qZ (dB k j) a d.size) (a%16).toNat d=s:=hs.symm
 rw[hs']
 rw[<- hs] at hL
 obtain⟨K,hK⟩:=ex ((aO k j a d.size 1).2)
 have hr:=R.right
 have jD:=R.kept
 rw[<- hK] at hr jD A ⊢
 have TG:j<K.aj.length:=by rw[jD.np];exact hj
 by_cases c:bZ a d.size=a/16
 · have e:(aO k j a d.size 1).1=[(dz k j a 1).1]:=by unfold aO;rw[if_pos c]
   rw[e]
   show Ia k j a d (wJ K (dz k j a 1).1 (s.extract (0*16) (0*16+16)))
   rw[if_pos c] at hL
   have hz:(s.extract (0*16) (0*16+16)).size=16:=yT _ _ _ (by omega) (by omega)
   refine⟨rV hr TG A.1 hz,jD.ak,by show(List.set _ _ _).length=_;rw[List.length_set];exact jD.nf,jD.ns,jD.np,jD.live,jD.aD,fun m hm p=>?_⟩
   rw[uB hr TG A.1 _ (by rw[jD.np];exact hm)]
   by_cases q:m=j
   · subst q
     rw[if_pos rfl]
     unfold Gb
     by_cases z:p=a/16
     · rw[if_pos ⟨rfl,z⟩,if_pos z,hs]
     · rw[if_neg (fun x=>z x.2),if_neg z,if_neg (by omega)]
       exact jD.Cn m hm p
   · rw[if_neg (fun x=>q x.1),if_neg q]
     exact jD.Cn m hm p
 · have e:(aO k j a d.size 1).1=[(dz k j a 1).1,(iI k j a d.size 1).1]:=by unfold aO;rw[if_neg c]
   rw[e]
   show Ia k j a d (wJ (wJ K (dz k j a 1).1 (s.extract (0*16) (0*16+16))) (iI k j a d.size 1).1 (s.extract (1*16) (1*16+16)))
   rw[if_neg c] at hL
   have hz:(s.extract (0*16) (0*16+16)).size=16:=yT _ _ _ (by omega) (by omega)
   have hy:(s.extract (1*16) (1*16+16)).size=16:=yT _ _ _ (by omega) (by omega)
   have A2:=A.2 c
   have hne:=lT hr TG TG A.1.here A2.here c
   have r1:=rV hr TG A.1 hz
   have B:Alone (wJ K (dz k j a 1).1 (s.extract (0*16) (0*16+16))) j (bZ a d.size) (iI k j a d.size 1).1:=by
    have at_:aI (wJ K (dz k j a 1).1 (s.extract (0*16) (0*16+16))).frames (iI k j a d.size 1).1=aI K.frames (iI k j a d.size 1).1:=by
     show aI (List.set _ _ _) _=_
     rw[eU _ _ _ _ A.1.lt,if_neg hne]
    exact⟨A2.here,by show _<(List.set _ _ _).length;rw[List.length_set];exact A2.lt,by rw[at_];exact A2.refs,by rw[at_];exact A2.b9⟩
   refine⟨rV r1 TG B hy,jD.ak,by show(List.set (List.set _ _ _) _ _).length=_;rw[List.length_set,List.length_set];exact jD.nf,jD.ns,jD.np,jD.live,jD.aD,fun m hm p=>?_⟩
   have hmK:m<K.aj.length:=by rw[jD.np];exact hm
   rw[uB r1 TG B _ (m:=m) hmK,uB hr TG A.1 _ hmK]
   by_cases q:m=j
   · subst q
     rw[if_pos rfl]
     unfold Gb
     by_cases z:p=a/16
     · rw[if_neg (fun x=>c (x.2.symm.trans z)),if_pos ⟨rfl,z⟩,if_pos z,hs]
     · rw[if_neg z]
       by_cases y:p=bZ a d.size
       · rw[if_pos ⟨rfl,y⟩,if_pos y,hs]
       · rw[if_neg (fun x=>y x.2),if_neg (fun x=>z x.2),if_neg y]
         exact jD.Cn m hm p
   · rw[if_neg (fun x=>q x.1),if_neg (fun x=>q x.1),if_neg q]
     exact jD.Cn m hm p
end KM
namespace LM
open Go.RowKit
def Xv (l:List M.Sy) (s:ByteArray):Option Nat:=l.findIdx? (fun y=>decide (y.name=s))
def abq (o:Ob) (s:ByteArray):Option Int:=match Xv o.i.syms s with
 | none=>none
 | some k=>some (wh o (M.QE o.i.syms k).pos)
def Tt (l:List Ob) (s:ByteArray):Nat->Option Int
 | 0=>none
 | k+1=>match Tt l s k with
  | some t=>some t
  | none=>abq (ek l k) s
def Uu (l:List Ob) (o:Ob) (s:ByteArray):Option Int:=if s=⟨#[]⟩ then some (wh o 0) else Tt l s l.length
theorem AQ {i:M.Im} (hc:M.j5 i=0):M.xc i=true:=by
 unfold M.j5 at hc
 split at hc
 · simp at hc
 · split at hc
   · simp at hc
   · split at hc
     · simp at hc
     · split at hc
       · simp at hc
       · split at hc
         · simp at hc
         · rename_i h
           simpa using h
theorem Az:∀{l:List M.Sg} {a:Int} {s:M.Sg},M.ma l a=some s->(∃k,k<l.length/\M.dI l k=s)/\M.mW s a=true
 | [],a,s,h=>by cases h
 | x::r,a,s,h=>by
  simp only[M.ma] at h
  split at h
  · rename_i hi
    injection h with h
    subst h
    exact⟨⟨0,by simp,rfl⟩,hi⟩
  · obtain⟨⟨k,hk,e⟩,hi⟩:=Az h
    exact⟨⟨k+1,by simpa using hk,by simpa [M.dI] using e⟩,hi⟩
theorem iZ {i:M.Im} (hc:M.j5 i=0) {a:Int} (h:M.eu i.dm a=true):0<=a/\a<4080:=by
 unfold M.eu at h
 obtain⟨s,hs⟩:=Option.isSome_iff_exists.1 h
 obtain⟨⟨k,hk,e⟩,hi⟩:=Az hs
 have hb:=ot hc k hk
 rw[e] at hb
 unfold M.mW at hi
 have:=of_decide_eq_true hi
 omega
theorem AK (i:M.Im):∀n,M.Cf i n=true->∀k,k<n->M.IE i k=true
 | 0,_,k,hk=>by omega
 | n+1,h,k,hk=>by
  simp only[M.Cf,Bool.and_eq_true] at h
  by_cases e:k=n
  · subst e;exact h.2
  · exact AK i n h.1 k (by omega)
theorem UA {i:M.Im} (hc:M.j5 i=0) (k:Nat) (hk:k<i.fN.length):M.IE i k=true:=by
 have h:=AQ hc
 unfold M.xc at h
 simp only[Bool.and_eq_true] at h
 exact AK i i.fN.length h.2.1 k hk
theorem Gp {i:M.Im} (hc:M.j5 i=0) (k:Nat) (hk:k<i.fN.length):0<=(M.qM i.fN k).pos/\(M.qM i.fN k).pos+7<4080:=by
 have h:=UA hc k hk
 unfold M.IE M.Mx at h
 simp only[Bool.and_eq_true] at h
 have h0:=iZ hc h.2.1
 have h7:=iZ hc h.2.2.2.2.2.2.2.2
 omega
theorem CU {i:M.Im} (hc:M.j5 i=0):0<=i.entry/\i.entry<4080:=by
 have h:=AQ hc
 unfold M.xc at h
 simp only[Bool.and_eq_true] at h
 have he:=h.2.2
 unfold M.uJ at he
 refine iZ hc ?_
 unfold M.eu
 cases e:M.ma i.dm i.entry with
 | none=>rw[e] at he;cases he
 | some s=>rfl
def abu (o:Ob) (r:M.Rl) (t:Int):Pt:=⟨wh o r.pos,⟨(Lib.leBytes 8 (CM.low (t+r.add))).toArray⟩⟩
def qV (l:List Ob) (o:Ob):Nat->Option (List Pt)
 | 0=>some []
 | k+1=>match qV l o k with
  | none=>none
  | some ps=>match Uu l o (M.qM o.i.fN k).name with
   | none=>none
   | some t=>some (ps++[abu o (M.qM o.i.fN k) t])
def ye (l:List Ob) (o:Ob):Option (List Pt):=qV l o o.i.fN.length
theorem AU {l:List Ob} {o:Ob}:∀{k:Nat} {ps:List Pt},qV l o k=some ps->ps.length=k
 | 0,ps,h=>by simp only[qV] at h;injection h with h;subst h;rfl
 | k+1,ps,h=>by
  simp only[qV] at h
  cases e:qV l o k with
  | none=>rw[e] at h;cases h
  | some qs =>
   rw[e] at h
   simp only at h
   cases g:Uu l o (M.qM o.i.fN k).name with
   | none=>rw[g] at h;cases h
   | some t =>
    rw[g] at h
    simp only at h
    injection h with h
    subst h
    rw[List.length_append,AU e]
    rfl
structure Sp where
 page:Int
 data:ByteArray
 bh:List Fx
def plain (s:Sh):Sp:=⟨s.page,s.data,s.bh⟩
def pgN (o:Ob) (ps:List Pt) (s:M.Sg) (m:Nat):Sp:=⟨o.base+s.page+(m:Int),s7 s m,gZ (o.base+s.page+(m:Int)) ps⟩
def yc (o:Ob) (ps:List Pt) (s:M.Sg) (n:Nat):List Sp:=(List.range n).map (pgN o ps s)
def uY (o:Ob) (ps:List Pt):Nat->List Sp
 | 0=>[]
 | k+1=>uY o ps k++yc o ps (M.dI o.i.dm k) (M.dI o.i.dm k).aH.toNat
def qX (l:List Ob):Nat->Option (List Sp)
 | 0=>some []
 | k+1=>match qX l k with
  | none=>none
  | some E=>match ye l (ek l k) with
   | none=>none
   | some ps=>some (E++uY (ek l k) ps (ek l k).i.dm.length)
def lM (l:List Ob):Option (List Sp):=qX l l.length
theorem Gq (o:Ob) (ps:List Pt) (s:M.Sg) (n:Nat):yc o ps s (n+1)=yc o ps s n++[pgN o ps s n]:=by
 unfold yc
 rw[List.range_succ,List.map_append]
 rfl
theorem yo {l:List Ob} {k:Nat} (h:qX l k=none):∀n,k<=n->qX l n=none
 | 0, hn => by obtain rfl:k=0 := by omega
               exact h
 | n+1,hn=>by
  by_cases e:k=n+1
  · subst e;exact h
  · simp only[qX]
    rw[yo h n (by omega)]
theorem IH {l:List Ob} {o:Ob} (hc:M.j5 o.i=0) (h0:1<=o.base) (h1:o.base<=2000):∀(k:Nat) (ps:List Pt),k<=o.i.fN.length->qV l o k=some ps->∀j,j<ps.length->WE (zV ps j)
 | 0,ps,_,h,j,hj=>by simp only[qV] at h;injection h with h;subst h;simp at hj
 | k+1,ps,hk,h,j,hj=>by
  simp only[qV] at h
  cases e:qV l o k with
  | none=>rw[e] at h;cases h
  | some qs =>
   rw[e] at h
   simp only at h
   cases g:Uu l o (M.qM o.i.fN k).name with
   | none=>rw[g] at h;cases h
   | some t =>
    rw[g] at h
    simp only at h
    injection h with h
    subst h
    rw[List.length_append] at hj
    by_cases hjq:j<qs.length
    · have:=IH hc h0 h1 k qs (by omega) e j hjq
      unfold zV at this ⊢
      rw[List.getD_eq_getElem?_getD,List.getElem?_append_left hjq,<- List.getD_eq_getElem?_getD]
      exact this
    · have U7:j=qs.length:=by simp at hj;omega
      subst U7
      unfold zV
      rw[List.getD_eq_getElem?_getD,List.getElem?_append_right (Nat.le_refl _),Nat.sub_self]
      have hb:=Gp hc k (by omega)
      refine⟨?_,?_,?_⟩
      · show 0<=o.base*16+(M.qM o.i.fN k).pos
        omega
      · show o.base*16+(M.qM o.i.fN k).pos<=1000000
        omega
      · show(⟨(Lib.leBytes 8 (CM.low (t+(M.qM o.i.fN k).add))).toArray⟩:ByteArray).size=8
        rw[Lib.size_eq]
        simp[Lib.leBytes]
def qc (rb:Option Nat) (w:World) (ao:Option Addr) (l:List Fx):Prop:=0<l.length->∃b off,ao=some (Ad b off)/\b<w.heap.size/\some b≠rb/\Ib w b off l
theorem qc.has {rb:Option Nat} {w:World} {ao:Option Addr} {l:List Fx} (h:qc rb w ao l):nE w ao l:=fun hl=>by
 obtain⟨b,off,h1,h2,_,h3⟩:=h hl
 exact⟨b,off,h1,h2,h3⟩
theorem qc.below {rb:Option Nat} {w w':World} {ao:Option Addr} {l:List Fx} (h:qc rb w ao l) (hb:Below w.heap.size w w'):qc rb w' ao l:=fun hl=>by
 obtain⟨b,off,h1,h2,h3,h4⟩:=h hl
 exact⟨b,off,h1,Nat.lt_of_lt_of_le h2 hb.size,h3,XL hb h2 h4⟩
theorem GI {w w':World} {b off:Nat} {l:List Fx} (h:Ib w b off l) (hb:w'.heap[b]?=w.heap[b]?):Ib w' b off l:=fun i hi=>by
 obtain⟨c0,c1⟩:=h i hi
 exact⟨(World.cell?_of_block hb).trans c0,(World.cell?_of_block hb).trans c1⟩
theorem qc.grown {rb:Option Nat} {w w':World} {ao:Option Addr} {l:List Fx} {g:Nat} (h:qc rb w ao l) (hg:w.grownBy w' rb) (hs:w.heap.size<=w'.heap.size) (hat:rb=some g∨g=w.heap.size):qc (some g) w' ao l:=fun hl=>by
 obtain⟨b,off,h1,h2,h3,h4⟩:=h hl
 refine⟨b,off,h1,Nat.lt_of_lt_of_le h2 hs,fun e=>?_,GI h4 (hg.block b h2 h3)⟩
 injection e with e
 rcases hat with hat | hat
 · exact h3 (by rw[hat,e])
 · omega
def aah (rb:Option Nat) (w:World) (hs:List Sh):Prop:=∀k,k<hs.length->qc rb w (aW hs k).ao (aW hs k).bh
def E4 (s:Sh):List Value:=[I s.page,.string s.data,.slice s.ao s.bh.length s.cap]
theorem JZ (l:List Sh) (x:Sh) (k:Nat) (h:k<l.length):aW (l++[x]) k=aW l k:=by
 unfold aW
 rw[List.getD_eq_getElem?_getD,List.getElem?_append_left h,<- List.getD_eq_getElem?_getD]
theorem J0 (l:List Sh) (x:Sh):aW (l++[x]) l.length=x:=by
 unfold aW
 rw[List.getD_eq_getElem?_getD,List.getElem?_append_right (Nat.le_refl _)]
 simp
end LM
end Go.Proofs.YtpgifpeohlllfaaGreat
