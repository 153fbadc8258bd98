import Derived.Deep.AppendLies
import Derived.Deep.Upon
import Derived.Test.YtpgifpeohlllfaaGreatProg
import Derived.WalkLawsBesides
import Derived.WalkSpells
import Derived.BigQuiet
set_option maxHeartbeats 20000000
set_option linter.unusedVariables false
set_option maxRecDepth 100000
set_option linter.unusedSimpArgs false
namespace Go.Proofs.YtpgifpeohlllfaaGreat
abbrev I (n : Int) : Value := .int .i64 n
abbrev Nl : Value := .slice none 0 0
abbrev Ad (b o : Nat) : Addr := ⟨b, o, none⟩
theorem ex {A : Type} (e : A) : ∃ n, n = e := ⟨e, rfl⟩
theorem _root_.Go.RowKit.Hid.o {p : Prop} (h : Go.RowKit.Hid p) : p := h.out
namespace B
open Go.RowKit
theorem below {w w':World} {b N:Nat} {o:Obj} (h:w.heap[b]?=some o) (hb:Below N w w') (hlt:b<N):w'.heap[b]?=some o:=(hb.block b hlt).trans h
theorem isLt {w:World} {b:Nat} {o:Obj} (h:w.heap[b]?=some o):b<w.heap.size:=(Array.getElem?_eq_some_iff.1 h).1
theorem alloc {w:World} {b:Nat} {o:Obj} (h:w.heap[b]?=some o) (o':Obj):(w.alloc o').heap[b]?=some o:=(Below.heap_alloc w o' b (isLt h)).trans h
theorem cell {w:World} {b:Nat} {C:Array Value} {t:TypeId} {fr:Nat×Nat} (h:w.heap[b]?=some (.cells C t fr)) (j:Nat) {v:Value} (hj:C[j]?=some v):w.cell? (Ad b j)=some v:=(cell_of_row w b j C t fr h).trans hj
theorem free {w:World} {b:Nat} {C:Array Value} {t:TypeId} (h:w.heap[b]?=some (.cells C t (0,0))) (j:Nat):w.frozen? (Ad b j)=false:=frozen_of_row w b j C t h
theorem other {w:World} {b:Nat} {o:Obj} (h:w.heap[b]?=some o) (g j:Nat) (v:Value) (hne:b≠g):(w.setCell (Ad g j) v).heap[b]?=some o:=(heap_setCell_other w (Ad g j) b v hne).trans h
theorem set {w:World} {b:Nat} {C:Array Value} {t:TypeId} (h:w.heap[b]?=some (.cells C t (0,0))) (j:Nat) (v:Value):(w.setCell (Ad b j) v).heap[b]?=some (.cells (C.setIfInBounds j v) t (0,0)):=heap_setCell_same w b j C t v h
theorem new (w:World) (C:Array Value) (t:TypeId):(w.alloc (.cells C t)).heap[w.heap.size]?=some (.cells C t (0,0)):=heap_alloc_new w _
theorem news {w:World} {b:Nat} {C:Array Value} {t:TypeId} {fr:Nat×Nat} (h:w.heap[b]?=some (.cells C t fr)):∀j u,C.toList[j]?=some u->w.cell? (((Ad b 0):Addr).add j)=some u:=fun j u hj=>by
 rw[Addr.add_lit,Nat.zero_add];exact cell h j (by simpa using hj)
theorem grown {w w':World} {b:Nat} {o:Obj} {row:Option Nat} (h:w.heap[b]?=some o) (hg:w.grownBy w' row) (hne:some b≠row):w'.heap[b]?=some o:=(hg.block b (isLt h) hne).trans h
theorem c2 {w:World} {b:Nat} {a0 a1:Value} {t:TypeId} (h:w.heap[b]?=some (.cells #[a0,a1] t (0,0))):w.cell? (Ad b 0)=some a0/\w.cell? (Ad b 1)=some a1:=⟨cell h 0 rfl,cell h 1 rfl⟩
theorem c3 {w:World} {b:Nat} {a0 a1 a2:Value} {t:TypeId} (h:w.heap[b]?=some (.cells #[a0,a1,a2] t (0,0))):w.cell? (Ad b 0)=some a0/\w.cell? (Ad b 1)=some a1/\w.cell? (Ad b 2)=some a2:=⟨cell h 0 rfl,cell h 1 rfl,cell h 2 rfl⟩
theorem c4 {w:World} {b:Nat} {a0 a1 a2 a3:Value} {t:TypeId} (h:w.heap[b]?=some (.cells #[a0,a1,a2,a3] t (0,0))):w.cell? (Ad b 0)=some a0/\w.cell? (Ad b 1)=some a1/\w.cell? (Ad b 2)=some a2/\w.cell? (Ad b 3)=some a3:=⟨cell h 0 rfl,cell h 1 rfl,cell h 2 rfl,cell h 3 rfl⟩
theorem c5 {w:World} {b:Nat} {a0 a1 a2 a3 a4:Value} {t:TypeId} (h:w.heap[b]?=some (.cells #[a0,a1,a2,a3,a4] t (0,0))):w.cell? (Ad b 0)=some a0/\w.cell? (Ad b 1)=some a1/\w.cell? (Ad b 2)=some a2/\w.cell? (Ad b 3)=some a3/\w.cell? (Ad b 4)=some a4:=⟨cell h 0 rfl,cell h 1 rfl,cell h 2 rfl,cell h 3 rfl,cell h 4 rfl⟩
end B
namespace GK
open Go.RowKit
structure Kp (D:Nat->Prop) (w w':World):Prop where
 os:w'.os=w.os
 tape:w'.tape=w.tape
 output:w'.output=w.output
 size:w.heap.size<=w'.heap.size
 block:∀b,b<w.heap.size->¬D b->w'.heap[b]?=w.heap[b]?
theorem Kp.refl (D:Nat->Prop) (w:World):Kp D w w:=⟨rfl,rfl,rfl,Nat.le_refl _,fun _ _ _=>rfl⟩
theorem Kp.trans {D D1:Nat->Prop} {w w1 w2:World} (h:Kp D w w1) (g:Kp D1 w1 w2) (hd:∀b,b<w.heap.size->D1 b->D b):Kp D w w2 :=
 ⟨g.os.trans h.os,g.tape.trans h.tape,g.output.trans h.output,Nat.le_trans h.size g.size,fun b hb hn=>(g.block b (Nat.lt_of_lt_of_le hb h.size) (fun k=>hn (hd b hb k))).trans (h.block b hb hn)⟩
theorem Kp.mono {D D1:Nat->Prop} {w w':World} (h:Kp D w w') (hd:∀b,b<w.heap.size->D b->D1 b):Kp D1 w w':=⟨h.os,h.tape,h.output,h.size,fun b hb hn=>h.block b hb (fun k=>hn (hd b hb k))⟩
theorem Kp.bc {D:Nat->Prop} {w w':World} (h:Below w.heap.size w w'):Kp D w w':=⟨h.os,h.tape,h.output,h.size,fun b hb _=>h.block b hb⟩
theorem Kp.below {D:Nat->Prop} {N:Nat} {w0 w w':World} (h:Below N w0 w) (g:Kp D w w') (hN:N<=w.heap.size) (hd:∀b,D b->N<=b):Below N w0 w' :=
 h.trans ⟨g.os,g.tape,g.output,g.size,fun b hb=>g.block b (Nat.lt_of_lt_of_le hb hN) (fun k=>by have:=hd b k;omega)⟩
theorem Kp.alloc (D:Nat->Prop) (w:World) (o:Obj):Kp D w (w.alloc o):=Kp.bc ((Below.refl _ _).alloc (Nat.le_refl _) o)
theorem Kp.drew (D:Nat->Prop) (w:World):Kp D w w.drew:=Kp.bc (Below.refl _ _).drew
theorem Kp.set (D:Nat->Prop) (w:World) (a:Addr) (v:Value) (h:D a.block):Kp D w (w.setCell a v):=by
 have hb:=(Below.refl 0 w).setCell (p:=a) (Nat.zero_le _) v;exact⟨hb.os,hb.tape,hb.output,hb.size,fun b _ hn=>Below.heap_setCell w a v b (fun e=>hn (e ▸ h))⟩
theorem Kp.grown {D:Nat->Prop} {w w':World} {row:Option Nat} (h:w.grownBy w' row) (hd:∀k,row=some k->D k):Kp D w w' :=
 ⟨h.os,h.tape,h.output,h.size,fun b hb hn=>h.block b hb (fun e=>hn (hd b e.symm))⟩
theorem Kp.keep {D:Nat->Prop} {w w':World} {b:Nat} {o:Obj} (h:Kp D w w') (hb:w.heap[b]?=some o) (hn:¬D b):w'.heap[b]?=some o:=(h.block b (B.isLt hb) hn).trans hb
theorem Kp.cell {D:Nat->Prop} {w w':World} {p:Addr} {v:Value} (h:Kp D w w') (hp:w.cell? p=some v) (hn:¬D p.block):w'.cell? p=some v :=
 (World.cell?_of_block (h.block p.block (World.block_lt_of_cell? w p hp) hn)).trans hp
theorem Kp.row {D:Nat->Prop} {w w':World} {base:Nat} {e:TypeId} {size:Nat} {v:Value} {n:Nat} {xs:List Value} (h:Kp D w w') (hr:w.ownsRow base e size v n xs) (hn:∀g,v.ownBlock=some g->¬D g):w'.ownsRow base e size v n xs:=by
 refine⟨hr.1,?_⟩;rcases hr.2 with h0 | ⟨g,cap,cur,hv,hb,hg,h1,h2,h3,h4⟩
 · exact .inl h0
 · exact .inr ⟨g,cap,cur,hv,hb,h.keep hg (hn g (by rw[hv];rfl)),h1,h2,h3,h4⟩
theorem ig {w:World} {base:Nat} {e:TypeId} {size:Nat} {g n cap:Nat} {xs:List Value} (hr:w.ownsRow base e size (.slice (some (Ad g 0)) n cap) n xs) (j:Nat) (u:Value) :
  (w.setCell (Ad g j) u).ownsRow base e size (.slice (some (Ad g 0)) n cap) n (xs.set j u):=by
 refine⟨by rw[List.length_set];exact hr.1,?_⟩;rcases hr.2 with⟨h0,_⟩ | ⟨g',cap',cur,hv,hb,hg,h1,h2,h3,h4⟩
 · cases h0
 · injection hv with e1 e2 e3;injection e1 with e1;injection e1 with e1 _ _;subst e1 e3;refine .inr ⟨g,cap,cur.setIfInBounds j u,rfl,hb,B.set hg j u,h1,h2,by rw[Array.size_setIfInBounds];exact h3,?_⟩;rw[Array.toList_setIfInBounds,<- h4];exact List.take_set.symm ▸ rfl
theorem dx {w:World} {base:Nat} {e:TypeId} {size:Nat} {g n cap:Nat} {xs:List Value} (hr:w.ownsRow base e size (.slice (some (Ad g 0)) n cap) n xs) (j:Nat):w.frozen? (Ad g j)=false:=by
 rcases hr.2 with⟨h0,_⟩ | ⟨g',cap',cur,hv,hb,hg,h1,h2,h3,h4⟩
 · cases h0
 · injection hv with e1 e2 e3;injection e1 with e1;injection e1 with e1 _ _;subst e1;exact B.free hg j
theorem yo {P:Program} (w:World) (t ty:TypeId) (base:Nat) (e:TypeId) (i:TypeInfo) (z:Value) (size bytes:Nat) (ht:P.underlying t=some (.slice e)) (hi:P.info? e=some i) (hz:i.zero=some z)
  (hsize:i.size=size) (hby:i.bytes=bytes) (hzs:z.cells.size=size) (hsz:0<size)
  (v:Value) (n:Nat) (xs:List Value) (hown:w.ownsRow base e size v n xs)
  (ao:Option Addr) (m c:Nat) (news:List Value) (hl:news.length=m*size) (hnews:0<m->∃ad,ao=some ad/\∀j u,news[j]?=some u->w.cell? (ad.add j)=some u) (h1:∀u∈news,u.oneCell'=true)
  (h63:n+m<=maxLen) (hbytes:(n+m)*bytes<=140737488355328) (hbase:base<=w.heap.size) :
  ∃v' w',(Builtin.append_ #[t,t] ty #[v,.slice ao m c]).run P w=.ok v' w' /\
   w'.ownsRow base e size v' (n+m) (xs++news)/\w.grownBy w' v.ownBlock/\(v'.ownBlock=v.ownBlock∨v'.ownBlock=some w.heap.size):=by
 by_cases h0:0<m
 · obtain⟨ad,rfl,hc⟩:=hnews h0;obtain⟨g,cap,w',hr,h2,h3,h4,h5⟩:=run_append_lies (P:=P) w t ty base e i z size bytes ht hi hz hsize hby hzs hsz v n xs hown ad m c news hl hc h1 h0 h63 hbytes hbase _ rfl;refine⟨_,w',hr,h2,h3,?_⟩;rcases h4 with h4 | h4
   · exact .inl h4.symm
   · exact .inr (by rw[h4];rfl)
 · obtain rfl:m=0:=by omega
   have hn:news=[]:=List.eq_nil_of_length_eq_zero (by omega);subst hn;have hsrc:Src P i.size t (.slice ao 0 c) 0 [] w:=⟨.inl ⟨_,ht⟩,fun w'=>by simp[Builtin.lenOf],by cases ao <;> simp[Builtin.firstCells,loadCells,loadCellsFrom],by cases ao <;> simp[Builtin.firstCells,loadCells,loadCellsFrom],by simp,by simp⟩;have hform:∃b cap,v=.slice b n cap/\n<=cap:=by
    rcases hown.2 with⟨h0,h1⟩ | ⟨g',cap',cur,hv,hb,hg,h1,h2,h3,h4⟩
    · exact⟨none,0,by rw[h0,h1],by omega⟩
    · exact⟨_,cap',hv,h1⟩
   obtain⟨b,cap,rfl,hle⟩:=hform;have hr:=run_append_nothing (P:=P) w t t ty e i ht hi b n cap hle (.slice ao 0 c) hsrc;exact⟨_,w,hr,by simpa using hown,World.grownBy.refl _ _,.inl rfl⟩
theorem df {P:Program} {o:Oper} {a:Act} {w:World} {K:Act->World->Prop} {Q:Exit->Act->World->Prop} (s x:Operand) (t:TypeId)
  (ho:o.op=.call { callee:=.builtin .append,args:=#[s,x],argTypes:=#[t,t] })
  (base:Nat) (e:TypeId) (i:TypeInfo) (z:Value) (size bytes:Nat) (ht:P.underlying t=some (.slice e)) (hi:P.info? e=some i) (hz:i.zero=some z)
  (hsize:i.size=size) (hby:i.bytes=bytes) (hzs:z.cells.size=size) (hsz:0<size)
  (v:Value) (n:Nat) (xs:List Value) (hs:a.eval s=v) (hown:w.ownsRow base e size v n xs)
  (ao:Option Addr) (m c:Nat) (news:List Value) (hx:a.eval x=.slice ao m c) (hl:news.length=m*size) (hnews:0<m->∃ad,ao=some ad/\∀j u,news[j]?=some u->w.cell? (ad.add j)=some u) (h1:∀u∈news,u.oneCell'=true)
  (h63:n+m<=maxLen) (hbytes:(n+m)*bytes<=140737488355328) (hbase:base<=w.heap.size)
  (h:∀v' w',w'.ownsRow base e size v' (n+m) (xs++news)->w.grownBy w' v.ownBlock->(v'.ownBlock=v.ownBlock∨v'.ownBlock=some w.heap.size)->K (a.put o.dst v') w'):o.wp P a w K Q:=by
 obtain⟨v',w',hr,h2,h3,h4⟩:=yo (P:=P) w t o.type base e i z size bytes ht hi hz hsize hby hzs hsz v n xs hown ao m c news hl hnews h1 h63 hbytes hbase;unfold Oper.wp execOp;simp only[ho,resolve,invoke,builtin,Sem.run_bind,Sem.run_pure,Result.andThen_ok,List.map_toArray,List.map_cons,List.map_nil,hs,hx,hr];exact h v' w' h2 h3 h4
theorem bO {P:Program} {ops:Array Oper} {rest:List Oper} {o:Oper} {a:Act} {w:World} {Q:Exit->Act->World->Prop} (hgd:o.guard=none) (s x:Operand) (t:TypeId)
  (ho:o.op=.call { callee:=.builtin .append,args:=#[s,x],argTypes:=#[t,t] })
  (base:Nat) (e:TypeId) (i:TypeInfo) (z:Value) (size bytes:Nat) (ht:P.underlying t=some (.slice e)) (hi:P.info? e=some i) (hz:i.zero=some z)
  (hsize:i.size=size) (hby:i.bytes=bytes) (hzs:z.cells.size=size) (hsz:0<size)
  (v:Value) (n:Nat) (xs:List Value) (hs:a.eval s=v) (hown:w.ownsRow base e size v n xs)
  (ao:Option Addr) (m c:Nat) (news:List Value) (hx:a.eval x=.slice ao m c) (hl:news.length=m*size) (hnews:0<m->∃ad,ao=some ad/\∀j u,news[j]?=some u->w.cell? (ad.add j)=some u) (h1:∀u∈news,u.oneCell'=true)
  (h63:n+m<=maxLen) (hbytes:(n+m)*bytes<=140737488355328) (hbase:base<=w.heap.size)
  (h:∀v' w',w'.ownsRow base e size v' (n+m) (xs++news)->w.grownBy w' v.ownBlock->(v'.ownBlock=v.ownBlock∨v'.ownBlock=some w.heap.size)->wpList P ops Q rest (a.put o.dst v') w'):wpList P ops Q (o::rest) a w :=
 wpList_plain hgd fun _ hK=>df s x t ho base e i z size bytes ht hi hz hsize hby hzs hsz v n xs hs hown ao m c news hx hl hnews h1 h63 hbytes hbase fun v' w' h2 h3 h4=>hK _ _ (h v' w' h2 h3 h4)
theorem bK {α:Type} (f:α->List Value) (k:Nat) (hf:∀x,(f x).length=k):∀l:List α,(l.flatMap f).length=l.length*k
 | []=>by simp
 | a::r=>by rw[List.flatMap_cons,List.length_append,hf,bK f k hf r,List.length_cons,Nat.succ_mul,Nat.add_comm]
theorem ou {α:Type} (f:α->List Value) (k:Nat) (hf:∀x,(f x).length=k) (d:α):∀(l:List α) (i j:Nat),i<l.length->j<k->(l.flatMap f)[i*k+j]?=(f (l.getD i d))[j]?
 | [],i,j,hi,hj=>by simp at hi
 | a::r,0,j,hi,hj=>by
  rw[List.flatMap_cons,Nat.zero_mul,Nat.zero_add,List.getElem?_append_left (by rw[hf];exact hj)];rfl
 | a::r,i+1,j,hi,hj=>by
  rw[List.flatMap_cons,List.getElem?_append_right (by rw[hf,Nat.succ_mul];omega),hf,show(i+1)*k+j-k=i*k+j by rw[Nat.succ_mul];omega];exact ou f k hf d r i j (by simpa using hi) hj
theorem fE {α:Type} (f:α->List Value) (k:Nat) (hf:∀x,(f x).length=k) (d:α) (x:α) (j:Nat) (v:Value) (hj:j<k):∀(l:List α) (i:Nat),i<l.length->f x=(f (l.getD i d)).set j v->(l.set i x).flatMap f=(l.flatMap f).set (i*k+j) v
 | [],i,hi,_=>by simp at hi
 | a::r,0,hi,e=>by
  have e':f x=(f a).set j v:=e;rw[List.set_cons_zero,List.flatMap_cons,List.flatMap_cons,Nat.zero_mul,Nat.zero_add,List.set_append_left _ _ (by rw[hf];exact hj),e']
 | a::r,i+1,hi,e=>by
  rw[List.set_cons_succ,List.flatMap_cons,List.flatMap_cons,List.set_append_right _ _ (by rw[hf,Nat.succ_mul];omega),hf,show(i+1)*k+j-k=i*k+j by rw[Nat.succ_mul];omega,fE f k hf d x j v hj r i (by simpa using hi) e]
theorem iZ {α:Type} {w:World} {base:Nat} {e:TypeId} {k g cap:Nat} (f:α->List Value) (hf:∀x,(f x).length=k) (d:α) {l:List α} (hr:w.ownsRow base e k (.slice (some (Ad g 0)) l.length cap) l.length (l.flatMap f)) (i j:Nat) (hi:i<l.length) (hj:j<k):w.cell? (Ad g (i*k+j))=(f (l.getD i d))[j]?:=by
 have:i*k+j<l.length*k:=by
  have:=Nat.mul_le_mul_right k (show i+1<=l.length from hi);rw[Nat.succ_mul] at this;omega
 exact(hr.cellAt _ this).trans (ou f k hf d l i j hi hj)
theorem aN {w:World} {base:Nat} {e:TypeId} {size:Nat} {v:Value} {n:Nat} {xs:List Value} (h:w.ownsRow base e size v n xs):∃ao cap,v=.slice ao n cap/\n<=cap/\(0<n->∃g,ao=some (Ad g 0)/\base<=g/\g<w.heap.size):=by
 rcases h.2 with⟨h0,h1⟩ | ⟨g',cap',cur,hv,hb,hg,h1,h2,h3,h4⟩
 · exact⟨none,0,by rw[h0,h1],by omega,fun h=>by omega⟩
 · exact⟨_,cap',hv,h1,fun _=>⟨g',rfl,hb,B.isLt hg⟩⟩
theorem jU {w:World} {base base':Nat} {e:TypeId} {size:Nat} {v:Value} {n:Nat} {xs:List Value} (h:w.ownsRow base e size v n xs) (hb:∀g,v.ownBlock=some g->base'<=g):w.ownsRow base' e size v n xs:=by
 refine⟨h.1,?_⟩;rcases h.2 with h0 | ⟨g,cap,cur,hv,_,hg,h1,h2,h3,h4⟩
 · exact .inl h0
 · exact .inr ⟨g,cap,cur,hv,hb g (by rw[hv];rfl),hg,h1,h2,h3,h4⟩
theorem cB (w:World) (g j b o:Nat) (v:Value) (h:b≠g):(w.setCell (Ad g j) v).cell? (Ad b o)=w.cell? (Ad b o):=World.cell?_of_block (Below.heap_setCell w (Ad g j) v b h)
theorem nC {D:Nat->Prop} (w:World) (g:Nat) (j0 j1 j2:Nat) (v0 v1 v2:Value) (h:D g):Kp D w (((w.setCell (Ad g j0) v0).setCell (Ad g j1) v1).setCell (Ad g j2) v2) :=
 ((Kp.set D w (Ad g j0) v0 h).trans (Kp.set D _ (Ad g j1) v1 h) (fun _ _ k=>k)).trans (Kp.set D _ (Ad g j2) v2 h) (fun _ _ k=>k)
end GK
namespace AM
open Go.RowKit
structure Ar where
 page:Int
 aJ:Int
 bV:Int
 zero:Bool
def Ar.eG (a:Ar):Int:=a.page+a.aJ
def nil:Ar:=⟨0,0,0,false⟩
def at_ (l:List Ar) (i:Nat):Ar:=l.getD i nil
def dW (p n:Int):Bool:=decide (1<=p/\1<=n/\n<=256-p)
def iV (p:Int):Bool:=decide (0<=p/\p<=3)
def fM (a b:Ar):Bool:=if b.page=a.eG then (b.bV != a.bV || b.zero != a.zero) else decide (a.eG<b.page)
def Cs (w:World) (b off:Nat) (l:List Ar):Prop:=∀i,i<l.length ->
 w.cell? (Ad b (off+i*4))=some (I (at_ l i).page)/\w.cell? (Ad b (off+i*4+1))=some (I (at_ l i).aJ) /\
 w.cell? (Ad b (off+i*4+2))=some (I (at_ l i).bV)/\w.cell? (Ad b (off+i*4+3))=some (.bool (at_ l i).zero)
def Fits (a:Ar):Prop:=(-9223372036854775808<=a.page/\a.page<=9223372036854775807)/\(-9223372036854775808<=a.aJ/\a.aJ<=9223372036854775807)/\(-9223372036854775808<=a.bV/\a.bV<=9223372036854775807)
def nY (l:List Ar) (i:Nat):Bool:=dW (at_ l i).page (at_ l i).aJ&&iV (at_ l i).bV&&(i==0 || fM (at_ l (i-1)) (at_ l i))
def gF (l:List Ar):Nat->Bool
 | 0=>true
 | k+1=>gF l k&&nY l k
def good (l:List Ar):Bool:=gF l l.length
def aW (l:List Ar):Int:=if 255<l.length then 2 else if good l then 0 else 1
theorem tX (l:List Ar):∀(k n:Nat),k<=n->gF l k=false->gF l n=false
 | k, 0, h, hk => by obtain rfl:k=0 := by omega
                     exact hk
 | k,n+1,h,hk=>by
  by_cases e:k=n+1
  · subst e;exact hk
  · simp[gF,tX l k n (by omega) hk]
theorem uY (l:List Ar):∀(n:Nat),gF l n=true->∀i,i<n->nY l i=true
 | 0,_,i,hi=>by omega
 | n+1,h,i,hi=>by
  simp only[gF,Bool.and_eq_true] at h;by_cases e:i=n
  · subst e;exact h.2
  · exact uY l n h.1 i (by omega)
theorem Cs.lt {w:World} {b off:Nat} {l:List Ar} (h:Cs w b off l) (i:Nat) (hi:i<l.length):b<w.heap.size :=
 World.block_lt_of_cell? w _ (h i hi).1
theorem Cs.below {w w':World} {b off:Nat} {l:List Ar} (h:Cs w b off l) (hb:Below w.heap.size w w'):Cs w' b off l:=fun i hi=>by
 have hlt:=h.lt i hi;obtain⟨h0,h1,h2,h3⟩:=h i hi;exact⟨(hb.cell (p:=(Ad b _)) hlt).trans h0,(hb.cell (p:=(Ad b _)) hlt).trans h1,(hb.cell (p:=(Ad b _)) hlt).trans h2,(hb.cell (p:=(Ad b _)) hlt).trans h3⟩
theorem IU (l:List Ar) (k:Nat) (hk:k<l.length) (h:nY l k=false):good l=false :=
 tX l (k+1) l.length (by omega) (by simp[gF,h])
theorem Jr (l:List Ar) (k:Nat) (h:gF l k=true) (h':nY l k=true):gF l (k+1)=true:=by simp[gF,h,h']
def hit (a:Ar) (p:Int):Bool:=decide (a.page<=p/\p<a.eG)
def aU:List Ar->Int->Ar×Bool
 | [],_=>(nil,false)
 | a::r,p=>if hit a p then (a,true) else aU r p
def aR (l:List Ar) (p:Int):Ar×Bool:=if aW l=0 then aU l p else (nil,false)
def sumTo (l:List Ar):Nat->Int
 | 0=>0
 | k+1=>sumTo l k+(at_ l k).aJ
def b7 (l:List Ar):Int:=if aW l=0 then sumTo l l.length else 0
theorem jo:∀(l:List Ar) (p:Int),(∀i,i<l.length->hit (at_ l i) p=false)->aU l p=(nil,false)
 | [],_,_=>rfl
 | a::r,p,h=>by
  have h0:hit a p=false:=h 0 (by simp);have hr:∀i,i<r.length->hit (at_ r i) p=false:=fun i hi=>h (i+1) (by simpa using hi)
  simp[aU,h0,jo r p hr]
theorem jL:∀(l:List Ar) (p:Int) (k:Nat),k<l.length->(∀i,i<k->hit (at_ l i) p=false)->hit (at_ l k) p=true->aU l p=(at_ l k,true)
 | [],_,k,hk,_,_=>by simp at hk
 | a::r,p,0,hk,_,h1=>by
  have h0:hit a p=true:=h1;simp[aU,h0,at_]
 | a::r,p,k+1,hk,h,h1=>by
  have h0:hit a p=false:=h 0 (by omega);have hr:=jL r p k (by simpa using hk) (fun i hi=>h (i+1) (by omega)) h1;simp[aU,h0,hr,at_]
theorem cW (l:List Ar) (h:aW l=0) (i:Nat) (hi:i<l.length):nY l i=true:=by
 unfold aW at h;split at h
 · simp at h
 · split at h
   · exact uY l l.length (by assumption) i hi
   · simp at h
theorem gP (l:List Ar) (h:aW l=0):l.length<=255:=by
 unfold aW at h;split at h
 · simp at h
 · omega
theorem dg (l:List Ar) (i:Nat) (h:nY l i=true):1<=(at_ l i).page/\1<=(at_ l i).aJ/\(at_ l i).aJ<=256-(at_ l i).page/\0<=(at_ l i).bV/\(at_ l i).bV<=3:=by
 simp only[nY,Bool.and_eq_true,dW,iV,decide_eq_true_eq] at h;exact⟨h.1.1.1,h.1.1.2.1,h.1.1.2.2,h.1.2.1,h.1.2.2⟩
theorem tv (l:List Ar) (h:aW l=0):∀k,k<=l.length->0<=sumTo l k/\sumTo l k<=255*k
 | 0,_=>by simp[sumTo]
 | k+1,hk=>by
  have ih:=tv l h k (by omega);have ho:=dg l k (cW l h k (by omega));simp only[sumTo];omega
end AM
namespace FM
open Go.RowKit
def iQ (bV way:Int):Bool:=decide ((way=1/\bV%2=0)∨(way=2/\bV<2))
def jN (l:List AM.Ar) (p way:Int):Int×Int :=
 if p<0∨(AM.aR l (p/16)).2=false then (1,p) else if iQ (AM.aR l (p/16)).1.bV way=true then (2,p) else (0,0)
def fq (l:List AM.Ar) (a way:Int):Nat->Int×Int
 | 0=>(0,0)
 | n+1=>if (fq l a way n).1=0 then jN l (a+n) way else fq l a way n
def fO (l:List AM.Ar) (a size way:Int):Int×Int:=if way=2/\¬a%8=0 then (3,a) else fq l a way size.toNat
theorem oM {l:List AM.Ar} {p way:Int} (h:(jN l p way).1=0):jN l p way=(0,0)/\0<=p/\(AM.aR l (p/16)).2=true/\iQ (AM.aR l (p/16)).1.bV way=false:=by
 unfold jN at h ⊢;by_cases c:p<0∨(AM.aR l (p/16)).2=false
 · rw[if_pos c] at h;cases h
 · rw[if_neg c] at h ⊢;cases d:iQ (AM.aR l (p/16)).1.bV way with
   | true=>rw[d] at h;cases h
   | false =>
    refine⟨rfl,by omega,?_,rfl⟩;cases e:(AM.aR l (p/16)).2 with
    | true=>rfl
    | false=>exact(c (.inr e)).elim
theorem uh {l:List AM.Ar} {p way:Int} (h:p<0∨(AM.aR l (p/16)).2=false):jN l p way=(1,p):=by unfold jN;rw[if_pos h]
theorem zS {l:List AM.Ar} {p way:Int} (h:0<=p) (h2:(AM.aR l (p/16)).2=true) (h3:iQ (AM.aR l (p/16)).1.bV way=true):jN l p way=(2,p):=by
 unfold jN;rw[if_neg (by rw[h2];intro g;rcases g with g | g;omega;cases g),if_pos h3]
theorem J4 {l:List AM.Ar} {p way:Int} (h:0<=p) (h2:(AM.aR l (p/16)).2=true) (h3:iQ (AM.aR l (p/16)).1.bV way=false):jN l p way=(0,0):=by
 unfold jN;rw[if_neg (by rw[h2];intro g;rcases g with g | g;omega;cases g),h3];rfl
theorem pk {l:List AM.Ar} {a way:Int} {k:Nat} {f:Int×Int} (h:fq l a way k=f) (hf:¬f.1=0):∀n,k<=n->fq l a way n=f
 | 0, hn => by obtain rfl:k=0 := by omega
               exact h
 | n+1,hn=>by
  by_cases e:k=n+1
  · subst e;exact h
  · have ih:=pk h hf n (by omega);rw[fq,ih,if_neg hf]
theorem mW {l:List AM.Ar} {a way:Int} {k:Nat} (h:fq l a way k=(0,0)):fq l a way (k+1)=jN l (a+k) way:=by
 rw[fq,h];rfl
theorem tY:∀(l:List AM.Ar) (q:Int),(AM.aU l q).2=true->∃k,k<l.length/\AM.hit (AM.at_ l k) q=true/\(AM.aU l q).1=AM.at_ l k
 | [],q,h=>by cases h
 | a::r,q,h=>by
  unfold AM.aU at h ⊢;by_cases c:AM.hit a q=true
  · rw[if_pos c];exact⟨0,by simp,c,rfl⟩
  · rw[if_neg c] at h ⊢;obtain⟨k,h1,h2,h3⟩:=tY r q h;exact⟨k+1,by simp;omega,h2,h3⟩
theorem kO {l:List AM.Ar} {q:Int} (hc:AM.aW l=0) (h:(AM.aR l q).2=true):1<=q/\q<256/\0<=(AM.aR l q).1.bV/\(AM.aR l q).1.bV<=3:=by
 have e:AM.aR l q=AM.aU l q:=by unfold AM.aR;rw[if_pos hc]
 rw[e] at h ⊢;obtain⟨k,h1,h2,h4⟩:=tY l q h;have h5:=AM.dg l _ (AM.cW l hc _ h1);have h6:(AM.at_ l k).page<=q/\q<(AM.at_ l k).page+(AM.at_ l k).aJ:=of_decide_eq_true h2;rw[h4];omega
theorem lN {l:List AM.Ar} {q:Int} (h:(AM.aR l q).2=true):AM.aW l=0:=by
 by_cases c:AM.aW l=0
 · exact c
 · unfold AM.aR at h;rw[if_neg c] at h;cases h
theorem nV {l:List AM.Ar} {a way:Int}:∀{k:Nat},fq l a way (k+1)=(0,0)->16<=a/\a+k<4096
 | 0,h=>by
  rw[mW rfl] at h;obtain⟨_,h1,h2,_⟩:=oM (by rw[h]);have:=kO (lN h2) h2;omega
 | k+1,h=>by
  have h0:fq l a way (k+1)=(0,0):=by
   by_cases c:(fq l a way (k+1)).1=0
   · rw[fq] at c ⊢;split at c
     · rename_i d
       rw[if_pos d];exact(oM c).1
     · rename_i d
       exact(d c).elim
   · rw[pk (k:=k+1) rfl c (k+2) (by omega)] at h;rw[h] at c;exact(c rfl).elim
  have ih:=nV h0;rw[mW h0] at h;obtain⟨_,h1,h2,_⟩:=oM (by rw[h]);have:=kO (lN h2) h2;omega
end FM
namespace AW
open Go.RowKit
theorem jC (p n t:Int) (z:Bool) (w:World) (h1:-9223372036854775808<=p+n) (h2:p+n<=9223372036854775807) :
  Calls Tryz.prog 117 #[.agg #[I p,I n,I t,.bool z]] w fun e w'=>e=.returned (I (p+n))/\Below w.heap.size w w':=by
 go_enter Tryz.func117,Tryz.ntmps117;go_wp2;go_ret;exact⟨rfl,(Below.refl _ _).alloc (Nat.le_refl _) _⟩
theorem eT (p n:Int) (w:World) (hp:-9223372036854775808<=p/\p<=9223372036854775807) (hn:-9223372036854775808<=n/\n<=9223372036854775807) :
  Calls Tryz.prog 143 #[I p,I n] w fun e w'=>e=.returned (.bool (AM.dW p n))/\w=w':=by
 by_cases h1:1<=p
 · by_cases h2:1<=n
   · by_cases h3:n<=256-p
     · have e:AM.dW p n=true:=by simp[AM.dW,h1,h2,h3]
       have h4:n<=255-p+1:=by omega
       rw[e];go_enter Tryz.func143,Tryz.ntmps143;go_wp2;go_ret;exact⟨rfl,rfl⟩
     · have e:AM.dW p n=false:=by simp[AM.dW];omega
       have h4:decide (n<=255-p+1)=false:=by simp;omega
       rw[e];go_enter Tryz.func143,Tryz.ntmps143;go_wp2;go_ret;exact⟨rfl,rfl⟩
   · have e:AM.dW p n=false:=by simp[AM.dW];omega
     have h4:decide (1<=n)=false:=by simp;omega
     rw[e];go_enter Tryz.func143,Tryz.ntmps143;go_wp2;go_ret;exact⟨rfl,rfl⟩
 · have e:AM.dW p n=false:=by simp[AM.dW];omega
   have h4:decide (1<=p)=false:=by simp;omega
   rw[e];go_enter Tryz.func143,Tryz.ntmps143;go_wp2;go_ret;exact⟨rfl,rfl⟩
theorem gS (p:Int) (w:World) :
  Calls Tryz.prog 144 #[I p] w fun e w'=>e=.returned (.bool (AM.iV p))/\w=w':=by
 by_cases h1:0<=p
 · by_cases h2:p<=3
   · have e:AM.iV p=true:=by simp[AM.iV,h1,h2]
     rw[e];go_enter Tryz.func144,Tryz.ntmps144;go_wp2;go_ret;exact⟨rfl,rfl⟩
   · have e:AM.iV p=false:=by simp[AM.iV];omega
     have h4:decide (p<=3)=false:=by simp;omega
     rw[e];go_enter Tryz.func144,Tryz.ntmps144;go_wp2;go_ret;exact⟨rfl,rfl⟩
 · have e:AM.iV p=false:=by simp[AM.iV];omega
   have h4:decide (0<=p)=false:=by simp;omega
   rw[e];go_enter Tryz.func144,Tryz.ntmps144;go_wp2;go_ret;exact⟨rfl,rfl⟩
end AW
namespace Q
open Go.RowKit
structure ez (B:Nat) (w:World) where
 world:World
 keeps:Below B w world
theorem dE (w:World):Nonempty (ez w.heap.size w):=⟨⟨w,Below.refl _ _⟩⟩
theorem bu {P:Program} {id:Nat} {Q:Exit->Act->World->Prop} {a:Act} {w:World} {l:List Oper} (hm:P.follows .mixedOrders=true) (hB:Region.lexB .any l.toArray=true)
  (h:wpQuiet P l.toArray (fun w'=>∃x:ez w.heap.size w,w'=x.world) (fun a'=>∀w',(∃x:ez w.heap.size w,w'=x.world)->Q .normal a' w') l a):(Code.region id l.toArray true).wp P Q a w :=
 wp_region_quiet (C:=fun w'=>∃x:ez w.heap.size w,w'=x.world) hm hB ⟨⟨_,(Below.refl _ _).drew⟩,rfl⟩ (by simpa using h)
theorem bM {P:Program} {f:FuncId} {args:Array Value} {v:Value} {w:World} (h:∀W,Calls P f args W fun e w'=>e=.returned v/\Below W.heap.size W w') (x:ez w.heap.size w) :
  Calls P f args x.world fun e w''=>e=.returned v/\∃y:ez w.heap.size w,w''=y.world :=
 (h x.world).mono fun e w'' ⟨he,hb⟩=>⟨he,⟨w'',x.keeps.trans (hb.mono x.keeps.size)⟩,rfl⟩
theorem cV {w:World} (x:ez w.heap.size w) (b o:Nat) (h:b<w.heap.size):x.world.cell? (Ad b o)=w.cell? (Ad b o):=x.keeps.cell (p:=(Ad b o)) h
end Q
namespace AW
open Go.RowKit
theorem C3 (ap an DR bp bn bt:Int) (az bz:Bool) (w:World) (h1:-9223372036854775808<=ap+an) (h2:ap+an<=9223372036854775807) (he:bp=ap+an) :
  Calls Tryz.prog 145 #[.agg #[I ap,I an,I DR,.bool az],.agg #[I bp,I bn,I bt,.bool bz]] w fun e w'=>e=.returned (.bool (bt != DR || bz != az))/\Below w.heap.size w w':=by
 obtain⟨W,hW⟩:=ex ((w.alloc (.cells #[I ap,I an,I DR,.bool az] 47)).alloc (.cells #[I bp,I bn,I bt,.bool bz] 47));have hs:W.heap.size=w.heap.size+2:=by rw[hW];simp
 have j3:=Q.dE W;have hkc:=@Q.cV W;have c0:∀x:Q.ez W.heap.size W,x.world.cell? (Ad w.heap.size 0)=some (I ap):=fun x=>by rw[hkc x _ _ (by omega),hW];simp
 have c1:∀x:Q.ez W.heap.size W,x.world.cell? (Ad w.heap.size 1)=some (I an):=fun x=>by rw[hkc x _ _ (by omega),hW];simp
 have c2:∀x:Q.ez W.heap.size W,x.world.cell? (Ad w.heap.size 2)=some (I DR):=fun x=>by rw[hkc x _ _ (by omega),hW];simp
 have c3:∀x:Q.ez W.heap.size W,x.world.cell? (Ad w.heap.size 3)=some (.bool az):=fun x=>by rw[hkc x _ _ (by omega),hW];simp
 have d0:∀x:Q.ez W.heap.size W,x.world.cell? (Ad (w.heap.size+1) 0)=some (I bp):=fun x=>by rw[hkc x _ _ (by omega),hW];simp
 have d2:∀x:Q.ez W.heap.size W,x.world.cell? (Ad (w.heap.size+1) 2)=some (I bt):=fun x=>by rw[hkc x _ _ (by omega),hW];simp
 have d3:∀x:Q.ez W.heap.size W,x.world.cell? (Ad (w.heap.size+1) 3)=some (.bool bz):=fun x=>by rw[hkc x _ _ (by omega),hW];simp
 have hbW:Hid (Below w.heap.size w W):=by show Below _ _ _;rw[hW];exact((Below.refl _ _).alloc (Nat.le_refl _) _).alloc (by simp) _
 have HW:Hid (W=(w.alloc (.cells #[I ap,I an,I DR,.bool az] 47)).alloc (.cells #[I bp,I bn,I bt,.bool bz] 47)):=hW;clear hW hs hkc;have hx:(bp==ap+an)=true:=by simp[he]
 clear he;go_enter Tryz.func145,Tryz.ntmps145;go_wp2_with fail
 rw[<- HW.o];refine Q.bu (by kernel_rfl) (by kernel_rfl) ?_
 repeat (first | go_big_quiet_step ((go_at_call 117;exact Q.bM (fun W=>jC _ _ _ _ W h1 h2) _)) | quiet_step ((go_at_call 117;exact Q.bM (fun W=>jC _ _ _ _ W h1 h2) _)))
 refine wpQuiet_nil ?_;intro _ hw';obtain⟨x,hw''⟩:=hw';subst hw'';go_wp2
 all_goals go_ret
 all_goals exact⟨by first | (simp[*];done) | (simp[*];cases bz <;> cases az <;> rfl),hbW.out.trans (x.keeps.mono hbW.out.size)⟩
theorem C2 (ap an DR bp bn bt:Int) (az bz:Bool) (w:World) (h1:-9223372036854775808<=ap+an) (h2:ap+an<=9223372036854775807) (he:¬bp=ap+an) :
  Calls Tryz.prog 145 #[.agg #[I ap,I an,I DR,.bool az],.agg #[I bp,I bn,I bt,.bool bz]] w fun e w'=>e=.returned (.bool (decide (ap+an<bp)))/\Below w.heap.size w w':=by
 obtain⟨W,hW⟩:=ex ((w.alloc (.cells #[I ap,I an,I DR,.bool az] 47)).alloc (.cells #[I bp,I bn,I bt,.bool bz] 47));have hs:W.heap.size=w.heap.size+2:=by rw[hW];simp
 have j3:=Q.dE W;have hkc:=@Q.cV W;have c0:∀x:Q.ez W.heap.size W,x.world.cell? (Ad w.heap.size 0)=some (I ap):=fun x=>by rw[hkc x _ _ (by omega),hW];simp
 have c1:∀x:Q.ez W.heap.size W,x.world.cell? (Ad w.heap.size 1)=some (I an):=fun x=>by rw[hkc x _ _ (by omega),hW];simp
 have c2:∀x:Q.ez W.heap.size W,x.world.cell? (Ad w.heap.size 2)=some (I DR):=fun x=>by rw[hkc x _ _ (by omega),hW];simp
 have c3:∀x:Q.ez W.heap.size W,x.world.cell? (Ad w.heap.size 3)=some (.bool az):=fun x=>by rw[hkc x _ _ (by omega),hW];simp
 have d0:∀x:Q.ez W.heap.size W,x.world.cell? (Ad (w.heap.size+1) 0)=some (I bp):=fun x=>by rw[hkc x _ _ (by omega),hW];simp
 have hbW:Hid (Below w.heap.size w W):=by show Below _ _ _;rw[hW];exact((Below.refl _ _).alloc (Nat.le_refl _) _).alloc (by simp) _
 have HW:Hid (W=(w.alloc (.cells #[I ap,I an,I DR,.bool az] 47)).alloc (.cells #[I bp,I bn,I bt,.bool bz] 47)):=hW;have hs2:Hid (w.heap.size+2<=W.heap.size):=by show _<=_;omega
 clear hW hs hkc;have hx:(bp==ap+an)=false:=by simp[he]
 clear he;go_enter Tryz.func145,Tryz.ntmps145;go_wp2_with fail
 rw[<- HW.o];refine Q.bu (by kernel_rfl) (by kernel_rfl) ?_
 repeat (first | go_big_quiet_step ((go_at_call 117;exact Q.bM (fun W=>jC _ _ _ _ W h1 h2) _)) | quiet_step ((go_at_call 117;exact Q.bM (fun W=>jC _ _ _ _ W h1 h2) _)))
 refine wpQuiet_nil ?_;intro _ hw';obtain⟨x,hw''⟩:=hw';subst hw'';have c0x:=c0 x;have c1x:=c1 x;have c2x:=c2 x;have c3x:=c3 x;have d0x:=d0 x;have Yq:Hid (w.heap.size+2<=x.world.heap.size):=Nat.le_trans hs2.out x.keeps.size;have Ai:Hid (Below w.heap.size w x.world):=hbW.out.trans (x.keeps.mono hbW.out.size);clear HW c0 c1 c2 c3 d0 j3 hbW hs2;obtain⟨V,hV⟩:=ex x.world;rw[<- hV] at c0x c1x c2x c3x d0x Yq Ai ⊢;clear hV;have j3:=Q.dE V;have hkc:=@Q.cV V;have adC:=Yq.out;have c0:∀x:Q.ez V.heap.size V,x.world.cell? (Ad w.heap.size 0)=some (I ap):=fun x=>by rw[hkc x _ _ (by omega),c0x]
 have c1:∀x:Q.ez V.heap.size V,x.world.cell? (Ad w.heap.size 1)=some (I an):=fun x=>by rw[hkc x _ _ (by omega),c1x]
 have c2:∀x:Q.ez V.heap.size V,x.world.cell? (Ad w.heap.size 2)=some (I DR):=fun x=>by rw[hkc x _ _ (by omega),c2x]
 have c3:∀x:Q.ez V.heap.size V,x.world.cell? (Ad w.heap.size 3)=some (.bool az):=fun x=>by rw[hkc x _ _ (by omega),c3x]
 have d0:∀x:Q.ez V.heap.size V,x.world.cell? (Ad (w.heap.size+1) 0)=some (I bp):=fun x=>by rw[hkc x _ _ (by omega),d0x]
 clear hkc adC;go_wp2_with fail
 refine Q.bu (by kernel_rfl) (by kernel_rfl) ?_
 repeat (first | go_big_quiet_step ((go_at_call 117;exact Q.bM (fun W=>jC _ _ _ _ W h1 h2) _)) | quiet_step ((go_at_call 117;exact Q.bM (fun W=>jC _ _ _ _ W h1 h2) _)))
 refine wpQuiet_nil ?_;intro _ hw';obtain⟨y,hw''⟩:=hw';subst hw'';go_wp2;go_ret;exact⟨rfl,Ai.out.trans (y.keeps.mono Ai.out.size)⟩
theorem lh (a b:AM.Ar) (w:World) (h1:-9223372036854775808<=a.page+a.aJ) (h2:a.page+a.aJ<=9223372036854775807) :
  Calls Tryz.prog 145 #[.agg #[I a.page,I a.aJ,I a.bV,.bool a.zero],.agg #[I b.page,I b.aJ,I b.bV,.bool b.zero]] w fun e w'=>e=.returned (.bool (AM.fM a b))/\Below w.heap.size w w':=by
 unfold AM.fM AM.Ar.eG;split
 · exact C3 _ _ _ _ _ _ _ _ w h1 h2 (by assumption)
 · exact C2 _ _ _ _ _ _ _ _ w h1 h2 (by assumption)
theorem fU {k:IntKind} {a b:Int} (h:a=b):Ending.returned (.int k a)=.returned (.int k b):=by rw[h]
theorem mR (l:List AM.Ar) (b off cap:Nat) (w:World) (hl:AM.Cs w b off l) (hf:∀i,i<l.length->AM.Fits (AM.at_ l i)) (hn:l.length<=140737488351232) :
  Calls Tryz.prog 98 #[.slice (some (Ad b off)) l.length cap] w fun e w'=>e=.returned (I (AM.aW l))/\Below w.heap.size w w':=by
 by_cases hm:255<l.length
 · have e:AM.aW l=2:=by simp[AM.aW,hm]
   rw[e];have hm':(255:Int)<(l.length:Int):=by omega
   go_enter Tryz.func98,Tryz.ntmps98;go_wp2;go_ret;exact⟨rfl,Below.refl _ _⟩
 · have hm':¬(255:Int)<(l.length:Int):=by omega
   have e:AM.aW l=if AM.good l then 0 else 1:=by simp[AM.aW,hm]
   have E:Hid (AM.aW l=if AM.good l then 0 else 1):=e;clear e;go_enter Tryz.func98,Tryz.ntmps98;go_wp2;go_loopw [10] (fun i wr=>∃k:Nat,k<=l.length/\i=I k/\AM.gF l k=true/\Below w.heap.size w wr) (fun i _=>l.length-(intOf i).toNat)
   case atStart=>exact⟨0,by omega,rfl,rfl,Below.refl _ _⟩
   case round =>
    obtain⟨k,hk,rfl,hg,hb⟩:=hrel;have HG:Hid (AM.gF l k=true):=hg;clear hg;by_cases hlt:k<l.length
    · obtain⟨c0,c1,c2,c3⟩:=(hl.below hb) k hlt;obtain⟨f1,f2,f3⟩:=hf k hlt;obtain⟨a,ha⟩:=ex (AM.at_ l k);rw[<- ha] at c0 c1 c2 c3 f1 f2 f3;have HA:Hid (a=AM.at_ l k):=ha;clear ha;by_cases hp:AM.dW a.page a.aJ=true
      · by_cases hq:AM.iV a.bV=true
        · obtain⟨W,hW⟩:=ex (wr.alloc (.cells #[I a.page,I a.aJ,I a.bV,.bool a.zero] 47));have hs:W.heap.size=wr.heap.size+1:=by rw[hW];simp
          have hbW:Hid (Below w.heap.size w W):=by show Below _ _ _;rw[hW];exact hb.alloc hb.size _
          by_cases L3:k=0
          · have hok:Hid (AM.nY l k=true):=by show _=true;unfold AM.nY;rw[<- HA.o,hp,hq,L3];rfl
            have z1:decide ((0:Int)<(k:Int))=false:=by simp;omega
            have z2:decide (0<k)=false:=by simp;omega
            clear L3;go_wp2_with (first | (go_at_call 143;refine(eT _ _ _ f1 f2).mono ?_;rintro e w' ⟨rfl,rfl⟩) | (go_at_call 144;refine(gS _ _).mono ?_;rintro e w' ⟨rfl,rfl⟩))
            go_quiet (fail)
            go_wp2;go_roundw
            case rel=>exact⟨k+1,by omega,by go_num,AM.Jr l k HG.o hok.out,Go.below_drewN (hb.alloc hb.size _) _⟩
            case measure=>simp[intOf];omega
          · have j3:=Q.dE W;have hkc:=@Q.cV W;have hlW:=hl.below hbW.out;have hbl:=hlW.lt k hlt;obtain⟨g0,g1,g2,g3⟩:=hlW (k-1) (by omega);obtain⟨fp1,fp2,fp3⟩:=hf (k-1) (by omega);obtain⟨p,hpd⟩:=ex (AM.at_ l (k-1));rw[<- hpd] at g0 g1 g2 g3 fp1 fp2 fp3;have E5:=AM.uY l k HG.o (k-1) (by omega);have hps:AM.dW p.page p.aJ=true:=by
             unfold AM.nY at E5;rw[<- hpd] at E5;simp only[Bool.and_eq_true] at E5;exact E5.1.1
            have hpb:1<=p.page/\1<=p.aJ/\p.aJ<=256-p.page:=by simpa [AM.dW] using hps
            have hok:Hid (AM.nY l k=AM.fM p a):=by show _=_;unfold AM.nY;rw[<- HA.o,<- hpd,hp,hq];simp[L3]
            have k0:∀x:Q.ez W.heap.size W,x.world.cell? ⟨b,off+(k-1)*4,none⟩=some (I p.page):=fun x=>by rw[hkc x _ _ hbl,g0]
            have k1:∀x:Q.ez W.heap.size W,x.world.cell? ⟨b,off+(k-1)*4+1,none⟩=some (I p.aJ):=fun x=>by rw[hkc x _ _ hbl,g1]
            have k2:∀x:Q.ez W.heap.size W,x.world.cell? ⟨b,off+(k-1)*4+2,none⟩=some (I p.bV):=fun x=>by rw[hkc x _ _ hbl,g2]
            have k3:∀x:Q.ez W.heap.size W,x.world.cell? ⟨b,off+(k-1)*4+3,none⟩=some (.bool p.zero):=fun x=>by rw[hkc x _ _ hbl,g3]
            have e0:∀x:Q.ez W.heap.size W,x.world.cell? (Ad wr.heap.size 0)=some (I a.page):=fun x=>by rw[hkc x _ _ (by omega),hW];simp
            have e1:∀x:Q.ez W.heap.size W,x.world.cell? (Ad wr.heap.size 1)=some (I a.aJ):=fun x=>by rw[hkc x _ _ (by omega),hW];simp
            have e2:∀x:Q.ez W.heap.size W,x.world.cell? (Ad wr.heap.size 2)=some (I a.bV):=fun x=>by rw[hkc x _ _ (by omega),hW];simp
            have e3:∀x:Q.ez W.heap.size W,x.world.cell? (Ad wr.heap.size 3)=some (.bool a.zero):=fun x=>by rw[hkc x _ _ (by omega),hW];simp
            have HW:Hid (W=wr.alloc (.cells #[I a.page,I a.aJ,I a.bV,.bool a.zero] 47)):=hW;have hk1:(1:Int)<=(k:Int):=by omega
            have hk2:0<k:=by omega
            have hk3:(0:Int)<(k:Int):=by omega
            clear hW hs hkc hlW hbl g0 g1 g2 g3 hpd E5 hps hl;by_cases hfo:AM.fM p a=true
            · go_wp2_with (first | (go_at_call 143;refine(eT _ _ _ f1 f2).mono ?_;rintro e w' ⟨rfl,rfl⟩) | (go_at_call 144;refine(gS _ _).mono ?_;rintro e w' ⟨rfl,rfl⟩))
              rw[<- HW.o];refine Q.bu (by kernel_rfl) (by kernel_rfl) ?_
              repeat (first | go_big_quiet_step ((go_at_call 145;exact Q.bM (fun W=>lh p a W (by omega) (by omega)) _)) | quiet_step ((go_at_call 145;exact Q.bM (fun W=>lh p a W (by omega) (by omega)) _)))
              refine wpQuiet_nil ?_;intro _ hw';obtain⟨x,hw''⟩:=hw';subst hw'';go_wp2;go_roundw
              case rel=>exact⟨k+1,by omega,by go_num,AM.Jr l k HG.o (hok.out.trans hfo),hbW.out.trans (x.keeps.mono hbW.out.size)⟩
              case measure=>simp[intOf];omega
            · have ad2:AM.fM p a=false:=by simpa using hfo
              clear hfo;go_wp2_with (first | (go_at_call 143;refine(eT _ _ _ f1 f2).mono ?_;rintro e w' ⟨rfl,rfl⟩) | (go_at_call 144;refine(gS _ _).mono ?_;rintro e w' ⟨rfl,rfl⟩))
              rw[<- HW.o];refine Q.bu (by kernel_rfl) (by kernel_rfl) ?_
              repeat (first | go_big_quiet_step ((go_at_call 145;exact Q.bM (fun W=>lh p a W (by omega) (by omega)) _)) | quiet_step ((go_at_call 145;exact Q.bM (fun W=>lh p a W (by omega) (by omega)) _)))
              refine wpQuiet_nil ?_;intro _ hw';obtain⟨x,hw''⟩:=hw';subst hw'';go_wp2;go_ret;exact⟨fU (by rw[E.o,AM.IU l k hlt (hok.out.trans ad2)];rfl),hbW.out.trans (x.keeps.mono hbW.out.size)⟩
        · have hq':AM.iV a.bV=false:=by simpa using hq
          clear hq;have hbad:Hid (AM.nY l k=false):=by show _=false;unfold AM.nY;rw[<- HA.o,hp,hq'];rfl
          go_wp2_with (first | (go_at_call 143;refine(eT _ _ _ f1 f2).mono ?_;rintro e w' ⟨rfl,rfl⟩) | (go_at_call 144;refine(gS _ _).mono ?_;rintro e w' ⟨rfl,rfl⟩))
          go_ret;exact⟨fU (by rw[E.o,AM.IU l k hlt hbad.out];rfl),hb.alloc hb.size _⟩
      · have hp':AM.dW a.page a.aJ=false:=by simpa using hp
        clear hp;have hbad:Hid (AM.nY l k=false):=by show _=false;unfold AM.nY;rw[<- HA.o,hp'];rfl
        go_wp2_with (first | (go_at_call 143;refine(eT _ _ _ f1 f2).mono ?_;rintro e w' ⟨rfl,rfl⟩))
        go_ret;exact⟨fU (by rw[E.o,AM.IU l k hlt hbad.out];rfl),hb.alloc hb.size _⟩
    · obtain rfl:k=l.length:=by omega
      go_wp2;go_ret;exact⟨fU (by rw[E.o,show AM.good l=true from HG.o];rfl),hb⟩
theorem ve (ao:Option Addr) (cap:Nat) (w:World) :
  Calls Tryz.prog 98 #[.slice ao 0 cap] w fun e w'=>e=.returned (I (AM.aW []))/\Below w.heap.size w w':=by
 have e:AM.aW []=0:=by decide
 rw[e];go_enter Tryz.func98,Tryz.ntmps98;go_wp2;refine wp_loop_rounds 1 ?_;rw[rounds_succ];go_wp2;go_ret;exact⟨rfl,Below.refl _ _⟩
theorem Gx (l:List AM.Ar) (b off cap:Nat) (w:World) (hl:AM.Cs w b off l) (hf:∀i,i<l.length->AM.Fits (AM.at_ l i)) (hn:l.length<=140737488351232) :
  Calls Tryz.prog 54 #[.slice (some (Ad b off)) l.length cap] w fun e w'=>e=.returned (I (AM.b7 l))/\Below w.heap.size w w':=by
 by_cases hc:AM.aW l=0
 · have hlen:=AM.gP l hc;have HC:Hid (AM.b7 l=AM.sumTo l l.length):=by show _=_;simp[AM.b7,hc]
   have HK:Hid (AM.aW l=0):=hc;go_enter Tryz.func54,Tryz.ntmps54;go_wp2_with fail
   refine(mR l b off cap _ hl hf hn).mono ?_;rintro e w1 ⟨rfl,hb1⟩;rw[hc];clear hc;go_wp2;go_loopw [3,11] (fun s i wr=>∃k:Nat,k<=l.length/\i=I k/\s=I (AM.sumTo l k)/\Below w.heap.size w wr) (fun _ i _=>l.length-(intOf i).toNat)
   case atStart=>exact⟨0,by omega,rfl,rfl,hb1⟩
   case round =>
    obtain⟨k,hk,rfl,rfl,hb⟩:=hrel;have DK:=AM.tv l HK.o k hk;by_cases hlt:k<l.length
    · obtain⟨c0,c1,c2,c3⟩:=(hl.below hb) k hlt;have hsu:Hid (AM.sumTo l (k+1)=AM.sumTo l k+(AM.at_ l k).aJ):=rfl;have hbk:=AM.dg l k (AM.cW l HK.o k hlt);obtain⟨a,ha⟩:=ex (AM.at_ l k);rw[<- ha] at c0 c1 c2 c3 hsu hbk;clear ha;go_wp2;go_roundw
      case rel=>exact⟨k+1,by omega,by go_num,by rw[hsu.out],hb.alloc hb.size _⟩
      case measure=>simp[intOf];omega
    · obtain rfl:k=l.length:=by omega
      go_wp2;go_ret;exact⟨fU HC.o.symm,hb⟩
 · have HC:Hid (AM.b7 l=0):=by show _=_;simp[AM.b7,hc]
   have hc':(AM.aW l != 0)=true:=by simpa using hc
   go_enter Tryz.func54,Tryz.ntmps54;go_wp2_with fail
   refine(mR l b off cap _ hl hf hn).mono ?_;rintro e w1 ⟨rfl,hb1⟩;go_wp2;go_ret;exact⟨fU HC.o.symm,hb1⟩
theorem Ku (ao:Option Addr) (cap:Nat) (w:World) :
  Calls Tryz.prog 54 #[.slice ao 0 cap] w fun e w'=>e=.returned (I (AM.b7 []))/\Below w.heap.size w w':=by
 have e:AM.b7 []=0:=by decide
 have e2:AM.aW []=0:=by decide
 rw[e];go_enter Tryz.func54,Tryz.ntmps54;go_wp2_with fail
 refine(ve ao cap _).mono ?_;rintro e w1 ⟨rfl,hb1⟩;rw[e2];go_wp2;refine wp_loop_rounds 1 ?_;rw[rounds_succ];go_wp2;go_ret;exact⟨rfl,hb1⟩
end AW
end Go.Proofs.YtpgifpeohlllfaaGreat
