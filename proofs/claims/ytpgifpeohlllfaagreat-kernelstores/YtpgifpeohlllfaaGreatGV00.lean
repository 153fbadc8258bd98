import Derived.Deep.AppendLies
import Derived.Deep.Upon
import Derived.WalkLawsBesides
import Derived.WalkSpells
import Derived.BigQuiet
import Derived.Test.YtpgifpeohlllfaaGreatProg
set_option maxHeartbeats 20000000
set_option linter.unusedVariables false
set_option maxRecDepth 100000
set_option linter.unusedSimpArgs false
namespace Go.Proofs.YtpgifpeohlllfaaGreat
abbrev I (n : Int) : Value := .int .i64 n
abbrev Nl : Value := .slice none 0 0
abbrev Ad (b o : Nat) : Addr := ⟨b, o, none⟩
theorem ex {A : Type} (e : A) : ∃ n, n = e := ⟨e, rfl⟩
theorem _root_.Go.RowKit.Hid.o {p : Prop} (h : Go.RowKit.Hid p) : p := h.out
abbrev aM:=@Nat.le_refl
abbrev aK:=@Go.RowKit.Below.refl
abbrev bW:=@List.setIfInBounds_toArray
abbrev bU:=@List.set_cons_succ
abbrev bV:=@List.set_cons_zero
abbrev bR:=@Go.bodyPost_ret
abbrev iJ:=@Go.World.size_alloc
abbrev bf:=@if_pos
abbrev dR:=@Bool.and_eq_true
abbrev dh:=@decide_eq_true
abbrev dE:=@decide_eq_false
abbrev bl:=@if_neg
abbrev jS:=@List.eq_nil_of_length_eq_zero
abbrev gh:=@List.length_append
abbrev iu:=@Int.toNat_natCast
abbrev jt:=@Nat.lt_of_lt_of_le
abbrev iV:=@decide_eq_true_eq
abbrev jH:=@of_decide_eq_true
abbrev nQ:=@Go.World.block_lt_of_cell?
abbrev mq:=@Go.RowKit.Below.alloc
abbrev km:=@Go.World.ownsRow_nil
abbrev fR:=@Go.wpQuiet_nil
abbrev jk:=@List.length_set
abbrev fW:=@Prod.mk.inj
abbrev gJ:=@Nat.le_trans
abbrev gV:=@Nat.add_zero
abbrev jQ:=@Nat.not_lt_zero
abbrev iI:=@Nat.zero_add
abbrev fp:=@congrArg
abbrev lT:=@List.mem_append
abbrev iq:=@Go.info_parts
abbrev lR:=@Go.below_drewN
abbrev mP:=@Go.IntWalk.i64_in
abbrev pK:=@Classical.not_not
abbrev pJ:=@List.flatMap_cons
abbrev ni:=@Bool.true_and
abbrev Fy:=@List.findIdx?_eq_some_iff_getElem
abbrev tG:=@List.flatMap_append
abbrev zQ:=@List.getD_eq_getElem?_getD
abbrev rh:=@List.set_set
abbrev ra:=@Go.wpList_load_row
abbrev rW:=@Go.wpList_store_row
abbrev ng:=@Go.setRow_heap
abbrev ux:=@Go.Addr.add_lit
abbrev Cu:=@Int.tdiv_eq_ediv_of_nonneg
abbrev tF:=@List.take_length
abbrev Ud:=@List.pairwise_iff_getElem
abbrev zP:=@Nat.lt_of_succ_lt_succ
abbrev uw:=@List.all_eq_true
abbrev zO:=@List.set_append_right
abbrev zN:=@List.length_singleton
abbrev wa:=@List.append_assoc
abbrev Fx:=@List.mem_cons_self
abbrev Fw:=@Go.World.cell?_of_block
abbrev vZ:=@List.mem_flatMap
abbrev Ct:=@Go.ByteArray.toList_eq
abbrev q9:=@Go.bodyPost_end
abbrev ql:=@Nat.zero_le
abbrev Cs:=@List.eq_nil_or_concat
abbrev Cr:=@List.concat_eq_append
abbrev Cq:=@Go.Lib.run_eql_slice_nil
abbrev Co:=@List.length_replicate
abbrev rV:=@Nat.le_of_lt
abbrev Fv:=@List.pairwise_cons
abbrev zM:=@Go.World.ownsRow_made
abbrev zL:=@List.length_take
abbrev zK:=@Go.DataW.trod_struct
abbrev Ix:=@List.getElem?_append_right
abbrev anP:=@List.take_add_one
abbrev vY:=@Bool.false_and
abbrev Cn:=@beq_eq_false_iff_ne
abbrev xP:=@List.cons.injEq
abbrev Iw:=@List.exists_mem_of_ne_nil
abbrev Fu:=@Go.RowKit.ownsRow_setCell_below
abbrev xO:=@Go.wp_loop_rounds
abbrev xN:=@List.mem_range
abbrev Cm:=@List.length_map
abbrev Cl:=@List.length_cons
abbrev N8:=@Int.tmod_eq_emod_of_nonneg
abbrev N7:=@List.findIdx?_eq_none_iff
abbrev N1:=@List.mem_of_find?_eq_some
abbrev Ck:=@Bool.or_eq_true
abbrev Iu:=@List.set_append_left
abbrev xM:=@Int.add_zero
abbrev Ir:=@List.mem_cons_of_mem
abbrev zJ:=@List.mem_cons
abbrev Uc:=@Go.returnsInHanded_of_change_sized
abbrev Fs:=@Nat.lt_succ_self
abbrev xL:=@Nat.le_succ
abbrev xK:=@Go.rounds_succ
abbrev Ub:=@Go.DataW.weights_mem_each
abbrev Iq:=@Go.wpList_append_lies
abbrev zI:=@List.mem_map
abbrev Fq:=@List.nil_append
abbrev Cj:=@Nat.add_assoc
abbrev N0:=@Go.run_convert_bytes_arg
abbrev Ip:=@List.ext_getElem?
abbrev Io:=@Go.DataW.trod_int
abbrev NZ:=@List.mem_erase_of_ne
abbrev zG:=@Int.le_refl
abbrev NY:=@Bool.or_eq_false_iff
abbrev Im:=@Array.toList_inj
abbrev Ua:=@List.getElem?_append_left
abbrev NW:=@List.length_pos_iff
abbrev uv:=@and_true
abbrev anO:=@List.set_eq_of_length_le
abbrev Il:=@List.append_nil
abbrev NV:=@Nat.add_sub_cancel
abbrev NU:=@of_decide_eq_false
abbrev Ci:=@Nat.min_def
abbrev T9:=@decide_eq_false_iff_not
abbrev NT:=@Go.World.cells?_some
abbrev Ik:=@Go.run_underlying
abbrev Ij:=@Bool.not_false
abbrev NR:=@Go.DataW.trod_string
abbrev T8:=@List.append_eq_nil_iff
abbrev NQ:=@Bool.not_eq_true'
abbrev NP:=@Go.World.cell?_spot
abbrev NN:=@Go.RowKit.Below.cell
abbrev NM:=@List.not_mem_nil
abbrev NK:=@List.cons_append
abbrev NJ:=@Nat.zero_lt_succ
abbrev NI:=@Nat.succ_lt_succ
abbrev Ii:=@List.map_cons
abbrev Ih:=@Nat.lt_irrefl
abbrev agp:=@Go.Lib.byteCells_length
abbrev T7:=@List.pairwise_append
abbrev T6:=@Go.wpList_mapUpdate_own
abbrev NH:=@Go.DataW.trod_bool
abbrev abQ:=@List.dropLast_concat_getLast
abbrev T5:=@Int.toNat_of_nonneg
abbrev ago:=@Go.run_firstCells_some
abbrev T4:=@Array.toList_append
abbrev T3:=@Go.ChangeSpec.witness6
abbrev Ig:=@Nat.lt_or_ge
abbrev NG:=@Go.heap_alloc_new
abbrev ND:=@List.drop_drop
abbrev abP:=@List.mem_or_eq_of_mem_set
abbrev anN:=@List.drop_eq_getElem_cons
abbrev TZ:=@Go.Result.andThen_ok
abbrev agn:=@Int.emod_eq_of_lt
abbrev TY:=@Go.results_cell_tmp
abbrev TX:=@List.length_drop
abbrev Ie:=@beq_iff_eq
abbrev TW:=@Go.run_loadVar_row
abbrev TV:=@List.length_nil
abbrev TU:=@List.find?_cons
abbrev TT:=@Go.cell_of_row
abbrev NC:=@Nat.mul_one
namespace Go.Proofs.YtpgifpeohlllfaaGreat
open Go.RowKit
theorem aQ {w w':World} {b N:Nat} {o:Obj} (h:w.heap[b]?=some o) (hb:Below N w w') (hlt:b<N):w'.heap[b]?=some o:=(hb.block b hlt).trans h
theorem aO {w:World} {b:Nat} {o:Obj} (h:w.heap[b]?=some o):b<w.heap.size:=(Array.getElem?_eq_some_iff.1 h).1
theorem bE {w:World} {b:Nat} {o:Obj} (h:w.heap[b]?=some o) (o':Obj):(w.alloc o').heap[b]?=some o:=(Below.heap_alloc w o' b (aO h)).trans h
theorem aB {w:World} {b:Nat} {C:Array Value} {t:TypeId} {fr:Nat×Nat} (h:w.heap[b]?=some (.cells C t fr)) (j:Nat) {v:Value} (hj:C[j]?=some v):w.cell? (Ad b j)=some v:=(TT w b j C t fr h).trans hj
theorem aJ {w:World} {b:Nat} {C:Array Value} {t:TypeId} (h:w.heap[b]?=some (.cells C t (0,0))) (j:Nat):w.frozen? (Ad b j)=false:=frozen_of_row w b j C t h
theorem jT {w:World} {b:Nat} {o:Obj} (h:w.heap[b]?=some o) (g j:Nat) (v:Value) (hne:b≠g):(w.setCell (Ad g j) v).heap[b]?=some o:=(heap_setCell_other w (Ad g j) b v hne).trans h
theorem dG {w:World} {b:Nat} {C:Array Value} {t:TypeId} (h:w.heap[b]?=some (.cells C t (0,0))) (j:Nat) (v:Value):(w.setCell (Ad b j) v).heap[b]?=some (.cells (C.setIfInBounds j v) t (0,0)):=heap_setCell_same w b j C t v h
theorem bG (w:World) (C:Array Value) (t:TypeId):(w.alloc (.cells C t)).heap[w.heap.size]?=some (.cells C t (0,0)):=NG w _
theorem vU {w:World} {b:Nat} {C:Array Value} {t:TypeId} {fr:Nat×Nat} (h:w.heap[b]?=some (.cells C t fr)):∀j u,C.toList[j]?=some u->w.cell? (((Ad b 0):Addr).add j)=some u:=fun j u hj=>by
 grind [Addr.add_lit,aB]
theorem J9 {w w':World} {b:Nat} {o:Obj} {row:Option Nat} (h:w.heap[b]?=some o) (hg:w.grownBy w' row) (hne:some b≠row):w'.heap[b]?=some o:=(hg.block b (aO h) hne).trans h
theorem kI {w:World} {b:Nat} {a0 a1:Value} {t:TypeId} (h:w.heap[b]?=some (.cells #[a0,a1] t (0,0))):w.cell? (Ad b 0)=some a0/\w.cell? (Ad b 1)=some a1:=⟨aB h 0 rfl,aB h 1 rfl⟩
theorem og {w:World} {b:Nat} {a0 a1 a2:Value} {t:TypeId} (h:w.heap[b]?=some (.cells #[a0,a1,a2] t (0,0))):w.cell? (Ad b 0)=some a0/\w.cell? (Ad b 1)=some a1/\w.cell? (Ad b 2)=some a2:=⟨aB h 0 rfl,aB h 1 rfl,aB h 2 rfl⟩
theorem abI {w:World} {b:Nat} {a0 a1 a2 a3:Value} {t:TypeId} (h:w.heap[b]?=some (.cells #[a0,a1,a2,a3] t (0,0))):w.cell? (Ad b 0)=some a0/\w.cell? (Ad b 1)=some a1/\w.cell? (Ad b 2)=some a2/\w.cell? (Ad b 3)=some a3:=⟨aB h 0 rfl,aB h 1 rfl,aB h 2 rfl,aB h 3 rfl⟩
theorem dx {w:World} {b:Nat} {a0 a1 a2 a3 a4:Value} {t:TypeId} (h:w.heap[b]?=some (.cells #[a0,a1,a2,a3,a4] t (0,0))):w.cell? (Ad b 0)=some a0/\w.cell? (Ad b 1)=some a1/\w.cell? (Ad b 2)=some a2/\w.cell? (Ad b 3)=some a3/\w.cell? (Ad b 4)=some a4:=⟨aB h 0 rfl,aB h 1 rfl,aB h 2 rfl,aB h 3 rfl,aB h 4 rfl⟩
structure aH (D:Nat->Prop) (w w':World):Prop where
 os:w'.os=w.os
 tape:w'.tape=w.tape
 output:w'.output=w.output
 size:w.heap.size<=w'.heap.size
 block:∀b,b<w.heap.size->¬D b->w'.heap[b]?=w.heap[b]?
theorem aH.refl (D:Nat->Prop) (w:World):aH D w w:=⟨rfl,rfl,rfl,aM _,fun _ _ _=>rfl⟩
theorem aH.trans {D D1:Nat->Prop} {w w1 w2:World} (h:aH D w w1) (g:aH D1 w1 w2) (hd:∀b,b<w.heap.size->D1 b->D b):aH D w w2 :=
 ⟨g.os.trans h.os,g.tape.trans h.tape,g.output.trans h.output,gJ h.size g.size,fun b hb hn=>(g.block b (jt hb h.size) (fun k=>hn (hd b hb k))).trans (h.block b hb hn)⟩
theorem aH.mono {D D1:Nat->Prop} {w w':World} (h:aH D w w') (hd:∀b,b<w.heap.size->D b->D1 b):aH D1 w w':=⟨h.os,h.tape,h.output,h.size,fun b hb hn=>h.block b hb (fun k=>hn (hd b hb k))⟩
theorem aH.b7 {D:Nat->Prop} {w w':World} (h:Below w.heap.size w w'):aH D w w':=⟨h.os,h.tape,h.output,h.size,fun b hb _=>h.block b hb⟩
theorem aH.below {D:Nat->Prop} {N:Nat} {w0 w w':World} (h:Below N w0 w) (g:aH D w w') (hN:N<=w.heap.size) (hd:∀b,D b->N<=b):Below N w0 w' :=
 h.trans ⟨g.os,g.tape,g.output,g.size,fun b hb=>g.block b (jt hb hN) (fun k=>by grind)⟩
theorem aH.alloc (D:Nat->Prop) (w:World) (o:Obj):aH D w (w.alloc o):=aH.b7 ((aK _ _).alloc (aM _) o)
theorem aH.drew (D:Nat->Prop) (w:World):aH D w w.drew:=aH.b7 (aK _ _).drew
theorem aH.set (D:Nat->Prop) (w:World) (a:Addr) (v:Value) (h:D a.block):aH D w (w.setCell a v):=by
 have hb:=(aK 0 w).setCell (p:=a) (ql _) v;exact⟨hb.os,hb.tape,hb.output,hb.size,fun b _ hn=>Below.heap_setCell w a v b (fun e=>hn (e ▸ h))⟩
theorem aH.grown {D:Nat->Prop} {w w':World} {row:Option Nat} (h:w.grownBy w' row) (hd:∀k,row=some k->D k):aH D w w' :=
 ⟨h.os,h.tape,h.output,h.size,fun b hb hn=>h.block b hb (fun e=>hn (hd b e.symm))⟩
theorem aH.keep {D:Nat->Prop} {w w':World} {b:Nat} {o:Obj} (h:aH D w w') (hb:w.heap[b]?=some o) (hn:¬D b):w'.heap[b]?=some o:=(h.block b (aO hb) hn).trans hb
theorem aH.cell {D:Nat->Prop} {w w':World} {p:Addr} {v:Value} (h:aH D w w') (hp:w.cell? p=some v) (hn:¬D p.block):w'.cell? p=some v :=
 (Fw (h.block p.block (nQ w p hp) hn)).trans hp
theorem aH.row {D:Nat->Prop} {w w':World} {base:Nat} {e:TypeId} {size:Nat} {v:Value} {n:Nat} {xs:List Value} (h:aH D w w') (hr:w.ownsRow base e size v n xs) (hn:∀g,v.ownBlock=some g->¬D g):w'.ownsRow base e size v n xs:=by
 refine⟨hr.1,?_⟩;rcases hr.2 with h0 | ⟨g,cap,cur,hv,hb,hg,h1,h2,h3,h4⟩
 · grind
 · exact .inr ⟨g,cap,cur,hv,hb,h.keep hg (hn g (by rw[hv];rfl)),h1,h2,h3,h4⟩
theorem pD {w:World} {base:Nat} {e:TypeId} {size:Nat} {g n cap:Nat} {xs:List Value} (hr:w.ownsRow base e size (.slice (some (Ad g 0)) n cap) n xs) (j:Nat) (u:Value) :
  (w.setCell (Ad g j) u).ownsRow base e size (.slice (some (Ad g 0)) n cap) n (xs.set j u):=by
 refine⟨by rw[jk];exact hr.1,?_⟩;rcases hr.2 with⟨h0,_⟩ | ⟨g',cap',cur,hv,hb,hg,h1,h2,h3,h4⟩
 · cases h0
 · injection hv with e1 e2 e3;injection e1 with e1;injection e1 with e1 _ _;subst e1 e3;refine .inr ⟨g,cap,cur.setIfInBounds j u,rfl,hb,dG hg j u,h1,h2,by grind,?_⟩;rw[Array.toList_setIfInBounds,<- h4];exact List.take_set.symm ▸ rfl
theorem ig {w:World} {base:Nat} {e:TypeId} {size:Nat} {g n cap:Nat} {xs:List Value} (hr:w.ownsRow base e size (.slice (some (Ad g 0)) n cap) n xs) (j:Nat):w.frozen? (Ad g j)=false:=by
 rcases hr.2 with⟨h0,_⟩ | ⟨g',cap',cur,hv,hb,hg,h1,h2,h3,h4⟩
 · cases h0
 grind [aJ]
theorem J2 {P:Program} (w:World) (t ty:TypeId) (base:Nat) (e:TypeId) (i:TypeInfo) (z:Value) (size bytes:Nat) (ht:P.underlying t=some (.slice e)) (hi:P.info? e=some i) (hz:i.zero=some z)
  (hsize:i.size=size) (hby:i.bytes=bytes) (hzs:z.cells.size=size) (hsz:0<size)
  (v:Value) (n:Nat) (xs:List Value) (hown:w.ownsRow base e size v n xs)
  (ao:Option Addr) (m c:Nat) (news:List Value) (hl:news.length=m*size) (hnews:0<m->∃ad,ao=some ad/\∀j u,news[j]?=some u->w.cell? (ad.add j)=some u) (h1:∀u∈news,u.oneCell'=true)
  (h63:n+m<=maxLen) (hbytes:(n+m)*bytes<=140737488355328) (hbase:base<=w.heap.size) :
  ∃v' w',(Builtin.append_ #[t,t] ty #[v,.slice ao m c]).run P w=.ok v' w' /\
   w'.ownsRow base e size v' (n+m) (xs++news)/\w.grownBy w' v.ownBlock/\(v'.ownBlock=v.ownBlock∨v'.ownBlock=some w.heap.size):=by
 by_cases h0:0<m
 · obtain⟨ad,rfl,hc⟩:=hnews h0;obtain⟨g,cap,w',hr,h2,h3,h4,h5⟩:=run_append_lies (P:=P) w t ty base e i z size bytes ht hi hz hsize hby hzs hsz v n xs hown ad m c news hl hc h1 h0 h63 hbytes hbase _ rfl;refine⟨_,w',hr,h2,h3,?_⟩;rcases h4 with h4 | h4
   · exact .inl h4.symm
   · exact .inr (by rw[h4];rfl)
 · obtain rfl:m=0:=by omega
   have hn:news=[]:=jS (by omega);subst hn;have hsrc:Src P i.size t (.slice ao 0 c) 0 [] w:=⟨.inl ⟨_,ht⟩,fun w'=>by rfl,by cases ao <;> simp[Builtin.firstCells,loadCells,loadCellsFrom],by cases ao <;> simp[Builtin.firstCells,loadCells,loadCellsFrom],by simp,by simp⟩;have hform:∃b cap,v=.slice b n cap/\n<=cap:=by
    rcases hown.2 with⟨h0,h1⟩ | ⟨g',cap',cur,hv,hb,hg,h1,h2,h3,h4⟩
    · grind
    grind
   grind [run_append_nothing,World.grownBy.refl]
theorem eK {P:Program} {o:Oper} {a:Act} {w:World} {K:Act->World->Prop} {Q:Exit->Act->World->Prop} (s x:Operand) (t:TypeId)
  (ho:o.op=.call { callee:=.builtin .append,args:=#[s,x],argTypes:=#[t,t] })
  (base:Nat) (e:TypeId) (i:TypeInfo) (z:Value) (size bytes:Nat) (ht:P.underlying t=some (.slice e)) (hi:P.info? e=some i) (hz:i.zero=some z)
  (hsize:i.size=size) (hby:i.bytes=bytes) (hzs:z.cells.size=size) (hsz:0<size)
  (v:Value) (n:Nat) (xs:List Value) (hs:a.eval s=v) (hown:w.ownsRow base e size v n xs)
  (ao:Option Addr) (m c:Nat) (news:List Value) (hx:a.eval x=.slice ao m c) (hl:news.length=m*size) (hnews:0<m->∃ad,ao=some ad/\∀j u,news[j]?=some u->w.cell? (ad.add j)=some u) (h1:∀u∈news,u.oneCell'=true)
  (h63:n+m<=maxLen) (hbytes:(n+m)*bytes<=140737488355328) (hbase:base<=w.heap.size)
  (h:∀v' w',w'.ownsRow base e size v' (n+m) (xs++news)->w.grownBy w' v.ownBlock->(v'.ownBlock=v.ownBlock∨v'.ownBlock=some w.heap.size)->K (a.put o.dst v') w'):o.wp P a w K Q:=by
 obtain⟨v',w',hr,h2,h3,h4⟩:=J2 (P:=P) w t o.type base e i z size bytes ht hi hz hsize hby hzs hsz v n xs hown ao m c news hl hnews h1 h63 hbytes hbase;unfold Oper.wp execOp;simp only[ho,resolve,invoke,builtin,Sem.run_bind,Sem.run_pure,TZ,List.map_toArray,Ii,List.map_nil,hs,hx,hr];exact h v' w' h2 h3 h4
theorem dU {P:Program} {ops:Array Oper} {rest:List Oper} {o:Oper} {a:Act} {w:World} {Q:Exit->Act->World->Prop} (hgd:o.guard=none) (s x:Operand) (t:TypeId)
  (ho:o.op=.call { callee:=.builtin .append,args:=#[s,x],argTypes:=#[t,t] })
  (base:Nat) (e:TypeId) (i:TypeInfo) (z:Value) (size bytes:Nat) (ht:P.underlying t=some (.slice e)) (hi:P.info? e=some i) (hz:i.zero=some z)
  (hsize:i.size=size) (hby:i.bytes=bytes) (hzs:z.cells.size=size) (hsz:0<size)
  (v:Value) (n:Nat) (xs:List Value) (hs:a.eval s=v) (hown:w.ownsRow base e size v n xs)
  (ao:Option Addr) (m c:Nat) (news:List Value) (hx:a.eval x=.slice ao m c) (hl:news.length=m*size) (hnews:0<m->∃ad,ao=some ad/\∀j u,news[j]?=some u->w.cell? (ad.add j)=some u) (h1:∀u∈news,u.oneCell'=true)
  (h63:n+m<=maxLen) (hbytes:(n+m)*bytes<=140737488355328) (hbase:base<=w.heap.size)
  (h:∀v' w',w'.ownsRow base e size v' (n+m) (xs++news)->w.grownBy w' v.ownBlock->(v'.ownBlock=v.ownBlock∨v'.ownBlock=some w.heap.size)->wpList P ops Q rest (a.put o.dst v') w'):wpList P ops Q (o::rest) a w :=
 wpList_plain hgd fun _ hK=>eK s x t ho base e i z size bytes ht hi hz hsize hby hzs hsz v n xs hs hown ao m c news hx hl hnews h1 h63 hbytes hbase fun v' w' h2 h3 h4=>hK _ _ (h v' w' h2 h3 h4)
theorem fF {α:Type} (f:α->List Value) (k:Nat) (hf:∀x,(f x).length=k):∀l:List α,(l.flatMap f).length=l.length*k
 | []=>by simp
 | a::r=>by rw[pJ,gh,hf,fF f k hf r,Cl,Nat.succ_mul,Nat.add_comm]
theorem E9 {α:Type} (f:α->List Value) (k:Nat) (hf:∀x,(f x).length=k) (d:α):∀(l:List α) (i j:Nat),i<l.length->j<k->(l.flatMap f)[i*k+j]?=(f (l.getD i d))[j]?
 | [],i,j,hi,hj=>by grind
 | a::r,0,j,hi,hj=>by
  grind
 | a::r,i+1,j,hi,hj=>by
  rw[pJ,Ix (by grind),hf,show(i+1)*k+j-k=i*k+j by grind];exact E9 f k hf d r i j (by grind) hj
theorem n9 {α:Type} (f:α->List Value) (k:Nat) (hf:∀x,(f x).length=k) (d:α) (x:α) (j:Nat) (v:Value) (hj:j<k):∀(l:List α) (i:Nat),i<l.length->f x=(f (l.getD i d)).set j v->(l.set i x).flatMap f=(l.flatMap f).set (i*k+j) v
 | [],i,hi,_=>by rfl
 | a::r,0,hi,e=>by
  grind
 | a::r,i+1,hi,e=>by
  rw[bU,pJ,pJ,zO _ _ (by grind),hf,show(i+1)*k+j-k=i*k+j by grind,n9 f k hf d x j v hj r i (by grind) e]
theorem lB {α:Type} {w:World} {base:Nat} {e:TypeId} {k g cap:Nat} (f:α->List Value) (hf:∀x,(f x).length=k) (d:α) {l:List α} (hr:w.ownsRow base e k (.slice (some (Ad g 0)) l.length cap) l.length (l.flatMap f)) (i j:Nat) (hi:i<l.length) (hj:j<k):w.cell? (Ad g (i*k+j))=(f (l.getD i d))[j]?:=by
 have:i*k+j<l.length*k:=by
  have:=Nat.mul_le_mul_right k (show i+1<=l.length from hi)
  grind
 exact(hr.cellAt _ this).trans (E9 f k hf d l i j hi hj)
theorem aY {w:World} {base:Nat} {e:TypeId} {size:Nat} {v:Value} {n:Nat} {xs:List Value} (h:w.ownsRow base e size v n xs):∃ao cap,v=.slice ao n cap/\n<=cap/\(0<n->∃g,ao=some (Ad g 0)/\base<=g/\g<w.heap.size):=by
 rcases h.2 with⟨h0,h1⟩ | ⟨g',cap',cur,hv,hb,hg,h1,h2,h3,h4⟩
 · grind
 grind
theorem lu {w:World} {base base':Nat} {e:TypeId} {size:Nat} {v:Value} {n:Nat} {xs:List Value} (h:w.ownsRow base e size v n xs) (hb:∀g,v.ownBlock=some g->base'<=g):w.ownsRow base' e size v n xs:=by
 refine⟨h.1,?_⟩;rcases h.2 with h0 | ⟨g,cap,cur,hv,_,hg,h1,h2,h3,h4⟩
 · grind
 · exact .inr ⟨g,cap,cur,hv,hb g (by rw[hv];rfl),hg,h1,h2,h3,h4⟩
theorem fO (w:World) (g j b o:Nat) (v:Value) (h:b≠g):(w.setCell (Ad g j) v).cell? (Ad b o)=w.cell? (Ad b o):=Fw (Below.heap_setCell w (Ad g j) v b h)
theorem vR {D:Nat->Prop} (w:World) (g:Nat) (j0 j1 j2:Nat) (v0 v1 v2:Value) (h:D g):aH D w (((w.setCell (Ad g j0) v0).setCell (Ad g j1) v1).setCell (Ad g j2) v2) :=
 ((aH.set D w (Ad g j0) v0 h).trans (aH.set D _ (Ad g j1) v1 h) (fun _ _ k=>k)).trans (aH.set D _ (Ad g j2) v2 h) (fun _ _ k=>k)
structure bc where
 page:Int
 aR:Int
 fV:Int
 zero:Bool
def bc.oV (a:bc):Int:=a.page+a.aR
def tZ:bc:=⟨0,0,0,false⟩
def bB (l:List bc) (i:Nat):bc:=l.getD i tZ
def eu (p n:Int):Bool:=decide (1<=p/\1<=n/\n<=256-p)
def gQ (p:Int):Bool:=decide (0<=p/\p<=3)
def jF (a b:bc):Bool:=if b.page=a.oV then (b.fV != a.fV || b.zero != a.zero) else decide (a.oV<b.page)
def qc (w:World) (b gS:Nat) (l:List bc):Prop:=∀i,i<l.length ->
 w.cell? (Ad b (gS+i*4))=some (I (bB l i).page)/\w.cell? (Ad b (gS+i*4+1))=some (I (bB l i).aR) /\
 w.cell? (Ad b (gS+i*4+2))=some (I (bB l i).fV)/\w.cell? (Ad b (gS+i*4+3))=some (.bool (bB l i).zero)
def yr (a:bc):Prop:=(-9223372036854775808<=a.page/\a.page<=9223372036854775807)/\(-9223372036854775808<=a.aR/\a.aR<=9223372036854775807)/\(-9223372036854775808<=a.fV/\a.fV<=9223372036854775807)
def mQ (l:List bc) (i:Nat):Bool:=eu (bB l i).page (bB l i).aR&&gQ (bB l i).fV&&(i==0 || jF (bB l (i-1)) (bB l i))
def jP (l:List bc):Nat->Bool
 | 0=>true
 | k+1=>jP l k&&mQ l k
def mR (l:List bc):Bool:=jP l l.length
def br (l:List bc):Int:=if 255<l.length then 2 else if mR l then 0 else 1
theorem DL (l:List bc):∀(k n:Nat),k<=n->jP l k=false->jP l n=false
 | k,0,h,hk=>by grind
 | k,n+1,h,hk=>by
  by_cases e:k=n+1
  · grind
  · simp[jP,DL l k n (by omega) hk]
theorem Dl (l:List bc):∀(n:Nat),jP l n=true->∀i,i<n->mQ l i=true
 | 0,_,i,hi=>by omega
 | n+1,h,i,hi=>by
  simp only[jP,dR] at h;by_cases e:i=n
  · grind
  · exact Dl l n h.1 i (by omega)
theorem qc.lt {w:World} {b gS:Nat} {l:List bc} (h:qc w b gS l) (i:Nat) (hi:i<l.length):b<w.heap.size :=
 nQ w _ (h i hi).1
theorem qc.below {w w':World} {b gS:Nat} {l:List bc} (h:qc w b gS l) (hb:Below w.heap.size w w'):qc w' b gS l:=fun i hi=>by
 have hlt:=h.lt i hi;obtain⟨h0,h1,h2,h3⟩:=h i hi
 grind [Below.cell]
theorem LW (l:List bc) (k:Nat) (hk:k<l.length) (h:mQ l k=false):mR l=false :=
 DL l (k+1) l.length (by omega) (by simp[jP,h])
theorem QE (l:List bc) (k:Nat) (h:jP l k=true) (h':mQ l k=true):jP l (k+1)=true:=by grind [jP]
def gU (a:bc) (p:Int):Bool:=decide (a.page<=p/\p<a.oV)
def bT:List bc->Int->bc×Bool
 | [],_=>(tZ,false)
 | a::r,p=>if gU a p then (a,true) else bT r p
def aV (l:List bc) (p:Int):bc×Bool:=if br l=0 then bT l p else (tZ,false)
def jr (l:List bc):Nat->Int
 | 0=>0
 | k+1=>jr l k+(bB l k).aR
def cI (l:List bc):Int:=if br l=0 then jr l l.length else 0
theorem p8:∀(l:List bc) (p:Int),(∀i,i<l.length->gU (bB l i) p=false)->bT l p=(tZ,false)
 | [],_,_=>rfl
 | a::r,p,h=>by
  have h0:gU a p=false:=h 0 (by simp);have hr:∀i,i<r.length->gU (bB r i) p=false:=fun i hi=>h (i+1) (by grind)
  simp[bT,h0,p8 r p hr]
theorem p9:∀(l:List bc) (p:Int) (k:Nat),k<l.length->(∀i,i<k->gU (bB l i) p=false)->gU (bB l k) p=true->bT l p=(bB l k,true)
 | [],_,k,hk,_,_=>by grind
 | a::r,p,0,hk,_,h1=>by
  grind [bT,bB]
 | a::r,p,k+1,hk,h,h1=>by
  have h0:gU a p=false:=h 0 (by omega);have hr:=p9 r p k (by grind) (fun i hi=>h (i+1) (by omega)) h1
  grind [bT,bB]
theorem gm (l:List bc) (h:br l=0) (i:Nat) (hi:i<l.length):mQ l i=true:=by
 unfold br at h;split at h
 · simp at h
 · split at h
   · exact Dl l l.length (by assumption) i hi
   omega
theorem kg (l:List bc) (h:br l=0):l.length<=255:=by
 grind [br]
theorem gH (l:List bc) (i:Nat) (h:mQ l i=true):1<=(bB l i).page/\1<=(bB l i).aR/\(bB l i).aR<=256-(bB l i).page/\0<=(bB l i).fV/\(bB l i).fV<=3:=by
 grind [mQ,eu,gQ]
theorem Au (l:List bc) (h:br l=0):∀k,k<=l.length->0<=jr l k/\jr l k<=255*k
 | 0,_=>by simp[jr]
 | k+1,hk=>by
  have ih:=Au l h k (by omega);have ho:=gH l k (gm l h k (by omega))
  grind [jr]
def iz (fV way:Int):Bool:=decide ((way=1/\fV%2=0)∨(way=2/\fV<2))
def iw (l:List bc) (p way:Int):Int×Int :=
 if p<0∨(aV l (p/16)).2=false then (1,p) else if iz (aV l (p/16)).1.fV way=true then (2,p) else (0,0)
def gu (l:List bc) (a way:Int):Nat->Int×Int
 | 0=>(0,0)
 | n+1=>if (gu l a way n).1=0 then iw l (a+n) way else gu l a way n
def dQ (l:List bc) (a size way:Int):Int×Int:=if way=2/\¬a%8=0 then (3,a) else gu l a way size.toNat
theorem uW {l:List bc} {p way:Int} (h:(iw l p way).1=0):iw l p way=(0,0)/\0<=p/\(aV l (p/16)).2=true/\iz (aV l (p/16)).1.fV way=false:=by
 grind [iw]
theorem oa {l:List bc} {p way:Int} (h:p<0∨(aV l (p/16)).2=false):iw l p way=(1,p):=by grind [iw]
theorem tA {l:List bc} {p way:Int} (h:0<=p) (h2:(aV l (p/16)).2=true) (h3:iz (aV l (p/16)).1.fV way=true):iw l p way=(2,p):=by
 grind [iw]
theorem zh {l:List bc} {p way:Int} (h:0<=p) (h2:(aV l (p/16)).2=true) (h3:iz (aV l (p/16)).1.fV way=false):iw l p way=(0,0):=by
 grind [iw]
theorem qW {l:List bc} {a way:Int} {k:Nat} {f:Int×Int} (h:gu l a way k=f) (hf:¬f.1=0):∀n,k<=n->gu l a way n=f
 | 0,hn=>by grind
 | n+1,hn=>by
  by_cases e:k=n+1
  · grind
  · have ih:=qW h hf n (by omega)
    grind [gu]
theorem pE {l:List bc} {a way:Int} {k:Nat} (h:gu l a way k=(0,0)):gu l a way (k+1)=iw l (a+k) way:=by
 grind [gu]
theorem Ap:∀(l:List bc) (q:Int),(bT l q).2=true->∃k,k<l.length/\gU (bB l k) q=true/\(bT l q).1=bB l k
 | [],q,h=>by cases h
 | a::r,q,h=>by
  unfold bT at h ⊢;by_cases c:gU a q=true
  · rw[bf c];exact⟨0,by simp,c,rfl⟩
  · rw[bl c] at h ⊢;obtain⟨k,h1,h2,h3⟩:=Ap r q h;exact⟨k+1,by grind,h2,h3⟩
theorem ki {l:List bc} {q:Int} (hc:br l=0) (h:(aV l q).2=true):1<=q/\q<256/\0<=(aV l q).1.fV/\(aV l q).1.fV<=3:=by
 have e:aV l q=bT l q:=by grind [aV]
 rw[e] at h ⊢;obtain⟨k,h1,h2,h4⟩:=Ap l q h;have h5:=gH l _ (gm l hc _ h1);have h6:(bB l k).page<=q/\q<(bB l k).page+(bB l k).aR:=jH h2
 grind
theorem j5 {l:List bc} {q:Int} (h:(aV l q).2=true):br l=0:=by
 grind [aV]
theorem oK {l:List bc} {a way:Int}:∀{k:Nat},gu l a way (k+1)=(0,0)->16<=a/\a+k<4096
 | 0,h=>by
  rw[pE rfl] at h;obtain⟨_,h1,h2,_⟩:=uW (by rw[h]);have:=ki (j5 h2) h2;omega
 | k+1,h=>by
  have h0:gu l a way (k+1)=(0,0):=by
   grind [gu,uW]
  have ih:=oK h0;rw[pE h0] at h;obtain⟨_,h1,h2,_⟩:=uW (by rw[h]);have:=ki (j5 h2) h2;omega
theorem pF (p n t:Int) (z:Bool) (w:World) (h1:-9223372036854775808<=p+n) (h2:p+n<=9223372036854775807) :
  Calls Tryz.prog 117 #[.agg #[I p,I n,I t,.bool z]] w fun e w'=>e=.returned (I (p+n))/\Below w.heap.size w w':=by
 go_enter Tryz.func117,Tryz.ntmps117;go_wp2;go_ret;exact⟨rfl,(aK _ _).alloc (aM _) _⟩
theorem fX (p n:Int) (w:World) (hp:-9223372036854775808<=p/\p<=9223372036854775807) (hn:-9223372036854775808<=n/\n<=9223372036854775807) :
  Calls Tryz.prog 143 #[I p,I n] w fun e w'=>e=.returned (.bool (eu p n))/\w=w':=by
 by_cases h1:1<=p
 · by_cases h2:1<=n
   · by_cases h3:n<=256-p
     · have e:eu p n=true:=by grind [eu]
       have h4:n<=255-p+1:=by omega
       rw[e];go_enter Tryz.func143,Tryz.ntmps143;go_wp2;go_ret
       simp_all
     · have e:eu p n=false:=by grind [eu]
       have h4:decide (n<=255-p+1)=false:=by grind
       rw[e];go_enter Tryz.func143,Tryz.ntmps143;go_wp2;go_ret
       simp_all
   · have e:eu p n=false:=by grind [eu]
     rw[e];go_enter Tryz.func143,Tryz.ntmps143;go_wp2;go_ret
     simp_all
 · have e:eu p n=false:=by grind [eu]
   rw[e];go_enter Tryz.func143,Tryz.ntmps143;go_wp2;go_ret
   simp_all
theorem jB (p:Int) (w:World) :
  Calls Tryz.prog 144 #[I p] w fun e w'=>e=.returned (.bool (gQ p))/\w=w':=by
 by_cases h1:0<=p
 · by_cases h2:p<=3
   · have e:gQ p=true:=by grind [gQ]
     rw[e];go_enter Tryz.func144,Tryz.ntmps144;go_wp2;go_ret
     simp_all
   · have e:gQ p=false:=by grind [gQ]
     rw[e];go_enter Tryz.func144,Tryz.ntmps144;go_wp2;go_ret
     simp_all
 · have e:gQ p=false:=by grind [gQ]
   rw[e];go_enter Tryz.func144,Tryz.ntmps144;go_wp2;go_ret
   simp_all
structure dB (B:Nat) (w:World) where
 world:World
 keeps:Below B w world
theorem gw (w:World):Nonempty (dB w.heap.size w):=⟨⟨w,aK _ _⟩⟩
theorem cD {P:Program} {id:Nat} {Q:Exit->Act->World->Prop} {a:Act} {w:World} {l:List Oper} (hm:P.follows .mixedOrders=true) (hB:Region.lexB .any l.toArray=true)
  (h:wpQuiet P l.toArray (fun w'=>∃x:dB w.heap.size w,w'=x.world) (fun a'=>∀w',(∃x:dB w.heap.size w,w'=x.world)->Q .normal a' w') l a):(Code.region id l.toArray true).wp P Q a w :=
 wp_region_quiet (C:=fun w'=>∃x:dB w.heap.size w,w'=x.world) hm hB ⟨⟨_,(aK _ _).drew⟩,rfl⟩ (by simpa using h)
theorem gI {P:Program} {f:FuncId} {args:Array Value} {v:Value} {w:World} (h:∀W,Calls P f args W fun e w'=>e=.returned v/\Below W.heap.size W w') (x:dB w.heap.size w) :
  Calls P f args x.world fun e w''=>e=.returned v/\∃y:dB w.heap.size w,w''=y.world :=
 (h x.world).mono fun e w'' ⟨he,hb⟩=>⟨he,⟨w'',x.keeps.trans (hb.mono x.keeps.size)⟩,rfl⟩
theorem gy {w:World} (x:dB w.heap.size w) (b o:Nat) (h:b<w.heap.size):x.world.cell? (Ad b o)=w.cell? (Ad b o):=x.keeps.cell (p:=(Ad b o)) h
theorem Ny (ap an WK bp bn bt:Int) (az bz:Bool) (w:World) (h1:-9223372036854775808<=ap+an) (h2:ap+an<=9223372036854775807) (he:bp=ap+an) :
  Calls Tryz.prog 145 #[.agg #[I ap,I an,I WK,.bool az],.agg #[I bp,I bn,I bt,.bool bz]] w fun e w'=>e=.returned (.bool (bt != WK || bz != az))/\Below w.heap.size w w':=by
 obtain⟨W,hW⟩:=ex ((w.alloc (.cells #[I ap,I an,I WK,.bool az] 47)).alloc (.cells #[I bp,I bn,I bt,.bool bz] 47));have hs:W.heap.size=w.heap.size+2:=by simp_all
 have rB:=gw W;have hkc:=@gy W;have c0:∀x:dB W.heap.size W,x.world.cell? (Ad w.heap.size 0)=some (I ap):=fun x=>by rw[hkc x _ _ (by omega),hW];simp
 have c1:∀x:dB W.heap.size W,x.world.cell? (Ad w.heap.size 1)=some (I an):=fun x=>by rw[hkc x _ _ (by omega),hW];simp
 have c2:∀x:dB W.heap.size W,x.world.cell? (Ad w.heap.size 2)=some (I WK):=fun x=>by rw[hkc x _ _ (by omega),hW];simp
 have c3:∀x:dB W.heap.size W,x.world.cell? (Ad w.heap.size 3)=some (.bool az):=fun x=>by rw[hkc x _ _ (by omega),hW];simp
 have d0:∀x:dB W.heap.size W,x.world.cell? (Ad (w.heap.size+1) 0)=some (I bp):=fun x=>by simp_all
 have d2:∀x:dB W.heap.size W,x.world.cell? (Ad (w.heap.size+1) 2)=some (I bt):=fun x=>by simp_all
 have d3:∀x:dB W.heap.size W,x.world.cell? (Ad (w.heap.size+1) 3)=some (.bool bz):=fun x=>by simp_all
 have hbW:Hid (Below w.heap.size w W):=by show Below _ _ _;simp_all [aK,mq]
 have HW:Hid (W=(w.alloc (.cells #[I ap,I an,I WK,.bool az] 47)).alloc (.cells #[I bp,I bn,I bt,.bool bz] 47)):=hW;clear hW hs hkc;have hx:(bp==ap+an)=true:=by simp[he]
 clear he;go_enter Tryz.func145,Tryz.ntmps145;go_wp2_with fail
 rw[<- HW.o];refine cD (by rfl) (by kernel_rfl) ?_
 repeat (first | go_big_quiet_step ((go_at_call 117;exact gI (fun W=>pF _ _ _ _ W h1 h2) _)) | quiet_step ((go_at_call 117;exact gI (fun W=>pF _ _ _ _ W h1 h2) _)))
 refine fR ?_;intro _ hw';obtain⟨x,hw''⟩:=hw';subst hw'';go_wp2
 all_goals go_ret
 all_goals exact⟨by first | (simp[*];done) | (simp[*];grind),hbW.out.trans (x.keeps.mono hbW.out.size)⟩
theorem Nw (ap an WK bp bn bt:Int) (az bz:Bool) (w:World) (h1:-9223372036854775808<=ap+an) (h2:ap+an<=9223372036854775807) (he:¬bp=ap+an) :
  Calls Tryz.prog 145 #[.agg #[I ap,I an,I WK,.bool az],.agg #[I bp,I bn,I bt,.bool bz]] w fun e w'=>e=.returned (.bool (decide (ap+an<bp)))/\Below w.heap.size w w':=by
 obtain⟨W,hW⟩:=ex ((w.alloc (.cells #[I ap,I an,I WK,.bool az] 47)).alloc (.cells #[I bp,I bn,I bt,.bool bz] 47));have hs:W.heap.size=w.heap.size+2:=by simp_all
 have rB:=gw W;have hkc:=@gy W;have c0:∀x:dB W.heap.size W,x.world.cell? (Ad w.heap.size 0)=some (I ap):=fun x=>by rw[hkc x _ _ (by omega),hW];simp
 have c1:∀x:dB W.heap.size W,x.world.cell? (Ad w.heap.size 1)=some (I an):=fun x=>by rw[hkc x _ _ (by omega),hW];simp
 have c2:∀x:dB W.heap.size W,x.world.cell? (Ad w.heap.size 2)=some (I WK):=fun x=>by rw[hkc x _ _ (by omega),hW];simp
 have c3:∀x:dB W.heap.size W,x.world.cell? (Ad w.heap.size 3)=some (.bool az):=fun x=>by rw[hkc x _ _ (by omega),hW];simp
 have d0:∀x:dB W.heap.size W,x.world.cell? (Ad (w.heap.size+1) 0)=some (I bp):=fun x=>by simp_all
 have hbW:Hid (Below w.heap.size w W):=by show Below _ _ _;simp_all [aK,mq]
 have HW:Hid (W=(w.alloc (.cells #[I ap,I an,I WK,.bool az] 47)).alloc (.cells #[I bp,I bn,I bt,.bool bz] 47)):=hW;have hs2:Hid (w.heap.size+2<=W.heap.size):=by grind
 clear hW hs hkc;have hx:(bp==ap+an)=false:=by simp[he]
 clear he;go_enter Tryz.func145,Tryz.ntmps145;go_wp2_with fail
 rw[<- HW.o];refine cD (by rfl) (by kernel_rfl) ?_
 repeat (first | go_big_quiet_step ((go_at_call 117;exact gI (fun W=>pF _ _ _ _ W h1 h2) _)) | quiet_step ((go_at_call 117;exact gI (fun W=>pF _ _ _ _ W h1 h2) _)))
 refine fR ?_;intro _ hw';obtain⟨x,hw''⟩:=hw';subst hw'';have c0x:=c0 x;have c1x:=c1 x;have c2x:=c2 x;have c3x:=c3 x;have d0x:=d0 x;have hsx:Hid (w.heap.size+2<=x.world.heap.size):=gJ hs2.out x.keeps.size;have QR:Hid (Below w.heap.size w x.world):=hbW.out.trans (x.keeps.mono hbW.out.size);clear HW c0 c1 c2 c3 d0 rB hbW hs2;obtain⟨V,hV⟩:=ex x.world;rw[<- hV] at c0x c1x c2x c3x d0x hsx QR ⊢;clear hV;have rB:=gw V;have hkc:=@gy V;have apb:=hsx.out;have c0:∀x:dB V.heap.size V,x.world.cell? (Ad w.heap.size 0)=some (I ap):=fun x=>by grind
 have c1:∀x:dB V.heap.size V,x.world.cell? (Ad w.heap.size 1)=some (I an):=fun x=>by grind
 have c2:∀x:dB V.heap.size V,x.world.cell? (Ad w.heap.size 2)=some (I WK):=fun x=>by grind
 have c3:∀x:dB V.heap.size V,x.world.cell? (Ad w.heap.size 3)=some (.bool az):=fun x=>by grind
 have d0:∀x:dB V.heap.size V,x.world.cell? (Ad (w.heap.size+1) 0)=some (I bp):=fun x=>by grind
 clear hkc apb;go_wp2_with fail
 refine cD (by rfl) (by kernel_rfl) ?_
 repeat (first | go_big_quiet_step ((go_at_call 117;exact gI (fun W=>pF _ _ _ _ W h1 h2) _)) | quiet_step ((go_at_call 117;exact gI (fun W=>pF _ _ _ _ W h1 h2) _)))
 refine fR ?_;intro _ hw';obtain⟨y,hw''⟩:=hw';subst hw'';go_wp2;go_ret;exact⟨rfl,QR.out.trans (y.keeps.mono QR.out.size)⟩
theorem sL (a b:bc) (w:World) (h1:-9223372036854775808<=a.page+a.aR) (h2:a.page+a.aR<=9223372036854775807) :
  Calls Tryz.prog 145 #[.agg #[I a.page,I a.aR,I a.fV,.bool a.zero],.agg #[I b.page,I b.aR,I b.fV,.bool b.zero]] w fun e w'=>e=.returned (.bool (jF a b))/\Below w.heap.size w w':=by
 unfold jF bc.oV;split
 · exact Ny _ _ _ _ _ _ _ _ w h1 h2 (by omega)
 · exact Nw _ _ _ _ _ _ _ _ w h1 h2 (by omega)
theorem iB {k:IntKind} {a b:Int} (h:a=b):Ending.returned (.int k a)=.returned (.int k b):=by rw[h]
theorem tB (l:List bc) (b off cap:Nat) (w:World) (hl:qc w b off l) (hf:∀i,i<l.length->yr (bB l i)) (hn:l.length<=140737488351232) :
  Calls Tryz.prog 98 #[.slice (some (Ad b off)) l.length cap] w fun e w'=>e=.returned (I (br l))/\Below w.heap.size w w':=by
 by_cases hm:255<l.length
 · have e:br l=2:=by grind [br]
   rw[e];have hm':(255:Int)<(l.length:Int):=by omega
   go_enter Tryz.func98,Tryz.ntmps98;go_wp2;go_ret;exact⟨rfl,aK _ _⟩
 · have hm':¬(255:Int)<(l.length:Int):=by omega
   have e:br l=if mR l then 0 else 1:=by grind [br]
   have E:Hid (br l=if mR l then 0 else 1):=e;clear e;go_enter Tryz.func98,Tryz.ntmps98;go_wp2;go_loopw [10] (fun i wr=>∃k:Nat,k<=l.length/\i=I k/\jP l k=true/\Below w.heap.size w wr) (fun i _=>l.length-(intOf i).toNat)
   case atStart=>exact⟨0,by omega,rfl,rfl,aK _ _⟩
   case round =>
    obtain⟨k,hk,rfl,hg,hb⟩:=hrel;have HG:Hid (jP l k=true):=hg;clear hg;by_cases hlt:k<l.length
    · obtain⟨c0,c1,c2,c3⟩:=(hl.below hb) k hlt;obtain⟨f1,f2,f3⟩:=hf k hlt;obtain⟨a,ha⟩:=ex (bB l k);rw[<- ha] at c0 c1 c2 c3 f1 f2 f3;have HA:Hid (a=bB l k):=ha;clear ha;by_cases hp:eu a.page a.aR=true
      · by_cases hq:gQ a.fV=true
        · obtain⟨W,hW⟩:=ex (wr.alloc (.cells #[I a.page,I a.aR,I a.fV,.bool a.zero] 47));have hs:W.heap.size=wr.heap.size+1:=by rw[hW];simp
          have hbW:Hid (Below w.heap.size w W):=by show Below _ _ _;rw[hW];exact hb.alloc hb.size _
          by_cases Xg:k=0
          · have hok:Hid (mQ l k=true):=by show _=true;unfold mQ;rw[<- HA.o,hp,hq,Xg];rfl
            have z2:decide (0<k)=false:=by simp;omega
            clear Xg;go_wp2_with (first | (go_at_call 143;refine(fX _ _ _ f1 f2).mono ?_;rintro e w' ⟨rfl,rfl⟩) | (go_at_call 144;refine(jB _ _).mono ?_;rintro e w' ⟨rfl,rfl⟩))
            go_quiet (fail)
            go_wp2;go_roundw
            case rel=>exact⟨k+1,by omega,by go_num,QE l k HG.o hok.out,lR (hb.alloc hb.size _) _⟩
            case measure=>simp[intOf];omega
          · have rB:=gw W;have hkc:=@gy W;have hlW:=hl.below hbW.out;have hbl:=hlW.lt k hlt;obtain⟨g0,g1,g2,g3⟩:=hlW (k-1) (by omega);obtain⟨fp1,fp2,fp3⟩:=hf (k-1) (by omega);obtain⟨p,hpd⟩:=ex (bB l (k-1));rw[<- hpd] at g0 g1 g2 g3 fp1 fp2 fp3;have Xa:=Dl l k HG.o (k-1) (by omega);have hps:eu p.page p.aR=true:=by
             unfold mQ at Xa;rw[<- hpd] at Xa;simp only[dR] at Xa;exact Xa.1.1
            have hpb:1<=p.page/\1<=p.aR/\p.aR<=256-p.page:=by simpa [eu] using hps
            have hok:Hid (mQ l k=jF p a):=by show _=_;unfold mQ;rw[<- HA.o,<- hpd,hp,hq];simp[Xg]
            have k0:∀x:dB W.heap.size W,x.world.cell? ⟨b,off+(k-1)*4,none⟩=some (I p.page):=fun x=>by rw[hkc x _ _ hbl,g0]
            have k1:∀x:dB W.heap.size W,x.world.cell? ⟨b,off+(k-1)*4+1,none⟩=some (I p.aR):=fun x=>by rw[hkc x _ _ hbl,g1]
            have k2:∀x:dB W.heap.size W,x.world.cell? ⟨b,off+(k-1)*4+2,none⟩=some (I p.fV):=fun x=>by rw[hkc x _ _ hbl,g2]
            have k3:∀x:dB W.heap.size W,x.world.cell? ⟨b,off+(k-1)*4+3,none⟩=some (.bool p.zero):=fun x=>by rw[hkc x _ _ hbl,g3]
            have e0:∀x:dB W.heap.size W,x.world.cell? (Ad wr.heap.size 0)=some (I a.page):=fun x=>by rw[hkc x _ _ (by omega),hW];simp
            have e1:∀x:dB W.heap.size W,x.world.cell? (Ad wr.heap.size 1)=some (I a.aR):=fun x=>by rw[hkc x _ _ (by omega),hW];simp
            have e2:∀x:dB W.heap.size W,x.world.cell? (Ad wr.heap.size 2)=some (I a.fV):=fun x=>by rw[hkc x _ _ (by omega),hW];simp
            have e3:∀x:dB W.heap.size W,x.world.cell? (Ad wr.heap.size 3)=some (.bool a.zero):=fun x=>by rw[hkc x _ _ (by omega),hW];simp
            have HW:Hid (W=wr.alloc (.cells #[I a.page,I a.aR,I a.fV,.bool a.zero] 47)):=hW;have hk1:(1:Int)<=(k:Int):=by omega
            have hk2:0<k:=by omega
            clear hW hs hkc hlW hbl g0 g1 g2 g3 hpd Xa hps hl;by_cases hfo:jF p a=true
            · go_wp2_with (first | (go_at_call 143;refine(fX _ _ _ f1 f2).mono ?_;rintro e w' ⟨rfl,rfl⟩) | (go_at_call 144;refine(jB _ _).mono ?_;rintro e w' ⟨rfl,rfl⟩))
              rw[<- HW.o];refine cD (by kernel_rfl) (by kernel_rfl) ?_
              repeat (first | go_big_quiet_step ((go_at_call 145;exact gI (fun W=>sL p a W (by omega) (by omega)) _)) | quiet_step ((go_at_call 145;exact gI (fun W=>sL p a W (by omega) (by omega)) _)))
              refine fR ?_;intro _ hw';obtain⟨x,hw''⟩:=hw';subst hw'';go_wp2;go_roundw
              case rel=>exact⟨k+1,by omega,by go_num,QE l k HG.o (hok.out.trans hfo),hbW.out.trans (x.keeps.mono hbW.out.size)⟩
              case measure=>simp[intOf];omega
            · have apH:jF p a=false:=by simpa using hfo
              clear hfo;go_wp2_with (first | (go_at_call 143;refine(fX _ _ _ f1 f2).mono ?_;rintro e w' ⟨rfl,rfl⟩) | (go_at_call 144;refine(jB _ _).mono ?_;rintro e w' ⟨rfl,rfl⟩))
              rw[<- HW.o];refine cD (by kernel_rfl) (by kernel_rfl) ?_
              repeat (first | go_big_quiet_step ((go_at_call 145;exact gI (fun W=>sL p a W (by omega) (by omega)) _)) | quiet_step ((go_at_call 145;exact gI (fun W=>sL p a W (by omega) (by omega)) _)))
              refine fR ?_;intro _ hw';obtain⟨x,hw''⟩:=hw';subst hw'';go_wp2;go_ret;exact⟨iB (by rw[E.o,LW l k hlt (hok.out.trans apH)];rfl),hbW.out.trans (x.keeps.mono hbW.out.size)⟩
        · have hq':gQ a.fV=false:=by simpa using hq
          clear hq;have hbad:Hid (mQ l k=false):=by show _=false;unfold mQ;rw[<- HA.o,hp,hq'];rfl
          go_wp2_with (first | (go_at_call 143;refine(fX _ _ _ f1 f2).mono ?_;rintro e w' ⟨rfl,rfl⟩) | (go_at_call 144;refine(jB _ _).mono ?_;rintro e w' ⟨rfl,rfl⟩))
          go_ret;exact⟨iB (by rw[E.o,LW l k hlt hbad.out];rfl),hb.alloc hb.size _⟩
      · have hp':eu a.page a.aR=false:=by simpa using hp
        clear hp;have hbad:Hid (mQ l k=false):=by show _=false;unfold mQ;rw[<- HA.o,hp'];rfl
        go_wp2_with (first | (go_at_call 143;refine(fX _ _ _ f1 f2).mono ?_;rintro e w' ⟨rfl,rfl⟩))
        go_ret;exact⟨iB (by rw[E.o,LW l k hlt hbad.out];rfl),hb.alloc hb.size _⟩
    · obtain rfl:k=l.length:=by omega
      go_wp2;go_ret;exact⟨iB (by rw[E.o,show mR l=true from HG.o];rfl),hb⟩
theorem Dk (ao:Option Addr) (cap:Nat) (w:World) :
  Calls Tryz.prog 98 #[.slice ao 0 cap] w fun e w'=>e=.returned (I (br []))/\Below w.heap.size w w':=by
 have e:br []=0:=by decide
 rw[e];go_enter Tryz.func98,Tryz.ntmps98;go_wp2;refine xO 1 ?_;rw[xK];go_wp2;go_ret;exact⟨rfl,aK _ _⟩
theorem Sw (l:List bc) (b off cap:Nat) (w:World) (hl:qc w b off l) (hf:∀i,i<l.length->yr (bB l i)) (hn:l.length<=140737488351232) :
  Calls Tryz.prog 54 #[.slice (some (Ad b off)) l.length cap] w fun e w'=>e=.returned (I (cI l))/\Below w.heap.size w w':=by
 by_cases hc:br l=0
 · have hlen:=kg l hc;have HC:Hid (cI l=jr l l.length):=by show _=_;grind [cI]
   have HK:Hid (br l=0):=hc;go_enter Tryz.func54,Tryz.ntmps54;go_wp2_with fail
   refine(tB l b off cap _ hl hf hn).mono ?_;rintro e w1 ⟨rfl,hb1⟩;rw[hc];clear hc;go_wp2;go_loopw [3,11] (fun s i wr=>∃k:Nat,k<=l.length/\i=I k/\s=I (jr l k)/\Below w.heap.size w wr) (fun _ i _=>l.length-(intOf i).toNat)
   case atStart=>exact⟨0,by omega,rfl,rfl,hb1⟩
   case round =>
    obtain⟨k,hk,rfl,rfl,hb⟩:=hrel;have Ox:=Au l HK.o k hk;by_cases hlt:k<l.length
    · obtain⟨c0,c1,c2,c3⟩:=(hl.below hb) k hlt;have hsu:Hid (jr l (k+1)=jr l k+(bB l k).aR):=rfl;have hbk:=gH l k (gm l HK.o k hlt);obtain⟨a,ha⟩:=ex (bB l k);rw[<- ha] at c0 c1 c2 c3 hsu hbk;clear ha;go_wp2;go_roundw
      case rel=>exact⟨k+1,by omega,by go_num,by rw[hsu.out],hb.alloc hb.size _⟩
      case measure=>simp[intOf];omega
    · obtain rfl:k=l.length:=by omega
      go_wp2;go_ret;exact⟨iB HC.o.symm,hb⟩
 · have HC:Hid (cI l=0):=by show _=_;grind [cI]
   have hc':(br l != 0)=true:=by grind
   go_enter Tryz.func54,Tryz.ntmps54;go_wp2_with fail
   refine(tB l b off cap _ hl hf hn).mono ?_;rintro e w1 ⟨rfl,hb1⟩;go_wp2;go_ret;exact⟨iB HC.o.symm,hb1⟩
theorem Ws (ao:Option Addr) (cap:Nat) (w:World) :
  Calls Tryz.prog 54 #[.slice ao 0 cap] w fun e w'=>e=.returned (I (cI []))/\Below w.heap.size w w':=by
 have e:cI []=0:=by decide
 have e2:br []=0:=by decide
 rw[e];go_enter Tryz.func54,Tryz.ntmps54;go_wp2_with fail
 refine(Dk ao cap _).mono ?_;rintro e w1 ⟨rfl,hb1⟩;rw[e2];go_wp2;refine xO 1 ?_;rw[xK];go_wp2;go_ret
 simp_all
end Go.Proofs.YtpgifpeohlllfaaGreat
end Go.Proofs.YtpgifpeohlllfaaGreat
