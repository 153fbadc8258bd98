import Derived.Deep.AppendLies
import Derived.Deep.Upon
import Derived.WalkLawsBesides
import Derived.WalkSpells
import Derived.BigQuiet
import Derived.Test.YtpgifpeohlllfaaGreatProg
set_option maxHeartbeats 20000000
set_option linter.unusedVariables false
set_option maxRecDepth 100000
set_option linter.unusedSimpArgs false
namespace Go.Proofs.YtpgifpeohlllfaaGreat
abbrev I (n : Int) : Value := .int .i64 n
abbrev Nl : Value := .slice none 0 0
abbrev Ad (b o : Nat) : Addr := ⟨b, o, none⟩
theorem ex {A : Type} (e : A) : ∃ n, n = e := ⟨e, rfl⟩
theorem _root_.Go.RowKit.Hid.o {p : Prop} (h : Go.RowKit.Hid p) : p := h.out
abbrev bJ:=@List.setIfInBounds_toArray
abbrev aI:=@Nat.le_refl
abbrev aK:=@Go.RowKit.Below.refl
abbrev bH:=@List.set_cons_succ
abbrev bI:=@List.set_cons_zero
abbrev cR:=@Bool.and_eq_true
abbrev aR:=@if_pos
abbrev cm:=@Go.bodyPost_ret
abbrev bf:=@if_neg
abbrev iT:=@List.eq_nil_of_length_eq_zero
abbrev dJ:=@decide_eq_false
abbrev fk:=@List.length_append
abbrev ig:=@Go.World.size_alloc
abbrev dI:=@decide_eq_true
abbrev iH:=@Nat.lt_of_lt_of_le
abbrev gP:=@decide_eq_true_eq
abbrev lU:=@List.getD_eq_getElem?_getD
abbrev gN:=@Nat.not_lt_zero
abbrev jn:=@Int.toNat_natCast
abbrev jz:=@Go.World.ownsRow_nil
abbrev iG:=@List.length_set
abbrev fW:=@Nat.add_zero
abbrev oc:=@Go.World.block_lt_of_cell?
abbrev fK:=@Go.wpQuiet_nil
abbrev kr:=@of_decide_eq_true
abbrev gy:=@Nat.le_trans
abbrev dQ:=@congrArg
abbrev gM:=@Nat.zero_add
abbrev kq:=@List.mem_append
abbrev gm:=@Go.info_parts
abbrev ko:=@Go.below_drewN
abbrev m9:=@Go.RowKit.Below.alloc
abbrev mS:=@List.flatMap_cons
abbrev pG:=@List.length_replicate
abbrev q9:=@List.getElem?_eq_getElem
abbrev qg:=@List.flatMap_append
abbrev lT:=@Bool.true_and
abbrev C5:=@List.findIdx?_eq_some_iff_getElem
abbrev m8:=@Go.IntWalk.i64_in
abbrev qd:=@List.take_length
abbrev pF:=@List.set_set
abbrev vv:=@List.set_append_right
abbrev vt:=@List.length_singleton
abbrev rY:=@Go.Addr.add_lit
abbrev rX:=@List.length_take
abbrev rW:=@List.append_assoc
abbrev P7:=@List.pairwise_iff_getElem
abbrev xH:=@Nat.lt_of_succ_lt_succ
abbrev C4:=@List.mem_cons_self
abbrev C3:=@Int.tdiv_eq_ediv_of_nonneg
abbrev oa:=@Prod.mk.inj
abbrev C2:=@Go.World.cell?_of_block
abbrev ub:=@List.length_map
abbrev ua:=@List.mem_flatMap
abbrev tZ:=@List.all_eq_true
abbrev zC:=@Go.ByteArray.toList_eq
abbrev pE:=@Go.bodyPost_end
abbrev vr:=@Go.DataW.trod_struct
abbrev oP:=@Go.setRow_heap
abbrev oO:=@Nat.zero_le
abbrev XY:=@List.take_add_one
abbrev zB:=@List.eq_nil_or_concat
abbrev zy:=@List.concat_eq_append
abbrev zx:=@Go.Lib.run_eql_slice_nil
abbrev tY:=@List.cons.injEq
abbrev qc:=@Nat.le_of_lt
abbrev CZ:=@List.pairwise_cons
abbrev xG:=@Go.World.ownsRow_made
abbrev E8:=@List.getElem?_append_right
abbrev xE:=@Classical.not_not
abbrev tX:=@Bool.false_and
abbrev zw:=@beq_eq_false_iff_ne
abbrev vq:=@Go.wpList_load_row
abbrev E7:=@List.exists_mem_of_ne_nil
abbrev CY:=@Go.RowKit.ownsRow_setCell_below
abbrev xD:=@Go.wpList_store_row
abbrev xC:=@List.length_cons
abbrev vo:=@Go.wp_loop_rounds
abbrev vk:=@List.mem_range
abbrev KD:=@List.getElem?_append_left
abbrev KC:=@List.findIdx?_eq_none_iff
abbrev Kz:=@List.mem_of_find?_eq_some
abbrev zu:=@Bool.or_eq_true
abbrev E6:=@List.set_append_left
abbrev E5:=@List.mem_cons_of_mem
abbrev xB:=@List.mem_cons
abbrev CX:=@Go.DataW.trod_int
abbrev vh:=@Nat.le_succ
abbrev vg:=@Go.rounds_succ
abbrev E4:=@Go.wpList_append_lies
abbrev xz:=@List.mem_map
abbrev CW:=@List.nil_append
abbrev Ky:=@Go.run_convert_bytes_arg
abbrev qZ:=@and_true
abbrev Kw:=@Nat.mul_le_mul_right
abbrev Kv:=@List.mem_erase_of_ne
abbrev xy:=@Int.le_refl
abbrev Ku:=@Bool.or_eq_false_iff
abbrev P6:=@Int.tmod_eq_emod_of_nonneg
abbrev E3:=@Nat.lt_succ_self
abbrev Kt:=@List.length_pos_iff
abbrev CV:=@List.map_cons
abbrev acd:=@List.set_eq_of_length_le
abbrev E2:=@List.append_nil
abbrev Ks:=@Nat.add_sub_cancel
abbrev zt:=@Nat.min_def
abbrev P5:=@decide_eq_false_iff_not
abbrev P4:=@List.getElem?_replicate
abbrev XX:=@Go.DataW.weights_mem_each
abbrev Kq:=@Go.World.cells?_some
abbrev Kp:=@List.ext_getElem?
abbrev E1:=@Go.run_underlying
abbrev EZ:=@Bool.not_false
abbrev Ko:=@Go.DataW.trod_string
abbrev CU:=@Int.add_zero
abbrev PZ:=@List.append_eq_nil_iff
abbrev Kn:=@Bool.not_eq_true'
abbrev Km:=@Go.World.cell?_spot
abbrev Kl:=@Go.RowKit.Below.cell
abbrev Kk:=@List.not_mem_nil
abbrev Kj:=@List.cons_append
abbrev Ki:=@List.length_drop
abbrev Kh:=@Nat.zero_lt_succ
abbrev Kg:=@Nat.succ_lt_succ
abbrev EY:=@Nat.lt_irrefl
abbrev acb:=@Go.Lib.byteCells_length
abbrev PY:=@List.pairwise_append
abbrev PX:=@Go.wpList_mapUpdate_own
abbrev Kf:=@Go.DataW.trod_bool
abbrev XV:=@List.dropLast_concat_getLast
abbrev PW:=@Int.toNat_of_nonneg
abbrev aca:=@Go.run_firstCells_some
abbrev EW:=@Nat.lt_or_ge
abbrev Ke:=@Go.heap_alloc_new
abbrev Kc:=@List.drop_drop
abbrev XU:=@List.mem_or_eq_of_mem_set
abbrev ab9:=@List.drop_eq_getElem_cons
abbrev PV:=@Go.Result.andThen_ok
abbrev ab8:=@Int.emod_eq_of_lt
abbrev Kb:=@Nat.add_assoc
abbrev PU:=@Go.results_cell_tmp
abbrev PT:=@Array.toList_inj
abbrev EU:=@beq_iff_eq
abbrev Ka:=@Nat.succ_mul
abbrev PS:=@Go.run_loadVar_row
abbrev PQ:=@List.length_nil
abbrev PO:=@List.find?_cons
abbrev PN:=@Go.cell_of_row
abbrev J9:=@Nat.mul_one
open Go.RowKit
theorem aQ {w w':World} {b N:Nat} {o:Obj} (h:w.heap[b]?=some o) (hb:Below N w w') (hlt:b<N):w'.heap[b]?=some o:=(hb.block b hlt).trans h
theorem aT {w:World} {b:Nat} {o:Obj} (h:w.heap[b]?=some o):b<w.heap.size:=(Array.getElem?_eq_some_iff.1 h).1
theorem bM {w:World} {b:Nat} {o:Obj} (h:w.heap[b]?=some o) (o':Obj):(w.alloc o').heap[b]?=some o:=(Below.heap_alloc w o' b (aT h)).trans h
theorem aB {w:World} {b:Nat} {C:Array Value} {t:TypeId} {fr:Nat×Nat} (h:w.heap[b]?=some (.cells C t fr)) (j:Nat) {v:Value} (hj:C[j]?=some v):w.cell? (Ad b j)=some v:=(PN w b j C t fr h).trans hj
theorem aO {w:World} {b:Nat} {C:Array Value} {t:TypeId} (h:w.heap[b]?=some (.cells C t (0,0))) (j:Nat):w.frozen? (Ad b j)=false:=frozen_of_row w b j C t h
theorem iM {w:World} {b:Nat} {o:Obj} (h:w.heap[b]?=some o) (g j:Nat) (v:Value) (hne:b≠g):(w.setCell (Ad g j) v).heap[b]?=some o:=(heap_setCell_other w (Ad g j) b v hne).trans h
theorem dD {w:World} {b:Nat} {C:Array Value} {t:TypeId} (h:w.heap[b]?=some (.cells C t (0,0))) (j:Nat) (v:Value):(w.setCell (Ad b j) v).heap[b]?=some (.cells (C.setIfInBounds j v) t (0,0)):=heap_setCell_same w b j C t v h
theorem bO (w:World) (C:Array Value) (t:TypeId):(w.alloc (.cells C t)).heap[w.heap.size]?=some (.cells C t (0,0)):=Ke w _
theorem tT {w:World} {b:Nat} {C:Array Value} {t:TypeId} {fr:Nat×Nat} (h:w.heap[b]?=some (.cells C t fr)):∀j u,C.toList[j]?=some u->w.cell? (((Ad b 0):Addr).add j)=some u:=fun j u hj=>by
 grind [Addr.add_lit,aB]
theorem G7 {w w':World} {b:Nat} {o:Obj} {row:Option Nat} (h:w.heap[b]?=some o) (hg:w.grownBy w' row) (hne:some b≠row):w'.heap[b]?=some o:=(hg.block b (aT h) hne).trans h
theorem nM {w:World} {b:Nat} {a0 a1:Value} {t:TypeId} (h:w.heap[b]?=some (.cells #[a0,a1] t (0,0))):w.cell? (Ad b 0)=some a0/\w.cell? (Ad b 1)=some a1:=⟨aB h 0 rfl,aB h 1 rfl⟩
theorem nV {w:World} {b:Nat} {a0 a1 a2:Value} {t:TypeId} (h:w.heap[b]?=some (.cells #[a0,a1,a2] t (0,0))):w.cell? (Ad b 0)=some a0/\w.cell? (Ad b 1)=some a1/\w.cell? (Ad b 2)=some a2:=⟨aB h 0 rfl,aB h 1 rfl,aB h 2 rfl⟩
theorem ZM {w:World} {b:Nat} {a0 a1 a2 a3:Value} {t:TypeId} (h:w.heap[b]?=some (.cells #[a0,a1,a2,a3] t (0,0))):w.cell? (Ad b 0)=some a0/\w.cell? (Ad b 1)=some a1/\w.cell? (Ad b 2)=some a2/\w.cell? (Ad b 3)=some a3:=⟨aB h 0 rfl,aB h 1 rfl,aB h 2 rfl,aB h 3 rfl⟩
theorem fy {w:World} {b:Nat} {a0 a1 a2 a3 a4:Value} {t:TypeId} (h:w.heap[b]?=some (.cells #[a0,a1,a2,a3,a4] t (0,0))):w.cell? (Ad b 0)=some a0/\w.cell? (Ad b 1)=some a1/\w.cell? (Ad b 2)=some a2/\w.cell? (Ad b 3)=some a3/\w.cell? (Ad b 4)=some a4:=⟨aB h 0 rfl,aB h 1 rfl,aB h 2 rfl,aB h 3 rfl,aB h 4 rfl⟩
open Go.RowKit
structure aM (D:Nat->Prop) (w w':World):Prop where
 os:w'.os=w.os
 tape:w'.tape=w.tape
 output:w'.output=w.output
 size:w.heap.size<=w'.heap.size
 block:∀b,b<w.heap.size->¬D b->w'.heap[b]?=w.heap[b]?
theorem aM.refl (D:Nat->Prop) (w:World):aM D w w:=⟨rfl,rfl,rfl,aI _,fun _ _ _=>rfl⟩
theorem aM.trans {D D1:Nat->Prop} {w w1 w2:World} (h:aM D w w1) (g:aM D1 w1 w2) (hd:∀b,b<w.heap.size->D1 b->D b):aM D w w2 :=
 ⟨g.os.trans h.os,g.tape.trans h.tape,g.output.trans h.output,gy h.size g.size,fun b hb hn=>(g.block b (iH hb h.size) (fun k=>hn (hd b hb k))).trans (h.block b hb hn)⟩
theorem aM.mono {D D1:Nat->Prop} {w w':World} (h:aM D w w') (hd:∀b,b<w.heap.size->D b->D1 b):aM D1 w w':=⟨h.os,h.tape,h.output,h.size,fun b hb hn=>h.block b hb (fun k=>hn (hd b hb k))⟩
theorem aM.cH {D:Nat->Prop} {w w':World} (h:Below w.heap.size w w'):aM D w w':=⟨h.os,h.tape,h.output,h.size,fun b hb _=>h.block b hb⟩
theorem aM.below {D:Nat->Prop} {N:Nat} {w0 w w':World} (h:Below N w0 w) (g:aM D w w') (hN:N<=w.heap.size) (hd:∀b,D b->N<=b):Below N w0 w' :=
 h.trans ⟨g.os,g.tape,g.output,g.size,fun b hb=>g.block b (iH hb hN) (fun k=>by grind)⟩
theorem aM.alloc (D:Nat->Prop) (w:World) (o:Obj):aM D w (w.alloc o):=aM.cH ((aK _ _).alloc (aI _) o)
theorem aM.drew (D:Nat->Prop) (w:World):aM D w w.drew:=aM.cH (aK _ _).drew
theorem aM.set (D:Nat->Prop) (w:World) (a:Addr) (v:Value) (h:D a.block):aM D w (w.setCell a v):=by
 have hb:=(aK 0 w).setCell (p:=a) (oO _) v;exact⟨hb.os,hb.tape,hb.output,hb.size,fun b _ hn=>Below.heap_setCell w a v b (fun e=>hn (e ▸ h))⟩
theorem aM.grown {D:Nat->Prop} {w w':World} {row:Option Nat} (h:w.grownBy w' row) (hd:∀k,row=some k->D k):aM D w w' :=
 ⟨h.os,h.tape,h.output,h.size,fun b hb hn=>h.block b hb (fun e=>hn (hd b e.symm))⟩
theorem aM.keep {D:Nat->Prop} {w w':World} {b:Nat} {o:Obj} (h:aM D w w') (hb:w.heap[b]?=some o) (hn:¬D b):w'.heap[b]?=some o:=(h.block b (aT hb) hn).trans hb
theorem aM.cell {D:Nat->Prop} {w w':World} {p:Addr} {v:Value} (h:aM D w w') (hp:w.cell? p=some v) (hn:¬D p.block):w'.cell? p=some v :=
 (C2 (h.block p.block (oc w p hp) hn)).trans hp
theorem aM.row {D:Nat->Prop} {w w':World} {base:Nat} {e:TypeId} {size:Nat} {v:Value} {n:Nat} {xs:List Value} (h:aM D w w') (hr:w.ownsRow base e size v n xs) (hn:∀g,v.ownBlock=some g->¬D g):w'.ownsRow base e size v n xs:=by
 refine⟨hr.1,?_⟩;rcases hr.2 with h0 | ⟨g,cap,cur,hv,hb,hg,h1,h2,h3,h4⟩
 · grind
 · exact .inr ⟨g,cap,cur,hv,hb,h.keep hg (hn g (by rw[hv];rfl)),h1,h2,h3,h4⟩
theorem o6 {w:World} {base:Nat} {e:TypeId} {size:Nat} {g n cap:Nat} {xs:List Value} (hr:w.ownsRow base e size (.slice (some (Ad g 0)) n cap) n xs) (j:Nat) (u:Value) :
  (w.setCell (Ad g j) u).ownsRow base e size (.slice (some (Ad g 0)) n cap) n (xs.set j u):=by
 refine⟨by rw[iG];exact hr.1,?_⟩;rcases hr.2 with⟨h0,_⟩ | ⟨g',cap',cur,hv,hb,hg,h1,h2,h3,h4⟩
 · cases h0
 · injection hv with e1 e2 e3;injection e1 with e1;injection e1 with e1 _ _;subst e1 e3;refine .inr ⟨g,cap,cur.setIfInBounds j u,rfl,hb,dD hg j u,h1,h2,by grind,?_⟩;rw[Array.toList_setIfInBounds,<- h4];exact List.take_set.symm ▸ rfl
theorem gp {w:World} {base:Nat} {e:TypeId} {size:Nat} {g n cap:Nat} {xs:List Value} (hr:w.ownsRow base e size (.slice (some (Ad g 0)) n cap) n xs) (j:Nat):w.frozen? (Ad g j)=false:=by
 rcases hr.2 with⟨h0,_⟩ | ⟨g',cap',cur,hv,hb,hg,h1,h2,h3,h4⟩
 · cases h0
 grind [aO]
theorem GY {P:Program} (w:World) (t ty:TypeId) (base:Nat) (e:TypeId) (i:TypeInfo) (z:Value) (size bytes:Nat) (ht:P.underlying t=some (.slice e)) (hi:P.info? e=some i) (hz:i.zero=some z)
  (hsize:i.size=size) (hby:i.bytes=bytes) (hzs:z.cells.size=size) (hsz:0<size)
  (v:Value) (n:Nat) (xs:List Value) (hown:w.ownsRow base e size v n xs)
  (ao:Option Addr) (m c:Nat) (news:List Value) (hl:news.length=m*size) (hnews:0<m->∃ad,ao=some ad/\∀j u,news[j]?=some u->w.cell? (ad.add j)=some u) (h1:∀u∈news,u.oneCell'=true)
  (h63:n+m<=maxLen) (hbytes:(n+m)*bytes<=140737488355328) (hbase:base<=w.heap.size) :
  ∃v' w',(Builtin.append_ #[t,t] ty #[v,.slice ao m c]).run P w=.ok v' w' /\
   w'.ownsRow base e size v' (n+m) (xs++news)/\w.grownBy w' v.ownBlock/\(v'.ownBlock=v.ownBlock∨v'.ownBlock=some w.heap.size):=by
 by_cases h0:0<m
 · obtain⟨ad,rfl,hc⟩:=hnews h0;obtain⟨g,cap,w',hr,h2,h3,h4,h5⟩:=run_append_lies (P:=P) w t ty base e i z size bytes ht hi hz hsize hby hzs hsz v n xs hown ad m c news hl hc h1 h0 h63 hbytes hbase _ rfl;refine⟨_,w',hr,h2,h3,?_⟩;rcases h4 with h4 | h4
   · exact .inl h4.symm
   · exact .inr (by rw[h4];rfl)
 · obtain rfl:m=0:=by omega
   have hn:news=[]:=iT (by omega);subst hn;have hsrc:Src P i.size t (.slice ao 0 c) 0 [] w:=⟨.inl ⟨_,ht⟩,fun w'=>by rfl,by cases ao <;> simp[Builtin.firstCells,loadCells,loadCellsFrom],by cases ao <;> simp[Builtin.firstCells,loadCells,loadCellsFrom],by simp,by simp⟩;have hform:∃b cap,v=.slice b n cap/\n<=cap:=by
    rcases hown.2 with⟨h0,h1⟩ | ⟨g',cap',cur,hv,hb,hg,h1,h2,h3,h4⟩
    · grind
    grind
   grind [run_append_nothing,World.grownBy.refl]
theorem dM {P:Program} {o:Oper} {a:Act} {w:World} {K:Act->World->Prop} {Q:Exit->Act->World->Prop} (s x:Operand) (t:TypeId)
  (ho:o.op=.call { callee:=.builtin .append,args:=#[s,x],argTypes:=#[t,t] })
  (base:Nat) (e:TypeId) (i:TypeInfo) (z:Value) (size bytes:Nat) (ht:P.underlying t=some (.slice e)) (hi:P.info? e=some i) (hz:i.zero=some z)
  (hsize:i.size=size) (hby:i.bytes=bytes) (hzs:z.cells.size=size) (hsz:0<size)
  (v:Value) (n:Nat) (xs:List Value) (hs:a.eval s=v) (hown:w.ownsRow base e size v n xs)
  (ao:Option Addr) (m c:Nat) (news:List Value) (hx:a.eval x=.slice ao m c) (hl:news.length=m*size) (hnews:0<m->∃ad,ao=some ad/\∀j u,news[j]?=some u->w.cell? (ad.add j)=some u) (h1:∀u∈news,u.oneCell'=true)
  (h63:n+m<=maxLen) (hbytes:(n+m)*bytes<=140737488355328) (hbase:base<=w.heap.size)
  (h:∀v' w',w'.ownsRow base e size v' (n+m) (xs++news)->w.grownBy w' v.ownBlock->(v'.ownBlock=v.ownBlock∨v'.ownBlock=some w.heap.size)->K (a.put o.dst v') w'):o.wp P a w K Q:=by
 obtain⟨v',w',hr,h2,h3,h4⟩:=GY (P:=P) w t o.type base e i z size bytes ht hi hz hsize hby hzs hsz v n xs hown ao m c news hl hnews h1 h63 hbytes hbase;unfold Oper.wp execOp;simp only[ho,resolve,invoke,builtin,Sem.run_bind,Sem.run_pure,PV,List.map_toArray,CV,List.map_nil,hs,hx,hr];exact h v' w' h2 h3 h4
theorem cZ {P:Program} {ops:Array Oper} {rest:List Oper} {o:Oper} {a:Act} {w:World} {Q:Exit->Act->World->Prop} (hgd:o.guard=none) (s x:Operand) (t:TypeId)
  (ho:o.op=.call { callee:=.builtin .append,args:=#[s,x],argTypes:=#[t,t] })
  (base:Nat) (e:TypeId) (i:TypeInfo) (z:Value) (size bytes:Nat) (ht:P.underlying t=some (.slice e)) (hi:P.info? e=some i) (hz:i.zero=some z)
  (hsize:i.size=size) (hby:i.bytes=bytes) (hzs:z.cells.size=size) (hsz:0<size)
  (v:Value) (n:Nat) (xs:List Value) (hs:a.eval s=v) (hown:w.ownsRow base e size v n xs)
  (ao:Option Addr) (m c:Nat) (news:List Value) (hx:a.eval x=.slice ao m c) (hl:news.length=m*size) (hnews:0<m->∃ad,ao=some ad/\∀j u,news[j]?=some u->w.cell? (ad.add j)=some u) (h1:∀u∈news,u.oneCell'=true)
  (h63:n+m<=maxLen) (hbytes:(n+m)*bytes<=140737488355328) (hbase:base<=w.heap.size)
  (h:∀v' w',w'.ownsRow base e size v' (n+m) (xs++news)->w.grownBy w' v.ownBlock->(v'.ownBlock=v.ownBlock∨v'.ownBlock=some w.heap.size)->wpList P ops Q rest (a.put o.dst v') w'):wpList P ops Q (o::rest) a w :=
 wpList_plain hgd fun _ hK=>dM s x t ho base e i z size bytes ht hi hz hsize hby hzs hsz v n xs hs hown ao m c news hx hl hnews h1 h63 hbytes hbase fun v' w' h2 h3 h4=>hK _ _ (h v' w' h2 h3 h4)
theorem eG {α:Type} (f:α->List Value) (k:Nat) (hf:∀x,(f x).length=k):∀l:List α,(l.flatMap f).length=l.length*k
 | []=>by simp
 | a::r=>by rw[mS,fk,hf,eG f k hf r,xC,Ka,Nat.add_comm]
theorem CI {α:Type} (f:α->List Value) (k:Nat) (hf:∀x,(f x).length=k) (d:α):∀(l:List α) (i j:Nat),i<l.length->j<k->(l.flatMap f)[i*k+j]?=(f (l.getD i d))[j]?
 | [],i,j,hi,hj=>by grind
 | a::r,0,j,hi,hj=>by
  grind
 | a::r,i+1,j,hi,hj=>by
  rw[mS,E8 (by grind),hf,show(i+1)*k+j-k=i*k+j by grind];exact CI f k hf d r i j (by grind) hj
theorem nK {α:Type} (f:α->List Value) (k:Nat) (hf:∀x,(f x).length=k) (d:α) (x:α) (j:Nat) (v:Value) (hj:j<k):∀(l:List α) (i:Nat),i<l.length->f x=(f (l.getD i d)).set j v->(l.set i x).flatMap f=(l.flatMap f).set (i*k+j) v
 | [],i,hi,_=>by rfl
 | a::r,0,hi,e=>by
  grind
 | a::r,i+1,hi,e=>by
  rw[bH,mS,mS,vv _ _ (by grind),hf,show(i+1)*k+j-k=i*k+j by grind,nK f k hf d x j v hj r i (by grind) e]
theorem jJ {α:Type} {w:World} {base:Nat} {e:TypeId} {k g cap:Nat} (f:α->List Value) (hf:∀x,(f x).length=k) (d:α) {l:List α} (hr:w.ownsRow base e k (.slice (some (Ad g 0)) l.length cap) l.length (l.flatMap f)) (i j:Nat) (hi:i<l.length) (hj:j<k):w.cell? (Ad g (i*k+j))=(f (l.getD i d))[j]?:=by
 have:i*k+j<l.length*k:=by
  have:=Kw k (show i+1<=l.length from hi)
  grind
 exact(hr.cellAt _ this).trans (CI f k hf d l i j hi hj)
theorem aY {w:World} {base:Nat} {e:TypeId} {size:Nat} {v:Value} {n:Nat} {xs:List Value} (h:w.ownsRow base e size v n xs):∃ao cap,v=.slice ao n cap/\n<=cap/\(0<n->∃g,ao=some (Ad g 0)/\base<=g/\g<w.heap.size):=by
 rcases h.2 with⟨h0,h1⟩ | ⟨g',cap',cur,hv,hb,hg,h1,h2,h3,h4⟩
 · grind
 grind
theorem mr {w:World} {base base':Nat} {e:TypeId} {size:Nat} {v:Value} {n:Nat} {xs:List Value} (h:w.ownsRow base e size v n xs) (hb:∀g,v.ownBlock=some g->base'<=g):w.ownsRow base' e size v n xs:=by
 refine⟨h.1,?_⟩;rcases h.2 with h0 | ⟨g,cap,cur,hv,_,hg,h1,h2,h3,h4⟩
 · grind
 · exact .inr ⟨g,cap,cur,hv,hb g (by rw[hv];rfl),hg,h1,h2,h3,h4⟩
theorem eQ (w:World) (g j b o:Nat) (v:Value) (h:b≠g):(w.setCell (Ad g j) v).cell? (Ad b o)=w.cell? (Ad b o):=C2 (Below.heap_setCell w (Ad g j) v b h)
theorem tR {D:Nat->Prop} (w:World) (g:Nat) (j0 j1 j2:Nat) (v0 v1 v2:Value) (h:D g):aM D w (((w.setCell (Ad g j0) v0).setCell (Ad g j1) v1).setCell (Ad g j2) v2) :=
 ((aM.set D w (Ad g j0) v0 h).trans (aM.set D _ (Ad g j1) v1 h) (fun _ _ k=>k)).trans (aM.set D _ (Ad g j2) v2 h) (fun _ _ k=>k)
open Go.RowKit
structure aZ where
 page:Int
 bC:Int
 fI:Int
 zero:Bool
def aZ.mW (a:aZ):Int:=a.page+a.bC
def rM:aZ:=⟨0,0,0,false⟩
def bl (l:List aZ) (i:Nat):aZ:=l.getD i rM
def fC (p n:Int):Bool:=decide (1<=p/\1<=n/\n<=256-p)
def jx (p:Int):Bool:=decide (0<=p/\p<=3)
def iF (a b:aZ):Bool:=if b.page=a.mW then (b.fI != a.fI || b.zero != a.zero) else decide (a.mW<b.page)
def oI (w:World) (b gS:Nat) (l:List aZ):Prop:=∀i,i<l.length ->
 w.cell? (Ad b (gS+i*4))=some (I (bl l i).page)/\w.cell? (Ad b (gS+i*4+1))=some (I (bl l i).bC) /\
 w.cell? (Ad b (gS+i*4+2))=some (I (bl l i).fI)/\w.cell? (Ad b (gS+i*4+3))=some (.bool (bl l i).zero)
def wa (a:aZ):Prop:=(-9223372036854775808<=a.page/\a.page<=9223372036854775807)/\(-9223372036854775808<=a.bC/\a.bC<=9223372036854775807)/\(-9223372036854775808<=a.fI/\a.fI<=9223372036854775807)
def lJ (l:List aZ) (i:Nat):Bool:=fC (bl l i).page (bl l i).bC&&jx (bl l i).fI&&(i==0 || iF (bl l (i-1)) (bl l i))
def iQ (l:List aZ):Nat->Bool
 | 0=>true
 | k+1=>iQ l k&&lJ l k
def lK (l:List aZ):Bool:=iQ l l.length
def bB (l:List aZ):Int:=if 255<l.length then 2 else if lK l then 0 else 1
theorem A8 (l:List aZ):∀(k n:Nat),k<=n->iQ l k=false->iQ l n=false
 | k,0,h,hk=>by grind
 | k,n+1,h,hk=>by
  by_cases e:k=n+1
  · grind
  · simp[iQ,A8 l k n (by omega) hk]
theorem Ar (l:List aZ):∀(n:Nat),iQ l n=true->∀i,i<n->lJ l i=true
 | 0,_,i,hi=>by omega
 | n+1,h,i,hi=>by
  simp only[iQ,cR] at h;by_cases e:i=n
  · grind
  · exact Ar l n h.1 i (by omega)
theorem oI.lt {w:World} {b gS:Nat} {l:List aZ} (h:oI w b gS l) (i:Nat) (hi:i<l.length):b<w.heap.size :=
 oc w _ (h i hi).1
theorem oI.below {w w':World} {b gS:Nat} {l:List aZ} (h:oI w b gS l) (hb:Below w.heap.size w w'):oI w' b gS l:=fun i hi=>by
 have hlt:=h.lt i hi;obtain⟨h0,h1,h2,h3⟩:=h i hi
 grind [Below.cell]
theorem IE (l:List aZ) (k:Nat) (hk:k<l.length) (h:lJ l k=false):lK l=false :=
 A8 l (k+1) l.length (by omega) (by simp[iQ,h])
theorem MP (l:List aZ) (k:Nat) (h:iQ l k=true) (h':lJ l k=true):iQ l (k+1)=true:=by grind [iQ]
def fP (a:aZ) (p:Int):Bool:=decide (a.page<=p/\p<a.mW)
def bV:List aZ->Int->aZ×Bool
 | [],_=>(rM,false)
 | a::r,p=>if fP a p then (a,true) else bV r p
def bh (l:List aZ) (p:Int):aZ×Bool:=if bB l=0 then bV l p else (rM,false)
def gV (l:List aZ):Nat->Int
 | 0=>0
 | k+1=>gV l k+(bl l k).bC
def dU (l:List aZ):Int:=if bB l=0 then gV l l.length else 0
theorem oF:∀(l:List aZ) (p:Int),(∀i,i<l.length->fP (bl l i) p=false)->bV l p=(rM,false)
 | [],_,_=>rfl
 | a::r,p,h=>by
  have h0:fP a p=false:=h 0 (by simp);have hr:∀i,i<r.length->fP (bl r i) p=false:=fun i hi=>h (i+1) (by grind)
  simp[bV,h0,oF r p hr]
theorem oG:∀(l:List aZ) (p:Int) (k:Nat),k<l.length->(∀i,i<k->fP (bl l i) p=false)->fP (bl l k) p=true->bV l p=(bl l k,true)
 | [],_,k,hk,_,_=>by grind
 | a::r,p,0,hk,_,h1=>by
  grind [bV,bl]
 | a::r,p,k+1,hk,h,h1=>by
  have h0:fP a p=false:=h 0 (by omega);have hr:=oG r p k (by grind) (fun i hi=>h (i+1) (by omega)) h1
  grind [bV,bl]
theorem fw (l:List aZ) (h:bB l=0) (i:Nat) (hi:i<l.length):lJ l i=true:=by
 unfold bB at h;split at h
 · simp at h
 · split at h
   · exact Ar l l.length (by assumption) i hi
   omega
theorem kO (l:List aZ) (h:bB l=0):l.length<=255:=by
 grind [bB]
theorem fG (l:List aZ) (i:Nat) (h:lJ l i=true):1<=(bl l i).page/\1<=(bl l i).bC/\(bl l i).bC<=256-(bl l i).page/\0<=(bl l i).fI/\(bl l i).fI<=3:=by
 grind [lJ,fC,jx]
theorem yg (l:List aZ) (h:bB l=0):∀k,k<=l.length->0<=gV l k/\gV l k<=255*k
 | 0,_=>by simp[gV]
 | k+1,hk=>by
  have ih:=yg l h k (by omega);have ho:=fG l k (fw l h k (by omega))
  grind [gV]
open Go.RowKit
def l8 (fI way:Int):Bool:=decide ((way=1/\fI%2=0)∨(way=2/\fI<2))
def j5 (l:List aZ) (p way:Int):Int×Int :=
 if p<0∨(bh l (p/16)).2=false then (1,p) else if l8 (bh l (p/16)).1.fI way=true then (2,p) else (0,0)
def gA (l:List aZ) (a way:Int):Nat->Int×Int
 | 0=>(0,0)
 | n+1=>if (gA l a way n).1=0 then j5 l (a+n) way else gA l a way n
def eV (l:List aZ) (a size way:Int):Int×Int:=if way=2/\¬a%8=0 then (3,a) else gA l a way size.toNat
theorem sW {l:List aZ} {p way:Int} (h:(j5 l p way).1=0):j5 l p way=(0,0)/\0<=p/\(bh l (p/16)).2=true/\l8 (bh l (p/16)).1.fI way=false:=by
 grind [j5]
theorem yc {l:List aZ} {p way:Int} (h:p<0∨(bh l (p/16)).2=false):j5 l p way=(1,p):=by grind [j5]
theorem D2 {l:List aZ} {p way:Int} (h:0<=p) (h2:(bh l (p/16)).2=true) (h3:l8 (bh l (p/16)).1.fI way=true):j5 l p way=(2,p):=by
 grind [j5]
theorem MB {l:List aZ} {p way:Int} (h:0<=p) (h2:(bh l (p/16)).2=true) (h3:l8 (bh l (p/16)).1.fI way=false):j5 l p way=(0,0):=by
 grind [j5]
theorem yJ {l:List aZ} {a way:Int} {k:Nat} {f:Int×Int} (h:gA l a way k=f) (hf:¬f.1=0):∀n,k<=n->gA l a way n=f
 | 0,hn=>by grind
 | n+1,hn=>by
  by_cases e:k=n+1
  · grind
  · have ih:=yJ h hf n (by omega)
    grind [gA]
theorem qX {l:List aZ} {a way:Int} {k:Nat} (h:gA l a way k=(0,0)):gA l a way (k+1)=j5 l (a+k) way:=by
 grind [gA]
theorem x9:∀(l:List aZ) (q:Int),(bV l q).2=true->∃k,k<l.length/\fP (bl l k) q=true/\(bV l q).1=bl l k
 | [],q,h=>by cases h
 | a::r,q,h=>by
  unfold bV at h ⊢;by_cases c:fP a q=true
  · rw[aR c];exact⟨0,by simp,c,rfl⟩
  · rw[bf c] at h ⊢;obtain⟨k,h1,h2,h3⟩:=x9 r q h;exact⟨k+1,by grind,h2,h3⟩
theorem pC {l:List aZ} {q:Int} (hc:bB l=0) (h:(bh l q).2=true):1<=q/\q<256/\0<=(bh l q).1.fI/\(bh l q).1.fI<=3:=by
 have e:bh l q=bV l q:=by grind [bh]
 rw[e] at h ⊢;obtain⟨k,h1,h2,h4⟩:=x9 l q h;have h5:=fG l _ (fw l hc _ h1);have h6:(bl l k).page<=q/\q<(bl l k).page+(bl l k).bC:=kr h2
 grind
theorem p7 {l:List aZ} {q:Int} (h:(bh l q).2=true):bB l=0:=by
 grind [bh]
theorem sV {l:List aZ} {a way:Int}:∀{k:Nat},gA l a way (k+1)=(0,0)->16<=a/\a+k<4096
 | 0,h=>by
  rw[qX rfl] at h;obtain⟨_,h1,h2,_⟩:=sW (by rw[h]);have:=pC (p7 h2) h2;omega
 | k+1,h=>by
  have h0:gA l a way (k+1)=(0,0):=by
   grind [gA,sW]
  have ih:=sV h0;rw[qX h0] at h;obtain⟨_,h1,h2,_⟩:=sW (by rw[h]);have:=pC (p7 h2) h2;omega
open Go.RowKit
theorem nW (p n t:Int) (z:Bool) (w:World) (h1:-9223372036854775808<=p+n) (h2:p+n<=9223372036854775807) :
  Calls Tryz.prog 117 #[.agg #[I p,I n,I t,.bool z]] w fun e w'=>e=.returned (I (p+n))/\Below w.heap.size w w':=by
 go_enter Tryz.func117,Tryz.ntmps117;go_wp2;go_ret;exact⟨rfl,(aK _ _).alloc (aI _) _⟩
theorem jF (p n:Int) (w:World) (hp:-9223372036854775808<=p/\p<=9223372036854775807) (hn:-9223372036854775808<=n/\n<=9223372036854775807) :
  Calls Tryz.prog 143 #[I p,I n] w fun e w'=>e=.returned (.bool (fC p n))/\w=w':=by
 by_cases h1:1<=p
 · by_cases h2:1<=n
   · by_cases h3:n<=256-p
     · have e:fC p n=true:=by grind [fC]
       have h4:n<=255-p+1:=by omega
       rw[e];go_enter Tryz.func143,Tryz.ntmps143;go_wp2;go_ret
       simp_all
     · have e:fC p n=false:=by grind [fC]
       have h4:decide (n<=255-p+1)=false:=by grind
       rw[e];go_enter Tryz.func143,Tryz.ntmps143;go_wp2;go_ret
       simp_all
   · have e:fC p n=false:=by grind [fC]
     rw[e];go_enter Tryz.func143,Tryz.ntmps143;go_wp2;go_ret
     simp_all
 · have e:fC p n=false:=by grind [fC]
   rw[e];go_enter Tryz.func143,Tryz.ntmps143;go_wp2;go_ret
   simp_all
theorem mE (p:Int) (w:World) :
  Calls Tryz.prog 144 #[I p] w fun e w'=>e=.returned (.bool (jx p))/\w=w':=by
 by_cases h1:0<=p
 · by_cases h2:p<=3
   · have e:jx p=true:=by grind [jx]
     rw[e];go_enter Tryz.func144,Tryz.ntmps144;go_wp2;go_ret
     simp_all
   · have e:jx p=false:=by grind [jx]
     rw[e];go_enter Tryz.func144,Tryz.ntmps144;go_wp2;go_ret
     simp_all
 · have e:jx p=false:=by grind [jx]
   rw[e];go_enter Tryz.func144,Tryz.ntmps144;go_wp2;go_ret
   simp_all
open Go.RowKit
structure dm (B:Nat) (w:World) where
 world:World
 keeps:Below B w world
theorem gG (w:World):Nonempty (dm w.heap.size w):=⟨⟨w,aK _ _⟩⟩
theorem cA {P:Program} {id:Nat} {Q:Exit->Act->World->Prop} {a:Act} {w:World} {l:List Oper} (hm:P.follows .mixedOrders=true) (hB:Region.lexB .any l.toArray=true)
  (h:wpQuiet P l.toArray (fun w'=>∃x:dm w.heap.size w,w'=x.world) (fun a'=>∀w',(∃x:dm w.heap.size w,w'=x.world)->Q .normal a' w') l a):(Code.region id l.toArray true).wp P Q a w :=
 wp_region_quiet (C:=fun w'=>∃x:dm w.heap.size w,w'=x.world) hm hB ⟨⟨_,(aK _ _).drew⟩,rfl⟩ (by simpa using h)
theorem fH {P:Program} {f:FuncId} {args:Array Value} {v:Value} {w:World} (h:∀W,Calls P f args W fun e w'=>e=.returned v/\Below W.heap.size W w') (x:dm w.heap.size w) :
  Calls P f args x.world fun e w''=>e=.returned v/\∃y:dm w.heap.size w,w''=y.world :=
 (h x.world).mono fun e w'' ⟨he,hb⟩=>⟨he,⟨w'',x.keeps.trans (hb.mono x.keeps.size)⟩,rfl⟩
theorem fD {w:World} (x:dm w.heap.size w) (b o:Nat) (h:b<w.heap.size):x.world.cell? (Ad b o)=w.cell? (Ad b o):=x.keeps.cell (p:=(Ad b o)) h
open Go.RowKit
theorem J5 (ap an SD bp bn bt:Int) (az bz:Bool) (w:World) (h1:-9223372036854775808<=ap+an) (h2:ap+an<=9223372036854775807) (he:bp=ap+an) :
  Calls Tryz.prog 145 #[.agg #[I ap,I an,I SD,.bool az],.agg #[I bp,I bn,I bt,.bool bz]] w fun e w'=>e=.returned (.bool (bt != SD || bz != az))/\Below w.heap.size w w':=by
 obtain⟨W,hW⟩:=ex ((w.alloc (.cells #[I ap,I an,I SD,.bool az] 47)).alloc (.cells #[I bp,I bn,I bt,.bool bz] 47));have hs:W.heap.size=w.heap.size+2:=by simp_all
 have uP:=gG W;have hkc:=@fD W;have c0:∀x:dm W.heap.size W,x.world.cell? (Ad w.heap.size 0)=some (I ap):=fun x=>by rw[hkc x _ _ (by omega),hW];simp
 have c1:∀x:dm W.heap.size W,x.world.cell? (Ad w.heap.size 1)=some (I an):=fun x=>by rw[hkc x _ _ (by omega),hW];simp
 have c2:∀x:dm W.heap.size W,x.world.cell? (Ad w.heap.size 2)=some (I SD):=fun x=>by rw[hkc x _ _ (by omega),hW];simp
 have c3:∀x:dm W.heap.size W,x.world.cell? (Ad w.heap.size 3)=some (.bool az):=fun x=>by rw[hkc x _ _ (by omega),hW];simp
 have d0:∀x:dm W.heap.size W,x.world.cell? (Ad (w.heap.size+1) 0)=some (I bp):=fun x=>by simp_all
 have d2:∀x:dm W.heap.size W,x.world.cell? (Ad (w.heap.size+1) 2)=some (I bt):=fun x=>by simp_all
 have d3:∀x:dm W.heap.size W,x.world.cell? (Ad (w.heap.size+1) 3)=some (.bool bz):=fun x=>by simp_all
 have hbW:Hid (Below w.heap.size w W):=by show Below _ _ _;simp_all [aK,m9]
 have HW:Hid (W=(w.alloc (.cells #[I ap,I an,I SD,.bool az] 47)).alloc (.cells #[I bp,I bn,I bt,.bool bz] 47)):=hW;clear hW hs hkc;have hx:(bp==ap+an)=true:=by simp[he]
 clear he;go_enter Tryz.func145,Tryz.ntmps145;go_wp2_with fail
 rw[<- HW.o];refine cA (by rfl) (by kernel_rfl) ?_
 repeat (first | go_big_quiet_step ((go_at_call 117;exact fH (fun W=>nW _ _ _ _ W h1 h2) _)) | quiet_step ((go_at_call 117;exact fH (fun W=>nW _ _ _ _ W h1 h2) _)))
 refine fK ?_;intro _ hw';obtain⟨x,hw''⟩:=hw';subst hw'';go_wp2
 all_goals go_ret
 all_goals exact⟨by first | (simp[*];done) | (simp[*];grind),hbW.out.trans (x.keeps.mono hbW.out.size)⟩
theorem J4 (ap an SD bp bn bt:Int) (az bz:Bool) (w:World) (h1:-9223372036854775808<=ap+an) (h2:ap+an<=9223372036854775807) (he:¬bp=ap+an) :
  Calls Tryz.prog 145 #[.agg #[I ap,I an,I SD,.bool az],.agg #[I bp,I bn,I bt,.bool bz]] w fun e w'=>e=.returned (.bool (decide (ap+an<bp)))/\Below w.heap.size w w':=by
 obtain⟨W,hW⟩:=ex ((w.alloc (.cells #[I ap,I an,I SD,.bool az] 47)).alloc (.cells #[I bp,I bn,I bt,.bool bz] 47));have hs:W.heap.size=w.heap.size+2:=by simp_all
 have uP:=gG W;have hkc:=@fD W;have c0:∀x:dm W.heap.size W,x.world.cell? (Ad w.heap.size 0)=some (I ap):=fun x=>by rw[hkc x _ _ (by omega),hW];simp
 have c1:∀x:dm W.heap.size W,x.world.cell? (Ad w.heap.size 1)=some (I an):=fun x=>by rw[hkc x _ _ (by omega),hW];simp
 have c2:∀x:dm W.heap.size W,x.world.cell? (Ad w.heap.size 2)=some (I SD):=fun x=>by rw[hkc x _ _ (by omega),hW];simp
 have c3:∀x:dm W.heap.size W,x.world.cell? (Ad w.heap.size 3)=some (.bool az):=fun x=>by rw[hkc x _ _ (by omega),hW];simp
 have d0:∀x:dm W.heap.size W,x.world.cell? (Ad (w.heap.size+1) 0)=some (I bp):=fun x=>by simp_all
 have hbW:Hid (Below w.heap.size w W):=by show Below _ _ _;simp_all [aK,m9]
 have HW:Hid (W=(w.alloc (.cells #[I ap,I an,I SD,.bool az] 47)).alloc (.cells #[I bp,I bn,I bt,.bool bz] 47)):=hW;have hs2:Hid (w.heap.size+2<=W.heap.size):=by grind
 clear hW hs hkc;have hx:(bp==ap+an)=false:=by simp[he]
 clear he;go_enter Tryz.func145,Tryz.ntmps145;go_wp2_with fail
 rw[<- HW.o];refine cA (by rfl) (by kernel_rfl) ?_
 repeat (first | go_big_quiet_step ((go_at_call 117;exact fH (fun W=>nW _ _ _ _ W h1 h2) _)) | quiet_step ((go_at_call 117;exact fH (fun W=>nW _ _ _ _ W h1 h2) _)))
 refine fK ?_;intro _ hw';obtain⟨x,hw''⟩:=hw';subst hw'';have c0x:=c0 x;have c1x:=c1 x;have c2x:=c2 x;have c3x:=c3 x;have d0x:=d0 x;have hsx:Hid (w.heap.size+2<=x.world.heap.size):=gy hs2.out x.keeps.size;have C7:Hid (Below w.heap.size w x.world):=hbW.out.trans (x.keeps.mono hbW.out.size);clear HW c0 c1 c2 c3 d0 uP hbW hs2;obtain⟨V,hV⟩:=ex x.world;rw[<- hV] at c0x c1x c2x c3x d0x hsx C7 ⊢;clear hV;have uP:=gG V;have hkc:=@fD V;have aln:=hsx.out;have c0:∀x:dm V.heap.size V,x.world.cell? (Ad w.heap.size 0)=some (I ap):=fun x=>by grind
 have c1:∀x:dm V.heap.size V,x.world.cell? (Ad w.heap.size 1)=some (I an):=fun x=>by grind
 have c2:∀x:dm V.heap.size V,x.world.cell? (Ad w.heap.size 2)=some (I SD):=fun x=>by grind
 have c3:∀x:dm V.heap.size V,x.world.cell? (Ad w.heap.size 3)=some (.bool az):=fun x=>by grind
 have d0:∀x:dm V.heap.size V,x.world.cell? (Ad (w.heap.size+1) 0)=some (I bp):=fun x=>by grind
 clear hkc aln;go_wp2_with fail
 refine cA (by rfl) (by kernel_rfl) ?_
 repeat (first | go_big_quiet_step ((go_at_call 117;exact fH (fun W=>nW _ _ _ _ W h1 h2) _)) | quiet_step ((go_at_call 117;exact fH (fun W=>nW _ _ _ _ W h1 h2) _)))
 refine fK ?_;intro _ hw';obtain⟨y,hw''⟩:=hw';subst hw'';go_wp2;go_ret;exact⟨rfl,C7.out.trans (y.keeps.mono C7.out.size)⟩
theorem qD (a b:aZ) (w:World) (h1:-9223372036854775808<=a.page+a.bC) (h2:a.page+a.bC<=9223372036854775807) :
  Calls Tryz.prog 145 #[.agg #[I a.page,I a.bC,I a.fI,.bool a.zero],.agg #[I b.page,I b.bC,I b.fI,.bool b.zero]] w fun e w'=>e=.returned (.bool (iF a b))/\Below w.heap.size w w':=by
 unfold iF aZ.mW;split
 · exact J5 _ _ _ _ _ _ _ _ w h1 h2 (by omega)
 · exact J4 _ _ _ _ _ _ _ _ w h1 h2 (by omega)
open Go.RowKit
theorem jT {k:IntKind} {a b:Int} (h:a=b):Ending.returned (.int k a)=.returned (.int k b):=by rw[h]
theorem qY (l:List aZ) (b off cap:Nat) (w:World) (hl:oI w b off l) (hf:∀i,i<l.length->wa (bl l i)) (hn:l.length<=140737488351232) :
  Calls Tryz.prog 98 #[.slice (some (Ad b off)) l.length cap] w fun e w'=>e=.returned (I (bB l))/\Below w.heap.size w w':=by
 by_cases hm:255<l.length
 · have e:bB l=2:=by grind [bB]
   rw[e];have hm':(255:Int)<(l.length:Int):=by omega
   go_enter Tryz.func98,Tryz.ntmps98;go_wp2;go_ret;exact⟨rfl,aK _ _⟩
 · have hm':¬(255:Int)<(l.length:Int):=by omega
   have e:bB l=if lK l then 0 else 1:=by grind [bB]
   have E:Hid (bB l=if lK l then 0 else 1):=e;clear e;go_enter Tryz.func98,Tryz.ntmps98;go_wp2;go_loopw [10] (fun i wr=>∃k:Nat,k<=l.length/\i=I k/\iQ l k=true/\Below w.heap.size w wr) (fun i _=>l.length-(intOf i).toNat)
   case atStart=>exact⟨0,by omega,rfl,rfl,aK _ _⟩
   case round =>
    obtain⟨k,hk,rfl,hg,hb⟩:=hrel;have HG:Hid (iQ l k=true):=hg;clear hg;by_cases hlt:k<l.length
    · obtain⟨c0,c1,c2,c3⟩:=(hl.below hb) k hlt;obtain⟨f1,f2,f3⟩:=hf k hlt;obtain⟨a,ha⟩:=ex (bl l k);rw[<- ha] at c0 c1 c2 c3 f1 f2 f3;have HA:Hid (a=bl l k):=ha;clear ha;by_cases hp:fC a.page a.bC=true
      · by_cases hq:jx a.fI=true
        · obtain⟨W,hW⟩:=ex (wr.alloc (.cells #[I a.page,I a.bC,I a.fI,.bool a.zero] 47));have hs:W.heap.size=wr.heap.size+1:=by rw[hW];simp
          have hbW:Hid (Below w.heap.size w W):=by show Below _ _ _;rw[hW];exact hb.alloc hb.size _
          by_cases YU:k=0
          · have hok:Hid (lJ l k=true):=by show _=true;unfold lJ;rw[<- HA.o,hp,hq,YU];rfl
            have z2:decide (0<k)=false:=by simp;omega
            clear YU;go_wp2_with (first | (go_at_call 143;refine(jF _ _ _ f1 f2).mono ?_;rintro e w' ⟨rfl,rfl⟩) | (go_at_call 144;refine(mE _ _).mono ?_;rintro e w' ⟨rfl,rfl⟩))
            go_quiet (fail)
            go_wp2;go_roundw
            case rel=>exact⟨k+1,by omega,by go_num,MP l k HG.o hok.out,ko (hb.alloc hb.size _) _⟩
            case measure=>simp[intOf];omega
          · have uP:=gG W;have hkc:=@fD W;have hlW:=hl.below hbW.out;have hbl:=hlW.lt k hlt;obtain⟨g0,g1,g2,g3⟩:=hlW (k-1) (by omega);obtain⟨fp1,fp2,fp3⟩:=hf (k-1) (by omega);obtain⟨p,hpd⟩:=ex (bl l (k-1));rw[<- hpd] at g0 g1 g2 g3 fp1 fp2 fp3;have SQ:=Ar l k HG.o (k-1) (by omega);have hps:fC p.page p.bC=true:=by
             unfold lJ at SQ;rw[<- hpd] at SQ;simp only[cR] at SQ;exact SQ.1.1
            have hpb:1<=p.page/\1<=p.bC/\p.bC<=256-p.page:=by simpa [fC] using hps
            have hok:Hid (lJ l k=iF p a):=by show _=_;unfold lJ;rw[<- HA.o,<- hpd,hp,hq];simp[YU]
            have k0:∀x:dm W.heap.size W,x.world.cell? ⟨b,off+(k-1)*4,none⟩=some (I p.page):=fun x=>by rw[hkc x _ _ hbl,g0]
            have k1:∀x:dm W.heap.size W,x.world.cell? ⟨b,off+(k-1)*4+1,none⟩=some (I p.bC):=fun x=>by rw[hkc x _ _ hbl,g1]
            have k2:∀x:dm W.heap.size W,x.world.cell? ⟨b,off+(k-1)*4+2,none⟩=some (I p.fI):=fun x=>by rw[hkc x _ _ hbl,g2]
            have k3:∀x:dm W.heap.size W,x.world.cell? ⟨b,off+(k-1)*4+3,none⟩=some (.bool p.zero):=fun x=>by rw[hkc x _ _ hbl,g3]
            have e0:∀x:dm W.heap.size W,x.world.cell? (Ad wr.heap.size 0)=some (I a.page):=fun x=>by rw[hkc x _ _ (by omega),hW];simp
            have e1:∀x:dm W.heap.size W,x.world.cell? (Ad wr.heap.size 1)=some (I a.bC):=fun x=>by rw[hkc x _ _ (by omega),hW];simp
            have e2:∀x:dm W.heap.size W,x.world.cell? (Ad wr.heap.size 2)=some (I a.fI):=fun x=>by rw[hkc x _ _ (by omega),hW];simp
            have e3:∀x:dm W.heap.size W,x.world.cell? (Ad wr.heap.size 3)=some (.bool a.zero):=fun x=>by rw[hkc x _ _ (by omega),hW];simp
            have HW:Hid (W=wr.alloc (.cells #[I a.page,I a.bC,I a.fI,.bool a.zero] 47)):=hW;have hk1:(1:Int)<=(k:Int):=by omega
            have hk2:0<k:=by omega
            clear hW hs hkc hlW hbl g0 g1 g2 g3 hpd SQ hps hl;by_cases hfo:iF p a=true
            · go_wp2_with (first | (go_at_call 143;refine(jF _ _ _ f1 f2).mono ?_;rintro e w' ⟨rfl,rfl⟩) | (go_at_call 144;refine(mE _ _).mono ?_;rintro e w' ⟨rfl,rfl⟩))
              rw[<- HW.o];refine cA (by kernel_rfl) (by kernel_rfl) ?_
              repeat (first | go_big_quiet_step ((go_at_call 145;exact fH (fun W=>qD p a W (by omega) (by omega)) _)) | quiet_step ((go_at_call 145;exact fH (fun W=>qD p a W (by omega) (by omega)) _)))
              refine fK ?_;intro _ hw';obtain⟨x,hw''⟩:=hw';subst hw'';go_wp2;go_roundw
              case rel=>exact⟨k+1,by omega,by go_num,MP l k HG.o (hok.out.trans hfo),hbW.out.trans (x.keeps.mono hbW.out.size)⟩
              case measure=>simp[intOf];omega
            · have alU:iF p a=false:=by simpa using hfo
              clear hfo;go_wp2_with (first | (go_at_call 143;refine(jF _ _ _ f1 f2).mono ?_;rintro e w' ⟨rfl,rfl⟩) | (go_at_call 144;refine(mE _ _).mono ?_;rintro e w' ⟨rfl,rfl⟩))
              rw[<- HW.o];refine cA (by kernel_rfl) (by kernel_rfl) ?_
              repeat (first | go_big_quiet_step ((go_at_call 145;exact fH (fun W=>qD p a W (by omega) (by omega)) _)) | quiet_step ((go_at_call 145;exact fH (fun W=>qD p a W (by omega) (by omega)) _)))
              refine fK ?_;intro _ hw';obtain⟨x,hw''⟩:=hw';subst hw'';go_wp2;go_ret;exact⟨jT (by rw[E.o,IE l k hlt (hok.out.trans alU)];rfl),hbW.out.trans (x.keeps.mono hbW.out.size)⟩
        · have hq':jx a.fI=false:=by simpa using hq
          clear hq;have hbad:Hid (lJ l k=false):=by show _=false;unfold lJ;rw[<- HA.o,hp,hq'];rfl
          go_wp2_with (first | (go_at_call 143;refine(jF _ _ _ f1 f2).mono ?_;rintro e w' ⟨rfl,rfl⟩) | (go_at_call 144;refine(mE _ _).mono ?_;rintro e w' ⟨rfl,rfl⟩))
          go_ret;exact⟨jT (by rw[E.o,IE l k hlt hbad.out];rfl),hb.alloc hb.size _⟩
      · have hp':fC a.page a.bC=false:=by simpa using hp
        clear hp;have hbad:Hid (lJ l k=false):=by show _=false;unfold lJ;rw[<- HA.o,hp'];rfl
        go_wp2_with (first | (go_at_call 143;refine(jF _ _ _ f1 f2).mono ?_;rintro e w' ⟨rfl,rfl⟩))
        go_ret;exact⟨jT (by rw[E.o,IE l k hlt hbad.out];rfl),hb.alloc hb.size _⟩
    · obtain rfl:k=l.length:=by omega
      go_wp2;go_ret;exact⟨jT (by rw[E.o,show lK l=true from HG.o];rfl),hb⟩
theorem Ap (ao:Option Addr) (cap:Nat) (w:World) :
  Calls Tryz.prog 98 #[.slice ao 0 cap] w fun e w'=>e=.returned (I (bB []))/\Below w.heap.size w w':=by
 have e:bB []=0:=by decide
 rw[e];go_enter Tryz.func98,Tryz.ntmps98;go_wp2;refine vo 1 ?_;rw[vg];go_wp2;go_ret;exact⟨rfl,aK _ _⟩
open Go.RowKit
theorem Ow (l:List aZ) (b off cap:Nat) (w:World) (hl:oI w b off l) (hf:∀i,i<l.length->wa (bl l i)) (hn:l.length<=140737488351232) :
  Calls Tryz.prog 54 #[.slice (some (Ad b off)) l.length cap] w fun e w'=>e=.returned (I (dU l))/\Below w.heap.size w w':=by
 by_cases hc:bB l=0
 · have hlen:=kO l hc;have HC:Hid (dU l=gV l l.length):=by show _=_;grind [dU]
   have HK:Hid (bB l=0):=hc;go_enter Tryz.func54,Tryz.ntmps54;go_wp2_with fail
   refine(qY l b off cap _ hl hf hn).mono ?_;rintro e w1 ⟨rfl,hb1⟩;rw[hc];clear hc;go_wp2;go_loopw [3,11] (fun s i wr=>∃k:Nat,k<=l.length/\i=I k/\s=I (gV l k)/\Below w.heap.size w wr) (fun _ i _=>l.length-(intOf i).toNat)
   case atStart=>exact⟨0,by omega,rfl,rfl,hb1⟩
   case round =>
    obtain⟨k,hk,rfl,rfl,hb⟩:=hrel;have KU:=yg l HK.o k hk;by_cases hlt:k<l.length
    · obtain⟨c0,c1,c2,c3⟩:=(hl.below hb) k hlt;have hsu:Hid (gV l (k+1)=gV l k+(bl l k).bC):=rfl;have hbk:=fG l k (fw l HK.o k hlt);obtain⟨a,ha⟩:=ex (bl l k);rw[<- ha] at c0 c1 c2 c3 hsu hbk;clear ha;go_wp2;go_roundw
      case rel=>exact⟨k+1,by omega,by go_num,by rw[hsu.out],hb.alloc hb.size _⟩
      case measure=>simp[intOf];omega
    · obtain rfl:k=l.length:=by omega
      go_wp2;go_ret;exact⟨jT HC.o.symm,hb⟩
 · have HC:Hid (dU l=0):=by show _=_;grind [dU]
   have hc':(bB l != 0)=true:=by grind
   go_enter Tryz.func54,Tryz.ntmps54;go_wp2_with fail
   refine(qY l b off cap _ hl hf hn).mono ?_;rintro e w1 ⟨rfl,hb1⟩;go_wp2;go_ret;exact⟨jT HC.o.symm,hb1⟩
theorem Si (ao:Option Addr) (cap:Nat) (w:World) :
  Calls Tryz.prog 54 #[.slice ao 0 cap] w fun e w'=>e=.returned (I (dU []))/\Below w.heap.size w w':=by
 have e:dU []=0:=by decide
 have e2:bB []=0:=by decide
 rw[e];go_enter Tryz.func54,Tryz.ntmps54;go_wp2_with fail
 refine(Ap ao cap _).mono ?_;rintro e w1 ⟨rfl,hb1⟩;rw[e2];go_wp2;refine vo 1 ?_;rw[vg];go_wp2;go_ret
 simp_all
end Go.Proofs.YtpgifpeohlllfaaGreat
