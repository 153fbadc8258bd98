import Derived.Deep.AppendLies
import Derived.Deep.Upon
import Derived.WalkLawsBesides
import Derived.WalkSpells
import Derived.BigQuiet
import Derived.Lib.Endian
import Derived.Lib.EndianBits
import Derived.Lib.Walk
import Derived.Lib.BufferWrite
set_option maxHeartbeats 20000000
set_option linter.unusedVariables false
set_option maxRecDepth 100000
set_option linter.unusedSimpArgs false
namespace Go.Proofs.YtlgoihmkgaaemaaGreat
theorem ω{p:Prop}(h:p:=by omega):p:=h
theorem ξ{p:Prop}(h:p:=by simp):p:=h
theorem κ{p:Prop}(h:p:=by kernel_rfl):p:=h
theorem ρ{p:Prop}(h:p:=by rfl):p:=h
theorem Δ{p:Prop}(h:p:=by decide):p:=h
theorem Γ{p:Prop}(h:p:=by grind):p:=h
abbrev I (n : Int) : Value := .int .i64 n
abbrev Nl : Value := .slice none 0 0
abbrev Ad (b o : Nat) : Addr := ⟨b, o, none⟩
theorem ex {A : Type} (e : A) : ∃ n, n = e := ⟨e, rfl⟩
theorem _root_.Go.RowKit.Hid.o {p : Prop} (h : Go.RowKit.Hid p) : p := h.out
abbrev aK:=@Nat.le_refl
abbrev aN:=@Go.RowKit.Below.refl
abbrev cB:=@List.getD_eq_getElem?_getD
abbrev aB:=@if_neg
abbrev aC:=@if_pos
abbrev cK:=@Bool.and_eq_true
abbrev fF:=@List.getElem?_eq_getElem
abbrev dV:=@Nat.lt_of_lt_of_le
abbrev b9:=@Go.bodyPost_ret
abbrev fY:=@Go.World.size_alloc
abbrev dE:=@List.length_set
abbrev ft:=@List.length_append
abbrev gT:=@beq_eq_false_iff_ne
abbrev fX:=@decide_eq_true_eq
abbrev jL:=@Go.World.block_lt_of_cell?
abbrev fI:=@List.length_map
abbrev fE:=@decide_eq_false
abbrev fD:=@decide_eq_true
abbrev o9:=@List.eq_nil_of_length_eq_zero
abbrev eJ:=@Nat.le_trans
abbrev jY:=@of_decide_eq_true
abbrev jW:=@Int.toNat_natCast
abbrev iW:=@Nat.not_lt_zero
abbrev dC:=@congrArg
abbrev kJ:=@List.mem_append
abbrev uI:=@List.setIfInBounds_toArray
abbrev nB:=@List.all_eq_true
abbrev o8:=@List.flatMap_cons
abbrev pT:=@Go.World.ownsRow_nil
abbrev o7:=@List.length_take
abbrev q9:=@List.set_cons_succ
abbrev lB:=@Nat.add_zero
abbrev yx:=@List.getElem?_append_right
abbrev sK:=@List.set_cons_zero
abbrev tH:=@List.flatMap_append
abbrev qJ:=@List.take_length
abbrev nj:=@Nat.zero_add
abbrev pS:=@List.set_set
abbrev xu:=@List.length_replicate
abbrev mM:=@Go.wpQuiet_nil
abbrev kI:=@Go.info_parts
abbrev Uj:=@List.findIdx?_eq_some_iff_getElem
abbrev tG:=@List.length_cons
abbrev uH:=@List.append_assoc
abbrev sJ:=@Go.IntWalk.i64_in
abbrev sI:=@Go.RowKit.Below.alloc
abbrev vQ:=@List.getElem?_map
abbrev tF:=@List.map_append
abbrev Ag:=@List.pairwise_cons
abbrev qZ:=@List.mem_cons
abbrev Eb:=@List.getElem?_append_left
abbrev vO:=@List.mem_flatMap
abbrev xt:=@List.getElem?_set
abbrev tE:=@Bool.true_and
abbrev qI:=@Nat.le_succ
abbrev qH:=@Prod.mk.inj
abbrev Gs:=@List.mem_cons_self
abbrev vN:=@List.mem_range
abbrev Ea:=@List.set_append_right
abbrev Gr:=@List.getElem?_eq_none
abbrev D9:=@List.length_singleton
abbrev tD:=@List.mem_map
abbrev Ui:=@List.take_succ_eq_append_getElem
abbrev Af:=@List.ext_getElem?
abbrev xq:=@Go.below_drewN
abbrev KH:=@Go.World.cell?_of_block
abbrev Gq:=@Nat.lt_of_succ_lt_succ
abbrev aja:=@List.pairwise_iff_getElem
abbrev yw:=@Bool.false_and
abbrev Cj:=@Go.Addr.add_lit
abbrev D8:=@of_decide_eq_false
abbrev Ci:=@List.not_mem_nil
abbrev uG:=@Nat.add_mul
abbrev Gp:=@List.mem_cons_of_mem
abbrev KG:=@List.getElem?_set_self
abbrev ai9:=@List.take_add_one
abbrev D7:=@Classical.not_not
abbrev Ch:=@List.append_nil
abbrev vM:=@Int.le_refl
abbrev NT:=@List.exists_mem_of_ne_nil
abbrev KF:=@Go.RowKit.ownsRow_setCell_below
abbrev NR:=@List.take_append_drop
abbrev D5:=@List.cons_append
abbrev Gn:=@List.length_drop
abbrev NQ:=@Option.isSome_iff_exists
abbrev yu:=@Go.bodyPost_end
abbrev xo:=@Go.setRow_heap
abbrev ai8:=@Go.Lib.byteCells_length
abbrev KE:=@List.pairwise_append
abbrev KC:=@List.mem_of_mem_take
abbrev NP:=@List.length_eq_zero_iff
abbrev Gm:=@not_true_eq_false
abbrev Gl:=@not_false_eq_true
abbrev qY:=@if_false
abbrev aa4:=@List.getElem_of_mem
abbrev NN:=@Go.ByteArray.toList_eq
abbrev Cg:=@Nat.add_assoc
abbrev Cf:=@List.map_cons
abbrev yt:=@Nat.zero_le
abbrev Gk:=@List.getElem_mem
abbrev Kz:=@Go.wpList_append_lies
abbrev Ky:=@Bool.false_eq_true
abbrev NM:=@List.range_succ
abbrev NL:=@List.set_append_left
abbrev aa3:=@Go.DataW.weights_mem_each
abbrev ai7:=@List.take_of_length_le
abbrev D4:=@Nat.sub_self
abbrev Uh:=@ByteArray.size_extract
abbrev Ug:=@List.append_eq_nil_iff
abbrev Kw:=@Nat.min_eq_left
abbrev Uf:=@List.eq_nil_or_concat
abbrev Ue:=@List.concat_eq_append
abbrev Ud:=@Go.run_convert_bytes_arg
abbrev Uc:=@ByteArray.size_append
abbrev aa2:=@Int.tdiv_eq_ediv_of_nonneg
abbrev D3:=@Nat.min_def
abbrev Ub:=@List.mem_erase_of_ne
abbrev Ua:=@Bool.or_eq_false_iff
abbrev Gj:=@Int.add_zero
abbrev T9:=@Go.IntKind.wrap_i64
abbrev aa1:=@List.getElem?_eq_some_iff
abbrev aa0:=@List.findIdx?_eq_none_iff
abbrev aaZ:=@List.mem_of_find?_eq_some
abbrev aaY:=@List.map_congr_left
abbrev NK:=@Go.wpList_load_row
abbrev NJ:=@List.length_nil
abbrev vK:=@if_true
abbrev NI:=@List.cons.injEq
abbrev T8:=@List.getElem?_drop
abbrev T7:=@Nat.sub_add_cancel
abbrev T6:=@List.filter_append
abbrev T5:=@Nat.add_sub_cancel
abbrev NH:=@Go.wp_loop_rounds
abbrev NG:=@Go.run_underlying
abbrev ND:=@List.drop_drop
abbrev aaX:=@List.Pairwise.sublist
abbrev T4:=@Go.RowKit.Below.cell
abbrev Gi:=@beq_iff_eq
abbrev T3:=@Nat.lt_succ_self
abbrev TZ:=@List.ext_getElem
abbrev TY:=@List.getElem_map
abbrev TX:=@Nat.zero_lt_succ
abbrev TW:=@Nat.succ_lt_succ
abbrev ai6:=@List.eq_nil_iff_forall_not_mem
abbrev ai5:=@Nat.and_two_pow_sub_one_eq_mod
abbrev aoj:=@List.getElem?_of_mem
abbrev aaW:=@Nat.mul_le_mul_right
abbrev aaV:=@List.mem_of_mem_drop
abbrev aaU:=@Go.wpList_mapUpdate_own
abbrev TV:=@Bool.or_eq_true
abbrev TU:=@Bool.eq_iff_iff
abbrev ai4:=@List.dropLast_concat_getLast
abbrev aaT:=@List.mem_map_of_mem
abbrev aoi:=@Go.run_firstCells_some
abbrev aaS:=@List.drop_succ_cons
abbrev aaR:=@List.take_succ_cons
abbrev NC:=@Nat.zero_mul
abbrev NA:=@Nat.le_of_eq
abbrev Nz:=@Nat.lt_or_ge
abbrev Ny:=@List.map_set
abbrev Nw:=@Nat.le_of_lt
abbrev TT:=@Go.heap_alloc_new
abbrev TS:=@Bool.and_false
abbrev TR:=@List.take_take
abbrev ai3:=@List.takeWhile_cons_of_pos
abbrev ai2:=@List.takeWhile_cons_of_neg
abbrev aaQ:=@List.map_singleton
abbrev aaP:=@Option.isSome_none
abbrev aaO:=@Option.isSome_some
abbrev aoh:=@List.drop_eq_getElem_cons
abbrev ai1:=@List.mem_or_eq_of_mem_set
abbrev ai0:=@Array.getElem?_eq_getElem
abbrev Nv:=@Go.rounds_succ
abbrev aaN:=@Go.Result.andThen_ok
abbrev aaM:=@List.all_eq_false
abbrev aaL:=@Decidable.not_not
abbrev aog:=@Int.emod_eq_of_lt
abbrev aaK:=@Bool.not_eq_true'
abbrev aaJ:=@Go.wpList_store_row
abbrev aof:=@Go.IntKind.wrap_u64
abbrev aaI:=@List.drop_length
abbrev TQ:=@List.map_map
abbrev TP:=@Nat.succ_mul
abbrev TN:=@Nat.add_comm
abbrev aaH:=@Option.some.inj
abbrev aaG:=@List.all_append
abbrev aaF:=@List.mem_filter
abbrev Kv:=@or_false
abbrev aaE:=@Go.cell_of_row
abbrev TM:=@Nat.mul_one
abbrev aaD:=@Bool.not_false
abbrev aaC:=@Array.mk.injEq
open Go.RowKit
structure pV where
 page:Int
 aD:Int
 data:ByteArray
 wr:Bool
 ex:Bool
structure IH where
 name:ByteArray
 pos:Int
structure abh where
 pos:Int
 name:ByteArray
 add:Int
structure sO where
 name:ByteArray
 needs:List ByteArray
 fA:List pV
 syms:List IH
 lV:List abh
 entry:Int
def U7:ByteArray:=⟨#[]⟩
def Lu:pV:=⟨0,0,U7,false,false⟩
def U5:IH:=⟨U7,0⟩
def ajt:abh:=⟨0,U7,0⟩
def iy (l:List ByteArray) (i:Nat):ByteArray:=l.getD i U7
def cQ (l:List pV) (i:Nat):pV:=l.getD i Lu
def nu (l:List IH) (i:Nat):IH:=l.getD i U5
def ji (l:List abh) (i:Nat):abh:=l.getD i ajt
theorem xM {α:Type} (p:α->Bool) (d:α):∀l:List α,(∀i,i<l.length->p (l.getD i d)=true)->l.all p=true
 | [],_=>rfl
 | a::r,h=>by
  have h0:p a=true:=h 0 ξ;have hr:=xM p d r (λi hi=>h (i+1) Γ)
  grind
theorem N9 {α:Type} (p:α->Bool) (d:α):∀(l:List α) (i:Nat),i<l.length->l.all p=true->p (l.getD i d)=true
 | a::r,0,_,h=>by grind
 | a::r,i+1,hi,h=>by
  grind
theorem ye {α:Type} (p:α->Bool) (d:α) (l:List α) (i:Nat) (hi:i<l.length) (h:p (l.getD i d)=false):l.all p=false:=by
 grind
def xx (n:Int):Bool:=decide (97<=n/\n<=122) || (decide (48<=n/\n<=57) || decide (n=95))
def jM (s:ByteArray):Bool:=decide (1<=s.size/\s.size<=12)&&s.data.toList.all (λc=>xx c.toNat)
variable {w w':World} {b off:Nat} (s:ByteArray) (k size o:Nat) (t:ByteArray)
theorem ZP (h:k<s.size):s.data.toList.getD k 0=s[k]:=by
 have h':k<s.data.toList.length:=by simp_all
 rw[cB,fF h'];rfl
theorem ahh (h1:1<=s.size) (h2:s.size<=12) (h:∀k (hk:k<s.size),xx s[k].toNat=true):jM s=true:=by
 unfold jM;rw[fD ⟨h1,h2⟩,tE];refine xM _ 0 _ (λi hi=>?_)
 grind [Lib.size_eq,ZP]
theorem akp (hk:k<s.size) (h:xx s[k].toNat=false):jM s=false:=by
 unfold jM;rw[ye _ 0 s.data.toList k (by simp_all) (by grind [ZP]),TS]
theorem U8 (h:¬(1<=s.size/\s.size<=12)):jM s=false:=by
 grind [jM]
def nC (r:abh):Bool:=decide (r.name.size=0) || jM r.name
def N8 (i:sO):Bool:=jM i.name&&(i.needs.all jM&&(i.syms.all (λy=>jM y.name)&&i.lV.all nC))
def Fz (i:sO):Bool:=decide (1<=i.fA.length/\i.fA.length<=6/\i.needs.length<=4/\i.syms.length<=12/\i.lV.length<=16)
def lM (s:pV):Bool:=decide (0<=s.page/\1<=s.aD/\s.page+s.aD<=255/\(s.data.size:Int)<=s.aD*16)
def KM (i:sO):Bool:=i.fA.all lM
def U6 (l:List pV) (k:Nat):Bool:=k==0 || decide ((cQ l (k-1)).page+(cQ l (k-1)).aD<=(cQ l k).page)
def sN (l:List pV):Nat->Bool
 | 0=>true
 | k+1=>sN l k&&U6 l k
def C9 (l:List pV):Bool:=sN l l.length
def oM (l:List ByteArray):Nat->Bool
 | 0=>true
 | k+1=>oM l k&&!(l.take k).contains (iy l k)
def ry (l:List ByteArray):Bool:=oM l l.length
def N7 (i:sO):Bool:=C9 i.fA&&(ry i.needs&&ry (i.syms.map (·.name)))
def uJ (s:pV) (a:Int):Bool:=decide (s.page*16<=a/\a<(s.page+s.aD)*16)
def vT:List pV->Int->Option pV
 | [],_=>none
 | s::r,a=>if uJ s a then some s else vT r a
def eH (l:List pV) (a:Int):Bool:=(vT l a).isSome
def wV (l:List pV) (a:Int):Bool:=eH l a&&(eH l (a+1)&&(eH l (a+2)&&(eH l (a+3)&&(eH l (a+4)&&(eH l (a+5)&&(eH l (a+6)&&eH l (a+7)))))))
def tK (i:sO) (k:Nat):Bool:=(k==0 || decide ((ji i.lV (k-1)).pos+8<=(ji i.lV k).pos))&&wV i.fA (ji i.lV k).pos
def mS (i:sO):Nat->Bool
 | 0=>true
 | k+1=>mS i k&&tK i k
def Fy (i:sO):Bool:=match vT i.fA i.entry with
 | some s=>s.ex&&decide (i.entry%8=0)
 | none=>false
def CY (i:sO):Bool:=i.syms.all (λy=>eH i.fA y.pos)&&(mS i i.lV.length&&Fy i)
def gQ (i:sO):Int:=if !N8 i then 4 else if !Fz i then 2 else if !KM i then 3 else if !N7 i then 5 else if !CY i then 6 else 0
def Gy (w:World) (b off:Nat) (l:List ByteArray):Prop:=∀i,i<l.length->w.cell? (Ad b (off+i))=some (.string (iy l i))
def xN (w:World) (b off:Nat) (l:List pV):Prop:=∀i,i<l.length ->
 w.cell? (Ad b (off+i*5))=some (I (cQ l i).page)/\w.cell? (Ad b (off+i*5+1))=some (I (cQ l i).aD) /\
 w.cell? (Ad b (off+i*5+2))=some (.string (cQ l i).data)/\w.cell? (Ad b (off+i*5+3))=some (.bool (cQ l i).wr)/\w.cell? (Ad b (off+i*5+4))=some (.bool (cQ l i).ex)
def EL (w:World) (b off:Nat) (l:List IH):Prop:=∀i,i<l.length ->
 w.cell? (Ad b (off+i*2))=some (.string (nu l i).name)/\w.cell? (Ad b (off+i*2+1))=some (I (nu l i).pos)
def MJ (w:World) (b off:Nat) (l:List abh):Prop:=∀i,i<l.length ->
 w.cell? (Ad b (off+i*3))=some (I (ji l i).pos)/\w.cell? (Ad b (off+i*3+1))=some (.string (ji l i).name)/\w.cell? (Ad b (off+i*3+2))=some (I (ji l i).add)
def cH (n:Int):Prop:=-9223372036854775808<=n/\n<=9223372036854775807
def bD (n:Nat):Prop:=n<=140737488351232
def abj (s:pV):Prop:=cH s.page/\cH s.aD/\bD s.data.size
def ahi (s:IH):Prop:=bD s.name.size/\cH s.pos
def ahj (s:abh):Prop:=cH s.pos/\bD s.name.size/\cH s.add
structure BH (i:sO):Prop where
 name:bD i.name.size
 needs:bD i.needs.length
 need:∀k,k<i.needs.length->bD (iy i.needs k).size
 fA:bD i.fA.length
 seg:∀k,k<i.fA.length->abj (cQ i.fA k)
 syms:bD i.syms.length
 sym:∀k,k<i.syms.length->ahi (nu i.syms k)
 lV:bD i.lV.length
 rel:∀k,k<i.lV.length->ahj (ji i.lV k)
 entry:cH i.entry
def dG {α:Type} (lie:World->Nat->Nat->List α->Prop) (w:World) (ao:Option Addr) (l:List α):Prop:=0<l.length->∃b off,ao=some (Ad b off)/\b<w.heap.size/\lie w b off l
structure II where
 an:Option Addr
 cn:Nat
 ag:Option Addr
 cg:Nat
 ay:Option Addr
 cy:Nat
 ar:Option Addr
 cr:Nat
structure l9 (w:World) (a:II) (i:sO):Prop where
 needs:dG Gy w a.an i.needs
 fA:dG xN w a.ag i.fA
 syms:dG EL w a.ay i.syms
 lV:dG MJ w a.ar i.lV
def gI (a:II) (i:sO):Array Value:=#[.string i.name,.slice a.an i.needs.length a.cn,.slice a.ag i.fA.length a.cg,.slice a.ay i.syms.length a.cy,.slice a.ar i.lV.length a.cr,I i.entry]
theorem cJ (hb:Below w.heap.size w w') {o:Nat} (h:b<w.heap.size):w'.cell? (Ad b o)=w.cell? (Ad b o):=hb.cell (p:=(Ad b o)) h
theorem dG.below {α:Type} {lie:World->Nat->Nat->List α->Prop} (di:∀{w w':World} {b off:Nat} {l:List α},Below w.heap.size w w'->b<w.heap.size->lie w b off l->lie w' b off l) {ao:Option Addr} {l:List α} (h:dG lie w ao l) (hb:Below w.heap.size w w'):dG lie w' ao l:=λhl=>by
 obtain⟨b,off,e,hlt,hh⟩:=h hl
 grind [Nat.lt_of_lt_of_le,Below.size]
theorem abg {l:List ByteArray} (hb:Below w.heap.size w w') (hlt:b<w.heap.size) (h:Gy w b off l):Gy w' b off l:=λi hi=>(cJ hb hlt).trans (h i hi)
theorem yB {l:List pV} (hb:Below w.heap.size w w') (hlt:b<w.heap.size) (h:xN w b off l):xN w' b off l:=λi hi=>by
 obtain⟨c0,c1,c2,c3,c4⟩:=h i hi
 grind [cJ]
theorem Qy {l:List IH} (hb:Below w.heap.size w w') (hlt:b<w.heap.size) (h:EL w b off l):EL w' b off l:=λi hi=>by
 obtain⟨c0,c1⟩:=h i hi
 grind [cJ]
theorem U9 {l:List abh} (hb:Below w.heap.size w w') (hlt:b<w.heap.size) (h:MJ w b off l):MJ w' b off l:=λi hi=>by
 obtain⟨c0,c1,c2⟩:=h i hi
 grind [cJ]
theorem l9.below {a:II} {i:sO} (h:l9 w a i) (hb:Below w.heap.size w w'):l9 w' a i :=
 ⟨dG.below (lie:=Gy) (λhb hlt h=>abg hb hlt h) h.needs hb,dG.below (lie:=xN) (λhb hlt h=>yB hb hlt h) h.fA hb,dG.below (lie:=EL) (λhb hlt h=>Qy hb hlt h) h.syms hb,dG.below (lie:=MJ) (λhb hlt h=>U9 hb hlt h) h.lV hb⟩
structure aX where
 page:Int
 aD:Int
 jP:Int
 zero:Bool
variable (l G:List aX) (a:aX)
def aX.zC (a:aX):Int:=a.page+a.aD
def Ab:aX:=⟨0,0,0,false⟩
def bw (l:List aX) (i:Nat):aX:=l.getD i Ab
def gW (p n:Int):Bool:=decide (1<=p/\1<=n/\n<=256-p)
def ni (p:Int):Bool:=decide (0<=p/\p<=3)
def nW (a b:aX):Bool:=if b.page=a.zC then (b.jP != a.jP || b.zero != a.zero) else decide (a.zC<b.page)
def Ae (w:World) (b iL:Nat) (l:List aX):Prop:=∀i,i<l.length ->
 w.cell? (Ad b (iL+i*4))=some (I (bw l i).page)/\w.cell? (Ad b (iL+i*4+1))=some (I (bw l i).aD) /\
 w.cell? (Ad b (iL+i*4+2))=some (I (bw l i).jP)/\w.cell? (Ad b (iL+i*4+3))=some (.bool (bw l i).zero)
def EJ (a:aX):Prop:=(-9223372036854775808<=a.page/\a.page<=9223372036854775807)/\(-9223372036854775808<=a.aD/\a.aD<=9223372036854775807)/\(-9223372036854775808<=a.jP/\a.jP<=9223372036854775807)
def pF (l:List aX) (i:Nat):Bool:=gW (bw l i).page (bw l i).aD&&ni (bw l i).jP&&(i==0 || nW (bw l (i-1)) (bw l i))
def mv (l:List aX):Nat->Bool
 | 0=>true
 | k+1=>mv l k&&pF l k
def wM (l:List aX):Bool:=mv l l.length
def bj (l:List aX):Int:=if 255<l.length then 2 else if wM l then 0 else 1
theorem IC (l:List aX):∀(k n:Nat),k<=n->mv l k=false->mv l n=false
 | k,0,h,hk=>by grind
 | k,n+1,h,hk=>by
  by_cases e:k=n+1
  . grind
  simp[mv,IC l k n ω hk]
theorem Ic (l:List aX):∀(n:Nat),mv l n=true->∀i,i<n->pF l i=true
 | 0,_,i,hi=>by omega
 | n+1,h,i,hi=>by
  simp only[mv,cK] at h;by_cases e:i=n
  . grind
  exact Ic l n h.1 i ω
theorem Ae.lt {iL:Nat} {l:List aX} (h:Ae w b iL l) (i:Nat) (hi:i<l.length):b<w.heap.size :=
 jL w _ (h i hi).1
theorem Ae.below {iL:Nat} {l:List aX} (h:Ae w b iL l) (hb:Below w.heap.size w w'):Ae w' b iL l:=λi hi=>by
 have hlt:=h.lt i hi;obtain⟨h0,h1,h2,h3⟩:=h i hi
 grind [Below.cell]
theorem Rf (k:Nat) (hk:k<l.length) (h:pF l k=false):wM l=false :=
 IC l (k+1) l.length ω (by simp[mv,h])
theorem Xp (k:Nat) (h:mv l k=true) (h':pF l k=true):mv l (k+1)=true:=by grind [mv]
def jt (a:aX) (p:Int):Bool:=decide (a.page<=p/\p<a.zC)
def b6:List aX->Int->aX×Bool
 | [],_=>(Ab,false)
 | a::r,p=>if jt a p then (a,true) else b6 r p
def aV (l:List aX) (p:Int):aX×Bool:=if bj l=0 then b6 l p else (Ab,false)
def mL (l:List aX):Nat->Int
 | 0=>0
 | k+1=>mL l k+(bw l k).aD
def bf (l:List aX):Int:=if bj l=0 then mL l l.length else 0
theorem wN:∀(l:List aX) (p:Int),(∀i,i<l.length->jt (bw l i) p=false)->b6 l p=(Ab,false)
 | [],_,_=>rfl
 | a::r,p,h=>by
  have h0:jt a p=false:=h 0 ξ;have hr:∀i,i<r.length->jt (bw r i) p=false:=λi hi=>h (i+1) Γ
  simp[b6,h0,wN r p hr]
theorem vJ:∀(l:List aX) (p:Int) (k:Nat),k<l.length->(∀i,i<k->jt (bw l i) p=false)->jt (bw l k) p=true->b6 l p=(bw l k,true)
 | [],_,k,hk,_,_=>by grind
 | a::r,p,0,hk,_,h1=>by
  grind [b6,bw]
 | a::r,p,k+1,hk,h,h1=>by
  have h0:jt a p=false:=h 0 ω;have hr:=vJ r p k Γ (λi hi=>h (i+1) ω) h1
  grind [b6,bw]
theorem gP (h:bj l=0) (i:Nat) (hi:i<l.length):pF l i=true:=by
 unfold bj at h;split at h
 . simp at h
 split at h
 . exact Ic l l.length (by assumption) i hi
 omega
theorem jF (h:bj l=0):l.length<=255:=by
 grind [bj]
theorem ig (i:Nat) (h:pF l i=true):1<=(bw l i).page/\1<=(bw l i).aD/\(bw l i).aD<=256-(bw l i).page/\0<=(bw l i).jP/\(bw l i).jP<=3:=by
 grind [pF,gW,ni]
theorem EI (l:List aX) (h:bj l=0):∀k,k<=l.length->0<=mL l k/\mL l k<=255*k
 | 0,_=>by simp[mL]
 | k+1,hk=>by
  have ih:=EI l h k ω;have ho:=ig l k (gP l h k ω)
  grind [mL]
theorem Kj:∀l:List UInt8,Lib.leNat l<256 ^ l.length
 | []=>by simp[Lib.leNat]
 | b::r=>by
  have h:=Kj r;have hb:b.toNat<256:=b.toNat_lt
  grind [Lib.leNat]
theorem adq (l:List UInt8) (h:l.length<=7):Lib.leNat l<72057594037927936:=by
 have h1:=Kj l;have h2:256 ^ l.length<=256 ^ 7:=Nat.pow_le_pow_right Δ h;omega
theorem adr (h0:0<k) (hk:k<=s.size):s.data.toList.drop (k-1)=s[k-1]::s.data.toList.drop k:=by
 have h:k-1<s.data.toList.length:=by grind [Lib.size_eq]
 have e:=aoh h;rw[show k-1+1=k from by omega] at e;exact e
theorem Zz (h0:0<k) (hk:k<=s.size) :
  ((Lib.leNat (s.data.toList.drop (k-1)):Nat):Int)=(s[k-1].toNat:Int)+256*(Lib.leNat (s.data.toList.drop k):Nat):=by
 grind [adr,Lib.leNat]
theorem als (N b:Int) (h0:0<=N) (h1:N<72057594037927936) (b0:0<=b) (b1:b<256) :
  bits .or .u64 (IntKind.u64.wrap (N*256)) (IntKind.u64.wrap b)=b+256*N:=by
 rw[u64_wrap_id _ ω ω,u64_wrap_id b b0 ω];have hc:bits .or .u64 (N*256) b=bits .or .u64 b (N*256):=by grind [bits]
 grind [u64_or8]
def BB (n:Int) (k:Nat):Int:=n/256 ^ k
def kz (n:Int):Nat:=(n%18446744073709551616).toNat
theorem agk (n:Int):BB n 0=n:=by simp[BB]
theorem agl (n:Int) (k:Nat):BB n k/256=BB n (k+1):=by
 grind [BB,Int.ediv_ediv_of_nonneg]
theorem BC:∀(k v:Nat),Lib.leBytes (k+1) v=Lib.leBytes k v++[(v/256 ^ k%256).toUInt8]
 | 0,v=>by simp[Lib.leBytes]
 | k+1,v=>by
  rw[Lib.leBytes,BC k (v/256)]
  grind [Lib.leBytes,Nat.div_div_eq_div_mul]
theorem agm (n:Int) (k:Nat) (h:k<8):BB n k%256=((kz n/256 ^ k%256:Nat):Int):=by
 unfold BB kz
 match k,h with
 | 0,_=>omega
 | 1,_=>omega
 | 2,_=>omega
 | 3,_=>omega
 | 4,_=>omega
 | 5,_=>omega
 | 6,_=>omega
 | 7,_=>omega
theorem P9 (n:Int) (k:Nat) (h:k<8):strOfNums [BB n k%256]=⟨#[(kz n/256 ^ k%256).toUInt8]⟩:=by
 grind [agm,strOfNums]
theorem adp (a b:List UInt8):(⟨a.toArray⟩:ByteArray)++⟨b.toArray⟩=⟨(a++b).toArray⟩:=ByteArray.mk_append_mk a b
def Fg (size k V:Nat):List Value:=Lib.byteCells (Lib.leBytes k V)++List.replicate (size-k) (.int .u8 0)
theorem agn (V:Nat):Fg size 0 V=List.replicate size (.int .u8 0):=by rfl
theorem aiU (k V:Nat) (h:k<size):(Fg size k V)[k]?=some (.int .u8 0):=by
 grind [Fg,Lib.byteCells_length,Lib.leBytes_length]
theorem Xh (x:Nat):(((x%256).toUInt8.toNat:Nat):Int)=(x:Int)%256:=by
 simp_all
theorem aiT (k V:Nat) (h:k<size):(Fg size k V).set k (.int .u8 (((V/256 ^ k:Nat):Int)%256))=Fg size (k+1) V:=by
 unfold Fg;rw[Ea _ _ (by grind [Lib.byteCells_length,Lib.leBytes_length]),ai8,Lib.leBytes_length,D4];obtain⟨m,hm⟩:∃m,size-k=m+1:=⟨size-k-1,ω⟩
 grind [BC,Lib.byteCells,Xh]
theorem ago (V:Nat):Fg size size V=Lib.byteCells (Lib.leBytes size V):=by simp[Fg]
theorem aiV (n:Int) (k:Nat):((kz n/256 ^ k:Nat):Int)/256=((kz n/256 ^ (k+1):Nat):Int):=by
 rw[Nat.pow_succ,<- Nat.div_div_eq_div_mul];omega
theorem xX (l:List UInt8):strOfNums (l.map λb=>(b.toNat:Int))=⟨l.toArray⟩:=by
 simp only[strOfNums,TQ];congr 1;congr 1;induction l with
 | nil=>rfl
 | cons b r ih=>simp[ih]
theorem aiS (n:Int):IntKind.u64.wrap n=((kz n:Nat):Int):=by
 grind [IntKind.wrap_u64,kz]
theorem Gb (l:List UInt8) (i:Nat) (h:i<l.length):(Lib.byteCells l)[i]?=some (.int .u8 ((l.map λb=>(b.toNat:Int)).getD i 0)):=by
 simp[Lib.byteCells,h]
theorem alu (n:Int) (h:(Lit.int .i64 n).wf=true):-9223372036854775808<=n/\n<=9223372036854775807:=by
 grind [Lit.wf,IntKind.min,IntKind.max,IntKind.signed,IntKind.bits]
open Go.RowKit Go.Lib
theorem Bk (P:Program) (g o:Nat) (t:TypeId) (m1 m2:Nat):∀(vs:List Value) (i:Nat) (cur:Array Value) (w:World),w.heap[g]?=some (.cells cur t (m1,m2))->cur.size<=m1->o+i+vs.length<=cur.size->(∀v∈vs,v.oneCell'=true) ->
  (storeCells (Ad g o) vs i).run P w=.ok () (w.setRow g (cur.toList.take (o+i)++vs++cur.toList.drop (o+i+vs.length)).toArray)
 | [],i,cur,w,hg,_,_,_=>by
  simp only[storeCells,Ch,NJ,lB,NR,Array.toArray_toList];rw[setRow_self w g cur t (m1,m2) hg];rfl
 | v::rest,i,cur,w,hg,hm,hl,h1=>by
  have hi:o+i<cur.size:=by grind
  have A:((Ad g o):Addr).add i=(Ad g (o+i)):=by grind [Addr.add]
  have b:w.cell? (Ad g (o+i))=some cur[o+i]:=by grind [World.cell?]
  have y:w.frozen? (Ad g (o+i))=false:=by grind [World.frozen?]
  have q:(store (((Ad g o):Addr).add i) v).run P w=.ok () (w.setRow g (cur.setIfInBounds (o+i) v)):=by
   grind [run_store,setCell_eq_setRow]
  have ih:=Bk P g o t m1 m2 rest (i+1) (cur.setIfInBounds (o+i) v) (w.setRow g (cur.setIfInBounds (o+i) v)) (xo w g cur _ t _ hg) Γ Γ (λx hx=>h1 x (by simp[hx]));simp only[storeCells,Sem.run_bind,q,aaN,ih,setRow_setRow];congr 3;have e:=list_seg_step cur.toList (o+i) v rest ω
  simp_all [Cg]
theorem Xi {P:Program} (w:World) (dT sT ty elem:TypeId) (g o dLen dCap:Nat) (s:ByteArray) (cur:Array Value) (t:TypeId) (m1 m2:Nat)
  (hu:P.underlying dT=some (.slice elem)) (hs:(P.info? elem).map (·.size)=some 1) (hg:w.heap[g]?=some (.cells cur t (m1,m2))) (hm:cur.size<=m1) (hle:s.size<=dLen) (hfit:o+s.size<=cur.size) :
  (Builtin.copy_ #[dT,sT] ty #[.slice (some (Ad g o)) dLen dCap,.string s]).run P w =
   .ok (goInt s.size) (w.setRow g (cur.toList.take o++Lib.byteCells s.data.toList++cur.toList.drop (o+s.size)).toArray):=by
 have y:(Lib.byteCells s.data.toList).length=s.size:=by rw[ai8,<- size_eq]
 have q:=Bk P g o t m1 m2 (Lib.byteCells s.data.toList) 0 cur w hg hm ω (Lib.byteCells_one _);have A:Nat.min s.size dLen=s.size:=Kw hle;have B:List.take s.size (List.map (λb:UInt8=>Value.int IntKind.u8 (b.toNat:Int)) s.data.toList)=Lib.byteCells s.data.toList:=by
  rw[ai7 (by simp_all)];rfl
 rw[y] at q;simp only[lB] at q;cases hq:P.info? elem with
 | none=>grind
 | some i =>
  simp_all [Builtin.copy_,NG,Builtin.lenOf,Builtin.firstCells,sizeOf,typeInfo]
theorem Rb (c:Nat):(bytesRow s c).size=s.size+(c-s.size):=by
 simp[bytesRow]
def gB (s:ByteArray) (o:Nat) (t:ByteArray):ByteArray:=⟨(s.data.toList.take o++t.data.toList++s.data.toList.drop (o+t.size)).toArray⟩
theorem ZA (c:Nat) (h:o+t.size<=s.size) (i:Nat) (hi:i<s.size) :
  ((bytesRow s c).toList.take o++Lib.byteCells t.data.toList++(bytesRow s c).toList.drop (o+t.size))[i]?=some (.int .u8 (((gB s o t).data.toList.map λb=>(b.toNat:Int)).getD i 0)):=by
 have A:t.size=t.data.toList.length:=size_eq t;have y:s.size=s.data.toList.length:=size_eq s;have hr:(bytesRow s c).toList=Lib.byteCells s.data.toList++List.replicate (c-s.size) (.int .u8 0):=by
  simp[bytesRow,Lib.byteCells]
 have e:(bytesRow s c).toList.take o++Lib.byteCells t.data.toList++(bytesRow s c).toList.drop (o+t.size)=Lib.byteCells (gB s o t).data.toList++List.replicate (c-s.size) (.int .u8 0):=by
  grind [gB,Lib.byteCells,List.map_take,List.map_drop]
 have q:(gB s o t).data.toList.length=s.size:=by
  grind [gB]
 grind [Lib.byteCells_length,Gb]
theorem Qa (h:o+t.size<=s.size):(gB s o t).data.toList.length=s.size:=by
 grind [size_eq,gB]
theorem agp (h:t.size=0):gB s o t=s:=by
 have b:t.data.toList=[]:=o9 (by simp_all)
 simp_all [gB]
theorem AJ (h:o+t.size<=s.size):(gB s o t).size=s.size:=by
 grind [size_eq,Qa]
structure oa where
 off:Int
 bytes:ByteArray
structure bC where
 page:Int
 data:ByteArray
 dR:List oa
 ao:Option Addr
 cap:Nat
def aby:oa:=⟨0,⟨#[]⟩⟩
def nD (l:List oa) (i:Nat):oa:=l.getD i aby
def GD:bC:=⟨0,⟨#[]⟩,[],none,0⟩
def bk (l:List bC) (i:Nat):bC:=l.getD i GD
def GN (w:World) (b off:Nat) (l:List oa):Prop:=∀i,i<l.length->w.cell? (Ad b (off+i*2))=some (I (nD l i).off)/\w.cell? (Ad b (off+i*2+1))=some (.string (nD l i).bytes)
theorem ajw {l:List oa} (hb:Below w.heap.size w w') (hlt:b<w.heap.size) (h:GN w b off l):GN w' b off l:=λi hi=>by
 obtain⟨c0,c1⟩:=h i hi
 grind [cJ]
def xC (w:World) (ao:Option Addr) (l:List oa):Prop:=dG GN w ao l
theorem xC.below {ao:Option Addr} {l:List oa} (h:xC w ao l) (hb:Below w.heap.size w w'):xC w' ao l:=dG.below (lie:=GN) (λhb hlt h=>ajw hb hlt h) h hb
def ajx (f:oa):Prop:=cH f.off/\bD f.bytes.size
structure KR (s:bC):Prop where
 page:cH s.page
 data:bD s.data.size
 dR:bD s.dR.length
 fix:∀k,k<s.dR.length->ajx (nD s.dR k)
def ux (s:bC):Array Value:=#[I s.page,.string s.data,.slice s.ao s.dR.length s.cap]
def lO (l:List oa):Nat->Int
 | 0=>0
 | k+1=>(nD l k).off+((nD l k).bytes.size:Int)
def xB (e:Int) (f:oa):Bool:=decide (e<=f.off/\f.off<=16/\1<=(f.bytes.size:Int)/\(f.bytes.size:Int)<=16-f.off)
def eO (l:List oa):Nat->Bool
 | 0=>true
 | k+1=>eO l k&&xB (lO l k) (nD l k)
def pM (s:bC):Bool:=decide (1<=s.page/\s.page<=255/\s.data.size=16)
def cY (s:bC):Bool:=pM s&&eO s.dR s.dR.length
def vY (d:ByteArray) (l:List oa):Nat->ByteArray
 | 0=>d
 | k+1=>gB (vY d l k) (nD l k).off.toNat (nD l k).bytes
def ud (s:bC):ByteArray:=vY s.data s.dR s.dR.length
def jE (s:bC):ByteArray×Int:=if cY s then (ud s,0) else (⟨#[]⟩,1)
theorem zL (l:List oa):∀(k n:Nat),k<=n->eO l k=false->eO l n=false
 | k,0,h,hk=>by grind
 | k,n+1,h,hk=>by
  by_cases e:k=n+1
  . grind
  simp[eO,zL l k n ω hk]
theorem Cs (l:List oa) (k:Nat) (hk:k<l.length) (h:xB (lO l k) (nD l k)=false):eO l l.length=false :=
 zL l (k+1) l.length ω (by simp[eO,h])
theorem LG (l:List oa):∀(n:Nat),eO l n=true->∀i,i<n->xB (lO l i) (nD l i)=true
 | 0,_,i,hi=>by omega
 | n+1,h,i,hi=>by
  simp only[eO,cK] at h;by_cases e:i=n
  . grind
  exact LG l n h.1 i ω
theorem Eg (e:Int) (f:oa):xB e f=true↔(e<=f.off/\f.off<=16/\1<=(f.bytes.size:Int)/\(f.bytes.size:Int)<=16-f.off):=by simp[xB]
theorem GK {e:Int} {f:oa} (h:¬(e<=f.off/\f.off<=16/\1<=(f.bytes.size:Int)/\(f.bytes.size:Int)<=16-f.off)):xB e f=false:=by grind [xB]
theorem uY (l:List oa):∀k,eO l k=true->(k:Int)<=lO l k/\lO l k<=16
 | 0,_=>by simp[lO]
 | k+1,h=>by
  simp only[eO,cK] at h;have ih:=uY l k h.1
  grind [Eg,lO]
theorem yK (d:ByteArray) (l:List oa) (hd:d.size=16):∀k,eO l k=true->(vY d l k).size=16
 | 0,_=>hd
 | k+1,h=>by
  simp only[eO,cK] at h;have ih:=yK d l hd k h.1;have hf:=(Eg _ _).1 h.2;have he:=uY l k h.1
  grind [vY,AJ]
structure cX where
 m:Bool
 p:Int
 z:Bool
variable (F:Nat->cX) (how:cX->cX×Int)
def iL:cX:=⟨false,0,false⟩
def Gc (s:cX):List Value:=[.bool s.m,I s.p,.bool s.z]
def ub (F:Nat->cX):Nat->List Value
 | 0=>[]
 | m+1=>ub F m++Gc (F m)
def dU (F:Nat->cX):Array Value:=(ub F 256).toArray
def Kp (F:Nat->cX) (n:Nat) (s:cX):Nat->cX:=λk=>if k=n then s else F k
theorem lh (F:Nat->cX):∀m,(ub F m).length=m*3
 | 0=>rfl
 | m+1=>by simp[ub,lh F m,Gc];omega
theorem lj:(dU F).size=768:=by simp[dU,lh]
theorem SX (F:Nat->cX) (n j:Nat) (hj:j<3):∀m,n<m->(ub F m)[n*3+j]?=(Gc (F n))[j]?
 | 0,h=>by omega
 | m+1,h=>by
  simp only[ub];by_cases e:n=m
  . grind [lh]
  rw[Eb (by grind [lh])];exact SX F n j hj m ω
theorem Fk (n j:Nat) (hn:n<256) (hj:j<3):(dU F)[n*3+j]?=(Gc (F n))[j]?:=by
 grind [dU,SX]
theorem zw (n:Nat) (hn:n<256):(dU F)[n*3]?=some (.bool (F n).m):=Fk F n 0 hn ω
theorem zu (n:Nat) (hn:n<256):(dU F)[n*3+1]?=some (I (F n).p):=Fk F n 1 hn ω
theorem zt (n:Nat) (hn:n<256):(dU F)[n*3+2]?=some (.bool (F n).z):=Fk F n 2 hn ω
theorem Mw (F G:Nat->cX):∀m,(∀k,k<m->F k=G k)->ub F m=ub G m
 | 0,_=>rfl
 | m+1,h=>by simp only[ub];rw[Mw F G m (λk hk=>h k ω),h m ω]
theorem SU (F:Nat->cX) (n:Nat) (s:cX):∀m,n<m->(((ub F m).set (n*3) (.bool s.m)).set (n*3+1) (I s.p)).set (n*3+2) (.bool s.z)=ub (Kp F n s) m
 | 0,h=>by omega
 | m+1,h=>by
  simp only[ub];by_cases e:n=m
  . subst e;rw[Ea _ _ (by grind [lh]),Ea _ _ (by grind [lh]),Ea _ _ (by grind [lh]),lh,
     show n*3-n*3=0 from by omega,show n*3+1-n*3=1 from by omega,show n*3+2-n*3=2 from by omega]
    grind [Mw,Kp,Gc]
  rw[NL _ _ (by grind [lh]),NL _ _ (by grind [lh]),NL _ _ (by grind [lh]),SU F n s m ω]
  grind [Kp]
theorem My (n:Nat) (s:cX) (hn:n<256) :
  (((dU F).setIfInBounds (n*3) (.bool s.m)).setIfInBounds (n*3+1) (I s.p)).setIfInBounds (n*3+2) (.bool s.z)=dU (Kp F n s):=by
 grind [dU,SU]
theorem SV (F:Nat->cX):∀m,∀v∈ub F m,v.oneCell'=true
 | 0,v,h=>by grind [ub]
 | m+1,v,h=>by
  simp only[ub,kJ] at h;rcases h with h | h
  . exact SV F m v h
  simp only[Gc,qZ,Ci,Kv] at h;rcases h with rfl | rfl | rfl <;> rfl
theorem Fj:(dU F).all (·.oneCell')=true:=by
 grind [SV,dU]
def jV (F:Nat->cX) (a:aX) (t:Int):Nat->cX:=λn=>if a.page<=(n:Int)/\(n:Int)<t then ⟨true,a.jP,a.zero⟩ else F n
def fH (l:List aX):Nat->Nat->cX
 | 0=>λ_=>iL
 | k+1=>jV (fH l k) (bw l k) (bw l k).zC
def iK (l:List aX):Nat->cX:=fH l l.length
theorem Xq (a:aX):jV F a a.page=F:=by
 grind [jV]
theorem ZI (a:aX) (n:Nat) (h:a.page<=(n:Int)):Kp (jV F a n) n ⟨true,a.jP,a.zero⟩=jV F a ((n:Int)+1):=by
 grind [Kp,jV]
theorem Xt (k:Nat) (hk:k<256):(dU F).extract (k*3) (k*3+3)=#[.bool (F k).m,I (F k).p,.bool (F k).z]:=by
 apply Array.ext_getElem?;intro j;have hs:=lj F;rw[Array.getElem?_extract,hs]
 match j with
 | 0=>grind [zw]
 | 1=>grind [zu]
 | 2=>grind [zt]
 | j+3=>grind
def ik (F:Nat->cX):Nat->cX
 | 0=>iL
 | k+1=>F k
def sM (a b:cX):Bool:=a.m==b.m&&(a.p==b.p&&a.z==b.z)
def zy (G:List aX):List aX:=G.set (G.length-1) ⟨(bw G (G.length-1)).page,(bw G (G.length-1)).aD+1,(bw G (G.length-1)).jP,(bw G (G.length-1)).zero⟩
def cT (F:Nat->cX):Nat->List aX
 | 0=>[]
 | k+1=>if (F k).m=false then cT F k else if sM (F k) (ik F k) then zy (cT F k) else cT F k++[⟨(k:Int),1,(F k).p,(F k).z⟩]
def ic (F:Nat->cX):List aX:=cT F 256
def qN (a:aX):List Value:=[I a.page,I a.aD,I a.jP,.bool a.zero]
def cW:List aX->List Value
 | []=>[]
 | a::r=>qN a++cW r
theorem wT:∀G:List aX,(cW G).length=G.length*4
 | []=>rfl
 | a::r=>by simp[cW,qN,wT r];omega
theorem Ce:∀G H:List aX,cW (G++H)=cW G++cW H
 | [],H=>rfl
 | a::r,H=>by simp[cW,Ce r H]
theorem oG:∀(G:List aX) (i j:Nat),i<G.length->j<4->(cW G)[i*4+j]?=(qN (bw G i))[j]?
 | [],i,j,h,_=>by simp at h
 | a::r,0,j,h,hj=>by
  grind [cW,qN,bw]
 | a::r,i+1,j,h,hj=>by
  simp only[cW];rw[yx (by simp[qN];omega),show(i+1)*4+j-(qN a).length=i*4+j from by grind [qN],oG r i j Γ hj];rfl
theorem Gg:∀(G:List aX) (i:Nat) (n:Int),i<G.length->cW (G.set i ⟨(bw G i).page,n,(bw G i).jP,(bw G i).zero⟩)=(cW G).set (i*4+1) (I n)
 | [],i,n,h=>by simp at h
 | a::r,0,n,h=>by rfl
 | a::r,i+1,n,h=>by
  simp only[cW,q9];rw[Ea _ _ (by simp[qN];omega),show(i+1)*4+1-(qN a).length=i*4+1 from by grind [qN]];have e:=Gg r i n Γ
  grind [bw]
theorem zx:(zy G).length=G.length:=by simp[zy]
theorem wO:∀(G:List aX),∀v∈cW G,v.oneCell'=true
 | [],v,h=>by grind [cW]
 | a::r,v,h=>by
  simp only[cW,qN,D5,List.nil_append,qZ] at h;rcases h with rfl | rfl | rfl | rfl | h
  . rfl
  . rfl
  . rfl
  . rfl
  exact wO r v h
theorem uO (H:List aX) (i:Nat) (h:i<G.length):bw (G++H) i=bw G i:=by grind [bw]
theorem zz:bw (G++[a]) G.length=a:=by simp[bw]
theorem Xu (i:Nat) (a:aX) (h:i<G.length):bw (G.set i a) i=a:=by simp[bw,h]
theorem TL (i j:Nat) (a:aX) (h:j≠i):bw (G.set i a) j=bw G j:=by grind [bw]
theorem Fi (F:Nat->cX):∀k,(cT F k).length<=k
 | 0=>by simp[cT]
 | k+1=>by
  have ih:=Fi F k
  grind [cT,zx]
theorem Kq (F:Nat->cX):∀k,(ik F k).m=true->0<(cT F k).length
 | 0,h=>by grind [ik,iL]
 | k+1,h=>by
  have h':(F k).m=true:=h;simp only[cT,h'];rw[aB ξ];split
  . rename_i he
    have hm:(ik F k).m=true:=by
     grind [sM]
    rw[zx];exact Kq F k hm
  simp
theorem ID (F:Nat->cX):∀k,∀i,i<(cT F k).length->1<=(bw (cT F k) i).aD/\(bw (cT F k) i).aD<=k
 | 0,i,h=>by grind [cT]
 | k+1,i,h=>by
  have ih:=ID F k
  grind [cT,zy,Xu,TL,uO,zz]
theorem Xo (a b:cX) (h:sM a b=true):a=b:=by
 cases a;simp_all [sM]
theorem Xn (a b:cX) (h:sM a b=false):(a.m==b.m)=false\/((a.m==b.m)=true/\(a.p==b.p)=false)\/((a.m==b.m)=true/\(a.p==b.p)=true/\(a.z==b.z)=false):=by
 grind [sM]
def gV (F:Nat->cX) (how:cX->cX×Int) (page t:Int):Nat->cX:=λk=>if page<=(k:Int)/\(k:Int)<t then (how (F k)).1 else F k
def km (F:Nat->cX) (how:cX->cX×Int):Nat->Nat->Int
 | _,0=>0
 | n,c+1=>if (how (F n)).2=0 then km F how (n+1) c else (how (F n)).2
def jU (l:List aX) (page aD jP:Int) (how:cX->cX×Int):List aX×Int :=
 if bj l=0 then
  if gW page aD&&ni jP then
   if km (iK l) how page.toNat aD.toNat=0 then (ic (gV (iK l) how page (page+aD)),0)
   else ([],km (iK l) how page.toNat aD.toNat)
  else ([],3)
 else ([],bj l)
theorem TJ (page:Int):gV F how page page=F:=by
 grind [gV]
theorem adw (page:Int) (n:Nat):gV F how page n n=F n:=by
 grind [gV]
theorem Xm (page:Int) (n:Nat) (h:page<=(n:Int)):Kp (gV F how page n) n (how (F n)).1=gV F how page ((n:Int)+1):=by
 grind [Kp,gV]
theorem BG (F:Nat->cX) (how:cX->cX×Int):∀(c n:Nat),(∀k,n<=k->k<n+c->(how (F k)).2=0)->km F how n c=0
 | 0,_,_=>rfl
 | c+1,n,h=>by
  simp only[km];rw[aC (h n ω ω)];exact BG F how c (n+1) (λk h1 h2=>h k ω ω)
theorem Mx (F:Nat->cX) (how:cX->cX×Int):∀(c n m:Nat),n<=m->m<n+c->(∀k,n<=k->k<m->(how (F k)).2=0)->(how (F m)).2≠0->km F how n c=(how (F m)).2
 | 0,n,m,h1,h2,_,_=>by omega
 | c+1,n,m,h1,h2,h,hm=>by
  simp only[km];by_cases e:n=m
  . grind
  rw[aC (h n ω ω)];exact Mx F how c (n+1) m ω ω (λk h1 h2=>h k ω h2) hm
theorem sH (p n:Int):gW p n=true↔1<=p/\1<=n/\n<=256-p:=by simp[gW]
def wK (l:List aX) (n:Nat):cX:=let r:=b6 l n;if r.2 then ⟨true,r.1.jP,r.1.zero⟩ else iL
def wL (G:List aX):aX:=bw G (G.length-1)
def Aa (G:List aX) (a:aX):Bool:=gW a.page a.aD&&ni a.jP&&(G.length==0 || nW (wL G) a)
theorem Rc (p n q:Int) (z:Bool) (x:Int):jt ⟨p,n,q,z⟩ x=decide (p<=x/\x<p+n):=rfl
theorem Nq (x:Int):jt a x=true↔a.page<=x/\x<a.page+a.aD:=⟨λh=>jY h,λh=>fD h⟩
theorem oY:wL (G++[a])=a:=by simp[wL,bw]
theorem Ge (G H:List aX):∀k,k<=G.length->mv (G++H) k=mv G k
 | 0,_=>rfl
 | k+1,h=>by
  simp only[mv,Ge G H k ω]
  grind [pF,uO]
theorem zq:wM (G++[a])=(wM G&&Aa G a):=by
 unfold wM;rw[ft];show mv (G++[a]) (G.length+1)=_
 grind [mv,Ge,pF,Aa,wL,zz,uO]
theorem Ac:∀(G:List aX) (a:aX) (p:Int),b6 (G++[a]) p=if (b6 G p).2 then b6 G p else if jt a p then (a,true) else (Ab,false)
 | [],a,p=>by rfl
 | b::r,a,p=>by
  simp only[D5,b6];by_cases h:jt b p=true
  . simp[h]
  simp[h,Ac r a p]
theorem Gf:∀(G:List aX) (p:Int),(b6 G p).2=false->b6 G p=(Ab,false)
 | [],p,_=>rfl
 | b::r,p,h=>by
  simp only[b6] at h ⊢;by_cases c:jt b p=true
  . grind
  simp only[c] at h ⊢;exact Gf r p h
theorem Ib (n:Nat):wK (G++[a]) n=if (b6 G n).2 then wK G n else if jt a n then ⟨true,a.jP,a.zero⟩ else iL:=by
 grind [wK,Ac]
theorem Fh:∀(m:Nat) (G:List aX),G.length=m->wM G=true->∀p:Int,(b6 G p).2=true->1<=p/\p<(wL G).zC
 | 0,G,hm,_,p,h=>by
  grind [b6]
 | m+1,G,hm,hg,p,h=>by
  rcases Uf G with rfl | ⟨H,a,rfl⟩
  . grind
  rw[Ue] at *;rw[zq,cK] at hg;obtain⟨hgH,hok⟩:=hg;rw[oY];simp only[Aa,cK,gW,fX] at hok;obtain⟨⟨hpa,_⟩,hfo⟩:=hok;rw[Ac] at h;by_cases c:(b6 H p).2=true
  . have ih:=Fh m H Γ hgH p c
    grind [b6,nW,aX.zC]
  grind [jt]
structure oL (F:Nat->cX):Prop where
 zero:(F 0).m=false
 none:∀n,(F n).m=false->F n=iL
 jP:∀n,0<=(F n).p/\(F n).p<=3
theorem adx (H:List aX) (a:aX):zy (H++[a])=H++[⟨a.page,a.aD+1,a.jP,a.zero⟩]:=by
 grind [zy,bw]
structure ady (F:Nat->cX) (k:Nat) (G:List aX):Prop where
 good:wM G=true
 look:∀n:Nat,wK G n=if n<k then F n else iL
 yes:(ik F k).m=true->0<G.length/\(wL G).zC=k/\(wL G).jP=(ik F k).p/\(wL G).zero=(ik F k).z
 no:(ik F k).m=false->G.length=0\/(wL G).zC<k\/k=0
theorem agu (n:Nat) (h:wK G n=iL):(b6 G n).2=false:=by
 grind [wK,iL]
theorem AO (F:Nat->cX) (hF:oL F):∀k,k<=256->ady F k (cT F k)
 | 0,_=>⟨rfl,λn=>rfl,λh=>by grind [ik,iL],λ_=>.inl rfl⟩
 | k+1,hk=>by
  have ih:=AO F hF k ω;obtain⟨G,hG⟩:=ex (cT F k);rw[<- hG] at ih;simp only[cT];rw[<- hG];by_cases hm:(F k).m=false
  . rw[aC hm];refine⟨ih.good,λn=>?_,λh=>?_,λ_=>?_⟩
    . rw[ih.look n];by_cases h1:n<k
      . grind
      rw[aB h1];by_cases h2:n<k+1
      . obtain rfl:n=k:=by omega
        rw[aC h2,hF.none n hm]
      grind
    . have:(F k).m=true:=h
      grind
    by_cases hl:(ik F k).m=true
    . grind [ady.yes]
    rcases ih.no Γ with h | h | h
    . omega
    . omega
    subst h;have:G=[]:=hG
    grind
  have b:(F k).m=true:=by grind
  rw[aB hm];have O:1<=k:=by
   grind [oL.zero]
  have Rk:=agu G k (by rw[ih.look k,aB ω]);by_cases he:sM (F k) (ik F k)=true
  . rw[aC he];have B:=Xo _ _ he;obtain⟨h0,h1,h2,h3⟩:=ih.yes Γ;rcases Uf G with M | ⟨H,a,hH⟩
    . grind
    rw[Ue] at hH;rw[hH,oY] at h1 h2 h3;have hg:=ih.good;rw[hH,zq,cK] at hg;obtain⟨y,A⟩:=hg;have q:=A;simp only[Aa,cK,gW,fX] at q;obtain⟨⟨K,J⟩,L⟩:=q;rw[hH,adx];unfold aX.zC at h1;refine⟨?_,λn=>?_,λ_=>⟨ξ,?_,?_,?_⟩,λh=>?_⟩
    . rw[zq,y,tE];simp only[Aa,cK,gW,fX];exact⟨⟨⟨K.1,ω,ω⟩,J⟩,L⟩
    . have hl:=ih.look n;rw[hH] at hl;rw[Ib] at hl ⊢;by_cases c:(b6 H n).2=true
      . rw[aC c] at hl ⊢;rw[hl];have hb:=Fh _ H rfl y n c
        grind [b6,nW]
      rw[aB c] at hl ⊢;by_cases d:n=k
      . subst d;rw[aC (by grind [Rc]),aC ω];show cX.mk true a.jP a.zero=F n;rw[h2,h3,<- B,<- b]
      grind [Nq]
    . rw[oY];show a.page+(a.aD+1)=_;omega
    . rw[oY];show a.jP=(F k).p;grind
    . rw[oY];show a.zero=(F k).z;grind
    have:(F k).m=false:=h
    grind
  have N:sM (F k) (ik F k)=false:=by grind
  rw[aB he];refine⟨?_,λn=>?_,λ_=>⟨ξ,?_,?_,?_⟩,λh=>?_⟩
  . rw[zq,ih.good,tE];simp only[Aa,cK,gW,ni,fX];refine⟨⟨⟨ω,ω,ω⟩,hF.jP k⟩,?_⟩;by_cases h0:G.length=0
    . simp[h0]
    simp only[TV,Gi,h0,false_or];by_cases hl:(ik F k).m=true
    . grind [nW,Xn,ady.yes]
    rcases ih.no Γ with h | h | h
    . omega
    . grind [nW]
    omega
  . rw[Ib];by_cases c:(b6 G n).2=true
    . rw[aC c,ih.look n]
      grind
    rw[aB c];have c':(b6 G n).2=false:=by grind
    by_cases d:n=k
    . subst d;rw[aC (by grind [Rc]),aC ω];show cX.mk true (F n).p (F n).z=F n;rw[<- b]
    rw[aB (by grind [Rc])];have hl:=ih.look n
    grind [wK]
  . rw[oY];rfl
  . rw[oY];rfl
  . rw[oY];rfl
  have:(F k).m=false:=h
  grind
theorem Kt (hF:oL F):wM (ic F)=true:=(AO F hF 256 (aK _)).good
theorem Xr (hF:oL F) (n:Nat) (hn:n<256):wK (ic F) n=F n:=by
 have:=(AO F hF 256 (aK _)).look n;rw[aC hn] at this;exact this
theorem DM (l:List aX):∀(m:Nat) (G:List aX),G.length=m->wM G=true->∀n:Nat,wK G n=fH G G.length n
 | 0,G,hm,_,n=>by
  have e:G=[]:=o9 hm;subst e;rfl
 | m+1,G,hm,hg,n=>by
  rcases Uf G with rfl | ⟨H,a,rfl⟩
  . rfl
  rw[Ue] at *;rw[zq,cK] at hg;have ih:=DM l m H Γ hg.1 n;have hs:∀k,k<=H.length->fH (H++[a]) k=fH H k:=by
   intro k;induction k with
   | zero=>intro _;rfl
   | succ k ihk=>grind [fH,uO]
  rw[ft];show _=fH (H++[a]) (H.length+1) n;simp only[fH];rw[hs H.length (aK _),zz,Ib];simp only[jV];by_cases c:(b6 H n).2=true
  . rw[aC c,ih];have hb:=Fh _ H rfl hg.1 n c
    grind [Aa,b6,nW]
  grind [wK,jt]
end Go.Proofs.YtlgoihmkgaaemaaGreat
