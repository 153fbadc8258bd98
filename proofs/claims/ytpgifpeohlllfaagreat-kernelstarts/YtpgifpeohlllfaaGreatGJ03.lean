import Derived.WalkKit
import Derived.Lib.Endian
import Derived.Lib.EndianBits
import Derived.Lib.Strings
import Derived.Laws.BytesArg
import Derived.Lib.UnsafeStr
import Derived.Lib.Walk
import Derived.Lib.BufferWrite
import Derived.Laws.IdiomStrings
import Derived.Test.YtpgifpeohlllfaaGreatGJ02
import Derived.Test.YtpgifpeohlllfaaGreatGJ00
import Derived.Test.YtpgifpeohlllfaaGreatGJ01
set_option maxHeartbeats 20000000
set_option linter.unusedVariables false
set_option maxRecDepth 100000
set_option linter.unusedSimpArgs false
namespace Go.Proofs.YtpgifpeohlllfaaGreat
namespace CM
open Go.RowKit
def shr (n : Int) (k : Nat) : Int:=n / 256 ^ k
def low (n : Int) : Nat:=(n % 18446744073709551616).toNat
theorem shr_zero (n : Int) : shr n 0 = n:=by simp [shr]
theorem shr_succ (n : Int) (k : Nat) : shr n k / 256 = shr n (k + 1):=by
 simp only [shr,Int.pow_succ]
 rw [Int.ediv_ediv_of_nonneg (Int.pow_nonneg (by decide))]
theorem leBytes_snoc : ∀ (k v : Nat),Lib.leBytes (k + 1) v = Lib.leBytes k v ++ [(v / 256 ^ k % 256).toUInt8]
 | 0,v=>by simp [Lib.leBytes]
 | k + 1,v=>by
  rw [Lib.leBytes,leBytes_snoc k (v / 256)]
  simp only [Lib.leBytes,List.cons_append]
  rw [Nat.div_div_eq_div_mul,<- Nat.pow_succ']
theorem shr_byte (n : Int) (k : Nat) (h : k < 8) : shr n k % 256 = ((low n / 256 ^ k % 256 : Nat) : Int):=by
 unfold shr low
 match k,h with
 | 0,_=>simp;omega
 | 1,_=>omega
 | 2,_=>omega
 | 3,_=>omega
 | 4,_=>omega
 | 5,_=>omega
 | 6,_=>omega
 | 7,_=>omega
theorem strOfNums_byte (n : Int) (k : Nat) (h : k < 8) : strOfNums [shr n k % 256] = ⟨#[(low n / 256 ^ k % 256).toUInt8]⟩:=by
 rw [shr_byte n k h]
 simp [strOfNums]
 rfl
theorem mk_append (a b : List UInt8) : (⟨a.toArray⟩ : ByteArray) ++ ⟨b.toArray⟩ = ⟨(a ++ b).toArray⟩:=ByteArray.mk_append_mk a b
theorem strOfNums_bytes (l : List UInt8) : strOfNums (l.map fun b=>(b.toNat : Int)) = ⟨l.toArray⟩:=by
 simp only [strOfNums,List.map_map]
 congr 1
 congr 1
 induction l with
 | nil=>rfl
 | cons b r ih=>simp [ih]
theorem byteCells_get (l : List UInt8) (i : Nat) (h : i < l.length) : (Lib.byteCells l)[i]? = some (.int .u8 ((l.map fun b=>(b.toNat : Int)).getD i 0)):=by
 simp [Lib.byteCells,h]
theorem bounds (n : Int) (h : (Lit.int .i64 n).wf = true) : -9223372036854775808 <= n /\ n <= 9223372036854775807:=by
 simp only [Lit.wf,IntKind.min,IntKind.max,IntKind.signed,IntKind.bits,Bool.and_eq_true,decide_eq_true_eq,if_true] at h
 omega
end CM
namespace CL
open Go.RowKit Go.Lib
theorem storeCells_marked (P : Program) (g o : Nat) (t : TypeId) (m1 m2 : Nat) : ∀ (vs : List Value) (i : Nat) (cur : Array Value) (w : World),w.heap[g]? = some (.cells cur t (m1,m2)) -> cur.size <= m1 -> o + i + vs.length <= cur.size -> (∀ v ∈ vs,v.oneCell' = true) ->
  (storeCells ⟨g,o,none⟩ vs i).run P w = .ok () (w.setRow g (cur.toList.take (o + i) ++ vs ++ cur.toList.drop (o + i + vs.length)).toArray)
 | [],i,cur,w,hg,_,_,_=>by
  simp only [storeCells,List.append_nil,List.length_nil,Nat.add_zero,List.take_append_drop,Array.toArray_toList]
  rw [setRow_self w g cur t (m1,m2) hg]
  rfl
 | v :: rest,i,cur,w,hg,hm,hl,h1=>by
  have hi : o + i < cur.size:=by simp at hl;omega
  have hadd : (⟨g,o,none⟩ : Addr).add i = ⟨g,o + i,none⟩:=by unfold Addr.add;split <;> simp_all
  have hcell : w.cell? ⟨g,o + i,none⟩ = some cur[o + i]:=by simp [World.cell?,hg,hi]
  have hfro : w.frozen? ⟨g,o + i,none⟩ = false:=by simp [World.frozen?,hg];omega
  have hst : (store ((⟨g,o,none⟩ : Addr).add i) v).run P w = .ok () (w.setRow g (cur.setIfInBounds (o + i) v)):=by
   rw [hadd,run_store P w _ v _ (h1 v (by simp)),hcell]
   simp [hfro,setCell_eq_setRow w g (o + i) cur t (m1,m2) v hg]
  have ih:=storeCells_marked P g o t m1 m2 rest (i + 1) (cur.setIfInBounds (o + i) v) (w.setRow g (cur.setIfInBounds (o + i) v)) (setRow_heap w g cur _ t _ hg) (by simpa using hm) (by simp at hl ⊢;omega) (fun x hx=>h1 x (by simp [hx]))
  simp only [storeCells,Sem.run_bind,hst,Result.andThen_ok,ih,setRow_setRow]
  congr 3
  have e:=list_seg_step cur.toList (o + i) v rest (by simp at hl ⊢;omega)
  simpa [Array.toList_setIfInBounds,Nat.add_assoc] using e
theorem copy_marked {P : Program} (w : World) (dT sT ty elem : TypeId) (g o dLen dCap : Nat) (s : ByteArray) (cur : Array Value) (t : TypeId) (m1 m2 : Nat)
  (hu : P.underlying dT = some (.slice elem)) (hs : (P.info? elem).map (·.size) = some 1) (hg : w.heap[g]? = some (.cells cur t (m1,m2))) (hm : cur.size <= m1) (hle : s.size <= dLen) (hfit : o + s.size <= cur.size) :
  (Builtin.copy_ #[dT,sT] ty #[.slice (some ⟨g,o,none⟩) dLen dCap,.string s]).run P w =
   .ok (goInt s.size) (w.setRow g (cur.toList.take o ++ Lib.byteCells s.data.toList ++ cur.toList.drop (o + s.size)).toArray):=by
 have hlen : (Lib.byteCells s.data.toList).length = s.size:=by rw [Lib.byteCells_length,<- size_eq]
 have hst:=storeCells_marked P g o t m1 m2 (Lib.byteCells s.data.toList) 0 cur w hg hm (by rw [hlen];simpa using hfit) (Lib.byteCells_one _)
 have hmin : Nat.min s.size dLen = s.size:=Nat.min_eq_left hle
 have htk : List.take s.size (List.map (fun b : UInt8=>Value.int IntKind.u8 (b.toNat : Int)) s.data.toList) = Lib.byteCells s.data.toList:=by
  rw [List.take_of_length_le (by rw [List.length_map,<- size_eq];exact Nat.le_refl _)]
  rfl
 rw [hlen] at hst
 simp only [Nat.add_zero] at hst
 cases hq : P.info? elem with
 | none=>simp [hq] at hs
 | some i =>
  simp [Builtin.copy_,run_underlying hu,Builtin.lenOf,Builtin.firstCells,sizeOf,typeInfo,hq,hmin]
  rw [htk,hst]
  simp [Result.andThen]
theorem bytesRow_size (s : ByteArray) (c : Nat) : (bytesRow s c).size = s.size + (c - s.size):=by
 simp [bytesRow]
def over (s : ByteArray) (o : Nat) (t : ByteArray) : ByteArray:=⟨(s.data.toList.take o ++ t.data.toList ++ s.data.toList.drop (o + t.size)).toArray⟩
theorem over_cells (s : ByteArray) (o : Nat) (t : ByteArray) (c : Nat) (h : o + t.size <= s.size) (i : Nat) (hi : i < s.size) :
  ((bytesRow s c).toList.take o ++ Lib.byteCells t.data.toList ++ (bytesRow s c).toList.drop (o + t.size))[i]? = some (.int .u8 (((over s o t).data.toList.map fun b=>(b.toNat : Int)).getD i 0)):=by
 have hts : t.size = t.data.toList.length:=size_eq t
 have hss : s.size = s.data.toList.length:=size_eq s
 have hr : (bytesRow s c).toList = Lib.byteCells s.data.toList ++ List.replicate (c - s.size) (.int .u8 0):=by
  simp [bytesRow,Lib.byteCells]
 have e : (bytesRow s c).toList.take o ++ Lib.byteCells t.data.toList ++ (bytesRow s c).toList.drop (o + t.size) = Lib.byteCells (over s o t).data.toList ++ List.replicate (c - s.size) (.int .u8 0):=by
  rw [hr,List.take_append_of_le_length (by rw [Lib.byteCells_length];omega),List.drop_append_of_le_length (by rw [Lib.byteCells_length];omega)]
  simp [over,Lib.byteCells,List.map_append,List.map_take,List.map_drop]
 have hol : (over s o t).data.toList.length = s.size:=by
  simp only [over,List.length_append,List.length_take,List.length_drop];omega
 rw [e,List.getElem?_append_left (by rw [Lib.byteCells_length,hol];exact hi)]
 exact CM.byteCells_get _ i (by rw [hol];exact hi)
theorem over_size (s : ByteArray) (o : Nat) (t : ByteArray) (h : o + t.size <= s.size) : (over s o t).data.toList.length = s.size:=by
 have hts : t.size = t.data.toList.length:=size_eq t
 have hss : s.size = s.data.toList.length:=size_eq s
 simp only [over,List.length_append,List.length_take,List.length_drop];omega
theorem over_parts (s : ByteArray) (o : Nat) (t : ByteArray) : s.extract 0 o ++ t ++ s.extract (o + t.size) s.size = over s o t:=by
 have hss : s.size = s.data.toList.length:=size_eq s
 apply ByteArray.ext
 apply Array.toList_inj.1
 simp only [ByteArray.data_append,Array.toList_append,extract_data,over]
 have e : List.take (s.size - (o + t.size)) (List.drop (o + t.size) s.data.toList) = List.drop (o + t.size) s.data.toList:=List.take_of_length_le (by rw [List.length_drop];omega)
 rw [List.drop_zero,Nat.sub_zero,e]
theorem over_nil (s : ByteArray) (o : Nat) (t : ByteArray) (h : t.size = 0) : over s o t = s:=by
 have hts : t.data.toList = []:=List.eq_nil_of_length_eq_zero (by rw [<- size_eq];exact h)
 apply ByteArray.ext
 simp [over,hts,h]
theorem over_size' (s : ByteArray) (o : Nat) (t : ByteArray) (h : o + t.size <= s.size) : (over s o t).size = s.size:=by
 rw [size_eq,over_size s o t h]
end CL
namespace LM
open Go.RowKit
structure Fx where
 off : Int
 bytes : ByteArray
structure Sh where
 page : Int
 data : ByteArray
 fixes : List Fx
 ao : Option Addr
 cap : Nat
def fx0 : Fx:=⟨0,⟨#[]⟩⟩
def fxAt (l : List Fx) (i : Nat) : Fx:=l.getD i fx0
def sh0 : Sh:=⟨0,⟨#[]⟩,[],none,0⟩
def shAt (l : List Sh) (i : Nat) : Sh:=l.getD i sh0
def LieF (w : World) (b off : Nat) (l : List Fx) : Prop:=∀ i,i < l.length -> w.cell? ⟨b,off + i * 2,none⟩ = some (.int .i64 (fxAt l i).off) /\ w.cell? ⟨b,off + i * 2 + 1,none⟩ = some (.string (fxAt l i).bytes)
theorem lieF {w w' : World} {b off : Nat} {l : List Fx} (hb : Below w.heap.size w w') (hlt : b < w.heap.size) (h : LieF w b off l) : LieF w' b off l:=fun i hi=>by
 obtain ⟨c0,c1⟩:=h i hi
 exact ⟨(M.below_cell hb hlt).trans c0,(M.below_cell hb hlt).trans c1⟩
def HasF (w : World) (ao : Option Addr) (l : List Fx) : Prop:=M.HasBy LieF w ao l
theorem HasF.below {w w' : World} {ao : Option Addr} {l : List Fx} (h : HasF w ao l) (hb : Below w.heap.size w w') : HasF w' ao l:=M.HasBy.below (lie:=LieF) (fun hb hlt h=>lieF hb hlt h) h hb
def FitF (f : Fx) : Prop:=M.I64 f.off /\ M.Short f.bytes.size
structure FitH (s : Sh) : Prop where
 page : M.I64 s.page
 data : M.Short s.data.size
 fixes : M.Short s.fixes.length
 fix : ∀ k,k < s.fixes.length -> FitF (fxAt s.fixes k)
def cellsH (s : Sh) : Array Value:=#[.int .i64 s.page,.string s.data,.slice s.ao s.fixes.length s.cap]
def endTo (l : List Fx) : Nat -> Int
 | 0=>0
 | k + 1=>(fxAt l k).off + ((fxAt l k).bytes.size : Int)
def fixB (e : Int) (f : Fx) : Bool:=decide (e <= f.off /\ f.off <= 16 /\ 1 <= (f.bytes.size : Int) /\ (f.bytes.size : Int) <= 16 - f.off)
def fixesTo (l : List Fx) : Nat -> Bool
 | 0=>true
 | k + 1=>fixesTo l k && fixB (endTo l k) (fxAt l k)
def headB (s : Sh) : Bool:=decide (1 <= s.page /\ s.page <= 255 /\ s.data.size = 16)
def sheetB (s : Sh) : Bool:=headB s && fixesTo s.fixes s.fixes.length
def laidTo (d : ByteArray) (l : List Fx) : Nat -> ByteArray
 | 0=>d
 | k + 1=>CL.over (laidTo d l k) (fxAt l k).off.toNat (fxAt l k).bytes
def fillS (s : Sh) : ByteArray:=laidTo s.data s.fixes s.fixes.length
def fillN (s : Sh) : ByteArray × Int:=if sheetB s then (fillS s,0) else (⟨#[]⟩,1)
theorem fixesTo_false (l : List Fx) : ∀ (k n : Nat),k <= n -> fixesTo l k = false -> fixesTo l n = false
 | k, 0, h, hk => by obtain rfl : k = 0 := by omega
                     exact hk
 | k,n + 1,h,hk=>by
  by_cases e : k = n + 1
  · subst e;exact hk
  · simp [fixesTo,fixesTo_false l k n (by omega) hk]
theorem fixes_bad (l : List Fx) (k : Nat) (hk : k < l.length) (h : fixB (endTo l k) (fxAt l k) = false) : fixesTo l l.length = false :=
 fixesTo_false l (k + 1) l.length (by omega) (by simp [fixesTo,h])
theorem fixesTo_ok (l : List Fx) : ∀ (n : Nat),fixesTo l n = true -> ∀ i,i < n -> fixB (endTo l i) (fxAt l i) = true
 | 0,_,i,hi=>by omega
 | n + 1,h,i,hi=>by
  simp only [fixesTo,Bool.and_eq_true] at h
  by_cases e : i = n
  · subst e;exact h.2
  · exact fixesTo_ok l n h.1 i (by omega)
theorem fixB_iff (e : Int) (f : Fx) : fixB e f = true ↔ (e <= f.off /\ f.off <= 16 /\ 1 <= (f.bytes.size : Int) /\ (f.bytes.size : Int) <= 16 - f.off):=by simp [fixB]
theorem fixB_no {e : Int} {f : Fx} (h : ¬ (e <= f.off /\ f.off <= 16 /\ 1 <= (f.bytes.size : Int) /\ (f.bytes.size : Int) <= 16 - f.off)) : fixB e f = false:=by simpa [fixB] using h
theorem endTo_ge (l : List Fx) : ∀ k,fixesTo l k = true -> (k : Int) <= endTo l k /\ endTo l k <= 16
 | 0,_=>by simp [endTo]
 | k + 1,h=>by
  simp only [fixesTo,Bool.and_eq_true] at h
  have ih:=endTo_ge l k h.1
  have hf:=(fixB_iff _ _).1 h.2
  simp only [endTo]
  omega
theorem laidTo_size (d : ByteArray) (l : List Fx) (hd : d.size = 16) : ∀ k,fixesTo l k = true -> (laidTo d l k).size = 16
 | 0,_=>hd
 | k + 1,h=>by
  simp only [fixesTo,Bool.and_eq_true] at h
  have ih:=laidTo_size d l hd k h.1
  have hf:=(fixB_iff _ _).1 h.2
  have he:=endTo_ge l k h.1
  simp only [laidTo]
  rw [CL.over_size' _ _ _ (by omega),ih]
end LM
namespace AM
open Go.RowKit
def turned (F : Nat -> St) (how : St -> St × Int) (page t : Int) : Nat -> St:=fun k=>if page <= (k : Int) /\ (k : Int) < t then (how (F k)).1 else F k
def errFrom (F : Nat -> St) (how : St -> St × Int) : Nat -> Nat -> Int
 | _,0=>0
 | n,c + 1=>if (how (F n)).2 = 0 then errFrom F how (n + 1) c else (how (F n)).2
def turnN (l : List Ar) (page pages prot : Int) (how : St -> St × Int) : List Ar × Int :=
 if checkN l = 0 then
  if pagesB page pages && protB prot then
   if errFrom (spreadN l) how page.toNat pages.toNat = 0 then (gatherN (turned (spreadN l) how page (page + pages)),0)
   else ([],errFrom (spreadN l) how page.toNat pages.toNat)
  else ([],3)
 else ([],checkN l)
theorem turned_begin (F : Nat -> St) (how : St -> St × Int) (page : Int) : turned F how page page = F:=by
 funext k;simp only [turned];rw [if_neg (by omega)]
theorem turned_at (F : Nat -> St) (how : St -> St × Int) (page : Int) (n : Nat) : turned F how page n n = F n:=by
 simp only [turned];rw [if_neg (by omega)]
theorem turned_step (F : Nat -> St) (how : St -> St × Int) (page : Int) (n : Nat) (h : page <= (n : Int)) : upd (turned F how page n) n (how (F n)).1 = turned F how page ((n : Int) + 1):=by
 funext k
 simp only [upd,turned]
 by_cases e : k = n
 · subst e;rw [if_pos rfl,if_pos ⟨h,by omega⟩]
 · rw [if_neg e]
   by_cases c : page <= (k : Int) /\ (k : Int) < n
   · rw [if_pos c,if_pos ⟨c.1,by omega⟩]
   · rw [if_neg c,if_neg (by omega)]
theorem errFrom_zero (F : Nat -> St) (how : St -> St × Int) : ∀ (c n : Nat),(∀ k,n <= k -> k < n + c -> (how (F k)).2 = 0) -> errFrom F how n c = 0
 | 0,_,_=>rfl
 | c + 1,n,h=>by
  simp only [errFrom]
  rw [if_pos (h n (by omega) (by omega))]
  exact errFrom_zero F how c (n + 1) (fun k h1 h2=>h k (by omega) (by omega))
theorem errFrom_at (F : Nat -> St) (how : St -> St × Int) : ∀ (c n m : Nat),n <= m -> m < n + c -> (∀ k,n <= k -> k < m -> (how (F k)).2 = 0) -> (how (F m)).2 ≠ 0 -> errFrom F how n c = (how (F m)).2
 | 0,n,m,h1,h2,_,_=>by omega
 | c + 1,n,m,h1,h2,h,hm=>by
  simp only [errFrom]
  by_cases e : n = m
  · subst e;rw [if_neg hm]
  · rw [if_pos (h n (by omega) (by omega))]
    exact errFrom_at F how c (n + 1) m (by omega) (by omega) (fun k h1 h2=>h k (by omega) h2) hm
theorem pagesB_iff (p n : Int) : pagesB p n = true ↔ 1 <= p /\ 1 <= n /\ n <= 256 - p:=by simp [pagesB]
def look (l : List Ar) (n : Nat) : St:=let r:=findFrom l n;if r.2 then ⟨true,r.1.prot,r.1.zero⟩ else off
def lastOf (G : List Ar) : Ar:=at_ G (G.length - 1)
def okNext (G : List Ar) (a : Ar) : Bool:=pagesB a.page a.pages && protB a.prot && (G.length == 0 || followB (lastOf G) a)
theorem hit_mk (p n q : Int) (z : Bool) (x : Int) : hit ⟨p,n,q,z⟩ x = decide (p <= x /\ x < p + n):=rfl
theorem hit_iff (a : Ar) (x : Int) : hit a x = true ↔ a.page <= x /\ x < a.page + a.pages:=⟨fun h=>of_decide_eq_true h,fun h=>decide_eq_true h⟩
theorem lastOf_snoc (G : List Ar) (a : Ar) : lastOf (G ++ [a]) = a:=by simp [lastOf,at_]
theorem goodTo_append (G H : List Ar) : ∀ k,k <= G.length -> goodTo (G ++ H) k = goodTo G k
 | 0,_=>rfl
 | k + 1,h=>by
  simp only [goodTo,goodTo_append G H k (by omega)]
  congr 1
  unfold okAt
  rw [at_append_left G H k (by omega)]
  by_cases e : k = 0
  · subst e;rfl
  · rw [at_append_left G H (k - 1) (by omega)]
theorem good_snoc (G : List Ar) (a : Ar) : good (G ++ [a]) = (good G && okNext G a):=by
 unfold good
 rw [List.length_append]
 show goodTo (G ++ [a]) (G.length + 1) = _
 simp only [goodTo,goodTo_append G [a] G.length (Nat.le_refl _)]
 congr 1
 unfold okAt okNext lastOf
 rw [at_append_last]
 by_cases e : G.length = 0
 · simp [e]
 · rw [at_append_left G [a] (G.length - 1) (by omega)]
theorem findFrom_snoc : ∀ (G : List Ar) (a : Ar) (p : Int),findFrom (G ++ [a]) p = if (findFrom G p).2 then findFrom G p else if hit a p then (a,true) else (nil,false)
 | [],a,p=>by simp [findFrom]
 | b :: r,a,p=>by
  simp only [List.cons_append,findFrom]
  by_cases h : hit b p = true
  · simp [h]
  · simp [h,findFrom_snoc r a p]
theorem findFrom_miss : ∀ (G : List Ar) (p : Int),(findFrom G p).2 = false -> findFrom G p = (nil,false)
 | [],p,_=>rfl
 | b :: r,p,h=>by
  simp only [findFrom] at h ⊢
  by_cases c : hit b p = true
  · simp [c] at h
  · simp only [c] at h ⊢
    exact findFrom_miss r p h
theorem look_snoc (G : List Ar) (a : Ar) (n : Nat) : look (G ++ [a]) n = if (findFrom G n).2 then look G n else if hit a n then ⟨true,a.prot,a.zero⟩ else off:=by
 unfold look
 rw [findFrom_snoc]
 by_cases h : (findFrom G n).2 = true
 · simp [h]
 · simp only [h]
   by_cases c : hit a n = true
   · simp [c]
   · simp [c]
theorem good_bound : ∀ (m : Nat) (G : List Ar),G.length = m -> good G = true -> ∀ p : Int,(findFrom G p).2 = true -> 1 <= p /\ p < (lastOf G).last0
 | 0,G,hm,_,p,h=>by
  have e : G = []:=List.eq_nil_of_length_eq_zero hm
  subst e;simp [findFrom] at h
 | m + 1,G,hm,hg,p,h=>by
  rcases List.eq_nil_or_concat G with rfl | ⟨H,a,rfl⟩
  · simp at hm
  · rw [List.concat_eq_append] at *
    rw [good_snoc,Bool.and_eq_true] at hg
    obtain ⟨hgH,hok⟩:=hg
    rw [lastOf_snoc]
    simp only [okNext,Bool.and_eq_true,pagesB,decide_eq_true_eq] at hok
    obtain ⟨⟨hpa,_⟩,hfo⟩:=hok
    rw [findFrom_snoc] at h
    by_cases c : (findFrom H p).2 = true
    · have ih:=good_bound m H (by simpa using hm) hgH p c
      refine ⟨ih.1,?_⟩
      have hne : ¬ H.length = 0:=by
       intro e
       have e' : H = []:=List.eq_nil_of_length_eq_zero e
       subst e';simp [findFrom] at c
      simp only [beq_iff_eq,Bool.or_eq_true,hne,false_or] at hfo
      have hle : (lastOf H).last0 <= a.page:=by
       unfold followB at hfo
       split at hfo
       · omega
       · simp at hfo;omega
      unfold Ar.last0 at *
      omega
    · simp only [c] at h
      by_cases d : hit a p = true
      · simp only [hit,decide_eq_true_eq] at d
        unfold Ar.last0 at *
        omega
      · simp [d] at h
structure Fine (F : Nat -> St) : Prop where
 zero : (F 0).m = false
 none : ∀ n,(F n).m = false -> F n = off
 prot : ∀ n,0 <= (F n).p /\ (F n).p <= 3
theorem bump_snoc (H : List Ar) (a : Ar) : bump (H ++ [a]) = H ++ [⟨a.page,a.pages + 1,a.prot,a.zero⟩]:=by
 unfold bump
 have e : at_ (H ++ [a]) ((H ++ [a]).length - 1) = a:=lastOf_snoc H a
 rw [e]
 simp
structure GInv (F : Nat -> St) (k : Nat) (G : List Ar) : Prop where
 good : good G = true
 look : ∀ n : Nat,AM.look G n = if n < k then F n else off
 yes : (lastTo F k).m = true -> 0 < G.length /\ (lastOf G).last0 = k /\ (lastOf G).prot = (lastTo F k).p /\ (lastOf G).zero = (lastTo F k).z
 no : (lastTo F k).m = false -> G.length = 0 ∨ (lastOf G).last0 < k ∨ k = 0
theorem look_hit (G : List Ar) (n : Nat) (h : AM.look G n = off) : (findFrom G n).2 = false:=by
 unfold AM.look at h
 by_cases c : (findFrom G n).2 = true
 · simp only [c,if_true] at h
   have:=congrArg St.m h
   simp [off] at this
 · simpa using c
theorem gather_inv (F : Nat -> St) (hF : Fine F) : ∀ k,k <= 256 -> GInv F k (gatherTo F k)
 | 0,_=>⟨rfl,fun n=>rfl,fun h=>by simp [lastTo,off] at h,fun _=>.inl rfl⟩
 | k + 1,hk=>by
  have ih:=gather_inv F hF k (by omega)
  obtain ⟨G,hG⟩ : ∃ G,G = gatherTo F k:=⟨_,rfl⟩
  rw [<- hG] at ih
  simp only [gatherTo]
  rw [<- hG]
  by_cases hm : (F k).m = false
  · rw [if_pos hm]
    refine ⟨ih.good,fun n=>?_,fun h=>?_,fun _=>?_⟩
    · rw [ih.look n]
      by_cases h1 : n < k
      · rw [if_pos h1,if_pos (by omega)]
      · rw [if_neg h1]
        by_cases h2 : n < k + 1
        · obtain rfl : n = k:=by omega
          rw [if_pos h2,hF.none n hm]
        · rw [if_neg h2]
    · have : (F k).m = true:=h
      rw [hm] at this;cases this
    · by_cases hl : (lastTo F k).m = true
      · obtain ⟨h0,h1,_⟩:=ih.yes hl
        exact .inr (.inl (by rw [h1];omega))
      · rcases ih.no (by simpa using hl) with h | h | h
        · exact .inl h
        · exact .inr (.inl (by omega))
        · subst h
          have : G = []:=hG
          exact .inl (by rw [this];rfl)
  · have hm' : (F k).m = true:=by simpa using hm
    rw [if_neg hm]
    have hk1 : 1 <= k:=by
     by_cases e : k = 0
     · subst e;rw [hF.zero] at hm';cases hm'
     · omega
    have hmiss:=look_hit G k (by rw [ih.look k,if_neg (by omega)])
    by_cases he : stEq (F k) (lastTo F k) = true
    · rw [if_pos he]
      have hst:=stEq_eq _ _ he
      obtain ⟨h0,h1,h2,h3⟩:=ih.yes (by rw [<- hst];exact hm')
      rcases List.eq_nil_or_concat G with hnil | ⟨H,a,hH⟩
      · rw [hnil] at h0;simp at h0
      · rw [List.concat_eq_append] at hH
        rw [hH,lastOf_snoc] at h1 h2 h3
        have hg:=ih.good
        rw [hH,good_snoc,Bool.and_eq_true] at hg
        obtain ⟨hgH,hok⟩:=hg
        have hok':=hok
        simp only [okNext,Bool.and_eq_true,pagesB,decide_eq_true_eq] at hok'
        obtain ⟨⟨hpa,hpr⟩,hfo⟩:=hok'
        rw [hH,bump_snoc]
        unfold Ar.last0 at h1
        refine ⟨?_,fun n=>?_,fun _=>⟨by simp,?_,?_,?_⟩,fun h=>?_⟩
        · rw [good_snoc,hgH,Bool.true_and]
          simp only [okNext,Bool.and_eq_true,pagesB,decide_eq_true_eq]
          exact ⟨⟨⟨hpa.1,by omega,by omega⟩,hpr⟩,hfo⟩
        · have hl:=ih.look n
          rw [hH] at hl
          rw [look_snoc] at hl ⊢
          by_cases c : (findFrom H n).2 = true
          · rw [if_pos c] at hl ⊢
            rw [hl]
            have hb:=good_bound _ H rfl hgH n c
            have hle : (n : Int) < a.page + a.pages:=by
             have hne : ¬ H.length = 0:=by
              intro e
              have e' : H = []:=List.eq_nil_of_length_eq_zero e
              subst e';simp [findFrom] at c
             simp only [beq_iff_eq,Bool.or_eq_true,hne,false_or] at hfo
             have hle : (lastOf H).last0 <= a.page:=by
              unfold followB at hfo
              split at hfo
              · omega
              · simp at hfo;omega
             omega
            rw [if_pos (show n < k by omega),if_pos (show n < k + 1 by omega)]
          · rw [if_neg c] at hl ⊢
            by_cases d : n = k
            · subst d
              rw [if_pos (by rw [hit_mk];exact decide_eq_true (by omega)),if_pos (by omega)]
              show St.mk true a.prot a.zero = F n
              rw [h2,h3,<- hst,<- hm']
            · by_cases e : hit a n = true
              · rw [if_pos e] at hl
                have e2 : hit ⟨a.page,a.pages + 1,a.prot,a.zero⟩ n = true:=by
                 rw [hit_iff] at e;rw [hit_mk];exact decide_eq_true (by omega)
                rw [if_pos e2]
                show St.mk true a.prot a.zero = _
                rw [hl]
                rw [hit_iff] at e
                rw [if_pos (show n < k by omega),if_pos (show n < k + 1 by omega)]
              · have e2 : ¬ hit ⟨a.page,a.pages + 1,a.prot,a.zero⟩ n = true:=by
                 rw [hit_iff] at e;rw [hit_mk,decide_eq_true_eq];omega
                rw [if_neg e] at hl
                rw [if_neg e2,hl]
                by_cases f : n < k
                · rw [if_pos f,if_pos (by omega)]
                · rw [if_neg f,if_neg (by omega)]
        · rw [lastOf_snoc];show a.page + (a.pages + 1) = _;omega
        · rw [lastOf_snoc];show a.prot = (F k).p;rw [h2,hst]
        · rw [lastOf_snoc];show a.zero = (F k).z;rw [h3,hst]
        · have : (F k).m = false:=h
          rw [hm'] at this;cases this
    · have he' : stEq (F k) (lastTo F k) = false:=by simpa using he
      rw [if_neg he]
      refine ⟨?_,fun n=>?_,fun _=>⟨by simp,?_,?_,?_⟩,fun h=>?_⟩
      · rw [good_snoc,ih.good,Bool.true_and]
        simp only [okNext,Bool.and_eq_true,pagesB,protB,decide_eq_true_eq]
        refine ⟨⟨⟨by omega,by omega,by omega⟩,hF.prot k⟩,?_⟩
        by_cases h0 : G.length = 0
        · simp [h0]
        · simp only [Bool.or_eq_true,beq_iff_eq,h0,false_or]
          by_cases hl : (lastTo F k).m = true
          · obtain ⟨_,h1,h2,h3⟩:=ih.yes hl
            unfold followB
            rw [if_pos h1.symm]
            rcases stEq_ne _ _ he' with q | ⟨_,q⟩ | ⟨_,_,q⟩
            · rw [hm',hl] at q;simp at q
            · simp only [Bool.or_eq_true,bne_iff_ne,h2]
              left
              simpa using q
            · simp only [Bool.or_eq_true,bne_iff_ne,h3]
              right
              simpa using q
          · rcases ih.no (by simpa using hl) with h | h | h
            · exact absurd h h0
            · unfold followB
              rw [if_neg (by show ¬ (k : Int) = _;omega)]
              simpa using h
            · omega
      · rw [look_snoc]
        by_cases c : (findFrom G n).2 = true
        · rw [if_pos c,ih.look n]
          by_cases f : n < k
          · rw [if_pos f,if_pos (by omega)]
          · exfalso
            have:=look_hit G n (by rw [ih.look n,if_neg f])
            rw [c] at this;cases this
        · rw [if_neg c]
          have c' : (findFrom G n).2 = false:=by simpa using c
          by_cases d : n = k
          · subst d
            rw [if_pos (by rw [hit_mk];exact decide_eq_true (by omega)),if_pos (by omega)]
            show St.mk true (F n).p (F n).z = F n
            rw [<- hm']
          · rw [if_neg (by rw [hit_mk,decide_eq_true_eq];omega)]
            have hl:=ih.look n
            have e0 : AM.look G n = off:=by unfold AM.look;simp [c']
            rw [e0] at hl
            by_cases f : n < k
            · rw [if_pos f] at hl;rw [if_pos (by omega),hl]
            · rw [if_neg (by omega)]
      · rw [lastOf_snoc];show (k : Int) + 1 = _;omega
      · rw [lastOf_snoc];rfl
      · rw [lastOf_snoc];rfl
      · have : (F k).m = false:=h
        rw [hm'] at this;cases this
theorem gather_good (F : Nat -> St) (hF : Fine F) : good (gatherN F) = true:=(gather_inv F hF 256 (Nat.le_refl _)).good
theorem gather_look (F : Nat -> St) (hF : Fine F) (n : Nat) (hn : n < 256) : look (gatherN F) n = F n:=by
 have:=(gather_inv F hF 256 (Nat.le_refl _)).look n
 rw [if_pos hn] at this
 exact this
theorem spread_look (l : List Ar) : ∀ (m : Nat) (G : List Ar),G.length = m -> good G = true -> ∀ n : Nat,look G n = spreadTo G G.length n
 | 0,G,hm,_,n=>by
  have e : G = []:=List.eq_nil_of_length_eq_zero hm
  subst e;rfl
 | m + 1,G,hm,hg,n=>by
  rcases List.eq_nil_or_concat G with rfl | ⟨H,a,rfl⟩
  · simp at hm
  · rw [List.concat_eq_append] at *
    rw [good_snoc,Bool.and_eq_true] at hg
    have ih:=spread_look l m H (by simpa using hm) hg.1 n
    have hs : ∀ k,k <= H.length -> spreadTo (H ++ [a]) k = spreadTo H k:=by
     intro k
     induction k with
     | zero=>intro _;rfl
     | succ k ihk=>intro hk;simp only [spreadTo];rw [ihk (by omega),at_append_left H [a] k (by omega)]
    rw [List.length_append]
    show _ = spreadTo (H ++ [a]) (H.length + 1) n
    simp only [spreadTo]
    rw [hs H.length (Nat.le_refl _),at_append_last,look_snoc]
    simp only [layTo]
    by_cases c : (findFrom H n).2 = true
    · rw [if_pos c,ih]
      have hb:=good_bound _ H rfl hg.1 n c
      have hok:=hg.2
      simp only [okNext,Bool.and_eq_true] at hok
      have hfo:=hok.2
      have hne : ¬ H.length = 0:=by
       intro e
       have e' : H = []:=List.eq_nil_of_length_eq_zero e
       subst e';simp [findFrom] at c
      simp only [beq_iff_eq,Bool.or_eq_true,hne,false_or] at hfo
      have hle : (lastOf H).last0 <= a.page:=by
       unfold followB at hfo
       split at hfo
       · omega
       · simp at hfo;omega
      rw [if_neg (by omega)]
    · rw [if_neg c]
      have e0 : look H n = off:=by unfold look;simp [show (findFrom H n).2 = false by simpa using c]
      by_cases d : hit a n = true
      · rw [if_pos d,if_pos (by simpa [hit] using d)]
      · rw [if_neg d,if_neg (by simpa [hit] using d),<- ih,e0]
theorem good_of_check (l : List Ar) (h : checkN l = 0) : good l = true:=by
 unfold checkN at h
 split at h
 · simp at h
 · split at h
   · assumption
   · simp at h
theorem spreadTo_fine (l : List Ar) (hc : checkN l = 0) : ∀ k,k <= l.length -> (spreadTo l k 0).m = false /\ (∀ n,(spreadTo l k n).m = false -> spreadTo l k n = off) /\ (∀ n,0 <= (spreadTo l k n).p /\ (spreadTo l k n).p <= 3)
 | 0,_=>⟨rfl,fun n _=>rfl,fun n=>by simp [spreadTo,off]⟩
 | k + 1,hk=>by
  have ih:=spreadTo_fine l hc k (by omega)
  have ho:=okAt_pages l k (good_pages l hc k (by omega))
  refine ⟨?_,fun n=>?_,fun n=>?_⟩
  · simp only [spreadTo,layTo];rw [if_neg (by omega)];exact ih.1
  · simp only [spreadTo,layTo]
    split
    · intro h;simp at h
    · exact ih.2.1 n
  · simp only [spreadTo,layTo]
    split
    · exact ⟨ho.2.2.2.1,ho.2.2.2.2⟩
    · exact ih.2.2 n
theorem fine_spread (l : List Ar) (hc : checkN l = 0) : Fine (spreadN l):=by
 have h:=spreadTo_fine l hc l.length (Nat.le_refl _)
 exact ⟨h.1,h.2.1,h.2.2⟩
theorem fine_turned (F : Nat -> St) (hF : Fine F) (how : St -> St × Int) (page t : Int) (hp : 1 <= page)
  (hn : ∀ s,(s.m = false -> s = off) -> ((how s).1.m = false -> (how s).1 = off)) (hq : ∀ s,0 <= s.p /\ s.p <= 3 -> 0 <= (how s).1.p /\ (how s).1.p <= 3) : Fine (turned F how page t):=by
 refine ⟨?_,fun n=>?_,fun n=>?_⟩
 · simp only [turned];rw [if_neg (by omega)];exact hF.zero
 · simp only [turned]
   split
   · exact hn (F n) (hF.none n)
   · exact hF.none n
 · simp only [turned]
   split
   · exact hq (F n) (hF.prot n)
   · exact hF.prot n
theorem gather_len' (F : Nat -> St) (h0 : (F 0).m = false) : ∀ k,(gatherTo F (k + 1)).length <= k
 | 0=>by simp [gatherTo,h0]
 | k + 1=>by
  have ih:=gather_len' F h0 k
  rw [gatherTo]
  split
  · omega
  · split
    · rw [bump_length];omega
    · simp;omega
theorem check_gather (F : Nat -> St) (hF : Fine F) : checkN (gatherN F) = 0:=by
 have hl : (gatherN F).length <= 255:=gather_len' F hF.zero 255
 have hg:=gather_good F hF
 unfold checkN
 rw [if_neg (by omega),if_pos hg]
theorem find_of_look (l : List Ar) (hc : checkN l = 0) (F : Nat -> St) (p : Nat) (h : look l p = F p) : (findN l p).2 = (F p).m /\ (findN l p).1.prot = (F p).p /\ (findN l p).1.zero = (F p).z:=by
 have e : findN l p = findFrom l p:=by simp [findN,hc]
 rw [e,<- h]
 unfold look
 by_cases c : (findFrom l p).2 = true
 · simp [c]
 · have c' : (findFrom l p).2 = false:=by simpa using c
   rw [findFrom_miss l p c']
   simp [nil,off]
theorem find_gather (F : Nat -> St) (hF : Fine F) (p : Nat) (hp : p < 256) : (findN (gatherN F) p).2 = (F p).m /\ (findN (gatherN F) p).1.prot = (F p).p /\ (findN (gatherN F) p).1.zero = (F p).z :=
 find_of_look _ (check_gather F hF) F p (gather_look F hF p hp)
theorem find_spread (l : List Ar) (hc : checkN l = 0) (p : Nat) : (findN l p).2 = (spreadN l p).m /\ (findN l p).1.prot = (spreadN l p).p /\ (findN l p).1.zero = (spreadN l p).z :=
 find_of_look l hc (spreadN l) p (spread_look l _ l rfl (good_of_check l hc) p)
theorem fits_of_check (l : List Ar) (hc : checkN l = 0) : (∀ i,i < l.length -> Fits (at_ l i)) /\ l.length <= 140737488351232:=by
 refine ⟨fun i hi=>?_,by have:=good_len l hc;omega⟩
 have ho:=okAt_pages l i (good_pages l hc i hi)
 unfold Fits
 omega
theorem err_zero (F : Nat -> St) (how : St -> St × Int) : ∀ (c n : Nat),errFrom F how n c = 0 -> ∀ k,n <= k -> k < n + c -> (how (F k)).2 = 0
 | 0,n,_,k,h1,h2=>by omega
 | c + 1,n,h,k,h1,h2=>by
  simp only [errFrom] at h
  split at h
  · rename_i h0
    by_cases e : k = n
    · rw [e];exact h0
    · exact err_zero F how c (n + 1) h k (by omega) (by omega)
  · rename_i h0;exact absurd h h0
end AM
namespace LM
open Go.RowKit
def pagesN (a : AM.Ar) (n : Nat) : List Int:=(List.range n).map (fun m : Nat=>a.page + (m : Int))
def pagesTo (l : List AM.Ar) : Nat -> List Int
 | 0=>[]
 | i + 1=>pagesTo l i ++ pagesN (AM.at_ l i) (AM.at_ l i).pages.toNat
def pagesOf (l : List AM.Ar) : List Int:=pagesTo l l.length
def forEachB (l : List AM.Ar) (hs : List Sh) : Bool:=decide (hs.map (·.page) = pagesOf l)
def zeroTo (l : List AM.Ar) : Nat -> Bool
 | 0=>false
 | k + 1=>zeroTo l k || (AM.at_ l k).zero
def anyZeroB (l : List AM.Ar) : Bool:=zeroTo l l.length
def sheetsTo (hs : List Sh) : Nat -> Bool
 | 0=>true
 | k + 1=>sheetsTo hs k && sheetB (shAt hs k)
def sheetsB (hs : List Sh) : Bool:=sheetsTo hs hs.length
def entB (l : List AM.Ar) (en : Int) : Bool:=(AM.findFrom l (en.tdiv 16)).2 && (decide (2 <= (AM.findFrom l (en.tdiv 16)).1.prot) && decide (en.tmod 8 = 0))
def checkL (l : List AM.Ar) (hs : List Sh) (en : Int) : Int:=if AM.checkN l = 0 then (if !anyZeroB l && (forEachB l hs && (sheetsB hs && entB l en)) then 0 else 1) else AM.checkN l
theorem pagesN_succ (a : AM.Ar) (n : Nat) : pagesN a (n + 1) = pagesN a n ++ [a.page + (n : Int)]:=by
 unfold pagesN
 rw [List.range_succ,List.map_append]
 rfl
theorem pagesN_split (a : AM.Ar) (n m : Nat) (h : n < m) : ∃ t,pagesN a m = pagesN a n ++ (a.page + (n : Int)) :: t:=by
 induction m with
 | zero=>omega
 | succ m ih =>
  by_cases e : n = m
  · subst e;exact ⟨[],pagesN_succ a n⟩
  · obtain ⟨t,ht⟩:=ih (by omega)
    exact ⟨t ++ [a.page + (m : Int)],by rw [pagesN_succ,ht];simp⟩
theorem pagesTo_more (l : List AM.Ar) (i : Nat) : ∀ n,i <= n -> ∃ t,pagesTo l n = pagesTo l i ++ t
 | 0, h => by obtain rfl : i = 0 := by omega
              exact ⟨[],by simp⟩
 | n + 1,h=>by
  by_cases e : i = n + 1
  · subst e;exact ⟨[],by simp⟩
  · obtain ⟨t,ht⟩:=pagesTo_more l i n (by omega)
    exact ⟨t ++ pagesN (AM.at_ l n) (AM.at_ l n).pages.toNat,by simp only [pagesTo];rw [ht,List.append_assoc]⟩
theorem pages_split (l : List AM.Ar) (i : Nat) (hi : i < l.length) (n : Nat) (hn : n < (AM.at_ l i).pages.toNat) : ∃ t,pagesOf l = (pagesTo l i ++ pagesN (AM.at_ l i) n) ++ ((AM.at_ l i).page + (n : Int)) :: t:=by
 obtain ⟨t,ht⟩:=pagesTo_more l (i + 1) l.length (by omega)
 obtain ⟨u,hu⟩:=pagesN_split (AM.at_ l i) n _ hn
 refine ⟨u ++ t,?_⟩
 unfold pagesOf
 rw [ht]
 simp only [pagesTo]
 rw [hu]
 simp
theorem zeroTo_mono (l : List AM.Ar) : ∀ (k n : Nat),k <= n -> zeroTo l k = true -> zeroTo l n = true
 | k, 0, h, hk => by obtain rfl : k = 0 := by omega
                     exact hk
 | k,n + 1,h,hk=>by
  by_cases e : k = n + 1
  · subst e;exact hk
  · simp [zeroTo,zeroTo_mono l k n (by omega) hk]
theorem zero_at (l : List AM.Ar) (k : Nat) (hk : k < l.length) (h : (AM.at_ l k).zero = true) : anyZeroB l = true:=zeroTo_mono l (k + 1) l.length (by omega) (by simp [zeroTo,h])
theorem zero_none (l : List AM.Ar) : ∀ n,zeroTo l n = false -> ∀ i,i < n -> (AM.at_ l i).zero = false
 | 0,_,i,hi=>by omega
 | n + 1,h,i,hi=>by
  simp only [zeroTo,Bool.or_eq_false_iff] at h
  by_cases e : i = n
  · subst e;exact h.2
  · exact zero_none l n h.1 i (by omega)
theorem sheetsTo_false (l : List Sh) : ∀ (k n : Nat),k <= n -> sheetsTo l k = false -> sheetsTo l n = false
 | k, 0, h, hk => by obtain rfl : k = 0 := by omega
                     exact hk
 | k,n + 1,h,hk=>by
  by_cases e : k = n + 1
  · subst e;exact hk
  · simp [sheetsTo,sheetsTo_false l k n (by omega) hk]
theorem sheets_bad (l : List Sh) (k : Nat) (hk : k < l.length) (h : sheetB (shAt l k) = false) : sheetsB l = false:=sheetsTo_false l (k + 1) l.length (by omega) (by simp [sheetsTo,h])
theorem sheetsTo_ok (l : List Sh) : ∀ n,sheetsTo l n = true -> ∀ i,i < n -> sheetB (shAt l i) = true
 | 0,_,i,hi=>by omega
 | n + 1,h,i,hi=>by
  simp only [sheetsTo,Bool.and_eq_true] at h
  by_cases e : i = n
  · subst e;exact h.2
  · exact sheetsTo_ok l n h.1 i (by omega)
theorem map_take_snoc (hs : List Sh) (c : Nat) (h : c < hs.length) : (hs.take (c + 1)).map (·.page) = (hs.take c).map (·.page) ++ [(shAt hs c).page]:=by
 rw [List.take_succ_eq_append_getElem h,List.map_append]
 unfold shAt
 rw [List.getD_eq_getElem?_getD,List.getElem?_eq_getElem h]
 rfl
theorem each_short {l : List AM.Ar} {hs : List Sh} {pre t : List Int} {x : Int} (hp : (hs.take hs.length).map (·.page) = pre) (ho : pagesOf l = pre ++ x :: t) : forEachB l hs = false:=by
 unfold forEachB
 refine decide_eq_false (fun e=>?_)
 rw [List.take_length] at hp
 rw [hp,ho] at e
 have:=congrArg List.length e
 simp at this
theorem each_other {l : List AM.Ar} {hs : List Sh} {pre t : List Int} {x : Int} {c : Nat} (hc : c < hs.length) (hp : (hs.take c).map (·.page) = pre) (ho : pagesOf l = pre ++ x :: t) (hx : (shAt hs c).page ≠ x) : forEachB l hs = false:=by
 unfold forEachB
 refine decide_eq_false (fun e=>?_)
 have h1:=map_take_snoc hs c hc
 rw [hp] at h1
 have h2 : hs.map (·.page) = (hs.take (c + 1)).map (·.page) ++ (hs.drop (c + 1)).map (·.page):=by rw [<- List.map_append,List.take_append_drop]
 rw [h2,h1,ho,List.append_assoc] at e
 have:=List.append_cancel_left e
 simp at this
 exact hx this.1
theorem each_done {l : List AM.Ar} {hs : List Sh} {c : Nat} (hc : c <= hs.length) (hp : (hs.take c).map (·.page) = pagesTo l l.length) : forEachB l hs = decide (c = hs.length):=by
 unfold forEachB
 by_cases e : c = hs.length
 · subst e
   rw [List.take_length] at hp
   have hp' : hs.map (·.page) = pagesOf l:=hp
   rw [decide_eq_true hp',decide_eq_true rfl]
 · rw [decide_eq_false e]
   refine decide_eq_false (fun g=>?_)
   have h1:=congrArg List.length hp
   have h2:=congrArg List.length g
   rw [List.length_map,List.length_take] at h1
   rw [List.length_map] at h2
   unfold pagesOf at h2
   omega
def LieH (w : World) (b off : Nat) (l : List Sh) : Prop:=∀ i,i < l.length ->
 w.cell? ⟨b,off + i * 3,none⟩ = some (.int .i64 (shAt l i).page) /\ w.cell? ⟨b,off + i * 3 + 1,none⟩ = some (.string (shAt l i).data) /\ w.cell? ⟨b,off + i * 3 + 2,none⟩ = some (.slice (shAt l i).ao (shAt l i).fixes.length (shAt l i).cap) /\ HasF w (shAt l i).ao (shAt l i).fixes
theorem lieH {w w' : World} {b off : Nat} {l : List Sh} (hb : Below w.heap.size w w') (hlt : b < w.heap.size) (h : LieH w b off l) : LieH w' b off l:=fun i hi=>by
 obtain ⟨c0,c1,c2,c3⟩:=h i hi
 exact ⟨(M.below_cell hb hlt).trans c0,(M.below_cell hb hlt).trans c1,(M.below_cell hb hlt).trans c2,c3.below hb⟩
def HasH (w : World) (ao : Option Addr) (l : List Sh) : Prop:=M.HasBy LieH w ao l
theorem HasH.below {w w' : World} {ao : Option Addr} {l : List Sh} (h : HasH w ao l) (hb : Below w.heap.size w w') : HasH w' ao l:=M.HasBy.below (lie:=LieH) (fun hb hlt h=>lieH hb hlt h) h hb
def FitHs (l : List Sh) : Prop:=M.Short l.length /\ ∀ k,k < l.length -> FitH (shAt l k)
theorem prot_cases {p : Int} (h : 0 <= p /\ p <= 3) : p = 0 ∨ p = 1 ∨ p = 2 ∨ p = 3:=by omega
theorem found_prot (l : List AM.Ar) (hc : AM.checkN l = 0) (p : Int) (h : (AM.findFrom l p).2 = true) : 0 <= (AM.findFrom l p).1.prot /\ (AM.findFrom l p).1.prot <= 3:=by
 by_cases e : ∃ k,k < l.length /\ AM.hit (AM.at_ l k) p = true
 · obtain ⟨k,hk,hh⟩:=e
   have : ∃ k,k < l.length /\ AM.hit (AM.at_ l k) p = true /\ ∀ i,i < k -> AM.hit (AM.at_ l i) p = false:=by
    induction k using Nat.strongRecOn with
    | _ k ih =>
     by_cases g : ∃ j,j < k /\ AM.hit (AM.at_ l j) p = true
     · obtain ⟨j,hj,hj2⟩:=g
       exact ih j hj (by omega) hj2
     · exact ⟨k,hk,hh,fun i hi=>by
        cases q : AM.hit (AM.at_ l i) p
        · rfl
        · exact (g ⟨i,hi,q⟩).elim⟩
   obtain ⟨k,hk,h1,h2⟩:=this
   rw [AM.findFrom_at l p k hk h2 h1]
   have:=AM.okAt_pages l k (AM.good_pages l hc k hk)
   exact ⟨this.2.2.2.1,this.2.2.2.2⟩
 · rw [AM.findFrom_none l p (fun i hi=>by
    cases q : AM.hit (AM.at_ l i) p
    · rfl
    · exact (e ⟨i,hi,q⟩).elim)] at h
   cases h
end LM
end Go.Proofs.YtpgifpeohlllfaaGreat
