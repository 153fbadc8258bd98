/- Laws that the library lacks: a copy of a string's bytes into a row that bears a mark behind its cells (what a conversion of a string to bytes lays). -/
import Derived.Test.YtmgifpmajmojoaaM
import Derived.Lib.Walk
import Derived.Lib.BufferWrite
import Derived.Laws.IdiomStrings
namespace Go.Proofs.Ytmgifpmajmojoaa.L
open Go.RowKit Go.Lib
set_option linter.unusedVariables false

theorem storeCells_marked (P : Program) (g o : Nat) (t : TypeId) (m1 m2 : Nat) : ∀ (vs : List Value) (i : Nat) (cur : Array Value) (w : World), w.heap[g]? = some (.cells cur t (m1, m2)) → cur.size ≤ m1 → o + i + vs.length ≤ cur.size → (∀ v ∈ vs, v.oneCell' = true) →
    (storeCells ⟨g, o, none⟩ vs i).run P w = .ok () (w.setRow g (cur.toList.take (o + i) ++ vs ++ cur.toList.drop (o + i + vs.length)).toArray)
  | [], i, cur, w, hg, _, _, _ => by
    simp only [storeCells, List.append_nil, List.length_nil, Nat.add_zero, List.take_append_drop, Array.toArray_toList]
    rw [setRow_self w g cur t (m1, m2) hg]
    rfl
  | v :: rest, i, cur, w, hg, hm, hl, h1 => by
    have hi : o + i < cur.size := by simp at hl; omega
    have hadd : (⟨g, o, none⟩ : Addr).add i = ⟨g, o + i, none⟩ := by unfold Addr.add; split <;> simp_all
    have hcell : w.cell? ⟨g, o + i, none⟩ = some cur[o + i] := by simp [World.cell?, hg, hi]
    have hfro : w.frozen? ⟨g, o + i, none⟩ = false := by simp [World.frozen?, hg]; omega
    have hst : (store ((⟨g, o, none⟩ : Addr).add i) v).run P w = .ok () (w.setRow g (cur.setIfInBounds (o + i) v)) := by
      rw [hadd, run_store P w _ v _ (h1 v (by simp)), hcell]
      simp [hfro, setCell_eq_setRow w g (o + i) cur t (m1, m2) v hg]
    have ih := storeCells_marked P g o t m1 m2 rest (i + 1) (cur.setIfInBounds (o + i) v) (w.setRow g (cur.setIfInBounds (o + i) v)) (setRow_heap w g cur _ t _ hg) (by simpa using hm) (by simp at hl ⊢; omega) (fun x hx => h1 x (by simp [hx]))
    simp only [storeCells, Sem.run_bind, hst, Result.andThen_ok, ih, setRow_setRow]
    congr 3
    have e := list_seg_step cur.toList (o + i) v rest (by simp at hl ⊢; omega)
    simpa [Array.toList_setIfInBounds, Nat.add_assoc] using e

theorem copy_marked {P : Program} (w : World) (dT sT ty elem : TypeId) (g o dLen dCap : Nat) (s : ByteArray) (cur : Array Value) (t : TypeId) (m1 m2 : Nat)
    (hu : P.underlying dT = some (.slice elem)) (hs : (P.info? elem).map (·.size) = some 1) (hg : w.heap[g]? = some (.cells cur t (m1, m2))) (hm : cur.size ≤ m1) (hle : s.size ≤ dLen) (hfit : o + s.size ≤ cur.size) :
    (Builtin.copy_ #[dT, sT] ty #[.slice (some ⟨g, o, none⟩) dLen dCap, .string s]).run P w =
      .ok (goInt s.size) (w.setRow g (cur.toList.take o ++ byteCells s.data.toList ++ cur.toList.drop (o + s.size)).toArray) := by
  have hlen : (byteCells s.data.toList).length = s.size := by rw [byteCells_length, ← size_eq]
  have hst := storeCells_marked P g o t m1 m2 (byteCells s.data.toList) 0 cur w hg hm (by rw [hlen]; simpa using hfit) (byteCells_one _)
  have hmin : Nat.min s.size dLen = s.size := Nat.min_eq_left hle
  have htk : List.take s.size (List.map (fun b : UInt8 => Value.int IntKind.u8 (b.toNat : Int)) s.data.toList) = byteCells s.data.toList := by
    rw [List.take_of_length_le (by rw [List.length_map, ← size_eq]; exact Nat.le_refl _)]
    rfl
  rw [hlen] at hst
  simp only [Nat.add_zero] at hst
  cases hq : P.info? elem with
  | none => simp [hq] at hs
  | some i =>
    simp [Builtin.copy_, run_underlying hu, Builtin.lenOf, Builtin.firstCells, sizeOf, typeInfo, hq, hmin]
    rw [htk, hst]
    simp [Result.andThen]

theorem bytesRow_size (s : ByteArray) (c : Nat) : (bytesRow s c).size = s.size + (c - s.size) := by
  simp [bytesRow]

/-- s, over which t is laid from o on -/
def over (s : ByteArray) (o : Nat) (t : ByteArray) : ByteArray := ⟨(s.data.toList.take o ++ t.data.toList ++ s.data.toList.drop (o + t.size)).toArray⟩

theorem over_cells (s : ByteArray) (o : Nat) (t : ByteArray) (c : Nat) (h : o + t.size ≤ s.size) (i : Nat) (hi : i < s.size) :
    ((bytesRow s c).toList.take o ++ byteCells t.data.toList ++ (bytesRow s c).toList.drop (o + t.size))[i]? = some (.int .u8 (((over s o t).data.toList.map fun b => (b.toNat : Int)).getD i 0)) := by
  have hts : t.size = t.data.toList.length := size_eq t
  have hss : s.size = s.data.toList.length := size_eq s
  have hr : (bytesRow s c).toList = byteCells s.data.toList ++ List.replicate (c - s.size) (.int .u8 0) := by
    simp [bytesRow, byteCells]
  have e : (bytesRow s c).toList.take o ++ byteCells t.data.toList ++ (bytesRow s c).toList.drop (o + t.size) = byteCells (over s o t).data.toList ++ List.replicate (c - s.size) (.int .u8 0) := by
    rw [hr, List.take_append_of_le_length (by rw [byteCells_length]; omega), List.drop_append_of_le_length (by rw [byteCells_length]; omega)]
    simp [over, byteCells, List.map_append, List.map_take, List.map_drop]
  have hol : (over s o t).data.toList.length = s.size := by
    simp only [over, List.length_append, List.length_take, List.length_drop]; omega
  rw [e, List.getElem?_append_left (by rw [byteCells_length, hol]; exact hi)]
  exact M.byteCells_get _ i (by rw [hol]; exact hi)

theorem over_size (s : ByteArray) (o : Nat) (t : ByteArray) (h : o + t.size ≤ s.size) : (over s o t).data.toList.length = s.size := by
  have hts : t.size = t.data.toList.length := size_eq t
  have hss : s.size = s.data.toList.length := size_eq s
  simp only [over, List.length_append, List.length_take, List.length_drop]; omega

theorem over_parts (s : ByteArray) (o : Nat) (t : ByteArray) : s.extract 0 o ++ t ++ s.extract (o + t.size) s.size = over s o t := by
  have hss : s.size = s.data.toList.length := size_eq s
  apply ByteArray.ext
  apply Array.toList_inj.1
  simp only [ByteArray.data_append, Array.toList_append, extract_data, over]
  have e : List.take (s.size - (o + t.size)) (List.drop (o + t.size) s.data.toList) = List.drop (o + t.size) s.data.toList := List.take_of_length_le (by rw [List.length_drop]; omega)
  rw [List.drop_zero, Nat.sub_zero, e]

theorem over_nil (s : ByteArray) (o : Nat) (t : ByteArray) (h : t.size = 0) : over s o t = s := by
  have hts : t.data.toList = [] := List.eq_nil_of_length_eq_zero (by rw [← size_eq]; exact h)
  apply ByteArray.ext
  simp [over, hts, h]

theorem over_size' (s : ByteArray) (o : Nat) (t : ByteArray) (h : o + t.size ≤ s.size) : (over s o t).size = s.size := by
  rw [size_eq, over_size s o t h]

theorem over_part (s : ByteArray) (o : Nat) (t : ByteArray) (h : o + t.size ≤ s.size) : (over s o t).extract o (o + t.size) = t := by
  have hts : t.size = t.data.toList.length := size_eq t
  have hss : s.size = s.data.toList.length := size_eq s
  apply ByteArray.ext
  apply Array.toList_inj.1
  have hl : (s.data.toList.take o).length = o := by rw [List.length_take]; omega
  rw [extract_data]
  simp only [over, List.toList_toArray]
  rw [List.append_assoc, List.drop_append_of_le_length (by omega), List.drop_of_length_le (by omega), List.nil_append, show o + t.size - o = t.data.toList.length from by omega, List.take_append_of_le_length (by omega), List.take_length]

theorem over_other (s : ByteArray) (o : Nat) (t : ByteArray) (h : o + t.size ≤ s.size) (x : Nat) (hx : x < s.size) (hx' : x < (over s o t).size) (hn : x < o ∨ o + t.size ≤ x) : (over s o t)[x] = s[x] := by
  have hts : t.size = t.data.toList.length := size_eq t
  have hss : s.size = s.data.toList.length := size_eq s
  have hl : (s.data.toList.take o).length = o := by rw [List.length_take]; omega
  have e : (over s o t).data.toList[x]? = s.data.toList[x]? := by
    simp only [over, List.toList_toArray]
    rcases hn with hn | hn
    · rw [List.append_assoc, List.getElem?_append_left (by omega), List.getElem?_take, if_pos hn]
    · rw [List.getElem?_append_right (by rw [List.length_append]; omega), List.getElem?_drop]
      congr 1
      rw [List.length_append]
      omega
  have e1 : (over s o t).data.toList[x]? = some (over s o t)[x] := by
    rw [List.getElem?_eq_getElem (by rw [← size_eq]; exact hx')]
    rfl
  have e2 : s.data.toList[x]? = some s[x] := by
    rw [List.getElem?_eq_getElem (by rw [← size_eq]; exact hx)]
    rfl
  rw [e1, e2] at e
  exact Option.some.inj e

end Go.Proofs.Ytmgifpmajmojoaa.L
