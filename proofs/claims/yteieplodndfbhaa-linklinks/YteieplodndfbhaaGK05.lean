import Derived.Test.YteieplodndfbhaaGK04
import Derived.Lib.Repeat
import Derived.Test.YteieplodndfbhaaProg
import Derived.Test.YteieplodndfbhaaGK00
import Derived.WalkLawsBesides
import Derived.WalkSpells
import Derived.Deep.QuietTactic
import Derived.BigQuiet
import Derived.Test.YteieplodndfbhaaGK03
import Derived.Test.YteieplodndfbhaaGK02
/- Pages, patches and fixes; plain Lean. -/
namespace Go.Proofs.Yteieplodndfbhaa.LM
open Go.RowKit
set_option linter.unusedVariables false
set_option maxRecDepth 100000

def zeros16 : ByteArray := ⟨(Lib.repeatL [0] 16).toArray⟩
theorem zeros16_size : zeros16.size = 16 := rfl
/-- page n of a segment -/
def pageN (s : M.Sg) (n : Nat) : ByteArray := CL.over zeros16 0 (s.data.extract (min (n * 16) s.data.size) (min (min (n * 16) s.data.size + 16) s.data.size))
theorem extract_size (s : ByteArray) (a b : Nat) (h1 : a ≤ b) (h2 : b ≤ s.size) : (s.extract a b).size = b - a := by
  rw [ByteArray.size_extract]
  omega
theorem pageN_size (s : M.Sg) (n : Nat) : (pageN s n).size = 16 := by
  unfold pageN
  rw [CL.over_size' _ _ _ ?_]
  · exact zeros16_size
  · rw [extract_size _ _ _ (by omega) (by omega), zeros16_size]
    omega

/-- what a relocation comes to -/
structure Pt where
  pos : Int
  bytes : ByteArray
def pt0 : Pt := ⟨0, ⟨#[]⟩⟩
def ptAt (l : List Pt) (k : Nat) : Pt := l.getD k pt0
def LieP (w : World) (b off : Nat) (l : List Pt) : Prop := ∀ i, i < l.length → w.cell? ⟨b, off + i * 2, none⟩ = some (.int .i64 (ptAt l i).pos) ∧ w.cell? ⟨b, off + i * 2 + 1, none⟩ = some (.string (ptAt l i).bytes)
theorem lieP {w w' : World} {b off : Nat} {l : List Pt} (hb : Below w.heap.size w w') (hlt : b < w.heap.size) (h : LieP w b off l) : LieP w' b off l := fun i hi => by
  obtain ⟨c0, c1⟩ := h i hi
  exact ⟨(M.below_cell hb hlt).trans c0, (M.below_cell hb hlt).trans c1⟩
def HasP (w : World) (ao : Option Addr) (l : List Pt) : Prop := M.HasBy LieP w ao l
theorem HasP.below {w w' : World} {ao : Option Addr} {l : List Pt} (h : HasP w ao l) (hb : Below w.heap.size w w') : HasP w' ao l := M.HasBy.below (lie := LieP) (fun hb hlt h => lieP hb hlt h) h hb
def cellP (p : Pt) : List Value := [.int .i64 p.pos, .string p.bytes]
def cellF (f : Fx) : List Value := [.int .i64 f.off, .string f.bytes]
/-- a patch that may be: eight bytes at a small place -/
def FitP (p : Pt) : Prop := 0 ≤ p.pos ∧ p.pos ≤ 1000000 ∧ p.bytes.size = 8

/-- what of a patch is in a page -/
def cutP (page : Int) (p : Pt) : List Fx := if max (page * 16) p.pos < min (page * 16 + 16) (p.pos + 8) then [⟨max (page * 16) p.pos - page * 16, p.bytes.extract (max (page * 16) p.pos - p.pos).toNat (max (page * 16) p.pos - p.pos + (min (page * 16 + 16) (p.pos + 8) - max (page * 16) p.pos)).toNat⟩] else []
def fixesN (page : Int) (ps : List Pt) : List Fx := ps.flatMap (cutP page)
theorem take_snoc {α : Type} (l : List α) (d : α) (k : Nat) (h : k < l.length) : l.take (k + 1) = l.take k ++ [l.getD k d] := by
  rw [List.take_succ_eq_append_getElem h, List.getD_eq_getElem?_getD, List.getElem?_eq_getElem h]
  rfl
theorem cut_len (page : Int) (p : Pt) : (cutP page p).length ≤ 1 := by
  unfold cutP
  split <;> simp
theorem fixes_len (page : Int) : ∀ ps : List Pt, (fixesN page ps).length ≤ ps.length
  | [] => by simp [fixesN]
  | p :: r => by
    have h1 := fixes_len page r
    have h2 := cut_len page p
    unfold fixesN at h1 ⊢
    rw [List.flatMap_cons, List.length_append, List.length_cons]
    omega
theorem fixesN_snoc (page : Int) (l : List Pt) (p : Pt) : fixesN page (l ++ [p]) = fixesN page l ++ cutP page p := by
  unfold fixesN
  rw [List.flatMap_append]
  simp
end Go.Proofs.Yteieplodndfbhaa.LM
/- Symbols, and what relocations come to; plain Lean. -/
namespace Go.Proofs.Yteieplodndfbhaa.LM
open Go.RowKit
set_option linter.unusedVariables false
set_option maxRecDepth 100000

def symIx (l : List M.Sy) (s : ByteArray) : Option Nat := l.findIdx? (fun y => decide (y.name = s))
theorem syAt_get (l : List M.Sy) (j : Nat) (h : j < l.length) : M.syAt l j = l[j] := by
  unfold M.syAt
  rw [List.getD_eq_getElem?_getD, List.getElem?_eq_getElem h]
  rfl
theorem symIx_at {l : List M.Sy} {s : ByteArray} {k : Nat} (hk : k < l.length) (h : (M.syAt l k).name = s) (hno : ∀ j, j < k → (M.syAt l j).name ≠ s) : symIx l s = some k := by
  unfold symIx
  refine List.findIdx?_eq_some_iff_getElem.2 ⟨hk, ?_, fun j hj => ?_⟩
  · rw [syAt_get l k hk] at h
    exact decide_eq_true h
  · have := hno j hj
    rw [syAt_get l j (by omega)] at this
    simpa using this
theorem symIx_none {l : List M.Sy} {s : ByteArray} (h : ∀ j, j < l.length → (M.syAt l j).name ≠ s) : symIx l s = none := by
  unfold symIx
  refine List.findIdx?_eq_none_iff.2 (fun y hy => ?_)
  obtain ⟨j, hj, e⟩ := List.getElem_of_mem hy
  have := h j hj
  rw [syAt_get l j hj, e] at this
  simpa using this
theorem symIx_lt {l : List M.Sy} {s : ByteArray} {k : Nat} (h : symIx l s = some k) : k < l.length := by
  unfold symIx at h
  obtain ⟨hj, _⟩ := List.findIdx?_eq_some_iff_getElem.1 h
  exact hj
/-- the address of that name in an object -/
def symN (o : Ob) (s : ByteArray) : Option Int := match symIx o.i.syms s with
  | none => none
  | some k => some (addrO o (M.syAt o.i.syms k).pos)
/-- .. in the first k objects -/
def tgtTo (l : List Ob) (s : ByteArray) : Nat → Option Int
  | 0 => none
  | k + 1 => match tgtTo l s k with
    | some t => some t
    | none => symN (obAt l k) s
def tgtN (l : List Ob) (o : Ob) (s : ByteArray) : Option Int := if s = ⟨#[]⟩ then some (addrO o 0) else tgtTo l s l.length
theorem tgtTo_some {l : List Ob} {s : ByteArray} {k : Nat} {t : Int} (h : tgtTo l s k = some t) : ∀ n, k ≤ n → tgtTo l s n = some t
  | 0, hn => by obtain rfl : k = 0 := by omega
                exact h
  | n + 1, hn => by
    by_cases e : k = n + 1
    · subst e; exact h
    · simp only [tgtTo]
      rw [tgtTo_some h n (by omega)]
/-- places of symbols and relocations are small -/
theorem places_of {i : M.Im} (hc : M.chkN i = 0) : M.placesB i = true := by
  unfold M.chkN at hc
  split at hc
  · simp at hc
  · split at hc
    · simp at hc
    · split at hc
      · simp at hc
      · split at hc
        · simp at hc
        · split at hc
          · simp at hc
          · rename_i h
            simpa using h
theorem segIn_mem : ∀ {l : List M.Sg} {a : Int} {s : M.Sg}, M.segIn l a = some s → (∃ k, k < l.length ∧ M.sgAt l k = s) ∧ M.inSeg s a = true
  | [], a, s, h => by cases h
  | x :: r, a, s, h => by
    simp only [M.segIn] at h
    split at h
    · rename_i hi
      injection h with h
      subst h
      exact ⟨⟨0, by simp, rfl⟩, hi⟩
    · obtain ⟨⟨k, hk, e⟩, hi⟩ := segIn_mem h
      exact ⟨⟨k + 1, by simpa using hk, by simpa [M.sgAt] using e⟩, hi⟩
theorem placed_bounds {i : M.Im} (hc : M.chkN i = 0) {a : Int} (h : M.placedB i.segs a = true) : 0 ≤ a ∧ a < 4080 := by
  unfold M.placedB at h
  obtain ⟨s, hs⟩ := Option.isSome_iff_exists.1 h
  obtain ⟨⟨k, hk, e⟩, hi⟩ := segIn_mem hs
  have hb := seg_bounds hc k hk
  rw [e] at hb
  unfold M.inSeg at hi
  have := of_decide_eq_true hi
  omega
theorem sym_bounds {i : M.Im} (hc : M.chkN i = 0) (k : Nat) (hk : k < i.syms.length) : 0 ≤ (M.syAt i.syms k).pos ∧ (M.syAt i.syms k).pos < 4080 := by
  have h := places_of hc
  unfold M.placesB at h
  simp only [Bool.and_eq_true] at h
  exact placed_bounds hc (M.all_at (fun y => M.placedB i.segs y.pos) M.sy0 i.syms k hk h.1)
theorem relsTo_at (i : M.Im) : ∀ n, M.relsTo i n = true → ∀ k, k < n → M.relAt i k = true
  | 0, _, k, hk => by omega
  | n + 1, h, k, hk => by
    simp only [M.relsTo, Bool.and_eq_true] at h
    by_cases e : k = n
    · subst e; exact h.2
    · exact relsTo_at i n h.1 k (by omega)
theorem rel_at {i : M.Im} (hc : M.chkN i = 0) (k : Nat) (hk : k < i.rels.length) : M.relAt i k = true := by
  have h := places_of hc
  unfold M.placesB at h
  simp only [Bool.and_eq_true] at h
  exact relsTo_at i i.rels.length h.2.1 k hk
theorem rel_bounds {i : M.Im} (hc : M.chkN i = 0) (k : Nat) (hk : k < i.rels.length) : 0 ≤ (M.rlAt i.rels k).pos ∧ (M.rlAt i.rels k).pos + 7 < 4080 := by
  have h := rel_at hc k hk
  unfold M.relAt M.wholeB at h
  simp only [Bool.and_eq_true] at h
  have h0 := placed_bounds hc h.2.1
  have h7 := placed_bounds hc h.2.2.2.2.2.2.2.2
  omega
theorem entry_bounds {i : M.Im} (hc : M.chkN i = 0) : 0 ≤ i.entry ∧ i.entry < 4080 := by
  have h := places_of hc
  unfold M.placesB at h
  simp only [Bool.and_eq_true] at h
  have he := h.2.2
  unfold M.entryB at he
  refine placed_bounds hc ?_
  unfold M.placedB
  cases e : M.segIn i.segs i.entry with
  | none => rw [e] at he; cases he
  | some s => rfl

/-- the patch of a relocation that comes to t -/
def ptOf (o : Ob) (r : M.Rl) (t : Int) : Pt := ⟨addrO o r.pos, ⟨(Lib.leBytes 8 (CM.low (t + r.add))).toArray⟩⟩
def patTo (l : List Ob) (o : Ob) : Nat → Option (List Pt)
  | 0 => some []
  | k + 1 => match patTo l o k with
    | none => none
    | some ps => match tgtN l o (M.rlAt o.i.rels k).name with
      | none => none
      | some t => some (ps ++ [ptOf o (M.rlAt o.i.rels k) t])
def patN (l : List Ob) (o : Ob) : Option (List Pt) := patTo l o o.i.rels.length
theorem patTo_none {l : List Ob} {o : Ob} {k : Nat} (h : patTo l o k = none) : ∀ n, k ≤ n → patTo l o n = none
  | 0, hn => by obtain rfl : k = 0 := by omega
                exact h
  | n + 1, hn => by
    by_cases e : k = n + 1
    · subst e; exact h
    · simp only [patTo]
      rw [patTo_none h n (by omega)]
theorem patTo_len {l : List Ob} {o : Ob} : ∀ {k : Nat} {ps : List Pt}, patTo l o k = some ps → ps.length = k
  | 0, ps, h => by simp only [patTo] at h; injection h with h; subst h; rfl
  | k + 1, ps, h => by
    simp only [patTo] at h
    cases e : patTo l o k with
    | none => rw [e] at h; cases h
    | some qs =>
      rw [e] at h
      simp only at h
      cases g : tgtN l o (M.rlAt o.i.rels k).name with
      | none => rw [g] at h; cases h
      | some t =>
        rw [g] at h
        simp only at h
        injection h with h
        subst h
        rw [List.length_append, patTo_len e]
        rfl
theorem low_wrap (n : Int) : CM.low (wrap64 n) = CM.low n := by
  unfold CM.low wrap64
  omega
end Go.Proofs.Yteieplodndfbhaa.LM
/- The sheets of objects; plain Lean. -/
namespace Go.Proofs.Yteieplodndfbhaa.LM
open Go.RowKit
set_option linter.unusedVariables false
set_option maxRecDepth 100000

/-- a sheet without the places of its fixes -/
structure Sp where
  page : Int
  data : ByteArray
  fixes : List Fx
def plain (s : Sh) : Sp := ⟨s.page, s.data, s.fixes⟩
def pgN (o : Ob) (ps : List Pt) (s : M.Sg) (m : Nat) : Sp := ⟨o.base + s.page + (m : Int), pageN s m, fixesN (o.base + s.page + (m : Int)) ps⟩
def pgsTo (o : Ob) (ps : List Pt) (s : M.Sg) (n : Nat) : List Sp := (List.range n).map (pgN o ps s)
def sgsTo (o : Ob) (ps : List Pt) : Nat → List Sp
  | 0 => []
  | k + 1 => sgsTo o ps k ++ pgsTo o ps (M.sgAt o.i.segs k) (M.sgAt o.i.segs k).pages.toNat
def obsTo (l : List Ob) : Nat → Option (List Sp)
  | 0 => some []
  | k + 1 => match obsTo l k with
    | none => none
    | some E => match patN l (obAt l k) with
      | none => none
      | some ps => some (E ++ sgsTo (obAt l k) ps (obAt l k).i.segs.length)
def sheetsN (l : List Ob) : Option (List Sp) := obsTo l l.length
theorem pgsTo_succ (o : Ob) (ps : List Pt) (s : M.Sg) (n : Nat) : pgsTo o ps s (n + 1) = pgsTo o ps s n ++ [pgN o ps s n] := by
  unfold pgsTo
  rw [List.range_succ, List.map_append]
  rfl
theorem obsTo_none {l : List Ob} {k : Nat} (h : obsTo l k = none) : ∀ n, k ≤ n → obsTo l n = none
  | 0, hn => by obtain rfl : k = 0 := by omega
                exact h
  | n + 1, hn => by
    by_cases e : k = n + 1
    · subst e; exact h
    · simp only [obsTo]
      rw [obsTo_none h n (by omega)]
theorem pat_fit {l : List Ob} {o : Ob} (hc : M.chkN o.i = 0) (h0 : 1 ≤ o.base) (h1 : o.base ≤ 2000) : ∀ (k : Nat) (ps : List Pt), k ≤ o.i.rels.length → patTo l o k = some ps → ∀ j, j < ps.length → FitP (ptAt ps j)
  | 0, ps, _, h, j, hj => by simp only [patTo] at h; injection h with h; subst h; simp at hj
  | k + 1, ps, hk, h, j, hj => by
    simp only [patTo] at h
    cases e : patTo l o k with
    | none => rw [e] at h; cases h
    | some qs =>
      rw [e] at h
      simp only at h
      cases g : tgtN l o (M.rlAt o.i.rels k).name with
      | none => rw [g] at h; cases h
      | some t =>
        rw [g] at h
        simp only at h
        injection h with h
        subst h
        rw [List.length_append] at hj
        by_cases hjq : j < qs.length
        · have := pat_fit hc h0 h1 k qs (by omega) e j hjq
          unfold ptAt at this ⊢
          rw [List.getD_eq_getElem?_getD, List.getElem?_append_left hjq, ← List.getD_eq_getElem?_getD]
          exact this
        · have hje : j = qs.length := by simp at hj; omega
          subst hje
          unfold ptAt
          rw [List.getD_eq_getElem?_getD, List.getElem?_append_right (Nat.le_refl _), Nat.sub_self]
          have hb := rel_bounds hc k (by omega)
          refine ⟨?_, ?_, ?_⟩
          · show 0 ≤ o.base * 16 + (M.rlAt o.i.rels k).pos
            omega
          · show o.base * 16 + (M.rlAt o.i.rels k).pos ≤ 1000000
            omega
          · show (⟨(Lib.leBytes 8 (CM.low (t + (M.rlAt o.i.rels k).add))).toArray⟩ : ByteArray).size = 8
            rw [Lib.size_eq]
            simp [Lib.leBytes]
/-- fixes that lie in another block than rb -/
def HasFN (rb : Option Nat) (w : World) (ao : Option Addr) (l : List Fx) : Prop := 0 < l.length → ∃ b off, ao = some ⟨b, off, none⟩ ∧ b < w.heap.size ∧ some b ≠ rb ∧ LieF w b off l
theorem HasFN.has {rb : Option Nat} {w : World} {ao : Option Addr} {l : List Fx} (h : HasFN rb w ao l) : HasF w ao l := fun hl => by
  obtain ⟨b, off, h1, h2, _, h3⟩ := h hl
  exact ⟨b, off, h1, h2, h3⟩
theorem HasFN.below {rb : Option Nat} {w w' : World} {ao : Option Addr} {l : List Fx} (h : HasFN rb w ao l) (hb : Below w.heap.size w w') : HasFN rb w' ao l := fun hl => by
  obtain ⟨b, off, h1, h2, h3, h4⟩ := h hl
  exact ⟨b, off, h1, Nat.lt_of_lt_of_le h2 hb.size, h3, lieF hb h2 h4⟩
theorem lieF_block {w w' : World} {b off : Nat} {l : List Fx} (h : LieF w b off l) (hb : w'.heap[b]? = w.heap[b]?) : LieF w' b off l := fun i hi => by
  obtain ⟨c0, c1⟩ := h i hi
  exact ⟨(World.cell?_of_block hb).trans c0, (World.cell?_of_block hb).trans c1⟩
theorem HasFN.grown {rb : Option Nat} {w w' : World} {ao : Option Addr} {l : List Fx} {g : Nat} (h : HasFN rb w ao l) (hg : w.grownBy w' rb) (hs : w.heap.size ≤ w'.heap.size) (hat : rb = some g ∨ g = w.heap.size) : HasFN (some g) w' ao l := fun hl => by
  obtain ⟨b, off, h1, h2, h3, h4⟩ := h hl
  refine ⟨b, off, h1, Nat.lt_of_lt_of_le h2 hs, fun e => ?_, lieF_block h4 (hg.block b h2 h3)⟩
  injection e with e
  rcases hat with hat | hat
  · exact h3 (by rw [hat, e])
  · omega
def AllF (rb : Option Nat) (w : World) (hs : List Sh) : Prop := ∀ k, k < hs.length → HasFN rb w (shAt hs k).ao (shAt hs k).fixes
def cellH (s : Sh) : List Value := [.int .i64 s.page, .string s.data, .slice s.ao s.fixes.length s.cap]
theorem shAt_left (l : List Sh) (x : Sh) (k : Nat) (h : k < l.length) : shAt (l ++ [x]) k = shAt l k := by
  unfold shAt
  rw [List.getD_eq_getElem?_getD, List.getElem?_append_left h, ← List.getD_eq_getElem?_getD]
theorem shAt_last (l : List Sh) (x : Sh) : shAt (l ++ [x]) l.length = x := by
  unfold shAt
  rw [List.getD_eq_getElem?_getD, List.getElem?_append_right (Nat.le_refl _)]
  simp
end Go.Proofs.Yteieplodndfbhaa.LM
namespace Go.Proofs.Yteieplodndfbhaa.AW
open Go.RowKit
set_option linter.unusedVariables false
set_option maxRecDepth 100000

set_option maxHeartbeats 400000 in
theorem end_any (p n t : Int) (z : Bool) (w : World) (h1 : -9223372036854775808 ≤ p + n) (h2 : p + n ≤ 9223372036854775807) :
    Calls Try.prog 85 #[.agg #[.int .i64 p, .int .i64 n, .int .i64 t, .bool z]] w fun e w' => e = .returned (.int .i64 (p + n)) ∧ Below w.heap.size w w' := by
  go_enter Try.func85, Try.ntmps85
  go_wp2
  go_ret
  exact ⟨rfl, (Below.refl _ _).alloc (Nat.le_refl _) _⟩

theorem rightPages_any (p n : Int) (w : World) (hp : -9223372036854775808 ≤ p ∧ p ≤ 9223372036854775807) (hn : -9223372036854775808 ≤ n ∧ n ≤ 9223372036854775807) :
    Calls Try.prog 63 #[.int .i64 p, .int .i64 n] w fun e w' => e = .returned (.bool (AM.pagesB p n)) ∧ w = w' := by
  by_cases h1 : 1 ≤ p
  · by_cases h2 : 1 ≤ n
    · by_cases h3 : n ≤ 256 - p
      · have e : AM.pagesB p n = true := by simp [AM.pagesB, h1, h2, h3]
        have h4 : n ≤ 255 - p + 1 := by omega
        rw [e]
        go_enter Try.func63, Try.ntmps63
        go_wp2
        go_ret
        exact ⟨rfl, rfl⟩
      · have e : AM.pagesB p n = false := by simp [AM.pagesB]; omega
        have h4 : decide (n ≤ 255 - p + 1) = false := by simp; omega
        rw [e]
        go_enter Try.func63, Try.ntmps63
        go_wp2
        go_ret
        exact ⟨rfl, rfl⟩
    · have e : AM.pagesB p n = false := by simp [AM.pagesB]; omega
      have h4 : decide (1 ≤ n) = false := by simp; omega
      rw [e]
      go_enter Try.func63, Try.ntmps63
      go_wp2
      go_ret
      exact ⟨rfl, rfl⟩
  · have e : AM.pagesB p n = false := by simp [AM.pagesB]; omega
    have h4 : decide (1 ≤ p) = false := by simp; omega
    rw [e]
    go_enter Try.func63, Try.ntmps63
    go_wp2
    go_ret
    exact ⟨rfl, rfl⟩

theorem rightProt_any (p : Int) (w : World) :
    Calls Try.prog 64 #[.int .i64 p] w fun e w' => e = .returned (.bool (AM.protB p)) ∧ w = w' := by
  by_cases h1 : 0 ≤ p
  · by_cases h2 : p ≤ 3
    · have e : AM.protB p = true := by simp [AM.protB, h1, h2]
      rw [e]
      go_enter Try.func64, Try.ntmps64
      go_wp2
      go_ret
      exact ⟨rfl, rfl⟩
    · have e : AM.protB p = false := by simp [AM.protB]; omega
      have h4 : decide (p ≤ 3) = false := by simp; omega
      rw [e]
      go_enter Try.func64, Try.ntmps64
      go_wp2
      go_ret
      exact ⟨rfl, rfl⟩
  · have e : AM.protB p = false := by simp [AM.protB]; omega
    have h4 : decide (0 ≤ p) = false := by simp; omega
    rw [e]
    go_enter Try.func64, Try.ntmps64
    go_wp2
    go_ret
    exact ⟨rfl, rfl⟩
end Go.Proofs.Yteieplodndfbhaa.AW
namespace Go.Proofs.Yteieplodndfbhaa.AW
open Go.RowKit
set_option linter.unusedVariables false
set_option maxRecDepth 100000

set_option maxHeartbeats 400000 in
theorem mayFollow_eq (ap an at' bp bn bt : Int) (az bz : Bool) (w : World) (h1 : -9223372036854775808 ≤ ap + an) (h2 : ap + an ≤ 9223372036854775807) (he : bp = ap + an) :
    Calls Try.prog 65 #[.agg #[.int .i64 ap, .int .i64 an, .int .i64 at', .bool az], .agg #[.int .i64 bp, .int .i64 bn, .int .i64 bt, .bool bz]] w fun e w' => e = .returned (.bool (bt != at' || bz != az)) ∧ Below w.heap.size w w' := by
  obtain ⟨W, hW⟩ : ∃ W, W = (w.alloc (.cells #[.int .i64 ap, .int .i64 an, .int .i64 at', .bool az] 99)).alloc (.cells #[.int .i64 bp, .int .i64 bn, .int .i64 bt, .bool bz] 99) := ⟨_, rfl⟩
  have hs : W.heap.size = w.heap.size + 2 := by rw [hW]; simp
  have hkin := Q.kin_some W
  have hkc := @Q.cell_kin W
  have c0 : ∀ x : Q.Kin W.heap.size W, x.world.cell? ⟨w.heap.size, 0, none⟩ = some (.int .i64 ap) := fun x => by rw [hkc x _ _ (by omega), hW]; simp
  have c1 : ∀ x : Q.Kin W.heap.size W, x.world.cell? ⟨w.heap.size, 1, none⟩ = some (.int .i64 an) := fun x => by rw [hkc x _ _ (by omega), hW]; simp
  have c2 : ∀ x : Q.Kin W.heap.size W, x.world.cell? ⟨w.heap.size, 2, none⟩ = some (.int .i64 at') := fun x => by rw [hkc x _ _ (by omega), hW]; simp
  have c3 : ∀ x : Q.Kin W.heap.size W, x.world.cell? ⟨w.heap.size, 3, none⟩ = some (.bool az) := fun x => by rw [hkc x _ _ (by omega), hW]; simp
  have d0 : ∀ x : Q.Kin W.heap.size W, x.world.cell? ⟨w.heap.size + 1, 0, none⟩ = some (.int .i64 bp) := fun x => by rw [hkc x _ _ (by omega), hW]; simp
  have d2 : ∀ x : Q.Kin W.heap.size W, x.world.cell? ⟨w.heap.size + 1, 2, none⟩ = some (.int .i64 bt) := fun x => by rw [hkc x _ _ (by omega), hW]; simp
  have d3 : ∀ x : Q.Kin W.heap.size W, x.world.cell? ⟨w.heap.size + 1, 3, none⟩ = some (.bool bz) := fun x => by rw [hkc x _ _ (by omega), hW]; simp
  have hbW : Hid (Below w.heap.size w W) := by show Below _ _ _; rw [hW]; exact ((Below.refl _ _).alloc (Nat.le_refl _) _).alloc (by simp) _
  have HW : Hid (W = (w.alloc (.cells #[.int .i64 ap, .int .i64 an, .int .i64 at', .bool az] 99)).alloc (.cells #[.int .i64 bp, .int .i64 bn, .int .i64 bt, .bool bz] 99)) := hW
  clear hW hs hkc
  have hx : (bp == ap + an) = true := by simp [he]
  clear he
  go_enter Try.func65, Try.ntmps65
  go_wp2_with fail
  rw [← HW.out]
  refine Q.region_kin (by kernel_rfl) (by kernel_rfl) ?_
  repeat (first | go_big_quiet_step ((go_at_call 85; exact Q.calls_kin (fun W => end_any _ _ _ _ W h1 h2) _)) | quiet_step ((go_at_call 85; exact Q.calls_kin (fun W => end_any _ _ _ _ W h1 h2) _)))
  refine wpQuiet_nil ?_
  intro _ hw'
  obtain ⟨x, hw''⟩ := hw'
  subst hw''
  go_wp2
  all_goals go_ret
  all_goals exact ⟨by first | (simp [*]; done) | (simp [*]; cases bz <;> cases az <;> rfl), hbW.out.trans (x.keeps.mono hbW.out.size)⟩

set_option maxHeartbeats 400000 in
theorem mayFollow_ne (ap an at' bp bn bt : Int) (az bz : Bool) (w : World) (h1 : -9223372036854775808 ≤ ap + an) (h2 : ap + an ≤ 9223372036854775807) (he : ¬ bp = ap + an) :
    Calls Try.prog 65 #[.agg #[.int .i64 ap, .int .i64 an, .int .i64 at', .bool az], .agg #[.int .i64 bp, .int .i64 bn, .int .i64 bt, .bool bz]] w fun e w' => e = .returned (.bool (decide (ap + an < bp))) ∧ Below w.heap.size w w' := by
  obtain ⟨W, hW⟩ : ∃ W, W = (w.alloc (.cells #[.int .i64 ap, .int .i64 an, .int .i64 at', .bool az] 99)).alloc (.cells #[.int .i64 bp, .int .i64 bn, .int .i64 bt, .bool bz] 99) := ⟨_, rfl⟩
  have hs : W.heap.size = w.heap.size + 2 := by rw [hW]; simp
  have hkin := Q.kin_some W
  have hkc := @Q.cell_kin W
  have c0 : ∀ x : Q.Kin W.heap.size W, x.world.cell? ⟨w.heap.size, 0, none⟩ = some (.int .i64 ap) := fun x => by rw [hkc x _ _ (by omega), hW]; simp
  have c1 : ∀ x : Q.Kin W.heap.size W, x.world.cell? ⟨w.heap.size, 1, none⟩ = some (.int .i64 an) := fun x => by rw [hkc x _ _ (by omega), hW]; simp
  have c2 : ∀ x : Q.Kin W.heap.size W, x.world.cell? ⟨w.heap.size, 2, none⟩ = some (.int .i64 at') := fun x => by rw [hkc x _ _ (by omega), hW]; simp
  have c3 : ∀ x : Q.Kin W.heap.size W, x.world.cell? ⟨w.heap.size, 3, none⟩ = some (.bool az) := fun x => by rw [hkc x _ _ (by omega), hW]; simp
  have d0 : ∀ x : Q.Kin W.heap.size W, x.world.cell? ⟨w.heap.size + 1, 0, none⟩ = some (.int .i64 bp) := fun x => by rw [hkc x _ _ (by omega), hW]; simp
  have hbW : Hid (Below w.heap.size w W) := by show Below _ _ _; rw [hW]; exact ((Below.refl _ _).alloc (Nat.le_refl _) _).alloc (by simp) _
  have HW : Hid (W = (w.alloc (.cells #[.int .i64 ap, .int .i64 an, .int .i64 at', .bool az] 99)).alloc (.cells #[.int .i64 bp, .int .i64 bn, .int .i64 bt, .bool bz] 99)) := hW
  have hs2 : Hid (w.heap.size + 2 ≤ W.heap.size) := by show _ ≤ _; omega
  clear hW hs hkc
  have hx : (bp == ap + an) = false := by simp [he]
  clear he
  go_enter Try.func65, Try.ntmps65
  go_wp2_with fail
  rw [← HW.out]
  refine Q.region_kin (by kernel_rfl) (by kernel_rfl) ?_
  repeat (first | go_big_quiet_step ((go_at_call 85; exact Q.calls_kin (fun W => end_any _ _ _ _ W h1 h2) _)) | quiet_step ((go_at_call 85; exact Q.calls_kin (fun W => end_any _ _ _ _ W h1 h2) _)))
  refine wpQuiet_nil ?_
  intro _ hw'
  obtain ⟨x, hw''⟩ := hw'
  subst hw''
  have c0x := c0 x
  have c1x := c1 x
  have c2x := c2 x
  have c3x := c3 x
  have d0x := d0 x
  have hsx : Hid (w.heap.size + 2 ≤ x.world.heap.size) := Nat.le_trans hs2.out x.keeps.size
  have hbx : Hid (Below w.heap.size w x.world) := hbW.out.trans (x.keeps.mono hbW.out.size)
  clear HW c0 c1 c2 c3 d0 hkin hbW hs2
  obtain ⟨V, hV⟩ : ∃ V, V = x.world := ⟨_, rfl⟩
  rw [← hV] at c0x c1x c2x c3x d0x hsx hbx ⊢
  clear hV
  have hkin := Q.kin_some V
  have hkc := @Q.cell_kin V
  have hsx' := hsx.out
  have c0 : ∀ x : Q.Kin V.heap.size V, x.world.cell? ⟨w.heap.size, 0, none⟩ = some (.int .i64 ap) := fun x => by rw [hkc x _ _ (by omega), c0x]
  have c1 : ∀ x : Q.Kin V.heap.size V, x.world.cell? ⟨w.heap.size, 1, none⟩ = some (.int .i64 an) := fun x => by rw [hkc x _ _ (by omega), c1x]
  have c2 : ∀ x : Q.Kin V.heap.size V, x.world.cell? ⟨w.heap.size, 2, none⟩ = some (.int .i64 at') := fun x => by rw [hkc x _ _ (by omega), c2x]
  have c3 : ∀ x : Q.Kin V.heap.size V, x.world.cell? ⟨w.heap.size, 3, none⟩ = some (.bool az) := fun x => by rw [hkc x _ _ (by omega), c3x]
  have d0 : ∀ x : Q.Kin V.heap.size V, x.world.cell? ⟨w.heap.size + 1, 0, none⟩ = some (.int .i64 bp) := fun x => by rw [hkc x _ _ (by omega), d0x]
  clear hkc hsx'
  go_wp2_with fail
  refine Q.region_kin (by kernel_rfl) (by kernel_rfl) ?_
  repeat (first | go_big_quiet_step ((go_at_call 85; exact Q.calls_kin (fun W => end_any _ _ _ _ W h1 h2) _)) | quiet_step ((go_at_call 85; exact Q.calls_kin (fun W => end_any _ _ _ _ W h1 h2) _)))
  refine wpQuiet_nil ?_
  intro _ hw'
  obtain ⟨y, hw''⟩ := hw'
  subst hw''
  go_wp2
  go_ret
  exact ⟨rfl, hbx.out.trans (y.keeps.mono hbx.out.size)⟩

theorem mayFollow_any (a b : AM.Ar) (w : World) (h1 : -9223372036854775808 ≤ a.page + a.pages) (h2 : a.page + a.pages ≤ 9223372036854775807) :
    Calls Try.prog 65 #[.agg #[.int .i64 a.page, .int .i64 a.pages, .int .i64 a.prot, .bool a.zero], .agg #[.int .i64 b.page, .int .i64 b.pages, .int .i64 b.prot, .bool b.zero]] w fun e w' => e = .returned (.bool (AM.followB a b)) ∧ Below w.heap.size w w' := by
  unfold AM.followB AM.Ar.last0
  split
  · exact mayFollow_eq _ _ _ _ _ _ _ _ w h1 h2 (by assumption)
  · exact mayFollow_ne _ _ _ _ _ _ _ _ w h1 h2 (by assumption)
end Go.Proofs.Yteieplodndfbhaa.AW
namespace Go.Proofs.Yteieplodndfbhaa.AW
open Go.RowKit
set_option linter.unusedVariables false
set_option maxRecDepth 100000

theorem ret_int {k : IntKind} {a b : Int} (h : a = b) : Ending.returned (.int k a) = .returned (.int k b) := by rw [h]

set_option maxHeartbeats 1000000 in
theorem check_some (l : List AM.Ar) (b off cap : Nat) (w : World) (hl : AM.Lie w b off l) (hf : ∀ i, i < l.length → AM.Fits (AM.at_ l i)) (hn : l.length ≤ 140737488351232) :
    Calls Try.prog 39 #[.slice (some ⟨b, off, none⟩) l.length cap] w fun e w' => e = .returned (.int .i64 (AM.checkN l)) ∧ Below w.heap.size w w' := by
  by_cases hm : 255 < l.length
  · have e : AM.checkN l = 2 := by simp [AM.checkN, hm]
    rw [e]
    have hm' : (255 : Int) < (l.length : Int) := by omega
    go_enter Try.func39, Try.ntmps39
    go_wp2
    go_ret
    exact ⟨rfl, Below.refl _ _⟩
  · have hm' : ¬ (255 : Int) < (l.length : Int) := by omega
    have e : AM.checkN l = if AM.good l then 0 else 1 := by simp [AM.checkN, hm]
    have E : Hid (AM.checkN l = if AM.good l then 0 else 1) := e
    clear e
    go_enter Try.func39, Try.ntmps39
    go_wp2
    go_loopw [10] (fun i wr => ∃ k : Nat, k ≤ l.length ∧ i = .int .i64 k ∧ AM.goodTo l k = true ∧ Below w.heap.size w wr) (fun i _ => l.length - (intOf i).toNat)
    case atStart => exact ⟨0, by omega, rfl, rfl, Below.refl _ _⟩
    case round =>
      obtain ⟨k, hk, rfl, hg, hb⟩ := hrel
      have HG : Hid (AM.goodTo l k = true) := hg
      clear hg
      by_cases hlt : k < l.length
      · obtain ⟨c0, c1, c2, c3⟩ := (hl.below hb) k hlt
        obtain ⟨f1, f2, f3⟩ := hf k hlt
        obtain ⟨a, ha⟩ : ∃ a, a = AM.at_ l k := ⟨_, rfl⟩
        rw [← ha] at c0 c1 c2 c3 f1 f2 f3
        have HA : Hid (a = AM.at_ l k) := ha
        clear ha
        by_cases hp : AM.pagesB a.page a.pages = true
        · by_cases hq : AM.protB a.prot = true
          · obtain ⟨W, hW⟩ : ∃ W, W = wr.alloc (.cells #[.int .i64 a.page, .int .i64 a.pages, .int .i64 a.prot, .bool a.zero] 99) := ⟨_, rfl⟩
            have hs : W.heap.size = wr.heap.size + 1 := by rw [hW]; simp
            have hbW : Hid (Below w.heap.size w W) := by show Below _ _ _; rw [hW]; exact hb.alloc hb.size _
            by_cases hk0 : k = 0
            · have hok : Hid (AM.okAt l k = true) := by show _ = true; unfold AM.okAt; rw [← HA.out, hp, hq, hk0]; rfl
              have z1 : decide ((0 : Int) < (k : Int)) = false := by simp; omega
              have z2 : decide (0 < k) = false := by simp; omega
              clear hk0
              go_wp2_with (first | (go_at_call 63; refine (rightPages_any _ _ _ f1 f2).mono ?_; rintro e w' ⟨rfl, rfl⟩) | (go_at_call 64; refine (rightProt_any _ _).mono ?_; rintro e w' ⟨rfl, rfl⟩))
              go_quiet (fail)
              go_wp2
              go_roundw
              case rel => exact ⟨k + 1, by omega, by go_num, AM.ok_step l k HG.out hok.out, below_drewN (hb.alloc hb.size _) _⟩
              case measure => simp [intOf]; omega
            · have hkin := Q.kin_some W
              have hkc := @Q.cell_kin W
              have hlW := hl.below hbW.out
              have hbl := hlW.lt k hlt
              obtain ⟨g0, g1, g2, g3⟩ := hlW (k - 1) (by omega)
              obtain ⟨fp1, fp2, fp3⟩ := hf (k - 1) (by omega)
              obtain ⟨p, hpd⟩ : ∃ p, p = AM.at_ l (k - 1) := ⟨_, rfl⟩
              rw [← hpd] at g0 g1 g2 g3 fp1 fp2 fp3
              have hprev := AM.goodTo_ok l k HG.out (k - 1) (by omega)
              have hps : AM.pagesB p.page p.pages = true := by
                unfold AM.okAt at hprev
                rw [← hpd] at hprev
                simp only [Bool.and_eq_true] at hprev
                exact hprev.1.1
              have hpb : 1 ≤ p.page ∧ 1 ≤ p.pages ∧ p.pages ≤ 256 - p.page := by simpa [AM.pagesB] using hps
              have hok : Hid (AM.okAt l k = AM.followB p a) := by show _ = _; unfold AM.okAt; rw [← HA.out, ← hpd, hp, hq]; simp [hk0]
              have k0 : ∀ x : Q.Kin W.heap.size W, x.world.cell? ⟨b, off + (k - 1) * 4, none⟩ = some (.int .i64 p.page) := fun x => by rw [hkc x _ _ hbl, g0]
              have k1 : ∀ x : Q.Kin W.heap.size W, x.world.cell? ⟨b, off + (k - 1) * 4 + 1, none⟩ = some (.int .i64 p.pages) := fun x => by rw [hkc x _ _ hbl, g1]
              have k2 : ∀ x : Q.Kin W.heap.size W, x.world.cell? ⟨b, off + (k - 1) * 4 + 2, none⟩ = some (.int .i64 p.prot) := fun x => by rw [hkc x _ _ hbl, g2]
              have k3 : ∀ x : Q.Kin W.heap.size W, x.world.cell? ⟨b, off + (k - 1) * 4 + 3, none⟩ = some (.bool p.zero) := fun x => by rw [hkc x _ _ hbl, g3]
              have e0 : ∀ x : Q.Kin W.heap.size W, x.world.cell? ⟨wr.heap.size, 0, none⟩ = some (.int .i64 a.page) := fun x => by rw [hkc x _ _ (by omega), hW]; simp
              have e1 : ∀ x : Q.Kin W.heap.size W, x.world.cell? ⟨wr.heap.size, 1, none⟩ = some (.int .i64 a.pages) := fun x => by rw [hkc x _ _ (by omega), hW]; simp
              have e2 : ∀ x : Q.Kin W.heap.size W, x.world.cell? ⟨wr.heap.size, 2, none⟩ = some (.int .i64 a.prot) := fun x => by rw [hkc x _ _ (by omega), hW]; simp
              have e3 : ∀ x : Q.Kin W.heap.size W, x.world.cell? ⟨wr.heap.size, 3, none⟩ = some (.bool a.zero) := fun x => by rw [hkc x _ _ (by omega), hW]; simp
              have HW : Hid (W = wr.alloc (.cells #[.int .i64 a.page, .int .i64 a.pages, .int .i64 a.prot, .bool a.zero] 99)) := hW
              have hk1 : (1 : Int) ≤ (k : Int) := by omega
              have hk2 : 0 < k := by omega
              have hk3 : (0 : Int) < (k : Int) := by omega
              clear hW hs hkc hlW hbl g0 g1 g2 g3 hpd hprev hps hl
              by_cases hfo : AM.followB p a = true
              · go_wp2_with (first | (go_at_call 63; refine (rightPages_any _ _ _ f1 f2).mono ?_; rintro e w' ⟨rfl, rfl⟩) | (go_at_call 64; refine (rightProt_any _ _).mono ?_; rintro e w' ⟨rfl, rfl⟩))
                rw [← HW.out]
                refine Q.region_kin (by kernel_rfl) (by kernel_rfl) ?_
                repeat (first | go_big_quiet_step ((go_at_call 65; exact Q.calls_kin (fun W => mayFollow_any p a W (by omega) (by omega)) _)) | quiet_step ((go_at_call 65; exact Q.calls_kin (fun W => mayFollow_any p a W (by omega) (by omega)) _)))
                refine wpQuiet_nil ?_
                intro _ hw'
                obtain ⟨x, hw''⟩ := hw'
                subst hw''
                go_wp2
                go_roundw
                case rel => exact ⟨k + 1, by omega, by go_num, AM.ok_step l k HG.out (hok.out.trans hfo), hbW.out.trans (x.keeps.mono hbW.out.size)⟩
                case measure => simp [intOf]; omega
              · have hfo' : AM.followB p a = false := by simpa using hfo
                clear hfo
                go_wp2_with (first | (go_at_call 63; refine (rightPages_any _ _ _ f1 f2).mono ?_; rintro e w' ⟨rfl, rfl⟩) | (go_at_call 64; refine (rightProt_any _ _).mono ?_; rintro e w' ⟨rfl, rfl⟩))
                rw [← HW.out]
                refine Q.region_kin (by kernel_rfl) (by kernel_rfl) ?_
                repeat (first | go_big_quiet_step ((go_at_call 65; exact Q.calls_kin (fun W => mayFollow_any p a W (by omega) (by omega)) _)) | quiet_step ((go_at_call 65; exact Q.calls_kin (fun W => mayFollow_any p a W (by omega) (by omega)) _)))
                refine wpQuiet_nil ?_
                intro _ hw'
                obtain ⟨x, hw''⟩ := hw'
                subst hw''
                go_wp2
                go_ret
                exact ⟨ret_int (by rw [E.out, AM.bad_at l k hlt (hok.out.trans hfo')]; rfl), hbW.out.trans (x.keeps.mono hbW.out.size)⟩
          · have hq' : AM.protB a.prot = false := by simpa using hq
            clear hq
            have hbad : Hid (AM.okAt l k = false) := by show _ = false; unfold AM.okAt; rw [← HA.out, hp, hq']; rfl
            go_wp2_with (first | (go_at_call 63; refine (rightPages_any _ _ _ f1 f2).mono ?_; rintro e w' ⟨rfl, rfl⟩) | (go_at_call 64; refine (rightProt_any _ _).mono ?_; rintro e w' ⟨rfl, rfl⟩))
            go_ret
            exact ⟨ret_int (by rw [E.out, AM.bad_at l k hlt hbad.out]; rfl), hb.alloc hb.size _⟩
        · have hp' : AM.pagesB a.page a.pages = false := by simpa using hp
          clear hp
          have hbad : Hid (AM.okAt l k = false) := by show _ = false; unfold AM.okAt; rw [← HA.out, hp']; rfl
          go_wp2_with (first | (go_at_call 63; refine (rightPages_any _ _ _ f1 f2).mono ?_; rintro e w' ⟨rfl, rfl⟩))
          go_ret
          exact ⟨ret_int (by rw [E.out, AM.bad_at l k hlt hbad.out]; rfl), hb.alloc hb.size _⟩
      · obtain rfl : k = l.length := by omega
        go_wp2
        go_ret
        exact ⟨ret_int (by rw [E.out, show AM.good l = true from HG.out]; rfl), hb⟩

theorem check_nil (ao : Option Addr) (cap : Nat) (w : World) :
    Calls Try.prog 39 #[.slice ao 0 cap] w fun e w' => e = .returned (.int .i64 (AM.checkN [])) ∧ Below w.heap.size w w' := by
  have e : AM.checkN [] = 0 := by decide
  rw [e]
  go_enter Try.func39, Try.ntmps39
  go_wp2
  refine wp_loop_rounds 1 ?_
  rw [rounds_succ]
  go_wp2
  go_ret
  exact ⟨rfl, Below.refl _ _⟩
end Go.Proofs.Yteieplodndfbhaa.AW
namespace Go.Proofs.Yteieplodndfbhaa.AW
open Go.RowKit
set_option linter.unusedVariables false
set_option maxRecDepth 100000

end Go.Proofs.Yteieplodndfbhaa.AW
namespace Go.Proofs.Yteieplodndfbhaa.AW
open Go.RowKit
set_option linter.unusedVariables false
set_option maxRecDepth 100000

/-- the values of an area -/
def cellsOf (a : AM.Ar) : Array Value := #[.int .i64 a.page, .int .i64 a.pages, .int .i64 a.prot, .bool a.zero]

set_option maxHeartbeats 2000000 in
theorem find_some (l : List AM.Ar) (b off cap : Nat) (p : Int) (w : World) (hl : AM.Lie w b off l) (hf : ∀ i, i < l.length → AM.Fits (AM.at_ l i)) (hn : l.length ≤ 140737488351232) :
    Calls Try.prog 66 #[.slice (some ⟨b, off, none⟩) l.length cap, .int .i64 p] w fun e w' => e = .returned (.tuple #[.agg (cellsOf (AM.findN l p).1), .bool (AM.findN l p).2]) ∧ Below w.heap.size w w' := by
  have hbz : Below w.heap.size w (w.alloc (.cells #[.int .i64 0, .int .i64 0, .int .i64 0, .bool false] 99)) := (Below.refl _ _).alloc (Nat.le_refl _) _
  by_cases hc : AM.checkN l = 0
  · have hlen := AM.good_len l hc
    have HC : Hid (AM.findN l p = AM.findFrom l p) := by show _ = _; simp [AM.findN, hc]
    have HK : Hid (AM.checkN l = 0) := hc
    go_enter Try.func66, Try.ntmps66
    go_wp2_with fail
    refine (check_some l b off cap _ (hl.below hbz) hf hn).mono ?_
    rintro e w1 ⟨rfl, hb1⟩
    rw [hc]
    clear hc
    go_wp2
    go_loopw [14] (fun i wr => ∃ k : Nat, k ≤ l.length ∧ i = .int .i64 k ∧ (∀ j, j < k → AM.hit (AM.at_ l j) p = false) ∧ Below (w.heap.size + 1) (w.alloc (.cells #[.int .i64 0, .int .i64 0, .int .i64 0, .bool false] 99)) wr) (fun i _ => l.length - (intOf i).toNat)
    case atStart => exact ⟨0, by omega, rfl, fun j hj => by omega, hb1.mono (by simp)⟩
    case round =>
      obtain ⟨k, hk, rfl, hno, hb⟩ := hrel
      have HN : Hid (∀ j, j < k → AM.hit (AM.at_ l j) p = false) := hno
      have hbw : Hid (Below w.heap.size w wr) := hbz.trans (hb.mono (Nat.le_succ _))
      have hsz : w.heap.size + 1 ≤ wr.heap.size := by have := hb.size; simpa using this
      have hlr := hl.below hbw.out
      have hR : wr.heap[w.heap.size]? = some (.cells #[.int .i64 0, .int .i64 0, .int .i64 0, .bool false] 99 (0, 0)) := B.below (B.new w _ _) hb (Nat.lt_succ_self _)
      have HR : Hid (wr.heap[w.heap.size]? = some (.cells #[.int .i64 0, .int .i64 0, .int .i64 0, .bool false] 99 (0, 0))) := hR
      have HB : Hid (Below (w.heap.size + 1) (w.alloc (.cells #[.int .i64 0, .int .i64 0, .int .i64 0, .bool false] 99)) wr) := hb
      clear hR hb
      clear hno hb1
      by_cases hlt : k < l.length
      · obtain ⟨c0, c1, c2, c3⟩ := hlr k hlt
        have hbk := AM.okAt_pages l k (AM.good_pages l HK.out k hlt)
        obtain ⟨a, ha⟩ : ∃ a, a = AM.at_ l k := ⟨_, rfl⟩
        rw [← ha] at c0 c1 c2 c3 hbk
        have HA : Hid (a = AM.at_ l k) := ha
        clear ha
        by_cases h1 : a.page ≤ p
        · by_cases h2 : p < a.page + a.pages
          · have hres : Hid (AM.findN l p = (a, true)) := by
              show _ = _
              rw [HC.out, AM.findFrom_at l p k hlt HN.out (by rw [← HA.out]; simp [AM.hit, AM.Ar.last0, h1, h2]), ← HA.out]
            go_wp2_with fail
            refine (end_any _ _ _ _ _ (by omega) (by omega)).mono ?_
            rintro e w2 ⟨rfl, hb2⟩
            have hA2 := B.below (B.new wr #[.int .i64 a.page, .int .i64 a.pages, .int .i64 a.prot, .bool a.zero] 99) hb2 (by simp)
            have hR2 := B.below (B.alloc HR.out _) hb2 (by simp; omega)
            have s0 := B.cell hA2 0 rfl
            have s1 := B.cell hA2 1 rfl
            have s2 := B.cell hA2 2 rfl
            have s3 := B.cell hA2 3 rfl
            have t0 := B.cell hR2 0 rfl
            have t1 := B.cell hR2 1 rfl
            have t2 := B.cell hR2 2 rfl
            have t3 := B.cell hR2 3 rfl
            have u0 := B.free hR2
            have hbe : Hid (Below w.heap.size w w2) := (hbw.out.alloc hbw.out.size _).trans (hb2.mono (by simp; omega))
            have hsz2 : wr.heap.size + 1 ≤ w2.heap.size := by have := hb2.size; simpa using this
            clear hb2 hA2 hR2
            go_wp2
            exact bodyPost_ret (v := .tuple #[.agg #[.int .i64 a.page, .int .i64 a.pages, .int .i64 a.prot, .bool a.zero], .bool true]) (by simp [results, Try.results66, go_sem, t0, t1, t2, t3]) rfl ⟨by rw [hres.out]; rfl, (((hbe.out.setCell (Nat.le_refl _) _).setCell (Nat.le_refl _) _).setCell (Nat.le_refl _) _).setCell (Nat.le_refl _) _⟩
          · have hmiss : Hid (AM.hit (AM.at_ l k) p = false) := by show _ = _; rw [← HA.out]; unfold AM.hit AM.Ar.last0; exact decide_eq_false (by omega)
            go_wp2_with fail
            refine (end_any _ _ _ _ _ (by omega) (by omega)).mono ?_
            rintro e w2 ⟨rfl, hb2⟩
            have hbe : Hid (Below (w.heap.size + 1) (w.alloc (.cells #[.int .i64 0, .int .i64 0, .int .i64 0, .bool false] 99)) w2) := (HB.out.alloc (by omega) _).trans (hb2.mono (by simp; omega))
            clear hb2
            go_wp2
            go_roundw
            case rel => exact ⟨k + 1, by omega, by go_num, fun j hj => if e : j = k then by rw [e]; exact hmiss.out else HN.out j (by omega), hbe.out⟩
            case measure => simp [intOf]; omega
        · have hmiss : Hid (AM.hit (AM.at_ l k) p = false) := by show _ = _; rw [← HA.out]; unfold AM.hit AM.Ar.last0; exact decide_eq_false (by omega)
          have d1 : decide (a.page ≤ p) = false := by simp; omega
          go_wp2
          go_roundw
          case rel => exact ⟨k + 1, by omega, by go_num, fun j hj => if e : j = k then by rw [e]; exact hmiss.out else HN.out j (by omega), HB.out.alloc (by omega) _⟩
          case measure => simp [intOf]; omega
      · obtain rfl : k = l.length := by omega
        have hres : Hid (AM.findN l p = (AM.nil, false)) := by show _ = _; rw [HC.out, AM.findFrom_none l p HN.out]
        have t0 := B.cell HR.out 0 rfl
        have t1 := B.cell HR.out 1 rfl
        have t2 := B.cell HR.out 2 rfl
        have t3 := B.cell HR.out 3 rfl
        have u0 := B.free HR.out
        go_wp2
        exact bodyPost_ret (v := .tuple #[.agg #[.int .i64 0, .int .i64 0, .int .i64 0, .bool false], .bool false]) (by simp [results, Try.results66, go_sem, t0, t1, t2, t3]) rfl ⟨by rw [hres.out]; rfl, (((hbw.out.setCell (Nat.le_refl _) _).setCell (Nat.le_refl _) _).setCell (Nat.le_refl _) _).setCell (Nat.le_refl _) _⟩
  · have HC : Hid (AM.findN l p = (AM.nil, false)) := by show _ = _; simp [AM.findN, hc]
    have hc' : (AM.checkN l != 0) = true := by simpa using hc
    go_enter Try.func66, Try.ntmps66
    go_wp2_with fail
    refine (check_some l b off cap _ (hl.below hbz) hf hn).mono ?_
    rintro e w1 ⟨rfl, hb1⟩
    have hR1 := B.below (B.new w #[.int .i64 0, .int .i64 0, .int .i64 0, .bool false] 99) hb1 (by simp)
    have t0 := B.cell hR1 0 rfl
    have t1 := B.cell hR1 1 rfl
    have t2 := B.cell hR1 2 rfl
    have t3 := B.cell hR1 3 rfl
    have u0 := B.free hR1
    clear hR1
    go_wp2
    exact bodyPost_ret (v := .tuple #[.agg #[.int .i64 0, .int .i64 0, .int .i64 0, .bool false], .bool false]) (by simp [results, Try.results66, go_sem, t0, t1, t2, t3]) rfl ⟨by rw [HC.out]; rfl, ((((hbz.trans (hb1.mono (by simp))).setCell (Nat.le_refl _) _).setCell (Nat.le_refl _) _).setCell (Nat.le_refl _) _).setCell (Nat.le_refl _) _⟩

theorem find_nil (ao : Option Addr) (cap : Nat) (p : Int) (w : World) :
    Calls Try.prog 66 #[.slice ao 0 cap, .int .i64 p] w fun e w' => e = .returned (.tuple #[.agg (cellsOf (AM.findN [] p).1), .bool (AM.findN [] p).2]) ∧ Below w.heap.size w w' := by
  have hbz : Below w.heap.size w (w.alloc (.cells #[.int .i64 0, .int .i64 0, .int .i64 0, .bool false] 99)) := (Below.refl _ _).alloc (Nat.le_refl _) _
  have e2 : AM.checkN [] = 0 := by decide
  go_enter Try.func66, Try.ntmps66
  go_wp2_with fail
  refine (check_nil ao cap _).mono ?_
  rintro e w1 ⟨rfl, hb1⟩
  rw [e2]
  have hR1 := B.below (B.new w #[.int .i64 0, .int .i64 0, .int .i64 0, .bool false] 99) hb1 (by simp)
  have t0 := B.cell hR1 0 rfl
  have t1 := B.cell hR1 1 rfl
  have t2 := B.cell hR1 2 rfl
  have t3 := B.cell hR1 3 rfl
  have u0 := B.free hR1
  clear hR1
  go_wp2
  refine wp_loop_rounds 1 ?_
  rw [rounds_succ]
  go_wp2
  exact bodyPost_ret (v := .tuple #[.agg #[.int .i64 0, .int .i64 0, .int .i64 0, .bool false], .bool false]) (by simp [results, Try.results66, go_sem, t0, t1, t2, t3]) rfl ⟨rfl, ((((hbz.trans (hb1.mono (by simp))).setCell (Nat.le_refl _) _).setCell (Nat.le_refl _) _).setCell (Nat.le_refl _) _).setCell (Nat.le_refl _) _⟩
end Go.Proofs.Yteieplodndfbhaa.AW
