import Derived.Test.YtbgnagognnklbaaG05
import Derived.Test.YtbgnagognnklbaaG02
import Derived.Test.YtbgnagognnklbaaProg
import Derived.Test.YtbgnagognnklbaaG00
import Derived.WalkLawsBesides
import Derived.WalkSpells
import Derived.Deep.QuietTactic
import Derived.BigQuiet
import Derived.WalkKit
import Derived.Below
/- Plain laws: what Find tells of gathered and of spread areas; no Go in sight. -/
namespace Go.Proofs.Ytbgnagognnklbaa.AM
open Go.RowKit
set_option linter.unusedVariables false
set_option maxRecDepth 100000

theorem good_of_check (l : List Ar) (h : checkN l = 0) : good l = true := by
  unfold checkN at h
  split at h
  · simp at h
  · split at h
    · assumption
    · simp at h
theorem spreadTo_fine (l : List Ar) (hc : checkN l = 0) : ∀ k, k ≤ l.length → (spreadTo l k 0).m = false ∧ (∀ n, (spreadTo l k n).m = false → spreadTo l k n = off) ∧ (∀ n, 0 ≤ (spreadTo l k n).p ∧ (spreadTo l k n).p ≤ 3)
  | 0, _ => ⟨rfl, fun n _ => rfl, fun n => by simp [spreadTo, off]⟩
  | k + 1, hk => by
    have ih := spreadTo_fine l hc k (by omega)
    have ho := okAt_pages l k (good_pages l hc k (by omega))
    refine ⟨?_, fun n => ?_, fun n => ?_⟩
    · simp only [spreadTo, layTo]; rw [if_neg (by omega)]; exact ih.1
    · simp only [spreadTo, layTo]
      split
      · intro h; simp at h
      · exact ih.2.1 n
    · simp only [spreadTo, layTo]
      split
      · exact ⟨ho.2.2.2.1, ho.2.2.2.2⟩
      · exact ih.2.2 n
theorem fine_spread (l : List Ar) (hc : checkN l = 0) : Fine (spreadN l) := by
  have h := spreadTo_fine l hc l.length (Nat.le_refl _)
  exact ⟨h.1, h.2.1, h.2.2⟩
theorem fine_turned (F : Nat → St) (hF : Fine F) (how : St → St × Int) (page t : Int) (hp : 1 ≤ page)
    (hn : ∀ s, (s.m = false → s = off) → ((how s).1.m = false → (how s).1 = off)) (hq : ∀ s, 0 ≤ s.p ∧ s.p ≤ 3 → 0 ≤ (how s).1.p ∧ (how s).1.p ≤ 3) : Fine (turned F how page t) := by
  refine ⟨?_, fun n => ?_, fun n => ?_⟩
  · simp only [turned]; rw [if_neg (by omega)]; exact hF.zero
  · simp only [turned]
    split
    · exact hn (F n) (hF.none n)
    · exact hF.none n
  · simp only [turned]
    split
    · exact hq (F n) (hF.prot n)
    · exact hF.prot n
theorem gather_len' (F : Nat → St) (h0 : (F 0).m = false) : ∀ k, (gatherTo F (k + 1)).length ≤ k
  | 0 => by simp [gatherTo, h0]
  | k + 1 => by
    have ih := gather_len' F h0 k
    rw [gatherTo]
    split
    · omega
    · split
      · rw [bump_length]; omega
      · simp; omega
theorem check_gather (F : Nat → St) (hF : Fine F) : checkN (gatherN F) = 0 := by
  have hl : (gatherN F).length ≤ 255 := gather_len' F hF.zero 255
  have hg := gather_good F hF
  unfold checkN
  rw [if_neg (by omega), if_pos hg]
theorem find_of_look (l : List Ar) (hc : checkN l = 0) (F : Nat → St) (p : Nat) (h : look l p = F p) : (findN l p).2 = (F p).m ∧ (findN l p).1.prot = (F p).p ∧ (findN l p).1.zero = (F p).z := by
  have e : findN l p = findFrom l p := by simp [findN, hc]
  rw [e, ← h]
  unfold look
  by_cases c : (findFrom l p).2 = true
  · simp [c]
  · have c' : (findFrom l p).2 = false := by simpa using c
    rw [findFrom_miss l p c']
    simp [nil, off]
theorem find_gather (F : Nat → St) (hF : Fine F) (p : Nat) (hp : p < 256) : (findN (gatherN F) p).2 = (F p).m ∧ (findN (gatherN F) p).1.prot = (F p).p ∧ (findN (gatherN F) p).1.zero = (F p).z :=
  find_of_look _ (check_gather F hF) F p (gather_look F hF p hp)
theorem find_spread (l : List Ar) (hc : checkN l = 0) (p : Nat) : (findN l p).2 = (spreadN l p).m ∧ (findN l p).1.prot = (spreadN l p).p ∧ (findN l p).1.zero = (spreadN l p).z :=
  find_of_look l hc (spreadN l) p (spread_look l _ l rfl (good_of_check l hc) p)
/-- areas that are right hold small numbers alone -/
theorem fits_of_check (l : List Ar) (hc : checkN l = 0) : (∀ i, i < l.length → Fits (at_ l i)) ∧ l.length ≤ 140737488351232 := by
  refine ⟨fun i hi => ?_, by have := good_len l hc; omega⟩
  have ho := okAt_pages l i (good_pages l hc i hi)
  unfold Fits
  omega
theorem err_zero (F : Nat → St) (how : St → St × Int) : ∀ (c n : Nat), errFrom F how n c = 0 → ∀ k, n ≤ k → k < n + c → (how (F k)).2 = 0
  | 0, n, _, k, h1, h2 => by omega
  | c + 1, n, h, k, h1, h2 => by
    simp only [errFrom] at h
    split at h
    · rename_i h0
      by_cases e : k = n
      · rw [e]; exact h0
      · exact err_zero F how c (n + 1) h k (by omega) (by omega)
    · rename_i h0; exact absurd h h0
end Go.Proofs.Ytbgnagognnklbaa.AM
/- Linked programs as plain Lean data: are they right? -/
namespace Go.Proofs.Ytbgnagognnklbaa.LM
open Go.RowKit
set_option linter.unusedVariables false
set_option maxRecDepth 100000

def pagesN (a : AM.Ar) (n : Nat) : List Int := (List.range n).map (fun m : Nat => a.page + (m : Int))
/-- the pages of the first i areas, in order -/
def pagesTo (l : List AM.Ar) : Nat → List Int
  | 0 => []
  | i + 1 => pagesTo l i ++ pagesN (AM.at_ l i) (AM.at_ l i).pages.toNat
def pagesOf (l : List AM.Ar) : List Int := pagesTo l l.length
/-- is there just one sheet for each page, in order? -/
def forEachB (l : List AM.Ar) (hs : List Sh) : Bool := decide (hs.map (·.page) = pagesOf l)
def zeroTo (l : List AM.Ar) : Nat → Bool
  | 0 => false
  | k + 1 => zeroTo l k || (AM.at_ l k).zero
def anyZeroB (l : List AM.Ar) : Bool := zeroTo l l.length
def sheetsTo (hs : List Sh) : Nat → Bool
  | 0 => true
  | k + 1 => sheetsTo hs k && sheetB (shAt hs k)
def sheetsB (hs : List Sh) : Bool := sheetsTo hs hs.length
def entB (l : List AM.Ar) (en : Int) : Bool := (AM.findFrom l (en.tdiv 16)).2 && (decide (2 ≤ (AM.findFrom l (en.tdiv 16)).1.prot) && decide (en.tmod 8 = 0))
/-- what Check answers -/
def checkL (l : List AM.Ar) (hs : List Sh) (en : Int) : Int := if AM.checkN l = 0 then (if !anyZeroB l && (forEachB l hs && (sheetsB hs && entB l en)) then 0 else 1) else AM.checkN l

theorem pagesN_succ (a : AM.Ar) (n : Nat) : pagesN a (n + 1) = pagesN a n ++ [a.page + (n : Int)] := by
  unfold pagesN
  rw [List.range_succ, List.map_append]
  rfl
theorem pagesN_split (a : AM.Ar) (n m : Nat) (h : n < m) : ∃ t, pagesN a m = pagesN a n ++ (a.page + (n : Int)) :: t := by
  induction m with
  | zero => omega
  | succ m ih =>
    by_cases e : n = m
    · subst e; exact ⟨[], pagesN_succ a n⟩
    · obtain ⟨t, ht⟩ := ih (by omega)
      exact ⟨t ++ [a.page + (m : Int)], by rw [pagesN_succ, ht]; simp⟩
theorem pagesTo_more (l : List AM.Ar) (i : Nat) : ∀ n, i ≤ n → ∃ t, pagesTo l n = pagesTo l i ++ t
  | 0, h => by obtain rfl : i = 0 := by omega
               exact ⟨[], by simp⟩
  | n + 1, h => by
    by_cases e : i = n + 1
    · subst e; exact ⟨[], by simp⟩
    · obtain ⟨t, ht⟩ := pagesTo_more l i n (by omega)
      exact ⟨t ++ pagesN (AM.at_ l n) (AM.at_ l n).pages.toNat, by simp only [pagesTo]; rw [ht, List.append_assoc]⟩
theorem pages_split (l : List AM.Ar) (i : Nat) (hi : i < l.length) (n : Nat) (hn : n < (AM.at_ l i).pages.toNat) : ∃ t, pagesOf l = (pagesTo l i ++ pagesN (AM.at_ l i) n) ++ ((AM.at_ l i).page + (n : Int)) :: t := by
  obtain ⟨t, ht⟩ := pagesTo_more l (i + 1) l.length (by omega)
  obtain ⟨u, hu⟩ := pagesN_split (AM.at_ l i) n _ hn
  refine ⟨u ++ t, ?_⟩
  unfold pagesOf
  rw [ht]
  simp only [pagesTo]
  rw [hu]
  simp
theorem zeroTo_mono (l : List AM.Ar) : ∀ (k n : Nat), k ≤ n → zeroTo l k = true → zeroTo l n = true
  | k, 0, h, hk => by obtain rfl : k = 0 := by omega
                      exact hk
  | k, n + 1, h, hk => by
    by_cases e : k = n + 1
    · subst e; exact hk
    · simp [zeroTo, zeroTo_mono l k n (by omega) hk]
theorem zero_at (l : List AM.Ar) (k : Nat) (hk : k < l.length) (h : (AM.at_ l k).zero = true) : anyZeroB l = true := zeroTo_mono l (k + 1) l.length (by omega) (by simp [zeroTo, h])
theorem zero_none (l : List AM.Ar) : ∀ n, zeroTo l n = false → ∀ i, i < n → (AM.at_ l i).zero = false
  | 0, _, i, hi => by omega
  | n + 1, h, i, hi => by
    simp only [zeroTo, Bool.or_eq_false_iff] at h
    by_cases e : i = n
    · subst e; exact h.2
    · exact zero_none l n h.1 i (by omega)
theorem sheetsTo_false (l : List Sh) : ∀ (k n : Nat), k ≤ n → sheetsTo l k = false → sheetsTo l n = false
  | k, 0, h, hk => by obtain rfl : k = 0 := by omega
                      exact hk
  | k, n + 1, h, hk => by
    by_cases e : k = n + 1
    · subst e; exact hk
    · simp [sheetsTo, sheetsTo_false l k n (by omega) hk]
theorem sheets_bad (l : List Sh) (k : Nat) (hk : k < l.length) (h : sheetB (shAt l k) = false) : sheetsB l = false := sheetsTo_false l (k + 1) l.length (by omega) (by simp [sheetsTo, h])
theorem sheetsTo_ok (l : List Sh) : ∀ n, sheetsTo l n = true → ∀ i, i < n → sheetB (shAt l i) = true
  | 0, _, i, hi => by omega
  | n + 1, h, i, hi => by
    simp only [sheetsTo, Bool.and_eq_true] at h
    by_cases e : i = n
    · subst e; exact h.2
    · exact sheetsTo_ok l n h.1 i (by omega)

theorem map_take_snoc (hs : List Sh) (c : Nat) (h : c < hs.length) : (hs.take (c + 1)).map (·.page) = (hs.take c).map (·.page) ++ [(shAt hs c).page] := by
  rw [List.take_succ_eq_append_getElem h, List.map_append]
  unfold shAt
  rw [List.getD_eq_getElem?_getD, List.getElem?_eq_getElem h]
  rfl
/-- there are too few -/
theorem each_short {l : List AM.Ar} {hs : List Sh} {pre t : List Int} {x : Int} (hp : (hs.take hs.length).map (·.page) = pre) (ho : pagesOf l = pre ++ x :: t) : forEachB l hs = false := by
  unfold forEachB
  refine decide_eq_false (fun e => ?_)
  rw [List.take_length] at hp
  rw [hp, ho] at e
  have := congrArg List.length e
  simp at this
/-- another page -/
theorem each_other {l : List AM.Ar} {hs : List Sh} {pre t : List Int} {x : Int} {c : Nat} (hc : c < hs.length) (hp : (hs.take c).map (·.page) = pre) (ho : pagesOf l = pre ++ x :: t) (hx : (shAt hs c).page ≠ x) : forEachB l hs = false := by
  unfold forEachB
  refine decide_eq_false (fun e => ?_)
  have h1 := map_take_snoc hs c hc
  rw [hp] at h1
  have h2 : hs.map (·.page) = (hs.take (c + 1)).map (·.page) ++ (hs.drop (c + 1)).map (·.page) := by rw [← List.map_append, List.take_append_drop]
  rw [h2, h1, ho, List.append_assoc] at e
  have := List.append_cancel_left e
  simp at this
  exact hx this.1
theorem each_done {l : List AM.Ar} {hs : List Sh} {c : Nat} (hc : c ≤ hs.length) (hp : (hs.take c).map (·.page) = pagesTo l l.length) : forEachB l hs = decide (c = hs.length) := by
  unfold forEachB
  by_cases e : c = hs.length
  · subst e
    rw [List.take_length] at hp
    have hp' : hs.map (·.page) = pagesOf l := hp
    rw [decide_eq_true hp', decide_eq_true rfl]
  · rw [decide_eq_false e]
    refine decide_eq_false (fun g => ?_)
    have h1 := congrArg List.length hp
    have h2 := congrArg List.length g
    rw [List.length_map, List.length_take] at h1
    rw [List.length_map] at h2
    unfold pagesOf at h2
    omega
/-- the cells of sheets -/
def LieH (w : World) (b off : Nat) (l : List Sh) : Prop := ∀ i, i < l.length →
  w.cell? ⟨b, off + i * 3, none⟩ = some (.int .i64 (shAt l i).page) ∧ w.cell? ⟨b, off + i * 3 + 1, none⟩ = some (.string (shAt l i).data) ∧ w.cell? ⟨b, off + i * 3 + 2, none⟩ = some (.slice (shAt l i).ao (shAt l i).fixes.length (shAt l i).cap) ∧ HasF w (shAt l i).ao (shAt l i).fixes
theorem lieH {w w' : World} {b off : Nat} {l : List Sh} (hb : Below w.heap.size w w') (hlt : b < w.heap.size) (h : LieH w b off l) : LieH w' b off l := fun i hi => by
  obtain ⟨c0, c1, c2, c3⟩ := h i hi
  exact ⟨(M.below_cell hb hlt).trans c0, (M.below_cell hb hlt).trans c1, (M.below_cell hb hlt).trans c2, c3.below hb⟩
def HasH (w : World) (ao : Option Addr) (l : List Sh) : Prop := M.HasBy LieH w ao l
theorem HasH.below {w w' : World} {ao : Option Addr} {l : List Sh} (h : HasH w ao l) (hb : Below w.heap.size w w') : HasH w' ao l := M.HasBy.below (lie := LieH) (fun hb hlt h => lieH hb hlt h) h hb
def FitHs (l : List Sh) : Prop := M.Short l.length ∧ ∀ k, k < l.length → FitH (shAt l k)
theorem prot_cases {p : Int} (h : 0 ≤ p ∧ p ≤ 3) : p = 0 ∨ p = 1 ∨ p = 2 ∨ p = 3 := by omega
/-- an area that was found has a right Prot -/
theorem found_prot (l : List AM.Ar) (hc : AM.checkN l = 0) (p : Int) (h : (AM.findFrom l p).2 = true) : 0 ≤ (AM.findFrom l p).1.prot ∧ (AM.findFrom l p).1.prot ≤ 3 := by
  by_cases e : ∃ k, k < l.length ∧ AM.hit (AM.at_ l k) p = true
  · obtain ⟨k, hk, hh⟩ := e
    have : ∃ k, k < l.length ∧ AM.hit (AM.at_ l k) p = true ∧ ∀ i, i < k → AM.hit (AM.at_ l i) p = false := by
      induction k using Nat.strongRecOn with
      | _ k ih =>
        by_cases g : ∃ j, j < k ∧ AM.hit (AM.at_ l j) p = true
        · obtain ⟨j, hj, hj2⟩ := g
          exact ih j hj (by omega) hj2
        · exact ⟨k, hk, hh, fun i hi => by
            cases q : AM.hit (AM.at_ l i) p
            · rfl
            · exact (g ⟨i, hi, q⟩).elim⟩
    obtain ⟨k, hk, h1, h2⟩ := this
    rw [AM.findFrom_at l p k hk h2 h1]
    have := AM.okAt_pages l k (AM.good_pages l hc k hk)
    exact ⟨this.2.2.2.1, this.2.2.2.2⟩
  · rw [AM.findFrom_none l p (fun i hi => by
      cases q : AM.hit (AM.at_ l i) p
      · rfl
      · exact (e ⟨i, hi, q⟩).elim)] at h
    cases h
end Go.Proofs.Ytbgnagognnklbaa.LM
namespace Go.Proofs.Ytbgnagognnklbaa.AW
open Go.RowKit
set_option linter.unusedVariables false
set_option maxRecDepth 100000

set_option maxHeartbeats 400000 in
theorem end_any (p n t : Int) (z : Bool) (w : World) (h1 : -9223372036854775808 ≤ p + n) (h2 : p + n ≤ 9223372036854775807) :
    Calls Try.prog 85 #[.agg #[.int .i64 p, .int .i64 n, .int .i64 t, .bool z]] w fun e w' => e = .returned (.int .i64 (p + n)) ∧ Below w.heap.size w w' := by
  go_enter Try.func85, Try.ntmps85
  go_wp2
  go_ret
  exact ⟨rfl, (Below.refl _ _).alloc (Nat.le_refl _) _⟩

theorem rightPages_any (p n : Int) (w : World) (hp : -9223372036854775808 ≤ p ∧ p ≤ 9223372036854775807) (hn : -9223372036854775808 ≤ n ∧ n ≤ 9223372036854775807) :
    Calls Try.prog 63 #[.int .i64 p, .int .i64 n] w fun e w' => e = .returned (.bool (AM.pagesB p n)) ∧ w = w' := by
  by_cases h1 : 1 ≤ p
  · by_cases h2 : 1 ≤ n
    · by_cases h3 : n ≤ 256 - p
      · have e : AM.pagesB p n = true := by simp [AM.pagesB, h1, h2, h3]
        have h4 : n ≤ 255 - p + 1 := by omega
        rw [e]
        go_enter Try.func63, Try.ntmps63
        go_wp2
        go_ret
        exact ⟨rfl, rfl⟩
      · have e : AM.pagesB p n = false := by simp [AM.pagesB]; omega
        have h4 : decide (n ≤ 255 - p + 1) = false := by simp; omega
        rw [e]
        go_enter Try.func63, Try.ntmps63
        go_wp2
        go_ret
        exact ⟨rfl, rfl⟩
    · have e : AM.pagesB p n = false := by simp [AM.pagesB]; omega
      have h4 : decide (1 ≤ n) = false := by simp; omega
      rw [e]
      go_enter Try.func63, Try.ntmps63
      go_wp2
      go_ret
      exact ⟨rfl, rfl⟩
  · have e : AM.pagesB p n = false := by simp [AM.pagesB]; omega
    have h4 : decide (1 ≤ p) = false := by simp; omega
    rw [e]
    go_enter Try.func63, Try.ntmps63
    go_wp2
    go_ret
    exact ⟨rfl, rfl⟩

theorem rightProt_any (p : Int) (w : World) :
    Calls Try.prog 64 #[.int .i64 p] w fun e w' => e = .returned (.bool (AM.protB p)) ∧ w = w' := by
  by_cases h1 : 0 ≤ p
  · by_cases h2 : p ≤ 3
    · have e : AM.protB p = true := by simp [AM.protB, h1, h2]
      rw [e]
      go_enter Try.func64, Try.ntmps64
      go_wp2
      go_ret
      exact ⟨rfl, rfl⟩
    · have e : AM.protB p = false := by simp [AM.protB]; omega
      have h4 : decide (p ≤ 3) = false := by simp; omega
      rw [e]
      go_enter Try.func64, Try.ntmps64
      go_wp2
      go_ret
      exact ⟨rfl, rfl⟩
  · have e : AM.protB p = false := by simp [AM.protB]; omega
    have h4 : decide (0 ≤ p) = false := by simp; omega
    rw [e]
    go_enter Try.func64, Try.ntmps64
    go_wp2
    go_ret
    exact ⟨rfl, rfl⟩
end Go.Proofs.Ytbgnagognnklbaa.AW
/- A region that draws its order, whose operations read and whose callees may make memory but turn nothing that was there: one walk in the order of the text (the library's quiet walk, over the class of all worlds that keep what was there). -/
namespace Go.Proofs.Ytbgnagognnklbaa.Q
open Go.RowKit
set_option linter.unusedVariables false

/-- a world that keeps what was there in w, below block number B -/
structure Kin (B : Nat) (w : World) where
  world : World
  keeps : Below B w world

theorem kin_some (w : World) : Nonempty (Kin w.heap.size w) := ⟨⟨w, Below.refl _ _⟩⟩

theorem region_kin {P : Program} {id : Nat} {Q : Exit → Act → World → Prop} {a : Act} {w : World} {l : List Oper} (hm : P.follows .mixedOrders = true) (hB : Region.lexB .any l.toArray = true)
    (h : wpQuiet P l.toArray (fun w' => ∃ x : Kin w.heap.size w, w' = x.world) (fun a' => ∀ w', (∃ x : Kin w.heap.size w, w' = x.world) → Q .normal a' w') l a) : (Code.region id l.toArray true).wp P Q a w :=
  wp_region_quiet (C := fun w' => ∃ x : Kin w.heap.size w, w' = x.world) hm hB ⟨⟨_, (Below.refl _ _).drew⟩, rfl⟩ (by simpa using h)

theorem calls_kin {P : Program} {f : FuncId} {args : Array Value} {v : Value} {w : World} (h : ∀ W, Calls P f args W fun e w' => e = .returned v ∧ Below W.heap.size W w') (x : Kin w.heap.size w) :
    Calls P f args x.world fun e w'' => e = .returned v ∧ ∃ y : Kin w.heap.size w, w'' = y.world :=
  (h x.world).mono fun e w'' ⟨he, hb⟩ => ⟨he, ⟨w'', x.keeps.trans (hb.mono x.keeps.size)⟩, rfl⟩

theorem cell_kin {w : World} (x : Kin w.heap.size w) (b o : Nat) (h : b < w.heap.size) : x.world.cell? ⟨b, o, none⟩ = w.cell? ⟨b, o, none⟩ := x.keeps.cell (p := ⟨b, o, none⟩) h

end Go.Proofs.Ytbgnagognnklbaa.Q
