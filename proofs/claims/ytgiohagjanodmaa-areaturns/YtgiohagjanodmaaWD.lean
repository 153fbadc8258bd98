import Derived.Test.YtgiohagjanodmaaWC
namespace Go.Proofs.Ytgiohagjanodmaa.W
open Go.RowKit
set_option linter.unusedVariables false

def b1 : M.Ar := ⟨3, 4, 1, true⟩
def c1 : M.Ar := ⟨3, 1, 1, true⟩
def c2 : M.Ar := ⟨4, 1, 0, true⟩
def c3 : M.Ar := ⟨5, 2, 1, true⟩
theorem e1 : mapN [] 3 4 1 = ([b1], 0) := by kernel_rfl
theorem e2 : protectN [b1] 4 1 0 = ([c1, c2, c3], 0) := by kernel_rfl
theorem e3 : unmapN [c1, c2, c3] 5 9 = ([c1, c2], 0) := by kernel_rfl
theorem e4 : M.findN [c1, c2] 4 = (c2, true) := by kernel_rfl
theorem e5 : M.totalN [c1, c2] = 2 := by kernel_rfl

theorem fit_all {l : List M.Ar} (h : ∀ a ∈ l, M.Fits a) (hn : l.length ≤ 140737488351232) : AllFit l := by
  refine ⟨fun i hi => ?_, hn⟩
  have e : M.at_ l i = l[i] := by simp [M.at_, hi]
  rw [e]
  exact h _ (List.getElem_mem hi)
theorem fit_nil : AllFit [] := fit_all (fun a h => by simp at h) (by simp)
theorem fit_b1 : AllFit [b1] := fit_all (fun a h => by simp at h; subst h; exact ⟨⟨by decide, by decide⟩, ⟨by decide, by decide⟩, by decide, by decide⟩) (by simp)
theorem fit_c : AllFit [c1, c2, c3] := fit_all (fun a h => by
  simp at h
  rcases h with rfl | rfl | rfl <;> exact ⟨⟨by decide, by decide⟩, ⟨by decide, by decide⟩, by decide, by decide⟩) (by simp)
theorem fit_d : AllFit [c1, c2] := fit_all (fun a h => by
  simp at h
  rcases h with rfl | rfl <;> exact ⟨⟨by decide, by decide⟩, ⟨by decide, by decide⟩, by decide, by decide⟩) (by simp)

set_option maxHeartbeats 1000000 in
theorem begun (w : World) : Calls Try.prog 9 #[] w fun e w' => e = .returned (.bool true) ∧ Below w.heap.size w w' := by
  go_enter Try.func9, Try.ntmps9
  go_wp2_with fail
  refine (map_any [] (.slice none 0 0) 3 4 1 _ ⟨none, 0, rfl, .inl rfl⟩ fit_nil ⟨by decide, by decide⟩ ⟨by decide, by decide⟩).mono ?_
  rintro e w1 ⟨r1, rfl, h1, hb1⟩
  rw [e1] at h1 ⊢
  go_wp2_with fail
  refine (protect_any [b1] r1 4 1 0 _ h1 fit_b1 ⟨by decide, by decide⟩ ⟨by decide, by decide⟩).mono ?_
  rintro e w2 ⟨r2, rfl, h2, hb2⟩
  rw [e2] at h2 ⊢
  go_wp2_with fail
  refine (unmap_any [c1, c2, c3] r2 5 9 _ h2 fit_c ⟨by decide, by decide⟩ ⟨by decide, by decide⟩).mono ?_
  rintro e w3 ⟨r3, rfl, h3, hb3⟩
  rw [e3] at h3 ⊢
  go_wp2_with fail
  refine (find_any [c1, c2] r3 4 _ h3 fit_d).mono ?_
  rintro e w4 ⟨rfl, hb4⟩
  rw [e4]
  obtain ⟨ao, cap, hr2, _⟩ := h2
  have hB : Hid (Below w.heap.size w w4) := ((hb1.trans (hb2.mono hb1.size)).trans (hb3.mono (Nat.le_trans hb1.size hb2.size))).trans (hb4.mono (Nat.le_trans hb1.size (Nat.le_trans hb2.size hb3.size)))
  have h5 : Hid (Has w4 r3 [c1, c2]) := h3.below hb4
  clear hb1 hb2 hb3 hb4 h1 h3
  rw [hr2]
  clear hr2
  unfold cellsOf c2
  have hb5 : Hid (Below w4.heap.size w4 (w4.alloc (.cells #[.int .i64 4, .int .i64 1, .int .i64 0, .bool true] 24))) := (Below.refl _ _).alloc (Nat.le_refl _) _
  go_wp2_with fail
  refine (total_any [c1, ⟨4, 1, 0, true⟩] r3 _ (h5.out.below hb5.out) fit_d).mono ?_
  rintro e w5 ⟨rfl, hb6⟩
  rw [show M.totalN [c1, ⟨4, 1, 0, true⟩] = 2 from e5]
  go_wp2
  go_ret
  have hb7 := hb5.out.trans (hb6.mono hb5.out.size)
  exact ⟨rfl, hB.out.trans (hb7.mono hB.out.size)⟩

theorem neg_tmod (c n : Int) (h0 : c < 0) (h1 : 1 ≤ n) : 0 ≤ -(c + 1).tmod n ∧ -(c + 1).tmod n < n := by
  have e : -(c + 1).tmod n = (-(c + 1)) % n := by
    rw [← Int.neg_tmod, Int.tmod_eq_emod_of_nonneg (by omega)]
  rw [e]
  exact ⟨Int.emod_nonneg _ (by omega), Int.emod_lt_of_pos _ (by omega)⟩
theorem choose_any (c n : Int) (w : World) (hc0 : -9223372036854775808 ≤ c) (hc1 : c ≤ 9223372036854775807) (h1 : 1 ≤ n) (h2 : n ≤ 9223372036854775807) :
    Calls Try.prog 20 #[.int .i64 c, .int .i64 n] w fun e w' => ∃ x : Int, 0 ≤ x ∧ x < n ∧ e = .returned (.int .i64 x) ∧ w = w' := by
  by_cases h0 : c < 0
  · go_enter Try.func20, Try.ntmps20
    go_wp2
    go_ret
    exact ⟨_, (neg_tmod c n h0 h1).1, (neg_tmod c n h0 h1).2, rfl, rfl⟩
  · go_enter Try.func20, Try.ntmps20
    go_wp2
    go_ret
    exact ⟨_, Int.emod_nonneg _ (by omega), Int.emod_lt_of_pos _ (by omega), rfl, rfl⟩
end Go.Proofs.Ytgiohagjanodmaa.W
