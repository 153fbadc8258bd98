import Derived.Test.YtgiohagjanodmaaR5
namespace Go.Proofs.Ytgiohagjanodmaa.W
open Go.RowKit
set_option linter.unusedVariables false

set_option maxRecDepth 100000 in
set_option maxHeartbeats 4000000 in
theorem refCheck_bad (l : List M.Ar) (b off cap : Nat) (w : World) (hl : M.Lie w b off l) (hf : ∀ i, i < l.length → M.Fits (M.at_ l i)) (he : M.eachTo l l.length = false) (hn : ¬ 255 < l.length) :
    Calls Try.prog 8 #[.slice (some ⟨b, off, none⟩) l.length cap] w fun e w' => e = .returned (.int .i64 (M.checkN l)) ∧ Below w.heap.size w w' := by
  have hres : Hid (M.checkN l = 1) := check_each l hn he
  have HE : Hid (M.eachTo l l.length = false) := he
  have hn' : ¬ (255 : Int) < (l.length : Int) := by omega
  clear he
  go_enter Try.func8, Try.ntmps8
  go_wp2
  go_loopw [3] (fun i wr => ∃ k : Nat, k ≤ l.length ∧ i = .int .i64 k ∧ M.eachTo l k = true ∧ Below w.heap.size w wr) (fun i _ => l.length - (intOf i).toNat)
  case atStart => exact ⟨0, by omega, rfl, rfl, Below.refl _ _⟩
  case round =>
    obtain ⟨k, hk, rfl, hek, hb⟩ := hrel
    have HB : Hid (Below w.heap.size w wr) := hb
    have HEK : Hid (M.eachTo l k = true) := hek
    clear hek
    by_cases hlt : k < l.length
    · obtain ⟨c0, c1, c2, c3⟩ := hl.below hb k hlt
      obtain ⟨f1, f2, f3⟩ := hf k hlt
      have hw := each_words (M.at_ l k)
      obtain ⟨a, ha⟩ : ∃ a, a = M.at_ l k := ⟨_, rfl⟩
      rw [← ha] at c0 c1 c2 c3 f1 f2 f3 hw
      have HW : Hid ((M.pagesB a.page a.pages && M.protB a.prot) = true ↔ inB a.page 1 255 = true ∧ inB a.pages 1 255 = true ∧ a.page + a.pages - 1 ≤ 255 ∧ inB a.prot 0 3 = true) := hw
      have HA : Hid (a = M.at_ l k) := ha
      clear ha hb hw
      have hki : (k : Int) < (l.length : Int) := by omega
      by_cases d1 : inB a.page 1 255 = true
      · have b1 := (inB_iff _ _ _).1 d1
        by_cases d2 : inB a.pages 1 255 = true
        · have b2 := (inB_iff _ _ _).1 d2
          by_cases d3 : a.page + a.pages - 1 ≤ 255
          · have d3' : ¬ 255 < a.page + a.pages - 1 := by omega
            by_cases d4 : inB a.prot 0 3 = true
            · have hok : Hid (M.eachTo l (k + 1) = true) := by show _ = _; simp only [M.eachTo, HEK.out, Bool.true_and]; rw [← HA.out]; exact HW.out.2 ⟨d1, d2, d3, d4⟩
              go_wp2_with (first | (go_at_call 22; refine (inB_any _ _ _ _).mono ?_; rintro e w' ⟨rfl, rfl⟩))
              go_roundw
              case rel => exact ⟨k + 1, by omega, by go_num, hok.out, HB.out.alloc HB.out.size _⟩
              case measure => simp [intOf]; omega
            · have d4' : inB a.prot 0 3 = false := by simpa using d4
              clear d4
              go_wp2_with (first | (go_at_call 22; refine (inB_any _ _ _ _).mono ?_; rintro e w' ⟨rfl, rfl⟩))
              go_ret
              exact ⟨ret_int hres.out.symm, HB.out.alloc HB.out.size _⟩
          · have d3' : 255 < a.page + a.pages - 1 := by omega
            go_wp2_with (first | (go_at_call 22; refine (inB_any _ _ _ _).mono ?_; rintro e w' ⟨rfl, rfl⟩))
            go_ret
            exact ⟨ret_int hres.out.symm, HB.out.alloc HB.out.size _⟩
        · have d2' : inB a.pages 1 255 = false := by simpa using d2
          clear d2
          go_wp2_with (first | (go_at_call 22; refine (inB_any _ _ _ _).mono ?_; rintro e w' ⟨rfl, rfl⟩))
          go_ret
          exact ⟨ret_int hres.out.symm, HB.out.alloc HB.out.size _⟩
      · have d1' : inB a.page 1 255 = false := by simpa using d1
        clear d1
        go_wp2_with (first | (go_at_call 22; refine (inB_any _ _ _ _).mono ?_; rintro e w' ⟨rfl, rfl⟩))
        go_ret
        exact ⟨ret_int hres.out.symm, HB.out.alloc HB.out.size _⟩
    · exfalso
      obtain rfl : k = l.length := by omega
      have := HEK.out
      rw [HE.out] at this
      cases this

theorem refCheck_long (n : Nat) (ao : Option Addr) (cap : Nat) (w : World) (hn : 255 < n) (hm : n ≤ 140737488351232) :
    Calls Try.prog 8 #[.slice ao n cap] w fun e w' => e = .returned (.int .i64 2) ∧ Below w.heap.size w w' := by
  have hn' : (255 : Int) < (n : Int) := by omega
  go_enter Try.func8, Try.ntmps8
  go_wp2
  go_ret
  exact ⟨rfl, Below.refl _ _⟩

theorem refCheck_any (l : List M.Ar) (v : Value) (w : World) (h : Has w v l) (hf : AllFit l) :
    Calls Try.prog 8 #[v] w fun e w' => e = .returned (.int .i64 (M.checkN l)) ∧ Below w.heap.size w w' := by
  have h' := h
  obtain ⟨ao, cap, rfl, hh⟩ := h
  by_cases hn : 255 < l.length
  · have e : M.checkN l = 2 := by simp [M.checkN, hn]
    rw [e]
    exact refCheck_long l.length ao cap w hn hf.2
  · by_cases he : M.eachTo l l.length = true
    · refine refCheck_tail l _ w h' he hn ao cap rfl (fun i hi => ?_)
      rcases hh with e | ⟨b, off, hao, hl⟩
      · rw [e] at hi; simp at hi
      · exact ⟨b, off, hao, hl⟩
    · have he' : M.eachTo l l.length = false := by simpa using he
      rcases hh with e | ⟨b, off, hao, hl⟩
      · subst e; simp [M.eachTo] at he'
      · subst hao
        exact refCheck_bad l b off cap w hl hf.1 he' hn

/-- what spanError answers -/
def spanN (l : List M.Ar) (page pages q : Int) : Int := if M.checkN l = 0 then (if M.pagesB page pages && M.protB q then 0 else 3) else M.checkN l

set_option maxHeartbeats 2000000 in
theorem span_any (l : List M.Ar) (v : Value) (page pages q : Int) (w : World) (h : Has w v l) (hf : AllFit l) (hp : I64 page) (hn : I64 pages) :
    Calls Try.prog 32 #[v, .int .i64 page, .int .i64 pages, .int .i64 q] w fun e w' => e = .returned (.int .i64 (spanN l page pages q)) ∧ Below w.heap.size w w' := by
  by_cases hc : M.checkN l = 0
  · have HW : Hid ((M.pagesB page pages && M.protB q) = true ↔ inB page 1 255 = true ∧ inB pages 1 255 = true ∧ page + pages - 1 ≤ 255 ∧ inB q 0 3 = true) := each_words ⟨page, pages, q, false⟩
    have HS : Hid (spanN l page pages q = if M.pagesB page pages && M.protB q then 0 else 3) := by show _ = _; unfold spanN; rw [if_pos hc]
    have hno : Hid (¬ (inB page 1 255 = true ∧ inB pages 1 255 = true ∧ page + pages - 1 ≤ 255 ∧ inB q 0 3 = true) → spanN l page pages q = 3) := fun hx => by
      rw [HS.out, if_neg]; exact fun hy => hx (HW.out.1 hy)
    by_cases d1 : inB page 1 255 = true
    · have b1 := (inB_iff _ _ _).1 d1
      by_cases d2 : inB pages 1 255 = true
      · have b2 := (inB_iff _ _ _).1 d2
        by_cases d3 : page + pages - 1 ≤ 255
        · have d3' : ¬ 255 < page + pages - 1 := by omega
          by_cases d4 : inB q 0 3 = true
          · have hres : Hid (spanN l page pages q = 0) := by show _ = _; rw [HS.out, if_pos]; exact HW.out.2 ⟨d1, d2, d3, d4⟩
            go_enter Try.func32, Try.ntmps32
            go_wp2_with fail
            refine (refCheck_any l v _ h hf).mono ?_
            rintro e w1 ⟨rfl, hb1⟩
            rw [hc]
            clear hc
            go_wp2_with (first | (go_at_call 22; refine (inB_any _ _ _ _).mono ?_; rintro e w' ⟨rfl, rfl⟩))
            go_ret
            exact ⟨ret_int hres.out.symm, hb1⟩
          · have d4' : inB q 0 3 = false := by simpa using d4
            have hres : Hid (spanN l page pages q = 3) := hno.out (fun hx => d4 hx.2.2.2)
            clear d4
            go_enter Try.func32, Try.ntmps32
            go_wp2_with fail
            refine (refCheck_any l v _ h hf).mono ?_
            rintro e w1 ⟨rfl, hb1⟩
            rw [hc]
            clear hc
            go_wp2_with (first | (go_at_call 22; refine (inB_any _ _ _ _).mono ?_; rintro e w' ⟨rfl, rfl⟩))
            go_ret
            exact ⟨ret_int hres.out.symm, hb1⟩
        · have d3' : 255 < page + pages - 1 := by omega
          have hres : Hid (spanN l page pages q = 3) := hno.out (fun hx => d3 hx.2.2.1)
          go_enter Try.func32, Try.ntmps32
          go_wp2_with fail
          refine (refCheck_any l v _ h hf).mono ?_
          rintro e w1 ⟨rfl, hb1⟩
          rw [hc]
          clear hc
          go_wp2_with (first | (go_at_call 22; refine (inB_any _ _ _ _).mono ?_; rintro e w' ⟨rfl, rfl⟩))
          go_ret
          exact ⟨ret_int hres.out.symm, hb1⟩
      · have d2' : inB pages 1 255 = false := by simpa using d2
        have hres : Hid (spanN l page pages q = 3) := hno.out (fun hx => d2 hx.2.1)
        clear d2
        go_enter Try.func32, Try.ntmps32
        go_wp2_with fail
        refine (refCheck_any l v _ h hf).mono ?_
        rintro e w1 ⟨rfl, hb1⟩
        rw [hc]
        clear hc
        go_wp2_with (first | (go_at_call 22; refine (inB_any _ _ _ _).mono ?_; rintro e w' ⟨rfl, rfl⟩))
        go_ret
        exact ⟨ret_int hres.out.symm, hb1⟩
    · have d1' : inB page 1 255 = false := by simpa using d1
      have hres : Hid (spanN l page pages q = 3) := hno.out (fun hx => d1 hx.1)
      clear d1
      go_enter Try.func32, Try.ntmps32
      go_wp2_with fail
      refine (refCheck_any l v _ h hf).mono ?_
      rintro e w1 ⟨rfl, hb1⟩
      rw [hc]
      clear hc
      go_wp2_with (first | (go_at_call 22; refine (inB_any _ _ _ _).mono ?_; rintro e w' ⟨rfl, rfl⟩))
      go_ret
      exact ⟨ret_int hres.out.symm, hb1⟩
  · have hres : Hid (spanN l page pages q = M.checkN l) := by show _ = _; unfold spanN; rw [if_neg hc]
    have hc' : (M.checkN l != 0) = true := by simpa using hc
    go_enter Try.func32, Try.ntmps32
    go_wp2_with fail
    refine (refCheck_any l v _ h hf).mono ?_
    rintro e w1 ⟨rfl, hb1⟩
    go_wp2
    go_ret
    exact ⟨ret_int hres.out.symm, hb1⟩
end Go.Proofs.Ytgiohagjanodmaa.W
