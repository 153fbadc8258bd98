import Derived.Test.YtgiohagjanodmaaR1
import Derived.Test.YtgiohagjanodmaaR2
namespace Go.Proofs.Ytgiohagjanodmaa.W
open Go.RowKit
set_option linter.unusedVariables false

theorem ext_at (l m : List M.Ar) (hl : l.length = m.length) (h : ∀ i, i < l.length → M.at_ l i = M.at_ m i) : l = m := by
  apply List.ext_getElem? 
  intro i
  by_cases hi : i < l.length
  · have := h i hi
    simp only [M.at_, List.getD_eq_getElem?_getD] at this
    rw [List.getElem?_eq_getElem hi, List.getElem?_eq_getElem (by omega)] at this ⊢
    simp at this
    rw [this]
  · rw [List.getElem?_eq_none (by omega), List.getElem?_eq_none (by omega)]

set_option maxRecDepth 100000 in
set_option maxHeartbeats 2000000 in
theorem same_some (l m : List M.Ar) (b off cap b2 off2 cap2 : Nat) (w : World) (hl : M.Lie w b off l) (hm : M.Lie w b2 off2 m) (hlen : l.length = m.length) (hn : l.length ≤ 140737488351232) :
    Calls Try.prog 19 #[.slice (some ⟨b, off, none⟩) l.length cap, .slice (some ⟨b2, off2, none⟩) m.length cap2] w fun e w' => ∃ r : Bool, e = .returned (.bool r) ∧ (r = true ↔ l = m) ∧ Below w.heap.size w w' := by
  rw [← hlen]
  have hle : Hid (l.length = m.length) := hlen
  clear hlen
  go_enter Try.func19, Try.ntmps19
  go_wp2
  go_loopw [5] (fun i wr => ∃ k : Nat, k ≤ l.length ∧ i = .int .i64 k ∧ (∀ j, j < k → M.at_ l j = M.at_ m j) ∧ Below w.heap.size w wr) (fun i _ => l.length - (intOf i).toNat)
  case atStart => exact ⟨0, by omega, rfl, fun j hj => by omega, Below.refl _ _⟩
  case round =>
    obtain ⟨k, hk, rfl, hj, hb⟩ := hrel
    have HJ : Hid (∀ j, j < k → M.at_ l j = M.at_ m j) := hj
    have HB : Hid (Below w.heap.size w wr) := hb
    by_cases hlt : k < l.length
    · obtain ⟨c0, c1, c2, c3⟩ := hl.below hb k hlt
      obtain ⟨e0, e1, e2, e3⟩ := hm.below hb k (by rw [← hle.out]; exact hlt)
      obtain ⟨a, ha⟩ : ∃ a, a = M.at_ l k := ⟨_, rfl⟩
      obtain ⟨d, hd⟩ : ∃ d, d = M.at_ m k := ⟨_, rfl⟩
      rw [← ha] at c0 c1 c2 c3
      rw [← hd] at e0 e1 e2 e3
      have HA : Hid (a = M.at_ l k) := ha
      have HD : Hid (d = M.at_ m k) := hd
      clear ha hd hj hb
      have hki : (k : Int) < (l.length : Int) := by omega
      obtain ⟨p1, n1, q1, z1⟩ := a
      obtain ⟨p2, n2, q2, z2⟩ := d
      simp only at c0 c1 c2 c3 e0 e1 e2 e3
      have hcas : (p1 == p2) = false ∨ (p1 = p2 ∧ (n1 == n2) = false) ∨ (p1 = p2 ∧ n1 = n2 ∧ (q1 == q2) = false) ∨ (p1 = p2 ∧ n1 = n2 ∧ q1 = q2 ∧ z2 = !z1) ∨ (p1 = p2 ∧ n1 = n2 ∧ q1 = q2 ∧ z1 = z2) := by
        by_cases h1 : p1 = p2
        · by_cases h2 : n1 = n2
          · by_cases h3 : q1 = q2
            · by_cases h4 : z1 = z2
              · exact .inr (.inr (.inr (.inr ⟨h1, h2, h3, h4⟩)))
              · exact .inr (.inr (.inr (.inl ⟨h1, h2, h3, by cases z1 <;> cases z2 <;> simp_all⟩)))
            · exact .inr (.inr (.inl ⟨h1, h2, by simp [h3]⟩))
          · exact .inr (.inl ⟨h1, by simp [h2]⟩)
        · exact .inl (by simp [h1])
      have hdif : ∀ h : ¬ ((⟨p1, n1, q1, z1⟩ : M.Ar) = ⟨p2, n2, q2, z2⟩), l ≠ m := fun h e => h (by rw [HA.out, HD.out, e])
      have HDIF := hdif
      have HDF : Hid (¬ ((⟨p1, n1, q1, z1⟩ : M.Ar) = ⟨p2, n2, q2, z2⟩) → l ≠ m) := hdif
      clear hdif HDIF
      rcases hcas with h1 | ⟨h1, h2⟩ | ⟨h1, h2, h3⟩ | ⟨h1, h2, h3, h4⟩ | ⟨h1, h2, h3, h4⟩
      · have hne : Hid (l ≠ m) := HDF.out (fun e => by have := congrArg M.Ar.page e; simp at this; simp [this] at h1)
        clear HDF HA HD
        go_wp2
        go_quiet (fail)
        go_wp2
        go_ret
        exact ⟨false, rfl, ⟨fun h => (by cases h), fun h => absurd h hne.out⟩, below_drewN HB.out _⟩
      · have hne : Hid (l ≠ m) := HDF.out (fun e => by have := congrArg M.Ar.pages e; simp at this; simp [this] at h2)
        clear HDF HA HD
        subst h1
        go_wp2
        go_quiet (fail)
        go_wp2
        go_ret
        exact ⟨false, rfl, ⟨fun h => (by cases h), fun h => absurd h hne.out⟩, below_drewN HB.out _⟩
      · have hne : Hid (l ≠ m) := HDF.out (fun e => by have := congrArg M.Ar.prot e; simp at this; simp [this] at h3)
        clear HDF HA HD
        subst h1; subst h2
        go_wp2
        go_quiet (fail)
        go_wp2
        go_ret
        exact ⟨false, rfl, ⟨fun h => (by cases h), fun h => absurd h hne.out⟩, below_drewN HB.out _⟩
      · have hne : Hid (l ≠ m) := HDF.out (fun e => by have := congrArg M.Ar.zero e; simp at this; rw [h4] at this; cases z1 <;> simp at this)
        clear HDF HA HD
        subst h1; subst h2; subst h3; subst h4
        go_wp2
        go_quiet (fail)
        go_wp2
        go_ret
        exact ⟨false, rfl, ⟨fun h => (by cases h), fun h => absurd h hne.out⟩, below_drewN HB.out _⟩
      · have heq : Hid (M.at_ l k = M.at_ m k) := by show _ = _; rw [← HA.out, ← HD.out, h1, h2, h3, h4]
        clear HDF HA HD
        subst h1; subst h2; subst h3; subst h4
        go_wp2
        go_quiet (fail)
        go_wp2
        go_roundw
        case rel => exact ⟨k + 1, by omega, by go_num, fun j hj => if e : j = k then by rw [e]; exact heq.out else HJ.out j (by omega), below_drewN HB.out _⟩
        case measure => simp [intOf]; omega
    · obtain rfl : k = l.length := by omega
      go_wp2
      go_ret
      exact ⟨true, rfl, ⟨fun _ => ext_at l m hle.out HJ.out, fun _ => rfl⟩, HB.out⟩

theorem same_len (n m : Nat) (ao bo : Option Addr) (c d : Nat) (w : World) (h : n ≠ m) (hn : n ≤ 140737488351232) (hm : m ≤ 140737488351232) :
    Calls Try.prog 19 #[.slice ao n c, .slice bo m d] w fun e w' => e = .returned (.bool false) ∧ w = w' := by
  have h' : ((n : Int) != (m : Int)) = true := by simp; omega
  go_enter Try.func19, Try.ntmps19
  go_wp2
  go_ret
  exact ⟨rfl, rfl⟩
theorem same_nil (ao bo : Option Addr) (c d : Nat) (w : World) :
    Calls Try.prog 19 #[.slice ao 0 c, .slice bo 0 d] w fun e w' => e = .returned (.bool true) ∧ w = w' := by
  go_enter Try.func19, Try.ntmps19
  go_wp2
  refine wp_loop_rounds 1 ?_
  rw [rounds_succ]
  go_wp2
  go_ret
  exact ⟨rfl, rfl⟩
theorem same_any (l m : List M.Ar) (v u : Value) (w : World) (hl : Has w v l) (hm : Has w u m) (hn : l.length ≤ 140737488351232) (hn2 : m.length ≤ 140737488351232) :
    Calls Try.prog 19 #[v, u] w fun e w' => ∃ r : Bool, e = .returned (.bool r) ∧ (r = true ↔ l = m) ∧ Below w.heap.size w w' := by
  obtain ⟨ao, cap, rfl, h⟩ := hl
  obtain ⟨bo, cap2, rfl, h2⟩ := hm
  by_cases hlen : l.length = m.length
  · rcases h with rfl | ⟨b, off, rfl, hl⟩
    · have hm0 : m = [] := List.eq_nil_of_length_eq_zero hlen.symm
      subst hm0
      exact (same_nil ao bo cap cap2 w).mono fun e w' ⟨he, hw⟩ => ⟨true, he, by simp, by rw [← hw]; exact Below.refl _ _⟩
    · rcases h2 with rfl | ⟨b2, off2, rfl, hm⟩
      · have hl0 : l = [] := List.eq_nil_of_length_eq_zero hlen
        subst hl0
        exact (same_nil _ bo cap cap2 w).mono fun e w' ⟨he, hw⟩ => ⟨true, he, by simp, by rw [← hw]; exact Below.refl _ _⟩
      · exact same_some l m b off cap b2 off2 cap2 w hl hm hlen hn
  · exact (same_len l.length m.length ao bo cap cap2 w hlen hn hn2).mono fun e w' ⟨he, hw⟩ => ⟨false, he, ⟨fun h => (by cases h), fun h => absurd (congrArg List.length h) hlen⟩, by rw [← hw]; exact Below.refl _ _⟩
end Go.Proofs.Ytgiohagjanodmaa.W
