import Derived.Test.YtbgnagognnklbaaG26
import Derived.Test.YtbgnagognnklbaaG38
import Derived.Test.YtbgnagognnklbaaG24
import Derived.Test.YtbgnagognnklbaaG25
namespace Go.Proofs.Ytbgnagognnklbaa.AW
open Go.RowKit
set_option linter.unusedVariables false
set_option maxRecDepth 100000

theorem ext_at (l m : List AM.Ar) (hl : l.length = m.length) (h : ∀ i, i < l.length → AM.at_ l i = AM.at_ m i) : l = m := by
  apply List.ext_getElem? 
  intro i
  by_cases hi : i < l.length
  · have := h i hi
    simp only [AM.at_, List.getD_eq_getElem?_getD] at this
    rw [List.getElem?_eq_getElem hi, List.getElem?_eq_getElem (by omega)] at this ⊢
    simp at this
    rw [this]
  · rw [List.getElem?_eq_none (by omega), List.getElem?_eq_none (by omega)]

set_option maxHeartbeats 2000000 in
theorem same_some (l m : List AM.Ar) (b off cap b2 off2 cap2 : Nat) (w : World) (hl : AM.Lie w b off l) (hm : AM.Lie w b2 off2 m) (hlen : l.length = m.length) (hn : l.length ≤ 140737488351232) :
    Calls Try.prog 32 #[.slice (some ⟨b, off, none⟩) l.length cap, .slice (some ⟨b2, off2, none⟩) m.length cap2] w fun e w' => ∃ r : Bool, e = .returned (.bool r) ∧ (r = true ↔ l = m) ∧ Below w.heap.size w w' := by
  rw [← hlen]
  have hle : Hid (l.length = m.length) := hlen
  clear hlen
  go_enter Try.func32, Try.ntmps32
  go_wp2
  go_loopw [5] (fun i wr => ∃ k : Nat, k ≤ l.length ∧ i = .int .i64 k ∧ (∀ j, j < k → AM.at_ l j = AM.at_ m j) ∧ Below w.heap.size w wr) (fun i _ => l.length - (intOf i).toNat)
  case atStart => exact ⟨0, by omega, rfl, fun j hj => by omega, Below.refl _ _⟩
  case round =>
    obtain ⟨k, hk, rfl, hj, hb⟩ := hrel
    have HJ : Hid (∀ j, j < k → AM.at_ l j = AM.at_ m j) := hj
    have HB : Hid (Below w.heap.size w wr) := hb
    by_cases hlt : k < l.length
    · obtain ⟨c0, c1, c2, c3⟩ := hl.below hb k hlt
      obtain ⟨e0, e1, e2, e3⟩ := hm.below hb k (by rw [← hle.out]; exact hlt)
      obtain ⟨a, ha⟩ : ∃ a, a = AM.at_ l k := ⟨_, rfl⟩
      obtain ⟨d, hd⟩ : ∃ d, d = AM.at_ m k := ⟨_, rfl⟩
      rw [← ha] at c0 c1 c2 c3
      rw [← hd] at e0 e1 e2 e3
      have HA : Hid (a = AM.at_ l k) := ha
      have HD : Hid (d = AM.at_ m k) := hd
      clear ha hd hj hb
      have hki : (k : Int) < (l.length : Int) := by omega
      obtain ⟨p1, n1, q1, z1⟩ := a
      obtain ⟨p2, n2, q2, z2⟩ := d
      simp only at c0 c1 c2 c3 e0 e1 e2 e3
      have hcas : (p1 == p2) = false ∨ (p1 = p2 ∧ (n1 == n2) = false) ∨ (p1 = p2 ∧ n1 = n2 ∧ (q1 == q2) = false) ∨ (p1 = p2 ∧ n1 = n2 ∧ q1 = q2 ∧ z2 = !z1) ∨ (p1 = p2 ∧ n1 = n2 ∧ q1 = q2 ∧ z1 = z2) := by
        by_cases h1 : p1 = p2
        · by_cases h2 : n1 = n2
          · by_cases h3 : q1 = q2
            · by_cases h4 : z1 = z2
              · exact .inr (.inr (.inr (.inr ⟨h1, h2, h3, h4⟩)))
              · exact .inr (.inr (.inr (.inl ⟨h1, h2, h3, by cases z1 <;> cases z2 <;> simp_all⟩)))
            · exact .inr (.inr (.inl ⟨h1, h2, by simp [h3]⟩))
          · exact .inr (.inl ⟨h1, by simp [h2]⟩)
        · exact .inl (by simp [h1])
      have hdif : ∀ h : ¬ ((⟨p1, n1, q1, z1⟩ : AM.Ar) = ⟨p2, n2, q2, z2⟩), l ≠ m := fun h e => h (by rw [HA.out, HD.out, e])
      have HDIF := hdif
      have HDF : Hid (¬ ((⟨p1, n1, q1, z1⟩ : AM.Ar) = ⟨p2, n2, q2, z2⟩) → l ≠ m) := hdif
      clear hdif HDIF
      rcases hcas with h1 | ⟨h1, h2⟩ | ⟨h1, h2, h3⟩ | ⟨h1, h2, h3, h4⟩ | ⟨h1, h2, h3, h4⟩
      · have hne : Hid (l ≠ m) := HDF.out (fun e => by have := congrArg AM.Ar.page e; simp at this; simp [this] at h1)
        clear HDF HA HD
        go_wp2
        go_quiet (fail)
        go_wp2
        go_ret
        exact ⟨false, rfl, ⟨fun h => (by cases h), fun h => absurd h hne.out⟩, below_drewN HB.out _⟩
      · have hne : Hid (l ≠ m) := HDF.out (fun e => by have := congrArg AM.Ar.pages e; simp at this; simp [this] at h2)
        clear HDF HA HD
        subst h1
        go_wp2
        go_quiet (fail)
        go_wp2
        go_ret
        exact ⟨false, rfl, ⟨fun h => (by cases h), fun h => absurd h hne.out⟩, below_drewN HB.out _⟩
      · have hne : Hid (l ≠ m) := HDF.out (fun e => by have := congrArg AM.Ar.prot e; simp at this; simp [this] at h3)
        clear HDF HA HD
        subst h1; subst h2
        go_wp2
        go_quiet (fail)
        go_wp2
        go_ret
        exact ⟨false, rfl, ⟨fun h => (by cases h), fun h => absurd h hne.out⟩, below_drewN HB.out _⟩
      · have hne : Hid (l ≠ m) := HDF.out (fun e => by have := congrArg AM.Ar.zero e; simp at this; rw [h4] at this; cases z1 <;> simp at this)
        clear HDF HA HD
        subst h1; subst h2; subst h3; subst h4
        go_wp2
        go_quiet (fail)
        go_wp2
        go_ret
        exact ⟨false, rfl, ⟨fun h => (by cases h), fun h => absurd h hne.out⟩, below_drewN HB.out _⟩
      · have heq : Hid (AM.at_ l k = AM.at_ m k) := by show _ = _; rw [← HA.out, ← HD.out, h1, h2, h3, h4]
        clear HDF HA HD
        subst h1; subst h2; subst h3; subst h4
        go_wp2
        go_quiet (fail)
        go_wp2
        go_roundw
        case rel => exact ⟨k + 1, by omega, by go_num, fun j hj => if e : j = k then by rw [e]; exact heq.out else HJ.out j (by omega), below_drewN HB.out _⟩
        case measure => simp [intOf]; omega
    · obtain rfl : k = l.length := by omega
      go_wp2
      go_ret
      exact ⟨true, rfl, ⟨fun _ => ext_at l m hle.out HJ.out, fun _ => rfl⟩, HB.out⟩

theorem same_len (n m : Nat) (ao bo : Option Addr) (c d : Nat) (w : World) (h : n ≠ m) (hn : n ≤ 140737488351232) (hm : m ≤ 140737488351232) :
    Calls Try.prog 32 #[.slice ao n c, .slice bo m d] w fun e w' => e = .returned (.bool false) ∧ w = w' := by
  have h' : ((n : Int) != (m : Int)) = true := by simp; omega
  go_enter Try.func32, Try.ntmps32
  go_wp2
  go_ret
  exact ⟨rfl, rfl⟩
theorem same_nil (ao bo : Option Addr) (c d : Nat) (w : World) :
    Calls Try.prog 32 #[.slice ao 0 c, .slice bo 0 d] w fun e w' => e = .returned (.bool true) ∧ w = w' := by
  go_enter Try.func32, Try.ntmps32
  go_wp2
  refine wp_loop_rounds 1 ?_
  rw [rounds_succ]
  go_wp2
  go_ret
  exact ⟨rfl, rfl⟩
theorem same_any (l m : List AM.Ar) (v u : Value) (w : World) (hl : Has w v l) (hm : Has w u m) (hn : l.length ≤ 140737488351232) (hn2 : m.length ≤ 140737488351232) :
    Calls Try.prog 32 #[v, u] w fun e w' => ∃ r : Bool, e = .returned (.bool r) ∧ (r = true ↔ l = m) ∧ Below w.heap.size w w' := by
  obtain ⟨ao, cap, rfl, h⟩ := hl
  obtain ⟨bo, cap2, rfl, h2⟩ := hm
  by_cases hlen : l.length = m.length
  · rcases h with rfl | ⟨b, off, rfl, hl⟩
    · have hm0 : m = [] := List.eq_nil_of_length_eq_zero hlen.symm
      subst hm0
      exact (same_nil ao bo cap cap2 w).mono fun e w' ⟨he, hw⟩ => ⟨true, he, by simp, by rw [← hw]; exact Below.refl _ _⟩
    · rcases h2 with rfl | ⟨b2, off2, rfl, hm⟩
      · have hl0 : l = [] := List.eq_nil_of_length_eq_zero hlen
        subst hl0
        exact (same_nil _ bo cap cap2 w).mono fun e w' ⟨he, hw⟩ => ⟨true, he, by simp, by rw [← hw]; exact Below.refl _ _⟩
      · exact same_some l m b off cap b2 off2 cap2 w hl hm hlen hn
  · exact (same_len l.length m.length ao bo cap cap2 w hlen hn hn2).mono fun e w' ⟨he, hw⟩ => ⟨false, he, ⟨fun h => (by cases h), fun h => absurd (congrArg List.length h) hlen⟩, by rw [← hw]; exact Below.refl _ _⟩
end Go.Proofs.Ytbgnagognnklbaa.AW
namespace Go.Proofs.Ytbgnagognnklbaa.AW
open Go.RowKit
set_option linter.unusedVariables false
set_option maxRecDepth 100000

set_option maxHeartbeats 1000000 in
theorem pages_some (l : List AM.Ar) (b off cap : Nat) (w : World) (hl : AM.Lie w b off l) (hc : AM.checkN l = 0) :
    Calls Try.prog 45 #[.slice (some ⟨b, off, none⟩) l.length cap] w fun e w' => e = .returned (.int .i64 (AM.sumTo l l.length)) ∧ Below w.heap.size w w' := by
  have hlen := AM.good_len l hc
  have HK : Hid (AM.checkN l = 0) := hc
  clear hc
  go_enter Try.func45, Try.ntmps45
  go_wp2
  go_loopw [3, 4] (fun s i wr => ∃ k : Nat, k ≤ l.length ∧ i = .int .i64 k ∧ s = .int .i64 (AM.sumTo l k) ∧ Below w.heap.size w wr) (fun _ i _ => l.length - (intOf i).toNat)
  case atStart => exact ⟨0, by omega, rfl, rfl, Below.refl _ _⟩
  case round =>
    obtain ⟨k, hk, rfl, rfl, hb⟩ := hrel
    have hbd := AM.sumTo_bd l HK.out k hk
    by_cases hlt : k < l.length
    · obtain ⟨c0, c1, c2, c3⟩ := (hl.below hb) k hlt
      have hsu : Hid (AM.sumTo l (k + 1) = AM.sumTo l k + (AM.at_ l k).pages) := rfl
      have hbk := AM.okAt_pages l k (AM.good_pages l HK.out k hlt)
      obtain ⟨a, ha⟩ : ∃ a, a = AM.at_ l k := ⟨_, rfl⟩
      rw [← ha] at c0 c1 c2 c3 hsu hbk
      clear ha
      go_wp2
      go_roundw
      case rel => exact ⟨k + 1, by omega, by go_num, by rw [hsu.out], hb⟩
      case measure => simp [intOf]; omega
    · obtain rfl : k = l.length := by omega
      go_wp2
      go_ret
      exact ⟨rfl, hb⟩
theorem pages_nil (ao : Option Addr) (cap : Nat) (w : World) :
    Calls Try.prog 45 #[.slice ao 0 cap] w fun e w' => e = .returned (.int .i64 0) ∧ Below w.heap.size w w' := by
  go_enter Try.func45, Try.ntmps45
  go_wp2
  refine wp_loop_rounds 1 ?_
  rw [rounds_succ]
  go_wp2
  go_ret
  exact ⟨rfl, Below.refl _ _⟩
theorem pages_any (l : List AM.Ar) (v : Value) (w : World) (h : Has w v l) (hc : AM.checkN l = 0) :
    Calls Try.prog 45 #[v] w fun e w' => e = .returned (.int .i64 (AM.totalN l)) ∧ Below w.heap.size w w' := by
  have e : AM.totalN l = AM.sumTo l l.length := by simp [AM.totalN, hc]
  rw [e]
  obtain ⟨ao, cap, rfl, h⟩ := h
  rcases h with rfl | ⟨b, off, rfl, hl⟩
  · exact pages_nil ao cap w
  · exact pages_some l b off cap w hl hc

set_option maxHeartbeats 2000000 in
theorem areaAt_some (l : List AM.Ar) (b off cap : Nat) (p : Int) (w : World) (hl : AM.Lie w b off l) (hc : AM.checkN l = 0) :
    Calls Try.prog 47 #[.slice (some ⟨b, off, none⟩) l.length cap, .int .i64 p] w fun e w' => e = .returned (.tuple #[.agg (cellsOf (AM.findN l p).1), .bool (AM.findN l p).2]) ∧ Below w.heap.size w w' := by
  have hbz : Below w.heap.size w (w.alloc (.cells #[.int .i64 0, .int .i64 0, .int .i64 0, .bool false] 99)) := (Below.refl _ _).alloc (Nat.le_refl _) _
  have hlen := AM.good_len l hc
  have HC : Hid (AM.findN l p = AM.findFrom l p) := by show _ = _; simp [AM.findN, hc]
  have HK : Hid (AM.checkN l = 0) := hc
  clear hc
  go_enter Try.func47, Try.ntmps47
  go_wp2
  go_loopw [6] (fun i wr => ∃ k : Nat, k ≤ l.length ∧ i = .int .i64 k ∧ (∀ j, j < k → AM.hit (AM.at_ l j) p = false) ∧ Below (w.heap.size + 1) (w.alloc (.cells #[.int .i64 0, .int .i64 0, .int .i64 0, .bool false] 99)) wr) (fun i _ => l.length - (intOf i).toNat)
  case atStart => exact ⟨0, by omega, rfl, fun j hj => by omega, Below.refl _ _⟩
  case round =>
    obtain ⟨k, hk, rfl, hno, hb⟩ := hrel
    have HN : Hid (∀ j, j < k → AM.hit (AM.at_ l j) p = false) := hno
    have hbw : Hid (Below w.heap.size w wr) := hbz.trans (hb.mono (Nat.le_succ _))
    have hsz : w.heap.size + 1 ≤ wr.heap.size := by have := hb.size; simpa using this
    have hlr := hl.below hbw.out
    have hR : wr.heap[w.heap.size]? = some (.cells #[.int .i64 0, .int .i64 0, .int .i64 0, .bool false] 99 (0, 0)) := B.below (B.new w _ _) hb (Nat.lt_succ_self _)
    have HB : Hid (Below (w.heap.size + 1) (w.alloc (.cells #[.int .i64 0, .int .i64 0, .int .i64 0, .bool false] 99)) wr) := hb
    have t0 := B.cell hR 0 rfl
    have t1 := B.cell hR 1 rfl
    have t2 := B.cell hR 2 rfl
    have t3 := B.cell hR 3 rfl
    have u0 := B.free hR
    clear hno hR hb
    by_cases hlt : k < l.length
    · obtain ⟨c0, c1, c2, c3⟩ := hlr k hlt
      have hbk := AM.okAt_pages l k (AM.good_pages l HK.out k hlt)
      obtain ⟨a, ha⟩ : ∃ a, a = AM.at_ l k := ⟨_, rfl⟩
      rw [← ha] at c0 c1 c2 c3 hbk
      have HA : Hid (a = AM.at_ l k) := ha
      clear ha
      have hki : (k : Int) < (l.length : Int) := by omega
      by_cases h1 : a.page ≤ p
      · by_cases h2 : p < a.page + a.pages
        · have hres : Hid (AM.findN l p = (a, true)) := by
            show _ = _
            rw [HC.out, AM.findFrom_at l p k hlt HN.out (by rw [← HA.out]; simp [AM.hit, AM.Ar.last0, h1, h2]), ← HA.out]
          go_wp2
          go_quiet (fail)
          go_wp2
          have hbd := below_drewN hbw.out nq
          exact bodyPost_ret (v := .tuple #[.agg #[.int .i64 a.page, .int .i64 a.pages, .int .i64 a.prot, .bool a.zero], .bool true]) (by simp [results, Try.results47, go_sem, t0, t1, t2, t3]) rfl ⟨by rw [hres.out]; rfl, (((hbd.setCell (Nat.le_refl _) _).setCell (Nat.le_refl _) _).setCell (Nat.le_refl _) _).setCell (Nat.le_refl _) _⟩
        · have hmiss : Hid (AM.hit (AM.at_ l k) p = false) := by show _ = _; rw [← HA.out]; unfold AM.hit AM.Ar.last0; exact decide_eq_false (by omega)
          have d2 : decide (p < a.page + a.pages) = false := decide_eq_false h2
          go_wp2
          go_quiet (fail)
          go_wp2
          go_roundw
          case rel => exact ⟨k + 1, by omega, by go_num, fun j hj => if e : j = k then by rw [e]; exact hmiss.out else HN.out j (by omega), below_drewN HB.out _⟩
          case measure => simp [intOf]; omega
      · have hmiss : Hid (AM.hit (AM.at_ l k) p = false) := by show _ = _; rw [← HA.out]; unfold AM.hit AM.Ar.last0; exact decide_eq_false (by omega)
        have d1 : decide (a.page ≤ p) = false := decide_eq_false h1
        go_wp2
        go_quiet (fail)
        go_wp2
        go_roundw
        case rel => exact ⟨k + 1, by omega, by go_num, fun j hj => if e : j = k then by rw [e]; exact hmiss.out else HN.out j (by omega), below_drewN HB.out _⟩
        case measure => simp [intOf]; omega
    · obtain rfl : k = l.length := by omega
      have hres : Hid (AM.findN l p = (AM.nil, false)) := by show _ = _; rw [HC.out, AM.findFrom_none l p HN.out]
      go_wp2
      exact bodyPost_ret (v := .tuple #[.agg #[.int .i64 0, .int .i64 0, .int .i64 0, .bool false], .bool false]) (by simp [results, Try.results47, go_sem, t0, t1, t2, t3]) rfl ⟨by rw [hres.out]; rfl, (((hbw.out.setCell (Nat.le_refl _) _).setCell (Nat.le_refl _) _).setCell (Nat.le_refl _) _).setCell (Nat.le_refl _) _⟩
theorem areaAt_nil (ao : Option Addr) (cap : Nat) (p : Int) (w : World) :
    Calls Try.prog 47 #[.slice ao 0 cap, .int .i64 p] w fun e w' => e = .returned (.tuple #[.agg (cellsOf (AM.findN [] p).1), .bool (AM.findN [] p).2]) ∧ Below w.heap.size w w' := by
  have hbz : Below w.heap.size w (w.alloc (.cells #[.int .i64 0, .int .i64 0, .int .i64 0, .bool false] 99)) := (Below.refl _ _).alloc (Nat.le_refl _) _
  go_enter Try.func47, Try.ntmps47
  go_wp2
  refine wp_loop_rounds 1 ?_
  rw [rounds_succ]
  go_wp2
  exact bodyPost_ret (v := .tuple #[.agg #[.int .i64 0, .int .i64 0, .int .i64 0, .bool false], .bool false]) (by simp [results, Try.results47, go_sem]) rfl ⟨rfl, hbz⟩
theorem areaAt_any (l : List AM.Ar) (v : Value) (p : Int) (w : World) (h : Has w v l) (hc : AM.checkN l = 0) :
    Calls Try.prog 47 #[v, .int .i64 p] w fun e w' => e = .returned (.tuple #[.agg (cellsOf (AM.findN l p).1), .bool (AM.findN l p).2]) ∧ Below w.heap.size w w' := by
  obtain ⟨ao, cap, rfl, h⟩ := h
  rcases h with rfl | ⟨b, off, rfl, hl⟩
  · exact areaAt_nil ao cap p w
  · exact areaAt_some l b off cap p w hl hc
end Go.Proofs.Ytbgnagognnklbaa.AW
