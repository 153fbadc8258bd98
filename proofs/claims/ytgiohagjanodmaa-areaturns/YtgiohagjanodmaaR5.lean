import Derived.Test.YtgiohagjanodmaaR3
import Derived.Test.YtgiohagjanodmaaR4
namespace Go.Proofs.Ytgiohagjanodmaa.W
open Go.RowKit
set_option linter.unusedVariables false

def inB (n a b : Int) : Bool := decide (a ≤ n ∧ n ≤ b)
theorem inB_iff (n a b : Int) : inB n a b = true ↔ a ≤ n ∧ n ≤ b := ⟨fun h => of_decide_eq_true h, fun h => decide_eq_true h⟩
theorem inB_no (n a b : Int) (h : ¬ (a ≤ n ∧ n ≤ b)) : inB n a b = false := decide_eq_false h
theorem inB_any (n a b : Int) (w : World) : Calls Try.prog 22 #[.int .i64 n, .int .i64 a, .int .i64 b] w fun e w' => e = .returned (.bool (inB n a b)) ∧ w = w' := within_any n a b w

/-- each area by itself may be, in the reference's own words -/
theorem each_words (a : M.Ar) : (M.pagesB a.page a.pages && M.protB a.prot) = true ↔ inB a.page 1 255 = true ∧ inB a.pages 1 255 = true ∧ a.page + a.pages - 1 ≤ 255 ∧ inB a.prot 0 3 = true := by
  rw [Bool.and_eq_true, M.pagesB_iff, prot_iff, inB_iff, inB_iff, inB_iff]
  omega

theorem eachTo_false (l : List M.Ar) : ∀ (k n : Nat), k ≤ n → M.eachTo l k = false → M.eachTo l n = false
  | k, 0, h, hk => by obtain rfl : k = 0 := by omega
                      exact hk
  | k, n + 1, h, hk => by
    by_cases e : k = n + 1
    · subst e; exact hk
    · simp [M.eachTo, eachTo_false l k n (by omega) hk]

theorem check_each (l : List M.Ar) (hn : ¬ 255 < l.length) (h : M.eachTo l l.length = false) : M.checkN l = 1 := by
  unfold M.checkN
  rw [if_neg hn, if_neg]
  intro hg
  have := (M.good_each l l.length hg).1
  rw [this] at h; cases h
theorem check_rise (l : List M.Ar) (hn : ¬ 255 < l.length) (h : M.riseTo l l.length = false) : M.checkN l = 1 := by
  unfold M.checkN
  rw [if_neg hn, if_neg]
  intro hg
  have := (M.good_each l l.length hg).2
  rw [this] at h; cases h
theorem check_same (l : List M.Ar) (hn : ¬ 255 < l.length) (h : M.eachTo l l.length = true) : M.checkN l = 0 ↔ M.gatherN (M.spreadN l) = l := by
  constructor
  · exact M.gather_spread l
  · intro e
    have := M.check_gather _ (M.fine_each l h)
    rw [e] at this
    exact this
theorem check_01 (l : List M.Ar) (hn : ¬ 255 < l.length) (h : M.checkN l ≠ 0) : M.checkN l = 1 := by
  unfold M.checkN at h ⊢
  rw [if_neg hn] at h ⊢
  split
  · rename_i hg
    rw [if_pos hg] at h
    exact absurd rfl h
  · rfl

theorem board_nil (ao : Option Addr) (cap : Nat) (w : World) :
    Calls Try.prog 23 #[.slice ao 0 cap] w fun e w' => ∃ C, e = .returned (.tuple #[.agg C, .bool (M.riseTo [] 0)]) ∧ Board [] C ∧ Below w.heap.size w w' := by
  obtain ⟨Z, hZ⟩ : ∃ Z, Z = M.cellsB (fun _ => 0) := ⟨_, rfl⟩
  have hz := zv42
  rw [← hZ] at hz
  have HZ : Hid (Z = M.cellsB (fun _ => 0)) := hZ
  have hZs : Z.size = 256 := by rw [hZ]; exact M.cellsB_size _
  have hZo : Z.all (·.oneCell') = true := by rw [hZ]; exact M.cellsB_one _
  have HZO : Hid (Z.all (·.oneCell') = true) := hZo
  clear hZ hZo
  have HR : Hid (((w.alloc (.cells Z 42)).alloc (.cells Z 42)).heap[w.heap.size]? = some (.cells Z 42 (0, 0))) := B.alloc (B.new w Z 42) _
  have HA : Hid (((w.alloc (.cells Z 42)).alloc (.cells Z 42)).heap[w.heap.size + 1]? = some (.cells Z 42 (0, 0))) := by
    have := B.new (w.alloc (.cells Z 42)) Z 42
    show _ = _
    simpa using this
  have HB : Hid (Below w.heap.size w ((w.alloc (.cells Z 42)).alloc (.cells Z 42))) := ((Below.refl _ _).alloc (Nat.le_refl _) _).alloc (by simp) _
  go_enter Try.func23, Try.ntmps23
  go_wp2
  refine wp_loop_rounds 1 ?_
  rw [rounds_succ]
  go_wp2_with (first | (refine wpList_load_row rfl 42 _ rfl (w.heap.size + 1) rfl 42 Z (0, 0) _ HA.out Try.underlying42 rfl (by rw [hZs]; exact size42) ?_) | (refine wpList_store_row rfl 42 _ _ rfl w.heap.size Z rfl rfl 42 Z HR.out (by rw [hZs]; exact size42) rfl HZO.out ?_))
  have hfin := setRow_heap _ _ _ Z 42 (0, 0) HR.out
  have hld := run_loadVar_row (P := Try.prog) _ _ 42 42 Z (0, 0) _ hfin Try.underlying42 rfl (by rw [hZs]; exact size42)
  refine bodyPost_ret (v := .tuple #[.agg Z, .bool true]) ?_ rfl ⟨Z, rfl, ⟨hZs, HZO.out, fun _ => HZ.out⟩, below_setRow HB.out (Nat.le_refl _) _⟩
  rw [results_cell_tmp rfl]
  simp [asAddr, Result.andThen, hld]
theorem boardOf_any (l : List M.Ar) (v : Value) (w : World) (h : Has w v l) (he : M.eachTo l l.length = true) (hn : l.length ≤ 255) :
    Calls Try.prog 23 #[v] w fun e w' => ∃ C, e = .returned (.tuple #[.agg C, .bool (M.riseTo l l.length)]) ∧ Board l C ∧ Below w.heap.size w w' := by
  obtain ⟨ao, cap, rfl, h⟩ := h
  rcases h with rfl | ⟨b, off, rfl, hl⟩
  · exact board_nil ao cap w
  · exact boardOf_some l b off cap w hl he hn

set_option maxRecDepth 100000 in
set_option maxHeartbeats 4000000 in
theorem refCheck_tail (l : List M.Ar) (v : Value) (w : World) (h : Has w v l) (he : M.eachTo l l.length = true) (hn : ¬ 255 < l.length) (ao : Option Addr) (cap : Nat) (hv : v = .slice ao l.length cap)
    (hloop : ∀ i, i < l.length → ∃ b off, ao = some ⟨b, off, none⟩ ∧ M.Lie w b off l) :
    Calls Try.prog 8 #[.slice ao l.length cap] w fun e w' => e = .returned (.int .i64 (M.checkN l)) ∧ Below w.heap.size w w' := by
  have HH : Hid (Has w (.slice ao l.length cap) l) := by show Has _ _ _; rw [← hv]; exact h
  have HE : Hid (M.eachTo l l.length = true) := he
  have HL : Hid (∀ i, i < l.length → ∃ b off, ao = some ⟨b, off, none⟩ ∧ M.Lie w b off l) := hloop
  have HNl : Hid (¬ 255 < l.length) := hn
  have hn' : ¬ (255 : Int) < (l.length : Int) := by omega
  obtain ⟨Z, hZ⟩ : ∃ Z, Z = M.cellsB (fun _ => 0) := ⟨_, rfl⟩
  have hz := zv42
  rw [← hZ] at hz
  have hZs : Z.size = 256 := by rw [hZ]; exact M.cellsB_size _
  clear h he hv hloop hZ
  go_enter Try.func8, Try.ntmps8
  go_wp2
  go_loopw [3] (fun i wr => ∃ k : Nat, k ≤ l.length ∧ i = .int .i64 k ∧ Below w.heap.size w wr) (fun i _ => l.length - (intOf i).toNat)
  case atStart => exact ⟨0, by omega, rfl, Below.refl _ _⟩
  case round =>
    obtain ⟨k, hk, rfl, hb⟩ := hrel
    have HB : Hid (Below w.heap.size w wr) := hb
    by_cases hlt : k < l.length
    · obtain ⟨b, off, hao, hl⟩ := HL.out k hlt
      obtain ⟨c0, c1, c2, c3⟩ := hl.below hb k hlt
      have hw := M.each_at l _ HE.out k hlt
      have hw2 := (each_words (M.at_ l k)).1 (by rw [hw.1, hw.2]; rfl)
      have hbk := (M.pagesB_iff _ _).1 hw.1
      obtain ⟨a, ha⟩ : ∃ a, a = M.at_ l k := ⟨_, rfl⟩
      rw [← ha] at c0 c1 c2 c3 hw2 hbk
      clear ha hb hl hw
      subst hao
      obtain ⟨d1, d2, d3, d4⟩ := hw2
      have d3' : ¬ 255 < a.page + a.pages - 1 := by omega
      have hki : (k : Int) < (l.length : Int) := by omega
      go_wp2_with (first | (go_at_call 22; refine (inB_any _ _ _ _).mono ?_; rintro e w' ⟨rfl, rfl⟩))
      go_roundw
      case rel => exact ⟨k + 1, by omega, by go_num, HB.out.alloc HB.out.size _⟩
      case measure => simp [intOf]; omega
    · obtain rfl : k = l.length := by omega
      clear hb
      go_wp2_with fail
      refine (boardOf_any l (.slice ao l.length cap) _ (HH.out.below HB.out) HE.out (by omega)).mono ?_
      rintro e w2 ⟨C, rfl, hC, hb2⟩
      have HBD : Hid (Board l C) := hC
      have hCs : C.size = 256 := hC.1
      have hCo : C.all (·.oneCell') = true := hC.2.1
      have HCO : Hid (C.all (·.oneCell') = true) := hCo
      have HB2 : Hid (Below w.heap.size w w2) := HB.out.trans (hb2.mono HB.out.size)
      clear hC hCo hb2
      have hn2 : Hid ((w2.alloc (.cells Z 42)).heap[w2.heap.size]? = some (.cells Z 42 (0, 0))) := B.new w2 Z 42
      have HA0 : Hid (((w2.alloc (.cells Z 42)).setRow w2.heap.size C).heap[w2.heap.size]? = some (.cells C 42 (0, 0))) := setRow_heap _ _ _ _ 42 (0, 0) hn2.out
      have HB3 : Hid (Below w.heap.size w ((w2.alloc (.cells Z 42)).setRow w2.heap.size C)) := below_setRow (HB2.out.alloc HB2.out.size _) HB2.out.size _
      by_cases hr : M.riseTo l l.length = true
      · have hCb : Hid (C = bd (M.spreadN l)) := HBD.out.2.2 hr
        go_wp2_with (first | (refine wpList_store_row rfl 42 _ _ rfl w2.heap.size C rfl rfl 42 Z hn2.out (by rw [hCs]; exact size42) (by rw [hZs, hCs]) HCO.out ?_) | (refine wpList_load_row rfl 42 _ rfl w2.heap.size rfl 42 C (0, 0) _ HA0.out Try.underlying42 rfl (by rw [hCs]; exact size42) ?_))
        refine wp_load_row 42 _ rfl w2.heap.size rfl 42 C (0, 0) _ HA0.out Try.underlying42 rfl (by rw [hCs]; exact size42) ?_
        go_wp2_with fail
        have hcall := areasOf_any (M.spreadN l) (M.fine_each l HE.out) ((w2.alloc (.cells Z 42)).setRow w2.heap.size C)
        rw [show M.cellsB (fun n => M.enc (M.spreadN l n)) = C from hCb.out.symm] at hcall
        refine hcall.mono ?_
        clear hcall
        rintro e w3 ⟨v3, rfl, h3, hb4⟩
        have HB4 : Hid (Below w.heap.size w w3) := HB3.out.trans (hb4.mono HB3.out.size)
        have HG3 : Hid (Has w3 v3 (M.gatherN (M.spreadN l))) := h3
        clear hb4 h3
        go_wp2_with fail
        refine (same_any (M.gatherN (M.spreadN l)) l v3 (.slice ao l.length cap) _ HG3.out (HH.out.below HB4.out) (by have := M.gather_len (M.spreadN l) 256; unfold M.gatherN; omega) (by have := HNl.out; omega)).mono ?_
        rintro e w4 ⟨r, rfl, hr2, hb5⟩
        have HB5 : Hid (Below w.heap.size w w4) := HB4.out.trans (hb5.mono HB4.out.size)
        have HR2 : Hid (r = true ↔ M.gatherN (M.spreadN l) = l) := hr2
        clear hb5 hr2
        cases r
        · have hres : Hid (M.checkN l = 1) := check_01 l HNl.out (fun e => by have := HR2.out.2 ((check_same l HNl.out HE.out).1 e); cases this)
          go_wp2
          go_ret
          exact ⟨ret_int hres.out.symm, HB5.out⟩
        · have hres : Hid (M.checkN l = 0) := (check_same l HNl.out HE.out).2 (HR2.out.1 rfl)
          go_wp2
          go_ret
          exact ⟨ret_int hres.out.symm, HB5.out⟩
      · have hr' : M.riseTo l l.length = false := by simpa using hr
        have hres : Hid (M.checkN l = 1) := check_rise l HNl.out hr'
        go_wp2_with (refine wpList_store_row rfl 42 _ _ rfl w2.heap.size C rfl rfl 42 Z hn2.out (by rw [hCs]; exact size42) (by rw [hZs, hCs]) HCO.out ?_)
        go_ret
        exact ⟨ret_int hres.out.symm, HB3.out⟩
end Go.Proofs.Ytgiohagjanodmaa.W
