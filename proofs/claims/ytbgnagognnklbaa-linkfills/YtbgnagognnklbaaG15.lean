import Derived.Test.YtbgnagognnklbaaG14
import Derived.Test.YtbgnagognnklbaaG06
namespace Go.Proofs.Ytbgnagognnklbaa.W
open Go.RowKit
set_option linter.unusedVariables false

theorem over_mono (l : List M.Sg) (k n : Nat) (h : M.overTo l k = false) (hk : k ≤ n) : M.overTo l n = false := by
  induction n with
  | zero => obtain rfl : k = 0 := by omega
            exact h
  | succ n ih =>
    rcases Nat.lt_or_ge n k with g | g
    · obtain rfl : k = n + 1 := by omega
      exact h
    · simp only [M.overTo]
      rw [ih g]; rfl
theorem apart_no (l : List M.Sg) (k : Nat) (hk : k < l.length) (h : M.overTo l (k + 1) = false) : M.apartB l = false := over_mono l (k + 1) l.length h hk

set_option maxHeartbeats 4000000 in
theorem overlap_any (l : List M.Sg) (ao : Option Addr) (cap : Nat) (w : World) (h : M.HasBy M.LieG w ao l) (hn : M.Short l.length) (hr : l.all M.rangeB = true) :
    Calls Try.prog 71 #[.slice ao l.length cap] w fun e w' => e = .returned (.bool (!M.apartB l)) ∧ Below w.heap.size w w' := by
  unfold M.Short at hn
  have H := hideC h
  have F := hideC hr
  clear h hr
  go_enter Try.func71, Try.ntmps71
  go_wp2
  go_loopw [3] (fun i wr => ∃ k : Nat, 1 ≤ k ∧ (k ≤ l.length ∨ k = 1) ∧ i = .int .i64 k ∧ M.overTo l k = true ∧ Below w.heap.size w wr) (fun i _ => l.length - (intOf i).toNat)
  case atStart => exact ⟨1, by omega, .inr rfl, rfl, rfl, Below.refl _ _⟩
  case round =>
    obtain ⟨k, hk1, hk, rfl, hall, hb⟩ := hrel
    have HA := hideC hall
    have HB := hideC hb
    clear hall
    by_cases hlt : k < l.length
    · obtain ⟨b, off, hao, hbl, hl⟩ := H.out (by omega)
      subst hao
      obtain ⟨c0, c1, c2, c3, c4⟩ := M.lieG hb hbl hl k hlt
      obtain ⟨e0, e1, e2, e3, e4⟩ := M.lieG hb hbl hl (k - 1) (by omega)
      have g1 : 0 ≤ (M.sgAt l (k - 1)).page ∧ 1 ≤ (M.sgAt l (k - 1)).pages ∧ (M.sgAt l (k - 1)).page + (M.sgAt l (k - 1)).pages ≤ 255 ∧ _ := of_decide_eq_true (M.all_at M.rangeB M.sg0 l (k - 1) (by omega) F.out)
      have hov : Hid (M.overTo l (k + 1) = decide ((M.sgAt l (k - 1)).page + (M.sgAt l (k - 1)).pages ≤ (M.sgAt l k).page)) := by
        show _ = _
        simp only [M.overTo, HA.out, Bool.true_and, M.overAt]
        rw [show (k == 0) = false from by simp; omega, Bool.false_or]
      obtain ⟨s, hs⟩ : ∃ s, s = M.sgAt l k := ⟨_, rfl⟩
      obtain ⟨t, ht⟩ : ∃ t, t = M.sgAt l (k - 1) := ⟨_, rfl⟩
      rw [← hs] at c0 c1 c2 c3 c4 hov
      rw [← ht] at e0 e1 e2 e3 e4 g1 hov
      clear hs ht hb hl
      obtain ⟨sp, sn, sd, sx, sy⟩ := s
      obtain ⟨tp, tn, td, tx, ty⟩ := t
      simp only at c0 c1 c2 c3 c4 e0 e1 e2 e3 e4 g1 hov
      obtain ⟨g1, g2, g3, g4⟩ := g1
      clear c1 c2 c3 c4 e2 e3 e4 g4
      have hli : (k : Int) < (l.length : Int) := by omega
      have hkin := Q.kin_some wr
      have hkc := @Q.cell_kin wr
      have hbr : b < wr.heap.size := Nat.lt_of_lt_of_le hbl HB.out.size
      have k0 : ∀ x : Q.Kin wr.heap.size wr, x.world.cell? ⟨b, off + k * 5, none⟩ = some (.int .i64 sp) := fun x => by rw [hkc x _ _ hbr, c0]
      have k1 : ∀ x : Q.Kin wr.heap.size wr, x.world.cell? ⟨b, off + (k - 1) * 5, none⟩ = some (.int .i64 tp) := fun x => by rw [hkc x _ _ hbr, e0]
      have k2 : ∀ x : Q.Kin wr.heap.size wr, x.world.cell? ⟨b, off + (k - 1) * 5 + 1, none⟩ = some (.int .i64 tn) := fun x => by rw [hkc x _ _ hbr, e1]
      clear hkc c0 e0 e1
      by_cases d : sp < tp + tn
      · have hno : Hid (M.overTo l (k + 1) = false) := by show _ = _; rw [hov.out]; exact decide_eq_false (by omega)
        go_wp2
        refine Q.region_kin (by kernel_rfl) (by kernel_rfl) ?_
        repeat (first | go_big_quiet_step (fail) | quiet_step (fail))
        refine wpQuiet_nil ?_
        intro _ hw'
        obtain ⟨x, hw''⟩ := hw'
        subst hw''
        go_wp2
        go_ret
        exact ⟨ret_bool (by rw [apart_no l k hlt hno.out]; rfl), HB.out.trans (x.keeps.mono HB.out.size)⟩
      · have hyes : Hid (M.overTo l (k + 1) = true) := by show _ = _; rw [hov.out]; exact decide_eq_true (by omega)
        go_wp2
        refine Q.region_kin (by kernel_rfl) (by kernel_rfl) ?_
        repeat (first | go_big_quiet_step (fail) | quiet_step (fail))
        refine wpQuiet_nil ?_
        intro _ hw'
        obtain ⟨x, hw''⟩ := hw'
        subst hw''
        go_wp2
        go_roundw
        case rel => exact ⟨k + 1, by omega, .inl (by omega), by go_num, hyes.out, HB.out.trans (x.keeps.mono HB.out.size)⟩
        case measure => simp [intOf]; omega
    · have HR : Hid (M.apartB l = true) := by
        show _ = _
        unfold M.apartB
        rcases hk with hk | hk
        · rw [show l.length = k by omega]; exact HA.out
        · rcases Nat.lt_or_ge l.length 1 with h0 | h0
          · rw [show l.length = 0 by omega]; rfl
          · rw [show l.length = k by omega]; exact HA.out
      have hge : ¬ (k : Int) < (l.length : Int) := by omega
      clear hb
      go_wp2
      go_ret
      exact ⟨ret_bool (by rw [HR.out]; rfl), HB.out⟩
end Go.Proofs.Ytbgnagognnklbaa.W
namespace Go.Proofs.Ytbgnagognnklbaa.W
open Go.RowKit
set_option linter.unusedVariables false

def cellsG (s : M.Sg) : Array Value := #[.int .i64 s.page, .int .i64 s.pages, .string s.data, .bool s.wr, .bool s.ex]
/-- the first segment that holds the address, or the empty one -/
def segOr (l : List M.Sg) (a : Int) : M.Sg := (M.segIn l a).getD M.sg0
theorem segIn_none : ∀ (l : List M.Sg) (a : Int), (∀ j, j < l.length → M.inSeg (M.sgAt l j) a = false) → M.segIn l a = none
  | [], _, _ => rfl
  | s :: r, a, h => by
    have h0 : M.inSeg s a = false := h 0 (by simp)
    unfold M.segIn
    rw [h0, if_neg (by simp)]
    exact segIn_none r a (fun j hj => h (j + 1) (by simpa using hj))
theorem segIn_some : ∀ (l : List M.Sg) (a : Int) (k : Nat), k < l.length → (∀ j, j < k → M.inSeg (M.sgAt l j) a = false) → M.inSeg (M.sgAt l k) a = true → M.segIn l a = some (M.sgAt l k)
  | s :: r, a, 0, _, _, h => by
    have h0 : M.inSeg s a = true := h
    unfold M.segIn
    rw [h0, if_pos rfl]
    rfl
  | s :: r, a, k + 1, hk, hj, h => by
    have h0 : M.inSeg s a = false := hj 0 (by omega)
    unfold M.segIn
    rw [h0, if_neg (by simp)]
    exact segIn_some r a k (by simpa using hk) (fun j h => hj (j + 1) (by omega)) h
theorem range_at {l : List M.Sg} (h : l.all M.rangeB = true) (k : Nat) (hk : k < l.length) : 0 ≤ (M.sgAt l k).page ∧ 1 ≤ (M.sgAt l k).pages ∧ (M.sgAt l k).page + (M.sgAt l k).pages ≤ 255 ∧ ((M.sgAt l k).data.size : Int) ≤ (M.sgAt l k).pages * 16 :=
  of_decide_eq_true (M.all_at M.rangeB M.sg0 l k hk h)
theorem segIn_neg {l : List M.Sg} (h : l.all M.rangeB = true) (a : Int) (ha : a < 0) : M.segIn l a = none :=
  segIn_none l a (fun j hj => by
    have := range_at h j hj
    exact decide_eq_false (by omega))
theorem ret_seg {a b : M.Sg} {x y : Bool} (h : a = b) (g : x = y) : Ending.returned (.tuple #[.agg (cellsG a), .bool x]) = .returned (.tuple #[.agg (cellsG b), .bool y]) := by rw [h, g]

set_option maxHeartbeats 4000000 in
theorem segAt_any (l : List M.Sg) (ao : Option Addr) (cap : Nat) (a : Int) (w : World) (h : M.HasBy M.LieG w ao l) (hn : M.Short l.length) (hr : l.all M.rangeB = true) (ha : M.I64 a) :
    Calls Try.prog 87 #[.slice ao l.length cap, .int .i64 a] w fun e w' => e = .returned (.tuple #[.agg (cellsG (segOr l a)), .bool (M.placedB l a)]) ∧ Below w.heap.size w w' := by
  unfold M.Short at hn
  unfold M.I64 at ha
  have H := hideC h
  have F := hideC hr
  clear h hr
  by_cases h0 : a < 0
  · have HN := hideC (segIn_neg F.out a h0)
    have HZ := hideC ((Below.refl w.heap.size w).alloc (Nat.le_refl _) (.cells #[.int .i64 0, .int .i64 0, .string ⟨#[]⟩, .bool false, .bool false] 79))
    go_enter Try.func87, Try.ntmps87
    go_wp2
    exact bodyPost_ret (v := .tuple #[.agg #[.int .i64 0, .int .i64 0, .string ⟨#[]⟩, .bool false, .bool false], .bool false]) (by simp [results, Try.results87, go_sem]) rfl ⟨ret_seg (a := M.sg0) (x := false) (by unfold segOr; rw [HN.out]; rfl) (by unfold M.placedB; rw [HN.out]; rfl), HZ.out⟩
  · have h0' : 0 ≤ a := by omega
    have hbz : Below w.heap.size w (w.alloc (.cells #[.int .i64 0, .int .i64 0, .string ⟨#[]⟩, .bool false, .bool false] 79)) := (Below.refl _ _).alloc (Nat.le_refl _) _
    have HZ := hideC hbz
    clear hbz
    go_enter Try.func87, Try.ntmps87
    go_wp2
    go_loopw [16] (fun i wr => ∃ k : Nat, k ≤ l.length ∧ i = .int .i64 k ∧ (∀ j, j < k → M.inSeg (M.sgAt l j) a = false) ∧ Below (w.heap.size + 1) (w.alloc (.cells #[.int .i64 0, .int .i64 0, .string ⟨#[]⟩, .bool false, .bool false] 79)) wr) (fun i _ => l.length - (intOf i).toNat)
    case atStart => exact ⟨0, by omega, rfl, fun j hj => by omega, Below.refl _ _⟩
    case round =>
      obtain ⟨k, hk, rfl, hno, hb⟩ := hrel
      have HN := hideC hno
      have HB := hideC hb
      have hbw : Hid (Below w.heap.size w wr) := HZ.out.trans (hb.mono (Nat.le_succ _))
      have hsz : w.heap.size + 1 ≤ wr.heap.size := by have := hb.size; simpa using this
      have HR := hideC (B.below (B.new w #[.int .i64 0, .int .i64 0, .string ⟨#[]⟩, .bool false, .bool false] 79) hb (Nat.lt_succ_self _))
      clear hno hb
      by_cases hlt : k < l.length
      · obtain ⟨b, off, hao, hbl, hl⟩ := H.out (by omega)
        subst hao
        obtain ⟨c0, c1, c2, c3, c4⟩ := M.lieG hbw.out hbl hl k hlt
        obtain ⟨g1, g2, g3, g4⟩ := range_at F.out k hlt
        obtain ⟨s, hs⟩ : ∃ s, s = M.sgAt l k := ⟨_, rfl⟩
        rw [← hs] at c0 c1 c2 c3 c4 g1 g2 g3 g4
        have HS := hideC hs
        clear hs hl
        obtain ⟨p, n, d, x, y⟩ := s
        simp only at c0 c1 c2 c3 c4 g1 g2 g3 g4
        have hml : d.size ≤ maxLen := by unfold maxLen; omega
        have hli : (k : Int) < (l.length : Int) := by omega
        clear g4
        by_cases d1 : p ≤ a / 16
        · by_cases d2 : a / 16 < p + n
          · have hin : Hid (M.inSeg (M.sgAt l k) a = true) := by show _ = _; rw [← HS.out]; exact decide_eq_true (show p * 16 ≤ a ∧ a < (p + n) * 16 by omega)
            have t0 := B.cell (B.alloc HR.out (.cells #[.int .i64 p, .int .i64 n, .string d, .bool x, .bool y] 79)) 0 rfl
            have t1 := B.cell (B.alloc HR.out (.cells #[.int .i64 p, .int .i64 n, .string d, .bool x, .bool y] 79)) 1 rfl
            have t2 := B.cell (B.alloc HR.out (.cells #[.int .i64 p, .int .i64 n, .string d, .bool x, .bool y] 79)) 2 rfl
            have t3 := B.cell (B.alloc HR.out (.cells #[.int .i64 p, .int .i64 n, .string d, .bool x, .bool y] 79)) 3 rfl
            have t4 := B.cell (B.alloc HR.out (.cells #[.int .i64 p, .int .i64 n, .string d, .bool x, .bool y] 79)) 4 rfl
            have u0 := B.free (B.alloc HR.out (.cells #[.int .i64 p, .int .i64 n, .string d, .bool x, .bool y] 79))
            have HW2 := hideC (hbw.out.alloc hbw.out.size (.cells #[.int .i64 p, .int .i64 n, .string d, .bool x, .bool y] 79))
            go_wp2
            exact bodyPost_ret (v := .tuple #[.agg #[.int .i64 p, .int .i64 n, .string d, .bool x, .bool y], .bool true]) (by simp [results, Try.results87, go_sem, t0, t1, t2, t3, t4]) rfl ⟨ret_seg (a := ⟨p, n, d, x, y⟩) (x := true) (by unfold segOr; rw [segIn_some l a k hlt HN.out hin.out]; exact HS.out) (by unfold M.placedB; rw [segIn_some l a k hlt HN.out hin.out]; rfl), (((((HW2.out.setCell (Nat.le_refl _) _).setCell (Nat.le_refl _) _).setCell (Nat.le_refl _) _).setCell (Nat.le_refl _) _).setCell (Nat.le_refl _) _)⟩
          · have hmiss : Hid (M.inSeg (M.sgAt l k) a = false) := by show _ = _; rw [← HS.out]; exact decide_eq_false (show ¬ (p * 16 ≤ a ∧ a < (p + n) * 16) by omega)
            go_wp2
            go_roundw
            case rel => exact ⟨k + 1, by omega, by go_num, fun j hj => if e : j = k then by rw [e]; exact hmiss.out else HN.out j (by omega), HB.out.alloc (by simpa using hsz) _⟩
            case measure => simp [intOf]; omega
        · have hmiss : Hid (M.inSeg (M.sgAt l k) a = false) := by show _ = _; rw [← HS.out]; exact decide_eq_false (show ¬ (p * 16 ≤ a ∧ a < (p + n) * 16) by omega)
          have d1' : decide (p ≤ a / 16) = false := decide_eq_false d1
          go_wp2
          go_roundw
          case rel => exact ⟨k + 1, by omega, by go_num, fun j hj => if e : j = k then by rw [e]; exact hmiss.out else HN.out j (by omega), HB.out.alloc (by simpa using hsz) _⟩
          case measure => simp [intOf]; omega
      · obtain rfl : k = l.length := by omega
        have HNo := hideC (segIn_none l a HN.out)
        have t0 := B.cell HR.out 0 rfl
        have t1 := B.cell HR.out 1 rfl
        have t2 := B.cell HR.out 2 rfl
        have t3 := B.cell HR.out 3 rfl
        have t4 := B.cell HR.out 4 rfl
        have u0 := B.free HR.out
        go_wp2
        exact bodyPost_ret (v := .tuple #[.agg #[.int .i64 0, .int .i64 0, .string ⟨#[]⟩, .bool false, .bool false], .bool false]) (by simp [results, Try.results87, go_sem, t0, t1, t2, t3, t4]) rfl ⟨ret_seg (a := M.sg0) (x := false) (by unfold segOr; rw [HNo.out]; rfl) (by unfold M.placedB; rw [HNo.out]; rfl), (((((hbw.out.setCell (Nat.le_refl _) _).setCell (Nat.le_refl _) _).setCell (Nat.le_refl _) _).setCell (Nat.le_refl _) _).setCell (Nat.le_refl _) _)⟩
end Go.Proofs.Ytbgnagognnklbaa.W
