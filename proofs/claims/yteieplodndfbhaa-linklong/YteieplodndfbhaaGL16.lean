import Derived.Test.YteieplodndfbhaaGL02
import Derived.Test.YteieplodndfbhaaGL08
namespace Go.Proofs.Yteieplodndfbhaa.W
open Go.RowKit
set_option linter.unusedVariables false
set_option maxRecDepth 100000

set_option maxHeartbeats 4000000 in
theorem namesFine_any (i : M.Im) (a : M.At) (w : World) (h : M.HasIm w a i) (hf : M.Fit i) : Calls Try.prog 58 #[.agg (M.cellsI a i)] w fun e w' => e = .returned (.bool (M.namesB i)) ∧ Below w.heap.size w w' := by
  obtain ⟨an, cn, ag, cg, ay, cy, ar, cr⟩ := a
  obtain ⟨nm, ns, gs, ys, rs, en⟩ := i
  obtain ⟨h1, h2, h3, h4⟩ := h
  obtain ⟨f1, f2, f3, f4, f5, f6, f7, f8, f9, f10⟩ := hf
  simp only at h1 h2 h3 h4 f1 f2 f3 f4 f5 f6 f7 f8 f9 f10
  unfold M.Short at f2 f6 f8
  simp only [M.cellsI, M.namesB]
  have H1 := hideC h1
  have H3 := hideC h3
  have H4 := hideC h4
  have F3 := hideC f3
  have F7 := hideC f7
  have F9 := hideC f9
  clear h1 h2 h3 h4 f3 f4 f5 f7 f9 f10
  have BOX := hideC (B.new w #[.string nm, .slice an ns.length cn, .slice ag gs.length cg, .slice ay ys.length cy, .slice ar rs.length cr, .int .i64 en] 27)
  have HB0 := hideC ((Below.refl w.heap.size w).alloc (Nat.le_refl _) (.cells #[.string nm, .slice an ns.length cn, .slice ag gs.length cg, .slice ay ys.length cy, .slice ar rs.length cr, .int .i64 en] 27))
  obtain ⟨X, hX⟩ : ∃ X : Array Value, X = #[.string nm, .slice an ns.length cn, .slice ag gs.length cg, .slice ay ys.length cy, .slice ar rs.length cr, .int .i64 en] := ⟨_, rfl⟩
  have HX := hideC hX
  rw [← hX] at BOX HB0
  clear hX
  cases e1 : M.nameB nm
  · go_enter Try.func58, Try.ntmps58
    go_wp2_with (go_at_call 83; refine (named_any _ _ f1).mono ?_; rintro e w' ⟨rfl, rfl⟩; rw [e1])
    go_ret
    rw [← HX.out]
    exact ⟨rfl, HB0.out⟩
  · go_enter Try.func58, Try.ntmps58
    go_wp2_with (go_at_call 83; refine (named_any _ _ f1).mono ?_; rintro e w' ⟨rfl, rfl⟩; rw [e1])
    rw [← HX.out]
    go_loopw [3] (fun i wr => ∃ k : Nat, k ≤ ns.length ∧ i = .int .i64 k ∧ (∀ j, j < k → M.nameB (M.strAt ns j) = true) ∧ wr.heap[w.heap.size]? = some (.cells X 27 (0, 0)) ∧ Below w.heap.size w wr) (fun i _ => ns.length - (intOf i).toNat)
    case atStart => exact ⟨0, by omega, rfl, fun j h => by omega, BOX.out, HB0.out⟩
    case round =>
      obtain ⟨k0, hk, rfl, hall, hbox, hb⟩ := hrel
      have HA0 := hideC hall
      have BOX0 := hideC hbox
      have HB1 := hideC hb
      have bx0 := B.cell hbox 0 (by rw [HX.out]; rfl)
      have bx1 := B.cell hbox 1 (by rw [HX.out]; rfl)
      have bx2 := B.cell hbox 2 (by rw [HX.out]; rfl)
      have bx3 := B.cell hbox 3 (by rw [HX.out]; rfl)
      have bx4 := B.cell hbox 4 (by rw [HX.out]; rfl)
      have bx5 := B.cell hbox 5 (by rw [HX.out]; rfl)
      clear hall hbox
      by_cases hlt : k0 < ns.length
      · obtain ⟨b, off, hao, hbl, hl⟩ := H1.out (by omega)
        have hli : (k0 : Int) < (ns.length : Int) := by omega
        have c0 := M.lieS hb hbl hl k0 hlt
        have fs := F3.out k0 hlt
        obtain ⟨x, hx⟩ : ∃ x, x = M.strAt ns k0 := ⟨_, rfl⟩
        rw [← hx] at c0 fs
        have HXX := hideC hx
        clear hx hb hl
        subst hao
        cases hc : M.nameB x
        · have HR : Hid ((true && (ns.all M.nameB && (ys.all (fun y => M.nameB y.name) && rs.all M.relNameB))) = false) := by
            show _ = _
            rw [M.all_false M.nameB M.nil ns k0 hlt (by show M.nameB (M.strAt ns k0) = false; rw [← HXX.out]; exact hc)]
            simp
          go_wp2_with (go_at_call 83; refine (named_any _ _ fs).mono ?_; rintro e w' ⟨rfl, rfl⟩; rw [hc])
          go_ret
          exact ⟨ret_bool HR.out.symm, HB1.out⟩
        · go_wp2_with (go_at_call 83; refine (named_any _ _ fs).mono ?_; rintro e w' ⟨rfl, rfl⟩; rw [hc])
          go_roundw
          case rel => exact ⟨k0 + 1, by omega, by go_num, fun j h => if e : j = k0 then by rw [e, ← HXX.out]; exact hc else HA0.out j (by omega), BOX0.out, HB1.out⟩
          case measure => simp [intOf]; omega
      · obtain rfl : k0 = ns.length := by omega
        clear hb
        go_wp2_with (go_at_call 83; fail)
        go_loopw [4] (fun i wr => ∃ k : Nat, k ≤ ys.length ∧ i = .int .i64 k ∧ (∀ j, j < k → M.nameB (M.syAt ys j).name = true) ∧ wr.heap[w.heap.size]? = some (.cells X 27 (0, 0)) ∧ Below w.heap.size w wr) (fun i _ => ys.length - (intOf i).toNat)
        case atStart => exact ⟨0, by omega, rfl, fun j h => by omega, BOX0.out, HB1.out⟩
        case round =>
          obtain ⟨k1, hk, rfl, hall, hbox, hb⟩ := hrel
          have HA1 := hideC hall
          have BOX1 := hideC hbox
          have HB2 := hideC hb
          have bx0 := B.cell hbox 0 (by rw [HX.out]; rfl)
          have bx1 := B.cell hbox 1 (by rw [HX.out]; rfl)
          have bx2 := B.cell hbox 2 (by rw [HX.out]; rfl)
          have bx3 := B.cell hbox 3 (by rw [HX.out]; rfl)
          have bx4 := B.cell hbox 4 (by rw [HX.out]; rfl)
          have bx5 := B.cell hbox 5 (by rw [HX.out]; rfl)
          clear hall hbox
          by_cases hlt : k1 < ys.length
          · obtain ⟨b, off, hao, hbl, hl⟩ := H3.out (by omega)
            have hli : (k1 : Int) < (ys.length : Int) := by omega
            obtain ⟨c0, c1⟩ := M.lieY hb hbl hl k1 hlt
            have fs := (F7.out k1 hlt).1
            obtain ⟨y, hx⟩ : ∃ y, y = M.syAt ys k1 := ⟨_, rfl⟩
            rw [← hx] at c0 c1 fs
            have HXX := hideC hx
            clear hx hb hl
            obtain ⟨x, xp⟩ := y
            simp only at c0 c1 fs
            subst hao
            cases hc : M.nameB x
            · have HR : Hid ((true && (ns.all M.nameB && (ys.all (fun y => M.nameB y.name) && rs.all M.relNameB))) = false) := by
                show _ = _
                rw [M.all_false (fun y => M.nameB y.name) M.sy0 ys k1 hlt (by show M.nameB (M.syAt ys k1).name = false; rw [← HXX.out]; exact hc)]
                simp
              go_wp2_with (go_at_call 83; refine (named_any _ _ fs).mono ?_; rintro e w' ⟨rfl, rfl⟩; rw [hc])
              go_ret
              exact ⟨ret_bool HR.out.symm, HB2.out⟩
            · go_wp2_with (go_at_call 83; refine (named_any _ _ fs).mono ?_; rintro e w' ⟨rfl, rfl⟩; rw [hc])
              go_roundw
              case rel => exact ⟨k1 + 1, by omega, by go_num, fun j h => if e : j = k1 then by rw [e, ← HXX.out]; exact hc else HA1.out j (by omega), BOX1.out, HB2.out⟩
              case measure => simp [intOf]; omega
          · obtain rfl : k1 = ys.length := by omega
            clear hb
            go_wp2_with (go_at_call 83; fail)
            go_loopw [5] (fun i wr => ∃ k : Nat, k ≤ rs.length ∧ i = .int .i64 k ∧ (∀ j, j < k → M.relNameB (M.rlAt rs j) = true) ∧ wr.heap[w.heap.size]? = some (.cells X 27 (0, 0)) ∧ Below w.heap.size w wr) (fun i _ => rs.length - (intOf i).toNat)
            case atStart => exact ⟨0, by omega, rfl, fun j h => by omega, BOX1.out, HB2.out⟩
            case round =>
              obtain ⟨k2, hk, rfl, hall, hbox, hb⟩ := hrel
              have HA2 := hideC hall
              have BOX2 := hideC hbox
              have HB3 := hideC hb
              have bx0 := B.cell hbox 0 (by rw [HX.out]; rfl)
              have bx1 := B.cell hbox 1 (by rw [HX.out]; rfl)
              have bx2 := B.cell hbox 2 (by rw [HX.out]; rfl)
              have bx3 := B.cell hbox 3 (by rw [HX.out]; rfl)
              have bx4 := B.cell hbox 4 (by rw [HX.out]; rfl)
              have bx5 := B.cell hbox 5 (by rw [HX.out]; rfl)
              clear hall hbox
              by_cases hlt : k2 < rs.length
              · obtain ⟨b, off, hao, hbl, hl⟩ := H4.out (by omega)
                have hli : (k2 : Int) < (rs.length : Int) := by omega
                obtain ⟨c0, c1, c2⟩ := M.lieR hb hbl hl k2 hlt
                have fs := (F9.out k2 hlt).2.1
                obtain ⟨y, hx⟩ : ∃ y, y = M.rlAt rs k2 := ⟨_, rfl⟩
                rw [← hx] at c0 c1 c2 fs
                have HXX := hideC hx
                clear hx hb hl
                obtain ⟨xp, x, xa⟩ := y
                simp only at c0 c1 c2 fs
                subst hao
                by_cases he : x.size = 0
                · have hrl : Hid (M.relNameB ⟨xp, x, xa⟩ = true) := by show _ = _; unfold M.relNameB; simp only; rw [decide_eq_true he]; rfl
                  obtain rfl : x = ⟨#[]⟩ := by cases x with | mk d => congr 1; exact Array.eq_empty_of_size_eq_zero he
                  go_wp2
                  go_roundw
                  case rel => exact ⟨k2 + 1, by omega, by go_num, fun j h => if e : j = k2 then by rw [e, ← HXX.out]; exact hrl.out else HA2.out j (by omega), BOX2.out, HB3.out⟩
                  case measure => simp [intOf]; omega
                · have hne : ¬ x.toList = [] := by rw [Lib.toList_data]; intro e; exact he (by rw [Lib.size_eq, e]; rfl)
                  have hne2 : x.toList.isEmpty = false := by cases hh : x.toList with | nil => exact absurd hh hne | cons _ _ => rfl
                  cases hc : M.nameB x
                  · have HR : Hid ((true && (ns.all M.nameB && (ys.all (fun y => M.nameB y.name) && rs.all M.relNameB))) = false) := by
                      show _ = _
                      rw [M.all_false M.relNameB M.rl0 rs k2 hlt (by show M.relNameB (M.rlAt rs k2) = false; rw [← HXX.out]; unfold M.relNameB; simp only; rw [hc, decide_eq_false he]; rfl)]
                      simp
                    go_wp2_with (go_at_call 83; refine (named_any _ _ fs).mono ?_; rintro e w' ⟨rfl, rfl⟩; rw [hc])
                    go_ret
                    exact ⟨ret_bool HR.out.symm, HB3.out⟩
                  · have hrl : Hid (M.relNameB ⟨xp, x, xa⟩ = true) := by show _ = _; unfold M.relNameB; simp only; rw [hc]; simp
                    go_wp2_with (go_at_call 83; refine (named_any _ _ fs).mono ?_; rintro e w' ⟨rfl, rfl⟩; rw [hc])
                    go_roundw
                    case rel => exact ⟨k2 + 1, by omega, by go_num, fun j h => if e : j = k2 then by rw [e, ← HXX.out]; exact hrl.out else HA2.out j (by omega), BOX2.out, HB3.out⟩
                    case measure => simp [intOf]; omega
              · obtain rfl : k2 = rs.length := by omega
                clear hb
                have HR : Hid ((true && (ns.all M.nameB && (ys.all (fun y => M.nameB y.name) && rs.all M.relNameB))) = true) := by
                  show _ = _
                  rw [M.all_true M.nameB M.nil ns (fun j hj => HA0.out j hj), M.all_true (fun y => M.nameB y.name) M.sy0 ys (fun j hj => HA1.out j hj), M.all_true M.relNameB M.rl0 rs (fun j hj => HA2.out j hj)]
                  rfl
                go_wp2
                go_ret
                exact ⟨ret_bool HR.out.symm, HB3.out⟩
end Go.Proofs.Yteieplodndfbhaa.W
namespace Go.Proofs.Yteieplodndfbhaa.W
open Go.RowKit
set_option linter.unusedVariables false
set_option maxRecDepth 100000

/-- which segment holds the address, counted from k on; -1: none -/
def ownFrom : List M.Sg → Int → Nat → Int
  | [], _, _ => -1
  | s :: r, a, k => if M.inSeg s a then (k : Int) else ownFrom r a (k + 1)
def ownN (l : List M.Sg) (a : Int) : Int := ownFrom l a 0
theorem ownFrom_none : ∀ (l : List M.Sg) (a : Int) (n : Nat), (∀ j, j < l.length → M.inSeg (M.sgAt l j) a = false) → ownFrom l a n = -1
  | [], _, _, _ => rfl
  | s :: r, a, n, h => by
    have h0 : M.inSeg s a = false := h 0 (by simp)
    unfold ownFrom
    rw [h0, if_neg (by simp)]
    exact ownFrom_none r a (n + 1) (fun j hj => h (j + 1) (by simpa using hj))
theorem ownFrom_some : ∀ (l : List M.Sg) (a : Int) (n k : Nat), k < l.length → (∀ j, j < k → M.inSeg (M.sgAt l j) a = false) → M.inSeg (M.sgAt l k) a = true → ownFrom l a n = ((n + k : Nat) : Int)
  | s :: r, a, n, 0, _, _, h => by
    have h0 : M.inSeg s a = true := h
    unfold ownFrom
    rw [h0, if_pos rfl]
    rfl
  | s :: r, a, n, k + 1, hk, hj, h => by
    have h0 : M.inSeg s a = false := hj 0 (by omega)
    unfold ownFrom
    rw [h0, if_neg (by simp), ownFrom_some r a (n + 1) k (by simpa using hk) (fun j h => hj (j + 1) (by omega)) h]
    congr 1
    omega
theorem own_none (l : List M.Sg) (a : Int) (h : ∀ j, j < l.length → M.inSeg (M.sgAt l j) a = false) : ownN l a = -1 := ownFrom_none l a 0 h
theorem own_some (l : List M.Sg) (a : Int) (k : Nat) (hk : k < l.length) (hj : ∀ j, j < k → M.inSeg (M.sgAt l j) a = false) (h : M.inSeg (M.sgAt l k) a = true) : ownN l a = (k : Int) := by
  unfold ownN
  rw [ownFrom_some l a 0 k hk hj h, Nat.zero_add]
theorem first_or (l : List M.Sg) (a : Int) : ∀ n, n ≤ l.length → (∀ j, j < n → M.inSeg (M.sgAt l j) a = false) ∨ ∃ k, k < n ∧ (∀ j, j < k → M.inSeg (M.sgAt l j) a = false) ∧ M.inSeg (M.sgAt l k) a = true
  | 0, _ => .inl fun j h => by omega
  | n + 1, hn => by
    rcases first_or l a n (by omega) with h | ⟨k, hk, h1, h2⟩
    · cases e : M.inSeg (M.sgAt l n) a
      · exact .inl fun j hj => if g : j = n then by rw [g]; exact e else h j (by omega)
      · exact .inr ⟨n, by omega, h, e⟩
    · exact .inr ⟨k, by omega, h1, h2⟩
theorem own_cases (l : List M.Sg) (a : Int) : (M.placedB l a = true ∧ ∃ k, k < l.length ∧ ownN l a = (k : Int) ∧ segOr l a = M.sgAt l k) ∨ (M.placedB l a = false ∧ ownN l a = -1) := by
  rcases first_or l a l.length (Nat.le_refl _) with h | ⟨k, hk, h1, h2⟩
  · exact .inr ⟨by unfold M.placedB; rw [segIn_none l a h]; rfl, own_none l a h⟩
  · exact .inl ⟨by unfold M.placedB; rw [segIn_some l a k hk h1 h2]; rfl, k, hk, own_some l a k hk h1 h2, by unfold segOr; rw [segIn_some l a k hk h1 h2]; rfl⟩

set_option maxHeartbeats 1500000 in
theorem owner_any (i : M.Im) (a : M.At) (w : World) (p : Int) (hp : M.I64 p) (h : M.HasIm w a i) (hf : M.Fit i) (hr : i.segs.all M.rangeB = true) : Calls Try.prog 84 #[.agg (M.cellsI a i), .int .i64 p] w fun e w' => e = .returned (.int .i64 (ownN i.segs p)) ∧ Below w.heap.size w w' := by
  obtain ⟨an, cn, ag, cg, ay, cy, ar, cr⟩ := a
  obtain ⟨nm, ns, gs, ys, rs, en⟩ := i
  obtain ⟨h1, h2, h3, h4⟩ := h
  obtain ⟨f1, f2, f3, f4, f5, f6, f7, f8, f9, f10⟩ := hf
  simp only at h1 h2 h3 h4 f1 f2 f3 f4 f5 f6 f7 f8 f9 f10
  have F4 := hideC f4
  unfold M.Short at f2 f4 f6 f8
  simp only [M.cellsI]
  have H1 := hideC h1
  have H2 := hideC h2
  have H3 := hideC h3
  have H4 := hideC h4
  have F3 := hideC f3
  have F7 := hideC f7
  have F9 := hideC f9
  have F10 := hideC f10
  have HG := hideC hr
  clear h1 h2 h3 h4 f3 f5 f7 f9 f10 hr
  have BOX := hideC (B.new w #[.string nm, .slice an ns.length cn, .slice ag gs.length cg, .slice ay ys.length cy, .slice ar rs.length cr, .int .i64 en] 27)
  have HB0 := hideC ((Below.refl w.heap.size w).alloc (Nat.le_refl _) (.cells #[.string nm, .slice an ns.length cn, .slice ag gs.length cg, .slice ay ys.length cy, .slice ar rs.length cr, .int .i64 en] 27))
  obtain ⟨X, hX⟩ : ∃ X : Array Value, X = #[.string nm, .slice an ns.length cn, .slice ag gs.length cg, .slice ay ys.length cy, .slice ar rs.length cr, .int .i64 en] := ⟨_, rfl⟩
  have HX := hideC hX
  rw [← hX] at BOX HB0
  clear hX
  unfold M.I64 at hp
  go_enter Try.func84, Try.ntmps84
  go_wp2
  rw [← HX.out]
  go_loopw [5] (fun i wr => ∃ k : Nat, k ≤ gs.length ∧ i = .int .i64 k ∧ (∀ j, j < k → M.inSeg (M.sgAt gs j) p = false) ∧ wr.heap[w.heap.size]? = some (.cells X 27 (0, 0)) ∧ Below w.heap.size w wr) (fun i _ => gs.length - (intOf i).toNat)
  case atStart => exact ⟨0, by omega, rfl, fun j h => by omega, BOX.out, HB0.out⟩
  case round =>
    obtain ⟨k, hk, rfl, hall, hbox, hb⟩ := hrel
    have HA := hideC hall
    have BX := hideC hbox
    have HB := hideC hb
    have bx2 := B.cell hbox 2 (by rw [HX.out]; rfl)
    clear hall hbox
    by_cases hlt : k < gs.length
    · obtain ⟨b, off, hao, hbl, hl⟩ := H2.out (by omega)
      have hli : (k : Int) < (gs.length : Int) := by omega
      obtain ⟨c0, c1, c2, c3, c4⟩ := M.lieG hb hbl hl k hlt
      obtain ⟨g1, g2, g3, g4⟩ := range_at HG.out k hlt
      obtain ⟨s, hs⟩ : ∃ s, s = M.sgAt gs k := ⟨_, rfl⟩
      rw [← hs] at c0 c1 c2 c3 c4 g1 g2 g3 g4
      have HS := hideC hs
      clear hs hb hl g4
      obtain ⟨sp, sn, sd, sx, sy⟩ := s
      simp only at c0 c1 c2 c3 c4 g1 g2 g3
      subst hao
      have BX1 := hideC (B.alloc BX.out (.cells #[.int .i64 sp, .int .i64 sn, .string sd, .bool sx, .bool sy] 79))
      have HB1 := hideC (HB.out.alloc HB.out.size (.cells #[.int .i64 sp, .int .i64 sn, .string sd, .bool sx, .bool sy] 79))
      by_cases d1 : sp * 16 ≤ p
      · by_cases d2 : p < (sp + sn) * 16
        · have HR := hideC (own_some gs p k hlt HA.out (by rw [← HS.out]; exact decide_eq_true (show sp * 16 ≤ p ∧ p < (sp + sn) * 16 from ⟨d1, d2⟩)))
          go_wp2
          go_ret
          exact ⟨ret_i64 HR.out.symm, HB1.out⟩
        · have hmiss : Hid (M.inSeg (M.sgAt gs k) p = false) := by show _ = _; rw [← HS.out]; exact decide_eq_false (show ¬ (sp * 16 ≤ p ∧ p < (sp + sn) * 16) by omega)
          go_wp2
          go_roundw
          case rel => exact ⟨k + 1, by omega, by go_num, fun j hj => if e : j = k then by rw [e]; exact hmiss.out else HA.out j (by omega), BX1.out, HB1.out⟩
          case measure => simp [intOf]; omega
      · have hmiss : Hid (M.inSeg (M.sgAt gs k) p = false) := by show _ = _; rw [← HS.out]; exact decide_eq_false (show ¬ (sp * 16 ≤ p ∧ p < (sp + sn) * 16) by omega)
        have d1' : decide (sp * 16 ≤ p) = false := decide_eq_false d1
        go_wp2
        go_roundw
        case rel => exact ⟨k + 1, by omega, by go_num, fun j hj => if e : j = k then by rw [e]; exact hmiss.out else HA.out j (by omega), BX1.out, HB1.out⟩
        case measure => simp [intOf]; omega
    · obtain rfl : k = gs.length := by omega
      clear hb
      have HR := hideC (own_none gs p HA.out)
      go_wp2
      go_ret
      exact ⟨ret_i64 HR.out.symm, HB.out⟩

theorem toList_ne {s t : ByteArray} (h : ¬ s = t) : ¬ s.toList = t.toList := fun e => h (by
  rw [Lib.toList_data, Lib.toList_data] at e
  cases s; cases t
  congr 1
  exact Array.toList_inj.1 e)
/-- the name at k is none of the first n -/
theorem notin_step (l : List ByteArray) (k n : Nat) (hn : n < l.length) (h : (l.take n).contains (M.strAt l k) = false) (hne : ¬ M.strAt l k = M.strAt l n) : (l.take (n + 1)).contains (M.strAt l k) = false := by
  rw [contains_step l n hn, h, Bool.false_or]
  simpa using hne
theorem once_no (l : List ByteArray) (k n : Nat) (hk : k < l.length) (hn : n < k) (he : M.strAt l k = M.strAt l n) : M.onceB l = false := by
  refine once_mono l (k + 1) l.length ?_ hk
  have : (l.take k).contains (M.strAt l k) = true := by
    rw [he]
    have h1 : M.strAt l n ∈ l.take k := by
      have hlt : n < (l.take k).length := by simp; omega
      have : (l.take k)[n] = M.strAt l n := by
        unfold M.strAt
        rw [List.getElem_take, List.getD_eq_getElem?_getD, List.getElem?_eq_getElem (by omega)]
        rfl
      rw [← this]
      exact List.getElem_mem hlt
    simpa using h1
  simp only [M.onceTo]
  rw [this]
  simp

set_option maxHeartbeats 1500000 in
theorem alike_any (l : List ByteArray) (ao : Option Addr) (cap : Nat) (w : World) (h : M.HasBy M.LieS w ao l) (hn : M.Short l.length) (hf : ∀ k, k < l.length → M.Short (M.strAt l k).size) :
    Calls Try.prog 25 #[.slice ao l.length cap] w fun e w' => e = .returned (.bool (!M.onceB l)) ∧ Below w.heap.size w w' := by
  unfold M.Short at hn
  have H := hideC h
  have F := hideC hf
  clear h hf
  go_enter Try.func25, Try.ntmps25
  go_wp2
  go_loopw [3] (fun i wr => ∃ k : Nat, k ≤ l.length ∧ i = .int .i64 k ∧ M.onceTo l k = true ∧ Below w.heap.size w wr) (fun i _ => l.length - (intOf i).toNat)
  case atStart => exact ⟨0, by omega, rfl, rfl, Below.refl _ _⟩
  case round =>
    obtain ⟨k, hk, rfl, honce, hb⟩ := hrel
    have HO := hideC honce
    have HB := hideC hb
    clear honce hb
    by_cases hlt : k < l.length
    · obtain ⟨b, off, hao, hbl, hl⟩ := H.out (by omega)
      subst hao
      have HL := hideC hl
      clear hl
      have hli : (k : Int) < (l.length : Int) := by omega
      go_wp2
      go_loopw [4] (fun i wq => ∃ n : Nat, n ≤ k ∧ i = .int .i64 n ∧ (l.take n).contains (M.strAt l k) = false ∧ Below w.heap.size w wq) (fun i _ => k - (intOf i).toNat)
      case atStart => exact ⟨0, by omega, rfl, rfl, HB.out⟩
      case round =>
        obtain ⟨n, hn', rfl, hno, hb⟩ := hrel
        have HN := hideC hno
        have HB2 := hideC hb
        clear hno
        by_cases hnk : n < k
        · have hnk' : (n : Int) < (k : Int) := by omega
          have hnl : (n : Int) < (l.length : Int) := by omega
          have c0 := M.lieS hb hbl HL.out k hlt
          have c1 := M.lieS hb hbl HL.out n (by omega)
          have HST := hideC (notin_step l k n (by omega) HN.out)
          have HNO := hideC (once_no l k n hlt hnk)
          obtain ⟨s, hs⟩ : ∃ s, s = M.strAt l k := ⟨_, rfl⟩
          obtain ⟨t, ht⟩ : ∃ t, t = M.strAt l n := ⟨_, rfl⟩
          rw [← hs] at c0
          rw [← ht] at c1
          rw [← hs, ← ht] at HST HNO
          have HS := hideC hs
          have hkin := Q.kin_some wr
          have hbq : b < wr.heap.size := Nat.lt_of_lt_of_le hbl HB2.out.size
          have k0 : ∀ x : Q.Kin wr.heap.size wr, x.world.cell? ⟨b, off + k, none⟩ = some (.string s) := fun x => by rw [Q.cell_kin x _ _ hbq, c0]
          have k1 : ∀ x : Q.Kin wr.heap.size wr, x.world.cell? ⟨b, off + n, none⟩ = some (.string t) := fun x => by rw [Q.cell_kin x _ _ hbq, c1]
          clear hs ht hb c0 c1
          by_cases hst : s = t
          · have HR := hideC (HNO.out hst)
            clear HNO HST
            subst hst
            go_wp2
            refine Q.region_kin (by kernel_rfl) (by kernel_rfl) ?_
            repeat (first | go_big_quiet_step (fail) | quiet_step (fail))
            refine wpQuiet_nil ?_
            intro _ hw'
            obtain ⟨x, hw''⟩ := hw'
            subst hw''
            go_wp2
            go_ret
            exact ⟨ret_bool (by rw [HR.out]; rfl), HB2.out.trans (x.keeps.mono HB2.out.size)⟩
          · have HR := hideC (HST.out hst)
            clear HNO HST
            have hst1 := toList_ne hst
            have hst' : (s.toList == t.toList) = false := by simpa using hst1
            go_wp2
            refine Q.region_kin (by kernel_rfl) (by kernel_rfl) ?_
            repeat (first | go_big_quiet_step (fail) | quiet_step (fail))
            refine wpQuiet_nil ?_
            intro _ hw'
            obtain ⟨x, hw''⟩ := hw'
            subst hw''
            go_wp2
            go_roundw
            case rel => exact ⟨n + 1, by omega, by go_num, by rw [← HS.out]; exact HR.out, HB2.out.trans (x.keeps.mono HB2.out.size)⟩
            case measure => simp [intOf]; omega
        · obtain rfl : n = k := by omega
          have HNX : Hid (M.onceTo l (n + 1) = true) := by show (M.onceTo l n && !(l.take n).contains (M.strAt l n)) = true; rw [HO.out, HN.out]; rfl
          clear hb
          go_wp2
          go_roundw
          case rel => exact ⟨n + 1, by omega, by go_num, HNX.out, HB2.out⟩
          case measure => simp [intOf]; omega
    · obtain rfl : k = l.length := by omega
      go_wp2
      go_ret
      exact ⟨ret_bool (by unfold M.onceB; rw [HO.out]; rfl), HB.out⟩
end Go.Proofs.Yteieplodndfbhaa.W
namespace Go.Proofs.Yteieplodndfbhaa.W
open Go.RowKit
set_option linter.unusedVariables false
set_option maxRecDepth 100000

theorem calls_kin_at {P : Program} {f : FuncId} {args : Array Value} {v : Value} {w : World} (h : ∀ x : Q.Kin w.heap.size w, Calls P f args x.world fun e w' => e = .returned v ∧ Below x.world.heap.size x.world w') (x : Q.Kin w.heap.size w) :
    Calls P f args x.world fun e w'' => e = .returned v ∧ ∃ y : Q.Kin w.heap.size w, w'' = y.world :=
  (h x).mono fun e w'' ⟨he, hb⟩ => ⟨he, ⟨w'', x.keeps.trans (hb.mono x.keeps.size)⟩, rfl⟩

set_option maxHeartbeats 3000000 in
theorem placesFine_any (i : M.Im) (a : M.At) (w : World) (h : M.HasIm w a i) (hf : M.Fit i) (hr : i.segs.all M.rangeB = true) : Calls Try.prog 59 #[.agg (M.cellsI a i)] w fun e w' => e = .returned (.bool (M.placesB i)) ∧ Below w.heap.size w w' := by
  have HI := hideC h
  have HF := hideC hf
  obtain ⟨an, cn, ag, cg, ay, cy, ar, cr⟩ := a
  obtain ⟨nm, ns, gs, ys, rs, en⟩ := i
  obtain ⟨h1, h2, h3, h4⟩ := h
  obtain ⟨f1, f2, f3, f4, f5, f6, f7, f8, f9, f10⟩ := hf
  simp only at h1 h2 h3 h4 f1 f2 f3 f4 f5 f6 f7 f8 f9 f10
  have F4 := hideC f4
  unfold M.Short at f2 f4 f6 f8
  simp only [M.cellsI]
  have H1 := hideC h1
  have H2 := hideC h2
  have H3 := hideC h3
  have H4 := hideC h4
  have F3 := hideC f3
  have F7 := hideC f7
  have F9 := hideC f9
  have F10 := hideC f10
  have HG := hideC hr
  clear h1 h2 h3 h4 f3 f5 f7 f9 f10 hr
  have BOX := hideC (B.new w #[.string nm, .slice an ns.length cn, .slice ag gs.length cg, .slice ay ys.length cy, .slice ar rs.length cr, .int .i64 en] 27)
  have HB0 := hideC ((Below.refl w.heap.size w).alloc (Nat.le_refl _) (.cells #[.string nm, .slice an ns.length cn, .slice ag gs.length cg, .slice ay ys.length cy, .slice ar rs.length cr, .int .i64 en] 27))
  obtain ⟨X, hX⟩ : ∃ X : Array Value, X = #[.string nm, .slice an ns.length cn, .slice ag gs.length cg, .slice ay ys.length cy, .slice ar rs.length cr, .int .i64 en] := ⟨_, rfl⟩
  have HX := hideC hX
  rw [← hX] at BOX HB0
  clear hX
  have HIR : Hid (∀ k, k < rs.length → M.relAt ⟨nm, ns, gs, ys, rs, en⟩ k = ((k == 0 || decide ((M.rlAt rs (k - 1)).pos + 8 ≤ (M.rlAt rs k).pos)) && M.wholeB gs (M.rlAt rs k).pos)) := fun k hk => rfl
  have HPB : Hid (M.placesB ⟨nm, ns, gs, ys, rs, en⟩ = (ys.all (fun y => M.placedB gs y.pos) && (M.relsTo ⟨nm, ns, gs, ys, rs, en⟩ rs.length && M.entryB ⟨nm, ns, gs, ys, rs, en⟩))) := rfl
  have HNO : Hid (∀ k, k < rs.length → M.relAt ⟨nm, ns, gs, ys, rs, en⟩ k = false → M.relsTo ⟨nm, ns, gs, ys, rs, en⟩ rs.length = false) := fun k hk h => rels_no ⟨nm, ns, gs, ys, rs, en⟩ k hk h
  have HEN : Hid (M.entryB ⟨nm, ns, gs, ys, rs, en⟩ = (M.placedB gs en && ((segOr gs en).ex && decide (en % 8 = 0)))) := by
    show _ = _
    unfold M.entryB M.placedB segOr
    simp only
    cases M.segIn gs en <;> rfl
  have HOW : Hid (∀ (W : World) (p : Int), Below w.heap.size w W → M.I64 p → Calls Try.prog 84 #[.agg X, .int .i64 p] W fun e w' => e = .returned (.int .i64 (ownN gs p)) ∧ Below W.heap.size W w') := fun W p hb hp => by
    rw [HX.out]
    exact owner_any ⟨nm, ns, gs, ys, rs, en⟩ ⟨an, cn, ag, cg, ay, cy, ar, cr⟩ W p hp (HI.out.below hb) HF.out HG.out
  rw [HPB.out]
  clear HPB
  obtain ⟨I, hI⟩ : ∃ I : M.Im, I = ⟨nm, ns, gs, ys, rs, en⟩ := ⟨_, rfl⟩
  rw [← hI] at HIR HNO HEN
  rw [← hI]
  clear hI HI HF
  go_enter Try.func59, Try.ntmps59
  go_wp2
  rw [← HX.out]
  go_loopw [3] (fun i wr => ∃ k : Nat, k ≤ ys.length ∧ i = .int .i64 k ∧ (∀ j, j < k → M.placedB gs (M.syAt ys j).pos = true) ∧ wr.heap[w.heap.size]? = some (.cells X 27 (0, 0)) ∧ Below w.heap.size w wr) (fun i _ => ys.length - (intOf i).toNat)
  case atStart => exact ⟨0, by omega, rfl, fun j h => by omega, BOX.out, HB0.out⟩
  case round =>
    obtain ⟨k, hk, rfl, hall, hbox, hb⟩ := hrel
    have HA := hideC hall
    have BX := hideC hbox
    have HB := hideC hb
    have bx3 := B.cell hbox 3 (by rw [HX.out]; rfl)
    clear hall hbox
    by_cases hlt : k < ys.length
    · obtain ⟨b, off, hao, hbl, hl⟩ := H3.out (by omega)
      have hli : (k : Int) < (ys.length : Int) := by omega
      obtain ⟨c0, c1⟩ := M.lieY hb hbl hl k hlt
      have fs := (F7.out k hlt).2
      obtain ⟨y, hx⟩ : ∃ y, y = M.syAt ys k := ⟨_, rfl⟩
      rw [← hx] at c0 c1 fs
      have HXX := hideC hx
      clear hx hb hl
      obtain ⟨x, xp⟩ := y
      simp only at c0 c1 fs
      subst hao
      have hkin := Q.kin_some wr
      have hbr : b < wr.heap.size := Nat.lt_of_lt_of_le hbl HB.out.size
      have hwr : w.heap.size < wr.heap.size := B.isLt BX.out
      have k0 : ∀ x : Q.Kin wr.heap.size wr, x.world.cell? ⟨w.heap.size, 0, none⟩ = some (.string nm) := fun x => by rw [Q.cell_kin x _ _ hwr]; exact B.cell BX.out 0 (by rw [HX.out]; rfl)
      have k1 : ∀ x : Q.Kin wr.heap.size wr, x.world.cell? ⟨w.heap.size, 1, none⟩ = some (.slice an ns.length cn) := fun x => by rw [Q.cell_kin x _ _ hwr]; exact B.cell BX.out 1 (by rw [HX.out]; rfl)
      have k2 : ∀ x : Q.Kin wr.heap.size wr, x.world.cell? ⟨w.heap.size, 2, none⟩ = some (.slice ag gs.length cg) := fun x => by rw [Q.cell_kin x _ _ hwr]; exact B.cell BX.out 2 (by rw [HX.out]; rfl)
      have k3 : ∀ x : Q.Kin wr.heap.size wr, x.world.cell? ⟨w.heap.size, 3, none⟩ = some (.slice (some ⟨b, off, none⟩) ys.length cy) := fun x => by rw [Q.cell_kin x _ _ hwr]; exact B.cell BX.out 3 (by rw [HX.out]; rfl)
      have k4 : ∀ x : Q.Kin wr.heap.size wr, x.world.cell? ⟨w.heap.size, 4, none⟩ = some (.slice ar rs.length cr) := fun x => by rw [Q.cell_kin x _ _ hwr]; exact B.cell BX.out 4 (by rw [HX.out]; rfl)
      have k5 : ∀ x : Q.Kin wr.heap.size wr, x.world.cell? ⟨w.heap.size, 5, none⟩ = some (.int .i64 en) := fun x => by rw [Q.cell_kin x _ _ hwr]; exact B.cell BX.out 5 (by rw [HX.out]; rfl)
      have k9 : ∀ x : Q.Kin wr.heap.size wr, x.world.cell? ⟨b, off + k * 2 + 1, none⟩ = some (.int .i64 xp) := fun x => by rw [Q.cell_kin x _ _ hbr, c1]
      have HCK : Hid (∀ x : Q.Kin wr.heap.size wr, Calls Try.prog 84 #[.agg X, .int .i64 xp] x.world fun e w' => e = .returned (.int .i64 (ownN gs xp)) ∧ Below x.world.heap.size x.world w') := fun x => HOW.out x.world xp (HB.out.trans (x.keeps.mono HB.out.size)) fs
      rw [HX.out] at HCK
      clear c0 c1
      rcases own_cases gs xp with ⟨hc, n, hn, hoN, _⟩ | ⟨hc, hoN⟩
      · rw [hoN] at HCK
        have hneg : ¬ (n : Int) < 0 := by omega
        clear hoN
        go_wp2
        refine Q.region_kin (by kernel_rfl) (by kernel_rfl) ?_
        repeat (first | go_big_quiet_step ((go_at_call 84; exact calls_kin_at HCK.out _)) | quiet_step ((go_at_call 84; exact calls_kin_at HCK.out _)))
        refine wpQuiet_nil ?_
        intro _ hw'
        obtain ⟨x, hw''⟩ := hw'
        subst hw''
        go_wp2
        go_roundw
        case rel => exact ⟨k + 1, by omega, by go_num, fun j h => if e : j = k then by rw [e, ← HXX.out]; exact hc else HA.out j (by omega), B.below BX.out x.keeps (B.isLt BX.out), HB.out.trans (x.keeps.mono HB.out.size)⟩
        case measure => simp [intOf]; omega
      · rw [hoN] at HCK
        clear hoN
        have HR := hideC (M.all_false (fun y => M.placedB gs y.pos) M.sy0 ys k hlt (by show M.placedB gs (M.syAt ys k).pos = false; rw [← HXX.out]; exact hc))
        go_wp2
        refine Q.region_kin (by kernel_rfl) (by kernel_rfl) ?_
        repeat (first | go_big_quiet_step ((go_at_call 84; exact calls_kin_at HCK.out _)) | quiet_step ((go_at_call 84; exact calls_kin_at HCK.out _)))
        refine wpQuiet_nil ?_
        intro _ hw'
        obtain ⟨x, hw''⟩ := hw'
        subst hw''
        go_wp2
        go_ret
        exact ⟨ret_bool (by rw [HR.out]; rfl), HB.out.trans (x.keeps.mono HB.out.size)⟩
    · obtain rfl : k = ys.length := by omega
      clear hb
      have HRY := hideC (M.all_true (fun y => M.placedB gs y.pos) M.sy0 ys (fun j hj => HA.out j hj))
      have BX0 := hideC BX.out
      have HB00 := hideC HB.out
      clear HA BX HB
      go_wp2
      go_loopw [4] (fun i wr => ∃ k : Nat, k ≤ rs.length ∧ i = .int .i64 k ∧ M.relsTo I k = true ∧ wr.heap[w.heap.size]? = some (.cells X 27 (0, 0)) ∧ Below w.heap.size w wr) (fun i _ => rs.length - (intOf i).toNat)
      case atStart => exact ⟨0, by omega, rfl, rfl, BX0.out, HB00.out⟩
      case round =>
        obtain ⟨k, hk, rfl, hall, hbox, hb⟩ := hrel
        have HA := hideC hall
        have BX := hideC hbox
        have HB := hideC hb
        have bx4 := B.cell hbox 4 (by rw [HX.out]; rfl)
        clear hall hbox BX0 HB00
        by_cases hlt : k < rs.length
        · obtain ⟨b, off, hao, hbl, hl⟩ := H4.out (by omega)
          have hli : (k : Int) < (rs.length : Int) := by omega
          obtain ⟨c0, c1, c2⟩ := M.lieR hb hbl hl k hlt
          have fs := (F9.out k hlt).1
          have HK := hideC (HIR.out k hlt)
          have HPV : Hid (1 ≤ k → wr.cell? ⟨b, off + (k - 1) * 3, none⟩ = some (.int .i64 (M.rlAt rs (k - 1)).pos)) := fun h => (M.lieR hb hbl hl (k - 1) (by omega)).1
          obtain ⟨y, hx⟩ : ∃ y, y = M.rlAt rs k := ⟨_, rfl⟩
          rw [← hx] at c0 c1 c2 fs HK
          obtain ⟨q, hq⟩ : ∃ q, q = (M.rlAt rs (k - 1)).pos := ⟨_, rfl⟩
          rw [← hq] at HPV HK
          clear hx hb hl hq
          obtain ⟨xp, xn, xa⟩ := y
          simp only at c0 c1 c2 fs HK
          clear c1 c2
          unfold M.I64 at fs
          subst hao
          by_cases hin : 0 ≤ xp ∧ xp ≤ 4080
          · have d16 : inB xp 0 4080 = true := inB_yes hin
            obtain ⟨hin1, hin2⟩ := hin
            by_cases hk0 : k = 0
            · subst hk0
              simp only [Nat.zero_mul, Nat.add_zero] at c0
              have HOK : Hid (M.relAt I 0 = M.wholeB gs xp) := HK.out.trans (by simp)
              clear HPV
              go_wp2_with (go_at_call 37; refine (inB_any _ _ _ _).mono ?_; rintro e w' ⟨rfl, rfl⟩; rw [d16])
              go_wp2
              go_loopw [6] (fun i wq => ∃ n : Nat, n ≤ 8 ∧ i = .int .i64 n ∧ (∀ m : Nat, m < n → M.placedB gs (xp + m) = true) ∧ wq.heap[w.heap.size]? = some (.cells X 27 (0, 0)) ∧ Below w.heap.size w wq) (fun i _ => 8 - (intOf i).toNat)
              case atStart => exact ⟨0, by omega, rfl, fun j h => by omega, BX.out, HB.out⟩
              case round =>
                clear bx4
                obtain ⟨n, hn, rfl, hall, hbox, hb⟩ := hrel
                have HA2 := hideC hall
                have BX2 := hideC hbox
                have HB2 := hideC hb
                have bx0 := B.cell hbox 0 (by rw [HX.out]; rfl)
                have bx1 := B.cell hbox 1 (by rw [HX.out]; rfl)
                have bx2 := B.cell hbox 2 (by rw [HX.out]; rfl)
                have bx3 := B.cell hbox 3 (by rw [HX.out]; rfl)
                have bx4 := B.cell hbox 4 (by rw [HX.out]; rfl)
                have bx5 := B.cell hbox 5 (by rw [HX.out]; rfl)
                clear hall hbox hb
                by_cases hn8 : n < 8
                · have hn8' : (n : Int) < 8 := by omega
                  have HOC := hideC (HOW.out wr (xp + n) HB2.out (by unfold M.I64; omega))
                  rw [HX.out] at HOC
                  rcases own_cases gs (xp + n) with ⟨hc, m, hm, hoN, _⟩ | ⟨hc, hoN⟩
                  · rw [hoN] at HOC
                    have hneg : ¬ (m : Int) < 0 := by omega
                    clear hoN
                    go_wp2_with (go_at_call 84; refine HOC.out.mono ?_; rintro e w3 ⟨rfl, hb3⟩; have HB3 := hideC (HB2.out.trans (hb3.mono HB2.out.size)); have BX3 := hideC (B.below BX2.out hb3 (B.isLt BX2.out)); clear hb3)
                    go_roundw
                    case rel => exact ⟨n + 1, by omega, by go_num, fun j h => if e : j = n then by rw [e]; exact hc else HA2.out j (by omega), BX3.out, HB3.out⟩
                    case measure => simp [intOf]; omega
                  · rw [hoN] at HOC
                    clear hoN
                    have HR := hideC (HNO.out 0 hlt (HOK.out.trans (whole_no n hn8 hc)))
                    go_wp2_with (go_at_call 84; refine HOC.out.mono ?_; rintro e w3 ⟨rfl, hb3⟩; have HB3 := hideC (HB2.out.trans (hb3.mono HB2.out.size)); have BX3 := hideC (B.below BX2.out hb3 (B.isLt BX2.out)); clear hb3)
                    go_ret
                    exact ⟨ret_bool (by rw [HR.out]; simp), HB3.out⟩
                · obtain rfl : n = 8 := by omega
                  have HGO : Hid (M.relsTo I (0 + 1) = true) := by show (M.relsTo I 0 && M.relAt I 0) = true; rw [HA.out, HOK.out, whole_yes (fun m hm => HA2.out m hm)]; rfl
                  go_wp2
                  go_roundw
                  case rel => exact ⟨0 + 1, by omega, by go_num, HGO.out, BX2.out, HB2.out⟩
                  case measure => simp [intOf]; omega
            · have hk1 : 1 ≤ k := by omega
              have p0 := HPV.out hk1
              have hki : (0 : Int) < (k : Int) := by omega
              have hki2 : 0 < k := by omega
              have hki3 : (1 : Int) ≤ (k : Int) := by omega
              by_cases d : xp - 8 < q
              · have HOK : Hid (M.relAt I k = false) := by show _ = _; rw [HK.out, decide_eq_false (by omega), show (k == 0) = false from by simp; omega]; rfl
                go_wp2_with (go_at_call 37; refine (inB_any _ _ _ _).mono ?_; rintro e w' ⟨rfl, rfl⟩; rw [d16])
                go_ret
                exact ⟨ret_bool (by rw [HNO.out k hlt HOK.out]; simp), HB.out⟩
              · have HOK : Hid (M.relAt I k = M.wholeB gs xp) := by show _ = _; rw [HK.out, decide_eq_true (by omega)]; simp
                go_wp2_with (go_at_call 37; refine (inB_any _ _ _ _).mono ?_; rintro e w' ⟨rfl, rfl⟩; rw [d16])
                go_wp2
                go_loopw [6] (fun i wq => ∃ n : Nat, n ≤ 8 ∧ i = .int .i64 n ∧ (∀ m : Nat, m < n → M.placedB gs (xp + m) = true) ∧ wq.heap[w.heap.size]? = some (.cells X 27 (0, 0)) ∧ Below w.heap.size w wq) (fun i _ => 8 - (intOf i).toNat)
                case atStart => exact ⟨0, by omega, rfl, fun j h => by omega, BX.out, HB.out⟩
                case round =>
                  clear bx4
                  obtain ⟨n, hn, rfl, hall, hbox, hb⟩ := hrel
                  have HA2 := hideC hall
                  have BX2 := hideC hbox
                  have HB2 := hideC hb
                  have bx0 := B.cell hbox 0 (by rw [HX.out]; rfl)
                  have bx1 := B.cell hbox 1 (by rw [HX.out]; rfl)
                  have bx2 := B.cell hbox 2 (by rw [HX.out]; rfl)
                  have bx3 := B.cell hbox 3 (by rw [HX.out]; rfl)
                  have bx4 := B.cell hbox 4 (by rw [HX.out]; rfl)
                  have bx5 := B.cell hbox 5 (by rw [HX.out]; rfl)
                  clear hall hbox hb
                  by_cases hn8 : n < 8
                  · have hn8' : (n : Int) < 8 := by omega
                    have HOC := hideC (HOW.out wr (xp + n) HB2.out (by unfold M.I64; omega))
                    rw [HX.out] at HOC
                    rcases own_cases gs (xp + n) with ⟨hc, m, hm, hoN, _⟩ | ⟨hc, hoN⟩
                    · rw [hoN] at HOC
                      have hneg : ¬ (m : Int) < 0 := by omega
                      clear hoN
                      go_wp2_with (go_at_call 84; refine HOC.out.mono ?_; rintro e w3 ⟨rfl, hb3⟩; have HB3 := hideC (HB2.out.trans (hb3.mono HB2.out.size)); have BX3 := hideC (B.below BX2.out hb3 (B.isLt BX2.out)); clear hb3)
                      go_roundw
                      case rel => exact ⟨n + 1, by omega, by go_num, fun j h => if e : j = n then by rw [e]; exact hc else HA2.out j (by omega), BX3.out, HB3.out⟩
                      case measure => simp [intOf]; omega
                    · rw [hoN] at HOC
                      clear hoN
                      have HR := hideC (HNO.out k hlt (HOK.out.trans (whole_no n hn8 hc)))
                      go_wp2_with (go_at_call 84; refine HOC.out.mono ?_; rintro e w3 ⟨rfl, hb3⟩; have HB3 := hideC (HB2.out.trans (hb3.mono HB2.out.size)); have BX3 := hideC (B.below BX2.out hb3 (B.isLt BX2.out)); clear hb3)
                      go_ret
                      exact ⟨ret_bool (by rw [HR.out]; simp), HB3.out⟩
                  · obtain rfl : n = 8 := by omega
                    have HGO : Hid (M.relsTo I (k + 1) = true) := by show (M.relsTo I k && M.relAt I k) = true; rw [HA.out, HOK.out, whole_yes (fun m hm => HA2.out m hm)]; rfl
                    go_wp2
                    go_roundw
                    case rel => exact ⟨k + 1, by omega, by go_num, HGO.out, BX2.out, HB2.out⟩
                    case measure => simp [intOf]; omega
          · have d16 : inB xp 0 4080 = false := inB_no hin
            have HOK : Hid (M.relAt I k = false) := by
              show _ = _
              rw [HK.out, whole_no (l := gs) (a := xp) 0 (by omega) ?_, Bool.and_false]
              cases e : M.placedB gs (xp + (0 : Nat))
              · rfl
              · have := placed_bounds HG.out _ e
                omega
            go_wp2_with (go_at_call 37; refine (inB_any _ _ _ _).mono ?_; rintro e w' ⟨rfl, rfl⟩; rw [d16])
            go_ret
            exact ⟨ret_bool (by rw [HNO.out k hlt HOK.out]; simp), HB.out⟩
        · obtain rfl : k = rs.length := by omega
          clear hb
          have bx0 := B.cell BX.out 0 (by rw [HX.out]; rfl)
          have bx1 := B.cell BX.out 1 (by rw [HX.out]; rfl)
          have bx2 := B.cell BX.out 2 (by rw [HX.out]; rfl)
          have bx3 := B.cell BX.out 3 (by rw [HX.out]; rfl)
          have bx5 := B.cell BX.out 5 (by rw [HX.out]; rfl)
          have f10' := F10.out
          unfold M.I64 at f10'
          have HOC := hideC (HOW.out wr en HB.out F10.out)
          rw [HX.out] at HOC
          rcases own_cases gs en with ⟨hc, n, hn, hoN, hsg⟩ | ⟨hc, hoN⟩
          · rw [hoN] at HOC
            have hpb := (placed_bounds HG.out en hc).1
            obtain ⟨b, off, hao, hbl, hl⟩ := H2.out (by omega)
            have HLG := hideC (M.lieG HB.out hbl hl)
            have HEE : Hid (M.entryB I = ((M.sgAt gs n).ex && decide (en % 8 = 0))) := by show _ = _; rw [HEN.out, hc, hsg]; rfl
            clear hl hoN hsg
            subst hao
            have hni : (n : Int) < (gs.length : Int) := by omega
            by_cases d8 : en % 8 = 0
            · rw [decide_eq_true d8, Bool.and_true] at HEE
              go_wp2_with (go_at_call 84; refine HOC.out.mono ?_; rintro e w2 ⟨rfl, hb2⟩; have HB2 := hideC (HB.out.trans (hb2.mono HB.out.size)); have BX2 := hideC (B.below BX.out hb2 (B.isLt BX.out)); have q2 := B.cell BX2.out 2 (by rw [HX.out]; rfl); have q5 := B.cell BX2.out 5 (by rw [HX.out]; rfl); obtain ⟨g0, g1, g2, g3, g4⟩ := M.lieG hb2 (Nat.lt_of_lt_of_le hbl HB.out.size) HLG.out n hn; clear g0 g1 g2 g3 hb2)
              go_ret
              exact ⟨ret_bool (by rw [HRY.out, HA.out, HEE.out]; simp), HB2.out⟩
            · rw [decide_eq_false d8, Bool.and_false] at HEE
              have d8' : (en % 8 == 0) = false := by simpa using d8
              go_wp2_with (go_at_call 84; refine HOC.out.mono ?_; rintro e w2 ⟨rfl, hb2⟩; have HB2 := hideC (HB.out.trans (hb2.mono HB.out.size)); have BX2 := hideC (B.below BX.out hb2 (B.isLt BX.out)); have q2 := B.cell BX2.out 2 (by rw [HX.out]; rfl); have q5 := B.cell BX2.out 5 (by rw [HX.out]; rfl); obtain ⟨g0, g1, g2, g3, g4⟩ := M.lieG hb2 (Nat.lt_of_lt_of_le hbl HB.out.size) HLG.out n hn; clear g0 g1 g2 g3 hb2)
              go_ret
              exact ⟨ret_bool (by rw [HRY.out, HA.out, HEE.out]; simp), HB2.out⟩
          · rw [hoN] at HOC
            have HEE : Hid (M.entryB I = false) := by show _ = _; rw [HEN.out, hc]; rfl
            clear hoN
            go_wp2_with (go_at_call 84; refine HOC.out.mono ?_; rintro e w2 ⟨rfl, hb2⟩; have HB2 := hideC (HB.out.trans (hb2.mono HB.out.size)); have BX2 := hideC (B.below BX.out hb2 (B.isLt BX.out)); have q2 := B.cell BX2.out 2 (by rw [HX.out]; rfl); have q5 := B.cell BX2.out 5 (by rw [HX.out]; rfl); clear hb2)
            all_goals
              go_ret
              exact ⟨ret_bool (by rw [HRY.out, HA.out, HEE.out]; simp), HB2.out⟩
end Go.Proofs.Yteieplodndfbhaa.W
