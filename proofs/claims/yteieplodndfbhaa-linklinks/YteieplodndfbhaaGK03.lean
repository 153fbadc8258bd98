import Derived.Test.YteieplodndfbhaaGK02
import Derived.WalkKit
import Derived.Below
import Derived.Deep.QuietTactic
import Derived.BigQuiet
namespace Go.Proofs.Yteieplodndfbhaa.W
open Go.RowKit
set_option linter.unusedVariables false
set_option maxRecDepth 100000

set_option maxHeartbeats 4000000 in
theorem rightNames_any (i : M.Im) (a : M.At) (w : World) (h : M.HasIm w a i) (hf : M.Fit i) : Calls Try.prog 68 #[.agg (M.cellsI a i)] w fun e w' => e = .returned (.bool (M.namesB i)) ∧ Below w.heap.size w w' := by
  obtain ⟨an, cn, ag, cg, ay, cy, ar, cr⟩ := a
  obtain ⟨nm, ns, gs, ys, rs, en⟩ := i
  obtain ⟨h1, h2, h3, h4⟩ := h
  obtain ⟨f1, f2, f3, f4, f5, f6, f7, f8, f9, f10⟩ := hf
  simp only at h1 h2 h3 h4 f1 f2 f3 f4 f5 f6 f7 f8 f9 f10
  unfold M.Short at f2 f6 f8
  simp only [M.cellsI, M.namesB]
  have H1 := hideC h1
  have H3 := hideC h3
  have H4 := hideC h4
  have F3 := hideC f3
  have F7 := hideC f7
  have F9 := hideC f9
  clear h1 h2 h3 h4 f3 f4 f5 f7 f9 f10
  have BOX := hideC (B.new w #[.string nm, .slice an ns.length cn, .slice ag gs.length cg, .slice ay ys.length cy, .slice ar rs.length cr, .int .i64 en] 27)
  have HB0 := hideC ((Below.refl w.heap.size w).alloc (Nat.le_refl _) (.cells #[.string nm, .slice an ns.length cn, .slice ag gs.length cg, .slice ay ys.length cy, .slice ar rs.length cr, .int .i64 en] 27))
  obtain ⟨X, hX⟩ : ∃ X : Array Value, X = #[.string nm, .slice an ns.length cn, .slice ag gs.length cg, .slice ay ys.length cy, .slice ar rs.length cr, .int .i64 en] := ⟨_, rfl⟩
  have HX := hideC hX
  rw [← hX] at BOX HB0
  clear hX
  cases e1 : M.nameB nm
  · go_enter Try.func68, Try.ntmps68
    go_wp2_with (go_at_call 86; refine (isName_any _ _ f1).mono ?_; rintro e w' ⟨rfl, rfl⟩; rw [e1])
    go_ret
    rw [← HX.out]
    exact ⟨rfl, HB0.out⟩
  · go_enter Try.func68, Try.ntmps68
    go_wp2_with (go_at_call 86; refine (isName_any _ _ f1).mono ?_; rintro e w' ⟨rfl, rfl⟩; rw [e1])
    rw [← HX.out]
    go_loopw [16] (fun i wr => ∃ k : Nat, k ≤ ns.length ∧ i = .int .i64 k ∧ (∀ j, j < k → M.nameB (M.strAt ns j) = true) ∧ wr.heap[w.heap.size]? = some (.cells X 27 (0, 0)) ∧ Below w.heap.size w wr) (fun i _ => ns.length - (intOf i).toNat)
    case atStart => exact ⟨0, by omega, rfl, fun j h => by omega, BOX.out, HB0.out⟩
    case round =>
      obtain ⟨k0, hk, rfl, hall, hbox, hb⟩ := hrel
      have HA0 := hideC hall
      have BOX0 := hideC hbox
      have HB1 := hideC hb
      have bx0 := B.cell hbox 0 (by rw [HX.out]; rfl)
      have bx1 := B.cell hbox 1 (by rw [HX.out]; rfl)
      have bx2 := B.cell hbox 2 (by rw [HX.out]; rfl)
      have bx3 := B.cell hbox 3 (by rw [HX.out]; rfl)
      have bx4 := B.cell hbox 4 (by rw [HX.out]; rfl)
      have bx5 := B.cell hbox 5 (by rw [HX.out]; rfl)
      clear hall hbox
      by_cases hlt : k0 < ns.length
      · obtain ⟨b, off, hao, hbl, hl⟩ := H1.out (by omega)
        have hli : (k0 : Int) < (ns.length : Int) := by omega
        have c0 := M.lieS hb hbl hl k0 hlt
        have fs := F3.out k0 hlt
        obtain ⟨x, hx⟩ : ∃ x, x = M.strAt ns k0 := ⟨_, rfl⟩
        rw [← hx] at c0 fs
        have HXX := hideC hx
        clear hx hb hl
        subst hao
        cases hc : M.nameB x
        · have HR : Hid ((true && (ns.all M.nameB && (ys.all (fun y => M.nameB y.name) && rs.all M.relNameB))) = false) := by
            show _ = _
            rw [M.all_false M.nameB M.nil ns k0 hlt (by show M.nameB (M.strAt ns k0) = false; rw [← HXX.out]; exact hc)]
            simp
          go_wp2_with (go_at_call 86; refine (isName_any _ _ fs).mono ?_; rintro e w' ⟨rfl, rfl⟩; rw [hc])
          go_ret
          exact ⟨ret_bool HR.out.symm, HB1.out⟩
        · go_wp2_with (go_at_call 86; refine (isName_any _ _ fs).mono ?_; rintro e w' ⟨rfl, rfl⟩; rw [hc])
          go_roundw
          case rel => exact ⟨k0 + 1, by omega, by go_num, fun j h => if e : j = k0 then by rw [e, ← HXX.out]; exact hc else HA0.out j (by omega), BOX0.out, HB1.out⟩
          case measure => simp [intOf]; omega
      · obtain rfl : k0 = ns.length := by omega
        clear hb
        go_wp2_with (go_at_call 86; fail)
        go_loopw [27] (fun i wr => ∃ k : Nat, k ≤ ys.length ∧ i = .int .i64 k ∧ (∀ j, j < k → M.nameB (M.syAt ys j).name = true) ∧ wr.heap[w.heap.size]? = some (.cells X 27 (0, 0)) ∧ Below w.heap.size w wr) (fun i _ => ys.length - (intOf i).toNat)
        case atStart => exact ⟨0, by omega, rfl, fun j h => by omega, BOX0.out, HB1.out⟩
        case round =>
          obtain ⟨k1, hk, rfl, hall, hbox, hb⟩ := hrel
          have HA1 := hideC hall
          have BOX1 := hideC hbox
          have HB2 := hideC hb
          have bx0 := B.cell hbox 0 (by rw [HX.out]; rfl)
          have bx1 := B.cell hbox 1 (by rw [HX.out]; rfl)
          have bx2 := B.cell hbox 2 (by rw [HX.out]; rfl)
          have bx3 := B.cell hbox 3 (by rw [HX.out]; rfl)
          have bx4 := B.cell hbox 4 (by rw [HX.out]; rfl)
          have bx5 := B.cell hbox 5 (by rw [HX.out]; rfl)
          clear hall hbox
          by_cases hlt : k1 < ys.length
          · obtain ⟨b, off, hao, hbl, hl⟩ := H3.out (by omega)
            have hli : (k1 : Int) < (ys.length : Int) := by omega
            obtain ⟨c0, c1⟩ := M.lieY hb hbl hl k1 hlt
            have fs := (F7.out k1 hlt).1
            obtain ⟨y, hx⟩ : ∃ y, y = M.syAt ys k1 := ⟨_, rfl⟩
            rw [← hx] at c0 c1 fs
            have HXX := hideC hx
            clear hx hb hl
            obtain ⟨x, xp⟩ := y
            simp only at c0 c1 fs
            subst hao
            cases hc : M.nameB x
            · have HR : Hid ((true && (ns.all M.nameB && (ys.all (fun y => M.nameB y.name) && rs.all M.relNameB))) = false) := by
                show _ = _
                rw [M.all_false (fun y => M.nameB y.name) M.sy0 ys k1 hlt (by show M.nameB (M.syAt ys k1).name = false; rw [← HXX.out]; exact hc)]
                simp
              go_wp2_with (go_at_call 86; refine (isName_any _ _ fs).mono ?_; rintro e w' ⟨rfl, rfl⟩; rw [hc])
              go_ret
              exact ⟨ret_bool HR.out.symm, HB2.out.alloc HB2.out.size _⟩
            · go_wp2_with (go_at_call 86; refine (isName_any _ _ fs).mono ?_; rintro e w' ⟨rfl, rfl⟩; rw [hc])
              go_roundw
              case rel => exact ⟨k1 + 1, by omega, by go_num, fun j h => if e : j = k1 then by rw [e, ← HXX.out]; exact hc else HA1.out j (by omega), B.alloc BOX1.out _, HB2.out.alloc HB2.out.size _⟩
              case measure => simp [intOf]; omega
          · obtain rfl : k1 = ys.length := by omega
            clear hb
            go_wp2_with (go_at_call 86; fail)
            go_loopw [39] (fun i wr => ∃ k : Nat, k ≤ rs.length ∧ i = .int .i64 k ∧ (∀ j, j < k → M.relNameB (M.rlAt rs j) = true) ∧ wr.heap[w.heap.size]? = some (.cells X 27 (0, 0)) ∧ Below w.heap.size w wr) (fun i _ => rs.length - (intOf i).toNat)
            case atStart => exact ⟨0, by omega, rfl, fun j h => by omega, BOX1.out, HB2.out⟩
            case round =>
              obtain ⟨k2, hk, rfl, hall, hbox, hb⟩ := hrel
              have HA2 := hideC hall
              have BOX2 := hideC hbox
              have HB3 := hideC hb
              have bx0 := B.cell hbox 0 (by rw [HX.out]; rfl)
              have bx1 := B.cell hbox 1 (by rw [HX.out]; rfl)
              have bx2 := B.cell hbox 2 (by rw [HX.out]; rfl)
              have bx3 := B.cell hbox 3 (by rw [HX.out]; rfl)
              have bx4 := B.cell hbox 4 (by rw [HX.out]; rfl)
              have bx5 := B.cell hbox 5 (by rw [HX.out]; rfl)
              clear hall hbox
              by_cases hlt : k2 < rs.length
              · obtain ⟨b, off, hao, hbl, hl⟩ := H4.out (by omega)
                have hli : (k2 : Int) < (rs.length : Int) := by omega
                obtain ⟨c0, c1, c2⟩ := M.lieR hb hbl hl k2 hlt
                have fs := (F9.out k2 hlt).2.1
                obtain ⟨y, hx⟩ : ∃ y, y = M.rlAt rs k2 := ⟨_, rfl⟩
                rw [← hx] at c0 c1 c2 fs
                have HXX := hideC hx
                clear hx hb hl
                obtain ⟨xp, x, xa⟩ := y
                simp only at c0 c1 c2 fs
                subst hao
                by_cases he : x.size = 0
                · have hrl : Hid (M.relNameB ⟨xp, x, xa⟩ = true) := by show _ = _; unfold M.relNameB; simp only; rw [decide_eq_true he]; rfl
                  obtain rfl : x = ⟨#[]⟩ := by cases x with | mk d => congr 1; exact Array.eq_empty_of_size_eq_zero he
                  go_wp2
                  go_roundw
                  case rel => exact ⟨k2 + 1, by omega, by go_num, fun j h => if e : j = k2 then by rw [e, ← HXX.out]; exact hrl.out else HA2.out j (by omega), B.alloc BOX2.out _, HB3.out.alloc HB3.out.size _⟩
                  case measure => simp [intOf]; omega
                · have hne : ¬ x.toList = [] := by rw [Lib.toList_data]; intro e; exact he (by rw [Lib.size_eq, e]; rfl)
                  have hne2 : x.toList.isEmpty = false := by cases hh : x.toList with | nil => exact absurd hh hne | cons _ _ => rfl
                  cases hc : M.nameB x
                  · have HR : Hid ((true && (ns.all M.nameB && (ys.all (fun y => M.nameB y.name) && rs.all M.relNameB))) = false) := by
                      show _ = _
                      rw [M.all_false M.relNameB M.rl0 rs k2 hlt (by show M.relNameB (M.rlAt rs k2) = false; rw [← HXX.out]; unfold M.relNameB; simp only; rw [hc, decide_eq_false he]; rfl)]
                      simp
                    go_wp2_with (go_at_call 86; refine (isName_any _ _ fs).mono ?_; rintro e w' ⟨rfl, rfl⟩; rw [hc])
                    go_ret
                    exact ⟨ret_bool HR.out.symm, HB3.out.alloc HB3.out.size _⟩
                  · have hrl : Hid (M.relNameB ⟨xp, x, xa⟩ = true) := by show _ = _; unfold M.relNameB; simp only; rw [hc]; simp
                    go_wp2_with (go_at_call 86; refine (isName_any _ _ fs).mono ?_; rintro e w' ⟨rfl, rfl⟩; rw [hc])
                    go_roundw
                    case rel => exact ⟨k2 + 1, by omega, by go_num, fun j h => if e : j = k2 then by rw [e, ← HXX.out]; exact hrl.out else HA2.out j (by omega), B.alloc BOX2.out _, HB3.out.alloc HB3.out.size _⟩
                    case measure => simp [intOf]; omega
              · obtain rfl : k2 = rs.length := by omega
                clear hb
                have HR : Hid ((true && (ns.all M.nameB && (ys.all (fun y => M.nameB y.name) && rs.all M.relNameB))) = true) := by
                  show _ = _
                  rw [M.all_true M.nameB M.nil ns (fun j hj => HA0.out j hj), M.all_true (fun y => M.nameB y.name) M.sy0 ys (fun j hj => HA1.out j hj), M.all_true M.relNameB M.rl0 rs (fun j hj => HA2.out j hj)]
                  rfl
                go_wp2
                go_ret
                exact ⟨ret_bool HR.out.symm, HB3.out⟩
end Go.Proofs.Yteieplodndfbhaa.W
/- A region that draws its order, whose operations read and whose callees may make memory but turn nothing that was there: one walk in the order of the text (the library's quiet walk, over the class of all worlds that keep what was there). -/
namespace Go.Proofs.Yteieplodndfbhaa.Q
open Go.RowKit
set_option linter.unusedVariables false
set_option maxRecDepth 100000

/-- a world that keeps what was there in w, below block number B -/
structure Kin (B : Nat) (w : World) where
  world : World
  keeps : Below B w world

theorem kin_some (w : World) : Nonempty (Kin w.heap.size w) := ⟨⟨w, Below.refl _ _⟩⟩

theorem region_kin {P : Program} {id : Nat} {Q : Exit → Act → World → Prop} {a : Act} {w : World} {l : List Oper} (hm : P.follows .mixedOrders = true) (hB : Region.lexB .any l.toArray = true)
    (h : wpQuiet P l.toArray (fun w' => ∃ x : Kin w.heap.size w, w' = x.world) (fun a' => ∀ w', (∃ x : Kin w.heap.size w, w' = x.world) → Q .normal a' w') l a) : (Code.region id l.toArray true).wp P Q a w :=
  wp_region_quiet (C := fun w' => ∃ x : Kin w.heap.size w, w' = x.world) hm hB ⟨⟨_, (Below.refl _ _).drew⟩, rfl⟩ (by simpa using h)

theorem calls_kin {P : Program} {f : FuncId} {args : Array Value} {v : Value} {w : World} (h : ∀ W, Calls P f args W fun e w' => e = .returned v ∧ Below W.heap.size W w') (x : Kin w.heap.size w) :
    Calls P f args x.world fun e w'' => e = .returned v ∧ ∃ y : Kin w.heap.size w, w'' = y.world :=
  (h x.world).mono fun e w'' ⟨he, hb⟩ => ⟨he, ⟨w'', x.keeps.trans (hb.mono x.keeps.size)⟩, rfl⟩

theorem cell_kin {w : World} (x : Kin w.heap.size w) (b o : Nat) (h : b < w.heap.size) : x.world.cell? ⟨b, o, none⟩ = w.cell? ⟨b, o, none⟩ := x.keeps.cell (p := ⟨b, o, none⟩) h

end Go.Proofs.Yteieplodndfbhaa.Q
namespace Go.Proofs.Yteieplodndfbhaa.W
open Go.RowKit
set_option linter.unusedVariables false
set_option maxRecDepth 100000

set_option maxHeartbeats 2000000 in
theorem rightCounts_any (i : M.Im) (a : M.At) (w : World) (hf : M.Fit i) : Calls Try.prog 69 #[.agg (M.cellsI a i)] w fun e w' => e = .returned (.bool (M.countsB i)) ∧ Below w.heap.size w w' := by
  obtain ⟨an, cn, ag, cg, ay, cy, ar, cr⟩ := a
  obtain ⟨nm, ns, gs, ys, rs, en⟩ := i
  obtain ⟨f1, f2, f3, f4, f5, f6, f7, f8, f9, f10⟩ := hf
  simp only at f2 f4 f6 f8
  unfold M.Short at f2 f4 f6 f8
  simp only [M.cellsI, M.countsB]
  have HB0 : ∀ o, Hid (Below w.heap.size w (w.alloc o)) := fun o => (Below.refl w.heap.size w).alloc (Nat.le_refl _) o
  obtain ⟨r, hr⟩ : ∃ r, r = decide (1 ≤ gs.length ∧ gs.length ≤ 6 ∧ ns.length ≤ 4 ∧ ys.length ≤ 12 ∧ rs.length ≤ 16) := ⟨_, rfl⟩
  rw [← hr]
  have HR := hideC hr
  clear hr f1 f3 f5 f7 f9 f10
  obtain ⟨ln, hln⟩ : ∃ n, n = ns.length := ⟨_, rfl⟩
  obtain ⟨lg, hlg⟩ : ∃ n, n = gs.length := ⟨_, rfl⟩
  obtain ⟨ly, hly⟩ : ∃ n, n = ys.length := ⟨_, rfl⟩
  obtain ⟨lr, hlr⟩ : ∃ n, n = rs.length := ⟨_, rfl⟩
  rw [← hln, ← hlg, ← hly, ← hlr] at HR
  rw [← hln, ← hlg, ← hly, ← hlr]
  rw [← hln] at f2
  rw [← hlg] at f4
  rw [← hly] at f6
  rw [← hlr] at f8
  clear hln hlg hly hlr
  by_cases d1 : 1 ≤ (lg : Int)
  · by_cases d2 : (lg : Int) ≤ 6
    · by_cases d3 : (ln : Int) ≤ 4
      · by_cases d4 : (ly : Int) ≤ 12
        · by_cases d5 : (lr : Int) ≤ 16
          · have e : r = true := by rw [HR.out]; exact decide_eq_true (by omega)
            subst e
            have q1 : 1 ≤ lg := by omega
            have q2 : lg ≤ 6 := by omega
            have q3 : ln ≤ 4 := by omega
            have q4 : ly ≤ 12 := by omega
            have q5 : lr ≤ 16 := by omega
            go_enter Try.func69, Try.ntmps69
            go_wp2
            go_ret
            exact ⟨rfl, (HB0 _).out⟩
          · have e : r = false := by rw [HR.out]; exact decide_eq_false (by omega)
            subst e
            have q1 : 1 ≤ lg := by omega
            have q2 : lg ≤ 6 := by omega
            have q3 : ln ≤ 4 := by omega
            have q4 : ly ≤ 12 := by omega
            have q5 : decide ((lr : Int) ≤ 16) = false := decide_eq_false d5
            have q6 : decide (lr ≤ 16) = false := decide_eq_false (by omega)
            have q7 : ¬ lr ≤ 16 := by omega
            go_enter Try.func69, Try.ntmps69
            go_wp2
            go_ret
            exact ⟨rfl, (HB0 _).out⟩
        · have e : r = false := by rw [HR.out]; exact decide_eq_false (by omega)
          subst e
          have q1 : 1 ≤ lg := by omega
          have q2 : lg ≤ 6 := by omega
          have q3 : ln ≤ 4 := by omega
          have q4 : decide ((ly : Int) ≤ 12) = false := decide_eq_false d4
          have q6 : decide (ly ≤ 12) = false := decide_eq_false (by omega)
          have q7 : ¬ ly ≤ 12 := by omega
          go_enter Try.func69, Try.ntmps69
          go_wp2
          go_ret
          exact ⟨rfl, (HB0 _).out⟩
      · have e : r = false := by rw [HR.out]; exact decide_eq_false (by omega)
        subst e
        have q1 : 1 ≤ lg := by omega
        have q2 : lg ≤ 6 := by omega
        have q4 : decide ((ln : Int) ≤ 4) = false := decide_eq_false d3
        have q6 : decide (ln ≤ 4) = false := decide_eq_false (by omega)
        have q7 : ¬ ln ≤ 4 := by omega
        go_enter Try.func69, Try.ntmps69
        go_wp2
        go_ret
        exact ⟨rfl, (HB0 _).out⟩
    · have e : r = false := by rw [HR.out]; exact decide_eq_false (by omega)
      subst e
      have q1 : 1 ≤ lg := by omega
      have q4 : decide ((lg : Int) ≤ 6) = false := decide_eq_false d2
      have q6 : decide (lg ≤ 6) = false := decide_eq_false (by omega)
      have q7 : ¬ lg ≤ 6 := by omega
      go_enter Try.func69, Try.ntmps69
      go_wp2
      go_ret
      exact ⟨rfl, (HB0 _).out⟩
  · have e : r = false := by rw [HR.out]; exact decide_eq_false (by omega)
    subst e
    have q4 : decide ((1 : Int) ≤ (lg : Int)) = false := decide_eq_false d1
    obtain rfl : lg = 0 := by omega
    go_enter Try.func69, Try.ntmps69
    go_wp2
    go_ret
    exact ⟨rfl, (HB0 _).out⟩

set_option maxHeartbeats 4000000 in
theorem rightRanges_any (l : List M.Sg) (ao : Option Addr) (cap : Nat) (w : World) (h : M.HasBy M.LieG w ao l) (hn : M.Short l.length) (hf : ∀ k, k < l.length → M.FitG (M.sgAt l k)) :
    Calls Try.prog 70 #[.slice ao l.length cap] w fun e w' => e = .returned (.bool (l.all M.rangeB)) ∧ Below w.heap.size w w' := by
  unfold M.Short at hn
  have H := hideC h
  have F := hideC hf
  clear h hf
  go_enter Try.func70, Try.ntmps70
  go_wp2
  go_loopw [7] (fun i wr => ∃ k : Nat, k ≤ l.length ∧ i = .int .i64 k ∧ (∀ j, j < k → M.rangeB (M.sgAt l j) = true) ∧ Below w.heap.size w wr) (fun i _ => l.length - (intOf i).toNat)
  case atStart => exact ⟨0, by omega, rfl, fun j h => by omega, Below.refl _ _⟩
  case round =>
    obtain ⟨k, hk, rfl, hall, hb⟩ := hrel
    have HA := hideC hall
    have HB := hideC hb
    clear hall
    by_cases hlt : k < l.length
    · obtain ⟨b, off, hao, hbl, hl⟩ := H.out (by omega)
      subst hao
      obtain ⟨c0, c1, c2, c3, c4⟩ := M.lieG hb hbl hl k hlt
      obtain ⟨g1, g2, g3⟩ := F.out k hlt
      obtain ⟨s, hs⟩ : ∃ s, s = M.sgAt l k := ⟨_, rfl⟩
      rw [← hs] at c0 c1 c2 c3 c4 g1 g2 g3
      have HS := hideC hs
      clear hs hb hl
      obtain ⟨p, n, d, x, y⟩ := s
      simp only at c0 c1 c2 c3 c4 g1 g2 g3
      unfold M.I64 at g1 g2
      unfold M.Short at g3
      have hml : d.size ≤ maxLen := by unfold maxLen; omega
      have hli : (k : Int) < (l.length : Int) := by omega
      have hbad : Hid (¬ (0 ≤ p ∧ 1 ≤ n ∧ p + n ≤ 255 ∧ (d.size : Int) ≤ n * 16) → l.all M.rangeB = false) := fun hx =>
        M.all_false M.rangeB M.sg0 l k hlt (by show M.rangeB (M.sgAt l k) = false; rw [← HS.out]; exact decide_eq_false hx)
      by_cases d1 : 0 ≤ p
      · have d1' : ¬ p < 0 := by omega
        by_cases d2 : 1 ≤ n
        · have d2' : ¬ n < 1 := by omega
          by_cases d3 : p + n ≤ 255
          · have d3' : ¬ 255 - p < n := by omega
            by_cases d4 : (d.size : Int) ≤ n * 16
            · have d4' : ¬ n * 16 < (d.size : Int) := by omega
              have hgood : Hid (M.rangeB ⟨p, n, d, x, y⟩ = true) := decide_eq_true ⟨d1, d2, d3, d4⟩
              go_wp2
              go_roundw
              case rel => exact ⟨k + 1, by omega, by go_num, fun j h => if e : j = k then by rw [e, ← HS.out]; exact hgood.out else HA.out j (by omega), HB.out.alloc HB.out.size _⟩
              case measure => simp [intOf]; omega
            · have d4' : n * 16 < (d.size : Int) := by omega
              have HR := hideC (hbad.out (by omega))
              go_wp2
              go_ret
              exact ⟨ret_bool HR.out.symm, HB.out.alloc HB.out.size _⟩
          · have d3' : 255 - p < n := by omega
            have HR := hideC (hbad.out (by omega))
            go_wp2
            go_ret
            exact ⟨ret_bool HR.out.symm, HB.out.alloc HB.out.size _⟩
        · have d2' : n < 1 := by omega
          have HR := hideC (hbad.out (by omega))
          go_wp2
          go_ret
          exact ⟨ret_bool HR.out.symm, HB.out.alloc HB.out.size _⟩
      · have d1' : p < 0 := by omega
        have HR := hideC (hbad.out (by omega))
        go_wp2
        go_ret
        exact ⟨ret_bool HR.out.symm, HB.out.alloc HB.out.size _⟩
    · obtain rfl : k = l.length := by omega
      have HR := hideC (M.all_true M.rangeB M.sg0 l (fun j hj => HA.out j hj))
      clear hb
      go_wp2
      go_ret
      exact ⟨ret_bool HR.out.symm, HB.out⟩

end Go.Proofs.Yteieplodndfbhaa.W
namespace Go.Proofs.Yteieplodndfbhaa.W
open Go.RowKit
set_option linter.unusedVariables false
set_option maxRecDepth 100000

theorem over_mono (l : List M.Sg) (k n : Nat) (h : M.overTo l k = false) (hk : k ≤ n) : M.overTo l n = false := by
  induction n with
  | zero => obtain rfl : k = 0 := by omega
            exact h
  | succ n ih =>
    rcases Nat.lt_or_ge n k with g | g
    · obtain rfl : k = n + 1 := by omega
      exact h
    · simp only [M.overTo]
      rw [ih g]; rfl
theorem apart_no (l : List M.Sg) (k : Nat) (hk : k < l.length) (h : M.overTo l (k + 1) = false) : M.apartB l = false := over_mono l (k + 1) l.length h hk

set_option maxHeartbeats 4000000 in
theorem overlap_any (l : List M.Sg) (ao : Option Addr) (cap : Nat) (w : World) (h : M.HasBy M.LieG w ao l) (hn : M.Short l.length) (hr : l.all M.rangeB = true) :
    Calls Try.prog 71 #[.slice ao l.length cap] w fun e w' => e = .returned (.bool (!M.apartB l)) ∧ Below w.heap.size w w' := by
  unfold M.Short at hn
  have H := hideC h
  have F := hideC hr
  clear h hr
  go_enter Try.func71, Try.ntmps71
  go_wp2
  go_loopw [3] (fun i wr => ∃ k : Nat, 1 ≤ k ∧ (k ≤ l.length ∨ k = 1) ∧ i = .int .i64 k ∧ M.overTo l k = true ∧ Below w.heap.size w wr) (fun i _ => l.length - (intOf i).toNat)
  case atStart => exact ⟨1, by omega, .inr rfl, rfl, rfl, Below.refl _ _⟩
  case round =>
    obtain ⟨k, hk1, hk, rfl, hall, hb⟩ := hrel
    have HA := hideC hall
    have HB := hideC hb
    clear hall
    by_cases hlt : k < l.length
    · obtain ⟨b, off, hao, hbl, hl⟩ := H.out (by omega)
      subst hao
      obtain ⟨c0, c1, c2, c3, c4⟩ := M.lieG hb hbl hl k hlt
      obtain ⟨e0, e1, e2, e3, e4⟩ := M.lieG hb hbl hl (k - 1) (by omega)
      have g1 : 0 ≤ (M.sgAt l (k - 1)).page ∧ 1 ≤ (M.sgAt l (k - 1)).pages ∧ (M.sgAt l (k - 1)).page + (M.sgAt l (k - 1)).pages ≤ 255 ∧ _ := of_decide_eq_true (M.all_at M.rangeB M.sg0 l (k - 1) (by omega) F.out)
      have hov : Hid (M.overTo l (k + 1) = decide ((M.sgAt l (k - 1)).page + (M.sgAt l (k - 1)).pages ≤ (M.sgAt l k).page)) := by
        show _ = _
        simp only [M.overTo, HA.out, Bool.true_and, M.overAt]
        rw [show (k == 0) = false from by simp; omega, Bool.false_or]
      obtain ⟨s, hs⟩ : ∃ s, s = M.sgAt l k := ⟨_, rfl⟩
      obtain ⟨t, ht⟩ : ∃ t, t = M.sgAt l (k - 1) := ⟨_, rfl⟩
      rw [← hs] at c0 c1 c2 c3 c4 hov
      rw [← ht] at e0 e1 e2 e3 e4 g1 hov
      clear hs ht hb hl
      obtain ⟨sp, sn, sd, sx, sy⟩ := s
      obtain ⟨tp, tn, td, tx, ty⟩ := t
      simp only at c0 c1 c2 c3 c4 e0 e1 e2 e3 e4 g1 hov
      obtain ⟨g1, g2, g3, g4⟩ := g1
      clear c1 c2 c3 c4 e2 e3 e4 g4
      have hli : (k : Int) < (l.length : Int) := by omega
      have hkin := Q.kin_some wr
      have hkc := @Q.cell_kin wr
      have hbr : b < wr.heap.size := Nat.lt_of_lt_of_le hbl HB.out.size
      have k0 : ∀ x : Q.Kin wr.heap.size wr, x.world.cell? ⟨b, off + k * 5, none⟩ = some (.int .i64 sp) := fun x => by rw [hkc x _ _ hbr, c0]
      have k1 : ∀ x : Q.Kin wr.heap.size wr, x.world.cell? ⟨b, off + (k - 1) * 5, none⟩ = some (.int .i64 tp) := fun x => by rw [hkc x _ _ hbr, e0]
      have k2 : ∀ x : Q.Kin wr.heap.size wr, x.world.cell? ⟨b, off + (k - 1) * 5 + 1, none⟩ = some (.int .i64 tn) := fun x => by rw [hkc x _ _ hbr, e1]
      clear hkc c0 e0 e1
      by_cases d : sp < tp + tn
      · have hno : Hid (M.overTo l (k + 1) = false) := by show _ = _; rw [hov.out]; exact decide_eq_false (by omega)
        go_wp2
        refine Q.region_kin (by kernel_rfl) (by kernel_rfl) ?_
        repeat (first | go_big_quiet_step (fail) | quiet_step (fail))
        refine wpQuiet_nil ?_
        intro _ hw'
        obtain ⟨x, hw''⟩ := hw'
        subst hw''
        go_wp2
        go_ret
        exact ⟨ret_bool (by rw [apart_no l k hlt hno.out]; rfl), HB.out.trans (x.keeps.mono HB.out.size)⟩
      · have hyes : Hid (M.overTo l (k + 1) = true) := by show _ = _; rw [hov.out]; exact decide_eq_true (by omega)
        go_wp2
        refine Q.region_kin (by kernel_rfl) (by kernel_rfl) ?_
        repeat (first | go_big_quiet_step (fail) | quiet_step (fail))
        refine wpQuiet_nil ?_
        intro _ hw'
        obtain ⟨x, hw''⟩ := hw'
        subst hw''
        go_wp2
        go_roundw
        case rel => exact ⟨k + 1, by omega, .inl (by omega), by go_num, hyes.out, HB.out.trans (x.keeps.mono HB.out.size)⟩
        case measure => simp [intOf]; omega
    · have HR : Hid (M.apartB l = true) := by
        show _ = _
        unfold M.apartB
        rcases hk with hk | hk
        · rw [show l.length = k by omega]; exact HA.out
        · rcases Nat.lt_or_ge l.length 1 with h0 | h0
          · rw [show l.length = 0 by omega]; rfl
          · rw [show l.length = k by omega]; exact HA.out
      have hge : ¬ (k : Int) < (l.length : Int) := by omega
      clear hb
      go_wp2
      go_ret
      exact ⟨ret_bool (by rw [HR.out]; rfl), HB.out⟩
end Go.Proofs.Yteieplodndfbhaa.W
namespace Go.Proofs.Yteieplodndfbhaa.W
open Go.RowKit
set_option linter.unusedVariables false
set_option maxRecDepth 100000

def cellsG (s : M.Sg) : Array Value := #[.int .i64 s.page, .int .i64 s.pages, .string s.data, .bool s.wr, .bool s.ex]
/-- the first segment that holds the address, or the empty one -/
def segOr (l : List M.Sg) (a : Int) : M.Sg := (M.segIn l a).getD M.sg0
theorem segIn_none : ∀ (l : List M.Sg) (a : Int), (∀ j, j < l.length → M.inSeg (M.sgAt l j) a = false) → M.segIn l a = none
  | [], _, _ => rfl
  | s :: r, a, h => by
    have h0 : M.inSeg s a = false := h 0 (by simp)
    unfold M.segIn
    rw [h0, if_neg (by simp)]
    exact segIn_none r a (fun j hj => h (j + 1) (by simpa using hj))
theorem segIn_some : ∀ (l : List M.Sg) (a : Int) (k : Nat), k < l.length → (∀ j, j < k → M.inSeg (M.sgAt l j) a = false) → M.inSeg (M.sgAt l k) a = true → M.segIn l a = some (M.sgAt l k)
  | s :: r, a, 0, _, _, h => by
    have h0 : M.inSeg s a = true := h
    unfold M.segIn
    rw [h0, if_pos rfl]
    rfl
  | s :: r, a, k + 1, hk, hj, h => by
    have h0 : M.inSeg s a = false := hj 0 (by omega)
    unfold M.segIn
    rw [h0, if_neg (by simp)]
    exact segIn_some r a k (by simpa using hk) (fun j h => hj (j + 1) (by omega)) h
theorem range_at {l : List M.Sg} (h : l.all M.rangeB = true) (k : Nat) (hk : k < l.length) : 0 ≤ (M.sgAt l k).page ∧ 1 ≤ (M.sgAt l k).pages ∧ (M.sgAt l k).page + (M.sgAt l k).pages ≤ 255 ∧ ((M.sgAt l k).data.size : Int) ≤ (M.sgAt l k).pages * 16 :=
  of_decide_eq_true (M.all_at M.rangeB M.sg0 l k hk h)
theorem segIn_neg {l : List M.Sg} (h : l.all M.rangeB = true) (a : Int) (ha : a < 0) : M.segIn l a = none :=
  segIn_none l a (fun j hj => by
    have := range_at h j hj
    exact decide_eq_false (by omega))
theorem ret_seg {a b : M.Sg} {x y : Bool} (h : a = b) (g : x = y) : Ending.returned (.tuple #[.agg (cellsG a), .bool x]) = .returned (.tuple #[.agg (cellsG b), .bool y]) := by rw [h, g]

set_option maxHeartbeats 4000000 in
theorem segAt_any (l : List M.Sg) (ao : Option Addr) (cap : Nat) (a : Int) (w : World) (h : M.HasBy M.LieG w ao l) (hn : M.Short l.length) (hr : l.all M.rangeB = true) (ha : M.I64 a) :
    Calls Try.prog 87 #[.slice ao l.length cap, .int .i64 a] w fun e w' => e = .returned (.tuple #[.agg (cellsG (segOr l a)), .bool (M.placedB l a)]) ∧ Below w.heap.size w w' := by
  unfold M.Short at hn
  unfold M.I64 at ha
  have H := hideC h
  have F := hideC hr
  clear h hr
  by_cases h0 : a < 0
  · have HN := hideC (segIn_neg F.out a h0)
    have HZ := hideC ((Below.refl w.heap.size w).alloc (Nat.le_refl _) (.cells #[.int .i64 0, .int .i64 0, .string ⟨#[]⟩, .bool false, .bool false] 79))
    go_enter Try.func87, Try.ntmps87
    go_wp2
    exact bodyPost_ret (v := .tuple #[.agg #[.int .i64 0, .int .i64 0, .string ⟨#[]⟩, .bool false, .bool false], .bool false]) (by simp [results, Try.results87, go_sem]) rfl ⟨ret_seg (a := M.sg0) (x := false) (by unfold segOr; rw [HN.out]; rfl) (by unfold M.placedB; rw [HN.out]; rfl), HZ.out⟩
  · have h0' : 0 ≤ a := by omega
    have hbz : Below w.heap.size w (w.alloc (.cells #[.int .i64 0, .int .i64 0, .string ⟨#[]⟩, .bool false, .bool false] 79)) := (Below.refl _ _).alloc (Nat.le_refl _) _
    have HZ := hideC hbz
    clear hbz
    go_enter Try.func87, Try.ntmps87
    go_wp2
    go_loopw [16] (fun i wr => ∃ k : Nat, k ≤ l.length ∧ i = .int .i64 k ∧ (∀ j, j < k → M.inSeg (M.sgAt l j) a = false) ∧ Below (w.heap.size + 1) (w.alloc (.cells #[.int .i64 0, .int .i64 0, .string ⟨#[]⟩, .bool false, .bool false] 79)) wr) (fun i _ => l.length - (intOf i).toNat)
    case atStart => exact ⟨0, by omega, rfl, fun j hj => by omega, Below.refl _ _⟩
    case round =>
      obtain ⟨k, hk, rfl, hno, hb⟩ := hrel
      have HN := hideC hno
      have HB := hideC hb
      have hbw : Hid (Below w.heap.size w wr) := HZ.out.trans (hb.mono (Nat.le_succ _))
      have hsz : w.heap.size + 1 ≤ wr.heap.size := by have := hb.size; simpa using this
      have HR := hideC (B.below (B.new w #[.int .i64 0, .int .i64 0, .string ⟨#[]⟩, .bool false, .bool false] 79) hb (Nat.lt_succ_self _))
      clear hno hb
      by_cases hlt : k < l.length
      · obtain ⟨b, off, hao, hbl, hl⟩ := H.out (by omega)
        subst hao
        obtain ⟨c0, c1, c2, c3, c4⟩ := M.lieG hbw.out hbl hl k hlt
        obtain ⟨g1, g2, g3, g4⟩ := range_at F.out k hlt
        obtain ⟨s, hs⟩ : ∃ s, s = M.sgAt l k := ⟨_, rfl⟩
        rw [← hs] at c0 c1 c2 c3 c4 g1 g2 g3 g4
        have HS := hideC hs
        clear hs hl
        obtain ⟨p, n, d, x, y⟩ := s
        simp only at c0 c1 c2 c3 c4 g1 g2 g3 g4
        have hml : d.size ≤ maxLen := by unfold maxLen; omega
        have hli : (k : Int) < (l.length : Int) := by omega
        clear g4
        by_cases d1 : p ≤ a / 16
        · by_cases d2 : a / 16 < p + n
          · have hin : Hid (M.inSeg (M.sgAt l k) a = true) := by show _ = _; rw [← HS.out]; exact decide_eq_true (show p * 16 ≤ a ∧ a < (p + n) * 16 by omega)
            have t0 := B.cell (B.alloc HR.out (.cells #[.int .i64 p, .int .i64 n, .string d, .bool x, .bool y] 79)) 0 rfl
            have t1 := B.cell (B.alloc HR.out (.cells #[.int .i64 p, .int .i64 n, .string d, .bool x, .bool y] 79)) 1 rfl
            have t2 := B.cell (B.alloc HR.out (.cells #[.int .i64 p, .int .i64 n, .string d, .bool x, .bool y] 79)) 2 rfl
            have t3 := B.cell (B.alloc HR.out (.cells #[.int .i64 p, .int .i64 n, .string d, .bool x, .bool y] 79)) 3 rfl
            have t4 := B.cell (B.alloc HR.out (.cells #[.int .i64 p, .int .i64 n, .string d, .bool x, .bool y] 79)) 4 rfl
            have u0 := B.free (B.alloc HR.out (.cells #[.int .i64 p, .int .i64 n, .string d, .bool x, .bool y] 79))
            have HW2 := hideC (hbw.out.alloc hbw.out.size (.cells #[.int .i64 p, .int .i64 n, .string d, .bool x, .bool y] 79))
            go_wp2
            exact bodyPost_ret (v := .tuple #[.agg #[.int .i64 p, .int .i64 n, .string d, .bool x, .bool y], .bool true]) (by simp [results, Try.results87, go_sem, t0, t1, t2, t3, t4]) rfl ⟨ret_seg (a := ⟨p, n, d, x, y⟩) (x := true) (by unfold segOr; rw [segIn_some l a k hlt HN.out hin.out]; exact HS.out) (by unfold M.placedB; rw [segIn_some l a k hlt HN.out hin.out]; rfl), (((((HW2.out.setCell (Nat.le_refl _) _).setCell (Nat.le_refl _) _).setCell (Nat.le_refl _) _).setCell (Nat.le_refl _) _).setCell (Nat.le_refl _) _)⟩
          · have hmiss : Hid (M.inSeg (M.sgAt l k) a = false) := by show _ = _; rw [← HS.out]; exact decide_eq_false (show ¬ (p * 16 ≤ a ∧ a < (p + n) * 16) by omega)
            go_wp2
            go_roundw
            case rel => exact ⟨k + 1, by omega, by go_num, fun j hj => if e : j = k then by rw [e]; exact hmiss.out else HN.out j (by omega), HB.out.alloc (by simpa using hsz) _⟩
            case measure => simp [intOf]; omega
        · have hmiss : Hid (M.inSeg (M.sgAt l k) a = false) := by show _ = _; rw [← HS.out]; exact decide_eq_false (show ¬ (p * 16 ≤ a ∧ a < (p + n) * 16) by omega)
          have d1' : decide (p ≤ a / 16) = false := decide_eq_false d1
          go_wp2
          go_roundw
          case rel => exact ⟨k + 1, by omega, by go_num, fun j hj => if e : j = k then by rw [e]; exact hmiss.out else HN.out j (by omega), HB.out.alloc (by simpa using hsz) _⟩
          case measure => simp [intOf]; omega
      · obtain rfl : k = l.length := by omega
        have HNo := hideC (segIn_none l a HN.out)
        have t0 := B.cell HR.out 0 rfl
        have t1 := B.cell HR.out 1 rfl
        have t2 := B.cell HR.out 2 rfl
        have t3 := B.cell HR.out 3 rfl
        have t4 := B.cell HR.out 4 rfl
        have u0 := B.free HR.out
        go_wp2
        exact bodyPost_ret (v := .tuple #[.agg #[.int .i64 0, .int .i64 0, .string ⟨#[]⟩, .bool false, .bool false], .bool false]) (by simp [results, Try.results87, go_sem, t0, t1, t2, t3, t4]) rfl ⟨ret_seg (a := M.sg0) (x := false) (by unfold segOr; rw [HNo.out]; rfl) (by unfold M.placedB; rw [HNo.out]; rfl), (((((hbw.out.setCell (Nat.le_refl _) _).setCell (Nat.le_refl _) _).setCell (Nat.le_refl _) _).setCell (Nat.le_refl _) _).setCell (Nat.le_refl _) _)⟩
end Go.Proofs.Yteieplodndfbhaa.W
namespace Go.Proofs.Yteieplodndfbhaa.W
open Go.RowKit
set_option linter.unusedVariables false
set_option maxRecDepth 100000

theorem placed_bounds {l : List M.Sg} (h : l.all M.rangeB = true) (a : Int) (hp : M.placedB l a = true) : 0 ≤ a ∧ a < 4080 := by
  induction l with
  | nil => cases hp
  | cons s r ih =>
    have h' : M.rangeB s = true ∧ r.all M.rangeB = true := by simpa using h
    have hs : 0 ≤ s.page ∧ 1 ≤ s.pages ∧ s.page + s.pages ≤ 255 ∧ (s.data.size : Int) ≤ s.pages * 16 := of_decide_eq_true h'.1
    unfold M.placedB M.segIn at hp
    cases e : M.inSeg s a
    · rw [e, if_neg (by simp)] at hp
      exact ih h'.2 hp
    · have := of_decide_eq_true e
      omega
theorem whole_yes {l : List M.Sg} {a : Int} (h : ∀ n : Nat, n < 8 → M.placedB l (a + n) = true) : M.wholeB l a = true := by
  have e0 := h 0 (by omega)
  have e1 := h 1 (by omega)
  have e2 := h 2 (by omega)
  have e3 := h 3 (by omega)
  have e4 := h 4 (by omega)
  have e5 := h 5 (by omega)
  have e6 := h 6 (by omega)
  have e7 := h 7 (by omega)
  simp only [Int.cast_ofNat_Int, Int.add_zero] at e0 e1 e2 e3 e4 e5 e6 e7
  unfold M.wholeB
  rw [e0, e1, e2, e3, e4, e5, e6, e7]
  rfl
theorem whole_at {l : List M.Sg} {a : Int} (h : M.wholeB l a = true) (n : Nat) (hn : n < 8) : M.placedB l (a + n) = true := by
  unfold M.wholeB at h
  simp only [Bool.and_eq_true] at h
  obtain ⟨e0, e1, e2, e3, e4, e5, e6, e7⟩ := h
  have : n = 0 ∨ n = 1 ∨ n = 2 ∨ n = 3 ∨ n = 4 ∨ n = 5 ∨ n = 6 ∨ n = 7 := by omega
  rcases this with rfl | rfl | rfl | rfl | rfl | rfl | rfl | rfl
  · simpa using e0
  · exact e1
  · exact e2
  · exact e3
  · exact e4
  · exact e5
  · exact e6
  · exact e7
theorem whole_no {l : List M.Sg} {a : Int} (n : Nat) (hn : n < 8) (h : M.placedB l (a + n) = false) : M.wholeB l a = false := by
  cases e : M.wholeB l a
  · rfl
  · rw [whole_at e n hn] at h; cases h
theorem rels_mono (i : M.Im) (k n : Nat) (h : M.relsTo i k = false) (hk : k ≤ n) : M.relsTo i n = false := by
  induction n with
  | zero => obtain rfl : k = 0 := by omega
            exact h
  | succ n ih =>
    rcases Nat.lt_or_ge n k with g | g
    · obtain rfl : k = n + 1 := by omega
      exact h
    · simp only [M.relsTo]
      rw [ih g]; rfl
theorem rels_at (i : M.Im) (k n : Nat) (h : M.relsTo i n = true) (hk : k < n) : M.relAt i k = true := by
  cases e : M.relAt i k
  · have : M.relsTo i (k + 1) = false := by simp only [M.relsTo]; rw [e, Bool.and_false]
    rw [rels_mono i (k + 1) n this hk] at h; cases h
  · rfl
theorem rels_no (i : M.Im) (k : Nat) (hk : k < i.rels.length) (h : M.relAt i k = false) : M.relsTo i i.rels.length = false :=
  rels_mono i (k + 1) _ (by simp only [M.relsTo]; rw [h, Bool.and_false]) hk

set_option maxHeartbeats 1500000 in
theorem symsPlaced_any (i : M.Im) (a : M.At) (w : World) (h : M.HasIm w a i) (hf : M.Fit i) (hr : i.segs.all M.rangeB = true) : Calls Try.prog 74 #[.agg (M.cellsI a i)] w fun e w' => e = .returned (.bool (i.syms.all (fun y => M.placedB i.segs y.pos))) ∧ Below w.heap.size w w' := by
  obtain ⟨an, cn, ag, cg, ay, cy, ar, cr⟩ := a
  obtain ⟨nm, ns, gs, ys, rs, en⟩ := i
  obtain ⟨h1, h2, h3, h4⟩ := h
  obtain ⟨f1, f2, f3, f4, f5, f6, f7, f8, f9, f10⟩ := hf
  simp only at h1 h2 h3 h4 f1 f2 f3 f4 f5 f6 f7 f8 f9 f10
  have F4 := hideC f4
  unfold M.Short at f2 f4 f6 f8
  simp only [M.cellsI]
  have H1 := hideC h1
  have H2 := hideC h2
  have H3 := hideC h3
  have H4 := hideC h4
  have F3 := hideC f3
  have F7 := hideC f7
  have F9 := hideC f9
  have F10 := hideC f10
  have HG := hideC hr
  clear h1 h2 h3 h4 f3 f5 f7 f9 f10 hr
  have BOX := hideC (B.new w #[.string nm, .slice an ns.length cn, .slice ag gs.length cg, .slice ay ys.length cy, .slice ar rs.length cr, .int .i64 en] 27)
  have HB0 := hideC ((Below.refl w.heap.size w).alloc (Nat.le_refl _) (.cells #[.string nm, .slice an ns.length cn, .slice ag gs.length cg, .slice ay ys.length cy, .slice ar rs.length cr, .int .i64 en] 27))
  obtain ⟨X, hX⟩ : ∃ X : Array Value, X = #[.string nm, .slice an ns.length cn, .slice ag gs.length cg, .slice ay ys.length cy, .slice ar rs.length cr, .int .i64 en] := ⟨_, rfl⟩
  have HX := hideC hX
  rw [← hX] at BOX HB0
  clear hX
  go_enter Try.func74, Try.ntmps74
  go_wp2
  rw [← HX.out]
  go_loopw [10] (fun i wr => ∃ k : Nat, k ≤ ys.length ∧ i = .int .i64 k ∧ (∀ j, j < k → M.placedB gs (M.syAt ys j).pos = true) ∧ wr.heap[w.heap.size]? = some (.cells X 27 (0, 0)) ∧ Below w.heap.size w wr) (fun i _ => ys.length - (intOf i).toNat)
  case atStart => exact ⟨0, by omega, rfl, fun j h => by omega, BOX.out, HB0.out⟩
  case round =>
    obtain ⟨k, hk, rfl, hall, hbox, hb⟩ := hrel
    have HA := hideC hall
    have BX := hideC hbox
    have HB := hideC hb
    have bx0 := B.cell hbox 0 (by rw [HX.out]; rfl)
    have bx1 := B.cell hbox 1 (by rw [HX.out]; rfl)
    have bx2 := B.cell hbox 2 (by rw [HX.out]; rfl)
    have bx3 := B.cell hbox 3 (by rw [HX.out]; rfl)
    have bx4 := B.cell hbox 4 (by rw [HX.out]; rfl)
    have bx5 := B.cell hbox 5 (by rw [HX.out]; rfl)
    clear hall hbox
    by_cases hlt : k < ys.length
    · obtain ⟨b, off, hao, hbl, hl⟩ := H3.out (by omega)
      have hli : (k : Int) < (ys.length : Int) := by omega
      obtain ⟨c0, c1⟩ := M.lieY hb hbl hl k hlt
      have fs := (F7.out k hlt).2
      obtain ⟨y, hx⟩ : ∃ y, y = M.syAt ys k := ⟨_, rfl⟩
      rw [← hx] at c0 c1 fs
      have HXX := hideC hx
      clear hx hb hl
      obtain ⟨x, xp⟩ := y
      simp only at c0 c1 fs
      subst hao
      have HB1 := hideC (HB.out.alloc HB.out.size (.cells #[.string x, .int .i64 xp] 116))
      have BX1 := hideC (B.alloc BX.out (.cells #[.string x, .int .i64 xp] 116))
      have hsz : w.heap.size < wr.heap.size := B.isLt BX.out
      have by2 := B.cell BX1.out 2 (by rw [HX.out]; rfl)
      cases hc : M.placedB gs xp
      · have HR := hideC (M.all_false (fun y => M.placedB gs y.pos) M.sy0 ys k hlt (by show M.placedB gs (M.syAt ys k).pos = false; rw [← HXX.out]; exact hc))
        go_wp2_with (go_at_call 87; refine (segAt_any gs ag cg xp _ (M.HasBy.below (lie := M.LieG) (fun hb hlt h => M.lieG hb hlt h) H2.out HB1.out) F4.out HG.out fs).mono ?_; rintro e w2 ⟨rfl, hb2⟩; rw [hc]; generalize segOr gs xp = sg; obtain ⟨sp, sn, sd, sx, sy⟩ := sg; simp only [cellsG]; have HB2 := hideC (HB1.out.trans (hb2.mono HB1.out.size)); have BX2 := hideC (B.below BX1.out hb2 (B.isLt BX1.out)); clear hb2)
        go_ret
        exact ⟨ret_bool HR.out.symm, HB2.out.alloc HB2.out.size _⟩
      · go_wp2_with (go_at_call 87; refine (segAt_any gs ag cg xp _ (M.HasBy.below (lie := M.LieG) (fun hb hlt h => M.lieG hb hlt h) H2.out HB1.out) F4.out HG.out fs).mono ?_; rintro e w2 ⟨rfl, hb2⟩; rw [hc]; generalize segOr gs xp = sg; obtain ⟨sp, sn, sd, sx, sy⟩ := sg; simp only [cellsG]; have HB2 := hideC (HB1.out.trans (hb2.mono HB1.out.size)); have BX2 := hideC (B.below BX1.out hb2 (B.isLt BX1.out)); clear hb2)
        go_roundw
        case rel => exact ⟨k + 1, by omega, by go_num, fun j h => if e : j = k then by rw [e, ← HXX.out]; exact hc else HA.out j (by omega), B.alloc BX2.out _, HB2.out.alloc HB2.out.size _⟩
        case measure => simp [intOf]; omega
    · obtain rfl : k = ys.length := by omega
      clear hb
      have HR := hideC (M.all_true (fun y => M.placedB gs y.pos) M.sy0 ys (fun j hj => HA.out j hj))
      go_wp2
      go_ret
      exact ⟨ret_bool HR.out.symm, HB.out⟩
end Go.Proofs.Yteieplodndfbhaa.W
