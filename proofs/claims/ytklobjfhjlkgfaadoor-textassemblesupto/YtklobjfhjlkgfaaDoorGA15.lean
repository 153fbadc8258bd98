import Derived.Test.YtklobjfhjlkgfaaDoorGA14
import Derived.Deep.CutBlock
import Derived.Deep.DeepCutAuto
import Derived.Deep.RegionLaw
import Derived.StillTailTactics
import Derived.Test.YtklobjfhjlkgfaaDoorGA13
import Derived.Test.YtklobjfhjlkgfaaDoorGA01
/- The reference's guess: the instruction that words may show. -/
namespace Go.Proofs.YtklobjfhjlkgfaaDoor.TW
open Go.RowKit
set_option linter.unusedVariables false
set_option maxRecDepth 100000
set_option linter.unusedSimpArgs false

def numRow (g : Nat → Int) : Array Value := #[.int .i64 (g 0), .int .i64 (g 1), .int .i64 (g 2), .int .i64 (g 3), .int .i64 (g 4), .int .i64 (g 5), .int .i64 (g 6), .int .i64 (g 7)]
theorem numRow_set (g : Nat → Int) (j : Nat) (h : j < 8) (v : Int) : (numRow g).setIfInBounds j (.int .i64 v) = numRow (fun k => if k = j then v else g k) := by
  match j, h with
  | 0, _ => rfl
  | 1, _ => rfl
  | 2, _ => rfl
  | 3, _ => rfl
  | 4, _ => rfl
  | 5, _ => rfl
  | 6, _ => rfl
  | 7, _ => rfl
theorem numRow_get (g : Nat → Int) (j : Nat) (h : j < 8) : (numRow g)[j]? = some (.int .i64 (g j)) := by
  match j, h with
  | 0, _ => rfl
  | 1, _ => rfl
  | 2, _ => rfl
  | 3, _ => rfl
  | 4, _ => rfl
  | 5, _ => rfl
  | 6, _ => rfl
  | 7, _ => rfl
/-- the numbers that the words say, those up to the k-th -/
def numTo (ws : List ByteArray) (k : Nat) : Nat → Int := fun j => if 1 ≤ j ∧ j < k then (saidN (ws.getD j ByteArray.empty)).1 else 0
theorem numTo_succ (ws : List ByteArray) (k : Nat) (h : 1 ≤ k) : numRow (fun j => if j = k then (saidN (ws.getD k ByteArray.empty)).1 else numTo ws k j) = numRow (numTo ws (k + 1)) := by
  have : (fun j => if j = k then (saidN (ws.getD k ByteArray.empty)).1 else numTo ws k j) = numTo ws (k + 1) := by
    funext j
    unfold numTo
    by_cases e : j = k
    · subst e
      rw [if_pos rfl, if_pos ⟨h, by omega⟩]
    · rw [if_neg e]
      by_cases c : 1 ≤ j ∧ j < k
      · rw [if_pos c, if_pos ⟨c.1, by omega⟩]
      · rw [if_neg c, if_neg (by omega)]
  rw [this]
/-- what guess answers -/
def rg2 (op : Int) (g : Nat → Int) : PM.Ins :=
  if op = 0 then ⟨g 1, g 2, g 3, g 4, g 5⟩
  else if op = 1 ∨ op = 11 then ⟨op, g 1, 0, 0, g 2⟩
  else if op = 8 ∨ op = 13 ∨ op = 14 then ⟨op, g 1, g 2, 0, g 3⟩
  else if op = 9 ∨ op = 10 then ⟨op, g 1, g 2, g 4, g 3⟩
  else if op = 12 then ⟨op, 0, 0, 0, g 1⟩
  else if op = 15 then ⟨op, g 1, 0, 0, 0⟩
  else ⟨op, g 1, g 2, g 3, 0⟩
def rgOf (op k : Int) (g : Nat → Int) : PM.Ins := if 0 < k then ⟨16, 0, 0, 0, k⟩ else rg2 op g
def rgN (ws : List ByteArray) : PM.Ins := rgOf (placeN (ws.getD 0 ByteArray.empty) opL) (placeN (ws.getD 0 ByteArray.empty) callL) (numTo ws ws.length)
theorem strC_get (l : List ByteArray) (k : Nat) (h : k < l.length) : (strC l)[k]? = some (.string (l.getD k (str []))) := by
  unfold strC
  rw [List.getElem?_toArray, List.getElem?_map, List.getElem?_eq_getElem h, List.getD_eq_getElem?_getD, List.getElem?_eq_getElem h]
  rfl
theorem placeC (wd : ByteArray) (w : World) (b : Nat) (hb : w.heap[b]? = some (.cells (strC callL) 9 (0, 0))) : Calls Tryd.prog 50 #[.string wd, .slice (some ⟨b, 0, none⟩) 7 7] w fun e w' => e = .returned (.int .i64 (placeN wd callL)) ∧ w = w' :=
  place_any wd callL b 0 7 w (fun k hk => by rw [Nat.zero_add]; exact B.cell hb k (strC_get callL k hk)) (by decide)
theorem placeO (wd : ByteArray) (w : World) (b : Nat) (hb : w.heap[b]? = some (.cells (strC opL) 9 (0, 0))) : Calls Tryd.prog 50 #[.string wd, .slice (some ⟨b, 0, none⟩) 17 17] w fun e w' => e = .returned (.int .i64 (placeN wd opL)) ∧ w = w' :=
  place_any wd opL b 0 17 w (fun k hk => by rw [Nat.zero_add]; exact B.cell hb k (strC_get opL k hk)) (by decide)
set_option maxHeartbeats 20000000 in
theorem rguess_any (ws : List ByteArray) (wb cap : Nat) (w : World) (hn : 1 ≤ ws.length) (hn8 : ws.length ≤ 8) (hb : wb < w.heap.size) (hc : ∀ j, j < ws.length → w.cell? ⟨wb, j, none⟩ = some (.string (ws.getD j ByteArray.empty))) (hz : ∀ j, (ws.getD j ByteArray.empty).size ≤ 140737488351232) :
    Calls Tryd.prog 29 #[.slice (some ⟨wb, 0, none⟩) ws.length cap] w fun e w' => e = .returned (.agg (rgN ws).cells) ∧ Below w.heap.size w w' := by
  have HC := hideC hc
  have HZ := hideC hz
  have HNS := hideC (numTo_succ ws)
  have HR : Hid (rgN ws = rgOf (placeN (ws.getD 0 ByteArray.empty) opL) (placeN (ws.getD 0 ByteArray.empty) callL) (numTo ws ws.length)) := rfl
  obtain ⟨R, hR⟩ : ∃ R, R = rgN ws := ⟨_, rfl⟩
  rw [← hR] at HR ⊢
  obtain ⟨n, hnn⟩ : ∃ n, n = ws.length := ⟨_, rfl⟩
  rw [← hnn] at HR HC hn hn8 ⊢
  clear hc hz hR hnn
  have hmk : ∀ V : World, (Instr.makeSlice 67 (.int .i64 8) (.int .i64 8)).run Tryd.prog V = .ok (.slice (some ⟨V.heap.size, 0, none⟩) 8 8) (V.alloc (.cells (numRow (fun _ => 0)) 3)) := fun V => by kernel_rfl
  have HB0 := hideC (((Below.refl w.heap.size w).alloc (Nat.le_refl _) (.cells #[.int .i64 0, .int .i64 0, .int .i64 0, .int .i64 0, .int .i64 0] 23)).alloc (by simp) (.cells (numRow (fun _ => 0)) 3))
  have X0 := hideC (B.alloc (B.new w #[.int .i64 0, .int .i64 0, .int .i64 0, .int .i64 0, .int .i64 0] 23) (.cells (numRow (fun _ => 0)) 3))
  have Y0 : Hid (((w.alloc (.cells #[.int .i64 0, .int .i64 0, .int .i64 0, .int .i64 0, .int .i64 0] 23)).alloc (.cells (numRow (numTo ws 1)) 3)).heap[w.heap.size + 1]? = some (.cells (numRow (numTo ws 1)) 3 (0, 0))) := by
    have := B.new (w.alloc (.cells #[.int .i64 0, .int .i64 0, .int .i64 0, .int .i64 0, .int .i64 0] 23)) (numRow (numTo ws 1)) 3
    rw [World.size_alloc] at this
    exact this
  have hz1 : numRow (numTo ws 1) = numRow (fun _ => 0) := by
    have : numTo ws 1 = fun _ => 0 := by
      funext j
      unfold numTo
      rw [if_neg (by omega)]
    rw [this]
  rw [hz1] at Y0
  have HZ1 := hideC hz1
  clear hz1
  go_enter Tryd.func29, Tryd.ntmps29
  go_wp2
  clear hmk
  go_loopw [4] (fun iv wr => ∃ k : Nat, 1 ≤ k ∧ k ≤ n ∧ iv = .int .i64 (k : Int) ∧ wr.heap[w.heap.size]? = some (.cells #[.int .i64 0, .int .i64 0, .int .i64 0, .int .i64 0, .int .i64 0] 23 (0, 0)) ∧ wr.heap[w.heap.size + 1]? = some (.cells (numRow (numTo ws k)) 3 (0, 0)) ∧ Below w.heap.size w wr) (fun iv _ => n - (intOf iv).toNat)
  case atStart => exact ⟨1, by omega, by omega, rfl, X0.out, by rw [HZ1.out]; exact Y0.out, HB0.out⟩
  case round =>
    obtain ⟨k, hk1, hkn, rfl, hx, hy, hbb⟩ := hrel
    have HX := hideC hx
    have HY := hideC hy
    have HBB := hideC hbb
    clear hx hy hbb X0 Y0 HB0 HZ1
    by_cases hlt : k < n
    · have hki : (k : Int) < (n : Int) := by omega
      have hk8 : (k : Int) < 8 := by omega
      have a0 : wr.cell? ⟨wb, k, none⟩ = some (.string (ws.getD k ByteArray.empty)) := (HBB.out.cell (p := ⟨wb, k, none⟩) hb).trans (HC.out k hlt)
      have HSD := hideC (fun V => said_any (ws.getD k ByteArray.empty) V (HZ.out k))
      have HST := hideC (HNS.out k hk1)
      obtain ⟨wd, hwd⟩ : ∃ wd, wd = ws.getD k ByteArray.empty := ⟨_, rfl⟩
      rw [← hwd] at a0 HSD HST
      clear hwd
      obtain ⟨sv, hsv⟩ : ∃ sv, sv = (saidN wd).1 := ⟨_, rfl⟩
      obtain ⟨sb, hsb⟩ : ∃ sb, sb = (saidN wd).2 := ⟨_, rfl⟩
      rw [← hsv, ← hsb] at HSD
      rw [← hsv] at HST
      clear hsv hsb
      go_wp2_with (go_at_call 49; refine (HSD.out _).mono ?_; rintro e w2 ⟨rfl, hb2⟩; have X2 := hideC (B.below HX.out hb2 (B.isLt HX.out)); have Y2 := hideC (B.below HY.out hb2 (B.isLt HY.out)); have HB2 := hideC (add_below HBB.out hb2); clear hb2; have y0 : w2.cell? ⟨w.heap.size + 1, k, none⟩ = some (.int .i64 (numTo ws k k)) := B.cell Y2.out k (numRow_get _ k (by omega)); have y1 : w2.frozen? ⟨w.heap.size + 1, k, none⟩ = false := B.free Y2.out k)
      go_roundw
      case rel => exact ⟨k + 1, by omega, by omega, by go_num, B.other X2.out _ _ _ (by omega), by rw [← HST.out, ← numRow_set _ _ (by omega)]; exact B.set Y2.out k _, HB2.out.setCell (by show w.heap.size ≤ w.heap.size + 1; omega) _⟩
      case measure => simp [intOf]; omega
    · obtain rfl : k = n := by omega
      have hki : ¬ (k : Int) < (k : Int) := by omega
      have hk0 : 0 < k := by omega
      have hk0i : (0 : Int) < (k : Int) := by omega
      have HC0 : Hid (∀ V, Below w.heap.size w V → V.cell? ⟨wb, 0, none⟩ = some (.string (ws.getD 0 ByteArray.empty))) := fun V hV => (hV.cell (p := ⟨wb, 0, none⟩) hb).trans (HC.out 0 hk0)
      obtain ⟨W0, hW0⟩ : ∃ W0, W0 = ws.getD 0 ByteArray.empty := ⟨_, rfl⟩
      rw [← hW0] at HC0 HR
      clear hW0
      obtain ⟨g, hg⟩ : ∃ g, g = numTo ws k := ⟨_, rfl⟩
      rw [← hg] at HY HR
      clear hg hkn hlt hki HNS HC HZ
      go_wp2_with fail
      have c0 := HC0.out wr HBB.out
      have hwb : wb < wr.heap.size := Nat.lt_of_lt_of_le hb HBB.out.size
      have NW : Hid ((wr.alloc (.cells (strC callL) 9)).drew.heap[wr.heap.size]? = some (.cells (strC callL) 9 (0, 0))) := B.new wr (strC callL) 9
      have NB := hideC ((Below.refl wr.heap.size wr).alloc (Nat.le_refl _) (.cells (strC callL) 9)).drew
      have HPC := hideC (placeC W0)
      have HPO := hideC (placeO W0)
      obtain ⟨pc, hpc⟩ : ∃ pc, pc = placeN W0 callL := ⟨_, rfl⟩
      obtain ⟨po, hpo⟩ : ∃ po, po = placeN W0 opL := ⟨_, rfl⟩
      rw [← hpc] at HPC HR
      rw [← hpo] at HPO HR
      clear hpc hpo
      go_cut [5] (fun x5 wx => x5 = .int .i64 pc ∧ Below wr.heap.size wr wx)
      case first =>
        go_region_law (first
          | (go_simp; go_at_call 27; refine (callNames_any _).mono ?_; rintro e w4 ⟨rfl, rfl⟩; go_simp)
          | (go_simp; go_at_call 50; refine (HPC.out _ wr.heap.size NW.out).mono ?_; rintro e w5 ⟨rfl, rfl⟩; go_simp))
        all_goals
          go_wp2_with fail
          go_meet
          case rel => exact ⟨rfl, NB.out⟩
      case rest =>
        obtain ⟨rfl, hcb⟩ := hcut
        have X1 := hideC (B.below HX.out hcb (B.isLt HX.out))
        have Y1 := hideC (B.below HY.out hcb (B.isLt HY.out))
        have HB1 := hideC (add_below HBB.out hcb)
        clear hcb NW NB c0 HPC HX HY HBB
        -- THE END
        by_cases hp : 0 < pc
        · have HRR : Hid (R = ⟨16, 0, 0, 0, pc⟩) := by show _ = _; rw [HR.out]; unfold rgOf; rw [if_pos hp]
          have x0 : wc.cell? ⟨w.heap.size, 0, none⟩ = some (.int .i64 0) := B.cell X1.out 0 rfl
          have x1 : wc.cell? ⟨w.heap.size, 1, none⟩ = some (.int .i64 0) := B.cell X1.out 1 rfl
          have x2 : wc.cell? ⟨w.heap.size, 2, none⟩ = some (.int .i64 0) := B.cell X1.out 2 rfl
          have x3 : wc.cell? ⟨w.heap.size, 3, none⟩ = some (.int .i64 0) := B.cell X1.out 3 rfl
          have x4 : wc.cell? ⟨w.heap.size, 4, none⟩ = some (.int .i64 0) := B.cell X1.out 4 rfl
          have f0 : ∀ k, wc.frozen? ⟨w.heap.size, k, none⟩ = false := fun k => B.free X1.out k
          go_wp2
          exact bodyPost_ret (v := .agg #[.int .i64 16, .int .i64 0, .int .i64 0, .int .i64 0, .int .i64 pc]) (by simp [results, Tryd.results29, go_sem, x0, x1, x2, x3, x4]) rfl ⟨by rw [HRR.out]; rfl, PW.set5_below HB1.out (Nat.le_refl _) _ _ _ _ _⟩
        · have hp2 : ¬ (0 : Int) < pc := hp
          have HR2 : Hid (R = rg2 po g) := by show _ = _; rw [HR.out]; unfold rgOf; rw [if_neg hp]
          clear HR
          have c0 := HC0.out wc HB1.out
          have hwc : wb < wc.heap.size := Nat.lt_of_lt_of_le hb HB1.out.size
          have NW : Hid ((wc.alloc (.cells (strC opL) 9)).drew.heap[wc.heap.size]? = some (.cells (strC opL) 9 (0, 0))) := B.new wc (strC opL) 9
          have NB := hideC ((Below.refl wc.heap.size wc).alloc (Nat.le_refl _) (.cells (strC opL) 9)).drew
          clear hp
          obtain ⟨wd, hwd⟩ : ∃ wd, wd = wc := ⟨_, rfl⟩
          rw [← hwd] at c0 hwc NW NB X1 Y1 HB1 ⊢
          clear hwd
          go_wp2_with fail
          clear hp2
          go_cut [6] (fun x6 wx => x6 = .int .i64 po ∧ Below wd.heap.size wd wx)
          case first =>
            go_region_law (first
              | (go_simp; go_at_call 26; refine (opNames_any _).mono ?_; rintro e w4 ⟨rfl, rfl⟩; go_simp)
              | (go_simp; go_at_call 50; refine (HPO.out _ wd.heap.size NW.out).mono ?_; rintro e w5 ⟨rfl, rfl⟩; go_simp))
            all_goals
              go_wp2_with fail
              go_meet
              case rel => exact ⟨rfl, NB.out⟩
          case rest =>
            obtain ⟨rfl, hcb⟩ := hcut
            have X2 := hideC (B.below X1.out hcb (B.isLt X1.out))
            have Y2 := hideC (B.below Y1.out hcb (B.isLt Y1.out))
            have HB2 := hideC (add_below HB1.out hcb)
            clear hcb NW NB c0 HPO X1 Y1 HB1 hwc
            have x0 : wc.cell? ⟨w.heap.size, 0, none⟩ = some (.int .i64 0) := B.cell X2.out 0 rfl
            have x1 : wc.cell? ⟨w.heap.size, 1, none⟩ = some (.int .i64 0) := B.cell X2.out 1 rfl
            have x2 : wc.cell? ⟨w.heap.size, 2, none⟩ = some (.int .i64 0) := B.cell X2.out 2 rfl
            have x3 : wc.cell? ⟨w.heap.size, 3, none⟩ = some (.int .i64 0) := B.cell X2.out 3 rfl
            have x4 : wc.cell? ⟨w.heap.size, 4, none⟩ = some (.int .i64 0) := B.cell X2.out 4 rfl
            have f0 : ∀ k, wc.frozen? ⟨w.heap.size, k, none⟩ = false := fun k => B.free X2.out k
            have n1 : wc.cell? ⟨w.heap.size + 1, 1, none⟩ = some (.int .i64 (g 1)) := B.cell Y2.out 1 rfl
            have n2 : wc.cell? ⟨w.heap.size + 1, 2, none⟩ = some (.int .i64 (g 2)) := B.cell Y2.out 2 rfl
            have n3 : wc.cell? ⟨w.heap.size + 1, 3, none⟩ = some (.int .i64 (g 3)) := B.cell Y2.out 3 rfl
            have n4 : wc.cell? ⟨w.heap.size + 1, 4, none⟩ = some (.int .i64 (g 4)) := B.cell Y2.out 4 rfl
            have n5 : wc.cell? ⟨w.heap.size + 1, 5, none⟩ = some (.int .i64 (g 5)) := B.cell Y2.out 5 rfl
            have hne : ¬ w.heap.size = w.heap.size + 1 := by omega
            by_cases h0 : po = 0
            · subst h0
              have HRR : Hid (R = ⟨g 1, g 2, g 3, g 4, g 5⟩) := HR2.out
              clear HR2
              go_wp2_with fail
              refine wp_region_still_tail 16 (by kernel_rfl) (by kernel_rfl) ?_
              simp only [List.take_succ_cons, List.take_zero, List.drop_succ_cons, List.drop_zero]
              show wpStill _ _ wc.drew _ _ _
              repeat still_step
              refine wpStill_nil ?_
              show wpList _ _ _ _ _ wc.drew
              go_wp2
              exact bodyPost_ret (v := .agg #[.int .i64 (g 1), .int .i64 (g 2), .int .i64 (g 3), .int .i64 (g 4), .int .i64 (g 5)]) (by simp [results, Tryd.results29, go_sem, x0, x1, x2, x3, x4]) rfl ⟨by rw [HRR.out]; rfl, (PW.set5_below HB2.out (Nat.le_refl _) _ _ _ _ _).drew⟩
            · have e0 : (po == 0) = false := beq_eq_false_iff_ne.2 h0
              by_cases h1 : po = 1
              · subst h1
                have HRR : Hid (R = ⟨1, g 1, 0, 0, g 2⟩) := HR2.out
                clear HR2
                go_wp2_with fail
                refine wp_region_still_tail 8 (by kernel_rfl) (by kernel_rfl) ?_
                simp only [List.take_succ_cons, List.take_zero, List.drop_succ_cons, List.drop_zero]
                show wpStill _ _ wc.drew _ _ _
                repeat still_step
                refine wpStill_nil ?_
                show wpList _ _ _ _ _ wc.drew
                go_wp2
                exact bodyPost_ret (v := .agg #[.int .i64 1, .int .i64 (g 1), .int .i64 0, .int .i64 0, .int .i64 (g 2)]) (by simp [results, Tryd.results29, go_sem, x0, x1, x2, x3, x4]) rfl ⟨by rw [HRR.out]; rfl, (PW.set5_below HB2.out (Nat.le_refl _) _ _ _ _ _).drew⟩
              · have e1 : (po == 1) = false := beq_eq_false_iff_ne.2 h1
                by_cases h11 : po = 11
                · subst h11
                  have HRR : Hid (R = ⟨11, g 1, 0, 0, g 2⟩) := HR2.out
                  clear HR2
                  go_wp2_with fail
                  refine wp_region_still_tail 8 (by kernel_rfl) (by kernel_rfl) ?_
                  simp only [List.take_succ_cons, List.take_zero, List.drop_succ_cons, List.drop_zero]
                  show wpStill _ _ wc.drew _ _ _
                  repeat still_step
                  refine wpStill_nil ?_
                  show wpList _ _ _ _ _ wc.drew
                  go_wp2
                  exact bodyPost_ret (v := .agg #[.int .i64 11, .int .i64 (g 1), .int .i64 0, .int .i64 0, .int .i64 (g 2)]) (by simp [results, Tryd.results29, go_sem, x0, x1, x2, x3, x4]) rfl ⟨by rw [HRR.out]; rfl, (PW.set5_below HB2.out (Nat.le_refl _) _ _ _ _ _).drew⟩
                · have e11 : (po == 11) = false := beq_eq_false_iff_ne.2 h11
                  by_cases h8 : po = 8
                  · subst h8
                    have HRR : Hid (R = ⟨8, g 1, g 2, 0, g 3⟩) := HR2.out
                    clear HR2
                    go_wp2_with fail
                    refine wp_region_still_tail 11 (by kernel_rfl) (by kernel_rfl) ?_
                    simp only [List.take_succ_cons, List.take_zero, List.drop_succ_cons, List.drop_zero]
                    show wpStill _ _ wc.drew _ _ _
                    repeat still_step
                    refine wpStill_nil ?_
                    show wpList _ _ _ _ _ wc.drew
                    go_wp2
                    exact bodyPost_ret (v := .agg #[.int .i64 8, .int .i64 (g 1), .int .i64 (g 2), .int .i64 0, .int .i64 (g 3)]) (by simp [results, Tryd.results29, go_sem, x0, x1, x2, x3, x4]) rfl ⟨by rw [HRR.out]; rfl, (PW.set5_below HB2.out (Nat.le_refl _) _ _ _ _ _).drew⟩
                  · have e8 : (po == 8) = false := beq_eq_false_iff_ne.2 h8
                    by_cases h13 : po = 13
                    · subst h13
                      have HRR : Hid (R = ⟨13, g 1, g 2, 0, g 3⟩) := HR2.out
                      clear HR2
                      go_wp2_with fail
                      refine wp_region_still_tail 11 (by kernel_rfl) (by kernel_rfl) ?_
                      simp only [List.take_succ_cons, List.take_zero, List.drop_succ_cons, List.drop_zero]
                      show wpStill _ _ wc.drew _ _ _
                      repeat still_step
                      refine wpStill_nil ?_
                      show wpList _ _ _ _ _ wc.drew
                      go_wp2
                      exact bodyPost_ret (v := .agg #[.int .i64 13, .int .i64 (g 1), .int .i64 (g 2), .int .i64 0, .int .i64 (g 3)]) (by simp [results, Tryd.results29, go_sem, x0, x1, x2, x3, x4]) rfl ⟨by rw [HRR.out]; rfl, (PW.set5_below HB2.out (Nat.le_refl _) _ _ _ _ _).drew⟩
                    · have e13 : (po == 13) = false := beq_eq_false_iff_ne.2 h13
                      by_cases h14 : po = 14
                      · subst h14
                        have HRR : Hid (R = ⟨14, g 1, g 2, 0, g 3⟩) := HR2.out
                        clear HR2
                        go_wp2_with fail
                        refine wp_region_still_tail 11 (by kernel_rfl) (by kernel_rfl) ?_
                        simp only [List.take_succ_cons, List.take_zero, List.drop_succ_cons, List.drop_zero]
                        show wpStill _ _ wc.drew _ _ _
                        repeat still_step
                        refine wpStill_nil ?_
                        show wpList _ _ _ _ _ wc.drew
                        go_wp2
                        exact bodyPost_ret (v := .agg #[.int .i64 14, .int .i64 (g 1), .int .i64 (g 2), .int .i64 0, .int .i64 (g 3)]) (by simp [results, Tryd.results29, go_sem, x0, x1, x2, x3, x4]) rfl ⟨by rw [HRR.out]; rfl, (PW.set5_below HB2.out (Nat.le_refl _) _ _ _ _ _).drew⟩
                      · have e14 : (po == 14) = false := beq_eq_false_iff_ne.2 h14
                        by_cases h9 : po = 9
                        · subst h9
                          have HRR : Hid (R = ⟨9, g 1, g 2, g 4, g 3⟩) := HR2.out
                          clear HR2
                          go_wp2_with fail
                          refine wp_region_still_tail 14 (by kernel_rfl) (by kernel_rfl) ?_
                          simp only [List.take_succ_cons, List.take_zero, List.drop_succ_cons, List.drop_zero]
                          show wpStill _ _ wc.drew _ _ _
                          repeat still_step
                          refine wpStill_nil ?_
                          show wpList _ _ _ _ _ wc.drew
                          go_wp2
                          exact bodyPost_ret (v := .agg #[.int .i64 9, .int .i64 (g 1), .int .i64 (g 2), .int .i64 (g 4), .int .i64 (g 3)]) (by simp [results, Tryd.results29, go_sem, x0, x1, x2, x3, x4]) rfl ⟨by rw [HRR.out]; rfl, (PW.set5_below HB2.out (Nat.le_refl _) _ _ _ _ _).drew⟩
                        · have e9 : (po == 9) = false := beq_eq_false_iff_ne.2 h9
                          by_cases h10 : po = 10
                          · subst h10
                            have HRR : Hid (R = ⟨10, g 1, g 2, g 4, g 3⟩) := HR2.out
                            clear HR2
                            go_wp2_with fail
                            refine wp_region_still_tail 14 (by kernel_rfl) (by kernel_rfl) ?_
                            simp only [List.take_succ_cons, List.take_zero, List.drop_succ_cons, List.drop_zero]
                            show wpStill _ _ wc.drew _ _ _
                            repeat still_step
                            refine wpStill_nil ?_
                            show wpList _ _ _ _ _ wc.drew
                            go_wp2
                            exact bodyPost_ret (v := .agg #[.int .i64 10, .int .i64 (g 1), .int .i64 (g 2), .int .i64 (g 4), .int .i64 (g 3)]) (by simp [results, Tryd.results29, go_sem, x0, x1, x2, x3, x4]) rfl ⟨by rw [HRR.out]; rfl, (PW.set5_below HB2.out (Nat.le_refl _) _ _ _ _ _).drew⟩
                          · have e10 : (po == 10) = false := beq_eq_false_iff_ne.2 h10
                            by_cases h12 : po = 12
                            · subst h12
                              have HRR : Hid (R = ⟨12, 0, 0, 0, g 1⟩) := HR2.out
                              clear HR2
                              go_wp2_with fail
                              exact bodyPost_ret (v := .agg #[.int .i64 12, .int .i64 0, .int .i64 0, .int .i64 0, .int .i64 (g 1)]) (by simp [results, Tryd.results29, go_sem, x0, x1, x2, x3, x4]) rfl ⟨by rw [HRR.out]; rfl, PW.set5_below HB2.out (Nat.le_refl _) _ _ _ _ _⟩
                            · have e12 : (po == 12) = false := beq_eq_false_iff_ne.2 h12
                              by_cases h15 : po = 15
                              · subst h15
                                have HRR : Hid (R = ⟨15, g 1, 0, 0, 0⟩) := HR2.out
                                clear HR2
                                go_wp2_with fail
                                exact bodyPost_ret (v := .agg #[.int .i64 15, .int .i64 (g 1), .int .i64 0, .int .i64 0, .int .i64 0]) (by simp [results, Tryd.results29, go_sem, x0, x1, x2, x3, x4]) rfl ⟨by rw [HRR.out]; rfl, PW.set5_below HB2.out (Nat.le_refl _) _ _ _ _ _⟩
                              · have e15 : (po == 15) = false := beq_eq_false_iff_ne.2 h15
                                have HRR : Hid (R = ⟨po, g 1, g 2, g 3, 0⟩) := by show _ = _; rw [HR2.out]; unfold rg2; rw [if_neg h0, if_neg (by omega), if_neg (by omega), if_neg (by omega), if_neg h12, if_neg h15]
                                clear HR2 h0 h1 h11 h8 h13 h14 h9 h10 h12 h15
                                go_wp2_with fail
                                refine wp_region_still_tail 11 (by kernel_rfl) (by kernel_rfl) ?_
                                simp only [List.take_succ_cons, List.take_zero, List.drop_succ_cons, List.drop_zero]
                                show wpStill _ _ wc.drew _ _ _
                                repeat still_step
                                refine wpStill_nil ?_
                                show wpList _ _ _ _ _ wc.drew
                                go_wp2
                                exact bodyPost_ret (v := .agg #[.int .i64 po, .int .i64 (g 1), .int .i64 (g 2), .int .i64 (g 3), .int .i64 0]) (by simp [results, Tryd.results29, go_sem, x0, x1, x2, x3, x4]) rfl ⟨by rw [HRR.out]; rfl, (PW.set5_below HB2.out (Nat.le_refl _) _ _ _ _ _).drew⟩
end Go.Proofs.YtklobjfhjlkgfaaDoor.TW
/- The reference's TextInstr: the instruction that is shown so. -/
namespace Go.Proofs.YtklobjfhjlkgfaaDoor.TW
open Go.RowKit
set_option linter.unusedVariables false
set_option maxRecDepth 100000
set_option linter.unusedSimpArgs false

theorem cuts_grow (s : ByteArray) : 1 ≤ (cutsN s).length := by
  unfold cutsN
  by_cases h : (cutsTo s s.size).1.length < 8
  · rw [cuts_yes h (.inl rfl), List.length_append]
    show 1 ≤ _ + 1
    omega
  · rw [cuts_full h (s.size + 1) (by omega)]
    omega
theorem cuts_size (s : ByteArray) : ∀ k, ∀ x ∈ (cutsTo s k).1, x.size ≤ s.size
  | 0, x, h => by cases h
  | k + 1, x, h => by
    unfold cutsTo at h
    split at h
    · rcases List.mem_append.1 h with h | h
      · exact cuts_size s k x h
      · obtain rfl := List.mem_singleton.1 h
        rw [ByteArray.size_extract]
        omega
    · exact cuts_size s k x h
/-- what TextInstr guesses -/
def rguess (s : ByteArray) : PM.Ins := rgN (cutsN s)
/-- what TextInstr answers -/
def tiN (s : ByteArray) : Option PM.Ins := if (rguess s).fits ∧ textN (rguess s) = s then some (rguess s) else none
theorem outT_cases (s : ByteArray) : (∃ i, tiN s = some i ∧ i = rguess s ∧ i.fits ∧ textN i = s) ∨ (tiN s = none ∧ ¬ ((rguess s).fits ∧ textN (rguess s) = s)) := by
  unfold tiN
  by_cases h : (rguess s).fits ∧ textN (rguess s) = s
  · exact .inl ⟨_, if_pos h, rfl, h.1, h.2⟩
  · exact .inr ⟨if_neg h, h⟩
end Go.Proofs.YtklobjfhjlkgfaaDoor.TW
