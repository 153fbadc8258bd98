import Derived.Test.YtafdgjpmhofinaaS9
namespace Go.Proofs.Ytafdgjpmhofinaa.W
open Go.RowKit
set_option linter.unusedVariables false

set_option maxRecDepth 100000 in
set_option maxHeartbeats 4000000 in
theorem same_yes (i : M.Im) (a b : M.At) (w : World) (ha : M.HasIm w a i) (hb : M.HasIm w b i) (hf : M.Fit i) : Calls Try.prog 13 #[.agg (M.cellsI a i), .agg (M.cellsI b i)] w fun e w' => e = .returned (.bool true) ∧ Below w.heap.size w w' := by
  obtain ⟨an, cn, ag, cg, ay, cy, ar, cr⟩ := a
  obtain ⟨an', cn', ag', cg', ay', cy', ar', cr'⟩ := b
  obtain ⟨nm, ns, gs, ys, rs, en⟩ := i
  have HI := hideC ha
  have HJ := hideC hb
  obtain ⟨f1, f2, f3, f4, f5, f6, f7, f8, f9, f10⟩ := hf
  simp only at f2 f4 f6 f8
  unfold M.Short at f2 f4 f6 f8
  clear ha hb f1 f3 f5 f7 f9 f10
  simp only [M.cellsI]
  have HB0 := hideC (((Below.refl w.heap.size w).alloc (Nat.le_refl _) (.cells #[.string nm, .slice an ns.length cn, .slice ag gs.length cg, .slice ay ys.length cy, .slice ar rs.length cr, .int .i64 en] 27)).alloc (by simp) (.cells #[.string nm, .slice an' ns.length cn', .slice ag' gs.length cg', .slice ay' ys.length cy', .slice ar' rs.length cr', .int .i64 en] 27))
  have BX := hideC (B.alloc (B.new w #[.string nm, .slice an ns.length cn, .slice ag gs.length cg, .slice ay ys.length cy, .slice ar rs.length cr, .int .i64 en] 27) (.cells #[.string nm, .slice an' ns.length cn', .slice ag' gs.length cg', .slice ay' ys.length cy', .slice ar' rs.length cr', .int .i64 en] 27))
  have BY : Hid (((w.alloc (.cells #[.string nm, .slice an ns.length cn, .slice ag gs.length cg, .slice ay ys.length cy, .slice ar rs.length cr, .int .i64 en] 27)).alloc (.cells #[.string nm, .slice an' ns.length cn', .slice ag' gs.length cg', .slice ay' ys.length cy', .slice ar' rs.length cr', .int .i64 en] 27)).heap[w.heap.size + 1]? = some (.cells #[.string nm, .slice an' ns.length cn', .slice ag' gs.length cg', .slice ay' ys.length cy', .slice ar' rs.length cr', .int .i64 en] 27 (0, 0))) := by
    show _ = _
    have h := B.new (w.alloc (.cells #[.string nm, .slice an ns.length cn, .slice ag gs.length cg, .slice ay ys.length cy, .slice ar rs.length cr, .int .i64 en] 27)) #[.string nm, .slice an' ns.length cn', .slice ag' gs.length cg', .slice ay' ys.length cy', .slice ar' rs.length cr', .int .i64 en] 27
    rw [show (w.alloc (.cells #[.string nm, .slice an ns.length cn, .slice ag gs.length cg, .slice ay ys.length cy, .slice ar rs.length cr, .int .i64 en] 27)).heap.size = w.heap.size + 1 by simp] at h
    exact h
  obtain ⟨X, hX⟩ : ∃ X : Array Value, X = #[.string nm, .slice an ns.length cn, .slice ag gs.length cg, .slice ay ys.length cy, .slice ar rs.length cr, .int .i64 en] := ⟨_, rfl⟩
  obtain ⟨Y, hY⟩ : ∃ Y : Array Value, Y = #[.string nm, .slice an' ns.length cn', .slice ag' gs.length cg', .slice ay' ys.length cy', .slice ar' rs.length cr', .int .i64 en] := ⟨_, rfl⟩
  have HX := hideC hX
  have HY := hideC hY
  obtain ⟨W, hW⟩ : ∃ W, W = (w.alloc (.cells #[.string nm, .slice an ns.length cn, .slice ag gs.length cg, .slice ay ys.length cy, .slice ar rs.length cr, .int .i64 en] 27)).alloc (.cells #[.string nm, .slice an' ns.length cn', .slice ag' gs.length cg', .slice ay' ys.length cy', .slice ar' rs.length cr', .int .i64 en] 27) := ⟨_, rfl⟩
  have HW := hideC hW
  rw [← hW] at BX BY HB0
  rw [← hX] at BX
  rw [← hY] at BY
  clear hX hY hW
  go_enter Try.func13, Try.ntmps13
  go_wp2
  go_loopw [5] (fun i wr => ∃ k : Nat, k ≤ ns.length ∧ i = .int .i64 k ∧ wr.heap[w.heap.size]? = some (.cells X 27 (0, 0)) ∧ wr.heap[w.heap.size + 1]? = some (.cells Y 27 (0, 0)) ∧ Below w.heap.size w wr) (fun i _ => ns.length - (intOf i).toNat)
  case atStart => exact ⟨0, by omega, rfl, by rw [← HW.out]; exact BX.out, by rw [← HW.out]; exact BY.out, by rw [← HW.out]; exact HB0.out⟩
  case round =>
    clear BX BY HB0 HW
    obtain ⟨k, hk, rfl, hbx, hby, hb⟩ := hrel
    have BX := hideC hbx
    have BY := hideC hby
    have HB := hideC hb
    have hw0 := B.isLt hbx
    have hw1 := B.isLt hby
    have x0 := B.cell hbx 0 (by rw [HX.out]; rfl)
    have y0 := B.cell hby 0 (by rw [HY.out]; rfl)
    have x1 := B.cell hbx 1 (by rw [HX.out]; rfl)
    have y1 := B.cell hby 1 (by rw [HY.out]; rfl)
    have x2 := B.cell hbx 2 (by rw [HX.out]; rfl)
    have y2 := B.cell hby 2 (by rw [HY.out]; rfl)
    have x3 := B.cell hbx 3 (by rw [HX.out]; rfl)
    have y3 := B.cell hby 3 (by rw [HY.out]; rfl)
    have x4 := B.cell hbx 4 (by rw [HX.out]; rfl)
    have y4 := B.cell hby 4 (by rw [HY.out]; rfl)
    have x5 := B.cell hbx 5 (by rw [HX.out]; rfl)
    have y5 := B.cell hby 5 (by rw [HY.out]; rfl)
    clear hbx hby
    by_cases hlt : k < ns.length
    · obtain ⟨b, off, hao, hbl, hl⟩ := HI.out.needs (show 0 < ns.length by omega)
      obtain ⟨d, dff, hdo, hdl, hm⟩ := HJ.out.needs (show 0 < ns.length by omega)
      simp only at hao hdo
      have hli : (k : Int) < (ns.length : Int) := by omega
      have c0 := M.lieS hb hbl hl k hlt
      have e0 := M.lieS hb hdl hm k hlt
      obtain ⟨z, hz⟩ : ∃ z, z = M.strAt ns k := ⟨_, rfl⟩
      rw [← hz] at c0 e0
      clear hz hl hm hb
      obtain ⟨x, hxz⟩ : ∃ x, x = z := ⟨_, rfl⟩
      subst hxz
      subst hao
      subst hdo
      have hkin := Q.kin_some wr
      have hbr : b < wr.heap.size := Nat.lt_of_lt_of_le hbl HB.out.size
      have hdr : d < wr.heap.size := Nat.lt_of_lt_of_le hdl HB.out.size
      have kx : ∀ z : Q.Kin wr.heap.size wr, z.world.cell? ⟨w.heap.size, 1, none⟩ = some (.slice (some ⟨b, off, none⟩) ns.length cn) := fun z => by rw [Q.cell_kin z _ _ hw0]; exact B.cell BX.out 1 (by rw [HX.out]; rfl)
      have ky : ∀ z : Q.Kin wr.heap.size wr, z.world.cell? ⟨w.heap.size + 1, 1, none⟩ = some (.slice (some ⟨d, dff, none⟩) ns.length cn') := fun z => by rw [Q.cell_kin z _ _ hw1]; exact B.cell BY.out 1 (by rw [HY.out]; rfl)
      have kc0 : ∀ z : Q.Kin wr.heap.size wr, z.world.cell? ⟨b, off + k, none⟩ = some (.string x) := fun z => by rw [Q.cell_kin z _ _ hbr, c0]
      have ke0 : ∀ z : Q.Kin wr.heap.size wr, z.world.cell? ⟨d, dff + k, none⟩ = some (.string x) := fun z => by rw [Q.cell_kin z _ _ hdr, e0]
      clear c0 e0
      go_wp2
      refine Q.region_kin (by kernel_rfl) (by kernel_rfl) ?_
      repeat (first | go_big_quiet_step (fail) | quiet_step (fail))
      refine wpQuiet_nil ?_
      intro _ hw'
      obtain ⟨z, hw''⟩ := hw'
      subst hw''
      go_wp2
      go_roundw
      case rel => exact ⟨k + 1, by omega, by go_num, B.below BX.out z.keeps hw0, B.below BY.out z.keeps hw1, HB.out.trans (z.keeps.mono HB.out.size)⟩
      case measure => simp [intOf]; omega
    · obtain rfl : k = ns.length := by omega
      clear hb
      go_wp2
      go_loopw [6] (fun i wr => ∃ k : Nat, k ≤ gs.length ∧ i = .int .i64 k ∧ wr.heap[w.heap.size]? = some (.cells X 27 (0, 0)) ∧ wr.heap[w.heap.size + 1]? = some (.cells Y 27 (0, 0)) ∧ Below w.heap.size w wr) (fun i _ => gs.length - (intOf i).toNat)
      case atStart => exact ⟨0, by omega, rfl, BX.out, BY.out, HB.out⟩
      case round =>
        clear x0 y0 x1 y1 x2 y2 x3 y3 x4 y4 x5 y5 BX BY HB
        obtain ⟨k, hk, rfl, hbx, hby, hb⟩ := hrel
        have BX := hideC hbx
        have BY := hideC hby
        have HB := hideC hb
        have hw0 := B.isLt hbx
        have hw1 := B.isLt hby
        have x0 := B.cell hbx 0 (by rw [HX.out]; rfl)
        have y0 := B.cell hby 0 (by rw [HY.out]; rfl)
        have x1 := B.cell hbx 1 (by rw [HX.out]; rfl)
        have y1 := B.cell hby 1 (by rw [HY.out]; rfl)
        have x2 := B.cell hbx 2 (by rw [HX.out]; rfl)
        have y2 := B.cell hby 2 (by rw [HY.out]; rfl)
        have x3 := B.cell hbx 3 (by rw [HX.out]; rfl)
        have y3 := B.cell hby 3 (by rw [HY.out]; rfl)
        have x4 := B.cell hbx 4 (by rw [HX.out]; rfl)
        have y4 := B.cell hby 4 (by rw [HY.out]; rfl)
        have x5 := B.cell hbx 5 (by rw [HX.out]; rfl)
        have y5 := B.cell hby 5 (by rw [HY.out]; rfl)
        clear hbx hby
        by_cases hlt : k < gs.length
        · obtain ⟨b, off, hao, hbl, hl⟩ := HI.out.segs (show 0 < gs.length by omega)
          obtain ⟨d, dff, hdo, hdl, hm⟩ := HJ.out.segs (show 0 < gs.length by omega)
          simp only at hao hdo
          have hli : (k : Int) < (gs.length : Int) := by omega
          obtain ⟨c0, c1, c2, c3, c4⟩ := M.lieG hb hbl hl k hlt
          obtain ⟨e0, e1, e2, e3, e4⟩ := M.lieG hb hdl hm k hlt
          obtain ⟨z, hz⟩ : ∃ z, z = M.sgAt gs k := ⟨_, rfl⟩
          rw [← hz] at c0 e0 c1 e1 c2 e2 c3 e3 c4 e4
          clear hz hl hm hb
          obtain ⟨sp, sn, sd, sx, sy⟩ := z
          simp only at c0 e0 c1 e1 c2 e2 c3 e3 c4 e4
          subst hao
          subst hdo
          have hkin := Q.kin_some wr
          have hbr : b < wr.heap.size := Nat.lt_of_lt_of_le hbl HB.out.size
          have hdr : d < wr.heap.size := Nat.lt_of_lt_of_le hdl HB.out.size
          have kx : ∀ z : Q.Kin wr.heap.size wr, z.world.cell? ⟨w.heap.size, 2, none⟩ = some (.slice (some ⟨b, off, none⟩) gs.length cg) := fun z => by rw [Q.cell_kin z _ _ hw0]; exact B.cell BX.out 2 (by rw [HX.out]; rfl)
          have ky : ∀ z : Q.Kin wr.heap.size wr, z.world.cell? ⟨w.heap.size + 1, 2, none⟩ = some (.slice (some ⟨d, dff, none⟩) gs.length cg') := fun z => by rw [Q.cell_kin z _ _ hw1]; exact B.cell BY.out 2 (by rw [HY.out]; rfl)
          have kc0 : ∀ z : Q.Kin wr.heap.size wr, z.world.cell? ⟨b, off + k * 5, none⟩ = some (.int .i64 sp) := fun z => by rw [Q.cell_kin z _ _ hbr, c0]
          have ke0 : ∀ z : Q.Kin wr.heap.size wr, z.world.cell? ⟨d, dff + k * 5, none⟩ = some (.int .i64 sp) := fun z => by rw [Q.cell_kin z _ _ hdr, e0]
          have kc1 : ∀ z : Q.Kin wr.heap.size wr, z.world.cell? ⟨b, off + k * 5 + 1, none⟩ = some (.int .i64 sn) := fun z => by rw [Q.cell_kin z _ _ hbr, c1]
          have ke1 : ∀ z : Q.Kin wr.heap.size wr, z.world.cell? ⟨d, dff + k * 5 + 1, none⟩ = some (.int .i64 sn) := fun z => by rw [Q.cell_kin z _ _ hdr, e1]
          have kc2 : ∀ z : Q.Kin wr.heap.size wr, z.world.cell? ⟨b, off + k * 5 + 2, none⟩ = some (.string sd) := fun z => by rw [Q.cell_kin z _ _ hbr, c2]
          have ke2 : ∀ z : Q.Kin wr.heap.size wr, z.world.cell? ⟨d, dff + k * 5 + 2, none⟩ = some (.string sd) := fun z => by rw [Q.cell_kin z _ _ hdr, e2]
          have kc3 : ∀ z : Q.Kin wr.heap.size wr, z.world.cell? ⟨b, off + k * 5 + 3, none⟩ = some (.bool sx) := fun z => by rw [Q.cell_kin z _ _ hbr, c3]
          have ke3 : ∀ z : Q.Kin wr.heap.size wr, z.world.cell? ⟨d, dff + k * 5 + 3, none⟩ = some (.bool sx) := fun z => by rw [Q.cell_kin z _ _ hdr, e3]
          have kc4 : ∀ z : Q.Kin wr.heap.size wr, z.world.cell? ⟨b, off + k * 5 + 4, none⟩ = some (.bool sy) := fun z => by rw [Q.cell_kin z _ _ hbr, c4]
          have ke4 : ∀ z : Q.Kin wr.heap.size wr, z.world.cell? ⟨d, dff + k * 5 + 4, none⟩ = some (.bool sy) := fun z => by rw [Q.cell_kin z _ _ hdr, e4]
          clear c0 e0 c1 e1 c2 e2 c3 e3 c4 e4
          go_wp2
          refine Q.region_kin (by kernel_rfl) (by kernel_rfl) ?_
          repeat (first | go_big_quiet_step (fail) | quiet_step (fail))
          refine wpQuiet_nil ?_
          intro _ hw'
          obtain ⟨z, hw''⟩ := hw'
          subst hw''
          go_wp2
          go_roundw
          case rel => exact ⟨k + 1, by omega, by go_num, B.below BX.out z.keeps hw0, B.below BY.out z.keeps hw1, HB.out.trans (z.keeps.mono HB.out.size)⟩
          case measure => simp [intOf]; omega
        · obtain rfl : k = gs.length := by omega
          clear hb
          go_wp2
          go_loopw [7] (fun i wr => ∃ k : Nat, k ≤ ys.length ∧ i = .int .i64 k ∧ wr.heap[w.heap.size]? = some (.cells X 27 (0, 0)) ∧ wr.heap[w.heap.size + 1]? = some (.cells Y 27 (0, 0)) ∧ Below w.heap.size w wr) (fun i _ => ys.length - (intOf i).toNat)
          case atStart => exact ⟨0, by omega, rfl, BX.out, BY.out, HB.out⟩
          case round =>
            clear x0 y0 x1 y1 x2 y2 x3 y3 x4 y4 x5 y5 BX BY HB
            obtain ⟨k, hk, rfl, hbx, hby, hb⟩ := hrel
            have BX := hideC hbx
            have BY := hideC hby
            have HB := hideC hb
            have hw0 := B.isLt hbx
            have hw1 := B.isLt hby
            have x0 := B.cell hbx 0 (by rw [HX.out]; rfl)
            have y0 := B.cell hby 0 (by rw [HY.out]; rfl)
            have x1 := B.cell hbx 1 (by rw [HX.out]; rfl)
            have y1 := B.cell hby 1 (by rw [HY.out]; rfl)
            have x2 := B.cell hbx 2 (by rw [HX.out]; rfl)
            have y2 := B.cell hby 2 (by rw [HY.out]; rfl)
            have x3 := B.cell hbx 3 (by rw [HX.out]; rfl)
            have y3 := B.cell hby 3 (by rw [HY.out]; rfl)
            have x4 := B.cell hbx 4 (by rw [HX.out]; rfl)
            have y4 := B.cell hby 4 (by rw [HY.out]; rfl)
            have x5 := B.cell hbx 5 (by rw [HX.out]; rfl)
            have y5 := B.cell hby 5 (by rw [HY.out]; rfl)
            clear hbx hby
            by_cases hlt : k < ys.length
            · obtain ⟨b, off, hao, hbl, hl⟩ := HI.out.syms (show 0 < ys.length by omega)
              obtain ⟨d, dff, hdo, hdl, hm⟩ := HJ.out.syms (show 0 < ys.length by omega)
              simp only at hao hdo
              have hli : (k : Int) < (ys.length : Int) := by omega
              obtain ⟨c0, c1⟩ := M.lieY hb hbl hl k hlt
              obtain ⟨e0, e1⟩ := M.lieY hb hdl hm k hlt
              obtain ⟨z, hz⟩ : ∃ z, z = M.syAt ys k := ⟨_, rfl⟩
              rw [← hz] at c0 e0 c1 e1
              clear hz hl hm hb
              obtain ⟨x, xp⟩ := z
              simp only at c0 e0 c1 e1
              subst hao
              subst hdo
              have hkin := Q.kin_some wr
              have hbr : b < wr.heap.size := Nat.lt_of_lt_of_le hbl HB.out.size
              have hdr : d < wr.heap.size := Nat.lt_of_lt_of_le hdl HB.out.size
              have kx : ∀ z : Q.Kin wr.heap.size wr, z.world.cell? ⟨w.heap.size, 3, none⟩ = some (.slice (some ⟨b, off, none⟩) ys.length cy) := fun z => by rw [Q.cell_kin z _ _ hw0]; exact B.cell BX.out 3 (by rw [HX.out]; rfl)
              have ky : ∀ z : Q.Kin wr.heap.size wr, z.world.cell? ⟨w.heap.size + 1, 3, none⟩ = some (.slice (some ⟨d, dff, none⟩) ys.length cy') := fun z => by rw [Q.cell_kin z _ _ hw1]; exact B.cell BY.out 3 (by rw [HY.out]; rfl)
              have kc0 : ∀ z : Q.Kin wr.heap.size wr, z.world.cell? ⟨b, off + k * 2, none⟩ = some (.string x) := fun z => by rw [Q.cell_kin z _ _ hbr, c0]
              have ke0 : ∀ z : Q.Kin wr.heap.size wr, z.world.cell? ⟨d, dff + k * 2, none⟩ = some (.string x) := fun z => by rw [Q.cell_kin z _ _ hdr, e0]
              have kc1 : ∀ z : Q.Kin wr.heap.size wr, z.world.cell? ⟨b, off + k * 2 + 1, none⟩ = some (.int .i64 xp) := fun z => by rw [Q.cell_kin z _ _ hbr, c1]
              have ke1 : ∀ z : Q.Kin wr.heap.size wr, z.world.cell? ⟨d, dff + k * 2 + 1, none⟩ = some (.int .i64 xp) := fun z => by rw [Q.cell_kin z _ _ hdr, e1]
              clear c0 e0 c1 e1
              go_wp2
              refine Q.region_kin (by kernel_rfl) (by kernel_rfl) ?_
              repeat (first | go_big_quiet_step (fail) | quiet_step (fail))
              refine wpQuiet_nil ?_
              intro _ hw'
              obtain ⟨z, hw''⟩ := hw'
              subst hw''
              go_wp2
              go_roundw
              case rel => exact ⟨k + 1, by omega, by go_num, B.below BX.out z.keeps hw0, B.below BY.out z.keeps hw1, HB.out.trans (z.keeps.mono HB.out.size)⟩
              case measure => simp [intOf]; omega
            · obtain rfl : k = ys.length := by omega
              clear hb
              go_wp2
              go_loopw [8] (fun i wr => ∃ k : Nat, k ≤ rs.length ∧ i = .int .i64 k ∧ wr.heap[w.heap.size]? = some (.cells X 27 (0, 0)) ∧ wr.heap[w.heap.size + 1]? = some (.cells Y 27 (0, 0)) ∧ Below w.heap.size w wr) (fun i _ => rs.length - (intOf i).toNat)
              case atStart => exact ⟨0, by omega, rfl, BX.out, BY.out, HB.out⟩
              case round =>
                clear x0 y0 x1 y1 x2 y2 x3 y3 x4 y4 x5 y5 BX BY HB
                obtain ⟨k, hk, rfl, hbx, hby, hb⟩ := hrel
                have BX := hideC hbx
                have BY := hideC hby
                have HB := hideC hb
                have hw0 := B.isLt hbx
                have hw1 := B.isLt hby
                have x0 := B.cell hbx 0 (by rw [HX.out]; rfl)
                have y0 := B.cell hby 0 (by rw [HY.out]; rfl)
                have x1 := B.cell hbx 1 (by rw [HX.out]; rfl)
                have y1 := B.cell hby 1 (by rw [HY.out]; rfl)
                have x2 := B.cell hbx 2 (by rw [HX.out]; rfl)
                have y2 := B.cell hby 2 (by rw [HY.out]; rfl)
                have x3 := B.cell hbx 3 (by rw [HX.out]; rfl)
                have y3 := B.cell hby 3 (by rw [HY.out]; rfl)
                have x4 := B.cell hbx 4 (by rw [HX.out]; rfl)
                have y4 := B.cell hby 4 (by rw [HY.out]; rfl)
                have x5 := B.cell hbx 5 (by rw [HX.out]; rfl)
                have y5 := B.cell hby 5 (by rw [HY.out]; rfl)
                clear hbx hby
                by_cases hlt : k < rs.length
                · obtain ⟨b, off, hao, hbl, hl⟩ := HI.out.rels (show 0 < rs.length by omega)
                  obtain ⟨d, dff, hdo, hdl, hm⟩ := HJ.out.rels (show 0 < rs.length by omega)
                  simp only at hao hdo
                  have hli : (k : Int) < (rs.length : Int) := by omega
                  obtain ⟨c0, c1, c2⟩ := M.lieR hb hbl hl k hlt
                  obtain ⟨e0, e1, e2⟩ := M.lieR hb hdl hm k hlt
                  obtain ⟨z, hz⟩ : ∃ z, z = M.rlAt rs k := ⟨_, rfl⟩
                  rw [← hz] at c0 e0 c1 e1 c2 e2
                  clear hz hl hm hb
                  obtain ⟨xp, x, xa⟩ := z
                  simp only at c0 e0 c1 e1 c2 e2
                  subst hao
                  subst hdo
                  have hkin := Q.kin_some wr
                  have hbr : b < wr.heap.size := Nat.lt_of_lt_of_le hbl HB.out.size
                  have hdr : d < wr.heap.size := Nat.lt_of_lt_of_le hdl HB.out.size
                  have kx : ∀ z : Q.Kin wr.heap.size wr, z.world.cell? ⟨w.heap.size, 4, none⟩ = some (.slice (some ⟨b, off, none⟩) rs.length cr) := fun z => by rw [Q.cell_kin z _ _ hw0]; exact B.cell BX.out 4 (by rw [HX.out]; rfl)
                  have ky : ∀ z : Q.Kin wr.heap.size wr, z.world.cell? ⟨w.heap.size + 1, 4, none⟩ = some (.slice (some ⟨d, dff, none⟩) rs.length cr') := fun z => by rw [Q.cell_kin z _ _ hw1]; exact B.cell BY.out 4 (by rw [HY.out]; rfl)
                  have kc0 : ∀ z : Q.Kin wr.heap.size wr, z.world.cell? ⟨b, off + k * 3, none⟩ = some (.int .i64 xp) := fun z => by rw [Q.cell_kin z _ _ hbr, c0]
                  have ke0 : ∀ z : Q.Kin wr.heap.size wr, z.world.cell? ⟨d, dff + k * 3, none⟩ = some (.int .i64 xp) := fun z => by rw [Q.cell_kin z _ _ hdr, e0]
                  have kc1 : ∀ z : Q.Kin wr.heap.size wr, z.world.cell? ⟨b, off + k * 3 + 1, none⟩ = some (.string x) := fun z => by rw [Q.cell_kin z _ _ hbr, c1]
                  have ke1 : ∀ z : Q.Kin wr.heap.size wr, z.world.cell? ⟨d, dff + k * 3 + 1, none⟩ = some (.string x) := fun z => by rw [Q.cell_kin z _ _ hdr, e1]
                  have kc2 : ∀ z : Q.Kin wr.heap.size wr, z.world.cell? ⟨b, off + k * 3 + 2, none⟩ = some (.int .i64 xa) := fun z => by rw [Q.cell_kin z _ _ hbr, c2]
                  have ke2 : ∀ z : Q.Kin wr.heap.size wr, z.world.cell? ⟨d, dff + k * 3 + 2, none⟩ = some (.int .i64 xa) := fun z => by rw [Q.cell_kin z _ _ hdr, e2]
                  clear c0 e0 c1 e1 c2 e2
                  go_wp2
                  refine Q.region_kin (by kernel_rfl) (by kernel_rfl) ?_
                  repeat (first | go_big_quiet_step (fail) | quiet_step (fail))
                  refine wpQuiet_nil ?_
                  intro _ hw'
                  obtain ⟨z, hw''⟩ := hw'
                  subst hw''
                  go_wp2
                  go_roundw
                  case rel => exact ⟨k + 1, by omega, by go_num, B.below BX.out z.keeps hw0, B.below BY.out z.keeps hw1, HB.out.trans (z.keeps.mono HB.out.size)⟩
                  case measure => simp [intOf]; omega
                · obtain rfl : k = rs.length := by omega
                  clear hb
                  go_wp2
                  go_ret
                  exact ⟨rfl, HB.out⟩
end Go.Proofs.Ytafdgjpmhofinaa.W
