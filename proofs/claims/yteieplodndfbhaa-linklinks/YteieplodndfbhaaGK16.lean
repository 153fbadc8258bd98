import Derived.Test.YteieplodndfbhaaGK15
namespace Go.Proofs.Yteieplodndfbhaa.W
open Go.RowKit
set_option linter.unusedVariables false
set_option maxRecDepth 100000

theorem calls_kin_at {P : Program} {f : FuncId} {args : Array Value} {v : Value} {w : World} (h : ∀ x : Q.Kin w.heap.size w, Calls P f args x.world fun e w' => e = .returned v ∧ Below x.world.heap.size x.world w') (x : Q.Kin w.heap.size w) :
    Calls P f args x.world fun e w'' => e = .returned v ∧ ∃ y : Q.Kin w.heap.size w, w'' = y.world :=
  (h x).mono fun e w'' ⟨he, hb⟩ => ⟨he, ⟨w'', x.keeps.trans (hb.mono x.keeps.size)⟩, rfl⟩

set_option maxHeartbeats 3000000 in
theorem placesFine_any (i : M.Im) (a : M.At) (w : World) (h : M.HasIm w a i) (hf : M.Fit i) (hr : i.segs.all M.rangeB = true) : Calls Try.prog 59 #[.agg (M.cellsI a i)] w fun e w' => e = .returned (.bool (M.placesB i)) ∧ Below w.heap.size w w' := by
  have HI := hideC h
  have HF := hideC hf
  obtain ⟨an, cn, ag, cg, ay, cy, ar, cr⟩ := a
  obtain ⟨nm, ns, gs, ys, rs, en⟩ := i
  obtain ⟨h1, h2, h3, h4⟩ := h
  obtain ⟨f1, f2, f3, f4, f5, f6, f7, f8, f9, f10⟩ := hf
  simp only at h1 h2 h3 h4 f1 f2 f3 f4 f5 f6 f7 f8 f9 f10
  have F4 := hideC f4
  unfold M.Short at f2 f4 f6 f8
  simp only [M.cellsI]
  have H1 := hideC h1
  have H2 := hideC h2
  have H3 := hideC h3
  have H4 := hideC h4
  have F3 := hideC f3
  have F7 := hideC f7
  have F9 := hideC f9
  have F10 := hideC f10
  have HG := hideC hr
  clear h1 h2 h3 h4 f3 f5 f7 f9 f10 hr
  have BOX := hideC (B.new w #[.string nm, .slice an ns.length cn, .slice ag gs.length cg, .slice ay ys.length cy, .slice ar rs.length cr, .int .i64 en] 27)
  have HB0 := hideC ((Below.refl w.heap.size w).alloc (Nat.le_refl _) (.cells #[.string nm, .slice an ns.length cn, .slice ag gs.length cg, .slice ay ys.length cy, .slice ar rs.length cr, .int .i64 en] 27))
  obtain ⟨X, hX⟩ : ∃ X : Array Value, X = #[.string nm, .slice an ns.length cn, .slice ag gs.length cg, .slice ay ys.length cy, .slice ar rs.length cr, .int .i64 en] := ⟨_, rfl⟩
  have HX := hideC hX
  rw [← hX] at BOX HB0
  clear hX
  have HIR : Hid (∀ k, k < rs.length → M.relAt ⟨nm, ns, gs, ys, rs, en⟩ k = ((k == 0 || decide ((M.rlAt rs (k - 1)).pos + 8 ≤ (M.rlAt rs k).pos)) && M.wholeB gs (M.rlAt rs k).pos)) := fun k hk => rfl
  have HPB : Hid (M.placesB ⟨nm, ns, gs, ys, rs, en⟩ = (ys.all (fun y => M.placedB gs y.pos) && (M.relsTo ⟨nm, ns, gs, ys, rs, en⟩ rs.length && M.entryB ⟨nm, ns, gs, ys, rs, en⟩))) := rfl
  have HNO : Hid (∀ k, k < rs.length → M.relAt ⟨nm, ns, gs, ys, rs, en⟩ k = false → M.relsTo ⟨nm, ns, gs, ys, rs, en⟩ rs.length = false) := fun k hk h => rels_no ⟨nm, ns, gs, ys, rs, en⟩ k hk h
  have HEN : Hid (M.entryB ⟨nm, ns, gs, ys, rs, en⟩ = (M.placedB gs en && ((segOr gs en).ex && decide (en % 8 = 0)))) := by
    show _ = _
    unfold M.entryB M.placedB segOr
    simp only
    cases M.segIn gs en <;> rfl
  have HOW : Hid (∀ (W : World) (p : Int), Below w.heap.size w W → M.I64 p → Calls Try.prog 84 #[.agg X, .int .i64 p] W fun e w' => e = .returned (.int .i64 (ownN gs p)) ∧ Below W.heap.size W w') := fun W p hb hp => by
    rw [HX.out]
    exact owner_any ⟨nm, ns, gs, ys, rs, en⟩ ⟨an, cn, ag, cg, ay, cy, ar, cr⟩ W p hp (HI.out.below hb) HF.out HG.out
  rw [HPB.out]
  clear HPB
  obtain ⟨I, hI⟩ : ∃ I : M.Im, I = ⟨nm, ns, gs, ys, rs, en⟩ := ⟨_, rfl⟩
  rw [← hI] at HIR HNO HEN
  rw [← hI]
  clear hI HI HF
  go_enter Try.func59, Try.ntmps59
  go_wp2
  rw [← HX.out]
  go_loopw [3] (fun i wr => ∃ k : Nat, k ≤ ys.length ∧ i = .int .i64 k ∧ (∀ j, j < k → M.placedB gs (M.syAt ys j).pos = true) ∧ wr.heap[w.heap.size]? = some (.cells X 27 (0, 0)) ∧ Below w.heap.size w wr) (fun i _ => ys.length - (intOf i).toNat)
  case atStart => exact ⟨0, by omega, rfl, fun j h => by omega, BOX.out, HB0.out⟩
  case round =>
    obtain ⟨k, hk, rfl, hall, hbox, hb⟩ := hrel
    have HA := hideC hall
    have BX := hideC hbox
    have HB := hideC hb
    have bx3 := B.cell hbox 3 (by rw [HX.out]; rfl)
    clear hall hbox
    by_cases hlt : k < ys.length
    · obtain ⟨b, off, hao, hbl, hl⟩ := H3.out (by omega)
      have hli : (k : Int) < (ys.length : Int) := by omega
      obtain ⟨c0, c1⟩ := M.lieY hb hbl hl k hlt
      have fs := (F7.out k hlt).2
      obtain ⟨y, hx⟩ : ∃ y, y = M.syAt ys k := ⟨_, rfl⟩
      rw [← hx] at c0 c1 fs
      have HXX := hideC hx
      clear hx hb hl
      obtain ⟨x, xp⟩ := y
      simp only at c0 c1 fs
      subst hao
      have hkin := Q.kin_some wr
      have hbr : b < wr.heap.size := Nat.lt_of_lt_of_le hbl HB.out.size
      have hwr : w.heap.size < wr.heap.size := B.isLt BX.out
      have k0 : ∀ x : Q.Kin wr.heap.size wr, x.world.cell? ⟨w.heap.size, 0, none⟩ = some (.string nm) := fun x => by rw [Q.cell_kin x _ _ hwr]; exact B.cell BX.out 0 (by rw [HX.out]; rfl)
      have k1 : ∀ x : Q.Kin wr.heap.size wr, x.world.cell? ⟨w.heap.size, 1, none⟩ = some (.slice an ns.length cn) := fun x => by rw [Q.cell_kin x _ _ hwr]; exact B.cell BX.out 1 (by rw [HX.out]; rfl)
      have k2 : ∀ x : Q.Kin wr.heap.size wr, x.world.cell? ⟨w.heap.size, 2, none⟩ = some (.slice ag gs.length cg) := fun x => by rw [Q.cell_kin x _ _ hwr]; exact B.cell BX.out 2 (by rw [HX.out]; rfl)
      have k3 : ∀ x : Q.Kin wr.heap.size wr, x.world.cell? ⟨w.heap.size, 3, none⟩ = some (.slice (some ⟨b, off, none⟩) ys.length cy) := fun x => by rw [Q.cell_kin x _ _ hwr]; exact B.cell BX.out 3 (by rw [HX.out]; rfl)
      have k4 : ∀ x : Q.Kin wr.heap.size wr, x.world.cell? ⟨w.heap.size, 4, none⟩ = some (.slice ar rs.length cr) := fun x => by rw [Q.cell_kin x _ _ hwr]; exact B.cell BX.out 4 (by rw [HX.out]; rfl)
      have k5 : ∀ x : Q.Kin wr.heap.size wr, x.world.cell? ⟨w.heap.size, 5, none⟩ = some (.int .i64 en) := fun x => by rw [Q.cell_kin x _ _ hwr]; exact B.cell BX.out 5 (by rw [HX.out]; rfl)
      have k9 : ∀ x : Q.Kin wr.heap.size wr, x.world.cell? ⟨b, off + k * 2 + 1, none⟩ = some (.int .i64 xp) := fun x => by rw [Q.cell_kin x _ _ hbr, c1]
      have HCK : Hid (∀ x : Q.Kin wr.heap.size wr, Calls Try.prog 84 #[.agg X, .int .i64 xp] x.world fun e w' => e = .returned (.int .i64 (ownN gs xp)) ∧ Below x.world.heap.size x.world w') := fun x => HOW.out x.world xp (HB.out.trans (x.keeps.mono HB.out.size)) fs
      rw [HX.out] at HCK
      clear c0 c1
      rcases own_cases gs xp with ⟨hc, n, hn, hoN, _⟩ | ⟨hc, hoN⟩
      · rw [hoN] at HCK
        have hneg : ¬ (n : Int) < 0 := by omega
        clear hoN
        go_wp2
        refine Q.region_kin (by kernel_rfl) (by kernel_rfl) ?_
        repeat (first | go_big_quiet_step ((go_at_call 84; exact calls_kin_at HCK.out _)) | quiet_step ((go_at_call 84; exact calls_kin_at HCK.out _)))
        refine wpQuiet_nil ?_
        intro _ hw'
        obtain ⟨x, hw''⟩ := hw'
        subst hw''
        go_wp2
        go_roundw
        case rel => exact ⟨k + 1, by omega, by go_num, fun j h => if e : j = k then by rw [e, ← HXX.out]; exact hc else HA.out j (by omega), B.below BX.out x.keeps (B.isLt BX.out), HB.out.trans (x.keeps.mono HB.out.size)⟩
        case measure => simp [intOf]; omega
      · rw [hoN] at HCK
        clear hoN
        have HR := hideC (M.all_false (fun y => M.placedB gs y.pos) M.sy0 ys k hlt (by show M.placedB gs (M.syAt ys k).pos = false; rw [← HXX.out]; exact hc))
        go_wp2
        refine Q.region_kin (by kernel_rfl) (by kernel_rfl) ?_
        repeat (first | go_big_quiet_step ((go_at_call 84; exact calls_kin_at HCK.out _)) | quiet_step ((go_at_call 84; exact calls_kin_at HCK.out _)))
        refine wpQuiet_nil ?_
        intro _ hw'
        obtain ⟨x, hw''⟩ := hw'
        subst hw''
        go_wp2
        go_ret
        exact ⟨ret_bool (by rw [HR.out]; rfl), HB.out.trans (x.keeps.mono HB.out.size)⟩
    · obtain rfl : k = ys.length := by omega
      clear hb
      have HRY := hideC (M.all_true (fun y => M.placedB gs y.pos) M.sy0 ys (fun j hj => HA.out j hj))
      have BX0 := hideC BX.out
      have HB00 := hideC HB.out
      clear HA BX HB
      go_wp2
      go_loopw [4] (fun i wr => ∃ k : Nat, k ≤ rs.length ∧ i = .int .i64 k ∧ M.relsTo I k = true ∧ wr.heap[w.heap.size]? = some (.cells X 27 (0, 0)) ∧ Below w.heap.size w wr) (fun i _ => rs.length - (intOf i).toNat)
      case atStart => exact ⟨0, by omega, rfl, rfl, BX0.out, HB00.out⟩
      case round =>
        obtain ⟨k, hk, rfl, hall, hbox, hb⟩ := hrel
        have HA := hideC hall
        have BX := hideC hbox
        have HB := hideC hb
        have bx4 := B.cell hbox 4 (by rw [HX.out]; rfl)
        clear hall hbox BX0 HB00
        by_cases hlt : k < rs.length
        · obtain ⟨b, off, hao, hbl, hl⟩ := H4.out (by omega)
          have hli : (k : Int) < (rs.length : Int) := by omega
          obtain ⟨c0, c1, c2⟩ := M.lieR hb hbl hl k hlt
          have fs := (F9.out k hlt).1
          have HK := hideC (HIR.out k hlt)
          have HPV : Hid (1 ≤ k → wr.cell? ⟨b, off + (k - 1) * 3, none⟩ = some (.int .i64 (M.rlAt rs (k - 1)).pos)) := fun h => (M.lieR hb hbl hl (k - 1) (by omega)).1
          obtain ⟨y, hx⟩ : ∃ y, y = M.rlAt rs k := ⟨_, rfl⟩
          rw [← hx] at c0 c1 c2 fs HK
          obtain ⟨q, hq⟩ : ∃ q, q = (M.rlAt rs (k - 1)).pos := ⟨_, rfl⟩
          rw [← hq] at HPV HK
          clear hx hb hl hq
          obtain ⟨xp, xn, xa⟩ := y
          simp only at c0 c1 c2 fs HK
          clear c1 c2
          unfold M.I64 at fs
          subst hao
          by_cases hin : 0 ≤ xp ∧ xp ≤ 4080
          · have d16 : inB xp 0 4080 = true := inB_yes hin
            obtain ⟨hin1, hin2⟩ := hin
            by_cases hk0 : k = 0
            · subst hk0
              simp only [Nat.zero_mul, Nat.add_zero] at c0
              have HOK : Hid (M.relAt I 0 = M.wholeB gs xp) := HK.out.trans (by simp)
              clear HPV
              go_wp2_with (go_at_call 37; refine (inB_any _ _ _ _).mono ?_; rintro e w' ⟨rfl, rfl⟩; rw [d16])
              go_wp2
              go_loopw [6] (fun i wq => ∃ n : Nat, n ≤ 8 ∧ i = .int .i64 n ∧ (∀ m : Nat, m < n → M.placedB gs (xp + m) = true) ∧ wq.heap[w.heap.size]? = some (.cells X 27 (0, 0)) ∧ Below w.heap.size w wq) (fun i _ => 8 - (intOf i).toNat)
              case atStart => exact ⟨0, by omega, rfl, fun j h => by omega, BX.out, HB.out⟩
              case round =>
                clear bx4
                obtain ⟨n, hn, rfl, hall, hbox, hb⟩ := hrel
                have HA2 := hideC hall
                have BX2 := hideC hbox
                have HB2 := hideC hb
                have bx0 := B.cell hbox 0 (by rw [HX.out]; rfl)
                have bx1 := B.cell hbox 1 (by rw [HX.out]; rfl)
                have bx2 := B.cell hbox 2 (by rw [HX.out]; rfl)
                have bx3 := B.cell hbox 3 (by rw [HX.out]; rfl)
                have bx4 := B.cell hbox 4 (by rw [HX.out]; rfl)
                have bx5 := B.cell hbox 5 (by rw [HX.out]; rfl)
                clear hall hbox hb
                by_cases hn8 : n < 8
                · have hn8' : (n : Int) < 8 := by omega
                  have HOC := hideC (HOW.out wr (xp + n) HB2.out (by unfold M.I64; omega))
                  rw [HX.out] at HOC
                  rcases own_cases gs (xp + n) with ⟨hc, m, hm, hoN, _⟩ | ⟨hc, hoN⟩
                  · rw [hoN] at HOC
                    have hneg : ¬ (m : Int) < 0 := by omega
                    clear hoN
                    go_wp2_with (go_at_call 84; refine HOC.out.mono ?_; rintro e w3 ⟨rfl, hb3⟩; have HB3 := hideC (HB2.out.trans (hb3.mono HB2.out.size)); have BX3 := hideC (B.below BX2.out hb3 (B.isLt BX2.out)); clear hb3)
                    go_roundw
                    case rel => exact ⟨n + 1, by omega, by go_num, fun j h => if e : j = n then by rw [e]; exact hc else HA2.out j (by omega), BX3.out, HB3.out⟩
                    case measure => simp [intOf]; omega
                  · rw [hoN] at HOC
                    clear hoN
                    have HR := hideC (HNO.out 0 hlt (HOK.out.trans (whole_no n hn8 hc)))
                    go_wp2_with (go_at_call 84; refine HOC.out.mono ?_; rintro e w3 ⟨rfl, hb3⟩; have HB3 := hideC (HB2.out.trans (hb3.mono HB2.out.size)); have BX3 := hideC (B.below BX2.out hb3 (B.isLt BX2.out)); clear hb3)
                    go_ret
                    exact ⟨ret_bool (by rw [HR.out]; simp), HB3.out⟩
                · obtain rfl : n = 8 := by omega
                  have HGO : Hid (M.relsTo I (0 + 1) = true) := by show (M.relsTo I 0 && M.relAt I 0) = true; rw [HA.out, HOK.out, whole_yes (fun m hm => HA2.out m hm)]; rfl
                  go_wp2
                  go_roundw
                  case rel => exact ⟨0 + 1, by omega, by go_num, HGO.out, BX2.out, HB2.out⟩
                  case measure => simp [intOf]; omega
            · have hk1 : 1 ≤ k := by omega
              have p0 := HPV.out hk1
              have hki : (0 : Int) < (k : Int) := by omega
              have hki2 : 0 < k := by omega
              have hki3 : (1 : Int) ≤ (k : Int) := by omega
              by_cases d : xp - 8 < q
              · have HOK : Hid (M.relAt I k = false) := by show _ = _; rw [HK.out, decide_eq_false (by omega), show (k == 0) = false from by simp; omega]; rfl
                go_wp2_with (go_at_call 37; refine (inB_any _ _ _ _).mono ?_; rintro e w' ⟨rfl, rfl⟩; rw [d16])
                go_ret
                exact ⟨ret_bool (by rw [HNO.out k hlt HOK.out]; simp), HB.out⟩
              · have HOK : Hid (M.relAt I k = M.wholeB gs xp) := by show _ = _; rw [HK.out, decide_eq_true (by omega)]; simp
                go_wp2_with (go_at_call 37; refine (inB_any _ _ _ _).mono ?_; rintro e w' ⟨rfl, rfl⟩; rw [d16])
                go_wp2
                go_loopw [6] (fun i wq => ∃ n : Nat, n ≤ 8 ∧ i = .int .i64 n ∧ (∀ m : Nat, m < n → M.placedB gs (xp + m) = true) ∧ wq.heap[w.heap.size]? = some (.cells X 27 (0, 0)) ∧ Below w.heap.size w wq) (fun i _ => 8 - (intOf i).toNat)
                case atStart => exact ⟨0, by omega, rfl, fun j h => by omega, BX.out, HB.out⟩
                case round =>
                  clear bx4
                  obtain ⟨n, hn, rfl, hall, hbox, hb⟩ := hrel
                  have HA2 := hideC hall
                  have BX2 := hideC hbox
                  have HB2 := hideC hb
                  have bx0 := B.cell hbox 0 (by rw [HX.out]; rfl)
                  have bx1 := B.cell hbox 1 (by rw [HX.out]; rfl)
                  have bx2 := B.cell hbox 2 (by rw [HX.out]; rfl)
                  have bx3 := B.cell hbox 3 (by rw [HX.out]; rfl)
                  have bx4 := B.cell hbox 4 (by rw [HX.out]; rfl)
                  have bx5 := B.cell hbox 5 (by rw [HX.out]; rfl)
                  clear hall hbox hb
                  by_cases hn8 : n < 8
                  · have hn8' : (n : Int) < 8 := by omega
                    have HOC := hideC (HOW.out wr (xp + n) HB2.out (by unfold M.I64; omega))
                    rw [HX.out] at HOC
                    rcases own_cases gs (xp + n) with ⟨hc, m, hm, hoN, _⟩ | ⟨hc, hoN⟩
                    · rw [hoN] at HOC
                      have hneg : ¬ (m : Int) < 0 := by omega
                      clear hoN
                      go_wp2_with (go_at_call 84; refine HOC.out.mono ?_; rintro e w3 ⟨rfl, hb3⟩; have HB3 := hideC (HB2.out.trans (hb3.mono HB2.out.size)); have BX3 := hideC (B.below BX2.out hb3 (B.isLt BX2.out)); clear hb3)
                      go_roundw
                      case rel => exact ⟨n + 1, by omega, by go_num, fun j h => if e : j = n then by rw [e]; exact hc else HA2.out j (by omega), BX3.out, HB3.out⟩
                      case measure => simp [intOf]; omega
                    · rw [hoN] at HOC
                      clear hoN
                      have HR := hideC (HNO.out k hlt (HOK.out.trans (whole_no n hn8 hc)))
                      go_wp2_with (go_at_call 84; refine HOC.out.mono ?_; rintro e w3 ⟨rfl, hb3⟩; have HB3 := hideC (HB2.out.trans (hb3.mono HB2.out.size)); have BX3 := hideC (B.below BX2.out hb3 (B.isLt BX2.out)); clear hb3)
                      go_ret
                      exact ⟨ret_bool (by rw [HR.out]; simp), HB3.out⟩
                  · obtain rfl : n = 8 := by omega
                    have HGO : Hid (M.relsTo I (k + 1) = true) := by show (M.relsTo I k && M.relAt I k) = true; rw [HA.out, HOK.out, whole_yes (fun m hm => HA2.out m hm)]; rfl
                    go_wp2
                    go_roundw
                    case rel => exact ⟨k + 1, by omega, by go_num, HGO.out, BX2.out, HB2.out⟩
                    case measure => simp [intOf]; omega
          · have d16 : inB xp 0 4080 = false := inB_no hin
            have HOK : Hid (M.relAt I k = false) := by
              show _ = _
              rw [HK.out, whole_no (l := gs) (a := xp) 0 (by omega) ?_, Bool.and_false]
              cases e : M.placedB gs (xp + (0 : Nat))
              · rfl
              · have := placed_bounds HG.out _ e
                omega
            go_wp2_with (go_at_call 37; refine (inB_any _ _ _ _).mono ?_; rintro e w' ⟨rfl, rfl⟩; rw [d16])
            go_ret
            exact ⟨ret_bool (by rw [HNO.out k hlt HOK.out]; simp), HB.out⟩
        · obtain rfl : k = rs.length := by omega
          clear hb
          have bx0 := B.cell BX.out 0 (by rw [HX.out]; rfl)
          have bx1 := B.cell BX.out 1 (by rw [HX.out]; rfl)
          have bx2 := B.cell BX.out 2 (by rw [HX.out]; rfl)
          have bx3 := B.cell BX.out 3 (by rw [HX.out]; rfl)
          have bx5 := B.cell BX.out 5 (by rw [HX.out]; rfl)
          have f10' := F10.out
          unfold M.I64 at f10'
          have HOC := hideC (HOW.out wr en HB.out F10.out)
          rw [HX.out] at HOC
          rcases own_cases gs en with ⟨hc, n, hn, hoN, hsg⟩ | ⟨hc, hoN⟩
          · rw [hoN] at HOC
            have hpb := (placed_bounds HG.out en hc).1
            obtain ⟨b, off, hao, hbl, hl⟩ := H2.out (by omega)
            have HLG := hideC (M.lieG HB.out hbl hl)
            have HEE : Hid (M.entryB I = ((M.sgAt gs n).ex && decide (en % 8 = 0))) := by show _ = _; rw [HEN.out, hc, hsg]; rfl
            clear hl hoN hsg
            subst hao
            have hni : (n : Int) < (gs.length : Int) := by omega
            by_cases d8 : en % 8 = 0
            · rw [decide_eq_true d8, Bool.and_true] at HEE
              go_wp2_with (go_at_call 84; refine HOC.out.mono ?_; rintro e w2 ⟨rfl, hb2⟩; have HB2 := hideC (HB.out.trans (hb2.mono HB.out.size)); have BX2 := hideC (B.below BX.out hb2 (B.isLt BX.out)); have q2 := B.cell BX2.out 2 (by rw [HX.out]; rfl); have q5 := B.cell BX2.out 5 (by rw [HX.out]; rfl); obtain ⟨g0, g1, g2, g3, g4⟩ := M.lieG hb2 (Nat.lt_of_lt_of_le hbl HB.out.size) HLG.out n hn; clear g0 g1 g2 g3 hb2)
              go_ret
              exact ⟨ret_bool (by rw [HRY.out, HA.out, HEE.out]; simp), HB2.out⟩
            · rw [decide_eq_false d8, Bool.and_false] at HEE
              have d8' : (en % 8 == 0) = false := by simpa using d8
              go_wp2_with (go_at_call 84; refine HOC.out.mono ?_; rintro e w2 ⟨rfl, hb2⟩; have HB2 := hideC (HB.out.trans (hb2.mono HB.out.size)); have BX2 := hideC (B.below BX.out hb2 (B.isLt BX.out)); have q2 := B.cell BX2.out 2 (by rw [HX.out]; rfl); have q5 := B.cell BX2.out 5 (by rw [HX.out]; rfl); obtain ⟨g0, g1, g2, g3, g4⟩ := M.lieG hb2 (Nat.lt_of_lt_of_le hbl HB.out.size) HLG.out n hn; clear g0 g1 g2 g3 hb2)
              go_ret
              exact ⟨ret_bool (by rw [HRY.out, HA.out, HEE.out]; simp), HB2.out⟩
          · rw [hoN] at HOC
            have HEE : Hid (M.entryB I = false) := by show _ = _; rw [HEN.out, hc]; rfl
            clear hoN
            go_wp2_with (go_at_call 84; refine HOC.out.mono ?_; rintro e w2 ⟨rfl, hb2⟩; have HB2 := hideC (HB.out.trans (hb2.mono HB.out.size)); have BX2 := hideC (B.below BX.out hb2 (B.isLt BX.out)); have q2 := B.cell BX2.out 2 (by rw [HX.out]; rfl); have q5 := B.cell BX2.out 5 (by rw [HX.out]; rfl); clear hb2)
            all_goals
              go_ret
              exact ⟨ret_bool (by rw [HRY.out, HA.out, HEE.out]; simp), HB2.out⟩
end Go.Proofs.Yteieplodndfbhaa.W
