import Derived.Test.YtbgnagognnklbaaG16
namespace Go.Proofs.Ytbgnagognnklbaa.W
open Go.RowKit
set_option linter.unusedVariables false

set_option maxRecDepth 100000 in
set_option maxHeartbeats 2000000 in
theorem entryPlaced_any (i : M.Im) (a : M.At) (w : World) (h : M.HasIm w a i) (hf : M.Fit i) (hr : i.segs.all M.rangeB = true) : Calls Try.prog 76 #[.agg (M.cellsI a i)] w fun e w' => e = .returned (.bool (M.entryB i)) ∧ Below w.heap.size w w' := by
  obtain ⟨an, cn, ag, cg, ay, cy, ar, cr⟩ := a
  obtain ⟨nm, ns, gs, ys, rs, en⟩ := i
  obtain ⟨h1, h2, h3, h4⟩ := h
  obtain ⟨f1, f2, f3, f4, f5, f6, f7, f8, f9, f10⟩ := hf
  simp only at h1 h2 h3 h4 f1 f2 f3 f4 f5 f6 f7 f8 f9 f10
  have F4 := hideC f4
  unfold M.Short at f2 f4 f6 f8
  simp only [M.cellsI]
  have H1 := hideC h1
  have H2 := hideC h2
  have H3 := hideC h3
  have H4 := hideC h4
  have F3 := hideC f3
  have F7 := hideC f7
  have F9 := hideC f9
  have F10 := hideC f10
  have HG := hideC hr
  clear h1 h2 h3 h4 f3 f5 f7 f9 f10 hr
  have BOX := hideC (B.new w #[.string nm, .slice an ns.length cn, .slice ag gs.length cg, .slice ay ys.length cy, .slice ar rs.length cr, .int .i64 en] 27)
  have HB0 := hideC ((Below.refl w.heap.size w).alloc (Nat.le_refl _) (.cells #[.string nm, .slice an ns.length cn, .slice ag gs.length cg, .slice ay ys.length cy, .slice ar rs.length cr, .int .i64 en] 27))
  obtain ⟨X, hX⟩ : ∃ X : Array Value, X = #[.string nm, .slice an ns.length cn, .slice ag gs.length cg, .slice ay ys.length cy, .slice ar rs.length cr, .int .i64 en] := ⟨_, rfl⟩
  have HX := hideC hX
  rw [← hX] at BOX HB0
  clear hX
  have bx2 := B.cell BOX.out 2 (by rw [HX.out]; rfl)
  have bx5 := B.cell BOX.out 5 (by rw [HX.out]; rfl)
  have f10' := F10.out
  unfold M.I64 at f10'
  have HE : Hid (M.entryB ⟨nm, ns, gs, ys, rs, en⟩ = (M.placedB gs en && ((segOr gs en).ex && decide (en % 8 = 0)))) := by
    show _ = _
    unfold M.entryB M.placedB segOr
    simp only
    cases M.segIn gs en <;> rfl
  rw [HE.out]
  have hpb : M.placedB gs en = true → 0 ≤ en := fun h => (placed_bounds HG.out en h).1
  obtain ⟨sg, hsg⟩ : ∃ sg, sg = segOr gs en := ⟨_, rfl⟩
  obtain ⟨pb, hpp⟩ : ∃ pb, pb = M.placedB gs en := ⟨_, rfl⟩
  have HS := hideC hsg
  have HP := hideC hpp
  rw [← hpp] at hpb
  rw [← hsg, ← hpp]
  obtain ⟨sp, sn, sd, sx, sy⟩ := sg
  simp only
  clear HE hsg hpp
  cases pb
  · clear hpb
    go_enter Try.func76, Try.ntmps76
    go_wp2_with fail
    rw [← HX.out]
    refine (segAt_any gs ag cg en _ (M.HasBy.below (lie := M.LieG) (fun hb hlt h => M.lieG hb hlt h) H2.out HB0.out) F4.out HG.out F10.out).mono ?_
    rintro e w2 ⟨rfl, hb2⟩
    have HB2 := hideC (HB0.out.trans (hb2.mono HB0.out.size))
    have BX2 := hideC (B.below BOX.out hb2 (B.isLt BOX.out))
    have hsz2 := B.isLt BX2.out
    have by5 := B.cell BX2.out 5 (by rw [HX.out]; rfl)
    clear hb2
    rw [← HS.out, ← HP.out]
    simp only [cellsG]
    go_wp2
    go_ret
    exact ⟨rfl, HB2.out.alloc HB2.out.size _⟩
  · have hp := hpb rfl
    clear hpb
    cases sy
    · go_enter Try.func76, Try.ntmps76
      go_wp2_with fail
      rw [← HX.out]
      refine (segAt_any gs ag cg en _ (M.HasBy.below (lie := M.LieG) (fun hb hlt h => M.lieG hb hlt h) H2.out HB0.out) F4.out HG.out F10.out).mono ?_
      rintro e w2 ⟨rfl, hb2⟩
      have HB2 := hideC (HB0.out.trans (hb2.mono HB0.out.size))
      have BX2 := hideC (B.below BOX.out hb2 (B.isLt BOX.out))
      have hsz2 := B.isLt BX2.out
      have by5 := B.cell BX2.out 5 (by rw [HX.out]; rfl)
      clear hb2
      rw [← HS.out, ← HP.out]
      simp only [cellsG]
      go_wp2
      go_ret
      exact ⟨rfl, HB2.out.alloc HB2.out.size _⟩
    · by_cases d : en % 8 = 0
      · rw [decide_eq_true d]
        go_enter Try.func76, Try.ntmps76
        go_wp2_with fail
        rw [← HX.out]
        refine (segAt_any gs ag cg en _ (M.HasBy.below (lie := M.LieG) (fun hb hlt h => M.lieG hb hlt h) H2.out HB0.out) F4.out HG.out F10.out).mono ?_
        rintro e w2 ⟨rfl, hb2⟩
        have HB2 := hideC (HB0.out.trans (hb2.mono HB0.out.size))
        have BX2 := hideC (B.below BOX.out hb2 (B.isLt BOX.out))
        have hsz2 := B.isLt BX2.out
        have by5 := B.cell BX2.out 5 (by rw [HX.out]; rfl)
        clear hb2
        rw [← HS.out, ← HP.out]
        simp only [cellsG]
        go_wp2
        go_ret
        exact ⟨rfl, HB2.out.alloc HB2.out.size _⟩
      · rw [decide_eq_false d]
        go_enter Try.func76, Try.ntmps76
        go_wp2_with fail
        rw [← HX.out]
        refine (segAt_any gs ag cg en _ (M.HasBy.below (lie := M.LieG) (fun hb hlt h => M.lieG hb hlt h) H2.out HB0.out) F4.out HG.out F10.out).mono ?_
        rintro e w2 ⟨rfl, hb2⟩
        have HB2 := hideC (HB0.out.trans (hb2.mono HB0.out.size))
        have BX2 := hideC (B.below BOX.out hb2 (B.isLt BOX.out))
        have hsz2 := B.isLt BX2.out
        have by5 := B.cell BX2.out 5 (by rw [HX.out]; rfl)
        clear hb2
        rw [← HS.out, ← HP.out]
        simp only [cellsG]
        go_wp2
        go_ret
        exact ⟨ret_bool (by simpa using d), HB2.out.alloc HB2.out.size _⟩

set_option maxRecDepth 100000 in
set_option maxHeartbeats 2000000 in
theorem relsPlaced_any (i : M.Im) (a : M.At) (w : World) (h : M.HasIm w a i) (hf : M.Fit i) (hr : i.segs.all M.rangeB = true) : Calls Try.prog 75 #[.agg (M.cellsI a i)] w fun e w' => e = .returned (.bool (M.relsTo i i.rels.length)) ∧ Below w.heap.size w w' := by
  obtain ⟨an, cn, ag, cg, ay, cy, ar, cr⟩ := a
  obtain ⟨nm, ns, gs, ys, rs, en⟩ := i
  obtain ⟨h1, h2, h3, h4⟩ := h
  obtain ⟨f1, f2, f3, f4, f5, f6, f7, f8, f9, f10⟩ := hf
  simp only at h1 h2 h3 h4 f1 f2 f3 f4 f5 f6 f7 f8 f9 f10
  have F4 := hideC f4
  unfold M.Short at f2 f4 f6 f8
  simp only [M.cellsI]
  have H1 := hideC h1
  have H2 := hideC h2
  have H3 := hideC h3
  have H4 := hideC h4
  have F3 := hideC f3
  have F7 := hideC f7
  have F9 := hideC f9
  have F10 := hideC f10
  have HG := hideC hr
  clear h1 h2 h3 h4 f3 f5 f7 f9 f10 hr
  have BOX := hideC (B.new w #[.string nm, .slice an ns.length cn, .slice ag gs.length cg, .slice ay ys.length cy, .slice ar rs.length cr, .int .i64 en] 27)
  have HB0 := hideC ((Below.refl w.heap.size w).alloc (Nat.le_refl _) (.cells #[.string nm, .slice an ns.length cn, .slice ag gs.length cg, .slice ay ys.length cy, .slice ar rs.length cr, .int .i64 en] 27))
  obtain ⟨X, hX⟩ : ∃ X : Array Value, X = #[.string nm, .slice an ns.length cn, .slice ag gs.length cg, .slice ay ys.length cy, .slice ar rs.length cr, .int .i64 en] := ⟨_, rfl⟩
  have HX := hideC hX
  rw [← hX] at BOX HB0
  clear hX
  have hIR : ∀ k, k < rs.length → M.relAt ⟨nm, ns, gs, ys, rs, en⟩ k = ((k == 0 || decide ((M.rlAt rs (k - 1)).pos + 8 ≤ (M.rlAt rs k).pos)) && M.wholeB gs (M.rlAt rs k).pos) := fun k hk => rfl
  have HIR := hideC hIR
  clear hIR
  obtain ⟨I, hI⟩ : ∃ I : M.Im, I = ⟨nm, ns, gs, ys, rs, en⟩ := ⟨_, rfl⟩
  have hIL : rs.length = I.rels.length := by rw [hI]
  have HNO : Hid (∀ k, k < rs.length → M.relAt I k = false → M.relsTo I rs.length = false) := fun k hk h => by rw [hIL]; exact rels_no I k (by rw [← hIL]; exact hk) h
  rw [← hI] at HIR
  rw [← hI]
  clear hI hIL
  go_enter Try.func75, Try.ntmps75
  go_wp2
  rw [← HX.out]
  go_loopw [11] (fun i wr => ∃ k : Nat, k ≤ rs.length ∧ i = .int .i64 k ∧ M.relsTo I k = true ∧ wr.heap[w.heap.size]? = some (.cells X 27 (0, 0)) ∧ Below w.heap.size w wr) (fun i _ => rs.length - (intOf i).toNat)
  case atStart => exact ⟨0, by omega, rfl, rfl, BOX.out, HB0.out⟩
  case round =>
    obtain ⟨k, hk, rfl, hall, hbox, hb⟩ := hrel
    have HA := hideC hall
    have BX := hideC hbox
    have HB := hideC hb
    have bx0 := B.cell hbox 0 (by rw [HX.out]; rfl)
    have bx1 := B.cell hbox 1 (by rw [HX.out]; rfl)
    have bx2 := B.cell hbox 2 (by rw [HX.out]; rfl)
    have bx3 := B.cell hbox 3 (by rw [HX.out]; rfl)
    have bx4 := B.cell hbox 4 (by rw [HX.out]; rfl)
    have bx5 := B.cell hbox 5 (by rw [HX.out]; rfl)
    clear hall hbox
    by_cases hlt : k < rs.length
    · obtain ⟨b, off, hao, hbl, hl⟩ := H4.out (by omega)
      have hli : (k : Int) < (rs.length : Int) := by omega
      obtain ⟨c0, c1, c2⟩ := M.lieR hb hbl hl k hlt
      have fs := (F9.out k hlt).1
      have HK := hideC (HIR.out k hlt)
      have HPV : Hid (1 ≤ k → wr.cell? ⟨b, off + (k - 1) * 3, none⟩ = some (.int .i64 (M.rlAt rs (k - 1)).pos) ∧ 0 ≤ (M.rlAt rs (k - 1)).pos ∧ (M.rlAt rs (k - 1)).pos < 4080) := fun h => by
        refine ⟨(M.lieR hb hbl hl (k - 1) (by omega)).1, ?_⟩
        have := rels_at I (k - 1) k HA.out (by omega)
        rw [HIR.out (k - 1) (by omega), Bool.and_eq_true] at this
        have := whole_at this.2 0 (by omega)
        exact placed_bounds HG.out _ (by simpa using this)
      obtain ⟨y, hx⟩ : ∃ y, y = M.rlAt rs k := ⟨_, rfl⟩
      rw [← hx] at c0 c1 c2 fs HK
      obtain ⟨q, hq⟩ : ∃ q, q = (M.rlAt rs (k - 1)).pos := ⟨_, rfl⟩
      rw [← hq] at HPV HK
      clear hx hb hl hq
      obtain ⟨xp, xn, xa⟩ := y
      simp only at c0 c1 c2 fs HK
      have fs' := fs
      unfold M.I64 at fs'
      subst hao
      have hbr : b < wr.heap.size := Nat.lt_of_lt_of_le hbl HB.out.size
      have hsz : w.heap.size < wr.heap.size := B.isLt BX.out
      have HB1 := hideC (HB.out.alloc HB.out.size (.cells #[.int .i64 xp, .string xn, .int .i64 xa] 75))
      have BX1 := hideC (B.alloc BX.out (.cells #[.int .i64 xp, .string xn, .int .i64 xa] 75))
      have BR1 := hideC (B.new wr #[.int .i64 xp, .string xn, .int .i64 xa] 75)
      obtain ⟨W, hW⟩ : ∃ W, W = wr.alloc (.cells #[.int .i64 xp, .string xn, .int .i64 xa] 75) := ⟨_, rfl⟩
      have HW := hideC hW
      rw [← hW] at HB1 BX1 BR1
      have hkin := Q.kin_some W
      have hkc := @Q.cell_kin W
      have hlw := B.isLt BX1.out
      have hlr := B.isLt BR1.out
      have hlb : b < W.heap.size := Nat.lt_of_lt_of_le hbl HB1.out.size
      have k0 : ∀ x : Q.Kin W.heap.size W, x.world.cell? ⟨wr.heap.size, 0, none⟩ = some (.int .i64 xp) := fun x => by rw [hkc x _ _ hlr]; exact B.cell BR1.out 0 rfl
      have k1 : ∀ x : Q.Kin W.heap.size W, x.world.cell? ⟨w.heap.size, 4, none⟩ = some (.slice (some ⟨b, off, none⟩) rs.length cr) := fun x => by rw [hkc x _ _ hlw]; exact B.cell BX1.out 4 (by rw [HX.out]; rfl)
      have HSC : Hid (∀ o, W.cell? ⟨b, o, none⟩ = wr.cell? ⟨b, o, none⟩) := fun o => by rw [HW.out]; exact (Below.refl wr.heap.size wr).alloc (Nat.le_refl _) _ |>.cell (p := ⟨b, o, none⟩) hbr
      clear hW hlw hlr
      by_cases hk0 : k = 0
      · subst hk0
        simp only [Nat.zero_mul, Nat.add_zero] at c0 c1 c2
        have HOK : Hid (M.relAt I 0 = M.wholeB gs xp) := HK.out.trans (by simp)
        clear HPV hkc
        go_wp2
        rw [← HW.out]
        refine Q.region_kin (by kernel_rfl) (by kernel_rfl) ?_
        repeat (first | go_big_quiet_step (fail) | quiet_step (fail))
        refine wpQuiet_nil ?_
        intro _ hw'
        obtain ⟨x, hw''⟩ := hw'
        subst hw''
        go_wp2
        have HBX := hideC (HB1.out.trans (x.keeps.mono HB1.out.size))
        have BXX := hideC (B.below BX1.out x.keeps (B.isLt BX1.out))
        have BRX := hideC (B.below BR1.out x.keeps (B.isLt BR1.out))
        go_loopw [31] (fun i wq => ∃ n : Nat, n ≤ 8 ∧ i = .int .i64 n ∧ (∀ m : Nat, m < n → M.placedB gs (xp + m) = true) ∧ wq.heap[w.heap.size]? = some (.cells X 27 (0, 0)) ∧ wq.heap[wr.heap.size]? = some (.cells #[.int .i64 xp, .string xn, .int .i64 xa] 75 (0, 0)) ∧ Below w.heap.size w wq) (fun i _ => 8 - (intOf i).toNat)
        case atStart => exact ⟨0, by omega, rfl, fun j h => by omega, BXX.out, BRX.out, HBX.out⟩
        case round =>
          rename_i wq _ _
          obtain ⟨n, hn, rfl, hall, hbox, hbr2, hb⟩ := hrel
          have HA2 := hideC hall
          have BX2 := hideC hbox
          have BR2 := hideC hbr2
          have HB2 := hideC hb
          have q2 := B.cell hbox 2 (by rw [HX.out]; rfl)
          have q0 := B.cell hbr2 0 rfl
          clear hall hbox hbr2 hb
          by_cases hn8 : n < 8
          · have hn8' : (n : Int) < 8 := by omega
            have hfit : 1 ≤ n → 0 ≤ xp ∧ xp < 4080 := fun h => placed_bounds HG.out xp (by have := HA2.out 0 (by omega); simpa using this)
            have hfs : M.I64 (xp + n) := by unfold M.I64; rcases Nat.eq_zero_or_pos n with h | h <;> omega
            have hfs' := hfs
            unfold M.I64 at hfs'
            clear hfit
            cases hc : M.placedB gs (xp + n)
            · have HR := hideC (HNO.out 0 hlt (HOK.out.trans (whole_no n hn8 hc)))
              go_wp2_with (go_at_call 87; refine (segAt_any gs ag cg (xp + n) _ (M.HasBy.below (lie := M.LieG) (fun hb hlt h => M.lieG hb hlt h) H2.out HB2.out) F4.out HG.out hfs).mono ?_; rintro e w3 ⟨rfl, hb3⟩; rw [hc]; generalize segOr gs (xp + n) = sg; obtain ⟨sp, sn, sd, sx, sy⟩ := sg; simp only [cellsG]; have HB3 := hideC (HB2.out.trans (hb3.mono HB2.out.size)); have BX3 := hideC (B.below BX2.out hb3 (B.isLt BX2.out)); have BR3 := hideC (B.below BR2.out hb3 (B.isLt BR2.out)); clear hb3)
              go_ret
              exact ⟨ret_bool HR.out.symm, HB3.out.alloc HB3.out.size _⟩
            · go_wp2_with (go_at_call 87; refine (segAt_any gs ag cg (xp + n) _ (M.HasBy.below (lie := M.LieG) (fun hb hlt h => M.lieG hb hlt h) H2.out HB2.out) F4.out HG.out hfs).mono ?_; rintro e w3 ⟨rfl, hb3⟩; rw [hc]; generalize segOr gs (xp + n) = sg; obtain ⟨sp, sn, sd, sx, sy⟩ := sg; simp only [cellsG]; have HB3 := hideC (HB2.out.trans (hb3.mono HB2.out.size)); have BX3 := hideC (B.below BX2.out hb3 (B.isLt BX2.out)); have BR3 := hideC (B.below BR2.out hb3 (B.isLt BR2.out)); clear hb3)
              go_roundw
              case rel => exact ⟨n + 1, by omega, by go_num, fun j h => if e : j = n then by rw [e]; exact hc else HA2.out j (by omega), B.alloc BX3.out _, B.alloc BR3.out _, HB3.out.alloc HB3.out.size _⟩
              case measure => simp [intOf]; omega
          · obtain rfl : n = 8 := by omega
            have HGO : Hid (M.relsTo I (0 + 1) = true) := by show (M.relsTo I 0 && M.relAt I 0) = true; rw [HA.out, HOK.out, whole_yes (fun m hm => HA2.out m hm)]; rfl
            go_wp2
            go_roundw
            case rel => exact ⟨0 + 1, by omega, by go_num, HGO.out, BX2.out, HB2.out⟩
            case measure => simp [intOf]; omega
      · have hk1 : 1 ≤ k := by omega
        obtain ⟨p0, p1, p2⟩ := HPV.out hk1
        have k2 : ∀ x : Q.Kin W.heap.size W, x.world.cell? ⟨b, off + (k - 1) * 3, none⟩ = some (.int .i64 q) := fun x => by rw [hkc x _ _ hlb, HSC.out]; exact p0
        have hki : (0 : Int) < (k : Int) := by omega
        have hki2 : 0 < k := by omega
        have hki3 : (1 : Int) ≤ (k : Int) := by omega
        clear hkc hlb p0
        by_cases d : xp < q + 8
        · have HOK : Hid (M.relAt I k = false) := by show _ = _; rw [HK.out, decide_eq_false (by omega), show (k == 0) = false from by simp; omega]; rfl
          go_wp2
          rw [← HW.out]
          refine Q.region_kin (by kernel_rfl) (by kernel_rfl) ?_
          repeat (first | go_big_quiet_step (fail) | quiet_step (fail))
          refine wpQuiet_nil ?_
          intro _ hw'
          obtain ⟨x, hw''⟩ := hw'
          subst hw''
          go_wp2
          go_ret
          exact ⟨ret_bool (HNO.out k hlt HOK.out).symm, HB1.out.trans (x.keeps.mono HB1.out.size)⟩
        · have HOK : Hid (M.relAt I k = M.wholeB gs xp) := by show _ = _; rw [HK.out, decide_eq_true (by omega)]; simp
          go_wp2
          rw [← HW.out]
          refine Q.region_kin (by kernel_rfl) (by kernel_rfl) ?_
          repeat (first | go_big_quiet_step (fail) | quiet_step (fail))
          refine wpQuiet_nil ?_
          intro _ hw'
          obtain ⟨x, hw''⟩ := hw'
          subst hw''
          go_wp2
          have HBX := hideC (HB1.out.trans (x.keeps.mono HB1.out.size))
          have BXX := hideC (B.below BX1.out x.keeps (B.isLt BX1.out))
          have BRX := hideC (B.below BR1.out x.keeps (B.isLt BR1.out))
          go_loopw [31] (fun i wq => ∃ n : Nat, n ≤ 8 ∧ i = .int .i64 n ∧ (∀ m : Nat, m < n → M.placedB gs (xp + m) = true) ∧ wq.heap[w.heap.size]? = some (.cells X 27 (0, 0)) ∧ wq.heap[wr.heap.size]? = some (.cells #[.int .i64 xp, .string xn, .int .i64 xa] 75 (0, 0)) ∧ Below w.heap.size w wq) (fun i _ => 8 - (intOf i).toNat)
          case atStart => exact ⟨0, by omega, rfl, fun j h => by omega, BXX.out, BRX.out, HBX.out⟩
          case round =>
            rename_i wq _ _
            obtain ⟨n, hn, rfl, hall, hbox, hbr2, hb⟩ := hrel
            have HA2 := hideC hall
            have BX2 := hideC hbox
            have BR2 := hideC hbr2
            have HB2 := hideC hb
            have q2 := B.cell hbox 2 (by rw [HX.out]; rfl)
            have q0 := B.cell hbr2 0 rfl
            clear hall hbox hbr2 hb
            by_cases hn8 : n < 8
            · have hn8' : (n : Int) < 8 := by omega
              have hfit : 1 ≤ n → 0 ≤ xp ∧ xp < 4080 := fun h => placed_bounds HG.out xp (by have := HA2.out 0 (by omega); simpa using this)
              have hfs : M.I64 (xp + n) := by unfold M.I64; rcases Nat.eq_zero_or_pos n with h | h <;> omega
              have hfs' := hfs
              unfold M.I64 at hfs'
              clear hfit
              cases hc : M.placedB gs (xp + n)
              · have HR := hideC (HNO.out k hlt (HOK.out.trans (whole_no n hn8 hc)))
                go_wp2_with (go_at_call 87; refine (segAt_any gs ag cg (xp + n) _ (M.HasBy.below (lie := M.LieG) (fun hb hlt h => M.lieG hb hlt h) H2.out HB2.out) F4.out HG.out hfs).mono ?_; rintro e w3 ⟨rfl, hb3⟩; rw [hc]; generalize segOr gs (xp + n) = sg; obtain ⟨sp, sn, sd, sx, sy⟩ := sg; simp only [cellsG]; have HB3 := hideC (HB2.out.trans (hb3.mono HB2.out.size)); have BX3 := hideC (B.below BX2.out hb3 (B.isLt BX2.out)); have BR3 := hideC (B.below BR2.out hb3 (B.isLt BR2.out)); clear hb3)
                go_ret
                exact ⟨ret_bool HR.out.symm, HB3.out.alloc HB3.out.size _⟩
              · go_wp2_with (go_at_call 87; refine (segAt_any gs ag cg (xp + n) _ (M.HasBy.below (lie := M.LieG) (fun hb hlt h => M.lieG hb hlt h) H2.out HB2.out) F4.out HG.out hfs).mono ?_; rintro e w3 ⟨rfl, hb3⟩; rw [hc]; generalize segOr gs (xp + n) = sg; obtain ⟨sp, sn, sd, sx, sy⟩ := sg; simp only [cellsG]; have HB3 := hideC (HB2.out.trans (hb3.mono HB2.out.size)); have BX3 := hideC (B.below BX2.out hb3 (B.isLt BX2.out)); have BR3 := hideC (B.below BR2.out hb3 (B.isLt BR2.out)); clear hb3)
                go_roundw
                case rel => exact ⟨n + 1, by omega, by go_num, fun j h => if e : j = n then by rw [e]; exact hc else HA2.out j (by omega), B.alloc BX3.out _, B.alloc BR3.out _, HB3.out.alloc HB3.out.size _⟩
                case measure => simp [intOf]; omega
            · obtain rfl : n = 8 := by omega
              have HGO : Hid (M.relsTo I (k + 1) = true) := by show (M.relsTo I k && M.relAt I k) = true; rw [HA.out, HOK.out, whole_yes (fun m hm => HA2.out m hm)]; rfl
              go_wp2
              go_roundw
              case rel => exact ⟨k + 1, by omega, by go_num, HGO.out, BX2.out, HB2.out⟩
              case measure => simp [intOf]; omega
    · obtain rfl : k = rs.length := by omega
      clear hb
      go_wp2
      go_ret
      exact ⟨ret_bool HA.out.symm, HB.out⟩
end Go.Proofs.Ytbgnagognnklbaa.W
