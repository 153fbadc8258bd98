import Derived.Test.YteieplodndfbhaaGK03
import Derived.Maps.Own
import Derived.Maps.OwnSet
import Derived.Maps.Views
import Derived.Test.YteieplodndfbhaaGK02
namespace Go.Proofs.Yteieplodndfbhaa.W
open Go.RowKit
set_option linter.unusedVariables false
set_option maxRecDepth 100000

set_option maxHeartbeats 2000000 in
theorem entryPlaced_any (i : M.Im) (a : M.At) (w : World) (h : M.HasIm w a i) (hf : M.Fit i) (hr : i.segs.all M.rangeB = true) : Calls Try.prog 76 #[.agg (M.cellsI a i)] w fun e w' => e = .returned (.bool (M.entryB i)) ∧ Below w.heap.size w w' := by
  obtain ⟨an, cn, ag, cg, ay, cy, ar, cr⟩ := a
  obtain ⟨nm, ns, gs, ys, rs, en⟩ := i
  obtain ⟨h1, h2, h3, h4⟩ := h
  obtain ⟨f1, f2, f3, f4, f5, f6, f7, f8, f9, f10⟩ := hf
  simp only at h1 h2 h3 h4 f1 f2 f3 f4 f5 f6 f7 f8 f9 f10
  have F4 := hideC f4
  unfold M.Short at f2 f4 f6 f8
  simp only [M.cellsI]
  have H1 := hideC h1
  have H2 := hideC h2
  have H3 := hideC h3
  have H4 := hideC h4
  have F3 := hideC f3
  have F7 := hideC f7
  have F9 := hideC f9
  have F10 := hideC f10
  have HG := hideC hr
  clear h1 h2 h3 h4 f3 f5 f7 f9 f10 hr
  have BOX := hideC (B.new w #[.string nm, .slice an ns.length cn, .slice ag gs.length cg, .slice ay ys.length cy, .slice ar rs.length cr, .int .i64 en] 27)
  have HB0 := hideC ((Below.refl w.heap.size w).alloc (Nat.le_refl _) (.cells #[.string nm, .slice an ns.length cn, .slice ag gs.length cg, .slice ay ys.length cy, .slice ar rs.length cr, .int .i64 en] 27))
  obtain ⟨X, hX⟩ : ∃ X : Array Value, X = #[.string nm, .slice an ns.length cn, .slice ag gs.length cg, .slice ay ys.length cy, .slice ar rs.length cr, .int .i64 en] := ⟨_, rfl⟩
  have HX := hideC hX
  rw [← hX] at BOX HB0
  clear hX
  have bx2 := B.cell BOX.out 2 (by rw [HX.out]; rfl)
  have bx5 := B.cell BOX.out 5 (by rw [HX.out]; rfl)
  have f10' := F10.out
  unfold M.I64 at f10'
  have HE : Hid (M.entryB ⟨nm, ns, gs, ys, rs, en⟩ = (M.placedB gs en && ((segOr gs en).ex && decide (en % 8 = 0)))) := by
    show _ = _
    unfold M.entryB M.placedB segOr
    simp only
    cases M.segIn gs en <;> rfl
  rw [HE.out]
  have hpb : M.placedB gs en = true → 0 ≤ en := fun h => (placed_bounds HG.out en h).1
  obtain ⟨sg, hsg⟩ : ∃ sg, sg = segOr gs en := ⟨_, rfl⟩
  obtain ⟨pb, hpp⟩ : ∃ pb, pb = M.placedB gs en := ⟨_, rfl⟩
  have HS := hideC hsg
  have HP := hideC hpp
  rw [← hpp] at hpb
  rw [← hsg, ← hpp]
  obtain ⟨sp, sn, sd, sx, sy⟩ := sg
  simp only
  clear HE hsg hpp
  cases pb
  · clear hpb
    go_enter Try.func76, Try.ntmps76
    go_wp2_with fail
    rw [← HX.out]
    refine (segAt_any gs ag cg en _ (M.HasBy.below (lie := M.LieG) (fun hb hlt h => M.lieG hb hlt h) H2.out HB0.out) F4.out HG.out F10.out).mono ?_
    rintro e w2 ⟨rfl, hb2⟩
    have HB2 := hideC (HB0.out.trans (hb2.mono HB0.out.size))
    have BX2 := hideC (B.below BOX.out hb2 (B.isLt BOX.out))
    have hsz2 := B.isLt BX2.out
    have by5 := B.cell BX2.out 5 (by rw [HX.out]; rfl)
    clear hb2
    rw [← HS.out, ← HP.out]
    simp only [cellsG]
    go_wp2
    go_ret
    exact ⟨rfl, HB2.out.alloc HB2.out.size _⟩
  · have hp := hpb rfl
    clear hpb
    cases sy
    · go_enter Try.func76, Try.ntmps76
      go_wp2_with fail
      rw [← HX.out]
      refine (segAt_any gs ag cg en _ (M.HasBy.below (lie := M.LieG) (fun hb hlt h => M.lieG hb hlt h) H2.out HB0.out) F4.out HG.out F10.out).mono ?_
      rintro e w2 ⟨rfl, hb2⟩
      have HB2 := hideC (HB0.out.trans (hb2.mono HB0.out.size))
      have BX2 := hideC (B.below BOX.out hb2 (B.isLt BOX.out))
      have hsz2 := B.isLt BX2.out
      have by5 := B.cell BX2.out 5 (by rw [HX.out]; rfl)
      clear hb2
      rw [← HS.out, ← HP.out]
      simp only [cellsG]
      go_wp2
      go_ret
      exact ⟨rfl, HB2.out.alloc HB2.out.size _⟩
    · by_cases d : en % 8 = 0
      · rw [decide_eq_true d]
        go_enter Try.func76, Try.ntmps76
        go_wp2_with fail
        rw [← HX.out]
        refine (segAt_any gs ag cg en _ (M.HasBy.below (lie := M.LieG) (fun hb hlt h => M.lieG hb hlt h) H2.out HB0.out) F4.out HG.out F10.out).mono ?_
        rintro e w2 ⟨rfl, hb2⟩
        have HB2 := hideC (HB0.out.trans (hb2.mono HB0.out.size))
        have BX2 := hideC (B.below BOX.out hb2 (B.isLt BOX.out))
        have hsz2 := B.isLt BX2.out
        have by5 := B.cell BX2.out 5 (by rw [HX.out]; rfl)
        clear hb2
        rw [← HS.out, ← HP.out]
        simp only [cellsG]
        go_wp2
        go_ret
        exact ⟨rfl, HB2.out.alloc HB2.out.size _⟩
      · rw [decide_eq_false d]
        go_enter Try.func76, Try.ntmps76
        go_wp2_with fail
        rw [← HX.out]
        refine (segAt_any gs ag cg en _ (M.HasBy.below (lie := M.LieG) (fun hb hlt h => M.lieG hb hlt h) H2.out HB0.out) F4.out HG.out F10.out).mono ?_
        rintro e w2 ⟨rfl, hb2⟩
        have HB2 := hideC (HB0.out.trans (hb2.mono HB0.out.size))
        have BX2 := hideC (B.below BOX.out hb2 (B.isLt BOX.out))
        have hsz2 := B.isLt BX2.out
        have by5 := B.cell BX2.out 5 (by rw [HX.out]; rfl)
        clear hb2
        rw [← HS.out, ← HP.out]
        simp only [cellsG]
        go_wp2
        go_ret
        exact ⟨ret_bool (by simpa using d), HB2.out.alloc HB2.out.size _⟩

set_option maxHeartbeats 2000000 in
theorem relsPlaced_any (i : M.Im) (a : M.At) (w : World) (h : M.HasIm w a i) (hf : M.Fit i) (hr : i.segs.all M.rangeB = true) : Calls Try.prog 75 #[.agg (M.cellsI a i)] w fun e w' => e = .returned (.bool (M.relsTo i i.rels.length)) ∧ Below w.heap.size w w' := by
  obtain ⟨an, cn, ag, cg, ay, cy, ar, cr⟩ := a
  obtain ⟨nm, ns, gs, ys, rs, en⟩ := i
  obtain ⟨h1, h2, h3, h4⟩ := h
  obtain ⟨f1, f2, f3, f4, f5, f6, f7, f8, f9, f10⟩ := hf
  simp only at h1 h2 h3 h4 f1 f2 f3 f4 f5 f6 f7 f8 f9 f10
  have F4 := hideC f4
  unfold M.Short at f2 f4 f6 f8
  simp only [M.cellsI]
  have H1 := hideC h1
  have H2 := hideC h2
  have H3 := hideC h3
  have H4 := hideC h4
  have F3 := hideC f3
  have F7 := hideC f7
  have F9 := hideC f9
  have F10 := hideC f10
  have HG := hideC hr
  clear h1 h2 h3 h4 f3 f5 f7 f9 f10 hr
  have BOX := hideC (B.new w #[.string nm, .slice an ns.length cn, .slice ag gs.length cg, .slice ay ys.length cy, .slice ar rs.length cr, .int .i64 en] 27)
  have HB0 := hideC ((Below.refl w.heap.size w).alloc (Nat.le_refl _) (.cells #[.string nm, .slice an ns.length cn, .slice ag gs.length cg, .slice ay ys.length cy, .slice ar rs.length cr, .int .i64 en] 27))
  obtain ⟨X, hX⟩ : ∃ X : Array Value, X = #[.string nm, .slice an ns.length cn, .slice ag gs.length cg, .slice ay ys.length cy, .slice ar rs.length cr, .int .i64 en] := ⟨_, rfl⟩
  have HX := hideC hX
  rw [← hX] at BOX HB0
  clear hX
  have hIR : ∀ k, k < rs.length → M.relAt ⟨nm, ns, gs, ys, rs, en⟩ k = ((k == 0 || decide ((M.rlAt rs (k - 1)).pos + 8 ≤ (M.rlAt rs k).pos)) && M.wholeB gs (M.rlAt rs k).pos) := fun k hk => rfl
  have HIR := hideC hIR
  clear hIR
  obtain ⟨I, hI⟩ : ∃ I : M.Im, I = ⟨nm, ns, gs, ys, rs, en⟩ := ⟨_, rfl⟩
  have hIL : rs.length = I.rels.length := by rw [hI]
  have HNO : Hid (∀ k, k < rs.length → M.relAt I k = false → M.relsTo I rs.length = false) := fun k hk h => by rw [hIL]; exact rels_no I k (by rw [← hIL]; exact hk) h
  rw [← hI] at HIR
  rw [← hI]
  clear hI hIL
  go_enter Try.func75, Try.ntmps75
  go_wp2
  rw [← HX.out]
  go_loopw [11] (fun i wr => ∃ k : Nat, k ≤ rs.length ∧ i = .int .i64 k ∧ M.relsTo I k = true ∧ wr.heap[w.heap.size]? = some (.cells X 27 (0, 0)) ∧ Below w.heap.size w wr) (fun i _ => rs.length - (intOf i).toNat)
  case atStart => exact ⟨0, by omega, rfl, rfl, BOX.out, HB0.out⟩
  case round =>
    obtain ⟨k, hk, rfl, hall, hbox, hb⟩ := hrel
    have HA := hideC hall
    have BX := hideC hbox
    have HB := hideC hb
    have bx0 := B.cell hbox 0 (by rw [HX.out]; rfl)
    have bx1 := B.cell hbox 1 (by rw [HX.out]; rfl)
    have bx2 := B.cell hbox 2 (by rw [HX.out]; rfl)
    have bx3 := B.cell hbox 3 (by rw [HX.out]; rfl)
    have bx4 := B.cell hbox 4 (by rw [HX.out]; rfl)
    have bx5 := B.cell hbox 5 (by rw [HX.out]; rfl)
    clear hall hbox
    by_cases hlt : k < rs.length
    · obtain ⟨b, off, hao, hbl, hl⟩ := H4.out (by omega)
      have hli : (k : Int) < (rs.length : Int) := by omega
      obtain ⟨c0, c1, c2⟩ := M.lieR hb hbl hl k hlt
      have fs := (F9.out k hlt).1
      have HK := hideC (HIR.out k hlt)
      have HPV : Hid (1 ≤ k → wr.cell? ⟨b, off + (k - 1) * 3, none⟩ = some (.int .i64 (M.rlAt rs (k - 1)).pos) ∧ 0 ≤ (M.rlAt rs (k - 1)).pos ∧ (M.rlAt rs (k - 1)).pos < 4080) := fun h => by
        refine ⟨(M.lieR hb hbl hl (k - 1) (by omega)).1, ?_⟩
        have := rels_at I (k - 1) k HA.out (by omega)
        rw [HIR.out (k - 1) (by omega), Bool.and_eq_true] at this
        have := whole_at this.2 0 (by omega)
        exact placed_bounds HG.out _ (by simpa using this)
      obtain ⟨y, hx⟩ : ∃ y, y = M.rlAt rs k := ⟨_, rfl⟩
      rw [← hx] at c0 c1 c2 fs HK
      obtain ⟨q, hq⟩ : ∃ q, q = (M.rlAt rs (k - 1)).pos := ⟨_, rfl⟩
      rw [← hq] at HPV HK
      clear hx hb hl hq
      obtain ⟨xp, xn, xa⟩ := y
      simp only at c0 c1 c2 fs HK
      have fs' := fs
      unfold M.I64 at fs'
      subst hao
      have hbr : b < wr.heap.size := Nat.lt_of_lt_of_le hbl HB.out.size
      have hsz : w.heap.size < wr.heap.size := B.isLt BX.out
      have HB1 := hideC (HB.out.alloc HB.out.size (.cells #[.int .i64 xp, .string xn, .int .i64 xa] 75))
      have BX1 := hideC (B.alloc BX.out (.cells #[.int .i64 xp, .string xn, .int .i64 xa] 75))
      have BR1 := hideC (B.new wr #[.int .i64 xp, .string xn, .int .i64 xa] 75)
      obtain ⟨W, hW⟩ : ∃ W, W = wr.alloc (.cells #[.int .i64 xp, .string xn, .int .i64 xa] 75) := ⟨_, rfl⟩
      have HW := hideC hW
      rw [← hW] at HB1 BX1 BR1
      have hkin := Q.kin_some W
      have hkc := @Q.cell_kin W
      have hlw := B.isLt BX1.out
      have hlr := B.isLt BR1.out
      have hlb : b < W.heap.size := Nat.lt_of_lt_of_le hbl HB1.out.size
      have k0 : ∀ x : Q.Kin W.heap.size W, x.world.cell? ⟨wr.heap.size, 0, none⟩ = some (.int .i64 xp) := fun x => by rw [hkc x _ _ hlr]; exact B.cell BR1.out 0 rfl
      have k1 : ∀ x : Q.Kin W.heap.size W, x.world.cell? ⟨w.heap.size, 4, none⟩ = some (.slice (some ⟨b, off, none⟩) rs.length cr) := fun x => by rw [hkc x _ _ hlw]; exact B.cell BX1.out 4 (by rw [HX.out]; rfl)
      have HSC : Hid (∀ o, W.cell? ⟨b, o, none⟩ = wr.cell? ⟨b, o, none⟩) := fun o => by rw [HW.out]; exact (Below.refl wr.heap.size wr).alloc (Nat.le_refl _) _ |>.cell (p := ⟨b, o, none⟩) hbr
      clear hW hlw hlr
      by_cases hk0 : k = 0
      · subst hk0
        simp only [Nat.zero_mul, Nat.add_zero] at c0 c1 c2
        have HOK : Hid (M.relAt I 0 = M.wholeB gs xp) := HK.out.trans (by simp)
        clear HPV hkc
        go_wp2
        rw [← HW.out]
        refine Q.region_kin (by kernel_rfl) (by kernel_rfl) ?_
        repeat (first | go_big_quiet_step (fail) | quiet_step (fail))
        refine wpQuiet_nil ?_
        intro _ hw'
        obtain ⟨x, hw''⟩ := hw'
        subst hw''
        go_wp2
        have HBX := hideC (HB1.out.trans (x.keeps.mono HB1.out.size))
        have BXX := hideC (B.below BX1.out x.keeps (B.isLt BX1.out))
        have BRX := hideC (B.below BR1.out x.keeps (B.isLt BR1.out))
        go_loopw [31] (fun i wq => ∃ n : Nat, n ≤ 8 ∧ i = .int .i64 n ∧ (∀ m : Nat, m < n → M.placedB gs (xp + m) = true) ∧ wq.heap[w.heap.size]? = some (.cells X 27 (0, 0)) ∧ wq.heap[wr.heap.size]? = some (.cells #[.int .i64 xp, .string xn, .int .i64 xa] 75 (0, 0)) ∧ Below w.heap.size w wq) (fun i _ => 8 - (intOf i).toNat)
        case atStart => exact ⟨0, by omega, rfl, fun j h => by omega, BXX.out, BRX.out, HBX.out⟩
        case round =>
          rename_i wq _ _
          obtain ⟨n, hn, rfl, hall, hbox, hbr2, hb⟩ := hrel
          have HA2 := hideC hall
          have BX2 := hideC hbox
          have BR2 := hideC hbr2
          have HB2 := hideC hb
          have q2 := B.cell hbox 2 (by rw [HX.out]; rfl)
          have q0 := B.cell hbr2 0 rfl
          clear hall hbox hbr2 hb
          by_cases hn8 : n < 8
          · have hn8' : (n : Int) < 8 := by omega
            have hfit : 1 ≤ n → 0 ≤ xp ∧ xp < 4080 := fun h => placed_bounds HG.out xp (by have := HA2.out 0 (by omega); simpa using this)
            have hfs : M.I64 (xp + n) := by unfold M.I64; rcases Nat.eq_zero_or_pos n with h | h <;> omega
            have hfs' := hfs
            unfold M.I64 at hfs'
            clear hfit
            cases hc : M.placedB gs (xp + n)
            · have HR := hideC (HNO.out 0 hlt (HOK.out.trans (whole_no n hn8 hc)))
              go_wp2_with (go_at_call 87; refine (segAt_any gs ag cg (xp + n) _ (M.HasBy.below (lie := M.LieG) (fun hb hlt h => M.lieG hb hlt h) H2.out HB2.out) F4.out HG.out hfs).mono ?_; rintro e w3 ⟨rfl, hb3⟩; rw [hc]; generalize segOr gs (xp + n) = sg; obtain ⟨sp, sn, sd, sx, sy⟩ := sg; simp only [cellsG]; have HB3 := hideC (HB2.out.trans (hb3.mono HB2.out.size)); have BX3 := hideC (B.below BX2.out hb3 (B.isLt BX2.out)); have BR3 := hideC (B.below BR2.out hb3 (B.isLt BR2.out)); clear hb3)
              go_ret
              exact ⟨ret_bool HR.out.symm, HB3.out.alloc HB3.out.size _⟩
            · go_wp2_with (go_at_call 87; refine (segAt_any gs ag cg (xp + n) _ (M.HasBy.below (lie := M.LieG) (fun hb hlt h => M.lieG hb hlt h) H2.out HB2.out) F4.out HG.out hfs).mono ?_; rintro e w3 ⟨rfl, hb3⟩; rw [hc]; generalize segOr gs (xp + n) = sg; obtain ⟨sp, sn, sd, sx, sy⟩ := sg; simp only [cellsG]; have HB3 := hideC (HB2.out.trans (hb3.mono HB2.out.size)); have BX3 := hideC (B.below BX2.out hb3 (B.isLt BX2.out)); have BR3 := hideC (B.below BR2.out hb3 (B.isLt BR2.out)); clear hb3)
              go_roundw
              case rel => exact ⟨n + 1, by omega, by go_num, fun j h => if e : j = n then by rw [e]; exact hc else HA2.out j (by omega), B.alloc BX3.out _, B.alloc BR3.out _, HB3.out.alloc HB3.out.size _⟩
              case measure => simp [intOf]; omega
          · obtain rfl : n = 8 := by omega
            have HGO : Hid (M.relsTo I (0 + 1) = true) := by show (M.relsTo I 0 && M.relAt I 0) = true; rw [HA.out, HOK.out, whole_yes (fun m hm => HA2.out m hm)]; rfl
            go_wp2
            go_roundw
            case rel => exact ⟨0 + 1, by omega, by go_num, HGO.out, BX2.out, HB2.out⟩
            case measure => simp [intOf]; omega
      · have hk1 : 1 ≤ k := by omega
        obtain ⟨p0, p1, p2⟩ := HPV.out hk1
        have k2 : ∀ x : Q.Kin W.heap.size W, x.world.cell? ⟨b, off + (k - 1) * 3, none⟩ = some (.int .i64 q) := fun x => by rw [hkc x _ _ hlb, HSC.out]; exact p0
        have hki : (0 : Int) < (k : Int) := by omega
        have hki2 : 0 < k := by omega
        have hki3 : (1 : Int) ≤ (k : Int) := by omega
        clear hkc hlb p0
        by_cases d : xp < q + 8
        · have HOK : Hid (M.relAt I k = false) := by show _ = _; rw [HK.out, decide_eq_false (by omega), show (k == 0) = false from by simp; omega]; rfl
          go_wp2
          rw [← HW.out]
          refine Q.region_kin (by kernel_rfl) (by kernel_rfl) ?_
          repeat (first | go_big_quiet_step (fail) | quiet_step (fail))
          refine wpQuiet_nil ?_
          intro _ hw'
          obtain ⟨x, hw''⟩ := hw'
          subst hw''
          go_wp2
          go_ret
          exact ⟨ret_bool (HNO.out k hlt HOK.out).symm, HB1.out.trans (x.keeps.mono HB1.out.size)⟩
        · have HOK : Hid (M.relAt I k = M.wholeB gs xp) := by show _ = _; rw [HK.out, decide_eq_true (by omega)]; simp
          go_wp2
          rw [← HW.out]
          refine Q.region_kin (by kernel_rfl) (by kernel_rfl) ?_
          repeat (first | go_big_quiet_step (fail) | quiet_step (fail))
          refine wpQuiet_nil ?_
          intro _ hw'
          obtain ⟨x, hw''⟩ := hw'
          subst hw''
          go_wp2
          have HBX := hideC (HB1.out.trans (x.keeps.mono HB1.out.size))
          have BXX := hideC (B.below BX1.out x.keeps (B.isLt BX1.out))
          have BRX := hideC (B.below BR1.out x.keeps (B.isLt BR1.out))
          go_loopw [31] (fun i wq => ∃ n : Nat, n ≤ 8 ∧ i = .int .i64 n ∧ (∀ m : Nat, m < n → M.placedB gs (xp + m) = true) ∧ wq.heap[w.heap.size]? = some (.cells X 27 (0, 0)) ∧ wq.heap[wr.heap.size]? = some (.cells #[.int .i64 xp, .string xn, .int .i64 xa] 75 (0, 0)) ∧ Below w.heap.size w wq) (fun i _ => 8 - (intOf i).toNat)
          case atStart => exact ⟨0, by omega, rfl, fun j h => by omega, BXX.out, BRX.out, HBX.out⟩
          case round =>
            rename_i wq _ _
            obtain ⟨n, hn, rfl, hall, hbox, hbr2, hb⟩ := hrel
            have HA2 := hideC hall
            have BX2 := hideC hbox
            have BR2 := hideC hbr2
            have HB2 := hideC hb
            have q2 := B.cell hbox 2 (by rw [HX.out]; rfl)
            have q0 := B.cell hbr2 0 rfl
            clear hall hbox hbr2 hb
            by_cases hn8 : n < 8
            · have hn8' : (n : Int) < 8 := by omega
              have hfit : 1 ≤ n → 0 ≤ xp ∧ xp < 4080 := fun h => placed_bounds HG.out xp (by have := HA2.out 0 (by omega); simpa using this)
              have hfs : M.I64 (xp + n) := by unfold M.I64; rcases Nat.eq_zero_or_pos n with h | h <;> omega
              have hfs' := hfs
              unfold M.I64 at hfs'
              clear hfit
              cases hc : M.placedB gs (xp + n)
              · have HR := hideC (HNO.out k hlt (HOK.out.trans (whole_no n hn8 hc)))
                go_wp2_with (go_at_call 87; refine (segAt_any gs ag cg (xp + n) _ (M.HasBy.below (lie := M.LieG) (fun hb hlt h => M.lieG hb hlt h) H2.out HB2.out) F4.out HG.out hfs).mono ?_; rintro e w3 ⟨rfl, hb3⟩; rw [hc]; generalize segOr gs (xp + n) = sg; obtain ⟨sp, sn, sd, sx, sy⟩ := sg; simp only [cellsG]; have HB3 := hideC (HB2.out.trans (hb3.mono HB2.out.size)); have BX3 := hideC (B.below BX2.out hb3 (B.isLt BX2.out)); have BR3 := hideC (B.below BR2.out hb3 (B.isLt BR2.out)); clear hb3)
                go_ret
                exact ⟨ret_bool HR.out.symm, HB3.out.alloc HB3.out.size _⟩
              · go_wp2_with (go_at_call 87; refine (segAt_any gs ag cg (xp + n) _ (M.HasBy.below (lie := M.LieG) (fun hb hlt h => M.lieG hb hlt h) H2.out HB2.out) F4.out HG.out hfs).mono ?_; rintro e w3 ⟨rfl, hb3⟩; rw [hc]; generalize segOr gs (xp + n) = sg; obtain ⟨sp, sn, sd, sx, sy⟩ := sg; simp only [cellsG]; have HB3 := hideC (HB2.out.trans (hb3.mono HB2.out.size)); have BX3 := hideC (B.below BX2.out hb3 (B.isLt BX2.out)); have BR3 := hideC (B.below BR2.out hb3 (B.isLt BR2.out)); clear hb3)
                go_roundw
                case rel => exact ⟨n + 1, by omega, by go_num, fun j h => if e : j = n then by rw [e]; exact hc else HA2.out j (by omega), B.alloc BX3.out _, B.alloc BR3.out _, HB3.out.alloc HB3.out.size _⟩
                case measure => simp [intOf]; omega
            · obtain rfl : n = 8 := by omega
              have HGO : Hid (M.relsTo I (k + 1) = true) := by show (M.relsTo I k && M.relAt I k) = true; rw [HA.out, HOK.out, whole_yes (fun m hm => HA2.out m hm)]; rfl
              go_wp2
              go_roundw
              case rel => exact ⟨k + 1, by omega, by go_num, HGO.out, BX2.out, HB2.out⟩
              case measure => simp [intOf]; omega
    · obtain rfl : k = rs.length := by omega
      clear hb
      go_wp2
      go_ret
      exact ⟨ret_bool HA.out.symm, HB.out⟩
end Go.Proofs.Yteieplodndfbhaa.W
namespace Go.Proofs.Yteieplodndfbhaa.W
open Go.RowKit Go.WideMaps Go.Maps
set_option linter.unusedVariables false
set_option maxRecDepth 100000

theorem law : Keyed Try.prog 9 := string_keyed Try.underlying9
theorem zero3 (w : World) : (zeroValue 3).run Try.prog w = .ok (.int .i64 0) w := by kernel_rfl
/-- a name as a key -/
def keyS (s : ByteArray) : Lit := .string s.data.toList
theorem keyS_inj {s t : ByteArray} (h : keyS s = keyS t) : s = t := by
  unfold keyS at h
  injection h with h
  cases s; cases t
  congr 1
  exact Array.toList_inj.1 h
theorem keyS_ok {s : ByteArray} (h : M.Short s.size) : keyOf Try.prog 9 (.string s) = some (keyS s) := keyOf_string_mk Try.underlying9 (by unfold M.Short at h; unfold maxLen; omega)
instance lawfulBA : LawfulBEq ByteArray where
  eq_of_beq {a b} h := by
    cases a; cases b
    congr 1
    exact eq_of_beq (α := Array UInt8) h
  rfl {a} := by
    cases a
    exact beq_self_eq_true (α := Array UInt8) _
/-- the map counts each of the first k names once -/
def Cnt (l : List ByteArray) (k : Nat) (D : DataW Unit) : Prop := ∀ s : ByteArray, D.atKey (keyS s) (.lit (.int .i64 0)) = .lit (.int .i64 (if (l.take k).contains s then 1 else 0))
theorem cnt_zero (l : List ByteArray) : Cnt l 0 (.map []) := fun s => by simp [DataW.atKey]
theorem contains_step (l : List ByteArray) (k : Nat) (hk : k < l.length) (s : ByteArray) : (l.take (k + 1)).contains s = ((l.take k).contains s || s == M.strAt l k) := by
  rw [List.take_add_one, List.getElem?_eq_getElem hk]
  have e : M.strAt l k = l[k] := by unfold M.strAt; rw [List.getD_eq_getElem?_getD, List.getElem?_eq_getElem hk]; rfl
  rw [e]
  have g : ∀ (m : List ByteArray) (a : ByteArray), (m ++ [a]).contains s = (m.contains s || s == a) := fun m a => by
    rw [Bool.eq_iff_iff]
    simp
  exact g _ _
theorem cnt_step {l : List ByteArray} {k : Nat} {D : DataW Unit} (hk : k < l.length) (hD : IsMap D) (h : Cnt l k D) : Cnt l (k + 1) (D.put (keyS (M.strAt l k)) (.lit (.int .i64 1))) := fun s => by
  rw [contains_step l k hk s]
  by_cases e : s = M.strAt l k
  · subst e
    rw [atKey_put_same hD (by trivial)]
    simp
  · rw [atKey_put_other (fun g => e (keyS_inj g)), h s]
    have : (s == M.strAt l k) = false := by simpa using e
    rw [this, Bool.or_false]
theorem once_mono (l : List ByteArray) (k n : Nat) (h : M.onceTo l k = false) (hk : k ≤ n) : M.onceTo l n = false := by
  induction n with
  | zero => obtain rfl : k = 0 := by omega
            exact h
  | succ n ih =>
    rcases Nat.lt_or_ge n k with g | g
    · obtain rfl : k = n + 1 := by omega
      exact h
    · simp only [M.onceTo]
      rw [ih g]; rfl

set_option maxHeartbeats 2000000 in
theorem twice_any (l : List ByteArray) (ao : Option Addr) (cap : Nat) (w : World) (h : M.HasBy M.LieS w ao l) (hn : M.Short l.length) (hf : ∀ k, k < l.length → M.Short (M.strAt l k).size) :
    Calls Try.prog 72 #[.slice ao l.length cap] w fun e w' => e = .returned (.bool (!M.onceB l)) ∧ Below w.heap.size w w' := by
  unfold M.Short at hn
  have H := hideC h
  have F := hideC hf
  clear h hf
  have hmm := @run_makeMap Try.prog
  go_enter Try.func72, Try.ntmps72
  go_wp2
  go_loopw [9] (fun i wr => ∃ (k : Nat) (D : DataW Unit), k ≤ l.length ∧ i = .int .i64 k ∧ wr.ownsMap Try.prog 9 (plainElem Try.prog 3) w.heap.size k D ∧ Cnt l k D ∧ M.onceTo l k = true ∧ Below w.heap.size w wr) (fun i _ => l.length - (intOf i).toNat)
  case atStart => exact ⟨0, .map [], Nat.zero_le _, rfl, World.ownsMap_made _ _ _ _, cnt_zero l, rfl, (Below.refl _ _).alloc (Nat.le_refl _) _⟩
  case round =>
    obtain ⟨k, D, hk, rfl, hown, hcnt, honce, hb⟩ := hrel
    have HO := hideC honce
    have HC := hideC hcnt
    have HB := hideC hb
    have HW := hideC hown
    clear honce hcnt
    by_cases hlt : k < l.length
    · obtain ⟨b, off, hao, hbl, hl⟩ := H.out (by omega)
      subst hao
      have hli : (k : Int) < (l.length : Int) := by omega
      have c0 := M.lieS hb hbl hl k hlt
      have fs := F.out k hlt
      have HCS := hideC (cnt_step hlt hown.isMap HC.out)
      have HN : Hid (M.onceTo l (k + 1) = !(l.take k).contains (M.strAt l k)) := by show (M.onceTo l k && _) = _; rw [HO.out]; rfl
      have hcx := HC.out (M.strAt l k)
      obtain ⟨s, hs⟩ : ∃ s, s = M.strAt l k := ⟨_, rfl⟩
      rw [← hs] at c0 fs HCS HN hcx
      clear hs hb hl
      have hkey := keyS_ok fs
      obtain ⟨c, hrun, hat, _⟩ := hown.lookup_int law Try.underlying144 Try.underlying3 (zero3 _) hkey
      rw [hcx] at hat
      have hkm : k < maxLen := by unfold maxLen; omega
      cases hc : (l.take k).contains s
      · rw [hc] at hat HN
        have e : c = 0 := by injection hat with hat; injection hat with _ hat; exact hat.symm
        subst e
        clear hat hcx
        go_wp2_with (first | (at_mapUpdate; refine wpList_mapUpdate_own _ rfl _ _ _ 144 rfl 9 3 law Try.underlying144 _ w.heap.size k _ rfl HW.out hkm _ _ _ rfl rfl hkey _ [] (plainElem_int Try.underlying3 (by decide)) ?_) | go_in)
        intro w1 hown1 hgrow1
        have R2 := hideC (HB.out.grown hgrow1 HB.out.size (fun j hj => by cases hj; exact Nat.le_refl _))
        obtain ⟨c, hrun1, hat1, _⟩ := hown1.lookup_int law Try.underlying144 Try.underlying3 (zero3 _) hkey
        rw [atKey_put_same HW.out.isMap (by trivial)] at hat1
        have e : c = 1 := by injection hat1 with hat1; injection hat1 with _ hat1; exact hat1.symm
        subst e
        have HW1 := hideC hown1
        clear hat1 hown hrun hgrow1 hown1
        go_wp2
        go_roundw
        case rel => exact ⟨k + 1, _, by omega, by go_num, HW1.out, HCS.out, HN.out, R2.out⟩
        case measure => simp [intOf]; omega
      · rw [hc] at hat HN
        have e : c = 1 := by injection hat with hat; injection hat with _ hat; exact hat.symm
        subst e
        clear hat hcx
        have HR := hideC (once_mono l (k + 1) l.length HN.out hlt)
        go_wp2_with (first | (at_mapUpdate; refine wpList_mapUpdate_own _ rfl _ _ _ 144 rfl 9 3 law Try.underlying144 _ w.heap.size k _ rfl HW.out hkm _ _ _ rfl rfl hkey _ [] (plainElem_int Try.underlying3 (by decide)) ?_) | go_in)
        intro w1 hown1 hgrow1
        have R2 := hideC (HB.out.grown hgrow1 HB.out.size (fun j hj => by cases hj; exact Nat.le_refl _))
        obtain ⟨c, hrun1, hat1, _⟩ := hown1.lookup_int law Try.underlying144 Try.underlying3 (zero3 _) hkey
        rw [atKey_put_same HW.out.isMap (by trivial)] at hat1
        have e : c = 2 := by injection hat1 with hat1; injection hat1 with _ hat1; exact hat1.symm
        subst e
        clear hat1 hown hrun hgrow1 hown1
        go_wp2
        go_ret
        exact ⟨ret_bool (by unfold M.onceB; rw [HR.out]; rfl), R2.out⟩
    · obtain rfl : k = l.length := by omega
      clear hb
      go_wp2
      go_ret
      exact ⟨ret_bool (by unfold M.onceB; rw [HO.out]; rfl), HB.out⟩
end Go.Proofs.Yteieplodndfbhaa.W
/- Images by their names: what the map has; plain Lean. -/
namespace Go.Proofs.Yteieplodndfbhaa.LM
open Go.RowKit Go.WideMaps Go.Maps
set_option linter.unusedVariables false
set_option maxRecDepth 100000

/-- an image, and where its lists lie -/
structure Li where
  i : M.Im
  a : M.At
def li0 : Li := ⟨⟨⟨#[]⟩, [], [], [], [], 0⟩, ⟨none, 0, none, 0, none, 0, none, 0⟩⟩
def liAt (l : List Li) (k : Nat) : Li := l.getD k li0
def imgV (x : Li) : Value := .agg (M.cellsI x.a x.i)
def LieI (w : World) (b off : Nat) (l : List Li) : Prop := ∀ k, k < l.length →
  (w.cell? ⟨b, off + k * 6, none⟩ = some (.string (liAt l k).i.name) ∧ w.cell? ⟨b, off + k * 6 + 1, none⟩ = some (.slice (liAt l k).a.an (liAt l k).i.needs.length (liAt l k).a.cn) ∧
   w.cell? ⟨b, off + k * 6 + 2, none⟩ = some (.slice (liAt l k).a.ag (liAt l k).i.segs.length (liAt l k).a.cg) ∧ w.cell? ⟨b, off + k * 6 + 3, none⟩ = some (.slice (liAt l k).a.ay (liAt l k).i.syms.length (liAt l k).a.cy) ∧
   w.cell? ⟨b, off + k * 6 + 4, none⟩ = some (.slice (liAt l k).a.ar (liAt l k).i.rels.length (liAt l k).a.cr) ∧ w.cell? ⟨b, off + k * 6 + 5, none⟩ = some (.int .i64 (liAt l k).i.entry)) ∧ M.HasIm w (liAt l k).a (liAt l k).i
theorem lieI {w w' : World} {b off : Nat} {l : List Li} (hb : Below w.heap.size w w') (hlt : b < w.heap.size) (h : LieI w b off l) : LieI w' b off l := fun k hk => by
  obtain ⟨⟨c0, c1, c2, c3, c4, c5⟩, hi⟩ := h k hk
  exact ⟨⟨(M.below_cell hb hlt).trans c0, (M.below_cell hb hlt).trans c1, (M.below_cell hb hlt).trans c2, (M.below_cell hb hlt).trans c3, (M.below_cell hb hlt).trans c4, (M.below_cell hb hlt).trans c5⟩, hi.below hb⟩
def HasI (w : World) (ao : Option Addr) (l : List Li) : Prop := M.HasBy LieI w ao l
theorem HasI.below {w w' : World} {ao : Option Addr} {l : List Li} (h : HasI w ao l) (hb : Below w.heap.size w w') : HasI w' ao l := M.HasBy.below (lie := LieI) (fun hb hlt h => lieI hb hlt h) h hb
def FitI (l : List Li) : Prop := M.Short l.length ∧ ∀ k, k < l.length → M.Fit (liAt l k).i

/-- what is wrong with the first k images -/
def errTo (l : List Li) : Nat → Int
  | 0 => 0
  | k + 1 => if errTo l k = 0 then M.chkN (liAt l k).i else errTo l k
def namesL (l : List Li) : List ByteArray := l.map (·.i.name)
/-- the error that byName tells -/
def byErr (l : List Li) : Int := if errTo l l.length = 0 then (if M.onceB (namesL l) then 0 else 5) else errTo l l.length
theorem errTo_stays (l : List Li) (k : Nat) (h : errTo l k ≠ 0) : ∀ n, k ≤ n → errTo l n = errTo l k
  | 0, hn => by obtain rfl : k = 0 := by omega
                rfl
  | n + 1, hn => by
    by_cases e : k = n + 1
    · subst e; rfl
    · have ih := errTo_stays l k h n (by omega)
      simp only [errTo]
      rw [ih, if_neg h]
theorem errTo_none (l : List Li) : ∀ n, errTo l n = 0 → ∀ k, k < n → M.chkN (liAt l k).i = 0
  | 0, _, k, hk => by omega
  | n + 1, h, k, hk => by
    simp only [errTo] at h
    by_cases e0 : errTo l n = 0
    · rw [if_pos e0] at h
      by_cases e : k = n
      · subst e; exact h
      · exact errTo_none l n e0 k (by omega)
    · rw [if_neg e0] at h
      exact (e0 h).elim
theorem namesL_at (l : List Li) (k : Nat) (hk : k < l.length) : M.strAt (namesL l) k = (liAt l k).i.name := by
  unfold M.strAt namesL liAt
  rw [List.getD_eq_getElem?_getD, List.getD_eq_getElem?_getD, List.getElem?_map, List.getElem?_eq_getElem hk]
  rfl
theorem namesL_length (l : List Li) : (namesL l).length = l.length := by simp [namesL]

def Rv (v : Value) : Option (DataW Value × List MemPlace) := some (.held v, [])
def zImg : Value := .agg #[.string ⟨#[]⟩, .slice none 0 0, .slice none 0 0, .slice none 0 0, .slice none 0 0, .int .i64 0]
/-- what the map has behind the first k images -/
structure Nm (l : List Li) (k : Nat) (D : DataW Value) : Prop where
  has : ∀ s, Maps.has D (W.keyS s) = ((namesL l).take k).contains s
  at_ : M.onceTo (namesL l) k = true → ∀ j, j < k → D.atKey (W.keyS (liAt l j).i.name) (.held zImg) = .held (imgV (liAt l j))
  le : Maps.size D ≤ k
  all : Maps.size D = k ↔ M.onceTo (namesL l) k = true
theorem nm_zero (l : List Li) : Nm l 0 (.map []) := ⟨fun s => by simp [Maps.has], fun _ j hj => by omega, by simp [Maps.size], by simp [Maps.size, M.onceTo]⟩
theorem name_in (l : List Li) (k j : Nat) (hj : j < k) (hk : k ≤ l.length) : ((namesL l).take k).contains (liAt l j).i.name = true := by
  have h1 : j < ((namesL l).take k).length := by rw [List.length_take, namesL_length]; omega
  have h2 : ((namesL l).take k)[j] = (liAt l j).i.name := by
    rw [List.getElem_take]
    have h3 : j < (namesL l).length := by rw [namesL_length]; omega
    have := namesL_at l j (by omega)
    unfold M.strAt at this
    rw [List.getD_eq_getElem?_getD, List.getElem?_eq_getElem h3] at this
    exact this
  rw [← h2]
  exact List.contains_iff_mem.2 (List.getElem_mem h1)
theorem nm_step {l : List Li} {k : Nat} {D : DataW Value} (hk : k < l.length) (hD : IsMap D) (hT : Maps.Tidy D) (h : Nm l k D) : Nm l (k + 1) (D.put (W.keyS (liAt l k).i.name) (.held (imgV (liAt l k)))) := by
  have hc := fun s => W.contains_step (namesL l) k (by rw [namesL_length]; exact hk) s
  have hat := namesL_at l k hk
  have hon : M.onceTo (namesL l) (k + 1) = (M.onceTo (namesL l) k && !((namesL l).take k).contains (liAt l k).i.name) := by simp only [M.onceTo]; rw [hat]
  have hsz := Maps.size_put (k := W.keyS (liAt l k).i.name) hT (.held (imgV (liAt l k)))
  rw [h.has] at hsz
  refine ⟨fun s => ?_, fun ho j hj => ?_, ?_, ?_⟩
  · rw [hc s, hat]
    by_cases e : s = (liAt l k).i.name
    · subst e
      rw [Maps.has_put_same hD (by trivial)]
      simp
    · rw [Maps.has_put_other (fun g => e (W.keyS_inj g)), h.has]
      have : (s == (liAt l k).i.name) = false := by simpa using e
      rw [this, Bool.or_false]
  · rw [hon] at ho
    simp only [Bool.and_eq_true, Bool.not_eq_true'] at ho
    by_cases e : j = k
    · subst e
      exact atKey_put_same hD (by trivial) _ _
    · have hin := name_in l k j (by omega) (by omega)
      rw [atKey_put_other (fun g => by
        have := W.keyS_inj g
        rw [this] at hin
        rw [ho.2] at hin
        cases hin)]
      exact h.at_ ho.1 j (by omega)
  · have := h.le
    split at hsz <;> omega
  · rw [hon]
    have h1 := h.le
    have h2 := h.all
    cases hcn : ((namesL l).take k).contains (liAt l k).i.name
    · rw [hcn] at hsz
      simp only [Bool.false_eq_true, if_false] at hsz
      rw [hsz]
      simp only [Bool.not_false, Bool.and_true]
      rw [← h2]
      omega
    · rw [hcn] at hsz
      simp only [if_true] at hsz
      rw [hsz]
      simp only [Bool.not_true, Bool.and_false, Bool.false_eq_true, iff_false]
      omega
end Go.Proofs.Yteieplodndfbhaa.LM
/- The order of the objects; plain Lean. -/
namespace Go.Proofs.Yteieplodndfbhaa.LM
open Go.RowKit
set_option linter.unusedVariables false
set_option maxRecDepth 100000

/-- the image of that name -/
def ixOf (all : List Li) (s : ByteArray) : Option Nat := all.findIdx? (fun x => decide (x.i.name = s))
theorem liAt_get (all : List Li) (j : Nat) (h : j < all.length) : liAt all j = all[j] := by
  unfold liAt
  rw [List.getD_eq_getElem?_getD, List.getElem?_eq_getElem h]
  rfl
theorem ixOf_some {all : List Li} {s : ByteArray} {j : Nat} (h : ixOf all s = some j) : j < all.length ∧ (liAt all j).i.name = s := by
  unfold ixOf at h
  obtain ⟨hj, hp, _⟩ := List.findIdx?_eq_some_iff_getElem.1 h
  exact ⟨hj, by rw [liAt_get all j hj]; exact of_decide_eq_true hp⟩
theorem ixOf_none {all : List Li} {s : ByteArray} (h : ixOf all s = none) : (namesL all).contains s = false := by
  unfold ixOf at h
  have h1 := List.findIdx?_eq_none_iff.1 h
  cases e : (namesL all).contains s
  · rfl
  · have hm := List.contains_iff_mem.1 e
    unfold namesL at hm
    obtain ⟨x, hx, rfl⟩ := List.mem_map.1 hm
    have := h1 x hx
    simp at this
theorem once_inj {l : List ByteArray} (h : M.onceB l = true) {j k : Nat} (hj : j < l.length) (hk : k < l.length) (e : M.strAt l j = M.strAt l k) : j = k := by
  have key : ∀ j k, j < k → k < l.length → M.strAt l j = M.strAt l k → False := by
    intro j k hjk hk e
    have hs : ∀ n, n ≤ l.length → M.onceTo l n = true := by
      intro n hn
      cases q : M.onceTo l n
      · have := W.once_mono l n l.length q hn
        unfold M.onceB at h
        rw [this] at h
        cases h
      · rfl
    have h1 := hs (k + 1) (by omega)
    simp only [M.onceTo, Bool.and_eq_true, Bool.not_eq_true'] at h1
    have h2 : (l.take k).contains (M.strAt l k) = true := by
      rw [← e]
      refine List.contains_iff_mem.2 ?_
      have hl : j < (l.take k).length := by rw [List.length_take]; omega
      have e2 : (l.take k)[j] = M.strAt l j := by
        unfold M.strAt
        rw [List.getElem_take, List.getD_eq_getElem?_getD, List.getElem?_eq_getElem (by omega)]
        rfl
      rw [← e2]
      exact List.getElem_mem hl
    rw [h2] at h1
    cases h1.2
  rcases Nat.lt_trichotomy j k with g | g | g
  · exact (key j k g hk e).elim
  · exact g
  · exact (key k j g hj e.symm).elim
theorem name_inj {all : List Li} (h : M.onceB (namesL all) = true) {j k : Nat} (hj : j < all.length) (hk : k < all.length) (e : (liAt all j).i.name = (liAt all k).i.name) : j = k := by
  refine once_inj h (by rw [namesL_length]; exact hj) (by rw [namesL_length]; exact hk) ?_
  rw [namesL_at all j hj, namesL_at all k hk, e]

def addIx (ix : List Nat) (j : Nat) : List Nat := if ix.contains j then ix else ix ++ [j]
/-- behind the first k needs -/
def ordTo (all : List Li) (ix : List Nat) (needs : List ByteArray) : Nat → Option (List Nat)
  | 0 => some ix
  | k + 1 => match ordTo all ix needs k with
    | none => none
    | some ix' => match ixOf all (M.strAt needs k) with
      | none => none
      | some j => some (addIx ix' j)
def needsAt (all : List Li) (ix : List Nat) (n : Nat) : List ByteArray := (liAt all (ix.getD n 0)).i.needs
/-- the order, from object n on -/
def gat (all : List Li) : Nat → Nat → List Nat → Option (List Nat)
  | 0, _, ix => some ix
  | f + 1, n, ix => if n < ix.length then (match ordTo all ix (needsAt all ix n) (needsAt all ix n).length with
    | none => none
    | some ix' => gat all f (n + 1) ix') else some ix
structure OkIx (all : List Li) (ix : List Nat) : Prop where
  pos : 0 < ix.length
  nodup : ix.Nodup
  lt : ∀ j ∈ ix, j < all.length
theorem pigeon : ∀ (L : Nat) (ix : List Nat), ix.Nodup → (∀ j ∈ ix, j < L) → ix.length ≤ L
  | 0, ix, _, h => by
    cases ix with
    | nil => exact Nat.le_refl _
    | cons x r => exact absurd (h x List.mem_cons_self) (by omega)
  | L + 1, ix, hn, h => by
    by_cases e : L ∈ ix
    · have h1 := pigeon L (ix.erase L) (hn.erase L) (fun j hj => by
        have h2 := (List.Nodup.mem_erase_iff hn).1 hj
        have := h j h2.2
        omega)
      rw [List.length_erase_of_mem e] at h1
      omega
    · have := pigeon L ix hn (fun j hj => by
        have h1 := h j hj
        have h2 : j ≠ L := fun g => e (g ▸ hj)
        omega)
      omega
theorem OkIx.le {all : List Li} {ix : List Nat} (h : OkIx all ix) : ix.length ≤ all.length := pigeon _ _ h.nodup h.lt
theorem OkIx.add {all : List Li} {ix : List Nat} (h : OkIx all ix) {j : Nat} (hj : j < all.length) : OkIx all (addIx ix j) := by
  unfold addIx
  split
  · exact h
  · rename_i hc
    have hc' : j ∉ ix := fun g => hc (List.contains_iff_mem.2 g)
    refine ⟨by rw [List.length_append]; have := h.pos; omega, ?_, fun k hk => ?_⟩
    · rw [List.nodup_append]
      exact ⟨h.nodup, by simp, fun a ha b hb e => by simp at hb; subst hb; subst e; exact hc' ha⟩
    · rcases List.mem_append.1 hk with g | g
      · exact h.lt k g
      · simp at g; omega
theorem addIx_len (ix : List Nat) (j : Nat) : ix.length ≤ (addIx ix j).length := by
  unfold addIx
  split
  · exact Nat.le_refl _
  · rw [List.length_append]; omega
theorem ordTo_none {all : List Li} {ix : List Nat} {needs : List ByteArray} {k : Nat} (h : ordTo all ix needs k = none) : ∀ n, k ≤ n → ordTo all ix needs n = none
  | 0, hn => by obtain rfl : k = 0 := by omega
                exact h
  | n + 1, hn => by
    by_cases e : k = n + 1
    · subst e; exact h
    · simp only [ordTo]
      rw [ordTo_none h n (by omega)]
theorem ordTo_step {all : List Li} {ix ix' : List Nat} {needs : List ByteArray} {k j : Nat} (h : ordTo all ix needs k = some ix') (hj : ixOf all (M.strAt needs k) = some j) : ordTo all ix needs (k + 1) = some (addIx ix' j) := by
  simp only [ordTo, h, hj]
theorem ordTo_miss {all : List Li} {ix ix' : List Nat} {needs : List ByteArray} {k : Nat} (h : ordTo all ix needs k = some ix') (hj : ixOf all (M.strAt needs k) = none) : ordTo all ix needs (k + 1) = none := by
  simp only [ordTo, h, hj]
theorem gat_end (all : List Li) (f n : Nat) (ix : List Nat) (h : ¬ n < ix.length) : gat all f n ix = some ix := by
  cases f with
  | zero => rfl
  | succ f => simp only [gat]; rw [if_neg h]
theorem gat_some (all : List Li) (f n : Nat) (ix ix' : List Nat) (h : n < ix.length) (ho : ordTo all ix (needsAt all ix n) (needsAt all ix n).length = some ix') : gat all (f + 1) n ix = gat all f (n + 1) ix' := by
  simp only [gat]
  rw [if_pos h, ho]
theorem gat_none (all : List Li) (f n : Nat) (ix : List Nat) (h : n < ix.length) (ho : ordTo all ix (needsAt all ix n) (needsAt all ix n).length = none) : gat all (f + 1) n ix = none := by
  simp only [gat]
  rw [if_pos h, ho]

/-- the objects, from that base on -/
def obsFrom (all : List Li) : Int → List Nat → List Ob
  | _, [] => []
  | b, j :: r => ⟨(liAt all j).i, (liAt all j).a, b⟩ :: obsFrom all (endO ⟨(liAt all j).i, (liAt all j).a, b⟩) r
def endFrom (all : List Li) : Int → List Nat → Int
  | b, [] => b
  | b, j :: r => endFrom all (endO ⟨(liAt all j).i, (liAt all j).a, b⟩) r
theorem obsFrom_length (all : List Li) : ∀ (ix : List Nat) (b : Int), (obsFrom all b ix).length = ix.length
  | [], _ => rfl
  | j :: r, b => by simp only [obsFrom, List.length_cons, obsFrom_length all r]
theorem obsFrom_snoc (all : List Li) (j : Nat) : ∀ (ix : List Nat) (b : Int), obsFrom all b (ix ++ [j]) = obsFrom all b ix ++ [⟨(liAt all j).i, (liAt all j).a, endFrom all b ix⟩]
  | [], b => rfl
  | k :: r, b => by simp only [List.cons_append, obsFrom, endFrom, obsFrom_snoc all j r]
theorem endFrom_snoc (all : List Li) (j : Nat) : ∀ (ix : List Nat) (b : Int), endFrom all b (ix ++ [j]) = endO ⟨(liAt all j).i, (liAt all j).a, endFrom all b ix⟩
  | [], b => rfl
  | k :: r, b => by simp only [List.cons_append, endFrom, endFrom_snoc all j r]
theorem obsFrom_at (all : List Li) : ∀ (ix : List Nat) (b : Int) (k : Nat), k < ix.length → (obAt (obsFrom all b ix) k).i = (liAt all (ix.getD k 0)).i ∧ (obAt (obsFrom all b ix) k).a = (liAt all (ix.getD k 0)).a ∧ (obAt (obsFrom all b ix) k).base = endFrom all b (ix.take k)
  | [], _, k, hk => by simp at hk
  | j :: r, b, 0, _ => ⟨rfl, rfl, rfl⟩
  | j :: r, b, k + 1, hk => by
    have := obsFrom_at all r (endO ⟨(liAt all j).i, (liAt all j).a, b⟩) k (by simpa using hk)
    simpa [obAt, obsFrom, endFrom] using this
theorem obsFrom_last (all : List Li) (ix : List Nat) (b : Int) (h : 0 < ix.length) : endO (obAt (obsFrom all b ix) (ix.length - 1)) = endFrom all b ix := by
  obtain ⟨r, j, rfl⟩ : ∃ r j, ix = r ++ [j] := ⟨ix.dropLast, ix.getLast (by intro e; subst e; simp at h), (List.dropLast_concat_getLast _).symm⟩
  rw [obsFrom_snoc, endFrom_snoc]
  have e : (r ++ [j]).length - 1 = (obsFrom all b r).length := by rw [obsFrom_length]; simp
  rw [e]
  unfold obAt
  rw [List.getD_eq_getElem?_getD, List.getElem?_append_right (Nat.le_refl _)]
  simp
theorem getD_mem (ix : List Nat) (k : Nat) (h : k < ix.length) : ix.getD k 0 ∈ ix := by
  rw [List.getD_eq_getElem?_getD, List.getElem?_eq_getElem h]
  exact List.getElem_mem h
/-- bases are small numbers -/
theorem endFrom_bounds (all : List Li) (hc : ∀ j, j < all.length → M.chkN (liAt all j).i = 0) : ∀ (ix : List Nat) (b : Int), (∀ j ∈ ix, j < all.length) → b ≤ endFrom all b ix ∧ endFrom all b ix ≤ b + 255 * (ix.length : Int)
  | [], b, _ => by simp [endFrom]
  | j :: r, b, h => by
    have hl := last_bounds (hc j (h j List.mem_cons_self))
    have ih := endFrom_bounds all hc r (endO ⟨(liAt all j).i, (liAt all j).a, b⟩) (fun k hk => h k (List.mem_cons_of_mem _ hk))
    simp only [endFrom]
    have e : endO ⟨(liAt all j).i, (liAt all j).a, b⟩ = b + (lastSeg (liAt all j).i).page + (lastSeg (liAt all j).i).pages := rfl
    rw [e] at ih ⊢
    simp only [List.length_cons]
    omega
/-- the cells of an object, one behind the other -/
def cellO (o : Ob) : List Value := (cellsO o).toList
theorem cellO_length (o : Ob) : (cellO o).length = 7 := rfl
end Go.Proofs.Yteieplodndfbhaa.LM
