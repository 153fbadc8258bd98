import Derived.Test.YteieplodndfbhaaGK16
import Derived.Deep.AppendLies
namespace Go.Proofs.Yteieplodndfbhaa.W
open Go.RowKit
set_option linter.unusedVariables false
set_option maxRecDepth 100000

theorem chk_names {i : M.Im} (h : M.namesB i = false) : M.chkN i = 4 := by unfold M.chkN; rw [h]; rfl
theorem chk_counts {i : M.Im} (h1 : M.namesB i = true) (h : M.countsB i = false) : M.chkN i = 2 := by unfold M.chkN; rw [h1, h]; rfl
theorem chk_ranges {i : M.Im} (h1 : M.namesB i = true) (h2 : M.countsB i = true) (h : M.rangesB i = false) : M.chkN i = 3 := by unfold M.chkN; rw [h1, h2, h]; rfl
theorem chk_there {i : M.Im} (h1 : M.namesB i = true) (h2 : M.countsB i = true) (h3 : M.rangesB i = true) (h : M.thereB i = false) : M.chkN i = 5 := by unfold M.chkN; rw [h1, h2, h3, h]; rfl
theorem chk_places {i : M.Im} (h1 : M.namesB i = true) (h2 : M.countsB i = true) (h3 : M.rangesB i = true) (h4 : M.thereB i = true) : M.chkN i = if M.placesB i then 0 else 6 := by
  unfold M.chkN; rw [h1, h2, h3, h4]; cases M.placesB i <;> rfl

set_option maxHeartbeats 3000000 in
theorem checkImage_any (i : M.Im) (a : M.At) (w : World) (h : M.HasIm w a i) (hf : M.Fit i) : Calls Try.prog 24 #[.agg (M.cellsI a i)] w fun e w' => e = .returned (.int .i64 (M.chkN i)) ∧ Below w.heap.size w w' := by
  obtain ⟨an, cn, ag, cg, ay, cy, ar, cr⟩ := a
  obtain ⟨nm, ns, gs, ys, rs, en⟩ := i
  have HI := hideC h
  have HF := hideC hf
  have FY : Hid (∀ k, k < (ys.map (·.name)).length → M.Short (M.strAt (ys.map (·.name)) k).size) := fun k hk => by
    have hk' : k < ys.length := by simpa using hk
    rw [strAt_map ys k hk']
    exact (hf.sym k hk').1
  obtain ⟨f1, f2, f3, f4, f5, f6, f7, f8, f9, f10⟩ := hf
  simp only at f2 f4 f5 f6 f8
  unfold M.Short at f2 f4 f6 f8
  have F5 := hideC f5
  clear h f1 f3 f5 f7 f9 f10
  obtain ⟨L, hL⟩ : ∃ L, L = ys.map (·.name) := ⟨_, rfl⟩
  rw [← hL] at FY
  have HL := hideC hL
  have hyl' : ys.length ≤ 12 → M.Short L.length := fun h => by rw [hL]; unfold M.Short; simp; omega
  clear hL
  simp only [M.cellsI]
  have HB := hideC ((Below.refl w.heap.size w).alloc (Nat.le_refl _) (.cells #[.string nm, .slice an ns.length cn, .slice ag gs.length cg, .slice ay ys.length cy, .slice ar rs.length cr, .int .i64 en] 27))
  have BX := hideC (B.new w #[.string nm, .slice an ns.length cn, .slice ag gs.length cg, .slice ay ys.length cy, .slice ar rs.length cr, .int .i64 en] 27)
  obtain ⟨X, hX⟩ : ∃ X : Array Value, X = #[.string nm, .slice an ns.length cn, .slice ag gs.length cg, .slice ay ys.length cy, .slice ar rs.length cr, .int .i64 en] := ⟨_, rfl⟩
  have HX := hideC hX
  rw [← hX] at HB BX
  have H15 : Hid (∀ W, Below w.heap.size w W → Calls Try.prog 58 #[.agg X] W fun e w' => e = .returned (.bool (M.namesB ⟨nm, ns, gs, ys, rs, en⟩)) ∧ Below W.heap.size W w') := fun W hb => by rw [HX.out]; exact namesFine_any ⟨nm, ns, gs, ys, rs, en⟩ ⟨an, cn, ag, cg, ay, cy, ar, cr⟩ W (HI.out.below hb) HF.out
  have H18 : Hid (∀ W, Below w.heap.size w W → gs.all M.rangeB = true → Calls Try.prog 59 #[.agg X] W fun e w' => e = .returned (.bool (M.placesB ⟨nm, ns, gs, ys, rs, en⟩)) ∧ Below W.heap.size W w') := fun W hb hr => by rw [HX.out]; exact placesFine_any ⟨nm, ns, gs, ys, rs, en⟩ ⟨an, cn, ag, cg, ay, cy, ar, cr⟩ W (HI.out.below hb) HF.out hr
  have HCN : Hid (M.countsB ⟨nm, ns, gs, ys, rs, en⟩ = decide (1 ≤ gs.length ∧ gs.length ≤ 6 ∧ ns.length ≤ 4 ∧ ys.length ≤ 12 ∧ rs.length ≤ 16)) := rfl
  have HRG : Hid (M.rangesB ⟨nm, ns, gs, ys, rs, en⟩ = gs.all M.rangeB) := rfl
  have HTH : Hid (M.thereB ⟨nm, ns, gs, ys, rs, en⟩ = (M.apartB gs && (M.onceB ns && M.onceB L))) := by show _ = _; rw [HL.out]; rfl
  obtain ⟨I, hI⟩ : ∃ I : M.Im, I = ⟨nm, ns, gs, ys, rs, en⟩ := ⟨_, rfl⟩
  rw [← hI] at H15 H18 HCN HRG HTH
  rw [← hI]
  clear hI hX
  cases e1 : M.namesB I
  · go_enter Try.func24, Try.ntmps24
    go_wp2_with (first | (go_at_call 58; rw [← HX.out]; refine (H15.out _ HB.out).mono ?_; rintro e w' ⟨rfl, hb⟩; rw [e1]; have HB := hideC (HB.out.trans (hb.mono HB.out.size)); have BX := hideC (B.below BX.out hb (B.isLt BX.out)); have q0 := B.cell BX.out 0 (by rw [HX.out]; rfl); have q1 := B.cell BX.out 1 (by rw [HX.out]; rfl); have q2 := B.cell BX.out 2 (by rw [HX.out]; rfl); have q3 := B.cell BX.out 3 (by rw [HX.out]; rfl); have q4 := B.cell BX.out 4 (by rw [HX.out]; rfl); have q5 := B.cell BX.out 5 (by rw [HX.out]; rfl); clear hb) | (go_at_call 37; refine (inB_any _ _ _ _).mono ?_; rintro e w' ⟨rfl, rfl⟩; rw [d16]))
    go_ret
    exact ⟨ret_i64 (chk_names e1).symm, HB.out⟩
  · cases e2 : M.countsB I
    · have hno := of_decide_eq_false (HCN.out.symm.trans e2)
      by_cases a1 : 1 ≤ (gs.length : Int) ∧ (gs.length : Int) ≤ 6
      · have d16 : inB (gs.length : Int) 1 6 = true := inB_yes a1
        by_cases a2 : (ns.length : Int) ≤ 4
        · have a2' : ¬ 4 < (ns.length : Int) := by omega
          by_cases a3 : (ys.length : Int) ≤ 12
          · have a3' : ¬ 12 < (ys.length : Int) := by omega
            have a4 : 16 < (rs.length : Int) := by omega
            have a4' : 16 < rs.length := by omega
            have b2 : ns.length ≤ 4 := by omega
            have b3 : ys.length ≤ 12 := by omega
            clear hno
            go_enter Try.func24, Try.ntmps24
            go_wp2_with (first | (go_at_call 58; rw [← HX.out]; refine (H15.out _ HB.out).mono ?_; rintro e w' ⟨rfl, hb⟩; rw [e1]; have HB := hideC (HB.out.trans (hb.mono HB.out.size)); have BX := hideC (B.below BX.out hb (B.isLt BX.out)); have q0 := B.cell BX.out 0 (by rw [HX.out]; rfl); have q1 := B.cell BX.out 1 (by rw [HX.out]; rfl); have q2 := B.cell BX.out 2 (by rw [HX.out]; rfl); have q3 := B.cell BX.out 3 (by rw [HX.out]; rfl); have q4 := B.cell BX.out 4 (by rw [HX.out]; rfl); have q5 := B.cell BX.out 5 (by rw [HX.out]; rfl); clear hb) | (go_at_call 37; refine (inB_any _ _ _ _).mono ?_; rintro e w' ⟨rfl, rfl⟩; rw [d16]))
            go_ret
            exact ⟨ret_i64 (chk_counts e1 e2).symm, HB.out⟩
          · have a3' : 12 < (ys.length : Int) := by omega
            have b2 : ns.length ≤ 4 := by omega
            have b3 : 12 < ys.length := by omega
            clear hno
            go_enter Try.func24, Try.ntmps24
            go_wp2_with (first | (go_at_call 58; rw [← HX.out]; refine (H15.out _ HB.out).mono ?_; rintro e w' ⟨rfl, hb⟩; rw [e1]; have HB := hideC (HB.out.trans (hb.mono HB.out.size)); have BX := hideC (B.below BX.out hb (B.isLt BX.out)); have q0 := B.cell BX.out 0 (by rw [HX.out]; rfl); have q1 := B.cell BX.out 1 (by rw [HX.out]; rfl); have q2 := B.cell BX.out 2 (by rw [HX.out]; rfl); have q3 := B.cell BX.out 3 (by rw [HX.out]; rfl); have q4 := B.cell BX.out 4 (by rw [HX.out]; rfl); have q5 := B.cell BX.out 5 (by rw [HX.out]; rfl); clear hb) | (go_at_call 37; refine (inB_any _ _ _ _).mono ?_; rintro e w' ⟨rfl, rfl⟩; rw [d16]))
            go_ret
            exact ⟨ret_i64 (chk_counts e1 e2).symm, HB.out⟩
        · have a2' : 4 < (ns.length : Int) := by omega
          have b2 : 4 < ns.length := by omega
          clear hno
          go_enter Try.func24, Try.ntmps24
          go_wp2_with (first | (go_at_call 58; rw [← HX.out]; refine (H15.out _ HB.out).mono ?_; rintro e w' ⟨rfl, hb⟩; rw [e1]; have HB := hideC (HB.out.trans (hb.mono HB.out.size)); have BX := hideC (B.below BX.out hb (B.isLt BX.out)); have q0 := B.cell BX.out 0 (by rw [HX.out]; rfl); have q1 := B.cell BX.out 1 (by rw [HX.out]; rfl); have q2 := B.cell BX.out 2 (by rw [HX.out]; rfl); have q3 := B.cell BX.out 3 (by rw [HX.out]; rfl); have q4 := B.cell BX.out 4 (by rw [HX.out]; rfl); have q5 := B.cell BX.out 5 (by rw [HX.out]; rfl); clear hb) | (go_at_call 37; refine (inB_any _ _ _ _).mono ?_; rintro e w' ⟨rfl, rfl⟩; rw [d16]))
          go_ret
          exact ⟨ret_i64 (chk_counts e1 e2).symm, HB.out⟩
      · have d16 : inB (gs.length : Int) 1 6 = false := inB_no a1
        clear hno
        go_enter Try.func24, Try.ntmps24
        go_wp2_with (first | (go_at_call 58; rw [← HX.out]; refine (H15.out _ HB.out).mono ?_; rintro e w' ⟨rfl, hb⟩; rw [e1]; have HB := hideC (HB.out.trans (hb.mono HB.out.size)); have BX := hideC (B.below BX.out hb (B.isLt BX.out)); have q0 := B.cell BX.out 0 (by rw [HX.out]; rfl); have q1 := B.cell BX.out 1 (by rw [HX.out]; rfl); have q2 := B.cell BX.out 2 (by rw [HX.out]; rfl); have q3 := B.cell BX.out 3 (by rw [HX.out]; rfl); have q4 := B.cell BX.out 4 (by rw [HX.out]; rfl); have q5 := B.cell BX.out 5 (by rw [HX.out]; rfl); clear hb) | (go_at_call 37; refine (inB_any _ _ _ _).mono ?_; rintro e w' ⟨rfl, rfl⟩; rw [d16]))
        go_ret
        exact ⟨ret_i64 (chk_counts e1 e2).symm, HB.out⟩
    · obtain ⟨a0, a1, a2, a3, a4⟩ := of_decide_eq_true (HCN.out.symm.trans e2)
      have d16 : inB (gs.length : Int) 1 6 = true := inB_yes (by omega)
      have hyl := hyl' a3
      clear hyl' HCN
      go_enter Try.func24, Try.ntmps24
      go_wp2_with (first | (go_at_call 58; rw [← HX.out]; refine (H15.out _ HB.out).mono ?_; rintro e w' ⟨rfl, hb⟩; rw [e1]; have HB := hideC (HB.out.trans (hb.mono HB.out.size)); have BX := hideC (B.below BX.out hb (B.isLt BX.out)); have q0 := B.cell BX.out 0 (by rw [HX.out]; rfl); have q1 := B.cell BX.out 1 (by rw [HX.out]; rfl); have q2 := B.cell BX.out 2 (by rw [HX.out]; rfl); have q3 := B.cell BX.out 3 (by rw [HX.out]; rfl); have q4 := B.cell BX.out 4 (by rw [HX.out]; rfl); have q5 := B.cell BX.out 5 (by rw [HX.out]; rfl); clear hb) | (go_at_call 37; refine (inB_any _ _ _ _).mono ?_; rintro e w' ⟨rfl, rfl⟩; rw [d16]))
      go_loopw [3] (fun i wr => ∃ k : Nat, k ≤ gs.length ∧ i = .int .i64 k ∧ (∀ j, j < k → M.rangeB (M.sgAt gs j) = true) ∧ wr.heap[w.heap.size]? = some (.cells X 27 (0, 0)) ∧ Below w.heap.size w wr) (fun i _ => gs.length - (intOf i).toNat)
      case atStart => exact ⟨0, by omega, rfl, fun j h => by omega, BX.out, HB.out⟩
      case round =>
        clear q0 q1 q2 q3 q4 q5
        obtain ⟨k, hk, rfl, hall, hbox, hb⟩ := hrel
        have HA := hideC hall
        have BX := hideC hbox
        have HB := hideC hb
        have bx2 := B.cell hbox 2 (by rw [HX.out]; rfl)
        clear hall hbox
        by_cases hlt : k < gs.length
        · obtain ⟨b, off, hao, hbl, hl⟩ := HI.out.segs (show 0 < gs.length by omega)
          have hli : (k : Int) < (gs.length : Int) := by omega
          obtain ⟨c0, c1, c2, c3, c4⟩ := M.lieG hb hbl hl k hlt
          obtain ⟨g1, g2, g3⟩ := F5.out k hlt
          obtain ⟨s, hs⟩ : ∃ s, s = M.sgAt gs k := ⟨_, rfl⟩
          rw [← hs] at c0 c1 c2 c3 c4 g1 g2 g3
          have HS := hideC hs
          clear hs hb hl
          obtain ⟨p, n, d, x, y⟩ := s
          simp only at c0 c1 c2 c3 c4 g1 g2 g3
          unfold M.I64 at g1 g2
          unfold M.Short at g3
          simp only at hao
          subst hao
          have hml : d.size ≤ maxLen := by unfold maxLen; omega
          have BX1 := hideC (B.alloc BX.out (.cells #[.int .i64 p, .int .i64 n, .string d, .bool x, .bool y] 79))
          have HB1 := hideC (HB.out.alloc HB.out.size (.cells #[.int .i64 p, .int .i64 n, .string d, .bool x, .bool y] 79))
          have hbad : Hid (¬ (0 ≤ p ∧ 1 ≤ n ∧ p + n ≤ 255 ∧ (d.size : Int) ≤ n * 16) → M.rangesB I = false) := fun hx =>
            HRG.out.trans (M.all_false M.rangeB M.sg0 gs k hlt (by show M.rangeB (M.sgAt gs k) = false; rw [← HS.out]; exact decide_eq_false hx))
          by_cases d1 : 0 ≤ p ∧ p ≤ 255
          · have i1 : inB p 0 255 = true := inB_yes d1
            obtain ⟨d1, d1'⟩ := d1
            by_cases d2 : 1 ≤ n ∧ n ≤ 255
            · have i2 : inB n 1 255 = true := inB_yes d2
              obtain ⟨d2, d2'⟩ := d2
              by_cases d3 : p + n ≤ 255
              · have d3' : ¬ 255 < p + n := by omega
                by_cases d4 : (d.size : Int) ≤ n * 16
                · have d4' : ¬ n * 16 < (d.size : Int) := by omega
                  have hgood : Hid (M.rangeB ⟨p, n, d, x, y⟩ = true) := decide_eq_true ⟨d1, d2, d3, d4⟩
                  go_wp2_with (go_at_call 37; refine (inB_any _ _ _ _).mono ?_; rintro e w' ⟨rfl, rfl⟩; first | rw [i1] | rw [i2])
                  go_roundw
                  case rel => exact ⟨k + 1, by omega, by go_num, fun j h => if e : j = k then by rw [e, ← HS.out]; exact hgood.out else HA.out j (by omega), BX1.out, HB1.out⟩
                  case measure => simp [intOf]; omega
                · have d4' : n * 16 < (d.size : Int) := by omega
                  have HR := hideC (hbad.out (by omega))
                  go_wp2_with (go_at_call 37; refine (inB_any _ _ _ _).mono ?_; rintro e w' ⟨rfl, rfl⟩; first | rw [i1] | rw [i2])
                  go_ret
                  exact ⟨ret_i64 (chk_ranges e1 e2 HR.out).symm, HB1.out⟩
              · have d3' : 255 < p + n := by omega
                have HR := hideC (hbad.out (by omega))
                go_wp2_with (go_at_call 37; refine (inB_any _ _ _ _).mono ?_; rintro e w' ⟨rfl, rfl⟩; first | rw [i1] | rw [i2])
                go_ret
                exact ⟨ret_i64 (chk_ranges e1 e2 HR.out).symm, HB1.out⟩
            · have i2 : inB n 1 255 = false := inB_no d2
              have HR := hideC (hbad.out (by omega))
              go_wp2_with (go_at_call 37; refine (inB_any _ _ _ _).mono ?_; rintro e w' ⟨rfl, rfl⟩; first | rw [i1] | rw [i2])
              go_ret
              exact ⟨ret_i64 (chk_ranges e1 e2 HR.out).symm, HB1.out⟩
          · have i1 : inB p 0 255 = false := inB_no d1
            have HR := hideC (hbad.out (by omega))
            go_wp2_with (go_at_call 37; refine (inB_any _ _ _ _).mono ?_; rintro e w' ⟨rfl, rfl⟩; first | rw [i1] | rw [i2])
            go_ret
            exact ⟨ret_i64 (chk_ranges e1 e2 HR.out).symm, HB1.out⟩
        · obtain rfl : k = gs.length := by omega
          clear hb
          have HGR := hideC (M.all_true M.rangeB M.sg0 gs (fun j hj => HA.out j hj))
          have E3 : Hid (M.rangesB I = true) := HRG.out.trans HGR.out
          clear HA
          obtain ⟨i0, hi, hz0, hz1, hz2⟩ := info_parts info9
          have BX1 := hideC BX.out
          have HB1 := hideC HB.out
          clear BX HB
          go_wp2
          go_loopw [5, 6] (fun v i wr => ∃ k : Nat, k ≤ ys.length ∧ i = .int .i64 k ∧ wr.ownsRow (w.heap.size + 1) 9 1 v k (strs ((ys.map (·.name)).take k)) ∧ wr.heap[w.heap.size]? = some (.cells X 27 (0, 0)) ∧ Below w.heap.size w wr) (fun _ i _ => ys.length - (intOf i).toNat)
          case atStart => exact ⟨0, by omega, rfl, World.ownsRow_nil _ _ _ _, BX1.out, HB1.out⟩
          case round =>
            clear bx2 BX1 HB1
            obtain ⟨k, hk, rfl, hown, hbox, hb⟩ := hrel
            have HO := hideC hown
            have BX := hideC hbox
            have HB := hideC hb
            have bx3 := B.cell hbox 3 (by rw [HX.out]; rfl)
            clear hown hbox
            by_cases hlt : k < ys.length
            · obtain ⟨b, off, hao, hbl, hl⟩ := HI.out.syms (show 0 < ys.length by omega)
              simp only at hao
              subst hao
              have hli : (k : Int) < (ys.length : Int) := by omega
              obtain ⟨c0, c1⟩ := M.lieY hb hbl hl k hlt
              have HT := hideC (names_take ys k hlt)
              obtain ⟨y, hx⟩ : ∃ y, y = M.syAt ys k := ⟨_, rfl⟩
              rw [← hx] at c0 c1 HT
              clear hx hb hl
              obtain ⟨x, xp⟩ := y
              simp only at c0 c1 HT
              have hbsz := B.isLt BX.out
              have hrow : Hid (∀ j, u5.ownBlock = some j → w.heap.size + 1 ≤ j ∧ j < wr.heap.size) := HO.out.lt
              have HN := hideC (B.new wr #[.string x] 9)
              go_wp2_with (at_builtin; refine wpList_append_lies _ rfl _ _ 22 rfl (w.heap.size + 1) 9 i0 (.string ⟨#[]⟩) 1 16 Try.underlying22 hi hz0 hz1 hz2 rfl (by decide) _ _ _ rfl (HO.out.alloc _) ⟨wr.heap.size, 0, none⟩ 1 1 [.string x] rfl rfl (B.news HN.out) (by intro u hu; simp at hu; subst hu; rfl) (by decide) (by unfold maxLen; omega) (by omega) (by simp; omega) (wr.heap.size + 1) (by simp) ?_)
              intro g cap w1 hown1 hgrow hat hlt1
              have HO1 := hideC hown1
              have BX2 := hideC (B.grown (B.alloc BX.out _) hgrow (fun e => by have := hrow.out _ e.symm; omega))
              have HB2 : Hid (Below w.heap.size w w1) := (HB.out.alloc HB.out.size _).grown hgrow (by have := HB.out.size; simp; omega) (fun k' e => by have := hrow.out _ e; omega)
              clear hown1 hgrow hat
              go_wp2
              go_roundw
              case rel =>
                refine ⟨k + 1, by omega, by go_num, ?_, BX2.out, HB2.out⟩
                rw [HT.out]
                unfold strs
                rw [List.map_append]
                exact HO1.out
              case measure => simp [intOf]; omega
            · obtain rfl : k = ys.length := by omega
              clear hb
              have hrowL : wr.ownsRow (w.heap.size + 1) 9 1 u5 L.length (strs L) := by
                have ho := HO.out
                rw [List.take_of_length_le (by simp), ← HL.out] at ho
                rw [show L.length = ys.length by rw [HL.out]; simp]
                exact ho
              obtain ⟨aL, cL, hu5, hasL⟩ := row_has hrowL
              subst hu5
              have HLL := hideC hasL
              have BX3 := hideC BX.out
              have HB3 := hideC HB.out
              obtain ⟨W, hW⟩ : ∃ W, W = wr := ⟨_, rfl⟩
              rw [← hW] at HLL BX3 HB3
              have HW := hideC hW
              clear hW hrowL hasL HO BX HB
              go_wp2
              go_loopw [7] (fun i wr => ∃ k : Nat, 1 ≤ k ∧ (k ≤ gs.length ∨ k = 1) ∧ i = .int .i64 k ∧ M.overTo gs k = true ∧ Below W.heap.size W wr) (fun i _ => gs.length - (intOf i).toNat)
              case atStart => exact ⟨1, by omega, .inr rfl, rfl, rfl, by rw [HW.out]; exact Below.refl _ _⟩
              case round =>
                clear bx3 HW
                obtain ⟨k, hk1, hk, rfl, hall, hbW⟩ := hrel
                have HA := hideC hall
                have HBW := hideC hbW
                have BX := hideC (B.below BX3.out hbW (B.isLt BX3.out))
                have HB := hideC (HB3.out.trans (hbW.mono HB3.out.size))
                have bx2 := B.cell BX.out 2 (by rw [HX.out]; rfl)
                clear hall hbW
                by_cases hlt : k < gs.length
                · obtain ⟨b, off, hao, hbl, hl⟩ := HI.out.segs (show 0 < gs.length by omega)
                  simp only at hao
                  obtain ⟨c0, c1, c2, c3, c4⟩ := M.lieG HB.out hbl hl k hlt
                  obtain ⟨z0, z1, z2, z3, z4⟩ := M.lieG HB.out hbl hl (k - 1) (show k - 1 < gs.length by omega)
                  obtain ⟨g1, g2, g3, g4⟩ := range_at HGR.out (k - 1) (by omega)
                  have hov : Hid (M.overTo gs (k + 1) = decide ((M.sgAt gs (k - 1)).page + (M.sgAt gs (k - 1)).pages ≤ (M.sgAt gs k).page)) := by
                    show (M.overTo gs k && M.overAt gs k) = _
                    rw [HA.out, Bool.true_and]
                    unfold M.overAt
                    rw [show (k == 0) = false from by simp; omega, Bool.false_or]
                  obtain ⟨s, hs⟩ : ∃ s, s = M.sgAt gs k := ⟨_, rfl⟩
                  obtain ⟨t, ht⟩ : ∃ t, t = M.sgAt gs (k - 1) := ⟨_, rfl⟩
                  rw [← hs] at c0 hov
                  rw [← ht] at z0 z1 g1 g2 g3 hov
                  clear hs ht hl c1 c2 c3 c4 z2 z3 z4 g4
                  obtain ⟨sp, sn, sd, sx, sy⟩ := s
                  obtain ⟨tp, tn, td, tx, ty⟩ := t
                  simp only at c0 z0 z1 g1 g2 g3 hov
                  subst hao
                  have hli : (k : Int) < (gs.length : Int) := by omega
                  have hkin := Q.kin_some wr
                  have hkc := @Q.cell_kin wr
                  have hbr : b < wr.heap.size := Nat.lt_of_lt_of_le hbl HB.out.size
                  have hwr : w.heap.size < wr.heap.size := B.isLt BX.out
                  have k0 : ∀ x : Q.Kin wr.heap.size wr, x.world.cell? ⟨b, off + k * 5, none⟩ = some (.int .i64 sp) := fun x => by rw [hkc x _ _ hbr, c0]
                  have k1 : ∀ x : Q.Kin wr.heap.size wr, x.world.cell? ⟨b, off + (k - 1) * 5, none⟩ = some (.int .i64 tp) := fun x => by rw [hkc x _ _ hbr, z0]
                  have k2 : ∀ x : Q.Kin wr.heap.size wr, x.world.cell? ⟨b, off + (k - 1) * 5 + 1, none⟩ = some (.int .i64 tn) := fun x => by rw [hkc x _ _ hbr, z1]
                  have k3 : ∀ x : Q.Kin wr.heap.size wr, x.world.cell? ⟨w.heap.size, 2, none⟩ = some (.slice (some ⟨b, off, none⟩) gs.length cg) := fun x => by rw [hkc x _ _ hwr]; exact B.cell BX.out 2 (by rw [HX.out]; rfl)
                  clear hkc c0 z0 z1
                  by_cases d : sp < tp + tn
                  · have hno : Hid (M.overTo gs (k + 1) = false) := by show _ = _; rw [hov.out]; exact decide_eq_false (by omega)
                    go_wp2
                    refine Q.region_kin (by kernel_rfl) (by kernel_rfl) ?_
                    repeat (first | go_big_quiet_step (fail) | quiet_step (fail))
                    refine wpQuiet_nil ?_
                    intro _ hw'
                    obtain ⟨x, hw''⟩ := hw'
                    subst hw''
                    go_wp2
                    go_ret
                    exact ⟨ret_i64 (chk_there e1 e2 E3.out (by rw [HTH.out, apart_no gs k hlt hno.out]; rfl)).symm, HB.out.trans (x.keeps.mono HB.out.size)⟩
                  · have hyes : Hid (M.overTo gs (k + 1) = true) := by show _ = _; rw [hov.out]; exact decide_eq_true (by omega)
                    go_wp2
                    refine Q.region_kin (by kernel_rfl) (by kernel_rfl) ?_
                    repeat (first | go_big_quiet_step (fail) | quiet_step (fail))
                    refine wpQuiet_nil ?_
                    intro _ hw'
                    obtain ⟨x, hw''⟩ := hw'
                    subst hw''
                    go_wp2
                    go_roundw
                    case rel => exact ⟨k + 1, by omega, .inl (by omega), by go_num, hyes.out, HBW.out.trans (x.keeps.mono HBW.out.size)⟩
                    case measure => simp [intOf]; omega
                · have HAP : Hid (M.apartB gs = true) := by
                    show _ = _
                    unfold M.apartB
                    rcases hk with hk | hk
                    · rw [show gs.length = k by omega]; exact HA.out
                    · rcases Nat.lt_or_ge gs.length 1 with h0 | h0
                      · rw [show gs.length = 0 by omega]; rfl
                      · rw [show gs.length = k by omega]; exact HA.out
                  have hge : ¬ (k : Int) < (gs.length : Int) := by omega
                  have HLW := hideC (M.HasBy.below (lie := M.LieS) (fun hb hlt h => M.lieS hb hlt h) HLL.out HBW.out)
                  clear HBW HLL BX3 HB3 HA
                  cases e6 : M.onceB L
                  · go_wp2_with (first | (go_at_call 25; have _ := FIRST; refine (alike_any ns an cn _ (HI.out.below HB.out).needs HF.out.needs HF.out.need).mono ?_; rintro e w' ⟨rfl, hb⟩; rw [e5]; have HB := hideC (HB.out.trans (hb.mono HB.out.size)); have BX := hideC (B.below BX.out hb (B.isLt BX.out)); have q0 := B.cell BX.out 0 (by rw [HX.out]; rfl); have q1 := B.cell BX.out 1 (by rw [HX.out]; rfl); have q2 := B.cell BX.out 2 (by rw [HX.out]; rfl); have q3 := B.cell BX.out 3 (by rw [HX.out]; rfl); have q4 := B.cell BX.out 4 (by rw [HX.out]; rfl); have q5 := B.cell BX.out 5 (by rw [HX.out]; rfl); clear hb) | (go_at_call 25; refine (alike_any L aL cL _ HLW.out hyl FY.out).mono ?_; rintro e w' ⟨rfl, hb⟩; rw [e6]; have FIRST := trivial; have HB := hideC (HB.out.trans (hb.mono HB.out.size)); have BX := hideC (B.below BX.out hb (B.isLt BX.out)); have q0 := B.cell BX.out 0 (by rw [HX.out]; rfl); have q1 := B.cell BX.out 1 (by rw [HX.out]; rfl); have q2 := B.cell BX.out 2 (by rw [HX.out]; rfl); have q3 := B.cell BX.out 3 (by rw [HX.out]; rfl); have q4 := B.cell BX.out 4 (by rw [HX.out]; rfl); have q5 := B.cell BX.out 5 (by rw [HX.out]; rfl); clear hb) | (go_at_call 59; rw [← HX.out]; refine (H18.out _ HB.out HGR.out).mono ?_; rintro e w' ⟨rfl, hb⟩; rw [e7]; have HB := hideC (HB.out.trans (hb.mono HB.out.size)); have BX := hideC (B.below BX.out hb (B.isLt BX.out)); have q0 := B.cell BX.out 0 (by rw [HX.out]; rfl); have q1 := B.cell BX.out 1 (by rw [HX.out]; rfl); have q2 := B.cell BX.out 2 (by rw [HX.out]; rfl); have q3 := B.cell BX.out 3 (by rw [HX.out]; rfl); have q4 := B.cell BX.out 4 (by rw [HX.out]; rfl); have q5 := B.cell BX.out 5 (by rw [HX.out]; rfl); clear hb))
                    go_ret
                    exact ⟨ret_i64 (chk_there e1 e2 E3.out (by rw [HTH.out, e6]; simp)).symm, HB.out⟩
                  · cases e5 : M.onceB ns
                    · go_wp2_with (first | (go_at_call 25; have _ := FIRST; refine (alike_any ns an cn _ (HI.out.below HB.out).needs HF.out.needs HF.out.need).mono ?_; rintro e w' ⟨rfl, hb⟩; rw [e5]; have HB := hideC (HB.out.trans (hb.mono HB.out.size)); have BX := hideC (B.below BX.out hb (B.isLt BX.out)); have q0 := B.cell BX.out 0 (by rw [HX.out]; rfl); have q1 := B.cell BX.out 1 (by rw [HX.out]; rfl); have q2 := B.cell BX.out 2 (by rw [HX.out]; rfl); have q3 := B.cell BX.out 3 (by rw [HX.out]; rfl); have q4 := B.cell BX.out 4 (by rw [HX.out]; rfl); have q5 := B.cell BX.out 5 (by rw [HX.out]; rfl); clear hb) | (go_at_call 25; refine (alike_any L aL cL _ HLW.out hyl FY.out).mono ?_; rintro e w' ⟨rfl, hb⟩; rw [e6]; have FIRST := trivial; have HB := hideC (HB.out.trans (hb.mono HB.out.size)); have BX := hideC (B.below BX.out hb (B.isLt BX.out)); have q0 := B.cell BX.out 0 (by rw [HX.out]; rfl); have q1 := B.cell BX.out 1 (by rw [HX.out]; rfl); have q2 := B.cell BX.out 2 (by rw [HX.out]; rfl); have q3 := B.cell BX.out 3 (by rw [HX.out]; rfl); have q4 := B.cell BX.out 4 (by rw [HX.out]; rfl); have q5 := B.cell BX.out 5 (by rw [HX.out]; rfl); clear hb) | (go_at_call 59; rw [← HX.out]; refine (H18.out _ HB.out HGR.out).mono ?_; rintro e w' ⟨rfl, hb⟩; rw [e7]; have HB := hideC (HB.out.trans (hb.mono HB.out.size)); have BX := hideC (B.below BX.out hb (B.isLt BX.out)); have q0 := B.cell BX.out 0 (by rw [HX.out]; rfl); have q1 := B.cell BX.out 1 (by rw [HX.out]; rfl); have q2 := B.cell BX.out 2 (by rw [HX.out]; rfl); have q3 := B.cell BX.out 3 (by rw [HX.out]; rfl); have q4 := B.cell BX.out 4 (by rw [HX.out]; rfl); have q5 := B.cell BX.out 5 (by rw [HX.out]; rfl); clear hb))
                      go_ret
                      exact ⟨ret_i64 (chk_there e1 e2 E3.out (by rw [HTH.out, e5]; simp)).symm, HB.out⟩
                    · have E4 : Hid (M.thereB I = true) := by show _ = _; rw [HTH.out, HAP.out, e5, e6]; rfl
                      have HCP := hideC (chk_places e1 e2 E3.out E4.out)
                      cases e7 : M.placesB I
                      · rw [e7] at HCP
                        go_wp2_with (first | (go_at_call 25; have _ := FIRST; refine (alike_any ns an cn _ (HI.out.below HB.out).needs HF.out.needs HF.out.need).mono ?_; rintro e w' ⟨rfl, hb⟩; rw [e5]; have HB := hideC (HB.out.trans (hb.mono HB.out.size)); have BX := hideC (B.below BX.out hb (B.isLt BX.out)); have q0 := B.cell BX.out 0 (by rw [HX.out]; rfl); have q1 := B.cell BX.out 1 (by rw [HX.out]; rfl); have q2 := B.cell BX.out 2 (by rw [HX.out]; rfl); have q3 := B.cell BX.out 3 (by rw [HX.out]; rfl); have q4 := B.cell BX.out 4 (by rw [HX.out]; rfl); have q5 := B.cell BX.out 5 (by rw [HX.out]; rfl); clear hb) | (go_at_call 25; refine (alike_any L aL cL _ HLW.out hyl FY.out).mono ?_; rintro e w' ⟨rfl, hb⟩; rw [e6]; have FIRST := trivial; have HB := hideC (HB.out.trans (hb.mono HB.out.size)); have BX := hideC (B.below BX.out hb (B.isLt BX.out)); have q0 := B.cell BX.out 0 (by rw [HX.out]; rfl); have q1 := B.cell BX.out 1 (by rw [HX.out]; rfl); have q2 := B.cell BX.out 2 (by rw [HX.out]; rfl); have q3 := B.cell BX.out 3 (by rw [HX.out]; rfl); have q4 := B.cell BX.out 4 (by rw [HX.out]; rfl); have q5 := B.cell BX.out 5 (by rw [HX.out]; rfl); clear hb) | (go_at_call 59; rw [← HX.out]; refine (H18.out _ HB.out HGR.out).mono ?_; rintro e w' ⟨rfl, hb⟩; rw [e7]; have HB := hideC (HB.out.trans (hb.mono HB.out.size)); have BX := hideC (B.below BX.out hb (B.isLt BX.out)); have q0 := B.cell BX.out 0 (by rw [HX.out]; rfl); have q1 := B.cell BX.out 1 (by rw [HX.out]; rfl); have q2 := B.cell BX.out 2 (by rw [HX.out]; rfl); have q3 := B.cell BX.out 3 (by rw [HX.out]; rfl); have q4 := B.cell BX.out 4 (by rw [HX.out]; rfl); have q5 := B.cell BX.out 5 (by rw [HX.out]; rfl); clear hb))
                        go_ret
                        exact ⟨ret_i64 HCP.out.symm, HB.out⟩
                      · rw [e7] at HCP
                        go_wp2_with (first | (go_at_call 25; have _ := FIRST; refine (alike_any ns an cn _ (HI.out.below HB.out).needs HF.out.needs HF.out.need).mono ?_; rintro e w' ⟨rfl, hb⟩; rw [e5]; have HB := hideC (HB.out.trans (hb.mono HB.out.size)); have BX := hideC (B.below BX.out hb (B.isLt BX.out)); have q0 := B.cell BX.out 0 (by rw [HX.out]; rfl); have q1 := B.cell BX.out 1 (by rw [HX.out]; rfl); have q2 := B.cell BX.out 2 (by rw [HX.out]; rfl); have q3 := B.cell BX.out 3 (by rw [HX.out]; rfl); have q4 := B.cell BX.out 4 (by rw [HX.out]; rfl); have q5 := B.cell BX.out 5 (by rw [HX.out]; rfl); clear hb) | (go_at_call 25; refine (alike_any L aL cL _ HLW.out hyl FY.out).mono ?_; rintro e w' ⟨rfl, hb⟩; rw [e6]; have FIRST := trivial; have HB := hideC (HB.out.trans (hb.mono HB.out.size)); have BX := hideC (B.below BX.out hb (B.isLt BX.out)); have q0 := B.cell BX.out 0 (by rw [HX.out]; rfl); have q1 := B.cell BX.out 1 (by rw [HX.out]; rfl); have q2 := B.cell BX.out 2 (by rw [HX.out]; rfl); have q3 := B.cell BX.out 3 (by rw [HX.out]; rfl); have q4 := B.cell BX.out 4 (by rw [HX.out]; rfl); have q5 := B.cell BX.out 5 (by rw [HX.out]; rfl); clear hb) | (go_at_call 59; rw [← HX.out]; refine (H18.out _ HB.out HGR.out).mono ?_; rintro e w' ⟨rfl, hb⟩; rw [e7]; have HB := hideC (HB.out.trans (hb.mono HB.out.size)); have BX := hideC (B.below BX.out hb (B.isLt BX.out)); have q0 := B.cell BX.out 0 (by rw [HX.out]; rfl); have q1 := B.cell BX.out 1 (by rw [HX.out]; rfl); have q2 := B.cell BX.out 2 (by rw [HX.out]; rfl); have q3 := B.cell BX.out 3 (by rw [HX.out]; rfl); have q4 := B.cell BX.out 4 (by rw [HX.out]; rfl); have q5 := B.cell BX.out 5 (by rw [HX.out]; rfl); clear hb))
                        go_ret
                        exact ⟨ret_i64 HCP.out.symm, HB.out⟩
end Go.Proofs.Yteieplodndfbhaa.W
