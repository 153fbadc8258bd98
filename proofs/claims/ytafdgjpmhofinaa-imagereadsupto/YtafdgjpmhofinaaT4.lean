import Derived.Test.YtafdgjpmhofinaaT3
namespace Go.Proofs.Ytafdgjpmhofinaa.W
open Go.RowKit
set_option linter.unusedVariables false

theorem read_some {s : ByteArray} {i : M.Im} (w : World) (hs : M.Short s.size) (h : readP s.data.toList = some i) : Calls Try.prog 11 #[.string s] w fun e w' => (∃ a, e = .returned (.tuple #[.agg (M.cellsI a i), .int .i64 0]) ∧ M.HasIm w' a i) ∧ Below w.heap.size w w' := by
  have := read_any s w hs
  rw [h] at this
  exact this
theorem read_no {s : ByteArray} (w : World) (hs : M.Short s.size) (h : readP s.data.toList = none) : Calls Try.prog 11 #[.string s] w fun e w' => e = .returned (.tuple #[.agg #[.string ⟨#[]⟩, .slice none 0 0, .slice none 0 0, .slice none 0 0, .slice none 0 0, .int .i64 0], .int .i64 1]) ∧ Below w.heap.size w w' := by
  have := read_any s w hs
  rw [h] at this
  exact this

set_option maxRecDepth 100000 in
set_option maxHeartbeats 2000000 in
theorem begun (w : World) : Calls Try.prog 9 #[] w fun e w' => e = .returned (.bool true) ∧ Below w.heap.size w w' := by
  have HT := hideC tiny_any
  have HWR : Hid (∀ a W, M.HasIm W a tinyI → Calls Try.prog 6 #[.agg (M.cellsI a tinyI)] W fun e w' => e = .returned (.tuple #[.string (writeN tinyI), .int .i64 0]) ∧ Below W.heap.size W w') := fun a W h => by
    have := write_any tinyI a W h tiny_fit
    rw [tiny_chk] at this
    exact this
  have HCK : Hid (∀ a W, M.HasIm W a tinyI → Calls Try.prog 10 #[.agg (M.cellsI a tinyI)] W fun e w' => e = .returned (.int .i64 0) ∧ Below W.heap.size W w') := fun a W h => by
    have := check_any tinyI a W h tiny_fit
    rw [tiny_chk] at this
    exact this
  have HRD : Hid (∀ W, Calls Try.prog 11 #[.string (writeN tinyI)] W fun e w' => (∃ a, e = .returned (.tuple #[.agg (M.cellsI a tinyI), .int .i64 0]) ∧ M.HasIm w' a tinyI) ∧ Below W.heap.size W w') := fun W => read_some W (write_short tiny_chk) (read_write tiny_chk tiny_fit)
  have HSM : Hid (∀ a b W, M.HasIm W a tinyI → M.HasIm W b tinyI → Calls Try.prog 13 #[.agg (M.cellsI a tinyI), .agg (M.cellsI b tinyI)] W fun e w' => e = .returned (.bool true) ∧ Below W.heap.size W w') := fun a b W h g => same_yes tinyI a b W h g tiny_fit
  obtain ⟨S, hS⟩ : ∃ S, S = writeN tinyI := ⟨_, rfl⟩
  rw [← hS] at HWR HRD
  clear hS
  go_enter Try.func9, Try.ntmps9
  go_wp2_with (first | (go_at_call 22; refine (HT.out _).mono ?_; rintro e w1 ⟨⟨a1, rfl, h1⟩, hb⟩; have H1 := hideC h1; have HB := hideC hb; clear h1 hb) | (go_at_call 6; refine (HWR.out a1 _ H1.out).mono ?_; rintro e w2 ⟨rfl, hb⟩; have HB := hideC (HB.out.trans (hb.mono HB.out.size)); clear hb) | (go_at_call 11; refine (HRD.out _).mono ?_; rintro e w3 ⟨⟨a2, rfl, h2⟩, hb⟩; obtain ⟨an, cn, ag, cg, ay, cy, ar, cr⟩ := a2; rw [show M.cellsI ⟨an, cn, ag, cg, ay, cy, ar, cr⟩ tinyI = #[.string ⟨#[116]⟩, .slice an 0 cn, .slice ag 1 cg, .slice ay 0 cy, .slice ar 0 cr, .int .i64 0] from rfl]; have H2 := hideC h2; have HB := hideC (HB.out.trans (hb.mono HB.out.size)); clear h2 hb))
  have BX := hideC (B.new w3 #[.string ⟨#[116]⟩, .slice an 0 cn, .slice ag 1 cg, .slice ay 0 cy, .slice ar 0 cr, .int .i64 0] 27)
  have HB3 := hideC ((Below.refl w3.heap.size w3).alloc (Nat.le_refl _) (.cells #[.string ⟨#[116]⟩, .slice an 0 cn, .slice ag 1 cg, .slice ay 0 cy, .slice ar 0 cr, .int .i64 0] 27))
  obtain ⟨W, hW⟩ : ∃ W, W = w3.alloc (.cells #[.string ⟨#[116]⟩, .slice an 0 cn, .slice ag 1 cg, .slice ay 0 cy, .slice ar 0 cr, .int .i64 0] 27) := ⟨_, rfl⟩
  rw [← hW] at BX HB3
  rw [← hW]
  have H2 := hideC (H2.out.below HB3.out)
  have HB := hideC (HB.out.trans (HB3.out.mono HB.out.size))
  have HD := hideC (below_drew W)
  have BX := hideC (B.below BX.out HD.out (B.isLt BX.out))
  have H2 := hideC (H2.out.below HD.out)
  have HB := hideC (HB.out.trans (HD.out.mono HB.out.size))
  clear hW HB3 HD
  refine wp_region_any (by kernel_rfl) ?_
  change wpAny _ _ _ _ _ _ _ (World.drew _)
  refine wpAny_ready (rs := [0]) (by kernel_rfl) (by simp) ?_
  refine AllReady.cons rfl (fun K hK => ?_) AllReady.nil
  go_simp
  go_at_call 22
  refine (HT.out _).mono ?_
  rintro e w4 ⟨⟨a3, rfl, h3⟩, hb⟩
  have H3 := hideC h3
  have HB := hideC (HB.out.trans (hb.mono HB.out.size))
  have BX := hideC (B.below BX.out hb (B.isLt BX.out))
  have H2 := hideC (H2.out.below hb)
  clear h3 hb
  go_simp
  refine hK _ _ ?_
  clear hK K
  refine wpAny_ready (rs := [1]) (by kernel_rfl) (by simp) ?_
  refine AllReady.cons rfl (fun K hK => ?_) AllReady.nil
  go_simp
  go_at_call 10
  refine (HCK.out a3 _ H3.out).mono ?_
  rintro e w5 ⟨rfl, hb⟩
  have HB := hideC (HB.out.trans (hb.mono HB.out.size))
  have BX := hideC (B.below BX.out hb (B.isLt BX.out))
  have H2 := hideC (H2.out.below hb)
  clear hb
  go_simp
  refine hK _ _ ?_
  clear hK K
  refine wpAny_ready (rs := [2]) (by kernel_rfl) (by simp) ?_
  refine AllReady.cons rfl (fun K hK => ?_) AllReady.nil
  go_simp
  refine hK _ _ ?_
  clear hK K
  refine wpAny_ready (rs := [3]) (by kernel_rfl) (by simp) ?_
  refine AllReady.cons rfl (fun K hK => ?_) AllReady.nil
  go_simp
  refine hK _ _ ?_
  clear hK K
  refine wpAny_ready (rs := [4]) (by kernel_rfl) (by simp) ?_
  refine AllReady.cons rfl (fun K hK => ?_) AllReady.nil
  go_simp
  refine hK _ _ ?_
  clear hK K
  refine wpAny_ready (rs := [5]) (by kernel_rfl) (by simp) ?_
  refine AllReady.cons rfl (fun K hK => ?_) AllReady.nil
  go_simp
  go_at_call 10
  refine (empty_any _).mono ?_
  rintro e w6 ⟨rfl, hb⟩
  have HB := hideC (HB.out.trans (hb.mono HB.out.size))
  have BX := hideC (B.below BX.out hb (B.isLt BX.out))
  have H2 := hideC (H2.out.below hb)
  have x0 := B.cell BX.out 0 rfl
  have x1 := B.cell BX.out 1 rfl
  have x2 := B.cell BX.out 2 rfl
  have x3 := B.cell BX.out 3 rfl
  have x4 := B.cell BX.out 4 rfl
  have x5 := B.cell BX.out 5 rfl
  clear hb
  go_simp
  refine hK _ _ ?_
  clear hK K
  refine wpAny_ready (rs := [6]) (by kernel_rfl) (by simp) ?_
  refine AllReady.cons rfl (fun K hK => ?_) AllReady.nil
  go_simp
  refine hK _ _ ?_
  clear hK K
  refine wpAny_ready (rs := [7]) (by kernel_rfl) (by simp) ?_
  refine AllReady.cons rfl (fun K hK => ?_) AllReady.nil
  go_simp
  refine hK _ _ ?_
  clear hK K
  refine wpAny_ready (rs := [8]) (by kernel_rfl) (by simp) ?_
  refine AllReady.cons rfl (fun K hK => ?_) AllReady.nil
  go_simp
  refine hK _ _ ?_
  clear hK K
  refine wpAny_ready (rs := [9]) (by kernel_rfl) (by simp) ?_
  refine AllReady.cons rfl (fun K hK => ?_) AllReady.nil
  go_simp
  refine hK _ _ ?_
  clear hK K
  refine wpAny_ready (rs := [10]) (by kernel_rfl) (by simp) ?_
  refine AllReady.cons rfl (fun K hK => ?_) AllReady.nil
  go_simp
  refine hK _ _ ?_
  clear hK K
  refine wpAny_ready (rs := [11]) (by kernel_rfl) (by simp) ?_
  refine AllReady.cons rfl (fun K hK => ?_) AllReady.nil
  go_simp
  refine hK _ _ ?_
  clear hK K
  refine wpAny_ready (rs := [12]) (by kernel_rfl) (by simp) ?_
  refine AllReady.cons rfl (fun K hK => ?_) AllReady.nil
  go_simp
  refine hK _ _ ?_
  clear hK K
  refine wpAny_ready (rs := [13]) (by kernel_rfl) (by simp) ?_
  refine AllReady.cons rfl (fun K hK => ?_) AllReady.nil
  go_simp
  refine hK _ _ ?_
  clear hK K
  refine wpAny_ready (rs := [14]) (by kernel_rfl) (by simp) ?_
  refine AllReady.cons rfl (fun K hK => ?_) AllReady.nil
  go_simp
  refine hK _ _ ?_
  clear hK K
  refine wpAny_ready (rs := [15]) (by kernel_rfl) (by simp) ?_
  refine AllReady.cons rfl (fun K hK => ?_) AllReady.nil
  go_simp
  refine hK _ _ ?_
  clear hK K
  refine wpAny_ready (rs := [16]) (by kernel_rfl) (by simp) ?_
  refine AllReady.cons rfl (fun K hK => ?_) AllReady.nil
  go_simp
  refine hK _ _ ?_
  clear hK K
  refine wpAny_ready (rs := [17, 18]) (by kernel_rfl) (by simp) ?_
  refine AllReady.cons rfl (fun K hK => ?_) (AllReady.cons rfl (fun K hK => ?_) AllReady.nil)
  · go_simp
    refine hK _ _ ?_
    clear hK K
    refine wpAny_ready (rs := [18]) (by kernel_rfl) (by simp) ?_
    refine AllReady.cons rfl (fun K hK => ?_) AllReady.nil
    go_simp
    go_at_call 22
    refine (HT.out _).mono ?_
    rintro e w7 ⟨⟨a4, rfl, h4⟩, hb⟩
    have H4 := hideC h4
    have HB := hideC (HB.out.trans (hb.mono HB.out.size))
    have BX := hideC (B.below BX.out hb (B.isLt BX.out))
    have H2 := hideC (H2.out.below hb)
    have x0 := B.cell BX.out 0 rfl
    have x1 := B.cell BX.out 1 rfl
    have x2 := B.cell BX.out 2 rfl
    have x3 := B.cell BX.out 3 rfl
    have x4 := B.cell BX.out 4 rfl
    have x5 := B.cell BX.out 5 rfl
    clear h4 hb
    go_simp
    refine hK _ _ ?_
    clear hK K
    refine wpAny_ready (rs := [19]) (by kernel_rfl) (by simp) ?_
    refine AllReady.cons rfl (fun K hK => ?_) AllReady.nil
    go_simp
    go_at_call 13
    refine (HSM.out ⟨an, cn, ag, cg, ay, cy, ar, cr⟩ a4 _ H2.out H4.out).mono ?_
    rintro e w8 ⟨rfl, hb⟩
    have HB := hideC (HB.out.trans (hb.mono HB.out.size))
    clear hb
    go_simp
    refine hK _ _ ?_
    clear hK K
    refine wpAny_ready (rs := [20]) (by kernel_rfl) (by simp) ?_
    refine AllReady.cons rfl (fun K hK => ?_) AllReady.nil
    go_simp
    refine hK _ _ ?_
    clear hK K
    refine wpAny_ready (rs := [21]) (by kernel_rfl) (by simp) ?_
    refine AllReady.cons rfl (fun K hK => ?_) AllReady.nil
    go_simp
    refine hK _ _ ?_
    clear hK K
    refine wpAny_done (by kernel_rfl) ?_ _
    go_wp2
    go_ret
    exact ⟨rfl, HB.out⟩
  · go_simp
    go_at_call 22
    refine (HT.out _).mono ?_
    rintro e w7 ⟨⟨a4, rfl, h4⟩, hb⟩
    have H4 := hideC h4
    have HB := hideC (HB.out.trans (hb.mono HB.out.size))
    have BX := hideC (B.below BX.out hb (B.isLt BX.out))
    have H2 := hideC (H2.out.below hb)
    have x0 := B.cell BX.out 0 rfl
    have x1 := B.cell BX.out 1 rfl
    have x2 := B.cell BX.out 2 rfl
    have x3 := B.cell BX.out 3 rfl
    have x4 := B.cell BX.out 4 rfl
    have x5 := B.cell BX.out 5 rfl
    clear h4 hb
    go_simp
    refine hK _ _ ?_
    clear hK K
    refine wpAny_ready (rs := [17]) (by kernel_rfl) (by simp) ?_
    refine AllReady.cons rfl (fun K hK => ?_) AllReady.nil
    go_simp
    refine hK _ _ ?_
    clear hK K
    refine wpAny_ready (rs := [19]) (by kernel_rfl) (by simp) ?_
    refine AllReady.cons rfl (fun K hK => ?_) AllReady.nil
    go_simp
    go_at_call 13
    refine (HSM.out ⟨an, cn, ag, cg, ay, cy, ar, cr⟩ a4 _ H2.out H4.out).mono ?_
    rintro e w8 ⟨rfl, hb⟩
    have HB := hideC (HB.out.trans (hb.mono HB.out.size))
    clear hb
    go_simp
    refine hK _ _ ?_
    clear hK K
    refine wpAny_ready (rs := [20]) (by kernel_rfl) (by simp) ?_
    refine AllReady.cons rfl (fun K hK => ?_) AllReady.nil
    go_simp
    refine hK _ _ ?_
    clear hK K
    refine wpAny_ready (rs := [21]) (by kernel_rfl) (by simp) ?_
    refine AllReady.cons rfl (fun K hK => ?_) AllReady.nil
    go_simp
    refine hK _ _ ?_
    clear hK K
    refine wpAny_done (by kernel_rfl) ?_ _
    go_wp2
    go_ret
    exact ⟨rfl, HB.out⟩
end Go.Proofs.Ytafdgjpmhofinaa.W
