import Derived.Test.YtgiohagjanodmaaW1
import Derived.Test.YtgiohagjanodmaaQ
namespace Go.Proofs.Ytgiohagjanodmaa.W
open Go.RowKit
set_option linter.unusedVariables false

set_option maxHeartbeats 400000 in
theorem mayFollow_eq (ap an at' bp bn bt : Int) (az bz : Bool) (w : World) (h1 : -9223372036854775808 ≤ ap + an) (h2 : ap + an ≤ 9223372036854775807) (he : bp = ap + an) :
    Calls Try.prog 27 #[.agg #[.int .i64 ap, .int .i64 an, .int .i64 at', .bool az], .agg #[.int .i64 bp, .int .i64 bn, .int .i64 bt, .bool bz]] w fun e w' => e = .returned (.bool (bt != at' || bz != az)) ∧ Below w.heap.size w w' := by
  obtain ⟨W, hW⟩ : ∃ W, W = (w.alloc (.cells #[.int .i64 ap, .int .i64 an, .int .i64 at', .bool az] 24)).alloc (.cells #[.int .i64 bp, .int .i64 bn, .int .i64 bt, .bool bz] 24) := ⟨_, rfl⟩
  have hs : W.heap.size = w.heap.size + 2 := by rw [hW]; simp
  have hkin := Q.kin_some W
  have hkc := @Q.cell_kin W
  have c0 : ∀ x : Q.Kin W.heap.size W, x.world.cell? ⟨w.heap.size, 0, none⟩ = some (.int .i64 ap) := fun x => by rw [hkc x _ _ (by omega), hW]; simp
  have c1 : ∀ x : Q.Kin W.heap.size W, x.world.cell? ⟨w.heap.size, 1, none⟩ = some (.int .i64 an) := fun x => by rw [hkc x _ _ (by omega), hW]; simp
  have c2 : ∀ x : Q.Kin W.heap.size W, x.world.cell? ⟨w.heap.size, 2, none⟩ = some (.int .i64 at') := fun x => by rw [hkc x _ _ (by omega), hW]; simp
  have c3 : ∀ x : Q.Kin W.heap.size W, x.world.cell? ⟨w.heap.size, 3, none⟩ = some (.bool az) := fun x => by rw [hkc x _ _ (by omega), hW]; simp
  have d0 : ∀ x : Q.Kin W.heap.size W, x.world.cell? ⟨w.heap.size + 1, 0, none⟩ = some (.int .i64 bp) := fun x => by rw [hkc x _ _ (by omega), hW]; simp
  have d2 : ∀ x : Q.Kin W.heap.size W, x.world.cell? ⟨w.heap.size + 1, 2, none⟩ = some (.int .i64 bt) := fun x => by rw [hkc x _ _ (by omega), hW]; simp
  have d3 : ∀ x : Q.Kin W.heap.size W, x.world.cell? ⟨w.heap.size + 1, 3, none⟩ = some (.bool bz) := fun x => by rw [hkc x _ _ (by omega), hW]; simp
  have hbW : Hid (Below w.heap.size w W) := by show Below _ _ _; rw [hW]; exact ((Below.refl _ _).alloc (Nat.le_refl _) _).alloc (by simp) _
  have HW : Hid (W = (w.alloc (.cells #[.int .i64 ap, .int .i64 an, .int .i64 at', .bool az] 24)).alloc (.cells #[.int .i64 bp, .int .i64 bn, .int .i64 bt, .bool bz] 24)) := hW
  clear hW hs hkc
  have hx : (bp == ap + an) = true := by simp [he]
  clear he
  go_enter Try.func27, Try.ntmps27
  go_wp2_with fail
  rw [← HW.out]
  refine Q.region_kin (by kernel_rfl) (by kernel_rfl) ?_
  repeat (first | go_big_quiet_step ((go_at_call 21; exact Q.calls_kin (fun W => end_any _ _ _ _ W h1 h2) _)) | quiet_step ((go_at_call 21; exact Q.calls_kin (fun W => end_any _ _ _ _ W h1 h2) _)))
  refine wpQuiet_nil ?_
  intro _ hw'
  obtain ⟨x, hw''⟩ := hw'
  subst hw''
  go_wp2
  all_goals go_ret
  all_goals exact ⟨by first | (simp [*]; done) | (simp [*]; cases bz <;> cases az <;> rfl), hbW.out.trans (x.keeps.mono hbW.out.size)⟩

set_option maxHeartbeats 400000 in
theorem mayFollow_ne (ap an at' bp bn bt : Int) (az bz : Bool) (w : World) (h1 : -9223372036854775808 ≤ ap + an) (h2 : ap + an ≤ 9223372036854775807) (he : ¬ bp = ap + an) :
    Calls Try.prog 27 #[.agg #[.int .i64 ap, .int .i64 an, .int .i64 at', .bool az], .agg #[.int .i64 bp, .int .i64 bn, .int .i64 bt, .bool bz]] w fun e w' => e = .returned (.bool (decide (ap + an < bp))) ∧ Below w.heap.size w w' := by
  obtain ⟨W, hW⟩ : ∃ W, W = (w.alloc (.cells #[.int .i64 ap, .int .i64 an, .int .i64 at', .bool az] 24)).alloc (.cells #[.int .i64 bp, .int .i64 bn, .int .i64 bt, .bool bz] 24) := ⟨_, rfl⟩
  have hs : W.heap.size = w.heap.size + 2 := by rw [hW]; simp
  have hkin := Q.kin_some W
  have hkc := @Q.cell_kin W
  have c0 : ∀ x : Q.Kin W.heap.size W, x.world.cell? ⟨w.heap.size, 0, none⟩ = some (.int .i64 ap) := fun x => by rw [hkc x _ _ (by omega), hW]; simp
  have c1 : ∀ x : Q.Kin W.heap.size W, x.world.cell? ⟨w.heap.size, 1, none⟩ = some (.int .i64 an) := fun x => by rw [hkc x _ _ (by omega), hW]; simp
  have c2 : ∀ x : Q.Kin W.heap.size W, x.world.cell? ⟨w.heap.size, 2, none⟩ = some (.int .i64 at') := fun x => by rw [hkc x _ _ (by omega), hW]; simp
  have c3 : ∀ x : Q.Kin W.heap.size W, x.world.cell? ⟨w.heap.size, 3, none⟩ = some (.bool az) := fun x => by rw [hkc x _ _ (by omega), hW]; simp
  have d0 : ∀ x : Q.Kin W.heap.size W, x.world.cell? ⟨w.heap.size + 1, 0, none⟩ = some (.int .i64 bp) := fun x => by rw [hkc x _ _ (by omega), hW]; simp
  have hbW : Hid (Below w.heap.size w W) := by show Below _ _ _; rw [hW]; exact ((Below.refl _ _).alloc (Nat.le_refl _) _).alloc (by simp) _
  have HW : Hid (W = (w.alloc (.cells #[.int .i64 ap, .int .i64 an, .int .i64 at', .bool az] 24)).alloc (.cells #[.int .i64 bp, .int .i64 bn, .int .i64 bt, .bool bz] 24)) := hW
  have hs2 : Hid (w.heap.size + 2 ≤ W.heap.size) := by show _ ≤ _; omega
  clear hW hs hkc
  have hx : (bp == ap + an) = false := by simp [he]
  clear he
  go_enter Try.func27, Try.ntmps27
  go_wp2_with fail
  rw [← HW.out]
  refine Q.region_kin (by kernel_rfl) (by kernel_rfl) ?_
  repeat (first | go_big_quiet_step ((go_at_call 21; exact Q.calls_kin (fun W => end_any _ _ _ _ W h1 h2) _)) | quiet_step ((go_at_call 21; exact Q.calls_kin (fun W => end_any _ _ _ _ W h1 h2) _)))
  refine wpQuiet_nil ?_
  intro _ hw'
  obtain ⟨x, hw''⟩ := hw'
  subst hw''
  have c0x := c0 x
  have c1x := c1 x
  have c2x := c2 x
  have c3x := c3 x
  have d0x := d0 x
  have hsx : Hid (w.heap.size + 2 ≤ x.world.heap.size) := Nat.le_trans hs2.out x.keeps.size
  have hbx : Hid (Below w.heap.size w x.world) := hbW.out.trans (x.keeps.mono hbW.out.size)
  clear HW c0 c1 c2 c3 d0 hkin hbW hs2
  obtain ⟨V, hV⟩ : ∃ V, V = x.world := ⟨_, rfl⟩
  rw [← hV] at c0x c1x c2x c3x d0x hsx hbx ⊢
  clear hV
  have hkin := Q.kin_some V
  have hkc := @Q.cell_kin V
  have hsx' := hsx.out
  have c0 : ∀ x : Q.Kin V.heap.size V, x.world.cell? ⟨w.heap.size, 0, none⟩ = some (.int .i64 ap) := fun x => by rw [hkc x _ _ (by omega), c0x]
  have c1 : ∀ x : Q.Kin V.heap.size V, x.world.cell? ⟨w.heap.size, 1, none⟩ = some (.int .i64 an) := fun x => by rw [hkc x _ _ (by omega), c1x]
  have c2 : ∀ x : Q.Kin V.heap.size V, x.world.cell? ⟨w.heap.size, 2, none⟩ = some (.int .i64 at') := fun x => by rw [hkc x _ _ (by omega), c2x]
  have c3 : ∀ x : Q.Kin V.heap.size V, x.world.cell? ⟨w.heap.size, 3, none⟩ = some (.bool az) := fun x => by rw [hkc x _ _ (by omega), c3x]
  have d0 : ∀ x : Q.Kin V.heap.size V, x.world.cell? ⟨w.heap.size + 1, 0, none⟩ = some (.int .i64 bp) := fun x => by rw [hkc x _ _ (by omega), d0x]
  clear hkc hsx'
  go_wp2_with fail
  refine Q.region_kin (by kernel_rfl) (by kernel_rfl) ?_
  repeat (first | go_big_quiet_step ((go_at_call 21; exact Q.calls_kin (fun W => end_any _ _ _ _ W h1 h2) _)) | quiet_step ((go_at_call 21; exact Q.calls_kin (fun W => end_any _ _ _ _ W h1 h2) _)))
  refine wpQuiet_nil ?_
  intro _ hw'
  obtain ⟨y, hw''⟩ := hw'
  subst hw''
  go_wp2
  go_ret
  exact ⟨rfl, hbx.out.trans (y.keeps.mono hbx.out.size)⟩

theorem mayFollow_any (a b : M.Ar) (w : World) (h1 : -9223372036854775808 ≤ a.page + a.pages) (h2 : a.page + a.pages ≤ 9223372036854775807) :
    Calls Try.prog 27 #[.agg #[.int .i64 a.page, .int .i64 a.pages, .int .i64 a.prot, .bool a.zero], .agg #[.int .i64 b.page, .int .i64 b.pages, .int .i64 b.prot, .bool b.zero]] w fun e w' => e = .returned (.bool (M.followB a b)) ∧ Below w.heap.size w w' := by
  unfold M.followB M.Ar.last0
  split
  · exact mayFollow_eq _ _ _ _ _ _ _ _ w h1 h2 (by assumption)
  · exact mayFollow_ne _ _ _ _ _ _ _ _ w h1 h2 (by assumption)
end Go.Proofs.Ytgiohagjanodmaa.W
