import Derived.Test.YtafdgjpmhofinaaS4
import Derived.Deep.RegionLaw
namespace Go.Proofs.Ytafdgjpmhofinaa.W
open Go.RowKit
set_option linter.unusedVariables false

/-- a way that ends, seen as a region with nothing left -/
theorem wpAny_fake {P : Program} {T : Prop} (w : World) (h : wpAny P .any #[] (fun _ _ _ => T) 0 #[] { tmps := #[], defers := [] } w) : T := h.2
theorem Out.frmKin {p : Nat} {w : World} (x : Q.Kin w.heap.size w) (hp : p < w.heap.size) : Frm p w none x.world none := ⟨x.keeps.mono (Nat.le_of_lt hp), fun b hb _ _ => x.keeps.block b hb, .inl rfl⟩
set_option maxRecDepth 100000 in
set_option maxHeartbeats 1500000 in
theorem end_yes (p : Nat) (s : ByteArray) (w : World) (h : Rd p w s []) (hs : M.Short s.size) :
    Calls Try.prog 34 #[.pointer (some ⟨p, 0, none⟩)] w fun e w' => e = .returned (.tuple #[]) ∧ Rd p w' s [] ∧ Frm p w none w' none := by
  have HR := hideC h
  have hpl := h.lt
  obtain ⟨k, hk, hl, hp⟩ := h
  have hk2 : k = s.size := by
    have : (s.data.toList.drop k).length = 0 := by rw [hl]; rfl
    rw [List.length_drop, ← Lib.size_eq] at this
    omega
  subst hk2
  unfold M.Short at hs
  have hml : s.size ≤ maxLen := by unfold maxLen; omega
  have HP := hideC hp
  have hkin := Q.kin_some w
  have k0 : ∀ x : Q.Kin w.heap.size w, x.world.cell? ⟨p, 0, none⟩ = some (.string s) := fun x => by rw [Q.cell_kin x _ _ hpl]; exact B.cell HP.out 0 rfl
  have k1 : ∀ x : Q.Kin w.heap.size w, x.world.cell? ⟨p, 1, none⟩ = some (.int .i64 (s.size : Int)) := fun x => by rw [Q.cell_kin x _ _ hpl]; exact B.cell HP.out 1 rfl
  have HM : Hid (∀ W, Calls Try.prog 35 #[.pointer (some ⟨p, 0, none⟩), .bool true] W fun e w' => e = .returned (.tuple #[]) ∧ Below W.heap.size W w') := fun W => (must_yes _ W).mono fun e w' ⟨h1, h2⟩ => ⟨h1, by rw [← h2]; exact Below.refl _ _⟩
  clear hp hl hk
  go_enter Try.func34, Try.ntmps34
  go_wp2
  refine Q.region_kin (by kernel_rfl) (by kernel_rfl) ?_
  repeat (first | go_big_quiet_step ((go_at_call 35; exact Q.calls_kin HM.out _)) | quiet_step ((go_at_call 35; exact Q.calls_kin HM.out _)))
  refine wpQuiet_nil ?_
  intro _ hw'
  obtain ⟨x, hw''⟩ := hw'
  subst hw''
  go_end0
  exact ⟨rfl, HR.out.keep x.keeps, Out.frmKin x hpl⟩

set_option maxRecDepth 100000 in
set_option maxHeartbeats 1500000 in
theorem end_no (p : Nat) (s : ByteArray) (l : List UInt8) (w : World) (h : Rd p w s l) (hl0 : l ≠ []) (hs : M.Short s.size) :
    Calls Try.prog 34 #[.pointer (some ⟨p, 0, none⟩)] w fun e w' => e = wrongE ∧ Frm p w none w' none := by
  have hpl := h.lt
  obtain ⟨k, hk, hl, hp⟩ := h
  have hk2 : k < s.size := by
    rcases Nat.lt_or_ge k s.size with h | h
    · exact h
    · exact absurd (by rw [← hl, List.drop_of_length_le (by rw [← Lib.size_eq]; exact h)]) hl0
  unfold M.Short at hs
  have hml : s.size ≤ maxLen := by unfold maxLen; omega
  have c0 := B.cell hp 0 rfl
  have c1 := B.cell hp 1 rfl
  have hne : ((k : Int) == (s.size : Int)) = false := by simp; omega
  have hne2 : ¬ (k : Int) = (s.size : Int) := by omega
  have HFD := hideC (Frm.ofBelow (p := p) (below_drew w) (by omega) none)
  clear hp hl hk hl0
  go_enter Try.func34, Try.ntmps34
  go_wp2
  go_region_law (go_simp; go_at_call 35; refine (must_no _ _).mono ?_; rintro e w' ⟨rfl, rfl⟩; refine wpAny_fake (P := Try.prog) w ?_)
  all_goals
    go_wp2
    exact ⟨rfl, rfl, HFD.out⟩
end Go.Proofs.Ytafdgjpmhofinaa.W
