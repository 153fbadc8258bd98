import Derived.Test.YtgiohagjanodmaaW2
namespace Go.Proofs.Ytgiohagjanodmaa.W
open Go.RowKit
set_option linter.unusedVariables false

theorem ret_int {k : IntKind} {a b : Int} (h : a = b) : Ending.returned (.int k a) = .returned (.int k b) := by rw [h]

set_option maxHeartbeats 1000000 in
theorem check_some (l : List M.Ar) (b off cap : Nat) (w : World) (hl : M.Lie w b off l) (hf : ∀ i, i < l.length → M.Fits (M.at_ l i)) (hn : l.length ≤ 140737488351232) :
    Calls Try.prog 10 #[.slice (some ⟨b, off, none⟩) l.length cap] w fun e w' => e = .returned (.int .i64 (M.checkN l)) ∧ Below w.heap.size w w' := by
  by_cases hm : 255 < l.length
  · have e : M.checkN l = 2 := by simp [M.checkN, hm]
    rw [e]
    have hm' : (255 : Int) < (l.length : Int) := by omega
    go_enter Try.func10, Try.ntmps10
    go_wp2
    go_ret
    exact ⟨rfl, Below.refl _ _⟩
  · have hm' : ¬ (255 : Int) < (l.length : Int) := by omega
    have e : M.checkN l = if M.good l then 0 else 1 := by simp [M.checkN, hm]
    have E : Hid (M.checkN l = if M.good l then 0 else 1) := e
    clear e
    go_enter Try.func10, Try.ntmps10
    go_wp2
    go_loopw [10] (fun i wr => ∃ k : Nat, k ≤ l.length ∧ i = .int .i64 k ∧ M.goodTo l k = true ∧ Below w.heap.size w wr) (fun i _ => l.length - (intOf i).toNat)
    case atStart => exact ⟨0, by omega, rfl, rfl, Below.refl _ _⟩
    case round =>
      obtain ⟨k, hk, rfl, hg, hb⟩ := hrel
      have HG : Hid (M.goodTo l k = true) := hg
      clear hg
      by_cases hlt : k < l.length
      · obtain ⟨c0, c1, c2, c3⟩ := (hl.below hb) k hlt
        obtain ⟨f1, f2, f3⟩ := hf k hlt
        obtain ⟨a, ha⟩ : ∃ a, a = M.at_ l k := ⟨_, rfl⟩
        rw [← ha] at c0 c1 c2 c3 f1 f2 f3
        have HA : Hid (a = M.at_ l k) := ha
        clear ha
        by_cases hp : M.pagesB a.page a.pages = true
        · by_cases hq : M.protB a.prot = true
          · obtain ⟨W, hW⟩ : ∃ W, W = wr.alloc (.cells #[.int .i64 a.page, .int .i64 a.pages, .int .i64 a.prot, .bool a.zero] 24) := ⟨_, rfl⟩
            have hs : W.heap.size = wr.heap.size + 1 := by rw [hW]; simp
            have hbW : Hid (Below w.heap.size w W) := by show Below _ _ _; rw [hW]; exact hb.alloc hb.size _
            by_cases hk0 : k = 0
            · have hok : Hid (M.okAt l k = true) := by show _ = true; unfold M.okAt; rw [← HA.out, hp, hq, hk0]; rfl
              have z1 : decide ((0 : Int) < (k : Int)) = false := by simp; omega
              have z2 : decide (0 < k) = false := by simp; omega
              clear hk0
              go_wp2_with (first | (go_at_call 25; refine (rightPages_any _ _ _ f1 f2).mono ?_; rintro e w' ⟨rfl, rfl⟩) | (go_at_call 26; refine (rightProt_any _ _).mono ?_; rintro e w' ⟨rfl, rfl⟩))
              go_quiet (fail)
              go_wp2
              go_roundw
              case rel => exact ⟨k + 1, by omega, by go_num, M.ok_step l k HG.out hok.out, below_drewN (hb.alloc hb.size _) _⟩
              case measure => simp [intOf]; omega
            · have hkin := Q.kin_some W
              have hkc := @Q.cell_kin W
              have hlW := hl.below hbW.out
              have hbl := hlW.lt k hlt
              obtain ⟨g0, g1, g2, g3⟩ := hlW (k - 1) (by omega)
              obtain ⟨fp1, fp2, fp3⟩ := hf (k - 1) (by omega)
              obtain ⟨p, hpd⟩ : ∃ p, p = M.at_ l (k - 1) := ⟨_, rfl⟩
              rw [← hpd] at g0 g1 g2 g3 fp1 fp2 fp3
              have hprev := M.goodTo_ok l k HG.out (k - 1) (by omega)
              have hps : M.pagesB p.page p.pages = true := by
                unfold M.okAt at hprev
                rw [← hpd] at hprev
                simp only [Bool.and_eq_true] at hprev
                exact hprev.1.1
              have hpb : 1 ≤ p.page ∧ 1 ≤ p.pages ∧ p.pages ≤ 256 - p.page := by simpa [M.pagesB] using hps
              have hok : Hid (M.okAt l k = M.followB p a) := by show _ = _; unfold M.okAt; rw [← HA.out, ← hpd, hp, hq]; simp [hk0]
              have k0 : ∀ x : Q.Kin W.heap.size W, x.world.cell? ⟨b, off + (k - 1) * 4, none⟩ = some (.int .i64 p.page) := fun x => by rw [hkc x _ _ hbl, g0]
              have k1 : ∀ x : Q.Kin W.heap.size W, x.world.cell? ⟨b, off + (k - 1) * 4 + 1, none⟩ = some (.int .i64 p.pages) := fun x => by rw [hkc x _ _ hbl, g1]
              have k2 : ∀ x : Q.Kin W.heap.size W, x.world.cell? ⟨b, off + (k - 1) * 4 + 2, none⟩ = some (.int .i64 p.prot) := fun x => by rw [hkc x _ _ hbl, g2]
              have k3 : ∀ x : Q.Kin W.heap.size W, x.world.cell? ⟨b, off + (k - 1) * 4 + 3, none⟩ = some (.bool p.zero) := fun x => by rw [hkc x _ _ hbl, g3]
              have e0 : ∀ x : Q.Kin W.heap.size W, x.world.cell? ⟨wr.heap.size, 0, none⟩ = some (.int .i64 a.page) := fun x => by rw [hkc x _ _ (by omega), hW]; simp
              have e1 : ∀ x : Q.Kin W.heap.size W, x.world.cell? ⟨wr.heap.size, 1, none⟩ = some (.int .i64 a.pages) := fun x => by rw [hkc x _ _ (by omega), hW]; simp
              have e2 : ∀ x : Q.Kin W.heap.size W, x.world.cell? ⟨wr.heap.size, 2, none⟩ = some (.int .i64 a.prot) := fun x => by rw [hkc x _ _ (by omega), hW]; simp
              have e3 : ∀ x : Q.Kin W.heap.size W, x.world.cell? ⟨wr.heap.size, 3, none⟩ = some (.bool a.zero) := fun x => by rw [hkc x _ _ (by omega), hW]; simp
              have HW : Hid (W = wr.alloc (.cells #[.int .i64 a.page, .int .i64 a.pages, .int .i64 a.prot, .bool a.zero] 24)) := hW
              have hk1 : (1 : Int) ≤ (k : Int) := by omega
              have hk2 : 0 < k := by omega
              have hk3 : (0 : Int) < (k : Int) := by omega
              clear hW hs hkc hlW hbl g0 g1 g2 g3 hpd hprev hps hl
              by_cases hfo : M.followB p a = true
              · go_wp2_with (first | (go_at_call 25; refine (rightPages_any _ _ _ f1 f2).mono ?_; rintro e w' ⟨rfl, rfl⟩) | (go_at_call 26; refine (rightProt_any _ _).mono ?_; rintro e w' ⟨rfl, rfl⟩))
                rw [← HW.out]
                refine Q.region_kin (by kernel_rfl) (by kernel_rfl) ?_
                repeat (first | go_big_quiet_step ((go_at_call 27; exact Q.calls_kin (fun W => mayFollow_any p a W (by omega) (by omega)) _)) | quiet_step ((go_at_call 27; exact Q.calls_kin (fun W => mayFollow_any p a W (by omega) (by omega)) _)))
                refine wpQuiet_nil ?_
                intro _ hw'
                obtain ⟨x, hw''⟩ := hw'
                subst hw''
                go_wp2
                go_roundw
                case rel => exact ⟨k + 1, by omega, by go_num, M.ok_step l k HG.out (hok.out.trans hfo), hbW.out.trans (x.keeps.mono hbW.out.size)⟩
                case measure => simp [intOf]; omega
              · have hfo' : M.followB p a = false := by simpa using hfo
                clear hfo
                go_wp2_with (first | (go_at_call 25; refine (rightPages_any _ _ _ f1 f2).mono ?_; rintro e w' ⟨rfl, rfl⟩) | (go_at_call 26; refine (rightProt_any _ _).mono ?_; rintro e w' ⟨rfl, rfl⟩))
                rw [← HW.out]
                refine Q.region_kin (by kernel_rfl) (by kernel_rfl) ?_
                repeat (first | go_big_quiet_step ((go_at_call 27; exact Q.calls_kin (fun W => mayFollow_any p a W (by omega) (by omega)) _)) | quiet_step ((go_at_call 27; exact Q.calls_kin (fun W => mayFollow_any p a W (by omega) (by omega)) _)))
                refine wpQuiet_nil ?_
                intro _ hw'
                obtain ⟨x, hw''⟩ := hw'
                subst hw''
                go_wp2
                go_ret
                exact ⟨ret_int (by rw [E.out, M.bad_at l k hlt (hok.out.trans hfo')]; rfl), hbW.out.trans (x.keeps.mono hbW.out.size)⟩
          · have hq' : M.protB a.prot = false := by simpa using hq
            clear hq
            have hbad : Hid (M.okAt l k = false) := by show _ = false; unfold M.okAt; rw [← HA.out, hp, hq']; rfl
            go_wp2_with (first | (go_at_call 25; refine (rightPages_any _ _ _ f1 f2).mono ?_; rintro e w' ⟨rfl, rfl⟩) | (go_at_call 26; refine (rightProt_any _ _).mono ?_; rintro e w' ⟨rfl, rfl⟩))
            go_ret
            exact ⟨ret_int (by rw [E.out, M.bad_at l k hlt hbad.out]; rfl), hb.alloc hb.size _⟩
        · have hp' : M.pagesB a.page a.pages = false := by simpa using hp
          clear hp
          have hbad : Hid (M.okAt l k = false) := by show _ = false; unfold M.okAt; rw [← HA.out, hp']; rfl
          go_wp2_with (first | (go_at_call 25; refine (rightPages_any _ _ _ f1 f2).mono ?_; rintro e w' ⟨rfl, rfl⟩))
          go_ret
          exact ⟨ret_int (by rw [E.out, M.bad_at l k hlt hbad.out]; rfl), hb.alloc hb.size _⟩
      · obtain rfl : k = l.length := by omega
        go_wp2
        go_ret
        exact ⟨ret_int (by rw [E.out, show M.good l = true from HG.out]; rfl), hb⟩

theorem check_nil (ao : Option Addr) (cap : Nat) (w : World) :
    Calls Try.prog 10 #[.slice ao 0 cap] w fun e w' => e = .returned (.int .i64 (M.checkN [])) ∧ Below w.heap.size w w' := by
  have e : M.checkN [] = 0 := by decide
  rw [e]
  go_enter Try.func10, Try.ntmps10
  go_wp2
  refine wp_loop_rounds 1 ?_
  rw [rounds_succ]
  go_wp2
  go_ret
  exact ⟨rfl, Below.refl _ _⟩
end Go.Proofs.Ytgiohagjanodmaa.W
