import Derived.Test.YtbgnagognnklbaaG06
namespace Go.Proofs.Ytbgnagognnklbaa.AW
open Go.RowKit
set_option linter.unusedVariables false
set_option maxRecDepth 100000

set_option maxHeartbeats 400000 in
theorem mayFollow_eq (ap an at' bp bn bt : Int) (az bz : Bool) (w : World) (h1 : -9223372036854775808 ≤ ap + an) (h2 : ap + an ≤ 9223372036854775807) (he : bp = ap + an) :
    Calls Try.prog 65 #[.agg #[.int .i64 ap, .int .i64 an, .int .i64 at', .bool az], .agg #[.int .i64 bp, .int .i64 bn, .int .i64 bt, .bool bz]] w fun e w' => e = .returned (.bool (bt != at' || bz != az)) ∧ Below w.heap.size w w' := by
  obtain ⟨W, hW⟩ : ∃ W, W = (w.alloc (.cells #[.int .i64 ap, .int .i64 an, .int .i64 at', .bool az] 99)).alloc (.cells #[.int .i64 bp, .int .i64 bn, .int .i64 bt, .bool bz] 99) := ⟨_, rfl⟩
  have hs : W.heap.size = w.heap.size + 2 := by rw [hW]; simp
  have hkin := Q.kin_some W
  have hkc := @Q.cell_kin W
  have c0 : ∀ x : Q.Kin W.heap.size W, x.world.cell? ⟨w.heap.size, 0, none⟩ = some (.int .i64 ap) := fun x => by rw [hkc x _ _ (by omega), hW]; simp
  have c1 : ∀ x : Q.Kin W.heap.size W, x.world.cell? ⟨w.heap.size, 1, none⟩ = some (.int .i64 an) := fun x => by rw [hkc x _ _ (by omega), hW]; simp
  have c2 : ∀ x : Q.Kin W.heap.size W, x.world.cell? ⟨w.heap.size, 2, none⟩ = some (.int .i64 at') := fun x => by rw [hkc x _ _ (by omega), hW]; simp
  have c3 : ∀ x : Q.Kin W.heap.size W, x.world.cell? ⟨w.heap.size, 3, none⟩ = some (.bool az) := fun x => by rw [hkc x _ _ (by omega), hW]; simp
  have d0 : ∀ x : Q.Kin W.heap.size W, x.world.cell? ⟨w.heap.size + 1, 0, none⟩ = some (.int .i64 bp) := fun x => by rw [hkc x _ _ (by omega), hW]; simp
  have d2 : ∀ x : Q.Kin W.heap.size W, x.world.cell? ⟨w.heap.size + 1, 2, none⟩ = some (.int .i64 bt) := fun x => by rw [hkc x _ _ (by omega), hW]; simp
  have d3 : ∀ x : Q.Kin W.heap.size W, x.world.cell? ⟨w.heap.size + 1, 3, none⟩ = some (.bool bz) := fun x => by rw [hkc x _ _ (by omega), hW]; simp
  have hbW : Hid (Below w.heap.size w W) := by show Below _ _ _; rw [hW]; exact ((Below.refl _ _).alloc (Nat.le_refl _) _).alloc (by simp) _
  have HW : Hid (W = (w.alloc (.cells #[.int .i64 ap, .int .i64 an, .int .i64 at', .bool az] 99)).alloc (.cells #[.int .i64 bp, .int .i64 bn, .int .i64 bt, .bool bz] 99)) := hW
  clear hW hs hkc
  have hx : (bp == ap + an) = true := by simp [he]
  clear he
  go_enter Try.func65, Try.ntmps65
  go_wp2_with fail
  rw [← HW.out]
  refine Q.region_kin (by kernel_rfl) (by kernel_rfl) ?_
  repeat (first | go_big_quiet_step ((go_at_call 85; exact Q.calls_kin (fun W => end_any _ _ _ _ W h1 h2) _)) | quiet_step ((go_at_call 85; exact Q.calls_kin (fun W => end_any _ _ _ _ W h1 h2) _)))
  refine wpQuiet_nil ?_
  intro _ hw'
  obtain ⟨x, hw''⟩ := hw'
  subst hw''
  go_wp2
  all_goals go_ret
  all_goals exact ⟨by first | (simp [*]; done) | (simp [*]; cases bz <;> cases az <;> rfl), hbW.out.trans (x.keeps.mono hbW.out.size)⟩

set_option maxHeartbeats 400000 in
theorem mayFollow_ne (ap an at' bp bn bt : Int) (az bz : Bool) (w : World) (h1 : -9223372036854775808 ≤ ap + an) (h2 : ap + an ≤ 9223372036854775807) (he : ¬ bp = ap + an) :
    Calls Try.prog 65 #[.agg #[.int .i64 ap, .int .i64 an, .int .i64 at', .bool az], .agg #[.int .i64 bp, .int .i64 bn, .int .i64 bt, .bool bz]] w fun e w' => e = .returned (.bool (decide (ap + an < bp))) ∧ Below w.heap.size w w' := by
  obtain ⟨W, hW⟩ : ∃ W, W = (w.alloc (.cells #[.int .i64 ap, .int .i64 an, .int .i64 at', .bool az] 99)).alloc (.cells #[.int .i64 bp, .int .i64 bn, .int .i64 bt, .bool bz] 99) := ⟨_, rfl⟩
  have hs : W.heap.size = w.heap.size + 2 := by rw [hW]; simp
  have hkin := Q.kin_some W
  have hkc := @Q.cell_kin W
  have c0 : ∀ x : Q.Kin W.heap.size W, x.world.cell? ⟨w.heap.size, 0, none⟩ = some (.int .i64 ap) := fun x => by rw [hkc x _ _ (by omega), hW]; simp
  have c1 : ∀ x : Q.Kin W.heap.size W, x.world.cell? ⟨w.heap.size, 1, none⟩ = some (.int .i64 an) := fun x => by rw [hkc x _ _ (by omega), hW]; simp
  have c2 : ∀ x : Q.Kin W.heap.size W, x.world.cell? ⟨w.heap.size, 2, none⟩ = some (.int .i64 at') := fun x => by rw [hkc x _ _ (by omega), hW]; simp
  have c3 : ∀ x : Q.Kin W.heap.size W, x.world.cell? ⟨w.heap.size, 3, none⟩ = some (.bool az) := fun x => by rw [hkc x _ _ (by omega), hW]; simp
  have d0 : ∀ x : Q.Kin W.heap.size W, x.world.cell? ⟨w.heap.size + 1, 0, none⟩ = some (.int .i64 bp) := fun x => by rw [hkc x _ _ (by omega), hW]; simp
  have hbW : Hid (Below w.heap.size w W) := by show Below _ _ _; rw [hW]; exact ((Below.refl _ _).alloc (Nat.le_refl _) _).alloc (by simp) _
  have HW : Hid (W = (w.alloc (.cells #[.int .i64 ap, .int .i64 an, .int .i64 at', .bool az] 99)).alloc (.cells #[.int .i64 bp, .int .i64 bn, .int .i64 bt, .bool bz] 99)) := hW
  have hs2 : Hid (w.heap.size + 2 ≤ W.heap.size) := by show _ ≤ _; omega
  clear hW hs hkc
  have hx : (bp == ap + an) = false := by simp [he]
  clear he
  go_enter Try.func65, Try.ntmps65
  go_wp2_with fail
  rw [← HW.out]
  refine Q.region_kin (by kernel_rfl) (by kernel_rfl) ?_
  repeat (first | go_big_quiet_step ((go_at_call 85; exact Q.calls_kin (fun W => end_any _ _ _ _ W h1 h2) _)) | quiet_step ((go_at_call 85; exact Q.calls_kin (fun W => end_any _ _ _ _ W h1 h2) _)))
  refine wpQuiet_nil ?_
  intro _ hw'
  obtain ⟨x, hw''⟩ := hw'
  subst hw''
  have c0x := c0 x
  have c1x := c1 x
  have c2x := c2 x
  have c3x := c3 x
  have d0x := d0 x
  have hsx : Hid (w.heap.size + 2 ≤ x.world.heap.size) := Nat.le_trans hs2.out x.keeps.size
  have hbx : Hid (Below w.heap.size w x.world) := hbW.out.trans (x.keeps.mono hbW.out.size)
  clear HW c0 c1 c2 c3 d0 hkin hbW hs2
  obtain ⟨V, hV⟩ : ∃ V, V = x.world := ⟨_, rfl⟩
  rw [← hV] at c0x c1x c2x c3x d0x hsx hbx ⊢
  clear hV
  have hkin := Q.kin_some V
  have hkc := @Q.cell_kin V
  have hsx' := hsx.out
  have c0 : ∀ x : Q.Kin V.heap.size V, x.world.cell? ⟨w.heap.size, 0, none⟩ = some (.int .i64 ap) := fun x => by rw [hkc x _ _ (by omega), c0x]
  have c1 : ∀ x : Q.Kin V.heap.size V, x.world.cell? ⟨w.heap.size, 1, none⟩ = some (.int .i64 an) := fun x => by rw [hkc x _ _ (by omega), c1x]
  have c2 : ∀ x : Q.Kin V.heap.size V, x.world.cell? ⟨w.heap.size, 2, none⟩ = some (.int .i64 at') := fun x => by rw [hkc x _ _ (by omega), c2x]
  have c3 : ∀ x : Q.Kin V.heap.size V, x.world.cell? ⟨w.heap.size, 3, none⟩ = some (.bool az) := fun x => by rw [hkc x _ _ (by omega), c3x]
  have d0 : ∀ x : Q.Kin V.heap.size V, x.world.cell? ⟨w.heap.size + 1, 0, none⟩ = some (.int .i64 bp) := fun x => by rw [hkc x _ _ (by omega), d0x]
  clear hkc hsx'
  go_wp2_with fail
  refine Q.region_kin (by kernel_rfl) (by kernel_rfl) ?_
  repeat (first | go_big_quiet_step ((go_at_call 85; exact Q.calls_kin (fun W => end_any _ _ _ _ W h1 h2) _)) | quiet_step ((go_at_call 85; exact Q.calls_kin (fun W => end_any _ _ _ _ W h1 h2) _)))
  refine wpQuiet_nil ?_
  intro _ hw'
  obtain ⟨y, hw''⟩ := hw'
  subst hw''
  go_wp2
  go_ret
  exact ⟨rfl, hbx.out.trans (y.keeps.mono hbx.out.size)⟩

theorem mayFollow_any (a b : AM.Ar) (w : World) (h1 : -9223372036854775808 ≤ a.page + a.pages) (h2 : a.page + a.pages ≤ 9223372036854775807) :
    Calls Try.prog 65 #[.agg #[.int .i64 a.page, .int .i64 a.pages, .int .i64 a.prot, .bool a.zero], .agg #[.int .i64 b.page, .int .i64 b.pages, .int .i64 b.prot, .bool b.zero]] w fun e w' => e = .returned (.bool (AM.followB a b)) ∧ Below w.heap.size w w' := by
  unfold AM.followB AM.Ar.last0
  split
  · exact mayFollow_eq _ _ _ _ _ _ _ _ w h1 h2 (by assumption)
  · exact mayFollow_ne _ _ _ _ _ _ _ _ w h1 h2 (by assumption)
end Go.Proofs.Ytbgnagognnklbaa.AW
namespace Go.Proofs.Ytbgnagognnklbaa.AW
open Go.RowKit
set_option linter.unusedVariables false
set_option maxRecDepth 100000

theorem ret_int {k : IntKind} {a b : Int} (h : a = b) : Ending.returned (.int k a) = .returned (.int k b) := by rw [h]

set_option maxHeartbeats 1000000 in
theorem check_some (l : List AM.Ar) (b off cap : Nat) (w : World) (hl : AM.Lie w b off l) (hf : ∀ i, i < l.length → AM.Fits (AM.at_ l i)) (hn : l.length ≤ 140737488351232) :
    Calls Try.prog 39 #[.slice (some ⟨b, off, none⟩) l.length cap] w fun e w' => e = .returned (.int .i64 (AM.checkN l)) ∧ Below w.heap.size w w' := by
  by_cases hm : 255 < l.length
  · have e : AM.checkN l = 2 := by simp [AM.checkN, hm]
    rw [e]
    have hm' : (255 : Int) < (l.length : Int) := by omega
    go_enter Try.func39, Try.ntmps39
    go_wp2
    go_ret
    exact ⟨rfl, Below.refl _ _⟩
  · have hm' : ¬ (255 : Int) < (l.length : Int) := by omega
    have e : AM.checkN l = if AM.good l then 0 else 1 := by simp [AM.checkN, hm]
    have E : Hid (AM.checkN l = if AM.good l then 0 else 1) := e
    clear e
    go_enter Try.func39, Try.ntmps39
    go_wp2
    go_loopw [10] (fun i wr => ∃ k : Nat, k ≤ l.length ∧ i = .int .i64 k ∧ AM.goodTo l k = true ∧ Below w.heap.size w wr) (fun i _ => l.length - (intOf i).toNat)
    case atStart => exact ⟨0, by omega, rfl, rfl, Below.refl _ _⟩
    case round =>
      obtain ⟨k, hk, rfl, hg, hb⟩ := hrel
      have HG : Hid (AM.goodTo l k = true) := hg
      clear hg
      by_cases hlt : k < l.length
      · obtain ⟨c0, c1, c2, c3⟩ := (hl.below hb) k hlt
        obtain ⟨f1, f2, f3⟩ := hf k hlt
        obtain ⟨a, ha⟩ : ∃ a, a = AM.at_ l k := ⟨_, rfl⟩
        rw [← ha] at c0 c1 c2 c3 f1 f2 f3
        have HA : Hid (a = AM.at_ l k) := ha
        clear ha
        by_cases hp : AM.pagesB a.page a.pages = true
        · by_cases hq : AM.protB a.prot = true
          · obtain ⟨W, hW⟩ : ∃ W, W = wr.alloc (.cells #[.int .i64 a.page, .int .i64 a.pages, .int .i64 a.prot, .bool a.zero] 99) := ⟨_, rfl⟩
            have hs : W.heap.size = wr.heap.size + 1 := by rw [hW]; simp
            have hbW : Hid (Below w.heap.size w W) := by show Below _ _ _; rw [hW]; exact hb.alloc hb.size _
            by_cases hk0 : k = 0
            · have hok : Hid (AM.okAt l k = true) := by show _ = true; unfold AM.okAt; rw [← HA.out, hp, hq, hk0]; rfl
              have z1 : decide ((0 : Int) < (k : Int)) = false := by simp; omega
              have z2 : decide (0 < k) = false := by simp; omega
              clear hk0
              go_wp2_with (first | (go_at_call 63; refine (rightPages_any _ _ _ f1 f2).mono ?_; rintro e w' ⟨rfl, rfl⟩) | (go_at_call 64; refine (rightProt_any _ _).mono ?_; rintro e w' ⟨rfl, rfl⟩))
              go_quiet (fail)
              go_wp2
              go_roundw
              case rel => exact ⟨k + 1, by omega, by go_num, AM.ok_step l k HG.out hok.out, below_drewN (hb.alloc hb.size _) _⟩
              case measure => simp [intOf]; omega
            · have hkin := Q.kin_some W
              have hkc := @Q.cell_kin W
              have hlW := hl.below hbW.out
              have hbl := hlW.lt k hlt
              obtain ⟨g0, g1, g2, g3⟩ := hlW (k - 1) (by omega)
              obtain ⟨fp1, fp2, fp3⟩ := hf (k - 1) (by omega)
              obtain ⟨p, hpd⟩ : ∃ p, p = AM.at_ l (k - 1) := ⟨_, rfl⟩
              rw [← hpd] at g0 g1 g2 g3 fp1 fp2 fp3
              have hprev := AM.goodTo_ok l k HG.out (k - 1) (by omega)
              have hps : AM.pagesB p.page p.pages = true := by
                unfold AM.okAt at hprev
                rw [← hpd] at hprev
                simp only [Bool.and_eq_true] at hprev
                exact hprev.1.1
              have hpb : 1 ≤ p.page ∧ 1 ≤ p.pages ∧ p.pages ≤ 256 - p.page := by simpa [AM.pagesB] using hps
              have hok : Hid (AM.okAt l k = AM.followB p a) := by show _ = _; unfold AM.okAt; rw [← HA.out, ← hpd, hp, hq]; simp [hk0]
              have k0 : ∀ x : Q.Kin W.heap.size W, x.world.cell? ⟨b, off + (k - 1) * 4, none⟩ = some (.int .i64 p.page) := fun x => by rw [hkc x _ _ hbl, g0]
              have k1 : ∀ x : Q.Kin W.heap.size W, x.world.cell? ⟨b, off + (k - 1) * 4 + 1, none⟩ = some (.int .i64 p.pages) := fun x => by rw [hkc x _ _ hbl, g1]
              have k2 : ∀ x : Q.Kin W.heap.size W, x.world.cell? ⟨b, off + (k - 1) * 4 + 2, none⟩ = some (.int .i64 p.prot) := fun x => by rw [hkc x _ _ hbl, g2]
              have k3 : ∀ x : Q.Kin W.heap.size W, x.world.cell? ⟨b, off + (k - 1) * 4 + 3, none⟩ = some (.bool p.zero) := fun x => by rw [hkc x _ _ hbl, g3]
              have e0 : ∀ x : Q.Kin W.heap.size W, x.world.cell? ⟨wr.heap.size, 0, none⟩ = some (.int .i64 a.page) := fun x => by rw [hkc x _ _ (by omega), hW]; simp
              have e1 : ∀ x : Q.Kin W.heap.size W, x.world.cell? ⟨wr.heap.size, 1, none⟩ = some (.int .i64 a.pages) := fun x => by rw [hkc x _ _ (by omega), hW]; simp
              have e2 : ∀ x : Q.Kin W.heap.size W, x.world.cell? ⟨wr.heap.size, 2, none⟩ = some (.int .i64 a.prot) := fun x => by rw [hkc x _ _ (by omega), hW]; simp
              have e3 : ∀ x : Q.Kin W.heap.size W, x.world.cell? ⟨wr.heap.size, 3, none⟩ = some (.bool a.zero) := fun x => by rw [hkc x _ _ (by omega), hW]; simp
              have HW : Hid (W = wr.alloc (.cells #[.int .i64 a.page, .int .i64 a.pages, .int .i64 a.prot, .bool a.zero] 99)) := hW
              have hk1 : (1 : Int) ≤ (k : Int) := by omega
              have hk2 : 0 < k := by omega
              have hk3 : (0 : Int) < (k : Int) := by omega
              clear hW hs hkc hlW hbl g0 g1 g2 g3 hpd hprev hps hl
              by_cases hfo : AM.followB p a = true
              · go_wp2_with (first | (go_at_call 63; refine (rightPages_any _ _ _ f1 f2).mono ?_; rintro e w' ⟨rfl, rfl⟩) | (go_at_call 64; refine (rightProt_any _ _).mono ?_; rintro e w' ⟨rfl, rfl⟩))
                rw [← HW.out]
                refine Q.region_kin (by kernel_rfl) (by kernel_rfl) ?_
                repeat (first | go_big_quiet_step ((go_at_call 65; exact Q.calls_kin (fun W => mayFollow_any p a W (by omega) (by omega)) _)) | quiet_step ((go_at_call 65; exact Q.calls_kin (fun W => mayFollow_any p a W (by omega) (by omega)) _)))
                refine wpQuiet_nil ?_
                intro _ hw'
                obtain ⟨x, hw''⟩ := hw'
                subst hw''
                go_wp2
                go_roundw
                case rel => exact ⟨k + 1, by omega, by go_num, AM.ok_step l k HG.out (hok.out.trans hfo), hbW.out.trans (x.keeps.mono hbW.out.size)⟩
                case measure => simp [intOf]; omega
              · have hfo' : AM.followB p a = false := by simpa using hfo
                clear hfo
                go_wp2_with (first | (go_at_call 63; refine (rightPages_any _ _ _ f1 f2).mono ?_; rintro e w' ⟨rfl, rfl⟩) | (go_at_call 64; refine (rightProt_any _ _).mono ?_; rintro e w' ⟨rfl, rfl⟩))
                rw [← HW.out]
                refine Q.region_kin (by kernel_rfl) (by kernel_rfl) ?_
                repeat (first | go_big_quiet_step ((go_at_call 65; exact Q.calls_kin (fun W => mayFollow_any p a W (by omega) (by omega)) _)) | quiet_step ((go_at_call 65; exact Q.calls_kin (fun W => mayFollow_any p a W (by omega) (by omega)) _)))
                refine wpQuiet_nil ?_
                intro _ hw'
                obtain ⟨x, hw''⟩ := hw'
                subst hw''
                go_wp2
                go_ret
                exact ⟨ret_int (by rw [E.out, AM.bad_at l k hlt (hok.out.trans hfo')]; rfl), hbW.out.trans (x.keeps.mono hbW.out.size)⟩
          · have hq' : AM.protB a.prot = false := by simpa using hq
            clear hq
            have hbad : Hid (AM.okAt l k = false) := by show _ = false; unfold AM.okAt; rw [← HA.out, hp, hq']; rfl
            go_wp2_with (first | (go_at_call 63; refine (rightPages_any _ _ _ f1 f2).mono ?_; rintro e w' ⟨rfl, rfl⟩) | (go_at_call 64; refine (rightProt_any _ _).mono ?_; rintro e w' ⟨rfl, rfl⟩))
            go_ret
            exact ⟨ret_int (by rw [E.out, AM.bad_at l k hlt hbad.out]; rfl), hb.alloc hb.size _⟩
        · have hp' : AM.pagesB a.page a.pages = false := by simpa using hp
          clear hp
          have hbad : Hid (AM.okAt l k = false) := by show _ = false; unfold AM.okAt; rw [← HA.out, hp']; rfl
          go_wp2_with (first | (go_at_call 63; refine (rightPages_any _ _ _ f1 f2).mono ?_; rintro e w' ⟨rfl, rfl⟩))
          go_ret
          exact ⟨ret_int (by rw [E.out, AM.bad_at l k hlt hbad.out]; rfl), hb.alloc hb.size _⟩
      · obtain rfl : k = l.length := by omega
        go_wp2
        go_ret
        exact ⟨ret_int (by rw [E.out, show AM.good l = true from HG.out]; rfl), hb⟩

theorem check_nil (ao : Option Addr) (cap : Nat) (w : World) :
    Calls Try.prog 39 #[.slice ao 0 cap] w fun e w' => e = .returned (.int .i64 (AM.checkN [])) ∧ Below w.heap.size w w' := by
  have e : AM.checkN [] = 0 := by decide
  rw [e]
  go_enter Try.func39, Try.ntmps39
  go_wp2
  refine wp_loop_rounds 1 ?_
  rw [rounds_succ]
  go_wp2
  go_ret
  exact ⟨rfl, Below.refl _ _⟩
end Go.Proofs.Ytbgnagognnklbaa.AW
namespace Go.Proofs.Ytbgnagognnklbaa.AW
open Go.RowKit
set_option linter.unusedVariables false
set_option maxRecDepth 100000

end Go.Proofs.Ytbgnagognnklbaa.AW
