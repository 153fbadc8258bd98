import Derived.Test.YtbgnagognnklbaaG04
import Derived.Test.YtbgnagognnklbaaG06
import Derived.Test.YtbgnagognnklbaaG09
/- The linker: Check's parts. -/
namespace Go.Proofs.Ytbgnagognnklbaa.LW
open Go.RowKit
open Go.Proofs.Ytbgnagognnklbaa.W (hideC)
set_option linter.unusedVariables false
set_option maxRecDepth 100000

theorem anyZero_nil (ao : Option Addr) (cap : Nat) (w : World) :
    Calls Try.prog 40 #[.slice ao 0 cap] w fun e w' => e = .returned (.bool (LM.anyZeroB [])) ∧ Below w.heap.size w w' := by
  go_enter Try.func40, Try.ntmps40
  go_wp2
  refine wp_loop_rounds 1 ?_
  rw [rounds_succ]
  go_wp2
  go_ret
  exact ⟨rfl, Below.refl _ _⟩
set_option maxHeartbeats 1000000 in
theorem anyZero_some (l : List AM.Ar) (b off cap : Nat) (w : World) (hl : AM.Lie w b off l) (hn : l.length ≤ 140737488351232) :
    Calls Try.prog 40 #[.slice (some ⟨b, off, none⟩) l.length cap] w fun e w' => e = .returned (.bool (LM.anyZeroB l)) ∧ Below w.heap.size w w' := by
  go_enter Try.func40, Try.ntmps40
  go_wp2
  go_loopw [7] (fun i wr => ∃ k : Nat, k ≤ l.length ∧ i = .int .i64 k ∧ LM.zeroTo l k = false ∧ Below w.heap.size w wr) (fun i _ => l.length - (intOf i).toNat)
  case atStart => exact ⟨0, by omega, rfl, rfl, Below.refl _ _⟩
  case round =>
    obtain ⟨k, hk, rfl, hz, hb⟩ := hrel
    have HZ := hideC hz
    have HBr := hideC hb
    clear hz
    by_cases hlt : k < l.length
    · obtain ⟨c0, c1, c2, c3⟩ := (hl.below hb) k hlt
      obtain ⟨a, ha⟩ : ∃ a, a = AM.at_ l k := ⟨_, rfl⟩
      rw [← ha] at c0 c1 c2 c3
      have HA := hideC ha
      clear ha hb
      by_cases hzr : a.zero = true
      · have HX : Hid (LM.anyZeroB l = true) := LM.zero_at l k hlt (by rw [← HA.out]; exact hzr)
        go_wp2
        go_ret
        exact ⟨ret_bool (by rw [HX.out]), HBr.out.alloc HBr.out.size _⟩
      · have hzr' : a.zero = false := by simpa using hzr
        clear hzr
        have HX : Hid (LM.zeroTo l (k + 1) = false) := by
          show _ = _
          simp only [LM.zeroTo]
          rw [HZ.out, ← HA.out, hzr']
          rfl
        go_wp2
        go_roundw
        case rel => exact ⟨k + 1, by omega, by go_num, HX.out, HBr.out.alloc HBr.out.size _⟩
        case measure => simp [intOf]; omega
    · obtain rfl : k = l.length := by omega
      go_wp2
      go_ret
      exact ⟨ret_bool HZ.out.symm, HBr.out⟩
theorem anyZero_any (l : List AM.Ar) (v : Value) (w : World) (h : AW.Has w v l) (hf : AW.AllFit l) :
    Calls Try.prog 40 #[v] w fun e w' => e = .returned (.bool (LM.anyZeroB l)) ∧ Below w.heap.size w w' := by
  obtain ⟨ao, cap, rfl, h⟩ := h
  rcases h with rfl | ⟨b, off, rfl, hl⟩
  · exact anyZero_nil ao cap w
  · exact anyZero_some l b off cap w hl hf.2

set_option maxHeartbeats 1000000 in
theorem rightSheets_any (hs : List LM.Sh) (ao : Option Addr) (cap : Nat) (w : World) (h : LM.HasH w ao hs) (hf : LM.FitHs hs) :
    Calls Try.prog 42 #[.slice ao hs.length cap] w fun e w' => e = .returned (.bool (LM.sheetsB hs)) ∧ Below w.heap.size w w' := by
  have HF := hideC hf
  have HH := hideC h
  have hn : hs.length ≤ 140737488351232 := hf.1
  clear h hf
  go_enter Try.func42, Try.ntmps42
  go_wp2
  go_loopw [7] (fun i wr => ∃ k : Nat, k ≤ hs.length ∧ i = .int .i64 k ∧ LM.sheetsTo hs k = true ∧ Below w.heap.size w wr) (fun i _ => hs.length - (intOf i).toNat)
  case atStart => exact ⟨0, by omega, rfl, rfl, Below.refl _ _⟩
  case round =>
    obtain ⟨k, hk, rfl, hz, hb⟩ := hrel
    have HZ := hideC hz
    have HBr := hideC hb
    clear hz
    by_cases hlt : k < hs.length
    · obtain ⟨b, off, hao, hbl, hlie⟩ := (HH.out.below hb) (by omega)
      subst hao
      obtain ⟨c0, c1, c2, c3⟩ := hlie k hlt
      have hfk := HF.out.2 k hlt
      have HE : Hid (LM.sheetsTo hs (k + 1) = LM.sheetB (LM.shAt hs k)) := by
        show _ = _
        simp only [LM.sheetsTo]
        rw [HZ.out, Bool.true_and]
      have HE2 : Hid (LM.sheetB (LM.shAt hs k) = false → LM.sheetsB hs = false) := fun e => LM.sheets_bad hs k hlt e
      obtain ⟨s, hse⟩ : ∃ s, s = LM.shAt hs k := ⟨_, rfl⟩
      rw [← hse] at c0 c1 c2 c3 hfk HE HE2
      clear hse hlie hb
      have HBA := hideC (HBr.out.alloc HBr.out.size (.cells #[.int .i64 s.page, .string s.data, .slice s.ao s.fixes.length s.cap] 43))
      have HC : Hid (∀ W, Below wr.heap.size wr W → Calls Try.prog 34 #[.agg #[.int .i64 s.page, .string s.data, .slice s.ao s.fixes.length s.cap]] W fun e w' => e = .returned (.bool (LM.sheetB s)) ∧ Below W.heap.size W w') := fun W hb => rightSheet_any s W (c3.below hb) hfk
      clear c3 hfk
      cases e : LM.sheetB s with
      | true =>
        rw [e] at HC HE
        clear e
        go_wp2_with (go_at_call 34; refine (HC.out _ ((Below.refl _ _).alloc (Nat.le_refl _) _)).mono ?_; rintro e w1 ⟨rfl, hb⟩; have HBA := hideC (HBA.out.trans (hb.mono HBA.out.size)); clear hb)
        go_roundw
        case rel => exact ⟨k + 1, by omega, by go_num, HE.out, HBA.out⟩
        case measure => simp [intOf]; omega
      | false =>
        have HX := hideC (HE2.out e)
        rw [e] at HC
        clear e HE2 HE
        go_wp2_with (go_at_call 34; refine (HC.out _ ((Below.refl _ _).alloc (Nat.le_refl _) _)).mono ?_; rintro e w1 ⟨rfl, hb⟩; have HBA := hideC (HBA.out.trans (hb.mono HBA.out.size)); clear hb)
        go_ret
        exact ⟨ret_bool (by rw [HX.out]), HBA.out⟩
    · obtain rfl : k = hs.length := by omega
      go_wp2
      go_ret
      exact ⟨ret_bool HZ.out.symm, HBr.out⟩
end Go.Proofs.Ytbgnagognnklbaa.LW
/- The linker: a sheet for each page. -/
namespace Go.Proofs.Ytbgnagognnklbaa.LW
open Go.RowKit
open Go.Proofs.Ytbgnagognnklbaa.W (hideC)
set_option linter.unusedVariables false
set_option maxRecDepth 100000

theorem slice_eq {a a' : Option Addr} {n n' m m' : Nat} (h1 : a = a') (h2 : n = n') (h3 : m = m') : Value.slice a n m = .slice a' n' m' := by rw [h1, h2, h3]
set_option maxHeartbeats 3000000 in
theorem forEach_any (l : List AM.Ar) (hs : List LM.Sh) (en : Int) (va : Value) (ao : Option Addr) (cap : Nat) (w : World) (ha : AW.Has w va l) (hc : AM.checkN l = 0) (h : LM.HasH w ao hs) (hn : hs.length ≤ 140737488351232) (hcap : hs.length ≤ cap) :
    Calls Try.prog 41 #[.agg #[va, .slice ao hs.length cap, .int .i64 en]] w fun e w' => e = .returned (.bool (LM.forEachB l hs)) ∧ Below w.heap.size w w' := by
  obtain ⟨b, off, hbo⟩ : ∃ b off, 0 < hs.length → ao = some ⟨b, off, none⟩ ∧ b < w.heap.size ∧ LM.LieH w b off hs := by
    by_cases h0 : 0 < hs.length
    · obtain ⟨b, off, h1, h2, h3⟩ := h h0
      exact ⟨b, off, fun _ => ⟨h1, h2, h3⟩⟩
    · exact ⟨0, 0, fun g => (h0 g).elim⟩
  have HBO := hideC hbo
  have HC := hideC hc
  have hlen := AM.good_len l hc
  obtain ⟨aa, ca, rfl, hal⟩ := ha
  have HAL : Hid (0 < l.length → ∃ b off, aa = some ⟨b, off, none⟩ ∧ AM.Lie w b off l) := fun g => by
    rcases hal with rfl | ⟨b, off, e, hl⟩
    · exact (Nat.lt_irrefl 0 g).elim
    · exact ⟨b, off, e, hl⟩
  clear hbo hc h hal
  have HB := hideC ((Below.refl w.heap.size w).alloc (Nat.le_refl _) (.cells #[.slice aa l.length ca, .slice ao hs.length cap, .int .i64 en] 32))
  go_enter Try.func41, Try.ntmps41
  go_wp2
  go_loopw [12, 3] (fun ix v wr => ∃ (i c : Nat) (ao' : Option Addr), i ≤ l.length ∧ ix = .int .i64 i ∧ v = .slice ao' (hs.length - c) (cap - c) ∧ c ≤ hs.length ∧ (c < hs.length → ao' = some ⟨b, off + c * 3, none⟩) ∧ (hs.take c).map (·.page) = LM.pagesTo l i ∧ Below w.heap.size w wr) (fun ix _ _ => l.length - (intOf ix).toNat)
  case atStart => exact ⟨0, 0, ao, by omega, rfl, rfl, by omega, fun g => by rw [(HBO.out g).1, Nat.zero_mul, Nat.add_zero], rfl, HB.out⟩
  case round =>
    obtain ⟨i, c, ao', hi, rfl, rfl, hcl, hao, htk, hb⟩ := hrel
    have HAO := hideC hao
    have HTK := hideC htk
    have HBr := hideC hb
    clear hao htk
    by_cases hlt : i < l.length
    · obtain ⟨ba, offa, hae, hl⟩ := HAL.out (by omega)
      subst hae
      obtain ⟨c0, c1, c2, c3⟩ := (hl.below hb) i hlt
      have hbk := AM.okAt_pages l i (AM.good_pages l HC.out i hlt)
      have HSP : Hid (∀ n, n < (AM.at_ l i).pages.toNat → ∃ t, LM.pagesOf l = (LM.pagesTo l i ++ LM.pagesN (AM.at_ l i) n) ++ ((AM.at_ l i).page + (n : Int)) :: t) := fun n hn => LM.pages_split l i hlt n hn
      have HNX : Hid (LM.pagesTo l (i + 1) = LM.pagesTo l i ++ LM.pagesN (AM.at_ l i) (AM.at_ l i).pages.toNat) := rfl
      obtain ⟨a, hae⟩ : ∃ a, a = AM.at_ l i := ⟨_, rfl⟩
      rw [← hae] at c0 c1 c2 c3 hbk HSP HNX
      clear hae hb
      obtain ⟨P, hP⟩ : ∃ P : Nat, a.pages = (P : Int) := ⟨a.pages.toNat, by omega⟩
      rw [hP] at c1 hbk HSP HNX
      rw [Int.toNat_natCast] at HSP HNX
      have HBA := hideC (HBr.out.alloc HBr.out.size (.cells #[.int .i64 a.page, .int .i64 (P : Int), .int .i64 a.prot, .bool a.zero] 99))
      have BA := hideC (B.new wr #[.int .i64 a.page, .int .i64 (P : Int), .int .i64 a.prot, .bool a.zero] 99)
      go_wp2
      go_loopw [18, 3] (fun nx v wi => ∃ (n c : Nat) (ao' : Option Addr), n ≤ P ∧ nx = .int .i64 n ∧ v = .slice ao' (hs.length - c) (cap - c) ∧ c ≤ hs.length ∧ (c < hs.length → ao' = some ⟨b, off + c * 3, none⟩) ∧ (hs.take c).map (·.page) = LM.pagesTo l i ++ LM.pagesN a n ∧ Below w.heap.size w wi ∧ wi.heap[wr.heap.size]? = some (.cells #[.int .i64 a.page, .int .i64 (P : Int), .int .i64 a.prot, .bool a.zero] 99 (0, 0))) (fun nx _ _ => P - (intOf nx).toNat)
      case atStart => exact ⟨0, c, ao', by omega, rfl, rfl, hcl, HAO.out, by rw [HTK.out]; simp [LM.pagesN], HBA.out, BA.out⟩
      case round =>
        obtain ⟨n, c, ao', hn', rfl, rfl, hcl, hao, htk, hb, hba⟩ := hrel
        have HAO := hideC hao
        have HTK := hideC htk
        have HBi := hideC hb
        have BAi := hideC hba
        have x0 := B.cell hba 0 rfl
        clear hao htk hba
        by_cases hlp : n < P
        · obtain ⟨t, ht⟩ := HSP.out n hlp
          have HT := hideC ht
          clear ht
          by_cases hce : c = hs.length
          · have HX : Hid (LM.forEachB l hs = false) := LM.each_short (by have h := HTK.out; rw [hce] at h; exact h) HT.out
            have hz : hs.length - c = 0 := by omega
            rw [hz]
            clear hz hce
            go_wp2
            go_quiet (fail)
            go_wp2
            go_ret
            exact ⟨ret_bool HX.out.symm, below_drewN HBi.out _⟩
          · have hcl' : c < hs.length := by omega
            have hcz : (((hs.length - c : Nat) : Int) == 0) = false := by simp; omega
            have hcz2 : 0 < hs.length - c := by omega
            obtain ⟨-, g2, g3⟩ := HBO.out (by omega)
            obtain ⟨d0, d1, d2, d3⟩ := (LM.lieH (hb.mono (Nat.le_of_eq rfl)) g2 g3) c hcl'
            have hae := HAO.out hcl'
            subst hae
            have hle1 : (1 : Int) ≤ ((hs.length - c : Nat) : Int) := by omega
            by_cases hpg : (LM.shAt hs c).page = a.page + (n : Int)
            · have HX : Hid ((hs.take (c + 1)).map (·.page) = LM.pagesTo l i ++ LM.pagesN a (n + 1)) := by
                show _ = _
                rw [LM.map_take_snoc hs c hcl', HTK.out, hpg, LM.pagesN_succ, List.append_assoc]
              rw [hpg] at d0
              clear hpg d1 d2 d3 hb hce
              by_cases hc1 : cap - c = 1
              · go_wp2
                go_quiet (fail)
                go_wp2
                go_roundw
                case rel => exact ⟨n + 1, c + 1, _, by omega, by go_num, slice_eq rfl (by omega) (by omega), by omega, fun g => by omega, HX.out, below_drewN HBi.out _, BAi.out⟩
                case measure => simp [intOf]; omega
              · go_wp2
                go_quiet (fail)
                go_wp2
                go_roundw
                case rel => exact ⟨n + 1, c + 1, _, by omega, by go_num, slice_eq rfl (by omega) (by omega), by omega, fun g => by simp [Nat.add_mul, Nat.add_assoc], HX.out, below_drewN HBi.out _, BAi.out⟩
                case measure => simp [intOf]; omega
            · have HX : Hid (LM.forEachB l hs = false) := LM.each_other hcl' HTK.out HT.out hpg
              have hpz : ((LM.shAt hs c).page == a.page + (n : Int)) = false := by simpa using hpg
              clear hpg d1 d2 d3 hb hce
              go_wp2
              go_quiet (fail)
              go_wp2
              go_ret
              exact ⟨ret_bool HX.out.symm, below_drewN HBi.out _⟩
        · obtain rfl : n = P := by omega
          go_wp2
          go_roundw
          case rel => exact ⟨i + 1, c, ao', by omega, by go_num, rfl, hcl, HAO.out, by rw [HNX.out]; exact HTK.out, HBi.out⟩
          case measure => simp [intOf]; omega
    · obtain rfl : i = l.length := by omega
      have HX := hideC (LM.each_done hcl HTK.out)
      go_wp2
      go_ret
      refine ⟨ret_bool ?_, HBr.out⟩
      rw [HX.out]
      rw [Bool.eq_iff_iff]
      simp
      omega
end Go.Proofs.Ytbgnagognnklbaa.LW
