import Derived.Test.YteieplodndfbhaaGL06
import Derived.Test.YteieplodndfbhaaGL05
import Derived.Test.YteieplodndfbhaaGL01
import Derived.Test.YteieplodndfbhaaGL02
import Derived.Test.YteieplodndfbhaaGL04
import Derived.Deep.AppendLies
namespace Go.Proofs.Yteieplodndfbhaa.AW
open Go.RowKit
set_option linter.unusedVariables false
set_option maxRecDepth 100000

/-- how Map turns a page, and the error -/
def howMap (q : Int) (s : AM.St) : AM.St × Int := if s.m then (s, 5) else (⟨true, q, true⟩, 0)
def howUnmap (s : AM.St) : AM.St × Int := (AM.off, 0)
def howProtect (q : Int) (s : AM.St) : AM.St × Int := if s.m then (⟨s.m, q, s.z⟩, 0) else (s, 6)
def aggSt (s : AM.St) : Value := .agg #[.bool s.m, .int .i64 s.p, .bool s.z]

set_option maxHeartbeats 400000 in
theorem map1_any (s : AM.St) (q : Int) (P : Nat) (w : World) (hP : w.cell? ⟨P, 0, none⟩ = some (.int .i64 q)) :
    Calls Try.prog 82 #[.agg #[.bool s.m, .int .i64 s.p, .bool s.z], .pointer (some ⟨P, 0, none⟩)] w fun e w' => e = .returned (.tuple #[aggSt (howMap q s).1, .int .i64 (howMap q s).2]) ∧ Below w.heap.size w w' := by
  have hPl : P < w.heap.size := World.block_lt_of_cell? w _ hP
  obtain ⟨m, p, z⟩ := s
  cases m
  · go_enter Try.func82, Try.ntmps82
    go_wp2
    exact bodyPost_ret (v := .tuple #[.agg #[.bool true, .int .i64 q, .bool true], .int .i64 0]) (by simp [results, Try.results82, go_sem]) rfl ⟨rfl, ((Below.refl _ _).alloc (Nat.le_refl _) _).alloc (by simp) _⟩
  · go_enter Try.func82, Try.ntmps82
    go_wp2
    exact bodyPost_ret (v := .tuple #[.agg #[.bool true, .int .i64 p, .bool z], .int .i64 5]) (by simp [results, Try.results82, go_sem]) rfl ⟨rfl, ((Below.refl _ _).alloc (Nat.le_refl _) _).alloc (by simp) _⟩
theorem Has.below {w w' : World} {v : Value} {l : List AM.Ar} (h : Has w v l) (hb : Below w.heap.size w w') : Has w' v l := by
  obtain ⟨ao, cap, rfl, h⟩ := h
  rcases h with rfl | ⟨b, off, rfl, hl⟩
  · exact ⟨ao, cap, rfl, .inl rfl⟩
  · exact ⟨_, cap, rfl, .inr ⟨b, off, rfl, hl.below hb⟩⟩
def AllFit (l : List AM.Ar) : Prop := (∀ i, i < l.length → AM.Fits (AM.at_ l i)) ∧ l.length ≤ 140737488351232

theorem check_any (l : List AM.Ar) (v : Value) (w : World) (h : Has w v l) (hf : AllFit l) :
    Calls Try.prog 39 #[v] w fun e w' => e = .returned (.int .i64 (AM.checkN l)) ∧ Below w.heap.size w w' := by
  obtain ⟨ao, cap, rfl, h⟩ := h
  rcases h with rfl | ⟨b, off, rfl, hl⟩
  · exact check_nil ao cap w
  · exact check_some l b off cap w hl hf.1 hf.2
theorem find_any (l : List AM.Ar) (v : Value) (p : Int) (w : World) (h : Has w v l) (hf : AllFit l) :
    Calls Try.prog 66 #[v, .int .i64 p] w fun e w' => e = .returned (.tuple #[.agg (cellsOf (AM.findN l p).1), .bool (AM.findN l p).2]) ∧ Below w.heap.size w w' := by
  obtain ⟨ao, cap, rfl, h⟩ := h
  rcases h with rfl | ⟨b, off, rfl, hl⟩
  · exact find_nil ao cap p w
  · exact find_some l b off cap p w hl hf.1 hf.2
theorem spread_any (l : List AM.Ar) (v : Value) (w : World) (h : Has w v l) (hc : AM.checkN l = 0) :
    Calls Try.prog 96 #[v] w fun e w' => e = .returned (.agg (AM.cellsL (AM.spreadN l))) ∧ Below w.heap.size w w' := by
  obtain ⟨ao, cap, rfl, h⟩ := h
  rcases h with rfl | ⟨b, off, rfl, hl⟩
  · exact spread_nil ao cap w
  · exact spread_some l b off cap w hl hc
end Go.Proofs.Yteieplodndfbhaa.AW
/- The linker: Check's parts. -/
namespace Go.Proofs.Yteieplodndfbhaa.LW
open Go.RowKit
open Go.Proofs.Yteieplodndfbhaa.W (hideC)
set_option linter.unusedVariables false
set_option maxRecDepth 100000

theorem anyZero_nil (ao : Option Addr) (cap : Nat) (w : World) :
    Calls Try.prog 40 #[.slice ao 0 cap] w fun e w' => e = .returned (.bool (LM.anyZeroB [])) ∧ Below w.heap.size w w' := by
  go_enter Try.func40, Try.ntmps40
  go_wp2
  refine wp_loop_rounds 1 ?_
  rw [rounds_succ]
  go_wp2
  go_ret
  exact ⟨rfl, Below.refl _ _⟩
set_option maxHeartbeats 1000000 in
theorem anyZero_some (l : List AM.Ar) (b off cap : Nat) (w : World) (hl : AM.Lie w b off l) (hn : l.length ≤ 140737488351232) :
    Calls Try.prog 40 #[.slice (some ⟨b, off, none⟩) l.length cap] w fun e w' => e = .returned (.bool (LM.anyZeroB l)) ∧ Below w.heap.size w w' := by
  go_enter Try.func40, Try.ntmps40
  go_wp2
  go_loopw [7] (fun i wr => ∃ k : Nat, k ≤ l.length ∧ i = .int .i64 k ∧ LM.zeroTo l k = false ∧ Below w.heap.size w wr) (fun i _ => l.length - (intOf i).toNat)
  case atStart => exact ⟨0, by omega, rfl, rfl, Below.refl _ _⟩
  case round =>
    obtain ⟨k, hk, rfl, hz, hb⟩ := hrel
    have HZ := hideC hz
    have HBr := hideC hb
    clear hz
    by_cases hlt : k < l.length
    · obtain ⟨c0, c1, c2, c3⟩ := (hl.below hb) k hlt
      obtain ⟨a, ha⟩ : ∃ a, a = AM.at_ l k := ⟨_, rfl⟩
      rw [← ha] at c0 c1 c2 c3
      have HA := hideC ha
      clear ha hb
      by_cases hzr : a.zero = true
      · have HX : Hid (LM.anyZeroB l = true) := LM.zero_at l k hlt (by rw [← HA.out]; exact hzr)
        go_wp2
        go_ret
        exact ⟨ret_bool (by rw [HX.out]), HBr.out.alloc HBr.out.size _⟩
      · have hzr' : a.zero = false := by simpa using hzr
        clear hzr
        have HX : Hid (LM.zeroTo l (k + 1) = false) := by
          show _ = _
          simp only [LM.zeroTo]
          rw [HZ.out, ← HA.out, hzr']
          rfl
        go_wp2
        go_roundw
        case rel => exact ⟨k + 1, by omega, by go_num, HX.out, HBr.out.alloc HBr.out.size _⟩
        case measure => simp [intOf]; omega
    · obtain rfl : k = l.length := by omega
      go_wp2
      go_ret
      exact ⟨ret_bool HZ.out.symm, HBr.out⟩
theorem anyZero_any (l : List AM.Ar) (v : Value) (w : World) (h : AW.Has w v l) (hf : AW.AllFit l) :
    Calls Try.prog 40 #[v] w fun e w' => e = .returned (.bool (LM.anyZeroB l)) ∧ Below w.heap.size w w' := by
  obtain ⟨ao, cap, rfl, h⟩ := h
  rcases h with rfl | ⟨b, off, rfl, hl⟩
  · exact anyZero_nil ao cap w
  · exact anyZero_some l b off cap w hl hf.2

set_option maxHeartbeats 1000000 in
theorem rightSheets_any (hs : List LM.Sh) (ao : Option Addr) (cap : Nat) (w : World) (h : LM.HasH w ao hs) (hf : LM.FitHs hs) :
    Calls Try.prog 42 #[.slice ao hs.length cap] w fun e w' => e = .returned (.bool (LM.sheetsB hs)) ∧ Below w.heap.size w w' := by
  have HF := hideC hf
  have HH := hideC h
  have hn : hs.length ≤ 140737488351232 := hf.1
  clear h hf
  go_enter Try.func42, Try.ntmps42
  go_wp2
  go_loopw [7] (fun i wr => ∃ k : Nat, k ≤ hs.length ∧ i = .int .i64 k ∧ LM.sheetsTo hs k = true ∧ Below w.heap.size w wr) (fun i _ => hs.length - (intOf i).toNat)
  case atStart => exact ⟨0, by omega, rfl, rfl, Below.refl _ _⟩
  case round =>
    obtain ⟨k, hk, rfl, hz, hb⟩ := hrel
    have HZ := hideC hz
    have HBr := hideC hb
    clear hz
    by_cases hlt : k < hs.length
    · obtain ⟨b, off, hao, hbl, hlie⟩ := (HH.out.below hb) (by omega)
      subst hao
      obtain ⟨c0, c1, c2, c3⟩ := hlie k hlt
      have hfk := HF.out.2 k hlt
      have HE : Hid (LM.sheetsTo hs (k + 1) = LM.sheetB (LM.shAt hs k)) := by
        show _ = _
        simp only [LM.sheetsTo]
        rw [HZ.out, Bool.true_and]
      have HE2 : Hid (LM.sheetB (LM.shAt hs k) = false → LM.sheetsB hs = false) := fun e => LM.sheets_bad hs k hlt e
      obtain ⟨s, hse⟩ : ∃ s, s = LM.shAt hs k := ⟨_, rfl⟩
      rw [← hse] at c0 c1 c2 c3 hfk HE HE2
      clear hse hlie hb
      have HBA := hideC (HBr.out.alloc HBr.out.size (.cells #[.int .i64 s.page, .string s.data, .slice s.ao s.fixes.length s.cap] 43))
      have HC : Hid (∀ W, Below wr.heap.size wr W → Calls Try.prog 34 #[.agg #[.int .i64 s.page, .string s.data, .slice s.ao s.fixes.length s.cap]] W fun e w' => e = .returned (.bool (LM.sheetB s)) ∧ Below W.heap.size W w') := fun W hb => rightSheet_any s W (c3.below hb) hfk
      clear c3 hfk
      cases e : LM.sheetB s with
      | true =>
        rw [e] at HC HE
        clear e
        go_wp2_with (go_at_call 34; refine (HC.out _ ((Below.refl _ _).alloc (Nat.le_refl _) _)).mono ?_; rintro e w1 ⟨rfl, hb⟩; have HBA := hideC (HBA.out.trans (hb.mono HBA.out.size)); clear hb)
        go_roundw
        case rel => exact ⟨k + 1, by omega, by go_num, HE.out, HBA.out⟩
        case measure => simp [intOf]; omega
      | false =>
        have HX := hideC (HE2.out e)
        rw [e] at HC
        clear e HE2 HE
        go_wp2_with (go_at_call 34; refine (HC.out _ ((Below.refl _ _).alloc (Nat.le_refl _) _)).mono ?_; rintro e w1 ⟨rfl, hb⟩; have HBA := hideC (HBA.out.trans (hb.mono HBA.out.size)); clear hb)
        go_ret
        exact ⟨ret_bool (by rw [HX.out]), HBA.out⟩
    · obtain rfl : k = hs.length := by omega
      go_wp2
      go_ret
      exact ⟨ret_bool HZ.out.symm, HBr.out⟩
end Go.Proofs.Yteieplodndfbhaa.LW
/- The linker: a sheet for each page. -/
namespace Go.Proofs.Yteieplodndfbhaa.LW
open Go.RowKit
open Go.Proofs.Yteieplodndfbhaa.W (hideC)
set_option linter.unusedVariables false
set_option maxRecDepth 100000

theorem slice_eq {a a' : Option Addr} {n n' m m' : Nat} (h1 : a = a') (h2 : n = n') (h3 : m = m') : Value.slice a n m = .slice a' n' m' := by rw [h1, h2, h3]
set_option maxHeartbeats 3000000 in
theorem forEach_any (l : List AM.Ar) (hs : List LM.Sh) (en : Int) (va : Value) (ao : Option Addr) (cap : Nat) (w : World) (ha : AW.Has w va l) (hc : AM.checkN l = 0) (h : LM.HasH w ao hs) (hn : hs.length ≤ 140737488351232) (hcap : hs.length ≤ cap) :
    Calls Try.prog 41 #[.agg #[va, .slice ao hs.length cap, .int .i64 en]] w fun e w' => e = .returned (.bool (LM.forEachB l hs)) ∧ Below w.heap.size w w' := by
  obtain ⟨b, off, hbo⟩ : ∃ b off, 0 < hs.length → ao = some ⟨b, off, none⟩ ∧ b < w.heap.size ∧ LM.LieH w b off hs := by
    by_cases h0 : 0 < hs.length
    · obtain ⟨b, off, h1, h2, h3⟩ := h h0
      exact ⟨b, off, fun _ => ⟨h1, h2, h3⟩⟩
    · exact ⟨0, 0, fun g => (h0 g).elim⟩
  have HBO := hideC hbo
  have HC := hideC hc
  have hlen := AM.good_len l hc
  obtain ⟨aa, ca, rfl, hal⟩ := ha
  have HAL : Hid (0 < l.length → ∃ b off, aa = some ⟨b, off, none⟩ ∧ AM.Lie w b off l) := fun g => by
    rcases hal with rfl | ⟨b, off, e, hl⟩
    · exact (Nat.lt_irrefl 0 g).elim
    · exact ⟨b, off, e, hl⟩
  clear hbo hc h hal
  have HB := hideC ((Below.refl w.heap.size w).alloc (Nat.le_refl _) (.cells #[.slice aa l.length ca, .slice ao hs.length cap, .int .i64 en] 32))
  go_enter Try.func41, Try.ntmps41
  go_wp2
  go_loopw [12, 3] (fun ix v wr => ∃ (i c : Nat) (ao' : Option Addr), i ≤ l.length ∧ ix = .int .i64 i ∧ v = .slice ao' (hs.length - c) (cap - c) ∧ c ≤ hs.length ∧ (c < hs.length → ao' = some ⟨b, off + c * 3, none⟩) ∧ (hs.take c).map (·.page) = LM.pagesTo l i ∧ Below w.heap.size w wr) (fun ix _ _ => l.length - (intOf ix).toNat)
  case atStart => exact ⟨0, 0, ao, by omega, rfl, rfl, by omega, fun g => by rw [(HBO.out g).1, Nat.zero_mul, Nat.add_zero], rfl, HB.out⟩
  case round =>
    obtain ⟨i, c, ao', hi, rfl, rfl, hcl, hao, htk, hb⟩ := hrel
    have HAO := hideC hao
    have HTK := hideC htk
    have HBr := hideC hb
    clear hao htk
    by_cases hlt : i < l.length
    · obtain ⟨ba, offa, hae, hl⟩ := HAL.out (by omega)
      subst hae
      obtain ⟨c0, c1, c2, c3⟩ := (hl.below hb) i hlt
      have hbk := AM.okAt_pages l i (AM.good_pages l HC.out i hlt)
      have HSP : Hid (∀ n, n < (AM.at_ l i).pages.toNat → ∃ t, LM.pagesOf l = (LM.pagesTo l i ++ LM.pagesN (AM.at_ l i) n) ++ ((AM.at_ l i).page + (n : Int)) :: t) := fun n hn => LM.pages_split l i hlt n hn
      have HNX : Hid (LM.pagesTo l (i + 1) = LM.pagesTo l i ++ LM.pagesN (AM.at_ l i) (AM.at_ l i).pages.toNat) := rfl
      obtain ⟨a, hae⟩ : ∃ a, a = AM.at_ l i := ⟨_, rfl⟩
      rw [← hae] at c0 c1 c2 c3 hbk HSP HNX
      clear hae hb
      obtain ⟨P, hP⟩ : ∃ P : Nat, a.pages = (P : Int) := ⟨a.pages.toNat, by omega⟩
      rw [hP] at c1 hbk HSP HNX
      rw [Int.toNat_natCast] at HSP HNX
      have HBA := hideC (HBr.out.alloc HBr.out.size (.cells #[.int .i64 a.page, .int .i64 (P : Int), .int .i64 a.prot, .bool a.zero] 99))
      have BA := hideC (B.new wr #[.int .i64 a.page, .int .i64 (P : Int), .int .i64 a.prot, .bool a.zero] 99)
      go_wp2
      go_loopw [18, 3] (fun nx v wi => ∃ (n c : Nat) (ao' : Option Addr), n ≤ P ∧ nx = .int .i64 n ∧ v = .slice ao' (hs.length - c) (cap - c) ∧ c ≤ hs.length ∧ (c < hs.length → ao' = some ⟨b, off + c * 3, none⟩) ∧ (hs.take c).map (·.page) = LM.pagesTo l i ++ LM.pagesN a n ∧ Below w.heap.size w wi ∧ wi.heap[wr.heap.size]? = some (.cells #[.int .i64 a.page, .int .i64 (P : Int), .int .i64 a.prot, .bool a.zero] 99 (0, 0))) (fun nx _ _ => P - (intOf nx).toNat)
      case atStart => exact ⟨0, c, ao', by omega, rfl, rfl, hcl, HAO.out, by rw [HTK.out]; simp [LM.pagesN], HBA.out, BA.out⟩
      case round =>
        obtain ⟨n, c, ao', hn', rfl, rfl, hcl, hao, htk, hb, hba⟩ := hrel
        have HAO := hideC hao
        have HTK := hideC htk
        have HBi := hideC hb
        have BAi := hideC hba
        have x0 := B.cell hba 0 rfl
        clear hao htk hba
        by_cases hlp : n < P
        · obtain ⟨t, ht⟩ := HSP.out n hlp
          have HT := hideC ht
          clear ht
          by_cases hce : c = hs.length
          · have HX : Hid (LM.forEachB l hs = false) := LM.each_short (by have h := HTK.out; rw [hce] at h; exact h) HT.out
            have hz : hs.length - c = 0 := by omega
            rw [hz]
            clear hz hce
            go_wp2
            go_quiet (fail)
            go_wp2
            go_ret
            exact ⟨ret_bool HX.out.symm, below_drewN HBi.out _⟩
          · have hcl' : c < hs.length := by omega
            have hcz : (((hs.length - c : Nat) : Int) == 0) = false := by simp; omega
            have hcz2 : 0 < hs.length - c := by omega
            obtain ⟨-, g2, g3⟩ := HBO.out (by omega)
            obtain ⟨d0, d1, d2, d3⟩ := (LM.lieH (hb.mono (Nat.le_of_eq rfl)) g2 g3) c hcl'
            have hae := HAO.out hcl'
            subst hae
            have hle1 : (1 : Int) ≤ ((hs.length - c : Nat) : Int) := by omega
            by_cases hpg : (LM.shAt hs c).page = a.page + (n : Int)
            · have HX : Hid ((hs.take (c + 1)).map (·.page) = LM.pagesTo l i ++ LM.pagesN a (n + 1)) := by
                show _ = _
                rw [LM.map_take_snoc hs c hcl', HTK.out, hpg, LM.pagesN_succ, List.append_assoc]
              rw [hpg] at d0
              clear hpg d1 d2 d3 hb hce
              by_cases hc1 : cap - c = 1
              · go_wp2
                go_quiet (fail)
                go_wp2
                go_roundw
                case rel => exact ⟨n + 1, c + 1, _, by omega, by go_num, slice_eq rfl (by omega) (by omega), by omega, fun g => by omega, HX.out, below_drewN HBi.out _, BAi.out⟩
                case measure => simp [intOf]; omega
              · go_wp2
                go_quiet (fail)
                go_wp2
                go_roundw
                case rel => exact ⟨n + 1, c + 1, _, by omega, by go_num, slice_eq rfl (by omega) (by omega), by omega, fun g => by simp [Nat.add_mul, Nat.add_assoc], HX.out, below_drewN HBi.out _, BAi.out⟩
                case measure => simp [intOf]; omega
            · have HX : Hid (LM.forEachB l hs = false) := LM.each_other hcl' HTK.out HT.out hpg
              have hpz : ((LM.shAt hs c).page == a.page + (n : Int)) = false := by simpa using hpg
              clear hpg d1 d2 d3 hb hce
              go_wp2
              go_quiet (fail)
              go_wp2
              go_ret
              exact ⟨ret_bool HX.out.symm, below_drewN HBi.out _⟩
        · obtain rfl : n = P := by omega
          go_wp2
          go_roundw
          case rel => exact ⟨i + 1, c, ao', by omega, by go_num, rfl, hcl, HAO.out, by rw [HNX.out]; exact HTK.out, HBi.out⟩
          case measure => simp [intOf]; omega
    · obtain rfl : i = l.length := by omega
      have HX := hideC (LM.each_done hcl HTK.out)
      go_wp2
      go_ret
      refine ⟨ret_bool ?_, HBr.out⟩
      rw [HX.out]
      rw [Bool.eq_iff_iff]
      simp
      omega
end Go.Proofs.Yteieplodndfbhaa.LW
/- The linker: Check. -/
namespace Go.Proofs.Yteieplodndfbhaa.LW
open Go.RowKit
open Go.Proofs.Yteieplodndfbhaa.W (hideC)
set_option linter.unusedVariables false
set_option maxRecDepth 100000

theorem ret_int {k : IntKind} {a b : Int} (h : a = b) : Ending.returned (.int k a) = .returned (.int k b) := by rw [h]
set_option maxHeartbeats 3000000 in
theorem rightEntry_any (l : List AM.Ar) (va vs : Value) (en : Int) (w : World) (ha : AW.Has w va l) (hf : AW.AllFit l) (hc : AM.checkN l = 0) (he : M.I64 en) (hva : ∃ ao n c, va = .slice ao n c) (hvs : ∃ ao n c, vs = .slice ao n c) :
    Calls Try.prog 43 #[.agg #[va, vs, .int .i64 en]] w fun e w' => e = .returned (.bool (LM.entB l en)) ∧ Below w.heap.size w w' := by
  have HFN : Hid (AM.findN l (en.tdiv 16) = AM.findFrom l (en.tdiv 16)) := by show _ = _; simp [AM.findN, hc]
  have HPR := hideC (LM.found_prot l hc (en.tdiv 16))
  have HE : Hid (LM.entB l en = ((AM.findFrom l (en.tdiv 16)).2 && (decide (2 ≤ (AM.findFrom l (en.tdiv 16)).1.prot) && decide (en.tmod 8 = 0)))) := rfl
  have HFD : Hid (∀ W, Below w.heap.size w W → Calls Try.prog 66 #[va, .int .i64 (en.tdiv 16)] W fun e w' => e = .returned (.tuple #[.agg (AW.cellsOf (AM.findFrom l (en.tdiv 16)).1), .bool (AM.findFrom l (en.tdiv 16)).2]) ∧ Below W.heap.size W w') := fun W hb => by
    have h := AW.find_any l va (en.tdiv 16) W (ha.below hb) hf
    rw [HFN.out] at h
    exact h
  obtain ⟨r, hr⟩ : ∃ r, r = AM.findFrom l (en.tdiv 16) := ⟨_, rfl⟩
  rw [← hr] at HPR HE HFD
  clear hr HFN ha hf hc
  obtain ⟨⟨pg, pn, pr, zr⟩, ok⟩ := r
  simp only [AW.cellsOf] at HFD HPR HE
  obtain ⟨aa, na, ca, rfl⟩ := hva
  obtain ⟨ao, no, co, rfl⟩ := hvs
  unfold M.I64 at he
  have HB := hideC ((Below.refl w.heap.size w).alloc (Nat.le_refl _) (.cells #[.slice aa na ca, .slice ao no co, .int .i64 en] 32))
  have BX := hideC (B.new w #[.slice aa na ca, .slice ao no co, .int .i64 en] 32)
  rw [HE.out]
  cases ok with
  | false =>
    go_enter Try.func43, Try.ntmps43
    go_wp2_with (go_at_call 66; refine (HFD.out _ HB.out).mono ?_; rintro e w1 ⟨rfl, hb⟩; have HB := hideC (HB.out.trans (hb.mono HB.out.size)); clear hb)
    go_ret
    exact ⟨rfl, HB.out.alloc HB.out.size _⟩
  | true =>
    have hpr := LM.prot_cases (HPR.out rfl)
    have b0 : bits BinOp.and IntKind.i64 0 2 = 0 := by decide
    have b1 : bits BinOp.and IntKind.i64 1 2 = 0 := by decide
    have b2 : bits BinOp.and IntKind.i64 2 2 = 2 := by decide
    have b3 : bits BinOp.and IntKind.i64 3 2 = 2 := by decide
    clear HPR
    by_cases h8 : en.tmod 8 = 0
    · rcases hpr with rfl | rfl | rfl | rfl
      all_goals
        go_enter Try.func43, Try.ntmps43
        go_wp2_with (go_at_call 66; refine (HFD.out _ HB.out).mono ?_; rintro e w1 ⟨rfl, hb⟩; have HB := hideC (HB.out.trans (hb.mono HB.out.size)); have BX := hideC (B.below BX.out hb (B.isLt BX.out)); have hbx := B.isLt BX.out; have x2 := B.cell BX.out 2 rfl; clear hb)
        go_ret
        exact ⟨ret_bool (by simp [h8]), HB.out.alloc HB.out.size _⟩
    · have h8' : (en.tmod 8 == 0) = false := by simpa using h8
      rcases hpr with rfl | rfl | rfl | rfl
      all_goals
        go_enter Try.func43, Try.ntmps43
        go_wp2_with (go_at_call 66; refine (HFD.out _ HB.out).mono ?_; rintro e w1 ⟨rfl, hb⟩; have HB := hideC (HB.out.trans (hb.mono HB.out.size)); have BX := hideC (B.below BX.out hb (B.isLt BX.out)); have hbx := B.isLt BX.out; have x2 := B.cell BX.out 2 rfl; clear hb)
        go_ret
        exact ⟨ret_bool (by simp [h8]), HB.out.alloc HB.out.size _⟩

theorem isSlice {w : World} {v : Value} {l : List AM.Ar} (h : AW.Has w v l) : ∃ ao n c, v = .slice ao n c := by
  obtain ⟨ao, cap, h, _⟩ := h
  exact ⟨ao, _, cap, h⟩
set_option maxHeartbeats 3000000 in
theorem check_any (l : List AM.Ar) (hs : List LM.Sh) (en : Int) (va : Value) (ao : Option Addr) (cap : Nat) (w : World) (ha : AW.Has w va l) (hf : AW.AllFit l) (h : LM.HasH w ao hs) (hfs : LM.FitHs hs) (hcap : hs.length ≤ cap) (he : M.I64 en) :
    Calls Try.prog 14 #[.agg #[va, .slice ao hs.length cap, .int .i64 en]] w fun e w' => e = .returned (.int .i64 (LM.checkL l hs en)) ∧ Below w.heap.size w w' := by
  have HCK : Hid (∀ W, Below w.heap.size w W → Calls Try.prog 39 #[va] W fun e w' => e = .returned (.int .i64 (AM.checkN l)) ∧ Below W.heap.size W w') := fun W hb => AW.check_any l va W (ha.below hb) hf
  have HZ : Hid (∀ W, Below w.heap.size w W → Calls Try.prog 40 #[va] W fun e w' => e = .returned (.bool (LM.anyZeroB l)) ∧ Below W.heap.size W w') := fun W hb => anyZero_any l va W (ha.below hb) hf
  have HEA : Hid (AM.checkN l = 0 → ∀ W, Below w.heap.size w W → Calls Try.prog 41 #[.agg #[va, .slice ao hs.length cap, .int .i64 en]] W fun e w' => e = .returned (.bool (LM.forEachB l hs)) ∧ Below W.heap.size W w') := fun hc W hb => forEach_any l hs en va ao cap W (ha.below hb) hc (h.below hb) hfs.1 hcap
  have HSH : Hid (∀ W, Below w.heap.size w W → Calls Try.prog 42 #[.slice ao hs.length cap] W fun e w' => e = .returned (.bool (LM.sheetsB hs)) ∧ Below W.heap.size W w') := fun W hb => rightSheets_any hs ao cap W (h.below hb) hfs
  have HEN : Hid (AM.checkN l = 0 → ∀ W, Below w.heap.size w W → Calls Try.prog 43 #[.agg #[va, .slice ao hs.length cap, .int .i64 en]] W fun e w' => e = .returned (.bool (LM.entB l en)) ∧ Below W.heap.size W w') := fun hc W hb => rightEntry_any l va _ en W (ha.below hb) hf hc he (isSlice ha) ⟨_, _, _, rfl⟩
  have HR : Hid (LM.checkL l hs en = if AM.checkN l = 0 then (if !LM.anyZeroB l && (LM.forEachB l hs && (LM.sheetsB hs && LM.entB l en)) then 0 else 1) else AM.checkN l) := rfl
  obtain ⟨aa, na, ca, rfl⟩ := isSlice ha
  clear ha hf h hfs hcap he
  obtain ⟨N, hN⟩ : ∃ N, N = hs.length := ⟨_, rfl⟩
  rw [← hN] at HEA HSH HEN
  rw [← hN]
  obtain ⟨z, hz⟩ : ∃ z, z = LM.anyZeroB l := ⟨_, rfl⟩
  rw [← hz] at HZ HR
  obtain ⟨q, hq⟩ : ∃ q, q = LM.forEachB l hs := ⟨_, rfl⟩
  rw [← hq] at HEA HR
  obtain ⟨s, hs'⟩ : ∃ s, s = LM.sheetsB hs := ⟨_, rfl⟩
  rw [← hs'] at HSH HR
  obtain ⟨r, hr⟩ : ∃ r, r = LM.entB l en := ⟨_, rfl⟩
  rw [← hr] at HEN HR
  obtain ⟨C, hC⟩ : ∃ C, C = AM.checkN l := ⟨_, rfl⟩
  rw [← hC] at HCK HEA HEN HR
  rw [HR.out]
  clear hN hz hq hs' hr hC HR
  have HB := hideC ((Below.refl w.heap.size w).alloc (Nat.le_refl _) (.cells #[.slice aa na ca, .slice ao N cap, .int .i64 en] 32))
  have BX := hideC (B.new w #[.slice aa na ca, .slice ao N cap, .int .i64 en] 32)
  by_cases hc : C = 0
  · subst hc
    have HEA1 := hideC (HEA.out rfl)
    have HEN1 := hideC (HEN.out rfl)
    clear HEA HEN
    rw [if_pos rfl]
    cases z <;> cases q <;> cases s <;> cases r
    all_goals
      go_enter Try.func14, Try.ntmps14
      go_wp2_with (first
        | (go_at_call 39; refine (HCK.out _ HB.out).mono ?_; rintro e w1 ⟨rfl, hb⟩; have HB := hideC (HB.out.trans (hb.mono HB.out.size)); have BX := hideC (B.below BX.out hb (B.isLt BX.out)); have x0 := B.cell BX.out 0 rfl; have x1 := B.cell BX.out 1 rfl; have x2 := B.cell BX.out 2 rfl; clear hb)
        | (go_at_call 40; refine (HZ.out _ HB.out).mono ?_; rintro e w1 ⟨rfl, hb⟩; have HB := hideC (HB.out.trans (hb.mono HB.out.size)); have BX := hideC (B.below BX.out hb (B.isLt BX.out)); have x0 := B.cell BX.out 0 rfl; have x1 := B.cell BX.out 1 rfl; have x2 := B.cell BX.out 2 rfl; clear hb)
        | (go_at_call 41; refine (HEA1.out _ HB.out).mono ?_; rintro e w1 ⟨rfl, hb⟩; have HB := hideC (HB.out.trans (hb.mono HB.out.size)); have BX := hideC (B.below BX.out hb (B.isLt BX.out)); have x0 := B.cell BX.out 0 rfl; have x1 := B.cell BX.out 1 rfl; have x2 := B.cell BX.out 2 rfl; clear hb)
        | (go_at_call 42; refine (HSH.out _ HB.out).mono ?_; rintro e w1 ⟨rfl, hb⟩; have HB := hideC (HB.out.trans (hb.mono HB.out.size)); have BX := hideC (B.below BX.out hb (B.isLt BX.out)); have x0 := B.cell BX.out 0 rfl; have x1 := B.cell BX.out 1 rfl; have x2 := B.cell BX.out 2 rfl; clear hb)
        | (go_at_call 43; refine (HEN1.out _ HB.out).mono ?_; rintro e w1 ⟨rfl, hb⟩; have HB := hideC (HB.out.trans (hb.mono HB.out.size)); clear hb))
      go_ret
      exact ⟨rfl, HB.out⟩
  · have hc' : (C == 0) = false := by simpa using hc
    rw [if_neg hc]
    go_enter Try.func14, Try.ntmps14
    go_wp2_with (go_at_call 39; refine (HCK.out _ HB.out).mono ?_; rintro e w1 ⟨rfl, hb⟩; have HB := hideC (HB.out.trans (hb.mono HB.out.size)); clear hb)
    go_ret
    exact ⟨rfl, HB.out⟩
end Go.Proofs.Yteieplodndfbhaa.LW
/- The linker: objects. -/
namespace Go.Proofs.Yteieplodndfbhaa.LW
open Go.RowKit
open Go.Proofs.Yteieplodndfbhaa.W (hideC)
set_option linter.unusedVariables false
set_option maxRecDepth 100000

set_option maxHeartbeats 1000000 in
theorem end_any (o : LM.Ob) (w : World) (h : M.HasIm w o.a o.i) (hc : M.chkN o.i = 0) (h0 : 0 ≤ o.base) (h1 : o.base ≤ 100000) :
    Calls Try.prog 20 #[.agg (LM.cellsO o)] w fun e w' => e = .returned (.int .i64 (LM.endO o)) ∧ Below w.heap.size w w' := by
  have hl := LM.last_bounds hc
  have hn := LM.counts_of hc
  have HS := h.segs
  obtain ⟨⟨nm, ns, gs, ys, rs, en⟩, ⟨an, cn, ag, cg, ay, cy, ar, cr⟩, ba⟩ := o
  simp only [LM.cellsO]
  simp only at HS hn h0 h1
  obtain ⟨b, off, hag, hbl, hlie⟩ := HS (by omega)
  subst hag
  have E : Hid (LM.endO ⟨⟨nm, ns, gs, ys, rs, en⟩, ⟨an, cn, some ⟨b, off, none⟩, cg, ay, cy, ar, cr⟩, ba⟩ = ba + (M.sgAt gs (gs.length - 1)).page + (M.sgAt gs (gs.length - 1)).pages) := rfl
  have hl' : 0 ≤ (M.sgAt gs (gs.length - 1)).page ∧ 1 ≤ (M.sgAt gs (gs.length - 1)).pages ∧ (M.sgAt gs (gs.length - 1)).page + (M.sgAt gs (gs.length - 1)).pages ≤ 255 := hl
  obtain ⟨c0, c1, c2, c3, c4⟩ := hlie (gs.length - 1) (by omega)
  rw [E.out]
  obtain ⟨s, hs⟩ : ∃ s, s = M.sgAt gs (gs.length - 1) := ⟨_, rfl⟩
  rw [← hs] at c0 c1 c2 c3 c4 hl'
  rw [← hs]
  clear hs hl hlie HS h E
  obtain ⟨G, hG⟩ : ∃ G, G = gs.length := ⟨_, rfl⟩
  rw [← hG] at c0 c1 c2 c3 c4 hn
  rw [← hG]
  clear hG hc
  have hG1 : (1 : Int) ≤ (G : Int) := by omega
  have hG2 : 0 < G := by omega
  have HB := hideC ((Below.refl w.heap.size w).alloc (Nat.le_refl _) (.cells #[.string nm, .slice an ns.length cn, .slice (some ⟨b, off, none⟩) G cg, .slice ay ys.length cy, .slice ar rs.length cr, .int .i64 en, .int .i64 ba] 59))
  go_enter Try.func20, Try.ntmps20
  go_wp2
  go_ret
  exact ⟨rfl, HB.out.alloc HB.out.size _⟩

theorem address_any (o : LM.Ob) (at' : Int) (w : World) (h0 : 0 ≤ o.base) (h1 : o.base ≤ 100000) (h2 : 0 ≤ at') (h3 : at' ≤ 100000) :
    Calls Try.prog 23 #[.agg (LM.cellsO o), .int .i64 at'] w fun e w' => e = .returned (.int .i64 (LM.addrO o at')) ∧ Below w.heap.size w w' := by
  obtain ⟨⟨nm, ns, gs, ys, rs, en⟩, ⟨an, cn, ag, cg, ay, cy, ar, cr⟩, ba⟩ := o
  simp only [LM.cellsO, LM.addrO]
  simp only at h0 h1
  go_enter Try.func23, Try.ntmps23
  go_wp2
  go_ret
  exact ⟨rfl, (Below.refl _ _).alloc (Nat.le_refl _) _⟩

theorem prot_any (s : M.Sg) (w : World) :
    Calls Try.prog 57 #[.agg #[.int .i64 s.page, .int .i64 s.pages, .string s.data, .bool s.wr, .bool s.ex]] w fun e w' => e = .returned (.int .i64 (LM.protN s)) ∧ Below w.heap.size w w' := by
  obtain ⟨pg, pn, dt, wr, ex⟩ := s
  have b1 : bits BinOp.or IntKind.i64 0 1 = 1 := by decide
  have b2 : bits BinOp.or IntKind.i64 0 2 = 2 := by decide
  have b3 : bits BinOp.or IntKind.i64 1 2 = 3 := by decide
  cases wr <;> cases ex
  all_goals
    go_enter Try.func57, Try.ntmps57
    go_wp2
    go_ret
    exact ⟨ret_int (by first | rfl | simp [LM.protN, b1, b2, b3]), (Below.refl _ _).alloc (Nat.le_refl _) _⟩

theorem str_eq (s t : ByteArray) : (s.toList == t.toList) = decide (s = t) := by
  rw [Bool.eq_iff_iff]
  simp only [beq_iff_eq, decide_eq_true_eq]
  constructor
  · intro e
    rw [Lib.toList_data, Lib.toList_data] at e
    cases s
    cases t
    congr 1
    exact Array.toList_inj.1 e
  · rintro rfl
    rfl
theorem gather1_any (o : LM.Ob) (P : Nat) (s : ByteArray) (w : World) (hP : w.cell? ⟨P, 0, none⟩ = some (.string s)) (hn : M.Short o.i.name.size) (hs : M.Short s.size) :
    Calls Try.prog 52 #[.agg (LM.cellsO o), .pointer (some ⟨P, 0, none⟩)] w fun e w' => e = .returned (.bool (decide (o.i.name = s))) ∧ Below w.heap.size w w' := by
  have hPl : P < w.heap.size := World.block_lt_of_cell? w _ hP
  obtain ⟨⟨nm, ns, gs, ys, rs, en⟩, ⟨an, cn, ag, cg, ay, cy, ar, cr⟩, ba⟩ := o
  simp only [LM.cellsO]
  go_enter Try.func52, Try.ntmps52
  go_wp2
  go_ret
  exact ⟨ret_bool (str_eq _ _), (Below.refl _ _).alloc (Nat.le_refl _) _⟩
end Go.Proofs.Yteieplodndfbhaa.LW
namespace Go.Proofs.Yteieplodndfbhaa.W
open Go.RowKit
set_option linter.unusedVariables false
set_option maxRecDepth 100000

theorem info9 : (Try.prog.info? 9).map (fun i => (i.zero, i.size, i.bytes)) = some (some (.string ⟨#[]⟩), 1, 16) := by kernel_rfl
def strs (l : List ByteArray) : List Value := l.map Value.string
theorem strs_get (l : List ByteArray) (i : Nat) (h : i < l.length) : (strs l)[i]? = some (.string (M.strAt l i)) := by
  unfold strs M.strAt
  rw [List.getElem?_map, List.getD_eq_getElem?_getD, List.getElem?_eq_getElem h]
  rfl
/-- a row of strings that the call owns is a slice that holds them -/
theorem row_has {w : World} {base : Nat} {v : Value} {l : List ByteArray} (h : w.ownsRow base 9 1 v l.length (strs l)) : ∃ ao cap, v = .slice ao l.length cap ∧ M.HasBy M.LieS w ao l := by
  rcases h.2 with ⟨hv, h0⟩ | ⟨g, cap, cur, hv, hbg, hg, hnc, hcm, hcs, htake⟩
  · exact ⟨none, 0, by rw [hv, h0], fun hl => by omega⟩
  · subst hv
    refine ⟨some ⟨g, 0, none⟩, cap, rfl, fun hl => ⟨g, 0, rfl, B.isLt hg, fun i hi => ?_⟩⟩
    rw [Nat.zero_add]
    exact (h.cellAt _ (by omega)).trans (strs_get l i hi)
theorem names_take (ys : List M.Sy) (k : Nat) (h : k < ys.length) : ((ys.map (·.name)).take (k + 1)) = (ys.map (·.name)).take k ++ [(M.syAt ys k).name] := by
  rw [List.take_add_one, List.getElem?_map, List.getElem?_eq_getElem h]
  unfold M.syAt
  rw [List.getD_eq_getElem?_getD, List.getElem?_eq_getElem h]
  rfl

set_option maxHeartbeats 2000000 in
theorem symNames_any (ys : List M.Sy) (ao : Option Addr) (cap : Nat) (w : World) (h : M.HasBy M.LieY w ao ys) (hn : ys.length ≤ 12) :
    Calls Try.prog 73 #[.slice ao ys.length cap] w fun e w' => (∃ ao' cap', e = .returned (.slice ao' (ys.map (·.name)).length cap') ∧ M.HasBy M.LieS w' ao' (ys.map (·.name))) ∧ Below w.heap.size w w' := by
  have H := hideC h
  clear h
  obtain ⟨i0, hi, hz0, hz1, hz2⟩ := info_parts info9
  go_enter Try.func73, Try.ntmps73
  go_wp2
  go_loopw [3, 8] (fun v i wr => ∃ k : Nat, k ≤ ys.length ∧ i = .int .i64 k ∧ wr.ownsRow w.heap.size 9 1 v k (strs ((ys.map (·.name)).take k)) ∧ Below w.heap.size w wr) (fun _ i _ => ys.length - (intOf i).toNat)
  case atStart => exact ⟨0, by omega, rfl, World.ownsRow_nil _ _ _ _, Below.refl _ _⟩
  case round =>
    obtain ⟨k, hk, rfl, hown, hb⟩ := hrel
    have HO := hideC hown
    have HB := hideC hb
    clear hown
    by_cases hlt : k < ys.length
    · obtain ⟨b, off, hao, hbl, hl⟩ := H.out (by omega)
      subst hao
      have hli : (k : Int) < (ys.length : Int) := by omega
      obtain ⟨c0, c1⟩ := M.lieY hb hbl hl k hlt
      have HT := hideC (names_take ys k hlt)
      obtain ⟨y, hx⟩ : ∃ y, y = M.syAt ys k := ⟨_, rfl⟩
      rw [← hx] at c0 c1 HT
      clear hx hb hl
      obtain ⟨x, xp⟩ := y
      simp only at c0 c1 HT
      have hrow : Hid (∀ j, u3.ownBlock = some j → w.heap.size ≤ j ∧ j < wr.heap.size) := HO.out.lt
      have HN : Hid (((wr.alloc (.cells #[.string x, .int .i64 xp] 116)).alloc (.cells #[.string x] 9)).heap[wr.heap.size + 1]? = some (.cells #[.string x] 9 (0, 0))) := by
        have := B.new (wr.alloc (.cells #[.string x, .int .i64 xp] 116)) #[.string x] 9
        rw [show (wr.alloc (.cells #[.string x, .int .i64 xp] 116)).heap.size = wr.heap.size + 1 by simp] at this
        exact this
      go_wp2_with (at_builtin; refine wpList_append_lies _ rfl _ _ 22 rfl w.heap.size 9 i0 (.string ⟨#[]⟩) 1 16 Try.underlying22 hi hz0 hz1 hz2 rfl (by decide) _ _ _ rfl ((HO.out.alloc _).alloc _) ⟨wr.heap.size + 1, 0, none⟩ 1 1 [.string x] rfl rfl (B.news HN.out) (by intro u hu; simp at hu; subst hu; rfl) (by decide) (by unfold maxLen; omega) (by omega) (by have := HB.out.size; simp; omega) (wr.heap.size + 2) (by simp) ?_)
      intro g cap w1 hown1 hgrow hat hlt1
      have HO1 := hideC hown1
      have HB1 : Hid (Below w.heap.size w w1) := ((HB.out.alloc HB.out.size _).alloc (by have := HB.out.size; simp; omega) _).grown hgrow (by have := HB.out.size; simp; omega) (fun k' e => by have := hrow.out _ e; omega)
      clear hown1 hgrow hat
      go_wp2
      go_roundw
      case rel =>
        refine ⟨k + 1, by omega, by go_num, ?_, HB1.out⟩
        rw [HT.out]
        unfold strs
        rw [List.map_append]
        exact HO1.out
      case measure => simp [intOf]; omega
    · obtain rfl : k = ys.length := by omega
      clear hb
      go_wp2
      go_ret
      have e : (ys.map (·.name)).take ys.length = ys.map (·.name) := by rw [List.take_of_length_le]; simp
      have ho := HO.out
      rw [e] at ho
      rw [show ys.length = (ys.map (·.name)).length by simp] at ho
      obtain ⟨ao', cap', hv, hh⟩ := row_has ho
      exact ⟨⟨ao', cap', by rw [← hv]; rfl, hh⟩, HB.out⟩
end Go.Proofs.Yteieplodndfbhaa.W
