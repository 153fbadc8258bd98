import Derived.Test.YtklobjfhjlkgfaaDoorGA16
import Derived.Test.YtklobjfhjlkgfaaDoorGA13
import Derived.Test.YtklobjfhjlkgfaaDoorGA14
import Derived.Test.YtklobjfhjlkgfaaDoorGA07
import Derived.Test.YtklobjfhjlkgfaaDoorChecked
import Derived.Test.YtklobjfhjlkgfaaDoorRows
import Derived.Deep.Slices
import Derived.ProofKit
import Derived.OpenShut
import Derived.Lib.LaidTab
import Derived.LaidLaws
import Derived.Stop.LaidErr
import Derived.LaidMore
import Derived.Lay
import Derived.Test.YtklobjfhjlkgfaaDoorGA01
import Derived.SizedLaws
/- The reference's Assembled: its walk. -/
namespace Go.Proofs.YtklobjfhjlkgfaaDoor.TW
open Go.RowKit
set_option linter.unusedVariables false
set_option maxRecDepth 100000
set_option linter.unusedSimpArgs false

theorem mapR_take {L : List ByteArray} {k : Nat} {d : List PM.Ins} (h : mapR (L.take k) = some d) (hk : k < L.length) : mapR (L.take (k + 1)) = (readN (L.getD k ByteArray.empty)).map (fun i => d ++ [i]) := by
  rw [List.take_succ_eq_append_getElem hk, mapR_snoc _ _ _ h, List.getD_eq_getElem?_getD, List.getElem?_eq_getElem hk]
  rfl
theorem mapR_fell {L : List ByteArray} {k : Nat} (h : mapR (L.take (k + 1)) = none) : mapR L = none := by
  have := mapR_none (L.take (k + 1)) (L.drop (k + 1)) h
  rw [List.take_append_drop] at this
  exact this
theorem count_more (s : ByteArray) (k : Nat) (hlt : k < s.size) (h4 : byteAt s k = 10) : (s.data.toList.take k).count 10 < Lib.countByte s.data.toList 10 := by
  have hlt2 : k < s.data.toList.length := by rw [← Lib.size_eq]; exact hlt
  have e : s.data.toList[k] = 10 := UInt8.toNat.inj (by
    have : byteAt s k = (s.data.toList[k]).toNat := by
      unfold byteAt
      rw [List.getD_eq_getElem?_getD, List.getElem?_eq_getElem hlt2]
      rfl
    rw [← this, h4]
    rfl)
  have hc := congrArg (List.count (10 : UInt8)) (List.take_append_drop k s.data.toList)
  rw [List.count_append, List.drop_eq_getElem_cons hlt2, e, List.count_cons] at hc
  show _ < List.count 10 s.data.toList
  simp only [beq_self_eq_true, if_true] at hc
  omega
theorem code_len : ∀ d : List PM.Ins, (codeOf d).size = 8 * d.length
  | [] => rfl
  | i :: d => by
    show (i.bytes ++ codeOf d).size = _
    rw [ByteArray.size_append, PM.bytes_size, code_len d, List.length_cons]
    omega
theorem mapR_len : ∀ {L : List ByteArray} {d : List PM.Ins}, mapR L = some d → d.length = L.length
  | [], d, h => by injection h with h; rw [← h]; rfl
  | l :: r, d, h => by
    have h' : (match readN l with | none => none | some i => (mapR r).map (i :: ·)) = some d := h
    cases hx : readN l with
    | none => rw [hx] at h'; cases h'
    | some i =>
      rw [hx] at h'
      simp only at h'
      cases ha : mapR r with
      | none => rw [ha] at h'; cases h'
      | some q =>
        rw [ha] at h'
        injection h' with h'
        rw [← h']
        show q.length + 1 = r.length + 1
        rw [mapR_len ha]
set_option maxHeartbeats 8000000 in
theorem assembled_any (s : ByteArray) (w : World) (hs : s.size < 4294967281) : Calls Tryd.prog 14 #[.string s] w fun e w' => e = .returned (.tuple #[.string (asmN s).1, .int .i64 (asmN s).2]) ∧ Below w.heap.size w w' := by
  have HNF := hideC (nl_from s)
  have HNC := hideC (nl_count s)
  have HNY : Hid (∀ k, byteAt s k = 10 → nlTo s (k + 1) = ((nlTo s k).1 ++ [s.extract (nlTo s k).2 k], k + 1)) := fun k h => nl_yes h
  have HNN : Hid (∀ k, ¬ byteAt s k = 10 → nlTo s (k + 1) = nlTo s k) := fun k h => nl_no h
  have HNZ := hideC (nl_size s)
  have HMANY : Hid (512 < Lib.countByte s.data.toList 10 → asmN s = (⟨#[]⟩, 2)) := fun h => by unfold asmN; rw [if_pos h]
  have HASM := hideC (asm_nl s)
  obtain ⟨⟨R1, R2⟩, hR⟩ : ∃ R, R = asmN s := ⟨_, rfl⟩
  rw [← hR] at HMANY HASM ⊢
  clear hR
  simp only
  obtain ⟨i0, hi0, hz0, hz1, hz2⟩ := info_parts infoS
  have HO0 := hideC (World.ownsRow_nil w w.heap.size 9 1)
  go_enter Tryd.func14, Tryd.ntmps14
  go_wp2
  go_loopw [4, 5, 6] (fun ov fv iv wr => ∃ (k f n : Nat) (C : List ByteArray) (a : Option Addr) (c : Nat), k ≤ s.size ∧ nlTo s k = (C, f) ∧ C.length = n ∧ n ≤ 512 ∧ iv = .int .i64 (k : Int) ∧ fv = .int .i64 (f : Int) ∧ ov = .slice a n c ∧ wr.ownsRow w.heap.size 9 1 (.slice a n c) n (C.map Value.string) ∧ Below w.heap.size w wr) (fun _ _ iv _ => s.size - (intOf iv).toNat)
  case atStart => exact ⟨0, 0, 0, [], none, 0, by omega, rfl, rfl, by omega, rfl, rfl, rfl, HO0.out, Below.refl _ _⟩
  case round =>
    obtain ⟨k, f, n, C, a, c, hk, hct, hcn, hn5, rfl, rfl, rfl, how, hb⟩ := hrel
    have HCT := hideC hct
    have HCN := hideC hcn
    have HO := hideC how
    have HB := hideC hb
    have hff := HNF.out k
    have hyy := HNY.out k
    have hno := HNN.out k
    have hcc := HNC.out k hk
    rw [hct] at hff hyy hno hcc
    simp only at hff hyy hno hcc
    rw [hcn] at hcc
    have HYY := hideC hyy
    have HNO := hideC hno
    have HCC := hideC hcc
    clear hct hcn how hb hyy hno hcc HO0
    by_cases hlt : k < s.size
    · have hlti : (k : Int) < (s.size : Int) := by omega
      have hby := byteAt_eq s k hlt
      by_cases h4 : byteAt s k = 10
      · have h4i : ((s[k].toNat : Int) == 10) = true := by rw [beq_iff_eq]; omega
        by_cases h5 : n = 512
        · have HMM : Hid ((R1, R2) = (⟨#[]⟩, 2)) := HMANY.out (by have h6 := count_more s k hlt h4; have h7 := HCC.out; omega)
          subst h5
          clear hby h4
          go_wp2
          go_ret2
          exact ⟨by rw [(Prod.mk.inj HMM.out).1, (Prod.mk.inj HMM.out).2]; rfl, HB.out⟩
        · have h5i : ((n : Int) == 512) = false := by rw [beq_eq_false_iff_ne]; omega
          have HX := hideC (HYY.out h4)
          clear h4 hby
          go_wp2_with (at_builtin; refine wpList_append_own _ rfl _ _ 50 rfl w.heap.size 9 i0 (.string ByteArray.empty) 1 16 Tryd.underlying50 hi0 hz0 hz1 hz2 rfl (by decide) _ _ _ rfl (HO.out.alloc _) ⟨wr.heap.size, 0, none⟩ 1 1 [.string (s.extract f k)] rfl rfl (cell_one_new _ _ _) (by simp [Value.oneCell']) (by unfold maxLen; omega) (by omega) (by have := HB.out.size; simp; omega) ?_; intro v5 w5 ho5 hg5 _; replace hg5 : (wr.alloc (.cells #[.string (s.extract f k)] 9)).grownBy w5 (Value.slice a n c).ownBlock := hg5; have HG5 := hideC hg5; have HO5 := hideC ho5; clear hg5 ho5)
          obtain ⟨a5, c5, hv5⟩ := own_slice HO5.out
          have RB := hideC ((HB.out.alloc HB.out.size _).grown HG5.out (by have := HB.out.size; simp; omega) (fun j hj => own_base HO.out j hj))
          go_roundw
          case rel => exact ⟨k + 1, k + 1, n + 1, C ++ [s.extract f k], a5, c5, by omega, HX.out, by rw [List.length_append, HCN.out]; rfl, by omega, by go_num, by go_num, hv5, by rw [List.map_append, ← hv5]; exact HO5.out, RB.out⟩
          case measure => simp [intOf]; omega
      · have h4i : ((s[k].toNat : Int) == 10) = false := by rw [beq_eq_false_iff_ne]; omega
        have HX := hideC (HNO.out h4)
        clear h4 hby
        go_wp2
        go_roundw
        case rel => exact ⟨k + 1, f, n, C, a, c, by omega, HX.out, HCN.out, hn5, by go_num, rfl, rfl, HO.out, HB.out⟩
        case measure => simp [intOf]; omega
    · obtain rfl : k = s.size := by omega
      have HAN := hideC (asm_nl s)
      have hnm : ¬ 512 < Lib.countByte s.data.toList 10 := by
        have h7 := HCC.out
        have h8 : (s.data.toList.take s.size).count 10 = Lib.countByte s.data.toList 10 := by
          rw [Lib.size_eq, List.take_length]
          rfl
        omega
      have HAS := hideC (HASM.out hnm)
      rw [HCT.out] at HAS
      have HSZ := hideC (HNZ.out s.size)
      rw [HCT.out] at HSZ
      simp only at HAS HSZ
      clear HNF HNC HNY HNN HNZ HMANY HASM HYY HNO HCC HCT hnm HAN
      by_cases hfs : f = s.size
      · have hfi : ((f : Int) == (s.size : Int)) = true := by rw [beq_iff_eq]; omega
        have HAS2 := HAS.out
        rw [if_pos hfs] at HAS2
        have HAS3 := hideC HAS2
        clear HAS HAS2 hfi
        subst hfs
        go_wp2
        go_loopw [7, 8] (fun cv iv wq => ∃ (j : Nat) (d : List PM.Ins), j ≤ n ∧ iv = .int .i64 (j : Int) ∧ cv = .string (codeOf d) ∧ mapR (C.take j) = some d ∧ Below wr.heap.size wr wq) (fun _ iv _ => n - (intOf iv).toNat)
        case atStart => exact ⟨0, [], by omega, rfl, rfl, rfl, Below.refl _ _⟩
        case round =>
          obtain ⟨j, d, hj, rfl, rfl, hd, hbq⟩ := hrel
          have HD := hideC hd
          have HQ := hideC hbq
          clear hd hbq
          by_cases hjn : j < n
          · have hji : (j : Int) < (n : Int) := by omega
            obtain ⟨g, cp, hv, hbg, hglt, hcap, hcs⟩ := own_cells HO.out (by omega)
            injection hv with hv1 hv2 hv3
            subst hv1 hv3
            have hjl : j < C.length := by rw [HCN.out]; exact hjn
            obtain ⟨L, hL⟩ : ∃ L, L = C.getD j ByteArray.empty := ⟨_, rfl⟩
            have hmem : L ∈ C := by
              rw [hL, List.getD_eq_getElem?_getD, List.getElem?_eq_getElem hjl]
              exact List.getElem_mem hjl
            have hLs := HSZ.out L hmem
            have hcell : wr.cell? ⟨g, j, none⟩ = some (.string L) := by
              rw [HQ.out.cell hglt]
              have := hcs j (.string L) (by rw [List.getElem?_map, List.getElem?_eq_getElem hjl, hL, List.getD_eq_getElem?_getD, List.getElem?_eq_getElem hjl]; rfl)
              rw [Nat.zero_add] at this
              exact this
            have HTI := hideC (fun V => ti_any L V (by omega))
            rw [ti_read] at HTI
            have HTK := hideC (mapR_take HD.out hjl)
            rw [← hL] at HTK
            have hcl := code_len d
            have hdl := mapR_len HD.out
            rw [List.length_take] at hdl
            obtain ⟨A, hA⟩ : ∃ A, A = codeOf d := ⟨_, rfl⟩
            have HA := hideC hA
            rw [← hA] at hcl ⊢
            have hA5 : A.size ≤ 4096 := by omega
            clear hL hmem hcs hcap hbg hA hcl hdl hLs
            cases hr : readN L with
            | none =>
              rw [hr] at HTI HTK
              have HTI2 : Hid (∀ V, Calls Tryd.prog 10 #[.string L] V fun e w' => e = .returned (.tuple #[.agg #[.int .i64 0, .int .i64 0, .int .i64 0, .int .i64 0, .int .i64 0], .bool false]) ∧ Below V.heap.size V w') := HTI.out
              have HF := hideC (mapR_fell HTK.out)
              have HNN : Hid ((R1, R2) = (⟨#[]⟩, 1)) := by show _ = _; rw [HAS3.out, HF.out]
              clear HTI hr HTK HAS3 HF
              go_wp2_with (go_at_call 10; refine (HTI2.out _).mono ?_; rintro e w3 ⟨rfl, hb3⟩; have HB3 := hideC (add_below (HB.out.trans (HQ.out.mono HB.out.size)) hb3); clear hb3)
              go_ret2
              exact ⟨by rw [(Prod.mk.inj HNN.out).1, (Prod.mk.inj HNN.out).2]; rfl, HB3.out.alloc HB3.out.size _⟩
            | some i =>
              rw [hr] at HTI HTK
              have HTI2 : Hid (∀ V, Calls Tryd.prog 10 #[.string L] V fun e w' => e = .returned (.tuple #[.agg #[.int .i64 i.op, .int .i64 i.a, .int .i64 i.b, .int .i64 i.c, .int .i64 i.m], .bool true]) ∧ Below V.heap.size V w') := HTI.out
              have HTK2 : Hid (mapR (C.take (j + 1)) = some (d ++ [i])) := HTK.out
              have HE : Hid (∀ V, Calls Tryd.prog 34 #[.agg #[.int .i64 i.op, .int .i64 i.a, .int .i64 i.b, .int .i64 i.c, .int .i64 i.m]] V fun e w' => e = .returned (.string i.bytes) ∧ Below V.heap.size V w') := fun V => PW.instr_any i V
              have HCS := hideC (code_snoc d i)
              have hbs := PM.bytes_size i
              obtain ⟨EB, hEB⟩ : ∃ EB, EB = i.bytes := ⟨_, rfl⟩
              rw [← hEB] at HE hbs HCS
              clear HTI hr HTK hEB
              go_wp2_with (first
                | (go_at_call 10; refine (HTI2.out _).mono ?_; rintro e w3 ⟨rfl, hb3⟩; have HB3 := hideC (add_below HQ.out hb3); clear hb3)
                | (go_at_call 34; refine (HE.out _).mono ?_; rintro e w4 ⟨rfl, hb4⟩; have HB4 := hideC (add_below (HB3.out.alloc HB3.out.size _) hb4); clear hb4))
              go_roundw
              case rel => exact ⟨j + 1, d ++ [i], by omega, by go_num, by rw [HCS.out, HA.out], HTK2.out, HB4.out⟩
              case measure => simp [intOf]; omega
          · obtain rfl : j = n := by omega
            have hji : ¬ (j : Int) < (j : Int) := by omega
            have hD := HD.out
            rw [← HCN.out, List.take_length] at hD
            have HNN : Hid ((R1, R2) = (codeOf d, 0)) := by show _ = _; rw [HAS3.out, hD]
            clear hD HAS3 HD
            go_wp2
            go_ret2
            exact ⟨by rw [(Prod.mk.inj HNN.out).1, (Prod.mk.inj HNN.out).2]; rfl, HB.out.trans (HQ.out.mono HB.out.size)⟩
      · have hfi : ((f : Int) == (s.size : Int)) = false := by rw [beq_eq_false_iff_ne]; omega
        have HAS2 := HAS.out
        rw [if_neg hfs] at HAS2
        have HNN := hideC HAS2
        clear HAS HAS2
        go_wp2
        go_ret2
        exact ⟨by rw [(Prod.mk.inj HNN.out).1, (Prod.mk.inj HNN.out).2]; rfl, HB.out⟩
end Go.Proofs.YtklobjfhjlkgfaaDoor.TW
/- The reference's Listed. -/
namespace Go.Proofs.YtklobjfhjlkgfaaDoor.TW
open Go.RowKit
set_option linter.unusedVariables false
set_option maxRecDepth 100000
set_option linter.unusedSimpArgs false

set_option maxHeartbeats 4000000 in
theorem listed_any (s : ByteArray) (w : World) (hs : s.size < 4294967281) : Calls Tryd.prog 15 #[.string s] w fun e w' => e = .returned (.tuple #[.string (listN s).1, .int .i64 (listN s).2]) ∧ Below w.heap.size w w' := by
  by_cases h1 : 512 < s.size / 8
  · have HN : Hid (listN s = (⟨#[]⟩, 2)) := by show _ = _; unfold listN; rw [if_pos h1]
    rw [HN.out]
    have h2 : (4103 : Int) < (s.size : Int) := by omega
    clear h1
    go_enter Tryd.func15, Tryd.ntmps15
    go_wp2
    go_ret2
    exact ⟨rfl, Below.refl _ _⟩
  · have h2 : ¬ (4103 : Int) < (s.size : Int) := by omega
    by_cases h3 : s.size % 8 = 0
    · have HN : Hid (listN s = (listTo s (s.size / 8), 0)) := by show _ = _; unfold listN; rw [if_neg h1, if_neg (by omega)]
      rw [HN.out]
      have h4 : (s.size : Int) % 8 = 0 := by omega
      obtain ⟨K, hK⟩ : ∃ K, K = s.size / 8 := ⟨_, rfl⟩
      rw [← hK]
      have HK : Hid (s.size = 8 * K) := by show _ = _; omega
      have hK5 : K ≤ 512 := by omega
      clear h1 h3 hK
      go_enter Tryd.func15, Tryd.ntmps15
      go_wp2
      have HLZ := hideC (list_size s)
      have HLS : Hid (∀ k, listTo s (k + 1) = listTo s k ++ (showN (PM.ins (chunk s k)) ++ nl)) := fun k => rfl
      clear h4 h2
      go_loopw [4, 5] (fun lv av wr => ∃ k p : Nat, p = 8 * k ∧ k ≤ K ∧ av = .int .i64 (p : Int) ∧ lv = .string (listTo s k) ∧ Below w.heap.size w wr) (fun _ av _ => s.size - (intOf av).toNat)
      case atStart => exact ⟨0, 0, rfl, by omega, rfl, rfl, Below.refl _ _⟩
      case round =>
        obtain ⟨k, p, hp, hk, rfl, rfl, hb⟩ := hrel
        have HP := hideC hp
        have HB := hideC hb
        clear hb
        by_cases hlt : k < K
        · have hsz : p + 8 ≤ s.size := by have := HK.out; omega
          have hi1 : (p : Int) < (s.size : Int) := by omega
          have hz := HLZ.out k (by have := HK.out; omega)
          have hck : s.extract p (p + 8) = chunk s k := by rw [hp]; rfl
          have hc8 := chunk_size s k (by have := HK.out; omega)
          have hfi := PM.ins_fits _ hc8
          have HD : Hid (∀ V, Calls Tryd.prog 35 #[.string (chunk s k)] V fun e w' => e = .returned (.agg #[.int .i64 (PM.ins (chunk s k)).op, .int .i64 (PM.ins (chunk s k)).a, .int .i64 (PM.ins (chunk s k)).b, .int .i64 (PM.ins (chunk s k)).c, .int .i64 (PM.ins (chunk s k)).m]) ∧ Below V.heap.size V w') := fun V => PW.from_any (chunk s k) V hc8
          have HSH : Hid (∀ V, Calls Tryd.prog 8 #[.agg #[.int .i64 (PM.ins (chunk s k)).op, .int .i64 (PM.ins (chunk s k)).a, .int .i64 (PM.ins (chunk s k)).b, .int .i64 (PM.ins (chunk s k)).c, .int .i64 (PM.ins (chunk s k)).m]] V fun e w' => e = .returned (.string (showN (PM.ins (chunk s k)))) ∧ Below V.heap.size V w') := fun V => by
            rw [show_text]
            exact text_any (PM.ins (chunk s k)) hfi V
          have hss := show_size _ hfi
          have HST := hideC (HLS.out k)
          obtain ⟨i, hi⟩ : ∃ i, i = PM.ins (chunk s k) := ⟨_, rfl⟩
          rw [← hi] at HD HSH hss HST
          rw [← hck] at HD
          obtain ⟨S, hS⟩ : ∃ S, S = showN i := ⟨_, rfl⟩
          rw [← hS] at HSH hss HST
          clear hi hS hck hc8 hfi hp
          obtain ⟨A, hA⟩ : ∃ A, A = listTo s k := ⟨_, rfl⟩
          rw [← hA] at hz HST ⊢
          clear hA
          have hpn : ((p : Int) + 8).toNat = p + 8 := by omega
          go_wp2_with (first
            | (go_at_call 35; refine (HD.out _).mono ?_; rintro e w2 ⟨rfl, hb2⟩; have HB2 := hideC (add_below HB.out hb2); clear hb2)
            | (go_at_call 8; refine (HSH.out _).mono ?_; rintro e w3 ⟨rfl, hb3⟩; have HB3 := hideC (add_below HB2.out hb3); clear hb3))
          go_roundw
          case rel => exact ⟨k + 1, p + 8, by have := HP.out; omega, by omega, by go_num, by rw [HST.out, ← ByteArray.append_assoc]; rfl, HB3.out⟩
          case measure => simp [intOf]; omega
        · obtain rfl : k = K := by omega
          have hge : ¬ (p : Int) < (s.size : Int) := by have := HK.out; omega
          clear hp
          go_wp2
          go_ret2
          exact ⟨rfl, HB.out⟩
    · have HN : Hid (listN s = (⟨#[]⟩, 3)) := by show _ = _; unfold listN; rw [if_neg h1, if_pos h3]
      rw [HN.out]
      have h4 : ¬ (s.size : Int) % 8 = 0 := by omega
      clear h1 h3
      go_enter Tryd.func15, Tryd.ntmps15
      go_wp2
      go_ret2
      exact ⟨rfl, Below.refl _ _⟩
end Go.Proofs.YtklobjfhjlkgfaaDoor.TW
/- textBegun: what must be in any case. -/
namespace Go.Proofs.YtklobjfhjlkgfaaDoor.TW
open Go.RowKit
set_option linter.unusedVariables false
set_option maxRecDepth 100000
set_option linter.unusedSimpArgs false

def iLoad : PM.Ins := ⟨9, 1, 2, 8, -4⟩
def iExit : PM.Ins := ⟨16, 0, 0, 0, 6⟩
def iSet : PM.Ins := ⟨1, 0, 0, 0, 5⟩
def iOut : PM.Ins := ⟨16, 0, 0, 0, 1⟩
theorem fits_iLoad : iLoad.fits := by unfold iLoad PM.Ins.fits PM.Byt; decide
theorem fits_iExit : iExit.fits := by unfold iExit PM.Ins.fits PM.Byt; decide
theorem fits_iSet : iSet.fits := by unfold iSet PM.Ins.fits PM.Byt; decide
theorem fits_iOut : iOut.fits := by unfold iOut PM.Ins.fits PM.Byt; decide
theorem itoa_small (k : Nat) (h : k < 10) : Lib.itoa (k : Int) = [UInt8.ofNat (48 + k)] := by
  unfold Lib.itoa
  rw [if_neg (by omega), Int.toNat_natCast, Lib.decDigits, dif_pos h]
theorem itoaS_small (k : Nat) (h : k < 10) : itoaS (k : Int) = ⟨#[UInt8.ofNat (48 + k)]⟩ := by rw [itoaS_pos, decS_small k h]
theorem show_load : showN iLoad = ⟨#[108, 111, 97, 100, 32, 49, 32, 50, 32, 45, 52, 32, 56]⟩ := by
  have hb : iLoad.bad = false := rfl
  rw [show_by iLoad 11 hb (by_11 1 2 8 (-4)), nums_11]
  have h1 : itoaS 1 = ⟨#[49]⟩ := itoaS_small 1 (by omega)
  have h2 : itoaS 2 = ⟨#[50]⟩ := itoaS_small 2 (by omega)
  have h8 : itoaS 8 = ⟨#[56]⟩ := itoaS_small 8 (by omega)
  have h4 : itoaS (-4) = ⟨#[45, 52]⟩ := by
    rw [show (-4 : Int) = -((4 : Nat) : Int) by rfl, itoaS_neg 4 (by omega), decS_small 4 (by omega)]
    rfl
  show ((((((((rowAt 11).name ++ blank) ++ itoaS 1) ++ blank) ++ itoaS 2) ++ blank) ++ itoaS (-4)) ++ blank) ++ itoaS 8 = _
  rw [h1, h2, h4, h8]
  rfl
theorem show_exit : showN iExit = ⟨#[101, 120, 105, 116]⟩ := by
  have hb : iExit.bad = false := rfl
  rw [show_by iExit 20 hb by_20, nums_20]
  rfl
theorem show_out : showN iOut = ⟨#[111, 117, 116]⟩ := by
  have hb : iOut.bad = false := rfl
  rw [show_by iOut 15 hb by_15, nums_15]
  rfl
theorem show_set : showN iSet = ⟨#[115, 101, 116, 32, 48, 32, 53]⟩ := by
  have hb : iSet.bad = false := rfl
  rw [show_by iSet 0 hb (by_0 0 5), nums_0]
  have h0 : itoaS 0 = ⟨#[48]⟩ := itoaS_small 0 (by omega)
  have h5 : itoaS 5 = ⟨#[53]⟩ := itoaS_small 5 (by omega)
  show ((((rowAt 0).name ++ blank) ++ itoaS 0) ++ blank) ++ itoaS 5 = _
  rw [h0, h5]
  rfl
def twoS : ByteArray := ⟨#[115, 101, 116, 32, 48, 32, 53, 10, 111, 117, 116, 10]⟩
theorem two_lines : twoS.data.toList = linesL [iSet, iOut] := by
  show _ = (showN iSet).data.toList ++ 10 :: ((showN iOut).data.toList ++ 10 :: [])
  rw [show_set, show_out]
  rfl
theorem asm_two : asmN twoS = (codeOf [iSet, iOut], 0) := by
  have h := asm_of_lines [iSet, iOut] (fun i hi => by
    simp only [List.mem_cons, List.not_mem_nil, or_false] at hi
    rcases hi with rfl | rfl
    · exact fits_iSet
    · exact fits_iOut) (twoS.size + 1) twoS two_lines (by decide)
  unfold asmN
  rw [if_neg (by decide), h]
theorem list_two : listN (codeOf [iSet, iOut]) = (twoS, 0) := by
  have h := list_asm twoS (by rw [asm_two])
  rw [asm_two] at h
  exact h
theorem code_two : (codeOf [iSet, iOut]).size = 16 := code_size _
set_option maxHeartbeats 4000000 in
theorem begun_any (w : World) (tb o cap : Nat) (hl : Lay tb o cap w) : Calls Tryd.prog 11 #[] w fun e w' => e = .returned (.bool true) ∧ Below w.heap.size w w' := by
  have HL := hideC hl
  have HS : Hid (∀ V, Lay tb o cap V → Calls Tryd.prog 6 #[.agg #[.int .i64 9, .int .i64 1, .int .i64 2, .int .i64 8, .int .i64 (-4)]] V fun e w' => e = .returned (.tuple #[.string ⟨#[108, 111, 97, 100, 32, 49, 32, 50, 32, 45, 52, 32, 56]⟩, .int .i64 0]) ∧ Below V.heap.size V w') := fun V hV => by
    have h := show_yes iLoad V tb o cap hV fits_iLoad
    rw [show_load] at h
    exact h
  have HR : Hid (∀ V, Lay tb o cap V → Calls Tryd.prog 9 #[.string ⟨#[101, 120, 105, 116]⟩] V fun e w' => e = .returned (.tuple #[.agg #[.int .i64 16, .int .i64 0, .int .i64 0, .int .i64 0, .int .i64 6], .int .i64 0]) ∧ Below V.heap.size V w') := fun V hV => by
    have h := read_any (showN iExit) V tb o cap hV (by rw [show_exit]; decide)
    rw [read_show iExit fits_iExit, show_exit] at h
    exact h
  have HA : Hid (∀ V, Lay tb o cap V → Calls Tryd.prog 12 #[.string ⟨#[115, 101, 116, 32, 48, 32, 53, 10, 111, 117, 116, 10]⟩] V fun e w' => e = .returned (.tuple #[.string (codeOf [iSet, iOut]), .int .i64 0]) ∧ Below V.heap.size V w') := fun V hV => by
    have h := asm_any twoS V tb o cap hV (by decide)
    rw [asm_two] at h
    exact h
  have HI : Hid (∀ V, Lay tb o cap V → Calls Tryd.prog 13 #[.string (codeOf [iSet, iOut])] V fun e w' => e = .returned (.tuple #[.string ⟨#[115, 101, 116, 32, 48, 32, 53, 10, 111, 117, 116, 10]⟩, .int .i64 0]) ∧ Below V.heap.size V w') := fun V hV => by
    have h := list_any (codeOf [iSet, iOut]) V tb o cap hV (by rw [code_two]; decide)
    rw [list_two] at h
    exact h
  have hcz := code_two
  obtain ⟨C, hC⟩ : ∃ C, C = codeOf [iSet, iOut] := ⟨_, rfl⟩
  rw [← hC] at HA HI hcz
  clear hC hl
  go_enter Tryd.func11, Tryd.ntmps11
  go_wp2_with (first
    | (go_at_call 6; refine (HS.out _ HL.out).mono ?_; rintro e w1 ⟨rfl, hb1⟩; have HB1 := hideC hb1; clear hb1)
    | (go_at_call 9; refine (HR.out _ (HL.out.below HB1.out)).mono ?_; rintro e w2 ⟨rfl, hb2⟩; have HB2 := hideC (add_below HB1.out hb2); clear hb2; have Y2 := hideC (B.new w2 #[.int .i64 16, .int .i64 0, .int .i64 0, .int .i64 0, .int .i64 6] 23))
    | (go_at_call 12; refine (HA.out _ (HL.out.below (HB2.out.alloc HB2.out.size _))).mono ?_; rintro e w3 ⟨rfl, hb3⟩; have Y3 := hideC (B.below Y2.out hb3 (B.isLt Y2.out)); have HB3 := hideC (add_below (HB2.out.alloc HB2.out.size _) hb3); clear hb3)
    | (go_at_call 13; refine (HI.out _ (HL.out.below HB3.out)).mono ?_; rintro e w4 ⟨rfl, hb4⟩; have Y4 := hideC (B.below Y3.out hb4 (B.isLt Y3.out)); have HB4 := hideC (add_below HB3.out hb4); clear hb4; have y0 : w4.cell? ⟨w2.heap.size, 0, none⟩ = some (.int .i64 16) := B.cell Y4.out 0 rfl; have y1 : w4.cell? ⟨w2.heap.size, 1, none⟩ = some (.int .i64 0) := B.cell Y4.out 1 rfl; have y2 : w4.cell? ⟨w2.heap.size, 2, none⟩ = some (.int .i64 0) := B.cell Y4.out 2 rfl; have y3 : w4.cell? ⟨w2.heap.size, 3, none⟩ = some (.int .i64 0) := B.cell Y4.out 3 rfl; have y4 : w4.cell? ⟨w2.heap.size, 4, none⟩ = some (.int .i64 6) := B.cell Y4.out 4 rfl))
  go_ret
  exact ⟨by simp, HB4.out⟩
end Go.Proofs.YtklobjfhjlkgfaaDoor.TW
/- TextAssembles: its walk. -/
namespace Go.Proofs.YtklobjfhjlkgfaaDoor.TW
open Go.RowKit
set_option linter.unusedVariables false
set_option maxRecDepth 100000
set_option linter.unusedSimpArgs false

set_option maxHeartbeats 8000000 in
theorem assembles_any (s t : ByteArray) (w : World) (tb o cap : Nat) (hl : Lay tb o cap w) (hs : s.size < 4294967281) (ht : t.size < 4294967281) : Calls Tryd.prog 4 #[.string s, .string t] w fun e w' => e = .returned (.bool true) ∧ Below w.heap.size w w' := by
  have HL := hideC hl
  have HBG := hideC (fun V (hV : Lay tb o cap V) => begun_any V tb o cap hV)
  have HA := hideC (fun V (hV : Lay tb o cap V) => asm_any s V tb o cap hV hs)
  have HI := hideC (fun V (hV : Lay tb o cap V) => list_any t V tb o cap hV ht)
  have HRA := hideC (fun V => assembled_any s V hs)
  have HRI := hideC (fun V => listed_any t V ht)
  obtain ⟨A, hA⟩ : ∃ A, A = asmN s := ⟨_, rfl⟩
  obtain ⟨D, hD⟩ : ∃ D, D = listN t := ⟨_, rfl⟩
  rw [← hA] at HA HRA
  rw [← hD] at HI HRI
  clear hA hD hl hs ht
  obtain ⟨A1, A2⟩ := A
  obtain ⟨D1, D2⟩ := D
  have HA' : Hid (∀ V, Lay tb o cap V → Calls Tryd.prog 12 #[.string s] V fun e w' => e = .returned (.tuple #[.string A1, .int .i64 A2]) ∧ Below V.heap.size V w') := HA
  have HI' : Hid (∀ V, Lay tb o cap V → Calls Tryd.prog 13 #[.string t] V fun e w' => e = .returned (.tuple #[.string D1, .int .i64 D2]) ∧ Below V.heap.size V w') := HI
  have HRA' : Hid (∀ V, Calls Tryd.prog 14 #[.string s] V fun e w' => e = .returned (.tuple #[.string A1, .int .i64 A2]) ∧ Below V.heap.size V w') := HRA
  have HRI' : Hid (∀ V, Calls Tryd.prog 15 #[.string t] V fun e w' => e = .returned (.tuple #[.string D1, .int .i64 D2]) ∧ Below V.heap.size V w') := HRI
  clear HA HI HRA HRI
  have hqa : (A1.toList == A1.toList) = true := by simp
  have hqd : (D1.toList == D1.toList) = true := by simp
  have HB0 := hideC (Below.refl w.heap.size w)
  go_enter Tryd.func4, Tryd.ntmps4
  go_wp2_with (first
    | (go_at_call 12; refine (HA'.out _ HL.out).mono ?_; rintro e w1 ⟨rfl, hb1⟩; have HB1 := hideC (add_below HB0.out hb1); clear hb1)
    | (go_at_call 13; refine (HI'.out _ (HL.out.below HB1.out)).mono ?_; rintro e w2 ⟨rfl, hb2⟩; have HB2 := hideC (add_below HB1.out hb2); clear hb2)
    | (go_at_call 14; refine (HRA'.out _).mono ?_; rintro e w3 ⟨rfl, hb3⟩; have HB3 := hideC (add_below HB2.out hb3); clear hb3)
    | (go_at_call 15; refine (HRI'.out _).mono ?_; rintro e w4 ⟨rfl, hb4⟩; have HB4 := hideC (add_below HB3.out hb4); clear hb4)
    | (go_at_call 11; refine (HBG.out _ (HL.out.below HB4.out)).mono ?_; rintro e w5 ⟨rfl, hb5⟩; have HB5 := hideC (add_below HB4.out hb5); clear hb5))
  go_ret
  exact ⟨rfl, HB5.out⟩
end Go.Proofs.YtklobjfhjlkgfaaDoor.TW
/- What the row's list of variables gives. -/
namespace Go.Proofs.YtklobjfhjlkgfaaDoor.TW
open Go.RowKit Go.Deep
set_option linter.unusedVariables false
set_option maxRecDepth 100000
set_option linter.unusedSimpArgs false

theorem gTable : Tryd.prog.globalNamed "foliant/text.table" = some 0 := by kernel_rfl
theorem tTable : (Tryd.prog.globals[0]?).map (·.type) = some 71 := by kernel_rfl
theorem gSyn : Tryd.prog.globalNamed "strconv.ErrSyntax" = some 3 := by kernel_rfl
theorem tSyn : (Tryd.prog.globals[3]?).map (·.type) = some 77 := by kernel_rfl
theorem gRan : Tryd.prog.globalNamed "strconv.ErrRange" = some 4 := by kernel_rfl
theorem tRan : (Tryd.prog.globals[4]?).map (·.type) = some 77 := by kernel_rfl
theorem gTen : Tryd.prog.globalNamed "internal/strconv.uint64pow10" = some 2 := by kernel_rfl
theorem tTen : (Tryd.prog.globals[2]?).map (·.type) = some 121 := by kernel_rfl
theorem cellsTen : Tryd.prog.cellsOf 121 = 20 := by kernel_rfl
theorem cellsU : Tryd.prog.cellsOf 97 = 1 := by kernel_rfl
theorem cellsRow : Tryd.prog.cellsOf 48 = 4 := by kernel_rfl
theorem cellsInt : Tryd.prog.cellsOf 3 = 1 := by kernel_rfl
theorem cellsStr : Tryd.prog.cellsOf 9 = 1 := by kernel_rfl
theorem table_is : (Rows.laid_foliant_text_table : DataW Unit) = .slice (tableL.map rowD) [] := rfl
section
variable {enc : TypeId × Value → Unit} {w : World} {base : Nat} {spare : Nat → Bool} {held : Bool}
theorem one_row {n : Nat} {a : Addr} {cs : List Value} {r : Row} {pl : List MemPlace} (hc : w.cells? base a 4 = some cs) (h : DataW.trod enc Tryd.prog w base spare held n 48 cs = some (rowD r, pl)) :
    ∀ j v, r.cells[j]? = some v → w.cell? (a.add j) = some v := by
  obtain ⟨_, hlen, hcell⟩ := World.cells?_some hc
  obtain ⟨xs, k, hk, hxy, _, hxl, hf⟩ := DataW.trod_struct Tryd.underlying48 h
  match cs, hlen with
  | [v0, v1, v2, v3], _ =>
    have g0 : DataW.trod enc Tryd.prog w base spare held k 9 (([v0, v1, v2, v3].drop 0).take (Tryd.prog.cellsOf 9)) = xs[0]? := hf 0 _ rfl
    have g1 : DataW.trod enc Tryd.prog w base spare held k 3 (([v0, v1, v2, v3].drop 1).take (Tryd.prog.cellsOf 3)) = xs[1]? := hf 1 _ rfl
    have g2 : DataW.trod enc Tryd.prog w base spare held k 3 (([v0, v1, v2, v3].drop 2).take (Tryd.prog.cellsOf 3)) = xs[2]? := hf 2 _ rfl
    have g3 : DataW.trod enc Tryd.prog w base spare held k 9 (([v0, v1, v2, v3].drop 3).take (Tryd.prog.cellsOf 9)) = xs[3]? := hf 3 _ rfl
    simp only [cellsInt, cellsStr] at g0 g1 g2 g3
    have e0 := hcell 0 (by omega)
    have e1 := hcell 1 (by omega)
    have e2 := hcell 2 (by omega)
    have e3 := hcell 3 (by omega)
    match xs, hxl with
    | [y0, y1, y2, y3], _ =>
      obtain ⟨s0, c0, d0, _⟩ := DataW.trod_string Tryd.underlying9 (show DataW.trod enc Tryd.prog w base spare held k 9 [v0] = some y0 from g0)
      obtain ⟨m1, c1, d1, _⟩ := DataW.trod_int Tryd.underlying3 (show DataW.trod enc Tryd.prog w base spare held k 3 [v1] = some y1 from g1)
      obtain ⟨m2, c2, d2, _⟩ := DataW.trod_int Tryd.underlying3 (show DataW.trod enc Tryd.prog w base spare held k 3 [v2] = some y2 from g2)
      obtain ⟨s3, c3, d3, _⟩ := DataW.trod_string Tryd.underlying9 (show DataW.trod enc Tryd.prog w base spare held k 9 [v3] = some y3 from g3)
      simp only [List.cons.injEq, and_true] at c0 c1 c2 c3
      subst c0; subst c1; subst c2; subst c3
      subst d0; subst d1; subst d2; subst d3
      have hr : rowD r = rowD ⟨s0, m1, m2, s3⟩ := congrArg Prod.fst hxy
      have hr2 := rowD_inj hr
      subst hr2
      intro j v hj
      match j, hj with
      | 0, hj => injection hj with hj; subst hj; exact e0
      | 1, hj => injection hj with hj; subst hj; exact e1
      | 2, hj => injection hj with hj; subst hj; exact e2
      | 3, hj => injection hj with hj; subst hj; exact e3
      | n + 4, hj => cases hj
end
theorem tab_of {W : World} {rest : List (String × DataW Unit)} (h : laidMet Tryd.prog (("foliant/text.table", Rows.laid_foliant_text_table) :: rest) W) (hlt : 9 ≤ W.heap.size) : ∃ tb o cap, Tab tb o cap W := by
  obtain ⟨ps, ⟨g, t, cs, fuel, p, q, hg, ht, hv, hd, _, _⟩, _, _⟩ := h
  obtain rfl := Option.some.inj (gTable.symm.trans hg)
  obtain rfl := Option.some.inj (tTable.symm.trans ht)
  rw [table_is] at hd
  rcases open_slice Tryd.underlying71 hd with ⟨_, hx⟩ | ⟨a, len, cap, m, n, D, Pl, hcs, hb, hl, hm, hmm, hx, hel⟩
  · cases hx
  · have h1 : (tableL.map rowD) = (List.range len).map D := by
      have := congrArg Prod.fst hx
      simp only [DataW.slice.injEq] at this
      exact this.1
    have hlen : len = 22 := by
      have := congrArg List.length h1
      simp only [List.length_map, List.length_range] at this
      exact this.symm
    subst hlen
    have hmge : 22 ≤ m := by rw [hmm]; split <;> omega
    have hD : ∀ k, k < 22 → D k = rowD (rowAt k) := by
      intro k hk
      have h2 := congrArg (·[k]?) h1
      simp only [List.getElem?_map, List.getElem?_range hk, Option.map_some] at h2
      have hkt : k < tableL.length := hk
      rw [List.getElem?_eq_getElem hkt] at h2
      have h3 : rowD (tableL[k]) = D k := by simpa using h2
      rw [← h3]
      unfold rowAt
      rw [List.getD_eq_getElem?_getD, List.getElem?_eq_getElem hkt]
      rfl
    have hrows : ∀ k, k < 22 → ∀ j v, (rowAt k).cells[j]? = some v → W.cell? ((a.add (k * 4)).add j) = some v := by
      intro k hk
      obtain ⟨cs', h2, h3⟩ := hel k (by omega)
      rw [cellsRow] at h2
      rw [hD k hk] at h3
      exact one_row h2 h3
    obtain ⟨b, off, spot⟩ := a
    have c0 := hrows 0 (by omega) 0 _ rfl
    have hspot : spot = none := by simpa [Addr.add] using World.cell?_spot c0
    subst hspot
    have hb2 : b < W.heap.size := by
      have := hrows 0 (by omega) 0 _ rfl
      rcases Nat.lt_or_ge b W.heap.size with h4 | h4
      · exact h4
      · simp [World.cell?, Addr.add, Array.getElem?_eq_none h4] at this
    refine ⟨b, off, cap, ?_, fun k hk j v hj => ?_, hb2⟩
    · have hvc := World.var?_cell hg hv 0
      have : cs = #[.slice (some ⟨b, off, none⟩) 22 cap] := by
        apply Array.ext'
        rw [hcs]
      rw [this] at hvc
      simpa using hvc
    · have := hrows k hk j v hj
      rw [add_add, Addr.add_lit] at this
      rw [Nat.add_assoc]
      exact this
theorem iface_of {W : World} {n nm : String} {d : DataW Unit} {g : Nat} {ti : TypeId} {ms : Array (String × TypeId)} {rest : List (String × DataW Unit)} (h : laidMet Tryd.prog ((n, .iface nm d) :: rest) W) (hg : Tryd.prog.globalNamed n = some g) (ht : (Tryd.prog.globals[g]?).map (·.type) = some ti) (hi : Tryd.prog.underlying ti = some (.interface ms)) : ∃ ev, W.cell? ⟨g, 0, none⟩ = some ev ∧ (ev = .nilIface ∨ ∃ te pe, ev = .iface te pe) := by
  obtain ⟨ps, ⟨g0, t0, cs, fuel, p, q, hg0, ht0, hv, hd, _, _⟩, _, _⟩ := h
  obtain rfl := Option.some.inj (hg.symm.trans hg0)
  obtain rfl := Option.some.inj (ht.symm.trans ht0)
  obtain ⟨f1, u, v, hcs, _, _⟩ := iface_of_trod hi hd
  have hvc := World.var?_cell hg0 hv 0
  have : cs = #[.iface u v] := by
    apply Array.ext'
    rw [hcs]
  rw [this] at hvc
  exact ⟨.iface u v, by simpa using hvc, .inr ⟨u, v, rfl⟩⟩
theorem heap9 {W : World} (h : W.ShapedOpen Tryd.prog) : 9 ≤ W.heap.size := by
  obtain ⟨m, hm⟩ := Tryd.laysM145.s1_3 W h
  have e : ((begin Tryd.prog (fun _ _ => 0) default).world.heap[8]?).bind Obj.row? ≠ none := by
    intro e
    have : (((begin Tryd.prog (fun _ _ => 0) default).world.heap[8]?).bind Obj.row?).isSome = true := by kernel_rfl
    rw [e] at this
    cases this
  cases e2 : ((begin Tryd.prog (fun _ _ => 0) default).world.heap[8]?).bind Obj.row? with
  | none => exact (e e2).elim
  | some zt =>
    obtain ⟨cs, hh, _⟩ := h.1 8 zt.1 zt.2 (by show (8 : Nat) < _; have : Tryd.prog.globals.size = 9 := by kernel_rfl
                                              omega) e2
    have := B.isLt hh
    omega
/-- what is laid -/
theorem lay_of {W : World} (h0 : laidMetH Tryd.prog Rows.textBackUptoRow.laid W) (hs : W.ShapedOpen Tryd.prog) : ∃ tb o cap, Lay tb o cap W := by
  rw [MakeChecks.laidMetH_plain _ _ _ (by kernel_rfl)] at h0
  have h9 := heap9 hs
  obtain ⟨tb, o, cap, ht⟩ := tab_of (rest := [("unicode/utf8.first", Rows.laid_unicode_utf8_first)]) h0.tail.tail.tail.tail.tail.tail h9
  refine ⟨tb, o, cap, ht, ?_, ?_, ?_, ?_, h9⟩
  · exact Lib.tabIs_of_head (rest := _) gTen tTen Tryd.underlying121 Tryd.underlying97 cellsU cellsTen (show laidMet Tryd.prog (("internal/strconv.uint64pow10", Lib.tabData .u64 Lib.pow10Tab) :: _) W from h0.tail.tail)
  · exact Tryd.laysM145.s1_3 W hs
  · exact iface_of h0.tail.tail.tail.tail.tail gSyn tSyn Tryd.underlying77
  · exact iface_of h0.tail.tail.tail.tail gRan tRan Tryd.underlying77
end Go.Proofs.YtklobjfhjlkgfaaDoor.TW
/- The reading of instructions and processes that came in. -/
namespace Go.Proofs.YtklobjfhjlkgfaaDoor.PW
open Go.RowKit Go.Deep
set_option linter.unusedVariables false
set_option maxRecDepth 100000

theorem cellsI5 : Tryd.prog.cellsOf 23 = 5 := by kernel_rfl
theorem cellsP13 : Tryd.prog.cellsOf 46 = 13 := by kernel_rfl
theorem cellsR8 : Tryd.prog.cellsOf 42 = 8 := by kernel_rfl
theorem cellsF2 : Tryd.prog.cellsOf 44 = 2 := by kernel_rfl
theorem cells3 : Tryd.prog.cellsOf 3 = 1 := by kernel_rfl
section
variable {H : Type} {enc : TypeId × Value → H} {w : World} {base : Nat} {spare : Nat → Bool} {held : Bool}
theorem one_int {fuel : Nat} {v : Value} {y : Option (DataW H × List MemPlace)} (h : DataW.trod enc Tryd.prog w base spare held fuel 3 [v] = y) (hy : y.isSome = true) : ∃ n : Int, v = .int .i64 n := by
  obtain ⟨y', rfl⟩ := Option.isSome_iff_exists.1 hy
  obtain ⟨n, c, _, _⟩ := DataW.trod_int Tryd.underlying3 h
  simp only [List.cons.injEq, and_true] at c
  exact ⟨n, c⟩
theorem open_instr {fuel : Nat} {cs : List Value} {x : DataW H × List MemPlace} (h : DataW.trod enc Tryd.prog w base spare held fuel 23 cs = some x) : ∃ i : PM.Ins, cs = i.cells.toList := by
  obtain ⟨xs, k, hk, hxy, hcl, hxl, hf⟩ := DataW.trod_struct Tryd.underlying23 h
  rw [cellsI5] at hcl
  match cs, hcl with
  | [v0, v1, v2, v3, v4], _ =>
    have g0 : DataW.trod enc Tryd.prog w base spare held k 3 (([v0, v1, v2, v3, v4].drop 0).take (Tryd.prog.cellsOf 3)) = xs[0]? := hf 0 _ rfl
    have g1 : DataW.trod enc Tryd.prog w base spare held k 3 (([v0, v1, v2, v3, v4].drop 1).take (Tryd.prog.cellsOf 3)) = xs[1]? := hf 1 _ rfl
    have g2 : DataW.trod enc Tryd.prog w base spare held k 3 (([v0, v1, v2, v3, v4].drop 2).take (Tryd.prog.cellsOf 3)) = xs[2]? := hf 2 _ rfl
    have g3 : DataW.trod enc Tryd.prog w base spare held k 3 (([v0, v1, v2, v3, v4].drop 3).take (Tryd.prog.cellsOf 3)) = xs[3]? := hf 3 _ rfl
    have g4 : DataW.trod enc Tryd.prog w base spare held k 3 (([v0, v1, v2, v3, v4].drop 4).take (Tryd.prog.cellsOf 3)) = xs[4]? := hf 4 _ rfl
    simp only [cells3] at g0 g1 g2 g3 g4
    match xs, hxl with
    | [y0, y1, y2, y3, y4], _ =>
      obtain ⟨n0, rfl⟩ := one_int (show DataW.trod enc Tryd.prog w base spare held k 3 [v0] = some y0 from g0) rfl
      obtain ⟨n1, rfl⟩ := one_int (show DataW.trod enc Tryd.prog w base spare held k 3 [v1] = some y1 from g1) rfl
      obtain ⟨n2, rfl⟩ := one_int (show DataW.trod enc Tryd.prog w base spare held k 3 [v2] = some y2 from g2) rfl
      obtain ⟨n3, rfl⟩ := one_int (show DataW.trod enc Tryd.prog w base spare held k 3 [v3] = some y3 from g3) rfl
      obtain ⟨n4, rfl⟩ := one_int (show DataW.trod enc Tryd.prog w base spare held k 3 [v4] = some y4 from g4) rfl
      exact ⟨⟨n0, n1, n2, n3, n4⟩, rfl⟩
theorem open_proc {fuel : Nat} {cs : List Value} {x : DataW H × List MemPlace} (h : DataW.trod enc Tryd.prog w base spare held fuel 46 cs = some x) : ∃ p : PM.Pr, cs = p.row.toList := by
  obtain ⟨xs, k, hk, hxy, hcl, hxl, hf⟩ := DataW.trod_struct Tryd.underlying46 h
  rw [cellsP13] at hcl
  match cs, hcl with
  | [v0, v1, v2, v3, v4, v5, v6, v7, v8, v9, v10, v11, v12], _ =>
    have g0 : DataW.trod enc Tryd.prog w base spare held k 42 (([v0, v1, v2, v3, v4, v5, v6, v7, v8, v9, v10, v11, v12].drop 0).take (Tryd.prog.cellsOf 42)) = xs[0]? := hf 0 _ rfl
    have g1 : DataW.trod enc Tryd.prog w base spare held k 3 (([v0, v1, v2, v3, v4, v5, v6, v7, v8, v9, v10, v11, v12].drop 8).take (Tryd.prog.cellsOf 3)) = xs[1]? := hf 1 _ rfl
    have g2 : DataW.trod enc Tryd.prog w base spare held k 3 (([v0, v1, v2, v3, v4, v5, v6, v7, v8, v9, v10, v11, v12].drop 9).take (Tryd.prog.cellsOf 3)) = xs[2]? := hf 2 _ rfl
    have g3 : DataW.trod enc Tryd.prog w base spare held k 3 (([v0, v1, v2, v3, v4, v5, v6, v7, v8, v9, v10, v11, v12].drop 10).take (Tryd.prog.cellsOf 3)) = xs[3]? := hf 3 _ rfl
    have g4 : DataW.trod enc Tryd.prog w base spare held k 44 (([v0, v1, v2, v3, v4, v5, v6, v7, v8, v9, v10, v11, v12].drop 11).take (Tryd.prog.cellsOf 44)) = xs[4]? := hf 4 _ rfl
    simp only [cells3, cellsR8, cellsF2] at g0 g1 g2 g3 g4
    match xs, hxl with
    | [y0, y1, y2, y3, y4], _ =>
      obtain ⟨n8, rfl⟩ := one_int (show DataW.trod enc Tryd.prog w base spare held k 3 [v8] = some y1 from g1) rfl
      obtain ⟨n9, rfl⟩ := one_int (show DataW.trod enc Tryd.prog w base spare held k 3 [v9] = some y2 from g2) rfl
      obtain ⟨n10, rfl⟩ := one_int (show DataW.trod enc Tryd.prog w base spare held k 3 [v10] = some y3 from g3) rfl
      have t0 : DataW.trod enc Tryd.prog w base spare held k 42 [v0, v1, v2, v3, v4, v5, v6, v7] = some y0 := g0
      have t4 : DataW.trod enc Tryd.prog w base spare held k 44 [v11, v12] = some y4 := g4
      obtain ⟨az, ka, _, _, _, hal, ha⟩ := DataW.trod_array Tryd.underlying42 t0
      obtain ⟨fs, kf, _, _, _, hfl, hff⟩ := DataW.trod_struct Tryd.underlying44 t4
      have f0 : DataW.trod enc Tryd.prog w base spare held kf 3 (([v11, v12].drop 0).take (Tryd.prog.cellsOf 3)) = fs[0]? := hff 0 _ rfl
      have f1 : DataW.trod enc Tryd.prog w base spare held kf 3 (([v11, v12].drop 1).take (Tryd.prog.cellsOf 3)) = fs[1]? := hff 1 _ rfl
      simp only [cells3] at f0 f1 ha
      match fs, hfl with
      | [q0, q1], _ =>
        obtain ⟨n11, rfl⟩ := one_int (show DataW.trod enc Tryd.prog w base spare held kf 3 [v11] = some q0 from f0) rfl
        obtain ⟨n12, rfl⟩ := one_int (show DataW.trod enc Tryd.prog w base spare held kf 3 [v12] = some q1 from f1) rfl
        match az, hal with
        | [a0, a1, a2, a3, a4, a5, a6, a7], _ =>
          obtain ⟨n0, rfl⟩ := one_int (show DataW.trod enc Tryd.prog w base spare held ka 3 [v0] = some a0 from ha 0 (by omega)) rfl
          obtain ⟨n1, rfl⟩ := one_int (show DataW.trod enc Tryd.prog w base spare held ka 3 [v1] = some a1 from ha 1 (by omega)) rfl
          obtain ⟨n2, rfl⟩ := one_int (show DataW.trod enc Tryd.prog w base spare held ka 3 [v2] = some a2 from ha 2 (by omega)) rfl
          obtain ⟨n3, rfl⟩ := one_int (show DataW.trod enc Tryd.prog w base spare held ka 3 [v3] = some a3 from ha 3 (by omega)) rfl
          obtain ⟨n4, rfl⟩ := one_int (show DataW.trod enc Tryd.prog w base spare held ka 3 [v4] = some a4 from ha 4 (by omega)) rfl
          obtain ⟨n5, rfl⟩ := one_int (show DataW.trod enc Tryd.prog w base spare held ka 3 [v5] = some a5 from ha 5 (by omega)) rfl
          obtain ⟨n6, rfl⟩ := one_int (show DataW.trod enc Tryd.prog w base spare held ka 3 [v6] = some a6 from ha 6 (by omega)) rfl
          obtain ⟨n7, rfl⟩ := one_int (show DataW.trod enc Tryd.prog w base spare held ka 3 [v7] = some a7 from ha 7 (by omega)) rfl
          exact ⟨⟨fun j => match j with | 0 => n0 | 1 => n1 | 2 => n2 | 3 => n3 | 4 => n4 | 5 => n5 | 6 => n6 | _ => n7, n8, n9, n10, n11, n12⟩, rfl⟩
end
end Go.Proofs.YtklobjfhjlkgfaaDoor.PW
