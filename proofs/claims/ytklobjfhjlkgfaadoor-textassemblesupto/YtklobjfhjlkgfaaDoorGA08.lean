import Derived.Test.YtklobjfhjlkgfaaDoorGA07
import Derived.Deep.CutBlock
import Derived.Deep.DeepCutAuto
import Derived.Deep.RegionLaw
import Derived.Test.YtklobjfhjlkgfaaDoorGA01
/- The program's guess: its walk. -/
namespace Go.Proofs.YtklobjfhjlkgfaaDoor.TW
open Go.RowKit
set_option linter.unusedVariables false
set_option maxRecDepth 100000
set_option linter.unusedSimpArgs false

theorem set4_block {w : World} {b : Nat} {t : TypeId} {v0 v1 v2 v3 : Value} (h : w.heap[b]? = some (.cells #[v0, v1, v2, v3] t (0, 0))) (u0 u1 u2 u3 : Value) : ((((w.setCell ⟨b, 0, none⟩ u0).setCell ⟨b, 1, none⟩ u1).setCell ⟨b, 2, none⟩ u2).setCell ⟨b, 3, none⟩ u3).heap[b]? = some (.cells #[u0, u1, u2, u3] t (0, 0)) :=
  B.set (B.set (B.set (B.set h 0 u0) 1 u1) 2 u2) 3 u3
theorem set4_below {N g : Nat} {w W : World} (h : Below N w W) (hg : N ≤ g) (v0 v1 v2 v3 : Value) : Below N w ((((W.setCell ⟨g, 0, none⟩ v0).setCell ⟨g, 1, none⟩ v1).setCell ⟨g, 2, none⟩ v2).setCell ⟨g, 3, none⟩ v3) :=
  (((h.setCell hg _).setCell hg _).setCell hg _).setCell hg _
set_option maxHeartbeats 8000000 in
theorem guess_any (s : ByteArray) (w : World) (tb o cap : Nat) (hl : Lay tb o cap w) (hs : s.size < 4294967281) : Calls Tryd.prog 28 #[.string s] w fun e w' => e = .returned (.tuple #[.agg (outG (guessN s)).1.cells, .bool (outG (guessN s)).2]) ∧ Below w.heap.size w w' := by
  have HL := hideC hl
  have HSP := hideC (fun V (h : Lay tb o cap V) => split_any s V tb o cap h hs)
  have HG : Hid (guessN s = if lookB (wordAt s 0) = true ∧ (splitW s).length = (lookR (wordAt s 0)).parts.size + 1 then guessTo (lookR (wordAt s 0)) s (lookR (wordAt s 0)).parts.size else none) := rfl
  have hwl := splitW_pos s
  have hwl7 := splitW_le s
  have HWS := hideC (wordAt_size s)
  obtain ⟨G, hG⟩ : ∃ G, G = guessN s := ⟨_, rfl⟩
  rw [← hG] at HG ⊢
  obtain ⟨nw, hnw⟩ : ∃ nw, nw = (splitW s).length := ⟨_, rfl⟩
  rw [← hnw] at HSP HG hwl hwl7
  obtain ⟨rk, hrk⟩ := look_in (wordAt s 0)
  have hrp := row_size rk
  have hra := row_ascii rk
  rw [← hrk] at hrp hra
  have HLK : Hid (∀ (W : World) (b : Nat), W.ownsMap Tryd.prog 9 rowRd b 22 (mapTo 22) → (Instr.lookup 85 (.map (some b)) (.string (wordAt s 0)) true).run Tryd.prog W = .ok (.tuple #[.agg #[.string (lookR (wordAt s 0)).name, .int .i64 (lookR (wordAt s 0)).op, .int .i64 (lookR (wordAt s 0)).call, .string (lookR (wordAt s 0)).parts], .bool (lookB (wordAt s 0))]) W) := fun W b hW => look_any hW (wordAt s 0) (by have := HWS.out 0; unfold maxLen; omega)
  obtain ⟨r, hr⟩ : ∃ r, r = lookR (wordAt s 0) := ⟨_, rfl⟩
  obtain ⟨lb, hlb⟩ : ∃ lb, lb = lookB (wordAt s 0) := ⟨_, rfl⟩
  rw [← hr, ← hlb] at HLK HG
  rw [← hr] at hrp hra
  clear hr hlb hrk hG hnw hl
  have HRA := hideC hra
  clear hra
  have HB0 := hideC ((Below.refl w.heap.size w).alloc (Nat.le_refl _) (.cells #[.int .i64 0, .int .i64 0, .int .i64 0, .int .i64 0, .int .i64 0] 23))
  have X0 := hideC (B.new w #[.int .i64 0, .int .i64 0, .int .i64 0, .int .i64 0, .int .i64 0] 23)
  go_enter Tryd.func28, Tryd.ntmps28
  go_wp2_with fail
  refine (HSP.out _ (HL.out.below HB0.out)).mono ?_
  rintro e w1 ⟨wb, wcp, rfl, hcs, hwb, hb1⟩
  have HCS := hideC hcs
  have X1 := hideC (B.below X0.out hb1 (B.isLt X0.out))
  have HB1 := hideC (add_below HB0.out hb1)
  have HL1 := hideC (HL.out.below HB1.out)
  clear hcs hb1 X0 HB0 HSP
  go_wp2_with fail
  have c0 := HCS.out 0 (by omega)
  have HRW : Hid (∀ V, Below w1.heap.size w1 V → Calls Tryd.prog 46 #[] V fun e w' => ∃ b, e = .returned (.map (some b)) ∧ w'.ownsMap Tryd.prog 9 rowRd b 22 (mapTo 22) ∧ Below V.heap.size V w') := fun V hV => rows_any V tb o cap (HL1.out.tab.below hV)
  have HC0 : Hid (∀ V, Below w1.heap.size w1 V → V.cell? ⟨wb, 0, none⟩ = some (.string (wordAt s 0))) := fun V hV => (hV.cell (p := ⟨wb, 0, none⟩) hwb).trans c0
  obtain ⟨W0, hW0⟩ : ∃ W0, W0 = wordAt s 0 := ⟨_, rfl⟩
  rw [← hW0] at HLK c0 HC0
  clear hW0
  have HK0 := hideC (Below.refl w1.heap.size w1).drew
  have HZ0 := hideC (show Below w1.heap.size w1 (w1.alloc (.cells #[.string ⟨#[]⟩, .int .i64 0, .int .i64 0, .string ⟨#[]⟩] 48)).drew from ((Below.refl w1.heap.size w1).alloc (Nat.le_refl _) _).drew)
  have hnw0 : (0 : Int) < (nw : Int) := by omega
  have hnw1 : 0 < nw := by omega
  go_cut [5, 6] (fun x5 x6 wx => ∃ b : Nat, x5 = .pointer (some ⟨b, 0, none⟩) ∧ x6 = .bool lb ∧ wx.heap[b]? = some (.cells #[.string r.name, .int .i64 r.op, .int .i64 r.call, .string r.parts] 48 (0, 0)) ∧ Below w1.heap.size w1 wx)
  case first =>
    go_region_law (go_simp; go_at_call 46; refine (HRW.out _ (by first | exact HK0.out | exact HZ0.out)).mono ?_; rintro e w4 ⟨b4, rfl, hown4, hb4⟩; have HK4 : Hid (Below w1.heap.size w1 w4) := (by first | exact HK0.out.trans hb4 | exact HZ0.out.trans (hb4.mono HZ0.out.size)); (try (have HY := hideC (B.below (w := (w1.alloc (.cells #[.string ⟨#[]⟩, .int .i64 0, .int .i64 0, .string ⟨#[]⟩] 48)).drew) (B.new w1 #[.string ⟨#[]⟩, .int .i64 0, .int .i64 0, .string ⟨#[]⟩] 48) hb4 (by simp)); have z0 := B.cell (v := .string ⟨#[]⟩) HY.out 0 rfl; have z1 := B.cell (v := .int .i64 0) HY.out 1 rfl; have z2 := B.cell (v := .int .i64 0) HY.out 2 rfl; have z3 := B.cell (v := .string ⟨#[]⟩) HY.out 3 rfl; have zf : ∀ k, w4.frozen? ⟨w1.heap.size, k, none⟩ = false := fun k => B.free HY.out k)); have d0 := HC0.out w4 HK4.out; have d1 : wb < w4.heap.size := Nat.lt_of_lt_of_le hwb HK4.out.size; have l1 := HLK.out w4 b4 hown4; have l2 := HLK.out _ b4 (hown4.alloc (.cells #[.string ⟨#[]⟩, .int .i64 0, .int .i64 0, .string ⟨#[]⟩] 48)); clear hown4 hb4; go_simp)
    all_goals
      go_wp2_with fail
      go_meet
      case rel => first | exact ⟨_, rfl, rfl, B.new w4 _ _, HK4.out.alloc HK4.out.size _⟩ | exact ⟨_, rfl, rfl, set4_block HY.out _ _ _ _, set4_below HK4.out (Nat.le_refl _) _ _ _ _⟩
  case rest =>
    obtain ⟨b5, rfl, rfl, hr5, hb5⟩ := hcut
    have HR5 := hideC hr5
    have HB5 := hideC hb5
    have X5 := hideC (B.below X1.out hb5 (B.isLt X1.out))
    have HL5 := hideC (HL1.out.below hb5)
    have HBW := hideC (HB1.out.trans (hb5.mono HB1.out.size))
    have hc5 : Hid (∀ (j : Nat), j < nw → wc.cell? ⟨wb, j, none⟩ = some (.string (wordAt s j))) := fun j hj => (hb5.cell (p := ⟨wb, j, none⟩) hwb).trans (HCS.out j hj)
    clear hr5 hb5 c0 HC0 HK0 HZ0 HRW HLK hnw0
    have r0 : wc.cell? ⟨b5, 0, none⟩ = some (.string r.name) := B.cell HR5.out 0 rfl
    have r1 : wc.cell? ⟨b5, 1, none⟩ = some (.int .i64 r.op) := B.cell HR5.out 1 rfl
    have r2 : wc.cell? ⟨b5, 2, none⟩ = some (.int .i64 r.call) := B.cell HR5.out 2 rfl
    have r3 : wc.cell? ⟨b5, 3, none⟩ = some (.string r.parts) := B.cell HR5.out 3 rfl
    have hwlt := B.isLt X1.out
    by_cases hgo : lb = true ∧ nw = r.parts.size + 1
    · obtain ⟨rfl, hnp⟩ := hgo
      have HGG : Hid (G = guessTo r s r.parts.size) := by
        show _ = _
        rw [HG.out, if_pos ⟨rfl, hnp⟩]
      have hq : ((nw : Int) - 1 == (r.parts.size : Int)) = true := by rw [beq_iff_eq]; omega
      have HBL : Hid (∀ V, Calls Tryd.prog 47 #[.agg #[.string r.name, .int .i64 r.op, .int .i64 r.call, .string r.parts]] V fun e w' => e = .returned (.agg #[.int .i64 r.blank.op, .int .i64 r.blank.a, .int .i64 r.blank.b, .int .i64 r.blank.c, .int .i64 r.blank.m]) ∧ Below V.heap.size V w') := blank_any r
      have HG0 : Hid (guessTo r s 0 = some r.blank) := rfl
      obtain ⟨bl, hbl⟩ : ∃ bl, bl = r.blank := ⟨_, rfl⟩
      rw [← hbl] at HBL HG0
      clear hbl HG
      have NP := hideC hnp
      clear hnp
      go_wp2_with (go_at_call 47; refine (HBL.out _).mono ?_; rintro e w6 ⟨rfl, hb6⟩; have HR6 := hideC (B.below HR5.out hb6 (B.isLt HR5.out)); have HB6 := hideC (HB5.out.trans (hb6.mono HB5.out.size)); clear hb6 r0 r1 r2; have q3 : w6.cell? ⟨b5, 3, none⟩ = some (.string r.parts) := B.cell HR6.out 3 rfl; have q4 := B.isLt HR6.out)
      have hq4 : w1.heap.size ≤ w6.heap.size := HB6.out.size
      have LT := hideC (B.alloc (B.new w6 bl.cells 23) (.stringIter r.parts 0))
      have LB := hideC ((HB6.out.alloc (by omega) (.cells bl.cells 23)).alloc (by simp; omega) (.stringIter r.parts 0))
      have LI : Hid (((w6.alloc (.cells bl.cells 23)).alloc (.stringIter r.parts 0)).heap[w6.heap.size + 1]? = some (.stringIter r.parts 0)) := by
        have := World.iter_heap (w6.alloc (.cells bl.cells 23)) r.parts 0
        rw [show (w6.alloc (.cells bl.cells 23)).heap.size = w6.heap.size + 1 by simp] at this
        exact this
      clear r3 q3
      go_loopw [8] (fun _ wr => ∃ (pos : Nat) (i : PM.Ins), pos ≤ r.parts.size ∧ guessTo r s pos = some i ∧ wr.heap[w6.heap.size]? = some (.cells i.cells 23 (0, 0)) ∧ wr.heap[w6.heap.size + 1]? = some (.stringIter r.parts pos) ∧ Below w1.heap.size w1 wr) (fun _ wr => r.parts.size - wr.iterPos (w6.heap.size + 1))
      case atStart => exact ⟨0, bl, by omega, HG0.out, LT.out, LI.out, LB.out⟩
      case round =>
        obtain ⟨pos, i, hpos, hgt, ht, hi, hb⟩ := hrel
        have HGT := hideC hgt
        have HHT := hideC ht
        have HHI := hideC hi
        have HHB := hideC hb
        clear hgt ht hb LT LB LI HG0 HBL
        have HX : Hid (wr.heap[w.heap.size]? = some (.cells #[.int .i64 0, .int .i64 0, .int .i64 0, .int .i64 0, .int .i64 0] 23 (0, 0))) := B.below X1.out HHB.out hwlt
        have HWB := hideC (HB1.out.trans (HHB.out.mono HB1.out.size))
        by_cases hp : pos < r.parts.size
        · have hnx : ∀ ty, (Instr.next (.pointer (some ⟨w6.heap.size + 1, 0, none⟩)) true ty).run Tryd.prog wr = .ok (.tuple #[.bool true, .int .i64 pos, .int .i32 (letAt r.parts pos)]) (wr.iterAt (w6.heap.size + 1) r.parts (pos + 1)) := fun ty => by
            rw [← letAt_eq _ _ hp]
            exact Lib.run_next_ascii_at wr _ _ _ ty hi hp (HRA.out pos hp)
          obtain ⟨W2, hW2⟩ : ∃ W2, W2 = wr.iterAt (w6.heap.size + 1) r.parts (pos + 1) := ⟨_, rfl⟩
          have GX : Hid (W2.heap[w.heap.size]? = some (.cells #[.int .i64 0, .int .i64 0, .int .i64 0, .int .i64 0, .int .i64 0] 23 (0, 0))) := by rw [hW2]; exact (Lib.iterAt_other _ _ _ _ _ (by omega)).trans HX.out
          have GT : Hid (W2.heap[w6.heap.size]? = some (.cells i.cells 23 (0, 0))) := by rw [hW2]; exact (Lib.iterAt_other _ _ _ _ _ (by omega)).trans HHT.out
          have GI : Hid (W2.heap[w6.heap.size + 1]? = some (.stringIter r.parts (pos + 1))) := by rw [hW2]; exact Lib.iterAt_heap _ _ _ _ _ HHI.out
          have GB : Hid (Below w1.heap.size w1 W2) := by rw [hW2]; exact iter_below HHB.out (by omega) _ _
          rw [← hW2] at hnx
          clear hW2 hi
          have hpn : 1 + pos < nw := by have := NP.out; omega
          have hpI : (1 + (pos : Int)) < (nw : Int) := by omega
          have hpN : (1 + (pos : Int)).toNat = 1 + pos := by omega
          have a0 : W2.cell? ⟨wb, 1 + pos, none⟩ = some (.string (wordAt s (1 + pos))) := (GB.out.cell (p := ⟨wb, 1 + pos, none⟩) hwb).trans (HCS.out (1 + pos) hpn)
          have HST : Hid (guessTo r s (pos + 1) = match Lib.atoiAll (wordAt s (1 + pos)).data.toList with | .ok v => some (setL i (letIx (letAt r.parts pos)) v) | _ => none) := by
            show _ = _
            rw [guessTo, HGT.out]
            rfl
          have hws : (wordAt s (1 + pos)).size ≤ 4294967281 := by have := HWS.out (1 + pos); omega
          have HAO := hideC (fun v h => atoi_ok (wordAt s (1 + pos)) v W2 h hws)
          have HAN := hideC (fun h => atoi_no (wordAt s (1 + pos)) W2 tb o cap (HL1.out.below GB.out) h hws)
          have hL5 := letIx_lt (letAt r.parts pos)
          have FD := hideC (fun b => field_any b (letAt r.parts pos))
          obtain ⟨wd, hwd⟩ : ∃ wd, wd = wordAt s (1 + pos) := ⟨_, rfl⟩
          rw [← hwd] at a0 HST HAO HAN
          clear hwd hws
          obtain ⟨c, hc⟩ : ∃ c, c = letAt r.parts pos := ⟨_, rfl⟩
          rw [← hc] at hnx HST hL5 FD
          clear hc
          obtain ⟨L, hL⟩ : ∃ L, L = letIx c := ⟨_, rfl⟩
          rw [← hL] at HST hL5 FD
          clear hL
          by_cases hok : ∃ v, Lib.atoiAll wd.data.toList = .ok v
          · obtain ⟨v, hv⟩ := hok
            have HS2 : Hid (guessTo r s (pos + 1) = some (setL i L v)) := by show _ = _; rw [HST.out, hv]
            have HAT := hideC (HAO.out v hv)
            clear hv HAO HAN HST
            go_wp2_with (first
              | (go_at_call 48; refine HAT.out.mono ?_; rintro e w7 ⟨rfl, hb7⟩; have Q0 := hideC (B.below GT.out hb7 (B.isLt GT.out)); have QI := hideC (B.below GI.out hb7 (B.isLt GI.out)); have QB := hideC (GB.out.trans (hb7.mono GB.out.size)); clear hb7; have k0 : w7.cell? ⟨w6.heap.size, L, none⟩ = some (.int .i64 (getL i L)) := B.cell Q0.out L (cells_get i L hL5); have k1 : w7.frozen? ⟨w6.heap.size, L, none⟩ = false := B.free Q0.out L)
              | (go_at_call 20; refine (FD.out _ _).mono ?_; rintro e w' ⟨rfl, rfl⟩))
            go_roundw
            case rel => exact ⟨pos + 1, setL i L v, by omega, HS2.out, by rw [← cells_set _ _ hL5]; exact B.set Q0.out L _, B.other QI.out _ _ _ (by omega), QB.out.setCell (by show w1.heap.size ≤ w6.heap.size; omega) _⟩
            case measure =>
              rw [iterPos_of (B.other QI.out _ _ _ (by omega)), iterPos_of HHI.out]
              omega
          · have HS2 : Hid (guessTo r s (pos + 1) = none) := by
              show _ = _
              rw [HST.out]
              split
              · rename_i v hv; exact (hok ⟨v, hv⟩).elim
              · rfl
            have HGN : Hid (G = none) := by show _ = _; rw [HGG.out]; exact guessTo_none HS2.out _ (by omega)
            have HAT := hideC (HAN.out (fun v hv => hok ⟨v, hv⟩))
            clear hok HAO HAN HST
            go_wp2_with (go_at_call 48; refine HAT.out.mono ?_; rintro e w7 ⟨v, N, rfl, hb7⟩; have Q0 := hideC (B.below GX.out hb7 (B.isLt GX.out)); have QB := hideC (HB1.out.trans ((GB.out.trans (hb7.mono GB.out.size)).mono HB1.out.size)); clear hb7; have x0 : w7.cell? ⟨w.heap.size, 0, none⟩ = some (.int .i64 0) := B.cell Q0.out 0 rfl; have x1 : w7.cell? ⟨w.heap.size, 1, none⟩ = some (.int .i64 0) := B.cell Q0.out 1 rfl; have x2 : w7.cell? ⟨w.heap.size, 2, none⟩ = some (.int .i64 0) := B.cell Q0.out 2 rfl; have x3 : w7.cell? ⟨w.heap.size, 3, none⟩ = some (.int .i64 0) := B.cell Q0.out 3 rfl; have x4 : w7.cell? ⟨w.heap.size, 4, none⟩ = some (.int .i64 0) := B.cell Q0.out 4 rfl; have f0 : ∀ k, w7.frozen? ⟨w.heap.size, k, none⟩ = false := fun k => B.free Q0.out k)
            exact bodyPost_ret (v := .tuple #[.agg #[.int .i64 0, .int .i64 0, .int .i64 0, .int .i64 0, .int .i64 0], .bool false]) (by simp [results, Tryd.results28, go_sem, x0, x1, x2, x3, x4]) rfl ⟨by rw [HGN.out]; rfl, PW.set5_below QB.out (Nat.le_refl _) _ _ _ _ _⟩
        · obtain rfl : pos = r.parts.size := by omega
          have hnx : ∀ ty, (Instr.next (.pointer (some ⟨w6.heap.size + 1, 0, none⟩)) true ty).run Tryd.prog wr = .ok (.tuple #[.bool false]) wr := fun ty => Lib.run_next_end_at wr _ _ _ ty hi hp
          have HGI : Hid (G = some i) := by show _ = _; rw [HGG.out]; exact HGT.out
          clear hi
          have a0 : wr.cell? ⟨w6.heap.size, 0, none⟩ = some (.int .i64 i.op) := B.cell HHT.out 0 rfl
          have a1 : wr.cell? ⟨w6.heap.size, 1, none⟩ = some (.int .i64 i.a) := B.cell HHT.out 1 rfl
          have a2 : wr.cell? ⟨w6.heap.size, 2, none⟩ = some (.int .i64 i.b) := B.cell HHT.out 2 rfl
          have a3 : wr.cell? ⟨w6.heap.size, 3, none⟩ = some (.int .i64 i.c) := B.cell HHT.out 3 rfl
          have a4 : wr.cell? ⟨w6.heap.size, 4, none⟩ = some (.int .i64 i.m) := B.cell HHT.out 4 rfl
          have x0 : wr.cell? ⟨w.heap.size, 0, none⟩ = some (.int .i64 0) := B.cell HX.out 0 rfl
          have x1 : wr.cell? ⟨w.heap.size, 1, none⟩ = some (.int .i64 0) := B.cell HX.out 1 rfl
          have x2 : wr.cell? ⟨w.heap.size, 2, none⟩ = some (.int .i64 0) := B.cell HX.out 2 rfl
          have x3 : wr.cell? ⟨w.heap.size, 3, none⟩ = some (.int .i64 0) := B.cell HX.out 3 rfl
          have x4 : wr.cell? ⟨w.heap.size, 4, none⟩ = some (.int .i64 0) := B.cell HX.out 4 rfl
          have f0 : ∀ k, wr.frozen? ⟨w.heap.size, k, none⟩ = false := fun k => B.free HX.out k
          have hne : ¬ w.heap.size = w6.heap.size := by omega
          go_wp2
          exact bodyPost_ret (v := .tuple #[.agg #[.int .i64 i.op, .int .i64 i.a, .int .i64 i.b, .int .i64 i.c, .int .i64 i.m], .bool true]) (by simp [results, Tryd.results28, go_sem, x0, x1, x2, x3, x4]) rfl ⟨by rw [HGI.out]; rfl, PW.set5_below HWB.out (Nat.le_refl _) _ _ _ _ _⟩
    · have HGG : Hid (G = none) := by
        show _ = _
        rw [HG.out, if_neg hgo]
      have x0 : wc.cell? ⟨w.heap.size, 0, none⟩ = some (.int .i64 0) := B.cell X5.out 0 rfl
      have x1 : wc.cell? ⟨w.heap.size, 1, none⟩ = some (.int .i64 0) := B.cell X5.out 1 rfl
      have x2 : wc.cell? ⟨w.heap.size, 2, none⟩ = some (.int .i64 0) := B.cell X5.out 2 rfl
      have x3 : wc.cell? ⟨w.heap.size, 3, none⟩ = some (.int .i64 0) := B.cell X5.out 3 rfl
      have x4 : wc.cell? ⟨w.heap.size, 4, none⟩ = some (.int .i64 0) := B.cell X5.out 4 rfl
      have f0 : ∀ k, wc.frozen? ⟨w.heap.size, k, none⟩ = false := fun k => B.free X5.out k
      cases lb with
      | false =>
        clear hgo HG
        go_wp2
        exact bodyPost_ret (v := .tuple #[.agg #[.int .i64 0, .int .i64 0, .int .i64 0, .int .i64 0, .int .i64 0], .bool false]) (by simp [results, Tryd.results28, go_sem, x0, x1, x2, x3, x4]) rfl ⟨by rw [HGG.out]; rfl, PW.set5_below HBW.out (Nat.le_refl _) _ _ _ _ _⟩
      | true =>
        have hq : ((nw : Int) - 1 == (r.parts.size : Int)) = false := by
          rw [beq_eq_false_iff_ne]
          intro e
          exact hgo ⟨rfl, by omega⟩
        clear hgo HG
        go_wp2
        exact bodyPost_ret (v := .tuple #[.agg #[.int .i64 0, .int .i64 0, .int .i64 0, .int .i64 0, .int .i64 0], .bool false]) (by simp [results, Tryd.results28, go_sem, x0, x1, x2, x3, x4]) rfl ⟨by rw [HGG.out]; rfl, PW.set5_below HBW.out (Nat.le_refl _) _ _ _ _ _⟩
end Go.Proofs.YtklobjfhjlkgfaaDoor.TW
/- The reference's place: of a word in a list. -/
namespace Go.Proofs.YtklobjfhjlkgfaaDoor.TW
open Go.RowKit
set_option linter.unusedVariables false
set_option maxRecDepth 100000
set_option linter.unusedSimpArgs false

theorem str_eqT (a b : ByteArray) : (a.toList == b.toList) = decide (a = b) := by
  have key : a.toList = b.toList ↔ a = b := by
    constructor
    · intro h
      apply ByteArray.ext
      rw [ByteArray.toList_eq, ByteArray.toList_eq] at h
      exact Array.toList_inj.1 (by simpa using h)
    · intro h; rw [h]
  by_cases h : a = b
  · rw [decide_eq_true h]; simpa using key.2 h
  · rw [decide_eq_false h]
    have : ¬ a.toList = b.toList := fun g => h (key.1 g)
    simpa using this
/-- the place of the word among the places from k on, fuel n -/
def placeFrom (w : ByteArray) (l : List ByteArray) : Nat → Nat → Int
  | 0, _ => 0
  | n + 1, k => if l.getD k (str []) = w ∧ w ≠ str [] then (k : Int) else placeFrom w l n (k + 1)
def placeN (w : ByteArray) (l : List ByteArray) : Int := placeFrom w l (l.length - 1) 1
set_option maxHeartbeats 1000000 in
theorem place_any (wd : ByteArray) (l : List ByteArray) (b off cap : Nat) (w : World) (h : ∀ k, k < l.length → w.cell? ⟨b, off + k, none⟩ = some (.string (l.getD k (str [])))) (hl : l.length ≤ 1000) :
    Calls Tryd.prog 50 #[.string wd, .slice (some ⟨b, off, none⟩) l.length cap] w fun e w' => e = .returned (.int .i64 (placeN wd l)) ∧ w = w' := by
  have HC := hideC h
  clear h
  obtain ⟨R, hR⟩ : ∃ R, R = placeN wd l := ⟨_, rfl⟩
  have HR : Hid (placeFrom wd l (l.length - 1) 1 = R) := hR.symm
  rw [← hR]
  clear hR
  go_enter Tryd.func50, Tryd.ntmps50
  go_wp2
  go_loop [5] (fun i => ∃ k : Nat, 1 ≤ k ∧ i = .int .i64 k ∧ (k ≤ l.length ∨ k = 1) ∧ placeFrom wd l (l.length - k) k = R) (fun i => l.length - (intOf i).toNat)
  case atStart => exact ⟨1, by omega, rfl, .inr rfl, HR.out⟩
  case round =>
    obtain ⟨k, hk1, rfl, hk, hrr⟩ := hrel
    have HRR := hideC hrr
    clear hrr
    by_cases hlt : k < l.length
    · obtain ⟨n, hn⟩ : ∃ n, l.length - k = n + 1 := ⟨l.length - k - 1, by omega⟩
      have HST : Hid ((if l.getD k (str []) = wd ∧ wd ≠ str [] then (k : Int) else placeFrom wd l n (k + 1)) = R) := by
        have hh := HRR.out
        rw [hn] at hh
        exact hh
      have hn2 : l.length - (k + 1) = n := by omega
      have c0 := HC.out k hlt
      obtain ⟨x, hx⟩ : ∃ x, x = l.getD k (str []) := ⟨_, rfl⟩
      rw [← hx] at c0 HST
      clear hx HRR hn
      have hki : (k : Int) < (l.length : Int) := by omega
      by_cases hxw : x = wd
      · have hq : (x.toList == wd.toList) = true := (str_eqT _ _).trans (decide_eq_true hxw)
        by_cases he : wd = str []
        · have HE := HST.out
          rw [if_neg (fun g => g.2 he)] at HE
          have HX := hideC HE
          have hq2 : wd.toList.isEmpty = true := by rw [he, ByteArray.toList_eq]; rfl
          clear HE HST hxw he
          go_wp2
          go_round
          case rel => exact ⟨k + 1, by omega, by go_num, by omega, by rw [hn2]; exact HX.out⟩
          case measure => simp [intOf]; omega
        · have HE := HST.out
          rw [if_pos ⟨hxw, he⟩] at HE
          have hq2 : wd.toList.isEmpty = false := by
            cases e : wd.toList with
            | nil => exact (he (by apply ByteArray.ext; have e2 := e; rw [ByteArray.toList_eq] at e2; exact Array.toList_inj.1 (by simpa [str] using e2))).elim
            | cons x r => rfl
          obtain rfl := HE
          clear HST hxw he
          go_wp2
          go_ret
          exact ⟨rfl, rfl⟩
      · have hq : (x.toList == wd.toList) = false := (str_eqT _ _).trans (decide_eq_false hxw)
        have HE := HST.out
        rw [if_neg (fun g => hxw g.1)] at HE
        have HX := hideC HE
        clear HE HST hxw
        go_wp2
        go_round
        case rel => exact ⟨k + 1, by omega, by go_num, by omega, by rw [hn2]; exact HX.out⟩
        case measure => simp [intOf]; omega
    · have hz : l.length - k = 0 := by omega
      have HE := HRR.out
      rw [hz] at HE
      obtain rfl : (0 : Int) = R := HE
      go_wp2
      go_ret
      exact ⟨rfl, rfl⟩
end Go.Proofs.YtklobjfhjlkgfaaDoor.TW
/- The program's Read: the instruction that is shown so. -/
namespace Go.Proofs.YtklobjfhjlkgfaaDoor.TW
open Go.RowKit
set_option linter.unusedVariables false
set_option maxRecDepth 100000
set_option linter.unusedSimpArgs false

/-- what Read answers -/
def readN (s : ByteArray) : Option PM.Ins := match guessN s with
  | none => none
  | some i => if i.fits ∧ showN i = s then some i else none
/-- as two values -/
def outR : Option PM.Ins → PM.Ins × Int
  | none => (zeroI, 1)
  | some i => (i, 0)
theorem show_any (i : PM.Ins) (w : World) (tb o cap : Nat) (hl : Lay tb o cap w) : Calls Tryd.prog 6 #[.agg i.cells] w fun e w' => e = .returned (.tuple #[.string (if i.fits then showN i else ⟨#[]⟩), .int .i64 (if i.fits then 0 else 3)]) ∧ Below w.heap.size w w' := by
  by_cases h : i.fits
  · rw [if_pos h, if_pos h]; exact show_yes i w tb o cap hl h
  · rw [if_neg h, if_neg h]; exact show_no i w h
set_option maxHeartbeats 4000000 in
theorem read_any (s : ByteArray) (w : World) (tb o cap : Nat) (hl : Lay tb o cap w) (hs : s.size < 4294967281) : Calls Tryd.prog 9 #[.string s] w fun e w' => e = .returned (.tuple #[.agg (outR (readN s)).1.cells, .int .i64 (outR (readN s)).2]) ∧ Below w.heap.size w w' := by
  have HL := hideC hl
  have HGS := hideC (fun V (h : Lay tb o cap V) => guess_any s V tb o cap h hs)
  have HR : Hid (readN s = match guessN s with | none => none | some i => if i.fits ∧ showN i = s then some i else none) := rfl
  obtain ⟨R, hR⟩ : ∃ R, R = readN s := ⟨_, rfl⟩
  rw [← hR] at HR ⊢
  obtain ⟨G, hG⟩ : ∃ G, G = guessN s := ⟨_, rfl⟩
  rw [← hG] at HR HGS
  clear hR hG hl
  have HB0 := hideC ((Below.refl w.heap.size w).alloc (Nat.le_refl _) (.cells #[.int .i64 0, .int .i64 0, .int .i64 0, .int .i64 0, .int .i64 0] 23))
  have X0 := hideC (B.new w #[.int .i64 0, .int .i64 0, .int .i64 0, .int .i64 0, .int .i64 0] 23)
  cases G with
  | none =>
    have HRN : Hid (R = none) := HR.out
    have HGS2 : Hid (∀ V, Lay tb o cap V → Calls Tryd.prog 28 #[.string s] V fun e w' => e = .returned (.tuple #[.agg #[.int .i64 0, .int .i64 0, .int .i64 0, .int .i64 0, .int .i64 0], .bool false]) ∧ Below V.heap.size V w') := HGS.out
    clear HGS HR
    go_enter Tryd.func9, Tryd.ntmps9
    go_wp2_with (go_at_call 28; refine (HGS2.out _ (HL.out.below HB0.out)).mono ?_; rintro e w1 ⟨rfl, hb1⟩; have X1 := hideC (B.below X0.out hb1 (B.isLt X0.out)); have HB1 := hideC (add_below HB0.out hb1); clear hb1; have x0 : w1.cell? ⟨w.heap.size, 0, none⟩ = some (.int .i64 0) := B.cell X1.out 0 rfl; have x1 : w1.cell? ⟨w.heap.size, 1, none⟩ = some (.int .i64 0) := B.cell X1.out 1 rfl; have x2 : w1.cell? ⟨w.heap.size, 2, none⟩ = some (.int .i64 0) := B.cell X1.out 2 rfl; have x3 : w1.cell? ⟨w.heap.size, 3, none⟩ = some (.int .i64 0) := B.cell X1.out 3 rfl; have x4 : w1.cell? ⟨w.heap.size, 4, none⟩ = some (.int .i64 0) := B.cell X1.out 4 rfl; have f0 : ∀ k, w1.frozen? ⟨w.heap.size, k, none⟩ = false := fun k => B.free X1.out k; have hlt := B.isLt X1.out)
    exact bodyPost_ret (v := .tuple #[.agg #[.int .i64 0, .int .i64 0, .int .i64 0, .int .i64 0, .int .i64 0], .int .i64 1]) (by simp [results, Tryd.results9, go_sem, x0, x1, x2, x3, x4, hlt]) rfl ⟨by rw [HRN.out]; rfl, (PW.set5_below HB1.out (Nat.le_refl _) _ _ _ _ _).alloc (by simp; omega) _⟩
  | some i =>
    have HRS : Hid (R = if i.fits ∧ showN i = s then some i else none) := HR.out
    have HGS2 : Hid (∀ V, Lay tb o cap V → Calls Tryd.prog 28 #[.string s] V fun e w' => e = .returned (.tuple #[.agg #[.int .i64 i.op, .int .i64 i.a, .int .i64 i.b, .int .i64 i.c, .int .i64 i.m], .bool true]) ∧ Below V.heap.size V w') := HGS.out
    have HSH : Hid (∀ V, Lay tb o cap V → Calls Tryd.prog 6 #[.agg #[.int .i64 i.op, .int .i64 i.a, .int .i64 i.b, .int .i64 i.c, .int .i64 i.m]] V fun e w' => e = .returned (.tuple #[.string (if i.fits then showN i else ⟨#[]⟩), .int .i64 (if i.fits then 0 else 3)]) ∧ Below V.heap.size V w') := fun V hV => show_any i V tb o cap hV
    clear HGS HR
    by_cases hf : i.fits
    · by_cases he : showN i = s
      · have HRI : Hid (R = some i) := by show _ = _; rw [HRS.out, if_pos ⟨hf, he⟩]
        have HSI : Hid (∀ V, Lay tb o cap V → Calls Tryd.prog 6 #[.agg #[.int .i64 i.op, .int .i64 i.a, .int .i64 i.b, .int .i64 i.c, .int .i64 i.m]] V fun e w' => e = .returned (.tuple #[.string s, .int .i64 0]) ∧ Below V.heap.size V w') := fun V hV => by
          have hh := HSH.out V hV
          rw [if_pos hf, if_pos hf, he] at hh
          exact hh
        have hqq : (s.toList == s.toList) = true := by simp
        clear he hf HSH HRS
        go_enter Tryd.func9, Tryd.ntmps9
        go_wp2_with (first
          | (go_at_call 28; refine (HGS2.out _ (HL.out.below HB0.out)).mono ?_; rintro e w1 ⟨rfl, hb1⟩; have X1 := hideC (B.below X0.out hb1 (B.isLt X0.out)); have HB1 := hideC (add_below HB0.out hb1); clear hb1; have hlt := B.isLt X1.out; have Y1 := hideC (B.new w1 #[.int .i64 i.op, .int .i64 i.a, .int .i64 i.b, .int .i64 i.c, .int .i64 i.m] 23))
          | (go_at_call 6; refine (HSI.out _ (HL.out.below (HB1.out.alloc HB1.out.size _))).mono ?_; rintro e w2 ⟨rfl, hb2⟩; have X2 := hideC (B.below (B.alloc X1.out _) hb2 (B.isLt (B.alloc X1.out _))); have Y2 := hideC (B.below Y1.out hb2 (B.isLt Y1.out)); have HB2 := hideC (add_below (HB1.out.alloc HB1.out.size _) hb2); clear hb2; have x0 : w2.cell? ⟨w.heap.size, 0, none⟩ = some (.int .i64 0) := B.cell X2.out 0 rfl; have x1 : w2.cell? ⟨w.heap.size, 1, none⟩ = some (.int .i64 0) := B.cell X2.out 1 rfl; have x2 : w2.cell? ⟨w.heap.size, 2, none⟩ = some (.int .i64 0) := B.cell X2.out 2 rfl; have x3 : w2.cell? ⟨w.heap.size, 3, none⟩ = some (.int .i64 0) := B.cell X2.out 3 rfl; have x4 : w2.cell? ⟨w.heap.size, 4, none⟩ = some (.int .i64 0) := B.cell X2.out 4 rfl; have f0 : ∀ k, w2.frozen? ⟨w.heap.size, k, none⟩ = false := fun k => B.free X2.out k; have y0 : w2.cell? ⟨w1.heap.size, 0, none⟩ = some (.int .i64 i.op) := B.cell Y2.out 0 rfl; have y1 : w2.cell? ⟨w1.heap.size, 1, none⟩ = some (.int .i64 i.a) := B.cell Y2.out 1 rfl; have y2 : w2.cell? ⟨w1.heap.size, 2, none⟩ = some (.int .i64 i.b) := B.cell Y2.out 2 rfl; have y3 : w2.cell? ⟨w1.heap.size, 3, none⟩ = some (.int .i64 i.c) := B.cell Y2.out 3 rfl; have y4 : w2.cell? ⟨w1.heap.size, 4, none⟩ = some (.int .i64 i.m) := B.cell Y2.out 4 rfl; have hne : ¬ w.heap.size = w1.heap.size := by omega))
        exact bodyPost_ret (v := .tuple #[.agg #[.int .i64 i.op, .int .i64 i.a, .int .i64 i.b, .int .i64 i.c, .int .i64 i.m], .int .i64 0]) (by simp [results, Tryd.results9, go_sem, x0, x1, x2, x3, x4]) rfl ⟨by rw [HRI.out]; rfl, PW.set5_below HB2.out (Nat.le_refl _) _ _ _ _ _⟩
      · have HRI : Hid (R = none) := by show _ = _; rw [HRS.out, if_neg (fun g => he g.2)]
        have hqq : ((showN i).toList == s.toList) = false := (str_eqT _ _).trans (decide_eq_false he)
        have HSI : Hid (∀ V, Lay tb o cap V → Calls Tryd.prog 6 #[.agg #[.int .i64 i.op, .int .i64 i.a, .int .i64 i.b, .int .i64 i.c, .int .i64 i.m]] V fun e w' => e = .returned (.tuple #[.string (showN i), .int .i64 0]) ∧ Below V.heap.size V w') := fun V hV => by
          have hh := HSH.out V hV
          rw [if_pos hf, if_pos hf] at hh
          exact hh
        obtain ⟨S, hS⟩ : ∃ S, S = showN i := ⟨_, rfl⟩
        rw [← hS] at HSI hqq
        clear he hf HSH HRS hS
        go_enter Tryd.func9, Tryd.ntmps9
        go_wp2_with (first
          | (go_at_call 28; refine (HGS2.out _ (HL.out.below HB0.out)).mono ?_; rintro e w1 ⟨rfl, hb1⟩; have X1 := hideC (B.below X0.out hb1 (B.isLt X0.out)); have HB1 := hideC (add_below HB0.out hb1); clear hb1; have hlt := B.isLt X1.out)
          | (go_at_call 6; refine (HSI.out _ (HL.out.below (HB1.out.alloc HB1.out.size _))).mono ?_; rintro e w2 ⟨rfl, hb2⟩; have X2 := hideC (B.below (B.alloc X1.out _) hb2 (B.isLt (B.alloc X1.out _))); have HB2 := hideC (add_below (HB1.out.alloc HB1.out.size _) hb2); clear hb2; have x0 : w2.cell? ⟨w.heap.size, 0, none⟩ = some (.int .i64 0) := B.cell X2.out 0 rfl; have x1 : w2.cell? ⟨w.heap.size, 1, none⟩ = some (.int .i64 0) := B.cell X2.out 1 rfl; have x2 : w2.cell? ⟨w.heap.size, 2, none⟩ = some (.int .i64 0) := B.cell X2.out 2 rfl; have x3 : w2.cell? ⟨w.heap.size, 3, none⟩ = some (.int .i64 0) := B.cell X2.out 3 rfl; have x4 : w2.cell? ⟨w.heap.size, 4, none⟩ = some (.int .i64 0) := B.cell X2.out 4 rfl; have f0 : ∀ k, w2.frozen? ⟨w.heap.size, k, none⟩ = false := fun k => B.free X2.out k))
        exact bodyPost_ret (v := .tuple #[.agg #[.int .i64 0, .int .i64 0, .int .i64 0, .int .i64 0, .int .i64 0], .int .i64 1]) (by simp [results, Tryd.results9, go_sem, x0, x1, x2, x3, x4]) rfl ⟨by rw [HRI.out]; rfl, PW.set5_below HB2.out (Nat.le_refl _) _ _ _ _ _⟩
    · have HRI : Hid (R = none) := by show _ = _; rw [HRS.out, if_neg (fun g => hf g.1)]
      have HSI : Hid (∀ V, Lay tb o cap V → Calls Tryd.prog 6 #[.agg #[.int .i64 i.op, .int .i64 i.a, .int .i64 i.b, .int .i64 i.c, .int .i64 i.m]] V fun e w' => e = .returned (.tuple #[.string ⟨#[]⟩, .int .i64 3]) ∧ Below V.heap.size V w') := fun V hV => by
        have hh := HSH.out V hV
        rw [if_neg hf, if_neg hf] at hh
        exact hh
      clear hf HSH HRS
      go_enter Tryd.func9, Tryd.ntmps9
      go_wp2_with (first
          | (go_at_call 28; refine (HGS2.out _ (HL.out.below HB0.out)).mono ?_; rintro e w1 ⟨rfl, hb1⟩; have X1 := hideC (B.below X0.out hb1 (B.isLt X0.out)); have HB1 := hideC (add_below HB0.out hb1); clear hb1; have hlt := B.isLt X1.out)
          | (go_at_call 6; refine (HSI.out _ (HL.out.below (HB1.out.alloc HB1.out.size _))).mono ?_; rintro e w2 ⟨rfl, hb2⟩; have X2 := hideC (B.below (B.alloc X1.out _) hb2 (B.isLt (B.alloc X1.out _))); have HB2 := hideC (add_below (HB1.out.alloc HB1.out.size _) hb2); clear hb2; have x0 : w2.cell? ⟨w.heap.size, 0, none⟩ = some (.int .i64 0) := B.cell X2.out 0 rfl; have x1 : w2.cell? ⟨w.heap.size, 1, none⟩ = some (.int .i64 0) := B.cell X2.out 1 rfl; have x2 : w2.cell? ⟨w.heap.size, 2, none⟩ = some (.int .i64 0) := B.cell X2.out 2 rfl; have x3 : w2.cell? ⟨w.heap.size, 3, none⟩ = some (.int .i64 0) := B.cell X2.out 3 rfl; have x4 : w2.cell? ⟨w.heap.size, 4, none⟩ = some (.int .i64 0) := B.cell X2.out 4 rfl; have f0 : ∀ k, w2.frozen? ⟨w.heap.size, k, none⟩ = false := fun k => B.free X2.out k))
      exact bodyPost_ret (v := .tuple #[.agg #[.int .i64 0, .int .i64 0, .int .i64 0, .int .i64 0, .int .i64 0], .int .i64 1]) (by simp [results, Tryd.results9, go_sem, x0, x1, x2, x3, x4]) rfl ⟨by rw [HRI.out]; rfl, PW.set5_below HB2.out (Nat.le_refl _) _ _ _ _ _⟩
end Go.Proofs.YtklobjfhjlkgfaaDoor.TW
