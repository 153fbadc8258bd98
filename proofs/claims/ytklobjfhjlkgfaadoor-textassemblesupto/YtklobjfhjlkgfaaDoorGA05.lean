import Derived.Test.YtklobjfhjlkgfaaDoorGA01
import Derived.Test.YtklobjfhjlkgfaaDoorGA02
import Derived.Test.YtklobjfhjlkgfaaDoorGA00
namespace Go.Proofs.YtklobjfhjlkgfaaDoor.PW
open Go.RowKit
set_option linter.unusedVariables false
set_option maxRecDepth 100000

set_option maxHeartbeats 1500000 in
theorem instr_any (i : PM.Ins) (w : World) : Calls Tryd.prog 34 #[.agg i.cells] w fun e w' => e = .returned (.string i.bytes) ∧ Below w.heap.size w w' := by
  obtain ⟨o, a, b, c, m⟩ := i
  unfold PM.Ins.cells PM.Ins.bytes
  simp only
  have HB0 := hideC ((Below.refl w.heap.size w).alloc (Nat.le_refl _) (.cells #[.int .i64 o, .int .i64 a, .int .i64 b, .int .i64 c, .int .i64 m] 23))
  have BX := hideC (B.new w #[.int .i64 o, .int .i64 a, .int .i64 b, .int .i64 c, .int .i64 m] 23)
  obtain ⟨W, hW⟩ : ∃ W, W = w.alloc (.cells #[.int .i64 o, .int .i64 a, .int .i64 b, .int .i64 c, .int .i64 m] 23) := ⟨_, rfl⟩
  have HW := hideC hW
  rw [← hW] at HB0 BX
  have hkin := Q.kin_some W
  have hwl := B.isLt BX.out
  have k0 : ∀ x : Q.Kin W.heap.size W, x.world.cell? ⟨w.heap.size, 0, none⟩ = some (.int .i64 o) := fun x => by rw [Q.cell_kin x _ _ hwl]; exact B.cell BX.out 0 rfl
  have k1 : ∀ x : Q.Kin W.heap.size W, x.world.cell? ⟨w.heap.size, 1, none⟩ = some (.int .i64 a) := fun x => by rw [Q.cell_kin x _ _ hwl]; exact B.cell BX.out 1 rfl
  have k2 : ∀ x : Q.Kin W.heap.size W, x.world.cell? ⟨w.heap.size, 2, none⟩ = some (.int .i64 b) := fun x => by rw [Q.cell_kin x _ _ hwl]; exact B.cell BX.out 2 rfl
  have k3 : ∀ x : Q.Kin W.heap.size W, x.world.cell? ⟨w.heap.size, 3, none⟩ = some (.int .i64 c) := fun x => by rw [Q.cell_kin x _ _ hwl]; exact B.cell BX.out 3 rfl
  have k4 : ∀ x : Q.Kin W.heap.size W, x.world.cell? ⟨w.heap.size, 4, none⟩ = some (.int .i64 m) := fun x => by rw [Q.cell_kin x _ _ hwl]; exact B.cell BX.out 4 rfl
  have HA : Hid (∀ n V, Calls Tryd.prog 56 #[.int .i64 n, .int .i64 1] V fun e w' => e = .returned (.string (PM.le 1 n)) ∧ Below V.heap.size V w') := fun n U => CW.bytes_any n 1 U (by omega)
  have HM : Hid (∀ V, Calls Tryd.prog 56 #[.int .i64 m, .int .i64 4] V fun e w' => e = .returned (.string (PM.le 4 m)) ∧ Below V.heap.size V w') := fun U => CW.bytes_any m 4 U (by omega)
  have s1 := PM.le_size 1 o
  have s2 := PM.le_size 1 a
  have s3 := PM.le_size 1 b
  have s4 := PM.le_size 1 c
  have s5 := PM.le_size 4 m
  have t1 : (PM.le 1 o ++ PM.le 1 a).size = 2 := by rw [ByteArray.size_append, s1, s2]
  have t2 : (PM.le 1 o ++ PM.le 1 a ++ PM.le 1 b).size = 3 := by rw [ByteArray.size_append, t1, s3]
  have t3 : (PM.le 1 o ++ PM.le 1 a ++ PM.le 1 b ++ PM.le 1 c).size = 4 := by rw [ByteArray.size_append, t2, s4]
  clear hW
  go_enter Tryd.func34, Tryd.ntmps34
  go_wp2
  rw [← HW.out]
  refine Q.region_kin (by kernel_rfl) (by kernel_rfl) ?_
  repeat (first | go_big_quiet_step ((go_at_call 56; first | with_reducible exact Q.calls_kin (HA.out _) _ | with_reducible exact Q.calls_kin HM.out _)) | quiet_step ((go_at_call 56; first | with_reducible exact Q.calls_kin (HA.out _) _ | with_reducible exact Q.calls_kin HM.out _)))
  refine wpQuiet_nil ?_
  intro _ hw'
  obtain ⟨x, hw''⟩ := hw'
  subst hw''
  go_wp2
  go_ret
  exact ⟨rfl, HB0.out.trans (x.keeps.mono HB0.out.size)⟩

/-- the row of the first k of four numbers, a byte each -/
def pre (V : List Int) : Nat → ByteArray
  | 0 => ⟨#[]⟩
  | k + 1 => pre V k ++ PM.le 1 (V.getD k 0)
theorem pre_size (V : List Int) : ∀ k, (pre V k).size = k
  | 0 => rfl
  | k + 1 => by rw [pre, ByteArray.size_append, pre_size V k, PM.le_size]
theorem le_one (n : Int) (h : PM.Byt n) : PM.le 1 n = strOfNums [n % 256] := by
  have e := CM.strOfNums_byte n 0 (by omega)
  rw [CM.shr_zero] at e
  rw [e]
  simp [PM.le, Lib.leBytes]
set_option maxHeartbeats 1500000 in
theorem encode_any (i : PM.Ins) (w : World) : Calls Tryd.prog 16 #[.agg i.cells] w fun e w' => e = .returned (if i.fits then .tuple #[.string i.bytes, .int .i64 0] else .tuple #[.string ⟨#[]⟩, .int .i64 3]) ∧ Below w.heap.size w w' := by
  obtain ⟨o, a, b, c, m⟩ := i
  unfold PM.Ins.cells
  simp only
  have HY : Hid (∀ V : List Int, V = [o, a, b, c] → (∀ j, j < 4 → PM.Byt (V.getD j 0)) → -2147483648 ≤ m ∧ m ≤ 2147483647 → (if PM.Ins.fits ⟨o, a, b, c, m⟩ then Value.tuple #[.string (PM.Ins.bytes ⟨o, a, b, c, m⟩), .int .i64 0] else .tuple #[.string ⟨#[]⟩, .int .i64 3]) = .tuple #[.string (pre V 4 ++ PM.le 4 m), .int .i64 0]) := by
    intro V hV hj hm
    subst hV
    rw [if_pos (show PM.Ins.fits ⟨o, a, b, c, m⟩ from ⟨hj 0 (by omega), hj 1 (by omega), hj 2 (by omega), hj 3 (by omega), hm⟩)]
    have e : (⟨#[]⟩ : ByteArray) ++ PM.le 1 o = PM.le 1 o := ByteArray.empty_append
    simp [PM.Ins.bytes, pre, e]
  have HN : Hid (∀ V : List Int, V = [o, a, b, c] → (∀ j, j < 4 → PM.Byt (V.getD j 0)) → ¬ (-2147483648 ≤ m ∧ m ≤ 2147483647) → (if PM.Ins.fits ⟨o, a, b, c, m⟩ then Value.tuple #[.string (PM.Ins.bytes ⟨o, a, b, c, m⟩), .int .i64 0] else .tuple #[.string ⟨#[]⟩, .int .i64 3]) = .tuple #[.string ⟨#[]⟩, .int .i64 3]) := by
    intro V hV hj hm
    rw [if_neg (show ¬ PM.Ins.fits ⟨o, a, b, c, m⟩ from fun h => hm h.2.2.2.2)]
  have HX : Hid (∀ V : List Int, V = [o, a, b, c] → ∀ j, j < 4 → ¬ PM.Byt (V.getD j 0) → (if PM.Ins.fits ⟨o, a, b, c, m⟩ then Value.tuple #[.string (PM.Ins.bytes ⟨o, a, b, c, m⟩), .int .i64 0] else .tuple #[.string ⟨#[]⟩, .int .i64 3]) = .tuple #[.string ⟨#[]⟩, .int .i64 3]) := by
    intro V hV j hj hn
    subst hV
    rw [if_neg]
    rintro ⟨h0, h1, h2, h3, -⟩
    match j, hj with
    | 0, _ => exact hn h0
    | 1, _ => exact hn h1
    | 2, _ => exact hn h2
    | 3, _ => exact hn h3
  obtain ⟨R, hR⟩ : ∃ R, R = (if PM.Ins.fits ⟨o, a, b, c, m⟩ then Value.tuple #[.string (PM.Ins.bytes ⟨o, a, b, c, m⟩), .int .i64 0] else .tuple #[.string ⟨#[]⟩, .int .i64 3]) := ⟨_, rfl⟩
  rw [← hR] at HY HN HX
  rw [← hR]
  obtain ⟨V, hV⟩ : ∃ V : List Int, V = [o, a, b, c] := ⟨_, rfl⟩
  have HVV := hideC hV
  clear hR hV
  go_enter Tryd.func16, Tryd.ntmps16
  go_wp2
  go_loopw [4, 19] (fun s i wr => ∃ k : Nat, k ≤ 4 ∧ i = .int .i64 k ∧ s = .string (pre V k) ∧ (∀ j, j < k → PM.Byt (V.getD j 0)) ∧ Below w.heap.size w wr ∧ wr.heap[w.heap.size]? = some (.cells #[.int .i64 o, .int .i64 a, .int .i64 b, .int .i64 c, .int .i64 m] 23 (0, 0)) ∧ wr.heap[w.heap.size + 1]? = some (.cells #[.int .i64 o, .int .i64 a, .int .i64 b, .int .i64 c] 3 (0, 0))) (fun _ i _ => 4 - (intOf i).toNat)
  case atStart =>
    refine ⟨0, by omega, rfl, rfl, fun j hj => absurd hj (by omega), ((Below.refl _ _).alloc (Nat.le_refl _) _).alloc (by simp) _, B.alloc (B.new w _ _) _, ?_⟩
    have e := B.new (w.alloc (.cells #[.int .i64 o, .int .i64 a, .int .i64 b, .int .i64 c, .int .i64 m] 23)) #[.int .i64 o, .int .i64 a, .int .i64 b, .int .i64 c] 3
    rw [World.size_alloc] at e
    exact e
  case round =>
    obtain ⟨k, hk, rfl, rfl, hj, hb, hx, hy⟩ := hrel
    have HB := hideC hb
    have HX1 := hideC hx
    have HY1 := hideC hy
    have HJ := hideC hj
    have hps := pre_size V k
    have hm4 := B.cell hx 4 rfl
    by_cases hlt : k < 4
    · have hc : wr.cell? ⟨w.heap.size + 1, k, none⟩ = some (.int .i64 (V.getD k 0)) := by
        rw [HVV.out]
        match k, hlt with
        | 0, _ => exact B.cell hy 0 rfl
        | 1, _ => exact B.cell hy 1 rfl
        | 2, _ => exact B.cell hy 2 rfl
        | 3, _ => exact B.cell hy 3 rfl
      have HK := hideC (HX.out V HVV.out k hlt)
      have HP : Hid (pre V (k + 1) = pre V k ++ PM.le 1 (V.getD k 0)) := rfl
      have HJ2 : Hid (PM.Byt (V.getD k 0) → ∀ j, j < k + 1 → PM.Byt (V.getD j 0)) := fun h j hjj => by
        rcases Nat.lt_or_ge j k with g | g
        · exact hj j g
        · obtain rfl : j = k := by omega
          exact h
      obtain ⟨n, hn⟩ : ∃ n, n = V.getD k 0 := ⟨_, rfl⟩
      rw [← hn] at hc HK HP HJ2
      clear hb hx hy hj hn
      by_cases h0 : 0 ≤ n
      · by_cases h1 : n ≤ 255
        · have hl := PM.le_size 1 n
          have hcv : (convert 68 9 (.slice (some ⟨wr.heap.size, 0, none⟩) 1 1)).run Tryd.prog (wr.alloc (.cells #[.int .u8 n] 5)) = .ok (.string (PM.le 1 n)) (wr.alloc (.cells #[.int .u8 n] 5)) := by
            rw [le_one n ⟨h0, h1⟩, show n % 256 = n from by omega]
            refine run_convert_bytes_arg _ 68 5 Tryd.underlying68 Tryd.underlying5 _ 0 1 1 [n] rfl ?_ 9 Tryd.underlying9
            intro i hi
            obtain rfl : i = 0 := by omega
            simp
          go_wp2
          go_roundw
          case rel => exact ⟨k + 1, by omega, by go_num, by rw [HP.out], HJ2.out ⟨h0, h1⟩, HB.out.alloc (by have := HB.out.size; omega) _, B.alloc HX1.out _, B.alloc HY1.out _⟩
          case measure => simp [intOf]; omega
        · obtain rfl := HK.out (fun h => h1 h.2)
          go_wp2
          go_ret2
          exact ⟨rfl, HB.out⟩
      · obtain rfl := HK.out (fun h => h0 h.1)
        go_wp2
        go_ret2
        exact ⟨rfl, HB.out⟩
    · obtain rfl : k = 4 := by omega
      clear hb hx hy hj
      by_cases h0 : -2147483648 ≤ m
      · by_cases h1 : m ≤ 2147483647
        · obtain rfl := HY.out V HVV.out HJ.out ⟨h0, h1⟩
          have hl := PM.le_size 4 m
          have HPut : Hid (∀ U, Calls Tryd.prog 36 #[.int .i64 m, .int .i64 4] U fun e w' => e = .returned (.tuple #[.string (PM.le 4 m), .int .i64 0]) ∧ Below U.heap.size U w') := fun U => CW.put_yes m 4 U (by omega) (by omega)
          go_wp2_with (go_at_call 36; refine (HPut.out _).mono ?_; rintro e w1 ⟨rfl, hb1⟩; have HB1 := hideC (HB.out.trans (hb1.mono HB.out.size)); clear hb1)
          go_ret2
          exact ⟨rfl, HB1.out⟩
        · obtain rfl := HN.out V HVV.out HJ.out (fun h => h1 h.2)
          go_wp2
          go_ret2
          exact ⟨rfl, HB.out⟩
      · obtain rfl := HN.out V HVV.out HJ.out (fun h => h0 h.1)
        go_wp2
        go_ret2
        exact ⟨rfl, HB.out⟩
end Go.Proofs.YtklobjfhjlkgfaaDoor.PW
namespace Go.Proofs.YtklobjfhjlkgfaaDoor.PW
open Go.RowKit
set_option linter.unusedVariables false
set_option maxRecDepth 100000

def kindN (i : PM.Ins) : Int := if i.bad then 4 else if i.op = 9 then 1 else if i.op = 10 then 2 else if i.op = 16 then 3 else 0
set_option maxHeartbeats 400000 in
theorem kindOf_any (i : PM.Ins) (w : World) (hi : i.fits) : Calls Tryd.prog 37 #[.agg i.cells] w fun e w' => e = .returned (.int .i64 (kindN i)) ∧ Below w.heap.size w w' := by
  have HB := hideC (fun V => isBad_any i V hi)
  have HK : Hid (kindN i = if i.bad then 4 else if i.op = 9 then 1 else if i.op = 10 then 2 else if i.op = 16 then 3 else 0) := rfl
  obtain ⟨op, a, b, c, m⟩ := i
  unfold PM.Ins.cells at HB ⊢
  simp only at HB HK ⊢
  obtain ⟨K, hK⟩ : ∃ K, K = kindN ⟨op, a, b, c, m⟩ := ⟨_, rfl⟩
  obtain ⟨D, hD⟩ : ∃ D, D = PM.Ins.bad ⟨op, a, b, c, m⟩ := ⟨_, rfl⟩
  rw [← hK] at HK ⊢
  rw [← hD] at HK HB
  clear hK hD hi
  have HB0 := hideC ((Below.refl w.heap.size w).alloc (Nat.le_refl _) (.cells #[.int .i64 op, .int .i64 a, .int .i64 b, .int .i64 c, .int .i64 m] 23))
  have BX := hideC (B.new w #[.int .i64 op, .int .i64 a, .int .i64 b, .int .i64 c, .int .i64 m] 23)
  cases D
  · simp only [Bool.false_eq_true, if_false] at HK
    by_cases h1 : op = 9
    · subst h1
      obtain rfl : K = 1 := by rw [HK.out]; rfl
      go_enter Tryd.func37, Tryd.ntmps37
      go_wp2_with fail
      refine (HB.out _).mono ?_
      rintro e w1 ⟨rfl, hb1⟩
      have HB1 := hideC (HB0.out.trans (hb1.mono HB0.out.size))
      have c0 := B.cell (B.below BX.out hb1 (B.isLt BX.out)) 0 rfl
      clear hb1
      go_wp2
      go_ret
      exact ⟨rfl, HB1.out⟩
    · by_cases h2 : op = 10
      · subst h2
        obtain rfl : K = 2 := by rw [HK.out]; rfl
        go_enter Tryd.func37, Tryd.ntmps37
        go_wp2_with fail
        refine (HB.out _).mono ?_
        rintro e w1 ⟨rfl, hb1⟩
        have HB1 := hideC (HB0.out.trans (hb1.mono HB0.out.size))
        have c0 := B.cell (B.below BX.out hb1 (B.isLt BX.out)) 0 rfl
        clear hb1
        go_wp2
        go_ret
        exact ⟨rfl, HB1.out⟩
      · by_cases h3 : op = 16
        · subst h3
          obtain rfl : K = 3 := by rw [HK.out]; rfl
          go_enter Tryd.func37, Tryd.ntmps37
          go_wp2_with fail
          refine (HB.out _).mono ?_
          rintro e w1 ⟨rfl, hb1⟩
          have HB1 := hideC (HB0.out.trans (hb1.mono HB0.out.size))
          have c0 := B.cell (B.below BX.out hb1 (B.isLt BX.out)) 0 rfl
          clear hb1
          go_wp2
          go_ret
          exact ⟨rfl, HB1.out⟩
        · obtain rfl : K = 0 := by rw [HK.out, if_neg h1, if_neg h2, if_neg h3]
          go_enter Tryd.func37, Tryd.ntmps37
          go_wp2_with fail
          refine (HB.out _).mono ?_
          rintro e w1 ⟨rfl, hb1⟩
          have HB1 := hideC (HB0.out.trans (hb1.mono HB0.out.size))
          have c0 := B.cell (B.below BX.out hb1 (B.isLt BX.out)) 0 rfl
          clear hb1
          go_wp2
          go_ret
          exact ⟨rfl, HB1.out⟩
  · simp only [if_true] at HK
    obtain rfl : K = 4 := HK.out
    go_enter Tryd.func37, Tryd.ntmps37
    go_wp2_with fail
    refine (HB.out _).mono ?_
    rintro e w1 ⟨rfl, hb1⟩
    have HB1 := hideC (HB0.out.trans (hb1.mono HB0.out.size))
    clear hb1
    go_wp2
    go_ret
    exact ⟨rfl, HB1.out⟩
end Go.Proofs.YtklobjfhjlkgfaaDoor.PW
namespace Go.Proofs.YtklobjfhjlkgfaaDoor.PW
open Go.RowKit
set_option linter.unusedVariables false
set_option maxRecDepth 100000

theorem nb_lt {x : Int} (h : PM.Byt x) (h8 : ¬ 8 ≤ x) : ∃ n : Nat, x = (n : Int) ∧ n < 8 := by
  obtain ⟨h0, -⟩ := h
  exact ⟨x.toNat, by omega, by omega⟩
theorem set5_below {N g : Nat} {w W : World} (h : Below N w W) (hg : N ≤ g) (v0 v1 v2 v3 v4 : Value) : Below N w (((((W.setCell ⟨g, 0, none⟩ v0).setCell ⟨g, 1, none⟩ v1).setCell ⟨g, 2, none⟩ v2).setCell ⟨g, 3, none⟩ v3).setCell ⟨g, 4, none⟩ v4) :=
  ((((h.setCell (p := ⟨g, 0, none⟩) hg v0).setCell (p := ⟨g, 1, none⟩) hg v1).setCell (p := ⟨g, 2, none⟩) hg v2).setCell (p := ⟨g, 3, none⟩) hg v3).setCell (p := ⟨g, 4, none⟩) hg v4
set_option maxHeartbeats 400000 in
theorem ask_no (p : PM.Pr) (s : ByteArray) (w : World) (hs : s.size ≤ maxLen) (h : s.size ≠ 8) : Calls Tryd.prog 17 #[p.val, .string s] w fun e w' => e = .returned (.tuple #[.agg #[.int .i64 0, .int .i64 0, .int .i64 0, .int .i64 0, .int .i64 0], .int .i64 3]) ∧ Below w.heap.size w w' := by
  have HD := hideC (fun V => decode_no s V hs h)
  have HB0 := hideC (((Below.refl w.heap.size w).alloc (Nat.le_refl _) (.cells p.row 46)).alloc (by simp) (.cells #[.int .i64 0, .int .i64 0, .int .i64 0, .int .i64 0, .int .i64 0] 39))
  have BR := hideC (B.new (w.alloc (.cells p.row 46)) #[.int .i64 0, .int .i64 0, .int .i64 0, .int .i64 0, .int .i64 0] 39)
  rw [World.size_alloc] at BR
  unfold PM.Pr.val
  unfold PM.Pr.row at HB0 BR ⊢
  clear h hs
  go_enter Tryd.func17, Tryd.ntmps17
  go_wp2_with fail
  refine (HD.out _).mono ?_
  rintro e w1 ⟨rfl, hb1⟩
  have HB1 := hideC (HB0.out.trans (hb1.mono HB0.out.size))
  have BR1 := hideC (B.below BR.out hb1 (B.isLt BR.out))
  have l1 := B.isLt BR1.out
  have t0 : w1.cell? ⟨w.heap.size + 1, 0, none⟩ = some (.int .i64 0) := B.cell BR1.out 0 rfl
  have t1 : w1.cell? ⟨w.heap.size + 1, 1, none⟩ = some (.int .i64 0) := B.cell BR1.out 1 rfl
  have t2 : w1.cell? ⟨w.heap.size + 1, 2, none⟩ = some (.int .i64 0) := B.cell BR1.out 2 rfl
  have t3 : w1.cell? ⟨w.heap.size + 1, 3, none⟩ = some (.int .i64 0) := B.cell BR1.out 3 rfl
  have t4 : w1.cell? ⟨w.heap.size + 1, 4, none⟩ = some (.int .i64 0) := B.cell BR1.out 4 rfl
  have u0 : ∀ j, w1.frozen? ⟨w.heap.size + 1, j, none⟩ = false := fun j => B.free BR1.out j
  clear hb1
  unfold PM.Ins.cells
  simp only
  go_wp2
  refine bodyPost_ret (v := .tuple #[.agg #[.int .i64 0, .int .i64 0, .int .i64 0, .int .i64 0, .int .i64 0], .int .i64 3]) (by simp [results, Tryd.results17, go_sem, t0, t1, t2, t3, t4, l1]) rfl ?_
  have sz1 := HB1.out.size
  exact ⟨rfl, (set5_below HB1.out (Nat.le_succ _) _ _ _ _ _).alloc (by simp; omega) _⟩

theorem regs_of (op a b c m : Int) (hi : PM.Ins.fits ⟨op, a, b, c, m⟩) (h : op = 9 ∨ op = 10) (hd : PM.Ins.bad ⟨op, a, b, c, m⟩ = false) : ∃ na nb : Nat, a = (na : Int) ∧ b = (nb : Int) ∧ na < 8 ∧ nb < 8 := by
  obtain ⟨-, ha, hb, -⟩ := hi
  have e : (decide (8 ≤ a ∨ 8 ≤ b) || !(PM.isSize c)) = false := by
    rcases h with h | h <;> subst h <;> exact hd
  simp only [Bool.or_eq_false_iff, decide_eq_false_iff_not] at e
  obtain ⟨na, h1, h2⟩ := nb_lt ha (fun h => e.1 (.inl h))
  obtain ⟨nb, h3, h4⟩ := nb_lt hb (fun h => e.1 (.inr h))
  exact ⟨na, nb, h1, h3, h2, h4⟩
set_option maxHeartbeats 2000000 in
theorem ask_yes (p : PM.Pr) (s : ByteArray) (w : World) (h : s.size = 8) : Calls Tryd.prog 17 #[p.val, .string s] w fun e w' => e = .returned (.tuple #[.agg (PM.askN p (PM.ins s)), .int .i64 0]) ∧ Below w.heap.size w w' := by
  have HD := hideC (fun V => decode_yes s V h)
  have hfit := PM.ins_fits s h
  obtain ⟨i, hi⟩ : ∃ i, i = PM.ins s := ⟨_, rfl⟩
  rw [← hi] at HD hfit ⊢
  have HK := hideC (fun V => kindOf_any i V hfit)
  clear hi h
  obtain ⟨op, a, b, c, m⟩ := i
  have HAsk : Hid (PM.askN p ⟨op, a, b, c, m⟩ = if PM.Ins.bad ⟨op, a, b, c, m⟩ then #[.int .i64 4, .int .i64 0, .int .i64 0, .int .i64 0, .int .i64 0] else if op = 9 then #[.int .i64 1, .int .i64 (wrap64 (p.r b.toNat + m)), .int .i64 c, .int .i64 0, .int .i64 0] else if op = 10 then #[.int .i64 2, .int .i64 (wrap64 (p.r b.toNat + m)), .int .i64 c, .int .i64 (p.r a.toNat), .int .i64 0] else if op = 16 then #[.int .i64 3, .int .i64 0, .int .i64 0, .int .i64 0, .int .i64 m] else #[.int .i64 0, .int .i64 0, .int .i64 0, .int .i64 0, .int .i64 0]) := rfl
  have HRg := hideC (regs_of op a b c m hfit)
  have HKN : Hid (kindN ⟨op, a, b, c, m⟩ = if PM.Ins.bad ⟨op, a, b, c, m⟩ then 4 else if op = 9 then 1 else if op = 10 then 2 else if op = 16 then 3 else 0) := rfl
  obtain ⟨K, hK⟩ : ∃ K, K = kindN ⟨op, a, b, c, m⟩ := ⟨_, rfl⟩
  obtain ⟨D, hD⟩ : ∃ D, D = PM.Ins.bad ⟨op, a, b, c, m⟩ := ⟨_, rfl⟩
  obtain ⟨Q, hQ⟩ : ∃ Q, Q = PM.askN p ⟨op, a, b, c, m⟩ := ⟨_, rfl⟩
  rw [← hQ] at HAsk ⊢
  rw [← hK] at HKN HK
  rw [← hD] at HKN HAsk HRg
  clear hK hD hQ hfit
  unfold PM.Ins.cells at HD HK
  simp only at HD HK
  have HB0 := hideC (((Below.refl w.heap.size w).alloc (Nat.le_refl _) (.cells p.row 46)).alloc (by simp) (.cells #[.int .i64 0, .int .i64 0, .int .i64 0, .int .i64 0, .int .i64 0] 39))
  have BP := hideC (B.alloc (B.new w p.row 46) (.cells #[.int .i64 0, .int .i64 0, .int .i64 0, .int .i64 0, .int .i64 0] 39))
  have BR := hideC (B.new (w.alloc (.cells p.row 46)) #[.int .i64 0, .int .i64 0, .int .i64 0, .int .i64 0, .int .i64 0] 39)
  rw [World.size_alloc] at BR
  unfold PM.Pr.val
  cases D
  · simp only [Bool.false_eq_true, if_false] at HKN HAsk
    by_cases h1 : op = 9
    · obtain ⟨na, nb, rfl, rfl, hna, hnb⟩ := HRg.out (.inl h1) rfl
      subst h1
      obtain rfl : K = 1 := HKN.out
      obtain rfl := HAsk.out
      clear HRg HKN HAsk
      rw [Int.toNat_natCast]
      go_enter Tryd.func17, Tryd.ntmps17
      go_wp2_with fail
      refine (HD.out _).mono ?_
      rintro e w1 ⟨rfl, hb1⟩
      have HB1 := hideC (HB0.out.trans (hb1.mono HB0.out.size))
      have BP1 := hideC (B.below BP.out hb1 (B.isLt BP.out))
      have BR1 := hideC (B.below BR.out hb1 (B.isLt BR.out))
      have HA1 := hideC ((Below.refl w1.heap.size w1).alloc (Nat.le_refl _) (.cells #[.int .i64 9, .int .i64 na, .int .i64 nb, .int .i64 c, .int .i64 m] 23))
      have BI1 := hideC (B.new w1 #[.int .i64 9, .int .i64 na, .int .i64 nb, .int .i64 c, .int .i64 m] 23)
      clear hb1
      go_wp2_with fail
      refine (HK.out _).mono ?_
      rintro e w2 ⟨rfl, hb2⟩
      have HB2 := hideC (HB1.out.trans ((HA1.out.trans (hb2.mono HA1.out.size)).mono HB1.out.size))
      have BP2 := hideC (B.below (B.alloc BP1.out _) hb2 (B.isLt (B.alloc BP1.out _)))
      have BR2 := hideC (B.below (B.alloc BR1.out _) hb2 (B.isLt (B.alloc BR1.out _)))
      have BI2 := hideC (B.below BI1.out hb2 (B.isLt BI1.out))
      have sz2 := HB2.out.size
      have l0 := B.isLt BP2.out
      have l1 := B.isLt BR2.out
      have l2 := B.isLt BI2.out
      have ne1 : ¬ w1.heap.size = w.heap.size + 1 := fun h => by have := B.isLt BR1.out; omega
      clear hb2 HA1 BI1
      have t0 : w2.cell? ⟨w.heap.size + 1, 0, none⟩ = some (.int .i64 0) := B.cell BR2.out 0 rfl
      have t1 : w2.cell? ⟨w.heap.size + 1, 1, none⟩ = some (.int .i64 0) := B.cell BR2.out 1 rfl
      have t2 : w2.cell? ⟨w.heap.size + 1, 2, none⟩ = some (.int .i64 0) := B.cell BR2.out 2 rfl
      have t3 : w2.cell? ⟨w.heap.size + 1, 3, none⟩ = some (.int .i64 0) := B.cell BR2.out 3 rfl
      have t4 : w2.cell? ⟨w.heap.size + 1, 4, none⟩ = some (.int .i64 0) := B.cell BR2.out 4 rfl
      have u0 : ∀ j, w2.frozen? ⟨w.heap.size + 1, j, none⟩ = false := fun j => B.free BR2.out j
      have cb : w2.cell? ⟨w.heap.size, nb, none⟩ = some (.int .i64 (p.r nb)) := B.cell BP2.out nb (PM.row_get p nb hnb)
      have i2 : w2.cell? ⟨w1.heap.size, 2, none⟩ = some (.int .i64 nb) := B.cell BI2.out 2 rfl
      have i3 : w2.cell? ⟨w1.heap.size, 3, none⟩ = some (.int .i64 c) := B.cell BI2.out 3 rfl
      have i4 : w2.cell? ⟨w1.heap.size, 4, none⟩ = some (.int .i64 m) := B.cell BI2.out 4 rfl
      go_wp2_with fail
      go_region
      go_wp2
      refine bodyPost_ret (v := .tuple #[.agg #[.int .i64 1, .int .i64 (wrap64 (p.r nb + m)), .int .i64 c, .int .i64 0, .int .i64 0], .int .i64 0]) (by simp [results, Tryd.results17, go_sem, t0, t1, t2, t3, t4, l1]) rfl ?_
      exact ⟨rfl, (by first | exact (set5_below HB2.out (Nat.le_succ _) _ _ _ _ _).alloc (by simp; omega) _ | exact ((set5_below HB2.out (Nat.le_succ _) _ _ _ _ _).alloc (by simp; omega) _).drew)⟩
    · by_cases h2 : op = 10
      · obtain ⟨na, nb, rfl, rfl, hna, hnb⟩ := HRg.out (.inr h2) rfl
        subst h2
        obtain rfl : K = 2 := HKN.out
        obtain rfl := HAsk.out
        clear HRg HKN HAsk h1
        rw [if_neg (by decide), if_pos rfl, Int.toNat_natCast, Int.toNat_natCast]
        go_enter Tryd.func17, Tryd.ntmps17
        go_wp2_with fail
        refine (HD.out _).mono ?_
        rintro e w1 ⟨rfl, hb1⟩
        have HB1 := hideC (HB0.out.trans (hb1.mono HB0.out.size))
        have BP1 := hideC (B.below BP.out hb1 (B.isLt BP.out))
        have BR1 := hideC (B.below BR.out hb1 (B.isLt BR.out))
        have HA1 := hideC ((Below.refl w1.heap.size w1).alloc (Nat.le_refl _) (.cells #[.int .i64 10, .int .i64 na, .int .i64 nb, .int .i64 c, .int .i64 m] 23))
        have BI1 := hideC (B.new w1 #[.int .i64 10, .int .i64 na, .int .i64 nb, .int .i64 c, .int .i64 m] 23)
        clear hb1
        go_wp2_with fail
        refine (HK.out _).mono ?_
        rintro e w2 ⟨rfl, hb2⟩
        have HB2 := hideC (HB1.out.trans ((HA1.out.trans (hb2.mono HA1.out.size)).mono HB1.out.size))
        have BP2 := hideC (B.below (B.alloc BP1.out _) hb2 (B.isLt (B.alloc BP1.out _)))
        have BR2 := hideC (B.below (B.alloc BR1.out _) hb2 (B.isLt (B.alloc BR1.out _)))
        have BI2 := hideC (B.below BI1.out hb2 (B.isLt BI1.out))
        have sz2 := HB2.out.size
        have l0 := B.isLt BP2.out
        have l1 := B.isLt BR2.out
        have l2 := B.isLt BI2.out
        have ne1 : ¬ w1.heap.size = w.heap.size + 1 := fun h => by have := B.isLt BR1.out; omega
        clear hb2 HA1 BI1
        have t0 : w2.cell? ⟨w.heap.size + 1, 0, none⟩ = some (.int .i64 0) := B.cell BR2.out 0 rfl
        have t1 : w2.cell? ⟨w.heap.size + 1, 1, none⟩ = some (.int .i64 0) := B.cell BR2.out 1 rfl
        have t2 : w2.cell? ⟨w.heap.size + 1, 2, none⟩ = some (.int .i64 0) := B.cell BR2.out 2 rfl
        have t3 : w2.cell? ⟨w.heap.size + 1, 3, none⟩ = some (.int .i64 0) := B.cell BR2.out 3 rfl
        have t4 : w2.cell? ⟨w.heap.size + 1, 4, none⟩ = some (.int .i64 0) := B.cell BR2.out 4 rfl
        have u0 : ∀ j, w2.frozen? ⟨w.heap.size + 1, j, none⟩ = false := fun j => B.free BR2.out j
        have ca : w2.cell? ⟨w.heap.size, na, none⟩ = some (.int .i64 (p.r na)) := B.cell BP2.out na (PM.row_get p na hna)
        have i1 : w2.cell? ⟨w1.heap.size, 1, none⟩ = some (.int .i64 na) := B.cell BI2.out 1 rfl
        have cb : w2.cell? ⟨w.heap.size, nb, none⟩ = some (.int .i64 (p.r nb)) := B.cell BP2.out nb (PM.row_get p nb hnb)
        have i2 : w2.cell? ⟨w1.heap.size, 2, none⟩ = some (.int .i64 nb) := B.cell BI2.out 2 rfl
        have i3 : w2.cell? ⟨w1.heap.size, 3, none⟩ = some (.int .i64 c) := B.cell BI2.out 3 rfl
        have i4 : w2.cell? ⟨w1.heap.size, 4, none⟩ = some (.int .i64 m) := B.cell BI2.out 4 rfl
        go_wp2_with fail
        go_region
        go_wp2
        refine bodyPost_ret (v := .tuple #[.agg #[.int .i64 2, .int .i64 (wrap64 (p.r nb + m)), .int .i64 c, .int .i64 (p.r na), .int .i64 0], .int .i64 0]) (by simp [results, Tryd.results17, go_sem, t0, t1, t2, t3, t4, l1]) rfl ?_
        exact ⟨rfl, (by first | exact (set5_below HB2.out (Nat.le_succ _) _ _ _ _ _).alloc (by simp; omega) _ | exact ((set5_below HB2.out (Nat.le_succ _) _ _ _ _ _).alloc (by simp; omega) _).drew)⟩
      · by_cases h3 : op = 16
        · subst h3
          obtain rfl : K = 3 := HKN.out
          obtain rfl := HAsk.out
          clear HRg HKN HAsk h1 h2
          rw [if_neg (by decide), if_neg (by decide), if_pos rfl]
          go_enter Tryd.func17, Tryd.ntmps17
          go_wp2_with fail
          refine (HD.out _).mono ?_
          rintro e w1 ⟨rfl, hb1⟩
          have HB1 := hideC (HB0.out.trans (hb1.mono HB0.out.size))
          have BP1 := hideC (B.below BP.out hb1 (B.isLt BP.out))
          have BR1 := hideC (B.below BR.out hb1 (B.isLt BR.out))
          have HA1 := hideC ((Below.refl w1.heap.size w1).alloc (Nat.le_refl _) (.cells #[.int .i64 16, .int .i64 a, .int .i64 b, .int .i64 c, .int .i64 m] 23))
          have BI1 := hideC (B.new w1 #[.int .i64 16, .int .i64 a, .int .i64 b, .int .i64 c, .int .i64 m] 23)
          clear hb1
          go_wp2_with fail
          refine (HK.out _).mono ?_
          rintro e w2 ⟨rfl, hb2⟩
          have HB2 := hideC (HB1.out.trans ((HA1.out.trans (hb2.mono HA1.out.size)).mono HB1.out.size))
          have BP2 := hideC (B.below (B.alloc BP1.out _) hb2 (B.isLt (B.alloc BP1.out _)))
          have BR2 := hideC (B.below (B.alloc BR1.out _) hb2 (B.isLt (B.alloc BR1.out _)))
          have BI2 := hideC (B.below BI1.out hb2 (B.isLt BI1.out))
          have sz2 := HB2.out.size
          have l0 := B.isLt BP2.out
          have l1 := B.isLt BR2.out
          have l2 := B.isLt BI2.out
          have ne1 : ¬ w1.heap.size = w.heap.size + 1 := fun h => by have := B.isLt BR1.out; omega
          clear hb2 HA1 BI1
          have t0 : w2.cell? ⟨w.heap.size + 1, 0, none⟩ = some (.int .i64 0) := B.cell BR2.out 0 rfl
          have t1 : w2.cell? ⟨w.heap.size + 1, 1, none⟩ = some (.int .i64 0) := B.cell BR2.out 1 rfl
          have t2 : w2.cell? ⟨w.heap.size + 1, 2, none⟩ = some (.int .i64 0) := B.cell BR2.out 2 rfl
          have t3 : w2.cell? ⟨w.heap.size + 1, 3, none⟩ = some (.int .i64 0) := B.cell BR2.out 3 rfl
          have t4 : w2.cell? ⟨w.heap.size + 1, 4, none⟩ = some (.int .i64 0) := B.cell BR2.out 4 rfl
          have u0 : ∀ j, w2.frozen? ⟨w.heap.size + 1, j, none⟩ = false := fun j => B.free BR2.out j
          have i4 : w2.cell? ⟨w1.heap.size, 4, none⟩ = some (.int .i64 m) := B.cell BI2.out 4 rfl
          go_wp2
          refine bodyPost_ret (v := .tuple #[.agg #[.int .i64 3, .int .i64 0, .int .i64 0, .int .i64 0, .int .i64 m], .int .i64 0]) (by simp [results, Tryd.results17, go_sem, t0, t1, t2, t3, t4, l1]) rfl ?_
          exact ⟨rfl, (by first | exact (set5_below HB2.out (Nat.le_succ _) _ _ _ _ _).alloc (by simp; omega) _ | exact ((set5_below HB2.out (Nat.le_succ _) _ _ _ _ _).alloc (by simp; omega) _).drew)⟩
        · obtain rfl : K = 0 := by rw [HKN.out, if_neg h1, if_neg h2, if_neg h3]
          obtain rfl : Q = #[.int .i64 0, .int .i64 0, .int .i64 0, .int .i64 0, .int .i64 0] := by rw [HAsk.out, if_neg h1, if_neg h2, if_neg h3]
          clear HRg HKN HAsk h1 h2 h3
          go_enter Tryd.func17, Tryd.ntmps17
          go_wp2_with fail
          refine (HD.out _).mono ?_
          rintro e w1 ⟨rfl, hb1⟩
          have HB1 := hideC (HB0.out.trans (hb1.mono HB0.out.size))
          have BP1 := hideC (B.below BP.out hb1 (B.isLt BP.out))
          have BR1 := hideC (B.below BR.out hb1 (B.isLt BR.out))
          have HA1 := hideC ((Below.refl w1.heap.size w1).alloc (Nat.le_refl _) (.cells #[.int .i64 op, .int .i64 a, .int .i64 b, .int .i64 c, .int .i64 m] 23))
          have BI1 := hideC (B.new w1 #[.int .i64 op, .int .i64 a, .int .i64 b, .int .i64 c, .int .i64 m] 23)
          clear hb1
          go_wp2_with fail
          refine (HK.out _).mono ?_
          rintro e w2 ⟨rfl, hb2⟩
          have HB2 := hideC (HB1.out.trans ((HA1.out.trans (hb2.mono HA1.out.size)).mono HB1.out.size))
          have BP2 := hideC (B.below (B.alloc BP1.out _) hb2 (B.isLt (B.alloc BP1.out _)))
          have BR2 := hideC (B.below (B.alloc BR1.out _) hb2 (B.isLt (B.alloc BR1.out _)))
          have BI2 := hideC (B.below BI1.out hb2 (B.isLt BI1.out))
          have sz2 := HB2.out.size
          have l0 := B.isLt BP2.out
          have l1 := B.isLt BR2.out
          have l2 := B.isLt BI2.out
          have ne1 : ¬ w1.heap.size = w.heap.size + 1 := fun h => by have := B.isLt BR1.out; omega
          clear hb2 HA1 BI1
          have t0 : w2.cell? ⟨w.heap.size + 1, 0, none⟩ = some (.int .i64 0) := B.cell BR2.out 0 rfl
          have t1 : w2.cell? ⟨w.heap.size + 1, 1, none⟩ = some (.int .i64 0) := B.cell BR2.out 1 rfl
          have t2 : w2.cell? ⟨w.heap.size + 1, 2, none⟩ = some (.int .i64 0) := B.cell BR2.out 2 rfl
          have t3 : w2.cell? ⟨w.heap.size + 1, 3, none⟩ = some (.int .i64 0) := B.cell BR2.out 3 rfl
          have t4 : w2.cell? ⟨w.heap.size + 1, 4, none⟩ = some (.int .i64 0) := B.cell BR2.out 4 rfl
          have u0 : ∀ j, w2.frozen? ⟨w.heap.size + 1, j, none⟩ = false := fun j => B.free BR2.out j
          go_wp2
          refine bodyPost_ret (v := .tuple #[.agg #[.int .i64 0, .int .i64 0, .int .i64 0, .int .i64 0, .int .i64 0], .int .i64 0]) (by simp [results, Tryd.results17, go_sem, t0, t1, t2, t3, t4, l1]) rfl ?_
          exact ⟨rfl, (by first | exact (set5_below HB2.out (Nat.le_succ _) _ _ _ _ _).alloc (by simp; omega) _ | exact ((set5_below HB2.out (Nat.le_succ _) _ _ _ _ _).alloc (by simp; omega) _).drew)⟩
  · simp only [if_true] at HKN HAsk
    obtain rfl : K = 4 := HKN.out
    obtain rfl := HAsk.out
    clear HRg HKN HAsk
    go_enter Tryd.func17, Tryd.ntmps17
    go_wp2_with fail
    refine (HD.out _).mono ?_
    rintro e w1 ⟨rfl, hb1⟩
    have HB1 := hideC (HB0.out.trans (hb1.mono HB0.out.size))
    have BP1 := hideC (B.below BP.out hb1 (B.isLt BP.out))
    have BR1 := hideC (B.below BR.out hb1 (B.isLt BR.out))
    have HA1 := hideC ((Below.refl w1.heap.size w1).alloc (Nat.le_refl _) (.cells #[.int .i64 op, .int .i64 a, .int .i64 b, .int .i64 c, .int .i64 m] 23))
    have BI1 := hideC (B.new w1 #[.int .i64 op, .int .i64 a, .int .i64 b, .int .i64 c, .int .i64 m] 23)
    clear hb1
    go_wp2_with fail
    refine (HK.out _).mono ?_
    rintro e w2 ⟨rfl, hb2⟩
    have HB2 := hideC (HB1.out.trans ((HA1.out.trans (hb2.mono HA1.out.size)).mono HB1.out.size))
    have BP2 := hideC (B.below (B.alloc BP1.out _) hb2 (B.isLt (B.alloc BP1.out _)))
    have BR2 := hideC (B.below (B.alloc BR1.out _) hb2 (B.isLt (B.alloc BR1.out _)))
    have BI2 := hideC (B.below BI1.out hb2 (B.isLt BI1.out))
    have sz2 := HB2.out.size
    have l0 := B.isLt BP2.out
    have l1 := B.isLt BR2.out
    have l2 := B.isLt BI2.out
    have ne1 : ¬ w1.heap.size = w.heap.size + 1 := fun h => by have := B.isLt BR1.out; omega
    clear hb2 HA1 BI1
    have t0 : w2.cell? ⟨w.heap.size + 1, 0, none⟩ = some (.int .i64 0) := B.cell BR2.out 0 rfl
    have t1 : w2.cell? ⟨w.heap.size + 1, 1, none⟩ = some (.int .i64 0) := B.cell BR2.out 1 rfl
    have t2 : w2.cell? ⟨w.heap.size + 1, 2, none⟩ = some (.int .i64 0) := B.cell BR2.out 2 rfl
    have t3 : w2.cell? ⟨w.heap.size + 1, 3, none⟩ = some (.int .i64 0) := B.cell BR2.out 3 rfl
    have t4 : w2.cell? ⟨w.heap.size + 1, 4, none⟩ = some (.int .i64 0) := B.cell BR2.out 4 rfl
    have u0 : ∀ j, w2.frozen? ⟨w.heap.size + 1, j, none⟩ = false := fun j => B.free BR2.out j
    go_wp2
    refine bodyPost_ret (v := .tuple #[.agg #[.int .i64 4, .int .i64 0, .int .i64 0, .int .i64 0, .int .i64 0], .int .i64 0]) (by simp [results, Tryd.results17, go_sem, t0, t1, t2, t3, t4, l1]) rfl ?_
    exact ⟨rfl, (by first | exact (set5_below HB2.out (Nat.le_succ _) _ _ _ _ _).alloc (by simp; omega) _ | exact ((set5_below HB2.out (Nat.le_succ _) _ _ _ _ _).alloc (by simp; omega) _).drew)⟩
end Go.Proofs.YtklobjfhjlkgfaaDoor.PW
/- Plain: what is encoded is decoded as it was, and the other way. -/
namespace Go.Proofs.YtklobjfhjlkgfaaDoor.PM
open Go.RowKit
set_option linter.unusedVariables false
set_option maxRecDepth 100000

theorem leNat4 (v : Nat) : Lib.leNat (Lib.leBytes 4 v) = v % 4294967296 := by
  simp only [Lib.leBytes, Lib.leNat, Lib.toUInt8_mod]
  omega
theorem leBytes4 (v u : Nat) (h : v % 4294967296 = u % 4294967296) : Lib.leBytes 4 v = Lib.leBytes 4 u := by
  have e0 : v % 256 = u % 256 := by omega
  have e1 : v / 256 % 256 = u / 256 % 256 := by omega
  have e2 : v / 256 / 256 % 256 = u / 256 / 256 % 256 := by omega
  have e3 : v / 256 / 256 / 256 % 256 = u / 256 / 256 / 256 % 256 := by omega
  simp only [Lib.leBytes, e0, e1, e2, e3]
theorem bytes_list (i : Ins) : i.bytes.data.toList = (CM.low i.op % 256).toUInt8 :: (CM.low i.a % 256).toUInt8 :: (CM.low i.b % 256).toUInt8 :: (CM.low i.c % 256).toUInt8 :: Lib.leBytes 4 (CM.low i.m) := by
  simp [Ins.bytes, le, ByteArray.data_append, Lib.leBytes]
theorem low_byt (n : Int) (h : Byt n) : ((((CM.low n % 256).toUInt8).toNat : Nat) : Int) = n := by
  unfold Byt at h
  rw [Lib.toUInt8_mod]
  unfold CM.low
  omega
theorem sign_low (m : Int) (h : -2147483648 ≤ m ∧ m ≤ 2147483647) : sign32 ((CM.low m % 4294967296 : Nat) : Int) = m := by
  unfold sign32 CM.low
  split <;> omega
theorem ins_bytes (i : Ins) (h : i.fits) : ins i.bytes = i := by
  obtain ⟨h0, h1, h2, h3, h4⟩ := h
  obtain ⟨op, a, b, c, m⟩ := i
  unfold ins at_
  rw [bytes_list]
  simp only [List.getD_cons_zero, List.getD_cons_succ, List.drop_succ_cons, List.drop_zero, leNat4]
  rw [low_byt op h0, low_byt a h1, low_byt b h2, low_byt c h3, sign_low m h4]
theorem low_at (s : ByteArray) (k : Nat) : (CM.low (at_ s k) % 256).toUInt8 = s.data.toList.getD k 0 := by
  unfold at_ CM.low
  have h := (s.data.toList.getD k 0).toNat_lt
  have e : ((((s.data.toList.getD k 0).toNat : Nat) : Int) % 18446744073709551616).toNat % 256 = (s.data.toList.getD k 0).toNat := by omega
  rw [e]
  simp [Nat.toUInt8]
theorem low_sign (N : Nat) (h : N < 4294967296) : CM.low (sign32 (N : Int)) % 4294967296 = N % 4294967296 := by
  unfold sign32 CM.low
  split <;> omega
theorem bytes_ins (s : ByteArray) (h : s.size = 8) : (ins s).bytes = s := by
  have hl : s.data.toList.length = 8 := by rw [← Lib.size_eq]; exact h
  apply ByteArray.ext
  apply Array.toList_inj.1
  rw [bytes_list]
  unfold ins
  simp only
  rw [low_at, low_at, low_at, low_at, leBytes4 _ _ (low_sign _ (drop_lt s h))]
  have e := CM.leBytes_leNat (s.data.toList.drop 4)
  rw [List.length_drop, hl] at e
  rw [e]
  match hs : s.data.toList, hl with
  | [x0, x1, x2, x3, x4, x5, x6, x7], _ => rfl
end Go.Proofs.YtklobjfhjlkgfaaDoor.PM
