import Derived.Test.YtamocjifffbhpaaPW2
namespace Go.Proofs.Ytamocjifffbhpaa.PW
open Go.RowKit
set_option linter.unusedVariables false
set_option maxRecDepth 100000

set_option maxHeartbeats 1500000 in
theorem instr_any (i : PM.Ins) (w : World) : Calls Try.prog 9 #[.agg i.cells] w fun e w' => e = .returned (.string i.bytes) ∧ Below w.heap.size w w' := by
  obtain ⟨o, a, b, c, m⟩ := i
  unfold PM.Ins.cells PM.Ins.bytes
  simp only
  have HB0 := hideC ((Below.refl w.heap.size w).alloc (Nat.le_refl _) (.cells #[.int .i64 o, .int .i64 a, .int .i64 b, .int .i64 c, .int .i64 m] 23))
  have BX := hideC (B.new w #[.int .i64 o, .int .i64 a, .int .i64 b, .int .i64 c, .int .i64 m] 23)
  obtain ⟨W, hW⟩ : ∃ W, W = w.alloc (.cells #[.int .i64 o, .int .i64 a, .int .i64 b, .int .i64 c, .int .i64 m] 23) := ⟨_, rfl⟩
  have HW := hideC hW
  rw [← hW] at HB0 BX
  have hkin := Q.kin_some W
  have hwl := B.isLt BX.out
  have k0 : ∀ x : Q.Kin W.heap.size W, x.world.cell? ⟨w.heap.size, 0, none⟩ = some (.int .i64 o) := fun x => by rw [Q.cell_kin x _ _ hwl]; exact B.cell BX.out 0 rfl
  have k1 : ∀ x : Q.Kin W.heap.size W, x.world.cell? ⟨w.heap.size, 1, none⟩ = some (.int .i64 a) := fun x => by rw [Q.cell_kin x _ _ hwl]; exact B.cell BX.out 1 rfl
  have k2 : ∀ x : Q.Kin W.heap.size W, x.world.cell? ⟨w.heap.size, 2, none⟩ = some (.int .i64 b) := fun x => by rw [Q.cell_kin x _ _ hwl]; exact B.cell BX.out 2 rfl
  have k3 : ∀ x : Q.Kin W.heap.size W, x.world.cell? ⟨w.heap.size, 3, none⟩ = some (.int .i64 c) := fun x => by rw [Q.cell_kin x _ _ hwl]; exact B.cell BX.out 3 rfl
  have k4 : ∀ x : Q.Kin W.heap.size W, x.world.cell? ⟨w.heap.size, 4, none⟩ = some (.int .i64 m) := fun x => by rw [Q.cell_kin x _ _ hwl]; exact B.cell BX.out 4 rfl
  have HA : Hid (∀ n V, Calls Try.prog 20 #[.int .i64 n, .int .i64 1] V fun e w' => e = .returned (.string (PM.le 1 n)) ∧ Below V.heap.size V w') := fun n U => CW.bytes_any n 1 U (by omega)
  have HM : Hid (∀ V, Calls Try.prog 20 #[.int .i64 m, .int .i64 4] V fun e w' => e = .returned (.string (PM.le 4 m)) ∧ Below V.heap.size V w') := fun U => CW.bytes_any m 4 U (by omega)
  have s1 := PM.le_size 1 o
  have s2 := PM.le_size 1 a
  have s3 := PM.le_size 1 b
  have s4 := PM.le_size 1 c
  have s5 := PM.le_size 4 m
  have t1 : (PM.le 1 o ++ PM.le 1 a).size = 2 := by rw [ByteArray.size_append, s1, s2]
  have t2 : (PM.le 1 o ++ PM.le 1 a ++ PM.le 1 b).size = 3 := by rw [ByteArray.size_append, t1, s3]
  have t3 : (PM.le 1 o ++ PM.le 1 a ++ PM.le 1 b ++ PM.le 1 c).size = 4 := by rw [ByteArray.size_append, t2, s4]
  clear hW
  go_enter Try.func9, Try.ntmps9
  go_wp2
  rw [← HW.out]
  refine Q.region_kin (by kernel_rfl) (by kernel_rfl) ?_
  repeat (first | go_big_quiet_step ((go_at_call 20; first | with_reducible exact Q.calls_kin (HA.out _) _ | with_reducible exact Q.calls_kin HM.out _)) | quiet_step ((go_at_call 20; first | with_reducible exact Q.calls_kin (HA.out _) _ | with_reducible exact Q.calls_kin HM.out _)))
  refine wpQuiet_nil ?_
  intro _ hw'
  obtain ⟨x, hw''⟩ := hw'
  subst hw''
  go_wp2
  go_ret
  exact ⟨rfl, HB0.out.trans (x.keeps.mono HB0.out.size)⟩

/-- the row of the first k of four numbers, a byte each -/
def pre (V : List Int) : Nat → ByteArray
  | 0 => ⟨#[]⟩
  | k + 1 => pre V k ++ PM.le 1 (V.getD k 0)
theorem pre_size (V : List Int) : ∀ k, (pre V k).size = k
  | 0 => rfl
  | k + 1 => by rw [pre, ByteArray.size_append, pre_size V k, PM.le_size]
theorem le_one (n : Int) (h : PM.Byt n) : PM.le 1 n = strOfNums [n % 256] := by
  have e := CM.strOfNums_byte n 0 (by omega)
  rw [CM.shr_zero] at e
  rw [e]
  simp [PM.le, Lib.leBytes]
set_option maxHeartbeats 1500000 in
theorem encode_any (i : PM.Ins) (w : World) : Calls Try.prog 6 #[.agg i.cells] w fun e w' => e = .returned (if i.fits then .tuple #[.string i.bytes, .int .i64 0] else .tuple #[.string ⟨#[]⟩, .int .i64 3]) ∧ Below w.heap.size w w' := by
  obtain ⟨o, a, b, c, m⟩ := i
  unfold PM.Ins.cells
  simp only
  have HY : Hid (∀ V : List Int, V = [o, a, b, c] → (∀ j, j < 4 → PM.Byt (V.getD j 0)) → -2147483648 ≤ m ∧ m ≤ 2147483647 → (if PM.Ins.fits ⟨o, a, b, c, m⟩ then Value.tuple #[.string (PM.Ins.bytes ⟨o, a, b, c, m⟩), .int .i64 0] else .tuple #[.string ⟨#[]⟩, .int .i64 3]) = .tuple #[.string (pre V 4 ++ PM.le 4 m), .int .i64 0]) := by
    intro V hV hj hm
    subst hV
    rw [if_pos (show PM.Ins.fits ⟨o, a, b, c, m⟩ from ⟨hj 0 (by omega), hj 1 (by omega), hj 2 (by omega), hj 3 (by omega), hm⟩)]
    have e : (⟨#[]⟩ : ByteArray) ++ PM.le 1 o = PM.le 1 o := ByteArray.empty_append
    simp [PM.Ins.bytes, pre, e]
  have HN : Hid (∀ V : List Int, V = [o, a, b, c] → (∀ j, j < 4 → PM.Byt (V.getD j 0)) → ¬ (-2147483648 ≤ m ∧ m ≤ 2147483647) → (if PM.Ins.fits ⟨o, a, b, c, m⟩ then Value.tuple #[.string (PM.Ins.bytes ⟨o, a, b, c, m⟩), .int .i64 0] else .tuple #[.string ⟨#[]⟩, .int .i64 3]) = .tuple #[.string ⟨#[]⟩, .int .i64 3]) := by
    intro V hV hj hm
    rw [if_neg (show ¬ PM.Ins.fits ⟨o, a, b, c, m⟩ from fun h => hm h.2.2.2.2)]
  have HX : Hid (∀ V : List Int, V = [o, a, b, c] → ∀ j, j < 4 → ¬ PM.Byt (V.getD j 0) → (if PM.Ins.fits ⟨o, a, b, c, m⟩ then Value.tuple #[.string (PM.Ins.bytes ⟨o, a, b, c, m⟩), .int .i64 0] else .tuple #[.string ⟨#[]⟩, .int .i64 3]) = .tuple #[.string ⟨#[]⟩, .int .i64 3]) := by
    intro V hV j hj hn
    subst hV
    rw [if_neg]
    rintro ⟨h0, h1, h2, h3, -⟩
    match j, hj with
    | 0, _ => exact hn h0
    | 1, _ => exact hn h1
    | 2, _ => exact hn h2
    | 3, _ => exact hn h3
  obtain ⟨R, hR⟩ : ∃ R, R = (if PM.Ins.fits ⟨o, a, b, c, m⟩ then Value.tuple #[.string (PM.Ins.bytes ⟨o, a, b, c, m⟩), .int .i64 0] else .tuple #[.string ⟨#[]⟩, .int .i64 3]) := ⟨_, rfl⟩
  rw [← hR] at HY HN HX
  rw [← hR]
  obtain ⟨V, hV⟩ : ∃ V : List Int, V = [o, a, b, c] := ⟨_, rfl⟩
  have HVV := hideC hV
  clear hR hV
  go_enter Try.func6, Try.ntmps6
  go_wp2
  go_loopw [4, 19] (fun s i wr => ∃ k : Nat, k ≤ 4 ∧ i = .int .i64 k ∧ s = .string (pre V k) ∧ (∀ j, j < k → PM.Byt (V.getD j 0)) ∧ Below w.heap.size w wr ∧ wr.heap[w.heap.size]? = some (.cells #[.int .i64 o, .int .i64 a, .int .i64 b, .int .i64 c, .int .i64 m] 23 (0, 0)) ∧ wr.heap[w.heap.size + 1]? = some (.cells #[.int .i64 o, .int .i64 a, .int .i64 b, .int .i64 c] 3 (0, 0))) (fun _ i _ => 4 - (intOf i).toNat)
  case atStart =>
    refine ⟨0, by omega, rfl, rfl, fun j hj => absurd hj (by omega), ((Below.refl _ _).alloc (Nat.le_refl _) _).alloc (by simp) _, B.alloc (B.new w _ _) _, ?_⟩
    have e := B.new (w.alloc (.cells #[.int .i64 o, .int .i64 a, .int .i64 b, .int .i64 c, .int .i64 m] 23)) #[.int .i64 o, .int .i64 a, .int .i64 b, .int .i64 c] 3
    rw [World.size_alloc] at e
    exact e
  case round =>
    obtain ⟨k, hk, rfl, rfl, hj, hb, hx, hy⟩ := hrel
    have HB := hideC hb
    have HX1 := hideC hx
    have HY1 := hideC hy
    have HJ := hideC hj
    have hps := pre_size V k
    have hm4 := B.cell hx 4 rfl
    by_cases hlt : k < 4
    · have hc : wr.cell? ⟨w.heap.size + 1, k, none⟩ = some (.int .i64 (V.getD k 0)) := by
        rw [HVV.out]
        match k, hlt with
        | 0, _ => exact B.cell hy 0 rfl
        | 1, _ => exact B.cell hy 1 rfl
        | 2, _ => exact B.cell hy 2 rfl
        | 3, _ => exact B.cell hy 3 rfl
      have HK := hideC (HX.out V HVV.out k hlt)
      have HP : Hid (pre V (k + 1) = pre V k ++ PM.le 1 (V.getD k 0)) := rfl
      have HJ2 : Hid (PM.Byt (V.getD k 0) → ∀ j, j < k + 1 → PM.Byt (V.getD j 0)) := fun h j hjj => by
        rcases Nat.lt_or_ge j k with g | g
        · exact hj j g
        · obtain rfl : j = k := by omega
          exact h
      obtain ⟨n, hn⟩ : ∃ n, n = V.getD k 0 := ⟨_, rfl⟩
      rw [← hn] at hc HK HP HJ2
      clear hb hx hy hj hn
      by_cases h0 : 0 ≤ n
      · by_cases h1 : n ≤ 255
        · have hl := PM.le_size 1 n
          have hcv : (convert 50 9 (.slice (some ⟨wr.heap.size, 0, none⟩) 1 1)).run Try.prog (wr.alloc (.cells #[.int .u8 n] 5)) = .ok (.string (PM.le 1 n)) (wr.alloc (.cells #[.int .u8 n] 5)) := by
            rw [le_one n ⟨h0, h1⟩, show n % 256 = n from by omega]
            refine run_convert_bytes_arg _ 50 5 Try.underlying50 Try.underlying5 _ 0 1 1 [n] rfl ?_ 9 Try.underlying9
            intro i hi
            obtain rfl : i = 0 := by omega
            simp
          go_wp2
          go_roundw
          case rel => exact ⟨k + 1, by omega, by go_num, by rw [HP.out], HJ2.out ⟨h0, h1⟩, HB.out.alloc (by have := HB.out.size; omega) _, B.alloc HX1.out _, B.alloc HY1.out _⟩
          case measure => simp [intOf]; omega
        · obtain rfl := HK.out (fun h => h1 h.2)
          go_wp2
          go_ret2
          exact ⟨rfl, HB.out⟩
      · obtain rfl := HK.out (fun h => h0 h.1)
        go_wp2
        go_ret2
        exact ⟨rfl, HB.out⟩
    · obtain rfl : k = 4 := by omega
      clear hb hx hy hj
      by_cases h0 : -2147483648 ≤ m
      · by_cases h1 : m ≤ 2147483647
        · obtain rfl := HY.out V HVV.out HJ.out ⟨h0, h1⟩
          have hl := PM.le_size 4 m
          have HPut : Hid (∀ U, Calls Try.prog 17 #[.int .i64 m, .int .i64 4] U fun e w' => e = .returned (.tuple #[.string (PM.le 4 m), .int .i64 0]) ∧ Below U.heap.size U w') := fun U => CW.put_yes m 4 U (by omega) (by omega)
          go_wp2_with (go_at_call 17; refine (HPut.out _).mono ?_; rintro e w1 ⟨rfl, hb1⟩; have HB1 := hideC (HB.out.trans (hb1.mono HB.out.size)); clear hb1)
          go_ret2
          exact ⟨rfl, HB1.out⟩
        · obtain rfl := HN.out V HVV.out HJ.out (fun h => h1 h.2)
          go_wp2
          go_ret2
          exact ⟨rfl, HB.out⟩
      · obtain rfl := HN.out V HVV.out HJ.out (fun h => h0 h.1)
        go_wp2
        go_ret2
        exact ⟨rfl, HB.out⟩
end Go.Proofs.Ytamocjifffbhpaa.PW
