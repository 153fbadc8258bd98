import Derived.Test.YtgiohagjanodmaaR4
import Derived.Test.YtgiohagjanodmaaR6
import Derived.Test.YtgiohagjanodmaaK0
namespace Go.Proofs.Ytgiohagjanodmaa.W
open Go.RowKit
set_option linter.unusedVariables false

set_option maxRecDepth 100000 in
set_option maxHeartbeats 4000000 in
theorem checks_bad (l : List M.Ar) (v : Value) (page : Int) (w : World) (h : Has w v l) (hf : AllFit l) (hc : M.checkN l ≠ 0) :
    Calls Try.prog 3 #[v, .int .i64 page] w fun e w' => e = .returned (.bool true) ∧ Below w.heap.size w w' := by
  have fF : M.findN l page = (⟨0, 0, 0, false⟩, false) := by unfold M.findN; rw [if_neg hc]; rfl
  have fT : M.totalN l = 0 := by unfold M.totalN; rw [if_neg hc]
  have HF := hideC fF
  have HT := hideC fT
  clear fF fT
  have CK := hideC (fun W hW => check_any l v W hW hf)
  have RK := hideC (fun W hW => refCheck_any l v W hW hf)
  obtain ⟨c, hcc⟩ : ∃ c, c = M.checkN l := ⟨_, rfl⟩
  rw [← hcc] at CK RK hc
  clear hcc
  have hc' : (c == 0) = false := by simpa using hc
  go_enter Try.func3, Try.ntmps3
  go_wp2_with fail
  refine (find_any l v page _ h hf).mono ?_
  rintro e w1 ⟨rfl, hb1⟩
  rw [HF.out]
  simp only [cellsOf]
  obtain ⟨V1, hV1⟩ : ∃ V1, V1 = w1.alloc (.cells #[.int .i64 0, .int .i64 0, .int .i64 0, .bool false] 24) := ⟨_, rfl⟩
  have HB1 : Hid (Below w.heap.size w V1) := by show Below _ _ _; rw [hV1]; exact hb1.alloc hb1.size _
  have X1 : Hid (V1.heap[w1.heap.size]? = some (.cells #[.int .i64 0, .int .i64 0, .int .i64 0, .bool false] 24 (0, 0))) := by show _ = _; rw [hV1]; exact B.new _ _ _
  have HV1 := hideC hV1
  clear hb1 hV1
  go_wp2_with fail
  rw [← HV1.out]
  refine (total_any l v _ (h.below HB1.out) hf).mono ?_
  rintro e w2 ⟨rfl, hb2⟩
  rw [HT.out]
  have HB2 : Hid (Below w.heap.size w w2) := HB1.out.trans (hb2.mono HB1.out.size)
  have X2 : Hid (w2.heap[w1.heap.size]? = some (.cells #[.int .i64 0, .int .i64 0, .int .i64 0, .bool false] 24 (0, 0))) := B.below X1.out hb2 (B.isLt X1.out)
  clear hb2
  go_wp2_with fail
  refine (RK.out _ (h.below HB2.out)).mono ?_
  rintro e w3 ⟨rfl, hb3⟩
  have HB3 : Hid (Below w.heap.size w w3) := HB2.out.trans (hb3.mono HB2.out.size)
  have X3 : Hid (w3.heap[w1.heap.size]? = some (.cells #[.int .i64 0, .int .i64 0, .int .i64 0, .bool false] 24 (0, 0))) := B.below X2.out hb3 (B.isLt X2.out)
  clear hb3
  go_wp2_with fail
  refine (begun _).mono ?_
  rintro e w4 ⟨rfl, hb4⟩
  have HB4 : Hid (Below w.heap.size w w4) := HB3.out.trans (hb4.mono HB3.out.size)
  have X4 : Hid (w4.heap[w1.heap.size]? = some (.cells #[.int .i64 0, .int .i64 0, .int .i64 0, .bool false] 24 (0, 0))) := B.below X3.out hb4 (B.isLt X3.out)
  clear hb4
  go_wp2_with fail
  refine (CK.out _ (h.below HB4.out)).mono ?_
  rintro e w5 ⟨rfl, hb5⟩
  have HB5 : Hid (Below w.heap.size w w5) := HB4.out.trans (hb5.mono HB4.out.size)
  have X5 := B.below X4.out hb5 (B.isLt X4.out)
  have y0 := B.cell X5 0 rfl
  have y1 := B.cell X5 1 rfl
  have y2 := B.cell X5 2 rfl
  have y3 := B.cell X5 3 rfl
  clear hb5
  go_wp2
  go_ret
  exact ⟨rfl, HB5.out⟩

set_option maxRecDepth 100000 in
set_option maxHeartbeats 4000000 in
theorem checks_good (l : List M.Ar) (v : Value) (page : Int) (w : World) (h : Has w v l) (hf : AllFit l) (hc : M.checkN l = 0) :
    Calls Try.prog 3 #[v, .int .i64 page] w fun e w' => e = .returned (.bool true) ∧ Below w.heap.size w w' := by
  have FD := hideC (fun W hW => find_any l v page W hW hf)
  have AA := hideC (fun W hW => areaAt_any l v page W hW hc)
  have TT := hideC (fun W hW => total_any l v W hW hf)
  have PP := hideC (fun W hW => pages_any l v W hW hc)
  have CK := hideC (fun W hW => check_any l v W hW hf)
  have RK := hideC (fun W hW => refCheck_any l v W hW hf)
  rw [hc] at CK RK
  obtain ⟨r, hr⟩ : ∃ r, r = M.findN l page := ⟨_, rfl⟩
  obtain ⟨t, ht⟩ : ∃ t, t = M.totalN l := ⟨_, rfl⟩
  rw [← hr] at FD AA
  rw [← ht] at TT PP
  clear hr ht hc
  obtain ⟨⟨p, n, q, z⟩, f⟩ := r
  simp only [cellsOf] at FD AA
  go_enter Try.func3, Try.ntmps3
  go_wp2_with fail
  refine (FD.out _ h).mono ?_
  rintro e w1 ⟨rfl, hb1⟩
  obtain ⟨V1, hV1⟩ : ∃ V1, V1 = w1.alloc (.cells #[.int .i64 p, .int .i64 n, .int .i64 q, .bool z] 24) := ⟨_, rfl⟩
  have HB1 : Hid (Below w.heap.size w V1) := by show Below _ _ _; rw [hV1]; exact hb1.alloc hb1.size _
  have X1 : Hid (V1.heap[w1.heap.size]? = some (.cells #[.int .i64 p, .int .i64 n, .int .i64 q, .bool z] 24 (0, 0))) := by show _ = _; rw [hV1]; exact B.new _ _ _
  have HV1 := hideC hV1
  clear hb1 hV1
  go_wp2_with fail
  rw [← HV1.out]
  refine (TT.out _ (h.below HB1.out)).mono ?_
  rintro e w2 ⟨rfl, hb2⟩
  have HB2 : Hid (Below w.heap.size w w2) := HB1.out.trans (hb2.mono HB1.out.size)
  have X2 : Hid (w2.heap[w1.heap.size]? = some (.cells #[.int .i64 p, .int .i64 n, .int .i64 q, .bool z] 24 (0, 0))) := B.below X1.out hb2 (B.isLt X1.out)
  clear hb2
  go_wp2_with fail
  refine (RK.out _ (h.below HB2.out)).mono ?_
  rintro e w3 ⟨rfl, hb3⟩
  have HB3 : Hid (Below w.heap.size w w3) := HB2.out.trans (hb3.mono HB2.out.size)
  have X3 : Hid (w3.heap[w1.heap.size]? = some (.cells #[.int .i64 p, .int .i64 n, .int .i64 q, .bool z] 24 (0, 0))) := B.below X2.out hb3 (B.isLt X2.out)
  clear hb3
  go_wp2_with fail
  refine (AA.out _ (h.below HB3.out)).mono ?_
  rintro e w4 ⟨rfl, hb4⟩
  obtain ⟨V4, hV4⟩ : ∃ V4, V4 = w4.alloc (.cells #[.int .i64 p, .int .i64 n, .int .i64 q, .bool z] 24) := ⟨_, rfl⟩
  have hbv : Below w3.heap.size w3 V4 := by rw [hV4]; exact hb4.alloc hb4.size _
  have HB4 : Hid (Below w.heap.size w V4) := HB3.out.trans (hbv.mono HB3.out.size)
  have X4 : Hid (V4.heap[w1.heap.size]? = some (.cells #[.int .i64 p, .int .i64 n, .int .i64 q, .bool z] 24 (0, 0))) := B.below X3.out hbv (B.isLt X3.out)
  have Y4 : Hid (V4.heap[w4.heap.size]? = some (.cells #[.int .i64 p, .int .i64 n, .int .i64 q, .bool z] 24 (0, 0))) := by show _ = _; rw [hV4]; exact B.new _ _ _
  have HV4 := hideC hV4
  clear hb4 hV4 hbv
  go_wp2_with fail
  rw [← HV4.out]
  refine (begun _).mono ?_
  rintro e w5 ⟨rfl, hb5⟩
  have HB5 : Hid (Below w.heap.size w w5) := HB4.out.trans (hb5.mono HB4.out.size)
  have X5 : Hid (w5.heap[w1.heap.size]? = some (.cells #[.int .i64 p, .int .i64 n, .int .i64 q, .bool z] 24 (0, 0))) := B.below X4.out hb5 (B.isLt X4.out)
  have Y5 : Hid (w5.heap[w4.heap.size]? = some (.cells #[.int .i64 p, .int .i64 n, .int .i64 q, .bool z] 24 (0, 0))) := B.below Y4.out hb5 (B.isLt Y4.out)
  clear hb5
  go_wp2_with fail
  refine (CK.out _ (h.below HB5.out)).mono ?_
  rintro e w6 ⟨rfl, hb6⟩
  have HB6 : Hid (Below w.heap.size w w6) := HB5.out.trans (hb6.mono HB5.out.size)
  have X6 := B.below X5.out hb6 (B.isLt X5.out)
  have Y6 := B.below Y5.out hb6 (B.isLt Y5.out)
  have x0 := B.cell X6 0 rfl
  have x1 := B.cell X6 1 rfl
  have x2 := B.cell X6 2 rfl
  have x3 := B.cell X6 3 rfl
  have y0 := B.cell Y6 0 rfl
  have y1 := B.cell Y6 1 rfl
  have y2 := B.cell Y6 2 rfl
  have y3 := B.cell Y6 3 rfl
  have HX6 := hideC X6
  have HY6 := hideC Y6
  clear hb6 X6 Y6
  go_wp2_with fail
  refine (PP.out _ (h.below HB6.out)).mono ?_
  rintro e w7 ⟨rfl, hb7⟩
  go_wp2
  go_ret
  exact ⟨rfl, HB6.out.trans (hb7.mono HB6.out.size)⟩

theorem checks_all (l : List M.Ar) (v : Value) (page : Int) (wp : (Lit.int .i64 page).wf = true) (w : World) (h : Has w v l) (hf : AllFit l) :
    Calls Try.prog 3 #[v, .int .i64 page] w fun e w' => e = .returned (.bool true) ∧ Below w.heap.size w w' := by
  by_cases hc : M.checkN l = 0
  · exact checks_good l v page w h hf hc
  · exact checks_bad l v page w h hf hc
end Go.Proofs.Ytgiohagjanodmaa.W
