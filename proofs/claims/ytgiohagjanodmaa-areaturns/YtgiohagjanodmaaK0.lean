import Derived.Test.YtgiohagjanodmaaWE
namespace Go.Proofs.Ytgiohagjanodmaa.W
open Go.RowKit
set_option linter.unusedVariables false

theorem hideC {p : Prop} (h : p) : Hid p := h

set_option maxRecDepth 100000 in
set_option maxHeartbeats 4000000 in
theorem keeps_none (l : List M.Ar) (v : Value) (page pages q c : Int) (w : World) (h : Has w v l) (hf : AllFit l) (hp : I64 page) (hn : I64 pages) (hc : I64 c)
    (hE : (mapN l page pages q).2 ≠ 0) (hU : (unmapN l page pages).2 ≠ 0) (hG : (protectN l page pages q).2 ≠ 0) :
    Calls Try.prog 5 #[v, .int .i64 page, .int .i64 pages, .int .i64 q, .int .i64 c] w fun e w' => e = .returned (.bool true) ∧ Below w.heap.size w w' := by
  have hE' : ((mapN l page pages q).2 == 0) = false := by simpa using hE
  have hU' : ((unmapN l page pages).2 == 0) = false := by simpa using hU
  have hG' : ((protectN l page pages q).2 == 0) = false := by simpa using hG
  have fa := fit_map l page pages q
  have fb := fit_unmap l page pages
  have fc := fit_protect l page pages q
  obtain ⟨A, hA⟩ : ∃ A, A = mapN l page pages q := ⟨_, rfl⟩
  obtain ⟨Bu, hBu⟩ : ∃ Bu, Bu = unmapN l page pages := ⟨_, rfl⟩
  obtain ⟨C, hC⟩ : ∃ C, C = protectN l page pages q := ⟨_, rfl⟩
  have cm := fun W hW => map_any l v page pages q W hW hf hp hn
  have cu := fun W hW => unmap_any l v page pages W hW hf hp hn
  have cp := fun W hW => protect_any l v page pages q W hW hf hp hn
  rw [← hA] at hE hE' fa cm
  rw [← hBu] at hU hU' fb cu
  rw [← hC] at hG hG' fc cp
  have CM := hideC cm
  have CU := hideC cu
  have CP := hideC cp
  clear cm cu cp hA hBu hC hE hU hG
  obtain ⟨ea, hea⟩ : ∃ ea, ea = A.2 := ⟨_, rfl⟩
  obtain ⟨eb, heb⟩ : ∃ eb, eb = Bu.2 := ⟨_, rfl⟩
  obtain ⟨ec, hec⟩ : ∃ ec, ec = C.2 := ⟨_, rfl⟩
  rw [← hea] at hE'
  rw [← heb] at hU'
  rw [← hec] at hG'
  have Hea := hideC hea
  have Heb := hideC heb
  have Hec := hideC hec
  clear hea heb hec
  go_enter Try.func5, Try.ntmps5
  go_wp2_with fail
  refine (choose_any c 255 _ hc.1 hc.2 (by omega) (by omega)).mono ?_
  rintro e w0 ⟨x, hx0, hx1, rfl, rfl⟩
  go_wp2_with fail
  obtain ⟨P, hP, hP1, hP2⟩ : ∃ P : Nat, 1 + x = (P : Int) ∧ 1 ≤ P ∧ P ≤ 255 := ⟨(1 + x).toNat, by omega, by omega, by omega⟩
  rw [hP]
  clear hP hx0 hx1
  refine (find_any l v P _ h hf).mono ?_
  rintro e w1 ⟨rfl, hb1⟩
  obtain ⟨r0, hr0⟩ : ∃ r, r = M.findN l P := ⟨_, rfl⟩
  rw [← hr0]
  clear hr0
  obtain ⟨r1, hr1⟩ : ∃ r, r = M.findN A.1 P := ⟨_, rfl⟩
  have HR1 := hideC hr1
  clear hr1
  obtain ⟨r2, hr2⟩ : ∃ r, r = M.findN Bu.1 P := ⟨_, rfl⟩
  have HR2 := hideC hr2
  clear hr2
  obtain ⟨r3, hr3⟩ : ∃ r, r = M.findN C.1 P := ⟨_, rfl⟩
  have HR3 := hideC hr3
  clear hr3
  obtain ⟨⟨p0, n0, q0, z0⟩, f0⟩ := r0
  obtain ⟨⟨p1, n1, q1, z1⟩, f1⟩ := r1
  obtain ⟨⟨p2, n2, q2, z2⟩, f2⟩ := r2
  obtain ⟨⟨p3, n3, q3, z3⟩, f3⟩ := r3
  simp only [cellsOf]
  have HB1 : Hid (Below w.heap.size w (w1.alloc (.cells #[.int .i64 p0, .int .i64 n0, .int .i64 q0, .bool z0] 24))) := hb1.alloc hb1.size _
  have X0 : Hid ((w1.alloc (.cells #[.int .i64 p0, .int .i64 n0, .int .i64 q0, .bool z0] 24)).heap[w1.heap.size]? = some (.cells #[.int .i64 p0, .int .i64 n0, .int .i64 q0, .bool z0] 24 (0, 0))) := B.new _ _ _
  clear hb1
  by_cases d1 : page ≤ (P : Int)
  · go_wp2_with fail
    refine (CM.out _ (h.below HB1.out)).mono ?_
    rintro e w2 ⟨a, rfl, ha, hb2⟩
    rw [← Hea.out]
    have HB2 : Hid (Below w.heap.size w w2) := HB1.out.trans (hb2.mono HB1.out.size)
    have X02 : Hid (w2.heap[w1.heap.size]? = some (.cells #[.int .i64 p0, .int .i64 n0, .int .i64 q0, .bool z0] 24 (0, 0))) := B.below X0.out hb2 (B.isLt X0.out)
    clear hb2 HB1 X0
    go_wp2_with fail
    refine (CU.out _ (h.below HB2.out)).mono ?_
    rintro e w3 ⟨b, rfl, hb, hb3⟩
    rw [← Heb.out]
    have ha3 := ha.below hb3
    have HB3 : Hid (Below w.heap.size w w3) := HB2.out.trans (hb3.mono HB2.out.size)
    have X03 : Hid (w3.heap[w1.heap.size]? = some (.cells #[.int .i64 p0, .int .i64 n0, .int .i64 q0, .bool z0] 24 (0, 0))) := B.below X02.out hb3 (B.isLt X02.out)
    clear hb3 HB2 X02 ha
    go_wp2_with fail
    refine (CP.out _ (h.below HB3.out)).mono ?_
    rintro e w4 ⟨c', rfl, hc4, hb4⟩
    rw [← Hec.out]
    have ha4 := ha3.below hb4
    have hb4' := hb.below hb4
    have HB4 : Hid (Below w.heap.size w w4) := HB3.out.trans (hb4.mono HB3.out.size)
    have X04 : Hid (w4.heap[w1.heap.size]? = some (.cells #[.int .i64 p0, .int .i64 n0, .int .i64 q0, .bool z0] 24 (0, 0))) := B.below X03.out hb4 (B.isLt X03.out)
    clear hb4 HB3 X03 ha3 hb
    go_wp2_with fail
    refine (find_any A.1 a P _ ha4 fa).mono ?_
    rintro e w5 ⟨rfl, hb5⟩
    rw [← HR1.out]
    simp only [cellsOf]
    obtain ⟨V5, hV5⟩ : ∃ V5, V5 = w5.alloc (.cells #[.int .i64 p1, .int .i64 n1, .int .i64 q1, .bool z1] 24) := ⟨_, rfl⟩
    have hbv5 : Below w4.heap.size w4 V5 := by rw [hV5]; exact hb5.alloc hb5.size _
    have ha5 := ha4.below hbv5
    have hb5' := hb4'.below hbv5
    have hc5 := hc4.below hbv5
    have HB5 : Hid (Below w.heap.size w V5) := HB4.out.trans (hbv5.mono HB4.out.size)
    have X05 : Hid (V5.heap[w1.heap.size]? = some (.cells #[.int .i64 p0, .int .i64 n0, .int .i64 q0, .bool z0] 24 (0, 0))) := B.below X04.out hbv5 (B.isLt X04.out)
    have X15 : Hid (V5.heap[w5.heap.size]? = some (.cells #[.int .i64 p1, .int .i64 n1, .int .i64 q1, .bool z1] 24 (0, 0))) := by show _ = _; rw [hV5]; exact B.new _ _ _
    have HV5 := hideC hV5
    clear hb5 hbv5 hV5 HB4 X04 ha4 hb4' hc4
    go_wp2_with fail
    rw [← HV5.out]
    refine (find_any Bu.1 b P _ hb5' fb).mono ?_
    rintro e w6 ⟨rfl, hb6⟩
    rw [← HR2.out]
    simp only [cellsOf]
    obtain ⟨V6, hV6⟩ : ∃ V6, V6 = w6.alloc (.cells #[.int .i64 p2, .int .i64 n2, .int .i64 q2, .bool z2] 24) := ⟨_, rfl⟩
    have hbv6 : Below V5.heap.size V5 V6 := by rw [hV6]; exact hb6.alloc hb6.size _
    have ha6 := ha5.below hbv6
    have hb6' := hb5'.below hbv6
    have hc6 := hc5.below hbv6
    have HB6 : Hid (Below w.heap.size w V6) := HB5.out.trans (hbv6.mono HB5.out.size)
    have X06 : Hid (V6.heap[w1.heap.size]? = some (.cells #[.int .i64 p0, .int .i64 n0, .int .i64 q0, .bool z0] 24 (0, 0))) := B.below X05.out hbv6 (B.isLt X05.out)
    have X16 : Hid (V6.heap[w5.heap.size]? = some (.cells #[.int .i64 p1, .int .i64 n1, .int .i64 q1, .bool z1] 24 (0, 0))) := B.below X15.out hbv6 (B.isLt X15.out)
    have X26 : Hid (V6.heap[w6.heap.size]? = some (.cells #[.int .i64 p2, .int .i64 n2, .int .i64 q2, .bool z2] 24 (0, 0))) := by show _ = _; rw [hV6]; exact B.new _ _ _
    have HV6 := hideC hV6
    clear hb6 hbv6 hV6 HV5 HB5 X05 X15 ha5 hb5' hc5
    go_wp2_with fail
    rw [← HV6.out]
    refine (find_any C.1 c' P _ hc6 fc).mono ?_
    rintro e w7 ⟨rfl, hb7⟩
    rw [← HR3.out]
    simp only [cellsOf]
    obtain ⟨V7, hV7⟩ : ∃ V7, V7 = w7.alloc (.cells #[.int .i64 p3, .int .i64 n3, .int .i64 q3, .bool z3] 24) := ⟨_, rfl⟩
    have hbv7 : Below V6.heap.size V6 V7 := by rw [hV7]; exact hb7.alloc hb7.size _
    have ha7 := hideC (ha6.below hbv7)
    have hb7' := hideC (hb6'.below hbv7)
    have hc7 := hideC (hc6.below hbv7)
    have HB7 : Hid (Below w.heap.size w V7) := HB6.out.trans (hbv7.mono HB6.out.size)
    have X07 := B.below X06.out hbv7 (B.isLt X06.out)
    have X17 := B.below X16.out hbv7 (B.isLt X16.out)
    have X27 := B.below X26.out hbv7 (B.isLt X26.out)
    have X37 : V7.heap[w7.heap.size]? = some (.cells #[.int .i64 p3, .int .i64 n3, .int .i64 q3, .bool z3] 24 (0, 0)) := by rw [hV7]; exact B.new _ _ _
    have HV7 := hideC hV7
    clear hb7 hbv7 hV7 HV6 HB6 X06 X16 X26 ha6 hb6' hc6
    have y02 := B.cell X07 2 rfl
    have y03 := B.cell X07 3 rfl
    have y12 := B.cell X17 2 rfl
    have y13 := B.cell X17 3 rfl
    have y22 := B.cell X27 2 rfl
    have y23 := B.cell X27 3 rfl
    have y32 := B.cell X37 2 rfl
    have y33 := B.cell X37 3 rfl
    have Z07 := hideC X07
    have Z17 := hideC X17
    have Z27 := hideC X27
    have Z37 := hideC X37
    clear X07 X17 X27 X37
    go_wp2_with fail
    rw [← HV7.out]
    refine (begun _).mono ?_
    rintro e w20 ⟨rfl, hbz⟩
    go_wp2
    go_ret
    exact ⟨rfl, HB7.out.trans (hbz.mono HB7.out.size)⟩
  · have d2 : decide (page ≤ (P : Int)) = false := by simp; omega
    go_wp2_with fail
    refine (CM.out _ (h.below HB1.out)).mono ?_
    rintro e w2 ⟨a, rfl, ha, hb2⟩
    rw [← Hea.out]
    have HB2 : Hid (Below w.heap.size w w2) := HB1.out.trans (hb2.mono HB1.out.size)
    have X02 : Hid (w2.heap[w1.heap.size]? = some (.cells #[.int .i64 p0, .int .i64 n0, .int .i64 q0, .bool z0] 24 (0, 0))) := B.below X0.out hb2 (B.isLt X0.out)
    clear hb2 HB1 X0
    go_wp2_with fail
    refine (CU.out _ (h.below HB2.out)).mono ?_
    rintro e w3 ⟨b, rfl, hb, hb3⟩
    rw [← Heb.out]
    have ha3 := ha.below hb3
    have HB3 : Hid (Below w.heap.size w w3) := HB2.out.trans (hb3.mono HB2.out.size)
    have X03 : Hid (w3.heap[w1.heap.size]? = some (.cells #[.int .i64 p0, .int .i64 n0, .int .i64 q0, .bool z0] 24 (0, 0))) := B.below X02.out hb3 (B.isLt X02.out)
    clear hb3 HB2 X02 ha
    go_wp2_with fail
    refine (CP.out _ (h.below HB3.out)).mono ?_
    rintro e w4 ⟨c', rfl, hc4, hb4⟩
    rw [← Hec.out]
    have ha4 := ha3.below hb4
    have hb4' := hb.below hb4
    have HB4 : Hid (Below w.heap.size w w4) := HB3.out.trans (hb4.mono HB3.out.size)
    have X04 : Hid (w4.heap[w1.heap.size]? = some (.cells #[.int .i64 p0, .int .i64 n0, .int .i64 q0, .bool z0] 24 (0, 0))) := B.below X03.out hb4 (B.isLt X03.out)
    clear hb4 HB3 X03 ha3 hb
    go_wp2_with fail
    refine (find_any A.1 a P _ ha4 fa).mono ?_
    rintro e w5 ⟨rfl, hb5⟩
    rw [← HR1.out]
    simp only [cellsOf]
    obtain ⟨V5, hV5⟩ : ∃ V5, V5 = w5.alloc (.cells #[.int .i64 p1, .int .i64 n1, .int .i64 q1, .bool z1] 24) := ⟨_, rfl⟩
    have hbv5 : Below w4.heap.size w4 V5 := by rw [hV5]; exact hb5.alloc hb5.size _
    have ha5 := ha4.below hbv5
    have hb5' := hb4'.below hbv5
    have hc5 := hc4.below hbv5
    have HB5 : Hid (Below w.heap.size w V5) := HB4.out.trans (hbv5.mono HB4.out.size)
    have X05 : Hid (V5.heap[w1.heap.size]? = some (.cells #[.int .i64 p0, .int .i64 n0, .int .i64 q0, .bool z0] 24 (0, 0))) := B.below X04.out hbv5 (B.isLt X04.out)
    have X15 : Hid (V5.heap[w5.heap.size]? = some (.cells #[.int .i64 p1, .int .i64 n1, .int .i64 q1, .bool z1] 24 (0, 0))) := by show _ = _; rw [hV5]; exact B.new _ _ _
    have HV5 := hideC hV5
    clear hb5 hbv5 hV5 HB4 X04 ha4 hb4' hc4
    go_wp2_with fail
    rw [← HV5.out]
    refine (find_any Bu.1 b P _ hb5' fb).mono ?_
    rintro e w6 ⟨rfl, hb6⟩
    rw [← HR2.out]
    simp only [cellsOf]
    obtain ⟨V6, hV6⟩ : ∃ V6, V6 = w6.alloc (.cells #[.int .i64 p2, .int .i64 n2, .int .i64 q2, .bool z2] 24) := ⟨_, rfl⟩
    have hbv6 : Below V5.heap.size V5 V6 := by rw [hV6]; exact hb6.alloc hb6.size _
    have ha6 := ha5.below hbv6
    have hb6' := hb5'.below hbv6
    have hc6 := hc5.below hbv6
    have HB6 : Hid (Below w.heap.size w V6) := HB5.out.trans (hbv6.mono HB5.out.size)
    have X06 : Hid (V6.heap[w1.heap.size]? = some (.cells #[.int .i64 p0, .int .i64 n0, .int .i64 q0, .bool z0] 24 (0, 0))) := B.below X05.out hbv6 (B.isLt X05.out)
    have X16 : Hid (V6.heap[w5.heap.size]? = some (.cells #[.int .i64 p1, .int .i64 n1, .int .i64 q1, .bool z1] 24 (0, 0))) := B.below X15.out hbv6 (B.isLt X15.out)
    have X26 : Hid (V6.heap[w6.heap.size]? = some (.cells #[.int .i64 p2, .int .i64 n2, .int .i64 q2, .bool z2] 24 (0, 0))) := by show _ = _; rw [hV6]; exact B.new _ _ _
    have HV6 := hideC hV6
    clear hb6 hbv6 hV6 HV5 HB5 X05 X15 ha5 hb5' hc5
    go_wp2_with fail
    rw [← HV6.out]
    refine (find_any C.1 c' P _ hc6 fc).mono ?_
    rintro e w7 ⟨rfl, hb7⟩
    rw [← HR3.out]
    simp only [cellsOf]
    obtain ⟨V7, hV7⟩ : ∃ V7, V7 = w7.alloc (.cells #[.int .i64 p3, .int .i64 n3, .int .i64 q3, .bool z3] 24) := ⟨_, rfl⟩
    have hbv7 : Below V6.heap.size V6 V7 := by rw [hV7]; exact hb7.alloc hb7.size _
    have ha7 := hideC (ha6.below hbv7)
    have hb7' := hideC (hb6'.below hbv7)
    have hc7 := hideC (hc6.below hbv7)
    have HB7 : Hid (Below w.heap.size w V7) := HB6.out.trans (hbv7.mono HB6.out.size)
    have X07 := B.below X06.out hbv7 (B.isLt X06.out)
    have X17 := B.below X16.out hbv7 (B.isLt X16.out)
    have X27 := B.below X26.out hbv7 (B.isLt X26.out)
    have X37 : V7.heap[w7.heap.size]? = some (.cells #[.int .i64 p3, .int .i64 n3, .int .i64 q3, .bool z3] 24 (0, 0)) := by rw [hV7]; exact B.new _ _ _
    have HV7 := hideC hV7
    clear hb7 hbv7 hV7 HV6 HB6 X06 X16 X26 ha6 hb6' hc6
    have y02 := B.cell X07 2 rfl
    have y03 := B.cell X07 3 rfl
    have y12 := B.cell X17 2 rfl
    have y13 := B.cell X17 3 rfl
    have y22 := B.cell X27 2 rfl
    have y23 := B.cell X27 3 rfl
    have y32 := B.cell X37 2 rfl
    have y33 := B.cell X37 3 rfl
    have Z07 := hideC X07
    have Z17 := hideC X17
    have Z27 := hideC X27
    have Z37 := hideC X37
    clear X07 X17 X27 X37
    go_wp2_with fail
    rw [← HV7.out]
    refine (begun _).mono ?_
    rintro e w20 ⟨rfl, hbz⟩
    go_wp2
    go_ret
    exact ⟨rfl, HB7.out.trans (hbz.mono HB7.out.size)⟩

end Go.Proofs.Ytgiohagjanodmaa.W
