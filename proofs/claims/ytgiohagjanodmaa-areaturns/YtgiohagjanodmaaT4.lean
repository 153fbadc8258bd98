import Derived.Test.YtgiohagjanodmaaT1
import Derived.Test.YtgiohagjanodmaaT2
import Derived.Test.YtgiohagjanodmaaT3
namespace Go.Proofs.Ytgiohagjanodmaa.W
open Go.RowKit
set_option linter.unusedVariables false

theorem same_true (l : List M.Ar) (v u : Value) (w : World) (hl : Has w v l) (hm : Has w u l) (hf : AllFit l) :
    Calls Try.prog 19 #[v, u] w fun e w' => e = .returned (.bool true) ∧ Below w.heap.size w w' :=
  (same_any l l v u w hl hm hf.2 hf.2).mono fun e w' ⟨r, he, hr, hb⟩ => ⟨by rw [he, hr.2 rfl], hb⟩

set_option maxRecDepth 100000 in
set_option maxHeartbeats 4000000 in
theorem turns_all (l : List M.Ar) (v : Value) (page pages q : Int) (wp : (Lit.int .i64 page).wf = true) (wn : (Lit.int .i64 pages).wf = true) (_ : (Lit.int .i64 q).wf = true) (w : World) (h : Has w v l) (hf : AllFit l) :
    Calls Try.prog 4 #[v, .int .i64 page, .int .i64 pages, .int .i64 q] w fun e w' => e = .returned (.bool true) ∧ Below w.heap.size w w' := by
  have hp := i64_of _ wp
  have hn := i64_of _ wn
  have fa := fit_map l page pages q
  have fb := fit_unmap l page pages
  have fc := fit_protect l page pages q
  have CM := hideC (fun W hW => map_any l v page pages q W hW hf hp hn)
  have CU := hideC (fun W hW => unmap_any l v page pages W hW hf hp hn)
  have CP := hideC (fun W hW => protect_any l v page pages q W hW hf hp hn)
  have RM := hideC (fun W hW => map_ref l v page pages q W hW hf hp hn)
  have RU := hideC (fun W hW => unmap_ref l v page pages W hW hf hp hn)
  have RP := hideC (fun W hW => protect_ref l v page pages q W hW hf hp hn)
  obtain ⟨A, hA⟩ : ∃ A, A = mapN l page pages q := ⟨_, rfl⟩
  obtain ⟨D, hD⟩ : ∃ D, D = unmapN l page pages := ⟨_, rfl⟩
  obtain ⟨C, hC⟩ : ∃ C, C = protectN l page pages q := ⟨_, rfl⟩
  rw [← hA] at fa CM RM
  rw [← hD] at fb CU RU
  rw [← hC] at fc CP RP
  clear hA hD hC
  obtain ⟨al, ae⟩ := A
  obtain ⟨dl, de⟩ := D
  obtain ⟨cl, ce⟩ := C
  have Fa := hideC fa
  have Fb := hideC fb
  have Fc := hideC fc
  clear fa fb fc
  have HB0 : Hid (Below w.heap.size w w) := Below.refl _ _
  go_enter Try.func4, Try.ntmps4
  go_wp2_with fail
  refine (CM.out _ (h.below HB0.out)).mono ?_
  rintro e w1 ⟨ra, rfl, ha1, hb⟩
  have HB1 : Hid (Below w.heap.size w w1) := HB0.out.trans (hb.mono HB0.out.size)
  have ha1q := hideC ha1
  clear ha1 hb
  have ha1 := ha1q
  clear ha1q
  go_wp2_with fail
  refine (CU.out _ (h.below HB1.out)).mono ?_
  rintro e w2 ⟨rb, rfl, hb2, hb⟩
  have HB2 : Hid (Below w.heap.size w w2) := HB1.out.trans (hb.mono HB1.out.size)
  have ha2 := hideC (ha1.out.below hb)
  have hb2q := hideC hb2
  clear hb2 hb
  have hb2 := hb2q
  clear hb2q
  clear ha1
  go_wp2_with fail
  refine (CP.out _ (h.below HB2.out)).mono ?_
  rintro e w3 ⟨rc, rfl, hc3, hb⟩
  have HB3 : Hid (Below w.heap.size w w3) := HB2.out.trans (hb.mono HB2.out.size)
  have ha3 := hideC (ha2.out.below hb)
  have hb3 := hideC (hb2.out.below hb)
  have hc3q := hideC hc3
  clear hc3 hb
  have hc3 := hc3q
  clear hc3q
  clear ha2 hb2
  go_wp2_with fail
  refine (RM.out _ (h.below HB3.out)).mono ?_
  rintro e w4 ⟨rx, rfl, hx4, hb⟩
  have HB4 : Hid (Below w.heap.size w w4) := HB3.out.trans (hb.mono HB3.out.size)
  have ha4 := hideC (ha3.out.below hb)
  have hb4 := hideC (hb3.out.below hb)
  have hc4 := hideC (hc3.out.below hb)
  have hx4q := hideC hx4
  clear hx4 hb
  have hx4 := hx4q
  clear hx4q
  clear ha3 hb3 hc3
  go_wp2_with fail
  refine (RU.out _ (h.below HB4.out)).mono ?_
  rintro e w5 ⟨ry, rfl, hy5, hb⟩
  have HB5 : Hid (Below w.heap.size w w5) := HB4.out.trans (hb.mono HB4.out.size)
  have ha5 := hideC (ha4.out.below hb)
  have hb5 := hideC (hb4.out.below hb)
  have hc5 := hideC (hc4.out.below hb)
  have hx5 := hideC (hx4.out.below hb)
  have hy5q := hideC hy5
  clear hy5 hb
  have hy5 := hy5q
  clear hy5q
  clear ha4 hb4 hc4 hx4
  go_wp2_with fail
  refine (RP.out _ (h.below HB5.out)).mono ?_
  rintro e w6 ⟨rz, rfl, hz6, hb⟩
  have HB6 : Hid (Below w.heap.size w w6) := HB5.out.trans (hb.mono HB5.out.size)
  have ha6 := hideC (ha5.out.below hb)
  have hb6 := hideC (hb5.out.below hb)
  have hc6 := hideC (hc5.out.below hb)
  have hx6 := hideC (hx5.out.below hb)
  have hy6 := hideC (hy5.out.below hb)
  have hz6q := hideC hz6
  clear hz6 hb
  have hz6 := hz6q
  clear hz6q
  clear ha5 hb5 hc5 hx5 hy5
  go_wp2_with fail
  refine (begun _).mono ?_
  rintro e w7 ⟨rfl, hb⟩
  have HB7 : Hid (Below w.heap.size w w7) := HB6.out.trans (hb.mono HB6.out.size)
  have ha7 := hideC (ha6.out.below hb)
  have hb7 := hideC (hb6.out.below hb)
  have hc7 := hideC (hc6.out.below hb)
  have hx7 := hideC (hx6.out.below hb)
  have hy7 := hideC (hy6.out.below hb)
  have hz7 := hideC (hz6.out.below hb)
  clear hb
  go_wp2_with fail
  refine (same_true _ _ _ _ ha7.out hx7.out Fa.out).mono ?_
  rintro e w8 ⟨rfl, hb⟩
  have HB8 : Hid (Below w.heap.size w w8) := HB7.out.trans (hb.mono HB7.out.size)
  have ha8 := hideC (ha7.out.below hb)
  have hb8 := hideC (hb7.out.below hb)
  have hc8 := hideC (hc7.out.below hb)
  have hx8 := hideC (hx7.out.below hb)
  have hy8 := hideC (hy7.out.below hb)
  have hz8 := hideC (hz7.out.below hb)
  clear hb
  go_wp2_with fail
  refine (same_true _ _ _ _ hb8.out hy8.out Fb.out).mono ?_
  rintro e w9 ⟨rfl, hb⟩
  have HB9 : Hid (Below w.heap.size w w9) := HB8.out.trans (hb.mono HB8.out.size)
  have ha9 := hideC (ha8.out.below hb)
  have hb9 := hideC (hb8.out.below hb)
  have hc9 := hideC (hc8.out.below hb)
  have hx9 := hideC (hx8.out.below hb)
  have hy9 := hideC (hy8.out.below hb)
  have hz9 := hideC (hz8.out.below hb)
  clear hb
  go_wp2_with fail
  refine (same_true _ _ _ _ hc9.out hz9.out Fc.out).mono ?_
  rintro e w10 ⟨rfl, hb⟩
  have HB10 : Hid (Below w.heap.size w w10) := HB9.out.trans (hb.mono HB9.out.size)
  have ha10 := hideC (ha9.out.below hb)
  have hb10 := hideC (hb9.out.below hb)
  have hc10 := hideC (hc9.out.below hb)
  have hx10 := hideC (hx9.out.below hb)
  have hy10 := hideC (hy9.out.below hb)
  have hz10 := hideC (hz9.out.below hb)
  clear hb
  go_wp2
  go_ret
  exact ⟨rfl, HB10.out⟩
end Go.Proofs.Ytgiohagjanodmaa.W
