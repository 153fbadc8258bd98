import Derived.Test.YtgiohagjanodmaaW9
import Derived.Test.YtgiohagjanodmaaWA
import Derived.Test.YtgiohagjanodmaaWB
namespace Go.Proofs.Ytgiohagjanodmaa.W
open Go.RowKit
set_option linter.unusedVariables false

/-- what Map, Unmap, Protect answer -/
def mapN (l : List M.Ar) (page pages q : Int) : List M.Ar × Int := M.turnN l page pages q (howMap q)
def unmapN (l : List M.Ar) (page pages : Int) : List M.Ar × Int := M.turnN l page pages 0 howUnmap
def protectN (l : List M.Ar) (page pages q : Int) : List M.Ar × Int := M.turnN l page pages q (howProtect q)
def I64 (n : Int) : Prop := -9223372036854775808 ≤ n ∧ n ≤ 9223372036854775807

set_option maxHeartbeats 400000 in
theorem map_any (l : List M.Ar) (v : Value) (page pages q : Int) (w : World) (h : Has w v l) (hf : AllFit l) (hp : I64 page) (hn : I64 pages) :
    Calls Try.prog 13 #[v, .int .i64 page, .int .i64 pages, .int .i64 q] w fun e w' => ∃ r, e = .returned (.tuple #[r, .int .i64 (mapN l page pages q).2]) ∧ Has w' r (mapN l page pages q).1 ∧ Below w.heap.size w w' := by
  have hb0 : Below w.heap.size w (w.alloc (.cells #[.int .i64 q] 3)) := (Below.refl _ _).alloc (Nat.le_refl _) _
  have hP := B.cell (B.new w #[.int .i64 q] 3) 0 rfl
  have H := h.below hb0
  have HP : Hid ((w.alloc (.cells #[.int .i64 q] 3)).cell? ⟨w.heap.size, 0, none⟩ = some (.int .i64 q)) := hP
  clear hP
  go_enter Try.func13, Try.ntmps13
  go_wp2_with fail
  refine (turn_map l v page pages q w.heap.size _ H hf hp hn HP.out).mono ?_
  rintro e w1 ⟨r, rfl, hr, hb1⟩
  go_wp2
  go_ret2
  exact ⟨r, rfl, hr, hb0.trans (hb1.mono hb0.size)⟩
set_option maxHeartbeats 400000 in
theorem unmap_any (l : List M.Ar) (v : Value) (page pages : Int) (w : World) (h : Has w v l) (hf : AllFit l) (hp : I64 page) (hn : I64 pages) :
    Calls Try.prog 14 #[v, .int .i64 page, .int .i64 pages] w fun e w' => ∃ r, e = .returned (.tuple #[r, .int .i64 (unmapN l page pages).2]) ∧ Has w' r (unmapN l page pages).1 ∧ Below w.heap.size w w' := by
  go_enter Try.func14, Try.ntmps14
  go_wp2_with fail
  refine (turn_unmap l v page pages 0 _ h hf hp hn).mono ?_
  rintro e w1 ⟨r, rfl, hr, hb1⟩
  go_wp2
  go_ret2
  exact ⟨r, rfl, hr, hb1⟩
set_option maxHeartbeats 400000 in
theorem protect_any (l : List M.Ar) (v : Value) (page pages q : Int) (w : World) (h : Has w v l) (hf : AllFit l) (hp : I64 page) (hn : I64 pages) :
    Calls Try.prog 15 #[v, .int .i64 page, .int .i64 pages, .int .i64 q] w fun e w' => ∃ r, e = .returned (.tuple #[r, .int .i64 (protectN l page pages q).2]) ∧ Has w' r (protectN l page pages q).1 ∧ Below w.heap.size w w' := by
  have hb0 : Below w.heap.size w (w.alloc (.cells #[.int .i64 q] 3)) := (Below.refl _ _).alloc (Nat.le_refl _) _
  have hP := B.cell (B.new w #[.int .i64 q] 3) 0 rfl
  have H := h.below hb0
  have HP : Hid ((w.alloc (.cells #[.int .i64 q] 3)).cell? ⟨w.heap.size, 0, none⟩ = some (.int .i64 q)) := hP
  clear hP
  go_enter Try.func15, Try.ntmps15
  go_wp2_with fail
  refine (turn_protect l v page pages q w.heap.size _ H hf hp hn HP.out).mono ?_
  rintro e w1 ⟨r, rfl, hr, hb1⟩
  go_wp2
  go_ret2
  exact ⟨r, rfl, hr, hb0.trans (hb1.mono hb0.size)⟩
end Go.Proofs.Ytgiohagjanodmaa.W
