import Derived.Test.YtgiohagjanodmaaW7
namespace Go.Proofs.Ytgiohagjanodmaa.W
open Go.RowKit
set_option linter.unusedVariables false

/-- how Map turns a page, and the error -/
def howMap (q : Int) (s : M.St) : M.St × Int := if s.m then (s, 5) else (⟨true, q, true⟩, 0)
def howUnmap (s : M.St) : M.St × Int := (M.off, 0)
def howProtect (q : Int) (s : M.St) : M.St × Int := if s.m then (⟨s.m, q, s.z⟩, 0) else (s, 6)
def aggSt (s : M.St) : Value := .agg #[.bool s.m, .int .i64 s.p, .bool s.z]

set_option maxHeartbeats 400000 in
theorem map1_any (s : M.St) (q : Int) (P : Nat) (w : World) (hP : w.cell? ⟨P, 0, none⟩ = some (.int .i64 q)) :
    Calls Try.prog 29 #[.agg #[.bool s.m, .int .i64 s.p, .bool s.z], .pointer (some ⟨P, 0, none⟩)] w fun e w' => e = .returned (.tuple #[aggSt (howMap q s).1, .int .i64 (howMap q s).2]) ∧ Below w.heap.size w w' := by
  have hPl : P < w.heap.size := World.block_lt_of_cell? w _ hP
  obtain ⟨m, p, z⟩ := s
  cases m
  · go_enter Try.func29, Try.ntmps29
    go_wp2
    exact bodyPost_ret (v := .tuple #[.agg #[.bool true, .int .i64 q, .bool true], .int .i64 0]) (by simp [results, Try.results29, go_sem]) rfl ⟨rfl, ((Below.refl _ _).alloc (Nat.le_refl _) _).alloc (by simp) _⟩
  · go_enter Try.func29, Try.ntmps29
    go_wp2
    exact bodyPost_ret (v := .tuple #[.agg #[.bool true, .int .i64 p, .bool z], .int .i64 5]) (by simp [results, Try.results29, go_sem]) rfl ⟨rfl, ((Below.refl _ _).alloc (Nat.le_refl _) _).alloc (by simp) _⟩
set_option maxHeartbeats 400000 in
theorem unmap1_any (s : M.St) (w : World) :
    Calls Try.prog 30 #[.agg #[.bool s.m, .int .i64 s.p, .bool s.z]] w fun e w' => e = .returned (.tuple #[aggSt (howUnmap s).1, .int .i64 (howUnmap s).2]) ∧ Below w.heap.size w w' := by
  go_enter Try.func30, Try.ntmps30
  go_wp2
  exact bodyPost_ret (v := .tuple #[.agg #[.bool false, .int .i64 0, .bool false], .int .i64 0]) (by simp [results, Try.results30, go_sem]) rfl ⟨rfl, ((Below.refl _ _).alloc (Nat.le_refl _) _).alloc (by simp) _⟩
set_option maxHeartbeats 400000 in
theorem protect1_any (s : M.St) (q : Int) (P : Nat) (w : World) (hP : w.cell? ⟨P, 0, none⟩ = some (.int .i64 q)) :
    Calls Try.prog 31 #[.agg #[.bool s.m, .int .i64 s.p, .bool s.z], .pointer (some ⟨P, 0, none⟩)] w fun e w' => e = .returned (.tuple #[aggSt (howProtect q s).1, .int .i64 (howProtect q s).2]) ∧ Below w.heap.size w w' := by
  have hPl : P < w.heap.size := World.block_lt_of_cell? w _ hP
  obtain ⟨m, p, z⟩ := s
  cases m
  · go_enter Try.func31, Try.ntmps31
    go_wp2
    exact bodyPost_ret (v := .tuple #[.agg #[.bool false, .int .i64 p, .bool z], .int .i64 6]) (by simp [results, Try.results31, go_sem]) rfl ⟨rfl, ((Below.refl _ _).alloc (Nat.le_refl _) _).alloc (by simp) _⟩
  · go_enter Try.func31, Try.ntmps31
    go_wp2
    exact bodyPost_ret (v := .tuple #[.agg #[.bool true, .int .i64 q, .bool z], .int .i64 0]) (by simp [results, Try.results31, go_sem]) rfl ⟨rfl, ((Below.refl _ _).alloc (Nat.le_refl _) _).alloc (by simp) _⟩

theorem Has.below {w w' : World} {v : Value} {l : List M.Ar} (h : Has w v l) (hb : Below w.heap.size w w') : Has w' v l := by
  obtain ⟨ao, cap, rfl, h⟩ := h
  rcases h with rfl | ⟨b, off, rfl, hl⟩
  · exact ⟨ao, cap, rfl, .inl rfl⟩
  · exact ⟨_, cap, rfl, .inr ⟨b, off, rfl, hl.below hb⟩⟩
def AllFit (l : List M.Ar) : Prop := (∀ i, i < l.length → M.Fits (M.at_ l i)) ∧ l.length ≤ 140737488351232

theorem check_any (l : List M.Ar) (v : Value) (w : World) (h : Has w v l) (hf : AllFit l) :
    Calls Try.prog 10 #[v] w fun e w' => e = .returned (.int .i64 (M.checkN l)) ∧ Below w.heap.size w w' := by
  obtain ⟨ao, cap, rfl, h⟩ := h
  rcases h with rfl | ⟨b, off, rfl, hl⟩
  · exact check_nil ao cap w
  · exact check_some l b off cap w hl hf.1 hf.2
theorem total_any (l : List M.Ar) (v : Value) (w : World) (h : Has w v l) (hf : AllFit l) :
    Calls Try.prog 7 #[v] w fun e w' => e = .returned (.int .i64 (M.totalN l)) ∧ Below w.heap.size w w' := by
  obtain ⟨ao, cap, rfl, h⟩ := h
  rcases h with rfl | ⟨b, off, rfl, hl⟩
  · exact total_nil ao cap w
  · exact total_some l b off cap w hl hf.1 hf.2
theorem find_any (l : List M.Ar) (v : Value) (p : Int) (w : World) (h : Has w v l) (hf : AllFit l) :
    Calls Try.prog 6 #[v, .int .i64 p] w fun e w' => e = .returned (.tuple #[.agg (cellsOf (M.findN l p).1), .bool (M.findN l p).2]) ∧ Below w.heap.size w w' := by
  obtain ⟨ao, cap, rfl, h⟩ := h
  rcases h with rfl | ⟨b, off, rfl, hl⟩
  · exact find_nil ao cap p w
  · exact find_some l b off cap p w hl hf.1 hf.2
theorem spread_any (l : List M.Ar) (v : Value) (w : World) (h : Has w v l) (hc : M.checkN l = 0) :
    Calls Try.prog 34 #[v] w fun e w' => e = .returned (.agg (M.cellsL (M.spreadN l))) ∧ Below w.heap.size w w' := by
  obtain ⟨ao, cap, rfl, h⟩ := h
  rcases h with rfl | ⟨b, off, rfl, hl⟩
  · exact spread_nil ao cap w
  · exact spread_some l b off cap w hl hc
end Go.Proofs.Ytgiohagjanodmaa.W
