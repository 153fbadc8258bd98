import Derived.Test.YteieplodndfbhaaGK09
import Derived.Test.YteieplodndfbhaaGK00
import Derived.Test.YteieplodndfbhaaChecked
import Derived.Deep.Slices
import Derived.ProofKit
import Derived.SizedLaws
import Derived.Test.YteieplodndfbhaaGK10
import Derived.Test.YteieplodndfbhaaGK01
import Derived.Test.YteieplodndfbhaaGK04
/- The reading of an image that came in. -/
namespace Go.Proofs.Yteieplodndfbhaa.W
open Go.RowKit Go.Deep
set_option linter.unusedVariables false
set_option maxRecDepth 100000

theorem cells27 : Try.prog.cellsOf 27 = 6 := by kernel_rfl
theorem cells48 : Try.prog.cellsOf 79 = 5 := by kernel_rfl
theorem cells50 : Try.prog.cellsOf 116 = 2 := by kernel_rfl
theorem cells59 : Try.prog.cellsOf 75 = 3 := by kernel_rfl
theorem cells22 : Try.prog.cellsOf 22 = 1 := by kernel_rfl
theorem cells23 : Try.prog.cellsOf 23 = 1 := by kernel_rfl
theorem cells24 : Try.prog.cellsOf 24 = 1 := by kernel_rfl
theorem cells25 : Try.prog.cellsOf 25 = 1 := by kernel_rfl
theorem cells9 : Try.prog.cellsOf 9 = 1 := by kernel_rfl
theorem cells3 : Try.prog.cellsOf 3 = 1 := by kernel_rfl
theorem cells4 : Try.prog.cellsOf 4 = 1 := by kernel_rfl
theorem bytes9 : Try.prog.bytesOf 9 = 16 := by kernel_rfl
theorem bytes48 : Try.prog.bytesOf 79 = 40 := by kernel_rfl
theorem bytes50 : Try.prog.bytesOf 116 = 24 := by kernel_rfl
theorem bytes59 : Try.prog.bytesOf 75 = 32 := by kernel_rfl
theorem i64_of (n : Int) (h : (Lit.int .i64 n).wf = true) : M.I64 n := CM.bounds n h
theorem cell_lt {w : World} {b o : Nat} {v : Value} (h : w.cell? ⟨b, o, none⟩ = some v) : b < w.heap.size := by
  rcases Nat.lt_or_ge b w.heap.size with g | g
  · exact g
  · have e : w.heap[b]? = none := Array.getElem?_eq_none g
    simp [World.cell?, e] at h

instance : Inhabited M.Sg := ⟨M.sg0⟩
instance : Inhabited M.Sy := ⟨M.sy0⟩
instance : Inhabited M.Rl := ⟨M.rl0⟩
/-- no weight beyond the reach -/
def OkW {H : Type} (t : TypeId) (d : DataW H) : Prop := ∀ n ∈ d.weights Try.prog t, n ≤ reachBytes
theorem weightsAll_mem {H : Type} {e : TypeId} : ∀ {l : List (DataW H)} {d : DataW H}, d ∈ l → ∀ n ∈ d.weights Try.prog e, n ∈ DataW.weightsAll Try.prog e l
  | y :: r, d, h, n, hn => by
    simp only [DataW.weightsAll, List.mem_append]
    rcases List.mem_cons.1 h with h | h
    · subst h; exact .inl hn
    · exact .inr (weightsAll_mem h n hn)
theorem okw_string {H : Type} {t : TypeId} {b : List UInt8} (h : OkW (H := H) t (.lit (.string b))) : b.length ≤ reachBytes := h _ (by simp [DataW.weights])
theorem okw_slice {H : Type} {t e : TypeId} {el sp : List (DataW H)} (hu : Try.prog.underlying t = some (.slice e)) (h : OkW t (.slice el sp)) : (el.length + sp.length) * Try.prog.bytesOf e ≤ reachBytes ∧ ∀ d ∈ el, OkW e d := by
  refine ⟨h _ (by simp [DataW.weights, hu]), fun d hd n hn => h n ?_⟩
  simp only [DataW.weights, hu, List.mem_cons, List.mem_append]
  exact .inr (.inl (weightsAll_mem hd n hn))
theorem okw_agg {H : Type} {t : TypeId} {fs : Array Field} {ps : List (DataW H)} (hu : Try.prog.underlying t = some (.struct fs)) (h : OkW t (.agg ps)) {j : Nat} {u : TypeId} {d : DataW H} (ht : (fs.toList.map (·.type))[j]? = some u) (hd : ps[j]? = some d) : OkW u d := fun n hn => h n (by
  simp only [DataW.weights, hu]
  exact DataW.weights_mem_each ht hd n hn)

section
variable {H : Type} {enc : TypeId × Value → H} {w : World} {base : Nat} {spare : Nat → Bool} {held : Bool}
theorem slice_of {t e : TypeId} {fuel : Nat} {v : Value} {x : DataW H × List MemPlace} (ht : Try.prog.underlying t = some (.slice e)) (h : DataW.trod enc Try.prog w base spare held fuel t [v] = some x) : ∃ a len cap, v = .slice a len cap := by
  rcases open_slice ht h with ⟨hcs, _⟩ | ⟨a, len', cap', m, n, D, Pl, hcs, _⟩
  · simp at hcs; exact ⟨_, _, _, hcs⟩
  · simp at hcs; exact ⟨_, _, _, hcs⟩
theorem one_str {n : Nat} {a : Addr} {cs : List Value} {x : DataW H × List MemPlace} (hc : w.cells? base a 1 = some cs) (h : DataW.trod enc Try.prog w base spare held n 9 cs = some x) (hw : OkW 9 x.1) :
    ∃ (x0 : ByteArray), (w.cell? (a.add 0) = some (.string x0) ∧ M.Short x0.size) := by
  obtain ⟨_, hlen, hcell⟩ := World.cells?_some hc
  obtain ⟨s0, c0, hx, _⟩ := DataW.trod_string Try.underlying9 h
  subst c0
  have e0 := hcell 0 (by omega)
  rw [hx] at hw
  exact ⟨s0, e0, by have := okw_string hw; unfold M.Short; unfold reachBytes at this; rw [Lib.size_eq]; exact this⟩
theorem one_seg {n : Nat} {a : Addr} {cs : List Value} {x : DataW H × List MemPlace} (hc : w.cells? base a 5 = some cs) (h : DataW.trod enc Try.prog w base spare held n 79 cs = some x) (hw : OkW 79 x.1) :
    ∃ (x0 : Int) (x1 : Int) (x2 : ByteArray) (x3 : Bool) (x4 : Bool), (w.cell? (a.add 0) = some (.int .i64 x0) ∧ M.I64 x0) ∧ (w.cell? (a.add 1) = some (.int .i64 x1) ∧ M.I64 x1) ∧ (w.cell? (a.add 2) = some (.string x2) ∧ M.Short x2.size) ∧ (w.cell? (a.add 3) = some (.bool x3)) ∧ (w.cell? (a.add 4) = some (.bool x4)) := by
  obtain ⟨_, hlen, hcell⟩ := World.cells?_some hc
  obtain ⟨xs, k, hk, hxy, _, hxl, hf⟩ := DataW.trod_struct Try.underlying79 h
  rw [hxy] at hw
  match cs, hlen with
  | [v0, v1, v2, v3, v4], _ =>
    have g0 : DataW.trod enc Try.prog w base spare held k 3 (([v0, v1, v2, v3, v4].drop 0).take (Try.prog.cellsOf 3)) = xs[0]? := hf 0 _ rfl
    have g1 : DataW.trod enc Try.prog w base spare held k 3 (([v0, v1, v2, v3, v4].drop 1).take (Try.prog.cellsOf 3)) = xs[1]? := hf 1 _ rfl
    have g2 : DataW.trod enc Try.prog w base spare held k 9 (([v0, v1, v2, v3, v4].drop 2).take (Try.prog.cellsOf 9)) = xs[2]? := hf 2 _ rfl
    have g3 : DataW.trod enc Try.prog w base spare held k 4 (([v0, v1, v2, v3, v4].drop 3).take (Try.prog.cellsOf 4)) = xs[3]? := hf 3 _ rfl
    have g4 : DataW.trod enc Try.prog w base spare held k 4 (([v0, v1, v2, v3, v4].drop 4).take (Try.prog.cellsOf 4)) = xs[4]? := hf 4 _ rfl
    simp only [cells3, cells4, cells9] at g0 g1 g2 g3 g4
    have e0 := hcell 0 (by omega)
    have e1 := hcell 1 (by omega)
    have e2 := hcell 2 (by omega)
    have e3 := hcell 3 (by omega)
    have e4 := hcell 4 (by omega)
    match xs, hxl with
    | [y0, y1, y2, y3, y4], _ =>
      obtain ⟨m0, c0, _, w0⟩ := DataW.trod_int Try.underlying3 (show DataW.trod enc Try.prog w base spare held k 3 [v0] = some y0 from g0)
      obtain ⟨m1, c1, _, w1⟩ := DataW.trod_int Try.underlying3 (show DataW.trod enc Try.prog w base spare held k 3 [v1] = some y1 from g1)
      obtain ⟨m2, c2, hx2, _⟩ := DataW.trod_string Try.underlying9 (show DataW.trod enc Try.prog w base spare held k 9 [v2] = some y2 from g2)
      have u2 := okw_agg Try.underlying79 hw (j := 2) (u := 9) (d := y2.1) rfl rfl
      rw [hx2] at u2
      have w2 : M.Short m2.size := by have := okw_string u2; unfold M.Short; unfold reachBytes at this; rw [Lib.size_eq]; exact this
      obtain ⟨m3, c3, _⟩ := DataW.trod_bool Try.underlying4 (show DataW.trod enc Try.prog w base spare held k 4 [v3] = some y3 from g3)
      obtain ⟨m4, c4, _⟩ := DataW.trod_bool Try.underlying4 (show DataW.trod enc Try.prog w base spare held k 4 [v4] = some y4 from g4)
      simp only [List.cons.injEq, and_true] at c0 c1 c2 c3 c4
      subst c0; subst c1; subst c2; subst c3; subst c4
      exact ⟨m0, m1, m2, m3, m4, ⟨e0, i64_of _ w0⟩, ⟨e1, i64_of _ w1⟩, ⟨e2, w2⟩, e3, e4⟩
theorem one_sym {n : Nat} {a : Addr} {cs : List Value} {x : DataW H × List MemPlace} (hc : w.cells? base a 2 = some cs) (h : DataW.trod enc Try.prog w base spare held n 116 cs = some x) (hw : OkW 116 x.1) :
    ∃ (x0 : ByteArray) (x1 : Int), (w.cell? (a.add 0) = some (.string x0) ∧ M.Short x0.size) ∧ (w.cell? (a.add 1) = some (.int .i64 x1) ∧ M.I64 x1) := by
  obtain ⟨_, hlen, hcell⟩ := World.cells?_some hc
  obtain ⟨xs, k, hk, hxy, _, hxl, hf⟩ := DataW.trod_struct Try.underlying116 h
  rw [hxy] at hw
  match cs, hlen with
  | [v0, v1], _ =>
    have g0 : DataW.trod enc Try.prog w base spare held k 9 (([v0, v1].drop 0).take (Try.prog.cellsOf 9)) = xs[0]? := hf 0 _ rfl
    have g1 : DataW.trod enc Try.prog w base spare held k 3 (([v0, v1].drop 1).take (Try.prog.cellsOf 3)) = xs[1]? := hf 1 _ rfl
    simp only [cells3, cells9] at g0 g1
    have e0 := hcell 0 (by omega)
    have e1 := hcell 1 (by omega)
    match xs, hxl with
    | [y0, y1], _ =>
      obtain ⟨m0, c0, hx0, _⟩ := DataW.trod_string Try.underlying9 (show DataW.trod enc Try.prog w base spare held k 9 [v0] = some y0 from g0)
      have u0 := okw_agg Try.underlying116 hw (j := 0) (u := 9) (d := y0.1) rfl rfl
      rw [hx0] at u0
      have w0 : M.Short m0.size := by have := okw_string u0; unfold M.Short; unfold reachBytes at this; rw [Lib.size_eq]; exact this
      obtain ⟨m1, c1, _, w1⟩ := DataW.trod_int Try.underlying3 (show DataW.trod enc Try.prog w base spare held k 3 [v1] = some y1 from g1)
      simp only [List.cons.injEq, and_true] at c0 c1
      subst c0; subst c1
      exact ⟨m0, m1, ⟨e0, w0⟩, ⟨e1, i64_of _ w1⟩⟩
theorem one_rel {n : Nat} {a : Addr} {cs : List Value} {x : DataW H × List MemPlace} (hc : w.cells? base a 3 = some cs) (h : DataW.trod enc Try.prog w base spare held n 75 cs = some x) (hw : OkW 75 x.1) :
    ∃ (x0 : Int) (x1 : ByteArray) (x2 : Int), (w.cell? (a.add 0) = some (.int .i64 x0) ∧ M.I64 x0) ∧ (w.cell? (a.add 1) = some (.string x1) ∧ M.Short x1.size) ∧ (w.cell? (a.add 2) = some (.int .i64 x2) ∧ M.I64 x2) := by
  obtain ⟨_, hlen, hcell⟩ := World.cells?_some hc
  obtain ⟨xs, k, hk, hxy, _, hxl, hf⟩ := DataW.trod_struct Try.underlying75 h
  rw [hxy] at hw
  match cs, hlen with
  | [v0, v1, v2], _ =>
    have g0 : DataW.trod enc Try.prog w base spare held k 3 (([v0, v1, v2].drop 0).take (Try.prog.cellsOf 3)) = xs[0]? := hf 0 _ rfl
    have g1 : DataW.trod enc Try.prog w base spare held k 9 (([v0, v1, v2].drop 1).take (Try.prog.cellsOf 9)) = xs[1]? := hf 1 _ rfl
    have g2 : DataW.trod enc Try.prog w base spare held k 3 (([v0, v1, v2].drop 2).take (Try.prog.cellsOf 3)) = xs[2]? := hf 2 _ rfl
    simp only [cells3, cells9] at g0 g1 g2
    have e0 := hcell 0 (by omega)
    have e1 := hcell 1 (by omega)
    have e2 := hcell 2 (by omega)
    match xs, hxl with
    | [y0, y1, y2], _ =>
      obtain ⟨m0, c0, _, w0⟩ := DataW.trod_int Try.underlying3 (show DataW.trod enc Try.prog w base spare held k 3 [v0] = some y0 from g0)
      obtain ⟨m1, c1, hx1, _⟩ := DataW.trod_string Try.underlying9 (show DataW.trod enc Try.prog w base spare held k 9 [v1] = some y1 from g1)
      have u1 := okw_agg Try.underlying75 hw (j := 1) (u := 9) (d := y1.1) rfl rfl
      rw [hx1] at u1
      have w1 : M.Short m1.size := by have := okw_string u1; unfold M.Short; unfold reachBytes at this; rw [Lib.size_eq]; exact this
      obtain ⟨m2, c2, _, w2⟩ := DataW.trod_int Try.underlying3 (show DataW.trod enc Try.prog w base spare held k 3 [v2] = some y2 from g2)
      simp only [List.cons.injEq, and_true] at c0 c1 c2
      subst c0; subst c1; subst c2
      exact ⟨m0, m1, m2, ⟨e0, i64_of _ w0⟩, ⟨e1, w1⟩, ⟨e2, i64_of _ w2⟩⟩
theorem open_S {fuel : Nat} {a0 : Option Addr} {len cap : Nat} {x : DataW H × List MemPlace} (h : DataW.trod enc Try.prog w base spare held fuel 22 [.slice a0 len cap] = some x) (hw : OkW 22 x.1) :
    ∃ l : List (ByteArray), l.length = len ∧ M.HasBy M.LieS w a0 l ∧ M.Short l.length ∧ ∀ k, k < l.length → M.Short (M.strAt l k).size := by
  rcases open_slice Try.underlying22 h with ⟨hcs, _⟩ | ⟨a, len', cap', m, n, D, Pl, hcs, hb, hl, hm, hmm, rfl, hx⟩
  · simp at hcs
    obtain ⟨rfl, rfl, rfl⟩ := hcs
    exact ⟨[], rfl, fun h => absurd h (by simp), by unfold M.Short; simp, fun k hk => absurd hk (by simp)⟩
  · simp at hcs
    obtain ⟨rfl, rfl, rfl⟩ := hcs
    have hlm : len ≤ m := by rw [hmm]; split <;> omega
    obtain ⟨hb1, hb2⟩ := okw_slice Try.underlying22 hw
    rw [bytes9] at hb1
    unfold reachBytes at hb1
    have hlen : len ≤ 140737488351232 := by simp at hb1; omega
    have each : ∀ i, i < len → ∃ y : ByteArray, w.cell? (a.add (i)) = some (.string y) ∧ M.Short (y).size := by
      intro i hi
      obtain ⟨cs', h1, h2⟩ := hx i (by omega)
      have hd : D i ∈ (List.range len).map D := List.mem_map.2 ⟨i, List.mem_range.2 hi, rfl⟩
      rw [cells9] at h1
      obtain ⟨x0, e0, z0⟩ := one_str h1 h2 (hb2 _ hd)
      simp only [add_add, Nat.mul_one, Nat.add_zero] at e0
      exact ⟨x0, e0 , z0⟩
    obtain ⟨g, hg⟩ := choose_lt each
    have hat : ∀ i, i < len → M.strAt ((List.range len).map g) i = g i := by
      intro i hi
      simp [M.strAt, hi]
    refine ⟨(List.range len).map g, by simp, fun h0 => ?_, by unfold M.Short; simp; exact hlen, fun k hk => ?_⟩
    · have h0' : 0 < len := by simpa using h0
      obtain ⟨b, off, spot⟩ := a
      have hc := (hg 0 h0').1
      have hspot : spot = none := by simpa [Addr.add] using World.cell?_spot hc
      subst hspot
      rw [Addr.add_lit] at hc
      refine ⟨b, off, rfl, cell_lt hc, fun i hi => ?_⟩
      have hi' : i < len := by simpa using hi
      rw [hat i hi']
      obtain ⟨e0, _⟩ := hg i hi'
      simp only [Addr.add_lit] at e0
      exact e0
    · have hi' : k < len := by simpa using hk
      rw [hat k hi']
      obtain ⟨_, f⟩ := hg k hi'
      exact f
theorem open_G {fuel : Nat} {a0 : Option Addr} {len cap : Nat} {x : DataW H × List MemPlace} (h : DataW.trod enc Try.prog w base spare held fuel 23 [.slice a0 len cap] = some x) (hw : OkW 23 x.1) :
    ∃ l : List (M.Sg), l.length = len ∧ M.HasBy M.LieG w a0 l ∧ M.Short l.length ∧ ∀ k, k < l.length → M.FitG (M.sgAt l k) := by
  rcases open_slice Try.underlying23 h with ⟨hcs, _⟩ | ⟨a, len', cap', m, n, D, Pl, hcs, hb, hl, hm, hmm, rfl, hx⟩
  · simp at hcs
    obtain ⟨rfl, rfl, rfl⟩ := hcs
    exact ⟨[], rfl, fun h => absurd h (by simp), by unfold M.Short; simp, fun k hk => absurd hk (by simp)⟩
  · simp at hcs
    obtain ⟨rfl, rfl, rfl⟩ := hcs
    have hlm : len ≤ m := by rw [hmm]; split <;> omega
    obtain ⟨hb1, hb2⟩ := okw_slice Try.underlying23 hw
    rw [bytes48] at hb1
    unfold reachBytes at hb1
    have hlen : len ≤ 140737488351232 := by simp at hb1; omega
    have each : ∀ i, i < len → ∃ y : M.Sg, w.cell? (a.add (i * 5 + 0)) = some (.int .i64 y.page) ∧ w.cell? (a.add (i * 5 + 1)) = some (.int .i64 y.pages) ∧ w.cell? (a.add (i * 5 + 2)) = some (.string y.data) ∧ w.cell? (a.add (i * 5 + 3)) = some (.bool y.wr) ∧ w.cell? (a.add (i * 5 + 4)) = some (.bool y.ex) ∧ M.FitG (y) := by
      intro i hi
      obtain ⟨cs', h1, h2⟩ := hx i (by omega)
      have hd : D i ∈ (List.range len).map D := List.mem_map.2 ⟨i, List.mem_range.2 hi, rfl⟩
      rw [cells48] at h1
      obtain ⟨x0, x1, x2, x3, x4, ⟨e0, z0⟩, ⟨e1, z1⟩, ⟨e2, z2⟩, e3, e4⟩ := one_seg h1 h2 (hb2 _ hd)
      simp only [add_add] at e0 e1 e2 e3 e4
      exact ⟨⟨x0, x1, x2, x3, x4⟩, e0 , e1 , e2 , e3 , e4 , ⟨z0, z1, z2⟩⟩
    obtain ⟨g, hg⟩ := choose_lt each
    have hat : ∀ i, i < len → M.sgAt ((List.range len).map g) i = g i := by
      intro i hi
      simp [M.sgAt, hi]
    refine ⟨(List.range len).map g, by simp, fun h0 => ?_, by unfold M.Short; simp; exact hlen, fun k hk => ?_⟩
    · have h0' : 0 < len := by simpa using h0
      obtain ⟨b, off, spot⟩ := a
      have hc := (hg 0 h0').1
      have hspot : spot = none := by simpa [Addr.add] using World.cell?_spot hc
      subst hspot
      rw [Addr.add_lit] at hc
      refine ⟨b, off, rfl, cell_lt hc, fun i hi => ?_⟩
      have hi' : i < len := by simpa using hi
      rw [hat i hi']
      obtain ⟨e0, e1, e2, e3, e4, _⟩ := hg i hi'
      simp only [Addr.add_lit] at e0 e1 e2 e3 e4
      exact ⟨e0, by rw [Nat.add_assoc]; exact e1, by rw [Nat.add_assoc]; exact e2, by rw [Nat.add_assoc]; exact e3, by rw [Nat.add_assoc]; exact e4⟩
    · have hi' : k < len := by simpa using hk
      rw [hat k hi']
      obtain ⟨_, _, _, _, _, f⟩ := hg k hi'
      exact f
theorem open_Y {fuel : Nat} {a0 : Option Addr} {len cap : Nat} {x : DataW H × List MemPlace} (h : DataW.trod enc Try.prog w base spare held fuel 24 [.slice a0 len cap] = some x) (hw : OkW 24 x.1) :
    ∃ l : List (M.Sy), l.length = len ∧ M.HasBy M.LieY w a0 l ∧ M.Short l.length ∧ ∀ k, k < l.length → M.FitY (M.syAt l k) := by
  rcases open_slice Try.underlying24 h with ⟨hcs, _⟩ | ⟨a, len', cap', m, n, D, Pl, hcs, hb, hl, hm, hmm, rfl, hx⟩
  · simp at hcs
    obtain ⟨rfl, rfl, rfl⟩ := hcs
    exact ⟨[], rfl, fun h => absurd h (by simp), by unfold M.Short; simp, fun k hk => absurd hk (by simp)⟩
  · simp at hcs
    obtain ⟨rfl, rfl, rfl⟩ := hcs
    have hlm : len ≤ m := by rw [hmm]; split <;> omega
    obtain ⟨hb1, hb2⟩ := okw_slice Try.underlying24 hw
    rw [bytes50] at hb1
    unfold reachBytes at hb1
    have hlen : len ≤ 140737488351232 := by simp at hb1; omega
    have each : ∀ i, i < len → ∃ y : M.Sy, w.cell? (a.add (i * 2 + 0)) = some (.string y.name) ∧ w.cell? (a.add (i * 2 + 1)) = some (.int .i64 y.pos) ∧ M.FitY (y) := by
      intro i hi
      obtain ⟨cs', h1, h2⟩ := hx i (by omega)
      have hd : D i ∈ (List.range len).map D := List.mem_map.2 ⟨i, List.mem_range.2 hi, rfl⟩
      rw [cells50] at h1
      obtain ⟨x0, x1, ⟨e0, z0⟩, ⟨e1, z1⟩⟩ := one_sym h1 h2 (hb2 _ hd)
      simp only [add_add] at e0 e1
      exact ⟨⟨x0, x1⟩, e0 , e1 , ⟨z0, z1⟩⟩
    obtain ⟨g, hg⟩ := choose_lt each
    have hat : ∀ i, i < len → M.syAt ((List.range len).map g) i = g i := by
      intro i hi
      simp [M.syAt, hi]
    refine ⟨(List.range len).map g, by simp, fun h0 => ?_, by unfold M.Short; simp; exact hlen, fun k hk => ?_⟩
    · have h0' : 0 < len := by simpa using h0
      obtain ⟨b, off, spot⟩ := a
      have hc := (hg 0 h0').1
      have hspot : spot = none := by simpa [Addr.add] using World.cell?_spot hc
      subst hspot
      rw [Addr.add_lit] at hc
      refine ⟨b, off, rfl, cell_lt hc, fun i hi => ?_⟩
      have hi' : i < len := by simpa using hi
      rw [hat i hi']
      obtain ⟨e0, e1, _⟩ := hg i hi'
      simp only [Addr.add_lit] at e0 e1
      exact ⟨e0, by rw [Nat.add_assoc]; exact e1⟩
    · have hi' : k < len := by simpa using hk
      rw [hat k hi']
      obtain ⟨_, _, f⟩ := hg k hi'
      exact f
theorem open_R {fuel : Nat} {a0 : Option Addr} {len cap : Nat} {x : DataW H × List MemPlace} (h : DataW.trod enc Try.prog w base spare held fuel 25 [.slice a0 len cap] = some x) (hw : OkW 25 x.1) :
    ∃ l : List (M.Rl), l.length = len ∧ M.HasBy M.LieR w a0 l ∧ M.Short l.length ∧ ∀ k, k < l.length → M.FitR (M.rlAt l k) := by
  rcases open_slice Try.underlying25 h with ⟨hcs, _⟩ | ⟨a, len', cap', m, n, D, Pl, hcs, hb, hl, hm, hmm, rfl, hx⟩
  · simp at hcs
    obtain ⟨rfl, rfl, rfl⟩ := hcs
    exact ⟨[], rfl, fun h => absurd h (by simp), by unfold M.Short; simp, fun k hk => absurd hk (by simp)⟩
  · simp at hcs
    obtain ⟨rfl, rfl, rfl⟩ := hcs
    have hlm : len ≤ m := by rw [hmm]; split <;> omega
    obtain ⟨hb1, hb2⟩ := okw_slice Try.underlying25 hw
    rw [bytes59] at hb1
    unfold reachBytes at hb1
    have hlen : len ≤ 140737488351232 := by simp at hb1; omega
    have each : ∀ i, i < len → ∃ y : M.Rl, w.cell? (a.add (i * 3 + 0)) = some (.int .i64 y.pos) ∧ w.cell? (a.add (i * 3 + 1)) = some (.string y.name) ∧ w.cell? (a.add (i * 3 + 2)) = some (.int .i64 y.add) ∧ M.FitR (y) := by
      intro i hi
      obtain ⟨cs', h1, h2⟩ := hx i (by omega)
      have hd : D i ∈ (List.range len).map D := List.mem_map.2 ⟨i, List.mem_range.2 hi, rfl⟩
      rw [cells59] at h1
      obtain ⟨x0, x1, x2, ⟨e0, z0⟩, ⟨e1, z1⟩, ⟨e2, z2⟩⟩ := one_rel h1 h2 (hb2 _ hd)
      simp only [add_add] at e0 e1 e2
      exact ⟨⟨x0, x1, x2⟩, e0 , e1 , e2 , ⟨z0, z1, z2⟩⟩
    obtain ⟨g, hg⟩ := choose_lt each
    have hat : ∀ i, i < len → M.rlAt ((List.range len).map g) i = g i := by
      intro i hi
      simp [M.rlAt, hi]
    refine ⟨(List.range len).map g, by simp, fun h0 => ?_, by unfold M.Short; simp; exact hlen, fun k hk => ?_⟩
    · have h0' : 0 < len := by simpa using h0
      obtain ⟨b, off, spot⟩ := a
      have hc := (hg 0 h0').1
      have hspot : spot = none := by simpa [Addr.add] using World.cell?_spot hc
      subst hspot
      rw [Addr.add_lit] at hc
      refine ⟨b, off, rfl, cell_lt hc, fun i hi => ?_⟩
      have hi' : i < len := by simpa using hi
      rw [hat i hi']
      obtain ⟨e0, e1, e2, _⟩ := hg i hi'
      simp only [Addr.add_lit] at e0 e1 e2
      exact ⟨e0, by rw [Nat.add_assoc]; exact e1, by rw [Nat.add_assoc]; exact e2⟩
    · have hi' : k < len := by simpa using hk
      rw [hat k hi']
      obtain ⟨_, _, _, f⟩ := hg k hi'
      exact f

theorem open_image {fuel : Nat} {cs : List Value} {x : DataW H × List MemPlace} (h : DataW.trod enc Try.prog w base spare held fuel 27 cs = some x) (hw : OkW 27 x.1) :
    ∃ i a, cs = (M.cellsI a i).toList ∧ M.HasIm w a i ∧ M.Fit i := by
  obtain ⟨xs, k, hk, hxy, hcl, hxl, hf⟩ := DataW.trod_struct Try.underlying27 h
  rw [hxy] at hw
  rw [cells27] at hcl
  match cs, hcl with
  | [v0, v1, v2, v3, v4, v5], _ =>
    have g0 : DataW.trod enc Try.prog w base spare held k 9 (([v0, v1, v2, v3, v4, v5].drop 0).take (Try.prog.cellsOf 9)) = xs[0]? := hf 0 _ rfl
    have g1 : DataW.trod enc Try.prog w base spare held k 22 (([v0, v1, v2, v3, v4, v5].drop 1).take (Try.prog.cellsOf 22)) = xs[1]? := hf 1 _ rfl
    have g2 : DataW.trod enc Try.prog w base spare held k 23 (([v0, v1, v2, v3, v4, v5].drop 2).take (Try.prog.cellsOf 23)) = xs[2]? := hf 2 _ rfl
    have g3 : DataW.trod enc Try.prog w base spare held k 24 (([v0, v1, v2, v3, v4, v5].drop 3).take (Try.prog.cellsOf 24)) = xs[3]? := hf 3 _ rfl
    have g4 : DataW.trod enc Try.prog w base spare held k 25 (([v0, v1, v2, v3, v4, v5].drop 4).take (Try.prog.cellsOf 25)) = xs[4]? := hf 4 _ rfl
    have g5 : DataW.trod enc Try.prog w base spare held k 3 (([v0, v1, v2, v3, v4, v5].drop 5).take (Try.prog.cellsOf 3)) = xs[5]? := hf 5 _ rfl
    simp only [cells3, cells9, cells22, cells23, cells24, cells25] at g0 g1 g2 g3 g4 g5
    match xs, hxl with
    | [y0, y1, y2, y3, y4, y5], _ =>
      obtain ⟨nm, c0, hx0, _⟩ := DataW.trod_string Try.underlying9 (show DataW.trod enc Try.prog w base spare held k 9 [v0] = some y0 from g0)
      obtain ⟨en, c5, _, w5⟩ := DataW.trod_int Try.underlying3 (show DataW.trod enc Try.prog w base spare held k 3 [v5] = some y5 from g5)
      have u0 := okw_agg Try.underlying27 hw (j := 0) (u := 9) (d := y0.1) rfl rfl
      have u1 := okw_agg Try.underlying27 hw (j := 1) (u := 22) (d := y1.1) rfl rfl
      have u2 := okw_agg Try.underlying27 hw (j := 2) (u := 23) (d := y2.1) rfl rfl
      have u3 := okw_agg Try.underlying27 hw (j := 3) (u := 24) (d := y3.1) rfl rfl
      have u4 := okw_agg Try.underlying27 hw (j := 4) (u := 25) (d := y4.1) rfl rfl
      rw [hx0] at u0
      have z0 : M.Short nm.size := by have := okw_string u0; unfold M.Short; unfold reachBytes at this; rw [Lib.size_eq]; exact this
      have t1 : DataW.trod enc Try.prog w base spare held k 22 [v1] = some y1 := g1
      have t2 : DataW.trod enc Try.prog w base spare held k 23 [v2] = some y2 := g2
      have t3 : DataW.trod enc Try.prog w base spare held k 24 [v3] = some y3 := g3
      have t4 : DataW.trod enc Try.prog w base spare held k 25 [v4] = some y4 := g4
      obtain ⟨an, ln, cn, d1⟩ := slice_of Try.underlying22 t1
      obtain ⟨ag, lg, cg, d2⟩ := slice_of Try.underlying23 t2
      obtain ⟨ay, ly, cy, d3⟩ := slice_of Try.underlying24 t3
      obtain ⟨ar, lr, cr, d4⟩ := slice_of Try.underlying25 t4
      subst d1; subst d2; subst d3; subst d4
      obtain ⟨ns, n1, n2, n3, n4⟩ := open_S t1 u1
      obtain ⟨gs, s1, s2, s3, s4⟩ := open_G t2 u2
      obtain ⟨ys, p1, p2, p3, p4⟩ := open_Y t3 u3
      obtain ⟨rs, r1, r2, r3, r4⟩ := open_R t4 u4
      simp only [List.cons.injEq, and_true] at c0 c5
      subst c0; subst c5
      subst n1; subst s1; subst p1; subst r1
      exact ⟨⟨nm, ns, gs, ys, rs, en⟩, ⟨an, cn, ag, cg, ay, cy, ar, cr⟩, rfl, ⟨n2, s2, p2, r2⟩, ⟨z0, n3, n4, s3, s4, p3, p4, r3, r4, i64_of _ w5⟩⟩
end
end Go.Proofs.Yteieplodndfbhaa.W
/- The reading of a sheet, and of a linked program, that came in. -/
namespace Go.Proofs.Yteieplodndfbhaa.LW
open Go.RowKit Go.Deep
open Go.Proofs.Yteieplodndfbhaa.W (OkW okw_string okw_slice okw_agg slice_of cell_lt i64_of cells9 cells3)
set_option linter.unusedVariables false
set_option maxRecDepth 100000

theorem cellsFx : Try.prog.cellsOf 89 = 2 := by kernel_rfl
theorem cellsSh : Try.prog.cellsOf 43 = 3 := by kernel_rfl
theorem cellsLk : Try.prog.cellsOf 32 = 3 := by kernel_rfl
theorem cellsFxs : Try.prog.cellsOf 41 = 1 := by kernel_rfl
theorem cellsShs : Try.prog.cellsOf 30 = 1 := by kernel_rfl
theorem cellsArs : Try.prog.cellsOf 29 = 1 := by kernel_rfl
theorem bytesFx : Try.prog.bytesOf 89 = 24 := by kernel_rfl
theorem bytesSh : Try.prog.bytesOf 43 = 48 := by kernel_rfl
theorem bytesAr : Try.prog.bytesOf 99 = 32 := by kernel_rfl
instance : Inhabited LM.Fx := ⟨LM.fx0⟩
instance : Inhabited LM.Sh := ⟨LM.sh0⟩

section
variable {H : Type} {enc : TypeId × Value → H} {w : World} {base : Nat} {spare : Nat → Bool} {held : Bool}
theorem one_fix {n : Nat} {a : Addr} {cs : List Value} {x : DataW H × List MemPlace} (hc : w.cells? base a 2 = some cs) (h : DataW.trod enc Try.prog w base spare held n 89 cs = some x) (hw : OkW 89 x.1) :
    ∃ (x0 : Int) (x1 : ByteArray), (w.cell? (a.add 0) = some (.int .i64 x0) ∧ M.I64 x0) ∧ (w.cell? (a.add 1) = some (.string x1) ∧ M.Short x1.size) := by
  obtain ⟨_, hlen, hcell⟩ := World.cells?_some hc
  obtain ⟨xs, k, hk, hxy, _, hxl, hf⟩ := DataW.trod_struct Try.underlying89 h
  rw [hxy] at hw
  match cs, hlen with
  | [v0, v1], _ =>
    have g0 : DataW.trod enc Try.prog w base spare held k 3 (([v0, v1].drop 0).take (Try.prog.cellsOf 3)) = xs[0]? := hf 0 _ rfl
    have g1 : DataW.trod enc Try.prog w base spare held k 9 (([v0, v1].drop 1).take (Try.prog.cellsOf 9)) = xs[1]? := hf 1 _ rfl
    simp only [cells3, cells9] at g0 g1
    have e0 := hcell 0 (by omega)
    have e1 := hcell 1 (by omega)
    match xs, hxl with
    | [y0, y1], _ =>
      obtain ⟨m0, c0, _, w0⟩ := DataW.trod_int Try.underlying3 (show DataW.trod enc Try.prog w base spare held k 3 [v0] = some y0 from g0)
      obtain ⟨m1, c1, hx1, _⟩ := DataW.trod_string Try.underlying9 (show DataW.trod enc Try.prog w base spare held k 9 [v1] = some y1 from g1)
      have u1 := okw_agg Try.underlying89 hw (j := 1) (u := 9) (d := y1.1) rfl rfl
      rw [hx1] at u1
      have w1 : M.Short m1.size := by have := okw_string u1; unfold M.Short; unfold reachBytes at this; rw [Lib.size_eq]; exact this
      simp only [List.cons.injEq, and_true] at c0 c1
      subst c0; subst c1
      exact ⟨m0, m1, ⟨e0, i64_of _ w0⟩, ⟨e1, w1⟩⟩
theorem open_F {fuel : Nat} {a0 : Option Addr} {len cap : Nat} {x : DataW H × List MemPlace} (h : DataW.trod enc Try.prog w base spare held fuel 41 [.slice a0 len cap] = some x) (hw : OkW 41 x.1) :
    ∃ l : List LM.Fx, l.length = len ∧ LM.HasF w a0 l ∧ M.Short l.length ∧ ∀ k, k < l.length → LM.FitF (LM.fxAt l k) := by
  rcases open_slice Try.underlying41 h with ⟨hcs, _⟩ | ⟨a, len', cap', m, n, D, Pl, hcs, hb, hl, hm, hmm, rfl, hx⟩
  · simp at hcs
    obtain ⟨rfl, rfl, rfl⟩ := hcs
    exact ⟨[], rfl, fun h => absurd h (by simp), by unfold M.Short; simp, fun k hk => absurd hk (by simp)⟩
  · simp at hcs
    obtain ⟨rfl, rfl, rfl⟩ := hcs
    have hlm : len ≤ m := by rw [hmm]; split <;> omega
    obtain ⟨hb1, hb2⟩ := okw_slice Try.underlying41 hw
    rw [bytesFx] at hb1
    unfold reachBytes at hb1
    have hlen : len ≤ 140737488351232 := by simp at hb1; omega
    have each : ∀ i, i < len → ∃ y : LM.Fx, w.cell? (a.add (i * 2 + 0)) = some (.int .i64 y.off) ∧ w.cell? (a.add (i * 2 + 1)) = some (.string y.bytes) ∧ LM.FitF y := by
      intro i hi
      obtain ⟨cs', h1, h2⟩ := hx i (by omega)
      have hd : D i ∈ (List.range len).map D := List.mem_map.2 ⟨i, List.mem_range.2 hi, rfl⟩
      rw [cellsFx] at h1
      obtain ⟨x0, x1, ⟨e0, z0⟩, ⟨e1, z1⟩⟩ := one_fix h1 h2 (hb2 _ hd)
      simp only [add_add] at e0 e1
      exact ⟨⟨x0, x1⟩, e0, e1, ⟨z0, z1⟩⟩
    obtain ⟨g, hg⟩ := choose_lt each
    have hat : ∀ i, i < len → LM.fxAt ((List.range len).map g) i = g i := by
      intro i hi
      simp [LM.fxAt, hi]
    refine ⟨(List.range len).map g, by simp, fun h0 => ?_, by unfold M.Short; simp; exact hlen, fun k hk => ?_⟩
    · have h0' : 0 < len := by simpa using h0
      obtain ⟨b, off, spot⟩ := a
      have hc := (hg 0 h0').1
      have hspot : spot = none := by simpa [Addr.add] using World.cell?_spot hc
      subst hspot
      rw [Addr.add_lit] at hc
      refine ⟨b, off, rfl, cell_lt hc, fun i hi => ?_⟩
      have hi' : i < len := by simpa using hi
      rw [hat i hi']
      obtain ⟨e0, e1, _⟩ := hg i hi'
      simp only [Addr.add_lit] at e0 e1
      exact ⟨e0, by rw [Nat.add_assoc]; exact e1⟩
    · have hi' : k < len := by simpa using hk
      rw [hat k hi']
      obtain ⟨_, _, f⟩ := hg k hi'
      exact f
/-- a sheet's three values, read -/
theorem vals_sheet {n : Nat} {v0 v1 v2 : Value} {x : DataW H × List MemPlace} (h : DataW.trod enc Try.prog w base spare held n 43 [v0, v1, v2] = some x) (hw : OkW 43 x.1) :
    ∃ s : LM.Sh, v0 = .int .i64 s.page ∧ v1 = .string s.data ∧ v2 = .slice s.ao s.fixes.length s.cap ∧ LM.HasF w s.ao s.fixes ∧ LM.FitH s := by
  obtain ⟨xs, k, hk, hxy, _, hxl, hf⟩ := DataW.trod_struct Try.underlying43 h
  rw [hxy] at hw
  have g0 : DataW.trod enc Try.prog w base spare held k 3 (([v0, v1, v2].drop 0).take (Try.prog.cellsOf 3)) = xs[0]? := hf 0 _ rfl
  have g1 : DataW.trod enc Try.prog w base spare held k 9 (([v0, v1, v2].drop 1).take (Try.prog.cellsOf 9)) = xs[1]? := hf 1 _ rfl
  have g2 : DataW.trod enc Try.prog w base spare held k 41 (([v0, v1, v2].drop 2).take (Try.prog.cellsOf 41)) = xs[2]? := hf 2 _ rfl
  simp only [cells3, cells9, cellsFxs] at g0 g1 g2
  match xs, hxl with
  | [y0, y1, y2], _ =>
    obtain ⟨m0, c0, _, w0⟩ := DataW.trod_int Try.underlying3 (show DataW.trod enc Try.prog w base spare held k 3 [v0] = some y0 from g0)
    obtain ⟨m1, c1, hx1, _⟩ := DataW.trod_string Try.underlying9 (show DataW.trod enc Try.prog w base spare held k 9 [v1] = some y1 from g1)
    have u1 := okw_agg Try.underlying43 hw (j := 1) (u := 9) (d := y1.1) rfl rfl
    have u2 := okw_agg Try.underlying43 hw (j := 2) (u := 41) (d := y2.1) rfl rfl
    rw [hx1] at u1
    have w1 : M.Short m1.size := by have := okw_string u1; unfold M.Short; unfold reachBytes at this; rw [Lib.size_eq]; exact this
    have t2 : DataW.trod enc Try.prog w base spare held k 41 [v2] = some y2 := g2
    obtain ⟨ao, ln, cp, d2⟩ := slice_of Try.underlying41 t2
    subst d2
    obtain ⟨fs, n1, n2, n3, n4⟩ := open_F t2 u2
    simp only [List.cons.injEq, and_true] at c0 c1
    subst c0; subst c1; subst n1
    exact ⟨⟨m0, m1, fs, ao, cp⟩, rfl, rfl, rfl, n2, ⟨i64_of _ w0, w1, n3, n4⟩⟩
end
end Go.Proofs.Yteieplodndfbhaa.LW
/- The reading of a list of images. -/
namespace Go.Proofs.Yteieplodndfbhaa.LW
open Go.RowKit Go.Deep
open Go.Proofs.Yteieplodndfbhaa.W (OkW okw_string okw_slice okw_agg slice_of cell_lt i64_of cells27 open_image)
set_option linter.unusedVariables false
set_option maxRecDepth 100000

section
variable {H : Type} {enc : TypeId × Value → H} {w : World} {base : Nat} {spare : Nat → Bool} {held : Bool}
instance : Inhabited LM.Li := ⟨LM.li0⟩
theorem bytesIm : Try.prog.bytesOf 27 = 120 := by kernel_rfl
theorem open_I {fuel : Nat} {a0 : Option Addr} {len cap : Nat} {x : DataW H × List MemPlace} (h : DataW.trod enc Try.prog w base spare held fuel 28 [.slice a0 len cap] = some x) (hw : OkW 28 x.1) :
    ∃ l : List LM.Li, l.length = len ∧ LM.HasI w a0 l ∧ LM.FitI l ∧ len ≤ cap := by
  rcases open_slice Try.underlying28 h with ⟨hcs, _⟩ | ⟨a, len', cap', m, n, D, Pl, hcs, hb, hl, hm, hmm, rfl, hx⟩
  · simp at hcs
    obtain ⟨rfl, rfl, rfl⟩ := hcs
    exact ⟨[], rfl, fun h => absurd h (by simp), ⟨by unfold M.Short; simp, fun k hk => absurd hk (by simp)⟩, Nat.le_refl _⟩
  · simp at hcs
    obtain ⟨rfl, rfl, rfl⟩ := hcs
    have hlm : len ≤ m := by rw [hmm]; split <;> omega
    obtain ⟨hb1, hb2⟩ := okw_slice Try.underlying28 hw
    rw [bytesIm] at hb1
    unfold reachBytes at hb1
    have hlen : len ≤ 140737488351232 := by simp at hb1; omega
    have each : ∀ i, i < len → ∃ y : LM.Li, w.cell? (a.add (i * 6 + 0)) = some (.string y.i.name) ∧ w.cell? (a.add (i * 6 + 1)) = some (.slice y.a.an y.i.needs.length y.a.cn) ∧ w.cell? (a.add (i * 6 + 2)) = some (.slice y.a.ag y.i.segs.length y.a.cg) ∧ w.cell? (a.add (i * 6 + 3)) = some (.slice y.a.ay y.i.syms.length y.a.cy) ∧ w.cell? (a.add (i * 6 + 4)) = some (.slice y.a.ar y.i.rels.length y.a.cr) ∧ w.cell? (a.add (i * 6 + 5)) = some (.int .i64 y.i.entry) ∧ M.HasIm w y.a y.i ∧ M.Fit y.i := by
      intro i hi
      obtain ⟨cs', h1, h2⟩ := hx i (by omega)
      have hd : D i ∈ (List.range len).map D := List.mem_map.2 ⟨i, List.mem_range.2 hi, rfl⟩
      rw [cells27] at h1
      obtain ⟨_, hcl, hcell⟩ := World.cells?_some h1
      obtain ⟨im, at', hcs', f1, f2⟩ := open_image h2 (hb2 _ hd)
      subst hcs'
      have q0 := hcell 0 (by omega)
      have q1 := hcell 1 (by omega)
      have q2 := hcell 2 (by omega)
      have q3 := hcell 3 (by omega)
      have q4 := hcell 4 (by omega)
      have q5 := hcell 5 (by omega)
      simp only [add_add] at q0 q1 q2 q3 q4 q5
      exact ⟨⟨im, at'⟩, q0, q1, q2, q3, q4, q5, f1, f2⟩
    obtain ⟨g, hg⟩ := choose_lt each
    have hat : ∀ i, i < len → LM.liAt ((List.range len).map g) i = g i := by
      intro i hi
      simp [LM.liAt, hi]
    refine ⟨(List.range len).map g, by simp, fun h0 => ?_, ⟨by unfold M.Short; simp; exact hlen, fun k hk => ?_⟩, hl⟩
    · have h0' : 0 < len := by simpa using h0
      obtain ⟨b, off, spot⟩ := a
      have hc := (hg 0 h0').1
      have hspot : spot = none := by simpa [Addr.add] using World.cell?_spot hc
      subst hspot
      rw [Addr.add_lit] at hc
      refine ⟨b, off, rfl, cell_lt hc, fun i hi => ?_⟩
      have hi' : i < len := by simpa using hi
      rw [hat i hi']
      obtain ⟨e0, e1, e2, e3, e4, e5, e6, _⟩ := hg i hi'
      simp only [Addr.add_lit] at e0 e1 e2 e3 e4 e5
      exact ⟨⟨e0, by rw [Nat.add_assoc]; exact e1, by rw [Nat.add_assoc]; exact e2, by rw [Nat.add_assoc]; exact e3, by rw [Nat.add_assoc]; exact e4, by rw [Nat.add_assoc]; exact e5⟩, e6⟩
    · have hi' : k < len := by simpa using hk
      rw [hat k hi']
      obtain ⟨_, _, _, _, _, _, _, f⟩ := hg k hi'
      exact f
end
end Go.Proofs.Yteieplodndfbhaa.LW
