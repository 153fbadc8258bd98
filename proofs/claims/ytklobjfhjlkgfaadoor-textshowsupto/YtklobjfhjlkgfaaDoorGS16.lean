import Derived.Test.YtklobjfhjlkgfaaDoorGS11
import Derived.Test.YtklobjfhjlkgfaaDoorChecked
import Derived.Test.YtklobjfhjlkgfaaDoorRows
import Derived.Deep.Slices
import Derived.ProofKit
import Derived.OpenShut
import Derived.Lib.LaidTab
import Derived.LaidLaws
import Derived.Stop.LaidErr
import Derived.LaidMore
import Derived.Lay
import Derived.Test.YtklobjfhjlkgfaaDoorGS02
import Derived.SizedLaws
/- What the row's list of variables gives. -/
namespace Go.Proofs.YtklobjfhjlkgfaaDoor.TW
open Go.RowKit Go.Deep
set_option linter.unusedVariables false
set_option maxRecDepth 100000
set_option linter.unusedSimpArgs false

theorem gTable : Tryd.prog.globalNamed "foliant/text.table" = some 0 := by kernel_rfl
theorem tTable : (Tryd.prog.globals[0]?).map (·.type) = some 71 := by kernel_rfl
theorem gSyn : Tryd.prog.globalNamed "strconv.ErrSyntax" = some 3 := by kernel_rfl
theorem tSyn : (Tryd.prog.globals[3]?).map (·.type) = some 77 := by kernel_rfl
theorem gRan : Tryd.prog.globalNamed "strconv.ErrRange" = some 4 := by kernel_rfl
theorem tRan : (Tryd.prog.globals[4]?).map (·.type) = some 77 := by kernel_rfl
theorem gTen : Tryd.prog.globalNamed "internal/strconv.uint64pow10" = some 2 := by kernel_rfl
theorem tTen : (Tryd.prog.globals[2]?).map (·.type) = some 121 := by kernel_rfl
theorem cellsTen : Tryd.prog.cellsOf 121 = 20 := by kernel_rfl
theorem cellsU : Tryd.prog.cellsOf 97 = 1 := by kernel_rfl
theorem cellsRow : Tryd.prog.cellsOf 48 = 4 := by kernel_rfl
theorem cellsInt : Tryd.prog.cellsOf 3 = 1 := by kernel_rfl
theorem cellsStr : Tryd.prog.cellsOf 9 = 1 := by kernel_rfl
theorem table_is : (Rows.laid_foliant_text_table : DataW Unit) = .slice (tableL.map rowD) [] := rfl
section
variable {enc : TypeId × Value → Unit} {w : World} {base : Nat} {spare : Nat → Bool} {held : Bool}
theorem one_row {n : Nat} {a : Addr} {cs : List Value} {r : Row} {pl : List MemPlace} (hc : w.cells? base a 4 = some cs) (h : DataW.trod enc Tryd.prog w base spare held n 48 cs = some (rowD r, pl)) :
    ∀ j v, r.cells[j]? = some v → w.cell? (a.add j) = some v := by
  obtain ⟨_, hlen, hcell⟩ := World.cells?_some hc
  obtain ⟨xs, k, hk, hxy, _, hxl, hf⟩ := DataW.trod_struct Tryd.underlying48 h
  match cs, hlen with
  | [v0, v1, v2, v3], _ =>
    have g0 : DataW.trod enc Tryd.prog w base spare held k 9 (([v0, v1, v2, v3].drop 0).take (Tryd.prog.cellsOf 9)) = xs[0]? := hf 0 _ rfl
    have g1 : DataW.trod enc Tryd.prog w base spare held k 3 (([v0, v1, v2, v3].drop 1).take (Tryd.prog.cellsOf 3)) = xs[1]? := hf 1 _ rfl
    have g2 : DataW.trod enc Tryd.prog w base spare held k 3 (([v0, v1, v2, v3].drop 2).take (Tryd.prog.cellsOf 3)) = xs[2]? := hf 2 _ rfl
    have g3 : DataW.trod enc Tryd.prog w base spare held k 9 (([v0, v1, v2, v3].drop 3).take (Tryd.prog.cellsOf 9)) = xs[3]? := hf 3 _ rfl
    simp only [cellsInt, cellsStr] at g0 g1 g2 g3
    have e0 := hcell 0 (by omega)
    have e1 := hcell 1 (by omega)
    have e2 := hcell 2 (by omega)
    have e3 := hcell 3 (by omega)
    match xs, hxl with
    | [y0, y1, y2, y3], _ =>
      obtain ⟨s0, c0, d0, _⟩ := DataW.trod_string Tryd.underlying9 (show DataW.trod enc Tryd.prog w base spare held k 9 [v0] = some y0 from g0)
      obtain ⟨m1, c1, d1, _⟩ := DataW.trod_int Tryd.underlying3 (show DataW.trod enc Tryd.prog w base spare held k 3 [v1] = some y1 from g1)
      obtain ⟨m2, c2, d2, _⟩ := DataW.trod_int Tryd.underlying3 (show DataW.trod enc Tryd.prog w base spare held k 3 [v2] = some y2 from g2)
      obtain ⟨s3, c3, d3, _⟩ := DataW.trod_string Tryd.underlying9 (show DataW.trod enc Tryd.prog w base spare held k 9 [v3] = some y3 from g3)
      simp only [List.cons.injEq, and_true] at c0 c1 c2 c3
      subst c0; subst c1; subst c2; subst c3
      subst d0; subst d1; subst d2; subst d3
      have hr : rowD r = rowD ⟨s0, m1, m2, s3⟩ := congrArg Prod.fst hxy
      have hr2 := rowD_inj hr
      subst hr2
      intro j v hj
      match j, hj with
      | 0, hj => injection hj with hj; subst hj; exact e0
      | 1, hj => injection hj with hj; subst hj; exact e1
      | 2, hj => injection hj with hj; subst hj; exact e2
      | 3, hj => injection hj with hj; subst hj; exact e3
      | n + 4, hj => cases hj
end
theorem tab_of {W : World} {rest : List (String × DataW Unit)} (h : laidMet Tryd.prog (("foliant/text.table", Rows.laid_foliant_text_table) :: rest) W) (hlt : 9 ≤ W.heap.size) : ∃ tb o cap, Tab tb o cap W := by
  obtain ⟨ps, ⟨g, t, cs, fuel, p, q, hg, ht, hv, hd, _, _⟩, _, _⟩ := h
  obtain rfl := Option.some.inj (gTable.symm.trans hg)
  obtain rfl := Option.some.inj (tTable.symm.trans ht)
  rw [table_is] at hd
  rcases open_slice Tryd.underlying71 hd with ⟨_, hx⟩ | ⟨a, len, cap, m, n, D, Pl, hcs, hb, hl, hm, hmm, hx, hel⟩
  · cases hx
  · have h1 : (tableL.map rowD) = (List.range len).map D := by
      have := congrArg Prod.fst hx
      simp only [DataW.slice.injEq] at this
      exact this.1
    have hlen : len = 22 := by
      have := congrArg List.length h1
      simp only [List.length_map, List.length_range] at this
      exact this.symm
    subst hlen
    have hmge : 22 ≤ m := by rw [hmm]; split <;> omega
    have hD : ∀ k, k < 22 → D k = rowD (rowAt k) := by
      intro k hk
      have h2 := congrArg (·[k]?) h1
      simp only [List.getElem?_map, List.getElem?_range hk, Option.map_some] at h2
      have hkt : k < tableL.length := hk
      rw [List.getElem?_eq_getElem hkt] at h2
      have h3 : rowD (tableL[k]) = D k := by simpa using h2
      rw [← h3]
      unfold rowAt
      rw [List.getD_eq_getElem?_getD, List.getElem?_eq_getElem hkt]
      rfl
    have hrows : ∀ k, k < 22 → ∀ j v, (rowAt k).cells[j]? = some v → W.cell? ((a.add (k * 4)).add j) = some v := by
      intro k hk
      obtain ⟨cs', h2, h3⟩ := hel k (by omega)
      rw [cellsRow] at h2
      rw [hD k hk] at h3
      exact one_row h2 h3
    obtain ⟨b, off, spot⟩ := a
    have c0 := hrows 0 (by omega) 0 _ rfl
    have hspot : spot = none := by simpa [Addr.add] using World.cell?_spot c0
    subst hspot
    have hb2 : b < W.heap.size := by
      have := hrows 0 (by omega) 0 _ rfl
      rcases Nat.lt_or_ge b W.heap.size with h4 | h4
      · exact h4
      · simp [World.cell?, Addr.add, Array.getElem?_eq_none h4] at this
    refine ⟨b, off, cap, ?_, fun k hk j v hj => ?_, hb2⟩
    · have hvc := World.var?_cell hg hv 0
      have : cs = #[.slice (some ⟨b, off, none⟩) 22 cap] := by
        apply Array.ext'
        rw [hcs]
      rw [this] at hvc
      simpa using hvc
    · have := hrows k hk j v hj
      rw [add_add, Addr.add_lit] at this
      rw [Nat.add_assoc]
      exact this
theorem iface_of {W : World} {n nm : String} {d : DataW Unit} {g : Nat} {ti : TypeId} {ms : Array (String × TypeId)} {rest : List (String × DataW Unit)} (h : laidMet Tryd.prog ((n, .iface nm d) :: rest) W) (hg : Tryd.prog.globalNamed n = some g) (ht : (Tryd.prog.globals[g]?).map (·.type) = some ti) (hi : Tryd.prog.underlying ti = some (.interface ms)) : ∃ ev, W.cell? ⟨g, 0, none⟩ = some ev ∧ (ev = .nilIface ∨ ∃ te pe, ev = .iface te pe) := by
  obtain ⟨ps, ⟨g0, t0, cs, fuel, p, q, hg0, ht0, hv, hd, _, _⟩, _, _⟩ := h
  obtain rfl := Option.some.inj (hg.symm.trans hg0)
  obtain rfl := Option.some.inj (ht.symm.trans ht0)
  obtain ⟨f1, u, v, hcs, _, _⟩ := iface_of_trod hi hd
  have hvc := World.var?_cell hg0 hv 0
  have : cs = #[.iface u v] := by
    apply Array.ext'
    rw [hcs]
  rw [this] at hvc
  exact ⟨.iface u v, by simpa using hvc, .inr ⟨u, v, rfl⟩⟩
theorem heap9 {W : World} (h : W.ShapedOpen Tryd.prog) : 9 ≤ W.heap.size := by
  obtain ⟨m, hm⟩ := Tryd.laysM145.s1_3 W h
  have e : ((begin Tryd.prog (fun _ _ => 0) default).world.heap[8]?).bind Obj.row? ≠ none := by
    intro e
    have : (((begin Tryd.prog (fun _ _ => 0) default).world.heap[8]?).bind Obj.row?).isSome = true := by kernel_rfl
    rw [e] at this
    cases this
  cases e2 : ((begin Tryd.prog (fun _ _ => 0) default).world.heap[8]?).bind Obj.row? with
  | none => exact (e e2).elim
  | some zt =>
    obtain ⟨cs, hh, _⟩ := h.1 8 zt.1 zt.2 (by show (8 : Nat) < _; have : Tryd.prog.globals.size = 9 := by kernel_rfl
                                              omega) e2
    have := B.isLt hh
    omega
/-- what is laid -/
theorem lay_of {W : World} (h0 : laidMetH Tryd.prog Rows.textBackUptoRow.laid W) (hs : W.ShapedOpen Tryd.prog) : ∃ tb o cap, Lay tb o cap W := by
  rw [MakeChecks.laidMetH_plain _ _ _ (by kernel_rfl)] at h0
  have h9 := heap9 hs
  obtain ⟨tb, o, cap, ht⟩ := tab_of (rest := [("unicode/utf8.first", Rows.laid_unicode_utf8_first)]) h0.tail.tail.tail.tail.tail.tail h9
  refine ⟨tb, o, cap, ht, ?_, ?_, ?_, ?_, h9⟩
  · exact Lib.tabIs_of_head (rest := _) gTen tTen Tryd.underlying121 Tryd.underlying97 cellsU cellsTen (show laidMet Tryd.prog (("internal/strconv.uint64pow10", Lib.tabData .u64 Lib.pow10Tab) :: _) W from h0.tail.tail)
  · exact Tryd.laysM145.s1_3 W hs
  · exact iface_of h0.tail.tail.tail.tail.tail gSyn tSyn Tryd.underlying77
  · exact iface_of h0.tail.tail.tail.tail gRan tRan Tryd.underlying77
end Go.Proofs.YtklobjfhjlkgfaaDoor.TW
/- The reading of instructions and processes that came in. -/
namespace Go.Proofs.YtklobjfhjlkgfaaDoor.PW
open Go.RowKit Go.Deep
set_option linter.unusedVariables false
set_option maxRecDepth 100000

theorem cellsI5 : Tryd.prog.cellsOf 23 = 5 := by kernel_rfl
theorem cellsP13 : Tryd.prog.cellsOf 46 = 13 := by kernel_rfl
theorem cellsR8 : Tryd.prog.cellsOf 42 = 8 := by kernel_rfl
theorem cellsF2 : Tryd.prog.cellsOf 44 = 2 := by kernel_rfl
theorem cells3 : Tryd.prog.cellsOf 3 = 1 := by kernel_rfl
section
variable {H : Type} {enc : TypeId × Value → H} {w : World} {base : Nat} {spare : Nat → Bool} {held : Bool}
theorem one_int {fuel : Nat} {v : Value} {y : Option (DataW H × List MemPlace)} (h : DataW.trod enc Tryd.prog w base spare held fuel 3 [v] = y) (hy : y.isSome = true) : ∃ n : Int, v = .int .i64 n := by
  obtain ⟨y', rfl⟩ := Option.isSome_iff_exists.1 hy
  obtain ⟨n, c, _, _⟩ := DataW.trod_int Tryd.underlying3 h
  simp only [List.cons.injEq, and_true] at c
  exact ⟨n, c⟩
theorem open_instr {fuel : Nat} {cs : List Value} {x : DataW H × List MemPlace} (h : DataW.trod enc Tryd.prog w base spare held fuel 23 cs = some x) : ∃ i : PM.Ins, cs = i.cells.toList := by
  obtain ⟨xs, k, hk, hxy, hcl, hxl, hf⟩ := DataW.trod_struct Tryd.underlying23 h
  rw [cellsI5] at hcl
  match cs, hcl with
  | [v0, v1, v2, v3, v4], _ =>
    have g0 : DataW.trod enc Tryd.prog w base spare held k 3 (([v0, v1, v2, v3, v4].drop 0).take (Tryd.prog.cellsOf 3)) = xs[0]? := hf 0 _ rfl
    have g1 : DataW.trod enc Tryd.prog w base spare held k 3 (([v0, v1, v2, v3, v4].drop 1).take (Tryd.prog.cellsOf 3)) = xs[1]? := hf 1 _ rfl
    have g2 : DataW.trod enc Tryd.prog w base spare held k 3 (([v0, v1, v2, v3, v4].drop 2).take (Tryd.prog.cellsOf 3)) = xs[2]? := hf 2 _ rfl
    have g3 : DataW.trod enc Tryd.prog w base spare held k 3 (([v0, v1, v2, v3, v4].drop 3).take (Tryd.prog.cellsOf 3)) = xs[3]? := hf 3 _ rfl
    have g4 : DataW.trod enc Tryd.prog w base spare held k 3 (([v0, v1, v2, v3, v4].drop 4).take (Tryd.prog.cellsOf 3)) = xs[4]? := hf 4 _ rfl
    simp only [cells3] at g0 g1 g2 g3 g4
    match xs, hxl with
    | [y0, y1, y2, y3, y4], _ =>
      obtain ⟨n0, rfl⟩ := one_int (show DataW.trod enc Tryd.prog w base spare held k 3 [v0] = some y0 from g0) rfl
      obtain ⟨n1, rfl⟩ := one_int (show DataW.trod enc Tryd.prog w base spare held k 3 [v1] = some y1 from g1) rfl
      obtain ⟨n2, rfl⟩ := one_int (show DataW.trod enc Tryd.prog w base spare held k 3 [v2] = some y2 from g2) rfl
      obtain ⟨n3, rfl⟩ := one_int (show DataW.trod enc Tryd.prog w base spare held k 3 [v3] = some y3 from g3) rfl
      obtain ⟨n4, rfl⟩ := one_int (show DataW.trod enc Tryd.prog w base spare held k 3 [v4] = some y4 from g4) rfl
      exact ⟨⟨n0, n1, n2, n3, n4⟩, rfl⟩
theorem open_proc {fuel : Nat} {cs : List Value} {x : DataW H × List MemPlace} (h : DataW.trod enc Tryd.prog w base spare held fuel 46 cs = some x) : ∃ p : PM.Pr, cs = p.row.toList := by
  obtain ⟨xs, k, hk, hxy, hcl, hxl, hf⟩ := DataW.trod_struct Tryd.underlying46 h
  rw [cellsP13] at hcl
  match cs, hcl with
  | [v0, v1, v2, v3, v4, v5, v6, v7, v8, v9, v10, v11, v12], _ =>
    have g0 : DataW.trod enc Tryd.prog w base spare held k 42 (([v0, v1, v2, v3, v4, v5, v6, v7, v8, v9, v10, v11, v12].drop 0).take (Tryd.prog.cellsOf 42)) = xs[0]? := hf 0 _ rfl
    have g1 : DataW.trod enc Tryd.prog w base spare held k 3 (([v0, v1, v2, v3, v4, v5, v6, v7, v8, v9, v10, v11, v12].drop 8).take (Tryd.prog.cellsOf 3)) = xs[1]? := hf 1 _ rfl
    have g2 : DataW.trod enc Tryd.prog w base spare held k 3 (([v0, v1, v2, v3, v4, v5, v6, v7, v8, v9, v10, v11, v12].drop 9).take (Tryd.prog.cellsOf 3)) = xs[2]? := hf 2 _ rfl
    have g3 : DataW.trod enc Tryd.prog w base spare held k 3 (([v0, v1, v2, v3, v4, v5, v6, v7, v8, v9, v10, v11, v12].drop 10).take (Tryd.prog.cellsOf 3)) = xs[3]? := hf 3 _ rfl
    have g4 : DataW.trod enc Tryd.prog w base spare held k 44 (([v0, v1, v2, v3, v4, v5, v6, v7, v8, v9, v10, v11, v12].drop 11).take (Tryd.prog.cellsOf 44)) = xs[4]? := hf 4 _ rfl
    simp only [cells3, cellsR8, cellsF2] at g0 g1 g2 g3 g4
    match xs, hxl with
    | [y0, y1, y2, y3, y4], _ =>
      obtain ⟨n8, rfl⟩ := one_int (show DataW.trod enc Tryd.prog w base spare held k 3 [v8] = some y1 from g1) rfl
      obtain ⟨n9, rfl⟩ := one_int (show DataW.trod enc Tryd.prog w base spare held k 3 [v9] = some y2 from g2) rfl
      obtain ⟨n10, rfl⟩ := one_int (show DataW.trod enc Tryd.prog w base spare held k 3 [v10] = some y3 from g3) rfl
      have t0 : DataW.trod enc Tryd.prog w base spare held k 42 [v0, v1, v2, v3, v4, v5, v6, v7] = some y0 := g0
      have t4 : DataW.trod enc Tryd.prog w base spare held k 44 [v11, v12] = some y4 := g4
      obtain ⟨az, ka, _, _, _, hal, ha⟩ := DataW.trod_array Tryd.underlying42 t0
      obtain ⟨fs, kf, _, _, _, hfl, hff⟩ := DataW.trod_struct Tryd.underlying44 t4
      have f0 : DataW.trod enc Tryd.prog w base spare held kf 3 (([v11, v12].drop 0).take (Tryd.prog.cellsOf 3)) = fs[0]? := hff 0 _ rfl
      have f1 : DataW.trod enc Tryd.prog w base spare held kf 3 (([v11, v12].drop 1).take (Tryd.prog.cellsOf 3)) = fs[1]? := hff 1 _ rfl
      simp only [cells3] at f0 f1 ha
      match fs, hfl with
      | [q0, q1], _ =>
        obtain ⟨n11, rfl⟩ := one_int (show DataW.trod enc Tryd.prog w base spare held kf 3 [v11] = some q0 from f0) rfl
        obtain ⟨n12, rfl⟩ := one_int (show DataW.trod enc Tryd.prog w base spare held kf 3 [v12] = some q1 from f1) rfl
        match az, hal with
        | [a0, a1, a2, a3, a4, a5, a6, a7], _ =>
          obtain ⟨n0, rfl⟩ := one_int (show DataW.trod enc Tryd.prog w base spare held ka 3 [v0] = some a0 from ha 0 (by omega)) rfl
          obtain ⟨n1, rfl⟩ := one_int (show DataW.trod enc Tryd.prog w base spare held ka 3 [v1] = some a1 from ha 1 (by omega)) rfl
          obtain ⟨n2, rfl⟩ := one_int (show DataW.trod enc Tryd.prog w base spare held ka 3 [v2] = some a2 from ha 2 (by omega)) rfl
          obtain ⟨n3, rfl⟩ := one_int (show DataW.trod enc Tryd.prog w base spare held ka 3 [v3] = some a3 from ha 3 (by omega)) rfl
          obtain ⟨n4, rfl⟩ := one_int (show DataW.trod enc Tryd.prog w base spare held ka 3 [v4] = some a4 from ha 4 (by omega)) rfl
          obtain ⟨n5, rfl⟩ := one_int (show DataW.trod enc Tryd.prog w base spare held ka 3 [v5] = some a5 from ha 5 (by omega)) rfl
          obtain ⟨n6, rfl⟩ := one_int (show DataW.trod enc Tryd.prog w base spare held ka 3 [v6] = some a6 from ha 6 (by omega)) rfl
          obtain ⟨n7, rfl⟩ := one_int (show DataW.trod enc Tryd.prog w base spare held ka 3 [v7] = some a7 from ha 7 (by omega)) rfl
          exact ⟨⟨fun j => match j with | 0 => n0 | 1 => n1 | 2 => n2 | 3 => n3 | 4 => n4 | 5 => n5 | 6 => n6 | _ => n7, n8, n9, n10, n11, n12⟩, rfl⟩
end
end Go.Proofs.YtklobjfhjlkgfaaDoor.PW
