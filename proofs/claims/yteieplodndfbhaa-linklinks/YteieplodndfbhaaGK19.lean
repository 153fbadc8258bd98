import Derived.Test.YteieplodndfbhaaGK10
import Derived.Test.YteieplodndfbhaaGK07
import Derived.Test.YteieplodndfbhaaGK18
import Derived.Test.YteieplodndfbhaaGK14
import Derived.Test.YteieplodndfbhaaGK11
import Derived.Laws.MakeOwn
namespace Go.Proofs.Yteieplodndfbhaa.AW
open Go.RowKit
set_option linter.unusedVariables false
set_option maxRecDepth 100000

theorem size42' : (Try.prog.info? 77).map (·.size) = some 256 := by kernel_rfl

set_option maxHeartbeats 2000000 in
theorem areasOf_any (F : Nat → AM.St) (hF : AM.Fine F) (w : World) :
    Calls Try.prog 30 #[.agg (AM.cellsB (fun n => AM.enc (F n)))] w fun e w' => ∃ v, e = .returned v ∧ Has w' v (AM.gatherN F) ∧ Below w.heap.size w w' := by
  have HF : Hid (AM.Fine F) := hF
  clear hF
  obtain ⟨C, hC⟩ : ∃ C, C = AM.cellsB (fun n => AM.enc (F n)) := ⟨_, rfl⟩
  have hCg : Hid (∀ n, n < 256 → C[n]? = some (.int .i64 (AM.enc (F n)))) := by show ∀ n, _; rw [hC]; exact fun n hn => AM.cellsB_get _ n hn
  rw [← hC]
  clear hC
  obtain ⟨i0, hi, hz0, hz1, hz2⟩ := info_parts info24
  have HX : Hid ((w.alloc (.cells C 77)).heap[w.heap.size]? = some (.cells C 77 (0, 0))) := B.new w C 77
  have HB0 : Hid (Below w.heap.size w (w.alloc (.cells C 77))) := (Below.refl _ _).alloc (Nat.le_refl _) _
  go_enter Try.func30, Try.ntmps30
  go_wp2
  go_loopw [3, 4] (fun v i wr => ∃ k : Nat, 1 ≤ k ∧ k ≤ 256 ∧ i = .int .i64 k ∧ wr.ownsRow (w.heap.size + 1) 99 4 v (AM.gatherTo F k).length (AM.areaCells (AM.gatherTo F k)) ∧ wr.heap[w.heap.size]? = some (.cells C 77 (0, 0)) ∧ Below w.heap.size w wr) (fun _ i _ => 256 - (intOf i).toNat)
  case atStart =>
    have e : AM.gatherTo F 1 = [] := by simp only [AM.gatherTo]; rw [if_pos HF.out.zero]
    refine ⟨1, by omega, by omega, rfl, ?_, HX.out, HB0.out⟩
    rw [e]
    exact World.ownsRow_nil _ _ _ _
  case round =>
    obtain ⟨k, hk1, hk, rfl, hown, hx, hb⟩ := hrel
    have HO : Hid (wr.ownsRow (w.heap.size + 1) 99 4 u3 (AM.gatherTo F k).length (AM.areaCells (AM.gatherTo F k))) := hown
    have HXr : Hid (wr.heap[w.heap.size]? = some (.cells C 77 (0, 0))) := hx
    have HB : Hid (Below w.heap.size w wr) := hb
    have hsz : w.heap.size < wr.heap.size := B.isLt hx
    by_cases hlt : k < 256
    · have l0 := B.cell hx k (hCg.out k hlt)
      have l1 := B.cell hx (k - 1) (hCg.out (k - 1) (by omega))
      have hki : (k : Int) ≤ 255 := by omega
      have hk1i : (1 : Int) ≤ (k : Int) := by omega
      have hkb : (k : Int) < 256 := by omega
      clear hown hx hb
      have hlast : AM.lastTo F k = F (k - 1) := by
        cases k with
        | zero => omega
        | succ k => rfl
      have hpk := HF.out.prot k
      have hpl := HF.out.prot (k - 1)
      obtain ⟨s, hs⟩ : ∃ s, s = F k := ⟨_, rfl⟩
      obtain ⟨t, ht⟩ : ∃ t, t = AM.lastTo F k := ⟨_, rfl⟩
      rw [← hlast, ← ht] at l1 hpl
      rw [← hs] at l0 hpk
      have HS : Hid (s = F k) := hs
      have HT : Hid (t = AM.lastTo F k) := ht
      clear hs ht hlast
      by_cases hm : s.m = true
      · have hen := AM.enc_prot s hpk hm
        have hinj := AM.enc_inj s t hpk hpl hm
        obtain ⟨x, hx⟩ : ∃ x, x = AM.enc s := ⟨_, rfl⟩
        obtain ⟨y, hy⟩ : ∃ y, y = AM.enc t := ⟨_, rfl⟩
        rw [← hx] at l0 hen hinj
        rw [← hy] at l1 hinj
        obtain ⟨hp1, hp2, hp3, hp4⟩ := hen
        have HP1 : Hid ((x - 1) % 8 / 2 = s.p) := hp1
        have HP2 : Hid (decide (8 ≤ x - 1) = s.z) := hp2
        have HI : Hid (y = x ↔ AM.stEq s t = true) := hinj
        have hx0 : (x == 0) = false := beq_eq_false_iff_ne.2 (by omega)
        clear hx hy hp1 hp2 hinj hpk hpl
        by_cases hyx : y = x
        · have he : AM.stEq s t = true := HI.out.1 hyx
          have hyx' : (y == x) = true := by simp [hyx]
          have HG : Hid (AM.gatherTo F (k + 1) = AM.bump (AM.gatherTo F k)) := by show _ = _; simp only [AM.gatherTo]; rw [← HS.out, ← HT.out, hm, he]; rfl
          have hpos := AM.gather_some F k (by rw [← HT.out, ← AM.stEq_eq s t he]; exact hm)
          have hlen := AM.gather_len F k
          have hpg := AM.gather_pages F k ((AM.gatherTo F k).length - 1) (by omega)
          obtain ⟨G, hG⟩ : ∃ G, G = AM.gatherTo F k := ⟨_, rfl⟩
          rw [← hG] at HO HG hpos hlen hpg
          clear hG he hm hyx
          rcases HO.out.2 with ⟨_, h0⟩ | ⟨g, cap, cur, hv, hbg, hg, hnc, hcm, hcs, htake⟩
          · omega
          · have HO2 := HO.out
            rw [hv] at HO2
            have p1 : wr.cell? ⟨g, (G.length - 1) * 4 + 1, none⟩ = some (.int .i64 (AM.at_ G (G.length - 1)).pages) := by
              rw [HO2.cellAt _ (by omega), AM.areaCells_get G _ 1 (by omega) (by omega)]; rfl
            have pf := HO2.frozenAt
            have HOv : Hid (wr.ownsRow (w.heap.size + 1) 99 4 (.slice (some ⟨g, 0, none⟩) G.length cap) G.length (AM.areaCells G)) := HO2
            have hgl : g < wr.heap.size := B.isLt hg
            rw [hv]
            clear HO HO2 hv hg htake hcs
            obtain ⟨pp, hpp⟩ : ∃ pp, pp = (AM.at_ G (G.length - 1)).pages := ⟨_, rfl⟩
            rw [← hpp] at p1 hpg
            have HP : Hid (pp = (AM.at_ G (G.length - 1)).pages) := hpp
            clear hpp
            have hG1 : (1 : Int) ≤ (G.length : Int) := by omega
            have hG2 : (G.length : Int) ≤ 256 := by omega
            go_wp2
            go_quiet (fail)
            obtain ⟨V, hV⟩ : ∃ V : World, V = wr.drewN nq := ⟨_, rfl⟩
            rw [← hV]
            have p1V : V.cell? ⟨g, (G.length - 1) * 4 + 1, none⟩ = some (.int .i64 pp) := by rw [hV]; exact p1
            have pfV : ∀ j, V.frozen? ⟨g, j, none⟩ = false := by rw [hV]; exact pf
            have HXV : Hid (V.heap[w.heap.size]? = some (.cells C 77 (0, 0))) := by show _ = _; rw [hV]; exact HXr.out
            have HOV : Hid (V.ownsRow (w.heap.size + 1) 99 4 (.slice (some ⟨g, 0, none⟩) G.length cap) G.length (AM.areaCells G)) := by show World.ownsRow _ _ _ _ _ _ _; rw [hV]; exact HOv.out
            have HBV : Hid (Below w.heap.size w V) := by show Below _ _ _; rw [hV]; exact below_drewN HB.out _
            clear hV p1 pf l0 l1 HXr HOv HB
            go_wp2
            go_roundw
            case rel =>
              have ho := (HOV.out.stored ((G.length - 1) * 4 + 1) (.int .i64 (pp + 1))).1
              have e : (AM.areaCells G).set ((G.length - 1) * 4 + 1) (.int .i64 (pp + 1)) = AM.areaCells (AM.bump G) := by
                rw [HP.out]; exact (AM.areaCells_set G (G.length - 1) _ (by omega)).symm
              rw [e] at ho
              refine ⟨k + 1, by omega, by omega, by go_num, ?_, B.other HXV.out _ _ _ (by omega), HBV.out.setCell (by simp; omega) _⟩
              rw [HG.out, AM.bump_length]; exact ho
            case measure => simp [intOf]; omega
        · have he : AM.stEq s t = false := by
            cases e : AM.stEq s t
            · rfl
            · exact absurd (HI.out.2 e) hyx
          have hyx' : (y == x) = false := beq_eq_false_iff_ne.2 hyx
          have HG : Hid (AM.gatherTo F (k + 1) = AM.gatherTo F k ++ [⟨(k : Int), 1, s.p, s.z⟩]) := by show _ = _; simp only [AM.gatherTo]; rw [← HS.out, ← HT.out, hm, he]; rfl
          have hlen := AM.gather_len F k
          obtain ⟨G, hG⟩ : ∃ G, G = AM.gatherTo F k := ⟨_, rfl⟩
          rw [← hG] at HO HG hlen
          clear hG he hm hyx
          have hrow : Hid (∀ j, u3.ownBlock = some j → w.heap.size + 1 ≤ j ∧ j < wr.heap.size) := HO.out.lt
          go_wp2
          go_quiet (fail)
          obtain ⟨V, hV⟩ : ∃ V : World, V = wr.drewN nq := ⟨_, rfl⟩
          rw [← hV]
          have l0V : V.cell? ⟨w.heap.size, k, none⟩ = some (.int .i64 x) := by rw [hV]; exact l0
          have HXV : Hid (V.heap[w.heap.size]? = some (.cells C 77 (0, 0))) := by show _ = _; rw [hV]; exact HXr.out
          have HOV : Hid (V.ownsRow (w.heap.size + 1) 99 4 u3 G.length (AM.areaCells G)) := by show World.ownsRow _ _ _ _ _ _ _; rw [hV]; exact HO.out
          have HBV : Hid (Below w.heap.size w V) := by show Below _ _ _; rw [hV]; exact below_drewN HB.out _
          have hrV : Hid (∀ j, u3.ownBlock = some j → w.heap.size + 1 ≤ j ∧ j < V.heap.size) := HOV.out.lt
          have hszV : w.heap.size < V.heap.size := B.isLt HXV.out
          clear hV l0 l1 HXr HO HB hrow hsz
          have HN : Hid ((V.alloc (.cells #[.int .i64 (k : Int), .int .i64 1, .int .i64 ((x - 1) % 8 / 2), .bool (decide (8 ≤ x - 1))] 99)).heap[V.heap.size]? = some (.cells #[.int .i64 (k : Int), .int .i64 1, .int .i64 ((x - 1) % 8 / 2), .bool (decide (8 ≤ x - 1))] 99 (0, 0))) := B.new _ _ _
          go_wp2_with (at_builtin; refine wpList_append_lies _ rfl _ _ 29 rfl (w.heap.size + 1) 99 i0 (.agg #[.int .i64 0, .int .i64 0, .int .i64 0, .bool false]) 4 32 Try.underlying29 hi hz0 hz1 hz2 rfl (by decide) _ _ _ rfl (HOV.out.alloc _) ⟨V.heap.size, 0, none⟩ 1 1 [.int .i64 (k : Int), .int .i64 1, .int .i64 ((x - 1) % 8 / 2), .bool (decide (8 ≤ x - 1))] rfl rfl (B.news HN.out) (AM.areaCells_one [⟨(k : Int), 1, (x - 1) % 8 / 2, decide (8 ≤ x - 1)⟩]) (by decide) (by unfold maxLen; omega) (by omega) (by simp; omega) (V.heap.size + 1) (by simp) ?_)
          intro g cap w1 hown1 hgrow hat hlt1
          have bX := B.grown (B.alloc HXV.out (.cells #[.int .i64 (k : Int), .int .i64 1, .int .i64 ((x - 1) % 8 / 2), .bool (decide (8 ≤ x - 1))] 99)) hgrow (fun e => by have := hrV.out _ e.symm; omega)
          have HO1 : Hid (w1.ownsRow (w.heap.size + 1) 99 4 (Value.slice (some ⟨g, 0, none⟩) (G.length + 1) cap) (G.length + 1) (AM.areaCells G ++ [.int .i64 (k : Int), .int .i64 1, .int .i64 ((x - 1) % 8 / 2), .bool (decide (8 ≤ x - 1))])) := hown1
          have HX1 : Hid (w1.heap[w.heap.size]? = some (.cells C 77 (0, 0))) := bX
          have HB1 : Hid (Below w.heap.size w w1) := (HBV.out.alloc HBV.out.size _).grown hgrow (by have := HBV.out.size; simp; omega) (fun k' e => by have := hrV.out _ e; omega)
          clear bX hown1 hgrow hat
          go_wp2
          go_roundw
          case rel =>
            refine ⟨k + 1, by omega, by omega, by go_num, ?_, HX1.out, HB1.out⟩
            rw [HG.out, List.length_append, AM.areaCells_append]
            have h := HO1.out
            rw [HP1.out, HP2.out] at h
            exact h
          case measure => simp [intOf]; omega
      · have hm' : s.m = false := by simpa using hm
        have hx0 := (AM.enc_zero s hpk.1).2 hm'
        have HG : Hid (AM.gatherTo F (k + 1) = AM.gatherTo F k) := by show _ = _; simp only [AM.gatherTo]; rw [← HS.out, hm']; rfl
        rw [hx0] at l0
        clear hm hx0
        go_wp2
        go_roundw
        case rel =>
          refine ⟨k + 1, by omega, by omega, by go_num, ?_, HXr.out, HB.out⟩
          rw [HG.out]; exact HO.out
        case measure => simp [intOf]; omega
    · obtain rfl : k = 256 := by omega
      clear hown hx hb
      go_wp2
      go_ret
      refine ⟨_, rfl, ?_, HB.out⟩
      show Has wr u3 (AM.gatherN F)
      rcases HO.out.2 with ⟨hv, h0⟩ | ⟨g, cap, cur, hv, hbg, hg, hnc, hcm, hcs, htake⟩
      · have h0' : (AM.gatherN F).length = 0 := h0
        exact ⟨none, 0, by rw [hv, h0'], .inl (List.eq_nil_of_length_eq_zero h0')⟩
      · have ho := HO.out
        rw [hv] at ho
        refine ⟨some ⟨g, 0, none⟩, cap, hv, .inr ⟨g, 0, rfl, fun i hi => ?_⟩⟩
        have hi' : i < (AM.gatherTo F 256).length := hi
        rw [Nat.zero_add]
        exact ⟨(ho.cellAt _ (by omega)).trans (AM.areaCells_get _ i 0 hi' (by omega)), (ho.cellAt _ (by omega)).trans (AM.areaCells_get _ i 1 hi' (by omega)), (ho.cellAt _ (by omega)).trans (AM.areaCells_get _ i 2 hi' (by omega)), (ho.cellAt _ (by omega)).trans (AM.areaCells_get _ i 3 hi' (by omega))⟩
end Go.Proofs.Yteieplodndfbhaa.AW
/- The reference's LinkedOf: the board and the sheets; what the walk carries. -/
namespace Go.Proofs.Yteieplodndfbhaa.LW
open Go.RowKit
open Go.Proofs.Yteieplodndfbhaa.W (hideC)
set_option linter.unusedVariables false
set_option maxRecDepth 100000

/-- but for the board, what comes out and the row's block all is as it was -/
structure Fq (bb ob : Nat) (w : World) (r : Option Nat) (w' : World) (r' : Option Nat) : Prop where
  size : w.heap.size ≤ w'.heap.size
  block : ∀ b, b < w.heap.size → b ≠ bb → b ≠ ob → some b ≠ r → w'.heap[b]? = w.heap[b]?
  row : r' = r ∨ ∃ g, r' = some g ∧ w.heap.size ≤ g
theorem Fq.refl (bb ob : Nat) (w : World) (r : Option Nat) : Fq bb ob w r w r := ⟨Nat.le_refl _, fun _ _ _ _ _ => rfl, .inl rfl⟩
theorem Fq.trans {bb ob : Nat} {w w1 w2 : World} {r r1 r2 : Option Nat} (h : Fq bb ob w r w1 r1) (g : Fq bb ob w1 r1 w2 r2) : Fq bb ob w r w2 r2 := by
  have hs := h.size
  refine ⟨Nat.le_trans h.size g.size, fun b hb h1 h2 hr => ?_, ?_⟩
  · rw [g.block b (by omega) h1 h2 (fun e => ?_), h.block b hb h1 h2 hr]
    rcases h.row with e1 | ⟨x, e1, e2⟩
    · exact hr (by rw [e, e1])
    · rw [e1] at e
      injection e with e
      omega
  · rcases g.row with e | ⟨x, e1, e2⟩
    · rw [e]
      exact h.row
    · exact .inr ⟨x, e1, by omega⟩
theorem Fq.ofBelow {bb ob : Nat} {w w' : World} (h : Below w.heap.size w w') (r : Option Nat) : Fq bb ob w r w' r := ⟨h.size, fun b hb _ _ _ => h.block b hb, .inl rfl⟩
theorem Fq.ofGrown {bb ob : Nat} {w w' : World} {r : Option Nat} {g : Nat} (h : w.grownBy w' r) (hs : w.heap.size ≤ w'.heap.size) (hat : r = some g ∨ g = w.heap.size) : Fq bb ob w r w' (some g) :=
  ⟨hs, fun b hb _ _ hr => h.block b hb hr, by
    rcases hat with e | e
    · exact .inl e.symm
    · exact .inr ⟨g, rfl, by omega⟩⟩
theorem Fq.ofSet {bb ob : Nat} (w : World) (r : Option Nat) (a : Addr) (v : Value) (h : a.block = bb ∨ a.block = ob) : Fq bb ob w r (w.setCell a v) r :=
  ⟨by simp, fun b hb h1 h2 _ => by
    have hne : b ≠ a.block := by rcases h with h | h <;> rw [h] <;> assumption
    exact Below.heap_setCell w a v b hne, .inl rfl⟩
theorem Fq.keep {bb ob : Nat} {w w' : World} {r r' : Option Nat} {b : Nat} {o : Obj} (h : Fq bb ob w r w' r') (hb : w.heap[b]? = some o) (h1 : b ≠ bb) (h2 : b ≠ ob) (hr : some b ≠ r) : w'.heap[b]? = some o := (h.block b (B.isLt hb) h1 h2 hr).trans hb
/-- fixes that lie in new memory, but not in the row's block -/
def HasFL (lo : Nat) (rb : Option Nat) (w : World) (ao : Option Addr) (l : List LM.Fx) : Prop := 0 < l.length → ∃ b off, ao = some ⟨b, off, none⟩ ∧ lo ≤ b ∧ b < w.heap.size ∧ some b ≠ rb ∧ LM.LieF w b off l
theorem HasFL.has {lo : Nat} {rb : Option Nat} {w : World} {ao : Option Addr} {l : List LM.Fx} (h : HasFL lo rb w ao l) : LM.HasF w ao l := fun hl => by
  obtain ⟨b, off, h1, _, h2, _, h3⟩ := h hl
  exact ⟨b, off, h1, h2, h3⟩
theorem HasFL.fq {lo bb ob : Nat} {r r' : Option Nat} {w w' : World} {ao : Option Addr} {l : List LM.Fx} (h : HasFL lo r w ao l) (hf : Fq bb ob w r w' r') (h1 : bb < lo) (h2 : ob < lo) : HasFL lo r' w' ao l := fun hl => by
  obtain ⟨b, off, e, hlo, hb, hr, hl⟩ := h hl
  have hs := hf.size
  refine ⟨b, off, e, hlo, by omega, fun g => ?_, LM.lieF_block hl (hf.block b hb (by omega) (by omega) hr)⟩
  rcases hf.row with g1 | ⟨x, g1, g2⟩
  · exact hr (by rw [g, g1])
  · rw [g1] at g
    injection g with g
    omega
/-- what the walk carries -/
structure Bo (lo bb ob : Nat) (w : World) (F : Nat → AM.St) (v : Value) (hs : List LM.Sh) : Prop where
  board : w.heap[bb]? = some (.cells (AM.cellsB (fun q => AM.enc (F q))) 77 (0, 0))
  out : w.heap[ob]? = some (.cells #[.slice none 0 0, v, .int .i64 0] 32 (0, 0))
  row : w.ownsRow lo 43 3 v hs.length (hs.flatMap LM.cellH)
  fix : ∀ k, k < hs.length → HasFL lo v.ownBlock w (LM.shAt hs k).ao (LM.shAt hs k).fixes
theorem Bo.below {lo bb ob : Nat} {w w' : World} {F : Nat → AM.St} {v : Value} {hs : List LM.Sh} (h : Bo lo bb ob w F v hs) (hb : Below w.heap.size w w') (h1 : bb < lo) (h2 : ob < lo) : Bo lo bb ob w' F v hs :=
  ⟨B.below h.board hb (B.isLt h.board), B.below h.out hb (B.isLt h.out), row_grown h.row hb, fun k hk => (h.fix k hk).fq (Fq.ofBelow hb v.ownBlock) h1 h2⟩
theorem Bo.mark {lo bb ob : Nat} {w : World} {F : Nat → AM.St} {v : Value} {hs : List LM.Sh} (h : Bo lo bb ob w F v hs) (h1 : bb < lo) (h2 : ob < lo) (hne : ob ≠ bb) (q : Nat) (hq : q < 256) (x : Int) : Bo lo bb ob (w.setCell ⟨bb, q, none⟩ (.int .i64 (AM.mark x false))) (AM.upd F q ⟨true, x, false⟩) v hs := by
  refine ⟨?_, B.other h.out _ _ _ hne, ownsRow_setCell_below h.row h1 _, fun k hk => (h.fix k hk).fq (Fq.ofSet w v.ownBlock ⟨bb, q, none⟩ _ (.inl rfl)) h1 h2⟩
  have hb := B.set h.board q (.int .i64 (AM.mark x false))
  rw [AM.cellsB_set _ q _ hq] at hb
  rw [hb]
  congr 3
  exact AM.updI_enc F q ⟨true, x, false⟩
theorem row_fl {w : World} {base lo : Nat} {v : Value} {l : List LM.Fx} (h : w.ownsRow base 89 2 v l.length (l.flatMap LM.cellF)) (hlo : lo ≤ base) (rb : Option Nat) (hrb : ∀ q, rb = some q → q < base) : ∃ ao cap, v = .slice ao l.length cap ∧ HasFL lo rb w ao l := by
  rcases h.2 with ⟨hv, h0⟩ | ⟨g, cap, cur, hv, hbg, hg, hnc, hcm, hcs, htake⟩
  · exact ⟨none, 0, by rw [hv, h0], fun hl => by omega⟩
  · subst hv
    refine ⟨some ⟨g, 0, none⟩, cap, rfl, fun hl => ⟨g, 0, rfl, by omega, B.isLt hg, fun e => by have := hrb g e.symm; omega, fun k hk => ?_⟩⟩
    rw [Nat.zero_add]
    have hh : ∀ j, j < 2 → w.cell? ⟨g, k * 2 + j, none⟩ = (LM.cellF (LM.fxAt l k))[j]? := fun j hj => (h.cellAt _ (by omega)).trans (flat_get LM.cellF 2 (fun _ => rfl) LM.fx0 l k j hk hj)
    exact ⟨hh 0 (by omega), hh 1 (by omega)⟩
/-- one sheet more -/
theorem Bo.more {lo bb ob : Nat} {w w' : World} {F : Nat → AM.St} {v : Value} {hs : List LM.Sh} {x : LM.Sh} {g cap : Nat} (h : Bo lo bb ob w F v hs) (h1 : bb < lo) (h2 : ob < lo) (hne : ob ≠ bb) (hx : HasFL lo v.ownBlock w x.ao x.fixes)
    (hown : w'.ownsRow lo 43 3 (.slice (some ⟨g, 0, none⟩) (hs.length + 1) cap) (hs.length + 1) (hs.flatMap LM.cellH ++ LM.cellH x)) (hg : w.grownBy w' v.ownBlock) (hs' : w.heap.size ≤ w'.heap.size) (hat : v.ownBlock = some g ∨ g = w.heap.size) :
    Bo lo bb ob (w'.setCell ⟨ob, 1, none⟩ (.slice (some ⟨g, 0, none⟩) (hs.length + 1) cap)) F (.slice (some ⟨g, 0, none⟩) (hs.length + 1) cap) (hs ++ [x]) := by
  have hrow := h.row.lt
  have hf : Fq bb ob w v.ownBlock (w'.setCell ⟨ob, 1, none⟩ (.slice (some ⟨g, 0, none⟩) (hs.length + 1) cap)) (some g) := (Fq.ofGrown hg hs' hat).trans (Fq.ofSet w' (some g) ⟨ob, 1, none⟩ _ (.inr rfl))
  refine ⟨B.other (B.grown h.board hg (fun e => by have := (hrow _ e.symm).1; omega)) _ _ _ (Ne.symm hne), ?_, by rw [List.length_append, List.flatMap_append]; exact ownsRow_setCell_below (by simpa using hown) h2 _, fun k hk => ?_⟩
  · have hb := B.set (B.grown h.out hg (fun e => by have := (hrow _ e.symm).1; omega)) 1 (.slice (some ⟨g, 0, none⟩) (hs.length + 1) cap)
    exact hb
  · have e : (Value.slice (some ⟨g, 0, none⟩) (hs.length + 1) cap).ownBlock = some g := rfl
    rw [e]
    rw [List.length_append] at hk
    by_cases hkl : k < hs.length
    · rw [LM.shAt_left hs x k hkl]
      exact (h.fix k hkl).fq hf h1 h2
    · obtain rfl : k = hs.length := by simp at hk; omega
      rw [LM.shAt_last]
      exact hx.fq hf h1 h2
theorem Bo.has {lo bb ob : Nat} {w : World} {F : Nat → AM.St} {v : Value} {hs : List LM.Sh} (h : Bo lo bb ob w F v hs) : ∃ ao cap, v = .slice ao hs.length cap ∧ LM.HasH w ao hs ∧ hs.length ≤ cap ∧ (0 < hs.length → ∃ b off, ao = some ⟨b, off, none⟩ ∧ lo ≤ b) := by
  have hr := h.row
  rcases hr.2 with ⟨hv, h0⟩ | ⟨g, cap, cur, hv, hbg, hg, hnc, hcm, hcs, htake⟩
  · exact ⟨none, 0, by rw [hv, h0], fun hl => by omega, by omega, fun hl => by omega⟩
  · rw [hv] at hr
    refine ⟨some ⟨g, 0, none⟩, cap, hv, fun _ => ⟨g, 0, rfl, B.isLt hg, fun k hk => ?_⟩, hnc, fun _ => ⟨g, 0, rfl, hbg⟩⟩
    rw [Nat.zero_add]
    have hh : ∀ j, j < 3 → w.cell? ⟨g, k * 3 + j, none⟩ = (LM.cellH (LM.shAt hs k))[j]? := fun j hj => (hr.cellAt _ (by omega)).trans (flat_get LM.cellH 3 (fun _ => rfl) LM.sh0 hs k j hk hj)
    exact ⟨hh 0 (by omega), hh 1 (by omega), hh 2 (by omega), (h.fix k hk).has⟩
/-- the sheets, in new memory -/
structure Fs (lo : Nat) (w : World) (v : Value) (hs : List LM.Sh) : Prop where
  row : w.ownsRow lo 43 3 v hs.length (hs.flatMap LM.cellH)
  fix : ∀ k, k < hs.length → HasFL lo v.ownBlock w (LM.shAt hs k).ao (LM.shAt hs k).fixes
theorem Bo.fs {lo bb ob : Nat} {w : World} {F : Nat → AM.St} {v : Value} {hs : List LM.Sh} (h : Bo lo bb ob w F v hs) : Fs lo w v hs := ⟨h.row, h.fix⟩
theorem Fs.set {lo : Nat} {w : World} {v : Value} {hs : List LM.Sh} (h : Fs lo w v hs) (b j : Nat) (hb : b < lo) (u : Value) : Fs lo (w.setCell ⟨b, j, none⟩ u) v hs :=
  ⟨ownsRow_setCell_below h.row hb u, fun k hk => (h.fix k hk).fq (Fq.ofSet w v.ownBlock ⟨b, j, none⟩ u (.inl rfl)) hb hb⟩
theorem Fs.below {lo : Nat} {w w' : World} {v : Value} {hs : List LM.Sh} (h : Fs lo w v hs) (hb : Below w.heap.size w w') (hlo : 0 < lo) : Fs lo w' v hs :=
  ⟨row_grown h.row hb, fun k hk => (h.fix k hk).fq (bb := 0) (ob := 0) (Fq.ofBelow hb v.ownBlock) hlo hlo⟩
theorem Fs.has {lo : Nat} {w : World} {v : Value} {hs : List LM.Sh} (h : Fs lo w v hs) {ao : Option Addr} {cap : Nat} (hv : v = .slice ao hs.length cap) : LM.HasH w ao hs := by
  have hr := h.row
  intro hl
  rcases hr.2 with ⟨hv2, h0⟩ | ⟨g, cap2, cur, hv2, hbg, hg, hnc, hcm, hcs, htake⟩
  · omega
  · rw [hv2] at hr hv
    injection hv with h1 h2 h3
    refine ⟨g, 0, h1.symm, B.isLt hg, fun k hk => ?_⟩
    rw [Nat.zero_add]
    have hh : ∀ j, j < 3 → w.cell? ⟨g, k * 3 + j, none⟩ = (LM.cellH (LM.shAt hs k))[j]? := fun j hj => (hr.cellAt _ (by omega)).trans (flat_get LM.cellH 3 (fun _ => rfl) LM.sh0 hs k j hk hj)
    exact ⟨hh 0 (by omega), hh 1 (by omega), hh 2 (by omega), (h.fix k hk).has⟩
/-- areas do not lie in a block that begins with two slices and has three cells -/
theorem has_set {V : World} {rb : Nat} {t : TypeId} {a0 a1 : Option Addr} {n0 n1 c0 c1 : Nat} {x : Value} (h : V.heap[rb]? = some (.cells #[.slice a0 n0 c0, .slice a1 n1 c1, x] t (0, 0))) {v : Value} {l : List AM.Ar} (g : AW.Has V v l) (j : Nat) (u : Value) : AW.Has (V.setCell ⟨rb, j, none⟩ u) v l := by
  obtain ⟨ao, cap, hv, hl⟩ := g
  refine ⟨ao, cap, hv, ?_⟩
  rcases hl with hl | ⟨b, off, hao, hlie⟩
  · exact .inl hl
  · by_cases h0 : l = []
    · exact .inl h0
    · have hpos : 0 < l.length := by cases l with | nil => exact (h0 rfl).elim | cons x r => simp
      obtain ⟨d0, d1, _, _⟩ := hlie 0 hpos
      have hne : b ≠ rb := fun e => by
        rw [e] at d0 d1
        simp only [Nat.zero_mul, Nat.add_zero] at d0 d1
        simp only [World.cell?, h] at d0 d1
        match off with
        | 0 => simp at d0
        | 1 => simp at d0
        | 2 => simp at d1
        | n + 3 => simp at d0
      refine .inr ⟨b, off, hao, fun i hi => ?_⟩
      have hc : ∀ k, (V.setCell ⟨rb, j, none⟩ u).cell? ⟨b, k, none⟩ = V.cell? ⟨b, k, none⟩ := fun k => World.cell?_setCell_far V ⟨rb, j, none⟩ ⟨b, k, none⟩ u (Ne.symm hne)
      obtain ⟨e0, e1, e2, e3⟩ := hlie i hi
      exact ⟨(hc _).trans e0, (hc _).trans e1, (hc _).trans e2, (hc _).trans e3⟩
/-- 'string(make([]byte, d))' -/
def zc (d : Nat) : Array Value := madeCells #[.int .u8 0] d
def zs (d : Nat) : ByteArray := ⟨Array.replicate d 0⟩
theorem infoU8 : (Try.prog.info? 5).map (fun i => (i.zero, i.size, i.bytes)) = some (some (.int .u8 0), 1, 1) := by kernel_rfl
theorem mk_zero (V : World) (d : Nat) (hd : d ≤ 100000) : (Instr.makeSlice 80 (.int .i64 (d : Int)) (.int .i64 (d : Int))).run Try.prog V = .ok (.slice (some ⟨V.heap.size, 0, none⟩) d d) (V.alloc (.cells (zc d) 5)) := by
  obtain ⟨i0, hi, hz0, hz1, hz2⟩ := info_parts infoU8
  have h := run_make (P := Try.prog) V 80 5 i0 (.int .u8 0) Try.underlying80 hi hz0 .i64 .i64 (d : Int) (d : Int) (by omega) (Int.le_refl _) (by rw [hz2]; omega) (by omega)
  rw [hz1] at h
  rw [Int.toNat_natCast, Nat.mul_one] at h
  exact h
theorem zc_get (d j : Nat) (h : j < d) : (zc d)[j]? = some (.int .u8 0) := by
  unfold zc madeCells
  simp [h, Nat.mod_one]
theorem cv_zero (V : World) (b d : Nat) (h : V.heap[b]? = some (.cells (zc d) 5 (0, 0))) : (convert 80 9 (.slice (some ⟨b, 0, none⟩) d d)).run Try.prog V = .ok (.string (zs d)) V := by
  have e : zs d = strOfNums (List.replicate d 0) := by
    unfold zs strOfNums
    simp
  rw [e]
  refine run_convert_bytes_arg _ 80 5 Try.underlying80 Try.underlying5 _ 0 d d _ (by simp) ?_ 9 Try.underlying9
  intro i hi
  rw [Nat.zero_add]
  refine B.cell h i ?_
  rw [zc_get d i hi, List.getD_eq_getElem?_getD, List.getElem?_replicate, if_pos hi]
  rfl
end Go.Proofs.Yteieplodndfbhaa.LW
namespace Go.Proofs.Yteieplodndfbhaa.AW
open Go.RowKit
set_option linter.unusedVariables false
set_option maxRecDepth 100000

theorem ext_at (l m : List AM.Ar) (hl : l.length = m.length) (h : ∀ i, i < l.length → AM.at_ l i = AM.at_ m i) : l = m := by
  apply List.ext_getElem? 
  intro i
  by_cases hi : i < l.length
  · have := h i hi
    simp only [AM.at_, List.getD_eq_getElem?_getD] at this
    rw [List.getElem?_eq_getElem hi, List.getElem?_eq_getElem (by omega)] at this ⊢
    simp at this
    rw [this]
  · rw [List.getElem?_eq_none (by omega), List.getElem?_eq_none (by omega)]

set_option maxHeartbeats 2000000 in
theorem same_some (l m : List AM.Ar) (b off cap b2 off2 cap2 : Nat) (w : World) (hl : AM.Lie w b off l) (hm : AM.Lie w b2 off2 m) (hlen : l.length = m.length) (hn : l.length ≤ 140737488351232) :
    Calls Try.prog 32 #[.slice (some ⟨b, off, none⟩) l.length cap, .slice (some ⟨b2, off2, none⟩) m.length cap2] w fun e w' => ∃ r : Bool, e = .returned (.bool r) ∧ (r = true ↔ l = m) ∧ Below w.heap.size w w' := by
  rw [← hlen]
  have hle : Hid (l.length = m.length) := hlen
  clear hlen
  go_enter Try.func32, Try.ntmps32
  go_wp2
  go_loopw [5] (fun i wr => ∃ k : Nat, k ≤ l.length ∧ i = .int .i64 k ∧ (∀ j, j < k → AM.at_ l j = AM.at_ m j) ∧ Below w.heap.size w wr) (fun i _ => l.length - (intOf i).toNat)
  case atStart => exact ⟨0, by omega, rfl, fun j hj => by omega, Below.refl _ _⟩
  case round =>
    obtain ⟨k, hk, rfl, hj, hb⟩ := hrel
    have HJ : Hid (∀ j, j < k → AM.at_ l j = AM.at_ m j) := hj
    have HB : Hid (Below w.heap.size w wr) := hb
    by_cases hlt : k < l.length
    · obtain ⟨c0, c1, c2, c3⟩ := hl.below hb k hlt
      obtain ⟨e0, e1, e2, e3⟩ := hm.below hb k (by rw [← hle.out]; exact hlt)
      obtain ⟨a, ha⟩ : ∃ a, a = AM.at_ l k := ⟨_, rfl⟩
      obtain ⟨d, hd⟩ : ∃ d, d = AM.at_ m k := ⟨_, rfl⟩
      rw [← ha] at c0 c1 c2 c3
      rw [← hd] at e0 e1 e2 e3
      have HA : Hid (a = AM.at_ l k) := ha
      have HD : Hid (d = AM.at_ m k) := hd
      clear ha hd hj hb
      have hki : (k : Int) < (l.length : Int) := by omega
      obtain ⟨p1, n1, q1, z1⟩ := a
      obtain ⟨p2, n2, q2, z2⟩ := d
      simp only at c0 c1 c2 c3 e0 e1 e2 e3
      have hcas : (p1 == p2) = false ∨ (p1 = p2 ∧ (n1 == n2) = false) ∨ (p1 = p2 ∧ n1 = n2 ∧ (q1 == q2) = false) ∨ (p1 = p2 ∧ n1 = n2 ∧ q1 = q2 ∧ z2 = !z1) ∨ (p1 = p2 ∧ n1 = n2 ∧ q1 = q2 ∧ z1 = z2) := by
        by_cases h1 : p1 = p2
        · by_cases h2 : n1 = n2
          · by_cases h3 : q1 = q2
            · by_cases h4 : z1 = z2
              · exact .inr (.inr (.inr (.inr ⟨h1, h2, h3, h4⟩)))
              · exact .inr (.inr (.inr (.inl ⟨h1, h2, h3, by cases z1 <;> cases z2 <;> simp_all⟩)))
            · exact .inr (.inr (.inl ⟨h1, h2, by simp [h3]⟩))
          · exact .inr (.inl ⟨h1, by simp [h2]⟩)
        · exact .inl (by simp [h1])
      have hdif : ∀ h : ¬ ((⟨p1, n1, q1, z1⟩ : AM.Ar) = ⟨p2, n2, q2, z2⟩), l ≠ m := fun h e => h (by rw [HA.out, HD.out, e])
      have HDIF := hdif
      have HDF : Hid (¬ ((⟨p1, n1, q1, z1⟩ : AM.Ar) = ⟨p2, n2, q2, z2⟩) → l ≠ m) := hdif
      clear hdif HDIF
      rcases hcas with h1 | ⟨h1, h2⟩ | ⟨h1, h2, h3⟩ | ⟨h1, h2, h3, h4⟩ | ⟨h1, h2, h3, h4⟩
      · have hne : Hid (l ≠ m) := HDF.out (fun e => by have := congrArg AM.Ar.page e; simp at this; simp [this] at h1)
        clear HDF HA HD
        go_wp2
        go_quiet (fail)
        go_wp2
        go_ret
        exact ⟨false, rfl, ⟨fun h => (by cases h), fun h => absurd h hne.out⟩, below_drewN HB.out _⟩
      · have hne : Hid (l ≠ m) := HDF.out (fun e => by have := congrArg AM.Ar.pages e; simp at this; simp [this] at h2)
        clear HDF HA HD
        subst h1
        go_wp2
        go_quiet (fail)
        go_wp2
        go_ret
        exact ⟨false, rfl, ⟨fun h => (by cases h), fun h => absurd h hne.out⟩, below_drewN HB.out _⟩
      · have hne : Hid (l ≠ m) := HDF.out (fun e => by have := congrArg AM.Ar.prot e; simp at this; simp [this] at h3)
        clear HDF HA HD
        subst h1; subst h2
        go_wp2
        go_quiet (fail)
        go_wp2
        go_ret
        exact ⟨false, rfl, ⟨fun h => (by cases h), fun h => absurd h hne.out⟩, below_drewN HB.out _⟩
      · have hne : Hid (l ≠ m) := HDF.out (fun e => by have := congrArg AM.Ar.zero e; simp at this; rw [h4] at this; cases z1 <;> simp at this)
        clear HDF HA HD
        subst h1; subst h2; subst h3; subst h4
        go_wp2
        go_quiet (fail)
        go_wp2
        go_ret
        exact ⟨false, rfl, ⟨fun h => (by cases h), fun h => absurd h hne.out⟩, below_drewN HB.out _⟩
      · have heq : Hid (AM.at_ l k = AM.at_ m k) := by show _ = _; rw [← HA.out, ← HD.out, h1, h2, h3, h4]
        clear HDF HA HD
        subst h1; subst h2; subst h3; subst h4
        go_wp2
        go_quiet (fail)
        go_wp2
        go_roundw
        case rel => exact ⟨k + 1, by omega, by go_num, fun j hj => if e : j = k then by rw [e]; exact heq.out else HJ.out j (by omega), below_drewN HB.out _⟩
        case measure => simp [intOf]; omega
    · obtain rfl : k = l.length := by omega
      go_wp2
      go_ret
      exact ⟨true, rfl, ⟨fun _ => ext_at l m hle.out HJ.out, fun _ => rfl⟩, HB.out⟩

theorem same_len (n m : Nat) (ao bo : Option Addr) (c d : Nat) (w : World) (h : n ≠ m) (hn : n ≤ 140737488351232) (hm : m ≤ 140737488351232) :
    Calls Try.prog 32 #[.slice ao n c, .slice bo m d] w fun e w' => e = .returned (.bool false) ∧ w = w' := by
  have h' : ((n : Int) != (m : Int)) = true := by simp; omega
  go_enter Try.func32, Try.ntmps32
  go_wp2
  go_ret
  exact ⟨rfl, rfl⟩
theorem same_nil (ao bo : Option Addr) (c d : Nat) (w : World) :
    Calls Try.prog 32 #[.slice ao 0 c, .slice bo 0 d] w fun e w' => e = .returned (.bool true) ∧ w = w' := by
  go_enter Try.func32, Try.ntmps32
  go_wp2
  refine wp_loop_rounds 1 ?_
  rw [rounds_succ]
  go_wp2
  go_ret
  exact ⟨rfl, rfl⟩
theorem same_any (l m : List AM.Ar) (v u : Value) (w : World) (hl : Has w v l) (hm : Has w u m) (hn : l.length ≤ 140737488351232) (hn2 : m.length ≤ 140737488351232) :
    Calls Try.prog 32 #[v, u] w fun e w' => ∃ r : Bool, e = .returned (.bool r) ∧ (r = true ↔ l = m) ∧ Below w.heap.size w w' := by
  obtain ⟨ao, cap, rfl, h⟩ := hl
  obtain ⟨bo, cap2, rfl, h2⟩ := hm
  by_cases hlen : l.length = m.length
  · rcases h with rfl | ⟨b, off, rfl, hl⟩
    · have hm0 : m = [] := List.eq_nil_of_length_eq_zero hlen.symm
      subst hm0
      exact (same_nil ao bo cap cap2 w).mono fun e w' ⟨he, hw⟩ => ⟨true, he, by simp, by rw [← hw]; exact Below.refl _ _⟩
    · rcases h2 with rfl | ⟨b2, off2, rfl, hm⟩
      · have hl0 : l = [] := List.eq_nil_of_length_eq_zero hlen
        subst hl0
        exact (same_nil _ bo cap cap2 w).mono fun e w' ⟨he, hw⟩ => ⟨true, he, by simp, by rw [← hw]; exact Below.refl _ _⟩
      · exact same_some l m b off cap b2 off2 cap2 w hl hm hlen hn
  · exact (same_len l.length m.length ao bo cap cap2 w hlen hn hn2).mono fun e w' ⟨he, hw⟩ => ⟨false, he, ⟨fun h => (by cases h), fun h => absurd (congrArg List.length h) hlen⟩, by rw [← hw]; exact Below.refl _ _⟩
end Go.Proofs.Yteieplodndfbhaa.AW
/- The reference's SameLinked, at the same linked program twice. -/
namespace Go.Proofs.Yteieplodndfbhaa.LW
open Go.RowKit
open Go.Proofs.Yteieplodndfbhaa.W (hideC)
set_option linter.unusedVariables false
set_option maxRecDepth 100000

set_option maxHeartbeats 2000000 in
theorem sameLinked_yes (l : List AM.Ar) (va vb : Value) (xs ys : List LM.Sh) (ax ay : Option Addr) (cx cy : Nat) (en : Int) (w : World) (ha : AW.Has w va l) (hb : AW.Has w vb l) (hl : l.length ≤ 140737488351232) (hx : LM.HasH w ax xs) (hy : LM.HasH w ay ys) (hs : SameH xs ys) (hn : M.Short xs.length) (hfn : ∀ k, k < xs.length → M.Short (LM.shAt xs k).fixes.length) :
    Calls Try.prog 10 #[.agg #[va, .slice ax xs.length cx, .int .i64 en], .agg #[vb, .slice ay ys.length cy, .int .i64 en]] w fun e w' => e = .returned (.bool true) ∧ Below w.heap.size w w' := by
  have HSA : Hid (∀ V, Below w.heap.size w V → Calls Try.prog 32 #[va, vb] V fun e w' => e = .returned (.bool true) ∧ Below V.heap.size V w') := fun V hV =>
    (AW.same_any l l va vb V (ha.below hV) (hb.below hV) hl hl).mono fun e w' ⟨r, he, hr, hbl⟩ => ⟨by rw [he, hr.2 rfl], hbl⟩
  have HSS : Hid (∀ V, Below w.heap.size w V → Calls Try.prog 33 #[.slice ax xs.length cx, .slice ay ys.length cy] V fun e w' => e = .returned (.bool true) ∧ Below V.heap.size V w') := fun V hV => sameSheets_yes xs ys ax ay cx cy V (hx.below hV) (hy.below hV) hs hn hfn
  obtain ⟨a1, c1, rfl, -⟩ := ha
  obtain ⟨a2, c2, rfl, -⟩ := hb
  have HB0 := hideC (((Below.refl w.heap.size w).alloc (Nat.le_refl _) (.cells #[.slice a1 l.length c1, .slice ax xs.length cx, .int .i64 en] 32)).alloc (by simp) (.cells #[.slice a2 l.length c2, .slice ay ys.length cy, .int .i64 en] 32))
  have B1 := hideC (B.alloc (B.new w #[.slice a1 l.length c1, .slice ax xs.length cx, .int .i64 en] 32) (.cells #[.slice a2 l.length c2, .slice ay ys.length cy, .int .i64 en] 32))
  have B2 := hideC (B.new (w.alloc (.cells #[.slice a1 l.length c1, .slice ax xs.length cx, .int .i64 en] 32)) #[.slice a2 l.length c2, .slice ay ys.length cy, .int .i64 en] 32)
  rw [World.size_alloc] at B2
  clear hl hx hy hs hn hfn
  go_enter Try.func10, Try.ntmps10
  go_wp2_with fail
  refine (HSA.out _ HB0.out).mono ?_
  rintro e w1 ⟨rfl, hb1⟩
  have HB1 := hideC (HB0.out.trans (hb1.mono HB0.out.size))
  have x1 : w1.cell? ⟨w.heap.size, 1, none⟩ = some (.slice ax xs.length cx) := B.cell (B.below B1.out hb1 (B.isLt B1.out)) 1 rfl
  have y1 : w1.cell? ⟨w.heap.size + 1, 1, none⟩ = some (.slice ay ys.length cy) := B.cell (B.below B2.out hb1 (B.isLt B2.out)) 1 rfl
  clear hb1
  go_wp2_with fail
  refine (HSS.out _ HB1.out).mono ?_
  rintro e w2 ⟨rfl, hb2⟩
  have HB2 := hideC (HB1.out.trans (hb2.mono HB1.out.size))
  clear hb2
  go_wp2
  go_ret
  exact ⟨rfl, HB2.out⟩
end Go.Proofs.Yteieplodndfbhaa.LW
