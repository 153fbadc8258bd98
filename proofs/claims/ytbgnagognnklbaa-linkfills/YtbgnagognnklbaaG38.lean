import Derived.Test.YtbgnagognnklbaaG37
import Derived.Test.YtbgnagognnklbaaG24
import Derived.Test.YtbgnagognnklbaaG25
/- What must be in any case: linkBegun answers true. -/
namespace Go.Proofs.Ytbgnagognnklbaa.LW
open Go.RowKit
open Go.Proofs.Ytbgnagognnklbaa.W (hideC)
set_option linter.unusedVariables false
set_option maxRecDepth 100000

theorem empty_fill : LM.fillN ⟨0, ⟨#[]⟩, [], none, 0⟩ = (⟨#[]⟩, 1) := rfl
theorem empty_fit : LM.FitH ⟨0, ⟨#[]⟩, [], none, 0⟩ := ⟨by unfold M.I64; decide, by unfold M.Short; decide, by unfold M.Short; decide, fun k hk => absurd hk (by simp)⟩
set_option maxHeartbeats 6000000 in
theorem begun_any (w : World) : Calls Try.prog 9 #[] w fun e w' => e = .returned (.bool true) ∧ Below w.heap.size w w' := by
  have HT := hideC W.tiny_any
  have HL : Hid (∀ (a : M.At) V, M.HasIm V a W.tinyI → Calls Try.prog 6 #[.agg (M.cellsI a W.tinyI), .slice none 0 0] V fun e w' => Below V.heap.size V w' ∧ ∃ (ar ah : Option Addr) (cr ch : Nat) (af : Option Addr) (cf : Nat), e = .returned (.tuple #[.agg #[.slice ar 1 cr, .slice ah 1 ch, .int .i64 16], .int .i64 0]) ∧ AW.Own V.heap.size w' (.slice ar 1 cr) [⟨1, 1, 2, false⟩] ∧ LM.HasH w' ah [tinyS af cf] ∧ 1 ≤ ch) := fun a V hV =>
    (link_any ⟨W.tinyI, a⟩ [] none 0 V hV (fun h => absurd h (by simp)) W.tiny_fit ⟨by unfold M.Short; decide, fun k hk => absurd hk (by simp)⟩).mono fun e w' h => tiny_out h
  have HF : Hid (∀ (af : Option Addr) (cf : Nat) V, Calls Try.prog 11 #[.agg #[.int .i64 1, .string W.tinyD, .slice af 0 cf]] V fun e w' => e = .returned (.tuple #[.string W.tinyD, .int .i64 0]) ∧ Below V.heap.size V w') := fun af cf V => by
    have h := fill_any (tinyS af cf) V (fun h => absurd h (by unfold tinyS; simp)) (tiny_fitH af cf)
    rw [tiny_fill] at h
    exact h
  have HF0 : Hid (∀ V, Calls Try.prog 11 #[.agg #[.int .i64 0, .string ⟨#[]⟩, .slice none 0 0]] V fun e w' => e = .returned (.tuple #[.string ⟨#[]⟩, .int .i64 1]) ∧ Below V.heap.size V w') := fun V => fill_any ⟨0, ⟨#[]⟩, [], none, 0⟩ V (fun h => absurd h (by simp)) empty_fit
  have HC : Hid (∀ (ar ah : Option Addr) (cr ch : Nat) (af : Option Addr) (cf : Nat) V, AW.Has V (.slice ar 1 cr) [⟨1, 1, 2, false⟩] → LM.HasH V ah [tinyS af cf] → 1 ≤ ch → Calls Try.prog 14 #[.agg #[.slice ar 1 cr, .slice ah 1 ch, .int .i64 16]] V fun e w' => e = .returned (.int .i64 0) ∧ Below V.heap.size V w') := fun ar ah cr ch af cf V h1 h2 h3 => by
    have h := check_any [⟨1, 1, 2, false⟩] [tinyS af cf] 16 (.slice ar 1 cr) ah ch V h1 tiny_fitA h2 (tiny_fitHs af cf) h3 (by unfold M.I64; decide)
    rw [tiny_check] at h
    exact h
  have hts := W.tinyD_size
  obtain ⟨TD, hTD⟩ : ∃ TD, TD = W.tinyD := ⟨_, rfl⟩
  have HTD := hideC hTD
  rw [← hTD] at HF hts
  clear hTD
  go_enter Try.func9, Try.ntmps9
  go_wp2_with fail
  refine (HT.out _).mono ?_
  rintro e w1 ⟨⟨a, rfl, him⟩, hb⟩
  have HB1 := hideC hb
  have HL1 := hideC (HL.out a w1 him)
  clear hb him HL
  go_wp2_with fail
  refine Calls.mono (P := Try.prog) HL1.out ?_
  rintro e w2 ⟨hb, ar, ah, cr, ch, af, cf, rfl, hown, hh, hch⟩
  have HB2 := hideC (HB1.out.trans (hb.mono HB1.out.size))
  have HOW := hideC hown.has
  have HH := hideC hh
  obtain ⟨bh, offh, hah, hbh, hlie⟩ := hh (by simp)
  subst hah
  obtain ⟨c0, c1, c2, -⟩ := hlie 0 (by simp)
  simp only [Nat.zero_mul, Nat.add_zero] at c0 c1 c2
  clear hb hown hh hlie HL1 HB1
  have d0 : w2.cell? ⟨bh, offh, none⟩ = some (.int .i64 1) := c0
  have d1 : w2.cell? ⟨bh, offh + 1, none⟩ = some (.string TD) := by rw [HTD.out]; exact c1
  have d2 : w2.cell? ⟨bh, offh + 2, none⟩ = some (.slice af 0 cf) := c2
  clear c0 c1 c2
  have HBA := hideC (HB2.out.alloc HB2.out.size (.cells #[.slice ar 1 cr, .slice (some ⟨bh, offh, none⟩) 1 ch, .int .i64 16] 32))
  have HRA := hideC ((Below.refl w2.heap.size w2).alloc (Nat.le_refl _) (.cells #[.slice ar 1 cr, .slice (some ⟨bh, offh, none⟩) 1 ch, .int .i64 16] 32))
  have BL := hideC (B.new w2 #[.slice ar 1 cr, .slice (some ⟨bh, offh, none⟩) 1 ch, .int .i64 16] 32)
  go_wp2_with fail
  refine (HF.out af cf _).mono ?_
  rintro e w3 ⟨rfl, hb⟩
  have HR3 := hideC (HRA.out.trans (hb.mono HRA.out.size))
  have BL3 := hideC (B.below BL.out hb (B.isLt BL.out))
  clear hb HRA BL HF d0 d1 d2 HBA
  go_wp2_with fail
  refine (HF0.out _).mono ?_
  rintro e w4 ⟨rfl, hb⟩
  have HR4 := hideC (HR3.out.trans (hb.mono HR3.out.size))
  have BL4 := hideC (B.below BL3.out hb (B.isLt BL3.out))
  clear hb HR3 BL3 HF0
  go_wp2_with fail
  refine (HT.out _).mono ?_
  rintro e w5 ⟨⟨a2, rfl, him2⟩, hb⟩
  have HR5 := hideC (HR4.out.trans (hb.mono HR4.out.size))
  have BL5 := hideC (B.below BL4.out hb (B.isLt BL4.out))
  clear hb HR4 BL4 HT
  obtain ⟨bs, offs, hag, hbs, hlg⟩ := him2.segs (by unfold W.tinyI; simp)
  obtain ⟨-, -, c2, -, -⟩ := hlg 0 (by unfold W.tinyI; simp)
  have d2 : w5.cell? ⟨bs, offs + 2, none⟩ = some (.string TD) := by
    rw [HTD.out]
    simp only [Nat.zero_mul, Nat.add_zero] at c2
    exact c2
  obtain ⟨an, cn, ag, cg, ay, cy, ar2, cr2⟩ := a2
  simp only at hag
  subst hag
  have e2 : M.cellsI ⟨an, cn, some ⟨bs, offs, none⟩, cg, ay, cy, ar2, cr2⟩ W.tinyI = #[.string ⟨#[116]⟩, .slice an 0 cn, .slice (some ⟨bs, offs, none⟩) 1 cg, .slice ay 0 cy, .slice ar2 0 cr2, .int .i64 0] := rfl
  rw [e2]
  have hfd : ∀ V : World, (Instr.field 27 (.agg #[.string ⟨#[116]⟩, .slice an 0 cn, .slice (some ⟨bs, offs, none⟩) 1 cg, .slice ay 0 cy, .slice ar2 0 cr2, .int .i64 0]) 2).run Try.prog V = .ok (.slice (some ⟨bs, offs, none⟩) 1 cg) V := fun _ => by kernel_rfl
  have l0 := B.cell BL5.out 0 rfl
  have l1 := B.cell BL5.out 1 rfl
  have l2 := B.cell BL5.out 2 rfl
  clear hlg him2 c2 e2
  go_wp2_with fail
  trace_state
  refine (HC.out ar _ cr ch af cf _ (HOW.out.below HR5.out) (HH.out.below HR5.out) hch).mono ?_
  rintro e w6 ⟨rfl, hb⟩
  have HR6 := hideC (HR5.out.trans (hb.mono HR5.out.size))
  clear hb
  go_wp2
  trace_state
  go_ret
  exact ⟨by simp, HB2.out.trans (HR6.out.mono HB2.out.size)⟩
end Go.Proofs.Ytbgnagognnklbaa.LW
namespace Go.Proofs.Ytbgnagognnklbaa.AW
open Go.RowKit
set_option linter.unusedVariables false
set_option maxRecDepth 100000

theorem size42' : (Try.prog.info? 77).map (·.size) = some 256 := by kernel_rfl

set_option maxHeartbeats 2000000 in
theorem areasOf_any (F : Nat → AM.St) (hF : AM.Fine F) (w : World) :
    Calls Try.prog 30 #[.agg (AM.cellsB (fun n => AM.enc (F n)))] w fun e w' => ∃ v, e = .returned v ∧ Has w' v (AM.gatherN F) ∧ Below w.heap.size w w' := by
  have HF : Hid (AM.Fine F) := hF
  clear hF
  obtain ⟨C, hC⟩ : ∃ C, C = AM.cellsB (fun n => AM.enc (F n)) := ⟨_, rfl⟩
  have hCg : Hid (∀ n, n < 256 → C[n]? = some (.int .i64 (AM.enc (F n)))) := by show ∀ n, _; rw [hC]; exact fun n hn => AM.cellsB_get _ n hn
  rw [← hC]
  clear hC
  obtain ⟨i0, hi, hz0, hz1, hz2⟩ := info_parts info24
  have HX : Hid ((w.alloc (.cells C 77)).heap[w.heap.size]? = some (.cells C 77 (0, 0))) := B.new w C 77
  have HB0 : Hid (Below w.heap.size w (w.alloc (.cells C 77))) := (Below.refl _ _).alloc (Nat.le_refl _) _
  go_enter Try.func30, Try.ntmps30
  go_wp2
  go_loopw [3, 4] (fun v i wr => ∃ k : Nat, 1 ≤ k ∧ k ≤ 256 ∧ i = .int .i64 k ∧ wr.ownsRow (w.heap.size + 1) 99 4 v (AM.gatherTo F k).length (AM.areaCells (AM.gatherTo F k)) ∧ wr.heap[w.heap.size]? = some (.cells C 77 (0, 0)) ∧ Below w.heap.size w wr) (fun _ i _ => 256 - (intOf i).toNat)
  case atStart =>
    have e : AM.gatherTo F 1 = [] := by simp only [AM.gatherTo]; rw [if_pos HF.out.zero]
    refine ⟨1, by omega, by omega, rfl, ?_, HX.out, HB0.out⟩
    rw [e]
    exact World.ownsRow_nil _ _ _ _
  case round =>
    obtain ⟨k, hk1, hk, rfl, hown, hx, hb⟩ := hrel
    have HO : Hid (wr.ownsRow (w.heap.size + 1) 99 4 u3 (AM.gatherTo F k).length (AM.areaCells (AM.gatherTo F k))) := hown
    have HXr : Hid (wr.heap[w.heap.size]? = some (.cells C 77 (0, 0))) := hx
    have HB : Hid (Below w.heap.size w wr) := hb
    have hsz : w.heap.size < wr.heap.size := B.isLt hx
    by_cases hlt : k < 256
    · have l0 := B.cell hx k (hCg.out k hlt)
      have l1 := B.cell hx (k - 1) (hCg.out (k - 1) (by omega))
      have hki : (k : Int) ≤ 255 := by omega
      have hk1i : (1 : Int) ≤ (k : Int) := by omega
      have hkb : (k : Int) < 256 := by omega
      clear hown hx hb
      have hlast : AM.lastTo F k = F (k - 1) := by
        cases k with
        | zero => omega
        | succ k => rfl
      have hpk := HF.out.prot k
      have hpl := HF.out.prot (k - 1)
      obtain ⟨s, hs⟩ : ∃ s, s = F k := ⟨_, rfl⟩
      obtain ⟨t, ht⟩ : ∃ t, t = AM.lastTo F k := ⟨_, rfl⟩
      rw [← hlast, ← ht] at l1 hpl
      rw [← hs] at l0 hpk
      have HS : Hid (s = F k) := hs
      have HT : Hid (t = AM.lastTo F k) := ht
      clear hs ht hlast
      by_cases hm : s.m = true
      · have hen := AM.enc_prot s hpk hm
        have hinj := AM.enc_inj s t hpk hpl hm
        obtain ⟨x, hx⟩ : ∃ x, x = AM.enc s := ⟨_, rfl⟩
        obtain ⟨y, hy⟩ : ∃ y, y = AM.enc t := ⟨_, rfl⟩
        rw [← hx] at l0 hen hinj
        rw [← hy] at l1 hinj
        obtain ⟨hp1, hp2, hp3, hp4⟩ := hen
        have HP1 : Hid ((x - 1) % 8 / 2 = s.p) := hp1
        have HP2 : Hid (decide (8 ≤ x - 1) = s.z) := hp2
        have HI : Hid (y = x ↔ AM.stEq s t = true) := hinj
        have hx0 : (x == 0) = false := beq_eq_false_iff_ne.2 (by omega)
        clear hx hy hp1 hp2 hinj hpk hpl
        by_cases hyx : y = x
        · have he : AM.stEq s t = true := HI.out.1 hyx
          have hyx' : (y == x) = true := by simp [hyx]
          have HG : Hid (AM.gatherTo F (k + 1) = AM.bump (AM.gatherTo F k)) := by show _ = _; simp only [AM.gatherTo]; rw [← HS.out, ← HT.out, hm, he]; rfl
          have hpos := AM.gather_some F k (by rw [← HT.out, ← AM.stEq_eq s t he]; exact hm)
          have hlen := AM.gather_len F k
          have hpg := AM.gather_pages F k ((AM.gatherTo F k).length - 1) (by omega)
          obtain ⟨G, hG⟩ : ∃ G, G = AM.gatherTo F k := ⟨_, rfl⟩
          rw [← hG] at HO HG hpos hlen hpg
          clear hG he hm hyx
          rcases HO.out.2 with ⟨_, h0⟩ | ⟨g, cap, cur, hv, hbg, hg, hnc, hcm, hcs, htake⟩
          · omega
          · have HO2 := HO.out
            rw [hv] at HO2
            have p1 : wr.cell? ⟨g, (G.length - 1) * 4 + 1, none⟩ = some (.int .i64 (AM.at_ G (G.length - 1)).pages) := by
              rw [HO2.cellAt _ (by omega), AM.areaCells_get G _ 1 (by omega) (by omega)]; rfl
            have pf := HO2.frozenAt
            have HOv : Hid (wr.ownsRow (w.heap.size + 1) 99 4 (.slice (some ⟨g, 0, none⟩) G.length cap) G.length (AM.areaCells G)) := HO2
            have hgl : g < wr.heap.size := B.isLt hg
            rw [hv]
            clear HO HO2 hv hg htake hcs
            obtain ⟨pp, hpp⟩ : ∃ pp, pp = (AM.at_ G (G.length - 1)).pages := ⟨_, rfl⟩
            rw [← hpp] at p1 hpg
            have HP : Hid (pp = (AM.at_ G (G.length - 1)).pages) := hpp
            clear hpp
            have hG1 : (1 : Int) ≤ (G.length : Int) := by omega
            have hG2 : (G.length : Int) ≤ 256 := by omega
            go_wp2
            go_quiet (fail)
            obtain ⟨V, hV⟩ : ∃ V : World, V = wr.drewN nq := ⟨_, rfl⟩
            rw [← hV]
            have p1V : V.cell? ⟨g, (G.length - 1) * 4 + 1, none⟩ = some (.int .i64 pp) := by rw [hV]; exact p1
            have pfV : ∀ j, V.frozen? ⟨g, j, none⟩ = false := by rw [hV]; exact pf
            have HXV : Hid (V.heap[w.heap.size]? = some (.cells C 77 (0, 0))) := by show _ = _; rw [hV]; exact HXr.out
            have HOV : Hid (V.ownsRow (w.heap.size + 1) 99 4 (.slice (some ⟨g, 0, none⟩) G.length cap) G.length (AM.areaCells G)) := by show World.ownsRow _ _ _ _ _ _ _; rw [hV]; exact HOv.out
            have HBV : Hid (Below w.heap.size w V) := by show Below _ _ _; rw [hV]; exact below_drewN HB.out _
            clear hV p1 pf l0 l1 HXr HOv HB
            go_wp2
            go_roundw
            case rel =>
              have ho := (HOV.out.stored ((G.length - 1) * 4 + 1) (.int .i64 (pp + 1))).1
              have e : (AM.areaCells G).set ((G.length - 1) * 4 + 1) (.int .i64 (pp + 1)) = AM.areaCells (AM.bump G) := by
                rw [HP.out]; exact (AM.areaCells_set G (G.length - 1) _ (by omega)).symm
              rw [e] at ho
              refine ⟨k + 1, by omega, by omega, by go_num, ?_, B.other HXV.out _ _ _ (by omega), HBV.out.setCell (by simp; omega) _⟩
              rw [HG.out, AM.bump_length]; exact ho
            case measure => simp [intOf]; omega
        · have he : AM.stEq s t = false := by
            cases e : AM.stEq s t
            · rfl
            · exact absurd (HI.out.2 e) hyx
          have hyx' : (y == x) = false := beq_eq_false_iff_ne.2 hyx
          have HG : Hid (AM.gatherTo F (k + 1) = AM.gatherTo F k ++ [⟨(k : Int), 1, s.p, s.z⟩]) := by show _ = _; simp only [AM.gatherTo]; rw [← HS.out, ← HT.out, hm, he]; rfl
          have hlen := AM.gather_len F k
          obtain ⟨G, hG⟩ : ∃ G, G = AM.gatherTo F k := ⟨_, rfl⟩
          rw [← hG] at HO HG hlen
          clear hG he hm hyx
          have hrow : Hid (∀ j, u3.ownBlock = some j → w.heap.size + 1 ≤ j ∧ j < wr.heap.size) := HO.out.lt
          go_wp2
          go_quiet (fail)
          obtain ⟨V, hV⟩ : ∃ V : World, V = wr.drewN nq := ⟨_, rfl⟩
          rw [← hV]
          have l0V : V.cell? ⟨w.heap.size, k, none⟩ = some (.int .i64 x) := by rw [hV]; exact l0
          have HXV : Hid (V.heap[w.heap.size]? = some (.cells C 77 (0, 0))) := by show _ = _; rw [hV]; exact HXr.out
          have HOV : Hid (V.ownsRow (w.heap.size + 1) 99 4 u3 G.length (AM.areaCells G)) := by show World.ownsRow _ _ _ _ _ _ _; rw [hV]; exact HO.out
          have HBV : Hid (Below w.heap.size w V) := by show Below _ _ _; rw [hV]; exact below_drewN HB.out _
          have hrV : Hid (∀ j, u3.ownBlock = some j → w.heap.size + 1 ≤ j ∧ j < V.heap.size) := HOV.out.lt
          have hszV : w.heap.size < V.heap.size := B.isLt HXV.out
          clear hV l0 l1 HXr HO HB hrow hsz
          have HN : Hid ((V.alloc (.cells #[.int .i64 (k : Int), .int .i64 1, .int .i64 ((x - 1) % 8 / 2), .bool (decide (8 ≤ x - 1))] 99)).heap[V.heap.size]? = some (.cells #[.int .i64 (k : Int), .int .i64 1, .int .i64 ((x - 1) % 8 / 2), .bool (decide (8 ≤ x - 1))] 99 (0, 0))) := B.new _ _ _
          go_wp2_with (at_builtin; refine wpList_append_lies _ rfl _ _ 29 rfl (w.heap.size + 1) 99 i0 (.agg #[.int .i64 0, .int .i64 0, .int .i64 0, .bool false]) 4 32 Try.underlying29 hi hz0 hz1 hz2 rfl (by decide) _ _ _ rfl (HOV.out.alloc _) ⟨V.heap.size, 0, none⟩ 1 1 [.int .i64 (k : Int), .int .i64 1, .int .i64 ((x - 1) % 8 / 2), .bool (decide (8 ≤ x - 1))] rfl rfl (B.news HN.out) (AM.areaCells_one [⟨(k : Int), 1, (x - 1) % 8 / 2, decide (8 ≤ x - 1)⟩]) (by decide) (by unfold maxLen; omega) (by omega) (by simp; omega) (V.heap.size + 1) (by simp) ?_)
          intro g cap w1 hown1 hgrow hat hlt1
          have bX := B.grown (B.alloc HXV.out (.cells #[.int .i64 (k : Int), .int .i64 1, .int .i64 ((x - 1) % 8 / 2), .bool (decide (8 ≤ x - 1))] 99)) hgrow (fun e => by have := hrV.out _ e.symm; omega)
          have HO1 : Hid (w1.ownsRow (w.heap.size + 1) 99 4 (Value.slice (some ⟨g, 0, none⟩) (G.length + 1) cap) (G.length + 1) (AM.areaCells G ++ [.int .i64 (k : Int), .int .i64 1, .int .i64 ((x - 1) % 8 / 2), .bool (decide (8 ≤ x - 1))])) := hown1
          have HX1 : Hid (w1.heap[w.heap.size]? = some (.cells C 77 (0, 0))) := bX
          have HB1 : Hid (Below w.heap.size w w1) := (HBV.out.alloc HBV.out.size _).grown hgrow (by have := HBV.out.size; simp; omega) (fun k' e => by have := hrV.out _ e; omega)
          clear bX hown1 hgrow hat
          go_wp2
          go_roundw
          case rel =>
            refine ⟨k + 1, by omega, by omega, by go_num, ?_, HX1.out, HB1.out⟩
            rw [HG.out, List.length_append, AM.areaCells_append]
            have h := HO1.out
            rw [HP1.out, HP2.out] at h
            exact h
          case measure => simp [intOf]; omega
      · have hm' : s.m = false := by simpa using hm
        have hx0 := (AM.enc_zero s hpk.1).2 hm'
        have HG : Hid (AM.gatherTo F (k + 1) = AM.gatherTo F k) := by show _ = _; simp only [AM.gatherTo]; rw [← HS.out, hm']; rfl
        rw [hx0] at l0
        clear hm hx0
        go_wp2
        go_roundw
        case rel =>
          refine ⟨k + 1, by omega, by omega, by go_num, ?_, HXr.out, HB.out⟩
          rw [HG.out]; exact HO.out
        case measure => simp [intOf]; omega
    · obtain rfl : k = 256 := by omega
      clear hown hx hb
      go_wp2
      go_ret
      refine ⟨_, rfl, ?_, HB.out⟩
      show Has wr u3 (AM.gatherN F)
      rcases HO.out.2 with ⟨hv, h0⟩ | ⟨g, cap, cur, hv, hbg, hg, hnc, hcm, hcs, htake⟩
      · have h0' : (AM.gatherN F).length = 0 := h0
        exact ⟨none, 0, by rw [hv, h0'], .inl (List.eq_nil_of_length_eq_zero h0')⟩
      · have ho := HO.out
        rw [hv] at ho
        refine ⟨some ⟨g, 0, none⟩, cap, hv, .inr ⟨g, 0, rfl, fun i hi => ?_⟩⟩
        have hi' : i < (AM.gatherTo F 256).length := hi
        rw [Nat.zero_add]
        exact ⟨(ho.cellAt _ (by omega)).trans (AM.areaCells_get _ i 0 hi' (by omega)), (ho.cellAt _ (by omega)).trans (AM.areaCells_get _ i 1 hi' (by omega)), (ho.cellAt _ (by omega)).trans (AM.areaCells_get _ i 2 hi' (by omega)), (ho.cellAt _ (by omega)).trans (AM.areaCells_get _ i 3 hi' (by omega))⟩
end Go.Proofs.Ytbgnagognnklbaa.AW
