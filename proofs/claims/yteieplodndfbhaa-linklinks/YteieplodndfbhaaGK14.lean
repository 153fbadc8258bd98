import Derived.Test.YteieplodndfbhaaGK07
import Derived.Test.YteieplodndfbhaaGK13
import Derived.Test.YteieplodndfbhaaGK12
import Derived.Test.YteieplodndfbhaaGK05
/- Map, one by one, is the board at one time; plain Lean. -/
namespace Go.Proofs.Yteieplodndfbhaa.LM
open Go.RowKit
set_option linter.unusedVariables false
set_option maxRecDepth 100000

/-- all mapped pages are Zero -/
def setz (F : Nat → AM.St) : Nat → AM.St := fun n => ⟨(F n).m, (F n).p, (F n).m⟩
structure Inv (F : Nat → AM.St) (B : Int) : Prop where
  z : ∀ n, (F n).z = false
  fine : AM.Fine F
  past : ∀ n : Nat, B ≤ (n : Int) → F n = AM.off
theorem setz_fine {F : Nat → AM.St} (h : AM.Fine F) : AM.Fine (setz F) := by
  refine ⟨h.zero, fun n hn => ?_, h.prot⟩
  have := h.none n hn
  unfold setz
  rw [this]
  rfl
theorem spread_gather {F : Nat → AM.St} (h : AM.Fine F) (hp : ∀ n : Nat, 256 ≤ (n : Int) → F n = AM.off) : AM.spreadN (AM.gatherN F) = F := by
  funext n
  have h1 := AM.spread_look (AM.gatherN F) _ (AM.gatherN F) rfl (AM.gather_good F h) n
  have h2 := (AM.gather_inv F h 256 (Nat.le_refl _)).look n
  unfold AM.spreadN
  rw [← h1]
  have h3 : AM.look (AM.gatherN F) n = if n < 256 then F n else AM.off := h2
  rw [h3]
  by_cases c : n < 256
  · rw [if_pos c]
  · rw [if_neg c, hp n (by omega)]
theorem lay_inv {F : Nat → AM.St} {B : Int} (h : Inv F B) (a : AM.Ar) (hz : a.zero = false) (hp : 1 ≤ a.page) (hq : 0 ≤ a.prot ∧ a.prot ≤ 3) (t : Int) (hB : B ≤ t) : Inv (AM.layTo F a t) t := by
  refine ⟨fun n => ?_, ⟨?_, fun n hn => ?_, fun n => ?_⟩, fun n hn => ?_⟩
  · unfold AM.layTo
    split
    · exact hz
    · exact h.z n
  · unfold AM.layTo
    rw [if_neg (by omega)]
    exact h.fine.zero
  · unfold AM.layTo at hn ⊢
    split at hn
    · cases hn
    · rename_i c
      rw [if_neg c]
      exact h.fine.none n hn
  · unfold AM.layTo
    split
    · exact hq
    · exact h.fine.prot n
  · unfold AM.layTo
    rw [if_neg (by omega)]
    exact h.past n (by omega)
theorem map_step {F : Nat → AM.St} {B : Int} (h : Inv F B) (hB6 : B ≤ 256) (page pages q : Int) (h1 : 1 ≤ page) (h2 : 1 ≤ pages) (h3 : page + pages ≤ 256) (hq : 0 ≤ q ∧ q ≤ 3) (hB : B ≤ page) :
    (AW.mapN (AM.gatherN (setz F)) page pages q).1 = AM.gatherN (setz (AM.layTo F ⟨page, pages, q, false⟩ (page + pages))) := by
  have hf := setz_fine h.fine
  have hpast : ∀ n : Nat, 256 ≤ (n : Int) → setz F n = AM.off := fun n hn => by
    unfold setz
    rw [h.past n (by omega)]
    rfl
  have hoff : ∀ n : Nat, page ≤ (n : Int) → setz F n = AM.off := fun n hn => by
    unfold setz
    rw [h.past n (by omega)]
    rfl
  have hsp := spread_gather hf hpast
  have hck := AM.check_gather _ hf
  have hpb : (AM.pagesB page pages && AM.protB q) = true := by
    rw [(AM.pagesB_iff page pages).2 ⟨h1, h2, by omega⟩]
    unfold AM.protB
    rw [decide_eq_true hq]
    rfl
  have herr : AM.errFrom (setz F) (AW.howMap q) page.toNat pages.toNat = 0 := by
    refine AM.errFrom_zero _ _ _ _ (fun k hk1 hk2 => ?_)
    rw [hoff k (by omega)]
    rfl
  unfold AW.mapN AM.turnN
  rw [if_pos hck, if_pos hpb, hsp, if_pos herr]
  show AM.gatherN _ = AM.gatherN _
  congr 1
  funext n
  unfold AM.turned setz AM.layTo
  simp only
  by_cases c : page ≤ (n : Int) ∧ (n : Int) < page + pages
  · rw [if_pos c, if_pos c]
    have := h.past n (by omega)
    rw [this]
    rfl
  · rw [if_neg c, if_neg c]
theorem at_map (G : List AM.Ar) (i : Nat) (h : i < G.length) : AM.at_ (G.map clr) i = clr (AM.at_ G i) := by
  unfold AM.at_
  rw [List.getD_eq_getElem?_getD, List.getD_eq_getElem?_getD, List.getElem?_map, List.getElem?_eq_getElem h]
  rfl
theorem bump_map (G : List AM.Ar) : (AM.bump G).map clr = AM.bump (G.map clr) := by
  unfold AM.bump
  rw [List.map_set, List.length_map]
  by_cases h : 0 < G.length
  · rw [at_map G _ (by omega)]
    rfl
  · have e : G = [] := List.eq_nil_of_length_eq_zero (by omega)
    subst e
    rfl
theorem gather_clr {F : Nat → AM.St} (hz : ∀ n, (F n).z = false) : ∀ k, (AM.gatherTo (setz F) k).map clr = AM.gatherTo F k
  | 0 => rfl
  | k + 1 => by
    have ih := gather_clr hz k
    have hl : AM.stEq (setz F k) (AM.lastTo (setz F) k) = AM.stEq (F k) (AM.lastTo F k) := by
      have e1 : ∀ x y : AM.St, x.z = false → y.z = false → AM.stEq ⟨x.m, x.p, x.m⟩ ⟨y.m, y.p, y.m⟩ = AM.stEq x y := fun x y hx hy => by
        unfold AM.stEq
        simp only
        rw [hx, hy]
        cases x.m <;> cases y.m <;> simp
      cases k with
      | zero => exact e1 (F 0) AM.off (hz 0) rfl
      | succ j => exact e1 (F (j + 1)) (F j) (hz _) (hz _)
    simp only [AM.gatherTo]
    rw [hl]
    have hm : (setz F k).m = (F k).m := rfl
    rw [hm]
    by_cases c : (F k).m = false
    · rw [if_pos c, if_pos c, ih]
    · rw [if_neg c, if_neg c]
      by_cases d : AM.stEq (F k) (AM.lastTo F k) = true
      · rw [if_pos d, if_pos d, bump_map, ih]
      · rw [if_neg d, if_neg d, List.map_append, ih]
        show _ ++ [(⟨(k : Int), 1, (F k).p, false⟩ : AM.Ar)] = _ ++ [⟨(k : Int), 1, (F k).p, (F k).z⟩]
        rw [hz k]
theorem asg_eq (o : Ob) (hc : M.chkN o.i = 0) (h1 : 1 ≤ o.base) (he : endO o ≤ 256) (F : Nat → AM.St) (B : Int) (hi : Inv F B) (hB : B ≤ o.base) :
    ∀ k, k ≤ o.i.segs.length → asg o (AM.gatherN (setz F)) k = AM.gatherN (setz (bsg o F k)) ∧ ∃ B', Inv (bsg o F k) B' ∧ B' ≤ endO o ∧ (k < o.i.segs.length → B' ≤ o.base + (M.sgAt o.i.segs k).page)
  | 0, hk => by
    refine ⟨rfl, B, hi, ?_, fun h0 => ?_⟩
    · have := last_bounds hc
      unfold endO
      omega
    · have := seg_bounds hc 0 h0
      omega
  | k + 1, hk => by
    obtain ⟨ih, B', hi', hBe, hBs⟩ := asg_eq o hc h1 he F B hi hB k (by omega)
    have hsb := seg_bounds hc k (by omega)
    have hsl := segs_last hc k (by omega)
    have hBk := hBs (by omega)
    have hpq := protN_bd (M.sgAt o.i.segs k)
    have hend : o.base + (M.sgAt o.i.segs k).page + (M.sgAt o.i.segs k).pages ≤ endO o := by
      unfold endO
      omega
    refine ⟨?_, _, lay_inv hi' (arO o (M.sgAt o.i.segs k)) rfl (by show 1 ≤ o.base + _; omega) hpq _ (by omega), hend, fun hk2 => ?_⟩
    · show mapSeg o (asg o _ k) _ = _
      rw [ih]
      exact map_step hi' (by omega) _ _ _ (by omega) (by omega) (by omega) hpq hBk
    · have := segs_rise hc (k + 1) k (by omega) hk2
      omega
theorem aob_eq {all : List Li} {ix : List Nat} (hc : ∀ j, j < all.length → M.chkN (liAt all j).i = 0) (hx : OkIx all ix) (he : endFrom all 1 ix ≤ 256) :
    ∀ n, n ≤ ix.length → aob (obsFrom all 1 ix) n = AM.gatherN (setz (bob (obsFrom all 1 ix) n)) ∧ Inv (bob (obsFrom all 1 ix) n) (endFrom all 1 (ix.take n))
  | 0, _ => by
    have h0 : Inv (bob (obsFrom all 1 ix) 0) (endFrom all 1 (ix.take 0)) := ⟨fun _ => rfl, ⟨rfl, fun _ _ => rfl, fun _ => (by decide : 0 ≤ AM.off.p ∧ AM.off.p ≤ 3)⟩, fun _ _ => rfl⟩
    refine ⟨?_, h0⟩
    have hl := AM.check_gather _ (setz_fine h0.fine)
    have : ∀ k, AM.gatherTo (setz (bob (obsFrom all 1 ix) 0)) k = [] := fun k => by
      induction k with
      | zero => rfl
      | succ k ih => simp only [AM.gatherTo]; rw [if_pos (show (setz (bob (obsFrom all 1 ix) 0) k).m = false from rfl), ih]
    exact (this 256).symm
  | n + 1, hn => by
    obtain ⟨ih, hi⟩ := aob_eq hc hx he n (by omega)
    have h2 := obsFrom_at all ix 1 n (by omega)
    have hb := endFrom_bounds all hc (ix.take n) 1 (fun j hj => hx.lt j (List.mem_of_mem_take hj))
    have ht := LW.endFrom_take all hc ix 1 (n + 1) hx.lt
    have hsn : endFrom all 1 (ix.take (n + 1)) = endO (obAt (obsFrom all 1 ix) n) := by
      rw [LW.take_snoc ix n (by omega), endFrom_snoc]
      unfold endO
      rw [h2.1, h2.2.2]
    rw [hsn] at ht
    have hck : M.chkN (obAt (obsFrom all 1 ix) n).i = 0 := by
      rw [h2.1]
      exact hc _ (hx.lt _ (getD_mem ix n (by omega)))
    obtain ⟨h3, B', h4, h5, _⟩ := asg_eq (obAt (obsFrom all 1 ix) n) hck (by rw [h2.2.2]; omega) (by omega) _ _ hi (by rw [h2.2.2]; exact Int.le_refl _) (obAt (obsFrom all 1 ix) n).i.segs.length (Nat.le_refl _)
    refine ⟨?_, ?_⟩
    · show asg _ (aob _ n) _ = _
      rw [ih, h3]
      rfl
    · rw [hsn]
      exact ⟨h4.z, h4.fine, fun q hq => h4.past q (by omega)⟩
/-- the areas are those of the board -/
theorem areas_eq {all : List Li} {ix : List Nat} (hc : ∀ j, j < all.length → M.chkN (liAt all j).i = 0) (hx : OkIx all ix) (he : endFrom all 1 ix ≤ 256) :
    areasN (obsFrom all 1 ix) = AM.gatherN (bob (obsFrom all 1 ix) (obsFrom all 1 ix).length) ∧ AM.Fine (bob (obsFrom all 1 ix) (obsFrom all 1 ix).length) := by
  obtain ⟨h1, h2⟩ := aob_eq hc hx he ix.length (Nat.le_refl _)
  rw [obsFrom_length]
  refine ⟨?_, h2.fine⟩
  unfold areasN
  rw [obsFrom_length, h1]
  exact gather_clr h2.z 256
end Go.Proofs.Yteieplodndfbhaa.LM
/- The linker: the patches of an object. -/
namespace Go.Proofs.Yteieplodndfbhaa.LW
open Go.RowKit
open Go.Proofs.Yteieplodndfbhaa.W (hideC)
set_option linter.unusedVariables false
set_option maxRecDepth 100000

theorem infoPt : (Try.prog.info? 134).map (fun i => (i.zero, i.size, i.bytes)) = some (some (.agg #[.int .i64 0, .string ⟨#[]⟩]), 2, 24) := by kernel_rfl
theorem row_mono {w : World} {base base' : Nat} {e : TypeId} {size : Nat} {v : Value} {n : Nat} {xs : List Value} (h : w.ownsRow base e size v n xs) (hl : base' ≤ base) : w.ownsRow base' e size v n xs := by
  refine ⟨h.1, ?_⟩
  rcases h.2 with h2 | ⟨g, cap, cur, hv, hbg, rest⟩
  · exact .inl h2
  · exact .inr ⟨g, cap, cur, hv, Nat.le_trans hl hbg, rest⟩
/-- how patchesOf ends -/
def OutPt (R : Option (List LM.Pt)) (w : World) (e : Ending) (w' : World) : Prop := Below w.heap.size w w' ∧ match R with
  | none => e = .returned (.tuple #[.slice none 0 0, .bool false])
  | some ps => ∃ v, e = .returned (.tuple #[v, .bool true]) ∧ w'.ownsRow w.heap.size 134 2 v ps.length (ps.flatMap LM.cellP)
set_option maxHeartbeats 4000000 in
theorem patchesOf_any (l : List LM.Ob) (ao : Option Addr) (cap : Nat) (o : LM.Ob) (w : World) (h : Oi l ao w) (hi : M.HasIm w o.a o.i) (hc : M.chkN o.i = 0) (hfo : M.Fit o.i) (h0 : 1 ≤ o.base) (h1 : o.base ≤ 2000) :
    Calls Try.prog 53 #[.agg (LM.cellsO o), .slice ao l.length cap] w (OutPt (LM.patN l o) w) := by
  have hn := (LM.counts_of hc).2.2.2.2
  have HRB := hideC (LM.rel_bounds hc)
  have HRF := hideC hfo.rel
  have HRL := hideC hi.rels
  have HAD : Hid (∀ at', 0 ≤ at' → at' ≤ 100000 → ∀ V, Calls Try.prog 23 #[.agg (LM.cellsO o), .int .i64 at'] V fun e w' => e = .returned (.int .i64 (LM.addrO o at')) ∧ Below V.heap.size V w') := fun a h2 h3 V => address_any o a V (by omega) (by omega) h2 h3
  have HTG : Hid (∀ s V, Below w.heap.size w V → Calls Try.prog 78 #[.agg (LM.cellsO o), .slice ao l.length cap, .string s] V fun e w' => e = .returned (optV (LM.tgtN l o s)) ∧ Below V.heap.size V w') := fun s V hb => target_any l ao cap o s V (h.below hb) (by omega) (by omega)
  obtain ⟨R, hR⟩ : ∃ R, R = LM.patN l o := ⟨_, rfl⟩
  have HR : Hid (R = LM.patTo l o o.i.rels.length) := hR
  rw [← hR]
  clear hR h hi hc hfo
  obtain ⟨i0, hin, hz0, hz1, hz2⟩ := info_parts infoPt
  obtain ⟨og, hog⟩ : ∃ og, og = o := ⟨_, rfl⟩
  have HOG := hideC hog
  rw [← hog] at HR HRB HRF HRL HTG HAD hn
  simp only [LM.cellsO] at HTG HAD
  rw [hog] at HTG HAD
  clear hog
  have HTG' : Hid (∀ s V, Below w.heap.size w V → Calls Try.prog 78 #[.agg #[.string o.i.name, .slice o.a.an o.i.needs.length o.a.cn, .slice o.a.ag o.i.segs.length o.a.cg, .slice o.a.ay o.i.syms.length o.a.cy, .slice o.a.ar o.i.rels.length o.a.cr, .int .i64 o.i.entry, .int .i64 o.base], .slice ao l.length cap, .string s] V fun e w' => e = .returned (optV (LM.tgtN l og s)) ∧ Below V.heap.size V w') := by
    rw [HOG.out]
    exact HTG
  have HAD' : Hid (∀ at', 0 ≤ at' → at' ≤ 100000 → ∀ V, Calls Try.prog 23 #[.agg #[.string o.i.name, .slice o.a.an o.i.needs.length o.a.cn, .slice o.a.ag o.i.segs.length o.a.cg, .slice o.a.ay o.i.syms.length o.a.cy, .slice o.a.ar o.i.rels.length o.a.cr, .int .i64 o.i.entry, .int .i64 o.base], .int .i64 at'] V fun e w' => e = .returned (.int .i64 (LM.addrO og at')) ∧ Below V.heap.size V w') := by
    rw [HOG.out]
    exact HAD
  have HRL' : Hid (M.HasBy M.LieR w o.a.ar og.i.rels) := by
    have h := HRL.out
    rw [HOG.out] at h ⊢
    exact h
  have hrl : o.i.rels.length = og.i.rels.length := by rw [HOG.out]
  clear HTG HAD HRL
  simp only [LM.cellsO]
  obtain ⟨⟨nm, ns, gs, ys, rs, en⟩, ⟨an, cn, ag, cg, ay, cy, ar, cr⟩, ba⟩ := o
  simp only at HTG' HAD' HRL' hrl h0 h1
  simp only
  rw [hrl] at HTG' HAD'
  rw [hrl]
  clear hrl HOG
  obtain ⟨L, hL⟩ : ∃ L, L = og.i.rels := ⟨_, rfl⟩
  rw [← hL] at HTG' HAD' HRL' hn HR HRB HRF
  rw [← hL]
  have HL := hideC hL
  clear hL
  have HB := hideC ((Below.refl w.heap.size w).alloc (Nat.le_refl _) (.cells #[.string nm, .slice an ns.length cn, .slice ag gs.length cg, .slice ay ys.length cy, .slice ar L.length cr, .int .i64 en, .int .i64 ba] 59))
  have BX := hideC (B.new w #[.string nm, .slice an ns.length cn, .slice ag gs.length cg, .slice ay ys.length cy, .slice ar L.length cr, .int .i64 en, .int .i64 ba] 59)
  go_enter Try.func53, Try.ntmps53
  go_wp2
  go_loopw [17, 6] (fun i v wr => ∃ (k : Nat) (ps : List LM.Pt), k ≤ L.length ∧ i = .int .i64 k ∧ LM.patTo l og k = some ps ∧ wr.ownsRow (w.heap.size + 1) 134 2 v ps.length (ps.flatMap LM.cellP) ∧ Below w.heap.size w wr ∧ wr.heap[w.heap.size]? = some (.cells #[.string nm, .slice an ns.length cn, .slice ag gs.length cg, .slice ay ys.length cy, .slice ar L.length cr, .int .i64 en, .int .i64 ba] 59 (0, 0))) (fun i _ _ => L.length - (intOf i).toNat)
  case atStart => exact ⟨0, [], by omega, rfl, rfl, World.ownsRow_nil _ _ _ _, HB.out, BX.out⟩
  case round =>
    obtain ⟨k, ps, hk, rfl, hpt, hown, hb, hbx⟩ := hrel
    have HPT := hideC hpt
    have HOW := hideC hown
    have HBr := hideC hb
    have BXr := hideC hbx
    have hb0 := B.isLt hbx
    have hpl : ps.length ≤ 16 := by have := LM.patTo_len hpt; omega
    have x0 := B.cell hbx 0 rfl
    have x1 := B.cell hbx 1 rfl
    have x2 := B.cell hbx 2 rfl
    have x3 := B.cell hbx 3 rfl
    have x4 := B.cell hbx 4 rfl
    have x5 := B.cell hbx 5 rfl
    have x6 := B.cell hbx 6 rfl
    by_cases hlt : k < L.length
    · obtain ⟨b, off, har, hbl, hlie⟩ := (M.HasBy.below (lie := M.LieR) (fun hb hlt h => M.lieR hb hlt h) HRL'.out hb) (by omega)
      obtain ⟨c0, c1, c2⟩ := hlie k hlt
      have hrb := HRB.out k hlt
      have HS1 : Hid (∀ t, LM.tgtN l og (M.rlAt L k).name = some t → LM.patTo l og (k + 1) = some (ps ++ [LM.ptOf og (M.rlAt L k) t])) := fun t g => by
        rw [HL.out] at g ⊢
        simp only [LM.patTo, HPT.out, g]
      have HS0 : Hid (LM.tgtN l og (M.rlAt L k).name = none → R = none) := fun g => by
        rw [HR.out]
        refine LM.patTo_none (k := k + 1) ?_ L.length (by omega)
        rw [HL.out] at g
        simp only [LM.patTo, HPT.out, g]
      obtain ⟨r, hr⟩ : ∃ r, r = M.rlAt L k := ⟨_, rfl⟩
      rw [← hr] at c0 c1 c2 hrb HS1 HS0
      clear hr hlie hpt hown hbx
      obtain ⟨rp, rn, ra⟩ := r
      simp only at c0 c1 c2 hrb HS1 HS0
      have HBA := hideC (HBr.out.alloc HBr.out.size (.cells #[.int .i64 rp, .string rn, .int .i64 ra] 75))
      have HRA := hideC ((Below.refl wr.heap.size wr).alloc (Nat.le_refl _) (.cells #[.int .i64 rp, .string rn, .int .i64 ra] 75))
      have BRA := hideC (B.new wr #[.int .i64 rp, .string rn, .int .i64 ra] 75)
      have HT2 := hideC (HTG'.out rn)
      cases e : LM.tgtN l og rn with
      | none =>
        have HRN := hideC (HS0.out e)
        rw [e] at HT2
        simp only [optV, Option.getD_none, Option.isSome_none] at HT2
        clear e HS0 HS1 hb
        subst har
        go_wp2_with (go_at_call 78; refine (HT2.out _ HBA.out).mono ?_; rintro e w1 ⟨rfl, hb⟩; have HB1 := hideC (HBA.out.trans (hb.mono HBA.out.size)); clear hb)
        go_ret2
        show OutPt R w _ _
        rw [HRN.out]
        exact ⟨HB1.out, rfl⟩
      | some t =>
        have HPS := hideC (HS1.out t e)
        rw [e] at HT2
        simp only [optV, Option.getD_some, Option.isSome_some] at HT2
        have HA2 := hideC (HAD'.out rp hrb.1 (by omega))
        have HPP : Hid (LM.ptOf og ⟨rp, rn, ra⟩ t = ⟨LM.addrO og rp, ⟨(Lib.leBytes 8 (CM.low (t + ra))).toArray⟩⟩) := rfl
        obtain ⟨a8, ha8⟩ : ∃ a8, a8 = LM.addrO og rp := ⟨_, rfl⟩
        obtain ⟨sb, hsb⟩ : ∃ sb : ByteArray, sb = ⟨(Lib.leBytes 8 (CM.low (t + ra))).toArray⟩ := ⟨_, rfl⟩
        have HPU : Hid (∀ n, CM.low n = CM.low (t + ra) → ∀ V, Calls Try.prog 79 #[.int .i64 n, .int .i64 8] V fun e w' => e = .returned (.tuple #[.string sb, .int .i64 0]) ∧ Below V.heap.size V w') := fun n hn V => by
          have h := CW.put_yes n 8 V (by decide) (by decide)
          rw [hn, ← hsb] at h
          exact h
        rw [← ha8] at HA2 HPP
        rw [← hsb] at HPP
        rw [HPP.out] at HPS
        clear e HS0 HS1 HPP ha8 hsb hb
        subst har
        go_wp2_with (first
          | (go_at_call 78; refine (HT2.out _ HBA.out).mono ?_; rintro e w1 ⟨rfl, hb⟩; have HB1 := hideC (HBA.out.trans (hb.mono HBA.out.size)); have HW1 := hideC (HRA.out.trans (hb.mono HRA.out.size)); have BR1 := hideC (B.below BRA.out hb (B.isLt BRA.out)); have z0 := B.cell BR1.out 0 rfl; have z2 := B.cell BR1.out 2 rfl; clear hb)
          | (go_at_call 79; refine (HPU.out _ (by first | rfl | exact LM.low_wrap _) _).mono ?_; rintro e w2 ⟨rfl, hb⟩; have HB2 := hideC (HB1.out.trans (hb.mono HB1.out.size)); have HW2 := hideC (HW1.out.trans (hb.mono HW1.out.size)); have BR2 := hideC (B.below BR1.out hb (B.isLt BR1.out)); have v0 := B.cell BR2.out 0 rfl; have BX2 := hideC (B.below BXr.out HW2.out hb0); have q0 := B.cell BX2.out 0 rfl; have q1 := B.cell BX2.out 1 rfl; have q2 := B.cell BX2.out 2 rfl; have q3 := B.cell BX2.out 3 rfl; have q4 := B.cell BX2.out 4 rfl; have q5 := B.cell BX2.out 5 rfl; have q6 := B.cell BX2.out 6 rfl; clear hb)
          | (go_at_call 23; refine (HA2.out _).mono ?_; rintro e w3 ⟨rfl, hb⟩; have HB3 := hideC (HB2.out.trans (hb.mono HB2.out.size)); have HW3 := hideC (HW2.out.trans (hb.mono HW2.out.size)); have BX3 := hideC (B.below BXr.out HW3.out hb0); have HOW3 := hideC ((row_grown HOW.out HW3.out).alloc (.cells #[.int .i64 a8, .string sb] 134)); have hrow3 := HOW3.out.lt; have HN3 := hideC (B.new w3 #[.int .i64 a8, .string sb] 134); clear hb)
          | (at_builtin; refine wpList_append_lies _ rfl _ _ 106 rfl (w.heap.size + 1) 134 i0 (.agg #[.int .i64 0, .string ⟨#[]⟩]) 2 24 Try.underlying106 hin hz0 hz1 hz2 rfl (by decide) _ _ _ rfl HOW3.out ⟨w3.heap.size, 0, none⟩ 1 1 [.int .i64 a8, .string sb] rfl rfl (B.news HN3.out) (by intro u hu; simp at hu; rcases hu with rfl | rfl <;> rfl) (by decide) (by unfold maxLen; omega) (by omega) (by have := B.isLt BX3.out; simp; omega) (w3.heap.size + 1) (by simp) ?_; intro gg capg w4 hown4 hgrow hatt hlt4; have HOW4 := hideC hown4; have HB4 := hideC ((HB3.out.alloc HB3.out.size (.cells #[.int .i64 a8, .string sb] 134)).grown hgrow (by have := HB3.out.size; simp; omega) (fun q hq => by have := hrow3 _ hq; omega)); have BX4 := hideC (B.grown (B.alloc BX3.out (.cells #[.int .i64 a8, .string sb] 134)) hgrow (fun e => by have := hrow3 _ e.symm; omega)); clear hown4 hgrow hatt))
        go_roundw
        case rel => exact ⟨k + 1, ps ++ [⟨a8, sb⟩], by omega, by go_num, HPS.out, by rw [List.length_append, List.flatMap_append]; exact HOW4.out, HB4.out, BX4.out⟩
        case measure => simp [intOf]; omega
    · obtain rfl : k = L.length := by omega
      have HE : Hid (R = some ps) := by rw [HR.out]; exact HPT.out
      clear hpt hown hb hbx
      go_wp2
      go_ret2
      show OutPt R w _ _
      rw [HE.out]
      exact ⟨HBr.out, _, rfl, row_mono HOW.out (by omega)⟩
end Go.Proofs.Yteieplodndfbhaa.LW
/- The linker: the sheets of all objects. -/
namespace Go.Proofs.Yteieplodndfbhaa.LW
open Go.RowKit
open Go.Proofs.Yteieplodndfbhaa.W (hideC)
set_option linter.unusedVariables false
set_option maxRecDepth 100000

theorem infoSh : (Try.prog.info? 43).map (fun i => (i.zero, i.size, i.bytes)) = some (some (.agg #[.int .i64 0, .string ⟨#[]⟩, .slice none 0 0]), 3, 48) := by kernel_rfl
/-- the sheets so far, in a row of the call's own -/
structure Rs (lo : Nat) (w : World) (v : Value) (hs : List LM.Sh) : Prop where
  row : w.ownsRow lo 43 3 v hs.length (hs.flatMap LM.cellH)
  fix : LM.AllF v.ownBlock w hs
theorem Rs.below {lo : Nat} {w w' : World} {v : Value} {hs : List LM.Sh} (h : Rs lo w v hs) (hb : Below w.heap.size w w') : Rs lo w' v hs := ⟨row_grown h.row hb, fun k hk => (h.fix k hk).below hb⟩
theorem Rs.nil (lo : Nat) (w : World) : Rs lo w (.slice none 0 0) [] := ⟨World.ownsRow_nil _ _ _ _, fun k hk => by simp at hk⟩
theorem Rs.has {lo : Nat} {w : World} {v : Value} {hs : List LM.Sh} (h : Rs lo w v hs) : ∃ ao cap, v = .slice ao hs.length cap ∧ LM.HasH w ao hs ∧ hs.length ≤ cap := by
  have hr := h.row
  rcases hr.2 with ⟨hv, h0⟩ | ⟨g, cap, cur, hv, hbg, hg, hnc, hcm, hcs, htake⟩
  · exact ⟨none, 0, by rw [hv, h0], fun hl => by omega, by omega⟩
  · rw [hv] at hr
    refine ⟨some ⟨g, 0, none⟩, cap, hv, fun _ => ⟨g, 0, rfl, B.isLt hg, fun k hk => ?_⟩, hnc⟩
    rw [Nat.zero_add]
    have hh : ∀ j, j < 3 → w.cell? ⟨g, k * 3 + j, none⟩ = (LM.cellH (LM.shAt hs k))[j]? := fun j hj => (hr.cellAt _ (by omega)).trans (flat_get LM.cellH 3 (fun _ => rfl) LM.sh0 hs k j hk hj)
    exact ⟨hh 0 (by omega), hh 1 (by omega), hh 2 (by omega), (h.fix k hk).has⟩
theorem row_fx {w : World} {base : Nat} {v : Value} {l : List LM.Fx} (h : w.ownsRow base 89 2 v l.length (l.flatMap LM.cellF)) (rb : Option Nat) (hrb : ∀ q, rb = some q → q < base) : ∃ ao cap, v = .slice ao l.length cap ∧ LM.HasFN rb w ao l := by
  rcases h.2 with ⟨hv, h0⟩ | ⟨g, cap, cur, hv, hbg, hg, hnc, hcm, hcs, htake⟩
  · exact ⟨none, 0, by rw [hv, h0], fun hl => by omega⟩
  · subst hv
    refine ⟨some ⟨g, 0, none⟩, cap, rfl, fun hl => ⟨g, 0, rfl, B.isLt hg, fun e => by have := hrb g e.symm; omega, fun k hk => ?_⟩⟩
    rw [Nat.zero_add]
    have hh : ∀ j, j < 2 → w.cell? ⟨g, k * 2 + j, none⟩ = (LM.cellF (LM.fxAt l k))[j]? := fun j hj => (h.cellAt _ (by omega)).trans (flat_get LM.cellF 2 (fun _ => rfl) LM.fx0 l k j hk hj)
    exact ⟨hh 0 (by omega), hh 1 (by omega)⟩
/-- one sheet more -/
theorem Rs.more {lo : Nat} {w w' : World} {v : Value} {hs : List LM.Sh} {x : LM.Sh} {g cap : Nat} (h : LM.AllF v.ownBlock w hs) (hx : LM.HasFN v.ownBlock w x.ao x.fixes) (hown : w'.ownsRow lo 43 3 (.slice (some ⟨g, 0, none⟩) (hs.length + 1) cap) (hs.length + 1) (hs.flatMap LM.cellH ++ LM.cellH x)) (hg : w.grownBy w' v.ownBlock) (hs' : w.heap.size ≤ w'.heap.size) (hat : v.ownBlock = some g ∨ g = w.heap.size) :
    Rs lo w' (.slice (some ⟨g, 0, none⟩) (hs.length + 1) cap) (hs ++ [x]) := by
  refine ⟨by rw [List.length_append, List.flatMap_append]; simpa using hown, fun k hk => ?_⟩
  have e : (Value.slice (some ⟨g, 0, none⟩) (hs.length + 1) cap).ownBlock = some g := rfl
  rw [e]
  rw [List.length_append] at hk
  by_cases hkl : k < hs.length
  · rw [LM.shAt_left hs x k hkl]
    exact (h k hkl).grown hg hs' hat
  · obtain rfl : k = hs.length := by simp at hk; omega
    rw [LM.shAt_last]
    exact hx.grown hg hs' hat
theorem row_pt {w : World} {base : Nat} {v : Value} {l : List LM.Pt} (h : w.ownsRow base 134 2 v l.length (l.flatMap LM.cellP)) : ∃ ao cap, v = .slice ao l.length cap ∧ LM.HasP w ao l := by
  rcases h.2 with ⟨hv, h0⟩ | ⟨g, cap, cur, hv, hbg, hg, hnc, hcm, hcs, htake⟩
  · exact ⟨none, 0, by rw [hv, h0], fun hl => by omega⟩
  · subst hv
    refine ⟨some ⟨g, 0, none⟩, cap, rfl, fun hl => ⟨g, 0, rfl, B.isLt hg, fun k hk => ?_⟩⟩
    rw [Nat.zero_add]
    have hh : ∀ j, j < 2 → w.cell? ⟨g, k * 2 + j, none⟩ = (LM.cellP (LM.ptAt l k))[j]? := fun j hj => (h.cellAt _ (by omega)).trans (flat_get LM.cellP 2 (fun _ => rfl) LM.pt0 l k j hk hj)
    exact ⟨hh 0 (by omega), hh 1 (by omega)⟩
/-- how sheetsOf ends -/
def OutSh (R : Option (List LM.Sp)) (w : World) (e : Ending) (w' : World) : Prop := Below w.heap.size w w' ∧ match R with
  | none => e = .returned (.tuple #[.slice none 0 0, .bool false])
  | some E => ∃ (hs : List LM.Sh) (ao : Option Addr) (cap : Nat), hs.map LM.plain = E ∧ e = .returned (.tuple #[.slice ao hs.length cap, .bool true]) ∧ LM.HasH w' ao hs ∧ hs.length ≤ cap
end Go.Proofs.Yteieplodndfbhaa.LW
/- The linker: the sheets of all objects, the walk. -/
namespace Go.Proofs.Yteieplodndfbhaa.LW
open Go.RowKit
open Go.Proofs.Yteieplodndfbhaa.W (hideC)
set_option linter.unusedVariables false
set_option maxRecDepth 100000

/-- but for the row's block all is as it was; the row lies where it lay, or in new memory -/
structure Fr (w : World) (r : Option Nat) (w' : World) (r' : Option Nat) : Prop where
  size : w.heap.size ≤ w'.heap.size
  block : ∀ b, b < w.heap.size → some b ≠ r → w'.heap[b]? = w.heap[b]?
  row : r' = r ∨ ∃ g, r' = some g ∧ w.heap.size ≤ g
theorem Fr.refl (w : World) (r : Option Nat) : Fr w r w r := ⟨Nat.le_refl _, fun _ _ _ => rfl, .inl rfl⟩
theorem Fr.trans {w w1 w2 : World} {r r1 r2 : Option Nat} (h : Fr w r w1 r1) (g : Fr w1 r1 w2 r2) : Fr w r w2 r2 := by
  have hs := h.size
  refine ⟨Nat.le_trans h.size g.size, fun b hb hr => ?_, ?_⟩
  · rw [g.block b (by omega) (fun e => ?_), h.block b hb hr]
    rcases h.row with e1 | ⟨x, e1, e2⟩
    · exact hr (by rw [e, e1])
    · rw [e1] at e
      injection e with e
      omega
  · rcases g.row with e | ⟨x, e1, e2⟩
    · rw [e]
      exact h.row
    · exact .inr ⟨x, e1, by omega⟩
theorem Fr.ofBelow {w w' : World} (h : Below w.heap.size w w') (r : Option Nat) : Fr w r w' r := ⟨h.size, fun b hb _ => h.block b hb, .inl rfl⟩
theorem Fr.ofGrown {w w' : World} {r : Option Nat} {g : Nat} (h : w.grownBy w' r) (hs : w.heap.size ≤ w'.heap.size) (hat : r = some g ∨ g = w.heap.size) : Fr w r w' (some g) :=
  ⟨hs, fun b hb hr => h.block b hb hr, by
    rcases hat with e | e
    · exact .inl e.symm
    · exact .inr ⟨g, rfl, by omega⟩⟩
theorem Fr.keep {w w' : World} {r r' : Option Nat} {b : Nat} {o : Obj} (h : Fr w r w' r') (hb : w.heap[b]? = some o) (hr : some b ≠ r) : w'.heap[b]? = some o := (h.block b (B.isLt hb) hr).trans hb
/-- patches that lie in another block than the row's -/
def HasPN (rb : Option Nat) (w : World) (ao : Option Addr) (l : List LM.Pt) : Prop := 0 < l.length → ∃ b off, ao = some ⟨b, off, none⟩ ∧ b < w.heap.size ∧ some b ≠ rb ∧ LM.LieP w b off l
theorem HasPN.has {rb : Option Nat} {w : World} {ao : Option Addr} {l : List LM.Pt} (h : HasPN rb w ao l) : LM.HasP w ao l := fun hl => by
  obtain ⟨b, off, h1, h2, _, h3⟩ := h hl
  exact ⟨b, off, h1, h2, h3⟩
theorem HasPN.fr {rb rb' : Option Nat} {w w' : World} {ao : Option Addr} {l : List LM.Pt} (h : HasPN rb w ao l) (hf : Fr w rb w' rb') : LM.HasP w' ao l := fun hl => by
  obtain ⟨b, off, h1, h2, h3, h4⟩ := h hl
  exact ⟨b, off, h1, Nat.lt_of_lt_of_le h2 hf.size, fun i hi => by
    obtain ⟨c0, c1⟩ := h4 i hi
    exact ⟨(World.cell?_of_block (hf.block b h2 h3)).trans c0, (World.cell?_of_block (hf.block b h2 h3)).trans c1⟩⟩
theorem row_ptN {w : World} {base : Nat} {v : Value} {l : List LM.Pt} (h : w.ownsRow base 134 2 v l.length (l.flatMap LM.cellP)) (rb : Option Nat) (hrb : ∀ q, rb = some q → q < base) : ∃ ao cap, v = .slice ao l.length cap ∧ HasPN rb w ao l := by
  rcases h.2 with ⟨hv, h0⟩ | ⟨g, cap, cur, hv, hbg, hg, hnc, hcm, hcs, htake⟩
  · exact ⟨none, 0, by rw [hv, h0], fun hl => by omega⟩
  · subst hv
    refine ⟨some ⟨g, 0, none⟩, cap, rfl, fun hl => ⟨g, 0, rfl, B.isLt hg, fun e => by have := hrb g e.symm; omega, fun k hk => ?_⟩⟩
    rw [Nat.zero_add]
    have hh : ∀ j, j < 2 → w.cell? ⟨g, k * 2 + j, none⟩ = (LM.cellP (LM.ptAt l k))[j]? := fun j hj => (h.cellAt _ (by omega)).trans (flat_get LM.cellP 2 (fun _ => rfl) LM.pt0 l k j hk hj)
    exact ⟨hh 0 (by omega), hh 1 (by omega)⟩

set_option maxHeartbeats 6000000 in
theorem sheetsOf_any (l : List LM.Ob) (ao : Option Addr) (cap : Nat) (w : World) (h : Oi l ao w) (hl7 : l.length ≤ 7) : Calls Try.prog 21 #[.slice ao l.length cap] w (OutSh (LM.sheetsN l) w) := by
  have HO := hideC h
  clear h
  obtain ⟨R, hR⟩ : ∃ R, R = LM.sheetsN l := ⟨_, rfl⟩
  have HR : Hid (R = LM.obsTo l l.length) := hR
  rw [← hR]
  clear hR
  obtain ⟨i0, hin, hz0, hz1, hz2⟩ := info_parts infoSh
  go_enter Try.func21, Try.ntmps21
  go_wp2
  go_loopw [15, 4] (fun i v wr => ∃ (a : Nat) (E : List LM.Sp) (hs : List LM.Sh), a ≤ l.length ∧ i = .int .i64 a ∧ LM.obsTo l a = some E ∧ hs.map LM.plain = E ∧ hs.length ≤ a * 1600 ∧ Rs w.heap.size wr v hs ∧ Below w.heap.size w wr) (fun i _ _ => l.length - (intOf i).toNat)
  case atStart => exact ⟨0, [], [], by omega, rfl, rfl, rfl, by simp, Rs.nil _ _, Below.refl _ _⟩
  case round =>
    obtain ⟨a, E, hs, hal, rfl, hE, hmE, hlen, hrs, hb⟩ := hrel
    have HE := hideC hE
    have HME := hideC hmE
    have HRS := hideC hrs
    have HBr := hideC hb
    by_cases hlt : a < l.length
    · have HOr := hideC (HO.out.below hb)
      obtain ⟨b, off, hao, hbl, hlie⟩ := HOr.out.has (by omega)
      obtain ⟨⟨c0, c1, c2, c3, c4, c5, c6⟩, him⟩ := hlie a hlt
      have hbs := HO.out.base a hlt
      have hck := HO.out.chk a hlt
      have HPA : Hid (∀ V, Below wr.heap.size wr V → Calls Try.prog 53 #[.agg (LM.cellsO (LM.obAt l a)), .slice ao l.length cap] V (OutPt (LM.patN l (LM.obAt l a)) V)) := fun V hb => patchesOf_any l ao cap (LM.obAt l a) V (HOr.out.below hb) (him.below hb) hck (HO.out.fit a hlt) hbs.1 hbs.2
      have HS0 : Hid (LM.patN l (LM.obAt l a) = none → R = none) := fun g => by
        rw [HR.out]
        refine LM.obsTo_none (k := a + 1) ?_ l.length (by omega)
        simp only [LM.obsTo, HE.out, g]
      have HS1 : Hid (∀ ps, LM.patN l (LM.obAt l a) = some ps → LM.obsTo l (a + 1) = some (E ++ LM.sgsTo (LM.obAt l a) ps (LM.obAt l a).i.segs.length)) := fun ps g => by simp only [LM.obsTo, HE.out, g]
      have HFP : Hid (∀ ps, LM.patN l (LM.obAt l a) = some ps → ps.length ≤ 16 ∧ ∀ j, j < ps.length → LM.FitP (LM.ptAt ps j)) := fun ps g => by
        have h1 := LM.patTo_len g
        have h2 := (LM.counts_of hck).2.2.2.2
        exact ⟨by omega, LM.pat_fit hck hbs.1 hbs.2 _ ps (Nat.le_refl _) g⟩
      obtain ⟨b2, off2, hao2, hbl2, hlie2⟩ := HO.out.has (by omega)
      have him2 := (hlie2 a hlt).2
      obtain ⟨o, ho⟩ : ∃ o, o = LM.obAt l a := ⟨_, rfl⟩
      rw [← ho] at him2
      rw [← ho] at c0 c1 c2 c3 c4 c5 c6 him hbs hck HPA HS0 HS1 HFP
      have hcn := LM.counts_of hck
      have HSB := hideC (LM.seg_bounds hck)
      have HIM := hideC him
      simp only [LM.cellsO] at HPA
      obtain ⟨bs, offs, hag, hbls, hlg⟩ := him2.segs (by omega)
      have HLG := hideC hlg
      rw [hag] at HPA c2
      clear ho hlie hb hE hmE hrs him hlg hag him2 hlie2 hao2 hbl2 HIM
      subst hao
      have HBA := hideC (HBr.out.alloc HBr.out.size (.cells #[.string o.i.name, .slice o.a.an o.i.needs.length o.a.cn, .slice (some ⟨bs, offs, none⟩) o.i.segs.length o.a.cg, .slice o.a.ay o.i.syms.length o.a.cy, .slice o.a.ar o.i.rels.length o.a.cr, .int .i64 o.i.entry, .int .i64 o.base] 59))
      have HRA := hideC ((Below.refl wr.heap.size wr).alloc (Nat.le_refl _) (.cells #[.string o.i.name, .slice o.a.an o.i.needs.length o.a.cn, .slice (some ⟨bs, offs, none⟩) o.i.segs.length o.a.cg, .slice o.a.ay o.i.syms.length o.a.cy, .slice o.a.ar o.i.rels.length o.a.cr, .int .i64 o.i.entry, .int .i64 o.base] 59))
      have BO := hideC (B.new wr #[.string o.i.name, .slice o.a.an o.i.needs.length o.a.cn, .slice (some ⟨bs, offs, none⟩) o.i.segs.length o.a.cg, .slice o.a.ay o.i.syms.length o.a.cy, .slice o.a.ar o.i.rels.length o.a.cr, .int .i64 o.i.entry, .int .i64 o.base] 59)
      have HP2 := hideC (HPA.out _ HRA.out)
      cases e : LM.patN l o with
      | none =>
        have HRN := hideC (HS0.out e)
        rw [e] at HP2
        clear e HS0 HS1 HFP
        go_wp2_with (go_at_call 53; refine HP2.out.mono ?_; rintro e w1 ⟨hb, rfl⟩; have HB1 := hideC (HBA.out.trans (hb.mono HBA.out.size)); clear hb)
        go_ret2
        show OutSh R w _ _
        rw [HRN.out]
        exact ⟨HB1.out, rfl⟩
      | some ps =>
        have HNXT := hideC (HS1.out ps e)
        obtain ⟨hps, hfp⟩ := HFP.out ps e
        have HFPS := hideC hfp
        rw [e] at HP2
        clear e HS0 HS1 HFP hfp
        have hrb : ∀ q, u4.ownBlock = some q → q < wr.heap.size := fun q hq => (HRS.out.row.lt q hq).2
        have HRBK := hideC hrb
        clear hrb
        go_wp2_with (go_at_call 53; refine HP2.out.mono ?_; rintro e w1 ⟨hb, v7, rfl, hpr⟩; have HB1 := hideC (HBA.out.trans (hb.mono HBA.out.size)); have HW1 := hideC (HRA.out.trans (hb.mono HRA.out.size)); have HPR := hideC hpr; have BO1 := hideC (B.below BO.out hb (B.isLt BO.out)); have g2 := B.cell BO1.out 2 rfl; clear hb hpr)
        obtain ⟨ap, cp, hv7, hpn⟩ := row_ptN HPR.out u4.ownBlock (fun q hq => by have := HRBK.out q hq; simp; omega)
        subst hv7
        have HPN := hideC hpn
        have HRS1 := hideC (HRS.out.below HW1.out)
        have hobl := HBr.out.size
        obtain ⟨rb, hrb⟩ : ∃ rb, rb = u4.ownBlock := ⟨_, rfl⟩
        have HRB := hideC hrb
        rw [← hrb] at HPN HRBK
        clear hpn HPR HP2 HPA HRA HBA HRS HW1 g2 BO c0 c1 c2 c3 c4 c5 c6 hrb HOr hbl
        obtain ⟨ob, hob⟩ : ∃ ob, ob = wr.heap.size := ⟨_, rfl⟩
        rw [← hob] at BO1 HRBK hobl
        rw [← hob]
        have HNE : Hid (some ob ≠ rb) := fun e => by have := HRBK.out ob e.symm; omega
        clear hob HBr HRBK
        go_loopw [31, 4] (fun i v wm => ∃ (k : Nat) (hs' : List LM.Sh), k ≤ o.i.segs.length ∧ i = .int .i64 k ∧ hs'.map LM.plain = E ++ LM.sgsTo o ps k ∧ hs'.length ≤ a * 1600 + k * 255 ∧ Rs w.heap.size wm v hs' ∧ Below w.heap.size w wm ∧ Fr w1 rb wm v.ownBlock) (fun i _ _ => o.i.segs.length - (intOf i).toNat)
        case atStart => exact ⟨0, hs, by omega, rfl, by rw [HME.out]; simp [LM.sgsTo], by omega, HRS1.out, HB1.out, by rw [HRB.out]; exact Fr.refl _ _⟩
        case round =>
          obtain ⟨k, hs', hk, rfl, hmE, hlen', hrs, hb, hfr⟩ := hrel
          have HM2 := hideC hmE
          have HR2 := hideC hrs
          have HBm := hideC hb
          have HFm := hideC hfr
          clear HRS1 HRB hlen HME
          by_cases hlk : k < o.i.segs.length
          · obtain ⟨c0, c1, c2, c3, c4⟩ := M.lieG hb hbls HLG.out k hlk
            have hsb := HSB.out k hlk
            have hbls' : bs < wr.heap.size := Nat.lt_of_lt_of_le hbls hb.size
            have HNX : Hid (LM.sgsTo o ps (k + 1) = LM.sgsTo o ps k ++ LM.pgsTo o ps (M.sgAt o.i.segs k) (M.sgAt o.i.segs k).pages.toNat) := rfl
            obtain ⟨s, hse⟩ : ∃ s, s = M.sgAt o.i.segs k := ⟨_, rfl⟩
            rw [← hse] at c0 c1 c2 c3 c4 hsb HNX
            clear hse
            obtain ⟨P, hP⟩ : ∃ P : Nat, s.pages = (P : Int) := ⟨s.pages.toNat, by omega⟩
            obtain ⟨pg, pn, dt, wb, ex⟩ := s
            simp only at c0 c1 c2 c3 c4 hsb HNX hP
            subst hP
            rw [Int.toNat_natCast] at HNX
            have hvb : ∀ q, u4.ownBlock = some q → q < wr.heap.size := fun q hq => (HR2.out.row.lt q hq).2
            have HVB := hideC hvb
            have HBA := hideC (HBm.out.alloc HBm.out.size (.cells #[.int .i64 pg, .int .i64 P, .string dt, .bool wb, .bool ex] 79))
            have HRA := hideC ((Below.refl wr.heap.size wr).alloc (Nat.le_refl _) (.cells #[.int .i64 pg, .int .i64 P, .string dt, .bool wb, .bool ex] 79))
            have BS := hideC (B.new wr #[.int .i64 pg, .int .i64 P, .string dt, .bool wb, .bool ex] 79)
            have HFA := hideC (HFm.out.trans (Fr.ofBelow HRA.out u4.ownBlock))
            have HRsA := hideC (HR2.out.below HRA.out)
            clear hvb hmE hrs hb hfr
            go_wp2
            obtain ⟨vb, hvb⟩ : ∃ vb, vb = u4.ownBlock := ⟨_, rfl⟩
            have HVE := hideC hvb
            rw [← hvb] at HVB
            obtain ⟨WA, hWA⟩ : ∃ WA, WA = wr.alloc (.cells #[.int .i64 pg, .int .i64 P, .string dt, .bool wb, .bool ex] 79) := ⟨_, rfl⟩
            rw [← hWA] at HBA HRA BS HFA HRsA
            rw [← hWA]
            obtain ⟨sb, hsbe⟩ : ∃ sb, sb = wr.heap.size := ⟨_, rfl⟩
            rw [← hsbe] at BS HVB
            rw [← hsbe]
            have HNS : Hid (some sb ≠ vb) := fun e => by have := HVB.out sb e.symm; omega
            clear hvb hWA hsbe HRA HVB HR2 HBm HFm c0 c1 c2 c3 c4 hbls'
            have hpb : ∀ n : Nat, n < P → 0 ≤ o.base + pg + (n : Int) ∧ o.base + pg + (n : Int) ≤ 3000 := fun n hn => by omega
            have HPB := hideC hpb
            have HPG : Hid (∀ n : Nat, n < P → ∀ V, Calls Try.prog 54 #[.agg #[.int .i64 pg, .int .i64 (P : Int), .string dt, .bool wb, .bool ex], .int .i64 n] V fun e w' => e = .returned (.string (LM.pageN ⟨pg, P, dt, wb, ex⟩ n)) ∧ Below V.heap.size V w') := fun n hn V => pageOf_any ⟨pg, P, dt, wb, ex⟩ n V (by omega) (by show dt.size ≤ 100000; omega)
            clear hpb
            go_loopw [37, 4] (fun i v wi => ∃ (n : Nat) (hs2 : List LM.Sh), n ≤ P ∧ i = .int .i64 n ∧ hs2.map LM.plain = (E ++ LM.sgsTo o ps k) ++ LM.pgsTo o ps ⟨pg, P, dt, wb, ex⟩ n ∧ hs2.length ≤ a * 1600 + k * 255 + n ∧ Rs w.heap.size wi v hs2 ∧ Below w.heap.size w wi ∧ Fr w1 rb wi v.ownBlock ∧ Fr WA vb wi v.ownBlock) (fun i _ _ => P - (intOf i).toNat)
            case atStart => exact ⟨0, hs', by omega, rfl, by rw [HM2.out]; simp [LM.pgsTo], by omega, HRsA.out, HBA.out, HFA.out, by rw [HVE.out]; exact Fr.refl _ _⟩
            case round =>
              obtain ⟨n, hs2, hn, rfl, hm3, hlen2, hrs, hb, hfr, hfs⟩ := hrel
              have HM3 := hideC hm3
              have HR3 := hideC hrs
              have HBi := hideC hb
              have HFi := hideC hfr
              have HFs := hideC hfs
              have hbsz := hb.size
              clear HRsA HBA HFA HVE HM2 hlen' hm3 hrs hb
              by_cases hnP : n < P
              · have BOi := hideC (hfr.keep BO1.out HNE.out)
                have BSi := hideC (hfs.keep BS.out HNS.out)
                have y6 := B.cell BOi.out 6 rfl
                have z0 := B.cell BSi.out 0 rfl
                have z1 := B.cell BSi.out 1 rfl
                have z2 := B.cell BSi.out 2 rfl
                have z3 := B.cell BSi.out 3 rfl
                have z4 := B.cell BSi.out 4 rfl
                have HPi := hideC (HPN.out.fr hfr)
                have hpb := HPB.out n hnP
                have HNP := hideC (LM.pgsTo_succ o ps ⟨pg, P, dt, wb, ex⟩ n)
                have HG2 := hideC (HPG.out n hnP)
                have HFX : Hid (∀ V, Below wr.heap.size wr V → Calls Try.prog 55 #[.int .i64 (o.base + pg + (n : Int)), .slice ap ps.length cp] V fun e w' => (∃ v, e = .returned v ∧ w'.ownsRow V.heap.size 89 2 v (LM.fixesN (o.base + pg + (n : Int)) ps).length ((LM.fixesN (o.base + pg + (n : Int)) ps).flatMap LM.cellF)) ∧ Below V.heap.size V w') := fun V hb => fixesOf_any _ ps ap cp V hpb.1 hpb.2 (HPi.out.below hb) (by omega) HFPS.out
                have HSP : Hid (LM.pgN o ps ⟨pg, P, dt, wb, ex⟩ n = ⟨o.base + pg + (n : Int), LM.pageN ⟨pg, P, dt, wb, ex⟩ n, LM.fixesN (o.base + pg + (n : Int)) ps⟩) := rfl
                obtain ⟨F, hF⟩ : ∃ F, F = LM.fixesN (o.base + pg + (n : Int)) ps := ⟨_, rfl⟩
                obtain ⟨D, hD⟩ : ∃ D, D = LM.pageN ⟨pg, P, dt, wb, ex⟩ n := ⟨_, rfl⟩
                rw [← hF] at HFX HSP
                rw [← hD] at HG2 HSP
                have hl3 : hs2.length ≤ 100000 := by omega
                have hrow := HR3.out.row.lt
                have HROW := hideC hrow
                clear hF hD hfr hfs hrow
                obtain ⟨i0, hin, hz0, hz1, hz2⟩ := info_parts infoSh
                go_wp2_with (first
                  | (go_at_call 54; refine (HG2.out _).mono ?_; rintro e w2 ⟨rfl, hb⟩; have HW2 := hideC hb; clear hb)
                  | (go_at_call 55; refine (HFX.out _ HW2.out).mono ?_; rintro e w3 ⟨⟨v8, rfl, hrw⟩, hb⟩; obtain ⟨af, cf, hvf, hfn⟩ := row_fx hrw u4.ownBlock (fun q hq => by have := (HROW.out q hq).2; have := HW2.out.size; omega); subst hvf; have HFN := hideC hfn; have HW3 := hideC (HW2.out.trans (hb.mono HW2.out.size)); have HA3 := hideC (HW3.out.alloc HW3.out.size (.cells #[.int .i64 (o.base + pg + (n : Int)), .string D, .slice af F.length cf] 43)); have HR4 := hideC (HR3.out.below HA3.out); have HFN4 := hideC (HFN.out.below ((Below.refl w3.heap.size w3).alloc (Nat.le_refl _) (.cells #[.int .i64 (o.base + pg + (n : Int)), .string D, .slice af F.length cf] 43))); have HN3 := hideC (B.new w3 #[.int .i64 (o.base + pg + (n : Int)), .string D, .slice af F.length cf] 43); have hsz3 : w.heap.size ≤ w3.heap.size := Nat.le_trans hbsz HW3.out.size; clear hb hrw hfn)
                  | (at_builtin; refine wpList_append_lies _ rfl _ _ 30 rfl w.heap.size 43 i0 (.agg #[.int .i64 0, .string ⟨#[]⟩, .slice none 0 0]) 3 48 Try.underlying30 hin hz0 hz1 hz2 rfl (by decide) _ _ _ rfl HR4.out.row ⟨w3.heap.size, 0, none⟩ 1 1 [.int .i64 (o.base + pg + (n : Int)), .string D, .slice af F.length cf] rfl rfl (B.news HN3.out) (by intro u hu; simp at hu; rcases hu with rfl | rfl | rfl <;> rfl) (by decide) (by unfold maxLen; omega) (by omega) (by simp; omega) (w3.heap.size + 1) (by simp) ?_; intro gg capg w4 hown4 hgrow hatt hlt4; have HOW4 := hideC hown4; have HGR := hideC hgrow; have HAT := hideC hatt; clear hown4 hgrow hatt))
                have hat4 : u4.ownBlock = some gg ∨ gg = (w3.alloc (.cells #[.int .i64 (o.base + pg + (n : Int)), .string D, .slice af F.length cf] 43)).heap.size := by rw [World.size_alloc]; exact HAT.out
                have HF4 := hideC ((Fr.ofBelow HA3.out u4.ownBlock).trans (Fr.ofGrown HGR.out HGR.out.size hat4))
                go_roundw
                case rel => exact ⟨n + 1, hs2 ++ [⟨o.base + pg + (n : Int), D, F, af, cf⟩], by omega, by go_num, by rw [HNP.out, HSP.out, List.map_append, HM3.out, List.append_assoc]; rfl, by rw [List.length_append]; simp; omega, (Rs.more (x := ⟨o.base + pg + (n : Int), D, F, af, cf⟩) HR4.out.fix HFN4.out HOW4.out HGR.out HGR.out.size hat4), ((HBi.out.trans (HA3.out.mono HBi.out.size)).grown HGR.out (by simp; omega) (fun q hq => by have := (HROW.out q hq).1; omega)), HFi.out.trans HF4.out, HFs.out.trans HF4.out⟩
                case measure => simp [intOf]; omega
              · obtain rfl : n = P := by omega
                clear hfr hfs
                go_wp2
                go_roundw
                case rel => exact ⟨k + 1, hs2, by omega, by go_num, by rw [HNX.out, HM3.out, List.append_assoc], by omega, HR3.out, HBi.out, HFi.out⟩
                case measure => simp [intOf]; omega
          · obtain rfl : k = o.i.segs.length := by omega
            clear hmE hrs hb hfr
            go_wp2
            go_roundw
            case rel => exact ⟨a + 1, _, hs', by omega, by go_num, HNXT.out, HM2.out, by omega, HR2.out, HBm.out⟩
            case measure => simp [intOf]; omega
    · obtain rfl : a = l.length := by omega
      have HX : Hid (R = some E) := by rw [HR.out]; exact HE.out
      obtain ⟨ah, ch, hv, hh, hc⟩ := HRS.out.has
      subst hv
      have HHH := hideC hh
      clear hE hmE hrs hb hh
      go_wp2
      go_ret2
      show OutSh R w _ _
      rw [HX.out]
      exact ⟨HBr.out, hs, ah, ch, HME.out, rfl, HHH.out, hc⟩
end Go.Proofs.Yteieplodndfbhaa.LW
