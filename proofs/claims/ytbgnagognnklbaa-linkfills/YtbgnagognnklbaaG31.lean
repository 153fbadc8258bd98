import Derived.Test.YtbgnagognnklbaaG30
import Derived.Test.YtbgnagognnklbaaG29
/- The linker: the patches of an object. -/
namespace Go.Proofs.Ytbgnagognnklbaa.LW
open Go.RowKit
open Go.Proofs.Ytbgnagognnklbaa.W (hideC)
set_option linter.unusedVariables false
set_option maxRecDepth 100000

theorem infoPt : (Try.prog.info? 134).map (fun i => (i.zero, i.size, i.bytes)) = some (some (.agg #[.int .i64 0, .string ⟨#[]⟩]), 2, 24) := by kernel_rfl
theorem row_mono {w : World} {base base' : Nat} {e : TypeId} {size : Nat} {v : Value} {n : Nat} {xs : List Value} (h : w.ownsRow base e size v n xs) (hl : base' ≤ base) : w.ownsRow base' e size v n xs := by
  refine ⟨h.1, ?_⟩
  rcases h.2 with h2 | ⟨g, cap, cur, hv, hbg, rest⟩
  · exact .inl h2
  · exact .inr ⟨g, cap, cur, hv, Nat.le_trans hl hbg, rest⟩
/-- how patchesOf ends -/
def OutPt (R : Option (List LM.Pt)) (w : World) (e : Ending) (w' : World) : Prop := Below w.heap.size w w' ∧ match R with
  | none => e = .returned (.tuple #[.slice none 0 0, .bool false])
  | some ps => ∃ v, e = .returned (.tuple #[v, .bool true]) ∧ w'.ownsRow w.heap.size 134 2 v ps.length (ps.flatMap LM.cellP)
set_option maxHeartbeats 4000000 in
theorem patchesOf_any (l : List LM.Ob) (ao : Option Addr) (cap : Nat) (o : LM.Ob) (w : World) (h : Oi l ao w) (hi : M.HasIm w o.a o.i) (hc : M.chkN o.i = 0) (hfo : M.Fit o.i) (h0 : 1 ≤ o.base) (h1 : o.base ≤ 2000) :
    Calls Try.prog 53 #[.agg (LM.cellsO o), .slice ao l.length cap] w (OutPt (LM.patN l o) w) := by
  have hn := (LM.counts_of hc).2.2.2.2
  have HRB := hideC (LM.rel_bounds hc)
  have HRF := hideC hfo.rel
  have HRL := hideC hi.rels
  have HAD : Hid (∀ at', 0 ≤ at' → at' ≤ 100000 → ∀ V, Calls Try.prog 23 #[.agg (LM.cellsO o), .int .i64 at'] V fun e w' => e = .returned (.int .i64 (LM.addrO o at')) ∧ Below V.heap.size V w') := fun a h2 h3 V => address_any o a V (by omega) (by omega) h2 h3
  have HTG : Hid (∀ s V, Below w.heap.size w V → Calls Try.prog 78 #[.agg (LM.cellsO o), .slice ao l.length cap, .string s] V fun e w' => e = .returned (optV (LM.tgtN l o s)) ∧ Below V.heap.size V w') := fun s V hb => target_any l ao cap o s V (h.below hb) (by omega) (by omega)
  obtain ⟨R, hR⟩ : ∃ R, R = LM.patN l o := ⟨_, rfl⟩
  have HR : Hid (R = LM.patTo l o o.i.rels.length) := hR
  rw [← hR]
  clear hR h hi hc hfo
  obtain ⟨i0, hin, hz0, hz1, hz2⟩ := info_parts infoPt
  obtain ⟨og, hog⟩ : ∃ og, og = o := ⟨_, rfl⟩
  have HOG := hideC hog
  rw [← hog] at HR HRB HRF HRL HTG HAD hn
  simp only [LM.cellsO] at HTG HAD
  rw [hog] at HTG HAD
  clear hog
  have HTG' : Hid (∀ s V, Below w.heap.size w V → Calls Try.prog 78 #[.agg #[.string o.i.name, .slice o.a.an o.i.needs.length o.a.cn, .slice o.a.ag o.i.segs.length o.a.cg, .slice o.a.ay o.i.syms.length o.a.cy, .slice o.a.ar o.i.rels.length o.a.cr, .int .i64 o.i.entry, .int .i64 o.base], .slice ao l.length cap, .string s] V fun e w' => e = .returned (optV (LM.tgtN l og s)) ∧ Below V.heap.size V w') := by
    rw [HOG.out]
    exact HTG
  have HAD' : Hid (∀ at', 0 ≤ at' → at' ≤ 100000 → ∀ V, Calls Try.prog 23 #[.agg #[.string o.i.name, .slice o.a.an o.i.needs.length o.a.cn, .slice o.a.ag o.i.segs.length o.a.cg, .slice o.a.ay o.i.syms.length o.a.cy, .slice o.a.ar o.i.rels.length o.a.cr, .int .i64 o.i.entry, .int .i64 o.base], .int .i64 at'] V fun e w' => e = .returned (.int .i64 (LM.addrO og at')) ∧ Below V.heap.size V w') := by
    rw [HOG.out]
    exact HAD
  have HRL' : Hid (M.HasBy M.LieR w o.a.ar og.i.rels) := by
    have h := HRL.out
    rw [HOG.out] at h ⊢
    exact h
  have hrl : o.i.rels.length = og.i.rels.length := by rw [HOG.out]
  clear HTG HAD HRL
  simp only [LM.cellsO]
  obtain ⟨⟨nm, ns, gs, ys, rs, en⟩, ⟨an, cn, ag, cg, ay, cy, ar, cr⟩, ba⟩ := o
  simp only at HTG' HAD' HRL' hrl h0 h1
  simp only
  rw [hrl] at HTG' HAD'
  rw [hrl]
  clear hrl HOG
  obtain ⟨L, hL⟩ : ∃ L, L = og.i.rels := ⟨_, rfl⟩
  rw [← hL] at HTG' HAD' HRL' hn HR HRB HRF
  rw [← hL]
  have HL := hideC hL
  clear hL
  have HB := hideC ((Below.refl w.heap.size w).alloc (Nat.le_refl _) (.cells #[.string nm, .slice an ns.length cn, .slice ag gs.length cg, .slice ay ys.length cy, .slice ar L.length cr, .int .i64 en, .int .i64 ba] 59))
  have BX := hideC (B.new w #[.string nm, .slice an ns.length cn, .slice ag gs.length cg, .slice ay ys.length cy, .slice ar L.length cr, .int .i64 en, .int .i64 ba] 59)
  go_enter Try.func53, Try.ntmps53
  go_wp2
  go_loopw [17, 6] (fun i v wr => ∃ (k : Nat) (ps : List LM.Pt), k ≤ L.length ∧ i = .int .i64 k ∧ LM.patTo l og k = some ps ∧ wr.ownsRow (w.heap.size + 1) 134 2 v ps.length (ps.flatMap LM.cellP) ∧ Below w.heap.size w wr ∧ wr.heap[w.heap.size]? = some (.cells #[.string nm, .slice an ns.length cn, .slice ag gs.length cg, .slice ay ys.length cy, .slice ar L.length cr, .int .i64 en, .int .i64 ba] 59 (0, 0))) (fun i _ _ => L.length - (intOf i).toNat)
  case atStart => exact ⟨0, [], by omega, rfl, rfl, World.ownsRow_nil _ _ _ _, HB.out, BX.out⟩
  case round =>
    obtain ⟨k, ps, hk, rfl, hpt, hown, hb, hbx⟩ := hrel
    have HPT := hideC hpt
    have HOW := hideC hown
    have HBr := hideC hb
    have BXr := hideC hbx
    have hb0 := B.isLt hbx
    have hpl : ps.length ≤ 16 := by have := LM.patTo_len hpt; omega
    have x0 := B.cell hbx 0 rfl
    have x1 := B.cell hbx 1 rfl
    have x2 := B.cell hbx 2 rfl
    have x3 := B.cell hbx 3 rfl
    have x4 := B.cell hbx 4 rfl
    have x5 := B.cell hbx 5 rfl
    have x6 := B.cell hbx 6 rfl
    by_cases hlt : k < L.length
    · obtain ⟨b, off, har, hbl, hlie⟩ := (M.HasBy.below (lie := M.LieR) (fun hb hlt h => M.lieR hb hlt h) HRL'.out hb) (by omega)
      obtain ⟨c0, c1, c2⟩ := hlie k hlt
      have hrb := HRB.out k hlt
      have HS1 : Hid (∀ t, LM.tgtN l og (M.rlAt L k).name = some t → LM.patTo l og (k + 1) = some (ps ++ [LM.ptOf og (M.rlAt L k) t])) := fun t g => by
        rw [HL.out] at g ⊢
        simp only [LM.patTo, HPT.out, g]
      have HS0 : Hid (LM.tgtN l og (M.rlAt L k).name = none → R = none) := fun g => by
        rw [HR.out]
        refine LM.patTo_none (k := k + 1) ?_ L.length (by omega)
        rw [HL.out] at g
        simp only [LM.patTo, HPT.out, g]
      obtain ⟨r, hr⟩ : ∃ r, r = M.rlAt L k := ⟨_, rfl⟩
      rw [← hr] at c0 c1 c2 hrb HS1 HS0
      clear hr hlie hpt hown hbx
      obtain ⟨rp, rn, ra⟩ := r
      simp only at c0 c1 c2 hrb HS1 HS0
      have HBA := hideC (HBr.out.alloc HBr.out.size (.cells #[.int .i64 rp, .string rn, .int .i64 ra] 75))
      have HRA := hideC ((Below.refl wr.heap.size wr).alloc (Nat.le_refl _) (.cells #[.int .i64 rp, .string rn, .int .i64 ra] 75))
      have BRA := hideC (B.new wr #[.int .i64 rp, .string rn, .int .i64 ra] 75)
      have HT2 := hideC (HTG'.out rn)
      cases e : LM.tgtN l og rn with
      | none =>
        have HRN := hideC (HS0.out e)
        rw [e] at HT2
        simp only [optV, Option.getD_none, Option.isSome_none] at HT2
        clear e HS0 HS1 hb
        subst har
        go_wp2_with (go_at_call 78; refine (HT2.out _ HBA.out).mono ?_; rintro e w1 ⟨rfl, hb⟩; have HB1 := hideC (HBA.out.trans (hb.mono HBA.out.size)); clear hb)
        go_ret2
        show OutPt R w _ _
        rw [HRN.out]
        exact ⟨HB1.out, rfl⟩
      | some t =>
        have HPS := hideC (HS1.out t e)
        rw [e] at HT2
        simp only [optV, Option.getD_some, Option.isSome_some] at HT2
        have HA2 := hideC (HAD'.out rp hrb.1 (by omega))
        have HPP : Hid (LM.ptOf og ⟨rp, rn, ra⟩ t = ⟨LM.addrO og rp, ⟨(Lib.leBytes 8 (CM.low (t + ra))).toArray⟩⟩) := rfl
        obtain ⟨a8, ha8⟩ : ∃ a8, a8 = LM.addrO og rp := ⟨_, rfl⟩
        obtain ⟨sb, hsb⟩ : ∃ sb : ByteArray, sb = ⟨(Lib.leBytes 8 (CM.low (t + ra))).toArray⟩ := ⟨_, rfl⟩
        have HPU : Hid (∀ n, CM.low n = CM.low (t + ra) → ∀ V, Calls Try.prog 79 #[.int .i64 n, .int .i64 8] V fun e w' => e = .returned (.tuple #[.string sb, .int .i64 0]) ∧ Below V.heap.size V w') := fun n hn V => by
          have h := CW.put_yes n 8 V (by decide) (by decide)
          rw [hn, ← hsb] at h
          exact h
        rw [← ha8] at HA2 HPP
        rw [← hsb] at HPP
        rw [HPP.out] at HPS
        clear e HS0 HS1 HPP ha8 hsb hb
        subst har
        go_wp2_with (first
          | (go_at_call 78; refine (HT2.out _ HBA.out).mono ?_; rintro e w1 ⟨rfl, hb⟩; have HB1 := hideC (HBA.out.trans (hb.mono HBA.out.size)); have HW1 := hideC (HRA.out.trans (hb.mono HRA.out.size)); have BR1 := hideC (B.below BRA.out hb (B.isLt BRA.out)); have z0 := B.cell BR1.out 0 rfl; have z2 := B.cell BR1.out 2 rfl; clear hb)
          | (go_at_call 79; refine (HPU.out _ (by first | rfl | exact LM.low_wrap _) _).mono ?_; rintro e w2 ⟨rfl, hb⟩; have HB2 := hideC (HB1.out.trans (hb.mono HB1.out.size)); have HW2 := hideC (HW1.out.trans (hb.mono HW1.out.size)); have BR2 := hideC (B.below BR1.out hb (B.isLt BR1.out)); have v0 := B.cell BR2.out 0 rfl; have BX2 := hideC (B.below BXr.out HW2.out hb0); have q0 := B.cell BX2.out 0 rfl; have q1 := B.cell BX2.out 1 rfl; have q2 := B.cell BX2.out 2 rfl; have q3 := B.cell BX2.out 3 rfl; have q4 := B.cell BX2.out 4 rfl; have q5 := B.cell BX2.out 5 rfl; have q6 := B.cell BX2.out 6 rfl; clear hb)
          | (go_at_call 23; refine (HA2.out _).mono ?_; rintro e w3 ⟨rfl, hb⟩; have HB3 := hideC (HB2.out.trans (hb.mono HB2.out.size)); have HW3 := hideC (HW2.out.trans (hb.mono HW2.out.size)); have BX3 := hideC (B.below BXr.out HW3.out hb0); have HOW3 := hideC ((row_grown HOW.out HW3.out).alloc (.cells #[.int .i64 a8, .string sb] 134)); have hrow3 := HOW3.out.lt; have HN3 := hideC (B.new w3 #[.int .i64 a8, .string sb] 134); clear hb)
          | (at_builtin; refine wpList_append_lies _ rfl _ _ 106 rfl (w.heap.size + 1) 134 i0 (.agg #[.int .i64 0, .string ⟨#[]⟩]) 2 24 Try.underlying106 hin hz0 hz1 hz2 rfl (by decide) _ _ _ rfl HOW3.out ⟨w3.heap.size, 0, none⟩ 1 1 [.int .i64 a8, .string sb] rfl rfl (B.news HN3.out) (by intro u hu; simp at hu; rcases hu with rfl | rfl <;> rfl) (by decide) (by unfold maxLen; omega) (by omega) (by have := B.isLt BX3.out; simp; omega) (w3.heap.size + 1) (by simp) ?_; intro gg capg w4 hown4 hgrow hatt hlt4; have HOW4 := hideC hown4; have HB4 := hideC ((HB3.out.alloc HB3.out.size (.cells #[.int .i64 a8, .string sb] 134)).grown hgrow (by have := HB3.out.size; simp; omega) (fun q hq => by have := hrow3 _ hq; omega)); have BX4 := hideC (B.grown (B.alloc BX3.out (.cells #[.int .i64 a8, .string sb] 134)) hgrow (fun e => by have := hrow3 _ e.symm; omega)); clear hown4 hgrow hatt))
        go_roundw
        case rel => exact ⟨k + 1, ps ++ [⟨a8, sb⟩], by omega, by go_num, HPS.out, by rw [List.length_append, List.flatMap_append]; exact HOW4.out, HB4.out, BX4.out⟩
        case measure => simp [intOf]; omega
    · obtain rfl : k = L.length := by omega
      have HE : Hid (R = some ps) := by rw [HR.out]; exact HPT.out
      clear hpt hown hb hbx
      go_wp2
      go_ret2
      show OutPt R w _ _
      rw [HE.out]
      exact ⟨HBr.out, _, rfl, row_mono HOW.out (by omega)⟩
end Go.Proofs.Ytbgnagognnklbaa.LW
/- The sheets of objects; plain Lean. -/
namespace Go.Proofs.Ytbgnagognnklbaa.LM
open Go.RowKit
set_option linter.unusedVariables false
set_option maxRecDepth 100000

/-- a sheet without the places of its fixes -/
structure Sp where
  page : Int
  data : ByteArray
  fixes : List Fx
def plain (s : Sh) : Sp := ⟨s.page, s.data, s.fixes⟩
def pgN (o : Ob) (ps : List Pt) (s : M.Sg) (m : Nat) : Sp := ⟨o.base + s.page + (m : Int), pageN s m, fixesN (o.base + s.page + (m : Int)) ps⟩
def pgsTo (o : Ob) (ps : List Pt) (s : M.Sg) (n : Nat) : List Sp := (List.range n).map (pgN o ps s)
def sgsTo (o : Ob) (ps : List Pt) : Nat → List Sp
  | 0 => []
  | k + 1 => sgsTo o ps k ++ pgsTo o ps (M.sgAt o.i.segs k) (M.sgAt o.i.segs k).pages.toNat
def obsTo (l : List Ob) : Nat → Option (List Sp)
  | 0 => some []
  | k + 1 => match obsTo l k with
    | none => none
    | some E => match patN l (obAt l k) with
      | none => none
      | some ps => some (E ++ sgsTo (obAt l k) ps (obAt l k).i.segs.length)
def sheetsN (l : List Ob) : Option (List Sp) := obsTo l l.length
theorem pgsTo_succ (o : Ob) (ps : List Pt) (s : M.Sg) (n : Nat) : pgsTo o ps s (n + 1) = pgsTo o ps s n ++ [pgN o ps s n] := by
  unfold pgsTo
  rw [List.range_succ, List.map_append]
  rfl
theorem obsTo_none {l : List Ob} {k : Nat} (h : obsTo l k = none) : ∀ n, k ≤ n → obsTo l n = none
  | 0, hn => by obtain rfl : k = 0 := by omega
                exact h
  | n + 1, hn => by
    by_cases e : k = n + 1
    · subst e; exact h
    · simp only [obsTo]
      rw [obsTo_none h n (by omega)]
theorem pat_fit {l : List Ob} {o : Ob} (hc : M.chkN o.i = 0) (h0 : 1 ≤ o.base) (h1 : o.base ≤ 2000) : ∀ (k : Nat) (ps : List Pt), k ≤ o.i.rels.length → patTo l o k = some ps → ∀ j, j < ps.length → FitP (ptAt ps j)
  | 0, ps, _, h, j, hj => by simp only [patTo] at h; injection h with h; subst h; simp at hj
  | k + 1, ps, hk, h, j, hj => by
    simp only [patTo] at h
    cases e : patTo l o k with
    | none => rw [e] at h; cases h
    | some qs =>
      rw [e] at h
      simp only at h
      cases g : tgtN l o (M.rlAt o.i.rels k).name with
      | none => rw [g] at h; cases h
      | some t =>
        rw [g] at h
        simp only at h
        injection h with h
        subst h
        rw [List.length_append] at hj
        by_cases hjq : j < qs.length
        · have := pat_fit hc h0 h1 k qs (by omega) e j hjq
          unfold ptAt at this ⊢
          rw [List.getD_eq_getElem?_getD, List.getElem?_append_left hjq, ← List.getD_eq_getElem?_getD]
          exact this
        · have hje : j = qs.length := by simp at hj; omega
          subst hje
          unfold ptAt
          rw [List.getD_eq_getElem?_getD, List.getElem?_append_right (Nat.le_refl _), Nat.sub_self]
          have hb := rel_bounds hc k (by omega)
          refine ⟨?_, ?_, ?_⟩
          · show 0 ≤ o.base * 16 + (M.rlAt o.i.rels k).pos
            omega
          · show o.base * 16 + (M.rlAt o.i.rels k).pos ≤ 1000000
            omega
          · show (⟨(Lib.leBytes 8 (CM.low (t + (M.rlAt o.i.rels k).add))).toArray⟩ : ByteArray).size = 8
            rw [Lib.size_eq]
            simp [Lib.leBytes]
/-- fixes that lie in another block than rb -/
def HasFN (rb : Option Nat) (w : World) (ao : Option Addr) (l : List Fx) : Prop := 0 < l.length → ∃ b off, ao = some ⟨b, off, none⟩ ∧ b < w.heap.size ∧ some b ≠ rb ∧ LieF w b off l
theorem HasFN.has {rb : Option Nat} {w : World} {ao : Option Addr} {l : List Fx} (h : HasFN rb w ao l) : HasF w ao l := fun hl => by
  obtain ⟨b, off, h1, h2, _, h3⟩ := h hl
  exact ⟨b, off, h1, h2, h3⟩
theorem HasFN.below {rb : Option Nat} {w w' : World} {ao : Option Addr} {l : List Fx} (h : HasFN rb w ao l) (hb : Below w.heap.size w w') : HasFN rb w' ao l := fun hl => by
  obtain ⟨b, off, h1, h2, h3, h4⟩ := h hl
  exact ⟨b, off, h1, Nat.lt_of_lt_of_le h2 hb.size, h3, lieF hb h2 h4⟩
theorem lieF_block {w w' : World} {b off : Nat} {l : List Fx} (h : LieF w b off l) (hb : w'.heap[b]? = w.heap[b]?) : LieF w' b off l := fun i hi => by
  obtain ⟨c0, c1⟩ := h i hi
  exact ⟨(World.cell?_of_block hb).trans c0, (World.cell?_of_block hb).trans c1⟩
theorem HasFN.grown {rb : Option Nat} {w w' : World} {ao : Option Addr} {l : List Fx} {g : Nat} (h : HasFN rb w ao l) (hg : w.grownBy w' rb) (hs : w.heap.size ≤ w'.heap.size) (hat : rb = some g ∨ g = w.heap.size) : HasFN (some g) w' ao l := fun hl => by
  obtain ⟨b, off, h1, h2, h3, h4⟩ := h hl
  refine ⟨b, off, h1, Nat.lt_of_lt_of_le h2 hs, fun e => ?_, lieF_block h4 (hg.block b h2 h3)⟩
  injection e with e
  rcases hat with hat | hat
  · exact h3 (by rw [hat, e])
  · omega
def AllF (rb : Option Nat) (w : World) (hs : List Sh) : Prop := ∀ k, k < hs.length → HasFN rb w (shAt hs k).ao (shAt hs k).fixes
def cellH (s : Sh) : List Value := [.int .i64 s.page, .string s.data, .slice s.ao s.fixes.length s.cap]
theorem shAt_left (l : List Sh) (x : Sh) (k : Nat) (h : k < l.length) : shAt (l ++ [x]) k = shAt l k := by
  unfold shAt
  rw [List.getD_eq_getElem?_getD, List.getElem?_append_left h, ← List.getD_eq_getElem?_getD]
theorem shAt_last (l : List Sh) (x : Sh) : shAt (l ++ [x]) l.length = x := by
  unfold shAt
  rw [List.getD_eq_getElem?_getD, List.getElem?_append_right (Nat.le_refl _)]
  simp
end Go.Proofs.Ytbgnagognnklbaa.LM
