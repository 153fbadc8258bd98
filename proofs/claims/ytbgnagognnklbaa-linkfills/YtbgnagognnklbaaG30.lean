import Derived.Test.YtbgnagognnklbaaG28
import Derived.Test.YtbgnagognnklbaaG29
/- The linker: symbols, and what relocations come to. -/
namespace Go.Proofs.Ytbgnagognnklbaa.LW
open Go.RowKit
open Go.Proofs.Ytbgnagognnklbaa.W (hideC)
set_option linter.unusedVariables false
set_option maxRecDepth 100000

theorem sym1_any (y : M.Sy) (P : Nat) (s : ByteArray) (w : World) (hP : w.cell? ⟨P, 0, none⟩ = some (.string s)) :
    Calls Try.prog 100 #[.agg #[.string y.name, .int .i64 y.pos], .pointer (some ⟨P, 0, none⟩)] w fun e w' => e = .returned (.bool (decide (y.name = s))) ∧ Below w.heap.size w w' := by
  have hPl : P < w.heap.size := World.block_lt_of_cell? w _ hP
  obtain ⟨nm, ps⟩ := y
  go_enter Try.func100, Try.ntmps100
  go_wp2
  go_ret
  exact ⟨ret_bool (str_eq _ _), (Below.refl _ _).alloc (Nat.le_refl _) _⟩
def ixInt : Option Nat → Int
  | none => -1
  | some k => k
set_option maxHeartbeats 2000000 in
theorem indexSy_any (l : List M.Sy) (ao : Option Addr) (cap : Nat) (P : Nat) (s : ByteArray) (w : World) (h : M.HasBy M.LieY w ao l) (hn : M.Short l.length) (hP : w.cell? ⟨P, 0, none⟩ = some (.string s)) :
    Calls Try.prog 99 #[.slice ao l.length cap, .func (.func 100) #[] #[.pointer (some ⟨P, 0, none⟩)]] w fun e w' => e = .returned (.int .i64 (ixInt (LM.symIx l s))) ∧ Below w.heap.size w w' := by
  have HH := hideC h
  have hPl : P < w.heap.size := World.block_lt_of_cell? w _ hP
  have HP := hideC hP
  unfold M.Short at hn
  clear h hP
  go_enter Try.func99, Try.ntmps99
  go_wp2
  go_loopw [8] (fun i wr => ∃ k : Nat, k ≤ l.length ∧ i = .int .i64 k ∧ (∀ j, j < k → (M.syAt l j).name ≠ s) ∧ Below w.heap.size w wr) (fun i _ => l.length - (intOf i).toNat)
  case atStart => exact ⟨0, by omega, rfl, fun j hj => by omega, Below.refl _ _⟩
  case round =>
    obtain ⟨k, hk, rfl, hno, hb⟩ := hrel
    have HNO := hideC hno
    have HBr := hideC hb
    clear hno
    by_cases hlt : k < l.length
    · obtain ⟨b, off, hao, hbl, hlie⟩ := (M.HasBy.below (lie := M.LieY) (fun hb hlt h => M.lieY hb hlt h) HH.out hb) (by omega)
      subst hao
      obtain ⟨c0, c1⟩ := hlie k hlt
      have HY : Hid ((M.syAt l k).name = s → LM.symIx l s = some k) := fun e => LM.symIx_at hlt e HNO.out
      have HZ : Hid ((M.syAt l k).name ≠ s → ∀ j, j < k + 1 → (M.syAt l j).name ≠ s) := fun e j hj => by
        by_cases g : j = k
        · subst g; exact e
        · exact HNO.out j (by omega)
      obtain ⟨y, hy⟩ : ∃ y, y = M.syAt l k := ⟨_, rfl⟩
      rw [← hy] at c0 c1 HY HZ
      have HPr := hideC ((hb.cell (p := ⟨P, 0, none⟩) hPl).trans HP.out)
      have HC := hideC (sym1_any y P s wr HPr.out)
      clear hy hlie hb
      by_cases hnm : y.name = s
      · have HX := hideC (HY.out hnm)
        rw [decide_eq_true hnm] at HC
        clear hnm HY HZ
        go_wp2_with (go_at_call 100; refine HC.out.mono ?_; rintro e w1 ⟨rfl, hb⟩; have HB1 := hideC (HBr.out.trans (hb.mono HBr.out.size)); clear hb)
        go_ret
        exact ⟨by rw [HX.out]; rfl, HB1.out⟩
      · have HX := hideC (HZ.out hnm)
        rw [decide_eq_false hnm] at HC
        clear hnm HY HZ
        go_wp2_with (go_at_call 100; refine HC.out.mono ?_; rintro e w1 ⟨rfl, hb⟩; have HB1 := hideC (HBr.out.trans (hb.mono HBr.out.size)); clear hb)
        go_roundw
        case rel => exact ⟨k + 1, by omega, by go_num, HX.out, HB1.out⟩
        case measure => simp [intOf]; omega
    · obtain rfl : k = l.length := by omega
      have HX := hideC (LM.symIx_none HNO.out)
      go_wp2
      go_ret
      exact ⟨by rw [HX.out]; rfl, HBr.out⟩

/-- a number and a flag -/
def optV (t : Option Int) : Value := .tuple #[.int .i64 (t.getD 0), .bool t.isSome]
set_option maxHeartbeats 3000000 in
theorem symbol_any (o : LM.Ob) (s : ByteArray) (w : World) (h : M.HasIm w o.a o.i) (hc : M.chkN o.i = 0) (h0 : 0 ≤ o.base) (h1 : o.base ≤ 100000) :
    Calls Try.prog 88 #[.agg (LM.cellsO o), .string s] w fun e w' => e = .returned (optV (LM.symN o s)) ∧ Below w.heap.size w w' := by
  have hn := (LM.counts_of hc).2.2.2.1
  have HSB := hideC (LM.sym_bounds hc)
  have HSY := hideC h.syms
  have HAD : Hid (∀ at', 0 ≤ at' → at' ≤ 100000 → ∀ V, Calls Try.prog 23 #[.agg (LM.cellsO o), .int .i64 at'] V fun e w' => e = .returned (.int .i64 (LM.addrO o at')) ∧ Below V.heap.size V w') := fun a h2 h3 V => address_any o a V h0 h1 h2 h3
  have HSN : Hid (LM.symN o s = match LM.symIx o.i.syms s with
    | none => none
    | some k => some (LM.addrO o (M.syAt o.i.syms k).pos)) := rfl
  obtain ⟨⟨nm, ns, gs, ys, rs, en⟩, ⟨an, cn, ag, cg, ay, cy, ar, cr⟩, ba⟩ := o
  simp only [LM.cellsO] at HAD
  simp only [LM.cellsO]
  simp only at hn HSN HSY HSB
  clear h hc
  have BX := hideC (B.new w #[.string nm, .slice an ns.length cn, .slice ag gs.length cg, .slice ay ys.length cy, .slice ar rs.length cr, .int .i64 en, .int .i64 ba] 59)
  have HB := hideC ((Below.refl w.heap.size w).alloc (Nat.le_refl _) (.cells #[.string nm, .slice an ns.length cn, .slice ag gs.length cg, .slice ay ys.length cy, .slice ar rs.length cr, .int .i64 en, .int .i64 ba] 59))
  have HB2 := hideC (HB.out.alloc HB.out.size (.cells #[.string s] 9))
  obtain ⟨W, hW⟩ : ∃ W, W = (w.alloc (.cells #[.string nm, .slice an ns.length cn, .slice ag gs.length cg, .slice ay ys.length cy, .slice ar rs.length cr, .int .i64 en, .int .i64 ba] 59)).alloc (.cells #[.string s] 9) := ⟨_, rfl⟩
  have BXW : Hid (W.heap[w.heap.size]? = some (.cells #[.string nm, .slice an ns.length cn, .slice ag gs.length cg, .slice ay ys.length cy, .slice ar rs.length cr, .int .i64 en, .int .i64 ba] 59 (0, 0))) := by
    show _ = _
    rw [hW]
    exact B.alloc BX.out _
  have HPW : Hid (W.cell? ⟨w.heap.size + 1, 0, none⟩ = some (.string s)) := by
    show _ = _
    rw [hW]
    have h := B.new (w.alloc (.cells #[.string nm, .slice an ns.length cn, .slice ag gs.length cg, .slice ay ys.length cy, .slice ar rs.length cr, .int .i64 en, .int .i64 ba] 59)) #[.string s] 9
    rw [show (w.alloc (.cells #[.string nm, .slice an ns.length cn, .slice ag gs.length cg, .slice ay ys.length cy, .slice ar rs.length cr, .int .i64 en, .int .i64 ba] 59)).heap.size = w.heap.size + 1 by simp] at h
    exact B.cell h 0 rfl
  rw [← hW] at HB2
  have HWE := hideC hW
  clear hW HB BX
  have HIX := hideC (indexSy_any ys ay cy (w.heap.size + 1) s W (M.HasBy.below (lie := M.LieY) (fun hb hlt h => M.lieY hb hlt h) HSY.out HB2.out) (by unfold M.Short; omega) HPW.out)
  cases e : LM.symIx ys s with
  | none =>
    rw [e] at HIX HSN
    simp only [ixInt] at HIX HSN
    rw [HSN.out]
    clear e
    go_enter Try.func88, Try.ntmps88
    go_wp2_with (go_at_call 99; rw [← HWE.out]; refine HIX.out.mono ?_; rintro e w1 ⟨rfl, hb⟩; have HB3 := hideC (HB2.out.trans (hb.mono HB2.out.size)); clear hb)
    go_ret2
    exact ⟨rfl, HB3.out⟩
  | some k =>
    have hk := LM.symIx_lt e
    rw [e] at HIX HSN
    simp only [ixInt] at HIX HSN
    rw [HSN.out]
    have hsb := HSB.out k hk
    obtain ⟨by_, off, hay, hbl, hlie⟩ := HSY.out (by omega)
    subst hay
    obtain ⟨-, c1⟩ := hlie k hk
    obtain ⟨q, hq⟩ : ∃ q, q = (M.syAt ys k).pos := ⟨_, rfl⟩
    rw [← hq] at c1 hsb
    rw [← hq]
    have HA2 := hideC (HAD.out q hsb.1 (by omega))
    clear e hq hlie HSB HSN HAD
    go_enter Try.func88, Try.ntmps88
    go_wp2_with (go_at_call 99; rw [← HWE.out]; refine HIX.out.mono ?_; rintro e w1 ⟨rfl, hb⟩; have HB3 := hideC (HB2.out.trans (hb.mono HB2.out.size)); have BX1 := hideC (B.below BXW.out hb (B.isLt BXW.out)); clear hb)
    have hb1 := B.isLt BX1.out
    have hbl1 : by_ < w1.heap.size := Nat.lt_of_lt_of_le hbl HB3.out.size
    have hkin := Q.kin_some w1
    have hkc := @Q.cell_kin w1
    have x0 : ∀ x : Q.Kin w1.heap.size w1, x.world.cell? ⟨w.heap.size, 0, none⟩ = some (.string nm) := fun x => by rw [hkc x _ _ hb1]; exact B.cell BX1.out 0 rfl
    have x1 : ∀ x : Q.Kin w1.heap.size w1, x.world.cell? ⟨w.heap.size, 1, none⟩ = some (.slice an ns.length cn) := fun x => by rw [hkc x _ _ hb1]; exact B.cell BX1.out 1 rfl
    have x2 : ∀ x : Q.Kin w1.heap.size w1, x.world.cell? ⟨w.heap.size, 2, none⟩ = some (.slice ag gs.length cg) := fun x => by rw [hkc x _ _ hb1]; exact B.cell BX1.out 2 rfl
    have x3 : ∀ x : Q.Kin w1.heap.size w1, x.world.cell? ⟨w.heap.size, 3, none⟩ = some (.slice (some ⟨by_, off, none⟩) ys.length cy) := fun x => by rw [hkc x _ _ hb1]; exact B.cell BX1.out 3 rfl
    have x4 : ∀ x : Q.Kin w1.heap.size w1, x.world.cell? ⟨w.heap.size, 4, none⟩ = some (.slice ar rs.length cr) := fun x => by rw [hkc x _ _ hb1]; exact B.cell BX1.out 4 rfl
    have x5 : ∀ x : Q.Kin w1.heap.size w1, x.world.cell? ⟨w.heap.size, 5, none⟩ = some (.int .i64 en) := fun x => by rw [hkc x _ _ hb1]; exact B.cell BX1.out 5 rfl
    have x6 : ∀ x : Q.Kin w1.heap.size w1, x.world.cell? ⟨w.heap.size, 6, none⟩ = some (.int .i64 ba) := fun x => by rw [hkc x _ _ hb1]; exact B.cell BX1.out 6 rfl
    have y1 : ∀ x : Q.Kin w1.heap.size w1, x.world.cell? ⟨by_, off + k * 2 + 1, none⟩ = some (.int .i64 q) := fun x => by rw [hkc x _ _ hbl1, HB3.out.cell (p := ⟨by_, _, none⟩) hbl]; exact c1
    have HA3 : Hid (∀ V, Below w1.heap.size w1 V → Calls Try.prog 23 #[.agg #[.string nm, .slice an ns.length cn, .slice ag gs.length cg, .slice (some ⟨by_, off, none⟩) ys.length cy, .slice ar rs.length cr, .int .i64 en, .int .i64 ba], .int .i64 q] V fun e w' => e = .returned (.int .i64 (LM.addrO ⟨⟨nm, ns, gs, ys, rs, en⟩, ⟨an, cn, ag, cg, some ⟨by_, off, none⟩, cy, ar, cr⟩, ba⟩ q)) ∧ Below V.heap.size V w') := fun V _ => HA2.out V
    clear hkc HA2
    refine Q.region_kin (by kernel_rfl) (by kernel_rfl) ?_
    repeat (first | go_big_quiet_step ((go_at_call 23; exact calls_kin _ HA3.out)) | quiet_step ((go_at_call 23; exact calls_kin _ HA3.out)))
    refine wpQuiet_nil ?_
    intro _ hw'
    obtain ⟨x, hw''⟩ := hw'
    subst hw''
    go_wp2
    go_ret2
    exact ⟨rfl, HB3.out.trans (x.keeps.mono HB3.out.size)⟩

theorem ret_opt {a b : Option Int} (h : a = b) : Ending.returned (optV a) = .returned (optV b) := by rw [h]
/-- what target and its like are handed: objects that may be, in memory -/
structure Oi (l : List LM.Ob) (ao : Option Addr) (w : World) : Prop where
  has : LM.HasO w ao l
  few : l.length ≤ 1000
  chk : ∀ k, k < l.length → M.chkN (LM.obAt l k).i = 0
  fit : ∀ k, k < l.length → M.Fit (LM.obAt l k).i
  base : ∀ k, k < l.length → 1 ≤ (LM.obAt l k).base ∧ (LM.obAt l k).base ≤ 2000
theorem Oi.below {l : List LM.Ob} {ao : Option Addr} {w w' : World} (h : Oi l ao w) (hb : Below w.heap.size w w') : Oi l ao w' := ⟨h.has.below hb, h.few, h.chk, h.fit, h.base⟩
set_option maxHeartbeats 3000000 in
theorem target_any (l : List LM.Ob) (ao : Option Addr) (cap : Nat) (o : LM.Ob) (s : ByteArray) (w : World) (h : Oi l ao w) (h0 : 0 ≤ o.base) (h1 : o.base ≤ 100000) :
    Calls Try.prog 78 #[.agg (LM.cellsO o), .slice ao l.length cap, .string s] w fun e w' => e = .returned (optV (LM.tgtN l o s)) ∧ Below w.heap.size w w' := by
  have HO := hideC h
  have hn := h.few
  clear h
  have HA0 := hideC (fun V => address_any o 0 V h0 h1 (by omega) (by omega))
  have HTN : Hid (LM.tgtN l o s = if s = ⟨#[]⟩ then some (LM.addrO o 0) else LM.tgtTo l s l.length) := rfl
  obtain ⟨a0, ha0⟩ : ∃ a0, a0 = LM.addrO o 0 := ⟨_, rfl⟩
  rw [← ha0] at HA0 HTN
  obtain ⟨R, hR⟩ : ∃ R, R = LM.tgtN l o s := ⟨_, rfl⟩
  rw [← hR] at HTN
  rw [← hR]
  clear hR ha0
  obtain ⟨⟨nm, ns, gs, ys, rs, en⟩, ⟨an, cn, ag, cg, ay, cy, ar, cr⟩, ba⟩ := o
  simp only [LM.cellsO] at HA0
  simp only [LM.cellsO]
  have HB := hideC ((Below.refl w.heap.size w).alloc (Nat.le_refl _) (.cells #[.string nm, .slice an ns.length cn, .slice ag gs.length cg, .slice ay ys.length cy, .slice ar rs.length cr, .int .i64 en, .int .i64 ba] 59))
  by_cases hs : s = ⟨#[]⟩
  · subst hs
    rw [if_pos rfl] at HTN
    go_enter Try.func78, Try.ntmps78
    go_wp2_with (go_at_call 23; refine (HA0.out _).mono ?_; rintro e w1 ⟨rfl, hb⟩; have HB1 := hideC (HB.out.trans (hb.mono HB.out.size)); clear hb)
    go_ret2
    exact ⟨by rw [HTN.out]; rfl, HB1.out⟩
  · rw [if_neg hs] at HTN
    have hs2 : ¬ s.toList = [] := fun e => hs (by
      rw [Lib.toList_data] at e
      cases s
      congr 1
      exact Array.toList_eq_nil_iff.1 e)
    have hs4 : s.toList.isEmpty = false := by simpa using hs2
    clear hs hs2
    go_enter Try.func78, Try.ntmps78
    go_wp2
    go_loopw [18] (fun i wr => ∃ k : Nat, k ≤ l.length ∧ i = .int .i64 k ∧ LM.tgtTo l s k = none ∧ Below w.heap.size w wr) (fun i _ => l.length - (intOf i).toNat)
    case atStart => exact ⟨0, by omega, rfl, rfl, HB.out⟩
    case round =>
      obtain ⟨k, hk, rfl, hz, hb⟩ := hrel
      have HZ := hideC hz
      have HBr := hideC hb
      clear hz
      by_cases hlt : k < l.length
      · have HOr := hideC (HO.out.below hb)
        obtain ⟨b, off, hao, hbl, hlie⟩ := HOr.out.has (by omega)
        subst hao
        obtain ⟨⟨c0, c1, c2, c3, c4, c5, c6⟩, him⟩ := hlie k hlt
        have hbs := HO.out.base k hlt
        have HST : Hid (LM.tgtTo l s (k + 1) = LM.symN (LM.obAt l k) s) := by
          show _ = _
          simp only [LM.tgtTo]
          rw [HZ.out]
        have HST2 : Hid (∀ t, LM.symN (LM.obAt l k) s = some t → R = some t) := fun t g => by
          rw [HTN.out]
          exact LM.tgtTo_some (by rw [HST.out]; exact g) l.length (by omega)
        have HSY : Hid (∀ V, Below wr.heap.size wr V → Calls Try.prog 88 #[.agg (LM.cellsO (LM.obAt l k)), .string s] V fun e w' => e = .returned (optV (LM.symN (LM.obAt l k) s)) ∧ Below V.heap.size V w') := fun V hb => symbol_any (LM.obAt l k) s V (him.below hb) (HO.out.chk k hlt) (by omega) (by omega)
        obtain ⟨q, hq⟩ : ∃ q, q = LM.obAt l k := ⟨_, rfl⟩
        rw [← hq] at c0 c1 c2 c3 c4 c5 c6 HST HST2 HSY
        simp only [LM.cellsO] at HSY
        clear hq hlie hb him hbs
        have HBA := hideC (HBr.out.alloc HBr.out.size (.cells #[.string q.i.name, .slice q.a.an q.i.needs.length q.a.cn, .slice q.a.ag q.i.segs.length q.a.cg, .slice q.a.ay q.i.syms.length q.a.cy, .slice q.a.ar q.i.rels.length q.a.cr, .int .i64 q.i.entry, .int .i64 q.base] 59))
        cases e : LM.symN q s with
        | none =>
          rw [e] at HSY HST
          simp only [optV, Option.getD_none, Option.isSome_none] at HSY
          clear e HST2
          go_wp2_with (go_at_call 88; refine (HSY.out _ ((Below.refl _ _).alloc (Nat.le_refl _) _)).mono ?_; rintro e w1 ⟨rfl, hb⟩; have HBA := hideC (HBA.out.trans (hb.mono HBA.out.size)); clear hb)
          go_roundw
          case rel => exact ⟨k + 1, by omega, by go_num, HST.out, HBA.out⟩
          case measure => simp [intOf]; omega
        | some t =>
          have HRT := hideC (HST2.out t e)
          rw [e] at HSY
          simp only [optV, Option.getD_some, Option.isSome_some] at HSY
          clear e HST2 HST
          go_wp2_with (go_at_call 88; refine (HSY.out _ ((Below.refl _ _).alloc (Nat.le_refl _) _)).mono ?_; rintro e w1 ⟨rfl, hb⟩; have HBA := hideC (HBA.out.trans (hb.mono HBA.out.size)); clear hb)
          go_ret2
          exact ⟨by rw [HRT.out]; rfl, HBA.out⟩
      · obtain rfl : k = l.length := by omega
        clear hb
        go_wp2
        go_ret2
        exact ⟨by rw [HTN.out, HZ.out]; rfl, HBr.out⟩
end Go.Proofs.Ytbgnagognnklbaa.LW
