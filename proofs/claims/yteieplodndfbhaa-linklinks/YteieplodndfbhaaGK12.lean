import Derived.Test.YteieplodndfbhaaGK11
import Derived.Test.YteieplodndfbhaaGK05
import Derived.Test.YteieplodndfbhaaGK04
import Derived.StillTailTactics
/- The linker: symbols, and what relocations come to. -/
namespace Go.Proofs.Yteieplodndfbhaa.LW
open Go.RowKit
open Go.Proofs.Yteieplodndfbhaa.W (hideC)
set_option linter.unusedVariables false
set_option maxRecDepth 100000

theorem sym1_any (y : M.Sy) (P : Nat) (s : ByteArray) (w : World) (hP : w.cell? ⟨P, 0, none⟩ = some (.string s)) :
    Calls Try.prog 100 #[.agg #[.string y.name, .int .i64 y.pos], .pointer (some ⟨P, 0, none⟩)] w fun e w' => e = .returned (.bool (decide (y.name = s))) ∧ Below w.heap.size w w' := by
  have hPl : P < w.heap.size := World.block_lt_of_cell? w _ hP
  obtain ⟨nm, ps⟩ := y
  go_enter Try.func100, Try.ntmps100
  go_wp2
  go_ret
  exact ⟨ret_bool (str_eq _ _), (Below.refl _ _).alloc (Nat.le_refl _) _⟩
def ixInt : Option Nat → Int
  | none => -1
  | some k => k
set_option maxHeartbeats 2000000 in
theorem indexSy_any (l : List M.Sy) (ao : Option Addr) (cap : Nat) (P : Nat) (s : ByteArray) (w : World) (h : M.HasBy M.LieY w ao l) (hn : M.Short l.length) (hP : w.cell? ⟨P, 0, none⟩ = some (.string s)) :
    Calls Try.prog 99 #[.slice ao l.length cap, .func (.func 100) #[] #[.pointer (some ⟨P, 0, none⟩)]] w fun e w' => e = .returned (.int .i64 (ixInt (LM.symIx l s))) ∧ Below w.heap.size w w' := by
  have HH := hideC h
  have hPl : P < w.heap.size := World.block_lt_of_cell? w _ hP
  have HP := hideC hP
  unfold M.Short at hn
  clear h hP
  go_enter Try.func99, Try.ntmps99
  go_wp2
  go_loopw [8] (fun i wr => ∃ k : Nat, k ≤ l.length ∧ i = .int .i64 k ∧ (∀ j, j < k → (M.syAt l j).name ≠ s) ∧ Below w.heap.size w wr) (fun i _ => l.length - (intOf i).toNat)
  case atStart => exact ⟨0, by omega, rfl, fun j hj => by omega, Below.refl _ _⟩
  case round =>
    obtain ⟨k, hk, rfl, hno, hb⟩ := hrel
    have HNO := hideC hno
    have HBr := hideC hb
    clear hno
    by_cases hlt : k < l.length
    · obtain ⟨b, off, hao, hbl, hlie⟩ := (M.HasBy.below (lie := M.LieY) (fun hb hlt h => M.lieY hb hlt h) HH.out hb) (by omega)
      subst hao
      obtain ⟨c0, c1⟩ := hlie k hlt
      have HY : Hid ((M.syAt l k).name = s → LM.symIx l s = some k) := fun e => LM.symIx_at hlt e HNO.out
      have HZ : Hid ((M.syAt l k).name ≠ s → ∀ j, j < k + 1 → (M.syAt l j).name ≠ s) := fun e j hj => by
        by_cases g : j = k
        · subst g; exact e
        · exact HNO.out j (by omega)
      obtain ⟨y, hy⟩ : ∃ y, y = M.syAt l k := ⟨_, rfl⟩
      rw [← hy] at c0 c1 HY HZ
      have HPr := hideC ((hb.cell (p := ⟨P, 0, none⟩) hPl).trans HP.out)
      have HC := hideC (sym1_any y P s wr HPr.out)
      clear hy hlie hb
      by_cases hnm : y.name = s
      · have HX := hideC (HY.out hnm)
        rw [decide_eq_true hnm] at HC
        clear hnm HY HZ
        go_wp2_with (go_at_call 100; refine HC.out.mono ?_; rintro e w1 ⟨rfl, hb⟩; have HB1 := hideC (HBr.out.trans (hb.mono HBr.out.size)); clear hb)
        go_ret
        exact ⟨by rw [HX.out]; rfl, HB1.out⟩
      · have HX := hideC (HZ.out hnm)
        rw [decide_eq_false hnm] at HC
        clear hnm HY HZ
        go_wp2_with (go_at_call 100; refine HC.out.mono ?_; rintro e w1 ⟨rfl, hb⟩; have HB1 := hideC (HBr.out.trans (hb.mono HBr.out.size)); clear hb)
        go_roundw
        case rel => exact ⟨k + 1, by omega, by go_num, HX.out, HB1.out⟩
        case measure => simp [intOf]; omega
    · obtain rfl : k = l.length := by omega
      have HX := hideC (LM.symIx_none HNO.out)
      go_wp2
      go_ret
      exact ⟨by rw [HX.out]; rfl, HBr.out⟩

/-- a number and a flag -/
def optV (t : Option Int) : Value := .tuple #[.int .i64 (t.getD 0), .bool t.isSome]
set_option maxHeartbeats 3000000 in
theorem symbol_any (o : LM.Ob) (s : ByteArray) (w : World) (h : M.HasIm w o.a o.i) (hc : M.chkN o.i = 0) (h0 : 0 ≤ o.base) (h1 : o.base ≤ 100000) :
    Calls Try.prog 88 #[.agg (LM.cellsO o), .string s] w fun e w' => e = .returned (optV (LM.symN o s)) ∧ Below w.heap.size w w' := by
  have hn := (LM.counts_of hc).2.2.2.1
  have HSB := hideC (LM.sym_bounds hc)
  have HSY := hideC h.syms
  have HAD : Hid (∀ at', 0 ≤ at' → at' ≤ 100000 → ∀ V, Calls Try.prog 23 #[.agg (LM.cellsO o), .int .i64 at'] V fun e w' => e = .returned (.int .i64 (LM.addrO o at')) ∧ Below V.heap.size V w') := fun a h2 h3 V => address_any o a V h0 h1 h2 h3
  have HSN : Hid (LM.symN o s = match LM.symIx o.i.syms s with
    | none => none
    | some k => some (LM.addrO o (M.syAt o.i.syms k).pos)) := rfl
  obtain ⟨⟨nm, ns, gs, ys, rs, en⟩, ⟨an, cn, ag, cg, ay, cy, ar, cr⟩, ba⟩ := o
  simp only [LM.cellsO] at HAD
  simp only [LM.cellsO]
  simp only at hn HSN HSY HSB
  clear h hc
  have BX := hideC (B.new w #[.string nm, .slice an ns.length cn, .slice ag gs.length cg, .slice ay ys.length cy, .slice ar rs.length cr, .int .i64 en, .int .i64 ba] 59)
  have HB := hideC ((Below.refl w.heap.size w).alloc (Nat.le_refl _) (.cells #[.string nm, .slice an ns.length cn, .slice ag gs.length cg, .slice ay ys.length cy, .slice ar rs.length cr, .int .i64 en, .int .i64 ba] 59))
  have HB2 := hideC (HB.out.alloc HB.out.size (.cells #[.string s] 9))
  obtain ⟨W, hW⟩ : ∃ W, W = (w.alloc (.cells #[.string nm, .slice an ns.length cn, .slice ag gs.length cg, .slice ay ys.length cy, .slice ar rs.length cr, .int .i64 en, .int .i64 ba] 59)).alloc (.cells #[.string s] 9) := ⟨_, rfl⟩
  have BXW : Hid (W.heap[w.heap.size]? = some (.cells #[.string nm, .slice an ns.length cn, .slice ag gs.length cg, .slice ay ys.length cy, .slice ar rs.length cr, .int .i64 en, .int .i64 ba] 59 (0, 0))) := by
    show _ = _
    rw [hW]
    exact B.alloc BX.out _
  have HPW : Hid (W.cell? ⟨w.heap.size + 1, 0, none⟩ = some (.string s)) := by
    show _ = _
    rw [hW]
    have h := B.new (w.alloc (.cells #[.string nm, .slice an ns.length cn, .slice ag gs.length cg, .slice ay ys.length cy, .slice ar rs.length cr, .int .i64 en, .int .i64 ba] 59)) #[.string s] 9
    rw [show (w.alloc (.cells #[.string nm, .slice an ns.length cn, .slice ag gs.length cg, .slice ay ys.length cy, .slice ar rs.length cr, .int .i64 en, .int .i64 ba] 59)).heap.size = w.heap.size + 1 by simp] at h
    exact B.cell h 0 rfl
  rw [← hW] at HB2
  have HWE := hideC hW
  clear hW HB BX
  have HIX := hideC (indexSy_any ys ay cy (w.heap.size + 1) s W (M.HasBy.below (lie := M.LieY) (fun hb hlt h => M.lieY hb hlt h) HSY.out HB2.out) (by unfold M.Short; omega) HPW.out)
  cases e : LM.symIx ys s with
  | none =>
    rw [e] at HIX HSN
    simp only [ixInt] at HIX HSN
    rw [HSN.out]
    clear e
    go_enter Try.func88, Try.ntmps88
    go_wp2_with (go_at_call 99; rw [← HWE.out]; refine HIX.out.mono ?_; rintro e w1 ⟨rfl, hb⟩; have HB3 := hideC (HB2.out.trans (hb.mono HB2.out.size)); clear hb)
    go_ret2
    exact ⟨rfl, HB3.out⟩
  | some k =>
    have hk := LM.symIx_lt e
    rw [e] at HIX HSN
    simp only [ixInt] at HIX HSN
    rw [HSN.out]
    have hsb := HSB.out k hk
    obtain ⟨by_, off, hay, hbl, hlie⟩ := HSY.out (by omega)
    subst hay
    obtain ⟨-, c1⟩ := hlie k hk
    obtain ⟨q, hq⟩ : ∃ q, q = (M.syAt ys k).pos := ⟨_, rfl⟩
    rw [← hq] at c1 hsb
    rw [← hq]
    have HA2 := hideC (HAD.out q hsb.1 (by omega))
    clear e hq hlie HSB HSN HAD
    go_enter Try.func88, Try.ntmps88
    go_wp2_with (go_at_call 99; rw [← HWE.out]; refine HIX.out.mono ?_; rintro e w1 ⟨rfl, hb⟩; have HB3 := hideC (HB2.out.trans (hb.mono HB2.out.size)); have BX1 := hideC (B.below BXW.out hb (B.isLt BXW.out)); clear hb)
    have hb1 := B.isLt BX1.out
    have hbl1 : by_ < w1.heap.size := Nat.lt_of_lt_of_le hbl HB3.out.size
    have hkin := Q.kin_some w1
    have hkc := @Q.cell_kin w1
    have x0 : ∀ x : Q.Kin w1.heap.size w1, x.world.cell? ⟨w.heap.size, 0, none⟩ = some (.string nm) := fun x => by rw [hkc x _ _ hb1]; exact B.cell BX1.out 0 rfl
    have x1 : ∀ x : Q.Kin w1.heap.size w1, x.world.cell? ⟨w.heap.size, 1, none⟩ = some (.slice an ns.length cn) := fun x => by rw [hkc x _ _ hb1]; exact B.cell BX1.out 1 rfl
    have x2 : ∀ x : Q.Kin w1.heap.size w1, x.world.cell? ⟨w.heap.size, 2, none⟩ = some (.slice ag gs.length cg) := fun x => by rw [hkc x _ _ hb1]; exact B.cell BX1.out 2 rfl
    have x3 : ∀ x : Q.Kin w1.heap.size w1, x.world.cell? ⟨w.heap.size, 3, none⟩ = some (.slice (some ⟨by_, off, none⟩) ys.length cy) := fun x => by rw [hkc x _ _ hb1]; exact B.cell BX1.out 3 rfl
    have x4 : ∀ x : Q.Kin w1.heap.size w1, x.world.cell? ⟨w.heap.size, 4, none⟩ = some (.slice ar rs.length cr) := fun x => by rw [hkc x _ _ hb1]; exact B.cell BX1.out 4 rfl
    have x5 : ∀ x : Q.Kin w1.heap.size w1, x.world.cell? ⟨w.heap.size, 5, none⟩ = some (.int .i64 en) := fun x => by rw [hkc x _ _ hb1]; exact B.cell BX1.out 5 rfl
    have x6 : ∀ x : Q.Kin w1.heap.size w1, x.world.cell? ⟨w.heap.size, 6, none⟩ = some (.int .i64 ba) := fun x => by rw [hkc x _ _ hb1]; exact B.cell BX1.out 6 rfl
    have y1 : ∀ x : Q.Kin w1.heap.size w1, x.world.cell? ⟨by_, off + k * 2 + 1, none⟩ = some (.int .i64 q) := fun x => by rw [hkc x _ _ hbl1, HB3.out.cell (p := ⟨by_, _, none⟩) hbl]; exact c1
    have HA3 : Hid (∀ V, Below w1.heap.size w1 V → Calls Try.prog 23 #[.agg #[.string nm, .slice an ns.length cn, .slice ag gs.length cg, .slice (some ⟨by_, off, none⟩) ys.length cy, .slice ar rs.length cr, .int .i64 en, .int .i64 ba], .int .i64 q] V fun e w' => e = .returned (.int .i64 (LM.addrO ⟨⟨nm, ns, gs, ys, rs, en⟩, ⟨an, cn, ag, cg, some ⟨by_, off, none⟩, cy, ar, cr⟩, ba⟩ q)) ∧ Below V.heap.size V w') := fun V _ => HA2.out V
    clear hkc HA2
    refine Q.region_kin (by kernel_rfl) (by kernel_rfl) ?_
    repeat (first | go_big_quiet_step ((go_at_call 23; exact calls_kin _ HA3.out)) | quiet_step ((go_at_call 23; exact calls_kin _ HA3.out)))
    refine wpQuiet_nil ?_
    intro _ hw'
    obtain ⟨x, hw''⟩ := hw'
    subst hw''
    go_wp2
    go_ret2
    exact ⟨rfl, HB3.out.trans (x.keeps.mono HB3.out.size)⟩

theorem ret_opt {a b : Option Int} (h : a = b) : Ending.returned (optV a) = .returned (optV b) := by rw [h]
/-- what target and its like are handed: objects that may be, in memory -/
structure Oi (l : List LM.Ob) (ao : Option Addr) (w : World) : Prop where
  has : LM.HasO w ao l
  few : l.length ≤ 1000
  chk : ∀ k, k < l.length → M.chkN (LM.obAt l k).i = 0
  fit : ∀ k, k < l.length → M.Fit (LM.obAt l k).i
  base : ∀ k, k < l.length → 1 ≤ (LM.obAt l k).base ∧ (LM.obAt l k).base ≤ 2000
theorem Oi.below {l : List LM.Ob} {ao : Option Addr} {w w' : World} (h : Oi l ao w) (hb : Below w.heap.size w w') : Oi l ao w' := ⟨h.has.below hb, h.few, h.chk, h.fit, h.base⟩
set_option maxHeartbeats 3000000 in
theorem target_any (l : List LM.Ob) (ao : Option Addr) (cap : Nat) (o : LM.Ob) (s : ByteArray) (w : World) (h : Oi l ao w) (h0 : 0 ≤ o.base) (h1 : o.base ≤ 100000) :
    Calls Try.prog 78 #[.agg (LM.cellsO o), .slice ao l.length cap, .string s] w fun e w' => e = .returned (optV (LM.tgtN l o s)) ∧ Below w.heap.size w w' := by
  have HO := hideC h
  have hn := h.few
  clear h
  have HA0 := hideC (fun V => address_any o 0 V h0 h1 (by omega) (by omega))
  have HTN : Hid (LM.tgtN l o s = if s = ⟨#[]⟩ then some (LM.addrO o 0) else LM.tgtTo l s l.length) := rfl
  obtain ⟨a0, ha0⟩ : ∃ a0, a0 = LM.addrO o 0 := ⟨_, rfl⟩
  rw [← ha0] at HA0 HTN
  obtain ⟨R, hR⟩ : ∃ R, R = LM.tgtN l o s := ⟨_, rfl⟩
  rw [← hR] at HTN
  rw [← hR]
  clear hR ha0
  obtain ⟨⟨nm, ns, gs, ys, rs, en⟩, ⟨an, cn, ag, cg, ay, cy, ar, cr⟩, ba⟩ := o
  simp only [LM.cellsO] at HA0
  simp only [LM.cellsO]
  have HB := hideC ((Below.refl w.heap.size w).alloc (Nat.le_refl _) (.cells #[.string nm, .slice an ns.length cn, .slice ag gs.length cg, .slice ay ys.length cy, .slice ar rs.length cr, .int .i64 en, .int .i64 ba] 59))
  by_cases hs : s = ⟨#[]⟩
  · subst hs
    rw [if_pos rfl] at HTN
    go_enter Try.func78, Try.ntmps78
    go_wp2_with (go_at_call 23; refine (HA0.out _).mono ?_; rintro e w1 ⟨rfl, hb⟩; have HB1 := hideC (HB.out.trans (hb.mono HB.out.size)); clear hb)
    go_ret2
    exact ⟨by rw [HTN.out]; rfl, HB1.out⟩
  · rw [if_neg hs] at HTN
    have hs2 : ¬ s.toList = [] := fun e => hs (by
      rw [Lib.toList_data] at e
      cases s
      congr 1
      exact Array.toList_eq_nil_iff.1 e)
    have hs4 : s.toList.isEmpty = false := by simpa using hs2
    clear hs hs2
    go_enter Try.func78, Try.ntmps78
    go_wp2
    go_loopw [18] (fun i wr => ∃ k : Nat, k ≤ l.length ∧ i = .int .i64 k ∧ LM.tgtTo l s k = none ∧ Below w.heap.size w wr) (fun i _ => l.length - (intOf i).toNat)
    case atStart => exact ⟨0, by omega, rfl, rfl, HB.out⟩
    case round =>
      obtain ⟨k, hk, rfl, hz, hb⟩ := hrel
      have HZ := hideC hz
      have HBr := hideC hb
      clear hz
      by_cases hlt : k < l.length
      · have HOr := hideC (HO.out.below hb)
        obtain ⟨b, off, hao, hbl, hlie⟩ := HOr.out.has (by omega)
        subst hao
        obtain ⟨⟨c0, c1, c2, c3, c4, c5, c6⟩, him⟩ := hlie k hlt
        have hbs := HO.out.base k hlt
        have HST : Hid (LM.tgtTo l s (k + 1) = LM.symN (LM.obAt l k) s) := by
          show _ = _
          simp only [LM.tgtTo]
          rw [HZ.out]
        have HST2 : Hid (∀ t, LM.symN (LM.obAt l k) s = some t → R = some t) := fun t g => by
          rw [HTN.out]
          exact LM.tgtTo_some (by rw [HST.out]; exact g) l.length (by omega)
        have HSY : Hid (∀ V, Below wr.heap.size wr V → Calls Try.prog 88 #[.agg (LM.cellsO (LM.obAt l k)), .string s] V fun e w' => e = .returned (optV (LM.symN (LM.obAt l k) s)) ∧ Below V.heap.size V w') := fun V hb => symbol_any (LM.obAt l k) s V (him.below hb) (HO.out.chk k hlt) (by omega) (by omega)
        obtain ⟨q, hq⟩ : ∃ q, q = LM.obAt l k := ⟨_, rfl⟩
        rw [← hq] at c0 c1 c2 c3 c4 c5 c6 HST HST2 HSY
        simp only [LM.cellsO] at HSY
        clear hq hlie hb him hbs
        have HBA := hideC (HBr.out.alloc HBr.out.size (.cells #[.string q.i.name, .slice q.a.an q.i.needs.length q.a.cn, .slice q.a.ag q.i.segs.length q.a.cg, .slice q.a.ay q.i.syms.length q.a.cy, .slice q.a.ar q.i.rels.length q.a.cr, .int .i64 q.i.entry, .int .i64 q.base] 59))
        cases e : LM.symN q s with
        | none =>
          rw [e] at HSY HST
          simp only [optV, Option.getD_none, Option.isSome_none] at HSY
          clear e HST2
          go_wp2_with (go_at_call 88; refine (HSY.out _ ((Below.refl _ _).alloc (Nat.le_refl _) _)).mono ?_; rintro e w1 ⟨rfl, hb⟩; have HBA := hideC (HBA.out.trans (hb.mono HBA.out.size)); clear hb)
          go_roundw
          case rel => exact ⟨k + 1, by omega, by go_num, HST.out, HBA.out⟩
          case measure => simp [intOf]; omega
        | some t =>
          have HRT := hideC (HST2.out t e)
          rw [e] at HSY
          simp only [optV, Option.getD_some, Option.isSome_some] at HSY
          clear e HST2 HST
          go_wp2_with (go_at_call 88; refine (HSY.out _ ((Below.refl _ _).alloc (Nat.le_refl _) _)).mono ?_; rintro e w1 ⟨rfl, hb⟩; have HBA := hideC (HBA.out.trans (hb.mono HBA.out.size)); clear hb)
          go_ret2
          exact ⟨by rw [HRT.out]; rfl, HBA.out⟩
      · obtain rfl : k = l.length := by omega
        clear hb
        go_wp2
        go_ret2
        exact ⟨by rw [HTN.out, HZ.out]; rfl, HBr.out⟩
end Go.Proofs.Yteieplodndfbhaa.LW
/- The reference's find: the image of a name. -/
namespace Go.Proofs.Yteieplodndfbhaa.LW
open Go.RowKit
open Go.Proofs.Yteieplodndfbhaa.W (hideC)
set_option linter.unusedVariables false
set_option maxRecDepth 100000

theorem ixOf_at {all : List LM.Li} {s : ByteArray} {k : Nat} (hk : k < all.length) (e : (LM.liAt all k).i.name = s) (hno : ∀ j, j < k → (LM.liAt all j).i.name ≠ s) : LM.ixOf all s = some k := by
  unfold LM.ixOf
  refine List.findIdx?_eq_some_iff_getElem.2 ⟨hk, ?_, fun j hj => ?_⟩
  · rw [← LM.liAt_get all k hk]; exact decide_eq_true e
  · rw [← LM.liAt_get all j (by omega)]
    simpa using hno j hj
theorem ixOf_no {all : List LM.Li} {s : ByteArray} (hno : ∀ j, j < all.length → (LM.liAt all j).i.name ≠ s) : LM.ixOf all s = none := by
  unfold LM.ixOf
  refine List.findIdx?_eq_none_iff.2 (fun x hx => ?_)
  obtain ⟨j, hj, rfl⟩ := List.mem_iff_getElem.1 hx
  rw [← LM.liAt_get all j hj]
  simpa using hno j hj
set_option maxHeartbeats 1000000 in
theorem find_any (l : List LM.Li) (ao : Option Addr) (cap : Nat) (s : ByteArray) (w : World) (h : LM.HasI w ao l) (hn : M.Short l.length) :
    Calls Try.prog 60 #[.slice ao l.length cap, .string s] w fun e w' => e = .returned (.int .i64 (ixInt (LM.ixOf l s))) ∧ w = w' := by
  have HH := hideC h
  unfold M.Short at hn
  clear h
  have HY : Hid (∀ k, k < l.length → (LM.liAt l k).i.name = s → (∀ j, j < k → (LM.liAt l j).i.name ≠ s) → ixInt (LM.ixOf l s) = (k : Int)) := fun k hk e hno => by rw [ixOf_at hk e hno]; rfl
  have HN : Hid ((∀ j, j < l.length → (LM.liAt l j).i.name ≠ s) → ixInt (LM.ixOf l s) = -1) := fun hno => by rw [ixOf_no hno]; rfl
  obtain ⟨R, hR⟩ : ∃ R, R = ixInt (LM.ixOf l s) := ⟨_, rfl⟩
  rw [← hR] at HY HN ⊢
  clear hR
  go_enter Try.func60, Try.ntmps60
  go_wp2
  go_loop [5] (fun i => ∃ k : Nat, k ≤ l.length ∧ i = .int .i64 k ∧ (∀ j, j < k → (LM.liAt l j).i.name ≠ s)) (fun i => l.length - (intOf i).toNat)
  case atStart => exact ⟨0, by omega, rfl, fun j hj => by omega⟩
  case round =>
    obtain ⟨k, hk, rfl, hno⟩ := hrel
    have HNO := hideC hno
    clear hno
    by_cases hlt : k < l.length
    · obtain ⟨b, off, hao, hbl, hlie⟩ := HH.out (by omega)
      subst hao
      obtain ⟨⟨c0, -, -, -, -, -⟩, -⟩ := hlie k hlt
      have HYk := hideC (HY.out k hlt)
      have HZ : Hid ((LM.liAt l k).i.name ≠ s → ∀ j, j < k + 1 → (LM.liAt l j).i.name ≠ s) := fun e j hj => by
        by_cases g : j = k
        · subst g; exact e
        · exact HNO.out j (by omega)
      obtain ⟨nm, hnm⟩ : ∃ nm, nm = (LM.liAt l k).i.name := ⟨_, rfl⟩
      rw [← hnm] at c0 HYk HZ
      clear hnm hlie HY
      by_cases he : nm = s
      · obtain rfl := HYk.out he HNO.out
        have hq : (nm.toList == s.toList) = true := (str_eq _ _).trans (decide_eq_true he)
        clear HYk HZ
        subst he
        go_wp2
        go_ret
        exact ⟨rfl, rfl⟩
      · have HX := hideC (HZ.out he)
        have hq : (nm.toList == s.toList) = false := (str_eq _ _).trans (decide_eq_false he)
        clear HYk HZ
        go_wp2
        go_round
        case rel => exact ⟨k + 1, by omega, by go_num, HX.out⟩
        case measure => simp [intOf]; omega
    · obtain rfl : k = l.length := by omega
      obtain rfl := HN.out HNO.out
      go_wp2
      go_ret
      exact ⟨rfl, rfl⟩
end Go.Proofs.Yteieplodndfbhaa.LW
/- The reference's address: what a relocation comes to. -/
namespace Go.Proofs.Yteieplodndfbhaa.LW
open Go.RowKit
open Go.Proofs.Yteieplodndfbhaa.W (hideC)
set_option linter.unusedVariables false
set_option maxRecDepth 100000

/-- what address answers -/
def addrV (t : Option Int) (add : Int) : Value := match t with
  | none => .tuple #[.int .i64 0, .bool false]
  | some t => .tuple #[.int .i64 (wrap64 (t + add)), .bool true]
theorem symN_at {o : LM.Ob} {s : ByteArray} {k : Nat} (hk : k < o.i.syms.length) (e : (M.syAt o.i.syms k).name = s) (hno : ∀ j, j < k → (M.syAt o.i.syms j).name ≠ s) : LM.symN o s = some (LM.addrO o (M.syAt o.i.syms k).pos) := by
  unfold LM.symN
  rw [LM.symIx_at hk e hno]
theorem symN_none {o : LM.Ob} {s : ByteArray} (hno : ∀ j, j < o.i.syms.length → (M.syAt o.i.syms j).name ≠ s) : LM.symN o s = none := by
  unfold LM.symN
  rw [LM.symIx_none hno]
theorem tgtTo_next {l : List LM.Ob} {s : ByteArray} {k : Nat} (h : LM.tgtTo l s k = none) : LM.tgtTo l s (k + 1) = LM.symN (LM.obAt l k) s := by
  simp only [LM.tgtTo]
  rw [h]
set_option maxHeartbeats 4000000 in
theorem addressR_any (l : List LM.Ob) (ao : Option Addr) (cap : Nat) (o : LM.Ob) (r : M.Rl) (w : World) (h : Oi l ao w) (h0 : 0 ≤ o.base) (h1 : o.base ≤ 100000) :
    Calls Try.prog 27 #[.slice ao l.length cap, .agg (LM.cellsO o), .agg #[.int .i64 r.pos, .string r.name, .int .i64 r.add]] w fun e w' => e = .returned (addrV (LM.tgtN l o r.name) r.add) ∧ Below w.heap.size w w' := by
  have HO := hideC h
  have hn := h.few
  clear h
  obtain ⟨rp, rn, ra⟩ := r
  simp only
  have HTN : Hid (LM.tgtN l o rn = if rn = ⟨#[]⟩ then some (LM.addrO o 0) else LM.tgtTo l rn l.length) := rfl
  have HB0 := hideC (((Below.refl w.heap.size w).alloc (Nat.le_refl _) (.cells (LM.cellsO o) 71)).alloc (by simp) (.cells #[.int .i64 rp, .string rn, .int .i64 ra] 75))
  have BR := hideC (B.new (w.alloc (.cells (LM.cellsO o) 71)) #[.int .i64 rp, .string rn, .int .i64 ra] 75)
  rw [World.size_alloc] at BR
  have HA0 : Hid (LM.addrO o 0 = o.base * 16) := (by unfold LM.addrO; omega : LM.addrO o 0 = o.base * 16)
  obtain ⟨⟨nm, ns, gs, ys, rs, en⟩, ⟨an, cn, ag, cg, ay, cy, ar, cr⟩, ba⟩ := o
  obtain ⟨T, hT⟩ : ∃ T, T = LM.tgtN l ⟨⟨nm, ns, gs, ys, rs, en⟩, ⟨an, cn, ag, cg, ay, cy, ar, cr⟩, ba⟩ rn := ⟨_, rfl⟩
  rw [← hT] at HTN ⊢
  clear hT
  simp only [LM.cellsO] at HB0 BR ⊢
  simp only at h0 h1 HA0
  rw [HA0.out] at HTN
  by_cases he : rn = ⟨#[]⟩
  · have hq : (rn.toList == (⟨#[]⟩ : ByteArray).toList) = true := (str_eq _ _).trans (decide_eq_true he)
    obtain rfl : T = some (ba * 16) := by rw [HTN.out, if_pos he]
    subst he
    clear HTN HA0
    go_enter Try.func27, Try.ntmps27
    go_wp2
    go_ret2
    exact ⟨rfl, HB0.out⟩
  · have hq : rn.toList.isEmpty = false := by
      cases e : rn.toList with
      | nil => exact (he (by apply ByteArray.ext; have e2 := e; rw [ByteArray.toList_eq] at e2; exact Array.toList_inj.1 (by simpa using e2))).elim
      | cons x r => rfl
    obtain rfl : T = LM.tgtTo l rn l.length := by rw [HTN.out, if_neg he]
    clear HTN HA0 he
    obtain ⟨A, hA⟩ : ∃ A, A = (w.alloc (.cells #[.string nm, .slice an ns.length cn, .slice ag gs.length cg, .slice ay ys.length cy, .slice ar rs.length cr, .int .i64 en, .int .i64 ba] 71)).alloc (.cells #[.int .i64 rp, .string rn, .int .i64 ra] 75) := ⟨_, rfl⟩
    have HAE := hideC hA
    rw [← hA] at HB0 BR
    clear hA
    go_enter Try.func27, Try.ntmps27
    go_wp2
    go_loopw [8] (fun i wr => ∃ k : Nat, k ≤ l.length ∧ i = .int .i64 k ∧ LM.tgtTo l rn k = none ∧ Below A.heap.size A wr) (fun i _ => l.length - (intOf i).toNat)
    case atStart => exact ⟨0, by omega, rfl, rfl, by rw [← HAE.out]; exact Below.refl _ _⟩
    case round =>
      obtain ⟨i, hi, rfl, hnone, hb⟩ := hrel
      have HNI := hideC hnone
      have HBr := hideC hb
      have wo := wr
      clear hnone
      by_cases hlt : i < l.length
      · have hOA := HO.out.below HB0.out
        obtain ⟨b, off, hao, hbl, hlie⟩ := hOA.has (by omega)
        subst hao
        have hbs := hOA.base i hlt
        have HSB := hideC (LM.sym_bounds (hOA.chk i hlt))
        have hcn := (LM.counts_of (hOA.chk i hlt)).2.2.2.1
        have HNX := hideC (tgtTo_next HNI.out)
        have HS1 : Hid (∀ t, LM.tgtTo l rn (i + 1) = some t → LM.tgtTo l rn l.length = some t) := fun t ht => LM.tgtTo_some ht _ (by omega)
        have HSA : Hid (∀ k, k < (LM.obAt l i).i.syms.length → (M.syAt (LM.obAt l i).i.syms k).name = rn → (∀ j, j < k → (M.syAt (LM.obAt l i).i.syms j).name ≠ rn) → LM.symN (LM.obAt l i) rn = some ((LM.obAt l i).base * 16 + (M.syAt (LM.obAt l i).i.syms k).pos)) := fun k h1 h2 h3 => symN_at h1 h2 h3
        have HSZ : Hid ((∀ j, j < (LM.obAt l i).i.syms.length → (M.syAt (LM.obAt l i).i.syms j).name ≠ rn) → LM.symN (LM.obAt l i) rn = none) := fun h => symN_none h
        have HF : Hid (∀ V, Below A.heap.size A V → V.cell? ⟨b, off + i * 7 + 3, none⟩ = some (.slice (LM.obAt l i).a.ay (LM.obAt l i).i.syms.length (LM.obAt l i).a.cy) ∧ V.cell? ⟨b, off + i * 7 + 6, none⟩ = some (.int .i64 (LM.obAt l i).base) ∧ V.cell? ⟨w.heap.size + 1, 1, none⟩ = some (.string rn) ∧ V.cell? ⟨w.heap.size + 1, 2, none⟩ = some (.int .i64 ra) ∧ M.HasBy M.LieY V (LM.obAt l i).a.ay (LM.obAt l i).i.syms) := fun V hV => by
          obtain ⟨⟨-, -, -, c3, -, -, c6⟩, him⟩ := LM.lieO hV hbl hlie i hlt
          exact ⟨c3, c6, B.cell (B.below BR.out hV (B.isLt BR.out)) 1 rfl, B.cell (B.below BR.out hV (B.isLt BR.out)) 2 rfl, him.syms⟩
        obtain ⟨ob, hob⟩ : ∃ ob, ob = LM.obAt l i := ⟨_, rfl⟩
        rw [← hob] at hbs HSB hcn HNX HSA HSZ HF
        clear hob hlie hOA
        obtain ⟨⟨nm2, ns2, gs2, ys2, rs2, en2⟩, ⟨an2, cn2, ag2, cg2, ay2, cy2, ar2, cr2⟩, ba2⟩ := ob
        simp only at hbs HSB hcn HSA HSZ HF
        obtain ⟨SN, hSN⟩ : ∃ SN, SN = LM.symN ⟨⟨nm2, ns2, gs2, ys2, rs2, en2⟩, ⟨an2, cn2, ag2, cg2, ay2, cy2, ar2, cr2⟩, ba2⟩ rn := ⟨_, rfl⟩
        rw [← hSN] at HNX HSA HSZ
        clear hSN hb
        go_wp2
        go_loopw [9] (fun i2 wr => ∃ k : Nat, k ≤ ys2.length ∧ i2 = .int .i64 k ∧ (∀ j, j < k → (M.syAt ys2 j).name ≠ rn) ∧ Below A.heap.size A wr) (fun i2 _ => ys2.length - (intOf i2).toNat)
        case atStart => exact ⟨0, by omega, rfl, fun j hj => by omega, HBr.out⟩
        case round =>
          obtain ⟨k, hk, rfl, hno, hb⟩ := hrel
          have HNO := hideC hno
          have HBk := hideC hb
          obtain ⟨d3, d6, e1, e2, hy⟩ := HF.out _ hb
          clear hno hb
          by_cases hlk : k < ys2.length
          · obtain ⟨yb, yoff, hay, hybl, hyl⟩ := hy (by omega)
            subst hay
            obtain ⟨y0, y1⟩ := hyl k hlk
            have hps := HSB.out k hlk
            have HSk := hideC (HSA.out k hlk)
            have HZk : Hid ((M.syAt ys2 k).name ≠ rn → ∀ j, j < k + 1 → (M.syAt ys2 j).name ≠ rn) := fun e j hj => by
              by_cases g : j = k
              · subst g; exact e
              · exact HNO.out j (by omega)
            obtain ⟨⟨yn, yp⟩, hyy⟩ : ∃ y, y = M.syAt ys2 k := ⟨_, rfl⟩
            rw [← hyy] at y0 y1 hps HSk HZk
            simp only at y0 y1 hps HSk HZk
            clear hyy hyl hy
            have hi1 : (i : Int) < (l.length : Int) := by omega
            have hk1 : (k : Int) < (ys2.length : Int) := by omega
            have hi0 : (0 : Int) ≤ (i : Int) := by omega
            have hk0 : (0 : Int) ≤ (k : Int) := by omega
            have hw1 : IntKind.i64.wrap (ba2 * 16) = ba2 * 16 := IntWalk.i64_in _ (by omega)
            have hw2 : IntKind.i64.wrap (ba2 * 16 + yp) = ba2 * 16 + yp := IntWalk.i64_in _ (by omega)
            by_cases hnm : yn = rn
            · have hqq : (yn.toList == rn.toList) = true := (str_eq _ _).trans (decide_eq_true hnm)
              have HRes := hideC (HS1.out _ (HNX.out.trans (HSk.out hnm HNO.out)))
              clear HSk HZk HSA HSZ hnm
              go_wp2
              go_quiet (fail)
              go_wp2
              go_quiet (fail)
              go_wp2
              go_ret2
              exact ⟨by rw [HRes.out]; rfl, HB0.out.trans ((below_drewN (below_drewN HBk.out _) _).mono HB0.out.size)⟩
            · have hqq : (yn.toList == rn.toList) = false := (str_eq _ _).trans (decide_eq_false hnm)
              have HX := hideC (HZk.out hnm)
              clear HSk HZk HSA HSZ hnm
              go_wp2
              go_quiet (fail)
              go_wp2
              go_roundw
              case rel => exact ⟨k + 1, by omega, by go_num, HX.out, below_drewN HBk.out _⟩
              case measure => simp [intOf]; omega
          · obtain rfl : k = ys2.length := by omega
            have HX := hideC (HNX.out.trans (HSZ.out HNO.out))
            clear HSA HSZ hy
            go_wp2
            go_roundw
            case rel => exact ⟨i + 1, by omega, by go_num, HX.out, HBk.out⟩
            case measure => simp [intOf]; omega
      · obtain rfl : i = l.length := by omega
        go_wp2
        go_ret2
        exact ⟨by rw [HNI.out]; rfl, HB0.out.trans (HBr.out.mono HB0.out.size)⟩
end Go.Proofs.Yteieplodndfbhaa.LW
/- Plain: a relocation's part in a page, as the reference cuts it, is the program's. -/
namespace Go.Proofs.Yteieplodndfbhaa.LM
open Go.RowKit
set_option linter.unusedVariables false
set_option maxRecDepth 100000

/-- the part of a patch that lies in a page, reckoned from the page's begin -/
def cutR (page : Int) (p : Pt) : List Fx := if max (p.pos - page * 16) 0 < min (p.pos - page * 16 + 8) 16 then [⟨max (p.pos - page * 16) 0, p.bytes.extract (max (p.pos - page * 16) 0 - (p.pos - page * 16)).toNat (min (p.pos - page * 16 + 8) 16 - (p.pos - page * 16)).toNat⟩] else []
theorem cutR_eq (page : Int) (p : Pt) : cutR page p = cutP page p := by
  unfold cutR cutP
  have e1 : max (page * 16) p.pos - page * 16 = max (p.pos - page * 16) 0 := by omega
  have e2 : max (page * 16) p.pos - p.pos = max (p.pos - page * 16) 0 - (p.pos - page * 16) := by omega
  by_cases h : max (p.pos - page * 16) 0 < min (p.pos - page * 16 + 8) 16
  · have h2 : max (page * 16) p.pos < min (page * 16 + 16) (p.pos + 8) := by omega
    have e3 : max (page * 16) p.pos - p.pos + (min (page * 16 + 16) (p.pos + 8) - max (page * 16) p.pos) = min (p.pos - page * 16 + 8) 16 - (p.pos - page * 16) := by omega
    rw [if_pos h, if_pos h2, e1, e3, e2]
  · have h2 : ¬ max (page * 16) p.pos < min (page * 16 + 16) (p.pos + 8) := by omega
    rw [if_neg h, if_neg h2]
theorem fixesR_eq (page : Int) (ps : List Pt) : ps.flatMap (cutR page) = fixesN page ps := by
  unfold fixesN
  congr 1
  funext p
  exact cutR_eq page p
end Go.Proofs.Yteieplodndfbhaa.LM
