import Derived.Test.YteieplodndfbhaaGL04
import Derived.Test.YteieplodndfbhaaGL12
import Derived.StillTailTactics
/- The reference's find: the image of a name. -/
namespace Go.Proofs.Yteieplodndfbhaa.LW
open Go.RowKit
open Go.Proofs.Yteieplodndfbhaa.W (hideC)
set_option linter.unusedVariables false
set_option maxRecDepth 100000

theorem ixOf_at {all : List LM.Li} {s : ByteArray} {k : Nat} (hk : k < all.length) (e : (LM.liAt all k).i.name = s) (hno : ∀ j, j < k → (LM.liAt all j).i.name ≠ s) : LM.ixOf all s = some k := by
  unfold LM.ixOf
  refine List.findIdx?_eq_some_iff_getElem.2 ⟨hk, ?_, fun j hj => ?_⟩
  · rw [← LM.liAt_get all k hk]; exact decide_eq_true e
  · rw [← LM.liAt_get all j (by omega)]
    simpa using hno j hj
theorem ixOf_no {all : List LM.Li} {s : ByteArray} (hno : ∀ j, j < all.length → (LM.liAt all j).i.name ≠ s) : LM.ixOf all s = none := by
  unfold LM.ixOf
  refine List.findIdx?_eq_none_iff.2 (fun x hx => ?_)
  obtain ⟨j, hj, rfl⟩ := List.mem_iff_getElem.1 hx
  rw [← LM.liAt_get all j hj]
  simpa using hno j hj
set_option maxHeartbeats 1000000 in
theorem find_any (l : List LM.Li) (ao : Option Addr) (cap : Nat) (s : ByteArray) (w : World) (h : LM.HasI w ao l) (hn : M.Short l.length) :
    Calls Try.prog 60 #[.slice ao l.length cap, .string s] w fun e w' => e = .returned (.int .i64 (ixInt (LM.ixOf l s))) ∧ w = w' := by
  have HH := hideC h
  unfold M.Short at hn
  clear h
  have HY : Hid (∀ k, k < l.length → (LM.liAt l k).i.name = s → (∀ j, j < k → (LM.liAt l j).i.name ≠ s) → ixInt (LM.ixOf l s) = (k : Int)) := fun k hk e hno => by rw [ixOf_at hk e hno]; rfl
  have HN : Hid ((∀ j, j < l.length → (LM.liAt l j).i.name ≠ s) → ixInt (LM.ixOf l s) = -1) := fun hno => by rw [ixOf_no hno]; rfl
  obtain ⟨R, hR⟩ : ∃ R, R = ixInt (LM.ixOf l s) := ⟨_, rfl⟩
  rw [← hR] at HY HN ⊢
  clear hR
  go_enter Try.func60, Try.ntmps60
  go_wp2
  go_loop [5] (fun i => ∃ k : Nat, k ≤ l.length ∧ i = .int .i64 k ∧ (∀ j, j < k → (LM.liAt l j).i.name ≠ s)) (fun i => l.length - (intOf i).toNat)
  case atStart => exact ⟨0, by omega, rfl, fun j hj => by omega⟩
  case round =>
    obtain ⟨k, hk, rfl, hno⟩ := hrel
    have HNO := hideC hno
    clear hno
    by_cases hlt : k < l.length
    · obtain ⟨b, off, hao, hbl, hlie⟩ := HH.out (by omega)
      subst hao
      obtain ⟨⟨c0, -, -, -, -, -⟩, -⟩ := hlie k hlt
      have HYk := hideC (HY.out k hlt)
      have HZ : Hid ((LM.liAt l k).i.name ≠ s → ∀ j, j < k + 1 → (LM.liAt l j).i.name ≠ s) := fun e j hj => by
        by_cases g : j = k
        · subst g; exact e
        · exact HNO.out j (by omega)
      obtain ⟨nm, hnm⟩ : ∃ nm, nm = (LM.liAt l k).i.name := ⟨_, rfl⟩
      rw [← hnm] at c0 HYk HZ
      clear hnm hlie HY
      by_cases he : nm = s
      · obtain rfl := HYk.out he HNO.out
        have hq : (nm.toList == s.toList) = true := (str_eq _ _).trans (decide_eq_true he)
        clear HYk HZ
        subst he
        go_wp2
        go_ret
        exact ⟨rfl, rfl⟩
      · have HX := hideC (HZ.out he)
        have hq : (nm.toList == s.toList) = false := (str_eq _ _).trans (decide_eq_false he)
        clear HYk HZ
        go_wp2
        go_round
        case rel => exact ⟨k + 1, by omega, by go_num, HX.out⟩
        case measure => simp [intOf]; omega
    · obtain rfl : k = l.length := by omega
      obtain rfl := HN.out HNO.out
      go_wp2
      go_ret
      exact ⟨rfl, rfl⟩
end Go.Proofs.Yteieplodndfbhaa.LW
/- The reference's address: what a relocation comes to. -/
namespace Go.Proofs.Yteieplodndfbhaa.LW
open Go.RowKit
open Go.Proofs.Yteieplodndfbhaa.W (hideC)
set_option linter.unusedVariables false
set_option maxRecDepth 100000

/-- what address answers -/
def addrV (t : Option Int) (add : Int) : Value := match t with
  | none => .tuple #[.int .i64 0, .bool false]
  | some t => .tuple #[.int .i64 (wrap64 (t + add)), .bool true]
theorem symN_at {o : LM.Ob} {s : ByteArray} {k : Nat} (hk : k < o.i.syms.length) (e : (M.syAt o.i.syms k).name = s) (hno : ∀ j, j < k → (M.syAt o.i.syms j).name ≠ s) : LM.symN o s = some (LM.addrO o (M.syAt o.i.syms k).pos) := by
  unfold LM.symN
  rw [LM.symIx_at hk e hno]
theorem symN_none {o : LM.Ob} {s : ByteArray} (hno : ∀ j, j < o.i.syms.length → (M.syAt o.i.syms j).name ≠ s) : LM.symN o s = none := by
  unfold LM.symN
  rw [LM.symIx_none hno]
theorem tgtTo_next {l : List LM.Ob} {s : ByteArray} {k : Nat} (h : LM.tgtTo l s k = none) : LM.tgtTo l s (k + 1) = LM.symN (LM.obAt l k) s := by
  simp only [LM.tgtTo]
  rw [h]
set_option maxHeartbeats 4000000 in
theorem addressR_any (l : List LM.Ob) (ao : Option Addr) (cap : Nat) (o : LM.Ob) (r : M.Rl) (w : World) (h : Oi l ao w) (h0 : 0 ≤ o.base) (h1 : o.base ≤ 100000) :
    Calls Try.prog 27 #[.slice ao l.length cap, .agg (LM.cellsO o), .agg #[.int .i64 r.pos, .string r.name, .int .i64 r.add]] w fun e w' => e = .returned (addrV (LM.tgtN l o r.name) r.add) ∧ Below w.heap.size w w' := by
  have HO := hideC h
  have hn := h.few
  clear h
  obtain ⟨rp, rn, ra⟩ := r
  simp only
  have HTN : Hid (LM.tgtN l o rn = if rn = ⟨#[]⟩ then some (LM.addrO o 0) else LM.tgtTo l rn l.length) := rfl
  have HB0 := hideC (((Below.refl w.heap.size w).alloc (Nat.le_refl _) (.cells (LM.cellsO o) 71)).alloc (by simp) (.cells #[.int .i64 rp, .string rn, .int .i64 ra] 75))
  have BR := hideC (B.new (w.alloc (.cells (LM.cellsO o) 71)) #[.int .i64 rp, .string rn, .int .i64 ra] 75)
  rw [World.size_alloc] at BR
  have HA0 : Hid (LM.addrO o 0 = o.base * 16) := (by unfold LM.addrO; omega : LM.addrO o 0 = o.base * 16)
  obtain ⟨⟨nm, ns, gs, ys, rs, en⟩, ⟨an, cn, ag, cg, ay, cy, ar, cr⟩, ba⟩ := o
  obtain ⟨T, hT⟩ : ∃ T, T = LM.tgtN l ⟨⟨nm, ns, gs, ys, rs, en⟩, ⟨an, cn, ag, cg, ay, cy, ar, cr⟩, ba⟩ rn := ⟨_, rfl⟩
  rw [← hT] at HTN ⊢
  clear hT
  simp only [LM.cellsO] at HB0 BR ⊢
  simp only at h0 h1 HA0
  rw [HA0.out] at HTN
  by_cases he : rn = ⟨#[]⟩
  · have hq : (rn.toList == (⟨#[]⟩ : ByteArray).toList) = true := (str_eq _ _).trans (decide_eq_true he)
    obtain rfl : T = some (ba * 16) := by rw [HTN.out, if_pos he]
    subst he
    clear HTN HA0
    go_enter Try.func27, Try.ntmps27
    go_wp2
    go_ret2
    exact ⟨rfl, HB0.out⟩
  · have hq : rn.toList.isEmpty = false := by
      cases e : rn.toList with
      | nil => exact (he (by apply ByteArray.ext; have e2 := e; rw [ByteArray.toList_eq] at e2; exact Array.toList_inj.1 (by simpa using e2))).elim
      | cons x r => rfl
    obtain rfl : T = LM.tgtTo l rn l.length := by rw [HTN.out, if_neg he]
    clear HTN HA0 he
    obtain ⟨A, hA⟩ : ∃ A, A = (w.alloc (.cells #[.string nm, .slice an ns.length cn, .slice ag gs.length cg, .slice ay ys.length cy, .slice ar rs.length cr, .int .i64 en, .int .i64 ba] 71)).alloc (.cells #[.int .i64 rp, .string rn, .int .i64 ra] 75) := ⟨_, rfl⟩
    have HAE := hideC hA
    rw [← hA] at HB0 BR
    clear hA
    go_enter Try.func27, Try.ntmps27
    go_wp2
    go_loopw [8] (fun i wr => ∃ k : Nat, k ≤ l.length ∧ i = .int .i64 k ∧ LM.tgtTo l rn k = none ∧ Below A.heap.size A wr) (fun i _ => l.length - (intOf i).toNat)
    case atStart => exact ⟨0, by omega, rfl, rfl, by rw [← HAE.out]; exact Below.refl _ _⟩
    case round =>
      obtain ⟨i, hi, rfl, hnone, hb⟩ := hrel
      have HNI := hideC hnone
      have HBr := hideC hb
      have wo := wr
      clear hnone
      by_cases hlt : i < l.length
      · have hOA := HO.out.below HB0.out
        obtain ⟨b, off, hao, hbl, hlie⟩ := hOA.has (by omega)
        subst hao
        have hbs := hOA.base i hlt
        have HSB := hideC (LM.sym_bounds (hOA.chk i hlt))
        have hcn := (LM.counts_of (hOA.chk i hlt)).2.2.2.1
        have HNX := hideC (tgtTo_next HNI.out)
        have HS1 : Hid (∀ t, LM.tgtTo l rn (i + 1) = some t → LM.tgtTo l rn l.length = some t) := fun t ht => LM.tgtTo_some ht _ (by omega)
        have HSA : Hid (∀ k, k < (LM.obAt l i).i.syms.length → (M.syAt (LM.obAt l i).i.syms k).name = rn → (∀ j, j < k → (M.syAt (LM.obAt l i).i.syms j).name ≠ rn) → LM.symN (LM.obAt l i) rn = some ((LM.obAt l i).base * 16 + (M.syAt (LM.obAt l i).i.syms k).pos)) := fun k h1 h2 h3 => symN_at h1 h2 h3
        have HSZ : Hid ((∀ j, j < (LM.obAt l i).i.syms.length → (M.syAt (LM.obAt l i).i.syms j).name ≠ rn) → LM.symN (LM.obAt l i) rn = none) := fun h => symN_none h
        have HF : Hid (∀ V, Below A.heap.size A V → V.cell? ⟨b, off + i * 7 + 3, none⟩ = some (.slice (LM.obAt l i).a.ay (LM.obAt l i).i.syms.length (LM.obAt l i).a.cy) ∧ V.cell? ⟨b, off + i * 7 + 6, none⟩ = some (.int .i64 (LM.obAt l i).base) ∧ V.cell? ⟨w.heap.size + 1, 1, none⟩ = some (.string rn) ∧ V.cell? ⟨w.heap.size + 1, 2, none⟩ = some (.int .i64 ra) ∧ M.HasBy M.LieY V (LM.obAt l i).a.ay (LM.obAt l i).i.syms) := fun V hV => by
          obtain ⟨⟨-, -, -, c3, -, -, c6⟩, him⟩ := LM.lieO hV hbl hlie i hlt
          exact ⟨c3, c6, B.cell (B.below BR.out hV (B.isLt BR.out)) 1 rfl, B.cell (B.below BR.out hV (B.isLt BR.out)) 2 rfl, him.syms⟩
        obtain ⟨ob, hob⟩ : ∃ ob, ob = LM.obAt l i := ⟨_, rfl⟩
        rw [← hob] at hbs HSB hcn HNX HSA HSZ HF
        clear hob hlie hOA
        obtain ⟨⟨nm2, ns2, gs2, ys2, rs2, en2⟩, ⟨an2, cn2, ag2, cg2, ay2, cy2, ar2, cr2⟩, ba2⟩ := ob
        simp only at hbs HSB hcn HSA HSZ HF
        obtain ⟨SN, hSN⟩ : ∃ SN, SN = LM.symN ⟨⟨nm2, ns2, gs2, ys2, rs2, en2⟩, ⟨an2, cn2, ag2, cg2, ay2, cy2, ar2, cr2⟩, ba2⟩ rn := ⟨_, rfl⟩
        rw [← hSN] at HNX HSA HSZ
        clear hSN hb
        go_wp2
        go_loopw [9] (fun i2 wr => ∃ k : Nat, k ≤ ys2.length ∧ i2 = .int .i64 k ∧ (∀ j, j < k → (M.syAt ys2 j).name ≠ rn) ∧ Below A.heap.size A wr) (fun i2 _ => ys2.length - (intOf i2).toNat)
        case atStart => exact ⟨0, by omega, rfl, fun j hj => by omega, HBr.out⟩
        case round =>
          obtain ⟨k, hk, rfl, hno, hb⟩ := hrel
          have HNO := hideC hno
          have HBk := hideC hb
          obtain ⟨d3, d6, e1, e2, hy⟩ := HF.out _ hb
          clear hno hb
          by_cases hlk : k < ys2.length
          · obtain ⟨yb, yoff, hay, hybl, hyl⟩ := hy (by omega)
            subst hay
            obtain ⟨y0, y1⟩ := hyl k hlk
            have hps := HSB.out k hlk
            have HSk := hideC (HSA.out k hlk)
            have HZk : Hid ((M.syAt ys2 k).name ≠ rn → ∀ j, j < k + 1 → (M.syAt ys2 j).name ≠ rn) := fun e j hj => by
              by_cases g : j = k
              · subst g; exact e
              · exact HNO.out j (by omega)
            obtain ⟨⟨yn, yp⟩, hyy⟩ : ∃ y, y = M.syAt ys2 k := ⟨_, rfl⟩
            rw [← hyy] at y0 y1 hps HSk HZk
            simp only at y0 y1 hps HSk HZk
            clear hyy hyl hy
            have hi1 : (i : Int) < (l.length : Int) := by omega
            have hk1 : (k : Int) < (ys2.length : Int) := by omega
            have hi0 : (0 : Int) ≤ (i : Int) := by omega
            have hk0 : (0 : Int) ≤ (k : Int) := by omega
            have hw1 : IntKind.i64.wrap (ba2 * 16) = ba2 * 16 := IntWalk.i64_in _ (by omega)
            have hw2 : IntKind.i64.wrap (ba2 * 16 + yp) = ba2 * 16 + yp := IntWalk.i64_in _ (by omega)
            by_cases hnm : yn = rn
            · have hqq : (yn.toList == rn.toList) = true := (str_eq _ _).trans (decide_eq_true hnm)
              have HRes := hideC (HS1.out _ (HNX.out.trans (HSk.out hnm HNO.out)))
              clear HSk HZk HSA HSZ hnm
              go_wp2
              go_quiet (fail)
              go_wp2
              go_quiet (fail)
              go_wp2
              go_ret2
              exact ⟨by rw [HRes.out]; rfl, HB0.out.trans ((below_drewN (below_drewN HBk.out _) _).mono HB0.out.size)⟩
            · have hqq : (yn.toList == rn.toList) = false := (str_eq _ _).trans (decide_eq_false hnm)
              have HX := hideC (HZk.out hnm)
              clear HSk HZk HSA HSZ hnm
              go_wp2
              go_quiet (fail)
              go_wp2
              go_roundw
              case rel => exact ⟨k + 1, by omega, by go_num, HX.out, below_drewN HBk.out _⟩
              case measure => simp [intOf]; omega
          · obtain rfl : k = ys2.length := by omega
            have HX := hideC (HNX.out.trans (HSZ.out HNO.out))
            clear HSA HSZ hy
            go_wp2
            go_roundw
            case rel => exact ⟨i + 1, by omega, by go_num, HX.out, HBk.out⟩
            case measure => simp [intOf]; omega
      · obtain rfl : i = l.length := by omega
        go_wp2
        go_ret2
        exact ⟨by rw [HNI.out]; rfl, HB0.out.trans (HBr.out.mono HB0.out.size)⟩
end Go.Proofs.Yteieplodndfbhaa.LW
/- Plain: a relocation's part in a page, as the reference cuts it, is the program's. -/
namespace Go.Proofs.Yteieplodndfbhaa.LM
open Go.RowKit
set_option linter.unusedVariables false
set_option maxRecDepth 100000

/-- the part of a patch that lies in a page, reckoned from the page's begin -/
def cutR (page : Int) (p : Pt) : List Fx := if max (p.pos - page * 16) 0 < min (p.pos - page * 16 + 8) 16 then [⟨max (p.pos - page * 16) 0, p.bytes.extract (max (p.pos - page * 16) 0 - (p.pos - page * 16)).toNat (min (p.pos - page * 16 + 8) 16 - (p.pos - page * 16)).toNat⟩] else []
theorem cutR_eq (page : Int) (p : Pt) : cutR page p = cutP page p := by
  unfold cutR cutP
  have e1 : max (page * 16) p.pos - page * 16 = max (p.pos - page * 16) 0 := by omega
  have e2 : max (page * 16) p.pos - p.pos = max (p.pos - page * 16) 0 - (p.pos - page * 16) := by omega
  by_cases h : max (p.pos - page * 16) 0 < min (p.pos - page * 16 + 8) 16
  · have h2 : max (page * 16) p.pos < min (page * 16 + 16) (p.pos + 8) := by omega
    have e3 : max (page * 16) p.pos - p.pos + (min (page * 16 + 16) (p.pos + 8) - max (page * 16) p.pos) = min (p.pos - page * 16 + 8) 16 - (p.pos - page * 16) := by omega
    rw [if_pos h, if_pos h2, e1, e3, e2]
  · have h2 : ¬ max (page * 16) p.pos < min (page * 16 + 16) (p.pos + 8) := by omega
    rw [if_neg h, if_neg h2]
theorem fixesR_eq (page : Int) (ps : List Pt) : ps.flatMap (cutR page) = fixesN page ps := by
  unfold fixesN
  congr 1
  funext p
  exact cutR_eq page p
end Go.Proofs.Yteieplodndfbhaa.LM
/- The reference's fixesOf: the parts of an object's relocations that lie in a page. -/
namespace Go.Proofs.Yteieplodndfbhaa.LW
open Go.RowKit
open Go.Proofs.Yteieplodndfbhaa.W (hideC)
set_option linter.unusedVariables false
set_option maxRecDepth 100000

theorem row_lower {w : World} {base base' : Nat} {e : TypeId} {size : Nat} {v : Value} {n : Nat} {xs : List Value} (h : w.ownsRow base e size v n xs) (hb : base' ≤ base) : w.ownsRow base' e size v n xs := by
  refine ⟨h.1, ?_⟩
  rcases h.2 with h2 | ⟨g, cap, cur, hv, hbg, hg, rest⟩
  · exact .inl h2
  · exact .inr ⟨g, cap, cur, hv, Nat.le_trans hb hbg, hg, rest⟩
theorem calls_below {P : Program} {f : FuncId} {args : Array Value} {v : Value} {w : World} (h : ∀ W, Below w.heap.size w W → Calls P f args W fun e w' => e = .returned v ∧ Below W.heap.size W w') (x : Q.Kin w.heap.size w) :
    Calls P f args x.world fun e w'' => e = .returned v ∧ ∃ y : Q.Kin w.heap.size w, w'' = y.world :=
  (h x.world x.keeps).mono fun e w'' ⟨he, hb⟩ => ⟨he, ⟨w'', x.keeps.trans (hb.mono x.keeps.size)⟩, rfl⟩
theorem pat_step {l : List LM.Ob} {o : LM.Ob} {PS : List LM.Pt} (h : LM.patN l o = some PS) {k : Nat} (hk : k < o.i.rels.length) {ps : List LM.Pt} (hp : LM.patTo l o k = some ps) : ∃ t, LM.tgtN l o (M.rlAt o.i.rels k).name = some t ∧ LM.patTo l o (k + 1) = some (ps ++ [LM.ptOf o (M.rlAt o.i.rels k) t]) := by
  cases e : LM.tgtN l o (M.rlAt o.i.rels k).name with
  | none =>
    have h1 : LM.patTo l o (k + 1) = none := by simp only [LM.patTo]; rw [hp]; simp only; rw [e]
    have h2 := LM.patTo_none h1 o.i.rels.length (by omega)
    unfold LM.patN at h
    rw [h2] at h
    cases h
  | some t => exact ⟨t, rfl, by simp only [LM.patTo]; rw [hp]; simp only; rw [e]⟩
set_option maxHeartbeats 6000000 in
theorem fixesR_any (l : List LM.Ob) (ao : Option Addr) (cap : Nat) (o : LM.Ob) (page : Int) (PS : List LM.Pt) (w : World) (h : Oi l ao w) (him : M.HasIm w o.a o.i) (hc : M.chkN o.i = 0) (h0 : 0 ≤ o.base) (h1 : o.base ≤ 2000) (p0 : 0 ≤ page) (p1 : page ≤ 3000) (hps : LM.patN l o = some PS) :
    Calls Try.prog 29 #[.slice ao l.length cap, .agg (LM.cellsO o), .int .i64 page] w fun e w' => (∃ v, e = .returned v ∧ w'.ownsRow w.heap.size 89 2 v (LM.fixesN page PS).length ((LM.fixesN page PS).flatMap LM.cellF)) ∧ Below w.heap.size w w' := by
  obtain ⟨i0, hi, hz0, hz1, hz2⟩ := info_parts infoFx
  have HO := hideC h
  have HR := hideC him.rels
  have HRB := hideC (LM.rel_bounds hc)
  have hcn := (LM.counts_of hc).2.2.2.2
  have HAD : Hid (∀ k V, Below w.heap.size w V → Calls Try.prog 27 #[.slice ao l.length cap, .agg (LM.cellsO o), .agg #[.int .i64 (M.rlAt o.i.rels k).pos, .string (M.rlAt o.i.rels k).name, .int .i64 (M.rlAt o.i.rels k).add]] V fun e w' => e = .returned (addrV (LM.tgtN l o (M.rlAt o.i.rels k).name) (M.rlAt o.i.rels k).add) ∧ Below V.heap.size V w') := fun k V hV => addressR_any l ao cap o (M.rlAt o.i.rels k) V (HO.out.below hV) h0 (by omega)
  have HST : Hid (∀ k, k < o.i.rels.length → ∀ ps, LM.patTo l o k = some ps → ∃ t, LM.tgtN l o (M.rlAt o.i.rels k).name = some t ∧ LM.patTo l o (k + 1) = some (ps ++ [LM.ptOf o (M.rlAt o.i.rels k) t])) := fun k hk ps hp => pat_step hps hk hp
  have HPN : Hid (LM.patTo l o o.i.rels.length = some PS) := hps
  have HPO : Hid (∀ k t, LM.ptOf o (M.rlAt o.i.rels k) t = ⟨o.base * 16 + (M.rlAt o.i.rels k).pos, ⟨(Lib.leBytes 8 (CM.low (t + (M.rlAt o.i.rels k).add))).toArray⟩⟩) := fun k t => rfl
  have HPL : Hid (∀ k ps, LM.patTo l o k = some ps → ps.length = k) := fun k ps h => LM.patTo_len h
  clear h him hc hps
  obtain ⟨PT, hPT⟩ : ∃ PT, PT = LM.patTo l o := ⟨_, rfl⟩
  obtain ⟨TG, hTG⟩ : ∃ TG, TG = LM.tgtN l o := ⟨_, rfl⟩
  have HP0 : Hid (PT 0 = some []) := hideC (by rw [hPT]; rfl)
  rw [← hTG] at HAD
  rw [← hPT, ← hTG] at HST
  rw [← hPT] at HPN HPL
  obtain ⟨PO, hPO⟩ : ∃ PO, PO = LM.ptOf o := ⟨_, rfl⟩
  rw [← hPO] at HST HPO
  clear hPT hTG hPO
  obtain ⟨⟨nm, ns, gs, ys, rs, en⟩, ⟨an, cn, ag, cg, ay, cy, ar, cr⟩, ba⟩ := o
  simp only [LM.cellsO] at HAD ⊢
  simp only at HR HRB hcn h0 h1 HST HPN HPO HAD
  have HB0 := hideC ((Below.refl w.heap.size w).alloc (Nat.le_refl _) (.cells #[.string nm, .slice an ns.length cn, .slice ag gs.length cg, .slice ay ys.length cy, .slice ar rs.length cr, .int .i64 en, .int .i64 ba] 71))
  have BX := hideC (B.new w #[.string nm, .slice an ns.length cn, .slice ag gs.length cg, .slice ay ys.length cy, .slice ar rs.length cr, .int .i64 en, .int .i64 ba] 71)
  go_enter Try.func29, Try.ntmps29
  go_wp2
  go_loopw [8, 7] (fun i v wr => ∃ (k : Nat) (ps : List LM.Pt), k ≤ rs.length ∧ i = .int .i64 k ∧ PT k = some ps ∧ wr.ownsRow (w.heap.size + 1) 89 2 v (LM.fixesN page ps).length ((LM.fixesN page ps).flatMap LM.cellF) ∧ Below w.heap.size w wr ∧ wr.heap[w.heap.size]? = some (.cells #[.string nm, .slice an ns.length cn, .slice ag gs.length cg, .slice ay ys.length cy, .slice ar rs.length cr, .int .i64 en, .int .i64 ba] 71 (0, 0))) (fun i _ _ => rs.length - (intOf i).toNat)
  case atStart => exact ⟨0, [], by omega, rfl, HP0.out, World.ownsRow_nil _ _ _ _, HB0.out, BX.out⟩
  case round =>
    obtain ⟨k, ps, hk, rfl, hpt, hown, hb, hbx⟩ := hrel
    have HOW := hideC hown
    have HBr := hideC hb
    have HBX := hideC hbx
    have hsz := hb.size
    have hlb := B.isLt hbx
    have q4 := B.cell hbx 4 rfl
    by_cases hlt : k < rs.length
    · obtain ⟨t, htg, hpn⟩ := HST.out k hlt ps hpt
      have hpl := HPL.out k ps hpt
      obtain ⟨rb, ro, har, hrb, hlr⟩ := HR.out (by omega)
      subst har
      have HCell : Hid (∀ V, Below wr.heap.size wr V → (V.cell? ⟨rb, ro + k * 3, none⟩ = some (.int .i64 (M.rlAt rs k).pos) ∧ V.cell? ⟨rb, ro + k * 3 + 1, none⟩ = some (.string (M.rlAt rs k).name) ∧ V.cell? ⟨rb, ro + k * 3 + 2, none⟩ = some (.int .i64 (M.rlAt rs k).add)) ∧ V.heap[w.heap.size]? = some (.cells #[.string nm, .slice an ns.length cn, .slice ag gs.length cg, .slice ay ys.length cy, .slice (some ⟨rb, ro, none⟩) rs.length cr, .int .i64 en, .int .i64 ba] 71 (0, 0))) := fun V hV => by
        refine ⟨?_, B.below HBX.out hV (B.isLt HBX.out)⟩
        exact M.lieR (HBr.out.trans (hV.mono HBr.out.size)) hrb hlr k hlt
      have HADk : Hid (∀ V, Below wr.heap.size wr V → Calls Try.prog 27 #[.slice ao l.length cap, .agg #[.string nm, .slice an ns.length cn, .slice ag gs.length cg, .slice ay ys.length cy, .slice (some ⟨rb, ro, none⟩) rs.length cr, .int .i64 en, .int .i64 ba], .agg #[.int .i64 (M.rlAt rs k).pos, .string (M.rlAt rs k).name, .int .i64 (M.rlAt rs k).add]] V fun e w' => e = .returned (.tuple #[.int .i64 (wrap64 (t + (M.rlAt rs k).add)), .bool true]) ∧ Below V.heap.size V w') := fun V hV => by
        have hh := HAD.out k V (HBr.out.trans (hV.mono HBr.out.size))
        rw [htg] at hh
        exact hh
      have hpb := HRB.out k hlt
      have HPOk := hideC (HPO.out k t)
      have HPN1 := hideC hpn
      obtain ⟨⟨rp, rn, ra⟩, hrr⟩ : ∃ r, r = M.rlAt rs k := ⟨_, rfl⟩
      rw [← hrr] at HCell HADk hpb HPOk HPN1
      simp only at HCell HADk hpb HPOk
      rw [HPOk.out] at HPN1
      clear hrr hpn htg HPOk hlr hb hown hbx hpt HAD
      obtain ⟨N, hN⟩ : ∃ N, N = wrap64 (t + ra) := ⟨_, rfl⟩
      have HBy : Hid (∀ V, Calls Try.prog 48 #[.int .i64 N, .int .i64 8] V fun e w' => e = .returned (.string ⟨(Lib.leBytes 8 (CM.low (t + ra))).toArray⟩) ∧ Below V.heap.size V w') := fun V => by
        have hh := CW.bytes_any N 8 V (by omega)
        rw [hN, LM.low_wrap, ← hN] at hh
        exact hh
      rw [← hN] at HADk
      obtain ⟨BB, hBB⟩ : ∃ BB : ByteArray, BB = ⟨(Lib.leBytes 8 (CM.low (t + ra))).toArray⟩ := ⟨_, rfl⟩
      have hBs : BB.size = 8 := by rw [hBB, Lib.size_eq]; simp [Lib.leBytes_length]
      rw [← hBB] at HBy HPN1
      clear hBB hN
      have hkin := Q.kin_some wr
      have hbl2 : rb < wr.heap.size := Nat.lt_of_lt_of_le hrb hsz
      have HU : Hid (∀ x : Q.Kin wr.heap.size wr, x.world.heap[w.heap.size]? = some (.cells #[.string nm, .slice an ns.length cn, .slice ag gs.length cg, .slice ay ys.length cy, .slice (some ⟨rb, ro, none⟩) rs.length cr, .int .i64 en, .int .i64 ba] 71 (0, 0))) := fun x => (HCell.out _ x.keeps).2
      have a0 : ∀ x : Q.Kin wr.heap.size wr, x.world.cell? ⟨w.heap.size, 0, none⟩ = some (.string nm) := fun x => B.cell (HU.out x) 0 rfl
      have a1 : ∀ x : Q.Kin wr.heap.size wr, x.world.cell? ⟨w.heap.size, 1, none⟩ = some (.slice an ns.length cn) := fun x => B.cell (HU.out x) 1 rfl
      have a2 : ∀ x : Q.Kin wr.heap.size wr, x.world.cell? ⟨w.heap.size, 2, none⟩ = some (.slice ag gs.length cg) := fun x => B.cell (HU.out x) 2 rfl
      have a3 : ∀ x : Q.Kin wr.heap.size wr, x.world.cell? ⟨w.heap.size, 3, none⟩ = some (.slice ay ys.length cy) := fun x => B.cell (HU.out x) 3 rfl
      have a4 : ∀ x : Q.Kin wr.heap.size wr, x.world.cell? ⟨w.heap.size, 4, none⟩ = some (.slice (some ⟨rb, ro, none⟩) rs.length cr) := fun x => B.cell (HU.out x) 4 rfl
      have a5 : ∀ x : Q.Kin wr.heap.size wr, x.world.cell? ⟨w.heap.size, 5, none⟩ = some (.int .i64 en) := fun x => B.cell (HU.out x) 5 rfl
      have a6 : ∀ x : Q.Kin wr.heap.size wr, x.world.cell? ⟨w.heap.size, 6, none⟩ = some (.int .i64 ba) := fun x => B.cell (HU.out x) 6 rfl
      have r0 : ∀ x : Q.Kin wr.heap.size wr, x.world.cell? ⟨rb, ro + k * 3, none⟩ = some (.int .i64 rp) := fun x => (HCell.out _ x.keeps).1.1
      have r1 : ∀ x : Q.Kin wr.heap.size wr, x.world.cell? ⟨rb, ro + k * 3 + 1, none⟩ = some (.string rn) := fun x => (HCell.out _ x.keeps).1.2.1
      have r2 : ∀ x : Q.Kin wr.heap.size wr, x.world.cell? ⟨rb, ro + k * 3 + 2, none⟩ = some (.int .i64 ra) := fun x => (HCell.out _ x.keeps).1.2.2
      have hk1 : (k : Int) < (rs.length : Int) := by omega
      have hk0 : (0 : Int) ≤ (k : Int) := by omega
      go_wp2_with fail
      refine Q.region_kin (by kernel_rfl) (by kernel_rfl) ?_
      repeat (first | go_big_quiet_step ((go_at_call 27; with_reducible exact calls_below HADk.out _)) | quiet_step ((go_at_call 27; with_reducible exact calls_below HADk.out _)))
      refine wpQuiet_nil ?_
      intro _ hw'
      obtain ⟨x, hw''⟩ := hw'
      subst hw''
      have HKX := hideC x.keeps
      clear a0 a1 a2 a3 a4 a5 a6 r0 r1 r2 HADk hkin HU
      obtain ⟨w0, hw0⟩ : ∃ w0, w0 = x.world := ⟨_, rfl⟩
      rw [← hw0] at HKX ⊢
      clear hw0 x
      go_wp2_with fail
      refine (HBy.out _).mono ?_
      rintro e w1 ⟨rfl, hb1⟩
      have HK1 := hideC (HKX.out.trans (hb1.mono HKX.out.size))
      obtain ⟨⟨c0, -, -⟩, hbox⟩ := HCell.out _ HK1.out
      have z4 : w1.cell? ⟨w.heap.size, 4, none⟩ = some (.slice (some ⟨rb, ro, none⟩) rs.length cr) := B.cell hbox 4 rfl
      have z6 : w1.cell? ⟨w.heap.size, 6, none⟩ = some (.int .i64 ba) := B.cell hbox 6 rfl
      have HOW1 := hideC (row_grown HOW.out HK1.out)
      have HB1 := hideC (HBr.out.trans (HK1.out.mono HBr.out.size))
      have HBX1 := hideC hbox
      clear hb1 hbox HCell HKX HBy q4
      have hw1 : IntKind.i64.wrap (ba * 16) = ba * 16 := IntWalk.i64_in _ (by omega)
      have hw2 : IntKind.i64.wrap (ba * 16 + rp) = ba * 16 + rp := IntWalk.i64_in _ (by omega)
      have hw3 : IntKind.i64.wrap (page * 16) = page * 16 := IntWalk.i64_in _ (by omega)
      have hw4 : IntKind.i64.wrap (ba * 16 + rp - page * 16) = ba * 16 + rp - page * 16 := IntWalk.i64_in _ (by omega)
      go_wp2_with fail
      go_quiet (fail)
      have HBQ := hideC (below_drewN (Below.refl w1.heap.size w1) nq)
      obtain ⟨w2, hw2e⟩ : ∃ w2, w2 = w1.drewN nq := ⟨_, rfl⟩
      rw [← hw2e] at HBQ ⊢
      have HOW2 := hideC (row_grown HOW1.out HBQ.out)
      have HB2 := hideC (HB1.out.trans (HBQ.out.mono HB1.out.size))
      have HBX2 := hideC (B.below HBX1.out HBQ.out (B.isLt HBX1.out))
      have hs2 := HB2.out.size
      have hlx2 := B.isLt HBX2.out
      clear hw2e HOW1 HB1 HBX1 HBQ z4 z6 c0 HK1 HOW hw1 hw2 hw3
      obtain ⟨F, hF⟩ : ∃ F, F = ba * 16 + rp - page * 16 := ⟨_, rfl⟩
      have hFb : -100000 ≤ F ∧ F ≤ 100000 := by omega
      obtain ⟨A, hA⟩ : ∃ A, A = max F 0 := ⟨_, rfl⟩
      obtain ⟨E, hE⟩ : ∃ E, E = min (F + 8) 16 := ⟨_, rfl⟩
      have hAb : 0 ≤ A ∧ F ≤ A ∧ A ≤ 100000 := by omega
      have hEb : E ≤ 16 ∧ E ≤ F + 8 ∧ -100000 ≤ E := by omega
      have HT : Hid (LM.fixesN page (ps ++ [⟨ba * 16 + rp, BB⟩]) = LM.fixesN page ps ++ (if A < E then [⟨A, BB.extract (A - F).toNat (E - F).toNat⟩] else [])) := hideC (by
        rw [LM.fixesN_snoc, ← LM.cutR_eq]
        unfold LM.cutR
        simp only
        rw [← hF, ← hA, ← hE])
      have hlen := LM.fixes_len page ps
      have hA' : max F 0 = A := hA.symm
      have hE' : min (F + 8) 16 = E := hE.symm
      rw [← hF]
      clear hF hA hE hw4
      obtain ⟨G, hG⟩ : ∃ G, G = LM.fixesN page ps := ⟨_, rfl⟩
      rw [← hG] at HOW2 HT hlen
      clear hG
      by_cases hAE : A < E
      · rw [if_pos hAE] at HT
        obtain ⟨u, hu⟩ : ∃ u : Nat, A - F = (u : Int) := ⟨(A - F).toNat, by omega⟩
        obtain ⟨n, hn⟩ : ∃ n : Nat, E - F = (n : Int) := ⟨(E - F).toNat, by omega⟩
        have hu2 : (A - F).toNat = u := by omega
        have hn2 : (E - F).toNat = n := by omega
        have hun : u ≤ n ∧ n ≤ 8 := by omega
        rw [hu2, hn2] at HT
        clear hu2 hn2
        have hun1 : (u : Int) ≤ (n : Int) := by omega
        have hn8 : (n : Int) ≤ 8 := by omega
        have hrow1 := (HOW2.out.alloc (.cells #[.int .i64 A, .string (BB.extract u n)] 89)).lt
        have HOWA := hideC (HOW2.out.alloc (.cells #[.int .i64 A, .string (BB.extract u n)] 89))
        have HN1 := hideC (B.new w2 #[.int .i64 A, .string (BB.extract u n)] 89)
        have HBA := hideC (HB2.out.alloc HB2.out.size (.cells #[.int .i64 A, .string (BB.extract u n)] 89))
        have HBXA := hideC (B.alloc HBX2.out (.cells #[.int .i64 A, .string (BB.extract u n)] 89))
        go_wp2_with (at_builtin; refine wpList_append_lies _ rfl _ _ 41 rfl (w.heap.size + 1) 89 i0 (.agg #[.int .i64 0, .string ⟨#[]⟩]) 2 24 Try.underlying41 hi hz0 hz1 hz2 rfl (by decide) _ _ _ rfl HOWA.out ⟨w2.heap.size, 0, none⟩ 1 1 [.int .i64 A, .string (BB.extract u n)] rfl rfl (B.news HN1.out) (by intro u hu; simp at hu; rcases hu with rfl | rfl <;> rfl) (by decide) (by unfold maxLen; omega) (by omega) (by simp; omega) (w2.heap.size + 1) (by simp) ?_; intro gg capg w3 hown2 hgrow hatt hlt2; have HOW3 := hideC hown2; have HB3 := hideC (HBA.out.grown hgrow (by simp; omega) (fun q hq => Nat.le_trans (Nat.le_succ _) (hrow1 _ hq).1)); have HBX3 := hideC (B.grown HBXA.out hgrow (fun e => by have h9 := (hrow1 _ e.symm).1; omega)); clear hown2 hgrow hatt)
        go_roundw
        case rel => exact ⟨k + 1, _, by omega, by go_num, HPN1.out, by rw [HT.out, List.length_append, List.flatMap_append]; exact HOW3.out, HB3.out, HBX3.out⟩
        case measure => simp [intOf]; omega
      · rw [if_neg hAE, List.append_nil] at HT
        have hAE' : E ≤ A := by omega
        go_wp2
        go_roundw
        case rel => exact ⟨k + 1, _, by omega, by go_num, HPN1.out, by rw [HT.out]; exact HOW2.out, HB2.out, HBX2.out⟩
        case measure => simp [intOf]; omega
    · obtain rfl : k = rs.length := by omega
      have e : ps = PS := Option.some.inj (hpt.symm.trans HPN.out)
      subst e
      clear hown hb hbx
      go_wp2
      go_ret
      exact ⟨⟨_, rfl, row_lower HOW.out (Nat.le_succ _)⟩, HBr.out⟩
end Go.Proofs.Yteieplodndfbhaa.LW
