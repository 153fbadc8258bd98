import Derived.Test.YtbgnagognnklbaaG13
import Derived.Test.YtbgnagognnklbaaG18
import Derived.Test.YtbgnagognnklbaaG19
/- The linker: images by their names. -/
namespace Go.Proofs.Ytbgnagognnklbaa.LW
open Go.RowKit Go.WideMaps Go.Maps
open Go.Proofs.Ytbgnagognnklbaa.W (hideC)
set_option linter.unusedVariables false
set_option maxRecDepth 100000

theorem zeroImg (w : World) : (zeroValue 27).run Try.prog w = .ok LM.zImg w := by kernel_rfl
/-- how byName ends -/
def OutB (l : List LM.Li) (w : World) (e : Ending) (w' : World) : Prop := Below w.heap.size w w' ∧
  if LM.byErr l = 0 then ∃ m D, e = .returned (.tuple #[.map (some m), .int .i64 0]) ∧ w'.ownsMap Try.prog 9 LM.Rv m l.length D ∧ LM.Nm l l.length D
  else e = .returned (.tuple #[.map none, .int .i64 (LM.byErr l)])

set_option maxHeartbeats 3000000 in
theorem byName_any (l : List LM.Li) (ao : Option Addr) (cap : Nat) (w : World) (h : LM.HasI w ao l) (hf : LM.FitI l) : Calls Try.prog 18 #[.slice ao l.length cap] w (OutB l w) := by
  have HH := hideC h
  have HF := hideC hf
  have hn : l.length ≤ 140737488351232 := hf.1
  clear h hf
  have hmm := @run_makeMap Try.prog
  go_enter Try.func18, Try.ntmps18
  go_wp2
  go_loopw [12] (fun i wr => ∃ k : Nat, k ≤ l.length ∧ i = .int .i64 k ∧ LM.errTo l k = 0 ∧ Below w.heap.size w wr) (fun i _ => l.length - (intOf i).toNat)
  case atStart => exact ⟨0, by omega, rfl, rfl, Below.refl _ _⟩
  case round =>
    obtain ⟨k, hk, rfl, hz, hb⟩ := hrel
    have HZ := hideC hz
    have HBr := hideC hb
    clear hz
    by_cases hlt : k < l.length
    · obtain ⟨b, off, hao, hbl, hlie⟩ := (HH.out.below hb) (by omega)
      subst hao
      obtain ⟨⟨c0, c1, c2, c3, c4, c5⟩, hi⟩ := hlie k hlt
      have hfk := HF.out.2 k hlt
      have HE : Hid (LM.errTo l (k + 1) = M.chkN (LM.liAt l k).i) := by
        show _ = _
        simp only [LM.errTo]
        rw [if_pos HZ.out]
      have HBY : Hid (M.chkN (LM.liAt l k).i ≠ 0 → LM.byErr l = M.chkN (LM.liAt l k).i) := fun g => by
        have e1 : LM.errTo l (k + 1) ≠ 0 := by rw [HE.out]; exact g
        have e2 := LM.errTo_stays l (k + 1) e1 l.length (by omega)
        unfold LM.byErr
        rw [e2, if_neg e1, HE.out]
      obtain ⟨x, hx⟩ : ∃ x, x = LM.liAt l k := ⟨_, rfl⟩
      rw [← hx] at c0 c1 c2 c3 c4 c5 hi hfk HE HBY
      clear hx hlie hb
      obtain ⟨⟨nm, ns, gs, ys, rs, en⟩, ⟨an, cn, ag, cg, ay, cy, ar, cr⟩⟩ := x
      simp only at c0 c1 c2 c3 c4 c5
      have HBA := hideC (HBr.out.alloc HBr.out.size (.cells #[.string nm, .slice an ns.length cn, .slice ag gs.length cg, .slice ay ys.length cy, .slice ar rs.length cr, .int .i64 en] 27))
      have HC : Hid (∀ W, Below wr.heap.size wr W → Calls Try.prog 50 #[.agg #[.string nm, .slice an ns.length cn, .slice ag gs.length cg, .slice ay ys.length cy, .slice ar rs.length cr, .int .i64 en]] W fun e w' => e = .returned (.int .i64 (M.chkN ⟨nm, ns, gs, ys, rs, en⟩)) ∧ Below W.heap.size W w') := fun V hb => W.check_any ⟨nm, ns, gs, ys, rs, en⟩ ⟨an, cn, ag, cg, ay, cy, ar, cr⟩ V (hi.below hb) hfk
      clear hi hfk
      obtain ⟨c, hc⟩ : ∃ c, c = M.chkN ⟨nm, ns, gs, ys, rs, en⟩ := ⟨_, rfl⟩
      simp only at HE HBY
      rw [← hc] at HC HE HBY
      clear hc
      by_cases hcz : c = 0
      · subst hcz
        clear HBY
        go_wp2_with (go_at_call 50; refine (HC.out _ ((Below.refl _ _).alloc (Nat.le_refl _) _)).mono ?_; rintro e w1 ⟨rfl, hb⟩; have HBA := hideC (HBA.out.trans (hb.mono HBA.out.size)); clear hb)
        go_roundw
        case rel => exact ⟨k + 1, by omega, by go_num, HE.out, HBA.out⟩
        case measure => simp [intOf]; omega
      · have HBE := hideC (HBY.out hcz)
        have hcz' : (c == 0) = false := by simpa using hcz
        clear HBY HE
        go_wp2_with (go_at_call 50; refine (HC.out _ ((Below.refl _ _).alloc (Nat.le_refl _) _)).mono ?_; rintro e w1 ⟨rfl, hb⟩; have HBA := hideC (HBA.out.trans (hb.mono HBA.out.size)); clear hb)
        go_ret2
        refine ⟨HBA.out, ?_⟩
        rw [HBE.out, if_neg hcz]
        rfl
    · obtain rfl : k = l.length := by omega
      clear hb
      obtain ⟨m, hm⟩ : ∃ m, m = wr.heap.size := ⟨_, rfl⟩
      have hsm : w.heap.size ≤ m := by rw [hm]; exact HBr.out.size
      have HM0 : Hid ((wr.alloc (.map #[] 0)).ownsMap Try.prog 9 LM.Rv m 0 (.map [])) := by
        rw [hm]
        exact World.ownsMap_made _ _ _ _
      have HM := hideC hm
      clear hm
      go_wp2
      rw [← HM.out]
      go_loopw [25] (fun i wi => ∃ (k : Nat) (D : DataW Value), k ≤ l.length ∧ i = .int .i64 k ∧ wi.ownsMap Try.prog 9 LM.Rv m k D ∧ LM.Nm l k D ∧ Below w.heap.size w wi) (fun i _ => l.length - (intOf i).toNat)
      case atStart => exact ⟨0, .map [], Nat.zero_le _, rfl, HM0.out, LM.nm_zero l, HBr.out.alloc HBr.out.size _⟩
      case round =>
        obtain ⟨k, D, hk, rfl, hown, hnm, hb⟩ := hrel
        have HW := hideC hown
        have HN := hideC hnm
        have HBi := hideC hb
        by_cases hlt : k < l.length
        · obtain ⟨b, off, hao, hbl, hlie⟩ := (HH.out.below hb) (by omega)
          subst hao
          obtain ⟨⟨c0, c1, c2, c3, c4, c5⟩, hi⟩ := hlie k hlt
          have hfk := (HF.out.2 k hlt).name
          have HNS := hideC (LM.nm_step hlt hown.isMap (hown.tidy W.law) hnm)
          obtain ⟨x, hx⟩ : ∃ x, x = LM.liAt l k := ⟨_, rfl⟩
          rw [← hx] at c0 c1 c2 c3 c4 c5 hfk HNS
          clear hx hlie hb hi hown hnm
          obtain ⟨⟨nm, ns, gs, ys, rs, en⟩, ⟨an, cn, ag, cg, ay, cy, ar, cr⟩⟩ := x
          simp only at c0 c1 c2 c3 c4 c5 hfk
          have hkey := W.keyS_ok hfk
          have hkm : k < maxLen := by unfold maxLen; omega
          have HBA := hideC (HBi.out.alloc HBi.out.size (.cells #[.string nm, .slice an ns.length cn, .slice ag gs.length cg, .slice ay ys.length cy, .slice ar rs.length cr, .int .i64 en] 27))
          have HWA := hideC (HW.out.alloc (.cells #[.string nm, .slice an ns.length cn, .slice ag gs.length cg, .slice ay ys.length cy, .slice ar rs.length cr, .int .i64 en] 27))
          go_wp2_with (first | (at_mapUpdate; refine wpList_mapUpdate_own _ rfl _ _ _ 52 rfl 9 27 W.law Try.underlying52 LM.Rv m k D rfl HWA.out hkm _ _ _ rfl rfl hkey _ [] rfl ?_; intro w1 hown1 hgrow1; have HW1 := hideC hown1; have HB1 := hideC (HBA.out.grown hgrow1 HBA.out.size (fun j hj => by cases hj; exact hsm)); clear hown1 hgrow1) | go_in)
          go_roundw
          case rel => exact ⟨k + 1, _, by omega, by go_num, HW1.out, HNS.out, HB1.out⟩
          case measure => simp [intOf]; omega
        · obtain rfl : k = l.length := by omega
          have hlen := hown.len Try.underlying52 3
          have HE0 := hideC HZ.out
          by_cases ho : M.onceTo (LM.namesL l) l.length = true
          · have hsz := hnm.all.2 ho
            have HBE : Hid (LM.byErr l = 0) := by
              show _ = _
              unfold LM.byErr M.onceB
              rw [if_pos HE0.out, LM.namesL_length, ho]
              rfl
            rw [hsz] at hlen
            clear hown hnm hb hsz ho
            go_wp2
            go_ret2
            refine ⟨HBi.out, ?_⟩
            rw [HBE.out, if_pos rfl]
            exact ⟨_, D, rfl, HW.out, HN.out⟩
          · have hsz : Maps.size D < l.length := by
              have h1 := hnm.le
              have h2 := hnm.all
              rcases Nat.lt_or_ge (Maps.size D) l.length with g | g
              · exact g
              · exact (ho (h2.1 (by omega))).elim
            have HBE : Hid (LM.byErr l = 5) := by
              show _ = _
              unfold LM.byErr M.onceB
              rw [if_pos HE0.out, LM.namesL_length, if_neg ho]
            obtain ⟨z, hz⟩ : ∃ z, z = Maps.size D := ⟨_, rfl⟩
            rw [← hz] at hlen hsz
            have hsz' : (z : Int) < (l.length : Int) := by omega
            clear hown hnm hb ho hz
            go_wp2
            go_ret2
            refine ⟨HBi.out, ?_⟩
            rw [HBE.out, if_neg (by decide)]
            rfl
end Go.Proofs.Ytbgnagognnklbaa.LW
/- The linker: is an object of that name there? -/
namespace Go.Proofs.Ytbgnagognnklbaa.LW
open Go.RowKit
open Go.Proofs.Ytbgnagognnklbaa.W (hideC)
set_option linter.unusedVariables false
set_option maxRecDepth 100000

def hasNm (l : List LM.Ob) (s : ByteArray) : Bool := l.any (fun o => decide (o.i.name = s))
theorem any_at (l : List LM.Ob) (s : ByteArray) (k : Nat) (hk : k < l.length) (h : (LM.obAt l k).i.name = s) : hasNm l s = true := by
  unfold hasNm
  rw [List.any_eq_true]
  refine ⟨l[k], List.getElem_mem hk, ?_⟩
  unfold LM.obAt at h
  rw [List.getD_eq_getElem?_getD, List.getElem?_eq_getElem hk] at h
  exact decide_eq_true h
theorem any_none (l : List LM.Ob) (s : ByteArray) (h : ∀ k, k < l.length → (LM.obAt l k).i.name ≠ s) : hasNm l s = false := by
  unfold hasNm
  rw [List.any_eq_false]
  intro o ho
  obtain ⟨k, hk, e⟩ := List.getElem_of_mem ho
  have := h k hk
  unfold LM.obAt at this
  rw [List.getD_eq_getElem?_getD, List.getElem?_eq_getElem hk, Option.getD_some, e] at this
  simpa using this

set_option maxHeartbeats 2000000 in
theorem indexOb_any (l : List LM.Ob) (ao : Option Addr) (cap : Nat) (P : Nat) (s : ByteArray) (w : World) (h : LM.HasO w ao l) (hn : M.Short l.length) (hsh : ∀ k, k < l.length → M.Short (LM.obAt l k).i.name.size) (hP : w.cell? ⟨P, 0, none⟩ = some (.string s)) (hs : M.Short s.size) :
    Calls Try.prog 77 #[.slice ao l.length cap, .func (.func 52) #[] #[.pointer (some ⟨P, 0, none⟩)]] w fun e w' => (∃ r : Int, e = .returned (.int .i64 r) ∧ decide (0 ≤ r) = hasNm l s) ∧ Below w.heap.size w w' := by
  have HH := hideC h
  have HSH := hideC hsh
  have hPl : P < w.heap.size := World.block_lt_of_cell? w _ hP
  have HP := hideC hP
  unfold M.Short at hn
  clear h hsh hP
  go_enter Try.func77, Try.ntmps77
  go_wp2
  go_loopw [8] (fun i wr => ∃ k : Nat, k ≤ l.length ∧ i = .int .i64 k ∧ (∀ j, j < k → (LM.obAt l j).i.name ≠ s) ∧ Below w.heap.size w wr) (fun i _ => l.length - (intOf i).toNat)
  case atStart => exact ⟨0, by omega, rfl, fun j hj => by omega, Below.refl _ _⟩
  case round =>
    obtain ⟨k, hk, rfl, hno, hb⟩ := hrel
    have HNO := hideC hno
    have HBr := hideC hb
    clear hno
    by_cases hlt : k < l.length
    · obtain ⟨b, off, hao, hbl, hlie⟩ := (HH.out.below hb) (by omega)
      subst hao
      obtain ⟨⟨c0, c1, c2, c3, c4, c5, c6⟩, -⟩ := hlie k hlt
      have hsk := HSH.out k hlt
      have HY : Hid ((LM.obAt l k).i.name = s → hasNm l s = true) := fun e => any_at l s k hlt e
      have HZ : Hid ((LM.obAt l k).i.name ≠ s → ∀ j, j < k + 1 → (LM.obAt l j).i.name ≠ s) := fun e j hj => by
        by_cases g : j = k
        · subst g; exact e
        · exact HNO.out j (by omega)
      obtain ⟨o, ho⟩ : ∃ o, o = LM.obAt l k := ⟨_, rfl⟩
      rw [← ho] at c0 c1 c2 c3 c4 c5 c6 hsk HY HZ
      have HPr := hideC ((hb.cell (p := ⟨P, 0, none⟩) hPl).trans HP.out)
      have HC := hideC (gather1_any o P s wr HPr.out hsk hs)
      simp only [LM.cellsO] at HC
      clear ho hlie hb
      by_cases hnm : o.i.name = s
      · have HX := hideC (HY.out hnm)
        rw [decide_eq_true hnm] at HC
        clear hnm HY HZ
        go_wp2_with (go_at_call 52; refine HC.out.mono ?_; rintro e w1 ⟨rfl, hb⟩; have HB1 := hideC (HBr.out.trans (hb.mono HBr.out.size)); clear hb)
        go_ret
        exact ⟨⟨_, rfl, by rw [HX.out]; simp⟩, HB1.out⟩
      · have HX := hideC (HZ.out hnm)
        rw [decide_eq_false hnm] at HC
        clear hnm HY HZ
        go_wp2_with (go_at_call 52; refine HC.out.mono ?_; rintro e w1 ⟨rfl, hb⟩; have HB1 := hideC (HBr.out.trans (hb.mono HBr.out.size)); clear hb)
        go_roundw
        case rel => exact ⟨k + 1, by omega, by go_num, HX.out, HB1.out⟩
        case measure => simp [intOf]; omega
    · obtain rfl : k = l.length := by omega
      have HX := hideC (any_none l s HNO.out)
      go_wp2
      go_ret
      exact ⟨⟨_, rfl, by rw [HX.out]; rfl⟩, HBr.out⟩
theorem contains_any (l : List LM.Ob) (ao : Option Addr) (cap : Nat) (P : Nat) (s : ByteArray) (w : World) (h : LM.HasO w ao l) (hn : M.Short l.length) (hsh : ∀ k, k < l.length → M.Short (LM.obAt l k).i.name.size) (hP : w.cell? ⟨P, 0, none⟩ = some (.string s)) (hs : M.Short s.size) :
    Calls Try.prog 51 #[.slice ao l.length cap, .func (.func 52) #[] #[.pointer (some ⟨P, 0, none⟩)]] w fun e w' => e = .returned (.bool (hasNm l s)) ∧ Below w.heap.size w w' := by
  have HC := hideC (indexOb_any l ao cap P s w h hn hsh hP hs)
  clear h hsh hP
  go_enter Try.func51, Try.ntmps51
  go_wp2_with (go_at_call 77; refine HC.out.mono ?_; rintro e w1 ⟨⟨r, rfl, hr⟩, hb⟩; have HR := hideC hr; have HB := hideC hb; clear hr hb)
  go_ret
  exact ⟨ret_bool HR.out, HB.out⟩
end Go.Proofs.Ytbgnagognnklbaa.LW
