import Derived.Test.YteieplodndfbhaaGK08
import Derived.Test.YteieplodndfbhaaGK04
import Derived.Test.YteieplodndfbhaaGK09
import Derived.Deep.AppendLies
import Derived.Deep.RegionLaw
import Derived.Test.YteieplodndfbhaaGK07
import Derived.Test.YteieplodndfbhaaChecked
import Derived.Deep.Slices
import Derived.ProofKit
/- The linker: images by their names. -/
namespace Go.Proofs.Yteieplodndfbhaa.LW
open Go.RowKit Go.WideMaps Go.Maps
open Go.Proofs.Yteieplodndfbhaa.W (hideC)
set_option linter.unusedVariables false
set_option maxRecDepth 100000

theorem zeroImg (w : World) : (zeroValue 27).run Try.prog w = .ok LM.zImg w := by kernel_rfl
/-- how byName ends -/
def OutB (l : List LM.Li) (w : World) (e : Ending) (w' : World) : Prop := Below w.heap.size w w' ∧
  if LM.byErr l = 0 then ∃ m D, e = .returned (.tuple #[.map (some m), .int .i64 0]) ∧ w'.ownsMap Try.prog 9 LM.Rv m l.length D ∧ LM.Nm l l.length D
  else e = .returned (.tuple #[.map none, .int .i64 (LM.byErr l)])

set_option maxHeartbeats 3000000 in
theorem byName_any (l : List LM.Li) (ao : Option Addr) (cap : Nat) (w : World) (h : LM.HasI w ao l) (hf : LM.FitI l) : Calls Try.prog 18 #[.slice ao l.length cap] w (OutB l w) := by
  have HH := hideC h
  have HF := hideC hf
  have hn : l.length ≤ 140737488351232 := hf.1
  clear h hf
  have hmm := @run_makeMap Try.prog
  go_enter Try.func18, Try.ntmps18
  go_wp2
  go_loopw [12] (fun i wr => ∃ k : Nat, k ≤ l.length ∧ i = .int .i64 k ∧ LM.errTo l k = 0 ∧ Below w.heap.size w wr) (fun i _ => l.length - (intOf i).toNat)
  case atStart => exact ⟨0, by omega, rfl, rfl, Below.refl _ _⟩
  case round =>
    obtain ⟨k, hk, rfl, hz, hb⟩ := hrel
    have HZ := hideC hz
    have HBr := hideC hb
    clear hz
    by_cases hlt : k < l.length
    · obtain ⟨b, off, hao, hbl, hlie⟩ := (HH.out.below hb) (by omega)
      subst hao
      obtain ⟨⟨c0, c1, c2, c3, c4, c5⟩, hi⟩ := hlie k hlt
      have hfk := HF.out.2 k hlt
      have HE : Hid (LM.errTo l (k + 1) = M.chkN (LM.liAt l k).i) := by
        show _ = _
        simp only [LM.errTo]
        rw [if_pos HZ.out]
      have HBY : Hid (M.chkN (LM.liAt l k).i ≠ 0 → LM.byErr l = M.chkN (LM.liAt l k).i) := fun g => by
        have e1 : LM.errTo l (k + 1) ≠ 0 := by rw [HE.out]; exact g
        have e2 := LM.errTo_stays l (k + 1) e1 l.length (by omega)
        unfold LM.byErr
        rw [e2, if_neg e1, HE.out]
      obtain ⟨x, hx⟩ : ∃ x, x = LM.liAt l k := ⟨_, rfl⟩
      rw [← hx] at c0 c1 c2 c3 c4 c5 hi hfk HE HBY
      clear hx hlie hb
      obtain ⟨⟨nm, ns, gs, ys, rs, en⟩, ⟨an, cn, ag, cg, ay, cy, ar, cr⟩⟩ := x
      simp only at c0 c1 c2 c3 c4 c5
      have HBA := hideC (HBr.out.alloc HBr.out.size (.cells #[.string nm, .slice an ns.length cn, .slice ag gs.length cg, .slice ay ys.length cy, .slice ar rs.length cr, .int .i64 en] 27))
      have HC : Hid (∀ W, Below wr.heap.size wr W → Calls Try.prog 50 #[.agg #[.string nm, .slice an ns.length cn, .slice ag gs.length cg, .slice ay ys.length cy, .slice ar rs.length cr, .int .i64 en]] W fun e w' => e = .returned (.int .i64 (M.chkN ⟨nm, ns, gs, ys, rs, en⟩)) ∧ Below W.heap.size W w') := fun V hb => W.check_any ⟨nm, ns, gs, ys, rs, en⟩ ⟨an, cn, ag, cg, ay, cy, ar, cr⟩ V (hi.below hb) hfk
      clear hi hfk
      obtain ⟨c, hc⟩ : ∃ c, c = M.chkN ⟨nm, ns, gs, ys, rs, en⟩ := ⟨_, rfl⟩
      simp only at HE HBY
      rw [← hc] at HC HE HBY
      clear hc
      by_cases hcz : c = 0
      · subst hcz
        clear HBY
        go_wp2_with (go_at_call 50; refine (HC.out _ ((Below.refl _ _).alloc (Nat.le_refl _) _)).mono ?_; rintro e w1 ⟨rfl, hb⟩; have HBA := hideC (HBA.out.trans (hb.mono HBA.out.size)); clear hb)
        go_roundw
        case rel => exact ⟨k + 1, by omega, by go_num, HE.out, HBA.out⟩
        case measure => simp [intOf]; omega
      · have HBE := hideC (HBY.out hcz)
        have hcz' : (c == 0) = false := by simpa using hcz
        clear HBY HE
        go_wp2_with (go_at_call 50; refine (HC.out _ ((Below.refl _ _).alloc (Nat.le_refl _) _)).mono ?_; rintro e w1 ⟨rfl, hb⟩; have HBA := hideC (HBA.out.trans (hb.mono HBA.out.size)); clear hb)
        go_ret2
        refine ⟨HBA.out, ?_⟩
        rw [HBE.out, if_neg hcz]
        rfl
    · obtain rfl : k = l.length := by omega
      clear hb
      obtain ⟨m, hm⟩ : ∃ m, m = wr.heap.size := ⟨_, rfl⟩
      have hsm : w.heap.size ≤ m := by rw [hm]; exact HBr.out.size
      have HM0 : Hid ((wr.alloc (.map #[] 0)).ownsMap Try.prog 9 LM.Rv m 0 (.map [])) := by
        rw [hm]
        exact World.ownsMap_made _ _ _ _
      have HM := hideC hm
      clear hm
      go_wp2
      rw [← HM.out]
      go_loopw [25] (fun i wi => ∃ (k : Nat) (D : DataW Value), k ≤ l.length ∧ i = .int .i64 k ∧ wi.ownsMap Try.prog 9 LM.Rv m k D ∧ LM.Nm l k D ∧ Below w.heap.size w wi) (fun i _ => l.length - (intOf i).toNat)
      case atStart => exact ⟨0, .map [], Nat.zero_le _, rfl, HM0.out, LM.nm_zero l, HBr.out.alloc HBr.out.size _⟩
      case round =>
        obtain ⟨k, D, hk, rfl, hown, hnm, hb⟩ := hrel
        have HW := hideC hown
        have HN := hideC hnm
        have HBi := hideC hb
        by_cases hlt : k < l.length
        · obtain ⟨b, off, hao, hbl, hlie⟩ := (HH.out.below hb) (by omega)
          subst hao
          obtain ⟨⟨c0, c1, c2, c3, c4, c5⟩, hi⟩ := hlie k hlt
          have hfk := (HF.out.2 k hlt).name
          have HNS := hideC (LM.nm_step hlt hown.isMap (hown.tidy W.law) hnm)
          obtain ⟨x, hx⟩ : ∃ x, x = LM.liAt l k := ⟨_, rfl⟩
          rw [← hx] at c0 c1 c2 c3 c4 c5 hfk HNS
          clear hx hlie hb hi hown hnm
          obtain ⟨⟨nm, ns, gs, ys, rs, en⟩, ⟨an, cn, ag, cg, ay, cy, ar, cr⟩⟩ := x
          simp only at c0 c1 c2 c3 c4 c5 hfk
          have hkey := W.keyS_ok hfk
          have hkm : k < maxLen := by unfold maxLen; omega
          have HBA := hideC (HBi.out.alloc HBi.out.size (.cells #[.string nm, .slice an ns.length cn, .slice ag gs.length cg, .slice ay ys.length cy, .slice ar rs.length cr, .int .i64 en] 27))
          have HWA := hideC (HW.out.alloc (.cells #[.string nm, .slice an ns.length cn, .slice ag gs.length cg, .slice ay ys.length cy, .slice ar rs.length cr, .int .i64 en] 27))
          go_wp2_with (first | (at_mapUpdate; refine wpList_mapUpdate_own _ rfl _ _ _ 52 rfl 9 27 W.law Try.underlying52 LM.Rv m k D rfl HWA.out hkm _ _ _ rfl rfl hkey _ [] rfl ?_; intro w1 hown1 hgrow1; have HW1 := hideC hown1; have HB1 := hideC (HBA.out.grown hgrow1 HBA.out.size (fun j hj => by cases hj; exact hsm)); clear hown1 hgrow1) | go_in)
          go_roundw
          case rel => exact ⟨k + 1, _, by omega, by go_num, HW1.out, HNS.out, HB1.out⟩
          case measure => simp [intOf]; omega
        · obtain rfl : k = l.length := by omega
          have hlen := hown.len Try.underlying52 3
          have HE0 := hideC HZ.out
          by_cases ho : M.onceTo (LM.namesL l) l.length = true
          · have hsz := hnm.all.2 ho
            have HBE : Hid (LM.byErr l = 0) := by
              show _ = _
              unfold LM.byErr M.onceB
              rw [if_pos HE0.out, LM.namesL_length, ho]
              rfl
            rw [hsz] at hlen
            clear hown hnm hb hsz ho
            go_wp2
            go_ret2
            refine ⟨HBi.out, ?_⟩
            rw [HBE.out, if_pos rfl]
            exact ⟨_, D, rfl, HW.out, HN.out⟩
          · have hsz : Maps.size D < l.length := by
              have h1 := hnm.le
              have h2 := hnm.all
              rcases Nat.lt_or_ge (Maps.size D) l.length with g | g
              · exact g
              · exact (ho (h2.1 (by omega))).elim
            have HBE : Hid (LM.byErr l = 5) := by
              show _ = _
              unfold LM.byErr M.onceB
              rw [if_pos HE0.out, LM.namesL_length, if_neg ho]
            obtain ⟨z, hz⟩ : ∃ z, z = Maps.size D := ⟨_, rfl⟩
            rw [← hz] at hlen hsz
            have hsz' : (z : Int) < (l.length : Int) := by omega
            clear hown hnm hb ho hz
            go_wp2
            go_ret2
            refine ⟨HBi.out, ?_⟩
            rw [HBE.out, if_neg (by decide)]
            rfl
end Go.Proofs.Yteieplodndfbhaa.LW
/- The linker: is an object of that name there? -/
namespace Go.Proofs.Yteieplodndfbhaa.LW
open Go.RowKit
open Go.Proofs.Yteieplodndfbhaa.W (hideC)
set_option linter.unusedVariables false
set_option maxRecDepth 100000

def hasNm (l : List LM.Ob) (s : ByteArray) : Bool := l.any (fun o => decide (o.i.name = s))
theorem any_at (l : List LM.Ob) (s : ByteArray) (k : Nat) (hk : k < l.length) (h : (LM.obAt l k).i.name = s) : hasNm l s = true := by
  unfold hasNm
  rw [List.any_eq_true]
  refine ⟨l[k], List.getElem_mem hk, ?_⟩
  unfold LM.obAt at h
  rw [List.getD_eq_getElem?_getD, List.getElem?_eq_getElem hk] at h
  exact decide_eq_true h
theorem any_none (l : List LM.Ob) (s : ByteArray) (h : ∀ k, k < l.length → (LM.obAt l k).i.name ≠ s) : hasNm l s = false := by
  unfold hasNm
  rw [List.any_eq_false]
  intro o ho
  obtain ⟨k, hk, e⟩ := List.getElem_of_mem ho
  have := h k hk
  unfold LM.obAt at this
  rw [List.getD_eq_getElem?_getD, List.getElem?_eq_getElem hk, Option.getD_some, e] at this
  simpa using this

set_option maxHeartbeats 2000000 in
theorem indexOb_any (l : List LM.Ob) (ao : Option Addr) (cap : Nat) (P : Nat) (s : ByteArray) (w : World) (h : LM.HasO w ao l) (hn : M.Short l.length) (hsh : ∀ k, k < l.length → M.Short (LM.obAt l k).i.name.size) (hP : w.cell? ⟨P, 0, none⟩ = some (.string s)) (hs : M.Short s.size) :
    Calls Try.prog 77 #[.slice ao l.length cap, .func (.func 52) #[] #[.pointer (some ⟨P, 0, none⟩)]] w fun e w' => (∃ r : Int, e = .returned (.int .i64 r) ∧ decide (0 ≤ r) = hasNm l s) ∧ Below w.heap.size w w' := by
  have HH := hideC h
  have HSH := hideC hsh
  have hPl : P < w.heap.size := World.block_lt_of_cell? w _ hP
  have HP := hideC hP
  unfold M.Short at hn
  clear h hsh hP
  go_enter Try.func77, Try.ntmps77
  go_wp2
  go_loopw [8] (fun i wr => ∃ k : Nat, k ≤ l.length ∧ i = .int .i64 k ∧ (∀ j, j < k → (LM.obAt l j).i.name ≠ s) ∧ Below w.heap.size w wr) (fun i _ => l.length - (intOf i).toNat)
  case atStart => exact ⟨0, by omega, rfl, fun j hj => by omega, Below.refl _ _⟩
  case round =>
    obtain ⟨k, hk, rfl, hno, hb⟩ := hrel
    have HNO := hideC hno
    have HBr := hideC hb
    clear hno
    by_cases hlt : k < l.length
    · obtain ⟨b, off, hao, hbl, hlie⟩ := (HH.out.below hb) (by omega)
      subst hao
      obtain ⟨⟨c0, c1, c2, c3, c4, c5, c6⟩, -⟩ := hlie k hlt
      have hsk := HSH.out k hlt
      have HY : Hid ((LM.obAt l k).i.name = s → hasNm l s = true) := fun e => any_at l s k hlt e
      have HZ : Hid ((LM.obAt l k).i.name ≠ s → ∀ j, j < k + 1 → (LM.obAt l j).i.name ≠ s) := fun e j hj => by
        by_cases g : j = k
        · subst g; exact e
        · exact HNO.out j (by omega)
      obtain ⟨o, ho⟩ : ∃ o, o = LM.obAt l k := ⟨_, rfl⟩
      rw [← ho] at c0 c1 c2 c3 c4 c5 c6 hsk HY HZ
      have HPr := hideC ((hb.cell (p := ⟨P, 0, none⟩) hPl).trans HP.out)
      have HC := hideC (gather1_any o P s wr HPr.out hsk hs)
      simp only [LM.cellsO] at HC
      clear ho hlie hb
      by_cases hnm : o.i.name = s
      · have HX := hideC (HY.out hnm)
        rw [decide_eq_true hnm] at HC
        clear hnm HY HZ
        go_wp2_with (go_at_call 52; refine HC.out.mono ?_; rintro e w1 ⟨rfl, hb⟩; have HB1 := hideC (HBr.out.trans (hb.mono HBr.out.size)); clear hb)
        go_ret
        exact ⟨⟨_, rfl, by rw [HX.out]; simp⟩, HB1.out⟩
      · have HX := hideC (HZ.out hnm)
        rw [decide_eq_false hnm] at HC
        clear hnm HY HZ
        go_wp2_with (go_at_call 52; refine HC.out.mono ?_; rintro e w1 ⟨rfl, hb⟩; have HB1 := hideC (HBr.out.trans (hb.mono HBr.out.size)); clear hb)
        go_roundw
        case rel => exact ⟨k + 1, by omega, by go_num, HX.out, HB1.out⟩
        case measure => simp [intOf]; omega
    · obtain rfl : k = l.length := by omega
      have HX := hideC (any_none l s HNO.out)
      go_wp2
      go_ret
      exact ⟨⟨_, rfl, by rw [HX.out]; rfl⟩, HBr.out⟩
theorem contains_any (l : List LM.Ob) (ao : Option Addr) (cap : Nat) (P : Nat) (s : ByteArray) (w : World) (h : LM.HasO w ao l) (hn : M.Short l.length) (hsh : ∀ k, k < l.length → M.Short (LM.obAt l k).i.name.size) (hP : w.cell? ⟨P, 0, none⟩ = some (.string s)) (hs : M.Short s.size) :
    Calls Try.prog 51 #[.slice ao l.length cap, .func (.func 52) #[] #[.pointer (some ⟨P, 0, none⟩)]] w fun e w' => e = .returned (.bool (hasNm l s)) ∧ Below w.heap.size w w' := by
  have HC := hideC (indexOb_any l ao cap P s w h hn hsh hP hs)
  clear h hsh hP
  go_enter Try.func51, Try.ntmps51
  go_wp2_with (go_at_call 77; refine HC.out.mono ?_; rintro e w1 ⟨⟨r, rfl, hr⟩, hb⟩; have HR := hideC hr; have HB := hideC hb; clear hr hb)
  go_ret
  exact ⟨ret_bool HR.out, HB.out⟩
end Go.Proofs.Yteieplodndfbhaa.LW
/- The linker: the objects. -/
namespace Go.Proofs.Yteieplodndfbhaa.LW
open Go.RowKit Go.WideMaps Go.Maps
open Go.Proofs.Yteieplodndfbhaa.W (hideC)
set_option linter.unusedVariables false
set_option maxRecDepth 100000

theorem flat_get {α : Type} (f : α → List Value) (c : Nat) (hc : ∀ x, (f x).length = c) (d : α) : ∀ (l : List α) (i j : Nat), i < l.length → j < c → (l.flatMap f)[i * c + j]? = (f (l.getD i d))[j]?
  | a :: r, 0, j, _, hj => by
    rw [List.flatMap_cons, Nat.zero_mul, Nat.zero_add, List.getElem?_append_left (by rw [hc]; exact hj)]
    rfl
  | a :: r, i + 1, j, hi, hj => by
    rw [List.flatMap_cons, List.getElem?_append_right (by rw [hc, Nat.succ_mul]; omega), hc, show (i + 1) * c + j - c = i * c + j by rw [Nat.succ_mul]; omega]
    exact flat_get f c hc d r i j (by simpa using hi) hj
theorem infoOb : (Try.prog.info? 59).map (fun i => (i.zero, i.size, i.bytes)) = some (some (.agg #[.string ⟨#[]⟩, .slice none 0 0, .slice none 0 0, .slice none 0 0, .slice none 0 0, .int .i64 0, .int .i64 0]), 7, 128) := by kernel_rfl
theorem row_ob {w : World} {base : Nat} {v : Value} {l : List LM.Ob} (h : w.ownsRow base 59 7 v l.length (l.flatMap LM.cellO)) (hl : 0 < l.length) (hi : ∀ k, k < l.length → M.HasIm w (LM.obAt l k).a (LM.obAt l k).i) :
    ∃ g cap, v = .slice (some ⟨g, 0, none⟩) l.length cap ∧ base ≤ g ∧ g < w.heap.size ∧ l.length ≤ cap ∧ LM.LieO w g 0 l := by
  rcases h.2 with ⟨hv, h0⟩ | ⟨g, cap, cur, hv, hbg, hg, hnc, hcm, hcs, htake⟩
  · omega
  · subst hv
    refine ⟨g, cap, rfl, hbg, B.isLt hg, hnc, fun k hk => ?_⟩
    rw [Nat.zero_add]
    have hh : ∀ j, j < 7 → w.cell? ⟨g, k * 7 + j, none⟩ = (LM.cellO (LM.obAt l k))[j]? := fun j hj => (h.cellAt _ (by omega)).trans (flat_get LM.cellO 7 (fun _ => rfl) LM.ob0 l k j hk hj)
    exact ⟨⟨hh 0 (by omega), hh 1 (by omega), hh 2 (by omega), hh 3 (by omega), hh 4 (by omega), hh 5 (by omega), hh 6 (by omega)⟩, hi k hk⟩
theorem map_below {w w' : World} {m n : Nat} {D : DataW Value} (h : w.ownsMap Try.prog 9 LM.Rv m n D) (hb : Below w.heap.size w w') : w'.ownsMap Try.prog 9 LM.Rv m n D := by
  have hlt := h.lt
  obtain ⟨es, clock, h1, h2⟩ := h
  exact ⟨es, clock, (hb.block m hlt).trans h1, h2⟩
theorem has_iff {all : List LM.Li} (ho : M.onceB (LM.namesL all) = true) {ix : List Nat} (hlt : ∀ j ∈ ix, j < all.length) {s : ByteArray} {j : Nat} (hj : LM.ixOf all s = some j) (b : Int) : hasNm (LM.obsFrom all b ix) s = ix.contains j := by
  obtain ⟨h1, h2⟩ := LM.ixOf_some hj
  cases e : ix.contains j
  · refine any_none _ _ (fun k hk g => ?_)
    rw [LM.obsFrom_length] at hk
    rw [(LM.obsFrom_at all ix b k hk).1, ← h2] at g
    have hm := LM.getD_mem ix k hk
    have := LM.name_inj ho (hlt _ hm) h1 g
    rw [this] at hm
    rw [List.contains_iff_mem.2 hm] at e
    cases e
  · obtain ⟨k, hk, hkj⟩ := List.getElem_of_mem (List.contains_iff_mem.1 e)
    refine any_at _ _ k (by rw [LM.obsFrom_length]; exact hk) ?_
    rw [(LM.obsFrom_at all ix b k hk).1, List.getD_eq_getElem?_getD, List.getElem?_eq_getElem hk]
    simp only [Option.getD_some]
    rw [hkj]
    exact h2
/-- how gather ends -/
def OutG (all : List LM.Li) (R : Option (List Nat)) (w : World) (e : Ending) (w' : World) : Prop := Below w.heap.size w w' ∧ match R with
  | none => e = .returned (.tuple #[.slice none 0 0, .bool false])
  | some ix => LM.OkIx all ix ∧ ∃ ao cap, e = .returned (.tuple #[.slice ao ix.length cap, .bool true]) ∧ LM.HasO w' ao (LM.obsFrom all 1 ix)
/-- what gather is handed -/
structure Gi (all : List LM.Li) (m : Nat) (D : DataW Value) (w : World) : Prop where
  pos : 0 < all.length
  few : all.length ≤ 7
  chk : ∀ j, j < all.length → M.chkN (LM.liAt all j).i = 0
  fit : ∀ j, j < all.length → M.Fit (LM.liAt all j).i
  once : M.onceB (LM.namesL all) = true
  im : ∀ j, j < all.length → M.HasIm w (LM.liAt all j).a (LM.liAt all j).i
  map : w.ownsMap Try.prog 9 LM.Rv m all.length D
  nm : LM.Nm all all.length D
theorem Gi.below {all : List LM.Li} {m : Nat} {D : DataW Value} {w w' : World} (h : Gi all m D w) (hb : Below w.heap.size w w') : Gi all m D w' :=
  ⟨h.pos, h.few, h.chk, h.fit, h.once, fun j hj => (h.im j hj).below hb, map_below h.map hb, h.nm⟩
theorem Gi.ims {all : List LM.Li} {m : Nat} {D : DataW Value} {w : World} (h : Gi all m D w) {ix : List Nat} (hx : LM.OkIx all ix) (b : Int) : ∀ k, k < (LM.obsFrom all b ix).length → M.HasIm w (LM.obAt (LM.obsFrom all b ix) k).a (LM.obAt (LM.obsFrom all b ix) k).i := fun k hk => by
  rw [LM.obsFrom_length] at hk
  rw [(LM.obsFrom_at all ix b k hk).1, (LM.obsFrom_at all ix b k hk).2.1]
  exact h.im _ (hx.lt _ (LM.getD_mem ix k hk))
/-- 'i, ok := named[need]' -/
theorem Gi.look {all : List LM.Li} {m : Nat} {D : DataW Value} {w : World} (h : Gi all m D w) {s : ByteArray} (hs : M.Short s.size) : ∃ x, (Instr.lookup 52 (.map (some m)) (.string s) true).run Try.prog w = .ok (.tuple #[x, .bool (LM.ixOf all s).isSome]) w ∧ match LM.ixOf all s with
    | none => x = LM.zImg
    | some j => x = LM.imgV (LM.liAt all j) := by
  obtain ⟨v, ps, hrun, hv⟩ := h.map.look_ok W.law Try.underlying52 (zeroImg w) (zd := .held LM.zImg) (zp := []) rfl (W.keyS_ok hs)
  have hv' : DataW.held v = D.atKey (W.keyS s) (.held LM.zImg) := by
    unfold LM.Rv at hv
    injection hv with hv
    injection hv with hv _
  have hh := h.nm.has s
  rw [show (LM.namesL all).take all.length = LM.namesL all from List.take_of_length_le (by rw [LM.namesL_length]; exact Nat.le_refl _)] at hh
  cases e : LM.ixOf all s with
  | none =>
    rw [LM.ixOf_none e] at hh
    rw [hh] at hrun
    refine ⟨v, hrun, ?_⟩
    rw [Maps.atKey_of_not_has hh] at hv'
    injection hv'
  | some j =>
    obtain ⟨h1, h2⟩ := LM.ixOf_some e
    have hin : (LM.namesL all).contains s = true := by
      have := LM.name_in all all.length j h1 (Nat.le_refl _)
      rw [h2, show (LM.namesL all).take all.length = LM.namesL all from List.take_of_length_le (by rw [LM.namesL_length]; exact Nat.le_refl _)] at this
      exact this
    rw [hin] at hh
    rw [hh] at hrun
    refine ⟨v, hrun, ?_⟩
    have ho := h.once
    unfold M.onceB at ho
    rw [LM.namesL_length] at ho
    have := h.nm.at_ ho j h1
    rw [h2] at this
    rw [this] at hv'
    injection hv'
end Go.Proofs.Yteieplodndfbhaa.LW
/- The linker: the objects, gathered. -/
namespace Go.Proofs.Yteieplodndfbhaa.LW
open Go.RowKit Go.WideMaps Go.Maps
open Go.Proofs.Yteieplodndfbhaa.W (hideC)
set_option linter.unusedVariables false
set_option maxRecDepth 100000

theorem row_grown {w w' : World} {base : Nat} {e : TypeId} {size : Nat} {v : Value} {n : Nat} {xs : List Value} (h : w.ownsRow base e size v n xs) (hb : Below w.heap.size w w') : w'.ownsRow base e size v n xs := by
  refine ⟨h.1, ?_⟩
  rcases h.2 with h2 | ⟨g, cap, cur, hv, hbg, hg, rest⟩
  · exact .inl h2
  · exact .inr ⟨g, cap, cur, hv, hbg, (hb.block g (B.isLt hg)).trans hg, rest⟩

set_option maxHeartbeats 6000000 in
theorem gather_any (all : List LM.Li) (m : Nat) (D : DataW Value) (w : World) (hg : Gi all m D w) : Calls Try.prog 19 #[LM.imgV (LM.liAt all 0), .map (some m)] w (OutG all (LM.gat all all.length 0 [0]) w) := by
  have HG := hideC hg
  have hpos := hg.pos
  have hfew := hg.few
  clear hg
  obtain ⟨R, hR⟩ : ∃ R, R = LM.gat all all.length 0 [0] := ⟨_, rfl⟩
  have HR := hideC hR
  rw [← hR]
  clear hR
  have HX0 : Hid (LM.OkIx all [0]) := ⟨by simp, by simp, fun j hj => by simp at hj; omega⟩
  have HO0 : Hid ((LM.obsFrom all 1 [0]).flatMap LM.cellO = LM.cellO ⟨(LM.liAt all 0).i, (LM.liAt all 0).a, 1⟩) := by
    show _ = _
    simp [LM.obsFrom]
  obtain ⟨x, hx⟩ : ∃ x, x = LM.liAt all 0 := ⟨_, rfl⟩
  rw [← hx] at HO0
  rw [← hx]
  clear hx
  obtain ⟨⟨nm, ns, gs, ys, rs, en⟩, ⟨an, cn, ag, cg, ay, cy, ar, cr⟩⟩ := x
  simp only [LM.imgV, M.cellsI]
  simp only at HO0
  have HB0 := hideC ((Below.refl w.heap.size w).alloc (Nat.le_refl _) (.cells #[.string nm, .slice an ns.length cn, .slice ag gs.length cg, .slice ay ys.length cy, .slice ar rs.length cr, .int .i64 en] 27))
  have HB1 := hideC (HB0.out.alloc HB0.out.size (.cells #[.string nm, .slice an ns.length cn, .slice ag gs.length cg, .slice ay ys.length cy, .slice ar rs.length cr, .int .i64 en, .int .i64 1] 59))
  have HOW0 : Hid (((w.alloc (.cells #[.string nm, .slice an ns.length cn, .slice ag gs.length cg, .slice ay ys.length cy, .slice ar rs.length cr, .int .i64 en] 27)).alloc (.cells #[.string nm, .slice an ns.length cn, .slice ag gs.length cg, .slice ay ys.length cy, .slice ar rs.length cr, .int .i64 en, .int .i64 1] 59)).ownsRow (w.heap.size + 1) 59 7 (.slice (some ⟨w.heap.size + 1, 0, none⟩) 1 1) 1 ((LM.obsFrom all 1 [0]).flatMap LM.cellO)) := by
    show World.ownsRow _ _ _ _ _ _ _
    rw [HO0.out]
    have h := World.ownsRow_lit (base := w.heap.size + 1) (e := 59) (size := 7) (w.alloc (.cells #[.string nm, .slice an ns.length cn, .slice ag gs.length cg, .slice ay ys.length cy, .slice ar rs.length cr, .int .i64 en] 27)) #[.string nm, .slice an ns.length cn, .slice ag gs.length cg, .slice ay ys.length cy, .slice ar rs.length cr, .int .i64 en, .int .i64 1] 1 (by simp) (by unfold maxLen; omega) rfl
    rw [show (w.alloc (.cells #[.string nm, .slice an ns.length cn, .slice ag gs.length cg, .slice ay ys.length cy, .slice ar rs.length cr, .int .i64 en] 27)).heap.size = w.heap.size + 1 by simp] at h
    exact h
  clear HO0
  obtain ⟨i0, hi, hz0, hz1, hz2⟩ := info_parts infoOb
  go_enter Try.func19, Try.ntmps19
  go_wp2
  go_loopw [7, 6] (fun nx v wr => ∃ (n : Nat) (ix : List Nat), nx = .int .i64 n ∧ LM.OkIx all ix ∧ n ≤ ix.length ∧ LM.gat all (all.length - n) n ix = R ∧ wr.ownsRow (w.heap.size + 1) 59 7 v ix.length ((LM.obsFrom all 1 ix).flatMap LM.cellO) ∧ Below w.heap.size w wr) (fun nx _ _ => all.length - (intOf nx).toNat)
  case atStart => exact ⟨0, [0], rfl, HX0.out, by simp, HR.out.symm, HOW0.out, HB1.out⟩
  case round =>
    obtain ⟨n, ix, rfl, hx, hnx, hgt, hown, hb⟩ := hrel
    have HX := hideC hx
    have HGT := hideC hgt
    have HOW := hideC hown
    have HBr := hideC hb
    have hle := hx.le
    have hps := hx.pos
    have HGr := hideC (HG.out.below hb)
    obtain ⟨g, cap, hv, hbg, hgl, hnc, hlie⟩ := row_ob (by rw [LM.obsFrom_length]; exact hown) (by rw [LM.obsFrom_length]; exact hps) (HGr.out.ims hx 1)
    rw [LM.obsFrom_length] at hv hnc
    subst hv
    by_cases hlt : n < ix.length
    · have hat := LM.obsFrom_at all ix 1 n hlt
      have hjl := hx.lt _ (LM.getD_mem ix n hlt)
      obtain ⟨⟨_, c1, _, _, _, _, _⟩, -⟩ := hlie n (by rw [LM.obsFrom_length]; exact hlt)
      rw [hat.1, hat.2.1, Nat.zero_add] at c1
      have HFI := hideC (HG.out.fit _ hjl)
      have HIM := hideC (HG.out.im _ hjl).needs
      obtain ⟨f, hf⟩ : ∃ f, all.length - n = f + 1 := ⟨all.length - n - 1, by omega⟩
      have HF : Hid (all.length - (n + 1) = f) := by show _ = _; omega
      rw [hf] at HGT
      have HSOME : Hid (∀ ix', LM.ordTo all ix (LM.liAt all (ix.getD n 0)).i.needs (LM.liAt all (ix.getD n 0)).i.needs.length = some ix' → LM.gat all f (n + 1) ix' = R) := fun ix' h => by
        rw [← HGT.out]
        exact (LM.gat_some all f n ix ix' hlt h).symm
      have HNONE : Hid (LM.ordTo all ix (LM.liAt all (ix.getD n 0)).i.needs (LM.liAt all (ix.getD n 0)).i.needs.length = none → R = none) := fun h => by
        rw [← HGT.out]
        exact LM.gat_none all f n ix hlt h
      obtain ⟨q, hq⟩ : ∃ q, q = LM.liAt all (ix.getD n 0) := ⟨_, rfl⟩
      rw [← hq] at c1 HFI HIM HSOME HNONE
      clear hq hat hjl hf hlie hgt hown hb hx
      obtain ⟨⟨nmq, nd, gsq, ysq, rsq, enq⟩, ⟨anq, cnq, agq, cgq, ayq, cyq, arq, crq⟩⟩ := q
      simp only at c1 HSOME HNONE HIM
      have hnd : nd.length ≤ 140737488351232 := HFI.out.needs
      have HND : Hid (∀ k, k < nd.length → M.Short (M.strAt nd k).size) := HFI.out.need
      clear HFI
      go_wp2
      go_loopw [28, 6] (fun kx v wi => ∃ (k : Nat) (ix' : List Nat), kx = .int .i64 k ∧ k ≤ nd.length ∧ LM.ordTo all ix nd k = some ix' ∧ LM.OkIx all ix' ∧ ix.length ≤ ix'.length ∧ wi.ownsRow (w.heap.size + 1) 59 7 v ix'.length ((LM.obsFrom all 1 ix').flatMap LM.cellO) ∧ Below w.heap.size w wi) (fun kx _ _ => nd.length - (intOf kx).toNat)
      case atStart => exact ⟨0, ix, rfl, by omega, rfl, HX.out, Nat.le_refl _, HOW.out, HBr.out⟩
      case round =>
        obtain ⟨k, jx, rfl, hk, hord, hox, hlx, hown, hb⟩ := hrel
        have HORD := hideC hord
        have HOX := hideC hox
        have HOWi := hideC hown
        have HBi := hideC hb
        have hsz := hb.size
        have HGi := hideC (HG.out.below hb)
        have hle2 := hox.le
        have hps2 := hox.pos
        obtain ⟨g2, cap2, hv2, hbg2, hgl2, hnc2, hlie2⟩ := row_ob (by rw [LM.obsFrom_length]; exact hown) (by rw [LM.obsFrom_length]; exact hps2) (HGi.out.ims hox 1)
        rw [LM.obsFrom_length] at hv2 hnc2
        subst hv2
        have HLIE2 := hideC hlie2
        clear hord hown hox hlie2
        by_cases hkl : k < nd.length
        · obtain ⟨bn, offn, han, hbnl, hlien⟩ := HIM.out (by omega)
          subst han
          have cs := M.lieS hb hbnl hlien k hkl
          have hss := HND.out k hkl
          obtain ⟨s, hse⟩ : ∃ s, s = M.strAt nd k := ⟨_, rfl⟩
          rw [← hse] at cs hss
          have HSE := hideC hse
          clear hse hb hlien
          have HBA := hideC (HBi.out.alloc HBi.out.size (.cells #[.string s] 9))
          have hba1 := hideC ((Below.refl wr.heap.size wr).alloc (Nat.le_refl _) (.cells #[.string s] 9))
          obtain ⟨x, hrun, hxv⟩ := (HGi.out.below hba1.out).look hss
          cases e : LM.ixOf all s with
          | none =>
            rw [e] at hrun hxv
            simp only at hxv
            subst hxv
            have HRN : Hid (R = none) := HNONE.out (LM.ordTo_none (LM.ordTo_miss HORD.out (by rw [← HSE.out]; exact e)) nd.length (by omega))
            simp only [Option.isSome_none, LM.zImg] at hrun
            clear e
            go_wp2
            go_ret2
            show OutG all R w _ _
            rw [HRN.out]
            exact ⟨HBA.out.alloc HBA.out.size _, rfl⟩
          | some j =>
            rw [e] at hrun hxv
            simp only at hxv
            subst hxv
            simp only [Option.isSome_some] at hrun
            have HSTEP : Hid (LM.ordTo all ix nd (k + 1) = some (LM.addIx jx j)) := LM.ordTo_step HORD.out (by rw [← HSE.out]; exact e)
            obtain ⟨hjl, -⟩ := LM.ixOf_some e
            have HOXA := hideC (HOX.out.add hjl)
            have HHN := hideC (has_iff HG.out.once HOX.out.lt e 1)
            have HSN : Hid (LM.obsFrom all 1 (jx ++ [j]) = LM.obsFrom all 1 jx ++ [⟨(LM.liAt all j).i, (LM.liAt all j).a, LM.endFrom all 1 jx⟩]) := LM.obsFrom_snoc all j jx 1
            obtain ⟨y, hy⟩ : ∃ y, y = LM.liAt all j := ⟨_, rfl⟩
            rw [← hy] at hrun HSN
            clear hy e
            obtain ⟨⟨nm2, ns2, gs2, ys2, rs2, en2⟩, ⟨an2, cn2, ag2, cg2, ay2, cy2, ar2, cr2⟩⟩ := y
            simp only [LM.imgV, M.cellsI] at hrun
            simp only at HSN
            have HB2 := hideC (HBA.out.alloc HBA.out.size (.cells #[.string nm2, .slice an2 ns2.length cn2, .slice ag2 gs2.length cg2, .slice ay2 ys2.length cy2, .slice ar2 rs2.length cr2, .int .i64 en2] 27))
            have hba2 := hideC (hba1.out.alloc (by simp) (.cells #[.string nm2, .slice an2 ns2.length cn2, .slice ag2 gs2.length cg2, .slice ay2 ys2.length cy2, .slice ar2 rs2.length cr2, .int .i64 en2] 27))
            have HCT : Hid (Calls Try.prog 51 #[.slice (some ⟨g2, 0, none⟩) jx.length cap2, .func (.func 52) #[] #[.pointer (some ⟨wr.heap.size, 0, none⟩)]] ((wr.alloc (.cells #[.string s] 9)).alloc (.cells #[.string nm2, .slice an2 ns2.length cn2, .slice ag2 gs2.length cg2, .slice ay2 ys2.length cy2, .slice ar2 rs2.length cr2, .int .i64 en2] 27)) fun e w' => e = .returned (.bool (jx.contains j)) ∧ Below ((wr.alloc (.cells #[.string s] 9)).alloc (.cells #[.string nm2, .slice an2 ns2.length cn2, .slice ag2 gs2.length cg2, .slice ay2 ys2.length cy2, .slice ar2 rs2.length cr2, .int .i64 en2] 27)).heap.size ((wr.alloc (.cells #[.string s] 9)).alloc (.cells #[.string nm2, .slice an2 ns2.length cn2, .slice ag2 gs2.length cg2, .slice ay2 ys2.length cy2, .slice ar2 rs2.length cr2, .int .i64 en2] 27)) w') := by
              have h := contains_any (LM.obsFrom all 1 jx) (some ⟨g2, 0, none⟩) cap2 wr.heap.size s ((wr.alloc (.cells #[.string s] 9)).alloc (.cells #[.string nm2, .slice an2 ns2.length cn2, .slice ag2 gs2.length cg2, .slice ay2 ys2.length cy2, .slice ar2 rs2.length cr2, .int .i64 en2] 27)) (fun _ => ⟨g2, 0, rfl, Nat.lt_of_lt_of_le hgl2 hba2.out.size, LM.lieO hba2.out hgl2 HLIE2.out⟩) (by unfold M.Short; rw [LM.obsFrom_length]; omega) (fun k hk => by
                rw [LM.obsFrom_length] at hk
                rw [(LM.obsFrom_at all jx 1 k hk).1]
                exact (HG.out.fit _ (HOX.out.lt _ (LM.getD_mem jx k hk))).name) (B.cell (B.alloc (B.new wr #[.string s] 9) _) 0 rfl) hss
              rw [LM.obsFrom_length, HHN.out] at h
              exact h
            cases hcj : jx.contains j with
            | true =>
              rw [hcj] at HCT
              have HAE : Hid (LM.addIx jx j = jx) := by show _ = _; unfold LM.addIx; rw [if_pos hcj]
              rw [HAE.out] at HSTEP
              clear hcj
              go_wp2_with (go_at_call 51; refine HCT.out.mono ?_; rintro e w4 ⟨rfl, hb⟩; have HB4 := hideC (HB2.out.trans (hb.mono HB2.out.size)); have HOW4 := hideC (row_grown HOWi.out ((hba2.out.trans (hb.mono hba2.out.size)))); clear hb)
              go_roundw
              case rel => exact ⟨k + 1, jx, by go_num, by omega, HSTEP.out, HOX.out, hlx, HOW4.out, HB4.out⟩
              case measure => simp [intOf]; omega
            | false =>
              rw [hcj] at HCT
              have HAE : Hid (LM.addIx jx j = jx ++ [j]) := by show _ = _; unfold LM.addIx; rw [if_neg (by rw [hcj]; decide)]
              rw [HAE.out] at HSTEP HOXA
              clear hcj
              have hlast : jx.length - 1 < jx.length := by omega
              have hlast2 : jx.length - 1 < (LM.obsFrom all 1 jx).length := by rw [LM.obsFrom_length]; exact hlast
              have hat2 := LM.obsFrom_at all jx 1 (jx.length - 1) hlast
              have hjo := HOX.out.lt _ (LM.getD_mem jx (jx.length - 1) hlast)
              have hbd := LM.endFrom_bounds all HG.out.chk (jx.take (jx.length - 1)) 1 (fun j hj => HOX.out.lt j (List.mem_of_mem_take hj))
              have htl : (jx.take (jx.length - 1)).length = jx.length - 1 := by rw [List.length_take]; omega
              rw [htl] at hbd
              have hend := LM.obsFrom_last all jx 1 hps2
              have HCK : Hid (M.chkN (LM.obAt (LM.obsFrom all 1 jx) (jx.length - 1)).i = 0) := by show _ = _; rw [hat2.1]; exact HG.out.chk _ hjo
              have hb0 : 0 ≤ (LM.obAt (LM.obsFrom all 1 jx) (jx.length - 1)).base ∧ (LM.obAt (LM.obsFrom all 1 jx) (jx.length - 1)).base ≤ 100000 := by rw [hat2.2.2]; omega
              have HLI := hideC (HLIE2.out (jx.length - 1) hlast2)
              rw [Nat.zero_add] at HLI
              rw [← hend] at HSN
              obtain ⟨o, ho⟩ : ∃ o, o = LM.obAt (LM.obsFrom all 1 jx) (jx.length - 1) := ⟨_, rfl⟩
              rw [← ho] at HCK hb0 HLI HSN
              obtain ⟨eo, heo⟩ : ∃ eo, eo = LM.endO o := ⟨_, rfl⟩
              have HCE : Hid (∀ V, M.HasIm V o.a o.i → Calls Try.prog 20 #[.agg #[.string o.i.name, .slice o.a.an o.i.needs.length o.a.cn, .slice o.a.ag o.i.segs.length o.a.cg, .slice o.a.ay o.i.syms.length o.a.cy, .slice o.a.ar o.i.rels.length o.a.cr, .int .i64 o.i.entry, .int .i64 o.base]] V fun e w' => e = .returned (.int .i64 eo) ∧ Below V.heap.size V w') := fun V h => by
                rw [heo]
                exact end_any o V h HCK.out hb0.1 hb0.2
              rw [← heo] at HSN
              clear ho heo hend hat2 hjo hbd htl HCK hb0 hlast2
              have hj1 : (1 : Int) ≤ (jx.length : Int) := by omega
              have hj2 : 0 < jx.length := by omega
              have hwr : IntKind.i64.wrap ((jx.length : Int) - 1) = ((jx.length - 1 : Nat) : Int) := by rw [IntWalk.i64_in _ (by omega)]; omega
              go_wp2_with (go_at_call 51; refine HCT.out.mono ?_; rintro e w4 ⟨rfl, hb⟩; have HB4 := hideC (HB2.out.trans (hb.mono HB2.out.size)); have HBw := hideC (hba2.out.trans (hb.mono hba2.out.size)); have HOW4 := hideC (row_grown HOWi.out HBw.out); have BI4 : Hid (w4.heap[wr.heap.size + 1]? = some (.cells #[.string nm2, .slice an2 ns2.length cn2, .slice ag2 gs2.length cg2, .slice ay2 ys2.length cy2, .slice ar2 rs2.length cr2, .int .i64 en2] 27 (0, 0))) := (by have h := B.new (wr.alloc (.cells #[.string s] 9)) #[.string nm2, .slice an2 ns2.length cn2, .slice ag2 gs2.length cg2, .slice ay2 ys2.length cy2, .slice ar2 rs2.length cr2, .int .i64 en2] 27; rw [show (wr.alloc (.cells #[.string s] 9)).heap.size = wr.heap.size + 1 by simp] at h; exact B.below h hb (B.isLt h)); have HIM4 := hideC (HLI.out.2.below HBw.out); have HL4 := HLI.out.1; clear hb)
              have hbd4 := hideC (below_drew w4)
              have hgl4 : g2 < w4.heap.size := Nat.lt_of_lt_of_le hgl2 HBw.out.size
              obtain ⟨l0, l1, l2, l3, l4, l5, l6⟩ := HL4
              have d0 := (HBw.out.cell (p := ⟨g2, _, none⟩) hgl2).trans l0
              have d1 := (HBw.out.cell (p := ⟨g2, _, none⟩) hgl2).trans l1
              have d2 := (HBw.out.cell (p := ⟨g2, _, none⟩) hgl2).trans l2
              have d3 := (HBw.out.cell (p := ⟨g2, _, none⟩) hgl2).trans l3
              have d4 := (HBw.out.cell (p := ⟨g2, _, none⟩) hgl2).trans l4
              have d5 := (HBw.out.cell (p := ⟨g2, _, none⟩) hgl2).trans l5
              have d6 := (HBw.out.cell (p := ⟨g2, _, none⟩) hgl2).trans l6
              have i0' := B.cell BI4.out 0 rfl
              have i1' := B.cell BI4.out 1 rfl
              have i2' := B.cell BI4.out 2 rfl
              have i3' := B.cell BI4.out 3 rfl
              have i4' := B.cell BI4.out 4 rfl
              have i5' := B.cell BI4.out 5 rfl
              clear l0 l1 l2 l3 l4 l5 l6
              go_region_law (first
                | (refine step_append_lies _ rfl _ _ 55 rfl (w.heap.size + 1) 59 i0 (.agg #[.string ⟨#[]⟩, .slice none 0 0, .slice none 0 0, .slice none 0 0, .slice none 0 0, .int .i64 0, .int .i64 0]) 7 128 Try.underlying55 hi hz0 hz1 hz2 rfl (by decide) _ _ _ rfl HOW5.out ⟨w5.heap.size, 0, none⟩ 1 1 [.string nm2, .slice an2 ns2.length cn2, .slice ag2 gs2.length cg2, .slice ay2 ys2.length cy2, .slice ar2 rs2.length cr2, .int .i64 en2, .int .i64 eo] rfl rfl (B.news HN5.out) (by intro u hu; simp at hu; rcases hu with rfl | rfl | rfl | rfl | rfl | rfl | rfl <;> rfl) (by decide) (by unfold maxLen; omega) (by omega) (by have := HB5.out.size; simp; omega) (w5.heap.size + 1) (by simp) ?_; intro gg capg w6 hown6 hgrow hatt hlt6; have HOW6 := hideC hown6; have HB6 := hideC ((HB5.out.alloc HB5.out.size (.cells #[.string nm2, .slice an2 ns2.length cn2, .slice ag2 gs2.length cg2, .slice ay2 ys2.length cy2, .slice ar2 rs2.length cr2, .int .i64 en2, .int .i64 eo] 59)).grown hgrow (by have := HB5.out.size; simp; omega) (fun q hq => by have := hrow5.out _ hq; omega)); clear hown6 hgrow hatt)
                | (go_simp; go_at_call 20; refine (HCE.out _ (HIM4.out.below hbd4.out)).mono ?_; rintro e w5 ⟨rfl, hb5⟩; have HB5 := hideC ((HB4.out.trans (hbd4.out.mono HB4.out.size)).trans (hb5.mono (HB4.out.trans (hbd4.out.mono HB4.out.size)).size)); have HBw5 := hideC (hbd4.out.trans hb5); have HOW5 := hideC ((row_grown HOW4.out HBw5.out).alloc (.cells #[.string nm2, .slice an2 ns2.length cn2, .slice ag2 gs2.length cg2, .slice ay2 ys2.length cy2, .slice ar2 rs2.length cr2, .int .i64 en2, .int .i64 eo] 59)); have hrow5 : Hid (∀ q, (Value.slice (some ⟨g2, 0, none⟩) jx.length cap2).ownBlock = some q → w.heap.size + 1 ≤ q ∧ q < (w5.alloc (.cells #[.string nm2, .slice an2 ns2.length cn2, .slice ag2 gs2.length cg2, .slice ay2 ys2.length cy2, .slice ar2 rs2.length cr2, .int .i64 en2, .int .i64 eo] 59)).heap.size) := HOW5.out.lt; have HN5 := hideC (B.new w5 #[.string nm2, .slice an2 ns2.length cn2, .slice ag2 gs2.length cg2, .slice ay2 ys2.length cy2, .slice ar2 rs2.length cr2, .int .i64 en2, .int .i64 eo] 59); have BI5 := hideC (B.below BI4.out HBw5.out (B.isLt BI4.out)); have j0 := B.cell BI5.out 0 rfl; have j1 := B.cell BI5.out 1 rfl; have j2 := B.cell BI5.out 2 rfl; have j3 := B.cell BI5.out 3 rfl; have j4 := B.cell BI5.out 4 rfl; have j5 := B.cell BI5.out 5 rfl; clear hb5; go_simp))
              all_goals
                go_wp2
                go_roundw
                case rel => exact ⟨k + 1, jx ++ [j], by go_num, by omega, HSTEP.out, HOXA.out, by rw [List.length_append]; omega, by rw [HSN.out, List.flatMap_append, List.length_append]; exact HOW6.out, HB6.out⟩
                case measure => simp [intOf]; omega
        · obtain rfl : k = nd.length := by omega
          have HE := hideC (HSOME.out jx HORD.out)
          clear hb
          go_wp2
          go_roundw
          case rel => exact ⟨n + 1, jx, by go_num, HOX.out, by omega, by rw [HF.out]; exact HE.out, HOWi.out, HBi.out⟩
          case measure => simp [intOf]; omega
    · obtain rfl : n = ix.length := by omega
      have HE : Hid (R = some ix) := by
        show _ = _
        rw [← HGT.out]
        exact LM.gat_end all _ _ ix (by omega)
      have HHO : Hid (LM.HasO wr (some ⟨g, 0, none⟩) (LM.obsFrom all 1 ix)) := fun _ => ⟨g, 0, rfl, hgl, hlie⟩
      clear hx hgt hown hb hlie
      go_wp2
      go_ret2
      show OutG all R w _ _
      rw [HE.out]
      exact ⟨HBr.out, HX.out, some ⟨g, 0, none⟩, cap, rfl, HHO.out⟩
end Go.Proofs.Yteieplodndfbhaa.LW
/- The reading of a list of areas that came in. -/
namespace Go.Proofs.Yteieplodndfbhaa.AW
open Go.RowKit Go.Deep
set_option linter.unusedVariables false
set_option maxRecDepth 100000

theorem cells24 : Try.prog.cellsOf 99 = 4 := by kernel_rfl
theorem cells3 : Try.prog.cellsOf 3 = 1 := by kernel_rfl
theorem cells4 : Try.prog.cellsOf 4 = 1 := by kernel_rfl

theorem i64_of (n : Int) (h : (Lit.int .i64 n).wf = true) : I64 n := by
  simp only [Lit.wf, IntKind.min, IntKind.max, IntKind.signed, IntKind.bits, Bool.and_eq_true, decide_eq_true_eq, if_true] at h
  unfold I64
  omega

section
variable {H : Type} {enc : TypeId × Value → H} {w : World} {base : Nat} {spare : Nat → Bool} {held : Bool}

theorem one_area {n : Nat} {a : Addr} {cs : List Value} {x : DataW H × List MemPlace} (hc : w.cells? base a 4 = some cs) (h : DataW.trod enc Try.prog w base spare held n 99 cs = some x) :
    ∃ q : Int × Int × Int × Bool, w.cell? (a.add 0) = some (.int .i64 q.1) ∧ w.cell? (a.add 1) = some (.int .i64 q.2.1) ∧ w.cell? (a.add 2) = some (.int .i64 q.2.2.1) ∧ w.cell? (a.add 3) = some (.bool q.2.2.2) ∧ I64 q.1 ∧ I64 q.2.1 ∧ I64 q.2.2.1 := by
  obtain ⟨_, hlen, hcell⟩ := World.cells?_some hc
  obtain ⟨xs, k, hk, hxy, _, hxl, hf⟩ := DataW.trod_struct Try.underlying99 h
  match cs, hlen with
  | [v0, v1, v2, v3], _ =>
    have g0 : DataW.trod enc Try.prog w base spare held k 3 (([v0, v1, v2, v3].drop 0).take (Try.prog.cellsOf 3)) = xs[0]? := hf 0 _ rfl
    have g1 : DataW.trod enc Try.prog w base spare held k 3 (([v0, v1, v2, v3].drop 1).take (Try.prog.cellsOf 3)) = xs[1]? := hf 1 _ rfl
    have g2 : DataW.trod enc Try.prog w base spare held k 3 (([v0, v1, v2, v3].drop 2).take (Try.prog.cellsOf 3)) = xs[2]? := hf 2 _ rfl
    have g3 : DataW.trod enc Try.prog w base spare held k 4 (([v0, v1, v2, v3].drop 3).take (Try.prog.cellsOf 4)) = xs[3]? := hf 3 _ rfl
    simp only [cells3, cells4] at g0 g1 g2 g3
    have e0 := hcell 0 (by omega)
    have e1 := hcell 1 (by omega)
    have e2 := hcell 2 (by omega)
    have e3 := hcell 3 (by omega)
    match xs, hxl with
    | [y0, y1, y2, y3], _ =>
      obtain ⟨m0, c0, _, w0⟩ := DataW.trod_int Try.underlying3 (show DataW.trod enc Try.prog w base spare held k 3 [v0] = some y0 from g0)
      obtain ⟨m1, c1, _, w1⟩ := DataW.trod_int Try.underlying3 (show DataW.trod enc Try.prog w base spare held k 3 [v1] = some y1 from g1)
      obtain ⟨m2, c2, _, w2⟩ := DataW.trod_int Try.underlying3 (show DataW.trod enc Try.prog w base spare held k 3 [v2] = some y2 from g2)
      obtain ⟨b3, c3, _⟩ := DataW.trod_bool Try.underlying4 (show DataW.trod enc Try.prog w base spare held k 4 [v3] = some y3 from g3)
      simp only [List.cons.injEq, and_true] at c0 c1 c2 c3
      subst c0; subst c1; subst c2; subst c3
      exact ⟨(m0, m1, m2, b3), e0, e1, e2, e3, i64_of _ w0, i64_of _ w1, i64_of _ w2⟩

theorem open_areas {fuel : Nat} {a0 : Option Addr} {len cap : Nat} {x : DataW H × List MemPlace} (h : DataW.trod enc Try.prog w base spare held fuel 29 [.slice a0 len cap] = some x) :
    ∃ l : List AM.Ar, l.length = len ∧ Has w (.slice a0 len cap) l ∧ (∀ i, i < l.length → AM.Fits (AM.at_ l i)) ∧ (len = 0 ∨ ∃ el sp, x.1 = .slice el sp ∧ el.length = len) := by
  rcases open_slice Try.underlying29 h with ⟨hcs, _⟩ | ⟨a, len', cap', m, n, D, Pl, hcs, hb, hl, hm, hmm, rfl, hx⟩
  · simp at hcs
    obtain ⟨rfl, rfl, rfl⟩ := hcs
    exact ⟨[], rfl, ⟨none, 0, rfl, .inl rfl⟩, fun i hi => by simp at hi, .inl rfl⟩
  · simp at hcs
    obtain ⟨rfl, rfl, rfl⟩ := hcs
    have hlm : len ≤ m := by rw [hmm]; split <;> omega
    have each : ∀ i, i < len → ∃ q : Int × Int × Int × Bool, w.cell? (a.add (i * 4)) = some (.int .i64 q.1) ∧ w.cell? (a.add (i * 4 + 1)) = some (.int .i64 q.2.1) ∧ w.cell? (a.add (i * 4 + 2)) = some (.int .i64 q.2.2.1) ∧ w.cell? (a.add (i * 4 + 3)) = some (.bool q.2.2.2) ∧ I64 q.1 ∧ I64 q.2.1 ∧ I64 q.2.2.1 := by
      intro i hi
      obtain ⟨cs', h1, h2⟩ := hx i (by omega)
      rw [cells24] at h1
      obtain ⟨q, e0, e1, e2, e3, f⟩ := one_area h1 h2
      rw [add_add] at e0 e1 e2 e3
      exact ⟨q, e0, e1, e2, e3, f⟩
    obtain ⟨g, hg⟩ := choose_lt each
    have hat : ∀ i, i < len → AM.at_ ((List.range len).map fun i => (⟨(g i).1, (g i).2.1, (g i).2.2.1, (g i).2.2.2⟩ : AM.Ar)) i = ⟨(g i).1, (g i).2.1, (g i).2.2.1, (g i).2.2.2⟩ := by
      intro i hi
      simp [AM.at_, hi]
    refine ⟨(List.range len).map fun i => ⟨(g i).1, (g i).2.1, (g i).2.2.1, (g i).2.2.2⟩, by simp, ?_, fun i hi => ?_, .inr ⟨_, _, rfl, by simp⟩⟩
    · by_cases h0 : len = 0
      · subst h0
        exact ⟨some a, cap, by simp, .inl (by simp)⟩
      · obtain ⟨b, off, spot⟩ := a
        have hc := (hg 0 (by omega)).1
        have hspot : spot = none := by simpa [Addr.add] using World.cell?_spot hc
        subst hspot
        refine ⟨some ⟨b, off, none⟩, cap, by simp, .inr ⟨b, off, rfl, fun i hi => ?_⟩⟩
        have hi' : i < len := by simpa using hi
        rw [hat i hi']
        obtain ⟨e0, e1, e2, e3, _⟩ := hg i hi'
        rw [Addr.add_lit] at e0 e1 e2 e3
        exact ⟨e0, by rw [Nat.add_assoc]; exact e1, by rw [Nat.add_assoc]; exact e2, by rw [Nat.add_assoc]; exact e3⟩
    · have hi' : i < len := by simpa using hi
      rw [hat i hi']
      obtain ⟨_, _, _, _, f1, f2, f3⟩ := hg i hi'
      exact ⟨f1, f2, f3⟩
end
end Go.Proofs.Yteieplodndfbhaa.AW
