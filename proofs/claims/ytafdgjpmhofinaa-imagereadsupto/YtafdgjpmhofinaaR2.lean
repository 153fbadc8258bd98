import Derived.Test.YtafdgjpmhofinaaWB
import Derived.Test.YtafdgjpmhofinaaR1
namespace Go.Proofs.Ytafdgjpmhofinaa.W
open Go.RowKit
set_option linter.unusedVariables false

/-- which segment holds the address, counted from k on; -1: none -/
def ownFrom : List M.Sg → Int → Nat → Int
  | [], _, _ => -1
  | s :: r, a, k => if M.inSeg s a then (k : Int) else ownFrom r a (k + 1)
def ownN (l : List M.Sg) (a : Int) : Int := ownFrom l a 0
theorem ownFrom_none : ∀ (l : List M.Sg) (a : Int) (n : Nat), (∀ j, j < l.length → M.inSeg (M.sgAt l j) a = false) → ownFrom l a n = -1
  | [], _, _, _ => rfl
  | s :: r, a, n, h => by
    have h0 : M.inSeg s a = false := h 0 (by simp)
    unfold ownFrom
    rw [h0, if_neg (by simp)]
    exact ownFrom_none r a (n + 1) (fun j hj => h (j + 1) (by simpa using hj))
theorem ownFrom_some : ∀ (l : List M.Sg) (a : Int) (n k : Nat), k < l.length → (∀ j, j < k → M.inSeg (M.sgAt l j) a = false) → M.inSeg (M.sgAt l k) a = true → ownFrom l a n = ((n + k : Nat) : Int)
  | s :: r, a, n, 0, _, _, h => by
    have h0 : M.inSeg s a = true := h
    unfold ownFrom
    rw [h0, if_pos rfl]
    rfl
  | s :: r, a, n, k + 1, hk, hj, h => by
    have h0 : M.inSeg s a = false := hj 0 (by omega)
    unfold ownFrom
    rw [h0, if_neg (by simp), ownFrom_some r a (n + 1) k (by simpa using hk) (fun j h => hj (j + 1) (by omega)) h]
    congr 1
    omega
theorem own_none (l : List M.Sg) (a : Int) (h : ∀ j, j < l.length → M.inSeg (M.sgAt l j) a = false) : ownN l a = -1 := ownFrom_none l a 0 h
theorem own_some (l : List M.Sg) (a : Int) (k : Nat) (hk : k < l.length) (hj : ∀ j, j < k → M.inSeg (M.sgAt l j) a = false) (h : M.inSeg (M.sgAt l k) a = true) : ownN l a = (k : Int) := by
  unfold ownN
  rw [ownFrom_some l a 0 k hk hj h, Nat.zero_add]
theorem first_or (l : List M.Sg) (a : Int) : ∀ n, n ≤ l.length → (∀ j, j < n → M.inSeg (M.sgAt l j) a = false) ∨ ∃ k, k < n ∧ (∀ j, j < k → M.inSeg (M.sgAt l j) a = false) ∧ M.inSeg (M.sgAt l k) a = true
  | 0, _ => .inl fun j h => by omega
  | n + 1, hn => by
    rcases first_or l a n (by omega) with h | ⟨k, hk, h1, h2⟩
    · cases e : M.inSeg (M.sgAt l n) a
      · exact .inl fun j hj => if g : j = n then by rw [g]; exact e else h j (by omega)
      · exact .inr ⟨n, by omega, h, e⟩
    · exact .inr ⟨k, by omega, h1, h2⟩
theorem own_cases (l : List M.Sg) (a : Int) : (M.placedB l a = true ∧ ∃ k, k < l.length ∧ ownN l a = (k : Int) ∧ segOr l a = M.sgAt l k) ∨ (M.placedB l a = false ∧ ownN l a = -1) := by
  rcases first_or l a l.length (Nat.le_refl _) with h | ⟨k, hk, h1, h2⟩
  · exact .inr ⟨by unfold M.placedB; rw [segIn_none l a h]; rfl, own_none l a h⟩
  · exact .inl ⟨by unfold M.placedB; rw [segIn_some l a k hk h1 h2]; rfl, k, hk, own_some l a k hk h1 h2, by unfold segOr; rw [segIn_some l a k hk h1 h2]; rfl⟩

set_option maxRecDepth 100000 in
set_option maxHeartbeats 1500000 in
theorem owner_any (i : M.Im) (a : M.At) (w : World) (p : Int) (hp : M.I64 p) (h : M.HasIm w a i) (hf : M.Fit i) (hr : i.segs.all M.rangeB = true) : Calls Try.prog 44 #[.agg (M.cellsI a i), .int .i64 p] w fun e w' => e = .returned (.int .i64 (ownN i.segs p)) ∧ Below w.heap.size w w' := by
  obtain ⟨an, cn, ag, cg, ay, cy, ar, cr⟩ := a
  obtain ⟨nm, ns, gs, ys, rs, en⟩ := i
  obtain ⟨h1, h2, h3, h4⟩ := h
  obtain ⟨f1, f2, f3, f4, f5, f6, f7, f8, f9, f10⟩ := hf
  simp only at h1 h2 h3 h4 f1 f2 f3 f4 f5 f6 f7 f8 f9 f10
  have F4 := hideC f4
  unfold M.Short at f2 f4 f6 f8
  simp only [M.cellsI]
  have H1 := hideC h1
  have H2 := hideC h2
  have H3 := hideC h3
  have H4 := hideC h4
  have F3 := hideC f3
  have F7 := hideC f7
  have F9 := hideC f9
  have F10 := hideC f10
  have HG := hideC hr
  clear h1 h2 h3 h4 f3 f5 f7 f9 f10 hr
  have BOX := hideC (B.new w #[.string nm, .slice an ns.length cn, .slice ag gs.length cg, .slice ay ys.length cy, .slice ar rs.length cr, .int .i64 en] 27)
  have HB0 := hideC ((Below.refl w.heap.size w).alloc (Nat.le_refl _) (.cells #[.string nm, .slice an ns.length cn, .slice ag gs.length cg, .slice ay ys.length cy, .slice ar rs.length cr, .int .i64 en] 27))
  obtain ⟨X, hX⟩ : ∃ X : Array Value, X = #[.string nm, .slice an ns.length cn, .slice ag gs.length cg, .slice ay ys.length cy, .slice ar rs.length cr, .int .i64 en] := ⟨_, rfl⟩
  have HX := hideC hX
  rw [← hX] at BOX HB0
  clear hX
  unfold M.I64 at hp
  go_enter Try.func44, Try.ntmps44
  go_wp2
  rw [← HX.out]
  go_loopw [5] (fun i wr => ∃ k : Nat, k ≤ gs.length ∧ i = .int .i64 k ∧ (∀ j, j < k → M.inSeg (M.sgAt gs j) p = false) ∧ wr.heap[w.heap.size]? = some (.cells X 27 (0, 0)) ∧ Below w.heap.size w wr) (fun i _ => gs.length - (intOf i).toNat)
  case atStart => exact ⟨0, by omega, rfl, fun j h => by omega, BOX.out, HB0.out⟩
  case round =>
    obtain ⟨k, hk, rfl, hall, hbox, hb⟩ := hrel
    have HA := hideC hall
    have BX := hideC hbox
    have HB := hideC hb
    have bx2 := B.cell hbox 2 (by rw [HX.out]; rfl)
    clear hall hbox
    by_cases hlt : k < gs.length
    · obtain ⟨b, off, hao, hbl, hl⟩ := H2.out (by omega)
      have hli : (k : Int) < (gs.length : Int) := by omega
      obtain ⟨c0, c1, c2, c3, c4⟩ := M.lieG hb hbl hl k hlt
      obtain ⟨g1, g2, g3, g4⟩ := range_at HG.out k hlt
      obtain ⟨s, hs⟩ : ∃ s, s = M.sgAt gs k := ⟨_, rfl⟩
      rw [← hs] at c0 c1 c2 c3 c4 g1 g2 g3 g4
      have HS := hideC hs
      clear hs hb hl g4
      obtain ⟨sp, sn, sd, sx, sy⟩ := s
      simp only at c0 c1 c2 c3 c4 g1 g2 g3
      subst hao
      have BX1 := hideC (B.alloc BX.out (.cells #[.int .i64 sp, .int .i64 sn, .string sd, .bool sx, .bool sy] 48))
      have HB1 := hideC (HB.out.alloc HB.out.size (.cells #[.int .i64 sp, .int .i64 sn, .string sd, .bool sx, .bool sy] 48))
      by_cases d1 : sp * 16 ≤ p
      · by_cases d2 : p < (sp + sn) * 16
        · have HR := hideC (own_some gs p k hlt HA.out (by rw [← HS.out]; exact decide_eq_true (show sp * 16 ≤ p ∧ p < (sp + sn) * 16 from ⟨d1, d2⟩)))
          go_wp2
          go_ret
          exact ⟨ret_i64 HR.out.symm, HB1.out⟩
        · have hmiss : Hid (M.inSeg (M.sgAt gs k) p = false) := by show _ = _; rw [← HS.out]; exact decide_eq_false (show ¬ (sp * 16 ≤ p ∧ p < (sp + sn) * 16) by omega)
          go_wp2
          go_roundw
          case rel => exact ⟨k + 1, by omega, by go_num, fun j hj => if e : j = k then by rw [e]; exact hmiss.out else HA.out j (by omega), BX1.out, HB1.out⟩
          case measure => simp [intOf]; omega
      · have hmiss : Hid (M.inSeg (M.sgAt gs k) p = false) := by show _ = _; rw [← HS.out]; exact decide_eq_false (show ¬ (sp * 16 ≤ p ∧ p < (sp + sn) * 16) by omega)
        have d1' : decide (sp * 16 ≤ p) = false := decide_eq_false d1
        go_wp2
        go_roundw
        case rel => exact ⟨k + 1, by omega, by go_num, fun j hj => if e : j = k then by rw [e]; exact hmiss.out else HA.out j (by omega), BX1.out, HB1.out⟩
        case measure => simp [intOf]; omega
    · obtain rfl : k = gs.length := by omega
      clear hb
      have HR := hideC (own_none gs p HA.out)
      go_wp2
      go_ret
      exact ⟨ret_i64 HR.out.symm, HB.out⟩

theorem toList_ne {s t : ByteArray} (h : ¬ s = t) : ¬ s.toList = t.toList := fun e => h (by
  rw [Lib.toList_data, Lib.toList_data] at e
  cases s; cases t
  congr 1
  exact Array.toList_inj.1 e)
/-- the name at k is none of the first n -/
theorem notin_step (l : List ByteArray) (k n : Nat) (hn : n < l.length) (h : (l.take n).contains (M.strAt l k) = false) (hne : ¬ M.strAt l k = M.strAt l n) : (l.take (n + 1)).contains (M.strAt l k) = false := by
  rw [contains_step l n hn, h, Bool.false_or]
  simpa using hne
theorem once_no (l : List ByteArray) (k n : Nat) (hk : k < l.length) (hn : n < k) (he : M.strAt l k = M.strAt l n) : M.onceB l = false := by
  refine once_mono l (k + 1) l.length ?_ hk
  have : (l.take k).contains (M.strAt l k) = true := by
    rw [he]
    have h1 : M.strAt l n ∈ l.take k := by
      have hlt : n < (l.take k).length := by simp; omega
      have : (l.take k)[n] = M.strAt l n := by
        unfold M.strAt
        rw [List.getElem_take, List.getD_eq_getElem?_getD, List.getElem?_eq_getElem (by omega)]
        rfl
      rw [← this]
      exact List.getElem_mem hlt
    simpa using h1
  simp only [M.onceTo]
  rw [this]
  simp

set_option maxRecDepth 100000 in
set_option maxHeartbeats 1500000 in
theorem alike_any (l : List ByteArray) (ao : Option Addr) (cap : Nat) (w : World) (h : M.HasBy M.LieS w ao l) (hn : M.Short l.length) (hf : ∀ k, k < l.length → M.Short (M.strAt l k).size) :
    Calls Try.prog 17 #[.slice ao l.length cap] w fun e w' => e = .returned (.bool (!M.onceB l)) ∧ Below w.heap.size w w' := by
  unfold M.Short at hn
  have H := hideC h
  have F := hideC hf
  clear h hf
  go_enter Try.func17, Try.ntmps17
  go_wp2
  go_loopw [3] (fun i wr => ∃ k : Nat, k ≤ l.length ∧ i = .int .i64 k ∧ M.onceTo l k = true ∧ Below w.heap.size w wr) (fun i _ => l.length - (intOf i).toNat)
  case atStart => exact ⟨0, by omega, rfl, rfl, Below.refl _ _⟩
  case round =>
    obtain ⟨k, hk, rfl, honce, hb⟩ := hrel
    have HO := hideC honce
    have HB := hideC hb
    clear honce hb
    by_cases hlt : k < l.length
    · obtain ⟨b, off, hao, hbl, hl⟩ := H.out (by omega)
      subst hao
      have HL := hideC hl
      clear hl
      have hli : (k : Int) < (l.length : Int) := by omega
      go_wp2
      go_loopw [4] (fun i wq => ∃ n : Nat, n ≤ k ∧ i = .int .i64 n ∧ (l.take n).contains (M.strAt l k) = false ∧ Below w.heap.size w wq) (fun i _ => k - (intOf i).toNat)
      case atStart => exact ⟨0, by omega, rfl, rfl, HB.out⟩
      case round =>
        obtain ⟨n, hn', rfl, hno, hb⟩ := hrel
        have HN := hideC hno
        have HB2 := hideC hb
        clear hno
        by_cases hnk : n < k
        · have hnk' : (n : Int) < (k : Int) := by omega
          have hnl : (n : Int) < (l.length : Int) := by omega
          have c0 := M.lieS hb hbl HL.out k hlt
          have c1 := M.lieS hb hbl HL.out n (by omega)
          have HST := hideC (notin_step l k n (by omega) HN.out)
          have HNO := hideC (once_no l k n hlt hnk)
          obtain ⟨s, hs⟩ : ∃ s, s = M.strAt l k := ⟨_, rfl⟩
          obtain ⟨t, ht⟩ : ∃ t, t = M.strAt l n := ⟨_, rfl⟩
          rw [← hs] at c0
          rw [← ht] at c1
          rw [← hs, ← ht] at HST HNO
          have HS := hideC hs
          have hkin := Q.kin_some wr
          have hbq : b < wr.heap.size := Nat.lt_of_lt_of_le hbl HB2.out.size
          have k0 : ∀ x : Q.Kin wr.heap.size wr, x.world.cell? ⟨b, off + k, none⟩ = some (.string s) := fun x => by rw [Q.cell_kin x _ _ hbq, c0]
          have k1 : ∀ x : Q.Kin wr.heap.size wr, x.world.cell? ⟨b, off + n, none⟩ = some (.string t) := fun x => by rw [Q.cell_kin x _ _ hbq, c1]
          clear hs ht hb c0 c1
          by_cases hst : s = t
          · have HR := hideC (HNO.out hst)
            clear HNO HST
            subst hst
            go_wp2
            refine Q.region_kin (by kernel_rfl) (by kernel_rfl) ?_
            repeat (first | go_big_quiet_step (fail) | quiet_step (fail))
            refine wpQuiet_nil ?_
            intro _ hw'
            obtain ⟨x, hw''⟩ := hw'
            subst hw''
            go_wp2
            go_ret
            exact ⟨ret_bool (by rw [HR.out]; rfl), HB2.out.trans (x.keeps.mono HB2.out.size)⟩
          · have HR := hideC (HST.out hst)
            clear HNO HST
            have hst1 := toList_ne hst
            have hst' : (s.toList == t.toList) = false := by simpa using hst1
            go_wp2
            refine Q.region_kin (by kernel_rfl) (by kernel_rfl) ?_
            repeat (first | go_big_quiet_step (fail) | quiet_step (fail))
            refine wpQuiet_nil ?_
            intro _ hw'
            obtain ⟨x, hw''⟩ := hw'
            subst hw''
            go_wp2
            go_roundw
            case rel => exact ⟨n + 1, by omega, by go_num, by rw [← HS.out]; exact HR.out, HB2.out.trans (x.keeps.mono HB2.out.size)⟩
            case measure => simp [intOf]; omega
        · obtain rfl : n = k := by omega
          have HNX : Hid (M.onceTo l (n + 1) = true) := by show (M.onceTo l n && !(l.take n).contains (M.strAt l n)) = true; rw [HO.out, HN.out]; rfl
          clear hb
          go_wp2
          go_roundw
          case rel => exact ⟨n + 1, by omega, by go_num, HNX.out, HB2.out⟩
          case measure => simp [intOf]; omega
    · obtain rfl : k = l.length := by omega
      go_wp2
      go_ret
      exact ⟨ret_bool (by unfold M.onceB; rw [HO.out]; rfl), HB.out⟩
end Go.Proofs.Ytafdgjpmhofinaa.W
