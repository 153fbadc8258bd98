/- Reading: the plain parser, and the program's reader. -/
import Derived.Test.YtafdgjpmhofinaaN6
import Derived.Recover
import Derived.Defers
namespace Go.Proofs.Ytafdgjpmhofinaa.W
open Go.RowKit
set_option linter.unusedVariables false

def numP (l : List UInt8) : Option (Int × List UInt8) := if 8 ≤ l.length then some (wrap64 ((Lib.leNat (l.take 8) : Nat) : Int), l.drop 8) else none
def takeP (n : Int) (l : List UInt8) : Option (ByteArray × List UInt8) := if 0 ≤ n ∧ n ≤ (l.length : Int) then some (⟨(l.take n.toNat).toArray⟩, l.drop n.toNat) else none
def textP (l : List UInt8) : Option (ByteArray × List UInt8) := match numP l with
  | none => none
  | some (n, l1) => takeP n l1
def flagP (l : List UInt8) : Option (Bool × List UInt8) := match numP l with
  | none => none
  | some (n, l1) => if n = 0 ∨ n = 1 then some (n == 1, l1) else none

/-- how a reading ends that finds no image -/
abbrev wrongE : Ending := .panicked [{ v := .iface 90 (.agg #[]), recovered := false }]
/-- the reader at block p has l to read yet -/
def Rd (p : Nat) (w : World) (s : ByteArray) (l : List UInt8) : Prop := ∃ k : Nat, k ≤ s.size ∧ s.data.toList.drop k = l ∧ w.heap[p]? = some (.cells #[.string s, .int .i64 k] 64 (0, 0))
/-- how a method of the reader ends -/
def Out {α : Type} (p : Nat) (s : ByteArray) (w : World) (val : α → Value) : Option (α × List UInt8) → Ending → World → Prop
  | some (v, l'), e, w' => e = .returned (val v) ∧ Rd p w' s l' ∧ Frm p w none w' none
  | none, e, w' => e = wrongE ∧ Frm p w none w' none
theorem Rd.lt {p : Nat} {w : World} {s : ByteArray} {l : List UInt8} (h : Rd p w s l) : p < w.heap.size := let ⟨_, _, _, h⟩ := h; B.isLt h
theorem Rd.keep {p : Nat} {w w' : World} {s : ByteArray} {l : List UInt8} (h : Rd p w s l) (hb : Below w.heap.size w w') : Rd p w' s l := by
  obtain ⟨k, h1, h2, h3⟩ := h
  exact ⟨k, h1, h2, B.below h3 hb (B.isLt h3)⟩

theorem must_yes (q : Value) (w : World) : Calls Try.prog 35 #[q, .bool true] w fun e w' => e = .returned (.tuple #[]) ∧ w = w' := by
  go_enter Try.func35, Try.ntmps35
  go_wp2
  go_end0
  exact ⟨rfl, rfl⟩
theorem must_no (q : Value) (w : World) : Calls Try.prog 35 #[q, .bool false] w fun e w' => e = wrongE ∧ w = w' := by
  go_enter Try.func35, Try.ntmps35
  go_wp2
  exact ⟨rfl, rfl, rfl⟩

theorem ext_take (s : ByteArray) (k m : Nat) : s.extract k (k + m) = ⟨((s.data.toList.drop k).take m).toArray⟩ := by
  apply ByteArray.ext
  rw [ByteArray.data_extract]
  apply Array.ext'
  simp [List.extract_eq_take_drop]
theorem below_drew' {B : Nat} {w w' : World} (h : Below B w w') : Below B w w'.drew := h.drew

set_option maxRecDepth 100000 in
set_option maxHeartbeats 1500000 in
theorem take_any (p : Nat) (s : ByteArray) (l : List UInt8) (n : Int) (w : World) (h : Rd p w s l) (hs : M.Short s.size) (hn : M.I64 n) :
    Calls Try.prog 61 #[.pointer (some ⟨p, 0, none⟩), .int .i64 n] w (Out p s w Value.string (takeP n l)) := by
  obtain ⟨k, hk, hl, hp⟩ := h
  unfold M.Short at hs
  unfold M.I64 at hn
  have HP := hideC hp
  have hpl := B.isLt hp
  have hll : l.length = s.size - k := by rw [← hl, List.length_drop, Lib.size_eq]
  have hkin := Q.kin_some w
  have k0 : ∀ x : Q.Kin w.heap.size w, x.world.cell? ⟨p, 0, none⟩ = some (.string s) := fun x => by rw [Q.cell_kin x _ _ hpl]; exact B.cell HP.out 0 rfl
  have k1 : ∀ x : Q.Kin w.heap.size w, x.world.cell? ⟨p, 1, none⟩ = some (.int .i64 (k : Int)) := fun x => by rw [Q.cell_kin x _ _ hpl]; exact B.cell HP.out 1 rfl
  have HLN := hideC hll
  by_cases hc : 0 ≤ n ∧ n ≤ (l.length : Int)
  · have HT : Hid (takeP n l = some (⟨(l.take n.toNat).toArray⟩, l.drop n.toNat)) := if_pos hc
    obtain ⟨m, hm⟩ : ∃ m : Nat, n = (m : Int) := ⟨n.toNat, by omega⟩
    subst hm
    have hkm : k + m ≤ s.size := by omega
    have HX : Hid (s.extract k (k + m) = ⟨(l.take m).toArray⟩) := by
      show _ = _
      rw [← hl]
      exact ext_take s k m
    rw [HT.out]
    clear hp hll hc
    obtain ⟨X, hX⟩ : ∃ X, X = s.extract k (k + m) := ⟨_, rfl⟩
    have HPT : Hid (∀ W, Calls Try.prog 65 #[.string s, .int .i64 (k : Int), .int .i64 (m : Int)] W fun e w' => e = .returned (.tuple #[.string X, .int .i64 0]) ∧ Below W.heap.size W w') := fun W => by rw [hX]; exact V.part_yes s k m W hs hkm
    rw [← hX] at HX
    clear hX
    go_enter Try.func61, Try.ntmps61
    go_wp2
    refine Q.region_kin (by kernel_rfl) (by kernel_rfl) ?_
    repeat (first | go_big_quiet_step ((go_at_call 65; exact Q.calls_kin HPT.out _)) | quiet_step ((go_at_call 65; exact Q.calls_kin HPT.out _)))
    refine wpQuiet_nil ?_
    intro _ hw'
    obtain ⟨x, hw''⟩ := hw'
    subst hw''
    have hB := B.below HP.out x.keeps hpl
    have c1 := B.cell hB 1 rfl
    have cf := B.free hB
    have hpx := B.isLt hB
    have HBX := hideC hB
    have HS := hideC (B.set hB 1 (.int .i64 ((k + m : Nat) : Int)))
    have HF : Hid (Frm p w none (x.world.setCell ⟨p, 1, none⟩ (.int .i64 ((k + m : Nat) : Int))) none) := ⟨(show Below p w x.world from x.keeps.mono (Nat.le_of_lt hpl)).setCell (Nat.le_refl _) _, fun b hb hbp _ => by rw [heap_setCell_other _ ⟨p, 1, none⟩ b _ hbp]; exact x.keeps.block b hb, .inl rfl⟩
    clear hB
    go_wp2_with (go_at_call 35; refine (must_yes _ _).mono ?_; rintro e w' ⟨rfl, rfl⟩)
    go_ret
    refine ⟨congrArg (fun z => Ending.returned (Value.string z)) HX.out, ⟨k + m, hkm, ?_, HS.out⟩, HF.out⟩
    rw [← hl, List.drop_drop]
    rfl
  · have HT : Hid (takeP n l = none) := if_neg hc
    have HNI : Hid (¬ (0 ≤ (k : Int) ∧ 0 ≤ n ∧ (k : Int) ≤ (s.size : Int) ∧ n ≤ (s.size : Int) - (k : Int))) := by
      intro hx
      exact hc (by omega)
    have HPT : Hid (∀ W : World, Calls Try.prog 65 #[.string s, .int .i64 (k : Int), .int .i64 n] W fun e w' => e = .returned (.tuple #[.string ⟨#[]⟩, .int .i64 3]) ∧ Below W.heap.size W w') := fun W => (V.part_no s k n W (by unfold maxLen; omega) HNI.out).mono fun e w' ⟨h1, h2⟩ => ⟨h1, by rw [← h2]; exact Below.refl _ _⟩
    rw [HT.out]
    clear hp hll hc
    go_enter Try.func61, Try.ntmps61
    go_wp2
    refine Q.region_kin (by kernel_rfl) (by kernel_rfl) ?_
    repeat (first | go_big_quiet_step ((go_at_call 65; exact Q.calls_kin HPT.out _)) | quiet_step ((go_at_call 65; exact Q.calls_kin HPT.out _)))
    refine wpQuiet_nil ?_
    intro _ hw'
    obtain ⟨x, hw''⟩ := hw'
    subst hw''
    go_wp2_with (go_at_call 35; refine (must_no _ _).mono ?_; rintro e w' ⟨rfl, rfl⟩)
    exact ⟨rfl, rfl, ⟨x.keeps.mono (Nat.le_of_lt hpl), fun b hb _ _ => x.keeps.block b hb, .inl rfl⟩⟩

theorem out_some {α : Type} {f : FuncId} {args : Array Value} {p : Nat} {s : ByteArray} {w : World} {val : α → Value} {o : Option (α × List UInt8)} (h : Calls Try.prog f args w (Out p s w val o)) {v : α} {l' : List UInt8} (ho : o = some (v, l')) :
    Calls Try.prog f args w fun e w' => e = .returned (val v) ∧ Rd p w' s l' ∧ Frm p w none w' none := by subst ho; exact h
theorem out_none {α : Type} {f : FuncId} {args : Array Value} {p : Nat} {s : ByteArray} {w : World} {val : α → Value} {o : Option (α × List UInt8)} (h : Calls Try.prog f args w (Out p s w val o)) (ho : o = none) :
    Calls Try.prog f args w fun e w' => e = wrongE ∧ Frm p w none w' none := by subst ho; exact h
/-- an int that is made of bytes is one -/
theorem wrap_i64 (n : Int) : M.I64 (wrap64 n) := by
  have := Z.bounds (wrap64 n) (wrap64_wf n)
  exact this
theorem numP_none {l : List UInt8} (h : numP l = none) : takeP 8 l = none := by
  unfold numP at h
  by_cases c : 8 ≤ l.length
  · rw [if_pos c] at h; cases h
  · exact if_neg (by omega)
theorem numP_some {l l' : List UInt8} {n : Int} (h : numP l = some (n, l')) : takeP 8 l = some (⟨(l.take 8).toArray⟩, l') ∧ 8 ≤ l.length ∧ n = wrap64 ((Lib.leNat (l.take 8) : Nat) : Int) ∧ l' = l.drop 8 := by
  unfold numP at h
  by_cases c : 8 ≤ l.length
  · rw [if_pos c] at h
    injection h with h
    injection h with h1 h2
    subst h1
    subst h2
    exact ⟨if_pos (by omega), c, rfl, rfl⟩
  · rw [if_neg c] at h; cases h

set_option maxRecDepth 100000 in
set_option maxHeartbeats 1500000 in
theorem number_rd (p : Nat) (s : ByteArray) (l : List UInt8) (w : World) (h : Rd p w s l) (hs : M.Short s.size) :
    Calls Try.prog 57 #[.pointer (some ⟨p, 0, none⟩)] w (Out p s w (Value.int .i64) (numP l)) := by
  have HR := hideC h
  clear h
  cases e : numP l with
  | none =>
    have HC := hideC (out_none (take_any p s l 8 w HR.out hs (by unfold M.I64; omega)) (numP_none e))
    go_enter Try.func57, Try.ntmps57
    go_wp2_with (go_at_call 61; refine HC.out.mono ?_; rintro e w' ⟨rfl, hf⟩; have HF := hideC hf; clear hf)
    exact ⟨rfl, rfl, HF.out⟩
  | some r =>
    obtain ⟨n, l'⟩ := r
    obtain ⟨e1, e2, e3, e4⟩ := numP_some e
    have HC := hideC (out_some (take_any p s l 8 w HR.out hs (by unfold M.I64; omega)) e1)
    obtain ⟨T, hT⟩ : ∃ T : ByteArray, T = ⟨(l.take 8).toArray⟩ := ⟨_, rfl⟩
    have hTs : T.size = 8 := by rw [hT, Lib.size_eq]; simp; omega
    have HG : Hid (∀ W, Calls Try.prog 63 #[.string T] W fun e w' => e = .returned (.tuple #[.int .i64 n, .int .i64 0]) ∧ W = w') := fun W => by
      have h := V.get_yes T W (by omega) (by omega)
      rw [show T.data.toList = l.take 8 by rw [hT], ← e3] at h
      exact h
    rw [← hT] at HC
    clear e e1 e2 e3 e4 hT
    go_enter Try.func57, Try.ntmps57
    go_wp2_with (first | (go_at_call 61; refine HC.out.mono ?_; rintro e w' ⟨rfl, hr, hf⟩; have HF := hideC hf; have HR1 := hideC hr; clear hf hr) | (go_at_call 63; refine (HG.out _).mono ?_; rintro e w'' ⟨rfl, rfl⟩) | (go_at_call 35; refine (must_yes _ _).mono ?_; rintro e w'' ⟨rfl, rfl⟩))
    go_ret
    exact ⟨rfl, HR1.out, HF.out⟩

set_option maxRecDepth 100000 in
set_option maxHeartbeats 1500000 in
theorem text_rd (p : Nat) (s : ByteArray) (l : List UInt8) (w : World) (h : Rd p w s l) (hs : M.Short s.size) :
    Calls Try.prog 49 #[.pointer (some ⟨p, 0, none⟩)] w (Out p s w Value.string (textP l)) := by
  have HR := hideC h
  clear h
  cases e : numP l with
  | none =>
    have HT : Hid (textP l = none) := by show _ = _; unfold textP; rw [e]
    have HC := hideC (out_none (number_rd p s l w HR.out hs) e)
    rw [HT.out]
    go_enter Try.func49, Try.ntmps49
    go_wp2_with (go_at_call 57; refine HC.out.mono ?_; rintro e w' ⟨rfl, hf⟩; have HF := hideC hf; clear hf)
    exact ⟨rfl, rfl, HF.out⟩
  | some r =>
    obtain ⟨n, l1⟩ := r
    have HT : Hid (textP l = takeP n l1) := by show _ = _; unfold textP; rw [e]
    have HC := hideC (out_some (number_rd p s l w HR.out hs) e)
    have hn : M.I64 n := by rw [(numP_some e).2.2.1]; exact wrap_i64 _
    rw [HT.out]
    clear HT
    cases e2 : takeP n l1 with
    | none =>
      go_enter Try.func49, Try.ntmps49
      go_wp2_with (first | (go_at_call 57; refine HC.out.mono ?_; rintro e w' ⟨rfl, hr, hf⟩; have HF := hideC hf; have HR1 := hideC hr; clear hf hr) | (go_at_call 61; refine (out_none (take_any p s l1 n _ HR1.out hs hn) e2).mono ?_; rintro e w2 ⟨rfl, hf⟩; have HF := hideC (HF.out.trans hf); clear hf))
      exact ⟨rfl, rfl, HF.out⟩
    | some r2 =>
      obtain ⟨x, l2⟩ := r2
      go_enter Try.func49, Try.ntmps49
      go_wp2_with (first | (go_at_call 57; refine HC.out.mono ?_; rintro e w' ⟨rfl, hr, hf⟩; have HF := hideC hf; have HR1 := hideC hr; clear hf hr) | (go_at_call 61; refine (out_some (take_any p s l1 n _ HR1.out hs hn) e2).mono ?_; rintro e w2 ⟨rfl, hr, hf⟩; have HF := hideC (HF.out.trans hf); have HR2 := hideC hr; clear hf hr))
      go_ret
      exact ⟨rfl, HR2.out, HF.out⟩

set_option maxRecDepth 100000 in
set_option maxHeartbeats 1500000 in
theorem flag_rd (p : Nat) (s : ByteArray) (l : List UInt8) (w : World) (h : Rd p w s l) (hs : M.Short s.size) :
    Calls Try.prog 62 #[.pointer (some ⟨p, 0, none⟩)] w (Out p s w Value.bool (flagP l)) := by
  have HR := hideC h
  clear h
  cases e : numP l with
  | none =>
    have HT : Hid (flagP l = none) := by show _ = _; unfold flagP; rw [e]
    have HC := hideC (out_none (number_rd p s l w HR.out hs) e)
    rw [HT.out]
    go_enter Try.func62, Try.ntmps62
    go_wp2_with (go_at_call 57; refine HC.out.mono ?_; rintro e w' ⟨rfl, hf⟩; have HF := hideC hf; clear hf)
    exact ⟨rfl, rfl, HF.out⟩
  | some r =>
    obtain ⟨n, l1⟩ := r
    have HT : Hid (flagP l = if n = 0 ∨ n = 1 then some (n == 1, l1) else none) := by show _ = _; unfold flagP; rw [e]
    have HC := hideC (out_some (number_rd p s l w HR.out hs) e)
    rw [HT.out]
    clear HT e
    by_cases h0 : n = 0
    · subst h0
      go_enter Try.func62, Try.ntmps62
      go_wp2_with (first | (go_at_call 57; refine HC.out.mono ?_; rintro e w' ⟨rfl, hr, hf⟩; have HF := hideC hf; have HR1 := hideC hr; clear hf hr) | (go_at_call 35; refine (must_yes _ _).mono ?_; rintro e w'' ⟨rfl, rfl⟩))
      go_ret
      exact ⟨rfl, HR1.out, HF.out⟩
    · by_cases h1 : n = 1
      · subst h1
        go_enter Try.func62, Try.ntmps62
        go_wp2_with (first | (go_at_call 57; refine HC.out.mono ?_; rintro e w' ⟨rfl, hr, hf⟩; have HF := hideC hf; have HR1 := hideC hr; clear hf hr) | (go_at_call 35; refine (must_yes _ _).mono ?_; rintro e w'' ⟨rfl, rfl⟩))
        go_ret
        exact ⟨rfl, HR1.out, HF.out⟩
      · rw [if_neg (by omega)]
        have g0 : (n == 0) = false := by simpa using h0
        have g1 : (n == 1) = false := by simpa using h1
        go_enter Try.func62, Try.ntmps62
        go_wp2_with (first | (go_at_call 57; refine HC.out.mono ?_; rintro e w' ⟨rfl, hr, hf⟩; have HF := hideC hf; have HR1 := hideC hr; clear hf hr) | (go_at_call 35; first | rw [g0, g1] | skip; refine (must_no _ _).mono ?_; rintro e w'' ⟨rfl, rfl⟩))
        exact ⟨rfl, rfl, HF.out⟩
end Go.Proofs.Ytafdgjpmhofinaa.W
