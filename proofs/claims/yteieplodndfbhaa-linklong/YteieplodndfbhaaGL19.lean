import Derived.Test.YteieplodndfbhaaGL18
import Derived.Test.YteieplodndfbhaaGL15
import Derived.Test.YteieplodndfbhaaGL11
import Derived.Laws.MakeOwn
import Derived.Test.YteieplodndfbhaaGL14
import Derived.Test.YteieplodndfbhaaGL13
/- The reference's LinkedOf: the board and the sheets; what the walk carries. -/
namespace Go.Proofs.Yteieplodndfbhaa.LW
open Go.RowKit
open Go.Proofs.Yteieplodndfbhaa.W (hideC)
set_option linter.unusedVariables false
set_option maxRecDepth 100000

/-- but for the board, what comes out and the row's block all is as it was -/
structure Fq (bb ob : Nat) (w : World) (r : Option Nat) (w' : World) (r' : Option Nat) : Prop where
  size : w.heap.size ≤ w'.heap.size
  block : ∀ b, b < w.heap.size → b ≠ bb → b ≠ ob → some b ≠ r → w'.heap[b]? = w.heap[b]?
  row : r' = r ∨ ∃ g, r' = some g ∧ w.heap.size ≤ g
theorem Fq.refl (bb ob : Nat) (w : World) (r : Option Nat) : Fq bb ob w r w r := ⟨Nat.le_refl _, fun _ _ _ _ _ => rfl, .inl rfl⟩
theorem Fq.trans {bb ob : Nat} {w w1 w2 : World} {r r1 r2 : Option Nat} (h : Fq bb ob w r w1 r1) (g : Fq bb ob w1 r1 w2 r2) : Fq bb ob w r w2 r2 := by
  have hs := h.size
  refine ⟨Nat.le_trans h.size g.size, fun b hb h1 h2 hr => ?_, ?_⟩
  · rw [g.block b (by omega) h1 h2 (fun e => ?_), h.block b hb h1 h2 hr]
    rcases h.row with e1 | ⟨x, e1, e2⟩
    · exact hr (by rw [e, e1])
    · rw [e1] at e
      injection e with e
      omega
  · rcases g.row with e | ⟨x, e1, e2⟩
    · rw [e]
      exact h.row
    · exact .inr ⟨x, e1, by omega⟩
theorem Fq.ofBelow {bb ob : Nat} {w w' : World} (h : Below w.heap.size w w') (r : Option Nat) : Fq bb ob w r w' r := ⟨h.size, fun b hb _ _ _ => h.block b hb, .inl rfl⟩
theorem Fq.ofGrown {bb ob : Nat} {w w' : World} {r : Option Nat} {g : Nat} (h : w.grownBy w' r) (hs : w.heap.size ≤ w'.heap.size) (hat : r = some g ∨ g = w.heap.size) : Fq bb ob w r w' (some g) :=
  ⟨hs, fun b hb _ _ hr => h.block b hb hr, by
    rcases hat with e | e
    · exact .inl e.symm
    · exact .inr ⟨g, rfl, by omega⟩⟩
theorem Fq.ofSet {bb ob : Nat} (w : World) (r : Option Nat) (a : Addr) (v : Value) (h : a.block = bb ∨ a.block = ob) : Fq bb ob w r (w.setCell a v) r :=
  ⟨by simp, fun b hb h1 h2 _ => by
    have hne : b ≠ a.block := by rcases h with h | h <;> rw [h] <;> assumption
    exact Below.heap_setCell w a v b hne, .inl rfl⟩
theorem Fq.keep {bb ob : Nat} {w w' : World} {r r' : Option Nat} {b : Nat} {o : Obj} (h : Fq bb ob w r w' r') (hb : w.heap[b]? = some o) (h1 : b ≠ bb) (h2 : b ≠ ob) (hr : some b ≠ r) : w'.heap[b]? = some o := (h.block b (B.isLt hb) h1 h2 hr).trans hb
/-- fixes that lie in new memory, but not in the row's block -/
def HasFL (lo : Nat) (rb : Option Nat) (w : World) (ao : Option Addr) (l : List LM.Fx) : Prop := 0 < l.length → ∃ b off, ao = some ⟨b, off, none⟩ ∧ lo ≤ b ∧ b < w.heap.size ∧ some b ≠ rb ∧ LM.LieF w b off l
theorem HasFL.has {lo : Nat} {rb : Option Nat} {w : World} {ao : Option Addr} {l : List LM.Fx} (h : HasFL lo rb w ao l) : LM.HasF w ao l := fun hl => by
  obtain ⟨b, off, h1, _, h2, _, h3⟩ := h hl
  exact ⟨b, off, h1, h2, h3⟩
theorem HasFL.fq {lo bb ob : Nat} {r r' : Option Nat} {w w' : World} {ao : Option Addr} {l : List LM.Fx} (h : HasFL lo r w ao l) (hf : Fq bb ob w r w' r') (h1 : bb < lo) (h2 : ob < lo) : HasFL lo r' w' ao l := fun hl => by
  obtain ⟨b, off, e, hlo, hb, hr, hl⟩ := h hl
  have hs := hf.size
  refine ⟨b, off, e, hlo, by omega, fun g => ?_, LM.lieF_block hl (hf.block b hb (by omega) (by omega) hr)⟩
  rcases hf.row with g1 | ⟨x, g1, g2⟩
  · exact hr (by rw [g, g1])
  · rw [g1] at g
    injection g with g
    omega
/-- what the walk carries -/
structure Bo (lo bb ob : Nat) (w : World) (F : Nat → AM.St) (v : Value) (hs : List LM.Sh) : Prop where
  board : w.heap[bb]? = some (.cells (AM.cellsB (fun q => AM.enc (F q))) 77 (0, 0))
  out : w.heap[ob]? = some (.cells #[.slice none 0 0, v, .int .i64 0] 32 (0, 0))
  row : w.ownsRow lo 43 3 v hs.length (hs.flatMap LM.cellH)
  fix : ∀ k, k < hs.length → HasFL lo v.ownBlock w (LM.shAt hs k).ao (LM.shAt hs k).fixes
theorem Bo.below {lo bb ob : Nat} {w w' : World} {F : Nat → AM.St} {v : Value} {hs : List LM.Sh} (h : Bo lo bb ob w F v hs) (hb : Below w.heap.size w w') (h1 : bb < lo) (h2 : ob < lo) : Bo lo bb ob w' F v hs :=
  ⟨B.below h.board hb (B.isLt h.board), B.below h.out hb (B.isLt h.out), row_grown h.row hb, fun k hk => (h.fix k hk).fq (Fq.ofBelow hb v.ownBlock) h1 h2⟩
theorem Bo.mark {lo bb ob : Nat} {w : World} {F : Nat → AM.St} {v : Value} {hs : List LM.Sh} (h : Bo lo bb ob w F v hs) (h1 : bb < lo) (h2 : ob < lo) (hne : ob ≠ bb) (q : Nat) (hq : q < 256) (x : Int) : Bo lo bb ob (w.setCell ⟨bb, q, none⟩ (.int .i64 (AM.mark x false))) (AM.upd F q ⟨true, x, false⟩) v hs := by
  refine ⟨?_, B.other h.out _ _ _ hne, ownsRow_setCell_below h.row h1 _, fun k hk => (h.fix k hk).fq (Fq.ofSet w v.ownBlock ⟨bb, q, none⟩ _ (.inl rfl)) h1 h2⟩
  have hb := B.set h.board q (.int .i64 (AM.mark x false))
  rw [AM.cellsB_set _ q _ hq] at hb
  rw [hb]
  congr 3
  exact AM.updI_enc F q ⟨true, x, false⟩
theorem row_fl {w : World} {base lo : Nat} {v : Value} {l : List LM.Fx} (h : w.ownsRow base 89 2 v l.length (l.flatMap LM.cellF)) (hlo : lo ≤ base) (rb : Option Nat) (hrb : ∀ q, rb = some q → q < base) : ∃ ao cap, v = .slice ao l.length cap ∧ HasFL lo rb w ao l := by
  rcases h.2 with ⟨hv, h0⟩ | ⟨g, cap, cur, hv, hbg, hg, hnc, hcm, hcs, htake⟩
  · exact ⟨none, 0, by rw [hv, h0], fun hl => by omega⟩
  · subst hv
    refine ⟨some ⟨g, 0, none⟩, cap, rfl, fun hl => ⟨g, 0, rfl, by omega, B.isLt hg, fun e => by have := hrb g e.symm; omega, fun k hk => ?_⟩⟩
    rw [Nat.zero_add]
    have hh : ∀ j, j < 2 → w.cell? ⟨g, k * 2 + j, none⟩ = (LM.cellF (LM.fxAt l k))[j]? := fun j hj => (h.cellAt _ (by omega)).trans (flat_get LM.cellF 2 (fun _ => rfl) LM.fx0 l k j hk hj)
    exact ⟨hh 0 (by omega), hh 1 (by omega)⟩
/-- one sheet more -/
theorem Bo.more {lo bb ob : Nat} {w w' : World} {F : Nat → AM.St} {v : Value} {hs : List LM.Sh} {x : LM.Sh} {g cap : Nat} (h : Bo lo bb ob w F v hs) (h1 : bb < lo) (h2 : ob < lo) (hne : ob ≠ bb) (hx : HasFL lo v.ownBlock w x.ao x.fixes)
    (hown : w'.ownsRow lo 43 3 (.slice (some ⟨g, 0, none⟩) (hs.length + 1) cap) (hs.length + 1) (hs.flatMap LM.cellH ++ LM.cellH x)) (hg : w.grownBy w' v.ownBlock) (hs' : w.heap.size ≤ w'.heap.size) (hat : v.ownBlock = some g ∨ g = w.heap.size) :
    Bo lo bb ob (w'.setCell ⟨ob, 1, none⟩ (.slice (some ⟨g, 0, none⟩) (hs.length + 1) cap)) F (.slice (some ⟨g, 0, none⟩) (hs.length + 1) cap) (hs ++ [x]) := by
  have hrow := h.row.lt
  have hf : Fq bb ob w v.ownBlock (w'.setCell ⟨ob, 1, none⟩ (.slice (some ⟨g, 0, none⟩) (hs.length + 1) cap)) (some g) := (Fq.ofGrown hg hs' hat).trans (Fq.ofSet w' (some g) ⟨ob, 1, none⟩ _ (.inr rfl))
  refine ⟨B.other (B.grown h.board hg (fun e => by have := (hrow _ e.symm).1; omega)) _ _ _ (Ne.symm hne), ?_, by rw [List.length_append, List.flatMap_append]; exact ownsRow_setCell_below (by simpa using hown) h2 _, fun k hk => ?_⟩
  · have hb := B.set (B.grown h.out hg (fun e => by have := (hrow _ e.symm).1; omega)) 1 (.slice (some ⟨g, 0, none⟩) (hs.length + 1) cap)
    exact hb
  · have e : (Value.slice (some ⟨g, 0, none⟩) (hs.length + 1) cap).ownBlock = some g := rfl
    rw [e]
    rw [List.length_append] at hk
    by_cases hkl : k < hs.length
    · rw [LM.shAt_left hs x k hkl]
      exact (h.fix k hkl).fq hf h1 h2
    · obtain rfl : k = hs.length := by simp at hk; omega
      rw [LM.shAt_last]
      exact hx.fq hf h1 h2
theorem Bo.has {lo bb ob : Nat} {w : World} {F : Nat → AM.St} {v : Value} {hs : List LM.Sh} (h : Bo lo bb ob w F v hs) : ∃ ao cap, v = .slice ao hs.length cap ∧ LM.HasH w ao hs ∧ hs.length ≤ cap ∧ (0 < hs.length → ∃ b off, ao = some ⟨b, off, none⟩ ∧ lo ≤ b) := by
  have hr := h.row
  rcases hr.2 with ⟨hv, h0⟩ | ⟨g, cap, cur, hv, hbg, hg, hnc, hcm, hcs, htake⟩
  · exact ⟨none, 0, by rw [hv, h0], fun hl => by omega, by omega, fun hl => by omega⟩
  · rw [hv] at hr
    refine ⟨some ⟨g, 0, none⟩, cap, hv, fun _ => ⟨g, 0, rfl, B.isLt hg, fun k hk => ?_⟩, hnc, fun _ => ⟨g, 0, rfl, hbg⟩⟩
    rw [Nat.zero_add]
    have hh : ∀ j, j < 3 → w.cell? ⟨g, k * 3 + j, none⟩ = (LM.cellH (LM.shAt hs k))[j]? := fun j hj => (hr.cellAt _ (by omega)).trans (flat_get LM.cellH 3 (fun _ => rfl) LM.sh0 hs k j hk hj)
    exact ⟨hh 0 (by omega), hh 1 (by omega), hh 2 (by omega), (h.fix k hk).has⟩
/-- the sheets, in new memory -/
structure Fs (lo : Nat) (w : World) (v : Value) (hs : List LM.Sh) : Prop where
  row : w.ownsRow lo 43 3 v hs.length (hs.flatMap LM.cellH)
  fix : ∀ k, k < hs.length → HasFL lo v.ownBlock w (LM.shAt hs k).ao (LM.shAt hs k).fixes
theorem Bo.fs {lo bb ob : Nat} {w : World} {F : Nat → AM.St} {v : Value} {hs : List LM.Sh} (h : Bo lo bb ob w F v hs) : Fs lo w v hs := ⟨h.row, h.fix⟩
theorem Fs.set {lo : Nat} {w : World} {v : Value} {hs : List LM.Sh} (h : Fs lo w v hs) (b j : Nat) (hb : b < lo) (u : Value) : Fs lo (w.setCell ⟨b, j, none⟩ u) v hs :=
  ⟨ownsRow_setCell_below h.row hb u, fun k hk => (h.fix k hk).fq (Fq.ofSet w v.ownBlock ⟨b, j, none⟩ u (.inl rfl)) hb hb⟩
theorem Fs.below {lo : Nat} {w w' : World} {v : Value} {hs : List LM.Sh} (h : Fs lo w v hs) (hb : Below w.heap.size w w') (hlo : 0 < lo) : Fs lo w' v hs :=
  ⟨row_grown h.row hb, fun k hk => (h.fix k hk).fq (bb := 0) (ob := 0) (Fq.ofBelow hb v.ownBlock) hlo hlo⟩
theorem Fs.has {lo : Nat} {w : World} {v : Value} {hs : List LM.Sh} (h : Fs lo w v hs) {ao : Option Addr} {cap : Nat} (hv : v = .slice ao hs.length cap) : LM.HasH w ao hs := by
  have hr := h.row
  intro hl
  rcases hr.2 with ⟨hv2, h0⟩ | ⟨g, cap2, cur, hv2, hbg, hg, hnc, hcm, hcs, htake⟩
  · omega
  · rw [hv2] at hr hv
    injection hv with h1 h2 h3
    refine ⟨g, 0, h1.symm, B.isLt hg, fun k hk => ?_⟩
    rw [Nat.zero_add]
    have hh : ∀ j, j < 3 → w.cell? ⟨g, k * 3 + j, none⟩ = (LM.cellH (LM.shAt hs k))[j]? := fun j hj => (hr.cellAt _ (by omega)).trans (flat_get LM.cellH 3 (fun _ => rfl) LM.sh0 hs k j hk hj)
    exact ⟨hh 0 (by omega), hh 1 (by omega), hh 2 (by omega), (h.fix k hk).has⟩
/-- areas do not lie in a block that begins with two slices and has three cells -/
theorem has_set {V : World} {rb : Nat} {t : TypeId} {a0 a1 : Option Addr} {n0 n1 c0 c1 : Nat} {x : Value} (h : V.heap[rb]? = some (.cells #[.slice a0 n0 c0, .slice a1 n1 c1, x] t (0, 0))) {v : Value} {l : List AM.Ar} (g : AW.Has V v l) (j : Nat) (u : Value) : AW.Has (V.setCell ⟨rb, j, none⟩ u) v l := by
  obtain ⟨ao, cap, hv, hl⟩ := g
  refine ⟨ao, cap, hv, ?_⟩
  rcases hl with hl | ⟨b, off, hao, hlie⟩
  · exact .inl hl
  · by_cases h0 : l = []
    · exact .inl h0
    · have hpos : 0 < l.length := by cases l with | nil => exact (h0 rfl).elim | cons x r => simp
      obtain ⟨d0, d1, _, _⟩ := hlie 0 hpos
      have hne : b ≠ rb := fun e => by
        rw [e] at d0 d1
        simp only [Nat.zero_mul, Nat.add_zero] at d0 d1
        simp only [World.cell?, h] at d0 d1
        match off with
        | 0 => simp at d0
        | 1 => simp at d0
        | 2 => simp at d1
        | n + 3 => simp at d0
      refine .inr ⟨b, off, hao, fun i hi => ?_⟩
      have hc : ∀ k, (V.setCell ⟨rb, j, none⟩ u).cell? ⟨b, k, none⟩ = V.cell? ⟨b, k, none⟩ := fun k => World.cell?_setCell_far V ⟨rb, j, none⟩ ⟨b, k, none⟩ u (Ne.symm hne)
      obtain ⟨e0, e1, e2, e3⟩ := hlie i hi
      exact ⟨(hc _).trans e0, (hc _).trans e1, (hc _).trans e2, (hc _).trans e3⟩
/-- 'string(make([]byte, d))' -/
def zc (d : Nat) : Array Value := madeCells #[.int .u8 0] d
def zs (d : Nat) : ByteArray := ⟨Array.replicate d 0⟩
theorem infoU8 : (Try.prog.info? 5).map (fun i => (i.zero, i.size, i.bytes)) = some (some (.int .u8 0), 1, 1) := by kernel_rfl
theorem mk_zero (V : World) (d : Nat) (hd : d ≤ 100000) : (Instr.makeSlice 80 (.int .i64 (d : Int)) (.int .i64 (d : Int))).run Try.prog V = .ok (.slice (some ⟨V.heap.size, 0, none⟩) d d) (V.alloc (.cells (zc d) 5)) := by
  obtain ⟨i0, hi, hz0, hz1, hz2⟩ := info_parts infoU8
  have h := run_make (P := Try.prog) V 80 5 i0 (.int .u8 0) Try.underlying80 hi hz0 .i64 .i64 (d : Int) (d : Int) (by omega) (Int.le_refl _) (by rw [hz2]; omega) (by omega)
  rw [hz1] at h
  rw [Int.toNat_natCast, Nat.mul_one] at h
  exact h
theorem zc_get (d j : Nat) (h : j < d) : (zc d)[j]? = some (.int .u8 0) := by
  unfold zc madeCells
  simp [h, Nat.mod_one]
theorem cv_zero (V : World) (b d : Nat) (h : V.heap[b]? = some (.cells (zc d) 5 (0, 0))) : (convert 80 9 (.slice (some ⟨b, 0, none⟩) d d)).run Try.prog V = .ok (.string (zs d)) V := by
  have e : zs d = strOfNums (List.replicate d 0) := by
    unfold zs strOfNums
    simp
  rw [e]
  refine run_convert_bytes_arg _ 80 5 Try.underlying80 Try.underlying5 _ 0 d d _ (by simp) ?_ 9 Try.underlying9
  intro i hi
  rw [Nat.zero_add]
  refine B.cell h i ?_
  rw [zc_get d i hi, List.getD_eq_getElem?_getD, List.getElem?_replicate, if_pos hi]
  rfl
end Go.Proofs.Yteieplodndfbhaa.LW
/- A page of a segment: out of its bytes and zeros; plain Lean. -/
namespace Go.Proofs.Yteieplodndfbhaa.LW
open Go.RowKit
set_option linter.unusedVariables false
set_option maxRecDepth 100000

theorem pad_list (L : List UInt8) (q d : Nat) (h : q + 16 ≤ L.length + d) : ((L ++ List.replicate d 0).drop q).take 16 = (L.drop q).take 16 ++ List.replicate (16 - ((L.drop q).take 16).length) 0 := by
  rw [List.drop_append, List.take_append, List.drop_replicate, List.take_replicate]
  congr 2
  simp only [List.length_drop, List.length_take]
  omega
theorem page_ext (s : M.Sg) (m d : Nat) (hd : s.pages * 16 - (s.data.size : Int) = (d : Int)) (hm : (m : Int) < s.pages) : LM.pageN s m = (s.data ++ zs d).extract (m * 16) (m * 16 + 16) := by
  have hsz : s.data.size = s.data.data.toList.length := Lib.size_eq _
  have key : ∀ (a b : ByteArray), a.data.toList = b.data.toList → a = b := fun a b h => by
    apply ByteArray.ext
    exact Array.toList_inj.1 h
  apply key
  have h1 : (zs d).data.toList = List.replicate d 0 := by simp [zs]
  have hq : m * 16 + 16 ≤ s.data.data.toList.length + d := by omega
  have e1 := pad_list s.data.data.toList (m * 16) d hq
  have er : ((s.data ++ zs d).extract (m * 16) (m * 16 + 16)).data.toList = ((s.data.data.toList ++ List.replicate d 0).drop (m * 16)).take 16 := by
    rw [Lib.extract_data, ByteArray.data_append, Array.toList_append, h1, Nat.add_sub_cancel_left]
  rw [er, e1]
  obtain ⟨t, ht⟩ : ∃ t, t = s.data.extract (min (m * 16) s.data.size) (min (min (m * 16) s.data.size + 16) s.data.size) := ⟨_, rfl⟩
  have htl : t.data.toList = (s.data.data.toList.drop (m * 16)).take 16 := by
    rw [ht, Lib.extract_data]
    by_cases hle : m * 16 ≤ s.data.size
    · rw [Nat.min_eq_left hle]
      by_cases h2 : m * 16 + 16 ≤ s.data.size
      · rw [Nat.min_eq_left h2, Nat.add_sub_cancel_left]
      · rw [Nat.min_eq_right (by omega), List.take_of_length_le (by rw [List.length_drop]; omega), List.take_of_length_le (by rw [List.length_drop]; omega)]
    · rw [Nat.min_eq_right (by omega), Nat.min_eq_right (by omega), Nat.sub_self, List.take_zero, List.drop_of_length_le (by omega), List.take_nil]
  have hz : LM.zeros16.data.toList = List.replicate 16 0 := rfl
  have hts : t.size = t.data.toList.length := Lib.size_eq _
  unfold LM.pageN
  rw [← ht]
  show (LM.zeros16.data.toList.take 0 ++ t.data.toList ++ LM.zeros16.data.toList.drop (0 + t.size)).toArray.toList = _
  rw [List.toList_toArray, List.take_zero, List.nil_append, hz, List.drop_replicate, hts, htl, Nat.zero_add]
end Go.Proofs.Yteieplodndfbhaa.LW
/- Map, one by one, is the board at one time; plain Lean. -/
namespace Go.Proofs.Yteieplodndfbhaa.LM
open Go.RowKit
set_option linter.unusedVariables false
set_option maxRecDepth 100000

/-- all mapped pages are Zero -/
def setz (F : Nat → AM.St) : Nat → AM.St := fun n => ⟨(F n).m, (F n).p, (F n).m⟩
structure Inv (F : Nat → AM.St) (B : Int) : Prop where
  z : ∀ n, (F n).z = false
  fine : AM.Fine F
  past : ∀ n : Nat, B ≤ (n : Int) → F n = AM.off
theorem setz_fine {F : Nat → AM.St} (h : AM.Fine F) : AM.Fine (setz F) := by
  refine ⟨h.zero, fun n hn => ?_, h.prot⟩
  have := h.none n hn
  unfold setz
  rw [this]
  rfl
theorem spread_gather {F : Nat → AM.St} (h : AM.Fine F) (hp : ∀ n : Nat, 256 ≤ (n : Int) → F n = AM.off) : AM.spreadN (AM.gatherN F) = F := by
  funext n
  have h1 := AM.spread_look (AM.gatherN F) _ (AM.gatherN F) rfl (AM.gather_good F h) n
  have h2 := (AM.gather_inv F h 256 (Nat.le_refl _)).look n
  unfold AM.spreadN
  rw [← h1]
  have h3 : AM.look (AM.gatherN F) n = if n < 256 then F n else AM.off := h2
  rw [h3]
  by_cases c : n < 256
  · rw [if_pos c]
  · rw [if_neg c, hp n (by omega)]
theorem lay_inv {F : Nat → AM.St} {B : Int} (h : Inv F B) (a : AM.Ar) (hz : a.zero = false) (hp : 1 ≤ a.page) (hq : 0 ≤ a.prot ∧ a.prot ≤ 3) (t : Int) (hB : B ≤ t) : Inv (AM.layTo F a t) t := by
  refine ⟨fun n => ?_, ⟨?_, fun n hn => ?_, fun n => ?_⟩, fun n hn => ?_⟩
  · unfold AM.layTo
    split
    · exact hz
    · exact h.z n
  · unfold AM.layTo
    rw [if_neg (by omega)]
    exact h.fine.zero
  · unfold AM.layTo at hn ⊢
    split at hn
    · cases hn
    · rename_i c
      rw [if_neg c]
      exact h.fine.none n hn
  · unfold AM.layTo
    split
    · exact hq
    · exact h.fine.prot n
  · unfold AM.layTo
    rw [if_neg (by omega)]
    exact h.past n (by omega)
theorem map_step {F : Nat → AM.St} {B : Int} (h : Inv F B) (hB6 : B ≤ 256) (page pages q : Int) (h1 : 1 ≤ page) (h2 : 1 ≤ pages) (h3 : page + pages ≤ 256) (hq : 0 ≤ q ∧ q ≤ 3) (hB : B ≤ page) :
    (AW.mapN (AM.gatherN (setz F)) page pages q).1 = AM.gatherN (setz (AM.layTo F ⟨page, pages, q, false⟩ (page + pages))) := by
  have hf := setz_fine h.fine
  have hpast : ∀ n : Nat, 256 ≤ (n : Int) → setz F n = AM.off := fun n hn => by
    unfold setz
    rw [h.past n (by omega)]
    rfl
  have hoff : ∀ n : Nat, page ≤ (n : Int) → setz F n = AM.off := fun n hn => by
    unfold setz
    rw [h.past n (by omega)]
    rfl
  have hsp := spread_gather hf hpast
  have hck := AM.check_gather _ hf
  have hpb : (AM.pagesB page pages && AM.protB q) = true := by
    rw [(AM.pagesB_iff page pages).2 ⟨h1, h2, by omega⟩]
    unfold AM.protB
    rw [decide_eq_true hq]
    rfl
  have herr : AM.errFrom (setz F) (AW.howMap q) page.toNat pages.toNat = 0 := by
    refine AM.errFrom_zero _ _ _ _ (fun k hk1 hk2 => ?_)
    rw [hoff k (by omega)]
    rfl
  unfold AW.mapN AM.turnN
  rw [if_pos hck, if_pos hpb, hsp, if_pos herr]
  show AM.gatherN _ = AM.gatherN _
  congr 1
  funext n
  unfold AM.turned setz AM.layTo
  simp only
  by_cases c : page ≤ (n : Int) ∧ (n : Int) < page + pages
  · rw [if_pos c, if_pos c]
    have := h.past n (by omega)
    rw [this]
    rfl
  · rw [if_neg c, if_neg c]
theorem at_map (G : List AM.Ar) (i : Nat) (h : i < G.length) : AM.at_ (G.map clr) i = clr (AM.at_ G i) := by
  unfold AM.at_
  rw [List.getD_eq_getElem?_getD, List.getD_eq_getElem?_getD, List.getElem?_map, List.getElem?_eq_getElem h]
  rfl
theorem bump_map (G : List AM.Ar) : (AM.bump G).map clr = AM.bump (G.map clr) := by
  unfold AM.bump
  rw [List.map_set, List.length_map]
  by_cases h : 0 < G.length
  · rw [at_map G _ (by omega)]
    rfl
  · have e : G = [] := List.eq_nil_of_length_eq_zero (by omega)
    subst e
    rfl
theorem gather_clr {F : Nat → AM.St} (hz : ∀ n, (F n).z = false) : ∀ k, (AM.gatherTo (setz F) k).map clr = AM.gatherTo F k
  | 0 => rfl
  | k + 1 => by
    have ih := gather_clr hz k
    have hl : AM.stEq (setz F k) (AM.lastTo (setz F) k) = AM.stEq (F k) (AM.lastTo F k) := by
      have e1 : ∀ x y : AM.St, x.z = false → y.z = false → AM.stEq ⟨x.m, x.p, x.m⟩ ⟨y.m, y.p, y.m⟩ = AM.stEq x y := fun x y hx hy => by
        unfold AM.stEq
        simp only
        rw [hx, hy]
        cases x.m <;> cases y.m <;> simp
      cases k with
      | zero => exact e1 (F 0) AM.off (hz 0) rfl
      | succ j => exact e1 (F (j + 1)) (F j) (hz _) (hz _)
    simp only [AM.gatherTo]
    rw [hl]
    have hm : (setz F k).m = (F k).m := rfl
    rw [hm]
    by_cases c : (F k).m = false
    · rw [if_pos c, if_pos c, ih]
    · rw [if_neg c, if_neg c]
      by_cases d : AM.stEq (F k) (AM.lastTo F k) = true
      · rw [if_pos d, if_pos d, bump_map, ih]
      · rw [if_neg d, if_neg d, List.map_append, ih]
        show _ ++ [(⟨(k : Int), 1, (F k).p, false⟩ : AM.Ar)] = _ ++ [⟨(k : Int), 1, (F k).p, (F k).z⟩]
        rw [hz k]
theorem asg_eq (o : Ob) (hc : M.chkN o.i = 0) (h1 : 1 ≤ o.base) (he : endO o ≤ 256) (F : Nat → AM.St) (B : Int) (hi : Inv F B) (hB : B ≤ o.base) :
    ∀ k, k ≤ o.i.segs.length → asg o (AM.gatherN (setz F)) k = AM.gatherN (setz (bsg o F k)) ∧ ∃ B', Inv (bsg o F k) B' ∧ B' ≤ endO o ∧ (k < o.i.segs.length → B' ≤ o.base + (M.sgAt o.i.segs k).page)
  | 0, hk => by
    refine ⟨rfl, B, hi, ?_, fun h0 => ?_⟩
    · have := last_bounds hc
      unfold endO
      omega
    · have := seg_bounds hc 0 h0
      omega
  | k + 1, hk => by
    obtain ⟨ih, B', hi', hBe, hBs⟩ := asg_eq o hc h1 he F B hi hB k (by omega)
    have hsb := seg_bounds hc k (by omega)
    have hsl := segs_last hc k (by omega)
    have hBk := hBs (by omega)
    have hpq := protN_bd (M.sgAt o.i.segs k)
    have hend : o.base + (M.sgAt o.i.segs k).page + (M.sgAt o.i.segs k).pages ≤ endO o := by
      unfold endO
      omega
    refine ⟨?_, _, lay_inv hi' (arO o (M.sgAt o.i.segs k)) rfl (by show 1 ≤ o.base + _; omega) hpq _ (by omega), hend, fun hk2 => ?_⟩
    · show mapSeg o (asg o _ k) _ = _
      rw [ih]
      exact map_step hi' (by omega) _ _ _ (by omega) (by omega) (by omega) hpq hBk
    · have := segs_rise hc (k + 1) k (by omega) hk2
      omega
theorem aob_eq {all : List Li} {ix : List Nat} (hc : ∀ j, j < all.length → M.chkN (liAt all j).i = 0) (hx : OkIx all ix) (he : endFrom all 1 ix ≤ 256) :
    ∀ n, n ≤ ix.length → aob (obsFrom all 1 ix) n = AM.gatherN (setz (bob (obsFrom all 1 ix) n)) ∧ Inv (bob (obsFrom all 1 ix) n) (endFrom all 1 (ix.take n))
  | 0, _ => by
    have h0 : Inv (bob (obsFrom all 1 ix) 0) (endFrom all 1 (ix.take 0)) := ⟨fun _ => rfl, ⟨rfl, fun _ _ => rfl, fun _ => (by decide : 0 ≤ AM.off.p ∧ AM.off.p ≤ 3)⟩, fun _ _ => rfl⟩
    refine ⟨?_, h0⟩
    have hl := AM.check_gather _ (setz_fine h0.fine)
    have : ∀ k, AM.gatherTo (setz (bob (obsFrom all 1 ix) 0)) k = [] := fun k => by
      induction k with
      | zero => rfl
      | succ k ih => simp only [AM.gatherTo]; rw [if_pos (show (setz (bob (obsFrom all 1 ix) 0) k).m = false from rfl), ih]
    exact (this 256).symm
  | n + 1, hn => by
    obtain ⟨ih, hi⟩ := aob_eq hc hx he n (by omega)
    have h2 := obsFrom_at all ix 1 n (by omega)
    have hb := endFrom_bounds all hc (ix.take n) 1 (fun j hj => hx.lt j (List.mem_of_mem_take hj))
    have ht := LW.endFrom_take all hc ix 1 (n + 1) hx.lt
    have hsn : endFrom all 1 (ix.take (n + 1)) = endO (obAt (obsFrom all 1 ix) n) := by
      rw [LW.take_snoc ix n (by omega), endFrom_snoc]
      unfold endO
      rw [h2.1, h2.2.2]
    rw [hsn] at ht
    have hck : M.chkN (obAt (obsFrom all 1 ix) n).i = 0 := by
      rw [h2.1]
      exact hc _ (hx.lt _ (getD_mem ix n (by omega)))
    obtain ⟨h3, B', h4, h5, _⟩ := asg_eq (obAt (obsFrom all 1 ix) n) hck (by rw [h2.2.2]; omega) (by omega) _ _ hi (by rw [h2.2.2]; exact Int.le_refl _) (obAt (obsFrom all 1 ix) n).i.segs.length (Nat.le_refl _)
    refine ⟨?_, ?_⟩
    · show asg _ (aob _ n) _ = _
      rw [ih, h3]
      rfl
    · rw [hsn]
      exact ⟨h4.z, h4.fine, fun q hq => h4.past q (by omega)⟩
/-- the areas are those of the board -/
theorem areas_eq {all : List Li} {ix : List Nat} (hc : ∀ j, j < all.length → M.chkN (liAt all j).i = 0) (hx : OkIx all ix) (he : endFrom all 1 ix ≤ 256) :
    areasN (obsFrom all 1 ix) = AM.gatherN (bob (obsFrom all 1 ix) (obsFrom all 1 ix).length) ∧ AM.Fine (bob (obsFrom all 1 ix) (obsFrom all 1 ix).length) := by
  obtain ⟨h1, h2⟩ := aob_eq hc hx he ix.length (Nat.le_refl _)
  rw [obsFrom_length]
  refine ⟨?_, h2.fine⟩
  unfold areasN
  rw [obsFrom_length, h1]
  exact gather_clr h2.z 256
end Go.Proofs.Yteieplodndfbhaa.LM
/- The reference's SameSheets, at two rows of the same sheets. -/
namespace Go.Proofs.Yteieplodndfbhaa.LW
open Go.RowKit
open Go.Proofs.Yteieplodndfbhaa.W (hideC)
set_option linter.unusedVariables false
set_option maxRecDepth 100000

/-- the same sheets, wherever they lie -/
structure SameH (xs ys : List LM.Sh) : Prop where
  len : xs.length = ys.length
  page : ∀ k, k < xs.length → (LM.shAt ys k).page = (LM.shAt xs k).page
  data : ∀ k, k < xs.length → (LM.shAt ys k).data = (LM.shAt xs k).data
  fixes : ∀ k, k < xs.length → (LM.shAt ys k).fixes = (LM.shAt xs k).fixes
set_option maxHeartbeats 4000000 in
theorem sameSheets_yes (xs ys : List LM.Sh) (ax ay : Option Addr) (cx cy : Nat) (w : World) (hx : LM.HasH w ax xs) (hy : LM.HasH w ay ys) (hs : SameH xs ys) (hn : M.Short xs.length) (hfn : ∀ k, k < xs.length → M.Short (LM.shAt xs k).fixes.length) :
    Calls Try.prog 33 #[.slice ax xs.length cx, .slice ay ys.length cy] w fun e w' => e = .returned (.bool true) ∧ Below w.heap.size w w' := by
  have HX := hideC hx
  have HYY := hideC hy
  have HS := hideC hs
  have HFN := hideC hfn
  rw [← hs.len]
  unfold M.Short at hn
  clear hx hy hs hfn
  go_enter Try.func33, Try.ntmps33
  go_wp2
  go_loopw [5] (fun i wr => ∃ k : Nat, k ≤ xs.length ∧ i = .int .i64 k ∧ Below w.heap.size w wr) (fun i _ => xs.length - (intOf i).toNat)
  case atStart => exact ⟨0, by omega, rfl, Below.refl _ _⟩
  case round =>
    obtain ⟨i, hi, rfl, hb⟩ := hrel
    have HBr := hideC hb
    by_cases hlt : i < xs.length
    · obtain ⟨bx, ox, hax, hbx, hlx⟩ := HX.out (by omega)
      obtain ⟨bx2, oy, hay, hby, hly⟩ := HYY.out (by rw [← HS.out.len]; omega)
      subst hax hay
      have HF : Hid (∀ V, Below w.heap.size w V → (V.cell? ⟨bx, ox + i * 3, none⟩ = some (.int .i64 (LM.shAt xs i).page) ∧ V.cell? ⟨bx, ox + i * 3 + 1, none⟩ = some (.string (LM.shAt xs i).data) ∧ V.cell? ⟨bx, ox + i * 3 + 2, none⟩ = some (.slice (LM.shAt xs i).ao (LM.shAt xs i).fixes.length (LM.shAt xs i).cap) ∧ LM.HasF V (LM.shAt xs i).ao (LM.shAt xs i).fixes) ∧ (V.cell? ⟨bx2, oy + i * 3, none⟩ = some (.int .i64 (LM.shAt xs i).page) ∧ V.cell? ⟨bx2, oy + i * 3 + 1, none⟩ = some (.string (LM.shAt xs i).data) ∧ V.cell? ⟨bx2, oy + i * 3 + 2, none⟩ = some (.slice (LM.shAt ys i).ao (LM.shAt xs i).fixes.length (LM.shAt ys i).cap) ∧ LM.HasF V (LM.shAt ys i).ao (LM.shAt xs i).fixes)) := fun V hV => by
        obtain ⟨a0, a1, a2, a3⟩ := LM.lieH hV hbx hlx i hlt
        obtain ⟨b0, b1, b2, b3⟩ := LM.lieH hV hby hly i (by rw [← HS.out.len]; exact hlt)
        rw [HS.out.page i hlt] at b0
        rw [HS.out.data i hlt] at b1
        rw [HS.out.fixes i hlt] at b2 b3
        exact ⟨⟨a0, a1, a2, a3⟩, b0, b1, b2, b3⟩
      have hfi := HFN.out i hlt
      obtain ⟨⟨pg, dt, fs, af, cf⟩, hsx⟩ : ∃ s, s = LM.shAt xs i := ⟨_, rfl⟩
      obtain ⟨ag, hag⟩ : ∃ a, a = (LM.shAt ys i).ao := ⟨_, rfl⟩
      obtain ⟨cg, hcg⟩ : ∃ a, a = (LM.shAt ys i).cap := ⟨_, rfl⟩
      rw [← hsx, ← hag, ← hcg] at HF
      rw [← hsx] at hfi
      simp only at HF hfi
      unfold M.Short at hfi
      clear hsx hag hcg hlx hly
      obtain ⟨⟨a0, a1, a2, -⟩, b0, b1, b2, -⟩ := HF.out _ hb
      have hi1 : (i : Int) < (xs.length : Int) := by omega
      have hi0 : (0 : Int) ≤ (i : Int) := by omega
      clear hb
      go_wp2
      go_quiet (fail)
      go_wp2
      go_loopw [6] (fun i2 wr => ∃ k : Nat, k ≤ fs.length ∧ i2 = .int .i64 k ∧ Below w.heap.size w wr) (fun i2 _ => fs.length - (intOf i2).toNat)
      case atStart => exact ⟨0, by omega, rfl, below_drewN HBr.out _⟩
      case round =>
        obtain ⟨k, hk, rfl, hb⟩ := hrel
        have HBk := hideC hb
        obtain ⟨⟨d0, d1, d2, d3⟩, e0, e1, e2, e3⟩ := HF.out _ hb
        clear hb a0 a1 a2 b0 b1 b2
        by_cases hlk : k < fs.length
        · obtain ⟨fb, fo, haf, hfb, hlf⟩ := d3 (by omega)
          obtain ⟨gb, go, hag, hgb, hlg⟩ := e3 (by omega)
          subst haf hag
          obtain ⟨f0, f1⟩ := hlf k hlk
          obtain ⟨g0, g1⟩ := hlg k hlk
          obtain ⟨⟨fo1, fb1⟩, hfx⟩ : ∃ f, f = LM.fxAt fs k := ⟨_, rfl⟩
          rw [← hfx] at f0 f1 g0 g1
          simp only at f0 f1 g0 g1
          clear hfx hlf hlg d3 e3
          have hk1 : (k : Int) < (fs.length : Int) := by omega
          have hk0 : (0 : Int) ≤ (k : Int) := by omega
          go_wp2
          go_quiet (fail)
          go_wp2
          go_roundw
          case rel => exact ⟨k + 1, by omega, by go_num, below_drewN HBk.out _⟩
          case measure => simp [intOf]; omega
        · obtain rfl : k = fs.length := by omega
          clear d3 e3
          go_wp2
          go_roundw
          case rel => exact ⟨i + 1, by omega, by go_num, HBk.out⟩
          case measure => simp [intOf]; omega
    · obtain rfl : i = xs.length := by omega
      go_wp2
      go_ret
      exact ⟨rfl, HBr.out⟩
end Go.Proofs.Yteieplodndfbhaa.LW
/- What is linked: small facts; plain Lean, but for how LinkedOf ends. -/
namespace Go.Proofs.Yteieplodndfbhaa.LW
open Go.RowKit
set_option linter.unusedVariables false
set_option maxRecDepth 100000

theorem link_zero {all : List LM.Li} (h : LM.linkErr all = 0) : all.length ≤ 7 ∧ (∀ k, k < all.length → M.chkN (LM.liAt all k).i = 0) ∧ ∃ ix E, LM.gat all all.length 0 [0] = some ix ∧ LM.endFrom all 1 ix ≤ 256 ∧ LM.sheetsN (LM.obsFrom all 1 ix) = some E := by
  unfold LM.linkErr at h
  by_cases h7 : 7 < all.length
  · rw [if_pos h7] at h; cases h
  · rw [if_neg h7] at h
    by_cases hb : LM.byErr all = 0
    · rw [if_pos hb] at h
      refine ⟨by omega, (LM.byErr_zero hb).1, ?_⟩
      cases hg : LM.gat all all.length 0 [0] with
      | none => rw [hg] at h; cases h
      | some ix =>
        rw [hg] at h
        simp only at h
        by_cases he : 256 < LM.endFrom all 1 ix
        · rw [if_pos he] at h; cases h
        · rw [if_neg he] at h
          cases hs : LM.sheetsN (LM.obsFrom all 1 ix) with
          | none => rw [hs] at h; cases h
          | some E => exact ⟨ix, E, rfl, by omega, hs⟩
    · rw [if_neg hb] at h; exact (hb h).elim
theorem obs_pats {l : List LM.Ob} : ∀ {n : Nat} {E : List LM.Sp}, LM.obsTo l n = some E → ∀ k, k < n → ∃ ps, LM.patN l (LM.obAt l k) = some ps
  | 0, E, _, k, hk => by omega
  | n + 1, E, h, k, hk => by
    cases e : LM.obsTo l n with
    | none => rw [LM.obsTo_none e (n + 1) (by omega)] at h; cases h
    | some E' =>
      by_cases hkn : k = n
      · subst hkn
        cases g : LM.patN l (LM.obAt l k) with
        | none => simp only [LM.obsTo, e, g] at h; cases h
        | some ps => exact ⟨ps, rfl⟩
      · exact obs_pats e k (by omega)
/-- pages of what is linked -/
theorem obs_pages {all : List LM.Li} {ix : List Nat} (hc : ∀ j, j < all.length → M.chkN (LM.liAt all j).i = 0) (hx : LM.OkIx all ix) (he : LM.endFrom all 1 ix ≤ 256) (n : Nat) (hn : n < (LM.obsFrom all 1 ix).length) :
    1 ≤ (LM.obAt (LM.obsFrom all 1 ix) n).base ∧ LM.endO (LM.obAt (LM.obsFrom all 1 ix) n) ≤ 256 := by
  rw [LM.obsFrom_length] at hn
  have h2 := LM.obsFrom_at all ix 1 n hn
  have hb := LM.endFrom_bounds all hc (ix.take n) 1 (fun j hj => hx.lt j (List.mem_of_mem_take hj))
  have ht := endFrom_take all hc ix 1 (n + 1) hx.lt
  rw [take_snoc ix n hn, LM.endFrom_snoc] at ht
  unfold LM.endO at ht ⊢
  rw [h2.1, h2.2.2]
  simp only at ht
  omega
/-- how LinkedOf ends -/
def OutLd (all : List LM.Li) (w : World) (e : Ending) (w' : World) : Prop := Below w.heap.size w w' ∧
  ∃ (ix : List Nat) (E : List LM.Sp) (r : Value) (hs : List LM.Sh) (ao : Option Addr) (cap : Nat), LM.gat all all.length 0 [0] = some ix ∧ LM.sheetsN (LM.obsFrom all 1 ix) = some E ∧ hs.map LM.plain = E ∧
    e = .returned (.agg #[r, .slice ao hs.length cap, .int .i64 (LM.addrO (LM.obAt (LM.obsFrom all 1 ix) 0) (LM.liAt all 0).i.entry)]) ∧ AW.Has w' r (AM.gatherN (LM.bob (LM.obsFrom all 1 ix) (LM.obsFrom all 1 ix).length)) ∧ LM.HasH w' ao hs ∧ hs.length ≤ cap
theorem same_plain {xs ys : List LM.Sh} (h : xs.map LM.plain = ys.map LM.plain) : SameH xs ys := by
  have hl : xs.length = ys.length := by
    have := congrArg List.length h
    simpa using this
  have key : ∀ k, k < xs.length → LM.plain (LM.shAt ys k) = LM.plain (LM.shAt xs k) := fun k hk => by
    have h1 : (xs.map LM.plain)[k]? = (ys.map LM.plain)[k]? := by rw [h]
    rw [List.getElem?_map, List.getElem?_map, List.getElem?_eq_getElem hk, List.getElem?_eq_getElem (by omega)] at h1
    unfold LM.shAt
    rw [List.getD_eq_getElem?_getD, List.getD_eq_getElem?_getD, List.getElem?_eq_getElem hk, List.getElem?_eq_getElem (by omega)]
    simpa using h1.symm
  refine ⟨hl, fun k hk => ?_, fun k hk => ?_, fun k hk => ?_⟩
  · exact congrArg LM.Sp.page (key k hk)
  · exact congrArg LM.Sp.data (key k hk)
  · exact congrArg LM.Sp.fixes (key k hk)
theorem pgs_fix (o : LM.Ob) (ps : List LM.Pt) (s : M.Sg) (n : Nat) : ∀ x ∈ LM.pgsTo o ps s n, x.fixes.length ≤ ps.length := fun x hx => by
  unfold LM.pgsTo at hx
  obtain ⟨m, _, rfl⟩ := List.mem_map.1 hx
  exact LM.fixes_len _ ps
theorem sgs_fix (o : LM.Ob) (ps : List LM.Pt) : ∀ k, ∀ x ∈ LM.sgsTo o ps k, x.fixes.length ≤ ps.length
  | 0, x, hx => by simp [LM.sgsTo] at hx
  | k + 1, x, hx => by
    simp only [LM.sgsTo] at hx
    rcases List.mem_append.1 hx with h | h
    · exact sgs_fix o ps k x h
    · exact pgs_fix o ps _ _ x h
theorem sgs_len (o : LM.Ob) (hc : M.chkN o.i = 0) (ps : List LM.Pt) : ∀ k, k ≤ o.i.segs.length → (LM.sgsTo o ps k).length ≤ k * 255
  | 0, _ => by simp [LM.sgsTo]
  | k + 1, hk => by
    have ih := sgs_len o hc ps k (by omega)
    have hb := LM.seg_bounds hc k (by omega)
    simp only [LM.sgsTo, List.length_append]
    have : (LM.pgsTo o ps (M.sgAt o.i.segs k) (M.sgAt o.i.segs k).pages.toNat).length = (M.sgAt o.i.segs k).pages.toNat := by simp [LM.pgsTo]
    omega
theorem obs_small {l : List LM.Ob} (hc : ∀ k, k < l.length → M.chkN (LM.obAt l k).i = 0) : ∀ n, n ≤ l.length → ∀ E, LM.obsTo l n = some E → E.length ≤ n * 1600 ∧ ∀ x ∈ E, x.fixes.length ≤ 16
  | 0, _, E, h => by
    simp only [LM.obsTo] at h
    injection h with h
    subst h
    exact ⟨by simp, fun x hx => by simp at hx⟩
  | n + 1, hn, E, h => by
    cases e : LM.obsTo l n with
    | none => rw [LM.obsTo_none e (n + 1) (by omega)] at h; cases h
    | some E' =>
      obtain ⟨ps, hps⟩ := obs_pats h n (by omega)
      have h2 := obs_next e hps
      rw [h2] at h
      injection h with h
      subst h
      obtain ⟨ih1, ih2⟩ := obs_small hc n (by omega) E' e
      have hck := hc n (by omega)
      have hcn := LM.counts_of hck
      have hpl := LM.patTo_len hps
      have hsl := sgs_len (LM.obAt l n) hck ps _ (Nat.le_refl _)
      refine ⟨by rw [List.length_append]; omega, fun x hx => ?_⟩
      rcases List.mem_append.1 hx with g | g
      · exact ih2 x g
      · have := sgs_fix _ ps _ x g
        omega
theorem sheets_small {all : List LM.Li} {ix : List Nat} (h7 : all.length ≤ 7) (hc : ∀ j, j < all.length → M.chkN (LM.liAt all j).i = 0) (hx : LM.OkIx all ix) {E : List LM.Sp} (h : LM.sheetsN (LM.obsFrom all 1 ix) = some E) {hs : List LM.Sh} (hm : hs.map LM.plain = E) :
    M.Short hs.length ∧ ∀ k, k < hs.length → M.Short (LM.shAt hs k).fixes.length := by
  have hle := hx.le
  have hsm := obs_small (l := LM.obsFrom all 1 ix) (fun k hk => by
    rw [LM.obsFrom_length] at hk
    rw [(LM.obsFrom_at all ix 1 k hk).1]
    exact hc _ (hx.lt _ (LM.getD_mem ix k hk))) _ (Nat.le_refl _) E h
  rw [LM.obsFrom_length] at hsm
  subst hm
  rw [List.length_map] at hsm
  unfold M.Short
  refine ⟨by omega, fun k hk => ?_⟩
  have h1 := hsm.2 (LM.plain (LM.shAt hs k)) (List.mem_map.2 ⟨_, by
    unfold LM.shAt
    rw [List.getD_eq_getElem?_getD, List.getElem?_eq_getElem hk]
    exact List.getElem_mem hk, rfl⟩)
  have h2 : (LM.plain (LM.shAt hs k)).fixes.length = (LM.shAt hs k).fixes.length := rfl
  omega
theorem ordTo_ok {all : List LM.Li} {ix : List Nat} {needs : List ByteArray} (h : LM.OkIx all ix) : ∀ k ix', LM.ordTo all ix needs k = some ix' → LM.OkIx all ix'
  | 0, ix', e => by simp only [LM.ordTo] at e; injection e with e; subst e; exact h
  | k + 1, ix', e => by
    cases g : LM.ordTo all ix needs k with
    | none => rw [LM.ordTo_none g (k + 1) (by omega)] at e; cases e
    | some jx =>
      cases q : LM.ixOf all (M.strAt needs k) with
      | none => rw [LM.ordTo_miss g q] at e; cases e
      | some j =>
        rw [LM.ordTo_step g q] at e
        injection e with e
        subst e
        exact (ordTo_ok h k jx g).add (LM.ixOf_some q).1
theorem gat_ok {all : List LM.Li} : ∀ (f n : Nat) (ix ix' : List Nat), LM.OkIx all ix → LM.gat all f n ix = some ix' → LM.OkIx all ix'
  | 0, n, ix, ix', h, e => by simp only [LM.gat] at e; injection e with e; subst e; exact h
  | f + 1, n, ix, ix', h, e => by
    by_cases hn : n < ix.length
    · cases g : LM.ordTo all ix (LM.needsAt all ix n) (LM.needsAt all ix n).length with
      | none => rw [LM.gat_none all f n ix hn g] at e; cases e
      | some jx =>
        rw [LM.gat_some all f n ix jx hn g] at e
        exact gat_ok f (n + 1) jx ix' (ordTo_ok h _ jx g) e
    · rw [LM.gat_end all (f + 1) n ix hn] at e
      injection e with e
      subst e
      exact h
theorem ok_zero {all : List LM.Li} (h : 0 < all.length) : LM.OkIx all [0] := ⟨by simp, by simp, fun j hj => by simp at hj; omega⟩
end Go.Proofs.Yteieplodndfbhaa.LW
/- The long text; plain Lean. -/
namespace Go.Proofs.Yteieplodndfbhaa.LM
open Go.RowKit
set_option linter.unusedVariables false
set_option maxRecDepth 100000

/-- all segments of an object, laid over s -/
def sgOver (o : Ob) (s : ByteArray) : Nat → ByteArray
  | 0 => s
  | k + 1 => CL.over (sgOver o s k) ((o.base + (M.sgAt o.i.segs k).page) * 16).toNat (M.sgAt o.i.segs k).data
def obOver (l : List Ob) (s : ByteArray) : Nat → ByteArray
  | 0 => s
  | k + 1 => sgOver (obAt l k) (obOver l s k) (obAt l k).i.segs.length
/-- patches, laid over s -/
def ptOver (s : ByteArray) (ps : List Pt) : ByteArray := ps.foldl (fun a p => CL.over a p.pos.toNat p.bytes) s
def rlOver (l : List Ob) (s : ByteArray) : Nat → ByteArray
  | 0 => s
  | k + 1 => ptOver (rlOver l s k) ((patN l (obAt l k)).getD [])
def longN (l : List Ob) : ByteArray := rlOver l (obOver l (LW.zs 4096) l.length) l.length
theorem ptOver_snoc (s : ByteArray) (ps : List Pt) (p : Pt) : ptOver s (ps ++ [p]) = CL.over (ptOver s ps) p.pos.toNat p.bytes := by
  unfold ptOver
  rw [List.foldl_append]
  rfl
/-- a relocation ends where the object does, or ahead -/
theorem rel_end {i : M.Im} (hc : M.chkN i = 0) (k : Nat) (hk : k < i.rels.length) : (M.rlAt i.rels k).pos + 8 ≤ ((lastSeg i).page + (lastSeg i).pages) * 16 := by
  have h := rel_at hc k hk
  unfold M.relAt M.wholeB at h
  simp only [Bool.and_eq_true] at h
  have h7 := h.2.2.2.2.2.2.2.2
  unfold M.placedB at h7
  obtain ⟨s, hs⟩ := Option.isSome_iff_exists.1 h7
  obtain ⟨⟨j, hj, e⟩, hi⟩ := segIn_mem hs
  have hb := segs_last hc j hj
  rw [e] at hb
  unfold M.inSeg at hi
  have := of_decide_eq_true hi
  omega
theorem sgOver_size (o : Ob) (hc : M.chkN o.i = 0) (h1 : 1 ≤ o.base) (he : endO o ≤ 256) (s : ByteArray) (hs : s.size = 4096) : ∀ k, k ≤ o.i.segs.length → (sgOver o s k).size = 4096
  | 0, _ => hs
  | k + 1, hk => by
    have ih := sgOver_size o hc h1 he s hs k (by omega)
    have hb := seg_bounds hc k (by omega)
    have hl := segs_last hc k (by omega)
    unfold endO at he
    simp only [sgOver]
    rw [CL.over_size' _ _ _ (by omega), ih]
theorem obOver_size {l : List Ob} (hc : ∀ k, k < l.length → M.chkN (obAt l k).i = 0) (hp : ∀ k, k < l.length → 1 ≤ (obAt l k).base ∧ endO (obAt l k) ≤ 256) (s : ByteArray) (hs : s.size = 4096) : ∀ k, k ≤ l.length → (obOver l s k).size = 4096
  | 0, _ => hs
  | k + 1, hk => sgOver_size _ (hc k (by omega)) (hp k (by omega)).1 (hp k (by omega)).2 _ (obOver_size hc hp s hs k (by omega)) _ (Nat.le_refl _)
/-- patches that lie in the text -/
def Ins (ps : List Pt) : Prop := ∀ p ∈ ps, 0 ≤ p.pos ∧ p.pos + 8 ≤ 4096 ∧ p.bytes.size = 8
theorem ptOver_size : ∀ (ps : List Pt) (s : ByteArray), Ins ps → s.size = 4096 → (ptOver s ps).size = 4096
  | [], s, _, hs => hs
  | p :: r, s, h, hs => by
    have hp := h p List.mem_cons_self
    show (ptOver (CL.over s p.pos.toNat p.bytes) r).size = 4096
    refine ptOver_size r _ (fun q hq => h q (List.mem_cons_of_mem _ hq)) ?_
    rw [CL.over_size' _ _ _ (by omega), hs]
theorem pat_ins {l : List Ob} {o : Ob} (hc : M.chkN o.i = 0) (h1 : 1 ≤ o.base) (he : endO o ≤ 256) : ∀ (k : Nat) (ps : List Pt), k ≤ o.i.rels.length → patTo l o k = some ps → Ins ps
  | 0, ps, _, h => by simp only [patTo] at h; injection h with h; subst h; exact fun p hp => by simp at hp
  | k + 1, ps, hk, h => by
    cases e : patTo l o k with
    | none => rw [patTo_none e (k + 1) (by omega)] at h; cases h
    | some qs =>
      cases g : tgtN l o (M.rlAt o.i.rels k).name with
      | none =>
        have := LW.pat_miss (l := l) (o := o) (k := k) (by omega) e g
        simp only [patTo] at h
        rw [e] at h
        simp only at h
        rw [g] at h
        cases h
      | some t =>
        rw [LW.pat_next e g] at h
        injection h with h
        subst h
        have ih := pat_ins hc h1 he k qs (by omega) e
        have hb := rel_bounds hc k (by omega)
        have hr := rel_end hc k (by omega)
        unfold endO at he
        intro p hp
        rcases List.mem_append.1 hp with q | q
        · exact ih p q
        · simp at q
          subst q
          refine ⟨?_, ?_, ?_⟩
          · show 0 ≤ o.base * 16 + (M.rlAt o.i.rels k).pos
            omega
          · show o.base * 16 + (M.rlAt o.i.rels k).pos + 8 ≤ 4096
            omega
          · show (⟨(Lib.leBytes 8 (CM.low (t + (M.rlAt o.i.rels k).add))).toArray⟩ : ByteArray).size = 8
            rw [Lib.size_eq]
            simp [Lib.leBytes]
theorem rlOver_size {l : List Ob} (hc : ∀ k, k < l.length → M.chkN (obAt l k).i = 0) (hp : ∀ k, k < l.length → 1 ≤ (obAt l k).base ∧ endO (obAt l k) ≤ 256) (ht : ∀ k, k < l.length → ∃ ps, patN l (obAt l k) = some ps) (s : ByteArray) (hs : s.size = 4096) : ∀ k, k ≤ l.length → (rlOver l s k).size = 4096
  | 0, _ => hs
  | k + 1, hk => by
    obtain ⟨ps, hps⟩ := ht k (by omega)
    have ih := rlOver_size hc hp ht s hs k (by omega)
    simp only [rlOver]
    rw [hps]
    exact ptOver_size ps _ (pat_ins (hc k (by omega)) (hp k (by omega)).1 (hp k (by omega)).2 _ ps (Nat.le_refl _) hps) ih
end Go.Proofs.Yteieplodndfbhaa.LM
