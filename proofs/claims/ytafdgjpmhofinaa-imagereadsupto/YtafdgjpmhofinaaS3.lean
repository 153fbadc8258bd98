import Derived.Test.YtafdgjpmhofinaaS2
namespace Go.Proofs.Ytafdgjpmhofinaa.W
open Go.RowKit
set_option linter.unusedVariables false

def manyP {α : Type} (one : List UInt8 → Option (α × List UInt8)) : Nat → List UInt8 → Option (List α × List UInt8)
  | 0, l => some ([], l)
  | n + 1, l => match one l with
    | none => none
    | some (x, l1) => match manyP one n l1 with
      | none => none
      | some (xs, l2) => some (x :: xs, l2)
def listP {α : Type} (one : List UInt8 → Option (α × List UInt8)) (most : Nat) (l : List UInt8) : Option (List α × List UInt8) := match numP l with
  | none => none
  | some (n, l1) => if 0 ≤ n ∧ n ≤ (most : Int) then manyP one n.toNat l1 else none
def addP {α : Type} (xs : List α) : Option (List α × List UInt8) → Option (List α × List UInt8)
  | none => none
  | some (ys, l) => some (xs ++ ys, l)
theorem addP_nil {α : Type} (o : Option (List α × List UInt8)) : addP [] o = o := by cases o <;> rfl
theorem many_none {α : Type} {one : List UInt8 → Option (α × List UInt8)} {n : Nat} {l : List UInt8} (h : one l = none) : manyP one (n + 1) l = none := by simp only [manyP, h]
theorem many_step {α : Type} {one : List UInt8 → Option (α × List UInt8)} {n : Nat} {l l1 : List UInt8} {x : α} (xs : List α) (h : one l = some (x, l1)) : addP xs (manyP one (n + 1) l) = addP (xs ++ [x]) (manyP one n l1) := by
  simp only [manyP, h]
  cases manyP one n l1 with
  | none => rfl
  | some r => obtain ⟨ys, l2⟩ := r; simp [addP]
/-- a slice of the reader's own making that holds the list -/
def HasN {α : Type} (lo : Nat) (lie : World → Nat → Nat → List α → Prop) (w : World) (ao : Option Addr) (l : List α) : Prop := 0 < l.length → ∃ b off, ao = some ⟨b, off, none⟩ ∧ b < w.heap.size ∧ lo ≤ b ∧ lie w b off l
def OutL {α : Type} (lie : World → Nat → Nat → List α → Prop) (p : Nat) (s : ByteArray) (w : World) : Option (List α × List UInt8) → Ending → World → Prop
  | some (xs, l'), e, w' => (∃ ao cap, e = .returned (.slice ao xs.length cap) ∧ HasN w.heap.size lie w' ao xs) ∧ Rd p w' s l' ∧ Frm p w none w' none
  | none, e, w' => e = wrongE ∧ Frm p w none w' none
theorem flat_get {α : Type} (f : α → List Value) (c : Nat) (hc : ∀ x, (f x).length = c) (d : α) : ∀ (l : List α) (i j : Nat), i < l.length → j < c → (l.flatMap f)[i * c + j]? = (f (l.getD i d))[j]?
  | x :: r, 0, j, _, hj => by
    rw [List.flatMap_cons, Nat.zero_mul, Nat.zero_add, List.getElem?_append_left (by rw [hc]; exact hj)]
    rfl
  | x :: r, i + 1, j, hi, hj => by
    rw [List.flatMap_cons, List.getElem?_append_right (by rw [hc, Nat.succ_mul]; omega), hc, show (i + 1) * c + j - c = i * c + j by rw [Nat.succ_mul]; omega]
    exact flat_get f c hc d r i j (by simpa using hi) hj
theorem ownsRow_frm {p : Nat} {w w' : World} {base : Nat} {e : TypeId} {size : Nat} {v : Value} {n : Nat} {xs : List Value} (h : w.ownsRow base e size v n xs) (hf : Frm p w none w' none) (hb : p < base) : w'.ownsRow base e size v n xs := by
  refine ⟨h.1, ?_⟩
  rcases h.2 with h2 | ⟨g, cap, cur, hv, hbg, hg, rest⟩
  · exact .inl h2
  · exact .inr ⟨g, cap, cur, hv, hbg, (hf.block g (B.isLt hg) (by omega) (by simp)).trans hg, rest⟩
theorem Frm.grown {p : Nat} {w W W' : World} {row : Option Nat} (h : Frm p w none W none) (hg : W.grownBy W' row) (hr : ∀ g, row = some g → w.heap.size ≤ g) (hp : p < w.heap.size) : Frm p w none W' none := by
  have hs := h.below.size
  refine ⟨h.below.grown hg (by omega) (fun k e => by have := hr k e; omega), fun b hb hbp hbr => ?_, .inl rfl⟩
  rw [hg.block b (by omega) (fun e => by have := hr b e.symm; omega)]
  exact h.block b hb hbp hbr
theorem Rd.grown {p : Nat} {W W' : World} {s : ByteArray} {l : List UInt8} {row : Option Nat} (h : Rd p W s l) (hg : W.grownBy W' row) (hr : ∀ g, row = some g → p < g) : Rd p W' s l := by
  obtain ⟨k, h1, h2, h3⟩ := h
  exact ⟨k, h1, h2, (hg.block p (B.isLt h3) (fun e => by have := hr p e.symm; omega)).trans h3⟩
theorem Rd.frm {p : Nat} {W W' : World} {s : ByteArray} {l : List UInt8} (h : Rd p W s l) (hb : Below W.heap.size W W') : Rd p W' s l := h.keep hb

def cellS1 (x : ByteArray) : List Value := [.string x]
theorem row_50 {w : World} {base : Nat} {v : Value} {l : List (ByteArray)} (h : w.ownsRow base 9 1 v l.length (l.flatMap cellS1)) : ∃ ao cap, v = .slice ao l.length cap ∧ HasN base M.LieS w ao l := by
  rcases h.2 with ⟨hv, h0⟩ | ⟨g, cap, cur, hv, hbg, hg, hnc, hcm, hcs, htake⟩
  · exact ⟨none, 0, by rw [hv, h0], fun hl => by omega⟩
  · subst hv
    refine ⟨some ⟨g, 0, none⟩, cap, rfl, fun hl => ⟨g, 0, rfl, B.isLt hg, hbg, fun i hi => ?_⟩⟩
    rw [Nat.zero_add]
    have hh : ∀ j, j < 1 → w.cell? ⟨g, i * 1 + j, none⟩ = (cellS1 (M.strAt l i))[j]? := fun j hj => (h.cellAt _ (by omega)).trans (flat_get cellS1 1 (fun _ => rfl) M.nil l i j hi hj)
    have h0 := hh 0 (by omega)
    rw [Nat.mul_one, Nat.add_zero] at h0
    exact h0

set_option maxRecDepth 100000 in
set_option maxHeartbeats 2000000 in
theorem list_50 (p : Nat) (s : ByteArray) (l : List UInt8) (most : Nat) (w : World) (h : Rd p w s l) (hs : M.Short s.size) (hm : most ≤ 16) :
    Calls Try.prog 50 #[.pointer (some ⟨p, 0, none⟩), .int .i64 (most : Int), .func (.func 49) #[.pointer (some ⟨p, 0, none⟩)] #[]] w (OutL M.LieS p s w (listP textP most l)) := by
  have hpl := h.lt
  have HR := hideC h
  clear h
  obtain ⟨i0, hi, hz0, hz1, hz2⟩ := info_parts info9
  cases e1 : numP l with
  | none =>
    have HT : Hid (listP textP most l = none) := by show _ = _; unfold listP; simp only [e1]
    rw [HT.out]
    go_enter Try.func50, Try.ntmps50
    go_wp2_with (go_at_call 57; refine (out_none (number_rd p s l _ HR.out hs) e1).mono ?_; rintro e w' ⟨rfl, hf⟩; have HF := hideC hf; clear hf)
    exact ⟨rfl, rfl, HF.out⟩
  | some r =>
    obtain ⟨n, l1⟩ := r
    by_cases hc : 0 ≤ n ∧ n ≤ (most : Int)
    · have HT : Hid (listP textP most l = manyP textP n.toNat l1) := by show _ = _; unfold listP; simp only [e1, if_pos hc]
      rw [HT.out]
      obtain ⟨m, hm'⟩ : ∃ m : Nat, n = (m : Int) := ⟨n.toNat, by omega⟩
      subst hm'
      rw [Int.toNat_natCast]
      have hmm : m ≤ most := by omega
      have hmi : (m : Int) ≤ (most : Int) := by omega
      obtain ⟨O, hO⟩ : ∃ O, O = manyP textP m l1 := ⟨_, rfl⟩
      rw [← hO]
      have HO := hideC hO
      clear hO HT hc
      go_enter Try.func50, Try.ntmps50
      go_wp2_with (first | (go_at_call 57; refine (out_some (number_rd p s l _ HR.out hs) e1).mono ?_; rintro e w' ⟨rfl, hr, hf⟩; have HF := hideC hf; have HR := hideC hr; clear hf hr) | (go_at_call 35; refine (must_yes _ _).mono ?_; rintro e w'' ⟨rfl, rfl⟩))
      go_loopw [8, 21] (fun v i wr => ∃ (k : Nat) (xs : List (ByteArray)) (lk : List UInt8), k ≤ m ∧ i = .int .i64 k ∧ xs.length = k ∧ O = addP xs (manyP textP (m - k) lk) ∧ wr.ownsRow w.heap.size 9 1 v k (xs.flatMap cellS1) ∧ Rd p wr s lk ∧ Frm p w none wr none) (fun _ i _ => m - (intOf i).toNat)
      case atStart => exact ⟨0, [], l1, by omega, rfl, rfl, by rw [addP_nil]; exact HO.out, World.ownsRow_nil _ _ _ _, HR.out, HF.out⟩
      case round =>
        clear HR HF HO
        obtain ⟨k, xs, lk, hk, rfl, hxl, hinv, hown, hrd, hfrm⟩ := hrel
        have HV := hideC hinv
        have HW := hideC hown
        have HR := hideC hrd
        have HF := hideC hfrm
        have HXL := hideC hxl
        have hpr := hrd.lt
        have hfs := hfrm.below.size
        have hrow : Hid (∀ j, u8.ownBlock = some j → w.heap.size ≤ j ∧ j < wr.heap.size) := hown.lt
        have hsz : Hid (w.heap.size ≤ wr.heap.size) := hfrm.below.size
        clear hinv hown hrd hfrm hxl e1
        by_cases hlt : k < m
        · have hli : (k : Int) < (m : Int) := by omega
          have HMK : Hid (m - k = (m - (k + 1)) + 1) := by show _ = _; omega
          cases e2 : textP lk with
          | none =>
            have HN : Hid (O = none) := by show _ = _; rw [HV.out, HMK.out, many_none e2]; rfl
            rw [HN.out] at *
            go_wp2_with (go_at_call 49; refine (out_none (text_rd p s lk _ HR.out hs) e2).mono ?_; rintro e w' ⟨rfl, hf⟩; have HF := hideC (HF.out.trans hf); clear hf)
            exact ⟨rfl, by first | exact ⟨rfl, HF.out⟩ | (rw [HN.out]; exact ⟨rfl, HF.out⟩)⟩
          | some r2 =>
            obtain ⟨x, l2⟩ := r2
            have HNX : Hid (O = addP (xs ++ [x]) (manyP textP (m - (k + 1)) l2)) := by show _ = _; rw [HV.out, HMK.out, many_step xs e2]
            skip
            go_wp2_with (first | (go_at_call 49; refine (out_some (text_rd p s lk _ HR.out hs) e2).mono ?_; rintro e w1 ⟨rfl, hr, hf⟩; have HW := hideC (ownsRow_frm HW.out hf (by omega)); have HF := hideC (HF.out.trans hf); have HR := hideC hr; have hrow1 : Hid (∀ j, u8.ownBlock = some j → w.heap.size ≤ j ∧ j < w1.heap.size) := HW.out.lt; have hw1 := HF.out.below.size; have hp1 := hr.lt; have hs1 : w.heap.size ≤ w1.heap.size := Nat.le_trans hsz.out hf.below.size; have HN := hideC (B.new w1 #[.string x] 9); have HBA := hideC ((Below.refl w1.heap.size w1).alloc (Nat.le_refl _) (.cells #[.string x] 9)); clear hf hr; skip) | (at_builtin; refine wpList_append_lies _ rfl _ _ 22 rfl w.heap.size 9 i0 (.string ⟨#[]⟩) 1 16 Try.underlying22 hi hz0 hz1 hz2 rfl (by decide) _ _ _ rfl (HW.out.alloc _) ⟨w1.heap.size, 0, none⟩ 1 1 [.string x] rfl rfl (B.news HN.out) (by intro u hu; simp at hu; subst hu; rfl) (by decide) (by unfold maxLen; omega) (by omega) (by simp; omega) (w1.heap.size + 1) (by simp) ?_))
            intro g cap w2 hown2 hgrow hat hlt2
            have HW2 := hideC hown2
            have HR2 := hideC ((HR.out.keep HBA.out).grown hgrow (fun g e => by have := hrow1.out g e; omega))
            have HF2 := hideC ((HF.out.trans (Frm.ofBelow HBA.out (by omega) none)).grown hgrow (fun g e => (hrow1.out g e).1) (by omega))
            clear hown2 hgrow hat
            go_wp2
            go_roundw
            case rel => exact ⟨k + 1, xs ++ [x], l2, by omega, by go_num, by rw [List.length_append, HXL.out]; rfl, HNX.out, by rw [List.flatMap_append]; exact HW2.out, HR2.out, HF2.out⟩
            case measure => simp [intOf]; omega
        · obtain rfl : k = m := by omega
          have HN : Hid (O = some (xs, lk)) := by show _ = _; rw [HV.out, Nat.sub_self]; simp [manyP, addP]
          go_wp2
          go_ret
          rw [HN.out]
          have ho := HW.out
          rw [← HXL.out] at ho
          obtain ⟨ao, cap, hv, hh⟩ := row_50 ho
          exact ⟨⟨ao, cap, by rw [← hv]; rfl, hh⟩, HR.out, HF.out⟩
    · have HT : Hid (listP textP most l = none) := by show _ = _; unfold listP; simp only [e1, if_neg hc]
      rw [HT.out]
      by_cases h0 : 0 ≤ n
      · have h1 : ¬ n ≤ (most : Int) := by omega
        have h1' : decide (n ≤ (most : Int)) = false := decide_eq_false h1
        go_enter Try.func50, Try.ntmps50
        go_wp2_with (first | (go_at_call 57; refine (out_some (number_rd p s l _ HR.out hs) e1).mono ?_; rintro e w' ⟨rfl, hr, hf⟩; have HF := hideC hf; have HR := hideC hr; clear hf hr) | (go_at_call 35; refine (must_no _ _).mono ?_; rintro e w'' ⟨rfl, rfl⟩))
        exact ⟨rfl, rfl, HF.out⟩
      · have h0' : decide (0 ≤ n) = false := decide_eq_false h0
        go_enter Try.func50, Try.ntmps50
        go_wp2_with (first | (go_at_call 57; refine (out_some (number_rd p s l _ HR.out hs) e1).mono ?_; rintro e w' ⟨rfl, hr, hf⟩; have HF := hideC hf; have HR := hideC hr; clear hf hr) | (go_at_call 35; refine (must_no _ _).mono ?_; rintro e w'' ⟨rfl, rfl⟩))
        exact ⟨rfl, rfl, HF.out⟩

theorem info48 : (Try.prog.info? 48).map (fun i => (i.zero, i.size, i.bytes)) = some (some (.agg #[.int .i64 0, .int .i64 0, .string ⟨#[]⟩, .bool false, .bool false]), 5, 40) := by kernel_rfl
def cellG5 (x : M.Sg) : List Value := [.int .i64 x.page, .int .i64 x.pages, .string x.data, .bool x.wr, .bool x.ex]
theorem row_51 {w : World} {base : Nat} {v : Value} {l : List (M.Sg)} (h : w.ownsRow base 48 5 v l.length (l.flatMap cellG5)) : ∃ ao cap, v = .slice ao l.length cap ∧ HasN base M.LieG w ao l := by
  rcases h.2 with ⟨hv, h0⟩ | ⟨g, cap, cur, hv, hbg, hg, hnc, hcm, hcs, htake⟩
  · exact ⟨none, 0, by rw [hv, h0], fun hl => by omega⟩
  · subst hv
    refine ⟨some ⟨g, 0, none⟩, cap, rfl, fun hl => ⟨g, 0, rfl, B.isLt hg, hbg, fun i hi => ?_⟩⟩
    rw [Nat.zero_add]
    have hh : ∀ j, j < 5 → w.cell? ⟨g, i * 5 + j, none⟩ = (cellG5 (M.sgAt l i))[j]? := fun j hj => (h.cellAt _ (by omega)).trans (flat_get cellG5 5 (fun _ => rfl) M.sg0 l i j hi hj)
    exact ⟨hh 0 (by omega), hh 1 (by omega), hh 2 (by omega), hh 3 (by omega), hh 4 (by omega)⟩

set_option maxRecDepth 100000 in
set_option maxHeartbeats 2000000 in
theorem list_51 (p : Nat) (s : ByteArray) (l : List UInt8) (most : Nat) (w : World) (h : Rd p w s l) (hs : M.Short s.size) (hm : most ≤ 16) :
    Calls Try.prog 51 #[.pointer (some ⟨p, 0, none⟩), .int .i64 (most : Int), .func (.func 52) #[.pointer (some ⟨p, 0, none⟩)] #[]] w (OutL M.LieG p s w (listP segP most l)) := by
  have hpl := h.lt
  have HR := hideC h
  clear h
  obtain ⟨i0, hi, hz0, hz1, hz2⟩ := info_parts info48
  cases e1 : numP l with
  | none =>
    have HT : Hid (listP segP most l = none) := by show _ = _; unfold listP; simp only [e1]
    rw [HT.out]
    go_enter Try.func51, Try.ntmps51
    go_wp2_with (go_at_call 57; refine (out_none (number_rd p s l _ HR.out hs) e1).mono ?_; rintro e w' ⟨rfl, hf⟩; have HF := hideC hf; clear hf)
    exact ⟨rfl, rfl, HF.out⟩
  | some r =>
    obtain ⟨n, l1⟩ := r
    by_cases hc : 0 ≤ n ∧ n ≤ (most : Int)
    · have HT : Hid (listP segP most l = manyP segP n.toNat l1) := by show _ = _; unfold listP; simp only [e1, if_pos hc]
      rw [HT.out]
      obtain ⟨m, hm'⟩ : ∃ m : Nat, n = (m : Int) := ⟨n.toNat, by omega⟩
      subst hm'
      rw [Int.toNat_natCast]
      have hmm : m ≤ most := by omega
      have hmi : (m : Int) ≤ (most : Int) := by omega
      obtain ⟨O, hO⟩ : ∃ O, O = manyP segP m l1 := ⟨_, rfl⟩
      rw [← hO]
      have HO := hideC hO
      clear hO HT hc
      go_enter Try.func51, Try.ntmps51
      go_wp2_with (first | (go_at_call 57; refine (out_some (number_rd p s l _ HR.out hs) e1).mono ?_; rintro e w' ⟨rfl, hr, hf⟩; have HF := hideC hf; have HR := hideC hr; clear hf hr) | (go_at_call 35; refine (must_yes _ _).mono ?_; rintro e w'' ⟨rfl, rfl⟩))
      go_loopw [8, 21] (fun v i wr => ∃ (k : Nat) (xs : List (M.Sg)) (lk : List UInt8), k ≤ m ∧ i = .int .i64 k ∧ xs.length = k ∧ O = addP xs (manyP segP (m - k) lk) ∧ wr.ownsRow w.heap.size 48 5 v k (xs.flatMap cellG5) ∧ Rd p wr s lk ∧ Frm p w none wr none) (fun _ i _ => m - (intOf i).toNat)
      case atStart => exact ⟨0, [], l1, by omega, rfl, rfl, by rw [addP_nil]; exact HO.out, World.ownsRow_nil _ _ _ _, HR.out, HF.out⟩
      case round =>
        clear HR HF HO
        obtain ⟨k, xs, lk, hk, rfl, hxl, hinv, hown, hrd, hfrm⟩ := hrel
        have HV := hideC hinv
        have HW := hideC hown
        have HR := hideC hrd
        have HF := hideC hfrm
        have HXL := hideC hxl
        have hpr := hrd.lt
        have hfs := hfrm.below.size
        have hrow : Hid (∀ j, u8.ownBlock = some j → w.heap.size ≤ j ∧ j < wr.heap.size) := hown.lt
        have hsz : Hid (w.heap.size ≤ wr.heap.size) := hfrm.below.size
        clear hinv hown hrd hfrm hxl e1
        by_cases hlt : k < m
        · have hli : (k : Int) < (m : Int) := by omega
          have HMK : Hid (m - k = (m - (k + 1)) + 1) := by show _ = _; omega
          cases e2 : segP lk with
          | none =>
            have HN : Hid (O = none) := by show _ = _; rw [HV.out, HMK.out, many_none e2]; rfl
            rw [HN.out] at *
            go_wp2_with (go_at_call 52; refine (out_none (seg_rd p s lk _ HR.out hs) e2).mono ?_; rintro e w' ⟨rfl, hf⟩; have HF := hideC (HF.out.trans hf); clear hf)
            exact ⟨rfl, by first | exact ⟨rfl, HF.out⟩ | (rw [HN.out]; exact ⟨rfl, HF.out⟩)⟩
          | some r2 =>
            obtain ⟨x, l2⟩ := r2
            have HNX : Hid (O = addP (xs ++ [x]) (manyP segP (m - (k + 1)) l2)) := by show _ = _; rw [HV.out, HMK.out, many_step xs e2]
            obtain ⟨sp, sn, sd, sx, sy⟩ := x
            go_wp2_with (first | (go_at_call 52; refine (out_some (seg_rd p s lk _ HR.out hs) e2).mono ?_; rintro e w1 ⟨rfl, hr, hf⟩; have HW := hideC (ownsRow_frm HW.out hf (by omega)); have HF := hideC (HF.out.trans hf); have HR := hideC hr; have hrow1 : Hid (∀ j, u8.ownBlock = some j → w.heap.size ≤ j ∧ j < w1.heap.size) := HW.out.lt; have hw1 := HF.out.below.size; have hp1 := hr.lt; have hs1 : w.heap.size ≤ w1.heap.size := Nat.le_trans hsz.out hf.below.size; have HN := hideC (B.new w1 #[.int .i64 sp, .int .i64 sn, .string sd, .bool sx, .bool sy] 48); have HBA := hideC ((Below.refl w1.heap.size w1).alloc (Nat.le_refl _) (.cells #[.int .i64 sp, .int .i64 sn, .string sd, .bool sx, .bool sy] 48)); clear hf hr; simp only [cellsG]) | (at_builtin; refine wpList_append_lies _ rfl _ _ 23 rfl w.heap.size 48 i0 (.agg #[.int .i64 0, .int .i64 0, .string ⟨#[]⟩, .bool false, .bool false]) 5 40 Try.underlying23 hi hz0 hz1 hz2 rfl (by decide) _ _ _ rfl (HW.out.alloc _) ⟨w1.heap.size, 0, none⟩ 1 1 [.int .i64 sp, .int .i64 sn, .string sd, .bool sx, .bool sy] rfl rfl (B.news HN.out) (by intro u hu; simp at hu; rcases hu with rfl | rfl | rfl | rfl | rfl <;> rfl) (by decide) (by unfold maxLen; omega) (by omega) (by simp; omega) (w1.heap.size + 1) (by simp) ?_))
            intro g cap w2 hown2 hgrow hat hlt2
            have HW2 := hideC hown2
            have HR2 := hideC ((HR.out.keep HBA.out).grown hgrow (fun g e => by have := hrow1.out g e; omega))
            have HF2 := hideC ((HF.out.trans (Frm.ofBelow HBA.out (by omega) none)).grown hgrow (fun g e => (hrow1.out g e).1) (by omega))
            clear hown2 hgrow hat
            go_wp2
            go_roundw
            case rel => exact ⟨k + 1, xs ++ [⟨sp, sn, sd, sx, sy⟩], l2, by omega, by go_num, by rw [List.length_append, HXL.out]; rfl, HNX.out, by rw [List.flatMap_append]; exact HW2.out, HR2.out, HF2.out⟩
            case measure => simp [intOf]; omega
        · obtain rfl : k = m := by omega
          have HN : Hid (O = some (xs, lk)) := by show _ = _; rw [HV.out, Nat.sub_self]; simp [manyP, addP]
          go_wp2
          go_ret
          rw [HN.out]
          have ho := HW.out
          rw [← HXL.out] at ho
          obtain ⟨ao, cap, hv, hh⟩ := row_51 ho
          exact ⟨⟨ao, cap, by rw [← hv]; rfl, hh⟩, HR.out, HF.out⟩
    · have HT : Hid (listP segP most l = none) := by show _ = _; unfold listP; simp only [e1, if_neg hc]
      rw [HT.out]
      by_cases h0 : 0 ≤ n
      · have h1 : ¬ n ≤ (most : Int) := by omega
        have h1' : decide (n ≤ (most : Int)) = false := decide_eq_false h1
        go_enter Try.func51, Try.ntmps51
        go_wp2_with (first | (go_at_call 57; refine (out_some (number_rd p s l _ HR.out hs) e1).mono ?_; rintro e w' ⟨rfl, hr, hf⟩; have HF := hideC hf; have HR := hideC hr; clear hf hr) | (go_at_call 35; refine (must_no _ _).mono ?_; rintro e w'' ⟨rfl, rfl⟩))
        exact ⟨rfl, rfl, HF.out⟩
      · have h0' : decide (0 ≤ n) = false := decide_eq_false h0
        go_enter Try.func51, Try.ntmps51
        go_wp2_with (first | (go_at_call 57; refine (out_some (number_rd p s l _ HR.out hs) e1).mono ?_; rintro e w' ⟨rfl, hr, hf⟩; have HF := hideC hf; have HR := hideC hr; clear hf hr) | (go_at_call 35; refine (must_no _ _).mono ?_; rintro e w'' ⟨rfl, rfl⟩))
        exact ⟨rfl, rfl, HF.out⟩

theorem info50 : (Try.prog.info? 50).map (fun i => (i.zero, i.size, i.bytes)) = some (some (.agg #[.string ⟨#[]⟩, .int .i64 0]), 2, 24) := by kernel_rfl
def cellY2 (x : M.Sy) : List Value := [.string x.name, .int .i64 x.pos]
theorem row_53 {w : World} {base : Nat} {v : Value} {l : List (M.Sy)} (h : w.ownsRow base 50 2 v l.length (l.flatMap cellY2)) : ∃ ao cap, v = .slice ao l.length cap ∧ HasN base M.LieY w ao l := by
  rcases h.2 with ⟨hv, h0⟩ | ⟨g, cap, cur, hv, hbg, hg, hnc, hcm, hcs, htake⟩
  · exact ⟨none, 0, by rw [hv, h0], fun hl => by omega⟩
  · subst hv
    refine ⟨some ⟨g, 0, none⟩, cap, rfl, fun hl => ⟨g, 0, rfl, B.isLt hg, hbg, fun i hi => ?_⟩⟩
    rw [Nat.zero_add]
    have hh : ∀ j, j < 2 → w.cell? ⟨g, i * 2 + j, none⟩ = (cellY2 (M.syAt l i))[j]? := fun j hj => (h.cellAt _ (by omega)).trans (flat_get cellY2 2 (fun _ => rfl) M.sy0 l i j hi hj)
    exact ⟨hh 0 (by omega), hh 1 (by omega)⟩

set_option maxRecDepth 100000 in
set_option maxHeartbeats 2000000 in
theorem list_53 (p : Nat) (s : ByteArray) (l : List UInt8) (most : Nat) (w : World) (h : Rd p w s l) (hs : M.Short s.size) (hm : most ≤ 16) :
    Calls Try.prog 53 #[.pointer (some ⟨p, 0, none⟩), .int .i64 (most : Int), .func (.func 54) #[.pointer (some ⟨p, 0, none⟩)] #[]] w (OutL M.LieY p s w (listP symP most l)) := by
  have hpl := h.lt
  have HR := hideC h
  clear h
  obtain ⟨i0, hi, hz0, hz1, hz2⟩ := info_parts info50
  cases e1 : numP l with
  | none =>
    have HT : Hid (listP symP most l = none) := by show _ = _; unfold listP; simp only [e1]
    rw [HT.out]
    go_enter Try.func53, Try.ntmps53
    go_wp2_with (go_at_call 57; refine (out_none (number_rd p s l _ HR.out hs) e1).mono ?_; rintro e w' ⟨rfl, hf⟩; have HF := hideC hf; clear hf)
    exact ⟨rfl, rfl, HF.out⟩
  | some r =>
    obtain ⟨n, l1⟩ := r
    by_cases hc : 0 ≤ n ∧ n ≤ (most : Int)
    · have HT : Hid (listP symP most l = manyP symP n.toNat l1) := by show _ = _; unfold listP; simp only [e1, if_pos hc]
      rw [HT.out]
      obtain ⟨m, hm'⟩ : ∃ m : Nat, n = (m : Int) := ⟨n.toNat, by omega⟩
      subst hm'
      rw [Int.toNat_natCast]
      have hmm : m ≤ most := by omega
      have hmi : (m : Int) ≤ (most : Int) := by omega
      obtain ⟨O, hO⟩ : ∃ O, O = manyP symP m l1 := ⟨_, rfl⟩
      rw [← hO]
      have HO := hideC hO
      clear hO HT hc
      go_enter Try.func53, Try.ntmps53
      go_wp2_with (first | (go_at_call 57; refine (out_some (number_rd p s l _ HR.out hs) e1).mono ?_; rintro e w' ⟨rfl, hr, hf⟩; have HF := hideC hf; have HR := hideC hr; clear hf hr) | (go_at_call 35; refine (must_yes _ _).mono ?_; rintro e w'' ⟨rfl, rfl⟩))
      go_loopw [8, 21] (fun v i wr => ∃ (k : Nat) (xs : List (M.Sy)) (lk : List UInt8), k ≤ m ∧ i = .int .i64 k ∧ xs.length = k ∧ O = addP xs (manyP symP (m - k) lk) ∧ wr.ownsRow w.heap.size 50 2 v k (xs.flatMap cellY2) ∧ Rd p wr s lk ∧ Frm p w none wr none) (fun _ i _ => m - (intOf i).toNat)
      case atStart => exact ⟨0, [], l1, by omega, rfl, rfl, by rw [addP_nil]; exact HO.out, World.ownsRow_nil _ _ _ _, HR.out, HF.out⟩
      case round =>
        clear HR HF HO
        obtain ⟨k, xs, lk, hk, rfl, hxl, hinv, hown, hrd, hfrm⟩ := hrel
        have HV := hideC hinv
        have HW := hideC hown
        have HR := hideC hrd
        have HF := hideC hfrm
        have HXL := hideC hxl
        have hpr := hrd.lt
        have hfs := hfrm.below.size
        have hrow : Hid (∀ j, u8.ownBlock = some j → w.heap.size ≤ j ∧ j < wr.heap.size) := hown.lt
        have hsz : Hid (w.heap.size ≤ wr.heap.size) := hfrm.below.size
        clear hinv hown hrd hfrm hxl e1
        by_cases hlt : k < m
        · have hli : (k : Int) < (m : Int) := by omega
          have HMK : Hid (m - k = (m - (k + 1)) + 1) := by show _ = _; omega
          cases e2 : symP lk with
          | none =>
            have HN : Hid (O = none) := by show _ = _; rw [HV.out, HMK.out, many_none e2]; rfl
            rw [HN.out] at *
            go_wp2_with (go_at_call 54; refine (out_none (sym_rd p s lk _ HR.out hs) e2).mono ?_; rintro e w' ⟨rfl, hf⟩; have HF := hideC (HF.out.trans hf); clear hf)
            exact ⟨rfl, by first | exact ⟨rfl, HF.out⟩ | (rw [HN.out]; exact ⟨rfl, HF.out⟩)⟩
          | some r2 =>
            obtain ⟨x, l2⟩ := r2
            have HNX : Hid (O = addP (xs ++ [x]) (manyP symP (m - (k + 1)) l2)) := by show _ = _; rw [HV.out, HMK.out, many_step xs e2]
            obtain ⟨x, xp⟩ := x
            go_wp2_with (first | (go_at_call 54; refine (out_some (sym_rd p s lk _ HR.out hs) e2).mono ?_; rintro e w1 ⟨rfl, hr, hf⟩; have HW := hideC (ownsRow_frm HW.out hf (by omega)); have HF := hideC (HF.out.trans hf); have HR := hideC hr; have hrow1 : Hid (∀ j, u8.ownBlock = some j → w.heap.size ≤ j ∧ j < w1.heap.size) := HW.out.lt; have hw1 := HF.out.below.size; have hp1 := hr.lt; have hs1 : w.heap.size ≤ w1.heap.size := Nat.le_trans hsz.out hf.below.size; have HN := hideC (B.new w1 #[.string x, .int .i64 xp] 50); have HBA := hideC ((Below.refl w1.heap.size w1).alloc (Nat.le_refl _) (.cells #[.string x, .int .i64 xp] 50)); clear hf hr; simp only [cellsY]) | (at_builtin; refine wpList_append_lies _ rfl _ _ 24 rfl w.heap.size 50 i0 (.agg #[.string ⟨#[]⟩, .int .i64 0]) 2 24 Try.underlying24 hi hz0 hz1 hz2 rfl (by decide) _ _ _ rfl (HW.out.alloc _) ⟨w1.heap.size, 0, none⟩ 1 1 [.string x, .int .i64 xp] rfl rfl (B.news HN.out) (by intro u hu; simp at hu; rcases hu with rfl | rfl <;> rfl) (by decide) (by unfold maxLen; omega) (by omega) (by simp; omega) (w1.heap.size + 1) (by simp) ?_))
            intro g cap w2 hown2 hgrow hat hlt2
            have HW2 := hideC hown2
            have HR2 := hideC ((HR.out.keep HBA.out).grown hgrow (fun g e => by have := hrow1.out g e; omega))
            have HF2 := hideC ((HF.out.trans (Frm.ofBelow HBA.out (by omega) none)).grown hgrow (fun g e => (hrow1.out g e).1) (by omega))
            clear hown2 hgrow hat
            go_wp2
            go_roundw
            case rel => exact ⟨k + 1, xs ++ [⟨x, xp⟩], l2, by omega, by go_num, by rw [List.length_append, HXL.out]; rfl, HNX.out, by rw [List.flatMap_append]; exact HW2.out, HR2.out, HF2.out⟩
            case measure => simp [intOf]; omega
        · obtain rfl : k = m := by omega
          have HN : Hid (O = some (xs, lk)) := by show _ = _; rw [HV.out, Nat.sub_self]; simp [manyP, addP]
          go_wp2
          go_ret
          rw [HN.out]
          have ho := HW.out
          rw [← HXL.out] at ho
          obtain ⟨ao, cap, hv, hh⟩ := row_53 ho
          exact ⟨⟨ao, cap, by rw [← hv]; rfl, hh⟩, HR.out, HF.out⟩
    · have HT : Hid (listP symP most l = none) := by show _ = _; unfold listP; simp only [e1, if_neg hc]
      rw [HT.out]
      by_cases h0 : 0 ≤ n
      · have h1 : ¬ n ≤ (most : Int) := by omega
        have h1' : decide (n ≤ (most : Int)) = false := decide_eq_false h1
        go_enter Try.func53, Try.ntmps53
        go_wp2_with (first | (go_at_call 57; refine (out_some (number_rd p s l _ HR.out hs) e1).mono ?_; rintro e w' ⟨rfl, hr, hf⟩; have HF := hideC hf; have HR := hideC hr; clear hf hr) | (go_at_call 35; refine (must_no _ _).mono ?_; rintro e w'' ⟨rfl, rfl⟩))
        exact ⟨rfl, rfl, HF.out⟩
      · have h0' : decide (0 ≤ n) = false := decide_eq_false h0
        go_enter Try.func53, Try.ntmps53
        go_wp2_with (first | (go_at_call 57; refine (out_some (number_rd p s l _ HR.out hs) e1).mono ?_; rintro e w' ⟨rfl, hr, hf⟩; have HF := hideC hf; have HR := hideC hr; clear hf hr) | (go_at_call 35; refine (must_no _ _).mono ?_; rintro e w'' ⟨rfl, rfl⟩))
        exact ⟨rfl, rfl, HF.out⟩

theorem info59 : (Try.prog.info? 59).map (fun i => (i.zero, i.size, i.bytes)) = some (some (.agg #[.int .i64 0, .string ⟨#[]⟩, .int .i64 0]), 3, 32) := by kernel_rfl
def cellR3 (x : M.Rl) : List Value := [.int .i64 x.pos, .string x.name, .int .i64 x.add]
theorem row_55 {w : World} {base : Nat} {v : Value} {l : List (M.Rl)} (h : w.ownsRow base 59 3 v l.length (l.flatMap cellR3)) : ∃ ao cap, v = .slice ao l.length cap ∧ HasN base M.LieR w ao l := by
  rcases h.2 with ⟨hv, h0⟩ | ⟨g, cap, cur, hv, hbg, hg, hnc, hcm, hcs, htake⟩
  · exact ⟨none, 0, by rw [hv, h0], fun hl => by omega⟩
  · subst hv
    refine ⟨some ⟨g, 0, none⟩, cap, rfl, fun hl => ⟨g, 0, rfl, B.isLt hg, hbg, fun i hi => ?_⟩⟩
    rw [Nat.zero_add]
    have hh : ∀ j, j < 3 → w.cell? ⟨g, i * 3 + j, none⟩ = (cellR3 (M.rlAt l i))[j]? := fun j hj => (h.cellAt _ (by omega)).trans (flat_get cellR3 3 (fun _ => rfl) M.rl0 l i j hi hj)
    exact ⟨hh 0 (by omega), hh 1 (by omega), hh 2 (by omega)⟩

set_option maxRecDepth 100000 in
set_option maxHeartbeats 2000000 in
theorem list_55 (p : Nat) (s : ByteArray) (l : List UInt8) (most : Nat) (w : World) (h : Rd p w s l) (hs : M.Short s.size) (hm : most ≤ 16) :
    Calls Try.prog 55 #[.pointer (some ⟨p, 0, none⟩), .int .i64 (most : Int), .func (.func 56) #[.pointer (some ⟨p, 0, none⟩)] #[]] w (OutL M.LieR p s w (listP relP most l)) := by
  have hpl := h.lt
  have HR := hideC h
  clear h
  obtain ⟨i0, hi, hz0, hz1, hz2⟩ := info_parts info59
  cases e1 : numP l with
  | none =>
    have HT : Hid (listP relP most l = none) := by show _ = _; unfold listP; simp only [e1]
    rw [HT.out]
    go_enter Try.func55, Try.ntmps55
    go_wp2_with (go_at_call 57; refine (out_none (number_rd p s l _ HR.out hs) e1).mono ?_; rintro e w' ⟨rfl, hf⟩; have HF := hideC hf; clear hf)
    exact ⟨rfl, rfl, HF.out⟩
  | some r =>
    obtain ⟨n, l1⟩ := r
    by_cases hc : 0 ≤ n ∧ n ≤ (most : Int)
    · have HT : Hid (listP relP most l = manyP relP n.toNat l1) := by show _ = _; unfold listP; simp only [e1, if_pos hc]
      rw [HT.out]
      obtain ⟨m, hm'⟩ : ∃ m : Nat, n = (m : Int) := ⟨n.toNat, by omega⟩
      subst hm'
      rw [Int.toNat_natCast]
      have hmm : m ≤ most := by omega
      have hmi : (m : Int) ≤ (most : Int) := by omega
      obtain ⟨O, hO⟩ : ∃ O, O = manyP relP m l1 := ⟨_, rfl⟩
      rw [← hO]
      have HO := hideC hO
      clear hO HT hc
      go_enter Try.func55, Try.ntmps55
      go_wp2_with (first | (go_at_call 57; refine (out_some (number_rd p s l _ HR.out hs) e1).mono ?_; rintro e w' ⟨rfl, hr, hf⟩; have HF := hideC hf; have HR := hideC hr; clear hf hr) | (go_at_call 35; refine (must_yes _ _).mono ?_; rintro e w'' ⟨rfl, rfl⟩))
      go_loopw [8, 21] (fun v i wr => ∃ (k : Nat) (xs : List (M.Rl)) (lk : List UInt8), k ≤ m ∧ i = .int .i64 k ∧ xs.length = k ∧ O = addP xs (manyP relP (m - k) lk) ∧ wr.ownsRow w.heap.size 59 3 v k (xs.flatMap cellR3) ∧ Rd p wr s lk ∧ Frm p w none wr none) (fun _ i _ => m - (intOf i).toNat)
      case atStart => exact ⟨0, [], l1, by omega, rfl, rfl, by rw [addP_nil]; exact HO.out, World.ownsRow_nil _ _ _ _, HR.out, HF.out⟩
      case round =>
        clear HR HF HO
        obtain ⟨k, xs, lk, hk, rfl, hxl, hinv, hown, hrd, hfrm⟩ := hrel
        have HV := hideC hinv
        have HW := hideC hown
        have HR := hideC hrd
        have HF := hideC hfrm
        have HXL := hideC hxl
        have hpr := hrd.lt
        have hfs := hfrm.below.size
        have hrow : Hid (∀ j, u8.ownBlock = some j → w.heap.size ≤ j ∧ j < wr.heap.size) := hown.lt
        have hsz : Hid (w.heap.size ≤ wr.heap.size) := hfrm.below.size
        clear hinv hown hrd hfrm hxl e1
        by_cases hlt : k < m
        · have hli : (k : Int) < (m : Int) := by omega
          have HMK : Hid (m - k = (m - (k + 1)) + 1) := by show _ = _; omega
          cases e2 : relP lk with
          | none =>
            have HN : Hid (O = none) := by show _ = _; rw [HV.out, HMK.out, many_none e2]; rfl
            rw [HN.out] at *
            go_wp2_with (go_at_call 56; refine (out_none (rel_rd p s lk _ HR.out hs) e2).mono ?_; rintro e w' ⟨rfl, hf⟩; have HF := hideC (HF.out.trans hf); clear hf)
            exact ⟨rfl, by first | exact ⟨rfl, HF.out⟩ | (rw [HN.out]; exact ⟨rfl, HF.out⟩)⟩
          | some r2 =>
            obtain ⟨x, l2⟩ := r2
            have HNX : Hid (O = addP (xs ++ [x]) (manyP relP (m - (k + 1)) l2)) := by show _ = _; rw [HV.out, HMK.out, many_step xs e2]
            obtain ⟨xp, x, xa⟩ := x
            go_wp2_with (first | (go_at_call 56; refine (out_some (rel_rd p s lk _ HR.out hs) e2).mono ?_; rintro e w1 ⟨rfl, hr, hf⟩; have HW := hideC (ownsRow_frm HW.out hf (by omega)); have HF := hideC (HF.out.trans hf); have HR := hideC hr; have hrow1 : Hid (∀ j, u8.ownBlock = some j → w.heap.size ≤ j ∧ j < w1.heap.size) := HW.out.lt; have hw1 := HF.out.below.size; have hp1 := hr.lt; have hs1 : w.heap.size ≤ w1.heap.size := Nat.le_trans hsz.out hf.below.size; have HN := hideC (B.new w1 #[.int .i64 xp, .string x, .int .i64 xa] 59); have HBA := hideC ((Below.refl w1.heap.size w1).alloc (Nat.le_refl _) (.cells #[.int .i64 xp, .string x, .int .i64 xa] 59)); clear hf hr; simp only [cellsR]) | (at_builtin; refine wpList_append_lies _ rfl _ _ 25 rfl w.heap.size 59 i0 (.agg #[.int .i64 0, .string ⟨#[]⟩, .int .i64 0]) 3 32 Try.underlying25 hi hz0 hz1 hz2 rfl (by decide) _ _ _ rfl (HW.out.alloc _) ⟨w1.heap.size, 0, none⟩ 1 1 [.int .i64 xp, .string x, .int .i64 xa] rfl rfl (B.news HN.out) (by intro u hu; simp at hu; rcases hu with rfl | rfl | rfl <;> rfl) (by decide) (by unfold maxLen; omega) (by omega) (by simp; omega) (w1.heap.size + 1) (by simp) ?_))
            intro g cap w2 hown2 hgrow hat hlt2
            have HW2 := hideC hown2
            have HR2 := hideC ((HR.out.keep HBA.out).grown hgrow (fun g e => by have := hrow1.out g e; omega))
            have HF2 := hideC ((HF.out.trans (Frm.ofBelow HBA.out (by omega) none)).grown hgrow (fun g e => (hrow1.out g e).1) (by omega))
            clear hown2 hgrow hat
            go_wp2
            go_roundw
            case rel => exact ⟨k + 1, xs ++ [⟨xp, x, xa⟩], l2, by omega, by go_num, by rw [List.length_append, HXL.out]; rfl, HNX.out, by rw [List.flatMap_append]; exact HW2.out, HR2.out, HF2.out⟩
            case measure => simp [intOf]; omega
        · obtain rfl : k = m := by omega
          have HN : Hid (O = some (xs, lk)) := by show _ = _; rw [HV.out, Nat.sub_self]; simp [manyP, addP]
          go_wp2
          go_ret
          rw [HN.out]
          have ho := HW.out
          rw [← HXL.out] at ho
          obtain ⟨ao, cap, hv, hh⟩ := row_55 ho
          exact ⟨⟨ao, cap, by rw [← hv]; rfl, hh⟩, HR.out, HF.out⟩
    · have HT : Hid (listP relP most l = none) := by show _ = _; unfold listP; simp only [e1, if_neg hc]
      rw [HT.out]
      by_cases h0 : 0 ≤ n
      · have h1 : ¬ n ≤ (most : Int) := by omega
        have h1' : decide (n ≤ (most : Int)) = false := decide_eq_false h1
        go_enter Try.func55, Try.ntmps55
        go_wp2_with (first | (go_at_call 57; refine (out_some (number_rd p s l _ HR.out hs) e1).mono ?_; rintro e w' ⟨rfl, hr, hf⟩; have HF := hideC hf; have HR := hideC hr; clear hf hr) | (go_at_call 35; refine (must_no _ _).mono ?_; rintro e w'' ⟨rfl, rfl⟩))
        exact ⟨rfl, rfl, HF.out⟩
      · have h0' : decide (0 ≤ n) = false := decide_eq_false h0
        go_enter Try.func55, Try.ntmps55
        go_wp2_with (first | (go_at_call 57; refine (out_some (number_rd p s l _ HR.out hs) e1).mono ?_; rintro e w' ⟨rfl, hr, hf⟩; have HF := hideC hf; have HR := hideC hr; clear hf hr) | (go_at_call 35; refine (must_no _ _).mono ?_; rintro e w'' ⟨rfl, rfl⟩))
        exact ⟨rfl, rfl, HF.out⟩

end Go.Proofs.Ytafdgjpmhofinaa.W
