import Derived.Test.YtklobjfhjlkgfaaDoorGA15
import Derived.Test.YtklobjfhjlkgfaaDoorGA14
/- Plain: the reference's guess of a line is the instruction. -/
namespace Go.Proofs.YtklobjfhjlkgfaaDoor.TW
open Go.RowKit
set_option linter.unusedVariables false
set_option maxRecDepth 100000
set_option linter.unusedSimpArgs false

def mk (l : List UInt8) : ByteArray := ⟨l.toArray⟩
theorem mk_list (l : List UInt8) : (mk l).data.toList = l := by unfold mk; simp
theorem mk_size (l : List UInt8) : (mk l).size = l.length := by rw [Lib.size_eq, mk_list]
theorem byte_at {s : ByteArray} {a b : List UInt8} {c : UInt8} (h : s.data.toList = a ++ c :: b) : byteAt s a.length = c.toNat := by
  unfold byteAt
  rw [h, List.getD_eq_getElem?_getD, List.getElem?_append_right (Nat.le_refl _)]
  simp
/-- only the first k bytes matter -/
theorem said_prefix {s t : ByteArray} : ∀ (k : Nat), s.data.toList.take k = t.data.toList.take k → saidTo s k = saidTo t k
  | 0, _ => rfl
  | k + 1, h => by
    have hk : s.data.toList.take k = t.data.toList.take k := by
      have := congrArg (List.take k) h
      rw [List.take_take, List.take_take] at this
      simpa using this
    have hb : ∀ j, j < k + 1 → byteAt s j = byteAt t j := by
      intro j hj
      unfold byteAt
      rw [List.getD_eq_getElem?_getD, List.getD_eq_getElem?_getD, ← List.getElem?_take_of_lt hj, h, List.getElem?_take_of_lt hj]
    rw [saidTo, saidTo, said_prefix k hk, hb 0 (by omega), hb k (by omega)]
theorem said_step {s : ByteArray} {k : Nat} {n : Int} (h : saidTo s k = some n) (h1 : ¬ (k = 0 ∧ byteAt s 0 = 45)) (h2 : 48 ≤ byteAt s k ∧ byteAt s k ≤ 57) : saidTo s (k + 1) = some (wrap64 (wrap64 (10 * n) - ((byteAt s k : Int) - 48))) := by
  rw [saidTo, h]
  show (if k = 0 ∧ byteAt s 0 = 45 then some n else if byteAt s k < 48 ∨ 57 < byteAt s k then none else some (wrap64 (wrap64 (10 * n) - ((byteAt s k : Int) - 48)))) = _
  rw [if_neg h1, if_neg (by omega)]
theorem wrap_in (x : Int) (h : I64 x) : wrap64 x = x := by unfold I64 at h; unfold wrap64; omega
theorem said_one (pre : List UInt8) (hp : pre = [] ∨ pre = [45]) (u : Nat) (c : u < 10) : saidTo (mk (pre ++ Lib.decDigits u)) (pre.length + (Lib.decDigits u).length) = some (-(u : Int)) := by
  have e : Lib.decDigits u = [UInt8.ofNat (48 + u)] := by rw [Lib.decDigits, dif_pos c]
  rw [e]
  have hd := digit_val u c
  have hl : pre.length + [UInt8.ofNat (48 + u)].length = pre.length + 1 := rfl
  rw [hl]
  have hb := byte_at (s := mk (pre ++ [UInt8.ofNat (48 + u)])) (a := pre) (b := []) (c := UInt8.ofNat (48 + u)) (mk_list _)
  rw [hd] at hb
  have h0 : saidTo (mk (pre ++ [UInt8.ofNat (48 + u)])) pre.length = some 0 := by
    rcases hp with rfl | rfl
    · rfl
    · have hb0 : byteAt (mk ([45] ++ [UInt8.ofNat (48 + u)])) 0 = 45 := byte_at (a := []) (b := [UInt8.ofNat (48 + u)]) (c := 45) (mk_list _)
      show saidTo (mk ([45] ++ [UInt8.ofNat (48 + u)])) (0 + 1) = _
      rw [saidTo]
      show (if 0 = 0 ∧ byteAt (mk ([45] ++ [UInt8.ofNat (48 + u)])) 0 = 45 then some (0 : Int) else _) = _
      rw [if_pos ⟨rfl, hb0⟩]
  have h1 : ¬ (pre.length = 0 ∧ byteAt (mk (pre ++ [UInt8.ofNat (48 + u)])) 0 = 45) := by
    intro g
    have : pre = [] := List.length_eq_zero_iff.1 g.1
    subst this
    have hb2 : byteAt (mk ([] ++ [UInt8.ofNat (48 + u)])) 0 = 48 + u := hb
    rw [hb2] at g
    omega
  rw [said_step h0 h1 (by rw [hb]; omega), hb]
  congr 1
  unfold wrap64
  omega
theorem said_dec (pre : List UInt8) (hp : pre = [] ∨ pre = [45]) : ∀ (m u : Nat), u ≤ m → u ≤ 9223372036854775808 → saidTo (mk (pre ++ Lib.decDigits u)) (pre.length + (Lib.decDigits u).length) = some (-(u : Int))
  | 0, u, hm, hu => said_one pre hp u (by omega)
  | m + 1, u, hm, hu => by
    by_cases c : u < 10
    · exact said_one pre hp u c
    · have ih := said_dec pre hp m (u / 10) (by omega) (by omega)
      have e : Lib.decDigits u = Lib.decDigits (u / 10) ++ [UInt8.ofNat (48 + u % 10)] := by rw [Lib.decDigits, dif_neg c]
      have hd := digit_val (u % 10) (by omega)
      have hpos : 1 ≤ (Lib.decDigits (u / 10)).length := by
        cases h : Lib.decDigits (u / 10) with
        | nil => exact (dec_ne _ h).elim
        | cons a l => simp
      have hl : pre.length + (Lib.decDigits u).length = (pre.length + (Lib.decDigits (u / 10)).length) + 1 := by rw [e, List.length_append]; rfl
      have hlist : (mk (pre ++ Lib.decDigits u)).data.toList = (pre ++ Lib.decDigits (u / 10)) ++ UInt8.ofNat (48 + u % 10) :: [] := by rw [mk_list, e, List.append_assoc]
      have hb := byte_at hlist
      rw [hd, List.length_append] at hb
      have hpre : saidTo (mk (pre ++ Lib.decDigits u)) (pre.length + (Lib.decDigits (u / 10)).length) = some (-((u / 10 : Nat) : Int)) := by
        rw [← ih]
        apply said_prefix
        rw [hlist, mk_list]
        have : pre.length + (Lib.decDigits (u / 10)).length = (pre ++ Lib.decDigits (u / 10)).length := by rw [List.length_append]
        rw [this, List.take_left, List.take_length]
      rw [hl, said_step hpre (by omega) (by rw [hb]; omega), hb]
      congr 1
      have w1 : wrap64 (10 * -((u / 10 : Nat) : Int)) = 10 * -((u / 10 : Nat) : Int) := wrap_in _ (by unfold I64; omega)
      rw [w1, wrap_in _ (by unfold I64; omega)]
      omega
theorem said_itoa (n : Int) (h : I64 n) : (saidN (itoaS n)).1 = n := by
  have hsz := itoaS_size n h
  unfold I64 at h
  by_cases c : n < 0
  · have e : itoaS n = mk ([45] ++ Lib.decDigits n.natAbs) := by
      unfold itoaS Lib.itoa mk
      rw [if_pos c]
      rfl
    have hs := said_dec [45] (.inr rfl) _ n.natAbs (Nat.le_refl _) (by omega)
    have hl : (itoaS n).size = [(45 : UInt8)].length + (Lib.decDigits n.natAbs).length := by rw [e, mk_size, List.length_append]
    have hb : byteAt (itoaS n) 0 = 45 := by rw [e]; exact byte_at (a := []) (b := Lib.decDigits n.natAbs) (c := 45) (mk_list _)
    have h20 : ¬ 20 < (itoaS n).size := by
      have := decS_size n.natAbs (by omega)
      have h3 : (decS n.natAbs).size = (Lib.decDigits n.natAbs).length := by unfold decS; exact List.size_toArray
      have h4 := dec_len 18 n.natAbs (by omega)
      rw [hl]
      show ¬ 20 < 1 + _
      omega
    unfold saidN
    rw [if_neg h20, hl, e, hs]
    show turnN (mk ([45] ++ Lib.decDigits n.natAbs)) (-(n.natAbs : Int)) = n
    rw [← e]
    unfold turnN
    rw [if_neg (fun g => g.elim (fun g => by rw [hl] at g; simp at g) (fun g => g hb))]
    omega
  · have e : itoaS n = mk ([] ++ Lib.decDigits n.toNat) := by
      unfold itoaS Lib.itoa mk
      rw [if_neg c]
      rfl
    have hs := said_dec [] (.inl rfl) _ n.toNat (Nat.le_refl _) (by omega)
    have hl : (itoaS n).size = ([] : List UInt8).length + (Lib.decDigits n.toNat).length := by rw [e, mk_size]; simp
    have h20 : ¬ 20 < (itoaS n).size := by
      have h4 := dec_len 18 n.toNat (by omega)
      rw [hl]
      show ¬ 20 < 0 + _
      omega
    have hb : byteAt (itoaS n) 0 ≠ 45 := by
      cases hd : Lib.decDigits n.toNat with
      | nil => exact (dec_ne _ hd).elim
      | cons a l =>
        have hm := dec_byte _ n.toNat (Nat.le_refl _) a (by rw [hd]; exact List.mem_cons_self)
        have : byteAt (itoaS n) 0 = a.toNat := by rw [e, hd]; exact byte_at (a := []) (b := l) (c := a) (mk_list _)
        omega
    unfold saidN
    rw [if_neg h20, hl, e, hs]
    show turnN (mk ([] ++ Lib.decDigits n.toNat)) (-(n.toNat : Int)) = n
    rw [← e]
    unfold turnN
    rw [if_pos (.inr hb)]
    unfold wrap64
    omega
/-- no cut inside a word -/
theorem cuts_stay {s : ByteArray} {p x q : List UInt8} {C : List ByteArray} (hs : s.data.toList = p ++ (x ++ q)) (hx : NoB 32 x) (h : cutsTo s p.length = (C, p.length)) : ∀ t, t ≤ x.length → cutsTo s (p.length + t) = (C, p.length)
  | 0, _ => h
  | t + 1, ht => by
    have ih := cuts_stay hs hx h t (by omega)
    have ht2 : t < x.length := by omega
    have hz : p.length + x.length ≤ s.size := by rw [Lib.size_eq, hs]; simp
    have hb : byteAt s (p.length + t) = x[t].toNat := by
      unfold byteAt
      rw [hs, List.getD_eq_getElem?_getD, List.getElem?_append_right (by omega), List.getElem?_append_left (by omega)]
      have e : p.length + t - p.length = t := by omega
      rw [e, List.getElem?_eq_getElem ht2]
      rfl
    have hne : x[t] ≠ 32 := hx _ (List.getElem_mem ht2)
    have hn32 : byteAt s (p.length + t) ≠ 32 := by
      rw [hb]
      intro e
      exact hne (UInt8.toNat.inj e)
    show cutsTo s ((p.length + t) + 1) = _
    rw [cuts_no (fun g => g.elim (fun e => by omega) hn32)]
    exact ih
theorem cuts_words {s : ByteArray} : ∀ (r : List (List UInt8)) (x p : List UInt8) (C : List ByteArray), s.data.toList = p ++ Lib.join (x :: r) [32] → NoB 32 x → (∀ y ∈ r, NoB 32 y) → C.length + r.length < 8 → cutsTo s p.length = (C, p.length) → (cutsTo s (s.size + 1)).1 = C ++ (x :: r).map mk
  | [], x, p, C, hs, hx, hr, hlen, h => by
    rw [Lib.join_one] at hs
    have hs2 : s.data.toList = p ++ (x ++ []) := by rw [List.append_nil]; exact hs
    have hst := cuts_stay hs2 hx h x.length (Nat.le_refl _)
    have hz : s.size = p.length + x.length := by rw [Lib.size_eq, hs, List.length_append]
    rw [← hz] at hst
    have hl8 : (cutsTo s s.size).1.length < 8 := by rw [hst]; simp at hlen; exact hlen
    rw [cuts_yes hl8 (.inl rfl), hst]
    show C ++ [s.extract p.length s.size] = C ++ [mk x]
    congr 2
    apply str_data
    rw [Lib.extract_data, mk_list, hs, List.drop_left]
    apply List.take_of_length_le
    omega
  | y :: r, x, p, C, hs, hx, hr, hlen, h => by
    have e : Lib.join (x :: y :: r) [32] = x ++ 32 :: Lib.join (y :: r) [32] := by rw [Lib.join_cons, tail_cons]; rfl
    rw [e] at hs
    have hst := cuts_stay hs hx h x.length (Nat.le_refl _)
    have hs3 : s.data.toList = (p ++ x) ++ 32 :: Lib.join (y :: r) [32] := by rw [hs, List.append_assoc]
    have hb := byte_at hs3
    rw [List.length_append] at hb
    have hl8 : (cutsTo s (p.length + x.length)).1.length < 8 := by rw [hst]; simp at hlen; show C.length < 8; omega
    have hcut := cuts_yes hl8 (.inr (by rw [hb]; rfl))
    rw [hst] at hcut
    simp only at hcut
    have hx2 : s.extract p.length (p.length + x.length) = mk x := by
      apply str_data
      rw [Lib.extract_data, mk_list, hs, List.drop_left]
      have : p.length + x.length - p.length = x.length := by omega
      rw [this, List.take_left]
    rw [hx2] at hcut
    have hp2 : (p ++ x ++ [32]).length = p.length + x.length + 1 := by simp; omega
    have ih := cuts_words r y (p ++ x ++ [32]) (C ++ [mk x]) (by rw [hs3]; simp) (hr y List.mem_cons_self) (fun z hz => hr z (List.mem_cons_of_mem _ hz)) (by simp at hlen ⊢; omega) (by rw [hp2]; exact hcut)
    rw [ih]
    simp
theorem cuts_show (i : PM.Ins) (k : Nat) (hr : rowOfN i i.bad = rowAt k) : cutsN (showN i) = wordL (rowAt k) i (rowAt k).parts.size := by
  have hl := show_list i (rowAt k) hr
  have hp := row_size k
  have h5 : (((List.range (rowAt k).parts.size).map fun j => itoaS (partL (rowAt k) i j)).map (·.data.toList)).length = (rowAt k).parts.size := by simp
  have hw := cuts_words (s := showN i) (((List.range (rowAt k).parts.size).map fun j => itoaS (partL (rowAt k) i j)).map (fun b : ByteArray => b.data.toList)) (rowAt k).name.data.toList [] [] hl (fun x hx => (row_noB k x hx).1) (by
    intro y hy
    rw [List.map_map] at hy
    obtain ⟨j, _, rfl⟩ := List.mem_map.1 hy
    show NoB 32 (itoaS (partL (rowAt k) i j)).data.toList
    have : (itoaS (partL (rowAt k) i j)).data.toList = Lib.itoa (partL (rowAt k) i j) := by unfold itoaS; simp
    rw [this]
    exact itoa_no _ 32 (by decide)) (by rw [h5]; show 0 + _ < 8; omega) rfl
  unfold cutsN
  rw [hw]
  show ((rowAt k).name.data.toList :: _).map mk = _
  have hm : ∀ (b : ByteArray), mk b.data.toList = b := fun b => by apply str_data; rw [mk_list]
  unfold wordL
  rw [List.map_cons, hm, List.map_map, List.map_map]
  congr 1
theorem num_word (r : Row) (i : PM.Ins) (hf : i.fits) (n j : Nat) (h : j < n) : numTo (wordL r i n) (n + 1) (j + 1) = partL r i j := by
  unfold numTo
  rw [if_pos ⟨by omega, by omega⟩]
  have : (wordL r i n).getD (j + 1) ByteArray.empty = itoaS (partL r i j) := by
    unfold wordL
    rw [List.getD_eq_getElem?_getD, List.getElem?_cons_succ, List.getElem?_map, List.getElem?_range h]
    rfl
  rw [this]
  exact said_itoa _ (partL_i64 r i hf j)
theorem place_0 : placeN (rowAt 0).name callL = 0 ∧ placeN (rowAt 0).name opL = 1 := ⟨rfl, rfl⟩
theorem place_1 : placeN (rowAt 1).name callL = 0 ∧ placeN (rowAt 1).name opL = 11 := ⟨rfl, rfl⟩
theorem place_2 : placeN (rowAt 2).name callL = 0 ∧ placeN (rowAt 2).name opL = 2 := ⟨rfl, rfl⟩
theorem place_3 : placeN (rowAt 3).name callL = 0 ∧ placeN (rowAt 3).name opL = 3 := ⟨rfl, rfl⟩
theorem place_4 : placeN (rowAt 4).name callL = 0 ∧ placeN (rowAt 4).name opL = 4 := ⟨rfl, rfl⟩
theorem place_5 : placeN (rowAt 5).name callL = 0 ∧ placeN (rowAt 5).name opL = 5 := ⟨rfl, rfl⟩
theorem place_6 : placeN (rowAt 6).name callL = 0 ∧ placeN (rowAt 6).name opL = 6 := ⟨rfl, rfl⟩
theorem place_7 : placeN (rowAt 7).name callL = 0 ∧ placeN (rowAt 7).name opL = 7 := ⟨rfl, rfl⟩
theorem place_8 : placeN (rowAt 8).name callL = 0 ∧ placeN (rowAt 8).name opL = 8 := ⟨rfl, rfl⟩
theorem place_9 : placeN (rowAt 9).name callL = 0 ∧ placeN (rowAt 9).name opL = 13 := ⟨rfl, rfl⟩
theorem place_10 : placeN (rowAt 10).name callL = 0 ∧ placeN (rowAt 10).name opL = 14 := ⟨rfl, rfl⟩
theorem place_11 : placeN (rowAt 11).name callL = 0 ∧ placeN (rowAt 11).name opL = 9 := ⟨rfl, rfl⟩
theorem place_12 : placeN (rowAt 12).name callL = 0 ∧ placeN (rowAt 12).name opL = 10 := ⟨rfl, rfl⟩
theorem place_13 : placeN (rowAt 13).name callL = 0 ∧ placeN (rowAt 13).name opL = 12 := ⟨rfl, rfl⟩
theorem place_14 : placeN (rowAt 14).name callL = 0 ∧ placeN (rowAt 14).name opL = 15 := ⟨rfl, rfl⟩
theorem place_15 : placeN (rowAt 15).name callL = 1 ∧ placeN (rowAt 15).name opL = 0 := ⟨rfl, rfl⟩
theorem place_16 : placeN (rowAt 16).name callL = 2 ∧ placeN (rowAt 16).name opL = 0 := ⟨rfl, rfl⟩
theorem place_17 : placeN (rowAt 17).name callL = 3 ∧ placeN (rowAt 17).name opL = 0 := ⟨rfl, rfl⟩
theorem place_18 : placeN (rowAt 18).name callL = 4 ∧ placeN (rowAt 18).name opL = 0 := ⟨rfl, rfl⟩
theorem place_19 : placeN (rowAt 19).name callL = 5 ∧ placeN (rowAt 19).name opL = 0 := ⟨rfl, rfl⟩
theorem place_20 : placeN (rowAt 20).name callL = 6 ∧ placeN (rowAt 20).name opL = 0 := ⟨rfl, rfl⟩
theorem place_21 : placeN (rowAt 21).name callL = 0 ∧ placeN (rowAt 21).name opL = 0 := ⟨rfl, rfl⟩
theorem rguess_show (i : PM.Ins) (hf : i.fits) : rguess (showN i) = i := by
  obtain ⟨k, hk, hr, ht⟩ := rowOf_tells i i.bad
  unfold rguess
  rw [cuts_show i k hr]
  have hnum : ∀ j, j < (rowAt k).parts.size → numTo (wordL (rowAt k) i (rowAt k).parts.size) ((rowAt k).parts.size + 1) (j + 1) = partL (rowAt k) i j := fun j hj => num_word (rowAt k) i hf _ j hj
  unfold rgN
  rw [wordL_length]
  obtain ⟨g, hg⟩ : ∃ g, g = numTo (wordL (rowAt k) i (rowAt k).parts.size) ((rowAt k).parts.size + 1) := ⟨_, rfl⟩
  rw [← hg] at hnum ⊢
  show rgOf (placeN (rowAt k).name opL) (placeN (rowAt k).name callL) g = i
  clear hg
  refine Eq.trans ?_ ht
  clear hr ht
  have hk2 : k = 0 ∨ k = 1 ∨ k = 2 ∨ k = 3 ∨ k = 4 ∨ k = 5 ∨ k = 6 ∨ k = 7 ∨ k = 8 ∨ k = 9 ∨ k = 10 ∨ k = 11 ∨ k = 12 ∨ k = 13 ∨ k = 14 ∨ k = 15 ∨ k = 16 ∨ k = 17 ∨ k = 18 ∨ k = 19 ∨ k = 20 ∨ k = 21 := by omega
  rcases hk2 with rfl | rfl | rfl | rfl | rfl | rfl | rfl | rfl | rfl | rfl | rfl | rfl | rfl | rfl | rfl | rfl | rfl | rfl | rfl | rfl | rfl | rfl
  · rw [place_0.1, place_0.2, told_0]
    have g1 : g 1 = i.a := hnum 0 (by decide)
    have g2 : g 2 = i.m := hnum 1 (by decide)
    show (⟨1, g 1, 0, 0, g 2⟩ : PM.Ins) = _
    rw [g1, g2]
  · rw [place_1.1, place_1.2, told_1]
    have g1 : g 1 = i.a := hnum 0 (by decide)
    have g2 : g 2 = i.m := hnum 1 (by decide)
    show (⟨11, g 1, 0, 0, g 2⟩ : PM.Ins) = _
    rw [g1, g2]
  · rw [place_2.1, place_2.2, told_2]
    have g1 : g 1 = i.a := hnum 0 (by decide)
    have g2 : g 2 = i.b := hnum 1 (by decide)
    have g3 : g 3 = i.c := hnum 2 (by decide)
    show (⟨2, g 1, g 2, g 3, 0⟩ : PM.Ins) = _
    rw [g1, g2, g3]
  · rw [place_3.1, place_3.2, told_3]
    have g1 : g 1 = i.a := hnum 0 (by decide)
    have g2 : g 2 = i.b := hnum 1 (by decide)
    have g3 : g 3 = i.c := hnum 2 (by decide)
    show (⟨3, g 1, g 2, g 3, 0⟩ : PM.Ins) = _
    rw [g1, g2, g3]
  · rw [place_4.1, place_4.2, told_4]
    have g1 : g 1 = i.a := hnum 0 (by decide)
    have g2 : g 2 = i.b := hnum 1 (by decide)
    have g3 : g 3 = i.c := hnum 2 (by decide)
    show (⟨4, g 1, g 2, g 3, 0⟩ : PM.Ins) = _
    rw [g1, g2, g3]
  · rw [place_5.1, place_5.2, told_5]
    have g1 : g 1 = i.a := hnum 0 (by decide)
    have g2 : g 2 = i.b := hnum 1 (by decide)
    have g3 : g 3 = i.c := hnum 2 (by decide)
    show (⟨5, g 1, g 2, g 3, 0⟩ : PM.Ins) = _
    rw [g1, g2, g3]
  · rw [place_6.1, place_6.2, told_6]
    have g1 : g 1 = i.a := hnum 0 (by decide)
    have g2 : g 2 = i.b := hnum 1 (by decide)
    have g3 : g 3 = i.c := hnum 2 (by decide)
    show (⟨6, g 1, g 2, g 3, 0⟩ : PM.Ins) = _
    rw [g1, g2, g3]
  · rw [place_7.1, place_7.2, told_7]
    have g1 : g 1 = i.a := hnum 0 (by decide)
    have g2 : g 2 = i.b := hnum 1 (by decide)
    have g3 : g 3 = i.c := hnum 2 (by decide)
    show (⟨7, g 1, g 2, g 3, 0⟩ : PM.Ins) = _
    rw [g1, g2, g3]
  · rw [place_8.1, place_8.2, told_8]
    have g1 : g 1 = i.a := hnum 0 (by decide)
    have g2 : g 2 = i.b := hnum 1 (by decide)
    have g3 : g 3 = i.m := hnum 2 (by decide)
    show (⟨8, g 1, g 2, 0, g 3⟩ : PM.Ins) = _
    rw [g1, g2, g3]
  · rw [place_9.1, place_9.2, told_9]
    have g1 : g 1 = i.a := hnum 0 (by decide)
    have g2 : g 2 = i.b := hnum 1 (by decide)
    have g3 : g 3 = i.m := hnum 2 (by decide)
    show (⟨13, g 1, g 2, 0, g 3⟩ : PM.Ins) = _
    rw [g1, g2, g3]
  · rw [place_10.1, place_10.2, told_10]
    have g1 : g 1 = i.a := hnum 0 (by decide)
    have g2 : g 2 = i.b := hnum 1 (by decide)
    have g3 : g 3 = i.m := hnum 2 (by decide)
    show (⟨14, g 1, g 2, 0, g 3⟩ : PM.Ins) = _
    rw [g1, g2, g3]
  · rw [place_11.1, place_11.2, told_11]
    have g1 : g 1 = i.a := hnum 0 (by decide)
    have g2 : g 2 = i.b := hnum 1 (by decide)
    have g3 : g 3 = i.m := hnum 2 (by decide)
    have g4 : g 4 = i.c := hnum 3 (by decide)
    show (⟨9, g 1, g 2, g 4, g 3⟩ : PM.Ins) = _
    rw [g1, g2, g3, g4]
  · rw [place_12.1, place_12.2, told_12]
    have g1 : g 1 = i.a := hnum 0 (by decide)
    have g2 : g 2 = i.b := hnum 1 (by decide)
    have g3 : g 3 = i.m := hnum 2 (by decide)
    have g4 : g 4 = i.c := hnum 3 (by decide)
    show (⟨10, g 1, g 2, g 4, g 3⟩ : PM.Ins) = _
    rw [g1, g2, g3, g4]
  · rw [place_13.1, place_13.2, told_13]
    have g1 : g 1 = i.m := hnum 0 (by decide)
    show (⟨12, 0, 0, 0, g 1⟩ : PM.Ins) = _
    rw [g1]
  · rw [place_14.1, place_14.2, told_14]
    have g1 : g 1 = i.a := hnum 0 (by decide)
    show (⟨15, g 1, 0, 0, 0⟩ : PM.Ins) = _
    rw [g1]
  · rw [place_15.1, place_15.2, told_15]
    show (⟨16, 0, 0, 0, 1⟩ : PM.Ins) = _
    rfl
  · rw [place_16.1, place_16.2, told_16]
    show (⟨16, 0, 0, 0, 2⟩ : PM.Ins) = _
    rfl
  · rw [place_17.1, place_17.2, told_17]
    show (⟨16, 0, 0, 0, 3⟩ : PM.Ins) = _
    rfl
  · rw [place_18.1, place_18.2, told_18]
    show (⟨16, 0, 0, 0, 4⟩ : PM.Ins) = _
    rfl
  · rw [place_19.1, place_19.2, told_19]
    show (⟨16, 0, 0, 0, 5⟩ : PM.Ins) = _
    rfl
  · rw [place_20.1, place_20.2, told_20]
    show (⟨16, 0, 0, 0, 6⟩ : PM.Ins) = _
    rfl
  · rw [place_21.1, place_21.2, told_21]
    have g1 : g 1 = i.op := hnum 0 (by decide)
    have g2 : g 2 = i.a := hnum 1 (by decide)
    have g3 : g 3 = i.b := hnum 2 (by decide)
    have g4 : g 4 = i.c := hnum 3 (by decide)
    have g5 : g 5 = i.m := hnum 4 (by decide)
    show (⟨g 1, g 2, g 3, g 4, g 5⟩ : PM.Ins) = _
    rw [g1, g2, g3, g4, g5]
/-- both readers answer alike -/
theorem ti_read (s : ByteArray) : tiN s = readN s := by
  rcases outT_cases s with ⟨i, h1, h2, h3, h4⟩ | ⟨h1, h2⟩
  · rw [h1, ← h4, ← show_text, read_show i h3]
  · rw [h1]
    cases hr : readN s with
    | none => rfl
    | some i =>
      obtain ⟨hf, hs⟩ := read_fits hr
      exfalso
      apply h2
      have : rguess s = i := by rw [← hs]; exact rguess_show i hf
      rw [this, ← show_text]
      exact ⟨hf, hs⟩
end Go.Proofs.YtklobjfhjlkgfaaDoor.TW
/- The reference's TextInstr: its walk. -/
namespace Go.Proofs.YtklobjfhjlkgfaaDoor.TW
open Go.RowKit
set_option linter.unusedVariables false
set_option maxRecDepth 100000
set_option linter.unusedSimpArgs false

def outT : Option PM.Ins → PM.Ins × Bool
  | none => (zeroI, false)
  | some i => (i, true)
/-- parts, and guess of them -/
theorem rg_calls (s : ByteArray) (w : World) (hs : s.size < 4294967281) : Calls Tryd.prog 30 #[.string s] w fun e w' => ∃ g cap, e = .returned (.slice (some ⟨g, 0, none⟩) (cutsN s).length cap) ∧ (Calls Tryd.prog 29 #[.slice (some ⟨g, 0, none⟩) (cutsN s).length cap] w' fun e w'' => e = .returned (.agg #[.int .i64 (rguess s).op, .int .i64 (rguess s).a, .int .i64 (rguess s).b, .int .i64 (rguess s).c, .int .i64 (rguess s).m]) ∧ Below w'.heap.size w' w'') ∧ Below w.heap.size w w' := by
  refine (parts_any s w hs).mono ?_
  rintro e w' ⟨v, rfl, hown, hb⟩
  obtain ⟨g, cap, rfl, hbg, hglt, hcap, hcs⟩ := own_cells hown (cuts_grow s)
  refine ⟨g, cap, rfl, ?_, hb⟩
  refine rguess_any (cutsN s) g cap w' (cuts_grow s) (cuts_le s _) hglt (fun j hj => ?_) (fun j => ?_)
  · have := hcs j (.string ((cutsN s).getD j ByteArray.empty)) (by rw [List.getElem?_map, List.getElem?_eq_getElem hj, List.getD_eq_getElem?_getD, List.getElem?_eq_getElem hj]; rfl)
    rw [Nat.zero_add] at this
    exact this
  · rw [List.getD_eq_getElem?_getD]
    cases e : (cutsN s)[j]? with
    | none => exact Nat.zero_le _
    | some x =>
      have := cuts_size s _ x (List.mem_of_getElem? e)
      show x.size ≤ _
      omega
set_option maxHeartbeats 4000000 in
theorem ti_any (s : ByteArray) (w : World) (hs : s.size < 4294967281) : Calls Tryd.prog 10 #[.string s] w fun e w' => e = .returned (.tuple #[.agg (outT (tiN s)).1.cells, .bool (outT (tiN s)).2]) ∧ Below w.heap.size w w' := by
  have HP := hideC (fun V => rg_calls s V hs)
  have HER := hideC (PW.error_any (rguess s))
  have HTX := hideC (text_any (rguess s))
  have HT : Hid (tiN s = if (rguess s).fits ∧ textN (rguess s) = s then some (rguess s) else none) := rfl
  obtain ⟨T, hT⟩ : ∃ T, T = tiN s := ⟨_, rfl⟩
  rw [← hT] at HT ⊢
  obtain ⟨i, hi⟩ : ∃ i, i = rguess s := ⟨_, rfl⟩
  rw [← hi] at HP HER HTX HT
  obtain ⟨n, hn⟩ : ∃ n, n = (cutsN s).length := ⟨_, rfl⟩
  rw [← hn] at HP
  rw [show PM.Ins.cells i = #[.int .i64 i.op, .int .i64 i.a, .int .i64 i.b, .int .i64 i.c, .int .i64 i.m] from rfl] at HER HTX
  clear hT hi hn
  have HB0 := hideC ((Below.refl w.heap.size w).alloc (Nat.le_refl _) (.cells #[.int .i64 0, .int .i64 0, .int .i64 0, .int .i64 0, .int .i64 0] 23))
  have X0 := hideC (B.new w #[.int .i64 0, .int .i64 0, .int .i64 0, .int .i64 0, .int .i64 0] 23)
  by_cases hf : i.fits
  · rw [if_pos hf] at HER
    have HTX2 := hideC (HTX.out hf)
    have hq : ((textN i).toList == s.toList) = decide (textN i = s) := str_eqT _ _
    obtain ⟨S, hS⟩ : ∃ S, S = textN i := ⟨_, rfl⟩
    rw [← hS] at HTX2 HT hq
    clear hS HTX
    by_cases he : S = s
    · have HTI : Hid (T = some i) := by show _ = _; rw [HT.out, if_pos ⟨hf, he⟩]
      rw [decide_eq_true he] at hq
      clear HT hf he
      go_enter Tryd.func10, Tryd.ntmps10
      go_wp2_with fail
      refine (HP.out _).mono ?_
      rintro e w1 ⟨g, cp, rfl, hg, hb1⟩
      have HG := hideC hg
      have X1 := hideC (B.below X0.out hb1 (B.isLt X0.out))
      have HB1 := hideC (add_below HB0.out hb1)
      clear hg hb1
      go_wp2_with fail
      refine HG.out.mono ?_
      rintro e w2 ⟨rfl, hb2⟩
      have X2 := hideC (B.below X1.out hb2 (B.isLt X1.out))
      have HB2 := hideC (add_below HB1.out hb2)
      clear hb2
      have hlt := B.isLt X2.out
      have Y2 := hideC (B.new w2 #[.int .i64 i.op, .int .i64 i.a, .int .i64 i.b, .int .i64 i.c, .int .i64 i.m] 23)
      go_wp2_with (first
        | (go_at_call 7; refine (HER.out _).mono ?_; rintro e w3 ⟨rfl, hb3⟩; have X3 := hideC (B.below (B.alloc X2.out _) hb3 (B.isLt (B.alloc X2.out _))); have Y3 := hideC (B.below Y2.out hb3 (B.isLt Y2.out)); have HB3 := hideC (add_below (HB2.out.alloc HB2.out.size _) hb3); clear hb3; have y0 : w3.cell? ⟨w2.heap.size, 0, none⟩ = some (.int .i64 i.op) := B.cell Y3.out 0 rfl; have y1 : w3.cell? ⟨w2.heap.size, 1, none⟩ = some (.int .i64 i.a) := B.cell Y3.out 1 rfl; have y2 : w3.cell? ⟨w2.heap.size, 2, none⟩ = some (.int .i64 i.b) := B.cell Y3.out 2 rfl; have y3 : w3.cell? ⟨w2.heap.size, 3, none⟩ = some (.int .i64 i.c) := B.cell Y3.out 3 rfl; have y4 : w3.cell? ⟨w2.heap.size, 4, none⟩ = some (.int .i64 i.m) := B.cell Y3.out 4 rfl)
        | (go_at_call 8; refine (HTX2.out _).mono ?_; rintro e w4 ⟨rfl, hb4⟩; have X4 := hideC (B.below X3.out hb4 (B.isLt X3.out)); have Y4 := hideC (B.below Y3.out hb4 (B.isLt Y3.out)); have HB4 := hideC (add_below HB3.out hb4); clear hb4; have z0 : w4.cell? ⟨w2.heap.size, 0, none⟩ = some (.int .i64 i.op) := B.cell Y4.out 0 rfl; have z1 : w4.cell? ⟨w2.heap.size, 1, none⟩ = some (.int .i64 i.a) := B.cell Y4.out 1 rfl; have z2 : w4.cell? ⟨w2.heap.size, 2, none⟩ = some (.int .i64 i.b) := B.cell Y4.out 2 rfl; have z3 : w4.cell? ⟨w2.heap.size, 3, none⟩ = some (.int .i64 i.c) := B.cell Y4.out 3 rfl; have z4 : w4.cell? ⟨w2.heap.size, 4, none⟩ = some (.int .i64 i.m) := B.cell Y4.out 4 rfl; have x0 : w4.cell? ⟨w.heap.size, 0, none⟩ = some (.int .i64 0) := B.cell X4.out 0 rfl; have x1 : w4.cell? ⟨w.heap.size, 1, none⟩ = some (.int .i64 0) := B.cell X4.out 1 rfl; have x2 : w4.cell? ⟨w.heap.size, 2, none⟩ = some (.int .i64 0) := B.cell X4.out 2 rfl; have x3 : w4.cell? ⟨w.heap.size, 3, none⟩ = some (.int .i64 0) := B.cell X4.out 3 rfl; have x4 : w4.cell? ⟨w.heap.size, 4, none⟩ = some (.int .i64 0) := B.cell X4.out 4 rfl; have f0 : ∀ k, w4.frozen? ⟨w.heap.size, k, none⟩ = false := fun k => B.free X4.out k; have hne : ¬ w.heap.size = w2.heap.size := by omega))
      exact bodyPost_ret (v := .tuple #[.agg #[.int .i64 i.op, .int .i64 i.a, .int .i64 i.b, .int .i64 i.c, .int .i64 i.m], .bool true]) (by simp [results, Tryd.results10, go_sem, x0, x1, x2, x3, x4]) rfl ⟨by rw [HTI.out]; rfl, PW.set5_below HB4.out (Nat.le_refl _) _ _ _ _ _⟩
    · have HTI : Hid (T = none) := by show _ = _; rw [HT.out, if_neg (fun g => he g.2)]
      rw [decide_eq_false he] at hq
      clear HT hf he
      go_enter Tryd.func10, Tryd.ntmps10
      go_wp2_with fail
      refine (HP.out _).mono ?_
      rintro e w1 ⟨g, cp, rfl, hg, hb1⟩
      have HG := hideC hg
      have X1 := hideC (B.below X0.out hb1 (B.isLt X0.out))
      have HB1 := hideC (add_below HB0.out hb1)
      clear hg hb1
      go_wp2_with fail
      refine HG.out.mono ?_
      rintro e w2 ⟨rfl, hb2⟩
      have X2 := hideC (B.below X1.out hb2 (B.isLt X1.out))
      have HB2 := hideC (add_below HB1.out hb2)
      clear hb2
      have hlt := B.isLt X2.out
      have Y2 := hideC (B.new w2 #[.int .i64 i.op, .int .i64 i.a, .int .i64 i.b, .int .i64 i.c, .int .i64 i.m] 23)
      go_wp2_with (first
        | (go_at_call 7; refine (HER.out _).mono ?_; rintro e w3 ⟨rfl, hb3⟩; have X3 := hideC (B.below (B.alloc X2.out _) hb3 (B.isLt (B.alloc X2.out _))); have Y3 := hideC (B.below Y2.out hb3 (B.isLt Y2.out)); have HB3 := hideC (add_below (HB2.out.alloc HB2.out.size _) hb3); clear hb3; have y0 : w3.cell? ⟨w2.heap.size, 0, none⟩ = some (.int .i64 i.op) := B.cell Y3.out 0 rfl; have y1 : w3.cell? ⟨w2.heap.size, 1, none⟩ = some (.int .i64 i.a) := B.cell Y3.out 1 rfl; have y2 : w3.cell? ⟨w2.heap.size, 2, none⟩ = some (.int .i64 i.b) := B.cell Y3.out 2 rfl; have y3 : w3.cell? ⟨w2.heap.size, 3, none⟩ = some (.int .i64 i.c) := B.cell Y3.out 3 rfl; have y4 : w3.cell? ⟨w2.heap.size, 4, none⟩ = some (.int .i64 i.m) := B.cell Y3.out 4 rfl)
        | (go_at_call 8; refine (HTX2.out _).mono ?_; rintro e w4 ⟨rfl, hb4⟩; have X4 := hideC (B.below X3.out hb4 (B.isLt X3.out)); have HB4 := hideC (add_below HB3.out hb4); clear hb4; have x0 : w4.cell? ⟨w.heap.size, 0, none⟩ = some (.int .i64 0) := B.cell X4.out 0 rfl; have x1 : w4.cell? ⟨w.heap.size, 1, none⟩ = some (.int .i64 0) := B.cell X4.out 1 rfl; have x2 : w4.cell? ⟨w.heap.size, 2, none⟩ = some (.int .i64 0) := B.cell X4.out 2 rfl; have x3 : w4.cell? ⟨w.heap.size, 3, none⟩ = some (.int .i64 0) := B.cell X4.out 3 rfl; have x4 : w4.cell? ⟨w.heap.size, 4, none⟩ = some (.int .i64 0) := B.cell X4.out 4 rfl; have f0 : ∀ k, w4.frozen? ⟨w.heap.size, k, none⟩ = false := fun k => B.free X4.out k))
      exact bodyPost_ret (v := .tuple #[.agg #[.int .i64 0, .int .i64 0, .int .i64 0, .int .i64 0, .int .i64 0], .bool false]) (by simp [results, Tryd.results10, go_sem, x0, x1, x2, x3, x4]) rfl ⟨by rw [HTI.out]; rfl, PW.set5_below HB4.out (Nat.le_refl _) _ _ _ _ _⟩
  · rw [if_neg hf] at HER
    have HTI : Hid (T = none) := by show _ = _; rw [HT.out, if_neg (fun g => hf g.1)]
    clear HT hf HTX
    go_enter Tryd.func10, Tryd.ntmps10
    go_wp2_with fail
    refine (HP.out _).mono ?_
    rintro e w1 ⟨g, cp, rfl, hg, hb1⟩
    have HG := hideC hg
    have X1 := hideC (B.below X0.out hb1 (B.isLt X0.out))
    have HB1 := hideC (add_below HB0.out hb1)
    clear hg hb1
    go_wp2_with fail
    refine HG.out.mono ?_
    rintro e w2 ⟨rfl, hb2⟩
    have X2 := hideC (B.below X1.out hb2 (B.isLt X1.out))
    have HB2 := hideC (add_below HB1.out hb2)
    clear hb2
    have hlt := B.isLt X2.out
    go_wp2_with (go_at_call 7; refine (HER.out _).mono ?_; rintro e w3 ⟨rfl, hb3⟩; have X3 := hideC (B.below (B.alloc X2.out _) hb3 (B.isLt (B.alloc X2.out _))); have HB3 := hideC (add_below (HB2.out.alloc HB2.out.size _) hb3); clear hb3; have x0 : w3.cell? ⟨w.heap.size, 0, none⟩ = some (.int .i64 0) := B.cell X3.out 0 rfl; have x1 : w3.cell? ⟨w.heap.size, 1, none⟩ = some (.int .i64 0) := B.cell X3.out 1 rfl; have x2 : w3.cell? ⟨w.heap.size, 2, none⟩ = some (.int .i64 0) := B.cell X3.out 2 rfl; have x3 : w3.cell? ⟨w.heap.size, 3, none⟩ = some (.int .i64 0) := B.cell X3.out 3 rfl; have x4 : w3.cell? ⟨w.heap.size, 4, none⟩ = some (.int .i64 0) := B.cell X3.out 4 rfl; have f0 : ∀ k, w3.frozen? ⟨w.heap.size, k, none⟩ = false := fun k => B.free X3.out k)
    exact bodyPost_ret (v := .tuple #[.agg #[.int .i64 0, .int .i64 0, .int .i64 0, .int .i64 0, .int .i64 0], .bool false]) (by simp [results, Tryd.results10, go_sem, x0, x1, x2, x3, x4]) rfl ⟨by rw [HTI.out]; rfl, PW.set5_below HB3.out (Nat.le_refl _) _ _ _ _ _⟩
end Go.Proofs.YtklobjfhjlkgfaaDoor.TW
/- The reference's Assembled: plain facts on lines. -/
namespace Go.Proofs.YtklobjfhjlkgfaaDoor.TW
open Go.RowKit
set_option linter.unusedVariables false
set_option maxRecDepth 100000
set_option linter.unusedSimpArgs false

/-- the lines that end among the first k bytes, and where the next one begins -/
def nlTo (s : ByteArray) : Nat → List ByteArray × Nat
  | 0 => ([], 0)
  | k + 1 => if byteAt s k = 10 then ((nlTo s k).1 ++ [s.extract (nlTo s k).2 k], k + 1) else nlTo s k
theorem nl_yes {s : ByteArray} {k : Nat} (h : byteAt s k = 10) : nlTo s (k + 1) = ((nlTo s k).1 ++ [s.extract (nlTo s k).2 k], k + 1) := by rw [nlTo, if_pos h]
theorem nl_no {s : ByteArray} {k : Nat} (h : ¬ byteAt s k = 10) : nlTo s (k + 1) = nlTo s k := by rw [nlTo, if_neg h]
theorem nl_from (s : ByteArray) : ∀ k, (nlTo s k).2 ≤ k
  | 0 => Nat.le_refl _
  | k + 1 => by
    have := nl_from s k
    unfold nlTo
    split
    · exact Nat.le_refl _
    · omega
def flatL : List ByteArray → List UInt8
  | [] => []
  | l :: r => l.data.toList ++ 10 :: flatL r
theorem flatL_append : ∀ a b : List ByteArray, flatL (a ++ b) = flatL a ++ flatL b
  | [], b => rfl
  | l :: a, b => by
    show l.data.toList ++ 10 :: flatL (a ++ b) = _
    rw [flatL_append a b]
    simp [flatL]
theorem flat_count : ∀ L : List ByteArray, (∀ l ∈ L, NoB 10 l.data.toList) → (flatL L).count 10 = L.length
  | [], _ => rfl
  | l :: r, h => by
    show (l.data.toList ++ 10 :: flatL r).count 10 = _
    rw [List.count_append, count_no _ (h l List.mem_cons_self), List.count_cons, flat_count r (fun x hx => h x (List.mem_cons_of_mem _ hx))]
    simp
/-- what the first k bytes are -/
theorem nl_flat (s : ByteArray) : ∀ k, k ≤ s.size → s.data.toList.take k = flatL (nlTo s k).1 ++ (s.data.toList.take k).drop (nlTo s k).2 ∧ (∀ l ∈ (nlTo s k).1, NoB 10 l.data.toList) ∧ NoB 10 ((s.data.toList.take k).drop (nlTo s k).2)
  | 0, _ => ⟨by simp [nlTo, flatL], (fun l h => by cases h), (fun x h => by simp at h)⟩
  | k + 1, hk => by
    obtain ⟨h1, h2, h3⟩ := nl_flat s k (by omega)
    have hlt : k < s.data.toList.length := by rw [← Lib.size_eq]; omega
    have htk : s.data.toList.take (k + 1) = s.data.toList.take k ++ [s.data.toList[k]] := List.take_succ_eq_append_getElem hlt
    have hf := nl_from s k
    have hlen : (s.data.toList.take k).length = k := by rw [List.length_take]; omega
    have hby : byteAt s k = (s.data.toList[k]).toNat := by
      unfold byteAt
      rw [List.getD_eq_getElem?_getD, List.getElem?_eq_getElem hlt]
      rfl
    by_cases hb : byteAt s k = 10
    · have h10 : s.data.toList[k] = 10 := UInt8.toNat.inj (by rw [← hby, hb]; rfl)
      rw [nl_yes hb]
      have hex : (s.extract (nlTo s k).2 k).data.toList = (s.data.toList.take k).drop (nlTo s k).2 := by
        rw [Lib.extract_data, List.drop_take]
      refine ⟨?_, ?_, ?_⟩
      · show _ = flatL ((nlTo s k).1 ++ [s.extract (nlTo s k).2 k]) ++ _
        have e1 : (s.data.toList.take (k + 1)).drop (k + 1) = [] := List.drop_eq_nil_of_le (by rw [List.length_take]; omega)
        rw [e1, List.append_nil, flatL_append, htk, h10]
        show _ = flatL (nlTo s k).1 ++ ((s.extract (nlTo s k).2 k).data.toList ++ 10 :: [])
        rw [hex, ← List.append_assoc, ← h1]
      · intro l hl
        rcases List.mem_append.1 hl with hl | hl
        · exact h2 l hl
        · obtain rfl := List.mem_singleton.1 hl
          rw [hex]
          exact h3
      · show NoB 10 ((s.data.toList.take (k + 1)).drop (k + 1))
        rw [List.drop_eq_nil_of_le (by rw [List.length_take]; omega)]
        intro x hx
        cases hx
    · rw [nl_no hb, htk, List.drop_append_of_le_length (by omega)]
      refine ⟨?_, h2, ?_⟩
      · rw [← List.append_assoc, ← h1]
      · intro x hx
        rcases List.mem_append.1 hx with hx | hx
        · exact h3 x hx
        · obtain rfl := List.mem_singleton.1 hx
          intro e
          apply hb
          rw [hby, e]
          rfl
theorem nl_count (s : ByteArray) (k : Nat) (hk : k ≤ s.size) : (nlTo s k).1.length = (s.data.toList.take k).count 10 := by
  obtain ⟨h1, h2, h3⟩ := nl_flat s k hk
  rw [h1, List.count_append, flat_count _ h2, count_no _ h3]
  rfl
/-- lines read one by one -/
def mapR : List ByteArray → Option (List PM.Ins)
  | [] => some []
  | l :: r => match readN l with
    | none => none
    | some i => (mapR r).map (i :: ·)
theorem mapR_snoc : ∀ (a : List ByteArray) (l : ByteArray) (d : List PM.Ins), mapR a = some d → mapR (a ++ [l]) = (readN l).map (fun i => d ++ [i])
  | [], l, d, h => by
    have : d = [] := by injection h with h; exact h.symm
    subst this
    show (match readN l with | none => none | some i => (mapR []).map (i :: ·)) = _
    cases readN l <;> rfl
  | x :: a, l, d, h => by
    have h' : (match readN x with | none => none | some i => (mapR a).map (i :: ·)) = some d := h
    show (match readN x with | none => none | some i => (mapR (a ++ [l])).map (i :: ·)) = _
    cases hx : readN x with
    | none => rw [hx] at h'; cases h'
    | some i =>
      rw [hx] at h'
      simp only at h' ⊢
      cases ha : mapR a with
      | none => rw [ha] at h'; cases h'
      | some q =>
        rw [ha] at h'
        injection h' with h'
        rw [mapR_snoc a l q ha, ← h']
        cases readN l <;> rfl
theorem mapR_none : ∀ (a b : List ByteArray), mapR a = none → mapR (a ++ b) = none
  | [], b, h => by cases h
  | x :: a, b, h => by
    have h' : (match readN x with | none => none | some i => (mapR a).map (i :: ·)) = none := h
    show (match readN x with | none => none | some i => (mapR (a ++ b)).map (i :: ·)) = none
    cases hx : readN x with
    | none => rfl
    | some i =>
      rw [hx] at h'
      simp only at h' ⊢
      cases ha : mapR a with
      | none => rw [mapR_none a b ha]; rfl
      | some q => rw [ha] at h'; cases h'
theorem asm_flat : ∀ (L : List ByteArray) (tail : List UInt8) (n : Nat) (s : ByteArray), s.data.toList = flatL L ++ tail → (∀ l ∈ L, NoB 10 l.data.toList) → NoB 10 tail → L.length < n → asmTo n s = if tail = [] then mapR L else none
  | [], tail, 0, s, hs, _, _, hn => by simp at hn
  | [], tail, n + 1, s, hs, _, ht, hn => by
    have hs2 : s.data.toList = tail := hs
    have he : endN s = false := by unfold endN; rw [hs2, cut_no _ ht]
    rw [asm_end he]
    have hz : s.size = 0 ↔ tail = [] := by rw [Lib.size_eq, hs2]; exact List.length_eq_zero_iff
    by_cases c : tail = []
    · rw [if_pos c, if_pos (hz.2 c)]; rfl
    · rw [if_neg c, if_neg (fun g => c (hz.1 g))]
  | l :: L, tail, 0, s, hs, _, _, hn => by simp at hn
  | l :: L, tail, n + 1, s, hs, hL, ht, hn => by
    have hs2 : s.data.toList = l.data.toList ++ 10 :: (flatL L ++ tail) := by rw [hs]; show (l.data.toList ++ 10 :: flatL L) ++ tail = _; simp
    have hcut := cut_at l.data.toList (flatL L ++ tail) (hL l List.mem_cons_self)
    rw [← hs2] at hcut
    have he : endN s = true := by unfold endN; rw [hcut]
    have hl : lineN s = l := by unfold lineN; rw [hcut]
    have hr : (restN s).data.toList = flatL L ++ tail := by unfold restN; rw [hcut]
    have ih := asm_flat L tail n (restN s) hr (fun x hx => hL x (List.mem_cons_of_mem _ hx)) ht (by simp at hn; omega)
    show _ = if tail = [] then (match readN l with | none => none | some i => (mapR L).map (i :: ·)) else none
    cases hrd : readN l with
    | none =>
      rw [asm_bad he (by rw [hl]; exact hrd)]
      split <;> rfl
    | some i =>
      rw [asm_step he (by rw [hl]; exact hrd), ih]
      split <;> rfl
/-- Assembled's answer in the words of its walk -/
theorem asm_nl (s : ByteArray) (hc : ¬ 512 < Lib.countByte s.data.toList 10) : asmN s = if (nlTo s s.size).2 = s.size then (match mapR (nlTo s s.size).1 with | none => ((⟨#[]⟩ : ByteArray), (1 : Int)) | some l => (codeOf l, 0)) else (⟨#[]⟩, 1) := by
  obtain ⟨h1, h2, h3⟩ := nl_flat s s.size (Nat.le_refl _)
  have htk : s.data.toList.take s.size = s.data.toList := List.take_of_length_le (by rw [← Lib.size_eq]; exact Nat.le_refl _)
  have hcnt := nl_count s s.size (Nat.le_refl _)
  rw [htk] at h1 h3 hcnt
  have hle : (nlTo s s.size).1.length ≤ s.size := by rw [hcnt, Lib.size_eq]; exact List.count_le_length
  have ha := asm_flat (nlTo s s.size).1 (s.data.toList.drop (nlTo s s.size).2) (s.size + 1) s h1 h2 h3 (by omega)
  have hf := nl_from s s.size
  have hz : s.data.toList.drop (nlTo s s.size).2 = [] ↔ (nlTo s s.size).2 = s.size := by
    rw [List.drop_eq_nil_iff, ← Lib.size_eq]
    omega
  unfold asmN
  rw [if_neg hc, ha]
  by_cases c : (nlTo s s.size).2 = s.size
  · rw [if_pos c, if_pos (hz.2 c)]
    rfl
  · rw [if_neg c, if_neg (fun g => c (hz.1 g))]
theorem code_snoc (d : List PM.Ins) (i : PM.Ins) : codeOf (d ++ [i]) = codeOf d ++ i.bytes := by
  apply str_data
  rw [codeOf_append, ByteArray.data_append, Array.toList_append, code_data]
  show _ ++ (i.bytes.data.toList ++ []) = _
  rw [List.append_nil]
theorem nl_size (s : ByteArray) : ∀ k, ∀ x ∈ (nlTo s k).1, x.size ≤ s.size
  | 0, x, h => by cases h
  | k + 1, x, h => by
    unfold nlTo at h
    split at h
    · rcases List.mem_append.1 h with h | h
      · exact nl_size s k x h
      · obtain rfl := List.mem_singleton.1 h
        rw [ByteArray.size_extract]
        omega
    · exact nl_size s k x h
end Go.Proofs.YtklobjfhjlkgfaaDoor.TW
