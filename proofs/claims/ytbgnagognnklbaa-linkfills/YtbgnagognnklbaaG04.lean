import Derived.Test.YtbgnagognnklbaaG02
import Derived.Test.YtbgnagognnklbaaG03
import Derived.Test.YtbgnagognnklbaaG00
import Derived.OwnWalk
/- The linker: a page with that sheet. -/
namespace Go.Proofs.Ytbgnagognnklbaa.LW
open Go.RowKit
open Go.Proofs.Ytbgnagognnklbaa.W (hideC)
set_option linter.unusedVariables false
set_option maxRecDepth 100000

theorem ret_sn {s t : ByteArray} {a b : Int} (h : s = t) (g : a = b) : Ending.returned (.tuple #[.string s, .int .i64 a]) = .returned (.tuple #[.string t, .int .i64 b]) := by rw [h, g]

set_option maxHeartbeats 2000000 in
theorem fill_any (s : LM.Sh) (w : World) (h : LM.HasF w s.ao s.fixes) (hf : LM.FitH s) :
    Calls Try.prog 11 #[.agg (LM.cellsH s)] w fun e w' => e = .returned (.tuple #[.string (LM.fillN s).1, .int .i64 (LM.fillN s).2]) ∧ Below w.heap.size w w' := by
  have HR : Hid (∀ W, Below w.heap.size w W → Calls Try.prog 34 #[.agg (LM.cellsH s)] W fun e w' => e = .returned (.bool (LM.sheetB s)) ∧ Below W.heap.size W w') := fun W hb => rightSheet_any s W (h.below hb) hf
  obtain ⟨f1, f2, f3, f4⟩ := hf
  obtain ⟨pg, dt, fs, ao, cap⟩ := s
  simp only at f1 f2 f3 f4
  unfold M.Short at f2 f3
  simp only [LM.cellsH] at HR
  simp only [LM.cellsH]
  have hdl : dt.size ≤ maxLen := by unfold maxLen; omega
  have F4 := hideC f4
  have HH := hideC h
  clear f4 h f1
  have HB := hideC ((Below.refl w.heap.size w).alloc (Nat.le_refl _) (.cells #[.int .i64 pg, .string dt, .slice ao fs.length cap] 43))
  have BX := hideC (B.new w #[.int .i64 pg, .string dt, .slice ao fs.length cap] 43)
  by_cases hs : LM.sheetB ⟨pg, dt, fs, ao, cap⟩ = true
  · have HN : Hid (LM.fillN ⟨pg, dt, fs, ao, cap⟩ = (LM.laidTo dt fs fs.length, 0)) := by
      show _ = _
      unfold LM.fillN
      rw [if_pos hs]
      rfl
    obtain ⟨hd, hfx⟩ : LM.headB ⟨pg, dt, fs, ao, cap⟩ = true ∧ LM.fixesTo fs fs.length = true := by
      unfold LM.sheetB at hs
      simpa using hs
    have h16 : dt.size = 16 := by
      unfold LM.headB at hd
      exact (of_decide_eq_true hd).2.2
    have HFX := hideC hfx
    rw [hs] at HR
    clear hs hd hfx
    go_enter Try.func11, Try.ntmps11
    go_wp2_with (first | (go_at_call 34; refine (HR.out _ HB.out).mono ?_; rintro e w1 ⟨rfl, hb⟩; have HB := hideC (HB.out.trans (hb.mono HB.out.size)); have BX := hideC (B.below BX.out hb (B.isLt BX.out)); have q0 := B.cell BX.out 0 rfl; have q1 := B.cell BX.out 1 rfl; have q2 := B.cell BX.out 2 rfl; clear hb) | (go_at_call 35; refine (CW.clone17 _ _ (by omega)).mono ?_; rintro e w2 ⟨rfl, hb⟩; have HB := hideC (HB.out.trans (hb.mono HB.out.size)); have BX := hideC (B.below BX.out hb (B.isLt BX.out)); have q0 := B.cell BX.out 0 rfl; have q1 := B.cell BX.out 1 rfl; have q2 := B.cell BX.out 2 rfl; clear hb))
    go_loopw [16, 4] (fun i d wr => ∃ k : Nat, k ≤ fs.length ∧ i = .int .i64 k ∧ d = .string (LM.laidTo dt fs k) ∧ Below w.heap.size w wr) (fun i _ _ => fs.length - (intOf i).toNat)
    case atStart => exact ⟨0, by omega, rfl, rfl, HB.out⟩
    case round =>
      obtain ⟨k, hk, rfl, rfl, hb⟩ := hrel
      have HBr := hideC hb
      by_cases hlt : k < fs.length
      · obtain ⟨b, off, hao, hbl, hlie⟩ := (HH.out.below hb) (by omega)
        subst hao
        obtain ⟨c0, c1⟩ := hlie k hlt
        have hok := (LM.fixB_iff _ _).1 (LM.fixesTo_ok fs fs.length HFX.out k hlt)
        have hgk : LM.fixesTo fs k = true := by
          cases e : LM.fixesTo fs k
          · rw [LM.fixesTo_false fs k fs.length (by omega) e] at HFX
            cases HFX
          · rfl
        have hed := LM.endTo_ge fs k hgk
        have hsz := LM.laidTo_size dt fs h16 k hgk
        have HNX : Hid (LM.laidTo dt fs (k + 1) = CL.over (LM.laidTo dt fs k) (LM.fxAt fs k).off.toNat (LM.fxAt fs k).bytes) := rfl
        obtain ⟨f, hfe⟩ : ∃ f, f = LM.fxAt fs k := ⟨_, rfl⟩
        rw [← hfe] at c0 c1 hok HNX
        obtain ⟨D, hD⟩ : ∃ D, D = LM.laidTo dt fs k := ⟨_, rfl⟩
        rw [← hD] at hsz HNX
        rw [← hD]
        obtain ⟨o, ho⟩ : ∃ o : Nat, f.off = (o : Int) := ⟨f.off.toNat, by omega⟩
        rw [ho] at c0 hok
        rw [ho, Int.toNat_natCast] at HNX
        clear hfe hD hgk hlie hb
        have HBA := hideC (HBr.out.alloc HBr.out.size (.cells #[.int .i64 (o : Int), .string f.bytes] 89))
        go_wp2_with (go_at_call 36; refine (CW.lay_yes D f.bytes o _ (by omega) (by omega)).mono ?_; rintro e w3 ⟨rfl, hb⟩; have HBA := hideC (HBA.out.trans (hb.mono HBA.out.size)); clear hb)
        go_roundw
        case rel => exact ⟨k + 1, by omega, by go_num, by rw [HNX.out], HBA.out⟩
        case measure => simp [intOf]; omega
      · obtain rfl : k = fs.length := by omega
        go_wp2
        go_ret2
        exact ⟨ret_sn (by rw [HN.out]) (by rw [HN.out]), HBr.out⟩
  · have hs' : LM.sheetB ⟨pg, dt, fs, ao, cap⟩ = false := by simpa using hs
    have HN : Hid (LM.fillN ⟨pg, dt, fs, ao, cap⟩ = (⟨#[]⟩, 1)) := by
      show _ = _
      unfold LM.fillN
      rw [if_neg hs]
    rw [hs'] at HR
    clear hs hs'
    rw [HN.out]
    go_enter Try.func11, Try.ntmps11
    go_wp2_with (go_at_call 34; refine (HR.out _ HB.out).mono ?_; rintro e w1 ⟨rfl, hb⟩; have HB := hideC (HB.out.trans (hb.mono HB.out.size)); clear hb)
    go_ret2
    exact ⟨rfl, HB.out⟩
end Go.Proofs.Ytbgnagognnklbaa.LW
/- Plain notions: what one page has of its area; the cells of all pages; no Go in sight. -/
namespace Go.Proofs.Ytbgnagognnklbaa.AM
open Go.RowKit
set_option linter.unusedVariables false
set_option maxRecDepth 100000

structure St where
  m : Bool
  p : Int
  z : Bool
def off : St := ⟨false, 0, false⟩
def three (s : St) : List Value := [.bool s.m, .int .i64 s.p, .bool s.z]
def rows (F : Nat → St) : Nat → List Value
  | 0 => []
  | m + 1 => rows F m ++ three (F m)
/-- the cells of all 256 pages -/
def cellsL (F : Nat → St) : Array Value := (rows F 256).toArray
def upd (F : Nat → St) (n : Nat) (s : St) : Nat → St := fun k => if k = n then s else F k

theorem rows_length (F : Nat → St) : ∀ m, (rows F m).length = m * 3
  | 0 => rfl
  | m + 1 => by simp [rows, rows_length F m, three]; omega
theorem cellsL_size (F : Nat → St) : (cellsL F).size = 768 := by simp [cellsL, rows_length]
theorem rows_get (F : Nat → St) (n j : Nat) (hj : j < 3) : ∀ m, n < m → (rows F m)[n * 3 + j]? = (three (F n))[j]?
  | 0, h => by omega
  | m + 1, h => by
    simp only [rows]
    by_cases e : n = m
    · subst e
      rw [List.getElem?_append_right (by rw [rows_length]; omega), rows_length, show n * 3 + j - n * 3 = j from by omega]
    · rw [List.getElem?_append_left (by rw [rows_length]; omega)]
      exact rows_get F n j hj m (by omega)
theorem cellsL_get (F : Nat → St) (n j : Nat) (hn : n < 256) (hj : j < 3) : (cellsL F)[n * 3 + j]? = (three (F n))[j]? := by
  unfold cellsL
  rw [List.getElem?_toArray]
  exact rows_get F n j hj 256 hn
theorem cellsL_get0 (F : Nat → St) (n : Nat) (hn : n < 256) : (cellsL F)[n * 3]? = some (.bool (F n).m) := cellsL_get F n 0 hn (by omega)
theorem cellsL_get1 (F : Nat → St) (n : Nat) (hn : n < 256) : (cellsL F)[n * 3 + 1]? = some (.int .i64 (F n).p) := cellsL_get F n 1 hn (by omega)
theorem cellsL_get2 (F : Nat → St) (n : Nat) (hn : n < 256) : (cellsL F)[n * 3 + 2]? = some (.bool (F n).z) := cellsL_get F n 2 hn (by omega)

theorem rows_congr (F G : Nat → St) : ∀ m, (∀ k, k < m → F k = G k) → rows F m = rows G m
  | 0, _ => rfl
  | m + 1, h => by simp only [rows]; rw [rows_congr F G m (fun k hk => h k (by omega)), h m (by omega)]
theorem rows_set (F : Nat → St) (n : Nat) (s : St) : ∀ m, n < m → (((rows F m).set (n * 3) (.bool s.m)).set (n * 3 + 1) (.int .i64 s.p)).set (n * 3 + 2) (.bool s.z) = rows (upd F n s) m
  | 0, h => by omega
  | m + 1, h => by
    simp only [rows]
    by_cases e : n = m
    · subst e
      rw [List.set_append_right _ _ (by rw [rows_length]; omega), List.set_append_right _ _ (by rw [rows_length]; omega), List.set_append_right _ _ (by rw [rows_length]; omega), rows_length,
        show n * 3 - n * 3 = 0 from by omega, show n * 3 + 1 - n * 3 = 1 from by omega, show n * 3 + 2 - n * 3 = 2 from by omega]
      rw [rows_congr (upd F n s) F n (fun k hk => by simp [upd]; omega)]
      simp [three, upd]
    · rw [List.set_append_left _ _ (by rw [rows_length]; omega), List.set_append_left _ _ (by rw [List.length_set, rows_length]; omega), List.set_append_left _ _ (by rw [List.length_set, List.length_set, rows_length]; omega), rows_set F n s m (by omega)]
      congr 2
      simp [upd]; intro h'; exact absurd h'.symm e
theorem cellsL_set (F : Nat → St) (n : Nat) (s : St) (hn : n < 256) :
    (((cellsL F).setIfInBounds (n * 3) (.bool s.m)).setIfInBounds (n * 3 + 1) (.int .i64 s.p)).setIfInBounds (n * 3 + 2) (.bool s.z) = cellsL (upd F n s) := by
  unfold cellsL
  rw [← rows_set F n s 256 hn]
  simp only [List.setIfInBounds_toArray]
theorem rows_one (F : Nat → St) : ∀ m, ∀ v ∈ rows F m, v.oneCell' = true
  | 0, v, h => by simp [rows] at h
  | m + 1, v, h => by
    simp only [rows, List.mem_append] at h
    rcases h with h | h
    · exact rows_one F m v h
    · simp only [three, List.mem_cons, List.not_mem_nil, or_false] at h
      rcases h with rfl | rfl | rfl <;> rfl
theorem cellsL_one (F : Nat → St) : (cellsL F).all (·.oneCell') = true := by
  rw [Array.all_eq_true_iff_forall_mem]
  intro v hv
  exact rows_one F 256 v (by simpa [cellsL] using hv)
theorem cellsL_congr (F G : Nat → St) (h : ∀ k, k < 256 → F k = G k) : cellsL F = cellsL G := by
  unfold cellsL; rw [rows_congr F G 256 h]

/-- what page n has, the area a having been laid over F up to page t (t itself not) -/
def layTo (F : Nat → St) (a : Ar) (t : Int) : Nat → St := fun n => if a.page ≤ (n : Int) ∧ (n : Int) < t then ⟨true, a.prot, a.zero⟩ else F n
def spreadTo (l : List Ar) : Nat → Nat → St
  | 0 => fun _ => off
  | k + 1 => layTo (spreadTo l k) (at_ l k) (at_ l k).last0
/-- what pages have of the areas l -/
def spreadN (l : List Ar) : Nat → St := spreadTo l l.length

theorem layTo_begin (F : Nat → St) (a : Ar) : layTo F a a.page = F := by
  funext n; simp only [layTo]; rw [if_neg (by omega)]
theorem layTo_step (F : Nat → St) (a : Ar) (n : Nat) (h : a.page ≤ (n : Int)) : upd (layTo F a n) n ⟨true, a.prot, a.zero⟩ = layTo F a ((n : Int) + 1) := by
  funext k
  simp only [upd, layTo]
  by_cases e : k = n
  · subst e; rw [if_pos rfl, if_pos ⟨h, by omega⟩]
  · rw [if_neg e]
    by_cases c : a.page ≤ (k : Int) ∧ (k : Int) < n
    · rw [if_pos c, if_pos ⟨c.1, by omega⟩]
    · rw [if_neg c, if_neg (by omega)]
end Go.Proofs.Ytbgnagognnklbaa.AM
/- Plain notions: pages that are gathered to areas; the cells of a list of areas; no Go in sight. -/
namespace Go.Proofs.Ytbgnagognnklbaa.AM
open Go.RowKit
set_option linter.unusedVariables false
set_option maxRecDepth 100000

theorem cellsL_part (F : Nat → St) (k : Nat) (hk : k < 256) : (cellsL F).extract (k * 3) (k * 3 + 3) = #[.bool (F k).m, .int .i64 (F k).p, .bool (F k).z] := by
  apply Array.ext_getElem?
  intro j
  have hs := cellsL_size F
  rw [Array.getElem?_extract, hs]
  match j with
  | 0 => rw [if_pos (by omega)]; exact cellsL_get0 F k hk
  | 1 => rw [if_pos (by omega)]; exact cellsL_get1 F k hk
  | 2 => rw [if_pos (by omega)]; exact cellsL_get2 F k hk
  | j + 3 => rw [if_neg (by omega)]; simp

def lastTo (F : Nat → St) : Nat → St
  | 0 => off
  | k + 1 => F k
def stEq (a b : St) : Bool := a.m == b.m && (a.p == b.p && a.z == b.z)
/-- the last area has one page more -/
def bump (G : List Ar) : List Ar := G.set (G.length - 1) ⟨(at_ G (G.length - 1)).page, (at_ G (G.length - 1)).pages + 1, (at_ G (G.length - 1)).prot, (at_ G (G.length - 1)).zero⟩
def gatherTo (F : Nat → St) : Nat → List Ar
  | 0 => []
  | k + 1 => if (F k).m = false then gatherTo F k else if stEq (F k) (lastTo F k) then bump (gatherTo F k) else gatherTo F k ++ [⟨(k : Int), 1, (F k).p, (F k).z⟩]
/-- the areas of all pages -/
def gatherN (F : Nat → St) : List Ar := gatherTo F 256

def four (a : Ar) : List Value := [.int .i64 a.page, .int .i64 a.pages, .int .i64 a.prot, .bool a.zero]
def areaCells : List Ar → List Value
  | [] => []
  | a :: r => four a ++ areaCells r
theorem areaCells_length : ∀ G : List Ar, (areaCells G).length = G.length * 4
  | [] => rfl
  | a :: r => by simp [areaCells, four, areaCells_length r]; omega
theorem areaCells_append : ∀ G H : List Ar, areaCells (G ++ H) = areaCells G ++ areaCells H
  | [], H => rfl
  | a :: r, H => by simp [areaCells, areaCells_append r H]
theorem areaCells_get : ∀ (G : List Ar) (i j : Nat), i < G.length → j < 4 → (areaCells G)[i * 4 + j]? = (four (at_ G i))[j]?
  | [], i, j, h, _ => by simp at h
  | a :: r, 0, j, h, hj => by
    simp only [areaCells]
    rw [List.getElem?_append_left (by simp [four]; omega)]
    simp [at_]
  | a :: r, i + 1, j, h, hj => by
    simp only [areaCells]
    rw [List.getElem?_append_right (by simp [four]; omega), show (i + 1) * 4 + j - (four a).length = i * 4 + j from by simp [four]; omega, areaCells_get r i j (by simpa using h) hj]
    simp [at_]
theorem areaCells_set : ∀ (G : List Ar) (i : Nat) (n : Int), i < G.length → areaCells (G.set i ⟨(at_ G i).page, n, (at_ G i).prot, (at_ G i).zero⟩) = (areaCells G).set (i * 4 + 1) (.int .i64 n)
  | [], i, n, h => by simp at h
  | a :: r, 0, n, h => by simp [areaCells, four, at_]
  | a :: r, i + 1, n, h => by
    simp only [areaCells, List.set_cons_succ]
    rw [List.set_append_right _ _ (by simp [four]; omega), show (i + 1) * 4 + 1 - (four a).length = i * 4 + 1 from by simp [four]; omega]
    have e := areaCells_set r i n (by simpa using h)
    rw [← e]
    simp [at_]
theorem bump_length (G : List Ar) : (bump G).length = G.length := by simp [bump]
theorem areaCells_one : ∀ (G : List Ar), ∀ v ∈ areaCells G, v.oneCell' = true
  | [], v, h => by simp [areaCells] at h
  | a :: r, v, h => by
    simp only [areaCells, four, List.cons_append, List.nil_append, List.mem_cons] at h
    rcases h with rfl | rfl | rfl | rfl | h
    · rfl
    · rfl
    · rfl
    · rfl
    · exact areaCells_one r v h

theorem at_append_left (G H : List Ar) (i : Nat) (h : i < G.length) : at_ (G ++ H) i = at_ G i := by simp [at_, List.getElem?_append_left h]
theorem at_append_last (G : List Ar) (a : Ar) : at_ (G ++ [a]) G.length = a := by simp [at_]
theorem at_set_same (G : List Ar) (i : Nat) (a : Ar) (h : i < G.length) : at_ (G.set i a) i = a := by simp [at_, h]
theorem at_set_other (G : List Ar) (i j : Nat) (a : Ar) (h : j ≠ i) : at_ (G.set i a) j = at_ G j := by simp [at_, List.getElem?_set_ne (Ne.symm h)]

theorem gather_len (F : Nat → St) : ∀ k, (gatherTo F k).length ≤ k
  | 0 => by simp [gatherTo]
  | k + 1 => by
    have ih := gather_len F k
    simp only [gatherTo]
    split
    · omega
    · split
      · rw [bump_length]; omega
      · simp; omega
/-- behind a mapped page there is an area -/
theorem gather_some (F : Nat → St) : ∀ k, (lastTo F k).m = true → 0 < (gatherTo F k).length
  | 0, h => by simp [lastTo, off] at h
  | k + 1, h => by
    have h' : (F k).m = true := h
    simp only [gatherTo, h']
    rw [if_neg (by simp)]
    split
    · rename_i he
      have hm : (lastTo F k).m = true := by
        simp only [stEq, Bool.and_eq_true, beq_iff_eq] at he
        rw [← he.1]; exact h'
      rw [bump_length]
      exact gather_some F k hm
    · simp
theorem gather_pages (F : Nat → St) : ∀ k, ∀ i, i < (gatherTo F k).length → 1 ≤ (at_ (gatherTo F k) i).pages ∧ (at_ (gatherTo F k) i).pages ≤ k
  | 0, i, h => by simp [gatherTo] at h
  | k + 1, i, h => by
    have ih := gather_pages F k
    simp only [gatherTo] at h ⊢
    split
    · rename_i hm
      rw [if_pos hm] at h
      have := ih i h
      omega
    · rename_i hm
      rw [if_neg hm] at h
      split
      · rename_i he
        rw [if_pos he, bump_length] at h
        by_cases e : i = (gatherTo F k).length - 1
        · rw [e, bump, at_set_same _ _ _ (by omega)]
          have := ih ((gatherTo F k).length - 1) (by omega)
          simp only
          omega
        · rw [bump, at_set_other _ _ _ _ e]
          have := ih i h
          omega
      · rename_i he
        rw [if_neg he] at h
        by_cases e : i < (gatherTo F k).length
        · rw [at_append_left _ _ _ e]
          have := ih i e
          omega
        · obtain rfl : i = (gatherTo F k).length := by simp at h; omega
          rw [at_append_last]
          simp only
          omega
theorem stEq_eq (a b : St) (h : stEq a b = true) : a = b := by
  cases a; cases b
  simp only [stEq, Bool.and_eq_true, beq_iff_eq] at h
  obtain ⟨h1, h2, h3⟩ := h
  subst h1; subst h2; subst h3; rfl
theorem stEq_ne (a b : St) (h : stEq a b = false) : (a.m == b.m) = false ∨ ((a.m == b.m) = true ∧ (a.p == b.p) = false) ∨ ((a.m == b.m) = true ∧ (a.p == b.p) = true ∧ (a.z == b.z) = false) := by
  unfold stEq at h
  cases h1 : (a.m == b.m)
  · exact .inl rfl
  · cases h2 : (a.p == b.p)
    · exact .inr (.inl ⟨rfl, rfl⟩)
    · cases h3 : (a.z == b.z)
      · exact .inr (.inr ⟨rfl, rfl, rfl⟩)
      · rw [h1, h2, h3] at h; simp at h
end Go.Proofs.Ytbgnagognnklbaa.AM
