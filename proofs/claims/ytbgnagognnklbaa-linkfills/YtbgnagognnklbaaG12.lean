import Derived.Test.YtbgnagognnklbaaG06
/- The reference's look at linked programs says the same; plain Lean. -/
namespace Go.Proofs.Ytbgnagognnklbaa.LM
open Go.RowKit
set_option linter.unusedVariables false
set_option maxRecDepth 100000

def riseAt (hs : List Sh) (k : Nat) : Bool := k == 0 || decide ((shAt hs (k - 1)).page < (shAt hs k).page)
def riseTo (hs : List Sh) : Nat → Bool
  | 0 => true
  | k + 1 => riseTo hs k && (sheetB (shAt hs k) && riseAt hs k)
def riseB (hs : List Sh) : Bool := riseTo hs hs.length
theorem riseTo_false (l : List Sh) : ∀ (k n : Nat), k ≤ n → riseTo l k = false → riseTo l n = false
  | k, 0, h, hk => by obtain rfl : k = 0 := by omega
                      exact hk
  | k, n + 1, h, hk => by
    by_cases e : k = n + 1
    · subst e; exact hk
    · simp [riseTo, riseTo_false l k n (by omega) hk]
theorem rise_bad (l : List Sh) (k : Nat) (hk : k < l.length) (h : (sheetB (shAt l k) && riseAt l k) = false) : riseB l = false := riseTo_false l (k + 1) l.length (by omega) (by simp only [riseTo]; rw [h, Bool.and_false])
theorem riseTo_ok (l : List Sh) : ∀ n, riseTo l n = true → ∀ i, i < n → sheetB (shAt l i) = true ∧ riseAt l i = true
  | 0, _, i, hi => by omega
  | n + 1, h, i, hi => by
    simp only [riseTo, Bool.and_eq_true] at h
    by_cases e : i = n
    · subst e; exact h.2
    · exact riseTo_ok l n h.1 i (by omega)
theorem riseTo_of (l : List Sh) : ∀ n, (∀ i, i < n → sheetB (shAt l i) = true ∧ riseAt l i = true) → riseTo l n = true
  | 0, _ => rfl
  | n + 1, h => by
    simp only [riseTo, Bool.and_eq_true]
    exact ⟨riseTo_of l n (fun i hi => h i (by omega)), h n (by omega)⟩
/-- are the first k sheets' pages in areas that are not Zero? -/
def inAt (l : List AM.Ar) (hs : List Sh) (k : Nat) : Bool := (AM.findFrom l (shAt hs k).page).2 && !(AM.findFrom l (shAt hs k).page).1.zero
def inTo (l : List AM.Ar) (hs : List Sh) : Nat → Bool
  | 0 => true
  | k + 1 => inTo l hs k && inAt l hs k
theorem inTo_false (l : List AM.Ar) (hs : List Sh) : ∀ (k n : Nat), k ≤ n → inTo l hs k = false → inTo l hs n = false
  | k, 0, h, hk => by obtain rfl : k = 0 := by omega
                      exact hk
  | k, n + 1, h, hk => by
    by_cases e : k = n + 1
    · subst e; exact hk
    · simp [inTo, inTo_false l hs k n (by omega) hk]
theorem in_bad (l : List AM.Ar) (hs : List Sh) (k : Nat) (hk : k < hs.length) (h : inAt l hs k = false) : inTo l hs hs.length = false := inTo_false l hs (k + 1) hs.length (by omega) (by simp only [inTo]; rw [h, Bool.and_false])
theorem inTo_ok (l : List AM.Ar) (hs : List Sh) : ∀ n, inTo l hs n = true → ∀ i, i < n → inAt l hs i = true
  | 0, _, i, hi => by omega
  | n + 1, h, i, hi => by
    simp only [inTo, Bool.and_eq_true] at h
    by_cases e : i = n
    · subst e; exact h.2
    · exact inTo_ok l hs n h.1 i (by omega)
theorem inTo_of (l : List AM.Ar) (hs : List Sh) : ∀ n, (∀ i, i < n → inAt l hs i = true) → inTo l hs n = true
  | 0, _ => rfl
  | n + 1, h => by
    simp only [inTo, Bool.and_eq_true]
    exact ⟨inTo_of l hs n (fun i hi => h i (by omega)), h n (by omega)⟩
/-- what the reference's look answers -/
def checkR (l : List AM.Ar) (hs : List Sh) (en : Int) : Int := if AM.checkN l = 0 then (if decide ((hs.length : Int) = AM.sumTo l l.length) && (riseB hs && (inTo l hs hs.length && entB l en)) then 0 else 1) else AM.checkN l

/-! the pages of areas that are right rise -/
def Rising (L : List Int) : Prop := L.Pairwise (· < ·)
theorem pagesN_mem (a : AM.Ar) (n : Nat) (x : Int) : x ∈ pagesN a n ↔ a.page ≤ x ∧ x < a.page + (n : Int) := by
  unfold pagesN
  rw [List.mem_map]
  constructor
  · rintro ⟨m, hm, rfl⟩
    have := List.mem_range.1 hm
    omega
  · rintro ⟨h1, h2⟩
    exact ⟨(x - a.page).toNat, List.mem_range.2 (by omega), by omega⟩
theorem pagesN_rising (a : AM.Ar) : ∀ n, Rising (pagesN a n)
  | 0 => by simp [pagesN, Rising]
  | n + 1 => by
    rw [pagesN_succ]
    unfold Rising
    rw [List.pairwise_append]
    refine ⟨pagesN_rising a n, by simp, fun x hx y hy => ?_⟩
    have := (pagesN_mem a n x).1 hx
    simp at hy
    omega
theorem pagesN_length (a : AM.Ar) (n : Nat) : (pagesN a n).length = n := by simp [pagesN]
/-- what the first i areas have lies ahead of where the next one begins -/
theorem next_ge (l : List AM.Ar) (hc : AM.checkN l = 0) (i : Nat) (hi : i + 1 < l.length) : (AM.at_ l i).page + (AM.at_ l i).pages ≤ (AM.at_ l (i + 1)).page := by
  have h := AM.good_pages l hc (i + 1) hi
  simp only [AM.okAt, Bool.and_eq_true, Nat.add_sub_cancel] at h
  have h2 := h.2
  have e : (i + 1 == 0) = false := by simp
  rw [e, Bool.false_or] at h2
  unfold AM.followB AM.Ar.last0 at h2
  split at h2
  · omega
  · simp at h2
    omega
theorem pagesTo_lt (l : List AM.Ar) (hc : AM.checkN l = 0) : ∀ i, i ≤ l.length → ∀ x ∈ pagesTo l i, ∀ j, j < l.length → i ≤ j → x < (AM.at_ l j).page
  | 0, _, x, hx, j, _, _ => by simp [pagesTo] at hx
  | i + 1, hi, x, hx, j, hj, hij => by
    simp only [pagesTo, List.mem_append] at hx
    rcases hx with hx | hx
    · exact pagesTo_lt l hc i (by omega) x hx j hj (by omega)
    · have hk := AM.okAt_pages l i (AM.good_pages l hc i (by omega))
      have h1 := (pagesN_mem _ _ _).1 hx
      have step : ∀ d, i + 1 + d < l.length → (AM.at_ l i).page + (AM.at_ l i).pages ≤ (AM.at_ l (i + 1 + d)).page := by
        intro d
        induction d with
        | zero => intro h; exact next_ge l hc i h
        | succ d ih =>
          intro h
          have h2 := ih (by omega)
          have h3 := next_ge l hc (i + 1 + d) h
          have h4 := AM.okAt_pages l (i + 1 + d) (AM.good_pages l hc (i + 1 + d) (by omega))
          have e : i + 1 + (d + 1) = i + 1 + d + 1 := by omega
          rw [e]
          omega
      have := step (j - (i + 1)) (by omega)
      have e : i + 1 + (j - (i + 1)) = j := by omega
      rw [e] at this
      omega
theorem pagesTo_rising (l : List AM.Ar) (hc : AM.checkN l = 0) : ∀ i, i ≤ l.length → Rising (pagesTo l i)
  | 0, _ => by simp [pagesTo, Rising]
  | i + 1, hi => by
    simp only [pagesTo]
    unfold Rising
    rw [List.pairwise_append]
    refine ⟨pagesTo_rising l hc i (by omega), pagesN_rising _ _, fun x hx y hy => ?_⟩
    have h1 := pagesTo_lt l hc i (by omega) x hx i (by omega) (Nat.le_refl _)
    have h2 := (pagesN_mem _ _ _).1 hy
    omega
theorem pagesTo_length (l : List AM.Ar) (hc : AM.checkN l = 0) : ∀ i, i ≤ l.length → ((pagesTo l i).length : Int) = AM.sumTo l i
  | 0, _ => rfl
  | i + 1, hi => by
    have ih := pagesTo_length l hc i (by omega)
    have hk := AM.okAt_pages l i (AM.good_pages l hc i (by omega))
    simp only [pagesTo, AM.sumTo, List.length_append, pagesN_length]
    omega
theorem pagesTo_mem (l : List AM.Ar) (x : Int) : ∀ i, x ∈ pagesTo l i ↔ ∃ k, k < i ∧ AM.hit (AM.at_ l k) x = true
  | 0 => by simp [pagesTo]
  | i + 1 => by
    simp only [pagesTo, List.mem_append]
    rw [pagesTo_mem l x i, pagesN_mem]
    constructor
    · rintro (⟨k, hk, h⟩ | h)
      · exact ⟨k, by omega, h⟩
      · exact ⟨i, by omega, by unfold AM.hit AM.Ar.last0; exact decide_eq_true ⟨h.1, by omega⟩⟩
    · rintro ⟨k, hk, h⟩
      by_cases e : k = i
      · subst e
        right
        unfold AM.hit AM.Ar.last0 at h
        have := of_decide_eq_true h
        omega
      · exact .inl ⟨k, by omega, h⟩
theorem rising_tail {x : Int} {L : List Int} (h : Rising (x :: L)) : Rising L ∧ ∀ z ∈ L, x < z := ⟨(List.pairwise_cons.1 h).2, (List.pairwise_cons.1 h).1⟩
theorem rising_len : ∀ (K L : List Int), Rising L → Rising K → (∀ z ∈ L, z ∈ K) → L.length ≤ K.length
  | [], L, _, _, hm => by
    cases L with
    | nil => exact Nat.le_refl _
    | cons x L => exact absurd (hm x List.mem_cons_self) (by simp)
  | y :: K, L, hL, hK, hm => by
    cases L with
    | nil => exact Nat.zero_le _
    | cons x L =>
      obtain ⟨hL1, hL2⟩ := rising_tail hL
      obtain ⟨hK1, hK2⟩ := rising_tail hK
      by_cases e : x = y
      · subst e
        have := rising_len K L hL1 hK1 (fun z hz => by
          have h1 := hL2 z hz
          rcases List.mem_cons.1 (hm z (List.mem_cons_of_mem _ hz)) with g | g
          · omega
          · exact g)
        simp only [List.length_cons]
        omega
      · have hx : x ∈ K := by
          rcases List.mem_cons.1 (hm x List.mem_cons_self) with g | g
          · exact (e g).elim
          · exact g
        have hyx := hK2 x hx
        have := rising_len K (x :: L) hL hK1 (fun z hz => by
          rcases List.mem_cons.1 hz with g | g
          · subst g; exact hx
          · have h1 := hL2 z g
            rcases List.mem_cons.1 (hm z hz) with q | q
            · omega
            · exact q)
        simp only [List.length_cons] at this ⊢
        omega
/-- a rising list all of whose elements stand in another one that is no longer is that one -/
theorem rising_eq : ∀ (L K : List Int), Rising L → Rising K → (∀ z ∈ L, z ∈ K) → K.length ≤ L.length → L = K
  | [], K, _, _, _, hl => by
    cases K with
    | nil => rfl
    | cons y K => simp at hl
  | x :: L, K, hL, hK, hm, hl => by
    cases K with
    | nil => exact absurd (hm x List.mem_cons_self) (by simp)
    | cons y K =>
      obtain ⟨hL1, hL2⟩ := rising_tail hL
      obtain ⟨hK1, hK2⟩ := rising_tail hK
      have e : x = y := by
        rcases List.mem_cons.1 (hm x List.mem_cons_self) with g | g
        · exact g
        · have hyx := hK2 x g
          have := rising_len K (x :: L) hL hK1 (fun z hz => by
            rcases List.mem_cons.1 hz with q | q
            · subst q; exact g
            · have h1 := hL2 z q
              rcases List.mem_cons.1 (hm z hz) with r | r
              · omega
              · exact r)
          simp only [List.length_cons] at this hl
          omega
      subst e
      rw [rising_eq L K hL1 hK1 (fun z hz => by
        have h1 := hL2 z hz
        rcases List.mem_cons.1 (hm z (List.mem_cons_of_mem _ hz)) with g | g
        · omega
        · exact g) (by simp only [List.length_cons] at hl; omega)]
theorem rise_rising (hs : List Sh) (h : riseB hs = true) : Rising (hs.map (·.page)) := by
  have step : ∀ i j, i < j → j < hs.length → (shAt hs i).page < (shAt hs j).page := by
    intro i j hij hj
    induction j with
    | zero => omega
    | succ j ih =>
      have h1 := (riseTo_ok hs hs.length h (j + 1) hj).2
      unfold riseAt at h1
      have e : (j + 1 == 0) = false := by simp
      rw [e, Bool.false_or] at h1
      have h2 := of_decide_eq_true h1
      rw [Nat.add_sub_cancel] at h2
      by_cases e2 : i = j
      · subst e2; exact h2
      · have := ih (by omega) (by omega)
        omega
  unfold Rising
  rw [List.pairwise_iff_getElem]
  intro i j hi hj hij
  rw [List.length_map] at hi hj
  have := step i j hij hj
  unfold shAt at this
  rw [List.getD_eq_getElem?_getD, List.getD_eq_getElem?_getD, List.getElem?_eq_getElem hi, List.getElem?_eq_getElem hj] at this
  simpa using this
theorem rising_rise (hs : List Sh) (h : Rising (hs.map (·.page))) (k : Nat) (hk : k < hs.length) : riseAt hs k = true := by
  unfold riseAt
  by_cases e : k = 0
  · subst e; rfl
  · have e2 : (k == 0) = false := by simpa using e
    rw [e2, Bool.false_or]
    unfold Rising at h
    rw [List.pairwise_iff_getElem] at h
    have := h (k - 1) k (by rw [List.length_map]; omega) (by rw [List.length_map]; exact hk) (by omega)
    refine decide_eq_true ?_
    unfold shAt
    rw [List.getD_eq_getElem?_getD, List.getD_eq_getElem?_getD, List.getElem?_eq_getElem (by omega : k - 1 < hs.length), List.getElem?_eq_getElem hk]
    simpa using this
theorem find_hit (l : List AM.Ar) (p : Int) (k : Nat) (hk : k < l.length) (h : AM.hit (AM.at_ l k) p = true) : ∃ j, j < l.length ∧ AM.findFrom l p = (AM.at_ l j, true) := by
  induction k using Nat.strongRecOn with
  | _ k ih =>
    by_cases g : ∃ j, j < k ∧ AM.hit (AM.at_ l j) p = true
    · obtain ⟨j, hj, hj2⟩ := g
      exact ih j hj (by omega) hj2
    · exact ⟨k, hk, AM.findFrom_at l p k hk (fun i hi => by
        cases q : AM.hit (AM.at_ l i) p
        · rfl
        · exact (g ⟨i, hi, q⟩).elim) h⟩
theorem found_hit (l : List AM.Ar) (p : Int) (h : (AM.findFrom l p).2 = true) : ∃ k, k < l.length ∧ AM.hit (AM.at_ l k) p = true := by
  by_cases e : ∃ k, k < l.length ∧ AM.hit (AM.at_ l k) p = true
  · exact e
  · rw [AM.findFrom_none l p (fun i hi => by
      cases q : AM.hit (AM.at_ l i) p
      · rfl
      · exact (e ⟨i, hi, q⟩).elim)] at h
    cases h
theorem at_mem (hs : List Sh) (k : Nat) (h : k < hs.length) : (shAt hs k).page ∈ hs.map (·.page) := by
  unfold shAt
  rw [List.getD_eq_getElem?_getD, List.getElem?_eq_getElem h]
  exact List.mem_map_of_mem (List.getElem_mem h)
theorem mem_at (hs : List Sh) (x : Int) (h : x ∈ hs.map (·.page)) : ∃ k, k < hs.length ∧ (shAt hs k).page = x := by
  obtain ⟨s, hs1, rfl⟩ := List.mem_map.1 h
  obtain ⟨k, hk, e⟩ := List.getElem_of_mem hs1
  refine ⟨k, hk, ?_⟩
  unfold shAt
  rw [List.getD_eq_getElem?_getD, List.getElem?_eq_getElem hk, ← e]
  rfl
/-- two areas have no page in common -/
theorem hit_one (l : List AM.Ar) (hc : AM.checkN l = 0) (p : Int) (j k : Nat) (hj : j < l.length) (hk : k < l.length) (h1 : AM.hit (AM.at_ l j) p = true) (h2 : AM.hit (AM.at_ l k) p = true) : j = k := by
  have key : ∀ j k, j < k → k < l.length → AM.hit (AM.at_ l j) p = true → AM.hit (AM.at_ l k) p = true → False := by
    intro j k hjk hk h1 h2
    have hm : p ∈ pagesTo l k := (pagesTo_mem l p k).2 ⟨j, hjk, h1⟩
    have := pagesTo_lt l hc k (by omega) p hm k hk (Nat.le_refl _)
    unfold AM.hit at h2
    have := of_decide_eq_true h2
    omega
  rcases Nat.lt_trichotomy j k with g | g | g
  · exact (key j k g hk h1 h2).elim
  · exact g
  · exact (key k j g hj h2 h1).elim
theorem look_same (l : List AM.Ar) (hs : List Sh) (hc : AM.checkN l = 0) :
    (!anyZeroB l && (forEachB l hs && sheetsB hs)) = (decide ((hs.length : Int) = AM.sumTo l l.length) && (riseB hs && inTo l hs hs.length)) := by
  rw [Bool.eq_iff_iff]
  simp only [Bool.and_eq_true, Bool.not_eq_true', decide_eq_true_eq]
  constructor
  · rintro ⟨hz, he, hsh⟩
    have he' : hs.map (·.page) = pagesOf l := of_decide_eq_true he
    have hlen := congrArg List.length he'
    rw [List.length_map] at hlen
    have hr : Rising (hs.map (·.page)) := by rw [he']; exact pagesTo_rising l hc l.length (Nat.le_refl _)
    refine ⟨by rw [hlen]; exact pagesTo_length l hc l.length (Nat.le_refl _), ?_, ?_⟩
    · exact riseTo_of hs hs.length (fun i hi => ⟨sheetsTo_ok hs hs.length hsh i hi, rising_rise hs hr i hi⟩)
    · refine inTo_of l hs hs.length (fun i hi => ?_)
      have hm : (shAt hs i).page ∈ pagesTo l l.length := by
        have := at_mem hs i hi
        rw [he'] at this
        exact this
      obtain ⟨k, hk, hh⟩ := (pagesTo_mem l _ _).1 hm
      obtain ⟨j, hj, e⟩ := find_hit l _ k hk hh
      unfold inAt
      rw [e]
      simp [zero_none l l.length hz j hj]
  · rintro ⟨hlen, hr, hin⟩
    have hsub : ∀ z ∈ hs.map (·.page), z ∈ pagesOf l := fun z hz => by
      obtain ⟨k, hk, rfl⟩ := mem_at hs z hz
      have := inTo_ok l hs hs.length hin k hk
      unfold inAt at this
      simp only [Bool.and_eq_true] at this
      obtain ⟨j, hj, hh⟩ := found_hit l _ this.1
      exact (pagesTo_mem l _ _).2 ⟨j, hj, hh⟩
    have he' : hs.map (·.page) = pagesOf l := rising_eq _ _ (rise_rising hs hr) (pagesTo_rising l hc l.length (Nat.le_refl _)) hsub (by
      have := pagesTo_length l hc l.length (Nat.le_refl _)
      unfold pagesOf
      rw [List.length_map]
      omega)
    refine ⟨?_, decide_eq_true he', ?_⟩
    · cases hz : anyZeroB l
      · rfl
      · exfalso
        have : ∃ i, i < l.length ∧ (AM.at_ l i).zero = true := by
          by_cases g : ∃ i, i < l.length ∧ (AM.at_ l i).zero = true
          · exact g
          · have key : ∀ n, n ≤ l.length → zeroTo l n = false := by
              intro n
              induction n with
              | zero => intro _; rfl
              | succ n ih =>
                intro hn
                simp only [zeroTo]
                rw [ih (by omega), Bool.false_or]
                cases q : (AM.at_ l n).zero
                · rfl
                · exact (g ⟨n, by omega, q⟩).elim
            unfold anyZeroB at hz
            rw [key l.length (Nat.le_refl _)] at hz
            cases hz
        obtain ⟨i, hi, hzi⟩ := this
        have hk := AM.okAt_pages l i (AM.good_pages l hc i hi)
        have hh : AM.hit (AM.at_ l i) (AM.at_ l i).page = true := by
          unfold AM.hit AM.Ar.last0
          exact decide_eq_true ⟨Int.le_refl _, by omega⟩
        have hm : (AM.at_ l i).page ∈ hs.map (·.page) := by
          rw [he']
          exact (pagesTo_mem l _ _).2 ⟨i, hi, hh⟩
        obtain ⟨k, hk1, hk2⟩ := mem_at hs _ hm
        have hin2 := inTo_ok l hs hs.length hin k hk1
        unfold inAt at hin2
        rw [hk2] at hin2
        obtain ⟨j, hj, e⟩ := find_hit l _ i hi hh
        have hj2 : AM.hit (AM.at_ l j) (AM.at_ l i).page = true := by
          obtain ⟨m, hm1, hm2⟩ := found_hit l (AM.at_ l i).page (by rw [e])
          have hmi := hit_one l hc _ m i hm1 hi hm2 hh
          have : AM.findFrom l (AM.at_ l i).page = (AM.at_ l i, true) := by
            refine AM.findFrom_at l _ i hi (fun q hq => ?_) hh
            cases r : AM.hit (AM.at_ l q) (AM.at_ l i).page
            · rfl
            · have := hit_one l hc _ q i (by omega) hi r hh
              omega
          rw [this] at e
          injection e with e1 _
          rw [← e1]
          exact hh
        have := hit_one l hc _ j i hj hi hj2 hh
        subst this
        rw [e, hzi] at hin2
        simp at hin2
    · have key : ∀ n, n ≤ hs.length → sheetsTo hs n = true := by
        intro n
        induction n with
        | zero => intro _; rfl
        | succ n ih =>
          intro hn
          simp only [sheetsTo, Bool.and_eq_true]
          exact ⟨ih (by omega), (riseTo_ok hs hs.length hr n (by omega)).1⟩
      exact key hs.length (Nat.le_refl _)
/-- both looks say the same -/
theorem check_same (l : List AM.Ar) (hs : List Sh) (en : Int) : checkL l hs en = checkR l hs en := by
  unfold checkL checkR
  by_cases hc : AM.checkN l = 0
  · rw [if_pos hc, if_pos hc]
    have h := look_same l hs hc
    have e : (!anyZeroB l && (forEachB l hs && (sheetsB hs && entB l en))) = (decide ((hs.length : Int) = AM.sumTo l l.length) && (riseB hs && (inTo l hs hs.length && entB l en))) := by
      have a : (!anyZeroB l && (forEachB l hs && (sheetsB hs && entB l en))) = ((!anyZeroB l && (forEachB l hs && sheetsB hs)) && entB l en) := by
        cases anyZeroB l <;> cases forEachB l hs <;> cases sheetsB hs <;> rfl
      have b : (decide ((hs.length : Int) = AM.sumTo l l.length) && (riseB hs && (inTo l hs hs.length && entB l en))) = ((decide ((hs.length : Int) = AM.sumTo l l.length) && (riseB hs && inTo l hs hs.length)) && entB l en) := by
        cases decide ((hs.length : Int) = AM.sumTo l l.length) <;> cases riseB hs <;> cases inTo l hs hs.length <;> rfl
      rw [a, b, h]
    rw [e]
  · rw [if_neg hc, if_neg hc]
end Go.Proofs.Ytbgnagognnklbaa.LM
