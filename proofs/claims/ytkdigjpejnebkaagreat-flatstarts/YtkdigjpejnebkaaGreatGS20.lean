import Derived.Test.YtkdigjpejnebkaaGreatGS19
import Derived.Test.YtkdigjpejnebkaaGreatGS18
import Derived.Test.YtkdigjpejnebkaaGreatGS00
set_option linter.unusedVariables false
set_option maxRecDepth 100000
set_option linter.unusedSimpArgs false
namespace Go.Proofs.YtkdigjpejnebkaaGreat
namespace LM
open Go.RowKit
def riseAt (hs : List Sh) (k : Nat) : Bool:=k == 0 || decide ((shAt hs (k - 1)).page < (shAt hs k).page)
def riseTo (hs : List Sh) : Nat -> Bool
 | 0=>true
 | k + 1=>riseTo hs k && (sheetB (shAt hs k) && riseAt hs k)
def riseB (hs : List Sh) : Bool:=riseTo hs hs.length
theorem riseTo_false (l : List Sh) : ∀ (k n : Nat),k <= n -> riseTo l k = false -> riseTo l n = false
 | k, 0, h, hk => by obtain rfl : k = 0 := by omega
                     exact hk
 | k,n + 1,h,hk=>by
  by_cases e : k = n + 1
  · subst e;exact hk
  · simp [riseTo,riseTo_false l k n (by omega) hk]
theorem rise_bad (l : List Sh) (k : Nat) (hk : k < l.length) (h : (sheetB (shAt l k) && riseAt l k) = false) : riseB l = false:=riseTo_false l (k + 1) l.length (by omega) (by simp only [riseTo];rw [h,Bool.and_false])
theorem riseTo_ok (l : List Sh) : ∀ n,riseTo l n = true -> ∀ i,i < n -> sheetB (shAt l i) = true /\ riseAt l i = true
 | 0,_,i,hi=>by omega
 | n + 1,h,i,hi=>by
  simp only [riseTo,Bool.and_eq_true] at h
  by_cases e : i = n
  · subst e;exact h.2
  · exact riseTo_ok l n h.1 i (by omega)
theorem riseTo_of (l : List Sh) : ∀ n,(∀ i,i < n -> sheetB (shAt l i) = true /\ riseAt l i = true) -> riseTo l n = true
 | 0,_=>rfl
 | n + 1,h=>by
  simp only [riseTo,Bool.and_eq_true]
  exact ⟨riseTo_of l n (fun i hi=>h i (by omega)),h n (by omega)⟩
def inAt (l : List AM.Ar) (hs : List Sh) (k : Nat) : Bool:=(AM.findFrom l (shAt hs k).page).2 && !(AM.findFrom l (shAt hs k).page).1.zero
def inTo (l : List AM.Ar) (hs : List Sh) : Nat -> Bool
 | 0=>true
 | k + 1=>inTo l hs k && inAt l hs k
theorem inTo_false (l : List AM.Ar) (hs : List Sh) : ∀ (k n : Nat),k <= n -> inTo l hs k = false -> inTo l hs n = false
 | k, 0, h, hk => by obtain rfl : k = 0 := by omega
                     exact hk
 | k,n + 1,h,hk=>by
  by_cases e : k = n + 1
  · subst e;exact hk
  · simp [inTo,inTo_false l hs k n (by omega) hk]
theorem in_bad (l : List AM.Ar) (hs : List Sh) (k : Nat) (hk : k < hs.length) (h : inAt l hs k = false) : inTo l hs hs.length = false:=inTo_false l hs (k + 1) hs.length (by omega) (by simp only [inTo];rw [h,Bool.and_false])
theorem inTo_ok (l : List AM.Ar) (hs : List Sh) : ∀ n,inTo l hs n = true -> ∀ i,i < n -> inAt l hs i = true
 | 0,_,i,hi=>by omega
 | n + 1,h,i,hi=>by
  simp only [inTo,Bool.and_eq_true] at h
  by_cases e : i = n
  · subst e;exact h.2
  · exact inTo_ok l hs n h.1 i (by omega)
theorem inTo_of (l : List AM.Ar) (hs : List Sh) : ∀ n,(∀ i,i < n -> inAt l hs i = true) -> inTo l hs n = true
 | 0,_=>rfl
 | n + 1,h=>by
  simp only [inTo,Bool.and_eq_true]
  exact ⟨inTo_of l hs n (fun i hi=>h i (by omega)),h n (by omega)⟩
def checkR (l : List AM.Ar) (hs : List Sh) (en : Int) : Int:=if AM.checkN l = 0 then (if decide ((hs.length : Int) = AM.sumTo l l.length) && (riseB hs && (inTo l hs hs.length && entB l en)) then 0 else 1) else AM.checkN l
/-! the pages of areas that are right rise -/
def Rising (L : List Int) : Prop:=L.Pairwise (· < ·)
theorem pagesN_mem (a : AM.Ar) (n : Nat) (x : Int) : x ∈ pagesN a n ↔ a.page <= x /\ x < a.page + (n : Int):=by
 unfold pagesN
 rw [List.mem_map]
 constructor
 · rintro ⟨m,hm,rfl⟩
   have:=List.mem_range.1 hm
   omega
 · rintro ⟨h1,h2⟩
   exact ⟨(x - a.page).toNat,List.mem_range.2 (by omega),by omega⟩
theorem pagesN_rising (a : AM.Ar) : ∀ n,Rising (pagesN a n)
 | 0=>by simp [pagesN,Rising]
 | n + 1=>by
  rw [pagesN_succ]
  unfold Rising
  rw [List.pairwise_append]
  refine ⟨pagesN_rising a n,by simp,fun x hx y hy=>?_⟩
  have:=(pagesN_mem a n x).1 hx
  simp at hy
  omega
theorem pagesN_length (a : AM.Ar) (n : Nat) : (pagesN a n).length = n:=by simp [pagesN]
theorem next_ge (l : List AM.Ar) (hc : AM.checkN l = 0) (i : Nat) (hi : i + 1 < l.length) : (AM.at_ l i).page + (AM.at_ l i).pages <= (AM.at_ l (i + 1)).page:=by
 have h:=AM.good_pages l hc (i + 1) hi
 simp only [AM.okAt,Bool.and_eq_true,Nat.add_sub_cancel] at h
 have h2:=h.2
 have e : (i + 1 == 0) = false:=by simp
 rw [e,Bool.false_or] at h2
 unfold AM.followB AM.Ar.last0 at h2
 split at h2
 · omega
 · simp at h2
   omega
theorem pagesTo_lt (l : List AM.Ar) (hc : AM.checkN l = 0) : ∀ i,i <= l.length -> ∀ x ∈ pagesTo l i,∀ j,j < l.length -> i <= j -> x < (AM.at_ l j).page
 | 0,_,x,hx,j,_,_=>by simp [pagesTo] at hx
 | i + 1,hi,x,hx,j,hj,hij=>by
  simp only [pagesTo,List.mem_append] at hx
  rcases hx with hx | hx
  · exact pagesTo_lt l hc i (by omega) x hx j hj (by omega)
  · have hk:=AM.okAt_pages l i (AM.good_pages l hc i (by omega))
    have h1:=(pagesN_mem _ _ _).1 hx
    have step : ∀ d,i + 1 + d < l.length -> (AM.at_ l i).page + (AM.at_ l i).pages <= (AM.at_ l (i + 1 + d)).page:=by
     intro d
     induction d with
     | zero=>intro h;exact next_ge l hc i h
     | succ d ih =>
      intro h
      have h2:=ih (by omega)
      have h3:=next_ge l hc (i + 1 + d) h
      have h4:=AM.okAt_pages l (i + 1 + d) (AM.good_pages l hc (i + 1 + d) (by omega))
      have e : i + 1 + (d + 1) = i + 1 + d + 1:=by omega
      rw [e]
      omega
    have:=step (j - (i + 1)) (by omega)
    have e : i + 1 + (j - (i + 1)) = j:=by omega
    rw [e] at this
    omega
theorem pagesTo_rising (l : List AM.Ar) (hc : AM.checkN l = 0) : ∀ i,i <= l.length -> Rising (pagesTo l i)
 | 0,_=>by simp [pagesTo,Rising]
 | i + 1,hi=>by
  simp only [pagesTo]
  unfold Rising
  rw [List.pairwise_append]
  refine ⟨pagesTo_rising l hc i (by omega),pagesN_rising _ _,fun x hx y hy=>?_⟩
  have h1:=pagesTo_lt l hc i (by omega) x hx i (by omega) (Nat.le_refl _)
  have h2:=(pagesN_mem _ _ _).1 hy
  omega
theorem pagesTo_length (l : List AM.Ar) (hc : AM.checkN l = 0) : ∀ i,i <= l.length -> ((pagesTo l i).length : Int) = AM.sumTo l i
 | 0,_=>rfl
 | i + 1,hi=>by
  have ih:=pagesTo_length l hc i (by omega)
  have hk:=AM.okAt_pages l i (AM.good_pages l hc i (by omega))
  simp only [pagesTo,AM.sumTo,List.length_append,pagesN_length]
  omega
theorem pagesTo_mem (l : List AM.Ar) (x : Int) : ∀ i,x ∈ pagesTo l i ↔ ∃ k,k < i /\ AM.hit (AM.at_ l k) x = true
 | 0=>by simp [pagesTo]
 | i + 1=>by
  simp only [pagesTo,List.mem_append]
  rw [pagesTo_mem l x i,pagesN_mem]
  constructor
  · rintro (⟨k,hk,h⟩ | h)
    · exact ⟨k,by omega,h⟩
    · exact ⟨i,by omega,by unfold AM.hit AM.Ar.last0;exact decide_eq_true ⟨h.1,by omega⟩⟩
  · rintro ⟨k,hk,h⟩
    by_cases e : k = i
    · subst e
      right
      unfold AM.hit AM.Ar.last0 at h
      have:=of_decide_eq_true h
      omega
    · exact .inl ⟨k,by omega,h⟩
theorem rising_tail {x : Int} {L : List Int} (h : Rising (x :: L)) : Rising L /\ ∀ z ∈ L,x < z:=⟨(List.pairwise_cons.1 h).2,(List.pairwise_cons.1 h).1⟩
theorem rising_len : ∀ (K L : List Int),Rising L -> Rising K -> (∀ z ∈ L,z ∈ K) -> L.length <= K.length
 | [],L,_,_,hm=>by
  cases L with
  | nil=>exact Nat.le_refl _
  | cons x L=>exact absurd (hm x List.mem_cons_self) (by simp)
 | y :: K,L,hL,hK,hm=>by
  cases L with
  | nil=>exact Nat.zero_le _
  | cons x L =>
   obtain ⟨hL1,hL2⟩:=rising_tail hL
   obtain ⟨hK1,hK2⟩:=rising_tail hK
   by_cases e : x = y
   · subst e
     have:=rising_len K L hL1 hK1 (fun z hz=>by
      have h1:=hL2 z hz
      rcases List.mem_cons.1 (hm z (List.mem_cons_of_mem _ hz)) with g | g
      · omega
      · exact g)
     simp only [List.length_cons]
     omega
   · have hx : x ∈ K:=by
      rcases List.mem_cons.1 (hm x List.mem_cons_self) with g | g
      · exact (e g).elim
      · exact g
     have hyx:=hK2 x hx
     have:=rising_len K (x :: L) hL hK1 (fun z hz=>by
      rcases List.mem_cons.1 hz with g | g
      · subst g;exact hx
      · have h1:=hL2 z g
        rcases List.mem_cons.1 (hm z hz) with q | q
        · omega
        · exact q)
     simp only [List.length_cons] at this ⊢
     omega
theorem rising_eq : ∀ (L K : List Int),Rising L -> Rising K -> (∀ z ∈ L,z ∈ K) -> K.length <= L.length -> L = K
 | [],K,_,_,_,hl=>by
  cases K with
  | nil=>rfl
  | cons y K=>simp at hl
 | x :: L,K,hL,hK,hm,hl=>by
  cases K with
  | nil=>exact absurd (hm x List.mem_cons_self) (by simp)
  | cons y K =>
   obtain ⟨hL1,hL2⟩:=rising_tail hL
   obtain ⟨hK1,hK2⟩:=rising_tail hK
   have e : x = y:=by
    rcases List.mem_cons.1 (hm x List.mem_cons_self) with g | g
    · exact g
    · have hyx:=hK2 x g
      have:=rising_len K (x :: L) hL hK1 (fun z hz=>by
       rcases List.mem_cons.1 hz with q | q
       · subst q;exact g
       · have h1:=hL2 z q
         rcases List.mem_cons.1 (hm z hz) with r | r
         · omega
         · exact r)
      simp only [List.length_cons] at this hl
      omega
   subst e
   rw [rising_eq L K hL1 hK1 (fun z hz=>by
    have h1:=hL2 z hz
    rcases List.mem_cons.1 (hm z (List.mem_cons_of_mem _ hz)) with g | g
    · omega
    · exact g) (by simp only [List.length_cons] at hl;omega)]
theorem rise_rising (hs : List Sh) (h : riseB hs = true) : Rising (hs.map (·.page)):=by
 have step : ∀ i j,i < j -> j < hs.length -> (shAt hs i).page < (shAt hs j).page:=by
  intro i j hij hj
  induction j with
  | zero=>omega
  | succ j ih =>
   have h1:=(riseTo_ok hs hs.length h (j + 1) hj).2
   unfold riseAt at h1
   have e : (j + 1 == 0) = false:=by simp
   rw [e,Bool.false_or] at h1
   have h2:=of_decide_eq_true h1
   rw [Nat.add_sub_cancel] at h2
   by_cases e2 : i = j
   · subst e2;exact h2
   · have:=ih (by omega) (by omega)
     omega
 unfold Rising
 rw [List.pairwise_iff_getElem]
 intro i j hi hj hij
 rw [List.length_map] at hi hj
 have:=step i j hij hj
 unfold shAt at this
 rw [List.getD_eq_getElem?_getD,List.getD_eq_getElem?_getD,List.getElem?_eq_getElem hi,List.getElem?_eq_getElem hj] at this
 simpa using this
theorem rising_rise (hs : List Sh) (h : Rising (hs.map (·.page))) (k : Nat) (hk : k < hs.length) : riseAt hs k = true:=by
 unfold riseAt
 by_cases e : k = 0
 · subst e;rfl
 · have e2 : (k == 0) = false:=by simpa using e
   rw [e2,Bool.false_or]
   unfold Rising at h
   rw [List.pairwise_iff_getElem] at h
   have:=h (k - 1) k (by rw [List.length_map];omega) (by rw [List.length_map];exact hk) (by omega)
   refine decide_eq_true ?_
   unfold shAt
   rw [List.getD_eq_getElem?_getD,List.getD_eq_getElem?_getD,List.getElem?_eq_getElem (by omega : k - 1 < hs.length),List.getElem?_eq_getElem hk]
   simpa using this
theorem find_hit (l : List AM.Ar) (p : Int) (k : Nat) (hk : k < l.length) (h : AM.hit (AM.at_ l k) p = true) : ∃ j,j < l.length /\ AM.findFrom l p = (AM.at_ l j,true):=by
 induction k using Nat.strongRecOn with
 | _ k ih =>
  by_cases g : ∃ j,j < k /\ AM.hit (AM.at_ l j) p = true
  · obtain ⟨j,hj,hj2⟩:=g
    exact ih j hj (by omega) hj2
  · exact ⟨k,hk,AM.findFrom_at l p k hk (fun i hi=>by
     cases q : AM.hit (AM.at_ l i) p
     · rfl
     · exact (g ⟨i,hi,q⟩).elim) h⟩
theorem found_hit (l : List AM.Ar) (p : Int) (h : (AM.findFrom l p).2 = true) : ∃ k,k < l.length /\ AM.hit (AM.at_ l k) p = true:=by
 by_cases e : ∃ k,k < l.length /\ AM.hit (AM.at_ l k) p = true
 · exact e
 · rw [AM.findFrom_none l p (fun i hi=>by
    cases q : AM.hit (AM.at_ l i) p
    · rfl
    · exact (e ⟨i,hi,q⟩).elim)] at h
   cases h
theorem at_mem (hs : List Sh) (k : Nat) (h : k < hs.length) : (shAt hs k).page ∈ hs.map (·.page):=by
 unfold shAt
 rw [List.getD_eq_getElem?_getD,List.getElem?_eq_getElem h]
 exact List.mem_map_of_mem (List.getElem_mem h)
theorem mem_at (hs : List Sh) (x : Int) (h : x ∈ hs.map (·.page)) : ∃ k,k < hs.length /\ (shAt hs k).page = x:=by
 obtain ⟨s,hs1,rfl⟩:=List.mem_map.1 h
 obtain ⟨k,hk,e⟩:=List.getElem_of_mem hs1
 refine ⟨k,hk,?_⟩
 unfold shAt
 rw [List.getD_eq_getElem?_getD,List.getElem?_eq_getElem hk,<- e]
 rfl
theorem hit_one (l : List AM.Ar) (hc : AM.checkN l = 0) (p : Int) (j k : Nat) (hj : j < l.length) (hk : k < l.length) (h1 : AM.hit (AM.at_ l j) p = true) (h2 : AM.hit (AM.at_ l k) p = true) : j = k:=by
 have key : ∀ j k,j < k -> k < l.length -> AM.hit (AM.at_ l j) p = true -> AM.hit (AM.at_ l k) p = true -> False:=by
  intro j k hjk hk h1 h2
  have hm : p ∈ pagesTo l k:=(pagesTo_mem l p k).2 ⟨j,hjk,h1⟩
  have:=pagesTo_lt l hc k (by omega) p hm k hk (Nat.le_refl _)
  unfold AM.hit at h2
  have:=of_decide_eq_true h2
  omega
 rcases Nat.lt_trichotomy j k with g | g | g
 · exact (key j k g hk h1 h2).elim
 · exact g
 · exact (key k j g hj h2 h1).elim
theorem look_same (l : List AM.Ar) (hs : List Sh) (hc : AM.checkN l = 0) :
  (!anyZeroB l && (forEachB l hs && sheetsB hs)) = (decide ((hs.length : Int) = AM.sumTo l l.length) && (riseB hs && inTo l hs hs.length)):=by
 rw [Bool.eq_iff_iff]
 simp only [Bool.and_eq_true,Bool.not_eq_true',decide_eq_true_eq]
 constructor
 · rintro ⟨hz,he,hsh⟩
   have he' : hs.map (·.page) = pagesOf l:=of_decide_eq_true he
   have hlen:=congrArg List.length he'
   rw [List.length_map] at hlen
   have hr : Rising (hs.map (·.page)):=by rw [he'];exact pagesTo_rising l hc l.length (Nat.le_refl _)
   refine ⟨by rw [hlen];exact pagesTo_length l hc l.length (Nat.le_refl _),?_,?_⟩
   · exact riseTo_of hs hs.length (fun i hi=>⟨sheetsTo_ok hs hs.length hsh i hi,rising_rise hs hr i hi⟩)
   · refine inTo_of l hs hs.length (fun i hi=>?_)
     have hm : (shAt hs i).page ∈ pagesTo l l.length:=by
      have:=at_mem hs i hi
      rw [he'] at this
      exact this
     obtain ⟨k,hk,hh⟩:=(pagesTo_mem l _ _).1 hm
     obtain ⟨j,hj,e⟩:=find_hit l _ k hk hh
     unfold inAt
     rw [e]
     simp [zero_none l l.length hz j hj]
 · rintro ⟨hlen,hr,hin⟩
   have hsub : ∀ z ∈ hs.map (·.page),z ∈ pagesOf l:=fun z hz=>by
    obtain ⟨k,hk,rfl⟩:=mem_at hs z hz
    have:=inTo_ok l hs hs.length hin k hk
    unfold inAt at this
    simp only [Bool.and_eq_true] at this
    obtain ⟨j,hj,hh⟩:=found_hit l _ this.1
    exact (pagesTo_mem l _ _).2 ⟨j,hj,hh⟩
   have he' : hs.map (·.page) = pagesOf l:=rising_eq _ _ (rise_rising hs hr) (pagesTo_rising l hc l.length (Nat.le_refl _)) hsub (by
    have:=pagesTo_length l hc l.length (Nat.le_refl _)
    unfold pagesOf
    rw [List.length_map]
    omega)
   refine ⟨?_,decide_eq_true he',?_⟩
   · cases hz : anyZeroB l
     · rfl
     · exfalso
       have : ∃ i,i < l.length /\ (AM.at_ l i).zero = true:=by
        by_cases g : ∃ i,i < l.length /\ (AM.at_ l i).zero = true
        · exact g
        · have key : ∀ n,n <= l.length -> zeroTo l n = false:=by
           intro n
           induction n with
           | zero=>intro _;rfl
           | succ n ih =>
            intro hn
            simp only [zeroTo]
            rw [ih (by omega),Bool.false_or]
            cases q : (AM.at_ l n).zero
            · rfl
            · exact (g ⟨n,by omega,q⟩).elim
          unfold anyZeroB at hz
          rw [key l.length (Nat.le_refl _)] at hz
          cases hz
       obtain ⟨i,hi,hzi⟩:=this
       have hk:=AM.okAt_pages l i (AM.good_pages l hc i hi)
       have hh : AM.hit (AM.at_ l i) (AM.at_ l i).page = true:=by
        unfold AM.hit AM.Ar.last0
        exact decide_eq_true ⟨Int.le_refl _,by omega⟩
       have hm : (AM.at_ l i).page ∈ hs.map (·.page):=by
        rw [he']
        exact (pagesTo_mem l _ _).2 ⟨i,hi,hh⟩
       obtain ⟨k,hk1,hk2⟩:=mem_at hs _ hm
       have hin2:=inTo_ok l hs hs.length hin k hk1
       unfold inAt at hin2
       rw [hk2] at hin2
       obtain ⟨j,hj,e⟩:=find_hit l _ i hi hh
       have hj2 : AM.hit (AM.at_ l j) (AM.at_ l i).page = true:=by
        obtain ⟨m,hm1,hm2⟩:=found_hit l (AM.at_ l i).page (by rw [e])
        have hmi:=hit_one l hc _ m i hm1 hi hm2 hh
        have : AM.findFrom l (AM.at_ l i).page = (AM.at_ l i,true):=by
         refine AM.findFrom_at l _ i hi (fun q hq=>?_) hh
         cases r : AM.hit (AM.at_ l q) (AM.at_ l i).page
         · rfl
         · have:=hit_one l hc _ q i (by omega) hi r hh
           omega
        rw [this] at e
        injection e with e1 _
        rw [<- e1]
        exact hh
       have:=hit_one l hc _ j i hj hi hj2 hh
       subst this
       rw [e,hzi] at hin2
       simp at hin2
   · have key : ∀ n,n <= hs.length -> sheetsTo hs n = true:=by
      intro n
      induction n with
      | zero=>intro _;rfl
      | succ n ih =>
       intro hn
       simp only [sheetsTo,Bool.and_eq_true]
       exact ⟨ih (by omega),(riseTo_ok hs hs.length hr n (by omega)).1⟩
     exact key hs.length (Nat.le_refl _)
theorem check_same (l : List AM.Ar) (hs : List Sh) (en : Int) : checkL l hs en = checkR l hs en:=by
 unfold checkL checkR
 by_cases hc : AM.checkN l = 0
 · rw [if_pos hc,if_pos hc]
   have h:=look_same l hs hc
   have e : (!anyZeroB l && (forEachB l hs && (sheetsB hs && entB l en))) = (decide ((hs.length : Int) = AM.sumTo l l.length) && (riseB hs && (inTo l hs hs.length && entB l en))):=by
    have a : (!anyZeroB l && (forEachB l hs && (sheetsB hs && entB l en))) = ((!anyZeroB l && (forEachB l hs && sheetsB hs)) && entB l en):=by
     cases anyZeroB l <;> cases forEachB l hs <;> cases sheetsB hs <;> rfl
    have b : (decide ((hs.length : Int) = AM.sumTo l l.length) && (riseB hs && (inTo l hs hs.length && entB l en))) = ((decide ((hs.length : Int) = AM.sumTo l l.length) && (riseB hs && inTo l hs hs.length)) && entB l en):=by
     cases decide ((hs.length : Int) = AM.sumTo l l.length) <;> cases riseB hs <;> cases inTo l hs hs.length <;> rfl
    rw [a,b,h]
   rw [e]
 · rw [if_neg hc,if_neg hc]
structure Ob where
 i : M.Im
 a : M.At
 base : Int
def ob0 : Ob:=⟨⟨⟨#[]⟩,[],[],[],[],0⟩,⟨none,0,none,0,none,0,none,0⟩,0⟩
def obAt (l : List Ob) (k : Nat) : Ob:=l.getD k ob0
def cellsO (o : Ob) : Array Value:=#[.string o.i.name,.slice o.a.an o.i.needs.length o.a.cn,.slice o.a.ag o.i.segs.length o.a.cg,.slice o.a.ay o.i.syms.length o.a.cy,.slice o.a.ar o.i.rels.length o.a.cr,.int .i64 o.i.entry,.int .i64 o.base]
def LieO (w : World) (b off : Nat) (l : List Ob) : Prop:=∀ k,k < l.length ->
 (w.cell? ⟨b,off + k * 7,none⟩ = some (.string (obAt l k).i.name) /\ w.cell? ⟨b,off + k * 7 + 1,none⟩ = some (.slice (obAt l k).a.an (obAt l k).i.needs.length (obAt l k).a.cn) /\
  w.cell? ⟨b,off + k * 7 + 2,none⟩ = some (.slice (obAt l k).a.ag (obAt l k).i.segs.length (obAt l k).a.cg) /\ w.cell? ⟨b,off + k * 7 + 3,none⟩ = some (.slice (obAt l k).a.ay (obAt l k).i.syms.length (obAt l k).a.cy) /\
  w.cell? ⟨b,off + k * 7 + 4,none⟩ = some (.slice (obAt l k).a.ar (obAt l k).i.rels.length (obAt l k).a.cr) /\ w.cell? ⟨b,off + k * 7 + 5,none⟩ = some (.int .i64 (obAt l k).i.entry) /\ w.cell? ⟨b,off + k * 7 + 6,none⟩ = some (.int .i64 (obAt l k).base)) /\ M.HasIm w (obAt l k).a (obAt l k).i
theorem lieO {w w' : World} {b off : Nat} {l : List Ob} (hb : Below w.heap.size w w') (hlt : b < w.heap.size) (h : LieO w b off l) : LieO w' b off l:=fun k hk=>by
 obtain ⟨⟨c0,c1,c2,c3,c4,c5,c6⟩,hi⟩:=h k hk
 exact ⟨⟨(M.below_cell hb hlt).trans c0,(M.below_cell hb hlt).trans c1,(M.below_cell hb hlt).trans c2,(M.below_cell hb hlt).trans c3,(M.below_cell hb hlt).trans c4,(M.below_cell hb hlt).trans c5,(M.below_cell hb hlt).trans c6⟩,hi.below hb⟩
def HasO (w : World) (ao : Option Addr) (l : List Ob) : Prop:=M.HasBy LieO w ao l
theorem HasO.below {w w' : World} {ao : Option Addr} {l : List Ob} (h : HasO w ao l) (hb : Below w.heap.size w w') : HasO w' ao l:=M.HasBy.below (lie:=LieO) (fun hb hlt h=>lieO hb hlt h) h hb
def lastSeg (i : M.Im) : M.Sg:=M.sgAt i.segs (i.segs.length - 1)
def endO (o : Ob) : Int:=o.base + (lastSeg o.i).page + (lastSeg o.i).pages
def addrO (o : Ob) (at' : Int) : Int:=o.base * 16 + at'
def protN (s : M.Sg) : Int:=if s.wr then (if s.ex then 3 else 1) else (if s.ex then 2 else 0)
theorem seg_bounds {i : M.Im} (hc : M.chkN i = 0) (k : Nat) (hk : k < i.segs.length) : 0 <= (M.sgAt i.segs k).page /\ 1 <= (M.sgAt i.segs k).pages /\ (M.sgAt i.segs k).page + (M.sgAt i.segs k).pages <= 255 /\ ((M.sgAt i.segs k).data.size : Int) <= (M.sgAt i.segs k).pages * 16:=by
 unfold M.chkN at hc
 split at hc
 · simp at hc
 · split at hc
   · simp at hc
   · split at hc
     · simp at hc
     · rename_i h
       have h' : M.rangesB i = true:=by simpa using h
       unfold M.rangesB at h'
       have:=M.all_at M.rangeB M.sg0 i.segs k hk h'
       unfold M.rangeB at this
       exact of_decide_eq_true this
theorem counts_of {i : M.Im} (hc : M.chkN i = 0) : 1 <= i.segs.length /\ i.segs.length <= 6 /\ i.needs.length <= 4 /\ i.syms.length <= 12 /\ i.rels.length <= 16:=by
 unfold M.chkN at hc
 split at hc
 · simp at hc
 · split at hc
   · simp at hc
   · rename_i h
     have h' : M.countsB i = true:=by simpa using h
     unfold M.countsB at h'
     exact of_decide_eq_true h'
theorem last_bounds {i : M.Im} (hc : M.chkN i = 0) : 0 <= (lastSeg i).page /\ 1 <= (lastSeg i).pages /\ (lastSeg i).page + (lastSeg i).pages <= 255:=by
 have h1:=counts_of hc
 have h2:=seg_bounds hc (i.segs.length - 1) (by omega)
 exact ⟨h2.1,h2.2.1,h2.2.2.1⟩
end LM
namespace LW
open Go.RowKit
open W (hideC)
set_option maxHeartbeats 1000000 in
theorem end_any (o : LM.Ob) (w : World) (h : M.HasIm w o.a o.i) (hc : M.chkN o.i = 0) (h0 : 0 <= o.base) (h1 : o.base <= 100000) :
  Calls Tryz.prog 101 #[.agg (LM.cellsO o)] w fun e w'=>e = .returned (.int .i64 (LM.endO o)) /\ Below w.heap.size w w':=by
 have hl:=LM.last_bounds hc
 have hn:=LM.counts_of hc
 have HS:=h.segs
 obtain ⟨⟨nm,ns,gs,ys,rs,en⟩,⟨an,cn,ag,cg,ay,cy,ar,cr⟩,ba⟩:=o
 simp only [LM.cellsO]
 simp only at HS hn h0 h1
 obtain ⟨b,off,hag,hbl,hlie⟩:=HS (by omega)
 subst hag
 have E : Hid (LM.endO ⟨⟨nm,ns,gs,ys,rs,en⟩,⟨an,cn,some ⟨b,off,none⟩,cg,ay,cy,ar,cr⟩,ba⟩ = ba + (M.sgAt gs (gs.length - 1)).page + (M.sgAt gs (gs.length - 1)).pages):=rfl
 have hl' : 0 <= (M.sgAt gs (gs.length - 1)).page /\ 1 <= (M.sgAt gs (gs.length - 1)).pages /\ (M.sgAt gs (gs.length - 1)).page + (M.sgAt gs (gs.length - 1)).pages <= 255:=hl
 obtain ⟨c0,c1,c2,c3,c4⟩:=hlie (gs.length - 1) (by omega)
 rw [E.out]
 obtain ⟨s,hs⟩ : ∃ s,s = M.sgAt gs (gs.length - 1):=⟨_,rfl⟩
 rw [<- hs] at c0 c1 c2 c3 c4 hl'
 rw [<- hs]
 clear hs hl hlie HS h E
 obtain ⟨G,hG⟩ : ∃ G,G = gs.length:=⟨_,rfl⟩
 rw [<- hG] at c0 c1 c2 c3 c4 hn
 rw [<- hG]
 clear hG hc
 have hG1 : (1 : Int) <= (G : Int):=by omega
 have hG2 : 0 < G:=by omega
 have HB:=hideC ((Below.refl w.heap.size w).alloc (Nat.le_refl _) (.cells #[.string nm,.slice an ns.length cn,.slice (some ⟨b,off,none⟩) G cg,.slice ay ys.length cy,.slice ar rs.length cr,.int .i64 en,.int .i64 ba] 178))
 go_enter Tryz.func101,Tryz.ntmps101
 go_wp2
 go_ret
 exact ⟨rfl,HB.out.alloc HB.out.size _⟩
theorem address_any (o : LM.Ob) (at' : Int) (w : World) (h0 : 0 <= o.base) (h1 : o.base <= 100000) (h2 : 0 <= at') (h3 : at' <= 100000) :
  Calls Tryz.prog 104 #[.agg (LM.cellsO o),.int .i64 at'] w fun e w'=>e = .returned (.int .i64 (LM.addrO o at')) /\ Below w.heap.size w w':=by
 obtain ⟨⟨nm,ns,gs,ys,rs,en⟩,⟨an,cn,ag,cg,ay,cy,ar,cr⟩,ba⟩:=o
 simp only [LM.cellsO,LM.addrO]
 simp only at h0 h1
 go_enter Tryz.func104,Tryz.ntmps104
 go_wp2
 go_ret
 exact ⟨rfl,(Below.refl _ _).alloc (Nat.le_refl _) _⟩
theorem prot_any (s : M.Sg) (w : World) :
  Calls Tryz.prog 122 #[.agg #[.int .i64 s.page,.int .i64 s.pages,.string s.data,.bool s.wr,.bool s.ex]] w fun e w'=>e = .returned (.int .i64 (LM.protN s)) /\ Below w.heap.size w w':=by
 obtain ⟨pg,pn,dt,wr,ex⟩:=s
 have b1 : bits BinOp.or IntKind.i64 0 1 = 1:=by decide
 have b2 : bits BinOp.or IntKind.i64 0 2 = 2:=by decide
 have b3 : bits BinOp.or IntKind.i64 1 2 = 3:=by decide
 cases wr <;> cases ex
 all_goals
  go_enter Tryz.func122,Tryz.ntmps122
  go_wp2
  go_ret
  exact ⟨ret_int (by first | rfl | simp [LM.protN,b1,b2,b3]),(Below.refl _ _).alloc (Nat.le_refl _) _⟩
end LW
namespace W
open Go.RowKit
set_option maxHeartbeats 2000000 in
theorem rightCounts_any (i : M.Im) (a : M.At) (w : World) (hf : M.Fit i) : Calls Tryz.prog 131 #[.agg (M.cellsI a i)] w fun e w'=>e = .returned (.bool (M.countsB i)) /\ Below w.heap.size w w':=by
 obtain ⟨an,cn,ag,cg,ay,cy,ar,cr⟩:=a
 obtain ⟨nm,ns,gs,ys,rs,en⟩:=i
 obtain ⟨f1,f2,f3,f4,f5,f6,f7,f8,f9,f10⟩:=hf
 simp only at f2 f4 f6 f8
 unfold M.Short at f2 f4 f6 f8
 simp only [M.cellsI,M.countsB]
 have HB0 : ∀ o,Hid (Below w.heap.size w (w.alloc o)):=fun o=>(Below.refl w.heap.size w).alloc (Nat.le_refl _) o
 obtain ⟨r,hr⟩ : ∃ r,r = decide (1 <= gs.length /\ gs.length <= 6 /\ ns.length <= 4 /\ ys.length <= 12 /\ rs.length <= 16):=⟨_,rfl⟩
 rw [<- hr]
 have HR:=hideC hr
 clear hr f1 f3 f5 f7 f9 f10
 obtain ⟨ln,hln⟩ : ∃ n,n = ns.length:=⟨_,rfl⟩
 obtain ⟨lg,hlg⟩ : ∃ n,n = gs.length:=⟨_,rfl⟩
 obtain ⟨ly,hly⟩ : ∃ n,n = ys.length:=⟨_,rfl⟩
 obtain ⟨lr,hlr⟩ : ∃ n,n = rs.length:=⟨_,rfl⟩
 rw [<- hln,<- hlg,<- hly,<- hlr] at HR
 rw [<- hln,<- hlg,<- hly,<- hlr]
 rw [<- hln] at f2
 rw [<- hlg] at f4
 rw [<- hly] at f6
 rw [<- hlr] at f8
 clear hln hlg hly hlr
 by_cases d1 : 1 <= (lg : Int)
 · by_cases d2 : (lg : Int) <= 6
   · by_cases d3 : (ln : Int) <= 4
     · by_cases d4 : (ly : Int) <= 12
       · by_cases d5 : (lr : Int) <= 16
         · have e : r = true:=by rw [HR.out];exact decide_eq_true (by omega)
           subst e
           have q1 : 1 <= lg:=by omega
           have q2 : lg <= 6:=by omega
           have q3 : ln <= 4:=by omega
           have q4 : ly <= 12:=by omega
           have q5 : lr <= 16:=by omega
           go_enter Tryz.func131,Tryz.ntmps131
           go_wp2
           go_ret
           exact ⟨rfl,(HB0 _).out⟩
         · have e : r = false:=by rw [HR.out];exact decide_eq_false (by omega)
           subst e
           have q1 : 1 <= lg:=by omega
           have q2 : lg <= 6:=by omega
           have q3 : ln <= 4:=by omega
           have q4 : ly <= 12:=by omega
           have q5 : decide ((lr : Int) <= 16) = false:=decide_eq_false d5
           have q6 : decide (lr <= 16) = false:=decide_eq_false (by omega)
           have q7 : ¬ lr <= 16:=by omega
           go_enter Tryz.func131,Tryz.ntmps131
           go_wp2
           go_ret
           exact ⟨rfl,(HB0 _).out⟩
       · have e : r = false:=by rw [HR.out];exact decide_eq_false (by omega)
         subst e
         have q1 : 1 <= lg:=by omega
         have q2 : lg <= 6:=by omega
         have q3 : ln <= 4:=by omega
         have q4 : decide ((ly : Int) <= 12) = false:=decide_eq_false d4
         have q6 : decide (ly <= 12) = false:=decide_eq_false (by omega)
         have q7 : ¬ ly <= 12:=by omega
         go_enter Tryz.func131,Tryz.ntmps131
         go_wp2
         go_ret
         exact ⟨rfl,(HB0 _).out⟩
     · have e : r = false:=by rw [HR.out];exact decide_eq_false (by omega)
       subst e
       have q1 : 1 <= lg:=by omega
       have q2 : lg <= 6:=by omega
       have q4 : decide ((ln : Int) <= 4) = false:=decide_eq_false d3
       have q6 : decide (ln <= 4) = false:=decide_eq_false (by omega)
       have q7 : ¬ ln <= 4:=by omega
       go_enter Tryz.func131,Tryz.ntmps131
       go_wp2
       go_ret
       exact ⟨rfl,(HB0 _).out⟩
   · have e : r = false:=by rw [HR.out];exact decide_eq_false (by omega)
     subst e
     have q1 : 1 <= lg:=by omega
     have q4 : decide ((lg : Int) <= 6) = false:=decide_eq_false d2
     have q6 : decide (lg <= 6) = false:=decide_eq_false (by omega)
     have q7 : ¬ lg <= 6:=by omega
     go_enter Tryz.func131,Tryz.ntmps131
     go_wp2
     go_ret
     exact ⟨rfl,(HB0 _).out⟩
 · have e : r = false:=by rw [HR.out];exact decide_eq_false (by omega)
   subst e
   have q4 : decide ((1 : Int) <= (lg : Int)) = false:=decide_eq_false d1
   obtain rfl : lg = 0:=by omega
   go_enter Tryz.func131,Tryz.ntmps131
   go_wp2
   go_ret
   exact ⟨rfl,(HB0 _).out⟩
set_option maxHeartbeats 4000000 in
theorem rightRanges_any (l : List M.Sg) (ao : Option Addr) (cap : Nat) (w : World) (h : M.HasBy M.LieG w ao l) (hn : M.Short l.length) (hf : ∀ k,k < l.length -> M.FitG (M.sgAt l k)) :
  Calls Tryz.prog 132 #[.slice ao l.length cap] w fun e w'=>e = .returned (.bool (l.all M.rangeB)) /\ Below w.heap.size w w':=by
 unfold M.Short at hn
 have H:=hideC h
 have F:=hideC hf
 clear h hf
 go_enter Tryz.func132,Tryz.ntmps132
 go_wp2
 go_loopw [7] (fun i wr=>∃ k : Nat,k <= l.length /\ i = .int .i64 k /\ (∀ j,j < k -> M.rangeB (M.sgAt l j) = true) /\ Below w.heap.size w wr) (fun i _=>l.length - (intOf i).toNat)
 case atStart=>exact ⟨0,by omega,rfl,fun j h=>by omega,Below.refl _ _⟩
 case round =>
  obtain ⟨k,hk,rfl,hall,hb⟩:=hrel
  have HA:=hideC hall
  have HB:=hideC hb
  clear hall
  by_cases hlt : k < l.length
  · obtain ⟨b,off,hao,hbl,hl⟩:=H.out (by omega)
    subst hao
    obtain ⟨c0,c1,c2,c3,c4⟩:=M.lieG hb hbl hl k hlt
    obtain ⟨g1,g2,g3⟩:=F.out k hlt
    obtain ⟨s,hs⟩ : ∃ s,s = M.sgAt l k:=⟨_,rfl⟩
    rw [<- hs] at c0 c1 c2 c3 c4 g1 g2 g3
    have HS:=hideC hs
    clear hs hb hl
    obtain ⟨p,n,d,x,y⟩:=s
    simp only at c0 c1 c2 c3 c4 g1 g2 g3
    unfold M.I64 at g1 g2
    unfold M.Short at g3
    have hml : d.size <= maxLen:=by unfold maxLen;omega
    have hli : (k : Int) < (l.length : Int):=by omega
    have hbad : Hid (¬ (0 <= p /\ 1 <= n /\ p + n <= 255 /\ (d.size : Int) <= n * 16) -> l.all M.rangeB = false):=fun hx =>
     M.all_false M.rangeB M.sg0 l k hlt (by show M.rangeB (M.sgAt l k) = false;rw [<- HS.out];exact decide_eq_false hx)
    by_cases d1 : 0 <= p
    · have d1' : ¬ p < 0:=by omega
      by_cases d2 : 1 <= n
      · have d2' : ¬ n < 1:=by omega
        by_cases d3 : p + n <= 255
        · have d3' : ¬ 255 - p < n:=by omega
          by_cases d4 : (d.size : Int) <= n * 16
          · have d4' : ¬ n * 16 < (d.size : Int):=by omega
            have hgood : Hid (M.rangeB ⟨p,n,d,x,y⟩ = true):=decide_eq_true ⟨d1,d2,d3,d4⟩
            go_wp2
            go_roundw
            case rel=>exact ⟨k + 1,by omega,by go_num,fun j h=>if e : j = k then by rw [e,<- HS.out];exact hgood.out else HA.out j (by omega),HB.out.alloc HB.out.size _⟩
            case measure=>simp [intOf];omega
          · have d4' : n * 16 < (d.size : Int):=by omega
            have HR:=hideC (hbad.out (by omega))
            go_wp2
            go_ret
            exact ⟨ret_bool HR.out.symm,HB.out.alloc HB.out.size _⟩
        · have d3' : 255 - p < n:=by omega
          have HR:=hideC (hbad.out (by omega))
          go_wp2
          go_ret
          exact ⟨ret_bool HR.out.symm,HB.out.alloc HB.out.size _⟩
      · have d2' : n < 1:=by omega
        have HR:=hideC (hbad.out (by omega))
        go_wp2
        go_ret
        exact ⟨ret_bool HR.out.symm,HB.out.alloc HB.out.size _⟩
    · have d1' : p < 0:=by omega
      have HR:=hideC (hbad.out (by omega))
      go_wp2
      go_ret
      exact ⟨ret_bool HR.out.symm,HB.out.alloc HB.out.size _⟩
  · obtain rfl : k = l.length:=by omega
    have HR:=hideC (M.all_true M.rangeB M.sg0 l (fun j hj=>HA.out j hj))
    clear hb
    go_wp2
    go_ret
    exact ⟨ret_bool HR.out.symm,HB.out⟩
end W
end Go.Proofs.YtkdigjpejnebkaaGreat
