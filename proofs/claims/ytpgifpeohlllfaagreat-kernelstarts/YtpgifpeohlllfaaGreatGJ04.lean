import Derived.Test.YtpgifpeohlllfaaGreatGJ03
import Derived.Test.YtpgifpeohlllfaaGreatGJ00
set_option maxHeartbeats 20000000
set_option linter.unusedVariables false
set_option maxRecDepth 100000
set_option linter.unusedSimpArgs false
namespace Go.Proofs.YtpgifpeohlllfaaGreat
namespace LM
open Go.RowKit
def riseAt (hs : List Sh) (k : Nat) : Bool:=k == 0 || decide ((shAt hs (k - 1)).page < (shAt hs k).page)
def riseTo (hs : List Sh) : Nat -> Bool
 | 0=>true
 | k + 1=>riseTo hs k && (sheetB (shAt hs k) && riseAt hs k)
def riseB (hs : List Sh) : Bool:=riseTo hs hs.length
theorem riseTo_false (l : List Sh) : ∀ (k n : Nat),k <= n -> riseTo l k = false -> riseTo l n = false
 | k, 0, h, hk => by obtain rfl : k = 0 := by omega
                     exact hk
 | k,n + 1,h,hk=>by
  by_cases e : k = n + 1
  · subst e;exact hk
  · simp [riseTo,riseTo_false l k n (by omega) hk]
theorem rise_bad (l : List Sh) (k : Nat) (hk : k < l.length) (h : (sheetB (shAt l k) && riseAt l k) = false) : riseB l = false:=riseTo_false l (k + 1) l.length (by omega) (by simp only [riseTo];rw [h,Bool.and_false])
theorem riseTo_ok (l : List Sh) : ∀ n,riseTo l n = true -> ∀ i,i < n -> sheetB (shAt l i) = true /\ riseAt l i = true
 | 0,_,i,hi=>by omega
 | n + 1,h,i,hi=>by
  simp only [riseTo,Bool.and_eq_true] at h
  by_cases e : i = n
  · subst e;exact h.2
  · exact riseTo_ok l n h.1 i (by omega)
theorem riseTo_of (l : List Sh) : ∀ n,(∀ i,i < n -> sheetB (shAt l i) = true /\ riseAt l i = true) -> riseTo l n = true
 | 0,_=>rfl
 | n + 1,h=>by
  simp only [riseTo,Bool.and_eq_true]
  exact ⟨riseTo_of l n (fun i hi=>h i (by omega)),h n (by omega)⟩
def inAt (l : List AM.Ar) (hs : List Sh) (k : Nat) : Bool:=(AM.findFrom l (shAt hs k).page).2 && !(AM.findFrom l (shAt hs k).page).1.zero
def inTo (l : List AM.Ar) (hs : List Sh) : Nat -> Bool
 | 0=>true
 | k + 1=>inTo l hs k && inAt l hs k
theorem inTo_false (l : List AM.Ar) (hs : List Sh) : ∀ (k n : Nat),k <= n -> inTo l hs k = false -> inTo l hs n = false
 | k, 0, h, hk => by obtain rfl : k = 0 := by omega
                     exact hk
 | k,n + 1,h,hk=>by
  by_cases e : k = n + 1
  · subst e;exact hk
  · simp [inTo,inTo_false l hs k n (by omega) hk]
theorem in_bad (l : List AM.Ar) (hs : List Sh) (k : Nat) (hk : k < hs.length) (h : inAt l hs k = false) : inTo l hs hs.length = false:=inTo_false l hs (k + 1) hs.length (by omega) (by simp only [inTo];rw [h,Bool.and_false])
theorem inTo_ok (l : List AM.Ar) (hs : List Sh) : ∀ n,inTo l hs n = true -> ∀ i,i < n -> inAt l hs i = true
 | 0,_,i,hi=>by omega
 | n + 1,h,i,hi=>by
  simp only [inTo,Bool.and_eq_true] at h
  by_cases e : i = n
  · subst e;exact h.2
  · exact inTo_ok l hs n h.1 i (by omega)
theorem inTo_of (l : List AM.Ar) (hs : List Sh) : ∀ n,(∀ i,i < n -> inAt l hs i = true) -> inTo l hs n = true
 | 0,_=>rfl
 | n + 1,h=>by
  simp only [inTo,Bool.and_eq_true]
  exact ⟨inTo_of l hs n (fun i hi=>h i (by omega)),h n (by omega)⟩
def checkR (l : List AM.Ar) (hs : List Sh) (en : Int) : Int:=if AM.checkN l = 0 then (if decide ((hs.length : Int) = AM.sumTo l l.length) && (riseB hs && (inTo l hs hs.length && entB l en)) then 0 else 1) else AM.checkN l
/-! the pages of areas that are right rise -/
def Rising (L : List Int) : Prop:=L.Pairwise (· < ·)
theorem pagesN_mem (a : AM.Ar) (n : Nat) (x : Int) : x ∈ pagesN a n ↔ a.page <= x /\ x < a.page + (n : Int):=by
 unfold pagesN
 rw [List.mem_map]
 constructor
 · rintro ⟨m,hm,rfl⟩
   have:=List.mem_range.1 hm
   omega
 · rintro ⟨h1,h2⟩
   exact ⟨(x - a.page).toNat,List.mem_range.2 (by omega),by omega⟩
theorem pagesN_rising (a : AM.Ar) : ∀ n,Rising (pagesN a n)
 | 0=>by simp [pagesN,Rising]
 | n + 1=>by
  rw [pagesN_succ]
  unfold Rising
  rw [List.pairwise_append]
  refine ⟨pagesN_rising a n,by simp,fun x hx y hy=>?_⟩
  have:=(pagesN_mem a n x).1 hx
  simp at hy
  omega
theorem pagesN_length (a : AM.Ar) (n : Nat) : (pagesN a n).length = n:=by simp [pagesN]
theorem next_ge (l : List AM.Ar) (hc : AM.checkN l = 0) (i : Nat) (hi : i + 1 < l.length) : (AM.at_ l i).page + (AM.at_ l i).pages <= (AM.at_ l (i + 1)).page:=by
 have h:=AM.good_pages l hc (i + 1) hi
 simp only [AM.okAt,Bool.and_eq_true,Nat.add_sub_cancel] at h
 have h2:=h.2
 have e : (i + 1 == 0) = false:=by simp
 rw [e,Bool.false_or] at h2
 unfold AM.followB AM.Ar.last0 at h2
 split at h2
 · omega
 · simp at h2
   omega
theorem pagesTo_lt (l : List AM.Ar) (hc : AM.checkN l = 0) : ∀ i,i <= l.length -> ∀ x ∈ pagesTo l i,∀ j,j < l.length -> i <= j -> x < (AM.at_ l j).page
 | 0,_,x,hx,j,_,_=>by simp [pagesTo] at hx
 | i + 1,hi,x,hx,j,hj,hij=>by
  simp only [pagesTo,List.mem_append] at hx
  rcases hx with hx | hx
  · exact pagesTo_lt l hc i (by omega) x hx j hj (by omega)
  · have hk:=AM.okAt_pages l i (AM.good_pages l hc i (by omega))
    have h1:=(pagesN_mem _ _ _).1 hx
    have step : ∀ d,i + 1 + d < l.length -> (AM.at_ l i).page + (AM.at_ l i).pages <= (AM.at_ l (i + 1 + d)).page:=by
     intro d
     induction d with
     | zero=>intro h;exact next_ge l hc i h
     | succ d ih =>
      intro h
      have h2:=ih (by omega)
      have h3:=next_ge l hc (i + 1 + d) h
      have h4:=AM.okAt_pages l (i + 1 + d) (AM.good_pages l hc (i + 1 + d) (by omega))
      have e : i + 1 + (d + 1) = i + 1 + d + 1:=by omega
      rw [e]
      omega
    have:=step (j - (i + 1)) (by omega)
    have e : i + 1 + (j - (i + 1)) = j:=by omega
    rw [e] at this
    omega
theorem pagesTo_rising (l : List AM.Ar) (hc : AM.checkN l = 0) : ∀ i,i <= l.length -> Rising (pagesTo l i)
 | 0,_=>by simp [pagesTo,Rising]
 | i + 1,hi=>by
  simp only [pagesTo]
  unfold Rising
  rw [List.pairwise_append]
  refine ⟨pagesTo_rising l hc i (by omega),pagesN_rising _ _,fun x hx y hy=>?_⟩
  have h1:=pagesTo_lt l hc i (by omega) x hx i (by omega) (Nat.le_refl _)
  have h2:=(pagesN_mem _ _ _).1 hy
  omega
theorem pagesTo_length (l : List AM.Ar) (hc : AM.checkN l = 0) : ∀ i,i <= l.length -> ((pagesTo l i).length : Int) = AM.sumTo l i
 | 0,_=>rfl
 | i + 1,hi=>by
  have ih:=pagesTo_length l hc i (by omega)
  have hk:=AM.okAt_pages l i (AM.good_pages l hc i (by omega))
  simp only [pagesTo,AM.sumTo,List.length_append,pagesN_length]
  omega
theorem pagesTo_mem (l : List AM.Ar) (x : Int) : ∀ i,x ∈ pagesTo l i ↔ ∃ k,k < i /\ AM.hit (AM.at_ l k) x = true
 | 0=>by simp [pagesTo]
 | i + 1=>by
  simp only [pagesTo,List.mem_append]
  rw [pagesTo_mem l x i,pagesN_mem]
  constructor
  · rintro (⟨k,hk,h⟩ | h)
    · exact ⟨k,by omega,h⟩
    · exact ⟨i,by omega,by unfold AM.hit AM.Ar.last0;exact decide_eq_true ⟨h.1,by omega⟩⟩
  · rintro ⟨k,hk,h⟩
    by_cases e : k = i
    · subst e
      right
      unfold AM.hit AM.Ar.last0 at h
      have:=of_decide_eq_true h
      omega
    · exact .inl ⟨k,by omega,h⟩
theorem rising_tail {x : Int} {L : List Int} (h : Rising (x :: L)) : Rising L /\ ∀ z ∈ L,x < z:=⟨(List.pairwise_cons.1 h).2,(List.pairwise_cons.1 h).1⟩
theorem rising_len : ∀ (K L : List Int),Rising L -> Rising K -> (∀ z ∈ L,z ∈ K) -> L.length <= K.length
 | [],L,_,_,hm=>by
  cases L with
  | nil=>exact Nat.le_refl _
  | cons x L=>exact absurd (hm x List.mem_cons_self) (by simp)
 | y :: K,L,hL,hK,hm=>by
  cases L with
  | nil=>exact Nat.zero_le _
  | cons x L =>
   obtain ⟨hL1,hL2⟩:=rising_tail hL
   obtain ⟨hK1,hK2⟩:=rising_tail hK
   by_cases e : x = y
   · subst e
     have:=rising_len K L hL1 hK1 (fun z hz=>by
      have h1:=hL2 z hz
      rcases List.mem_cons.1 (hm z (List.mem_cons_of_mem _ hz)) with g | g
      · omega
      · exact g)
     simp only [List.length_cons]
     omega
   · have hx : x ∈ K:=by
      rcases List.mem_cons.1 (hm x List.mem_cons_self) with g | g
      · exact (e g).elim
      · exact g
     have hyx:=hK2 x hx
     have:=rising_len K (x :: L) hL hK1 (fun z hz=>by
      rcases List.mem_cons.1 hz with g | g
      · subst g;exact hx
      · have h1:=hL2 z g
        rcases List.mem_cons.1 (hm z hz) with q | q
        · omega
        · exact q)
     simp only [List.length_cons] at this ⊢
     omega
theorem rising_eq : ∀ (L K : List Int),Rising L -> Rising K -> (∀ z ∈ L,z ∈ K) -> K.length <= L.length -> L = K
 | [],K,_,_,_,hl=>by
  cases K with
  | nil=>rfl
  | cons y K=>simp at hl
 | x :: L,K,hL,hK,hm,hl=>by
  cases K with
  | nil=>exact absurd (hm x List.mem_cons_self) (by simp)
  | cons y K =>
   obtain ⟨hL1,hL2⟩:=rising_tail hL
   obtain ⟨hK1,hK2⟩:=rising_tail hK
   have e : x = y:=by
    rcases List.mem_cons.1 (hm x List.mem_cons_self) with g | g
    · exact g
    · have hyx:=hK2 x g
      have:=rising_len K (x :: L) hL hK1 (fun z hz=>by
       rcases List.mem_cons.1 hz with q | q
       · subst q;exact g
       · have h1:=hL2 z q
         rcases List.mem_cons.1 (hm z hz) with r | r
         · omega
         · exact r)
      simp only [List.length_cons] at this hl
      omega
   subst e
   rw [rising_eq L K hL1 hK1 (fun z hz=>by
    have h1:=hL2 z hz
    rcases List.mem_cons.1 (hm z (List.mem_cons_of_mem _ hz)) with g | g
    · omega
    · exact g) (by simp only [List.length_cons] at hl;omega)]
theorem rise_rising (hs : List Sh) (h : riseB hs = true) : Rising (hs.map (·.page)):=by
 have step : ∀ i j,i < j -> j < hs.length -> (shAt hs i).page < (shAt hs j).page:=by
  intro i j hij hj
  induction j with
  | zero=>omega
  | succ j ih =>
   have h1:=(riseTo_ok hs hs.length h (j + 1) hj).2
   unfold riseAt at h1
   have e : (j + 1 == 0) = false:=by simp
   rw [e,Bool.false_or] at h1
   have h2:=of_decide_eq_true h1
   rw [Nat.add_sub_cancel] at h2
   by_cases e2 : i = j
   · subst e2;exact h2
   · have:=ih (by omega) (by omega)
     omega
 unfold Rising
 rw [List.pairwise_iff_getElem]
 intro i j hi hj hij
 rw [List.length_map] at hi hj
 have:=step i j hij hj
 unfold shAt at this
 rw [List.getD_eq_getElem?_getD,List.getD_eq_getElem?_getD,List.getElem?_eq_getElem hi,List.getElem?_eq_getElem hj] at this
 simpa using this
theorem rising_rise (hs : List Sh) (h : Rising (hs.map (·.page))) (k : Nat) (hk : k < hs.length) : riseAt hs k = true:=by
 unfold riseAt
 by_cases e : k = 0
 · subst e;rfl
 · have e2 : (k == 0) = false:=by simpa using e
   rw [e2,Bool.false_or]
   unfold Rising at h
   rw [List.pairwise_iff_getElem] at h
   have:=h (k - 1) k (by rw [List.length_map];omega) (by rw [List.length_map];exact hk) (by omega)
   refine decide_eq_true ?_
   unfold shAt
   rw [List.getD_eq_getElem?_getD,List.getD_eq_getElem?_getD,List.getElem?_eq_getElem (by omega : k - 1 < hs.length),List.getElem?_eq_getElem hk]
   simpa using this
theorem find_hit (l : List AM.Ar) (p : Int) (k : Nat) (hk : k < l.length) (h : AM.hit (AM.at_ l k) p = true) : ∃ j,j < l.length /\ AM.findFrom l p = (AM.at_ l j,true):=by
 induction k using Nat.strongRecOn with
 | _ k ih =>
  by_cases g : ∃ j,j < k /\ AM.hit (AM.at_ l j) p = true
  · obtain ⟨j,hj,hj2⟩:=g
    exact ih j hj (by omega) hj2
  · exact ⟨k,hk,AM.findFrom_at l p k hk (fun i hi=>by
     cases q : AM.hit (AM.at_ l i) p
     · rfl
     · exact (g ⟨i,hi,q⟩).elim) h⟩
theorem found_hit (l : List AM.Ar) (p : Int) (h : (AM.findFrom l p).2 = true) : ∃ k,k < l.length /\ AM.hit (AM.at_ l k) p = true:=by
 by_cases e : ∃ k,k < l.length /\ AM.hit (AM.at_ l k) p = true
 · exact e
 · rw [AM.findFrom_none l p (fun i hi=>by
    cases q : AM.hit (AM.at_ l i) p
    · rfl
    · exact (e ⟨i,hi,q⟩).elim)] at h
   cases h
theorem at_mem (hs : List Sh) (k : Nat) (h : k < hs.length) : (shAt hs k).page ∈ hs.map (·.page):=by
 unfold shAt
 rw [List.getD_eq_getElem?_getD,List.getElem?_eq_getElem h]
 exact List.mem_map_of_mem (List.getElem_mem h)
theorem mem_at (hs : List Sh) (x : Int) (h : x ∈ hs.map (·.page)) : ∃ k,k < hs.length /\ (shAt hs k).page = x:=by
 obtain ⟨s,hs1,rfl⟩:=List.mem_map.1 h
 obtain ⟨k,hk,e⟩:=List.getElem_of_mem hs1
 refine ⟨k,hk,?_⟩
 unfold shAt
 rw [List.getD_eq_getElem?_getD,List.getElem?_eq_getElem hk,<- e]
 rfl
theorem hit_one (l : List AM.Ar) (hc : AM.checkN l = 0) (p : Int) (j k : Nat) (hj : j < l.length) (hk : k < l.length) (h1 : AM.hit (AM.at_ l j) p = true) (h2 : AM.hit (AM.at_ l k) p = true) : j = k:=by
 have key : ∀ j k,j < k -> k < l.length -> AM.hit (AM.at_ l j) p = true -> AM.hit (AM.at_ l k) p = true -> False:=by
  intro j k hjk hk h1 h2
  have hm : p ∈ pagesTo l k:=(pagesTo_mem l p k).2 ⟨j,hjk,h1⟩
  have:=pagesTo_lt l hc k (by omega) p hm k hk (Nat.le_refl _)
  unfold AM.hit at h2
  have:=of_decide_eq_true h2
  omega
 rcases Nat.lt_trichotomy j k with g | g | g
 · exact (key j k g hk h1 h2).elim
 · exact g
 · exact (key k j g hj h2 h1).elim
theorem look_same (l : List AM.Ar) (hs : List Sh) (hc : AM.checkN l = 0) :
  (!anyZeroB l && (forEachB l hs && sheetsB hs)) = (decide ((hs.length : Int) = AM.sumTo l l.length) && (riseB hs && inTo l hs hs.length)):=by
 rw [Bool.eq_iff_iff]
 simp only [Bool.and_eq_true,Bool.not_eq_true',decide_eq_true_eq]
 constructor
 · rintro ⟨hz,he,hsh⟩
   have he' : hs.map (·.page) = pagesOf l:=of_decide_eq_true he
   have hlen:=congrArg List.length he'
   rw [List.length_map] at hlen
   have hr : Rising (hs.map (·.page)):=by rw [he'];exact pagesTo_rising l hc l.length (Nat.le_refl _)
   refine ⟨by rw [hlen];exact pagesTo_length l hc l.length (Nat.le_refl _),?_,?_⟩
   · exact riseTo_of hs hs.length (fun i hi=>⟨sheetsTo_ok hs hs.length hsh i hi,rising_rise hs hr i hi⟩)
   · refine inTo_of l hs hs.length (fun i hi=>?_)
     have hm : (shAt hs i).page ∈ pagesTo l l.length:=by
      have:=at_mem hs i hi
      rw [he'] at this
      exact this
     obtain ⟨k,hk,hh⟩:=(pagesTo_mem l _ _).1 hm
     obtain ⟨j,hj,e⟩:=find_hit l _ k hk hh
     unfold inAt
     rw [e]
     simp [zero_none l l.length hz j hj]
 · rintro ⟨hlen,hr,hin⟩
   have hsub : ∀ z ∈ hs.map (·.page),z ∈ pagesOf l:=fun z hz=>by
    obtain ⟨k,hk,rfl⟩:=mem_at hs z hz
    have:=inTo_ok l hs hs.length hin k hk
    unfold inAt at this
    simp only [Bool.and_eq_true] at this
    obtain ⟨j,hj,hh⟩:=found_hit l _ this.1
    exact (pagesTo_mem l _ _).2 ⟨j,hj,hh⟩
   have he' : hs.map (·.page) = pagesOf l:=rising_eq _ _ (rise_rising hs hr) (pagesTo_rising l hc l.length (Nat.le_refl _)) hsub (by
    have:=pagesTo_length l hc l.length (Nat.le_refl _)
    unfold pagesOf
    rw [List.length_map]
    omega)
   refine ⟨?_,decide_eq_true he',?_⟩
   · cases hz : anyZeroB l
     · rfl
     · exfalso
       have : ∃ i,i < l.length /\ (AM.at_ l i).zero = true:=by
        by_cases g : ∃ i,i < l.length /\ (AM.at_ l i).zero = true
        · exact g
        · have key : ∀ n,n <= l.length -> zeroTo l n = false:=by
           intro n
           induction n with
           | zero=>intro _;rfl
           | succ n ih =>
            intro hn
            simp only [zeroTo]
            rw [ih (by omega),Bool.false_or]
            cases q : (AM.at_ l n).zero
            · rfl
            · exact (g ⟨n,by omega,q⟩).elim
          unfold anyZeroB at hz
          rw [key l.length (Nat.le_refl _)] at hz
          cases hz
       obtain ⟨i,hi,hzi⟩:=this
       have hk:=AM.okAt_pages l i (AM.good_pages l hc i hi)
       have hh : AM.hit (AM.at_ l i) (AM.at_ l i).page = true:=by
        unfold AM.hit AM.Ar.last0
        exact decide_eq_true ⟨Int.le_refl _,by omega⟩
       have hm : (AM.at_ l i).page ∈ hs.map (·.page):=by
        rw [he']
        exact (pagesTo_mem l _ _).2 ⟨i,hi,hh⟩
       obtain ⟨k,hk1,hk2⟩:=mem_at hs _ hm
       have hin2:=inTo_ok l hs hs.length hin k hk1
       unfold inAt at hin2
       rw [hk2] at hin2
       obtain ⟨j,hj,e⟩:=find_hit l _ i hi hh
       have hj2 : AM.hit (AM.at_ l j) (AM.at_ l i).page = true:=by
        obtain ⟨m,hm1,hm2⟩:=found_hit l (AM.at_ l i).page (by rw [e])
        have hmi:=hit_one l hc _ m i hm1 hi hm2 hh
        have : AM.findFrom l (AM.at_ l i).page = (AM.at_ l i,true):=by
         refine AM.findFrom_at l _ i hi (fun q hq=>?_) hh
         cases r : AM.hit (AM.at_ l q) (AM.at_ l i).page
         · rfl
         · have:=hit_one l hc _ q i (by omega) hi r hh
           omega
        rw [this] at e
        injection e with e1 _
        rw [<- e1]
        exact hh
       have:=hit_one l hc _ j i hj hi hj2 hh
       subst this
       rw [e,hzi] at hin2
       simp at hin2
   · have key : ∀ n,n <= hs.length -> sheetsTo hs n = true:=by
      intro n
      induction n with
      | zero=>intro _;rfl
      | succ n ih =>
       intro hn
       simp only [sheetsTo,Bool.and_eq_true]
       exact ⟨ih (by omega),(riseTo_ok hs hs.length hr n (by omega)).1⟩
     exact key hs.length (Nat.le_refl _)
theorem check_same (l : List AM.Ar) (hs : List Sh) (en : Int) : checkL l hs en = checkR l hs en:=by
 unfold checkL checkR
 by_cases hc : AM.checkN l = 0
 · rw [if_pos hc,if_pos hc]
   have h:=look_same l hs hc
   have e : (!anyZeroB l && (forEachB l hs && (sheetsB hs && entB l en))) = (decide ((hs.length : Int) = AM.sumTo l l.length) && (riseB hs && (inTo l hs hs.length && entB l en))):=by
    have a : (!anyZeroB l && (forEachB l hs && (sheetsB hs && entB l en))) = ((!anyZeroB l && (forEachB l hs && sheetsB hs)) && entB l en):=by
     cases anyZeroB l <;> cases forEachB l hs <;> cases sheetsB hs <;> rfl
    have b : (decide ((hs.length : Int) = AM.sumTo l l.length) && (riseB hs && (inTo l hs hs.length && entB l en))) = ((decide ((hs.length : Int) = AM.sumTo l l.length) && (riseB hs && inTo l hs hs.length)) && entB l en):=by
     cases decide ((hs.length : Int) = AM.sumTo l l.length) <;> cases riseB hs <;> cases inTo l hs hs.length <;> rfl
    rw [a,b,h]
   rw [e]
 · rw [if_neg hc,if_neg hc]
end LM
namespace FM
open Go.RowKit
theorem sorted_le : ∀ (qs ps : List Int),ps.Pairwise (· < ·) -> qs.Pairwise (· < ·) -> (∀ x ∈ ps,x ∈ qs) -> ps.length <= qs.length
 | [],[],_,_,_=>Nat.le_refl _
 | [],p :: ps,_,_,h=>by cases h p List.mem_cons_self
 | q :: qs,[],_,_,_=>by simp
 | q :: qs,p :: ps,h1,h2,h=>by
  rw [List.pairwise_cons] at h1 h2
  by_cases e : p = q
  · subst e
    have:=sorted_le qs ps h1.2 h2.2 (fun x hx=>by
     rcases List.mem_cons.1 (h x (List.mem_cons_of_mem _ hx)) with g | g
     · have:=h1.1 x hx
       omega
     · exact g)
    simp only [List.length_cons]
    omega
  · have hp : p ∈ qs:=by
     rcases List.mem_cons.1 (h p List.mem_cons_self) with g | g
     · exact (e g).elim
     · exact g
    have hq:=h2.1 p hp
    have:=sorted_le qs (p :: ps) (List.pairwise_cons.2 h1) h2.2 (fun x hx=>by
     rcases List.mem_cons.1 (h x hx) with g | g
     · rcases List.mem_cons.1 hx with k | k
       · omega
       · have:=h1.1 x k
         omega
     · exact g)
    simp only [List.length_cons] at this ⊢
    omega
def run (p : Int) : Nat -> List Int
 | 0=>[]
 | n + 1=>p :: run (p + 1) n
theorem run_length (p : Int) : ∀ n,(run p n).length = n:=fun n=>by
 induction n generalizing p with
 | zero=>rfl
 | succ n ih=>show (run (p + 1) n).length + 1 = _;rw [ih]
theorem run_mem : ∀ (n : Nat) (p x : Int),x ∈ run p n ↔ p <= x /\ x < p + n
 | 0,p,x=>by constructor <;> intro h;cases h;omega
 | n + 1,p,x=>by
  show x ∈ p :: run (p + 1) n ↔ _
  rw [List.mem_cons,run_mem n (p + 1) x]
  omega
theorem run_sorted : ∀ (n : Nat) (p : Int),(run p n).Pairwise (· < ·)
 | 0,p=>List.Pairwise.nil
 | n + 1,p=>List.pairwise_cons.2 ⟨fun x hx=>by have:=(run_mem n (p + 1) x).1 hx;omega,run_sorted n (p + 1)⟩
def pagesOf : List AM.Ar -> List Int
 | []=>[]
 | a :: r=>run a.page a.pages.toNat ++ pagesOf r
theorem mem_pages : ∀ (l : List AM.Ar) (x : Int),x ∈ pagesOf l ↔ (AM.findFrom l x).2 = true
 | [],x=>by constructor <;> intro h <;> cases h
 | a :: r,x=>by
  show x ∈ run a.page a.pages.toNat ++ pagesOf r ↔ _
  rw [List.mem_append,run_mem,mem_pages r x]
  show _ ↔ (if AM.hit a x = true then (a,true) else AM.findFrom r x).2 = true
  by_cases c : AM.hit a x = true
  · have h6 : a.page <= x /\ x < a.page + a.pages:=of_decide_eq_true c
    rw [if_pos c]
    exact ⟨fun _=>rfl,fun _=>.inl (by omega)⟩
  · have h6 : ¬ (a.page <= x /\ x < a.page + a.pages):=fun g=>c (decide_eq_true g)
    rw [if_neg c]
    exact ⟨fun g=>by rcases g with g | g;omega;exact g,fun g=>.inr g⟩
def Asc : Int -> List AM.Ar -> Prop
 | _,[]=>True
 | lo,a :: r=>lo <= a.page /\ 1 <= a.pages /\ Asc (a.page + a.pages) r
theorem Asc.low : ∀ {l : List AM.Ar} {lo : Int},Asc lo l -> ∀ x ∈ pagesOf l,lo <= x
 | [],lo,h,x,hx=>by cases hx
 | a :: r,lo,h,x,hx=>by
  obtain ⟨h1,h2,h3⟩:=h
  rcases List.mem_append.1 hx with g | g
  · have:=(run_mem _ _ _).1 g
    omega
  · have:=h3.low x g
    omega
theorem Asc.sorted : ∀ {l : List AM.Ar} {lo : Int},Asc lo l -> (pagesOf l).Pairwise (· < ·)
 | [],lo,h=>List.Pairwise.nil
 | a :: r,lo,h=>by
  obtain ⟨h1,h2,h3⟩:=h
  show (run a.page a.pages.toNat ++ pagesOf r).Pairwise (· < ·)
  rw [List.pairwise_append]
  refine ⟨run_sorted _ _,h3.sorted,fun x hx y hy=>?_⟩
  have:=(run_mem _ _ _).1 hx
  have:=h3.low y hy
  omega
def Good (l : List AM.Ar) : Prop:=∀ i,i < l.length -> (1 <= (AM.at_ l i).page /\ 1 <= (AM.at_ l i).pages) /\ (0 < i -> (AM.at_ l (i - 1)).page + (AM.at_ l (i - 1)).pages <= (AM.at_ l i).page)
theorem Good.tail {a : AM.Ar} {r : List AM.Ar} (h : Good (a :: r)) : Good r:=fun i hi=>by
 have h1:=h (i + 1) (by simp;omega)
 refine ⟨h1.1,fun g=>?_⟩
 have h2:=h1.2 (by omega)
 obtain ⟨j,rfl⟩ : ∃ j,i = j + 1:=⟨i - 1,by omega⟩
 exact h2
theorem good_asc : ∀ (l : List AM.Ar) (lo : Int),Good l -> (∀ a r,l = a :: r -> lo <= a.page) -> Asc lo l
 | [],lo,h,_=>trivial
 | a :: r,lo,h,hlo=>by
  have h0:=(h 0 (by simp)).1
  refine ⟨hlo a r rfl,h0.2,good_asc r _ h.tail (fun b q e=>?_)⟩
  subst e
  exact (h 1 (by simp)).2 (by omega)
theorem good_of {l : List AM.Ar} (hc : AM.checkN l = 0) : Good l:=fun i hi=>by
 have h:=AM.good_pages l hc i hi
 have h1:=AM.okAt_pages l i h
 refine ⟨⟨h1.1,h1.2.1⟩,fun g=>?_⟩
 unfold AM.okAt at h
 simp only [Bool.and_eq_true,Bool.or_eq_true,beq_iff_eq] at h
 rcases h.2 with e | e
 · omega
 · unfold AM.followB at e
   by_cases c : (AM.at_ l i).page = (AM.at_ l (i - 1)).last0
   · unfold AM.Ar.last0 at c
     omega
   · rw [if_neg c] at e
     have:=of_decide_eq_true e
     unfold AM.Ar.last0 at this
     omega
theorem asc_of {l : List AM.Ar} (hc : AM.checkN l = 0) : Asc 1 l:=good_asc l 1 (good_of hc) (fun a r e=>by
 subst e
 exact ((good_of hc) 0 (by simp)).1.1)
theorem sum_cons (a : AM.Ar) (r : List AM.Ar) : ∀ k,AM.sumTo (a :: r) (k + 1) = a.pages + AM.sumTo r k
 | 0=>by show (0 : Int) + a.pages = a.pages + 0;omega
 | k + 1=>by
  show AM.sumTo (a :: r) (k + 1) + (AM.at_ (a :: r) (k + 1)).pages = a.pages + (AM.sumTo r k + (AM.at_ r k).pages)
  rw [sum_cons a r k]
  show _ + (AM.at_ r k).pages = _
  omega
theorem pages_length : ∀ {l : List AM.Ar} {lo : Int},Asc lo l -> ((pagesOf l).length : Int) = AM.sumTo l l.length
 | [],lo,h=>rfl
 | a :: r,lo,h=>by
  obtain ⟨h1,h2,h3⟩:=h
  show (((run a.page a.pages.toNat ++ pagesOf r).length : Nat) : Int) = AM.sumTo (a :: r) (r.length + 1)
  rw [sum_cons,List.length_append,run_length,<- pages_length h3]
  omega
theorem total_pages {l : List AM.Ar} (hc : AM.checkN l = 0) : AM.totalN l = ((pagesOf l).length : Int):=by
 unfold AM.totalN
 rw [if_pos hc,pages_length (asc_of hc)]
theorem found_mem {l : List AM.Ar} (hc : AM.checkN l = 0) (x : Int) : (AM.findN l x).2 = true ↔ x ∈ pagesOf l:=by
 rw [mem_pages]
 unfold AM.findN
 rw [if_pos hc]
end FM
namespace KM
open Go.RowKit
structure Fr where
 data : ByteArray
 refs : Int
 dirty : Bool
 seen : Bool
structure Sl where
 data : ByteArray
 refs : Int
structure En where
 page : Int
 kind : Int
 loc : Int
structure Sp where
 live : Bool
 areas : List AM.Ar
 ents : List En
structure Kn where
 sheets : List LM.Sh
 frames : List Fr
 slots : List Sl
 spaces : List Sp
 hand : Int
def fr0 : Fr:=⟨⟨#[]⟩,0,false,false⟩
def sl0 : Sl:=⟨⟨#[]⟩,0⟩
def en0 : En:=⟨0,0,0⟩
def sp0 : Sp:=⟨false,[],[]⟩
def frAt (l : List Fr) (i : Nat) : Fr:=l.getD i fr0
def slAt (l : List Sl) (i : Nat) : Sl:=l.getD i sl0
def enAt (l : List En) (i : Nat) : En:=l.getD i en0
def spAt (l : List Sp) (i : Nat) : Sp:=l.getD i sp0
theorem getD_mem {α : Type} {d : α} : ∀ {l : List α} {i : Nat},i < l.length -> l.getD i d ∈ l
 | [],i,h=>absurd h (Nat.not_lt_zero _)
 | a :: r,0,h=>List.mem_cons_self
 | a :: r,i + 1,h=>List.mem_cons_of_mem _ (getD_mem (l:=r) (Nat.lt_of_succ_lt_succ h))
theorem mem_getD {α : Type} (d : α) : ∀ {l : List α} {x : α},x ∈ l -> ∃ i,i < l.length /\ l.getD i d = x
 | a :: r,x,h=>by
  rcases List.mem_cons.1 h with rfl | h
  · exact ⟨0,Nat.zero_lt_succ _,rfl⟩
  · obtain ⟨i,hi,e⟩:=mem_getD d h
    exact ⟨i + 1,Nat.succ_lt_succ hi,e⟩
theorem getD_set_self {α : Type} (d x : α) : ∀ (l : List α) (i : Nat),i < l.length -> (l.set i x).getD i d = x
 | a :: r,0,_=>rfl
 | a :: r,i + 1,h=>getD_set_self d x r i (Nat.lt_of_succ_lt_succ h)
theorem getD_set_ne {α : Type} (d x : α) : ∀ (l : List α) (i j : Nat),i ≠ j -> (l.set i x).getD j d = l.getD j d
 | [],_,_,_=>rfl
 | a :: r,0,0,h=>absurd rfl h
 | a :: r,0,j + 1,_=>rfl
 | a :: r,i + 1,0,_=>rfl
 | a :: r,i + 1,j + 1,h=>getD_set_ne d x r i j (fun e=>h (by rw [e]))
def nameIn (s : Sp) (kd at_ : Int) : List (Int × Bool):=(s.ents.filter fun e=>decide (e.kind = kd /\ e.loc = at_)).map fun e=>(e.page,(AM.findN s.areas e.page).1.zero)
def names (ss : List Sp) (kd at_ : Int) : List (Int × Bool):=ss.flatMap fun s=>nameIn s kd at_
def sheetFor (hs : List LM.Sh) (p : Int) : Option LM.Sh:=hs.find? fun s=>decide (s.page = p)
def filled (hs : List LM.Sh) (p : Int) : ByteArray:=match sheetFor hs p with
 | some s=>LM.fillS s
 | none=>⟨#[]⟩
def zero16 : ByteArray:=⟨#[0,0,0,0,0,0,0,0,0,0,0,0,0,0,0,0]⟩
def fillK (hs : List LM.Sh) (p : Int) (z : Bool) : ByteArray:=if z then zero16 else filled hs p
def entOk (nf ns : Nat) (ar : List AM.Ar) (e : En) : Prop:=(AM.findN ar e.page).2 = true /\ ((e.kind = 1 /\ 0 <= e.loc /\ e.loc < nf) ∨ (e.kind = 2 /\ 0 <= e.loc /\ e.loc < ns))
structure SpR (hs : List LM.Sh) (nf ns : Nat) (s : Sp) : Prop where
 dead : s.live = false -> s.areas = [] /\ s.ents = []
 areas : AM.checkN s.areas = 0
 rise : (s.ents.map (·.page)).Pairwise (· < ·)
 ent : ∀ e ∈ s.ents,entOk nf ns s.areas e
 sheets : ∀ p,(AM.findN s.areas p).2 = true -> (AM.findN s.areas p).1.zero = false -> (sheetFor hs p).isSome = true
structure FrR (hs : List LM.Sh) (L : List (Int × Bool)) (f : Fr) : Prop where
 refs : f.refs = L.length
 zero : L = [] -> f = fr0
 one : ∀ x ∈ L,∀ y ∈ L,x = y
 size : L ≠ [] -> f.data.size = 16
 fill : f.dirty = false -> ∀ x ∈ L,f.data = fillK hs x.1 x.2
structure SlR (L : List (Int × Bool)) (s : Sl) : Prop where
 refs : s.refs = L.length
 zero : L = [] -> s = sl0
 one : ∀ x ∈ L,∀ y ∈ L,x = y
 size : L ≠ [] -> s.data.size = 16
def roomTo (l : List Sp) : Nat -> Int
 | 0=>0
 | k + 1=>roomTo l k + AM.totalN (spAt l k).areas
def room (l : List Sp) : Int:=roomTo l l.length
def counts (k : Kn) : Bool:=decide ((3 <= k.frames.length /\ k.frames.length <= 64) /\ k.slots.length <= 512 /\ (1 <= k.spaces.length /\ k.spaces.length <= 4) /\ k.sheets.length <= 255)
structure RightK (k : Kn) : Prop where
 counts : counts k = true
 rise : LM.riseB k.sheets = true
 hand : 0 <= k.hand /\ k.hand < k.frames.length
 each : ∀ s ∈ k.spaces,SpR k.sheets k.frames.length k.slots.length s
 room : room k.spaces <= k.slots.length
 frm : ∀ i : Nat,i < k.frames.length -> FrR k.sheets (names k.spaces 1 i) (frAt k.frames i)
 slt : ∀ i : Nat,i < k.slots.length -> SlR (names k.spaces 2 i) (slAt k.slots i)
theorem RightK.c {k : Kn} (h : RightK k) : (3 <= k.frames.length /\ k.frames.length <= 64) /\ k.slots.length <= 512 /\ (1 <= k.spaces.length /\ k.spaces.length <= 4) /\ k.sheets.length <= 255:=of_decide_eq_true h.counts
theorem names_nil (kd a : Int) : names [] kd a = []:=rfl
theorem names_cons (s : Sp) (r : List Sp) (kd a : Int) : names (s :: r) kd a = nameIn s kd a ++ names r kd a:=List.flatMap_cons
theorem names_append (l r : List Sp) (kd a : Int) : names (l ++ r) kd a = names l kd a ++ names r kd a:=List.flatMap_append
theorem mem_nameIn {s : Sp} {kd a : Int} {x : Int × Bool} : x ∈ nameIn s kd a ↔ ∃ e ∈ s.ents,e.kind = kd /\ e.loc = a /\ x = (e.page,(AM.findN s.areas e.page).1.zero):=by
 unfold nameIn
 simp only [List.mem_map,List.mem_filter,decide_eq_true_eq]
 exact ⟨fun ⟨e,⟨h1,h2,h3⟩,h4⟩=>⟨e,h1,h2,h3,h4.symm⟩,fun ⟨e,h1,h2,h3,h4⟩=>⟨e,⟨h1,h2,h3⟩,h4.symm⟩⟩
theorem mem_names {ss : List Sp} {kd a : Int} {x : Int × Bool} : x ∈ names ss kd a ↔ ∃ s ∈ ss,∃ e ∈ s.ents,e.kind = kd /\ e.loc = a /\ x = (e.page,(AM.findN s.areas e.page).1.zero):=by
 unfold names
 rw [List.mem_flatMap]
 exact ⟨fun ⟨s,hs,h⟩=>⟨s,hs,mem_nameIn.1 h⟩,fun ⟨s,hs,h⟩=>⟨s,hs,mem_nameIn.2 h⟩⟩
theorem names_set : ∀ (l : List Sp) (j : Nat) (s : Sp) (kd a : Int),j < l.length -> ∃ u v,names l kd a = u ++ (nameIn (spAt l j) kd a ++ v) /\ names (l.set j s) kd a = u ++ (nameIn s kd a ++ v)
 | x :: r,0,s,kd,a,_=>⟨[],names r kd a,names_cons x r kd a,names_cons s r kd a⟩
 | x :: r,j + 1,s,kd,a,h=>by
  obtain ⟨u,v,h1,h2⟩:=names_set r j s kd a (Nat.lt_of_succ_lt_succ h)
  refine ⟨nameIn x kd a ++ u,v,?_,?_⟩
  · rw [names_cons,h1,List.append_assoc];rfl
  · rw [List.set_cons_succ,names_cons,h2,List.append_assoc]
theorem names_map (f : Sp -> Sp) (kd a : Int) (kd' a' : Int) : ∀ (l : List Sp),(∀ s ∈ l,nameIn (f s) kd a = nameIn s kd' a') -> names (l.map f) kd a = names l kd' a'
 | [],_=>rfl
 | x :: r,h=>by
  rw [List.map_cons,names_cons,names_cons,h x List.mem_cons_self,names_map f kd a kd' a' r (fun s hs=>h s (List.mem_cons_of_mem _ hs))]
theorem names_none (f : Sp -> Sp) (kd a : Int) : ∀ (l : List Sp),(∀ s ∈ l,nameIn (f s) kd a = []) -> names (l.map f) kd a = []
 | [],_=>rfl
 | x :: r,h=>by
  rw [List.map_cons,names_cons,h x List.mem_cons_self,names_none f kd a r (fun s hs=>h s (List.mem_cons_of_mem _ hs))];rfl
theorem roomTo_congr (l m : List Sp) : ∀ k,(∀ i,i < k -> (spAt l i).areas = (spAt m i).areas) -> roomTo l k = roomTo m k
 | 0,_=>rfl
 | k + 1,h=>by rw [roomTo,roomTo,roomTo_congr l m k (fun i hi=>h i (Nat.lt_succ_of_lt hi)),h k (Nat.lt_succ_self k)]
def Rise (es : List En) : Prop:=(es.map (·.page)).Pairwise (· < ·)
def entOf (es : List En) (p : Int) : Option En:=es.find? fun e=>decide (e.page = p)
theorem rise_cons {a : En} {r : List En} (h : Rise (a :: r)) : Rise r /\ ∀ e ∈ r,a.page < e.page:=by
 have:=List.pairwise_cons.1 h
 exact ⟨this.2,fun e he=>this.1 _ (List.mem_map_of_mem he)⟩
theorem ent_iff : ∀ {es : List En} {p : Int} {e : En},Rise es -> (entOf es p = some e ↔ e ∈ es /\ e.page = p)
 | [],p,e,_=>by simp [entOf]
 | a :: r,p,e,h=>by
  have hr:=rise_cons h
  by_cases c : a.page = p
  · have : entOf (a :: r) p = some a:=by simp [entOf,c]
    rw [this]
    refine ⟨fun g=>by injection g with g;subst g;exact ⟨List.mem_cons_self,c⟩,fun ⟨g1,g2⟩=>?_⟩
    rcases List.mem_cons.1 g1 with rfl | g1
    · rfl
    · have:=hr.2 e g1;omega
  · have : entOf (a :: r) p = entOf r p:=by simp [entOf,c]
    rw [this,ent_iff hr.1]
    refine ⟨fun ⟨g1,g2⟩=>⟨List.mem_cons_of_mem _ g1,g2⟩,fun ⟨g1,g2⟩=>?_⟩
    rcases List.mem_cons.1 g1 with rfl | g1
    · exact absurd g2 c
    · exact ⟨g1,g2⟩
theorem ent_none {es : List En} {p : Int} : entOf es p = none ↔ ∀ e ∈ es,e.page ≠ p:=by
 unfold entOf
 rw [List.find?_eq_none]
 simp
def putE : List En -> En -> List En
 | [],e=>[e]
 | a :: r,e=>if a.page < e.page then a :: putE r e else if a.page = e.page then e :: r else e :: a :: r
theorem put_split : ∀ {es : List En} {e : En},Rise es -> ∃ pre post,es = pre ++ ((entOf es e.page).toList ++ post) /\ putE es e = pre ++ e :: post /\ (∀ x ∈ pre,x.page < e.page) /\ ∀ x ∈ post,e.page < x.page
 | [],e,_=>⟨[],[],rfl,rfl,by simp,by simp⟩
 | a :: r,e,h=>by
  have hr:=rise_cons h
  unfold putE
  by_cases c : a.page < e.page
  · obtain ⟨pre,post,h1,h2,h3,h4⟩:=put_split (es:=r) (e:=e) hr.1
    have : entOf (a :: r) e.page = entOf r e.page:=by simp [entOf,show ¬ a.page = e.page by omega]
    rw [if_pos c,this]
    refine ⟨a :: pre,post,by rw [List.cons_append,<- h1],by rw [h2];rfl,fun x hx=>?_,h4⟩
    rcases List.mem_cons.1 hx with rfl | hx
    · exact c
    · exact h3 x hx
  · rw [if_neg c]
    by_cases d : a.page = e.page
    · have : entOf (a :: r) e.page = some a:=by simp [entOf,d]
      rw [if_pos d,this]
      exact ⟨[],r,rfl,rfl,by simp,fun x hx=>by have:=hr.2 x hx;omega⟩
    · have : entOf (a :: r) e.page = none:=ent_none.2 fun x hx=>by
       rcases List.mem_cons.1 hx with rfl | hx
       · exact d
       · have:=hr.2 x hx;omega
      rw [if_neg d,this]
      refine ⟨[],a :: r,rfl,rfl,by simp,fun x hx=>?_⟩
      rcases List.mem_cons.1 hx with rfl | hx
      · omega
      · have:=hr.2 x hx;omega
theorem rise_mid {pre post : List En} {e : En} (hp : Rise pre) (hq : Rise post) (h1 : ∀ x ∈ pre,x.page < e.page) (h2 : ∀ x ∈ post,e.page < x.page) : Rise (pre ++ e :: post):=by
 unfold Rise at *
 rw [List.map_append,List.map_cons,List.pairwise_append,List.pairwise_cons]
 refine ⟨hp,⟨fun y hy=>?_,hq⟩,fun x hx y hy=>?_⟩
 · obtain ⟨z,hz,rfl⟩:=List.mem_map.1 hy
   exact h2 z hz
 · obtain ⟨z,hz,rfl⟩:=List.mem_map.1 hx
   rcases List.mem_cons.1 hy with rfl | hy
   · exact h1 z hz
   · obtain ⟨u,hu,rfl⟩:=List.mem_map.1 hy
     have:=h1 z hz;have:=h2 u hu;omega
theorem rise_parts {a b : List En} (h : Rise (a ++ b)) : Rise a /\ Rise b:=by
 unfold Rise at *
 rw [List.map_append,List.pairwise_append] at h
 exact ⟨h.1,h.2.1⟩
theorem put_rise {es : List En} {e : En} (h : Rise es) : Rise (putE es e):=by
 obtain ⟨pre,post,h1,h2,h3,h4⟩:=put_split (e:=e) h
 rw [h2]
 rw [h1] at h
 exact rise_mid (rise_parts h).1 (rise_parts (rise_parts h).2).2 h3 h4
def nm (ar : List AM.Ar) (kd a : Int) (es : List En) : List (Int × Bool):=(es.filter fun e=>decide (e.kind = kd /\ e.loc = a)).map fun e=>(e.page,(AM.findN ar e.page).1.zero)
theorem nameIn_nm (s : Sp) (kd a : Int) : nameIn s kd a = nm s.areas kd a s.ents:=rfl
theorem nm_append (ar : List AM.Ar) (kd a : Int) (l r : List En) : nm ar kd a (l ++ r) = nm ar kd a l ++ nm ar kd a r:=by unfold nm;rw [List.filter_append,List.map_append]
theorem nm_cons (ar : List AM.Ar) (kd a : Int) (e : En) (r : List En) : nm ar kd a (e :: r) = nm ar kd a [e] ++ nm ar kd a r:=nm_append ar kd a [e] r
theorem nm_yes (ar : List AM.Ar) {kd a : Int} {e : En} (h : e.kind = kd /\ e.loc = a) : nm ar kd a [e] = [(e.page,(AM.findN ar e.page).1.zero)]:=by simp [nm,h]
theorem nm_no (ar : List AM.Ar) {kd a : Int} {e : En} (h : ¬ (e.kind = kd /\ e.loc = a)) : nm ar kd a [e] = []:=by
 unfold nm
 rw [List.filter_cons_of_neg (by simpa using h)]
 rfl
theorem nm_mem {ar : List AM.Ar} {kd a : Int} {es : List En} {x : Int × Bool} : x ∈ nm ar kd a es ↔ ∃ e ∈ es,e.kind = kd /\ e.loc = a /\ x = (e.page,(AM.findN ar e.page).1.zero):=mem_nameIn (s:=⟨true,ar,es⟩)
theorem nm_nil_of {ar : List AM.Ar} {kd a : Int} {es : List En} (h : ∀ e ∈ es,¬ (e.kind = kd /\ e.loc = a)) : nm ar kd a es = []:=by
 refine List.eq_nil_iff_forall_not_mem.2 fun x hx=>?_
 obtain ⟨e,he,h1,h2,_⟩:=nm_mem.1 hx
 exact h e he ⟨h1,h2⟩
theorem spAt_mem {l : List Sp} {j : Nat} (h : j < l.length) : spAt l j ∈ l:=getD_mem h
theorem RightK.sp {k : Kn} (h : RightK k) {j : Nat} (hj : j < k.spaces.length) : SpR k.sheets k.frames.length k.slots.length (spAt k.spaces j):=h.each _ (spAt_mem hj)
theorem name_of {ss : List Sp} {j : Nat} (hj : j < ss.length) {e : En} (he : e ∈ (spAt ss j).ents) : (e.page,(AM.findN (spAt ss j).areas e.page).1.zero) ∈ names ss e.kind e.loc:=mem_names.2 ⟨_,spAt_mem hj,e,he,rfl,rfl,rfl⟩
theorem RightK.frame {k : Kn} (h : RightK k) {i : Nat} {f : Fr} (hf : FrR k.sheets (names k.spaces 1 i) f) : RightK { k with frames:=k.frames.set i f }:=by
 have hl : (k.frames.set i f).length = k.frames.length:=List.length_set
 refine ⟨?_,h.rise,by show 0 <= k.hand /\ k.hand < ((k.frames.set i f).length : Int);rw [hl];exact h.hand,?_,h.room,?_,h.slt⟩
 · have:=h.counts
   unfold KM.counts at this ⊢
   simp only [hl]
   exact this
 · show ∀ s ∈ k.spaces,SpR k.sheets (k.frames.set i f).length k.slots.length s
   rw [hl];exact h.each
 · intro n hn
   have hn' : n < k.frames.length:=by rw [<- hl];exact hn
   show FrR k.sheets (names k.spaces 1 n) ((k.frames.set i f).getD n fr0)
   by_cases c : i = n
   · subst c;rw [getD_set_self _ _ _ _ hn'];exact hf
   · rw [getD_set_ne _ _ _ _ _ c];exact h.frm n hn'
theorem RightK.turn {k : Kn} (h : RightK k) {x : Int} (hx : 0 <= x /\ x < k.frames.length) : RightK { k with hand:=x }:=⟨h.counts,h.rise,hx,h.each,h.room,h.frm,h.slt⟩
theorem FrR.seen {hs : List LM.Sh} {L : List (Int × Bool)} {f : Fr} (h : FrR hs L f) (b : Bool) (hL : L ≠ []) : FrR hs L { f with seen:=b }:=⟨h.refs,fun e=>absurd e hL,h.one,h.size,h.fill⟩
theorem FrR.ne {hs : List LM.Sh} {L : List (Int × Bool)} {f : Fr} (h : FrR hs L f) (hr : f.refs ≠ 0) : L ≠ []:=fun e=>hr (by rw [h.refs,e];rfl)
theorem FrR.nil {hs : List LM.Sh} {L : List (Int × Bool)} {f : Fr} (h : FrR hs L f) (hr : f.refs = 0) : L = []:=by
 have:=h.refs
 rw [hr] at this
 exact List.eq_nil_of_length_eq_zero (by omega)
theorem SlR.nil {L : List (Int × Bool)} {f : Sl} (h : SlR L f) (hr : f.refs = 0) : L = []:=by
 have:=h.refs
 rw [hr] at this
 exact List.eq_nil_of_length_eq_zero (by omega)
theorem FrR.none (hs : List LM.Sh) : FrR hs [] fr0:=⟨rfl,fun _=>rfl,by simp,fun h=>absurd rfl h,by simp⟩
theorem SlR.none : SlR [] sl0:=⟨rfl,fun _=>rfl,by simp,fun h=>absurd rfl h⟩
def lessF (f : Fr) : Fr:=if f.refs - 1 = 0 then fr0 else { f with refs:=f.refs - 1 }
def lessS (f : Sl) : Sl:=if f.refs - 1 = 0 then sl0 else { f with refs:=f.refs - 1 }
theorem FrR.less {hs : List LM.Sh} {X Y : List (Int × Bool)} {x : Int × Bool} {f : Fr} (h : FrR hs (X ++ x :: Y) f) : FrR hs (X ++ Y) (lessF f):=by
 have hr:=h.refs
 have hn : X ++ x :: Y ≠ []:=by simp
 have hm : ∀ y ∈ X ++ Y,y ∈ X ++ x :: Y:=fun y hy=>by
  rcases List.mem_append.1 hy with g | g
  · exact List.mem_append.2 (.inl g)
  · exact List.mem_append.2 (.inr (List.mem_cons_of_mem _ g))
 rw [List.length_append,List.length_cons] at hr
 unfold lessF
 by_cases c : f.refs - 1 = 0
 · rw [if_pos c]
   have : X ++ Y = []:=List.eq_nil_of_length_eq_zero (by rw [List.length_append];omega)
   rw [this]
   exact FrR.none hs
 · rw [if_neg c]
   refine ⟨?_,fun e=>?_,fun a ha b hb=>h.one a (hm a ha) b (hm b hb),fun _=>h.size hn,fun d y hy=>h.fill d y (hm y hy)⟩
   · show f.refs - 1 = _
     rw [List.length_append];omega
   · have:=congrArg List.length e
     rw [List.length_append] at this
     simp only [List.length_nil] at this
     omega
theorem SlR.less {X Y : List (Int × Bool)} {x : Int × Bool} {f : Sl} (h : SlR (X ++ x :: Y) f) : SlR (X ++ Y) (lessS f):=by
 have hr:=h.refs
 have hn : X ++ x :: Y ≠ []:=by simp
 have hm : ∀ y ∈ X ++ Y,y ∈ X ++ x :: Y:=fun y hy=>by
  rcases List.mem_append.1 hy with g | g
  · exact List.mem_append.2 (.inl g)
  · exact List.mem_append.2 (.inr (List.mem_cons_of_mem _ g))
 rw [List.length_append,List.length_cons] at hr
 unfold lessS
 by_cases c : f.refs - 1 = 0
 · rw [if_pos c]
   have : X ++ Y = []:=List.eq_nil_of_length_eq_zero (by rw [List.length_append];omega)
   rw [this]
   exact SlR.none
 · rw [if_neg c]
   refine ⟨?_,fun e=>?_,fun a ha b hb=>h.one a (hm a ha) b (hm b hb),fun _=>h.size hn⟩
   · show f.refs - 1 = _
     rw [List.length_append];omega
   · have:=congrArg List.length e
     rw [List.length_append] at this
     simp only [List.length_nil] at this
     omega
end KM
end Go.Proofs.YtpgifpeohlllfaaGreat
