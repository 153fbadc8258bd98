import Derived.Test.YtpgifpeohlllfaaGreatGI00
set_option maxHeartbeats 20000000
set_option linter.unusedVariables false
set_option maxRecDepth 100000
set_option linter.unusedSimpArgs false
namespace Go.Proofs.YtpgifpeohlllfaaGreat
namespace AM
open Go.RowKit
def look (l : List Ar) (n : Nat) : St:=let r:=findFrom l n;if r.2 then ⟨true,r.1.prot,r.1.zero⟩ else off
def lastOf (G : List Ar) : Ar:=at_ G (G.length - 1)
def okNext (G : List Ar) (a : Ar) : Bool:=pagesB a.page a.pages && protB a.prot && (G.length == 0 || followB (lastOf G) a)
theorem hit_mk (p n q : Int) (z : Bool) (x : Int) : hit ⟨p,n,q,z⟩ x = decide (p <= x /\ x < p + n):=rfl
theorem hit_iff (a : Ar) (x : Int) : hit a x = true ↔ a.page <= x /\ x < a.page + a.pages:=⟨fun h=>of_decide_eq_true h,fun h=>decide_eq_true h⟩
theorem lastOf_snoc (G : List Ar) (a : Ar) : lastOf (G ++ [a]) = a:=by simp [lastOf,at_]
theorem goodTo_append (G H : List Ar) : ∀ k,k <= G.length -> goodTo (G ++ H) k = goodTo G k
 | 0,_=>rfl
 | k + 1,h=>by
  simp only [goodTo,goodTo_append G H k (by omega)]
  congr 1
  unfold okAt
  rw [at_append_left G H k (by omega)]
  by_cases e : k = 0
  · subst e;rfl
  · rw [at_append_left G H (k - 1) (by omega)]
theorem good_snoc (G : List Ar) (a : Ar) : good (G ++ [a]) = (good G && okNext G a):=by
 unfold good
 rw [List.length_append]
 show goodTo (G ++ [a]) (G.length + 1) = _
 simp only [goodTo,goodTo_append G [a] G.length (Nat.le_refl _)]
 congr 1
 unfold okAt okNext lastOf
 rw [at_append_last]
 by_cases e : G.length = 0
 · simp [e]
 · rw [at_append_left G [a] (G.length - 1) (by omega)]
theorem findFrom_snoc : ∀ (G : List Ar) (a : Ar) (p : Int),findFrom (G ++ [a]) p = if (findFrom G p).2 then findFrom G p else if hit a p then (a,true) else (nil,false)
 | [],a,p=>by simp [findFrom]
 | b :: r,a,p=>by
  simp only [List.cons_append,findFrom]
  by_cases h : hit b p = true
  · simp [h]
  · simp [h,findFrom_snoc r a p]
theorem findFrom_miss : ∀ (G : List Ar) (p : Int),(findFrom G p).2 = false -> findFrom G p = (nil,false)
 | [],p,_=>rfl
 | b :: r,p,h=>by
  simp only [findFrom] at h ⊢
  by_cases c : hit b p = true
  · simp [c] at h
  · simp only [c] at h ⊢
    exact findFrom_miss r p h
theorem look_snoc (G : List Ar) (a : Ar) (n : Nat) : look (G ++ [a]) n = if (findFrom G n).2 then look G n else if hit a n then ⟨true,a.prot,a.zero⟩ else off:=by
 unfold look
 rw [findFrom_snoc]
 by_cases h : (findFrom G n).2 = true
 · simp [h]
 · simp only [h]
   by_cases c : hit a n = true
   · simp [c]
   · simp [c]
theorem good_bound : ∀ (m : Nat) (G : List Ar),G.length = m -> good G = true -> ∀ p : Int,(findFrom G p).2 = true -> 1 <= p /\ p < (lastOf G).last0
 | 0,G,hm,_,p,h=>by
  have e : G = []:=List.eq_nil_of_length_eq_zero hm
  subst e;simp [findFrom] at h
 | m + 1,G,hm,hg,p,h=>by
  rcases List.eq_nil_or_concat G with rfl | ⟨H,a,rfl⟩
  · simp at hm
  · rw [List.concat_eq_append] at *
    rw [good_snoc,Bool.and_eq_true] at hg
    obtain ⟨hgH,hok⟩:=hg
    rw [lastOf_snoc]
    simp only [okNext,Bool.and_eq_true,pagesB,decide_eq_true_eq] at hok
    obtain ⟨⟨hpa,_⟩,hfo⟩:=hok
    rw [findFrom_snoc] at h
    by_cases c : (findFrom H p).2 = true
    · have ih:=good_bound m H (by simpa using hm) hgH p c
      refine ⟨ih.1,?_⟩
      have hne : ¬ H.length = 0:=by
       intro e
       have e' : H = []:=List.eq_nil_of_length_eq_zero e
       subst e';simp [findFrom] at c
      simp only [beq_iff_eq,Bool.or_eq_true,hne,false_or] at hfo
      have hle : (lastOf H).last0 <= a.page:=by
       unfold followB at hfo
       split at hfo
       · omega
       · simp at hfo;omega
      unfold Ar.last0 at *
      omega
    · simp only [c] at h
      by_cases d : hit a p = true
      · simp only [hit,decide_eq_true_eq] at d
        unfold Ar.last0 at *
        omega
      · simp [d] at h
structure Fine (F : Nat -> St) : Prop where
 zero : (F 0).m = false
 none : ∀ n,(F n).m = false -> F n = off
 prot : ∀ n,0 <= (F n).p /\ (F n).p <= 3
theorem bump_snoc (H : List Ar) (a : Ar) : bump (H ++ [a]) = H ++ [⟨a.page,a.pages + 1,a.prot,a.zero⟩]:=by
 unfold bump
 have e : at_ (H ++ [a]) ((H ++ [a]).length - 1) = a:=lastOf_snoc H a
 rw [e]
 simp
structure GInv (F : Nat -> St) (k : Nat) (G : List Ar) : Prop where
 good : good G = true
 look : ∀ n : Nat,AM.look G n = if n < k then F n else off
 yes : (lastTo F k).m = true -> 0 < G.length /\ (lastOf G).last0 = k /\ (lastOf G).prot = (lastTo F k).p /\ (lastOf G).zero = (lastTo F k).z
 no : (lastTo F k).m = false -> G.length = 0 ∨ (lastOf G).last0 < k ∨ k = 0
theorem look_hit (G : List Ar) (n : Nat) (h : AM.look G n = off) : (findFrom G n).2 = false:=by
 unfold AM.look at h
 by_cases c : (findFrom G n).2 = true
 · simp only [c,if_true] at h
   have:=congrArg St.m h
   simp [off] at this
 · simpa using c
theorem gather_inv (F : Nat -> St) (hF : Fine F) : ∀ k,k <= 256 -> GInv F k (gatherTo F k)
 | 0,_=>⟨rfl,fun n=>rfl,fun h=>by simp [lastTo,off] at h,fun _=>.inl rfl⟩
 | k + 1,hk=>by
  have ih:=gather_inv F hF k (by omega)
  obtain ⟨G,hG⟩ : ∃ G,G = gatherTo F k:=⟨_,rfl⟩
  rw [<- hG] at ih
  simp only [gatherTo]
  rw [<- hG]
  by_cases hm : (F k).m = false
  · rw [if_pos hm]
    refine ⟨ih.good,fun n=>?_,fun h=>?_,fun _=>?_⟩
    · rw [ih.look n]
      by_cases h1 : n < k
      · rw [if_pos h1,if_pos (by omega)]
      · rw [if_neg h1]
        by_cases h2 : n < k + 1
        · obtain rfl : n = k:=by omega
          rw [if_pos h2,hF.none n hm]
        · rw [if_neg h2]
    · have : (F k).m = true:=h
      rw [hm] at this;cases this
    · by_cases hl : (lastTo F k).m = true
      · obtain ⟨h0,h1,_⟩:=ih.yes hl
        exact .inr (.inl (by rw [h1];omega))
      · rcases ih.no (by simpa using hl) with h | h | h
        · exact .inl h
        · exact .inr (.inl (by omega))
        · subst h
          have : G = []:=hG
          exact .inl (by rw [this];rfl)
  · have hm' : (F k).m = true:=by simpa using hm
    rw [if_neg hm]
    have hk1 : 1 <= k:=by
     by_cases e : k = 0
     · subst e;rw [hF.zero] at hm';cases hm'
     · omega
    have hmiss:=look_hit G k (by rw [ih.look k,if_neg (by omega)])
    by_cases he : stEq (F k) (lastTo F k) = true
    · rw [if_pos he]
      have hst:=stEq_eq _ _ he
      obtain ⟨h0,h1,h2,h3⟩:=ih.yes (by rw [<- hst];exact hm')
      rcases List.eq_nil_or_concat G with hnil | ⟨H,a,hH⟩
      · rw [hnil] at h0;simp at h0
      · rw [List.concat_eq_append] at hH
        rw [hH,lastOf_snoc] at h1 h2 h3
        have hg:=ih.good
        rw [hH,good_snoc,Bool.and_eq_true] at hg
        obtain ⟨hgH,hok⟩:=hg
        have hok':=hok
        simp only [okNext,Bool.and_eq_true,pagesB,decide_eq_true_eq] at hok'
        obtain ⟨⟨hpa,hpr⟩,hfo⟩:=hok'
        rw [hH,bump_snoc]
        unfold Ar.last0 at h1
        refine ⟨?_,fun n=>?_,fun _=>⟨by simp,?_,?_,?_⟩,fun h=>?_⟩
        · rw [good_snoc,hgH,Bool.true_and]
          simp only [okNext,Bool.and_eq_true,pagesB,decide_eq_true_eq]
          exact ⟨⟨⟨hpa.1,by omega,by omega⟩,hpr⟩,hfo⟩
        · have hl:=ih.look n
          rw [hH] at hl
          rw [look_snoc] at hl ⊢
          by_cases c : (findFrom H n).2 = true
          · rw [if_pos c] at hl ⊢
            rw [hl]
            have hb:=good_bound _ H rfl hgH n c
            have hle : (n : Int) < a.page + a.pages:=by
             have hne : ¬ H.length = 0:=by
              intro e
              have e' : H = []:=List.eq_nil_of_length_eq_zero e
              subst e';simp [findFrom] at c
             simp only [beq_iff_eq,Bool.or_eq_true,hne,false_or] at hfo
             have hle : (lastOf H).last0 <= a.page:=by
              unfold followB at hfo
              split at hfo
              · omega
              · simp at hfo;omega
             omega
            rw [if_pos (show n < k by omega),if_pos (show n < k + 1 by omega)]
          · rw [if_neg c] at hl ⊢
            by_cases d : n = k
            · subst d
              rw [if_pos (by rw [hit_mk];exact decide_eq_true (by omega)),if_pos (by omega)]
              show St.mk true a.prot a.zero = F n
              rw [h2,h3,<- hst,<- hm']
            · by_cases e : hit a n = true
              · rw [if_pos e] at hl
                have e2 : hit ⟨a.page,a.pages + 1,a.prot,a.zero⟩ n = true:=by
                 rw [hit_iff] at e;rw [hit_mk];exact decide_eq_true (by omega)
                rw [if_pos e2]
                show St.mk true a.prot a.zero = _
                rw [hl]
                rw [hit_iff] at e
                rw [if_pos (show n < k by omega),if_pos (show n < k + 1 by omega)]
              · have e2 : ¬ hit ⟨a.page,a.pages + 1,a.prot,a.zero⟩ n = true:=by
                 rw [hit_iff] at e;rw [hit_mk,decide_eq_true_eq];omega
                rw [if_neg e] at hl
                rw [if_neg e2,hl]
                by_cases f : n < k
                · rw [if_pos f,if_pos (by omega)]
                · rw [if_neg f,if_neg (by omega)]
        · rw [lastOf_snoc];show a.page + (a.pages + 1) = _;omega
        · rw [lastOf_snoc];show a.prot = (F k).p;rw [h2,hst]
        · rw [lastOf_snoc];show a.zero = (F k).z;rw [h3,hst]
        · have : (F k).m = false:=h
          rw [hm'] at this;cases this
    · have he' : stEq (F k) (lastTo F k) = false:=by simpa using he
      rw [if_neg he]
      refine ⟨?_,fun n=>?_,fun _=>⟨by simp,?_,?_,?_⟩,fun h=>?_⟩
      · rw [good_snoc,ih.good,Bool.true_and]
        simp only [okNext,Bool.and_eq_true,pagesB,protB,decide_eq_true_eq]
        refine ⟨⟨⟨by omega,by omega,by omega⟩,hF.prot k⟩,?_⟩
        by_cases h0 : G.length = 0
        · simp [h0]
        · simp only [Bool.or_eq_true,beq_iff_eq,h0,false_or]
          by_cases hl : (lastTo F k).m = true
          · obtain ⟨_,h1,h2,h3⟩:=ih.yes hl
            unfold followB
            rw [if_pos h1.symm]
            rcases stEq_ne _ _ he' with q | ⟨_,q⟩ | ⟨_,_,q⟩
            · rw [hm',hl] at q;simp at q
            · simp only [Bool.or_eq_true,bne_iff_ne,h2]
              left
              simpa using q
            · simp only [Bool.or_eq_true,bne_iff_ne,h3]
              right
              simpa using q
          · rcases ih.no (by simpa using hl) with h | h | h
            · exact absurd h h0
            · unfold followB
              rw [if_neg (by show ¬ (k : Int) = _;omega)]
              simpa using h
            · omega
      · rw [look_snoc]
        by_cases c : (findFrom G n).2 = true
        · rw [if_pos c,ih.look n]
          by_cases f : n < k
          · rw [if_pos f,if_pos (by omega)]
          · exfalso
            have:=look_hit G n (by rw [ih.look n,if_neg f])
            rw [c] at this;cases this
        · rw [if_neg c]
          have c' : (findFrom G n).2 = false:=by simpa using c
          by_cases d : n = k
          · subst d
            rw [if_pos (by rw [hit_mk];exact decide_eq_true (by omega)),if_pos (by omega)]
            show St.mk true (F n).p (F n).z = F n
            rw [<- hm']
          · rw [if_neg (by rw [hit_mk,decide_eq_true_eq];omega)]
            have hl:=ih.look n
            have e0 : AM.look G n = off:=by unfold AM.look;simp [c']
            rw [e0] at hl
            by_cases f : n < k
            · rw [if_pos f] at hl;rw [if_pos (by omega),hl]
            · rw [if_neg (by omega)]
      · rw [lastOf_snoc];show (k : Int) + 1 = _;omega
      · rw [lastOf_snoc];rfl
      · rw [lastOf_snoc];rfl
      · have : (F k).m = false:=h
        rw [hm'] at this;cases this
theorem gather_good (F : Nat -> St) (hF : Fine F) : good (gatherN F) = true:=(gather_inv F hF 256 (Nat.le_refl _)).good
theorem gather_look (F : Nat -> St) (hF : Fine F) (n : Nat) (hn : n < 256) : look (gatherN F) n = F n:=by
 have:=(gather_inv F hF 256 (Nat.le_refl _)).look n
 rw [if_pos hn] at this
 exact this
theorem spread_look (l : List Ar) : ∀ (m : Nat) (G : List Ar),G.length = m -> good G = true -> ∀ n : Nat,look G n = spreadTo G G.length n
 | 0,G,hm,_,n=>by
  have e : G = []:=List.eq_nil_of_length_eq_zero hm
  subst e;rfl
 | m + 1,G,hm,hg,n=>by
  rcases List.eq_nil_or_concat G with rfl | ⟨H,a,rfl⟩
  · simp at hm
  · rw [List.concat_eq_append] at *
    rw [good_snoc,Bool.and_eq_true] at hg
    have ih:=spread_look l m H (by simpa using hm) hg.1 n
    have hs : ∀ k,k <= H.length -> spreadTo (H ++ [a]) k = spreadTo H k:=by
     intro k
     induction k with
     | zero=>intro _;rfl
     | succ k ihk=>intro hk;simp only [spreadTo];rw [ihk (by omega),at_append_left H [a] k (by omega)]
    rw [List.length_append]
    show _ = spreadTo (H ++ [a]) (H.length + 1) n
    simp only [spreadTo]
    rw [hs H.length (Nat.le_refl _),at_append_last,look_snoc]
    simp only [layTo]
    by_cases c : (findFrom H n).2 = true
    · rw [if_pos c,ih]
      have hb:=good_bound _ H rfl hg.1 n c
      have hok:=hg.2
      simp only [okNext,Bool.and_eq_true] at hok
      have hfo:=hok.2
      have hne : ¬ H.length = 0:=by
       intro e
       have e' : H = []:=List.eq_nil_of_length_eq_zero e
       subst e';simp [findFrom] at c
      simp only [beq_iff_eq,Bool.or_eq_true,hne,false_or] at hfo
      have hle : (lastOf H).last0 <= a.page:=by
       unfold followB at hfo
       split at hfo
       · omega
       · simp at hfo;omega
      rw [if_neg (by omega)]
    · rw [if_neg c]
      have e0 : look H n = off:=by unfold look;simp [show (findFrom H n).2 = false by simpa using c]
      by_cases d : hit a n = true
      · rw [if_pos d,if_pos (by simpa [hit] using d)]
      · rw [if_neg d,if_neg (by simpa [hit] using d),<- ih,e0]
theorem good_of_check (l : List Ar) (h : checkN l = 0) : good l = true:=by
 unfold checkN at h
 split at h
 · simp at h
 · split at h
   · assumption
   · simp at h
theorem spreadTo_fine (l : List Ar) (hc : checkN l = 0) : ∀ k,k <= l.length -> (spreadTo l k 0).m = false /\ (∀ n,(spreadTo l k n).m = false -> spreadTo l k n = off) /\ (∀ n,0 <= (spreadTo l k n).p /\ (spreadTo l k n).p <= 3)
 | 0,_=>⟨rfl,fun n _=>rfl,fun n=>by simp [spreadTo,off]⟩
 | k + 1,hk=>by
  have ih:=spreadTo_fine l hc k (by omega)
  have ho:=okAt_pages l k (good_pages l hc k (by omega))
  refine ⟨?_,fun n=>?_,fun n=>?_⟩
  · simp only [spreadTo,layTo];rw [if_neg (by omega)];exact ih.1
  · simp only [spreadTo,layTo]
    split
    · intro h;simp at h
    · exact ih.2.1 n
  · simp only [spreadTo,layTo]
    split
    · exact ⟨ho.2.2.2.1,ho.2.2.2.2⟩
    · exact ih.2.2 n
theorem fine_spread (l : List Ar) (hc : checkN l = 0) : Fine (spreadN l):=by
 have h:=spreadTo_fine l hc l.length (Nat.le_refl _)
 exact ⟨h.1,h.2.1,h.2.2⟩
theorem fine_turned (F : Nat -> St) (hF : Fine F) (how : St -> St × Int) (page t : Int) (hp : 1 <= page)
  (hn : ∀ s,(s.m = false -> s = off) -> ((how s).1.m = false -> (how s).1 = off)) (hq : ∀ s,0 <= s.p /\ s.p <= 3 -> 0 <= (how s).1.p /\ (how s).1.p <= 3) : Fine (turned F how page t):=by
 refine ⟨?_,fun n=>?_,fun n=>?_⟩
 · simp only [turned];rw [if_neg (by omega)];exact hF.zero
 · simp only [turned]
   split
   · exact hn (F n) (hF.none n)
   · exact hF.none n
 · simp only [turned]
   split
   · exact hq (F n) (hF.prot n)
   · exact hF.prot n
theorem gather_len' (F : Nat -> St) (h0 : (F 0).m = false) : ∀ k,(gatherTo F (k + 1)).length <= k
 | 0=>by simp [gatherTo,h0]
 | k + 1=>by
  have ih:=gather_len' F h0 k
  rw [gatherTo]
  split
  · omega
  · split
    · rw [bump_length];omega
    · simp;omega
theorem check_gather (F : Nat -> St) (hF : Fine F) : checkN (gatherN F) = 0:=by
 have hl : (gatherN F).length <= 255:=gather_len' F hF.zero 255
 have hg:=gather_good F hF
 unfold checkN
 rw [if_neg (by omega),if_pos hg]
theorem find_of_look (l : List Ar) (hc : checkN l = 0) (F : Nat -> St) (p : Nat) (h : look l p = F p) : (findN l p).2 = (F p).m /\ (findN l p).1.prot = (F p).p /\ (findN l p).1.zero = (F p).z:=by
 have e : findN l p = findFrom l p:=by simp [findN,hc]
 rw [e,<- h]
 unfold look
 by_cases c : (findFrom l p).2 = true
 · simp [c]
 · have c' : (findFrom l p).2 = false:=by simpa using c
   rw [findFrom_miss l p c']
   simp [nil,off]
theorem find_gather (F : Nat -> St) (hF : Fine F) (p : Nat) (hp : p < 256) : (findN (gatherN F) p).2 = (F p).m /\ (findN (gatherN F) p).1.prot = (F p).p /\ (findN (gatherN F) p).1.zero = (F p).z :=
 find_of_look _ (check_gather F hF) F p (gather_look F hF p hp)
theorem find_spread (l : List Ar) (hc : checkN l = 0) (p : Nat) : (findN l p).2 = (spreadN l p).m /\ (findN l p).1.prot = (spreadN l p).p /\ (findN l p).1.zero = (spreadN l p).z :=
 find_of_look l hc (spreadN l) p (spread_look l _ l rfl (good_of_check l hc) p)
theorem fits_of_check (l : List Ar) (hc : checkN l = 0) : (∀ i,i < l.length -> Fits (at_ l i)) /\ l.length <= 140737488351232:=by
 refine ⟨fun i hi=>?_,by have:=good_len l hc;omega⟩
 have ho:=okAt_pages l i (good_pages l hc i hi)
 unfold Fits
 omega
theorem err_zero (F : Nat -> St) (how : St -> St × Int) : ∀ (c n : Nat),errFrom F how n c = 0 -> ∀ k,n <= k -> k < n + c -> (how (F k)).2 = 0
 | 0,n,_,k,h1,h2=>by omega
 | c + 1,n,h,k,h1,h2=>by
  simp only [errFrom] at h
  split at h
  · rename_i h0
    by_cases e : k = n
    · rw [e];exact h0
    · exact err_zero F how c (n + 1) h k (by omega) (by omega)
  · rename_i h0;exact absurd h h0
end AM
namespace LM
open Go.RowKit
def pagesN (a : AM.Ar) (n : Nat) : List Int:=(List.range n).map (fun m : Nat=>a.page + (m : Int))
def pagesTo (l : List AM.Ar) : Nat -> List Int
 | 0=>[]
 | i + 1=>pagesTo l i ++ pagesN (AM.at_ l i) (AM.at_ l i).pages.toNat
def pagesOf (l : List AM.Ar) : List Int:=pagesTo l l.length
def forEachB (l : List AM.Ar) (hs : List Sh) : Bool:=decide (hs.map (·.page) = pagesOf l)
def zeroTo (l : List AM.Ar) : Nat -> Bool
 | 0=>false
 | k + 1=>zeroTo l k || (AM.at_ l k).zero
def anyZeroB (l : List AM.Ar) : Bool:=zeroTo l l.length
def sheetsTo (hs : List Sh) : Nat -> Bool
 | 0=>true
 | k + 1=>sheetsTo hs k && sheetB (shAt hs k)
def sheetsB (hs : List Sh) : Bool:=sheetsTo hs hs.length
def entB (l : List AM.Ar) (en : Int) : Bool:=(AM.findFrom l (en.tdiv 16)).2 && (decide (2 <= (AM.findFrom l (en.tdiv 16)).1.prot) && decide (en.tmod 8 = 0))
def checkL (l : List AM.Ar) (hs : List Sh) (en : Int) : Int:=if AM.checkN l = 0 then (if !anyZeroB l && (forEachB l hs && (sheetsB hs && entB l en)) then 0 else 1) else AM.checkN l
theorem pagesN_succ (a : AM.Ar) (n : Nat) : pagesN a (n + 1) = pagesN a n ++ [a.page + (n : Int)]:=by
 unfold pagesN
 rw [List.range_succ,List.map_append]
 rfl
theorem pagesN_split (a : AM.Ar) (n m : Nat) (h : n < m) : ∃ t,pagesN a m = pagesN a n ++ (a.page + (n : Int)) :: t:=by
 induction m with
 | zero=>omega
 | succ m ih =>
  by_cases e : n = m
  · subst e;exact ⟨[],pagesN_succ a n⟩
  · obtain ⟨t,ht⟩:=ih (by omega)
    exact ⟨t ++ [a.page + (m : Int)],by rw [pagesN_succ,ht];simp⟩
theorem pagesTo_more (l : List AM.Ar) (i : Nat) : ∀ n,i <= n -> ∃ t,pagesTo l n = pagesTo l i ++ t
 | 0, h => by obtain rfl : i = 0 := by omega
              exact ⟨[],by simp⟩
 | n + 1,h=>by
  by_cases e : i = n + 1
  · subst e;exact ⟨[],by simp⟩
  · obtain ⟨t,ht⟩:=pagesTo_more l i n (by omega)
    exact ⟨t ++ pagesN (AM.at_ l n) (AM.at_ l n).pages.toNat,by simp only [pagesTo];rw [ht,List.append_assoc]⟩
theorem pages_split (l : List AM.Ar) (i : Nat) (hi : i < l.length) (n : Nat) (hn : n < (AM.at_ l i).pages.toNat) : ∃ t,pagesOf l = (pagesTo l i ++ pagesN (AM.at_ l i) n) ++ ((AM.at_ l i).page + (n : Int)) :: t:=by
 obtain ⟨t,ht⟩:=pagesTo_more l (i + 1) l.length (by omega)
 obtain ⟨u,hu⟩:=pagesN_split (AM.at_ l i) n _ hn
 refine ⟨u ++ t,?_⟩
 unfold pagesOf
 rw [ht]
 simp only [pagesTo]
 rw [hu]
 simp
theorem zeroTo_mono (l : List AM.Ar) : ∀ (k n : Nat),k <= n -> zeroTo l k = true -> zeroTo l n = true
 | k, 0, h, hk => by obtain rfl : k = 0 := by omega
                     exact hk
 | k,n + 1,h,hk=>by
  by_cases e : k = n + 1
  · subst e;exact hk
  · simp [zeroTo,zeroTo_mono l k n (by omega) hk]
theorem zero_at (l : List AM.Ar) (k : Nat) (hk : k < l.length) (h : (AM.at_ l k).zero = true) : anyZeroB l = true:=zeroTo_mono l (k + 1) l.length (by omega) (by simp [zeroTo,h])
theorem zero_none (l : List AM.Ar) : ∀ n,zeroTo l n = false -> ∀ i,i < n -> (AM.at_ l i).zero = false
 | 0,_,i,hi=>by omega
 | n + 1,h,i,hi=>by
  simp only [zeroTo,Bool.or_eq_false_iff] at h
  by_cases e : i = n
  · subst e;exact h.2
  · exact zero_none l n h.1 i (by omega)
theorem sheetsTo_false (l : List Sh) : ∀ (k n : Nat),k <= n -> sheetsTo l k = false -> sheetsTo l n = false
 | k, 0, h, hk => by obtain rfl : k = 0 := by omega
                     exact hk
 | k,n + 1,h,hk=>by
  by_cases e : k = n + 1
  · subst e;exact hk
  · simp [sheetsTo,sheetsTo_false l k n (by omega) hk]
theorem sheets_bad (l : List Sh) (k : Nat) (hk : k < l.length) (h : sheetB (shAt l k) = false) : sheetsB l = false:=sheetsTo_false l (k + 1) l.length (by omega) (by simp [sheetsTo,h])
theorem sheetsTo_ok (l : List Sh) : ∀ n,sheetsTo l n = true -> ∀ i,i < n -> sheetB (shAt l i) = true
 | 0,_,i,hi=>by omega
 | n + 1,h,i,hi=>by
  simp only [sheetsTo,Bool.and_eq_true] at h
  by_cases e : i = n
  · subst e;exact h.2
  · exact sheetsTo_ok l n h.1 i (by omega)
theorem map_take_snoc (hs : List Sh) (c : Nat) (h : c < hs.length) : (hs.take (c + 1)).map (·.page) = (hs.take c).map (·.page) ++ [(shAt hs c).page]:=by
 rw [List.take_succ_eq_append_getElem h,List.map_append]
 unfold shAt
 rw [List.getD_eq_getElem?_getD,List.getElem?_eq_getElem h]
 rfl
theorem each_short {l : List AM.Ar} {hs : List Sh} {pre t : List Int} {x : Int} (hp : (hs.take hs.length).map (·.page) = pre) (ho : pagesOf l = pre ++ x :: t) : forEachB l hs = false:=by
 unfold forEachB
 refine decide_eq_false (fun e=>?_)
 rw [List.take_length] at hp
 rw [hp,ho] at e
 have:=congrArg List.length e
 simp at this
theorem each_other {l : List AM.Ar} {hs : List Sh} {pre t : List Int} {x : Int} {c : Nat} (hc : c < hs.length) (hp : (hs.take c).map (·.page) = pre) (ho : pagesOf l = pre ++ x :: t) (hx : (shAt hs c).page ≠ x) : forEachB l hs = false:=by
 unfold forEachB
 refine decide_eq_false (fun e=>?_)
 have h1:=map_take_snoc hs c hc
 rw [hp] at h1
 have h2 : hs.map (·.page) = (hs.take (c + 1)).map (·.page) ++ (hs.drop (c + 1)).map (·.page):=by rw [<- List.map_append,List.take_append_drop]
 rw [h2,h1,ho,List.append_assoc] at e
 have:=List.append_cancel_left e
 simp at this
 exact hx this.1
theorem each_done {l : List AM.Ar} {hs : List Sh} {c : Nat} (hc : c <= hs.length) (hp : (hs.take c).map (·.page) = pagesTo l l.length) : forEachB l hs = decide (c = hs.length):=by
 unfold forEachB
 by_cases e : c = hs.length
 · subst e
   rw [List.take_length] at hp
   have hp' : hs.map (·.page) = pagesOf l:=hp
   rw [decide_eq_true hp',decide_eq_true rfl]
 · rw [decide_eq_false e]
   refine decide_eq_false (fun g=>?_)
   have h1:=congrArg List.length hp
   have h2:=congrArg List.length g
   rw [List.length_map,List.length_take] at h1
   rw [List.length_map] at h2
   unfold pagesOf at h2
   omega
def LieH (w : World) (b off : Nat) (l : List Sh) : Prop:=∀ i,i < l.length ->
 w.cell? ⟨b,off + i * 3,none⟩ = some (.int .i64 (shAt l i).page) /\ w.cell? ⟨b,off + i * 3 + 1,none⟩ = some (.string (shAt l i).data) /\ w.cell? ⟨b,off + i * 3 + 2,none⟩ = some (.slice (shAt l i).ao (shAt l i).fixes.length (shAt l i).cap) /\ HasF w (shAt l i).ao (shAt l i).fixes
theorem lieH {w w' : World} {b off : Nat} {l : List Sh} (hb : Below w.heap.size w w') (hlt : b < w.heap.size) (h : LieH w b off l) : LieH w' b off l:=fun i hi=>by
 obtain ⟨c0,c1,c2,c3⟩:=h i hi
 exact ⟨(M.below_cell hb hlt).trans c0,(M.below_cell hb hlt).trans c1,(M.below_cell hb hlt).trans c2,c3.below hb⟩
def HasH (w : World) (ao : Option Addr) (l : List Sh) : Prop:=M.HasBy LieH w ao l
theorem HasH.below {w w' : World} {ao : Option Addr} {l : List Sh} (h : HasH w ao l) (hb : Below w.heap.size w w') : HasH w' ao l:=M.HasBy.below (lie:=LieH) (fun hb hlt h=>lieH hb hlt h) h hb
def FitHs (l : List Sh) : Prop:=M.Short l.length /\ ∀ k,k < l.length -> FitH (shAt l k)
theorem prot_cases {p : Int} (h : 0 <= p /\ p <= 3) : p = 0 ∨ p = 1 ∨ p = 2 ∨ p = 3:=by omega
theorem found_prot (l : List AM.Ar) (hc : AM.checkN l = 0) (p : Int) (h : (AM.findFrom l p).2 = true) : 0 <= (AM.findFrom l p).1.prot /\ (AM.findFrom l p).1.prot <= 3:=by
 by_cases e : ∃ k,k < l.length /\ AM.hit (AM.at_ l k) p = true
 · obtain ⟨k,hk,hh⟩:=e
   have : ∃ k,k < l.length /\ AM.hit (AM.at_ l k) p = true /\ ∀ i,i < k -> AM.hit (AM.at_ l i) p = false:=by
    induction k using Nat.strongRecOn with
    | _ k ih =>
     by_cases g : ∃ j,j < k /\ AM.hit (AM.at_ l j) p = true
     · obtain ⟨j,hj,hj2⟩:=g
       exact ih j hj (by omega) hj2
     · exact ⟨k,hk,hh,fun i hi=>by
        cases q : AM.hit (AM.at_ l i) p
        · rfl
        · exact (g ⟨i,hi,q⟩).elim⟩
   obtain ⟨k,hk,h1,h2⟩:=this
   rw [AM.findFrom_at l p k hk h2 h1]
   have:=AM.okAt_pages l k (AM.good_pages l hc k hk)
   exact ⟨this.2.2.2.1,this.2.2.2.2⟩
 · rw [AM.findFrom_none l p (fun i hi=>by
    cases q : AM.hit (AM.at_ l i) p
    · rfl
    · exact (e ⟨i,hi,q⟩).elim)] at h
   cases h
def riseAt (hs : List Sh) (k : Nat) : Bool:=k == 0 || decide ((shAt hs (k - 1)).page < (shAt hs k).page)
def riseTo (hs : List Sh) : Nat -> Bool
 | 0=>true
 | k + 1=>riseTo hs k && (sheetB (shAt hs k) && riseAt hs k)
def riseB (hs : List Sh) : Bool:=riseTo hs hs.length
theorem riseTo_false (l : List Sh) : ∀ (k n : Nat),k <= n -> riseTo l k = false -> riseTo l n = false
 | k, 0, h, hk => by obtain rfl : k = 0 := by omega
                     exact hk
 | k,n + 1,h,hk=>by
  by_cases e : k = n + 1
  · subst e;exact hk
  · simp [riseTo,riseTo_false l k n (by omega) hk]
theorem rise_bad (l : List Sh) (k : Nat) (hk : k < l.length) (h : (sheetB (shAt l k) && riseAt l k) = false) : riseB l = false:=riseTo_false l (k + 1) l.length (by omega) (by simp only [riseTo];rw [h,Bool.and_false])
theorem riseTo_ok (l : List Sh) : ∀ n,riseTo l n = true -> ∀ i,i < n -> sheetB (shAt l i) = true /\ riseAt l i = true
 | 0,_,i,hi=>by omega
 | n + 1,h,i,hi=>by
  simp only [riseTo,Bool.and_eq_true] at h
  by_cases e : i = n
  · subst e;exact h.2
  · exact riseTo_ok l n h.1 i (by omega)
theorem riseTo_of (l : List Sh) : ∀ n,(∀ i,i < n -> sheetB (shAt l i) = true /\ riseAt l i = true) -> riseTo l n = true
 | 0,_=>rfl
 | n + 1,h=>by
  simp only [riseTo,Bool.and_eq_true]
  exact ⟨riseTo_of l n (fun i hi=>h i (by omega)),h n (by omega)⟩
def inAt (l : List AM.Ar) (hs : List Sh) (k : Nat) : Bool:=(AM.findFrom l (shAt hs k).page).2 && !(AM.findFrom l (shAt hs k).page).1.zero
def inTo (l : List AM.Ar) (hs : List Sh) : Nat -> Bool
 | 0=>true
 | k + 1=>inTo l hs k && inAt l hs k
theorem inTo_ok (l : List AM.Ar) (hs : List Sh) : ∀ n,inTo l hs n = true -> ∀ i,i < n -> inAt l hs i = true
 | 0,_,i,hi=>by omega
 | n + 1,h,i,hi=>by
  simp only [inTo,Bool.and_eq_true] at h
  by_cases e : i = n
  · subst e;exact h.2
  · exact inTo_ok l hs n h.1 i (by omega)
theorem inTo_of (l : List AM.Ar) (hs : List Sh) : ∀ n,(∀ i,i < n -> inAt l hs i = true) -> inTo l hs n = true
 | 0,_=>rfl
 | n + 1,h=>by
  simp only [inTo,Bool.and_eq_true]
  exact ⟨inTo_of l hs n (fun i hi=>h i (by omega)),h n (by omega)⟩
def checkR (l : List AM.Ar) (hs : List Sh) (en : Int) : Int:=if AM.checkN l = 0 then (if decide ((hs.length : Int) = AM.sumTo l l.length) && (riseB hs && (inTo l hs hs.length && entB l en)) then 0 else 1) else AM.checkN l
/-! the pages of areas that are right rise -/
def Rising (L : List Int) : Prop:=L.Pairwise (· < ·)
theorem pagesN_mem (a : AM.Ar) (n : Nat) (x : Int) : x ∈ pagesN a n ↔ a.page <= x /\ x < a.page + (n : Int):=by
 unfold pagesN
 rw [List.mem_map]
 constructor
 · rintro ⟨m,hm,rfl⟩
   have:=List.mem_range.1 hm
   omega
 · rintro ⟨h1,h2⟩
   exact ⟨(x - a.page).toNat,List.mem_range.2 (by omega),by omega⟩
theorem pagesN_rising (a : AM.Ar) : ∀ n,Rising (pagesN a n)
 | 0=>by simp [pagesN,Rising]
 | n + 1=>by
  rw [pagesN_succ]
  unfold Rising
  rw [List.pairwise_append]
  refine ⟨pagesN_rising a n,by simp,fun x hx y hy=>?_⟩
  have:=(pagesN_mem a n x).1 hx
  simp at hy
  omega
theorem pagesN_length (a : AM.Ar) (n : Nat) : (pagesN a n).length = n:=by simp [pagesN]
theorem next_ge (l : List AM.Ar) (hc : AM.checkN l = 0) (i : Nat) (hi : i + 1 < l.length) : (AM.at_ l i).page + (AM.at_ l i).pages <= (AM.at_ l (i + 1)).page:=by
 have h:=AM.good_pages l hc (i + 1) hi
 simp only [AM.okAt,Bool.and_eq_true,Nat.add_sub_cancel] at h
 have h2:=h.2
 have e : (i + 1 == 0) = false:=by simp
 rw [e,Bool.false_or] at h2
 unfold AM.followB AM.Ar.last0 at h2
 split at h2
 · omega
 · simp at h2
   omega
theorem pagesTo_lt (l : List AM.Ar) (hc : AM.checkN l = 0) : ∀ i,i <= l.length -> ∀ x ∈ pagesTo l i,∀ j,j < l.length -> i <= j -> x < (AM.at_ l j).page
 | 0,_,x,hx,j,_,_=>by simp [pagesTo] at hx
 | i + 1,hi,x,hx,j,hj,hij=>by
  simp only [pagesTo,List.mem_append] at hx
  rcases hx with hx | hx
  · exact pagesTo_lt l hc i (by omega) x hx j hj (by omega)
  · have hk:=AM.okAt_pages l i (AM.good_pages l hc i (by omega))
    have h1:=(pagesN_mem _ _ _).1 hx
    have step : ∀ d,i + 1 + d < l.length -> (AM.at_ l i).page + (AM.at_ l i).pages <= (AM.at_ l (i + 1 + d)).page:=by
     intro d
     induction d with
     | zero=>intro h;exact next_ge l hc i h
     | succ d ih =>
      intro h
      have h2:=ih (by omega)
      have h3:=next_ge l hc (i + 1 + d) h
      have h4:=AM.okAt_pages l (i + 1 + d) (AM.good_pages l hc (i + 1 + d) (by omega))
      have e : i + 1 + (d + 1) = i + 1 + d + 1:=by omega
      rw [e]
      omega
    have:=step (j - (i + 1)) (by omega)
    have e : i + 1 + (j - (i + 1)) = j:=by omega
    rw [e] at this
    omega
theorem pagesTo_rising (l : List AM.Ar) (hc : AM.checkN l = 0) : ∀ i,i <= l.length -> Rising (pagesTo l i)
 | 0,_=>by simp [pagesTo,Rising]
 | i + 1,hi=>by
  simp only [pagesTo]
  unfold Rising
  rw [List.pairwise_append]
  refine ⟨pagesTo_rising l hc i (by omega),pagesN_rising _ _,fun x hx y hy=>?_⟩
  have h1:=pagesTo_lt l hc i (by omega) x hx i (by omega) (Nat.le_refl _)
  have h2:=(pagesN_mem _ _ _).1 hy
  omega
theorem pagesTo_length (l : List AM.Ar) (hc : AM.checkN l = 0) : ∀ i,i <= l.length -> ((pagesTo l i).length : Int) = AM.sumTo l i
 | 0,_=>rfl
 | i + 1,hi=>by
  have ih:=pagesTo_length l hc i (by omega)
  have hk:=AM.okAt_pages l i (AM.good_pages l hc i (by omega))
  simp only [pagesTo,AM.sumTo,List.length_append,pagesN_length]
  omega
theorem pagesTo_mem (l : List AM.Ar) (x : Int) : ∀ i,x ∈ pagesTo l i ↔ ∃ k,k < i /\ AM.hit (AM.at_ l k) x = true
 | 0=>by simp [pagesTo]
 | i + 1=>by
  simp only [pagesTo,List.mem_append]
  rw [pagesTo_mem l x i,pagesN_mem]
  constructor
  · rintro (⟨k,hk,h⟩ | h)
    · exact ⟨k,by omega,h⟩
    · exact ⟨i,by omega,by unfold AM.hit AM.Ar.last0;exact decide_eq_true ⟨h.1,by omega⟩⟩
  · rintro ⟨k,hk,h⟩
    by_cases e : k = i
    · subst e
      right
      unfold AM.hit AM.Ar.last0 at h
      have:=of_decide_eq_true h
      omega
    · exact .inl ⟨k,by omega,h⟩
theorem rising_tail {x : Int} {L : List Int} (h : Rising (x :: L)) : Rising L /\ ∀ z ∈ L,x < z:=⟨(List.pairwise_cons.1 h).2,(List.pairwise_cons.1 h).1⟩
theorem rising_len : ∀ (K L : List Int),Rising L -> Rising K -> (∀ z ∈ L,z ∈ K) -> L.length <= K.length
 | [],L,_,_,hm=>by
  cases L with
  | nil=>exact Nat.le_refl _
  | cons x L=>exact absurd (hm x List.mem_cons_self) (by simp)
 | y :: K,L,hL,hK,hm=>by
  cases L with
  | nil=>exact Nat.zero_le _
  | cons x L =>
   obtain ⟨hL1,hL2⟩:=rising_tail hL
   obtain ⟨hK1,hK2⟩:=rising_tail hK
   by_cases e : x = y
   · subst e
     have:=rising_len K L hL1 hK1 (fun z hz=>by
      have h1:=hL2 z hz
      rcases List.mem_cons.1 (hm z (List.mem_cons_of_mem _ hz)) with g | g
      · omega
      · exact g)
     simp only [List.length_cons]
     omega
   · have hx : x ∈ K:=by
      rcases List.mem_cons.1 (hm x List.mem_cons_self) with g | g
      · exact (e g).elim
      · exact g
     have hyx:=hK2 x hx
     have:=rising_len K (x :: L) hL hK1 (fun z hz=>by
      rcases List.mem_cons.1 hz with g | g
      · subst g;exact hx
      · have h1:=hL2 z g
        rcases List.mem_cons.1 (hm z hz) with q | q
        · omega
        · exact q)
     simp only [List.length_cons] at this ⊢
     omega
theorem rising_eq : ∀ (L K : List Int),Rising L -> Rising K -> (∀ z ∈ L,z ∈ K) -> K.length <= L.length -> L = K
 | [],K,_,_,_,hl=>by
  cases K with
  | nil=>rfl
  | cons y K=>simp at hl
 | x :: L,K,hL,hK,hm,hl=>by
  cases K with
  | nil=>exact absurd (hm x List.mem_cons_self) (by simp)
  | cons y K =>
   obtain ⟨hL1,hL2⟩:=rising_tail hL
   obtain ⟨hK1,hK2⟩:=rising_tail hK
   have e : x = y:=by
    rcases List.mem_cons.1 (hm x List.mem_cons_self) with g | g
    · exact g
    · have hyx:=hK2 x g
      have:=rising_len K (x :: L) hL hK1 (fun z hz=>by
       rcases List.mem_cons.1 hz with q | q
       · subst q;exact g
       · have h1:=hL2 z q
         rcases List.mem_cons.1 (hm z hz) with r | r
         · omega
         · exact r)
      simp only [List.length_cons] at this hl
      omega
   subst e
   rw [rising_eq L K hL1 hK1 (fun z hz=>by
    have h1:=hL2 z hz
    rcases List.mem_cons.1 (hm z (List.mem_cons_of_mem _ hz)) with g | g
    · omega
    · exact g) (by simp only [List.length_cons] at hl;omega)]
theorem rise_rising (hs : List Sh) (h : riseB hs = true) : Rising (hs.map (·.page)):=by
 have step : ∀ i j,i < j -> j < hs.length -> (shAt hs i).page < (shAt hs j).page:=by
  intro i j hij hj
  induction j with
  | zero=>omega
  | succ j ih =>
   have h1:=(riseTo_ok hs hs.length h (j + 1) hj).2
   unfold riseAt at h1
   have e : (j + 1 == 0) = false:=by simp
   rw [e,Bool.false_or] at h1
   have h2:=of_decide_eq_true h1
   rw [Nat.add_sub_cancel] at h2
   by_cases e2 : i = j
   · subst e2;exact h2
   · have:=ih (by omega) (by omega)
     omega
 unfold Rising
 rw [List.pairwise_iff_getElem]
 intro i j hi hj hij
 rw [List.length_map] at hi hj
 have:=step i j hij hj
 unfold shAt at this
 rw [List.getD_eq_getElem?_getD,List.getD_eq_getElem?_getD,List.getElem?_eq_getElem hi,List.getElem?_eq_getElem hj] at this
 simpa using this
theorem rising_rise (hs : List Sh) (h : Rising (hs.map (·.page))) (k : Nat) (hk : k < hs.length) : riseAt hs k = true:=by
 unfold riseAt
 by_cases e : k = 0
 · subst e;rfl
 · have e2 : (k == 0) = false:=by simpa using e
   rw [e2,Bool.false_or]
   unfold Rising at h
   rw [List.pairwise_iff_getElem] at h
   have:=h (k - 1) k (by rw [List.length_map];omega) (by rw [List.length_map];exact hk) (by omega)
   refine decide_eq_true ?_
   unfold shAt
   rw [List.getD_eq_getElem?_getD,List.getD_eq_getElem?_getD,List.getElem?_eq_getElem (by omega : k - 1 < hs.length),List.getElem?_eq_getElem hk]
   simpa using this
theorem find_hit (l : List AM.Ar) (p : Int) (k : Nat) (hk : k < l.length) (h : AM.hit (AM.at_ l k) p = true) : ∃ j,j < l.length /\ AM.findFrom l p = (AM.at_ l j,true):=by
 induction k using Nat.strongRecOn with
 | _ k ih =>
  by_cases g : ∃ j,j < k /\ AM.hit (AM.at_ l j) p = true
  · obtain ⟨j,hj,hj2⟩:=g
    exact ih j hj (by omega) hj2
  · exact ⟨k,hk,AM.findFrom_at l p k hk (fun i hi=>by
     cases q : AM.hit (AM.at_ l i) p
     · rfl
     · exact (g ⟨i,hi,q⟩).elim) h⟩
theorem found_hit (l : List AM.Ar) (p : Int) (h : (AM.findFrom l p).2 = true) : ∃ k,k < l.length /\ AM.hit (AM.at_ l k) p = true:=by
 by_cases e : ∃ k,k < l.length /\ AM.hit (AM.at_ l k) p = true
 · exact e
 · rw [AM.findFrom_none l p (fun i hi=>by
    cases q : AM.hit (AM.at_ l i) p
    · rfl
    · exact (e ⟨i,hi,q⟩).elim)] at h
   cases h
theorem at_mem (hs : List Sh) (k : Nat) (h : k < hs.length) : (shAt hs k).page ∈ hs.map (·.page):=by
 unfold shAt
 rw [List.getD_eq_getElem?_getD,List.getElem?_eq_getElem h]
 exact List.mem_map_of_mem (List.getElem_mem h)
theorem mem_at (hs : List Sh) (x : Int) (h : x ∈ hs.map (·.page)) : ∃ k,k < hs.length /\ (shAt hs k).page = x:=by
 obtain ⟨s,hs1,rfl⟩:=List.mem_map.1 h
 obtain ⟨k,hk,e⟩:=List.getElem_of_mem hs1
 refine ⟨k,hk,?_⟩
 unfold shAt
 rw [List.getD_eq_getElem?_getD,List.getElem?_eq_getElem hk,<- e]
 rfl
theorem hit_one (l : List AM.Ar) (hc : AM.checkN l = 0) (p : Int) (j k : Nat) (hj : j < l.length) (hk : k < l.length) (h1 : AM.hit (AM.at_ l j) p = true) (h2 : AM.hit (AM.at_ l k) p = true) : j = k:=by
 have key : ∀ j k,j < k -> k < l.length -> AM.hit (AM.at_ l j) p = true -> AM.hit (AM.at_ l k) p = true -> False:=by
  intro j k hjk hk h1 h2
  have hm : p ∈ pagesTo l k:=(pagesTo_mem l p k).2 ⟨j,hjk,h1⟩
  have:=pagesTo_lt l hc k (by omega) p hm k hk (Nat.le_refl _)
  unfold AM.hit at h2
  have:=of_decide_eq_true h2
  omega
 rcases Nat.lt_trichotomy j k with g | g | g
 · exact (key j k g hk h1 h2).elim
 · exact g
 · exact (key k j g hj h2 h1).elim
theorem look_same (l : List AM.Ar) (hs : List Sh) (hc : AM.checkN l = 0) :
  (!anyZeroB l && (forEachB l hs && sheetsB hs)) = (decide ((hs.length : Int) = AM.sumTo l l.length) && (riseB hs && inTo l hs hs.length)):=by
 rw [Bool.eq_iff_iff]
 simp only [Bool.and_eq_true,Bool.not_eq_true',decide_eq_true_eq]
 constructor
 · rintro ⟨hz,he,hsh⟩
   have he' : hs.map (·.page) = pagesOf l:=of_decide_eq_true he
   have hlen:=congrArg List.length he'
   rw [List.length_map] at hlen
   have hr : Rising (hs.map (·.page)):=by rw [he'];exact pagesTo_rising l hc l.length (Nat.le_refl _)
   refine ⟨by rw [hlen];exact pagesTo_length l hc l.length (Nat.le_refl _),?_,?_⟩
   · exact riseTo_of hs hs.length (fun i hi=>⟨sheetsTo_ok hs hs.length hsh i hi,rising_rise hs hr i hi⟩)
   · refine inTo_of l hs hs.length (fun i hi=>?_)
     have hm : (shAt hs i).page ∈ pagesTo l l.length:=by
      have:=at_mem hs i hi
      rw [he'] at this
      exact this
     obtain ⟨k,hk,hh⟩:=(pagesTo_mem l _ _).1 hm
     obtain ⟨j,hj,e⟩:=find_hit l _ k hk hh
     unfold inAt
     rw [e]
     simp [zero_none l l.length hz j hj]
 · rintro ⟨hlen,hr,hin⟩
   have hsub : ∀ z ∈ hs.map (·.page),z ∈ pagesOf l:=fun z hz=>by
    obtain ⟨k,hk,rfl⟩:=mem_at hs z hz
    have:=inTo_ok l hs hs.length hin k hk
    unfold inAt at this
    simp only [Bool.and_eq_true] at this
    obtain ⟨j,hj,hh⟩:=found_hit l _ this.1
    exact (pagesTo_mem l _ _).2 ⟨j,hj,hh⟩
   have he' : hs.map (·.page) = pagesOf l:=rising_eq _ _ (rise_rising hs hr) (pagesTo_rising l hc l.length (Nat.le_refl _)) hsub (by
    have:=pagesTo_length l hc l.length (Nat.le_refl _)
    unfold pagesOf
    rw [List.length_map]
    omega)
   refine ⟨?_,decide_eq_true he',?_⟩
   · cases hz : anyZeroB l
     · rfl
     · exfalso
       have : ∃ i,i < l.length /\ (AM.at_ l i).zero = true:=by
        by_cases g : ∃ i,i < l.length /\ (AM.at_ l i).zero = true
        · exact g
        · have key : ∀ n,n <= l.length -> zeroTo l n = false:=by
           intro n
           induction n with
           | zero=>intro _;rfl
           | succ n ih =>
            intro hn
            simp only [zeroTo]
            rw [ih (by omega),Bool.false_or]
            cases q : (AM.at_ l n).zero
            · rfl
            · exact (g ⟨n,by omega,q⟩).elim
          unfold anyZeroB at hz
          rw [key l.length (Nat.le_refl _)] at hz
          cases hz
       obtain ⟨i,hi,hzi⟩:=this
       have hk:=AM.okAt_pages l i (AM.good_pages l hc i hi)
       have hh : AM.hit (AM.at_ l i) (AM.at_ l i).page = true:=by
        unfold AM.hit AM.Ar.last0
        exact decide_eq_true ⟨Int.le_refl _,by omega⟩
       have hm : (AM.at_ l i).page ∈ hs.map (·.page):=by
        rw [he']
        exact (pagesTo_mem l _ _).2 ⟨i,hi,hh⟩
       obtain ⟨k,hk1,hk2⟩:=mem_at hs _ hm
       have hin2:=inTo_ok l hs hs.length hin k hk1
       unfold inAt at hin2
       rw [hk2] at hin2
       obtain ⟨j,hj,e⟩:=find_hit l _ i hi hh
       have hj2 : AM.hit (AM.at_ l j) (AM.at_ l i).page = true:=by
        obtain ⟨m,hm1,hm2⟩:=found_hit l (AM.at_ l i).page (by rw [e])
        have hmi:=hit_one l hc _ m i hm1 hi hm2 hh
        have : AM.findFrom l (AM.at_ l i).page = (AM.at_ l i,true):=by
         refine AM.findFrom_at l _ i hi (fun q hq=>?_) hh
         cases r : AM.hit (AM.at_ l q) (AM.at_ l i).page
         · rfl
         · have:=hit_one l hc _ q i (by omega) hi r hh
           omega
        rw [this] at e
        injection e with e1 _
        rw [<- e1]
        exact hh
       have:=hit_one l hc _ j i hj hi hj2 hh
       subst this
       rw [e,hzi] at hin2
       simp at hin2
   · have key : ∀ n,n <= hs.length -> sheetsTo hs n = true:=by
      intro n
      induction n with
      | zero=>intro _;rfl
      | succ n ih =>
       intro hn
       simp only [sheetsTo,Bool.and_eq_true]
       exact ⟨ih (by omega),(riseTo_ok hs hs.length hr n (by omega)).1⟩
     exact key hs.length (Nat.le_refl _)
theorem check_same (l : List AM.Ar) (hs : List Sh) (en : Int) : checkL l hs en = checkR l hs en:=by
 unfold checkL checkR
 by_cases hc : AM.checkN l = 0
 · rw [if_pos hc,if_pos hc]
   have h:=look_same l hs hc
   have e : (!anyZeroB l && (forEachB l hs && (sheetsB hs && entB l en))) = (decide ((hs.length : Int) = AM.sumTo l l.length) && (riseB hs && (inTo l hs hs.length && entB l en))):=by
    have a : (!anyZeroB l && (forEachB l hs && (sheetsB hs && entB l en))) = ((!anyZeroB l && (forEachB l hs && sheetsB hs)) && entB l en):=by
     cases anyZeroB l <;> cases forEachB l hs <;> cases sheetsB hs <;> rfl
    have b : (decide ((hs.length : Int) = AM.sumTo l l.length) && (riseB hs && (inTo l hs hs.length && entB l en))) = ((decide ((hs.length : Int) = AM.sumTo l l.length) && (riseB hs && inTo l hs hs.length)) && entB l en):=by
     cases decide ((hs.length : Int) = AM.sumTo l l.length) <;> cases riseB hs <;> cases inTo l hs hs.length <;> rfl
    rw [a,b,h]
   rw [e]
 · rw [if_neg hc,if_neg hc]
end LM
end Go.Proofs.YtpgifpeohlllfaaGreat
