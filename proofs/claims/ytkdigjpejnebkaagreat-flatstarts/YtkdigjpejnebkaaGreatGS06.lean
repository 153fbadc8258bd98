import Derived.Test.YtkdigjpejnebkaaGreatGS04
import Derived.Test.YtkdigjpejnebkaaGreatGS05
import Derived.Test.YtkdigjpejnebkaaGreatChecked
import Derived.Deep.Slices
import Derived.ProofKit
set_option linter.unusedVariables false
set_option maxRecDepth 100000
set_option linter.unusedSimpArgs false
namespace Go.Proofs.YtkdigjpejnebkaaGreat
namespace AM
open Go.RowKit
def look (l : List Ar) (n : Nat) : St:=let r:=findFrom l n;if r.2 then ⟨true,r.1.prot,r.1.zero⟩ else off
def lastOf (G : List Ar) : Ar:=at_ G (G.length - 1)
def okNext (G : List Ar) (a : Ar) : Bool:=pagesB a.page a.pages && protB a.prot && (G.length == 0 || followB (lastOf G) a)
theorem hit_mk (p n q : Int) (z : Bool) (x : Int) : hit ⟨p,n,q,z⟩ x = decide (p <= x /\ x < p + n):=rfl
theorem hit_iff (a : Ar) (x : Int) : hit a x = true ↔ a.page <= x /\ x < a.page + a.pages:=⟨fun h=>of_decide_eq_true h,fun h=>decide_eq_true h⟩
theorem lastOf_snoc (G : List Ar) (a : Ar) : lastOf (G ++ [a]) = a:=by simp [lastOf,at_]
theorem goodTo_append (G H : List Ar) : ∀ k,k <= G.length -> goodTo (G ++ H) k = goodTo G k
 | 0,_=>rfl
 | k + 1,h=>by
  simp only [goodTo,goodTo_append G H k (by omega)]
  congr 1
  unfold okAt
  rw [at_append_left G H k (by omega)]
  by_cases e : k = 0
  · subst e;rfl
  · rw [at_append_left G H (k - 1) (by omega)]
theorem good_snoc (G : List Ar) (a : Ar) : good (G ++ [a]) = (good G && okNext G a):=by
 unfold good
 rw [List.length_append]
 show goodTo (G ++ [a]) (G.length + 1) = _
 simp only [goodTo,goodTo_append G [a] G.length (Nat.le_refl _)]
 congr 1
 unfold okAt okNext lastOf
 rw [at_append_last]
 by_cases e : G.length = 0
 · simp [e]
 · rw [at_append_left G [a] (G.length - 1) (by omega)]
theorem findFrom_snoc : ∀ (G : List Ar) (a : Ar) (p : Int),findFrom (G ++ [a]) p = if (findFrom G p).2 then findFrom G p else if hit a p then (a,true) else (nil,false)
 | [],a,p=>by simp [findFrom]
 | b :: r,a,p=>by
  simp only [List.cons_append,findFrom]
  by_cases h : hit b p = true
  · simp [h]
  · simp [h,findFrom_snoc r a p]
theorem findFrom_miss : ∀ (G : List Ar) (p : Int),(findFrom G p).2 = false -> findFrom G p = (nil,false)
 | [],p,_=>rfl
 | b :: r,p,h=>by
  simp only [findFrom] at h ⊢
  by_cases c : hit b p = true
  · simp [c] at h
  · simp only [c] at h ⊢
    exact findFrom_miss r p h
theorem look_snoc (G : List Ar) (a : Ar) (n : Nat) : look (G ++ [a]) n = if (findFrom G n).2 then look G n else if hit a n then ⟨true,a.prot,a.zero⟩ else off:=by
 unfold look
 rw [findFrom_snoc]
 by_cases h : (findFrom G n).2 = true
 · simp [h]
 · simp only [h]
   by_cases c : hit a n = true
   · simp [c]
   · simp [c]
theorem good_bound : ∀ (m : Nat) (G : List Ar),G.length = m -> good G = true -> ∀ p : Int,(findFrom G p).2 = true -> 1 <= p /\ p < (lastOf G).last0
 | 0,G,hm,_,p,h=>by
  have e : G = []:=List.eq_nil_of_length_eq_zero hm
  subst e;simp [findFrom] at h
 | m + 1,G,hm,hg,p,h=>by
  rcases List.eq_nil_or_concat G with rfl | ⟨H,a,rfl⟩
  · simp at hm
  · rw [List.concat_eq_append] at *
    rw [good_snoc,Bool.and_eq_true] at hg
    obtain ⟨hgH,hok⟩:=hg
    rw [lastOf_snoc]
    simp only [okNext,Bool.and_eq_true,pagesB,decide_eq_true_eq] at hok
    obtain ⟨⟨hpa,_⟩,hfo⟩:=hok
    rw [findFrom_snoc] at h
    by_cases c : (findFrom H p).2 = true
    · have ih:=good_bound m H (by simpa using hm) hgH p c
      refine ⟨ih.1,?_⟩
      have hne : ¬ H.length = 0:=by
       intro e
       have e' : H = []:=List.eq_nil_of_length_eq_zero e
       subst e';simp [findFrom] at c
      simp only [beq_iff_eq,Bool.or_eq_true,hne,false_or] at hfo
      have hle : (lastOf H).last0 <= a.page:=by
       unfold followB at hfo
       split at hfo
       · omega
       · simp at hfo;omega
      unfold Ar.last0 at *
      omega
    · simp only [c] at h
      by_cases d : hit a p = true
      · simp only [hit,decide_eq_true_eq] at d
        unfold Ar.last0 at *
        omega
      · simp [d] at h
structure Fine (F : Nat -> St) : Prop where
 zero : (F 0).m = false
 none : ∀ n,(F n).m = false -> F n = off
 prot : ∀ n,0 <= (F n).p /\ (F n).p <= 3
theorem bump_snoc (H : List Ar) (a : Ar) : bump (H ++ [a]) = H ++ [⟨a.page,a.pages + 1,a.prot,a.zero⟩]:=by
 unfold bump
 have e : at_ (H ++ [a]) ((H ++ [a]).length - 1) = a:=lastOf_snoc H a
 rw [e]
 simp
structure GInv (F : Nat -> St) (k : Nat) (G : List Ar) : Prop where
 good : good G = true
 look : ∀ n : Nat,AM.look G n = if n < k then F n else off
 yes : (lastTo F k).m = true -> 0 < G.length /\ (lastOf G).last0 = k /\ (lastOf G).prot = (lastTo F k).p /\ (lastOf G).zero = (lastTo F k).z
 no : (lastTo F k).m = false -> G.length = 0 ∨ (lastOf G).last0 < k ∨ k = 0
theorem look_hit (G : List Ar) (n : Nat) (h : AM.look G n = off) : (findFrom G n).2 = false:=by
 unfold AM.look at h
 by_cases c : (findFrom G n).2 = true
 · simp only [c,if_true] at h
   have:=congrArg St.m h
   simp [off] at this
 · simpa using c
theorem gather_inv (F : Nat -> St) (hF : Fine F) : ∀ k,k <= 256 -> GInv F k (gatherTo F k)
 | 0,_=>⟨rfl,fun n=>rfl,fun h=>by simp [lastTo,off] at h,fun _=>.inl rfl⟩
 | k + 1,hk=>by
  have ih:=gather_inv F hF k (by omega)
  obtain ⟨G,hG⟩ : ∃ G,G = gatherTo F k:=⟨_,rfl⟩
  rw [<- hG] at ih
  simp only [gatherTo]
  rw [<- hG]
  by_cases hm : (F k).m = false
  · rw [if_pos hm]
    refine ⟨ih.good,fun n=>?_,fun h=>?_,fun _=>?_⟩
    · rw [ih.look n]
      by_cases h1 : n < k
      · rw [if_pos h1,if_pos (by omega)]
      · rw [if_neg h1]
        by_cases h2 : n < k + 1
        · obtain rfl : n = k:=by omega
          rw [if_pos h2,hF.none n hm]
        · rw [if_neg h2]
    · have : (F k).m = true:=h
      rw [hm] at this;cases this
    · by_cases hl : (lastTo F k).m = true
      · obtain ⟨h0,h1,_⟩:=ih.yes hl
        exact .inr (.inl (by rw [h1];omega))
      · rcases ih.no (by simpa using hl) with h | h | h
        · exact .inl h
        · exact .inr (.inl (by omega))
        · subst h
          have : G = []:=hG
          exact .inl (by rw [this];rfl)
  · have hm' : (F k).m = true:=by simpa using hm
    rw [if_neg hm]
    have hk1 : 1 <= k:=by
     by_cases e : k = 0
     · subst e;rw [hF.zero] at hm';cases hm'
     · omega
    have hmiss:=look_hit G k (by rw [ih.look k,if_neg (by omega)])
    by_cases he : stEq (F k) (lastTo F k) = true
    · rw [if_pos he]
      have hst:=stEq_eq _ _ he
      obtain ⟨h0,h1,h2,h3⟩:=ih.yes (by rw [<- hst];exact hm')
      rcases List.eq_nil_or_concat G with hnil | ⟨H,a,hH⟩
      · rw [hnil] at h0;simp at h0
      · rw [List.concat_eq_append] at hH
        rw [hH,lastOf_snoc] at h1 h2 h3
        have hg:=ih.good
        rw [hH,good_snoc,Bool.and_eq_true] at hg
        obtain ⟨hgH,hok⟩:=hg
        have hok':=hok
        simp only [okNext,Bool.and_eq_true,pagesB,decide_eq_true_eq] at hok'
        obtain ⟨⟨hpa,hpr⟩,hfo⟩:=hok'
        rw [hH,bump_snoc]
        unfold Ar.last0 at h1
        refine ⟨?_,fun n=>?_,fun _=>⟨by simp,?_,?_,?_⟩,fun h=>?_⟩
        · rw [good_snoc,hgH,Bool.true_and]
          simp only [okNext,Bool.and_eq_true,pagesB,decide_eq_true_eq]
          exact ⟨⟨⟨hpa.1,by omega,by omega⟩,hpr⟩,hfo⟩
        · have hl:=ih.look n
          rw [hH] at hl
          rw [look_snoc] at hl ⊢
          by_cases c : (findFrom H n).2 = true
          · rw [if_pos c] at hl ⊢
            rw [hl]
            have hb:=good_bound _ H rfl hgH n c
            have hle : (n : Int) < a.page + a.pages:=by
             have hne : ¬ H.length = 0:=by
              intro e
              have e' : H = []:=List.eq_nil_of_length_eq_zero e
              subst e';simp [findFrom] at c
             simp only [beq_iff_eq,Bool.or_eq_true,hne,false_or] at hfo
             have hle : (lastOf H).last0 <= a.page:=by
              unfold followB at hfo
              split at hfo
              · omega
              · simp at hfo;omega
             omega
            rw [if_pos (show n < k by omega),if_pos (show n < k + 1 by omega)]
          · rw [if_neg c] at hl ⊢
            by_cases d : n = k
            · subst d
              rw [if_pos (by rw [hit_mk];exact decide_eq_true (by omega)),if_pos (by omega)]
              show St.mk true a.prot a.zero = F n
              rw [h2,h3,<- hst,<- hm']
            · by_cases e : hit a n = true
              · rw [if_pos e] at hl
                have e2 : hit ⟨a.page,a.pages + 1,a.prot,a.zero⟩ n = true:=by
                 rw [hit_iff] at e;rw [hit_mk];exact decide_eq_true (by omega)
                rw [if_pos e2]
                show St.mk true a.prot a.zero = _
                rw [hl]
                rw [hit_iff] at e
                rw [if_pos (show n < k by omega),if_pos (show n < k + 1 by omega)]
              · have e2 : ¬ hit ⟨a.page,a.pages + 1,a.prot,a.zero⟩ n = true:=by
                 rw [hit_iff] at e;rw [hit_mk,decide_eq_true_eq];omega
                rw [if_neg e] at hl
                rw [if_neg e2,hl]
                by_cases f : n < k
                · rw [if_pos f,if_pos (by omega)]
                · rw [if_neg f,if_neg (by omega)]
        · rw [lastOf_snoc];show a.page + (a.pages + 1) = _;omega
        · rw [lastOf_snoc];show a.prot = (F k).p;rw [h2,hst]
        · rw [lastOf_snoc];show a.zero = (F k).z;rw [h3,hst]
        · have : (F k).m = false:=h
          rw [hm'] at this;cases this
    · have he' : stEq (F k) (lastTo F k) = false:=by simpa using he
      rw [if_neg he]
      refine ⟨?_,fun n=>?_,fun _=>⟨by simp,?_,?_,?_⟩,fun h=>?_⟩
      · rw [good_snoc,ih.good,Bool.true_and]
        simp only [okNext,Bool.and_eq_true,pagesB,protB,decide_eq_true_eq]
        refine ⟨⟨⟨by omega,by omega,by omega⟩,hF.prot k⟩,?_⟩
        by_cases h0 : G.length = 0
        · simp [h0]
        · simp only [Bool.or_eq_true,beq_iff_eq,h0,false_or]
          by_cases hl : (lastTo F k).m = true
          · obtain ⟨_,h1,h2,h3⟩:=ih.yes hl
            unfold followB
            rw [if_pos h1.symm]
            rcases stEq_ne _ _ he' with q | ⟨_,q⟩ | ⟨_,_,q⟩
            · rw [hm',hl] at q;simp at q
            · simp only [Bool.or_eq_true,bne_iff_ne,h2]
              left
              simpa using q
            · simp only [Bool.or_eq_true,bne_iff_ne,h3]
              right
              simpa using q
          · rcases ih.no (by simpa using hl) with h | h | h
            · exact absurd h h0
            · unfold followB
              rw [if_neg (by show ¬ (k : Int) = _;omega)]
              simpa using h
            · omega
      · rw [look_snoc]
        by_cases c : (findFrom G n).2 = true
        · rw [if_pos c,ih.look n]
          by_cases f : n < k
          · rw [if_pos f,if_pos (by omega)]
          · exfalso
            have:=look_hit G n (by rw [ih.look n,if_neg f])
            rw [c] at this;cases this
        · rw [if_neg c]
          have c' : (findFrom G n).2 = false:=by simpa using c
          by_cases d : n = k
          · subst d
            rw [if_pos (by rw [hit_mk];exact decide_eq_true (by omega)),if_pos (by omega)]
            show St.mk true (F n).p (F n).z = F n
            rw [<- hm']
          · rw [if_neg (by rw [hit_mk,decide_eq_true_eq];omega)]
            have hl:=ih.look n
            have e0 : AM.look G n = off:=by unfold AM.look;simp [c']
            rw [e0] at hl
            by_cases f : n < k
            · rw [if_pos f] at hl;rw [if_pos (by omega),hl]
            · rw [if_neg (by omega)]
      · rw [lastOf_snoc];show (k : Int) + 1 = _;omega
      · rw [lastOf_snoc];rfl
      · rw [lastOf_snoc];rfl
      · have : (F k).m = false:=h
        rw [hm'] at this;cases this
theorem gather_good (F : Nat -> St) (hF : Fine F) : good (gatherN F) = true:=(gather_inv F hF 256 (Nat.le_refl _)).good
theorem gather_look (F : Nat -> St) (hF : Fine F) (n : Nat) (hn : n < 256) : look (gatherN F) n = F n:=by
 have:=(gather_inv F hF 256 (Nat.le_refl _)).look n
 rw [if_pos hn] at this
 exact this
theorem spread_look (l : List Ar) : ∀ (m : Nat) (G : List Ar),G.length = m -> good G = true -> ∀ n : Nat,look G n = spreadTo G G.length n
 | 0,G,hm,_,n=>by
  have e : G = []:=List.eq_nil_of_length_eq_zero hm
  subst e;rfl
 | m + 1,G,hm,hg,n=>by
  rcases List.eq_nil_or_concat G with rfl | ⟨H,a,rfl⟩
  · simp at hm
  · rw [List.concat_eq_append] at *
    rw [good_snoc,Bool.and_eq_true] at hg
    have ih:=spread_look l m H (by simpa using hm) hg.1 n
    have hs : ∀ k,k <= H.length -> spreadTo (H ++ [a]) k = spreadTo H k:=by
     intro k
     induction k with
     | zero=>intro _;rfl
     | succ k ihk=>intro hk;simp only [spreadTo];rw [ihk (by omega),at_append_left H [a] k (by omega)]
    rw [List.length_append]
    show _ = spreadTo (H ++ [a]) (H.length + 1) n
    simp only [spreadTo]
    rw [hs H.length (Nat.le_refl _),at_append_last,look_snoc]
    simp only [layTo]
    by_cases c : (findFrom H n).2 = true
    · rw [if_pos c,ih]
      have hb:=good_bound _ H rfl hg.1 n c
      have hok:=hg.2
      simp only [okNext,Bool.and_eq_true] at hok
      have hfo:=hok.2
      have hne : ¬ H.length = 0:=by
       intro e
       have e' : H = []:=List.eq_nil_of_length_eq_zero e
       subst e';simp [findFrom] at c
      simp only [beq_iff_eq,Bool.or_eq_true,hne,false_or] at hfo
      have hle : (lastOf H).last0 <= a.page:=by
       unfold followB at hfo
       split at hfo
       · omega
       · simp at hfo;omega
      rw [if_neg (by omega)]
    · rw [if_neg c]
      have e0 : look H n = off:=by unfold look;simp [show (findFrom H n).2 = false by simpa using c]
      by_cases d : hit a n = true
      · rw [if_pos d,if_pos (by simpa [hit] using d)]
      · rw [if_neg d,if_neg (by simpa [hit] using d),<- ih,e0]
theorem good_of_check (l : List Ar) (h : checkN l = 0) : good l = true:=by
 unfold checkN at h
 split at h
 · simp at h
 · split at h
   · assumption
   · simp at h
theorem spreadTo_fine (l : List Ar) (hc : checkN l = 0) : ∀ k,k <= l.length -> (spreadTo l k 0).m = false /\ (∀ n,(spreadTo l k n).m = false -> spreadTo l k n = off) /\ (∀ n,0 <= (spreadTo l k n).p /\ (spreadTo l k n).p <= 3)
 | 0,_=>⟨rfl,fun n _=>rfl,fun n=>by simp [spreadTo,off]⟩
 | k + 1,hk=>by
  have ih:=spreadTo_fine l hc k (by omega)
  have ho:=okAt_pages l k (good_pages l hc k (by omega))
  refine ⟨?_,fun n=>?_,fun n=>?_⟩
  · simp only [spreadTo,layTo];rw [if_neg (by omega)];exact ih.1
  · simp only [spreadTo,layTo]
    split
    · intro h;simp at h
    · exact ih.2.1 n
  · simp only [spreadTo,layTo]
    split
    · exact ⟨ho.2.2.2.1,ho.2.2.2.2⟩
    · exact ih.2.2 n
theorem fine_spread (l : List Ar) (hc : checkN l = 0) : Fine (spreadN l):=by
 have h:=spreadTo_fine l hc l.length (Nat.le_refl _)
 exact ⟨h.1,h.2.1,h.2.2⟩
theorem fine_turned (F : Nat -> St) (hF : Fine F) (how : St -> St × Int) (page t : Int) (hp : 1 <= page)
  (hn : ∀ s,(s.m = false -> s = off) -> ((how s).1.m = false -> (how s).1 = off)) (hq : ∀ s,0 <= s.p /\ s.p <= 3 -> 0 <= (how s).1.p /\ (how s).1.p <= 3) : Fine (turned F how page t):=by
 refine ⟨?_,fun n=>?_,fun n=>?_⟩
 · simp only [turned];rw [if_neg (by omega)];exact hF.zero
 · simp only [turned]
   split
   · exact hn (F n) (hF.none n)
   · exact hF.none n
 · simp only [turned]
   split
   · exact hq (F n) (hF.prot n)
   · exact hF.prot n
theorem gather_len' (F : Nat -> St) (h0 : (F 0).m = false) : ∀ k,(gatherTo F (k + 1)).length <= k
 | 0=>by simp [gatherTo,h0]
 | k + 1=>by
  have ih:=gather_len' F h0 k
  rw [gatherTo]
  split
  · omega
  · split
    · rw [bump_length];omega
    · simp;omega
theorem check_gather (F : Nat -> St) (hF : Fine F) : checkN (gatherN F) = 0:=by
 have hl : (gatherN F).length <= 255:=gather_len' F hF.zero 255
 have hg:=gather_good F hF
 unfold checkN
 rw [if_neg (by omega),if_pos hg]
theorem find_of_look (l : List Ar) (hc : checkN l = 0) (F : Nat -> St) (p : Nat) (h : look l p = F p) : (findN l p).2 = (F p).m /\ (findN l p).1.prot = (F p).p /\ (findN l p).1.zero = (F p).z:=by
 have e : findN l p = findFrom l p:=by simp [findN,hc]
 rw [e,<- h]
 unfold look
 by_cases c : (findFrom l p).2 = true
 · simp [c]
 · have c' : (findFrom l p).2 = false:=by simpa using c
   rw [findFrom_miss l p c']
   simp [nil,off]
theorem find_gather (F : Nat -> St) (hF : Fine F) (p : Nat) (hp : p < 256) : (findN (gatherN F) p).2 = (F p).m /\ (findN (gatherN F) p).1.prot = (F p).p /\ (findN (gatherN F) p).1.zero = (F p).z :=
 find_of_look _ (check_gather F hF) F p (gather_look F hF p hp)
theorem find_spread (l : List Ar) (hc : checkN l = 0) (p : Nat) : (findN l p).2 = (spreadN l p).m /\ (findN l p).1.prot = (spreadN l p).p /\ (findN l p).1.zero = (spreadN l p).z :=
 find_of_look l hc (spreadN l) p (spread_look l _ l rfl (good_of_check l hc) p)
theorem fits_of_check (l : List Ar) (hc : checkN l = 0) : (∀ i,i < l.length -> Fits (at_ l i)) /\ l.length <= 140737488351232:=by
 refine ⟨fun i hi=>?_,by have:=good_len l hc;omega⟩
 have ho:=okAt_pages l i (good_pages l hc i hi)
 unfold Fits
 omega
theorem err_zero (F : Nat -> St) (how : St -> St × Int) : ∀ (c n : Nat),errFrom F how n c = 0 -> ∀ k,n <= k -> k < n + c -> (how (F k)).2 = 0
 | 0,n,_,k,h1,h2=>by omega
 | c + 1,n,h,k,h1,h2=>by
  simp only [errFrom] at h
  split at h
  · rename_i h0
    by_cases e : k = n
    · rw [e];exact h0
    · exact err_zero F how c (n + 1) h k (by omega) (by omega)
  · rename_i h0;exact absurd h h0
end AM
namespace AW
open Go.RowKit
theorem turn_err (l : List AM.Ar) (page pages q : Int) (how : AM.St -> AM.St × Int) (h : (AM.turnN l page pages q how).2 ≠ 0) : (AM.turnN l page pages q how).1 = []:=by
 unfold AM.turnN at h ⊢
 split
 · rename_i hc
   rw [if_pos hc] at h
   split
   · rename_i hp
     rw [if_pos hp] at h
     split
     · rename_i he
       rw [if_pos he] at h
       exact absurd rfl h
     · rfl
   · rfl
 · rfl
theorem turn_ok (l : List AM.Ar) (page pages q : Int) (how : AM.St -> AM.St × Int) (h : (AM.turnN l page pages q how).2 = 0) :
  AM.checkN l = 0 /\ AM.pagesB page pages = true /\ AM.protB q = true /\ AM.errFrom (AM.spreadN l) how page.toNat pages.toNat = 0 /\ (AM.turnN l page pages q how).1 = AM.gatherN (AM.turned (AM.spreadN l) how page (page + pages)):=by
 unfold AM.turnN at h ⊢
 split
 · rename_i hc
   rw [if_pos hc] at h
   split
   · rename_i hp
     rw [if_pos hp] at h
     rw [Bool.and_eq_true] at hp
     split
     · rename_i he
       exact ⟨hc,hp.1,hp.2,he,rfl⟩
     · rename_i he
       rw [if_neg he] at h
       exact absurd h he
   · rename_i hp
     rw [if_neg hp] at h
     simp at h
 · rename_i hc
   rw [if_neg hc] at h
   exact absurd h hc
theorem fine_map (l : List AM.Ar) (page t q : Int) (hc : AM.checkN l = 0) (hp : 1 <= page) (hq : 0 <= q /\ q <= 3) : AM.Fine (AM.turned (AM.spreadN l) (howMap q) page t) :=
 AM.fine_turned _ (AM.fine_spread l hc) _ _ _ hp (fun s _ h=>by
  unfold howMap at h ⊢
  cases hm : s.m
  · simp [hm] at h
  · simp [hm] at h) (fun s h=>by
  unfold howMap
  cases hm : s.m
  · simpa [hm] using hq
  · simpa [hm] using h)
theorem fine_unmap (l : List AM.Ar) (page t : Int) (hc : AM.checkN l = 0) (hp : 1 <= page) : AM.Fine (AM.turned (AM.spreadN l) howUnmap page t) :=
 AM.fine_turned _ (AM.fine_spread l hc) _ _ _ hp (fun s _ _=>rfl) (fun s _=>⟨by simp [howUnmap,AM.off],by simp [howUnmap,AM.off]⟩)
theorem fine_protect (l : List AM.Ar) (page t q : Int) (hc : AM.checkN l = 0) (hp : 1 <= page) (hq : 0 <= q /\ q <= 3) : AM.Fine (AM.turned (AM.spreadN l) (howProtect q) page t) :=
 AM.fine_turned _ (AM.fine_spread l hc) _ _ _ hp (fun s hs h=>by
  unfold howProtect at h ⊢
  cases hm : s.m
  · simp;exact hs hm
  · simp [hm] at h) (fun s h=>by
  unfold howProtect
  cases hm : s.m
  · simpa [hm] using h
  · simpa [hm] using hq)
theorem prot_iff (q : Int) : AM.protB q = true ↔ 0 <= q /\ q <= 3:=⟨fun h=>of_decide_eq_true h,fun h=>decide_eq_true h⟩
theorem map_keeps (l : List AM.Ar) (page pages q : Int) (h : (mapN l page pages q).2 = 0) :
  AM.checkN (mapN l page pages q).1 = 0 /\ (∀ p : Nat,1 <= p -> p <= 255 ->
   (page <= (p : Int) /\ (p : Int) < page + pages -> (AM.findN l p).2 = false /\ (AM.findN (mapN l page pages q).1 p).2 = true /\ (AM.findN (mapN l page pages q).1 p).1.prot = q /\ (AM.findN (mapN l page pages q).1 p).1.zero = true) /\
   (¬ (page <= (p : Int) /\ (p : Int) < page + pages) -> (AM.findN (mapN l page pages q).1 p).2 = (AM.findN l p).2 /\ (AM.findN (mapN l page pages q).1 p).1.prot = (AM.findN l p).1.prot /\ (AM.findN (mapN l page pages q).1 p).1.zero = (AM.findN l p).1.zero)):=by
 obtain ⟨hc,hpp,hq,he,hr⟩:=turn_ok _ _ _ _ _ h
 have hpb:=(AM.pagesB_iff page pages).1 hpp
 have hF:=fine_map l page (page + pages) q hc hpb.1 ((prot_iff q).1 hq)
 have hr' : (mapN l page pages q).1 = _:=hr
 rw [hr']
 refine ⟨AM.check_gather _ hF,fun p h1 h2=>?_⟩
 have fg:=AM.find_gather _ hF p (by omega)
 have fs:=AM.find_spread l hc p
 refine ⟨fun hin=>?_,fun hout=>?_⟩
 · have he':=AM.err_zero _ _ _ _ he p (by omega) (by omega)
   have hm : (AM.spreadN l p).m = false:=by
    unfold howMap at he'
    cases hm : (AM.spreadN l p).m
    · rfl
    · simp [hm] at he'
   simp only [AM.turned] at fg
   rw [if_pos hin] at fg
   unfold howMap at fg
   simp only [hm] at fg
   exact ⟨fs.1.trans hm,fg.1,fg.2.1,fg.2.2⟩
 · simp only [AM.turned] at fg
   rw [if_neg hout] at fg
   exact ⟨fg.1.trans fs.1.symm,fg.2.1.trans fs.2.1.symm,fg.2.2.trans fs.2.2.symm⟩
theorem unmap_keeps (l : List AM.Ar) (page pages : Int) (h : (unmapN l page pages).2 = 0) :
  AM.checkN (unmapN l page pages).1 = 0 /\ (∀ p : Nat,1 <= p -> p <= 255 ->
   (page <= (p : Int) /\ (p : Int) < page + pages -> (AM.findN (unmapN l page pages).1 p).2 = false) /\
   (¬ (page <= (p : Int) /\ (p : Int) < page + pages) -> (AM.findN (unmapN l page pages).1 p).2 = (AM.findN l p).2 /\ (AM.findN (unmapN l page pages).1 p).1.prot = (AM.findN l p).1.prot /\ (AM.findN (unmapN l page pages).1 p).1.zero = (AM.findN l p).1.zero)):=by
 obtain ⟨hc,hpp,hq,he,hr⟩:=turn_ok _ _ _ _ _ h
 have hpb:=(AM.pagesB_iff page pages).1 hpp
 have hF:=fine_unmap l page (page + pages) hc hpb.1
 have hr' : (unmapN l page pages).1 = _:=hr
 rw [hr']
 refine ⟨AM.check_gather _ hF,fun p h1 h2=>?_⟩
 have fg:=AM.find_gather _ hF p (by omega)
 have fs:=AM.find_spread l hc p
 refine ⟨fun hin=>?_,fun hout=>?_⟩
 · simp only [AM.turned] at fg
   rw [if_pos hin] at fg
   exact fg.1
 · simp only [AM.turned] at fg
   rw [if_neg hout] at fg
   exact ⟨fg.1.trans fs.1.symm,fg.2.1.trans fs.2.1.symm,fg.2.2.trans fs.2.2.symm⟩
theorem protect_keeps (l : List AM.Ar) (page pages q : Int) (h : (protectN l page pages q).2 = 0) :
  AM.checkN (protectN l page pages q).1 = 0 /\ (∀ p : Nat,1 <= p -> p <= 255 ->
   ((AM.findN (protectN l page pages q).1 p).2 = (AM.findN l p).2 /\ (AM.findN (protectN l page pages q).1 p).1.zero = (AM.findN l p).1.zero) /\
   (page <= (p : Int) /\ (p : Int) < page + pages -> (AM.findN (protectN l page pages q).1 p).2 = true /\ (AM.findN (protectN l page pages q).1 p).1.prot = q) /\
   (¬ (page <= (p : Int) /\ (p : Int) < page + pages) -> (AM.findN (protectN l page pages q).1 p).1.prot = (AM.findN l p).1.prot)):=by
 obtain ⟨hc,hpp,hq,he,hr⟩:=turn_ok _ _ _ _ _ h
 have hpb:=(AM.pagesB_iff page pages).1 hpp
 have hF:=fine_protect l page (page + pages) q hc hpb.1 ((prot_iff q).1 hq)
 have hr' : (protectN l page pages q).1 = _:=hr
 rw [hr']
 refine ⟨AM.check_gather _ hF,fun p h1 h2=>?_⟩
 have fg:=AM.find_gather _ hF p (by omega)
 have fs:=AM.find_spread l hc p
 simp only [AM.turned] at fg
 by_cases hin : page <= (p : Int) /\ (p : Int) < page + pages
 · have he':=AM.err_zero _ _ _ _ he p (by omega) (by omega)
   have hm : (AM.spreadN l p).m = true:=by
    unfold howProtect at he'
    cases hm : (AM.spreadN l p).m
    · simp [hm] at he'
    · rfl
   rw [if_pos hin] at fg
   unfold howProtect at fg
   simp only [hm,if_true] at fg
   exact ⟨⟨fg.1.trans (fs.1.trans hm).symm,fg.2.2.trans fs.2.2.symm⟩,fun _=>⟨fg.1,fg.2.1⟩,fun hout=>absurd hin hout⟩
 · rw [if_neg hin] at fg
   exact ⟨⟨fg.1.trans fs.1.symm,fg.2.2.trans fs.2.2.symm⟩,fun h=>absurd h hin,fun _=>fg.2.1.trans fs.2.1.symm⟩
theorem fit_map (l : List AM.Ar) (page pages q : Int) : AllFit (mapN l page pages q).1:=by
 by_cases h : (mapN l page pages q).2 = 0
 · exact AM.fits_of_check _ (map_keeps l page pages q h).1
 · rw [show (mapN l page pages q).1 = [] from turn_err _ _ _ _ _ h];exact fit_nil
end AW
namespace AW
open Go.RowKit Go.Deep
theorem cells24 : Tryz.prog.cellsOf 59 = 4:=by kernel_rfl
theorem cells3 : Tryz.prog.cellsOf 3 = 1:=by kernel_rfl
theorem cells4 : Tryz.prog.cellsOf 4 = 1:=by kernel_rfl
theorem i64_of (n : Int) (h : (Lit.int .i64 n).wf = true) : I64 n:=by
 simp only [Lit.wf,IntKind.min,IntKind.max,IntKind.signed,IntKind.bits,Bool.and_eq_true,decide_eq_true_eq,if_true] at h
 unfold I64
 omega
section
variable {H : Type} {enc : TypeId × Value -> H} {w : World} {base : Nat} {spare : Nat -> Bool} {held : Bool}
theorem one_area {n : Nat} {a : Addr} {cs : List Value} {x : DataW H × List MemPlace} (hc : w.cells? base a 4 = some cs) (h : DataW.trod enc Tryz.prog w base spare held n 59 cs = some x) :
  ∃ q : Int × Int × Int × Bool,w.cell? (a.add 0) = some (.int .i64 q.1) /\ w.cell? (a.add 1) = some (.int .i64 q.2.1) /\ w.cell? (a.add 2) = some (.int .i64 q.2.2.1) /\ w.cell? (a.add 3) = some (.bool q.2.2.2) /\ I64 q.1 /\ I64 q.2.1 /\ I64 q.2.2.1:=by
 obtain ⟨_,hlen,hcell⟩:=World.cells?_some hc
 obtain ⟨xs,k,hk,hxy,_,hxl,hf⟩:=DataW.trod_struct Tryz.underlying59 h
 match cs,hlen with
 | [v0,v1,v2,v3],_ =>
  have g0 : DataW.trod enc Tryz.prog w base spare held k 3 (([v0,v1,v2,v3].drop 0).take (Tryz.prog.cellsOf 3)) = xs[0]?:=hf 0 _ rfl
  have g1 : DataW.trod enc Tryz.prog w base spare held k 3 (([v0,v1,v2,v3].drop 1).take (Tryz.prog.cellsOf 3)) = xs[1]?:=hf 1 _ rfl
  have g2 : DataW.trod enc Tryz.prog w base spare held k 3 (([v0,v1,v2,v3].drop 2).take (Tryz.prog.cellsOf 3)) = xs[2]?:=hf 2 _ rfl
  have g3 : DataW.trod enc Tryz.prog w base spare held k 4 (([v0,v1,v2,v3].drop 3).take (Tryz.prog.cellsOf 4)) = xs[3]?:=hf 3 _ rfl
  simp only [cells3,cells4] at g0 g1 g2 g3
  have e0:=hcell 0 (by omega)
  have e1:=hcell 1 (by omega)
  have e2:=hcell 2 (by omega)
  have e3:=hcell 3 (by omega)
  match xs,hxl with
  | [y0,y1,y2,y3],_ =>
   obtain ⟨m0,c0,_,w0⟩:=DataW.trod_int Tryz.underlying3 (show DataW.trod enc Tryz.prog w base spare held k 3 [v0] = some y0 from g0)
   obtain ⟨m1,c1,_,w1⟩:=DataW.trod_int Tryz.underlying3 (show DataW.trod enc Tryz.prog w base spare held k 3 [v1] = some y1 from g1)
   obtain ⟨m2,c2,_,w2⟩:=DataW.trod_int Tryz.underlying3 (show DataW.trod enc Tryz.prog w base spare held k 3 [v2] = some y2 from g2)
   obtain ⟨b3,c3,_⟩:=DataW.trod_bool Tryz.underlying4 (show DataW.trod enc Tryz.prog w base spare held k 4 [v3] = some y3 from g3)
   simp only [List.cons.injEq,and_true] at c0 c1 c2 c3
   subst c0;subst c1;subst c2;subst c3
   exact ⟨(m0,m1,m2,b3),e0,e1,e2,e3,i64_of _ w0,i64_of _ w1,i64_of _ w2⟩
theorem open_areas {fuel : Nat} {a0 : Option Addr} {len cap : Nat} {x : DataW H × List MemPlace} (h : DataW.trod enc Tryz.prog w base spare held fuel 22 [.slice a0 len cap] = some x) :
  ∃ l : List AM.Ar,l.length = len /\ Has w (.slice a0 len cap) l /\ (∀ i,i < l.length -> AM.Fits (AM.at_ l i)) /\ (len = 0 ∨ ∃ el sp,x.1 = .slice el sp /\ el.length = len):=by
 rcases open_slice Tryz.underlying22 h with ⟨hcs,_⟩ | ⟨a,len',cap',m,n,D,Pl,hcs,hb,hl,hm,hmm,rfl,hx⟩
 · simp at hcs
   obtain ⟨rfl,rfl,rfl⟩:=hcs
   exact ⟨[],rfl,⟨none,0,rfl,.inl rfl⟩,fun i hi=>by simp at hi,.inl rfl⟩
 · simp at hcs
   obtain ⟨rfl,rfl,rfl⟩:=hcs
   have hlm : len <= m:=by rw [hmm];split <;> omega
   have each : ∀ i,i < len -> ∃ q : Int × Int × Int × Bool,w.cell? (a.add (i * 4)) = some (.int .i64 q.1) /\ w.cell? (a.add (i * 4 + 1)) = some (.int .i64 q.2.1) /\ w.cell? (a.add (i * 4 + 2)) = some (.int .i64 q.2.2.1) /\ w.cell? (a.add (i * 4 + 3)) = some (.bool q.2.2.2) /\ I64 q.1 /\ I64 q.2.1 /\ I64 q.2.2.1:=by
    intro i hi
    obtain ⟨cs',h1,h2⟩:=hx i (by omega)
    rw [cells24] at h1
    obtain ⟨q,e0,e1,e2,e3,f⟩:=one_area h1 h2
    rw [add_add] at e0 e1 e2 e3
    exact ⟨q,e0,e1,e2,e3,f⟩
   obtain ⟨g,hg⟩:=choose_lt each
   have hat : ∀ i,i < len -> AM.at_ ((List.range len).map fun i=>(⟨(g i).1,(g i).2.1,(g i).2.2.1,(g i).2.2.2⟩ : AM.Ar)) i = ⟨(g i).1,(g i).2.1,(g i).2.2.1,(g i).2.2.2⟩:=by
    intro i hi
    simp [AM.at_,hi]
   refine ⟨(List.range len).map fun i=>⟨(g i).1,(g i).2.1,(g i).2.2.1,(g i).2.2.2⟩,by simp,?_,fun i hi=>?_,.inr ⟨_,_,rfl,by simp⟩⟩
   · by_cases h0 : len = 0
     · subst h0
       exact ⟨some a,cap,by simp,.inl (by simp)⟩
     · obtain ⟨b,off,spot⟩:=a
       have hc:=(hg 0 (by omega)).1
       have hspot : spot = none:=by simpa [Addr.add] using World.cell?_spot hc
       subst hspot
       refine ⟨some ⟨b,off,none⟩,cap,by simp,.inr ⟨b,off,rfl,fun i hi=>?_⟩⟩
       have hi' : i < len:=by simpa using hi
       rw [hat i hi']
       obtain ⟨e0,e1,e2,e3,_⟩:=hg i hi'
       rw [Addr.add_lit] at e0 e1 e2 e3
       exact ⟨e0,by rw [Nat.add_assoc];exact e1,by rw [Nat.add_assoc];exact e2,by rw [Nat.add_assoc];exact e3⟩
   · have hi' : i < len:=by simpa using hi
     rw [hat i hi']
     obtain ⟨_,_,_,_,f1,f2,f3⟩:=hg i hi'
     exact ⟨f1,f2,f3⟩
end
end AW
end Go.Proofs.YtkdigjpejnebkaaGreat
