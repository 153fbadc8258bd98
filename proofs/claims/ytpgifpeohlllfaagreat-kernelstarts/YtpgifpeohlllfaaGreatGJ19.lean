import Derived.Test.YtpgifpeohlllfaaGreatGJ18
import Derived.Test.YtpgifpeohlllfaaGreatGJ12
import Derived.Test.YtpgifpeohlllfaaGreatGJ03
set_option maxHeartbeats 20000000
set_option linter.unusedVariables false
set_option maxRecDepth 100000
set_option linter.unusedSimpArgs false
namespace Go.Proofs.YtpgifpeohlllfaaGreat
namespace KM
open Go.RowKit
theorem ext_getD {α : Type} (d : α) : ∀ (l m : List α),l.length = m.length -> (∀ i,i < l.length -> l.getD i d = m.getD i d) -> l = m
 | [],[],_,_=>rfl
 | [],b :: r,h,_=>by simp at h
 | a :: r,[],h,_=>by simp at h
 | a :: r,b :: t,h,g=>by
  have h0 : a = b:=g 0 (Nat.zero_lt_succ _)
  have h1:=ext_getD d r t (by simpa using h) (fun i hi=>g (i + 1) (Nat.succ_lt_succ hi))
  rw [h0,h1]
def cntF (f : Fr) (d : Int) : Fr:=if f.refs + d = 0 then fr0 else ⟨f.data,f.refs + d,f.dirty,f.seen⟩
def cntS (f : Sl) (d : Int) : Sl:=if f.refs + d = 0 then sl0 else ⟨f.data,f.refs + d⟩
def countK (k : Kn) (e : En) (d : Int) : Kn:=if e.kind = 1 then { k with frames:=k.frames.set e.loc.toNat (cntF (frAt k.frames e.loc.toNat) d) } else { k with slots:=k.slots.set e.loc.toNat (cntS (slAt k.slots e.loc.toNat) d) }
theorem count_leave (k : Kn) (e : En) : countK k e (-1) = leaveK k e:=by
 have h1 : ∀ f : Fr,cntF f (-1) = lessF f:=fun f=>by unfold cntF lessF;rw [<- Int.sub_eq_add_neg]
 have h2 : ∀ f : Sl,cntS f (-1) = lessS f:=fun f=>by unfold cntS lessS;rw [<- Int.sub_eq_add_neg]
 unfold countK leaveK
 rw [h1,h2]
theorem leave_spaces (k : Kn) (e : En) : (leaveK k e).spaces = k.spaces:=by unfold leaveK;split <;> rfl
theorem leave_rest (k : Kn) (e : En) : (leaveK k e).sheets = k.sheets /\ (leaveK k e).hand = k.hand:=by unfold leaveK;split <;> exact ⟨rfl,rfl⟩
theorem leave_len (k : Kn) (e : En) : (leaveK k e).frames.length = k.frames.length /\ (leaveK k e).slots.length = k.slots.length:=by
 unfold leaveK
 split
 · exact ⟨List.length_set,rfl⟩
 · exact ⟨rfl,List.length_set⟩
def setE (k : Kn) (j : Nat) (es : List En) : Kn:={ k with spaces:=k.spaces.set j (withE (spAt k.spaces j) es) }
theorem leave_setE (k : Kn) (j : Nat) (es : List En) (e : En) : leaveK (setE k j es) e = setE (leaveK k e) j es:=by unfold leaveK setE;split <;> rfl
theorem setE_setE (k : Kn) (j : Nat) (hj : j < k.spaces.length) (es fs : List En) : setE (setE k j es) j fs = setE k j fs:=by
 unfold setE
 simp only [List.set_set]
 rw [spAt_set _ _ _ _ hj,if_pos rfl]
 rfl
theorem setE_self (k : Kn) (j : Nat) (hj : j < k.spaces.length) : setE k j (spAt k.spaces j).ents = k:=by
 unfold setE
 have : k.spaces.set j (withE (spAt k.spaces j) (spAt k.spaces j).ents) = k.spaces:=ext_getD sp0 _ _ List.length_set (fun i hi=>by
  have:=spAt_set k.spaces j i (withE (spAt k.spaces j) (spAt k.spaces j).ents) hj
  unfold spAt at this ⊢
  rw [this]
  by_cases c : j = i
  · rw [if_pos c,c];rfl
  · rw [if_neg c])
 rw [this]
theorem setE_at (k : Kn) (j : Nat) (hj : j < k.spaces.length) (es : List En) : (spAt (setE k j es).spaces j).ents = es:=by
 show (spAt (k.spaces.set j _) j).ents = es
 rw [spAt_set _ _ _ _ hj,if_pos rfl]
 rfl
def cutTo (k : Kn) (es : List En) (p : En -> Bool) : Nat -> Kn
 | 0=>k
 | n + 1=>if p (enAt es n) then leaveK (cutTo k es p n) (enAt es n) else cutTo k es p n
def keepE (es : List En) (p : En -> Bool) : List En:=es.filter fun e=>!p e
def forgetK (k : Kn) (j : Nat) (p : En -> Bool) : Kn:=setE (cutTo k (spAt k.spaces j).ents p (spAt k.spaces j).ents.length) j (keepE (spAt k.spaces j).ents p)
theorem cut_spaces (k : Kn) (es : List En) (p : En -> Bool) : ∀ n,(cutTo k es p n).spaces = k.spaces
 | 0=>rfl
 | n + 1=>by
  unfold cutTo
  split
  · rw [leave_spaces,cut_spaces k es p n]
  · exact cut_spaces k es p n
theorem cut_rest (k : Kn) (es : List En) (p : En -> Bool) : ∀ n,(cutTo k es p n).sheets = k.sheets /\ (cutTo k es p n).hand = k.hand /\ (cutTo k es p n).frames.length = k.frames.length /\ (cutTo k es p n).slots.length = k.slots.length
 | 0=>⟨rfl,rfl,rfl,rfl⟩
 | n + 1=>by
  have ih:=cut_rest k es p n
  unfold cutTo
  split
  · have a:=leave_rest (cutTo k es p n) (enAt es n)
    have b:=leave_len (cutTo k es p n) (enAt es n)
    exact ⟨a.1.trans ih.1,a.2.trans ih.2.1,b.1.trans ih.2.2.1,b.2.trans ih.2.2.2⟩
  · exact ih
theorem drop_cons (es : List En) (n : Nat) (h : n < es.length) : es.drop n = enAt es n :: es.drop (n + 1):=by
 rw [List.drop_eq_getElem_cons h]
 unfold enAt
 rw [List.getD_eq_getElem?_getD,List.getElem?_eq_getElem h]
 rfl
theorem keep_take (es : List En) (p : En -> Bool) (n : Nat) (h : n < es.length) : keepE (es.take (n + 1)) p = keepE (es.take n) p ++ (if p (enAt es n) then [] else [enAt es n]):=by
 unfold keepE
 rw [take_succ es n h,List.filter_append]
 congr 1
 cases g : p (enAt es n) <;> simp [g]
theorem forget_part {k : Kn} (h : RightK k) {j : Nat} (hj : j < k.spaces.length) (p : En -> Bool) : ∀ n,n <= (spAt k.spaces j).ents.length -> RightK (setE (cutTo k (spAt k.spaces j).ents p n) j (keepE ((spAt k.spaces j).ents.take n) p ++ (spAt k.spaces j).ents.drop n))
 | 0,_=>by
  have : keepE ((spAt k.spaces j).ents.take 0) p ++ (spAt k.spaces j).ents.drop 0 = (spAt k.spaces j).ents:=rfl
  rw [this]
  show RightK (setE k j (spAt k.spaces j).ents)
  rw [setE_self k j hj];exact h
 | n + 1,hn=>by
  have ih:=forget_part h hj p n (by omega)
  have hlt : n < (spAt k.spaces j).ents.length:=by omega
  have hj1 : j < (cutTo k (spAt k.spaces j).ents p n).spaces.length:=by rw [cut_spaces];exact hj
  rw [drop_cons _ n hlt] at ih
  rw [keep_take _ p n hlt]
  unfold cutTo
  cases g : p (enAt (spAt k.spaces j).ents n) with
  | true =>
   rw [if_pos rfl,if_pos rfl,List.append_nil]
   have hj2 : j < (setE (cutTo k (spAt k.spaces j).ents p n) j (keepE ((spAt k.spaces j).ents.take n) p ++ enAt (spAt k.spaces j).ents n :: (spAt k.spaces j).ents.drop (n + 1))).spaces.length:=by
    show j < List.length (List.set _ _ _)
    rw [List.length_set];exact hj1
   have:=cut_right ih hj2 (setE_at _ j hj1 _)
   have e : cutK (setE (cutTo k (spAt k.spaces j).ents p n) j (keepE ((spAt k.spaces j).ents.take n) p ++ enAt (spAt k.spaces j).ents n :: (spAt k.spaces j).ents.drop (n + 1))) j (keepE ((spAt k.spaces j).ents.take n) p ++ (spAt k.spaces j).ents.drop (n + 1)) (enAt (spAt k.spaces j).ents n) = setE (leaveK (cutTo k (spAt k.spaces j).ents p n) (enAt (spAt k.spaces j).ents n)) j (keepE ((spAt k.spaces j).ents.take n) p ++ (spAt k.spaces j).ents.drop (n + 1)):=by
    show leaveK (setE (setE _ j _) j _) _ = _
    rw [setE_setE _ j hj1,leave_setE]
   rw [e] at this
   exact this
  | false =>
   rw [if_neg (by simp),if_neg (by simp),List.append_assoc]
   exact ih
theorem forget_right {k : Kn} (h : RightK k) {j : Nat} (hj : j < k.spaces.length) (p : En -> Bool) : RightK (forgetK k j p):=by
 have:=forget_part h hj p _ (Nat.le_refl _)
 rw [List.take_length,List.drop_length,List.append_nil] at this
 exact this
theorem forget_spaces (k : Kn) (j : Nat) (p : En -> Bool) : (forgetK k j p).spaces = k.spaces.set j (withE (spAt k.spaces j) (keepE (spAt k.spaces j).ents p)):=by
 show ((cutTo k (spAt k.spaces j).ents p _).spaces).set j _ = _
 rw [cut_spaces]
theorem forget_rest (k : Kn) (j : Nat) (p : En -> Bool) : (forgetK k j p).sheets = k.sheets /\ (forgetK k j p).hand = k.hand /\ (forgetK k j p).frames.length = k.frames.length /\ (forgetK k j p).slots.length = k.slots.length:=cut_rest k _ p _
theorem cut_one (k : Kn) (i : Nat) (es : List En) : ∀ n,∃ x,(cutTo k es (isIn (i : Int)) n).frames = k.frames.set i x /\ (cutTo k es (isIn (i : Int)) n).slots = k.slots
 | 0=>⟨frAt k.frames i,by
   show k.frames = _
   refine (ext_getD fr0 _ _ List.length_set (fun m hm=>?_)).symm
   rw [List.length_set] at hm
   by_cases c : i = m
   · subst c;rw [getD_set_self _ _ _ _ hm];rfl
   · rw [getD_set_ne _ _ _ _ _ c],rfl⟩
 | n + 1=>by
  obtain ⟨x,h1,h2⟩:=cut_one k i es n
  unfold cutTo
  split
  · next g =>
    have g:=isIn_iff.1 g
    unfold leaveK
    rw [if_pos g.1,g.2,Int.toNat_natCast]
    refine ⟨lessF (frAt (k.frames.set i x) i),?_,h2⟩
    show (cutTo k es (isIn (i : Int)) n).frames.set i _ = _
    rw [h1,List.set_set]
  · exact ⟨x,h1,h2⟩
def outTo (k : Kn) (i : Nat) : Nat -> Kn
 | 0=>k
 | n + 1=>forgetK (outTo k i n) n (isIn (i : Int))
theorem out_parts {k : Kn} (h : RightK k) (i : Nat) : ∀ n,n <= k.spaces.length -> RightK (outTo k i n) /\ (outTo k i n).sheets = k.sheets /\ (outTo k i n).hand = k.hand /\ (∃ x,(outTo k i n).frames = k.frames.set i x) /\ (outTo k i n).slots = k.slots /\ (outTo k i n).spaces.length = k.spaces.length /\ ∀ m,m < k.spaces.length -> spAt (outTo k i n).spaces m = if m < n then outS i (spAt k.spaces m) else spAt k.spaces m
 | 0,_=>by
  obtain ⟨x,hx,_⟩:=cut_one k i [] 0
  exact ⟨h,rfl,rfl,⟨x,hx⟩,rfl,rfl,fun m _=>by rw [if_neg (by omega)];rfl⟩
 | n + 1,hn=>by
  obtain ⟨r,h1,h2,⟨x,h3⟩,h4,h5,h6⟩:=out_parts h i n (by omega)
  have hj : n < (outTo k i n).spaces.length:=by omega
  have fr:=forget_rest (outTo k i n) n (isIn (i : Int))
  obtain ⟨y,c1,c2⟩:=cut_one (outTo k i n) i (spAt (outTo k i n).spaces n).ents (spAt (outTo k i n).spaces n).ents.length
  refine ⟨forget_right r hj _,fr.1.trans h1,fr.2.1.trans h2,⟨y,?_⟩,?_,?_,fun m hm=>?_⟩
  · show (cutTo _ _ _ _).frames = _
    rw [c1,h3,List.set_set]
  · show (cutTo _ _ _ _).slots = _
    rw [c2,h4]
  · show (forgetK _ _ _).spaces.length = _
    rw [forget_spaces,List.length_set];exact h5
  · show spAt (forgetK _ _ _).spaces m = _
    rw [forget_spaces,spAt_set _ _ _ _ hj]
    by_cases c : n = m
    · subst c
      rw [if_pos rfl,if_pos (by omega),h6 n hm,if_neg (by omega)]
      rfl
    · rw [if_neg c,h6 m hm]
      by_cases d : m < n
      · rw [if_pos d,if_pos (by omega)]
      · rw [if_neg d,if_neg (by omega)]
theorem out_drop {k : Kn} (h : RightK k) {i : Nat} (hi : i < k.frames.length) : outTo k i k.spaces.length = dropA k i:=by
 obtain ⟨r,h1,h2,⟨x,h3⟩,h4,h5,h6⟩:=out_parts h i k.spaces.length (Nat.le_refl _)
 have hs : (outTo k i k.spaces.length).spaces = k.spaces.map (outS i):=by
  refine ext_getD sp0 _ _ (by rw [h5,List.length_map]) (fun m hm=>?_)
  have hm' : m < k.spaces.length:=by omega
  have:=h6 m hm'
  rw [if_pos hm'] at this
  have g:=spAt_map (outS i) k.spaces m hm'
  unfold spAt at this g
  rw [this,g]
 have hf:=r.frm i (by rw [h3,List.length_set];exact hi)
 have hz : names (outTo k i k.spaces.length).spaces 1 i = []:=by
  rw [hs]
  exact names_none _ _ _ _ (fun s _=>nm_out_nil s.areas i s.ents)
 have hx : x = fr0:=by
  have:=hf.zero hz
  rw [h3] at this
  unfold frAt at this
  rw [getD_set_self _ _ _ _ hi] at this
  exact this
 have : ∀ a b : Kn,a.sheets = b.sheets -> a.frames = b.frames -> a.slots = b.slots -> a.spaces = b.spaces -> a.hand = b.hand -> a = b:=fun a b e1 e2 e3 e4 e5=>by
  cases a;cases b;simp_all
 exact this _ _ h1 (by rw [h3,hx];rfl) h4 hs h2
theorem one_in {k : Kn} (h : RightK k) {i : Nat} (hi : i < k.frames.length) {j : Nat} (hj : j < k.spaces.length) {a b : Nat} (ha : a < (spAt k.spaces j).ents.length) (hb : b < (spAt k.spaces j).ents.length) (h1 : isIn (i : Int) (enAt (spAt k.spaces j).ents a) = true) (h2 : isIn (i : Int) (enAt (spAt k.spaces j).ents b) = true) : a = b:=by
 have hm1:=name_of hj (getD_mem (d:=en0) ha)
 have hm2:=name_of hj (getD_mem (d:=en0) hb)
 have g1:=isIn_iff.1 h1
 have g2:=isIn_iff.1 h2
 unfold enAt at g1 g2
 rw [g1.1,g1.2] at hm1
 rw [g2.1,g2.2] at hm2
 have e:=(h.frm i hi).one _ hm1 _ hm2
 injection e with e _
 have hr:=(h.sp hj).rise
 have hp:=List.pairwise_iff_getElem.1 hr
 rcases Nat.lt_trichotomy a b with c | c | c
 · have:=hp a b (by simpa using ha) (by simpa using hb) c
   simp only [List.getElem_map] at this
   rw [List.getD_eq_getElem?_getD,List.getElem?_eq_getElem ha,List.getD_eq_getElem?_getD,List.getElem?_eq_getElem hb] at e
   simp only [Option.getD_some] at e
   omega
 · exact c
 · have:=hp b a (by simpa using hb) (by simpa using ha) c
   simp only [List.getElem_map] at this
   rw [List.getD_eq_getElem?_getD,List.getElem?_eq_getElem ha,List.getD_eq_getElem?_getD,List.getElem?_eq_getElem hb] at e
   simp only [Option.getD_some] at e
   omega
theorem swap_first (i s : Int) (es : List En) (n : Nat) (hn : n < es.length) (h : isIn i (enAt es n) = true) (ho : ∀ m,m < es.length -> isIn i (enAt es m) = true -> m = n) : es.set n ⟨(enAt es n).page,2,s⟩ = swapE i s es:=by
 refine ext_getD en0 _ _ (by unfold swapE;rw [List.length_set,List.length_map]) (fun m hm=>?_)
 rw [List.length_set] at hm
 unfold swapE
 rw [getD_map _ en0 en0 es m hm]
 by_cases c : n = m
 · subst c
   rw [getD_set_self _ _ _ _ hm]
   unfold enAt at h ⊢
   rw [if_pos h]
 · rw [getD_set_ne _ _ _ _ _ c]
   have : isIn i (es.getD m en0) = false:=by
    cases g : isIn i (es.getD m en0) with
    | false=>rfl
    | true=>exact absurd (ho m hm g).symm c
   rw [this]
   rfl
theorem swap_none (i s : Int) (es : List En) (h : ∀ m,m < es.length -> isIn i (enAt es m) = false) : swapE i s es = es:=by
 refine ext_getD en0 _ _ (by unfold swapE;rw [List.length_map]) (fun m hm=>?_)
 have hm' : m < es.length:=by unfold swapE at hm;rw [List.length_map] at hm;exact hm
 unfold swapE
 rw [getD_map _ en0 en0 es m hm']
 have:=h m hm'
 unfold enAt at this
 rw [this]
 rfl
def goes (l : List AM.Ar) (e : En) : Bool:=!(AM.findN l e.page).2
def shareTo (k : Kn) (es : List En) : Nat -> Kn
 | 0=>k
 | n + 1=>countK (shareTo k es n) (enAt es n) 1
def forkK (k : Kn) (j : Nat) : Kn:={ shareTo k (spAt k.spaces j).ents (spAt k.spaces j).ents.length with spaces:=(shareTo k (spAt k.spaces j).ents (spAt k.spaces j).ents.length).spaces ++ [spAt k.spaces j] }
def moreF (f : Fr) (c : Nat) : Fr:=⟨f.data,f.refs + c,f.dirty,f.seen⟩
def moreS (f : Sl) (c : Nat) : Sl:=⟨f.data,f.refs + c⟩
theorem moreF_zero (f : Fr) : moreF f 0 = f:=by unfold moreF;simp
theorem moreS_zero (f : Sl) : moreS f 0 = f:=by unfold moreS;simp
theorem share_parts {k : Kn} (h : RightK k) {j : Nat} (hj : j < k.spaces.length) : ∀ m,m <= (spAt k.spaces j).ents.length -> (shareTo k (spAt k.spaces j).ents m).sheets = k.sheets /\ (shareTo k (spAt k.spaces j).ents m).hand = k.hand /\ (shareTo k (spAt k.spaces j).ents m).spaces = k.spaces /\ (shareTo k (spAt k.spaces j).ents m).frames.length = k.frames.length /\ (shareTo k (spAt k.spaces j).ents m).slots.length = k.slots.length /\
  (∀ n,n < k.frames.length -> frAt (shareTo k (spAt k.spaces j).ents m).frames n = moreF (frAt k.frames n) (nm (spAt k.spaces j).areas 1 n ((spAt k.spaces j).ents.take m)).length) /\
  (∀ n,n < k.slots.length -> slAt (shareTo k (spAt k.spaces j).ents m).slots n = moreS (slAt k.slots n) (nm (spAt k.spaces j).areas 2 n ((spAt k.spaces j).ents.take m)).length)
 | 0,_=>⟨rfl,rfl,rfl,rfl,rfl,fun n _=>(moreF_zero _).symm,fun n _=>(moreS_zero _).symm⟩
 | m + 1,hm=>by
  obtain ⟨h1,h2,h3,h4,h5,h6,h7⟩:=share_parts h hj m (by omega)
  have hlt : m < (spAt k.spaces j).ents.length:=by omega
  have hin : enAt (spAt k.spaces j).ents m ∈ (spAt k.spaces j).ents:=getD_mem hlt
  rw [take_succ _ m hlt]
  obtain ⟨e,he⟩ : ∃ e,e = enAt (spAt k.spaces j).ents m:=⟨_,rfl⟩
  obtain ⟨q,hq⟩ : ∃ q,q = shareTo k (spAt k.spaces j).ents m:=⟨_,rfl⟩
  rw [<- he] at hin ⊢
  have hs : shareTo k (spAt k.spaces j).ents (m + 1) = countK q e 1:=by rw [hq,he];rfl
  rw [<- hq] at h1 h2 h3 h4 h5 h6 h7
  rw [hs]
  have addF : ∀ (f : Fr) (a b : Nat),moreF (moreF f a) b = moreF f (a + b):=fun f a b=>by unfold moreF;congr 1;show f.refs + _ + _ = _;omega
  have addS : ∀ (f : Sl) (a b : Nat),moreS (moreS f a) b = moreS f (a + b):=fun f a b=>by unfold moreS;congr 1;show f.refs + _ + _ = _;omega
  rcases loc_bd h hj hin with b | b
  · have hc : countK q e 1 = { q with frames:=q.frames.set e.loc.toNat (cntF (frAt q.frames e.loc.toNat) 1) }:=by unfold countK;rw [if_pos b.1]
    rw [hc]
    refine ⟨h1,h2,h3,by show (q.frames.set _ _).length = _;rw [List.length_set];exact h4,h5,fun n hn=>?_,fun n hn=>?_⟩
    · show frAt (q.frames.set _ _) n = _
      rw [frAt_set _ _ _ _ (by rw [h4];exact b.2.2),nm_append,List.length_append]
      by_cases c : e.loc.toNat = n
      · rw [if_pos c,nm_yes _ (show e.kind = 1 /\ e.loc = (n : Int) by omega),<- addF,<- h6 n hn,c]
        have hr : 0 <= (frAt q.frames n).refs:=by
         rw [h6 n hn]
         have:=(h.frm n hn).refs
         show 0 <= (frAt k.frames n).refs + _
         omega
        unfold cntF
        rw [if_neg (by omega)]
        rfl
      · rw [if_neg c,nm_no _ (show ¬ (e.kind = 1 /\ e.loc = (n : Int)) by omega),h6 n hn]
        rfl
    · show slAt q.slots n = _
      rw [nm_append,nm_no _ (show ¬ (e.kind = 2 /\ e.loc = (n : Int)) by omega),h7 n hn,List.append_nil]
  · have hc : countK q e 1 = { q with slots:=q.slots.set e.loc.toNat (cntS (slAt q.slots e.loc.toNat) 1) }:=by unfold countK;rw [if_neg (by omega)]
    rw [hc]
    refine ⟨h1,h2,h3,h4,by show (q.slots.set _ _).length = _;rw [List.length_set];exact h5,fun n hn=>?_,fun n hn=>?_⟩
    · show frAt q.frames n = _
      rw [nm_append,nm_no _ (show ¬ (e.kind = 1 /\ e.loc = (n : Int)) by omega),h6 n hn,List.append_nil]
    · show slAt (q.slots.set _ _) n = _
      rw [slAt_set _ _ _ _ (by rw [h5];exact b.2.2),nm_append,List.length_append]
      by_cases c : e.loc.toNat = n
      · rw [if_pos c,nm_yes _ (show e.kind = 2 /\ e.loc = (n : Int) by omega),<- addS,<- h7 n hn,c]
        have hr : 0 <= (slAt q.slots n).refs:=by
         rw [h7 n hn]
         have:=(h.slt n hn).refs
         show 0 <= (slAt k.slots n).refs + _
         omega
        unfold cntS
        rw [if_neg (by omega)]
        rfl
      · rw [if_neg c,nm_no _ (show ¬ (e.kind = 2 /\ e.loc = (n : Int)) by omega),h7 n hn]
        rfl
structure Forked (k : Kn) (j : Nat) (f : Kn) : Prop where
 sheets : f.sheets = k.sheets
 hand : f.hand = k.hand
 spaces : f.spaces = k.spaces ++ [spAt k.spaces j]
 nf : f.frames.length = k.frames.length
 ns : f.slots.length = k.slots.length
 frm : ∀ n,n < k.frames.length -> frAt f.frames n = moreF (frAt k.frames n) (nameIn (spAt k.spaces j) 1 n).length
 slt : ∀ n,n < k.slots.length -> slAt f.slots n = moreS (slAt k.slots n) (nameIn (spAt k.spaces j) 2 n).length
theorem ent_mem {es : List En} {p : Int} {e : En} (h : entOf es p = some e) : e ∈ es:=List.mem_of_find?_eq_some h
theorem ent_page {es : List En} {p : Int} {e : En} (h : entOf es p = some e) : e.page = p:=by
 have:=List.find?_some h
 simpa using this
theorem peek_eq {a b : Kn} {m n : Nat} {p : Int} (hE : entOf (spAt a.spaces m).ents p = entOf (spAt b.spaces n).ents p) (hd : ∀ x,entOf (spAt a.spaces m).ents p = some x -> (x.kind = 1 -> (frAt a.frames x.loc.toNat).data = (frAt b.frames x.loc.toNat).data) /\ (x.kind ≠ 1 -> (slAt a.slots x.loc.toNat).data = (slAt b.slots x.loc.toNat).data)) (hf : entOf (spAt a.spaces m).ents p = none -> fillK a.sheets p (AM.findN (spAt a.spaces m).areas p).1.zero = fillK b.sheets p (AM.findN (spAt b.spaces n).areas p).1.zero) : peekK a m p = peekK b n p:=by
 unfold peekK
 rw [<- hE]
 cases g : entOf (spAt a.spaces m).ents p with
 | none=>exact hf g
 | some x =>
  have:=hd x g
  by_cases c : x.kind = 1
  · simp only [if_pos c];exact this.1 c
  · simp only [if_neg c];exact this.2 c
theorem spAt_snoc (l : List Sp) (s : Sp) (m : Nat) : spAt (l ++ [s]) m = if m < l.length then spAt l m else if m = l.length then s else sp0:=by
 unfold spAt
 rw [List.getD_eq_getElem?_getD,List.getD_eq_getElem?_getD]
 by_cases h : m < l.length
 · rw [if_pos h,List.getElem?_append_left h]
 · rw [if_neg h,List.getElem?_append_right (by omega)]
   by_cases h2 : m = l.length
   · rw [if_pos h2,h2,Nat.sub_self];rfl
   · rw [if_neg h2]
     obtain ⟨d,hd⟩ : ∃ d,m - l.length = d + 1:=⟨m - l.length - 1,by omega⟩
     rw [hd];rfl
end KM
namespace KO
open Go.RowKit GK
open FW (hideC add_below)
open KW (cellFr cellSl cellEn HasRow KAt HasK cellsK)
open KS (Lc cellLc lc0 lcAt blk SpOwn)
variable {lo mb : Nat} {tt : TypeId} {X : List Value} {w : World} {S : St} {k : KM.Kn}
theorem lcAt_snoc (L : List Lc) (l : Lc) (k : Nat) : lcAt (L ++ [l]) k = if k < L.length then lcAt L k else if k = L.length then l else lc0:=by
 unfold lcAt
 rw [List.getD_eq_getElem?_getD,List.getD_eq_getElem?_getD]
 by_cases h : k < L.length
 · rw [if_pos h,List.getElem?_append_left h]
 · rw [if_neg h,List.getElem?_append_right (by omega)]
   by_cases h2 : k = L.length
   · rw [if_pos h2,h2,Nat.sub_self];rfl
   · rw [if_neg h2]
     obtain ⟨d,hd⟩ : ∃ d,k - L.length = d + 1:=⟨k - L.length - 1,by omega⟩
     rw [hd];rfl
def labP (S : St) (v : Value) (l : Lc) : Nat -> Lb:=fun b=>if v.ownBlock = some b then .spaces else if l.va.ownBlock = some b then .areas S.L.length else if l.vp.ownBlock = some b then .ents S.L.length else S.lab b
theorem Km.push {w2 w4 : World} {v' : Value} {l : Lc} {s : KM.Sp} {O : Obj} (h : Km lo mb tt X w S k) (hlo : lo <= w.heap.size) (hb2 : Below w.heap.size w w2)
  (hso : SpOwn w.heap.size w2 l s) (hne : ∀ b,blk l.vp b -> ¬ blk l.va b) (hgr : (w2.alloc O).grownBy w4 S.vP.ownBlock) (hown : w4.ownsRow lo 43 3 v' (S.L.length + 1) (S.L.flatMap cellLc ++ cellLc l))
  (hat : v'.ownBlock = S.vP.ownBlock ∨ v'.ownBlock = some (w2.alloc O).heap.size) :
  Km lo mb tt X (w4.setCell ⟨mb,3,none⟩ v') ⟨labP S v' l,S.vS,S.vF,S.vL,v',S.L ++ [l]⟩ { k with spaces:=k.spaces ++ [s] } /\ (∀ b,b < w.heap.size -> S.lab b = .no -> labP S v' l b = .no) /\ Kp (fun b=>S.lab b ≠ .no) w (w4.setCell ⟨mb,3,none⟩ v'):=by
 have s1:=hb2.size
 have s2:=hgr.size
 have hz : (w2.alloc O).heap.size = w2.heap.size + 1:=World.size_alloc _ _
 rw [hz] at s2 hat
 have kA : Kp (blk S.vP) w w2:=Kp.ofBelow hb2
 have kB : Kp (blk S.vP) w2 (w2.alloc O):=Kp.alloc _ w2 O
 have kC : Kp (blk S.vP) (w2.alloc O) w4:=Kp.grown hgr (fun _ e=>e)
 have kD:=kA.trans (kB.trans kC (fun _ _ g=>g)) (fun _ _ g=>g)
 have hset : Kp (fun b=>b = mb) w4 (w4.setCell ⟨mb,3,none⟩ v'):=Kp.set _ _ _ _ rfl
 have eA : ∀ b,blk l.va b ∨ blk l.vp b -> w.heap.size <= b /\ b < w2.heap.size:=fun b hb=>by
  rcases hb with g | g
  · exact hso.areas.lt b g
  · exact hso.pages.lt b g
 have hvb : ∀ b,blk S.vP b -> b < w.heap.size:=fun b hb=>(h.spaces.lt b hb).2
 have hv4 : ∀ b,blk v' b -> blk S.vP b ∨ b = w2.heap.size + 1:=fun b hb=>by
  unfold blk at hb ⊢
  rcases hat with e | e
  · exact .inl (by rw [<- e];exact hb)
  · right
    rw [e] at hb
    injection hb with hb
    exact hb.symm
 have hmb:=B.isLt h.head
 have old : ∀ b c,S.lab b = c -> c ≠ .no -> c ≠ .spaces -> labP S v' l b = c:=fun b c e h1 h2=>by
  have hb:=(h.bnd b (by rw [e];exact h1)).2
  unfold labP
  rw [if_neg,if_neg,if_neg,e]
  · intro x;have:=eA b (.inr x);omega
  · intro x;have:=eA b (.inl x);omega
  · intro x
    rcases hv4 b x with g | g
    · exact h2 (by rw [<- e];exact h.lP b g)
    · omega
 have lsp : ∀ b,S.lab b = .spaces -> labP S v' l b = .spaces:=fun b e=>by
  have hb:=(h.bnd b (by rw [e];simp)).2
  unfold labP
  by_cases c : v'.ownBlock = some b
  · rw [if_pos c]
  · rw [if_neg c,if_neg,if_neg,e]
    · intro x;have:=eA b (.inr x);omega
    · intro x;have:=eA b (.inl x);omega
 have zD : ∀ {b : Nat} {c : Lb},S.lab b = c -> c ≠ .spaces -> ¬ blk S.vP b:=fun e hc x=>hc (by rw [<- e];exact h.lP _ x)
 have zH : ∀ {b : Nat} {c : Lb},S.lab b = c -> c ≠ .head -> ¬ b = mb:=fun e hc x=>hc (by rw [<- e,x];exact h.lH)
 have row : ∀ {e : TypeId} {n m : Nat} {v : Value} {xs : List Value},w.ownsRow lo e n v m xs -> (∀ b,blk v b -> ¬ blk S.vP b /\ ¬ b = mb) -> (w4.setCell ⟨mb,3,none⟩ v').ownsRow lo e n v m xs:=fun hr hq=>hset.row (kD.row hr (fun b hb=>(hq b hb).1)) (fun b hb=>(hq b hb).2)
 have hle : (S.L ++ [l]).length = S.L.length + 1:=by simp
 have hlen:=h.len
 refine ⟨⟨⟨fun b hb=>?_,row h.sheets (fun b hb=>⟨zD (h.lS b hb) (by simp),zH (h.lS b hb) (by simp)⟩),fun i hi=>row (h.fixes i hi) (fun b hb=>⟨zD (h.lX i hi b hb) (by simp),zH (h.lX i hi b hb) (by simp)⟩),row h.frames (fun b hb=>⟨zD (h.lF b hb) (by simp),zH (h.lF b hb) (by simp)⟩),row h.slots (fun b hb=>⟨zD (h.lL b hb) (by simp),zH (h.lL b hb) (by simp)⟩),?_,?_,fun i hi=>?_,fun b hb=>old b _ (h.lS b hb) (by simp) (by simp),fun i hi b hb=>old b _ (h.lX i hi b hb) (by simp) (by simp),fun b hb=>old b _ (h.lF b hb) (by simp) (by simp),fun b hb=>old b _ (h.lL b hb) (by simp) (by simp),fun b hb=>if_pos hb,fun i hi b hb=>?_,fun i hi b hb=>?_⟩,?_,old mb _ h.lH (by simp) (by simp)⟩,fun b hb e=>?_,?_⟩
 · have hb : labP S v' l b ≠ .no:=hb
   have hs4 : (w4.setCell ⟨mb,3,none⟩ v').heap.size = w4.heap.size:=by simp
   rw [hs4]
   unfold labP at hb
   by_cases c : v'.ownBlock = some b
   · exact hown.lt b c
   · rw [if_neg c] at hb
     by_cases d : l.va.ownBlock = some b
     · have:=eA b (.inl d);omega
     · rw [if_neg d] at hb
       by_cases e : l.vp.ownBlock = some b
       · have:=eA b (.inr e);omega
       · rw [if_neg e] at hb
         have:=h.bnd b hb;omega
 · show World.ownsRow _ lo _ 3 v' (S.L ++ [l]).length _
   rw [hle,List.flatMap_append]
   have : w4.ownsRow lo 43 3 v' (S.L.length + 1) (S.L.flatMap cellLc ++ [l].flatMap cellLc):=by simpa using hown
   exact hset.row this (fun b hb e=>by
    rcases hv4 b hb with g | g
    · exact zH (h.lP b g) (by simp) e
    · omega)
 · show (S.L ++ [l]).length = (k.spaces ++ [s]).length
   simp [hlen]
 · have hi : i < (k.spaces ++ [s]).length:=hi
   rw [List.length_append,List.length_singleton] at hi
   show SpOwn lo _ (lcAt (S.L ++ [l]) i) (KM.spAt (k.spaces ++ [s]) i)
   rw [lcAt_snoc,KM.spAt_snoc,hlen]
   by_cases c : i < k.spaces.length
   · rw [if_pos c,if_pos c]
     exact ((h.each i c).kp kD (fun b hb=>zD (h.lA i c b hb) (by simp)) (fun b hb=>zD (h.lE i c b hb) (by simp))).kp hset (fun b hb=>zH (h.lA i c b hb) (by simp)) (fun b hb=>zH (h.lE i c b hb) (by simp))
   · have e : i = k.spaces.length:=by omega
     rw [if_neg c,if_neg c,if_pos e,if_pos e]
     refine ((hso.mono hlo).kp (kB.trans kC (fun _ _ g=>g)) (fun b hb g=>?_) (fun b hb g=>?_)).kp hset (fun b hb e=>?_) (fun b hb e=>?_)
     · have:=hvb b g;have:=eA b (.inl hb);omega
     · have:=hvb b g;have:=eA b (.inr hb);omega
     · have:=eA b (.inl hb);omega
     · have:=eA b (.inr hb);omega
 · have hi : i < (k.spaces ++ [s]).length:=hi
   rw [List.length_append,List.length_singleton] at hi
   have hb : blk (lcAt (S.L ++ [l]) i).va b:=hb
   rw [lcAt_snoc,hlen] at hb
   by_cases c : i < k.spaces.length
   · rw [if_pos c] at hb
     exact old b _ (h.lA i c b hb) (by simp) (by simp)
   · have e : i = k.spaces.length:=by omega
     rw [if_neg c,if_pos e] at hb
     have hx:=eA b (.inl hb)
     show labP S v' l b = .areas i
     unfold labP
     rw [if_neg,if_pos (show l.va.ownBlock = some b from hb),e,hlen]
     intro x
     rcases hv4 b x with g | g
     · have:=hvb b g;omega
     · omega
 · have hi : i < (k.spaces ++ [s]).length:=hi
   rw [List.length_append,List.length_singleton] at hi
   have hb : blk (lcAt (S.L ++ [l]) i).vp b:=hb
   rw [lcAt_snoc,hlen] at hb
   by_cases c : i < k.spaces.length
   · rw [if_pos c] at hb
     exact old b _ (h.lE i c b hb) (by simp) (by simp)
   · have e : i = k.spaces.length:=by omega
     rw [if_neg c,if_pos e] at hb
     have hx:=eA b (.inr hb)
     show labP S v' l b = .ents i
     unfold labP
     rw [if_neg,if_neg (show ¬ l.va.ownBlock = some b from hne b hb),if_pos (show l.vp.ownBlock = some b from hb),e,hlen]
     intro x
     rcases hv4 b x with g | g
     · have:=hvb b g;omega
     · omega
 · have : w4.heap[mb]? = some (.cells ([S.vS,S.vF,S.vL,S.vP,.int .i64 k.hand] ++ X).toArray tt (0,0)):=kD.keep h.head (fun x=>by have:=h.lP mb x;rw [h.lH] at this;simp at this)
   rw [B.set this 3 v']
   simp
 · unfold labP
   rw [if_neg,if_neg,if_neg,e]
   · intro x;have:=eA b (.inr x);omega
   · intro x;have:=eA b (.inl x);omega
   · intro x
     rcases hv4 b x with g | g
     · have:=h.lP b g;rw [e] at this;simp at this
     · omega
 · exact (kD.mono (fun b _ g=>by rw [h.lP b g];simp)).trans hset (fun b _ e=>by rw [e,h.lH];simp)
end KO
namespace KO
open Go.RowKit GK
open FW (hideC add_below)
open KW (cellFr cellSl cellEn HasRow KAt HasK cellsK aggEn)
open KS (Lc cellLc lc0 lcAt blk SpOwn)
variable {lo mb : Nat} {tt : TypeId} {X : List Value} {w : World} {S : St} {k : KM.Kn}
theorem Km.c0 (h : Km lo mb tt X w S k) : w.cell? ⟨mb,0,none⟩ = some S.vS:=B.cell h.head 0 (by simp)
theorem Km.c1 (h : Km lo mb tt X w S k) : w.cell? ⟨mb,1,none⟩ = some S.vF:=B.cell h.head 1 (by simp)
theorem Km.c2 (h : Km lo mb tt X w S k) : w.cell? ⟨mb,2,none⟩ = some S.vL:=B.cell h.head 2 (by simp)
theorem Km.c3 (h : Km lo mb tt X w S k) : w.cell? ⟨mb,3,none⟩ = some S.vP:=B.cell h.head 3 (by simp)
theorem Km.c4 (h : Km lo mb tt X w S k) : w.cell? ⟨mb,4,none⟩ = some (.int .i64 k.hand):=B.cell h.head 4 (by simp)
theorem Km.cx (h : Km lo mb tt X w S k) (n : Nat) {v : Value} (hv : X[n]? = some v) : w.cell? ⟨mb,5 + n,none⟩ = some v:=B.cell h.head (5 + n) (by
 rw [List.getElem?_toArray,List.getElem?_append_right (by simp),<- hv]
 congr 1
 simp)
theorem Km.free (h : Km lo mb tt X w S k) (j : Nat) : w.frozen? ⟨mb,j,none⟩ = false:=B.free h.head j
theorem Km.lt (h : Km lo mb tt X w S k) : mb < w.heap.size:=B.isLt h.head
theorem Km.lo_le (h : Km lo mb tt X w S k) : lo <= mb:=(h.bnd mb (by rw [h.lH];simp)).1
structure FrAt (w : World) (S : St) (k : KM.Kn) (fb cF : Nat) : Prop where
 v : S.vF = .slice (some ⟨fb,0,none⟩) k.frames.length cF
 x0 : ∀ i,i < k.frames.length -> w.cell? ⟨fb,i * 4,none⟩ = some (.string (KM.frAt k.frames i).data)
 x1 : ∀ i,i < k.frames.length -> w.cell? ⟨fb,i * 4 + 1,none⟩ = some (.int .i64 (KM.frAt k.frames i).refs)
 x2 : ∀ i,i < k.frames.length -> w.cell? ⟨fb,i * 4 + 2,none⟩ = some (.bool (KM.frAt k.frames i).dirty)
 x3 : ∀ i,i < k.frames.length -> w.cell? ⟨fb,i * 4 + 3,none⟩ = some (.bool (KM.frAt k.frames i).seen)
 fz : ∀ j,w.frozen? ⟨fb,j,none⟩ = false
 lt : fb < w.heap.size
 lab : S.lab fb = .frames
 cap : k.frames.length <= cF
theorem Kr.fr (h : Kr lo w S k) (hn : 0 < k.frames.length) : ∃ fb cF,FrAt w S k fb cF:=by
 obtain ⟨ao,cap,e,hc,hg⟩:=row_form h.frames
 obtain ⟨g,rfl,hg1,hg2⟩:=hg hn
 have hr:=h.frames
 rw [e] at hr
 have at_:=fun i (hi : i < k.frames.length) j (hj : j < 4)=>row_at cellFr (fun _=>rfl) KM.fr0 hr i j hi hj
 exact ⟨g,cap,e,fun i hi=>at_ i hi 0 (by omega),fun i hi=>at_ i hi 1 (by omega),fun i hi=>at_ i hi 2 (by omega),fun i hi=>at_ i hi 3 (by omega),row_free hr,hg2,h.lF g (by rw [e];rfl),hc⟩
structure SlAt (w : World) (S : St) (k : KM.Kn) (fb cF : Nat) : Prop where
 v : S.vL = .slice (some ⟨fb,0,none⟩) k.slots.length cF
 x0 : ∀ i,i < k.slots.length -> w.cell? ⟨fb,i * 2,none⟩ = some (.string (KM.slAt k.slots i).data)
 x1 : ∀ i,i < k.slots.length -> w.cell? ⟨fb,i * 2 + 1,none⟩ = some (.int .i64 (KM.slAt k.slots i).refs)
 fz : ∀ j,w.frozen? ⟨fb,j,none⟩ = false
 lt : fb < w.heap.size
 lab : S.lab fb = .slots
theorem Kr.sl (h : Kr lo w S k) (hn : 0 < k.slots.length) : ∃ fb cF,SlAt w S k fb cF:=by
 obtain ⟨ao,cap,e,hc,hg⟩:=row_form h.slots
 obtain ⟨g,rfl,hg1,hg2⟩:=hg hn
 have hr:=h.slots
 rw [e] at hr
 have at_:=fun i (hi : i < k.slots.length) j (hj : j < 2)=>row_at cellSl (fun _=>rfl) KM.sl0 hr i j hi hj
 exact ⟨g,cap,e,fun i hi=>at_ i hi 0 (by omega),fun i hi=>at_ i hi 1 (by omega),row_free hr,hg2,h.lL g (by rw [e];rfl)⟩
structure SpAt (w : World) (S : St) (k : KM.Kn) (pb cP : Nat) : Prop where
 v : S.vP = .slice (some ⟨pb,0,none⟩) k.spaces.length cP
 x0 : ∀ i,i < k.spaces.length -> w.cell? ⟨pb,i * 3,none⟩ = some (.bool (KM.spAt k.spaces i).live)
 x1 : ∀ i,i < k.spaces.length -> w.cell? ⟨pb,i * 3 + 1,none⟩ = some (lcAt S.L i).va
 x2 : ∀ i,i < k.spaces.length -> w.cell? ⟨pb,i * 3 + 2,none⟩ = some (lcAt S.L i).vp
 fz : ∀ j,w.frozen? ⟨pb,j,none⟩ = false
 lt : pb < w.heap.size
 lab : S.lab pb = .spaces
theorem Kr.sp (h : Kr lo w S k) (hn : 0 < k.spaces.length) : ∃ pb cP,SpAt w S k pb cP:=by
 obtain ⟨ao,cap,e,hc,hg⟩:=row_form h.spaces
 have hl:=h.len
 obtain ⟨g,rfl,hg1,hg2⟩:=hg (by omega)
 have hr:=h.spaces
 rw [e] at hr
 have at_:=fun i (hi : i < k.spaces.length) j (hj : j < 3)=>row_at cellLc (fun _=>rfl) lc0 hr i j (by omega) hj
 exact ⟨g,cap,by rw [e,hl],fun i hi=>by rw [<- (h.each i hi).live];exact at_ i hi 0 (by omega),fun i hi=>at_ i hi 1 (by omega),fun i hi=>at_ i hi 2 (by omega),row_free hr,hg2,h.lP g (by rw [e];rfl)⟩
theorem Kr.ents (h : Kr lo w S k) {i : Nat} (hi : i < k.spaces.length) : ∃ ae ce,(lcAt S.L i).vp = .slice ae (KM.spAt k.spaces i).ents.length ce /\ HasRow cellEn 3 KM.en0 w ae (KM.spAt k.spaces i).ents:=by
 obtain ⟨ae,ce,e,_,hr⟩:=row_has cellEn (fun _=>rfl) KM.en0 (h.each i hi).pages
 exact ⟨ae,ce,e,hr⟩
theorem Kr.areas (h : Kr lo w S k) {i : Nat} (hi : i < k.spaces.length) : AW.Has w (lcAt S.L i).va (KM.spAt k.spaces i).areas:=(h.each i hi).areas.has
end KO
namespace KB
open Go.RowKit
theorem bytes_ext {s t : ByteArray} (h : ∀ i : Nat,s.data.toList[i]? = t.data.toList[i]?) : s = t:=by
 apply ByteArray.ext
 exact Array.toList_inj.1 (List.ext_getElem? h)
end KB
end Go.Proofs.YtpgifpeohlllfaaGreat
