import Derived.Test.YtpgifpeohlllfaaGreatGH17
import Derived.Test.YtpgifpeohlllfaaGreatGH12
set_option maxHeartbeats 20000000
set_option linter.unusedVariables false
set_option maxRecDepth 100000
set_option linter.unusedSimpArgs false
namespace Go.Proofs.YtpgifpeohlllfaaGreat
namespace KM
open Go.RowKit
theorem ext_getD {α : Type} (d : α) : ∀ (l m : List α),l.length = m.length -> (∀ i,i < l.length -> l.getD i d = m.getD i d) -> l = m
 | [],[],_,_=>rfl
 | [],b :: r,h,_=>by simp at h
 | a :: r,[],h,_=>by simp at h
 | a :: r,b :: t,h,g=>by
  have h0 : a = b:=g 0 (Nat.zero_lt_succ _)
  have h1:=ext_getD d r t (by simpa using h) (fun i hi=>g (i + 1) (Nat.succ_lt_succ hi))
  rw [h0,h1]
def cntF (f : Fr) (d : Int) : Fr:=if f.refs + d = 0 then fr0 else ⟨f.data,f.refs + d,f.dirty,f.seen⟩
def cntS (f : Sl) (d : Int) : Sl:=if f.refs + d = 0 then sl0 else ⟨f.data,f.refs + d⟩
def countK (k : Kn) (e : En) (d : Int) : Kn:=if e.kind = 1 then { k with frames:=k.frames.set e.loc.toNat (cntF (frAt k.frames e.loc.toNat) d) } else { k with slots:=k.slots.set e.loc.toNat (cntS (slAt k.slots e.loc.toNat) d) }
theorem count_leave (k : Kn) (e : En) : countK k e (-1) = leaveK k e:=by
 have h1 : ∀ f : Fr,cntF f (-1) = lessF f:=fun f=>by unfold cntF lessF;rw [<- Int.sub_eq_add_neg]
 have h2 : ∀ f : Sl,cntS f (-1) = lessS f:=fun f=>by unfold cntS lessS;rw [<- Int.sub_eq_add_neg]
 unfold countK leaveK
 rw [h1,h2]
theorem leave_spaces (k : Kn) (e : En) : (leaveK k e).spaces = k.spaces:=by unfold leaveK;split <;> rfl
theorem leave_rest (k : Kn) (e : En) : (leaveK k e).sheets = k.sheets /\ (leaveK k e).hand = k.hand:=by unfold leaveK;split <;> exact ⟨rfl,rfl⟩
theorem leave_len (k : Kn) (e : En) : (leaveK k e).frames.length = k.frames.length /\ (leaveK k e).slots.length = k.slots.length:=by
 unfold leaveK
 split
 · exact ⟨List.length_set,rfl⟩
 · exact ⟨rfl,List.length_set⟩
def setE (k : Kn) (j : Nat) (es : List En) : Kn:={ k with spaces:=k.spaces.set j (withE (spAt k.spaces j) es) }
theorem leave_setE (k : Kn) (j : Nat) (es : List En) (e : En) : leaveK (setE k j es) e = setE (leaveK k e) j es:=by unfold leaveK setE;split <;> rfl
theorem setE_setE (k : Kn) (j : Nat) (hj : j < k.spaces.length) (es fs : List En) : setE (setE k j es) j fs = setE k j fs:=by
 unfold setE
 simp only [List.set_set]
 rw [spAt_set _ _ _ _ hj,if_pos rfl]
 rfl
theorem setE_self (k : Kn) (j : Nat) (hj : j < k.spaces.length) : setE k j (spAt k.spaces j).ents = k:=by
 unfold setE
 have : k.spaces.set j (withE (spAt k.spaces j) (spAt k.spaces j).ents) = k.spaces:=ext_getD sp0 _ _ List.length_set (fun i hi=>by
  have:=spAt_set k.spaces j i (withE (spAt k.spaces j) (spAt k.spaces j).ents) hj
  unfold spAt at this ⊢
  rw [this]
  by_cases c : j = i
  · rw [if_pos c,c];rfl
  · rw [if_neg c])
 rw [this]
theorem setE_at (k : Kn) (j : Nat) (hj : j < k.spaces.length) (es : List En) : (spAt (setE k j es).spaces j).ents = es:=by
 show (spAt (k.spaces.set j _) j).ents = es
 rw [spAt_set _ _ _ _ hj,if_pos rfl]
 rfl
def cutTo (k : Kn) (es : List En) (p : En -> Bool) : Nat -> Kn
 | 0=>k
 | n + 1=>if p (enAt es n) then leaveK (cutTo k es p n) (enAt es n) else cutTo k es p n
def keepE (es : List En) (p : En -> Bool) : List En:=es.filter fun e=>!p e
def forgetK (k : Kn) (j : Nat) (p : En -> Bool) : Kn:=setE (cutTo k (spAt k.spaces j).ents p (spAt k.spaces j).ents.length) j (keepE (spAt k.spaces j).ents p)
theorem cut_spaces (k : Kn) (es : List En) (p : En -> Bool) : ∀ n,(cutTo k es p n).spaces = k.spaces
 | 0=>rfl
 | n + 1=>by
  unfold cutTo
  split
  · rw [leave_spaces,cut_spaces k es p n]
  · exact cut_spaces k es p n
theorem cut_rest (k : Kn) (es : List En) (p : En -> Bool) : ∀ n,(cutTo k es p n).sheets = k.sheets /\ (cutTo k es p n).hand = k.hand /\ (cutTo k es p n).frames.length = k.frames.length /\ (cutTo k es p n).slots.length = k.slots.length
 | 0=>⟨rfl,rfl,rfl,rfl⟩
 | n + 1=>by
  have ih:=cut_rest k es p n
  unfold cutTo
  split
  · have a:=leave_rest (cutTo k es p n) (enAt es n)
    have b:=leave_len (cutTo k es p n) (enAt es n)
    exact ⟨a.1.trans ih.1,a.2.trans ih.2.1,b.1.trans ih.2.2.1,b.2.trans ih.2.2.2⟩
  · exact ih
theorem drop_cons (es : List En) (n : Nat) (h : n < es.length) : es.drop n = enAt es n :: es.drop (n + 1):=by
 rw [List.drop_eq_getElem_cons h]
 unfold enAt
 rw [List.getD_eq_getElem?_getD,List.getElem?_eq_getElem h]
 rfl
theorem keep_take (es : List En) (p : En -> Bool) (n : Nat) (h : n < es.length) : keepE (es.take (n + 1)) p = keepE (es.take n) p ++ (if p (enAt es n) then [] else [enAt es n]):=by
 unfold keepE
 rw [take_succ es n h,List.filter_append]
 congr 1
 cases g : p (enAt es n) <;> simp [g]
theorem forget_part {k : Kn} (h : RightK k) {j : Nat} (hj : j < k.spaces.length) (p : En -> Bool) : ∀ n,n <= (spAt k.spaces j).ents.length -> RightK (setE (cutTo k (spAt k.spaces j).ents p n) j (keepE ((spAt k.spaces j).ents.take n) p ++ (spAt k.spaces j).ents.drop n))
 | 0,_=>by
  have : keepE ((spAt k.spaces j).ents.take 0) p ++ (spAt k.spaces j).ents.drop 0 = (spAt k.spaces j).ents:=rfl
  rw [this]
  show RightK (setE k j (spAt k.spaces j).ents)
  rw [setE_self k j hj];exact h
 | n + 1,hn=>by
  have ih:=forget_part h hj p n (by omega)
  have hlt : n < (spAt k.spaces j).ents.length:=by omega
  have hj1 : j < (cutTo k (spAt k.spaces j).ents p n).spaces.length:=by rw [cut_spaces];exact hj
  rw [drop_cons _ n hlt] at ih
  rw [keep_take _ p n hlt]
  unfold cutTo
  cases g : p (enAt (spAt k.spaces j).ents n) with
  | true =>
   rw [if_pos rfl,if_pos rfl,List.append_nil]
   have hj2 : j < (setE (cutTo k (spAt k.spaces j).ents p n) j (keepE ((spAt k.spaces j).ents.take n) p ++ enAt (spAt k.spaces j).ents n :: (spAt k.spaces j).ents.drop (n + 1))).spaces.length:=by
    show j < List.length (List.set _ _ _)
    rw [List.length_set];exact hj1
   have:=cut_right ih hj2 (setE_at _ j hj1 _)
   have e : cutK (setE (cutTo k (spAt k.spaces j).ents p n) j (keepE ((spAt k.spaces j).ents.take n) p ++ enAt (spAt k.spaces j).ents n :: (spAt k.spaces j).ents.drop (n + 1))) j (keepE ((spAt k.spaces j).ents.take n) p ++ (spAt k.spaces j).ents.drop (n + 1)) (enAt (spAt k.spaces j).ents n) = setE (leaveK (cutTo k (spAt k.spaces j).ents p n) (enAt (spAt k.spaces j).ents n)) j (keepE ((spAt k.spaces j).ents.take n) p ++ (spAt k.spaces j).ents.drop (n + 1)):=by
    show leaveK (setE (setE _ j _) j _) _ = _
    rw [setE_setE _ j hj1,leave_setE]
   rw [e] at this
   exact this
  | false =>
   rw [if_neg (by simp),if_neg (by simp),List.append_assoc]
   exact ih
theorem forget_right {k : Kn} (h : RightK k) {j : Nat} (hj : j < k.spaces.length) (p : En -> Bool) : RightK (forgetK k j p):=by
 have:=forget_part h hj p _ (Nat.le_refl _)
 rw [List.take_length,List.drop_length,List.append_nil] at this
 exact this
theorem forget_spaces (k : Kn) (j : Nat) (p : En -> Bool) : (forgetK k j p).spaces = k.spaces.set j (withE (spAt k.spaces j) (keepE (spAt k.spaces j).ents p)):=by
 show ((cutTo k (spAt k.spaces j).ents p _).spaces).set j _ = _
 rw [cut_spaces]
theorem forget_rest (k : Kn) (j : Nat) (p : En -> Bool) : (forgetK k j p).sheets = k.sheets /\ (forgetK k j p).hand = k.hand /\ (forgetK k j p).frames.length = k.frames.length /\ (forgetK k j p).slots.length = k.slots.length:=cut_rest k _ p _
theorem cut_one (k : Kn) (i : Nat) (es : List En) : ∀ n,∃ x,(cutTo k es (isIn (i : Int)) n).frames = k.frames.set i x /\ (cutTo k es (isIn (i : Int)) n).slots = k.slots
 | 0=>⟨frAt k.frames i,by
   show k.frames = _
   refine (ext_getD fr0 _ _ List.length_set (fun m hm=>?_)).symm
   rw [List.length_set] at hm
   by_cases c : i = m
   · subst c;rw [getD_set_self _ _ _ _ hm];rfl
   · rw [getD_set_ne _ _ _ _ _ c],rfl⟩
 | n + 1=>by
  obtain ⟨x,h1,h2⟩:=cut_one k i es n
  unfold cutTo
  split
  · next g =>
    have g:=isIn_iff.1 g
    unfold leaveK
    rw [if_pos g.1,g.2,Int.toNat_natCast]
    refine ⟨lessF (frAt (k.frames.set i x) i),?_,h2⟩
    show (cutTo k es (isIn (i : Int)) n).frames.set i _ = _
    rw [h1,List.set_set]
  · exact ⟨x,h1,h2⟩
def outTo (k : Kn) (i : Nat) : Nat -> Kn
 | 0=>k
 | n + 1=>forgetK (outTo k i n) n (isIn (i : Int))
theorem out_parts {k : Kn} (h : RightK k) (i : Nat) : ∀ n,n <= k.spaces.length -> RightK (outTo k i n) /\ (outTo k i n).sheets = k.sheets /\ (outTo k i n).hand = k.hand /\ (∃ x,(outTo k i n).frames = k.frames.set i x) /\ (outTo k i n).slots = k.slots /\ (outTo k i n).spaces.length = k.spaces.length /\ ∀ m,m < k.spaces.length -> spAt (outTo k i n).spaces m = if m < n then outS i (spAt k.spaces m) else spAt k.spaces m
 | 0,_=>by
  obtain ⟨x,hx,_⟩:=cut_one k i [] 0
  exact ⟨h,rfl,rfl,⟨x,hx⟩,rfl,rfl,fun m _=>by rw [if_neg (by omega)];rfl⟩
 | n + 1,hn=>by
  obtain ⟨r,h1,h2,⟨x,h3⟩,h4,h5,h6⟩:=out_parts h i n (by omega)
  have hj : n < (outTo k i n).spaces.length:=by omega
  have fr:=forget_rest (outTo k i n) n (isIn (i : Int))
  obtain ⟨y,c1,c2⟩:=cut_one (outTo k i n) i (spAt (outTo k i n).spaces n).ents (spAt (outTo k i n).spaces n).ents.length
  refine ⟨forget_right r hj _,fr.1.trans h1,fr.2.1.trans h2,⟨y,?_⟩,?_,?_,fun m hm=>?_⟩
  · show (cutTo _ _ _ _).frames = _
    rw [c1,h3,List.set_set]
  · show (cutTo _ _ _ _).slots = _
    rw [c2,h4]
  · show (forgetK _ _ _).spaces.length = _
    rw [forget_spaces,List.length_set];exact h5
  · show spAt (forgetK _ _ _).spaces m = _
    rw [forget_spaces,spAt_set _ _ _ _ hj]
    by_cases c : n = m
    · subst c
      rw [if_pos rfl,if_pos (by omega),h6 n hm,if_neg (by omega)]
      rfl
    · rw [if_neg c,h6 m hm]
      by_cases d : m < n
      · rw [if_pos d,if_pos (by omega)]
      · rw [if_neg d,if_neg (by omega)]
theorem out_drop {k : Kn} (h : RightK k) {i : Nat} (hi : i < k.frames.length) : outTo k i k.spaces.length = dropA k i:=by
 obtain ⟨r,h1,h2,⟨x,h3⟩,h4,h5,h6⟩:=out_parts h i k.spaces.length (Nat.le_refl _)
 have hs : (outTo k i k.spaces.length).spaces = k.spaces.map (outS i):=by
  refine ext_getD sp0 _ _ (by rw [h5,List.length_map]) (fun m hm=>?_)
  have hm' : m < k.spaces.length:=by omega
  have:=h6 m hm'
  rw [if_pos hm'] at this
  have g:=spAt_map (outS i) k.spaces m hm'
  unfold spAt at this g
  rw [this,g]
 have hf:=r.frm i (by rw [h3,List.length_set];exact hi)
 have hz : names (outTo k i k.spaces.length).spaces 1 i = []:=by
  rw [hs]
  exact names_none _ _ _ _ (fun s _=>nm_out_nil s.areas i s.ents)
 have hx : x = fr0:=by
  have:=hf.zero hz
  rw [h3] at this
  unfold frAt at this
  rw [getD_set_self _ _ _ _ hi] at this
  exact this
 have : ∀ a b : Kn,a.sheets = b.sheets -> a.frames = b.frames -> a.slots = b.slots -> a.spaces = b.spaces -> a.hand = b.hand -> a = b:=fun a b e1 e2 e3 e4 e5=>by
  cases a;cases b;simp_all
 exact this _ _ h1 (by rw [h3,hx];rfl) h4 hs h2
theorem one_in {k : Kn} (h : RightK k) {i : Nat} (hi : i < k.frames.length) {j : Nat} (hj : j < k.spaces.length) {a b : Nat} (ha : a < (spAt k.spaces j).ents.length) (hb : b < (spAt k.spaces j).ents.length) (h1 : isIn (i : Int) (enAt (spAt k.spaces j).ents a) = true) (h2 : isIn (i : Int) (enAt (spAt k.spaces j).ents b) = true) : a = b:=by
 have hm1:=name_of hj (getD_mem (d:=en0) ha)
 have hm2:=name_of hj (getD_mem (d:=en0) hb)
 have g1:=isIn_iff.1 h1
 have g2:=isIn_iff.1 h2
 unfold enAt at g1 g2
 rw [g1.1,g1.2] at hm1
 rw [g2.1,g2.2] at hm2
 have e:=(h.frm i hi).one _ hm1 _ hm2
 injection e with e _
 have hr:=(h.sp hj).rise
 have hp:=List.pairwise_iff_getElem.1 hr
 rcases Nat.lt_trichotomy a b with c | c | c
 · have:=hp a b (by simpa using ha) (by simpa using hb) c
   simp only [List.getElem_map] at this
   rw [List.getD_eq_getElem?_getD,List.getElem?_eq_getElem ha,List.getD_eq_getElem?_getD,List.getElem?_eq_getElem hb] at e
   simp only [Option.getD_some] at e
   omega
 · exact c
 · have:=hp b a (by simpa using hb) (by simpa using ha) c
   simp only [List.getElem_map] at this
   rw [List.getD_eq_getElem?_getD,List.getElem?_eq_getElem ha,List.getD_eq_getElem?_getD,List.getElem?_eq_getElem hb] at e
   simp only [Option.getD_some] at e
   omega
theorem swap_first (i s : Int) (es : List En) (n : Nat) (hn : n < es.length) (h : isIn i (enAt es n) = true) (ho : ∀ m,m < es.length -> isIn i (enAt es m) = true -> m = n) : es.set n ⟨(enAt es n).page,2,s⟩ = swapE i s es:=by
 refine ext_getD en0 _ _ (by unfold swapE;rw [List.length_set,List.length_map]) (fun m hm=>?_)
 rw [List.length_set] at hm
 unfold swapE
 rw [getD_map _ en0 en0 es m hm]
 by_cases c : n = m
 · subst c
   rw [getD_set_self _ _ _ _ hm]
   unfold enAt at h ⊢
   rw [if_pos h]
 · rw [getD_set_ne _ _ _ _ _ c]
   have : isIn i (es.getD m en0) = false:=by
    cases g : isIn i (es.getD m en0) with
    | false=>rfl
    | true=>exact absurd (ho m hm g).symm c
   rw [this]
   rfl
theorem swap_none (i s : Int) (es : List En) (h : ∀ m,m < es.length -> isIn i (enAt es m) = false) : swapE i s es = es:=by
 refine ext_getD en0 _ _ (by unfold swapE;rw [List.length_map]) (fun m hm=>?_)
 have hm' : m < es.length:=by unfold swapE at hm;rw [List.length_map] at hm;exact hm
 unfold swapE
 rw [getD_map _ en0 en0 es m hm']
 have:=h m hm'
 unfold enAt at this
 rw [this]
 rfl
theorem RightK.space {k : Kn} (h : RightK k) {j : Nat} (hj : j < k.spaces.length) {s : Sp} (hs : SpR k.sheets k.frames.length k.slots.length s) (hn : ∀ kd a,nameIn s kd a = nameIn (spAt k.spaces j) kd a) (hr : KM.room (k.spaces.set j s) <= k.slots.length) : RightK { k with spaces:=k.spaces.set j s }:=by
 have nn : ∀ kd a,names (k.spaces.set j s) kd a = names k.spaces kd a:=fun kd a=>by
  obtain ⟨u,v,g1,g2⟩:=names_set k.spaces j s kd a hj
  rw [g1,g2,hn]
 refine ⟨?_,h.rise,h.hand,?_,hr,fun i hi=>?_,fun i hi=>?_⟩
 · have:=h.counts
   unfold KM.counts at this ⊢
   simp only [List.length_set]
   exact this
 · intro x hx
   rcases List.mem_or_eq_of_mem_set hx with g | rfl
   · exact h.each x g
   · exact hs
 · show FrR k.sheets (names (k.spaces.set j s) 1 i) _
   rw [nn];exact h.frm i hi
 · show SlR (names (k.spaces.set j s) 2 i) _
   rw [nn];exact h.slt i hi
theorem room_turn (l : List Sp) : ∀ (j : Nat) (s : Sp),j < l.length -> room (l.set j s) = room l - AM.totalN (spAt l j).areas + AM.totalN s.areas:=fun j s hj=>by
 have : ∀ n,roomTo (l.set j s) n = roomTo l n + if j < n then AM.totalN s.areas - AM.totalN (spAt l j).areas else 0:=fun n=>by
  induction n with
  | zero=>rw [if_neg (by omega)];rfl
  | succ n ih =>
   rw [roomTo,roomTo,ih,spAt_set l j n s hj]
   by_cases c : j = n
   · subst c
     rw [if_pos rfl,if_neg (by omega),if_pos (by omega)];omega
   · rw [if_neg c]
     by_cases d : j < n
     · rw [if_pos d,if_pos (by omega)];omega
     · rw [if_neg d,if_neg (by omega)];omega
 unfold room
 rw [List.length_set,this,if_pos hj]
 omega
def goes (l : List AM.Ar) (e : En) : Bool:=!(AM.findN l e.page).2
def dropK (k : Kn) (j : Nat) : Kn:={ forgetK k j (fun _=>true) with spaces:=(forgetK k j (fun _=>true)).spaces.set j sp0 }
theorem find_nil (p : Int) : (AM.findN [] p).2 = false:=by
 have:=AM.find_spread [] rfl p.toNat
 by_cases c : 0 <= p
 · rw [Int.toNat_of_nonneg c] at this
   rw [this.1];rfl
 · cases g : (AM.findN [] p).2 with
   | false=>rfl
   | true=>have:=mapped_pos g;omega
theorem sp0_right (hs : List LM.Sh) (nf ns : Nat) : SpR hs nf ns sp0:=by
 refine ⟨fun _=>⟨rfl,rfl⟩,rfl,List.Pairwise.nil,fun e he=>?_,fun p hp=>?_⟩
 · cases he
 · have hp : (AM.findN [] p).2 = true:=hp
   rw [find_nil p] at hp;cases hp
theorem keep_none (es : List En) : keepE es (fun _=>true) = []:=by unfold keepE;simp
theorem drop_right {k : Kn} (h : RightK k) {j : Nat} (hj : j < k.spaces.length) : RightK (dropK k j):=by
 have hf:=forget_right h hj (fun _=>true)
 have hsp:=forget_spaces k j (fun _=>true)
 have hre:=forget_rest k j (fun _=>true)
 have hj' : j < (forgetK k j (fun _=>true)).spaces.length:=by rw [hsp,List.length_set];exact hj
 have hat : spAt (forgetK k j (fun _=>true)).spaces j = withE (spAt k.spaces j) []:=by rw [hsp,spAt_set _ _ _ _ hj,if_pos rfl,keep_none]
 have ht : 0 <= AM.totalN (spAt k.spaces j).areas:=by
  have:=ents_pages (h.sp hj)
  omega
 refine RightK.space hf hj' (sp0_right _ _ _) (fun kd a=>?_) ?_
 · rw [hat];rfl
 · rw [room_turn _ _ _ hj',hat,hsp,room_set _ _ (withE (spAt k.spaces j) (keepE (spAt k.spaces j).ents (fun _=>true))) hj rfl,hre.2.2.2]
   have:=h.room
   show room k.spaces - AM.totalN (spAt k.spaces j).areas + AM.totalN [] <= _
   have e : AM.totalN [] = 0:=rfl
   omega
def shareTo (k : Kn) (es : List En) : Nat -> Kn
 | 0=>k
 | n + 1=>countK (shareTo k es n) (enAt es n) 1
def forkK (k : Kn) (j : Nat) : Kn:={ shareTo k (spAt k.spaces j).ents (spAt k.spaces j).ents.length with spaces:=(shareTo k (spAt k.spaces j).ents (spAt k.spaces j).ents.length).spaces ++ [spAt k.spaces j] }
def moreF (f : Fr) (c : Nat) : Fr:=⟨f.data,f.refs + c,f.dirty,f.seen⟩
def moreS (f : Sl) (c : Nat) : Sl:=⟨f.data,f.refs + c⟩
theorem moreF_zero (f : Fr) : moreF f 0 = f:=by unfold moreF;simp
theorem moreS_zero (f : Sl) : moreS f 0 = f:=by unfold moreS;simp
theorem share_parts {k : Kn} (h : RightK k) {j : Nat} (hj : j < k.spaces.length) : ∀ m,m <= (spAt k.spaces j).ents.length -> (shareTo k (spAt k.spaces j).ents m).sheets = k.sheets /\ (shareTo k (spAt k.spaces j).ents m).hand = k.hand /\ (shareTo k (spAt k.spaces j).ents m).spaces = k.spaces /\ (shareTo k (spAt k.spaces j).ents m).frames.length = k.frames.length /\ (shareTo k (spAt k.spaces j).ents m).slots.length = k.slots.length /\
  (∀ n,n < k.frames.length -> frAt (shareTo k (spAt k.spaces j).ents m).frames n = moreF (frAt k.frames n) (nm (spAt k.spaces j).areas 1 n ((spAt k.spaces j).ents.take m)).length) /\
  (∀ n,n < k.slots.length -> slAt (shareTo k (spAt k.spaces j).ents m).slots n = moreS (slAt k.slots n) (nm (spAt k.spaces j).areas 2 n ((spAt k.spaces j).ents.take m)).length)
 | 0,_=>⟨rfl,rfl,rfl,rfl,rfl,fun n _=>(moreF_zero _).symm,fun n _=>(moreS_zero _).symm⟩
 | m + 1,hm=>by
  obtain ⟨h1,h2,h3,h4,h5,h6,h7⟩:=share_parts h hj m (by omega)
  have hlt : m < (spAt k.spaces j).ents.length:=by omega
  have hin : enAt (spAt k.spaces j).ents m ∈ (spAt k.spaces j).ents:=getD_mem hlt
  rw [take_succ _ m hlt]
  obtain ⟨e,he⟩ : ∃ e,e = enAt (spAt k.spaces j).ents m:=⟨_,rfl⟩
  obtain ⟨q,hq⟩ : ∃ q,q = shareTo k (spAt k.spaces j).ents m:=⟨_,rfl⟩
  rw [<- he] at hin ⊢
  have hs : shareTo k (spAt k.spaces j).ents (m + 1) = countK q e 1:=by rw [hq,he];rfl
  rw [<- hq] at h1 h2 h3 h4 h5 h6 h7
  rw [hs]
  have addF : ∀ (f : Fr) (a b : Nat),moreF (moreF f a) b = moreF f (a + b):=fun f a b=>by unfold moreF;congr 1;show f.refs + _ + _ = _;omega
  have addS : ∀ (f : Sl) (a b : Nat),moreS (moreS f a) b = moreS f (a + b):=fun f a b=>by unfold moreS;congr 1;show f.refs + _ + _ = _;omega
  rcases loc_bd h hj hin with b | b
  · have hc : countK q e 1 = { q with frames:=q.frames.set e.loc.toNat (cntF (frAt q.frames e.loc.toNat) 1) }:=by unfold countK;rw [if_pos b.1]
    rw [hc]
    refine ⟨h1,h2,h3,by show (q.frames.set _ _).length = _;rw [List.length_set];exact h4,h5,fun n hn=>?_,fun n hn=>?_⟩
    · show frAt (q.frames.set _ _) n = _
      rw [frAt_set _ _ _ _ (by rw [h4];exact b.2.2),nm_append,List.length_append]
      by_cases c : e.loc.toNat = n
      · rw [if_pos c,nm_yes _ (show e.kind = 1 /\ e.loc = (n : Int) by omega),<- addF,<- h6 n hn,c]
        have hr : 0 <= (frAt q.frames n).refs:=by
         rw [h6 n hn]
         have:=(h.frm n hn).refs
         show 0 <= (frAt k.frames n).refs + _
         omega
        unfold cntF
        rw [if_neg (by omega)]
        rfl
      · rw [if_neg c,nm_no _ (show ¬ (e.kind = 1 /\ e.loc = (n : Int)) by omega),h6 n hn]
        rfl
    · show slAt q.slots n = _
      rw [nm_append,nm_no _ (show ¬ (e.kind = 2 /\ e.loc = (n : Int)) by omega),h7 n hn,List.append_nil]
  · have hc : countK q e 1 = { q with slots:=q.slots.set e.loc.toNat (cntS (slAt q.slots e.loc.toNat) 1) }:=by unfold countK;rw [if_neg (by omega)]
    rw [hc]
    refine ⟨h1,h2,h3,h4,by show (q.slots.set _ _).length = _;rw [List.length_set];exact h5,fun n hn=>?_,fun n hn=>?_⟩
    · show frAt q.frames n = _
      rw [nm_append,nm_no _ (show ¬ (e.kind = 1 /\ e.loc = (n : Int)) by omega),h6 n hn,List.append_nil]
    · show slAt (q.slots.set _ _) n = _
      rw [slAt_set _ _ _ _ (by rw [h5];exact b.2.2),nm_append,List.length_append]
      by_cases c : e.loc.toNat = n
      · rw [if_pos c,nm_yes _ (show e.kind = 2 /\ e.loc = (n : Int) by omega),<- addS,<- h7 n hn,c]
        have hr : 0 <= (slAt q.slots n).refs:=by
         rw [h7 n hn]
         have:=(h.slt n hn).refs
         show 0 <= (slAt k.slots n).refs + _
         omega
        unfold cntS
        rw [if_neg (by omega)]
        rfl
      · rw [if_neg c,nm_no _ (show ¬ (e.kind = 2 /\ e.loc = (n : Int)) by omega),h7 n hn]
        rfl
structure Forked (k : Kn) (j : Nat) (f : Kn) : Prop where
 sheets : f.sheets = k.sheets
 hand : f.hand = k.hand
 spaces : f.spaces = k.spaces ++ [spAt k.spaces j]
 nf : f.frames.length = k.frames.length
 ns : f.slots.length = k.slots.length
 frm : ∀ n,n < k.frames.length -> frAt f.frames n = moreF (frAt k.frames n) (nameIn (spAt k.spaces j) 1 n).length
 slt : ∀ n,n < k.slots.length -> slAt f.slots n = moreS (slAt k.slots n) (nameIn (spAt k.spaces j) 2 n).length
theorem fork_had {k : Kn} (h : RightK k) {j : Nat} (hj : j < k.spaces.length) : Forked k j (forkK k j):=by
 obtain ⟨h1,h2,h3,h4,h5,h6,h7⟩:=share_parts h hj _ (Nat.le_refl _)
 rw [List.take_length] at h6 h7
 exact ⟨h1,h2,by show _ ++ _ = _;rw [h3],h4,h5,h6,h7⟩
theorem fork_right {k : Kn} (h : RightK k) {j : Nat} (hj : j < k.spaces.length) (h4 : k.spaces.length ≠ 4) (hr : room k.spaces + AM.totalN (spAt k.spaces j).areas <= k.slots.length) : RightK (forkK k j):=by
 have F:=fork_had h hj
 have hc:=h.c
 have nn : ∀ kd a,names (forkK k j).spaces kd a = names k.spaces kd a ++ nameIn (spAt k.spaces j) kd a:=fun kd a=>by
  rw [F.spaces,names_append,names_cons,names_nil,List.append_nil]
 have sub : ∀ kd a,∀ x ∈ nameIn (spAt k.spaces j) kd a,x ∈ names k.spaces kd a:=fun kd a x hx=>by
  obtain ⟨e,he,h1,h2,h3⟩:=mem_nameIn.1 hx
  exact mem_names.2 ⟨_,spAt_mem hj,e,he,h1,h2,h3⟩
 have both : ∀ kd a,∀ x ∈ names k.spaces kd a ++ nameIn (spAt k.spaces j) kd a,x ∈ names k.spaces kd a:=fun kd a x hx=>by
  rcases List.mem_append.1 hx with g | g
  · exact g
  · exact sub kd a x g
 have nil : ∀ kd a,names k.spaces kd a ++ nameIn (spAt k.spaces j) kd a = [] -> names k.spaces kd a = [] /\ nameIn (spAt k.spaces j) kd a = []:=fun kd a e=>List.append_eq_nil_iff.1 e
 have ne : ∀ kd a,names k.spaces kd a ++ nameIn (spAt k.spaces j) kd a ≠ [] -> names k.spaces kd a ≠ []:=fun kd a hn e=>hn (by
  rw [e]
  refine List.eq_nil_iff_forall_not_mem.2 fun x hx=>?_
  have hx : x ∈ nameIn (spAt k.spaces j) kd a:=by simpa using hx
  have:=sub kd a x hx
  rw [e] at this;cases this)
 refine ⟨?_,by rw [F.sheets];exact h.rise,by rw [F.hand,F.nf];exact h.hand,?_,?_,fun n hn=>?_,fun n hn=>?_⟩
 · unfold KM.counts
   rw [F.nf,F.ns,F.spaces,F.sheets,List.length_append]
   refine decide_eq_true ?_
   simp only [List.length_cons,List.length_nil]
   omega
 · rw [F.sheets,F.nf,F.ns,F.spaces]
   intro s hs
   rcases List.mem_append.1 hs with g | g
   · exact h.each s g
   · rw [List.mem_singleton] at g;subst g;exact h.sp hj
 · rw [F.spaces,room_snoc,F.ns];exact hr
 · rw [F.nf] at hn
   rw [F.sheets,nn,F.frm n hn]
   have hf:=h.frm n hn
   refine ⟨?_,fun e=>?_,fun x hx y hy=>hf.one x (both 1 n x hx) y (both 1 n y hy),fun e=>hf.size (ne 1 n e),fun d x hx=>hf.fill d x (both 1 n x hx)⟩
   · show (frAt k.frames n).refs + _ = _
     rw [List.length_append,hf.refs]
     omega
   · obtain ⟨e1,e2⟩:=nil 1 n e
     rw [e2]
     show moreF _ 0 = _
     rw [moreF_zero];exact hf.zero e1
 · rw [F.ns] at hn
   rw [nn,F.slt n hn]
   have hf:=h.slt n hn
   refine ⟨?_,fun e=>?_,fun x hx y hy=>hf.one x (both 2 n x hx) y (both 2 n y hy),fun e=>hf.size (ne 2 n e)⟩
   · show (slAt k.slots n).refs + _ = _
     rw [List.length_append,hf.refs]
     omega
   · obtain ⟨e1,e2⟩:=nil 2 n e
     rw [e2]
     show moreS _ 0 = _
     rw [moreS_zero];exact hf.zero e1
theorem cut_data {k : Kn} (h : RightK k) {j : Nat} (hj : j < k.spaces.length) {pre post : List En} {e : En} (he : (spAt k.spaces j).ents = pre ++ e :: post) {m : Nat} (hm : m < k.spaces.length) {x : En} (hx : x ∈ (spAt (cutK k j (pre ++ post) e).spaces m).ents) :
  (x.kind = 1 -> (frAt (cutK k j (pre ++ post) e).frames x.loc.toNat).data = (frAt k.frames x.loc.toNat).data) /\ (x.kind ≠ 1 -> (slAt (cutK k j (pre ++ post) e).slots x.loc.toNat).data = (slAt k.slots x.loc.toNat).data):=by
 obtain ⟨f1,f2,f3,f4,f5,f6,f7⟩:=cut_parts h hj he
 have hr:=cut_right h hj he
 have hm' : m < (cutK k j (pre ++ post) e).spaces.length:=by rw [f5,List.length_set];exact hm
 have hn:=name_of hm' hx
 have hb:=loc_bd hr hm' hx
 refine ⟨fun c=>?_,fun c=>?_⟩
 · have hb : (x.loc.toNat : Int) = x.loc /\ x.loc.toNat < (cutK k j (pre ++ post) e).frames.length:=by rcases hb with b | b;exact b.2;omega
   rw [c,<- hb.1] at hn
   have hf:=(hr.frm x.loc.toNat hb.2).refs
   have hg:=f6 x.loc.toNat
   by_cases d : e.kind = 1 /\ e.loc = (x.loc.toNat : Int)
   · rw [if_pos d] at hg
     rw [hg] at hf ⊢
     unfold lessF at hf ⊢
     by_cases z : (frAt k.frames x.loc.toNat).refs - 1 = 0
     · rw [if_pos z] at hf
       have : (names (cutK k j (pre ++ post) e).spaces 1 (x.loc.toNat : Int)).length = 0:=by
        have hf : (0 : Int) = _:=hf
        omega
       rw [List.eq_nil_of_length_eq_zero this] at hn
       cases hn
     · rw [if_neg z]
   · rw [if_neg d] at hg
     rw [hg]
 · have hb : x.kind = 2 /\ (x.loc.toNat : Int) = x.loc /\ x.loc.toNat < (cutK k j (pre ++ post) e).slots.length:=by rcases hb with b | b;exact absurd b.1 c;exact b
   rw [hb.1,<- hb.2.1] at hn
   have hf:=(hr.slt x.loc.toNat hb.2.2).refs
   have hg:=f7 x.loc.toNat
   by_cases d : e.kind = 2 /\ e.loc = (x.loc.toNat : Int)
   · rw [if_pos d] at hg
     rw [hg] at hf ⊢
     unfold lessS at hf ⊢
     by_cases z : (slAt k.slots x.loc.toNat).refs - 1 = 0
     · rw [if_pos z] at hf
       have : (names (cutK k j (pre ++ post) e).spaces 2 (x.loc.toNat : Int)).length = 0:=by
        have hf : (0 : Int) = _:=hf
        omega
       rw [List.eq_nil_of_length_eq_zero this] at hn
       cases hn
     · rw [if_neg z]
   · rw [if_neg d] at hg
     rw [hg]
theorem ent_mem {es : List En} {p : Int} {e : En} (h : entOf es p = some e) : e ∈ es:=List.mem_of_find?_eq_some h
theorem ent_page {es : List En} {p : Int} {e : En} (h : entOf es p = some e) : e.page = p:=by
 have:=List.find?_some h
 simpa using this
theorem peek_eq {a b : Kn} {m n : Nat} {p : Int} (hE : entOf (spAt a.spaces m).ents p = entOf (spAt b.spaces n).ents p) (hd : ∀ x,entOf (spAt a.spaces m).ents p = some x -> (x.kind = 1 -> (frAt a.frames x.loc.toNat).data = (frAt b.frames x.loc.toNat).data) /\ (x.kind ≠ 1 -> (slAt a.slots x.loc.toNat).data = (slAt b.slots x.loc.toNat).data)) (hf : entOf (spAt a.spaces m).ents p = none -> fillK a.sheets p (AM.findN (spAt a.spaces m).areas p).1.zero = fillK b.sheets p (AM.findN (spAt b.spaces n).areas p).1.zero) : peekK a m p = peekK b n p:=by
 unfold peekK
 rw [<- hE]
 cases g : entOf (spAt a.spaces m).ents p with
 | none=>exact hf g
 | some x =>
  have:=hd x g
  by_cases c : x.kind = 1
  · simp only [if_pos c];exact this.1 c
  · simp only [if_neg c];exact this.2 c
theorem ent_cut {pre post : List En} {e : En} {p : Int} (h : e.page ≠ p) : entOf (pre ++ post) p = entOf (pre ++ e :: post) p:=by
 unfold entOf
 rw [List.find?_append,List.find?_append,List.find?_cons_of_neg (by simpa using h)]
theorem cut_peek {k : Kn} (h : RightK k) {j : Nat} (hj : j < k.spaces.length) {pre post : List En} {e : En} (he : (spAt k.spaces j).ents = pre ++ e :: post) {m : Nat} (hm : m < k.spaces.length) {p : Int} (hp : m ≠ j ∨ e.page ≠ p) : peekK (cutK k j (pre ++ post) e) m p = peekK k m p:=by
 obtain ⟨f1,f2,f3,f4,f5,f6,f7⟩:=cut_parts h hj he
 have hs : entOf (spAt (cutK k j (pre ++ post) e).spaces m).ents p = entOf (spAt k.spaces m).ents p /\ (spAt (cutK k j (pre ++ post) e).spaces m).areas = (spAt k.spaces m).areas:=by
  rw [f5,spAt_set _ _ _ _ hj]
  by_cases c : j = m
  · subst c
    rw [if_pos rfl]
    refine ⟨?_,rfl⟩
    show entOf (pre ++ post) p = _
    rw [he]
    exact ent_cut (by rcases hp with g | g;exact absurd rfl g;exact g)
  · rw [if_neg c];exact ⟨rfl,rfl⟩
 exact peek_eq hs.1 (fun x hx=>cut_data h hj he hm (ent_mem hx)) (fun _=>by rw [f3,hs.2])
theorem forget_peek_part {k : Kn} (h : RightK k) {j : Nat} (hj : j < k.spaces.length) (g : En -> Bool) {m : Nat} (hm : m < k.spaces.length) {p : Int} (hp : m ≠ j ∨ ∀ e,entOf (spAt k.spaces j).ents p = some e -> g e = false) : ∀ n,n <= (spAt k.spaces j).ents.length -> peekK (setE (cutTo k (spAt k.spaces j).ents g n) j (keepE ((spAt k.spaces j).ents.take n) g ++ (spAt k.spaces j).ents.drop n)) m p = peekK k m p
 | 0,_=>by
  have : keepE ((spAt k.spaces j).ents.take 0) g ++ (spAt k.spaces j).ents.drop 0 = (spAt k.spaces j).ents:=rfl
  rw [this]
  show peekK (setE k j (spAt k.spaces j).ents) m p = _
  rw [setE_self k j hj]
 | n + 1,hn=>by
  have ih:=forget_peek_part h hj g hm hp n (by omega)
  have hr:=forget_part h hj g n (by omega)
  have hlt : n < (spAt k.spaces j).ents.length:=by omega
  have hj1 : j < (cutTo k (spAt k.spaces j).ents g n).spaces.length:=by rw [cut_spaces];exact hj
  rw [drop_cons _ n hlt] at ih hr
  rw [keep_take _ g n hlt]
  unfold cutTo
  cases c : g (enAt (spAt k.spaces j).ents n) with
  | true =>
   rw [if_pos rfl,if_pos rfl,List.append_nil,<- ih]
   have hl2 : (setE (cutTo k (spAt k.spaces j).ents g n) j (keepE ((spAt k.spaces j).ents.take n) g ++ enAt (spAt k.spaces j).ents n :: (spAt k.spaces j).ents.drop (n + 1))).spaces.length = k.spaces.length:=by
    show List.length (List.set _ _ _) = _
    rw [List.length_set,cut_spaces]
   have hpg : m ≠ j ∨ (enAt (spAt k.spaces j).ents n).page ≠ p:=by
    rcases hp with q | q
    · exact .inl q
    · refine .inr fun e=>?_
      have:=q _ ((ent_iff (h.sp hj).rise).2 ⟨getD_mem hlt,e⟩)
      unfold enAt at c
      rw [c] at this;cases this
   have:=cut_peek hr (by rw [hl2];exact hj) (setE_at _ j hj1 _) (m:=m) (by rw [hl2];exact hm) hpg
   have e : cutK (setE (cutTo k (spAt k.spaces j).ents g n) j (keepE ((spAt k.spaces j).ents.take n) g ++ enAt (spAt k.spaces j).ents n :: (spAt k.spaces j).ents.drop (n + 1))) j (keepE ((spAt k.spaces j).ents.take n) g ++ (spAt k.spaces j).ents.drop (n + 1)) (enAt (spAt k.spaces j).ents n) = setE (leaveK (cutTo k (spAt k.spaces j).ents g n) (enAt (spAt k.spaces j).ents n)) j (keepE ((spAt k.spaces j).ents.take n) g ++ (spAt k.spaces j).ents.drop (n + 1)):=by
    show leaveK (setE (setE _ j _) j _) _ = _
    rw [setE_setE _ j hj1,leave_setE]
   rw [e] at this
   exact this
  | false =>
   rw [if_neg (by simp),if_neg (by simp),List.append_assoc]
   exact ih
theorem forget_peek {k : Kn} (h : RightK k) {j : Nat} (hj : j < k.spaces.length) (g : En -> Bool) {m : Nat} (hm : m < k.spaces.length) {p : Int} (hp : m ≠ j ∨ ∀ e,entOf (spAt k.spaces j).ents p = some e -> g e = false) : peekK (forgetK k j g) m p = peekK k m p:=by
 have:=forget_peek_part h hj g hm hp _ (Nat.le_refl _)
 rw [List.take_length,List.drop_length,List.append_nil] at this
 exact this
theorem spAt_snoc (l : List Sp) (s : Sp) (m : Nat) : spAt (l ++ [s]) m = if m < l.length then spAt l m else if m = l.length then s else sp0:=by
 unfold spAt
 rw [List.getD_eq_getElem?_getD,List.getD_eq_getElem?_getD]
 by_cases h : m < l.length
 · rw [if_pos h,List.getElem?_append_left h]
 · rw [if_neg h,List.getElem?_append_right (by omega)]
   by_cases h2 : m = l.length
   · rw [if_pos h2,h2,Nat.sub_self];rfl
   · rw [if_neg h2]
     obtain ⟨d,hd⟩ : ∃ d,m - l.length = d + 1:=⟨m - l.length - 1,by omega⟩
     rw [hd];rfl
theorem fork_peek {k : Kn} (h : RightK k) {j : Nat} (hj : j < k.spaces.length) (m n : Nat) (hn : n < k.spaces.length) (hm : spAt (forkK k j).spaces m = spAt k.spaces n) (p : Int) : peekK (forkK k j) m p = peekK k n p:=by
 have F:=fork_had h hj
 refine peek_eq (by rw [hm]) (fun x hx=>?_) (fun _=>by rw [hm,F.sheets])
 rw [hm] at hx
 have hb:=loc_bd h hn (ent_mem hx)
 exact ⟨fun c=>by rw [F.frm x.loc.toNat (by omega)];rfl,fun c=>by rw [F.slt x.loc.toNat (by omega)];rfl⟩
theorem drop_peek {k : Kn} (h : RightK k) {j : Nat} (hj : j < k.spaces.length) {m : Nat} (hm : m < k.spaces.length) (hne : m ≠ j) (p : Int) : peekK (dropK k j) m p = peekK k m p:=by
 rw [<- forget_peek h hj (fun _=>true) hm (.inl hne) (p:=p)]
 have hj' : j < (forgetK k j (fun _=>true)).spaces.length:=by rw [forget_spaces,List.length_set];exact hj
 have e : spAt (dropK k j).spaces m = spAt (forgetK k j (fun _=>true)).spaces m:=by
  show spAt (List.set _ _ _) m = _
  rw [spAt_set _ _ _ _ hj',if_neg (fun x=>hne x.symm)]
 exact peek_eq (by rw [e]) (fun x hx=>⟨fun _=>rfl,fun _=>rfl⟩) (fun _=>by rw [e];rfl)
end KM
namespace KO
open Go.RowKit GK
open FW (hideC add_below)
open KW (cellFr cellSl cellEn HasRow KAt HasK cellsK)
open KS (Lc cellLc lc0 lcAt blk SpOwn)
variable {lo mb : Nat} {tt : TypeId} {X : List Value} {w : World} {S : St} {k : KM.Kn}
theorem lcAt_snoc (L : List Lc) (l : Lc) (k : Nat) : lcAt (L ++ [l]) k = if k < L.length then lcAt L k else if k = L.length then l else lc0:=by
 unfold lcAt
 rw [List.getD_eq_getElem?_getD,List.getD_eq_getElem?_getD]
 by_cases h : k < L.length
 · rw [if_pos h,List.getElem?_append_left h]
 · rw [if_neg h,List.getElem?_append_right (by omega)]
   by_cases h2 : k = L.length
   · rw [if_pos h2,h2,Nat.sub_self];rfl
   · rw [if_neg h2]
     obtain ⟨d,hd⟩ : ∃ d,k - L.length = d + 1:=⟨k - L.length - 1,by omega⟩
     rw [hd];rfl
def labP (S : St) (v : Value) (l : Lc) : Nat -> Lb:=fun b=>if v.ownBlock = some b then .spaces else if l.va.ownBlock = some b then .areas S.L.length else if l.vp.ownBlock = some b then .ents S.L.length else S.lab b
theorem Km.push {w2 w4 : World} {v' : Value} {l : Lc} {s : KM.Sp} {O : Obj} (h : Km lo mb tt X w S k) (hlo : lo <= w.heap.size) (hb2 : Below w.heap.size w w2)
  (hso : SpOwn w.heap.size w2 l s) (hne : ∀ b,blk l.vp b -> ¬ blk l.va b) (hgr : (w2.alloc O).grownBy w4 S.vP.ownBlock) (hown : w4.ownsRow lo 43 3 v' (S.L.length + 1) (S.L.flatMap cellLc ++ cellLc l))
  (hat : v'.ownBlock = S.vP.ownBlock ∨ v'.ownBlock = some (w2.alloc O).heap.size) :
  Km lo mb tt X (w4.setCell ⟨mb,3,none⟩ v') ⟨labP S v' l,S.vS,S.vF,S.vL,v',S.L ++ [l]⟩ { k with spaces:=k.spaces ++ [s] } /\ (∀ b,b < w.heap.size -> S.lab b = .no -> labP S v' l b = .no) /\ Kp (fun b=>S.lab b ≠ .no) w (w4.setCell ⟨mb,3,none⟩ v'):=by
 have s1:=hb2.size
 have s2:=hgr.size
 have hz : (w2.alloc O).heap.size = w2.heap.size + 1:=World.size_alloc _ _
 rw [hz] at s2 hat
 have kA : Kp (blk S.vP) w w2:=Kp.ofBelow hb2
 have kB : Kp (blk S.vP) w2 (w2.alloc O):=Kp.alloc _ w2 O
 have kC : Kp (blk S.vP) (w2.alloc O) w4:=Kp.grown hgr (fun _ e=>e)
 have kD:=kA.trans (kB.trans kC (fun _ _ g=>g)) (fun _ _ g=>g)
 have hset : Kp (fun b=>b = mb) w4 (w4.setCell ⟨mb,3,none⟩ v'):=Kp.set _ _ _ _ rfl
 have eA : ∀ b,blk l.va b ∨ blk l.vp b -> w.heap.size <= b /\ b < w2.heap.size:=fun b hb=>by
  rcases hb with g | g
  · exact hso.areas.lt b g
  · exact hso.pages.lt b g
 have hvb : ∀ b,blk S.vP b -> b < w.heap.size:=fun b hb=>(h.spaces.lt b hb).2
 have hv4 : ∀ b,blk v' b -> blk S.vP b ∨ b = w2.heap.size + 1:=fun b hb=>by
  unfold blk at hb ⊢
  rcases hat with e | e
  · exact .inl (by rw [<- e];exact hb)
  · right
    rw [e] at hb
    injection hb with hb
    exact hb.symm
 have hmb:=B.isLt h.head
 have old : ∀ b c,S.lab b = c -> c ≠ .no -> c ≠ .spaces -> labP S v' l b = c:=fun b c e h1 h2=>by
  have hb:=(h.bnd b (by rw [e];exact h1)).2
  unfold labP
  rw [if_neg,if_neg,if_neg,e]
  · intro x;have:=eA b (.inr x);omega
  · intro x;have:=eA b (.inl x);omega
  · intro x
    rcases hv4 b x with g | g
    · exact h2 (by rw [<- e];exact h.lP b g)
    · omega
 have lsp : ∀ b,S.lab b = .spaces -> labP S v' l b = .spaces:=fun b e=>by
  have hb:=(h.bnd b (by rw [e];simp)).2
  unfold labP
  by_cases c : v'.ownBlock = some b
  · rw [if_pos c]
  · rw [if_neg c,if_neg,if_neg,e]
    · intro x;have:=eA b (.inr x);omega
    · intro x;have:=eA b (.inl x);omega
 have zD : ∀ {b : Nat} {c : Lb},S.lab b = c -> c ≠ .spaces -> ¬ blk S.vP b:=fun e hc x=>hc (by rw [<- e];exact h.lP _ x)
 have zH : ∀ {b : Nat} {c : Lb},S.lab b = c -> c ≠ .head -> ¬ b = mb:=fun e hc x=>hc (by rw [<- e,x];exact h.lH)
 have row : ∀ {e : TypeId} {n m : Nat} {v : Value} {xs : List Value},w.ownsRow lo e n v m xs -> (∀ b,blk v b -> ¬ blk S.vP b /\ ¬ b = mb) -> (w4.setCell ⟨mb,3,none⟩ v').ownsRow lo e n v m xs:=fun hr hq=>hset.row (kD.row hr (fun b hb=>(hq b hb).1)) (fun b hb=>(hq b hb).2)
 have hle : (S.L ++ [l]).length = S.L.length + 1:=by simp
 have hlen:=h.len
 refine ⟨⟨⟨fun b hb=>?_,row h.sheets (fun b hb=>⟨zD (h.lS b hb) (by simp),zH (h.lS b hb) (by simp)⟩),fun i hi=>row (h.fixes i hi) (fun b hb=>⟨zD (h.lX i hi b hb) (by simp),zH (h.lX i hi b hb) (by simp)⟩),row h.frames (fun b hb=>⟨zD (h.lF b hb) (by simp),zH (h.lF b hb) (by simp)⟩),row h.slots (fun b hb=>⟨zD (h.lL b hb) (by simp),zH (h.lL b hb) (by simp)⟩),?_,?_,fun i hi=>?_,fun b hb=>old b _ (h.lS b hb) (by simp) (by simp),fun i hi b hb=>old b _ (h.lX i hi b hb) (by simp) (by simp),fun b hb=>old b _ (h.lF b hb) (by simp) (by simp),fun b hb=>old b _ (h.lL b hb) (by simp) (by simp),fun b hb=>if_pos hb,fun i hi b hb=>?_,fun i hi b hb=>?_⟩,?_,old mb _ h.lH (by simp) (by simp)⟩,fun b hb e=>?_,?_⟩
 · have hb : labP S v' l b ≠ .no:=hb
   have hs4 : (w4.setCell ⟨mb,3,none⟩ v').heap.size = w4.heap.size:=by simp
   rw [hs4]
   unfold labP at hb
   by_cases c : v'.ownBlock = some b
   · exact hown.lt b c
   · rw [if_neg c] at hb
     by_cases d : l.va.ownBlock = some b
     · have:=eA b (.inl d);omega
     · rw [if_neg d] at hb
       by_cases e : l.vp.ownBlock = some b
       · have:=eA b (.inr e);omega
       · rw [if_neg e] at hb
         have:=h.bnd b hb;omega
 · show World.ownsRow _ lo _ 3 v' (S.L ++ [l]).length _
   rw [hle,List.flatMap_append]
   have : w4.ownsRow lo 43 3 v' (S.L.length + 1) (S.L.flatMap cellLc ++ [l].flatMap cellLc):=by simpa using hown
   exact hset.row this (fun b hb e=>by
    rcases hv4 b hb with g | g
    · exact zH (h.lP b g) (by simp) e
    · omega)
 · show (S.L ++ [l]).length = (k.spaces ++ [s]).length
   simp [hlen]
 · have hi : i < (k.spaces ++ [s]).length:=hi
   rw [List.length_append,List.length_singleton] at hi
   show SpOwn lo _ (lcAt (S.L ++ [l]) i) (KM.spAt (k.spaces ++ [s]) i)
   rw [lcAt_snoc,KM.spAt_snoc,hlen]
   by_cases c : i < k.spaces.length
   · rw [if_pos c,if_pos c]
     exact ((h.each i c).kp kD (fun b hb=>zD (h.lA i c b hb) (by simp)) (fun b hb=>zD (h.lE i c b hb) (by simp))).kp hset (fun b hb=>zH (h.lA i c b hb) (by simp)) (fun b hb=>zH (h.lE i c b hb) (by simp))
   · have e : i = k.spaces.length:=by omega
     rw [if_neg c,if_neg c,if_pos e,if_pos e]
     refine ((hso.mono hlo).kp (kB.trans kC (fun _ _ g=>g)) (fun b hb g=>?_) (fun b hb g=>?_)).kp hset (fun b hb e=>?_) (fun b hb e=>?_)
     · have:=hvb b g;have:=eA b (.inl hb);omega
     · have:=hvb b g;have:=eA b (.inr hb);omega
     · have:=eA b (.inl hb);omega
     · have:=eA b (.inr hb);omega
 · have hi : i < (k.spaces ++ [s]).length:=hi
   rw [List.length_append,List.length_singleton] at hi
   have hb : blk (lcAt (S.L ++ [l]) i).va b:=hb
   rw [lcAt_snoc,hlen] at hb
   by_cases c : i < k.spaces.length
   · rw [if_pos c] at hb
     exact old b _ (h.lA i c b hb) (by simp) (by simp)
   · have e : i = k.spaces.length:=by omega
     rw [if_neg c,if_pos e] at hb
     have hx:=eA b (.inl hb)
     show labP S v' l b = .areas i
     unfold labP
     rw [if_neg,if_pos (show l.va.ownBlock = some b from hb),e,hlen]
     intro x
     rcases hv4 b x with g | g
     · have:=hvb b g;omega
     · omega
 · have hi : i < (k.spaces ++ [s]).length:=hi
   rw [List.length_append,List.length_singleton] at hi
   have hb : blk (lcAt (S.L ++ [l]) i).vp b:=hb
   rw [lcAt_snoc,hlen] at hb
   by_cases c : i < k.spaces.length
   · rw [if_pos c] at hb
     exact old b _ (h.lE i c b hb) (by simp) (by simp)
   · have e : i = k.spaces.length:=by omega
     rw [if_neg c,if_pos e] at hb
     have hx:=eA b (.inr hb)
     show labP S v' l b = .ents i
     unfold labP
     rw [if_neg,if_neg (show ¬ l.va.ownBlock = some b from hne b hb),if_pos (show l.vp.ownBlock = some b from hb),e,hlen]
     intro x
     rcases hv4 b x with g | g
     · have:=hvb b g;omega
     · omega
 · have : w4.heap[mb]? = some (.cells ([S.vS,S.vF,S.vL,S.vP,.int .i64 k.hand] ++ X).toArray tt (0,0)):=kD.keep h.head (fun x=>by have:=h.lP mb x;rw [h.lH] at this;simp at this)
   rw [B.set this 3 v']
   simp
 · unfold labP
   rw [if_neg,if_neg,if_neg,e]
   · intro x;have:=eA b (.inr x);omega
   · intro x;have:=eA b (.inl x);omega
   · intro x
     rcases hv4 b x with g | g
     · have:=h.lP b g;rw [e] at this;simp at this
     · omega
 · exact (kD.mono (fun b _ g=>by rw [h.lP b g];simp)).trans hset (fun b _ e=>by rw [e,h.lH];simp)
theorem Km.zero (h : Km lo mb tt X w S k) {j : Nat} (hj : j < k.spaces.length) {pb n cap : Nat} (hP : S.vP = .slice (some ⟨pb,0,none⟩) n cap) :
  Km lo mb tt X (((w.setCell ⟨pb,j * 3,none⟩ (.bool false)).setCell ⟨pb,j * 3 + 1,none⟩ (.slice none 0 0)).setCell ⟨pb,j * 3 + 2,none⟩ (.slice none 0 0)) ⟨S.lab,S.vS,S.vF,S.vL,S.vP,S.L.set j lc0⟩ { k with spaces:=k.spaces.set j KM.sp0 } /\ Ch S w ⟨S.lab,S.vS,S.vF,S.vL,S.vP,S.L.set j lc0⟩ (((w.setCell ⟨pb,j * 3,none⟩ (.bool false)).setCell ⟨pb,j * 3 + 1,none⟩ (.slice none 0 0)).setCell ⟨pb,j * 3 + 2,none⟩ (.slice none 0 0)):=by
 have hpl : S.lab pb = .spaces:=h.lP pb (by rw [hP];rfl)
 have hl:=h.len
 have hset : Kp (fun b=>b = pb) w (((w.setCell ⟨pb,j * 3,none⟩ (.bool false)).setCell ⟨pb,j * 3 + 1,none⟩ (.slice none 0 0)).setCell ⟨pb,j * 3 + 2,none⟩ (.slice none 0 0)):=kp_set3 w pb _ _ _ _ _ _ rfl
 have hn : n = S.L.length:=by
  obtain ⟨ao,c,e,_⟩:=row_form h.spaces
  rw [hP] at e
  injection e
 subst hn
 have hr1:=h.spaces
 rw [hP] at hr1
 have hr2:=row_set hr1 (j * 3) (.bool false)
 have hlj : j < S.L.length:=by omega
 have e1:=rows_set cellLc 3 (fun _=>rfl) lc0 ⟨false,(lcAt S.L j).va,(lcAt S.L j).vp⟩ 0 (.bool false) (by omega) S.L j hlj rfl
 rw [Nat.add_zero] at e1
 rw [<- e1] at hr2
 have hr3:=row_set hr2 (j * 3 + 1) (.slice none 0 0)
 have e2:=rows_set cellLc 3 (fun _=>rfl) lc0 ⟨false,.slice none 0 0,(lcAt S.L j).vp⟩ 1 (.slice none 0 0) (by omega) (S.L.set j ⟨false,(lcAt S.L j).va,(lcAt S.L j).vp⟩) j (by simpa using hlj) (by rw [KM.getD_set_self _ _ _ _ hlj];rfl)
 rw [<- e2,List.set_set] at hr3
 have hr4:=row_set hr3 (j * 3 + 2) (.slice none 0 0)
 have e3:=rows_set cellLc 3 (fun _=>rfl) lc0 lc0 2 (.slice none 0 0) (by omega) (S.L.set j ⟨false,.slice none 0 0,(lcAt S.L j).vp⟩) j (by simpa using hlj) (by rw [KM.getD_set_self _ _ _ _ hlj];rfl)
 rw [<- e3,List.set_set] at hr4
 refine ⟨h.turn hj (l:=lc0) (s:=KM.sp0) (lab':=S.lab) (hset.mono (fun b _ e=>.inr (.inl (by rw [e];exact hpl)))) (by rw [hP];exact hr4) ⟨rfl,World.ownsRow_nil _ _ _ _,World.ownsRow_nil _ _ _ _⟩ (fun b hb=>⟨(h.bnd b hb).1,Nat.lt_of_lt_of_le (h.bnd b hb).2 hset.size⟩) (fun b c e _ _ _=>e) (fun b hb=>by cases hb) (fun b hb=>by cases hb),hset.mono (fun b _ e=>by rw [e,hpl];simp),fun _ _ e=>e,rfl,rfl,rfl,rfl⟩
end KO
end Go.Proofs.YtpgifpeohlllfaaGreat
