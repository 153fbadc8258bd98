import Derived.Test.YtpgifpeohlllfaaGreatGJ05
import Derived.Test.YtpgifpeohlllfaaGreatGJ03
import Derived.Test.YtpgifpeohlllfaaGreatGJ04
set_option maxHeartbeats 20000000
set_option linter.unusedVariables false
set_option maxRecDepth 100000
set_option linter.unusedSimpArgs false
namespace Go.Proofs.YtpgifpeohlllfaaGreat
namespace KM
open Go.RowKit
def nextH (k : Kn) : Int:=(k.hand + 1) % (k.frames.length : Int)
def passB (held : List Int) (k : Kn) : Bool:=held.contains k.hand || (frAt k.frames k.hand.toNat).seen
def unseen (f : Fr) : Fr:={ f with seen:=false }
def stepH (held : List Int) (k : Kn) : Kn:={ k with hand:=nextH k,frames:=if held.contains k.hand then k.frames else k.frames.set k.hand.toNat (unseen (frAt k.frames k.hand.toNat)) }
def iterH (held : List Int) : Nat -> Kn -> Kn
 | 0,k=>k
 | n + 1,k=>stepH held (iterH held n k)
def clockN (held : List Int) : Nat -> Kn -> Kn
 | 0,k=>k
 | n + 1,k=>if passB held k then clockN held n (stepH held k) else k
def Full (k : Kn) : Prop:=∀ i,i < k.frames.length -> (frAt k.frames i).refs ≠ 0
theorem step_nf (held : List Int) (k : Kn) : (stepH held k).frames.length = k.frames.length:=by
 unfold stepH
 by_cases c : held.contains k.hand = true
 · rw [if_pos c]
 · rw [if_neg c];exact List.length_set
theorem step_at (held : List Int) {k : Kn} (hh : 0 <= k.hand /\ k.hand < k.frames.length) (n : Nat) : frAt (stepH held k).frames n = if (n : Int) = k.hand /\ held.contains k.hand = false then unseen (frAt k.frames n) else frAt k.frames n:=by
 unfold stepH
 by_cases c : held.contains k.hand = true
 · rw [if_pos c,if_neg (by rw [c];simp)]
 · show frAt (if _ then _ else _) n = _
   rw [if_neg c,frAt_set _ _ _ _ (by omega)]
   by_cases d : k.hand.toNat = n
   · rw [if_pos d,if_pos ⟨by omega,by simpa using c⟩,d]
   · rw [if_neg d,if_neg (by omega)]
theorem next_bd {k : Kn} (h3 : 3 <= k.frames.length) : 0 <= nextH k /\ nextH k < k.frames.length:=⟨Int.emod_nonneg _ (by omega),Int.emod_lt_of_pos _ (by omega)⟩
theorem step_right (held : List Int) {k : Kn} (h : RightK k) (hf : Full k) : RightK (stepH held k) /\ Full (stepH held k) /\ Kept k (stepH held k) /\ (stepH held k).spaces = k.spaces /\ (stepH held k).slots = k.slots:=by
 have h3:=h.c.1.1
 have hn:=next_bd h3
 have hat:=step_at held h.hand
 refine ⟨?_,fun i hi=>?_,⟨rfl,step_nf held k,rfl,rfl,fun _ _=>rfl,fun _ _=>rfl,fun j hj p=>?_⟩,rfl,rfl⟩
 · unfold stepH
   by_cases c : held.contains k.hand = true
   · rw [if_pos c];exact h.turn hn
   · rw [if_neg c]
     have hi : k.hand.toNat < k.frames.length:=by have:=h.hand;omega
     have:=(h.frm _ hi)
     have g:=h.frame (this.seen false (this.ne (hf _ hi)))
     exact RightK.turn g (x:=nextH k) (by show 0 <= nextH k /\ nextH k < ((k.frames.set _ _).length : Int);rw [List.length_set];exact hn)
 · rw [step_nf] at hi
   rw [hat]
   have:=hf i hi
   by_cases c : (i : Int) = k.hand /\ held.contains k.hand = false
   · rw [if_pos c];exact this
   · rw [if_neg c];exact this
 · unfold peekK
   show (match entOf (spAt k.spaces j).ents p with
    | some e=>if e.kind = 1 then (frAt (stepH held k).frames e.loc.toNat).data else (slAt k.slots e.loc.toNat).data
    | none=>_) = _
   have hdat : ∀ n,(frAt (stepH held k).frames n).data = (frAt k.frames n).data:=fun n=>by
    rw [hat]
    by_cases c : (n : Int) = k.hand /\ held.contains k.hand = false
    · rw [if_pos c];rfl
    · rw [if_neg c]
   cases entOf (spAt k.spaces j).ents p with
   | none=>rfl
   | some e =>
    show (if e.kind = 1 then (frAt (stepH held k).frames e.loc.toNat).data else _) = _
    rw [hdat]
structure Ticked (held : List Int) (k : Kn) (n : Nat) : Prop where
 right : RightK (iterH held n k)
 full : Full (iterH held n k)
 kept : Kept k (iterH held n k)
 spaces : (iterH held n k).spaces = k.spaces
 slots : (iterH held n k).slots = k.slots
 hand : (iterH held n k).hand = (k.hand + n) % (k.frames.length : Int)
 heldF : ∀ i : Nat,(i : Int) ∈ held -> frAt (iterH held n k).frames i = frAt k.frames i
 past : ∀ m : Nat,m < n -> ∀ i : Nat,(i : Int) = (k.hand + m) % (k.frames.length : Int) -> (i : Int) ∈ held ∨ (frAt (iterH held n k).frames i).seen = false
theorem ticked (held : List Int) {k : Kn} (h : RightK k) (hf : Full k) : ∀ n,Ticked held k n
 | 0=>⟨h,hf,Kept.refl k,rfl,rfl,by have:=h.hand;show k.hand = (k.hand + ((0 : Nat) : Int)) % _;rw [Int.emod_eq_of_lt] <;> omega,fun _ _=>rfl,fun m hm=>by omega⟩
 | n + 1=>by
  have t:=ticked held h hf n
  obtain ⟨s1,s2,s3,s4,s5⟩:=step_right held t.right t.full
  have hat:=step_at held t.right.hand
  have hnf:=t.kept.nf
  have hN:=h.c.1.1
  refine ⟨s1,s2,t.kept.trans s3,s4.trans t.spaces,s5.trans t.slots,?_,fun i hi=>?_,fun m hm i hi=>?_⟩
  · show nextH (iterH held n k) = _
    unfold nextH
    rw [hnf,t.hand,Int.emod_add_emod]
    congr 1
    omega
  · show frAt (stepH held (iterH held n k)).frames i = _
    rw [hat,if_neg,t.heldF i hi]
    intro g
    have : held.contains (iterH held n k).hand = true:=by rw [List.contains_iff_mem,<- g.1];exact hi
    rw [this] at g
    cases g.2
  · show _ ∨ (frAt (stepH held (iterH held n k)).frames i).seen = false
    rw [hat]
    by_cases c : (i : Int) = (iterH held n k).hand /\ held.contains (iterH held n k).hand = false
    · rw [if_pos c];exact .inr rfl
    · rw [if_neg c]
      by_cases d : m = n
      · subst d
        have e1 : (i : Int) = (iterH held m k).hand:=hi.trans t.hand.symm
        have : held.contains (iterH held m k).hand = true:=by
         cases q : held.contains (iterH held m k).hand with
         | true=>rfl
         | false=>exact absurd ⟨e1,q⟩ c
        rw [List.contains_iff_mem,<- e1] at this
        exact .inl this
      · exact t.past m (by omega) i hi
theorem third {held : List Int} (hl : held.length <= 2) (a b c : Int) (h1 : a ≠ b) (h2 : a ≠ c) (h3 : b ≠ c) : a ∉ held ∨ b ∉ held ∨ c ∉ held:=by
 by_cases ha : a ∈ held
 · by_cases hb : b ∈ held
   · right;right
     intro hc
     have l1:=List.length_erase_of_mem ha
     have hb' : b ∈ held.erase a:=(List.mem_erase_of_ne (fun e=>h1 e.symm)).2 hb
     have hc' : c ∈ held.erase a:=(List.mem_erase_of_ne (fun e=>h2 e.symm)).2 hc
     have l2:=List.length_erase_of_mem hb'
     have hc'' : c ∈ (held.erase a).erase b:=(List.mem_erase_of_ne (fun e=>h3 e.symm)).2 hc'
     have:=List.length_pos_of_mem hc''
     have:=List.length_pos_of_mem ha
     omega
   · exact .inr (.inl hb)
 · exact .inl ha
theorem mod_cases {x n : Int} (h0 : 0 <= x) (h1 : x < 2 * n) (hn : 0 < n) : (x < n /\ x % n = x) ∨ (n <= x /\ x % n = x - n):=by
 by_cases c : x < n
 · exact .inl ⟨c,Int.emod_eq_of_lt h0 c⟩
 · right
   refine ⟨by omega,?_⟩
   rw [<- Int.sub_emod_right x n]
   exact Int.emod_eq_of_lt (by omega) (by omega)
theorem clock_ends (held : List Int) (hl : held.length <= 2) {k : Kn} (h : RightK k) (hf : Full k) : ∃ T,T <= 66 /\ (∀ m,m < T -> passB held (iterH held m k) = true) /\ passB held (iterH held T k) = false:=by
 have hN:=h.c.1
 have hex : ∃ T,T <= 66 /\ passB held (iterH held T k) = false:=by
  have hh:=h.hand
  obtain ⟨N,hNe⟩ : ∃ N : Int,N = (k.frames.length : Int):=⟨_,rfl⟩
  have hit : ∀ x : Nat,x < 3 -> (k.hand + x) % N ∉ held -> ∃ T,T <= 66 /\ passB held (iterH held T k) = false:=fun x hx hno=>by
   have t:=ticked held h hf (k.frames.length + x)
   have hm : 0 <= (k.hand + x) % N /\ (k.hand + x) % N < N:=⟨Int.emod_nonneg _ (by omega),Int.emod_lt_of_pos _ (by omega)⟩
   have hhand : (iterH held (k.frames.length + x) k).hand = (k.hand + x) % N:=by
    rw [t.hand,<- hNe,<- Int.add_emod_right (k.hand + x) N,hNe]
    congr 1
    omega
   refine ⟨k.frames.length + x,by omega,?_⟩
   unfold passB
   rw [hhand]
   have hi : (((k.hand + x) % N).toNat : Int) = (k.hand + x) % N:=by omega
   have:=t.past x (by omega) ((k.hand + x) % N).toNat (by rw [hi,<- hNe])
   rw [hi] at this
   have c1 : held.contains ((k.hand + x) % N) = false:=by
    cases q : held.contains ((k.hand + x) % N) with
    | false=>rfl
    | true=>exact absurd (List.contains_iff_mem.1 q) hno
   rw [c1,this.resolve_left hno]
   rfl
  have d0:=mod_cases (x:=k.hand + (0 : Nat)) (n:=N) (by omega) (by omega) (by omega)
  have d1:=mod_cases (x:=k.hand + (1 : Nat)) (n:=N) (by omega) (by omega) (by omega)
  have d2:=mod_cases (x:=k.hand + (2 : Nat)) (n:=N) (by omega) (by omega) (by omega)
  rcases third hl ((k.hand + (0 : Nat)) % N) ((k.hand + (1 : Nat)) % N) ((k.hand + (2 : Nat)) % N) (by omega) (by omega) (by omega) with g | g | g
  · exact hit 0 (by omega) g
  · exact hit 1 (by omega) g
  · exact hit 2 (by omega) g
 obtain ⟨T,hT,hp⟩:=hex
 clear hN
 induction T using Nat.strongRecOn with
 | _ T ih =>
  by_cases c : ∃ m,m < T /\ passB held (iterH held m k) = false
  · obtain ⟨m,hm,hq⟩:=c
    exact ih m hm (by omega) hq
  · exact ⟨T,hT,fun m hm=>by
     cases q : passB held (iterH held m k) with
     | true=>rfl
     | false=>exact absurd ⟨m,hm,q⟩ c,hp⟩
theorem clock_iter (held : List Int) : ∀ (T n : Nat) (k : Kn),T <= n -> (∀ m,m < T -> passB held (iterH held m k) = true) -> passB held (iterH held T k) = false -> clockN held (n + 1) k = iterH held T k:=fun T=>by
 have shift : ∀ m k,iterH held m (stepH held k) = iterH held (m + 1) k:=fun m k=>by
  induction m with
  | zero=>rfl
  | succ m ih=>show stepH held _ = stepH held _;rw [ih]
 induction T with
 | zero =>
  intro n k _ _ h
  show (if passB held k then _ else k) = k
  rw [if_neg (by rw [show passB held k = false from h];simp)]
 | succ T ih =>
  intro n k hn h1 h2
  obtain ⟨n,rfl⟩ : ∃ m,n = m + 1:=⟨n - 1,by omega⟩
  show (if passB held k then clockN held (n + 1) (stepH held k) else k) = _
  rw [if_pos (show passB held k = true from h1 0 (by omega)),ih n (stepH held k) (by omega) (fun m hm=>by rw [shift];exact h1 (m + 1) (by omega)) (by rw [shift];exact h2),shift]
def getK (k : Kn) (held : List Int) : Nat × Kn:=match freeF k.frames with
 | some i=>(i,k)
 | none=>((clockN held 70 k).hand.toNat,{ asideK (clockN held 70 k) (clockN held 70 k).hand.toNat with hand:=nextH (clockN held 70 k) })
structure Got (k : Kn) (held : List Int) (g : Nat × Kn) : Prop where
 right : RightK g.2
 kept : Kept k g.2
 lt : g.1 < k.frames.length
 free : names g.2.spaces 1 g.1 = []
 heldF : ∀ i : Nat,(i : Int) ∈ held -> (frAt k.frames i).refs ≠ 0 -> i ≠ g.1 /\ frAt g.2.frames i = frAt k.frames i
 ent : ∀ j,j < k.spaces.length -> ∀ p,(∀ e,entOf (spAt k.spaces j).ents p = some e -> ¬ (e.kind = 1 /\ e.loc = (g.1 : Int))) -> entOf (spAt g.2.spaces j).ents p = entOf (spAt k.spaces j).ents p
 slot : ∀ n : Nat,names k.spaces 2 n ≠ [] -> slAt g.2.slots n = slAt k.slots n
theorem get_got {k : Kn} (h : RightK k) {held : List Int} (hl : held.length <= 2) : Got k held (getK k held):=by
 unfold getK
 cases hf : freeF k.frames with
 | some i =>
  obtain ⟨h1,h2,_⟩:=List.findIdx?_eq_some_iff_getElem.1 hf
  have hr : (frAt k.frames i).refs = 0:=by
   unfold frAt
   rw [List.getD_eq_getElem?_getD,List.getElem?_eq_getElem h1]
   exact of_decide_eq_true h2
  exact ⟨h,Kept.refl k,h1,(h.frm i h1).nil hr,fun n _ hn=>⟨fun e=>hn (by rw [e];exact hr),rfl⟩,fun j _ p _=>rfl,fun _ _=>rfl⟩
 | none =>
  have hF : Full k:=fun i hi hr=>by
   have:=List.findIdx?_eq_none_iff.1 hf (frAt k.frames i) (getD_mem hi)
   simp [hr] at this
  obtain ⟨T,hT,t1,t2⟩:=clock_ends held hl h hF
  have hc : clockN held 70 k = iterH held T k:=clock_iter held T 69 k (by omega) t1 t2
  rw [hc]
  have t:=ticked held h hF T
  obtain ⟨k1,hk1⟩ : ∃ k1,k1 = iterH held T k:=⟨_,rfl⟩
  have tr:=t.right;have tf:=t.full;have tk:=t.kept;have ts:=t.spaces;have tl:=t.slots;have th:=t.heldF
  rw [<- hk1] at t2 tr tf tk ts tl th ⊢
  obtain ⟨i,hi⟩ : ∃ i,i = k1.hand.toNat:=⟨_,rfl⟩
  have hh:=tr.hand
  have hi1 : i < k1.frames.length:=by omega
  have hr:=tf i hi1
  have a1:=tr.aside hi1 hr
  have a2:=aside_kept tr hi1 hr
  have h3:=tr.c.1.1
  have a3 : (asideK k1 i).frames.length = k1.frames.length:=a2.nf
  rw [<- hi]
  have hb : RightK { asideK k1 i with hand:=nextH k1 }:=a1.turn (by rw [a3];exact next_bd h3)
  have hkk : Kept (asideK k1 i) { asideK k1 i with hand:=nextH k1 }:=⟨rfl,rfl,rfl,rfl,fun _ _=>rfl,fun _ _=>rfl,fun _ _ _=>rfl⟩
  have hnf:=tk.nf
  refine ⟨hb,tk.trans (a2.trans hkk),by show i < _;omega,aside_free k1 i,fun n hn _=>?_,fun j hj p he=>?_,fun n hn=>?_⟩
  · have hne : n ≠ i:=fun e=>by
     unfold passB at t2
     have : held.contains k1.hand = true:=List.contains_iff_mem.2 (by rw [show k1.hand = (n : Int) by omega];exact hn)
     rw [this] at t2
     cases t2
    refine ⟨hne,?_⟩
    show frAt (asideK k1 i).frames n = _
    rw [(aside_frames k1 i).1,frAt_set _ _ _ _ hi1,if_neg (fun e=>hne e.symm),th n hn]
  · show entOf (spAt (asideK k1 i).spaces j).ents p = _
    rw [aside_ent tr i (by rw [ts];exact hj) p (by rw [ts];exact he),ts]
  · show slAt (asideK k1 i).slots n = _
    rw [aside_slot tr hi1 hr n (by rw [ts];exact hn),tl]
def zeroAt (k : Kn) (j : Nat) (p : Int) : Bool:=(AM.findN (spAt k.spaces j).areas p).1.zero
def mapped (k : Kn) (j : Nat) (p : Int) : Prop:=(AM.findN (spAt k.spaces j).areas p).2 = true
def presentK (k : Kn) (j : Nat) (p : Int) (held : List Int) : Nat × Kn:=match entOf (spAt k.spaces j).ents p with
 | some e=>if e.kind = 1 then (e.loc.toNat,k) else ((getK k held).1,moveTo (getK k held).2 j p (getK k held).1 (slAt (getK k held).2.slots e.loc.toNat).data true)
 | none=>((getK k held).1,moveTo (getK k held).2 j p (getK k held).1 (fillK (getK k held).2.sheets p (zeroAt (getK k held).2 j p)) false)
def aloneK (k : Kn) (j : Nat) (p : Int) (a : Nat) (held : List Int) : Nat × Kn:=if (frAt k.frames a).refs = 1 then (a,k) else ((getK k (held ++ [(a : Int)])).1,moveTo (getK k (held ++ [(a : Int)])).2 j p (getK k (held ++ [(a : Int)])).1 (frAt (getK k (held ++ [(a : Int)])).2.frames a).data true)
def mark (way : Int) (f : Fr) : Fr:=⟨f.data,f.refs,f.dirty || decide (way = 1),true⟩
def markK (k : Kn) (way : Int) (i : Nat) : Kn:={ k with frames:=k.frames.set i (mark way (frAt k.frames i)) }
def twoK (k : Kn) (j : Nat) (p way : Int) (held : List Int) : Nat × Kn:=if way = 1 then aloneK (presentK k j p held).2 j p (presentK k j p held).1 held else presentK k j p held
def bringK (k : Kn) (j : Nat) (p way : Int) (held : List Int) : Nat × Kn:=((twoK k j p way held).1,markK (twoK k j p way held).2 way (twoK k j p way held).1)
structure Brought (k : Kn) (j : Nat) (p : Int) (held : List Int) (r : Nat × Kn) : Prop where
 right : RightK r.2
 kept : Kept k r.2
 lt : r.1 < k.frames.length
 here : entOf (spAt r.2.spaces j).ents p = some ⟨p,1,r.1⟩
 stay : ∀ j',j' < k.spaces.length -> ∀ q e,entOf (spAt k.spaces j').ents q = some e -> e.kind = 1 -> e.loc ∈ held -> ¬ (j' = j /\ q = p) -> entOf (spAt r.2.spaces j').ents q = some e
theorem move_ents {k : Kn} {j : Nat} {p : Int} {i : Nat} {d : ByteArray} {dy : Bool} (m : Movable k j p i d dy) (n : Nat) (q : Int) : entOf (spAt (moveTo k j p i d dy).spaces n).ents q = if j = n /\ q = p then some ⟨p,1,i⟩ else entOf (spAt k.spaces n).ents q:=by
 obtain ⟨_,_,_,_,f5,_,_⟩:=move_frames k j p i d dy m
 rw [f5,spAt_set _ _ _ _ m.hj]
 by_cases c : j = n
 · rw [if_pos c]
   show entOf (putE (spAt k.spaces j).ents ⟨p,1,i⟩) q = _
   rw [put_ent (m.right.sp m.hj).rise]
   by_cases c2 : q = p
   · rw [if_pos c2,if_pos ⟨c,c2⟩]
   · rw [if_neg c2,if_neg (fun g=>c2 g.2),c]
 · rw [if_neg c,if_neg (fun g=>c g.1)]
theorem Got.stay {k : Kn} (h : RightK k) {held : List Int} {g : Nat × Kn} (G : Got k held g) {j : Nat} (hj : j < k.spaces.length) {q : Int} {e : En} (he : entOf (spAt k.spaces j).ents q = some e) (hn : e.kind = 1 -> e.loc ∈ held) : entOf (spAt g.2.spaces j).ents q = some e:=by
 have hm:=(ent_iff (h.sp hj).rise).1 he
 rw [G.ent j hj q ?_,he]
 intro x hx c
 rw [he] at hx
 injection hx with hx
 subst hx
 have hb:=(loc_bd h hj hm.1).resolve_right (fun y=>by omega)
 have hne : (frAt k.frames e.loc.toNat).refs ≠ 0:=fun z=>by
  have:=name_of hj hm.1
  rw [c.1,<- hb.2.1,(h.frm _ hb.2.2).nil z] at this
  cases this
 have:=(G.heldF e.loc.toNat (by rw [hb.2.1];exact hn c.1) hne).1
 omega
theorem Got.mapped {k : Kn} {held : List Int} {g : Nat × Kn} (G : Got k held g) {j : Nat} (hj : j < k.spaces.length) {p : Int} (hp : mapped k j p) : (AM.findN (spAt g.2.spaces j).areas p).2 = true:=by rw [G.kept.areas j hj];exact hp
theorem filled_size (hs : List LM.Sh) (hr : LM.riseB hs = true) (p : Int) (h : (sheetFor hs p).isSome = true) : (filled hs p).size = 16:=by
 unfold filled
 cases g : sheetFor hs p with
 | none=>rw [g] at h;cases h
 | some s =>
  have hm : s ∈ hs:=List.mem_of_find?_eq_some g
  obtain ⟨i,hi,e⟩:=mem_getD LM.sh0 hm
  have hb:=(LM.riseTo_ok hs hs.length hr i hi).1
  rw [show LM.shAt hs i = s from e] at hb
  unfold LM.sheetB LM.headB at hb
  simp only [Bool.and_eq_true,decide_eq_true_eq] at hb
  exact LM.laidTo_size s.data s.fixes hb.1.2.2 s.fixes.length hb.2
theorem fill_size {k : Kn} (h : RightK k) {j : Nat} (hj : j < k.spaces.length) {p : Int} (hp : mapped k j p) : (fillK k.sheets p (zeroAt k j p)).size = 16:=by
 unfold fillK
 cases z : zeroAt k j p with
 | true=>rfl
 | false=>exact filled_size _ h.rise p ((h.sp hj).sheets p hp z)
theorem present_had {k : Kn} (h : RightK k) {j : Nat} (hj : j < k.spaces.length) {p : Int} (hp : mapped k j p) {held : List Int} (hl : held.length <= 2) : Brought k j p held (presentK k j p held):=by
 have hsp:=h.sp hj
 have G:=get_got h hl
 unfold presentK
 cases g : entOf (spAt k.spaces j).ents p with
 | none =>
  dsimp only
  have hent : entOf (spAt (getK k held).2.spaces j).ents p = none:=by rw [G.ent j hj p (fun e he=>by rw [g] at he;cases he),g]
  have hpk : fillK (getK k held).2.sheets p (zeroAt (getK k held).2 j p) = peekK (getK k held).2 j p:=by unfold peekK;rw [hent];rfl
  have hj' : j < (getK k held).2.spaces.length:=by rw [G.kept.np];exact hj
  have m : Movable (getK k held).2 j p (getK k held).1 (fillK (getK k held).2.sheets p (zeroAt (getK k held).2 j p)) false:=⟨G.right,hj',G.mapped hj hp,by rw [G.kept.nf];exact G.lt,G.free,fill_size G.right hj' (G.mapped hj hp),fun _=>rfl⟩
  refine ⟨move_right m,G.kept.trans (move_kept m hpk),G.lt,by rw [move_ents m,if_pos ⟨rfl,rfl⟩],fun j' hj2 q e he hk hin hne=>?_⟩
  rw [move_ents m,if_neg (fun x=>hne ⟨x.1.symm,x.2⟩)]
  exact G.stay h hj2 he (fun _=>hin)
 | some e =>
  have he:=(ent_iff hsp.rise).1 g
  dsimp only
  by_cases c : e.kind = 1
  · rw [if_pos c]
    have hb:=(loc_bd h hj he.1).resolve_right (fun y=>by omega)
    refine ⟨h,Kept.refl k,hb.2.2,?_,fun j' hj2 q e he hk hin hne=>he⟩
    show entOf (spAt k.spaces j).ents p = some ⟨p,1,(e.loc.toNat : Int)⟩
    rw [g,hb.2.1,<- c,<- he.2]
  · rw [if_neg c]
    have hb:=(loc_bd h hj he.1).resolve_left (fun y=>c y.1)
    have hent : entOf (spAt (getK k held).2.spaces j).ents p = some e:=by rw [G.ent j hj p (fun x hx=>by rw [g] at hx;injection hx with hx;subst hx;exact fun y=>c y.1),g]
    have hj' : j < (getK k held).2.spaces.length:=by rw [G.kept.np];exact hj
    have he':=(ent_iff (G.right.sp hj').rise).1 hent
    have hpk : (slAt (getK k held).2.slots e.loc.toNat).data = peekK (getK k held).2 j p:=by unfold peekK;rw [hent];show _ = if e.kind = 1 then _ else _;rw [if_neg c]
    have hsz : (slAt (getK k held).2.slots e.loc.toNat).data.size = 16:=(G.right.slt e.loc.toNat (by rw [G.kept.ns];exact hb.2.2)).size (fun z=>by
     have:=name_of hj' he'.1
     rw [hb.1,<- hb.2.1,z] at this
     cases this)
    have m : Movable (getK k held).2 j p (getK k held).1 (slAt (getK k held).2.slots e.loc.toNat).data true:=⟨G.right,hj',G.mapped hj hp,by rw [G.kept.nf];exact G.lt,G.free,hsz,fun y=>by cases y⟩
    refine ⟨move_right m,G.kept.trans (move_kept m hpk),G.lt,by rw [move_ents m,if_pos ⟨rfl,rfl⟩],fun j' hj2 q e he hk hin hne=>?_⟩
    rw [move_ents m,if_neg (fun x=>hne ⟨x.1.symm,x.2⟩)]
    exact G.stay h hj2 he (fun _=>hin)
theorem alone_had {k : Kn} (h : RightK k) {j : Nat} (hj : j < k.spaces.length) {p : Int} (hp : mapped k j p) {a : Nat} (ha : entOf (spAt k.spaces j).ents p = some ⟨p,1,a⟩) {held : List Int} (hl : held.length <= 1) : Brought k j p held (aloneK k j p a held) /\ (frAt (aloneK k j p a held).2.frames (aloneK k j p a held).1).refs = 1:=by
 have hsp:=h.sp hj
 have he:=(ent_iff hsp.rise).1 ha
 have hb:=(loc_bd h hj he.1).resolve_right (fun y=>by have:=y.1;simp at this)
 have hat : a < k.frames.length:=by have:=hb.2.2;simpa using this
 unfold aloneK
 by_cases c : (frAt k.frames a).refs = 1
 · rw [if_pos c]
   exact ⟨⟨h,Kept.refl k,hat,ha,fun j' hj2 q e he hk hin hne=>he⟩,c⟩
 · rw [if_neg c]
   have G:=get_got h (held:=held ++ [(a : Int)]) (by rw [List.length_append,List.length_singleton];omega)
   obtain ⟨g,hg⟩ : ∃ g,g = getK k (held ++ [(a : Int)]):=⟨_,rfl⟩
   rw [<- hg] at G ⊢
   have hent : entOf (spAt g.2.spaces j).ents p = some ⟨p,1,a⟩:=G.stay h hj ha (fun _=>List.mem_append.2 (.inr (by simp)))
   have hj' : j < g.2.spaces.length:=by rw [G.kept.np];exact hj
   have he':=(ent_iff (G.right.sp hj').rise).1 hent
   have hpk : (frAt g.2.frames a).data = peekK g.2 j p:=by unfold peekK;rw [hent];show _ = if (1 : Int) = 1 then (frAt g.2.frames (a : Int).toNat).data else _;rw [if_pos rfl,Int.toNat_natCast]
   have hsz : (frAt g.2.frames a).data.size = 16:=(G.right.frm a (by rw [G.kept.nf];exact hat)).size (fun z=>by
    have:=name_of hj' he'.1
    rw [z] at this
    cases this)
   have m : Movable g.2 j p g.1 (frAt g.2.frames a).data true:=⟨G.right,hj',G.mapped hj hp,by rw [G.kept.nf];exact G.lt,G.free,hsz,fun y=>by cases y⟩
   refine ⟨⟨move_right m,G.kept.trans (move_kept m hpk),G.lt,by rw [move_ents m,if_pos ⟨rfl,rfl⟩],fun j' hj2 q e he hk hin hne=>?_⟩,?_⟩
   · rw [move_ents m,if_neg (fun x=>hne ⟨x.1.symm,x.2⟩)]
     exact G.stay h hj2 he (fun _=>List.mem_append.2 (.inl hin))
   · obtain ⟨_,_,_,_,_,f6,_⟩:=move_frames _ _ _ _ _ _ m
     show (frAt (moveTo g.2 j p g.1 _ true).frames g.1).refs = 1
     rw [f6,if_pos rfl]
theorem mark_had {k : Kn} {j : Nat} {p : Int} {held : List Int} {r : Nat × Kn} (b : Brought k j p held r) (hj : j < k.spaces.length) (way : Int) : Brought k j p held (r.1,markK r.2 way r.1):=by
 have h:=b.right
 have hlt : r.1 < r.2.frames.length:=by rw [b.kept.nf];exact b.lt
 have hj' : j < r.2.spaces.length:=by rw [b.kept.np];exact hj
 have he:=(ent_iff (h.sp hj').rise).1 b.here
 have hL : names r.2.spaces 1 r.1 ≠ []:=fun z=>by
  have:=name_of hj' he.1
  rw [z] at this
  cases this
 have hf:=h.frm r.1 hlt
 have hR : RightK (markK r.2 way r.1):=h.frame (f:=mark way (frAt r.2.frames r.1)) ⟨hf.refs,fun e=>absurd e hL,hf.one,hf.size,fun d=>hf.fill (by
  have d : ((frAt r.2.frames r.1).dirty || decide (way = 1)) = false:=d
  cases q : (frAt r.2.frames r.1).dirty with
  | false=>rfl
  | true=>rw [q] at d;cases d)⟩
 refine ⟨hR,b.kept.trans ⟨rfl,List.length_set,rfl,rfl,fun _ _=>rfl,fun _ _=>rfl,fun n hn q=>?_⟩,b.lt,b.here,b.stay⟩
 unfold peekK
 show (match entOf (spAt r.2.spaces n).ents q with
  | some e=>if e.kind = 1 then (frAt (r.2.frames.set r.1 (mark way (frAt r.2.frames r.1))) e.loc.toNat).data else (slAt r.2.slots e.loc.toNat).data
  | none=>_) = _
 cases entOf (spAt r.2.spaces n).ents q with
 | none=>rfl
 | some e =>
  show (if e.kind = 1 then _ else _) = if e.kind = 1 then _ else _
  rw [frAt_set _ _ _ _ hlt]
  by_cases c : r.1 = e.loc.toNat
  · rw [if_pos c,<- c];rfl
  · rw [if_neg c]
theorem Brought.trans {k : Kn} {j : Nat} {p : Int} {held : List Int} {r s : Nat × Kn} (a : Brought k j p held r) (b : Brought r.2 j p held s) : Brought k j p held s :=
 ⟨b.right,a.kept.trans b.kept,by have:=b.lt;rw [a.kept.nf] at this;exact this,b.here,fun j' hj' q e he h1 h2 h3=>b.stay j' (by rw [a.kept.np];exact hj') q e (a.stay j' hj' q e he h1 h2 h3) h1 h2 h3⟩
theorem Kept.mapped {k k' : Kn} (h : Kept k k') {j : Nat} (hj : j < k.spaces.length) {p : Int} (hp : mapped k j p) : KM.mapped k' j p:=by unfold KM.mapped;rw [h.areas j hj];exact hp
theorem bring_had {k : Kn} (h : RightK k) {j : Nat} (hj : j < k.spaces.length) {p : Int} (hp : mapped k j p) (way : Int) {held : List Int} (hl : held.length <= 1) : Brought k j p held (bringK k j p way held) /\ (way = 1 -> (frAt (bringK k j p way held).2.frames (bringK k j p way held).1).refs = 1 /\ (frAt (bringK k j p way held).2.frames (bringK k j p way held).1).dirty = true):=by
 have P:=present_had h hj hp (held:=held) (by omega)
 have hT : Brought k j p held (twoK k j p way held) /\ (way = 1 -> (frAt (twoK k j p way held).2.frames (twoK k j p way held).1).refs = 1):=by
  unfold twoK
  by_cases c : way = 1
  · rw [if_pos c]
    have A:=alone_had P.right (by rw [P.kept.np];exact hj) (P.kept.mapped hj hp) P.here hl
    exact ⟨P.trans A.1,fun _=>A.2⟩
  · rw [if_neg c];exact ⟨P,fun x=>absurd x c⟩
 refine ⟨mark_had hT.1 hj way,fun c=>?_⟩
 have hlt : (twoK k j p way held).1 < (twoK k j p way held).2.frames.length:=by rw [hT.1.kept.nf];exact hT.1.lt
 have e : frAt (bringK k j p way held).2.frames (bringK k j p way held).1 = mark way (frAt (twoK k j p way held).2.frames (twoK k j p way held).1):=by
  show frAt ((twoK k j p way held).2.frames.set _ _) (twoK k j p way held).1 = _
  rw [frAt_set _ _ _ _ hlt,if_pos rfl]
 rw [e]
 exact ⟨hT.2 c,by unfold mark;simp [c]⟩
structure Us where
 refs : Int
 page : Int
 zero : Bool
def us0 : Us:=⟨0,0,false⟩
def usAt (l : List Us) (i : Nat) : Us:=l.getD i us0
def useOk (us : List Us) (e : En) (z : Bool) : Bool:=decide (0 <= e.loc /\ e.loc < (us.length : Int)) && !(decide (0 < (usAt us e.loc.toNat).refs) && (decide ((usAt us e.loc.toNat).page ≠ e.page) || (usAt us e.loc.toNat).zero != z))
def useN (us : List Us) (e : En) (z : Bool) : List Us:=us.set e.loc.toNat ⟨(usAt us e.loc.toNat).refs + 1,e.page,z⟩
def entB (ar : List AM.Ar) (last : Int) (uf us : List Us) (e : En) : Bool:=(AM.findN ar e.page).2 && (decide (last < e.page) && (if e.kind = 1 then useOk uf e (AM.findN ar e.page).1.zero else if e.kind = 2 then useOk us e (AM.findN ar e.page).1.zero else false))
def entU (ar : List AM.Ar) (u : List Us × List Us) (e : En) : List Us × List Us:=if e.kind = 1 then (useN u.1 e (AM.findN ar e.page).1.zero,u.2) else (u.1,useN u.2 e (AM.findN ar e.page).1.zero)
def lastP (es : List En) (k : Nat) : Int:=if k = 0 then 0 else (enAt es (k - 1)).page
def entsU (ar : List AM.Ar) (es : List En) (u : List Us × List Us) : Nat -> List Us × List Us
 | 0=>u
 | k + 1=>entU ar (entsU ar es u k) (enAt es k)
def entsB (ar : List AM.Ar) (es : List En) (u : List Us × List Us) : Nat -> Bool
 | 0=>true
 | k + 1=>entsB ar es u k && entB ar (lastP es k) (entsU ar es u k).1 (entsU ar es u k).2 (enAt es k)
def haveB (hs : List LM.Sh) (ar : List AM.Ar) : Bool:=ar.all fun a=>(List.range a.pages.toNat).all fun n=>a.zero || decide ((filled hs (a.page + (n : Int))).size ≠ 0)
def rightSp (hs : List LM.Sh) (s : Sp) : Bool:=if s.live then decide (AM.checkN s.areas = 0) && haveB hs s.areas else decide (s.areas.length = 0) && decide (s.ents.length = 0)
def spsU (ss : List Sp) (u : List Us × List Us) : Nat -> List Us × List Us
 | 0=>u
 | k + 1=>entsU (spAt ss k).areas (spAt ss k).ents (spsU ss u k) (spAt ss k).ents.length
def spsB (hs : List LM.Sh) (ss : List Sp) (u : List Us × List Us) : Nat -> Bool
 | 0=>true
 | k + 1=>spsB hs ss u k && (rightSp hs (spAt ss k) && entsB (spAt ss k).areas (spAt ss k).ents (spsU ss u k) (spAt ss k).ents.length)
def isZ (f : Fr) : Bool:=decide (f.data.size = 0 /\ f.refs = 0 /\ f.dirty = false /\ f.seen = false)
def isZS (f : Sl) : Bool:=decide (f.data.size = 0 /\ f.refs = 0)
def rightFr (hs : List LM.Sh) (f : Fr) (u : Us) : Bool:=if u.refs = 0 then isZ f else decide (f.refs = u.refs /\ f.data.size = 16) && (f.dirty || decide (f.data = fillK hs u.page u.zero))
def rightSl (s : Sl) (u : Us) : Bool:=if u.refs = 0 then isZS s else decide (s.refs = u.refs /\ s.data.size = 16)
def users (k : Kn) : List Us × List Us:=spsU k.spaces (List.replicate k.frames.length us0,List.replicate k.slots.length us0) k.spaces.length
def fineP (k : Kn) : Bool:=LM.riseB k.sheets && (decide (0 <= k.hand /\ k.hand < (k.frames.length : Int)) && (spsB k.sheets k.spaces (List.replicate k.frames.length us0,List.replicate k.slots.length us0) k.spaces.length && (decide (room k.spaces <= (k.slots.length : Int)) && ((List.range k.frames.length).all (fun i=>rightFr k.sheets (frAt k.frames i) (usAt (users k).1 i)) && (List.range k.slots.length).all (fun i=>rightSl (slAt k.slots i) (usAt (users k).2 i))))))
def checkK (k : Kn) : Int:=if counts k = false then 2 else if fineP k then 0 else 1
def Sum (L : List (Int × Bool)) (u : Us) : Prop:=u.refs = L.length /\ ∀ x ∈ L,x = (u.page,u.zero)
def SumA (N : Int -> Int -> List (Int × Bool)) (nf ns : Nat) (u : List Us × List Us) : Prop:=(u.1.length = nf /\ u.2.length = ns) /\ (∀ i : Nat,i < nf -> Sum (N 1 i) (usAt u.1 i)) /\ ∀ i : Nat,i < ns -> Sum (N 2 i) (usAt u.2 i)
theorem usAt_set (l : List Us) (j n : Nat) (s : Us) (hj : j < l.length) : usAt (l.set j s) n = if j = n then s else usAt l n:=by
 unfold usAt
 by_cases c : j = n
 · subst c;rw [if_pos rfl,getD_set_self _ _ _ _ hj]
 · rw [if_neg c,getD_set_ne _ _ _ _ _ c]
theorem sum_more {L : List (Int × Bool)} {u : Us} (h : Sum L u) {p : Int} {z : Bool} (hc : ¬ (0 < u.refs /\ (u.page ≠ p ∨ u.zero ≠ z))) : Sum (L ++ [(p,z)]) ⟨u.refs + 1,p,z⟩:=by
 refine ⟨by show u.refs + 1 = _;rw [h.1,List.length_append];rfl,fun x hx=>?_⟩
 rcases List.mem_append.1 hx with g | g
 · have hpos : 0 < u.refs:=by rw [h.1];have:=List.length_pos_of_mem g;omega
   have e:=h.2 x g
   have : ¬ (u.page ≠ p ∨ u.zero ≠ z):=fun y=>hc ⟨hpos,y⟩
   rw [e]
   show (u.page,u.zero) = (p,z)
   by_cases c1 : u.page = p
   · by_cases c2 : u.zero = z
     · rw [c1,c2]
     · exact absurd (.inr c2) this
   · exact absurd (.inl c1) this
 · simpa using g
theorem useOk_iff {us : List Us} {e : En} {z : Bool} : useOk us e z = true ↔ (0 <= e.loc /\ e.loc < (us.length : Int)) /\ ¬ (0 < (usAt us e.loc.toNat).refs /\ ((usAt us e.loc.toNat).page ≠ e.page ∨ (usAt us e.loc.toNat).zero ≠ z)):=by
 unfold useOk
 simp only [Bool.and_eq_true,decide_eq_true_eq,Bool.not_eq_true',Bool.and_eq_false_iff,Bool.or_eq_false_iff,decide_eq_false_iff_not,bne_eq_false_iff_eq]
 constructor
 · rintro ⟨h1,h2⟩
   refine ⟨h1,fun ⟨a,b⟩=>?_⟩
   rcases h2 with g | ⟨g1,g2⟩
   · exact g a
   · rcases b with b | b
     · exact g1 b
     · exact b g2
 · rintro ⟨h1,h2⟩
   refine ⟨h1,?_⟩
   by_cases a : 0 < (usAt us e.loc.toNat).refs
   · right
     refine ⟨fun b=>h2 ⟨a,.inl b⟩,?_⟩
     by_cases c : (usAt us e.loc.toNat).zero = z
     · exact c
     · exact absurd ⟨a,.inr c⟩ h2
   · exact .inl a
theorem ent_step {N : Int -> Int -> List (Int × Bool)} {nf ns : Nat} {u : List Us × List Us} (h : SumA N nf ns u) {ar : List AM.Ar} {last : Int} {e : En} (hb : entB ar last u.1 u.2 e = true) :
  SumA (fun kd i=>N kd i ++ nm ar kd i [e]) nf ns (entU ar u e) /\ entOk nf ns ar e /\ last < e.page:=by
 unfold entB at hb
 rw [Bool.and_eq_true,Bool.and_eq_true,decide_eq_true_eq] at hb
 obtain ⟨h1,h2,h3⟩:=hb
 obtain ⟨⟨l1,l2⟩,s1,s2⟩:=h
 by_cases c : e.kind = 1
 · rw [if_pos c] at h3
   obtain ⟨b,hc⟩:=useOk_iff.1 h3
   refine ⟨⟨⟨?_,?_⟩,fun i hi=>?_,fun i hi=>?_⟩,⟨h1,.inl ⟨c,b.1,by omega⟩⟩,h2⟩
   · unfold entU;rw [if_pos c];unfold useN;rw [List.length_set];exact l1
   · unfold entU;rw [if_pos c];exact l2
   · unfold entU;rw [if_pos c];unfold useN
     show Sum (N 1 i ++ nm ar 1 i [e]) (usAt (u.1.set _ _) i)
     rw [usAt_set _ _ _ _ (by omega)]
     by_cases d : e.loc.toNat = i
     · rw [if_pos d,nm_yes ar ⟨c,by omega⟩]
       have:=s1 i hi
       rw [<- d] at this ⊢
       exact sum_more this hc
     · rw [if_neg d,nm_no ar (fun g=>d (by omega)),List.append_nil];exact s1 i hi
   · unfold entU;rw [if_pos c];show Sum (N 2 i ++ nm ar 2 i [e]) _;rw [nm_no ar (fun g=>by omega),List.append_nil];exact s2 i hi
 · rw [if_neg c] at h3
   by_cases c2 : e.kind = 2
   · rw [if_pos c2] at h3
     obtain ⟨b,hc⟩:=useOk_iff.1 h3
     refine ⟨⟨⟨?_,?_⟩,fun i hi=>?_,fun i hi=>?_⟩,⟨h1,.inr ⟨c2,b.1,by omega⟩⟩,h2⟩
     · unfold entU;rw [if_neg c];exact l1
     · unfold entU;rw [if_neg c];unfold useN;rw [List.length_set];exact l2
     · unfold entU;rw [if_neg c];show Sum (N 1 i ++ nm ar 1 i [e]) _;rw [nm_no ar (fun g=>c g.1),List.append_nil];exact s1 i hi
     · unfold entU;rw [if_neg c];unfold useN
       show Sum (N 2 i ++ nm ar 2 i [e]) (usAt (u.2.set _ _) i)
       rw [usAt_set _ _ _ _ (by omega)]
       by_cases d : e.loc.toNat = i
       · rw [if_pos d,nm_yes ar ⟨c2,by omega⟩]
         have:=s2 i hi
         rw [<- d] at this ⊢
         exact sum_more this hc
       · rw [if_neg d,nm_no ar (fun g=>d (by omega)),List.append_nil];exact s2 i hi
   · rw [if_neg c2] at h3;cases h3
theorem ent_back {N : Int -> Int -> List (Int × Bool)} {nf ns : Nat} {u : List Us × List Us} (h : SumA N nf ns u) {ar : List AM.Ar} {last : Int} {e : En} (he : entOk nf ns ar e) (hl : last < e.page) (ho : ∀ x ∈ N e.kind e.loc,x = (e.page,(AM.findN ar e.page).1.zero)) : entB ar last u.1 u.2 e = true:=by
 obtain ⟨⟨l1,l2⟩,s1,s2⟩:=h
 unfold entB
 rw [he.1,decide_eq_true hl,Bool.true_and,Bool.true_and]
 have key : ∀ (us : List Us) (n : Nat),us.length = n -> (0 <= e.loc /\ e.loc < (n : Int)) -> Sum (N e.kind (e.loc.toNat : Int)) (usAt us e.loc.toNat) -> useOk us e (AM.findN ar e.page).1.zero = true:=fun us n hn hb hs=>by
  rw [useOk_iff]
  refine ⟨by omega,fun ⟨a,b⟩=>?_⟩
  rw [hs.1] at a
  obtain ⟨x,hx⟩:=List.exists_mem_of_length_pos (show 0 < (N e.kind (e.loc.toNat : Int)).length by omega)
  have e1:=hs.2 x hx
  have e2:=ho x (by rw [show (e.loc.toNat : Int) = e.loc by omega] at hx;exact hx)
  rw [e1] at e2
  injection e2 with e3 e4
  rcases b with b | b
  · exact b e3
  · exact b e4
 rcases he.2 with g | g
 · rw [if_pos g.1]
   exact key u.1 nf l1 g.2 (by rw [g.1];exact s1 _ (by omega))
 · rw [if_neg (by omega),if_pos g.1]
   exact key u.2 ns l2 g.2 (by rw [g.1];exact s2 _ (by omega))
theorem take_succ (es : List En) (k : Nat) (hk : k < es.length) : es.take (k + 1) = es.take k ++ [enAt es k]:=by
 rw [List.take_add_one]
 unfold enAt
 rw [List.getD_eq_getElem?_getD,List.getElem?_eq_getElem hk]
 rfl
theorem ents_all {N : Int -> Int -> List (Int × Bool)} {nf ns : Nat} {u : List Us × List Us} (h : SumA N nf ns u) (ar : List AM.Ar) (es : List En) : ∀ k,k <= es.length -> entsB ar es u k = true -> SumA (fun kd i=>N kd i ++ nm ar kd i (es.take k)) nf ns (entsU ar es u k) /\ ∀ i,i < k -> entOk nf ns ar (enAt es i) /\ lastP es i < (enAt es i).page
 | 0,_,_=>⟨by
  have e : (fun kd i=>N kd i ++ nm ar kd i (es.take 0)) = N:=by funext kd i;simp [nm]
  rw [e]
  exact h,fun i hi=>by omega⟩
 | k + 1,hk,hb=>by
  unfold entsB at hb
  rw [Bool.and_eq_true] at hb
  obtain ⟨a1,a2⟩:=ents_all h ar es k (by omega) hb.1
  obtain ⟨b1,b2,b3⟩:=ent_step a1 hb.2
  refine ⟨?_,fun i hi=>?_⟩
  · have e : (fun kd i=>N kd i ++ nm ar kd i (es.take (k + 1))) = fun kd i=>(N kd i ++ nm ar kd i (es.take k)) ++ nm ar kd i [enAt es k]:=by
     funext kd i
     rw [take_succ es k (by omega),nm_append,List.append_assoc]
    rw [e];exact b1
  · by_cases c : i = k
    · subst c;exact ⟨b2,b3⟩
    · exact a2 i (by omega)
theorem ents_back {N : Int -> Int -> List (Int × Bool)} {nf ns : Nat} {u : List Us × List Us} (h : SumA N nf ns u) (ar : List AM.Ar) (es : List En) (he : ∀ i,i < es.length -> entOk nf ns ar (enAt es i) /\ lastP es i < (enAt es i).page) (ho : ∀ kd i,∀ x ∈ N kd i ++ nm ar kd i es,∀ y ∈ N kd i ++ nm ar kd i es,x = y) : ∀ k,k <= es.length -> entsB ar es u k = true
 | 0,_=>rfl
 | k + 1,hk=>by
  have ih:=ents_back h ar es he ho k (by omega)
  unfold entsB
  rw [ih,Bool.true_and]
  obtain ⟨a1,_⟩:=ents_all h ar es k (by omega) ih
  refine ent_back a1 (he k (by omega)).1 (he k (by omega)).2 fun x hx=>?_
  have hm : (enAt es k) ∈ es:=getD_mem (by omega)
  refine ho (enAt es k).kind (enAt es k).loc x ?_ _ (List.mem_append.2 (.inr (nm_mem.2 ⟨_,hm,rfl,rfl,rfl⟩)))
  rcases List.mem_append.1 hx with g | g
  · exact List.mem_append.2 (.inl g)
  · obtain ⟨e,he,h1,h2,h3⟩:=nm_mem.1 g
    exact List.mem_append.2 (.inr (nm_mem.2 ⟨e,List.mem_of_mem_take he,h1,h2,h3⟩))
end KM
namespace PM
open Go.RowKit
def le (k : Nat) (n : Int) : ByteArray:=⟨(Lib.leBytes k (CM.low n)).toArray⟩
theorem le_size (k : Nat) (n : Int) : (le k n).size = k:=by
 unfold le
 rw [Lib.size_eq]
 simp [Lib.leBytes_length]
structure Ins where
 op : Int
 a : Int
 b : Int
 c : Int
 m : Int
def Ins.cells (i : Ins) : Array Value:=#[.int .i64 i.op,.int .i64 i.a,.int .i64 i.b,.int .i64 i.c,.int .i64 i.m]
def Byt (n : Int) : Prop:=0 <= n /\ n <= 255
instance (n : Int) : Decidable (Byt n):=by unfold Byt;infer_instance
def Ins.fits (i : Ins) : Prop:=Byt i.op /\ Byt i.a /\ Byt i.b /\ Byt i.c /\ -2147483648 <= i.m /\ i.m <= 2147483647
instance (i : Ins) : Decidable i.fits:=by unfold Ins.fits;infer_instance
def Ins.bytes (i : Ins) : ByteArray:=(((le 1 i.op ++ le 1 i.a) ++ le 1 i.b) ++ le 1 i.c) ++ le 4 i.m
structure Pr where
 r : Nat -> Int
 pc : Int
 st : Int
 cd : Int
 fk : Int
 fa : Int
end PM
namespace FM
open Go.RowKit
structure Pg where
 page : Int
 data : ByteArray
structure Sp where
 live : Bool
 areas : List AM.Ar
 pages : List Pg
structure Wd where
 proc : Int
 value : Int
structure Fl where
 slots : Int
 spaces : List Sp
 procs : List PM.Pr
 out : List Wd
def pg0 : Pg:=⟨0,⟨#[]⟩⟩
def pgAt (l : List Pg) (i : Nat) : Pg:=l.getD i pg0
def numbers (l : List Pg) : List Int:=l.map (·.page)
theorem rising_pairwise : ∀ (l : List Int),(∀ k,0 < k -> k < l.length -> l.getD (k - 1) 0 < l.getD k 0) -> l.Pairwise (· < ·)
 | [],_=>List.Pairwise.nil
 | [a],_=>List.pairwise_singleton _ _
 | a :: b :: r,h=>by
  have ih:=rising_pairwise (b :: r) (fun k h1 h2=>by
   have:=h (k + 1) (by omega) (by simp at h2 ⊢;omega)
   obtain ⟨j,rfl⟩ : ∃ j,k = j + 1:=⟨k - 1,by omega⟩
   exact this)
  have h0 : a < b:=h 1 (by omega) (by simp)
  rw [List.pairwise_cons] at ih ⊢
  refine ⟨fun x hx=>?_,List.pairwise_cons.2 ih⟩
  rcases List.mem_cons.1 hx with g | g
  · omega
  · have:=ih.1 x g
    omega
theorem pairwise_rising {l : List Int} (h : l.Pairwise (· < ·)) (k : Nat) (h1 : 0 < k) (h2 : k < l.length) : l.getD (k - 1) 0 < l.getD k 0:=by
 have:=List.pairwise_iff_getElem.1 h (k - 1) k (by omega) h2 (by omega)
 rw [List.getD_eq_getElem?_getD,List.getD_eq_getElem?_getD,List.getElem?_eq_getElem h2,List.getElem?_eq_getElem (by omega)]
 exact this
end FM
end Go.Proofs.YtpgifpeohlllfaaGreat
