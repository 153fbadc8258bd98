import Derived.Test.YtpgifpeohlllfaaGreatGJ19
import Derived.Test.YtpgifpeohlllfaaGreatGJ12
set_option maxHeartbeats 20000000
set_option linter.unusedVariables false
set_option maxRecDepth 100000
set_option linter.unusedSimpArgs false
namespace Go.Proofs.YtpgifpeohlllfaaGreat
namespace KM
open Go.RowKit
theorem apart_frames {k : Kn} (h : RightK k) {j j0 : Nat} (hj : j < k.spaces.length) (hj0 : j0 < k.spaces.length) {p q : Int} {a b : Nat} (h1 : entOf (spAt k.spaces j).ents p = some ⟨p,1,a⟩) (h2 : entOf (spAt k.spaces j0).ents q = some ⟨q,1,b⟩) (hpq : q ≠ p) : a ≠ b:=fun e=>by
 subst e
 have m1:=name_of hj (ent_mem h1)
 have m2:=name_of hj0 (ent_mem h2)
 have hb:=loc_bd h hj (ent_mem h1)
 have hlt : a < k.frames.length:=by
  rcases hb with b | b
  · have:=b.2.2;simpa using this
  · have:=b.1;simp at this
 have:=(h.frm a hlt).one _ m1 _ m2
 injection this with e _
 exact hpq e.symm
theorem held_ne {k : Kn} (h : RightK k) {j0 : Nat} (hj0 : j0 < k.spaces.length) {q : Int} {b : Nat} (h2 : entOf (spAt k.spaces j0).ents q = some ⟨q,1,b⟩) : b < k.frames.length /\ (frAt k.frames b).refs ≠ 0:=by
 have m2:=name_of hj0 (ent_mem h2)
 have hb:=loc_bd h hj0 (ent_mem h2)
 have hlt : b < k.frames.length:=by
  rcases hb with b | b
  · have:=b.2.2;simpa using this
  · have:=b.1;simp at this
 refine ⟨hlt,fun z=>?_⟩
 have:=(h.frm b hlt).nil z
 rw [this] at m2
 cases m2
theorem present_held {k : Kn} (h : RightK k) {j : Nat} (hj : j < k.spaces.length) {p : Int} (hp : mapped k j p) {held : List Int} (hl : held.length <= 2) {j0 : Nat} (hj0 : j0 < k.spaces.length) {q : Int} {b : Nat} (h2 : entOf (spAt k.spaces j0).ents q = some ⟨q,1,b⟩) (hin : (b : Int) ∈ held) (hpq : q ≠ p) : frAt (presentK k j p held).2.frames b = frAt k.frames b:=by
 have hsp:=h.sp hj
 have G:=get_got h hl
 have hH:=G.heldF b hin (held_ne h hj0 h2).2
 unfold presentK
 cases g : entOf (spAt k.spaces j).ents p with
 | none =>
  dsimp only
  have hent : entOf (spAt (getK k held).2.spaces j).ents p = none:=by rw [G.ent j hj p (fun e he=>by rw [g] at he;cases he),g]
  have hj' : j < (getK k held).2.spaces.length:=by rw [G.kept.np];exact hj
  have m : Movable (getK k held).2 j p (getK k held).1 (fillK (getK k held).2.sheets p (zeroAt (getK k held).2 j p)) false:=⟨G.right,hj',G.mapped hj hp,by rw [G.kept.nf];exact G.lt,G.free,fill_size G.right hj' (G.mapped hj hp),fun _=>rfl⟩
  rw [(move_frames _ _ _ _ _ _ m).2.2.2.2.2.1 b,if_neg hH.1,hent]
  exact hH.2
 | some e =>
  have he:=(ent_iff hsp.rise).1 g
  dsimp only
  by_cases c : e.kind = 1
  · rw [if_pos c]
  · rw [if_neg c]
    have hb:=(loc_bd h hj he.1).resolve_left (fun y=>c y.1)
    have hent : entOf (spAt (getK k held).2.spaces j).ents p = some e:=by rw [G.ent j hj p (fun x hx=>by rw [g] at hx;injection hx with hx;subst hx;exact fun y=>c y.1),g]
    have hj' : j < (getK k held).2.spaces.length:=by rw [G.kept.np];exact hj
    have he':=(ent_iff (G.right.sp hj').rise).1 hent
    have hsz : (slAt (getK k held).2.slots e.loc.toNat).data.size = 16:=(G.right.slt e.loc.toNat (by rw [G.kept.ns];exact hb.2.2)).size (fun z=>by
     have:=name_of hj' he'.1
     rw [hb.1,<- hb.2.1,z] at this
     cases this)
    have m : Movable (getK k held).2 j p (getK k held).1 (slAt (getK k held).2.slots e.loc.toNat).data true:=⟨G.right,hj',G.mapped hj hp,by rw [G.kept.nf];exact G.lt,G.free,hsz,fun y=>by cases y⟩
    rw [(move_frames _ _ _ _ _ _ m).2.2.2.2.2.1 b,if_neg hH.1,hent]
    show (if e.kind = 1 /\ e.loc = (b : Int) then _ else _) = _
    rw [if_neg (fun x=>c x.1)]
    exact hH.2
theorem alone_held {k : Kn} (h : RightK k) {j : Nat} (hj : j < k.spaces.length) {p : Int} (hp : mapped k j p) {a : Nat} (ha : entOf (spAt k.spaces j).ents p = some ⟨p,1,a⟩) {held : List Int} (hl : held.length <= 1) {j0 : Nat} (hj0 : j0 < k.spaces.length) {q : Int} {b : Nat} (h2 : entOf (spAt k.spaces j0).ents q = some ⟨q,1,b⟩) (hin : (b : Int) ∈ held) (hpq : q ≠ p) : frAt (aloneK k j p a held).2.frames b = frAt k.frames b:=by
 have hab:=apart_frames h hj hj0 ha h2 hpq
 have hat:=(held_ne h hj ha).1
 unfold aloneK
 by_cases c : (frAt k.frames a).refs = 1
 · rw [if_pos c]
 · rw [if_neg c]
   have G:=get_got h (held:=held ++ [(a : Int)]) (by rw [List.length_append,List.length_singleton];omega)
   have hH:=G.heldF b (List.mem_append.2 (.inl hin)) (held_ne h hj0 h2).2
   obtain ⟨g,hg⟩ : ∃ g,g = getK k (held ++ [(a : Int)]):=⟨_,rfl⟩
   rw [<- hg] at G hH ⊢
   have hent : entOf (spAt g.2.spaces j).ents p = some ⟨p,1,a⟩:=G.stay h hj ha (fun _=>List.mem_append.2 (.inr (by simp)))
   have hj' : j < g.2.spaces.length:=by rw [G.kept.np];exact hj
   have he':=(ent_iff (G.right.sp hj').rise).1 hent
   have hsz : (frAt g.2.frames a).data.size = 16:=(G.right.frm a (by rw [G.kept.nf];exact hat)).size (fun z=>by
    have:=name_of hj' he'.1
    rw [z] at this
    cases this)
   have m : Movable g.2 j p g.1 (frAt g.2.frames a).data true:=⟨G.right,hj',G.mapped hj hp,by rw [G.kept.nf];exact G.lt,G.free,hsz,fun y=>by cases y⟩
   show frAt (moveTo g.2 j p g.1 _ true).frames b = _
   rw [(move_frames _ _ _ _ _ _ m).2.2.2.2.2.1 b,if_neg hH.1,hent]
   show (if (1 : Int) = 1 /\ (a : Int) = (b : Int) then _ else _) = _
   rw [if_neg (fun x=>hab (by omega))]
   exact hH.2
theorem bring_held {k : Kn} (h : RightK k) {j : Nat} (hj : j < k.spaces.length) {p : Int} (hp : mapped k j p) (way : Int) {held : List Int} (hl : held.length <= 1) {j0 : Nat} (hj0 : j0 < k.spaces.length) {q : Int} {b : Nat} (h2 : entOf (spAt k.spaces j0).ents q = some ⟨q,1,b⟩) (hin : (b : Int) ∈ held) (hpq : q ≠ p) : frAt (bringK k j p way held).2.frames b = frAt k.frames b:=by
 have P:=present_had h hj hp (held:=held) (by omega)
 have PH:=present_held h hj hp (held:=held) (by omega) hj0 h2 hin hpq
 have hT : Brought k j p held (twoK k j p way held) /\ frAt (twoK k j p way held).2.frames b = frAt k.frames b:=by
  unfold twoK
  by_cases c : way = 1
  · rw [if_pos c]
    have A:=alone_had P.right (by rw [P.kept.np];exact hj) (P.kept.mapped hj hp) P.here hl
    refine ⟨P.trans A.1,?_⟩
    rw [alone_held P.right (by rw [P.kept.np];exact hj) (P.kept.mapped hj hp) P.here hl (by rw [P.kept.np];exact hj0) (P.stay j0 hj0 q _ h2 rfl hin (fun x=>hpq x.2)) hin hpq]
    exact PH
  · rw [if_neg c];exact ⟨P,PH⟩
 have T:=hT.1
 have hne:=apart_frames T.right (by rw [T.kept.np];exact hj) (by rw [T.kept.np];exact hj0) T.here (T.stay j0 hj0 q _ h2 rfl hin (fun x=>hpq x.2)) hpq
 show frAt ((twoK k j p way held).2.frames.set _ _) b = _
 rw [frAt_set _ _ _ _ (by rw [T.kept.nf];exact T.lt),if_neg hne]
 exact hT.2
structure Alone (k : Kn) (j : Nat) (p : Int) (i : Nat) : Prop where
 here : entOf (spAt k.spaces j).ents p = some ⟨p,1,i⟩
 lt : i < k.frames.length
 refs : (frAt k.frames i).refs = 1
 dirty : (frAt k.frames i).dirty = true
theorem reach_alone {k : Kn} (h : RightK k) {j : Nat} (hj : j < k.spaces.length) (a n : Int) (h1 : mapped k j (a / 16)) (h2 : mapped k j (lastPg a n)) : Alone (reachK k j a n 1).2 j (a / 16) (oneK k j a 1).1 /\ (lastPg a n ≠ a / 16 -> Alone (reachK k j a n 1).2 j (lastPg a n) (twoB k j a n 1).1):=by
 have R:=reach_had h hj a n 1 h1 h2
 obtain ⟨A,A2⟩:=bring_had h hj h1 1 (held:=[]) (by simp)
 have A2:=A2 rfl
 by_cases c : lastPg a n = a / 16
 · have e : reachK k j a n 1 = ([(oneK k j a 1).1],(oneK k j a 1).2):=by unfold reachK;rw [if_pos c]
   refine ⟨?_,fun x=>absurd c x⟩
   rw [e]
   exact ⟨A.here,by have:=A.kept.nf;have:=A.lt;show (bringK k j (a / 16) 1 []).1 < (bringK k j (a / 16) 1 []).2.frames.length;omega,A2.1,A2.2⟩
 · have hj' : j < (oneK k j a 1).2.spaces.length:=by have:=A.kept.np;unfold oneK;omega
   have hm':=A.kept.mapped hj h2
   obtain ⟨B,B2⟩:=bring_had (k:=(oneK k j a 1).2) A.right hj' hm' 1 (held:=[((oneK k j a 1).1 : Int)]) (by simp)
   have B2:=B2 rfl
   have hh:=bring_held (k:=(oneK k j a 1).2) A.right hj' hm' 1 (held:=[((oneK k j a 1).1 : Int)]) (by simp) hj' A.here (by simp [oneK]) (fun x=>c x.symm)
   have e : reachK k j a n 1 = ([(oneK k j a 1).1,(twoB k j a n 1).1],(twoB k j a n 1).2):=by unfold reachK;rw [if_neg c]
   have hB : twoB k j a n 1 = bringK (oneK k j a 1).2 j (lastPg a n) 1 [((oneK k j a 1).1 : Int)]:=rfl
   have hlen : (twoB k j a n 1).2.frames.length = k.frames.length:=by rw [hB,B.kept.nf];exact A.kept.nf
   rw [e]
   refine ⟨⟨?_,?_,?_,?_⟩,fun _=>⟨?_,?_,?_,?_⟩⟩
   · exact B.stay j hj' (a / 16) _ A.here rfl (by simp [oneK]) (fun x=>c x.2.symm)
   · show (oneK k j a 1).1 < (twoB k j a n 1).2.frames.length
     rw [hlen];exact A.lt
   · show (frAt (twoB k j a n 1).2.frames (oneK k j a 1).1).refs = 1
     rw [hB]
     have : frAt (bringK (oneK k j a 1).2 j (lastPg a n) 1 [((oneK k j a 1).1 : Int)]).2.frames (oneK k j a 1).1 = frAt (oneK k j a 1).2.frames (oneK k j a 1).1:=hh
     rw [this];exact A2.1
   · show (frAt (twoB k j a n 1).2.frames (oneK k j a 1).1).dirty = true
     rw [hB]
     have : frAt (bringK (oneK k j a 1).2 j (lastPg a n) 1 [((oneK k j a 1).1 : Int)]).2.frames (oneK k j a 1).1 = frAt (oneK k j a 1).2.frames (oneK k j a 1).1:=hh
     rw [this];exact A2.2
   · exact B.here
   · show (twoB k j a n 1).1 < (twoB k j a n 1).2.frames.length
     rw [hlen]
     have:=B.lt
     have:=A.kept.nf
     show (bringK (oneK k j a 1).2 j (lastPg a n) 1 [((oneK k j a 1).1 : Int)]).1 < _
     unfold oneK at *
     omega
   · exact B2.1
   · exact B2.2
def layD (k : Kn) (i : Nat) (d : ByteArray) : Kn:={ k with frames:=k.frames.set i ⟨d,(frAt k.frames i).refs,(frAt k.frames i).dirty,(frAt k.frames i).seen⟩ }
theorem layD_right {k : Kn} (h : RightK k) {j : Nat} (hj : j < k.spaces.length) {p : Int} {i : Nat} (a : Alone k j p i) {d : ByteArray} (hd : d.size = 16) : RightK (layD k i d):=by
 have hf:=h.frm i a.lt
 refine h.frame ⟨hf.refs,fun e=>?_,hf.one,fun _=>hd,fun x=>?_⟩
 · have:=hf.refs
   rw [e,a.refs] at this
   cases this
 · have x : (frAt k.frames i).dirty = false:=x
   rw [a.dirty] at x;cases x
theorem layD_peek {k : Kn} (h : RightK k) {j : Nat} (hj : j < k.spaces.length) {p : Int} {i : Nat} (a : Alone k j p i) (d : ByteArray) {m : Nat} (hm : m < k.spaces.length) (q : Int) : peekK (layD k i d) m q = if m = j /\ q = p then d else peekK k m q:=by
 have at_ : ∀ n,frAt (layD k i d).frames n = if i = n then ⟨d,(frAt k.frames i).refs,(frAt k.frames i).dirty,(frAt k.frames i).seen⟩ else frAt k.frames n:=fun n=>frAt_set _ _ _ _ a.lt
 by_cases c : m = j /\ q = p
 · rw [if_pos c,c.1,c.2]
   unfold peekK
   show (match entOf (spAt k.spaces j).ents p with
    | some e=>if e.kind = 1 then (frAt (layD k i d).frames e.loc.toNat).data else _
    | none=>_) = d
   rw [a.here]
   show (if (1 : Int) = 1 then (frAt (layD k i d).frames (i : Int).toNat).data else _) = d
   rw [if_pos rfl,Int.toNat_natCast,at_,if_pos rfl]
 · rw [if_neg c]
   refine peek_eq rfl (fun x hx=>⟨fun hk=>?_,fun _=>rfl⟩) (fun _=>rfl)
   have hx : entOf (spAt k.spaces m).ents q = some x:=hx
   rw [at_]
   by_cases e : i = x.loc.toNat
   · exfalso
     have m1 : x ∈ (spAt k.spaces m).ents:=ent_mem hx
     have hb:=(loc_bd h hm m1).resolve_right (fun y=>by omega)
     have hxl : x.loc = (i : Int):=by omega
     have e2 : x = ⟨q,1,i⟩:=by
      have:=ent_page hx
      obtain ⟨a1,a2,a3⟩:=x
      simp only at this hk hxl
      rw [this,hk,hxl]
     rw [e2] at hx
     have hpq : q = p:=by
      by_cases z : q = p
      · exact z
      · exact absurd rfl (apart_frames h hj hm a.here hx z)
     have hmj : m ≠ j:=fun z=>c ⟨z,hpq⟩
     have hr:=(h.frm i a.lt).refs
     rw [a.refs] at hr
     have two : 2 <= (names k.spaces 1 i).length:=by
      have key : ∀ (l : List Sp) (a b : Nat),a < b -> b < l.length -> (nameIn (spAt l a) 1 i) ≠ [] -> (nameIn (spAt l b) 1 i) ≠ [] -> 2 <= (names l 1 i).length:=fun l=>by
       induction l with
       | nil=>intro a b _ hb;simp at hb
       | cons s r ih =>
        intro a b hab hb h1 h2
        rw [names_cons,List.length_append]
        cases a with
        | zero =>
         have h1' : 1 <= (nameIn s 1 i).length:=List.length_pos_iff.2 h1
         obtain ⟨b',rfl⟩ : ∃ b',b = b' + 1:=⟨b - 1,by omega⟩
         have h2' : nameIn (spAt r b') 1 i ≠ []:=h2
         have : 1 <= (names r 1 i).length:=by
          obtain ⟨y,hy⟩:=List.exists_mem_of_ne_nil _ h2'
          refine List.length_pos_iff.2 fun z=>?_
          have : y ∈ names r 1 i:=List.mem_flatMap.2 ⟨_,spAt_mem (by simpa using hb),hy⟩
          rw [z] at this;cases this
         omega
        | succ a =>
         obtain ⟨b',rfl⟩ : ∃ b',b = b' + 1:=⟨b - 1,by omega⟩
         have:=ih a b' (by omega) (by simpa using hb) h1 h2
         omega
      have n1 : nameIn (spAt k.spaces j) 1 i ≠ []:=fun z=>by
       have : (_ : Int × Bool) ∈ nameIn (spAt k.spaces j) 1 i:=mem_nameIn.2 ⟨_,ent_mem a.here,rfl,rfl,rfl⟩
       rw [z] at this;cases this
      have n2 : nameIn (spAt k.spaces m) 1 i ≠ []:=fun z=>by
       have : (_ : Int × Bool) ∈ nameIn (spAt k.spaces m) 1 i:=mem_nameIn.2 ⟨_,ent_mem hx,rfl,rfl,rfl⟩
       rw [z] at this;cases this
      rcases Nat.lt_or_gt_of_ne hmj with g | g
      · exact key k.spaces m j g hj n2 n1
      · exact key k.spaces j m g hm n1 n2
     omega
   · rw [if_neg e]
def joinB (f : Int -> ByteArray) (a n : Int) : ByteArray:=if lastPg a n = a / 16 then f (a / 16) else f (a / 16) ++ f (lastPg a n)
def laidB (f : Int -> ByteArray) (a : Int) (d : ByteArray) : ByteArray:=CL.over (joinB f a d.size) (a % 16).toNat d
def storeB (f : Int -> ByteArray) (a : Int) (d : ByteArray) (p : Int) : ByteArray:=if p = a / 16 then (laidB f a d).extract 0 16 else if p = lastPg a d.size then (laidB f a d).extract 16 32 else f p
def joinTo (fs : List Fr) (ids : List Nat) : Nat -> ByteArray
 | 0=>⟨#[]⟩
 | n + 1=>joinTo fs ids n ++ (frAt fs (ids.getD n 0)).data
def partTo (k : Kn) (ids : List Nat) (s : ByteArray) : Nat -> Kn
 | 0=>k
 | n + 1=>layD (partTo k ids s n) (ids.getD n 0) (s.extract (n * 16) (n * 16 + 16))
def loadK (k : Kn) (j : Nat) (a n way : Int) : ByteArray:=(joinTo (reachK k j a n way).2.frames (reachK k j a n way).1 (reachK k j a n way).1.length).extract (a % 16).toNat ((a % 16).toNat + n.toNat)
def storeK (k : Kn) (j : Nat) (a : Int) (d : ByteArray) : Kn:=partTo (reachK k j a d.size 1).2 (reachK k j a d.size 1).1 (CL.over (joinTo (reachK k j a d.size 1).2.frames (reachK k j a d.size 1).1 (reachK k j a d.size 1).1.length) (a % 16).toNat d) (reachK k j a d.size 1).1.length
theorem empty_append (d : ByteArray) : (⟨#[]⟩ : ByteArray) ++ d = d:=by
 apply KB.bytes_ext
 intro i
 simp
theorem here_data {k : Kn} {j : Nat} {p : Int} {i : Nat} (h : entOf (spAt k.spaces j).ents p = some ⟨p,1,i⟩) : peekK k j p = (frAt k.frames i).data:=by
 unfold peekK
 rw [h]
 show (if (1 : Int) = 1 then (frAt k.frames (i : Int).toNat).data else _) = _
 rw [if_pos rfl,Int.toNat_natCast]
theorem reach_join {k : Kn} (h : RightK k) {j : Nat} (hj : j < k.spaces.length) (a n way : Int) (h1 : mapped k j (a / 16)) (h2 : mapped k j (lastPg a n)) : joinTo (reachK k j a n way).2.frames (reachK k j a n way).1 (reachK k j a n way).1.length = joinB (peekK k j) a n:=by
 have R:=reach_had h hj a n way h1 h2
 have p1:=R.kept.peek j hj (a / 16)
 have p2:=R.kept.peek j hj (lastPg a n)
 rw [here_data R.one.1] at p1
 unfold joinB
 rw [<- p1,<- p2]
 by_cases c : lastPg a n = a / 16
 · rw [if_pos c]
   have e : (reachK k j a n way).1 = [(oneK k j a way).1]:=by unfold reachK;rw [if_pos c]
   rw [e]
   exact empty_append _
 · rw [if_neg c,here_data (R.two c).1]
   have e : (reachK k j a n way).1 = [(oneK k j a way).1,(twoB k j a n way).1]:=by unfold reachK;rw [if_neg c]
   rw [e]
   show ((⟨#[]⟩ : ByteArray) ++ _) ++ _ = _
   rw [empty_append]
   rfl
theorem peek_size {k : Kn} (h : RightK k) {j : Nat} (hj : j < k.spaces.length) {p : Int} (hp : mapped k j p) : (peekK k j p).size = 16:=by
 unfold peekK
 cases g : entOf (spAt k.spaces j).ents p with
 | none=>exact fill_size h hj hp
 | some e =>
  have hb:=loc_bd h hj (ent_mem g)
  have hn:=name_of hj (ent_mem g)
  dsimp only
  rcases hb with b | b
  · rw [if_pos b.1]
    exact (h.frm _ b.2.2).size (fun z=>by rw [b.1,<- b.2.1,z] at hn;cases hn)
  · rw [if_neg (by omega)]
    exact (h.slt _ b.2.2).size (fun z=>by rw [b.1,<- b.2.1,z] at hn;cases hn)
theorem over_size (s : ByteArray) (q : Nat) (t : ByteArray) (h : q + t.size <= s.size) : (CL.over s q t).size = s.size:=by
 have h1 : (CL.over s q t).size = (CL.over s q t).data.toList.length:=by simp
 have h2 : s.size = s.data.toList.length:=by simp
 have h3 : t.size = t.data.toList.length:=by simp
 rw [h1]
 unfold CL.over
 simp only [List.length_append,List.length_take,List.length_drop]
 simp at h2 h3 ⊢
 omega
theorem ext_size (s : ByteArray) (a b : Nat) (h : b <= s.size) (hab : a <= b) : (s.extract a b).size = b - a:=by
 simp [ByteArray.size_extract];omega
theorem pg_two {a n : Int} (h1 : 1 <= n) (h8 : n <= 8) : (lastPg a n = a / 16 /\ a % 16 + n <= 16) ∨ (lastPg a n = a / 16 + 1 /\ 16 < a % 16 + n):=by
 unfold lastPg;omega
structure Pgs (f : Int -> ByteArray) (a n : Int) : Prop where
 one : (f (a / 16)).size = 16
 two : (f (lastPg a n)).size = 16
theorem join_size {f : Int -> ByteArray} {a n : Int} (h : Pgs f a n) (h1 : 1 <= n) (h8 : n <= 8) : ((joinB f a n).size : Int) = if lastPg a n = a / 16 then 16 else 32:=by
 unfold joinB
 split
 · rw [h.one];rfl
 · rw [ByteArray.size_append,h.one,h.two];rfl
theorem join_fit {f : Int -> ByteArray} {a n : Int} (h : Pgs f a n) (h1 : 1 <= n) (h8 : n <= 8) : (a % 16).toNat + n.toNat <= (joinB f a n).size:=by
 have:=join_size h h1 h8
 rcases pg_two (a:=a) h1 h8 with g | g
 · rw [if_pos g.1] at this;omega
 · rw [if_neg (by omega)] at this;omega
theorem laid_size {f : Int -> ByteArray} {a : Int} {d : ByteArray} (h : Pgs f a d.size) (h1 : 1 <= (d.size : Int)) (h8 : (d.size : Int) <= 8) : ((laidB f a d).size : Int) = if lastPg a d.size = a / 16 then 16 else 32:=by
 unfold laidB
 rw [over_size _ _ _ (by have:=join_fit h h1 h8;omega)]
 exact join_size h h1 h8
structure Stored (k : Kn) (j : Nat) (a : Int) (d : ByteArray) (r : Kn) : Prop where
 right : RightK r
 sheets : r.sheets = k.sheets
 nf : r.frames.length = k.frames.length
 ns : r.slots.length = k.slots.length
 np : r.spaces.length = k.spaces.length
 live : ∀ m,m < k.spaces.length -> (spAt r.spaces m).live = (spAt k.spaces m).live
 areas : ∀ m,m < k.spaces.length -> (spAt r.spaces m).areas = (spAt k.spaces m).areas
 peek : ∀ m,m < k.spaces.length -> ∀ p,peekK r m p = if m = j then storeB (peekK k j) a d p else peekK k m p
theorem store_had {k : Kn} (h : RightK k) {j : Nat} (hj : j < k.spaces.length) (a : Int) (d : ByteArray) (hd1 : 1 <= (d.size : Int)) (hd8 : (d.size : Int) <= 8) (h1 : mapped k j (a / 16)) (h2 : mapped k j (lastPg a d.size)) : Stored k j a d (storeK k j a d):=by
 have R:=reach_had h hj a d.size 1 h1 h2
 have A:=reach_alone h hj a d.size h1 h2
 have hP : Pgs (peekK k j) a d.size:=⟨peek_size h hj h1,peek_size h hj h2⟩
 have hL:=laid_size hP hd1 hd8
 have hpg:=pg_two (a:=a) hd1 hd8
 unfold storeK
 rw [reach_join h hj a d.size 1 h1 h2]
 obtain ⟨s,hs⟩ : ∃ s,s = laidB (peekK k j) a d:=⟨_,rfl⟩
 have hs' : CL.over (joinB (peekK k j) a d.size) (a % 16).toNat d = s:=hs.symm
 rw [hs']
 rw [<- hs] at hL
 obtain ⟨K,hK⟩ : ∃ K,K = (reachK k j a d.size 1).2:=⟨_,rfl⟩
 have hr:=R.right
 have hkept:=R.kept
 rw [<- hK] at hr hkept A ⊢
 have hjK : j < K.spaces.length:=by rw [hkept.np];exact hj
 by_cases c : lastPg a d.size = a / 16
 · have e : (reachK k j a d.size 1).1 = [(oneK k j a 1).1]:=by unfold reachK;rw [if_pos c]
   rw [e]
   show Stored k j a d (layD K (oneK k j a 1).1 (s.extract (0 * 16) (0 * 16 + 16)))
   rw [if_pos c] at hL
   have hz : (s.extract (0 * 16) (0 * 16 + 16)).size = 16:=ext_size _ _ _ (by omega) (by omega)
   refine ⟨layD_right hr hjK A.1 hz,hkept.sheets,by show (List.set _ _ _).length = _;rw [List.length_set];exact hkept.nf,hkept.ns,hkept.np,hkept.live,hkept.areas,fun m hm p=>?_⟩
   rw [layD_peek hr hjK A.1 _ (by rw [hkept.np];exact hm)]
   by_cases q : m = j
   · subst q
     rw [if_pos rfl]
     unfold storeB
     by_cases z : p = a / 16
     · rw [if_pos ⟨rfl,z⟩,if_pos z,hs]
     · rw [if_neg (fun x=>z x.2),if_neg z,if_neg (by omega)]
       exact hkept.peek m hm p
   · rw [if_neg (fun x=>q x.1),if_neg q]
     exact hkept.peek m hm p
 · have e : (reachK k j a d.size 1).1 = [(oneK k j a 1).1,(twoB k j a d.size 1).1]:=by unfold reachK;rw [if_neg c]
   rw [e]
   show Stored k j a d (layD (layD K (oneK k j a 1).1 (s.extract (0 * 16) (0 * 16 + 16))) (twoB k j a d.size 1).1 (s.extract (1 * 16) (1 * 16 + 16)))
   rw [if_neg c] at hL
   have hz : (s.extract (0 * 16) (0 * 16 + 16)).size = 16:=ext_size _ _ _ (by omega) (by omega)
   have hy : (s.extract (1 * 16) (1 * 16 + 16)).size = 16:=ext_size _ _ _ (by omega) (by omega)
   have A2:=A.2 c
   have hne:=apart_frames hr hjK hjK A.1.here A2.here c
   have r1:=layD_right hr hjK A.1 hz
   have B : Alone (layD K (oneK k j a 1).1 (s.extract (0 * 16) (0 * 16 + 16))) j (lastPg a d.size) (twoB k j a d.size 1).1:=by
    have at_ : frAt (layD K (oneK k j a 1).1 (s.extract (0 * 16) (0 * 16 + 16))).frames (twoB k j a d.size 1).1 = frAt K.frames (twoB k j a d.size 1).1:=by
     show frAt (List.set _ _ _) _ = _
     rw [frAt_set _ _ _ _ A.1.lt,if_neg hne]
    exact ⟨A2.here,by show _ < (List.set _ _ _).length;rw [List.length_set];exact A2.lt,by rw [at_];exact A2.refs,by rw [at_];exact A2.dirty⟩
   refine ⟨layD_right r1 hjK B hy,hkept.sheets,by show (List.set (List.set _ _ _) _ _).length = _;rw [List.length_set,List.length_set];exact hkept.nf,hkept.ns,hkept.np,hkept.live,hkept.areas,fun m hm p=>?_⟩
   have hmK : m < K.spaces.length:=by rw [hkept.np];exact hm
   rw [layD_peek r1 hjK B _ (m:=m) hmK,layD_peek hr hjK A.1 _ hmK]
   by_cases q : m = j
   · subst q
     rw [if_pos rfl]
     unfold storeB
     by_cases z : p = a / 16
     · rw [if_neg (fun x=>c (x.2.symm.trans z)),if_pos ⟨rfl,z⟩,if_pos z,hs]
     · rw [if_neg z]
       by_cases y : p = lastPg a d.size
       · rw [if_pos ⟨rfl,y⟩,if_pos y,hs]
       · rw [if_neg (fun x=>y x.2),if_neg (fun x=>z x.2),if_neg y]
         exact hkept.peek m hm p
   · rw [if_neg (fun x=>q x.1),if_neg (fun x=>q x.1),if_neg q]
     exact hkept.peek m hm p
end KM
namespace LM
open Go.RowKit
def symIx (l : List M.Sy) (s : ByteArray) : Option Nat:=l.findIdx? (fun y=>decide (y.name = s))
def symN (o : Ob) (s : ByteArray) : Option Int:=match symIx o.i.syms s with
 | none=>none
 | some k=>some (addrO o (M.syAt o.i.syms k).pos)
def tgtTo (l : List Ob) (s : ByteArray) : Nat -> Option Int
 | 0=>none
 | k + 1=>match tgtTo l s k with
  | some t=>some t
  | none=>symN (obAt l k) s
def tgtN (l : List Ob) (o : Ob) (s : ByteArray) : Option Int:=if s = ⟨#[]⟩ then some (addrO o 0) else tgtTo l s l.length
theorem places_of {i : M.Im} (hc : M.chkN i = 0) : M.placesB i = true:=by
 unfold M.chkN at hc
 split at hc
 · simp at hc
 · split at hc
   · simp at hc
   · split at hc
     · simp at hc
     · split at hc
       · simp at hc
       · split at hc
         · simp at hc
         · rename_i h
           simpa using h
theorem segIn_mem : ∀ {l : List M.Sg} {a : Int} {s : M.Sg},M.segIn l a = some s -> (∃ k,k < l.length /\ M.sgAt l k = s) /\ M.inSeg s a = true
 | [],a,s,h=>by cases h
 | x :: r,a,s,h=>by
  simp only [M.segIn] at h
  split at h
  · rename_i hi
    injection h with h
    subst h
    exact ⟨⟨0,by simp,rfl⟩,hi⟩
  · obtain ⟨⟨k,hk,e⟩,hi⟩:=segIn_mem h
    exact ⟨⟨k + 1,by simpa using hk,by simpa [M.sgAt] using e⟩,hi⟩
theorem placed_bounds {i : M.Im} (hc : M.chkN i = 0) {a : Int} (h : M.placedB i.segs a = true) : 0 <= a /\ a < 4080:=by
 unfold M.placedB at h
 obtain ⟨s,hs⟩:=Option.isSome_iff_exists.1 h
 obtain ⟨⟨k,hk,e⟩,hi⟩:=segIn_mem hs
 have hb:=seg_bounds hc k hk
 rw [e] at hb
 unfold M.inSeg at hi
 have:=of_decide_eq_true hi
 omega
theorem relsTo_at (i : M.Im) : ∀ n,M.relsTo i n = true -> ∀ k,k < n -> M.relAt i k = true
 | 0,_,k,hk=>by omega
 | n + 1,h,k,hk=>by
  simp only [M.relsTo,Bool.and_eq_true] at h
  by_cases e : k = n
  · subst e;exact h.2
  · exact relsTo_at i n h.1 k (by omega)
theorem rel_at {i : M.Im} (hc : M.chkN i = 0) (k : Nat) (hk : k < i.rels.length) : M.relAt i k = true:=by
 have h:=places_of hc
 unfold M.placesB at h
 simp only [Bool.and_eq_true] at h
 exact relsTo_at i i.rels.length h.2.1 k hk
theorem rel_bounds {i : M.Im} (hc : M.chkN i = 0) (k : Nat) (hk : k < i.rels.length) : 0 <= (M.rlAt i.rels k).pos /\ (M.rlAt i.rels k).pos + 7 < 4080:=by
 have h:=rel_at hc k hk
 unfold M.relAt M.wholeB at h
 simp only [Bool.and_eq_true] at h
 have h0:=placed_bounds hc h.2.1
 have h7:=placed_bounds hc h.2.2.2.2.2.2.2.2
 omega
theorem entry_bounds {i : M.Im} (hc : M.chkN i = 0) : 0 <= i.entry /\ i.entry < 4080:=by
 have h:=places_of hc
 unfold M.placesB at h
 simp only [Bool.and_eq_true] at h
 have he:=h.2.2
 unfold M.entryB at he
 refine placed_bounds hc ?_
 unfold M.placedB
 cases e : M.segIn i.segs i.entry with
 | none=>rw [e] at he;cases he
 | some s=>rfl
def ptOf (o : Ob) (r : M.Rl) (t : Int) : Pt:=⟨addrO o r.pos,⟨(Lib.leBytes 8 (CM.low (t + r.add))).toArray⟩⟩
def patTo (l : List Ob) (o : Ob) : Nat -> Option (List Pt)
 | 0=>some []
 | k + 1=>match patTo l o k with
  | none=>none
  | some ps=>match tgtN l o (M.rlAt o.i.rels k).name with
   | none=>none
   | some t=>some (ps ++ [ptOf o (M.rlAt o.i.rels k) t])
def patN (l : List Ob) (o : Ob) : Option (List Pt):=patTo l o o.i.rels.length
theorem patTo_len {l : List Ob} {o : Ob} : ∀ {k : Nat} {ps : List Pt},patTo l o k = some ps -> ps.length = k
 | 0,ps,h=>by simp only [patTo] at h;injection h with h;subst h;rfl
 | k + 1,ps,h=>by
  simp only [patTo] at h
  cases e : patTo l o k with
  | none=>rw [e] at h;cases h
  | some qs =>
   rw [e] at h
   simp only at h
   cases g : tgtN l o (M.rlAt o.i.rels k).name with
   | none=>rw [g] at h;cases h
   | some t =>
    rw [g] at h
    simp only at h
    injection h with h
    subst h
    rw [List.length_append,patTo_len e]
    rfl
structure Sp where
 page : Int
 data : ByteArray
 fixes : List Fx
def plain (s : Sh) : Sp:=⟨s.page,s.data,s.fixes⟩
def pgN (o : Ob) (ps : List Pt) (s : M.Sg) (m : Nat) : Sp:=⟨o.base + s.page + (m : Int),pageN s m,fixesN (o.base + s.page + (m : Int)) ps⟩
def pgsTo (o : Ob) (ps : List Pt) (s : M.Sg) (n : Nat) : List Sp:=(List.range n).map (pgN o ps s)
def sgsTo (o : Ob) (ps : List Pt) : Nat -> List Sp
 | 0=>[]
 | k + 1=>sgsTo o ps k ++ pgsTo o ps (M.sgAt o.i.segs k) (M.sgAt o.i.segs k).pages.toNat
def obsTo (l : List Ob) : Nat -> Option (List Sp)
 | 0=>some []
 | k + 1=>match obsTo l k with
  | none=>none
  | some E=>match patN l (obAt l k) with
   | none=>none
   | some ps=>some (E ++ sgsTo (obAt l k) ps (obAt l k).i.segs.length)
def sheetsN (l : List Ob) : Option (List Sp):=obsTo l l.length
theorem pgsTo_succ (o : Ob) (ps : List Pt) (s : M.Sg) (n : Nat) : pgsTo o ps s (n + 1) = pgsTo o ps s n ++ [pgN o ps s n]:=by
 unfold pgsTo
 rw [List.range_succ,List.map_append]
 rfl
theorem obsTo_none {l : List Ob} {k : Nat} (h : obsTo l k = none) : ∀ n,k <= n -> obsTo l n = none
 | 0, hn => by obtain rfl : k = 0 := by omega
               exact h
 | n + 1,hn=>by
  by_cases e : k = n + 1
  · subst e;exact h
  · simp only [obsTo]
    rw [obsTo_none h n (by omega)]
theorem pat_fit {l : List Ob} {o : Ob} (hc : M.chkN o.i = 0) (h0 : 1 <= o.base) (h1 : o.base <= 2000) : ∀ (k : Nat) (ps : List Pt),k <= o.i.rels.length -> patTo l o k = some ps -> ∀ j,j < ps.length -> FitP (ptAt ps j)
 | 0,ps,_,h,j,hj=>by simp only [patTo] at h;injection h with h;subst h;simp at hj
 | k + 1,ps,hk,h,j,hj=>by
  simp only [patTo] at h
  cases e : patTo l o k with
  | none=>rw [e] at h;cases h
  | some qs =>
   rw [e] at h
   simp only at h
   cases g : tgtN l o (M.rlAt o.i.rels k).name with
   | none=>rw [g] at h;cases h
   | some t =>
    rw [g] at h
    simp only at h
    injection h with h
    subst h
    rw [List.length_append] at hj
    by_cases hjq : j < qs.length
    · have:=pat_fit hc h0 h1 k qs (by omega) e j hjq
      unfold ptAt at this ⊢
      rw [List.getD_eq_getElem?_getD,List.getElem?_append_left hjq,<- List.getD_eq_getElem?_getD]
      exact this
    · have hje : j = qs.length:=by simp at hj;omega
      subst hje
      unfold ptAt
      rw [List.getD_eq_getElem?_getD,List.getElem?_append_right (Nat.le_refl _),Nat.sub_self]
      have hb:=rel_bounds hc k (by omega)
      refine ⟨?_,?_,?_⟩
      · show 0 <= o.base * 16 + (M.rlAt o.i.rels k).pos
        omega
      · show o.base * 16 + (M.rlAt o.i.rels k).pos <= 1000000
        omega
      · show (⟨(Lib.leBytes 8 (CM.low (t + (M.rlAt o.i.rels k).add))).toArray⟩ : ByteArray).size = 8
        rw [Lib.size_eq]
        simp [Lib.leBytes]
def HasFN (rb : Option Nat) (w : World) (ao : Option Addr) (l : List Fx) : Prop:=0 < l.length -> ∃ b off,ao = some ⟨b,off,none⟩ /\ b < w.heap.size /\ some b ≠ rb /\ LieF w b off l
theorem HasFN.has {rb : Option Nat} {w : World} {ao : Option Addr} {l : List Fx} (h : HasFN rb w ao l) : HasF w ao l:=fun hl=>by
 obtain ⟨b,off,h1,h2,_,h3⟩:=h hl
 exact ⟨b,off,h1,h2,h3⟩
theorem HasFN.below {rb : Option Nat} {w w' : World} {ao : Option Addr} {l : List Fx} (h : HasFN rb w ao l) (hb : Below w.heap.size w w') : HasFN rb w' ao l:=fun hl=>by
 obtain ⟨b,off,h1,h2,h3,h4⟩:=h hl
 exact ⟨b,off,h1,Nat.lt_of_lt_of_le h2 hb.size,h3,lieF hb h2 h4⟩
theorem lieF_block {w w' : World} {b off : Nat} {l : List Fx} (h : LieF w b off l) (hb : w'.heap[b]? = w.heap[b]?) : LieF w' b off l:=fun i hi=>by
 obtain ⟨c0,c1⟩:=h i hi
 exact ⟨(World.cell?_of_block hb).trans c0,(World.cell?_of_block hb).trans c1⟩
theorem HasFN.grown {rb : Option Nat} {w w' : World} {ao : Option Addr} {l : List Fx} {g : Nat} (h : HasFN rb w ao l) (hg : w.grownBy w' rb) (hs : w.heap.size <= w'.heap.size) (hat : rb = some g ∨ g = w.heap.size) : HasFN (some g) w' ao l:=fun hl=>by
 obtain ⟨b,off,h1,h2,h3,h4⟩:=h hl
 refine ⟨b,off,h1,Nat.lt_of_lt_of_le h2 hs,fun e=>?_,lieF_block h4 (hg.block b h2 h3)⟩
 injection e with e
 rcases hat with hat | hat
 · exact h3 (by rw [hat,e])
 · omega
def AllF (rb : Option Nat) (w : World) (hs : List Sh) : Prop:=∀ k,k < hs.length -> HasFN rb w (shAt hs k).ao (shAt hs k).fixes
def cellH (s : Sh) : List Value:=[.int .i64 s.page,.string s.data,.slice s.ao s.fixes.length s.cap]
theorem shAt_left (l : List Sh) (x : Sh) (k : Nat) (h : k < l.length) : shAt (l ++ [x]) k = shAt l k:=by
 unfold shAt
 rw [List.getD_eq_getElem?_getD,List.getElem?_append_left h,<- List.getD_eq_getElem?_getD]
theorem shAt_last (l : List Sh) (x : Sh) : shAt (l ++ [x]) l.length = x:=by
 unfold shAt
 rw [List.getD_eq_getElem?_getD,List.getElem?_append_right (Nat.le_refl _)]
 simp
end LM
namespace KM
open Go.RowKit
def Same (xs ys : List LM.Sh) : Prop:=ys.map LM.plain = xs.map LM.plain
def withS (k : Kn) (hs : List LM.Sh) : Kn:=⟨hs,k.frames,k.slots,k.spaces,k.hand⟩
theorem Same.len {xs ys : List LM.Sh} (h : Same xs ys) : ys.length = xs.length:=by
 have:=congrArg List.length h
 simpa using this
theorem plain_eq {a b : LM.Sh} (h : LM.plain a = LM.plain b) : a.page = b.page /\ a.data = b.data /\ a.fixes = b.fixes:=by
 injection h with h1 h2 h3
 exact ⟨h1,h2,h3⟩
theorem Same.at {xs ys : List LM.Sh} (h : Same xs ys) (i : Nat) : LM.plain (LM.shAt ys i) = LM.plain (LM.shAt xs i):=by
 unfold Same at h
 unfold LM.shAt
 have h1 : (ys.map LM.plain)[i]? = (xs.map LM.plain)[i]?:=by rw [h]
 rw [List.getElem?_map,List.getElem?_map] at h1
 rw [List.getD_eq_getElem?_getD,List.getD_eq_getElem?_getD]
 cases g1 : ys[i]? with
 | none =>
  cases g2 : xs[i]? with
  | none=>rfl
  | some x=>rw [g1,g2] at h1;cases h1
 | some y =>
  cases g2 : xs[i]? with
  | none=>rw [g1,g2] at h1;cases h1
  | some x =>
   rw [g1,g2] at h1
   injection h1
theorem same_fillS {a b : LM.Sh} (h : LM.plain a = LM.plain b) : LM.fillS a = LM.fillS b:=by
 obtain ⟨h1,h2,h3⟩:=plain_eq h
 unfold LM.fillS
 rw [h2,h3]
theorem same_sheet {a b : LM.Sh} (h : LM.plain a = LM.plain b) : LM.sheetB a = LM.sheetB b:=by
 obtain ⟨h1,h2,h3⟩:=plain_eq h
 unfold LM.sheetB LM.headB
 rw [h1,h2,h3]
theorem same_for (p : Int) : ∀ (xs ys : List LM.Sh),Same xs ys -> (sheetFor ys p).map LM.plain = (sheetFor xs p).map LM.plain
 | [],[],_=>rfl
 | [],b :: r,h=>by have:=congrArg List.length h;simp at this
 | a :: r,[],h=>by have:=congrArg List.length h;simp at this
 | a :: r,b :: t,h=>by
  have h : LM.plain b :: t.map LM.plain = LM.plain a :: r.map LM.plain:=h
  injection h with h1 h2
  have ih:=same_for p r t h2
  have hp:=(plain_eq h1).1
  unfold sheetFor at ih ⊢
  rw [List.find?_cons,List.find?_cons,hp]
  cases decide (a.page = p) with
  | true=>exact congrArg some h1
  | false=>exact ih
theorem same_filled {xs ys : List LM.Sh} (h : Same xs ys) (p : Int) : filled ys p = filled xs p:=by
 have:=same_for p xs ys h
 unfold filled
 cases g1 : sheetFor ys p with
 | none =>
  cases g2 : sheetFor xs p with
  | none=>rfl
  | some x=>rw [g1,g2] at this;cases this
 | some y =>
  cases g2 : sheetFor xs p with
  | none=>rw [g1,g2] at this;cases this
  | some x =>
   rw [g1,g2] at this
   injection this with this
   exact same_fillS this
theorem same_some {xs ys : List LM.Sh} (h : Same xs ys) (p : Int) : (sheetFor ys p).isSome = (sheetFor xs p).isSome:=by
 have:=congrArg Option.isSome (same_for p xs ys h)
 simpa using this
theorem same_fillK {xs ys : List LM.Sh} (h : Same xs ys) (p : Int) (z : Bool) : fillK ys p z = fillK xs p z:=by
 unfold fillK
 rw [same_filled h]
theorem same_rise {xs ys : List LM.Sh} (h : Same xs ys) : LM.riseB ys = LM.riseB xs:=by
 have : ∀ n,LM.riseTo ys n = LM.riseTo xs n:=fun n=>by
  induction n with
  | zero=>rfl
  | succ n ih =>
   unfold LM.riseTo
   rw [ih,same_sheet (h.at n)]
   unfold LM.riseAt
   rw [(plain_eq (h.at n)).1,(plain_eq (h.at (n - 1))).1]
 unfold LM.riseB
 rw [h.len,this]
theorem RightK.withS {k : Kn} (h : RightK k) {hs : List LM.Sh} (s : Same k.sheets hs) : RightK (withS k hs):=by
 refine ⟨?_,(same_rise s).trans h.rise,h.hand,fun x hx=>?_,h.room,fun i hi=>?_,h.slt⟩
 · have:=h.c
   have e:=s.len
   refine decide_eq_true ?_
   show (3 <= k.frames.length /\ k.frames.length <= 64) /\ k.slots.length <= 512 /\ (1 <= k.spaces.length /\ k.spaces.length <= 4) /\ hs.length <= 255
   omega
 · have g:=h.each x hx
   exact ⟨g.dead,g.areas,g.rise,g.ent,fun p h1 h2=>(same_some s p).trans (g.sheets p h1 h2)⟩
 · have g:=h.frm i hi
   exact ⟨g.refs,g.zero,g.one,g.size,fun d x hx=>(g.fill d x hx).trans (same_fillK s _ _).symm⟩
theorem aside_withS (k : Kn) (hs : List LM.Sh) (i : Nat) : asideK (withS k hs) i = withS (asideK k i) hs:=by
 unfold asideK
 show (if (frAt k.frames i).dirty = true then (match freeS k.slots with
  | some s=>swapA (withS k hs) i s
  | none=>dropA (withS k hs) i) else dropA (withS k hs) i) = _
 by_cases c : (frAt k.frames i).dirty = true
 · rw [if_pos c,if_pos c]
   cases freeS k.slots <;> rfl
 · rw [if_neg c,if_neg c];rfl
theorem clock_withS (held : List Int) (hs : List LM.Sh) : ∀ (n : Nat) (k : Kn),clockN held n (withS k hs) = withS (clockN held n k) hs
 | 0,k=>rfl
 | n + 1,k=>by
  unfold clockN
  show (if passB held k = true then clockN held n (withS (stepH held k) hs) else withS k hs) = _
  by_cases c : passB held k = true
  · rw [if_pos c,if_pos c];exact clock_withS held hs n _
  · rw [if_neg c,if_neg c]
theorem get_withS (k : Kn) (hs : List LM.Sh) (held : List Int) : getK (withS k hs) held = ((getK k held).1,withS (getK k held).2 hs):=by
 unfold getK
 show (match freeF k.frames with
  | some i=>(i,withS k hs)
  | none=>_) = _
 cases freeF k.frames with
 | some i=>rfl
 | none =>
  show (_,_) = (_,_)
  rw [clock_withS,show (withS (clockN held 70 k) hs).hand = (clockN held 70 k).hand from rfl,aside_withS]
  rfl
theorem leave_withS (k : Kn) (hs : List LM.Sh) (e : En) : leaveK (withS k hs) e = withS (leaveK k e) hs:=by unfold leaveK;split <;> rfl
theorem move_withS (k : Kn) (hs : List LM.Sh) (j : Nat) (p : Int) (i : Nat) (d : ByteArray) (dy : Bool) : moveTo (withS k hs) j p i d dy = withS (moveTo k j p i d dy) hs:=by
 unfold moveTo
 show (match entOf (spAt k.spaces j).ents p with
  | none=>_
  | some e=>_) = _
 cases entOf (spAt k.spaces j).ents p with
 | none=>rfl
 | some e=>exact leave_withS (enterK (layK k i d dy) j ⟨p,1,i⟩) hs e
theorem present_withS {k : Kn} (h : RightK k) {held : List Int} (hl : held.length <= 2) {hs : List LM.Sh} (s : Same k.sheets hs) (j : Nat) (p : Int) : presentK (withS k hs) j p held = ((presentK k j p held).1,withS (presentK k j p held).2 hs):=by
 have hsh:=(get_got h hl).kept.sheets
 unfold presentK
 show (match entOf (spAt k.spaces j).ents p with
  | some e=>_
  | none=>_) = _
 rw [get_withS]
 cases entOf (spAt k.spaces j).ents p with
 | none =>
  dsimp only
  rw [move_withS]
  show (_,withS (moveTo _ _ _ _ (fillK hs p _) _) hs) = _
  rw [same_fillK s,hsh]
  rfl
 | some e =>
  dsimp only
  by_cases c : e.kind = 1
  · rw [if_pos c,if_pos c]
  · rw [if_neg c,if_neg c,move_withS]
    rfl
theorem alone_withS (k : Kn) (hs : List LM.Sh) (held : List Int) (j : Nat) (p : Int) (a : Nat) : aloneK (withS k hs) j p a held = ((aloneK k j p a held).1,withS (aloneK k j p a held).2 hs):=by
 unfold aloneK
 rw [get_withS]
 by_cases c : (frAt k.frames a).refs = 1
 · rw [if_pos c,if_pos (show (frAt (withS k hs).frames a).refs = 1 from c)]
 · rw [if_neg c,if_neg (show ¬ (frAt (withS k hs).frames a).refs = 1 from c),move_withS]
   rfl
theorem bring_withS {k : Kn} (h : RightK k) {held : List Int} (hl : held.length <= 2) {hs : List LM.Sh} (s : Same k.sheets hs) (j : Nat) (p way : Int) : bringK (withS k hs) j p way held = ((bringK k j p way held).1,withS (bringK k j p way held).2 hs):=by
 have e : twoK (withS k hs) j p way held = ((twoK k j p way held).1,withS (twoK k j p way held).2 hs):=by
  unfold twoK
  rw [present_withS h hl s]
  by_cases c : way = 1
  · rw [if_pos c,if_pos c]
    exact alone_withS _ _ _ _ _ _
  · rw [if_neg c,if_neg c]
 unfold bringK
 rw [e]
 rfl
theorem reach_withS {k : Kn} (h : RightK k) {j : Nat} (hj : j < k.spaces.length) {a n way : Int} (h1 : mapped k j (a / 16)) {hs : List LM.Sh} (s : Same k.sheets hs) : reachK (withS k hs) j a n way = ((reachK k j a n way).1,withS (reachK k j a n way).2 hs):=by
 have A:=(bring_had h hj h1 way (held:=[]) (by simp)).1
 have e1 : oneK (withS k hs) j a way = ((oneK k j a way).1,withS (oneK k j a way).2 hs):=bring_withS h (by simp) s j _ way
 have e2 : twoB (withS k hs) j a n way = ((twoB k j a n way).1,withS (twoB k j a n way).2 hs):=by
  unfold twoB
  rw [e1]
  have s2 : Same (oneK k j a way).2.sheets hs:=by
   have : (oneK k j a way).2.sheets = k.sheets:=A.kept.sheets
   rw [this];exact s
  exact bring_withS A.right (by simp) s2 j _ way
 unfold reachK
 rw [e1,e2]
 by_cases c : lastPg a n = a / 16
 · rw [if_pos c,if_pos c]
 · rw [if_neg c,if_neg c]
theorem part_withS (k : Kn) (hs : List LM.Sh) (ids : List Nat) (s : ByteArray) : ∀ n,partTo (withS k hs) ids s n = withS (partTo k ids s n) hs
 | 0=>rfl
 | n + 1=>by
  unfold partTo
  rw [part_withS k hs ids s n]
  rfl
theorem count_withS (k : Kn) (hs : List LM.Sh) (e : En) (d : Int) : countK (withS k hs) e d = withS (countK k e d) hs:=by unfold countK;split <;> rfl
end KM
end Go.Proofs.YtpgifpeohlllfaaGreat
