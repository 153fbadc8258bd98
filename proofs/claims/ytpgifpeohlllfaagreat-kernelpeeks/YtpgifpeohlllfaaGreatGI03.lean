import Derived.Test.YtpgifpeohlllfaaGreatGI02
set_option maxHeartbeats 20000000
set_option linter.unusedVariables false
set_option maxRecDepth 100000
set_option linter.unusedSimpArgs false
namespace Go.Proofs.YtpgifpeohlllfaaGreat
namespace KM
open Go.RowKit
def withE (s : Sp) (es : List En) : Sp:=⟨s.live,s.areas,es⟩
def leaveK (k : Kn) (e : En) : Kn:=if e.kind = 1 then { k with frames:=k.frames.set e.loc.toNat (lessF (frAt k.frames e.loc.toNat)) } else { k with slots:=k.slots.set e.loc.toNat (lessS (slAt k.slots e.loc.toNat)) }
def enterK (k : Kn) (j : Nat) (e : En) : Kn:={ k with spaces:=k.spaces.set j (withE (spAt k.spaces j) (putE (spAt k.spaces j).ents e)) }
def layK (k : Kn) (i : Nat) (d : ByteArray) (dy : Bool) : Kn:={ k with frames:=k.frames.set i ⟨d,1,dy,false⟩ }
def moveTo (k : Kn) (j : Nat) (p : Int) (i : Nat) (d : ByteArray) (dy : Bool) : Kn:=match entOf (spAt k.spaces j).ents p with
 | none=>enterK (layK k i d dy) j ⟨p,1,i⟩
 | some e=>leaveK (enterK (layK k i d dy) j ⟨p,1,i⟩) e
theorem names_move {ss : List Sp} {j : Nat} (hj : j < ss.length) (e : En) (hr : Rise (spAt ss j).ents) (kd a : Int) : ∃ X Y,names ss kd a = X ++ (nm (spAt ss j).areas kd a (entOf (spAt ss j).ents e.page).toList ++ Y) /\ names (ss.set j (withE (spAt ss j) (putE (spAt ss j).ents e))) kd a = X ++ (nm (spAt ss j).areas kd a [e] ++ Y):=by
 obtain ⟨pre,post,h1,h2,_,_⟩:=put_split (e:=e) hr
 obtain ⟨u,v,g1,g2⟩:=names_set ss j (withE (spAt ss j) (putE (spAt ss j).ents e)) kd a hj
 refine ⟨u ++ nm (spAt ss j).areas kd a pre,nm (spAt ss j).areas kd a post ++ v,?_,?_⟩
 · rw [g1,nameIn_nm]
   conv=>lhs;rw [h1]
   rw [nm_append,nm_append]
   simp only [List.append_assoc]
 · rw [g2,nameIn_nm]
   show u ++ (nm (spAt ss j).areas kd a (putE (spAt ss j).ents e) ++ v) = _
   rw [h2,nm_append,nm_cons]
   simp only [List.append_assoc]
theorem put_ent {es : List En} (h : Rise es) (e : En) (p : Int) : entOf (putE es e) p = if p = e.page then some e else entOf es p:=by
 have hp:=put_rise (e:=e) h
 obtain ⟨pre,post,h1,h2,h3,h4⟩:=put_split (e:=e) h
 by_cases c : p = e.page
 · rw [if_pos c,ent_iff hp,h2]
   exact ⟨by simp,c.symm⟩
 · rw [if_neg c]
   cases g : entOf es p with
   | none =>
    rw [ent_none] at g ⊢
    intro x hx
    rw [h2] at hx
    rcases List.mem_append.1 hx with y | y
    · exact g x (by rw [h1];exact List.mem_append.2 (.inl y))
    · rcases List.mem_cons.1 y with rfl | y
      · exact fun e=>c e.symm
      · exact g x (by rw [h1];exact List.mem_append.2 (.inr (List.mem_append.2 (.inr y))))
   | some x =>
    obtain ⟨m1,m2⟩:=(ent_iff h).1 g
    rw [ent_iff hp,h2]
    refine ⟨?_,m2⟩
    rw [h1] at m1
    rcases List.mem_append.1 m1 with y | y
    · exact List.mem_append.2 (.inl y)
    · rcases List.mem_append.1 y with z | z
      · have : entOf es e.page = some x:=by
         cases q : entOf es e.page with
         | none=>rw [q] at z;cases z
         | some y=>rw [q] at z;simp at z;rw [z]
        exact absurd (m2.symm.trans ((ent_iff h).1 this).2) c
      · exact List.mem_append.2 (.inr (List.mem_cons_of_mem _ z))
theorem spAt_set (l : List Sp) (j n : Nat) (s : Sp) (hj : j < l.length) : spAt (l.set j s) n = if j = n then s else spAt l n:=by
 unfold spAt
 by_cases c : j = n
 · subst c;rw [if_pos rfl,getD_set_self _ _ _ _ hj]
 · rw [if_neg c,getD_set_ne _ _ _ _ _ c]
theorem frAt_set (l : List Fr) (j n : Nat) (s : Fr) (hj : j < l.length) : frAt (l.set j s) n = if j = n then s else frAt l n:=by
 unfold frAt
 by_cases c : j = n
 · subst c;rw [if_pos rfl,getD_set_self _ _ _ _ hj]
 · rw [if_neg c,getD_set_ne _ _ _ _ _ c]
theorem slAt_set (l : List Sl) (j n : Nat) (s : Sl) (hj : j < l.length) : slAt (l.set j s) n = if j = n then s else slAt l n:=by
 unfold slAt
 by_cases c : j = n
 · subst c;rw [if_pos rfl,getD_set_self _ _ _ _ hj]
 · rw [if_neg c,getD_set_ne _ _ _ _ _ c]
theorem room_set (l : List Sp) (j : Nat) (s : Sp) (hj : j < l.length) (ha : s.areas = (spAt l j).areas) : room (l.set j s) = room l:=by
 unfold room
 rw [List.length_set]
 refine roomTo_congr _ _ _ fun i _=>?_
 rw [spAt_set l j i s hj]
 by_cases c : j = i
 · rw [if_pos c,ha,c]
 · rw [if_neg c]
structure Movable (k : Kn) (j : Nat) (p : Int) (i : Nat) (d : ByteArray) (dy : Bool) : Prop where
 right : RightK k
 hj : j < k.spaces.length
 hp : (AM.findN (spAt k.spaces j).areas p).2 = true
 hi : i < k.frames.length
 free : names k.spaces 1 i = []
 size : d.size = 16
 fill : dy = false -> d = fillK k.sheets p (AM.findN (spAt k.spaces j).areas p).1.zero
theorem loc_bd {k : Kn} (h : RightK k) {j : Nat} (hj : j < k.spaces.length) {e : En} (he : e ∈ (spAt k.spaces j).ents) : (e.kind = 1 /\ (e.loc.toNat : Int) = e.loc /\ e.loc.toNat < k.frames.length) ∨ (e.kind = 2 /\ (e.loc.toNat : Int) = e.loc /\ e.loc.toNat < k.slots.length):=by
 rcases ((h.sp hj).ent e he).2 with g | g
 · exact .inl ⟨g.1,by omega,by omega⟩
 · exact .inr ⟨g.1,by omega,by omega⟩
theorem move_frames (k : Kn) (j : Nat) (p : Int) (i : Nat) (d : ByteArray) (dy : Bool) (m : Movable k j p i d dy) : (moveTo k j p i d dy).frames.length = k.frames.length /\ (moveTo k j p i d dy).slots.length = k.slots.length /\ (moveTo k j p i d dy).sheets = k.sheets /\ (moveTo k j p i d dy).hand = k.hand /\ (moveTo k j p i d dy).spaces = k.spaces.set j (withE (spAt k.spaces j) (putE (spAt k.spaces j).ents ⟨p,1,i⟩)) /\
  (∀ n,frAt (moveTo k j p i d dy).frames n = if n = i then ⟨d,1,dy,false⟩ else match entOf (spAt k.spaces j).ents p with
   | some e=>if e.kind = 1 /\ e.loc = (n : Int) then lessF (frAt k.frames n) else frAt k.frames n
   | none=>frAt k.frames n) /\
  (∀ n,slAt (moveTo k j p i d dy).slots n = match entOf (spAt k.spaces j).ents p with
   | some e=>if e.kind = 2 /\ e.loc = (n : Int) then lessS (slAt k.slots n) else slAt k.slots n
   | none=>slAt k.slots n):=by
 have hr:=(m.right.sp m.hj).rise
 unfold moveTo
 cases g : entOf (spAt k.spaces j).ents p with
 | none =>
  refine ⟨List.length_set,rfl,rfl,rfl,rfl,fun n=>?_,fun n=>rfl⟩
  show frAt (k.frames.set i _) n = _
  rw [frAt_set _ _ _ _ m.hi]
  by_cases c : n = i
  · rw [if_pos c,if_pos c.symm]
  · rw [if_neg c,if_neg (fun e=>c e.symm)]
 | some e =>
  have he:=(ent_iff hr).1 g
  have hne : e.kind = 1 -> e.loc.toNat ≠ i:=fun h1 h2=>by
   have:=name_of m.hj he.1
   rcases loc_bd m.right m.hj he.1 with b | b
   · rw [h1,<- b.2.1,h2,m.free] at this;cases this
   · omega
  dsimp only
  unfold leaveK
  rcases loc_bd m.right m.hj he.1 with b | b
  · rw [if_pos b.1]
    have hne:=hne b.1
    refine ⟨by show ((k.frames.set i _).set _ _).length = _;rw [List.length_set,List.length_set],rfl,rfl,rfl,rfl,fun n=>?_,fun n=>?_⟩
    · show frAt ((k.frames.set i _).set _ (lessF (frAt (k.frames.set i _) _))) n = _
      rw [frAt_set _ _ _ _ (by rw [List.length_set];exact b.2.2),frAt_set _ _ n _ m.hi,frAt_set _ _ e.loc.toNat _ m.hi,if_neg (show ¬ i = e.loc.toNat from fun e=>hne e.symm)]
      by_cases c : n = i
      · rw [if_neg (by omega),if_pos c.symm,if_pos c]
      · rw [if_neg c,if_neg (show ¬ i = n from fun e=>c e.symm)]
        by_cases c2 : e.loc.toNat = n
        · rw [if_pos c2]
          show _ = if e.kind = 1 /\ e.loc = (n : Int) then _ else _
          rw [if_pos ⟨b.1,by omega⟩,c2]
        · rw [if_neg c2]
          show _ = if e.kind = 1 /\ e.loc = (n : Int) then _ else _
          rw [if_neg (by omega)]
    · show slAt k.slots n = if e.kind = 2 /\ e.loc = (n : Int) then _ else _
      rw [if_neg (by omega)]
  · rw [if_neg (by omega)]
    refine ⟨List.length_set,List.length_set,rfl,rfl,rfl,fun n=>?_,fun n=>?_⟩
    · show frAt (k.frames.set i _) n = if n = i then _ else if e.kind = 1 /\ e.loc = (n : Int) then _ else _
      rw [frAt_set _ _ _ _ m.hi,if_neg (show ¬ (e.kind = 1 /\ e.loc = (n : Int)) by omega)]
      by_cases c : n = i
      · rw [if_pos c,if_pos c.symm]
      · rw [if_neg c,if_neg (fun e=>c e.symm)]
    · show slAt (k.slots.set _ (lessS (slAt k.slots _))) n = if e.kind = 2 /\ e.loc = (n : Int) then _ else _
      rw [slAt_set _ _ _ _ b.2.2]
      by_cases c2 : e.loc.toNat = n
      · rw [if_pos c2,if_pos ⟨b.1,by omega⟩,c2]
      · rw [if_neg c2,if_neg (by omega)]
theorem move_right {k : Kn} {j : Nat} {p : Int} {i : Nat} {d : ByteArray} {dy : Bool} (m : Movable k j p i d dy) : RightK (moveTo k j p i d dy):=by
 have h:=m.right
 have hsp:=h.sp m.hj
 obtain ⟨f1,f2,f3,f4,f5,f6,f7⟩:=move_frames k j p i d dy m
 have hlen : (moveTo k j p i d dy).spaces.length = k.spaces.length:=by rw [f5,List.length_set]
 refine ⟨?_,by rw [f3];exact h.rise,by rw [f4,f1];exact h.hand,?_,?_,?_,?_⟩
 · have:=h.counts
   unfold KM.counts at this ⊢
   rw [f1,f2,f3,hlen]
   exact this
 · rw [f1,f2,f3,f5]
   intro s hs
   rcases List.mem_or_eq_of_mem_set hs with g | rfl
   · exact h.each s g
   · refine ⟨fun dd=>?_,hsp.areas,put_rise hsp.rise,fun e he=>?_,hsp.sheets⟩
     · have:=m.hp
       rw [(hsp.dead dd).1] at this
       cases this
     · obtain ⟨pre,post,h1,h2,_,_⟩:=put_split (e:=(⟨p,1,i⟩ : En)) hsp.rise
       rw [show (withE (spAt k.spaces j) (putE (spAt k.spaces j).ents ⟨p,1,i⟩)).ents = pre ++ ⟨p,1,i⟩ :: post from h2] at he
       have hin : ∀ x,x ∈ pre ∨ x ∈ post -> x ∈ (spAt k.spaces j).ents:=fun x hx=>by
        rw [h1]
        rcases hx with g | g
        · exact List.mem_append.2 (.inl g)
        · exact List.mem_append.2 (.inr (List.mem_append.2 (.inr g)))
       rcases List.mem_append.1 he with g | g
       · exact hsp.ent e (hin e (.inl g))
       · rcases List.mem_cons.1 g with rfl | g
         · exact ⟨m.hp,.inl ⟨rfl,by show (0 : Int) <= (i : Int);omega,by show (i : Int) < _;have:=m.hi;omega⟩⟩
         · exact hsp.ent e (hin e (.inr g))
 · rw [f2,f5,room_set _ _ (withE (spAt k.spaces j) (putE (spAt k.spaces j).ents ⟨p,1,i⟩)) m.hj rfl];exact h.room
 · intro n hn
   rw [f1] at hn
   rw [f3,f5,f6]
   obtain ⟨X,Y,h1,h2⟩:=names_move m.hj ⟨p,1,i⟩ hsp.rise 1 n
   rw [h2]
   by_cases c : n = i
   · subst c
     rw [if_pos rfl,nm_yes _ (e:=(⟨p,1,n⟩ : En)) ⟨rfl,rfl⟩]
     rw [m.free] at h1
     have hX : X = []:=(List.append_eq_nil_iff.1 h1.symm).1
     have hY : Y = []:=(List.append_eq_nil_iff.1 (List.append_eq_nil_iff.1 h1.symm).2).2
     subst hX hY
     refine ⟨rfl,fun e=>(by cases e),fun x hx y hy=>?_,fun _=>m.size,fun e x hx=>?_⟩
     · simp at hx hy;rw [hx,hy]
     · simp at hx;rw [hx];exact m.fill e
   · rw [if_neg c,nm_no _ (e:=(⟨p,1,i⟩ : En)) (fun g=>c (by have:=g.2;simp at this;omega))]
     have hf:=h.frm n hn
     rw [h1] at hf
     cases g : entOf (spAt k.spaces j).ents p with
     | none =>
      rw [g] at hf
      exact hf
     | some e =>
      rw [g] at hf
      show FrR k.sheets (X ++ ([] ++ Y)) (if e.kind = 1 /\ e.loc = (n : Int) then lessF (frAt k.frames n) else frAt k.frames n)
      rw [List.nil_append]
      by_cases c2 : e.kind = 1 /\ e.loc = (n : Int)
      · rw [if_pos c2]
        rw [show (some e).toList = [e] from rfl,nm_yes _ c2] at hf
        exact hf.less
      · rw [if_neg c2]
        rw [show (some e).toList = [e] from rfl,nm_no _ c2] at hf
        exact hf
 · intro n hn
   rw [f2] at hn
   rw [f5,f7]
   obtain ⟨X,Y,h1,h2⟩:=names_move m.hj ⟨p,1,i⟩ hsp.rise 2 n
   rw [h2,nm_no _ (e:=(⟨p,1,i⟩ : En)) (fun g=>by have:=g.1;simp at this)]
   have hf:=h.slt n hn
   rw [h1] at hf
   cases g : entOf (spAt k.spaces j).ents p with
   | none =>
    rw [g] at hf
    exact hf
   | some e =>
    rw [g] at hf
    show SlR (X ++ ([] ++ Y)) (if e.kind = 2 /\ e.loc = (n : Int) then lessS (slAt k.slots n) else slAt k.slots n)
    rw [List.nil_append]
    by_cases c2 : e.kind = 2 /\ e.loc = (n : Int)
    · rw [if_pos c2]
      rw [show (some e).toList = [e] from rfl,nm_yes _ c2] at hf
      exact hf.less
    · rw [if_neg c2]
      rw [show (some e).toList = [e] from rfl,nm_no _ c2] at hf
      exact hf
theorem out_ent {i : Int} {es : List En} (h : Rise es) (p : Int) : entOf (outE i es) p = (entOf es p).filter fun e=>!isIn i e:=by
 cases g : entOf es p with
 | none=>rw [Option.filter_none,ent_none];rw [ent_none] at g;exact fun e he=>g e (out_mem.1 he).1
 | some e =>
  have he:=(ent_iff h).1 g
  by_cases c : e.kind = 1 /\ e.loc = i
  · rw [Option.filter_some,isIn_iff.2 c,if_neg (by simp),ent_none]
    intro x hx hp
    have hx:=out_mem.1 hx
    have : some x = some e:=((ent_iff h).2 ⟨hx.1,hp⟩).symm.trans g
    injection this with this
    exact hx.2 (by rw [this];exact c)
  · rw [Option.filter_some,isIn_no.2 c,if_pos (by simp),ent_iff (out_rise h)]
    exact ⟨out_mem.2 ⟨he.1,c⟩,he.2⟩
theorem swap_ent {i s : Int} {es : List En} (h : Rise es) (p : Int) : entOf (swapE i s es) p = (entOf es p).map fun e=>if isIn i e then ⟨e.page,2,s⟩ else e:=by
 cases g : entOf es p with
 | none =>
  rw [Option.map_none,ent_none];rw [ent_none] at g
  intro x hx
  rcases swap_mem.1 hx with y | ⟨y,hy,_,rfl⟩
  · exact g x y.1
  · exact g y hy
 | some e =>
  have he:=(ent_iff h).1 g
  rw [Option.map_some,ent_iff (swap_rise h)]
  by_cases c : e.kind = 1 /\ e.loc = i
  · rw [isIn_iff.2 c,if_pos rfl]
    exact ⟨swap_mem.2 (.inr ⟨e,he.1,c,rfl⟩),he.2⟩
  · rw [isIn_no.2 c,if_neg (by simp)]
    exact ⟨swap_mem.2 (.inl ⟨he.1,c⟩),he.2⟩
theorem spAt_map (f : Sp -> Sp) (l : List Sp) (j : Nat) (hj : j < l.length) : spAt (l.map f) j = f (spAt l j):=getD_map f sp0 sp0 l j hj
structure Kept (k k' : Kn) : Prop where
 sheets : k'.sheets = k.sheets
 nf : k'.frames.length = k.frames.length
 ns : k'.slots.length = k.slots.length
 np : k'.spaces.length = k.spaces.length
 live : ∀ j,j < k.spaces.length -> (spAt k'.spaces j).live = (spAt k.spaces j).live
 areas : ∀ j,j < k.spaces.length -> (spAt k'.spaces j).areas = (spAt k.spaces j).areas
 peek : ∀ j,j < k.spaces.length -> ∀ p,peekK k' j p = peekK k j p
theorem Kept.refl (k : Kn) : Kept k k:=⟨rfl,rfl,rfl,rfl,fun _ _=>rfl,fun _ _=>rfl,fun _ _ _=>rfl⟩
theorem Kept.trans {a b c : Kn} (h : Kept a b) (g : Kept b c) : Kept a c :=
 ⟨g.sheets.trans h.sheets,g.nf.trans h.nf,g.ns.trans h.ns,g.np.trans h.np,fun j hj=>(g.live j (by rw [h.np];exact hj)).trans (h.live j hj),fun j hj=>(g.areas j (by rw [h.np];exact hj)).trans (h.areas j hj),fun j hj p=>(g.peek j (by rw [h.np];exact hj) p).trans (h.peek j hj p)⟩
theorem drop_kept {k : Kn} (h : RightK k) {i : Nat} (hi : i < k.frames.length) (hd : (frAt k.frames i).dirty = false) : Kept k (dropA k i):=by
 refine ⟨rfl,List.length_set,rfl,List.length_map ..,fun j hj=>?_,fun j hj=>?_,fun j hj p=>?_⟩
 · show (spAt (k.spaces.map (outS i)) j).live = _;rw [spAt_map _ _ _ hj];rfl
 · show (spAt (k.spaces.map (outS i)) j).areas = _;rw [spAt_map _ _ _ hj];rfl
 · have hsp:=h.sp hj
   unfold peekK
   show (match entOf (spAt (k.spaces.map (outS i)) j).ents p with
    | some e=>if e.kind = 1 then (frAt (k.frames.set i fr0) e.loc.toNat).data else (slAt k.slots e.loc.toNat).data
    | none=>fillK k.sheets p (AM.findN (spAt (k.spaces.map (outS i)) j).areas p).1.zero) = _
   rw [spAt_map _ _ _ hj]
   show (match entOf (outE i (spAt k.spaces j).ents) p with
    | some e=>if e.kind = 1 then (frAt (k.frames.set i fr0) e.loc.toNat).data else (slAt k.slots e.loc.toNat).data
    | none=>fillK k.sheets p (AM.findN (spAt k.spaces j).areas p).1.zero) = _
   rw [out_ent hsp.rise]
   cases g : entOf (spAt k.spaces j).ents p with
   | none=>rfl
   | some e =>
    have he:=(ent_iff hsp.rise).1 g
    have hb:=loc_bd h hj he.1
    by_cases c : e.kind = 1 /\ e.loc = (i : Int)
    · rw [Option.filter_some,isIn_iff.2 c,if_neg (by simp)]
      show _ = if e.kind = 1 then _ else _
      rw [if_pos c.1,show e.loc.toNat = i by omega]
      have:=name_of hj he.1
      rw [c.1,c.2] at this
      have:=(h.frm i hi).fill hd _ this
      rw [this,he.2]
    · rw [Option.filter_some,isIn_no.2 c,if_pos (by simp)]
      show (if e.kind = 1 then _ else _) = if e.kind = 1 then _ else _
      by_cases c1 : e.kind = 1
      · rw [if_pos c1,if_pos c1,frAt_set _ _ _ _ hi,if_neg (fun e1=>c ⟨c1,by omega⟩)]
      · rw [if_neg c1,if_neg c1]
theorem swap_kept {k : Kn} (h : RightK k) {i s : Nat} (hi : i < k.frames.length) (hs : s < k.slots.length) (hf : names k.spaces 2 s = []) : Kept k (swapA k i s):=by
 refine ⟨rfl,List.length_set,List.length_set,List.length_map ..,fun j hj=>?_,fun j hj=>?_,fun j hj p=>?_⟩
 · show (spAt (k.spaces.map (swapS i s)) j).live = _;rw [spAt_map _ _ _ hj];rfl
 · show (spAt (k.spaces.map (swapS i s)) j).areas = _;rw [spAt_map _ _ _ hj];rfl
 · have hsp:=h.sp hj
   unfold peekK
   show (match entOf (spAt (k.spaces.map (swapS i s)) j).ents p with
    | some e=>if e.kind = 1 then (frAt (k.frames.set i fr0) e.loc.toNat).data else (slAt (k.slots.set s ⟨(frAt k.frames i).data,(frAt k.frames i).refs⟩) e.loc.toNat).data
    | none=>fillK k.sheets p (AM.findN (spAt (k.spaces.map (swapS i s)) j).areas p).1.zero) = _
   rw [spAt_map _ _ _ hj]
   show (match entOf (swapE i s (spAt k.spaces j).ents) p with
    | some e=>if e.kind = 1 then (frAt (k.frames.set i fr0) e.loc.toNat).data else (slAt (k.slots.set s ⟨(frAt k.frames i).data,(frAt k.frames i).refs⟩) e.loc.toNat).data
    | none=>fillK k.sheets p (AM.findN (spAt k.spaces j).areas p).1.zero) = _
   rw [swap_ent hsp.rise]
   cases g : entOf (spAt k.spaces j).ents p with
   | none=>rfl
   | some e =>
    have he:=(ent_iff hsp.rise).1 g
    have hb:=loc_bd h hj he.1
    by_cases c : e.kind = 1 /\ e.loc = (i : Int)
    · rw [Option.map_some,isIn_iff.2 c,if_pos rfl]
      show (if (2 : Int) = 1 then _ else (slAt (k.slots.set s _) (s : Int).toNat).data) = if e.kind = 1 then _ else _
      rw [if_neg (by omega),if_pos c.1,Int.toNat_natCast,slAt_set _ _ _ _ hs,if_pos rfl,show e.loc.toNat = i by omega]
    · rw [Option.map_some,isIn_no.2 c,if_neg (by simp)]
      show (if e.kind = 1 then _ else _) = if e.kind = 1 then _ else _
      by_cases c1 : e.kind = 1
      · rw [if_pos c1,if_pos c1,frAt_set _ _ _ _ hi,if_neg (fun e1=>c ⟨c1,by omega⟩)]
      · rw [if_neg c1,if_neg c1,slAt_set _ _ _ _ hs,if_neg (fun e1=>by
         have:=name_of hj he.1
         rw [show e.kind = 2 by omega,show e.loc = (s : Int) by omega,hf] at this
         cases this)]
theorem aside_kept {k : Kn} (h : RightK k) {i : Nat} (hi : i < k.frames.length) (hr : (frAt k.frames i).refs ≠ 0) : Kept k (asideK k i):=by
 unfold asideK
 by_cases c : (frAt k.frames i).dirty = true
 · rw [if_pos c]
   obtain ⟨s,h1,h2,h3⟩:=h.slot hi hr
   rw [h1]
   exact swap_kept h hi h2 h3
 · rw [if_neg c]
   exact drop_kept h hi (by simpa using c)
theorem aside_free (k : Kn) (i : Nat) : names (asideK k i).spaces 1 i = []:=by
 unfold asideK
 by_cases c : (frAt k.frames i).dirty = true
 · rw [if_pos c]
   cases freeS k.slots with
   | none=>exact names_none (outS i) 1 i _ (fun s _=>nm_out_nil s.areas i s.ents)
   | some s=>exact names_none (swapS i s) 1 i _ (fun sp _=>nm_swap_nil sp.areas i s sp.ents)
 · rw [if_neg c]
   exact names_none (outS i) 1 i _ (fun s _=>nm_out_nil s.areas i s.ents)
theorem aside_frames (k : Kn) (i : Nat) : (asideK k i).frames = k.frames.set i fr0 /\ (asideK k i).hand = k.hand:=by
 unfold asideK
 by_cases c : (frAt k.frames i).dirty = true
 · rw [if_pos c]
   cases freeS k.slots with
   | none=>exact ⟨rfl,rfl⟩
   | some s=>exact ⟨rfl,rfl⟩
 · rw [if_neg c];exact ⟨rfl,rfl⟩
theorem aside_ent {k : Kn} (h : RightK k) (i : Nat) {j : Nat} (hj : j < k.spaces.length) (p : Int) (hn : ∀ e,entOf (spAt k.spaces j).ents p = some e -> ¬ (e.kind = 1 /\ e.loc = (i : Int))) : entOf (spAt (asideK k i).spaces j).ents p = entOf (spAt k.spaces j).ents p:=by
 have hr:=(h.sp hj).rise
 have hD : entOf (spAt (k.spaces.map (outS i)) j).ents p = entOf (spAt k.spaces j).ents p:=by
  rw [spAt_map _ _ _ hj]
  show entOf (outE i (spAt k.spaces j).ents) p = _
  rw [out_ent hr]
  cases g : entOf (spAt k.spaces j).ents p with
  | none=>rfl
  | some e=>rw [Option.filter_some,isIn_no.2 (hn e g),if_pos (by simp)]
 unfold asideK
 by_cases c : (frAt k.frames i).dirty = true
 · rw [if_pos c]
   cases freeS k.slots with
   | none=>exact hD
   | some s =>
    show entOf (spAt (k.spaces.map (swapS i s)) j).ents p = _
    rw [spAt_map _ _ _ hj]
    show entOf (swapE i s (spAt k.spaces j).ents) p = _
    rw [swap_ent hr]
    cases g : entOf (spAt k.spaces j).ents p with
    | none=>rfl
    | some e=>rw [Option.map_some,isIn_no.2 (hn e g),if_neg (by simp)]
 · rw [if_neg c];exact hD
theorem aside_slot {k : Kn} (h : RightK k) {i : Nat} (hi : i < k.frames.length) (hr : (frAt k.frames i).refs ≠ 0) (n : Nat) (hn : names k.spaces 2 n ≠ []) : slAt (asideK k i).slots n = slAt k.slots n:=by
 unfold asideK
 by_cases c : (frAt k.frames i).dirty = true
 · rw [if_pos c]
   obtain ⟨s,h1,h2,h3⟩:=h.slot hi hr
   rw [h1]
   show slAt (k.slots.set s _) n = _
   rw [slAt_set _ _ _ _ h2,if_neg (fun e=>hn (by rw [<- e];exact h3))]
 · rw [if_neg c];rfl
theorem move_kept {k : Kn} {j : Nat} {p : Int} {i : Nat} {d : ByteArray} {dy : Bool} (m : Movable k j p i d dy) (hd : d = peekK k j p) : Kept k (moveTo k j p i d dy):=by
 have h:=m.right
 have hsp:=h.sp m.hj
 have hR:=move_right m
 obtain ⟨f1,f2,f3,f4,f5,f6,f7⟩:=move_frames k j p i d dy m
 have hat : ∀ n,spAt (moveTo k j p i d dy).spaces n = if j = n then withE (spAt k.spaces j) (putE (spAt k.spaces j).ents ⟨p,1,i⟩) else spAt k.spaces n:=fun n=>by rw [f5,spAt_set _ _ _ _ m.hj]
 have hnp : (moveTo k j p i d dy).spaces.length = k.spaces.length:=by rw [f5,List.length_set]
 refine ⟨f3,f1,f2,hnp,fun n hn=>?_,fun n hn=>?_,fun n hn q=>?_⟩
 · rw [hat];by_cases c : j = n
   · rw [if_pos c,<- c];rfl
   · rw [if_neg c]
 · rw [hat];by_cases c : j = n
   · rw [if_pos c,<- c];rfl
   · rw [if_neg c]
 · have hare : (spAt (moveTo k j p i d dy).spaces n).areas = (spAt k.spaces n).areas:=by
    rw [hat];by_cases c : j = n
    · rw [if_pos c,<- c];rfl
    · rw [if_neg c]
   have hent : entOf (spAt (moveTo k j p i d dy).spaces n).ents q = if j = n /\ q = p then some ⟨p,1,i⟩ else entOf (spAt k.spaces n).ents q:=by
    rw [hat]
    by_cases c : j = n
    · rw [if_pos c]
      show entOf (putE (spAt k.spaces j).ents ⟨p,1,i⟩) q = _
      rw [put_ent hsp.rise]
      by_cases c2 : q = p
      · rw [if_pos c2,if_pos ⟨c,c2⟩]
      · rw [if_neg c2,if_neg (fun g=>c2 g.2),c]
    · rw [if_neg c,if_neg (fun g=>c g.1)]
   by_cases c : j = n /\ q = p
   · obtain ⟨rfl,rfl⟩:=c
     rw [<- hd]
     unfold peekK
     rw [hent,if_pos ⟨rfl,rfl⟩]
     show (frAt (moveTo k j q i d dy).frames (i : Int).toNat).data = d
     rw [f6,Int.toNat_natCast,if_pos rfl]
   · rw [if_neg c] at hent
     have hn' : n < (moveTo k j p i d dy).spaces.length:=by rw [hnp];exact hn
     have hspn:=h.sp hn
     unfold peekK
     rw [hent,hare,f3]
     cases g : entOf (spAt k.spaces n).ents q with
     | none=>rfl
     | some e =>
      have he:=(ent_iff hspn.rise).1 g
      have hb:=loc_bd h hn he.1
      have he':=(ent_iff (hR.sp hn').rise).1 (hent.trans g)
      have hnm:=name_of hn' he'.1
      have hnm0:=name_of hn he.1
      show (if e.kind = 1 then _ else _) = if e.kind = 1 then _ else _
      by_cases c1 : e.kind = 1
      · rw [if_pos c1,if_pos c1,f6]
        have hb:=hb.resolve_right (fun x=>by omega)
        have hni : e.loc.toNat ≠ i:=fun e1=>by
         rw [c1,show e.loc = (i : Int) by omega,m.free] at hnm0;cases hnm0
        rw [if_neg hni]
        have hF:=hR.frm e.loc.toNat (by rw [f1];exact hb.2.2)
        rw [f6,if_neg hni] at hF
        have hne : names (moveTo k j p i d dy).spaces 1 (e.loc.toNat : Int) ≠ []:=fun e1=>by
         rw [c1,<- hb.2.1,e1] at hnm;cases hnm
        cases g2 : entOf (spAt k.spaces j).ents p with
        | none=>rfl
        | some e2 =>
         rw [g2] at hF
         have hF : FrR _ _ (if e2.kind = 1 /\ e2.loc = (e.loc.toNat : Int) then lessF (frAt k.frames e.loc.toNat) else frAt k.frames e.loc.toNat):=hF
         show (if e2.kind = 1 /\ e2.loc = (e.loc.toNat : Int) then lessF (frAt k.frames e.loc.toNat) else frAt k.frames e.loc.toNat).data = _
         by_cases c3 : e2.kind = 1 /\ e2.loc = (e.loc.toNat : Int)
         · rw [if_pos c3] at hF ⊢
           unfold lessF at hF ⊢
           by_cases c4 : (frAt k.frames e.loc.toNat).refs - 1 = 0
           · rw [if_pos c4] at hF
             exact absurd (hF.nil rfl) hne
           · rw [if_neg c4]
         · rw [if_neg c3]
      · rw [if_neg c1,if_neg c1,f7]
        have hb:=hb.resolve_left (fun x=>c1 x.1)
        have hF:=hR.slt e.loc.toNat (by rw [f2];exact hb.2.2)
        rw [f7] at hF
        have hne : names (moveTo k j p i d dy).spaces 2 (e.loc.toNat : Int) ≠ []:=fun e1=>by
         rw [hb.1,<- hb.2.1,e1] at hnm;cases hnm
        cases g2 : entOf (spAt k.spaces j).ents p with
        | none=>rfl
        | some e2 =>
         rw [g2] at hF
         have hF : SlR _ (if e2.kind = 2 /\ e2.loc = (e.loc.toNat : Int) then lessS (slAt k.slots e.loc.toNat) else slAt k.slots e.loc.toNat):=hF
         show (if e2.kind = 2 /\ e2.loc = (e.loc.toNat : Int) then lessS (slAt k.slots e.loc.toNat) else slAt k.slots e.loc.toNat).data = _
         by_cases c3 : e2.kind = 2 /\ e2.loc = (e.loc.toNat : Int)
         · rw [if_pos c3] at hF ⊢
           unfold lessS at hF ⊢
           by_cases c4 : (slAt k.slots e.loc.toNat).refs - 1 = 0
           · rw [if_pos c4] at hF
             exact absurd (hF.nil rfl) hne
           · rw [if_neg c4]
         · rw [if_neg c3]
def nextH (k : Kn) : Int:=(k.hand + 1) % (k.frames.length : Int)
def passB (held : List Int) (k : Kn) : Bool:=held.contains k.hand || (frAt k.frames k.hand.toNat).seen
def unseen (f : Fr) : Fr:={ f with seen:=false }
def stepH (held : List Int) (k : Kn) : Kn:={ k with hand:=nextH k,frames:=if held.contains k.hand then k.frames else k.frames.set k.hand.toNat (unseen (frAt k.frames k.hand.toNat)) }
def iterH (held : List Int) : Nat -> Kn -> Kn
 | 0,k=>k
 | n + 1,k=>stepH held (iterH held n k)
def clockN (held : List Int) : Nat -> Kn -> Kn
 | 0,k=>k
 | n + 1,k=>if passB held k then clockN held n (stepH held k) else k
def Full (k : Kn) : Prop:=∀ i,i < k.frames.length -> (frAt k.frames i).refs ≠ 0
theorem step_nf (held : List Int) (k : Kn) : (stepH held k).frames.length = k.frames.length:=by
 unfold stepH
 by_cases c : held.contains k.hand = true
 · rw [if_pos c]
 · rw [if_neg c];exact List.length_set
theorem step_at (held : List Int) {k : Kn} (hh : 0 <= k.hand /\ k.hand < k.frames.length) (n : Nat) : frAt (stepH held k).frames n = if (n : Int) = k.hand /\ held.contains k.hand = false then unseen (frAt k.frames n) else frAt k.frames n:=by
 unfold stepH
 by_cases c : held.contains k.hand = true
 · rw [if_pos c,if_neg (by rw [c];simp)]
 · show frAt (if _ then _ else _) n = _
   rw [if_neg c,frAt_set _ _ _ _ (by omega)]
   by_cases d : k.hand.toNat = n
   · rw [if_pos d,if_pos ⟨by omega,by simpa using c⟩,d]
   · rw [if_neg d,if_neg (by omega)]
theorem next_bd {k : Kn} (h3 : 3 <= k.frames.length) : 0 <= nextH k /\ nextH k < k.frames.length:=⟨Int.emod_nonneg _ (by omega),Int.emod_lt_of_pos _ (by omega)⟩
theorem step_right (held : List Int) {k : Kn} (h : RightK k) (hf : Full k) : RightK (stepH held k) /\ Full (stepH held k) /\ Kept k (stepH held k) /\ (stepH held k).spaces = k.spaces /\ (stepH held k).slots = k.slots:=by
 have h3:=h.c.1.1
 have hn:=next_bd h3
 have hat:=step_at held h.hand
 refine ⟨?_,fun i hi=>?_,⟨rfl,step_nf held k,rfl,rfl,fun _ _=>rfl,fun _ _=>rfl,fun j hj p=>?_⟩,rfl,rfl⟩
 · unfold stepH
   by_cases c : held.contains k.hand = true
   · rw [if_pos c];exact h.turn hn
   · rw [if_neg c]
     have hi : k.hand.toNat < k.frames.length:=by have:=h.hand;omega
     have:=(h.frm _ hi)
     have g:=h.frame (this.seen false (this.ne (hf _ hi)))
     exact RightK.turn g (x:=nextH k) (by show 0 <= nextH k /\ nextH k < ((k.frames.set _ _).length : Int);rw [List.length_set];exact hn)
 · rw [step_nf] at hi
   rw [hat]
   have:=hf i hi
   by_cases c : (i : Int) = k.hand /\ held.contains k.hand = false
   · rw [if_pos c];exact this
   · rw [if_neg c];exact this
 · unfold peekK
   show (match entOf (spAt k.spaces j).ents p with
    | some e=>if e.kind = 1 then (frAt (stepH held k).frames e.loc.toNat).data else (slAt k.slots e.loc.toNat).data
    | none=>_) = _
   have hdat : ∀ n,(frAt (stepH held k).frames n).data = (frAt k.frames n).data:=fun n=>by
    rw [hat]
    by_cases c : (n : Int) = k.hand /\ held.contains k.hand = false
    · rw [if_pos c];rfl
    · rw [if_neg c]
   cases entOf (spAt k.spaces j).ents p with
   | none=>rfl
   | some e =>
    show (if e.kind = 1 then (frAt (stepH held k).frames e.loc.toNat).data else _) = _
    rw [hdat]
structure Ticked (held : List Int) (k : Kn) (n : Nat) : Prop where
 right : RightK (iterH held n k)
 full : Full (iterH held n k)
 kept : Kept k (iterH held n k)
 spaces : (iterH held n k).spaces = k.spaces
 slots : (iterH held n k).slots = k.slots
 hand : (iterH held n k).hand = (k.hand + n) % (k.frames.length : Int)
 heldF : ∀ i : Nat,(i : Int) ∈ held -> frAt (iterH held n k).frames i = frAt k.frames i
 past : ∀ m : Nat,m < n -> ∀ i : Nat,(i : Int) = (k.hand + m) % (k.frames.length : Int) -> (i : Int) ∈ held ∨ (frAt (iterH held n k).frames i).seen = false
theorem ticked (held : List Int) {k : Kn} (h : RightK k) (hf : Full k) : ∀ n,Ticked held k n
 | 0=>⟨h,hf,Kept.refl k,rfl,rfl,by have:=h.hand;show k.hand = (k.hand + ((0 : Nat) : Int)) % _;rw [Int.emod_eq_of_lt] <;> omega,fun _ _=>rfl,fun m hm=>by omega⟩
 | n + 1=>by
  have t:=ticked held h hf n
  obtain ⟨s1,s2,s3,s4,s5⟩:=step_right held t.right t.full
  have hat:=step_at held t.right.hand
  have hnf:=t.kept.nf
  have hN:=h.c.1.1
  refine ⟨s1,s2,t.kept.trans s3,s4.trans t.spaces,s5.trans t.slots,?_,fun i hi=>?_,fun m hm i hi=>?_⟩
  · show nextH (iterH held n k) = _
    unfold nextH
    rw [hnf,t.hand,Int.emod_add_emod]
    congr 1
    omega
  · show frAt (stepH held (iterH held n k)).frames i = _
    rw [hat,if_neg,t.heldF i hi]
    intro g
    have : held.contains (iterH held n k).hand = true:=by rw [List.contains_iff_mem,<- g.1];exact hi
    rw [this] at g
    cases g.2
  · show _ ∨ (frAt (stepH held (iterH held n k)).frames i).seen = false
    rw [hat]
    by_cases c : (i : Int) = (iterH held n k).hand /\ held.contains (iterH held n k).hand = false
    · rw [if_pos c];exact .inr rfl
    · rw [if_neg c]
      by_cases d : m = n
      · subst d
        have e1 : (i : Int) = (iterH held m k).hand:=hi.trans t.hand.symm
        have : held.contains (iterH held m k).hand = true:=by
         cases q : held.contains (iterH held m k).hand with
         | true=>rfl
         | false=>exact absurd ⟨e1,q⟩ c
        rw [List.contains_iff_mem,<- e1] at this
        exact .inl this
      · exact t.past m (by omega) i hi
theorem third {held : List Int} (hl : held.length <= 2) (a b c : Int) (h1 : a ≠ b) (h2 : a ≠ c) (h3 : b ≠ c) : a ∉ held ∨ b ∉ held ∨ c ∉ held:=by
 by_cases ha : a ∈ held
 · by_cases hb : b ∈ held
   · right;right
     intro hc
     have l1:=List.length_erase_of_mem ha
     have hb' : b ∈ held.erase a:=(List.mem_erase_of_ne (fun e=>h1 e.symm)).2 hb
     have hc' : c ∈ held.erase a:=(List.mem_erase_of_ne (fun e=>h2 e.symm)).2 hc
     have l2:=List.length_erase_of_mem hb'
     have hc'' : c ∈ (held.erase a).erase b:=(List.mem_erase_of_ne (fun e=>h3 e.symm)).2 hc'
     have:=List.length_pos_of_mem hc''
     have:=List.length_pos_of_mem ha
     omega
   · exact .inr (.inl hb)
 · exact .inl ha
theorem mod_cases {x n : Int} (h0 : 0 <= x) (h1 : x < 2 * n) (hn : 0 < n) : (x < n /\ x % n = x) ∨ (n <= x /\ x % n = x - n):=by
 by_cases c : x < n
 · exact .inl ⟨c,Int.emod_eq_of_lt h0 c⟩
 · right
   refine ⟨by omega,?_⟩
   rw [<- Int.sub_emod_right x n]
   exact Int.emod_eq_of_lt (by omega) (by omega)
theorem clock_ends (held : List Int) (hl : held.length <= 2) {k : Kn} (h : RightK k) (hf : Full k) : ∃ T,T <= 66 /\ (∀ m,m < T -> passB held (iterH held m k) = true) /\ passB held (iterH held T k) = false:=by
 have hN:=h.c.1
 have hex : ∃ T,T <= 66 /\ passB held (iterH held T k) = false:=by
  have hh:=h.hand
  obtain ⟨N,hNe⟩ : ∃ N : Int,N = (k.frames.length : Int):=⟨_,rfl⟩
  have hit : ∀ x : Nat,x < 3 -> (k.hand + x) % N ∉ held -> ∃ T,T <= 66 /\ passB held (iterH held T k) = false:=fun x hx hno=>by
   have t:=ticked held h hf (k.frames.length + x)
   have hm : 0 <= (k.hand + x) % N /\ (k.hand + x) % N < N:=⟨Int.emod_nonneg _ (by omega),Int.emod_lt_of_pos _ (by omega)⟩
   have hhand : (iterH held (k.frames.length + x) k).hand = (k.hand + x) % N:=by
    rw [t.hand,<- hNe,<- Int.add_emod_right (k.hand + x) N,hNe]
    congr 1
    omega
   refine ⟨k.frames.length + x,by omega,?_⟩
   unfold passB
   rw [hhand]
   have hi : (((k.hand + x) % N).toNat : Int) = (k.hand + x) % N:=by omega
   have:=t.past x (by omega) ((k.hand + x) % N).toNat (by rw [hi,<- hNe])
   rw [hi] at this
   have c1 : held.contains ((k.hand + x) % N) = false:=by
    cases q : held.contains ((k.hand + x) % N) with
    | false=>rfl
    | true=>exact absurd (List.contains_iff_mem.1 q) hno
   rw [c1,this.resolve_left hno]
   rfl
  have d0:=mod_cases (x:=k.hand + (0 : Nat)) (n:=N) (by omega) (by omega) (by omega)
  have d1:=mod_cases (x:=k.hand + (1 : Nat)) (n:=N) (by omega) (by omega) (by omega)
  have d2:=mod_cases (x:=k.hand + (2 : Nat)) (n:=N) (by omega) (by omega) (by omega)
  rcases third hl ((k.hand + (0 : Nat)) % N) ((k.hand + (1 : Nat)) % N) ((k.hand + (2 : Nat)) % N) (by omega) (by omega) (by omega) with g | g | g
  · exact hit 0 (by omega) g
  · exact hit 1 (by omega) g
  · exact hit 2 (by omega) g
 obtain ⟨T,hT,hp⟩:=hex
 clear hN
 induction T using Nat.strongRecOn with
 | _ T ih =>
  by_cases c : ∃ m,m < T /\ passB held (iterH held m k) = false
  · obtain ⟨m,hm,hq⟩:=c
    exact ih m hm (by omega) hq
  · exact ⟨T,hT,fun m hm=>by
     cases q : passB held (iterH held m k) with
     | true=>rfl
     | false=>exact absurd ⟨m,hm,q⟩ c,hp⟩
theorem clock_iter (held : List Int) : ∀ (T n : Nat) (k : Kn),T <= n -> (∀ m,m < T -> passB held (iterH held m k) = true) -> passB held (iterH held T k) = false -> clockN held (n + 1) k = iterH held T k:=fun T=>by
 have shift : ∀ m k,iterH held m (stepH held k) = iterH held (m + 1) k:=fun m k=>by
  induction m with
  | zero=>rfl
  | succ m ih=>show stepH held _ = stepH held _;rw [ih]
 induction T with
 | zero =>
  intro n k _ _ h
  show (if passB held k then _ else k) = k
  rw [if_neg (by rw [show passB held k = false from h];simp)]
 | succ T ih =>
  intro n k hn h1 h2
  obtain ⟨n,rfl⟩ : ∃ m,n = m + 1:=⟨n - 1,by omega⟩
  show (if passB held k then clockN held (n + 1) (stepH held k) else k) = _
  rw [if_pos (show passB held k = true from h1 0 (by omega)),ih n (stepH held k) (by omega) (fun m hm=>by rw [shift];exact h1 (m + 1) (by omega)) (by rw [shift];exact h2),shift]
def getK (k : Kn) (held : List Int) : Nat × Kn:=match freeF k.frames with
 | some i=>(i,k)
 | none=>((clockN held 70 k).hand.toNat,{ asideK (clockN held 70 k) (clockN held 70 k).hand.toNat with hand:=nextH (clockN held 70 k) })
structure Got (k : Kn) (held : List Int) (g : Nat × Kn) : Prop where
 right : RightK g.2
 kept : Kept k g.2
 lt : g.1 < k.frames.length
 free : names g.2.spaces 1 g.1 = []
 heldF : ∀ i : Nat,(i : Int) ∈ held -> (frAt k.frames i).refs ≠ 0 -> i ≠ g.1 /\ frAt g.2.frames i = frAt k.frames i
 ent : ∀ j,j < k.spaces.length -> ∀ p,(∀ e,entOf (spAt k.spaces j).ents p = some e -> ¬ (e.kind = 1 /\ e.loc = (g.1 : Int))) -> entOf (spAt g.2.spaces j).ents p = entOf (spAt k.spaces j).ents p
 slot : ∀ n : Nat,names k.spaces 2 n ≠ [] -> slAt g.2.slots n = slAt k.slots n
theorem get_got {k : Kn} (h : RightK k) {held : List Int} (hl : held.length <= 2) : Got k held (getK k held):=by
 unfold getK
 cases hf : freeF k.frames with
 | some i =>
  obtain ⟨h1,h2,_⟩:=List.findIdx?_eq_some_iff_getElem.1 hf
  have hr : (frAt k.frames i).refs = 0:=by
   unfold frAt
   rw [List.getD_eq_getElem?_getD,List.getElem?_eq_getElem h1]
   exact of_decide_eq_true h2
  exact ⟨h,Kept.refl k,h1,(h.frm i h1).nil hr,fun n _ hn=>⟨fun e=>hn (by rw [e];exact hr),rfl⟩,fun j _ p _=>rfl,fun _ _=>rfl⟩
 | none =>
  have hF : Full k:=fun i hi hr=>by
   have:=List.findIdx?_eq_none_iff.1 hf (frAt k.frames i) (getD_mem hi)
   simp [hr] at this
  obtain ⟨T,hT,t1,t2⟩:=clock_ends held hl h hF
  have hc : clockN held 70 k = iterH held T k:=clock_iter held T 69 k (by omega) t1 t2
  rw [hc]
  have t:=ticked held h hF T
  obtain ⟨k1,hk1⟩ : ∃ k1,k1 = iterH held T k:=⟨_,rfl⟩
  have tr:=t.right;have tf:=t.full;have tk:=t.kept;have ts:=t.spaces;have tl:=t.slots;have th:=t.heldF
  rw [<- hk1] at t2 tr tf tk ts tl th ⊢
  obtain ⟨i,hi⟩ : ∃ i,i = k1.hand.toNat:=⟨_,rfl⟩
  have hh:=tr.hand
  have hi1 : i < k1.frames.length:=by omega
  have hr:=tf i hi1
  have a1:=tr.aside hi1 hr
  have a2:=aside_kept tr hi1 hr
  have h3:=tr.c.1.1
  have a3 : (asideK k1 i).frames.length = k1.frames.length:=a2.nf
  rw [<- hi]
  have hb : RightK { asideK k1 i with hand:=nextH k1 }:=a1.turn (by rw [a3];exact next_bd h3)
  have hkk : Kept (asideK k1 i) { asideK k1 i with hand:=nextH k1 }:=⟨rfl,rfl,rfl,rfl,fun _ _=>rfl,fun _ _=>rfl,fun _ _ _=>rfl⟩
  have hnf:=tk.nf
  refine ⟨hb,tk.trans (a2.trans hkk),by show i < _;omega,aside_free k1 i,fun n hn _=>?_,fun j hj p he=>?_,fun n hn=>?_⟩
  · have hne : n ≠ i:=fun e=>by
     unfold passB at t2
     have : held.contains k1.hand = true:=List.contains_iff_mem.2 (by rw [show k1.hand = (n : Int) by omega];exact hn)
     rw [this] at t2
     cases t2
    refine ⟨hne,?_⟩
    show frAt (asideK k1 i).frames n = _
    rw [(aside_frames k1 i).1,frAt_set _ _ _ _ hi1,if_neg (fun e=>hne e.symm),th n hn]
  · show entOf (spAt (asideK k1 i).spaces j).ents p = _
    rw [aside_ent tr i (by rw [ts];exact hj) p (by rw [ts];exact he),ts]
  · show slAt (asideK k1 i).slots n = _
    rw [aside_slot tr hi1 hr n (by rw [ts];exact hn),tl]
end KM
end Go.Proofs.YtpgifpeohlllfaaGreat
