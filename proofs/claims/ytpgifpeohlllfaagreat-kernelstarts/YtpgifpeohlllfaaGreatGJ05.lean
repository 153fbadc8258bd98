import Derived.Test.YtpgifpeohlllfaaGreatGJ04
set_option maxHeartbeats 20000000
set_option linter.unusedVariables false
set_option maxRecDepth 100000
set_option linter.unusedSimpArgs false
namespace Go.Proofs.YtpgifpeohlllfaaGreat
namespace KM
open Go.RowKit
def isIn (i : Int) (e : En) : Bool:=decide (e.kind = 1 /\ e.loc = i)
def outE (i : Int) (es : List En) : List En:=es.filter fun e=>!isIn i e
def swapE (i s : Int) (es : List En) : List En:=es.map fun e=>if isIn i e then ⟨e.page,2,s⟩ else e
def freeF (l : List Fr) : Option Nat:=l.findIdx? fun f=>decide (f.refs = 0)
def freeS (l : List Sl) : Option Nat:=l.findIdx? fun f=>decide (f.refs = 0)
def outS (i : Int) (s : Sp) : Sp:={ s with ents:=outE i s.ents }
def swapS (i s : Int) (sp : Sp) : Sp:={ sp with ents:=swapE i s sp.ents }
def dropA (k : Kn) (i : Nat) : Kn:={ k with frames:=k.frames.set i fr0,spaces:=k.spaces.map (outS i) }
def swapA (k : Kn) (i s : Nat) : Kn:={ k with frames:=k.frames.set i fr0,slots:=k.slots.set s ⟨(frAt k.frames i).data,(frAt k.frames i).refs⟩,spaces:=k.spaces.map (swapS i s) }
def asideK (k : Kn) (i : Nat) : Kn:=if (frAt k.frames i).dirty then (match freeS k.slots with
 | some s=>swapA k i s
 | none=>dropA k i) else dropA k i
def peekK (k : Kn) (j : Nat) (p : Int) : ByteArray:=match entOf (spAt k.spaces j).ents p with
 | some e=>if e.kind = 1 then (frAt k.frames e.loc.toNat).data else (slAt k.slots e.loc.toNat).data
 | none=>fillK k.sheets p (AM.findN (spAt k.spaces j).areas p).1.zero
theorem getD_map {α β : Type} (f : α -> β) (d : α) (d' : β) : ∀ (l : List α) (i : Nat),i < l.length -> (l.map f).getD i d' = f (l.getD i d)
 | a :: r,0,_=>rfl
 | a :: r,i + 1,h=>getD_map f d d' r i (Nat.lt_of_succ_lt_succ h)
theorem isIn_iff {i : Int} {e : En} : isIn i e = true ↔ e.kind = 1 /\ e.loc = i:=by simp [isIn]
theorem isIn_no {i : Int} {e : En} : isIn i e = false ↔ ¬ (e.kind = 1 /\ e.loc = i):=by simp [isIn]
theorem out_mem {i : Int} {es : List En} {e : En} : e ∈ outE i es ↔ e ∈ es /\ ¬ (e.kind = 1 /\ e.loc = i):=by
 unfold outE
 rw [List.mem_filter,Bool.not_eq_true',isIn_no]
theorem out_rise {i : Int} {es : List En} (h : Rise es) : Rise (outE i es):=List.Pairwise.sublist (List.filter_sublist.map _) h
theorem swap_pages (i s : Int) (es : List En) : (swapE i s es).map (·.page) = es.map (·.page):=by
 unfold swapE
 rw [List.map_map]
 refine List.map_congr_left fun e _=>?_
 show (if isIn i e then (⟨e.page,2,s⟩ : En) else e).page = e.page
 cases isIn i e <;> rfl
theorem swap_rise {i s : Int} {es : List En} (h : Rise es) : Rise (swapE i s es):=by unfold Rise;rw [swap_pages];exact h
theorem swap_mem {i s : Int} {es : List En} {x : En} : x ∈ swapE i s es ↔ (x ∈ es /\ ¬ (x.kind = 1 /\ x.loc = i)) ∨ ∃ e ∈ es,(e.kind = 1 /\ e.loc = i) /\ x = ⟨e.page,2,s⟩:=by
 unfold swapE
 rw [List.mem_map]
 constructor
 · rintro ⟨e,he,rfl⟩
   by_cases c : e.kind = 1 /\ e.loc = i
   · rw [if_pos (isIn_iff.2 c)];exact .inr ⟨e,he,c,rfl⟩
   · rw [if_neg (by rw [isIn_no.2 c];simp)];exact .inl ⟨he,c⟩
 · rintro (⟨h,c⟩ | ⟨e,he,c,rfl⟩)
   · exact ⟨x,h,by rw [if_neg (by rw [isIn_no.2 c];simp)]⟩
   · exact ⟨e,he,by rw [if_pos (isIn_iff.2 c)]⟩
theorem filter_same {α : Type} (p q : α -> Bool) : ∀ (l : List α),(∀ x ∈ l,p x = q x) -> l.filter p = l.filter q
 | [],_=>rfl
 | a :: r,h=>by
  rw [List.filter_cons,List.filter_cons,h a List.mem_cons_self,filter_same p q r (fun x hx=>h x (List.mem_cons_of_mem _ hx))]
theorem nm_out (ar : List AM.Ar) (i kd a : Int) (es : List En) (h : ¬ (kd = 1 /\ a = i)) : nm ar kd a (outE i es) = nm ar kd a es:=by
 unfold nm outE
 rw [List.filter_filter]
 congr 1
 refine filter_same _ _ _ fun e _=>?_
 by_cases c : e.kind = kd /\ e.loc = a
 · have : isIn i e = false:=isIn_no.2 (by rw [c.1,c.2];exact h)
   rw [this];simp
 · simp [c]
theorem nm_out_nil (ar : List AM.Ar) (i : Int) (es : List En) : nm ar 1 i (outE i es) = []:=nm_nil_of fun e he=>(out_mem.1 he).2
theorem nm_swap (ar : List AM.Ar) (i s kd a : Int) (h : ¬ (kd = 1 /\ a = i)) (h2 : ¬ (kd = 2 /\ a = s)) : ∀ es : List En,nm ar kd a (swapE i s es) = nm ar kd a es
 | []=>rfl
 | e :: r=>by
  have e1 : swapE i s (e :: r) = (if isIn i e then ⟨e.page,2,s⟩ else e) :: swapE i s r:=rfl
  rw [e1,nm_cons,nm_cons ar kd a e r,nm_swap ar i s kd a h h2 r]
  congr 1
  by_cases c : e.kind = 1 /\ e.loc = i
  · rw [if_pos (isIn_iff.2 c),nm_no ar (fun g=>h2 ⟨g.1.symm,g.2.symm⟩),nm_no ar (fun g=>h (by rw [<- g.1,<- g.2];exact c))]
  · rw [if_neg (by rw [isIn_no.2 c];simp)]
theorem nm_swap_nil (ar : List AM.Ar) (i s : Int) (es : List En) : nm ar 1 i (swapE i s es) = []:=nm_nil_of fun e he g=>by
 rcases swap_mem.1 he with h | ⟨x,_,_,rfl⟩
 · exact h.2 g
 · have:=g.1;simp at this
theorem nm_swap_to (ar : List AM.Ar) (i s : Int) : ∀ es : List En,(∀ e ∈ es,¬ (e.kind = 2 /\ e.loc = s)) -> nm ar 2 s (swapE i s es) = nm ar 1 i es
 | [],_=>rfl
 | e :: r,h=>by
  have e1 : swapE i s (e :: r) = (if isIn i e then ⟨e.page,2,s⟩ else e) :: swapE i s r:=rfl
  rw [e1,nm_cons,nm_cons ar 1 i e r,nm_swap_to ar i s r (fun x hx=>h x (List.mem_cons_of_mem _ hx))]
  congr 1
  by_cases c : e.kind = 1 /\ e.loc = i
  · rw [if_pos (isIn_iff.2 c),nm_yes ar (e:=⟨e.page,2,s⟩) (kd:=2) (a:=s) ⟨rfl,rfl⟩,nm_yes ar c]
  · rw [if_neg (by rw [isIn_no.2 c];simp),nm_no ar (h e List.mem_cons_self),nm_no ar c]
theorem room_map (f : Sp -> Sp) (hf : ∀ s,(f s).areas = s.areas) (l : List Sp) : room (l.map f) = room l:=by
 unfold room
 rw [List.length_map]
 refine roomTo_congr _ _ _ fun i hi=>?_
 unfold spAt
 rw [getD_map f sp0 sp0 l i hi,hf]
theorem RightK.dropA {k : Kn} (h : RightK k) {i : Nat} (hi : i < k.frames.length) : RightK (dropA k i):=by
 have hl : (k.frames.set i fr0).length = k.frames.length:=List.length_set
 have hm : (k.spaces.map (outS i)).length = k.spaces.length:=List.length_map ..
 refine ⟨?_,h.rise,by show 0 <= k.hand /\ k.hand < ((k.frames.set i fr0).length : Int);rw [hl];exact h.hand,?_,?_,?_,?_⟩
 · have:=h.counts
   unfold KM.counts at this ⊢
   simp only [KM.dropA,hl,hm]
   exact this
 · show ∀ s ∈ k.spaces.map (outS i),SpR k.sheets (k.frames.set i fr0).length k.slots.length s
   rw [hl]
   intro s hs
   obtain ⟨s,hsq,rfl⟩:=List.mem_map.1 hs
   have g:=h.each s hsq
   exact ⟨fun d=>⟨(g.dead d).1,by show outE i s.ents = [];rw [(g.dead d).2];rfl⟩,g.areas,out_rise g.rise,fun e he=>g.ent e (out_mem.1 he).1,g.sheets⟩
 · show KM.room (k.spaces.map (outS i)) <= _
   rw [room_map (outS i) (fun _=>rfl)];exact h.room
 · intro n hn
   have hn' : n < k.frames.length:=by rw [<- hl];exact hn
   show FrR k.sheets (names (k.spaces.map (outS i)) 1 n) ((k.frames.set i fr0).getD n fr0)
   by_cases c : i = n
   · subst c
     rw [getD_set_self _ _ _ _ hn',names_none (outS i) 1 i _ (fun s _=>nm_out_nil s.areas i s.ents)]
     exact FrR.none _
   · rw [getD_set_ne _ _ _ _ _ c,names_map (outS i) 1 n 1 n _ (fun s _=>nm_out s.areas i 1 n s.ents (by omega))]
     exact h.frm n hn'
 · intro n hn
   show SlR (names (k.spaces.map (outS i)) 2 n) (slAt k.slots n)
   rw [names_map (outS i) 2 n 2 n _ (fun s _=>nm_out s.areas i 2 n s.ents (by omega))]
   exact h.slt n hn
theorem RightK.swapA {k : Kn} (h : RightK k) {i s : Nat} (hi : i < k.frames.length) (hs : s < k.slots.length) (hf : names k.spaces 2 s = []) : RightK (swapA k i s):=by
 have hl : (k.frames.set i fr0).length = k.frames.length:=List.length_set
 have hl2 : (k.slots.set s ⟨(frAt k.frames i).data,(frAt k.frames i).refs⟩).length = k.slots.length:=List.length_set
 have hm : (k.spaces.map (swapS i s)).length = k.spaces.length:=List.length_map ..
 have hno : ∀ sp ∈ k.spaces,∀ e ∈ sp.ents,¬ (e.kind = 2 /\ e.loc = (s : Int)):=fun sp hsp e he g=>by
  have : (e.page,(AM.findN sp.areas e.page).1.zero) ∈ names k.spaces 2 s:=mem_names.2 ⟨sp,hsp,e,he,g.1,g.2,rfl⟩
  rw [hf] at this
  cases this
 refine ⟨?_,h.rise,by show 0 <= k.hand /\ k.hand < ((k.frames.set i fr0).length : Int);rw [hl];exact h.hand,?_,?_,?_,?_⟩
 · have:=h.counts
   unfold KM.counts at this ⊢
   simp only [KM.swapA,hl,hl2,hm]
   exact this
 · show ∀ sp ∈ k.spaces.map (swapS i s),SpR k.sheets (k.frames.set i fr0).length (k.slots.set s ⟨(frAt k.frames i).data,(frAt k.frames i).refs⟩).length sp
   rw [hl,hl2]
   intro sp hsp
   obtain ⟨sp,hsq,rfl⟩:=List.mem_map.1 hsp
   have g:=h.each sp hsq
   refine ⟨fun d=>⟨(g.dead d).1,by show swapE i s sp.ents = [];rw [(g.dead d).2];rfl⟩,g.areas,swap_rise g.rise,fun e he=>?_,g.sheets⟩
   rcases swap_mem.1 he with x | ⟨x,hx,hc,rfl⟩
   · exact g.ent e x.1
   · exact ⟨(g.ent x hx).1,.inr ⟨rfl,by show (0 : Int) <= (s : Int);omega,by show (s : Int) < _;omega⟩⟩
 · show KM.room (k.spaces.map (swapS i s)) <= ((k.slots.set s ⟨(frAt k.frames i).data,(frAt k.frames i).refs⟩).length : Int)
   rw [hl2,room_map (swapS i s) (fun _=>rfl)];exact h.room
 · intro n hn
   have hn' : n < k.frames.length:=by rw [<- hl];exact hn
   show FrR k.sheets (names (k.spaces.map (swapS i s)) 1 n) ((k.frames.set i fr0).getD n fr0)
   by_cases c : i = n
   · subst c
     rw [getD_set_self _ _ _ _ hn',names_none (swapS i s) 1 i _ (fun sp _=>nm_swap_nil sp.areas i s sp.ents)]
     exact FrR.none _
   · rw [getD_set_ne _ _ _ _ _ c,names_map (swapS i s) 1 n 1 n _ (fun sp _=>nm_swap sp.areas i s 1 n (by omega) (by omega) sp.ents)]
     exact h.frm n hn'
 · intro n hn
   have hn' : n < k.slots.length:=by rw [<- hl2];exact hn
   show SlR (names (k.spaces.map (swapS i s)) 2 n) ((k.slots.set s ⟨(frAt k.frames i).data,(frAt k.frames i).refs⟩).getD n sl0)
   by_cases c : s = n
   · subst c
     rw [getD_set_self _ _ _ _ hn',names_map (swapS i s) 2 s 1 i _ (fun sp hsp=>nm_swap_to sp.areas i s sp.ents (hno sp hsp))]
     have g:=h.frm i hi
     exact ⟨g.refs,fun e=>by rw [g.zero e];rfl,g.one,g.size⟩
   · rw [getD_set_ne _ _ _ _ _ c,names_map (swapS i s) 2 n 2 n _ (fun sp _=>nm_swap sp.areas i s 2 n (by omega) (by omega) sp.ents)]
     exact h.slt n hn'
theorem pigeon : ∀ (n : Nat) (L : List Int),(∀ i : Nat,i < n -> (i : Int) ∈ L) -> n <= L.length
 | 0,_,_=>Nat.zero_le _
 | n + 1,L,h=>by
  have hn:=h n (Nat.lt_succ_self n)
  have:=pigeon n (L.erase (n : Int)) (fun i hi=>(List.mem_erase_of_ne (by omega)).2 (h i (by omega)))
  rw [List.length_erase_of_mem hn] at this
  have : 0 < L.length:=List.length_pos_of_mem hn
  omega
def allE (ss : List Sp) : List En:=ss.flatMap (·.ents)
theorem ents_pages {hs : List LM.Sh} {nf ns : Nat} {s : Sp} (g : SpR hs nf ns s) : (s.ents.length : Int) <= AM.totalN s.areas:=by
 rw [FM.total_pages g.areas]
 have:=FM.sorted_le (FM.pagesOf s.areas) (s.ents.map (·.page)) g.rise (FM.asc_of g.areas).sorted (fun x hx=>by
  obtain ⟨e,he,rfl⟩:=List.mem_map.1 hx
  exact (FM.found_mem g.areas _).1 (g.ent e he).1)
 rw [List.length_map] at this
 omega
theorem roomTo_append (l r : List Sp) : ∀ k,k <= l.length -> roomTo (l ++ r) k = roomTo l k:=fun k hk=>roomTo_congr _ _ _ fun i hi=>by
 unfold spAt
 rw [List.getD_eq_getElem?_getD,List.getD_eq_getElem?_getD,List.getElem?_append_left (by omega)]
theorem room_snoc (l : List Sp) (s : Sp) : room (l ++ [s]) = room l + AM.totalN s.areas:=by
 unfold room
 rw [List.length_append,List.length_singleton,roomTo,roomTo_append l [s] l.length (Nat.le_refl _)]
 unfold spAt
 rw [List.getD_eq_getElem?_getD,List.getElem?_append_right (Nat.le_refl _),Nat.sub_self]
 rfl
theorem all_room : ∀ (m : Nat) (l : List Sp),l.length = m -> (∀ s ∈ l,(s.ents.length : Int) <= AM.totalN s.areas) -> ((allE l).length : Int) <= room l
 | 0,l,h,_=>by
  have : l = []:=List.eq_nil_of_length_eq_zero h
  subst this
  exact Int.le_refl _
 | m + 1,l,h,hs=>by
  have hne : l ≠ []:=fun e=>by rw [e] at h;cases h
  obtain ⟨l',s,rfl⟩ : ∃ l' s,l = l' ++ [s]:=⟨l.dropLast,l.getLast hne,(List.dropLast_concat_getLast hne).symm⟩
  rw [room_snoc]
  have:=all_room m l' (by rw [List.length_append,List.length_singleton] at h;omega) (fun x hx=>hs x (List.mem_append.2 (.inl hx)))
  have h2:=hs s (by simp)
  unfold allE at *
  rw [List.flatMap_append,List.length_append]
  simp only [List.flatMap_cons,List.flatMap_nil,List.append_nil]
  omega
theorem RightK.slot {k : Kn} (h : RightK k) {i : Nat} (hi : i < k.frames.length) (hr : (frAt k.frames i).refs ≠ 0) : ∃ s,freeS k.slots = some s /\ s < k.slots.length /\ names k.spaces 2 s = []:=by
 cases hf : freeS k.slots with
 | some s =>
  obtain ⟨h1,h2,_⟩:=List.findIdx?_eq_some_iff_getElem.1 hf
  refine ⟨s,rfl,h1,(h.slt s h1).nil ?_⟩
  unfold slAt
  rw [List.getD_eq_getElem?_getD,List.getElem?_eq_getElem h1]
  exact of_decide_eq_true h2
 | none =>
  exfalso
  have hno:=List.findIdx?_eq_none_iff.1 hf
  have hall : ∀ n : Nat,n < k.slots.length -> ∃ e ∈ allE k.spaces,e.kind = 2 /\ e.loc = (n : Int):=fun n hn=>by
   have h1:=hno (slAt k.slots n) (getD_mem hn)
   have h2:=(h.slt n hn).refs
   have h3 : names k.spaces 2 n ≠ []:=fun e=>by
    rw [e] at h2
    simp [h2] at h1
   obtain ⟨x,hx⟩:=List.exists_mem_of_ne_nil _ h3
   obtain ⟨s,hs,e,he,g1,g2,_⟩:=mem_names.1 hx
   exact ⟨e,List.mem_flatMap.2 ⟨s,hs,he⟩,g1,g2⟩
  have hp:=pigeon k.slots.length (((allE k.spaces).filter fun e : En=>decide (e.kind = 2)).map (·.loc)) (fun n hn=>by
   obtain ⟨e,he,g1,g2⟩:=hall n hn
   exact List.mem_map.2 ⟨e,List.mem_filter.2 ⟨he,by simpa using g1⟩,g2⟩)
  rw [List.length_map] at hp
  have hroom:=all_room _ k.spaces rfl (fun s hs=>ents_pages (h.each s hs))
  have hr2:=h.room
  obtain ⟨x,hx⟩:=List.exists_mem_of_ne_nil _ ((h.frm i hi).ne hr)
  obtain ⟨s,hs,e,he,g1,g2,_⟩:=mem_names.1 hx
  have hea : e ∈ allE k.spaces:=List.mem_flatMap.2 ⟨s,hs,he⟩
  have hlt : ((allE k.spaces).filter fun e : En=>decide (e.kind = 2)).length < (allE k.spaces).length:=by
   rcases Nat.lt_or_eq_of_le (List.length_filter_le (fun e : En=>decide (e.kind = 2)) (allE k.spaces)) with g | g
   · exact g
   · have:=(List.length_filter_eq_length_iff.1 g) e hea
     simp [g1] at this
  omega
theorem RightK.aside {k : Kn} (h : RightK k) {i : Nat} (hi : i < k.frames.length) (hr : (frAt k.frames i).refs ≠ 0) : RightK (asideK k i):=by
 unfold asideK
 by_cases c : (frAt k.frames i).dirty = true
 · rw [if_pos c]
   obtain ⟨s,h1,h2,h3⟩:=h.slot hi hr
   rw [h1]
   exact h.swapA hi h2 h3
 · rw [if_neg c]
   exact h.dropA hi
def withE (s : Sp) (es : List En) : Sp:=⟨s.live,s.areas,es⟩
def leaveK (k : Kn) (e : En) : Kn:=if e.kind = 1 then { k with frames:=k.frames.set e.loc.toNat (lessF (frAt k.frames e.loc.toNat)) } else { k with slots:=k.slots.set e.loc.toNat (lessS (slAt k.slots e.loc.toNat)) }
def enterK (k : Kn) (j : Nat) (e : En) : Kn:={ k with spaces:=k.spaces.set j (withE (spAt k.spaces j) (putE (spAt k.spaces j).ents e)) }
def layK (k : Kn) (i : Nat) (d : ByteArray) (dy : Bool) : Kn:={ k with frames:=k.frames.set i ⟨d,1,dy,false⟩ }
def moveTo (k : Kn) (j : Nat) (p : Int) (i : Nat) (d : ByteArray) (dy : Bool) : Kn:=match entOf (spAt k.spaces j).ents p with
 | none=>enterK (layK k i d dy) j ⟨p,1,i⟩
 | some e=>leaveK (enterK (layK k i d dy) j ⟨p,1,i⟩) e
theorem names_move {ss : List Sp} {j : Nat} (hj : j < ss.length) (e : En) (hr : Rise (spAt ss j).ents) (kd a : Int) : ∃ X Y,names ss kd a = X ++ (nm (spAt ss j).areas kd a (entOf (spAt ss j).ents e.page).toList ++ Y) /\ names (ss.set j (withE (spAt ss j) (putE (spAt ss j).ents e))) kd a = X ++ (nm (spAt ss j).areas kd a [e] ++ Y):=by
 obtain ⟨pre,post,h1,h2,_,_⟩:=put_split (e:=e) hr
 obtain ⟨u,v,g1,g2⟩:=names_set ss j (withE (spAt ss j) (putE (spAt ss j).ents e)) kd a hj
 refine ⟨u ++ nm (spAt ss j).areas kd a pre,nm (spAt ss j).areas kd a post ++ v,?_,?_⟩
 · rw [g1,nameIn_nm]
   conv=>lhs;rw [h1]
   rw [nm_append,nm_append]
   simp only [List.append_assoc]
 · rw [g2,nameIn_nm]
   show u ++ (nm (spAt ss j).areas kd a (putE (spAt ss j).ents e) ++ v) = _
   rw [h2,nm_append,nm_cons]
   simp only [List.append_assoc]
theorem put_ent {es : List En} (h : Rise es) (e : En) (p : Int) : entOf (putE es e) p = if p = e.page then some e else entOf es p:=by
 have hp:=put_rise (e:=e) h
 obtain ⟨pre,post,h1,h2,h3,h4⟩:=put_split (e:=e) h
 by_cases c : p = e.page
 · rw [if_pos c,ent_iff hp,h2]
   exact ⟨by simp,c.symm⟩
 · rw [if_neg c]
   cases g : entOf es p with
   | none =>
    rw [ent_none] at g ⊢
    intro x hx
    rw [h2] at hx
    rcases List.mem_append.1 hx with y | y
    · exact g x (by rw [h1];exact List.mem_append.2 (.inl y))
    · rcases List.mem_cons.1 y with rfl | y
      · exact fun e=>c e.symm
      · exact g x (by rw [h1];exact List.mem_append.2 (.inr (List.mem_append.2 (.inr y))))
   | some x =>
    obtain ⟨m1,m2⟩:=(ent_iff h).1 g
    rw [ent_iff hp,h2]
    refine ⟨?_,m2⟩
    rw [h1] at m1
    rcases List.mem_append.1 m1 with y | y
    · exact List.mem_append.2 (.inl y)
    · rcases List.mem_append.1 y with z | z
      · have : entOf es e.page = some x:=by
         cases q : entOf es e.page with
         | none=>rw [q] at z;cases z
         | some y=>rw [q] at z;simp at z;rw [z]
        exact absurd (m2.symm.trans ((ent_iff h).1 this).2) c
      · exact List.mem_append.2 (.inr (List.mem_cons_of_mem _ z))
theorem spAt_set (l : List Sp) (j n : Nat) (s : Sp) (hj : j < l.length) : spAt (l.set j s) n = if j = n then s else spAt l n:=by
 unfold spAt
 by_cases c : j = n
 · subst c;rw [if_pos rfl,getD_set_self _ _ _ _ hj]
 · rw [if_neg c,getD_set_ne _ _ _ _ _ c]
theorem frAt_set (l : List Fr) (j n : Nat) (s : Fr) (hj : j < l.length) : frAt (l.set j s) n = if j = n then s else frAt l n:=by
 unfold frAt
 by_cases c : j = n
 · subst c;rw [if_pos rfl,getD_set_self _ _ _ _ hj]
 · rw [if_neg c,getD_set_ne _ _ _ _ _ c]
theorem slAt_set (l : List Sl) (j n : Nat) (s : Sl) (hj : j < l.length) : slAt (l.set j s) n = if j = n then s else slAt l n:=by
 unfold slAt
 by_cases c : j = n
 · subst c;rw [if_pos rfl,getD_set_self _ _ _ _ hj]
 · rw [if_neg c,getD_set_ne _ _ _ _ _ c]
theorem room_set (l : List Sp) (j : Nat) (s : Sp) (hj : j < l.length) (ha : s.areas = (spAt l j).areas) : room (l.set j s) = room l:=by
 unfold room
 rw [List.length_set]
 refine roomTo_congr _ _ _ fun i _=>?_
 rw [spAt_set l j i s hj]
 by_cases c : j = i
 · rw [if_pos c,ha,c]
 · rw [if_neg c]
structure Movable (k : Kn) (j : Nat) (p : Int) (i : Nat) (d : ByteArray) (dy : Bool) : Prop where
 right : RightK k
 hj : j < k.spaces.length
 hp : (AM.findN (spAt k.spaces j).areas p).2 = true
 hi : i < k.frames.length
 free : names k.spaces 1 i = []
 size : d.size = 16
 fill : dy = false -> d = fillK k.sheets p (AM.findN (spAt k.spaces j).areas p).1.zero
theorem loc_bd {k : Kn} (h : RightK k) {j : Nat} (hj : j < k.spaces.length) {e : En} (he : e ∈ (spAt k.spaces j).ents) : (e.kind = 1 /\ (e.loc.toNat : Int) = e.loc /\ e.loc.toNat < k.frames.length) ∨ (e.kind = 2 /\ (e.loc.toNat : Int) = e.loc /\ e.loc.toNat < k.slots.length):=by
 rcases ((h.sp hj).ent e he).2 with g | g
 · exact .inl ⟨g.1,by omega,by omega⟩
 · exact .inr ⟨g.1,by omega,by omega⟩
theorem move_frames (k : Kn) (j : Nat) (p : Int) (i : Nat) (d : ByteArray) (dy : Bool) (m : Movable k j p i d dy) : (moveTo k j p i d dy).frames.length = k.frames.length /\ (moveTo k j p i d dy).slots.length = k.slots.length /\ (moveTo k j p i d dy).sheets = k.sheets /\ (moveTo k j p i d dy).hand = k.hand /\ (moveTo k j p i d dy).spaces = k.spaces.set j (withE (spAt k.spaces j) (putE (spAt k.spaces j).ents ⟨p,1,i⟩)) /\
  (∀ n,frAt (moveTo k j p i d dy).frames n = if n = i then ⟨d,1,dy,false⟩ else match entOf (spAt k.spaces j).ents p with
   | some e=>if e.kind = 1 /\ e.loc = (n : Int) then lessF (frAt k.frames n) else frAt k.frames n
   | none=>frAt k.frames n) /\
  (∀ n,slAt (moveTo k j p i d dy).slots n = match entOf (spAt k.spaces j).ents p with
   | some e=>if e.kind = 2 /\ e.loc = (n : Int) then lessS (slAt k.slots n) else slAt k.slots n
   | none=>slAt k.slots n):=by
 have hr:=(m.right.sp m.hj).rise
 unfold moveTo
 cases g : entOf (spAt k.spaces j).ents p with
 | none =>
  refine ⟨List.length_set,rfl,rfl,rfl,rfl,fun n=>?_,fun n=>rfl⟩
  show frAt (k.frames.set i _) n = _
  rw [frAt_set _ _ _ _ m.hi]
  by_cases c : n = i
  · rw [if_pos c,if_pos c.symm]
  · rw [if_neg c,if_neg (fun e=>c e.symm)]
 | some e =>
  have he:=(ent_iff hr).1 g
  have hne : e.kind = 1 -> e.loc.toNat ≠ i:=fun h1 h2=>by
   have:=name_of m.hj he.1
   rcases loc_bd m.right m.hj he.1 with b | b
   · rw [h1,<- b.2.1,h2,m.free] at this;cases this
   · omega
  dsimp only
  unfold leaveK
  rcases loc_bd m.right m.hj he.1 with b | b
  · rw [if_pos b.1]
    have hne:=hne b.1
    refine ⟨by show ((k.frames.set i _).set _ _).length = _;rw [List.length_set,List.length_set],rfl,rfl,rfl,rfl,fun n=>?_,fun n=>?_⟩
    · show frAt ((k.frames.set i _).set _ (lessF (frAt (k.frames.set i _) _))) n = _
      rw [frAt_set _ _ _ _ (by rw [List.length_set];exact b.2.2),frAt_set _ _ n _ m.hi,frAt_set _ _ e.loc.toNat _ m.hi,if_neg (show ¬ i = e.loc.toNat from fun e=>hne e.symm)]
      by_cases c : n = i
      · rw [if_neg (by omega),if_pos c.symm,if_pos c]
      · rw [if_neg c,if_neg (show ¬ i = n from fun e=>c e.symm)]
        by_cases c2 : e.loc.toNat = n
        · rw [if_pos c2]
          show _ = if e.kind = 1 /\ e.loc = (n : Int) then _ else _
          rw [if_pos ⟨b.1,by omega⟩,c2]
        · rw [if_neg c2]
          show _ = if e.kind = 1 /\ e.loc = (n : Int) then _ else _
          rw [if_neg (by omega)]
    · show slAt k.slots n = if e.kind = 2 /\ e.loc = (n : Int) then _ else _
      rw [if_neg (by omega)]
  · rw [if_neg (by omega)]
    refine ⟨List.length_set,List.length_set,rfl,rfl,rfl,fun n=>?_,fun n=>?_⟩
    · show frAt (k.frames.set i _) n = if n = i then _ else if e.kind = 1 /\ e.loc = (n : Int) then _ else _
      rw [frAt_set _ _ _ _ m.hi,if_neg (show ¬ (e.kind = 1 /\ e.loc = (n : Int)) by omega)]
      by_cases c : n = i
      · rw [if_pos c,if_pos c.symm]
      · rw [if_neg c,if_neg (fun e=>c e.symm)]
    · show slAt (k.slots.set _ (lessS (slAt k.slots _))) n = if e.kind = 2 /\ e.loc = (n : Int) then _ else _
      rw [slAt_set _ _ _ _ b.2.2]
      by_cases c2 : e.loc.toNat = n
      · rw [if_pos c2,if_pos ⟨b.1,by omega⟩,c2]
      · rw [if_neg c2,if_neg (by omega)]
theorem move_right {k : Kn} {j : Nat} {p : Int} {i : Nat} {d : ByteArray} {dy : Bool} (m : Movable k j p i d dy) : RightK (moveTo k j p i d dy):=by
 have h:=m.right
 have hsp:=h.sp m.hj
 obtain ⟨f1,f2,f3,f4,f5,f6,f7⟩:=move_frames k j p i d dy m
 have hlen : (moveTo k j p i d dy).spaces.length = k.spaces.length:=by rw [f5,List.length_set]
 refine ⟨?_,by rw [f3];exact h.rise,by rw [f4,f1];exact h.hand,?_,?_,?_,?_⟩
 · have:=h.counts
   unfold KM.counts at this ⊢
   rw [f1,f2,f3,hlen]
   exact this
 · rw [f1,f2,f3,f5]
   intro s hs
   rcases List.mem_or_eq_of_mem_set hs with g | rfl
   · exact h.each s g
   · refine ⟨fun dd=>?_,hsp.areas,put_rise hsp.rise,fun e he=>?_,hsp.sheets⟩
     · have:=m.hp
       rw [(hsp.dead dd).1] at this
       cases this
     · obtain ⟨pre,post,h1,h2,_,_⟩:=put_split (e:=(⟨p,1,i⟩ : En)) hsp.rise
       rw [show (withE (spAt k.spaces j) (putE (spAt k.spaces j).ents ⟨p,1,i⟩)).ents = pre ++ ⟨p,1,i⟩ :: post from h2] at he
       have hin : ∀ x,x ∈ pre ∨ x ∈ post -> x ∈ (spAt k.spaces j).ents:=fun x hx=>by
        rw [h1]
        rcases hx with g | g
        · exact List.mem_append.2 (.inl g)
        · exact List.mem_append.2 (.inr (List.mem_append.2 (.inr g)))
       rcases List.mem_append.1 he with g | g
       · exact hsp.ent e (hin e (.inl g))
       · rcases List.mem_cons.1 g with rfl | g
         · exact ⟨m.hp,.inl ⟨rfl,by show (0 : Int) <= (i : Int);omega,by show (i : Int) < _;have:=m.hi;omega⟩⟩
         · exact hsp.ent e (hin e (.inr g))
 · rw [f2,f5,room_set _ _ (withE (spAt k.spaces j) (putE (spAt k.spaces j).ents ⟨p,1,i⟩)) m.hj rfl];exact h.room
 · intro n hn
   rw [f1] at hn
   rw [f3,f5,f6]
   obtain ⟨X,Y,h1,h2⟩:=names_move m.hj ⟨p,1,i⟩ hsp.rise 1 n
   rw [h2]
   by_cases c : n = i
   · subst c
     rw [if_pos rfl,nm_yes _ (e:=(⟨p,1,n⟩ : En)) ⟨rfl,rfl⟩]
     rw [m.free] at h1
     have hX : X = []:=(List.append_eq_nil_iff.1 h1.symm).1
     have hY : Y = []:=(List.append_eq_nil_iff.1 (List.append_eq_nil_iff.1 h1.symm).2).2
     subst hX hY
     refine ⟨rfl,fun e=>(by cases e),fun x hx y hy=>?_,fun _=>m.size,fun e x hx=>?_⟩
     · simp at hx hy;rw [hx,hy]
     · simp at hx;rw [hx];exact m.fill e
   · rw [if_neg c,nm_no _ (e:=(⟨p,1,i⟩ : En)) (fun g=>c (by have:=g.2;simp at this;omega))]
     have hf:=h.frm n hn
     rw [h1] at hf
     cases g : entOf (spAt k.spaces j).ents p with
     | none =>
      rw [g] at hf
      exact hf
     | some e =>
      rw [g] at hf
      show FrR k.sheets (X ++ ([] ++ Y)) (if e.kind = 1 /\ e.loc = (n : Int) then lessF (frAt k.frames n) else frAt k.frames n)
      rw [List.nil_append]
      by_cases c2 : e.kind = 1 /\ e.loc = (n : Int)
      · rw [if_pos c2]
        rw [show (some e).toList = [e] from rfl,nm_yes _ c2] at hf
        exact hf.less
      · rw [if_neg c2]
        rw [show (some e).toList = [e] from rfl,nm_no _ c2] at hf
        exact hf
 · intro n hn
   rw [f2] at hn
   rw [f5,f7]
   obtain ⟨X,Y,h1,h2⟩:=names_move m.hj ⟨p,1,i⟩ hsp.rise 2 n
   rw [h2,nm_no _ (e:=(⟨p,1,i⟩ : En)) (fun g=>by have:=g.1;simp at this)]
   have hf:=h.slt n hn
   rw [h1] at hf
   cases g : entOf (spAt k.spaces j).ents p with
   | none =>
    rw [g] at hf
    exact hf
   | some e =>
    rw [g] at hf
    show SlR (X ++ ([] ++ Y)) (if e.kind = 2 /\ e.loc = (n : Int) then lessS (slAt k.slots n) else slAt k.slots n)
    rw [List.nil_append]
    by_cases c2 : e.kind = 2 /\ e.loc = (n : Int)
    · rw [if_pos c2]
      rw [show (some e).toList = [e] from rfl,nm_yes _ c2] at hf
      exact hf.less
    · rw [if_neg c2]
      rw [show (some e).toList = [e] from rfl,nm_no _ c2] at hf
      exact hf
theorem out_ent {i : Int} {es : List En} (h : Rise es) (p : Int) : entOf (outE i es) p = (entOf es p).filter fun e=>!isIn i e:=by
 cases g : entOf es p with
 | none=>rw [Option.filter_none,ent_none];rw [ent_none] at g;exact fun e he=>g e (out_mem.1 he).1
 | some e =>
  have he:=(ent_iff h).1 g
  by_cases c : e.kind = 1 /\ e.loc = i
  · rw [Option.filter_some,isIn_iff.2 c,if_neg (by simp),ent_none]
    intro x hx hp
    have hx:=out_mem.1 hx
    have : some x = some e:=((ent_iff h).2 ⟨hx.1,hp⟩).symm.trans g
    injection this with this
    exact hx.2 (by rw [this];exact c)
  · rw [Option.filter_some,isIn_no.2 c,if_pos (by simp),ent_iff (out_rise h)]
    exact ⟨out_mem.2 ⟨he.1,c⟩,he.2⟩
theorem swap_ent {i s : Int} {es : List En} (h : Rise es) (p : Int) : entOf (swapE i s es) p = (entOf es p).map fun e=>if isIn i e then ⟨e.page,2,s⟩ else e:=by
 cases g : entOf es p with
 | none =>
  rw [Option.map_none,ent_none];rw [ent_none] at g
  intro x hx
  rcases swap_mem.1 hx with y | ⟨y,hy,_,rfl⟩
  · exact g x y.1
  · exact g y hy
 | some e =>
  have he:=(ent_iff h).1 g
  rw [Option.map_some,ent_iff (swap_rise h)]
  by_cases c : e.kind = 1 /\ e.loc = i
  · rw [isIn_iff.2 c,if_pos rfl]
    exact ⟨swap_mem.2 (.inr ⟨e,he.1,c,rfl⟩),he.2⟩
  · rw [isIn_no.2 c,if_neg (by simp)]
    exact ⟨swap_mem.2 (.inl ⟨he.1,c⟩),he.2⟩
theorem spAt_map (f : Sp -> Sp) (l : List Sp) (j : Nat) (hj : j < l.length) : spAt (l.map f) j = f (spAt l j):=getD_map f sp0 sp0 l j hj
structure Kept (k k' : Kn) : Prop where
 sheets : k'.sheets = k.sheets
 nf : k'.frames.length = k.frames.length
 ns : k'.slots.length = k.slots.length
 np : k'.spaces.length = k.spaces.length
 live : ∀ j,j < k.spaces.length -> (spAt k'.spaces j).live = (spAt k.spaces j).live
 areas : ∀ j,j < k.spaces.length -> (spAt k'.spaces j).areas = (spAt k.spaces j).areas
 peek : ∀ j,j < k.spaces.length -> ∀ p,peekK k' j p = peekK k j p
theorem Kept.refl (k : Kn) : Kept k k:=⟨rfl,rfl,rfl,rfl,fun _ _=>rfl,fun _ _=>rfl,fun _ _ _=>rfl⟩
theorem Kept.trans {a b c : Kn} (h : Kept a b) (g : Kept b c) : Kept a c :=
 ⟨g.sheets.trans h.sheets,g.nf.trans h.nf,g.ns.trans h.ns,g.np.trans h.np,fun j hj=>(g.live j (by rw [h.np];exact hj)).trans (h.live j hj),fun j hj=>(g.areas j (by rw [h.np];exact hj)).trans (h.areas j hj),fun j hj p=>(g.peek j (by rw [h.np];exact hj) p).trans (h.peek j hj p)⟩
theorem drop_kept {k : Kn} (h : RightK k) {i : Nat} (hi : i < k.frames.length) (hd : (frAt k.frames i).dirty = false) : Kept k (dropA k i):=by
 refine ⟨rfl,List.length_set,rfl,List.length_map ..,fun j hj=>?_,fun j hj=>?_,fun j hj p=>?_⟩
 · show (spAt (k.spaces.map (outS i)) j).live = _;rw [spAt_map _ _ _ hj];rfl
 · show (spAt (k.spaces.map (outS i)) j).areas = _;rw [spAt_map _ _ _ hj];rfl
 · have hsp:=h.sp hj
   unfold peekK
   show (match entOf (spAt (k.spaces.map (outS i)) j).ents p with
    | some e=>if e.kind = 1 then (frAt (k.frames.set i fr0) e.loc.toNat).data else (slAt k.slots e.loc.toNat).data
    | none=>fillK k.sheets p (AM.findN (spAt (k.spaces.map (outS i)) j).areas p).1.zero) = _
   rw [spAt_map _ _ _ hj]
   show (match entOf (outE i (spAt k.spaces j).ents) p with
    | some e=>if e.kind = 1 then (frAt (k.frames.set i fr0) e.loc.toNat).data else (slAt k.slots e.loc.toNat).data
    | none=>fillK k.sheets p (AM.findN (spAt k.spaces j).areas p).1.zero) = _
   rw [out_ent hsp.rise]
   cases g : entOf (spAt k.spaces j).ents p with
   | none=>rfl
   | some e =>
    have he:=(ent_iff hsp.rise).1 g
    have hb:=loc_bd h hj he.1
    by_cases c : e.kind = 1 /\ e.loc = (i : Int)
    · rw [Option.filter_some,isIn_iff.2 c,if_neg (by simp)]
      show _ = if e.kind = 1 then _ else _
      rw [if_pos c.1,show e.loc.toNat = i by omega]
      have:=name_of hj he.1
      rw [c.1,c.2] at this
      have:=(h.frm i hi).fill hd _ this
      rw [this,he.2]
    · rw [Option.filter_some,isIn_no.2 c,if_pos (by simp)]
      show (if e.kind = 1 then _ else _) = if e.kind = 1 then _ else _
      by_cases c1 : e.kind = 1
      · rw [if_pos c1,if_pos c1,frAt_set _ _ _ _ hi,if_neg (fun e1=>c ⟨c1,by omega⟩)]
      · rw [if_neg c1,if_neg c1]
theorem swap_kept {k : Kn} (h : RightK k) {i s : Nat} (hi : i < k.frames.length) (hs : s < k.slots.length) (hf : names k.spaces 2 s = []) : Kept k (swapA k i s):=by
 refine ⟨rfl,List.length_set,List.length_set,List.length_map ..,fun j hj=>?_,fun j hj=>?_,fun j hj p=>?_⟩
 · show (spAt (k.spaces.map (swapS i s)) j).live = _;rw [spAt_map _ _ _ hj];rfl
 · show (spAt (k.spaces.map (swapS i s)) j).areas = _;rw [spAt_map _ _ _ hj];rfl
 · have hsp:=h.sp hj
   unfold peekK
   show (match entOf (spAt (k.spaces.map (swapS i s)) j).ents p with
    | some e=>if e.kind = 1 then (frAt (k.frames.set i fr0) e.loc.toNat).data else (slAt (k.slots.set s ⟨(frAt k.frames i).data,(frAt k.frames i).refs⟩) e.loc.toNat).data
    | none=>fillK k.sheets p (AM.findN (spAt (k.spaces.map (swapS i s)) j).areas p).1.zero) = _
   rw [spAt_map _ _ _ hj]
   show (match entOf (swapE i s (spAt k.spaces j).ents) p with
    | some e=>if e.kind = 1 then (frAt (k.frames.set i fr0) e.loc.toNat).data else (slAt (k.slots.set s ⟨(frAt k.frames i).data,(frAt k.frames i).refs⟩) e.loc.toNat).data
    | none=>fillK k.sheets p (AM.findN (spAt k.spaces j).areas p).1.zero) = _
   rw [swap_ent hsp.rise]
   cases g : entOf (spAt k.spaces j).ents p with
   | none=>rfl
   | some e =>
    have he:=(ent_iff hsp.rise).1 g
    have hb:=loc_bd h hj he.1
    by_cases c : e.kind = 1 /\ e.loc = (i : Int)
    · rw [Option.map_some,isIn_iff.2 c,if_pos rfl]
      show (if (2 : Int) = 1 then _ else (slAt (k.slots.set s _) (s : Int).toNat).data) = if e.kind = 1 then _ else _
      rw [if_neg (by omega),if_pos c.1,Int.toNat_natCast,slAt_set _ _ _ _ hs,if_pos rfl,show e.loc.toNat = i by omega]
    · rw [Option.map_some,isIn_no.2 c,if_neg (by simp)]
      show (if e.kind = 1 then _ else _) = if e.kind = 1 then _ else _
      by_cases c1 : e.kind = 1
      · rw [if_pos c1,if_pos c1,frAt_set _ _ _ _ hi,if_neg (fun e1=>c ⟨c1,by omega⟩)]
      · rw [if_neg c1,if_neg c1,slAt_set _ _ _ _ hs,if_neg (fun e1=>by
         have:=name_of hj he.1
         rw [show e.kind = 2 by omega,show e.loc = (s : Int) by omega,hf] at this
         cases this)]
theorem aside_kept {k : Kn} (h : RightK k) {i : Nat} (hi : i < k.frames.length) (hr : (frAt k.frames i).refs ≠ 0) : Kept k (asideK k i):=by
 unfold asideK
 by_cases c : (frAt k.frames i).dirty = true
 · rw [if_pos c]
   obtain ⟨s,h1,h2,h3⟩:=h.slot hi hr
   rw [h1]
   exact swap_kept h hi h2 h3
 · rw [if_neg c]
   exact drop_kept h hi (by simpa using c)
theorem aside_free (k : Kn) (i : Nat) : names (asideK k i).spaces 1 i = []:=by
 unfold asideK
 by_cases c : (frAt k.frames i).dirty = true
 · rw [if_pos c]
   cases freeS k.slots with
   | none=>exact names_none (outS i) 1 i _ (fun s _=>nm_out_nil s.areas i s.ents)
   | some s=>exact names_none (swapS i s) 1 i _ (fun sp _=>nm_swap_nil sp.areas i s sp.ents)
 · rw [if_neg c]
   exact names_none (outS i) 1 i _ (fun s _=>nm_out_nil s.areas i s.ents)
theorem aside_frames (k : Kn) (i : Nat) : (asideK k i).frames = k.frames.set i fr0 /\ (asideK k i).hand = k.hand:=by
 unfold asideK
 by_cases c : (frAt k.frames i).dirty = true
 · rw [if_pos c]
   cases freeS k.slots with
   | none=>exact ⟨rfl,rfl⟩
   | some s=>exact ⟨rfl,rfl⟩
 · rw [if_neg c];exact ⟨rfl,rfl⟩
theorem aside_ent {k : Kn} (h : RightK k) (i : Nat) {j : Nat} (hj : j < k.spaces.length) (p : Int) (hn : ∀ e,entOf (spAt k.spaces j).ents p = some e -> ¬ (e.kind = 1 /\ e.loc = (i : Int))) : entOf (spAt (asideK k i).spaces j).ents p = entOf (spAt k.spaces j).ents p:=by
 have hr:=(h.sp hj).rise
 have hD : entOf (spAt (k.spaces.map (outS i)) j).ents p = entOf (spAt k.spaces j).ents p:=by
  rw [spAt_map _ _ _ hj]
  show entOf (outE i (spAt k.spaces j).ents) p = _
  rw [out_ent hr]
  cases g : entOf (spAt k.spaces j).ents p with
  | none=>rfl
  | some e=>rw [Option.filter_some,isIn_no.2 (hn e g),if_pos (by simp)]
 unfold asideK
 by_cases c : (frAt k.frames i).dirty = true
 · rw [if_pos c]
   cases freeS k.slots with
   | none=>exact hD
   | some s =>
    show entOf (spAt (k.spaces.map (swapS i s)) j).ents p = _
    rw [spAt_map _ _ _ hj]
    show entOf (swapE i s (spAt k.spaces j).ents) p = _
    rw [swap_ent hr]
    cases g : entOf (spAt k.spaces j).ents p with
    | none=>rfl
    | some e=>rw [Option.map_some,isIn_no.2 (hn e g),if_neg (by simp)]
 · rw [if_neg c];exact hD
theorem aside_slot {k : Kn} (h : RightK k) {i : Nat} (hi : i < k.frames.length) (hr : (frAt k.frames i).refs ≠ 0) (n : Nat) (hn : names k.spaces 2 n ≠ []) : slAt (asideK k i).slots n = slAt k.slots n:=by
 unfold asideK
 by_cases c : (frAt k.frames i).dirty = true
 · rw [if_pos c]
   obtain ⟨s,h1,h2,h3⟩:=h.slot hi hr
   rw [h1]
   show slAt (k.slots.set s _) n = _
   rw [slAt_set _ _ _ _ h2,if_neg (fun e=>hn (by rw [<- e];exact h3))]
 · rw [if_neg c];rfl
theorem move_kept {k : Kn} {j : Nat} {p : Int} {i : Nat} {d : ByteArray} {dy : Bool} (m : Movable k j p i d dy) (hd : d = peekK k j p) : Kept k (moveTo k j p i d dy):=by
 have h:=m.right
 have hsp:=h.sp m.hj
 have hR:=move_right m
 obtain ⟨f1,f2,f3,f4,f5,f6,f7⟩:=move_frames k j p i d dy m
 have hat : ∀ n,spAt (moveTo k j p i d dy).spaces n = if j = n then withE (spAt k.spaces j) (putE (spAt k.spaces j).ents ⟨p,1,i⟩) else spAt k.spaces n:=fun n=>by rw [f5,spAt_set _ _ _ _ m.hj]
 have hnp : (moveTo k j p i d dy).spaces.length = k.spaces.length:=by rw [f5,List.length_set]
 refine ⟨f3,f1,f2,hnp,fun n hn=>?_,fun n hn=>?_,fun n hn q=>?_⟩
 · rw [hat];by_cases c : j = n
   · rw [if_pos c,<- c];rfl
   · rw [if_neg c]
 · rw [hat];by_cases c : j = n
   · rw [if_pos c,<- c];rfl
   · rw [if_neg c]
 · have hare : (spAt (moveTo k j p i d dy).spaces n).areas = (spAt k.spaces n).areas:=by
    rw [hat];by_cases c : j = n
    · rw [if_pos c,<- c];rfl
    · rw [if_neg c]
   have hent : entOf (spAt (moveTo k j p i d dy).spaces n).ents q = if j = n /\ q = p then some ⟨p,1,i⟩ else entOf (spAt k.spaces n).ents q:=by
    rw [hat]
    by_cases c : j = n
    · rw [if_pos c]
      show entOf (putE (spAt k.spaces j).ents ⟨p,1,i⟩) q = _
      rw [put_ent hsp.rise]
      by_cases c2 : q = p
      · rw [if_pos c2,if_pos ⟨c,c2⟩]
      · rw [if_neg c2,if_neg (fun g=>c2 g.2),c]
    · rw [if_neg c,if_neg (fun g=>c g.1)]
   by_cases c : j = n /\ q = p
   · obtain ⟨rfl,rfl⟩:=c
     rw [<- hd]
     unfold peekK
     rw [hent,if_pos ⟨rfl,rfl⟩]
     show (frAt (moveTo k j q i d dy).frames (i : Int).toNat).data = d
     rw [f6,Int.toNat_natCast,if_pos rfl]
   · rw [if_neg c] at hent
     have hn' : n < (moveTo k j p i d dy).spaces.length:=by rw [hnp];exact hn
     have hspn:=h.sp hn
     unfold peekK
     rw [hent,hare,f3]
     cases g : entOf (spAt k.spaces n).ents q with
     | none=>rfl
     | some e =>
      have he:=(ent_iff hspn.rise).1 g
      have hb:=loc_bd h hn he.1
      have he':=(ent_iff (hR.sp hn').rise).1 (hent.trans g)
      have hnm:=name_of hn' he'.1
      have hnm0:=name_of hn he.1
      show (if e.kind = 1 then _ else _) = if e.kind = 1 then _ else _
      by_cases c1 : e.kind = 1
      · rw [if_pos c1,if_pos c1,f6]
        have hb:=hb.resolve_right (fun x=>by omega)
        have hni : e.loc.toNat ≠ i:=fun e1=>by
         rw [c1,show e.loc = (i : Int) by omega,m.free] at hnm0;cases hnm0
        rw [if_neg hni]
        have hF:=hR.frm e.loc.toNat (by rw [f1];exact hb.2.2)
        rw [f6,if_neg hni] at hF
        have hne : names (moveTo k j p i d dy).spaces 1 (e.loc.toNat : Int) ≠ []:=fun e1=>by
         rw [c1,<- hb.2.1,e1] at hnm;cases hnm
        cases g2 : entOf (spAt k.spaces j).ents p with
        | none=>rfl
        | some e2 =>
         rw [g2] at hF
         have hF : FrR _ _ (if e2.kind = 1 /\ e2.loc = (e.loc.toNat : Int) then lessF (frAt k.frames e.loc.toNat) else frAt k.frames e.loc.toNat):=hF
         show (if e2.kind = 1 /\ e2.loc = (e.loc.toNat : Int) then lessF (frAt k.frames e.loc.toNat) else frAt k.frames e.loc.toNat).data = _
         by_cases c3 : e2.kind = 1 /\ e2.loc = (e.loc.toNat : Int)
         · rw [if_pos c3] at hF ⊢
           unfold lessF at hF ⊢
           by_cases c4 : (frAt k.frames e.loc.toNat).refs - 1 = 0
           · rw [if_pos c4] at hF
             exact absurd (hF.nil rfl) hne
           · rw [if_neg c4]
         · rw [if_neg c3]
      · rw [if_neg c1,if_neg c1,f7]
        have hb:=hb.resolve_left (fun x=>c1 x.1)
        have hF:=hR.slt e.loc.toNat (by rw [f2];exact hb.2.2)
        rw [f7] at hF
        have hne : names (moveTo k j p i d dy).spaces 2 (e.loc.toNat : Int) ≠ []:=fun e1=>by
         rw [hb.1,<- hb.2.1,e1] at hnm;cases hnm
        cases g2 : entOf (spAt k.spaces j).ents p with
        | none=>rfl
        | some e2 =>
         rw [g2] at hF
         have hF : SlR _ (if e2.kind = 2 /\ e2.loc = (e.loc.toNat : Int) then lessS (slAt k.slots e.loc.toNat) else slAt k.slots e.loc.toNat):=hF
         show (if e2.kind = 2 /\ e2.loc = (e.loc.toNat : Int) then lessS (slAt k.slots e.loc.toNat) else slAt k.slots e.loc.toNat).data = _
         by_cases c3 : e2.kind = 2 /\ e2.loc = (e.loc.toNat : Int)
         · rw [if_pos c3] at hF ⊢
           unfold lessS at hF ⊢
           by_cases c4 : (slAt k.slots e.loc.toNat).refs - 1 = 0
           · rw [if_pos c4] at hF
             exact absurd (hF.nil rfl) hne
           · rw [if_neg c4]
         · rw [if_neg c3]
end KM
end Go.Proofs.YtpgifpeohlllfaaGreat
