import Derived.Test.YtkdigjpejnebkaaGreatGS12
import Derived.Test.YtkdigjpejnebkaaGreatGS09
set_option linter.unusedVariables false
set_option maxRecDepth 100000
set_option linter.unusedSimpArgs false
namespace Go.Proofs.YtkdigjpejnebkaaGreat
namespace GM
open Go.RowKit
theorem bytes_all {l : List AM.Ar} {a way : Int} : ∀ {k : Nat},(FM.bytesN l a way k).1 = 0 -> ∀ j,j < k -> FM.byteN l (a + j) way = (0,0)
 | 0,_,j,hj=>by omega
 | k + 1,h,j,hj=>by
  have h0 : (FM.bytesN l a way k).1 = 0:=by
   by_cases c : (FM.bytesN l a way k).1 = 0
   · exact c
   · rw [FM.bytesN,if_neg c] at h
     exact (c h).elim
  by_cases e : j = k
  · subst e
    rw [FM.bytesN,if_pos h0] at h
    exact (FM.byte_zero h).1
  · exact bytes_all h0 j (by omega)
theorem fault_bytes {l : List AM.Ar} {a n way : Int} (h : (FM.faultN l a n way).1 = 0) : FM.faultN l a n way = (0,0) /\ (FM.bytesN l a way n.toNat).1 = 0:=by
 unfold FM.faultN at h ⊢
 by_cases c : way = 2 /\ ¬ a % 8 = 0
 · rw [if_pos c] at h
   cases h
 · rw [if_neg c] at h ⊢
   refine ⟨?_,h⟩
   cases hn : n.toNat with
   | zero=>rfl
   | succ m =>
    rw [hn] at h
    have:=bytes_all h m (by omega)
    rw [FM.bytesN] at h ⊢
    split at h
    · rename_i g
      rw [if_pos g];exact this
    · rename_i g
      exact (g h).elim
structure Reach (ps : List FM.Pg) (a n : Int) (i : Nat) : Prop where
 lt : i < ps.length
 first : (FM.pgAt ps i).page = a / 16
 low : 16 <= a
 high : a + n <= 4096
 last : lastP a n = a / 16 ∨ lastP a n = a / 16 + 1 /\ i + 1 < ps.length /\ (FM.pgAt ps (i + 1)).page = lastP a n
theorem index_of {s : FM.Sp} (h : Liv s) {p : Int} (hp : (AM.findN s.areas p).2 = true) : ∃ i,i < s.pages.length /\ (FM.pgAt s.pages i).page = p:=by
 have hm:=(FM.found_mem h.check p).1 hp
 rw [<- h.nums] at hm
 obtain ⟨g,hg,e⟩:=List.mem_map.1 hm
 obtain ⟨i,hi,rfl⟩:=FM.mem_pgAt hg
 exact ⟨i,hi,e⟩
theorem reach_of {s : FM.Sp} (h : Liv s) {a n way : Int} (hn : 1 <= n) (hn8 : n <= 16) (hf : (FM.faultN s.areas a n way).1 = 0) : ∃ i,Reach s.pages a n i:=by
 obtain ⟨_,hb⟩:=fault_bytes hf
 have h0:=FM.byte_zero (by rw [bytes_all hb 0 (by omega)] : (FM.byteN s.areas (a + (0 : Nat)) way).1 = 0)
 have hl:=FM.byte_zero (by rw [bytes_all hb (n.toNat - 1) (by omega)] : (FM.byteN s.areas (a + ((n.toNat - 1 : Nat) : Int)) way).1 = 0)
 have e0 : a + ((0 : Nat) : Int) = a:=by omega
 have el : a + ((n.toNat - 1 : Nat) : Int) = a + n - 1:=by omega
 rw [e0] at h0
 rw [el] at hl
 obtain ⟨_,ha0,hp0,_⟩:=h0
 obtain ⟨_,hal,hpl,_⟩:=hl
 have r0:=FM.found_page h.check hp0
 have rl:=FM.found_page h.check hpl
 obtain ⟨i,hi,ei⟩:=index_of h hp0
 refine ⟨i,hi,ei,by omega,by omega,?_⟩
 by_cases c : lastP a n = a / 16
 · exact .inl c
 · have c2 : lastP a n = a / 16 + 1:=by unfold lastP at c ⊢;omega
   obtain ⟨j,hj,ej⟩:=index_of h hpl
   have ej' : (FM.pgAt s.pages j).page = a / 16 + 1:=by rw [ej];exact c2
   have hr:=h.rise
   have hij : i < j:=by
    rcases Nat.lt_trichotomy i j with g | g | g
    · exact g
    · subst g;omega
    · have:=hr j i g hi;omega
   have hj1 : j = i + 1:=by
    by_cases g : j = i + 1
    · exact g
    · have g1:=hr i (i + 1) (by omega) (by omega)
      have g2:=hr (i + 1) j (by omega) hj
      omega
   subst hj1
   exact .inr ⟨c2,hj,ej⟩
theorem pg_at {ps : List FM.Pg} (hr : FW.Rise ps) {i : Nat} (hi : i < ps.length) {p : Int} (hp : (FM.pgAt ps i).page = p) : pgD ps p = (FM.pgAt ps i).data:=by
 unfold pgD
 rw [FW.peek_at ps p i hi (fun j hj e=>by have:=hr j i hj hi;omega) hp]
 rfl
theorem join_size {s : FM.Sp} (h : Liv s) {a n : Int} {i : Nat} (hr : Reach s.pages a n i) : ((joinF s.pages a n).size = 16 /\ lastP a n = a / 16) ∨ ((joinF s.pages a n).size = 32 /\ lastP a n = a / 16 + 1):=by
 unfold joinF
 rcases hr.last with c | ⟨c,hl,e⟩
 · rw [if_pos c,pg_at h.rise hr.lt hr.first]
   exact .inl ⟨h.size i hr.lt,c⟩
 · rw [if_neg (by omega),pg_at h.rise hr.lt hr.first,pg_at h.rise hl e,ByteArray.size_append,h.size i hr.lt,h.size _ hl]
   exact .inr ⟨rfl,c⟩
theorem load_size {s : FM.Sp} (h : Liv s) {a n : Int} (hn : 1 <= n) {i : Nat} (hr : Reach s.pages a n i) : ((loadF s.pages a n).size : Int) = n:=by
 unfold loadF
 rw [ByteArray.size_extract]
 have h1:=hr.low
 have h2:=hr.high
 rcases join_size h hr with ⟨e1,e2⟩ | ⟨e1,e2⟩
 · unfold lastP at e2
   rw [e1];omega
 · unfold lastP at e2
   rw [e1];omega
theorem set_nums (p : Int) (d : ByteArray) (ps : List FM.Pg) : FM.numbers (setPg p d ps) = FM.numbers ps:=by
 unfold FM.numbers setPg
 rw [List.map_map]
 apply List.map_congr_left
 intro g _
 show (if g.page = p then (⟨p,d⟩ : FM.Pg) else g).page = g.page
 split
 · rename_i e;exact e.symm
 · rfl
theorem set_len (p : Int) (d : ByteArray) (ps : List FM.Pg) : (setPg p d ps).length = ps.length:=by unfold setPg;rw [List.length_map]
theorem set_at (p : Int) (d : ByteArray) (ps : List FM.Pg) (k : Nat) (hk : k < ps.length) : FM.pgAt (setPg p d ps) k = if (FM.pgAt ps k).page = p then ⟨p,d⟩ else FM.pgAt ps k:=by
 unfold FM.pgAt setPg
 rw [List.getD_eq_getElem?_getD,List.getD_eq_getElem?_getD,List.getElem?_map,List.getElem?_eq_getElem hk]
 rfl
theorem set_size (p : Int) (d : ByteArray) (hd : d.size = 16) (ps : List FM.Pg) (h : ∀ k,k < ps.length -> (FM.pgAt ps k).data.size = 16) : ∀ k,k < (setPg p d ps).length -> (FM.pgAt (setPg p d ps) k).data.size = 16:=fun k hk=>by
 rw [set_len] at hk
 rw [set_at p d ps k hk]
 split
 · exact hd
 · exact h k hk
theorem store_liv {s : FM.Sp} (h : Liv s) {a : Int} {d : ByteArray} {i : Nat} (hd : 1 <= d.size) (hr : Reach s.pages a d.size i) : Liv { s with pages:=storeF s.pages a d }:=by
 have h1:=hr.low
 have hov : (CL.over (joinF s.pages a d.size) (a % 16).toNat d).size = (joinF s.pages a d.size).size:=by
  apply CL.over_size'
  rcases join_size h hr with ⟨e1,e2⟩ | ⟨e1,e2⟩ <;> (unfold lastP at e2;rw [e1];omega)
 refine ⟨h.check,?_,?_⟩
 · show FM.numbers (storeF s.pages a d) = _
   unfold storeF
   split
   · rw [set_nums];exact h.nums
   · rw [set_nums,set_nums];exact h.nums
 · show ∀ k,k < (storeF s.pages a d).length -> (FM.pgAt (storeF s.pages a d) k).data.size = 16
   unfold storeF
   rcases join_size h hr with ⟨e1,e2⟩ | ⟨e1,e2⟩
   · rw [if_pos e2]
     exact set_size _ _ (by rw [ByteArray.size_extract,hov,e1];rfl) _ h.size
   · rw [if_neg (by omega)]
     exact set_size _ _ (by rw [ByteArray.size_extract,hov,e1];rfl) _ (set_size _ _ (by rw [ByteArray.size_extract,hov,e1];rfl) _ h.size)
theorem pairwise_low {ps : List FM.Pg} (h : (FM.numbers ps).Pairwise (· < ·)) (p : Int) : ∀ x,x ∈ FM.numbers (ps.drop (lowN ps p)) -> p <= x:=by
 unfold lowN
 induction ps with
 | nil=>intro x hx;cases hx
 | cons g r ih =>
  intro x hx
  have hp:=List.pairwise_cons.1 (show (g.page :: FM.numbers r).Pairwise (· < ·) from h)
  by_cases c : g.page < p
  · rw [List.takeWhile_cons_of_pos (by simpa using c),List.length_cons,List.drop_succ_cons] at hx
    exact ih hp.2 x hx
  · rw [List.takeWhile_cons_of_neg (by simpa using c)] at hx
    rcases List.mem_cons.1 (show x ∈ g.page :: FM.numbers r from hx) with e | e
    · omega
    · have:=hp.1 x e;omega
theorem take_low (ps : List FM.Pg) (p : Int) : ∀ x,x ∈ FM.numbers (ps.take (lowN ps p)) -> x < p:=by
 unfold lowN
 induction ps with
 | nil=>intro x hx;cases hx
 | cons g r ih =>
  intro x hx
  by_cases c : g.page < p
  · rw [List.takeWhile_cons_of_pos (by simpa using c),List.length_cons,List.take_succ_cons] at hx
    rcases List.mem_cons.1 (show x ∈ g.page :: FM.numbers (r.take _) from hx) with e | e
    · omega
    · exact ih x e
  · rw [List.takeWhile_cons_of_neg (by simpa using c)] at hx
    cases hx
theorem numbers_zeros (p : Int) (n : Nat) : FM.numbers (zerosF p n) = FM.run p n:=by
 unfold FM.numbers zerosF
 rw [List.map_map]
 exact List.map_id _
theorem nums_append (a b : List FM.Pg) : FM.numbers (a ++ b) = FM.numbers a ++ FM.numbers b:=by unfold FM.numbers;rw [List.map_append]
theorem map_liv {s : FM.Sp} (h : Liv s) {p n q : Int} (hm : (AW.mapN s.areas p n q).2 = 0) : Liv { s with areas:=(AW.mapN s.areas p n q).1,pages:=insF s.pages p n.toNat }:=by
 obtain ⟨h1,h2,h3,h4⟩:=pages_map h.check hm
 have hs : (FM.numbers s.pages).Pairwise (· < ·):=by rw [h.nums];exact (FM.asc_of h.check).sorted
 have hsplit : FM.numbers s.pages = FM.numbers (s.pages.take (lowN s.pages p)) ++ FM.numbers (s.pages.drop (lowN s.pages p)):=by rw [<- nums_append,List.take_append_drop]
 rw [hsplit] at hs
 obtain ⟨q1,q2,q3⟩:=List.pairwise_append.1 hs
 have hlo:=take_low s.pages p
 have hhi:=pairwise_low (ps:=s.pages) (by rw [hsplit];exact hs) p
 have hnot : ∀ x,x ∈ FM.numbers (s.pages.drop (lowN s.pages p)) -> p + n <= x:=fun x hx=>by
  have g1:=hhi x hx
  by_cases c : x < p + n
  · exfalso
    refine h4 x g1 c ?_
    rw [<- h.nums,hsplit]
    exact List.mem_append_right _ hx
  · omega
 refine ⟨h1,?_,?_⟩
 · show FM.numbers (insF s.pages p n.toNat) = _
   refine sorted_ext ?_ (FM.asc_of h1).sorted (fun x=>?_)
   · unfold insF
     rw [nums_append,nums_append,numbers_zeros]
     refine List.pairwise_append.2 ⟨q1,List.pairwise_append.2 ⟨FM.run_sorted _ _,q2,fun x hx y hy=>?_⟩,fun x hx y hy=>?_⟩
     · have:=(FM.run_mem _ _ _).1 hx
       have:=hnot y hy
       omega
     · have g1:=hlo x hx
       rcases List.mem_append.1 hy with g | g
       · have:=(FM.run_mem _ _ _).1 g;omega
       · have:=hhi y g;omega
   · rw [h3]
     unfold insF
     rw [nums_append,nums_append,numbers_zeros,List.mem_append,List.mem_append,FM.run_mem,<- h.nums,hsplit,List.mem_append]
     constructor
     · rintro (g | g | g)
       · exact .inl (.inl g)
       · exact .inr (by omega)
       · exact .inl (.inr g)
     · rintro ((g | g) | g)
       · exact .inl g
       · exact .inr (.inr g)
       · exact .inr (.inl (by omega))
 · intro k hk
   have hm2:=FM.pgAt_mem hk
   have : ∀ g ∈ insF s.pages p n.toNat,g.data.size = 16:=fun g hg=>by
    unfold insF at hg
    have old : ∀ g ∈ s.pages,g.data.size = 16:=fun g hg=>by
     obtain ⟨k,hk,rfl⟩:=FM.mem_pgAt hg
     exact h.size k hk
    rcases List.mem_append.1 hg with e | e
    · exact old g (List.mem_of_mem_take e)
    · rcases List.mem_append.1 e with e | e
      · obtain ⟨x,_,rfl⟩:=List.mem_map.1 e
        rfl
      · exact old g (List.mem_of_mem_drop e)
   exact this _ hm2
theorem unmap_liv {s : FM.Sp} (h : Liv s) {p n : Int} (hm : (AW.unmapN s.areas p n).2 = 0) : Liv { s with areas:=(AW.unmapN s.areas p n).1,pages:=outF s.pages p n }:=by
 obtain ⟨h1,h2,h3⟩:=pages_unmap h.check hm
 have hs : (FM.numbers s.pages).Pairwise (· < ·):=by rw [h.nums];exact (FM.asc_of h.check).sorted
 refine ⟨h1,?_,?_⟩
 · show FM.numbers (outF s.pages p n) = _
   refine sorted_ext ?_ (FM.asc_of h1).sorted (fun x=>?_)
   · unfold FM.numbers outF
     exact List.Pairwise.sublist ((List.filter_sublist).map _) hs
   · rw [h3,<- h.nums]
     unfold FM.numbers outF
     simp only [List.mem_map,List.mem_filter]
     constructor
     · rintro ⟨g,⟨h5,h6⟩,rfl⟩
       exact ⟨⟨g,h5,rfl⟩,by simp at h6;omega⟩
     · rintro ⟨⟨g,h5,rfl⟩,h6⟩
       exact ⟨g,⟨h5,by simp;omega⟩,rfl⟩
 · intro k hk
   have hm2:=FM.pgAt_mem hk
   have : ∀ g ∈ outF s.pages p n,g.data.size = 16:=fun g hg=>by
    unfold outF at hg
    obtain ⟨k,hk,rfl⟩:=FM.mem_pgAt (List.mem_filter.1 hg).1
    exact h.size k hk
   exact this _ hm2
theorem total_len {s : FM.Sp} (h : Liv s) : AM.totalN s.areas = (s.pages.length : Int):=by
 rw [FM.total_pages h.check,<- h.nums]
 unfold FM.numbers
 rw [List.length_map]
theorem turn_ok {m : Mf} {fl : List Bool} (h : OkF m fl) {k : Nat} (hk : k < m.spaces.length) {s : FM.Sp} (hs : FM.rightSpace s = true) (hr : FM.room m.spaces - AM.totalN (FM.spAt m.spaces k).areas + AM.totalN s.areas <= m.slots) : OkF (turnS m k s) (fl.set k s.live):=by
 refine ⟨?_,fun j hj=>?_,?_,h.slots,?_⟩
 · rw [h.flags]
   show (m.spaces.map (·.live)).set k s.live = (m.spaces.set k s).map (·.live)
   rw [List.map_set]
 · have hj' : j < m.spaces.length:=by
    have : j < (m.spaces.set k s).length:=hj
    rw [List.length_set] at this;exact this
   show FM.rightSpace (FM.spAt (m.spaces.set k s) j) = true
   rw [spAt_set _ _ _ _ hk]
   split
   · exact hs
   · exact h.each j hj'
 · show FM.room (m.spaces.set k s) <= m.slots
   rw [room_set _ _ _ hk];exact hr
 · show 1 <= (m.spaces.set k s).length /\ (m.spaces.set k s).length <= 4
   rw [List.length_set];exact h.few
theorem set_self (fl : List Bool) (k : Nat) (b : Bool) (h : fl.getD k false = b) : fl.set k b = fl:=by
 apply List.ext_getElem?
 intro j
 rw [List.getElem?_set]
 by_cases e : k = j
 · subst e
   by_cases c : k < fl.length
   · rw [List.getD_eq_getElem?_getD,List.getElem?_eq_getElem c] at h
     rw [if_pos rfl,if_pos c,List.getElem?_eq_getElem c]
     exact congrArg some h.symm
   · rw [if_pos rfl,if_neg c,List.getElem?_eq_none (by omega)]
 · rw [if_neg e]
theorem turn_live {m : Mf} {fl : List Bool} (h : OkF m fl) {k : Nat} (hf : fl.getD k false = true) (hk : k < m.spaces.length) {s : FM.Sp} (hl : s.live = true) (hs : FM.rightSpace s = true) (hr : FM.room m.spaces - AM.totalN (FM.spAt m.spaces k).areas + AM.totalN s.areas <= m.slots) : OkF (turnS m k s) fl:=by
 have:=turn_ok h hk hs hr
 rw [hl,set_self fl k true hf] at this
 exact this
theorem byte_kind (l : List AM.Ar) (p way : Int) : 0 <= (FM.byteN l p way).1 /\ (FM.byteN l p way).1 <= 4:=by
 unfold FM.byteN
 split
 · exact ⟨by simp [FM.bytesN,AW.howUnmap],by simp [FM.bytesN,AW.howUnmap]⟩
 · split <;> exact ⟨by simp [FM.bytesN,AW.howUnmap],by simp [FM.bytesN,AW.howUnmap]⟩
theorem bytes_kind (l : List AM.Ar) (a way : Int) : ∀ k,0 <= (FM.bytesN l a way k).1 /\ (FM.bytesN l a way k).1 <= 4
 | 0=>⟨by simp [FM.bytesN,AW.howUnmap],by simp [FM.bytesN,AW.howUnmap]⟩
 | k + 1=>by
  rw [FM.bytesN]
  split
  · exact byte_kind _ _ _
  · exact bytes_kind l a way k
theorem fault_kind (l : List AM.Ar) (a n way : Int) : 0 <= (FM.faultN l a n way).1 /\ (FM.faultN l a n way).1 <= 4:=by
 unfold FM.faultN
 split
 · exact ⟨by simp [FM.bytesN,AW.howUnmap],by simp [FM.bytesN,AW.howUnmap]⟩
 · exact bytes_kind _ _ _ _
theorem low_le (ps : List FM.Pg) (p : Int) : lowN ps p <= ps.length:=by
 unfold lowN
 exact List.Sublist.length_le (List.takeWhile_sublist _)
theorem ins_len (ps : List FM.Pg) (p : Int) (n : Nat) : (insF ps p n).length = ps.length + n:=by
 have:=low_le ps p
 unfold insF zerosF
 rw [List.length_append,List.length_append,List.length_take,List.length_drop,List.length_map,FM.run_length]
 omega
theorem how_map (q : Int) (s : AM.St) : 0 <= (AW.howMap q s).2 /\ (AW.howMap q s).2 <= 10:=by
 unfold AW.howMap
 split <;> exact ⟨by simp [FM.bytesN,AW.howUnmap],by simp [FM.bytesN,AW.howUnmap]⟩
theorem how_unmap (s : AM.St) : 0 <= (AW.howUnmap s).2 /\ (AW.howUnmap s).2 <= 10:=⟨by simp [FM.bytesN,AW.howUnmap],by simp [FM.bytesN,AW.howUnmap]⟩
theorem how_protect (q : Int) (s : AM.St) : 0 <= (AW.howProtect q s).2 /\ (AW.howProtect q s).2 <= 10:=by
 unfold AW.howProtect
 split <;> exact ⟨by simp [FM.bytesN,AW.howUnmap],by simp [FM.bytesN,AW.howUnmap]⟩
theorem err_le (F : Nat -> AM.St) (how : AM.St -> AM.St × Int) (hh : ∀ s,0 <= (how s).2 /\ (how s).2 <= 10) : ∀ c n,0 <= AM.errFrom F how n c /\ AM.errFrom F how n c <= 10
 | 0,n=>⟨by show (0 : Int) <= 0;omega,by show (0 : Int) <= 10;omega⟩
 | c + 1,n=>by
  unfold AM.errFrom
  split
  · exact err_le F how hh c (n + 1)
  · exact hh _
theorem check_le (l : List AM.Ar) : 0 <= AM.checkN l /\ AM.checkN l <= 10:=by
 unfold AM.checkN
 split
 · exact ⟨by simp [FM.bytesN,AW.howUnmap],by simp [FM.bytesN,AW.howUnmap]⟩
 · split <;> exact ⟨by simp [FM.bytesN,AW.howUnmap],by simp [FM.bytesN,AW.howUnmap]⟩
theorem turn_err_le (l : List AM.Ar) (p n q : Int) (how : AM.St -> AM.St × Int) (hh : ∀ s,0 <= (how s).2 /\ (how s).2 <= 10) : 0 <= (AM.turnN l p n q how).2 /\ (AM.turnN l p n q how).2 <= 10:=by
 unfold AM.turnN
 split
 · split
   · split
     · exact ⟨by simp [FM.bytesN,AW.howUnmap],by simp [FM.bytesN,AW.howUnmap]⟩
     · exact err_le _ _ hh _ _
   · exact ⟨by simp [FM.bytesN,AW.howUnmap],by simp [FM.bytesN,AW.howUnmap]⟩
 · exact check_le l
theorem flat_ok : GG.OpsOk flatOps OkF where
 load:=fun s fl k a n way h hk=>by
  show OkF (loadM s k a n way).2 fl
  unfold loadM
  split <;> exact h
 size:=fun s fl k a n way h hk hn hn8 hf=>by
  obtain ⟨hlt,hlv⟩:=h.live hk
  have hL:=liv_of (h.each k hlt) hlv
  have hf' : (loadM s k a n way).1.2.1 = 0:=hf
  show ((loadM s k a n way).1.1.size : Int) = n
  unfold loadM at hf' ⊢
  by_cases c : (FM.faultN (FM.spAt s.spaces k).areas a n way).1 = 0
  · rw [if_pos c]
    obtain ⟨i,hi⟩:=reach_of hL hn (by omega) c
    exact load_size hL hn hi
  · rw [if_neg c] at hf'
    exact (c hf').elim
 fault:=fun s fl k a n way h hk=>by
  show 0 <= (loadM s k a n way).1.2.1 /\ (loadM s k a n way).1.2.1 <= 4 /\ ((loadM s k a n way).1.2.1 = 0 -> (loadM s k a n way).1.2 = (0,0))
  unfold loadM
  have:=fault_kind (FM.spAt s.spaces k).areas a n way
  split
  · exact ⟨by simp,by simp,fun _=>rfl⟩
  · rename_i c
    exact ⟨this.1,this.2,fun g=>(c g).elim⟩
 none:=fun s fl k a n way h hk hf=>by
  have hf' : ¬ (loadM s k a n way).1.2.1 = 0:=hf
  show (loadM s k a n way).1.1 = ⟨#[]⟩
  unfold loadM at hf' ⊢
  split
  · rename_i c
    rw [if_pos c] at hf'
    exact (hf' rfl).elim
  · rfl
 store:=fun s fl k a d h hk hd1 hd8=>by
  obtain ⟨hlt,hlv⟩:=h.live hk
  have hL:=liv_of (h.each k hlt) hlv
  show OkF (storeM s k a d).2 fl
  unfold storeM
  split
  · rename_i c
    obtain ⟨i,hi⟩:=reach_of hL (by omega) (by omega) c
    have hL2:=store_liv hL hd1 hi
    exact turn_live h hk hlt hlv (right_of hL2 hlv) (by
      have:=h.room
      show FM.room s.spaces - AM.totalN (FM.spAt s.spaces k).areas + AM.totalN (FM.spAt s.spaces k).areas <= s.slots
      omega)
  · exact h
 faultS:=fun s fl k a d h hk=>by
  show 0 <= (storeM s k a d).1.1 /\ (storeM s k a d).1.1 <= 4 /\ ((storeM s k a d).1.1 = 0 -> (storeM s k a d).1 = (0,0))
  unfold storeM
  have:=fault_kind (FM.spAt s.spaces k).areas a d.size 1
  split
  · exact ⟨by simp,by simp,fun _=>rfl⟩
  · rename_i c
    exact ⟨this.1,this.2,fun g=>(c g).elim⟩
 map:=fun s fl k p n q h hk=>by
  obtain ⟨hlt,hlv⟩:=h.live hk
  have hL:=liv_of (h.each k hlt) hlv
  show OkF (mapM s k p n q).2 fl
  unfold mapM
  split
  · exact h
  · rename_i c
    have c' : (AW.mapN (FM.spAt s.spaces k).areas p n q).2 = 0:=Decidable.not_not.1 c
    split
    · exact h
    · rename_i c2
      have hL2:=map_liv hL c'
      exact turn_live h hk hlt hlv (right_of hL2 hlv) (by
       rw [total_len hL,total_len hL2]
       have hlen:=(pages_map hL.check c').2.1
       have : (insF (FM.spAt s.spaces k).pages p n.toNat).length = (FM.spAt s.spaces k).pages.length + n.toNat:=ins_len _ _ _
       show FM.room s.spaces - ((FM.spAt s.spaces k).pages.length : Int) + ((insF (FM.spAt s.spaces k).pages p n.toNat).length : Int) <= s.slots
       rw [this]
       omega)
 unmap:=fun s fl k p n h hk=>by
  obtain ⟨hlt,hlv⟩:=h.live hk
  have hL:=liv_of (h.each k hlt) hlv
  show OkF (unmapM s k p n).2 fl
  unfold unmapM
  split
  · exact h
  · rename_i c
    have c' : (AW.unmapN (FM.spAt s.spaces k).areas p n).2 = 0:=Decidable.not_not.1 c
    have hL2:=unmap_liv hL c'
    exact turn_live h hk hlt hlv (right_of hL2 hlv) (by
      rw [total_len hL,total_len hL2]
      have : (outF (FM.spAt s.spaces k).pages p n).length <= (FM.spAt s.spaces k).pages.length:=List.length_filter_le _ _
      show FM.room s.spaces - ((FM.spAt s.spaces k).pages.length : Int) + ((outF (FM.spAt s.spaces k).pages p n).length : Int) <= s.slots
      have:=h.room
      omega)
 protect:=fun s fl k p n q h hk=>by
  obtain ⟨hlt,hlv⟩:=h.live hk
  have hL:=liv_of (h.each k hlt) hlv
  show OkF (protectM s k p n q).2 fl
  unfold protectM
  split
  · exact h
  · rename_i c
    have c' : (AW.protectN (FM.spAt s.spaces k).areas p n q).2 = 0:=Decidable.not_not.1 c
    obtain ⟨g1,g2⟩:=pages_protect hL.check c'
    have hL2 : Liv { FM.spAt s.spaces k with areas:=(AW.protectN (FM.spAt s.spaces k).areas p n q).1 }:=⟨g1,by show FM.numbers (FM.spAt s.spaces k).pages = _;rw [hL.nums];exact g2.symm,hL.size⟩
    exact turn_live h hk hlt hlv (right_of hL2 hlv) (by
      have e1 : AM.totalN (AW.protectN (FM.spAt s.spaces k).areas p n q).1 = ((FM.spAt s.spaces k).pages.length : Int):=total_len hL2
      have e2:=total_len hL
      have:=h.room
      show FM.room s.spaces - AM.totalN (FM.spAt s.spaces k).areas + AM.totalN (AW.protectN (FM.spAt s.spaces k).areas p n q).1 <= s.slots
      omega)
 forkNo:=fun s fl k h hk hf=>by
  have hf' : ¬ (forkM s k).1 = 0:=hf
  show OkF (forkM s k).2 fl
  unfold forkM at hf' ⊢
  split
  · exact h
  · split
    · exact h
    · rename_i c1 c2
      rw [if_neg c1,if_neg c2] at hf'
      exact (hf' rfl).elim
 forkYes:=fun s fl k h hk hf=>by
  obtain ⟨hlt,hlv⟩:=h.live hk
  have hf' : (forkM s k).1 = 0:=hf
  show OkF (forkM s k).2 (fl ++ [true])
  unfold forkM at hf' ⊢
  by_cases c1 : 4 <= s.spaces.length
  · rw [if_pos c1] at hf';cases hf'
  · rw [if_neg c1] at hf' ⊢
    by_cases c2 : s.slots < FM.room s.spaces + AM.totalN (FM.spAt s.spaces k).areas
    · rw [if_pos c2] at hf';cases hf'
    · rw [if_neg c2]
      refine ⟨?_,fun j hj=>?_,?_,h.slots,?_⟩
      · rw [h.flags]
        show _ = (s.spaces ++ [FM.spAt s.spaces k]).map (·.live)
        rw [List.map_append,List.map_singleton,hlv]
      · have hj' : j < (s.spaces ++ [FM.spAt s.spaces k]).length:=hj
        rw [List.length_append,List.length_singleton] at hj'
        show FM.rightSpace (FM.spAt (s.spaces ++ [FM.spAt s.spaces k]) j) = true
        by_cases c : j < s.spaces.length
        · have : FM.spAt (s.spaces ++ [FM.spAt s.spaces k]) j = FM.spAt s.spaces j:=by
           unfold FM.spAt
           rw [List.getD_eq_getElem?_getD,List.getElem?_append_left c,<- List.getD_eq_getElem?_getD]
          rw [this];exact h.each j c
        · have : FM.spAt (s.spaces ++ [FM.spAt s.spaces k]) j = FM.spAt s.spaces k:=by
           obtain rfl : j = s.spaces.length:=by omega
           show (s.spaces ++ [FM.spAt s.spaces k]).getD s.spaces.length FM.sp0 = _
           rw [List.getD_eq_getElem?_getD,List.getElem?_append_right (Nat.le_refl _),Nat.sub_self]
           rfl
          rw [this];exact h.each k hlt
      · show FM.room (s.spaces ++ [FM.spAt s.spaces k]) <= s.slots
        rw [room_snoc];omega
      · show 1 <= (s.spaces ++ [FM.spAt s.spaces k]).length /\ (s.spaces ++ [FM.spAt s.spaces k]).length <= 4
        rw [List.length_append,List.length_singleton];omega
 mapV:=fun s fl k p n q h hk=>by
  show 0 <= (mapM s k p n q).1 /\ (mapM s k p n q).1 <= 10
  unfold mapM
  split
  · exact turn_err_le _ _ _ _ _ (how_map q)
  · split <;> exact ⟨by simp [FM.bytesN,AW.howUnmap],by simp [FM.bytesN,AW.howUnmap]⟩
 unmapV:=fun s fl k p n h hk=>by
  show 0 <= (unmapM s k p n).1 /\ (unmapM s k p n).1 <= 10
  unfold unmapM
  split
  · exact turn_err_le _ _ _ _ _ how_unmap
  · exact ⟨by simp [FM.bytesN,AW.howUnmap],by simp [FM.bytesN,AW.howUnmap]⟩
 protectV:=fun s fl k p n q h hk=>by
  show 0 <= (protectM s k p n q).1 /\ (protectM s k p n q).1 <= 10
  unfold protectM
  split
  · exact turn_err_le _ _ _ _ _ (how_protect q)
  · exact ⟨by simp [FM.bytesN,AW.howUnmap],by simp [FM.bytesN,AW.howUnmap]⟩
 few:=fun s fl h=>by rw [h.flags,List.length_map];exact h.few.2
 drop:=fun s fl k h hk=>by
  obtain ⟨hlt,hlv⟩:=h.live hk
  have hL:=liv_of (h.each k hlt) hlv
  have:=turn_ok h hlt (s:=FM.sp0) rfl (by
   have h0 : AM.totalN FM.sp0.areas = 0:=rfl
   rw [h0,total_len hL]
   have:=h.room
   omega)
  exact this
end GM
namespace FW
open Go.RowKit
def catTo (l : List FM.Pg) : Nat -> ByteArray
 | 0=>⟨#[]⟩
 | k + 1=>catTo l k ++ (FM.pgAt l k).data
theorem cat_size (l : List FM.Pg) (h : ∀ k,k < l.length -> (FM.pgAt l k).data.size = 16) : ∀ k,k <= l.length -> (catTo l k).size = 16 * k
 | 0,_=>rfl
 | k + 1,hk=>by
  show (catTo l k ++ (FM.pgAt l k).data).size = _
  rw [ByteArray.size_append,cat_size l h k (by omega),h k (by omega)]
  omega
set_option maxHeartbeats 1000000 in
theorem join_any (l : List FM.Pg) (ao : Option Addr) (cap : Nat) (w : World) (h : HasP w ao l) (hz : ∀ k,k < l.length -> (FM.pgAt l k).data.size = 16) (hn : l.length <= 1000) :
  Calls Tryz.prog 198 #[.slice ao l.length cap] w fun e w'=>e = .returned (.string (catTo l l.length)) /\ Below w.heap.size w w':=by
 have HH:=hideC h
 have HZ:=hideC hz
 have HCS:=hideC (cat_size l hz)
 have HST : Hid (∀ k,catTo l (k + 1) = catTo l k ++ (FM.pgAt l k).data):=fun k=>rfl
 clear h hz
 go_enter Tryz.func198,Tryz.ntmps198
 go_wp2
 go_loopw [3,8] (fun sv iv wr=>∃ k : Nat,k <= l.length /\ iv = .int .i64 (k : Int) /\ sv = .string (catTo l k) /\ Below w.heap.size w wr) (fun _ iv _=>l.length - (intOf iv).toNat)
 case atStart=>exact ⟨0,by omega,rfl,rfl,Below.refl _ _⟩
 case round =>
  obtain ⟨k,hk,rfl,rfl,hb⟩:=hrel
  have HB:=hideC hb
  by_cases hlt : k < l.length
  · obtain ⟨b,off,hao,hbl,hlie⟩:=(HH.out.below hb) (by omega)
    subst hao
    obtain ⟨c0,c1⟩:=hlie k hlt
    have h16:=HZ.out k hlt
    have hcs:=HCS.out k hk
    have hst:=HST.out k
    obtain ⟨⟨pg,dt⟩,hq⟩ : ∃ q,q = FM.pgAt l k:=⟨_,rfl⟩
    rw [<- hq] at c0 c1 h16 hst
    simp only at c0 c1 h16 hst
    obtain ⟨A,hA⟩ : ∃ A,A = catTo l k:=⟨_,rfl⟩
    rw [<- hA] at hcs hst ⊢
    have HS2:=hideC hst
    have hsum : A.size + dt.size <= 20000:=by omega
    clear hq hA hlie hb hst hcs h16
    go_wp2
    go_roundw
    case rel=>exact ⟨k + 1,by omega,by go_num,by rw [HS2.out],HB.out.alloc HB.out.size _⟩
    case measure=>simp [intOf];omega
  · obtain rfl : k = l.length:=by omega
    clear hb
    go_wp2
    go_ret
    exact ⟨rfl,HB.out⟩
end FW
end Go.Proofs.YtkdigjpejnebkaaGreat
