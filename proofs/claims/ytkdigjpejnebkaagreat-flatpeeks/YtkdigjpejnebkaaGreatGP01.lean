import Derived.Test.YtkdigjpejnebkaaGreatGP00
import Derived.Test.YtkdigjpejnebkaaGreatProg
import Derived.WalkLawsBesides
import Derived.WalkSpells
import Derived.Deep.QuietTactic
import Derived.BigQuiet
import Derived.WalkKit
import Derived.Below
set_option linter.unusedVariables false
set_option maxRecDepth 100000
set_option linter.unusedSimpArgs false
namespace Go.Proofs.YtkdigjpejnebkaaGreat
namespace FM
open Go.RowKit
structure Pg where
 page : Int
 data : ByteArray
structure Sp where
 live : Bool
 areas : List AM.Ar
 pages : List Pg
structure Wd where
 proc : Int
 value : Int
structure Fl where
 slots : Int
 spaces : List Sp
 procs : List PM.Pr
 out : List Wd
def pg0 : Pg := ⟨0,⟨#[]⟩⟩
def sp0 : Sp := ⟨false,[],[]⟩
def wd0 : Wd := ⟨0,0⟩
def pr0 : PM.Pr := ⟨fun _ => 0,0,0,0,0,0⟩
def pgAt (l : List Pg) (i : Nat) : Pg := l.getD i pg0
def spAt (l : List Sp) (i : Nat) : Sp := l.getD i sp0
def wdAt (l : List Wd) (i : Nat) : Wd := l.getD i wd0
def prAt (l : List PM.Pr) (i : Nat) : PM.Pr := l.getD i pr0
def noFault (p : PM.Pr) : Bool := decide (p.fk = 0 /\ p.fa = 0)
def rightProc (p : PM.Pr) : Bool := if p.st = 1 then decide (p.cd = 0) && noFault p else if p.st = 2 then noFault p else if p.st = 3 then decide (p.cd = 0) && decide (1 <= p.fk /\ p.fk <= 4) else false
def procFine (p : PM.Pr) (live : Bool) : Bool :=
 if !(decide (1 <= p.st /\ p.st <= 3)) || (!(decide (p.cd = 0)) && !(decide (p.st = 2))) || live != decide (p.st = 1) then false
 else if p.st = 3 then decide (1 <= p.fk /\ p.fk <= 4) else noFault p
theorem proc_same (p : PM.Pr) (live : Bool) : procFine p live = (rightProc p && live == decide (p.st = 1)) := by
 unfold procFine rightProc
 by_cases h1 : p.st = 1
 · by_cases h : p.cd = 0 <;> cases live <;> simp [h1,h]
 · by_cases h2 : p.st = 2
   · by_cases h : p.cd = 0 <;> cases live <;> simp [h1,h2,h]
   · by_cases h3 : p.st = 3
     · by_cases h : p.cd = 0 <;> cases live <;> simp [h1,h2,h3,h]
     · have h4 : ¬ (1 <= p.st /\ p.st <= 3) := by omega
       have h5 : decide (1 <= p.st /\ p.st <= 3) = false := decide_eq_false h4
       simp [h1,h2,h3,h5]
def sized (l : List Pg) : Bool := l.all fun p => decide (p.data.size = 16)
def numbers (l : List Pg) : List Int := l.map (·.page)
def rightSpace (s : Sp) : Bool := if s.live then decide (AM.checkN s.areas = 0) && (decide (numbers s.pages = pagesOf s.areas) && sized s.pages) else decide (s.areas.length = 0) && decide (s.pages.length = 0)
def roomTo (l : List Sp) : Nat -> Int
 | 0 => 0
 | k + 1 => roomTo l k + AM.totalN (spAt l k).areas
def room (l : List Sp) : Int := roomTo l l.length
def rightCounts (f : Fl) : Bool := decide (1 <= f.spaces.length /\ f.spaces.length <= 4) && (decide (f.procs.length = f.spaces.length) && (decide (0 <= f.slots /\ f.slots <= 512) && decide (f.out.length <= 2000)))
def rightSpaces (f : Fl) : Bool := f.spaces.all rightSpace && decide (room f.spaces <= f.slots)
def liveB (f : Fl) (i : Nat) : Bool := (spAt f.spaces i).live == decide ((prAt f.procs i).st = 1)
def rightProcs (f : Fl) : Bool := (List.range f.procs.length).all (fun i => rightProc (prAt f.procs i) && liveB f i) && f.out.all (fun o => decide (0 <= o.proc /\ o.proc < (f.procs.length : Int)))
def checkF (f : Fl) : Int := if rightCounts f = false then 2 else if rightSpaces f && rightProcs f then 0 else 1
def pagesFine (s : Sp) : Prop := (s.pages.length : Int) = AM.totalN s.areas /\ ∀ k,k < s.pages.length -> (AM.findN s.areas (pgAt s.pages k).page).2 = true /\ (0 < k -> (pgAt s.pages (k - 1)).page < (pgAt s.pages k).page) /\ (pgAt s.pages k).data.size = 16
def spaceFine (s : Sp) : Prop := (s.live = false -> s.areas.length = 0 /\ s.pages.length = 0) /\ AM.checkN s.areas = 0 /\ pagesFine s
theorem rising_pairwise : ∀ (l : List Int),(∀ k,0 < k -> k < l.length -> l.getD (k - 1) 0 < l.getD k 0) -> l.Pairwise (· < ·)
 | [],_ => List.Pairwise.nil
 | [a],_ => List.pairwise_singleton _ _
 | a :: b :: r,h => by
  have ih := rising_pairwise (b :: r) (fun k h1 h2 => by
   have := h (k + 1) (by omega) (by simp at h2 ⊢;omega)
   obtain ⟨j,rfl⟩ : ∃ j,k = j + 1 := ⟨k - 1,by omega⟩
   exact this)
  have h0 : a < b := h 1 (by omega) (by simp)
  rw [List.pairwise_cons] at ih ⊢
  refine ⟨fun x hx => ?_,List.pairwise_cons.2 ih⟩
  rcases List.mem_cons.1 hx with g | g
  · omega
  · have := ih.1 x g
    omega
theorem pairwise_rising {l : List Int} (h : l.Pairwise (· < ·)) (k : Nat) (h1 : 0 < k) (h2 : k < l.length) : l.getD (k - 1) 0 < l.getD k 0 := by
 have := List.pairwise_iff_getElem.1 h (k - 1) k (by omega) h2 (by omega)
 rw [List.getD_eq_getElem?_getD,List.getD_eq_getElem?_getD,List.getElem?_eq_getElem h2,List.getElem?_eq_getElem (by omega)]
 exact this
theorem numbers_at (l : List Pg) (k : Nat) : (numbers l).getD k 0 = (pgAt l k).page := by
 unfold numbers pgAt
 rw [List.getD_eq_getElem?_getD,List.getD_eq_getElem?_getD,List.getElem?_map]
 cases l[k]? <;> rfl
theorem pgAt_mem {l : List Pg} {k : Nat} (h : k < l.length) : pgAt l k ∈ l := by
 unfold pgAt
 rw [List.getD_eq_getElem?_getD,List.getElem?_eq_getElem h]
 exact List.getElem_mem h
theorem mem_pgAt {l : List Pg} {p : Pg} (h : p ∈ l) : ∃ k,k < l.length /\ pgAt l k = p := by
 obtain ⟨k,hk⟩ := List.getElem?_of_mem h
 have hlt : k < l.length := by
  rcases Nat.lt_or_ge k l.length with g | g
  · exact g
  · rw [List.getElem?_eq_none g] at hk
    cases hk
 refine ⟨k,hlt,?_⟩
 unfold pgAt
 rw [List.getD_eq_getElem?_getD,hk]
 rfl
theorem fine_pages {s : Sp} (hc : AM.checkN s.areas = 0) : pagesFine s ↔ numbers s.pages = pagesOf s.areas /\ sized s.pages = true := by
 have hlen : (numbers s.pages).length = s.pages.length := List.length_map _
 have hsz : sized s.pages = true ↔ ∀ p ∈ s.pages,p.data.size = 16 := by
  unfold sized
  rw [List.all_eq_true]
  exact ⟨fun h p hp => of_decide_eq_true (h p hp),fun h p hp => decide_eq_true (h p hp)⟩
 rw [hsz,<- pages_same hc,hlen]
 constructor
 · rintro ⟨h1,h2⟩
   refine ⟨⟨h1,fun x hx => ?_,rising_pairwise _ (fun k g1 g2 => ?_)⟩,fun p hp => ?_⟩
   · obtain ⟨p,hp,rfl⟩ := List.mem_map.1 hx
     obtain ⟨k,hk,rfl⟩ := mem_pgAt hp
     exact (h2 k hk).1
   · rw [numbers_at,numbers_at]
     exact (h2 k (by omega)).2.1 g1
   · obtain ⟨k,hk,rfl⟩ := mem_pgAt hp
     exact (h2 k hk).2.2
 · rintro ⟨⟨h1,h2,h3⟩,h4⟩
   refine ⟨h1,fun k hk => ⟨h2 _ (List.mem_map_of_mem (pgAt_mem hk)),fun g => ?_,h4 _ (pgAt_mem hk)⟩⟩
   have := pairwise_rising h3 k g (by omega)
   rw [numbers_at,numbers_at] at this
   exact this
theorem fine_space (s : Sp) : spaceFine s ↔ rightSpace s = true := by
 unfold spaceFine rightSpace
 cases hl : s.live with
 | true =>
  simp only [if_true,Bool.and_eq_true,decide_eq_true_eq]
  constructor
  · rintro ⟨_,h2,h3⟩
    exact ⟨h2,(fine_pages h2).1 h3⟩
  · rintro ⟨h2,h3⟩
    exact ⟨(fun h => by cases h),h2,(fine_pages h2).2 h3⟩
 | false =>
  simp only [Bool.false_eq_true,if_false,Bool.and_eq_true,decide_eq_true_eq]
  constructor
  · rintro ⟨h1,_,_⟩
    exact h1 trivial
  · rintro ⟨h1,h2⟩
    have ha : s.areas = [] := List.length_eq_zero_iff.1 h1
    have hp : s.pages = [] := List.length_eq_zero_iff.1 h2
    have hc : AM.checkN s.areas = 0 := by rw [ha];rfl
    refine ⟨fun _ => ⟨h1,h2⟩,hc,(fine_pages hc).2 ⟨by rw [ha,hp];rfl,by rw [hp];rfl⟩⟩
def lensTo (l : List Sp) : Nat -> Int
 | 0 => 0
 | k + 1 => lensTo l k + ((spAt l k).pages.length : Int)
theorem right_room {s : Sp} (h : rightSpace s = true) : (s.pages.length : Int) = AM.totalN s.areas := ((fine_space s).2 h).2.2.1
theorem lens_room (l : List Sp) (h : l.all rightSpace = true) : ∀ k,k <= l.length -> lensTo l k = roomTo l k
 | 0,_ => rfl
 | k + 1,hk => by
  show lensTo l k + _ = roomTo l k + _
  rw [lens_room l h k (by omega)]
  have hm : spAt l k ∈ l := by
   unfold spAt
   rw [List.getD_eq_getElem?_getD,List.getElem?_eq_getElem (show k < l.length by omega)]
   exact List.getElem_mem _
  rw [right_room (List.all_eq_true.1 h _ hm)]
theorem run_succ : ∀ (n : Nat) (p : Int),run p (n + 1) = run p n ++ [p + (n : Int)]
 | 0,p => by show [p] = [] ++ [p + 0];rw [Int.add_zero];rfl
 | n + 1,p => by
  show p :: run (p + 1) (n + 1) = (p :: run (p + 1) n) ++ [p + ((n + 1 : Nat) : Int)]
  rw [run_succ n (p + 1),List.cons_append,show p + 1 + (n : Int) = p + ((n + 1 : Nat) : Int) by omega]
theorem run_split (p : Int) (n m : Nat) (h : n < m) : ∃ t,run p m = run p n ++ (p + (n : Int)) :: t := by
 induction m with
 | zero => omega
 | succ m ih =>
  by_cases e : n = m
  · subst e;exact ⟨[],run_succ n p⟩
  · obtain ⟨t,ht⟩ := ih (by omega)
    exact ⟨t ++ [p + (m : Int)],by rw [run_succ,ht];simp⟩
theorem pagesOf_append : ∀ a b : List AM.Ar,pagesOf (a ++ b) = pagesOf a ++ pagesOf b
 | [],b => rfl
 | x :: a,b => by
  show run x.page x.pages.toNat ++ pagesOf (a ++ b) = (run x.page x.pages.toNat ++ pagesOf a) ++ pagesOf b
  rw [pagesOf_append a b,List.append_assoc]
def pagesTo (l : List AM.Ar) (i : Nat) : List Int := pagesOf (l.take i)
theorem pagesTo_succ (l : List AM.Ar) (i : Nat) (h : i < l.length) : pagesTo l (i + 1) = pagesTo l i ++ run (AM.at_ l i).page (AM.at_ l i).pages.toNat := by
 unfold pagesTo
 rw [List.take_succ_eq_append_getElem h,pagesOf_append]
 have e : AM.at_ l i = l[i] := by
  unfold AM.at_
  rw [List.getD_eq_getElem?_getD,List.getElem?_eq_getElem h]
  rfl
 rw [e]
 show _ ++ (run l[i].page l[i].pages.toNat ++ []) = _
 rw [List.append_nil]
theorem pages_split (l : List AM.Ar) (i : Nat) (hi : i < l.length) (n : Nat) (hn : n < (AM.at_ l i).pages.toNat) : ∃ t,pagesOf l = (pagesTo l i ++ run (AM.at_ l i).page n) ++ ((AM.at_ l i).page + (n : Int)) :: t := by
 obtain ⟨u,hu⟩ := run_split (AM.at_ l i).page n _ hn
 have h1 := pagesTo_succ l i hi
 refine ⟨u ++ pagesOf (l.drop (i + 1)),?_⟩
 have h2 : pagesOf l = pagesTo l (i + 1) ++ pagesOf (l.drop (i + 1)) := by
  unfold pagesTo
  rw [<- pagesOf_append,List.take_append_drop]
 rw [h2,h1,hu]
 simp
theorem pagesTo_all (l : List AM.Ar) : pagesTo l l.length = pagesOf l := by
 unfold pagesTo
 rw [List.take_length]
def eachB (l : List AM.Ar) (ps : List Pg) : Bool := decide (numbers ps = pagesOf l) && sized ps
theorem take_snoc (ps : List Pg) (c : Nat) (h : c < ps.length) : ps.take (c + 1) = ps.take c ++ [pgAt ps c] := by
 rw [List.take_succ_eq_append_getElem h]
 unfold pgAt
 rw [List.getD_eq_getElem?_getD,List.getElem?_eq_getElem h]
 rfl
theorem numbers_snoc (ps : List Pg) (c : Nat) (h : c < ps.length) : numbers (ps.take (c + 1)) = numbers (ps.take c) ++ [(pgAt ps c).page] := by
 rw [take_snoc ps c h]
 unfold numbers
 rw [List.map_append]
 rfl
theorem sized_snoc (ps : List Pg) (c : Nat) (h : c < ps.length) (h1 : sized (ps.take c) = true) (h2 : (pgAt ps c).data.size = 16) : sized (ps.take (c + 1)) = true := by
 rw [take_snoc ps c h]
 unfold sized at h1 ⊢
 rw [List.all_append,h1]
 simp [h2]
theorem each_short {l : List AM.Ar} {ps : List Pg} {pre t : List Int} {x : Int} (hp : numbers (ps.take ps.length) = pre) (ho : pagesOf l = pre ++ x :: t) : eachB l ps = false := by
 unfold eachB
 rw [decide_eq_false,Bool.false_and]
 intro e
 rw [List.take_length] at hp
 rw [hp,ho] at e
 have := congrArg List.length e
 simp at this
theorem each_other {l : List AM.Ar} {ps : List Pg} {pre t : List Int} {x : Int} {c : Nat} (hc : c < ps.length) (hp : numbers (ps.take c) = pre) (ho : pagesOf l = pre ++ x :: t) (hx : (pgAt ps c).page ≠ x) : eachB l ps = false := by
 unfold eachB
 rw [decide_eq_false,Bool.false_and]
 intro e
 have h1 := numbers_snoc ps c hc
 rw [hp] at h1
 have h2 : numbers ps = numbers (ps.take (c + 1)) ++ numbers (ps.drop (c + 1)) := by unfold numbers;rw [<- List.map_append,List.take_append_drop]
 rw [h2,h1,ho,List.append_assoc] at e
 have := List.append_cancel_left e
 simp at this
 exact hx this.1
theorem each_size {l : List AM.Ar} {ps : List Pg} {c : Nat} (hc : c < ps.length) (hx : (pgAt ps c).data.size ≠ 16) : eachB l ps = false := by
 unfold eachB
 have : sized ps = false := by
  unfold sized
  rw [List.all_eq_false]
  exact ⟨pgAt ps c,pgAt_mem hc,by simpa using hx⟩
 rw [this,Bool.and_false]
theorem each_done {l : List AM.Ar} {ps : List Pg} {c : Nat} (hc : c <= ps.length) (hp : numbers (ps.take c) = pagesTo l l.length) (hs : sized (ps.take c) = true) : eachB l ps = decide (c = ps.length) := by
 unfold eachB
 rw [pagesTo_all] at hp
 by_cases e : c = ps.length
 · subst e
   rw [List.take_length] at hp hs
   rw [decide_eq_true hp,decide_eq_true rfl,hs]
   rfl
 · rw [decide_eq_false e,decide_eq_false,Bool.false_and]
   intro g
   rw [<- hp] at g
   have := congrArg List.length g
   unfold numbers at this
   rw [List.length_map,List.length_map,List.length_take] at this
   omega
theorem space_each (s : Sp) : rightSpace s = if s.live then decide (AM.checkN s.areas = 0) && eachB s.areas s.pages else decide (s.areas.length = 0) && decide (s.pages.length = 0) := rfl
def procAt (l : List PM.Pr) (lv : Nat -> Bool) (k : Nat) : Bool := rightProc (prAt l k) && lv k == decide ((prAt l k).st = 1)
def procsTo (l : List PM.Pr) (lv : Nat -> Bool) : Nat -> Bool
 | 0 => true
 | k + 1 => procsTo l lv k && procAt l lv k
def wordB (o : Wd) (n : Nat) : Bool := decide (0 <= o.proc /\ o.proc < (n : Int))
def wordsTo (o : List Wd) (n : Nat) : Nat -> Bool
 | 0 => true
 | k + 1 => wordsTo o n k && wordB (wdAt o k) n
theorem procs_false {l : List PM.Pr} {lv : Nat -> Bool} {k : Nat} (h : procsTo l lv k = false) : ∀ n,k <= n -> procsTo l lv n = false
 | 0, hn => by obtain rfl : k = 0 := by omega
               exact h
 | n + 1,hn => by
  by_cases e : k = n + 1
  · subst e;exact h
  · show (procsTo l lv n && _) = false
    rw [procs_false h n (by omega),Bool.false_and]
theorem words_false {o : List Wd} {m k : Nat} (h : wordsTo o m k = false) : ∀ n,k <= n -> wordsTo o m n = false
 | 0, hn => by obtain rfl : k = 0 := by omega
               exact h
 | n + 1,hn => by
  by_cases e : k = n + 1
  · subst e;exact h
  · show (wordsTo o m n && _) = false
    rw [words_false h n (by omega),Bool.false_and]
theorem procs_all (l : List PM.Pr) (lv : Nat -> Bool) : ∀ n,(List.range n).all (fun i => procAt l lv i) = procsTo l lv n
 | 0 => rfl
 | n + 1 => by
  rw [List.range_succ,List.all_append,procs_all l lv n]
  show (procsTo l lv n && (procAt l lv n && true)) = (procsTo l lv n && procAt l lv n)
  rw [Bool.and_true]
theorem words_take (o : List Wd) (m : Nat) : ∀ n,n <= o.length -> (o.take n).all (fun x => wordB x m) = wordsTo o m n
 | 0,_ => rfl
 | n + 1,h => by
  rw [List.take_succ_eq_append_getElem (show n < o.length by omega),List.all_append,words_take o m n (by omega)]
  have e : wdAt o n = o[n] := by
   unfold wdAt
   rw [List.getD_eq_getElem?_getD,List.getElem?_eq_getElem (show n < o.length by omega)]
   rfl
  show (wordsTo o m n && (wordB o[n] m && true)) = (wordsTo o m n && wordB (wdAt o n) m)
  rw [Bool.and_true,e]
theorem words_all (o : List Wd) (m : Nat) : o.all (fun x => wordB x m) = wordsTo o m o.length := by
 rw [<- words_take o m o.length (Nat.le_refl _),List.take_length]
def rightN (l : List PM.Pr) (o : List Wd) (lv : Nat -> Bool) : Bool := procsTo l lv l.length && wordsTo o l.length o.length
theorem right_flat (f : Fl) : rightProcs f = rightN f.procs f.out (fun k => (spAt f.spaces k).live) := by
 unfold rightN
 rw [<- procs_all,<- words_all]
 rfl
end FM
namespace AW
open Go.RowKit
set_option maxHeartbeats 400000 in
theorem end_any (p n t : Int) (z : Bool) (w : World) (h1 : -9223372036854775808 <= p + n) (h2 : p + n <= 9223372036854775807) :
  Calls Tryz.prog 114 #[.agg #[.int .i64 p,.int .i64 n,.int .i64 t,.bool z]] w fun e w' => e = .returned (.int .i64 (p + n)) /\ Below w.heap.size w w' := by
 go_enter Tryz.func114,Tryz.ntmps114
 go_wp2
 go_ret
 exact ⟨rfl,(Below.refl _ _).alloc (Nat.le_refl _) _⟩
theorem rightPages_any (p n : Int) (w : World) (hp : -9223372036854775808 <= p /\ p <= 9223372036854775807) (hn : -9223372036854775808 <= n /\ n <= 9223372036854775807) :
  Calls Tryz.prog 92 #[.int .i64 p,.int .i64 n] w fun e w' => e = .returned (.bool (AM.pagesB p n)) /\ w = w' := by
 by_cases h1 : 1 <= p
 · by_cases h2 : 1 <= n
   · by_cases h3 : n <= 256 - p
     · have e : AM.pagesB p n = true := by simp [AM.pagesB,h1,h2,h3]
       have h4 : n <= 255 - p + 1 := by omega
       rw [e]
       go_enter Tryz.func92,Tryz.ntmps92
       go_wp2
       go_ret
       exact ⟨rfl,rfl⟩
     · have e : AM.pagesB p n = false := by simp [AM.pagesB];omega
       have h4 : decide (n <= 255 - p + 1) = false := by simp;omega
       rw [e]
       go_enter Tryz.func92,Tryz.ntmps92
       go_wp2
       go_ret
       exact ⟨rfl,rfl⟩
   · have e : AM.pagesB p n = false := by simp [AM.pagesB];omega
     have h4 : decide (1 <= n) = false := by simp;omega
     rw [e]
     go_enter Tryz.func92,Tryz.ntmps92
     go_wp2
     go_ret
     exact ⟨rfl,rfl⟩
 · have e : AM.pagesB p n = false := by simp [AM.pagesB];omega
   have h4 : decide (1 <= p) = false := by simp;omega
   rw [e]
   go_enter Tryz.func92,Tryz.ntmps92
   go_wp2
   go_ret
   exact ⟨rfl,rfl⟩
theorem rightProt_any (p : Int) (w : World) :
  Calls Tryz.prog 93 #[.int .i64 p] w fun e w' => e = .returned (.bool (AM.protB p)) /\ w = w' := by
 by_cases h1 : 0 <= p
 · by_cases h2 : p <= 3
   · have e : AM.protB p = true := by simp [AM.protB,h1,h2]
     rw [e]
     go_enter Tryz.func93,Tryz.ntmps93
     go_wp2
     go_ret
     exact ⟨rfl,rfl⟩
   · have e : AM.protB p = false := by simp [AM.protB];omega
     have h4 : decide (p <= 3) = false := by simp;omega
     rw [e]
     go_enter Tryz.func93,Tryz.ntmps93
     go_wp2
     go_ret
     exact ⟨rfl,rfl⟩
 · have e : AM.protB p = false := by simp [AM.protB];omega
   have h4 : decide (0 <= p) = false := by simp;omega
   rw [e]
   go_enter Tryz.func93,Tryz.ntmps93
   go_wp2
   go_ret
   exact ⟨rfl,rfl⟩
end AW
namespace Q
open Go.RowKit
structure Kin (B : Nat) (w : World) where
 world : World
 keeps : Below B w world
theorem kin_some (w : World) : Nonempty (Kin w.heap.size w) := ⟨⟨w,Below.refl _ _⟩⟩
theorem region_kin {P : Program} {id : Nat} {Q : Exit -> Act -> World -> Prop} {a : Act} {w : World} {l : List Oper} (hm : P.follows .mixedOrders = true) (hB : Region.lexB .any l.toArray = true)
  (h : wpQuiet P l.toArray (fun w' => ∃ x : Kin w.heap.size w,w' = x.world) (fun a' => ∀ w',(∃ x : Kin w.heap.size w,w' = x.world) -> Q .normal a' w') l a) : (Code.region id l.toArray true).wp P Q a w :=
 wp_region_quiet (C := fun w' => ∃ x : Kin w.heap.size w,w' = x.world) hm hB ⟨⟨_,(Below.refl _ _).drew⟩,rfl⟩ (by simpa using h)
theorem calls_kin {P : Program} {f : FuncId} {args : Array Value} {v : Value} {w : World} (h : ∀ W,Calls P f args W fun e w' => e = .returned v /\ Below W.heap.size W w') (x : Kin w.heap.size w) :
  Calls P f args x.world fun e w'' => e = .returned v /\ ∃ y : Kin w.heap.size w,w'' = y.world :=
 (h x.world).mono fun e w'' ⟨he,hb⟩ => ⟨he,⟨w'',x.keeps.trans (hb.mono x.keeps.size)⟩,rfl⟩
theorem cell_kin {w : World} (x : Kin w.heap.size w) (b o : Nat) (h : b < w.heap.size) : x.world.cell? ⟨b,o,none⟩ = w.cell? ⟨b,o,none⟩ := x.keeps.cell (p := ⟨b,o,none⟩) h
end Q
namespace AW
open Go.RowKit
set_option maxHeartbeats 400000 in
theorem mayFollow_eq (ap an at' bp bn bt : Int) (az bz : Bool) (w : World) (h1 : -9223372036854775808 <= ap + an) (h2 : ap + an <= 9223372036854775807) (he : bp = ap + an) :
  Calls Tryz.prog 94 #[.agg #[.int .i64 ap,.int .i64 an,.int .i64 at',.bool az],.agg #[.int .i64 bp,.int .i64 bn,.int .i64 bt,.bool bz]] w fun e w' => e = .returned (.bool (bt != at' || bz != az)) /\ Below w.heap.size w w' := by
 obtain ⟨W,hW⟩ : ∃ W,W = (w.alloc (.cells #[.int .i64 ap,.int .i64 an,.int .i64 at',.bool az] 59)).alloc (.cells #[.int .i64 bp,.int .i64 bn,.int .i64 bt,.bool bz] 59) := ⟨_,rfl⟩
 have hs : W.heap.size = w.heap.size + 2 := by rw [hW];simp
 have hkin := Q.kin_some W
 have hkc := @Q.cell_kin W
 have c0 : ∀ x : Q.Kin W.heap.size W,x.world.cell? ⟨w.heap.size,0,none⟩ = some (.int .i64 ap) := fun x => by rw [hkc x _ _ (by omega),hW];simp
 have c1 : ∀ x : Q.Kin W.heap.size W,x.world.cell? ⟨w.heap.size,1,none⟩ = some (.int .i64 an) := fun x => by rw [hkc x _ _ (by omega),hW];simp
 have c2 : ∀ x : Q.Kin W.heap.size W,x.world.cell? ⟨w.heap.size,2,none⟩ = some (.int .i64 at') := fun x => by rw [hkc x _ _ (by omega),hW];simp
 have c3 : ∀ x : Q.Kin W.heap.size W,x.world.cell? ⟨w.heap.size,3,none⟩ = some (.bool az) := fun x => by rw [hkc x _ _ (by omega),hW];simp
 have d0 : ∀ x : Q.Kin W.heap.size W,x.world.cell? ⟨w.heap.size + 1,0,none⟩ = some (.int .i64 bp) := fun x => by rw [hkc x _ _ (by omega),hW];simp
 have d2 : ∀ x : Q.Kin W.heap.size W,x.world.cell? ⟨w.heap.size + 1,2,none⟩ = some (.int .i64 bt) := fun x => by rw [hkc x _ _ (by omega),hW];simp
 have d3 : ∀ x : Q.Kin W.heap.size W,x.world.cell? ⟨w.heap.size + 1,3,none⟩ = some (.bool bz) := fun x => by rw [hkc x _ _ (by omega),hW];simp
 have hbW : Hid (Below w.heap.size w W) := by show Below _ _ _;rw [hW];exact ((Below.refl _ _).alloc (Nat.le_refl _) _).alloc (by simp) _
 have HW : Hid (W = (w.alloc (.cells #[.int .i64 ap,.int .i64 an,.int .i64 at',.bool az] 59)).alloc (.cells #[.int .i64 bp,.int .i64 bn,.int .i64 bt,.bool bz] 59)) := hW
 clear hW hs hkc
 have hx : (bp == ap + an) = true := by simp [he]
 clear he
 go_enter Tryz.func94,Tryz.ntmps94
 go_wp2_with fail
 rw [<- HW.out]
 refine Q.region_kin (by kernel_rfl) (by kernel_rfl) ?_
 repeat (first | go_big_quiet_step ((go_at_call 114;exact Q.calls_kin (fun W => end_any _ _ _ _ W h1 h2) _)) | quiet_step ((go_at_call 114;exact Q.calls_kin (fun W => end_any _ _ _ _ W h1 h2) _)))
 refine wpQuiet_nil ?_
 intro _ hw'
 obtain ⟨x,hw''⟩ := hw'
 subst hw''
 go_wp2
 all_goals go_ret
 all_goals exact ⟨by first | (simp [*];done) | (simp [*];cases bz <;> cases az <;> rfl),hbW.out.trans (x.keeps.mono hbW.out.size)⟩
set_option maxHeartbeats 400000 in
theorem mayFollow_ne (ap an at' bp bn bt : Int) (az bz : Bool) (w : World) (h1 : -9223372036854775808 <= ap + an) (h2 : ap + an <= 9223372036854775807) (he : ¬ bp = ap + an) :
  Calls Tryz.prog 94 #[.agg #[.int .i64 ap,.int .i64 an,.int .i64 at',.bool az],.agg #[.int .i64 bp,.int .i64 bn,.int .i64 bt,.bool bz]] w fun e w' => e = .returned (.bool (decide (ap + an < bp))) /\ Below w.heap.size w w' := by
 obtain ⟨W,hW⟩ : ∃ W,W = (w.alloc (.cells #[.int .i64 ap,.int .i64 an,.int .i64 at',.bool az] 59)).alloc (.cells #[.int .i64 bp,.int .i64 bn,.int .i64 bt,.bool bz] 59) := ⟨_,rfl⟩
 have hs : W.heap.size = w.heap.size + 2 := by rw [hW];simp
 have hkin := Q.kin_some W
 have hkc := @Q.cell_kin W
 have c0 : ∀ x : Q.Kin W.heap.size W,x.world.cell? ⟨w.heap.size,0,none⟩ = some (.int .i64 ap) := fun x => by rw [hkc x _ _ (by omega),hW];simp
 have c1 : ∀ x : Q.Kin W.heap.size W,x.world.cell? ⟨w.heap.size,1,none⟩ = some (.int .i64 an) := fun x => by rw [hkc x _ _ (by omega),hW];simp
 have c2 : ∀ x : Q.Kin W.heap.size W,x.world.cell? ⟨w.heap.size,2,none⟩ = some (.int .i64 at') := fun x => by rw [hkc x _ _ (by omega),hW];simp
 have c3 : ∀ x : Q.Kin W.heap.size W,x.world.cell? ⟨w.heap.size,3,none⟩ = some (.bool az) := fun x => by rw [hkc x _ _ (by omega),hW];simp
 have d0 : ∀ x : Q.Kin W.heap.size W,x.world.cell? ⟨w.heap.size + 1,0,none⟩ = some (.int .i64 bp) := fun x => by rw [hkc x _ _ (by omega),hW];simp
 have hbW : Hid (Below w.heap.size w W) := by show Below _ _ _;rw [hW];exact ((Below.refl _ _).alloc (Nat.le_refl _) _).alloc (by simp) _
 have HW : Hid (W = (w.alloc (.cells #[.int .i64 ap,.int .i64 an,.int .i64 at',.bool az] 59)).alloc (.cells #[.int .i64 bp,.int .i64 bn,.int .i64 bt,.bool bz] 59)) := hW
 have hs2 : Hid (w.heap.size + 2 <= W.heap.size) := by show _ <= _;omega
 clear hW hs hkc
 have hx : (bp == ap + an) = false := by simp [he]
 clear he
 go_enter Tryz.func94,Tryz.ntmps94
 go_wp2_with fail
 rw [<- HW.out]
 refine Q.region_kin (by kernel_rfl) (by kernel_rfl) ?_
 repeat (first | go_big_quiet_step ((go_at_call 114;exact Q.calls_kin (fun W => end_any _ _ _ _ W h1 h2) _)) | quiet_step ((go_at_call 114;exact Q.calls_kin (fun W => end_any _ _ _ _ W h1 h2) _)))
 refine wpQuiet_nil ?_
 intro _ hw'
 obtain ⟨x,hw''⟩ := hw'
 subst hw''
 have c0x := c0 x
 have c1x := c1 x
 have c2x := c2 x
 have c3x := c3 x
 have d0x := d0 x
 have hsx : Hid (w.heap.size + 2 <= x.world.heap.size) := Nat.le_trans hs2.out x.keeps.size
 have hbx : Hid (Below w.heap.size w x.world) := hbW.out.trans (x.keeps.mono hbW.out.size)
 clear HW c0 c1 c2 c3 d0 hkin hbW hs2
 obtain ⟨V,hV⟩ : ∃ V,V = x.world := ⟨_,rfl⟩
 rw [<- hV] at c0x c1x c2x c3x d0x hsx hbx ⊢
 clear hV
 have hkin := Q.kin_some V
 have hkc := @Q.cell_kin V
 have hsx' := hsx.out
 have c0 : ∀ x : Q.Kin V.heap.size V,x.world.cell? ⟨w.heap.size,0,none⟩ = some (.int .i64 ap) := fun x => by rw [hkc x _ _ (by omega),c0x]
 have c1 : ∀ x : Q.Kin V.heap.size V,x.world.cell? ⟨w.heap.size,1,none⟩ = some (.int .i64 an) := fun x => by rw [hkc x _ _ (by omega),c1x]
 have c2 : ∀ x : Q.Kin V.heap.size V,x.world.cell? ⟨w.heap.size,2,none⟩ = some (.int .i64 at') := fun x => by rw [hkc x _ _ (by omega),c2x]
 have c3 : ∀ x : Q.Kin V.heap.size V,x.world.cell? ⟨w.heap.size,3,none⟩ = some (.bool az) := fun x => by rw [hkc x _ _ (by omega),c3x]
 have d0 : ∀ x : Q.Kin V.heap.size V,x.world.cell? ⟨w.heap.size + 1,0,none⟩ = some (.int .i64 bp) := fun x => by rw [hkc x _ _ (by omega),d0x]
 clear hkc hsx'
 go_wp2_with fail
 refine Q.region_kin (by kernel_rfl) (by kernel_rfl) ?_
 repeat (first | go_big_quiet_step ((go_at_call 114;exact Q.calls_kin (fun W => end_any _ _ _ _ W h1 h2) _)) | quiet_step ((go_at_call 114;exact Q.calls_kin (fun W => end_any _ _ _ _ W h1 h2) _)))
 refine wpQuiet_nil ?_
 intro _ hw'
 obtain ⟨y,hw''⟩ := hw'
 subst hw''
 go_wp2
 go_ret
 exact ⟨rfl,hbx.out.trans (y.keeps.mono hbx.out.size)⟩
theorem mayFollow_any (a b : AM.Ar) (w : World) (h1 : -9223372036854775808 <= a.page + a.pages) (h2 : a.page + a.pages <= 9223372036854775807) :
  Calls Tryz.prog 94 #[.agg #[.int .i64 a.page,.int .i64 a.pages,.int .i64 a.prot,.bool a.zero],.agg #[.int .i64 b.page,.int .i64 b.pages,.int .i64 b.prot,.bool b.zero]] w fun e w' => e = .returned (.bool (AM.followB a b)) /\ Below w.heap.size w w' := by
 unfold AM.followB AM.Ar.last0
 split
 · exact mayFollow_eq _ _ _ _ _ _ _ _ w h1 h2 (by assumption)
 · exact mayFollow_ne _ _ _ _ _ _ _ _ w h1 h2 (by assumption)
end AW
end Go.Proofs.YtkdigjpejnebkaaGreat
