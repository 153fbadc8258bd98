import Derived.Test.YtkdigjpejnebkaaGreatGS03
import Derived.Test.YtkdigjpejnebkaaGreatGS02
set_option linter.unusedVariables false
set_option maxRecDepth 100000
set_option linter.unusedSimpArgs false
namespace Go.Proofs.YtkdigjpejnebkaaGreat
namespace FM
open Go.RowKit
structure Pg where
 page : Int
 data : ByteArray
structure Sp where
 live : Bool
 areas : List AM.Ar
 pages : List Pg
structure Wd where
 proc : Int
 value : Int
structure Fl where
 slots : Int
 spaces : List Sp
 procs : List PM.Pr
 out : List Wd
def pg0 : Pg:=⟨0,⟨#[]⟩⟩
def sp0 : Sp:=⟨false,[],[]⟩
def wd0 : Wd:=⟨0,0⟩
def pr0 : PM.Pr:=⟨fun _=>0,0,0,0,0,0⟩
def pgAt (l : List Pg) (i : Nat) : Pg:=l.getD i pg0
def spAt (l : List Sp) (i : Nat) : Sp:=l.getD i sp0
def wdAt (l : List Wd) (i : Nat) : Wd:=l.getD i wd0
def prAt (l : List PM.Pr) (i : Nat) : PM.Pr:=l.getD i pr0
def noFault (p : PM.Pr) : Bool:=decide (p.fk = 0 /\ p.fa = 0)
def rightProc (p : PM.Pr) : Bool:=if p.st = 1 then decide (p.cd = 0) && noFault p else if p.st = 2 then noFault p else if p.st = 3 then decide (p.cd = 0) && decide (1 <= p.fk /\ p.fk <= 4) else false
def procFine (p : PM.Pr) (live : Bool) : Bool :=
 if !(decide (1 <= p.st /\ p.st <= 3)) || (!(decide (p.cd = 0)) && !(decide (p.st = 2))) || live != decide (p.st = 1) then false
 else if p.st = 3 then decide (1 <= p.fk /\ p.fk <= 4) else noFault p
theorem proc_same (p : PM.Pr) (live : Bool) : procFine p live = (rightProc p && live == decide (p.st = 1)):=by
 unfold procFine rightProc
 by_cases h1 : p.st = 1
 · by_cases h : p.cd = 0 <;> cases live <;> simp [h1,h]
 · by_cases h2 : p.st = 2
   · by_cases h : p.cd = 0 <;> cases live <;> simp [h1,h2,h]
   · by_cases h3 : p.st = 3
     · by_cases h : p.cd = 0 <;> cases live <;> simp [h1,h2,h3,h]
     · have h4 : ¬ (1 <= p.st /\ p.st <= 3):=by omega
       have h5 : decide (1 <= p.st /\ p.st <= 3) = false:=decide_eq_false h4
       simp [h1,h2,h3,h5]
def sized (l : List Pg) : Bool:=l.all fun p=>decide (p.data.size = 16)
def numbers (l : List Pg) : List Int:=l.map (·.page)
def rightSpace (s : Sp) : Bool:=if s.live then decide (AM.checkN s.areas = 0) && (decide (numbers s.pages = pagesOf s.areas) && sized s.pages) else decide (s.areas.length = 0) && decide (s.pages.length = 0)
def roomTo (l : List Sp) : Nat -> Int
 | 0=>0
 | k + 1=>roomTo l k + AM.totalN (spAt l k).areas
def room (l : List Sp) : Int:=roomTo l l.length
def rightCounts (f : Fl) : Bool:=decide (1 <= f.spaces.length /\ f.spaces.length <= 4) && (decide (f.procs.length = f.spaces.length) && (decide (0 <= f.slots /\ f.slots <= 512) && decide (f.out.length <= 2000)))
def rightSpaces (f : Fl) : Bool:=f.spaces.all rightSpace && decide (room f.spaces <= f.slots)
def liveB (f : Fl) (i : Nat) : Bool:=(spAt f.spaces i).live == decide ((prAt f.procs i).st = 1)
def rightProcs (f : Fl) : Bool:=(List.range f.procs.length).all (fun i=>rightProc (prAt f.procs i) && liveB f i) && f.out.all (fun o=>decide (0 <= o.proc /\ o.proc < (f.procs.length : Int)))
def checkF (f : Fl) : Int:=if rightCounts f = false then 2 else if rightSpaces f && rightProcs f then 0 else 1
def pagesFine (s : Sp) : Prop:=(s.pages.length : Int) = AM.totalN s.areas /\ ∀ k,k < s.pages.length -> (AM.findN s.areas (pgAt s.pages k).page).2 = true /\ (0 < k -> (pgAt s.pages (k - 1)).page < (pgAt s.pages k).page) /\ (pgAt s.pages k).data.size = 16
def spaceFine (s : Sp) : Prop:=(s.live = false -> s.areas.length = 0 /\ s.pages.length = 0) /\ AM.checkN s.areas = 0 /\ pagesFine s
theorem rising_pairwise : ∀ (l : List Int),(∀ k,0 < k -> k < l.length -> l.getD (k - 1) 0 < l.getD k 0) -> l.Pairwise (· < ·)
 | [],_=>List.Pairwise.nil
 | [a],_=>List.pairwise_singleton _ _
 | a :: b :: r,h=>by
  have ih:=rising_pairwise (b :: r) (fun k h1 h2=>by
   have:=h (k + 1) (by omega) (by simp at h2 ⊢;omega)
   obtain ⟨j,rfl⟩ : ∃ j,k = j + 1:=⟨k - 1,by omega⟩
   exact this)
  have h0 : a < b:=h 1 (by omega) (by simp)
  rw [List.pairwise_cons] at ih ⊢
  refine ⟨fun x hx=>?_,List.pairwise_cons.2 ih⟩
  rcases List.mem_cons.1 hx with g | g
  · omega
  · have:=ih.1 x g
    omega
theorem pairwise_rising {l : List Int} (h : l.Pairwise (· < ·)) (k : Nat) (h1 : 0 < k) (h2 : k < l.length) : l.getD (k - 1) 0 < l.getD k 0:=by
 have:=List.pairwise_iff_getElem.1 h (k - 1) k (by omega) h2 (by omega)
 rw [List.getD_eq_getElem?_getD,List.getD_eq_getElem?_getD,List.getElem?_eq_getElem h2,List.getElem?_eq_getElem (by omega)]
 exact this
theorem numbers_at (l : List Pg) (k : Nat) : (numbers l).getD k 0 = (pgAt l k).page:=by
 unfold numbers pgAt
 rw [List.getD_eq_getElem?_getD,List.getD_eq_getElem?_getD,List.getElem?_map]
 cases l[k]? <;> rfl
theorem pgAt_mem {l : List Pg} {k : Nat} (h : k < l.length) : pgAt l k ∈ l:=by
 unfold pgAt
 rw [List.getD_eq_getElem?_getD,List.getElem?_eq_getElem h]
 exact List.getElem_mem h
theorem mem_pgAt {l : List Pg} {p : Pg} (h : p ∈ l) : ∃ k,k < l.length /\ pgAt l k = p:=by
 obtain ⟨k,hk⟩:=List.getElem?_of_mem h
 have hlt : k < l.length:=by
  rcases Nat.lt_or_ge k l.length with g | g
  · exact g
  · rw [List.getElem?_eq_none g] at hk
    cases hk
 refine ⟨k,hlt,?_⟩
 unfold pgAt
 rw [List.getD_eq_getElem?_getD,hk]
 rfl
theorem fine_pages {s : Sp} (hc : AM.checkN s.areas = 0) : pagesFine s ↔ numbers s.pages = pagesOf s.areas /\ sized s.pages = true:=by
 have hlen : (numbers s.pages).length = s.pages.length:=List.length_map _
 have hsz : sized s.pages = true ↔ ∀ p ∈ s.pages,p.data.size = 16:=by
  unfold sized
  rw [List.all_eq_true]
  exact ⟨fun h p hp=>of_decide_eq_true (h p hp),fun h p hp=>decide_eq_true (h p hp)⟩
 rw [hsz,<- pages_same hc,hlen]
 constructor
 · rintro ⟨h1,h2⟩
   refine ⟨⟨h1,fun x hx=>?_,rising_pairwise _ (fun k g1 g2=>?_)⟩,fun p hp=>?_⟩
   · obtain ⟨p,hp,rfl⟩:=List.mem_map.1 hx
     obtain ⟨k,hk,rfl⟩:=mem_pgAt hp
     exact (h2 k hk).1
   · rw [numbers_at,numbers_at]
     exact (h2 k (by omega)).2.1 g1
   · obtain ⟨k,hk,rfl⟩:=mem_pgAt hp
     exact (h2 k hk).2.2
 · rintro ⟨⟨h1,h2,h3⟩,h4⟩
   refine ⟨h1,fun k hk=>⟨h2 _ (List.mem_map_of_mem (pgAt_mem hk)),fun g=>?_,h4 _ (pgAt_mem hk)⟩⟩
   have:=pairwise_rising h3 k g (by omega)
   rw [numbers_at,numbers_at] at this
   exact this
theorem fine_space (s : Sp) : spaceFine s ↔ rightSpace s = true:=by
 unfold spaceFine rightSpace
 cases hl : s.live with
 | true =>
  simp only [if_true,Bool.and_eq_true,decide_eq_true_eq]
  constructor
  · rintro ⟨_,h2,h3⟩
    exact ⟨h2,(fine_pages h2).1 h3⟩
  · rintro ⟨h2,h3⟩
    exact ⟨(fun h=>by cases h),h2,(fine_pages h2).2 h3⟩
 | false =>
  simp only [Bool.false_eq_true,if_false,Bool.and_eq_true,decide_eq_true_eq]
  constructor
  · rintro ⟨h1,_,_⟩
    exact h1 trivial
  · rintro ⟨h1,h2⟩
    have ha : s.areas = []:=List.length_eq_zero_iff.1 h1
    have hp : s.pages = []:=List.length_eq_zero_iff.1 h2
    have hc : AM.checkN s.areas = 0:=by rw [ha];rfl
    refine ⟨fun _=>⟨h1,h2⟩,hc,(fine_pages hc).2 ⟨by rw [ha,hp];rfl,by rw [hp];rfl⟩⟩
def lensTo (l : List Sp) : Nat -> Int
 | 0=>0
 | k + 1=>lensTo l k + ((spAt l k).pages.length : Int)
theorem right_room {s : Sp} (h : rightSpace s = true) : (s.pages.length : Int) = AM.totalN s.areas:=((fine_space s).2 h).2.2.1
theorem lens_room (l : List Sp) (h : l.all rightSpace = true) : ∀ k,k <= l.length -> lensTo l k = roomTo l k
 | 0,_=>rfl
 | k + 1,hk=>by
  show lensTo l k + _ = roomTo l k + _
  rw [lens_room l h k (by omega)]
  have hm : spAt l k ∈ l:=by
   unfold spAt
   rw [List.getD_eq_getElem?_getD,List.getElem?_eq_getElem (show k < l.length by omega)]
   exact List.getElem_mem _
  rw [right_room (List.all_eq_true.1 h _ hm)]
theorem run_succ : ∀ (n : Nat) (p : Int),run p (n + 1) = run p n ++ [p + (n : Int)]
 | 0,p=>by show [p] = [] ++ [p + 0];rw [Int.add_zero];rfl
 | n + 1,p=>by
  show p :: run (p + 1) (n + 1) = (p :: run (p + 1) n) ++ [p + ((n + 1 : Nat) : Int)]
  rw [run_succ n (p + 1),List.cons_append,show p + 1 + (n : Int) = p + ((n + 1 : Nat) : Int) by omega]
theorem run_split (p : Int) (n m : Nat) (h : n < m) : ∃ t,run p m = run p n ++ (p + (n : Int)) :: t:=by
 induction m with
 | zero=>omega
 | succ m ih =>
  by_cases e : n = m
  · subst e;exact ⟨[],run_succ n p⟩
  · obtain ⟨t,ht⟩:=ih (by omega)
    exact ⟨t ++ [p + (m : Int)],by rw [run_succ,ht];simp⟩
theorem pagesOf_append : ∀ a b : List AM.Ar,pagesOf (a ++ b) = pagesOf a ++ pagesOf b
 | [],b=>rfl
 | x :: a,b=>by
  show run x.page x.pages.toNat ++ pagesOf (a ++ b) = (run x.page x.pages.toNat ++ pagesOf a) ++ pagesOf b
  rw [pagesOf_append a b,List.append_assoc]
def pagesTo (l : List AM.Ar) (i : Nat) : List Int:=pagesOf (l.take i)
theorem pagesTo_succ (l : List AM.Ar) (i : Nat) (h : i < l.length) : pagesTo l (i + 1) = pagesTo l i ++ run (AM.at_ l i).page (AM.at_ l i).pages.toNat:=by
 unfold pagesTo
 rw [List.take_succ_eq_append_getElem h,pagesOf_append]
 have e : AM.at_ l i = l[i]:=by
  unfold AM.at_
  rw [List.getD_eq_getElem?_getD,List.getElem?_eq_getElem h]
  rfl
 rw [e]
 show _ ++ (run l[i].page l[i].pages.toNat ++ []) = _
 rw [List.append_nil]
theorem pages_split (l : List AM.Ar) (i : Nat) (hi : i < l.length) (n : Nat) (hn : n < (AM.at_ l i).pages.toNat) : ∃ t,pagesOf l = (pagesTo l i ++ run (AM.at_ l i).page n) ++ ((AM.at_ l i).page + (n : Int)) :: t:=by
 obtain ⟨u,hu⟩:=run_split (AM.at_ l i).page n _ hn
 have h1:=pagesTo_succ l i hi
 refine ⟨u ++ pagesOf (l.drop (i + 1)),?_⟩
 have h2 : pagesOf l = pagesTo l (i + 1) ++ pagesOf (l.drop (i + 1)):=by
  unfold pagesTo
  rw [<- pagesOf_append,List.take_append_drop]
 rw [h2,h1,hu]
 simp
theorem pagesTo_all (l : List AM.Ar) : pagesTo l l.length = pagesOf l:=by
 unfold pagesTo
 rw [List.take_length]
def eachB (l : List AM.Ar) (ps : List Pg) : Bool:=decide (numbers ps = pagesOf l) && sized ps
theorem take_snoc (ps : List Pg) (c : Nat) (h : c < ps.length) : ps.take (c + 1) = ps.take c ++ [pgAt ps c]:=by
 rw [List.take_succ_eq_append_getElem h]
 unfold pgAt
 rw [List.getD_eq_getElem?_getD,List.getElem?_eq_getElem h]
 rfl
theorem numbers_snoc (ps : List Pg) (c : Nat) (h : c < ps.length) : numbers (ps.take (c + 1)) = numbers (ps.take c) ++ [(pgAt ps c).page]:=by
 rw [take_snoc ps c h]
 unfold numbers
 rw [List.map_append]
 rfl
theorem sized_snoc (ps : List Pg) (c : Nat) (h : c < ps.length) (h1 : sized (ps.take c) = true) (h2 : (pgAt ps c).data.size = 16) : sized (ps.take (c + 1)) = true:=by
 rw [take_snoc ps c h]
 unfold sized at h1 ⊢
 rw [List.all_append,h1]
 simp [h2]
theorem each_short {l : List AM.Ar} {ps : List Pg} {pre t : List Int} {x : Int} (hp : numbers (ps.take ps.length) = pre) (ho : pagesOf l = pre ++ x :: t) : eachB l ps = false:=by
 unfold eachB
 rw [decide_eq_false,Bool.false_and]
 intro e
 rw [List.take_length] at hp
 rw [hp,ho] at e
 have:=congrArg List.length e
 simp at this
theorem each_other {l : List AM.Ar} {ps : List Pg} {pre t : List Int} {x : Int} {c : Nat} (hc : c < ps.length) (hp : numbers (ps.take c) = pre) (ho : pagesOf l = pre ++ x :: t) (hx : (pgAt ps c).page ≠ x) : eachB l ps = false:=by
 unfold eachB
 rw [decide_eq_false,Bool.false_and]
 intro e
 have h1:=numbers_snoc ps c hc
 rw [hp] at h1
 have h2 : numbers ps = numbers (ps.take (c + 1)) ++ numbers (ps.drop (c + 1)):=by unfold numbers;rw [<- List.map_append,List.take_append_drop]
 rw [h2,h1,ho,List.append_assoc] at e
 have:=List.append_cancel_left e
 simp at this
 exact hx this.1
theorem each_size {l : List AM.Ar} {ps : List Pg} {c : Nat} (hc : c < ps.length) (hx : (pgAt ps c).data.size ≠ 16) : eachB l ps = false:=by
 unfold eachB
 have : sized ps = false:=by
  unfold sized
  rw [List.all_eq_false]
  exact ⟨pgAt ps c,pgAt_mem hc,by simpa using hx⟩
 rw [this,Bool.and_false]
theorem each_done {l : List AM.Ar} {ps : List Pg} {c : Nat} (hc : c <= ps.length) (hp : numbers (ps.take c) = pagesTo l l.length) (hs : sized (ps.take c) = true) : eachB l ps = decide (c = ps.length):=by
 unfold eachB
 rw [pagesTo_all] at hp
 by_cases e : c = ps.length
 · subst e
   rw [List.take_length] at hp hs
   rw [decide_eq_true hp,decide_eq_true rfl,hs]
   rfl
 · rw [decide_eq_false e,decide_eq_false,Bool.false_and]
   intro g
   rw [<- hp] at g
   have:=congrArg List.length g
   unfold numbers at this
   rw [List.length_map,List.length_map,List.length_take] at this
   omega
theorem space_each (s : Sp) : rightSpace s = if s.live then decide (AM.checkN s.areas = 0) && eachB s.areas s.pages else decide (s.areas.length = 0) && decide (s.pages.length = 0):=rfl
def procAt (l : List PM.Pr) (lv : Nat -> Bool) (k : Nat) : Bool:=rightProc (prAt l k) && lv k == decide ((prAt l k).st = 1)
def procsTo (l : List PM.Pr) (lv : Nat -> Bool) : Nat -> Bool
 | 0=>true
 | k + 1=>procsTo l lv k && procAt l lv k
def wordB (o : Wd) (n : Nat) : Bool:=decide (0 <= o.proc /\ o.proc < (n : Int))
def wordsTo (o : List Wd) (n : Nat) : Nat -> Bool
 | 0=>true
 | k + 1=>wordsTo o n k && wordB (wdAt o k) n
theorem procs_false {l : List PM.Pr} {lv : Nat -> Bool} {k : Nat} (h : procsTo l lv k = false) : ∀ n,k <= n -> procsTo l lv n = false
 | 0, hn => by obtain rfl : k = 0 := by omega
               exact h
 | n + 1,hn=>by
  by_cases e : k = n + 1
  · subst e;exact h
  · show (procsTo l lv n && _) = false
    rw [procs_false h n (by omega),Bool.false_and]
theorem words_false {o : List Wd} {m k : Nat} (h : wordsTo o m k = false) : ∀ n,k <= n -> wordsTo o m n = false
 | 0, hn => by obtain rfl : k = 0 := by omega
               exact h
 | n + 1,hn=>by
  by_cases e : k = n + 1
  · subst e;exact h
  · show (wordsTo o m n && _) = false
    rw [words_false h n (by omega),Bool.false_and]
theorem procs_all (l : List PM.Pr) (lv : Nat -> Bool) : ∀ n,(List.range n).all (fun i=>procAt l lv i) = procsTo l lv n
 | 0=>rfl
 | n + 1=>by
  rw [List.range_succ,List.all_append,procs_all l lv n]
  show (procsTo l lv n && (procAt l lv n && true)) = (procsTo l lv n && procAt l lv n)
  rw [Bool.and_true]
theorem words_take (o : List Wd) (m : Nat) : ∀ n,n <= o.length -> (o.take n).all (fun x=>wordB x m) = wordsTo o m n
 | 0,_=>rfl
 | n + 1,h=>by
  rw [List.take_succ_eq_append_getElem (show n < o.length by omega),List.all_append,words_take o m n (by omega)]
  have e : wdAt o n = o[n]:=by
   unfold wdAt
   rw [List.getD_eq_getElem?_getD,List.getElem?_eq_getElem (show n < o.length by omega)]
   rfl
  show (wordsTo o m n && (wordB o[n] m && true)) = (wordsTo o m n && wordB (wdAt o n) m)
  rw [Bool.and_true,e]
theorem words_all (o : List Wd) (m : Nat) : o.all (fun x=>wordB x m) = wordsTo o m o.length:=by
 rw [<- words_take o m o.length (Nat.le_refl _),List.take_length]
def rightN (l : List PM.Pr) (o : List Wd) (lv : Nat -> Bool) : Bool:=procsTo l lv l.length && wordsTo o l.length o.length
theorem right_flat (f : Fl) : rightProcs f = rightN f.procs f.out (fun k=>(spAt f.spaces k).live):=by
 unfold rightN
 rw [<- procs_all,<- words_all]
 rfl
end FM
namespace AM
open Go.RowKit
def turned (F : Nat -> St) (how : St -> St × Int) (page t : Int) : Nat -> St:=fun k=>if page <= (k : Int) /\ (k : Int) < t then (how (F k)).1 else F k
def errFrom (F : Nat -> St) (how : St -> St × Int) : Nat -> Nat -> Int
 | _,0=>0
 | n,c + 1=>if (how (F n)).2 = 0 then errFrom F how (n + 1) c else (how (F n)).2
def turnN (l : List Ar) (page pages prot : Int) (how : St -> St × Int) : List Ar × Int :=
 if checkN l = 0 then
  if pagesB page pages && protB prot then
   if errFrom (spreadN l) how page.toNat pages.toNat = 0 then (gatherN (turned (spreadN l) how page (page + pages)),0)
   else ([],errFrom (spreadN l) how page.toNat pages.toNat)
  else ([],3)
 else ([],checkN l)
theorem turned_begin (F : Nat -> St) (how : St -> St × Int) (page : Int) : turned F how page page = F:=by
 funext k;simp only [turned];rw [if_neg (by omega)]
theorem turned_at (F : Nat -> St) (how : St -> St × Int) (page : Int) (n : Nat) : turned F how page n n = F n:=by
 simp only [turned];rw [if_neg (by omega)]
theorem turned_step (F : Nat -> St) (how : St -> St × Int) (page : Int) (n : Nat) (h : page <= (n : Int)) : upd (turned F how page n) n (how (F n)).1 = turned F how page ((n : Int) + 1):=by
 funext k
 simp only [upd,turned]
 by_cases e : k = n
 · subst e;rw [if_pos rfl,if_pos ⟨h,by omega⟩]
 · rw [if_neg e]
   by_cases c : page <= (k : Int) /\ (k : Int) < n
   · rw [if_pos c,if_pos ⟨c.1,by omega⟩]
   · rw [if_neg c,if_neg (by omega)]
theorem errFrom_zero (F : Nat -> St) (how : St -> St × Int) : ∀ (c n : Nat),(∀ k,n <= k -> k < n + c -> (how (F k)).2 = 0) -> errFrom F how n c = 0
 | 0,_,_=>rfl
 | c + 1,n,h=>by
  simp only [errFrom]
  rw [if_pos (h n (by omega) (by omega))]
  exact errFrom_zero F how c (n + 1) (fun k h1 h2=>h k (by omega) (by omega))
theorem errFrom_at (F : Nat -> St) (how : St -> St × Int) : ∀ (c n m : Nat),n <= m -> m < n + c -> (∀ k,n <= k -> k < m -> (how (F k)).2 = 0) -> (how (F m)).2 ≠ 0 -> errFrom F how n c = (how (F m)).2
 | 0,n,m,h1,h2,_,_=>by omega
 | c + 1,n,m,h1,h2,h,hm=>by
  simp only [errFrom]
  by_cases e : n = m
  · subst e;rw [if_neg hm]
  · rw [if_pos (h n (by omega) (by omega))]
    exact errFrom_at F how c (n + 1) m (by omega) (by omega) (fun k h1 h2=>h k (by omega) h2) hm
theorem pagesB_iff (p n : Int) : pagesB p n = true ↔ 1 <= p /\ 1 <= n /\ n <= 256 - p:=by simp [pagesB]
end AM
namespace AW
open Go.RowKit
set_option maxHeartbeats 2000000 in
theorem turn_map_own (l : List AM.Ar) (v : Value) (page pages q : Int) (P : Nat) (w : World) (h : Has w v l) (hf : AllFit l) (hp : -9223372036854775808 <= page /\ page <= 9223372036854775807) (hn : -9223372036854775808 <= pages /\ pages <= 9223372036854775807) (hP : w.cell? ⟨P,0,none⟩ = some (.int .i64 q)) :
  Calls Tryz.prog 143 #[v,.int .i64 page,.int .i64 pages,.int .i64 q,.func (.func 144) #[] #[.pointer (some ⟨P,0,none⟩)]] w fun e w'=>∃ r,e = .returned (.tuple #[r,.int .i64 (AM.turnN l page pages q (howMap q)).2]) /\ Own w.heap.size w' r (AM.turnN l page pages q (howMap q)).1 /\ Below w.heap.size w w':=by
 by_cases hc : AM.checkN l = 0
 · by_cases hpp : AM.pagesB page pages = true
   · by_cases hqq : AM.protB q = true
     · have HT : Hid (AM.turnN l page pages q (howMap q) = if AM.errFrom (AM.spreadN l) (howMap q) page.toNat pages.toNat = 0 then (AM.gatherN (AM.turned (AM.spreadN l) (howMap q) page (page + pages)),0) else ([],AM.errFrom (AM.spreadN l) (howMap q) page.toNat pages.toNat)):=by
        show _ = _;simp [AM.turnN,hc,hpp,hqq]
       have hpb:=(AM.pagesB_iff page pages).1 hpp
       obtain ⟨Z,hZ⟩ : ∃ Z,Z = AM.cellsL (fun _=>AM.off):=⟨_,rfl⟩
       have hz:=zv56
       rw [<- hZ] at hz
       have hZs : Z.size = 768:=by rw [hZ];exact AM.cellsL_size _
       clear hZ
       go_enter Tryz.func143,Tryz.ntmps143
       go_wp2_with fail
       refine (check_any l v _ h hf).mono ?_
       rintro e w1 ⟨rfl,hb1⟩
       rw [hc]
       have HC : Hid (AM.checkN l = 0):=hc
       clear hc
       go_wp2_with fail
       refine (rightPages_any _ _ _ hp hn).mono ?_
       rintro e w' ⟨rfl,rfl⟩
       go_wp2_with fail
       refine (rightProt_any _ _).mono ?_
       rintro e w' ⟨rfl,rfl⟩
       go_wp2_with fail
       refine (spread_any l v _ (h.below hb1) HC.out).mono ?_
       rintro e w2 ⟨rfl,hb2⟩
       have HB2 : Hid (Below w.heap.size w w2):=hb1.trans (hb2.mono hb1.size)
       obtain ⟨F,hF⟩ : ∃ F,F = AM.spreadN l:=⟨_,rfl⟩
       rw [<- hF] at HT ⊢
       obtain ⟨C,hC⟩ : ∃ C,C = AM.cellsL F:=⟨_,rfl⟩
       have hCs : C.size = 768:=by rw [hC];exact AM.cellsL_size _
       have HCF : Hid (C = AM.cellsL F):=hC
       rw [<- hC]
       clear hb1 hb2 hF hC hpp hqq
       have hn2 : Hid ((w2.alloc (.cells Z 256)).heap[w2.heap.size]? = some (.cells Z 256 (0,0))):=B.new w2 Z 256
       go_wp2_with (refine wpList_store_row rfl 256 _ _ rfl w2.heap.size C rfl rfl 256 Z hn2.out (by rw [hCs];exact size56) (by rw [hZs,hCs]) (by rw [HCF.out];exact AM.cellsL_one _) ?_)
       have HA0 : Hid (((w2.alloc (.cells Z 256)).setRow w2.heap.size C).heap[w2.heap.size]? = some (.cells C 256 (0,0))):=setRow_heap _ _ _ _ 256 (0,0) hn2.out
       have HB3 : Hid (Below w.heap.size w ((w2.alloc (.cells Z 256)).setRow w2.heap.size C)):=below_setRow (HB2.out.alloc HB2.out.size _) HB2.out.size _
       have hsz2:=HB2.out.size
       go_loopw [14] (fun t wr=>∃ n : Nat,page <= (n : Int) /\ (n : Int) <= page + pages /\ t = .int .i64 n /\ (∀ k : Nat,page.toNat <= k -> k < n -> ((howMap q) (F k)).2 = 0) /\ wr.heap[w2.heap.size]? = some (.cells (AM.cellsL (AM.turned F (howMap q) page n)) 256 (0,0)) /\ Below w.heap.size w wr) (fun t _=>(page + pages - intOf t).toNat)
       case atStart =>
        refine ⟨page.toNat,by omega,by omega,by rw [Int.toNat_of_nonneg (by omega)],fun k h1 h2=>by omega,?_,HB3.out⟩
        rw [Int.toNat_of_nonneg (by omega),AM.turned_begin,<- HCF.out]
        exact HA0.out
       case round =>
        obtain ⟨n,hn1,hn3,rfl,hno,hA,hb⟩:=hrel
        have HN : Hid (∀ k : Nat,page.toNat <= k -> k < n -> ((howMap q) (F k)).2 = 0):=hno
        have HA : Hid (wr.heap[w2.heap.size]? = some (.cells (AM.cellsL (AM.turned F (howMap q) page n)) 256 (0,0))):=hA
        have HB : Hid (Below w.heap.size w wr):=hb
        have hAl : w2.heap.size < wr.heap.size:=B.isLt hA
        have hPw : wr.cell? ⟨P,0,none⟩ = some (.int .i64 q):=(hb.cell (p:=⟨P,0,none⟩) (World.block_lt_of_cell? w _ hP)).trans hP
        by_cases hin : (n : Int) < page + pages
        · have z0:=B.cell hA (n * 3) (AM.cellsL_get0 _ n (by omega))
          have z1:=B.cell hA (n * 3 + 1) (AM.cellsL_get1 _ n (by omega))
          have z2:=B.cell hA (n * 3 + 2) (AM.cellsL_get2 _ n (by omega))
          rw [AM.turned_at] at z0 z1 z2
          have hn256 : (n : Int) < 256:=by omega
          clear hno hA hb
          obtain ⟨s,hs⟩ : ∃ s,s = F n:=⟨_,rfl⟩
          rw [<- hs] at z0 z1 z2
          have HS : Hid (s = F n):=hs
          clear hs
          go_wp2_with fail
          refine (map1_any s q P _ hPw).mono ?_
          rintro e w3 ⟨rfl,hb3⟩
          have bA:=B.below HA.out hb3 hAl
          have y0:=B.cell bA (n * 3) (AM.cellsL_get0 _ n (by omega))
          have y1:=B.cell bA (n * 3 + 1) (AM.cellsL_get1 _ n (by omega))
          have y2:=B.cell bA (n * 3 + 2) (AM.cellsL_get2 _ n (by omega))
          have yf:=B.free bA
          have HA3 : Hid (w3.heap[w2.heap.size]? = some (.cells (AM.cellsL (AM.turned F (howMap q) page n)) 256 (0,0))):=bA
          have HBB : Hid (Below w.heap.size w w3):=HB.out.trans (hb3.mono HB.out.size)
          have hsz3 : w2.heap.size < w3.heap.size:=B.isLt bA
          clear bA hb3 z0 z1 z2
          obtain ⟨r,hr⟩ : ∃ r,r = (howMap q) s:=⟨_,rfl⟩
          rw [<- hr]
          have HR : Hid (r = (howMap q) s):=hr
          clear hr
          unfold aggSt
          by_cases he : r.2 = 0
          · have he' : (r.2 != 0) = false:=by simp [he]
            have HE : Hid (r.2 = 0):=he
            clear he
            go_wp2
            go_roundw
            case rel =>
             have hset:=B.set (B.set (B.set HA3.out (n * 3) (.bool r.1.m)) (n * 3 + 1) (.int .i64 r.1.p)) (n * 3 + 2) (.bool r.1.z)
             have est:=AM.turned_step F (howMap q) page n hn1
             rw [<- HS.out,<- HR.out] at est
             rw [AM.cellsL_set (AM.turned F (howMap q) page n) n r.1 (by omega),est] at hset
             refine ⟨n + 1,by omega,by omega,by go_num,fun k h1 h2=>if e : k = n then by rw [e,<- HS.out,<- HR.out];exact HE.out else HN.out k h1 (by omega),?_,?_⟩
             · rw [show ((n + 1 : Nat) : Int) = (n : Int) + 1 from by omega]
               exact B.alloc hset _
             · have hb4:=((HBB.out.setCell (p:=⟨w2.heap.size,n * 3,none⟩) hsz2 (.bool r.1.m)).setCell (p:=⟨w2.heap.size,n * 3 + 1,none⟩) hsz2 (.int .i64 r.1.p)).setCell (p:=⟨w2.heap.size,n * 3 + 2,none⟩) hsz2 (.bool r.1.z)
               exact hb4.alloc hb4.size _
            case measure=>simp [intOf];omega
          · have he' : (r.2 != 0) = true:=by simpa using he
            have HE : Hid (r.2 ≠ 0):=he
            clear he
            have ht : Hid (AM.turnN l page pages q (howMap q) = ([],r.2)):=by
             have herr : AM.errFrom F (howMap q) page.toNat pages.toNat = r.2:=by
              rw [HR.out,HS.out]
              exact AM.errFrom_at F (howMap q) _ _ n (by omega) (by omega) HN.out (by rw [<- HS.out,<- HR.out];exact HE.out)
             show _ = _
             rw [HT.out,herr,if_neg HE.out]
            go_wp2
            go_ret2
            exact ⟨.slice none 0 0,by rw [ht.out];rfl,by rw [ht.out];exact Own.nil _ _,HBB.out.alloc HBB.out.size _⟩
        · have hend : Hid ((n : Int) = page + pages):=by show _ = _;omega
          have ht : Hid (AM.turnN l page pages q (howMap q) = (AM.gatherN (AM.turned F (howMap q) page n),0)):=by
           have herr : AM.errFrom F (howMap q) page.toNat pages.toNat = 0:=AM.errFrom_zero F (howMap q) _ _ (fun k h1 h2=>HN.out k h1 (by have:=hend.out;omega))
           show _ = _
           rw [HT.out,herr,if_pos rfl,hend.out]
          clear hno hA hb
          go_wp2_with (refine wpList_load_row rfl 256 _ rfl w2.heap.size rfl 256 _ (0,0) _ HA.out Tryz.underlying256 rfl (by rw [AM.cellsL_size];exact size56) ?_)
          refine (gather_own _ _).mono ?_
          rintro e w4 ⟨r,rfl,hr,hb4⟩
          go_wp2
          go_ret2
          exact ⟨r,by rw [ht.out];rfl,by rw [ht.out];exact hr.mono HB.out.size,HB.out.trans (hb4.mono HB.out.size)⟩
     · have hqq' : AM.protB q = false:=by simpa using hqq
       have HT : Hid (AM.turnN l page pages q (howMap q) = ([],3)):=by show _ = _;simp [AM.turnN,hc,hpp,hqq']
       clear hqq
       go_enter Tryz.func143,Tryz.ntmps143
       go_wp2_with fail
       refine (check_any l v _ h hf).mono ?_
       rintro e w1 ⟨rfl,hb1⟩
       rw [hc]
       clear hc
       go_wp2_with fail
       refine (rightPages_any _ _ _ hp hn).mono ?_
       rintro e w' ⟨rfl,rfl⟩
       go_wp2_with fail
       refine (rightProt_any _ _).mono ?_
       rintro e w' ⟨rfl,rfl⟩
       go_wp2
       go_ret2
       exact ⟨.slice none 0 0,by rw [HT.out];rfl,by rw [HT.out];exact Own.nil _ _,hb1⟩
   · have hpp' : AM.pagesB page pages = false:=by simpa using hpp
     have HT : Hid (AM.turnN l page pages q (howMap q) = ([],3)):=by show _ = _;simp [AM.turnN,hc,hpp']
     clear hpp
     go_enter Tryz.func143,Tryz.ntmps143
     go_wp2_with fail
     refine (check_any l v _ h hf).mono ?_
     rintro e w1 ⟨rfl,hb1⟩
     rw [hc]
     clear hc
     go_wp2_with fail
     refine (rightPages_any _ _ _ hp hn).mono ?_
     rintro e w' ⟨rfl,rfl⟩
     go_wp2
     go_ret2
     exact ⟨.slice none 0 0,by rw [HT.out];rfl,by rw [HT.out];exact Own.nil _ _,hb1⟩
 · have HT : Hid (AM.turnN l page pages q (howMap q) = ([],AM.checkN l)):=by show _ = _;simp [AM.turnN,hc]
   have hc' : (AM.checkN l != 0) = true:=by simpa using hc
   go_enter Tryz.func143,Tryz.ntmps143
   go_wp2_with fail
   refine (check_any l v _ h hf).mono ?_
   rintro e w1 ⟨rfl,hb1⟩
   go_wp2
   go_ret2
   exact ⟨.slice none 0 0,by rw [HT.out];rfl,by rw [HT.out];exact Own.nil _ _,hb1⟩
end AW
end Go.Proofs.YtkdigjpejnebkaaGreat
