import Derived.Test.YtpgifpeohlllfaaGreatGI00
import Derived.Test.YtpgifpeohlllfaaGreatGI01
set_option maxHeartbeats 20000000
set_option linter.unusedVariables false
set_option maxRecDepth 100000
set_option linter.unusedSimpArgs false
namespace Go.Proofs.YtpgifpeohlllfaaGreat
namespace FM
open Go.RowKit
def noRight (prot way : Int) : Bool:=decide ((way = 1 /\ prot % 2 = 0) ∨ (way = 2 /\ prot < 2))
def byteN (l : List AM.Ar) (p way : Int) : Int × Int :=
 if p < 0 ∨ (AM.findN l (p / 16)).2 = false then (1,p) else if noRight (AM.findN l (p / 16)).1.prot way = true then (2,p) else (0,0)
def bytesN (l : List AM.Ar) (a way : Int) : Nat -> Int × Int
 | 0=>(0,0)
 | n + 1=>if (bytesN l a way n).1 = 0 then byteN l (a + n) way else bytesN l a way n
def faultN (l : List AM.Ar) (a size way : Int) : Int × Int:=if way = 2 /\ ¬ a % 8 = 0 then (3,a) else bytesN l a way size.toNat
theorem byte_zero {l : List AM.Ar} {p way : Int} (h : (byteN l p way).1 = 0) : byteN l p way = (0,0) /\ 0 <= p /\ (AM.findN l (p / 16)).2 = true /\ noRight (AM.findN l (p / 16)).1.prot way = false:=by
 unfold byteN at h ⊢
 by_cases c : p < 0 ∨ (AM.findN l (p / 16)).2 = false
 · rw [if_pos c] at h
   cases h
 · rw [if_neg c] at h ⊢
   cases d : noRight (AM.findN l (p / 16)).1.prot way with
   | true=>rw [d] at h;cases h
   | false =>
    refine ⟨rfl,by omega,?_,rfl⟩
    cases e : (AM.findN l (p / 16)).2 with
    | true=>rfl
    | false=>exact (c (.inr e)).elim
theorem byte_map {l : List AM.Ar} {p way : Int} (h : p < 0 ∨ (AM.findN l (p / 16)).2 = false) : byteN l p way = (1,p):=by unfold byteN;rw [if_pos h]
theorem byte_right {l : List AM.Ar} {p way : Int} (h : 0 <= p) (h2 : (AM.findN l (p / 16)).2 = true) (h3 : noRight (AM.findN l (p / 16)).1.prot way = true) : byteN l p way = (2,p):=by
 unfold byteN
 rw [if_neg (by rw [h2];intro g;rcases g with g | g;omega;cases g),if_pos h3]
theorem byte_ok {l : List AM.Ar} {p way : Int} (h : 0 <= p) (h2 : (AM.findN l (p / 16)).2 = true) (h3 : noRight (AM.findN l (p / 16)).1.prot way = false) : byteN l p way = (0,0):=by
 unfold byteN
 rw [if_neg (by rw [h2];intro g;rcases g with g | g;omega;cases g),h3]
 rfl
theorem bytes_fell {l : List AM.Ar} {a way : Int} {k : Nat} {f : Int × Int} (h : bytesN l a way k = f) (hf : ¬ f.1 = 0) : ∀ n,k <= n -> bytesN l a way n = f
 | 0, hn => by obtain rfl : k = 0 := by omega
               exact h
 | n + 1,hn=>by
  by_cases e : k = n + 1
  · subst e;exact h
  · have ih:=bytes_fell h hf n (by omega)
    rw [bytesN,ih,if_neg hf]
theorem bytes_step {l : List AM.Ar} {a way : Int} {k : Nat} (h : bytesN l a way k = (0,0)) : bytesN l a way (k + 1) = byteN l (a + k) way:=by
 rw [bytesN,h]
 rfl
theorem from_mem : ∀ (l : List AM.Ar) (q : Int),(AM.findFrom l q).2 = true -> ∃ k,k < l.length /\ AM.hit (AM.at_ l k) q = true /\ (AM.findFrom l q).1 = AM.at_ l k
 | [],q,h=>by cases h
 | a :: r,q,h=>by
  unfold AM.findFrom at h ⊢
  by_cases c : AM.hit a q = true
  · rw [if_pos c]
    exact ⟨0,by simp,c,rfl⟩
  · rw [if_neg c] at h ⊢
    obtain ⟨k,h1,h2,h3⟩:=from_mem r q h
    exact ⟨k + 1,by simp;omega,h2,h3⟩
theorem found_page {l : List AM.Ar} {q : Int} (hc : AM.checkN l = 0) (h : (AM.findN l q).2 = true) : 1 <= q /\ q < 256 /\ 0 <= (AM.findN l q).1.prot /\ (AM.findN l q).1.prot <= 3:=by
 have e : AM.findN l q = AM.findFrom l q:=by unfold AM.findN;rw [if_pos hc]
 rw [e] at h ⊢
 obtain ⟨k,h1,h2,h4⟩:=from_mem l q h
 have h5:=AM.okAt_pages l _ (AM.good_pages l hc _ h1)
 have h6 : (AM.at_ l k).page <= q /\ q < (AM.at_ l k).page + (AM.at_ l k).pages:=of_decide_eq_true h2
 rw [h4]
 omega
theorem found_check {l : List AM.Ar} {q : Int} (h : (AM.findN l q).2 = true) : AM.checkN l = 0:=by
 by_cases c : AM.checkN l = 0
 · exact c
 · unfold AM.findN at h
   rw [if_neg c] at h
   cases h
theorem bytes_small {l : List AM.Ar} {a way : Int} : ∀ {k : Nat},bytesN l a way (k + 1) = (0,0) -> 16 <= a /\ a + k < 4096
 | 0,h=>by
  rw [bytes_step rfl] at h
  obtain ⟨_,h1,h2,_⟩:=byte_zero (by rw [h])
  have:=found_page (found_check h2) h2
  omega
 | k + 1,h=>by
  have h0 : bytesN l a way (k + 1) = (0,0):=by
   by_cases c : (bytesN l a way (k + 1)).1 = 0
   · rw [bytesN] at c ⊢
     split at c
     · rename_i d
       rw [if_pos d]
       exact (byte_zero c).1
     · rename_i d
       exact (d c).elim
   · rw [bytes_fell (k:=k + 1) rfl c (k + 2) (by omega)] at h
     rw [h] at c
     exact (c rfl).elim
  have ih:=bytes_small h0
  rw [bytes_step h0] at h
  obtain ⟨_,h1,h2,_⟩:=byte_zero (by rw [h])
  have:=found_page (found_check h2) h2
  omega
theorem sorted_le : ∀ (qs ps : List Int),ps.Pairwise (· < ·) -> qs.Pairwise (· < ·) -> (∀ x ∈ ps,x ∈ qs) -> ps.length <= qs.length
 | [],[],_,_,_=>Nat.le_refl _
 | [],p :: ps,_,_,h=>by cases h p List.mem_cons_self
 | q :: qs,[],_,_,_=>by simp
 | q :: qs,p :: ps,h1,h2,h=>by
  rw [List.pairwise_cons] at h1 h2
  by_cases e : p = q
  · subst e
    have:=sorted_le qs ps h1.2 h2.2 (fun x hx=>by
     rcases List.mem_cons.1 (h x (List.mem_cons_of_mem _ hx)) with g | g
     · have:=h1.1 x hx
       omega
     · exact g)
    simp only [List.length_cons]
    omega
  · have hp : p ∈ qs:=by
     rcases List.mem_cons.1 (h p List.mem_cons_self) with g | g
     · exact (e g).elim
     · exact g
    have hq:=h2.1 p hp
    have:=sorted_le qs (p :: ps) (List.pairwise_cons.2 h1) h2.2 (fun x hx=>by
     rcases List.mem_cons.1 (h x hx) with g | g
     · rcases List.mem_cons.1 hx with k | k
       · omega
       · have:=h1.1 x k
         omega
     · exact g)
    simp only [List.length_cons] at this ⊢
    omega
def run (p : Int) : Nat -> List Int
 | 0=>[]
 | n + 1=>p :: run (p + 1) n
theorem run_length (p : Int) : ∀ n,(run p n).length = n:=fun n=>by
 induction n generalizing p with
 | zero=>rfl
 | succ n ih=>show (run (p + 1) n).length + 1 = _;rw [ih]
theorem run_mem : ∀ (n : Nat) (p x : Int),x ∈ run p n ↔ p <= x /\ x < p + n
 | 0,p,x=>by constructor <;> intro h;cases h;omega
 | n + 1,p,x=>by
  show x ∈ p :: run (p + 1) n ↔ _
  rw [List.mem_cons,run_mem n (p + 1) x]
  omega
theorem run_sorted : ∀ (n : Nat) (p : Int),(run p n).Pairwise (· < ·)
 | 0,p=>List.Pairwise.nil
 | n + 1,p=>List.pairwise_cons.2 ⟨fun x hx=>by have:=(run_mem n (p + 1) x).1 hx;omega,run_sorted n (p + 1)⟩
def pagesOf : List AM.Ar -> List Int
 | []=>[]
 | a :: r=>run a.page a.pages.toNat ++ pagesOf r
theorem mem_pages : ∀ (l : List AM.Ar) (x : Int),x ∈ pagesOf l ↔ (AM.findFrom l x).2 = true
 | [],x=>by constructor <;> intro h <;> cases h
 | a :: r,x=>by
  show x ∈ run a.page a.pages.toNat ++ pagesOf r ↔ _
  rw [List.mem_append,run_mem,mem_pages r x]
  show _ ↔ (if AM.hit a x = true then (a,true) else AM.findFrom r x).2 = true
  by_cases c : AM.hit a x = true
  · have h6 : a.page <= x /\ x < a.page + a.pages:=of_decide_eq_true c
    rw [if_pos c]
    exact ⟨fun _=>rfl,fun _=>.inl (by omega)⟩
  · have h6 : ¬ (a.page <= x /\ x < a.page + a.pages):=fun g=>c (decide_eq_true g)
    rw [if_neg c]
    exact ⟨fun g=>by rcases g with g | g;omega;exact g,fun g=>.inr g⟩
def Asc : Int -> List AM.Ar -> Prop
 | _,[]=>True
 | lo,a :: r=>lo <= a.page /\ 1 <= a.pages /\ Asc (a.page + a.pages) r
theorem Asc.low : ∀ {l : List AM.Ar} {lo : Int},Asc lo l -> ∀ x ∈ pagesOf l,lo <= x
 | [],lo,h,x,hx=>by cases hx
 | a :: r,lo,h,x,hx=>by
  obtain ⟨h1,h2,h3⟩:=h
  rcases List.mem_append.1 hx with g | g
  · have:=(run_mem _ _ _).1 g
    omega
  · have:=h3.low x g
    omega
theorem Asc.sorted : ∀ {l : List AM.Ar} {lo : Int},Asc lo l -> (pagesOf l).Pairwise (· < ·)
 | [],lo,h=>List.Pairwise.nil
 | a :: r,lo,h=>by
  obtain ⟨h1,h2,h3⟩:=h
  show (run a.page a.pages.toNat ++ pagesOf r).Pairwise (· < ·)
  rw [List.pairwise_append]
  refine ⟨run_sorted _ _,h3.sorted,fun x hx y hy=>?_⟩
  have:=(run_mem _ _ _).1 hx
  have:=h3.low y hy
  omega
def Good (l : List AM.Ar) : Prop:=∀ i,i < l.length -> (1 <= (AM.at_ l i).page /\ 1 <= (AM.at_ l i).pages) /\ (0 < i -> (AM.at_ l (i - 1)).page + (AM.at_ l (i - 1)).pages <= (AM.at_ l i).page)
theorem Good.tail {a : AM.Ar} {r : List AM.Ar} (h : Good (a :: r)) : Good r:=fun i hi=>by
 have h1:=h (i + 1) (by simp;omega)
 refine ⟨h1.1,fun g=>?_⟩
 have h2:=h1.2 (by omega)
 obtain ⟨j,rfl⟩ : ∃ j,i = j + 1:=⟨i - 1,by omega⟩
 exact h2
theorem good_asc : ∀ (l : List AM.Ar) (lo : Int),Good l -> (∀ a r,l = a :: r -> lo <= a.page) -> Asc lo l
 | [],lo,h,_=>trivial
 | a :: r,lo,h,hlo=>by
  have h0:=(h 0 (by simp)).1
  refine ⟨hlo a r rfl,h0.2,good_asc r _ h.tail (fun b q e=>?_)⟩
  subst e
  exact (h 1 (by simp)).2 (by omega)
theorem good_of {l : List AM.Ar} (hc : AM.checkN l = 0) : Good l:=fun i hi=>by
 have h:=AM.good_pages l hc i hi
 have h1:=AM.okAt_pages l i h
 refine ⟨⟨h1.1,h1.2.1⟩,fun g=>?_⟩
 unfold AM.okAt at h
 simp only [Bool.and_eq_true,Bool.or_eq_true,beq_iff_eq] at h
 rcases h.2 with e | e
 · omega
 · unfold AM.followB at e
   by_cases c : (AM.at_ l i).page = (AM.at_ l (i - 1)).last0
   · unfold AM.Ar.last0 at c
     omega
   · rw [if_neg c] at e
     have:=of_decide_eq_true e
     unfold AM.Ar.last0 at this
     omega
theorem asc_of {l : List AM.Ar} (hc : AM.checkN l = 0) : Asc 1 l:=good_asc l 1 (good_of hc) (fun a r e=>by
 subst e
 exact ((good_of hc) 0 (by simp)).1.1)
theorem sum_cons (a : AM.Ar) (r : List AM.Ar) : ∀ k,AM.sumTo (a :: r) (k + 1) = a.pages + AM.sumTo r k
 | 0=>by show (0 : Int) + a.pages = a.pages + 0;omega
 | k + 1=>by
  show AM.sumTo (a :: r) (k + 1) + (AM.at_ (a :: r) (k + 1)).pages = a.pages + (AM.sumTo r k + (AM.at_ r k).pages)
  rw [sum_cons a r k]
  show _ + (AM.at_ r k).pages = _
  omega
theorem pages_length : ∀ {l : List AM.Ar} {lo : Int},Asc lo l -> ((pagesOf l).length : Int) = AM.sumTo l l.length
 | [],lo,h=>rfl
 | a :: r,lo,h=>by
  obtain ⟨h1,h2,h3⟩:=h
  show (((run a.page a.pages.toNat ++ pagesOf r).length : Nat) : Int) = AM.sumTo (a :: r) (r.length + 1)
  rw [sum_cons,List.length_append,run_length,<- pages_length h3]
  omega
theorem total_pages {l : List AM.Ar} (hc : AM.checkN l = 0) : AM.totalN l = ((pagesOf l).length : Int):=by
 unfold AM.totalN
 rw [if_pos hc,pages_length (asc_of hc)]
theorem found_mem {l : List AM.Ar} (hc : AM.checkN l = 0) (x : Int) : (AM.findN l x).2 = true ↔ x ∈ pagesOf l:=by
 rw [mem_pages]
 unfold AM.findN
 rw [if_pos hc]
end FM
namespace KM
open Go.RowKit
structure Fr where
 data : ByteArray
 refs : Int
 dirty : Bool
 seen : Bool
structure Sl where
 data : ByteArray
 refs : Int
structure En where
 page : Int
 kind : Int
 loc : Int
structure Sp where
 live : Bool
 areas : List AM.Ar
 ents : List En
structure Kn where
 sheets : List LM.Sh
 frames : List Fr
 slots : List Sl
 spaces : List Sp
 hand : Int
def fr0 : Fr:=⟨⟨#[]⟩,0,false,false⟩
def sl0 : Sl:=⟨⟨#[]⟩,0⟩
def en0 : En:=⟨0,0,0⟩
def sp0 : Sp:=⟨false,[],[]⟩
def frAt (l : List Fr) (i : Nat) : Fr:=l.getD i fr0
def slAt (l : List Sl) (i : Nat) : Sl:=l.getD i sl0
def enAt (l : List En) (i : Nat) : En:=l.getD i en0
def spAt (l : List Sp) (i : Nat) : Sp:=l.getD i sp0
theorem getD_mem {α : Type} {d : α} : ∀ {l : List α} {i : Nat},i < l.length -> l.getD i d ∈ l
 | [],i,h=>absurd h (Nat.not_lt_zero _)
 | a :: r,0,h=>List.mem_cons_self
 | a :: r,i + 1,h=>List.mem_cons_of_mem _ (getD_mem (l:=r) (Nat.lt_of_succ_lt_succ h))
theorem mem_getD {α : Type} (d : α) : ∀ {l : List α} {x : α},x ∈ l -> ∃ i,i < l.length /\ l.getD i d = x
 | a :: r,x,h=>by
  rcases List.mem_cons.1 h with rfl | h
  · exact ⟨0,Nat.zero_lt_succ _,rfl⟩
  · obtain ⟨i,hi,e⟩:=mem_getD d h
    exact ⟨i + 1,Nat.succ_lt_succ hi,e⟩
theorem getD_set_self {α : Type} (d x : α) : ∀ (l : List α) (i : Nat),i < l.length -> (l.set i x).getD i d = x
 | a :: r,0,_=>rfl
 | a :: r,i + 1,h=>getD_set_self d x r i (Nat.lt_of_succ_lt_succ h)
theorem getD_set_ne {α : Type} (d x : α) : ∀ (l : List α) (i j : Nat),i ≠ j -> (l.set i x).getD j d = l.getD j d
 | [],_,_,_=>rfl
 | a :: r,0,0,h=>absurd rfl h
 | a :: r,0,j + 1,_=>rfl
 | a :: r,i + 1,0,_=>rfl
 | a :: r,i + 1,j + 1,h=>getD_set_ne d x r i j (fun e=>h (by rw [e]))
def nameIn (s : Sp) (kd at_ : Int) : List (Int × Bool):=(s.ents.filter fun e=>decide (e.kind = kd /\ e.loc = at_)).map fun e=>(e.page,(AM.findN s.areas e.page).1.zero)
def names (ss : List Sp) (kd at_ : Int) : List (Int × Bool):=ss.flatMap fun s=>nameIn s kd at_
def sheetFor (hs : List LM.Sh) (p : Int) : Option LM.Sh:=hs.find? fun s=>decide (s.page = p)
def filled (hs : List LM.Sh) (p : Int) : ByteArray:=match sheetFor hs p with
 | some s=>LM.fillS s
 | none=>⟨#[]⟩
def zero16 : ByteArray:=⟨#[0,0,0,0,0,0,0,0,0,0,0,0,0,0,0,0]⟩
def fillK (hs : List LM.Sh) (p : Int) (z : Bool) : ByteArray:=if z then zero16 else filled hs p
def entOk (nf ns : Nat) (ar : List AM.Ar) (e : En) : Prop:=(AM.findN ar e.page).2 = true /\ ((e.kind = 1 /\ 0 <= e.loc /\ e.loc < nf) ∨ (e.kind = 2 /\ 0 <= e.loc /\ e.loc < ns))
structure SpR (hs : List LM.Sh) (nf ns : Nat) (s : Sp) : Prop where
 dead : s.live = false -> s.areas = [] /\ s.ents = []
 areas : AM.checkN s.areas = 0
 rise : (s.ents.map (·.page)).Pairwise (· < ·)
 ent : ∀ e ∈ s.ents,entOk nf ns s.areas e
 sheets : ∀ p,(AM.findN s.areas p).2 = true -> (AM.findN s.areas p).1.zero = false -> (sheetFor hs p).isSome = true
structure FrR (hs : List LM.Sh) (L : List (Int × Bool)) (f : Fr) : Prop where
 refs : f.refs = L.length
 zero : L = [] -> f = fr0
 one : ∀ x ∈ L,∀ y ∈ L,x = y
 size : L ≠ [] -> f.data.size = 16
 fill : f.dirty = false -> ∀ x ∈ L,f.data = fillK hs x.1 x.2
structure SlR (L : List (Int × Bool)) (s : Sl) : Prop where
 refs : s.refs = L.length
 zero : L = [] -> s = sl0
 one : ∀ x ∈ L,∀ y ∈ L,x = y
 size : L ≠ [] -> s.data.size = 16
def roomTo (l : List Sp) : Nat -> Int
 | 0=>0
 | k + 1=>roomTo l k + AM.totalN (spAt l k).areas
def room (l : List Sp) : Int:=roomTo l l.length
def counts (k : Kn) : Bool:=decide ((3 <= k.frames.length /\ k.frames.length <= 64) /\ k.slots.length <= 512 /\ (1 <= k.spaces.length /\ k.spaces.length <= 4) /\ k.sheets.length <= 255)
structure RightK (k : Kn) : Prop where
 counts : counts k = true
 rise : LM.riseB k.sheets = true
 hand : 0 <= k.hand /\ k.hand < k.frames.length
 each : ∀ s ∈ k.spaces,SpR k.sheets k.frames.length k.slots.length s
 room : room k.spaces <= k.slots.length
 frm : ∀ i : Nat,i < k.frames.length -> FrR k.sheets (names k.spaces 1 i) (frAt k.frames i)
 slt : ∀ i : Nat,i < k.slots.length -> SlR (names k.spaces 2 i) (slAt k.slots i)
theorem RightK.c {k : Kn} (h : RightK k) : (3 <= k.frames.length /\ k.frames.length <= 64) /\ k.slots.length <= 512 /\ (1 <= k.spaces.length /\ k.spaces.length <= 4) /\ k.sheets.length <= 255:=of_decide_eq_true h.counts
theorem names_nil (kd a : Int) : names [] kd a = []:=rfl
theorem names_cons (s : Sp) (r : List Sp) (kd a : Int) : names (s :: r) kd a = nameIn s kd a ++ names r kd a:=List.flatMap_cons
theorem names_append (l r : List Sp) (kd a : Int) : names (l ++ r) kd a = names l kd a ++ names r kd a:=List.flatMap_append
theorem mem_nameIn {s : Sp} {kd a : Int} {x : Int × Bool} : x ∈ nameIn s kd a ↔ ∃ e ∈ s.ents,e.kind = kd /\ e.loc = a /\ x = (e.page,(AM.findN s.areas e.page).1.zero):=by
 unfold nameIn
 simp only [List.mem_map,List.mem_filter,decide_eq_true_eq]
 exact ⟨fun ⟨e,⟨h1,h2,h3⟩,h4⟩=>⟨e,h1,h2,h3,h4.symm⟩,fun ⟨e,h1,h2,h3,h4⟩=>⟨e,⟨h1,h2,h3⟩,h4.symm⟩⟩
theorem mem_names {ss : List Sp} {kd a : Int} {x : Int × Bool} : x ∈ names ss kd a ↔ ∃ s ∈ ss,∃ e ∈ s.ents,e.kind = kd /\ e.loc = a /\ x = (e.page,(AM.findN s.areas e.page).1.zero):=by
 unfold names
 rw [List.mem_flatMap]
 exact ⟨fun ⟨s,hs,h⟩=>⟨s,hs,mem_nameIn.1 h⟩,fun ⟨s,hs,h⟩=>⟨s,hs,mem_nameIn.2 h⟩⟩
theorem names_set : ∀ (l : List Sp) (j : Nat) (s : Sp) (kd a : Int),j < l.length -> ∃ u v,names l kd a = u ++ (nameIn (spAt l j) kd a ++ v) /\ names (l.set j s) kd a = u ++ (nameIn s kd a ++ v)
 | x :: r,0,s,kd,a,_=>⟨[],names r kd a,names_cons x r kd a,names_cons s r kd a⟩
 | x :: r,j + 1,s,kd,a,h=>by
  obtain ⟨u,v,h1,h2⟩:=names_set r j s kd a (Nat.lt_of_succ_lt_succ h)
  refine ⟨nameIn x kd a ++ u,v,?_,?_⟩
  · rw [names_cons,h1,List.append_assoc];rfl
  · rw [List.set_cons_succ,names_cons,h2,List.append_assoc]
theorem names_map (f : Sp -> Sp) (kd a : Int) (kd' a' : Int) : ∀ (l : List Sp),(∀ s ∈ l,nameIn (f s) kd a = nameIn s kd' a') -> names (l.map f) kd a = names l kd' a'
 | [],_=>rfl
 | x :: r,h=>by
  rw [List.map_cons,names_cons,names_cons,h x List.mem_cons_self,names_map f kd a kd' a' r (fun s hs=>h s (List.mem_cons_of_mem _ hs))]
theorem names_none (f : Sp -> Sp) (kd a : Int) : ∀ (l : List Sp),(∀ s ∈ l,nameIn (f s) kd a = []) -> names (l.map f) kd a = []
 | [],_=>rfl
 | x :: r,h=>by
  rw [List.map_cons,names_cons,h x List.mem_cons_self,names_none f kd a r (fun s hs=>h s (List.mem_cons_of_mem _ hs))];rfl
theorem roomTo_congr (l m : List Sp) : ∀ k,(∀ i,i < k -> (spAt l i).areas = (spAt m i).areas) -> roomTo l k = roomTo m k
 | 0,_=>rfl
 | k + 1,h=>by rw [roomTo,roomTo,roomTo_congr l m k (fun i hi=>h i (Nat.lt_succ_of_lt hi)),h k (Nat.lt_succ_self k)]
def Rise (es : List En) : Prop:=(es.map (·.page)).Pairwise (· < ·)
def entOf (es : List En) (p : Int) : Option En:=es.find? fun e=>decide (e.page = p)
theorem rise_cons {a : En} {r : List En} (h : Rise (a :: r)) : Rise r /\ ∀ e ∈ r,a.page < e.page:=by
 have:=List.pairwise_cons.1 h
 exact ⟨this.2,fun e he=>this.1 _ (List.mem_map_of_mem he)⟩
theorem ent_iff : ∀ {es : List En} {p : Int} {e : En},Rise es -> (entOf es p = some e ↔ e ∈ es /\ e.page = p)
 | [],p,e,_=>by simp [entOf]
 | a :: r,p,e,h=>by
  have hr:=rise_cons h
  by_cases c : a.page = p
  · have : entOf (a :: r) p = some a:=by simp [entOf,c]
    rw [this]
    refine ⟨fun g=>by injection g with g;subst g;exact ⟨List.mem_cons_self,c⟩,fun ⟨g1,g2⟩=>?_⟩
    rcases List.mem_cons.1 g1 with rfl | g1
    · rfl
    · have:=hr.2 e g1;omega
  · have : entOf (a :: r) p = entOf r p:=by simp [entOf,c]
    rw [this,ent_iff hr.1]
    refine ⟨fun ⟨g1,g2⟩=>⟨List.mem_cons_of_mem _ g1,g2⟩,fun ⟨g1,g2⟩=>?_⟩
    rcases List.mem_cons.1 g1 with rfl | g1
    · exact absurd g2 c
    · exact ⟨g1,g2⟩
theorem ent_none {es : List En} {p : Int} : entOf es p = none ↔ ∀ e ∈ es,e.page ≠ p:=by
 unfold entOf
 rw [List.find?_eq_none]
 simp
def putE : List En -> En -> List En
 | [],e=>[e]
 | a :: r,e=>if a.page < e.page then a :: putE r e else if a.page = e.page then e :: r else e :: a :: r
theorem put_split : ∀ {es : List En} {e : En},Rise es -> ∃ pre post,es = pre ++ ((entOf es e.page).toList ++ post) /\ putE es e = pre ++ e :: post /\ (∀ x ∈ pre,x.page < e.page) /\ ∀ x ∈ post,e.page < x.page
 | [],e,_=>⟨[],[],rfl,rfl,by simp,by simp⟩
 | a :: r,e,h=>by
  have hr:=rise_cons h
  unfold putE
  by_cases c : a.page < e.page
  · obtain ⟨pre,post,h1,h2,h3,h4⟩:=put_split (es:=r) (e:=e) hr.1
    have : entOf (a :: r) e.page = entOf r e.page:=by simp [entOf,show ¬ a.page = e.page by omega]
    rw [if_pos c,this]
    refine ⟨a :: pre,post,by rw [List.cons_append,<- h1],by rw [h2];rfl,fun x hx=>?_,h4⟩
    rcases List.mem_cons.1 hx with rfl | hx
    · exact c
    · exact h3 x hx
  · rw [if_neg c]
    by_cases d : a.page = e.page
    · have : entOf (a :: r) e.page = some a:=by simp [entOf,d]
      rw [if_pos d,this]
      exact ⟨[],r,rfl,rfl,by simp,fun x hx=>by have:=hr.2 x hx;omega⟩
    · have : entOf (a :: r) e.page = none:=ent_none.2 fun x hx=>by
       rcases List.mem_cons.1 hx with rfl | hx
       · exact d
       · have:=hr.2 x hx;omega
      rw [if_neg d,this]
      refine ⟨[],a :: r,rfl,rfl,by simp,fun x hx=>?_⟩
      rcases List.mem_cons.1 hx with rfl | hx
      · omega
      · have:=hr.2 x hx;omega
theorem rise_mid {pre post : List En} {e : En} (hp : Rise pre) (hq : Rise post) (h1 : ∀ x ∈ pre,x.page < e.page) (h2 : ∀ x ∈ post,e.page < x.page) : Rise (pre ++ e :: post):=by
 unfold Rise at *
 rw [List.map_append,List.map_cons,List.pairwise_append,List.pairwise_cons]
 refine ⟨hp,⟨fun y hy=>?_,hq⟩,fun x hx y hy=>?_⟩
 · obtain ⟨z,hz,rfl⟩:=List.mem_map.1 hy
   exact h2 z hz
 · obtain ⟨z,hz,rfl⟩:=List.mem_map.1 hx
   rcases List.mem_cons.1 hy with rfl | hy
   · exact h1 z hz
   · obtain ⟨u,hu,rfl⟩:=List.mem_map.1 hy
     have:=h1 z hz;have:=h2 u hu;omega
theorem rise_parts {a b : List En} (h : Rise (a ++ b)) : Rise a /\ Rise b:=by
 unfold Rise at *
 rw [List.map_append,List.pairwise_append] at h
 exact ⟨h.1,h.2.1⟩
theorem put_rise {es : List En} {e : En} (h : Rise es) : Rise (putE es e):=by
 obtain ⟨pre,post,h1,h2,h3,h4⟩:=put_split (e:=e) h
 rw [h2]
 rw [h1] at h
 exact rise_mid (rise_parts h).1 (rise_parts (rise_parts h).2).2 h3 h4
def nm (ar : List AM.Ar) (kd a : Int) (es : List En) : List (Int × Bool):=(es.filter fun e=>decide (e.kind = kd /\ e.loc = a)).map fun e=>(e.page,(AM.findN ar e.page).1.zero)
theorem nameIn_nm (s : Sp) (kd a : Int) : nameIn s kd a = nm s.areas kd a s.ents:=rfl
theorem nm_append (ar : List AM.Ar) (kd a : Int) (l r : List En) : nm ar kd a (l ++ r) = nm ar kd a l ++ nm ar kd a r:=by unfold nm;rw [List.filter_append,List.map_append]
theorem nm_cons (ar : List AM.Ar) (kd a : Int) (e : En) (r : List En) : nm ar kd a (e :: r) = nm ar kd a [e] ++ nm ar kd a r:=nm_append ar kd a [e] r
theorem nm_yes (ar : List AM.Ar) {kd a : Int} {e : En} (h : e.kind = kd /\ e.loc = a) : nm ar kd a [e] = [(e.page,(AM.findN ar e.page).1.zero)]:=by simp [nm,h]
theorem nm_no (ar : List AM.Ar) {kd a : Int} {e : En} (h : ¬ (e.kind = kd /\ e.loc = a)) : nm ar kd a [e] = []:=by
 unfold nm
 rw [List.filter_cons_of_neg (by simpa using h)]
 rfl
theorem nm_mem {ar : List AM.Ar} {kd a : Int} {es : List En} {x : Int × Bool} : x ∈ nm ar kd a es ↔ ∃ e ∈ es,e.kind = kd /\ e.loc = a /\ x = (e.page,(AM.findN ar e.page).1.zero):=mem_nameIn (s:=⟨true,ar,es⟩)
theorem nm_nil_of {ar : List AM.Ar} {kd a : Int} {es : List En} (h : ∀ e ∈ es,¬ (e.kind = kd /\ e.loc = a)) : nm ar kd a es = []:=by
 refine List.eq_nil_iff_forall_not_mem.2 fun x hx=>?_
 obtain ⟨e,he,h1,h2,_⟩:=nm_mem.1 hx
 exact h e he ⟨h1,h2⟩
theorem spAt_mem {l : List Sp} {j : Nat} (h : j < l.length) : spAt l j ∈ l:=getD_mem h
theorem RightK.sp {k : Kn} (h : RightK k) {j : Nat} (hj : j < k.spaces.length) : SpR k.sheets k.frames.length k.slots.length (spAt k.spaces j):=h.each _ (spAt_mem hj)
theorem name_of {ss : List Sp} {j : Nat} (hj : j < ss.length) {e : En} (he : e ∈ (spAt ss j).ents) : (e.page,(AM.findN (spAt ss j).areas e.page).1.zero) ∈ names ss e.kind e.loc:=mem_names.2 ⟨_,spAt_mem hj,e,he,rfl,rfl,rfl⟩
theorem RightK.frame {k : Kn} (h : RightK k) {i : Nat} {f : Fr} (hf : FrR k.sheets (names k.spaces 1 i) f) : RightK { k with frames:=k.frames.set i f }:=by
 have hl : (k.frames.set i f).length = k.frames.length:=List.length_set
 refine ⟨?_,h.rise,by show 0 <= k.hand /\ k.hand < ((k.frames.set i f).length : Int);rw [hl];exact h.hand,?_,h.room,?_,h.slt⟩
 · have:=h.counts
   unfold KM.counts at this ⊢
   simp only [hl]
   exact this
 · show ∀ s ∈ k.spaces,SpR k.sheets (k.frames.set i f).length k.slots.length s
   rw [hl];exact h.each
 · intro n hn
   have hn' : n < k.frames.length:=by rw [<- hl];exact hn
   show FrR k.sheets (names k.spaces 1 n) ((k.frames.set i f).getD n fr0)
   by_cases c : i = n
   · subst c;rw [getD_set_self _ _ _ _ hn'];exact hf
   · rw [getD_set_ne _ _ _ _ _ c];exact h.frm n hn'
theorem RightK.turn {k : Kn} (h : RightK k) {x : Int} (hx : 0 <= x /\ x < k.frames.length) : RightK { k with hand:=x }:=⟨h.counts,h.rise,hx,h.each,h.room,h.frm,h.slt⟩
theorem FrR.seen {hs : List LM.Sh} {L : List (Int × Bool)} {f : Fr} (h : FrR hs L f) (b : Bool) (hL : L ≠ []) : FrR hs L { f with seen:=b }:=⟨h.refs,fun e=>absurd e hL,h.one,h.size,h.fill⟩
theorem FrR.ne {hs : List LM.Sh} {L : List (Int × Bool)} {f : Fr} (h : FrR hs L f) (hr : f.refs ≠ 0) : L ≠ []:=fun e=>hr (by rw [h.refs,e];rfl)
theorem FrR.nil {hs : List LM.Sh} {L : List (Int × Bool)} {f : Fr} (h : FrR hs L f) (hr : f.refs = 0) : L = []:=by
 have:=h.refs
 rw [hr] at this
 exact List.eq_nil_of_length_eq_zero (by omega)
theorem SlR.nil {L : List (Int × Bool)} {f : Sl} (h : SlR L f) (hr : f.refs = 0) : L = []:=by
 have:=h.refs
 rw [hr] at this
 exact List.eq_nil_of_length_eq_zero (by omega)
theorem FrR.none (hs : List LM.Sh) : FrR hs [] fr0:=⟨rfl,fun _=>rfl,by simp,fun h=>absurd rfl h,by simp⟩
theorem SlR.none : SlR [] sl0:=⟨rfl,fun _=>rfl,by simp,fun h=>absurd rfl h⟩
def lessF (f : Fr) : Fr:=if f.refs - 1 = 0 then fr0 else { f with refs:=f.refs - 1 }
def lessS (f : Sl) : Sl:=if f.refs - 1 = 0 then sl0 else { f with refs:=f.refs - 1 }
theorem FrR.less {hs : List LM.Sh} {X Y : List (Int × Bool)} {x : Int × Bool} {f : Fr} (h : FrR hs (X ++ x :: Y) f) : FrR hs (X ++ Y) (lessF f):=by
 have hr:=h.refs
 have hn : X ++ x :: Y ≠ []:=by simp
 have hm : ∀ y ∈ X ++ Y,y ∈ X ++ x :: Y:=fun y hy=>by
  rcases List.mem_append.1 hy with g | g
  · exact List.mem_append.2 (.inl g)
  · exact List.mem_append.2 (.inr (List.mem_cons_of_mem _ g))
 rw [List.length_append,List.length_cons] at hr
 unfold lessF
 by_cases c : f.refs - 1 = 0
 · rw [if_pos c]
   have : X ++ Y = []:=List.eq_nil_of_length_eq_zero (by rw [List.length_append];omega)
   rw [this]
   exact FrR.none hs
 · rw [if_neg c]
   refine ⟨?_,fun e=>?_,fun a ha b hb=>h.one a (hm a ha) b (hm b hb),fun _=>h.size hn,fun d y hy=>h.fill d y (hm y hy)⟩
   · show f.refs - 1 = _
     rw [List.length_append];omega
   · have:=congrArg List.length e
     rw [List.length_append] at this
     simp only [List.length_nil] at this
     omega
theorem SlR.less {X Y : List (Int × Bool)} {x : Int × Bool} {f : Sl} (h : SlR (X ++ x :: Y) f) : SlR (X ++ Y) (lessS f):=by
 have hr:=h.refs
 have hn : X ++ x :: Y ≠ []:=by simp
 have hm : ∀ y ∈ X ++ Y,y ∈ X ++ x :: Y:=fun y hy=>by
  rcases List.mem_append.1 hy with g | g
  · exact List.mem_append.2 (.inl g)
  · exact List.mem_append.2 (.inr (List.mem_cons_of_mem _ g))
 rw [List.length_append,List.length_cons] at hr
 unfold lessS
 by_cases c : f.refs - 1 = 0
 · rw [if_pos c]
   have : X ++ Y = []:=List.eq_nil_of_length_eq_zero (by rw [List.length_append];omega)
   rw [this]
   exact SlR.none
 · rw [if_neg c]
   refine ⟨?_,fun e=>?_,fun a ha b hb=>h.one a (hm a ha) b (hm b hb),fun _=>h.size hn⟩
   · show f.refs - 1 = _
     rw [List.length_append];omega
   · have:=congrArg List.length e
     rw [List.length_append] at this
     simp only [List.length_nil] at this
     omega
def isIn (i : Int) (e : En) : Bool:=decide (e.kind = 1 /\ e.loc = i)
def outE (i : Int) (es : List En) : List En:=es.filter fun e=>!isIn i e
def swapE (i s : Int) (es : List En) : List En:=es.map fun e=>if isIn i e then ⟨e.page,2,s⟩ else e
def freeF (l : List Fr) : Option Nat:=l.findIdx? fun f=>decide (f.refs = 0)
def freeS (l : List Sl) : Option Nat:=l.findIdx? fun f=>decide (f.refs = 0)
def outS (i : Int) (s : Sp) : Sp:={ s with ents:=outE i s.ents }
def swapS (i s : Int) (sp : Sp) : Sp:={ sp with ents:=swapE i s sp.ents }
def dropA (k : Kn) (i : Nat) : Kn:={ k with frames:=k.frames.set i fr0,spaces:=k.spaces.map (outS i) }
def swapA (k : Kn) (i s : Nat) : Kn:={ k with frames:=k.frames.set i fr0,slots:=k.slots.set s ⟨(frAt k.frames i).data,(frAt k.frames i).refs⟩,spaces:=k.spaces.map (swapS i s) }
def asideK (k : Kn) (i : Nat) : Kn:=if (frAt k.frames i).dirty then (match freeS k.slots with
 | some s=>swapA k i s
 | none=>dropA k i) else dropA k i
def peekK (k : Kn) (j : Nat) (p : Int) : ByteArray:=match entOf (spAt k.spaces j).ents p with
 | some e=>if e.kind = 1 then (frAt k.frames e.loc.toNat).data else (slAt k.slots e.loc.toNat).data
 | none=>fillK k.sheets p (AM.findN (spAt k.spaces j).areas p).1.zero
theorem getD_map {α β : Type} (f : α -> β) (d : α) (d' : β) : ∀ (l : List α) (i : Nat),i < l.length -> (l.map f).getD i d' = f (l.getD i d)
 | a :: r,0,_=>rfl
 | a :: r,i + 1,h=>getD_map f d d' r i (Nat.lt_of_succ_lt_succ h)
theorem isIn_iff {i : Int} {e : En} : isIn i e = true ↔ e.kind = 1 /\ e.loc = i:=by simp [isIn]
theorem isIn_no {i : Int} {e : En} : isIn i e = false ↔ ¬ (e.kind = 1 /\ e.loc = i):=by simp [isIn]
theorem out_mem {i : Int} {es : List En} {e : En} : e ∈ outE i es ↔ e ∈ es /\ ¬ (e.kind = 1 /\ e.loc = i):=by
 unfold outE
 rw [List.mem_filter,Bool.not_eq_true',isIn_no]
theorem out_rise {i : Int} {es : List En} (h : Rise es) : Rise (outE i es):=List.Pairwise.sublist (List.filter_sublist.map _) h
theorem swap_pages (i s : Int) (es : List En) : (swapE i s es).map (·.page) = es.map (·.page):=by
 unfold swapE
 rw [List.map_map]
 refine List.map_congr_left fun e _=>?_
 show (if isIn i e then (⟨e.page,2,s⟩ : En) else e).page = e.page
 cases isIn i e <;> rfl
theorem swap_rise {i s : Int} {es : List En} (h : Rise es) : Rise (swapE i s es):=by unfold Rise;rw [swap_pages];exact h
theorem swap_mem {i s : Int} {es : List En} {x : En} : x ∈ swapE i s es ↔ (x ∈ es /\ ¬ (x.kind = 1 /\ x.loc = i)) ∨ ∃ e ∈ es,(e.kind = 1 /\ e.loc = i) /\ x = ⟨e.page,2,s⟩:=by
 unfold swapE
 rw [List.mem_map]
 constructor
 · rintro ⟨e,he,rfl⟩
   by_cases c : e.kind = 1 /\ e.loc = i
   · rw [if_pos (isIn_iff.2 c)];exact .inr ⟨e,he,c,rfl⟩
   · rw [if_neg (by rw [isIn_no.2 c];simp)];exact .inl ⟨he,c⟩
 · rintro (⟨h,c⟩ | ⟨e,he,c,rfl⟩)
   · exact ⟨x,h,by rw [if_neg (by rw [isIn_no.2 c];simp)]⟩
   · exact ⟨e,he,by rw [if_pos (isIn_iff.2 c)]⟩
theorem filter_same {α : Type} (p q : α -> Bool) : ∀ (l : List α),(∀ x ∈ l,p x = q x) -> l.filter p = l.filter q
 | [],_=>rfl
 | a :: r,h=>by
  rw [List.filter_cons,List.filter_cons,h a List.mem_cons_self,filter_same p q r (fun x hx=>h x (List.mem_cons_of_mem _ hx))]
theorem nm_out (ar : List AM.Ar) (i kd a : Int) (es : List En) (h : ¬ (kd = 1 /\ a = i)) : nm ar kd a (outE i es) = nm ar kd a es:=by
 unfold nm outE
 rw [List.filter_filter]
 congr 1
 refine filter_same _ _ _ fun e _=>?_
 by_cases c : e.kind = kd /\ e.loc = a
 · have : isIn i e = false:=isIn_no.2 (by rw [c.1,c.2];exact h)
   rw [this];simp
 · simp [c]
theorem nm_out_nil (ar : List AM.Ar) (i : Int) (es : List En) : nm ar 1 i (outE i es) = []:=nm_nil_of fun e he=>(out_mem.1 he).2
theorem nm_swap (ar : List AM.Ar) (i s kd a : Int) (h : ¬ (kd = 1 /\ a = i)) (h2 : ¬ (kd = 2 /\ a = s)) : ∀ es : List En,nm ar kd a (swapE i s es) = nm ar kd a es
 | []=>rfl
 | e :: r=>by
  have e1 : swapE i s (e :: r) = (if isIn i e then ⟨e.page,2,s⟩ else e) :: swapE i s r:=rfl
  rw [e1,nm_cons,nm_cons ar kd a e r,nm_swap ar i s kd a h h2 r]
  congr 1
  by_cases c : e.kind = 1 /\ e.loc = i
  · rw [if_pos (isIn_iff.2 c),nm_no ar (fun g=>h2 ⟨g.1.symm,g.2.symm⟩),nm_no ar (fun g=>h (by rw [<- g.1,<- g.2];exact c))]
  · rw [if_neg (by rw [isIn_no.2 c];simp)]
theorem nm_swap_nil (ar : List AM.Ar) (i s : Int) (es : List En) : nm ar 1 i (swapE i s es) = []:=nm_nil_of fun e he g=>by
 rcases swap_mem.1 he with h | ⟨x,_,_,rfl⟩
 · exact h.2 g
 · have:=g.1;simp at this
theorem nm_swap_to (ar : List AM.Ar) (i s : Int) : ∀ es : List En,(∀ e ∈ es,¬ (e.kind = 2 /\ e.loc = s)) -> nm ar 2 s (swapE i s es) = nm ar 1 i es
 | [],_=>rfl
 | e :: r,h=>by
  have e1 : swapE i s (e :: r) = (if isIn i e then ⟨e.page,2,s⟩ else e) :: swapE i s r:=rfl
  rw [e1,nm_cons,nm_cons ar 1 i e r,nm_swap_to ar i s r (fun x hx=>h x (List.mem_cons_of_mem _ hx))]
  congr 1
  by_cases c : e.kind = 1 /\ e.loc = i
  · rw [if_pos (isIn_iff.2 c),nm_yes ar (e:=⟨e.page,2,s⟩) (kd:=2) (a:=s) ⟨rfl,rfl⟩,nm_yes ar c]
  · rw [if_neg (by rw [isIn_no.2 c];simp),nm_no ar (h e List.mem_cons_self),nm_no ar c]
theorem room_map (f : Sp -> Sp) (hf : ∀ s,(f s).areas = s.areas) (l : List Sp) : room (l.map f) = room l:=by
 unfold room
 rw [List.length_map]
 refine roomTo_congr _ _ _ fun i hi=>?_
 unfold spAt
 rw [getD_map f sp0 sp0 l i hi,hf]
theorem RightK.dropA {k : Kn} (h : RightK k) {i : Nat} (hi : i < k.frames.length) : RightK (dropA k i):=by
 have hl : (k.frames.set i fr0).length = k.frames.length:=List.length_set
 have hm : (k.spaces.map (outS i)).length = k.spaces.length:=List.length_map ..
 refine ⟨?_,h.rise,by show 0 <= k.hand /\ k.hand < ((k.frames.set i fr0).length : Int);rw [hl];exact h.hand,?_,?_,?_,?_⟩
 · have:=h.counts
   unfold KM.counts at this ⊢
   simp only [KM.dropA,hl,hm]
   exact this
 · show ∀ s ∈ k.spaces.map (outS i),SpR k.sheets (k.frames.set i fr0).length k.slots.length s
   rw [hl]
   intro s hs
   obtain ⟨s,hsq,rfl⟩:=List.mem_map.1 hs
   have g:=h.each s hsq
   exact ⟨fun d=>⟨(g.dead d).1,by show outE i s.ents = [];rw [(g.dead d).2];rfl⟩,g.areas,out_rise g.rise,fun e he=>g.ent e (out_mem.1 he).1,g.sheets⟩
 · show KM.room (k.spaces.map (outS i)) <= _
   rw [room_map (outS i) (fun _=>rfl)];exact h.room
 · intro n hn
   have hn' : n < k.frames.length:=by rw [<- hl];exact hn
   show FrR k.sheets (names (k.spaces.map (outS i)) 1 n) ((k.frames.set i fr0).getD n fr0)
   by_cases c : i = n
   · subst c
     rw [getD_set_self _ _ _ _ hn',names_none (outS i) 1 i _ (fun s _=>nm_out_nil s.areas i s.ents)]
     exact FrR.none _
   · rw [getD_set_ne _ _ _ _ _ c,names_map (outS i) 1 n 1 n _ (fun s _=>nm_out s.areas i 1 n s.ents (by omega))]
     exact h.frm n hn'
 · intro n hn
   show SlR (names (k.spaces.map (outS i)) 2 n) (slAt k.slots n)
   rw [names_map (outS i) 2 n 2 n _ (fun s _=>nm_out s.areas i 2 n s.ents (by omega))]
   exact h.slt n hn
theorem RightK.swapA {k : Kn} (h : RightK k) {i s : Nat} (hi : i < k.frames.length) (hs : s < k.slots.length) (hf : names k.spaces 2 s = []) : RightK (swapA k i s):=by
 have hl : (k.frames.set i fr0).length = k.frames.length:=List.length_set
 have hl2 : (k.slots.set s ⟨(frAt k.frames i).data,(frAt k.frames i).refs⟩).length = k.slots.length:=List.length_set
 have hm : (k.spaces.map (swapS i s)).length = k.spaces.length:=List.length_map ..
 have hno : ∀ sp ∈ k.spaces,∀ e ∈ sp.ents,¬ (e.kind = 2 /\ e.loc = (s : Int)):=fun sp hsp e he g=>by
  have : (e.page,(AM.findN sp.areas e.page).1.zero) ∈ names k.spaces 2 s:=mem_names.2 ⟨sp,hsp,e,he,g.1,g.2,rfl⟩
  rw [hf] at this
  cases this
 refine ⟨?_,h.rise,by show 0 <= k.hand /\ k.hand < ((k.frames.set i fr0).length : Int);rw [hl];exact h.hand,?_,?_,?_,?_⟩
 · have:=h.counts
   unfold KM.counts at this ⊢
   simp only [KM.swapA,hl,hl2,hm]
   exact this
 · show ∀ sp ∈ k.spaces.map (swapS i s),SpR k.sheets (k.frames.set i fr0).length (k.slots.set s ⟨(frAt k.frames i).data,(frAt k.frames i).refs⟩).length sp
   rw [hl,hl2]
   intro sp hsp
   obtain ⟨sp,hsq,rfl⟩:=List.mem_map.1 hsp
   have g:=h.each sp hsq
   refine ⟨fun d=>⟨(g.dead d).1,by show swapE i s sp.ents = [];rw [(g.dead d).2];rfl⟩,g.areas,swap_rise g.rise,fun e he=>?_,g.sheets⟩
   rcases swap_mem.1 he with x | ⟨x,hx,hc,rfl⟩
   · exact g.ent e x.1
   · exact ⟨(g.ent x hx).1,.inr ⟨rfl,by show (0 : Int) <= (s : Int);omega,by show (s : Int) < _;omega⟩⟩
 · show KM.room (k.spaces.map (swapS i s)) <= ((k.slots.set s ⟨(frAt k.frames i).data,(frAt k.frames i).refs⟩).length : Int)
   rw [hl2,room_map (swapS i s) (fun _=>rfl)];exact h.room
 · intro n hn
   have hn' : n < k.frames.length:=by rw [<- hl];exact hn
   show FrR k.sheets (names (k.spaces.map (swapS i s)) 1 n) ((k.frames.set i fr0).getD n fr0)
   by_cases c : i = n
   · subst c
     rw [getD_set_self _ _ _ _ hn',names_none (swapS i s) 1 i _ (fun sp _=>nm_swap_nil sp.areas i s sp.ents)]
     exact FrR.none _
   · rw [getD_set_ne _ _ _ _ _ c,names_map (swapS i s) 1 n 1 n _ (fun sp _=>nm_swap sp.areas i s 1 n (by omega) (by omega) sp.ents)]
     exact h.frm n hn'
 · intro n hn
   have hn' : n < k.slots.length:=by rw [<- hl2];exact hn
   show SlR (names (k.spaces.map (swapS i s)) 2 n) ((k.slots.set s ⟨(frAt k.frames i).data,(frAt k.frames i).refs⟩).getD n sl0)
   by_cases c : s = n
   · subst c
     rw [getD_set_self _ _ _ _ hn',names_map (swapS i s) 2 s 1 i _ (fun sp hsp=>nm_swap_to sp.areas i s sp.ents (hno sp hsp))]
     have g:=h.frm i hi
     exact ⟨g.refs,fun e=>by rw [g.zero e];rfl,g.one,g.size⟩
   · rw [getD_set_ne _ _ _ _ _ c,names_map (swapS i s) 2 n 2 n _ (fun sp _=>nm_swap sp.areas i s 2 n (by omega) (by omega) sp.ents)]
     exact h.slt n hn'
theorem pigeon : ∀ (n : Nat) (L : List Int),(∀ i : Nat,i < n -> (i : Int) ∈ L) -> n <= L.length
 | 0,_,_=>Nat.zero_le _
 | n + 1,L,h=>by
  have hn:=h n (Nat.lt_succ_self n)
  have:=pigeon n (L.erase (n : Int)) (fun i hi=>(List.mem_erase_of_ne (by omega)).2 (h i (by omega)))
  rw [List.length_erase_of_mem hn] at this
  have : 0 < L.length:=List.length_pos_of_mem hn
  omega
def allE (ss : List Sp) : List En:=ss.flatMap (·.ents)
theorem ents_pages {hs : List LM.Sh} {nf ns : Nat} {s : Sp} (g : SpR hs nf ns s) : (s.ents.length : Int) <= AM.totalN s.areas:=by
 rw [FM.total_pages g.areas]
 have:=FM.sorted_le (FM.pagesOf s.areas) (s.ents.map (·.page)) g.rise (FM.asc_of g.areas).sorted (fun x hx=>by
  obtain ⟨e,he,rfl⟩:=List.mem_map.1 hx
  exact (FM.found_mem g.areas _).1 (g.ent e he).1)
 rw [List.length_map] at this
 omega
theorem roomTo_append (l r : List Sp) : ∀ k,k <= l.length -> roomTo (l ++ r) k = roomTo l k:=fun k hk=>roomTo_congr _ _ _ fun i hi=>by
 unfold spAt
 rw [List.getD_eq_getElem?_getD,List.getD_eq_getElem?_getD,List.getElem?_append_left (by omega)]
theorem room_snoc (l : List Sp) (s : Sp) : room (l ++ [s]) = room l + AM.totalN s.areas:=by
 unfold room
 rw [List.length_append,List.length_singleton,roomTo,roomTo_append l [s] l.length (Nat.le_refl _)]
 unfold spAt
 rw [List.getD_eq_getElem?_getD,List.getElem?_append_right (Nat.le_refl _),Nat.sub_self]
 rfl
theorem all_room : ∀ (m : Nat) (l : List Sp),l.length = m -> (∀ s ∈ l,(s.ents.length : Int) <= AM.totalN s.areas) -> ((allE l).length : Int) <= room l
 | 0,l,h,_=>by
  have : l = []:=List.eq_nil_of_length_eq_zero h
  subst this
  exact Int.le_refl _
 | m + 1,l,h,hs=>by
  have hne : l ≠ []:=fun e=>by rw [e] at h;cases h
  obtain ⟨l',s,rfl⟩ : ∃ l' s,l = l' ++ [s]:=⟨l.dropLast,l.getLast hne,(List.dropLast_concat_getLast hne).symm⟩
  rw [room_snoc]
  have:=all_room m l' (by rw [List.length_append,List.length_singleton] at h;omega) (fun x hx=>hs x (List.mem_append.2 (.inl hx)))
  have h2:=hs s (by simp)
  unfold allE at *
  rw [List.flatMap_append,List.length_append]
  simp only [List.flatMap_cons,List.flatMap_nil,List.append_nil]
  omega
theorem RightK.slot {k : Kn} (h : RightK k) {i : Nat} (hi : i < k.frames.length) (hr : (frAt k.frames i).refs ≠ 0) : ∃ s,freeS k.slots = some s /\ s < k.slots.length /\ names k.spaces 2 s = []:=by
 cases hf : freeS k.slots with
 | some s =>
  obtain ⟨h1,h2,_⟩:=List.findIdx?_eq_some_iff_getElem.1 hf
  refine ⟨s,rfl,h1,(h.slt s h1).nil ?_⟩
  unfold slAt
  rw [List.getD_eq_getElem?_getD,List.getElem?_eq_getElem h1]
  exact of_decide_eq_true h2
 | none =>
  exfalso
  have hno:=List.findIdx?_eq_none_iff.1 hf
  have hall : ∀ n : Nat,n < k.slots.length -> ∃ e ∈ allE k.spaces,e.kind = 2 /\ e.loc = (n : Int):=fun n hn=>by
   have h1:=hno (slAt k.slots n) (getD_mem hn)
   have h2:=(h.slt n hn).refs
   have h3 : names k.spaces 2 n ≠ []:=fun e=>by
    rw [e] at h2
    simp [h2] at h1
   obtain ⟨x,hx⟩:=List.exists_mem_of_ne_nil _ h3
   obtain ⟨s,hs,e,he,g1,g2,_⟩:=mem_names.1 hx
   exact ⟨e,List.mem_flatMap.2 ⟨s,hs,he⟩,g1,g2⟩
  have hp:=pigeon k.slots.length (((allE k.spaces).filter fun e : En=>decide (e.kind = 2)).map (·.loc)) (fun n hn=>by
   obtain ⟨e,he,g1,g2⟩:=hall n hn
   exact List.mem_map.2 ⟨e,List.mem_filter.2 ⟨he,by simpa using g1⟩,g2⟩)
  rw [List.length_map] at hp
  have hroom:=all_room _ k.spaces rfl (fun s hs=>ents_pages (h.each s hs))
  have hr2:=h.room
  obtain ⟨x,hx⟩:=List.exists_mem_of_ne_nil _ ((h.frm i hi).ne hr)
  obtain ⟨s,hs,e,he,g1,g2,_⟩:=mem_names.1 hx
  have hea : e ∈ allE k.spaces:=List.mem_flatMap.2 ⟨s,hs,he⟩
  have hlt : ((allE k.spaces).filter fun e : En=>decide (e.kind = 2)).length < (allE k.spaces).length:=by
   rcases Nat.lt_or_eq_of_le (List.length_filter_le (fun e : En=>decide (e.kind = 2)) (allE k.spaces)) with g | g
   · exact g
   · have:=(List.length_filter_eq_length_iff.1 g) e hea
     simp [g1] at this
  omega
theorem RightK.aside {k : Kn} (h : RightK k) {i : Nat} (hi : i < k.frames.length) (hr : (frAt k.frames i).refs ≠ 0) : RightK (asideK k i):=by
 unfold asideK
 by_cases c : (frAt k.frames i).dirty = true
 · rw [if_pos c]
   obtain ⟨s,h1,h2,h3⟩:=h.slot hi hr
   rw [h1]
   exact h.swapA hi h2 h3
 · rw [if_neg c]
   exact h.dropA hi
end KM
end Go.Proofs.YtpgifpeohlllfaaGreat
