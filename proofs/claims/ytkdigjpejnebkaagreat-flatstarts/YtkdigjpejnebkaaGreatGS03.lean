import Derived.Test.YtkdigjpejnebkaaGreatGS00
import Derived.Lib.SliceRun
import Derived.Test.YtkdigjpejnebkaaGreatGS02
import Derived.WalkKit
import Derived.Lib.Endian
import Derived.Lib.EndianBits
import Derived.Lib.Strings
import Derived.Laws.BytesArg
import Derived.Lib.UnsafeStr
set_option linter.unusedVariables false
set_option maxRecDepth 100000
set_option linter.unusedSimpArgs false
namespace Go.Proofs.YtkdigjpejnebkaaGreat
namespace GK
open Go.RowKit
open FW (hideC add_below)
def From (w : World) (ao : Option Addr) (m : Nat) (news : List Value) : Prop:=0 < m -> ∃ ad,ao = some ad /\ ∀ j u,news[j]? = some u -> w.cell? (ad.add j) = some u
theorem From.below {w w' : World} {ao : Option Addr} {m : Nat} {news : List Value} (h : From w ao m news) (hb : Below w.heap.size w w') : From w' ao m news:=fun hm=>by
 obtain ⟨ad,e,hc⟩:=h hm
 refine ⟨ad,e,fun j u hu=>?_⟩
 have:=hc j u hu
 exact (hb.cell (World.block_lt_of_cell? w _ this)).trans this
theorem infoAr : (Tryz.prog.info? 59).map (fun i=>(i.zero,i.size,i.bytes)) = some (some (.agg #[.int .i64 0,.int .i64 0,.int .i64 0,.bool false]),4,32):=by kernel_rfl
set_option maxHeartbeats 1000000 in
theorem cloneAr (ao : Option Addr) (n c : Nat) (xs : List Value) (w : World) (hl : xs.length = n * 4) (h : From w ao n xs) (h1 : ∀ u ∈ xs,u.oneCell' = true) (hn : n <= 1000000) :
  Calls Tryz.prog 23 #[.slice ao n c] w fun e w'=>∃ v,e = .returned v /\ w'.ownsRow w.heap.size 59 4 v n xs /\ Below w.heap.size w w':=by
 have HH:=hideC h
 have HL:=hideC hl
 have H1:=hideC h1
 clear h hl h1
 have q : ∀ (w : World) (a : Option Addr) (n c n' c' : Nat),(binOp .eql 22 (.slice a n c) (.slice none n' c')).run Tryz.prog w = .ok (.bool a.isNone) w:=fun w a n c n' c'=>Lib.run_eql_slice_nil w _ _ a n c n' c' Tryz.underlying22
 obtain ⟨i0,hin,hz0,hz1,hz2⟩:=info_parts infoAr
 cases ao with
 | none =>
  have h0 : n = 0:=by
   by_cases g : 0 < n
   · obtain ⟨ad,e,_⟩:=HH.out g
     cases e
   · omega
  subst h0
  have hx : xs = []:=List.eq_nil_of_length_eq_zero (by rw [HL.out])
  subst hx
  clear HH HL H1 hin hz0 hz1 hz2
  go_enter Tryz.func23,Tryz.ntmps23
  go_wp2
  go_ret
  exact ⟨_,rfl,World.ownsRow_nil _ _ _ _,Below.refl _ _⟩
 | some ad =>
  have HIN:=hideC hin
  have HZ0:=hideC hz0
  have HZ1:=hideC hz1
  have HZ2:=hideC hz2
  clear hin hz0 hz1 hz2
  go_enter Tryz.func23,Tryz.ntmps23
  go_wp2_with (at_builtin;refine wpList_append_src (P:=Tryz.prog) rfl _ _ 22 rfl w.heap.size 59 i0 (.agg #[.int .i64 0,.int .i64 0,.int .i64 0,.bool false]) 4 32 Tryz.underlying22 HIN.out HZ0.out HZ1.out HZ2.out rfl (by decide) (.slice (some ⟨w.heap.size,0,none⟩) 0 0) 0 [] (by rfl) (World.ownsRow_made w #[] 0 (Nat.le_refl _) (by unfold maxLen;omega) (by simp)) (some ad) n c xs (by rfl) HL.out ((HH.out.below ((Below.refl _ _).alloc (Nat.le_refl _) _))) H1.out (by unfold maxLen;omega) (by omega) (by simp) ?_;intro v' w' hown hgr hat;have HOWN:=hideC hown;have HGR:=hideC hgr;clear hown hgr hat)
  go_ret
  have hown:=HOWN.out
  have hgr:=HGR.out
  rw [Nat.zero_add] at hown
  exact ⟨_,rfl,hown,((Below.refl _ _).alloc (Nat.le_refl _) _).grown hgr (by simp) (fun k hk=>by simp [Value.ownBlock] at hk;omega)⟩
theorem infoPg : (Tryz.prog.info? 65).map (fun i=>(i.zero,i.size,i.bytes)) = some (some (.agg #[.int .i64 0,.string ⟨#[]⟩]),2,24):=by kernel_rfl
set_option maxHeartbeats 1000000 in
theorem clonePg (ao : Option Addr) (n c : Nat) (xs : List Value) (w : World) (hl : xs.length = n * 2) (h : From w ao n xs) (h1 : ∀ u ∈ xs,u.oneCell' = true) (hn : n <= 1000000) :
  Calls Tryz.prog 123 #[.slice ao n c] w fun e w'=>∃ v,e = .returned v /\ w'.ownsRow w.heap.size 65 2 v n xs /\ Below w.heap.size w w':=by
 have HH:=hideC h
 have HL:=hideC hl
 have H1:=hideC h1
 clear h hl h1
 have q : ∀ (w : World) (a : Option Addr) (n c n' c' : Nat),(binOp .eql 51 (.slice a n c) (.slice none n' c')).run Tryz.prog w = .ok (.bool a.isNone) w:=fun w a n c n' c'=>Lib.run_eql_slice_nil w _ _ a n c n' c' Tryz.underlying51
 obtain ⟨i0,hin,hz0,hz1,hz2⟩:=info_parts infoPg
 cases ao with
 | none =>
  have h0 : n = 0:=by
   by_cases g : 0 < n
   · obtain ⟨ad,e,_⟩:=HH.out g
     cases e
   · omega
  subst h0
  have hx : xs = []:=List.eq_nil_of_length_eq_zero (by rw [HL.out])
  subst hx
  clear HH HL H1 hin hz0 hz1 hz2
  go_enter Tryz.func123,Tryz.ntmps123
  go_wp2
  go_ret
  exact ⟨_,rfl,World.ownsRow_nil _ _ _ _,Below.refl _ _⟩
 | some ad =>
  have HIN:=hideC hin
  have HZ0:=hideC hz0
  have HZ1:=hideC hz1
  have HZ2:=hideC hz2
  clear hin hz0 hz1 hz2
  go_enter Tryz.func123,Tryz.ntmps123
  go_wp2_with (at_builtin;refine wpList_append_src (P:=Tryz.prog) rfl _ _ 51 rfl w.heap.size 65 i0 (.agg #[.int .i64 0,.string ⟨#[]⟩]) 2 24 Tryz.underlying51 HIN.out HZ0.out HZ1.out HZ2.out rfl (by decide) (.slice (some ⟨w.heap.size,0,none⟩) 0 0) 0 [] (by rfl) (World.ownsRow_made w #[] 0 (Nat.le_refl _) (by unfold maxLen;omega) (by simp)) (some ad) n c xs (by rfl) HL.out ((HH.out.below ((Below.refl _ _).alloc (Nat.le_refl _) _))) H1.out (by unfold maxLen;omega) (by omega) (by simp) ?_;intro v' w' hown hgr hat;have HOWN:=hideC hown;have HGR:=hideC hgr;clear hown hgr hat)
  go_ret
  have hown:=HOWN.out
  have hgr:=HGR.out
  rw [Nat.zero_add] at hown
  exact ⟨_,rfl,hown,((Below.refl _ _).alloc (Nat.le_refl _) _).grown hgr (by simp) (fun k hk=>by simp [Value.ownBlock] at hk;omega)⟩
theorem infoPr : (Tryz.prog.info? 70).map (fun i=>(i.zero,i.size,i.bytes)) = some (some (.agg #[.int .i64 0,.int .i64 0,.int .i64 0,.int .i64 0,.int .i64 0,.int .i64 0,.int .i64 0,.int .i64 0,.int .i64 0,.int .i64 0,.int .i64 0,.int .i64 0,.int .i64 0]),13,104):=by kernel_rfl
set_option maxHeartbeats 1000000 in
theorem clonePr (ao : Option Addr) (n c : Nat) (xs : List Value) (w : World) (hl : xs.length = n * 13) (h : From w ao n xs) (h1 : ∀ u ∈ xs,u.oneCell' = true) (hn : n <= 1000000) :
  Calls Tryz.prog 79 #[.slice ao n c] w fun e w'=>∃ v,e = .returned v /\ w'.ownsRow w.heap.size 70 13 v n xs /\ Below w.heap.size w w':=by
 have HH:=hideC h
 have HL:=hideC hl
 have H1:=hideC h1
 clear h hl h1
 have q : ∀ (w : World) (a : Option Addr) (n c n' c' : Nat),(binOp .eql 27 (.slice a n c) (.slice none n' c')).run Tryz.prog w = .ok (.bool a.isNone) w:=fun w a n c n' c'=>Lib.run_eql_slice_nil w _ _ a n c n' c' Tryz.underlying27
 obtain ⟨i0,hin,hz0,hz1,hz2⟩:=info_parts infoPr
 cases ao with
 | none =>
  have h0 : n = 0:=by
   by_cases g : 0 < n
   · obtain ⟨ad,e,_⟩:=HH.out g
     cases e
   · omega
  subst h0
  have hx : xs = []:=List.eq_nil_of_length_eq_zero (by rw [HL.out])
  subst hx
  clear HH HL H1 hin hz0 hz1 hz2
  go_enter Tryz.func79,Tryz.ntmps79
  go_wp2
  go_ret
  exact ⟨_,rfl,World.ownsRow_nil _ _ _ _,Below.refl _ _⟩
 | some ad =>
  have HIN:=hideC hin
  have HZ0:=hideC hz0
  have HZ1:=hideC hz1
  have HZ2:=hideC hz2
  clear hin hz0 hz1 hz2
  go_enter Tryz.func79,Tryz.ntmps79
  go_wp2_with (at_builtin;refine wpList_append_src (P:=Tryz.prog) rfl _ _ 27 rfl w.heap.size 70 i0 (.agg #[.int .i64 0,.int .i64 0,.int .i64 0,.int .i64 0,.int .i64 0,.int .i64 0,.int .i64 0,.int .i64 0,.int .i64 0,.int .i64 0,.int .i64 0,.int .i64 0,.int .i64 0]) 13 104 Tryz.underlying27 HIN.out HZ0.out HZ1.out HZ2.out rfl (by decide) (.slice (some ⟨w.heap.size,0,none⟩) 0 0) 0 [] (by rfl) (World.ownsRow_made w #[] 0 (Nat.le_refl _) (by unfold maxLen;omega) (by simp)) (some ad) n c xs (by rfl) HL.out ((HH.out.below ((Below.refl _ _).alloc (Nat.le_refl _) _))) H1.out (by unfold maxLen;omega) (by omega) (by simp) ?_;intro v' w' hown hgr hat;have HOWN:=hideC hown;have HGR:=hideC hgr;clear hown hgr hat)
  go_ret
  have hown:=HOWN.out
  have hgr:=HGR.out
  rw [Nat.zero_add] at hown
  exact ⟨_,rfl,hown,((Below.refl _ _).alloc (Nat.le_refl _) _).grown hgr (by simp) (fun k hk=>by simp [Value.ownBlock] at hk;omega)⟩
theorem infoWd : (Tryz.prog.info? 78).map (fun i=>(i.zero,i.size,i.bytes)) = some (some (.agg #[.int .i64 0,.int .i64 0]),2,16):=by kernel_rfl
set_option maxHeartbeats 1000000 in
theorem cloneWd (ao : Option Addr) (n c : Nat) (xs : List Value) (w : World) (hl : xs.length = n * 2) (h : From w ao n xs) (h1 : ∀ u ∈ xs,u.oneCell' = true) (hn : n <= 1000000) :
  Calls Tryz.prog 80 #[.slice ao n c] w fun e w'=>∃ v,e = .returned v /\ w'.ownsRow w.heap.size 78 2 v n xs /\ Below w.heap.size w w':=by
 have HH:=hideC h
 have HL:=hideC hl
 have H1:=hideC h1
 clear h hl h1
 have q : ∀ (w : World) (a : Option Addr) (n c n' c' : Nat),(binOp .eql 28 (.slice a n c) (.slice none n' c')).run Tryz.prog w = .ok (.bool a.isNone) w:=fun w a n c n' c'=>Lib.run_eql_slice_nil w _ _ a n c n' c' Tryz.underlying28
 obtain ⟨i0,hin,hz0,hz1,hz2⟩:=info_parts infoWd
 cases ao with
 | none =>
  have h0 : n = 0:=by
   by_cases g : 0 < n
   · obtain ⟨ad,e,_⟩:=HH.out g
     cases e
   · omega
  subst h0
  have hx : xs = []:=List.eq_nil_of_length_eq_zero (by rw [HL.out])
  subst hx
  clear HH HL H1 hin hz0 hz1 hz2
  go_enter Tryz.func80,Tryz.ntmps80
  go_wp2
  go_ret
  exact ⟨_,rfl,World.ownsRow_nil _ _ _ _,Below.refl _ _⟩
 | some ad =>
  have HIN:=hideC hin
  have HZ0:=hideC hz0
  have HZ1:=hideC hz1
  have HZ2:=hideC hz2
  clear hin hz0 hz1 hz2
  go_enter Tryz.func80,Tryz.ntmps80
  go_wp2_with (at_builtin;refine wpList_append_src (P:=Tryz.prog) rfl _ _ 28 rfl w.heap.size 78 i0 (.agg #[.int .i64 0,.int .i64 0]) 2 16 Tryz.underlying28 HIN.out HZ0.out HZ1.out HZ2.out rfl (by decide) (.slice (some ⟨w.heap.size,0,none⟩) 0 0) 0 [] (by rfl) (World.ownsRow_made w #[] 0 (Nat.le_refl _) (by unfold maxLen;omega) (by simp)) (some ad) n c xs (by rfl) HL.out ((HH.out.below ((Below.refl _ _).alloc (Nat.le_refl _) _))) H1.out (by unfold maxLen;omega) (by omega) (by simp) ?_;intro v' w' hown hgr hat;have HOWN:=hideC hown;have HGR:=hideC hgr;clear hown hgr hat)
  go_ret
  have hown:=HOWN.out
  have hgr:=HGR.out
  rw [Nat.zero_add] at hown
  exact ⟨_,rfl,hown,((Below.refl _ _).alloc (Nat.le_refl _) _).grown hgr (by simp) (fun k hk=>by simp [Value.ownBlock] at hk;omega)⟩
end GK
namespace FM
open Go.RowKit
theorem sorted_le : ∀ (qs ps : List Int),ps.Pairwise (· < ·) -> qs.Pairwise (· < ·) -> (∀ x ∈ ps,x ∈ qs) -> ps.length <= qs.length
 | [],[],_,_,_=>Nat.le_refl _
 | [],p :: ps,_,_,h=>by cases h p List.mem_cons_self
 | q :: qs,[],_,_,_=>by simp
 | q :: qs,p :: ps,h1,h2,h=>by
  rw [List.pairwise_cons] at h1 h2
  by_cases e : p = q
  · subst e
    have:=sorted_le qs ps h1.2 h2.2 (fun x hx=>by
     rcases List.mem_cons.1 (h x (List.mem_cons_of_mem _ hx)) with g | g
     · have:=h1.1 x hx
       omega
     · exact g)
    simp only [List.length_cons]
    omega
  · have hp : p ∈ qs:=by
     rcases List.mem_cons.1 (h p List.mem_cons_self) with g | g
     · exact (e g).elim
     · exact g
    have hq:=h2.1 p hp
    have:=sorted_le qs (p :: ps) (List.pairwise_cons.2 h1) h2.2 (fun x hx=>by
     rcases List.mem_cons.1 (h x hx) with g | g
     · rcases List.mem_cons.1 hx with k | k
       · omega
       · have:=h1.1 x k
         omega
     · exact g)
    simp only [List.length_cons] at this ⊢
    omega
theorem sorted_eq : ∀ (qs ps : List Int),ps.Pairwise (· < ·) -> qs.Pairwise (· < ·) -> (∀ x ∈ ps,x ∈ qs) -> ps.length = qs.length -> ps = qs
 | [],[],_,_,_,_=>rfl
 | [],p :: ps,_,_,_,h=>by simp at h
 | q :: qs,[],_,_,_,h=>by simp at h
 | q :: qs,p :: ps,h1,h2,h,hl=>by
  have h1':=h1
  rw [List.pairwise_cons] at h1 h2
  simp only [List.length_cons] at hl
  by_cases e : p = q
  · subst e
    rw [sorted_eq qs ps h1.2 h2.2 (fun x hx=>by
     rcases List.mem_cons.1 (h x (List.mem_cons_of_mem _ hx)) with g | g
     · have:=h1.1 x hx
       omega
     · exact g) (by omega)]
  · have hp : p ∈ qs:=by
     rcases List.mem_cons.1 (h p List.mem_cons_self) with g | g
     · exact (e g).elim
     · exact g
    have hq:=h2.1 p hp
    have:=sorted_le qs (p :: ps) h1' h2.2 (fun x hx=>by
     rcases List.mem_cons.1 (h x hx) with g | g
     · rcases List.mem_cons.1 hx with k | k
       · omega
       · have:=h1.1 x k
         omega
     · exact g)
    simp only [List.length_cons] at this
    omega
def run (p : Int) : Nat -> List Int
 | 0=>[]
 | n + 1=>p :: run (p + 1) n
theorem run_length (p : Int) : ∀ n,(run p n).length = n:=fun n=>by
 induction n generalizing p with
 | zero=>rfl
 | succ n ih=>show (run (p + 1) n).length + 1 = _;rw [ih]
theorem run_mem : ∀ (n : Nat) (p x : Int),x ∈ run p n ↔ p <= x /\ x < p + n
 | 0,p,x=>by constructor <;> intro h;cases h;omega
 | n + 1,p,x=>by
  show x ∈ p :: run (p + 1) n ↔ _
  rw [List.mem_cons,run_mem n (p + 1) x]
  omega
theorem run_sorted : ∀ (n : Nat) (p : Int),(run p n).Pairwise (· < ·)
 | 0,p=>List.Pairwise.nil
 | n + 1,p=>List.pairwise_cons.2 ⟨fun x hx=>by have:=(run_mem n (p + 1) x).1 hx;omega,run_sorted n (p + 1)⟩
def pagesOf : List AM.Ar -> List Int
 | []=>[]
 | a :: r=>run a.page a.pages.toNat ++ pagesOf r
theorem mem_pages : ∀ (l : List AM.Ar) (x : Int),x ∈ pagesOf l ↔ (AM.findFrom l x).2 = true
 | [],x=>by constructor <;> intro h <;> cases h
 | a :: r,x=>by
  show x ∈ run a.page a.pages.toNat ++ pagesOf r ↔ _
  rw [List.mem_append,run_mem,mem_pages r x]
  show _ ↔ (if AM.hit a x = true then (a,true) else AM.findFrom r x).2 = true
  by_cases c : AM.hit a x = true
  · have h6 : a.page <= x /\ x < a.page + a.pages:=of_decide_eq_true c
    rw [if_pos c]
    exact ⟨fun _=>rfl,fun _=>.inl (by omega)⟩
  · have h6 : ¬ (a.page <= x /\ x < a.page + a.pages):=fun g=>c (decide_eq_true g)
    rw [if_neg c]
    exact ⟨fun g=>by rcases g with g | g;omega;exact g,fun g=>.inr g⟩
def Asc : Int -> List AM.Ar -> Prop
 | _,[]=>True
 | lo,a :: r=>lo <= a.page /\ 1 <= a.pages /\ Asc (a.page + a.pages) r
theorem Asc.low : ∀ {l : List AM.Ar} {lo : Int},Asc lo l -> ∀ x ∈ pagesOf l,lo <= x
 | [],lo,h,x,hx=>by cases hx
 | a :: r,lo,h,x,hx=>by
  obtain ⟨h1,h2,h3⟩:=h
  rcases List.mem_append.1 hx with g | g
  · have:=(run_mem _ _ _).1 g
    omega
  · have:=h3.low x g
    omega
theorem Asc.sorted : ∀ {l : List AM.Ar} {lo : Int},Asc lo l -> (pagesOf l).Pairwise (· < ·)
 | [],lo,h=>List.Pairwise.nil
 | a :: r,lo,h=>by
  obtain ⟨h1,h2,h3⟩:=h
  show (run a.page a.pages.toNat ++ pagesOf r).Pairwise (· < ·)
  rw [List.pairwise_append]
  refine ⟨run_sorted _ _,h3.sorted,fun x hx y hy=>?_⟩
  have:=(run_mem _ _ _).1 hx
  have:=h3.low y hy
  omega
def Good (l : List AM.Ar) : Prop:=∀ i,i < l.length -> (1 <= (AM.at_ l i).page /\ 1 <= (AM.at_ l i).pages) /\ (0 < i -> (AM.at_ l (i - 1)).page + (AM.at_ l (i - 1)).pages <= (AM.at_ l i).page)
theorem Good.tail {a : AM.Ar} {r : List AM.Ar} (h : Good (a :: r)) : Good r:=fun i hi=>by
 have h1:=h (i + 1) (by simp;omega)
 refine ⟨h1.1,fun g=>?_⟩
 have h2:=h1.2 (by omega)
 obtain ⟨j,rfl⟩ : ∃ j,i = j + 1:=⟨i - 1,by omega⟩
 exact h2
theorem good_asc : ∀ (l : List AM.Ar) (lo : Int),Good l -> (∀ a r,l = a :: r -> lo <= a.page) -> Asc lo l
 | [],lo,h,_=>trivial
 | a :: r,lo,h,hlo=>by
  have h0:=(h 0 (by simp)).1
  refine ⟨hlo a r rfl,h0.2,good_asc r _ h.tail (fun b q e=>?_)⟩
  subst e
  exact (h 1 (by simp)).2 (by omega)
theorem good_of {l : List AM.Ar} (hc : AM.checkN l = 0) : Good l:=fun i hi=>by
 have h:=AM.good_pages l hc i hi
 have h1:=AM.okAt_pages l i h
 refine ⟨⟨h1.1,h1.2.1⟩,fun g=>?_⟩
 unfold AM.okAt at h
 simp only [Bool.and_eq_true,Bool.or_eq_true,beq_iff_eq] at h
 rcases h.2 with e | e
 · omega
 · unfold AM.followB at e
   by_cases c : (AM.at_ l i).page = (AM.at_ l (i - 1)).last0
   · unfold AM.Ar.last0 at c
     omega
   · rw [if_neg c] at e
     have:=of_decide_eq_true e
     unfold AM.Ar.last0 at this
     omega
theorem asc_of {l : List AM.Ar} (hc : AM.checkN l = 0) : Asc 1 l:=good_asc l 1 (good_of hc) (fun a r e=>by
 subst e
 exact ((good_of hc) 0 (by simp)).1.1)
theorem sum_cons (a : AM.Ar) (r : List AM.Ar) : ∀ k,AM.sumTo (a :: r) (k + 1) = a.pages + AM.sumTo r k
 | 0=>by show (0 : Int) + a.pages = a.pages + 0;omega
 | k + 1=>by
  show AM.sumTo (a :: r) (k + 1) + (AM.at_ (a :: r) (k + 1)).pages = a.pages + (AM.sumTo r k + (AM.at_ r k).pages)
  rw [sum_cons a r k]
  show _ + (AM.at_ r k).pages = _
  omega
theorem pages_length : ∀ {l : List AM.Ar} {lo : Int},Asc lo l -> ((pagesOf l).length : Int) = AM.sumTo l l.length
 | [],lo,h=>rfl
 | a :: r,lo,h=>by
  obtain ⟨h1,h2,h3⟩:=h
  show (((run a.page a.pages.toNat ++ pagesOf r).length : Nat) : Int) = AM.sumTo (a :: r) (r.length + 1)
  rw [sum_cons,List.length_append,run_length,<- pages_length h3]
  omega
theorem total_pages {l : List AM.Ar} (hc : AM.checkN l = 0) : AM.totalN l = ((pagesOf l).length : Int):=by
 unfold AM.totalN
 rw [if_pos hc,pages_length (asc_of hc)]
theorem found_mem {l : List AM.Ar} (hc : AM.checkN l = 0) (x : Int) : (AM.findN l x).2 = true ↔ x ∈ pagesOf l:=by
 rw [mem_pages]
 unfold AM.findN
 rw [if_pos hc]
theorem pages_same {l : List AM.Ar} (hc : AM.checkN l = 0) (ps : List Int) : (((ps.length : Int) = AM.totalN l) /\ (∀ x ∈ ps,(AM.findN l x).2 = true) /\ ps.Pairwise (· < ·)) ↔ ps = pagesOf l:=by
 constructor
 · rintro ⟨h1,h2,h3⟩
   rw [total_pages hc] at h1
   exact sorted_eq _ _ h3 (asc_of hc).sorted (fun x hx=>(found_mem hc x).1 (h2 x hx)) (by omega)
 · intro e
   subst e
   exact ⟨(total_pages hc).symm,fun x hx=>(found_mem hc x).2 hx,(asc_of hc).sorted⟩
end FM
namespace CM
open Go.RowKit
theorem leNat_lt : ∀ l : List UInt8,Lib.leNat l < 256 ^ l.length
 | []=>by simp [Lib.leNat]
 | b :: r=>by
  have h:=leNat_lt r
  have hb : b.toNat < 256:=b.toNat_lt
  simp only [Lib.leNat,List.length_cons,Nat.pow_succ]
  omega
theorem leNat_lt7 (l : List UInt8) (h : l.length <= 7) : Lib.leNat l < 72057594037927936:=by
 have h1:=leNat_lt l
 have h2 : 256 ^ l.length <= 256 ^ 7:=Nat.pow_le_pow_right (by decide) h
 have h3 : (256 : Nat) ^ 7 = 72057594037927936:=by decide
 omega
theorem drop_step (s : ByteArray) (k : Nat) (h0 : 0 < k) (hk : k <= s.size) : s.data.toList.drop (k - 1) = s[k - 1] :: s.data.toList.drop k:=by
 have h : k - 1 < s.data.toList.length:=by rw [<- Lib.size_eq];omega
 have e:=List.drop_eq_getElem_cons h
 rw [show k - 1 + 1 = k from by omega] at e
 exact e
theorem leNat_step (s : ByteArray) (k : Nat) (h0 : 0 < k) (hk : k <= s.size) :
  ((Lib.leNat (s.data.toList.drop (k - 1)) : Nat) : Int) = (s[k - 1].toNat : Int) + 256 * (Lib.leNat (s.data.toList.drop k) : Nat):=by
 rw [drop_step s k h0 hk]
 simp only [Lib.leNat]
 omega
theorem or_u64 (N b : Int) (h0 : 0 <= N) (h1 : N < 72057594037927936) (b0 : 0 <= b) (b1 : b < 256) :
  bits .or .u64 (IntKind.u64.wrap (N * 256)) (IntKind.u64.wrap b) = b + 256 * N:=by
 rw [u64_wrap_id _ (by omega) (by omega),u64_wrap_id b b0 (by omega)]
 have hc : bits .or .u64 (N * 256) b = bits .or .u64 b (N * 256):=by simp only [bits,BitVec.or_comm]
 rw [hc,u64_or8 _ _ b0 b1 (by omega) (by omega) (by omega)]
 omega
def shr (n : Int) (k : Nat) : Int:=n / 256 ^ k
def low (n : Int) : Nat:=(n % 18446744073709551616).toNat
theorem shr_zero (n : Int) : shr n 0 = n:=by simp [shr]
theorem shr_succ (n : Int) (k : Nat) : shr n k / 256 = shr n (k + 1):=by
 simp only [shr,Int.pow_succ]
 rw [Int.ediv_ediv_of_nonneg (Int.pow_nonneg (by decide))]
theorem leBytes_snoc : ∀ (k v : Nat),Lib.leBytes (k + 1) v = Lib.leBytes k v ++ [(v / 256 ^ k % 256).toUInt8]
 | 0,v=>by simp [Lib.leBytes]
 | k + 1,v=>by
  rw [Lib.leBytes,leBytes_snoc k (v / 256)]
  simp only [Lib.leBytes,List.cons_append]
  rw [Nat.div_div_eq_div_mul,<- Nat.pow_succ']
theorem shr_byte (n : Int) (k : Nat) (h : k < 8) : shr n k % 256 = ((low n / 256 ^ k % 256 : Nat) : Int):=by
 unfold shr low
 match k,h with
 | 0,_=>simp;omega
 | 1,_=>omega
 | 2,_=>omega
 | 3,_=>omega
 | 4,_=>omega
 | 5,_=>omega
 | 6,_=>omega
 | 7,_=>omega
theorem strOfNums_byte (n : Int) (k : Nat) (h : k < 8) : strOfNums [shr n k % 256] = ⟨#[(low n / 256 ^ k % 256).toUInt8]⟩:=by
 rw [shr_byte n k h]
 simp [strOfNums]
 rfl
theorem mk_append (a b : List UInt8) : (⟨a.toArray⟩ : ByteArray) ++ ⟨b.toArray⟩ = ⟨(a ++ b).toArray⟩:=ByteArray.mk_append_mk a b
def row (size k V : Nat) : List Value:=Lib.byteCells (Lib.leBytes k V) ++ List.replicate (size - k) (.int .u8 0)
theorem row_zero (size V : Nat) : row size 0 V = List.replicate size (.int .u8 0):=by simp [row,Lib.leBytes,Lib.byteCells]
theorem row_get (size k V : Nat) (h : k < size) : (row size k V)[k]? = some (.int .u8 0):=by
 unfold row
 rw [List.getElem?_append_right (by rw [Lib.byteCells_length,Lib.leBytes_length];exact Nat.le_refl _),Lib.byteCells_length,Lib.leBytes_length,List.getElem?_replicate]
 simp;omega
theorem toUInt8_int (x : Nat) : (((x % 256).toUInt8.toNat : Nat) : Int) = (x : Int) % 256:=by
 rw [Lib.toUInt8_mod];omega
theorem row_set (size k V : Nat) (h : k < size) : (row size k V).set k (.int .u8 (((V / 256 ^ k : Nat) : Int) % 256)) = row size (k + 1) V:=by
 unfold row
 rw [List.set_append_right _ _ (by rw [Lib.byteCells_length,Lib.leBytes_length];exact Nat.le_refl _),Lib.byteCells_length,Lib.leBytes_length,Nat.sub_self]
 obtain ⟨m,hm⟩ : ∃ m,size - k = m + 1:=⟨size - k - 1,by omega⟩
 rw [hm,List.replicate_succ,List.set_cons_zero,leBytes_snoc,Lib.byteCells_append,List.append_assoc,show size - (k + 1) = m from by omega]
 simp only [Lib.byteCells,List.map_cons,List.map_nil,List.cons_append,List.nil_append,toUInt8_int]
theorem row_full (size V : Nat) : row size size V = Lib.byteCells (Lib.leBytes size V):=by simp [row]
theorem low_shr (n : Int) (k : Nat) : ((low n / 256 ^ k : Nat) : Int) / 256 = ((low n / 256 ^ (k + 1) : Nat) : Int):=by
 rw [Nat.pow_succ,<- Nat.div_div_eq_div_mul];omega
theorem strOfNums_bytes (l : List UInt8) : strOfNums (l.map fun b=>(b.toNat : Int)) = ⟨l.toArray⟩:=by
 simp only [strOfNums,List.map_map]
 congr 1
 congr 1
 induction l with
 | nil=>rfl
 | cons b r ih=>simp [ih]
theorem u64_low (n : Int) : IntKind.u64.wrap n = ((low n : Nat) : Int):=by
 rw [IntKind.wrap_u64];unfold low;omega
theorem byteCells_get (l : List UInt8) (i : Nat) (h : i < l.length) : (Lib.byteCells l)[i]? = some (.int .u8 ((l.map fun b=>(b.toNat : Int)).getD i 0)):=by
 simp [Lib.byteCells,h]
theorem bounds (n : Int) (h : (Lit.int .i64 n).wf = true) : -9223372036854775808 <= n /\ n <= 9223372036854775807:=by
 simp only [Lit.wf,IntKind.min,IntKind.max,IntKind.signed,IntKind.bits,Bool.and_eq_true,decide_eq_true_eq,if_true] at h
 omega
end CM
namespace PM
open Go.RowKit
def le (k : Nat) (n : Int) : ByteArray:=⟨(Lib.leBytes k (CM.low n)).toArray⟩
theorem le_size (k : Nat) (n : Int) : (le k n).size = k:=by
 unfold le
 rw [Lib.size_eq]
 simp [Lib.leBytes_length]
structure Ins where
 op : Int
 a : Int
 b : Int
 c : Int
 m : Int
def Ins.cells (i : Ins) : Array Value:=#[.int .i64 i.op,.int .i64 i.a,.int .i64 i.b,.int .i64 i.c,.int .i64 i.m]
def Byt (n : Int) : Prop:=0 <= n /\ n <= 255
instance (n : Int) : Decidable (Byt n):=by unfold Byt;infer_instance
def Ins.fits (i : Ins) : Prop:=Byt i.op /\ Byt i.a /\ Byt i.b /\ Byt i.c /\ -2147483648 <= i.m /\ i.m <= 2147483647
instance (i : Ins) : Decidable i.fits:=by unfold Ins.fits;infer_instance
def Ins.bytes (i : Ins) : ByteArray:=(((le 1 i.op ++ le 1 i.a) ++ le 1 i.b) ++ le 1 i.c) ++ le 4 i.m
theorem bytes_size (i : Ins) : i.bytes.size = 8:=by
 unfold Ins.bytes
 simp only [ByteArray.size_append,le_size]
def sign32 (n : Int) : Int:=if 2147483648 <= n then n - 4294967296 else n
def at_ (s : ByteArray) (k : Nat) : Int:=((s.data.toList.getD k 0).toNat : Int)
def ins (s : ByteArray) : Ins:=⟨at_ s 0,at_ s 1,at_ s 2,at_ s 3,sign32 (Lib.leNat (s.data.toList.drop 4))⟩
theorem at_byt (s : ByteArray) (k : Nat) : Byt (at_ s k):=by
 unfold Byt at_
 have:=(s.data.toList.getD k 0).toNat_lt
 omega
theorem at_wrap (s : ByteArray) (k : Nat) : wrap64 (at_ s k) = at_ s k:=by
 have h:=at_byt s k
 unfold Byt at h
 unfold wrap64
 omega
theorem get_at (s : ByteArray) (k : Nat) (h : k < s.size) : ((s[k].toNat : Nat) : Int) = at_ s k:=by
 unfold at_
 have h' : k < s.data.toList.length:=by rw [<- Lib.size_eq];exact h
 rw [List.getD_eq_getElem?_getD,List.getElem?_eq_getElem h']
 rfl
theorem drop_lt (s : ByteArray) (h : s.size = 8) : Lib.leNat (s.data.toList.drop 4) < 4294967296:=by
 have h1:=CM.leNat_lt (s.data.toList.drop 4)
 have h2 : (s.data.toList.drop 4).length = 4:=by rw [List.length_drop,<- Lib.size_eq];omega
 rw [h2] at h1
 exact h1
theorem sign_range (n : Int) (h0 : 0 <= n) (h1 : n < 4294967296) : -2147483648 <= sign32 n /\ sign32 n <= 2147483647:=by
 unfold sign32
 split <;> omega
theorem ins_fits (s : ByteArray) (h : s.size = 8) : (ins s).fits:=by
 have h4:=drop_lt s h
 have h5:=sign_range (Lib.leNat (s.data.toList.drop 4)) (by omega) (by omega)
 exact ⟨at_byt s 0,at_byt s 1,at_byt s 2,at_byt s 3,h5.1,h5.2⟩
theorem wrap32 (n : Int) (h0 : 0 <= n) (h1 : n < 4294967296) : IntKind.i32.wrap n = sign32 n:=by
 unfold sign32
 rw [IntKind.wrap_i32]
 split <;> omega
theorem extract_data (s : ByteArray) (h : s.size = 8) : (s.extract 4 8).data.toList = s.data.toList.drop 4:=by
 have e:=Lib.extract_data s 4 8
 rw [e]
 exact List.take_of_length_le (by rw [List.length_drop,<- Lib.size_eq];omega)
def areRegs (l : List Int) : Bool:=l.all fun x=>decide (0 <= x /\ x < 8)
def isSize (n : Int) : Bool:=decide (n = 1 ∨ n = 2 ∨ n = 4 ∨ n = 8)
def Ins.bad (i : Ins) : Bool :=
 if i.op = 12 then false
 else if i.op = 16 then !(decide (1 <= i.m /\ i.m <= 6))
 else if i.op = 1 ∨ i.op = 11 ∨ i.op = 15 then decide (8 <= i.a)
 else if 2 <= i.op /\ i.op <= 7 then decide (8 <= i.a ∨ 8 <= i.b ∨ 8 <= i.c)
 else if i.op = 8 ∨ i.op = 13 ∨ i.op = 14 then decide (8 <= i.a ∨ 8 <= i.b)
 else if i.op = 9 ∨ i.op = 10 then decide (8 <= i.a ∨ 8 <= i.b) || !(isSize i.c)
 else true
theorem regs1 (a : Int) (ha : Byt a) : (!areRegs [a]) = decide (8 <= a):=by
 unfold Byt at ha
 simp only [areRegs,List.all_cons,List.all_nil,Bool.and_true]
 by_cases h : 8 <= a <;> simp [h] <;> omega
theorem regs2 (a b : Int) (ha : Byt a) (hb : Byt b) : (!areRegs [a,b]) = decide (8 <= a ∨ 8 <= b):=by
 unfold Byt at ha hb
 simp only [areRegs,List.all_cons,List.all_nil,Bool.and_true]
 by_cases h : 8 <= a <;> by_cases g : 8 <= b <;> simp [h,g] <;> omega
theorem regs3 (a b c : Int) (ha : Byt a) (hb : Byt b) (hc : Byt c) : (!areRegs [a,b,c]) = decide (8 <= a ∨ 8 <= b ∨ 8 <= c):=by
 unfold Byt at ha hb hc
 simp only [areRegs,List.all_cons,List.all_nil,Bool.and_true]
 by_cases h : 8 <= a <;> by_cases g : 8 <= b <;> by_cases k : 8 <= c <;> simp [h,g,k] <;> omega
theorem areRegs_no (l : List Int) (k : Nat) (x : Int) (h : l[k]? = some x) (hx : ¬ (0 <= x /\ x < 8)) : areRegs l = false:=by
 unfold areRegs
 rw [List.all_eq_false]
 exact ⟨x,List.mem_of_getElem? h,by simpa using hx⟩
theorem areRegs_yes (l : List Int) (h : ∀ (k : Nat) (x : Int),l[k]? = some x -> 0 <= x /\ x < 8) : areRegs l = true:=by
 unfold areRegs
 rw [List.all_eq_true]
 intro x hx
 obtain ⟨k,hk⟩:=List.getElem?_of_mem hx
 simpa using h k x hk
structure Pr where
 r : Nat -> Int
 pc : Int
 st : Int
 cd : Int
 fk : Int
 fa : Int
def Pr.row (p : Pr) : Array Value:=#[.int .i64 (p.r 0),.int .i64 (p.r 1),.int .i64 (p.r 2),.int .i64 (p.r 3),.int .i64 (p.r 4),.int .i64 (p.r 5),.int .i64 (p.r 6),.int .i64 (p.r 7),.int .i64 p.pc,.int .i64 p.st,.int .i64 p.cd,.int .i64 p.fk,.int .i64 p.fa]
def Pr.val (p : Pr) : Value:=.agg p.row
def Pr.set (p : Pr) (j : Nat) (v : Int) : Pr:={ p with r:=fun k=>if k = j then v else p.r k }
theorem row_set (p : Pr) (j : Nat) (v : Int) (h : j < 8) : p.row.setIfInBounds j (.int .i64 v) = (p.set j v).row:=by
 match j,h with
 | 0,_=>rfl
 | 1,_=>rfl
 | 2,_=>rfl
 | 3,_=>rfl
 | 4,_=>rfl
 | 5,_=>rfl
 | 6,_=>rfl
 | 7,_=>rfl
theorem row_get (p : Pr) (j : Nat) (h : j < 8) : p.row[j]? = some (.int .i64 (p.r j)):=by
 match j,h with
 | 0,_=>rfl
 | 1,_=>rfl
 | 2,_=>rfl
 | 3,_=>rfl
 | 4,_=>rfl
 | 5,_=>rfl
 | 6,_=>rfl
 | 7,_=>rfl
theorem row_pc (p : Pr) (v : Int) : p.row.setIfInBounds 8 (.int .i64 v) = ({ p with pc:=v } : Pr).row:=rfl
theorem row_st (p : Pr) (v : Int) : p.row.setIfInBounds 9 (.int .i64 v) = ({ p with st:=v } : Pr).row:=rfl
theorem row_cd (p : Pr) (v : Int) : p.row.setIfInBounds 10 (.int .i64 v) = ({ p with cd:=v } : Pr).row:=rfl
theorem row_size (p : Pr) : p.row.size = 13:=rfl
theorem u64_and63 (n : Int) : bits .and .u64 (IntKind.u64.wrap n) 63 = n % 64:=by
 have h63 : (BitVec.ofInt 64 63).toNat = 2 ^ 6 - 1:=by decide
 have key : (BitVec.ofInt 64 (IntKind.u64.wrap n) &&& BitVec.ofInt 64 63).toNat = ((IntKind.u64.wrap n) % ((2 ^ 64 : Nat) : Int)).toNat % 2 ^ 6:=by
  rw [BitVec.toNat_and,BitVec.toNat_ofInt,h63,Nat.and_two_pow_sub_one_eq_mod]
 show IntKind.u64.wrap ((BitVec.ofInt 64 (IntKind.u64.wrap n) &&& BitVec.ofInt 64 63).toNat : Nat) = n % 64
 rw [key,IntKind.wrap_u64,IntKind.wrap_u64]
 omega
theorem i64_and63 (n : Int) : bits .and .i64 n 63 = n % 64:=by
 have h63 : (BitVec.ofInt 64 63).toNat = 2 ^ 6 - 1:=by decide
 have key : (BitVec.ofInt 64 n &&& BitVec.ofInt 64 63).toNat = (n % ((2 ^ 64 : Nat) : Int)).toNat % 2 ^ 6:=by
  rw [BitVec.toNat_and,BitVec.toNat_ofInt,h63,Nat.and_two_pow_sub_one_eq_mod]
 show IntKind.i64.wrap ((BitVec.ofInt 64 n &&& BitVec.ofInt 64 63).toNat : Nat) = n % 64
 rw [key,IntKind.wrap_i64]
 omega
def rk (op b c : Int) : Int :=
 if op = 2 then wrap64 (b + c) else if op = 3 then wrap64 (b - c) else if op = 4 then wrap64 (b * c) else if op = 5 then bits .and .i64 b c else if op = 6 then bits .xor .i64 b c
 else wrap64 (IntKind.u64.wrap b / 2 ^ min (c % 64).toNat 64)
def doneN (p : Pr) (i : Ins) (v : Int) : Pr :=
 let nx : Pr:={ p with pc:=wrap64 (p.pc + 8) }
 let tgt : Int:=wrap64 (p.pc + i.m)
 if i.op = 1 then nx.set i.a.toNat i.m
 else if 2 <= i.op /\ i.op <= 7 then nx.set i.a.toNat (rk i.op (p.r i.b.toNat) (p.r i.c.toNat))
 else if i.op = 8 then nx.set i.a.toNat (wrap64 (p.r i.b.toNat + i.m))
 else if i.op = 9 then nx.set i.a.toNat v
 else if i.op = 10 then nx
 else if i.op = 11 then nx.set i.a.toNat tgt
 else if i.op = 12 then { p with pc:=tgt }
 else if i.op = 13 then (if p.r i.a.toNat = p.r i.b.toNat then { p with pc:=tgt } else nx)
 else if i.op = 14 then (if p.r i.a.toNat < p.r i.b.toNat then { p with pc:=tgt } else nx)
 else if i.op = 15 then { p with pc:=p.r i.a.toNat }
 else if i.m = 6 then { nx with st:=2,cd:=p.r 0 }
 else if i.m = 1 then nx
 else nx.set 0 v
def askN (p : Pr) (i : Ins) : Array Value :=
 if i.bad then #[.int .i64 4,.int .i64 0,.int .i64 0,.int .i64 0,.int .i64 0]
 else if i.op = 9 then #[.int .i64 1,.int .i64 (wrap64 (p.r i.b.toNat + i.m)),.int .i64 i.c,.int .i64 0,.int .i64 0]
 else if i.op = 10 then #[.int .i64 2,.int .i64 (wrap64 (p.r i.b.toNat + i.m)),.int .i64 i.c,.int .i64 (p.r i.a.toNat),.int .i64 0]
 else if i.op = 16 then #[.int .i64 3,.int .i64 0,.int .i64 0,.int .i64 0,.int .i64 i.m]
 else #[.int .i64 0,.int .i64 0,.int .i64 0,.int .i64 0,.int .i64 0]
end PM
end Go.Proofs.YtkdigjpejnebkaaGreat
