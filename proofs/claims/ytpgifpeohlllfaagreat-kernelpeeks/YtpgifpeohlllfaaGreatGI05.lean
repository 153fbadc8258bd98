import Derived.Test.YtpgifpeohlllfaaGreatGI04
import Derived.Test.YtpgifpeohlllfaaGreatProg
import Derived.Test.YtpgifpeohlllfaaGreatGI00
import Derived.WalkLawsBesides
import Derived.WalkSpells
import Derived.Deep.QuietTactic
import Derived.BigQuiet
import Derived.WalkKit
import Derived.Below
set_option maxHeartbeats 20000000
set_option linter.unusedVariables false
set_option maxRecDepth 100000
set_option linter.unusedSimpArgs false
namespace Go.Proofs.YtpgifpeohlllfaaGreat
namespace KM
open Go.RowKit
def entR (nf ns : Nat) (ar : List AM.Ar) (es : List En) (i : Nat) : Bool:=((AM.findN ar (enAt es i).page).2 && (i == 0 || decide ((enAt es (i - 1)).page < (enAt es i).page))) && (if (enAt es i).kind = 1 then decide (0 <= (enAt es i).loc /\ (enAt es i).loc <= (nf : Int) - 1) else if (enAt es i).kind = 2 then decide (0 <= (enAt es i).loc /\ (enAt es i).loc <= (ns : Int) - 1) else false)
def entsR (nf ns : Nat) (ar : List AM.Ar) (es : List En) : Nat -> Bool
 | 0=>true
 | k + 1=>entsR nf ns ar es k && entR nf ns ar es k
def sheetR (hs : List LM.Sh) (ar : List AM.Ar) (p : Int) : Bool:=!((AM.findN ar p).2 && (!(AM.findN ar p).1.zero && !(sheetFor hs p).isSome))
def sheetsR (hs : List LM.Sh) (ar : List AM.Ar) : Nat -> Bool
 | 0=>true
 | k + 1=>sheetsR hs ar k && sheetR hs ar ((k : Int) + 1)
def spFineR (hs : List LM.Sh) (nf ns : Nat) (s : Sp) : Bool:=if s.live then decide (AM.checkN s.areas = 0) && (entsR nf ns s.areas s.ents s.ents.length && sheetsR hs s.areas 255) else decide (s.areas.length = 0) && decide (s.ents.length = 0)
structure Na where
 n : Int
 page : Int
 fine : Bool
 area : AM.Ar
def na0 : Na:=⟨0,0,true,AM.nil⟩
def naStep (a : Na) (p : Int) (r : AM.Ar) : Na:=⟨a.n + 1,p,a.fine && (decide (a.n = 0) || (decide (p = a.page) && r.zero == a.area.zero)),r⟩
def naEnt (ar : List AM.Ar) (kd i : Int) (a : Na) (e : En) : Na:=if e.kind = kd /\ e.loc = i then naStep a e.page (AM.findN ar e.page).1 else a
def naEnts (ar : List AM.Ar) (es : List En) (kd i : Int) (a : Na) : Nat -> Na
 | 0=>a
 | k + 1=>naEnt ar kd i (naEnts ar es kd i a k) (enAt es k)
def naSps (ss : List Sp) (kd i : Int) : Nat -> Na
 | 0=>na0
 | k + 1=>naEnts (spAt ss k).areas (spAt ss k).ents kd i (naSps ss kd i k) (spAt ss k).ents.length
def namersN (ss : List Sp) (kd i : Int) : Na:=naSps ss kd i ss.length
def frR (hs : List LM.Sh) (f : Fr) (a : Na) : Bool:=decide (f.refs = a.n) && (!(decide (a.n = 0) && !isZ f) && !(decide (0 < a.n) && (!a.fine || (decide (f.data.size ≠ 16) || (!f.dirty && decide (f.data ≠ fillK hs a.page a.area.zero))))))
def slR (f : Sl) (a : Na) : Bool:=decide (f.refs = a.n) && (!(decide (a.n = 0) && !isZS f) && !(decide (0 < a.n) && (!a.fine || decide (f.data.size ≠ 16))))
def spsR (k : Kn) : Nat -> Bool
 | 0=>true
 | n + 1=>spsR k n && spFineR k.sheets k.frames.length k.slots.length (spAt k.spaces n)
def frsR (k : Kn) : Nat -> Bool
 | 0=>true
 | n + 1=>frsR k n && frR k.sheets (frAt k.frames n) (namersN k.spaces 1 n)
def slsR (k : Kn) : Nat -> Bool
 | 0=>true
 | n + 1=>slsR k n && slR (slAt k.slots n) (namersN k.spaces 2 n)
def fineR (k : Kn) : Bool:=LM.riseB k.sheets && (decide (0 <= k.hand /\ k.hand <= (k.frames.length : Int) - 1) && (spsR k k.spaces.length && (decide (room k.spaces <= (k.slots.length : Int)) && (frsR k k.frames.length && slsR k k.slots.length))))
theorem to_all {f : Nat -> Bool} {g : Nat -> Bool} (h0 : g 0 = true) (hs : ∀ k,g (k + 1) = (g k && f k)) : ∀ n,g n = true ↔ ∀ i,i < n -> f i = true
 | 0=>⟨fun _ i hi=>by omega,fun _=>h0⟩
 | n + 1=>by
  rw [hs,Bool.and_eq_true,to_all h0 hs n]
  constructor
  · rintro ⟨h1,h2⟩ i hi
    by_cases c : i = n
    · rw [c];exact h2
    · exact h1 i (by omega)
  · exact fun h=>⟨fun i hi=>h i (by omega),h n (by omega)⟩
theorem entsR_iff {nf ns : Nat} {ar : List AM.Ar} {es : List En} : entsR nf ns ar es es.length = true ↔ (∀ e ∈ es,entOk nf ns ar e) /\ Rise es:=by
 rw [to_all (f:=entR nf ns ar es) rfl (fun _=>rfl),<- rise_iff]
 have key : ∀ i,i < es.length -> (entR nf ns ar es i = true ↔ entOk nf ns ar (enAt es i) /\ lastP es i < (enAt es i).page):=fun i hi=>by
  unfold entR entOk lastP
  rw [Bool.and_eq_true,Bool.and_eq_true,Bool.or_eq_true,beq_iff_eq,decide_eq_true_eq]
  constructor
  · rintro ⟨⟨h1,h2⟩,h3⟩
    refine ⟨⟨h1,?_⟩,?_⟩
    · by_cases c : (enAt es i).kind = 1
      · rw [if_pos c,decide_eq_true_eq] at h3
        exact .inl ⟨c,h3.1,by omega⟩
      · rw [if_neg c] at h3
        by_cases d : (enAt es i).kind = 2
        · rw [if_pos d,decide_eq_true_eq] at h3
          exact .inr ⟨d,h3.1,by omega⟩
        · rw [if_neg d] at h3;cases h3
    · by_cases c : i = 0
      · rw [if_pos c];have:=mapped_pos h1;omega
      · rw [if_neg c];exact h2.resolve_left c
  · rintro ⟨⟨h1,h2⟩,h3⟩
    refine ⟨⟨h1,?_⟩,?_⟩
    · by_cases c : i = 0
      · exact .inl c
      · rw [if_neg c] at h3;exact .inr h3
    · rcases h2 with g | g
      · rw [if_pos g.1,decide_eq_true_eq];omega
      · rw [if_neg (by omega),if_pos g.1,decide_eq_true_eq];omega
 exact ⟨fun h i hi=>(key i hi).1 (h i hi),fun h i hi=>(key i hi).2 (h i hi)⟩
theorem sheetsR_iff {hs : List LM.Sh} {ar : List AM.Ar} : sheetsR hs ar 255 = true ↔ ∀ p,(AM.findN ar p).2 = true -> (AM.findN ar p).1.zero = false -> (sheetFor hs p).isSome = true:=by
 rw [to_all (f:=fun k=>sheetR hs ar ((k : Int) + 1)) rfl (fun _=>rfl)]
 constructor
 · intro h p hp hz
   have hb:=mapped_pos hp
   have:=h (p - 1).toNat (by omega)
   rw [show ((p - 1).toNat : Int) + 1 = p by omega] at this
   unfold sheetR at this
   rw [hp,hz] at this
   simpa using this
 · intro h i hi
   unfold sheetR
   cases h1 : (AM.findN ar ((i : Int) + 1)).2 with
   | false=>rfl
   | true =>
    cases h2 : (AM.findN ar ((i : Int) + 1)).1.zero with
    | true=>rfl
    | false=>rw [h _ h1 h2];rfl
theorem spR_iff {hs : List LM.Sh} {nf ns : Nat} {s : Sp} : spFineR hs nf ns s = true ↔ SpR hs nf ns s:=by
 unfold spFineR
 by_cases c : s.live = true
 · rw [if_pos c,Bool.and_eq_true,Bool.and_eq_true,decide_eq_true_eq,entsR_iff,sheetsR_iff]
   exact ⟨fun h=>⟨fun d=>(by rw [c] at d;cases d),h.1,h.2.1.2,h.2.1.1,h.2.2⟩,fun h=>⟨h.areas,⟨h.ent,h.rise⟩,h.sheets⟩⟩
 · rw [if_neg c,Bool.and_eq_true,decide_eq_true_eq,decide_eq_true_eq]
   constructor
   · rintro ⟨h1,h2⟩
     have ha:=List.eq_nil_of_length_eq_zero h1
     have he:=List.eq_nil_of_length_eq_zero h2
     refine ⟨fun _=>⟨ha,he⟩,by rw [ha];rfl,by rw [he];exact List.Pairwise.nil,fun e g=>(by rw [he] at g;cases g),fun p hp=>?_⟩
     rw [ha] at hp
     cases hp
   · intro h
     have:=h.dead (by simpa using c)
     rw [this.1,this.2]
     exact ⟨rfl,rfl⟩
structure NaR (L : List (Int × Bool)) (a : Na) : Prop where
 n : a.n = L.length
 fine : a.fine = true ↔ ∀ x ∈ L,∀ y ∈ L,x = y
 last : L ≠ [] -> (a.page,a.area.zero) ∈ L
theorem na_step {L : List (Int × Bool)} {a : Na} (h : NaR L a) (p : Int) (r : AM.Ar) : NaR (L ++ [(p,r.zero)]) (naStep a p r):=by
 refine ⟨by show a.n + 1 = _;rw [h.n,List.length_append];rfl,?_,fun _=>List.mem_append.2 (.inr (by simp [naStep]))⟩
 show (a.fine && (decide (a.n = 0) || (decide (p = a.page) && r.zero == a.area.zero))) = true ↔ _
 rw [Bool.and_eq_true,h.fine,Bool.or_eq_true,Bool.and_eq_true,decide_eq_true_eq,decide_eq_true_eq,beq_iff_eq]
 constructor
 · rintro ⟨h1,h2⟩ x hx y hy
   have key : ∀ z ∈ L,z = (p,r.zero):=fun z hz=>by
    have hne : L ≠ []:=List.ne_nil_of_mem hz
    have h2:=h2.resolve_left (fun e=>hne (List.eq_nil_of_length_eq_zero (by have:=h.n;omega)))
    rw [h1 z hz _ (h.last hne),h2.1,h2.2]
   have all : ∀ z ∈ L ++ [(p,r.zero)],z = (p,r.zero):=fun z hz=>by
    rcases List.mem_append.1 hz with g | g
    · exact key z g
    · simpa using g
   rw [all x hx,all y hy]
 · intro g
   refine ⟨fun x hx y hy=>g x (List.mem_append.2 (.inl hx)) y (List.mem_append.2 (.inl hy)),?_⟩
   by_cases c : L = []
   · left;rw [h.n,c];rfl
   · right
     have:=g _ (List.mem_append.2 (.inl (h.last c))) (p,r.zero) (List.mem_append.2 (.inr (by simp)))
     injection this with e1 e2
     exact ⟨e1.symm,e2.symm⟩
theorem na_ents {L : List (Int × Bool)} {a : Na} (h : NaR L a) (ar : List AM.Ar) (es : List En) (kd i : Int) : ∀ k,k <= es.length -> NaR (L ++ nm ar kd i (es.take k)) (naEnts ar es kd i a k)
 | 0,_=>by rw [List.take_zero];show NaR (L ++ []) a;rw [List.append_nil];exact h
 | k + 1,hk=>by
  have ih:=na_ents h ar es kd i k (by omega)
  rw [take_succ es k (by omega),nm_append,<- List.append_assoc]
  show NaR _ (naEnt ar kd i (naEnts ar es kd i a k) (enAt es k))
  unfold naEnt
  by_cases c : (enAt es k).kind = kd /\ (enAt es k).loc = i
  · rw [if_pos c,nm_yes ar c];exact na_step ih _ _
  · rw [if_neg c,nm_no ar c,List.append_nil];exact ih
theorem na_sps (ss : List Sp) (kd i : Int) : ∀ k,k <= ss.length -> NaR (names (ss.take k) kd i) (naSps ss kd i k)
 | 0,_=>⟨rfl,⟨fun _ x hx=>(by cases hx),fun _=>rfl⟩,fun e=>absurd rfl e⟩
 | k + 1,hk=>by
  have:=na_ents (na_sps ss kd i k (by omega)) (spAt ss k).areas (spAt ss k).ents kd i _ (Nat.le_refl _)
  rw [List.take_length] at this
  rw [names_take ss k (by omega)]
  exact this
theorem na_all (ss : List Sp) (kd i : Int) : NaR (names ss kd i) (namersN ss kd i):=by
 have:=na_sps ss kd i ss.length (Nat.le_refl _)
 rw [List.take_length] at this
 exact this
theorem frR_iff {hs : List LM.Sh} {L : List (Int × Bool)} {a : Na} (h : NaR L a) (f : Fr) : frR hs f a = true ↔ FrR hs L f:=by
 unfold frR
 rw [Bool.and_eq_true,Bool.and_eq_true,decide_eq_true_eq]
 by_cases c : L = []
 · subst c
   have hn : a.n = 0:=h.n
   rw [hn]
   simp only [decide_true,Bool.true_and,Bool.not_not,Int.lt_irrefl,decide_false,Bool.false_and,Bool.not_false,and_true,isZ_iff]
   exact ⟨fun e=>by rw [e.2];exact FrR.none hs,fun e=>⟨by rw [e.zero rfl];rfl,e.zero rfl⟩⟩
 · have hp : 0 < L.length:=List.length_pos_iff.2 c
   have hn : 0 < a.n:=by rw [h.n];omega
   rw [decide_eq_false (show ¬ a.n = 0 by omega),decide_eq_true hn]
   simp only [Bool.false_and,Bool.not_false,Bool.true_and,true_and,Bool.not_eq_true',Bool.or_eq_false_iff,Bool.not_eq_false',Bool.and_eq_false_iff,decide_eq_false_iff_not,Decidable.not_not]
   constructor
   · rintro ⟨h1,h2,h3,h4⟩
     refine ⟨h1.trans h.n,fun e=>absurd e c,h.fine.1 h2,fun _=>h3,fun d x hx=>?_⟩
     rw [h.fine.1 h2 x hx _ (h.last c)]
     exact h4.resolve_left (by rw [d];simp)
   · intro g
     refine ⟨g.refs.trans h.n.symm,h.fine.2 g.one,g.size c,?_⟩
     cases d : f.dirty with
     | true=>exact .inl rfl
     | false=>exact .inr (g.fill d _ (h.last c))
theorem slR_iff {L : List (Int × Bool)} {a : Na} (h : NaR L a) (f : Sl) : slR f a = true ↔ SlR L f:=by
 unfold slR
 rw [Bool.and_eq_true,Bool.and_eq_true,decide_eq_true_eq]
 by_cases c : L = []
 · subst c
   have hn : a.n = 0:=h.n
   rw [hn]
   simp only [decide_true,Bool.true_and,Bool.not_not,Int.lt_irrefl,decide_false,Bool.false_and,Bool.not_false,and_true,isZS_iff]
   exact ⟨fun e=>by rw [e.2];exact SlR.none,fun e=>⟨by rw [e.zero rfl];rfl,e.zero rfl⟩⟩
 · have hp : 0 < L.length:=List.length_pos_iff.2 c
   have hn : 0 < a.n:=by rw [h.n];omega
   rw [decide_eq_false (show ¬ a.n = 0 by omega),decide_eq_true hn]
   simp only [Bool.false_and,Bool.not_false,Bool.true_and,true_and,Bool.not_eq_true',Bool.or_eq_false_iff,Bool.not_eq_false',decide_eq_false_iff_not,Decidable.not_not]
   constructor
   · rintro ⟨h1,h2,h3⟩
     exact ⟨h1.trans h.n,fun e=>absurd e c,h.fine.1 h2,fun _=>h3⟩
   · intro g
     exact ⟨g.refs.trans h.n.symm,h.fine.2 g.one,g.size c⟩
theorem fineR_iff (k : Kn) (hc : counts k = true) : fineR k = true ↔ RightK k:=by
 unfold fineR
 simp only [Bool.and_eq_true,decide_eq_true_eq]
 rw [to_all (g:=spsR k) (f:=fun n=>spFineR k.sheets k.frames.length k.slots.length (spAt k.spaces n)) rfl (fun _=>rfl),to_all (g:=frsR k) (f:=fun n=>frR k.sheets (frAt k.frames n) (namersN k.spaces 1 n)) rfl (fun _=>rfl),to_all (g:=slsR k) (f:=fun n=>slR (slAt k.slots n) (namersN k.spaces 2 n)) rfl (fun _=>rfl)]
 constructor
 · rintro ⟨h1,h2,h3,h4,h5,h6⟩
   refine ⟨hc,h1,by omega,fun s hs=>?_,h4,fun i hi=>(frR_iff (na_all _ _ _) _).1 (h5 i hi),fun i hi=>(slR_iff (na_all _ _ _) _).1 (h6 i hi)⟩
   obtain ⟨j,hj,rfl⟩:=mem_getD sp0 hs
   exact spR_iff.1 (h3 j hj)
 · intro h
   have hh:=h.hand
   exact ⟨h.rise,by omega,fun i hi=>spR_iff.2 (h.sp hi),h.room,fun i hi=>(frR_iff (na_all _ _ _) _).2 (h.frm i hi),fun i hi=>(slR_iff (na_all _ _ _) _).2 (h.slt i hi)⟩
def checkR (k : Kn) : Int:=if counts k = false then 2 else if fineR k then 0 else 1
theorem check_same (k : Kn) : checkR k = checkK k:=by
 unfold checkR checkK
 by_cases c : counts k = true
 · have : fineR k = fineP k:=by
    have h1:=fineR_iff k c;have h2:=fine_iff k c
    cases a : fineR k <;> cases b : fineP k
    · rfl
    · exact absurd (h1.2 (h2.1 b)) (by rw [a];simp)
    · exact absurd (h2.2 (h1.1 a)) (by rw [b];simp)
    · rfl
   rw [this]
 · rw [if_pos (by simpa using c),if_pos (by simpa using c)]
end KM
namespace AW
open Go.RowKit
set_option maxHeartbeats 400000 in
theorem end_any (p n t : Int) (z : Bool) (w : World) (h1 : -9223372036854775808 <= p + n) (h2 : p + n <= 9223372036854775807) :
  Calls Tryz.prog 117 #[.agg #[.int .i64 p,.int .i64 n,.int .i64 t,.bool z]] w fun e w'=>e = .returned (.int .i64 (p + n)) /\ Below w.heap.size w w':=by
 go_enter Tryz.func117,Tryz.ntmps117
 go_wp2
 go_ret
 exact ⟨rfl,(Below.refl _ _).alloc (Nat.le_refl _) _⟩
theorem rightPages_any (p n : Int) (w : World) (hp : -9223372036854775808 <= p /\ p <= 9223372036854775807) (hn : -9223372036854775808 <= n /\ n <= 9223372036854775807) :
  Calls Tryz.prog 143 #[.int .i64 p,.int .i64 n] w fun e w'=>e = .returned (.bool (AM.pagesB p n)) /\ w = w':=by
 by_cases h1 : 1 <= p
 · by_cases h2 : 1 <= n
   · by_cases h3 : n <= 256 - p
     · have e : AM.pagesB p n = true:=by simp [AM.pagesB,h1,h2,h3]
       have h4 : n <= 255 - p + 1:=by omega
       rw [e]
       go_enter Tryz.func143,Tryz.ntmps143
       go_wp2
       go_ret
       exact ⟨rfl,rfl⟩
     · have e : AM.pagesB p n = false:=by simp [AM.pagesB];omega
       have h4 : decide (n <= 255 - p + 1) = false:=by simp;omega
       rw [e]
       go_enter Tryz.func143,Tryz.ntmps143
       go_wp2
       go_ret
       exact ⟨rfl,rfl⟩
   · have e : AM.pagesB p n = false:=by simp [AM.pagesB];omega
     have h4 : decide (1 <= n) = false:=by simp;omega
     rw [e]
     go_enter Tryz.func143,Tryz.ntmps143
     go_wp2
     go_ret
     exact ⟨rfl,rfl⟩
 · have e : AM.pagesB p n = false:=by simp [AM.pagesB];omega
   have h4 : decide (1 <= p) = false:=by simp;omega
   rw [e]
   go_enter Tryz.func143,Tryz.ntmps143
   go_wp2
   go_ret
   exact ⟨rfl,rfl⟩
theorem rightProt_any (p : Int) (w : World) :
  Calls Tryz.prog 144 #[.int .i64 p] w fun e w'=>e = .returned (.bool (AM.protB p)) /\ w = w':=by
 by_cases h1 : 0 <= p
 · by_cases h2 : p <= 3
   · have e : AM.protB p = true:=by simp [AM.protB,h1,h2]
     rw [e]
     go_enter Tryz.func144,Tryz.ntmps144
     go_wp2
     go_ret
     exact ⟨rfl,rfl⟩
   · have e : AM.protB p = false:=by simp [AM.protB];omega
     have h4 : decide (p <= 3) = false:=by simp;omega
     rw [e]
     go_enter Tryz.func144,Tryz.ntmps144
     go_wp2
     go_ret
     exact ⟨rfl,rfl⟩
 · have e : AM.protB p = false:=by simp [AM.protB];omega
   have h4 : decide (0 <= p) = false:=by simp;omega
   rw [e]
   go_enter Tryz.func144,Tryz.ntmps144
   go_wp2
   go_ret
   exact ⟨rfl,rfl⟩
end AW
namespace Q
open Go.RowKit
structure Kin (B : Nat) (w : World) where
 world : World
 keeps : Below B w world
theorem kin_some (w : World) : Nonempty (Kin w.heap.size w):=⟨⟨w,Below.refl _ _⟩⟩
theorem region_kin {P : Program} {id : Nat} {Q : Exit -> Act -> World -> Prop} {a : Act} {w : World} {l : List Oper} (hm : P.follows .mixedOrders = true) (hB : Region.lexB .any l.toArray = true)
  (h : wpQuiet P l.toArray (fun w'=>∃ x : Kin w.heap.size w,w' = x.world) (fun a'=>∀ w',(∃ x : Kin w.heap.size w,w' = x.world) -> Q .normal a' w') l a) : (Code.region id l.toArray true).wp P Q a w :=
 wp_region_quiet (C:=fun w'=>∃ x : Kin w.heap.size w,w' = x.world) hm hB ⟨⟨_,(Below.refl _ _).drew⟩,rfl⟩ (by simpa using h)
theorem calls_kin {P : Program} {f : FuncId} {args : Array Value} {v : Value} {w : World} (h : ∀ W,Calls P f args W fun e w'=>e = .returned v /\ Below W.heap.size W w') (x : Kin w.heap.size w) :
  Calls P f args x.world fun e w''=>e = .returned v /\ ∃ y : Kin w.heap.size w,w'' = y.world :=
 (h x.world).mono fun e w'' ⟨he,hb⟩=>⟨he,⟨w'',x.keeps.trans (hb.mono x.keeps.size)⟩,rfl⟩
theorem cell_kin {w : World} (x : Kin w.heap.size w) (b o : Nat) (h : b < w.heap.size) : x.world.cell? ⟨b,o,none⟩ = w.cell? ⟨b,o,none⟩:=x.keeps.cell (p:=⟨b,o,none⟩) h
end Q
namespace AW
open Go.RowKit
set_option maxHeartbeats 400000 in
theorem mayFollow_eq (ap an at' bp bn bt : Int) (az bz : Bool) (w : World) (h1 : -9223372036854775808 <= ap + an) (h2 : ap + an <= 9223372036854775807) (he : bp = ap + an) :
  Calls Tryz.prog 145 #[.agg #[.int .i64 ap,.int .i64 an,.int .i64 at',.bool az],.agg #[.int .i64 bp,.int .i64 bn,.int .i64 bt,.bool bz]] w fun e w'=>e = .returned (.bool (bt != at' || bz != az)) /\ Below w.heap.size w w':=by
 obtain ⟨W,hW⟩ : ∃ W,W = (w.alloc (.cells #[.int .i64 ap,.int .i64 an,.int .i64 at',.bool az] 47)).alloc (.cells #[.int .i64 bp,.int .i64 bn,.int .i64 bt,.bool bz] 47):=⟨_,rfl⟩
 have hs : W.heap.size = w.heap.size + 2:=by rw [hW];simp
 have hkin:=Q.kin_some W
 have hkc:=@Q.cell_kin W
 have c0 : ∀ x : Q.Kin W.heap.size W,x.world.cell? ⟨w.heap.size,0,none⟩ = some (.int .i64 ap):=fun x=>by rw [hkc x _ _ (by omega),hW];simp
 have c1 : ∀ x : Q.Kin W.heap.size W,x.world.cell? ⟨w.heap.size,1,none⟩ = some (.int .i64 an):=fun x=>by rw [hkc x _ _ (by omega),hW];simp
 have c2 : ∀ x : Q.Kin W.heap.size W,x.world.cell? ⟨w.heap.size,2,none⟩ = some (.int .i64 at'):=fun x=>by rw [hkc x _ _ (by omega),hW];simp
 have c3 : ∀ x : Q.Kin W.heap.size W,x.world.cell? ⟨w.heap.size,3,none⟩ = some (.bool az):=fun x=>by rw [hkc x _ _ (by omega),hW];simp
 have d0 : ∀ x : Q.Kin W.heap.size W,x.world.cell? ⟨w.heap.size + 1,0,none⟩ = some (.int .i64 bp):=fun x=>by rw [hkc x _ _ (by omega),hW];simp
 have d2 : ∀ x : Q.Kin W.heap.size W,x.world.cell? ⟨w.heap.size + 1,2,none⟩ = some (.int .i64 bt):=fun x=>by rw [hkc x _ _ (by omega),hW];simp
 have d3 : ∀ x : Q.Kin W.heap.size W,x.world.cell? ⟨w.heap.size + 1,3,none⟩ = some (.bool bz):=fun x=>by rw [hkc x _ _ (by omega),hW];simp
 have hbW : Hid (Below w.heap.size w W):=by show Below _ _ _;rw [hW];exact ((Below.refl _ _).alloc (Nat.le_refl _) _).alloc (by simp) _
 have HW : Hid (W = (w.alloc (.cells #[.int .i64 ap,.int .i64 an,.int .i64 at',.bool az] 47)).alloc (.cells #[.int .i64 bp,.int .i64 bn,.int .i64 bt,.bool bz] 47)):=hW
 clear hW hs hkc
 have hx : (bp == ap + an) = true:=by simp [he]
 clear he
 go_enter Tryz.func145,Tryz.ntmps145
 go_wp2_with fail
 rw [<- HW.out]
 refine Q.region_kin (by kernel_rfl) (by kernel_rfl) ?_
 repeat (first | go_big_quiet_step ((go_at_call 117;exact Q.calls_kin (fun W=>end_any _ _ _ _ W h1 h2) _)) | quiet_step ((go_at_call 117;exact Q.calls_kin (fun W=>end_any _ _ _ _ W h1 h2) _)))
 refine wpQuiet_nil ?_
 intro _ hw'
 obtain ⟨x,hw''⟩:=hw'
 subst hw''
 go_wp2
 all_goals go_ret
 all_goals exact ⟨by first | (simp [*];done) | (simp [*];cases bz <;> cases az <;> rfl),hbW.out.trans (x.keeps.mono hbW.out.size)⟩
set_option maxHeartbeats 400000 in
theorem mayFollow_ne (ap an at' bp bn bt : Int) (az bz : Bool) (w : World) (h1 : -9223372036854775808 <= ap + an) (h2 : ap + an <= 9223372036854775807) (he : ¬ bp = ap + an) :
  Calls Tryz.prog 145 #[.agg #[.int .i64 ap,.int .i64 an,.int .i64 at',.bool az],.agg #[.int .i64 bp,.int .i64 bn,.int .i64 bt,.bool bz]] w fun e w'=>e = .returned (.bool (decide (ap + an < bp))) /\ Below w.heap.size w w':=by
 obtain ⟨W,hW⟩ : ∃ W,W = (w.alloc (.cells #[.int .i64 ap,.int .i64 an,.int .i64 at',.bool az] 47)).alloc (.cells #[.int .i64 bp,.int .i64 bn,.int .i64 bt,.bool bz] 47):=⟨_,rfl⟩
 have hs : W.heap.size = w.heap.size + 2:=by rw [hW];simp
 have hkin:=Q.kin_some W
 have hkc:=@Q.cell_kin W
 have c0 : ∀ x : Q.Kin W.heap.size W,x.world.cell? ⟨w.heap.size,0,none⟩ = some (.int .i64 ap):=fun x=>by rw [hkc x _ _ (by omega),hW];simp
 have c1 : ∀ x : Q.Kin W.heap.size W,x.world.cell? ⟨w.heap.size,1,none⟩ = some (.int .i64 an):=fun x=>by rw [hkc x _ _ (by omega),hW];simp
 have c2 : ∀ x : Q.Kin W.heap.size W,x.world.cell? ⟨w.heap.size,2,none⟩ = some (.int .i64 at'):=fun x=>by rw [hkc x _ _ (by omega),hW];simp
 have c3 : ∀ x : Q.Kin W.heap.size W,x.world.cell? ⟨w.heap.size,3,none⟩ = some (.bool az):=fun x=>by rw [hkc x _ _ (by omega),hW];simp
 have d0 : ∀ x : Q.Kin W.heap.size W,x.world.cell? ⟨w.heap.size + 1,0,none⟩ = some (.int .i64 bp):=fun x=>by rw [hkc x _ _ (by omega),hW];simp
 have hbW : Hid (Below w.heap.size w W):=by show Below _ _ _;rw [hW];exact ((Below.refl _ _).alloc (Nat.le_refl _) _).alloc (by simp) _
 have HW : Hid (W = (w.alloc (.cells #[.int .i64 ap,.int .i64 an,.int .i64 at',.bool az] 47)).alloc (.cells #[.int .i64 bp,.int .i64 bn,.int .i64 bt,.bool bz] 47)):=hW
 have hs2 : Hid (w.heap.size + 2 <= W.heap.size):=by show _ <= _;omega
 clear hW hs hkc
 have hx : (bp == ap + an) = false:=by simp [he]
 clear he
 go_enter Tryz.func145,Tryz.ntmps145
 go_wp2_with fail
 rw [<- HW.out]
 refine Q.region_kin (by kernel_rfl) (by kernel_rfl) ?_
 repeat (first | go_big_quiet_step ((go_at_call 117;exact Q.calls_kin (fun W=>end_any _ _ _ _ W h1 h2) _)) | quiet_step ((go_at_call 117;exact Q.calls_kin (fun W=>end_any _ _ _ _ W h1 h2) _)))
 refine wpQuiet_nil ?_
 intro _ hw'
 obtain ⟨x,hw''⟩:=hw'
 subst hw''
 have c0x:=c0 x
 have c1x:=c1 x
 have c2x:=c2 x
 have c3x:=c3 x
 have d0x:=d0 x
 have hsx : Hid (w.heap.size + 2 <= x.world.heap.size):=Nat.le_trans hs2.out x.keeps.size
 have hbx : Hid (Below w.heap.size w x.world):=hbW.out.trans (x.keeps.mono hbW.out.size)
 clear HW c0 c1 c2 c3 d0 hkin hbW hs2
 obtain ⟨V,hV⟩ : ∃ V,V = x.world:=⟨_,rfl⟩
 rw [<- hV] at c0x c1x c2x c3x d0x hsx hbx ⊢
 clear hV
 have hkin:=Q.kin_some V
 have hkc:=@Q.cell_kin V
 have hsx':=hsx.out
 have c0 : ∀ x : Q.Kin V.heap.size V,x.world.cell? ⟨w.heap.size,0,none⟩ = some (.int .i64 ap):=fun x=>by rw [hkc x _ _ (by omega),c0x]
 have c1 : ∀ x : Q.Kin V.heap.size V,x.world.cell? ⟨w.heap.size,1,none⟩ = some (.int .i64 an):=fun x=>by rw [hkc x _ _ (by omega),c1x]
 have c2 : ∀ x : Q.Kin V.heap.size V,x.world.cell? ⟨w.heap.size,2,none⟩ = some (.int .i64 at'):=fun x=>by rw [hkc x _ _ (by omega),c2x]
 have c3 : ∀ x : Q.Kin V.heap.size V,x.world.cell? ⟨w.heap.size,3,none⟩ = some (.bool az):=fun x=>by rw [hkc x _ _ (by omega),c3x]
 have d0 : ∀ x : Q.Kin V.heap.size V,x.world.cell? ⟨w.heap.size + 1,0,none⟩ = some (.int .i64 bp):=fun x=>by rw [hkc x _ _ (by omega),d0x]
 clear hkc hsx'
 go_wp2_with fail
 refine Q.region_kin (by kernel_rfl) (by kernel_rfl) ?_
 repeat (first | go_big_quiet_step ((go_at_call 117;exact Q.calls_kin (fun W=>end_any _ _ _ _ W h1 h2) _)) | quiet_step ((go_at_call 117;exact Q.calls_kin (fun W=>end_any _ _ _ _ W h1 h2) _)))
 refine wpQuiet_nil ?_
 intro _ hw'
 obtain ⟨y,hw''⟩:=hw'
 subst hw''
 go_wp2
 go_ret
 exact ⟨rfl,hbx.out.trans (y.keeps.mono hbx.out.size)⟩
theorem mayFollow_any (a b : AM.Ar) (w : World) (h1 : -9223372036854775808 <= a.page + a.pages) (h2 : a.page + a.pages <= 9223372036854775807) :
  Calls Tryz.prog 145 #[.agg #[.int .i64 a.page,.int .i64 a.pages,.int .i64 a.prot,.bool a.zero],.agg #[.int .i64 b.page,.int .i64 b.pages,.int .i64 b.prot,.bool b.zero]] w fun e w'=>e = .returned (.bool (AM.followB a b)) /\ Below w.heap.size w w':=by
 unfold AM.followB AM.Ar.last0
 split
 · exact mayFollow_eq _ _ _ _ _ _ _ _ w h1 h2 (by assumption)
 · exact mayFollow_ne _ _ _ _ _ _ _ _ w h1 h2 (by assumption)
theorem ret_int {k : IntKind} {a b : Int} (h : a = b) : Ending.returned (.int k a) = .returned (.int k b):=by rw [h]
set_option maxHeartbeats 1000000 in
theorem check_some (l : List AM.Ar) (b off cap : Nat) (w : World) (hl : AM.Lie w b off l) (hf : ∀ i,i < l.length -> AM.Fits (AM.at_ l i)) (hn : l.length <= 140737488351232) :
  Calls Tryz.prog 98 #[.slice (some ⟨b,off,none⟩) l.length cap] w fun e w'=>e = .returned (.int .i64 (AM.checkN l)) /\ Below w.heap.size w w':=by
 by_cases hm : 255 < l.length
 · have e : AM.checkN l = 2:=by simp [AM.checkN,hm]
   rw [e]
   have hm' : (255 : Int) < (l.length : Int):=by omega
   go_enter Tryz.func98,Tryz.ntmps98
   go_wp2
   go_ret
   exact ⟨rfl,Below.refl _ _⟩
 · have hm' : ¬ (255 : Int) < (l.length : Int):=by omega
   have e : AM.checkN l = if AM.good l then 0 else 1:=by simp [AM.checkN,hm]
   have E : Hid (AM.checkN l = if AM.good l then 0 else 1):=e
   clear e
   go_enter Tryz.func98,Tryz.ntmps98
   go_wp2
   go_loopw [10] (fun i wr=>∃ k : Nat,k <= l.length /\ i = .int .i64 k /\ AM.goodTo l k = true /\ Below w.heap.size w wr) (fun i _=>l.length - (intOf i).toNat)
   case atStart=>exact ⟨0,by omega,rfl,rfl,Below.refl _ _⟩
   case round =>
    obtain ⟨k,hk,rfl,hg,hb⟩:=hrel
    have HG : Hid (AM.goodTo l k = true):=hg
    clear hg
    by_cases hlt : k < l.length
    · obtain ⟨c0,c1,c2,c3⟩:=(hl.below hb) k hlt
      obtain ⟨f1,f2,f3⟩:=hf k hlt
      obtain ⟨a,ha⟩ : ∃ a,a = AM.at_ l k:=⟨_,rfl⟩
      rw [<- ha] at c0 c1 c2 c3 f1 f2 f3
      have HA : Hid (a = AM.at_ l k):=ha
      clear ha
      by_cases hp : AM.pagesB a.page a.pages = true
      · by_cases hq : AM.protB a.prot = true
        · obtain ⟨W,hW⟩ : ∃ W,W = wr.alloc (.cells #[.int .i64 a.page,.int .i64 a.pages,.int .i64 a.prot,.bool a.zero] 47):=⟨_,rfl⟩
          have hs : W.heap.size = wr.heap.size + 1:=by rw [hW];simp
          have hbW : Hid (Below w.heap.size w W):=by show Below _ _ _;rw [hW];exact hb.alloc hb.size _
          by_cases hk0 : k = 0
          · have hok : Hid (AM.okAt l k = true):=by show _ = true;unfold AM.okAt;rw [<- HA.out,hp,hq,hk0];rfl
            have z1 : decide ((0 : Int) < (k : Int)) = false:=by simp;omega
            have z2 : decide (0 < k) = false:=by simp;omega
            clear hk0
            go_wp2_with (first | (go_at_call 143;refine (rightPages_any _ _ _ f1 f2).mono ?_;rintro e w' ⟨rfl,rfl⟩) | (go_at_call 144;refine (rightProt_any _ _).mono ?_;rintro e w' ⟨rfl,rfl⟩))
            go_quiet (fail)
            go_wp2
            go_roundw
            case rel=>exact ⟨k + 1,by omega,by go_num,AM.ok_step l k HG.out hok.out,below_drewN (hb.alloc hb.size _) _⟩
            case measure=>simp [intOf];omega
          · have hkin:=Q.kin_some W
            have hkc:=@Q.cell_kin W
            have hlW:=hl.below hbW.out
            have hbl:=hlW.lt k hlt
            obtain ⟨g0,g1,g2,g3⟩:=hlW (k - 1) (by omega)
            obtain ⟨fp1,fp2,fp3⟩:=hf (k - 1) (by omega)
            obtain ⟨p,hpd⟩ : ∃ p,p = AM.at_ l (k - 1):=⟨_,rfl⟩
            rw [<- hpd] at g0 g1 g2 g3 fp1 fp2 fp3
            have hprev:=AM.goodTo_ok l k HG.out (k - 1) (by omega)
            have hps : AM.pagesB p.page p.pages = true:=by
             unfold AM.okAt at hprev
             rw [<- hpd] at hprev
             simp only [Bool.and_eq_true] at hprev
             exact hprev.1.1
            have hpb : 1 <= p.page /\ 1 <= p.pages /\ p.pages <= 256 - p.page:=by simpa [AM.pagesB] using hps
            have hok : Hid (AM.okAt l k = AM.followB p a):=by show _ = _;unfold AM.okAt;rw [<- HA.out,<- hpd,hp,hq];simp [hk0]
            have k0 : ∀ x : Q.Kin W.heap.size W,x.world.cell? ⟨b,off + (k - 1) * 4,none⟩ = some (.int .i64 p.page):=fun x=>by rw [hkc x _ _ hbl,g0]
            have k1 : ∀ x : Q.Kin W.heap.size W,x.world.cell? ⟨b,off + (k - 1) * 4 + 1,none⟩ = some (.int .i64 p.pages):=fun x=>by rw [hkc x _ _ hbl,g1]
            have k2 : ∀ x : Q.Kin W.heap.size W,x.world.cell? ⟨b,off + (k - 1) * 4 + 2,none⟩ = some (.int .i64 p.prot):=fun x=>by rw [hkc x _ _ hbl,g2]
            have k3 : ∀ x : Q.Kin W.heap.size W,x.world.cell? ⟨b,off + (k - 1) * 4 + 3,none⟩ = some (.bool p.zero):=fun x=>by rw [hkc x _ _ hbl,g3]
            have e0 : ∀ x : Q.Kin W.heap.size W,x.world.cell? ⟨wr.heap.size,0,none⟩ = some (.int .i64 a.page):=fun x=>by rw [hkc x _ _ (by omega),hW];simp
            have e1 : ∀ x : Q.Kin W.heap.size W,x.world.cell? ⟨wr.heap.size,1,none⟩ = some (.int .i64 a.pages):=fun x=>by rw [hkc x _ _ (by omega),hW];simp
            have e2 : ∀ x : Q.Kin W.heap.size W,x.world.cell? ⟨wr.heap.size,2,none⟩ = some (.int .i64 a.prot):=fun x=>by rw [hkc x _ _ (by omega),hW];simp
            have e3 : ∀ x : Q.Kin W.heap.size W,x.world.cell? ⟨wr.heap.size,3,none⟩ = some (.bool a.zero):=fun x=>by rw [hkc x _ _ (by omega),hW];simp
            have HW : Hid (W = wr.alloc (.cells #[.int .i64 a.page,.int .i64 a.pages,.int .i64 a.prot,.bool a.zero] 47)):=hW
            have hk1 : (1 : Int) <= (k : Int):=by omega
            have hk2 : 0 < k:=by omega
            have hk3 : (0 : Int) < (k : Int):=by omega
            clear hW hs hkc hlW hbl g0 g1 g2 g3 hpd hprev hps hl
            by_cases hfo : AM.followB p a = true
            · go_wp2_with (first | (go_at_call 143;refine (rightPages_any _ _ _ f1 f2).mono ?_;rintro e w' ⟨rfl,rfl⟩) | (go_at_call 144;refine (rightProt_any _ _).mono ?_;rintro e w' ⟨rfl,rfl⟩))
              rw [<- HW.out]
              refine Q.region_kin (by kernel_rfl) (by kernel_rfl) ?_
              repeat (first | go_big_quiet_step ((go_at_call 145;exact Q.calls_kin (fun W=>mayFollow_any p a W (by omega) (by omega)) _)) | quiet_step ((go_at_call 145;exact Q.calls_kin (fun W=>mayFollow_any p a W (by omega) (by omega)) _)))
              refine wpQuiet_nil ?_
              intro _ hw'
              obtain ⟨x,hw''⟩:=hw'
              subst hw''
              go_wp2
              go_roundw
              case rel=>exact ⟨k + 1,by omega,by go_num,AM.ok_step l k HG.out (hok.out.trans hfo),hbW.out.trans (x.keeps.mono hbW.out.size)⟩
              case measure=>simp [intOf];omega
            · have hfo' : AM.followB p a = false:=by simpa using hfo
              clear hfo
              go_wp2_with (first | (go_at_call 143;refine (rightPages_any _ _ _ f1 f2).mono ?_;rintro e w' ⟨rfl,rfl⟩) | (go_at_call 144;refine (rightProt_any _ _).mono ?_;rintro e w' ⟨rfl,rfl⟩))
              rw [<- HW.out]
              refine Q.region_kin (by kernel_rfl) (by kernel_rfl) ?_
              repeat (first | go_big_quiet_step ((go_at_call 145;exact Q.calls_kin (fun W=>mayFollow_any p a W (by omega) (by omega)) _)) | quiet_step ((go_at_call 145;exact Q.calls_kin (fun W=>mayFollow_any p a W (by omega) (by omega)) _)))
              refine wpQuiet_nil ?_
              intro _ hw'
              obtain ⟨x,hw''⟩:=hw'
              subst hw''
              go_wp2
              go_ret
              exact ⟨ret_int (by rw [E.out,AM.bad_at l k hlt (hok.out.trans hfo')];rfl),hbW.out.trans (x.keeps.mono hbW.out.size)⟩
        · have hq' : AM.protB a.prot = false:=by simpa using hq
          clear hq
          have hbad : Hid (AM.okAt l k = false):=by show _ = false;unfold AM.okAt;rw [<- HA.out,hp,hq'];rfl
          go_wp2_with (first | (go_at_call 143;refine (rightPages_any _ _ _ f1 f2).mono ?_;rintro e w' ⟨rfl,rfl⟩) | (go_at_call 144;refine (rightProt_any _ _).mono ?_;rintro e w' ⟨rfl,rfl⟩))
          go_ret
          exact ⟨ret_int (by rw [E.out,AM.bad_at l k hlt hbad.out];rfl),hb.alloc hb.size _⟩
      · have hp' : AM.pagesB a.page a.pages = false:=by simpa using hp
        clear hp
        have hbad : Hid (AM.okAt l k = false):=by show _ = false;unfold AM.okAt;rw [<- HA.out,hp'];rfl
        go_wp2_with (first | (go_at_call 143;refine (rightPages_any _ _ _ f1 f2).mono ?_;rintro e w' ⟨rfl,rfl⟩))
        go_ret
        exact ⟨ret_int (by rw [E.out,AM.bad_at l k hlt hbad.out];rfl),hb.alloc hb.size _⟩
    · obtain rfl : k = l.length:=by omega
      go_wp2
      go_ret
      exact ⟨ret_int (by rw [E.out,show AM.good l = true from HG.out];rfl),hb⟩
theorem check_nil (ao : Option Addr) (cap : Nat) (w : World) :
  Calls Tryz.prog 98 #[.slice ao 0 cap] w fun e w'=>e = .returned (.int .i64 (AM.checkN [])) /\ Below w.heap.size w w':=by
 have e : AM.checkN [] = 0:=by decide
 rw [e]
 go_enter Tryz.func98,Tryz.ntmps98
 go_wp2
 refine wp_loop_rounds 1 ?_
 rw [rounds_succ]
 go_wp2
 go_ret
 exact ⟨rfl,Below.refl _ _⟩
set_option maxHeartbeats 1000000 in
theorem total_some (l : List AM.Ar) (b off cap : Nat) (w : World) (hl : AM.Lie w b off l) (hf : ∀ i,i < l.length -> AM.Fits (AM.at_ l i)) (hn : l.length <= 140737488351232) :
  Calls Tryz.prog 54 #[.slice (some ⟨b,off,none⟩) l.length cap] w fun e w'=>e = .returned (.int .i64 (AM.totalN l)) /\ Below w.heap.size w w':=by
 by_cases hc : AM.checkN l = 0
 · have hlen:=AM.good_len l hc
   have HC : Hid (AM.totalN l = AM.sumTo l l.length):=by show _ = _;simp [AM.totalN,hc]
   have HK : Hid (AM.checkN l = 0):=hc
   go_enter Tryz.func54,Tryz.ntmps54
   go_wp2_with fail
   refine (check_some l b off cap _ hl hf hn).mono ?_
   rintro e w1 ⟨rfl,hb1⟩
   rw [hc]
   clear hc
   go_wp2
   go_loopw [3,11] (fun s i wr=>∃ k : Nat,k <= l.length /\ i = .int .i64 k /\ s = .int .i64 (AM.sumTo l k) /\ Below w.heap.size w wr) (fun _ i _=>l.length - (intOf i).toNat)
   case atStart=>exact ⟨0,by omega,rfl,rfl,hb1⟩
   case round =>
    obtain ⟨k,hk,rfl,rfl,hb⟩:=hrel
    have hbd:=AM.sumTo_bd l HK.out k hk
    by_cases hlt : k < l.length
    · obtain ⟨c0,c1,c2,c3⟩:=(hl.below hb) k hlt
      have hsu : Hid (AM.sumTo l (k + 1) = AM.sumTo l k + (AM.at_ l k).pages):=rfl
      have hbk:=AM.okAt_pages l k (AM.good_pages l HK.out k hlt)
      obtain ⟨a,ha⟩ : ∃ a,a = AM.at_ l k:=⟨_,rfl⟩
      rw [<- ha] at c0 c1 c2 c3 hsu hbk
      clear ha
      go_wp2
      go_roundw
      case rel=>exact ⟨k + 1,by omega,by go_num,by rw [hsu.out],hb.alloc hb.size _⟩
      case measure=>simp [intOf];omega
    · obtain rfl : k = l.length:=by omega
      go_wp2
      go_ret
      exact ⟨ret_int HC.out.symm,hb⟩
 · have HC : Hid (AM.totalN l = 0):=by show _ = _;simp [AM.totalN,hc]
   have hc' : (AM.checkN l != 0) = true:=by simpa using hc
   go_enter Tryz.func54,Tryz.ntmps54
   go_wp2_with fail
   refine (check_some l b off cap _ hl hf hn).mono ?_
   rintro e w1 ⟨rfl,hb1⟩
   go_wp2
   go_ret
   exact ⟨ret_int HC.out.symm,hb1⟩
theorem total_nil (ao : Option Addr) (cap : Nat) (w : World) :
  Calls Tryz.prog 54 #[.slice ao 0 cap] w fun e w'=>e = .returned (.int .i64 (AM.totalN [])) /\ Below w.heap.size w w':=by
 have e : AM.totalN [] = 0:=by decide
 have e2 : AM.checkN [] = 0:=by decide
 rw [e]
 go_enter Tryz.func54,Tryz.ntmps54
 go_wp2_with fail
 refine (check_nil ao cap _).mono ?_
 rintro e w1 ⟨rfl,hb1⟩
 rw [e2]
 go_wp2
 refine wp_loop_rounds 1 ?_
 rw [rounds_succ]
 go_wp2
 go_ret
 exact ⟨rfl,hb1⟩
end AW
namespace B
open Go.RowKit
theorem below {w w' : World} {b N : Nat} {o : Obj} (h : w.heap[b]? = some o) (hb : Below N w w') (hlt : b < N) : w'.heap[b]? = some o:=(hb.block b hlt).trans h
theorem isLt {w : World} {b : Nat} {o : Obj} (h : w.heap[b]? = some o) : b < w.heap.size:=(Array.getElem?_eq_some_iff.1 h).1
theorem alloc {w : World} {b : Nat} {o : Obj} (h : w.heap[b]? = some o) (o' : Obj) : (w.alloc o').heap[b]? = some o:=(Below.heap_alloc w o' b (isLt h)).trans h
theorem cell {w : World} {b : Nat} {C : Array Value} {t : TypeId} {fr : Nat × Nat} (h : w.heap[b]? = some (.cells C t fr)) (j : Nat) {v : Value} (hj : C[j]? = some v) : w.cell? ⟨b,j,none⟩ = some v:=(cell_of_row w b j C t fr h).trans hj
theorem free {w : World} {b : Nat} {C : Array Value} {t : TypeId} (h : w.heap[b]? = some (.cells C t (0,0))) (j : Nat) : w.frozen? ⟨b,j,none⟩ = false:=frozen_of_row w b j C t h
theorem other {w : World} {b : Nat} {o : Obj} (h : w.heap[b]? = some o) (g j : Nat) (v : Value) (hne : b ≠ g) : (w.setCell ⟨g,j,none⟩ v).heap[b]? = some o:=(heap_setCell_other w ⟨g,j,none⟩ b v hne).trans h
theorem set {w : World} {b : Nat} {C : Array Value} {t : TypeId} (h : w.heap[b]? = some (.cells C t (0,0))) (j : Nat) (v : Value) : (w.setCell ⟨b,j,none⟩ v).heap[b]? = some (.cells (C.setIfInBounds j v) t (0,0)):=heap_setCell_same w b j C t v h
theorem new (w : World) (C : Array Value) (t : TypeId) : (w.alloc (.cells C t)).heap[w.heap.size]? = some (.cells C t (0,0)):=heap_alloc_new w _
theorem news {w : World} {b : Nat} {C : Array Value} {t : TypeId} {fr : Nat × Nat} (h : w.heap[b]? = some (.cells C t fr)) : ∀ j u,C.toList[j]? = some u -> w.cell? ((⟨b,0,none⟩ : Addr).add j) = some u:=fun j u hj=>by
 rw [Addr.add_lit,Nat.zero_add]
 exact cell h j (by simpa using hj)
theorem grown {w w' : World} {b : Nat} {o : Obj} {row : Option Nat} (h : w.heap[b]? = some o) (hg : w.grownBy w' row) (hne : some b ≠ row) : w'.heap[b]? = some o:=(hg.block b (isLt h) hne).trans h
theorem c2 {w : World} {b : Nat} {a0 a1 : Value} {t : TypeId} (h : w.heap[b]? = some (.cells #[a0,a1] t (0,0))) : w.cell? ⟨b,0,none⟩ = some a0 /\ w.cell? ⟨b,1,none⟩ = some a1:=⟨cell h 0 rfl,cell h 1 rfl⟩
theorem c3 {w : World} {b : Nat} {a0 a1 a2 : Value} {t : TypeId} (h : w.heap[b]? = some (.cells #[a0,a1,a2] t (0,0))) : w.cell? ⟨b,0,none⟩ = some a0 /\ w.cell? ⟨b,1,none⟩ = some a1 /\ w.cell? ⟨b,2,none⟩ = some a2:=⟨cell h 0 rfl,cell h 1 rfl,cell h 2 rfl⟩
theorem c4 {w : World} {b : Nat} {a0 a1 a2 a3 : Value} {t : TypeId} (h : w.heap[b]? = some (.cells #[a0,a1,a2,a3] t (0,0))) : w.cell? ⟨b,0,none⟩ = some a0 /\ w.cell? ⟨b,1,none⟩ = some a1 /\ w.cell? ⟨b,2,none⟩ = some a2 /\ w.cell? ⟨b,3,none⟩ = some a3:=⟨cell h 0 rfl,cell h 1 rfl,cell h 2 rfl,cell h 3 rfl⟩
theorem c5 {w : World} {b : Nat} {a0 a1 a2 a3 a4 : Value} {t : TypeId} (h : w.heap[b]? = some (.cells #[a0,a1,a2,a3,a4] t (0,0))) : w.cell? ⟨b,0,none⟩ = some a0 /\ w.cell? ⟨b,1,none⟩ = some a1 /\ w.cell? ⟨b,2,none⟩ = some a2 /\ w.cell? ⟨b,3,none⟩ = some a3 /\ w.cell? ⟨b,4,none⟩ = some a4:=⟨cell h 0 rfl,cell h 1 rfl,cell h 2 rfl,cell h 3 rfl,cell h 4 rfl⟩
end B
end Go.Proofs.YtpgifpeohlllfaaGreat
