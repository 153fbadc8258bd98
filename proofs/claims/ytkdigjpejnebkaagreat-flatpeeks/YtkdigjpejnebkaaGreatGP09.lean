import Derived.Test.YtkdigjpejnebkaaGreatGP08
set_option linter.unusedVariables false
set_option maxRecDepth 100000
set_option linter.unusedSimpArgs false
namespace Go.Proofs.YtkdigjpejnebkaaGreat
namespace FW
open Go.RowKit
def cmpN (a b : Int) : Int := if a < b then -1 else if b < a then 1 else 0
theorem nan_any (a : Int) (w : World) : Calls Tryz.prog 113 #[.int .i64 a] w fun e w' => e = .returned (.bool false) /\ w = w' := by
 go_enter Tryz.func113,Tryz.ntmps113
 go_wp2
 go_ret
 exact ⟨by simp,rfl⟩
set_option maxHeartbeats 1000000 in
theorem compare_any (a b : Int) (w : World) : Calls Tryz.prog 91 #[.int .i64 a,.int .i64 b] w fun e w' => e = .returned (.int .i64 (cmpN a b)) /\ w = w' := by
 have HN := hideC (fun x V => nan_any x V)
 obtain ⟨A,hA⟩ : ∃ A,A = cmpN a b := ⟨_,rfl⟩
 rw [<- hA]
 unfold cmpN at hA
 have HA := hideC hA
 clear hA
 by_cases h1 : a < b
 · have HA2 : Hid (A = -1) := by show _ = _;rw [HA.out,if_pos h1]
   clear HA
   go_enter Tryz.func91,Tryz.ntmps91
   go_wp2_with (go_at_call 113;refine (HN.out _ _).mono ?_;rintro e w1 ⟨rfl,rfl⟩)
   go_ret
   exact ⟨by rw [HA2.out];rfl,rfl⟩
 · by_cases h2 : b < a
   · have HA2 : Hid (A = 1) := by show _ = _;rw [HA.out,if_neg h1,if_pos h2]
     clear HA
     go_enter Tryz.func91,Tryz.ntmps91
     go_wp2_with (go_at_call 113;refine (HN.out _ _).mono ?_;rintro e w1 ⟨rfl,rfl⟩)
     go_ret
     exact ⟨by rw [HA2.out];rfl,rfl⟩
   · have HA2 : Hid (A = 0) := by show _ = _;rw [HA.out,if_neg h1,if_neg h2]
     clear HA
     go_enter Tryz.func91,Tryz.ntmps91
     go_wp2_with (go_at_call 113;refine (HN.out _ _).mono ?_;rintro e w1 ⟨rfl,rfl⟩)
     go_ret
     exact ⟨by rw [HA2.out];rfl,rfl⟩
set_option maxHeartbeats 1000000 in
theorem place1_any (p : Int) (d : ByteArray) (q : Int) (w : World) : Calls Tryz.prog 90 #[.agg #[.int .i64 p,.string d],.int .i64 q] w fun e w' => e = .returned (.int .i64 (cmpN p q)) /\ Below w.heap.size w w' := by
 have HC := hideC (compare_any p q)
 go_enter Tryz.func90,Tryz.ntmps90
 go_wp2_with (go_at_call 91;refine (HC.out _).mono ?_;rintro e w1 ⟨rfl,rfl⟩)
 go_ret
 exact ⟨rfl,(Below.refl _ _).alloc (Nat.le_refl _) _⟩
structure Low (l : List FM.Pg) (p : Int) (i : Nat) : Prop where
 le : i <= l.length
 low : ∀ j,j < i -> (FM.pgAt l j).page < p
 high : ∀ j,i <= j -> j < l.length -> p <= (FM.pgAt l j).page
def foundAt (l : List FM.Pg) (p : Int) (i : Nat) : Bool := decide (i < l.length /\ (FM.pgAt l i).page = p)
def Rise (l : List FM.Pg) : Prop := ∀ i j,i < j -> j < l.length -> (FM.pgAt l i).page < (FM.pgAt l j).page
theorem cmp_neg (a b : Int) : cmpN a b < 0 ↔ a < b := by
 unfold cmpN
 split
 · exact ⟨fun _ => by assumption,fun _ => by decide⟩
 · split <;> constructor <;> intro h <;> first | omega | (exfalso;revert h;decide)
theorem cmp_zero (a b : Int) : (cmpN a b == 0) = decide (a = b) := by
 unfold cmpN
 by_cases h1 : a < b
 · rw [if_pos h1,decide_eq_false (by omega)];rfl
 · rw [if_neg h1]
   by_cases h2 : b < a
   · rw [if_pos h2,decide_eq_false (by omega)];rfl
   · rw [if_neg h2,decide_eq_true (by omega)];rfl
set_option maxHeartbeats 2000000 in
theorem search_any (l : List FM.Pg) (p : Int) (ao : Option Addr) (cap : Nat) (w : World) (h : HasP w ao l) (hr : Rise l) (hn : l.length <= 140737488351232) :
  Calls Tryz.prog 89 #[.slice ao l.length cap,.int .i64 p,.func (.func 90) #[] #[]] w fun e w' => ∃ i,Low l p i /\ e = .returned (.tuple #[.int .i64 (i : Int),.bool (foundAt l p i)]) /\ Below w.heap.size w w' := by
 have HH := hideC h
 have HR := hideC hr
 have HP1 := hideC (fun a d V => place1_any a d p V)
 clear h hr
 go_enter Tryz.func89,Tryz.ntmps89
 go_wp2
 go_loopw [9,10] (fun iv jv wr => ∃ lo hi : Nat,lo <= hi /\ hi <= l.length /\ iv = .int .i64 (lo : Int) /\ jv = .int .i64 (hi : Int) /\ (∀ j,j < lo -> (FM.pgAt l j).page < p) /\ (∀ j,hi <= j -> j < l.length -> p <= (FM.pgAt l j).page) /\ Below w.heap.size w wr) (fun iv jv _ => (intOf jv).toNat - (intOf iv).toNat)
 case atStart => exact ⟨0,l.length,by omega,by omega,rfl,rfl,fun j hj => by omega,fun j h1 h2 => by omega,Below.refl _ _⟩
 case round =>
  obtain ⟨lo,hi,hlh,hhl,rfl,rfl,hlow,hhigh,hb⟩ := hrel
  have HLO := hideC hlow
  have HHI := hideC hhigh
  have HB := hideC hb
  clear hlow hhigh
  by_cases hlt : lo < hi
  · obtain ⟨m,hm⟩ : ∃ m,m = (lo + hi) / 2 := ⟨_,rfl⟩
    have hm1 : lo <= m := by omega
    have hm2 : m < hi := by omega
    have hmi : ((lo : Int) + hi) / 2 = (m : Int) := by omega
    have HMI := hideC hmi
    have hq1 : ((lo : Int) + hi) / 2 < (l.length : Int) := by omega
    have hq0 : 0 <= ((lo : Int) + hi) / 2 := by omega
    have hqn : (((lo : Int) + hi) / 2).toNat = m := by omega
    obtain ⟨b,off,hao,hbl,hlie⟩ := (HH.out.below hb) (by omega)
    subst hao
    obtain ⟨c0,c1⟩ := hlie m (by omega)
    have HCN := hideC (cmp_neg (FM.pgAt l m).page p)
    have HP2 := hideC (HP1.out (FM.pgAt l m).page (FM.pgAt l m).data)
    have HUP : Hid ((FM.pgAt l m).page < p -> ∀ j,j < m + 1 -> (FM.pgAt l j).page < p) := fun e j hj => by
     by_cases q : j = m
     · rw [q];exact e
     · have := HR.out j m (by omega) (by omega)
       omega
    have HDN : Hid (¬ (FM.pgAt l m).page < p -> ∀ j,m <= j -> j < l.length -> p <= (FM.pgAt l j).page) := fun e j h1 h2 => by
     by_cases q : j = m
     · rw [q];omega
     · have := HR.out m j (by omega) h2
       omega
    obtain ⟨pg,hpg⟩ : ∃ pg,pg = (FM.pgAt l m).page := ⟨_,rfl⟩
    obtain ⟨dt,hdt⟩ : ∃ dt,dt = (FM.pgAt l m).data := ⟨_,rfl⟩
    rw [<- hpg] at c0 HCN HP2 HUP HDN
    rw [<- hdt] at c1 HP2
    rw [hm] at c0 c1
    obtain ⟨cm,hcm⟩ : ∃ cm,cm = cmpN pg p := ⟨_,rfl⟩
    rw [<- hcm] at HCN HP2
    clear hmi hm hqn hlie hb hpg hdt hcm
    by_cases hcn : cm < 0
    · have HU2 := hideC (HUP.out (HCN.out.1 hcn))
      clear HUP HDN
      go_wp2_with (go_at_call 90;refine (HP2.out _).mono ?_;rintro e w1 ⟨rfl,hb1⟩;have HB1 := hideC (add_below HB.out hb1);clear hb1)
      go_roundw
      case rel => exact ⟨m + 1,hi,by omega,hhl,congrArg (Value.int .i64) (by have := HMI.out;omega),rfl,HU2.out,HHI.out,HB1.out⟩
      case measure => simp [intOf];have := HMI.out;omega
    · have HD2 := hideC (HDN.out (fun g => hcn (HCN.out.2 g)))
      clear HUP HDN
      go_wp2_with (go_at_call 90;refine (HP2.out _).mono ?_;rintro e w1 ⟨rfl,hb1⟩;have HB1 := hideC (add_below HB.out hb1);clear hb1)
      go_roundw
      case rel => exact ⟨lo,m,hm1,by omega,rfl,congrArg (Value.int .i64) HMI.out,HLO.out,HD2.out,HB1.out⟩
      case measure => simp [intOf];have := HMI.out;omega
  · obtain rfl : lo = hi := by omega
    have HLW : Hid (Low l p lo) := ⟨hhl,HLO.out,HHI.out⟩
    by_cases hlt2 : lo < l.length
    · obtain ⟨b,off,hao,hbl,hlie⟩ := (HH.out.below hb) (by omega)
      subst hao
      obtain ⟨c0,c1⟩ := hlie lo hlt2
      have HP2 := hideC (HP1.out (FM.pgAt l lo).page (FM.pgAt l lo).data)
      have HCZ := hideC (cmp_zero (FM.pgAt l lo).page p)
      have HDC : Hid (foundAt l p lo = decide ((FM.pgAt l lo).page = p)) := by
       show _ = _
       unfold foundAt
       rw [decide_eq_decide]
       exact ⟨fun g => g.2,fun g => ⟨hlt2,g⟩⟩
      obtain ⟨pg,hpg⟩ : ∃ pg,pg = (FM.pgAt l lo).page := ⟨_,rfl⟩
      obtain ⟨dt,hdt⟩ : ∃ dt,dt = (FM.pgAt l lo).data := ⟨_,rfl⟩
      have HDC2 := HDC
      rw [<- hpg] at c0 HP2 HCZ
      rw [<- hdt] at c1 HP2
      have HPG := hideC hpg
      clear hpg hdt hlie hb hlt
      go_wp2_with (go_at_call 90;refine (HP2.out _).mono ?_;rintro e w1 ⟨rfl,hb1⟩;have HB1 := hideC (add_below HB.out hb1);clear hb1)
      go_ret2
      refine ⟨lo,HLW.out,?_,HB1.out⟩
      rw [HDC.out,<- HPG.out,<- HCZ.out]
      rfl
    · have HDC : Hid (foundAt l p lo = false) := decide_eq_false (fun g => hlt2 g.1)
      have hge : ¬ (lo : Int) < (l.length : Int) := by omega
      clear hb hlt
      go_wp2
      go_ret2
      refine ⟨lo,HLW.out,?_,HB.out⟩
      rw [HDC.out]
      rfl
set_option maxHeartbeats 1000000 in
theorem place_any (l : List FM.Pg) (p : Int) (ao : Option Addr) (cap : Nat) (w : World) (h : HasP w ao l) (hr : Rise l) (hn : l.length <= 140737488351232) :
  Calls Tryz.prog 60 #[.slice ao l.length cap,.int .i64 p] w fun e w' => ∃ i,Low l p i /\ e = .returned (.tuple #[.int .i64 (i : Int),.bool (foundAt l p i)]) /\ Below w.heap.size w w' := by
 have HS := hideC (search_any l p ao cap w h hr hn)
 clear h hr
 go_enter Tryz.func60,Tryz.ntmps60
 go_wp2_with (go_at_call 89;refine HS.out.mono ?_;rintro e w1 ⟨i,hi,rfl,hb1⟩;have HL := hideC hi;have HB1 := hideC hb1;clear hb1 hi)
 go_ret2
 exact ⟨i,HL.out,rfl,HB1.out⟩
def peekFrom (p : Int) : List FM.Pg -> Option ByteArray
 | [] => none
 | x :: r => if x.page = p then some x.data else peekFrom p r
def outP : Option ByteArray -> ByteArray × Bool
 | none => (⟨#[]⟩,false)
 | some d => (d,true)
theorem peek_at : ∀ (l : List FM.Pg) (p : Int) (k : Nat),k < l.length -> (∀ j,j < k -> ¬ (FM.pgAt l j).page = p) -> (FM.pgAt l k).page = p -> peekFrom p l = some (FM.pgAt l k).data
 | [],p,k,h,_,_ => by simp at h
 | x :: r,p,0,h,_,e => by
  show (if x.page = p then some x.data else peekFrom p r) = _
  rw [if_pos (show x.page = p from e)]
  rfl
 | x :: r,p,k + 1,h,hn,e => by
  show (if x.page = p then some x.data else peekFrom p r) = _
  rw [if_neg (show ¬ x.page = p from hn 0 (by omega))]
  exact peek_at r p k (by simp at h;omega) (fun j hj => hn (j + 1) (by omega)) e
theorem peek_none : ∀ (l : List FM.Pg) (p : Int),(∀ j,j < l.length -> ¬ (FM.pgAt l j).page = p) -> peekFrom p l = none
 | [],p,_ => rfl
 | x :: r,p,h => by
  show (if x.page = p then some x.data else peekFrom p r) = _
  rw [if_neg (show ¬ x.page = p from h 0 (by simp))]
  exact peek_none r p (fun j hj => h (j + 1) (by simp;omega))
theorem peek_low {l : List FM.Pg} {p : Int} {i : Nat} (h : Low l p i) (hr : Rise l) : peekFrom p l = if foundAt l p i = true then some (FM.pgAt l i).data else none := by
 by_cases c : i < l.length /\ (FM.pgAt l i).page = p
 · have e : foundAt l p i = true := decide_eq_true c
   rw [if_pos e]
   exact peek_at l p i c.1 (fun j hj g => by have := h.low j hj;omega) c.2
 · have e : foundAt l p i = false := decide_eq_false c
   rw [e]
   refine peek_none l p (fun j hj g => ?_)
   by_cases q : j < i
   · have := h.low j q
     omega
   · by_cases q2 : j = i
     · subst q2;exact c ⟨hj,g⟩
     · have h1 := h.high i (Nat.le_refl _) (by omega)
       have h2 := hr i j (by omega) hj
       omega
set_option maxHeartbeats 2000000 in
theorem flatPeek_any (l : List FM.Pg) (p : Int) (lv : Bool) (va : Value) (ao : Option Addr) (cap : Nat) (w : World) (h : HasP w ao l) (hn : l.length <= 140737488351232) :
  Calls Tryz.prog 20 #[.agg #[.bool lv,va,.slice ao l.length cap],.int .i64 p] w fun e w' => e = .returned (.tuple #[.string (outP (peekFrom p l)).1,.bool (outP (peekFrom p l)).2]) /\ Below w.heap.size w w' := by
 have HH := hideC h
 have HAT : Hid (∀ k,k < l.length -> (∀ j,j < k -> ¬ (FM.pgAt l j).page = p) -> (FM.pgAt l k).page = p -> peekFrom p l = some (FM.pgAt l k).data) := fun k => peek_at l p k
 have HNO := hideC (peek_none l p)
 obtain ⟨R,hR⟩ : ∃ R,R = peekFrom p l := ⟨_,rfl⟩
 rw [<- hR] at HAT HNO ⊢
 clear h hR
 have HB0 := hideC ((Below.refl w.heap.size w).alloc (Nat.le_refl _) (.cells #[.bool lv,va,.slice ao l.length cap] 53))
 have X0 := hideC (B.new w #[.bool lv,va,.slice ao l.length cap] 53)
 go_enter Tryz.func20,Tryz.ntmps20
 go_wp2
 go_loopw [6] (fun iv wr => ∃ k : Nat,k <= l.length /\ iv = .int .i64 (k : Int) /\ (∀ j,j < k -> ¬ (FM.pgAt l j).page = p) /\ wr.heap[w.heap.size]? = some (.cells #[.bool lv,va,.slice ao l.length cap] 53 (0,0)) /\ Below w.heap.size w wr) (fun iv _ => l.length - (intOf iv).toNat)
 case atStart => exact ⟨0,by omega,rfl,fun j hj => by omega,X0.out,HB0.out⟩
 case round =>
  obtain ⟨k,hk,rfl,hall,hx,hb⟩ := hrel
  have HB := hideC hb
  have HX := hideC hx
  have HAL := hideC hall
  have x2 : wr.cell? ⟨w.heap.size,2,none⟩ = some (.slice ao l.length cap) := B.cell hx 2 rfl
  clear hall hx
  by_cases hlt : k < l.length
  · obtain ⟨b,off,hao,hbl,hlie⟩ := (HH.out.below hb) (by omega)
    subst hao
    obtain ⟨c0,c1⟩ := hlie k hlt
    have HA2 := hideC (HAT.out k hlt HAL.out)
    have HST : Hid (¬ (FM.pgAt l k).page = p -> ∀ j,j < k + 1 -> ¬ (FM.pgAt l j).page = p) := fun e j hj => by
     by_cases q : j = k
     · rw [q];exact e
     · exact HAL.out j (by omega)
    obtain ⟨pg,hpg⟩ : ∃ pg,pg = (FM.pgAt l k).page := ⟨_,rfl⟩
    obtain ⟨dt,hdt⟩ : ∃ dt,dt = (FM.pgAt l k).data := ⟨_,rfl⟩
    rw [<- hpg] at c0 HA2 HST
    rw [<- hdt] at c1 HA2
    clear hpg hdt hlie hb HAL
    by_cases hq : pg = p
    · have HA3 := hideC (HA2.out hq)
      have hqi : (pg == p) = true := by rw [beq_iff_eq];exact hq
      clear hq HA2 HST
      go_wp2
      go_ret2
      exact ⟨by rw [HA3.out];rfl,HB.out⟩
    · have HS2 := hideC (HST.out hq)
      have hqi : (pg == p) = false := by rw [beq_eq_false_iff_ne];exact hq
      clear hq HA2 HST
      go_wp2
      go_roundw
      case rel => exact ⟨k + 1,by omega,by go_num,HS2.out,HX.out,HB.out⟩
      case measure => simp [intOf];omega
  · obtain rfl : k = l.length := by omega
    have HN2 := hideC (HNO.out HAL.out)
    clear hb
    go_wp2
    go_ret2
    exact ⟨by rw [HN2.out];rfl,HB.out⟩
theorem rise_pairs {l : List FM.Pg} (h : (FM.numbers l).Pairwise (· < ·)) : Rise l := fun i j hij hj => by
 have hl : (FM.numbers l).length = l.length := List.length_map _
 have := List.pairwise_iff_getElem.1 h i j (by omega) (by omega) hij
 rw [<- FM.numbers_at,<- FM.numbers_at,List.getD_eq_getElem?_getD,List.getD_eq_getElem?_getD,List.getElem?_eq_getElem (show i < (FM.numbers l).length by omega),List.getElem?_eq_getElem (show j < (FM.numbers l).length by omega)]
 exact this
theorem rise_right {s : FM.Sp} (h : FM.rightSpace s = true) : Rise s.pages := by
 unfold FM.rightSpace at h
 cases hl : s.live with
 | true =>
  rw [hl] at h
  simp only [if_true,Bool.and_eq_true,decide_eq_true_eq] at h
  apply rise_pairs
  rw [h.2.1]
  exact (FM.asc_of h.1).sorted
 | false =>
  rw [hl] at h
  simp only [Bool.false_eq_true,if_false,Bool.and_eq_true,decide_eq_true_eq] at h
  intro i j _ hj
  omega
theorem check_spaces {f : FM.Fl} (h : FM.checkF f = 0) (k : Nat) (hk : k < f.spaces.length) : FM.rightSpace (FM.spAt f.spaces k) = true := by
 unfold FM.checkF at h
 split at h
 · cases h
 · split at h
   · rename_i g
     unfold FM.rightSpaces at g
     simp only [Bool.and_eq_true] at g
     refine List.all_eq_true.1 g.1.1 _ ?_
     unfold FM.spAt
     rw [List.getD_eq_getElem?_getD,List.getElem?_eq_getElem hk]
     exact List.getElem_mem hk
   · cases h
def peekN (f : FM.Fl) (sp pg : Int) : ByteArray × Int :=
 if FM.checkF f = 0 then (if 0 <= sp /\ sp < (f.spaces.length : Int) then (match peekFrom pg (FM.spAt f.spaces sp.toNat).pages with
   | none => (⟨#[]⟩,6)
   | some d => (d,0)) else (⟨#[]⟩,6))
 else (⟨#[]⟩,FM.checkF f)
set_option maxHeartbeats 4000000 in
theorem peek_any (f : FM.Fl) (sp pg : Int) (az ar ao : Option Addr) (cs cr co : Nat) (w : World) (h : HasFl w f az ar ao) (hf : FitFl f) :
  Calls Tryz.prog 19 #[.agg (flCells f az ar ao cs cr co),.int .i64 sp,.int .i64 pg] w fun e w' => e = .returned (.tuple #[.string (peekN f sp pg).1,.int .i64 (peekN f sp pg).2]) /\ Below w.heap.size w w' := by
 have HCK := hideC (fun V (hV : Below w.heap.size w V) => check_any f az ar ao cs cr co V (h.below hV) hf)
 have HH := hideC h
 have HF := hideC hf
 have HSP := hideC (fun (g : FM.checkF f = 0) k hk => rise_right (check_spaces g k hk))
 have HK : Hid (peekN f sp pg = if FM.checkF f = 0 then (if 0 <= sp /\ sp < (f.spaces.length : Int) then (match peekFrom pg (FM.spAt f.spaces sp.toNat).pages with | none => (⟨#[]⟩,6) | some d => (d,0)) else (⟨#[]⟩,6)) else (⟨#[]⟩,FM.checkF f)) := rfl
 obtain ⟨⟨R1,R2⟩,hR⟩ : ∃ R,R = peekN f sp pg := ⟨_,rfl⟩
 rw [<- hR] at HK ⊢
 obtain ⟨C,hC⟩ : ∃ C,C = FM.checkF f := ⟨_,rfl⟩
 rw [<- hC] at HK HCK HSP
 clear hR hC h hf
 simp only
 unfold flCells at HCK ⊢
 have hns : f.spaces.length <= 140737488351232 := HF.out.spaces.1
 have HB0 := hideC ((Below.refl w.heap.size w).alloc (Nat.le_refl _) (.cells #[.int .i64 f.slots,.slice az f.spaces.length cs,.slice ar f.procs.length cr,.slice ao f.out.length co] 30))
 have X0 := hideC (B.new w #[.int .i64 f.slots,.slice az f.spaces.length cs,.slice ar f.procs.length cr,.slice ao f.out.length co] 30)
 obtain ⟨ns,hnn⟩ : ∃ ns,ns = f.spaces.length := ⟨_,rfl⟩
 have HNN := hideC hnn
 obtain ⟨nr,hnr⟩ : ∃ nr,nr = f.procs.length := ⟨_,rfl⟩
 obtain ⟨no,hno⟩ : ∃ no,no = f.out.length := ⟨_,rfl⟩
 obtain ⟨sl,hsl⟩ : ∃ sl,sl = f.slots := ⟨_,rfl⟩
 rw [<- hnn,<- hnr,<- hno,<- hsl] at HCK HB0 X0 ⊢
 rw [<- hnn] at HK HSP hns
 clear hnn hnr hno hsl
 by_cases hC : C = 0
 · subst hC
   have HK2 := HK.out
   rw [if_pos rfl] at HK2
   have HK3 := hideC HK2
   clear HK HK2
   by_cases h0 : sp < 0
   · have HA : Hid ((R1,R2) = (⟨#[]⟩,6)) := by show _ = _;rw [HK3.out,if_neg (by omega)]
     clear HK3 HSP
     go_enter Tryz.func19,Tryz.ntmps19
     go_wp2_with (go_at_call 12;refine (HCK.out _ HB0.out).mono ?_;rintro e w1 ⟨rfl,hb1⟩;have HB1 := hideC (add_below HB0.out hb1);clear hb1)
     go_ret2
     exact ⟨by rw [(Prod.mk.inj HA.out).1,(Prod.mk.inj HA.out).2];rfl,HB1.out⟩
   · by_cases h1 : (ns : Int) <= sp
     · have HA : Hid ((R1,R2) = (⟨#[]⟩,6)) := by show _ = _;rw [HK3.out,if_neg (by omega)]
       clear HK3 HSP
       go_enter Tryz.func19,Tryz.ntmps19
       go_wp2_with (go_at_call 12;refine (HCK.out _ HB0.out).mono ?_;rintro e w1 ⟨rfl,hb1⟩;have HB1 := hideC (add_below HB0.out hb1);have X1 := hideC (B.below X0.out hb1 (B.isLt X0.out));clear hb1;have x1 : w1.cell? ⟨w.heap.size,1,none⟩ = some (.slice az ns cs) := B.cell X1.out 1 rfl)
       go_ret2
       exact ⟨by rw [(Prod.mk.inj HA.out).1,(Prod.mk.inj HA.out).2];rfl,HB1.out⟩
     · obtain ⟨k,rfl⟩ : ∃ k : Nat,sp = (k : Int) := ⟨sp.toNat,by omega⟩
       have hkn : k < ns := by omega
       have HK4 := HK3.out
       rw [if_pos (by omega),Int.toNat_natCast] at HK4
       have HK5 := hideC HK4
       have hks : k < f.spaces.length := by rw [<- HNN.out];exact hkn
       have HRI := hideC (HSP.out rfl k hkn)
       obtain ⟨b,off,hao,hbl,hlie⟩ := HH.out.spaces (by omega)
       subst hao
       obtain ⟨va,ap,cp,c0,c1,c2,c3,c4,c5⟩ := hlie k hks
       have hfk := HF.out.spaces.2 k hks
       have HPL : Hid (∀ V,Below w.heap.size w V -> Calls Tryz.prog 60 #[.slice ap (FM.spAt f.spaces k).pages.length cp,.int .i64 pg] V fun e w' => ∃ i,Low (FM.spAt f.spaces k).pages pg i /\ e = .returned (.tuple #[.int .i64 (i : Int),.bool (foundAt (FM.spAt f.spaces k).pages pg i)]) /\ Below V.heap.size V w') := fun V hV => place_any _ pg ap cp V (c4.below hV) HRI.out hfk.pages
       have HC4 := hideC c4
       have HBX := hideC hbl
       have HC2 := hideC c2
       have hpl : (FM.spAt f.spaces k).pages.length <= 140737488351232 := hfk.pages
       clear HK3 HK4 HSP hlie c0 c1 c2 c3 c4 c5 hfk h0 h1 HF HH hks
       obtain ⟨ps,hps⟩ : ∃ ps,ps = (FM.spAt f.spaces k).pages := ⟨_,rfl⟩
       rw [<- hps] at HK5 HRI HPL HC4 HC2 hpl
       clear hps
       go_enter Tryz.func19,Tryz.ntmps19
       go_wp2_with (go_at_call 12;refine (HCK.out _ HB0.out).mono ?_;rintro e w1 ⟨rfl,hb1⟩;have HB1 := hideC (add_below HB0.out hb1);have X1 := hideC (B.below X0.out hb1 (B.isLt X0.out));clear hb1;have x1 : w1.cell? ⟨w.heap.size,1,none⟩ = some (.slice (some ⟨b,off,none⟩) ns cs) := B.cell X1.out 1 rfl;have y2 : w1.cell? ⟨b,off + k * 3 + 2,none⟩ = some (.slice ap ps.length cp) := (HB1.out.cell (p := ⟨b,off + k * 3 + 2,none⟩) HBX.out).trans HC2.out)
       refine (HPL.out _ HB1.out).mono ?_
       rintro e w2 ⟨i,hi,rfl,hb2⟩
       have HLW := hideC hi
       have HB2 := hideC (add_below HB1.out hb2)
       have X2 := hideC (B.below X1.out hb2 (B.isLt X1.out))
       have z1 : w2.cell? ⟨w.heap.size,1,none⟩ = some (.slice (some ⟨b,off,none⟩) ns cs) := B.cell X2.out 1 rfl
       have z2 : w2.cell? ⟨b,off + k * 3 + 2,none⟩ = some (.slice ap ps.length cp) := (HB2.out.cell (p := ⟨b,off + k * 3 + 2,none⟩) HBX.out).trans HC2.out
       have HPK := hideC (peek_low hi HRI.out)
       have HFO : Hid (foundAt ps pg i = true -> i < ps.length) := fun g => (of_decide_eq_true g).1
       obtain ⟨fd,hfd⟩ : ∃ fd,fd = foundAt ps pg i := ⟨_,rfl⟩
       rw [<- hfd] at HPK HFO ⊢
       clear hb2 hi hfd x1 y2
       cases fd with
       | false =>
        have HA : Hid ((R1,R2) = (⟨#[]⟩,6)) := by
         show _ = _
         rw [HK5.out,HPK.out]
         rfl
        clear HK5 HPK HFO
        go_wp2
        go_ret2
        exact ⟨by rw [(Prod.mk.inj HA.out).1,(Prod.mk.inj HA.out).2];rfl,HB2.out⟩
       | true =>
        have hip := HFO.out rfl
        have HA : Hid ((R1,R2) = ((FM.pgAt ps i).data,0)) := by
         show _ = _
         rw [HK5.out,HPK.out]
         rfl
        obtain ⟨b2,off2,hao2,hbl2,hlie2⟩ := (HC4.out.below HB2.out) (by omega)
        subst hao2
        obtain ⟨d0,d1⟩ := hlie2 i hip
        obtain ⟨dt,hdt⟩ : ∃ dt,dt = (FM.pgAt ps i).data := ⟨_,rfl⟩
        rw [<- hdt] at HA d1
        clear HK5 HPK HFO hlie2 d0 hdt
        go_wp2
        go_ret2
        exact ⟨by rw [(Prod.mk.inj HA.out).1,(Prod.mk.inj HA.out).2];rfl,HB2.out⟩
 · have HA : Hid ((R1,R2) = (⟨#[]⟩,C)) := by show _ = _;rw [HK.out,if_neg hC]
   have hCi : (C == 0) = false := by rw [beq_eq_false_iff_ne];exact hC
   clear HK HSP hC
   go_enter Tryz.func19,Tryz.ntmps19
   go_wp2_with (go_at_call 12;refine (HCK.out _ HB0.out).mono ?_;rintro e w1 ⟨rfl,hb1⟩;have HB1 := hideC (add_below HB0.out hb1);clear hb1)
   go_ret2
   exact ⟨by rw [(Prod.mk.inj HA.out).1,(Prod.mk.inj HA.out).2];rfl,HB1.out⟩
end FW
namespace GT
open Go.RowKit
open FW (hideC add_below)
set_option maxHeartbeats 4000000 in
theorem peeks_any (f : FM.Fl) (sp pg : Int) (az ar ao : Option Addr) (cs cr co : Nat) (w : World) (h : FW.HasFl w f az ar ao) (hf : FW.FitFl f)
  (hck : ∀ V,Below w.heap.size w V -> Calls Tryz.prog 13 #[.agg (FW.flCells f az ar ao cs cr co)] V fun e w' => e = .returned (.int .i64 (FM.checkF f)) /\ Below V.heap.size V w')
  (hbg : ∀ V,Calls Tryz.prog 10 #[] V fun e w' => e = .returned (.bool true) /\ Below V.heap.size V w') :
  Calls Tryz.prog 6 #[.agg (FW.flCells f az ar ao cs cr co),.int .i64 sp,.int .i64 pg] w fun e w' => e = .returned (.bool true) /\ Below w.heap.size w w' := by
 have HPK := hideC (fun V (hV : Below w.heap.size w V) => FW.peek_any f sp pg az ar ao cs cr co V (h.below hV) hf)
 have HCK := hideC hck
 have HBG := hideC hbg
 have HH := hideC h.spaces
 have HFP : Hid (∀ k,k < f.spaces.length -> ∀ V va ap cp,FW.HasP V ap (FM.spAt f.spaces k).pages -> Calls Tryz.prog 20 #[.agg #[.bool (FM.spAt f.spaces k).live,va,.slice ap (FM.spAt f.spaces k).pages.length cp],.int .i64 pg] V fun e w' => e = .returned (.tuple #[.string (FW.outP (FW.peekFrom pg (FM.spAt f.spaces k).pages)).1,.bool (FW.outP (FW.peekFrom pg (FM.spAt f.spaces k).pages)).2]) /\ Below V.heap.size V w') := fun k hk V va ap cp hV => FW.flatPeek_any _ pg _ va ap cp V hV (hf.spaces.2 k hk).pages
 have HPN : Hid (FW.peekN f sp pg = if FM.checkF f = 0 then (if 0 <= sp /\ sp < (f.spaces.length : Int) then (match FW.peekFrom pg (FM.spAt f.spaces sp.toNat).pages with
   | none => (⟨#[]⟩,6)
   | some d => (d,0)) else (⟨#[]⟩,6))
  else (⟨#[]⟩,FM.checkF f)) := rfl
 have hns : f.spaces.length <= 140737488351232 := hf.spaces.1
 obtain ⟨R,hR⟩ : ∃ R,R = FW.peekN f sp pg := ⟨_,rfl⟩
 rw [<- hR] at HPK HPN
 obtain ⟨c,hc⟩ : ∃ c,c = FM.checkF f := ⟨_,rfl⟩
 rw [<- hc] at HPN HCK
 unfold FW.flCells at *
 obtain ⟨ss,hss⟩ : ∃ ss,ss = f.spaces := ⟨_,rfl⟩
 rw [<- hss] at HH HFP HPN hns HPK HCK ⊢
 obtain ⟨ns,hnse⟩ : ∃ ns,ns = ss.length := ⟨_,rfl⟩
 obtain ⟨nr,hnr⟩ : ∃ nr,nr = f.procs.length := ⟨_,rfl⟩
 obtain ⟨no,hno⟩ : ∃ no,no = f.out.length := ⟨_,rfl⟩
 obtain ⟨sl,hsl⟩ : ∃ sl,sl = f.slots := ⟨_,rfl⟩
 rw [<- hnse,<- hnr,<- hno,<- hsl] at HPK HCK ⊢
 rw [<- hnse] at HPN hns HFP
 have HNS := hideC hnse
 clear h hf hck hbg hR hc hss hnse hnr hno hsl
 have HB0 := hideC ((Below.refl w.heap.size w).alloc (Nat.le_refl _) (.cells #[.int .i64 sl,.slice az ns cs,.slice ar nr cr,.slice ao no co] 30))
 have X0 := hideC (B.new w #[.int .i64 sl,.slice az ns cs,.slice ar nr cr,.slice ao no co] 30)
 by_cases h0 : c = 0
 · subst h0
   rw [if_pos rfl] at HPN
   by_cases hr : 0 <= sp /\ sp < (ns : Int)
   · obtain ⟨k,rfl⟩ : ∃ k : Nat,sp = (k : Int) := ⟨sp.toNat,by omega⟩
     rw [if_pos hr,Int.toNat_natCast] at HPN
     have hkl : k < ns := by omega
     have hki : (k : Int) < (ns : Int) := hr.2
     have hk0 : (0 : Int) <= (k : Int) := hr.1
     obtain ⟨b,off,hao,hbl,hlie⟩ := HH.out (by rw [<- HNS.out];omega)
     subst hao
     obtain ⟨va,ap,cp,c0,c1,c2,c3,c4,c5⟩ := hlie k (by rw [<- HNS.out];exact hkl)
     obtain ⟨aa,na,ca,rfl⟩ := FW.isSl c3
     have HF2 : Hid (∀ V,Below w.heap.size w V -> Calls Tryz.prog 20 #[.agg #[.bool (FM.spAt ss k).live,.slice aa na ca,.slice ap (FM.spAt ss k).pages.length cp],.int .i64 pg] V fun e w' => e = .returned (.tuple #[.string (FW.outP (FW.peekFrom pg (FM.spAt ss k).pages)).1,.bool (FW.outP (FW.peekFrom pg (FM.spAt ss k).pages)).2]) /\ Below V.heap.size V w') := fun V hV => HFP.out k hkl V _ ap cp (c4.below hV)
     have HCE : Hid (∀ V,Below w.heap.size w V -> V.cell? ⟨b,off + k * 3,none⟩ = some (.bool (FM.spAt ss k).live) /\ V.cell? ⟨b,off + k * 3 + 1,none⟩ = some (.slice aa na ca) /\ V.cell? ⟨b,off + k * 3 + 2,none⟩ = some (.slice ap (FM.spAt ss k).pages.length cp)) := fun V hV => ⟨(M.below_cell hV hbl).trans c0,(M.below_cell hV hbl).trans c1,(M.below_cell hV hbl).trans c2⟩
     obtain ⟨lv,hlv⟩ : ∃ lv,lv = (FM.spAt ss k).live := ⟨_,rfl⟩
     obtain ⟨np,hnp⟩ : ∃ np,np = (FM.spAt ss k).pages.length := ⟨_,rfl⟩
     obtain ⟨Z,hZ⟩ : ∃ Z,Z = FW.peekFrom pg (FM.spAt ss k).pages := ⟨_,rfl⟩
     rw [<- hlv] at HF2 HCE
     rw [<- hnp] at HF2 HCE
     rw [<- hZ] at HF2 HPN
     clear hlv hnp hZ c0 c1 c2 c3 c4 c5 hlie HFP HH hr
     cases Z with
     | none =>
      have HR1 : Hid (R.1 = ⟨#[]⟩) := by show _ = _;rw [HPN.out]
      have HR2 : Hid (R.2 = 6) := by show _ = _;rw [HPN.out]
      rw [HR1.out,HR2.out] at HPK
      have HF3 : Hid (∀ V,Below w.heap.size w V -> Calls Tryz.prog 20 #[.agg #[.bool lv,.slice aa na ca,.slice ap np cp],.int .i64 pg] V fun e w' => e = .returned (.tuple #[.string ⟨#[]⟩,.bool false]) /\ Below V.heap.size V w') := HF2
      clear HF2
      go_enter Tryz.func6,Tryz.ntmps6
      go_wp2_with (first
       | (go_at_call 19;refine (HPK.out _ HB0.out).mono ?_;rintro e w1 ⟨rfl,hb1⟩;have HB1 := hideC (add_below HB0.out hb1);have X1 := hideC (B.below X0.out hb1 (B.isLt X0.out));clear hb1;have x0 : w1.cell? ⟨w.heap.size,0,none⟩ = some (.int .i64 sl) := B.cell X1.out 0 rfl;have x1 : w1.cell? ⟨w.heap.size,1,none⟩ = some (.slice (some ⟨b,off,none⟩) ns cs) := B.cell X1.out 1 rfl;have x2 : w1.cell? ⟨w.heap.size,2,none⟩ = some (.slice ar nr cr) := B.cell X1.out 2 rfl;have x3 : w1.cell? ⟨w.heap.size,3,none⟩ = some (.slice ao no co) := B.cell X1.out 3 rfl)
       | (go_at_call 13;refine (HCK.out _ HB1.out).mono ?_;rintro e w2 ⟨rfl,hb2⟩;have HB2 := hideC (add_below HB1.out hb2);have X2 := hideC (B.below X1.out hb2 (B.isLt X1.out));clear hb2;have y1 : w2.cell? ⟨w.heap.size,1,none⟩ = some (.slice (some ⟨b,off,none⟩) ns cs) := B.cell X2.out 1 rfl;have z0 := (HCE.out _ HB2.out).1;have z1 := (HCE.out _ HB2.out).2.1;have z2 := (HCE.out _ HB2.out).2.2)
       | (go_at_call 20;refine (HF3.out _ HB2.out).mono ?_;rintro e w3 ⟨rfl,hb3⟩;have HB3 := hideC (add_below HB2.out hb3);clear hb3)
       | (go_at_call 10;refine (HBG.out _).mono ?_;rintro e w4 ⟨rfl,hb4⟩;have HB4 := hideC (add_below HB3.out hb4);clear hb4))
      go_ret
      exact ⟨by simp,HB4.out⟩
     | some d =>
      have HR1 : Hid (R.1 = d) := by show _ = _;rw [HPN.out]
      have HR2 : Hid (R.2 = 0) := by show _ = _;rw [HPN.out]
      rw [HR1.out,HR2.out] at HPK
      have HF3 : Hid (∀ V,Below w.heap.size w V -> Calls Tryz.prog 20 #[.agg #[.bool lv,.slice aa na ca,.slice ap np cp],.int .i64 pg] V fun e w' => e = .returned (.tuple #[.string d,.bool true]) /\ Below V.heap.size V w') := HF2
      clear HF2
      go_enter Tryz.func6,Tryz.ntmps6
      go_wp2_with (first
       | (go_at_call 19;refine (HPK.out _ HB0.out).mono ?_;rintro e w1 ⟨rfl,hb1⟩;have HB1 := hideC (add_below HB0.out hb1);have X1 := hideC (B.below X0.out hb1 (B.isLt X0.out));clear hb1;have x0 : w1.cell? ⟨w.heap.size,0,none⟩ = some (.int .i64 sl) := B.cell X1.out 0 rfl;have x1 : w1.cell? ⟨w.heap.size,1,none⟩ = some (.slice (some ⟨b,off,none⟩) ns cs) := B.cell X1.out 1 rfl;have x2 : w1.cell? ⟨w.heap.size,2,none⟩ = some (.slice ar nr cr) := B.cell X1.out 2 rfl;have x3 : w1.cell? ⟨w.heap.size,3,none⟩ = some (.slice ao no co) := B.cell X1.out 3 rfl)
       | (go_at_call 13;refine (HCK.out _ HB1.out).mono ?_;rintro e w2 ⟨rfl,hb2⟩;have HB2 := hideC (add_below HB1.out hb2);have X2 := hideC (B.below X1.out hb2 (B.isLt X1.out));clear hb2;have y1 : w2.cell? ⟨w.heap.size,1,none⟩ = some (.slice (some ⟨b,off,none⟩) ns cs) := B.cell X2.out 1 rfl;have z0 := (HCE.out _ HB2.out).1;have z1 := (HCE.out _ HB2.out).2.1;have z2 := (HCE.out _ HB2.out).2.2)
       | (go_at_call 20;refine (HF3.out _ HB2.out).mono ?_;rintro e w3 ⟨rfl,hb3⟩;have HB3 := hideC (add_below HB2.out hb3);clear hb3)
       | (go_at_call 10;refine (HBG.out _).mono ?_;rintro e w4 ⟨rfl,hb4⟩;have HB4 := hideC (add_below HB3.out hb4);clear hb4))
      go_ret
      exact ⟨by simp,HB4.out⟩
   · rw [if_neg hr] at HPN
     have HR1 : Hid (R.1 = ⟨#[]⟩) := by show _ = _;rw [HPN.out]
     have HR2 : Hid (R.2 = 6) := by show _ = _;rw [HPN.out]
     rw [HR1.out,HR2.out] at HPK
     clear HFP HH HPN
     by_cases hs0 : 0 <= sp
     · have hs1 : ¬ sp < (ns : Int) := fun g => hr ⟨hs0,g⟩
       go_enter Tryz.func6,Tryz.ntmps6
       go_wp2_with (first
        | (go_at_call 19;refine (HPK.out _ HB0.out).mono ?_;rintro e w1 ⟨rfl,hb1⟩;have HB1 := hideC (add_below HB0.out hb1);have X1 := hideC (B.below X0.out hb1 (B.isLt X0.out));clear hb1;have x0 : w1.cell? ⟨w.heap.size,0,none⟩ = some (.int .i64 sl) := B.cell X1.out 0 rfl;have x1 : w1.cell? ⟨w.heap.size,1,none⟩ = some (.slice az ns cs) := B.cell X1.out 1 rfl;have x2 : w1.cell? ⟨w.heap.size,2,none⟩ = some (.slice ar nr cr) := B.cell X1.out 2 rfl;have x3 : w1.cell? ⟨w.heap.size,3,none⟩ = some (.slice ao no co) := B.cell X1.out 3 rfl)
        | (go_at_call 13;refine (HCK.out _ HB1.out).mono ?_;rintro e w2 ⟨rfl,hb2⟩;have HB2 := hideC (add_below HB1.out hb2);have X2 := hideC (B.below X1.out hb2 (B.isLt X1.out));clear hb2;have y1 : w2.cell? ⟨w.heap.size,1,none⟩ = some (.slice az ns cs) := B.cell X2.out 1 rfl)
        | (go_at_call 10;refine (HBG.out _).mono ?_;rintro e w4 ⟨rfl,hb4⟩;have HB4 := hideC (add_below HB2.out hb4);clear hb4))
       go_ret
       exact ⟨by simp,HB4.out⟩
     · go_enter Tryz.func6,Tryz.ntmps6
       go_wp2_with (first
        | (go_at_call 19;refine (HPK.out _ HB0.out).mono ?_;rintro e w1 ⟨rfl,hb1⟩;have HB1 := hideC (add_below HB0.out hb1);have X1 := hideC (B.below X0.out hb1 (B.isLt X0.out));clear hb1;have x0 : w1.cell? ⟨w.heap.size,0,none⟩ = some (.int .i64 sl) := B.cell X1.out 0 rfl;have x1 : w1.cell? ⟨w.heap.size,1,none⟩ = some (.slice az ns cs) := B.cell X1.out 1 rfl;have x2 : w1.cell? ⟨w.heap.size,2,none⟩ = some (.slice ar nr cr) := B.cell X1.out 2 rfl;have x3 : w1.cell? ⟨w.heap.size,3,none⟩ = some (.slice ao no co) := B.cell X1.out 3 rfl)
        | (go_at_call 13;refine (HCK.out _ HB1.out).mono ?_;rintro e w2 ⟨rfl,hb2⟩;have HB2 := hideC (add_below HB1.out hb2);have X2 := hideC (B.below X1.out hb2 (B.isLt X1.out));clear hb2;have y1 : w2.cell? ⟨w.heap.size,1,none⟩ = some (.slice az ns cs) := B.cell X2.out 1 rfl)
        | (go_at_call 10;refine (HBG.out _).mono ?_;rintro e w4 ⟨rfl,hb4⟩;have HB4 := hideC (add_below HB2.out hb4);clear hb4))
       go_ret
       exact ⟨by simp,HB4.out⟩
 · have h0i : (c == 0) = false := by rw [beq_eq_false_iff_ne];exact h0
   rw [if_neg h0] at HPN
   have HR1 : Hid (R.1 = ⟨#[]⟩) := by show _ = _;rw [HPN.out]
   have HR2 : Hid (R.2 = c) := by show _ = _;rw [HPN.out]
   rw [HR1.out,HR2.out] at HPK
   clear HFP HH HPN
   go_enter Tryz.func6,Tryz.ntmps6
   go_wp2_with (first
         | (go_at_call 19;refine (HPK.out _ HB0.out).mono ?_;rintro e w1 ⟨rfl,hb1⟩;have HB1 := hideC (add_below HB0.out hb1);have X1 := hideC (B.below X0.out hb1 (B.isLt X0.out));clear hb1;have x0 : w1.cell? ⟨w.heap.size,0,none⟩ = some (.int .i64 sl) := B.cell X1.out 0 rfl;have x1 : w1.cell? ⟨w.heap.size,1,none⟩ = some (.slice az ns cs) := B.cell X1.out 1 rfl;have x2 : w1.cell? ⟨w.heap.size,2,none⟩ = some (.slice ar nr cr) := B.cell X1.out 2 rfl;have x3 : w1.cell? ⟨w.heap.size,3,none⟩ = some (.slice ao no co) := B.cell X1.out 3 rfl)
         | (go_at_call 13;refine (HCK.out _ HB1.out).mono ?_;rintro e w2 ⟨rfl,hb2⟩;have HB2 := hideC (add_below HB1.out hb2);clear hb2)
         | (go_at_call 10;refine (HBG.out _).mono ?_;rintro e w4 ⟨rfl,hb4⟩;have HB4 := hideC (add_below HB2.out hb4);clear hb4))
   go_ret
   exact ⟨by simp,HB4.out⟩
end GT
end Go.Proofs.YtkdigjpejnebkaaGreat
