import Derived.Test.YtkdigjpejnebkaaGreatGP21
import Derived.Test.YtkdigjpejnebkaaGreatGP23
import Derived.Test.YtkdigjpejnebkaaGreatGP24
import Derived.Deep.AppendLies
import Derived.Deep.RegionLaw
set_option linter.unusedVariables false
set_option maxRecDepth 100000
set_option linter.unusedSimpArgs false
namespace Go.Proofs.YtkdigjpejnebkaaGreat
namespace LW
open Go.RowKit Go.WideMaps Go.Maps
open W (hideC)
theorem zeroImg (w : World) : (zeroValue 135).run Tryz.prog w = .ok LM.zImg w := by kernel_rfl
def OutB (l : List LM.Li) (w : World) (e : Ending) (w' : World) : Prop := Below w.heap.size w w' /\
 if LM.byErr l = 0 then ∃ m D,e = .returned (.tuple #[.map (some m),.int .i64 0]) /\ w'.ownsMap Tryz.prog 9 LM.Rv m l.length D /\ LM.Nm l l.length D
 else e = .returned (.tuple #[.map none,.int .i64 (LM.byErr l)])
set_option maxHeartbeats 3000000 in
theorem byName_any (l : List LM.Li) (ao : Option Addr) (cap : Nat) (w : World) (h : LM.HasI w ao l) (hf : LM.FitI l) : Calls Tryz.prog 99 #[.slice ao l.length cap] w (OutB l w) := by
 have HH := hideC h
 have HF := hideC hf
 have hn : l.length <= 140737488351232 := hf.1
 clear h hf
 have hmm := @run_makeMap Tryz.prog
 go_enter Tryz.func99,Tryz.ntmps99
 go_wp2
 go_loopw [12] (fun i wr => ∃ k : Nat,k <= l.length /\ i = .int .i64 k /\ LM.errTo l k = 0 /\ Below w.heap.size w wr) (fun i _ => l.length - (intOf i).toNat)
 case atStart => exact ⟨0,by omega,rfl,rfl,Below.refl _ _⟩
 case round =>
  obtain ⟨k,hk,rfl,hz,hb⟩ := hrel
  have HZ := hideC hz
  have HBr := hideC hb
  clear hz
  by_cases hlt : k < l.length
  · obtain ⟨b,off,hao,hbl,hlie⟩ := (HH.out.below hb) (by omega)
    subst hao
    obtain ⟨⟨c0,c1,c2,c3,c4,c5⟩,hi⟩ := hlie k hlt
    have hfk := HF.out.2 k hlt
    have HE : Hid (LM.errTo l (k + 1) = M.chkN (LM.liAt l k).i) := by
     show _ = _
     simp only [LM.errTo]
     rw [if_pos HZ.out]
    have HBY : Hid (M.chkN (LM.liAt l k).i ≠ 0 -> LM.byErr l = M.chkN (LM.liAt l k).i) := fun g => by
     have e1 : LM.errTo l (k + 1) ≠ 0 := by rw [HE.out];exact g
     have e2 := LM.errTo_stays l (k + 1) e1 l.length (by omega)
     unfold LM.byErr
     rw [e2,if_neg e1,HE.out]
    obtain ⟨x,hx⟩ : ∃ x,x = LM.liAt l k := ⟨_,rfl⟩
    rw [<- hx] at c0 c1 c2 c3 c4 c5 hi hfk HE HBY
    clear hx hlie hb
    obtain ⟨⟨nm,ns,gs,ys,rs,en⟩,⟨an,cn,ag,cg,ay,cy,ar,cr⟩⟩ := x
    simp only at c0 c1 c2 c3 c4 c5
    have HBA := hideC (HBr.out.alloc HBr.out.size (.cells #[.string nm,.slice an ns.length cn,.slice ag gs.length cg,.slice ay ys.length cy,.slice ar rs.length cr,.int .i64 en] 135))
    have HC : Hid (∀ W,Below wr.heap.size wr W -> Calls Tryz.prog 115 #[.agg #[.string nm,.slice an ns.length cn,.slice ag gs.length cg,.slice ay ys.length cy,.slice ar rs.length cr,.int .i64 en]] W fun e w' => e = .returned (.int .i64 (M.chkN ⟨nm,ns,gs,ys,rs,en⟩)) /\ Below W.heap.size W w') := fun V hb => W.check_any ⟨nm,ns,gs,ys,rs,en⟩ ⟨an,cn,ag,cg,ay,cy,ar,cr⟩ V (hi.below hb) hfk
    clear hi hfk
    obtain ⟨c,hc⟩ : ∃ c,c = M.chkN ⟨nm,ns,gs,ys,rs,en⟩ := ⟨_,rfl⟩
    simp only at HE HBY
    rw [<- hc] at HC HE HBY
    clear hc
    by_cases hcz : c = 0
    · subst hcz
      clear HBY
      go_wp2_with (go_at_call 115;refine (HC.out _ ((Below.refl _ _).alloc (Nat.le_refl _) _)).mono ?_;rintro e w1 ⟨rfl,hb⟩;have HBA := hideC (HBA.out.trans (hb.mono HBA.out.size));clear hb)
      go_roundw
      case rel => exact ⟨k + 1,by omega,by go_num,HE.out,HBA.out⟩
      case measure => simp [intOf];omega
    · have HBE := hideC (HBY.out hcz)
      have hcz' : (c == 0) = false := by simpa using hcz
      clear HBY HE
      go_wp2_with (go_at_call 115;refine (HC.out _ ((Below.refl _ _).alloc (Nat.le_refl _) _)).mono ?_;rintro e w1 ⟨rfl,hb⟩;have HBA := hideC (HBA.out.trans (hb.mono HBA.out.size));clear hb)
      go_ret2
      refine ⟨HBA.out,?_⟩
      rw [HBE.out,if_neg hcz]
      rfl
  · obtain rfl : k = l.length := by omega
    clear hb
    obtain ⟨m,hm⟩ : ∃ m,m = wr.heap.size := ⟨_,rfl⟩
    have hsm : w.heap.size <= m := by rw [hm];exact HBr.out.size
    have HM0 : Hid ((wr.alloc (.map #[] 0)).ownsMap Tryz.prog 9 LM.Rv m 0 (.map [])) := by
     rw [hm]
     exact World.ownsMap_made _ _ _ _
    have HM := hideC hm
    clear hm
    go_wp2
    rw [<- HM.out]
    go_loopw [25] (fun i wi => ∃ (k : Nat) (D : DataW Value),k <= l.length /\ i = .int .i64 k /\ wi.ownsMap Tryz.prog 9 LM.Rv m k D /\ LM.Nm l k D /\ Below w.heap.size w wi) (fun i _ => l.length - (intOf i).toNat)
    case atStart => exact ⟨0,.map [],Nat.zero_le _,rfl,HM0.out,LM.nm_zero l,HBr.out.alloc HBr.out.size _⟩
    case round =>
     obtain ⟨k,D,hk,rfl,hown,hnm,hb⟩ := hrel
     have HW := hideC hown
     have HN := hideC hnm
     have HBi := hideC hb
     by_cases hlt : k < l.length
     · obtain ⟨b,off,hao,hbl,hlie⟩ := (HH.out.below hb) (by omega)
       subst hao
       obtain ⟨⟨c0,c1,c2,c3,c4,c5⟩,hi⟩ := hlie k hlt
       have hfk := (HF.out.2 k hlt).name
       have HNS := hideC (LM.nm_step hlt hown.isMap (hown.tidy W.law) hnm)
       obtain ⟨x,hx⟩ : ∃ x,x = LM.liAt l k := ⟨_,rfl⟩
       rw [<- hx] at c0 c1 c2 c3 c4 c5 hfk HNS
       clear hx hlie hb hi hown hnm
       obtain ⟨⟨nm,ns,gs,ys,rs,en⟩,⟨an,cn,ag,cg,ay,cy,ar,cr⟩⟩ := x
       simp only at c0 c1 c2 c3 c4 c5 hfk
       have hkey := W.keyS_ok hfk
       have hkm : k < maxLen := by unfold maxLen;omega
       have HBA := hideC (HBi.out.alloc HBi.out.size (.cells #[.string nm,.slice an ns.length cn,.slice ag gs.length cg,.slice ay ys.length cy,.slice ar rs.length cr,.int .i64 en] 135))
       have HWA := hideC (HW.out.alloc (.cells #[.string nm,.slice an ns.length cn,.slice ag gs.length cg,.slice ay ys.length cy,.slice ar rs.length cr,.int .i64 en] 135))
       go_wp2_with (first | (at_mapUpdate;refine wpList_mapUpdate_own _ rfl _ _ _ 171 rfl 9 135 W.law Tryz.underlying171 LM.Rv m k D rfl HWA.out hkm _ _ _ rfl rfl hkey _ [] rfl ?_;intro w1 hown1 hgrow1;have HW1 := hideC hown1;have HB1 := hideC (HBA.out.grown hgrow1 HBA.out.size (fun j hj => by cases hj;exact hsm));clear hown1 hgrow1) | go_in)
       go_roundw
       case rel => exact ⟨k + 1,_,by omega,by go_num,HW1.out,HNS.out,HB1.out⟩
       case measure => simp [intOf];omega
     · obtain rfl : k = l.length := by omega
       have hlen := hown.len Tryz.underlying171 3
       have HE0 := hideC HZ.out
       by_cases ho : M.onceTo (LM.namesL l) l.length = true
       · have hsz := hnm.all.2 ho
         have HBE : Hid (LM.byErr l = 0) := by
          show _ = _
          unfold LM.byErr M.onceB
          rw [if_pos HE0.out,LM.namesL_length,ho]
          rfl
         rw [hsz] at hlen
         clear hown hnm hb hsz ho
         go_wp2
         go_ret2
         refine ⟨HBi.out,?_⟩
         rw [HBE.out,if_pos rfl]
         exact ⟨_,D,rfl,HW.out,HN.out⟩
       · have hsz : Maps.size D < l.length := by
          have h1 := hnm.le
          have h2 := hnm.all
          rcases Nat.lt_or_ge (Maps.size D) l.length with g | g
          · exact g
          · exact (ho (h2.1 (by omega))).elim
         have HBE : Hid (LM.byErr l = 5) := by
          show _ = _
          unfold LM.byErr M.onceB
          rw [if_pos HE0.out,LM.namesL_length,if_neg ho]
         obtain ⟨z,hz⟩ : ∃ z,z = Maps.size D := ⟨_,rfl⟩
         rw [<- hz] at hlen hsz
         have hsz' : (z : Int) < (l.length : Int) := by omega
         clear hown hnm hb ho hz
         go_wp2
         go_ret2
         refine ⟨HBi.out,?_⟩
         rw [HBE.out,if_neg (by decide)]
         rfl
end LW
namespace LW
open Go.RowKit
open W (hideC)
def hasNm (l : List LM.Ob) (s : ByteArray) : Bool := l.any (fun o => decide (o.i.name = s))
theorem any_at (l : List LM.Ob) (s : ByteArray) (k : Nat) (hk : k < l.length) (h : (LM.obAt l k).i.name = s) : hasNm l s = true := by
 unfold hasNm
 rw [List.any_eq_true]
 refine ⟨l[k],List.getElem_mem hk,?_⟩
 unfold LM.obAt at h
 rw [List.getD_eq_getElem?_getD,List.getElem?_eq_getElem hk] at h
 exact decide_eq_true h
theorem any_none (l : List LM.Ob) (s : ByteArray) (h : ∀ k,k < l.length -> (LM.obAt l k).i.name ≠ s) : hasNm l s = false := by
 unfold hasNm
 rw [List.any_eq_false]
 intro o ho
 obtain ⟨k,hk,e⟩ := List.getElem_of_mem ho
 have := h k hk
 unfold LM.obAt at this
 rw [List.getD_eq_getElem?_getD,List.getElem?_eq_getElem hk,Option.getD_some,e] at this
 simpa using this
set_option maxHeartbeats 2000000 in
theorem indexOb_any (l : List LM.Ob) (ao : Option Addr) (cap : Nat) (P : Nat) (s : ByteArray) (w : World) (h : LM.HasO w ao l) (hn : M.Short l.length) (hsh : ∀ k,k < l.length -> M.Short (LM.obAt l k).i.name.size) (hP : w.cell? ⟨P,0,none⟩ = some (.string s)) (hs : M.Short s.size) :
  Calls Tryz.prog 139 #[.slice ao l.length cap,.func (.func 117) #[] #[.pointer (some ⟨P,0,none⟩)]] w fun e w' => (∃ r : Int,e = .returned (.int .i64 r) /\ decide (0 <= r) = hasNm l s) /\ Below w.heap.size w w' := by
 have HH := hideC h
 have HSH := hideC hsh
 have hPl : P < w.heap.size := World.block_lt_of_cell? w _ hP
 have HP := hideC hP
 unfold M.Short at hn
 clear h hsh hP
 go_enter Tryz.func139,Tryz.ntmps139
 go_wp2
 go_loopw [8] (fun i wr => ∃ k : Nat,k <= l.length /\ i = .int .i64 k /\ (∀ j,j < k -> (LM.obAt l j).i.name ≠ s) /\ Below w.heap.size w wr) (fun i _ => l.length - (intOf i).toNat)
 case atStart => exact ⟨0,by omega,rfl,fun j hj => by omega,Below.refl _ _⟩
 case round =>
  obtain ⟨k,hk,rfl,hno,hb⟩ := hrel
  have HNO := hideC hno
  have HBr := hideC hb
  clear hno
  by_cases hlt : k < l.length
  · obtain ⟨b,off,hao,hbl,hlie⟩ := (HH.out.below hb) (by omega)
    subst hao
    obtain ⟨⟨c0,c1,c2,c3,c4,c5,c6⟩,-⟩ := hlie k hlt
    have hsk := HSH.out k hlt
    have HY : Hid ((LM.obAt l k).i.name = s -> hasNm l s = true) := fun e => any_at l s k hlt e
    have HZ : Hid ((LM.obAt l k).i.name ≠ s -> ∀ j,j < k + 1 -> (LM.obAt l j).i.name ≠ s) := fun e j hj => by
     by_cases g : j = k
     · subst g;exact e
     · exact HNO.out j (by omega)
    obtain ⟨o,ho⟩ : ∃ o,o = LM.obAt l k := ⟨_,rfl⟩
    rw [<- ho] at c0 c1 c2 c3 c4 c5 c6 hsk HY HZ
    have HPr := hideC ((hb.cell (p := ⟨P,0,none⟩) hPl).trans HP.out)
    have HC := hideC (gather1_any o P s wr HPr.out hsk hs)
    simp only [LM.cellsO] at HC
    clear ho hlie hb
    by_cases hnm : o.i.name = s
    · have HX := hideC (HY.out hnm)
      rw [decide_eq_true hnm] at HC
      clear hnm HY HZ
      go_wp2_with (go_at_call 117;refine HC.out.mono ?_;rintro e w1 ⟨rfl,hb⟩;have HB1 := hideC (HBr.out.trans (hb.mono HBr.out.size));clear hb)
      go_ret
      exact ⟨⟨_,rfl,by rw [HX.out];simp⟩,HB1.out⟩
    · have HX := hideC (HZ.out hnm)
      rw [decide_eq_false hnm] at HC
      clear hnm HY HZ
      go_wp2_with (go_at_call 117;refine HC.out.mono ?_;rintro e w1 ⟨rfl,hb⟩;have HB1 := hideC (HBr.out.trans (hb.mono HBr.out.size));clear hb)
      go_roundw
      case rel => exact ⟨k + 1,by omega,by go_num,HX.out,HB1.out⟩
      case measure => simp [intOf];omega
  · obtain rfl : k = l.length := by omega
    have HX := hideC (any_none l s HNO.out)
    go_wp2
    go_ret
    exact ⟨⟨_,rfl,by rw [HX.out];rfl⟩,HBr.out⟩
theorem contains_any (l : List LM.Ob) (ao : Option Addr) (cap : Nat) (P : Nat) (s : ByteArray) (w : World) (h : LM.HasO w ao l) (hn : M.Short l.length) (hsh : ∀ k,k < l.length -> M.Short (LM.obAt l k).i.name.size) (hP : w.cell? ⟨P,0,none⟩ = some (.string s)) (hs : M.Short s.size) :
  Calls Tryz.prog 116 #[.slice ao l.length cap,.func (.func 117) #[] #[.pointer (some ⟨P,0,none⟩)]] w fun e w' => e = .returned (.bool (hasNm l s)) /\ Below w.heap.size w w' := by
 have HC := hideC (indexOb_any l ao cap P s w h hn hsh hP hs)
 clear h hsh hP
 go_enter Tryz.func116,Tryz.ntmps116
 go_wp2_with (go_at_call 139;refine HC.out.mono ?_;rintro e w1 ⟨⟨r,rfl,hr⟩,hb⟩;have HR := hideC hr;have HB := hideC hb;clear hr hb)
 go_ret
 exact ⟨ret_bool HR.out,HB.out⟩
end LW
namespace LM
open Go.RowKit
def ixOf (all : List Li) (s : ByteArray) : Option Nat := all.findIdx? (fun x => decide (x.i.name = s))
theorem liAt_get (all : List Li) (j : Nat) (h : j < all.length) : liAt all j = all[j] := by
 unfold liAt
 rw [List.getD_eq_getElem?_getD,List.getElem?_eq_getElem h]
 rfl
theorem ixOf_some {all : List Li} {s : ByteArray} {j : Nat} (h : ixOf all s = some j) : j < all.length /\ (liAt all j).i.name = s := by
 unfold ixOf at h
 obtain ⟨hj,hp,_⟩ := List.findIdx?_eq_some_iff_getElem.1 h
 exact ⟨hj,by rw [liAt_get all j hj];exact of_decide_eq_true hp⟩
theorem ixOf_none {all : List Li} {s : ByteArray} (h : ixOf all s = none) : (namesL all).contains s = false := by
 unfold ixOf at h
 have h1 := List.findIdx?_eq_none_iff.1 h
 cases e : (namesL all).contains s
 · rfl
 · have hm := List.contains_iff_mem.1 e
   unfold namesL at hm
   obtain ⟨x,hx,rfl⟩ := List.mem_map.1 hm
   have := h1 x hx
   simp at this
theorem once_inj {l : List ByteArray} (h : M.onceB l = true) {j k : Nat} (hj : j < l.length) (hk : k < l.length) (e : M.strAt l j = M.strAt l k) : j = k := by
 have key : ∀ j k,j < k -> k < l.length -> M.strAt l j = M.strAt l k -> False := by
  intro j k hjk hk e
  have hs : ∀ n,n <= l.length -> M.onceTo l n = true := by
   intro n hn
   cases q : M.onceTo l n
   · have := W.once_mono l n l.length q hn
     unfold M.onceB at h
     rw [this] at h
     cases h
   · rfl
  have h1 := hs (k + 1) (by omega)
  simp only [M.onceTo,Bool.and_eq_true,Bool.not_eq_true'] at h1
  have h2 : (l.take k).contains (M.strAt l k) = true := by
   rw [<- e]
   refine List.contains_iff_mem.2 ?_
   have hl : j < (l.take k).length := by rw [List.length_take];omega
   have e2 : (l.take k)[j] = M.strAt l j := by
    unfold M.strAt
    rw [List.getElem_take,List.getD_eq_getElem?_getD,List.getElem?_eq_getElem (by omega)]
    rfl
   rw [<- e2]
   exact List.getElem_mem hl
  rw [h2] at h1
  cases h1.2
 rcases Nat.lt_trichotomy j k with g | g | g
 · exact (key j k g hk e).elim
 · exact g
 · exact (key k j g hj e.symm).elim
theorem name_inj {all : List Li} (h : M.onceB (namesL all) = true) {j k : Nat} (hj : j < all.length) (hk : k < all.length) (e : (liAt all j).i.name = (liAt all k).i.name) : j = k := by
 refine once_inj h (by rw [namesL_length];exact hj) (by rw [namesL_length];exact hk) ?_
 rw [namesL_at all j hj,namesL_at all k hk,e]
def addIx (ix : List Nat) (j : Nat) : List Nat := if ix.contains j then ix else ix ++ [j]
def ordTo (all : List Li) (ix : List Nat) (needs : List ByteArray) : Nat -> Option (List Nat)
 | 0 => some ix
 | k + 1 => match ordTo all ix needs k with
  | none => none
  | some ix' => match ixOf all (M.strAt needs k) with
   | none => none
   | some j => some (addIx ix' j)
def needsAt (all : List Li) (ix : List Nat) (n : Nat) : List ByteArray := (liAt all (ix.getD n 0)).i.needs
def gat (all : List Li) : Nat -> Nat -> List Nat -> Option (List Nat)
 | 0,_,ix => some ix
 | f + 1,n,ix => if n < ix.length then (match ordTo all ix (needsAt all ix n) (needsAt all ix n).length with
  | none => none
  | some ix' => gat all f (n + 1) ix') else some ix
structure OkIx (all : List Li) (ix : List Nat) : Prop where
 pos : 0 < ix.length
 nodup : ix.Nodup
 lt : ∀ j ∈ ix,j < all.length
theorem pigeon : ∀ (L : Nat) (ix : List Nat),ix.Nodup -> (∀ j ∈ ix,j < L) -> ix.length <= L
 | 0,ix,_,h => by
  cases ix with
  | nil => exact Nat.le_refl _
  | cons x r => exact absurd (h x List.mem_cons_self) (by omega)
 | L + 1,ix,hn,h => by
  by_cases e : L ∈ ix
  · have h1 := pigeon L (ix.erase L) (hn.erase L) (fun j hj => by
     have h2 := (List.Nodup.mem_erase_iff hn).1 hj
     have := h j h2.2
     omega)
    rw [List.length_erase_of_mem e] at h1
    omega
  · have := pigeon L ix hn (fun j hj => by
     have h1 := h j hj
     have h2 : j ≠ L := fun g => e (g ▸ hj)
     omega)
    omega
theorem OkIx.le {all : List Li} {ix : List Nat} (h : OkIx all ix) : ix.length <= all.length := pigeon _ _ h.nodup h.lt
theorem OkIx.add {all : List Li} {ix : List Nat} (h : OkIx all ix) {j : Nat} (hj : j < all.length) : OkIx all (addIx ix j) := by
 unfold addIx
 split
 · exact h
 · rename_i hc
   have hc' : j ∉ ix := fun g => hc (List.contains_iff_mem.2 g)
   refine ⟨by rw [List.length_append];have := h.pos;omega,?_,fun k hk => ?_⟩
   · rw [List.nodup_append]
     exact ⟨h.nodup,by simp,fun a ha b hb e => by simp at hb;subst hb;subst e;exact hc' ha⟩
   · rcases List.mem_append.1 hk with g | g
     · exact h.lt k g
     · simp at g;omega
theorem ordTo_none {all : List Li} {ix : List Nat} {needs : List ByteArray} {k : Nat} (h : ordTo all ix needs k = none) : ∀ n,k <= n -> ordTo all ix needs n = none
 | 0, hn => by obtain rfl : k = 0 := by omega
               exact h
 | n + 1,hn => by
  by_cases e : k = n + 1
  · subst e;exact h
  · simp only [ordTo]
    rw [ordTo_none h n (by omega)]
theorem ordTo_step {all : List Li} {ix ix' : List Nat} {needs : List ByteArray} {k j : Nat} (h : ordTo all ix needs k = some ix') (hj : ixOf all (M.strAt needs k) = some j) : ordTo all ix needs (k + 1) = some (addIx ix' j) := by
 simp only [ordTo,h,hj]
theorem ordTo_miss {all : List Li} {ix ix' : List Nat} {needs : List ByteArray} {k : Nat} (h : ordTo all ix needs k = some ix') (hj : ixOf all (M.strAt needs k) = none) : ordTo all ix needs (k + 1) = none := by
 simp only [ordTo,h,hj]
theorem gat_end (all : List Li) (f n : Nat) (ix : List Nat) (h : ¬ n < ix.length) : gat all f n ix = some ix := by
 cases f with
 | zero => rfl
 | succ f => simp only [gat];rw [if_neg h]
theorem gat_some (all : List Li) (f n : Nat) (ix ix' : List Nat) (h : n < ix.length) (ho : ordTo all ix (needsAt all ix n) (needsAt all ix n).length = some ix') : gat all (f + 1) n ix = gat all f (n + 1) ix' := by
 simp only [gat]
 rw [if_pos h,ho]
theorem gat_none (all : List Li) (f n : Nat) (ix : List Nat) (h : n < ix.length) (ho : ordTo all ix (needsAt all ix n) (needsAt all ix n).length = none) : gat all (f + 1) n ix = none := by
 simp only [gat]
 rw [if_pos h,ho]
def obsFrom (all : List Li) : Int -> List Nat -> List Ob
 | _,[] => []
 | b,j :: r => ⟨(liAt all j).i,(liAt all j).a,b⟩ :: obsFrom all (endO ⟨(liAt all j).i,(liAt all j).a,b⟩) r
def endFrom (all : List Li) : Int -> List Nat -> Int
 | b,[] => b
 | b,j :: r => endFrom all (endO ⟨(liAt all j).i,(liAt all j).a,b⟩) r
theorem obsFrom_length (all : List Li) : ∀ (ix : List Nat) (b : Int),(obsFrom all b ix).length = ix.length
 | [],_ => rfl
 | j :: r,b => by simp only [obsFrom,List.length_cons,obsFrom_length all r]
theorem obsFrom_snoc (all : List Li) (j : Nat) : ∀ (ix : List Nat) (b : Int),obsFrom all b (ix ++ [j]) = obsFrom all b ix ++ [⟨(liAt all j).i,(liAt all j).a,endFrom all b ix⟩]
 | [],b => rfl
 | k :: r,b => by simp only [List.cons_append,obsFrom,endFrom,obsFrom_snoc all j r]
theorem endFrom_snoc (all : List Li) (j : Nat) : ∀ (ix : List Nat) (b : Int),endFrom all b (ix ++ [j]) = endO ⟨(liAt all j).i,(liAt all j).a,endFrom all b ix⟩
 | [],b => rfl
 | k :: r,b => by simp only [List.cons_append,endFrom,endFrom_snoc all j r]
theorem obsFrom_at (all : List Li) : ∀ (ix : List Nat) (b : Int) (k : Nat),k < ix.length -> (obAt (obsFrom all b ix) k).i = (liAt all (ix.getD k 0)).i /\ (obAt (obsFrom all b ix) k).a = (liAt all (ix.getD k 0)).a /\ (obAt (obsFrom all b ix) k).base = endFrom all b (ix.take k)
 | [],_,k,hk => by simp at hk
 | j :: r,b,0,_ => ⟨rfl,rfl,rfl⟩
 | j :: r,b,k + 1,hk => by
  have := obsFrom_at all r (endO ⟨(liAt all j).i,(liAt all j).a,b⟩) k (by simpa using hk)
  simpa [obAt,obsFrom,endFrom] using this
theorem obsFrom_last (all : List Li) (ix : List Nat) (b : Int) (h : 0 < ix.length) : endO (obAt (obsFrom all b ix) (ix.length - 1)) = endFrom all b ix := by
 obtain ⟨r,j,rfl⟩ : ∃ r j,ix = r ++ [j] := ⟨ix.dropLast,ix.getLast (by intro e;subst e;simp at h),(List.dropLast_concat_getLast _).symm⟩
 rw [obsFrom_snoc,endFrom_snoc]
 have e : (r ++ [j]).length - 1 = (obsFrom all b r).length := by rw [obsFrom_length];simp
 rw [e]
 unfold obAt
 rw [List.getD_eq_getElem?_getD,List.getElem?_append_right (Nat.le_refl _)]
 simp
theorem getD_mem (ix : List Nat) (k : Nat) (h : k < ix.length) : ix.getD k 0 ∈ ix := by
 rw [List.getD_eq_getElem?_getD,List.getElem?_eq_getElem h]
 exact List.getElem_mem h
theorem endFrom_bounds (all : List Li) (hc : ∀ j,j < all.length -> M.chkN (liAt all j).i = 0) : ∀ (ix : List Nat) (b : Int),(∀ j ∈ ix,j < all.length) -> b <= endFrom all b ix /\ endFrom all b ix <= b + 255 * (ix.length : Int)
 | [],b,_ => by simp [endFrom]
 | j :: r,b,h => by
  have hl := last_bounds (hc j (h j List.mem_cons_self))
  have ih := endFrom_bounds all hc r (endO ⟨(liAt all j).i,(liAt all j).a,b⟩) (fun k hk => h k (List.mem_cons_of_mem _ hk))
  simp only [endFrom]
  have e : endO ⟨(liAt all j).i,(liAt all j).a,b⟩ = b + (lastSeg (liAt all j).i).page + (lastSeg (liAt all j).i).pages := rfl
  rw [e] at ih ⊢
  simp only [List.length_cons]
  omega
def cellO (o : Ob) : List Value := (cellsO o).toList
end LM
namespace LW
open Go.RowKit Go.WideMaps Go.Maps
open W (hideC)
theorem flat_get {α : Type} (f : α -> List Value) (c : Nat) (hc : ∀ x,(f x).length = c) (d : α) : ∀ (l : List α) (i j : Nat),i < l.length -> j < c -> (l.flatMap f)[i * c + j]? = (f (l.getD i d))[j]?
 | a :: r,0,j,_,hj => by
  rw [List.flatMap_cons,Nat.zero_mul,Nat.zero_add,List.getElem?_append_left (by rw [hc];exact hj)]
  rfl
 | a :: r,i + 1,j,hi,hj => by
  rw [List.flatMap_cons,List.getElem?_append_right (by rw [hc,Nat.succ_mul];omega),hc,show (i + 1) * c + j - c = i * c + j by rw [Nat.succ_mul];omega]
  exact flat_get f c hc d r i j (by simpa using hi) hj
theorem infoOb : (Tryz.prog.info? 178).map (fun i => (i.zero,i.size,i.bytes)) = some (some (.agg #[.string ⟨#[]⟩,.slice none 0 0,.slice none 0 0,.slice none 0 0,.slice none 0 0,.int .i64 0,.int .i64 0]),7,128) := by kernel_rfl
theorem row_ob {w : World} {base : Nat} {v : Value} {l : List LM.Ob} (h : w.ownsRow base 178 7 v l.length (l.flatMap LM.cellO)) (hl : 0 < l.length) (hi : ∀ k,k < l.length -> M.HasIm w (LM.obAt l k).a (LM.obAt l k).i) :
  ∃ g cap,v = .slice (some ⟨g,0,none⟩) l.length cap /\ base <= g /\ g < w.heap.size /\ l.length <= cap /\ LM.LieO w g 0 l := by
 rcases h.2 with ⟨hv,h0⟩ | ⟨g,cap,cur,hv,hbg,hg,hnc,hcm,hcs,htake⟩
 · omega
 · subst hv
   refine ⟨g,cap,rfl,hbg,B.isLt hg,hnc,fun k hk => ?_⟩
   rw [Nat.zero_add]
   have hh : ∀ j,j < 7 -> w.cell? ⟨g,k * 7 + j,none⟩ = (LM.cellO (LM.obAt l k))[j]? := fun j hj => (h.cellAt _ (by omega)).trans (flat_get LM.cellO 7 (fun _ => rfl) LM.ob0 l k j hk hj)
   exact ⟨⟨hh 0 (by omega),hh 1 (by omega),hh 2 (by omega),hh 3 (by omega),hh 4 (by omega),hh 5 (by omega),hh 6 (by omega)⟩,hi k hk⟩
theorem map_below {w w' : World} {m n : Nat} {D : DataW Value} (h : w.ownsMap Tryz.prog 9 LM.Rv m n D) (hb : Below w.heap.size w w') : w'.ownsMap Tryz.prog 9 LM.Rv m n D := by
 have hlt := h.lt
 obtain ⟨es,clock,h1,h2⟩ := h
 exact ⟨es,clock,(hb.block m hlt).trans h1,h2⟩
theorem has_iff {all : List LM.Li} (ho : M.onceB (LM.namesL all) = true) {ix : List Nat} (hlt : ∀ j ∈ ix,j < all.length) {s : ByteArray} {j : Nat} (hj : LM.ixOf all s = some j) (b : Int) : hasNm (LM.obsFrom all b ix) s = ix.contains j := by
 obtain ⟨h1,h2⟩ := LM.ixOf_some hj
 cases e : ix.contains j
 · refine any_none _ _ (fun k hk g => ?_)
   rw [LM.obsFrom_length] at hk
   rw [(LM.obsFrom_at all ix b k hk).1,<- h2] at g
   have hm := LM.getD_mem ix k hk
   have := LM.name_inj ho (hlt _ hm) h1 g
   rw [this] at hm
   rw [List.contains_iff_mem.2 hm] at e
   cases e
 · obtain ⟨k,hk,hkj⟩ := List.getElem_of_mem (List.contains_iff_mem.1 e)
   refine any_at _ _ k (by rw [LM.obsFrom_length];exact hk) ?_
   rw [(LM.obsFrom_at all ix b k hk).1,List.getD_eq_getElem?_getD,List.getElem?_eq_getElem hk]
   simp only [Option.getD_some]
   rw [hkj]
   exact h2
def OutG (all : List LM.Li) (R : Option (List Nat)) (w : World) (e : Ending) (w' : World) : Prop := Below w.heap.size w w' /\ match R with
 | none => e = .returned (.tuple #[.slice none 0 0,.bool false])
 | some ix => LM.OkIx all ix /\ ∃ ao cap,e = .returned (.tuple #[.slice ao ix.length cap,.bool true]) /\ LM.HasO w' ao (LM.obsFrom all 1 ix)
structure Gi (all : List LM.Li) (m : Nat) (D : DataW Value) (w : World) : Prop where
 pos : 0 < all.length
 few : all.length <= 7
 chk : ∀ j,j < all.length -> M.chkN (LM.liAt all j).i = 0
 fit : ∀ j,j < all.length -> M.Fit (LM.liAt all j).i
 once : M.onceB (LM.namesL all) = true
 im : ∀ j,j < all.length -> M.HasIm w (LM.liAt all j).a (LM.liAt all j).i
 map : w.ownsMap Tryz.prog 9 LM.Rv m all.length D
 nm : LM.Nm all all.length D
theorem Gi.below {all : List LM.Li} {m : Nat} {D : DataW Value} {w w' : World} (h : Gi all m D w) (hb : Below w.heap.size w w') : Gi all m D w' :=
 ⟨h.pos,h.few,h.chk,h.fit,h.once,fun j hj => (h.im j hj).below hb,map_below h.map hb,h.nm⟩
theorem Gi.ims {all : List LM.Li} {m : Nat} {D : DataW Value} {w : World} (h : Gi all m D w) {ix : List Nat} (hx : LM.OkIx all ix) (b : Int) : ∀ k,k < (LM.obsFrom all b ix).length -> M.HasIm w (LM.obAt (LM.obsFrom all b ix) k).a (LM.obAt (LM.obsFrom all b ix) k).i := fun k hk => by
 rw [LM.obsFrom_length] at hk
 rw [(LM.obsFrom_at all ix b k hk).1,(LM.obsFrom_at all ix b k hk).2.1]
 exact h.im _ (hx.lt _ (LM.getD_mem ix k hk))
theorem Gi.look {all : List LM.Li} {m : Nat} {D : DataW Value} {w : World} (h : Gi all m D w) {s : ByteArray} (hs : M.Short s.size) : ∃ x,(Instr.lookup 171 (.map (some m)) (.string s) true).run Tryz.prog w = .ok (.tuple #[x,.bool (LM.ixOf all s).isSome]) w /\ match LM.ixOf all s with
  | none => x = LM.zImg
  | some j => x = LM.imgV (LM.liAt all j) := by
 obtain ⟨v,ps,hrun,hv⟩ := h.map.look_ok W.law Tryz.underlying171 (zeroImg w) (zd := .held LM.zImg) (zp := []) rfl (W.keyS_ok hs)
 have hv' : DataW.held v = D.atKey (W.keyS s) (.held LM.zImg) := by
  unfold LM.Rv at hv
  injection hv with hv
  injection hv with hv _
 have hh := h.nm.has s
 rw [show (LM.namesL all).take all.length = LM.namesL all from List.take_of_length_le (by rw [LM.namesL_length];exact Nat.le_refl _)] at hh
 cases e : LM.ixOf all s with
 | none =>
  rw [LM.ixOf_none e] at hh
  rw [hh] at hrun
  refine ⟨v,hrun,?_⟩
  rw [Maps.atKey_of_not_has hh] at hv'
  injection hv'
 | some j =>
  obtain ⟨h1,h2⟩ := LM.ixOf_some e
  have hin : (LM.namesL all).contains s = true := by
   have := LM.name_in all all.length j h1 (Nat.le_refl _)
   rw [h2,show (LM.namesL all).take all.length = LM.namesL all from List.take_of_length_le (by rw [LM.namesL_length];exact Nat.le_refl _)] at this
   exact this
  rw [hin] at hh
  rw [hh] at hrun
  refine ⟨v,hrun,?_⟩
  have ho := h.once
  unfold M.onceB at ho
  rw [LM.namesL_length] at ho
  have := h.nm.at_ ho j h1
  rw [h2] at this
  rw [this] at hv'
  injection hv'
end LW
end Go.Proofs.YtkdigjpejnebkaaGreat
