import Derived.Test.YtkdigjpejnebkaaGreatGP26
import Derived.Test.YtkdigjpejnebkaaGreatGP28
set_option linter.unusedVariables false
set_option maxRecDepth 100000
set_option linter.unusedSimpArgs false
namespace Go.Proofs.YtkdigjpejnebkaaGreat
namespace LM
open Go.RowKit
def symIx (l : List M.Sy) (s : ByteArray) : Option Nat := l.findIdx? (fun y => decide (y.name = s))
theorem syAt_get (l : List M.Sy) (j : Nat) (h : j < l.length) : M.syAt l j = l[j] := by
 unfold M.syAt
 rw [List.getD_eq_getElem?_getD,List.getElem?_eq_getElem h]
 rfl
theorem symIx_at {l : List M.Sy} {s : ByteArray} {k : Nat} (hk : k < l.length) (h : (M.syAt l k).name = s) (hno : ∀ j,j < k -> (M.syAt l j).name ≠ s) : symIx l s = some k := by
 unfold symIx
 refine List.findIdx?_eq_some_iff_getElem.2 ⟨hk,?_,fun j hj => ?_⟩
 · rw [syAt_get l k hk] at h
   exact decide_eq_true h
 · have := hno j hj
   rw [syAt_get l j (by omega)] at this
   simpa using this
theorem symIx_none {l : List M.Sy} {s : ByteArray} (h : ∀ j,j < l.length -> (M.syAt l j).name ≠ s) : symIx l s = none := by
 unfold symIx
 refine List.findIdx?_eq_none_iff.2 (fun y hy => ?_)
 obtain ⟨j,hj,e⟩ := List.getElem_of_mem hy
 have := h j hj
 rw [syAt_get l j hj,e] at this
 simpa using this
theorem symIx_lt {l : List M.Sy} {s : ByteArray} {k : Nat} (h : symIx l s = some k) : k < l.length := by
 unfold symIx at h
 obtain ⟨hj,_⟩ := List.findIdx?_eq_some_iff_getElem.1 h
 exact hj
def symN (o : Ob) (s : ByteArray) : Option Int := match symIx o.i.syms s with
 | none => none
 | some k => some (addrO o (M.syAt o.i.syms k).pos)
def tgtTo (l : List Ob) (s : ByteArray) : Nat -> Option Int
 | 0 => none
 | k + 1 => match tgtTo l s k with
  | some t => some t
  | none => symN (obAt l k) s
def tgtN (l : List Ob) (o : Ob) (s : ByteArray) : Option Int := if s = ⟨#[]⟩ then some (addrO o 0) else tgtTo l s l.length
theorem tgtTo_some {l : List Ob} {s : ByteArray} {k : Nat} {t : Int} (h : tgtTo l s k = some t) : ∀ n,k <= n -> tgtTo l s n = some t
 | 0, hn => by obtain rfl : k = 0 := by omega
               exact h
 | n + 1,hn => by
  by_cases e : k = n + 1
  · subst e;exact h
  · simp only [tgtTo]
    rw [tgtTo_some h n (by omega)]
theorem places_of {i : M.Im} (hc : M.chkN i = 0) : M.placesB i = true := by
 unfold M.chkN at hc
 split at hc
 · simp at hc
 · split at hc
   · simp at hc
   · split at hc
     · simp at hc
     · split at hc
       · simp at hc
       · split at hc
         · simp at hc
         · rename_i h
           simpa using h
theorem segIn_mem : ∀ {l : List M.Sg} {a : Int} {s : M.Sg},M.segIn l a = some s -> (∃ k,k < l.length /\ M.sgAt l k = s) /\ M.inSeg s a = true
 | [],a,s,h => by cases h
 | x :: r,a,s,h => by
  simp only [M.segIn] at h
  split at h
  · rename_i hi
    injection h with h
    subst h
    exact ⟨⟨0,by simp,rfl⟩,hi⟩
  · obtain ⟨⟨k,hk,e⟩,hi⟩ := segIn_mem h
    exact ⟨⟨k + 1,by simpa using hk,by simpa [M.sgAt] using e⟩,hi⟩
theorem placed_bounds {i : M.Im} (hc : M.chkN i = 0) {a : Int} (h : M.placedB i.segs a = true) : 0 <= a /\ a < 4080 := by
 unfold M.placedB at h
 obtain ⟨s,hs⟩ := Option.isSome_iff_exists.1 h
 obtain ⟨⟨k,hk,e⟩,hi⟩ := segIn_mem hs
 have hb := seg_bounds hc k hk
 rw [e] at hb
 unfold M.inSeg at hi
 have := of_decide_eq_true hi
 omega
theorem sym_bounds {i : M.Im} (hc : M.chkN i = 0) (k : Nat) (hk : k < i.syms.length) : 0 <= (M.syAt i.syms k).pos /\ (M.syAt i.syms k).pos < 4080 := by
 have h := places_of hc
 unfold M.placesB at h
 simp only [Bool.and_eq_true] at h
 exact placed_bounds hc (M.all_at (fun y => M.placedB i.segs y.pos) M.sy0 i.syms k hk h.1)
theorem relsTo_at (i : M.Im) : ∀ n,M.relsTo i n = true -> ∀ k,k < n -> M.relAt i k = true
 | 0,_,k,hk => by omega
 | n + 1,h,k,hk => by
  simp only [M.relsTo,Bool.and_eq_true] at h
  by_cases e : k = n
  · subst e;exact h.2
  · exact relsTo_at i n h.1 k (by omega)
theorem rel_at {i : M.Im} (hc : M.chkN i = 0) (k : Nat) (hk : k < i.rels.length) : M.relAt i k = true := by
 have h := places_of hc
 unfold M.placesB at h
 simp only [Bool.and_eq_true] at h
 exact relsTo_at i i.rels.length h.2.1 k hk
theorem rel_bounds {i : M.Im} (hc : M.chkN i = 0) (k : Nat) (hk : k < i.rels.length) : 0 <= (M.rlAt i.rels k).pos /\ (M.rlAt i.rels k).pos + 7 < 4080 := by
 have h := rel_at hc k hk
 unfold M.relAt M.wholeB at h
 simp only [Bool.and_eq_true] at h
 have h0 := placed_bounds hc h.2.1
 have h7 := placed_bounds hc h.2.2.2.2.2.2.2.2
 omega
theorem entry_bounds {i : M.Im} (hc : M.chkN i = 0) : 0 <= i.entry /\ i.entry < 4080 := by
 have h := places_of hc
 unfold M.placesB at h
 simp only [Bool.and_eq_true] at h
 have he := h.2.2
 unfold M.entryB at he
 refine placed_bounds hc ?_
 unfold M.placedB
 cases e : M.segIn i.segs i.entry with
 | none => rw [e] at he;cases he
 | some s => rfl
def ptOf (o : Ob) (r : M.Rl) (t : Int) : Pt := ⟨addrO o r.pos,⟨(Lib.leBytes 8 (CM.low (t + r.add))).toArray⟩⟩
def patTo (l : List Ob) (o : Ob) : Nat -> Option (List Pt)
 | 0 => some []
 | k + 1 => match patTo l o k with
  | none => none
  | some ps => match tgtN l o (M.rlAt o.i.rels k).name with
   | none => none
   | some t => some (ps ++ [ptOf o (M.rlAt o.i.rels k) t])
def patN (l : List Ob) (o : Ob) : Option (List Pt) := patTo l o o.i.rels.length
theorem patTo_none {l : List Ob} {o : Ob} {k : Nat} (h : patTo l o k = none) : ∀ n,k <= n -> patTo l o n = none
 | 0, hn => by obtain rfl : k = 0 := by omega
               exact h
 | n + 1,hn => by
  by_cases e : k = n + 1
  · subst e;exact h
  · simp only [patTo]
    rw [patTo_none h n (by omega)]
theorem patTo_len {l : List Ob} {o : Ob} : ∀ {k : Nat} {ps : List Pt},patTo l o k = some ps -> ps.length = k
 | 0,ps,h => by simp only [patTo] at h;injection h with h;subst h;rfl
 | k + 1,ps,h => by
  simp only [patTo] at h
  cases e : patTo l o k with
  | none => rw [e] at h;cases h
  | some qs =>
   rw [e] at h
   simp only at h
   cases g : tgtN l o (M.rlAt o.i.rels k).name with
   | none => rw [g] at h;cases h
   | some t =>
    rw [g] at h
    simp only at h
    injection h with h
    subst h
    rw [List.length_append,patTo_len e]
    rfl
theorem low_wrap (n : Int) : CM.low (wrap64 n) = CM.low n := by
 unfold CM.low wrap64
 omega
end LM
namespace LW
open Go.RowKit
open W (hideC)
theorem sym1_any (y : M.Sy) (P : Nat) (s : ByteArray) (w : World) (hP : w.cell? ⟨P,0,none⟩ = some (.string s)) :
  Calls Tryz.prog 167 #[.agg #[.string y.name,.int .i64 y.pos],.pointer (some ⟨P,0,none⟩)] w fun e w' => e = .returned (.bool (decide (y.name = s))) /\ Below w.heap.size w w' := by
 have hPl : P < w.heap.size := World.block_lt_of_cell? w _ hP
 obtain ⟨nm,ps⟩ := y
 go_enter Tryz.func167,Tryz.ntmps167
 go_wp2
 go_ret
 exact ⟨ret_bool (str_eq _ _),(Below.refl _ _).alloc (Nat.le_refl _) _⟩
def ixInt : Option Nat -> Int
 | none => -1
 | some k => k
set_option maxHeartbeats 2000000 in
theorem indexSy_any (l : List M.Sy) (ao : Option Addr) (cap : Nat) (P : Nat) (s : ByteArray) (w : World) (h : M.HasBy M.LieY w ao l) (hn : M.Short l.length) (hP : w.cell? ⟨P,0,none⟩ = some (.string s)) :
  Calls Tryz.prog 166 #[.slice ao l.length cap,.func (.func 167) #[] #[.pointer (some ⟨P,0,none⟩)]] w fun e w' => e = .returned (.int .i64 (ixInt (LM.symIx l s))) /\ Below w.heap.size w w' := by
 have HH := hideC h
 have hPl : P < w.heap.size := World.block_lt_of_cell? w _ hP
 have HP := hideC hP
 unfold M.Short at hn
 clear h hP
 go_enter Tryz.func166,Tryz.ntmps166
 go_wp2
 go_loopw [8] (fun i wr => ∃ k : Nat,k <= l.length /\ i = .int .i64 k /\ (∀ j,j < k -> (M.syAt l j).name ≠ s) /\ Below w.heap.size w wr) (fun i _ => l.length - (intOf i).toNat)
 case atStart => exact ⟨0,by omega,rfl,fun j hj => by omega,Below.refl _ _⟩
 case round =>
  obtain ⟨k,hk,rfl,hno,hb⟩ := hrel
  have HNO := hideC hno
  have HBr := hideC hb
  clear hno
  by_cases hlt : k < l.length
  · obtain ⟨b,off,hao,hbl,hlie⟩ := (M.HasBy.below (lie := M.LieY) (fun hb hlt h => M.lieY hb hlt h) HH.out hb) (by omega)
    subst hao
    obtain ⟨c0,c1⟩ := hlie k hlt
    have HY : Hid ((M.syAt l k).name = s -> LM.symIx l s = some k) := fun e => LM.symIx_at hlt e HNO.out
    have HZ : Hid ((M.syAt l k).name ≠ s -> ∀ j,j < k + 1 -> (M.syAt l j).name ≠ s) := fun e j hj => by
     by_cases g : j = k
     · subst g;exact e
     · exact HNO.out j (by omega)
    obtain ⟨y,hy⟩ : ∃ y,y = M.syAt l k := ⟨_,rfl⟩
    rw [<- hy] at c0 c1 HY HZ
    have HPr := hideC ((hb.cell (p := ⟨P,0,none⟩) hPl).trans HP.out)
    have HC := hideC (sym1_any y P s wr HPr.out)
    clear hy hlie hb
    by_cases hnm : y.name = s
    · have HX := hideC (HY.out hnm)
      rw [decide_eq_true hnm] at HC
      clear hnm HY HZ
      go_wp2_with (go_at_call 167;refine HC.out.mono ?_;rintro e w1 ⟨rfl,hb⟩;have HB1 := hideC (HBr.out.trans (hb.mono HBr.out.size));clear hb)
      go_ret
      exact ⟨by rw [HX.out];rfl,HB1.out⟩
    · have HX := hideC (HZ.out hnm)
      rw [decide_eq_false hnm] at HC
      clear hnm HY HZ
      go_wp2_with (go_at_call 167;refine HC.out.mono ?_;rintro e w1 ⟨rfl,hb⟩;have HB1 := hideC (HBr.out.trans (hb.mono HBr.out.size));clear hb)
      go_roundw
      case rel => exact ⟨k + 1,by omega,by go_num,HX.out,HB1.out⟩
      case measure => simp [intOf];omega
  · obtain rfl : k = l.length := by omega
    have HX := hideC (LM.symIx_none HNO.out)
    go_wp2
    go_ret
    exact ⟨by rw [HX.out];rfl,HBr.out⟩
def optV (t : Option Int) : Value := .tuple #[.int .i64 (t.getD 0),.bool t.isSome]
set_option maxHeartbeats 3000000 in
theorem symbol_any (o : LM.Ob) (s : ByteArray) (w : World) (h : M.HasIm w o.a o.i) (hc : M.chkN o.i = 0) (h0 : 0 <= o.base) (h1 : o.base <= 100000) :
  Calls Tryz.prog 151 #[.agg (LM.cellsO o),.string s] w fun e w' => e = .returned (optV (LM.symN o s)) /\ Below w.heap.size w w' := by
 have hn := (LM.counts_of hc).2.2.2.1
 have HSB := hideC (LM.sym_bounds hc)
 have HSY := hideC h.syms
 have HAD : Hid (∀ at',0 <= at' -> at' <= 100000 -> ∀ V,Calls Tryz.prog 104 #[.agg (LM.cellsO o),.int .i64 at'] V fun e w' => e = .returned (.int .i64 (LM.addrO o at')) /\ Below V.heap.size V w') := fun a h2 h3 V => address_any o a V h0 h1 h2 h3
 have HSN : Hid (LM.symN o s = match LM.symIx o.i.syms s with
  | none => none
  | some k => some (LM.addrO o (M.syAt o.i.syms k).pos)) := rfl
 obtain ⟨⟨nm,ns,gs,ys,rs,en⟩,⟨an,cn,ag,cg,ay,cy,ar,cr⟩,ba⟩ := o
 simp only [LM.cellsO] at HAD
 simp only [LM.cellsO]
 simp only at hn HSN HSY HSB
 clear h hc
 have BX := hideC (B.new w #[.string nm,.slice an ns.length cn,.slice ag gs.length cg,.slice ay ys.length cy,.slice ar rs.length cr,.int .i64 en,.int .i64 ba] 178)
 have HB := hideC ((Below.refl w.heap.size w).alloc (Nat.le_refl _) (.cells #[.string nm,.slice an ns.length cn,.slice ag gs.length cg,.slice ay ys.length cy,.slice ar rs.length cr,.int .i64 en,.int .i64 ba] 178))
 have HB2 := hideC (HB.out.alloc HB.out.size (.cells #[.string s] 9))
 obtain ⟨W,hW⟩ : ∃ W,W = (w.alloc (.cells #[.string nm,.slice an ns.length cn,.slice ag gs.length cg,.slice ay ys.length cy,.slice ar rs.length cr,.int .i64 en,.int .i64 ba] 178)).alloc (.cells #[.string s] 9) := ⟨_,rfl⟩
 have BXW : Hid (W.heap[w.heap.size]? = some (.cells #[.string nm,.slice an ns.length cn,.slice ag gs.length cg,.slice ay ys.length cy,.slice ar rs.length cr,.int .i64 en,.int .i64 ba] 178 (0,0))) := by
  show _ = _
  rw [hW]
  exact B.alloc BX.out _
 have HPW : Hid (W.cell? ⟨w.heap.size + 1,0,none⟩ = some (.string s)) := by
  show _ = _
  rw [hW]
  have h := B.new (w.alloc (.cells #[.string nm,.slice an ns.length cn,.slice ag gs.length cg,.slice ay ys.length cy,.slice ar rs.length cr,.int .i64 en,.int .i64 ba] 178)) #[.string s] 9
  rw [show (w.alloc (.cells #[.string nm,.slice an ns.length cn,.slice ag gs.length cg,.slice ay ys.length cy,.slice ar rs.length cr,.int .i64 en,.int .i64 ba] 178)).heap.size = w.heap.size + 1 by simp] at h
  exact B.cell h 0 rfl
 rw [<- hW] at HB2
 have HWE := hideC hW
 clear hW HB BX
 have HIX := hideC (indexSy_any ys ay cy (w.heap.size + 1) s W (M.HasBy.below (lie := M.LieY) (fun hb hlt h => M.lieY hb hlt h) HSY.out HB2.out) (by unfold M.Short;omega) HPW.out)
 cases e : LM.symIx ys s with
 | none =>
  rw [e] at HIX HSN
  simp only [ixInt] at HIX HSN
  rw [HSN.out]
  clear e
  go_enter Tryz.func151,Tryz.ntmps151
  go_wp2_with (go_at_call 166;rw [<- HWE.out];refine HIX.out.mono ?_;rintro e w1 ⟨rfl,hb⟩;have HB3 := hideC (HB2.out.trans (hb.mono HB2.out.size));clear hb)
  go_ret2
  exact ⟨rfl,HB3.out⟩
 | some k =>
  have hk := LM.symIx_lt e
  rw [e] at HIX HSN
  simp only [ixInt] at HIX HSN
  rw [HSN.out]
  have hsb := HSB.out k hk
  obtain ⟨by_,off,hay,hbl,hlie⟩ := HSY.out (by omega)
  subst hay
  obtain ⟨-,c1⟩ := hlie k hk
  obtain ⟨q,hq⟩ : ∃ q,q = (M.syAt ys k).pos := ⟨_,rfl⟩
  rw [<- hq] at c1 hsb
  rw [<- hq]
  have HA2 := hideC (HAD.out q hsb.1 (by omega))
  clear e hq hlie HSB HSN HAD
  go_enter Tryz.func151,Tryz.ntmps151
  go_wp2_with (go_at_call 166;rw [<- HWE.out];refine HIX.out.mono ?_;rintro e w1 ⟨rfl,hb⟩;have HB3 := hideC (HB2.out.trans (hb.mono HB2.out.size));have BX1 := hideC (B.below BXW.out hb (B.isLt BXW.out));clear hb)
  have hb1 := B.isLt BX1.out
  have hbl1 : by_ < w1.heap.size := Nat.lt_of_lt_of_le hbl HB3.out.size
  have hkin := Q.kin_some w1
  have hkc := @Q.cell_kin w1
  have x0 : ∀ x : Q.Kin w1.heap.size w1,x.world.cell? ⟨w.heap.size,0,none⟩ = some (.string nm) := fun x => by rw [hkc x _ _ hb1];exact B.cell BX1.out 0 rfl
  have x1 : ∀ x : Q.Kin w1.heap.size w1,x.world.cell? ⟨w.heap.size,1,none⟩ = some (.slice an ns.length cn) := fun x => by rw [hkc x _ _ hb1];exact B.cell BX1.out 1 rfl
  have x2 : ∀ x : Q.Kin w1.heap.size w1,x.world.cell? ⟨w.heap.size,2,none⟩ = some (.slice ag gs.length cg) := fun x => by rw [hkc x _ _ hb1];exact B.cell BX1.out 2 rfl
  have x3 : ∀ x : Q.Kin w1.heap.size w1,x.world.cell? ⟨w.heap.size,3,none⟩ = some (.slice (some ⟨by_,off,none⟩) ys.length cy) := fun x => by rw [hkc x _ _ hb1];exact B.cell BX1.out 3 rfl
  have x4 : ∀ x : Q.Kin w1.heap.size w1,x.world.cell? ⟨w.heap.size,4,none⟩ = some (.slice ar rs.length cr) := fun x => by rw [hkc x _ _ hb1];exact B.cell BX1.out 4 rfl
  have x5 : ∀ x : Q.Kin w1.heap.size w1,x.world.cell? ⟨w.heap.size,5,none⟩ = some (.int .i64 en) := fun x => by rw [hkc x _ _ hb1];exact B.cell BX1.out 5 rfl
  have x6 : ∀ x : Q.Kin w1.heap.size w1,x.world.cell? ⟨w.heap.size,6,none⟩ = some (.int .i64 ba) := fun x => by rw [hkc x _ _ hb1];exact B.cell BX1.out 6 rfl
  have y1 : ∀ x : Q.Kin w1.heap.size w1,x.world.cell? ⟨by_,off + k * 2 + 1,none⟩ = some (.int .i64 q) := fun x => by rw [hkc x _ _ hbl1,HB3.out.cell (p := ⟨by_,_,none⟩) hbl];exact c1
  have HA3 : Hid (∀ V,Below w1.heap.size w1 V -> Calls Tryz.prog 104 #[.agg #[.string nm,.slice an ns.length cn,.slice ag gs.length cg,.slice (some ⟨by_,off,none⟩) ys.length cy,.slice ar rs.length cr,.int .i64 en,.int .i64 ba],.int .i64 q] V fun e w' => e = .returned (.int .i64 (LM.addrO ⟨⟨nm,ns,gs,ys,rs,en⟩,⟨an,cn,ag,cg,some ⟨by_,off,none⟩,cy,ar,cr⟩,ba⟩ q)) /\ Below V.heap.size V w') := fun V _ => HA2.out V
  clear hkc HA2
  refine Q.region_kin (by kernel_rfl) (by kernel_rfl) ?_
  repeat (first | go_big_quiet_step ((go_at_call 104;exact calls_kin _ HA3.out)) | quiet_step ((go_at_call 104;exact calls_kin _ HA3.out)))
  refine wpQuiet_nil ?_
  intro _ hw'
  obtain ⟨x,hw''⟩ := hw'
  subst hw''
  go_wp2
  go_ret2
  exact ⟨rfl,HB3.out.trans (x.keeps.mono HB3.out.size)⟩
structure Oi (l : List LM.Ob) (ao : Option Addr) (w : World) : Prop where
 has : LM.HasO w ao l
 few : l.length <= 1000
 chk : ∀ k,k < l.length -> M.chkN (LM.obAt l k).i = 0
 fit : ∀ k,k < l.length -> M.Fit (LM.obAt l k).i
 base : ∀ k,k < l.length -> 1 <= (LM.obAt l k).base /\ (LM.obAt l k).base <= 2000
theorem Oi.below {l : List LM.Ob} {ao : Option Addr} {w w' : World} (h : Oi l ao w) (hb : Below w.heap.size w w') : Oi l ao w' := ⟨h.has.below hb,h.few,h.chk,h.fit,h.base⟩
set_option maxHeartbeats 3000000 in
theorem target_any (l : List LM.Ob) (ao : Option Addr) (cap : Nat) (o : LM.Ob) (s : ByteArray) (w : World) (h : Oi l ao w) (h0 : 0 <= o.base) (h1 : o.base <= 100000) :
  Calls Tryz.prog 140 #[.agg (LM.cellsO o),.slice ao l.length cap,.string s] w fun e w' => e = .returned (optV (LM.tgtN l o s)) /\ Below w.heap.size w w' := by
 have HO := hideC h
 have hn := h.few
 clear h
 have HA0 := hideC (fun V => address_any o 0 V h0 h1 (by omega) (by omega))
 have HTN : Hid (LM.tgtN l o s = if s = ⟨#[]⟩ then some (LM.addrO o 0) else LM.tgtTo l s l.length) := rfl
 obtain ⟨a0,ha0⟩ : ∃ a0,a0 = LM.addrO o 0 := ⟨_,rfl⟩
 rw [<- ha0] at HA0 HTN
 obtain ⟨R,hR⟩ : ∃ R,R = LM.tgtN l o s := ⟨_,rfl⟩
 rw [<- hR] at HTN
 rw [<- hR]
 clear hR ha0
 obtain ⟨⟨nm,ns,gs,ys,rs,en⟩,⟨an,cn,ag,cg,ay,cy,ar,cr⟩,ba⟩ := o
 simp only [LM.cellsO] at HA0
 simp only [LM.cellsO]
 have HB := hideC ((Below.refl w.heap.size w).alloc (Nat.le_refl _) (.cells #[.string nm,.slice an ns.length cn,.slice ag gs.length cg,.slice ay ys.length cy,.slice ar rs.length cr,.int .i64 en,.int .i64 ba] 178))
 by_cases hs : s = ⟨#[]⟩
 · subst hs
   rw [if_pos rfl] at HTN
   go_enter Tryz.func140,Tryz.ntmps140
   go_wp2_with (go_at_call 104;refine (HA0.out _).mono ?_;rintro e w1 ⟨rfl,hb⟩;have HB1 := hideC (HB.out.trans (hb.mono HB.out.size));clear hb)
   go_ret2
   exact ⟨by rw [HTN.out];rfl,HB1.out⟩
 · rw [if_neg hs] at HTN
   have hs2 : ¬ s.toList = [] := fun e => hs (by
    rw [Lib.toList_data] at e
    cases s
    congr 1
    exact Array.toList_eq_nil_iff.1 e)
   have hs4 : s.toList.isEmpty = false := by simpa using hs2
   clear hs hs2
   go_enter Tryz.func140,Tryz.ntmps140
   go_wp2
   go_loopw [18] (fun i wr => ∃ k : Nat,k <= l.length /\ i = .int .i64 k /\ LM.tgtTo l s k = none /\ Below w.heap.size w wr) (fun i _ => l.length - (intOf i).toNat)
   case atStart => exact ⟨0,by omega,rfl,rfl,HB.out⟩
   case round =>
    obtain ⟨k,hk,rfl,hz,hb⟩ := hrel
    have HZ := hideC hz
    have HBr := hideC hb
    clear hz
    by_cases hlt : k < l.length
    · have HOr := hideC (HO.out.below hb)
      obtain ⟨b,off,hao,hbl,hlie⟩ := HOr.out.has (by omega)
      subst hao
      obtain ⟨⟨c0,c1,c2,c3,c4,c5,c6⟩,him⟩ := hlie k hlt
      have hbs := HO.out.base k hlt
      have HST : Hid (LM.tgtTo l s (k + 1) = LM.symN (LM.obAt l k) s) := by
       show _ = _
       simp only [LM.tgtTo]
       rw [HZ.out]
      have HST2 : Hid (∀ t,LM.symN (LM.obAt l k) s = some t -> R = some t) := fun t g => by
       rw [HTN.out]
       exact LM.tgtTo_some (by rw [HST.out];exact g) l.length (by omega)
      have HSY : Hid (∀ V,Below wr.heap.size wr V -> Calls Tryz.prog 151 #[.agg (LM.cellsO (LM.obAt l k)),.string s] V fun e w' => e = .returned (optV (LM.symN (LM.obAt l k) s)) /\ Below V.heap.size V w') := fun V hb => symbol_any (LM.obAt l k) s V (him.below hb) (HO.out.chk k hlt) (by omega) (by omega)
      obtain ⟨q,hq⟩ : ∃ q,q = LM.obAt l k := ⟨_,rfl⟩
      rw [<- hq] at c0 c1 c2 c3 c4 c5 c6 HST HST2 HSY
      simp only [LM.cellsO] at HSY
      clear hq hlie hb him hbs
      have HBA := hideC (HBr.out.alloc HBr.out.size (.cells #[.string q.i.name,.slice q.a.an q.i.needs.length q.a.cn,.slice q.a.ag q.i.segs.length q.a.cg,.slice q.a.ay q.i.syms.length q.a.cy,.slice q.a.ar q.i.rels.length q.a.cr,.int .i64 q.i.entry,.int .i64 q.base] 178))
      cases e : LM.symN q s with
      | none =>
       rw [e] at HSY HST
       simp only [optV,Option.getD_none,Option.isSome_none] at HSY
       clear e HST2
       go_wp2_with (go_at_call 151;refine (HSY.out _ ((Below.refl _ _).alloc (Nat.le_refl _) _)).mono ?_;rintro e w1 ⟨rfl,hb⟩;have HBA := hideC (HBA.out.trans (hb.mono HBA.out.size));clear hb)
       go_roundw
       case rel => exact ⟨k + 1,by omega,by go_num,HST.out,HBA.out⟩
       case measure => simp [intOf];omega
      | some t =>
       have HRT := hideC (HST2.out t e)
       rw [e] at HSY
       simp only [optV,Option.getD_some,Option.isSome_some] at HSY
       clear e HST2 HST
       go_wp2_with (go_at_call 151;refine (HSY.out _ ((Below.refl _ _).alloc (Nat.le_refl _) _)).mono ?_;rintro e w1 ⟨rfl,hb⟩;have HBA := hideC (HBA.out.trans (hb.mono HBA.out.size));clear hb)
       go_ret2
       exact ⟨by rw [HRT.out];rfl,HBA.out⟩
    · obtain rfl : k = l.length := by omega
      clear hb
      go_wp2
      go_ret2
      exact ⟨by rw [HTN.out,HZ.out];rfl,HBr.out⟩
theorem infoPt : (Tryz.prog.info? 228).map (fun i => (i.zero,i.size,i.bytes)) = some (some (.agg #[.int .i64 0,.string ⟨#[]⟩]),2,24) := by kernel_rfl
theorem row_mono {w : World} {base base' : Nat} {e : TypeId} {size : Nat} {v : Value} {n : Nat} {xs : List Value} (h : w.ownsRow base e size v n xs) (hl : base' <= base) : w.ownsRow base' e size v n xs := by
 refine ⟨h.1,?_⟩
 rcases h.2 with h2 | ⟨g,cap,cur,hv,hbg,rest⟩
 · exact .inl h2
 · exact .inr ⟨g,cap,cur,hv,Nat.le_trans hl hbg,rest⟩
def OutPt (R : Option (List LM.Pt)) (w : World) (e : Ending) (w' : World) : Prop := Below w.heap.size w w' /\ match R with
 | none => e = .returned (.tuple #[.slice none 0 0,.bool false])
 | some ps => ∃ v,e = .returned (.tuple #[v,.bool true]) /\ w'.ownsRow w.heap.size 228 2 v ps.length (ps.flatMap LM.cellP)
set_option maxHeartbeats 4000000 in
theorem patchesOf_any (l : List LM.Ob) (ao : Option Addr) (cap : Nat) (o : LM.Ob) (w : World) (h : Oi l ao w) (hi : M.HasIm w o.a o.i) (hc : M.chkN o.i = 0) (hfo : M.Fit o.i) (h0 : 1 <= o.base) (h1 : o.base <= 2000) :
  Calls Tryz.prog 118 #[.agg (LM.cellsO o),.slice ao l.length cap] w (OutPt (LM.patN l o) w) := by
 have hn := (LM.counts_of hc).2.2.2.2
 have HRB := hideC (LM.rel_bounds hc)
 have HRF := hideC hfo.rel
 have HRL := hideC hi.rels
 have HAD : Hid (∀ at',0 <= at' -> at' <= 100000 -> ∀ V,Calls Tryz.prog 104 #[.agg (LM.cellsO o),.int .i64 at'] V fun e w' => e = .returned (.int .i64 (LM.addrO o at')) /\ Below V.heap.size V w') := fun a h2 h3 V => address_any o a V (by omega) (by omega) h2 h3
 have HTG : Hid (∀ s V,Below w.heap.size w V -> Calls Tryz.prog 140 #[.agg (LM.cellsO o),.slice ao l.length cap,.string s] V fun e w' => e = .returned (optV (LM.tgtN l o s)) /\ Below V.heap.size V w') := fun s V hb => target_any l ao cap o s V (h.below hb) (by omega) (by omega)
 obtain ⟨R,hR⟩ : ∃ R,R = LM.patN l o := ⟨_,rfl⟩
 have HR : Hid (R = LM.patTo l o o.i.rels.length) := hR
 rw [<- hR]
 clear hR h hi hc hfo
 obtain ⟨i0,hin,hz0,hz1,hz2⟩ := info_parts infoPt
 obtain ⟨og,hog⟩ : ∃ og,og = o := ⟨_,rfl⟩
 have HOG := hideC hog
 rw [<- hog] at HR HRB HRF HRL HTG HAD hn
 simp only [LM.cellsO] at HTG HAD
 rw [hog] at HTG HAD
 clear hog
 have HTG' : Hid (∀ s V,Below w.heap.size w V -> Calls Tryz.prog 140 #[.agg #[.string o.i.name,.slice o.a.an o.i.needs.length o.a.cn,.slice o.a.ag o.i.segs.length o.a.cg,.slice o.a.ay o.i.syms.length o.a.cy,.slice o.a.ar o.i.rels.length o.a.cr,.int .i64 o.i.entry,.int .i64 o.base],.slice ao l.length cap,.string s] V fun e w' => e = .returned (optV (LM.tgtN l og s)) /\ Below V.heap.size V w') := by
  rw [HOG.out]
  exact HTG
 have HAD' : Hid (∀ at',0 <= at' -> at' <= 100000 -> ∀ V,Calls Tryz.prog 104 #[.agg #[.string o.i.name,.slice o.a.an o.i.needs.length o.a.cn,.slice o.a.ag o.i.segs.length o.a.cg,.slice o.a.ay o.i.syms.length o.a.cy,.slice o.a.ar o.i.rels.length o.a.cr,.int .i64 o.i.entry,.int .i64 o.base],.int .i64 at'] V fun e w' => e = .returned (.int .i64 (LM.addrO og at')) /\ Below V.heap.size V w') := by
  rw [HOG.out]
  exact HAD
 have HRL' : Hid (M.HasBy M.LieR w o.a.ar og.i.rels) := by
  have h := HRL.out
  rw [HOG.out] at h ⊢
  exact h
 have hrl : o.i.rels.length = og.i.rels.length := by rw [HOG.out]
 clear HTG HAD HRL
 simp only [LM.cellsO]
 obtain ⟨⟨nm,ns,gs,ys,rs,en⟩,⟨an,cn,ag,cg,ay,cy,ar,cr⟩,ba⟩ := o
 simp only at HTG' HAD' HRL' hrl h0 h1
 simp only
 rw [hrl] at HTG' HAD'
 rw [hrl]
 clear hrl HOG
 obtain ⟨L,hL⟩ : ∃ L,L = og.i.rels := ⟨_,rfl⟩
 rw [<- hL] at HTG' HAD' HRL' hn HR HRB HRF
 rw [<- hL]
 have HL := hideC hL
 clear hL
 have HB := hideC ((Below.refl w.heap.size w).alloc (Nat.le_refl _) (.cells #[.string nm,.slice an ns.length cn,.slice ag gs.length cg,.slice ay ys.length cy,.slice ar L.length cr,.int .i64 en,.int .i64 ba] 178))
 have BX := hideC (B.new w #[.string nm,.slice an ns.length cn,.slice ag gs.length cg,.slice ay ys.length cy,.slice ar L.length cr,.int .i64 en,.int .i64 ba] 178)
 go_enter Tryz.func118,Tryz.ntmps118
 go_wp2
 go_loopw [17,6] (fun i v wr => ∃ (k : Nat) (ps : List LM.Pt),k <= L.length /\ i = .int .i64 k /\ LM.patTo l og k = some ps /\ wr.ownsRow (w.heap.size + 1) 228 2 v ps.length (ps.flatMap LM.cellP) /\ Below w.heap.size w wr /\ wr.heap[w.heap.size]? = some (.cells #[.string nm,.slice an ns.length cn,.slice ag gs.length cg,.slice ay ys.length cy,.slice ar L.length cr,.int .i64 en,.int .i64 ba] 178 (0,0))) (fun i _ _ => L.length - (intOf i).toNat)
 case atStart => exact ⟨0,[],by omega,rfl,rfl,World.ownsRow_nil _ _ _ _,HB.out,BX.out⟩
 case round =>
  obtain ⟨k,ps,hk,rfl,hpt,hown,hb,hbx⟩ := hrel
  have HPT := hideC hpt
  have HOW := hideC hown
  have HBr := hideC hb
  have BXr := hideC hbx
  have hb0 := B.isLt hbx
  have hpl : ps.length <= 16 := by have := LM.patTo_len hpt;omega
  have x0 := B.cell hbx 0 rfl
  have x1 := B.cell hbx 1 rfl
  have x2 := B.cell hbx 2 rfl
  have x3 := B.cell hbx 3 rfl
  have x4 := B.cell hbx 4 rfl
  have x5 := B.cell hbx 5 rfl
  have x6 := B.cell hbx 6 rfl
  by_cases hlt : k < L.length
  · obtain ⟨b,off,har,hbl,hlie⟩ := (M.HasBy.below (lie := M.LieR) (fun hb hlt h => M.lieR hb hlt h) HRL'.out hb) (by omega)
    obtain ⟨c0,c1,c2⟩ := hlie k hlt
    have hrb := HRB.out k hlt
    have HS1 : Hid (∀ t,LM.tgtN l og (M.rlAt L k).name = some t -> LM.patTo l og (k + 1) = some (ps ++ [LM.ptOf og (M.rlAt L k) t])) := fun t g => by
     rw [HL.out] at g ⊢
     simp only [LM.patTo,HPT.out,g]
    have HS0 : Hid (LM.tgtN l og (M.rlAt L k).name = none -> R = none) := fun g => by
     rw [HR.out]
     refine LM.patTo_none (k := k + 1) ?_ L.length (by omega)
     rw [HL.out] at g
     simp only [LM.patTo,HPT.out,g]
    obtain ⟨r,hr⟩ : ∃ r,r = M.rlAt L k := ⟨_,rfl⟩
    rw [<- hr] at c0 c1 c2 hrb HS1 HS0
    clear hr hlie hpt hown hbx
    obtain ⟨rp,rn,ra⟩ := r
    simp only at c0 c1 c2 hrb HS1 HS0
    have HBA := hideC (HBr.out.alloc HBr.out.size (.cells #[.int .i64 rp,.string rn,.int .i64 ra] 225))
    have HRA := hideC ((Below.refl wr.heap.size wr).alloc (Nat.le_refl _) (.cells #[.int .i64 rp,.string rn,.int .i64 ra] 225))
    have BRA := hideC (B.new wr #[.int .i64 rp,.string rn,.int .i64 ra] 225)
    have HT2 := hideC (HTG'.out rn)
    cases e : LM.tgtN l og rn with
    | none =>
     have HRN := hideC (HS0.out e)
     rw [e] at HT2
     simp only [optV,Option.getD_none,Option.isSome_none] at HT2
     clear e HS0 HS1 hb
     subst har
     go_wp2_with (go_at_call 140;refine (HT2.out _ HBA.out).mono ?_;rintro e w1 ⟨rfl,hb⟩;have HB1 := hideC (HBA.out.trans (hb.mono HBA.out.size));clear hb)
     go_ret2
     show OutPt R w _ _
     rw [HRN.out]
     exact ⟨HB1.out,rfl⟩
    | some t =>
     have HPS := hideC (HS1.out t e)
     rw [e] at HT2
     simp only [optV,Option.getD_some,Option.isSome_some] at HT2
     have HA2 := hideC (HAD'.out rp hrb.1 (by omega))
     have HPP : Hid (LM.ptOf og ⟨rp,rn,ra⟩ t = ⟨LM.addrO og rp,⟨(Lib.leBytes 8 (CM.low (t + ra))).toArray⟩⟩) := rfl
     obtain ⟨a8,ha8⟩ : ∃ a8,a8 = LM.addrO og rp := ⟨_,rfl⟩
     obtain ⟨sb,hsb⟩ : ∃ sb : ByteArray,sb = ⟨(Lib.leBytes 8 (CM.low (t + ra))).toArray⟩ := ⟨_,rfl⟩
     have HPU : Hid (∀ n,CM.low n = CM.low (t + ra) -> ∀ V,Calls Tryz.prog 127 #[.int .i64 n,.int .i64 8] V fun e w' => e = .returned (.tuple #[.string sb,.int .i64 0]) /\ Below V.heap.size V w') := fun n hn V => by
      have h := CW.put_yes n 8 V (by decide) (by decide)
      rw [hn,<- hsb] at h
      exact h
     rw [<- ha8] at HA2 HPP
     rw [<- hsb] at HPP
     rw [HPP.out] at HPS
     clear e HS0 HS1 HPP ha8 hsb hb
     subst har
     go_wp2_with (first
      | (go_at_call 140;refine (HT2.out _ HBA.out).mono ?_;rintro e w1 ⟨rfl,hb⟩;have HB1 := hideC (HBA.out.trans (hb.mono HBA.out.size));have HW1 := hideC (HRA.out.trans (hb.mono HRA.out.size));have BR1 := hideC (B.below BRA.out hb (B.isLt BRA.out));have z0 := B.cell BR1.out 0 rfl;have z2 := B.cell BR1.out 2 rfl;clear hb)
      | (go_at_call 127;refine (HPU.out _ (by first | rfl | exact LM.low_wrap _) _).mono ?_;rintro e w2 ⟨rfl,hb⟩;have HB2 := hideC (HB1.out.trans (hb.mono HB1.out.size));have HW2 := hideC (HW1.out.trans (hb.mono HW1.out.size));have BR2 := hideC (B.below BR1.out hb (B.isLt BR1.out));have v0 := B.cell BR2.out 0 rfl;have BX2 := hideC (B.below BXr.out HW2.out hb0);have q0 := B.cell BX2.out 0 rfl;have q1 := B.cell BX2.out 1 rfl;have q2 := B.cell BX2.out 2 rfl;have q3 := B.cell BX2.out 3 rfl;have q4 := B.cell BX2.out 4 rfl;have q5 := B.cell BX2.out 5 rfl;have q6 := B.cell BX2.out 6 rfl;clear hb)
      | (go_at_call 104;refine (HA2.out _).mono ?_;rintro e w3 ⟨rfl,hb⟩;have HB3 := hideC (HB2.out.trans (hb.mono HB2.out.size));have HW3 := hideC (HW2.out.trans (hb.mono HW2.out.size));have BX3 := hideC (B.below BXr.out HW3.out hb0);have HOW3 := hideC ((row_grown HOW.out HW3.out).alloc (.cells #[.int .i64 a8,.string sb] 228));have hrow3 := HOW3.out.lt;have HN3 := hideC (B.new w3 #[.int .i64 a8,.string sb] 228);clear hb)
      | (at_builtin;refine wpList_append_lies _ rfl _ _ 203 rfl (w.heap.size + 1) 228 i0 (.agg #[.int .i64 0,.string ⟨#[]⟩]) 2 24 Tryz.underlying203 hin hz0 hz1 hz2 rfl (by decide) _ _ _ rfl HOW3.out ⟨w3.heap.size,0,none⟩ 1 1 [.int .i64 a8,.string sb] rfl rfl (B.news HN3.out) (by intro u hu;simp at hu;rcases hu with rfl | rfl <;> rfl) (by decide) (by unfold maxLen;omega) (by omega) (by have := B.isLt BX3.out;simp;omega) (w3.heap.size + 1) (by simp) ?_;intro gg capg w4 hown4 hgrow hatt hlt4;have HOW4 := hideC hown4;have HB4 := hideC ((HB3.out.alloc HB3.out.size (.cells #[.int .i64 a8,.string sb] 228)).grown hgrow (by have := HB3.out.size;simp;omega) (fun q hq => by have := hrow3 _ hq;omega));have BX4 := hideC (B.grown (B.alloc BX3.out (.cells #[.int .i64 a8,.string sb] 228)) hgrow (fun e => by have := hrow3 _ e.symm;omega));clear hown4 hgrow hatt))
     go_roundw
     case rel => exact ⟨k + 1,ps ++ [⟨a8,sb⟩],by omega,by go_num,HPS.out,by rw [List.length_append,List.flatMap_append];exact HOW4.out,HB4.out,BX4.out⟩
     case measure => simp [intOf];omega
  · obtain rfl : k = L.length := by omega
    have HE : Hid (R = some ps) := by rw [HR.out];exact HPT.out
    clear hpt hown hb hbx
    go_wp2
    go_ret2
    show OutPt R w _ _
    rw [HE.out]
    exact ⟨HBr.out,_,rfl,row_mono HOW.out (by omega)⟩
end LW
end Go.Proofs.YtkdigjpejnebkaaGreat
