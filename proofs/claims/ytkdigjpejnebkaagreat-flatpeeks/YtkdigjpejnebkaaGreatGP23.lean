import Derived.Test.YtkdigjpejnebkaaGreatGP22
import Derived.Maps.Own
import Derived.Maps.OwnSet
import Derived.Maps.Views
import Derived.Test.YtkdigjpejnebkaaGreatGP21
import Derived.Deep.AppendLies
set_option linter.unusedVariables false
set_option maxRecDepth 100000
set_option linter.unusedSimpArgs false
namespace Go.Proofs.YtkdigjpejnebkaaGreat
namespace W
open Go.RowKit Go.WideMaps Go.Maps
theorem law : Keyed Tryz.prog 9 := string_keyed Tryz.underlying9
theorem zero3 (w : World) : (zeroValue 3).run Tryz.prog w = .ok (.int .i64 0) w := by kernel_rfl
def keyS (s : ByteArray) : Lit := .string s.data.toList
theorem keyS_inj {s t : ByteArray} (h : keyS s = keyS t) : s = t := by
 unfold keyS at h
 injection h with h
 cases s;cases t
 congr 1
 exact Array.toList_inj.1 h
theorem keyS_ok {s : ByteArray} (h : M.Short s.size) : keyOf Tryz.prog 9 (.string s) = some (keyS s) := keyOf_string_mk Tryz.underlying9 (by unfold M.Short at h;unfold maxLen;omega)
instance lawfulBA : LawfulBEq ByteArray where
 eq_of_beq {a b} h := by
  cases a;cases b
  congr 1
  exact eq_of_beq (α := Array UInt8) h
 rfl {a} := by
  cases a
  exact beq_self_eq_true (α := Array UInt8) _
def Cnt (l : List ByteArray) (k : Nat) (D : DataW Unit) : Prop := ∀ s : ByteArray,D.atKey (keyS s) (.lit (.int .i64 0)) = .lit (.int .i64 (if (l.take k).contains s then 1 else 0))
theorem cnt_zero (l : List ByteArray) : Cnt l 0 (.map []) := fun s => by simp [DataW.atKey]
theorem contains_step (l : List ByteArray) (k : Nat) (hk : k < l.length) (s : ByteArray) : (l.take (k + 1)).contains s = ((l.take k).contains s || s == M.strAt l k) := by
 rw [List.take_add_one,List.getElem?_eq_getElem hk]
 have e : M.strAt l k = l[k] := by unfold M.strAt;rw [List.getD_eq_getElem?_getD,List.getElem?_eq_getElem hk];rfl
 rw [e]
 have g : ∀ (m : List ByteArray) (a : ByteArray),(m ++ [a]).contains s = (m.contains s || s == a) := fun m a => by
  rw [Bool.eq_iff_iff]
  simp
 exact g _ _
theorem cnt_step {l : List ByteArray} {k : Nat} {D : DataW Unit} (hk : k < l.length) (hD : IsMap D) (h : Cnt l k D) : Cnt l (k + 1) (D.put (keyS (M.strAt l k)) (.lit (.int .i64 1))) := fun s => by
 rw [contains_step l k hk s]
 by_cases e : s = M.strAt l k
 · subst e
   rw [atKey_put_same hD (by trivial)]
   simp
 · rw [atKey_put_other (fun g => e (keyS_inj g)),h s]
   have : (s == M.strAt l k) = false := by simpa using e
   rw [this,Bool.or_false]
theorem once_mono (l : List ByteArray) (k n : Nat) (h : M.onceTo l k = false) (hk : k <= n) : M.onceTo l n = false := by
 induction n with
 | zero => obtain rfl : k = 0 := by omega
           exact h
 | succ n ih =>
  rcases Nat.lt_or_ge n k with g | g
  · obtain rfl : k = n + 1 := by omega
    exact h
  · simp only [M.onceTo]
    rw [ih g];rfl
set_option maxHeartbeats 2000000 in
theorem twice_any (l : List ByteArray) (ao : Option Addr) (cap : Nat) (w : World) (h : M.HasBy M.LieS w ao l) (hn : M.Short l.length) (hf : ∀ k,k < l.length -> M.Short (M.strAt l k).size) :
  Calls Tryz.prog 134 #[.slice ao l.length cap] w fun e w' => e = .returned (.bool (!M.onceB l)) /\ Below w.heap.size w w' := by
 unfold M.Short at hn
 have H := hideC h
 have F := hideC hf
 clear h hf
 have hmm := @run_makeMap Tryz.prog
 go_enter Tryz.func134,Tryz.ntmps134
 go_wp2
 go_loopw [9] (fun i wr => ∃ (k : Nat) (D : DataW Unit),k <= l.length /\ i = .int .i64 k /\ wr.ownsMap Tryz.prog 9 (plainElem Tryz.prog 3) w.heap.size k D /\ Cnt l k D /\ M.onceTo l k = true /\ Below w.heap.size w wr) (fun i _ => l.length - (intOf i).toNat)
 case atStart => exact ⟨0,.map [],Nat.zero_le _,rfl,World.ownsMap_made _ _ _ _,cnt_zero l,rfl,(Below.refl _ _).alloc (Nat.le_refl _) _⟩
 case round =>
  obtain ⟨k,D,hk,rfl,hown,hcnt,honce,hb⟩ := hrel
  have HO := hideC honce
  have HC := hideC hcnt
  have HB := hideC hb
  have HW := hideC hown
  clear honce hcnt
  by_cases hlt : k < l.length
  · obtain ⟨b,off,hao,hbl,hl⟩ := H.out (by omega)
    subst hao
    have hli : (k : Int) < (l.length : Int) := by omega
    have c0 := M.lieS hb hbl hl k hlt
    have fs := F.out k hlt
    have HCS := hideC (cnt_step hlt hown.isMap HC.out)
    have HN : Hid (M.onceTo l (k + 1) = !(l.take k).contains (M.strAt l k)) := by show (M.onceTo l k && _) = _;rw [HO.out];rfl
    have hcx := HC.out (M.strAt l k)
    obtain ⟨s,hs⟩ : ∃ s,s = M.strAt l k := ⟨_,rfl⟩
    rw [<- hs] at c0 fs HCS HN hcx
    clear hs hb hl
    have hkey := keyS_ok fs
    obtain ⟨c,hrun,hat,_⟩ := hown.lookup_int law Tryz.underlying240 Tryz.underlying3 (zero3 _) hkey
    rw [hcx] at hat
    have hkm : k < maxLen := by unfold maxLen;omega
    cases hc : (l.take k).contains s
    · rw [hc] at hat HN
      have e : c = 0 := by injection hat with hat;injection hat with _ hat;exact hat.symm
      subst e
      clear hat hcx
      go_wp2_with (first | (at_mapUpdate;refine wpList_mapUpdate_own _ rfl _ _ _ 240 rfl 9 3 law Tryz.underlying240 _ w.heap.size k _ rfl HW.out hkm _ _ _ rfl rfl hkey _ [] (plainElem_int Tryz.underlying3 (by decide)) ?_) | go_in)
      intro w1 hown1 hgrow1
      have R2 := hideC (HB.out.grown hgrow1 HB.out.size (fun j hj => by cases hj;exact Nat.le_refl _))
      obtain ⟨c,hrun1,hat1,_⟩ := hown1.lookup_int law Tryz.underlying240 Tryz.underlying3 (zero3 _) hkey
      rw [atKey_put_same HW.out.isMap (by trivial)] at hat1
      have e : c = 1 := by injection hat1 with hat1;injection hat1 with _ hat1;exact hat1.symm
      subst e
      have HW1 := hideC hown1
      clear hat1 hown hrun hgrow1 hown1
      go_wp2
      go_roundw
      case rel => exact ⟨k + 1,_,by omega,by go_num,HW1.out,HCS.out,HN.out,R2.out⟩
      case measure => simp [intOf];omega
    · rw [hc] at hat HN
      have e : c = 1 := by injection hat with hat;injection hat with _ hat;exact hat.symm
      subst e
      clear hat hcx
      have HR := hideC (once_mono l (k + 1) l.length HN.out hlt)
      go_wp2_with (first | (at_mapUpdate;refine wpList_mapUpdate_own _ rfl _ _ _ 240 rfl 9 3 law Tryz.underlying240 _ w.heap.size k _ rfl HW.out hkm _ _ _ rfl rfl hkey _ [] (plainElem_int Tryz.underlying3 (by decide)) ?_) | go_in)
      intro w1 hown1 hgrow1
      have R2 := hideC (HB.out.grown hgrow1 HB.out.size (fun j hj => by cases hj;exact Nat.le_refl _))
      obtain ⟨c,hrun1,hat1,_⟩ := hown1.lookup_int law Tryz.underlying240 Tryz.underlying3 (zero3 _) hkey
      rw [atKey_put_same HW.out.isMap (by trivial)] at hat1
      have e : c = 2 := by injection hat1 with hat1;injection hat1 with _ hat1;exact hat1.symm
      subst e
      clear hat1 hown hrun hgrow1 hown1
      go_wp2
      go_ret
      exact ⟨ret_bool (by unfold M.onceB;rw [HR.out];rfl),R2.out⟩
  · obtain rfl : k = l.length := by omega
    clear hb
    go_wp2
    go_ret
    exact ⟨ret_bool (by unfold M.onceB;rw [HO.out];rfl),HB.out⟩
end W
namespace LM
open Go.RowKit Go.WideMaps Go.Maps
structure Li where
 i : M.Im
 a : M.At
def li0 : Li := ⟨⟨⟨#[]⟩,[],[],[],[],0⟩,⟨none,0,none,0,none,0,none,0⟩⟩
def liAt (l : List Li) (k : Nat) : Li := l.getD k li0
def imgV (x : Li) : Value := .agg (M.cellsI x.a x.i)
def LieI (w : World) (b off : Nat) (l : List Li) : Prop := ∀ k,k < l.length ->
 (w.cell? ⟨b,off + k * 6,none⟩ = some (.string (liAt l k).i.name) /\ w.cell? ⟨b,off + k * 6 + 1,none⟩ = some (.slice (liAt l k).a.an (liAt l k).i.needs.length (liAt l k).a.cn) /\
  w.cell? ⟨b,off + k * 6 + 2,none⟩ = some (.slice (liAt l k).a.ag (liAt l k).i.segs.length (liAt l k).a.cg) /\ w.cell? ⟨b,off + k * 6 + 3,none⟩ = some (.slice (liAt l k).a.ay (liAt l k).i.syms.length (liAt l k).a.cy) /\
  w.cell? ⟨b,off + k * 6 + 4,none⟩ = some (.slice (liAt l k).a.ar (liAt l k).i.rels.length (liAt l k).a.cr) /\ w.cell? ⟨b,off + k * 6 + 5,none⟩ = some (.int .i64 (liAt l k).i.entry)) /\ M.HasIm w (liAt l k).a (liAt l k).i
theorem lieI {w w' : World} {b off : Nat} {l : List Li} (hb : Below w.heap.size w w') (hlt : b < w.heap.size) (h : LieI w b off l) : LieI w' b off l := fun k hk => by
 obtain ⟨⟨c0,c1,c2,c3,c4,c5⟩,hi⟩ := h k hk
 exact ⟨⟨(M.below_cell hb hlt).trans c0,(M.below_cell hb hlt).trans c1,(M.below_cell hb hlt).trans c2,(M.below_cell hb hlt).trans c3,(M.below_cell hb hlt).trans c4,(M.below_cell hb hlt).trans c5⟩,hi.below hb⟩
def HasI (w : World) (ao : Option Addr) (l : List Li) : Prop := M.HasBy LieI w ao l
theorem HasI.below {w w' : World} {ao : Option Addr} {l : List Li} (h : HasI w ao l) (hb : Below w.heap.size w w') : HasI w' ao l := M.HasBy.below (lie := LieI) (fun hb hlt h => lieI hb hlt h) h hb
def FitI (l : List Li) : Prop := M.Short l.length /\ ∀ k,k < l.length -> M.Fit (liAt l k).i
def errTo (l : List Li) : Nat -> Int
 | 0 => 0
 | k + 1 => if errTo l k = 0 then M.chkN (liAt l k).i else errTo l k
def namesL (l : List Li) : List ByteArray := l.map (·.i.name)
def byErr (l : List Li) : Int := if errTo l l.length = 0 then (if M.onceB (namesL l) then 0 else 5) else errTo l l.length
theorem errTo_stays (l : List Li) (k : Nat) (h : errTo l k ≠ 0) : ∀ n,k <= n -> errTo l n = errTo l k
 | 0, hn => by obtain rfl : k = 0 := by omega
               rfl
 | n + 1,hn => by
  by_cases e : k = n + 1
  · subst e;rfl
  · have ih := errTo_stays l k h n (by omega)
    simp only [errTo]
    rw [ih,if_neg h]
theorem errTo_none (l : List Li) : ∀ n,errTo l n = 0 -> ∀ k,k < n -> M.chkN (liAt l k).i = 0
 | 0,_,k,hk => by omega
 | n + 1,h,k,hk => by
  simp only [errTo] at h
  by_cases e0 : errTo l n = 0
  · rw [if_pos e0] at h
    by_cases e : k = n
    · subst e;exact h
    · exact errTo_none l n e0 k (by omega)
  · rw [if_neg e0] at h
    exact (e0 h).elim
theorem namesL_at (l : List Li) (k : Nat) (hk : k < l.length) : M.strAt (namesL l) k = (liAt l k).i.name := by
 unfold M.strAt namesL liAt
 rw [List.getD_eq_getElem?_getD,List.getD_eq_getElem?_getD,List.getElem?_map,List.getElem?_eq_getElem hk]
 rfl
theorem namesL_length (l : List Li) : (namesL l).length = l.length := by simp [namesL]
def Rv (v : Value) : Option (DataW Value × List MemPlace) := some (.held v,[])
def zImg : Value := .agg #[.string ⟨#[]⟩,.slice none 0 0,.slice none 0 0,.slice none 0 0,.slice none 0 0,.int .i64 0]
structure Nm (l : List Li) (k : Nat) (D : DataW Value) : Prop where
 has : ∀ s,Maps.has D (W.keyS s) = ((namesL l).take k).contains s
 at_ : M.onceTo (namesL l) k = true -> ∀ j,j < k -> D.atKey (W.keyS (liAt l j).i.name) (.held zImg) = .held (imgV (liAt l j))
 le : Maps.size D <= k
 all : Maps.size D = k ↔ M.onceTo (namesL l) k = true
theorem nm_zero (l : List Li) : Nm l 0 (.map []) := ⟨fun s => by simp [Maps.has],fun _ j hj => by omega,by simp [Maps.size],by simp [Maps.size,M.onceTo]⟩
theorem name_in (l : List Li) (k j : Nat) (hj : j < k) (hk : k <= l.length) : ((namesL l).take k).contains (liAt l j).i.name = true := by
 have h1 : j < ((namesL l).take k).length := by rw [List.length_take,namesL_length];omega
 have h2 : ((namesL l).take k)[j] = (liAt l j).i.name := by
  rw [List.getElem_take]
  have h3 : j < (namesL l).length := by rw [namesL_length];omega
  have := namesL_at l j (by omega)
  unfold M.strAt at this
  rw [List.getD_eq_getElem?_getD,List.getElem?_eq_getElem h3] at this
  exact this
 rw [<- h2]
 exact List.contains_iff_mem.2 (List.getElem_mem h1)
theorem nm_step {l : List Li} {k : Nat} {D : DataW Value} (hk : k < l.length) (hD : IsMap D) (hT : Maps.Tidy D) (h : Nm l k D) : Nm l (k + 1) (D.put (W.keyS (liAt l k).i.name) (.held (imgV (liAt l k)))) := by
 have hc := fun s => W.contains_step (namesL l) k (by rw [namesL_length];exact hk) s
 have hat := namesL_at l k hk
 have hon : M.onceTo (namesL l) (k + 1) = (M.onceTo (namesL l) k && !((namesL l).take k).contains (liAt l k).i.name) := by simp only [M.onceTo];rw [hat]
 have hsz := Maps.size_put (k := W.keyS (liAt l k).i.name) hT (.held (imgV (liAt l k)))
 rw [h.has] at hsz
 refine ⟨fun s => ?_,fun ho j hj => ?_,?_,?_⟩
 · rw [hc s,hat]
   by_cases e : s = (liAt l k).i.name
   · subst e
     rw [Maps.has_put_same hD (by trivial)]
     simp
   · rw [Maps.has_put_other (fun g => e (W.keyS_inj g)),h.has]
     have : (s == (liAt l k).i.name) = false := by simpa using e
     rw [this,Bool.or_false]
 · rw [hon] at ho
   simp only [Bool.and_eq_true,Bool.not_eq_true'] at ho
   by_cases e : j = k
   · subst e
     exact atKey_put_same hD (by trivial) _ _
   · have hin := name_in l k j (by omega) (by omega)
     rw [atKey_put_other (fun g => by
      have := W.keyS_inj g
      rw [this] at hin
      rw [ho.2] at hin
      cases hin)]
     exact h.at_ ho.1 j (by omega)
 · have := h.le
   split at hsz <;> omega
 · rw [hon]
   have h1 := h.le
   have h2 := h.all
   cases hcn : ((namesL l).take k).contains (liAt l k).i.name
   · rw [hcn] at hsz
     simp only [Bool.false_eq_true,if_false] at hsz
     rw [hsz]
     simp only [Bool.not_false,Bool.and_true]
     rw [<- h2]
     omega
   · rw [hcn] at hsz
     simp only [if_true] at hsz
     rw [hsz]
     simp only [Bool.not_true,Bool.and_false,Bool.false_eq_true,iff_false]
     omega
end LM
namespace W
open Go.RowKit
theorem info9 : (Tryz.prog.info? 9).map (fun i => (i.zero,i.size,i.bytes)) = some (some (.string ⟨#[]⟩),1,16) := by kernel_rfl
def strs (l : List ByteArray) : List Value := l.map Value.string
theorem strs_get (l : List ByteArray) (i : Nat) (h : i < l.length) : (strs l)[i]? = some (.string (M.strAt l i)) := by
 unfold strs M.strAt
 rw [List.getElem?_map,List.getD_eq_getElem?_getD,List.getElem?_eq_getElem h]
 rfl
theorem row_has {w : World} {base : Nat} {v : Value} {l : List ByteArray} (h : w.ownsRow base 9 1 v l.length (strs l)) : ∃ ao cap,v = .slice ao l.length cap /\ M.HasBy M.LieS w ao l := by
 rcases h.2 with ⟨hv,h0⟩ | ⟨g,cap,cur,hv,hbg,hg,hnc,hcm,hcs,htake⟩
 · exact ⟨none,0,by rw [hv,h0],fun hl => by omega⟩
 · subst hv
   refine ⟨some ⟨g,0,none⟩,cap,rfl,fun hl => ⟨g,0,rfl,B.isLt hg,fun i hi => ?_⟩⟩
   rw [Nat.zero_add]
   exact (h.cellAt _ (by omega)).trans (strs_get l i hi)
theorem names_take (ys : List M.Sy) (k : Nat) (h : k < ys.length) : ((ys.map (·.name)).take (k + 1)) = (ys.map (·.name)).take k ++ [(M.syAt ys k).name] := by
 rw [List.take_add_one,List.getElem?_map,List.getElem?_eq_getElem h]
 unfold M.syAt
 rw [List.getD_eq_getElem?_getD,List.getElem?_eq_getElem h]
 rfl
set_option maxHeartbeats 2000000 in
theorem symNames_any (ys : List M.Sy) (ao : Option Addr) (cap : Nat) (w : World) (h : M.HasBy M.LieY w ao ys) (hn : ys.length <= 12) :
  Calls Tryz.prog 135 #[.slice ao ys.length cap] w fun e w' => (∃ ao' cap',e = .returned (.slice ao' (ys.map (·.name)).length cap') /\ M.HasBy M.LieS w' ao' (ys.map (·.name))) /\ Below w.heap.size w w' := by
 have H := hideC h
 clear h
 obtain ⟨i0,hi,hz0,hz1,hz2⟩ := info_parts info9
 go_enter Tryz.func135,Tryz.ntmps135
 go_wp2
 go_loopw [3,8] (fun v i wr => ∃ k : Nat,k <= ys.length /\ i = .int .i64 k /\ wr.ownsRow w.heap.size 9 1 v k (strs ((ys.map (·.name)).take k)) /\ Below w.heap.size w wr) (fun _ i _ => ys.length - (intOf i).toNat)
 case atStart => exact ⟨0,by omega,rfl,World.ownsRow_nil _ _ _ _,Below.refl _ _⟩
 case round =>
  obtain ⟨k,hk,rfl,hown,hb⟩ := hrel
  have HO := hideC hown
  have HB := hideC hb
  clear hown
  by_cases hlt : k < ys.length
  · obtain ⟨b,off,hao,hbl,hl⟩ := H.out (by omega)
    subst hao
    have hli : (k : Int) < (ys.length : Int) := by omega
    obtain ⟨c0,c1⟩ := M.lieY hb hbl hl k hlt
    have HT := hideC (names_take ys k hlt)
    obtain ⟨y,hx⟩ : ∃ y,y = M.syAt ys k := ⟨_,rfl⟩
    rw [<- hx] at c0 c1 HT
    clear hx hb hl
    obtain ⟨x,xp⟩ := y
    simp only at c0 c1 HT
    have hrow : Hid (∀ j,u3.ownBlock = some j -> w.heap.size <= j /\ j < wr.heap.size) := HO.out.lt
    have HN : Hid (((wr.alloc (.cells #[.string x,.int .i64 xp] 239)).alloc (.cells #[.string x] 9)).heap[wr.heap.size + 1]? = some (.cells #[.string x] 9 (0,0))) := by
     have := B.new (wr.alloc (.cells #[.string x,.int .i64 xp] 239)) #[.string x] 9
     rw [show (wr.alloc (.cells #[.string x,.int .i64 xp] 239)).heap.size = wr.heap.size + 1 by simp] at this
     exact this
    go_wp2_with (at_builtin;refine wpList_append_lies _ rfl _ _ 131 rfl w.heap.size 9 i0 (.string ⟨#[]⟩) 1 16 Tryz.underlying131 hi hz0 hz1 hz2 rfl (by decide) _ _ _ rfl ((HO.out.alloc _).alloc _) ⟨wr.heap.size + 1,0,none⟩ 1 1 [.string x] rfl rfl (B.news HN.out) (by intro u hu;simp at hu;subst hu;rfl) (by decide) (by unfold maxLen;omega) (by omega) (by have := HB.out.size;simp;omega) (wr.heap.size + 2) (by simp) ?_)
    intro g cap w1 hown1 hgrow hat hlt1
    have HO1 := hideC hown1
    have HB1 : Hid (Below w.heap.size w w1) := ((HB.out.alloc HB.out.size _).alloc (by have := HB.out.size;simp;omega) _).grown hgrow (by have := HB.out.size;simp;omega) (fun k' e => by have := hrow.out _ e;omega)
    clear hown1 hgrow hat
    go_wp2
    go_roundw
    case rel =>
     refine ⟨k + 1,by omega,by go_num,?_,HB1.out⟩
     rw [HT.out]
     unfold strs
     rw [List.map_append]
     exact HO1.out
    case measure => simp [intOf];omega
  · obtain rfl : k = ys.length := by omega
    clear hb
    go_wp2
    go_ret
    have e : (ys.map (·.name)).take ys.length = ys.map (·.name) := by rw [List.take_of_length_le];simp
    have ho := HO.out
    rw [e] at ho
    rw [show ys.length = (ys.map (·.name)).length by simp] at ho
    obtain ⟨ao',cap',hv,hh⟩ := row_has ho
    exact ⟨⟨ao',cap',by rw [<- hv];rfl,hh⟩,HB.out⟩
end W
end Go.Proofs.YtkdigjpejnebkaaGreat
