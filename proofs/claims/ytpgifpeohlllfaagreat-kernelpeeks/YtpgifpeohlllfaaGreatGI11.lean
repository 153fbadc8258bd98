import Derived.Test.YtpgifpeohlllfaaGreatGI10
import Derived.Maps.Own
import Derived.Maps.OwnSet
import Derived.Maps.Views
import Derived.Deep.AppendLies
import Derived.Deep.RegionLaw
import Derived.Lib.Repeat
import Derived.Test.YtpgifpeohlllfaaGreatGI06
import Derived.Test.YtpgifpeohlllfaaGreatGI00
set_option maxHeartbeats 20000000
set_option linter.unusedVariables false
set_option maxRecDepth 100000
set_option linter.unusedSimpArgs false
namespace Go.Proofs.YtpgifpeohlllfaaGreat
namespace W
open Go.RowKit
set_option maxHeartbeats 2000000 in
theorem entryPlaced_any (i : M.Im) (a : M.At) (w : World) (h : M.HasIm w a i) (hf : M.Fit i) (hr : i.segs.all M.rangeB = true) : Calls Tryz.prog 183 #[.agg (M.cellsI a i)] w fun e w'=>e = .returned (.bool (M.entryB i)) /\ Below w.heap.size w w':=by
 obtain ⟨an,cn,ag,cg,ay,cy,ar,cr⟩:=a
 obtain ⟨nm,ns,gs,ys,rs,en⟩:=i
 obtain ⟨h1,h2,h3,h4⟩:=h
 obtain ⟨f1,f2,f3,f4,f5,f6,f7,f8,f9,f10⟩:=hf
 simp only at h1 h2 h3 h4 f1 f2 f3 f4 f5 f6 f7 f8 f9 f10
 have F4:=hideC f4
 unfold M.Short at f2 f4 f6 f8
 simp only [M.cellsI]
 have H1:=hideC h1
 have H2:=hideC h2
 have H3:=hideC h3
 have H4:=hideC h4
 have F3:=hideC f3
 have F7:=hideC f7
 have F9:=hideC f9
 have F10:=hideC f10
 have HG:=hideC hr
 clear h1 h2 h3 h4 f3 f5 f7 f9 f10 hr
 have BOX:=hideC (B.new w #[.string nm,.slice an ns.length cn,.slice ag gs.length cg,.slice ay ys.length cy,.slice ar rs.length cr,.int .i64 en] 151)
 have HB0:=hideC ((Below.refl w.heap.size w).alloc (Nat.le_refl _) (.cells #[.string nm,.slice an ns.length cn,.slice ag gs.length cg,.slice ay ys.length cy,.slice ar rs.length cr,.int .i64 en] 151))
 obtain ⟨X,hX⟩ : ∃ X : Array Value,X = #[.string nm,.slice an ns.length cn,.slice ag gs.length cg,.slice ay ys.length cy,.slice ar rs.length cr,.int .i64 en]:=⟨_,rfl⟩
 have HX:=hideC hX
 rw [<- hX] at BOX HB0
 clear hX
 have bx2:=B.cell BOX.out 2 (by rw [HX.out];rfl)
 have bx5:=B.cell BOX.out 5 (by rw [HX.out];rfl)
 have f10':=F10.out
 unfold M.I64 at f10'
 have HE : Hid (M.entryB ⟨nm,ns,gs,ys,rs,en⟩ = (M.placedB gs en && ((segOr gs en).ex && decide (en % 8 = 0)))):=by
  show _ = _
  unfold M.entryB M.placedB segOr
  simp only
  cases M.segIn gs en <;> rfl
 rw [HE.out]
 have hpb : M.placedB gs en = true -> 0 <= en:=fun h=>(placed_bounds HG.out en h).1
 obtain ⟨sg,hsg⟩ : ∃ sg,sg = segOr gs en:=⟨_,rfl⟩
 obtain ⟨pb,hpp⟩ : ∃ pb,pb = M.placedB gs en:=⟨_,rfl⟩
 have HS:=hideC hsg
 have HP:=hideC hpp
 rw [<- hpp] at hpb
 rw [<- hsg,<- hpp]
 obtain ⟨sp,sn,sd,sx,sy⟩:=sg
 simp only
 clear HE hsg hpp
 cases pb
 · clear hpb
   go_enter Tryz.func183,Tryz.ntmps183
   go_wp2_with fail
   rw [<- HX.out]
   refine (segAt_any gs ag cg en _ (M.HasBy.below (lie:=M.LieG) (fun hb hlt h=>M.lieG hb hlt h) H2.out HB0.out) F4.out HG.out F10.out).mono ?_
   rintro e w2 ⟨rfl,hb2⟩
   have HB2:=hideC (HB0.out.trans (hb2.mono HB0.out.size))
   have BX2:=hideC (B.below BOX.out hb2 (B.isLt BOX.out))
   have hsz2:=B.isLt BX2.out
   have by5:=B.cell BX2.out 5 (by rw [HX.out];rfl)
   clear hb2
   rw [<- HS.out,<- HP.out]
   simp only [cellsG]
   go_wp2
   go_ret
   exact ⟨rfl,HB2.out.alloc HB2.out.size _⟩
 · have hp:=hpb rfl
   clear hpb
   cases sy
   · go_enter Tryz.func183,Tryz.ntmps183
     go_wp2_with fail
     rw [<- HX.out]
     refine (segAt_any gs ag cg en _ (M.HasBy.below (lie:=M.LieG) (fun hb hlt h=>M.lieG hb hlt h) H2.out HB0.out) F4.out HG.out F10.out).mono ?_
     rintro e w2 ⟨rfl,hb2⟩
     have HB2:=hideC (HB0.out.trans (hb2.mono HB0.out.size))
     have BX2:=hideC (B.below BOX.out hb2 (B.isLt BOX.out))
     have hsz2:=B.isLt BX2.out
     have by5:=B.cell BX2.out 5 (by rw [HX.out];rfl)
     clear hb2
     rw [<- HS.out,<- HP.out]
     simp only [cellsG]
     go_wp2
     go_ret
     exact ⟨rfl,HB2.out.alloc HB2.out.size _⟩
   · by_cases d : en % 8 = 0
     · rw [decide_eq_true d]
       go_enter Tryz.func183,Tryz.ntmps183
       go_wp2_with fail
       rw [<- HX.out]
       refine (segAt_any gs ag cg en _ (M.HasBy.below (lie:=M.LieG) (fun hb hlt h=>M.lieG hb hlt h) H2.out HB0.out) F4.out HG.out F10.out).mono ?_
       rintro e w2 ⟨rfl,hb2⟩
       have HB2:=hideC (HB0.out.trans (hb2.mono HB0.out.size))
       have BX2:=hideC (B.below BOX.out hb2 (B.isLt BOX.out))
       have hsz2:=B.isLt BX2.out
       have by5:=B.cell BX2.out 5 (by rw [HX.out];rfl)
       clear hb2
       rw [<- HS.out,<- HP.out]
       simp only [cellsG]
       go_wp2
       go_ret
       exact ⟨rfl,HB2.out.alloc HB2.out.size _⟩
     · rw [decide_eq_false d]
       go_enter Tryz.func183,Tryz.ntmps183
       go_wp2_with fail
       rw [<- HX.out]
       refine (segAt_any gs ag cg en _ (M.HasBy.below (lie:=M.LieG) (fun hb hlt h=>M.lieG hb hlt h) H2.out HB0.out) F4.out HG.out F10.out).mono ?_
       rintro e w2 ⟨rfl,hb2⟩
       have HB2:=hideC (HB0.out.trans (hb2.mono HB0.out.size))
       have BX2:=hideC (B.below BOX.out hb2 (B.isLt BOX.out))
       have hsz2:=B.isLt BX2.out
       have by5:=B.cell BX2.out 5 (by rw [HX.out];rfl)
       clear hb2
       rw [<- HS.out,<- HP.out]
       simp only [cellsG]
       go_wp2
       go_ret
       exact ⟨ret_bool (by simpa using d),HB2.out.alloc HB2.out.size _⟩
end W
namespace W
open Go.RowKit Go.WideMaps Go.Maps
theorem law : Keyed Tryz.prog 9:=string_keyed Tryz.underlying9
theorem zero3 (w : World) : (zeroValue 3).run Tryz.prog w = .ok (.int .i64 0) w:=by kernel_rfl
def keyS (s : ByteArray) : Lit:=.string s.data.toList
theorem keyS_inj {s t : ByteArray} (h : keyS s = keyS t) : s = t:=by
 unfold keyS at h
 injection h with h
 cases s;cases t
 congr 1
 exact Array.toList_inj.1 h
theorem keyS_ok {s : ByteArray} (h : M.Short s.size) : keyOf Tryz.prog 9 (.string s) = some (keyS s):=keyOf_string_mk Tryz.underlying9 (by unfold M.Short at h;unfold maxLen;omega)
instance lawfulBA : LawfulBEq ByteArray where
 eq_of_beq {a b} h:=by
  cases a;cases b
  congr 1
  exact eq_of_beq (α:=Array UInt8) h
 rfl {a}:=by
  cases a
  exact beq_self_eq_true (α:=Array UInt8) _
def Cnt (l : List ByteArray) (k : Nat) (D : DataW Unit) : Prop:=∀ s : ByteArray,D.atKey (keyS s) (.lit (.int .i64 0)) = .lit (.int .i64 (if (l.take k).contains s then 1 else 0))
theorem cnt_zero (l : List ByteArray) : Cnt l 0 (.map []):=fun s=>by simp [DataW.atKey]
theorem contains_step (l : List ByteArray) (k : Nat) (hk : k < l.length) (s : ByteArray) : (l.take (k + 1)).contains s = ((l.take k).contains s || s == M.strAt l k):=by
 rw [List.take_add_one,List.getElem?_eq_getElem hk]
 have e : M.strAt l k = l[k]:=by unfold M.strAt;rw [List.getD_eq_getElem?_getD,List.getElem?_eq_getElem hk];rfl
 rw [e]
 have g : ∀ (m : List ByteArray) (a : ByteArray),(m ++ [a]).contains s = (m.contains s || s == a):=fun m a=>by
  rw [Bool.eq_iff_iff]
  simp
 exact g _ _
theorem cnt_step {l : List ByteArray} {k : Nat} {D : DataW Unit} (hk : k < l.length) (hD : IsMap D) (h : Cnt l k D) : Cnt l (k + 1) (D.put (keyS (M.strAt l k)) (.lit (.int .i64 1))):=fun s=>by
 rw [contains_step l k hk s]
 by_cases e : s = M.strAt l k
 · subst e
   rw [atKey_put_same hD (by trivial)]
   simp
 · rw [atKey_put_other (fun g=>e (keyS_inj g)),h s]
   have : (s == M.strAt l k) = false:=by simpa using e
   rw [this,Bool.or_false]
theorem once_mono (l : List ByteArray) (k n : Nat) (h : M.onceTo l k = false) (hk : k <= n) : M.onceTo l n = false:=by
 induction n with
 | zero => obtain rfl : k = 0 := by omega
           exact h
 | succ n ih =>
  rcases Nat.lt_or_ge n k with g | g
  · obtain rfl : k = n + 1:=by omega
    exact h
  · simp only [M.onceTo]
    rw [ih g];rfl
set_option maxHeartbeats 2000000 in
theorem twice_any (l : List ByteArray) (ao : Option Addr) (cap : Nat) (w : World) (h : M.HasBy M.LieS w ao l) (hn : M.Short l.length) (hf : ∀ k,k < l.length -> M.Short (M.strAt l k).size) :
  Calls Tryz.prog 179 #[.slice ao l.length cap] w fun e w'=>e = .returned (.bool (!M.onceB l)) /\ Below w.heap.size w w':=by
 unfold M.Short at hn
 have H:=hideC h
 have F:=hideC hf
 clear h hf
 have hmm:=@run_makeMap Tryz.prog
 go_enter Tryz.func179,Tryz.ntmps179
 go_wp2
 go_loopw [9] (fun i wr=>∃ (k : Nat) (D : DataW Unit),k <= l.length /\ i = .int .i64 k /\ wr.ownsMap Tryz.prog 9 (plainElem Tryz.prog 3) w.heap.size k D /\ Cnt l k D /\ M.onceTo l k = true /\ Below w.heap.size w wr) (fun i _=>l.length - (intOf i).toNat)
 case atStart=>exact ⟨0,.map [],Nat.zero_le _,rfl,World.ownsMap_made _ _ _ _,cnt_zero l,rfl,(Below.refl _ _).alloc (Nat.le_refl _) _⟩
 case round =>
  obtain ⟨k,D,hk,rfl,hown,hcnt,honce,hb⟩:=hrel
  have HO:=hideC honce
  have HC:=hideC hcnt
  have HB:=hideC hb
  have HW:=hideC hown
  clear honce hcnt
  by_cases hlt : k < l.length
  · obtain ⟨b,off,hao,hbl,hl⟩:=H.out (by omega)
    subst hao
    have hli : (k : Int) < (l.length : Int):=by omega
    have c0:=M.lieS hb hbl hl k hlt
    have fs:=F.out k hlt
    have HCS:=hideC (cnt_step hlt hown.isMap HC.out)
    have HN : Hid (M.onceTo l (k + 1) = !(l.take k).contains (M.strAt l k)):=by show (M.onceTo l k && _) = _;rw [HO.out];rfl
    have hcx:=HC.out (M.strAt l k)
    obtain ⟨s,hs⟩ : ∃ s,s = M.strAt l k:=⟨_,rfl⟩
    rw [<- hs] at c0 fs HCS HN hcx
    clear hs hb hl
    have hkey:=keyS_ok fs
    obtain ⟨c,hrun,hat,_⟩:=hown.lookup_int law Tryz.underlying272 Tryz.underlying3 (zero3 _) hkey
    rw [hcx] at hat
    have hkm : k < maxLen:=by unfold maxLen;omega
    cases hc : (l.take k).contains s
    · rw [hc] at hat HN
      have e : c = 0:=by injection hat with hat;injection hat with _ hat;exact hat.symm
      subst e
      clear hat hcx
      go_wp2_with (first | (at_mapUpdate;refine wpList_mapUpdate_own _ rfl _ _ _ 272 rfl 9 3 law Tryz.underlying272 _ w.heap.size k _ rfl HW.out hkm _ _ _ rfl rfl hkey _ [] (plainElem_int Tryz.underlying3 (by decide)) ?_) | go_in)
      intro w1 hown1 hgrow1
      have R2:=hideC (HB.out.grown hgrow1 HB.out.size (fun j hj=>by cases hj;exact Nat.le_refl _))
      obtain ⟨c,hrun1,hat1,_⟩:=hown1.lookup_int law Tryz.underlying272 Tryz.underlying3 (zero3 _) hkey
      rw [atKey_put_same HW.out.isMap (by trivial)] at hat1
      have e : c = 1:=by injection hat1 with hat1;injection hat1 with _ hat1;exact hat1.symm
      subst e
      have HW1:=hideC hown1
      clear hat1 hown hrun hgrow1 hown1
      go_wp2
      go_roundw
      case rel=>exact ⟨k + 1,_,by omega,by go_num,HW1.out,HCS.out,HN.out,R2.out⟩
      case measure=>simp [intOf];omega
    · rw [hc] at hat HN
      have e : c = 1:=by injection hat with hat;injection hat with _ hat;exact hat.symm
      subst e
      clear hat hcx
      have HR:=hideC (once_mono l (k + 1) l.length HN.out hlt)
      go_wp2_with (first | (at_mapUpdate;refine wpList_mapUpdate_own _ rfl _ _ _ 272 rfl 9 3 law Tryz.underlying272 _ w.heap.size k _ rfl HW.out hkm _ _ _ rfl rfl hkey _ [] (plainElem_int Tryz.underlying3 (by decide)) ?_) | go_in)
      intro w1 hown1 hgrow1
      have R2:=hideC (HB.out.grown hgrow1 HB.out.size (fun j hj=>by cases hj;exact Nat.le_refl _))
      obtain ⟨c,hrun1,hat1,_⟩:=hown1.lookup_int law Tryz.underlying272 Tryz.underlying3 (zero3 _) hkey
      rw [atKey_put_same HW.out.isMap (by trivial)] at hat1
      have e : c = 2:=by injection hat1 with hat1;injection hat1 with _ hat1;exact hat1.symm
      subst e
      clear hat1 hown hrun hgrow1 hown1
      go_wp2
      go_ret
      exact ⟨ret_bool (by unfold M.onceB;rw [HR.out];rfl),R2.out⟩
  · obtain rfl : k = l.length:=by omega
    clear hb
    go_wp2
    go_ret
    exact ⟨ret_bool (by unfold M.onceB;rw [HO.out];rfl),HB.out⟩
end W
namespace LM
open Go.RowKit Go.WideMaps Go.Maps
structure Li where
 i : M.Im
 a : M.At
def li0 : Li:=⟨⟨⟨#[]⟩,[],[],[],[],0⟩,⟨none,0,none,0,none,0,none,0⟩⟩
def liAt (l : List Li) (k : Nat) : Li:=l.getD k li0
def imgV (x : Li) : Value:=.agg (M.cellsI x.a x.i)
def LieI (w : World) (b off : Nat) (l : List Li) : Prop:=∀ k,k < l.length ->
 (w.cell? ⟨b,off + k * 6,none⟩ = some (.string (liAt l k).i.name) /\ w.cell? ⟨b,off + k * 6 + 1,none⟩ = some (.slice (liAt l k).a.an (liAt l k).i.needs.length (liAt l k).a.cn) /\
  w.cell? ⟨b,off + k * 6 + 2,none⟩ = some (.slice (liAt l k).a.ag (liAt l k).i.segs.length (liAt l k).a.cg) /\ w.cell? ⟨b,off + k * 6 + 3,none⟩ = some (.slice (liAt l k).a.ay (liAt l k).i.syms.length (liAt l k).a.cy) /\
  w.cell? ⟨b,off + k * 6 + 4,none⟩ = some (.slice (liAt l k).a.ar (liAt l k).i.rels.length (liAt l k).a.cr) /\ w.cell? ⟨b,off + k * 6 + 5,none⟩ = some (.int .i64 (liAt l k).i.entry)) /\ M.HasIm w (liAt l k).a (liAt l k).i
theorem lieI {w w' : World} {b off : Nat} {l : List Li} (hb : Below w.heap.size w w') (hlt : b < w.heap.size) (h : LieI w b off l) : LieI w' b off l:=fun k hk=>by
 obtain ⟨⟨c0,c1,c2,c3,c4,c5⟩,hi⟩:=h k hk
 exact ⟨⟨(M.below_cell hb hlt).trans c0,(M.below_cell hb hlt).trans c1,(M.below_cell hb hlt).trans c2,(M.below_cell hb hlt).trans c3,(M.below_cell hb hlt).trans c4,(M.below_cell hb hlt).trans c5⟩,hi.below hb⟩
def HasI (w : World) (ao : Option Addr) (l : List Li) : Prop:=M.HasBy LieI w ao l
theorem HasI.below {w w' : World} {ao : Option Addr} {l : List Li} (h : HasI w ao l) (hb : Below w.heap.size w w') : HasI w' ao l:=M.HasBy.below (lie:=LieI) (fun hb hlt h=>lieI hb hlt h) h hb
def FitI (l : List Li) : Prop:=M.Short l.length /\ ∀ k,k < l.length -> M.Fit (liAt l k).i
def errTo (l : List Li) : Nat -> Int
 | 0=>0
 | k + 1=>if errTo l k = 0 then M.chkN (liAt l k).i else errTo l k
def namesL (l : List Li) : List ByteArray:=l.map (·.i.name)
def byErr (l : List Li) : Int:=if errTo l l.length = 0 then (if M.onceB (namesL l) then 0 else 5) else errTo l l.length
theorem errTo_stays (l : List Li) (k : Nat) (h : errTo l k ≠ 0) : ∀ n,k <= n -> errTo l n = errTo l k
 | 0, hn => by obtain rfl : k = 0 := by omega
               rfl
 | n + 1,hn=>by
  by_cases e : k = n + 1
  · subst e;rfl
  · have ih:=errTo_stays l k h n (by omega)
    simp only [errTo]
    rw [ih,if_neg h]
theorem errTo_none (l : List Li) : ∀ n,errTo l n = 0 -> ∀ k,k < n -> M.chkN (liAt l k).i = 0
 | 0,_,k,hk=>by omega
 | n + 1,h,k,hk=>by
  simp only [errTo] at h
  by_cases e0 : errTo l n = 0
  · rw [if_pos e0] at h
    by_cases e : k = n
    · subst e;exact h
    · exact errTo_none l n e0 k (by omega)
  · rw [if_neg e0] at h
    exact (e0 h).elim
theorem namesL_at (l : List Li) (k : Nat) (hk : k < l.length) : M.strAt (namesL l) k = (liAt l k).i.name:=by
 unfold M.strAt namesL liAt
 rw [List.getD_eq_getElem?_getD,List.getD_eq_getElem?_getD,List.getElem?_map,List.getElem?_eq_getElem hk]
 rfl
theorem namesL_length (l : List Li) : (namesL l).length = l.length:=by simp [namesL]
def Rv (v : Value) : Option (DataW Value × List MemPlace):=some (.held v,[])
def zImg : Value:=.agg #[.string ⟨#[]⟩,.slice none 0 0,.slice none 0 0,.slice none 0 0,.slice none 0 0,.int .i64 0]
structure Nm (l : List Li) (k : Nat) (D : DataW Value) : Prop where
 has : ∀ s,Maps.has D (W.keyS s) = ((namesL l).take k).contains s
 at_ : M.onceTo (namesL l) k = true -> ∀ j,j < k -> D.atKey (W.keyS (liAt l j).i.name) (.held zImg) = .held (imgV (liAt l j))
 le : Maps.size D <= k
 all : Maps.size D = k ↔ M.onceTo (namesL l) k = true
theorem nm_zero (l : List Li) : Nm l 0 (.map []):=⟨fun s=>by simp [Maps.has],fun _ j hj=>by omega,by simp [Maps.size],by simp [Maps.size,M.onceTo]⟩
theorem name_in (l : List Li) (k j : Nat) (hj : j < k) (hk : k <= l.length) : ((namesL l).take k).contains (liAt l j).i.name = true:=by
 have h1 : j < ((namesL l).take k).length:=by rw [List.length_take,namesL_length];omega
 have h2 : ((namesL l).take k)[j] = (liAt l j).i.name:=by
  rw [List.getElem_take]
  have h3 : j < (namesL l).length:=by rw [namesL_length];omega
  have:=namesL_at l j (by omega)
  unfold M.strAt at this
  rw [List.getD_eq_getElem?_getD,List.getElem?_eq_getElem h3] at this
  exact this
 rw [<- h2]
 exact List.contains_iff_mem.2 (List.getElem_mem h1)
theorem nm_step {l : List Li} {k : Nat} {D : DataW Value} (hk : k < l.length) (hD : IsMap D) (hT : Maps.Tidy D) (h : Nm l k D) : Nm l (k + 1) (D.put (W.keyS (liAt l k).i.name) (.held (imgV (liAt l k)))):=by
 have hc:=fun s=>W.contains_step (namesL l) k (by rw [namesL_length];exact hk) s
 have hat:=namesL_at l k hk
 have hon : M.onceTo (namesL l) (k + 1) = (M.onceTo (namesL l) k && !((namesL l).take k).contains (liAt l k).i.name):=by simp only [M.onceTo];rw [hat]
 have hsz:=Maps.size_put (k:=W.keyS (liAt l k).i.name) hT (.held (imgV (liAt l k)))
 rw [h.has] at hsz
 refine ⟨fun s=>?_,fun ho j hj=>?_,?_,?_⟩
 · rw [hc s,hat]
   by_cases e : s = (liAt l k).i.name
   · subst e
     rw [Maps.has_put_same hD (by trivial)]
     simp
   · rw [Maps.has_put_other (fun g=>e (W.keyS_inj g)),h.has]
     have : (s == (liAt l k).i.name) = false:=by simpa using e
     rw [this,Bool.or_false]
 · rw [hon] at ho
   simp only [Bool.and_eq_true,Bool.not_eq_true'] at ho
   by_cases e : j = k
   · subst e
     exact atKey_put_same hD (by trivial) _ _
   · have hin:=name_in l k j (by omega) (by omega)
     rw [atKey_put_other (fun g=>by
      have:=W.keyS_inj g
      rw [this] at hin
      rw [ho.2] at hin
      cases hin)]
     exact h.at_ ho.1 j (by omega)
 · have:=h.le
   split at hsz <;> omega
 · rw [hon]
   have h1:=h.le
   have h2:=h.all
   cases hcn : ((namesL l).take k).contains (liAt l k).i.name
   · rw [hcn] at hsz
     simp only [Bool.false_eq_true,if_false] at hsz
     rw [hsz]
     simp only [Bool.not_false,Bool.and_true]
     rw [<- h2]
     omega
   · rw [hcn] at hsz
     simp only [if_true] at hsz
     rw [hsz]
     simp only [Bool.not_true,Bool.and_false,Bool.false_eq_true,iff_false]
     omega
end LM
namespace W
open Go.RowKit
end W
namespace LW
open Go.RowKit Go.WideMaps Go.Maps
open W (hideC)
def OutB (l : List LM.Li) (w : World) (e : Ending) (w' : World) : Prop:=Below w.heap.size w w' /\
 if LM.byErr l = 0 then ∃ m D,e = .returned (.tuple #[.map (some m),.int .i64 0]) /\ w'.ownsMap Tryz.prog 9 LM.Rv m l.length D /\ LM.Nm l l.length D
 else e = .returned (.tuple #[.map none,.int .i64 (LM.byErr l)])
end LW
namespace LW
open Go.RowKit
open W (hideC)
end LW
namespace LM
open Go.RowKit
def ixOf (all : List Li) (s : ByteArray) : Option Nat:=all.findIdx? (fun x=>decide (x.i.name = s))
def addIx (ix : List Nat) (j : Nat) : List Nat:=if ix.contains j then ix else ix ++ [j]
def ordTo (all : List Li) (ix : List Nat) (needs : List ByteArray) : Nat -> Option (List Nat)
 | 0=>some ix
 | k + 1=>match ordTo all ix needs k with
  | none=>none
  | some ix'=>match ixOf all (M.strAt needs k) with
   | none=>none
   | some j=>some (addIx ix' j)
def needsAt (all : List Li) (ix : List Nat) (n : Nat) : List ByteArray:=(liAt all (ix.getD n 0)).i.needs
def gat (all : List Li) : Nat -> Nat -> List Nat -> Option (List Nat)
 | 0,_,ix=>some ix
 | f + 1,n,ix=>if n < ix.length then (match ordTo all ix (needsAt all ix n) (needsAt all ix n).length with
  | none=>none
  | some ix'=>gat all f (n + 1) ix') else some ix
structure OkIx (all : List Li) (ix : List Nat) : Prop where
 pos : 0 < ix.length
 nodup : ix.Nodup
 lt : ∀ j ∈ ix,j < all.length
theorem pigeon : ∀ (L : Nat) (ix : List Nat),ix.Nodup -> (∀ j ∈ ix,j < L) -> ix.length <= L
 | 0,ix,_,h=>by
  cases ix with
  | nil=>exact Nat.le_refl _
  | cons x r=>exact absurd (h x List.mem_cons_self) (by omega)
 | L + 1,ix,hn,h=>by
  by_cases e : L ∈ ix
  · have h1:=pigeon L (ix.erase L) (hn.erase L) (fun j hj=>by
     have h2:=(List.Nodup.mem_erase_iff hn).1 hj
     have:=h j h2.2
     omega)
    rw [List.length_erase_of_mem e] at h1
    omega
  · have:=pigeon L ix hn (fun j hj=>by
     have h1:=h j hj
     have h2 : j ≠ L:=fun g=>e (g ▸ hj)
     omega)
    omega
theorem OkIx.le {all : List Li} {ix : List Nat} (h : OkIx all ix) : ix.length <= all.length:=pigeon _ _ h.nodup h.lt
def obsFrom (all : List Li) : Int -> List Nat -> List Ob
 | _,[]=>[]
 | b,j :: r=>⟨(liAt all j).i,(liAt all j).a,b⟩ :: obsFrom all (endO ⟨(liAt all j).i,(liAt all j).a,b⟩) r
def endFrom (all : List Li) : Int -> List Nat -> Int
 | b,[]=>b
 | b,j :: r=>endFrom all (endO ⟨(liAt all j).i,(liAt all j).a,b⟩) r
theorem obsFrom_length (all : List Li) : ∀ (ix : List Nat) (b : Int),(obsFrom all b ix).length = ix.length
 | [],_=>rfl
 | j :: r,b=>by simp only [obsFrom,List.length_cons,obsFrom_length all r]
theorem obsFrom_snoc (all : List Li) (j : Nat) : ∀ (ix : List Nat) (b : Int),obsFrom all b (ix ++ [j]) = obsFrom all b ix ++ [⟨(liAt all j).i,(liAt all j).a,endFrom all b ix⟩]
 | [],b=>rfl
 | k :: r,b=>by simp only [List.cons_append,obsFrom,endFrom,obsFrom_snoc all j r]
theorem endFrom_snoc (all : List Li) (j : Nat) : ∀ (ix : List Nat) (b : Int),endFrom all b (ix ++ [j]) = endO ⟨(liAt all j).i,(liAt all j).a,endFrom all b ix⟩
 | [],b=>rfl
 | k :: r,b=>by simp only [List.cons_append,endFrom,endFrom_snoc all j r]
theorem obsFrom_at (all : List Li) : ∀ (ix : List Nat) (b : Int) (k : Nat),k < ix.length -> (obAt (obsFrom all b ix) k).i = (liAt all (ix.getD k 0)).i /\ (obAt (obsFrom all b ix) k).a = (liAt all (ix.getD k 0)).a /\ (obAt (obsFrom all b ix) k).base = endFrom all b (ix.take k)
 | [],_,k,hk=>by simp at hk
 | j :: r,b,0,_=>⟨rfl,rfl,rfl⟩
 | j :: r,b,k + 1,hk=>by
  have:=obsFrom_at all r (endO ⟨(liAt all j).i,(liAt all j).a,b⟩) k (by simpa using hk)
  simpa [obAt,obsFrom,endFrom] using this
theorem obsFrom_last (all : List Li) (ix : List Nat) (b : Int) (h : 0 < ix.length) : endO (obAt (obsFrom all b ix) (ix.length - 1)) = endFrom all b ix:=by
 obtain ⟨r,j,rfl⟩ : ∃ r j,ix = r ++ [j]:=⟨ix.dropLast,ix.getLast (by intro e;subst e;simp at h),(List.dropLast_concat_getLast _).symm⟩
 rw [obsFrom_snoc,endFrom_snoc]
 have e : (r ++ [j]).length - 1 = (obsFrom all b r).length:=by rw [obsFrom_length];simp
 rw [e]
 unfold obAt
 rw [List.getD_eq_getElem?_getD,List.getElem?_append_right (Nat.le_refl _)]
 simp
theorem getD_mem (ix : List Nat) (k : Nat) (h : k < ix.length) : ix.getD k 0 ∈ ix:=by
 rw [List.getD_eq_getElem?_getD,List.getElem?_eq_getElem h]
 exact List.getElem_mem h
theorem endFrom_bounds (all : List Li) (hc : ∀ j,j < all.length -> M.chkN (liAt all j).i = 0) : ∀ (ix : List Nat) (b : Int),(∀ j ∈ ix,j < all.length) -> b <= endFrom all b ix /\ endFrom all b ix <= b + 255 * (ix.length : Int)
 | [],b,_=>by simp [endFrom]
 | j :: r,b,h=>by
  have hl:=last_bounds (hc j (h j List.mem_cons_self))
  have ih:=endFrom_bounds all hc r (endO ⟨(liAt all j).i,(liAt all j).a,b⟩) (fun k hk=>h k (List.mem_cons_of_mem _ hk))
  simp only [endFrom]
  have e : endO ⟨(liAt all j).i,(liAt all j).a,b⟩ = b + (lastSeg (liAt all j).i).page + (lastSeg (liAt all j).i).pages:=rfl
  rw [e] at ih ⊢
  simp only [List.length_cons]
  omega
end LM
namespace LW
open Go.RowKit Go.WideMaps Go.Maps
open W (hideC)
theorem flat_get {α : Type} (f : α -> List Value) (c : Nat) (hc : ∀ x,(f x).length = c) (d : α) : ∀ (l : List α) (i j : Nat),i < l.length -> j < c -> (l.flatMap f)[i * c + j]? = (f (l.getD i d))[j]?
 | a :: r,0,j,_,hj=>by
  rw [List.flatMap_cons,Nat.zero_mul,Nat.zero_add,List.getElem?_append_left (by rw [hc];exact hj)]
  rfl
 | a :: r,i + 1,j,hi,hj=>by
  rw [List.flatMap_cons,List.getElem?_append_right (by rw [hc,Nat.succ_mul];omega),hc,show (i + 1) * c + j - c = i * c + j by rw [Nat.succ_mul];omega]
  exact flat_get f c hc d r i j (by simpa using hi) hj
def OutG (all : List LM.Li) (R : Option (List Nat)) (w : World) (e : Ending) (w' : World) : Prop:=Below w.heap.size w w' /\ match R with
 | none=>e = .returned (.tuple #[.slice none 0 0,.bool false])
 | some ix=>LM.OkIx all ix /\ ∃ ao cap,e = .returned (.tuple #[.slice ao ix.length cap,.bool true]) /\ LM.HasO w' ao (LM.obsFrom all 1 ix)
structure Gi (all : List LM.Li) (m : Nat) (D : DataW Value) (w : World) : Prop where
 pos : 0 < all.length
 few : all.length <= 7
 chk : ∀ j,j < all.length -> M.chkN (LM.liAt all j).i = 0
 fit : ∀ j,j < all.length -> M.Fit (LM.liAt all j).i
 once : M.onceB (LM.namesL all) = true
 im : ∀ j,j < all.length -> M.HasIm w (LM.liAt all j).a (LM.liAt all j).i
 map : w.ownsMap Tryz.prog 9 LM.Rv m all.length D
 nm : LM.Nm all all.length D
theorem row_grown {w w' : World} {base : Nat} {e : TypeId} {size : Nat} {v : Value} {n : Nat} {xs : List Value} (h : w.ownsRow base e size v n xs) (hb : Below w.heap.size w w') : w'.ownsRow base e size v n xs:=by
 refine ⟨h.1,?_⟩
 rcases h.2 with h2 | ⟨g,cap,cur,hv,hbg,hg,rest⟩
 · exact .inl h2
 · exact .inr ⟨g,cap,cur,hv,hbg,(hb.block g (B.isLt hg)).trans hg,rest⟩
end LW
namespace LM
open Go.RowKit
def zeros16 : ByteArray:=⟨(Lib.repeatL [0] 16).toArray⟩
theorem zeros16_size : zeros16.size = 16:=rfl
def pageN (s : M.Sg) (n : Nat) : ByteArray:=CL.over zeros16 0 (s.data.extract (min (n * 16) s.data.size) (min (min (n * 16) s.data.size + 16) s.data.size))
theorem extract_size (s : ByteArray) (a b : Nat) (h1 : a <= b) (h2 : b <= s.size) : (s.extract a b).size = b - a:=by
 rw [ByteArray.size_extract]
 omega
structure Pt where
 pos : Int
 bytes : ByteArray
def pt0 : Pt:=⟨0,⟨#[]⟩⟩
def ptAt (l : List Pt) (k : Nat) : Pt:=l.getD k pt0
def LieP (w : World) (b off : Nat) (l : List Pt) : Prop:=∀ i,i < l.length -> w.cell? ⟨b,off + i * 2,none⟩ = some (.int .i64 (ptAt l i).pos) /\ w.cell? ⟨b,off + i * 2 + 1,none⟩ = some (.string (ptAt l i).bytes)
theorem lieP {w w' : World} {b off : Nat} {l : List Pt} (hb : Below w.heap.size w w') (hlt : b < w.heap.size) (h : LieP w b off l) : LieP w' b off l:=fun i hi=>by
 obtain ⟨c0,c1⟩:=h i hi
 exact ⟨(M.below_cell hb hlt).trans c0,(M.below_cell hb hlt).trans c1⟩
def HasP (w : World) (ao : Option Addr) (l : List Pt) : Prop:=M.HasBy LieP w ao l
theorem HasP.below {w w' : World} {ao : Option Addr} {l : List Pt} (h : HasP w ao l) (hb : Below w.heap.size w w') : HasP w' ao l:=M.HasBy.below (lie:=LieP) (fun hb hlt h=>lieP hb hlt h) h hb
def cellP (p : Pt) : List Value:=[.int .i64 p.pos,.string p.bytes]
def cellF (f : Fx) : List Value:=[.int .i64 f.off,.string f.bytes]
def FitP (p : Pt) : Prop:=0 <= p.pos /\ p.pos <= 1000000 /\ p.bytes.size = 8
def cutP (page : Int) (p : Pt) : List Fx:=if max (page * 16) p.pos < min (page * 16 + 16) (p.pos + 8) then [⟨max (page * 16) p.pos - page * 16,p.bytes.extract (max (page * 16) p.pos - p.pos).toNat (max (page * 16) p.pos - p.pos + (min (page * 16 + 16) (p.pos + 8) - max (page * 16) p.pos)).toNat⟩] else []
def fixesN (page : Int) (ps : List Pt) : List Fx:=ps.flatMap (cutP page)
theorem take_snoc {α : Type} (l : List α) (d : α) (k : Nat) (h : k < l.length) : l.take (k + 1) = l.take k ++ [l.getD k d]:=by
 rw [List.take_succ_eq_append_getElem h,List.getD_eq_getElem?_getD,List.getElem?_eq_getElem h]
 rfl
theorem cut_len (page : Int) (p : Pt) : (cutP page p).length <= 1:=by
 unfold cutP
 split <;> simp
theorem fixes_len (page : Int) : ∀ ps : List Pt,(fixesN page ps).length <= ps.length
 | []=>by simp [fixesN]
 | p :: r=>by
  have h1:=fixes_len page r
  have h2:=cut_len page p
  unfold fixesN at h1 ⊢
  rw [List.flatMap_cons,List.length_append,List.length_cons]
  omega
theorem fixesN_snoc (page : Int) (l : List Pt) (p : Pt) : fixesN page (l ++ [p]) = fixesN page l ++ cutP page p:=by
 unfold fixesN
 rw [List.flatMap_append]
 simp
end LM
namespace AW
open Go.RowKit
set_option maxHeartbeats 2000000 in
theorem turn_map_own (l : List AM.Ar) (v : Value) (page pages q : Int) (P : Nat) (w : World) (h : Has w v l) (hf : AllFit l) (hp : -9223372036854775808 <= page /\ page <= 9223372036854775807) (hn : -9223372036854775808 <= pages /\ pages <= 9223372036854775807) (hP : w.cell? ⟨P,0,none⟩ = some (.int .i64 q)) :
  Calls Tryz.prog 121 #[v,.int .i64 page,.int .i64 pages,.int .i64 q,.func (.func 122) #[] #[.pointer (some ⟨P,0,none⟩)]] w fun e w'=>∃ r,e = .returned (.tuple #[r,.int .i64 (AM.turnN l page pages q (howMap q)).2]) /\ Own w.heap.size w' r (AM.turnN l page pages q (howMap q)).1 /\ Below w.heap.size w w':=by
 by_cases hc : AM.checkN l = 0
 · by_cases hpp : AM.pagesB page pages = true
   · by_cases hqq : AM.protB q = true
     · have HT : Hid (AM.turnN l page pages q (howMap q) = if AM.errFrom (AM.spreadN l) (howMap q) page.toNat pages.toNat = 0 then (AM.gatherN (AM.turned (AM.spreadN l) (howMap q) page (page + pages)),0) else ([],AM.errFrom (AM.spreadN l) (howMap q) page.toNat pages.toNat)):=by
        show _ = _;simp [AM.turnN,hc,hpp,hqq]
       have hpb:=(AM.pagesB_iff page pages).1 hpp
       obtain ⟨Z,hZ⟩ : ∃ Z,Z = AM.cellsL (fun _=>AM.off):=⟨_,rfl⟩
       have hz:=zv56
       rw [<- hZ] at hz
       have hZs : Z.size = 768:=by rw [hZ];exact AM.cellsL_size _
       clear hZ
       go_enter Tryz.func121,Tryz.ntmps121
       go_wp2_with fail
       refine (check_any l v _ h hf).mono ?_
       rintro e w1 ⟨rfl,hb1⟩
       rw [hc]
       have HC : Hid (AM.checkN l = 0):=hc
       clear hc
       go_wp2_with fail
       refine (rightPages_any _ _ _ hp hn).mono ?_
       rintro e w' ⟨rfl,rfl⟩
       go_wp2_with fail
       refine (rightProt_any _ _).mono ?_
       rintro e w' ⟨rfl,rfl⟩
       go_wp2_with fail
       refine (spread_any l v _ (h.below hb1) HC.out).mono ?_
       rintro e w2 ⟨rfl,hb2⟩
       have HB2 : Hid (Below w.heap.size w w2):=hb1.trans (hb2.mono hb1.size)
       obtain ⟨F,hF⟩ : ∃ F,F = AM.spreadN l:=⟨_,rfl⟩
       rw [<- hF] at HT ⊢
       obtain ⟨C,hC⟩ : ∃ C,C = AM.cellsL F:=⟨_,rfl⟩
       have hCs : C.size = 768:=by rw [hC];exact AM.cellsL_size _
       have HCF : Hid (C = AM.cellsL F):=hC
       rw [<- hC]
       clear hb1 hb2 hF hC hpp hqq
       have hn2 : Hid ((w2.alloc (.cells Z 215)).heap[w2.heap.size]? = some (.cells Z 215 (0,0))):=B.new w2 Z 215
       go_wp2_with (refine wpList_store_row rfl 215 _ _ rfl w2.heap.size C rfl rfl 215 Z hn2.out (by rw [hCs];exact size56) (by rw [hZs,hCs]) (by rw [HCF.out];exact AM.cellsL_one _) ?_)
       have HA0 : Hid (((w2.alloc (.cells Z 215)).setRow w2.heap.size C).heap[w2.heap.size]? = some (.cells C 215 (0,0))):=setRow_heap _ _ _ _ 215 (0,0) hn2.out
       have HB3 : Hid (Below w.heap.size w ((w2.alloc (.cells Z 215)).setRow w2.heap.size C)):=below_setRow (HB2.out.alloc HB2.out.size _) HB2.out.size _
       have hsz2:=HB2.out.size
       go_loopw [14] (fun t wr=>∃ n : Nat,page <= (n : Int) /\ (n : Int) <= page + pages /\ t = .int .i64 n /\ (∀ k : Nat,page.toNat <= k -> k < n -> ((howMap q) (F k)).2 = 0) /\ wr.heap[w2.heap.size]? = some (.cells (AM.cellsL (AM.turned F (howMap q) page n)) 215 (0,0)) /\ Below w.heap.size w wr) (fun t _=>(page + pages - intOf t).toNat)
       case atStart =>
        refine ⟨page.toNat,by omega,by omega,by rw [Int.toNat_of_nonneg (by omega)],fun k h1 h2=>by omega,?_,HB3.out⟩
        rw [Int.toNat_of_nonneg (by omega),AM.turned_begin,<- HCF.out]
        exact HA0.out
       case round =>
        obtain ⟨n,hn1,hn3,rfl,hno,hA,hb⟩:=hrel
        have HN : Hid (∀ k : Nat,page.toNat <= k -> k < n -> ((howMap q) (F k)).2 = 0):=hno
        have HA : Hid (wr.heap[w2.heap.size]? = some (.cells (AM.cellsL (AM.turned F (howMap q) page n)) 215 (0,0))):=hA
        have HB : Hid (Below w.heap.size w wr):=hb
        have hAl : w2.heap.size < wr.heap.size:=B.isLt hA
        have hPw : wr.cell? ⟨P,0,none⟩ = some (.int .i64 q):=(hb.cell (p:=⟨P,0,none⟩) (World.block_lt_of_cell? w _ hP)).trans hP
        by_cases hin : (n : Int) < page + pages
        · have z0:=B.cell hA (n * 3) (AM.cellsL_get0 _ n (by omega))
          have z1:=B.cell hA (n * 3 + 1) (AM.cellsL_get1 _ n (by omega))
          have z2:=B.cell hA (n * 3 + 2) (AM.cellsL_get2 _ n (by omega))
          rw [AM.turned_at] at z0 z1 z2
          have hn256 : (n : Int) < 256:=by omega
          clear hno hA hb
          obtain ⟨s,hs⟩ : ∃ s,s = F n:=⟨_,rfl⟩
          rw [<- hs] at z0 z1 z2
          have HS : Hid (s = F n):=hs
          clear hs
          go_wp2_with fail
          refine (map1_any s q P _ hPw).mono ?_
          rintro e w3 ⟨rfl,hb3⟩
          have bA:=B.below HA.out hb3 hAl
          have y0:=B.cell bA (n * 3) (AM.cellsL_get0 _ n (by omega))
          have y1:=B.cell bA (n * 3 + 1) (AM.cellsL_get1 _ n (by omega))
          have y2:=B.cell bA (n * 3 + 2) (AM.cellsL_get2 _ n (by omega))
          have yf:=B.free bA
          have HA3 : Hid (w3.heap[w2.heap.size]? = some (.cells (AM.cellsL (AM.turned F (howMap q) page n)) 215 (0,0))):=bA
          have HBB : Hid (Below w.heap.size w w3):=HB.out.trans (hb3.mono HB.out.size)
          have hsz3 : w2.heap.size < w3.heap.size:=B.isLt bA
          clear bA hb3 z0 z1 z2
          obtain ⟨r,hr⟩ : ∃ r,r = (howMap q) s:=⟨_,rfl⟩
          rw [<- hr]
          have HR : Hid (r = (howMap q) s):=hr
          clear hr
          unfold aggSt
          by_cases he : r.2 = 0
          · have he' : (r.2 != 0) = false:=by simp [he]
            have HE : Hid (r.2 = 0):=he
            clear he
            go_wp2
            go_roundw
            case rel =>
             have hset:=B.set (B.set (B.set HA3.out (n * 3) (.bool r.1.m)) (n * 3 + 1) (.int .i64 r.1.p)) (n * 3 + 2) (.bool r.1.z)
             have est:=AM.turned_step F (howMap q) page n hn1
             rw [<- HS.out,<- HR.out] at est
             rw [AM.cellsL_set (AM.turned F (howMap q) page n) n r.1 (by omega),est] at hset
             refine ⟨n + 1,by omega,by omega,by go_num,fun k h1 h2=>if e : k = n then by rw [e,<- HS.out,<- HR.out];exact HE.out else HN.out k h1 (by omega),?_,?_⟩
             · rw [show ((n + 1 : Nat) : Int) = (n : Int) + 1 from by omega]
               exact B.alloc hset _
             · have hb4:=((HBB.out.setCell (p:=⟨w2.heap.size,n * 3,none⟩) hsz2 (.bool r.1.m)).setCell (p:=⟨w2.heap.size,n * 3 + 1,none⟩) hsz2 (.int .i64 r.1.p)).setCell (p:=⟨w2.heap.size,n * 3 + 2,none⟩) hsz2 (.bool r.1.z)
               exact hb4.alloc hb4.size _
            case measure=>simp [intOf];omega
          · have he' : (r.2 != 0) = true:=by simpa using he
            have HE : Hid (r.2 ≠ 0):=he
            clear he
            have ht : Hid (AM.turnN l page pages q (howMap q) = ([],r.2)):=by
             have herr : AM.errFrom F (howMap q) page.toNat pages.toNat = r.2:=by
              rw [HR.out,HS.out]
              exact AM.errFrom_at F (howMap q) _ _ n (by omega) (by omega) HN.out (by rw [<- HS.out,<- HR.out];exact HE.out)
             show _ = _
             rw [HT.out,herr,if_neg HE.out]
            go_wp2
            go_ret2
            exact ⟨.slice none 0 0,by rw [ht.out];rfl,by rw [ht.out];exact Own.nil _ _,HBB.out.alloc HBB.out.size _⟩
        · have hend : Hid ((n : Int) = page + pages):=by show _ = _;omega
          have ht : Hid (AM.turnN l page pages q (howMap q) = (AM.gatherN (AM.turned F (howMap q) page n),0)):=by
           have herr : AM.errFrom F (howMap q) page.toNat pages.toNat = 0:=AM.errFrom_zero F (howMap q) _ _ (fun k h1 h2=>HN.out k h1 (by have:=hend.out;omega))
           show _ = _
           rw [HT.out,herr,if_pos rfl,hend.out]
          clear hno hA hb
          go_wp2_with (refine wpList_load_row rfl 215 _ rfl w2.heap.size rfl 215 _ (0,0) _ HA.out Tryz.underlying215 rfl (by rw [AM.cellsL_size];exact size56) ?_)
          refine (gather_own _ _).mono ?_
          rintro e w4 ⟨r,rfl,hr,hb4⟩
          go_wp2
          go_ret2
          exact ⟨r,by rw [ht.out];rfl,by rw [ht.out];exact hr.mono HB.out.size,HB.out.trans (hb4.mono HB.out.size)⟩
     · have hqq' : AM.protB q = false:=by simpa using hqq
       have HT : Hid (AM.turnN l page pages q (howMap q) = ([],3)):=by show _ = _;simp [AM.turnN,hc,hpp,hqq']
       clear hqq
       go_enter Tryz.func121,Tryz.ntmps121
       go_wp2_with fail
       refine (check_any l v _ h hf).mono ?_
       rintro e w1 ⟨rfl,hb1⟩
       rw [hc]
       clear hc
       go_wp2_with fail
       refine (rightPages_any _ _ _ hp hn).mono ?_
       rintro e w' ⟨rfl,rfl⟩
       go_wp2_with fail
       refine (rightProt_any _ _).mono ?_
       rintro e w' ⟨rfl,rfl⟩
       go_wp2
       go_ret2
       exact ⟨.slice none 0 0,by rw [HT.out];rfl,by rw [HT.out];exact Own.nil _ _,hb1⟩
   · have hpp' : AM.pagesB page pages = false:=by simpa using hpp
     have HT : Hid (AM.turnN l page pages q (howMap q) = ([],3)):=by show _ = _;simp [AM.turnN,hc,hpp']
     clear hpp
     go_enter Tryz.func121,Tryz.ntmps121
     go_wp2_with fail
     refine (check_any l v _ h hf).mono ?_
     rintro e w1 ⟨rfl,hb1⟩
     rw [hc]
     clear hc
     go_wp2_with fail
     refine (rightPages_any _ _ _ hp hn).mono ?_
     rintro e w' ⟨rfl,rfl⟩
     go_wp2
     go_ret2
     exact ⟨.slice none 0 0,by rw [HT.out];rfl,by rw [HT.out];exact Own.nil _ _,hb1⟩
 · have HT : Hid (AM.turnN l page pages q (howMap q) = ([],AM.checkN l)):=by show _ = _;simp [AM.turnN,hc]
   have hc' : (AM.checkN l != 0) = true:=by simpa using hc
   go_enter Tryz.func121,Tryz.ntmps121
   go_wp2_with fail
   refine (check_any l v _ h hf).mono ?_
   rintro e w1 ⟨rfl,hb1⟩
   go_wp2
   go_ret2
   exact ⟨.slice none 0 0,by rw [HT.out];rfl,by rw [HT.out];exact Own.nil _ _,hb1⟩
def mapN (l : List AM.Ar) (page pages q : Int) : List AM.Ar × Int:=AM.turnN l page pages q (howMap q)
def I64 (n : Int) : Prop:=-9223372036854775808 <= n /\ n <= 9223372036854775807
set_option maxHeartbeats 400000 in
theorem map_own (l : List AM.Ar) (v : Value) (page pages q : Int) (w : World) (h : Has w v l) (hf : AllFit l) (hp : I64 page) (hn : I64 pages) :
  Calls Tryz.prog 74 #[v,.int .i64 page,.int .i64 pages,.int .i64 q] w fun e w'=>∃ r,e = .returned (.tuple #[r,.int .i64 (mapN l page pages q).2]) /\ Own w.heap.size w' r (mapN l page pages q).1 /\ Below w.heap.size w w':=by
 have hb0 : Below w.heap.size w (w.alloc (.cells #[.int .i64 q] 3)):=(Below.refl _ _).alloc (Nat.le_refl _) _
 have hP:=B.cell (B.new w #[.int .i64 q] 3) 0 rfl
 have H:=h.below hb0
 have HP : Hid ((w.alloc (.cells #[.int .i64 q] 3)).cell? ⟨w.heap.size,0,none⟩ = some (.int .i64 q)):=hP
 clear hP
 go_enter Tryz.func74,Tryz.ntmps74
 go_wp2_with fail
 refine (turn_map_own l v page pages q w.heap.size _ H hf hp hn HP.out).mono ?_
 rintro e w1 ⟨r,rfl,hr,hb1⟩
 go_wp2
 go_ret2
 exact ⟨r,rfl,hr.mono hb0.size,hb0.trans (hb1.mono hb0.size)⟩
theorem fit_all {l : List AM.Ar} (h : ∀ a ∈ l,AM.Fits a) (hn : l.length <= 140737488351232) : AllFit l:=by
 refine ⟨fun i hi=>?_,hn⟩
 have e : AM.at_ l i = l[i]:=by simp [AM.at_,hi]
 rw [e]
 exact h _ (List.getElem_mem hi)
theorem fit_nil : AllFit []:=fit_all (fun a h=>by simp at h) (by simp)
end AW
end Go.Proofs.YtpgifpeohlllfaaGreat
