import Derived.WalkKit
import Derived.Below
import Derived.Lib.Strings
import Derived.Test.YtkdigjpejnebkaaGreatGS07
import Derived.Test.YtkdigjpejnebkaaGreatGS02
import Derived.Test.YtkdigjpejnebkaaGreatGS04
set_option linter.unusedVariables false
set_option maxRecDepth 100000
set_option linter.unusedSimpArgs false
namespace Go.Proofs.YtkdigjpejnebkaaGreat
namespace M
open Go.RowKit
structure Sg where
 page : Int
 pages : Int
 data : ByteArray
 wr : Bool
 ex : Bool
structure Sy where
 name : ByteArray
 pos : Int
structure Rl where
 pos : Int
 name : ByteArray
 add : Int
structure Im where
 name : ByteArray
 needs : List ByteArray
 segs : List Sg
 syms : List Sy
 rels : List Rl
 entry : Int
def nil : ByteArray:=⟨#[]⟩
def sg0 : Sg:=⟨0,0,nil,false,false⟩
def sy0 : Sy:=⟨nil,0⟩
def rl0 : Rl:=⟨0,nil,0⟩
def strAt (l : List ByteArray) (i : Nat) : ByteArray:=l.getD i nil
def sgAt (l : List Sg) (i : Nat) : Sg:=l.getD i sg0
def syAt (l : List Sy) (i : Nat) : Sy:=l.getD i sy0
def rlAt (l : List Rl) (i : Nat) : Rl:=l.getD i rl0
theorem all_true {α : Type} (p : α -> Bool) (d : α) : ∀ l : List α,(∀ i,i < l.length -> p (l.getD i d) = true) -> l.all p = true
 | [],_=>rfl
 | a :: r,h=>by
  have h0 : p a = true:=h 0 (by simp)
  have hr:=all_true p d r (fun i hi=>h (i + 1) (by simpa using hi))
  simp [h0,hr]
theorem all_at {α : Type} (p : α -> Bool) (d : α) : ∀ (l : List α) (i : Nat),i < l.length -> l.all p = true -> p (l.getD i d) = true
 | a :: r,0,_,h=>by simp at h;simpa using h.1
 | a :: r,i + 1,hi,h=>by
  simp at h
  have:=all_at p d r i (by simpa using hi) (by simpa using h.2)
  simpa using this
theorem all_false {α : Type} (p : α -> Bool) (d : α) (l : List α) (i : Nat) (hi : i < l.length) (h : p (l.getD i d) = false) : l.all p = false:=by
 cases e : l.all p
 · rfl
 · rw [all_at p d l i hi e] at h;cases h
def signB (n : Int) : Bool:=decide (97 <= n /\ n <= 122) || (decide (48 <= n /\ n <= 57) || decide (n = 95))
def nameB (s : ByteArray) : Bool:=decide (1 <= s.size /\ s.size <= 12) && s.data.toList.all (fun c=>signB c.toNat)
theorem name_at (s : ByteArray) (k : Nat) (h : k < s.size) : s.data.toList.getD k 0 = s[k]:=by
 have h' : k < s.data.toList.length:=by rw [<- Lib.size_eq];exact h
 rw [List.getD_eq_getElem?_getD,List.getElem?_eq_getElem h']
 rfl
theorem name_yes (s : ByteArray) (h1 : 1 <= s.size) (h2 : s.size <= 12) (h : ∀ k (hk : k < s.size),signB s[k].toNat = true) : nameB s = true:=by
 unfold nameB
 rw [decide_eq_true ⟨h1,h2⟩,Bool.true_and]
 refine all_true _ 0 _ (fun i hi=>?_)
 have hi' : i < s.size:=by rw [Lib.size_eq];exact hi
 rw [name_at s i hi']
 exact h i hi'
theorem name_no (s : ByteArray) (k : Nat) (hk : k < s.size) (h : signB s[k].toNat = false) : nameB s = false:=by
 unfold nameB
 rw [all_false _ 0 s.data.toList k (by rw [<- Lib.size_eq];exact hk) (by rw [name_at s k hk];exact h),Bool.and_false]
theorem name_len (s : ByteArray) (h : ¬ (1 <= s.size /\ s.size <= 12)) : nameB s = false:=by
 unfold nameB
 rw [decide_eq_false h,Bool.false_and]
def relNameB (r : Rl) : Bool:=decide (r.name.size = 0) || nameB r.name
def namesB (i : Im) : Bool:=nameB i.name && (i.needs.all nameB && (i.syms.all (fun y=>nameB y.name) && i.rels.all relNameB))
def countsB (i : Im) : Bool:=decide (1 <= i.segs.length /\ i.segs.length <= 6 /\ i.needs.length <= 4 /\ i.syms.length <= 12 /\ i.rels.length <= 16)
def rangeB (s : Sg) : Bool:=decide (0 <= s.page /\ 1 <= s.pages /\ s.page + s.pages <= 255 /\ (s.data.size : Int) <= s.pages * 16)
def rangesB (i : Im) : Bool:=i.segs.all rangeB
def overAt (l : List Sg) (k : Nat) : Bool:=k == 0 || decide ((sgAt l (k - 1)).page + (sgAt l (k - 1)).pages <= (sgAt l k).page)
def overTo (l : List Sg) : Nat -> Bool
 | 0=>true
 | k + 1=>overTo l k && overAt l k
def apartB (l : List Sg) : Bool:=overTo l l.length
def onceTo (l : List ByteArray) : Nat -> Bool
 | 0=>true
 | k + 1=>onceTo l k && !(l.take k).contains (strAt l k)
def onceB (l : List ByteArray) : Bool:=onceTo l l.length
def thereB (i : Im) : Bool:=apartB i.segs && (onceB i.needs && onceB (i.syms.map (·.name)))
def inSeg (s : Sg) (a : Int) : Bool:=decide (s.page * 16 <= a /\ a < (s.page + s.pages) * 16)
def segIn : List Sg -> Int -> Option Sg
 | [],_=>none
 | s :: r,a=>if inSeg s a then some s else segIn r a
def placedB (l : List Sg) (a : Int) : Bool:=(segIn l a).isSome
def wholeB (l : List Sg) (a : Int) : Bool:=placedB l a && (placedB l (a + 1) && (placedB l (a + 2) && (placedB l (a + 3) && (placedB l (a + 4) && (placedB l (a + 5) && (placedB l (a + 6) && placedB l (a + 7)))))))
def relAt (i : Im) (k : Nat) : Bool:=(k == 0 || decide ((rlAt i.rels (k - 1)).pos + 8 <= (rlAt i.rels k).pos)) && wholeB i.segs (rlAt i.rels k).pos
def relsTo (i : Im) : Nat -> Bool
 | 0=>true
 | k + 1=>relsTo i k && relAt i k
def entryB (i : Im) : Bool:=match segIn i.segs i.entry with
 | some s=>s.ex && decide (i.entry % 8 = 0)
 | none=>false
def placesB (i : Im) : Bool:=i.syms.all (fun y=>placedB i.segs y.pos) && (relsTo i i.rels.length && entryB i)
def chkN (i : Im) : Int:=if !namesB i then 4 else if !countsB i then 2 else if !rangesB i then 3 else if !thereB i then 5 else if !placesB i then 6 else 0
def LieS (w : World) (b off : Nat) (l : List ByteArray) : Prop:=∀ i,i < l.length -> w.cell? ⟨b,off + i,none⟩ = some (.string (strAt l i))
def LieG (w : World) (b off : Nat) (l : List Sg) : Prop:=∀ i,i < l.length ->
 w.cell? ⟨b,off + i * 5,none⟩ = some (.int .i64 (sgAt l i).page) /\ w.cell? ⟨b,off + i * 5 + 1,none⟩ = some (.int .i64 (sgAt l i).pages) /\
 w.cell? ⟨b,off + i * 5 + 2,none⟩ = some (.string (sgAt l i).data) /\ w.cell? ⟨b,off + i * 5 + 3,none⟩ = some (.bool (sgAt l i).wr) /\ w.cell? ⟨b,off + i * 5 + 4,none⟩ = some (.bool (sgAt l i).ex)
def LieY (w : World) (b off : Nat) (l : List Sy) : Prop:=∀ i,i < l.length ->
 w.cell? ⟨b,off + i * 2,none⟩ = some (.string (syAt l i).name) /\ w.cell? ⟨b,off + i * 2 + 1,none⟩ = some (.int .i64 (syAt l i).pos)
def LieR (w : World) (b off : Nat) (l : List Rl) : Prop:=∀ i,i < l.length ->
 w.cell? ⟨b,off + i * 3,none⟩ = some (.int .i64 (rlAt l i).pos) /\ w.cell? ⟨b,off + i * 3 + 1,none⟩ = some (.string (rlAt l i).name) /\ w.cell? ⟨b,off + i * 3 + 2,none⟩ = some (.int .i64 (rlAt l i).add)
def I64 (n : Int) : Prop:=-9223372036854775808 <= n /\ n <= 9223372036854775807
def Short (n : Nat) : Prop:=n <= 140737488351232
def FitG (s : Sg) : Prop:=I64 s.page /\ I64 s.pages /\ Short s.data.size
def FitY (s : Sy) : Prop:=Short s.name.size /\ I64 s.pos
def FitR (s : Rl) : Prop:=I64 s.pos /\ Short s.name.size /\ I64 s.add
structure Fit (i : Im) : Prop where
 name : Short i.name.size
 needs : Short i.needs.length
 need : ∀ k,k < i.needs.length -> Short (strAt i.needs k).size
 segs : Short i.segs.length
 seg : ∀ k,k < i.segs.length -> FitG (sgAt i.segs k)
 syms : Short i.syms.length
 sym : ∀ k,k < i.syms.length -> FitY (syAt i.syms k)
 rels : Short i.rels.length
 rel : ∀ k,k < i.rels.length -> FitR (rlAt i.rels k)
 entry : I64 i.entry
def HasBy {α : Type} (lie : World -> Nat -> Nat -> List α -> Prop) (w : World) (ao : Option Addr) (l : List α) : Prop:=0 < l.length -> ∃ b off,ao = some ⟨b,off,none⟩ /\ b < w.heap.size /\ lie w b off l
structure At where
 an : Option Addr
 cn : Nat
 ag : Option Addr
 cg : Nat
 ay : Option Addr
 cy : Nat
 ar : Option Addr
 cr : Nat
structure HasIm (w : World) (a : At) (i : Im) : Prop where
 needs : HasBy LieS w a.an i.needs
 segs : HasBy LieG w a.ag i.segs
 syms : HasBy LieY w a.ay i.syms
 rels : HasBy LieR w a.ar i.rels
def cellsI (a : At) (i : Im) : Array Value:=#[.string i.name,.slice a.an i.needs.length a.cn,.slice a.ag i.segs.length a.cg,.slice a.ay i.syms.length a.cy,.slice a.ar i.rels.length a.cr,.int .i64 i.entry]
theorem below_cell {w w' : World} (hb : Below w.heap.size w w') {b o : Nat} (h : b < w.heap.size) : w'.cell? ⟨b,o,none⟩ = w.cell? ⟨b,o,none⟩:=hb.cell (p:=⟨b,o,none⟩) h
theorem HasBy.below {α : Type} {lie : World -> Nat -> Nat -> List α -> Prop} (hlie : ∀ {w w' : World} {b off : Nat} {l : List α},Below w.heap.size w w' -> b < w.heap.size -> lie w b off l -> lie w' b off l)
  {w w' : World} {ao : Option Addr} {l : List α} (h : HasBy lie w ao l) (hb : Below w.heap.size w w') : HasBy lie w' ao l:=fun hl=>by
 obtain ⟨b,off,e,hlt,hh⟩:=h hl
 exact ⟨b,off,e,Nat.lt_of_lt_of_le hlt hb.size,hlie hb hlt hh⟩
theorem lieS {w w' : World} {b off : Nat} {l : List ByteArray} (hb : Below w.heap.size w w') (hlt : b < w.heap.size) (h : LieS w b off l) : LieS w' b off l:=fun i hi=>(below_cell hb hlt).trans (h i hi)
theorem lieG {w w' : World} {b off : Nat} {l : List Sg} (hb : Below w.heap.size w w') (hlt : b < w.heap.size) (h : LieG w b off l) : LieG w' b off l:=fun i hi=>by
 obtain ⟨c0,c1,c2,c3,c4⟩:=h i hi
 exact ⟨(below_cell hb hlt).trans c0,(below_cell hb hlt).trans c1,(below_cell hb hlt).trans c2,(below_cell hb hlt).trans c3,(below_cell hb hlt).trans c4⟩
theorem lieY {w w' : World} {b off : Nat} {l : List Sy} (hb : Below w.heap.size w w') (hlt : b < w.heap.size) (h : LieY w b off l) : LieY w' b off l:=fun i hi=>by
 obtain ⟨c0,c1⟩:=h i hi
 exact ⟨(below_cell hb hlt).trans c0,(below_cell hb hlt).trans c1⟩
theorem lieR {w w' : World} {b off : Nat} {l : List Rl} (hb : Below w.heap.size w w') (hlt : b < w.heap.size) (h : LieR w b off l) : LieR w' b off l:=fun i hi=>by
 obtain ⟨c0,c1,c2⟩:=h i hi
 exact ⟨(below_cell hb hlt).trans c0,(below_cell hb hlt).trans c1,(below_cell hb hlt).trans c2⟩
theorem HasIm.below {w w' : World} {a : At} {i : Im} (h : HasIm w a i) (hb : Below w.heap.size w w') : HasIm w' a i :=
 ⟨HasBy.below (lie:=LieS) (fun hb hlt h=>lieS hb hlt h) h.needs hb,HasBy.below (lie:=LieG) (fun hb hlt h=>lieG hb hlt h) h.segs hb,HasBy.below (lie:=LieY) (fun hb hlt h=>lieY hb hlt h) h.syms hb,HasBy.below (lie:=LieR) (fun hb hlt h=>lieR hb hlt h) h.rels hb⟩
end M
namespace FW
open Go.RowKit
def LieP (w : World) (b off : Nat) (l : List FM.Pg) : Prop:=∀ i,i < l.length -> w.cell? ⟨b,off + i * 2,none⟩ = some (.int .i64 (FM.pgAt l i).page) /\ w.cell? ⟨b,off + i * 2 + 1,none⟩ = some (.string (FM.pgAt l i).data)
theorem lieP {w w' : World} {b off : Nat} {l : List FM.Pg} (hb : Below w.heap.size w w') (hlt : b < w.heap.size) (h : LieP w b off l) : LieP w' b off l:=fun i hi=>by
 obtain ⟨c0,c1⟩:=h i hi
 exact ⟨(M.below_cell hb hlt).trans c0,(M.below_cell hb hlt).trans c1⟩
def HasP (w : World) (ao : Option Addr) (l : List FM.Pg) : Prop:=M.HasBy LieP w ao l
theorem HasP.below {w w' : World} {ao : Option Addr} {l : List FM.Pg} (h : HasP w ao l) (hb : Below w.heap.size w w') : HasP w' ao l:=M.HasBy.below (lie:=LieP) (fun hb hlt h=>lieP hb hlt h) h hb
def LieS (w : World) (b off : Nat) (l : List FM.Sp) : Prop:=∀ i,i < l.length -> ∃ va ap cp,w.cell? ⟨b,off + i * 3,none⟩ = some (.bool (FM.spAt l i).live) /\ w.cell? ⟨b,off + i * 3 + 1,none⟩ = some va /\ w.cell? ⟨b,off + i * 3 + 2,none⟩ = some (.slice ap (FM.spAt l i).pages.length cp) /\ AW.Has w va (FM.spAt l i).areas /\ HasP w ap (FM.spAt l i).pages /\ (FM.spAt l i).pages.length <= cp
theorem lieS {w w' : World} {b off : Nat} {l : List FM.Sp} (hb : Below w.heap.size w w') (hlt : b < w.heap.size) (h : LieS w b off l) : LieS w' b off l:=fun i hi=>by
 obtain ⟨va,ap,cp,c0,c1,c2,c3,c4,c5⟩:=h i hi
 exact ⟨va,ap,cp,(M.below_cell hb hlt).trans c0,(M.below_cell hb hlt).trans c1,(M.below_cell hb hlt).trans c2,c3.below hb,c4.below hb,c5⟩
def HasS (w : World) (ao : Option Addr) (l : List FM.Sp) : Prop:=M.HasBy LieS w ao l
theorem HasS.below {w w' : World} {ao : Option Addr} {l : List FM.Sp} (h : HasS w ao l) (hb : Below w.heap.size w w') : HasS w' ao l:=M.HasBy.below (lie:=LieS) (fun hb hlt h=>lieS hb hlt h) h hb
structure FitS (s : FM.Sp) : Prop where
 areas : AW.AllFit s.areas
 pages : M.Short s.pages.length
 page : ∀ k,k < s.pages.length -> M.I64 (FM.pgAt s.pages k).page /\ M.Short (FM.pgAt s.pages k).data.size
def FitSs (l : List FM.Sp) : Prop:=M.Short l.length /\ ∀ k,k < l.length -> FitS (FM.spAt l k)
theorem total_bd (l : List AM.Ar) : 0 <= AM.totalN l /\ AM.totalN l <= 65025:=by
 unfold AM.totalN
 split
 · rename_i h
   have h1:=AM.good_len l h
   have h2:=AM.sumTo_bd l h l.length (Nat.le_refl _)
   omega
 · omega
theorem room_bd (l : List FM.Sp) : ∀ k,0 <= FM.roomTo l k /\ FM.roomTo l k <= 65025 * k
 | 0=>⟨Int.le_refl _,by show (0 : Int) <= _;omega⟩
 | k + 1=>by
  have h1:=room_bd l k
  have h2:=total_bd (FM.spAt l k).areas
  show 0 <= FM.roomTo l k + AM.totalN (FM.spAt l k).areas /\ FM.roomTo l k + AM.totalN (FM.spAt l k).areas <= _
  omega
theorem isSl {w : World} {v : Value} {l : List AM.Ar} (h : AW.Has w v l) : ∃ ao n c,v = .slice ao n c:=by
 obtain ⟨ao,cap,h,_⟩:=h
 exact ⟨ao,_,cap,h⟩
set_option maxHeartbeats 1000000 in
theorem total_any (l : List FM.Sp) (ao : Option Addr) (cap : Nat) (w : World) (h : HasS w ao l) (hf : FitSs l) (hn : l.length <= 1000000) :
  Calls Tryz.prog 74 #[.slice ao l.length cap] w fun e w'=>e = .returned (.int .i64 (FM.room l)) /\ Below w.heap.size w w':=by
 have HF:=hideC hf
 have HH:=hideC h
 have HRB:=hideC (room_bd l)
 have HRS : Hid (∀ k,FM.roomTo l (k + 1) = FM.roomTo l k + AM.totalN (FM.spAt l k).areas):=fun k=>rfl
 clear h hf
 go_enter Tryz.func74,Tryz.ntmps74
 go_wp2
 go_loopw [3,8] (fun sv iv wr=>∃ k : Nat,k <= l.length /\ iv = .int .i64 (k : Int) /\ sv = .int .i64 (FM.roomTo l k) /\ Below w.heap.size w wr) (fun _ iv _=>l.length - (intOf iv).toNat)
 case atStart=>exact ⟨0,by omega,rfl,rfl,Below.refl _ _⟩
 case round =>
  obtain ⟨k,hk,rfl,rfl,hb⟩:=hrel
  have HB:=hideC hb
  have hrb:=HRB.out k
  by_cases hlt : k < l.length
  · obtain ⟨b,off,hao,hbl,hlie⟩:=(HH.out.below hb) (by omega)
    subst hao
    obtain ⟨va,ap,cp,c0,c1,c2,c3,c4,c5⟩:=hlie k hlt
    have hfk:=HF.out.2 k hlt
    have hst:=HRS.out k
    have htb:=total_bd (FM.spAt l k).areas
    obtain ⟨aa,na,ca,rfl⟩:=isSl c3
    have HT : Hid (∀ W,Below wr.heap.size wr W -> Calls Tryz.prog 22 #[.slice aa na ca] W fun e w'=>e = .returned (.int .i64 (AM.totalN (FM.spAt l k).areas)) /\ Below W.heap.size W w'):=fun W hW=>AW.total_any _ _ _ (c3.below hW) hfk.areas
    obtain ⟨n,hnn⟩ : ∃ n,n = (FM.spAt l k).pages.length:=⟨_,rfl⟩
    obtain ⟨lv,hlv⟩ : ∃ lv,lv = (FM.spAt l k).live:=⟨_,rfl⟩
    obtain ⟨T,hT⟩ : ∃ T,T = AM.totalN (FM.spAt l k).areas:=⟨_,rfl⟩
    obtain ⟨R,hR⟩ : ∃ R,R = FM.roomTo l k:=⟨_,rfl⟩
    rw [<- hnn] at c2 c5
    rw [<- hlv] at c0
    rw [<- hT] at HT hst htb
    rw [<- hR] at hst hrb ⊢
    have HST:=hideC hst
    clear hnn hlv hT hR c3 c4 c5 hfk hlie hb hst
    have HBA:=hideC (HB.out.alloc HB.out.size (.cells #[.bool lv,.slice aa na ca,.slice ap n cp] 53))
    go_wp2_with (go_at_call 22;refine (HT.out _ ((Below.refl _ _).alloc (Nat.le_refl _) _)).mono ?_;rintro e w1 ⟨rfl,hb1⟩;have HB1:=hideC (add_below HBA.out hb1);clear hb1)
    go_roundw
    case rel=>exact ⟨k + 1,by omega,by go_num,by rw [HST.out],HB1.out⟩
    case measure=>simp [intOf];omega
  · obtain rfl : k = l.length:=by omega
    clear hb
    go_wp2
    go_ret
    exact ⟨rfl,HB.out⟩
theorem ret_bool {a b : Bool} (h : a = b) : Ending.returned (.bool a) = .returned (.bool b):=by rw [h]
theorem slice_eq {a a' : Option Addr} {n n' m m' : Nat} (h1 : a = a') (h2 : n = n') (h3 : m = m') : Value.slice a n m = .slice a' n' m':=by rw [h1,h2,h3]
set_option maxHeartbeats 3000000 in
theorem forEach_any (l : List AM.Ar) (hs : List FM.Pg) (lv : Bool) (va : Value) (ao : Option Addr) (cap : Nat) (w : World) (ha : AW.Has w va l) (hc : AM.checkN l = 0) (h : HasP w ao hs) (hz : ∀ k,k < hs.length -> M.Short (FM.pgAt hs k).data.size) (hn : hs.length <= 140737488351232) (hcap : hs.length <= cap) :
  Calls Tryz.prog 105 #[.agg #[.bool lv,va,.slice ao hs.length cap]] w fun e w'=>e = .returned (.bool (FM.eachB l hs)) /\ Below w.heap.size w w':=by
 obtain ⟨b,off,hbo⟩ : ∃ b off,0 < hs.length -> ao = some ⟨b,off,none⟩ /\ b < w.heap.size /\ LieP w b off hs:=by
  by_cases h0 : 0 < hs.length
  · obtain ⟨b,off,h1,h2,h3⟩:=h h0
    exact ⟨b,off,fun _=>⟨h1,h2,h3⟩⟩
  · exact ⟨0,0,fun g=>(h0 g).elim⟩
 have HBO:=hideC hbo
 have HC:=hideC hc
 have HZ:=hideC hz
 clear hz
 have hlen:=AM.good_len l hc
 obtain ⟨aa,ca,rfl,hal⟩:=ha
 have HAL : Hid (0 < l.length -> ∃ b off,aa = some ⟨b,off,none⟩ /\ AM.Lie w b off l):=fun g=>by
  rcases hal with rfl | ⟨b,off,e,hl⟩
  · exact (Nat.lt_irrefl 0 g).elim
  · exact ⟨b,off,e,hl⟩
 clear hbo hc h hal
 have HB:=hideC ((Below.refl w.heap.size w).alloc (Nat.le_refl _) (.cells #[.bool lv,.slice aa l.length ca,.slice ao hs.length cap] 53))
 go_enter Tryz.func105,Tryz.ntmps105
 go_wp2
 go_loopw [12,3] (fun ix v wr=>∃ (i c : Nat) (ao' : Option Addr),i <= l.length /\ ix = .int .i64 i /\ v = .slice ao' (hs.length - c) (cap - c) /\ c <= hs.length /\ (c < hs.length -> ao' = some ⟨b,off + c * 2,none⟩) /\ FM.numbers (hs.take c) = FM.pagesTo l i /\ FM.sized (hs.take c) = true /\ Below w.heap.size w wr) (fun ix _ _=>l.length - (intOf ix).toNat)
 case atStart=>exact ⟨0,0,ao,by omega,rfl,rfl,by omega,fun g=>by rw [(HBO.out g).1,Nat.zero_mul,Nat.add_zero],rfl,rfl,HB.out⟩
 case round =>
  obtain ⟨i,c,ao',hi,rfl,rfl,hcl,hao,htk,hsz,hb⟩:=hrel
  have HSZ:=hideC hsz
  clear hsz
  have HAO:=hideC hao
  have HTK:=hideC htk
  have HBr:=hideC hb
  clear hao htk
  by_cases hlt : i < l.length
  · obtain ⟨ba,offa,hae,hl⟩:=HAL.out (by omega)
    subst hae
    obtain ⟨c0,c1,c2,c3⟩:=(hl.below hb) i hlt
    have hbk:=AM.okAt_pages l i (AM.good_pages l HC.out i hlt)
    have HSP : Hid (∀ n,n < (AM.at_ l i).pages.toNat -> ∃ t,FM.pagesOf l = (FM.pagesTo l i ++ FM.run (AM.at_ l i).page n) ++ ((AM.at_ l i).page + (n : Int)) :: t):=fun n hn=>FM.pages_split l i hlt n hn
    have HNX : Hid (FM.pagesTo l (i + 1) = FM.pagesTo l i ++ FM.run (AM.at_ l i).page (AM.at_ l i).pages.toNat):=FM.pagesTo_succ l i hlt
    obtain ⟨a,hae⟩ : ∃ a,a = AM.at_ l i:=⟨_,rfl⟩
    rw [<- hae] at c0 c1 c2 c3 hbk HSP HNX
    clear hae hb
    obtain ⟨P,hP⟩ : ∃ P : Nat,a.pages = (P : Int):=⟨a.pages.toNat,by omega⟩
    rw [hP] at c1 hbk HSP HNX
    rw [Int.toNat_natCast] at HSP HNX
    have HBA:=hideC (HBr.out.alloc HBr.out.size (.cells #[.int .i64 a.page,.int .i64 (P : Int),.int .i64 a.prot,.bool a.zero] 59))
    have BA:=hideC (B.new wr #[.int .i64 a.page,.int .i64 (P : Int),.int .i64 a.prot,.bool a.zero] 59)
    go_wp2
    go_loopw [18,3] (fun nx v wi=>∃ (n c : Nat) (ao' : Option Addr),n <= P /\ nx = .int .i64 n /\ v = .slice ao' (hs.length - c) (cap - c) /\ c <= hs.length /\ (c < hs.length -> ao' = some ⟨b,off + c * 2,none⟩) /\ FM.numbers (hs.take c) = FM.pagesTo l i ++ FM.run a.page n /\ FM.sized (hs.take c) = true /\ Below w.heap.size w wi /\ wi.heap[wr.heap.size]? = some (.cells #[.int .i64 a.page,.int .i64 (P : Int),.int .i64 a.prot,.bool a.zero] 59 (0,0))) (fun nx _ _=>P - (intOf nx).toNat)
    case atStart=>exact ⟨0,c,ao',by omega,rfl,rfl,hcl,HAO.out,by rw [HTK.out];simp [FM.run],HSZ.out,HBA.out,BA.out⟩
    case round =>
     obtain ⟨n,c,ao',hn',rfl,rfl,hcl,hao,htk,hsz,hb,hba⟩:=hrel
     have HSZ:=hideC hsz
     clear hsz
     have HAO:=hideC hao
     have HTK:=hideC htk
     have HBi:=hideC hb
     have BAi:=hideC hba
     have x0:=B.cell hba 0 rfl
     clear hao htk hba
     by_cases hlp : n < P
     · obtain ⟨t,ht⟩:=HSP.out n hlp
       have HT:=hideC ht
       clear ht
       by_cases hce : c = hs.length
       · have HX : Hid (FM.eachB l hs = false):=FM.each_short (by have h:=HTK.out;rw [hce] at h;exact h) HT.out
         have hz0 : hs.length - c = 0:=by omega
         rw [hz0]
         clear hz0 hce
         go_wp2
         go_quiet (fail)
         go_wp2
         go_ret
         exact ⟨ret_bool HX.out.symm,below_drewN HBi.out _⟩
       · have hcl' : c < hs.length:=by omega
         have hcz : (((hs.length - c : Nat) : Int) == 0) = false:=by simp;omega
         have hcz2 : 0 < hs.length - c:=by omega
         obtain ⟨-,g2,g3⟩:=HBO.out (by omega)
         obtain ⟨d0,d1⟩:=(lieP (hb.mono (Nat.le_of_eq rfl)) g2 g3) c hcl'
         have hae:=HAO.out hcl'
         subst hae
         have hle1 : (1 : Int) <= ((hs.length - c : Nat) : Int):=by omega
         have hds:=HZ.out c hcl'
         unfold M.Short at hds
         by_cases hpg : (FM.pgAt hs c).page = a.page + (n : Int)
         · rw [hpg] at d0
           by_cases h16 : (FM.pgAt hs c).data.size = 16
           · have HX : Hid (FM.numbers (hs.take (c + 1)) = FM.pagesTo l i ++ FM.run a.page (n + 1)):=by
              show _ = _
              rw [FM.numbers_snoc hs c hcl',HTK.out,hpg,FM.run_succ,List.append_assoc]
             have HSX:=hideC (FM.sized_snoc hs c hcl' HSZ.out h16)
             obtain ⟨dd,hdd⟩ : ∃ dd,dd = (FM.pgAt hs c).data:=⟨_,rfl⟩
             rw [<- hdd] at d1 h16 hds
             have h16i : ((dd.size : Int) == 16) = true:=by rw [beq_iff_eq];omega
             clear hpg hb hce hdd h16
             by_cases hc1 : cap - c = 1
             · go_wp2
               go_quiet (fail)
               go_wp2
               go_roundw
               case rel=>exact ⟨n + 1,c + 1,_,by omega,by go_num,slice_eq rfl (by omega) (by omega),by omega,fun g=>by omega,HX.out,HSX.out,below_drewN HBi.out _,BAi.out⟩
               case measure=>simp [intOf];omega
             · go_wp2
               go_quiet (fail)
               go_wp2
               go_roundw
               case rel=>exact ⟨n + 1,c + 1,_,by omega,by go_num,slice_eq rfl (by omega) (by omega),by omega,fun g=>by simp [Nat.add_mul,Nat.add_assoc],HX.out,HSX.out,below_drewN HBi.out _,BAi.out⟩
               case measure=>simp [intOf];omega
           · have HX : Hid (FM.eachB l hs = false):=FM.each_size hcl' h16
             obtain ⟨dd,hdd⟩ : ∃ dd,dd = (FM.pgAt hs c).data:=⟨_,rfl⟩
             rw [<- hdd] at d1 h16 hds
             have h16i : ((dd.size : Int) == 16) = false:=by rw [beq_eq_false_iff_ne];omega
             clear hpg hb hce hdd h16
             go_wp2
             go_quiet (fail)
             go_wp2
             go_ret
             exact ⟨ret_bool HX.out.symm,below_drewN HBi.out _⟩
         · have HX : Hid (FM.eachB l hs = false):=FM.each_other hcl' HTK.out HT.out hpg
           obtain ⟨pq,hpq⟩ : ∃ pq,pq = (FM.pgAt hs c).page:=⟨_,rfl⟩
           rw [<- hpq] at d0 hpg
           have hwr : IntKind.i64.wrap (a.page + (n : Int)) = a.page + (n : Int):=IntWalk.i64_in _ (by omega)
           have hpz : (pq == a.page + (n : Int)) = false:=by rw [beq_eq_false_iff_ne];exact hpg
           have hpb : (pq != a.page + (n : Int)) = true:=by rw [bne,hpz];rfl
           clear hpq
           clear hpg d1 hb hce hds
           go_wp2
           go_quiet (fail)
           go_wp2
           go_ret
           exact ⟨ret_bool HX.out.symm,below_drewN HBi.out _⟩
     · obtain rfl : n = P:=by omega
       go_wp2
       go_roundw
       case rel=>exact ⟨i + 1,c,ao',by omega,by go_num,rfl,hcl,HAO.out,by rw [HNX.out];exact HTK.out,HSZ.out,HBi.out⟩
       case measure=>simp [intOf];omega
  · obtain rfl : i = l.length:=by omega
    have HX:=hideC (FM.each_done hcl HTK.out HSZ.out)
    go_wp2
    go_ret
    refine ⟨ret_bool ?_,HBr.out⟩
    rw [HX.out]
    rw [Bool.eq_iff_iff]
    simp
    omega
set_option maxHeartbeats 2000000 in
theorem rightSpace_any (s : FM.Sp) (va : Value) (ap : Option Addr) (cp : Nat) (w : World) (ha : AW.Has w va s.areas) (hp : HasP w ap s.pages) (hf : FitS s) (hcap : s.pages.length <= cp) :
  Calls Tryz.prog 73 #[.agg #[.bool s.live,va,.slice ap s.pages.length cp]] w fun e w'=>e = .returned (.bool (FM.rightSpace s)) /\ Below w.heap.size w w':=by
 obtain ⟨A,hA⟩ : ∃ A,A = FM.rightSpace s:=⟨_,rfl⟩
 rw [<- hA]
 rw [FM.space_each] at hA
 have HA:=hideC hA
 have HCK:=hideC (fun V (hV : Below w.heap.size w V)=>AW.check_any s.areas va V (ha.below hV) hf.areas)
 have HEA : Hid (AM.checkN s.areas = 0 -> ∀ V,Below w.heap.size w V -> Calls Tryz.prog 105 #[.agg #[.bool s.live,va,.slice ap s.pages.length cp]] V fun e w'=>e = .returned (.bool (FM.eachB s.areas s.pages)) /\ Below V.heap.size V w'):=fun hc V hV=>forEach_any s.areas s.pages s.live va ap cp V (ha.below hV) hc (hp.below hV) (fun k hk=>(hf.page k hk).2) hf.pages hcap
 have HLN : Hid (∃ ao ca,va = .slice ao s.areas.length ca):=by
  obtain ⟨ao,cap,h,_⟩:=ha
  exact ⟨ao,cap,h⟩
 obtain ⟨aa,ca,hva⟩:=HLN.out
 subst hva
 have hln:=hf.areas.2
 have hlp : s.pages.length <= 140737488351232:=hf.pages
 clear ha hp hf hA HLN hcap
 obtain ⟨na,hna⟩ : ∃ na,na = s.areas.length:=⟨_,rfl⟩
 obtain ⟨np,hnp⟩ : ∃ np,np = s.pages.length:=⟨_,rfl⟩
 obtain ⟨C,hC⟩ : ∃ C,C = AM.checkN s.areas:=⟨_,rfl⟩
 obtain ⟨E,hE⟩ : ∃ E,E = FM.eachB s.areas s.pages:=⟨_,rfl⟩
 obtain ⟨lv,hlv⟩ : ∃ lv,lv = s.live:=⟨_,rfl⟩
 rw [<- hna] at HA HCK HEA hln ⊢
 rw [<- hnp] at HA HEA hlp ⊢
 rw [<- hC] at HA HCK HEA
 rw [<- hE] at HA HEA
 rw [<- hlv] at HA HEA ⊢
 clear hna hnp hC hE hlv
 have HB:=hideC ((Below.refl w.heap.size w).alloc (Nat.le_refl _) (.cells #[.bool lv,.slice aa na ca,.slice ap np cp] 53))
 have X0:=hideC (B.new w #[.bool lv,.slice aa na ca,.slice ap np cp] 53)
 cases lv with
 | false =>
  have HA2 : Hid (A = (decide (na = 0) && decide (np = 0))):=HA
  by_cases h0 : na = 0
  · have h0i : ((na : Int) == 0) = true:=by rw [beq_iff_eq];omega
    by_cases h1 : np = 0
    · have h1i : ((np : Int) == 0) = true:=by rw [beq_iff_eq];omega
      have HA3 : Hid (A = true):=by show _ = _;rw [HA2.out,decide_eq_true h0,decide_eq_true h1];rfl
      clear HA HA2 h0 h1
      go_enter Tryz.func73,Tryz.ntmps73
      go_wp2
      go_ret
      exact ⟨ret_bool HA3.out.symm,HB.out⟩
    · have h1i : ((np : Int) == 0) = false:=by rw [beq_eq_false_iff_ne];omega
      have HA3 : Hid (A = false):=by show _ = _;rw [HA2.out,decide_eq_false h1,Bool.and_false]
      clear HA HA2 h0 h1
      go_enter Tryz.func73,Tryz.ntmps73
      go_wp2
      go_ret
      exact ⟨ret_bool HA3.out.symm,HB.out⟩
  · have h0i : ((na : Int) == 0) = false:=by rw [beq_eq_false_iff_ne];omega
    have HA3 : Hid (A = false):=by show _ = _;rw [HA2.out,decide_eq_false h0,Bool.false_and]
    clear HA HA2 h0
    go_enter Tryz.func73,Tryz.ntmps73
    go_wp2
    go_ret
    exact ⟨ret_bool HA3.out.symm,HB.out⟩
 | true =>
  have HA2 : Hid (A = (decide (C = 0) && E)):=HA
  by_cases hC : C = 0
  · subst hC
    have HA3 : Hid (A = E):=by show _ = _;rw [HA2.out,decide_eq_true rfl,Bool.true_and]
    have HEA2:=hideC (HEA.out rfl)
    clear HA HA2 HEA
    go_enter Tryz.func73,Tryz.ntmps73
    go_wp2_with (first
     | (go_at_call 61;refine (HCK.out _ HB.out).mono ?_;rintro e w1 ⟨rfl,hb1⟩;have HB1:=hideC (add_below HB.out hb1);have X1:=hideC (B.below X0.out hb1 (B.isLt X0.out));clear hb1;have x0 : w1.cell? ⟨w.heap.size,0,none⟩ = some (.bool true):=B.cell X1.out 0 rfl;have x1 : w1.cell? ⟨w.heap.size,1,none⟩ = some (.slice aa na ca):=B.cell X1.out 1 rfl;have x2 : w1.cell? ⟨w.heap.size,2,none⟩ = some (.slice ap np cp):=B.cell X1.out 2 rfl)
     | (go_at_call 105;refine (HEA2.out _ HB1.out).mono ?_;rintro e w2 ⟨rfl,hb2⟩;have HB2:=hideC (add_below HB1.out hb2);clear hb2))
    go_ret
    exact ⟨ret_bool HA3.out.symm,HB2.out⟩
  · have hCi : (C == 0) = false:=by rw [beq_eq_false_iff_ne];exact hC
    have HA3 : Hid (A = false):=by show _ = _;rw [HA2.out,decide_eq_false hC,Bool.false_and]
    clear HA HA2 HEA
    go_enter Tryz.func73,Tryz.ntmps73
    go_wp2_with (go_at_call 61;refine (HCK.out _ HB.out).mono ?_;rintro e w1 ⟨rfl,hb1⟩;have HB1:=hideC (add_below HB.out hb1);clear hb1)
    go_ret
    exact ⟨ret_bool HA3.out.symm,HB1.out⟩
end FW
end Go.Proofs.YtkdigjpejnebkaaGreat
