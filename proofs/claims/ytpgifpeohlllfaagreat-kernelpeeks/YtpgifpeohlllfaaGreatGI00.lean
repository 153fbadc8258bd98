import Derived.WalkKit
import Derived.Below
import Derived.Lib.Strings
import Derived.Lib.Endian
import Derived.Lib.EndianBits
import Derived.Laws.BytesArg
import Derived.Lib.UnsafeStr
import Derived.Lib.Walk
import Derived.Lib.BufferWrite
import Derived.Laws.IdiomStrings
import Derived.OwnWalk
set_option maxHeartbeats 20000000
set_option linter.unusedVariables false
set_option maxRecDepth 100000
set_option linter.unusedSimpArgs false
namespace Go.Proofs.YtpgifpeohlllfaaGreat
namespace M
open Go.RowKit
structure Sg where
 page : Int
 pages : Int
 data : ByteArray
 wr : Bool
 ex : Bool
structure Sy where
 name : ByteArray
 pos : Int
structure Rl where
 pos : Int
 name : ByteArray
 add : Int
structure Im where
 name : ByteArray
 needs : List ByteArray
 segs : List Sg
 syms : List Sy
 rels : List Rl
 entry : Int
def nil : ByteArray:=⟨#[]⟩
def sg0 : Sg:=⟨0,0,nil,false,false⟩
def sy0 : Sy:=⟨nil,0⟩
def rl0 : Rl:=⟨0,nil,0⟩
def strAt (l : List ByteArray) (i : Nat) : ByteArray:=l.getD i nil
def sgAt (l : List Sg) (i : Nat) : Sg:=l.getD i sg0
def syAt (l : List Sy) (i : Nat) : Sy:=l.getD i sy0
def rlAt (l : List Rl) (i : Nat) : Rl:=l.getD i rl0
theorem all_true {α : Type} (p : α -> Bool) (d : α) : ∀ l : List α,(∀ i,i < l.length -> p (l.getD i d) = true) -> l.all p = true
 | [],_=>rfl
 | a :: r,h=>by
  have h0 : p a = true:=h 0 (by simp)
  have hr:=all_true p d r (fun i hi=>h (i + 1) (by simpa using hi))
  simp [h0,hr]
theorem all_at {α : Type} (p : α -> Bool) (d : α) : ∀ (l : List α) (i : Nat),i < l.length -> l.all p = true -> p (l.getD i d) = true
 | a :: r,0,_,h=>by simp at h;simpa using h.1
 | a :: r,i + 1,hi,h=>by
  simp at h
  have:=all_at p d r i (by simpa using hi) (by simpa using h.2)
  simpa using this
theorem all_false {α : Type} (p : α -> Bool) (d : α) (l : List α) (i : Nat) (hi : i < l.length) (h : p (l.getD i d) = false) : l.all p = false:=by
 cases e : l.all p
 · rfl
 · rw [all_at p d l i hi e] at h;cases h
def signB (n : Int) : Bool:=decide (97 <= n /\ n <= 122) || (decide (48 <= n /\ n <= 57) || decide (n = 95))
def nameB (s : ByteArray) : Bool:=decide (1 <= s.size /\ s.size <= 12) && s.data.toList.all (fun c=>signB c.toNat)
theorem name_at (s : ByteArray) (k : Nat) (h : k < s.size) : s.data.toList.getD k 0 = s[k]:=by
 have h' : k < s.data.toList.length:=by rw [<- Lib.size_eq];exact h
 rw [List.getD_eq_getElem?_getD,List.getElem?_eq_getElem h']
 rfl
theorem name_yes (s : ByteArray) (h1 : 1 <= s.size) (h2 : s.size <= 12) (h : ∀ k (hk : k < s.size),signB s[k].toNat = true) : nameB s = true:=by
 unfold nameB
 rw [decide_eq_true ⟨h1,h2⟩,Bool.true_and]
 refine all_true _ 0 _ (fun i hi=>?_)
 have hi' : i < s.size:=by rw [Lib.size_eq];exact hi
 rw [name_at s i hi']
 exact h i hi'
theorem name_no (s : ByteArray) (k : Nat) (hk : k < s.size) (h : signB s[k].toNat = false) : nameB s = false:=by
 unfold nameB
 rw [all_false _ 0 s.data.toList k (by rw [<- Lib.size_eq];exact hk) (by rw [name_at s k hk];exact h),Bool.and_false]
theorem name_len (s : ByteArray) (h : ¬ (1 <= s.size /\ s.size <= 12)) : nameB s = false:=by
 unfold nameB
 rw [decide_eq_false h,Bool.false_and]
def relNameB (r : Rl) : Bool:=decide (r.name.size = 0) || nameB r.name
def namesB (i : Im) : Bool:=nameB i.name && (i.needs.all nameB && (i.syms.all (fun y=>nameB y.name) && i.rels.all relNameB))
def countsB (i : Im) : Bool:=decide (1 <= i.segs.length /\ i.segs.length <= 6 /\ i.needs.length <= 4 /\ i.syms.length <= 12 /\ i.rels.length <= 16)
def rangeB (s : Sg) : Bool:=decide (0 <= s.page /\ 1 <= s.pages /\ s.page + s.pages <= 255 /\ (s.data.size : Int) <= s.pages * 16)
def rangesB (i : Im) : Bool:=i.segs.all rangeB
def overAt (l : List Sg) (k : Nat) : Bool:=k == 0 || decide ((sgAt l (k - 1)).page + (sgAt l (k - 1)).pages <= (sgAt l k).page)
def overTo (l : List Sg) : Nat -> Bool
 | 0=>true
 | k + 1=>overTo l k && overAt l k
def apartB (l : List Sg) : Bool:=overTo l l.length
def onceTo (l : List ByteArray) : Nat -> Bool
 | 0=>true
 | k + 1=>onceTo l k && !(l.take k).contains (strAt l k)
def onceB (l : List ByteArray) : Bool:=onceTo l l.length
def thereB (i : Im) : Bool:=apartB i.segs && (onceB i.needs && onceB (i.syms.map (·.name)))
def inSeg (s : Sg) (a : Int) : Bool:=decide (s.page * 16 <= a /\ a < (s.page + s.pages) * 16)
def segIn : List Sg -> Int -> Option Sg
 | [],_=>none
 | s :: r,a=>if inSeg s a then some s else segIn r a
def placedB (l : List Sg) (a : Int) : Bool:=(segIn l a).isSome
def wholeB (l : List Sg) (a : Int) : Bool:=placedB l a && (placedB l (a + 1) && (placedB l (a + 2) && (placedB l (a + 3) && (placedB l (a + 4) && (placedB l (a + 5) && (placedB l (a + 6) && placedB l (a + 7)))))))
def relAt (i : Im) (k : Nat) : Bool:=(k == 0 || decide ((rlAt i.rels (k - 1)).pos + 8 <= (rlAt i.rels k).pos)) && wholeB i.segs (rlAt i.rels k).pos
def relsTo (i : Im) : Nat -> Bool
 | 0=>true
 | k + 1=>relsTo i k && relAt i k
def entryB (i : Im) : Bool:=match segIn i.segs i.entry with
 | some s=>s.ex && decide (i.entry % 8 = 0)
 | none=>false
def placesB (i : Im) : Bool:=i.syms.all (fun y=>placedB i.segs y.pos) && (relsTo i i.rels.length && entryB i)
def chkN (i : Im) : Int:=if !namesB i then 4 else if !countsB i then 2 else if !rangesB i then 3 else if !thereB i then 5 else if !placesB i then 6 else 0
def LieS (w : World) (b off : Nat) (l : List ByteArray) : Prop:=∀ i,i < l.length -> w.cell? ⟨b,off + i,none⟩ = some (.string (strAt l i))
def LieG (w : World) (b off : Nat) (l : List Sg) : Prop:=∀ i,i < l.length ->
 w.cell? ⟨b,off + i * 5,none⟩ = some (.int .i64 (sgAt l i).page) /\ w.cell? ⟨b,off + i * 5 + 1,none⟩ = some (.int .i64 (sgAt l i).pages) /\
 w.cell? ⟨b,off + i * 5 + 2,none⟩ = some (.string (sgAt l i).data) /\ w.cell? ⟨b,off + i * 5 + 3,none⟩ = some (.bool (sgAt l i).wr) /\ w.cell? ⟨b,off + i * 5 + 4,none⟩ = some (.bool (sgAt l i).ex)
def LieY (w : World) (b off : Nat) (l : List Sy) : Prop:=∀ i,i < l.length ->
 w.cell? ⟨b,off + i * 2,none⟩ = some (.string (syAt l i).name) /\ w.cell? ⟨b,off + i * 2 + 1,none⟩ = some (.int .i64 (syAt l i).pos)
def LieR (w : World) (b off : Nat) (l : List Rl) : Prop:=∀ i,i < l.length ->
 w.cell? ⟨b,off + i * 3,none⟩ = some (.int .i64 (rlAt l i).pos) /\ w.cell? ⟨b,off + i * 3 + 1,none⟩ = some (.string (rlAt l i).name) /\ w.cell? ⟨b,off + i * 3 + 2,none⟩ = some (.int .i64 (rlAt l i).add)
def I64 (n : Int) : Prop:=-9223372036854775808 <= n /\ n <= 9223372036854775807
def Short (n : Nat) : Prop:=n <= 140737488351232
def FitG (s : Sg) : Prop:=I64 s.page /\ I64 s.pages /\ Short s.data.size
def FitY (s : Sy) : Prop:=Short s.name.size /\ I64 s.pos
def FitR (s : Rl) : Prop:=I64 s.pos /\ Short s.name.size /\ I64 s.add
structure Fit (i : Im) : Prop where
 name : Short i.name.size
 needs : Short i.needs.length
 need : ∀ k,k < i.needs.length -> Short (strAt i.needs k).size
 segs : Short i.segs.length
 seg : ∀ k,k < i.segs.length -> FitG (sgAt i.segs k)
 syms : Short i.syms.length
 sym : ∀ k,k < i.syms.length -> FitY (syAt i.syms k)
 rels : Short i.rels.length
 rel : ∀ k,k < i.rels.length -> FitR (rlAt i.rels k)
 entry : I64 i.entry
def HasBy {α : Type} (lie : World -> Nat -> Nat -> List α -> Prop) (w : World) (ao : Option Addr) (l : List α) : Prop:=0 < l.length -> ∃ b off,ao = some ⟨b,off,none⟩ /\ b < w.heap.size /\ lie w b off l
structure At where
 an : Option Addr
 cn : Nat
 ag : Option Addr
 cg : Nat
 ay : Option Addr
 cy : Nat
 ar : Option Addr
 cr : Nat
structure HasIm (w : World) (a : At) (i : Im) : Prop where
 needs : HasBy LieS w a.an i.needs
 segs : HasBy LieG w a.ag i.segs
 syms : HasBy LieY w a.ay i.syms
 rels : HasBy LieR w a.ar i.rels
def cellsI (a : At) (i : Im) : Array Value:=#[.string i.name,.slice a.an i.needs.length a.cn,.slice a.ag i.segs.length a.cg,.slice a.ay i.syms.length a.cy,.slice a.ar i.rels.length a.cr,.int .i64 i.entry]
theorem below_cell {w w' : World} (hb : Below w.heap.size w w') {b o : Nat} (h : b < w.heap.size) : w'.cell? ⟨b,o,none⟩ = w.cell? ⟨b,o,none⟩:=hb.cell (p:=⟨b,o,none⟩) h
theorem HasBy.below {α : Type} {lie : World -> Nat -> Nat -> List α -> Prop} (hlie : ∀ {w w' : World} {b off : Nat} {l : List α},Below w.heap.size w w' -> b < w.heap.size -> lie w b off l -> lie w' b off l)
  {w w' : World} {ao : Option Addr} {l : List α} (h : HasBy lie w ao l) (hb : Below w.heap.size w w') : HasBy lie w' ao l:=fun hl=>by
 obtain ⟨b,off,e,hlt,hh⟩:=h hl
 exact ⟨b,off,e,Nat.lt_of_lt_of_le hlt hb.size,hlie hb hlt hh⟩
theorem lieS {w w' : World} {b off : Nat} {l : List ByteArray} (hb : Below w.heap.size w w') (hlt : b < w.heap.size) (h : LieS w b off l) : LieS w' b off l:=fun i hi=>(below_cell hb hlt).trans (h i hi)
theorem lieG {w w' : World} {b off : Nat} {l : List Sg} (hb : Below w.heap.size w w') (hlt : b < w.heap.size) (h : LieG w b off l) : LieG w' b off l:=fun i hi=>by
 obtain ⟨c0,c1,c2,c3,c4⟩:=h i hi
 exact ⟨(below_cell hb hlt).trans c0,(below_cell hb hlt).trans c1,(below_cell hb hlt).trans c2,(below_cell hb hlt).trans c3,(below_cell hb hlt).trans c4⟩
theorem lieY {w w' : World} {b off : Nat} {l : List Sy} (hb : Below w.heap.size w w') (hlt : b < w.heap.size) (h : LieY w b off l) : LieY w' b off l:=fun i hi=>by
 obtain ⟨c0,c1⟩:=h i hi
 exact ⟨(below_cell hb hlt).trans c0,(below_cell hb hlt).trans c1⟩
theorem lieR {w w' : World} {b off : Nat} {l : List Rl} (hb : Below w.heap.size w w') (hlt : b < w.heap.size) (h : LieR w b off l) : LieR w' b off l:=fun i hi=>by
 obtain ⟨c0,c1,c2⟩:=h i hi
 exact ⟨(below_cell hb hlt).trans c0,(below_cell hb hlt).trans c1,(below_cell hb hlt).trans c2⟩
theorem HasIm.below {w w' : World} {a : At} {i : Im} (h : HasIm w a i) (hb : Below w.heap.size w w') : HasIm w' a i :=
 ⟨HasBy.below (lie:=LieS) (fun hb hlt h=>lieS hb hlt h) h.needs hb,HasBy.below (lie:=LieG) (fun hb hlt h=>lieG hb hlt h) h.segs hb,HasBy.below (lie:=LieY) (fun hb hlt h=>lieY hb hlt h) h.syms hb,HasBy.below (lie:=LieR) (fun hb hlt h=>lieR hb hlt h) h.rels hb⟩
end M
namespace AM
open Go.RowKit
structure Ar where
 page : Int
 pages : Int
 prot : Int
 zero : Bool
def Ar.last0 (a : Ar) : Int:=a.page + a.pages
def nil : Ar:=⟨0,0,0,false⟩
def at_ (l : List Ar) (i : Nat) : Ar:=l.getD i nil
def pagesB (p n : Int) : Bool:=decide (1 <= p /\ 1 <= n /\ n <= 256 - p)
def protB (p : Int) : Bool:=decide (0 <= p /\ p <= 3)
def followB (a b : Ar) : Bool:=if b.page = a.last0 then (b.prot != a.prot || b.zero != a.zero) else decide (a.last0 < b.page)
def Lie (w : World) (b off : Nat) (l : List Ar) : Prop:=∀ i,i < l.length ->
 w.cell? ⟨b,off + i * 4,none⟩ = some (.int .i64 (at_ l i).page) /\ w.cell? ⟨b,off + i * 4 + 1,none⟩ = some (.int .i64 (at_ l i).pages) /\
 w.cell? ⟨b,off + i * 4 + 2,none⟩ = some (.int .i64 (at_ l i).prot) /\ w.cell? ⟨b,off + i * 4 + 3,none⟩ = some (.bool (at_ l i).zero)
def Fits (a : Ar) : Prop:=(-9223372036854775808 <= a.page /\ a.page <= 9223372036854775807) /\ (-9223372036854775808 <= a.pages /\ a.pages <= 9223372036854775807) /\ (-9223372036854775808 <= a.prot /\ a.prot <= 9223372036854775807)
def okAt (l : List Ar) (i : Nat) : Bool:=pagesB (at_ l i).page (at_ l i).pages && protB (at_ l i).prot && (i == 0 || followB (at_ l (i - 1)) (at_ l i))
def goodTo (l : List Ar) : Nat -> Bool
 | 0=>true
 | k + 1=>goodTo l k && okAt l k
def good (l : List Ar) : Bool:=goodTo l l.length
def checkN (l : List Ar) : Int:=if 255 < l.length then 2 else if good l then 0 else 1
theorem goodTo_false (l : List Ar) : ∀ (k n : Nat),k <= n -> goodTo l k = false -> goodTo l n = false
 | k, 0, h, hk => by obtain rfl : k = 0 := by omega
                     exact hk
 | k,n + 1,h,hk=>by
  by_cases e : k = n + 1
  · subst e;exact hk
  · simp [goodTo,goodTo_false l k n (by omega) hk]
theorem goodTo_ok (l : List Ar) : ∀ (n : Nat),goodTo l n = true -> ∀ i,i < n -> okAt l i = true
 | 0,_,i,hi=>by omega
 | n + 1,h,i,hi=>by
  simp only [goodTo,Bool.and_eq_true] at h
  by_cases e : i = n
  · subst e;exact h.2
  · exact goodTo_ok l n h.1 i (by omega)
theorem Lie.lt {w : World} {b off : Nat} {l : List Ar} (h : Lie w b off l) (i : Nat) (hi : i < l.length) : b < w.heap.size :=
 World.block_lt_of_cell? w _ (h i hi).1
theorem Lie.below {w w' : World} {b off : Nat} {l : List Ar} (h : Lie w b off l) (hb : Below w.heap.size w w') : Lie w' b off l:=fun i hi=>by
 have hlt:=h.lt i hi
 obtain ⟨h0,h1,h2,h3⟩:=h i hi
 exact ⟨(hb.cell (p:=⟨b,_,none⟩) hlt).trans h0,(hb.cell (p:=⟨b,_,none⟩) hlt).trans h1,(hb.cell (p:=⟨b,_,none⟩) hlt).trans h2,(hb.cell (p:=⟨b,_,none⟩) hlt).trans h3⟩
theorem bad_at (l : List Ar) (k : Nat) (hk : k < l.length) (h : okAt l k = false) : good l = false :=
 goodTo_false l (k + 1) l.length (by omega) (by simp [goodTo,h])
theorem ok_step (l : List Ar) (k : Nat) (h : goodTo l k = true) (h' : okAt l k = true) : goodTo l (k + 1) = true:=by simp [goodTo,h,h']
def hit (a : Ar) (p : Int) : Bool:=decide (a.page <= p /\ p < a.last0)
def findFrom : List Ar -> Int -> Ar × Bool
 | [],_=>(nil,false)
 | a :: r,p=>if hit a p then (a,true) else findFrom r p
def findN (l : List Ar) (p : Int) : Ar × Bool:=if checkN l = 0 then findFrom l p else (nil,false)
def sumTo (l : List Ar) : Nat -> Int
 | 0=>0
 | k + 1=>sumTo l k + (at_ l k).pages
def totalN (l : List Ar) : Int:=if checkN l = 0 then sumTo l l.length else 0
theorem findFrom_none : ∀ (l : List Ar) (p : Int),(∀ i,i < l.length -> hit (at_ l i) p = false) -> findFrom l p = (nil,false)
 | [],_,_=>rfl
 | a :: r,p,h=>by
  have h0 : hit a p = false:=h 0 (by simp)
  have hr : ∀ i,i < r.length -> hit (at_ r i) p = false:=fun i hi=>h (i + 1) (by simpa using hi)
  simp [findFrom,h0,findFrom_none r p hr]
theorem findFrom_at : ∀ (l : List Ar) (p : Int) (k : Nat),k < l.length -> (∀ i,i < k -> hit (at_ l i) p = false) -> hit (at_ l k) p = true -> findFrom l p = (at_ l k,true)
 | [],_,k,hk,_,_=>by simp at hk
 | a :: r,p,0,hk,_,h1=>by
  have h0 : hit a p = true:=h1
  simp [findFrom,h0,at_]
 | a :: r,p,k + 1,hk,h,h1=>by
  have h0 : hit a p = false:=h 0 (by omega)
  have hr:=findFrom_at r p k (by simpa using hk) (fun i hi=>h (i + 1) (by omega)) h1
  simp [findFrom,h0,hr,at_]
theorem good_pages (l : List Ar) (h : checkN l = 0) (i : Nat) (hi : i < l.length) : okAt l i = true:=by
 unfold checkN at h
 split at h
 · simp at h
 · split at h
   · exact goodTo_ok l l.length (by assumption) i hi
   · simp at h
theorem good_len (l : List Ar) (h : checkN l = 0) : l.length <= 255:=by
 unfold checkN at h
 split at h
 · simp at h
 · omega
theorem okAt_pages (l : List Ar) (i : Nat) (h : okAt l i = true) : 1 <= (at_ l i).page /\ 1 <= (at_ l i).pages /\ (at_ l i).pages <= 256 - (at_ l i).page /\ 0 <= (at_ l i).prot /\ (at_ l i).prot <= 3:=by
 simp only [okAt,Bool.and_eq_true,pagesB,protB,decide_eq_true_eq] at h
 exact ⟨h.1.1.1,h.1.1.2.1,h.1.1.2.2,h.1.2.1,h.1.2.2⟩
theorem sumTo_bd (l : List Ar) (h : checkN l = 0) : ∀ k,k <= l.length -> 0 <= sumTo l k /\ sumTo l k <= 255 * k
 | 0,_=>by simp [sumTo]
 | k + 1,hk=>by
  have ih:=sumTo_bd l h k (by omega)
  have ho:=okAt_pages l k (good_pages l h k (by omega))
  simp only [sumTo]
  omega
end AM
namespace CM
open Go.RowKit
def shr (n : Int) (k : Nat) : Int:=n / 256 ^ k
def low (n : Int) : Nat:=(n % 18446744073709551616).toNat
theorem shr_zero (n : Int) : shr n 0 = n:=by simp [shr]
theorem shr_succ (n : Int) (k : Nat) : shr n k / 256 = shr n (k + 1):=by
 simp only [shr,Int.pow_succ]
 rw [Int.ediv_ediv_of_nonneg (Int.pow_nonneg (by decide))]
theorem leBytes_snoc : ∀ (k v : Nat),Lib.leBytes (k + 1) v = Lib.leBytes k v ++ [(v / 256 ^ k % 256).toUInt8]
 | 0,v=>by simp [Lib.leBytes]
 | k + 1,v=>by
  rw [Lib.leBytes,leBytes_snoc k (v / 256)]
  simp only [Lib.leBytes,List.cons_append]
  rw [Nat.div_div_eq_div_mul,<- Nat.pow_succ']
theorem shr_byte (n : Int) (k : Nat) (h : k < 8) : shr n k % 256 = ((low n / 256 ^ k % 256 : Nat) : Int):=by
 unfold shr low
 match k,h with
 | 0,_=>simp;omega
 | 1,_=>omega
 | 2,_=>omega
 | 3,_=>omega
 | 4,_=>omega
 | 5,_=>omega
 | 6,_=>omega
 | 7,_=>omega
theorem strOfNums_byte (n : Int) (k : Nat) (h : k < 8) : strOfNums [shr n k % 256] = ⟨#[(low n / 256 ^ k % 256).toUInt8]⟩:=by
 rw [shr_byte n k h]
 simp [strOfNums]
 rfl
theorem mk_append (a b : List UInt8) : (⟨a.toArray⟩ : ByteArray) ++ ⟨b.toArray⟩ = ⟨(a ++ b).toArray⟩:=ByteArray.mk_append_mk a b
theorem strOfNums_bytes (l : List UInt8) : strOfNums (l.map fun b=>(b.toNat : Int)) = ⟨l.toArray⟩:=by
 simp only [strOfNums,List.map_map]
 congr 1
 congr 1
 induction l with
 | nil=>rfl
 | cons b r ih=>simp [ih]
theorem byteCells_get (l : List UInt8) (i : Nat) (h : i < l.length) : (Lib.byteCells l)[i]? = some (.int .u8 ((l.map fun b=>(b.toNat : Int)).getD i 0)):=by
 simp [Lib.byteCells,h]
theorem bounds (n : Int) (h : (Lit.int .i64 n).wf = true) : -9223372036854775808 <= n /\ n <= 9223372036854775807:=by
 simp only [Lit.wf,IntKind.min,IntKind.max,IntKind.signed,IntKind.bits,Bool.and_eq_true,decide_eq_true_eq,if_true] at h
 omega
end CM
namespace CL
open Go.RowKit Go.Lib
theorem storeCells_marked (P : Program) (g o : Nat) (t : TypeId) (m1 m2 : Nat) : ∀ (vs : List Value) (i : Nat) (cur : Array Value) (w : World),w.heap[g]? = some (.cells cur t (m1,m2)) -> cur.size <= m1 -> o + i + vs.length <= cur.size -> (∀ v ∈ vs,v.oneCell' = true) ->
  (storeCells ⟨g,o,none⟩ vs i).run P w = .ok () (w.setRow g (cur.toList.take (o + i) ++ vs ++ cur.toList.drop (o + i + vs.length)).toArray)
 | [],i,cur,w,hg,_,_,_=>by
  simp only [storeCells,List.append_nil,List.length_nil,Nat.add_zero,List.take_append_drop,Array.toArray_toList]
  rw [setRow_self w g cur t (m1,m2) hg]
  rfl
 | v :: rest,i,cur,w,hg,hm,hl,h1=>by
  have hi : o + i < cur.size:=by simp at hl;omega
  have hadd : (⟨g,o,none⟩ : Addr).add i = ⟨g,o + i,none⟩:=by unfold Addr.add;split <;> simp_all
  have hcell : w.cell? ⟨g,o + i,none⟩ = some cur[o + i]:=by simp [World.cell?,hg,hi]
  have hfro : w.frozen? ⟨g,o + i,none⟩ = false:=by simp [World.frozen?,hg];omega
  have hst : (store ((⟨g,o,none⟩ : Addr).add i) v).run P w = .ok () (w.setRow g (cur.setIfInBounds (o + i) v)):=by
   rw [hadd,run_store P w _ v _ (h1 v (by simp)),hcell]
   simp [hfro,setCell_eq_setRow w g (o + i) cur t (m1,m2) v hg]
  have ih:=storeCells_marked P g o t m1 m2 rest (i + 1) (cur.setIfInBounds (o + i) v) (w.setRow g (cur.setIfInBounds (o + i) v)) (setRow_heap w g cur _ t _ hg) (by simpa using hm) (by simp at hl ⊢;omega) (fun x hx=>h1 x (by simp [hx]))
  simp only [storeCells,Sem.run_bind,hst,Result.andThen_ok,ih,setRow_setRow]
  congr 3
  have e:=list_seg_step cur.toList (o + i) v rest (by simp at hl ⊢;omega)
  simpa [Array.toList_setIfInBounds,Nat.add_assoc] using e
theorem copy_marked {P : Program} (w : World) (dT sT ty elem : TypeId) (g o dLen dCap : Nat) (s : ByteArray) (cur : Array Value) (t : TypeId) (m1 m2 : Nat)
  (hu : P.underlying dT = some (.slice elem)) (hs : (P.info? elem).map (·.size) = some 1) (hg : w.heap[g]? = some (.cells cur t (m1,m2))) (hm : cur.size <= m1) (hle : s.size <= dLen) (hfit : o + s.size <= cur.size) :
  (Builtin.copy_ #[dT,sT] ty #[.slice (some ⟨g,o,none⟩) dLen dCap,.string s]).run P w =
   .ok (goInt s.size) (w.setRow g (cur.toList.take o ++ Lib.byteCells s.data.toList ++ cur.toList.drop (o + s.size)).toArray):=by
 have hlen : (Lib.byteCells s.data.toList).length = s.size:=by rw [Lib.byteCells_length,<- size_eq]
 have hst:=storeCells_marked P g o t m1 m2 (Lib.byteCells s.data.toList) 0 cur w hg hm (by rw [hlen];simpa using hfit) (Lib.byteCells_one _)
 have hmin : Nat.min s.size dLen = s.size:=Nat.min_eq_left hle
 have htk : List.take s.size (List.map (fun b : UInt8=>Value.int IntKind.u8 (b.toNat : Int)) s.data.toList) = Lib.byteCells s.data.toList:=by
  rw [List.take_of_length_le (by rw [List.length_map,<- size_eq];exact Nat.le_refl _)]
  rfl
 rw [hlen] at hst
 simp only [Nat.add_zero] at hst
 cases hq : P.info? elem with
 | none=>simp [hq] at hs
 | some i =>
  simp [Builtin.copy_,run_underlying hu,Builtin.lenOf,Builtin.firstCells,sizeOf,typeInfo,hq,hmin]
  rw [htk,hst]
  simp [Result.andThen]
theorem bytesRow_size (s : ByteArray) (c : Nat) : (bytesRow s c).size = s.size + (c - s.size):=by
 simp [bytesRow]
def over (s : ByteArray) (o : Nat) (t : ByteArray) : ByteArray:=⟨(s.data.toList.take o ++ t.data.toList ++ s.data.toList.drop (o + t.size)).toArray⟩
theorem over_cells (s : ByteArray) (o : Nat) (t : ByteArray) (c : Nat) (h : o + t.size <= s.size) (i : Nat) (hi : i < s.size) :
  ((bytesRow s c).toList.take o ++ Lib.byteCells t.data.toList ++ (bytesRow s c).toList.drop (o + t.size))[i]? = some (.int .u8 (((over s o t).data.toList.map fun b=>(b.toNat : Int)).getD i 0)):=by
 have hts : t.size = t.data.toList.length:=size_eq t
 have hss : s.size = s.data.toList.length:=size_eq s
 have hr : (bytesRow s c).toList = Lib.byteCells s.data.toList ++ List.replicate (c - s.size) (.int .u8 0):=by
  simp [bytesRow,Lib.byteCells]
 have e : (bytesRow s c).toList.take o ++ Lib.byteCells t.data.toList ++ (bytesRow s c).toList.drop (o + t.size) = Lib.byteCells (over s o t).data.toList ++ List.replicate (c - s.size) (.int .u8 0):=by
  rw [hr,List.take_append_of_le_length (by rw [Lib.byteCells_length];omega),List.drop_append_of_le_length (by rw [Lib.byteCells_length];omega)]
  simp [over,Lib.byteCells,List.map_append,List.map_take,List.map_drop]
 have hol : (over s o t).data.toList.length = s.size:=by
  simp only [over,List.length_append,List.length_take,List.length_drop];omega
 rw [e,List.getElem?_append_left (by rw [Lib.byteCells_length,hol];exact hi)]
 exact CM.byteCells_get _ i (by rw [hol];exact hi)
theorem over_size (s : ByteArray) (o : Nat) (t : ByteArray) (h : o + t.size <= s.size) : (over s o t).data.toList.length = s.size:=by
 have hts : t.size = t.data.toList.length:=size_eq t
 have hss : s.size = s.data.toList.length:=size_eq s
 simp only [over,List.length_append,List.length_take,List.length_drop];omega
theorem over_parts (s : ByteArray) (o : Nat) (t : ByteArray) : s.extract 0 o ++ t ++ s.extract (o + t.size) s.size = over s o t:=by
 have hss : s.size = s.data.toList.length:=size_eq s
 apply ByteArray.ext
 apply Array.toList_inj.1
 simp only [ByteArray.data_append,Array.toList_append,extract_data,over]
 have e : List.take (s.size - (o + t.size)) (List.drop (o + t.size) s.data.toList) = List.drop (o + t.size) s.data.toList:=List.take_of_length_le (by rw [List.length_drop];omega)
 rw [List.drop_zero,Nat.sub_zero,e]
theorem over_nil (s : ByteArray) (o : Nat) (t : ByteArray) (h : t.size = 0) : over s o t = s:=by
 have hts : t.data.toList = []:=List.eq_nil_of_length_eq_zero (by rw [<- size_eq];exact h)
 apply ByteArray.ext
 simp [over,hts,h]
theorem over_size' (s : ByteArray) (o : Nat) (t : ByteArray) (h : o + t.size <= s.size) : (over s o t).size = s.size:=by
 rw [size_eq,over_size s o t h]
end CL
namespace LM
open Go.RowKit
structure Fx where
 off : Int
 bytes : ByteArray
structure Sh where
 page : Int
 data : ByteArray
 fixes : List Fx
 ao : Option Addr
 cap : Nat
def fx0 : Fx:=⟨0,⟨#[]⟩⟩
def fxAt (l : List Fx) (i : Nat) : Fx:=l.getD i fx0
def sh0 : Sh:=⟨0,⟨#[]⟩,[],none,0⟩
def shAt (l : List Sh) (i : Nat) : Sh:=l.getD i sh0
def LieF (w : World) (b off : Nat) (l : List Fx) : Prop:=∀ i,i < l.length -> w.cell? ⟨b,off + i * 2,none⟩ = some (.int .i64 (fxAt l i).off) /\ w.cell? ⟨b,off + i * 2 + 1,none⟩ = some (.string (fxAt l i).bytes)
theorem lieF {w w' : World} {b off : Nat} {l : List Fx} (hb : Below w.heap.size w w') (hlt : b < w.heap.size) (h : LieF w b off l) : LieF w' b off l:=fun i hi=>by
 obtain ⟨c0,c1⟩:=h i hi
 exact ⟨(M.below_cell hb hlt).trans c0,(M.below_cell hb hlt).trans c1⟩
def HasF (w : World) (ao : Option Addr) (l : List Fx) : Prop:=M.HasBy LieF w ao l
theorem HasF.below {w w' : World} {ao : Option Addr} {l : List Fx} (h : HasF w ao l) (hb : Below w.heap.size w w') : HasF w' ao l:=M.HasBy.below (lie:=LieF) (fun hb hlt h=>lieF hb hlt h) h hb
def FitF (f : Fx) : Prop:=M.I64 f.off /\ M.Short f.bytes.size
structure FitH (s : Sh) : Prop where
 page : M.I64 s.page
 data : M.Short s.data.size
 fixes : M.Short s.fixes.length
 fix : ∀ k,k < s.fixes.length -> FitF (fxAt s.fixes k)
def cellsH (s : Sh) : Array Value:=#[.int .i64 s.page,.string s.data,.slice s.ao s.fixes.length s.cap]
def endTo (l : List Fx) : Nat -> Int
 | 0=>0
 | k + 1=>(fxAt l k).off + ((fxAt l k).bytes.size : Int)
def fixB (e : Int) (f : Fx) : Bool:=decide (e <= f.off /\ f.off <= 16 /\ 1 <= (f.bytes.size : Int) /\ (f.bytes.size : Int) <= 16 - f.off)
def fixesTo (l : List Fx) : Nat -> Bool
 | 0=>true
 | k + 1=>fixesTo l k && fixB (endTo l k) (fxAt l k)
def headB (s : Sh) : Bool:=decide (1 <= s.page /\ s.page <= 255 /\ s.data.size = 16)
def sheetB (s : Sh) : Bool:=headB s && fixesTo s.fixes s.fixes.length
def laidTo (d : ByteArray) (l : List Fx) : Nat -> ByteArray
 | 0=>d
 | k + 1=>CL.over (laidTo d l k) (fxAt l k).off.toNat (fxAt l k).bytes
def fillS (s : Sh) : ByteArray:=laidTo s.data s.fixes s.fixes.length
def fillN (s : Sh) : ByteArray × Int:=if sheetB s then (fillS s,0) else (⟨#[]⟩,1)
theorem fixesTo_false (l : List Fx) : ∀ (k n : Nat),k <= n -> fixesTo l k = false -> fixesTo l n = false
 | k, 0, h, hk => by obtain rfl : k = 0 := by omega
                     exact hk
 | k,n + 1,h,hk=>by
  by_cases e : k = n + 1
  · subst e;exact hk
  · simp [fixesTo,fixesTo_false l k n (by omega) hk]
theorem fixes_bad (l : List Fx) (k : Nat) (hk : k < l.length) (h : fixB (endTo l k) (fxAt l k) = false) : fixesTo l l.length = false :=
 fixesTo_false l (k + 1) l.length (by omega) (by simp [fixesTo,h])
theorem fixesTo_ok (l : List Fx) : ∀ (n : Nat),fixesTo l n = true -> ∀ i,i < n -> fixB (endTo l i) (fxAt l i) = true
 | 0,_,i,hi=>by omega
 | n + 1,h,i,hi=>by
  simp only [fixesTo,Bool.and_eq_true] at h
  by_cases e : i = n
  · subst e;exact h.2
  · exact fixesTo_ok l n h.1 i (by omega)
theorem fixB_iff (e : Int) (f : Fx) : fixB e f = true ↔ (e <= f.off /\ f.off <= 16 /\ 1 <= (f.bytes.size : Int) /\ (f.bytes.size : Int) <= 16 - f.off):=by simp [fixB]
theorem fixB_no {e : Int} {f : Fx} (h : ¬ (e <= f.off /\ f.off <= 16 /\ 1 <= (f.bytes.size : Int) /\ (f.bytes.size : Int) <= 16 - f.off)) : fixB e f = false:=by simpa [fixB] using h
theorem endTo_ge (l : List Fx) : ∀ k,fixesTo l k = true -> (k : Int) <= endTo l k /\ endTo l k <= 16
 | 0,_=>by simp [endTo]
 | k + 1,h=>by
  simp only [fixesTo,Bool.and_eq_true] at h
  have ih:=endTo_ge l k h.1
  have hf:=(fixB_iff _ _).1 h.2
  simp only [endTo]
  omega
theorem laidTo_size (d : ByteArray) (l : List Fx) (hd : d.size = 16) : ∀ k,fixesTo l k = true -> (laidTo d l k).size = 16
 | 0,_=>hd
 | k + 1,h=>by
  simp only [fixesTo,Bool.and_eq_true] at h
  have ih:=laidTo_size d l hd k h.1
  have hf:=(fixB_iff _ _).1 h.2
  have he:=endTo_ge l k h.1
  simp only [laidTo]
  rw [CL.over_size' _ _ _ (by omega),ih]
end LM
namespace AM
open Go.RowKit
structure St where
 m : Bool
 p : Int
 z : Bool
def off : St:=⟨false,0,false⟩
def three (s : St) : List Value:=[.bool s.m,.int .i64 s.p,.bool s.z]
def rows (F : Nat -> St) : Nat -> List Value
 | 0=>[]
 | m + 1=>rows F m ++ three (F m)
def cellsL (F : Nat -> St) : Array Value:=(rows F 256).toArray
def upd (F : Nat -> St) (n : Nat) (s : St) : Nat -> St:=fun k=>if k = n then s else F k
theorem rows_length (F : Nat -> St) : ∀ m,(rows F m).length = m * 3
 | 0=>rfl
 | m + 1=>by simp [rows,rows_length F m,three];omega
theorem cellsL_size (F : Nat -> St) : (cellsL F).size = 768:=by simp [cellsL,rows_length]
theorem rows_get (F : Nat -> St) (n j : Nat) (hj : j < 3) : ∀ m,n < m -> (rows F m)[n * 3 + j]? = (three (F n))[j]?
 | 0,h=>by omega
 | m + 1,h=>by
  simp only [rows]
  by_cases e : n = m
  · subst e
    rw [List.getElem?_append_right (by rw [rows_length];omega),rows_length,show n * 3 + j - n * 3 = j from by omega]
  · rw [List.getElem?_append_left (by rw [rows_length];omega)]
    exact rows_get F n j hj m (by omega)
theorem cellsL_get (F : Nat -> St) (n j : Nat) (hn : n < 256) (hj : j < 3) : (cellsL F)[n * 3 + j]? = (three (F n))[j]?:=by
 unfold cellsL
 rw [List.getElem?_toArray]
 exact rows_get F n j hj 256 hn
theorem cellsL_get0 (F : Nat -> St) (n : Nat) (hn : n < 256) : (cellsL F)[n * 3]? = some (.bool (F n).m):=cellsL_get F n 0 hn (by omega)
theorem cellsL_get1 (F : Nat -> St) (n : Nat) (hn : n < 256) : (cellsL F)[n * 3 + 1]? = some (.int .i64 (F n).p):=cellsL_get F n 1 hn (by omega)
theorem cellsL_get2 (F : Nat -> St) (n : Nat) (hn : n < 256) : (cellsL F)[n * 3 + 2]? = some (.bool (F n).z):=cellsL_get F n 2 hn (by omega)
theorem rows_congr (F G : Nat -> St) : ∀ m,(∀ k,k < m -> F k = G k) -> rows F m = rows G m
 | 0,_=>rfl
 | m + 1,h=>by simp only [rows];rw [rows_congr F G m (fun k hk=>h k (by omega)),h m (by omega)]
theorem rows_set (F : Nat -> St) (n : Nat) (s : St) : ∀ m,n < m -> (((rows F m).set (n * 3) (.bool s.m)).set (n * 3 + 1) (.int .i64 s.p)).set (n * 3 + 2) (.bool s.z) = rows (upd F n s) m
 | 0,h=>by omega
 | m + 1,h=>by
  simp only [rows]
  by_cases e : n = m
  · subst e
    rw [List.set_append_right _ _ (by rw [rows_length];omega),List.set_append_right _ _ (by rw [rows_length];omega),List.set_append_right _ _ (by rw [rows_length];omega),rows_length,
     show n * 3 - n * 3 = 0 from by omega,show n * 3 + 1 - n * 3 = 1 from by omega,show n * 3 + 2 - n * 3 = 2 from by omega]
    rw [rows_congr (upd F n s) F n (fun k hk=>by simp [upd];omega)]
    simp [three,upd]
  · rw [List.set_append_left _ _ (by rw [rows_length];omega),List.set_append_left _ _ (by rw [List.length_set,rows_length];omega),List.set_append_left _ _ (by rw [List.length_set,List.length_set,rows_length];omega),rows_set F n s m (by omega)]
    congr 2
    simp [upd];intro h';exact absurd h'.symm e
theorem cellsL_set (F : Nat -> St) (n : Nat) (s : St) (hn : n < 256) :
  (((cellsL F).setIfInBounds (n * 3) (.bool s.m)).setIfInBounds (n * 3 + 1) (.int .i64 s.p)).setIfInBounds (n * 3 + 2) (.bool s.z) = cellsL (upd F n s):=by
 unfold cellsL
 rw [<- rows_set F n s 256 hn]
 simp only [List.setIfInBounds_toArray]
theorem rows_one (F : Nat -> St) : ∀ m,∀ v ∈ rows F m,v.oneCell' = true
 | 0,v,h=>by simp [rows] at h
 | m + 1,v,h=>by
  simp only [rows,List.mem_append] at h
  rcases h with h | h
  · exact rows_one F m v h
  · simp only [three,List.mem_cons,List.not_mem_nil,or_false] at h
    rcases h with rfl | rfl | rfl <;> rfl
theorem cellsL_one (F : Nat -> St) : (cellsL F).all (·.oneCell') = true:=by
 rw [Array.all_eq_true_iff_forall_mem]
 intro v hv
 exact rows_one F 256 v (by simpa [cellsL] using hv)
def layTo (F : Nat -> St) (a : Ar) (t : Int) : Nat -> St:=fun n=>if a.page <= (n : Int) /\ (n : Int) < t then ⟨true,a.prot,a.zero⟩ else F n
def spreadTo (l : List Ar) : Nat -> Nat -> St
 | 0=>fun _=>off
 | k + 1=>layTo (spreadTo l k) (at_ l k) (at_ l k).last0
def spreadN (l : List Ar) : Nat -> St:=spreadTo l l.length
theorem layTo_begin (F : Nat -> St) (a : Ar) : layTo F a a.page = F:=by
 funext n;simp only [layTo];rw [if_neg (by omega)]
theorem layTo_step (F : Nat -> St) (a : Ar) (n : Nat) (h : a.page <= (n : Int)) : upd (layTo F a n) n ⟨true,a.prot,a.zero⟩ = layTo F a ((n : Int) + 1):=by
 funext k
 simp only [upd,layTo]
 by_cases e : k = n
 · subst e;rw [if_pos rfl,if_pos ⟨h,by omega⟩]
 · rw [if_neg e]
   by_cases c : a.page <= (k : Int) /\ (k : Int) < n
   · rw [if_pos c,if_pos ⟨c.1,by omega⟩]
   · rw [if_neg c,if_neg (by omega)]
theorem cellsL_part (F : Nat -> St) (k : Nat) (hk : k < 256) : (cellsL F).extract (k * 3) (k * 3 + 3) = #[.bool (F k).m,.int .i64 (F k).p,.bool (F k).z]:=by
 apply Array.ext_getElem?
 intro j
 have hs:=cellsL_size F
 rw [Array.getElem?_extract,hs]
 match j with
 | 0=>rw [if_pos (by omega)];exact cellsL_get0 F k hk
 | 1=>rw [if_pos (by omega)];exact cellsL_get1 F k hk
 | 2=>rw [if_pos (by omega)];exact cellsL_get2 F k hk
 | j + 3=>rw [if_neg (by omega)];simp
def lastTo (F : Nat -> St) : Nat -> St
 | 0=>off
 | k + 1=>F k
def stEq (a b : St) : Bool:=a.m == b.m && (a.p == b.p && a.z == b.z)
def bump (G : List Ar) : List Ar:=G.set (G.length - 1) ⟨(at_ G (G.length - 1)).page,(at_ G (G.length - 1)).pages + 1,(at_ G (G.length - 1)).prot,(at_ G (G.length - 1)).zero⟩
def gatherTo (F : Nat -> St) : Nat -> List Ar
 | 0=>[]
 | k + 1=>if (F k).m = false then gatherTo F k else if stEq (F k) (lastTo F k) then bump (gatherTo F k) else gatherTo F k ++ [⟨(k : Int),1,(F k).p,(F k).z⟩]
def gatherN (F : Nat -> St) : List Ar:=gatherTo F 256
def four (a : Ar) : List Value:=[.int .i64 a.page,.int .i64 a.pages,.int .i64 a.prot,.bool a.zero]
def areaCells : List Ar -> List Value
 | []=>[]
 | a :: r=>four a ++ areaCells r
theorem areaCells_length : ∀ G : List Ar,(areaCells G).length = G.length * 4
 | []=>rfl
 | a :: r=>by simp [areaCells,four,areaCells_length r];omega
theorem areaCells_append : ∀ G H : List Ar,areaCells (G ++ H) = areaCells G ++ areaCells H
 | [],H=>rfl
 | a :: r,H=>by simp [areaCells,areaCells_append r H]
theorem areaCells_get : ∀ (G : List Ar) (i j : Nat),i < G.length -> j < 4 -> (areaCells G)[i * 4 + j]? = (four (at_ G i))[j]?
 | [],i,j,h,_=>by simp at h
 | a :: r,0,j,h,hj=>by
  simp only [areaCells]
  rw [List.getElem?_append_left (by simp [four];omega)]
  simp [at_]
 | a :: r,i + 1,j,h,hj=>by
  simp only [areaCells]
  rw [List.getElem?_append_right (by simp [four];omega),show (i + 1) * 4 + j - (four a).length = i * 4 + j from by simp [four];omega,areaCells_get r i j (by simpa using h) hj]
  simp [at_]
theorem areaCells_set : ∀ (G : List Ar) (i : Nat) (n : Int),i < G.length -> areaCells (G.set i ⟨(at_ G i).page,n,(at_ G i).prot,(at_ G i).zero⟩) = (areaCells G).set (i * 4 + 1) (.int .i64 n)
 | [],i,n,h=>by simp at h
 | a :: r,0,n,h=>by simp [areaCells,four,at_]
 | a :: r,i + 1,n,h=>by
  simp only [areaCells,List.set_cons_succ]
  rw [List.set_append_right _ _ (by simp [four];omega),show (i + 1) * 4 + 1 - (four a).length = i * 4 + 1 from by simp [four];omega]
  have e:=areaCells_set r i n (by simpa using h)
  rw [<- e]
  simp [at_]
theorem bump_length (G : List Ar) : (bump G).length = G.length:=by simp [bump]
theorem areaCells_one : ∀ (G : List Ar),∀ v ∈ areaCells G,v.oneCell' = true
 | [],v,h=>by simp [areaCells] at h
 | a :: r,v,h=>by
  simp only [areaCells,four,List.cons_append,List.nil_append,List.mem_cons] at h
  rcases h with rfl | rfl | rfl | rfl | h
  · rfl
  · rfl
  · rfl
  · rfl
  · exact areaCells_one r v h
theorem at_append_left (G H : List Ar) (i : Nat) (h : i < G.length) : at_ (G ++ H) i = at_ G i:=by simp [at_,List.getElem?_append_left h]
theorem at_append_last (G : List Ar) (a : Ar) : at_ (G ++ [a]) G.length = a:=by simp [at_]
theorem at_set_same (G : List Ar) (i : Nat) (a : Ar) (h : i < G.length) : at_ (G.set i a) i = a:=by simp [at_,h]
theorem at_set_other (G : List Ar) (i j : Nat) (a : Ar) (h : j ≠ i) : at_ (G.set i a) j = at_ G j:=by simp [at_,List.getElem?_set_ne (Ne.symm h)]
theorem gather_len (F : Nat -> St) : ∀ k,(gatherTo F k).length <= k
 | 0=>by simp [gatherTo]
 | k + 1=>by
  have ih:=gather_len F k
  simp only [gatherTo]
  split
  · omega
  · split
    · rw [bump_length];omega
    · simp;omega
theorem gather_some (F : Nat -> St) : ∀ k,(lastTo F k).m = true -> 0 < (gatherTo F k).length
 | 0,h=>by simp [lastTo,off] at h
 | k + 1,h=>by
  have h' : (F k).m = true:=h
  simp only [gatherTo,h']
  rw [if_neg (by simp)]
  split
  · rename_i he
    have hm : (lastTo F k).m = true:=by
     simp only [stEq,Bool.and_eq_true,beq_iff_eq] at he
     rw [<- he.1];exact h'
    rw [bump_length]
    exact gather_some F k hm
  · simp
theorem gather_pages (F : Nat -> St) : ∀ k,∀ i,i < (gatherTo F k).length -> 1 <= (at_ (gatherTo F k) i).pages /\ (at_ (gatherTo F k) i).pages <= k
 | 0,i,h=>by simp [gatherTo] at h
 | k + 1,i,h=>by
  have ih:=gather_pages F k
  simp only [gatherTo] at h ⊢
  split
  · rename_i hm
    rw [if_pos hm] at h
    have:=ih i h
    omega
  · rename_i hm
    rw [if_neg hm] at h
    split
    · rename_i he
      rw [if_pos he,bump_length] at h
      by_cases e : i = (gatherTo F k).length - 1
      · rw [e,bump,at_set_same _ _ _ (by omega)]
        have:=ih ((gatherTo F k).length - 1) (by omega)
        simp only
        omega
      · rw [bump,at_set_other _ _ _ _ e]
        have:=ih i h
        omega
    · rename_i he
      rw [if_neg he] at h
      by_cases e : i < (gatherTo F k).length
      · rw [at_append_left _ _ _ e]
        have:=ih i e
        omega
      · obtain rfl : i = (gatherTo F k).length:=by simp at h;omega
        rw [at_append_last]
        simp only
        omega
theorem stEq_eq (a b : St) (h : stEq a b = true) : a = b:=by
 cases a;cases b
 simp only [stEq,Bool.and_eq_true,beq_iff_eq] at h
 obtain ⟨h1,h2,h3⟩:=h
 subst h1;subst h2;subst h3;rfl
theorem stEq_ne (a b : St) (h : stEq a b = false) : (a.m == b.m) = false ∨ ((a.m == b.m) = true /\ (a.p == b.p) = false) ∨ ((a.m == b.m) = true /\ (a.p == b.p) = true /\ (a.z == b.z) = false):=by
 unfold stEq at h
 cases h1 : (a.m == b.m)
 · exact .inl rfl
 · cases h2 : (a.p == b.p)
   · exact .inr (.inl ⟨rfl,rfl⟩)
   · cases h3 : (a.z == b.z)
     · exact .inr (.inr ⟨rfl,rfl,rfl⟩)
     · rw [h1,h2,h3] at h;simp at h
def turned (F : Nat -> St) (how : St -> St × Int) (page t : Int) : Nat -> St:=fun k=>if page <= (k : Int) /\ (k : Int) < t then (how (F k)).1 else F k
def errFrom (F : Nat -> St) (how : St -> St × Int) : Nat -> Nat -> Int
 | _,0=>0
 | n,c + 1=>if (how (F n)).2 = 0 then errFrom F how (n + 1) c else (how (F n)).2
def turnN (l : List Ar) (page pages prot : Int) (how : St -> St × Int) : List Ar × Int :=
 if checkN l = 0 then
  if pagesB page pages && protB prot then
   if errFrom (spreadN l) how page.toNat pages.toNat = 0 then (gatherN (turned (spreadN l) how page (page + pages)),0)
   else ([],errFrom (spreadN l) how page.toNat pages.toNat)
  else ([],3)
 else ([],checkN l)
theorem turned_begin (F : Nat -> St) (how : St -> St × Int) (page : Int) : turned F how page page = F:=by
 funext k;simp only [turned];rw [if_neg (by omega)]
theorem turned_at (F : Nat -> St) (how : St -> St × Int) (page : Int) (n : Nat) : turned F how page n n = F n:=by
 simp only [turned];rw [if_neg (by omega)]
theorem turned_step (F : Nat -> St) (how : St -> St × Int) (page : Int) (n : Nat) (h : page <= (n : Int)) : upd (turned F how page n) n (how (F n)).1 = turned F how page ((n : Int) + 1):=by
 funext k
 simp only [upd,turned]
 by_cases e : k = n
 · subst e;rw [if_pos rfl,if_pos ⟨h,by omega⟩]
 · rw [if_neg e]
   by_cases c : page <= (k : Int) /\ (k : Int) < n
   · rw [if_pos c,if_pos ⟨c.1,by omega⟩]
   · rw [if_neg c,if_neg (by omega)]
theorem errFrom_zero (F : Nat -> St) (how : St -> St × Int) : ∀ (c n : Nat),(∀ k,n <= k -> k < n + c -> (how (F k)).2 = 0) -> errFrom F how n c = 0
 | 0,_,_=>rfl
 | c + 1,n,h=>by
  simp only [errFrom]
  rw [if_pos (h n (by omega) (by omega))]
  exact errFrom_zero F how c (n + 1) (fun k h1 h2=>h k (by omega) (by omega))
theorem errFrom_at (F : Nat -> St) (how : St -> St × Int) : ∀ (c n m : Nat),n <= m -> m < n + c -> (∀ k,n <= k -> k < m -> (how (F k)).2 = 0) -> (how (F m)).2 ≠ 0 -> errFrom F how n c = (how (F m)).2
 | 0,n,m,h1,h2,_,_=>by omega
 | c + 1,n,m,h1,h2,h,hm=>by
  simp only [errFrom]
  by_cases e : n = m
  · subst e;rw [if_neg hm]
  · rw [if_pos (h n (by omega) (by omega))]
    exact errFrom_at F how c (n + 1) m (by omega) (by omega) (fun k h1 h2=>h k (by omega) h2) hm
theorem pagesB_iff (p n : Int) : pagesB p n = true ↔ 1 <= p /\ 1 <= n /\ n <= 256 - p:=by simp [pagesB]
end AM
end Go.Proofs.YtpgifpeohlllfaaGreat
