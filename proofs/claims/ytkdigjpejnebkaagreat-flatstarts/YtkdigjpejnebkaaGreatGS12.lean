import Derived.Test.YtkdigjpejnebkaaGreatGS11
import Derived.Test.YtkdigjpejnebkaaGreatGS03
import Derived.Lib.Walk
import Derived.Lib.BufferWrite
import Derived.Laws.IdiomStrings
import Derived.Test.YtkdigjpejnebkaaGreatGS06
set_option linter.unusedVariables false
set_option maxRecDepth 100000
set_option linter.unusedSimpArgs false
namespace Go.Proofs.YtkdigjpejnebkaaGreat
namespace FW
open Go.RowKit
structure Low (l : List FM.Pg) (p : Int) (i : Nat) : Prop where
 le : i <= l.length
 low : ∀ j,j < i -> (FM.pgAt l j).page < p
 high : ∀ j,i <= j -> j < l.length -> p <= (FM.pgAt l j).page
def foundAt (l : List FM.Pg) (p : Int) (i : Nat) : Bool:=decide (i < l.length /\ (FM.pgAt l i).page = p)
def Rise (l : List FM.Pg) : Prop:=∀ i j,i < j -> j < l.length -> (FM.pgAt l i).page < (FM.pgAt l j).page
theorem cmp_neg (a b : Int) : cmpN a b < 0 ↔ a < b:=by
 unfold cmpN
 split
 · exact ⟨fun _=>by assumption,fun _=>by decide⟩
 · split <;> constructor <;> intro h <;> first | omega | (exfalso;revert h;decide)
theorem cmp_zero (a b : Int) : (cmpN a b == 0) = decide (a = b):=by
 unfold cmpN
 by_cases h1 : a < b
 · rw [if_pos h1,decide_eq_false (by omega)];rfl
 · rw [if_neg h1]
   by_cases h2 : b < a
   · rw [if_pos h2,decide_eq_false (by omega)];rfl
   · rw [if_neg h2,decide_eq_true (by omega)];rfl
set_option maxHeartbeats 2000000 in
theorem search_any (l : List FM.Pg) (p : Int) (ao : Option Addr) (cap : Nat) (w : World) (h : HasP w ao l) (hr : Rise l) (hn : l.length <= 140737488351232) :
  Calls Tryz.prog 89 #[.slice ao l.length cap,.int .i64 p,.func (.func 90) #[] #[]] w fun e w'=>∃ i,Low l p i /\ e = .returned (.tuple #[.int .i64 (i : Int),.bool (foundAt l p i)]) /\ Below w.heap.size w w':=by
 have HH:=hideC h
 have HR:=hideC hr
 have HP1:=hideC (fun a d V=>place1_any a d p V)
 clear h hr
 go_enter Tryz.func89,Tryz.ntmps89
 go_wp2
 go_loopw [9,10] (fun iv jv wr=>∃ lo hi : Nat,lo <= hi /\ hi <= l.length /\ iv = .int .i64 (lo : Int) /\ jv = .int .i64 (hi : Int) /\ (∀ j,j < lo -> (FM.pgAt l j).page < p) /\ (∀ j,hi <= j -> j < l.length -> p <= (FM.pgAt l j).page) /\ Below w.heap.size w wr) (fun iv jv _=>(intOf jv).toNat - (intOf iv).toNat)
 case atStart=>exact ⟨0,l.length,by omega,by omega,rfl,rfl,fun j hj=>by omega,fun j h1 h2=>by omega,Below.refl _ _⟩
 case round =>
  obtain ⟨lo,hi,hlh,hhl,rfl,rfl,hlow,hhigh,hb⟩:=hrel
  have HLO:=hideC hlow
  have HHI:=hideC hhigh
  have HB:=hideC hb
  clear hlow hhigh
  by_cases hlt : lo < hi
  · obtain ⟨m,hm⟩ : ∃ m,m = (lo + hi) / 2:=⟨_,rfl⟩
    have hm1 : lo <= m:=by omega
    have hm2 : m < hi:=by omega
    have hmi : ((lo : Int) + hi) / 2 = (m : Int):=by omega
    have HMI:=hideC hmi
    have hq1 : ((lo : Int) + hi) / 2 < (l.length : Int):=by omega
    have hq0 : 0 <= ((lo : Int) + hi) / 2:=by omega
    have hqn : (((lo : Int) + hi) / 2).toNat = m:=by omega
    obtain ⟨b,off,hao,hbl,hlie⟩:=(HH.out.below hb) (by omega)
    subst hao
    obtain ⟨c0,c1⟩:=hlie m (by omega)
    have HCN:=hideC (cmp_neg (FM.pgAt l m).page p)
    have HP2:=hideC (HP1.out (FM.pgAt l m).page (FM.pgAt l m).data)
    have HUP : Hid ((FM.pgAt l m).page < p -> ∀ j,j < m + 1 -> (FM.pgAt l j).page < p):=fun e j hj=>by
     by_cases q : j = m
     · rw [q];exact e
     · have:=HR.out j m (by omega) (by omega)
       omega
    have HDN : Hid (¬ (FM.pgAt l m).page < p -> ∀ j,m <= j -> j < l.length -> p <= (FM.pgAt l j).page):=fun e j h1 h2=>by
     by_cases q : j = m
     · rw [q];omega
     · have:=HR.out m j (by omega) h2
       omega
    obtain ⟨pg,hpg⟩ : ∃ pg,pg = (FM.pgAt l m).page:=⟨_,rfl⟩
    obtain ⟨dt,hdt⟩ : ∃ dt,dt = (FM.pgAt l m).data:=⟨_,rfl⟩
    rw [<- hpg] at c0 HCN HP2 HUP HDN
    rw [<- hdt] at c1 HP2
    rw [hm] at c0 c1
    obtain ⟨cm,hcm⟩ : ∃ cm,cm = cmpN pg p:=⟨_,rfl⟩
    rw [<- hcm] at HCN HP2
    clear hmi hm hqn hlie hb hpg hdt hcm
    by_cases hcn : cm < 0
    · have HU2:=hideC (HUP.out (HCN.out.1 hcn))
      clear HUP HDN
      go_wp2_with (go_at_call 90;refine (HP2.out _).mono ?_;rintro e w1 ⟨rfl,hb1⟩;have HB1:=hideC (add_below HB.out hb1);clear hb1)
      go_roundw
      case rel=>exact ⟨m + 1,hi,by omega,hhl,congrArg (Value.int .i64) (by have:=HMI.out;omega),rfl,HU2.out,HHI.out,HB1.out⟩
      case measure=>simp [intOf];have:=HMI.out;omega
    · have HD2:=hideC (HDN.out (fun g=>hcn (HCN.out.2 g)))
      clear HUP HDN
      go_wp2_with (go_at_call 90;refine (HP2.out _).mono ?_;rintro e w1 ⟨rfl,hb1⟩;have HB1:=hideC (add_below HB.out hb1);clear hb1)
      go_roundw
      case rel=>exact ⟨lo,m,hm1,by omega,rfl,congrArg (Value.int .i64) HMI.out,HLO.out,HD2.out,HB1.out⟩
      case measure=>simp [intOf];have:=HMI.out;omega
  · obtain rfl : lo = hi:=by omega
    have HLW : Hid (Low l p lo):=⟨hhl,HLO.out,HHI.out⟩
    by_cases hlt2 : lo < l.length
    · obtain ⟨b,off,hao,hbl,hlie⟩:=(HH.out.below hb) (by omega)
      subst hao
      obtain ⟨c0,c1⟩:=hlie lo hlt2
      have HP2:=hideC (HP1.out (FM.pgAt l lo).page (FM.pgAt l lo).data)
      have HCZ:=hideC (cmp_zero (FM.pgAt l lo).page p)
      have HDC : Hid (foundAt l p lo = decide ((FM.pgAt l lo).page = p)):=by
       show _ = _
       unfold foundAt
       rw [decide_eq_decide]
       exact ⟨fun g=>g.2,fun g=>⟨hlt2,g⟩⟩
      obtain ⟨pg,hpg⟩ : ∃ pg,pg = (FM.pgAt l lo).page:=⟨_,rfl⟩
      obtain ⟨dt,hdt⟩ : ∃ dt,dt = (FM.pgAt l lo).data:=⟨_,rfl⟩
      have HDC2:=HDC
      rw [<- hpg] at c0 HP2 HCZ
      rw [<- hdt] at c1 HP2
      have HPG:=hideC hpg
      clear hpg hdt hlie hb hlt
      go_wp2_with (go_at_call 90;refine (HP2.out _).mono ?_;rintro e w1 ⟨rfl,hb1⟩;have HB1:=hideC (add_below HB.out hb1);clear hb1)
      go_ret2
      refine ⟨lo,HLW.out,?_,HB1.out⟩
      rw [HDC.out,<- HPG.out,<- HCZ.out]
      rfl
    · have HDC : Hid (foundAt l p lo = false):=decide_eq_false (fun g=>hlt2 g.1)
      have hge : ¬ (lo : Int) < (l.length : Int):=by omega
      clear hb hlt
      go_wp2
      go_ret2
      refine ⟨lo,HLW.out,?_,HB.out⟩
      rw [HDC.out]
      rfl
set_option maxHeartbeats 1000000 in
theorem place_any (l : List FM.Pg) (p : Int) (ao : Option Addr) (cap : Nat) (w : World) (h : HasP w ao l) (hr : Rise l) (hn : l.length <= 140737488351232) :
  Calls Tryz.prog 60 #[.slice ao l.length cap,.int .i64 p] w fun e w'=>∃ i,Low l p i /\ e = .returned (.tuple #[.int .i64 (i : Int),.bool (foundAt l p i)]) /\ Below w.heap.size w w':=by
 have HS:=hideC (search_any l p ao cap w h hr hn)
 clear h hr
 go_enter Tryz.func60,Tryz.ntmps60
 go_wp2_with (go_at_call 89;refine HS.out.mono ?_;rintro e w1 ⟨i,hi,rfl,hb1⟩;have HL:=hideC hi;have HB1:=hideC hb1;clear hb1 hi)
 go_ret2
 exact ⟨i,HL.out,rfl,HB1.out⟩
def peekFrom (p : Int) : List FM.Pg -> Option ByteArray
 | []=>none
 | x :: r=>if x.page = p then some x.data else peekFrom p r
theorem peek_at : ∀ (l : List FM.Pg) (p : Int) (k : Nat),k < l.length -> (∀ j,j < k -> ¬ (FM.pgAt l j).page = p) -> (FM.pgAt l k).page = p -> peekFrom p l = some (FM.pgAt l k).data
 | [],p,k,h,_,_=>by simp at h
 | x :: r,p,0,h,_,e=>by
  show (if x.page = p then some x.data else peekFrom p r) = _
  rw [if_pos (show x.page = p from e)]
  rfl
 | x :: r,p,k + 1,h,hn,e=>by
  show (if x.page = p then some x.data else peekFrom p r) = _
  rw [if_neg (show ¬ x.page = p from hn 0 (by omega))]
  exact peek_at r p k (by simp at h;omega) (fun j hj=>hn (j + 1) (by omega)) e
theorem rise_pairs {l : List FM.Pg} (h : (FM.numbers l).Pairwise (· < ·)) : Rise l:=fun i j hij hj=>by
 have hl : (FM.numbers l).length = l.length:=List.length_map _
 have:=List.pairwise_iff_getElem.1 h i j (by omega) (by omega) hij
 rw [<- FM.numbers_at,<- FM.numbers_at,List.getD_eq_getElem?_getD,List.getD_eq_getElem?_getD,List.getElem?_eq_getElem (show i < (FM.numbers l).length by omega),List.getElem?_eq_getElem (show j < (FM.numbers l).length by omega)]
 exact this
end FW
namespace CL
open Go.RowKit Go.Lib
theorem storeCells_marked (P : Program) (g o : Nat) (t : TypeId) (m1 m2 : Nat) : ∀ (vs : List Value) (i : Nat) (cur : Array Value) (w : World),w.heap[g]? = some (.cells cur t (m1,m2)) -> cur.size <= m1 -> o + i + vs.length <= cur.size -> (∀ v ∈ vs,v.oneCell' = true) ->
  (storeCells ⟨g,o,none⟩ vs i).run P w = .ok () (w.setRow g (cur.toList.take (o + i) ++ vs ++ cur.toList.drop (o + i + vs.length)).toArray)
 | [],i,cur,w,hg,_,_,_=>by
  simp only [storeCells,List.append_nil,List.length_nil,Nat.add_zero,List.take_append_drop,Array.toArray_toList]
  rw [setRow_self w g cur t (m1,m2) hg]
  rfl
 | v :: rest,i,cur,w,hg,hm,hl,h1=>by
  have hi : o + i < cur.size:=by simp at hl;omega
  have hadd : (⟨g,o,none⟩ : Addr).add i = ⟨g,o + i,none⟩:=by unfold Addr.add;split <;> simp_all
  have hcell : w.cell? ⟨g,o + i,none⟩ = some cur[o + i]:=by simp [World.cell?,hg,hi]
  have hfro : w.frozen? ⟨g,o + i,none⟩ = false:=by simp [World.frozen?,hg];omega
  have hst : (store ((⟨g,o,none⟩ : Addr).add i) v).run P w = .ok () (w.setRow g (cur.setIfInBounds (o + i) v)):=by
   rw [hadd,run_store P w _ v _ (h1 v (by simp)),hcell]
   simp [hfro,setCell_eq_setRow w g (o + i) cur t (m1,m2) v hg]
  have ih:=storeCells_marked P g o t m1 m2 rest (i + 1) (cur.setIfInBounds (o + i) v) (w.setRow g (cur.setIfInBounds (o + i) v)) (setRow_heap w g cur _ t _ hg) (by simpa using hm) (by simp at hl ⊢;omega) (fun x hx=>h1 x (by simp [hx]))
  simp only [storeCells,Sem.run_bind,hst,Result.andThen_ok,ih,setRow_setRow]
  congr 3
  have e:=list_seg_step cur.toList (o + i) v rest (by simp at hl ⊢;omega)
  simpa [Array.toList_setIfInBounds,Nat.add_assoc] using e
theorem copy_marked {P : Program} (w : World) (dT sT ty elem : TypeId) (g o dLen dCap : Nat) (s : ByteArray) (cur : Array Value) (t : TypeId) (m1 m2 : Nat)
  (hu : P.underlying dT = some (.slice elem)) (hs : (P.info? elem).map (·.size) = some 1) (hg : w.heap[g]? = some (.cells cur t (m1,m2))) (hm : cur.size <= m1) (hle : s.size <= dLen) (hfit : o + s.size <= cur.size) :
  (Builtin.copy_ #[dT,sT] ty #[.slice (some ⟨g,o,none⟩) dLen dCap,.string s]).run P w =
   .ok (goInt s.size) (w.setRow g (cur.toList.take o ++ Lib.byteCells s.data.toList ++ cur.toList.drop (o + s.size)).toArray):=by
 have hlen : (Lib.byteCells s.data.toList).length = s.size:=by rw [Lib.byteCells_length,<- size_eq]
 have hst:=storeCells_marked P g o t m1 m2 (Lib.byteCells s.data.toList) 0 cur w hg hm (by rw [hlen];simpa using hfit) (Lib.byteCells_one _)
 have hmin : Nat.min s.size dLen = s.size:=Nat.min_eq_left hle
 have htk : List.take s.size (List.map (fun b : UInt8=>Value.int IntKind.u8 (b.toNat : Int)) s.data.toList) = Lib.byteCells s.data.toList:=by
  rw [List.take_of_length_le (by rw [List.length_map,<- size_eq];exact Nat.le_refl _)]
  rfl
 rw [hlen] at hst
 simp only [Nat.add_zero] at hst
 cases hq : P.info? elem with
 | none=>simp [hq] at hs
 | some i =>
  simp [Builtin.copy_,run_underlying hu,Builtin.lenOf,Builtin.firstCells,sizeOf,typeInfo,hq,hmin]
  rw [htk,hst]
  simp [Result.andThen]
theorem bytesRow_size (s : ByteArray) (c : Nat) : (bytesRow s c).size = s.size + (c - s.size):=by
 simp [bytesRow]
def over (s : ByteArray) (o : Nat) (t : ByteArray) : ByteArray:=⟨(s.data.toList.take o ++ t.data.toList ++ s.data.toList.drop (o + t.size)).toArray⟩
theorem over_cells (s : ByteArray) (o : Nat) (t : ByteArray) (c : Nat) (h : o + t.size <= s.size) (i : Nat) (hi : i < s.size) :
  ((bytesRow s c).toList.take o ++ Lib.byteCells t.data.toList ++ (bytesRow s c).toList.drop (o + t.size))[i]? = some (.int .u8 (((over s o t).data.toList.map fun b=>(b.toNat : Int)).getD i 0)):=by
 have hts : t.size = t.data.toList.length:=size_eq t
 have hss : s.size = s.data.toList.length:=size_eq s
 have hr : (bytesRow s c).toList = Lib.byteCells s.data.toList ++ List.replicate (c - s.size) (.int .u8 0):=by
  simp [bytesRow,Lib.byteCells]
 have e : (bytesRow s c).toList.take o ++ Lib.byteCells t.data.toList ++ (bytesRow s c).toList.drop (o + t.size) = Lib.byteCells (over s o t).data.toList ++ List.replicate (c - s.size) (.int .u8 0):=by
  rw [hr,List.take_append_of_le_length (by rw [Lib.byteCells_length];omega),List.drop_append_of_le_length (by rw [Lib.byteCells_length];omega)]
  simp [over,Lib.byteCells,List.map_append,List.map_take,List.map_drop]
 have hol : (over s o t).data.toList.length = s.size:=by
  simp only [over,List.length_append,List.length_take,List.length_drop];omega
 rw [e,List.getElem?_append_left (by rw [Lib.byteCells_length,hol];exact hi)]
 exact CM.byteCells_get _ i (by rw [hol];exact hi)
theorem over_size (s : ByteArray) (o : Nat) (t : ByteArray) (h : o + t.size <= s.size) : (over s o t).data.toList.length = s.size:=by
 have hts : t.size = t.data.toList.length:=size_eq t
 have hss : s.size = s.data.toList.length:=size_eq s
 simp only [over,List.length_append,List.length_take,List.length_drop];omega
theorem over_parts (s : ByteArray) (o : Nat) (t : ByteArray) : s.extract 0 o ++ t ++ s.extract (o + t.size) s.size = over s o t:=by
 have hss : s.size = s.data.toList.length:=size_eq s
 apply ByteArray.ext
 apply Array.toList_inj.1
 simp only [ByteArray.data_append,Array.toList_append,extract_data,over]
 have e : List.take (s.size - (o + t.size)) (List.drop (o + t.size) s.data.toList) = List.drop (o + t.size) s.data.toList:=List.take_of_length_le (by rw [List.length_drop];omega)
 rw [List.drop_zero,Nat.sub_zero,e]
theorem over_nil (s : ByteArray) (o : Nat) (t : ByteArray) (h : t.size = 0) : over s o t = s:=by
 have hts : t.data.toList = []:=List.eq_nil_of_length_eq_zero (by rw [<- size_eq];exact h)
 apply ByteArray.ext
 simp [over,hts,h]
theorem over_size' (s : ByteArray) (o : Nat) (t : ByteArray) (h : o + t.size <= s.size) : (over s o t).size = s.size:=by
 rw [size_eq,over_size s o t h]
end CL
namespace GM
open Go.RowKit
structure Mf where
 slots : Int
 spaces : List FM.Sp
def pgD (ps : List FM.Pg) (p : Int) : ByteArray:=(FW.peekFrom p ps).getD ⟨#[]⟩
def lastP (a n : Int) : Int:=(a + n - 1) / 16
def joinF (ps : List FM.Pg) (a n : Int) : ByteArray:=if lastP a n = a / 16 then pgD ps (a / 16) else pgD ps (a / 16) ++ pgD ps (lastP a n)
def loadF (ps : List FM.Pg) (a n : Int) : ByteArray:=(joinF ps a n).extract (a % 16).toNat ((a % 16).toNat + n.toNat)
def setPg (p : Int) (d : ByteArray) (ps : List FM.Pg) : List FM.Pg:=ps.map (fun g=>if g.page = p then ⟨p,d⟩ else g)
def storeF (ps : List FM.Pg) (a : Int) (s : ByteArray) : List FM.Pg :=
 if lastP a s.size = a / 16 then setPg (a / 16) ((CL.over (joinF ps a s.size) (a % 16).toNat s).extract 0 16) ps
 else setPg (lastP a s.size) ((CL.over (joinF ps a s.size) (a % 16).toNat s).extract 16 32) (setPg (a / 16) ((CL.over (joinF ps a s.size) (a % 16).toNat s).extract 0 16) ps)
def zero16 : ByteArray:=⟨#[0,0,0,0,0,0,0,0,0,0,0,0,0,0,0,0]⟩
def zerosF (p : Int) (n : Nat) : List FM.Pg:=(FM.run p n).map (fun x=>⟨x,zero16⟩)
def lowN (ps : List FM.Pg) (p : Int) : Nat:=(ps.takeWhile (fun g=>decide (g.page < p))).length
def insF (ps : List FM.Pg) (p : Int) (n : Nat) : List FM.Pg:=ps.take (lowN ps p) ++ (zerosF p n ++ ps.drop (lowN ps p))
def outF (ps : List FM.Pg) (p n : Int) : List FM.Pg:=ps.filter (fun g=>!(decide (p <= g.page /\ g.page < p + n)))
def turnS (m : Mf) (k : Nat) (s : FM.Sp) : Mf:={ m with spaces:=m.spaces.set k s }
def loadM (m : Mf) (k : Nat) (a n way : Int) : (ByteArray × (Int × Int)) × Mf :=
 if (FM.faultN (FM.spAt m.spaces k).areas a n way).1 = 0 then ((loadF (FM.spAt m.spaces k).pages a n,(0,0)),m) else ((⟨#[]⟩,FM.faultN (FM.spAt m.spaces k).areas a n way),m)
def storeM (m : Mf) (k : Nat) (a : Int) (d : ByteArray) : (Int × Int) × Mf :=
 if (FM.faultN (FM.spAt m.spaces k).areas a d.size 1).1 = 0 then ((0,0),turnS m k { FM.spAt m.spaces k with pages:=storeF (FM.spAt m.spaces k).pages a d }) else (FM.faultN (FM.spAt m.spaces k).areas a d.size 1,m)
def mapM (m : Mf) (k : Nat) (p n q : Int) : Int × Mf :=
 if ¬ (AW.mapN (FM.spAt m.spaces k).areas p n q).2 = 0 then ((AW.mapN (FM.spAt m.spaces k).areas p n q).2,m)
 else if m.slots < FM.room m.spaces + n then (8,m)
 else (0,turnS m k { FM.spAt m.spaces k with areas:=(AW.mapN (FM.spAt m.spaces k).areas p n q).1,pages:=insF (FM.spAt m.spaces k).pages p n.toNat })
def unmapM (m : Mf) (k : Nat) (p n : Int) : Int × Mf :=
 if ¬ (AW.unmapN (FM.spAt m.spaces k).areas p n).2 = 0 then ((AW.unmapN (FM.spAt m.spaces k).areas p n).2,m)
 else (0,turnS m k { FM.spAt m.spaces k with areas:=(AW.unmapN (FM.spAt m.spaces k).areas p n).1,pages:=outF (FM.spAt m.spaces k).pages p n })
def protectM (m : Mf) (k : Nat) (p n q : Int) : Int × Mf :=
 if ¬ (AW.protectN (FM.spAt m.spaces k).areas p n q).2 = 0 then ((AW.protectN (FM.spAt m.spaces k).areas p n q).2,m)
 else (0,turnS m k { FM.spAt m.spaces k with areas:=(AW.protectN (FM.spAt m.spaces k).areas p n q).1 })
def forkM (m : Mf) (k : Nat) : Int × Mf :=
 if 4 <= m.spaces.length then (2,m) else if m.slots < FM.room m.spaces + AM.totalN (FM.spAt m.spaces k).areas then (8,m)
 else (0,{ m with spaces:=m.spaces ++ [FM.spAt m.spaces k] })
def dropM (m : Mf) (k : Nat) : Mf:=turnS m k FM.sp0
def flatOps : GG.Ops Mf:=⟨loadM,storeM,mapM,unmapM,protectM,forkM,dropM⟩
structure OkF (m : Mf) (fl : List Bool) : Prop where
 flags : fl = m.spaces.map (·.live)
 each : ∀ k,k < m.spaces.length -> FM.rightSpace (FM.spAt m.spaces k) = true
 room : FM.room m.spaces <= m.slots
 slots : 0 <= m.slots /\ m.slots <= 512
 few : 1 <= m.spaces.length /\ m.spaces.length <= 4
theorem spAt_set (l : List FM.Sp) (k j : Nat) (s : FM.Sp) (hk : k < l.length) : FM.spAt (l.set k s) j = if j = k then s else FM.spAt l j:=by
 unfold FM.spAt
 rw [List.getD_eq_getElem?_getD,List.getD_eq_getElem?_getD,List.getElem?_set]
 by_cases h : j = k
 · rw [if_pos h,if_pos h.symm]
   subst h
   rw [if_pos hk];rfl
 · rw [if_neg h,if_neg (fun g=>h g.symm)]
theorem OkF.live {m : Mf} {fl : List Bool} (h : OkF m fl) {k : Nat} (hk : fl.getD k false = true) : k < m.spaces.length /\ (FM.spAt m.spaces k).live = true:=by
 rw [h.flags,List.getD_eq_getElem?_getD,List.getElem?_map] at hk
 by_cases c : k < m.spaces.length
 · rw [List.getElem?_eq_getElem c] at hk
   refine ⟨c,?_⟩
   unfold FM.spAt
   rw [List.getD_eq_getElem?_getD,List.getElem?_eq_getElem c]
   exact hk
 · rw [List.getElem?_eq_none (by omega)] at hk
   cases hk
structure Liv (s : FM.Sp) : Prop where
 check : AM.checkN s.areas = 0
 nums : FM.numbers s.pages = FM.pagesOf s.areas
 size : ∀ k,k < s.pages.length -> (FM.pgAt s.pages k).data.size = 16
theorem liv_of {s : FM.Sp} (h : FM.rightSpace s = true) (hl : s.live = true) : Liv s:=by
 unfold FM.rightSpace at h
 rw [if_pos hl] at h
 simp only [Bool.and_eq_true,decide_eq_true_eq] at h
 refine ⟨h.1,h.2.1,fun k hk=>?_⟩
 have:=h.2.2
 unfold FM.sized at this
 exact of_decide_eq_true (List.all_eq_true.1 this _ (FM.pgAt_mem hk))
theorem right_of {s : FM.Sp} (h : Liv s) (hl : s.live = true) : FM.rightSpace s = true:=by
 unfold FM.rightSpace
 rw [if_pos hl,decide_eq_true h.check,decide_eq_true h.nums]
 have : FM.sized s.pages = true:=by
  unfold FM.sized
  rw [List.all_eq_true]
  intro p hp
  obtain ⟨k,hk,rfl⟩:=FM.mem_pgAt hp
  exact decide_eq_true (h.size k hk)
 rw [this];rfl
theorem Liv.rise {s : FM.Sp} (h : Liv s) : FW.Rise s.pages:=FW.rise_pairs (by rw [h.nums];exact (FM.asc_of h.check).sorted)
theorem room_set : ∀ (l : List FM.Sp) (k : Nat) (s : FM.Sp),k < l.length -> FM.room (l.set k s) = FM.room l - AM.totalN (FM.spAt l k).areas + AM.totalN s.areas:=fun l k s hk=>by
 have key : ∀ n,n <= l.length -> FM.roomTo (l.set k s) n = FM.roomTo l n + (if k < n then AM.totalN s.areas - AM.totalN (FM.spAt l k).areas else 0):=fun n=>by
  induction n with
  | zero=>intro _;rw [if_neg (by omega)];rfl
  | succ n ih =>
   intro hn
   show FM.roomTo (l.set k s) n + AM.totalN (FM.spAt (l.set k s) n).areas = FM.roomTo l n + AM.totalN (FM.spAt l n).areas + _
   rw [ih (by omega),spAt_set l k n s hk]
   by_cases c : n = k
   · subst c
     rw [if_pos rfl,if_neg (by omega),if_pos (by omega)]
     omega
   · rw [if_neg c]
     by_cases d : k < n
     · rw [if_pos d,if_pos (by omega)];omega
     · rw [if_neg d,if_neg (by omega)];omega
 unfold FM.room
 rw [List.length_set,key _ (Nat.le_refl _),if_pos hk]
 omega
theorem room_snoc (l : List FM.Sp) (s : FM.Sp) : FM.room (l ++ [s]) = FM.room l + AM.totalN s.areas:=by
 have key : ∀ n,n <= l.length -> FM.roomTo (l ++ [s]) n = FM.roomTo l n:=fun n=>by
  induction n with
  | zero=>intro _;rfl
  | succ n ih =>
   intro hn
   show FM.roomTo (l ++ [s]) n + AM.totalN (FM.spAt (l ++ [s]) n).areas = FM.roomTo l n + AM.totalN (FM.spAt l n).areas
   rw [ih (by omega)]
   congr 3
   unfold FM.spAt
   rw [List.getD_eq_getElem?_getD,List.getD_eq_getElem?_getD,List.getElem?_append_left (by omega)]
 unfold FM.room
 rw [List.length_append,List.length_singleton]
 show FM.roomTo (l ++ [s]) l.length + AM.totalN (FM.spAt (l ++ [s]) l.length).areas = _
 rw [key _ (Nat.le_refl _)]
 congr 3
 unfold FM.spAt
 rw [List.getD_eq_getElem?_getD,List.getElem?_append_right (Nat.le_refl _),Nat.sub_self]
 rfl
theorem sorted_ext {a b : List Int} (ha : a.Pairwise (· < ·)) (hb : b.Pairwise (· < ·)) (h : ∀ x,x ∈ a ↔ x ∈ b) : a = b :=
 FM.sorted_eq b a ha hb (fun x hx=>(h x).1 hx) (Nat.le_antisymm (FM.sorted_le b a ha hb (fun x hx=>(h x).1 hx)) (FM.sorted_le a b hb ha (fun x hx=>(h x).2 hx)))
theorem mem_of_find {l : List AM.Ar} (hc : AM.checkN l = 0) {x : Int} : x ∈ FM.pagesOf l ↔ (AM.findN l x).2 = true:=(FM.found_mem hc x).symm
theorem page_range {l : List AM.Ar} (hc : AM.checkN l = 0) {x : Int} (h : x ∈ FM.pagesOf l) : 1 <= x /\ x < 256:=by
 have:=FM.found_page hc (mem_of_find hc |>.1 h)
 omega
theorem pages_map {l : List AM.Ar} {p n q : Int} (hc : AM.checkN l = 0) (h : (AW.mapN l p n q).2 = 0) : AM.checkN (AW.mapN l p n q).1 = 0 /\ (1 <= p /\ 1 <= n /\ p + n <= 256) /\ (∀ x,x ∈ FM.pagesOf (AW.mapN l p n q).1 ↔ (x ∈ FM.pagesOf l ∨ (p <= x /\ x < p + n))) /\ (∀ x,p <= x -> x < p + n -> x ∉ FM.pagesOf l):=by
 obtain ⟨h1,h2⟩:=AW.map_keeps l p n q h
 obtain ⟨_,hpp,_,_,_⟩:=AW.turn_ok _ _ _ _ _ h
 have hpb:=(AM.pagesB_iff p n).1 hpp
 refine ⟨h1,by omega,fun x=>?_,fun x g1 g2 hx=>?_⟩
 · rw [mem_of_find h1,mem_of_find hc]
   by_cases c : 1 <= x /\ x <= 255
   · obtain ⟨m,rfl⟩ : ∃ m : Nat,x = (m : Int):=⟨x.toNat,by omega⟩
     obtain ⟨k1,k2⟩:=h2 m (by omega) (by omega)
     by_cases d : p <= (m : Int) /\ (m : Int) < p + n
     · exact ⟨fun _=>.inr d,fun _=>(k1 d).2.1⟩
     · rw [(k2 d).1]
       exact ⟨fun g=>.inl g,fun g=>by rcases g with g | g;exact g;exact (d g).elim⟩
   · constructor
     · intro g
       have:=FM.found_page h1 g
       omega
     · rintro (g | g)
       · have:=FM.found_page hc g
         omega
       · omega
 · obtain ⟨m,rfl⟩ : ∃ m : Nat,x = (m : Int):=⟨x.toNat,by omega⟩
   have:=(h2 m (by omega) (by omega)).1 ⟨g1,g2⟩
   rw [mem_of_find hc,this.1] at hx
   cases hx
theorem pages_unmap {l : List AM.Ar} {p n : Int} (hc : AM.checkN l = 0) (h : (AW.unmapN l p n).2 = 0) : AM.checkN (AW.unmapN l p n).1 = 0 /\ (1 <= p /\ 1 <= n /\ p + n <= 256) /\ (∀ x,x ∈ FM.pagesOf (AW.unmapN l p n).1 ↔ (x ∈ FM.pagesOf l /\ ¬ (p <= x /\ x < p + n))):=by
 obtain ⟨h1,h2⟩:=AW.unmap_keeps l p n h
 obtain ⟨_,hpp,_,_,_⟩:=AW.turn_ok _ _ _ _ _ h
 have hpb:=(AM.pagesB_iff p n).1 hpp
 refine ⟨h1,by omega,fun x=>?_⟩
 rw [mem_of_find h1,mem_of_find hc]
 by_cases c : 1 <= x /\ x <= 255
 · obtain ⟨m,rfl⟩ : ∃ m : Nat,x = (m : Int):=⟨x.toNat,by omega⟩
   obtain ⟨k1,k2⟩:=h2 m (by omega) (by omega)
   by_cases d : p <= (m : Int) /\ (m : Int) < p + n
   · rw [k1 d]
     exact ⟨(fun g=>by cases g),fun g=>(g.2 d).elim⟩
   · rw [(k2 d).1]
     exact ⟨fun g=>⟨g,d⟩,fun g=>g.1⟩
 · constructor
   · intro g
     have:=FM.found_page h1 g
     omega
   · rintro ⟨g,_⟩
     have:=FM.found_page hc g
     omega
theorem pages_protect {l : List AM.Ar} {p n q : Int} (hc : AM.checkN l = 0) (h : (AW.protectN l p n q).2 = 0) : AM.checkN (AW.protectN l p n q).1 = 0 /\ FM.pagesOf (AW.protectN l p n q).1 = FM.pagesOf l:=by
 obtain ⟨h1,h2⟩:=AW.protect_keeps l p n q h
 refine ⟨h1,sorted_ext (FM.asc_of h1).sorted (FM.asc_of hc).sorted (fun x=>?_)⟩
 rw [mem_of_find h1,mem_of_find hc]
 by_cases c : 1 <= x /\ x <= 255
 · obtain ⟨m,rfl⟩ : ∃ m : Nat,x = (m : Int):=⟨x.toNat,by omega⟩
   rw [(h2 m (by omega) (by omega)).1.1]
 · constructor
   · intro g
     have:=FM.found_page h1 g
     omega
   · intro g
     have:=FM.found_page hc g
     omega
end GM
end Go.Proofs.YtkdigjpejnebkaaGreat
