import Derived.Test.YtpgifpeohlllfaaGreatGJ07
import Derived.Test.YtpgifpeohlllfaaGreatGJ03
import Derived.Lib.Walk
import Derived.Lib.BufferWrite
import Derived.Lib.Hide
import Derived.Laws.MakeOwn
import Derived.Laws.IdiomStrings
import Derived.WalkSpells
import Derived.Deep.QuietTactic
import Derived.BigQuiet
import Derived.Laws.CopyOwn
import Derived.Test.YtpgifpeohlllfaaGreatGJ02
import Derived.Test.YtpgifpeohlllfaaGreatGJ00
set_option maxHeartbeats 20000000
set_option linter.unusedVariables false
set_option maxRecDepth 100000
set_option linter.unusedSimpArgs false
namespace Go.Proofs.YtpgifpeohlllfaaGreat
namespace CW
open Go.RowKit
set_option maxHeartbeats 400000 in
theorem clone18 (s : ByteArray) (w : World) (hlim : s.size <= 281474976710656) :
  Calls Tryz.prog 152 #[.string s] w fun e w'=>e = .returned (.string s) /\ Below w.heap.size w w':=by
 by_cases h0 : s.size = 0
 · have hs : s = ⟨#[]⟩:=by
    apply ByteArray.ext
    exact Array.eq_empty_of_size_eq_zero h0
   subst hs
   go_enter Tryz.func152,Tryz.ntmps152
   go_wp2
   go_ret
   exact ⟨rfl,Below.refl _ _⟩
 · obtain ⟨i0,hi,hz0,hz1,hz2⟩:=info_parts info5
   have hinfo : (Tryz.prog.info? 5).map (·.size) = some 1:=by rw [hi];simp [hz1]
   have hco : Tryz.prog.cellsOf 5 = 1:=by simp [Program.cellsOf,hi,hz1]
   obtain ⟨M,hM⟩ : ∃ M,M = madeCells (Value.int .u8 0).cells (((s.size : Nat) : Int).toNat * i0.size):=⟨_,rfl⟩
   have hMs : M.size = s.size:=by rw [hM,size_madeCells,hz1];simp
   have hmk : ∀ W : World,(Instr.makeSlice 137 (.int .i64 (s.size : Int)) (.int .i64 (s.size : Int))).run Tryz.prog W = .ok (.slice (some ⟨W.heap.size,0,none⟩) s.size s.size) (W.alloc (.cells M 5)):=fun W=>by
    have h:=run_make (P:=Tryz.prog) W 137 5 i0 (.int .u8 0) Tryz.underlying137 hi hz0 .i64 .i64 (s.size : Int) (s.size : Int) (by omega) (by omega) (by rw [hz2];omega) (by omega)
    rw [<- hM] at h
    simpa using h
   clear hM
   have hcp:=Lib.run_copy_row_string (P:=Tryz.prog) (w.alloc (.cells M 5)) 137 9 3 5 w.heap.size 0 s.size s.size s M 5 Tryz.underlying137 hinfo (heap_alloc_new w _) (Nat.le_refl _) (by omega)
   obtain ⟨Y,hY⟩ : ∃ Y,Y = (M.toList.take 0 ++ Lib.byteCells s.data.toList ++ M.toList.drop (0 + s.size)).toArray:=⟨_,rfl⟩
   rw [<- hY] at hcp
   have hYl : Y.toList = Lib.byteCells s.data.toList:=by
    rw [hY,List.toList_toArray,List.take_zero,List.nil_append,List.drop_of_length_le (by rw [Array.length_toList];omega),List.append_nil]
   have hYs : Y.size = s.size:=by rw [<- Array.length_toList,hYl,Lib.byteCells_length,<- Lib.size_eq]
   have hgY : ((w.alloc (.cells M 5)).setRow w.heap.size Y).heap[w.heap.size]? = some (.cells Y 5 (0,0)):=setRow_heap _ _ M _ 5 (0,0) (heap_alloc_new w _)
   have hne : s.data.toList ≠ []:=fun e=>h0 (by rw [Lib.size_eq,e];rfl)
   have hUS:=Lib.run_unsafeString_row (P:=Tryz.prog) ((w.alloc (.cells M 5)).setRow w.heap.size Y) 235 3 9 5 Tryz.underlying235 hco w.heap.size Y.size (by unfold World.shape?;rw [hgY]) s.data.toList hne (by rw [<- Lib.size_eq];omega) (by rw [<- Lib.size_eq];omega)
    (fun j x hx=>Lib.cells_of_row hgY Y.size j _ (by rw [List.take_of_length_le (by rw [Array.length_toList];exact Nat.le_refl _),hYl];simp [Lib.byteCells,hx]))
   rw [<- Lib.size_eq] at hUS
   clear hY
   go_enter Tryz.func152,Tryz.ntmps152
   go_wp2
   go_ret
   have hb1 : Below w.heap.size w (w.alloc (.cells M 5)):=(Below.refl _ w).alloc (Nat.le_refl _) _
   have hb2 : Below w.heap.size (w.alloc (.cells M 5)) ((w.alloc (.cells M 5)).setRow w.heap.size Y):=⟨rfl,rfl,rfl,by simp,fun k hk=>setRow_other _ _ _ _ (by omega)⟩
   exact ⟨rfl,Lib.below_freeze (hb1.trans hb2) (p:=⟨w.heap.size,0,none⟩) (Nat.le_refl _) _⟩
theorem clone17 (s : ByteArray) (w : World) (hlim : s.size <= 281474976710656) :
  Calls Tryz.prog 116 #[.string s] w fun e w'=>e = .returned (.string s) /\ Below w.heap.size w w':=by
 go_enter Tryz.func116,Tryz.ntmps116
 go_wp2_with (go_at_call 152;refine (clone18 _ _ hlim).mono ?_;rintro e w' ⟨rfl,hb⟩)
 go_ret
 exact ⟨rfl,by assumption⟩
theorem inside_yes (l o n : Int) (w : World) (h1 : 0 <= o) (h2 : 0 <= n) (h3 : o <= l) (h4 : n <= l - o) (h5 : l <= 9223372036854775807) :
  Calls Tryz.prog 115 #[.int .i64 l,.int .i64 o,.int .i64 n] w fun e w'=>e = .returned (.bool true) /\ w = w':=by
 go_enter Tryz.func115,Tryz.ntmps115
 go_wp2
 go_ret
 exact ⟨rfl,rfl⟩
theorem part_yes (s : ByteArray) (o n : Nat) (w : World) (hs : s.size <= 140737488351232) (h : o + n <= s.size) :
  Calls Tryz.prog 63 #[.string s,.int .i64 o,.int .i64 n] w fun e w'=>e = .returned (.tuple #[.string (s.extract o (o + n)),.int .i64 0]) /\ Below w.heap.size w w':=by
 go_enter Tryz.func63,Tryz.ntmps63
 go_wp2_with (first | (go_at_call 115;refine (inside_yes _ _ _ _ (by omega) (by omega) (by omega) (by omega) (by omega)).mono ?_;rintro e w' ⟨rfl,rfl⟩) | (go_at_call 116;refine (clone17 _ _ (by simp;omega)).mono ?_;rintro e w' ⟨rfl,hb⟩))
 go_ret2
 exact ⟨rfl,by assumption⟩
set_option maxHeartbeats 400000 in
theorem lay_yes (s t : ByteArray) (o : Nat) (w : World) (hs : s.size <= 140737488351232) (h : o + t.size <= s.size) :
  Calls Tryz.prog 65 #[.string s,.int .i64 o,.string t] w fun e w'=>e = .returned (.tuple #[.string (CL.over s o t),.int .i64 0]) /\ Below w.heap.size w w':=by
 obtain ⟨i0,hi,hz0,hz1,hz2⟩:=info_parts info5
 have hinfo : (Tryz.prog.info? 5).map (·.size) = some 1:=by rw [hi];simp [hz1]
 obtain ⟨c,hc⟩ : ∃ c,grownCap w s.size 0 5 = c:=⟨_,rfl⟩
 have hcs : s.size <= c:=by rw [<- hc];exact grownCap_ge _ _ _ _
 have hcv:=run_bytes_of_string (P:=Tryz.prog) w 9 137 5 s Tryz.underlying9 Tryz.underlying137 Tryz.underlying5
 rw [hc] at hcv
 clear hc
 have hRs : (bytesRow s c).size = c:=by rw [CL.bytesRow_size];omega
 have hov:=CL.over_cells s o t c h
 obtain ⟨R,hR⟩ : ∃ R,R = bytesRow s c:=⟨_,rfl⟩
 rw [<- hR] at hcv hRs hov
 clear hR
 rw [hRs] at hcv
 have hgR : ((w.alloc (.cells R 5 (c,c + 1))).drew).heap[w.heap.size]? = some (.cells R 5 (c,c + 1)):=heap_alloc_new w _
 by_cases h0 : t.size = 0
 · have hcp:=fun W d l c=>Lib.run_copy_empty_string (P:=Tryz.prog) W 137 9 3 5 d l c t Tryz.underlying137 (by rw [hinfo];rfl) h0
   rw [CL.over_nil s o t h0] at hov ⊢
   have hcb : (convert 137 9 (.slice (some ⟨w.heap.size,0,none⟩) s.size c)).run Tryz.prog ((w.alloc (.cells R 5 (c,c + 1))).drew) = .ok (.string s) ((w.alloc (.cells R 5 (c,c + 1))).drew):=by
    have es : strOfNums (s.data.toList.map fun b=>(b.toNat : Int)) = s:=(CM.strOfNums_bytes _).trans (Lib.mk_data s)
    refine Eq.trans ?_ (congrArg (fun x=>Result.ok (Value.string x) ((w.alloc (.cells R 5 (c,c + 1))).drew)) es)
    refine run_convert_bytes_arg _ 137 5 Tryz.underlying137 Tryz.underlying5 _ 0 s.size c _ (by rw [List.length_map,<- Lib.size_eq]) ?_ 9 Tryz.underlying9
    intro i hi
    have ht : t.data.toList = []:=List.eq_nil_of_length_eq_zero (by rw [<- Lib.size_eq];exact h0)
    have e:=hov i hi
    rw [ht,h0] at e
    rw [Nat.zero_add,cell_of_row _ _ _ _ _ _ hgR]
    simpa [Lib.byteCells] using e
   go_enter Tryz.func65,Tryz.ntmps65
   go_wp2_with (first | (go_at_call 115;refine (inside_yes _ _ _ _ (by omega) (by omega) (by omega) (by omega) (by omega)).mono ?_;rintro e w' ⟨rfl,rfl⟩))
   all_goals go_ret2
   all_goals exact ⟨rfl,((Below.refl _ _).alloc (Nat.le_refl _) _).drew⟩
 · have hno : ¬ c = o:=by omega
   have hcp:=CL.copy_marked (P:=Tryz.prog) ((w.alloc (.cells R 5 (c,c + 1))).drew) 137 9 3 5 w.heap.size o (s.size - o) (c - o) t R 5 c (c + 1) Tryz.underlying137 hinfo hgR (by omega) (by omega) (by omega)
   obtain ⟨Y,hY⟩ : ∃ Y,Y = (R.toList.take o ++ Lib.byteCells t.data.toList ++ R.toList.drop (o + t.size)).toArray:=⟨_,rfl⟩
   rw [<- hY] at hcp
   have hgY : (((w.alloc (.cells R 5 (c,c + 1))).drew).setRow w.heap.size Y).heap[w.heap.size]? = some (.cells Y 5 (c,c + 1)):=setRow_heap _ _ R _ 5 (c,c + 1) hgR
   have hcb : (convert 137 9 (.slice (some ⟨w.heap.size,0,none⟩) s.size c)).run Tryz.prog (((w.alloc (.cells R 5 (c,c + 1))).drew).setRow w.heap.size Y) = .ok (.string (CL.over s o t)) (((w.alloc (.cells R 5 (c,c + 1))).drew).setRow w.heap.size Y):=by
    rw [<- Lib.mk_data (CL.over s o t),<- CM.strOfNums_bytes]
    refine run_convert_bytes_arg _ 137 5 Tryz.underlying137 Tryz.underlying5 _ 0 s.size c _ (by rw [List.length_map];exact CL.over_size s o t h) ?_ 9 Tryz.underlying9
    intro i hi
    rw [Nat.zero_add,cell_of_row _ _ _ _ _ _ hgY,hY]
    simpa using hov i hi
   clear hov hY
   go_enter Tryz.func65,Tryz.ntmps65
   go_wp2_with (first | (go_at_call 115;refine (inside_yes _ _ _ _ (by omega) (by omega) (by omega) (by omega) (by omega)).mono ?_;rintro e w' ⟨rfl,rfl⟩))
   go_ret2
   exact ⟨rfl,below_setRow ((Below.refl _ _).alloc (Nat.le_refl _) _).drew (Nat.le_refl _) _⟩
set_option maxHeartbeats 400000 in
theorem over_any (s t : ByteArray) (o : Nat) (w : World) (hs : s.size <= 140737488351232) (h : o + t.size <= s.size) :
  Calls Tryz.prog 68 #[.string s,.int .i64 o,.string t] w fun e w'=>e = .returned (.string (CL.over s o t)) /\ Below w.heap.size w w':=by
 have h1 : (o : Int) <= (s.size : Int):=by omega
 have h2 : (o : Int) + (t.size : Int) <= (s.size : Int):=by omega
 go_enter Tryz.func68,Tryz.ntmps68
 go_wp2
 go_quiet (fail)
 go_wp2
 go_ret
 exact ⟨by rw [<- CL.over_parts s o t];rfl,below_drewN (Below.refl _ _) _⟩
end CW
namespace LW
open Go.RowKit
open W (hideC)
theorem ret_sn {s t : ByteArray} {a b : Int} (h : s = t) (g : a = b) : Ending.returned (.tuple #[.string s,.int .i64 a]) = .returned (.tuple #[.string t,.int .i64 b]):=by rw [h,g]
set_option maxHeartbeats 2000000 in
theorem fill_any (s : LM.Sh) (w : World) (h : LM.HasF w s.ao s.fixes) (hf : LM.FitH s) :
  Calls Tryz.prog 148 #[.agg (LM.cellsH s)] w fun e w'=>e = .returned (.tuple #[.string (LM.fillN s).1,.int .i64 (LM.fillN s).2]) /\ Below w.heap.size w w':=by
 have HR : Hid (∀ W,Below w.heap.size w W -> Calls Tryz.prog 146 #[.agg (LM.cellsH s)] W fun e w'=>e = .returned (.bool (LM.sheetB s)) /\ Below W.heap.size W w'):=fun W hb=>rightSheet_any s W (h.below hb) hf
 obtain ⟨f1,f2,f3,f4⟩:=hf
 obtain ⟨pg,dt,fs,ao,cap⟩:=s
 simp only at f1 f2 f3 f4
 unfold M.Short at f2 f3
 simp only [LM.cellsH] at HR
 simp only [LM.cellsH]
 have hdl : dt.size <= maxLen:=by unfold maxLen;omega
 have F4:=hideC f4
 have HH:=hideC h
 clear f4 h f1
 have HB:=hideC ((Below.refl w.heap.size w).alloc (Nat.le_refl _) (.cells #[.int .i64 pg,.string dt,.slice ao fs.length cap] 50))
 have BX:=hideC (B.new w #[.int .i64 pg,.string dt,.slice ao fs.length cap] 50)
 by_cases hs : LM.sheetB ⟨pg,dt,fs,ao,cap⟩ = true
 · have HN : Hid (LM.fillN ⟨pg,dt,fs,ao,cap⟩ = (LM.laidTo dt fs fs.length,0)):=by
    show _ = _
    unfold LM.fillN
    rw [if_pos hs]
    rfl
   obtain ⟨hd,hfx⟩ : LM.headB ⟨pg,dt,fs,ao,cap⟩ = true /\ LM.fixesTo fs fs.length = true:=by
    unfold LM.sheetB at hs
    simpa using hs
   have h16 : dt.size = 16:=by
    unfold LM.headB at hd
    exact (of_decide_eq_true hd).2.2
   have HFX:=hideC hfx
   rw [hs] at HR
   clear hs hd hfx
   go_enter Tryz.func148,Tryz.ntmps148
   go_wp2_with (first | (go_at_call 146;refine (HR.out _ HB.out).mono ?_;rintro e w1 ⟨rfl,hb⟩;have HB:=hideC (HB.out.trans (hb.mono HB.out.size));have BX:=hideC (B.below BX.out hb (B.isLt BX.out));have q0:=B.cell BX.out 0 rfl;have q1:=B.cell BX.out 1 rfl;have q2:=B.cell BX.out 2 rfl;clear hb) | (go_at_call 116;refine (CW.clone17 _ _ (by omega)).mono ?_;rintro e w2 ⟨rfl,hb⟩;have HB:=hideC (HB.out.trans (hb.mono HB.out.size));have BX:=hideC (B.below BX.out hb (B.isLt BX.out));have q0:=B.cell BX.out 0 rfl;have q1:=B.cell BX.out 1 rfl;have q2:=B.cell BX.out 2 rfl;clear hb))
   go_loopw [16,4] (fun i d wr=>∃ k : Nat,k <= fs.length /\ i = .int .i64 k /\ d = .string (LM.laidTo dt fs k) /\ Below w.heap.size w wr) (fun i _ _=>fs.length - (intOf i).toNat)
   case atStart=>exact ⟨0,by omega,rfl,rfl,HB.out⟩
   case round =>
    obtain ⟨k,hk,rfl,rfl,hb⟩:=hrel
    have HBr:=hideC hb
    by_cases hlt : k < fs.length
    · obtain ⟨b,off,hao,hbl,hlie⟩:=(HH.out.below hb) (by omega)
      subst hao
      obtain ⟨c0,c1⟩:=hlie k hlt
      have hok:=(LM.fixB_iff _ _).1 (LM.fixesTo_ok fs fs.length HFX.out k hlt)
      have hgk : LM.fixesTo fs k = true:=by
       cases e : LM.fixesTo fs k
       · rw [LM.fixesTo_false fs k fs.length (by omega) e] at HFX
         cases HFX
       · rfl
      have hed:=LM.endTo_ge fs k hgk
      have hsz:=LM.laidTo_size dt fs h16 k hgk
      have HNX : Hid (LM.laidTo dt fs (k + 1) = CL.over (LM.laidTo dt fs k) (LM.fxAt fs k).off.toNat (LM.fxAt fs k).bytes):=rfl
      obtain ⟨f,hfe⟩ : ∃ f,f = LM.fxAt fs k:=⟨_,rfl⟩
      rw [<- hfe] at c0 c1 hok HNX
      obtain ⟨D,hD⟩ : ∃ D,D = LM.laidTo dt fs k:=⟨_,rfl⟩
      rw [<- hD] at hsz HNX
      rw [<- hD]
      obtain ⟨o,ho⟩ : ∃ o : Nat,f.off = (o : Int):=⟨f.off.toNat,by omega⟩
      rw [ho] at c0 hok
      rw [ho,Int.toNat_natCast] at HNX
      clear hfe hD hgk hlie hb
      have HBA:=hideC (HBr.out.alloc HBr.out.size (.cells #[.int .i64 (o : Int),.string f.bytes] 52))
      go_wp2_with (go_at_call 65;refine (CW.lay_yes D f.bytes o _ (by omega) (by omega)).mono ?_;rintro e w3 ⟨rfl,hb⟩;have HBA:=hideC (HBA.out.trans (hb.mono HBA.out.size));clear hb)
      go_roundw
      case rel=>exact ⟨k + 1,by omega,by go_num,by rw [HNX.out],HBA.out⟩
      case measure=>simp [intOf];omega
    · obtain rfl : k = fs.length:=by omega
      go_wp2
      go_ret2
      exact ⟨ret_sn (by rw [HN.out]) (by rw [HN.out]),HBr.out⟩
 · have hs' : LM.sheetB ⟨pg,dt,fs,ao,cap⟩ = false:=by simpa using hs
   have HN : Hid (LM.fillN ⟨pg,dt,fs,ao,cap⟩ = (⟨#[]⟩,1)):=by
    show _ = _
    unfold LM.fillN
    rw [if_neg hs]
   rw [hs'] at HR
   clear hs hs'
   rw [HN.out]
   go_enter Tryz.func148,Tryz.ntmps148
   go_wp2_with (go_at_call 146;refine (HR.out _ HB.out).mono ?_;rintro e w1 ⟨rfl,hb⟩;have HB:=hideC (HB.out.trans (hb.mono HB.out.size));clear hb)
   go_ret2
   exact ⟨rfl,HB.out⟩
end LW
namespace KW
open Go.RowKit
open FW (hideC add_below)
def cellFr (f : KM.Fr) : List Value:=[.string f.data,.int .i64 f.refs,.bool f.dirty,.bool f.seen]
def cellSl (f : KM.Sl) : List Value:=[.string f.data,.int .i64 f.refs]
def cellEn (e : KM.En) : List Value:=[.int .i64 e.page,.int .i64 e.kind,.int .i64 e.loc]
def Lies {α : Type} (f : α -> List Value) (k : Nat) (d : α) (w : World) (b off : Nat) (l : List α) : Prop:=∀ i,i < l.length -> ∀ j,j < k -> w.cell? ⟨b,off + i * k + j,none⟩ = (f (l.getD i d))[j]?
def HasRow {α : Type} (f : α -> List Value) (k : Nat) (d : α) (w : World) (ao : Option Addr) (l : List α) : Prop:=M.HasBy (Lies f k d) w ao l
theorem HasRow.below {α : Type} {f : α -> List Value} {k : Nat} {d : α} {w w' : World} {ao : Option Addr} {l : List α} (h : HasRow f k d w ao l) (hb : Below w.heap.size w w') : HasRow f k d w' ao l :=
 M.HasBy.below (lie:=Lies f k d) (fun hb hlt h i hi j hj=>(M.below_cell hb hlt).trans (h i hi j hj)) h hb
def LieSp (w : World) (b off : Nat) (l : List KM.Sp) : Prop:=∀ i,i < l.length -> ∃ va ap cp,w.cell? ⟨b,off + i * 3,none⟩ = some (.bool (KM.spAt l i).live) /\ w.cell? ⟨b,off + i * 3 + 1,none⟩ = some va /\ w.cell? ⟨b,off + i * 3 + 2,none⟩ = some (.slice ap (KM.spAt l i).ents.length cp) /\ AW.Has w va (KM.spAt l i).areas /\ HasRow cellEn 3 KM.en0 w ap (KM.spAt l i).ents /\ (KM.spAt l i).ents.length <= cp
theorem lieSp {w w' : World} {b off : Nat} {l : List KM.Sp} (hb : Below w.heap.size w w') (hlt : b < w.heap.size) (h : LieSp w b off l) : LieSp w' b off l:=fun i hi=>by
 obtain ⟨va,ap,cp,c0,c1,c2,c3,c4,c5⟩:=h i hi
 exact ⟨va,ap,cp,(M.below_cell hb hlt).trans c0,(M.below_cell hb hlt).trans c1,(M.below_cell hb hlt).trans c2,c3.below hb,c4.below hb,c5⟩
def HasSp (w : World) (ao : Option Addr) (l : List KM.Sp) : Prop:=M.HasBy LieSp w ao l
theorem HasSp.below {w w' : World} {ao : Option Addr} {l : List KM.Sp} (h : HasSp w ao l) (hb : Below w.heap.size w w') : HasSp w' ao l:=M.HasBy.below (lie:=LieSp) (fun hb hlt h=>lieSp hb hlt h) h hb
structure KAt where
 aS : Option Addr
 cS : Nat
 aF : Option Addr
 cF : Nat
 aL : Option Addr
 cL : Nat
 aP : Option Addr
 cP : Nat
structure HasK (w : World) (a : KAt) (k : KM.Kn) : Prop where
 sheets : LM.HasH w a.aS k.sheets
 frames : HasRow cellFr 4 KM.fr0 w a.aF k.frames
 slots : HasRow cellSl 2 KM.sl0 w a.aL k.slots
 spaces : HasSp w a.aP k.spaces
theorem HasK.below {w w' : World} {a : KAt} {k : KM.Kn} (h : HasK w a k) (hb : Below w.heap.size w w') : HasK w' a k:=⟨h.sheets.below hb,h.frames.below hb,h.slots.below hb,h.spaces.below hb⟩
def cellsK (a : KAt) (k : KM.Kn) : Array Value:=#[.slice a.aS k.sheets.length a.cS,.slice a.aF k.frames.length a.cF,.slice a.aL k.slots.length a.cL,.slice a.aP k.spaces.length a.cP,.int .i64 k.hand]
structure FitSp (s : KM.Sp) : Prop where
 areas : AW.AllFit s.areas
 ents : M.Short s.ents.length
 ent : ∀ i,i < s.ents.length -> M.I64 (KM.enAt s.ents i).page /\ M.I64 (KM.enAt s.ents i).kind /\ M.I64 (KM.enAt s.ents i).loc
structure FitK (k : KM.Kn) : Prop where
 sheets : LM.FitHs k.sheets
 nf : M.Short k.frames.length
 fr : ∀ i,i < k.frames.length -> M.Short (KM.frAt k.frames i).data.size /\ M.I64 (KM.frAt k.frames i).refs
 ns : M.Short k.slots.length
 sl : ∀ i,i < k.slots.length -> M.Short (KM.slAt k.slots i).data.size /\ M.I64 (KM.slAt k.slots i).refs
 np : M.Short k.spaces.length
 sp : ∀ i,i < k.spaces.length -> FitSp (KM.spAt k.spaces i)
 hand : M.I64 k.hand
set_option maxHeartbeats 4000000 in
theorem counts_any (vS vF vL vP : Option Addr) (nS cS nF cF nL cL nP cP : Nat) (hd : Value) (w : World) :
  Calls Tryz.prog 109 #[.agg #[.slice vS nS cS,.slice vF nF cF,.slice vL nL cL,.slice vP nP cP,hd]] w fun e w'=>e = .returned (.bool (decide ((3 <= nF /\ nF <= 64) /\ nL <= 512 /\ (1 <= nP /\ nP <= 4) /\ nS <= 255))) /\ Below w.heap.size w w':=by
 obtain ⟨A,hA⟩ : ∃ A,A = decide ((3 <= nF /\ nF <= 64) /\ nL <= 512 /\ (1 <= nP /\ nP <= 4) /\ nS <= 255):=⟨_,rfl⟩
 rw [<- hA]
 have HA:=hideC hA
 clear hA
 rcases (show ¬ (3 : Int) <= nF ∨ ((3 : Int) <= nF /\ ¬ (nF : Int) <= 64) ∨ ((3 : Int) <= nF /\ (nF : Int) <= 64 /\ ¬ (nL : Int) <= 512) ∨ ((3 : Int) <= nF /\ (nF : Int) <= 64 /\ (nL : Int) <= 512 /\ ¬ (1 : Int) <= nP) ∨ ((3 : Int) <= nF /\ (nF : Int) <= 64 /\ (nL : Int) <= 512 /\ (1 : Int) <= nP /\ ¬ (nP : Int) <= 4) ∨ ((3 : Int) <= nF /\ (nF : Int) <= 64 /\ (nL : Int) <= 512 /\ (1 : Int) <= nP /\ (nP : Int) <= 4 /\ ¬ (nS : Int) <= 255) ∨ ((3 : Int) <= nF /\ (nF : Int) <= 64 /\ (nL : Int) <= 512 /\ (1 : Int) <= nP /\ (nP : Int) <= 4 /\ (nS : Int) <= 255) by omega) with g | ⟨g,g1⟩ | ⟨g,g1,g2⟩ | ⟨g,g1,g2,g3⟩ | ⟨g,g1,g2,g3,g4⟩ | ⟨g,g1,g2,g3,g4,g5⟩ | ⟨g,g1,g2,g3,g4,g5⟩
 all_goals
  go_enter Tryz.func109,Tryz.ntmps109
  go_wp2
  go_ret
  exact ⟨congrArg (fun b=>Ending.returned (.bool b)) (by rw [HA.out];simp;omega),(Below.refl _ _).alloc (Nat.le_refl _) _⟩
end KW
namespace KW
open Go.RowKit GK
open FW (hideC add_below)
def rowS (G : Nat -> ByteArray) : Nat -> List Value
 | 0=>[]
 | n + 1=>rowS G n ++ [.string (G n)]
def updS (G : Nat -> ByteArray) (n : Nat) (d : ByteArray) : Nat -> ByteArray:=fun k=>if k = n then d else G k
theorem rowS_length (G : Nat -> ByteArray) : ∀ n,(rowS G n).length = n
 | 0=>rfl
 | n + 1=>by rw [rowS,List.length_append,rowS_length G n];rfl
theorem rowS_get (G : Nat -> ByteArray) (n : Nat) : ∀ m,n < m -> (rowS G m)[n]? = some (.string (G n))
 | 0,h=>by omega
 | m + 1,h=>by
  rw [rowS]
  by_cases c : n < m
  · rw [List.getElem?_append_left (by rw [rowS_length];exact c),rowS_get G n m c]
  · obtain rfl : n = m:=by omega
    rw [List.getElem?_append_right (by rw [rowS_length];exact Nat.le_refl _),rowS_length,Nat.sub_self];rfl
theorem rowS_congr (F G : Nat -> ByteArray) : ∀ m,(∀ k,k < m -> F k = G k) -> rowS F m = rowS G m
 | 0,_=>rfl
 | m + 1,h=>by rw [rowS,rowS,rowS_congr F G m (fun k hk=>h k (by omega)),h m (by omega)]
theorem rowS_set (G : Nat -> ByteArray) (n : Nat) (d : ByteArray) : ∀ m,n < m -> (rowS G m).set n (.string d) = rowS (updS G n d) m
 | 0,h=>by omega
 | m + 1,h=>by
  rw [rowS,rowS]
  by_cases c : n < m
  · rw [List.set_append_left _ _ (by rw [rowS_length];exact c),rowS_set G n d m c]
    congr 2
    unfold updS
    rw [if_neg (by omega)]
  · obtain rfl : n = m:=by omega
    rw [List.set_append_right _ _ (by rw [rowS_length];exact Nat.le_refl _),rowS_length,Nat.sub_self,rowS_congr (updS G n d) G n (fun k hk=>by unfold updS;rw [if_neg (by omega)])]
    show _ ++ [Value.string d] = _ ++ [Value.string (updS G n d n)]
    unfold updS
    rw [if_pos rfl]
def memC (a b c d e : Value) (G : Nat -> ByteArray) : Array Value:=([a,b,c,d,e] ++ rowS G 256).toArray
theorem memC_at (a b c d e : Value) (G : Nat -> ByteArray) (n : Nat) (h : n < 256) : (memC a b c d e G)[5 + n]? = some (.string (G n)):=by
 unfold memC
 rw [List.getElem?_toArray,List.getElem?_append_right (by simp),<- rowS_get G n 256 h]
 congr 1
 simp
theorem memC_set (a b c d e : Value) (G : Nat -> ByteArray) (n : Nat) (x : ByteArray) (h : n < 256) : (memC a b c d e G).setIfInBounds (5 + n) (.string x) = memC a b c d e (updS G n x):=by
 unfold memC
 rw [List.setIfInBounds_toArray,List.set_append_right _ _ (by simp),<- rowS_set G n x 256 h]
 congr 3
 simp
def none256 : Nat -> ByteArray:=fun _=>⟨#[]⟩
def fillG (hs : List LM.Sh) : Nat -> Nat -> ByteArray
 | 0=>none256
 | k + 1=>updS (fillG hs k) (LM.shAt hs k).page.toNat (LM.fillS (LM.shAt hs k))
theorem fill_filled (hs : List LM.Sh) (hr : LM.riseB hs = true) (n : Nat) : fillG hs hs.length n = KM.filled hs n:=by
 have hrise:=LM.rise_rising hs hr
 have hat : ∀ i,i < hs.length -> 1 <= (LM.shAt hs i).page:=fun i hi=>by
  have:=(LM.riseTo_ok hs hs.length hr i hi).1
  unfold LM.sheetB LM.headB at this
  simp only [Bool.and_eq_true,decide_eq_true_eq] at this
  exact this.1.1
 have key : ∀ k,k <= hs.length -> (∀ i,i < k -> (LM.shAt hs i).page ≠ (n : Int)) -> fillG hs k n = ⟨#[]⟩:=fun k=>by
  induction k with
  | zero=>intro _ _;rfl
  | succ k ih =>
   intro hk h
   show updS (fillG hs k) _ _ n = _
   unfold updS
   rw [if_neg (fun e=>h k (by omega) (by have:=hat k (by omega);omega)),ih (by omega) (fun i hi=>h i (by omega))]
 have key2 : ∀ k,k <= hs.length -> ∀ j,j < k -> (LM.shAt hs j).page = (n : Int) -> fillG hs k n = LM.fillS (LM.shAt hs j):=fun k=>by
  induction k with
  | zero=>intro _ j hj;omega
  | succ k ih =>
   intro hk j hj e
   show updS (fillG hs k) _ _ n = _
   unfold updS
   by_cases c : j = k
   · subst c;rw [if_pos (by omega)]
   · have hlt : (LM.shAt hs j).page < (LM.shAt hs k).page:=by
      have:=(List.pairwise_iff_getElem.1 hrise) j k (by rw [List.length_map];omega) (by rw [List.length_map];omega) (by omega)
      rw [List.getElem_map,List.getElem_map] at this
      unfold LM.shAt
      rw [List.getD_eq_getElem?_getD,List.getD_eq_getElem?_getD,List.getElem?_eq_getElem (by omega),List.getElem?_eq_getElem (by omega)]
      exact this
     rw [if_neg (by omega)]
     exact ih (by omega) j (by omega) e
 unfold KM.filled
 cases g : KM.sheetFor hs n with
 | none =>
  have h:=List.find?_eq_none.1 g
  exact key _ (Nat.le_refl _) (fun i hi e=>by
   have:=h (LM.shAt hs i) (KM.getD_mem hi)
   simp [e] at this)
 | some s =>
  have hm:=List.mem_of_find?_eq_some g
  have hp:=List.find?_some g
  obtain ⟨j,hj,rfl⟩:=KM.mem_getD LM.sh0 hm
  exact key2 _ (Nat.le_refl _) j hj (of_decide_eq_true hp)
theorem fillN_yes {s : LM.Sh} (h : LM.sheetB s = true) : LM.fillN s = (LM.fillS s,0):=by unfold LM.fillN;rw [if_pos h]
theorem fillN_no {s : LM.Sh} (h : LM.sheetB s = false) : LM.fillN s = (⟨#[]⟩,1):=by unfold LM.fillN;rw [if_neg (by rw [h];simp)]
set_option maxHeartbeats 8000000 in
theorem fillSheets_any (hs : List LM.Sh) (aS : Option Addr) (cS mb : Nat) (b c d e : Value) (w0 w : World) (h : LM.HasH w0 aS hs) (hf : LM.FitHs hs) (hw : Below w0.heap.size w0 w) (hmb : w0.heap.size <= mb) (hm : w.heap[mb]? = some (.cells (memC (.slice aS hs.length cS) b c d e none256) 104 (0,0))) (hl : hs.length <= 255) :
  Calls Tryz.prog 110 #[.pointer (some ⟨mb,0,none⟩)] w fun x w'=>x = .returned (.bool (LM.riseB hs)) /\ Kp (fun b=>b = mb) w w' /\ ∃ G,w'.heap[mb]? = some (.cells (memC (.slice aS hs.length cS) b c d e G) 104 (0,0)) /\ (LM.riseB hs = true -> G = fillG hs hs.length):=by
 have HH:=hideC h
 have HF:=hideC hf
 have HW:=hideC hw
 have hlt:=B.isLt hm
 have m0 : w.cell? ⟨mb,0,none⟩ = some (.slice aS hs.length cS):=B.cell hm 0 rfl
 have HM:=hideC hm
 have HRB : Hid (∀ k,k < hs.length -> (LM.sheetB (LM.shAt hs k) = false ∨ (LM.shAt hs k).page <= (if k = 0 then 0 else (LM.shAt hs (k - 1)).page)) -> LM.riseB hs = false):=fun k hk g=>LM.rise_bad hs k hk (by
  unfold LM.riseAt
  rcases g with g | g
  · rw [g];rfl
  · by_cases c : k = 0
    · rw [if_pos c] at g
      have : LM.sheetB (LM.shAt hs k) = false:=by
       unfold LM.sheetB LM.headB
       rw [decide_eq_false (by omega)];rfl
      rw [this];rfl
    · rw [if_neg c] at g
      rw [decide_eq_false (by omega),show (k == 0) = false by simpa using c]
      exact Bool.and_false _)
 have HST : Hid (∀ k,k < hs.length -> LM.riseTo hs k = true -> LM.sheetB (LM.shAt hs k) = true -> (if k = 0 then 0 else (LM.shAt hs (k - 1)).page) < (LM.shAt hs k).page -> LM.riseTo hs (k + 1) = true):=fun k hk h1 h2 h3=>by
  rw [LM.riseTo,h1,h2]
  unfold LM.riseAt
  by_cases c : k = 0
  · simp [c]
  · rw [if_neg c] at h3
    simp [h3]
 clear h hf hw hm
 go_enter Tryz.func110,Tryz.ntmps110
 go_wp2
 go_loopw [3,14] (fun lv iv wr=>∃ k : Nat,k <= hs.length /\ iv = .int .i64 (k : Int) /\ lv = .int .i64 (if k = 0 then 0 else (LM.shAt hs (k - 1)).page) /\ LM.riseTo hs k = true /\ Kp (fun b=>b = mb) w wr /\ wr.heap[mb]? = some (.cells (memC (.slice aS hs.length cS) b c d e (fillG hs k)) 104 (0,0))) (fun _ iv _=>hs.length - (intOf iv).toNat)
 case atStart=>exact ⟨0,by omega,rfl,rfl,rfl,Kp.refl _ _,HM.out⟩
 case round =>
  obtain ⟨k,hk,rfl,rfl,hr,hkp,hmk⟩:=hrel
  have HKP:=hideC hkp
  have HMK:=hideC hmk
  have HR:=hideC hr
  clear hr
  obtain ⟨L,hL⟩ : ∃ L : Int,L = if k = 0 then 0 else (LM.shAt hs (k - 1)).page:=⟨_,rfl⟩
  rw [<- hL]
  by_cases hlt2 : k < hs.length
  · have hbk:=hkp.below HW.out (by have:=HW.out.size;omega) (fun b hb=>by omega)
    have HBK:=hideC hbk
    obtain ⟨bb,off,hao,hbl,hlie⟩:=HH.out (by omega)
    subst hao
    obtain ⟨d0,d1,d2,d3⟩:=hlie k hlt2
    have hbbm : ¬ bb = mb:=by omega
    have hsz:=hkp.size
    have c0:=(hbk.cell (p:=⟨bb,off + k * 3,none⟩) hbl).trans d0
    have c1:=(hbk.cell (p:=⟨bb,off + k * 3 + 1,none⟩) hbl).trans d1
    have c2:=(hbk.cell (p:=⟨bb,off + k * 3 + 2,none⟩) hbl).trans d2
    have hfk:=HF.out.2 k hlt2
    have HC : Hid (∀ V,Below w0.heap.size w0 V -> Calls Tryz.prog 148 #[.agg (LM.cellsH (LM.shAt hs k))] V fun e w'=>e = .returned (.tuple #[.string (LM.fillN (LM.shAt hs k)).1,.int .i64 (LM.fillN (LM.shAt hs k)).2]) /\ Below V.heap.size V w'):=fun V hV=>LW.fill_any _ V (d3.below hV) hfk
    have HRB:=hideC (HRB.out k hlt2)
    have HST:=hideC (HST.out k hlt2 HR.out)
    have hpg:=hfk.page
    have HFG : Hid (fillG hs (k + 1) = updS (fillG hs k) (LM.shAt hs k).page.toNat (LM.fillS (LM.shAt hs k))):=rfl
    have HHB : Hid (LM.sheetB (LM.shAt hs k) = true -> 1 <= (LM.shAt hs k).page /\ (LM.shAt hs k).page <= 255):=fun g=>by
     unfold LM.sheetB LM.headB at g
     simp only [Bool.and_eq_true,decide_eq_true_eq] at g
     exact ⟨g.1.1,g.1.2.1⟩
    have HFN:=hideC (@fillN_yes (LM.shAt hs k))
    have HFO:=hideC (@fillN_no (LM.shAt hs k))
    have HLP : Hid ((if k + 1 = 0 then 0 else (LM.shAt hs (k + 1 - 1)).page) = (LM.shAt hs k).page):=by
     show _ = _
     rw [if_neg (by omega),Nat.add_sub_cancel]
    unfold LM.cellsH at HC
    obtain ⟨S,hS⟩ : ∃ S,S = LM.shAt hs k:=⟨_,rfl⟩
    rw [<- hL] at HRB HST
    rw [<- hS] at c0 c1 c2 HC HRB HST hpg HFG HHB HFN HFO HLP
    obtain ⟨pg,dt,fx,fo,fc⟩:=S
    simp only at c0 c1 c2 HC HRB HST hpg HFG HHB HFN HFO HLP
    obtain ⟨nx,hnx⟩ : ∃ nx,nx = fx.length:=⟨_,rfl⟩
    rw [<- hnx] at c2 HC
    clear hS hL hnx d0 d1 d2 d3 hlie hfk hbk hkp hmk
    cases hsb : LM.sheetB ⟨pg,dt,fx,fo,fc⟩ with
    | false =>
     have HRF:=hideC (HRB.out (.inl hsb))
     have HFN2:=hideC (HFO.out hsb)
     rw [HFN2.out] at HC
     clear HFN HFO HFN2 hsb HRB HST HFG HHB HLP
     have hmbw : ¬ mb = wr.heap.size:=by omega
     have hbbw : ¬ bb = wr.heap.size:=by omega
     have HBA:=hideC (HBK.out.alloc (by have:=HBK.out.size;omega) (.cells #[.int .i64 pg,.string dt,.slice fo nx fc] 50))
     have KA:=hideC ((HKP.out.trans (Kp.alloc (fun b=>b = mb) wr (.cells #[.int .i64 pg,.string dt,.slice fo nx fc] 50)) (fun _ _ g=>g)))
     have MA:=hideC (B.alloc HMK.out (.cells #[.int .i64 pg,.string dt,.slice fo nx fc] 50))
     have SA:=hideC (B.new wr #[.int .i64 pg,.string dt,.slice fo nx fc] 50)
     clear HM m0 HH HF
     go_wp2_with (go_at_call 148;refine (HC.out _ HBA.out).mono ?_;rintro e w1 ⟨rfl,hb1⟩;have HB1:=hideC hb1;have S1:=hideC (B.below SA.out hb1 (by simp));have s0 : w1.cell? ⟨wr.heap.size,0,none⟩ = some (.int .i64 pg):=B.cell S1.out 0 rfl;clear hb1)
     go_ret
     have hM:=B.below MA.out HB1.out (by simp;omega)
     exact ⟨congrArg (fun b=>Ending.returned (.bool b)) HRF.out.symm,KA.out.trans (Kp.ofBelow HB1.out) (fun _ _ g=>g),_,hM,fun g=>by rw [HRF.out] at g;cases g⟩
    | true =>
     have HFN2:=hideC (HFN.out hsb)
     rw [HFN2.out] at HC
     have hpb:=HHB.out hsb
     by_cases hlp : pg <= L
     · have HRF:=hideC (HRB.out (.inr hlp))
       clear HFN HFO HFN2 hsb HRB HST HFG HHB HLP
       have hmbw : ¬ mb = wr.heap.size:=by omega
       have hbbw : ¬ bb = wr.heap.size:=by omega
       have HBA:=hideC (HBK.out.alloc (by have:=HBK.out.size;omega) (.cells #[.int .i64 pg,.string dt,.slice fo nx fc] 50))
       have KA:=hideC ((HKP.out.trans (Kp.alloc (fun b=>b = mb) wr (.cells #[.int .i64 pg,.string dt,.slice fo nx fc] 50)) (fun _ _ g=>g)))
       have MA:=hideC (B.alloc HMK.out (.cells #[.int .i64 pg,.string dt,.slice fo nx fc] 50))
       have SA:=hideC (B.new wr #[.int .i64 pg,.string dt,.slice fo nx fc] 50)
       clear HM m0 HH HF
       go_wp2_with (go_at_call 148;refine (HC.out _ HBA.out).mono ?_;rintro e w1 ⟨rfl,hb1⟩;have HB1:=hideC hb1;have S1:=hideC (B.below SA.out hb1 (by simp));have s0 : w1.cell? ⟨wr.heap.size,0,none⟩ = some (.int .i64 pg):=B.cell S1.out 0 rfl;clear hb1)
       go_ret
       have hM:=B.below MA.out HB1.out (by simp;omega)
       exact ⟨congrArg (fun b=>Ending.returned (.bool b)) HRF.out.symm,KA.out.trans (Kp.ofBelow HB1.out) (fun _ _ g=>g),_,hM,fun g=>by rw [HRF.out] at g;cases g⟩
     · have HRT:=hideC (HST.out hsb (by omega))
       clear HFN HFO HFN2 hsb HRB HST HHB
       have hmbw : ¬ mb = wr.heap.size:=by omega
       have hbbw : ¬ bb = wr.heap.size:=by omega
       have HBA:=hideC (HBK.out.alloc (by have:=HBK.out.size;omega) (.cells #[.int .i64 pg,.string dt,.slice fo nx fc] 50))
       have KA:=hideC ((HKP.out.trans (Kp.alloc (fun b=>b = mb) wr (.cells #[.int .i64 pg,.string dt,.slice fo nx fc] 50)) (fun _ _ g=>g)))
       have MA:=hideC (B.alloc HMK.out (.cells #[.int .i64 pg,.string dt,.slice fo nx fc] 50))
       have SA:=hideC (B.new wr #[.int .i64 pg,.string dt,.slice fo nx fc] 50)
       clear HM m0 HH HF
       go_wp2_with (go_at_call 148;refine (HC.out _ HBA.out).mono ?_;rintro e w1 ⟨rfl,hb1⟩;have HB1:=hideC hb1;have S1:=hideC (B.below SA.out hb1 (by simp));have s0 : w1.cell? ⟨wr.heap.size,0,none⟩ = some (.int .i64 pg):=B.cell S1.out 0 rfl;clear hb1)
       obtain ⟨n,rfl⟩ : ∃ n : Nat,pg = (n : Int):=⟨pg.toNat,by omega⟩
       have hM:=B.below MA.out HB1.out (by simp;omega)
       have HM1:=hideC hM
       have K1:=hideC (KA.out.trans (Kp.ofBelow HB1.out) (fun _ _ g=>g))
       have q5 : w1.cell? ⟨mb,5 + n,none⟩ = some (.string (fillG hs k n)):=B.cell hM (5 + n) (memC_at _ _ _ _ _ _ n (by omega))
       have qf : w1.frozen? ⟨mb,5 + n,none⟩ = false:=B.free hM (5 + n)
       have n0 : (0 : Int) <= (n : Int):=by omega
       have n1 : (n : Int) < 256:=by omega
       rw [Int.toNat_natCast] at HFG
       obtain ⟨FD,hFD⟩ : ∃ FD,FD = LM.fillS { page:=(n : Int),data:=dt,fixes:=fx,ao:=fo,cap:=fc }:=⟨_,rfl⟩
       rw [<- hFD] at HFG ⊢
       clear hM hFD HC c0 c1 c2
       go_region
       have HM2:=hideC ((B.set HM1.out (5 + n) (.string FD)).trans (by rw [memC_set _ _ _ _ _ _ n FD (by omega),<- HFG.out]))
       have K2:=hideC (K1.out.trans ((Kp.set (fun b=>b = mb) w1 ⟨mb,5 + n,none⟩ (.string FD) rfl).trans (Kp.drew _ _) (fun _ _ g=>g)) (fun _ _ g=>g))
       have s2 : (w1.setCell ⟨mb,5 + n,none⟩ (.string FD)).drew.cell? ⟨wr.heap.size,0,none⟩ = some (.int .i64 (n : Int)):=(cell_other w1 mb (5 + n) wr.heap.size 0 (.string FD) (fun e=>hmbw e.symm)).trans s0
       obtain ⟨W2,hW2⟩ : ∃ W2,W2 = (w1.setCell ⟨mb,5 + n,none⟩ (.string FD)).drew:=⟨_,rfl⟩
       have HM3 : Hid (W2.heap[mb]? = some (.cells (memC (.slice (some ⟨bb,off,none⟩) hs.length cS) b c d e (fillG hs (k + 1))) 104 (0,0))):=by rw [hW2];exact HM2.out
       rw [<- hW2] at K2 s2 ⊢
       clear hW2 HM2 HM1 K1 q5 qf s0
       go_wp2
       go_roundw
       case rel=>exact ⟨k + 1,by omega,by go_num,by rw [if_neg (by omega),Nat.add_sub_cancel,<- HLP.out,if_neg (by omega),Nat.add_sub_cancel],HRT.out,K2.out,HM3.out⟩
       case measure=>simp [intOf];omega
  · obtain rfl : k = hs.length:=by omega
    clear hkp hmk hL
    go_wp2
    go_ret
    exact ⟨congrArg (fun b=>Ending.returned (.bool b)) HR.out.symm,HKP.out,_,HMK.out,fun _=>rfl⟩
theorem have_bad {hs : List LM.Sh} {ar : List AM.Ar} {k n : Nat} (hk : k < ar.length) (hn : n < (AM.at_ ar k).pages.toNat) (hz : (AM.at_ ar k).zero = false) (he : KM.filled hs ((AM.at_ ar k).page + (n : Int)) = ⟨#[]⟩) : KM.haveB hs ar = false:=by
 cases q : KM.haveB hs ar with
 | false=>rfl
 | true =>
  unfold KM.haveB at q
  rw [List.all_eq_true] at q
  have:=q (AM.at_ ar k) (KM.getD_mem hk)
  rw [List.all_eq_true] at this
  have:=this n (List.mem_range.2 hn)
  rw [hz,he] at this
  cases this
theorem have_good {hs : List LM.Sh} {ar : List AM.Ar} (h : ∀ k,k < ar.length -> ∀ n,n < (AM.at_ ar k).pages.toNat -> (AM.at_ ar k).zero = true ∨ KM.filled hs ((AM.at_ ar k).page + (n : Int)) ≠ ⟨#[]⟩) : KM.haveB hs ar = true:=by
 unfold KM.haveB
 rw [List.all_eq_true]
 intro a ha
 obtain ⟨k,hk,rfl⟩:=KM.mem_getD AM.nil ha
 rw [List.all_eq_true]
 intro n hn
 rcases h k hk n (List.mem_range.1 hn) with g | g
 · rw [show (ar.getD k AM.nil).zero = true from g];rfl
 · rw [Bool.or_eq_true,decide_eq_true_eq]
   right
   intro e
   refine g ?_
   have : (KM.filled hs ((AM.at_ ar k).page + (n : Int))).size = 0:=e
   obtain ⟨x,hx⟩ : ∃ x,x = KM.filled hs ((AM.at_ ar k).page + (n : Int)):=⟨_,rfl⟩
   rw [<- hx] at this ⊢
   obtain ⟨⟨l⟩⟩:=x
   have : l = []:=List.eq_nil_of_length_eq_zero this
   rw [this]
set_option maxHeartbeats 8000000 in
theorem haveSheets_any (hs : List LM.Sh) (ar : List AM.Ar) (va : Value) (mb : Nat) (w : World) (ha : AW.Has w va ar) (hc : AM.checkN ar = 0) (hmb : mb < w.heap.size) (hfl : ∀ n : Nat,n < 256 -> w.cell? ⟨mb,5 + n,none⟩ = some (.string (KM.filled hs n))) :
  Calls Tryz.prog 149 #[.pointer (some ⟨mb,0,none⟩),va] w fun e w'=>e = .returned (.bool (KM.haveB hs ar)) /\ Below w.heap.size w w':=by
 obtain ⟨ao,cap,rfl,hlie⟩:=ha
 have hlen:=AM.good_len ar hc
 have HL:=hideC hlie
 have HFL:=hideC hfl
 have HOK:=hideC (fun k (hk : k < ar.length)=>AM.okAt_pages ar k (AM.good_pages ar hc k hk))
 have HBAD:=hideC (fun k n=>@have_bad hs ar k n)
 have HGOOD:=hideC (@have_good hs ar)
 obtain ⟨A,hA⟩ : ∃ A,A = KM.haveB hs ar:=⟨_,rfl⟩
 rw [<- hA] at HBAD HGOOD ⊢
 clear hlie hfl hA
 go_enter Tryz.func149,Tryz.ntmps149
 go_wp2
 go_loopw [10] (fun iv wr=>∃ k : Nat,k <= ar.length /\ iv = .int .i64 (k : Int) /\ Below w.heap.size w wr /\ ∀ i,i < k -> ∀ n,n < (AM.at_ ar i).pages.toNat -> (AM.at_ ar i).zero = true ∨ KM.filled hs ((AM.at_ ar i).page + (n : Int)) ≠ ⟨#[]⟩) (fun iv _=>ar.length - (intOf iv).toNat)
 case atStart=>exact ⟨0,by omega,rfl,Below.refl _ _,fun i hi=>by omega⟩
 case round =>
  obtain ⟨k,hk,rfl,hb,hpast⟩:=hrel
  have HB:=hideC hb
  have HP:=hideC hpast
  clear hpast
  by_cases hlt : k < ar.length
  · obtain ⟨b,off,hao,hli⟩:=HL.out.resolve_left (fun e=>by rw [e] at hlt;cases hlt)
    subst hao
    obtain ⟨d0,d1,d2,d3⟩:=hli k hlt
    have hbl:=hli.lt k hlt
    have c0:=(hb.cell (p:=⟨b,off + k * 4,none⟩) hbl).trans d0
    have c1:=(hb.cell (p:=⟨b,off + k * 4 + 1,none⟩) hbl).trans d1
    have c2:=(hb.cell (p:=⟨b,off + k * 4 + 2,none⟩) hbl).trans d2
    have c3:=(hb.cell (p:=⟨b,off + k * 4 + 3,none⟩) hbl).trans d3
    have hok:=HOK.out k hlt
    have HBAD:=hideC (fun n=>HBAD.out k n hlt)
    have HS : Hid (∀ n,n < (AM.at_ ar k).pages.toNat -> (AM.at_ ar k).zero = true ∨ KM.filled hs ((AM.at_ ar k).page + (n : Int)) ≠ ⟨#[]⟩) -> Hid (∀ i,i < k + 1 -> ∀ n,n < (AM.at_ ar i).pages.toNat -> (AM.at_ ar i).zero = true ∨ KM.filled hs ((AM.at_ ar i).page + (n : Int)) ≠ ⟨#[]⟩):=fun g i hi=>by
     by_cases e : i = k
     · rw [e];exact g.out
     · exact HP.out i (by omega)
    obtain ⟨a,ha⟩ : ∃ a,a = AM.at_ ar k:=⟨_,rfl⟩
    rw [<- ha] at c0 c1 c2 c3 hok HBAD HS
    obtain ⟨pg,ps,pt,z⟩:=a
    simp only at c0 c1 c2 c3 hok HBAD HS
    obtain ⟨pn,rfl⟩ : ∃ pn : Nat,pg = (pn : Int):=⟨pg.toNat,by omega⟩
    obtain ⟨pm,rfl⟩ : ∃ pm : Nat,ps = (pm : Int):=⟨ps.toNat,by omega⟩
    rw [Int.toNat_natCast] at HS HBAD
    have hbw : ¬ b = wr.heap.size:=by have:=hb.size;omega
    have hmw : ¬ mb = wr.heap.size:=by have:=hb.size;omega
    have HBA:=hideC (HB.out.alloc HB.out.size (.cells #[.int .i64 (pn : Int),.int .i64 (pm : Int),.int .i64 pt,.bool z] 47))
    have SA:=hideC (B.new wr #[.int .i64 (pn : Int),.int .i64 (pm : Int),.int .i64 pt,.bool z] 47)
    clear ha d0 d1 d2 d3 hli HP HGOOD HOK HL hb
    go_wp2
    obtain ⟨W1,hW1⟩ : ∃ W1,W1 = wr.alloc (.cells #[.int .i64 (pn : Int),.int .i64 (pm : Int),.int .i64 pt,.bool z] 47):=⟨_,rfl⟩
    rw [<- hW1] at HBA SA ⊢
    obtain ⟨sb,hsb⟩ : ∃ sb,sb = wr.heap.size:=⟨_,rfl⟩
    rw [<- hsb] at SA ⊢
    clear hW1 hsb c0 c1 c2 c3 hbw hmw
    have s0 : W1.cell? ⟨sb,0,none⟩ = some (.int .i64 (pn : Int)):=B.cell SA.out 0 rfl
    have s3 : W1.cell? ⟨sb,3,none⟩ = some (.bool z):=B.cell SA.out 3 rfl
    have HWF : Hid (∀ n : Nat,n < 256 -> W1.cell? ⟨mb,5 + n,none⟩ = some (.string (KM.filled hs n))):=fun n hn=>(HBA.out.cell (p:=⟨mb,5 + n,none⟩) hmb).trans (HFL.out n hn)
    go_loopw [16] (fun iv wq=>∃ n : Nat,n <= pm /\ iv = .int .i64 (n : Int) /\ (wq.heap = W1.heap /\ Below w.heap.size w wq) /\ ∀ i,i < n -> z = true ∨ KM.filled hs ((pn : Int) + (i : Int)) ≠ ⟨#[]⟩) (fun iv _=>pm - (intOf iv).toNat)
    case atStart=>exact ⟨0,by omega,rfl,⟨rfl,HBA.out⟩,fun i hi=>by omega⟩
    case round =>
     obtain ⟨n,hn,rfl,⟨hD,hbD⟩,hpast⟩:=hrel
     obtain ⟨wq,hwq⟩ : ∃ wq,wq = wr:=⟨_,rfl⟩
     rw [<- hwq] at hD hbD ⊢
     clear hwq
     have HBD:=hideC hbD
     have HHD:=hideC hD
     have HP2:=hideC hpast
     have r0 : wq.cell? ⟨sb,0,none⟩ = some (.int .i64 (pn : Int)):=(World.cell?_of_block (by rw [hD])).trans s0
     have r3 : wq.cell? ⟨sb,3,none⟩ = some (.bool z):=(World.cell?_of_block (by rw [hD])).trans s3
     have HWQ : Hid (∀ n : Nat,n < 256 -> wq.cell? ⟨mb,5 + n,none⟩ = some (.string (KM.filled hs n))):=fun n hn=>(World.cell?_of_block (by rw [HHD.out])).trans (HWF.out n hn)
     clear hD hbD hpast
     by_cases hn2 : n < pm
     · have hni : (n : Int) < (pm : Int):=by omega
       have HN : Hid (∀ wz : World,wz = wq.drew -> (wz.heap = W1.heap /\ Below w.heap.size w wz)):=fun wz e=>by rw [e];exact ⟨HHD.out,HBD.out.drew⟩
       have HP3 : Hid ((z = true ∨ KM.filled hs ((pn : Int) + (n : Int)) ≠ ⟨#[]⟩) -> ∀ i,i < n + 1 -> z = true ∨ KM.filled hs ((pn : Int) + (i : Int)) ≠ ⟨#[]⟩):=fun g i hi=>by
        by_cases e : i = n
        · rw [e];exact g
        · exact HP2.out i (by omega)
       cases z with
       | true =>
        clear HBAD HS HP2
        go_wp2
        go_region
        go_wp2
        go_roundw
        case rel=>exact ⟨n + 1,by omega,by go_num,HN.out _ rfl,HP3.out (.inl trivial)⟩
        case measure=>simp [intOf];omega
       | false =>
        have q:=HWQ.out (pn + n) (by omega)
        have ew : IntKind.i64.wrap ((pn : Int) + (n : Int)) = ((pn + n : Nat) : Int):=by rw [IntKind.wrap_i64];omega
        have ei : ((pn + n : Nat) : Int) = (pn : Int) + (n : Int):=by omega
        have i0 : (0 : Int) <= ((pn + n : Nat) : Int):=by omega
        have i1 : ((pn + n : Nat) : Int) < 256:=by omega
        have HBAD:=hideC (HBAD.out n hn2 rfl)
        rw [<- ei] at HBAD HP3
        obtain ⟨X,hX⟩ : ∃ X,X = pn + n:=⟨_,rfl⟩
        obtain ⟨D,hD⟩ : ∃ D,D = KM.filled hs (X : Int):=⟨_,rfl⟩
        rw [<- hX] at q ew i0 i1 HBAD HP3
        rw [<- hD] at q HBAD HP3
        clear HS HP2 HWQ hX hD ei
        by_cases hz : D = ⟨#[]⟩
        · have hA:=HBAD.out hz
          subst hA hz
          go_wp2
          go_region
          go_wp2
          go_ret
          exact ⟨rfl,HBD.out.drew⟩
        · have hz2 : D.toList.isEmpty = false:=by
           rw [Go.ByteArray.toList_eq]
           cases q2 : D.data.toList.isEmpty with
           | false=>rfl
           | true=>exact absurd (by obtain ⟨⟨l⟩⟩:=D;have e : l = []:=List.isEmpty_iff.1 q2;rw [e]) hz
          clear HBAD
          go_wp2
          go_region
          go_wp2
          go_roundw
          case rel=>exact ⟨n + 1,by omega,by go_num,HN.out _ rfl,HP3.out (.inr hz)⟩
          case measure=>simp [intOf];omega
     · obtain rfl : n = pm:=by omega
       have HS2:=hideC (HS HP2)
       have hni : ¬ (n : Int) < (n : Int):=by omega
       go_wp2
       go_roundw
       case rel=>exact ⟨k + 1,by omega,by go_num,HBD.out,HS2.out⟩
       case measure=>simp [intOf];omega
  · obtain rfl : k = ar.length:=by omega
    have hA:=HGOOD.out HP.out
    subst hA
    clear hb
    go_wp2
    go_ret
    exact ⟨rfl,HB.out⟩
end KW
end Go.Proofs.YtpgifpeohlllfaaGreat
