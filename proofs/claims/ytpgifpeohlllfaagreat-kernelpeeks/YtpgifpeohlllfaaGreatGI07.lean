import Derived.Test.YtpgifpeohlllfaaGreatProg
import Derived.Test.YtpgifpeohlllfaaGreatGI00
import Derived.Test.YtpgifpeohlllfaaGreatGI05
import Derived.Test.YtpgifpeohlllfaaGreatGI06
import Derived.WalkLawsBesides
import Derived.WalkSpells
import Derived.Laws.BytesArg
import Derived.Laws.OwnMore
import Derived.Lib.Walk
import Derived.Lib.BufferWrite
import Derived.Lib.Hide
import Derived.Laws.MakeOwn
import Derived.Laws.IdiomStrings
import Derived.Deep.QuietTactic
import Derived.BigQuiet
import Derived.Laws.CopyOwn
import Derived.Deep.AppendLies
import Derived.Deep.Upon
set_option maxHeartbeats 20000000
set_option linter.unusedVariables false
set_option maxRecDepth 100000
set_option linter.unusedSimpArgs false
namespace Go.Proofs.YtpgifpeohlllfaaGreat
namespace LW
open Go.RowKit
open W (hideC)
theorem below_drew (w : World) : Below w.heap.size w w.drew:=⟨rfl,rfl,rfl,Nat.le_refl _,fun _ _=>rfl⟩
theorem ret_bool {a b : Bool} (h : a = b) : Ending.returned (.bool a) = .returned (.bool b):=by rw [h]
set_option maxHeartbeats 2000000 in
theorem rightSheet_any (s : LM.Sh) (w : World) (h : LM.HasF w s.ao s.fixes) (hf : LM.FitH s) :
  Calls Tryz.prog 146 #[.agg (LM.cellsH s)] w fun e w'=>e = .returned (.bool (LM.sheetB s)) /\ Below w.heap.size w w':=by
 obtain ⟨f1,f2,f3,f4⟩:=hf
 obtain ⟨pg,dt,fs,ao,cap⟩:=s
 simp only at f1 f2 f3 f4
 unfold M.I64 at f1
 unfold M.Short at f2 f3
 simp only [LM.cellsH]
 have hdl : dt.size <= maxLen:=by unfold maxLen;omega
 have F4:=hideC f4
 have HH:=hideC h
 clear f4 h
 have HB:=hideC ((Below.refl w.heap.size w).alloc (Nat.le_refl _) (.cells #[.int .i64 pg,.string dt,.slice ao fs.length cap] 50))
 by_cases h1 : pg < 1
 · have e : LM.sheetB ⟨pg,dt,fs,ao,cap⟩ = false:=by
    unfold LM.sheetB LM.headB
    rw [decide_eq_false (by simp only;omega),Bool.false_and]
   rw [e]
   go_enter Tryz.func146,Tryz.ntmps146
   go_wp2
   go_ret
   exact ⟨rfl,HB.out⟩
 by_cases h2 : 255 < pg
 · have e : LM.sheetB ⟨pg,dt,fs,ao,cap⟩ = false:=by
    unfold LM.sheetB LM.headB
    rw [decide_eq_false (by simp only;omega),Bool.false_and]
   rw [e]
   go_enter Tryz.func146,Tryz.ntmps146
   go_wp2
   go_ret
   exact ⟨rfl,HB.out⟩
 by_cases h3 : dt.size = 16
 · have h3' : (dt.size : Int) = 16:=by omega
   have e : LM.headB ⟨pg,dt,fs,ao,cap⟩ = true:=by
    unfold LM.headB
    exact decide_eq_true ⟨by simp only;omega,by simp only;omega,h3⟩
   have E : Hid (LM.sheetB ⟨pg,dt,fs,ao,cap⟩ = LM.fixesTo fs fs.length):=by
    show _ = _
    unfold LM.sheetB
    rw [e,Bool.true_and]
   clear e h3
   go_enter Tryz.func146,Tryz.ntmps146
   go_wp2
   go_loopw [23,3] (fun i en wr=>∃ k : Nat,k <= fs.length /\ i = .int .i64 k /\ en = .int .i64 (LM.endTo fs k) /\ LM.fixesTo fs k = true /\ Below w.heap.size w wr) (fun i _ _=>fs.length - (intOf i).toNat)
   case atStart=>exact ⟨0,by omega,rfl,rfl,rfl,HB.out⟩
   case round =>
    obtain ⟨k,hk,rfl,rfl,hg,hb⟩:=hrel
    have HG:=hideC hg
    have HBr:=hideC hb
    clear hg
    by_cases hlt : k < fs.length
    · obtain ⟨b,off,hao,hbl,hlie⟩:=(HH.out.below hb) (by omega)
      subst hao
      obtain ⟨c0,c1⟩:=hlie k hlt
      obtain ⟨g1,g2⟩:=F4.out k hlt
      have hed:=LM.endTo_ge fs k HG.out
      obtain ⟨f,hfe⟩ : ∃ f,f = LM.fxAt fs k:=⟨_,rfl⟩
      rw [<- hfe] at c0 c1 g1 g2
      unfold M.I64 at g1
      unfold M.Short at g2
      have hfl : f.bytes.size <= maxLen:=by unfold maxLen;omega
      have HFE:=hideC hfe
      clear hfe hlie hb
      obtain ⟨en,hen⟩ : ∃ en,en = LM.endTo fs k:=⟨_,rfl⟩
      rw [<- hen] at hed
      have HEN:=hideC hen
      rw [<- hen]
      clear hen
      have HBA:=hideC (HBr.out.alloc HBr.out.size (.cells #[.int .i64 f.off,.string f.bytes] 52))
      by_cases q1 : f.off < en
      · have HX : Hid (LM.fixesTo fs fs.length = false):=LM.fixes_bad fs k hlt (by rw [<- HFE.out,<- HEN.out];exact LM.fixB_no (by omega))
        go_wp2
        go_ret
        exact ⟨ret_bool (by rw [E.out,HX.out]),HBA.out⟩
      by_cases q2 : 16 < f.off
      · have HX : Hid (LM.fixesTo fs fs.length = false):=LM.fixes_bad fs k hlt (by rw [<- HFE.out,<- HEN.out];exact LM.fixB_no (by omega))
        go_wp2
        go_ret
        exact ⟨ret_bool (by rw [E.out,HX.out]),HBA.out⟩
      by_cases q3 : (f.bytes.size : Int) < 1
      · have HX : Hid (LM.fixesTo fs fs.length = false):=LM.fixes_bad fs k hlt (by rw [<- HFE.out,<- HEN.out];exact LM.fixB_no (by omega))
        go_wp2
        go_ret
        exact ⟨ret_bool (by rw [E.out,HX.out]),HBA.out⟩
      by_cases q4 : 16 - f.off < (f.bytes.size : Int)
      · have HX : Hid (LM.fixesTo fs fs.length = false):=LM.fixes_bad fs k hlt (by rw [<- HFE.out,<- HEN.out];exact LM.fixB_no (by omega))
        go_wp2
        go_ret
        exact ⟨ret_bool (by rw [E.out,HX.out]),HBA.out⟩
      · have HX : Hid (LM.fixesTo fs (k + 1) = true):=by
         show _ = _
         simp only [LM.fixesTo,Bool.and_eq_true]
         exact ⟨HG.out,by rw [<- HFE.out,<- HEN.out];exact (LM.fixB_iff _ _).2 (by omega)⟩
        have HY : Hid (LM.endTo fs (k + 1) = f.off + (f.bytes.size : Int)):=by show _ = _;simp only [LM.endTo];rw [<- HFE.out]
        go_wp2
        go_roundw
        case rel=>exact ⟨k + 1,by omega,by go_num,by rw [HY.out],HX.out,HBA.out⟩
        case measure=>simp [intOf];omega
    · obtain rfl : k = fs.length:=by omega
      go_wp2
      go_ret
      exact ⟨ret_bool (by rw [E.out,HG.out]),HBr.out⟩
 · have e : LM.sheetB ⟨pg,dt,fs,ao,cap⟩ = false:=by
    unfold LM.sheetB LM.headB
    rw [decide_eq_false (fun h=>h3 h.2.2),Bool.false_and]
   have h3' : ((dt.size : Int) == 16) = false:=by simp;omega
   rw [e]
   go_enter Tryz.func146,Tryz.ntmps146
   go_wp2
   go_ret
   exact ⟨rfl,HB.out⟩
end LW
namespace CW
open Go.RowKit
set_option maxHeartbeats 400000 in
theorem bytes_any (n : Int) (size : Nat) (w : World) (h2 : size <= 8) :
  Calls Tryz.prog 138 #[.int .i64 n,.int .i64 size] w fun e w'=>e = .returned (.string ⟨(Lib.leBytes size (CM.low n)).toArray⟩) /\ Below w.heap.size w w':=by
 go_enter Tryz.func138,Tryz.ntmps138
 go_wp2
 go_loopw [0,5,6] (fun t s i wr=>∃ k : Nat,k <= size /\ i = .int .i64 k /\ t = .int .i64 (CM.shr n k) /\ s = .string ⟨(Lib.leBytes k (CM.low n)).toArray⟩ /\ Below w.heap.size w wr) (fun _ _ i _=>size - (intOf i).toNat)
 case atStart=>exact ⟨0,by omega,rfl,by rw [CM.shr_zero],rfl,Below.refl _ _⟩
 case round =>
  obtain ⟨k,hk,rfl,rfl,rfl,hb⟩:=hrel
  by_cases hlt : k < size
  · have hcv : (convert 137 9 (.slice (some ⟨wr.heap.size,0,none⟩) 1 1)).run Tryz.prog (wr.alloc (.cells #[.int .u8 (CM.shr n k % 256)] 5)) = .ok (.string ⟨#[(CM.low n / 256 ^ k % 256).toUInt8]⟩) (wr.alloc (.cells #[.int .u8 (CM.shr n k % 256)] 5)):=by
     rw [<- CM.strOfNums_byte n k (by omega)]
     refine run_convert_bytes_arg _ 137 5 Tryz.underlying137 Tryz.underlying5 _ 0 1 1 [CM.shr n k % 256] rfl ?_ 9 Tryz.underlying9
     intro i hi
     obtain rfl : i = 0:=by omega
     simp
    have hl : (Lib.leBytes k (CM.low n)).length = k:=Lib.leBytes_length _ _
    have HN : Hid (Lib.leBytes (k + 1) (CM.low n) = Lib.leBytes k (CM.low n) ++ [(CM.low n / 256 ^ k % 256).toUInt8]):=CM.leBytes_snoc _ _
    go_wp2
    go_roundw
    case rel=>exact ⟨k + 1,by omega,by go_num,by rw [<- CM.shr_succ],by rw [HN.out];exact congrArg Value.string (CM.mk_append _ [_]),hb.alloc (by have:=hb.size;omega) _⟩
    case measure=>simp [intOf];omega
  · obtain rfl : k = size:=by omega
    go_wp2
    go_ret
    exact ⟨rfl,hb⟩
theorem info5 : (Tryz.prog.info? 5).map (fun i=>(i.zero,i.size,i.bytes)) = some (some (.int .u8 0),1,1):=by kernel_rfl
set_option maxHeartbeats 400000 in
theorem clone18 (s : ByteArray) (w : World) (hlim : s.size <= 281474976710656) :
  Calls Tryz.prog 152 #[.string s] w fun e w'=>e = .returned (.string s) /\ Below w.heap.size w w':=by
 by_cases h0 : s.size = 0
 · have hs : s = ⟨#[]⟩:=by
    apply ByteArray.ext
    exact Array.eq_empty_of_size_eq_zero h0
   subst hs
   go_enter Tryz.func152,Tryz.ntmps152
   go_wp2
   go_ret
   exact ⟨rfl,Below.refl _ _⟩
 · obtain ⟨i0,hi,hz0,hz1,hz2⟩:=info_parts info5
   have hinfo : (Tryz.prog.info? 5).map (·.size) = some 1:=by rw [hi];simp [hz1]
   have hco : Tryz.prog.cellsOf 5 = 1:=by simp [Program.cellsOf,hi,hz1]
   obtain ⟨M,hM⟩ : ∃ M,M = madeCells (Value.int .u8 0).cells (((s.size : Nat) : Int).toNat * i0.size):=⟨_,rfl⟩
   have hMs : M.size = s.size:=by rw [hM,size_madeCells,hz1];simp
   have hmk : ∀ W : World,(Instr.makeSlice 137 (.int .i64 (s.size : Int)) (.int .i64 (s.size : Int))).run Tryz.prog W = .ok (.slice (some ⟨W.heap.size,0,none⟩) s.size s.size) (W.alloc (.cells M 5)):=fun W=>by
    have h:=run_make (P:=Tryz.prog) W 137 5 i0 (.int .u8 0) Tryz.underlying137 hi hz0 .i64 .i64 (s.size : Int) (s.size : Int) (by omega) (by omega) (by rw [hz2];omega) (by omega)
    rw [<- hM] at h
    simpa using h
   clear hM
   have hcp:=Lib.run_copy_row_string (P:=Tryz.prog) (w.alloc (.cells M 5)) 137 9 3 5 w.heap.size 0 s.size s.size s M 5 Tryz.underlying137 hinfo (heap_alloc_new w _) (Nat.le_refl _) (by omega)
   obtain ⟨Y,hY⟩ : ∃ Y,Y = (M.toList.take 0 ++ Lib.byteCells s.data.toList ++ M.toList.drop (0 + s.size)).toArray:=⟨_,rfl⟩
   rw [<- hY] at hcp
   have hYl : Y.toList = Lib.byteCells s.data.toList:=by
    rw [hY,List.toList_toArray,List.take_zero,List.nil_append,List.drop_of_length_le (by rw [Array.length_toList];omega),List.append_nil]
   have hYs : Y.size = s.size:=by rw [<- Array.length_toList,hYl,Lib.byteCells_length,<- Lib.size_eq]
   have hgY : ((w.alloc (.cells M 5)).setRow w.heap.size Y).heap[w.heap.size]? = some (.cells Y 5 (0,0)):=setRow_heap _ _ M _ 5 (0,0) (heap_alloc_new w _)
   have hne : s.data.toList ≠ []:=fun e=>h0 (by rw [Lib.size_eq,e];rfl)
   have hUS:=Lib.run_unsafeString_row (P:=Tryz.prog) ((w.alloc (.cells M 5)).setRow w.heap.size Y) 235 3 9 5 Tryz.underlying235 hco w.heap.size Y.size (by unfold World.shape?;rw [hgY]) s.data.toList hne (by rw [<- Lib.size_eq];omega) (by rw [<- Lib.size_eq];omega)
    (fun j x hx=>Lib.cells_of_row hgY Y.size j _ (by rw [List.take_of_length_le (by rw [Array.length_toList];exact Nat.le_refl _),hYl];simp [Lib.byteCells,hx]))
   rw [<- Lib.size_eq] at hUS
   clear hY
   go_enter Tryz.func152,Tryz.ntmps152
   go_wp2
   go_ret
   have hb1 : Below w.heap.size w (w.alloc (.cells M 5)):=(Below.refl _ w).alloc (Nat.le_refl _) _
   have hb2 : Below w.heap.size (w.alloc (.cells M 5)) ((w.alloc (.cells M 5)).setRow w.heap.size Y):=⟨rfl,rfl,rfl,by simp,fun k hk=>setRow_other _ _ _ _ (by omega)⟩
   exact ⟨rfl,Lib.below_freeze (hb1.trans hb2) (p:=⟨w.heap.size,0,none⟩) (Nat.le_refl _) _⟩
theorem clone17 (s : ByteArray) (w : World) (hlim : s.size <= 281474976710656) :
  Calls Tryz.prog 116 #[.string s] w fun e w'=>e = .returned (.string s) /\ Below w.heap.size w w':=by
 go_enter Tryz.func116,Tryz.ntmps116
 go_wp2_with (go_at_call 152;refine (clone18 _ _ hlim).mono ?_;rintro e w' ⟨rfl,hb⟩)
 go_ret
 exact ⟨rfl,by assumption⟩
theorem inside_yes (l o n : Int) (w : World) (h1 : 0 <= o) (h2 : 0 <= n) (h3 : o <= l) (h4 : n <= l - o) (h5 : l <= 9223372036854775807) :
  Calls Tryz.prog 115 #[.int .i64 l,.int .i64 o,.int .i64 n] w fun e w'=>e = .returned (.bool true) /\ w = w':=by
 go_enter Tryz.func115,Tryz.ntmps115
 go_wp2
 go_ret
 exact ⟨rfl,rfl⟩
theorem part_yes (s : ByteArray) (o n : Nat) (w : World) (hs : s.size <= 140737488351232) (h : o + n <= s.size) :
  Calls Tryz.prog 63 #[.string s,.int .i64 o,.int .i64 n] w fun e w'=>e = .returned (.tuple #[.string (s.extract o (o + n)),.int .i64 0]) /\ Below w.heap.size w w':=by
 go_enter Tryz.func63,Tryz.ntmps63
 go_wp2_with (first | (go_at_call 115;refine (inside_yes _ _ _ _ (by omega) (by omega) (by omega) (by omega) (by omega)).mono ?_;rintro e w' ⟨rfl,rfl⟩) | (go_at_call 116;refine (clone17 _ _ (by simp;omega)).mono ?_;rintro e w' ⟨rfl,hb⟩))
 go_ret2
 exact ⟨rfl,by assumption⟩
set_option maxHeartbeats 400000 in
theorem lay_yes (s t : ByteArray) (o : Nat) (w : World) (hs : s.size <= 140737488351232) (h : o + t.size <= s.size) :
  Calls Tryz.prog 65 #[.string s,.int .i64 o,.string t] w fun e w'=>e = .returned (.tuple #[.string (CL.over s o t),.int .i64 0]) /\ Below w.heap.size w w':=by
 obtain ⟨i0,hi,hz0,hz1,hz2⟩:=info_parts info5
 have hinfo : (Tryz.prog.info? 5).map (·.size) = some 1:=by rw [hi];simp [hz1]
 obtain ⟨c,hc⟩ : ∃ c,grownCap w s.size 0 5 = c:=⟨_,rfl⟩
 have hcs : s.size <= c:=by rw [<- hc];exact grownCap_ge _ _ _ _
 have hcv:=run_bytes_of_string (P:=Tryz.prog) w 9 137 5 s Tryz.underlying9 Tryz.underlying137 Tryz.underlying5
 rw [hc] at hcv
 clear hc
 have hRs : (bytesRow s c).size = c:=by rw [CL.bytesRow_size];omega
 have hov:=CL.over_cells s o t c h
 obtain ⟨R,hR⟩ : ∃ R,R = bytesRow s c:=⟨_,rfl⟩
 rw [<- hR] at hcv hRs hov
 clear hR
 rw [hRs] at hcv
 have hgR : ((w.alloc (.cells R 5 (c,c + 1))).drew).heap[w.heap.size]? = some (.cells R 5 (c,c + 1)):=heap_alloc_new w _
 by_cases h0 : t.size = 0
 · have hcp:=fun W d l c=>Lib.run_copy_empty_string (P:=Tryz.prog) W 137 9 3 5 d l c t Tryz.underlying137 (by rw [hinfo];rfl) h0
   rw [CL.over_nil s o t h0] at hov ⊢
   have hcb : (convert 137 9 (.slice (some ⟨w.heap.size,0,none⟩) s.size c)).run Tryz.prog ((w.alloc (.cells R 5 (c,c + 1))).drew) = .ok (.string s) ((w.alloc (.cells R 5 (c,c + 1))).drew):=by
    have es : strOfNums (s.data.toList.map fun b=>(b.toNat : Int)) = s:=(CM.strOfNums_bytes _).trans (Lib.mk_data s)
    refine Eq.trans ?_ (congrArg (fun x=>Result.ok (Value.string x) ((w.alloc (.cells R 5 (c,c + 1))).drew)) es)
    refine run_convert_bytes_arg _ 137 5 Tryz.underlying137 Tryz.underlying5 _ 0 s.size c _ (by rw [List.length_map,<- Lib.size_eq]) ?_ 9 Tryz.underlying9
    intro i hi
    have ht : t.data.toList = []:=List.eq_nil_of_length_eq_zero (by rw [<- Lib.size_eq];exact h0)
    have e:=hov i hi
    rw [ht,h0] at e
    rw [Nat.zero_add,cell_of_row _ _ _ _ _ _ hgR]
    simpa [Lib.byteCells] using e
   go_enter Tryz.func65,Tryz.ntmps65
   go_wp2_with (first | (go_at_call 115;refine (inside_yes _ _ _ _ (by omega) (by omega) (by omega) (by omega) (by omega)).mono ?_;rintro e w' ⟨rfl,rfl⟩))
   all_goals go_ret2
   all_goals exact ⟨rfl,((Below.refl _ _).alloc (Nat.le_refl _) _).drew⟩
 · have hno : ¬ c = o:=by omega
   have hcp:=CL.copy_marked (P:=Tryz.prog) ((w.alloc (.cells R 5 (c,c + 1))).drew) 137 9 3 5 w.heap.size o (s.size - o) (c - o) t R 5 c (c + 1) Tryz.underlying137 hinfo hgR (by omega) (by omega) (by omega)
   obtain ⟨Y,hY⟩ : ∃ Y,Y = (R.toList.take o ++ Lib.byteCells t.data.toList ++ R.toList.drop (o + t.size)).toArray:=⟨_,rfl⟩
   rw [<- hY] at hcp
   have hgY : (((w.alloc (.cells R 5 (c,c + 1))).drew).setRow w.heap.size Y).heap[w.heap.size]? = some (.cells Y 5 (c,c + 1)):=setRow_heap _ _ R _ 5 (c,c + 1) hgR
   have hcb : (convert 137 9 (.slice (some ⟨w.heap.size,0,none⟩) s.size c)).run Tryz.prog (((w.alloc (.cells R 5 (c,c + 1))).drew).setRow w.heap.size Y) = .ok (.string (CL.over s o t)) (((w.alloc (.cells R 5 (c,c + 1))).drew).setRow w.heap.size Y):=by
    rw [<- Lib.mk_data (CL.over s o t),<- CM.strOfNums_bytes]
    refine run_convert_bytes_arg _ 137 5 Tryz.underlying137 Tryz.underlying5 _ 0 s.size c _ (by rw [List.length_map];exact CL.over_size s o t h) ?_ 9 Tryz.underlying9
    intro i hi
    rw [Nat.zero_add,cell_of_row _ _ _ _ _ _ hgY,hY]
    simpa using hov i hi
   clear hov hY
   go_enter Tryz.func65,Tryz.ntmps65
   go_wp2_with (first | (go_at_call 115;refine (inside_yes _ _ _ _ (by omega) (by omega) (by omega) (by omega) (by omega)).mono ?_;rintro e w' ⟨rfl,rfl⟩))
   go_ret2
   exact ⟨rfl,below_setRow ((Below.refl _ _).alloc (Nat.le_refl _) _).drew (Nat.le_refl _) _⟩
set_option maxHeartbeats 400000 in
theorem over_any (s t : ByteArray) (o : Nat) (w : World) (hs : s.size <= 140737488351232) (h : o + t.size <= s.size) :
  Calls Tryz.prog 68 #[.string s,.int .i64 o,.string t] w fun e w'=>e = .returned (.string (CL.over s o t)) /\ Below w.heap.size w w':=by
 have h1 : (o : Int) <= (s.size : Int):=by omega
 have h2 : (o : Int) + (t.size : Int) <= (s.size : Int):=by omega
 go_enter Tryz.func68,Tryz.ntmps68
 go_wp2
 go_quiet (fail)
 go_wp2
 go_ret
 exact ⟨by rw [<- CL.over_parts s o t];rfl,below_drewN (Below.refl _ _) _⟩
end CW
namespace LW
open Go.RowKit
open W (hideC)
theorem ret_sn {s t : ByteArray} {a b : Int} (h : s = t) (g : a = b) : Ending.returned (.tuple #[.string s,.int .i64 a]) = .returned (.tuple #[.string t,.int .i64 b]):=by rw [h,g]
set_option maxHeartbeats 2000000 in
theorem fill_any (s : LM.Sh) (w : World) (h : LM.HasF w s.ao s.fixes) (hf : LM.FitH s) :
  Calls Tryz.prog 148 #[.agg (LM.cellsH s)] w fun e w'=>e = .returned (.tuple #[.string (LM.fillN s).1,.int .i64 (LM.fillN s).2]) /\ Below w.heap.size w w':=by
 have HR : Hid (∀ W,Below w.heap.size w W -> Calls Tryz.prog 146 #[.agg (LM.cellsH s)] W fun e w'=>e = .returned (.bool (LM.sheetB s)) /\ Below W.heap.size W w'):=fun W hb=>rightSheet_any s W (h.below hb) hf
 obtain ⟨f1,f2,f3,f4⟩:=hf
 obtain ⟨pg,dt,fs,ao,cap⟩:=s
 simp only at f1 f2 f3 f4
 unfold M.Short at f2 f3
 simp only [LM.cellsH] at HR
 simp only [LM.cellsH]
 have hdl : dt.size <= maxLen:=by unfold maxLen;omega
 have F4:=hideC f4
 have HH:=hideC h
 clear f4 h f1
 have HB:=hideC ((Below.refl w.heap.size w).alloc (Nat.le_refl _) (.cells #[.int .i64 pg,.string dt,.slice ao fs.length cap] 50))
 have BX:=hideC (B.new w #[.int .i64 pg,.string dt,.slice ao fs.length cap] 50)
 by_cases hs : LM.sheetB ⟨pg,dt,fs,ao,cap⟩ = true
 · have HN : Hid (LM.fillN ⟨pg,dt,fs,ao,cap⟩ = (LM.laidTo dt fs fs.length,0)):=by
    show _ = _
    unfold LM.fillN
    rw [if_pos hs]
    rfl
   obtain ⟨hd,hfx⟩ : LM.headB ⟨pg,dt,fs,ao,cap⟩ = true /\ LM.fixesTo fs fs.length = true:=by
    unfold LM.sheetB at hs
    simpa using hs
   have h16 : dt.size = 16:=by
    unfold LM.headB at hd
    exact (of_decide_eq_true hd).2.2
   have HFX:=hideC hfx
   rw [hs] at HR
   clear hs hd hfx
   go_enter Tryz.func148,Tryz.ntmps148
   go_wp2_with (first | (go_at_call 146;refine (HR.out _ HB.out).mono ?_;rintro e w1 ⟨rfl,hb⟩;have HB:=hideC (HB.out.trans (hb.mono HB.out.size));have BX:=hideC (B.below BX.out hb (B.isLt BX.out));have q0:=B.cell BX.out 0 rfl;have q1:=B.cell BX.out 1 rfl;have q2:=B.cell BX.out 2 rfl;clear hb) | (go_at_call 116;refine (CW.clone17 _ _ (by omega)).mono ?_;rintro e w2 ⟨rfl,hb⟩;have HB:=hideC (HB.out.trans (hb.mono HB.out.size));have BX:=hideC (B.below BX.out hb (B.isLt BX.out));have q0:=B.cell BX.out 0 rfl;have q1:=B.cell BX.out 1 rfl;have q2:=B.cell BX.out 2 rfl;clear hb))
   go_loopw [16,4] (fun i d wr=>∃ k : Nat,k <= fs.length /\ i = .int .i64 k /\ d = .string (LM.laidTo dt fs k) /\ Below w.heap.size w wr) (fun i _ _=>fs.length - (intOf i).toNat)
   case atStart=>exact ⟨0,by omega,rfl,rfl,HB.out⟩
   case round =>
    obtain ⟨k,hk,rfl,rfl,hb⟩:=hrel
    have HBr:=hideC hb
    by_cases hlt : k < fs.length
    · obtain ⟨b,off,hao,hbl,hlie⟩:=(HH.out.below hb) (by omega)
      subst hao
      obtain ⟨c0,c1⟩:=hlie k hlt
      have hok:=(LM.fixB_iff _ _).1 (LM.fixesTo_ok fs fs.length HFX.out k hlt)
      have hgk : LM.fixesTo fs k = true:=by
       cases e : LM.fixesTo fs k
       · rw [LM.fixesTo_false fs k fs.length (by omega) e] at HFX
         cases HFX
       · rfl
      have hed:=LM.endTo_ge fs k hgk
      have hsz:=LM.laidTo_size dt fs h16 k hgk
      have HNX : Hid (LM.laidTo dt fs (k + 1) = CL.over (LM.laidTo dt fs k) (LM.fxAt fs k).off.toNat (LM.fxAt fs k).bytes):=rfl
      obtain ⟨f,hfe⟩ : ∃ f,f = LM.fxAt fs k:=⟨_,rfl⟩
      rw [<- hfe] at c0 c1 hok HNX
      obtain ⟨D,hD⟩ : ∃ D,D = LM.laidTo dt fs k:=⟨_,rfl⟩
      rw [<- hD] at hsz HNX
      rw [<- hD]
      obtain ⟨o,ho⟩ : ∃ o : Nat,f.off = (o : Int):=⟨f.off.toNat,by omega⟩
      rw [ho] at c0 hok
      rw [ho,Int.toNat_natCast] at HNX
      clear hfe hD hgk hlie hb
      have HBA:=hideC (HBr.out.alloc HBr.out.size (.cells #[.int .i64 (o : Int),.string f.bytes] 52))
      go_wp2_with (go_at_call 65;refine (CW.lay_yes D f.bytes o _ (by omega) (by omega)).mono ?_;rintro e w3 ⟨rfl,hb⟩;have HBA:=hideC (HBA.out.trans (hb.mono HBA.out.size));clear hb)
      go_roundw
      case rel=>exact ⟨k + 1,by omega,by go_num,by rw [HNX.out],HBA.out⟩
      case measure=>simp [intOf];omega
    · obtain rfl : k = fs.length:=by omega
      go_wp2
      go_ret2
      exact ⟨ret_sn (by rw [HN.out]) (by rw [HN.out]),HBr.out⟩
 · have hs' : LM.sheetB ⟨pg,dt,fs,ao,cap⟩ = false:=by simpa using hs
   have HN : Hid (LM.fillN ⟨pg,dt,fs,ao,cap⟩ = (⟨#[]⟩,1)):=by
    show _ = _
    unfold LM.fillN
    rw [if_neg hs]
   rw [hs'] at HR
   clear hs hs'
   rw [HN.out]
   go_enter Tryz.func148,Tryz.ntmps148
   go_wp2_with (go_at_call 146;refine (HR.out _ HB.out).mono ?_;rintro e w1 ⟨rfl,hb⟩;have HB:=hideC (HB.out.trans (hb.mono HB.out.size));clear hb)
   go_ret2
   exact ⟨rfl,HB.out⟩
end LW
namespace GK
open Go.RowKit
structure Kp (D : Nat -> Prop) (w w' : World) : Prop where
 os : w'.os = w.os
 tape : w'.tape = w.tape
 output : w'.output = w.output
 size : w.heap.size <= w'.heap.size
 block : ∀ b,b < w.heap.size -> ¬ D b -> w'.heap[b]? = w.heap[b]?
theorem Kp.refl (D : Nat -> Prop) (w : World) : Kp D w w:=⟨rfl,rfl,rfl,Nat.le_refl _,fun _ _ _=>rfl⟩
theorem Kp.trans {D D1 : Nat -> Prop} {w w1 w2 : World} (h : Kp D w w1) (g : Kp D1 w1 w2) (hd : ∀ b,b < w.heap.size -> D1 b -> D b) : Kp D w w2 :=
 ⟨g.os.trans h.os,g.tape.trans h.tape,g.output.trans h.output,Nat.le_trans h.size g.size,fun b hb hn=>(g.block b (Nat.lt_of_lt_of_le hb h.size) (fun k=>hn (hd b hb k))).trans (h.block b hb hn)⟩
theorem Kp.mono {D D1 : Nat -> Prop} {w w' : World} (h : Kp D w w') (hd : ∀ b,b < w.heap.size -> D b -> D1 b) : Kp D1 w w':=⟨h.os,h.tape,h.output,h.size,fun b hb hn=>h.block b hb (fun k=>hn (hd b hb k))⟩
theorem Kp.ofBelow {D : Nat -> Prop} {w w' : World} (h : Below w.heap.size w w') : Kp D w w':=⟨h.os,h.tape,h.output,h.size,fun b hb _=>h.block b hb⟩
theorem Kp.below {D : Nat -> Prop} {N : Nat} {w0 w w' : World} (h : Below N w0 w) (g : Kp D w w') (hN : N <= w.heap.size) (hd : ∀ b,D b -> N <= b) : Below N w0 w' :=
 h.trans ⟨g.os,g.tape,g.output,g.size,fun b hb=>g.block b (Nat.lt_of_lt_of_le hb hN) (fun k=>by have:=hd b k;omega)⟩
theorem Kp.alloc (D : Nat -> Prop) (w : World) (o : Obj) : Kp D w (w.alloc o):=Kp.ofBelow ((Below.refl _ _).alloc (Nat.le_refl _) o)
theorem Kp.drew (D : Nat -> Prop) (w : World) : Kp D w w.drew:=Kp.ofBelow (Below.refl _ _).drew
theorem Kp.set (D : Nat -> Prop) (w : World) (a : Addr) (v : Value) (h : D a.block) : Kp D w (w.setCell a v):=by
 have hb:=(Below.refl 0 w).setCell (p:=a) (Nat.zero_le _) v
 exact ⟨hb.os,hb.tape,hb.output,hb.size,fun b _ hn=>Below.heap_setCell w a v b (fun e=>hn (e ▸ h))⟩
theorem Kp.grown {D : Nat -> Prop} {w w' : World} {row : Option Nat} (h : w.grownBy w' row) (hd : ∀ k,row = some k -> D k) : Kp D w w' :=
 ⟨h.os,h.tape,h.output,h.size,fun b hb hn=>h.block b hb (fun e=>hn (hd b e.symm))⟩
theorem Kp.keep {D : Nat -> Prop} {w w' : World} {b : Nat} {o : Obj} (h : Kp D w w') (hb : w.heap[b]? = some o) (hn : ¬ D b) : w'.heap[b]? = some o:=(h.block b (B.isLt hb) hn).trans hb
theorem Kp.cell {D : Nat -> Prop} {w w' : World} {p : Addr} {v : Value} (h : Kp D w w') (hp : w.cell? p = some v) (hn : ¬ D p.block) : w'.cell? p = some v :=
 (World.cell?_of_block (h.block p.block (World.block_lt_of_cell? w p hp) hn)).trans hp
theorem Kp.row {D : Nat -> Prop} {w w' : World} {base : Nat} {e : TypeId} {size : Nat} {v : Value} {n : Nat} {xs : List Value} (h : Kp D w w') (hr : w.ownsRow base e size v n xs) (hn : ∀ g,v.ownBlock = some g -> ¬ D g) : w'.ownsRow base e size v n xs:=by
 refine ⟨hr.1,?_⟩
 rcases hr.2 with h0 | ⟨g,cap,cur,hv,hb,hg,h1,h2,h3,h4⟩
 · exact .inl h0
 · exact .inr ⟨g,cap,cur,hv,hb,h.keep hg (hn g (by rw [hv];rfl)),h1,h2,h3,h4⟩
theorem row_set {w : World} {base : Nat} {e : TypeId} {size : Nat} {g n cap : Nat} {xs : List Value} (hr : w.ownsRow base e size (.slice (some ⟨g,0,none⟩) n cap) n xs) (j : Nat) (u : Value) :
  (w.setCell ⟨g,j,none⟩ u).ownsRow base e size (.slice (some ⟨g,0,none⟩) n cap) n (xs.set j u):=by
 refine ⟨by rw [List.length_set];exact hr.1,?_⟩
 rcases hr.2 with ⟨h0,_⟩ | ⟨g',cap',cur,hv,hb,hg,h1,h2,h3,h4⟩
 · cases h0
 · injection hv with e1 e2 e3
   injection e1 with e1
   injection e1 with e1 _ _
   subst e1 e3
   refine .inr ⟨g,cap,cur.setIfInBounds j u,rfl,hb,B.set hg j u,h1,h2,by rw [Array.size_setIfInBounds];exact h3,?_⟩
   rw [Array.toList_setIfInBounds,<- h4]
   exact List.take_set.symm ▸ rfl
theorem row_free {w : World} {base : Nat} {e : TypeId} {size : Nat} {g n cap : Nat} {xs : List Value} (hr : w.ownsRow base e size (.slice (some ⟨g,0,none⟩) n cap) n xs) (j : Nat) : w.frozen? ⟨g,j,none⟩ = false:=by
 rcases hr.2 with ⟨h0,_⟩ | ⟨g',cap',cur,hv,hb,hg,h1,h2,h3,h4⟩
 · cases h0
 · injection hv with e1 e2 e3
   injection e1 with e1
   injection e1 with e1 _ _
   subst e1
   exact B.free hg j
theorem run_append_src {P : Program} (w : World) (t ty : TypeId) (base : Nat) (e : TypeId) (i : TypeInfo) (z : Value) (size bytes : Nat) (ht : P.underlying t = some (.slice e)) (hi : P.info? e = some i) (hz : i.zero = some z)
  (hsize : i.size = size) (hby : i.bytes = bytes) (hzs : z.cells.size = size) (hsz : 0 < size)
  (v : Value) (n : Nat) (xs : List Value) (hown : w.ownsRow base e size v n xs)
  (ao : Option Addr) (m c : Nat) (news : List Value) (hl : news.length = m * size) (hnews : 0 < m -> ∃ ad,ao = some ad /\ ∀ j u,news[j]? = some u -> w.cell? (ad.add j) = some u) (h1 : ∀ u ∈ news,u.oneCell' = true)
  (h63 : n + m <= maxLen) (hbytes : (n + m) * bytes <= 140737488355328) (hbase : base <= w.heap.size) :
  ∃ v' w',(Builtin.append_ #[t,t] ty #[v,.slice ao m c]).run P w = .ok v' w' /\
   w'.ownsRow base e size v' (n + m) (xs ++ news) /\ w.grownBy w' v.ownBlock /\ (v'.ownBlock = v.ownBlock ∨ v'.ownBlock = some w.heap.size):=by
 by_cases h0 : 0 < m
 · obtain ⟨ad,rfl,hc⟩:=hnews h0
   obtain ⟨g,cap,w',hr,h2,h3,h4,h5⟩:=run_append_lies (P:=P) w t ty base e i z size bytes ht hi hz hsize hby hzs hsz v n xs hown ad m c news hl hc h1 h0 h63 hbytes hbase _ rfl
   refine ⟨_,w',hr,h2,h3,?_⟩
   rcases h4 with h4 | h4
   · exact .inl h4.symm
   · exact .inr (by rw [h4];rfl)
 · obtain rfl : m = 0:=by omega
   have hn : news = []:=List.eq_nil_of_length_eq_zero (by omega)
   subst hn
   have hsrc : Src P i.size t (.slice ao 0 c) 0 [] w:=⟨.inl ⟨_,ht⟩,fun w'=>by simp [Builtin.lenOf],by cases ao <;> simp [Builtin.firstCells,loadCells,loadCellsFrom],by cases ao <;> simp [Builtin.firstCells,loadCells,loadCellsFrom],by simp,by simp⟩
   have hform : ∃ b cap,v = .slice b n cap /\ n <= cap:=by
    rcases hown.2 with ⟨h0,h1⟩ | ⟨g',cap',cur,hv,hb,hg,h1,h2,h3,h4⟩
    · exact ⟨none,0,by rw [h0,h1],by omega⟩
    · exact ⟨_,cap',hv,h1⟩
   obtain ⟨b,cap,rfl,hle⟩:=hform
   have hr:=run_append_nothing (P:=P) w t t ty e i ht hi b n cap hle (.slice ao 0 c) hsrc
   exact ⟨_,w,hr,by simpa using hown,World.grownBy.refl _ _,.inl rfl⟩
theorem wp_append_src {P : Program} {o : Oper} {a : Act} {w : World} {K : Act -> World -> Prop} {Q : Exit -> Act -> World -> Prop} (s x : Operand) (t : TypeId)
  (ho : o.op = .call { callee:=.builtin .append,args:=#[s,x],argTypes:=#[t,t] })
  (base : Nat) (e : TypeId) (i : TypeInfo) (z : Value) (size bytes : Nat) (ht : P.underlying t = some (.slice e)) (hi : P.info? e = some i) (hz : i.zero = some z)
  (hsize : i.size = size) (hby : i.bytes = bytes) (hzs : z.cells.size = size) (hsz : 0 < size)
  (v : Value) (n : Nat) (xs : List Value) (hs : a.eval s = v) (hown : w.ownsRow base e size v n xs)
  (ao : Option Addr) (m c : Nat) (news : List Value) (hx : a.eval x = .slice ao m c) (hl : news.length = m * size) (hnews : 0 < m -> ∃ ad,ao = some ad /\ ∀ j u,news[j]? = some u -> w.cell? (ad.add j) = some u) (h1 : ∀ u ∈ news,u.oneCell' = true)
  (h63 : n + m <= maxLen) (hbytes : (n + m) * bytes <= 140737488355328) (hbase : base <= w.heap.size)
  (h : ∀ v' w',w'.ownsRow base e size v' (n + m) (xs ++ news) -> w.grownBy w' v.ownBlock -> (v'.ownBlock = v.ownBlock ∨ v'.ownBlock = some w.heap.size) -> K (a.put o.dst v') w') : o.wp P a w K Q:=by
 obtain ⟨v',w',hr,h2,h3,h4⟩:=run_append_src (P:=P) w t o.type base e i z size bytes ht hi hz hsize hby hzs hsz v n xs hown ao m c news hl hnews h1 h63 hbytes hbase
 unfold Oper.wp execOp
 simp only [ho,resolve,invoke,builtin,Sem.run_bind,Sem.run_pure,Result.andThen_ok,List.map_toArray,List.map_cons,List.map_nil,hs,hx,hr]
 exact h v' w' h2 h3 h4
theorem wpList_append_src {P : Program} {ops : Array Oper} {rest : List Oper} {o : Oper} {a : Act} {w : World} {Q : Exit -> Act -> World -> Prop} (hgd : o.guard = none) (s x : Operand) (t : TypeId)
  (ho : o.op = .call { callee:=.builtin .append,args:=#[s,x],argTypes:=#[t,t] })
  (base : Nat) (e : TypeId) (i : TypeInfo) (z : Value) (size bytes : Nat) (ht : P.underlying t = some (.slice e)) (hi : P.info? e = some i) (hz : i.zero = some z)
  (hsize : i.size = size) (hby : i.bytes = bytes) (hzs : z.cells.size = size) (hsz : 0 < size)
  (v : Value) (n : Nat) (xs : List Value) (hs : a.eval s = v) (hown : w.ownsRow base e size v n xs)
  (ao : Option Addr) (m c : Nat) (news : List Value) (hx : a.eval x = .slice ao m c) (hl : news.length = m * size) (hnews : 0 < m -> ∃ ad,ao = some ad /\ ∀ j u,news[j]? = some u -> w.cell? (ad.add j) = some u) (h1 : ∀ u ∈ news,u.oneCell' = true)
  (h63 : n + m <= maxLen) (hbytes : (n + m) * bytes <= 140737488355328) (hbase : base <= w.heap.size)
  (h : ∀ v' w',w'.ownsRow base e size v' (n + m) (xs ++ news) -> w.grownBy w' v.ownBlock -> (v'.ownBlock = v.ownBlock ∨ v'.ownBlock = some w.heap.size) -> wpList P ops Q rest (a.put o.dst v') w') : wpList P ops Q (o :: rest) a w :=
 wpList_plain hgd fun _ hK=>wp_append_src s x t ho base e i z size bytes ht hi hz hsize hby hzs hsz v n xs hs hown ao m c news hx hl hnews h1 h63 hbytes hbase fun v' w' h2 h3 h4=>hK _ _ (h v' w' h2 h3 h4)
theorem rows_length {α : Type} (f : α -> List Value) (k : Nat) (hf : ∀ x,(f x).length = k) : ∀ l : List α,(l.flatMap f).length = l.length * k
 | []=>by simp
 | a :: r=>by rw [List.flatMap_cons,List.length_append,hf,rows_length f k hf r,List.length_cons,Nat.succ_mul,Nat.add_comm]
theorem rows_get {α : Type} (f : α -> List Value) (k : Nat) (hf : ∀ x,(f x).length = k) (d : α) : ∀ (l : List α) (i j : Nat),i < l.length -> j < k -> (l.flatMap f)[i * k + j]? = (f (l.getD i d))[j]?
 | [],i,j,hi,hj=>by simp at hi
 | a :: r,0,j,hi,hj=>by
  rw [List.flatMap_cons,Nat.zero_mul,Nat.zero_add,List.getElem?_append_left (by rw [hf];exact hj)]
  rfl
 | a :: r,i + 1,j,hi,hj=>by
  rw [List.flatMap_cons,List.getElem?_append_right (by rw [hf,Nat.succ_mul];omega),hf,show (i + 1) * k + j - k = i * k + j by rw [Nat.succ_mul];omega]
  exact rows_get f k hf d r i j (by simpa using hi) hj
theorem rows_set {α : Type} (f : α -> List Value) (k : Nat) (hf : ∀ x,(f x).length = k) (d : α) (x : α) (j : Nat) (v : Value) (hj : j < k) : ∀ (l : List α) (i : Nat),i < l.length -> f x = (f (l.getD i d)).set j v -> (l.set i x).flatMap f = (l.flatMap f).set (i * k + j) v
 | [],i,hi,_=>by simp at hi
 | a :: r,0,hi,e=>by
  have e' : f x = (f a).set j v:=e
  rw [List.set_cons_zero,List.flatMap_cons,List.flatMap_cons,Nat.zero_mul,Nat.zero_add,List.set_append_left _ _ (by rw [hf];exact hj),e']
 | a :: r,i + 1,hi,e=>by
  rw [List.set_cons_succ,List.flatMap_cons,List.flatMap_cons,List.set_append_right _ _ (by rw [hf,Nat.succ_mul];omega),hf,show (i + 1) * k + j - k = i * k + j by rw [Nat.succ_mul];omega,rows_set f k hf d x j v hj r i (by simpa using hi) e]
theorem row_at {α : Type} {w : World} {base : Nat} {e : TypeId} {k g cap : Nat} (f : α -> List Value) (hf : ∀ x,(f x).length = k) (d : α) {l : List α} (hr : w.ownsRow base e k (.slice (some ⟨g,0,none⟩) l.length cap) l.length (l.flatMap f)) (i j : Nat) (hi : i < l.length) (hj : j < k) : w.cell? ⟨g,i * k + j,none⟩ = (f (l.getD i d))[j]?:=by
 have : i * k + j < l.length * k:=by
  have:=Nat.mul_le_mul_right k (show i + 1 <= l.length from hi)
  rw [Nat.succ_mul] at this
  omega
 exact (hr.cellAt _ this).trans (rows_get f k hf d l i j hi hj)
theorem row_form {w : World} {base : Nat} {e : TypeId} {size : Nat} {v : Value} {n : Nat} {xs : List Value} (h : w.ownsRow base e size v n xs) : ∃ ao cap,v = .slice ao n cap /\ n <= cap /\ (0 < n -> ∃ g,ao = some ⟨g,0,none⟩ /\ base <= g /\ g < w.heap.size):=by
 rcases h.2 with ⟨h0,h1⟩ | ⟨g',cap',cur,hv,hb,hg,h1,h2,h3,h4⟩
 · exact ⟨none,0,by rw [h0,h1],by omega,fun h=>by omega⟩
 · exact ⟨_,cap',hv,h1,fun _=>⟨g',rfl,hb,B.isLt hg⟩⟩
theorem row_base {w : World} {base base' : Nat} {e : TypeId} {size : Nat} {v : Value} {n : Nat} {xs : List Value} (h : w.ownsRow base e size v n xs) (hb : ∀ g,v.ownBlock = some g -> base' <= g) : w.ownsRow base' e size v n xs:=by
 refine ⟨h.1,?_⟩
 rcases h.2 with h0 | ⟨g,cap,cur,hv,_,hg,h1,h2,h3,h4⟩
 · exact .inl h0
 · exact .inr ⟨g,cap,cur,hv,hb g (by rw [hv];rfl),hg,h1,h2,h3,h4⟩
theorem cell_other (w : World) (g j b o : Nat) (v : Value) (h : b ≠ g) : (w.setCell ⟨g,j,none⟩ v).cell? ⟨b,o,none⟩ = w.cell? ⟨b,o,none⟩:=World.cell?_of_block (Below.heap_setCell w ⟨g,j,none⟩ v b h)
theorem kp_set3 {D : Nat -> Prop} (w : World) (g : Nat) (j0 j1 j2 : Nat) (v0 v1 v2 : Value) (h : D g) : Kp D w (((w.setCell ⟨g,j0,none⟩ v0).setCell ⟨g,j1,none⟩ v1).setCell ⟨g,j2,none⟩ v2) :=
 ((Kp.set D w ⟨g,j0,none⟩ v0 h).trans (Kp.set D _ ⟨g,j1,none⟩ v1 h) (fun _ _ k=>k)).trans (Kp.set D _ ⟨g,j2,none⟩ v2 h) (fun _ _ k=>k)
end GK
namespace KW
open Go.RowKit
open FW (hideC add_below)
def cellFr (f : KM.Fr) : List Value:=[.string f.data,.int .i64 f.refs,.bool f.dirty,.bool f.seen]
def cellSl (f : KM.Sl) : List Value:=[.string f.data,.int .i64 f.refs]
def cellEn (e : KM.En) : List Value:=[.int .i64 e.page,.int .i64 e.kind,.int .i64 e.loc]
def Lies {α : Type} (f : α -> List Value) (k : Nat) (d : α) (w : World) (b off : Nat) (l : List α) : Prop:=∀ i,i < l.length -> ∀ j,j < k -> w.cell? ⟨b,off + i * k + j,none⟩ = (f (l.getD i d))[j]?
def HasRow {α : Type} (f : α -> List Value) (k : Nat) (d : α) (w : World) (ao : Option Addr) (l : List α) : Prop:=M.HasBy (Lies f k d) w ao l
theorem HasRow.below {α : Type} {f : α -> List Value} {k : Nat} {d : α} {w w' : World} {ao : Option Addr} {l : List α} (h : HasRow f k d w ao l) (hb : Below w.heap.size w w') : HasRow f k d w' ao l :=
 M.HasBy.below (lie:=Lies f k d) (fun hb hlt h i hi j hj=>(M.below_cell hb hlt).trans (h i hi j hj)) h hb
def LieSp (w : World) (b off : Nat) (l : List KM.Sp) : Prop:=∀ i,i < l.length -> ∃ va ap cp,w.cell? ⟨b,off + i * 3,none⟩ = some (.bool (KM.spAt l i).live) /\ w.cell? ⟨b,off + i * 3 + 1,none⟩ = some va /\ w.cell? ⟨b,off + i * 3 + 2,none⟩ = some (.slice ap (KM.spAt l i).ents.length cp) /\ AW.Has w va (KM.spAt l i).areas /\ HasRow cellEn 3 KM.en0 w ap (KM.spAt l i).ents /\ (KM.spAt l i).ents.length <= cp
theorem lieSp {w w' : World} {b off : Nat} {l : List KM.Sp} (hb : Below w.heap.size w w') (hlt : b < w.heap.size) (h : LieSp w b off l) : LieSp w' b off l:=fun i hi=>by
 obtain ⟨va,ap,cp,c0,c1,c2,c3,c4,c5⟩:=h i hi
 exact ⟨va,ap,cp,(M.below_cell hb hlt).trans c0,(M.below_cell hb hlt).trans c1,(M.below_cell hb hlt).trans c2,c3.below hb,c4.below hb,c5⟩
def HasSp (w : World) (ao : Option Addr) (l : List KM.Sp) : Prop:=M.HasBy LieSp w ao l
theorem HasSp.below {w w' : World} {ao : Option Addr} {l : List KM.Sp} (h : HasSp w ao l) (hb : Below w.heap.size w w') : HasSp w' ao l:=M.HasBy.below (lie:=LieSp) (fun hb hlt h=>lieSp hb hlt h) h hb
structure KAt where
 aS : Option Addr
 cS : Nat
 aF : Option Addr
 cF : Nat
 aL : Option Addr
 cL : Nat
 aP : Option Addr
 cP : Nat
structure HasK (w : World) (a : KAt) (k : KM.Kn) : Prop where
 sheets : LM.HasH w a.aS k.sheets
 frames : HasRow cellFr 4 KM.fr0 w a.aF k.frames
 slots : HasRow cellSl 2 KM.sl0 w a.aL k.slots
 spaces : HasSp w a.aP k.spaces
theorem HasK.below {w w' : World} {a : KAt} {k : KM.Kn} (h : HasK w a k) (hb : Below w.heap.size w w') : HasK w' a k:=⟨h.sheets.below hb,h.frames.below hb,h.slots.below hb,h.spaces.below hb⟩
def cellsK (a : KAt) (k : KM.Kn) : Array Value:=#[.slice a.aS k.sheets.length a.cS,.slice a.aF k.frames.length a.cF,.slice a.aL k.slots.length a.cL,.slice a.aP k.spaces.length a.cP,.int .i64 k.hand]
structure FitSp (s : KM.Sp) : Prop where
 areas : AW.AllFit s.areas
 ents : M.Short s.ents.length
 ent : ∀ i,i < s.ents.length -> M.I64 (KM.enAt s.ents i).page /\ M.I64 (KM.enAt s.ents i).kind /\ M.I64 (KM.enAt s.ents i).loc
structure FitK (k : KM.Kn) : Prop where
 sheets : LM.FitHs k.sheets
 nf : M.Short k.frames.length
 fr : ∀ i,i < k.frames.length -> M.Short (KM.frAt k.frames i).data.size /\ M.I64 (KM.frAt k.frames i).refs
 ns : M.Short k.slots.length
 sl : ∀ i,i < k.slots.length -> M.Short (KM.slAt k.slots i).data.size /\ M.I64 (KM.slAt k.slots i).refs
 np : M.Short k.spaces.length
 sp : ∀ i,i < k.spaces.length -> FitSp (KM.spAt k.spaces i)
 hand : M.I64 k.hand
set_option maxHeartbeats 4000000 in
theorem counts_any (vS vF vL vP : Option Addr) (nS cS nF cF nL cL nP cP : Nat) (hd : Value) (w : World) :
  Calls Tryz.prog 109 #[.agg #[.slice vS nS cS,.slice vF nF cF,.slice vL nL cL,.slice vP nP cP,hd]] w fun e w'=>e = .returned (.bool (decide ((3 <= nF /\ nF <= 64) /\ nL <= 512 /\ (1 <= nP /\ nP <= 4) /\ nS <= 255))) /\ Below w.heap.size w w':=by
 obtain ⟨A,hA⟩ : ∃ A,A = decide ((3 <= nF /\ nF <= 64) /\ nL <= 512 /\ (1 <= nP /\ nP <= 4) /\ nS <= 255):=⟨_,rfl⟩
 rw [<- hA]
 have HA:=hideC hA
 clear hA
 rcases (show ¬ (3 : Int) <= nF ∨ ((3 : Int) <= nF /\ ¬ (nF : Int) <= 64) ∨ ((3 : Int) <= nF /\ (nF : Int) <= 64 /\ ¬ (nL : Int) <= 512) ∨ ((3 : Int) <= nF /\ (nF : Int) <= 64 /\ (nL : Int) <= 512 /\ ¬ (1 : Int) <= nP) ∨ ((3 : Int) <= nF /\ (nF : Int) <= 64 /\ (nL : Int) <= 512 /\ (1 : Int) <= nP /\ ¬ (nP : Int) <= 4) ∨ ((3 : Int) <= nF /\ (nF : Int) <= 64 /\ (nL : Int) <= 512 /\ (1 : Int) <= nP /\ (nP : Int) <= 4 /\ ¬ (nS : Int) <= 255) ∨ ((3 : Int) <= nF /\ (nF : Int) <= 64 /\ (nL : Int) <= 512 /\ (1 : Int) <= nP /\ (nP : Int) <= 4 /\ (nS : Int) <= 255) by omega) with g | ⟨g,g1⟩ | ⟨g,g1,g2⟩ | ⟨g,g1,g2,g3⟩ | ⟨g,g1,g2,g3,g4⟩ | ⟨g,g1,g2,g3,g4,g5⟩ | ⟨g,g1,g2,g3,g4,g5⟩
 all_goals
  go_enter Tryz.func109,Tryz.ntmps109
  go_wp2
  go_ret
  exact ⟨congrArg (fun b=>Ending.returned (.bool b)) (by rw [HA.out];simp;omega),(Below.refl _ _).alloc (Nat.le_refl _) _⟩
end KW
end Go.Proofs.YtpgifpeohlllfaaGreat
