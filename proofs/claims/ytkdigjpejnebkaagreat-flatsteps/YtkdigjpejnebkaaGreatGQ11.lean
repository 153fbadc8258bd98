import Derived.Test.YtkdigjpejnebkaaGreatGQ00
import Derived.Test.YtkdigjpejnebkaaGreatProg
import Derived.Test.YtkdigjpejnebkaaGreatGQ02
import Derived.WalkLawsBesides
import Derived.Laws.BytesArg
import Derived.Laws.OwnMore
import Derived.Test.YtkdigjpejnebkaaGreatGQ08
import Derived.Lib.Walk
import Derived.Lib.BufferWrite
import Derived.Lib.Hide
import Derived.Laws.MakeOwn
import Derived.Laws.IdiomStrings
import Derived.WalkSpells
import Derived.Deep.QuietTactic
import Derived.BigQuiet
import Derived.Laws.CopyOwn
import Derived.Test.YtkdigjpejnebkaaGreatGQ10
set_option maxHeartbeats 20000000
set_option linter.unusedVariables false
set_option maxRecDepth 100000
set_option linter.unusedSimpArgs false
namespace Go.Proofs.YtkdigjpejnebkaaGreat
namespace CW
open Go.RowKit
theorem cV {k:IntKind} {a b:Int} (h:a=b):Value.int k a=.int k b:=by rw[h]
theorem qD (n:Int) (w:World) (h1:1<=n) (h2:n<=8) :
  Calls Tryz.prog 146 #[I n] w fun e w'=>e=.returned (.bool true)/\w=w':=by
 go_enter Tryz.func146,Tryz.ntmps146
 go_wp2
 go_ret
 exact⟨rfl,rfl⟩
theorem AX (n:Int) (w:World) (h1:n<1∨8<n) :
  Calls Tryz.prog 146 #[I n] w fun e w'=>e=.returned (.bool false)/\w=w':=by
 rcases h1 with h | h
 · go_enter Tryz.func146,Tryz.ntmps146
   go_wp2
   go_ret
   exact⟨rfl,rfl⟩
 · have h':1<=n:=by omega
   have h'':decide (n<=8)=false:=by simp;omega
   go_enter Tryz.func146,Tryz.ntmps146
   go_wp2
   go_ret
   exact⟨rfl,rfl⟩
theorem UR (s:ByteArray) (w:World) (hs:s.size<=maxLen) (h1:(s.size:Int)<1∨8<(s.size:Int)) :
  Calls Tryz.prog 126 #[.string s] w fun e w'=>e=.returned (.tuple #[I 0,I 3])/\w=w':=by
 unfold maxLen at hs
 go_enter Tryz.func126,Tryz.ntmps126
 go_wp2_with (go_at_call 146;refine(AX _ _ h1).mono ?_;rintro e w' ⟨rfl,rfl⟩)
 go_ret2
 exact⟨rfl,rfl⟩
theorem II (s:ByteArray) (w:World) (h1:1<=s.size) (h2:s.size<=8) :
  Calls Tryz.prog 126 #[.string s] w fun e w'=>e=.returned (.tuple #[I (wrap64 (Lib.leNat s.data.toList)),I 0])/\w=w':=by
 go_enter Tryz.func126,Tryz.ntmps126
 go_wp2_with (go_at_call 146;refine(qD _ _ (by omega) (by omega)).mono ?_;rintro e w' ⟨rfl,rfl⟩)
 go_loop [4,5] (fun n i=>∃k:Nat,k<=s.size/\i=I ((k:Int)-1)/\n=.int .u64 (Lib.leNat (s.data.toList.drop k))) (fun _ i=>(intOf i+1).toNat)
 case atStart=>exact⟨s.size,Nat.le_refl _,rfl,by rw[List.drop_of_length_le (by rw[<- Lib.size_eq];exact Nat.le_refl _)];rfl⟩
 case round =>
  obtain⟨k,hk,rfl,rfl⟩:=hrel
  by_cases hlt:0<k
  · go_wp2
    go_round
    case rel =>
     refine⟨k-1,by omega,cV (by omega),cV ?_⟩
     have hb:s[k-1].toNat<256:=s[k-1].toNat_lt
     rw[CM.xp s k hlt hk,CM.TX _ _ (by omega) (by have:=CM.Ka (s.data.toList.drop k) (by rw[List.length_drop,<- Lib.size_eq];omega);omega) (by omega) (by omega)]
    case measure=>simp[intOf];omega
  · obtain rfl:k=0:=by omega
    go_wp2
    go_ret2
    exact⟨rfl,rfl⟩
theorem xh (s:ByteArray) (w:World) (h1:1<=s.size) (h2:s.size<=8) :
  Calls Tryz.prog 53 #[.string s] w fun e w'=>e=.returned (I (wrap64 (Lib.leNat s.data.toList)))/\w=w':=by
 go_enter Tryz.func53,Tryz.ntmps53
 go_wp2
 go_loop [3,4] (fun n i=>∃k:Nat,k<=s.size/\i=I ((k:Int)-1)/\n=I (wrap64 (Lib.leNat (s.data.toList.drop k)))) (fun _ i=>(intOf i+1).toNat)
 case atStart=>exact⟨s.size,Nat.le_refl _,rfl,by rw[List.drop_of_length_le (by rw[<- Lib.size_eq];exact Nat.le_refl _)];exact cV (by simp[Lib.leNat,wrap64])⟩
 case round =>
  obtain⟨k,hk,rfl,rfl⟩:=hrel
  by_cases hlt:0<k
  · go_wp2
    go_round
    case rel =>
     refine⟨k-1,by omega,cV (by omega),cV ?_⟩
     have hb:s[k-1].toNat<256:=s[k-1].toNat_lt
     rw[CM.xp s k hlt hk,CM.Qe _ _ (by omega) (by omega)]
    case measure=>simp[intOf];omega
  · obtain rfl:k=0:=by omega
    go_wp2
    go_ret
    exact⟨rfl,rfl⟩
theorem uo (n:Int) (size:Nat) (w:World) (h2:size<=8) :
  Calls Tryz.prog 55 #[I n,I size] w fun e w'=>e=.returned (.string ⟨(Lib.leBytes size (CM.low n)).toArray⟩)/\Below w.heap.size w w':=by
 go_enter Tryz.func55,Tryz.ntmps55
 go_wp2
 go_loopw [0,5,6] (fun t s i wr=>∃k:Nat,k<=size/\i=I k/\t=I (CM.shr n k)/\s=.string ⟨(Lib.leBytes k (CM.low n)).toArray⟩/\Below w.heap.size w wr) (fun _ _ i _=>size-(intOf i).toNat)
 case atStart=>exact⟨0,by omega,rfl,by rw[CM.LY],rfl,Below.refl _ _⟩
 case round =>
  obtain⟨k,hk,rfl,rfl,rfl,hb⟩:=hrel
  by_cases hlt:k<size
  · have hcv:(convert 158 9 (.slice (some (Ad wr.heap.size 0)) 1 1)).run Tryz.prog (wr.alloc (.cells #[.int .u8 (CM.shr n k%256)] 5))=.ok (.string ⟨#[(CM.low n/256 ^ k%256).toUInt8]⟩) (wr.alloc (.cells #[.int .u8 (CM.shr n k%256)] 5)):=by
     rw[<- CM.wy n k (by omega)]
     refine run_convert_bytes_arg _ 158 5 Tryz.underlying158 Tryz.underlying5 _ 0 1 1 [CM.shr n k%256] rfl ?_ 9 Tryz.underlying9
     intro i hi
     obtain rfl:i=0:=by omega
     simp
    have hl:(Lib.leBytes k (CM.low n)).length=k:=Lib.leBytes_length _ _
    have HN:Hid (Lib.leBytes (k+1) (CM.low n)=Lib.leBytes k (CM.low n)++[(CM.low n/256 ^ k%256).toUInt8]):=CM.nR _ _
    go_wp2
    go_roundw
    case rel=>exact⟨k+1,by omega,by go_num,by rw[<- CM.LZ],by rw[HN.o];exact congrArg Value.string (CM.J6 _ [_]),hb.alloc (by have:=hb.size;omega) _⟩
    case measure=>simp[intOf];omega
  · obtain rfl:k=size:=by omega
    go_wp2
    go_ret
    exact⟨rfl,hb⟩
theorem MR:(Tryz.prog.info? 5).map (fun i=>(i.zero,i.size,i.bytes))=some (some (.int .u8 0),1,1):=by kernel_rfl
theorem Qb (n:Int) (size:Nat) (w:World) (h1:1<=size) (h2:size<=8) :
  Calls Tryz.prog 127 #[I n,I size] w fun e w'=>e=.returned (.tuple #[.string ⟨(Lib.leBytes size (CM.low n)).toArray⟩,I 0])/\Below w.heap.size w w':=by
 obtain⟨i0,hi,hz0,hz1,hz2⟩:=info_parts MR
 obtain⟨w1,hmk,hown1,acj⟩:=run_make_full (P:=Tryz.prog) w w.heap.size 158 5 i0 (.int .u8 0) 1 Tryz.underlying158 hi hz0 hz1 .i64 .i64 size (by rw[hz2];omega) (by unfold maxLen;omega) (Nat.le_refl _)
 have hb1:Below w.heap.size w w1:=(Below.refl _ _).grown acj (Nat.le_refl _) (by intro k h;cases h)
 rw[Nat.mul_one,show(Value.int .u8 0).cells=#[Value.int .u8 0] from rfl,toList_madeCells_one,<- CM.Mc size (CM.low n)] at hown1
 go_enter Tryz.func127,Tryz.ntmps127
 go_wp2_with (go_at_call 146;refine(qD _ _ (by omega) (by omega)).mono ?_;rintro e w' ⟨rfl,rfl⟩)
 go_loopw [6,18] (fun r i wr=>∃k:Nat,k<=size/\i=I k/\r=.int .u64 ((CM.low n/256 ^ k:Nat):Int)/\wr.ownsRow w.heap.size 5 1 (.slice (some (Ad w.heap.size 0)) size size) size (CM.row size k (CM.low n))/\Below w.heap.size w wr) (fun _ i _=>size-(intOf i).toNat)
 case atStart=>exact⟨0,by omega,rfl,by rw[CM.PV];simp,hown1,hb1⟩
 case round =>
  obtain⟨k,hk,rfl,rfl,hown,hb⟩:=hrel
  by_cases hlt:k<size
  · have hc:wr.cell? (Ad w.heap.size k)=some (.int .u8 0):=(hown.cellAt k (by omega)).trans (CM.jO _ _ _ hlt)
    have hf:wr.frozen? (Ad w.heap.size k)=false:=hown.frozenAt k
    have HS:Hid ((wr.setCell (Ad w.heap.size k) (.int .u8 (((CM.low n/256 ^ k:Nat):Int)%256))).ownsRow w.heap.size 5 1 (.slice (some (Ad w.heap.size 0)) size size) size (CM.row size (k+1) (CM.low n))/\Below w.heap.size w (wr.setCell (Ad w.heap.size k) (.int .u8 (((CM.low n/256 ^ k:Nat):Int)%256)))):=by
     have h:=hown.stored k (.int .u8 (((CM.low n/256 ^ k:Nat):Int)%256))
     rw[CM.bZ _ _ _ hlt] at h
     exact⟨h.1,hb.setCell (Nat.le_refl _) _⟩
    go_wp2
    go_roundw
    case rel=>exact⟨k+1,by omega,by go_num,cV (CM.Qv n k),HS.o.1,HS.o.2⟩
    case measure=>simp[intOf];omega
  · obtain rfl:k=size:=by omega
    have hcv:(convert 158 9 (.slice (some (Ad w.heap.size 0)) k k)).run Tryz.prog wr=.ok (.string ⟨(Lib.leBytes k (CM.low n)).toArray⟩) wr:=by
     rw[<- CM.kr]
     refine run_convert_bytes_arg _ 158 5 Tryz.underlying158 Tryz.underlying5 _ 0 k k _ (by simp[Lib.leBytes_length]) ?_ 9 Tryz.underlying9
     intro i hi
     rw[Nat.zero_add,hown.cellAt i (by omega),CM.Md]
     exact CM.qN _ i (by rw[Lib.leBytes_length];exact hi)
    go_wp2
    go_ret2
    exact⟨rfl,hb⟩
theorem Rc (s:ByteArray) (w:World) (hlim:s.size<=281474976710656) :
  Calls Tryz.prog 96 #[.string s] w fun e w'=>e=.returned (.string s)/\Below w.heap.size w w':=by
 by_cases h0:s.size=0
 · have hs:s=⟨#[]⟩:=by
    apply ByteArray.ext
    exact Array.eq_empty_of_size_eq_zero h0
   subst hs
   go_enter Tryz.func96,Tryz.ntmps96
   go_wp2
   go_ret
   exact⟨rfl,Below.refl _ _⟩
 · obtain⟨i0,hi,hz0,hz1,hz2⟩:=info_parts MR
   have hinfo:(Tryz.prog.info? 5).map (·.size)=some 1:=by rw[hi];simp[hz1]
   have hco:Tryz.prog.cellsOf 5=1:=by simp[Program.cellsOf,hi,hz1]
   obtain⟨M,hM⟩:=ex (madeCells (Value.int .u8 0).cells (((s.size:Nat):Int).toNat*i0.size))
   have hMs:M.size=s.size:=by rw[hM,size_madeCells,hz1];simp
   have hmk:∀W:World,(Instr.makeSlice 158 (I (s.size:Int)) (I (s.size:Int))).run Tryz.prog W=.ok (.slice (some (Ad W.heap.size 0)) s.size s.size) (W.alloc (.cells M 5)):=fun W=>by
    have h:=run_make (P:=Tryz.prog) W 158 5 i0 (.int .u8 0) Tryz.underlying158 hi hz0 .i64 .i64 (s.size:Int) (s.size:Int) (by omega) (by omega) (by rw[hz2];omega) (by omega)
    rw[<- hM] at h
    simpa using h
   clear hM
   have Gk:=Lib.run_copy_row_string (P:=Tryz.prog) (w.alloc (.cells M 5)) 158 9 3 5 w.heap.size 0 s.size s.size s M 5 Tryz.underlying158 hinfo (heap_alloc_new w _) (Nat.le_refl _) (by omega)
   obtain⟨Y,hY⟩:=ex ((M.toList.take 0++Lib.byteCells s.data.toList++M.toList.drop (0+s.size)).toArray)
   rw[<- hY] at Gk
   have hYl:Y.toList=Lib.byteCells s.data.toList:=by
    rw[hY,List.toList_toArray,List.take_zero,List.nil_append,List.drop_of_length_le (by rw[Array.length_toList];omega),List.append_nil]
   have Yz:Y.size=s.size:=by rw[<- Array.length_toList,hYl,Lib.byteCells_length,<- Lib.size_eq]
   have hgY:((w.alloc (.cells M 5)).setRow w.heap.size Y).heap[w.heap.size]?=some (.cells Y 5 (0,0)):=setRow_heap _ _ M _ 5 (0,0) (heap_alloc_new w _)
   have hne:s.data.toList≠[]:=fun e=>h0 (by rw[Lib.size_eq,e];rfl)
   have hUS:=Lib.run_unsafeString_row (P:=Tryz.prog) ((w.alloc (.cells M 5)).setRow w.heap.size Y) 198 3 9 5 Tryz.underlying198 hco w.heap.size Y.size (by unfold World.shape?;rw[hgY]) s.data.toList hne (by rw[<- Lib.size_eq];omega) (by rw[<- Lib.size_eq];omega)
    (fun j x hx=>Lib.cells_of_row hgY Y.size j _ (by rw[List.take_of_length_le (by rw[Array.length_toList];exact Nat.le_refl _),hYl];simp[Lib.byteCells,hx]))
   rw[<- Lib.size_eq] at hUS
   clear hY
   go_enter Tryz.func96,Tryz.ntmps96
   go_wp2
   go_ret
   have hb1:Below w.heap.size w (w.alloc (.cells M 5)):=(Below.refl _ w).alloc (Nat.le_refl _) _
   have hb2:Below w.heap.size (w.alloc (.cells M 5)) ((w.alloc (.cells M 5)).setRow w.heap.size Y):=⟨rfl,rfl,rfl,by simp,fun k hk=>setRow_other _ _ _ _ (by omega)⟩
   exact⟨rfl,Lib.below_freeze (hb1.trans hb2) (p:=(Ad w.heap.size 0)) (Nat.le_refl _) _⟩
theorem I3 (s:ByteArray) (w:World) (hlim:s.size<=281474976710656) :
  Calls Tryz.prog 67 #[.string s] w fun e w'=>e=.returned (.string s)/\Below w.heap.size w w':=by
 go_enter Tryz.func67,Tryz.ntmps67
 go_wp2_with (go_at_call 96;refine(Rc _ _ hlim).mono ?_;rintro e w' ⟨rfl,hb⟩)
 go_ret
 exact⟨rfl,by assumption⟩
theorem rq (l o n:Int) (w:World) (h1:0<=o) (h2:0<=n) (h3:o<=l) (h4:n<=l-o) (h5:l<=9223372036854775807) :
  Calls Tryz.prog 97 #[I l,I o,I n] w fun e w'=>e=.returned (.bool true)/\w=w':=by
 go_enter Tryz.func97,Tryz.ntmps97
 go_wp2
 go_ret
 exact⟨rfl,rfl⟩
theorem wX (s:ByteArray) (o n:Nat) (w:World) (hs:s.size<=140737488351232) (h:o+n<=s.size) :
  Calls Tryz.prog 142 #[.string s,I o,I n] w fun e w'=>e=.returned (.tuple #[.string (s.extract o (o+n)),I 0])/\Below w.heap.size w w':=by
 go_enter Tryz.func142,Tryz.ntmps142
 go_wp2_with (first | (go_at_call 97;refine(rq _ _ _ _ (by omega) (by omega) (by omega) (by omega) (by omega)).mono ?_;rintro e w' ⟨rfl,rfl⟩) | (go_at_call 67;refine(I3 _ _ (by simp;omega)).mono ?_;rintro e w' ⟨rfl,hb⟩))
 go_ret2
 exact⟨rfl,by assumption⟩
theorem Bh (s t:ByteArray) (o:Nat) (w:World) (hs:s.size<=140737488351232) (h:o+t.size<=s.size) :
  Calls Tryz.prog 68 #[.string s,I o,.string t] w fun e w'=>e=.returned (.tuple #[.string (CL.over s o t),I 0])/\Below w.heap.size w w':=by
 obtain⟨i0,hi,hz0,hz1,hz2⟩:=info_parts MR
 have hinfo:(Tryz.prog.info? 5).map (·.size)=some 1:=by rw[hi];simp[hz1]
 obtain⟨c,hc⟩:∃c,grownCap w s.size 0 5=c:=⟨_,rfl⟩
 have hcs:s.size<=c:=by rw[<- hc];exact grownCap_ge _ _ _ _
 have hcv:=run_bytes_of_string (P:=Tryz.prog) w 9 158 5 s Tryz.underlying9 Tryz.underlying158 Tryz.underlying5
 rw[hc] at hcv
 clear hc
 have hRs:(bytesRow s c).size=c:=by rw[CL.zo];omega
 have hov:=CL.FC s o t c h
 obtain⟨R,hR⟩:=ex (bytesRow s c)
 rw[<- hR] at hcv hRs hov
 clear hR
 rw[hRs] at hcv
 have hgR:((w.alloc (.cells R 5 (c,c+1))).drew).heap[w.heap.size]?=some (.cells R 5 (c,c+1)):=heap_alloc_new w _
 by_cases h0:t.size=0
 · have Gk:=fun W d l c=>Lib.run_copy_empty_string (P:=Tryz.prog) W 158 9 3 5 d l c t Tryz.underlying158 (by rw[hinfo];rfl) h0
   rw[CL.Mn s o t h0] at hov ⊢
   have hcb:(convert 158 9 (.slice (some (Ad w.heap.size 0)) s.size c)).run Tryz.prog ((w.alloc (.cells R 5 (c,c+1))).drew)=.ok (.string s) ((w.alloc (.cells R 5 (c,c+1))).drew):=by
    have es:strOfNums (s.data.toList.map fun b=>(b.toNat:Int))=s:=(CM.kr _).trans (Lib.mk_data s)
    refine Eq.trans ?_ (congrArg (fun x=>Result.ok (Value.string x) ((w.alloc (.cells R 5 (c,c+1))).drew)) es)
    refine run_convert_bytes_arg _ 158 5 Tryz.underlying158 Tryz.underlying5 _ 0 s.size c _ (by rw[List.length_map,<- Lib.size_eq]) ?_ 9 Tryz.underlying9
    intro i hi
    have ht:t.data.toList=[]:=List.eq_nil_of_length_eq_zero (by rw[<- Lib.size_eq];exact h0)
    have e:=hov i hi
    rw[ht,h0] at e
    rw[Nat.zero_add,cell_of_row _ _ _ _ _ _ hgR]
    simpa [Lib.byteCells] using e
   go_enter Tryz.func68,Tryz.ntmps68
   go_wp2_with (first | (go_at_call 97;refine(rq _ _ _ _ (by omega) (by omega) (by omega) (by omega) (by omega)).mono ?_;rintro e w' ⟨rfl,rfl⟩))
   all_goals go_ret2
   all_goals exact⟨rfl,((Below.refl _ _).alloc (Nat.le_refl _) _).drew⟩
 · have hno:¬c=o:=by omega
   have Gk:=CL.D3 (P:=Tryz.prog) ((w.alloc (.cells R 5 (c,c+1))).drew) 158 9 3 5 w.heap.size o (s.size-o) (c-o) t R 5 c (c+1) Tryz.underlying158 hinfo hgR (by omega) (by omega) (by omega)
   obtain⟨Y,hY⟩:=ex ((R.toList.take o++Lib.byteCells t.data.toList++R.toList.drop (o+t.size)).toArray)
   rw[<- hY] at Gk
   have hgY:(((w.alloc (.cells R 5 (c,c+1))).drew).setRow w.heap.size Y).heap[w.heap.size]?=some (.cells Y 5 (c,c+1)):=setRow_heap _ _ R _ 5 (c,c+1) hgR
   have hcb:(convert 158 9 (.slice (some (Ad w.heap.size 0)) s.size c)).run Tryz.prog (((w.alloc (.cells R 5 (c,c+1))).drew).setRow w.heap.size Y)=.ok (.string (CL.over s o t)) (((w.alloc (.cells R 5 (c,c+1))).drew).setRow w.heap.size Y):=by
    rw[<- Lib.mk_data (CL.over s o t),<- CM.kr]
    refine run_convert_bytes_arg _ 158 5 Tryz.underlying158 Tryz.underlying5 _ 0 s.size c _ (by rw[List.length_map];exact CL.zS s o t h) ?_ 9 Tryz.underlying9
    intro i hi
    rw[Nat.zero_add,cell_of_row _ _ _ _ _ _ hgY,hY]
    simpa using hov i hi
   clear hov hY
   go_enter Tryz.func68,Tryz.ntmps68
   go_wp2_with (first | (go_at_call 97;refine(rq _ _ _ _ (by omega) (by omega) (by omega) (by omega) (by omega)).mono ?_;rintro e w' ⟨rfl,rfl⟩))
   go_ret2
   exact⟨rfl,below_setRow ((Below.refl _ _).alloc (Nat.le_refl _) _).drew (Nat.le_refl _) _⟩
theorem Mo (s t:ByteArray) (o:Nat) (w:World) (hs:s.size<=140737488351232) (h:o+t.size<=s.size) :
  Calls Tryz.prog 70 #[.string s,I o,.string t] w fun e w'=>e=.returned (.string (CL.over s o t))/\Below w.heap.size w w':=by
 have h1:(o:Int)<=(s.size:Int):=by omega
 have h2:(o:Int)+(t.size:Int)<=(s.size:Int):=by omega
 go_enter Tryz.func70,Tryz.ntmps70
 go_wp2
 go_quiet (fail)
 go_wp2
 go_ret
 exact⟨by rw[<- CL.FB s o t];rfl,below_drewN (Below.refl _ _) _⟩
end CW
namespace GF
open Go.RowKit GK
open FW (ai aB)
def win (ps:List FM.Pg) (i m:Nat):List FM.Pg:=(ps.drop i).take m
theorem nH {ps:List FM.Pg} {i m:Nat} (h:i+m<=ps.length):(win ps i m).length=m:=by
 unfold win
 rw[List.length_take,List.length_drop]
 omega
theorem wk {ps:List FM.Pg} {i m j:Nat} (hj:j<m):FM.aN (win ps i m) j=FM.aN ps (i+j):=by
 unfold win FM.aN
 rw[List.getD_eq_getElem?_getD,List.getD_eq_getElem?_getD,List.getElem?_take_of_lt hj,List.getElem?_drop]
theorem H7 {w:World} {ps:List FM.Pg} {pb i m:Nat} (h:FW.iN w (some (Ad pb 0)) ps) (hi:i+m<=ps.length):FW.iN w (some (Ad pb (i*2))) (win ps i m):=fun hm=>by
 rw[nH hi] at hm
 obtain⟨b,off,e,hb,hl⟩:=h (by omega)
 injection e with e
 injection e with e1 e2 _
 subst e1 e2
 refine⟨pb,i*2,rfl,hb,fun j hj=>?_⟩
 rw[nH hi] at hj
 obtain⟨c0,c1⟩:=hl (i+j) (by omega)
 rw[wk hj]
 rw[Nat.zero_add,Nat.add_mul] at c0 c1
 exact⟨c0,c1⟩
theorem iP {ps:List FM.Pg} {a n:Int} {i:Nat} (h:GM.Reach ps a n i):((GM.cW a n-a/16+1).toNat=1/\GM.cW a n=a/16)∨((GM.cW a n-a/16+1).toNat=2/\GM.cW a n=a/16+1/\i+1<ps.length/\(FM.aN ps (i+1)).page=GM.cW a n):=by
 rcases h.last with e | ⟨e,e2,e3⟩
 · exact .inl ⟨by omega,e⟩
 · exact .inr ⟨by omega,e,e2,e3⟩
theorem wR {ps:List FM.Pg} {a n:Int} {i:Nat} (h:GM.Reach ps a n i):i+(GM.cW a n-a/16+1).toNat<=ps.length:=by
 have:=h.lt
 rcases iP h with⟨e,_⟩ | ⟨e,_,e2,_⟩ <;> omega
theorem H8 {s:FM.Sp} (hL:GM.ql s) {a n:Int} {i:Nat} (h:GM.Reach s.aj a n i):FW.tB (win s.aj i (GM.cW a n-a/16+1).toNat) (GM.cW a n-a/16+1).toNat=GM.eH s.aj a n:=by
 unfold GM.eH
 rcases iP h with⟨e,e1⟩ | ⟨e,e1,e2,e3⟩
 · rw[if_pos e1,e]
   show(⟨#[]⟩:ByteArray)++(FM.aN (win s.aj i 1) 0).data=_
   rw[wk (by omega),GM.zO hL.nO h.lt h.first,Nat.add_zero]
   exact ByteArray.empty_append
 · rw[if_neg (by omega),e]
   show((⟨#[]⟩:ByteArray)++(FM.aN (win s.aj i 2) 0).data)++(FM.aN (win s.aj i 2) 1).data=_
   rw[wk (by omega),wk (by omega),GM.zO hL.nO h.lt h.first,GM.zO hL.nO e2 e3,Nat.add_zero]
   rw[show(⟨#[]⟩:ByteArray)++(FM.aN s.aj i).data=(FM.aN s.aj i).data from ByteArray.empty_append]
theorem CG {s:FM.Sp} (hL:GM.ql s) {i m:Nat} (h:i+m<=s.aj.length):∀k,k<(win s.aj i m).length->(FM.aN (win s.aj i m) k).data.size=16:=fun k hk=>by
 rw[nH h] at hk
 rw[wk hk]
 exact hL.size _ (by omega)
def iV (lo mb:Nat) (w:World) (D:Nat->Prop) (m:GM.Mf):Prop:=(∃v L,Mem lo mb w D m.slots v L m.ak)/\∀b,D b->lo<=b/\b<w.heap.size
theorem iV.kp {lo mb:Nat} {w w':World} {D E:Nat->Prop} {m:GM.Mf} (h:iV lo mb w D m) (hk:Kp E w w') (hd:∀b,D b->¬E b):iV lo mb w' D m:=by
 obtain⟨⟨v,L,h1⟩,h2⟩:=h
 exact⟨⟨v,L,h1.kp hk hd⟩,fun b hb=>⟨(h2 b hb).1,Nat.lt_of_lt_of_le (h2 b hb).2 hk.size⟩⟩
theorem iV.below {lo mb:Nat} {w w':World} {D:Nat->Prop} {m:GM.Mf} (h:iV lo mb w D m) (hb:Below w.heap.size w w'):iV lo mb w' D m:=h.kp (Kp.aF (D:=fun _=>False) hb) (fun _ _ g=>g)
theorem MH {lo mb:Nat} (w:World) (D:Nat->Prop) (m:GM.Mf) (fl:List Bool) (k:Nat) (a n way:Int) (h:iV lo mb w D m) (hok:GM.qy m fl) (hf:fl.getD k false=true) (ha:M.dD a) (rZ:1<=n) (QO:n<=8) :
  Calls Tryz.prog 192 #[.pointer (some (Ad mb 0)),I (k:Int),I a,I n,I way] w (GW.Out (iV lo mb) w D (.tuple #[.string (GM.fu m k a n way).1.1,.agg (FW.di (GM.fu m k a n way).1.2)]) (GM.fu m k a n way).2):=by
 obtain⟨⟨v,L,hM⟩,hD⟩:=h
 obtain⟨hk,hlv⟩:=hok.live hf
 have hL:=GM.fX (hok.each k hk) hlv
 have h4:=hok.few.2
 have jd:=ai (fun V (hV:Below w.heap.size w V)=>zJ k a n way V (hM.below hV) hk (by omega) hL ha rZ QO)
 have jr:Hid (GM.fu m k a n way=if (FM.bG (FM.ax m.ak k).aw a n way).1=0 then ((GM.ig (FM.ax m.ak k).aj a n,(0,0)),m) else ((⟨#[]⟩,FM.bG (FM.ax m.ak k).aw a n way),m)):=rfl
 have dx:Hid (∀w',Below w.heap.size w w'->GW.Out (iV lo mb) w D (.tuple #[.string (GM.fu m k a n way).1.1,.agg (FW.di (GM.fu m k a n way).1.2)]) (GM.fu m k a n way).2 (.returned (.tuple #[.string (GM.fu m k a n way).1.1,.agg (FW.di (GM.fu m k a n way).1.2)])) w'):=fun w' hb=>by
  refine⟨D,rfl,?_,Kp.aF hb,fun b hb=>.inl hb⟩
  have:(GM.fu m k a n way).2=m:=by unfold GM.fu;split <;> rfl
  rw[this]
  exact iV.below ⟨⟨v,L,hM⟩,hD⟩ hb
 have PB:Hid (∀V,Below w.heap.size w V->∀pb cp,(bw L k).vp=.slice (some (Ad pb 0)) (FM.ax m.ak k).aj.length cp->FW.iN V (some (Ad pb 0)) (FM.ax m.ak k).aj):=fun V hV pb cp e=>by
  obtain⟨sb,cap,aa,na,ca,ap,cp',_,_,hlc,_,_,_,_,Lm,_,_,_⟩:=(hM.below hV).space k hk
  rw[hlc] at e
  injection e with e1 e2 e3
  subst e1
  exact Lm
 have HL:=ai hL
 obtain⟨P,hP⟩:=ex (GW.Out (iV lo mb) w D (.tuple #[.string (GM.fu m k a n way).1.1,.agg (FW.di (GM.fu m k a n way).1.2)]) (GM.fu m k a n way).2)
 rw[<- hP] at dx ⊢
 obtain⟨X,hX⟩:=ex (GM.fu m k a n way)
 rw[<- hX] at dx jr
 obtain⟨s,hs⟩:=ex (FM.ax m.ak k)
 rw[<- hs] at jd jr PB HL
 obtain⟨vp,hvp⟩:=ex ((bw L k).vp)
 rw[<- hvp] at jd PB
 obtain⟨f,S8⟩:=ex (FM.bG s.aw a n way)
 rw[<- S8] at jd jr
 obtain⟨f1,f2⟩:=f
 have cP:=ai ((Below.refl w.heap.size w).alloc (Nat.le_refl _) (.cells #[I 0,I 0] 68))
 have BY:=ai (B.new w #[I 0,I 0] 68)
 have jc:k<9223372036854775807:=by omega
 clear hM hD hok hf hL hlv hP hX hs hvp S8
 unfold yl FW.di at jd
 simp only at jd jr
 by_cases y9:f1=0
 · subst y9
   have HX:Hid (X=((GM.ig s.aj a n,(0,0)),m)):=by rw[jr.o,if_pos rfl];exact rfl
   clear jr
   have mg:Hid (∀V,Below w.heap.size w V->Calls Tryz.prog 197 #[.pointer (some (Ad mb 0)),I (k:Int),I a,I n,I way] V fun e w'=>∃i pb cp,Below V.heap.size V w'/\GM.Reach s.aj a n i/\vp=.slice (some (Ad pb 0)) s.aj.length cp/\e=.returned (.tuple #[.slice (some (Ad pb (i*2))) (GM.cW a n-a/16+1).toNat (cp-i),.agg #[I 0,I 0]])):=fun V hV=>(jd.o V hV).mono fun e w' ⟨hb,hh⟩=>by
    rcases hh with⟨g,_⟩ | ⟨_,i,pb,cp,h1,h2,h3⟩
    · exact(g rfl).elim
    · exact⟨i,pb,cp,hb,h1,h2,h3⟩
   have HJ:Hid (∀V,Below w.heap.size w V->∀i pb cp c,GM.Reach s.aj a n i->vp=.slice (some (Ad pb 0)) s.aj.length cp->Calls Tryz.prog 198 #[.slice (some (Ad pb (i*2))) (GM.cW a n-a/16+1).toNat c] V fun e w'=>e=.returned (.string (GM.eH s.aj a n))/\Below V.heap.size V w'):=fun V hV i pb cp c hr hv=>by
    have hle:=wR hr
    have:=FW.Dn (win s.aj i (GM.cW a n-a/16+1).toNat) (some (Ad pb (i*2))) c V (H7 (PB.o V hV pb cp hv) hle) (CG HL.o hle) (by rw[nH hle];rcases iP hr with⟨g,_⟩ | ⟨g,_⟩ <;> omega)
    rw[nH hle,H8 HL.o hr] at this
    exact this
   have Hj:Hid (∀V i,GM.Reach s.aj a n i->Calls Tryz.prog 142 #[.string (GM.eH s.aj a n),I (a%16),I n] V fun e w'=>e=.returned (.tuple #[.string (GM.ig s.aj a n),I 0])/\Below V.heap.size V w'):=fun V i hr=>by
    have h1:=hr.low
    have hsz:=GM.lu HL.o hr
    have:=CW.wX (GM.eH s.aj a n) (a%16).toNat n.toNat V (by rcases hsz with⟨g,_⟩ | ⟨g,_⟩ <;> omega) (by rcases hsz with⟨g,g2⟩ | ⟨g,g2⟩ <;> (unfold GM.cW at g2;omega))
    rw[show(((a%16).toNat:Nat):Int)=a%16 by omega,show((n.toNat:Nat):Int)=n by omega] at this
    exact this
   have Vq:=ai (fun i (hr:GM.Reach s.aj a n i)=>hr.low)
   obtain⟨MM,YE⟩:=ex ((GM.cW a n-a/16+1).toNat)
   rw[<- YE] at mg HJ
   obtain⟨J,hJ⟩:=ex (GM.eH s.aj a n)
   rw[<- hJ] at HJ Hj
   obtain⟨Q,hQ⟩:=ex (GM.ig s.aj a n)
   rw[<- hQ] at Hj HX
   clear jd YE hJ hQ
   go_enter Tryz.func192,Tryz.ntmps192
   go_wp2_with (first
    | (go_at_call 197;refine(mg.o _ cP.o).mono ?_;rintro e w1 ⟨i,pb,cp,hb1,hre,hvp,rfl⟩;have KY:=ai hre;have U8:=ai hvp;have bh:=ai (cP.o.trans (hb1.mono cP.o.size));have tP:=ai (B.below BY.o hb1 (B.isLt BY.o));have Bu:=Vq.o i hre;have bY:=ai (bh.o.alloc bh.o.size (.cells #[I 0,I 0] 68));have EU:=ai (B.alloc tP.o (.cells #[I 0,I 0] 68));clear hb1 hre hvp)
    | (go_at_call 198;refine(HJ.o _ bY.o i pb cp _ KY.o U8.o).mono ?_;rintro e w3 ⟨rfl,hb3⟩;have fK:=ai (bY.o.trans (hb3.mono bY.o.size));have PN:=ai (B.below EU.o hb3 (B.isLt EU.o));clear hb3)
    | (go_at_call 142;refine(Hj.o _ i KY.o).mono ?_;rintro e w4 ⟨rfl,hb4⟩;have lZ:=ai (fK.o.trans (hb4.mono fK.o.size));have Wt:=ai (B.below PN.o hb4 (B.isLt PN.o));have y0:=B.cell (v:=I 0) Wt.o 0 rfl;have y1:=B.cell (v:=I 0) Wt.o 1 rfl;have y2:=B.free Wt.o 0;have y3:=B.free Wt.o 1;clear hb4))
   refine bodyPost_ret (v:=.tuple #[.string Q,.agg #[I 0,I 0]]) (by simp[results,Tryz.results192,go_sem,y0,y1]) rfl ?_
   have:=dx.o _ ((lZ.o.setCell (p:=(Ad w.heap.size 0)) (Nat.le_refl _) (I 0)).setCell (p:=(Ad w.heap.size 1)) (Nat.le_refl _) (I 0))
   rw[HX.o] at this
   exact this
 · have HX:Hid (X=((⟨#[]⟩,(f1,f2)),m)):=by rw[jr.o,if_neg y9];exact rfl
   have hfi:(f1==0)=false:=by rw[beq_eq_false_iff_ne];exact y9
   have mg:Hid (∀V,Below w.heap.size w V->Calls Tryz.prog 197 #[.pointer (some (Ad mb 0)),I (k:Int),I a,I n,I way] V fun e w'=>Below V.heap.size V w'/\e=.returned (.tuple #[Nl,.agg #[I f1,I f2]])):=fun V hV=>(jd.o V hV).mono fun e w' ⟨hb,hh⟩=>by
    rcases hh with⟨_,g⟩ | ⟨g,_⟩
    · exact⟨hb,g⟩
    · exact(y9 g).elim
   clear jr jd y9
   go_enter Tryz.func192,Tryz.ntmps192
   go_wp2_with (go_at_call 197;refine(mg.o _ cP.o).mono ?_;rintro e w1 ⟨hb1,rfl⟩;have bh:=ai (cP.o.trans (hb1.mono cP.o.size));have tP:=ai (B.below BY.o hb1 (B.isLt BY.o));have y0:∀ob,(w1.alloc ob).cell? (Ad w.heap.size 0)=some (I 0):=(fun ob=>B.cell (B.alloc tP.o ob) 0 rfl);have y1:∀ob,(w1.alloc ob).cell? (Ad w.heap.size 1)=some (I 0):=(fun ob=>B.cell (B.alloc tP.o ob) 1 rfl);have y2:∀ob,(w1.alloc ob).frozen? (Ad w.heap.size 0)=false:=(fun ob=>B.free (B.alloc tP.o ob) 0);have y3:∀ob,(w1.alloc ob).frozen? (Ad w.heap.size 1)=false:=(fun ob=>B.free (B.alloc tP.o ob) 1);clear hb1)
   go_region
   all_goals
    go_wp2
    refine bodyPost_ret (v:=.tuple #[.string ⟨#[]⟩,.agg #[I f1,I f2]]) (by simp[results,Tryz.results192,go_sem,y0,y1]) rfl ?_
    have:=dx.o _ (((bh.o.alloc bh.o.size (.cells #[I f1,I f2] 68)).drew.setCell (p:=(Ad w.heap.size 0)) (Nat.le_refl _) (I f1)).setCell (p:=(Ad w.heap.size 1)) (Nat.le_refl _) (I f2))
    rw[HX.o] at this
    exact this
theorem Fa {ps:List FM.Pg} (hr:FW.yj ps) {i:Nat} (hi:i<ps.length) {p:Int} (hp:(FM.aN ps i).page=p) (d:ByteArray):GM.mv p d ps=ps.set i ⟨p,d⟩:=by
 apply List.ext_getElem?
 intro j
 unfold GM.mv
 rw[List.getElem?_map,List.getElem?_set]
 by_cases c:j<ps.length
 · rw[List.getElem?_eq_getElem c]
   have hj:FM.aN ps j=ps[j]:=by unfold FM.aN;rw[List.getD_eq_getElem?_getD,List.getElem?_eq_getElem c];rfl
   by_cases e:i=j
   · subst e
     rw[if_pos rfl,if_pos c,Option.map_some,<- hj,if_pos hp]
   · rw[if_neg e,Option.map_some,<- hj,if_neg]
     intro g
     rcases Nat.lt_or_ge i j with q | q
     · have:=hr i j q c;omega
     · have:=hr j i (by omega) hi;omega
 · rw[List.getElem?_eq_none (by omega),if_neg (by omega)];rfl
def iQ (ps:List FM.Pg) (i:Nat) (dt:ByteArray):Nat->List FM.Pg
 | 0=>ps
 | t+1=>(iQ ps i dt t).set (i+t) ⟨(FM.aN ps (i+t)).page,dt.extract (t*16) (t*16+16)⟩
theorem pW (ps:List FM.Pg) (i:Nat) (dt:ByteArray):∀t,(iQ ps i dt t).length=ps.length
 | 0=>rfl
 | t+1=>by show((iQ ps i dt t).set _ _).length=_;rw[List.length_set];exact pW ps i dt t
theorem wT (ps:List FM.Pg) (i:Nat) (dt:ByteArray):∀t j,(FM.aN (iQ ps i dt t) j).page=(FM.aN ps j).page
 | 0,j=>rfl
 | t+1,j=>by
  have ih:=wT ps i dt t j
  show(FM.aN ((iQ ps i dt t).set (i+t) _) j).page=_
  unfold FM.aN at ih ⊢
  rw[List.getD_eq_getElem?_getD,List.getElem?_set]
  by_cases e:i+t=j
  · rw[if_pos e]
    subst e
    by_cases c:i+t<(iQ ps i dt t).length
    · rw[if_pos c];rfl
    · rw[if_neg c]
      rw[pW] at c
      rw[List.getD_eq_getElem?_getD,List.getElem?_eq_none (by omega)]
  · rw[if_neg e]
    rw[List.getD_eq_getElem?_getD] at ih
    exact ih
theorem JW {s:FM.Sp} (hL:GM.ql s) {a:Int} {d:ByteArray} {i:Nat} (h:GM.Reach s.aj a d.size i):iQ s.aj i (CL.over (GM.eH s.aj a d.size) (a%16).toNat d) (GM.cW a d.size-a/16+1).toNat=GM.fT s.aj a d:=by
 unfold GM.fT
 rcases iP h with⟨e,e1⟩ | ⟨e,e1,e2,e3⟩
 · rw[if_pos e1,e,Fa hL.nO h.lt h.first]
   show s.aj.set (i+0) ⟨(FM.aN s.aj (i+0)).page,_⟩=_
   rw[Nat.add_zero,h.first]
 · rw[if_neg (by omega),e,Fa hL.nO h.lt h.first]
   have hr2:FW.yj (s.aj.set i ⟨a/16,(CL.over (GM.eH s.aj a d.size) (a%16).toNat d).extract 0 16⟩):=fun x y hxy hy=>by
    have mD:∀j,(FM.aN (s.aj.set i ⟨a/16,(CL.over (GM.eH s.aj a d.size) (a%16).toNat d).extract 0 16⟩) j).page=(FM.aN s.aj j).page:=fun j=>by
     unfold FM.aN
     rw[List.getD_eq_getElem?_getD,List.getElem?_set]
     by_cases g:i=j
     · subst g
       rw[if_pos rfl,if_pos h.lt]
       exact h.first.symm
     · rw[if_neg g,List.getD_eq_getElem?_getD]
    rw[List.length_set] at hy
    rw[mD,mD]
    exact hL.nO x y hxy hy
   have hp2:(FM.aN (s.aj.set i ⟨a/16,(CL.over (GM.eH s.aj a d.size) (a%16).toNat d).extract 0 16⟩) (i+1)).page=GM.cW a d.size:=by
    rw[<- e3]
    unfold FM.aN
    rw[List.getD_eq_getElem?_getD,List.getD_eq_getElem?_getD,List.getElem?_set_ne (by omega)]
   rw[Fa hr2 (by rw[List.length_set];exact e2) hp2]
   show(s.aj.set (i+0) ⟨(FM.aN s.aj (i+0)).page,_⟩).set (i+1) ⟨(FM.aN s.aj (i+1)).page,_⟩=_
   rw[Nat.add_zero,h.first,e3]
theorem Mem.aj {lo mb:Nat} {w w':World} {D:Nat->Prop} {sl:Int} {v:Value} {L:List Lc} {ss:List FM.Sp} (h:Mem lo mb w D sl v L ss) (k:Nat) (hk:k<ss.length) {ps:List FM.Pg} (iB:Kp (fun b=>blk (bw L k).vp b) w w') (hrow:w'.ownsRow lo 65 2 (bw L k).vp ps.length (ps.flatMap aH)) :
  Mem lo mb w' D sl v L (ss.set k { FM.ax ss k with aj:=ps }):=by
 have hlen:=h.len
 have kK:k<L.length:=by omega
 refine⟨by rw[List.length_set];exact hlen,iB.keep h.head (h.n2 k kK).2,iB.row h.row (fun g hg e=>(h.n3 k kK g hg).2 e),fun j hj=>?_,h.base,h.n1,h.n2,h.n3,h.n4,h.d1,h.d2,h.d3⟩
 rw[GM.m7 _ _ _ _ hk]
 by_cases c:j=k
 · subst c
   rw[if_pos rfl]
   have:=h.each j hj
   exact⟨this.live,iB.row this.aw (fun b hb e=>(h.n4 j j hj hj b e).1 hb),hrow⟩
 · rw[if_neg c]
   exact(h.each j hj).kp iB (fun b hb e=>(h.n4 k j kK hj b e).1 hb) (fun b hb e=>(h.n4 k j kK hj b e).2 (fun g=>c g.symm) hb)
theorem Mem.data {lo mb:Nat} {w:World} {D:Nat->Prop} {sl:Int} {v:Value} {L:List Lc} {ss:List FM.Sp} (h:Mem lo mb w D sl v L ss) (k:Nat) (hk:k<ss.length) {pb n cp:Nat} (hvp:(bw L k).vp=.slice (some (Ad pb 0)) n cp) (j:Nat) (hj:j<(FM.ax ss k).aj.length) (d:ByteArray) :
  Mem lo mb (w.setCell (Ad pb (j*2+1)) (.string d)) D sl v L (ss.set k { FM.ax ss k with aj:=(FM.ax ss k).aj.set j ⟨(FM.aN (FM.ax ss k).aj j).page,d⟩ }):=by
 have kK:k<L.length:=by rw[h.len];exact hk
 have hr:=(h.each k kK).aj
 rw[hvp] at hr
 have hn:n=(FM.ax ss k).aj.length:=by
  obtain⟨ao,cap,e,_,_⟩:=aJ hr
  injection e
 rw[hn] at hr hvp
 refine h.aj k hk (Kp.set _ _ _ _ (by rw[hvp];rfl)) ?_
 rw[hvp,List.length_set]
 have:=bZ hr (j*2+1) (.string d)
 rw[<- gX aH 2 bl FM.yC ⟨(FM.aN (FM.ax ss k).aj j).page,d⟩ 1 (.string d) (by omega) _ j hj rfl] at this
 exact this
end GF
end Go.Proofs.YtkdigjpejnebkaaGreat
