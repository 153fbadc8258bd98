import Derived.Test.YtpgifpeohlllfaaGreatGP00
import Derived.Test.YtpgifpeohlllfaaGreatGP05
import Derived.Laws.BytesArg
import Derived.Laws.OwnMore
import Derived.Lib.Walk
import Derived.Lib.BufferWrite
import Derived.Lib.Hide
import Derived.Laws.MakeOwn
import Derived.Laws.IdiomStrings
import Derived.WalkSpells
import Derived.Deep.QuietTactic
import Derived.BigQuiet
import Derived.Laws.CopyOwn
import Derived.Deep.AppendLies
import Derived.Deep.Upon
import Derived.Test.YtpgifpeohlllfaaGreatGP04
set_option maxHeartbeats 20000000
set_option linter.unusedVariables false
set_option maxRecDepth 100000
set_option linter.unusedSimpArgs false
namespace Go.Proofs.YtpgifpeohlllfaaGreat
namespace CW
open Go.RowKit
theorem zM (n:Int) (size:Nat) (w:World) (h2:size<=8) :
  Calls Tryz.prog 138 #[I n,I size] w fun e w'=>e=.returned (.string ⟨(Lib.leBytes size (CM.low n)).toArray⟩)/\Below w.heap.size w w':=by
 go_enter Tryz.func138,Tryz.ntmps138
 go_wp2
 go_loopw [0,5,6] (fun t s i wr=>∃k:Nat,k<=size/\i=I k/\t=I (CM.shr n k)/\s=.string ⟨(Lib.leBytes k (CM.low n)).toArray⟩/\Below w.heap.size w wr) (fun _ _ i _=>size-(intOf i).toNat)
 case atStart=>exact⟨0,by omega,rfl,by rw[CM.KP],rfl,Below.refl _ _⟩
 case round =>
  obtain⟨k,hk,rfl,rfl,rfl,hb⟩:=hrel
  by_cases hlt:k<size
  · have hcv:(convert 137 9 (.slice (some (Ad wr.heap.size 0)) 1 1)).run Tryz.prog (wr.alloc (.cells #[.int .u8 (CM.shr n k%256)] 5))=.ok (.string ⟨#[(CM.low n/256 ^ k%256).toUInt8]⟩) (wr.alloc (.cells #[.int .u8 (CM.shr n k%256)] 5)):=by
     rw[<- CM.vN n k (by omega)]
     refine run_convert_bytes_arg _ 137 5 Tryz.underlying137 Tryz.underlying5 _ 0 1 1 [CM.shr n k%256] rfl ?_ 9 Tryz.underlying9
     intro i hi
     obtain rfl:i=0:=by omega
     simp
    have hl:(Lib.leBytes k (CM.low n)).length=k:=Lib.leBytes_length _ _
    have HN:Hid (Lib.leBytes (k+1) (CM.low n)=Lib.leBytes k (CM.low n)++[(CM.low n/256 ^ k%256).toUInt8]):=CM.rO _ _
    go_wp2
    go_roundw
    case rel=>exact⟨k+1,by omega,by go_num,by rw[<- CM.KQ],by rw[HN.o];exact congrArg Value.string (CM.IE _ [_]),hb.alloc (by have:=hb.size;omega) _⟩
    case measure=>simp[intOf];omega
  · obtain rfl:k=size:=by omega
    go_wp2
    go_ret
    exact⟨rfl,hb⟩
theorem QU:(Tryz.prog.info? 5).map (fun i=>(i.zero,i.size,i.bytes))=some (some (.int .u8 0),1,1):=by kernel_rfl
theorem PY (s:ByteArray) (w:World) (hlim:s.size<=281474976710656) :
  Calls Tryz.prog 152 #[.string s] w fun e w'=>e=.returned (.string s)/\Below w.heap.size w w':=by
 by_cases h0:s.size=0
 · have hs:s=⟨#[]⟩:=by
    apply ByteArray.ext
    exact Array.eq_empty_of_size_eq_zero h0
   subst hs
   go_enter Tryz.func152,Tryz.ntmps152
   go_wp2
   go_ret
   exact⟨rfl,Below.refl _ _⟩
 · obtain⟨i0,hi,hz0,hz1,hz2⟩:=info_parts QU
   have hinfo:(Tryz.prog.info? 5).map (·.size)=some 1:=by rw[hi];simp[hz1]
   have hco:Tryz.prog.cellsOf 5=1:=by simp[Program.cellsOf,hi,hz1]
   obtain⟨M,hM⟩:=ex (madeCells (Value.int .u8 0).cells (((s.size:Nat):Int).toNat*i0.size))
   have hMs:M.size=s.size:=by rw[hM,size_madeCells,hz1];simp
   have hmk:∀W:World,(Instr.makeSlice 137 (I (s.size:Int)) (I (s.size:Int))).run Tryz.prog W=.ok (.slice (some (Ad W.heap.size 0)) s.size s.size) (W.alloc (.cells M 5)):=fun W=>by
    have h:=run_make (P:=Tryz.prog) W 137 5 i0 (.int .u8 0) Tryz.underlying137 hi hz0 .i64 .i64 (s.size:Int) (s.size:Int) (by omega) (by omega) (by rw[hz2];omega) (by omega)
    rw[<- hM] at h
    simpa using h
   clear hM
   have yw:=Lib.run_copy_row_string (P:=Tryz.prog) (w.alloc (.cells M 5)) 137 9 3 5 w.heap.size 0 s.size s.size s M 5 Tryz.underlying137 hinfo (heap_alloc_new w _) (Nat.le_refl _) (by omega)
   obtain⟨Y,hY⟩:=ex ((M.toList.take 0++Lib.byteCells s.data.toList++M.toList.drop (0+s.size)).toArray)
   rw[<- hY] at yw
   have hYl:Y.toList=Lib.byteCells s.data.toList:=by
    rw[hY,List.toList_toArray,List.take_zero,List.nil_append,List.drop_of_length_le (by rw[Array.length_toList];omega),List.append_nil]
   have VW:Y.size=s.size:=by rw[<- Array.length_toList,hYl,Lib.byteCells_length,<- Lib.size_eq]
   have XT:((w.alloc (.cells M 5)).setRow w.heap.size Y).heap[w.heap.size]?=some (.cells Y 5 (0,0)):=setRow_heap _ _ M _ 5 (0,0) (heap_alloc_new w _)
   have hne:s.data.toList≠[]:=fun e=>h0 (by rw[Lib.size_eq,e];rfl)
   have hUS:=Lib.run_unsafeString_row (P:=Tryz.prog) ((w.alloc (.cells M 5)).setRow w.heap.size Y) 235 3 9 5 Tryz.underlying235 hco w.heap.size Y.size (by unfold World.shape?;rw[XT]) s.data.toList hne (by rw[<- Lib.size_eq];omega) (by rw[<- Lib.size_eq];omega)
    (fun j x hx=>Lib.cells_of_row XT Y.size j _ (by rw[List.take_of_length_le (by rw[Array.length_toList];exact Nat.le_refl _),hYl];simp[Lib.byteCells,hx]))
   rw[<- Lib.size_eq] at hUS
   clear hY
   go_enter Tryz.func152,Tryz.ntmps152
   go_wp2
   go_ret
   have hb1:Below w.heap.size w (w.alloc (.cells M 5)):=(Below.refl _ w).alloc (Nat.le_refl _) _
   have hb2:Below w.heap.size (w.alloc (.cells M 5)) ((w.alloc (.cells M 5)).setRow w.heap.size Y):=⟨rfl,rfl,rfl,by simp,fun k hk=>setRow_other _ _ _ _ (by omega)⟩
   exact⟨rfl,Lib.below_freeze (hb1.trans hb2) (p:=(Ad w.heap.size 0)) (Nat.le_refl _) _⟩
theorem Ha (s:ByteArray) (w:World) (hlim:s.size<=281474976710656) :
  Calls Tryz.prog 116 #[.string s] w fun e w'=>e=.returned (.string s)/\Below w.heap.size w w':=by
 go_enter Tryz.func116,Tryz.ntmps116
 go_wp2_with (go_at_call 152;refine(PY _ _ hlim).mono ?_;rintro e w' ⟨rfl,hb⟩)
 go_ret
 exact⟨rfl,by assumption⟩
theorem qJ (l o n:Int) (w:World) (h1:0<=o) (h2:0<=n) (h3:o<=l) (h4:n<=l-o) (h5:l<=9223372036854775807) :
  Calls Tryz.prog 115 #[I l,I o,I n] w fun e w'=>e=.returned (.bool true)/\w=w':=by
 go_enter Tryz.func115,Tryz.ntmps115
 go_wp2
 go_ret
 exact⟨rfl,rfl⟩
theorem wL (s:ByteArray) (o n:Nat) (w:World) (hs:s.size<=140737488351232) (h:o+n<=s.size) :
  Calls Tryz.prog 63 #[.string s,I o,I n] w fun e w'=>e=.returned (.tuple #[.string (s.extract o (o+n)),I 0])/\Below w.heap.size w w':=by
 go_enter Tryz.func63,Tryz.ntmps63
 go_wp2_with (first | (go_at_call 115;refine(qJ _ _ _ _ (by omega) (by omega) (by omega) (by omega) (by omega)).mono ?_;rintro e w' ⟨rfl,rfl⟩) | (go_at_call 116;refine(Ha _ _ (by simp;omega)).mono ?_;rintro e w' ⟨rfl,hb⟩))
 go_ret2
 exact⟨rfl,by assumption⟩
theorem AA (s t:ByteArray) (o:Nat) (w:World) (hs:s.size<=140737488351232) (h:o+t.size<=s.size) :
  Calls Tryz.prog 65 #[.string s,I o,.string t] w fun e w'=>e=.returned (.tuple #[.string (CL.over s o t),I 0])/\Below w.heap.size w w':=by
 obtain⟨i0,hi,hz0,hz1,hz2⟩:=info_parts QU
 have hinfo:(Tryz.prog.info? 5).map (·.size)=some 1:=by rw[hi];simp[hz1]
 obtain⟨c,hc⟩:∃c,grownCap w s.size 0 5=c:=⟨_,rfl⟩
 have hcs:s.size<=c:=by rw[<- hc];exact grownCap_ge _ _ _ _
 have hcv:=run_bytes_of_string (P:=Tryz.prog) w 9 137 5 s Tryz.underlying9 Tryz.underlying137 Tryz.underlying5
 rw[hc] at hcv
 clear hc
 have hRs:(bytesRow s c).size=c:=by rw[CL.yA];omega
 have hov:=CL.EC s o t c h
 obtain⟨R,hR⟩:=ex (bytesRow s c)
 rw[<- hR] at hcv hRs hov
 clear hR
 rw[hRs] at hcv
 have hgR:((w.alloc (.cells R 5 (c,c+1))).drew).heap[w.heap.size]?=some (.cells R 5 (c,c+1)):=heap_alloc_new w _
 by_cases h0:t.size=0
 · have yw:=fun W d l c=>Lib.run_copy_empty_string (P:=Tryz.prog) W 137 9 3 5 d l c t Tryz.underlying137 (by rw[hinfo];rfl) h0
   rw[CL.Lh s o t h0] at hov ⊢
   have hcb:(convert 137 9 (.slice (some (Ad w.heap.size 0)) s.size c)).run Tryz.prog ((w.alloc (.cells R 5 (c,c+1))).drew)=.ok (.string s) ((w.alloc (.cells R 5 (c,c+1))).drew):=by
    have es:strOfNums (s.data.toList.map fun b=>(b.toNat:Int))=s:=(CM.n9 _).trans (Lib.mk_data s)
    refine Eq.trans ?_ (congrArg (fun x=>Result.ok (Value.string x) ((w.alloc (.cells R 5 (c,c+1))).drew)) es)
    refine run_convert_bytes_arg _ 137 5 Tryz.underlying137 Tryz.underlying5 _ 0 s.size c _ (by rw[List.length_map,<- Lib.size_eq]) ?_ 9 Tryz.underlying9
    intro i hi
    have ht:t.data.toList=[]:=List.eq_nil_of_length_eq_zero (by rw[<- Lib.size_eq];exact h0)
    have e:=hov i hi
    rw[ht,h0] at e
    rw[Nat.zero_add,cell_of_row _ _ _ _ _ _ hgR]
    simpa [Lib.byteCells] using e
   go_enter Tryz.func65,Tryz.ntmps65
   go_wp2_with (first | (go_at_call 115;refine(qJ _ _ _ _ (by omega) (by omega) (by omega) (by omega) (by omega)).mono ?_;rintro e w' ⟨rfl,rfl⟩))
   all_goals go_ret2
   all_goals exact⟨rfl,((Below.refl _ _).alloc (Nat.le_refl _) _).drew⟩
 · have hno:¬c=o:=by omega
   have yw:=CL.Dl (P:=Tryz.prog) ((w.alloc (.cells R 5 (c,c+1))).drew) 137 9 3 5 w.heap.size o (s.size-o) (c-o) t R 5 c (c+1) Tryz.underlying137 hinfo hgR (by omega) (by omega) (by omega)
   obtain⟨Y,hY⟩:=ex ((R.toList.take o++Lib.byteCells t.data.toList++R.toList.drop (o+t.size)).toArray)
   rw[<- hY] at yw
   have XT:(((w.alloc (.cells R 5 (c,c+1))).drew).setRow w.heap.size Y).heap[w.heap.size]?=some (.cells Y 5 (c,c+1)):=setRow_heap _ _ R _ 5 (c,c+1) hgR
   have hcb:(convert 137 9 (.slice (some (Ad w.heap.size 0)) s.size c)).run Tryz.prog (((w.alloc (.cells R 5 (c,c+1))).drew).setRow w.heap.size Y)=.ok (.string (CL.over s o t)) (((w.alloc (.cells R 5 (c,c+1))).drew).setRow w.heap.size Y):=by
    rw[<- Lib.mk_data (CL.over s o t),<- CM.n9]
    refine run_convert_bytes_arg _ 137 5 Tryz.underlying137 Tryz.underlying5 _ 0 s.size c _ (by rw[List.length_map];exact CL.nb s o t h) ?_ 9 Tryz.underlying9
    intro i hi
    rw[Nat.zero_add,cell_of_row _ _ _ _ _ _ XT,hY]
    simpa using hov i hi
   clear hov hY
   go_enter Tryz.func65,Tryz.ntmps65
   go_wp2_with (first | (go_at_call 115;refine(qJ _ _ _ _ (by omega) (by omega) (by omega) (by omega) (by omega)).mono ?_;rintro e w' ⟨rfl,rfl⟩))
   go_ret2
   exact⟨rfl,below_setRow ((Below.refl _ _).alloc (Nat.le_refl _) _).drew (Nat.le_refl _) _⟩
theorem Lj (s t:ByteArray) (o:Nat) (w:World) (hs:s.size<=140737488351232) (h:o+t.size<=s.size) :
  Calls Tryz.prog 68 #[.string s,I o,.string t] w fun e w'=>e=.returned (.string (CL.over s o t))/\Below w.heap.size w w':=by
 have h1:(o:Int)<=(s.size:Int):=by omega
 have h2:(o:Int)+(t.size:Int)<=(s.size:Int):=by omega
 go_enter Tryz.func68,Tryz.ntmps68
 go_wp2
 go_quiet (fail)
 go_wp2
 go_ret
 exact⟨by rw[<- CL.EA s o t];rfl,below_drewN (Below.refl _ _) _⟩
end CW
namespace LW
open Go.RowKit
open W (ai)
theorem Sb {s t:ByteArray} {a b:Int} (h:s=t) (g:a=b):Ending.returned (.tuple #[.string s,I a])=.returned (.tuple #[.string t,I b]):=by rw[h,g]
theorem oZ (s:LM.Sh) (w:World) (h:LM.ou w s.ao s.bq) (hf:LM.Bq s) :
  Calls Tryz.prog 148 #[.agg (LM.kJ s)] w fun e w'=>e=.returned (.tuple #[.string (LM.oh s).1,I (LM.oh s).2])/\Below w.heap.size w w':=by
 have HR:Hid (∀W,Below w.heap.size w W->Calls Tryz.prog 146 #[.agg (LM.kJ s)] W fun e w'=>e=.returned (.bool (LM.bH s))/\Below W.heap.size W w'):=fun W hb=>oN s W (h.below hb) hf
 obtain⟨f1,f2,f3,f4⟩:=hf
 obtain⟨pg,dt,fs,ao,cap⟩:=s
 simp only at f1 f2 f3 f4
 unfold M.br at f2 f3
 simp only[LM.kJ] at HR
 simp only[LM.kJ]
 have ZN:dt.size<=maxLen:=by unfold maxLen;omega
 have F4:=ai f4
 have HH:=ai h
 clear f4 h f1
 have HB:=ai ((Below.refl w.heap.size w).alloc (Nat.le_refl _) (.cells #[I pg,.string dt,.slice ao fs.length cap] 50))
 have BX:=ai (B.new w #[I pg,.string dt,.slice ao fs.length cap] 50)
 by_cases hs:LM.bH ⟨pg,dt,fs,ao,cap⟩=true
 · have HN:Hid (LM.oh ⟨pg,dt,fs,ao,cap⟩=(LM.jr dt fs fs.length,0)):=by
    show _=_
    unfold LM.oh
    rw[if_pos hs]
    rfl
   obtain⟨hd,Pk⟩:LM.jc ⟨pg,dt,fs,ao,cap⟩=true/\LM.bU fs fs.length=true:=by
    unfold LM.bH at hs
    simpa using hs
   have h16:dt.size=16:=by
    unfold LM.jc at hd
    exact(of_decide_eq_true hd).2.2
   have Ke:=ai Pk
   rw[hs] at HR
   clear hs hd Pk
   go_enter Tryz.func148,Tryz.ntmps148
   go_wp2_with (first | (go_at_call 146;refine(HR.o _ HB.o).mono ?_;rintro e w1 ⟨rfl,hb⟩;have HB:=ai (HB.o.trans (hb.mono HB.o.size));have BX:=ai (B.below BX.o hb (B.isLt BX.o));have q0:=B.cell BX.o 0 rfl;have q1:=B.cell BX.o 1 rfl;have q2:=B.cell BX.o 2 rfl;clear hb) | (go_at_call 116;refine(CW.Ha _ _ (by omega)).mono ?_;rintro e w2 ⟨rfl,hb⟩;have HB:=ai (HB.o.trans (hb.mono HB.o.size));have BX:=ai (B.below BX.o hb (B.isLt BX.o));have q0:=B.cell BX.o 0 rfl;have q1:=B.cell BX.o 1 rfl;have q2:=B.cell BX.o 2 rfl;clear hb))
   go_loopw [16,4] (fun i d wr=>∃k:Nat,k<=fs.length/\i=I k/\d=.string (LM.jr dt fs k)/\Below w.heap.size w wr) (fun i _ _=>fs.length-(intOf i).toNat)
   case atStart=>exact⟨0,by omega,rfl,rfl,HB.o⟩
   case round =>
    obtain⟨k,hk,rfl,rfl,hb⟩:=hrel
    have iM:=ai hb
    by_cases hlt:k<fs.length
    · obtain⟨b,off,hao,hbl,bC⟩:=(HH.o.below hb) (by omega)
      subst hao
      obtain⟨c0,c1⟩:=bC k hlt
      have hok:=(LM.nu _ _).1 (LM.qM fs fs.length Ke.o k hlt)
      have NP:LM.bU fs k=true:=by
       cases e:LM.bU fs k
       · rw[LM.j4 fs k fs.length (by omega) e] at Ke
         cases Ke
       · rfl
      have VE:=LM.iK fs k NP
      have hsz:=LM.mq dt fs h16 k NP
      have iL:Hid (LM.jr dt fs (k+1)=CL.over (LM.jr dt fs k) (LM.lM fs k).off.toNat (LM.lM fs k).bytes):=rfl
      obtain⟨f,um⟩:=ex (LM.lM fs k)
      rw[<- um] at c0 c1 hok iL
      obtain⟨D,hD⟩:=ex (LM.jr dt fs k)
      rw[<- hD] at hsz iL
      rw[<- hD]
      obtain⟨o,ho⟩:∃o:Nat,f.off=(o:Int):=⟨f.off.toNat,by omega⟩
      rw[ho] at c0 hok
      rw[ho,Int.toNat_natCast] at iL
      clear um hD NP bC hb
      have cj:=ai (iM.o.alloc iM.o.size (.cells #[I (o:Int),.string f.bytes] 52))
      go_wp2_with (go_at_call 65;refine(CW.AA D f.bytes o _ (by omega) (by omega)).mono ?_;rintro e w3 ⟨rfl,hb⟩;have cj:=ai (cj.o.trans (hb.mono cj.o.size));clear hb)
      go_roundw
      case rel=>exact⟨k+1,by omega,by go_num,by rw[iL.o],cj.o⟩
      case measure=>simp[intOf];omega
    · obtain rfl:k=fs.length:=by omega
      go_wp2
      go_ret2
      exact⟨Sb (by rw[HN.o]) (by rw[HN.o]),iM.o⟩
 · have hs':LM.bH ⟨pg,dt,fs,ao,cap⟩=false:=by simpa using hs
   have HN:Hid (LM.oh ⟨pg,dt,fs,ao,cap⟩=(⟨#[]⟩,1)):=by
    show _=_
    unfold LM.oh
    rw[if_neg hs]
   rw[hs'] at HR
   clear hs hs'
   rw[HN.o]
   go_enter Tryz.func148,Tryz.ntmps148
   go_wp2_with (go_at_call 146;refine(HR.o _ HB.o).mono ?_;rintro e w1 ⟨rfl,hb⟩;have HB:=ai (HB.o.trans (hb.mono HB.o.size));clear hb)
   go_ret2
   exact⟨rfl,HB.o⟩
end LW
namespace GK
open Go.RowKit
structure Kp (D:Nat->Prop) (w w':World):Prop where
 os:w'.os=w.os
 tape:w'.tape=w.tape
 output:w'.output=w.output
 size:w.heap.size<=w'.heap.size
 block:∀b,b<w.heap.size->¬D b->w'.heap[b]?=w.heap[b]?
theorem Kp.refl (D:Nat->Prop) (w:World):Kp D w w:=⟨rfl,rfl,rfl,Nat.le_refl _,fun _ _ _=>rfl⟩
theorem Kp.trans {D D1:Nat->Prop} {w w1 w2:World} (h:Kp D w w1) (g:Kp D1 w1 w2) (hd:∀b,b<w.heap.size->D1 b->D b):Kp D w w2 :=
 ⟨g.os.trans h.os,g.tape.trans h.tape,g.output.trans h.output,Nat.le_trans h.size g.size,fun b hb hn=>(g.block b (Nat.lt_of_lt_of_le hb h.size) (fun k=>hn (hd b hb k))).trans (h.block b hb hn)⟩
theorem Kp.mono {D D1:Nat->Prop} {w w':World} (h:Kp D w w') (hd:∀b,b<w.heap.size->D b->D1 b):Kp D1 w w':=⟨h.os,h.tape,h.output,h.size,fun b hb hn=>h.block b hb (fun k=>hn (hd b hb k))⟩
theorem Kp.aW {D:Nat->Prop} {w w':World} (h:Below w.heap.size w w'):Kp D w w':=⟨h.os,h.tape,h.output,h.size,fun b hb _=>h.block b hb⟩
theorem Kp.below {D:Nat->Prop} {N:Nat} {w0 w w':World} (h:Below N w0 w) (g:Kp D w w') (hN:N<=w.heap.size) (hd:∀b,D b->N<=b):Below N w0 w' :=
 h.trans ⟨g.os,g.tape,g.output,g.size,fun b hb=>g.block b (Nat.lt_of_lt_of_le hb hN) (fun k=>by have:=hd b k;omega)⟩
theorem Kp.alloc (D:Nat->Prop) (w:World) (o:Obj):Kp D w (w.alloc o):=Kp.aW ((Below.refl _ _).alloc (Nat.le_refl _) o)
theorem Kp.drew (D:Nat->Prop) (w:World):Kp D w w.drew:=Kp.aW (Below.refl _ _).drew
theorem Kp.set (D:Nat->Prop) (w:World) (a:Addr) (v:Value) (h:D a.block):Kp D w (w.setCell a v):=by
 have hb:=(Below.refl 0 w).setCell (p:=a) (Nat.zero_le _) v
 exact⟨hb.os,hb.tape,hb.output,hb.size,fun b _ hn=>Below.heap_setCell w a v b (fun e=>hn (e ▸ h))⟩
theorem Kp.grown {D:Nat->Prop} {w w':World} {row:Option Nat} (h:w.grownBy w' row) (hd:∀k,row=some k->D k):Kp D w w' :=
 ⟨h.os,h.tape,h.output,h.size,fun b hb hn=>h.block b hb (fun e=>hn (hd b e.symm))⟩
theorem Kp.keep {D:Nat->Prop} {w w':World} {b:Nat} {o:Obj} (h:Kp D w w') (hb:w.heap[b]?=some o) (hn:¬D b):w'.heap[b]?=some o:=(h.block b (B.isLt hb) hn).trans hb
theorem Kp.cell {D:Nat->Prop} {w w':World} {p:Addr} {v:Value} (h:Kp D w w') (hp:w.cell? p=some v) (hn:¬D p.block):w'.cell? p=some v :=
 (World.cell?_of_block (h.block p.block (World.block_lt_of_cell? w p hp) hn)).trans hp
theorem Kp.row {D:Nat->Prop} {w w':World} {base:Nat} {e:TypeId} {size:Nat} {v:Value} {n:Nat} {xs:List Value} (h:Kp D w w') (hr:w.ownsRow base e size v n xs) (hn:∀g,v.ownBlock=some g->¬D g):w'.ownsRow base e size v n xs:=by
 refine⟨hr.1,?_⟩
 rcases hr.2 with h0 | ⟨g,cap,cur,hv,hb,hg,h1,h2,h3,h4⟩
 · exact .inl h0
 · exact .inr ⟨g,cap,cur,hv,hb,h.keep hg (hn g (by rw[hv];rfl)),h1,h2,h3,h4⟩
theorem jl {w:World} {base:Nat} {e:TypeId} {size:Nat} {g n cap:Nat} {xs:List Value} (hr:w.ownsRow base e size (.slice (some (Ad g 0)) n cap) n xs) (j:Nat) (u:Value) :
  (w.setCell (Ad g j) u).ownsRow base e size (.slice (some (Ad g 0)) n cap) n (xs.set j u):=by
 refine⟨by rw[List.length_set];exact hr.1,?_⟩
 rcases hr.2 with⟨h0,_⟩ | ⟨g',cap',cur,hv,hb,hg,h1,h2,h3,h4⟩
 · cases h0
 · injection hv with e1 e2 e3
   injection e1 with e1
   injection e1 with e1 _ _
   subst e1 e3
   refine .inr ⟨g,cap,cur.setIfInBounds j u,rfl,hb,B.set hg j u,h1,h2,by rw[Array.size_setIfInBounds];exact h3,?_⟩
   rw[Array.toList_setIfInBounds,<- h4]
   exact List.take_set.symm ▸ rfl
theorem cV {w:World} {base:Nat} {e:TypeId} {size:Nat} {g n cap:Nat} {xs:List Value} (hr:w.ownsRow base e size (.slice (some (Ad g 0)) n cap) n xs) (j:Nat):w.frozen? (Ad g j)=false:=by
 rcases hr.2 with⟨h0,_⟩ | ⟨g',cap',cur,hv,hb,hg,h1,h2,h3,h4⟩
 · cases h0
 · injection hv with e1 e2 e3
   injection e1 with e1
   injection e1 with e1 _ _
   subst e1
   exact B.free hg j
theorem wa {P:Program} (w:World) (t ty:TypeId) (base:Nat) (e:TypeId) (i:TypeInfo) (z:Value) (size bytes:Nat) (ht:P.underlying t=some (.slice e)) (hi:P.info? e=some i) (hz:i.zero=some z)
  (hsize:i.size=size) (hby:i.bytes=bytes) (hzs:z.cells.size=size) (hsz:0<size)
  (v:Value) (n:Nat) (xs:List Value) (hown:w.ownsRow base e size v n xs)
  (ao:Option Addr) (m c:Nat) (news:List Value) (hl:news.length=m*size) (hnews:0<m->∃ad,ao=some ad/\∀j u,news[j]?=some u->w.cell? (ad.add j)=some u) (h1:∀u∈news,u.oneCell'=true)
  (h63:n+m<=maxLen) (hbytes:(n+m)*bytes<=140737488355328) (hbase:base<=w.heap.size) :
  ∃v' w',(Builtin.append_ #[t,t] ty #[v,.slice ao m c]).run P w=.ok v' w' /\
   w'.ownsRow base e size v' (n+m) (xs++news)/\w.grownBy w' v.ownBlock/\(v'.ownBlock=v.ownBlock∨v'.ownBlock=some w.heap.size):=by
 by_cases h0:0<m
 · obtain⟨ad,rfl,hc⟩:=hnews h0
   obtain⟨g,cap,w',hr,h2,h3,h4,h5⟩:=run_append_lies (P:=P) w t ty base e i z size bytes ht hi hz hsize hby hzs hsz v n xs hown ad m c news hl hc h1 h0 h63 hbytes hbase _ rfl
   refine⟨_,w',hr,h2,h3,?_⟩
   rcases h4 with h4 | h4
   · exact .inl h4.symm
   · exact .inr (by rw[h4];rfl)
 · obtain rfl:m=0:=by omega
   have hn:news=[]:=List.eq_nil_of_length_eq_zero (by omega)
   subst hn
   have hsrc:Src P i.size t (.slice ao 0 c) 0 [] w:=⟨.inl ⟨_,ht⟩,fun w'=>by simp[Builtin.lenOf],by cases ao <;> simp[Builtin.firstCells,loadCells,loadCellsFrom],by cases ao <;> simp[Builtin.firstCells,loadCells,loadCellsFrom],by simp,by simp⟩
   have hform:∃b cap,v=.slice b n cap/\n<=cap:=by
    rcases hown.2 with⟨h0,h1⟩ | ⟨g',cap',cur,hv,hb,hg,h1,h2,h3,h4⟩
    · exact⟨none,0,by rw[h0,h1],by omega⟩
    · exact⟨_,cap',hv,h1⟩
   obtain⟨b,cap,rfl,hle⟩:=hform
   have hr:=run_append_nothing (P:=P) w t t ty e i ht hi b n cap hle (.slice ao 0 c) hsrc
   exact⟨_,w,hr,by simpa using hown,World.grownBy.refl _ _,.inl rfl⟩
theorem jW {P:Program} {o:Oper} {a:Act} {w:World} {K:Act->World->Prop} {Q:Exit->Act->World->Prop} (s x:Operand) (t:TypeId)
  (ho:o.op=.call { callee:=.builtin .append,args:=#[s,x],argTypes:=#[t,t] })
  (base:Nat) (e:TypeId) (i:TypeInfo) (z:Value) (size bytes:Nat) (ht:P.underlying t=some (.slice e)) (hi:P.info? e=some i) (hz:i.zero=some z)
  (hsize:i.size=size) (hby:i.bytes=bytes) (hzs:z.cells.size=size) (hsz:0<size)
  (v:Value) (n:Nat) (xs:List Value) (hs:a.eval s=v) (hown:w.ownsRow base e size v n xs)
  (ao:Option Addr) (m c:Nat) (news:List Value) (hx:a.eval x=.slice ao m c) (hl:news.length=m*size) (hnews:0<m->∃ad,ao=some ad/\∀j u,news[j]?=some u->w.cell? (ad.add j)=some u) (h1:∀u∈news,u.oneCell'=true)
  (h63:n+m<=maxLen) (hbytes:(n+m)*bytes<=140737488355328) (hbase:base<=w.heap.size)
  (h:∀v' w',w'.ownsRow base e size v' (n+m) (xs++news)->w.grownBy w' v.ownBlock->(v'.ownBlock=v.ownBlock∨v'.ownBlock=some w.heap.size)->K (a.put o.dst v') w'):o.wp P a w K Q:=by
 obtain⟨v',w',hr,h2,h3,h4⟩:=wa (P:=P) w t o.type base e i z size bytes ht hi hz hsize hby hzs hsz v n xs hown ao m c news hl hnews h1 h63 hbytes hbase
 unfold Oper.wp execOp
 simp only[ho,resolve,invoke,builtin,Sem.run_bind,Sem.run_pure,Result.andThen_ok,List.map_toArray,List.map_cons,List.map_nil,hs,hx,hr]
 exact h v' w' h2 h3 h4
theorem ck {P:Program} {ops:Array Oper} {rest:List Oper} {o:Oper} {a:Act} {w:World} {Q:Exit->Act->World->Prop} (hgd:o.guard=none) (s x:Operand) (t:TypeId)
  (ho:o.op=.call { callee:=.builtin .append,args:=#[s,x],argTypes:=#[t,t] })
  (base:Nat) (e:TypeId) (i:TypeInfo) (z:Value) (size bytes:Nat) (ht:P.underlying t=some (.slice e)) (hi:P.info? e=some i) (hz:i.zero=some z)
  (hsize:i.size=size) (hby:i.bytes=bytes) (hzs:z.cells.size=size) (hsz:0<size)
  (v:Value) (n:Nat) (xs:List Value) (hs:a.eval s=v) (hown:w.ownsRow base e size v n xs)
  (ao:Option Addr) (m c:Nat) (news:List Value) (hx:a.eval x=.slice ao m c) (hl:news.length=m*size) (hnews:0<m->∃ad,ao=some ad/\∀j u,news[j]?=some u->w.cell? (ad.add j)=some u) (h1:∀u∈news,u.oneCell'=true)
  (h63:n+m<=maxLen) (hbytes:(n+m)*bytes<=140737488355328) (hbase:base<=w.heap.size)
  (h:∀v' w',w'.ownsRow base e size v' (n+m) (xs++news)->w.grownBy w' v.ownBlock->(v'.ownBlock=v.ownBlock∨v'.ownBlock=some w.heap.size)->wpList P ops Q rest (a.put o.dst v') w'):wpList P ops Q (o::rest) a w :=
 wpList_plain hgd fun _ hK=>jW s x t ho base e i z size bytes ht hi hz hsize hby hzs hsz v n xs hs hown ao m c news hx hl hnews h1 h63 hbytes hbase fun v' w' h2 h3 h4=>hK _ _ (h v' w' h2 h3 h4)
theorem bG {α:Type} (f:α->List Value) (k:Nat) (hf:∀x,(f x).length=k):∀l:List α,(l.flatMap f).length=l.length*k
 | []=>by simp
 | a::r=>by rw[List.flatMap_cons,List.length_append,hf,bG f k hf r,List.length_cons,Nat.succ_mul,Nat.add_comm]
theorem m6 {α:Type} (f:α->List Value) (k:Nat) (hf:∀x,(f x).length=k) (d:α):∀(l:List α) (i j:Nat),i<l.length->j<k->(l.flatMap f)[i*k+j]?=(f (l.getD i d))[j]?
 | [],i,j,hi,hj=>by simp at hi
 | a::r,0,j,hi,hj=>by
  rw[List.flatMap_cons,Nat.zero_mul,Nat.zero_add,List.getElem?_append_left (by rw[hf];exact hj)]
  rfl
 | a::r,i+1,j,hi,hj=>by
  rw[List.flatMap_cons,List.getElem?_append_right (by rw[hf,Nat.succ_mul];omega),hf,show(i+1)*k+j-k=i*k+j by rw[Nat.succ_mul];omega]
  exact m6 f k hf d r i j (by simpa using hi) hj
theorem gh {α:Type} (f:α->List Value) (k:Nat) (hf:∀x,(f x).length=k) (d:α) (x:α) (j:Nat) (v:Value) (hj:j<k):∀(l:List α) (i:Nat),i<l.length->f x=(f (l.getD i d)).set j v->(l.set i x).flatMap f=(l.flatMap f).set (i*k+j) v
 | [],i,hi,_=>by simp at hi
 | a::r,0,hi,e=>by
  have e':f x=(f a).set j v:=e
  rw[List.set_cons_zero,List.flatMap_cons,List.flatMap_cons,Nat.zero_mul,Nat.zero_add,List.set_append_left _ _ (by rw[hf];exact hj),e']
 | a::r,i+1,hi,e=>by
  rw[List.set_cons_succ,List.flatMap_cons,List.flatMap_cons,List.set_append_right _ _ (by rw[hf,Nat.succ_mul];omega),hf,show(i+1)*k+j-k=i*k+j by rw[Nat.succ_mul];omega,gh f k hf d x j v hj r i (by simpa using hi) e]
theorem iu {α:Type} {w:World} {base:Nat} {e:TypeId} {k g cap:Nat} (f:α->List Value) (hf:∀x,(f x).length=k) (d:α) {l:List α} (hr:w.ownsRow base e k (.slice (some (Ad g 0)) l.length cap) l.length (l.flatMap f)) (i j:Nat) (hi:i<l.length) (hj:j<k):w.cell? (Ad g (i*k+j))=(f (l.getD i d))[j]?:=by
 have:i*k+j<l.length*k:=by
  have:=Nat.mul_le_mul_right k (show i+1<=l.length from hi)
  rw[Nat.succ_mul] at this
  omega
 exact(hr.cellAt _ this).trans (m6 f k hf d l i j hi hj)
theorem aR {w:World} {base:Nat} {e:TypeId} {size:Nat} {v:Value} {n:Nat} {xs:List Value} (h:w.ownsRow base e size v n xs):∃ao cap,v=.slice ao n cap/\n<=cap/\(0<n->∃g,ao=some (Ad g 0)/\base<=g/\g<w.heap.size):=by
 rcases h.2 with⟨h0,h1⟩ | ⟨g',cap',cur,hv,hb,hg,h1,h2,h3,h4⟩
 · exact⟨none,0,by rw[h0,h1],by omega,fun h=>by omega⟩
 · exact⟨_,cap',hv,h1,fun _=>⟨g',rfl,hb,B.isLt hg⟩⟩
theorem km {w:World} {base base':Nat} {e:TypeId} {size:Nat} {v:Value} {n:Nat} {xs:List Value} (h:w.ownsRow base e size v n xs) (hb:∀g,v.ownBlock=some g->base'<=g):w.ownsRow base' e size v n xs:=by
 refine⟨h.1,?_⟩
 rcases h.2 with h0 | ⟨g,cap,cur,hv,_,hg,h1,h2,h3,h4⟩
 · exact .inl h0
 · exact .inr ⟨g,cap,cur,hv,hb g (by rw[hv];rfl),hg,h1,h2,h3,h4⟩
theorem bZ (w:World) (g j b o:Nat) (v:Value) (h:b≠g):(w.setCell (Ad g j) v).cell? (Ad b o)=w.cell? (Ad b o):=World.cell?_of_block (Below.heap_setCell w (Ad g j) v b h)
theorem rP {D:Nat->Prop} (w:World) (g:Nat) (j0 j1 j2:Nat) (v0 v1 v2:Value) (h:D g):Kp D w (((w.setCell (Ad g j0) v0).setCell (Ad g j1) v1).setCell (Ad g j2) v2) :=
 ((Kp.set D w (Ad g j0) v0 h).trans (Kp.set D _ (Ad g j1) v1 h) (fun _ _ k=>k)).trans (Kp.set D _ (Ad g j2) v2 h) (fun _ _ k=>k)
end GK
namespace KW
open Go.RowKit
open FW (ai aC)
def bE (f:KM.Fr):List Value:=[.string f.data,I f.refs,.bool f.bW,.bool f.seen]
def bD (f:KM.Sl):List Value:=[.string f.data,I f.refs]
def aI (e:KM.En):List Value:=[I e.page,I e.kind,I e.loc]
def Wt {α:Type} (f:α->List Value) (k:Nat) (d:α) (w:World) (b off:Nat) (l:List α):Prop:=∀i,i<l.length->∀j,j<k->w.cell? (Ad b (off+i*k+j))=(f (l.getD i d))[j]?
def aU {α:Type} (f:α->List Value) (k:Nat) (d:α) (w:World) (ao:Option Addr) (l:List α):Prop:=M.eB (Wt f k d) w ao l
theorem aU.below {α:Type} {f:α->List Value} {k:Nat} {d:α} {w w':World} {ao:Option Addr} {l:List α} (h:aU f k d w ao l) (hb:Below w.heap.size w w'):aU f k d w' ao l :=
 M.eB.below (lie:=Wt f k d) (fun hb hlt h i hi j hj=>(M.aX hb hlt).trans (h i hi j hj)) h hb
def Hh (w:World) (b off:Nat) (l:List KM.Sp):Prop:=∀i,i<l.length->∃va ap cp,w.cell? (Ad b (off+i*3))=some (.bool (KM.aq l i).live)/\w.cell? (Ad b (off+i*3+1))=some va/\w.cell? (Ad b (off+i*3+2))=some (.slice ap (KM.aq l i).au.length cp)/\AW.Has w va (KM.aq l i).aA/\aU aI 3 KM.jz w ap (KM.aq l i).au/\(KM.aq l i).au.length<=cp
theorem UN {w w':World} {b off:Nat} {l:List KM.Sp} (hb:Below w.heap.size w w') (hlt:b<w.heap.size) (h:Hh w b off l):Hh w' b off l:=fun i hi=>by
 obtain⟨va,ap,cp,c0,c1,c2,c3,c4,c5⟩:=h i hi
 exact⟨va,ap,cp,(M.aX hb hlt).trans c0,(M.aX hb hlt).trans c1,(M.aX hb hlt).trans c2,c3.below hb,c4.below hb,c5⟩
def ku (w:World) (ao:Option Addr) (l:List KM.Sp):Prop:=M.eB Hh w ao l
theorem ku.below {w w':World} {ao:Option Addr} {l:List KM.Sp} (h:ku w ao l) (hb:Below w.heap.size w w'):ku w' ao l:=M.eB.below (lie:=Hh) (fun hb hlt h=>UN hb hlt h) h hb
structure fe where
 aS:Option Addr
 cS:Nat
 aF:Option Addr
 cF:Nat
 aL:Option Addr
 cL:Nat
 aP:Option Addr
 cP:Nat
structure cO (w:World) (a:fe) (k:KM.Kn):Prop where
 ak:LM.jg w a.aS k.ak
 frames:aU bE 4 KM.l9 w a.aF k.frames
 slots:aU bD 2 KM.xY w a.aL k.slots
 aj:ku w a.aP k.aj
theorem cO.below {w w':World} {a:fe} {k:KM.Kn} (h:cO w a k) (hb:Below w.heap.size w w'):cO w' a k:=⟨h.ak.below hb,h.frames.below hb,h.slots.below hb,h.aj.below hb⟩
def aH (a:fe) (k:KM.Kn):Array Value:=#[.slice a.aS k.ak.length a.cS,.slice a.aF k.frames.length a.cF,.slice a.aL k.slots.length a.cL,.slice a.aP k.aj.length a.cP,I k.hand]
structure lZ (s:KM.Sp):Prop where
 aA:AW.eH s.aA
 au:M.br s.au.length
 tH:∀i,i<s.au.length->M.fR (KM.aJ s.au i).page/\M.fR (KM.aJ s.au i).kind/\M.fR (KM.aJ s.au i).loc
structure eY (k:KM.Kn):Prop where
 ak:LM.oq k.ak
 nf:M.br k.frames.length
 fr:∀i,i<k.frames.length->M.br (KM.aD k.frames i).data.size/\M.fR (KM.aD k.frames i).refs
 ns:M.br k.slots.length
 sl:∀i,i<k.slots.length->M.br (KM.bk k.slots i).data.size/\M.fR (KM.bk k.slots i).refs
 np:M.br k.aj.length
 sp:∀i,i<k.aj.length->lZ (KM.aq k.aj i)
 hand:M.fR k.hand
theorem xE (vS vF vL vP:Option Addr) (nS cS nF cF nL cL nP cP:Nat) (hd:Value) (w:World) :
  Calls Tryz.prog 109 #[.agg #[.slice vS nS cS,.slice vF nF cF,.slice vL nL cL,.slice vP nP cP,hd]] w fun e w'=>e=.returned (.bool (decide ((3<=nF/\nF<=64)/\nL<=512/\(1<=nP/\nP<=4)/\nS<=255)))/\Below w.heap.size w w':=by
 obtain⟨A,hA⟩:=ex (decide ((3<=nF/\nF<=64)/\nL<=512/\(1<=nP/\nP<=4)/\nS<=255))
 rw[<- hA]
 have HA:=ai hA
 clear hA
 rcases(show ¬(3:Int)<=nF∨((3:Int)<=nF/\¬(nF:Int)<=64)∨((3:Int)<=nF/\(nF:Int)<=64/\¬(nL:Int)<=512)∨((3:Int)<=nF/\(nF:Int)<=64/\(nL:Int)<=512/\¬(1:Int)<=nP)∨((3:Int)<=nF/\(nF:Int)<=64/\(nL:Int)<=512/\(1:Int)<=nP/\¬(nP:Int)<=4)∨((3:Int)<=nF/\(nF:Int)<=64/\(nL:Int)<=512/\(1:Int)<=nP/\(nP:Int)<=4/\¬(nS:Int)<=255)∨((3:Int)<=nF/\(nF:Int)<=64/\(nL:Int)<=512/\(1:Int)<=nP/\(nP:Int)<=4/\(nS:Int)<=255) by omega) with g | ⟨g,g1⟩ | ⟨g,g1,g2⟩ | ⟨g,g1,g2,g3⟩ | ⟨g,g1,g2,g3,g4⟩ | ⟨g,g1,g2,g3,g4,g5⟩ | ⟨g,g1,g2,g3,g4,g5⟩
 all_goals
  go_enter Tryz.func109,Tryz.ntmps109
  go_wp2
  go_ret
  exact⟨congrArg (fun b=>Ending.returned (.bool b)) (by rw[HA.o];simp;omega),(Below.refl _ _).alloc (Nat.le_refl _) _⟩
end KW
namespace KW
open Go.RowKit GK
open FW (ai aC)
def qy (G:Nat->ByteArray):Nat->List Value
 | 0=>[]
 | n+1=>qy G n++[.string (G n)]
def sK (G:Nat->ByteArray) (n:Nat) (d:ByteArray):Nat->ByteArray:=fun k=>if k=n then d else G k
theorem gS (G:Nat->ByteArray):∀n,(qy G n).length=n
 | 0=>rfl
 | n+1=>by rw[qy,List.length_append,gS G n];rfl
theorem wj (G:Nat->ByteArray) (n:Nat):∀m,n<m->(qy G m)[n]?=some (.string (G n))
 | 0,h=>by omega
 | m+1,h=>by
  rw[qy]
  by_cases c:n<m
  · rw[List.getElem?_append_left (by rw[gS];exact c),wj G n m c]
  · obtain rfl:n=m:=by omega
    rw[List.getElem?_append_right (by rw[gS];exact Nat.le_refl _),gS,Nat.sub_self];rfl
theorem wk (F G:Nat->ByteArray):∀m,(∀k,k<m->F k=G k)->qy F m=qy G m
 | 0,_=>rfl
 | m+1,h=>by rw[qy,qy,wk F G m (fun k hk=>h k (by omega)),h m (by omega)]
theorem Cj (G:Nat->ByteArray) (n:Nat) (d:ByteArray):∀m,n<m->(qy G m).set n (.string d)=qy (sK G n d) m
 | 0,h=>by omega
 | m+1,h=>by
  rw[qy,qy]
  by_cases c:n<m
  · rw[List.set_append_left _ _ (by rw[gS];exact c),Cj G n d m c]
    congr 2
    unfold sK
    rw[if_neg (by omega)]
  · obtain rfl:n=m:=by omega
    rw[List.set_append_right _ _ (by rw[gS];exact Nat.le_refl _),gS,Nat.sub_self,wk (sK G n d) G n (fun k hk=>by unfold sK;rw[if_neg (by omega)])]
    show _++[Value.string d]=_++[Value.string (sK G n d n)]
    unfold sK
    rw[if_pos rfl]
def l7 (a b c d e:Value) (G:Nat->ByteArray):Array Value:=([a,b,c,d,e]++qy G 256).toArray
theorem GC (a b c d e:Value) (G:Nat->ByteArray) (n:Nat) (h:n<256):(l7 a b c d e G)[5+n]?=some (.string (G n)):=by
 unfold l7
 rw[List.getElem?_toArray,List.getElem?_append_right (by simp),<- wj G n 256 h]
 congr 1
 simp
theorem LB (a b c d e:Value) (G:Nat->ByteArray) (n:Nat) (x:ByteArray) (h:n<256):(l7 a b c d e G).setIfInBounds (5+n) (.string x)=l7 a b c d e (sK G n x):=by
 unfold l7
 rw[List.setIfInBounds_toArray,List.set_append_right _ _ (by simp),<- Cj G n x 256 h]
 congr 3
 simp
def ml:Nat->ByteArray:=fun _=>⟨#[]⟩
def js (hs:List LM.Sh):Nat->Nat->ByteArray
 | 0=>ml
 | k+1=>sK (js hs k) (LM.aY hs k).page.toNat (LM.lN (LM.aY hs k))
theorem uG (hs:List LM.Sh) (hr:LM.cZ hs=true) (n:Nat):js hs hs.length n=KM.filled hs n:=by
 have hrise:=LM.tV hs hr
 have hat:∀i,i<hs.length->1<=(LM.aY hs i).page:=fun i hi=>by
  have:=(LM.jJ hs hs.length hr i hi).1
  unfold LM.bH LM.jc at this
  simp only[Bool.and_eq_true,decide_eq_true_eq] at this
  exact this.1.1
 have key:∀k,k<=hs.length->(∀i,i<k->(LM.aY hs i).page≠(n:Int))->js hs k n=⟨#[]⟩:=fun k=>by
  induction k with
  | zero=>intro _ _;rfl
  | succ k ih =>
   intro hk h
   show sK (js hs k) _ _ n=_
   unfold sK
   rw[if_neg (fun e=>h k (by omega) (by have:=hat k (by omega);omega)),ih (by omega) (fun i hi=>h i (by omega))]
 have Y4:∀k,k<=hs.length->∀j,j<k->(LM.aY hs j).page=(n:Int)->js hs k n=LM.lN (LM.aY hs j):=fun k=>by
  induction k with
  | zero=>intro _ j hj;omega
  | succ k ih =>
   intro hk j hj e
   show sK (js hs k) _ _ n=_
   unfold sK
   by_cases c:j=k
   · subst c;rw[if_pos (by omega)]
   · have hlt:(LM.aY hs j).page<(LM.aY hs k).page:=by
      have:=(List.pairwise_iff_getElem.1 hrise) j k (by rw[List.length_map];omega) (by rw[List.length_map];omega) (by omega)
      rw[List.getElem_map,List.getElem_map] at this
      unfold LM.aY
      rw[List.getD_eq_getElem?_getD,List.getD_eq_getElem?_getD,List.getElem?_eq_getElem (by omega),List.getElem?_eq_getElem (by omega)]
      exact this
     rw[if_neg (by omega)]
     exact ih (by omega) j (by omega) e
 unfold KM.filled
 cases g:KM.bK hs n with
 | none =>
  have h:=List.find?_eq_none.1 g
  exact key _ (Nat.le_refl _) (fun i hi e=>by
   have:=h (LM.aY hs i) (KM.dB hi)
   simp[e] at this)
 | some s =>
  have hm:=List.mem_of_find?_eq_some g
  have hp:=List.find?_some g
  obtain⟨j,hj,rfl⟩:=KM.eu LM.JV hm
  exact Y4 _ (Nat.le_refl _) j hj (of_decide_eq_true hp)
theorem Jr {s:LM.Sh} (h:LM.bH s=true):LM.oh s=(LM.lN s,0):=by unfold LM.oh;rw[if_pos h]
theorem MJ {s:LM.Sh} (h:LM.bH s=false):LM.oh s=(⟨#[]⟩,1):=by unfold LM.oh;rw[if_neg (by rw[h];simp)]
theorem xt (hs:List LM.Sh) (aS:Option Addr) (cS mb:Nat) (b c d e:Value) (w0 w:World) (h:LM.jg w0 aS hs) (hf:LM.oq hs) (hw:Below w0.heap.size w0 w) (hmb:w0.heap.size<=mb) (hm:w.heap[mb]?=some (.cells (l7 (.slice aS hs.length cS) b c d e ml) 104 (0,0))) (hl:hs.length<=255) :
  Calls Tryz.prog 110 #[.pointer (some (Ad mb 0))] w fun x w'=>x=.returned (.bool (LM.cZ hs))/\Kp (fun b=>b=mb) w w'/\∃G,w'.heap[mb]?=some (.cells (l7 (.slice aS hs.length cS) b c d e G) 104 (0,0))/\(LM.cZ hs=true->G=js hs hs.length):=by
 have HH:=ai h
 have HF:=ai hf
 have HW:=ai hw
 have hlt:=B.isLt hm
 have m0:w.cell? (Ad mb 0)=some (.slice aS hs.length cS):=B.cell hm 0 rfl
 have HM:=ai hm
 have vt:Hid (∀k,k<hs.length->(LM.bH (LM.aY hs k)=false∨(LM.aY hs k).page<=(if k=0 then 0 else (LM.aY hs (k-1)).page))->LM.cZ hs=false):=fun k hk g=>LM.Cr hs k hk (by
  unfold LM.fM
  rcases g with g | g
  · rw[g];rfl
  · by_cases c:k=0
    · rw[if_pos c] at g
      have:LM.bH (LM.aY hs k)=false:=by
       unfold LM.bH LM.jc
       rw[decide_eq_false (by omega)];rfl
      rw[this];rfl
    · rw[if_neg c] at g
      rw[decide_eq_false (by omega),show(k==0)=false by simpa using c]
      exact Bool.and_false _)
 have HST:Hid (∀k,k<hs.length->LM.b7 hs k=true->LM.bH (LM.aY hs k)=true->(if k=0 then 0 else (LM.aY hs (k-1)).page)<(LM.aY hs k).page->LM.b7 hs (k+1)=true):=fun k hk h1 h2 h3=>by
  rw[LM.b7,h1,h2]
  unfold LM.fM
  by_cases c:k=0
  · simp[c]
  · rw[if_neg c] at h3
    simp[h3]
 clear h hf hw hm
 go_enter Tryz.func110,Tryz.ntmps110
 go_wp2
 go_loopw [3,14] (fun lv iv wr=>∃k:Nat,k<=hs.length/\iv=I (k:Int)/\lv=I (if k=0 then 0 else (LM.aY hs (k-1)).page)/\LM.b7 hs k=true/\Kp (fun b=>b=mb) w wr/\wr.heap[mb]?=some (.cells (l7 (.slice aS hs.length cS) b c d e (js hs k)) 104 (0,0))) (fun _ iv _=>hs.length-(intOf iv).toNat)
 case atStart=>exact⟨0,by omega,rfl,rfl,rfl,Kp.refl _ _,HM.o⟩
 case round =>
  obtain⟨k,hk,rfl,rfl,hr,vA,hmk⟩:=hrel
  have DJ:=ai vA
  have Yu:=ai hmk
  have HR:=ai hr
  clear hr
  obtain⟨L,hL⟩:∃L:Int,L=if k=0 then 0 else (LM.aY hs (k-1)).page:=⟨_,rfl⟩
  rw[<- hL]
  by_cases tu:k<hs.length
  · have hbk:=vA.below HW.o (by have:=HW.o.size;omega) (fun b hb=>by omega)
    have Oc:=ai hbk
    obtain⟨bb,off,hao,hbl,bC⟩:=HH.o (by omega)
    subst hao
    obtain⟨d0,d1,d2,d3⟩:=bC k tu
    have ae7:¬bb=mb:=by omega
    have hsz:=vA.size
    have c0:=(hbk.cell (p:=(Ad bb (off+k*3))) hbl).trans d0
    have c1:=(hbk.cell (p:=(Ad bb (off+k*3+1))) hbl).trans d1
    have c2:=(hbk.cell (p:=(Ad bb (off+k*3+2))) hbl).trans d2
    have sF:=HF.o.2 k tu
    have HC:Hid (∀V,Below w0.heap.size w0 V->Calls Tryz.prog 148 #[.agg (LM.kJ (LM.aY hs k))] V fun e w'=>e=.returned (.tuple #[.string (LM.oh (LM.aY hs k)).1,I (LM.oh (LM.aY hs k)).2])/\Below V.heap.size V w'):=fun V hV=>LW.oZ _ V (d3.below hV) sF
    have vt:=ai (vt.o k tu)
    have HST:=ai (HST.o k tu HR.o)
    have DU:=sF.page
    have T4:Hid (js hs (k+1)=sK (js hs k) (LM.aY hs k).page.toNat (LM.lN (LM.aY hs k))):=rfl
    have N7:Hid (LM.bH (LM.aY hs k)=true->1<=(LM.aY hs k).page/\(LM.aY hs k).page<=255):=fun g=>by
     unfold LM.bH LM.jc at g
     simp only[Bool.and_eq_true,decide_eq_true_eq] at g
     exact⟨g.1.1,g.1.2.1⟩
    have Gb:=ai (@Jr (LM.aY hs k))
    have QC:=ai (@MJ (LM.aY hs k))
    have Ho:Hid ((if k+1=0 then 0 else (LM.aY hs (k+1-1)).page)=(LM.aY hs k).page):=by
     show _=_
     rw[if_neg (by omega),Nat.add_sub_cancel]
    unfold LM.kJ at HC
    obtain⟨S,hS⟩:=ex (LM.aY hs k)
    rw[<- hL] at vt HST
    rw[<- hS] at c0 c1 c2 HC vt HST DU T4 N7 Gb QC Ho
    obtain⟨pg,dt,fx,fo,fc⟩:=S
    simp only at c0 c1 c2 HC vt HST DU T4 N7 Gb QC Ho
    obtain⟨nx,hnx⟩:=ex fx.length
    rw[<- hnx] at c2 HC
    clear hS hL hnx d0 d1 d2 d3 bC sF hbk vA hmk
    cases oU:LM.bH ⟨pg,dt,fx,fo,fc⟩ with
    | false =>
     have sk:=ai (vt.o (.inl oU))
     have Bn:=ai (QC.o oU)
     rw[Bn.o] at HC
     clear Gb QC Bn oU vt HST T4 N7 Ho
     have SL:¬mb=wr.heap.size:=by omega
     have VP:¬bb=wr.heap.size:=by omega
     have cj:=ai (Oc.o.alloc (by have:=Oc.o.size;omega) (.cells #[I pg,.string dt,.slice fo nx fc] 50))
     have KA:=ai ((DJ.o.trans (Kp.alloc (fun b=>b=mb) wr (.cells #[I pg,.string dt,.slice fo nx fc] 50)) (fun _ _ g=>g)))
     have MA:=ai (B.alloc Yu.o (.cells #[I pg,.string dt,.slice fo nx fc] 50))
     have SA:=ai (B.new wr #[I pg,.string dt,.slice fo nx fc] 50)
     clear HM m0 HH HF
     go_wp2_with (go_at_call 148;refine(HC.o _ cj.o).mono ?_;rintro e w1 ⟨rfl,hb1⟩;have aZ:=ai hb1;have S1:=ai (B.below SA.o hb1 (by simp));have s0:w1.cell? (Ad wr.heap.size 0)=some (I pg):=B.cell S1.o 0 rfl;clear hb1)
     go_ret
     have hM:=B.below MA.o aZ.o (by simp;omega)
     exact⟨congrArg (fun b=>Ending.returned (.bool b)) sk.o.symm,KA.o.trans (Kp.aW aZ.o) (fun _ _ g=>g),_,hM,fun g=>by rw[sk.o] at g;cases g⟩
    | true =>
     have Bn:=ai (Gb.o oU)
     rw[Bn.o] at HC
     have hpb:=N7.o oU
     by_cases QZ:pg<=L
     · have sk:=ai (vt.o (.inr QZ))
       clear Gb QC Bn oU vt HST T4 N7 Ho
       have SL:¬mb=wr.heap.size:=by omega
       have VP:¬bb=wr.heap.size:=by omega
       have cj:=ai (Oc.o.alloc (by have:=Oc.o.size;omega) (.cells #[I pg,.string dt,.slice fo nx fc] 50))
       have KA:=ai ((DJ.o.trans (Kp.alloc (fun b=>b=mb) wr (.cells #[I pg,.string dt,.slice fo nx fc] 50)) (fun _ _ g=>g)))
       have MA:=ai (B.alloc Yu.o (.cells #[I pg,.string dt,.slice fo nx fc] 50))
       have SA:=ai (B.new wr #[I pg,.string dt,.slice fo nx fc] 50)
       clear HM m0 HH HF
       go_wp2_with (go_at_call 148;refine(HC.o _ cj.o).mono ?_;rintro e w1 ⟨rfl,hb1⟩;have aZ:=ai hb1;have S1:=ai (B.below SA.o hb1 (by simp));have s0:w1.cell? (Ad wr.heap.size 0)=some (I pg):=B.cell S1.o 0 rfl;clear hb1)
       go_ret
       have hM:=B.below MA.o aZ.o (by simp;omega)
       exact⟨congrArg (fun b=>Ending.returned (.bool b)) sk.o.symm,KA.o.trans (Kp.aW aZ.o) (fun _ _ g=>g),_,hM,fun g=>by rw[sk.o] at g;cases g⟩
     · have Bh:=ai (HST.o oU (by omega))
       clear Gb QC Bn oU vt HST N7
       have SL:¬mb=wr.heap.size:=by omega
       have VP:¬bb=wr.heap.size:=by omega
       have cj:=ai (Oc.o.alloc (by have:=Oc.o.size;omega) (.cells #[I pg,.string dt,.slice fo nx fc] 50))
       have KA:=ai ((DJ.o.trans (Kp.alloc (fun b=>b=mb) wr (.cells #[I pg,.string dt,.slice fo nx fc] 50)) (fun _ _ g=>g)))
       have MA:=ai (B.alloc Yu.o (.cells #[I pg,.string dt,.slice fo nx fc] 50))
       have SA:=ai (B.new wr #[I pg,.string dt,.slice fo nx fc] 50)
       clear HM m0 HH HF
       go_wp2_with (go_at_call 148;refine(HC.o _ cj.o).mono ?_;rintro e w1 ⟨rfl,hb1⟩;have aZ:=ai hb1;have S1:=ai (B.below SA.o hb1 (by simp));have s0:w1.cell? (Ad wr.heap.size 0)=some (I pg):=B.cell S1.o 0 rfl;clear hb1)
       obtain⟨n,rfl⟩:∃n:Nat,pg=(n:Int):=⟨pg.toNat,by omega⟩
       have hM:=B.below MA.o aZ.o (by simp;omega)
       have N5:=ai hM
       have K1:=ai (KA.o.trans (Kp.aW aZ.o) (fun _ _ g=>g))
       have q5:w1.cell? (Ad mb (5+n))=some (.string (js hs k n)):=B.cell hM (5+n) (GC _ _ _ _ _ _ n (by omega))
       have qf:w1.frozen? (Ad mb (5+n))=false:=B.free hM (5+n)
       have n0:(0:Int)<=(n:Int):=by omega
       have n1:(n:Int)<256:=by omega
       rw[Int.toNat_natCast] at T4
       obtain⟨FD,Rf⟩:=ex (LM.lN { page:=(n:Int),data:=dt,bq:=fx,ao:=fo,cap:=fc })
       rw[<- Rf] at T4 ⊢
       clear hM Rf HC c0 c1 c2
       go_region
       have D2:=ai ((B.set N5.o (5+n) (.string FD)).trans (by rw[LB _ _ _ _ _ _ n FD (by omega),<- T4.o]))
       have K2:=ai (K1.o.trans ((Kp.set (fun b=>b=mb) w1 (Ad mb (5+n)) (.string FD) rfl).trans (Kp.drew _ _) (fun _ _ g=>g)) (fun _ _ g=>g))
       have s2:(w1.setCell (Ad mb (5+n)) (.string FD)).drew.cell? (Ad wr.heap.size 0)=some (I (n:Int)):=(bZ w1 mb (5+n) wr.heap.size 0 (.string FD) (fun e=>SL e.symm)).trans s0
       obtain⟨W2,hW2⟩:=ex ((w1.setCell (Ad mb (5+n)) (.string FD)).drew)
       have Hn:Hid (W2.heap[mb]?=some (.cells (l7 (.slice (some (Ad bb off)) hs.length cS) b c d e (js hs (k+1))) 104 (0,0))):=by rw[hW2];exact D2.o
       rw[<- hW2] at K2 s2 ⊢
       clear hW2 D2 N5 K1 q5 qf s0
       go_wp2
       go_roundw
       case rel=>exact⟨k+1,by omega,by go_num,by rw[if_neg (by omega),Nat.add_sub_cancel,<- Ho.o,if_neg (by omega),Nat.add_sub_cancel],Bh.o,K2.o,Hn.o⟩
       case measure=>simp[intOf];omega
  · obtain rfl:k=hs.length:=by omega
    clear vA hmk hL
    go_wp2
    go_ret
    exact⟨congrArg (fun b=>Ending.returned (.bool b)) HR.o.symm,DJ.o,_,Yu.o,fun _=>rfl⟩
end KW
end Go.Proofs.YtpgifpeohlllfaaGreat
