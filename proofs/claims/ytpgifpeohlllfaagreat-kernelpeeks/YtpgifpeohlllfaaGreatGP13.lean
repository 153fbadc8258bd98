import Derived.Test.YtpgifpeohlllfaaGreatGP00
import Derived.Test.YtpgifpeohlllfaaGreatGP09
import Derived.Test.YtpgifpeohlllfaaGreatGP11
import Derived.Test.YtpgifpeohlllfaaGreatGP12
import Derived.Test.YtpgifpeohlllfaaGreatGP08
import Derived.Test.YtpgifpeohlllfaaGreatGP06
import Derived.Laws.CopyOwn
import Derived.Lib.AppendZerosOnto
import Derived.Lib.Overlaps
import Derived.Laws.Tables
import Derived.Laws.MakeOwn
import Derived.Lib.SliceRun
import Derived.Test.YtpgifpeohlllfaaGreatGP10
set_option maxHeartbeats 20000000
set_option linter.unusedVariables false
set_option maxRecDepth 100000
set_option linter.unusedSimpArgs false
namespace Go.Proofs.YtpgifpeohlllfaaGreat
namespace LW
open Go.RowKit
open W (ai)
theorem yK (w:World):Calls Tryz.prog 155 #[.string ⟨#[0]⟩,I 16] w fun e w'=>e=.returned (.string LM.kP)/\Below w.heap.size w w' :=
 Tryz.strings_Repeat_main ⟨#[0]⟩ 16 w (by decide) (by decide) (by decide) (by decide)
theorem Ey (s:M.Sg) (n:Nat) (w:World) (hn:n<=1000) (hs:s.data.size<=100000) :
  Calls Tryz.prog 162 #[.agg #[I s.page,I s.aB,.string s.data,.bool s.wr,.bool s.ex],I n] w fun e w'=>e=.returned (.string (LM.rG s n))/\Below w.heap.size w w':=by
 obtain⟨pg,pn,dt,wr,qZ0⟩:=s
 simp only at hs
 have mU:dt.size<=maxLen:=by unfold maxLen;omega
 obtain⟨b,hb⟩:∃b:Nat,b=min (n*16) dt.size:=⟨_,rfl⟩
 obtain⟨e,he⟩:∃e:Nat,e=min (b+16) dt.size:=⟨_,rfl⟩
 have Yq:Hid (LM.rG ⟨pg,pn,dt,wr,qZ0⟩ n=CL.over LM.kP 0 (dt.extract b e)):=by
  show _=_
  unfold LM.rG
  simp only
  rw[<- hb,<- he]
 have hbI:min ((n:Int)*16) (dt.size:Int)=(b:Int):=by omega
 have heI:min ((b:Int)+16) (dt.size:Int)=(e:Int):=by omega
 have h1:b<=e:=by omega
 have h2:e<=dt.size:=by omega
 have h3:e<=b+16:=by omega
 have Ka:Hid (∀V,Calls Tryz.prog 65 #[.string LM.kP,I 0,.string (dt.extract b e)] V fun e w'=>e=.returned (.tuple #[.string (LM.rG ⟨pg,pn,dt,wr,qZ0⟩ n),I 0])/\Below V.heap.size V w'):=fun V=>by
  rw[Yq.o]
  exact CW.AA LM.kP (dt.extract b e) 0 V (by rw[LM.ra];omega) (by rw[LM.ra,LM.extract_size _ _ _ h1 h2];omega)
 have BX:=ai (B.new w #[I pg,I pn,.string dt,.bool wr,.bool qZ0] 145)
 have HB:=ai ((Below.refl w.heap.size w).alloc (Nat.le_refl _) (.cells #[I pg,I pn,.string dt,.bool wr,.bool qZ0] 145))
 obtain⟨W,hW⟩:=ex (w.alloc (.cells #[I pg,I pn,.string dt,.bool wr,.bool qZ0] 145))
 rw[<- hW] at BX HB
 have HW:=ai hW
 clear hW hb he
 have zq:=B.isLt BX.o
 have mN:=Q.dO W
 have hkc:=@Q.cC W
 have e2:∀x:Q.eU W.heap.size W,x.world.cell? (Ad w.heap.size 2)=some (.string dt):=fun x=>by rw[hkc x _ _ zq];exact B.cell BX.o 2 rfl
 have HZ:Hid (∀V,Below W.heap.size W V->Calls Tryz.prog 155 #[.string ⟨#[0]⟩,I 16] V fun e w'=>e=.returned (.string LM.kP)/\Below V.heap.size V w'):=fun V _=>yK V
 have DI:Hid (∀V,Below W.heap.size W V->Calls Tryz.prog 65 #[.string LM.kP,I 0,.string (dt.extract b e)] V fun e w'=>e=.returned (.tuple #[.string (LM.rG ⟨pg,pn,dt,wr,qZ0⟩ n),I 0])/\Below V.heap.size V w'):=fun V _=>Ka.o V
 clear hkc Ka
 go_enter Tryz.func162,Tryz.ntmps162
 go_wp2
 rw[<- HW.o]
 refine Q.bc (by kernel_rfl) (by kernel_rfl) ?_
 repeat (first | go_big_quiet_step ((first | (go_at_call 155;exact bB _ HZ.o) | (go_at_call 65;exact bB _ DI.o))) | quiet_step ((first | (go_at_call 155;exact bB _ HZ.o) | (go_at_call 65;exact bB _ DI.o))))
 refine wpQuiet_nil ?_
 intro _ hw'
 obtain⟨x,hw''⟩:=hw'
 subst hw''
 go_wp2
 go_ret
 exact⟨rfl,HB.o.trans (x.keeps.mono HB.o.size)⟩
theorem EZ:(Tryz.prog.info? 52).map (fun i=>(i.zero,i.size,i.bytes))=some (some (.agg #[I 0,.string ⟨#[]⟩]),2,24):=by kernel_rfl
theorem Db (page:Int) (ps:List LM.Pt) (ao:Option Addr) (cap:Nat) (w:World) (h0:0<=page) (h1:page<=3000) (h:LM.Nq w ao ps) (hn:ps.length<=1000) (hf:∀k,k<ps.length->LM.T7 (LM.yl ps k)) :
  Calls Tryz.prog 163 #[I page,.slice ao ps.length cap] w fun e w'=>(∃v,e=.returned v/\w'.ownsRow w.heap.size 52 2 v (LM.gA page ps).length ((LM.gA page ps).flatMap LM.zL))/\Below w.heap.size w w':=by
 have HH:=ai h
 have HF:=ai hf
 clear h hf
 obtain⟨i0,hi,hz0,hz1,hz2⟩:=info_parts EZ
 go_enter Tryz.func163,Tryz.ntmps163
 go_wp2
 go_loopw [17,6] (fun i v wr=>∃k:Nat,k<=ps.length/\i=I k/\wr.ownsRow w.heap.size 52 2 v (LM.gA page (ps.take k)).length ((LM.gA page (ps.take k)).flatMap LM.zL)/\Below w.heap.size w wr) (fun i _ _=>ps.length-(intOf i).toNat)
 case atStart=>exact⟨0,by omega,rfl,World.ownsRow_nil _ _ _ _,Below.refl _ _⟩
 case round =>
  obtain⟨k,hk,rfl,hown,hb⟩:=hrel
  have HOW:=ai hown
  have iM:=ai hb
  have hsz:=hb.size
  by_cases hlt:k<ps.length
  · obtain⟨b,off,hao,hbl,bC⟩:=(HH.o.below hb) (by omega)
    subst hao
    obtain⟨c0,c1⟩:=bC k hlt
    obtain⟨f1,f2,f3⟩:=HF.o k hlt
    have HT:Hid (LM.gA page (ps.take (k+1))=LM.gA page (ps.take k)++LM.Fu page (LM.yl ps k)):=by
     show _=_
     rw[LM.H6 ps LM.YR k hlt,LM.Dc]
     rfl
    have hlen:=LM.zC page (ps.take k)
    rw[List.length_take] at hlen
    obtain⟨G,hG⟩:=ex (LM.gA page (ps.take k))
    rw[<- hG] at HOW HT hlen
    obtain⟨p,hp⟩:=ex (LM.yl ps k)
    rw[<- hp] at c0 c1 f1 f2 f3 HT
    clear hG hp bC hb hown
    obtain⟨P,Qi⟩:=p
    simp only at c0 c1 f1 f2 f3
    have cj:=ai (iM.o.alloc iM.o.size (.cells #[I P,.string Qi] 259))
    have qW:=ai ((Below.refl wr.heap.size wr).alloc (Nat.le_refl _) (.cells #[I P,.string Qi] 259))
    obtain⟨A,hA⟩:=ex (max (page*16) P)
    obtain⟨E,hE⟩:=ex (min (page*16+16) (P+8))
    have hAb:page*16<=A/\P<=A/\A<=1000000:=by omega
    have hEb:E<=page*16+16/\E<=P+8:=by omega
    have hA':max (page*16) P=A:=hA.symm
    have hE':min (page*16+16) (P+8)=E:=hE.symm
    have QH:Hid (LM.Fu page ⟨P,Qi⟩=if A<E then [⟨A-page*16,Qi.extract (A-P).toNat (A-P+(E-A)).toNat⟩] else []):=by
     show _=_
     unfold LM.Fu
     simp only
     rw[hA',hE']
    clear hA hE
    by_cases hAE:A<E
    · rw[QH.o,if_pos hAE] at HT
      obtain⟨u,hu⟩:∃u:Nat,A-P=(u:Int):=⟨(A-P).toNat,by omega⟩
      obtain⟨n,hn⟩:∃n:Nat,E-A=(n:Int):=⟨(E-A).toNat,by omega⟩
      have hun:(A-P+(E-A)).toNat=u+n:=by omega
      have hu2:(A-P).toNat=u:=by omega
      rw[hun,hu2] at HT
      have TM:Hid (∀V,Calls Tryz.prog 63 #[.string Qi,I (A-P),I (E-A)] V fun e w'=>e=.returned (.tuple #[.string (Qi.extract u (u+n)),I 0])/\Below V.heap.size V w'):=fun V=>by
       rw[hu,hn]
       exact CW.wL Qi u n V (by omega) (by omega)
      obtain⟨s,hs⟩:=ex (Qi.extract u (u+n))
      rw[<- hs] at TM HT
      clear hu hn hun hu2 hs QH
      have aad:¬E<=A:=by omega
      go_wp2_with (first
       | (go_at_call 63;refine(TM.o _).mono ?_;rintro e w1 ⟨rfl,hb⟩;have aZ:=ai (cj.o.trans (hb.mono cj.o.size));have WR:=ai ((sU HOW.o (qW.o.trans (hb.mono qW.o.size))).alloc (.cells #[I (A-page*16),.string s] 52));have Vf:=WR.o.lt;have x4:=ai (B.new w1 #[I (A-page*16),.string s] 52);have BP:=ai (B.below (B.new wr #[I P,.string Qi] 259) hb (by simp));have y0:=B.cell BP.o 0 rfl;have y1:=B.cell BP.o 1 rfl;clear hb)
       | (at_builtin;refine wpList_append_lies _ rfl _ _ 48 rfl w.heap.size 52 i0 (.agg #[I 0,.string ⟨#[]⟩]) 2 24 Tryz.underlying48 hi hz0 hz1 hz2 rfl (by decide) _ _ _ rfl WR.o (Ad w1.heap.size 0) 1 1 [I (A-page*16),.string s] rfl rfl (B.news x4.o) (by intro u hu;simp at hu;rcases hu with rfl | rfl <;> rfl) (by decide) (by unfold maxLen;omega) (by omega) (by have:=aZ.o.size;simp;omega) (w1.heap.size+1) (by simp) ?_;intro gg Wn w2 hown2 hgrow Ps tu;have Qu:=ai hown2;have bY:=ai ((aZ.o.alloc aZ.o.size (.cells #[I (A-page*16),.string s] 52)).grown hgrow (by have:=aZ.o.size;simp;omega) (fun q hq=>(Vf _ hq).1));clear hown2 hgrow Ps))
      go_roundw
      case rel=>exact⟨k+1,by omega,by go_num,by rw[HT.o,List.length_append,List.flatMap_append];exact Qu.o,bY.o⟩
      case measure=>simp[intOf];omega
    · rw[QH.o,if_neg hAE,List.append_nil] at HT
      have aad:E<=A:=by omega
      clear QH
      go_wp2
      go_roundw
      case rel=>exact⟨k+1,by omega,by go_num,by rw[HT.o];exact HOW.o.alloc _,cj.o⟩
      case measure=>simp[intOf];omega
  · obtain rfl:k=ps.length:=by omega
    rw[List.take_length] at HOW
    clear hown hb
    go_wp2
    go_ret
    exact⟨⟨_,rfl,HOW.o⟩,iM.o⟩
end LW
namespace KW
open Go.RowKit GK
open FW (ai aC)
theorem MS (d:ByteArray):d.toList.isEmpty=decide (d.size=0):=by
 rw[Go.ByteArray.toList_eq]
 obtain⟨⟨l⟩⟩:=d
 cases l with
 | nil=>rfl
 | cons a r=>rfl
theorem Ea (d:ByteArray):(d.toList=[])=(d.size=0):=by
 rw[Go.ByteArray.toList_eq]
 obtain⟨⟨l⟩⟩:=d
 cases l with
 | nil=>simp[ByteArray.size]
 | cons a r=>simp[ByteArray.size]
theorem wZ (f:KM.Fr) (w:World):Calls Tryz.prog 168 #[.agg #[.string f.data,I f.refs,.bool f.bW,.bool f.seen]] w fun e w'=>e=.returned (.bool (KM.sD f))/\Below w.heap.size w w':=by
 obtain⟨d,r,dy,sn⟩:=f
 unfold KM.sD
 simp only
 obtain⟨A,hA⟩:=ex (decide (d.size=0/\r=0/\dy=false/\sn=false))
 rw[<- hA]
 have HA:=ai hA
 clear hA
 go_enter Tryz.func168,Tryz.ntmps168
 go_wp2
 all_goals
  go_ret
  refine⟨congrArg (fun b=>Ending.returned (.bool b)) ?_,(Below.refl _ _).alloc (Nat.le_refl _) _⟩
  rw[HA.o]
  clear HA
  simp_all [Ea]
theorem zero_eq:LM.kP=KM.oH:=by decide
theorem oZ (hs:List LM.Sh) (p:Int) (z:Bool) (mb:Nat) (w:World) (hfl:∀n:Nat,n<256->w.cell? (Ad mb (5+n))=some (.string (KM.filled hs n))) (hp:0<=p/\p<256) :
  Calls Tryz.prog 119 #[.pointer (some (Ad mb 0)),I p,.bool z] w fun e w'=>e=.returned (.string (KM.dh hs p z))/\Below w.heap.size w w':=by
 have HZ:Hid (∀V,Calls Tryz.prog 155 #[.string ⟨#[0]⟩,I 16] V fun e w'=>e=.returned (.string KM.oH)/\Below V.heap.size V w'):=fun V=>by rw[<- zero_eq];exact LW.yK V
 cases z with
 | true =>
  have HF:Hid (KM.dh hs p true=KM.oH):=rfl
  rw[HF.o]
  clear hfl
  obtain⟨Z,hZ⟩:=ex KM.oH
  rw[<- hZ] at HZ ⊢
  clear hZ HF
  go_enter Tryz.func119,Tryz.ntmps119
  go_wp2_with (go_at_call 155;refine(HZ.o _).mono ?_;rintro e w1 ⟨rfl,hb1⟩;have aZ:=ai hb1;clear hb1)
  go_ret
  exact⟨rfl,aZ.o⟩
 | false =>
  obtain⟨n,rfl⟩:∃n:Nat,p=(n:Int):=⟨p.toNat,by omega⟩
  have q:=hfl n (by omega)
  have HF:Hid (KM.dh hs (n:Int) false=KM.filled hs n):=rfl
  rw[HF.o]
  obtain⟨D,hD⟩:=ex (KM.filled hs (n:Int))
  rw[<- hD] at q ⊢
  have n0:=hp.1
  have n1:=hp.2
  clear hD HF hfl HZ
  go_enter Tryz.func119,Tryz.ntmps119
  go_wp2
  go_ret
  exact⟨rfl,Below.refl _ _⟩
theorem fF {P:Program} {f:FuncId} {args:Array Value} {v:Value} {w:World} (x:Q.eU w.heap.size w) (h:∀W,Below w.heap.size w W->Calls P f args W fun e w'=>e=.returned v/\Below W.heap.size W w') :
  Calls P f args x.world fun e w''=>e=.returned v/\∃y:Q.eU w.heap.size w,w''=y.world :=
 (h x.world x.keeps).mono fun e w'' ⟨he,hb⟩=>⟨he,⟨w'',x.keeps.trans (hb.mono x.keeps.size)⟩,rfl⟩
theorem Rh (x y:ByteArray):(x.toList==y.toList)=decide (x=y):=by
 rw[Go.ByteArray.toList_eq,Go.ByteArray.toList_eq]
 by_cases c:x=y
 · rw[decide_eq_true c,c];exact beq_self_eq_true _
 · rw[decide_eq_false c,beq_eq_false_iff_ne]
   exact fun e=>c (by cases x;cases y;congr 1;exact Array.toList_inj.1 e)
theorem wE (hs:List LM.Sh) (f:KM.Fr) (u:KM.Us) (mb:Nat) (w:World) (hmb:mb<w.heap.size) (hfl:∀n:Nat,n<256->w.cell? (Ad mb (5+n))=some (.string (KM.filled hs n))) (hp:u.refs≠0->0<=u.page/\u.page<256) (hd:M.br f.data.size) :
  Calls Tryz.prog 151 #[.pointer (some (Ad mb 0)),.agg #[.string f.data,I f.refs,.bool f.bW,.bool f.seen],.agg #[I u.refs,I u.page,.bool u.zero]] w fun e w'=>e=.returned (.bool (KM.fq hs f u))/\Below w.heap.size w w':=by
 obtain⟨A,hA⟩:=ex (KM.fq hs f u)
 rw[<- hA]
 unfold KM.fq at hA
 have HA:=ai hA
 have Yx:=ai (fun V=>wZ f V)
 obtain⟨IZ,hIZ⟩:=ex (KM.sD f)
 rw[<- hIZ] at HA Yx
 clear hIZ
 obtain⟨d,r,dy,sn⟩:=f
 obtain⟨ur,up,uz⟩:=u
 simp only at HA Yx hp hd ⊢
 unfold M.br at hd
 have HB:=ai (((Below.refl w.heap.size w).alloc (Nat.le_refl _) (.cells #[.string d,I r,.bool dy,.bool sn] 40)).alloc (by simp) (.cells #[I ur,I up,.bool uz] 211))
 have QD:=ai hfl
 clear hA hfl
 by_cases c:ur=0
 · subst c
   rw[if_pos rfl] at HA
   go_enter Tryz.func151,Tryz.ntmps151
   go_wp2_with (go_at_call 168;refine(Yx.o _).mono ?_;rintro e w1 ⟨rfl,hb1⟩;have aZ:=ai (aC HB.o hb1);clear hb1)
   go_ret
   exact⟨congrArg (fun b=>Ending.returned (.bool b)) HA.o.symm,aZ.o⟩
 · rw[if_neg c] at HA
   have cb:(ur==0)=false:=by simpa using c
   have u6:=hp c
   clear Yx hp
   by_cases c1:r=ur
   · have c1b:(r != ur)=false:=by simpa using c1
     by_cases c2:d.size=16
     · have c2i:((d.size:Int) != 16)=false:=by rw[bne_eq_false_iff_eq];omega
       have ma:Hid (A=(dy || decide (d=KM.dh hs up uz))):=by show _=_;rw[HA.o,decide_eq_true ⟨c1,c2⟩,Bool.true_and]
       have ky:Hid (∀V,Below w.heap.size w V->Calls Tryz.prog 119 #[.pointer (some (Ad mb 0)),I up,.bool uz] V fun e w'=>e=.returned (.string (KM.dh hs up uz))/\Below V.heap.size V w'):=fun V hV=>oZ hs up uz mb V (fun n hn=>(hV.cell (p:=(Ad mb (5+n))) hmb).trans (QD.o n hn)) u6
       obtain⟨FK,We⟩:=ex (KM.dh hs up uz)
       rw[<- We] at ma ky
       have BF:=ai (B.alloc (B.new w #[.string d,I r,.bool dy,.bool sn] 40) (.cells #[I ur,I up,.bool uz] 211))
       have BU:=ai (B.new (w.alloc (.cells #[.string d,I r,.bool dy,.bool sn] 40)) #[I ur,I up,.bool uz] 211)
       rw[World.size_alloc] at BU
       clear We HA c c1 c2
       go_enter Tryz.func151,Tryz.ntmps151
       go_wp2_with fail
       obtain⟨W,hW⟩:=ex ((w.alloc (.cells #[.string d,I r,.bool dy,.bool sn] 40)).alloc (.cells #[I ur,I up,.bool uz] 211))
       rw[<- hW] at HB BF BU ⊢
       have mN:=Q.dO W
       have k0:∀x:Q.eU W.heap.size W,x.world.cell? (Ad w.heap.size 0)=some (.string d):=fun x=>by rw[Q.cC x _ _ (B.isLt BF.o)];exact B.cell BF.o 0 rfl
       have k2:∀x:Q.eU W.heap.size W,x.world.cell? (Ad w.heap.size 2)=some (.bool dy):=fun x=>by rw[Q.cC x _ _ (B.isLt BF.o)];exact B.cell BF.o 2 rfl
       have l1:∀x:Q.eU W.heap.size W,x.world.cell? (Ad (w.heap.size+1) 1)=some (I up):=fun x=>by rw[Q.cC x _ _ (B.isLt BU.o)];exact B.cell BU.o 1 rfl
       have l2:∀x:Q.eU W.heap.size W,x.world.cell? (Ad (w.heap.size+1) 2)=some (.bool uz):=fun x=>by rw[Q.cC x _ _ (B.isLt BU.o)];exact B.cell BU.o 2 rfl
       have Xd:=ai (fun V (hV:Below W.heap.size W V)=>ky.o V (HB.o.trans (hV.mono HB.o.size)))
       clear hW ky BF BU
       cases dy with
       | true =>
        have oF:Hid (A=true):=ma
        clear ma
        refine Q.bc (by kernel_rfl) (by kernel_rfl) ?_
        repeat (first | go_big_quiet_step (fail) | quiet_step (fail))
        refine wpQuiet_nil ?_
        rintro _ ⟨x,rfl⟩
        go_wp2
        go_ret
        exact⟨congrArg (fun b=>Ending.returned (.bool b)) oF.o.symm,HB.o.trans (x.keeps.mono HB.o.size)⟩
       | false =>
        have oF:Hid (A=(d.toList==FK.toList)):=by show _=_;rw[ma.o,Rh];rfl
        clear ma
        refine Q.bc (by kernel_rfl) (by kernel_rfl) ?_
        repeat (first | go_big_quiet_step ((go_at_call 119;exact fF _ Xd.o)) | quiet_step ((go_at_call 119;exact fF _ Xd.o)))
        refine wpQuiet_nil ?_
        rintro _ ⟨x,rfl⟩
        go_wp2
        go_ret
        exact⟨congrArg (fun b=>Ending.returned (.bool b)) oF.o.symm,HB.o.trans (x.keeps.mono HB.o.size)⟩
     · have c2i:((d.size:Int) != 16)=true:=by rw[bne_iff_ne];omega
       have ma:Hid (A=false):=by show _=_;rw[HA.o,decide_eq_false (fun g=>c2 g.2),Bool.false_and]
       clear HA c c1 c2
       go_enter Tryz.func151,Tryz.ntmps151
       go_wp2
       go_ret
       exact⟨congrArg (fun b=>Ending.returned (.bool b)) ma.o.symm,HB.o⟩
   · have c1b:(r != ur)=true:=by simpa using c1
     have ma:Hid (A=false):=by show _=_;rw[HA.o,decide_eq_false (fun g=>c1 g.1),Bool.false_and]
     clear HA c c1
     go_enter Tryz.func151,Tryz.ntmps151
     go_wp2
     go_ret
     exact⟨congrArg (fun b=>Ending.returned (.bool b)) ma.o.symm,HB.o⟩
theorem Nf {n:Nat} {p:Nat->Bool} {i:Nat} (hi:i<n) (h:p i=false):(List.range n).all p=false:=by
 cases q:(List.range n).all p with
 | false=>rfl
 | true=>rw[List.all_eq_true] at q;rw[q i (List.mem_range.2 hi)] at h;cases h
theorem He {n:Nat} {p:Nat->Bool} (h:∀i,i<n->p i=true):(List.range n).all p=true:=by
 rw[List.all_eq_true];exact fun i hi=>h i (List.mem_range.1 hi)
theorem uV (hs:List LM.Sh) (fs:List KM.Fr) (us:List KM.Us) (aF:Option Addr) (cF mb lo g cap:Nat) (w:World) (hF:aU bE 4 KM.l9 w aF fs) (hU:gM lo w g fs.length cap us) (hmb:mb<w.heap.size) (jE:w.cell? (Ad mb 1)=some (.slice aF fs.length cF)) (hfl:∀n:Nat,n<256->w.cell? (Ad mb (5+n))=some (.string (KM.filled hs n))) (hp:∀i,i<fs.length->(KM.cQ us i).refs≠0->0<=(KM.cQ us i).page/\(KM.cQ us i).page<256) (hd:∀i,i<fs.length->M.br (KM.aD fs i).data.size) (hn:fs.length<=64) :
  Calls Tryz.prog 113 #[.pointer (some (Ad mb 0)),.slice (some (Ad g 0)) fs.length cap] w fun e w'=>e=.returned (.bool ((List.range fs.length).all fun i=>KM.fq hs (KM.aD fs i) (KM.cQ us i)))/\Below w.heap.size w w':=by
 have HH:=ai hF
 have HU:=ai hU
 have hg:=hU.lt.2
 have sk:Hid (∀i,i<fs.length->∀V,Below w.heap.size w V->Calls Tryz.prog 151 #[.pointer (some (Ad mb 0)),.agg #[.string (KM.aD fs i).data,I (KM.aD fs i).refs,.bool (KM.aD fs i).bW,.bool (KM.aD fs i).seen],.agg #[I (KM.cQ us i).refs,I (KM.cQ us i).page,.bool (KM.cQ us i).zero]] V fun e w'=>e=.returned (.bool (KM.fq hs (KM.aD fs i) (KM.cQ us i)))/\Below V.heap.size V w'):=fun i hi V hV=>wE hs _ _ mb V (Nat.lt_of_lt_of_le hmb hV.size) (fun n hn=>(hV.cell (p:=(Ad mb (5+n))) hmb).trans (hfl n hn)) (hp i hi) (hd i hi)
 have gP:=ai (fun i (hi:i<fs.length)=>@Nf fs.length (fun i=>KM.fq hs (KM.aD fs i) (KM.cQ us i)) i hi)
 have ov:=ai (@He fs.length (fun i=>KM.fq hs (KM.aD fs i) (KM.cQ us i)))
 obtain⟨A,hA⟩:=ex ((List.range fs.length).all fun i=>KM.fq hs (KM.aD fs i) (KM.cQ us i))
 rw[<- hA] at gP ov ⊢
 obtain⟨n,hnn⟩:=ex fs.length
 rw[<- hnn] at HU sk gP ov jE hn ⊢
 have WT:=ai hnn
 clear hF hU hfl hp hd hA hnn
 go_enter Tryz.func113,Tryz.ntmps113
 go_wp2
 go_loopw [13] (fun iv wr=>∃k:Nat,k<=n/\iv=I (k:Int)/\Below w.heap.size w wr/\∀i,i<k->KM.fq hs (KM.aD fs i) (KM.cQ us i)=true) (fun iv _=>n-(intOf iv).toNat)
 case atStart=>exact⟨0,by omega,rfl,Below.refl _ _,fun i hi=>by omega⟩
 case round =>
  obtain⟨k,hk,rfl,hb,oV⟩:=hrel
  have HB:=ai hb
  have HP:=ai oV
  clear oV
  by_cases hlt:k<n
  · obtain⟨fb,fo,hao,hbl,bC⟩:=HH.o (by rw[<- WT.o];omega)
    subst hao
    have ce:∀j,j<4->wr.cell? (Ad fb (fo+k*4+j))=(bE (KM.aD fs k))[j]?:=fun j hj=>(hb.cell (p:=(Ad fb (fo+k*4+j))) hbl).trans (bC k (by rw[<- WT.o];exact hlt) j hj)
    have y0:=ce 0 (by omega)
    have y1:=ce 1 (by omega)
    have y2:=ce 2 (by omega)
    have y3:=ce 3 (by omega)
    rw[Nat.add_zero] at y0
    obtain⟨z0,z1,z2⟩:=HU.o.at k hlt
    have sk:=ai (sk.o k hlt)
    have gP:=ai (gP.o k hlt)
    have zS:Hid (KM.fq hs (KM.aD fs k) (KM.cQ us k)=true->∀i,i<k+1->KM.fq hs (KM.aD fs i) (KM.cQ us i)=true):=fun g i hi=>by
     by_cases e:i=k
     · rw[e];exact g
     · exact HP.o i (by omega)
    obtain⟨R,hR⟩:=ex (KM.fq hs (KM.aD fs k) (KM.cQ us k))
    have gP:Hid (R=false->A=false):=fun g=>gP.o (by rw[<- hR];exact g)
    rw[<- hR] at sk zS
    obtain⟨f,hf⟩:=ex (KM.aD fs k)
    obtain⟨u,hu⟩:=ex (KM.cQ us k)
    rw[<- hf] at sk y0 y1 y2 y3
    rw[<- hu] at sk z0 z1 z2
    obtain⟨d,r,dy,sn⟩:=f
    obtain⟨ur,up,uz⟩:=u
    simp only at sk z0 z1 z2
    have x0:wr.cell? (Ad fb (fo+k*4))=some (.string d):=y0
    have x1:wr.cell? (Ad fb (fo+k*4+1))=some (I r):=y1
    have x2:wr.cell? (Ad fb (fo+k*4+2))=some (.bool dy):=y2
    have x3:wr.cell? (Ad fb (fo+k*4+3))=some (.bool sn):=y3
    have Pp:=hb.size
    have qY:¬fb=wr.heap.size:=by omega
    have cj:=ai (HB.o.alloc HB.o.size (.cells #[.string d,I r,.bool dy,.bool sn] 40))
    have BF:=ai (B.new wr #[.string d,I r,.bool dy,.bool sn] 40)
    clear hR hf hu y0 y1 y2 y3 ce bC hb ov
    go_wp2_with fail
    obtain⟨W,hW⟩:=ex (wr.alloc (.cells #[.string d,I r,.bool dy,.bool sn] 40))
    rw[<- hW] at cj BF ⊢
    obtain⟨sb,oU⟩:=ex wr.heap.size
    rw[<- oU] at BF ⊢
    clear hW oU x0 x1 x2 x3 qY
    have mN:=Q.dO W
    have k0:∀x:Q.eU W.heap.size W,x.world.cell? (Ad sb 0)=some (.string d):=fun x=>by rw[Q.cC x _ _ (B.isLt BF.o)];exact B.cell BF.o 0 rfl
    have k1:∀x:Q.eU W.heap.size W,x.world.cell? (Ad sb 1)=some (I r):=fun x=>by rw[Q.cC x _ _ (B.isLt BF.o)];exact B.cell BF.o 1 rfl
    have k2:∀x:Q.eU W.heap.size W,x.world.cell? (Ad sb 2)=some (.bool dy):=fun x=>by rw[Q.cC x _ _ (B.isLt BF.o)];exact B.cell BF.o 2 rfl
    have k3:∀x:Q.eU W.heap.size W,x.world.cell? (Ad sb 3)=some (.bool sn):=fun x=>by rw[Q.cC x _ _ (B.isLt BF.o)];exact B.cell BF.o 3 rfl
    have ZH:g<W.heap.size:=by have:=cj.o.size;omega
    have l0:∀x:Q.eU W.heap.size W,x.world.cell? (Ad g (k*3))=some (I ur):=fun x=>by rw[Q.cC x _ _ ZH];exact(cj.o.cell (p:=(Ad g (k*3))) hg).trans z0
    have l1:∀x:Q.eU W.heap.size W,x.world.cell? (Ad g (k*3+1))=some (I up):=fun x=>by rw[Q.cC x _ _ ZH];exact(cj.o.cell (p:=(Ad g (k*3+1))) hg).trans z1
    have l2:∀x:Q.eU W.heap.size W,x.world.cell? (Ad g (k*3+2))=some (.bool uz):=fun x=>by rw[Q.cC x _ _ ZH];exact(cj.o.cell (p:=(Ad g (k*3+2))) hg).trans z2
    have TJ:=ai (fun V (hV:Below W.heap.size W V)=>sk.o V (cj.o.trans (hV.mono cj.o.size)))
    have GJ:(0:Int)<=(k:Int):=by omega
    have GI:(k:Int)<(n:Int):=by omega
    clear sk BF z0 z1 z2
    refine Q.bc (by kernel_rfl) (by kernel_rfl) ?_
    repeat (first | go_big_quiet_step ((go_at_call 151;exact fF _ TJ.o)) | quiet_step ((go_at_call 151;exact fF _ TJ.o)))
    refine wpQuiet_nil ?_
    rintro _ ⟨x,rfl⟩
    have n7:=ai (cj.o.trans (x.keeps.mono cj.o.size))
    clear k0 k1 k2 k3 l0 l1 l2 TJ
    cases R with
    | false =>
     have HA:=ai (gP.o rfl)
     go_wp2
     go_ret
     exact⟨congrArg (fun b=>Ending.returned (.bool b)) HA.o.symm,n7.o⟩
    | true =>
     have Bj:=ai (zS.o rfl)
     clear zS gP
     go_wp2
     go_roundw
     case rel=>exact⟨k+1,by omega,by go_num,n7.o,Bj.o⟩
     case measure=>simp[intOf];omega
  · obtain rfl:k=n:=by omega
    have HA:=ai (ov.o HP.o)
    clear hb
    go_wp2
    go_ret
    exact⟨congrArg (fun b=>Ending.returned (.bool b)) HA.o.symm,HB.o⟩
theorem wD (fs:List KM.Sl) (us:List KM.Us) (aF:Option Addr) (cF mb lo g cap:Nat) (w:World) (hF:aU bD 2 KM.xY w aF fs) (hU:gM lo w g fs.length cap us) (jE:w.cell? (Ad mb 2)=some (.slice aF fs.length cF)) (hr:∀i,i<fs.length->0<=(KM.cQ us i).refs) (hd:∀i,i<fs.length->M.br (KM.bk fs i).data.size) (hn:fs.length<=512) :
  Calls Tryz.prog 114 #[.pointer (some (Ad mb 0)),.slice (some (Ad g 0)) fs.length cap] w fun e w'=>e=.returned (.bool ((List.range fs.length).all fun i=>KM.gF (KM.bk fs i) (KM.cQ us i)))/\Below w.heap.size w w':=by
 have HH:=ai hF
 have HU:=ai hU
 have hg:=hU.lt.2
 have gP:=ai (fun i (hi:i<fs.length)=>@Nf fs.length (fun i=>KM.gF (KM.bk fs i) (KM.cQ us i)) i hi)
 have ov:=ai (@He fs.length (fun i=>KM.gF (KM.bk fs i) (KM.cQ us i)))
 have HR:=ai hr
 have HD:=ai hd
 obtain⟨A,hA⟩:=ex ((List.range fs.length).all fun i=>KM.gF (KM.bk fs i) (KM.cQ us i))
 rw[<- hA] at gP ov ⊢
 obtain⟨n,hnn⟩:=ex fs.length
 rw[<- hnn] at HU gP ov HR HD jE hn ⊢
 have WT:=ai hnn
 clear hF hU hr hd hA hnn
 go_enter Tryz.func114,Tryz.ntmps114
 go_wp2
 go_loopw [14] (fun iv wr=>∃k:Nat,k<=n/\iv=I (k:Int)/\Below w.heap.size w wr/\∀i,i<k->KM.gF (KM.bk fs i) (KM.cQ us i)=true) (fun iv _=>n-(intOf iv).toNat)
 case atStart=>exact⟨0,by omega,rfl,Below.refl _ _,fun i hi=>by omega⟩
 case round =>
  obtain⟨k,hk,rfl,hb,oV⟩:=hrel
  have HB:=ai hb
  have HP:=ai oV
  clear oV
  by_cases hlt:k<n
  · obtain⟨fb,fo,hao,hbl,bC⟩:=HH.o (by rw[<- WT.o];omega)
    subst hao
    have ce:∀j,j<2->wr.cell? (Ad fb (fo+k*2+j))=(bD (KM.bk fs k))[j]?:=fun j hj=>(hb.cell (p:=(Ad fb (fo+k*2+j))) hbl).trans (bC k (by rw[<- WT.o];exact hlt) j hj)
    have y0:=ce 0 (by omega)
    have y1:=ce 1 (by omega)
    rw[Nat.add_zero] at y0
    obtain⟨a0,_,_⟩:=HU.o.at k hlt
    have z0:=(hb.cell (p:=(Ad g (k*3))) hg).trans a0
    have L9:=HR.o k hlt
    have ZO:=HD.o k hlt
    unfold M.br at ZO
    have gP:=ai (gP.o k hlt)
    have zS:Hid (KM.gF (KM.bk fs k) (KM.cQ us k)=true->∀i,i<k+1->KM.gF (KM.bk fs i) (KM.cQ us i)=true):=fun g i hi=>by
     by_cases e:i=k
     · rw[e];exact g
     · exact HP.o i (by omega)
    unfold KM.gF KM.nt at gP zS
    obtain⟨f,hf⟩:=ex (KM.bk fs k)
    obtain⟨u,hu⟩:=ex (KM.cQ us k)
    have Bj:Hid ((if u.refs=0 then decide (f.data.size=0/\f.refs=0) else decide (f.refs=u.refs/\f.data.size=16))=true->∀i,i<k+1->KM.gF (KM.bk fs i) (KM.cQ us i)=true):=by rw[hf,hu];exact zS
    have nZ:Hid ((if u.refs=0 then decide (f.data.size=0/\f.refs=0) else decide (f.refs=u.refs/\f.data.size=16))=false->A=false):=by rw[hf,hu];exact gP
    rw[<- hf] at y0 y1 ZO
    rw[<- hu] at z0 L9
    obtain⟨d,r⟩:=f
    obtain⟨ur,up,uz⟩:=u
    simp only at Bj nZ z0 L9 ZO
    have x0:wr.cell? (Ad fb (fo+k*2))=some (.string d):=y0
    have x1:wr.cell? (Ad fb (fo+k*2+1))=some (I r):=y1
    have Pp:=hb.size
    have qY:¬fb=wr.heap.size:=by omega
    have hgb:¬g=wr.heap.size:=by omega
    have cj:=ai (HB.o.alloc HB.o.size (.cells #[.string d,I r] 86))
    have GJ:(0:Int)<=(k:Int):=by omega
    have GI:(k:Int)<(n:Int):=by omega
    have zA:(wr.alloc (.cells #[.string d,I r] 86)).cell? (Ad g (k*3))=some (I ur):=(Below.cell ((Below.refl wr.heap.size wr).alloc (Nat.le_refl _) _) (p:=(Ad g (k*3))) (by show g<_;omega)).trans z0
    clear hf hu y0 y1 ce bC hb ov zS gP a0
    by_cases c:ur=0
    · subst c
      rw[if_pos rfl] at Bj nZ
      rcases(show(d.toList=[]/\r=0)∨(d.toList=[]/\¬r=0)∨¬d.toList=[] by
       by_cases a:d.toList=[]
       · by_cases b:r=0
         · exact .inl ⟨a,b⟩
         · exact .inr (.inl ⟨a,b⟩)
       · exact .inr (.inr a)) with⟨g1,g2⟩ | ⟨g1,g2⟩ | g1
      · have HP4:=ai (Bj.o (by rw[Ea] at g1;exact decide_eq_true ⟨g1,g2⟩))
        subst g2
        clear Bj nZ
        go_wp2
        go_roundw
        case rel=>exact⟨k+1,by omega,by go_num,cj.o,HP4.o⟩
        case measure=>simp[intOf];omega
      · have HA:=ai (nZ.o (decide_eq_false (fun x=>g2 x.2)))
        clear Bj nZ
        go_wp2
        go_ret
        exact⟨congrArg (fun b=>Ending.returned (.bool b)) HA.o.symm,cj.o⟩
      · have HA:=ai (nZ.o (decide_eq_false (fun x=>g1 (by rw[Ea];exact x.1))))
        clear Bj nZ
        go_wp2
        go_ret
        exact⟨congrArg (fun b=>Ending.returned (.bool b)) HA.o.symm,cj.o⟩
    · rw[if_neg c] at Bj nZ
      have cb:(ur==0)=false:=by simpa using c
      have cp:0<ur:=by omega
      rcases(show(r=ur/\d.size=16)∨(r=ur/\¬d.size=16)∨¬r=ur by omega) with⟨g1,g2⟩ | ⟨g1,g2⟩ | g1
      · have HP4:=ai (Bj.o (decide_eq_true ⟨g1,g2⟩))
        have b1:(r != ur)=false:=by simpa using g1
        have b2:((d.size:Int) != 16)=false:=by rw[bne_eq_false_iff_eq];omega
        clear Bj nZ g1 g2 c
        go_wp2
        go_roundw
        case rel=>exact⟨k+1,by omega,by go_num,cj.o,HP4.o⟩
        case measure=>simp[intOf];omega
      · have HA:=ai (nZ.o (decide_eq_false (fun x=>g2 x.2)))
        have b1:(r != ur)=false:=by simpa using g1
        have b2:((d.size:Int) != 16)=true:=by rw[bne_iff_ne];omega
        clear Bj nZ g1 g2 c
        go_wp2
        go_ret
        exact⟨congrArg (fun b=>Ending.returned (.bool b)) HA.o.symm,cj.o⟩
      · have HA:=ai (nZ.o (decide_eq_false (fun x=>g1 x.1)))
        have b1:(r != ur)=true:=by simpa using g1
        clear Bj nZ g1 c
        go_wp2
        go_ret
        exact⟨congrArg (fun b=>Ending.returned (.bool b)) HA.o.symm,cj.o⟩
  · obtain rfl:k=n:=by omega
    have HA:=ai (ov.o HP.o)
    clear hb
    go_wp2
    go_ret
    exact⟨congrArg (fun b=>Ending.returned (.bool b)) HA.o.symm,HB.o⟩
end KW
namespace GK
open Go.RowKit
theorem jY {P:Program} (w:World) (dT sT ty elem:TypeId) (size:Nat) (hu:P.underlying dT=some (.slice elem)) (hsz:∀w,(sizeOf elem).run P w=.ok size w) (g off dLen dCap:Nat) (sp:Option Addr) (sLen sCap:Nat)
  (cur:List Value) (t:TypeId) (hg:w.heap[g]?=some (.cells cur.toArray t (0,0))) (cs:List Value) (hn:cs.length=Nat.min sLen dLen*size) (hsrc:0<cs.length->∃ad,sp=some ad/\∀j v,cs[j]?=some v->w.cell? (ad.add j)=some v)
  (hfit:off+cs.length<=cur.length) (h1:∀v∈cs,v.oneCell'=true) :
  (Builtin.copy_ #[dT,sT] ty #[.slice (some (Ad g off)) dLen dCap,.slice sp sLen sCap]).run P w=.ok (goInt (Nat.min sLen dLen)) (w.setRow g (splice cur off cs).toArray):=by
 have hst:=run_storeCells_at (P:=P) g off t cs 0 cur.toArray w hg (by simpa using hfit) h1
 have hfc:(Builtin.firstCells size (Nat.min sLen dLen) (.slice sp sLen sCap)).run P w=.ok cs.toArray w:=by
  by_cases h0:0<cs.length
  · obtain⟨ad,rfl,hc⟩:=hsrc h0
    exact run_firstCells_some w size (Nat.min sLen dLen) ad sLen sCap cs hn hc
  · have hcs:cs=[]:=List.eq_nil_of_length_eq_zero (by omega)
    subst hcs
    cases sp with
    | none=>exact run_firstCells_none w size _ _ _
    | some ad=>exact run_firstCells_some w size (Nat.min sLen dLen) ad sLen sCap [] hn (fun j v h=>by cases h)
 simp only[Nat.add_zero] at hst
 unfold Builtin.copy_
 simp[run_underlying hu,Builtin.lenOf,hsz,hfc,hst,splice]
def eD (z:List Value):Nat->List Value
 | 0=>[]
 | n+1=>z++eD z n
theorem eJ (z:List Value):∀n,(eD z n).length=n*z.length
 | 0=>by simp[eD]
 | n+1=>by rw[eD,List.length_append,eJ z n,Nat.succ_mul,Nat.add_comm]
theorem oG (z:List Value):∀(n j:Nat),j<n*z.length->(eD z n)[j]?=z[j%z.length]?
 | 0,j,h=>by omega
 | n+1,j,h=>by
  have hz:0<z.length:=by
   rcases Nat.eq_zero_or_pos z.length with g | g
   · rw[g] at h;omega
   · exact g
  rw[eD]
  by_cases c:j<z.length
  · rw[List.getElem?_append_left c,Nat.mod_eq_of_lt c]
  · rw[List.getElem?_append_right (by omega),oG z n (j-z.length) (by rw[Nat.succ_mul] at h;omega),<- Nat.mod_eq_sub_mod (by omega)]
theorem qm (z:Array Value) (n:Nat) (hz:0<z.size):(Builtin.zeroCells z n).toList=eD z.toList n:=by
 apply List.ext_getElem?
 intro j
 by_cases c:j<n*z.size
 · rw[oG z.toList n j (by simpa using c)]
   unfold Builtin.zeroCells
   have hm:j%z.size<z.size:=Nat.mod_lt _ hz
   simp[c,hm,getElem!_pos]
 · rw[List.getElem?_eq_none (by simp[Builtin.zeroCells];omega),List.getElem?_eq_none (by rw[eJ];simp;omega)]
theorem tP (z:List Value) (h:∀u∈z,u.oneCell'=true):∀n,∀u∈eD z n,u.oneCell'=true
 | 0,u,hu=>by cases hu
 | n+1,u,hu=>by
  rcases List.mem_append.1 hu with g | g
  · exact h u g
  · exact tP z h n u g
theorem vZ {P:Program} (w:World) (t ty elem:TypeId) (z:Value) (hu:P.underlying t=some (.slice elem)) (hv:∀w,(zeroValue elem).run P w=.ok z w) (hz:0<z.cells.size) (h1:∀u∈z.cells.toList,u.oneCell'=true) (g off n c:Nat)
  (cur:List Value) (te:TypeId) (hg:w.heap[g]?=some (.cells cur.toArray te (0,0))) (hfit:off+n*z.cells.size<=cur.length) :
  (Builtin.clear_ #[t] ty #[.slice (some (Ad g off)) n c]).run P w=.ok (.tuple #[]) (w.setRow g (splice cur off (eD z.cells.toList n)).toArray):=by
 have hzl:(eD z.cells.toList n).length=n*z.cells.size:=by rw[eJ];simp
 have hst:=run_storeCells_at (P:=P) g off te (eD z.cells.toList n) 0 cur.toArray w hg (by simp[hzl];omega) (tP _ h1 n)
 simp only[Nat.add_zero] at hst
 cases n with
 | zero =>
  unfold Builtin.clear_
  have e:splice cur off (eD z.cells.toList 0)=cur:=by simp[splice,eD]
  rw[e,setRow_self w g cur.toArray te (0,0) hg]
  simp[run_underlying hu]
 | succ n =>
  unfold Builtin.clear_
  simp[run_underlying hu,hv,qm z.cells (n+1) hz,hst,splice]
end GK
namespace KW
open Go.RowKit GK
open FW (ai aC)
theorem Sr:(Tryz.prog.info? 211).map (fun i=>(i.zero,i.size,i.bytes))=some (some (.agg #[I 0,I 0,.bool false]),3,24):=by kernel_rfl
theorem Tq (a b c d e:Value):Tryz.prog.built 104 [(0,.agg #[a,b,c,d,e])]=some (l7 a b c d e ml):=by kernel_rfl
theorem zW {P:Program} {ops:Array Oper} {rest:List Oper} {o:Oper} {a:Act} {w:World} {Q:Exit->Act->World->Prop} (hg:o.guard=none) (t:TypeId) (x:Operand) (ho:o.op=.build t #[(0,x)]) (v:Value) (hx:a.eval x=v) (cells:Array Value) (hb:P.built t [(0,v)]=some cells) (h:wpList P ops Q rest (a.put o.dst (.agg cells)) w):wpList P ops Q (o::rest) a w :=
 wpList_build hg t #[(0,x)] ho (by simp[hx,hb]) (by simpa [hx,hb] using h)
def zu (n:Nat):Array Value:=madeCells #[I 0,I 0,.bool false] (n*3)
theorem UM (V:World) (n:Nat) (hn:n<=1000):(Instr.makeSlice 162 (I (n:Int)) (I (n:Int))).run Tryz.prog V=.ok (.slice (some (Ad V.heap.size 0)) n n) (V.alloc (.cells (zu n) 211)):=by
 obtain⟨i0,hi,hz0,hz1,hz2⟩:=info_parts Sr
 have h:=run_make (P:=Tryz.prog) V 162 211 i0 (.agg #[I 0,I 0,.bool false]) Tryz.underlying162 hi hz0 .i64 .i64 (n:Int) (n:Int) (by omega) (Int.le_refl _) (by rw[hz2];omega) (by omega)
 rw[hz1,Int.toNat_natCast] at h
 exact h
theorem QO:∀n,eD [I 0,I 0,.bool false] n=(List.replicate n KM.gz).flatMap o7
 | 0=>rfl
 | n+1=>by rw[eD,QO n,List.replicate_succ,List.flatMap_cons];rfl
theorem Kl (n:Nat):(zu n).toList=(List.replicate n KM.gz).flatMap o7:=by
 rw[<- QO]
 apply List.ext_getElem?
 intro j
 by_cases c:j<n*3
 · rw[oG [I 0,I 0,.bool false] n j c]
   unfold zu madeCells
   have hm:j%3<3:=Nat.mod_lt _ (by omega)
   have h3:j%3=0∨j%3=1∨j%3=2:=by omega
   rcases h3 with h | h | h <;> simp[c,h]
 · rw[List.getElem?_eq_none (by simp[zu,madeCells];omega),List.getElem?_eq_none (by rw[eJ];simp;omega)]
theorem zU (n:Nat):(zu n).size=n*3:=by simp[zu,madeCells]
theorem zV (lo:Nat) (V:World) (n:Nat) (hl:lo<=V.heap.size) (hn:n<=1000):gM lo (V.alloc (.cells (zu n) 211)) V.heap.size n n (List.replicate n KM.gz):=by
 refine⟨List.length_replicate,?_⟩
 rw[<- Kl]
 refine⟨by rw[Array.length_toList,zU],.inr ⟨V.heap.size,n,zu n,rfl,hl,B.new V (zu n) _,Nat.le_refl _,?_,by rw[zU],?_⟩⟩
 · unfold maxLen;omega
 · rw[List.take_of_length_le (by rw[Array.length_toList,zU];exact Nat.le_refl _)]
end KW
namespace AW
open Go.RowKit
theorem Ew (l:List AM.Ar) (b off cap:Nat) (w:World) (hl:AM.zP w b off l) (hc:AM.aO l=0) :
  Calls Tryz.prog 61 #[.slice (some (Ad b off)) l.length cap] w fun e w'=>e=.returned (I (AM.sumTo l l.length))/\Below w.heap.size w w':=by
 have hlen:=AM.gm l hc
 have HK:Hid (AM.aO l=0):=hc
 clear hc
 go_enter Tryz.func61,Tryz.ntmps61
 go_wp2
 go_loopw [3,4] (fun s i wr=>∃k:Nat,k<=l.length/\i=I k/\s=I (AM.sumTo l k)/\Below w.heap.size w wr) (fun _ i _=>l.length-(intOf i).toNat)
 case atStart=>exact⟨0,by omega,rfl,rfl,Below.refl _ _⟩
 case round =>
  obtain⟨k,hk,rfl,rfl,hb⟩:=hrel
  have Bu:=AM.rp l HK.o k hk
  by_cases hlt:k<l.length
  · obtain⟨c0,c1,c2,c3⟩:=(hl.below hb) k hlt
    have hsu:Hid (AM.sumTo l (k+1)=AM.sumTo l k+(AM.at_ l k).aB):=rfl
    have hbk:=AM.cM l k (AM.cH l HK.o k hlt)
    obtain⟨a,ha⟩:=ex (AM.at_ l k)
    rw[<- ha] at c0 c1 c2 c3 hsu hbk
    clear ha
    go_wp2
    go_roundw
    case rel=>exact⟨k+1,by omega,by go_num,by rw[hsu.out],hb⟩
    case measure=>simp[intOf];omega
  · obtain rfl:k=l.length:=by omega
    go_wp2
    go_ret
    exact⟨rfl,hb⟩
theorem Iw (ao:Option Addr) (cap:Nat) (w:World) :
  Calls Tryz.prog 61 #[.slice ao 0 cap] w fun e w'=>e=.returned (I 0)/\Below w.heap.size w w':=by
 go_enter Tryz.func61,Tryz.ntmps61
 go_wp2
 refine wp_loop_rounds 1 ?_
 rw[rounds_succ]
 go_wp2
 go_ret
 exact⟨rfl,Below.refl _ _⟩
theorem px (l:List AM.Ar) (v:Value) (w:World) (h:Has w v l) (hc:AM.aO l=0) :
  Calls Tryz.prog 61 #[v] w fun e w'=>e=.returned (I (AM.cD l))/\Below w.heap.size w w':=by
 have e:AM.cD l=AM.sumTo l l.length:=by simp[AM.cD,hc]
 rw[e]
 obtain⟨ao,cap,rfl,h⟩:=h
 rcases h with rfl | ⟨b,off,rfl,hl⟩
 · exact Iw ao cap w
 · exact Ew l b off cap w hl hc
theorem Dx (l:List AM.Ar) (b off cap:Nat) (p:Int) (w:World) (hl:AM.zP w b off l) (hc:AM.aO l=0) :
  Calls Tryz.prog 31 #[.slice (some (Ad b off)) l.length cap,I p] w fun e w'=>e=.returned (.tuple #[.agg (cellsOf (AM.aK l p).1),.bool (AM.aK l p).2])/\Below w.heap.size w w':=by
 have hbz:Below w.heap.size w (w.alloc (.cells #[I 0,I 0,I 0,.bool false] 47)):=(Below.refl _ _).alloc (Nat.le_refl _) _
 have hlen:=AM.gm l hc
 have HC:Hid (AM.aK l p=AM.aN l p):=by show _=_;simp[AM.aK,hc]
 have HK:Hid (AM.aO l=0):=hc
 clear hc
 go_enter Tryz.func31,Tryz.ntmps31
 go_wp2
 go_loopw [6] (fun i wr=>∃k:Nat,k<=l.length/\i=I k/\(∀j,j<k->AM.hit (AM.at_ l j) p=false)/\Below (w.heap.size+1) (w.alloc (.cells #[I 0,I 0,I 0,.bool false] 47)) wr) (fun i _=>l.length-(intOf i).toNat)
 case atStart=>exact⟨0,by omega,rfl,fun j hj=>by omega,Below.refl _ _⟩
 case round =>
  obtain⟨k,hk,rfl,hno,hb⟩:=hrel
  have HN:Hid (∀j,j<k->AM.hit (AM.at_ l j) p=false):=hno
  have eW:Hid (Below w.heap.size w wr):=hbz.trans (hb.mono (Nat.le_succ _))
  have hsz:w.heap.size+1<=wr.heap.size:=by have:=hb.size;simpa using this
  have hlr:=hl.below eW.out
  have hR:wr.heap[w.heap.size]?=some (.cells #[I 0,I 0,I 0,.bool false] 47 (0,0)):=B.below (B.new w _ _) hb (Nat.lt_succ_self _)
  have HB:Hid (Below (w.heap.size+1) (w.alloc (.cells #[I 0,I 0,I 0,.bool false] 47)) wr):=hb
  have t0:=B.cell hR 0 rfl
  have t1:=B.cell hR 1 rfl
  have t2:=B.cell hR 2 rfl
  have t3:=B.cell hR 3 rfl
  have u0:=B.free hR
  clear hno hR hb
  by_cases hlt:k<l.length
  · obtain⟨c0,c1,c2,c3⟩:=hlr k hlt
    have hbk:=AM.cM l k (AM.cH l HK.o k hlt)
    obtain⟨a,ha⟩:=ex (AM.at_ l k)
    rw[<- ha] at c0 c1 c2 c3 hbk
    have HA:Hid (a=AM.at_ l k):=ha
    clear ha
    have zm:(k:Int)<(l.length:Int):=by omega
    by_cases h1:a.page<=p
    · by_cases h2:p<a.page+a.aB
      · have hres:Hid (AM.aK l p=(a,true)):=by
         show _=_
         rw[HC.o,AM.jd l p k hlt HN.o (by rw[<- HA.o];simp[AM.hit,AM.Ar.dN,h1,h2]),<- HA.o]
        go_wp2
        go_quiet (fail)
        go_wp2
        have Bu:=below_drewN eW.out nq
        exact bodyPost_ret (v:=.tuple #[.agg #[I a.page,I a.aB,I a.bJ,.bool a.zero],.bool true]) (by simp[results,Tryz.results31,go_sem,t0,t1,t2,t3]) rfl ⟨by rw[hres.out];rfl,(((Bu.setCell (Nat.le_refl _) _).setCell (Nat.le_refl _) _).setCell (Nat.le_refl _) _).setCell (Nat.le_refl _) _⟩
      · have od:Hid (AM.hit (AM.at_ l k) p=false):=by show _=_;rw[<- HA.o];unfold AM.hit AM.Ar.dN;exact decide_eq_false (by omega)
        have d2:decide (p<a.page+a.aB)=false:=decide_eq_false h2
        go_wp2
        go_quiet (fail)
        go_wp2
        go_roundw
        case rel=>exact⟨k+1,by omega,by go_num,fun j hj=>if e:j=k then by rw[e];exact od.out else HN.o j (by omega),below_drewN HB.o _⟩
        case measure=>simp[intOf];omega
    · have od:Hid (AM.hit (AM.at_ l k) p=false):=by show _=_;rw[<- HA.o];unfold AM.hit AM.Ar.dN;exact decide_eq_false (by omega)
      have d1:decide (a.page<=p)=false:=decide_eq_false h1
      go_wp2
      go_quiet (fail)
      go_wp2
      go_roundw
      case rel=>exact⟨k+1,by omega,by go_num,fun j hj=>if e:j=k then by rw[e];exact od.out else HN.o j (by omega),below_drewN HB.o _⟩
      case measure=>simp[intOf];omega
  · obtain rfl:k=l.length:=by omega
    have hres:Hid (AM.aK l p=(AM.nil,false)):=by show _=_;rw[HC.o,AM.iH l p HN.o]
    go_wp2
    exact bodyPost_ret (v:=.tuple #[.agg #[I 0,I 0,I 0,.bool false],.bool false]) (by simp[results,Tryz.results31,go_sem,t0,t1,t2,t3]) rfl ⟨by rw[hres.out];rfl,(((eW.out.setCell (Nat.le_refl _) _).setCell (Nat.le_refl _) _).setCell (Nat.le_refl _) _).setCell (Nat.le_refl _) _⟩
theorem FN (ao:Option Addr) (cap:Nat) (p:Int) (w:World) :
  Calls Tryz.prog 31 #[.slice ao 0 cap,I p] w fun e w'=>e=.returned (.tuple #[.agg (cellsOf (AM.aK [] p).1),.bool (AM.aK [] p).2])/\Below w.heap.size w w':=by
 have hbz:Below w.heap.size w (w.alloc (.cells #[I 0,I 0,I 0,.bool false] 47)):=(Below.refl _ _).alloc (Nat.le_refl _) _
 go_enter Tryz.func31,Tryz.ntmps31
 go_wp2
 refine wp_loop_rounds 1 ?_
 rw[rounds_succ]
 go_wp2
 exact bodyPost_ret (v:=.tuple #[.agg #[I 0,I 0,I 0,.bool false],.bool false]) (by simp[results,Tryz.results31,go_sem]) rfl ⟨rfl,hbz⟩
theorem nX (l:List AM.Ar) (v:Value) (p:Int) (w:World) (h:Has w v l) (hc:AM.aO l=0) :
  Calls Tryz.prog 31 #[v,I p] w fun e w'=>e=.returned (.tuple #[.agg (cellsOf (AM.aK l p).1),.bool (AM.aK l p).2])/\Below w.heap.size w w':=by
 obtain⟨ao,cap,rfl,h⟩:=h
 rcases h with rfl | ⟨b,off,rfl,hl⟩
 · exact FN ao cap p w
 · exact Dx l b off cap p w hl hc
end AW
end Go.Proofs.YtpgifpeohlllfaaGreat
