import Derived.Test.YtpgifpeohlllfaaGreatGT11
import Derived.Test.YtpgifpeohlllfaaGreatGT12
import Derived.Lib.AppendZerosOnto
import Derived.Lib.Overlaps
set_option maxHeartbeats 20000000
set_option linter.unusedVariables false
set_option maxRecDepth 100000
set_option linter.unusedSimpArgs false
namespace Go.Proofs.YtpgifpeohlllfaaGreat
namespace LW
open Go.RowKit
open W (ai)
theorem A8 (w:World):Calls Tryz.prog 155 #[.string ⟨#[0]⟩,I 16] w fun e w'=>e=.returned (.string LM.l9)/\Below w.heap.size w w' :=
 Tryz.strings_Repeat_main ⟨#[0]⟩ 16 w (by decide) (by decide) (by decide) (by decide)
theorem G8 (s:M.Sg) (n:Nat) (w:World) (hn:n<=1000) (hs:s.data.size<=100000) :
  Calls Tryz.prog 162 #[.agg #[I s.page,I s.aJ,.string s.data,.bool s.wr,.bool s.ex],I n] w fun e w'=>e=.returned (.string (LM.tI s n))/\Below w.heap.size w w':=by
 obtain⟨pg,pn,dt,wr,qZ0⟩:=s;simp only at hs;have oJ:dt.size<=maxLen:=by unfold maxLen;omega
 obtain⟨b,hb⟩:∃b:Nat,b=min (n*16) dt.size:=⟨_,rfl⟩;obtain⟨e,he⟩:∃e:Nat,e=min (b+16) dt.size:=⟨_,rfl⟩;have HPN:Hid (LM.tI ⟨pg,pn,dt,wr,qZ0⟩ n=CL.over LM.l9 0 (dt.extract b e)):=by
  show _=_;unfold LM.tI;simp only;rw[<- hb,<- he]
 have hbI:min ((n:Int)*16) (dt.size:Int)=(b:Int):=by omega
 have heI:min ((b:Int)+16) (dt.size:Int)=(e:Int):=by omega
 have h1:b<=e:=by omega
 have h2:e<=dt.size:=by omega
 have h3:e<=b+16:=by omega
 have Nc:Hid (∀V,Calls Tryz.prog 65 #[.string LM.l9,I 0,.string (dt.extract b e)] V fun e w'=>e=.returned (.tuple #[.string (LM.tI ⟨pg,pn,dt,wr,qZ0⟩ n),I 0])/\Below V.heap.size V w'):=fun V=>by
  rw[HPN.o];exact CW.C4 LM.l9 (dt.extract b e) 0 V (by rw[LM.tq];omega) (by rw[LM.tq,LM.extract_size _ _ _ h1 h2];omega)
 have BX:=ai (B.new w #[I pg,I pn,.string dt,.bool wr,.bool qZ0] 145);have HB:=ai ((Below.refl w.heap.size w).alloc (Nat.le_refl _) (.cells #[I pg,I pn,.string dt,.bool wr,.bool qZ0] 145));obtain⟨W,hW⟩:=ex (w.alloc (.cells #[I pg,I pn,.string dt,.bool wr,.bool qZ0] 145));rw[<- hW] at BX HB;have HW:=ai hW;clear hW hb he;have Ai:=B.isLt BX.o;have j3:=Q.dE W;have hkc:=@Q.cV W;have e2:∀x:Q.ez W.heap.size W,x.world.cell? (Ad w.heap.size 2)=some (.string dt):=fun x=>by rw[hkc x _ _ Ai];exact B.cell BX.o 2 rfl
 have HZ:Hid (∀V,Below W.heap.size W V->Calls Tryz.prog 155 #[.string ⟨#[0]⟩,I 16] V fun e w'=>e=.returned (.string LM.l9)/\Below V.heap.size V w'):=fun V _=>A8 V
 have A4:Hid (∀V,Below W.heap.size W V->Calls Tryz.prog 65 #[.string LM.l9,I 0,.string (dt.extract b e)] V fun e w'=>e=.returned (.tuple #[.string (LM.tI ⟨pg,pn,dt,wr,qZ0⟩ n),I 0])/\Below V.heap.size V w'):=fun V _=>Nc.o V
 clear hkc Nc;go_enter Tryz.func162,Tryz.ntmps162;go_wp2;rw[<- HW.o];refine Q.bu (by kernel_rfl) (by kernel_rfl) ?_
 repeat (first | go_big_quiet_step ((first | (go_at_call 155;exact bM _ HZ.o) | (go_at_call 65;exact bM _ A4.o))) | quiet_step ((first | (go_at_call 155;exact bM _ HZ.o) | (go_at_call 65;exact bM _ A4.o))))
 refine wpQuiet_nil ?_;intro _ hw';obtain⟨x,hw''⟩:=hw';subst hw'';go_wp2;go_ret;exact⟨rfl,HB.o.trans (x.keeps.mono HB.o.size)⟩
theorem C7:(Tryz.prog.info? 52).map (fun i=>(i.zero,i.size,i.bytes))=some (some (.agg #[I 0,.string ⟨#[]⟩]),2,24):=by kernel_rfl
theorem Fk (page:Int) (ps:List LM.Pt) (ao:Option Addr) (cap:Nat) (w:World) (h0:0<=page) (h1:page<=3000) (h:LM.QC w ao ps) (hn:ps.length<=1000) (hf:∀k,k<ps.length->LM.Yl (LM.Ay ps k)) :
  Calls Tryz.prog 163 #[I page,.slice ao ps.length cap] w fun e w'=>(∃v,e=.returned v/\w'.ownsRow w.heap.size 52 2 v (LM.gZ page ps).length ((LM.gZ page ps).flatMap LM.Cn))/\Below w.heap.size w w':=by
 have HH:=ai h;have HF:=ai hf;clear h hf;obtain⟨i0,hi,hz0,hz1,hz2⟩:=info_parts C7;go_enter Tryz.func163,Tryz.ntmps163;go_wp2;go_loopw [17,6] (fun i v wr=>∃k:Nat,k<=ps.length/\i=I k/\wr.ownsRow w.heap.size 52 2 v (LM.gZ page (ps.take k)).length ((LM.gZ page (ps.take k)).flatMap LM.Cn)/\Below w.heap.size w wr) (fun i _ _=>ps.length-(intOf i).toNat)
 case atStart=>exact⟨0,by omega,rfl,World.ownsRow_nil _ _ _ _,Below.refl _ _⟩
 case round =>
  obtain⟨k,hk,rfl,hown,hb⟩:=hrel;have HOW:=ai hown;have iY:=ai hb;have hsz:=hb.size;by_cases hlt:k<ps.length
  · obtain⟨b,off,hao,hbl,bN⟩:=(HH.o.below hb) (by omega);subst hao;obtain⟨c0,c1⟩:=bN k hlt;obtain⟨f1,f2,f3⟩:=HF.o k hlt;have HT:Hid (LM.gZ page (ps.take (k+1))=LM.gZ page (ps.take k)++LM.II page (LM.Ay ps k)):=by
     show _=_;rw[LM.KC ps LM.pt0 k hlt,LM.Fm];rfl
    have hlen:=LM.Cc page (ps.take k);rw[List.length_take] at hlen;obtain⟨G,hG⟩:=ex (LM.gZ page (ps.take k));rw[<- hG] at HOW HT hlen;obtain⟨p,hp⟩:=ex (LM.Ay ps k);rw[<- hp] at c0 c1 f1 f2 f3 HT;clear hG hp bN hb hown;obtain⟨P,Um⟩:=p;simp only at c0 c1 f1 f2 f3;have cQ:=ai (iY.o.alloc iY.o.size (.cells #[I P,.string Um] 259));have sZ:=ai ((Below.refl wr.heap.size wr).alloc (Nat.le_refl _) (.cells #[I P,.string Um] 259));obtain⟨A,hA⟩:=ex (max (page*16) P);obtain⟨E,hE⟩:=ex (min (page*16+16) (P+8));have hAb:page*16<=A/\P<=A/\A<=1000000:=by omega
    have hEb:E<=page*16+16/\E<=P+8:=by omega
    have hA':max (page*16) P=A:=hA.symm;have hE':min (page*16+16) (P+8)=E:=hE.symm;have UQ:Hid (LM.II page ⟨P,Um⟩=if A<E then [⟨A-page*16,Um.extract (A-P).toNat (A-P+(E-A)).toNat⟩] else []):=by
     show _=_;unfold LM.II;simp only;rw[hA',hE']
    clear hA hE;by_cases hAE:A<E
    · rw[UQ.o,if_pos hAE] at HT;obtain⟨u,hu⟩:∃u:Nat,A-P=(u:Int):=⟨(A-P).toNat,by omega⟩;obtain⟨n,hn⟩:∃n:Nat,E-A=(n:Int):=⟨(E-A).toNat,by omega⟩;have hun:(A-P+(E-A)).toNat=u+n:=by omega
      have hu2:(A-P).toNat=u:=by omega
      rw[hun,hu2] at HT;have Xz:Hid (∀V,Calls Tryz.prog 63 #[.string Um,I (A-P),I (E-A)] V fun e w'=>e=.returned (.tuple #[.string (Um.extract u (u+n)),I 0])/\Below V.heap.size V w'):=fun V=>by
       rw[hu,hn];exact CW.yI Um u n V (by omega) (by omega)
      obtain⟨s,hs⟩:=ex (Um.extract u (u+n));rw[<- hs] at Xz HT;clear hu hn hun hu2 hs UQ;have aez:¬E<=A:=by omega
      go_wp2_with (first
       | (go_at_call 63;refine(Xz.o _).mono ?_;rintro e w1 ⟨rfl,hb⟩;have bE:=ai (cQ.o.trans (hb.mono cQ.o.size));have aa8:=ai ((uK HOW.o (sZ.o.trans (hb.mono sZ.o.size))).alloc (.cells #[I (A-page*16),.string s] 52));have Zx:=aa8.o.lt;have xU:=ai (B.new w1 #[I (A-page*16),.string s] 52);have BP:=ai (B.below (B.new wr #[I P,.string Um] 259) hb (by simp));have y0:=B.cell BP.o 0 rfl;have y1:=B.cell BP.o 1 rfl;clear hb)
       | (at_builtin;refine wpList_append_lies _ rfl _ _ 48 rfl w.heap.size 52 i0 (.agg #[I 0,.string ⟨#[]⟩]) 2 24 Tryz.underlying48 hi hz0 hz1 hz2 rfl (by decide) _ _ _ rfl aa8.o (Ad w1.heap.size 0) 1 1 [I (A-page*16),.string s] rfl rfl (B.news xU.o) (by intro u hu;simp at hu;rcases hu with rfl | rfl <;> rfl) (by decide) (by unfold maxLen;omega) (by omega) (by have:=bE.o.size;simp;omega) (w1.heap.size+1) (by simp) ?_;intro gg aaI w2 hown2 hgrow TF o6;have UC:=ai hown2;have cM:=ai ((bE.o.alloc bE.o.size (.cells #[I (A-page*16),.string s] 52)).grown hgrow (by have:=bE.o.size;simp;omega) (fun q hq=>(Zx _ hq).1));clear hown2 hgrow TF))
      go_roundw
      case rel=>exact⟨k+1,by omega,by go_num,by rw[HT.o,List.length_append,List.flatMap_append];exact UC.o,cM.o⟩
      case measure=>simp[intOf];omega
    · rw[UQ.o,if_neg hAE,List.append_nil] at HT;have aez:E<=A:=by omega
      clear UQ;go_wp2;go_roundw
      case rel=>exact⟨k+1,by omega,by go_num,by rw[HT.o];exact HOW.o.alloc _,cQ.o⟩
      case measure=>simp[intOf];omega
  · obtain rfl:k=ps.length:=by omega
    rw[List.take_length] at HOW;clear hown hb;go_wp2;go_ret;exact⟨⟨_,rfl,HOW.o⟩,iY.o⟩
end LW
namespace KW
open Go.RowKit GK
open FW (ai aD)
theorem Qe (d:ByteArray):d.toList.isEmpty=decide (d.size=0):=by
 rw[Go.ByteArray.toList_eq];obtain⟨⟨l⟩⟩:=d;cases l with
 | nil=>rfl
 | cons a r=>rfl
theorem Gy (d:ByteArray):(d.toList=[])=(d.size=0):=by
 rw[Go.ByteArray.toList_eq];obtain⟨⟨l⟩⟩:=d;cases l with
 | nil=>simp[ByteArray.size]
 | cons a r=>simp[ByteArray.size]
theorem y7 (f:KM.Fr) (w:World):Calls Tryz.prog 168 #[.agg #[.string f.data,I f.refs,.bool f.cj,.bool f.seen]] w fun e w'=>e=.returned (.bool (KM.uv f))/\Below w.heap.size w w':=by
 obtain⟨d,r,dy,sn⟩:=f;unfold KM.uv;simp only;obtain⟨A,hA⟩:=ex (decide (d.size=0/\r=0/\dy=false/\sn=false));rw[<- hA];have HA:=ai hA;clear hA;go_enter Tryz.func168,Tryz.ntmps168;go_wp2
 all_goals
  go_ret;refine⟨congrArg (fun b=>Ending.returned (.bool b)) ?_,(Below.refl _ _).alloc (Nat.le_refl _) _⟩;rw[HA.o];clear HA
  simp_all [Gy]
theorem zero_eq:LM.l9=KM.pT:=by decide
theorem qp (hs:List LM.Sh) (p:Int) (z:Bool) (mb:Nat) (w:World) (hfl:∀n:Nat,n<256->w.cell? (Ad mb (5+n))=some (.string (KM.filled hs n))) (hp:0<=p/\p<256) :
  Calls Tryz.prog 119 #[.pointer (some (Ad mb 0)),I p,.bool z] w fun e w'=>e=.returned (.string (KM.dY hs p z))/\Below w.heap.size w w':=by
 have HZ:Hid (∀V,Calls Tryz.prog 155 #[.string ⟨#[0]⟩,I 16] V fun e w'=>e=.returned (.string KM.pT)/\Below V.heap.size V w'):=fun V=>by rw[<- zero_eq];exact LW.A8 V
 cases z with
 | true =>
  have HF:Hid (KM.dY hs p true=KM.pT):=rfl;rw[HF.o];clear hfl;obtain⟨Z,hZ⟩:=ex KM.pT;rw[<- hZ] at HZ ⊢;clear hZ HF;go_enter Tryz.func119,Tryz.ntmps119;go_wp2_with (go_at_call 155;refine(HZ.o _).mono ?_;rintro e w1 ⟨rfl,hb1⟩;have bE:=ai hb1;clear hb1)
  go_ret;exact⟨rfl,bE.o⟩
 | false =>
  obtain⟨n,rfl⟩:∃n:Nat,p=(n:Int):=⟨p.toNat,by omega⟩;have q:=hfl n (by omega);have HF:Hid (KM.dY hs (n:Int) false=KM.filled hs n):=rfl;rw[HF.o];obtain⟨D,hD⟩:=ex (KM.filled hs (n:Int));rw[<- hD] at q ⊢;have n0:=hp.1;have n1:=hp.2;clear hD HF hfl HZ;go_enter Tryz.func119,Tryz.ntmps119;go_wp2;go_ret;exact⟨rfl,Below.refl _ _⟩
theorem eY {P:Program} {f:FuncId} {args:Array Value} {v:Value} {w:World} (x:Q.ez w.heap.size w) (h:∀W,Below w.heap.size w W->Calls P f args W fun e w'=>e=.returned v/\Below W.heap.size W w') :
  Calls P f args x.world fun e w''=>e=.returned v/\∃y:Q.ez w.heap.size w,w''=y.world :=
 (h x.world x.keeps).mono fun e w'' ⟨he,hb⟩=>⟨he,⟨w'',x.keeps.trans (hb.mono x.keeps.size)⟩,rfl⟩
theorem Vv (x y:ByteArray):(x.toList==y.toList)=decide (x=y):=by
 rw[Go.ByteArray.toList_eq,Go.ByteArray.toList_eq];by_cases c:x=y
 · rw[decide_eq_true c,c];exact beq_self_eq_true _
 · rw[decide_eq_false c,beq_eq_false_iff_ne];exact fun e=>c (by cases x;cases y;congr 1;exact Array.toList_inj.1 e)
theorem yD (hs:List LM.Sh) (f:KM.Fr) (u:KM.Us) (mb:Nat) (w:World) (hmb:mb<w.heap.size) (hfl:∀n:Nat,n<256->w.cell? (Ad mb (5+n))=some (.string (KM.filled hs n))) (hp:u.refs≠0->0<=u.page/\u.page<256) (hd:M.bD f.data.size) :
  Calls Tryz.prog 151 #[.pointer (some (Ad mb 0)),.agg #[.string f.data,I f.refs,.bool f.cj,.bool f.seen],.agg #[I u.refs,I u.page,.bool u.zero]] w fun e w'=>e=.returned (.bool (KM.fT hs f u))/\Below w.heap.size w w':=by
 obtain⟨A,hA⟩:=ex (KM.fT hs f u);rw[<- hA];unfold KM.fT at hA;have HA:=ai hA;have HIZ:=ai (fun V=>y7 f V);obtain⟨IZ,hIZ⟩:=ex (KM.uv f);rw[<- hIZ] at HA HIZ;clear hIZ;obtain⟨d,r,dy,sn⟩:=f;obtain⟨ur,up,uz⟩:=u;simp only at HA HIZ hp hd ⊢;unfold M.bD at hd;have HB:=ai (((Below.refl w.heap.size w).alloc (Nat.le_refl _) (.cells #[.string d,I r,.bool dy,.bool sn] 40)).alloc (by simp) (.cells #[I ur,I up,.bool uz] 211));have Nh:=ai hfl;clear hA hfl;by_cases c:ur=0
 · subst c;rw[if_pos rfl] at HA;go_enter Tryz.func151,Tryz.ntmps151;go_wp2_with (go_at_call 168;refine(HIZ.o _).mono ?_;rintro e w1 ⟨rfl,hb1⟩;have bE:=ai (aD HB.o hb1);clear hb1)
   go_ret;exact⟨congrArg (fun b=>Ending.returned (.bool b)) HA.o.symm,bE.o⟩
 · rw[if_neg c] at HA;have cb:(ur==0)=false:=by simpa using c
   have xw:=hp c;clear HIZ hp;by_cases c1:r=ur
   · have c1b:(r != ur)=false:=by simpa using c1
     by_cases c2:d.size=16
     · have c2i:((d.size:Int) != 16)=false:=by rw[bne_eq_false_iff_eq];omega
       have ni:Hid (A=(dy || decide (d=KM.dY hs up uz))):=by show _=_;rw[HA.o,decide_eq_true ⟨c1,c2⟩,Bool.true_and]
       have kY:Hid (∀V,Below w.heap.size w V->Calls Tryz.prog 119 #[.pointer (some (Ad mb 0)),I up,.bool uz] V fun e w'=>e=.returned (.string (KM.dY hs up uz))/\Below V.heap.size V w'):=fun V hV=>qp hs up uz mb V (fun n hn=>(hV.cell (p:=(Ad mb (5+n))) hmb).trans (Nh.o n hn)) xw
       obtain⟨FK,hFK⟩:=ex (KM.dY hs up uz);rw[<- hFK] at ni kY;have BF:=ai (B.alloc (B.new w #[.string d,I r,.bool dy,.bool sn] 40) (.cells #[I ur,I up,.bool uz] 211));have BU:=ai (B.new (w.alloc (.cells #[.string d,I r,.bool dy,.bool sn] 40)) #[I ur,I up,.bool uz] 211);rw[World.size_alloc] at BU;clear hFK HA c c1 c2;go_enter Tryz.func151,Tryz.ntmps151;go_wp2_with fail
       obtain⟨W,hW⟩:=ex ((w.alloc (.cells #[.string d,I r,.bool dy,.bool sn] 40)).alloc (.cells #[I ur,I up,.bool uz] 211));rw[<- hW] at HB BF BU ⊢;have j3:=Q.dE W;have k0:∀x:Q.ez W.heap.size W,x.world.cell? (Ad w.heap.size 0)=some (.string d):=fun x=>by rw[Q.cV x _ _ (B.isLt BF.o)];exact B.cell BF.o 0 rfl
       have k2:∀x:Q.ez W.heap.size W,x.world.cell? (Ad w.heap.size 2)=some (.bool dy):=fun x=>by rw[Q.cV x _ _ (B.isLt BF.o)];exact B.cell BF.o 2 rfl
       have l1:∀x:Q.ez W.heap.size W,x.world.cell? (Ad (w.heap.size+1) 1)=some (I up):=fun x=>by rw[Q.cV x _ _ (B.isLt BU.o)];exact B.cell BU.o 1 rfl
       have l2:∀x:Q.ez W.heap.size W,x.world.cell? (Ad (w.heap.size+1) 2)=some (.bool uz):=fun x=>by rw[Q.cV x _ _ (B.isLt BU.o)];exact B.cell BU.o 2 rfl
       have abp:=ai (fun V (hV:Below W.heap.size W V)=>kY.o V (HB.o.trans (hV.mono HB.o.size)));clear hW kY BF BU;cases dy with
       | true =>
        have pR:Hid (A=true):=ni;clear ni;refine Q.bu (by kernel_rfl) (by kernel_rfl) ?_
        repeat (first | go_big_quiet_step (fail) | quiet_step (fail))
        refine wpQuiet_nil ?_;rintro _ ⟨x,rfl⟩;go_wp2;go_ret;exact⟨congrArg (fun b=>Ending.returned (.bool b)) pR.o.symm,HB.o.trans (x.keeps.mono HB.o.size)⟩
       | false =>
        have pR:Hid (A=(d.toList==FK.toList)):=by show _=_;rw[ni.o,Vv];rfl
        clear ni;refine Q.bu (by kernel_rfl) (by kernel_rfl) ?_
        repeat (first | go_big_quiet_step ((go_at_call 119;exact eY _ abp.o)) | quiet_step ((go_at_call 119;exact eY _ abp.o)))
        refine wpQuiet_nil ?_;rintro _ ⟨x,rfl⟩;go_wp2;go_ret;exact⟨congrArg (fun b=>Ending.returned (.bool b)) pR.o.symm,HB.o.trans (x.keeps.mono HB.o.size)⟩
     · have c2i:((d.size:Int) != 16)=true:=by rw[bne_iff_ne];omega
       have ni:Hid (A=false):=by show _=_;rw[HA.o,decide_eq_false (fun g=>c2 g.2),Bool.false_and]
       clear HA c c1 c2;go_enter Tryz.func151,Tryz.ntmps151;go_wp2;go_ret;exact⟨congrArg (fun b=>Ending.returned (.bool b)) ni.o.symm,HB.o⟩
   · have c1b:(r != ur)=true:=by simpa using c1
     have ni:Hid (A=false):=by show _=_;rw[HA.o,decide_eq_false (fun g=>c1 g.1),Bool.false_and]
     clear HA c c1;go_enter Tryz.func151,Tryz.ntmps151;go_wp2;go_ret;exact⟨congrArg (fun b=>Ending.returned (.bool b)) ni.o.symm,HB.o⟩
theorem Qu {n:Nat} {p:Nat->Bool} {i:Nat} (hi:i<n) (h:p i=false):(List.range n).all p=false:=by
 cases q:(List.range n).all p with
 | false=>rfl
 | true=>rw[List.all_eq_true] at q;rw[q i (List.mem_range.2 hi)] at h;cases h
theorem J6 {n:Nat} {p:Nat->Bool} (h:∀i,i<n->p i=true):(List.range n).all p=true:=by
 rw[List.all_eq_true];exact fun i hi=>h i (List.mem_range.1 hi)
theorem xk (hs:List LM.Sh) (fs:List KM.Fr) (us:List KM.Us) (aF:Option Addr) (cF mb lo g cap:Nat) (w:World) (hF:aZ bJ 4 KM.mz w aF fs) (hU:iw lo w g fs.length cap us) (hmb:mb<w.heap.size) (jP:w.cell? (Ad mb 1)=some (.slice aF fs.length cF)) (hfl:∀n:Nat,n<256->w.cell? (Ad mb (5+n))=some (.string (KM.filled hs n))) (hp:∀i,i<fs.length->(KM.dm us i).refs≠0->0<=(KM.dm us i).page/\(KM.dm us i).page<256) (hd:∀i,i<fs.length->M.bD (KM.aH fs i).data.size) (hn:fs.length<=64) :
  Calls Tryz.prog 113 #[.pointer (some (Ad mb 0)),.slice (some (Ad g 0)) fs.length cap] w fun e w'=>e=.returned (.bool ((List.range fs.length).all fun i=>KM.fT hs (KM.aH fs i) (KM.dm us i)))/\Below w.heap.size w w':=by
 have HH:=ai hF;have HU:=ai hU;have hg:=hU.lt.2;have ru:Hid (∀i,i<fs.length->∀V,Below w.heap.size w V->Calls Tryz.prog 151 #[.pointer (some (Ad mb 0)),.agg #[.string (KM.aH fs i).data,I (KM.aH fs i).refs,.bool (KM.aH fs i).cj,.bool (KM.aH fs i).seen],.agg #[I (KM.dm us i).refs,I (KM.dm us i).page,.bool (KM.dm us i).zero]] V fun e w'=>e=.returned (.bool (KM.fT hs (KM.aH fs i) (KM.dm us i)))/\Below V.heap.size V w'):=fun i hi V hV=>yD hs _ _ mb V (Nat.lt_of_lt_of_le hmb hV.size) (fun n hn=>(hV.cell (p:=(Ad mb (5+n))) hmb).trans (hfl n hn)) (hp i hi) (hd i hi)
 have jc:=ai (fun i (hi:i<fs.length)=>@Qu fs.length (fun i=>KM.fT hs (KM.aH fs i) (KM.dm us i)) i hi);have pJ:=ai (@J6 fs.length (fun i=>KM.fT hs (KM.aH fs i) (KM.dm us i)));obtain⟨A,hA⟩:=ex ((List.range fs.length).all fun i=>KM.fT hs (KM.aH fs i) (KM.dm us i));rw[<- hA] at jc pJ ⊢;obtain⟨n,hnn⟩:=ex fs.length;rw[<- hnn] at HU ru jc pJ jP hn ⊢;have RY:=ai hnn;clear hF hU hfl hp hd hA hnn;go_enter Tryz.func113,Tryz.ntmps113;go_wp2;go_loopw [13] (fun iv wr=>∃k:Nat,k<=n/\iv=I (k:Int)/\Below w.heap.size w wr/\∀i,i<k->KM.fT hs (KM.aH fs i) (KM.dm us i)=true) (fun iv _=>n-(intOf iv).toNat)
 case atStart=>exact⟨0,by omega,rfl,Below.refl _ _,fun i hi=>by omega⟩
 case round =>
  obtain⟨k,hk,rfl,hb,qj⟩:=hrel;have HB:=ai hb;have HP:=ai qj;clear qj;by_cases hlt:k<n
  · obtain⟨fb,fo,hao,hbl,bN⟩:=HH.o (by rw[<- RY.o];omega);subst hao;have ce:∀j,j<4->wr.cell? (Ad fb (fo+k*4+j))=(bJ (KM.aH fs k))[j]?:=fun j hj=>(hb.cell (p:=(Ad fb (fo+k*4+j))) hbl).trans (bN k (by rw[<- RY.o];exact hlt) j hj)
    have y0:=ce 0 (by omega);have y1:=ce 1 (by omega);have y2:=ce 2 (by omega);have y3:=ce 3 (by omega);rw[Nat.add_zero] at y0;obtain⟨z0,z1,z2⟩:=HU.o.at k hlt;have ru:=ai (ru.o k hlt);have jc:=ai (jc.o k hlt);have s8:Hid (KM.fT hs (KM.aH fs k) (KM.dm us k)=true->∀i,i<k+1->KM.fT hs (KM.aH fs i) (KM.dm us i)=true):=fun g i hi=>by
     by_cases e:i=k
     · rw[e];exact g
     · exact HP.o i (by omega)
    obtain⟨R,hR⟩:=ex (KM.fT hs (KM.aH fs k) (KM.dm us k));have jc:Hid (R=false->A=false):=fun g=>jc.o (by rw[<- hR];exact g)
    rw[<- hR] at ru s8;obtain⟨f,hf⟩:=ex (KM.aH fs k);obtain⟨u,hu⟩:=ex (KM.dm us k);rw[<- hf] at ru y0 y1 y2 y3;rw[<- hu] at ru z0 z1 z2;obtain⟨d,r,dy,sn⟩:=f;obtain⟨ur,up,uz⟩:=u;simp only at ru z0 z1 z2;have x0:wr.cell? (Ad fb (fo+k*4))=some (.string d):=y0;have x1:wr.cell? (Ad fb (fo+k*4+1))=some (I r):=y1;have x2:wr.cell? (Ad fb (fo+k*4+2))=some (.bool dy):=y2;have x3:wr.cell? (Ad fb (fo+k*4+3))=some (.bool sn):=y3;have TD:=hb.size;have sJ:¬fb=wr.heap.size:=by omega
    have cQ:=ai (HB.o.alloc HB.o.size (.cells #[.string d,I r,.bool dy,.bool sn] 40));have BF:=ai (B.new wr #[.string d,I r,.bool dy,.bool sn] 40);clear hR hf hu y0 y1 y2 y3 ce bN hb pJ;go_wp2_with fail
    obtain⟨W,hW⟩:=ex (wr.alloc (.cells #[.string d,I r,.bool dy,.bool sn] 40));rw[<- hW] at cQ BF ⊢;obtain⟨sb,pC⟩:=ex wr.heap.size;rw[<- pC] at BF ⊢;clear hW pC x0 x1 x2 x3 sJ;have j3:=Q.dE W;have k0:∀x:Q.ez W.heap.size W,x.world.cell? (Ad sb 0)=some (.string d):=fun x=>by rw[Q.cV x _ _ (B.isLt BF.o)];exact B.cell BF.o 0 rfl
    have k1:∀x:Q.ez W.heap.size W,x.world.cell? (Ad sb 1)=some (I r):=fun x=>by rw[Q.cV x _ _ (B.isLt BF.o)];exact B.cell BF.o 1 rfl
    have k2:∀x:Q.ez W.heap.size W,x.world.cell? (Ad sb 2)=some (.bool dy):=fun x=>by rw[Q.cV x _ _ (B.isLt BF.o)];exact B.cell BF.o 2 rfl
    have k3:∀x:Q.ez W.heap.size W,x.world.cell? (Ad sb 3)=some (.bool sn):=fun x=>by rw[Q.cV x _ _ (B.isLt BF.o)];exact B.cell BF.o 3 rfl
    have hgW:g<W.heap.size:=by have:=cQ.o.size;omega
    have l0:∀x:Q.ez W.heap.size W,x.world.cell? (Ad g (k*3))=some (I ur):=fun x=>by rw[Q.cV x _ _ hgW];exact(cQ.o.cell (p:=(Ad g (k*3))) hg).trans z0
    have l1:∀x:Q.ez W.heap.size W,x.world.cell? (Ad g (k*3+1))=some (I up):=fun x=>by rw[Q.cV x _ _ hgW];exact(cQ.o.cell (p:=(Ad g (k*3+1))) hg).trans z1
    have l2:∀x:Q.ez W.heap.size W,x.world.cell? (Ad g (k*3+2))=some (.bool uz):=fun x=>by rw[Q.cV x _ _ hgW];exact(cQ.o.cell (p:=(Ad g (k*3+2))) hg).trans z2
    have Xy:=ai (fun V (hV:Below W.heap.size W V)=>ru.o V (cQ.o.trans (hV.mono cQ.o.size)));have JH:(0:Int)<=(k:Int):=by omega
    have JG:(k:Int)<(n:Int):=by omega
    clear ru BF z0 z1 z2;refine Q.bu (by kernel_rfl) (by kernel_rfl) ?_
    repeat (first | go_big_quiet_step ((go_at_call 151;exact eY _ Xy.o)) | quiet_step ((go_at_call 151;exact eY _ Xy.o)))
    refine wpQuiet_nil ?_;rintro _ ⟨x,rfl⟩;have lB:=ai (cQ.o.trans (x.keeps.mono cQ.o.size));clear k0 k1 k2 k3 l0 l1 l2 Xy;cases R with
    | false =>
     have HA:=ai (jc.o rfl);go_wp2;go_ret;exact⟨congrArg (fun b=>Ending.returned (.bool b)) HA.o.symm,lB.o⟩
    | true =>
     have uk:=ai (s8.o rfl);clear s8 jc;go_wp2;go_roundw
     case rel=>exact⟨k+1,by omega,by go_num,lB.o,uk.o⟩
     case measure=>simp[intOf];omega
  · obtain rfl:k=n:=by omega
    have HA:=ai (pJ.o HP.o);clear hb;go_wp2;go_ret;exact⟨congrArg (fun b=>Ending.returned (.bool b)) HA.o.symm,HB.o⟩
theorem yC (fs:List KM.Sl) (us:List KM.Us) (aF:Option Addr) (cF mb lo g cap:Nat) (w:World) (hF:aZ bI 2 KM.xe w aF fs) (hU:iw lo w g fs.length cap us) (jP:w.cell? (Ad mb 2)=some (.slice aF fs.length cF)) (hr:∀i,i<fs.length->0<=(KM.dm us i).refs) (hd:∀i,i<fs.length->M.bD (KM.bj fs i).data.size) (hn:fs.length<=512) :
  Calls Tryz.prog 114 #[.pointer (some (Ad mb 0)),.slice (some (Ad g 0)) fs.length cap] w fun e w'=>e=.returned (.bool ((List.range fs.length).all fun i=>KM.ij (KM.bj fs i) (KM.dm us i)))/\Below w.heap.size w w':=by
 have HH:=ai hF;have HU:=ai hU;have hg:=hU.lt.2;have jc:=ai (fun i (hi:i<fs.length)=>@Qu fs.length (fun i=>KM.ij (KM.bj fs i) (KM.dm us i)) i hi);have pJ:=ai (@J6 fs.length (fun i=>KM.ij (KM.bj fs i) (KM.dm us i)));have HR:=ai hr;have HD:=ai hd;obtain⟨A,hA⟩:=ex ((List.range fs.length).all fun i=>KM.ij (KM.bj fs i) (KM.dm us i));rw[<- hA] at jc pJ ⊢;obtain⟨n,hnn⟩:=ex fs.length;rw[<- hnn] at HU jc pJ HR HD jP hn ⊢;have RY:=ai hnn;clear hF hU hr hd hA hnn;go_enter Tryz.func114,Tryz.ntmps114;go_wp2;go_loopw [14] (fun iv wr=>∃k:Nat,k<=n/\iv=I (k:Int)/\Below w.heap.size w wr/\∀i,i<k->KM.ij (KM.bj fs i) (KM.dm us i)=true) (fun iv _=>n-(intOf iv).toNat)
 case atStart=>exact⟨0,by omega,rfl,Below.refl _ _,fun i hi=>by omega⟩
 case round =>
  obtain⟨k,hk,rfl,hb,qj⟩:=hrel;have HB:=ai hb;have HP:=ai qj;clear qj;by_cases hlt:k<n
  · obtain⟨fb,fo,hao,hbl,bN⟩:=HH.o (by rw[<- RY.o];omega);subst hao;have ce:∀j,j<2->wr.cell? (Ad fb (fo+k*2+j))=(bI (KM.bj fs k))[j]?:=fun j hj=>(hb.cell (p:=(Ad fb (fo+k*2+j))) hbl).trans (bN k (by rw[<- RY.o];exact hlt) j hj)
    have y0:=ce 0 (by omega);have y1:=ce 1 (by omega);rw[Nat.add_zero] at y0;obtain⟨a0,_,_⟩:=HU.o.at k hlt;have z0:=(hb.cell (p:=(Ad g (k*3))) hg).trans a0;have O8:=HR.o k hlt;have hdk:=HD.o k hlt;unfold M.bD at hdk;have jc:=ai (jc.o k hlt);have s8:Hid (KM.ij (KM.bj fs k) (KM.dm us k)=true->∀i,i<k+1->KM.ij (KM.bj fs i) (KM.dm us i)=true):=fun g i hi=>by
     by_cases e:i=k
     · rw[e];exact g
     · exact HP.o i (by omega)
    unfold KM.ij KM.oI at jc s8;obtain⟨f,hf⟩:=ex (KM.bj fs k);obtain⟨u,hu⟩:=ex (KM.dm us k);have uk:Hid ((if u.refs=0 then decide (f.data.size=0/\f.refs=0) else decide (f.refs=u.refs/\f.data.size=16))=true->∀i,i<k+1->KM.ij (KM.bj fs i) (KM.dm us i)=true):=by rw[hf,hu];exact s8
    have px:Hid ((if u.refs=0 then decide (f.data.size=0/\f.refs=0) else decide (f.refs=u.refs/\f.data.size=16))=false->A=false):=by rw[hf,hu];exact jc
    rw[<- hf] at y0 y1 hdk;rw[<- hu] at z0 O8;obtain⟨d,r⟩:=f;obtain⟨ur,up,uz⟩:=u;simp only at uk px z0 O8 hdk;have x0:wr.cell? (Ad fb (fo+k*2))=some (.string d):=y0;have x1:wr.cell? (Ad fb (fo+k*2+1))=some (I r):=y1;have TD:=hb.size;have sJ:¬fb=wr.heap.size:=by omega
    have hgb:¬g=wr.heap.size:=by omega
    have cQ:=ai (HB.o.alloc HB.o.size (.cells #[.string d,I r] 86));have JH:(0:Int)<=(k:Int):=by omega
    have JG:(k:Int)<(n:Int):=by omega
    have zA:(wr.alloc (.cells #[.string d,I r] 86)).cell? (Ad g (k*3))=some (I ur):=(Below.cell ((Below.refl wr.heap.size wr).alloc (Nat.le_refl _) _) (p:=(Ad g (k*3))) (by show g<_;omega)).trans z0;clear hf hu y0 y1 ce bN hb pJ s8 jc a0;by_cases c:ur=0
    · subst c;rw[if_pos rfl] at uk px;rcases(show(d.toList=[]/\r=0)∨(d.toList=[]/\¬r=0)∨¬d.toList=[] by
       by_cases a:d.toList=[]
       · by_cases b:r=0
         · exact .inl ⟨a,b⟩
         · exact .inr (.inl ⟨a,b⟩)
       · exact .inr (.inr a)) with⟨g1,g2⟩ | ⟨g1,g2⟩ | g1
      · have HP4:=ai (uk.o (by rw[Gy] at g1;exact decide_eq_true ⟨g1,g2⟩));subst g2;clear uk px;go_wp2;go_roundw
        case rel=>exact⟨k+1,by omega,by go_num,cQ.o,HP4.o⟩
        case measure=>simp[intOf];omega
      · have HA:=ai (px.o (decide_eq_false (fun x=>g2 x.2)));clear uk px;go_wp2;go_ret;exact⟨congrArg (fun b=>Ending.returned (.bool b)) HA.o.symm,cQ.o⟩
      · have HA:=ai (px.o (decide_eq_false (fun x=>g1 (by rw[Gy];exact x.1))));clear uk px;go_wp2;go_ret;exact⟨congrArg (fun b=>Ending.returned (.bool b)) HA.o.symm,cQ.o⟩
    · rw[if_neg c] at uk px;have cb:(ur==0)=false:=by simpa using c
      have cp:0<ur:=by omega
      rcases(show(r=ur/\d.size=16)∨(r=ur/\¬d.size=16)∨¬r=ur by omega) with⟨g1,g2⟩ | ⟨g1,g2⟩ | g1
      · have HP4:=ai (uk.o (decide_eq_true ⟨g1,g2⟩));have b1:(r != ur)=false:=by simpa using g1
        have b2:((d.size:Int) != 16)=false:=by rw[bne_eq_false_iff_eq];omega
        clear uk px g1 g2 c;go_wp2;go_roundw
        case rel=>exact⟨k+1,by omega,by go_num,cQ.o,HP4.o⟩
        case measure=>simp[intOf];omega
      · have HA:=ai (px.o (decide_eq_false (fun x=>g2 x.2)));have b1:(r != ur)=false:=by simpa using g1
        have b2:((d.size:Int) != 16)=true:=by rw[bne_iff_ne];omega
        clear uk px g1 g2 c;go_wp2;go_ret;exact⟨congrArg (fun b=>Ending.returned (.bool b)) HA.o.symm,cQ.o⟩
      · have HA:=ai (px.o (decide_eq_false (fun x=>g1 x.1)));have b1:(r != ur)=true:=by simpa using g1
        clear uk px g1 c;go_wp2;go_ret;exact⟨congrArg (fun b=>Ending.returned (.bool b)) HA.o.symm,cQ.o⟩
  · obtain rfl:k=n:=by omega
    have HA:=ai (pJ.o HP.o);clear hb;go_wp2;go_ret;exact⟨congrArg (fun b=>Ending.returned (.bool b)) HA.o.symm,HB.o⟩
end KW
namespace GK
open Go.RowKit
theorem kZ {P:Program} (w:World) (dT sT ty elem:TypeId) (size:Nat) (hu:P.underlying dT=some (.slice elem)) (hsz:∀w,(sizeOf elem).run P w=.ok size w) (g off dLen dCap:Nat) (sp:Option Addr) (sLen sCap:Nat)
  (cur:List Value) (t:TypeId) (hg:w.heap[g]?=some (.cells cur.toArray t (0,0))) (cs:List Value) (hn:cs.length=Nat.min sLen dLen*size) (hsrc:0<cs.length->∃ad,sp=some ad/\∀j v,cs[j]?=some v->w.cell? (ad.add j)=some v)
  (hfit:off+cs.length<=cur.length) (h1:∀v∈cs,v.oneCell'=true) :
  (Builtin.copy_ #[dT,sT] ty #[.slice (some (Ad g off)) dLen dCap,.slice sp sLen sCap]).run P w=.ok (goInt (Nat.min sLen dLen)) (w.setRow g (splice cur off cs).toArray):=by
 have hst:=run_storeCells_at (P:=P) g off t cs 0 cur.toArray w hg (by simpa using hfit) h1;have hfc:(Builtin.firstCells size (Nat.min sLen dLen) (.slice sp sLen sCap)).run P w=.ok cs.toArray w:=by
  by_cases h0:0<cs.length
  · obtain⟨ad,rfl,hc⟩:=hsrc h0;exact run_firstCells_some w size (Nat.min sLen dLen) ad sLen sCap cs hn hc
  · have hcs:cs=[]:=List.eq_nil_of_length_eq_zero (by omega);subst hcs;cases sp with
    | none=>exact run_firstCells_none w size _ _ _
    | some ad=>exact run_firstCells_some w size (Nat.min sLen dLen) ad sLen sCap [] hn (fun j v h=>by cases h)
 simp only[Nat.add_zero] at hst;unfold Builtin.copy_;simp[run_underlying hu,Builtin.lenOf,hsz,hfc,hst,splice]
def fA (z:List Value):Nat->List Value
 | 0=>[]
 | n+1=>z++fA z n
theorem fD (z:List Value):∀n,(fA z n).length=n*z.length
 | 0=>by simp[fA]
 | n+1=>by rw[fA,List.length_append,fD z n,Nat.succ_mul,Nat.add_comm]
theorem pS (z:List Value):∀(n j:Nat),j<n*z.length->(fA z n)[j]?=z[j%z.length]?
 | 0,j,h=>by omega
 | n+1,j,h=>by
  have hz:0<z.length:=by
   rcases Nat.eq_zero_or_pos z.length with g | g
   · rw[g] at h;omega
   · exact g
  rw[fA];by_cases c:j<z.length
  · rw[List.getElem?_append_left c,Nat.mod_eq_of_lt c]
  · rw[List.getElem?_append_right (by omega),pS z n (j-z.length) (by rw[Nat.succ_mul] at h;omega),<- Nat.mod_eq_sub_mod (by omega)]
theorem rQ (z:Array Value) (n:Nat) (hz:0<z.size):(Builtin.zeroCells z n).toList=fA z.toList n:=by
 apply List.ext_getElem?;intro j;by_cases c:j<n*z.size
 · rw[pS z.toList n j (by simpa using c)];unfold Builtin.zeroCells;have hm:j%z.size<z.size:=Nat.mod_lt _ hz;simp[c,hm,getElem!_pos]
 · rw[List.getElem?_eq_none (by simp[Builtin.zeroCells];omega),List.getElem?_eq_none (by rw[fD];simp;omega)]
theorem vH (z:List Value) (h:∀u∈z,u.oneCell'=true):∀n,∀u∈fA z n,u.oneCell'=true
 | 0,u,hu=>by cases hu
 | n+1,u,hu=>by
  rcases List.mem_append.1 hu with g | g
  · exact h u g
  · exact vH z h n u g
theorem ym {P:Program} (w:World) (t ty elem:TypeId) (z:Value) (hu:P.underlying t=some (.slice elem)) (hv:∀w,(zeroValue elem).run P w=.ok z w) (hz:0<z.cells.size) (h1:∀u∈z.cells.toList,u.oneCell'=true) (g off n c:Nat)
  (cur:List Value) (te:TypeId) (hg:w.heap[g]?=some (.cells cur.toArray te (0,0))) (hfit:off+n*z.cells.size<=cur.length) :
  (Builtin.clear_ #[t] ty #[.slice (some (Ad g off)) n c]).run P w=.ok (.tuple #[]) (w.setRow g (splice cur off (fA z.cells.toList n)).toArray):=by
 have hzl:(fA z.cells.toList n).length=n*z.cells.size:=by rw[fD];simp
 have hst:=run_storeCells_at (P:=P) g off te (fA z.cells.toList n) 0 cur.toArray w hg (by simp[hzl];omega) (vH _ h1 n);simp only[Nat.add_zero] at hst;cases n with
 | zero =>
  unfold Builtin.clear_;have e:splice cur off (fA z.cells.toList 0)=cur:=by simp[splice,fA]
  rw[e,setRow_self w g cur.toArray te (0,0) hg];simp[run_underlying hu]
 | succ n =>
  unfold Builtin.clear_;simp[run_underlying hu,hv,rQ z.cells (n+1) hz,hst,splice]
end GK
namespace KW
open Go.RowKit GK
open FW (ai aD)
theorem Wk:(Tryz.prog.info? 211).map (fun i=>(i.zero,i.size,i.bytes))=some (some (.agg #[I 0,I 0,.bool false]),3,24):=by kernel_rfl
theorem Xf (a b c d e:Value):Tryz.prog.built 104 [(0,.agg #[a,b,c,d,e])]=some (m9 a b c d e nu):=by kernel_rfl
theorem Cz {P:Program} {ops:Array Oper} {rest:List Oper} {o:Oper} {a:Act} {w:World} {Q:Exit->Act->World->Prop} (hg:o.guard=none) (t:TypeId) (x:Operand) (ho:o.op=.build t #[(0,x)]) (v:Value) (hx:a.eval x=v) (cells:Array Value) (hb:P.built t [(0,v)]=some cells) (h:wpList P ops Q rest (a.put o.dst (.agg cells)) w):wpList P ops Q (o::rest) a w :=
 wpList_build hg t #[(0,x)] ho (by simp[hx,hb]) (by simpa [hx,hb] using h)
def zu (n:Nat):Array Value:=madeCells #[I 0,I 0,.bool false] (n*3)
theorem Y9 (V:World) (n:Nat) (hn:n<=1000):(Instr.makeSlice 162 (I (n:Int)) (I (n:Int))).run Tryz.prog V=.ok (.slice (some (Ad V.heap.size 0)) n n) (V.alloc (.cells (zu n) 211)):=by
 obtain⟨i0,hi,hz0,hz1,hz2⟩:=info_parts Wk;have h:=run_make (P:=Tryz.prog) V 162 211 i0 (.agg #[I 0,I 0,.bool false]) Tryz.underlying162 hi hz0 .i64 .i64 (n:Int) (n:Int) (by omega) (Int.le_refl _) (by rw[hz2];omega) (by omega);rw[hz1,Int.toNat_natCast] at h;exact h
theorem U0:∀n,fA [I 0,I 0,.bool false] n=(List.replicate n KM.gY).flatMap qx
 | 0=>rfl
 | n+1=>by rw[fA,U0 n,List.replicate_succ,List.flatMap_cons];rfl
theorem Nn (n:Nat):(zu n).toList=(List.replicate n KM.gY).flatMap qx:=by
 rw[<- U0];apply List.ext_getElem?;intro j;by_cases c:j<n*3
 · rw[pS [I 0,I 0,.bool false] n j c];unfold zu madeCells;have hm:j%3<3:=Nat.mod_lt _ (by omega);have h3:j%3=0∨j%3=1∨j%3=2:=by omega
   rcases h3 with h | h | h <;> simp[c,h]
 · rw[List.getElem?_eq_none (by simp[zu,madeCells];omega),List.getElem?_eq_none (by rw[fD];simp;omega)]
theorem Cx (n:Nat):(zu n).size=n*3:=by simp[zu,madeCells]
theorem Cy (lo:Nat) (V:World) (n:Nat) (hl:lo<=V.heap.size) (hn:n<=1000):iw lo (V.alloc (.cells (zu n) 211)) V.heap.size n n (List.replicate n KM.gY):=by
 refine⟨List.length_replicate,?_⟩;rw[<- Nn];refine⟨by rw[Array.length_toList,Cx],.inr ⟨V.heap.size,n,zu n,rfl,hl,B.new V (zu n) _,Nat.le_refl _,?_,by rw[Cx],?_⟩⟩
 · unfold maxLen;omega
 · rw[List.take_of_length_le (by rw[Array.length_toList,Cx];exact Nat.le_refl _)]
end KW
end Go.Proofs.YtpgifpeohlllfaaGreat
