import Derived.Test.YtpgifpeohlllfaaGreatGV09
import Derived.Test.YtpgifpeohlllfaaGreatGV10
import Derived.Lib.AppendZerosOnto
import Derived.Lib.Overlaps
set_option maxHeartbeats 20000000
set_option linter.unusedVariables false
set_option maxRecDepth 100000
set_option linter.unusedSimpArgs false
namespace Go.Proofs.YtpgifpeohlllfaaGreat
namespace Go.Proofs.YtpgifpeohlllfaaGreat
open Go.RowKit
theorem IY (w:World):Calls Tryz.prog 155 #[.string ⟨#[0]⟩,I 16] w fun e w'=>e=.returned (.string qp)/\Below w.heap.size w w' :=
 Tryz.strings_Repeat_main ⟨#[0]⟩ 16 w (by decide) (by decide) (by decide) (by decide)
theorem QX (s:pA) (n:Nat) (w:World) (hn:n<=1000) (hs:s.data.size<=100000) :
  Calls Tryz.prog 162 #[.agg #[I s.page,I s.aR,.string s.data,.bool s.wr,.bool s.ex],I n] w fun e w'=>e=.returned (.string (uG s n))/\Below w.heap.size w w':=by
 obtain⟨pg,pn,dt,wr,qZ0⟩:=s;simp only at hs;obtain⟨b,hb⟩:∃b:Nat,b=min (n*16) dt.size:=⟨_,rfl⟩;obtain⟨e,he⟩:∃e:Nat,e=min (b+16) dt.size:=⟨_,rfl⟩;have HPN:Hid (uG ⟨pg,pn,dt,wr,qZ0⟩ n=fU qp 0 (dt.extract b e)):=by
  show _=_
  grind [uG]
 have hbI:min ((n:Int)*16) (dt.size:Int)=(b:Int):=by omega
 have heI:min ((b:Int)+16) (dt.size:Int)=(e:Int):=by omega
 have h1:b<=e:=by omega
 have h2:e<=dt.size:=by omega
 have h3:e<=b+16:=by omega
 have HLY:Hid (∀V,Calls Tryz.prog 65 #[.string qp,I 0,.string (dt.extract b e)] V fun e w'=>e=.returned (.tuple #[.string (uG ⟨pg,pn,dt,wr,qZ0⟩ n),I 0])/\Below V.heap.size V w'):=fun V=>by
  rw[HPN.o];exact Hv qp (dt.extract b e) 0 V (by grind [Dr]) (by grind [Dr,Na])
 have BX:=aD (bG w #[I pg,I pn,.string dt,.bool wr,.bool qZ0] 145);have HB:=aD ((aK w.heap.size w).alloc (aM _) (.cells #[I pg,I pn,.string dt,.bool wr,.bool qZ0] 145));obtain⟨W,hW⟩:=ex (w.alloc (.cells #[I pg,I pn,.string dt,.bool wr,.bool qZ0] 145));rw[<- hW] at BX HB;have HW:=aD hW;clear hW hb he;have QR:=aO BX.o;have rB:=gw W;have hkc:=@gy W;have e2:∀x:dB W.heap.size W,x.world.cell? (Ad w.heap.size 2)=some (.string dt):=fun x=>by grind [aB,Hid.o]
 have HZ:Hid (∀V,Below W.heap.size W V->Calls Tryz.prog 155 #[.string ⟨#[0]⟩,I 16] V fun e w'=>e=.returned (.string qp)/\Below V.heap.size V w'):=fun V _=>IY V
 have GK:Hid (∀V,Below W.heap.size W V->Calls Tryz.prog 65 #[.string qp,I 0,.string (dt.extract b e)] V fun e w'=>e=.returned (.tuple #[.string (uG ⟨pg,pn,dt,wr,qZ0⟩ n),I 0])/\Below V.heap.size V w'):=fun V _=>HLY.o V
 clear hkc HLY;go_enter Tryz.func162,Tryz.ntmps162;go_wp2;rw[<- HW.o];refine cD (by rfl) (by kernel_rfl) ?_
 repeat (first | go_big_quiet_step ((first | (go_at_call 155;exact kV _ HZ.o) | (go_at_call 65;exact kV _ GK.o))) | quiet_step ((first | (go_at_call 155;exact kV _ HZ.o) | (go_at_call 65;exact kV _ GK.o))))
 refine fR ?_;intro _ hw';obtain⟨x,hw''⟩:=hw';subst hw'';go_wp2;go_ret;exact⟨rfl,HB.o.trans (x.keeps.mono HB.o.size)⟩
theorem ac3:(Tryz.prog.info? 52).map (fun i=>(i.zero,i.size,i.bytes))=some (some (.agg #[I 0,.string ⟨#[]⟩]),2,24):=by rfl
theorem OP (page:Int) (ps:List o6) (ao:Option Addr) (cap:Nat) (w:World) (h0:0<=page) (h1:page<=3000) (h:Jl w ao ps) (hn:ps.length<=1000) (hf:∀k,k<ps.length->UE (wu ps k)) :
  Calls Tryz.prog 163 #[I page,.slice ao ps.length cap] w fun e w'=>(∃v,e=.returned v/\w'.ownsRow w.heap.size 52 2 v (kQ page ps).length ((kQ page ps).flatMap Bz))/\Below w.heap.size w w':=by
 have HH:=aD h;have HF:=aD hf;clear h hf;obtain⟨i0,hi,hz0,hz1,hz2⟩:=iq ac3;go_enter Tryz.func163,Tryz.ntmps163;go_wp2;go_loopw [17,6] (fun i v wr=>∃k:Nat,k<=ps.length/\i=I k/\wr.ownsRow w.heap.size 52 2 v (kQ page (ps.take k)).length ((kQ page (ps.take k)).flatMap Bz)/\Below w.heap.size w wr) (fun i _ _=>ps.length-(intOf i).toNat)
 case atStart=>exact⟨0,by omega,rfl,km _ _ _ _,aK _ _⟩
 case round =>
  obtain⟨k,hk,rfl,hown,hb⟩:=hrel;have HOW:=aD hown;have sY:=aD hb;by_cases hlt:k<ps.length
  · obtain⟨b,off,hao,hbl,fG⟩:=(HH.o.below hb) (by omega);subst hao;obtain⟨c0,c1⟩:=fG k hlt;obtain⟨f1,f2,f3⟩:=HF.o k hlt;have HT:Hid (kQ page (ps.take (k+1))=kQ page (ps.take k)++CF page (wu ps k)):=by
     show _=_;rw[Uw ps aad k hlt,Pb];rfl
    have hlen:=Je page (ps.take k);rw[zL] at hlen;obtain⟨G,hG⟩:=ex (kQ page (ps.take k));rw[<- hG] at HOW HT hlen;obtain⟨p,hp⟩:=ex (wu ps k);rw[<- hp] at c0 c1 f1 f2 f3 HT;clear hG hp fG hb hown;obtain⟨P,by_⟩:=p;simp only at c0 c1 f1 f2 f3;have gK:=aD (sY.o.alloc sY.o.size (.cells #[I P,.string by_] 259));have Gg:=aD ((aK wr.heap.size wr).alloc (aM _) (.cells #[I P,.string by_] 259));obtain⟨A,hA⟩:=ex (max (page*16) P);obtain⟨E,hE⟩:=ex (min (page*16+16) (P+8));have hAb:page*16<=A/\P<=A/\A<=1000000:=by omega
    have hEb:E<=page*16+16/\E<=P+8:=by omega
    have hA':max (page*16) P=A:=hA.symm;have hE':min (page*16+16) (P+8)=E:=hE.symm;have ahz:Hid (CF page ⟨P,by_⟩=if A<E then [⟨A-page*16,by_.extract (A-P).toNat (A-P+(E-A)).toNat⟩] else []):=by
     show _=_;unfold CF;simp only;rw[hA',hE']
    clear hA hE;by_cases hAE:A<E
    · rw[ahz.o,bf hAE] at HT;obtain⟨u,hu⟩:∃u:Nat,A-P=(u:Int):=⟨(A-P).toNat,by omega⟩;obtain⟨n,hn⟩:∃n:Nat,E-A=(n:Int):=⟨(E-A).toNat,by omega⟩;have hun:(A-P+(E-A)).toNat=u+n:=by omega
      have hu2:(A-P).toNat=u:=by omega
      rw[hun,hu2] at HT;have HPT:Hid (∀V,Calls Tryz.prog 63 #[.string by_,I (A-P),I (E-A)] V fun e w'=>e=.returned (.tuple #[.string (by_.extract u (u+n)),I 0])/\Below V.heap.size V w'):=fun V=>by
       rw[hu,hn];exact Fa by_ u n V (by omega) (by omega)
      obtain⟨s,hs⟩:=ex (by_.extract u (u+n));rw[<- hs] at HPT HT;clear hu hn hun hu2 hs ahz;have aqe:¬E<=A:=by omega
      go_wp2_with (first
       | (go_at_call 63;refine(HPT.o _).mono ?_;rintro e w1 ⟨rfl,hb⟩;have cT:=aD (gK.o.trans (hb.mono gK.o.size));have am7:=aD ((Cz HOW.o (Gg.o.trans (hb.mono Gg.o.size))).alloc (.cells #[I (A-page*16),.string s] 52));have alj:=am7.o.lt;have QN:=aD (bG w1 #[I (A-page*16),.string s] 52);have BP:=aD (aQ (bG wr #[I P,.string by_] 259) hb (by simp));clear hb)
       | (at_builtin;refine Iq _ rfl _ _ 48 rfl w.heap.size 52 i0 (.agg #[I 0,.string ⟨#[]⟩]) 2 24 Tryz.underlying48 hi hz0 hz1 hz2 rfl (by decide) _ _ _ rfl am7.o (Ad w1.heap.size 0) 1 1 [I (A-page*16),.string s] rfl rfl (vU QN.o) (by intro u hu;simp at hu;rcases hu with rfl | rfl <;> rfl) (by decide) (by unfold maxLen;omega) (by omega) (by have:=cT.o.size;simp;omega) (w1.heap.size+1) (by simp) ?_;intro gg amB w2 hown2 hgrow agK Bl;have ahi:=aD hown2;have fq:=aD ((cT.o.alloc cT.o.size (.cells #[I (A-page*16),.string s] 52)).grown hgrow (by have:=cT.o.size;simp;omega) (fun q hq=>(alj _ hq).1));clear hown2 hgrow agK))
      go_roundw
      case rel=>exact⟨k+1,by omega,by go_num,by rw[HT.o,gh,tG];exact ahi.o,fq.o⟩
      case measure=>simp[intOf];omega
    · rw[ahz.o,bl hAE,Il] at HT;have aqe:E<=A:=by omega
      clear ahz;go_wp2;go_roundw
      case rel=>exact⟨k+1,by omega,by go_num,by rw[HT.o];exact HOW.o.alloc _,gK.o⟩
      case measure=>simp[intOf];omega
  · obtain rfl:k=ps.length:=by omega
    rw[tF] at HOW;clear hown hb;go_wp2;go_ret;exact⟨⟨_,rfl,HOW.o⟩,sY.o⟩
theorem Yf (d:ByteArray):d.toList.isEmpty=decide (d.size=0):=by
 rw[Ct];obtain⟨⟨l⟩⟩:=d;cases l with
 | nil=>rfl
 | cons a r=>rfl
theorem Le (d:ByteArray):(d.toList=[])=(d.size=0):=by
 rw[Ct];obtain⟨⟨l⟩⟩:=d
 grind [ByteArray.size]
theorem Gv (f:kj) (w:World):Calls Tryz.prog 168 #[.agg #[.string f.data,I f.refs,.bool f.fN,.bool f.seen]] w fun e w'=>e=.returned (.bool (mJ f))/\Below w.heap.size w w':=by
 obtain⟨d,r,dy,sn⟩:=f;unfold mJ;simp only;obtain⟨A,hA⟩:=ex (decide (d.size=0/\r=0/\dy=false/\sn=false));rw[<- hA];have HA:=ai hA;clear hA;go_enter Tryz.func168,Tryz.ntmps168;go_wp2
 all_goals
  go_ret;refine⟨fp (fun b=>Ending.returned (.bool b)) ?_,(aK _ _).alloc (aM _) _⟩
  grind [Le,Hid.o]
theorem aav:qp=uh:=by decide
theorem Ep (hs:List bM) (p:Int) (z:Bool) (mb:Nat) (w:World) (hfl:∀n:Nat,n<256->w.cell? (Ad mb (5+n))=some (.string (fM hs n))) (hp:0<=p/\p<256) :
  Calls Tryz.prog 119 #[.pointer (some (Ad mb 0)),I p,.bool z] w fun e w'=>e=.returned (.string (eH hs p z))/\Below w.heap.size w w':=by
 have HZ:Hid (∀V,Calls Tryz.prog 155 #[.string ⟨#[0]⟩,I 16] V fun e w'=>e=.returned (.string uh)/\Below V.heap.size V w'):=fun V=>by rw[<- aav];exact IY V
 cases z with
 | true =>
  have HF:Hid (eH hs p true=uh):=rfl;rw[HF.o];clear hfl;obtain⟨Z,hZ⟩:=ex uh;rw[<- hZ] at HZ ⊢;clear hZ HF;go_enter Tryz.func119,Tryz.ntmps119;go_wp2_with (go_at_call 155;refine(HZ.o _).mono ?_;rintro e w1 ⟨rfl,hb1⟩;have cT:=ai hb1;clear hb1)
  go_ret;exact⟨rfl,cT.o⟩
 | false =>
  obtain⟨n,rfl⟩:∃n:Nat,p=(n:Int):=⟨p.toNat,by omega⟩;have q:=hfl n (by omega);have HF:Hid (eH hs (n:Int) false=fM hs n):=rfl;rw[HF.o];obtain⟨D,hD⟩:=ex (fM hs (n:Int));rw[<- hD] at q ⊢;clear hD HF hfl HZ;go_enter Tryz.func119,Tryz.ntmps119;go_wp2;go_ret;exact⟨rfl,aK _ _⟩
theorem eV {P:Program} {f:FuncId} {args:Array Value} {v:Value} {w:World} (x:dB w.heap.size w) (h:∀W,Below w.heap.size w W->Calls P f args W fun e w'=>e=.returned v/\Below W.heap.size W w') :
  Calls P f args x.world fun e w''=>e=.returned v/\∃y:dB w.heap.size w,w''=y.world :=
 (h x.world x.keeps).mono fun e w'' ⟨he,hb⟩=>⟨he,⟨w'',x.keeps.trans (hb.mono x.keeps.size)⟩,rfl⟩
theorem Yg (x y:ByteArray):(x.toList==y.toList)=decide (x=y):=by
 rw[Ct,Ct];by_cases c:x=y
 · grind
 · rw[dE c,Cn];exact fun e=>c (by cases x;simp_all)
theorem Js (hs:List bM) (f:kj) (u:fK) (mb:Nat) (w:World) (hmb:mb<w.heap.size) (hfl:∀n:Nat,n<256->w.cell? (Ad mb (5+n))=some (.string (fM hs n))) (hp:u.refs≠0->0<=u.page/\u.page<256) (hd:bY f.data.size) :
  Calls Tryz.prog 151 #[.pointer (some (Ad mb 0)),.agg #[.string f.data,I f.refs,.bool f.fN,.bool f.seen],.agg #[I u.refs,I u.page,.bool u.zero]] w fun e w'=>e=.returned (.bool (jY hs f u))/\Below w.heap.size w w':=by
 obtain⟨A,hA⟩:=ex (jY hs f u);rw[<- hA];unfold jY at hA;have HA:=ai hA;have HIZ:=ai (fun V=>Gv f V);obtain⟨IZ,hIZ⟩:=ex (mJ f);rw[<- hIZ] at HA HIZ;clear hIZ;obtain⟨d,r,dy,sn⟩:=f;obtain⟨ur,up,uz⟩:=u;simp only at HA HIZ hp hd ⊢;unfold bY at hd;have HB:=ai (((aK w.heap.size w).alloc (aM _) (.cells #[.string d,I r,.bool dy,.bool sn] 40)).alloc (by simp) (.cells #[I ur,I up,.bool uz] 211));have ZL:=ai hfl;clear hA hfl;by_cases c:ur=0
 · subst c;rw[bf rfl] at HA;go_enter Tryz.func151,Tryz.ntmps151;go_wp2_with (go_at_call 168;refine(HIZ.o _).mono ?_;rintro e w1 ⟨rfl,hb1⟩;have cT:=ai (bZ HB.o hb1);clear hb1)
   go_ret;exact⟨fp (fun b=>Ending.returned (.bool b)) HA.o.symm,cT.o⟩
 · rw[bl c] at HA;have cb:(ur==0)=false:=by grind
   have xw:=hp c;clear HIZ hp;by_cases c1:r=ur
   · have c1b:(r != ur)=false:=by grind
     by_cases c2:d.size=16
     · have c2i:((d.size:Int) != 16)=false:=by grind
       have yo:Hid (A=(dy || decide (d=eH hs up uz))):=by grind
       have qN:Hid (∀V,Below w.heap.size w V->Calls Tryz.prog 119 #[.pointer (some (Ad mb 0)),I up,.bool uz] V fun e w'=>e=.returned (.string (eH hs up uz))/\Below V.heap.size V w'):=fun V hV=>Ep hs up uz mb V (fun n hn=>(hV.cell (p:=(Ad mb (5+n))) hmb).trans (ZL.o n hn)) xw
       obtain⟨FK,hFK⟩:=ex (eH hs up uz);rw[<- hFK] at yo qN;have BF:=ai (bE (bG w #[.string d,I r,.bool dy,.bool sn] 40) (.cells #[I ur,I up,.bool uz] 211));have BU:=ai (bG (w.alloc (.cells #[.string d,I r,.bool dy,.bool sn] 40)) #[I ur,I up,.bool uz] 211);rw[iJ] at BU;clear hFK HA c c1 c2;go_enter Tryz.func151,Tryz.ntmps151;go_wp2_with fail
       obtain⟨W,hW⟩:=ex ((w.alloc (.cells #[.string d,I r,.bool dy,.bool sn] 40)).alloc (.cells #[I ur,I up,.bool uz] 211));rw[<- hW] at HB BF BU ⊢;have rB:=gw W;have k0:∀x:dB W.heap.size W,x.world.cell? (Ad w.heap.size 0)=some (.string d):=fun x=>by grind [gy,aB,Hid.o]
       have k2:∀x:dB W.heap.size W,x.world.cell? (Ad w.heap.size 2)=some (.bool dy):=fun x=>by rw[gy x _ _ (aO BF.o)];simp_all
       have l1:∀x:dB W.heap.size W,x.world.cell? (Ad (w.heap.size+1) 1)=some (I up):=fun x=>by rw[gy x _ _ (aO BU.o)];simp_all
       have l2:∀x:dB W.heap.size W,x.world.cell? (Ad (w.heap.size+1) 2)=some (.bool uz):=fun x=>by rw[gy x _ _ (aO BU.o)];exact aB BU.o 2 rfl
       have ano:=ai (fun V (hV:Below W.heap.size W V)=>qN.o V (HB.o.trans (hV.mono HB.o.size)));clear hW qN BF BU;cases dy with
       | true =>
        have xD:Hid (A=true):=yo;clear yo;refine cD (by rfl) (by kernel_rfl) ?_
        repeat (first | go_big_quiet_step (fail) | quiet_step (fail))
        refine fR ?_;rintro _ ⟨x,rfl⟩;go_wp2;go_ret;exact⟨fp (fun b=>Ending.returned (.bool b)) xD.o.symm,HB.o.trans (x.keeps.mono HB.o.size)⟩
       | false =>
        have xD:Hid (A=(d.toList==FK.toList)):=by grind [Yg]
        clear yo;refine cD (by rfl) (by kernel_rfl) ?_
        repeat (first | go_big_quiet_step ((go_at_call 119;exact eV _ ano.o)) | quiet_step ((go_at_call 119;exact eV _ ano.o)))
        refine fR ?_;rintro _ ⟨x,rfl⟩;go_wp2;go_ret;exact⟨fp (fun b=>Ending.returned (.bool b)) xD.o.symm,HB.o.trans (x.keeps.mono HB.o.size)⟩
     · have c2i:((d.size:Int) != 16)=true:=by grind
       have yo:Hid (A=false):=by grind
       clear HA c c1 c2;go_enter Tryz.func151,Tryz.ntmps151;go_wp2;go_ret;exact⟨fp (fun b=>Ending.returned (.bool b)) yo.o.symm,HB.o⟩
   · have c1b:(r != ur)=true:=by grind
     have yo:Hid (A=false):=by grind
     clear HA c c1;go_enter Tryz.func151,Tryz.ntmps151;go_wp2;go_ret;exact⟨fp (fun b=>Ending.returned (.bool b)) yo.o.symm,HB.o⟩
theorem Te {n:Nat} {p:Nat->Bool} {i:Nat} (hi:i<n) (h:p i=false):(List.range n).all p=false:=by
 grind
theorem Pp {n:Nat} {p:Nat->Bool} (h:∀i,i<n->p i=true):(List.range n).all p=true:=by
 grind
theorem Hf (hs:List bM) (fs:List kj) (us:List fK) (aF:Option Addr) (cF mb lo g cap:Nat) (w:World) (hF:dz gq 4 gD w aF fs) (hU:ir lo w g fs.length cap us) (hmb:mb<w.heap.size) (qP:w.cell? (Ad mb 1)=some (.slice aF fs.length cF)) (hfl:∀n:Nat,n<256->w.cell? (Ad mb (5+n))=some (.string (fM hs n))) (hp:∀i,i<fs.length->(dO us i).refs≠0->0<=(dO us i).page/\(dO us i).page<256) (hd:∀i,i<fs.length->bY (au fs i).data.size) (hn:fs.length<=64) :
  Calls Tryz.prog 113 #[.pointer (some (Ad mb 0)),.slice (some (Ad g 0)) fs.length cap] w fun e w'=>e=.returned (.bool ((List.range fs.length).all fun i=>jY hs (au fs i) (dO us i)))/\Below w.heap.size w w':=by
 have HH:=ai hF;have HU:=ai hU;have hg:=hU.lt.2;have Hs:Hid (∀i,i<fs.length->∀V,Below w.heap.size w V->Calls Tryz.prog 151 #[.pointer (some (Ad mb 0)),.agg #[.string (au fs i).data,I (au fs i).refs,.bool (au fs i).fN,.bool (au fs i).seen],.agg #[I (dO us i).refs,I (dO us i).page,.bool (dO us i).zero]] V fun e w'=>e=.returned (.bool (jY hs (au fs i) (dO us i)))/\Below V.heap.size V w'):=fun i hi V hV=>Js hs _ _ mb V (jt hmb hV.size) (fun n hn=>(hV.cell (p:=(Ad mb (5+n))) hmb).trans (hfl n hn)) (hp i hi) (hd i hi)
 have pq:=ai (fun i (hi:i<fs.length)=>@Te fs.length (fun i=>jY hs (au fs i) (dO us i)) i hi);have vh:=ai (@Pp fs.length (fun i=>jY hs (au fs i) (dO us i)));obtain⟨A,hA⟩:=ex ((List.range fs.length).all fun i=>jY hs (au fs i) (dO us i));rw[<- hA] at pq vh ⊢;obtain⟨n,hnn⟩:=ex fs.length;rw[<- hnn] at HU Hs pq vh qP hn ⊢;have HNN:=ai hnn;clear hF hU hfl hp hd hA hnn;go_enter Tryz.func113,Tryz.ntmps113;go_wp2;go_loopw [13] (fun iv wr=>∃k:Nat,k<=n/\iv=I (k:Int)/\Below w.heap.size w wr/\∀i,i<k->jY hs (au fs i) (dO us i)=true) (fun iv _=>n-(intOf iv).toNat)
 case atStart=>grind [Below.refl]
 case round =>
  obtain⟨k,hk,rfl,hb,D3⟩:=hrel;have HB:=ai hb;have HP:=ai D3;clear D3;by_cases hlt:k<n
  · obtain⟨fb,fo,hao,hbl,fG⟩:=HH.o (by rw[<- HNN.o];omega);subst hao;have ce:∀j,j<4->wr.cell? (Ad fb (fo+k*4+j))=(gq (au fs k))[j]?:=fun j hj=>(hb.cell (p:=(Ad fb (fo+k*4+j))) hbl).trans (fG k (by rw[<- HNN.o];exact hlt) j hj)
    have y0:=ce 0 (by omega);have y1:=ce 1 (by omega);have y2:=ce 2 (by omega);have y3:=ce 3 (by omega);rw[gV] at y0;obtain⟨z0,z1,z2⟩:=HU.o.at k hlt;have Hs:=ai (Hs.o k hlt);have pq:=ai (pq.o k hlt);have Gh:Hid (jY hs (au fs k) (dO us k)=true->∀i,i<k+1->jY hs (au fs i) (dO us i)=true):=fun g i hi=>by
     by_cases e:i=k
     · rw[e];exact g
     · exact HP.o i (by omega)
    obtain⟨R,hR⟩:=ex (jY hs (au fs k) (dO us k));have pq:Hid (R=false->A=false):=fun g=>pq.o (by rw[<- hR];exact g)
    rw[<- hR] at Hs Gh;obtain⟨f,hf⟩:=ex (au fs k);obtain⟨u,hu⟩:=ex (dO us k);rw[<- hf] at Hs y0 y1 y2 y3;rw[<- hu] at Hs z0 z1 z2;obtain⟨d,r,dy,sn⟩:=f;obtain⟨ur,up,uz⟩:=u;simp only at Hs z0 z1 z2;have x0:wr.cell? (Ad fb (fo+k*4))=some (.string d):=y0;have x1:wr.cell? (Ad fb (fo+k*4+1))=some (I r):=y1;have x2:wr.cell? (Ad fb (fo+k*4+2))=some (.bool dy):=y2;have x3:wr.cell? (Ad fb (fo+k*4+3))=some (.bool sn):=y3;have agI:=hb.size;have gK:=ai (HB.o.alloc HB.o.size (.cells #[.string d,I r,.bool dy,.bool sn] 40));have BF:=ai (bG wr #[.string d,I r,.bool dy,.bool sn] 40);clear hR hf hu y0 y1 y2 y3 ce fG hb vh;go_wp2_with fail
    obtain⟨W,hW⟩:=ex (wr.alloc (.cells #[.string d,I r,.bool dy,.bool sn] 40));rw[<- hW] at gK BF ⊢;obtain⟨sb,DX⟩:=ex wr.heap.size;rw[<- DX] at BF ⊢;clear hW DX x0 x1 x2 x3;have rB:=gw W;have k0:∀x:dB W.heap.size W,x.world.cell? (Ad sb 0)=some (.string d):=fun x=>by rw[gy x _ _ (aO BF.o)];exact aB BF.o 0 rfl
    have k1:∀x:dB W.heap.size W,x.world.cell? (Ad sb 1)=some (I r):=fun x=>by rw[gy x _ _ (aO BF.o)];exact aB BF.o 1 rfl
    have k2:∀x:dB W.heap.size W,x.world.cell? (Ad sb 2)=some (.bool dy):=fun x=>by rw[gy x _ _ (aO BF.o)];exact aB BF.o 2 rfl
    have k3:∀x:dB W.heap.size W,x.world.cell? (Ad sb 3)=some (.bool sn):=fun x=>by rw[gy x _ _ (aO BF.o)];exact aB BF.o 3 rfl
    have hgW:g<W.heap.size:=by have:=gK.o.size;omega
    have l0:∀x:dB W.heap.size W,x.world.cell? (Ad g (k*3))=some (I ur):=fun x=>by rw[gy x _ _ hgW];exact(gK.o.cell (p:=(Ad g (k*3))) hg).trans z0
    have l1:∀x:dB W.heap.size W,x.world.cell? (Ad g (k*3+1))=some (I up):=fun x=>by rw[gy x _ _ hgW];exact(gK.o.cell (p:=(Ad g (k*3+1))) hg).trans z1
    have l2:∀x:dB W.heap.size W,x.world.cell? (Ad g (k*3+2))=some (.bool uz):=fun x=>by rw[gy x _ _ hgW];exact(gK.o.cell (p:=(Ad g (k*3+2))) hg).trans z2
    have ajS:=ai (fun V (hV:Below W.heap.size W V)=>Hs.o V (gK.o.trans (hV.mono gK.o.size)));have kk0:(0:Int)<=(k:Int):=by omega
    have kk1:(k:Int)<(n:Int):=by omega
    clear Hs BF z0 z1 z2;refine cD (by kernel_rfl) (by kernel_rfl) ?_
    repeat (first | go_big_quiet_step ((go_at_call 151;exact eV _ ajS.o)) | quiet_step ((go_at_call 151;exact eV _ ajS.o)))
    refine fR ?_;rintro _ ⟨x,rfl⟩;have oo:=ai (gK.o.trans (x.keeps.mono gK.o.size));clear k0 k1 k2 k3 l0 l1 l2 ajS;cases R with
    | false =>
     have HA:=ai (pq.o rfl);go_wp2;go_ret;exact⟨fp (fun b=>Ending.returned (.bool b)) HA.o.symm,oo.o⟩
    | true =>
     have FZ:=ai (Gh.o rfl);clear Gh pq;go_wp2;go_roundw
     case rel=>exact⟨k+1,by omega,by go_num,oo.o,FZ.o⟩
     case measure=>simp[intOf];omega
  · obtain rfl:k=n:=by omega
    have HA:=ai (vh.o HP.o);clear hb;go_wp2;go_ret;exact⟨fp (fun b=>Ending.returned (.bool b)) HA.o.symm,HB.o⟩
theorem Jr (fs:List mO) (us:List fK) (aF:Option Addr) (cF mb lo g cap:Nat) (w:World) (hF:dz gp 2 nU w aF fs) (hU:ir lo w g fs.length cap us) (qP:w.cell? (Ad mb 2)=some (.slice aF fs.length cF)) (hr:∀i,i<fs.length->0<=(dO us i).refs) (hd:∀i,i<fs.length->bY (bw fs i).data.size) (hn:fs.length<=512) :
  Calls Tryz.prog 114 #[.pointer (some (Ad mb 0)),.slice (some (Ad g 0)) fs.length cap] w fun e w'=>e=.returned (.bool ((List.range fs.length).all fun i=>l7 (bw fs i) (dO us i)))/\Below w.heap.size w w':=by
 have HH:=ai hF;have HU:=ai hU;have hg:=hU.lt.2;have pq:=ai (fun i (hi:i<fs.length)=>@Te fs.length (fun i=>l7 (bw fs i) (dO us i)) i hi);have vh:=ai (@Pp fs.length (fun i=>l7 (bw fs i) (dO us i)));have HR:=ai hr;have HD:=ai hd;obtain⟨A,hA⟩:=ex ((List.range fs.length).all fun i=>l7 (bw fs i) (dO us i));rw[<- hA] at pq vh ⊢;obtain⟨n,hnn⟩:=ex fs.length;rw[<- hnn] at HU pq vh HR HD qP hn ⊢;have HNN:=ai hnn;clear hF hU hr hd hA hnn;go_enter Tryz.func114,Tryz.ntmps114;go_wp2;go_loopw [14] (fun iv wr=>∃k:Nat,k<=n/\iv=I (k:Int)/\Below w.heap.size w wr/\∀i,i<k->l7 (bw fs i) (dO us i)=true) (fun iv _=>n-(intOf iv).toNat)
 case atStart=>grind [Below.refl]
 case round =>
  obtain⟨k,hk,rfl,hb,D3⟩:=hrel;have HB:=ai hb;have HP:=ai D3;clear D3;by_cases hlt:k<n
  · obtain⟨fb,fo,hao,hbl,fG⟩:=HH.o (by rw[<- HNN.o];omega);subst hao;have ce:∀j,j<2->wr.cell? (Ad fb (fo+k*2+j))=(gp (bw fs k))[j]?:=fun j hj=>(hb.cell (p:=(Ad fb (fo+k*2+j))) hbl).trans (fG k (by rw[<- HNN.o];exact hlt) j hj)
    have y0:=ce 0 (by omega);have y1:=ce 1 (by omega);rw[gV] at y0;obtain⟨a0,_,_⟩:=HU.o.at k hlt;have z0:=(hb.cell (p:=(Ad g (k*3))) hg).trans a0;have hrk:=HR.o k hlt;have hdk:=HD.o k hlt;unfold bY at hdk;have pq:=ai (pq.o k hlt);have Gh:Hid (l7 (bw fs k) (dO us k)=true->∀i,i<k+1->l7 (bw fs i) (dO us i)=true):=fun g i hi=>by
     by_cases e:i=k
     · rw[e];exact g
     · exact HP.o i (by omega)
    unfold l7 nz at pq Gh;obtain⟨f,hf⟩:=ex (bw fs k);obtain⟨u,hu⟩:=ex (dO us k);have FZ:Hid ((if u.refs=0 then decide (f.data.size=0/\f.refs=0) else decide (f.refs=u.refs/\f.data.size=16))=true->∀i,i<k+1->l7 (bw fs i) (dO us i)=true):=by rw[hf,hu];exact Gh
    have Dh:Hid ((if u.refs=0 then decide (f.data.size=0/\f.refs=0) else decide (f.refs=u.refs/\f.data.size=16))=false->A=false):=by rw[hf,hu];exact pq
    rw[<- hf] at y0 y1 hdk;rw[<- hu] at z0 hrk;obtain⟨d,r⟩:=f;obtain⟨ur,up,uz⟩:=u;simp only at FZ Dh z0 hrk hdk;have x0:wr.cell? (Ad fb (fo+k*2))=some (.string d):=y0;have x1:wr.cell? (Ad fb (fo+k*2+1))=some (I r):=y1;have agI:=hb.size;have G3:¬fb=wr.heap.size:=by omega
    have hgb:¬g=wr.heap.size:=by omega
    have gK:=ai (HB.o.alloc HB.o.size (.cells #[.string d,I r] 86));have kk0:(0:Int)<=(k:Int):=by omega
    have kk1:(k:Int)<(n:Int):=by omega
    have zA:(wr.alloc (.cells #[.string d,I r] 86)).cell? (Ad g (k*3))=some (I ur):=(NN ((aK wr.heap.size wr).alloc (aM _) _) (p:=(Ad g (k*3))) (by show g<_;omega)).trans z0;clear hf hu y0 y1 ce fG hb vh Gh pq a0;by_cases c:ur=0
    · subst c;rw[bf rfl] at FZ Dh;rcases(show(d.toList=[]/\r=0)∨(d.toList=[]/\¬r=0)∨¬d.toList=[] by
       by_cases a:d.toList=[]
       · by_cases b:r=0
         · exact .inl ⟨a,b⟩
         · exact .inr (.inl ⟨a,b⟩)
       · exact .inr (.inr a)) with⟨g1,g2⟩ | ⟨g1,g2⟩ | g1
      · have HP4:=ai (FZ.o (by rw[Le] at g1;exact dh ⟨g1,g2⟩));subst g2;clear FZ Dh;go_wp2;go_roundw
        case rel=>exact⟨k+1,by omega,by go_num,gK.o,HP4.o⟩
        case measure=>simp[intOf];omega
      · have HA:=ai (Dh.o (dE (fun x=>g2 x.2)));clear FZ Dh;go_wp2;go_ret;exact⟨fp (fun b=>Ending.returned (.bool b)) HA.o.symm,gK.o⟩
      · have HA:=ai (Dh.o (dE (fun x=>g1 (by rw[Le];exact x.1))));clear FZ Dh;go_wp2;go_ret;exact⟨fp (fun b=>Ending.returned (.bool b)) HA.o.symm,gK.o⟩
    · rw[bl c] at FZ Dh;have cb:(ur==0)=false:=by simpa using c
      have cp:0<ur:=by omega
      rcases(show(r=ur/\d.size=16)∨(r=ur/\¬d.size=16)∨¬r=ur by omega) with⟨g1,g2⟩ | ⟨g1,g2⟩ | g1
      · have HP4:=ai (FZ.o (dh ⟨g1,g2⟩));have b1:(r != ur)=false:=by simpa using g1
        have b2:((d.size:Int) != 16)=false:=by rw[bne_eq_false_iff_eq];omega
        clear FZ Dh g1 g2 c;go_wp2;go_roundw
        case rel=>exact⟨k+1,by omega,by go_num,gK.o,HP4.o⟩
        case measure=>simp[intOf];omega
      · have HA:=ai (Dh.o (dE (fun x=>g2 x.2)));have b1:(r != ur)=false:=by simpa using g1
        have b2:((d.size:Int) != 16)=true:=by rw[bne_iff_ne];omega
        clear FZ Dh g1 g2 c;go_wp2;go_ret;exact⟨fp (fun b=>Ending.returned (.bool b)) HA.o.symm,gK.o⟩
      · have HA:=ai (Dh.o (dE (fun x=>g1 x.1)));have b1:(r != ur)=true:=by simpa using g1
        clear FZ Dh g1 c;go_wp2;go_ret;exact⟨fp (fun b=>Ending.returned (.bool b)) HA.o.symm,gK.o⟩
  · obtain rfl:k=n:=by omega
    have HA:=ai (vh.o HP.o);clear hb;go_wp2;go_ret;exact⟨fp (fun b=>Ending.returned (.bool b)) HA.o.symm,HB.o⟩
theorem sH {P:Program} (w:World) (dT sT ty elem:TypeId) (size:Nat) (hu:P.underlying dT=some (.slice elem)) (hsz:∀w,(sizeOf elem).run P w=.ok size w) (g off dLen dCap:Nat) (sp:Option Addr) (sLen sCap:Nat)
  (cur:List Value) (t:TypeId) (hg:w.heap[g]?=some (.cells cur.toArray t (0,0))) (cs:List Value) (hn:cs.length=Nat.min sLen dLen*size) (hsrc:0<cs.length->∃ad,sp=some ad/\∀j v,cs[j]?=some v->w.cell? (ad.add j)=some v)
  (hfit:off+cs.length<=cur.length) (h1:∀v∈cs,v.oneCell'=true) :
  (Builtin.copy_ #[dT,sT] ty #[.slice (some (Ad g off)) dLen dCap,.slice sp sLen sCap]).run P w=.ok (goInt (Nat.min sLen dLen)) (w.setRow g (splice cur off cs).toArray):=by
 have hst:=run_storeCells_at (P:=P) g off t cs 0 cur.toArray w hg (by omega) h1;have hfc:(Builtin.firstCells size (Nat.min sLen dLen) (.slice sp sLen sCap)).run P w=.ok cs.toArray w:=by
  by_cases h0:0<cs.length
  · grind [run_firstCells_some]
  · have hcs:cs=[]:=jS (by omega);subst hcs;cases sp with
    | none=>rfl
    | some ad=>grind [run_firstCells_some]
 simp_all [Builtin.copy_,Ik,Builtin.lenOf,splice]
def jE (z:List Value):Nat->List Value
 | 0=>[]
 | n+1=>z++jE z n
theorem mh (z:List Value):∀n,(jE z n).length=n*z.length
 | 0=>by simp[jE]
 | n+1=>by rw[jE,gh,mh z n,Nat.succ_mul,Nat.add_comm]
theorem ze (z:List Value):∀(n j:Nat),j<n*z.length->(jE z n)[j]?=z[j%z.length]?
 | 0,j,h=>by omega
 | n+1,j,h=>by
  have hz:0<z.length:=by
   grind
  rw[jE];by_cases c:j<z.length
  · grind [Nat.mod_eq_of_lt]
  · rw[Ix (by omega),ze z n (j-z.length) (by grind),<- Nat.mod_eq_sub_mod (by omega)]
theorem A8 (z:Array Value) (n:Nat) (hz:0<z.size):(Builtin.zeroCells z n).toList=jE z.toList n:=by
 apply Ip
 grind [ze,Builtin.zeroCells,mh]
theorem E8 (z:List Value) (h:∀u∈z,u.oneCell'=true):∀n,∀u∈jE z n,u.oneCell'=true
 | 0,u,hu=>by cases hu
 | n+1,u,hu=>by
  rcases lT.1 hu with g | g
  · grind
  · exact E8 z h n u g
theorem J1 {P:Program} (w:World) (t ty elem:TypeId) (z:Value) (hu:P.underlying t=some (.slice elem)) (hv:∀w,(zeroValue elem).run P w=.ok z w) (hz:0<z.cells.size) (h1:∀u∈z.cells.toList,u.oneCell'=true) (g off n c:Nat)
  (cur:List Value) (te:TypeId) (hg:w.heap[g]?=some (.cells cur.toArray te (0,0))) (hfit:off+n*z.cells.size<=cur.length) :
  (Builtin.clear_ #[t] ty #[.slice (some (Ad g off)) n c]).run P w=.ok (.tuple #[]) (w.setRow g (splice cur off (jE z.cells.toList n)).toArray):=by
 have hzl:(jE z.cells.toList n).length=n*z.cells.size:=by grind [mh]
 have hst:=run_storeCells_at (P:=P) g off te (jE z.cells.toList n) 0 cur.toArray w hg (by grind) (E8 _ h1 n);simp only[gV] at hst;cases n with
 | zero =>
  unfold Builtin.clear_;have e:splice cur off (jE z.cells.toList 0)=cur:=by simp_all [splice]
  rw[e,setRow_self w g cur.toArray te (0,0) hg];simp[Ik hu]
 | succ n =>
  simp_all [Builtin.clear_,Ik,A8,splice]
theorem ac9:(Tryz.prog.info? 211).map (fun i=>(i.zero,i.size,i.bytes))=some (some (.agg #[I 0,I 0,.bool false]),3,24):=by rfl
theorem ada (a b c d e:Value):Tryz.prog.built 104 [(0,.agg #[a,b,c,d,e])]=some (mz a b c d e rH):=by kernel_rfl
theorem Ni {P:Program} {ops:Array Oper} {rest:List Oper} {o:Oper} {a:Act} {w:World} {Q:Exit->Act->World->Prop} (hg:o.guard=none) (t:TypeId) (x:Operand) (ho:o.op=.build t #[(0,x)]) (v:Value) (hx:a.eval x=v) (cells:Array Value) (hb:P.built t [(0,v)]=some cells) (h:wpList P ops Q rest (a.put o.dst (.agg cells)) w):wpList P ops Q (o::rest) a w :=
 wpList_build hg t #[(0,x)] ho (by grind) (by simpa [hx,hb] using h)
def vq (n:Nat):Array Value:=madeCells #[I 0,I 0,.bool false] (n*3)
theorem aca (V:World) (n:Nat) (hn:n<=1000):(Instr.makeSlice 162 (I (n:Int)) (I (n:Int))).run Tryz.prog V=.ok (.slice (some (Ad V.heap.size 0)) n n) (V.alloc (.cells (vq n) 211)):=by
 obtain⟨i0,hi,hz0,hz1,hz2⟩:=iq ac9;have h:=run_make (P:=Tryz.prog) V 162 211 i0 (.agg #[I 0,I 0,.bool false]) Tryz.underlying162 hi hz0 .i64 .i64 (n:Int) (n:Int) (by omega) (zG _) (by grind) (by omega);rw[hz1,iu] at h;exact h
theorem XY:∀n,jE [I 0,I 0,.bool false] n=(List.replicate n eB).flatMap ue
 | 0=>rfl
 | n+1=>by rw[jE,XY n,List.replicate_succ,pJ];rfl
theorem XX (n:Nat):(vq n).toList=(List.replicate n eB).flatMap ue:=by
 rw[<- XY];apply Ip
 grind [ze,vq,madeCells,mh]
theorem He (n:Nat):(vq n).size=n*3:=by simp[vq,madeCells]
theorem FM (lo:Nat) (V:World) (n:Nat) (hl:lo<=V.heap.size) (hn:n<=1000):ir lo (V.alloc (.cells (vq n) 211)) V.heap.size n n (List.replicate n eB):=by
 refine⟨Co,?_⟩;rw[<- XX];refine⟨by grind [He],.inr ⟨V.heap.size,n,vq n,rfl,hl,bG V (vq n) _,aM _,?_,by rw[He],?_⟩⟩
 · grind [maxLen]
 grind [Array.length_toList,He]
end Go.Proofs.YtpgifpeohlllfaaGreat
end Go.Proofs.YtpgifpeohlllfaaGreat
