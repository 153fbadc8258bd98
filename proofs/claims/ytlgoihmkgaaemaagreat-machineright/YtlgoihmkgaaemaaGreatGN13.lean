import Derived.Test.YtlgoihmkgaaemaaGreatGN11
import Derived.Test.YtlgoihmkgaaemaaGreatGN12
import Derived.Lib.AppendZerosOnto
import Derived.Lib.Overlaps
set_option maxHeartbeats 20000000
set_option linter.unusedVariables false
set_option maxRecDepth 100000
set_option linter.unusedSimpArgs false
namespace Go.Proofs.YtlgoihmkgaaemaaGreat
open Go.RowKit
theorem J8 (w:World):Calls Tryz.prog 170 #[.string ⟨#[0]⟩,I 16] w fun e w'=>e=.returned (.string qQ)/\Below w.heap.size w w' :=
 Tryz.strings_Repeat_main ⟨#[0]⟩ 16 w (by decide) (by decide) (by decide) (by decide)
theorem Sv (s:pL) (n:Nat) (w:World) (hn:n<=1000) (hs:s.data.size<=100000) :
  Calls Tryz.prog 113 #[.agg #[I s.page,I s.aQ,.string s.data,.bool s.wr,.bool s.ex],I n] w fun e w'=>e=.returned (.string (vW s n))/\Below w.heap.size w w':=by
 obtain⟨pg,pn,dt,wr,qZ0⟩:=s;simp only at hs;obtain⟨b,hb⟩:∃b:Nat,b=min (n*16) dt.size:=⟨_,rfl⟩;obtain⟨e,he⟩:∃e:Nat,e=min (b+16) dt.size:=⟨_,rfl⟩;have HPN:Hid (vW ⟨pg,pn,dt,wr,qZ0⟩ n=iC qQ 0 (dt.extract b e)):=by
  show _=_
  grind [vW]
 have hbI:min ((n:Int)*16) (dt.size:Int)=(b:Int):=by omega
 have heI:min ((b:Int)+16) (dt.size:Int)=(e:Int):=by omega
 have h1:b<=e:=by omega
 have h2:e<=dt.size:=by omega
 have h3:e<=b+16:=by omega
 have HLY:Hid (∀V,Calls Tryz.prog 124 #[.string qQ,I 0,.string (dt.extract b e)] V fun e w'=>e=.returned (.tuple #[.string (vW ⟨pg,pn,dt,wr,qZ0⟩ n),I 0])/\Below V.heap.size V w'):=fun V=>by
  rw[HPN.o];exact JF qQ (dt.extract b e) 0 V (by grind [EH]) (by grind [EH,Om])
 have BX:=aB (bE w #[I pg,I pn,.string dt,.bool wr,.bool qZ0] 166);have HB:=aB ((aK w.heap.size w).alloc (aI _) (.cells #[I pg,I pn,.string dt,.bool wr,.bool qZ0] 166));obtain⟨W,hW⟩:=ex (w.alloc (.cells #[I pg,I pn,.string dt,.bool wr,.bool qZ0] 166));rw[<- hW] at BX HB;have HW:=aB hW;clear hW hb he;have hbx:=aJ BX.o;have CL:=jq W;have hkc:=@fO W;have e2:∀x:dV W.heap.size W,x.world.cell? (Ad w.heap.size 2)=some (.string dt):=fun x=>by grind [au,Hid.o]
 have HZ:Hid (∀V,Below W.heap.size W V->Calls Tryz.prog 170 #[.string ⟨#[0]⟩,I 16] V fun e w'=>e=.returned (.string qQ)/\Below V.heap.size V w'):=fun V _=>J8 V
 have Bv:Hid (∀V,Below W.heap.size W V->Calls Tryz.prog 124 #[.string qQ,I 0,.string (dt.extract b e)] V fun e w'=>e=.returned (.tuple #[.string (vW ⟨pg,pn,dt,wr,qZ0⟩ n),I 0])/\Below V.heap.size V w'):=fun V _=>HLY.o V
 clear hkc HLY;go_enter Tryz.func113,Tryz.ntmps113;go_wp2;rw[<- HW.o];refine dx (by rfl) (by kernel_rfl) ?_
 repeat (first | go_big_quiet_step ((first | (go_at_call 170;exact zh _ HZ.o) | (go_at_call 124;exact zh _ Bv.o))) | quiet_step ((first | (go_at_call 170;exact zh _ HZ.o) | (go_at_call 124;exact zh _ Bv.o))))
 refine jk ?_;intro _ hw';obtain⟨x,hw''⟩:=hw';subst hw'';go_wp2;go_ret;exact⟨rfl,HB.o.trans (x.keeps.mono HB.o.size)⟩
theorem adY:(Tryz.prog.info? 226).map (fun i=>(i.zero,i.size,i.bytes))=some (some (.agg #[I 0,.string ⟨#[]⟩]),2,24):=by rfl
theorem Qi (page:Int) (ps:List py) (ao:Option Addr) (cap:Nat) (w:World) (h0:0<=page) (h1:page<=3000) (h:Kz w ao ps) (hn:ps.length<=1000) (hf:∀k,k<ps.length->VD (xQ ps k)) :
  Calls Tryz.prog 114 #[I page,.slice ao ps.length cap] w fun e w'=>(∃v,e=.returned v/\w'.ownsRow w.heap.size 226 2 v (kL page ps).length ((kL page ps).flatMap CV))/\Below w.heap.size w w':=by
 have HH:=aB h;have HF:=aB hf;clear h hf;obtain⟨i0,hi,hz0,hz1,hz2⟩:=ju adY;go_enter Tryz.func114,Tryz.ntmps114;go_wp2;go_loopw [17,6] (fun i v wr=>∃k:Nat,k<=ps.length/\i=I k/\wr.ownsRow w.heap.size 226 2 v (kL page (ps.take k)).length ((kL page (ps.take k)).flatMap CV)/\Below w.heap.size w wr) (fun i _ _=>ps.length-(intOf i).toNat)
 case atStart=>exact⟨0,by omega,rfl,mE _ _ _ _,aK _ _⟩
 case round =>
  obtain⟨k,hk,rfl,hown,hb⟩:=hrel;have HOW:=aB hown;have zJ:=aB hb;by_cases hlt:k<ps.length
  · obtain⟨b,off,hao,hbl,eY⟩:=(HH.o.below hb) (by omega);subst hao;obtain⟨c0,c1⟩:=eY k hlt;obtain⟨f1,f2,f3⟩:=HF.o k hlt;have HT:Hid (kL page (ps.take (k+1))=kL page (ps.take k)++DD page (xQ ps k)):=by
     show _=_;rw[Vv ps abl k hlt,Qy];rfl
    have hlen:=Kq page (ps.take k);rw[qM] at hlen;obtain⟨G,hG⟩:=ex (kL page (ps.take k));rw[<- hG] at HOW HT hlen;obtain⟨p,hp⟩:=ex (xQ ps k);rw[<- hp] at c0 c1 f1 f2 f3 HT;clear hG hp eY hb hown;obtain⟨P,by_⟩:=p;simp only at c0 c1 f1 f2 f3;have jV:=aB (zJ.o.alloc zJ.o.size (.cells #[I P,.string by_] 282));have Js:=aB ((aK wr.heap.size wr).alloc (aI _) (.cells #[I P,.string by_] 282));obtain⟨A,hA⟩:=ex (max (page*16) P);obtain⟨E,hE⟩:=ex (min (page*16+16) (P+8));have hAb:page*16<=A/\P<=A/\A<=1000000:=by omega
    have hEb:E<=page*16+16/\E<=P+8:=by omega
    have hA':max (page*16) P=A:=hA.symm;have hE':min (page*16+16) (P+8)=E:=hE.symm;have aiy:Hid (DD page ⟨P,by_⟩=if A<E then [⟨A-page*16,by_.extract (A-P).toNat (A-P+(E-A)).toNat⟩] else []):=by
     show _=_;unfold DD;simp only;rw[hA',hE']
    clear hA hE;by_cases hAE:A<E
    · rw[aiy.o,aC hAE] at HT;obtain⟨u,hu⟩:∃u:Nat,A-P=(u:Int):=⟨(A-P).toNat,by omega⟩;obtain⟨n,hn⟩:∃n:Nat,E-A=(n:Int):=⟨(E-A).toNat,by omega⟩;have hun:(A-P+(E-A)).toNat=u+n:=by omega
      have hu2:(A-P).toNat=u:=by omega
      rw[hun,hu2] at HT;have HPT:Hid (∀V,Calls Tryz.prog 171 #[.string by_,I (A-P),I (E-A)] V fun e w'=>e=.returned (.tuple #[.string (by_.extract u (u+n)),I 0])/\Below V.heap.size V w'):=fun V=>by
       rw[hu,hn];exact GH by_ u n V (by omega) (by omega)
      obtain⟨s,hs⟩:=ex (by_.extract u (u+n));rw[<- hs] at HPT HT;clear hu hn hun hu2 hs aiy;have aqX:¬E<=A:=by omega
      go_wp2_with (first
       | (go_at_call 171;refine(HPT.o _).mono ?_;rintro e w1 ⟨rfl,hb⟩;have cN:=aB (jV.o.trans (hb.mono jV.o.size));have anx:=aB ((Dy HOW.o (Js.o.trans (hb.mono Js.o.size))).alloc (.cells #[I (A-page*16),.string s] 226));have amb:=anx.o.lt;have HN1:=aB (bE w1 #[I (A-page*16),.string s] 226);have BP:=aB (aO (bE wr #[I P,.string by_] 282) hb (by simp));clear hb)
       | (at_builtin;refine Pf _ rfl _ _ 143 rfl w.heap.size 226 i0 (.agg #[I 0,.string ⟨#[]⟩]) 2 24 Tryz.underlying143 hi hz0 hz1 hz2 rfl (by decide) _ _ _ rfl anx.o (Ad w1.heap.size 0) 1 1 [I (A-page*16),.string s] rfl rfl (GJ HN1.o) (by intro u hu;simp at hu;rcases hu with rfl | rfl <;> rfl) (by decide) (by unfold maxLen;omega) (by omega) (by have:=cN.o.size;simp;omega) (w1.heap.size+1) (by simp) ?_;intro gg am9 w2 hown2 hgrow ahI JV;have aii:=aB hown2;have gQ:=aB ((cN.o.alloc cN.o.size (.cells #[I (A-page*16),.string s] 226)).grown hgrow (by have:=cN.o.size;simp;omega) (fun q hq=>(amb _ hq).1));clear hown2 hgrow ahI))
      go_roundw
      case rel=>exact⟨k+1,by omega,by go_num,by rw[HT.o,fK,xN];exact aii.o,gQ.o⟩
      case measure=>simp[intOf];omega
    · rw[aiy.o,aA hAE,Dl] at HT;have aqX:E<=A:=by omega
      clear aiy;go_wp2;go_roundw
      case rel=>exact⟨k+1,by omega,by go_num,by rw[HT.o];exact HOW.o.alloc _,jV.o⟩
      case measure=>simp[intOf];omega
  · obtain rfl:k=ps.length:=by omega
    rw[vK] at HOW;clear hown hb;go_wp2;go_ret;exact⟨⟨_,rfl,HOW.o⟩,zJ.o⟩
open Go.RowKit
theorem Y7 (d:ByteArray):d.toList.isEmpty=decide (d.size=0):=by
 rw[JT];obtain⟨⟨l⟩⟩:=d;cases l with
 | nil=>rfl
 | cons a r=>rfl
theorem Mr (d:ByteArray):(d.toList=[])=(d.size=0):=by
 rw[JT];obtain⟨⟨l⟩⟩:=d
 grind [ByteArray.size]
theorem Io (f:lQ) (w:World):Calls Tryz.prog 216 #[.agg #[.string f.data,I f.refs,.bool f.jo,.bool f.seen]] w fun e w'=>e=.returned (.bool (s7 f))/\Below w.heap.size w w':=by
 obtain⟨d,r,dy,sn⟩:=f;unfold s7;simp only;obtain⟨A,hA⟩:=ex (decide (d.size=0/\r=0/\dy=false/\sn=false));rw[<- hA];have HA:=ai hA;clear hA;go_enter Tryz.func216,Tryz.ntmps216;go_wp2
 all_goals
  go_ret;refine⟨dI (fun b=>Ending.returned (.bool b)) ?_,(aK _ _).alloc (aI _) _⟩
  grind [Mr,Hid.o]
theorem abG:qQ=vq:=by decide
theorem Ns (hs:List bJ) (p:Int) (z:Bool) (mb:Nat) (w:World) (hfl:∀n:Nat,n<256->w.cell? (Ad mb (5+n))=some (.string (fq hs n))) (hp:0<=p/\p<256) :
  Calls Tryz.prog 130 #[.pointer (some (Ad mb 0)),I p,.bool z] w fun e w'=>e=.returned (.string (gm hs p z))/\Below w.heap.size w w':=by
 have HZ:Hid (∀V,Calls Tryz.prog 170 #[.string ⟨#[0]⟩,I 16] V fun e w'=>e=.returned (.string vq)/\Below V.heap.size V w'):=fun V=>by rw[<- abG];exact J8 V
 cases z with
 | true =>
  have HF:Hid (gm hs p true=vq):=rfl;rw[HF.o];clear hfl;obtain⟨Z,hZ⟩:=ex vq;rw[<- hZ] at HZ ⊢;clear hZ HF;go_enter Tryz.func130,Tryz.ntmps130;go_wp2_with (go_at_call 170;refine(HZ.o _).mono ?_;rintro e w1 ⟨rfl,hb1⟩;have cN:=ai hb1;clear hb1)
  go_ret;exact⟨rfl,cN.o⟩
 | false =>
  obtain⟨n,rfl⟩:∃n:Nat,p=(n:Int):=⟨p.toNat,by omega⟩;have q:=hfl n (by omega);have HF:Hid (gm hs (n:Int) false=fq hs n):=rfl;rw[HF.o];obtain⟨D,hD⟩:=ex (fq hs (n:Int));rw[<- hD] at q ⊢;clear hD HF hfl HZ;go_enter Tryz.func130,Tryz.ntmps130;go_wp2;go_ret;exact⟨rfl,aK _ _⟩
open Go.RowKit
theorem gj {P:Program} {f:FuncId} {args:Array Value} {v:Value} {w:World} (x:dV w.heap.size w) (h:∀W,Below w.heap.size w W->Calls P f args W fun e w'=>e=.returned v/\Below W.heap.size W w') :
  Calls P f args x.world fun e w''=>e=.returned v/\∃y:dV w.heap.size w,w''=y.world :=
 (h x.world x.keeps).mono fun e w'' ⟨he,hb⟩=>⟨he,⟨w'',x.keeps.trans (hb.mono x.keeps.size)⟩,rfl⟩
theorem af3 (x y:ByteArray):(x.toList==y.toList)=decide (x=y):=by
 rw[JT,JT];by_cases c:x=y
 · grind
 · rw[jl c,mF];exact fun e=>c (by cases x;simp_all)
theorem KL (hs:List bJ) (f:lQ) (u:fe) (mb:Nat) (w:World) (hmb:mb<w.heap.size) (hfl:∀n:Nat,n<256->w.cell? (Ad mb (5+n))=some (.string (fq hs n))) (hp:u.refs≠0->0<=u.page/\u.page<256) (hd:cB f.data.size) :
  Calls Tryz.prog 192 #[.pointer (some (Ad mb 0)),.agg #[.string f.data,I f.refs,.bool f.jo,.bool f.seen],.agg #[I u.refs,I u.page,.bool u.zero]] w fun e w'=>e=.returned (.bool (jN hs f u))/\Below w.heap.size w w':=by
 obtain⟨A,hA⟩:=ex (jN hs f u);rw[<- hA];unfold jN at hA;have HA:=ai hA;have HIZ:=ai (fun V=>Io f V);obtain⟨IZ,hIZ⟩:=ex (s7 f);rw[<- hIZ] at HA HIZ;clear hIZ;obtain⟨d,r,dy,sn⟩:=f;obtain⟨ur,up,uz⟩:=u;simp only at HA HIZ hp hd ⊢;unfold cB at hd;have HB:=ai (((aK w.heap.size w).alloc (aI _) (.cells #[.string d,I r,.bool dy,.bool sn] 169)).alloc (by simp) (.cells #[I ur,I up,.bool uz] 302));have HFL:=ai hfl;clear hA hfl;by_cases c:ur=0
 · subst c;rw[aC rfl] at HA;go_enter Tryz.func192,Tryz.ntmps192;go_wp2_with (go_at_call 216;refine(HIZ.o _).mono ?_;rintro e w1 ⟨rfl,hb1⟩;have cN:=ai (bX HB.o hb1);clear hb1)
   go_ret;exact⟨dI (fun b=>Ending.returned (.bool b)) HA.o.symm,cN.o⟩
 · rw[aA c] at HA;have cb:(ur==0)=false:=by grind
   have Hb:=hp c;clear HIZ hp;by_cases c1:r=ur
   · have c1b:(r != ur)=false:=by grind
     by_cases c2:d.size=16
     · have c2i:((d.size:Int) != 16)=false:=by grind
       have EU:Hid (A=(dy || decide (d=gm hs up uz))):=by grind
       have Ay:Hid (∀V,Below w.heap.size w V->Calls Tryz.prog 130 #[.pointer (some (Ad mb 0)),I up,.bool uz] V fun e w'=>e=.returned (.string (gm hs up uz))/\Below V.heap.size V w'):=fun V hV=>Ns hs up uz mb V (fun n hn=>(hV.cell (p:=(Ad mb (5+n))) hmb).trans (HFL.o n hn)) Hb
       obtain⟨FK,hFK⟩:=ex (gm hs up uz);rw[<- hFK] at EU Ay;have BF:=ai (br (bE w #[.string d,I r,.bool dy,.bool sn] 169) (.cells #[I ur,I up,.bool uz] 302));have BU:=ai (bE (w.alloc (.cells #[.string d,I r,.bool dy,.bool sn] 169)) #[I ur,I up,.bool uz] 302);rw[fF] at BU;clear hFK HA c c1 c2;go_enter Tryz.func192,Tryz.ntmps192;go_wp2_with fail
       obtain⟨W,hW⟩:=ex ((w.alloc (.cells #[.string d,I r,.bool dy,.bool sn] 169)).alloc (.cells #[I ur,I up,.bool uz] 302));rw[<- hW] at HB BF BU ⊢;have CL:=jq W;have k0:∀x:dV W.heap.size W,x.world.cell? (Ad w.heap.size 0)=some (.string d):=fun x=>by grind [fO,au,Hid.o]
       have k2:∀x:dV W.heap.size W,x.world.cell? (Ad w.heap.size 2)=some (.bool dy):=fun x=>by rw[fO x _ _ (aJ BF.o)];simp_all
       have l1:∀x:dV W.heap.size W,x.world.cell? (Ad (w.heap.size+1) 1)=some (I up):=fun x=>by rw[fO x _ _ (aJ BU.o)];simp_all
       have l2:∀x:dV W.heap.size W,x.world.cell? (Ad (w.heap.size+1) 2)=some (.bool uz):=fun x=>by rw[fO x _ _ (aJ BU.o)];exact au BU.o 2 rfl
       have anM:=ai (fun V (hV:Below W.heap.size W V)=>Ay.o V (HB.o.trans (hV.mono HB.o.size)));clear hW Ay BF BU;cases dy with
       | true =>
        have Cu:Hid (A=true):=EU;clear EU;refine dx (by rfl) (by kernel_rfl) ?_
        repeat (first | go_big_quiet_step (fail) | quiet_step (fail))
        refine jk ?_;rintro _ ⟨x,rfl⟩;go_wp2;go_ret;exact⟨dI (fun b=>Ending.returned (.bool b)) Cu.o.symm,HB.o.trans (x.keeps.mono HB.o.size)⟩
       | false =>
        have Cu:Hid (A=(d.toList==FK.toList)):=by grind [af3]
        clear EU;refine dx (by rfl) (by kernel_rfl) ?_
        repeat (first | go_big_quiet_step ((go_at_call 130;exact gj _ anM.o)) | quiet_step ((go_at_call 130;exact gj _ anM.o)))
        refine jk ?_;rintro _ ⟨x,rfl⟩;go_wp2;go_ret;exact⟨dI (fun b=>Ending.returned (.bool b)) Cu.o.symm,HB.o.trans (x.keeps.mono HB.o.size)⟩
     · have c2i:((d.size:Int) != 16)=true:=by grind
       have EU:Hid (A=false):=by grind
       clear HA c c1 c2;go_enter Tryz.func192,Tryz.ntmps192;go_wp2;go_ret;exact⟨dI (fun b=>Ending.returned (.bool b)) EU.o.symm,HB.o⟩
   · have c1b:(r != ur)=true:=by grind
     have EU:Hid (A=false):=by grind
     clear HA c c1;go_enter Tryz.func192,Tryz.ntmps192;go_wp2;go_ret;exact⟨dI (fun b=>Ending.returned (.bool b)) EU.o.symm,HB.o⟩
open Go.RowKit
theorem Ui {n:Nat} {p:Nat->Bool} {i:Nat} (hi:i<n) (h:p i=false):(List.range n).all p=false:=by
 grind
theorem QI {n:Nat} {p:Nat->Bool} (h:∀i,i<n->p i=true):(List.range n).all p=true:=by
 grind
theorem Jm (hs:List bJ) (fs:List lQ) (us:List fe) (aF:Option Addr) (cF mb lo g cap:Nat) (w:World) (hF:dW iO 4 gM w aF fs) (hU:ic lo w g fs.length cap us) (hmb:mb<w.heap.size) (nJ:w.cell? (Ad mb 1)=some (.slice aF fs.length cF)) (hfl:∀n:Nat,n<256->w.cell? (Ad mb (5+n))=some (.string (fq hs n))) (hp:∀i,i<fs.length->(cX us i).refs≠0->0<=(cX us i).page/\(cX us i).page<256) (hd:∀i,i<fs.length->cB (aH fs i).data.size) (hn:fs.length<=64) :
  Calls Tryz.prog 144 #[.pointer (some (Ad mb 0)),.slice (some (Ad g 0)) fs.length cap] w fun e w'=>e=.returned (.bool ((List.range fs.length).all fun i=>jN hs (aH fs i) (cX us i)))/\Below w.heap.size w w':=by
 have HH:=ai hF;have HU:=ai hU;have hg:=hU.lt.2;have Lu:Hid (∀i,i<fs.length->∀V,Below w.heap.size w V->Calls Tryz.prog 192 #[.pointer (some (Ad mb 0)),.agg #[.string (aH fs i).data,I (aH fs i).refs,.bool (aH fs i).jo,.bool (aH fs i).seen],.agg #[I (cX us i).refs,I (cX us i).page,.bool (cX us i).zero]] V fun e w'=>e=.returned (.bool (jN hs (aH fs i) (cX us i)))/\Below V.heap.size V w'):=fun i hi V hV=>KL hs _ _ mb V (fL hmb hV.size) (fun n hn=>(hV.cell (p:=(Ad mb (5+n))) hmb).trans (hfl n hn)) (hp i hi) (hd i hi)
 have uZ:=ai (fun i (hi:i<fs.length)=>@Ui fs.length (fun i=>jN hs (aH fs i) (cX us i)) i hi);have E6:=ai (@QI fs.length (fun i=>jN hs (aH fs i) (cX us i)));obtain⟨A,hA⟩:=ex ((List.range fs.length).all fun i=>jN hs (aH fs i) (cX us i));rw[<- hA] at uZ E6 ⊢;obtain⟨n,hnn⟩:=ex fs.length;rw[<- hnn] at HU Lu uZ E6 nJ hn ⊢;have HNN:=ai hnn;clear hF hU hfl hp hd hA hnn;go_enter Tryz.func144,Tryz.ntmps144;go_wp2;go_loopw [13] (fun iv wr=>∃k:Nat,k<=n/\iv=I (k:Int)/\Below w.heap.size w wr/\∀i,i<k->jN hs (aH fs i) (cX us i)=true) (fun iv _=>n-(intOf iv).toNat)
 case atStart=>grind [Below.refl]
 case round =>
  obtain⟨k,hk,rfl,hb,Fe⟩:=hrel;have HB:=ai hb;have HP:=ai Fe;clear Fe;by_cases hlt:k<n
  · obtain⟨fb,fo,hao,hbl,eY⟩:=HH.o (by rw[<- HNN.o];omega);subst hao;have ce:∀j,j<4->wr.cell? (Ad fb (fo+k*4+j))=(iO (aH fs k))[j]?:=fun j hj=>(hb.cell (p:=(Ad fb (fo+k*4+j))) hbl).trans (eY k (by rw[<- HNN.o];exact hlt) j hj)
    have y0:=ce 0 (by omega);have y1:=ce 1 (by omega);have y2:=ce 2 (by omega);have y3:=ce 3 (by omega);rw[kW] at y0;obtain⟨z0,z1,z2⟩:=HU.o.at k hlt;have Lu:=ai (Lu.o k hlt);have uZ:=ai (uZ.o k hlt);have XT:Hid (jN hs (aH fs k) (cX us k)=true->∀i,i<k+1->jN hs (aH fs i) (cX us i)=true):=fun g i hi=>by
     by_cases e:i=k
     · rw[e];exact g
     · exact HP.o i (by omega)
    obtain⟨R,hR⟩:=ex (jN hs (aH fs k) (cX us k));have uZ:Hid (R=false->A=false):=fun g=>uZ.o (by rw[<- hR];exact g)
    rw[<- hR] at Lu XT;obtain⟨f,hf⟩:=ex (aH fs k);obtain⟨u,hu⟩:=ex (cX us k);rw[<- hf] at Lu y0 y1 y2 y3;rw[<- hu] at Lu z0 z1 z2;obtain⟨d,r,dy,sn⟩:=f;obtain⟨ur,up,uz⟩:=u;simp only at Lu z0 z1 z2;have x0:wr.cell? (Ad fb (fo+k*4))=some (.string d):=y0;have x1:wr.cell? (Ad fb (fo+k*4+1))=some (I r):=y1;have x2:wr.cell? (Ad fb (fo+k*4+2))=some (.bool dy):=y2;have x3:wr.cell? (Ad fb (fo+k*4+3))=some (.bool sn):=y3;have ahF:=hb.size;have jV:=ai (HB.o.alloc HB.o.size (.cells #[.string d,I r,.bool dy,.bool sn] 169));have BF:=ai (bE wr #[.string d,I r,.bool dy,.bool sn] 169);clear hR hf hu y0 y1 y2 y3 ce eY hb E6;go_wp2_with fail
    obtain⟨W,hW⟩:=ex (wr.alloc (.cells #[.string d,I r,.bool dy,.bool sn] 169));rw[<- hW] at jV BF ⊢;obtain⟨sb,Jc⟩:=ex wr.heap.size;rw[<- Jc] at BF ⊢;clear hW Jc x0 x1 x2 x3;have CL:=jq W;have k0:∀x:dV W.heap.size W,x.world.cell? (Ad sb 0)=some (.string d):=fun x=>by rw[fO x _ _ (aJ BF.o)];exact au BF.o 0 rfl
    have k1:∀x:dV W.heap.size W,x.world.cell? (Ad sb 1)=some (I r):=fun x=>by rw[fO x _ _ (aJ BF.o)];exact au BF.o 1 rfl
    have k2:∀x:dV W.heap.size W,x.world.cell? (Ad sb 2)=some (.bool dy):=fun x=>by rw[fO x _ _ (aJ BF.o)];exact au BF.o 2 rfl
    have k3:∀x:dV W.heap.size W,x.world.cell? (Ad sb 3)=some (.bool sn):=fun x=>by rw[fO x _ _ (aJ BF.o)];exact au BF.o 3 rfl
    have hgW:g<W.heap.size:=by have:=jV.o.size;omega
    have l0:∀x:dV W.heap.size W,x.world.cell? (Ad g (k*3))=some (I ur):=fun x=>by rw[fO x _ _ hgW];exact(jV.o.cell (p:=(Ad g (k*3))) hg).trans z0
    have l1:∀x:dV W.heap.size W,x.world.cell? (Ad g (k*3+1))=some (I up):=fun x=>by rw[fO x _ _ hgW];exact(jV.o.cell (p:=(Ad g (k*3+1))) hg).trans z1
    have l2:∀x:dV W.heap.size W,x.world.cell? (Ad g (k*3+2))=some (.bool uz):=fun x=>by rw[fO x _ _ hgW];exact(jV.o.cell (p:=(Ad g (k*3+2))) hg).trans z2
    have ak1:=ai (fun V (hV:Below W.heap.size W V)=>Lu.o V (jV.o.trans (hV.mono jV.o.size)));have kk0:(0:Int)<=(k:Int):=by omega
    have kk1:(k:Int)<(n:Int):=by omega
    clear Lu BF z0 z1 z2;refine dx (by kernel_rfl) (by kernel_rfl) ?_
    repeat (first | go_big_quiet_step ((go_at_call 192;exact gj _ ak1.o)) | quiet_step ((go_at_call 192;exact gj _ ak1.o)))
    refine jk ?_;rintro _ ⟨x,rfl⟩;have lh:=ai (jV.o.trans (x.keeps.mono jV.o.size));clear k0 k1 k2 k3 l0 l1 l2 ak1;cases R with
    | false =>
     have HA:=ai (uZ.o rfl);go_wp2;go_ret;exact⟨dI (fun b=>Ending.returned (.bool b)) HA.o.symm,lh.o⟩
    | true =>
     have Wz:=ai (XT.o rfl);clear XT uZ;go_wp2;go_roundw
     case rel=>exact⟨k+1,by omega,by go_num,lh.o,Wz.o⟩
     case measure=>simp[intOf];omega
  · obtain rfl:k=n:=by omega
    have HA:=ai (E6.o HP.o);clear hb;go_wp2;go_ret;exact⟨dI (fun b=>Ending.returned (.bool b)) HA.o.symm,HB.o⟩
open Go.RowKit
theorem KJ (fs:List oZ) (us:List fe) (aF:Option Addr) (cF mb lo g cap:Nat) (w:World) (hF:dW iN 2 nK w aF fs) (hU:ic lo w g fs.length cap us) (nJ:w.cell? (Ad mb 2)=some (.slice aF fs.length cF)) (hr:∀i,i<fs.length->0<=(cX us i).refs) (hd:∀i,i<fs.length->cB (bH fs i).data.size) (hn:fs.length<=512) :
  Calls Tryz.prog 145 #[.pointer (some (Ad mb 0)),.slice (some (Ad g 0)) fs.length cap] w fun e w'=>e=.returned (.bool ((List.range fs.length).all fun i=>l9 (bH fs i) (cX us i)))/\Below w.heap.size w w':=by
 have HH:=ai hF;have HU:=ai hU;have hg:=hU.lt.2;have uZ:=ai (fun i (hi:i<fs.length)=>@Ui fs.length (fun i=>l9 (bH fs i) (cX us i)) i hi);have E6:=ai (@QI fs.length (fun i=>l9 (bH fs i) (cX us i)));have HR:=ai hr;have HD:=ai hd;obtain⟨A,hA⟩:=ex ((List.range fs.length).all fun i=>l9 (bH fs i) (cX us i));rw[<- hA] at uZ E6 ⊢;obtain⟨n,hnn⟩:=ex fs.length;rw[<- hnn] at HU uZ E6 HR HD nJ hn ⊢;have HNN:=ai hnn;clear hF hU hr hd hA hnn;go_enter Tryz.func145,Tryz.ntmps145;go_wp2;go_loopw [14] (fun iv wr=>∃k:Nat,k<=n/\iv=I (k:Int)/\Below w.heap.size w wr/\∀i,i<k->l9 (bH fs i) (cX us i)=true) (fun iv _=>n-(intOf iv).toNat)
 case atStart=>grind [Below.refl]
 case round =>
  obtain⟨k,hk,rfl,hb,Fe⟩:=hrel;have HB:=ai hb;have HP:=ai Fe;clear Fe;by_cases hlt:k<n
  · obtain⟨fb,fo,hao,hbl,eY⟩:=HH.o (by rw[<- HNN.o];omega);subst hao;have ce:∀j,j<2->wr.cell? (Ad fb (fo+k*2+j))=(iN (bH fs k))[j]?:=fun j hj=>(hb.cell (p:=(Ad fb (fo+k*2+j))) hbl).trans (eY k (by rw[<- HNN.o];exact hlt) j hj)
    have y0:=ce 0 (by omega);have y1:=ce 1 (by omega);rw[kW] at y0;obtain⟨a0,_,_⟩:=HU.o.at k hlt;have z0:=(hb.cell (p:=(Ad g (k*3))) hg).trans a0;have hrk:=HR.o k hlt;have hdk:=HD.o k hlt;unfold cB at hdk;have uZ:=ai (uZ.o k hlt);have XT:Hid (l9 (bH fs k) (cX us k)=true->∀i,i<k+1->l9 (bH fs i) (cX us i)=true):=fun g i hi=>by
     by_cases e:i=k
     · rw[e];exact g
     · exact HP.o i (by omega)
    unfold l9 tS at uZ XT;obtain⟨f,hf⟩:=ex (bH fs k);obtain⟨u,hu⟩:=ex (cX us k);have Wz:Hid ((if u.refs=0 then decide (f.data.size=0/\f.refs=0) else decide (f.refs=u.refs/\f.data.size=16))=true->∀i,i<k+1->l9 (bH fs i) (cX us i)=true):=by rw[hf,hu];exact XT
    have Ei:Hid ((if u.refs=0 then decide (f.data.size=0/\f.refs=0) else decide (f.refs=u.refs/\f.data.size=16))=false->A=false):=by rw[hf,hu];exact uZ
    rw[<- hf] at y0 y1 hdk;rw[<- hu] at z0 hrk;obtain⟨d,r⟩:=f;obtain⟨ur,up,uz⟩:=u;simp only at Wz Ei z0 hrk hdk;have x0:wr.cell? (Ad fb (fo+k*2))=some (.string d):=y0;have x1:wr.cell? (Ad fb (fo+k*2+1))=some (I r):=y1;have ahF:=hb.size;have L4:¬fb=wr.heap.size:=by omega
    have hgb:¬g=wr.heap.size:=by omega
    have jV:=ai (HB.o.alloc HB.o.size (.cells #[.string d,I r] 171));have kk0:(0:Int)<=(k:Int):=by omega
    have kk1:(k:Int)<(n:Int):=by omega
    have zA:(wr.alloc (.cells #[.string d,I r] 171)).cell? (Ad g (k*3))=some (I ur):=(O9 ((aK wr.heap.size wr).alloc (aI _) _) (p:=(Ad g (k*3))) (by show g<_;omega)).trans z0;clear hf hu y0 y1 ce eY hb E6 XT uZ a0;by_cases c:ur=0
    · subst c;rw[aC rfl] at Wz Ei;rcases(show(d.toList=[]/\r=0)∨(d.toList=[]/\¬r=0)∨¬d.toList=[] by
       by_cases a:d.toList=[]
       · by_cases b:r=0
         · exact .inl ⟨a,b⟩
         · exact .inr (.inl ⟨a,b⟩)
       · exact .inr (.inr a)) with⟨g1,g2⟩ | ⟨g1,g2⟩ | g1
      · have HP4:=ai (Wz.o (by rw[Mr] at g1;exact gZ ⟨g1,g2⟩));subst g2;clear Wz Ei;go_wp2;go_roundw
        case rel=>exact⟨k+1,by omega,by go_num,jV.o,HP4.o⟩
        case measure=>simp[intOf];omega
      · have HA:=ai (Ei.o (jl (fun x=>g2 x.2)));clear Wz Ei;go_wp2;go_ret;exact⟨dI (fun b=>Ending.returned (.bool b)) HA.o.symm,jV.o⟩
      · have HA:=ai (Ei.o (jl (fun x=>g1 (by rw[Mr];exact x.1))));clear Wz Ei;go_wp2;go_ret;exact⟨dI (fun b=>Ending.returned (.bool b)) HA.o.symm,jV.o⟩
    · rw[aA c] at Wz Ei;have cb:(ur==0)=false:=by simpa using c
      have cp:0<ur:=by omega
      rcases(show(r=ur/\d.size=16)∨(r=ur/\¬d.size=16)∨¬r=ur by omega) with⟨g1,g2⟩ | ⟨g1,g2⟩ | g1
      · have HP4:=ai (Wz.o (gZ ⟨g1,g2⟩));have b1:(r != ur)=false:=by simpa using g1
        have b2:((d.size:Int) != 16)=false:=by rw[bne_eq_false_iff_eq];omega
        clear Wz Ei g1 g2 c;go_wp2;go_roundw
        case rel=>exact⟨k+1,by omega,by go_num,jV.o,HP4.o⟩
        case measure=>simp[intOf];omega
      · have HA:=ai (Ei.o (jl (fun x=>g2 x.2)));have b1:(r != ur)=false:=by simpa using g1
        have b2:((d.size:Int) != 16)=true:=by rw[bne_iff_ne];omega
        clear Wz Ei g1 g2 c;go_wp2;go_ret;exact⟨dI (fun b=>Ending.returned (.bool b)) HA.o.symm,jV.o⟩
      · have HA:=ai (Ei.o (jl (fun x=>g1 x.1)));have b1:(r != ur)=true:=by simpa using g1
        clear Wz Ei g1 c;go_wp2;go_ret;exact⟨dI (fun b=>Ending.returned (.bool b)) HA.o.symm,jV.o⟩
  · obtain rfl:k=n:=by omega
    have HA:=ai (E6.o HP.o);clear hb;go_wp2;go_ret;exact⟨dI (fun b=>Ending.returned (.bool b)) HA.o.symm,HB.o⟩
open Go.RowKit
theorem tZ {P:Program} (w:World) (dT sT ty elem:TypeId) (size:Nat) (hu:P.underlying dT=some (.slice elem)) (hsz:∀w,(sizeOf elem).run P w=.ok size w) (g off dLen dCap:Nat) (sp:Option Addr) (sLen sCap:Nat)
  (cur:List Value) (t:TypeId) (hg:w.heap[g]?=some (.cells cur.toArray t (0,0))) (cs:List Value) (hn:cs.length=Nat.min sLen dLen*size) (hsrc:0<cs.length->∃ad,sp=some ad/\∀j v,cs[j]?=some v->w.cell? (ad.add j)=some v)
  (hfit:off+cs.length<=cur.length) (h1:∀v∈cs,v.oneCell'=true) :
  (Builtin.copy_ #[dT,sT] ty #[.slice (some (Ad g off)) dLen dCap,.slice sp sLen sCap]).run P w=.ok (goInt (Nat.min sLen dLen)) (w.setRow g (splice cur off cs).toArray):=by
 have hst:=run_storeCells_at (P:=P) g off t cs 0 cur.toArray w hg (by omega) h1;have hfc:(Builtin.firstCells size (Nat.min sLen dLen) (.slice sp sLen sCap)).run P w=.ok cs.toArray w:=by
  by_cases h0:0<cs.length
  · grind [run_firstCells_some]
  · have hcs:cs=[]:=jY (by omega);subst hcs;cases sp with
    | none=>rfl
    | some ad=>grind [run_firstCells_some]
 simp_all [Builtin.copy_,JO,Builtin.lenOf,splice]
def js (z:List Value):Nat->List Value
 | 0=>[]
 | n+1=>z++js z n
theorem mj (z:List Value):∀n,(js z n).length=n*z.length
 | 0=>by simp[js]
 | n+1=>by rw[js,fK,mj z n,Nat.succ_mul,Nat.add_comm]
theorem Aj (z:List Value):∀(n j:Nat),j<n*z.length->(js z n)[j]?=z[j%z.length]?
 | 0,j,h=>by omega
 | n+1,j,h=>by
  have hz:0<z.length:=by
   grind
  rw[js];by_cases c:j<z.length
  · grind [Nat.mod_eq_of_lt]
  · rw[ze (by omega),Aj z n (j-z.length) (by grind),<- Nat.mod_eq_sub_mod (by omega)]
theorem Cw (z:Array Value) (n:Nat) (hz:0<z.size):(Builtin.zeroCells z n).toList=js z.toList n:=by
 apply AJ
 grind [Aj,Builtin.zeroCells,mj]
theorem Gx (z:List Value) (h:∀u∈z,u.oneCell'=true):∀n,∀u∈js z n,u.oneCell'=true
 | 0,u,hu=>by cases hu
 | n+1,u,hu=>by
  rcases lV.1 hu with g | g
  · grind
  · exact Gx z h n u g
theorem LL {P:Program} (w:World) (t ty elem:TypeId) (z:Value) (hu:P.underlying t=some (.slice elem)) (hv:∀w,(zeroValue elem).run P w=.ok z w) (hz:0<z.cells.size) (h1:∀u∈z.cells.toList,u.oneCell'=true) (g off n c:Nat)
  (cur:List Value) (te:TypeId) (hg:w.heap[g]?=some (.cells cur.toArray te (0,0))) (hfit:off+n*z.cells.size<=cur.length) :
  (Builtin.clear_ #[t] ty #[.slice (some (Ad g off)) n c]).run P w=.ok (.tuple #[]) (w.setRow g (splice cur off (js z.cells.toList n)).toArray):=by
 have hzl:(js z.cells.toList n).length=n*z.cells.size:=by grind [mj]
 have hst:=run_storeCells_at (P:=P) g off te (js z.cells.toList n) 0 cur.toArray w hg (by grind) (Gx _ h1 n);simp only[kW] at hst;cases n with
 | zero =>
  unfold Builtin.clear_;have e:splice cur off (js z.cells.toList 0)=cur:=by simp_all [splice]
  rw[e,setRow_self w g cur.toArray te (0,0) hg];simp[JO hu]
 | succ n =>
  simp_all [Builtin.clear_,JO,Cw,splice]
open Go.RowKit
theorem ad9:(Tryz.prog.info? 302).map (fun i=>(i.zero,i.size,i.bytes))=some (some (.agg #[I 0,I 0,.bool false]),3,24):=by rfl
theorem aea (a b c d e:Value):Tryz.prog.built 158 [(0,.agg #[a,b,c,d,e])]=some (mG a b c d e sV):=by kernel_rfl
theorem Ow {P:Program} {ops:Array Oper} {rest:List Oper} {o:Oper} {a:Act} {w:World} {Q:Exit->Act->World->Prop} (hg:o.guard=none) (t:TypeId) (x:Operand) (ho:o.op=.build t #[(0,x)]) (v:Value) (hx:a.eval x=v) (cells:Array Value) (hb:P.built t [(0,v)]=some cells) (h:wpList P ops Q rest (a.put o.dst (.agg cells)) w):wpList P ops Q (o::rest) a w :=
 wpList_build hg t #[(0,x)] ho (by grind) (by simpa [hx,hb] using h)
def wX (n:Nat):Array Value:=madeCells #[I 0,I 0,.bool false] (n*3)
theorem adg (V:World) (n:Nat) (hn:n<=1000):(Instr.makeSlice 250 (I (n:Int)) (I (n:Int))).run Tryz.prog V=.ok (.slice (some (Ad V.heap.size 0)) n n) (V.alloc (.cells (wX n) 302)):=by
 obtain⟨i0,hi,hz0,hz1,hz2⟩:=ju ad9;have h:=run_make (P:=Tryz.prog) V 250 302 i0 (.agg #[I 0,I 0,.bool false]) Tryz.underlying250 hi hz0 .i64 .i64 (n:Int) (n:Int) (by omega) (AB _) (by grind) (by omega);rw[hz1,lM] at h;exact h
theorem YZ:∀n,js [I 0,I 0,.bool false] n=(List.replicate n dC).flatMap vk
 | 0=>rfl
 | n+1=>by rw[js,YZ n,List.replicate_succ,nW];rfl
theorem YY (n:Nat):(wX n).toList=(List.replicate n dC).flatMap vk:=by
 rw[<- YZ];apply AJ
 grind [Aj,wX,madeCells,mj]
theorem Jl (n:Nat):(wX n).size=n*3:=by simp[wX,madeCells]
theorem Hi (lo:Nat) (V:World) (n:Nat) (hl:lo<=V.heap.size) (hn:n<=1000):ic lo (V.alloc (.cells (wX n) 302)) V.heap.size n n (List.replicate n dC):=by
 refine⟨uK,?_⟩;rw[<- YY];refine⟨by grind [Jl],.inr ⟨V.heap.size,n,wX n,rfl,hl,bE V (wX n) _,aI _,?_,by rw[Jl],?_⟩⟩
 · grind [maxLen]
 grind [Array.length_toList,Jl]
end Go.Proofs.YtlgoihmkgaaemaaGreat
