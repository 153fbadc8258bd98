import Derived.Test.YtlgoihmkgaaemaaGreatGO11
import Derived.Test.YtlgoihmkgaaemaaGreatGO12
import Derived.Lib.AppendZerosOnto
import Derived.Lib.Overlaps
set_option maxHeartbeats 20000000
set_option linter.unusedVariables false
set_option maxRecDepth 100000
set_option linter.unusedSimpArgs false
namespace Go.Proofs.YtlgoihmkgaaemaaGreat
open Go.RowKit
theorem Kl (w:World):Calls Tryz.prog 170 #[.string ⟨#[0]⟩,I 16] w fun e w'=>e=.returned (.string qX)/\Below w.heap.size w w' :=
 Tryz.strings_Repeat_main ⟨#[0]⟩ 16 w (by decide) (by decide) (by decide) (by decide)
theorem SP (s:pR) (n:Nat) (w:World) (hn:n<=1000) (hs:s.data.size<=100000) :
  Calls Tryz.prog 113 #[.agg #[I s.page,I s.aQ,.string s.data,.bool s.wr,.bool s.ex],I n] w fun e w'=>e=.returned (.string (wj s n))/\Below w.heap.size w w':=by
 obtain⟨pg,pn,dt,wr,qZ0⟩:=s;simp only at hs;obtain⟨b,hb⟩:∃b:Nat,b=min (n*16) dt.size:=⟨_,rfl⟩;obtain⟨e,he⟩:∃e:Nat,e=min (b+16) dt.size:=⟨_,rfl⟩;have HPN:Hid (wj ⟨pg,pn,dt,wr,qZ0⟩ n=iD qX 0 (dt.extract b e)):=by
  show _=_
  grind [wj]
 have hbI:min ((n:Int)*16) (dt.size:Int)=(b:Int):=by omega
 have heI:min ((b:Int)+16) (dt.size:Int)=(e:Int):=by omega
 have h1:b<=e:=by omega
 have h2:e<=dt.size:=by omega
 have h3:e<=b+16:=by omega
 have HLY:Hid (∀V,Calls Tryz.prog 124 #[.string qX,I 0,.string (dt.extract b e)] V fun e w'=>e=.returned (.tuple #[.string (wj ⟨pg,pn,dt,wr,qZ0⟩ n),I 0])/\Below V.heap.size V w'):=fun V=>by
  rw[HPN.o];exact JN qX (dt.extract b e) 0 V (by grind [EL]) (by grind [EL,OG])
 have BX:=aA (bB w #[I pg,I pn,.string dt,.bool wr,.bool qZ0] 166);have HB:=aA ((aK w.heap.size w).alloc (aD _) (.cells #[I pg,I pn,.string dt,.bool wr,.bool qZ0] 166));obtain⟨W,hW⟩:=ex (w.alloc (.cells #[I pg,I pn,.string dt,.bool wr,.bool qZ0] 166));rw[<- hW] at BX HB;have HW:=aA hW;clear hW hb he;have hbx:=aJ BX.o;have CM:=jt W;have hkc:=@fR W;have e2:∀x:dW W.heap.size W,x.world.cell? (Ad w.heap.size 2)=some (.string dt):=fun x=>by grind [aq,Hid.o]
 have HZ:Hid (∀V,Below W.heap.size W V->Calls Tryz.prog 170 #[.string ⟨#[0]⟩,I 16] V fun e w'=>e=.returned (.string qX)/\Below V.heap.size V w'):=fun V _=>Kl V
 have Bz:Hid (∀V,Below W.heap.size W V->Calls Tryz.prog 124 #[.string qX,I 0,.string (dt.extract b e)] V fun e w'=>e=.returned (.tuple #[.string (wj ⟨pg,pn,dt,wr,qZ0⟩ n),I 0])/\Below V.heap.size V w'):=fun V _=>HLY.o V
 clear hkc HLY;go_enter Tryz.func113,Tryz.ntmps113;go_wp2;rw[<- HW.o];refine dA (by rfl) (by kernel_rfl) ?_
 repeat (first | go_big_quiet_step ((first | (go_at_call 170;exact zl _ HZ.o) | (go_at_call 124;exact zl _ Bz.o))) | quiet_step ((first | (go_at_call 170;exact zl _ HZ.o) | (go_at_call 124;exact zl _ Bz.o))))
 refine jo ?_;intro _ hw';obtain⟨x,hw''⟩:=hw';subst hw'';go_wp2;go_ret;exact⟨rfl,HB.o.trans (x.keeps.mono HB.o.size)⟩
theorem ad2:(Tryz.prog.info? 226).map (fun i=>(i.zero,i.size,i.bytes))=some (some (.agg #[I 0,.string ⟨#[]⟩]),2,24):=by rfl
theorem Qu (page:Int) (ps:List pG) (ao:Option Addr) (cap:Nat) (w:World) (h0:0<=page) (h1:page<=3000) (h:KL w ao ps) (hn:ps.length<=1000) (hf:∀k,k<ps.length->VY (xR ps k)) :
  Calls Tryz.prog 114 #[I page,.slice ao ps.length cap] w fun e w'=>(∃v,e=.returned v/\w'.ownsRow w.heap.size 226 2 v (kO page ps).length ((kO page ps).flatMap CX))/\Below w.heap.size w w':=by
 have HH:=aA h;have HF:=aA hf;clear h hf;obtain⟨i0,hi,hz0,hz1,hz2⟩:=jy ad2;go_enter Tryz.func114,Tryz.ntmps114;go_wp2;go_loopw [17,6] (fun i v wr=>∃k:Nat,k<=ps.length/\i=I k/\wr.ownsRow w.heap.size 226 2 v (kO page (ps.take k)).length ((kO page (ps.take k)).flatMap CX)/\Below w.heap.size w wr) (fun i _ _=>ps.length-(intOf i).toNat)
 case atStart=>exact⟨0,by omega,rfl,mG _ _ _ _,aK _ _⟩
 case round =>
  obtain⟨k,hk,rfl,hown,hb⟩:=hrel;have HOW:=aA hown;have AH:=aA hb;by_cases hlt:k<ps.length
  · obtain⟨b,off,hao,hbl,eY⟩:=(HH.o.below hb) (by omega);subst hao;obtain⟨c0,c1⟩:=eY k hlt;obtain⟨f1,f2,f3⟩:=HF.o k hlt;have HT:Hid (kO page (ps.take (k+1))=kO page (ps.take k)++DK page (xR ps k)):=by
     show _=_;rw[VQ ps abw k hlt,QK];rfl
    have hlen:=KD page (ps.take k);rw[vT] at hlen;obtain⟨G,hG⟩:=ex (kO page (ps.take k));rw[<- hG] at HOW HT hlen;obtain⟨p,hp⟩:=ex (xR ps k);rw[<- hp] at c0 c1 f1 f2 f3 HT;clear hG hp eY hb hown;obtain⟨P,by_⟩:=p;simp only at c0 c1 f1 f2 f3;have jk:=aA (AH.o.alloc AH.o.size (.cells #[I P,.string by_] 282));have Jy:=aA ((aK wr.heap.size wr).alloc (aD _) (.cells #[I P,.string by_] 282));obtain⟨A,hA⟩:=ex (max (page*16) P);obtain⟨E,hE⟩:=ex (min (page*16+16) (P+8));have hAb:page*16<=A/\P<=A/\A<=1000000:=by omega
    have hEb:E<=page*16+16/\E<=P+8:=by omega
    have hA':max (page*16) P=A:=hA.symm;have hE':min (page*16+16) (P+8)=E:=hE.symm;have aiz:Hid (DK page ⟨P,by_⟩=if A<E then [⟨A-page*16,by_.extract (A-P).toNat (A-P+(E-A)).toNat⟩] else []):=by
     show _=_;unfold DK;simp only;rw[hA',hE']
    clear hA hE;by_cases hAE:A<E
    · rw[aiz.o,aB hAE] at HT;obtain⟨u,hu⟩:∃u:Nat,A-P=(u:Int):=⟨(A-P).toNat,by omega⟩;obtain⟨n,hn⟩:∃n:Nat,E-A=(n:Int):=⟨(E-A).toNat,by omega⟩;have hun:(A-P+(E-A)).toNat=u+n:=by omega
      have hu2:(A-P).toNat=u:=by omega
      rw[hun,hu2] at HT;have HPT:Hid (∀V,Calls Tryz.prog 171 #[.string by_,I (A-P),I (E-A)] V fun e w'=>e=.returned (.tuple #[.string (by_.extract u (u+n)),I 0])/\Below V.heap.size V w'):=fun V=>by
       rw[hu,hn];exact GN by_ u n V (by omega) (by omega)
      obtain⟨s,hs⟩:=ex (by_.extract u (u+n));rw[<- hs] at HPT HT;clear hu hn hun hu2 hs aiz;have aqd:¬E<=A:=by omega
      go_wp2_with (first
       | (go_at_call 171;refine(HPT.o _).mono ?_;rintro e w1 ⟨rfl,hb⟩;have cH:=aA (jk.o.trans (hb.mono jk.o.size));have am2:=aA ((DD HOW.o (Jy.o.trans (hb.mono Jy.o.size))).alloc (.cells #[I (A-page*16),.string s] 226));have alL:=am2.o.lt;have HN1:=aA (bB w1 #[I (A-page*16),.string s] 226);have BP:=aA (aN (bB wr #[I P,.string by_] 282) hb (by simp));clear hb)
       | (at_builtin;refine Pr _ rfl _ _ 143 rfl w.heap.size 226 i0 (.agg #[I 0,.string ⟨#[]⟩]) 2 24 Tryz.underlying143 hi hz0 hz1 hz2 rfl (by decide) _ _ _ rfl am2.o (Ad w1.heap.size 0) 1 1 [I (A-page*16),.string s] rfl rfl (GR HN1.o) (by intro u hu;simp at hu;rcases hu with rfl | rfl <;> rfl) (by decide) (by unfold maxLen;omega) (by omega) (by have:=cH.o.size;simp;omega) (w1.heap.size+1) (by simp) ?_;intro gg amL w2 hown2 hgrow ahP J6;have aim:=aA hown2;have gK:=aA ((cH.o.alloc cH.o.size (.cells #[I (A-page*16),.string s] 226)).grown hgrow (by have:=cH.o.size;simp;omega) (fun q hq=>(alL _ hq).1));clear hown2 hgrow ahP))
      go_roundw
      case rel=>exact⟨k+1,by omega,by go_num,by rw[HT.o,fM,xO];exact aim.o,gK.o⟩
      case measure=>simp[intOf];omega
    · rw[aiz.o,au hAE,Dq] at HT;have aqd:E<=A:=by omega
      clear aiz;go_wp2;go_roundw
      case rel=>exact⟨k+1,by omega,by go_num,by rw[HT.o];exact HOW.o.alloc _,jk.o⟩
      case measure=>simp[intOf];omega
  · obtain rfl:k=ps.length:=by omega
    rw[vQ] at HOW;clear hown hb;go_wp2;go_ret;exact⟨⟨_,rfl,HOW.o⟩,AH.o⟩
open Go.RowKit
theorem Zl (d:ByteArray):d.toList.isEmpty=decide (d.size=0):=by
 rw[J3];obtain⟨⟨l⟩⟩:=d;cases l with
 | nil=>rfl
 | cons a r=>rfl
theorem MG (d:ByteArray):(d.toList=[])=(d.size=0):=by
 rw[J3];obtain⟨⟨l⟩⟩:=d
 grind [ByteArray.size]
theorem Iw (f:lV) (w:World):Calls Tryz.prog 216 #[.agg #[.string f.data,I f.refs,.bool f.jG,.bool f.seen]] w fun e w'=>e=.returned (.bool (tj f))/\Below w.heap.size w w':=by
 obtain⟨d,r,dy,sn⟩:=f;unfold tj;simp only;obtain⟨A,hA⟩:=ex (decide (d.size=0/\r=0/\dy=false/\sn=false));rw[<- hA];have HA:=ai hA;clear hA;go_enter Tryz.func216,Tryz.ntmps216;go_wp2
 all_goals
  go_ret;refine⟨ed (fun b=>Ending.returned (.bool b)) ?_,(aK _ _).alloc (aD _) _⟩
  grind [MG,Hid.o]
theorem abQ:qX=vC:=by decide
theorem FT (hs:List bG) (p:Int) (z:Bool) (mb:Nat) (w:World) (hfl:∀n:Nat,n<256->w.cell? (Ad mb (5+n))=some (.string (fq hs n))) (hp:0<=p/\p<256) :
  Calls Tryz.prog 130 #[.pointer (some (Ad mb 0)),I p,.bool z] w fun e w'=>e=.returned (.string (fY hs p z))/\Below w.heap.size w w':=by
 have HZ:Hid (∀V,Calls Tryz.prog 170 #[.string ⟨#[0]⟩,I 16] V fun e w'=>e=.returned (.string vC)/\Below V.heap.size V w'):=fun V=>by rw[<- abQ];exact Kl V
 cases z with
 | true =>
  have HF:Hid (fY hs p true=vC):=rfl;rw[HF.o];clear hfl;obtain⟨Z,hZ⟩:=ex vC;rw[<- hZ] at HZ ⊢;clear hZ HF;go_enter Tryz.func130,Tryz.ntmps130;go_wp2_with (go_at_call 170;refine(HZ.o _).mono ?_;rintro e w1 ⟨rfl,hb1⟩;have cH:=ai hb1;clear hb1)
  go_ret;exact⟨rfl,cH.o⟩
 | false =>
  obtain⟨n,rfl⟩:∃n:Nat,p=(n:Int):=⟨p.toNat,by omega⟩;have q:=hfl n (by omega);have HF:Hid (fY hs (n:Int) false=fq hs n):=rfl;rw[HF.o];obtain⟨D,hD⟩:=ex (fq hs (n:Int));rw[<- hD] at q ⊢;clear hD HF hfl HZ;go_enter Tryz.func130,Tryz.ntmps130;go_wp2;go_ret;exact⟨rfl,aK _ _⟩
open Go.RowKit
theorem gw {P:Program} {f:FuncId} {args:Array Value} {v:Value} {w:World} (x:dW w.heap.size w) (h:∀W,Below w.heap.size w W->Calls P f args W fun e w'=>e=.returned v/\Below W.heap.size W w') :
  Calls P f args x.world fun e w''=>e=.returned v/\∃y:dW w.heap.size w,w''=y.world :=
 (h x.world x.keeps).mono fun e w'' ⟨he,hb⟩=>⟨he,⟨w'',x.keeps.trans (hb.mono x.keeps.size)⟩,rfl⟩
theorem af2 (x y:ByteArray):(x.toList==y.toList)=decide (x=y):=by
 rw[J3,J3];by_cases c:x=y
 · grind
 · rw[jq c,kF];exact fun e=>c (by cases x;simp_all)
theorem KU (hs:List bG) (f:lV) (u:fh) (mb:Nat) (w:World) (hmb:mb<w.heap.size) (hfl:∀n:Nat,n<256->w.cell? (Ad mb (5+n))=some (.string (fq hs n))) (hp:u.refs≠0->0<=u.page/\u.page<256) (hd:b7 f.data.size) :
  Calls Tryz.prog 192 #[.pointer (some (Ad mb 0)),.agg #[.string f.data,I f.refs,.bool f.jG,.bool f.seen],.agg #[I u.refs,I u.page,.bool u.zero]] w fun e w'=>e=.returned (.bool (jQ hs f u))/\Below w.heap.size w w':=by
 obtain⟨A,hA⟩:=ex (jQ hs f u);rw[<- hA];unfold jQ at hA;have HA:=ai hA;have HIZ:=ai (fun V=>Iw f V);obtain⟨IZ,hIZ⟩:=ex (tj f);rw[<- hIZ] at HA HIZ;clear hIZ;obtain⟨d,r,dy,sn⟩:=f;obtain⟨ur,up,uz⟩:=u;simp only at HA HIZ hp hd ⊢;unfold b7 at hd;have HB:=ai (((aK w.heap.size w).alloc (aD _) (.cells #[.string d,I r,.bool dy,.bool sn] 169)).alloc (by simp) (.cells #[I ur,I up,.bool uz] 302));have HFL:=ai hfl;clear hA hfl;by_cases c:ur=0
 · subst c;rw[aB rfl] at HA;go_enter Tryz.func192,Tryz.ntmps192;go_wp2_with (go_at_call 216;refine(HIZ.o _).mono ?_;rintro e w1 ⟨rfl,hb1⟩;have cH:=ai (bH HB.o hb1);clear hb1)
   go_ret;exact⟨ed (fun b=>Ending.returned (.bool b)) HA.o.symm,cH.o⟩
 · rw[au c] at HA;have cb:(ur==0)=false:=by grind
   have Fh:=hp c;clear HIZ hp;by_cases c1:r=ur
   · have c1b:(r != ur)=false:=by grind
     by_cases c2:d.size=16
     · have c2i:((d.size:Int) != 16)=false:=by grind
       have E1:Hid (A=(dy || decide (d=fY hs up uz))):=by grind
       have yg:Hid (∀V,Below w.heap.size w V->Calls Tryz.prog 130 #[.pointer (some (Ad mb 0)),I up,.bool uz] V fun e w'=>e=.returned (.string (fY hs up uz))/\Below V.heap.size V w'):=fun V hV=>FT hs up uz mb V (fun n hn=>(hV.cell (p:=(Ad mb (5+n))) hmb).trans (HFL.o n hn)) Fh
       obtain⟨FK,hFK⟩:=ex (fY hs up uz);rw[<- hFK] at E1 yg;have BF:=ai (bk (bB w #[.string d,I r,.bool dy,.bool sn] 169) (.cells #[I ur,I up,.bool uz] 302));have BU:=ai (bB (w.alloc (.cells #[.string d,I r,.bool dy,.bool sn] 169)) #[I ur,I up,.bool uz] 302);rw[gh] at BU;clear hFK HA c c1 c2;go_enter Tryz.func192,Tryz.ntmps192;go_wp2_with fail
       obtain⟨W,hW⟩:=ex ((w.alloc (.cells #[.string d,I r,.bool dy,.bool sn] 169)).alloc (.cells #[I ur,I up,.bool uz] 302));rw[<- hW] at HB BF BU ⊢;have CM:=jt W;have k0:∀x:dW W.heap.size W,x.world.cell? (Ad w.heap.size 0)=some (.string d):=fun x=>by grind [fR,aq,Hid.o]
       have k2:∀x:dW W.heap.size W,x.world.cell? (Ad w.heap.size 2)=some (.bool dy):=fun x=>by rw[fR x _ _ (aJ BF.o)];simp_all
       have l1:∀x:dW W.heap.size W,x.world.cell? (Ad (w.heap.size+1) 1)=some (I up):=fun x=>by rw[fR x _ _ (aJ BU.o)];simp_all
       have l2:∀x:dW W.heap.size W,x.world.cell? (Ad (w.heap.size+1) 2)=some (.bool uz):=fun x=>by rw[fR x _ _ (aJ BU.o)];exact aq BU.o 2 rfl
       have anh:=ai (fun V (hV:Below W.heap.size W V)=>yg.o V (HB.o.trans (hV.mono HB.o.size)));clear hW yg BF BU;cases dy with
       | true =>
        have Cw:Hid (A=true):=E1;clear E1;refine dA (by rfl) (by kernel_rfl) ?_
        repeat (first | go_big_quiet_step (fail) | quiet_step (fail))
        refine jo ?_;rintro _ ⟨x,rfl⟩;go_wp2;go_ret;exact⟨ed (fun b=>Ending.returned (.bool b)) Cw.o.symm,HB.o.trans (x.keeps.mono HB.o.size)⟩
       | false =>
        have Cw:Hid (A=(d.toList==FK.toList)):=by grind [af2]
        clear E1;refine dA (by rfl) (by kernel_rfl) ?_
        repeat (first | go_big_quiet_step ((go_at_call 130;exact gw _ anh.o)) | quiet_step ((go_at_call 130;exact gw _ anh.o)))
        refine jo ?_;rintro _ ⟨x,rfl⟩;go_wp2;go_ret;exact⟨ed (fun b=>Ending.returned (.bool b)) Cw.o.symm,HB.o.trans (x.keeps.mono HB.o.size)⟩
     · have c2i:((d.size:Int) != 16)=true:=by grind
       have E1:Hid (A=false):=by grind
       clear HA c c1 c2;go_enter Tryz.func192,Tryz.ntmps192;go_wp2;go_ret;exact⟨ed (fun b=>Ending.returned (.bool b)) E1.o.symm,HB.o⟩
   · have c1b:(r != ur)=true:=by grind
     have E1:Hid (A=false):=by grind
     clear HA c c1;go_enter Tryz.func192,Tryz.ntmps192;go_wp2;go_ret;exact⟨ed (fun b=>Ending.returned (.bool b)) E1.o.symm,HB.o⟩
open Go.RowKit
theorem UF {n:Nat} {p:Nat->Bool} {i:Nat} (hi:i<n) (h:p i=false):(List.range n).all p=false:=by
 grind
theorem QU {n:Nat} {p:Nat->Bool} (h:∀i,i<n->p i=true):(List.range n).all p=true:=by
 grind
theorem Jt (hs:List bG) (fs:List lV) (us:List fh) (aF:Option Addr) (cF mb lo g cap:Nat) (w:World) (hF:eB jd 4 gX w aF fs) (hU:ig lo w g fs.length cap us) (hmb:mb<w.heap.size) (ni:w.cell? (Ad mb 1)=some (.slice aF fs.length cF)) (hfl:∀n:Nat,n<256->w.cell? (Ad mb (5+n))=some (.string (fq hs n))) (hp:∀i,i<fs.length->(cY us i).refs≠0->0<=(cY us i).page/\(cY us i).page<256) (hd:∀i,i<fs.length->b7 (aH fs i).data.size) (hn:fs.length<=64) :
  Calls Tryz.prog 144 #[.pointer (some (Ad mb 0)),.slice (some (Ad g 0)) fs.length cap] w fun e w'=>e=.returned (.bool ((List.range fs.length).all fun i=>jQ hs (aH fs i) (cY us i)))/\Below w.heap.size w w':=by
 have HH:=ai hF;have HU:=ai hU;have hg:=hU.lt.2;have LG:Hid (∀i,i<fs.length->∀V,Below w.heap.size w V->Calls Tryz.prog 192 #[.pointer (some (Ad mb 0)),.agg #[.string (aH fs i).data,I (aH fs i).refs,.bool (aH fs i).jG,.bool (aH fs i).seen],.agg #[I (cY us i).refs,I (cY us i).page,.bool (cY us i).zero]] V fun e w'=>e=.returned (.bool (jQ hs (aH fs i) (cY us i)))/\Below V.heap.size V w'):=fun i hi V hV=>KU hs _ _ mb V (fD hmb hV.size) (fun n hn=>(hV.cell (p:=(Ad mb (5+n))) hmb).trans (hfl n hn)) (hp i hi) (hd i hi)
 have uJ:=ai (fun i (hi:i<fs.length)=>@UF fs.length (fun i=>jQ hs (aH fs i) (cY us i)) i hi);have Fa:=ai (@QU fs.length (fun i=>jQ hs (aH fs i) (cY us i)));obtain⟨A,hA⟩:=ex ((List.range fs.length).all fun i=>jQ hs (aH fs i) (cY us i));rw[<- hA] at uJ Fa ⊢;obtain⟨n,hnn⟩:=ex fs.length;rw[<- hnn] at HU LG uJ Fa ni hn ⊢;have HNN:=ai hnn;clear hF hU hfl hp hd hA hnn;go_enter Tryz.func144,Tryz.ntmps144;go_wp2;go_loopw [13] (fun iv wr=>∃k:Nat,k<=n/\iv=I (k:Int)/\Below w.heap.size w wr/\∀i,i<k->jQ hs (aH fs i) (cY us i)=true) (fun iv _=>n-(intOf iv).toNat)
 case atStart=>grind [Below.refl]
 case round =>
  obtain⟨k,hk,rfl,hb,Fi⟩:=hrel;have HB:=ai hb;have HP:=ai Fi;clear Fi;by_cases hlt:k<n
  · obtain⟨fb,fo,hao,hbl,eY⟩:=HH.o (by rw[<- HNN.o];omega);subst hao;have ce:∀j,j<4->wr.cell? (Ad fb (fo+k*4+j))=(jd (aH fs k))[j]?:=fun j hj=>(hb.cell (p:=(Ad fb (fo+k*4+j))) hbl).trans (eY k (by rw[<- HNN.o];exact hlt) j hj)
    have y0:=ce 0 (by omega);have y1:=ce 1 (by omega);have y2:=ce 2 (by omega);have y3:=ce 3 (by omega);rw[mF] at y0;obtain⟨z0,z1,z2⟩:=HU.o.at k hlt;have LG:=ai (LG.o k hlt);have uJ:=ai (uJ.o k hlt);have Yl:Hid (jQ hs (aH fs k) (cY us k)=true->∀i,i<k+1->jQ hs (aH fs i) (cY us i)=true):=fun g i hi=>by
     by_cases e:i=k
     · rw[e];exact g
     · exact HP.o i (by omega)
    obtain⟨R,hR⟩:=ex (jQ hs (aH fs k) (cY us k));have uJ:Hid (R=false->A=false):=fun g=>uJ.o (by rw[<- hR];exact g)
    rw[<- hR] at LG Yl;obtain⟨f,hf⟩:=ex (aH fs k);obtain⟨u,hu⟩:=ex (cY us k);rw[<- hf] at LG y0 y1 y2 y3;rw[<- hu] at LG z0 z1 z2;obtain⟨d,r,dy,sn⟩:=f;obtain⟨ur,up,uz⟩:=u;simp only at LG z0 z1 z2;have x0:wr.cell? (Ad fb (fo+k*4))=some (.string d):=y0;have x1:wr.cell? (Ad fb (fo+k*4+1))=some (I r):=y1;have x2:wr.cell? (Ad fb (fo+k*4+2))=some (.bool dy):=y2;have x3:wr.cell? (Ad fb (fo+k*4+3))=some (.bool sn):=y3;have ahM:=hb.size;have jk:=ai (HB.o.alloc HB.o.size (.cells #[.string d,I r,.bool dy,.bool sn] 169));have BF:=ai (bB wr #[.string d,I r,.bool dy,.bool sn] 169);clear hR hf hu y0 y1 y2 y3 ce eY hb Fa;go_wp2_with fail
    obtain⟨W,hW⟩:=ex (wr.alloc (.cells #[.string d,I r,.bool dy,.bool sn] 169));rw[<- hW] at jk BF ⊢;obtain⟨sb,Jh⟩:=ex wr.heap.size;rw[<- Jh] at BF ⊢;clear hW Jh x0 x1 x2 x3;have CM:=jt W;have k0:∀x:dW W.heap.size W,x.world.cell? (Ad sb 0)=some (.string d):=fun x=>by rw[fR x _ _ (aJ BF.o)];exact aq BF.o 0 rfl
    have k1:∀x:dW W.heap.size W,x.world.cell? (Ad sb 1)=some (I r):=fun x=>by rw[fR x _ _ (aJ BF.o)];exact aq BF.o 1 rfl
    have k2:∀x:dW W.heap.size W,x.world.cell? (Ad sb 2)=some (.bool dy):=fun x=>by rw[fR x _ _ (aJ BF.o)];exact aq BF.o 2 rfl
    have k3:∀x:dW W.heap.size W,x.world.cell? (Ad sb 3)=some (.bool sn):=fun x=>by rw[fR x _ _ (aJ BF.o)];exact aq BF.o 3 rfl
    have hgW:g<W.heap.size:=by have:=jk.o.size;omega
    have l0:∀x:dW W.heap.size W,x.world.cell? (Ad g (k*3))=some (I ur):=fun x=>by rw[fR x _ _ hgW];exact(jk.o.cell (p:=(Ad g (k*3))) hg).trans z0
    have l1:∀x:dW W.heap.size W,x.world.cell? (Ad g (k*3+1))=some (I up):=fun x=>by rw[fR x _ _ hgW];exact(jk.o.cell (p:=(Ad g (k*3+1))) hg).trans z1
    have l2:∀x:dW W.heap.size W,x.world.cell? (Ad g (k*3+2))=some (.bool uz):=fun x=>by rw[fR x _ _ hgW];exact(jk.o.cell (p:=(Ad g (k*3+2))) hg).trans z2
    have aku:=ai (fun V (hV:Below W.heap.size W V)=>LG.o V (jk.o.trans (hV.mono jk.o.size)));have kk0:(0:Int)<=(k:Int):=by omega
    have kk1:(k:Int)<(n:Int):=by omega
    clear LG BF z0 z1 z2;refine dA (by kernel_rfl) (by kernel_rfl) ?_
    repeat (first | go_big_quiet_step ((go_at_call 192;exact gw _ aku.o)) | quiet_step ((go_at_call 192;exact gw _ aku.o)))
    refine jo ?_;rintro _ ⟨x,rfl⟩;have jm:=ai (jk.o.trans (x.keeps.mono jk.o.size));clear k0 k1 k2 k3 l0 l1 l2 aku;cases R with
    | false =>
     have HA:=ai (uJ.o rfl);go_wp2;go_ret;exact⟨ed (fun b=>Ending.returned (.bool b)) HA.o.symm,jm.o⟩
    | true =>
     have Xb:=ai (Yl.o rfl);clear Yl uJ;go_wp2;go_roundw
     case rel=>exact⟨k+1,by omega,by go_num,jm.o,Xb.o⟩
     case measure=>simp[intOf];omega
  · obtain rfl:k=n:=by omega
    have HA:=ai (Fa.o HP.o);clear hb;go_wp2;go_ret;exact⟨ed (fun b=>Ending.returned (.bool b)) HA.o.symm,HB.o⟩
open Go.RowKit
theorem KT (fs:List pd) (us:List fh) (aF:Option Addr) (cF mb lo g cap:Nat) (w:World) (hF:eB jc 2 oc w aF fs) (hU:ig lo w g fs.length cap us) (ni:w.cell? (Ad mb 2)=some (.slice aF fs.length cF)) (hr:∀i,i<fs.length->0<=(cY us i).refs) (hd:∀i,i<fs.length->b7 (bE fs i).data.size) (hn:fs.length<=512) :
  Calls Tryz.prog 145 #[.pointer (some (Ad mb 0)),.slice (some (Ad g 0)) fs.length cap] w fun e w'=>e=.returned (.bool ((List.range fs.length).all fun i=>mh (bE fs i) (cY us i)))/\Below w.heap.size w w':=by
 have HH:=ai hF;have HU:=ai hU;have hg:=hU.lt.2;have uJ:=ai (fun i (hi:i<fs.length)=>@UF fs.length (fun i=>mh (bE fs i) (cY us i)) i hi);have Fa:=ai (@QU fs.length (fun i=>mh (bE fs i) (cY us i)));have HR:=ai hr;have HD:=ai hd;obtain⟨A,hA⟩:=ex ((List.range fs.length).all fun i=>mh (bE fs i) (cY us i));rw[<- hA] at uJ Fa ⊢;obtain⟨n,hnn⟩:=ex fs.length;rw[<- hnn] at HU uJ Fa HR HD ni hn ⊢;have HNN:=ai hnn;clear hF hU hr hd hA hnn;go_enter Tryz.func145,Tryz.ntmps145;go_wp2;go_loopw [14] (fun iv wr=>∃k:Nat,k<=n/\iv=I (k:Int)/\Below w.heap.size w wr/\∀i,i<k->mh (bE fs i) (cY us i)=true) (fun iv _=>n-(intOf iv).toNat)
 case atStart=>grind [Below.refl]
 case round =>
  obtain⟨k,hk,rfl,hb,Fi⟩:=hrel;have HB:=ai hb;have HP:=ai Fi;clear Fi;by_cases hlt:k<n
  · obtain⟨fb,fo,hao,hbl,eY⟩:=HH.o (by rw[<- HNN.o];omega);subst hao;have ce:∀j,j<2->wr.cell? (Ad fb (fo+k*2+j))=(jc (bE fs k))[j]?:=fun j hj=>(hb.cell (p:=(Ad fb (fo+k*2+j))) hbl).trans (eY k (by rw[<- HNN.o];exact hlt) j hj)
    have y0:=ce 0 (by omega);have y1:=ce 1 (by omega);rw[mF] at y0;obtain⟨a0,_,_⟩:=HU.o.at k hlt;have z0:=(hb.cell (p:=(Ad g (k*3))) hg).trans a0;have hrk:=HR.o k hlt;have hdk:=HD.o k hlt;unfold b7 at hdk;have uJ:=ai (uJ.o k hlt);have Yl:Hid (mh (bE fs k) (cY us k)=true->∀i,i<k+1->mh (bE fs i) (cY us i)=true):=fun g i hi=>by
     by_cases e:i=k
     · rw[e];exact g
     · exact HP.o i (by omega)
    unfold mh tW at uJ Yl;obtain⟨f,hf⟩:=ex (bE fs k);obtain⟨u,hu⟩:=ex (cY us k);have Xb:Hid ((if u.refs=0 then decide (f.data.size=0/\f.refs=0) else decide (f.refs=u.refs/\f.data.size=16))=true->∀i,i<k+1->mh (bE fs i) (cY us i)=true):=by rw[hf,hu];exact Yl
    have En:Hid ((if u.refs=0 then decide (f.data.size=0/\f.refs=0) else decide (f.refs=u.refs/\f.data.size=16))=false->A=false):=by rw[hf,hu];exact uJ
    rw[<- hf] at y0 y1 hdk;rw[<- hu] at z0 hrk;obtain⟨d,r⟩:=f;obtain⟨ur,up,uz⟩:=u;simp only at Xb En z0 hrk hdk;have x0:wr.cell? (Ad fb (fo+k*2))=some (.string d):=y0;have x1:wr.cell? (Ad fb (fo+k*2+1))=some (I r):=y1;have ahM:=hb.size;have Mo:¬fb=wr.heap.size:=by omega
    have hgb:¬g=wr.heap.size:=by omega
    have jk:=ai (HB.o.alloc HB.o.size (.cells #[.string d,I r] 171));have kk0:(0:Int)<=(k:Int):=by omega
    have kk1:(k:Int)<(n:Int):=by omega
    have zA:(wr.alloc (.cells #[.string d,I r] 171)).cell? (Ad g (k*3))=some (I ur):=(Pn ((aK wr.heap.size wr).alloc (aD _) _) (p:=(Ad g (k*3))) (by show g<_;omega)).trans z0;clear hf hu y0 y1 ce eY hb Fa Yl uJ a0;by_cases c:ur=0
    · subst c;rw[aB rfl] at Xb En;rcases(show(d.toList=[]/\r=0)∨(d.toList=[]/\¬r=0)∨¬d.toList=[] by
       by_cases a:d.toList=[]
       · by_cases b:r=0
         · exact .inl ⟨a,b⟩
         · exact .inr (.inl ⟨a,b⟩)
       · exact .inr (.inr a)) with⟨g1,g2⟩ | ⟨g1,g2⟩ | g1
      · have HP4:=ai (Xb.o (by rw[MG] at g1;exact ic ⟨g1,g2⟩));subst g2;clear Xb En;go_wp2;go_roundw
        case rel=>exact⟨k+1,by omega,by go_num,jk.o,HP4.o⟩
        case measure=>simp[intOf];omega
      · have HA:=ai (En.o (jq (fun x=>g2 x.2)));clear Xb En;go_wp2;go_ret;exact⟨ed (fun b=>Ending.returned (.bool b)) HA.o.symm,jk.o⟩
      · have HA:=ai (En.o (jq (fun x=>g1 (by rw[MG];exact x.1))));clear Xb En;go_wp2;go_ret;exact⟨ed (fun b=>Ending.returned (.bool b)) HA.o.symm,jk.o⟩
    · rw[au c] at Xb En;have cb:(ur==0)=false:=by simpa using c
      have cp:0<ur:=by omega
      rcases(show(r=ur/\d.size=16)∨(r=ur/\¬d.size=16)∨¬r=ur by omega) with⟨g1,g2⟩ | ⟨g1,g2⟩ | g1
      · have HP4:=ai (Xb.o (ic ⟨g1,g2⟩));have b1:(r != ur)=false:=by simpa using g1
        have b2:((d.size:Int) != 16)=false:=by rw[bne_eq_false_iff_eq];omega
        clear Xb En g1 g2 c;go_wp2;go_roundw
        case rel=>exact⟨k+1,by omega,by go_num,jk.o,HP4.o⟩
        case measure=>simp[intOf];omega
      · have HA:=ai (En.o (jq (fun x=>g2 x.2)));have b1:(r != ur)=false:=by simpa using g1
        have b2:((d.size:Int) != 16)=true:=by rw[bne_iff_ne];omega
        clear Xb En g1 g2 c;go_wp2;go_ret;exact⟨ed (fun b=>Ending.returned (.bool b)) HA.o.symm,jk.o⟩
      · have HA:=ai (En.o (jq (fun x=>g1 x.1)));have b1:(r != ur)=true:=by simpa using g1
        clear Xb En g1 c;go_wp2;go_ret;exact⟨ed (fun b=>Ending.returned (.bool b)) HA.o.symm,jk.o⟩
  · obtain rfl:k=n:=by omega
    have HA:=ai (Fa.o HP.o);clear hb;go_wp2;go_ret;exact⟨ed (fun b=>Ending.returned (.bool b)) HA.o.symm,HB.o⟩
open Go.RowKit
theorem uh {P:Program} (w:World) (dT sT ty elem:TypeId) (size:Nat) (hu:P.underlying dT=some (.slice elem)) (hsz:∀w,(sizeOf elem).run P w=.ok size w) (g off dLen dCap:Nat) (sp:Option Addr) (sLen sCap:Nat)
  (cur:List Value) (t:TypeId) (hg:w.heap[g]?=some (.cells cur.toArray t (0,0))) (cs:List Value) (hn:cs.length=Nat.min sLen dLen*size) (hsrc:0<cs.length->∃ad,sp=some ad/\∀j v,cs[j]?=some v->w.cell? (ad.add j)=some v)
  (hfit:off+cs.length<=cur.length) (h1:∀v∈cs,v.oneCell'=true) :
  (Builtin.copy_ #[dT,sT] ty #[.slice (some (Ad g off)) dLen dCap,.slice sp sLen sCap]).run P w=.ok (goInt (Nat.min sLen dLen)) (w.setRow g (splice cur off cs).toArray):=by
 have hst:=run_storeCells_at (P:=P) g off t cs 0 cur.toArray w hg (by omega) h1;have hfc:(Builtin.firstCells size (Nat.min sLen dLen) (.slice sp sLen sCap)).run P w=.ok cs.toArray w:=by
  by_cases h0:0<cs.length
  · grind [run_firstCells_some]
  · have hcs:cs=[]:=lj (by omega);subst hcs;cases sp with
    | none=>rfl
    | some ad=>grind [run_firstCells_some]
 simp_all [Builtin.copy_,JW,Builtin.lenOf,splice]
def jw (z:List Value):Nat->List Value
 | 0=>[]
 | n+1=>z++jw z n
theorem mo (z:List Value):∀n,(jw z n).length=n*z.length
 | 0=>by simp[jw]
 | n+1=>by rw[jw,fM,mo z n,Nat.succ_mul,Nat.add_comm]
theorem Ap (z:List Value):∀(n j:Nat),j<n*z.length->(jw z n)[j]?=z[j%z.length]?
 | 0,j,h=>by omega
 | n+1,j,h=>by
  have hz:0<z.length:=by
   grind
  rw[jw];by_cases c:j<z.length
  · grind [Nat.mod_eq_of_lt]
  · rw[zj (by omega),Ap z n (j-z.length) (by grind),<- Nat.mod_eq_sub_mod (by omega)]
theorem Cy (z:Array Value) (n:Nat) (hz:0<z.size):(Builtin.zeroCells z n).toList=jw z.toList n:=by
 apply Dw
 grind [Ap,Builtin.zeroCells,mo]
theorem GF (z:List Value) (h:∀u∈z,u.oneCell'=true):∀n,∀u∈jw z n,u.oneCell'=true
 | 0,u,hu=>by cases hu
 | n+1,u,hu=>by
  rcases l5.1 hu with g | g
  · grind
  · exact GF z h n u g
theorem LX {P:Program} (w:World) (t ty elem:TypeId) (z:Value) (hu:P.underlying t=some (.slice elem)) (hv:∀w,(zeroValue elem).run P w=.ok z w) (hz:0<z.cells.size) (h1:∀u∈z.cells.toList,u.oneCell'=true) (g off n c:Nat)
  (cur:List Value) (te:TypeId) (hg:w.heap[g]?=some (.cells cur.toArray te (0,0))) (hfit:off+n*z.cells.size<=cur.length) :
  (Builtin.clear_ #[t] ty #[.slice (some (Ad g off)) n c]).run P w=.ok (.tuple #[]) (w.setRow g (splice cur off (jw z.cells.toList n)).toArray):=by
 have hzl:(jw z.cells.toList n).length=n*z.cells.size:=by grind [mo]
 have hst:=run_storeCells_at (P:=P) g off te (jw z.cells.toList n) 0 cur.toArray w hg (by grind) (GF _ h1 n);simp only[mF] at hst;cases n with
 | zero =>
  unfold Builtin.clear_;have e:splice cur off (jw z.cells.toList 0)=cur:=by simp_all [splice]
  rw[e,setRow_self w g cur.toArray te (0,0) hg];simp[JW hu]
 | succ n =>
  simp_all [Builtin.clear_,JW,Cy,splice]
open Go.RowKit
theorem aed:(Tryz.prog.info? 302).map (fun i=>(i.zero,i.size,i.bytes))=some (some (.agg #[I 0,I 0,.bool false]),3,24):=by rfl
theorem aee (a b c d e:Value):Tryz.prog.built 158 [(0,.agg #[a,b,c,d,e])]=some (mH a b c d e sZ):=by kernel_rfl
theorem OO {P:Program} {ops:Array Oper} {rest:List Oper} {o:Oper} {a:Act} {w:World} {Q:Exit->Act->World->Prop} (hg:o.guard=none) (t:TypeId) (x:Operand) (ho:o.op=.build t #[(0,x)]) (v:Value) (hx:a.eval x=v) (cells:Array Value) (hb:P.built t [(0,v)]=some cells) (h:wpList P ops Q rest (a.put o.dst (.agg cells)) w):wpList P ops Q (o::rest) a w :=
 wpList_build hg t #[(0,x)] ho (by grind) (by simpa [hx,hb] using h)
def xe (n:Nat):Array Value:=madeCells #[I 0,I 0,.bool false] (n*3)
theorem adm (V:World) (n:Nat) (hn:n<=1000):(Instr.makeSlice 250 (I (n:Int)) (I (n:Int))).run Tryz.prog V=.ok (.slice (some (Ad V.heap.size 0)) n n) (V.alloc (.cells (xe n) 302)):=by
 obtain⟨i0,hi,hz0,hz1,hz2⟩:=jy aed;have h:=run_make (P:=Tryz.prog) V 250 302 i0 (.agg #[I 0,I 0,.bool false]) Tryz.underlying250 hi hz0 .i64 .i64 (n:Int) (n:Int) (by omega) (AK _) (by grind) (by omega);rw[hz1,jz] at h;exact h
theorem Zf:∀n,jw [I 0,I 0,.bool false] n=(List.replicate n dG).flatMap vB
 | 0=>rfl
 | n+1=>by rw[jw,Zf n,List.replicate_succ,nV];rfl
theorem Ze (n:Nat):(xe n).toList=(List.replicate n dG).flatMap vB:=by
 rw[<- Zf];apply Dw
 grind [Ap,xe,madeCells,mo]
theorem Js (n:Nat):(xe n).size=n*3:=by simp[xe,madeCells]
theorem Ho (lo:Nat) (V:World) (n:Nat) (hl:lo<=V.heap.size) (hn:n<=1000):ig lo (V.alloc (.cells (xe n) 302)) V.heap.size n n (List.replicate n dG):=by
 refine⟨uS,?_⟩;rw[<- Ze];refine⟨by grind [Js],.inr ⟨V.heap.size,n,xe n,rfl,hl,bB V (xe n) _,aD _,?_,by rw[Js],?_⟩⟩
 · grind [maxLen]
 grind [Array.length_toList,Js]
end Go.Proofs.YtlgoihmkgaaemaaGreat
