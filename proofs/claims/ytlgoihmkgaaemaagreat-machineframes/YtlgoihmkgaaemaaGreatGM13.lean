import Derived.Test.YtlgoihmkgaaemaaGreatGM11
import Derived.Test.YtlgoihmkgaaemaaGreatGM12
import Derived.Lib.AppendZerosOnto
import Derived.Lib.Overlaps
set_option maxHeartbeats 20000000
set_option linter.unusedVariables false
set_option maxRecDepth 100000
set_option linter.unusedSimpArgs false
namespace Go.Proofs.YtlgoihmkgaaemaaGreat
open Go.RowKit
theorem JZ (w:World):Calls Tryz.prog 170 #[.string ⟨#[0]⟩,I 16] w fun e w'=>e=.returned (.string qE)/\Below w.heap.size w w' :=
 Tryz.strings_Repeat_main ⟨#[0]⟩ 16 w (by decide) (by decide) (by decide) (by decide)
theorem R9 (s:pE) (n:Nat) (w:World) (hn:n<=1000) (hs:s.data.size<=100000) :
  Calls Tryz.prog 113 #[.agg #[I s.page,I s.aO,.string s.data,.bool s.wr,.bool s.ex],I n] w fun e w'=>e=.returned (.string (vE s n))/\Below w.heap.size w w':=by
 obtain⟨pg,pn,dt,wr,qZ0⟩:=s;simp only at hs;obtain⟨b,hb⟩:∃b:Nat,b=min (n*16) dt.size:=⟨_,rfl⟩;obtain⟨e,he⟩:∃e:Nat,e=min (b+16) dt.size:=⟨_,rfl⟩;have HPN:Hid (vE ⟨pg,pn,dt,wr,qZ0⟩ n=iw qE 0 (dt.extract b e)):=by
  show _=_
  grind [vE]
 have hbI:min ((n:Int)*16) (dt.size:Int)=(b:Int):=by omega
 have heI:min ((b:Int)+16) (dt.size:Int)=(e:Int):=by omega
 have h1:b<=e:=by omega
 have h2:e<=dt.size:=by omega
 have h3:e<=b+16:=by omega
 have HLY:Hid (∀V,Calls Tryz.prog 124 #[.string qE,I 0,.string (dt.extract b e)] V fun e w'=>e=.returned (.tuple #[.string (vE ⟨pg,pn,dt,wr,qZ0⟩ n),I 0])/\Below V.heap.size V w'):=fun V=>by
  rw[HPN.o];exact Jr qE (dt.extract b e) 0 V (by grind [Eu]) (by grind [Eu,N4])
 have BX:=aA (bD w #[I pg,I pn,.string dt,.bool wr,.bool qZ0] 166);have HB:=aA ((aJ w.heap.size w).alloc (aH _) (.cells #[I pg,I pn,.string dt,.bool wr,.bool qZ0] 166));obtain⟨W,hW⟩:=ex (w.alloc (.cells #[I pg,I pn,.string dt,.bool wr,.bool qZ0] 166));rw[<- hW] at BX HB;have HW:=aA hW;clear hW hb he;have hbx:=aI BX.o;have Cv:=jh W;have hkc:=@fH W;have e2:∀x:dM W.heap.size W,x.world.cell? (Ad w.heap.size 2)=some (.string dt):=fun x=>by grind [aq,Hid.o]
 have HZ:Hid (∀V,Below W.heap.size W V->Calls Tryz.prog 170 #[.string ⟨#[0]⟩,I 16] V fun e w'=>e=.returned (.string qE)/\Below V.heap.size V w'):=fun V _=>JZ V
 have Bf:Hid (∀V,Below W.heap.size W V->Calls Tryz.prog 124 #[.string qE,I 0,.string (dt.extract b e)] V fun e w'=>e=.returned (.tuple #[.string (vE ⟨pg,pn,dt,wr,qZ0⟩ n),I 0])/\Below V.heap.size V w'):=fun V _=>HLY.o V
 clear hkc HLY;go_enter Tryz.func113,Tryz.ntmps113;go_wp2;rw[<- HW.o];refine di (by rfl) (by kernel_rfl) ?_
 repeat (first | go_big_quiet_step ((first | (go_at_call 170;exact yR _ HZ.o) | (go_at_call 124;exact yR _ Bf.o))) | quiet_step ((first | (go_at_call 170;exact yR _ HZ.o) | (go_at_call 124;exact yR _ Bf.o))))
 refine jd ?_;intro _ hw';obtain⟨x,hw''⟩:=hw';subst hw'';go_wp2;go_ret;exact⟨rfl,HB.o.trans (x.keeps.mono HB.o.size)⟩
theorem ado:(Tryz.prog.info? 226).map (fun i=>(i.zero,i.size,i.bytes))=some (some (.agg #[I 0,.string ⟨#[]⟩]),2,24):=by rfl
theorem PZ (page:Int) (ps:List o5) (ao:Option Addr) (cap:Nat) (w:World) (h0:0<=page) (h1:page<=3000) (h:Kn w ao ps) (hn:ps.length<=1000) (hf:∀k,k<ps.length->Vi (xz ps k)) :
  Calls Tryz.prog 114 #[I page,.slice ao ps.length cap] w fun e w'=>(∃v,e=.returned v/\w'.ownsRow w.heap.size 226 2 v (kH page ps).length ((kH page ps).flatMap CG))/\Below w.heap.size w w':=by
 have HH:=aA h;have HF:=aA hf;clear h hf;obtain⟨i0,hi,hz0,hz1,hz2⟩:=jm ado;go_enter Tryz.func114,Tryz.ntmps114;go_wp2;go_loopw [17,6] (fun i v wr=>∃k:Nat,k<=ps.length/\i=I k/\wr.ownsRow w.heap.size 226 2 v (kH page (ps.take k)).length ((kH page (ps.take k)).flatMap CG)/\Below w.heap.size w wr) (fun i _ _=>ps.length-(intOf i).toNat)
 case atStart=>exact⟨0,by omega,rfl,mC _ _ _ _,aJ _ _⟩
 case round =>
  obtain⟨k,hk,rfl,hown,hb⟩:=hrel;have HOW:=aA hown;have Al:=aA hb;by_cases hlt:k<ps.length
  · obtain⟨b,off,hao,hbl,eX⟩:=(HH.o.below hb) (by omega);subst hao;obtain⟨c0,c1⟩:=eX k hlt;obtain⟨f1,f2,f3⟩:=HF.o k hlt;have HT:Hid (kH page (ps.take (k+1))=kH page (ps.take k)++Dt page (xz ps k)):=by
     show _=_;rw[U6 ps aaJ k hlt,Qj];rfl
    have hlen:=Kg page (ps.take k);rw[vq] at hlen;obtain⟨G,hG⟩:=ex (kH page (ps.take k));rw[<- hG] at HOW HT hlen;obtain⟨p,hp⟩:=ex (xz ps k);rw[<- hp] at c0 c1 f1 f2 f3 HT;clear hG hp eX hb hown;obtain⟨P,by_⟩:=p;simp only at c0 c1 f1 f2 f3;have jQ:=aA (Al.o.alloc Al.o.size (.cells #[I P,.string by_] 282));have Jg:=aA ((aJ wr.heap.size wr).alloc (aH _) (.cells #[I P,.string by_] 282));obtain⟨A,hA⟩:=ex (max (page*16) P);obtain⟨E,hE⟩:=ex (min (page*16+16) (P+8));have hAb:page*16<=A/\P<=A/\A<=1000000:=by omega
    have hEb:E<=page*16+16/\E<=P+8:=by omega
    have hA':max (page*16) P=A:=hA.symm;have hE':min (page*16+16) (P+8)=E:=hE.symm;have ahG:Hid (Dt page ⟨P,by_⟩=if A<E then [⟨A-page*16,by_.extract (A-P).toNat (A-P+(E-A)).toNat⟩] else []):=by
     show _=_;unfold Dt;simp only;rw[hA',hE']
    clear hA hE;by_cases hAE:A<E
    · rw[ahG.o,aB hAE] at HT;obtain⟨u,hu⟩:∃u:Nat,A-P=(u:Int):=⟨(A-P).toNat,by omega⟩;obtain⟨n,hn⟩:∃n:Nat,E-A=(n:Int):=⟨(E-A).toNat,by omega⟩;have hun:(A-P+(E-A)).toNat=u+n:=by omega
      have hu2:(A-P).toNat=u:=by omega
      rw[hun,hu2] at HT;have HPT:Hid (∀V,Calls Tryz.prog 171 #[.string by_,I (A-P),I (E-A)] V fun e w'=>e=.returned (.tuple #[.string (by_.extract u (u+n)),I 0])/\Below V.heap.size V w'):=fun V=>by
       rw[hu,hn];exact Gt by_ u n V (by omega) (by omega)
      obtain⟨s,hs⟩:=ex (by_.extract u (u+n));rw[<- hs] at HPT HT;clear hu hn hun hu2 hs ahG;have ao5:¬E<=A:=by omega
      go_wp2_with (first
       | (go_at_call 171;refine(HPT.o _).mono ?_;rintro e w1 ⟨rfl,hb⟩;have cM:=aA (jQ.o.trans (hb.mono jQ.o.size));have al0:=aA ((Dm HOW.o (Jg.o.trans (hb.mono Jg.o.size))).alloc (.cells #[I (A-page*16),.string s] 226));have akJ:=al0.o.lt;have HN1:=aA (bD w1 #[I (A-page*16),.string s] 226);have BP:=aA (aN (bD wr #[I P,.string by_] 282) hb (by simp));clear hb)
       | (at_builtin;refine OU _ rfl _ _ 143 rfl w.heap.size 226 i0 (.agg #[I 0,.string ⟨#[]⟩]) 2 24 Tryz.underlying143 hi hz0 hz1 hz2 rfl (by decide) _ _ _ rfl al0.o (Ad w1.heap.size 0) 1 1 [I (A-page*16),.string s] rfl rfl (Gv HN1.o) (by intro u hu;simp at hu;rcases hu with rfl | rfl <;> rfl) (by decide) (by unfold maxLen;omega) (by omega) (by have:=cM.o.size;simp;omega) (w1.heap.size+1) (by simp) ?_;intro gg alH w2 hown2 hgrow agY JK;have aht:=aA hown2;have gP:=aA ((cM.o.alloc cM.o.size (.cells #[I (A-page*16),.string s] 226)).grown hgrow (by have:=cM.o.size;simp;omega) (fun q hq=>(akJ _ hq).1));clear hown2 hgrow agY))
      go_roundw
      case rel=>exact⟨k+1,by omega,by go_num,by rw[HT.o,fD,xw];exact aht.o,gP.o⟩
      case measure=>simp[intOf];omega
    · rw[ahG.o,au hAE,C6] at HT;have ao5:E<=A:=by omega
      clear ahG;go_wp2;go_roundw
      case rel=>exact⟨k+1,by omega,by go_num,by rw[HT.o];exact HOW.o.alloc _,jQ.o⟩
      case measure=>simp[intOf];omega
  · obtain rfl:k=ps.length:=by omega
    rw[vh] at HOW;clear hown hb;go_wp2;go_ret;exact⟨⟨_,rfl,HOW.o⟩,Al.o⟩
open Go.RowKit
theorem YE (d:ByteArray):d.toList.isEmpty=decide (d.size=0):=by
 rw[JH];obtain⟨⟨l⟩⟩:=d;cases l with
 | nil=>rfl
 | cons a r=>rfl
theorem Me (d:ByteArray):(d.toList=[])=(d.size=0):=by
 rw[JH];obtain⟨⟨l⟩⟩:=d
 grind [ByteArray.size]
theorem Hz (f:lK) (w:World):Calls Tryz.prog 216 #[.agg #[.string f.data,I f.refs,.bool f.jw,.bool f.seen]] w fun e w'=>e=.returned (.bool (sM f))/\Below w.heap.size w w':=by
 obtain⟨d,r,dy,sn⟩:=f;unfold sM;simp only;obtain⟨A,hA⟩:=ex (decide (d.size=0/\r=0/\dy=false/\sn=false));rw[<- hA];have HA:=ai hA;clear hA;go_enter Tryz.func216,Tryz.ntmps216;go_wp2
 all_goals
  go_ret;refine⟨dY (fun b=>Ending.returned (.bool b)) ?_,(aJ _ _).alloc (aH _) _⟩
  grind [Me,Hid.o]
theorem aa4:qE=uV:=by decide
theorem M8 (hs:List bG) (p:Int) (z:Bool) (mb:Nat) (w:World) (hfl:∀n:Nat,n<256->w.cell? (Ad mb (5+n))=some (.string (eV hs n))) (hp:0<=p/\p<256) :
  Calls Tryz.prog 130 #[.pointer (some (Ad mb 0)),I p,.bool z] w fun e w'=>e=.returned (.string (fY hs p z))/\Below w.heap.size w w':=by
 have HZ:Hid (∀V,Calls Tryz.prog 170 #[.string ⟨#[0]⟩,I 16] V fun e w'=>e=.returned (.string uV)/\Below V.heap.size V w'):=fun V=>by rw[<- aa4];exact JZ V
 cases z with
 | true =>
  have HF:Hid (fY hs p true=uV):=rfl;rw[HF.o];clear hfl;obtain⟨Z,hZ⟩:=ex uV;rw[<- hZ] at HZ ⊢;clear hZ HF;go_enter Tryz.func130,Tryz.ntmps130;go_wp2_with (go_at_call 170;refine(HZ.o _).mono ?_;rintro e w1 ⟨rfl,hb1⟩;have cM:=ai hb1;clear hb1)
  go_ret;exact⟨rfl,cM.o⟩
 | false =>
  obtain⟨n,rfl⟩:∃n:Nat,p=(n:Int):=⟨p.toNat,by omega⟩;have q:=hfl n (by omega);have HF:Hid (fY hs (n:Int) false=eV hs n):=rfl;rw[HF.o];obtain⟨D,hD⟩:=ex (eV hs (n:Int));rw[<- hD] at q ⊢;clear hD HF hfl HZ;go_enter Tryz.func130,Tryz.ntmps130;go_wp2;go_ret;exact⟨rfl,aJ _ _⟩
open Go.RowKit
theorem fW {P:Program} {f:FuncId} {args:Array Value} {v:Value} {w:World} (x:dM w.heap.size w) (h:∀W,Below w.heap.size w W->Calls P f args W fun e w'=>e=.returned v/\Below W.heap.size W w') :
  Calls P f args x.world fun e w''=>e=.returned v/\∃y:dM w.heap.size w,w''=y.world :=
 (h x.world x.keeps).mono fun e w'' ⟨he,hb⟩=>⟨he,⟨w'',x.keeps.trans (hb.mono x.keeps.size)⟩,rfl⟩
theorem afj (x y:ByteArray):(x.toList==y.toList)=decide (x=y):=by
 rw[JH,JH];by_cases c:x=y
 · grind
 · rw[je c,lG];exact fun e=>c (by cases x;simp_all)
theorem Ky (hs:List bG) (f:lK) (u:eT) (mb:Nat) (w:World) (hmb:mb<w.heap.size) (hfl:∀n:Nat,n<256->w.cell? (Ad mb (5+n))=some (.string (eV hs n))) (hp:u.refs≠0->0<=u.page/\u.page<256) (hd:cu f.data.size) :
  Calls Tryz.prog 192 #[.pointer (some (Ad mb 0)),.agg #[.string f.data,I f.refs,.bool f.jw,.bool f.seen],.agg #[I u.refs,I u.page,.bool u.zero]] w fun e w'=>e=.returned (.bool (jJ hs f u))/\Below w.heap.size w w':=by
 obtain⟨A,hA⟩:=ex (jJ hs f u);rw[<- hA];unfold jJ at hA;have HA:=ai hA;have HIZ:=ai (fun V=>Hz f V);obtain⟨IZ,hIZ⟩:=ex (sM f);rw[<- hIZ] at HA HIZ;clear hIZ;obtain⟨d,r,dy,sn⟩:=f;obtain⟨ur,up,uz⟩:=u;simp only at HA HIZ hp hd ⊢;unfold cu at hd;have HB:=ai (((aJ w.heap.size w).alloc (aH _) (.cells #[.string d,I r,.bool dy,.bool sn] 169)).alloc (by simp) (.cells #[I ur,I up,.bool uz] 302));have HFL:=ai hfl;clear hA hfl;by_cases c:ur=0
 · subst c;rw[aB rfl] at HA;go_enter Tryz.func192,Tryz.ntmps192;go_wp2_with (go_at_call 216;refine(HIZ.o _).mono ?_;rintro e w1 ⟨rfl,hb1⟩;have cM:=ai (bU HB.o hb1);clear hb1)
   go_ret;exact⟨dY (fun b=>Ending.returned (.bool b)) HA.o.symm,cM.o⟩
 · rw[au c] at HA;have cb:(ur==0)=false:=by grind
   have GR:=hp c;clear HIZ hp;by_cases c1:r=ur
   · have c1b:(r != ur)=false:=by grind
     by_cases c2:d.size=16
     · have c2i:((d.size:Int) != 16)=false:=by grind
       have EG:Hid (A=(dy || decide (d=fY hs up uz))):=by grind
       have Ai:Hid (∀V,Below w.heap.size w V->Calls Tryz.prog 130 #[.pointer (some (Ad mb 0)),I up,.bool uz] V fun e w'=>e=.returned (.string (fY hs up uz))/\Below V.heap.size V w'):=fun V hV=>M8 hs up uz mb V (fun n hn=>(hV.cell (p:=(Ad mb (5+n))) hmb).trans (HFL.o n hn)) GR
       obtain⟨FK,hFK⟩:=ex (fY hs up uz);rw[<- hFK] at EG Ai;have BF:=ai (bl (bD w #[.string d,I r,.bool dy,.bool sn] 169) (.cells #[I ur,I up,.bool uz] 302));have BU:=ai (bD (w.alloc (.cells #[.string d,I r,.bool dy,.bool sn] 169)) #[I ur,I up,.bool uz] 302);rw[fM] at BU;clear hFK HA c c1 c2;go_enter Tryz.func192,Tryz.ntmps192;go_wp2_with fail
       obtain⟨W,hW⟩:=ex ((w.alloc (.cells #[.string d,I r,.bool dy,.bool sn] 169)).alloc (.cells #[I ur,I up,.bool uz] 302));rw[<- hW] at HB BF BU ⊢;have Cv:=jh W;have k0:∀x:dM W.heap.size W,x.world.cell? (Ad w.heap.size 0)=some (.string d):=fun x=>by grind [fH,aq,Hid.o]
       have k2:∀x:dM W.heap.size W,x.world.cell? (Ad w.heap.size 2)=some (.bool dy):=fun x=>by rw[fH x _ _ (aI BF.o)];simp_all
       have l1:∀x:dM W.heap.size W,x.world.cell? (Ad (w.heap.size+1) 1)=some (I up):=fun x=>by rw[fH x _ _ (aI BU.o)];simp_all
       have l2:∀x:dM W.heap.size W,x.world.cell? (Ad (w.heap.size+1) 2)=some (.bool uz):=fun x=>by rw[fH x _ _ (aI BU.o)];exact aq BU.o 2 rfl
       have amf:=ai (fun V (hV:Below W.heap.size W V)=>Ai.o V (HB.o.trans (hV.mono HB.o.size)));clear hW Ai BF BU;cases dy with
       | true =>
        have Ce:Hid (A=true):=EG;clear EG;refine di (by rfl) (by kernel_rfl) ?_
        repeat (first | go_big_quiet_step (fail) | quiet_step (fail))
        refine jd ?_;rintro _ ⟨x,rfl⟩;go_wp2;go_ret;exact⟨dY (fun b=>Ending.returned (.bool b)) Ce.o.symm,HB.o.trans (x.keeps.mono HB.o.size)⟩
       | false =>
        have Ce:Hid (A=(d.toList==FK.toList)):=by grind [afj]
        clear EG;refine di (by rfl) (by kernel_rfl) ?_
        repeat (first | go_big_quiet_step ((go_at_call 130;exact fW _ amf.o)) | quiet_step ((go_at_call 130;exact fW _ amf.o)))
        refine jd ?_;rintro _ ⟨x,rfl⟩;go_wp2;go_ret;exact⟨dY (fun b=>Ending.returned (.bool b)) Ce.o.symm,HB.o.trans (x.keeps.mono HB.o.size)⟩
     · have c2i:((d.size:Int) != 16)=true:=by grind
       have EG:Hid (A=false):=by grind
       clear HA c c1 c2;go_enter Tryz.func192,Tryz.ntmps192;go_wp2;go_ret;exact⟨dY (fun b=>Ending.returned (.bool b)) EG.o.symm,HB.o⟩
   · have c1b:(r != ur)=true:=by grind
     have EG:Hid (A=false):=by grind
     clear HA c c1;go_enter Tryz.func192,Tryz.ntmps192;go_wp2;go_ret;exact⟨dY (fun b=>Ending.returned (.bool b)) EG.o.symm,HB.o⟩
open Go.RowKit
theorem TX {n:Nat} {p:Nat->Bool} {i:Nat} (hi:i<n) (h:p i=false):(List.range n).all p=false:=by
 grind
theorem Qt {n:Nat} {p:Nat->Bool} (h:∀i,i<n->p i=true):(List.range n).all p=true:=by
 grind
theorem Jb (hs:List bG) (fs:List lK) (us:List eT) (aF:Option Addr) (cF mb lo g cap:Nat) (w:World) (hF:dW iT 4 gM w aF fs) (hU:gW lo w g fs.length cap us) (hmb:mb<w.heap.size) (nC:w.cell? (Ad mb 1)=some (.slice aF fs.length cF)) (hfl:∀n:Nat,n<256->w.cell? (Ad mb (5+n))=some (.string (eV hs n))) (hp:∀i,i<fs.length->(cU us i).refs≠0->0<=(cU us i).page/\(cU us i).page<256) (hd:∀i,i<fs.length->cu (aD fs i).data.size) (hn:fs.length<=64) :
  Calls Tryz.prog 144 #[.pointer (some (Ad mb 0)),.slice (some (Ad g 0)) fs.length cap] w fun e w'=>e=.returned (.bool ((List.range fs.length).all fun i=>jJ hs (aD fs i) (cU us i)))/\Below w.heap.size w w':=by
 have HH:=ai hF;have HU:=ai hU;have hg:=hU.lt.2;have Lg:Hid (∀i,i<fs.length->∀V,Below w.heap.size w V->Calls Tryz.prog 192 #[.pointer (some (Ad mb 0)),.agg #[.string (aD fs i).data,I (aD fs i).refs,.bool (aD fs i).jw,.bool (aD fs i).seen],.agg #[I (cU us i).refs,I (cU us i).page,.bool (cU us i).zero]] V fun e w'=>e=.returned (.bool (jJ hs (aD fs i) (cU us i)))/\Below V.heap.size V w'):=fun i hi V hV=>Ky hs _ _ mb V (fV hmb hV.size) (fun n hn=>(hV.cell (p:=(Ad mb (5+n))) hmb).trans (hfl n hn)) (hp i hi) (hd i hi)
 have uP:=ai (fun i (hi:i<fs.length)=>@TX fs.length (fun i=>jJ hs (aD fs i) (cU us i)) i hi);have ER:=ai (@Qt fs.length (fun i=>jJ hs (aD fs i) (cU us i)));obtain⟨A,hA⟩:=ex ((List.range fs.length).all fun i=>jJ hs (aD fs i) (cU us i));rw[<- hA] at uP ER ⊢;obtain⟨n,hnn⟩:=ex fs.length;rw[<- hnn] at HU Lg uP ER nC hn ⊢;have HNN:=ai hnn;clear hF hU hfl hp hd hA hnn;go_enter Tryz.func144,Tryz.ntmps144;go_wp2;go_loopw [13] (fun iv wr=>∃k:Nat,k<=n/\iv=I (k:Int)/\Below w.heap.size w wr/\∀i,i<k->jJ hs (aD fs i) (cU us i)=true) (fun iv _=>n-(intOf iv).toNat)
 case atStart=>grind [Below.refl]
 case round =>
  obtain⟨k,hk,rfl,hb,E0⟩:=hrel;have HB:=ai hb;have HP:=ai E0;clear E0;by_cases hlt:k<n
  · obtain⟨fb,fo,hao,hbl,eX⟩:=HH.o (by rw[<- HNN.o];omega);subst hao;have ce:∀j,j<4->wr.cell? (Ad fb (fo+k*4+j))=(iT (aD fs k))[j]?:=fun j hj=>(hb.cell (p:=(Ad fb (fo+k*4+j))) hbl).trans (eX k (by rw[<- HNN.o];exact hlt) j hj)
    have y0:=ce 0 (by omega);have y1:=ce 1 (by omega);have y2:=ce 2 (by omega);have y3:=ce 3 (by omega);rw[mA] at y0;obtain⟨z0,z1,z2⟩:=HU.o.at k hlt;have Lg:=ai (Lg.o k hlt);have uP:=ai (uP.o k hlt);have Xo:Hid (jJ hs (aD fs k) (cU us k)=true->∀i,i<k+1->jJ hs (aD fs i) (cU us i)=true):=fun g i hi=>by
     by_cases e:i=k
     · rw[e];exact g
     · exact HP.o i (by omega)
    obtain⟨R,hR⟩:=ex (jJ hs (aD fs k) (cU us k));have uP:Hid (R=false->A=false):=fun g=>uP.o (by rw[<- hR];exact g)
    rw[<- hR] at Lg Xo;obtain⟨f,hf⟩:=ex (aD fs k);obtain⟨u,hu⟩:=ex (cU us k);rw[<- hf] at Lg y0 y1 y2 y3;rw[<- hu] at Lg z0 z1 z2;obtain⟨d,r,dy,sn⟩:=f;obtain⟨ur,up,uz⟩:=u;simp only at Lg z0 z1 z2;have x0:wr.cell? (Ad fb (fo+k*4))=some (.string d):=y0;have x1:wr.cell? (Ad fb (fo+k*4+1))=some (I r):=y1;have x2:wr.cell? (Ad fb (fo+k*4+2))=some (.bool dy):=y2;have x3:wr.cell? (Ad fb (fo+k*4+3))=some (.bool sn):=y3;have agV:=hb.size;have jQ:=ai (HB.o.alloc HB.o.size (.cells #[.string d,I r,.bool dy,.bool sn] 169));have BF:=ai (bD wr #[.string d,I r,.bool dy,.bool sn] 169);clear hR hf hu y0 y1 y2 y3 ce eX hb ER;go_wp2_with fail
    obtain⟨W,hW⟩:=ex (wr.alloc (.cells #[.string d,I r,.bool dy,.bool sn] 169));rw[<- hW] at jQ BF ⊢;obtain⟨sb,IU⟩:=ex wr.heap.size;rw[<- IU] at BF ⊢;clear hW IU x0 x1 x2 x3;have Cv:=jh W;have k0:∀x:dM W.heap.size W,x.world.cell? (Ad sb 0)=some (.string d):=fun x=>by rw[fH x _ _ (aI BF.o)];exact aq BF.o 0 rfl
    have k1:∀x:dM W.heap.size W,x.world.cell? (Ad sb 1)=some (I r):=fun x=>by rw[fH x _ _ (aI BF.o)];exact aq BF.o 1 rfl
    have k2:∀x:dM W.heap.size W,x.world.cell? (Ad sb 2)=some (.bool dy):=fun x=>by rw[fH x _ _ (aI BF.o)];exact aq BF.o 2 rfl
    have k3:∀x:dM W.heap.size W,x.world.cell? (Ad sb 3)=some (.bool sn):=fun x=>by rw[fH x _ _ (aI BF.o)];exact aq BF.o 3 rfl
    have hgW:g<W.heap.size:=by have:=jQ.o.size;omega
    have l0:∀x:dM W.heap.size W,x.world.cell? (Ad g (k*3))=some (I ur):=fun x=>by rw[fH x _ _ hgW];exact(jQ.o.cell (p:=(Ad g (k*3))) hg).trans z0
    have l1:∀x:dM W.heap.size W,x.world.cell? (Ad g (k*3+1))=some (I up):=fun x=>by rw[fH x _ _ hgW];exact(jQ.o.cell (p:=(Ad g (k*3+1))) hg).trans z1
    have l2:∀x:dM W.heap.size W,x.world.cell? (Ad g (k*3+2))=some (.bool uz):=fun x=>by rw[fH x _ _ hgW];exact(jQ.o.cell (p:=(Ad g (k*3+2))) hg).trans z2
    have ajE:=ai (fun V (hV:Below W.heap.size W V)=>Lg.o V (jQ.o.trans (hV.mono jQ.o.size)));have kk0:(0:Int)<=(k:Int):=by omega
    have kk1:(k:Int)<(n:Int):=by omega
    clear Lg BF z0 z1 z2;refine di (by kernel_rfl) (by kernel_rfl) ?_
    repeat (first | go_big_quiet_step ((go_at_call 192;exact fW _ ajE.o)) | quiet_step ((go_at_call 192;exact fW _ ajE.o)))
    refine jd ?_;rintro _ ⟨x,rfl⟩;have kX:=ai (jQ.o.trans (x.keeps.mono jQ.o.size));clear k0 k1 k2 k3 l0 l1 l2 ajE;cases R with
    | false =>
     have HA:=ai (uP.o rfl);go_wp2;go_ret;exact⟨dY (fun b=>Ending.returned (.bool b)) HA.o.symm,kX.o⟩
    | true =>
     have Wf:=ai (Xo.o rfl);clear Xo uP;go_wp2;go_roundw
     case rel=>exact⟨k+1,by omega,by go_num,kX.o,Wf.o⟩
     case measure=>simp[intOf];omega
  · obtain rfl:k=n:=by omega
    have HA:=ai (ER.o HP.o);clear hb;go_wp2;go_ret;exact⟨dY (fun b=>Ending.returned (.bool b)) HA.o.symm,HB.o⟩
open Go.RowKit
theorem Kw (fs:List oO) (us:List eT) (aF:Option Addr) (cF mb lo g cap:Nat) (w:World) (hF:dW iQ 2 nR w aF fs) (hU:gW lo w g fs.length cap us) (nC:w.cell? (Ad mb 2)=some (.slice aF fs.length cF)) (hr:∀i,i<fs.length->0<=(cU us i).refs) (hd:∀i,i<fs.length->cu (bE fs i).data.size) (hn:fs.length<=512) :
  Calls Tryz.prog 145 #[.pointer (some (Ad mb 0)),.slice (some (Ad g 0)) fs.length cap] w fun e w'=>e=.returned (.bool ((List.range fs.length).all fun i=>lZ (bE fs i) (cU us i)))/\Below w.heap.size w w':=by
 have HH:=ai hF;have HU:=ai hU;have hg:=hU.lt.2;have uP:=ai (fun i (hi:i<fs.length)=>@TX fs.length (fun i=>lZ (bE fs i) (cU us i)) i hi);have ER:=ai (@Qt fs.length (fun i=>lZ (bE fs i) (cU us i)));have HR:=ai hr;have HD:=ai hd;obtain⟨A,hA⟩:=ex ((List.range fs.length).all fun i=>lZ (bE fs i) (cU us i));rw[<- hA] at uP ER ⊢;obtain⟨n,hnn⟩:=ex fs.length;rw[<- hnn] at HU uP ER HR HD nC hn ⊢;have HNN:=ai hnn;clear hF hU hr hd hA hnn;go_enter Tryz.func145,Tryz.ntmps145;go_wp2;go_loopw [14] (fun iv wr=>∃k:Nat,k<=n/\iv=I (k:Int)/\Below w.heap.size w wr/\∀i,i<k->lZ (bE fs i) (cU us i)=true) (fun iv _=>n-(intOf iv).toNat)
 case atStart=>grind [Below.refl]
 case round =>
  obtain⟨k,hk,rfl,hb,E0⟩:=hrel;have HB:=ai hb;have HP:=ai E0;clear E0;by_cases hlt:k<n
  · obtain⟨fb,fo,hao,hbl,eX⟩:=HH.o (by rw[<- HNN.o];omega);subst hao;have ce:∀j,j<2->wr.cell? (Ad fb (fo+k*2+j))=(iQ (bE fs k))[j]?:=fun j hj=>(hb.cell (p:=(Ad fb (fo+k*2+j))) hbl).trans (eX k (by rw[<- HNN.o];exact hlt) j hj)
    have y0:=ce 0 (by omega);have y1:=ce 1 (by omega);rw[mA] at y0;obtain⟨a0,_,_⟩:=HU.o.at k hlt;have z0:=(hb.cell (p:=(Ad g (k*3))) hg).trans a0;have hrk:=HR.o k hlt;have hdk:=HD.o k hlt;unfold cu at hdk;have uP:=ai (uP.o k hlt);have Xo:Hid (lZ (bE fs k) (cU us k)=true->∀i,i<k+1->lZ (bE fs i) (cU us i)=true):=fun g i hi=>by
     by_cases e:i=k
     · rw[e];exact g
     · exact HP.o i (by omega)
    unfold lZ tI at uP Xo;obtain⟨f,hf⟩:=ex (bE fs k);obtain⟨u,hu⟩:=ex (cU us k);have Wf:Hid ((if u.refs=0 then decide (f.data.size=0/\f.refs=0) else decide (f.refs=u.refs/\f.data.size=16))=true->∀i,i<k+1->lZ (bE fs i) (cU us i)=true):=by rw[hf,hu];exact Xo
    have D8:Hid ((if u.refs=0 then decide (f.data.size=0/\f.refs=0) else decide (f.refs=u.refs/\f.data.size=16))=false->A=false):=by rw[hf,hu];exact uP
    rw[<- hf] at y0 y1 hdk;rw[<- hu] at z0 hrk;obtain⟨d,r⟩:=f;obtain⟨ur,up,uz⟩:=u;simp only at Wf D8 z0 hrk hdk;have x0:wr.cell? (Ad fb (fo+k*2))=some (.string d):=y0;have x1:wr.cell? (Ad fb (fo+k*2+1))=some (I r):=y1;have agV:=hb.size;have LU:¬fb=wr.heap.size:=by omega
    have hgb:¬g=wr.heap.size:=by omega
    have jQ:=ai (HB.o.alloc HB.o.size (.cells #[.string d,I r] 171));have kk0:(0:Int)<=(k:Int):=by omega
    have kk1:(k:Int)<(n:Int):=by omega
    have zA:(wr.alloc (.cells #[.string d,I r] 171)).cell? (Ad g (k*3))=some (I ur):=(OP ((aJ wr.heap.size wr).alloc (aH _) _) (p:=(Ad g (k*3))) (by show g<_;omega)).trans z0;clear hf hu y0 y1 ce eX hb ER Xo uP a0;by_cases c:ur=0
    · subst c;rw[aB rfl] at Wf D8;rcases(show(d.toList=[]/\r=0)∨(d.toList=[]/\¬r=0)∨¬d.toList=[] by
       by_cases a:d.toList=[]
       · by_cases b:r=0
         · exact .inl ⟨a,b⟩
         · exact .inr (.inl ⟨a,b⟩)
       · exact .inr (.inr a)) with⟨g1,g2⟩ | ⟨g1,g2⟩ | g1
      · have HP4:=ai (Wf.o (by rw[Me] at g1;exact gU ⟨g1,g2⟩));subst g2;clear Wf D8;go_wp2;go_roundw
        case rel=>exact⟨k+1,by omega,by go_num,jQ.o,HP4.o⟩
        case measure=>simp[intOf];omega
      · have HA:=ai (D8.o (je (fun x=>g2 x.2)));clear Wf D8;go_wp2;go_ret;exact⟨dY (fun b=>Ending.returned (.bool b)) HA.o.symm,jQ.o⟩
      · have HA:=ai (D8.o (je (fun x=>g1 (by rw[Me];exact x.1))));clear Wf D8;go_wp2;go_ret;exact⟨dY (fun b=>Ending.returned (.bool b)) HA.o.symm,jQ.o⟩
    · rw[au c] at Wf D8;have cb:(ur==0)=false:=by simpa using c
      have cp:0<ur:=by omega
      rcases(show(r=ur/\d.size=16)∨(r=ur/\¬d.size=16)∨¬r=ur by omega) with⟨g1,g2⟩ | ⟨g1,g2⟩ | g1
      · have HP4:=ai (Wf.o (gU ⟨g1,g2⟩));have b1:(r != ur)=false:=by simpa using g1
        have b2:((d.size:Int) != 16)=false:=by rw[bne_eq_false_iff_eq];omega
        clear Wf D8 g1 g2 c;go_wp2;go_roundw
        case rel=>exact⟨k+1,by omega,by go_num,jQ.o,HP4.o⟩
        case measure=>simp[intOf];omega
      · have HA:=ai (D8.o (je (fun x=>g2 x.2)));have b1:(r != ur)=false:=by simpa using g1
        have b2:((d.size:Int) != 16)=true:=by rw[bne_iff_ne];omega
        clear Wf D8 g1 g2 c;go_wp2;go_ret;exact⟨dY (fun b=>Ending.returned (.bool b)) HA.o.symm,jQ.o⟩
      · have HA:=ai (D8.o (je (fun x=>g1 x.1)));have b1:(r != ur)=true:=by simpa using g1
        clear Wf D8 g1 c;go_wp2;go_ret;exact⟨dY (fun b=>Ending.returned (.bool b)) HA.o.symm,jQ.o⟩
  · obtain rfl:k=n:=by omega
    have HA:=ai (ER.o HP.o);clear hb;go_wp2;go_ret;exact⟨dY (fun b=>Ending.returned (.bool b)) HA.o.symm,HB.o⟩
open Go.RowKit
theorem tQ {P:Program} (w:World) (dT sT ty elem:TypeId) (size:Nat) (hu:P.underlying dT=some (.slice elem)) (hsz:∀w,(sizeOf elem).run P w=.ok size w) (g off dLen dCap:Nat) (sp:Option Addr) (sLen sCap:Nat)
  (cur:List Value) (t:TypeId) (hg:w.heap[g]?=some (.cells cur.toArray t (0,0))) (cs:List Value) (hn:cs.length=Nat.min sLen dLen*size) (hsrc:0<cs.length->∃ad,sp=some ad/\∀j v,cs[j]?=some v->w.cell? (ad.add j)=some v)
  (hfit:off+cs.length<=cur.length) (h1:∀v∈cs,v.oneCell'=true) :
  (Builtin.copy_ #[dT,sT] ty #[.slice (some (Ad g off)) dLen dCap,.slice sp sLen sCap]).run P w=.ok (goInt (Nat.min sLen dLen)) (w.setRow g (splice cur off cs).toArray):=by
 have hst:=run_storeCells_at (P:=P) g off t cs 0 cur.toArray w hg (by omega) h1;have hfc:(Builtin.firstCells size (Nat.min sLen dLen) (.slice sp sLen sCap)).run P w=.ok cs.toArray w:=by
  by_cases h0:0<cs.length
  · grind [run_firstCells_some]
  · have hcs:cs=[]:=kT (by omega);subst hcs;cases sp with
    | none=>rfl
    | some ad=>grind [run_firstCells_some]
 simp_all [Builtin.copy_,Jy,Builtin.lenOf,splice]
def jk (z:List Value):Nat->List Value
 | 0=>[]
 | n+1=>z++jk z n
theorem l9 (z:List Value):∀n,(jk z n).length=n*z.length
 | 0=>by simp[jk]
 | n+1=>by rw[jk,fD,l9 z n,Nat.succ_mul,Nat.add_comm]
theorem zV (z:List Value):∀(n j:Nat),j<n*z.length->(jk z n)[j]?=z[j%z.length]?
 | 0,j,h=>by omega
 | n+1,j,h=>by
  have hz:0<z.length:=by
   grind
  rw[jk];by_cases c:j<z.length
  · grind [Nat.mod_eq_of_lt]
  · rw[yP (by omega),zV z n (j-z.length) (by grind),<- Nat.mod_eq_sub_mod (by omega)]
theorem Cg (z:Array Value) (n:Nat) (hz:0<z.size):(Builtin.zeroCells z n).toList=jk z.toList n:=by
 apply Df
 grind [zV,Builtin.zeroCells,l9]
theorem Gk (z:List Value) (h:∀u∈z,u.oneCell'=true):∀n,∀u∈jk z n,u.oneCell'=true
 | 0,u,hu=>by cases hu
 | n+1,u,hu=>by
  rcases lQ.1 hu with g | g
  · grind
  · exact Gk z h n u g
theorem Lv {P:Program} (w:World) (t ty elem:TypeId) (z:Value) (hu:P.underlying t=some (.slice elem)) (hv:∀w,(zeroValue elem).run P w=.ok z w) (hz:0<z.cells.size) (h1:∀u∈z.cells.toList,u.oneCell'=true) (g off n c:Nat)
  (cur:List Value) (te:TypeId) (hg:w.heap[g]?=some (.cells cur.toArray te (0,0))) (hfit:off+n*z.cells.size<=cur.length) :
  (Builtin.clear_ #[t] ty #[.slice (some (Ad g off)) n c]).run P w=.ok (.tuple #[]) (w.setRow g (splice cur off (jk z.cells.toList n)).toArray):=by
 have hzl:(jk z.cells.toList n).length=n*z.cells.size:=by grind [l9]
 have hst:=run_storeCells_at (P:=P) g off te (jk z.cells.toList n) 0 cur.toArray w hg (by grind) (Gk _ h1 n);simp only[mA] at hst;cases n with
 | zero =>
  unfold Builtin.clear_;have e:splice cur off (jk z.cells.toList 0)=cur:=by simp_all [splice]
  rw[e,setRow_self w g cur.toArray te (0,0) hg];simp[Jy hu]
 | succ n =>
  simp_all [Builtin.clear_,Jy,Cg,splice]
open Go.RowKit
theorem adz:(Tryz.prog.info? 302).map (fun i=>(i.zero,i.size,i.bytes))=some (some (.agg #[I 0,I 0,.bool false]),3,24):=by rfl
theorem adA (a b c d e:Value):Tryz.prog.built 158 [(0,.agg #[a,b,c,d,e])]=some (mD a b c d e sI):=by kernel_rfl
theorem Oa {P:Program} {ops:Array Oper} {rest:List Oper} {o:Oper} {a:Act} {w:World} {Q:Exit->Act->World->Prop} (hg:o.guard=none) (t:TypeId) (x:Operand) (ho:o.op=.build t #[(0,x)]) (v:Value) (hx:a.eval x=v) (cells:Array Value) (hb:P.built t [(0,v)]=some cells) (h:wpList P ops Q rest (a.put o.dst (.agg cells)) w):wpList P ops Q (o::rest) a w :=
 wpList_build hg t #[(0,x)] ho (by grind) (by simpa [hx,hb] using h)
def wK (n:Nat):Array Value:=madeCells #[I 0,I 0,.bool false] (n*3)
theorem acG (V:World) (n:Nat) (hn:n<=1000):(Instr.makeSlice 250 (I (n:Int)) (I (n:Int))).run Tryz.prog V=.ok (.slice (some (Ad V.heap.size 0)) n n) (V.alloc (.cells (wK n) 302)):=by
 obtain⟨i0,hi,hz0,hz1,hz2⟩:=jm adz;have h:=run_make (P:=Tryz.prog) V 250 302 i0 (.agg #[I 0,I 0,.bool false]) Tryz.underlying250 hi hz0 .i64 .i64 (n:Int) (n:Int) (by omega) (Am _) (by grind) (by omega);rw[hz1,lD] at h;exact h
theorem Yz:∀n,jk [I 0,I 0,.bool false] n=(List.replicate n dx).flatMap uU
 | 0=>rfl
 | n+1=>by rw[jk,Yz n,List.replicate_succ,nM];rfl
theorem Yy (n:Nat):(wK n).toList=(List.replicate n dx).flatMap uU:=by
 rw[<- Yz];apply Df
 grind [zV,wK,madeCells,l9]
theorem Ja (n:Nat):(wK n).size=n*3:=by simp[wK,madeCells]
theorem G1 (lo:Nat) (V:World) (n:Nat) (hl:lo<=V.heap.size) (hn:n<=1000):gW lo (V.alloc (.cells (wK n) 302)) V.heap.size n n (List.replicate n dx):=by
 refine⟨uA,?_⟩;rw[<- Yy];refine⟨by grind [Ja],.inr ⟨V.heap.size,n,wK n,rfl,hl,bD V (wK n) _,aH _,?_,by rw[Ja],?_⟩⟩
 · grind [maxLen]
 grind [Array.length_toList,Ja]
end Go.Proofs.YtlgoihmkgaaemaaGreat
