import Derived.Test.YtpgifpeohlllfaaGreatGR09
import Derived.Test.YtpgifpeohlllfaaGreatGR10
import Derived.Lib.AppendZerosOnto
import Derived.Lib.Overlaps
set_option maxHeartbeats 20000000
set_option linter.unusedVariables false
set_option maxRecDepth 100000
set_option linter.unusedSimpArgs false
namespace Go.Proofs.YtpgifpeohlllfaaGreat
open Go.RowKit
theorem Fv (w:World):Calls Tryz.prog 155 #[.string ⟨#[0]⟩,I 16] w fun e w'=>e=.returned (.string oV)/\Below w.heap.size w w' :=
 Tryz.strings_Repeat_main ⟨#[0]⟩ 16 w (by decide) (by decide) (by decide) (by decide)
theorem Nj (s:nO) (n:Nat) (w:World) (hn:n<=1000) (hs:s.data.size<=100000) :
  Calls Tryz.prog 162 #[.agg #[I s.page,I s.bC,.string s.data,.bool s.wr,.bool s.ex],I n] w fun e w'=>e=.returned (.string (su s n))/\Below w.heap.size w w':=by
 obtain⟨pg,pn,dt,wr,qZ0⟩:=s;simp only at hs;obtain⟨b,hb⟩:∃b:Nat,b=min (n*16) dt.size:=⟨_,rfl⟩;obtain⟨e,he⟩:∃e:Nat,e=min (b+16) dt.size:=⟨_,rfl⟩;have HPN:Hid (su ⟨pg,pn,dt,wr,qZ0⟩ n=gF oV 0 (dt.extract b e)):=by
  show _=_
  grind [su]
 have hbI:min ((n:Int)*16) (dt.size:Int)=(b:Int):=by omega
 have heI:min ((b:Int)+16) (dt.size:Int)=(e:Int):=by omega
 have h1:b<=e:=by omega
 have h2:e<=dt.size:=by omega
 have h3:e<=b+16:=by omega
 have YD:Hid (∀V,Calls Tryz.prog 65 #[.string oV,I 0,.string (dt.extract b e)] V fun e w'=>e=.returned (.tuple #[.string (su ⟨pg,pn,dt,wr,qZ0⟩ n),I 0])/\Below V.heap.size V w'):=fun V=>by
  rw[HPN.o];exact EL oV (dt.extract b e) 0 V (by grind [AH]) (by grind [AH,JK])
 have BX:=aA (bO w #[I pg,I pn,.string dt,.bool wr,.bool qZ0] 145);have HB:=aA ((aK w.heap.size w).alloc (aI _) (.cells #[I pg,I pn,.string dt,.bool wr,.bool qZ0] 145));obtain⟨W,hW⟩:=ex (w.alloc (.cells #[I pg,I pn,.string dt,.bool wr,.bool qZ0] 145));rw[<- hW] at BX HB;have HW:=aA hW;clear hW hb he;have C7:=aT BX.o;have uP:=gG W;have hkc:=@fD W;have e2:∀x:dm W.heap.size W,x.world.cell? (Ad w.heap.size 2)=some (.string dt):=fun x=>by grind [aB,Hid.o]
 have HZ:Hid (∀V,Below W.heap.size W V->Calls Tryz.prog 155 #[.string ⟨#[0]⟩,I 16] V fun e w'=>e=.returned (.string oV)/\Below V.heap.size V w'):=fun V _=>Fv V
 have Mx:Hid (∀V,Below W.heap.size W V->Calls Tryz.prog 65 #[.string oV,I 0,.string (dt.extract b e)] V fun e w'=>e=.returned (.tuple #[.string (su ⟨pg,pn,dt,wr,qZ0⟩ n),I 0])/\Below V.heap.size V w'):=fun V _=>YD.o V
 clear hkc YD;go_enter Tryz.func162,Tryz.ntmps162;go_wp2;rw[<- HW.o];refine cA (by rfl) (by kernel_rfl) ?_
 repeat (first | go_big_quiet_step ((first | (go_at_call 155;exact jM _ HZ.o) | (go_at_call 65;exact jM _ Mx.o))) | quiet_step ((first | (go_at_call 155;exact jM _ HZ.o) | (go_at_call 65;exact jM _ Mx.o))))
 refine fK ?_;intro _ hw';obtain⟨x,hw''⟩:=hw';subst hw'';go_wp2;go_ret;exact⟨rfl,HB.o.trans (x.keeps.mono HB.o.size)⟩
theorem Y8:(Tryz.prog.info? 52).map (fun i=>(i.zero,i.size,i.bytes))=some (some (.agg #[I 0,.string ⟨#[]⟩]),2,24):=by rfl
theorem La (page:Int) (ps:List nj) (ao:Option Addr) (cap:Nat) (w:World) (h0:0<=page) (h1:page<=3000) (h:Ga w ao ps) (hn:ps.length<=1000) (hf:∀k,k<ps.length->Qx (ug ps k)) :
  Calls Tryz.prog 163 #[I page,.slice ao ps.length cap] w fun e w'=>(∃v,e=.returned v/\w'.ownsRow w.heap.size 52 2 v (jI page ps).length ((jI page ps).flatMap y9))/\Below w.heap.size w w':=by
 have HH:=aA h;have HF:=aA hf;clear h hf;obtain⟨i0,hi,hz0,hz1,hz2⟩:=gm Y8;go_enter Tryz.func163,Tryz.ntmps163;go_wp2;go_loopw [17,6] (fun i v wr=>∃k:Nat,k<=ps.length/\i=I k/\wr.ownsRow w.heap.size 52 2 v (jI page (ps.take k)).length ((jI page (ps.take k)).flatMap y9)/\Below w.heap.size w wr) (fun i _ _=>ps.length-(intOf i).toNat)
 case atStart=>exact⟨0,by omega,rfl,jz _ _ _ _,aK _ _⟩
 case round =>
  obtain⟨k,hk,rfl,hown,hb⟩:=hrel;have HOW:=aA hown;have qL:=aA hb;by_cases hlt:k<ps.length
  · obtain⟨b,off,hao,hbl,eI⟩:=(HH.o.below hb) (by omega);subst hao;obtain⟨c0,c1⟩:=eI k hlt;obtain⟨f1,f2,f3⟩:=HF.o k hlt;have HT:Hid (jI page (ps.take (k+1))=jI page (ps.take k)++zM page (ug ps k)):=by
     show _=_;rw[Qp ps VO k hlt,Lu];rfl
    have hlen:=FU page (ps.take k);rw[rX] at hlen;obtain⟨G,hG⟩:=ex (jI page (ps.take k));rw[<- hG] at HOW HT hlen;obtain⟨p,hp⟩:=ex (ug ps k);rw[<- hp] at c0 c1 f1 f2 f3 HT;clear hG hp eI hb hown;obtain⟨P,by_⟩:=p;simp only at c0 c1 f1 f2 f3;have fV:=aA (qL.o.alloc qL.o.size (.cells #[I P,.string by_] 259));have Dt:=aA ((aK wr.heap.size wr).alloc (aI _) (.cells #[I P,.string by_] 259));obtain⟨A,hA⟩:=ex (max (page*16) P);obtain⟨E,hE⟩:=ex (min (page*16+16) (P+8));have hAb:page*16<=A/\P<=A/\A<=1000000:=by omega
    have hEb:E<=page*16+16/\E<=P+8:=by omega
    have hA':max (page*16) P=A:=hA.symm;have hE':min (page*16+16) (P+8)=E:=hE.symm;have adt:Hid (zM page ⟨P,by_⟩=if A<E then [⟨A-page*16,by_.extract (A-P).toNat (A-P+(E-A)).toNat⟩] else []):=by
     show _=_;unfold zM;simp only;rw[hA',hE']
    clear hA hE;by_cases hAE:A<E
    · rw[adt.o,aR hAE] at HT;obtain⟨u,hu⟩:∃u:Nat,A-P=(u:Int):=⟨(A-P).toNat,by omega⟩;obtain⟨n,hn⟩:∃n:Nat,E-A=(n:Int):=⟨(E-A).toNat,by omega⟩;have hun:(A-P+(E-A)).toNat=u+n:=by omega
      have hu2:(A-P).toNat=u:=by omega
      rw[hun,hu2] at HT;have HPT:Hid (∀V,Calls Tryz.prog 63 #[.string by_,I (A-P),I (E-A)] V fun e w'=>e=.returned (.tuple #[.string (by_.extract u (u+n)),I 0])/\Below V.heap.size V w'):=fun V=>by
       rw[hu,hn];exact CL by_ u n V (by omega) (by omega)
      obtain⟨s,hs⟩:=ex (by_.extract u (u+n));rw[<- hs] at HPT HT;clear hu hn hun hu2 hs adt;have amo:¬E<=A:=by omega
      go_wp2_with (first
       | (go_at_call 63;refine(HPT.o _).mono ?_;rintro e w1 ⟨rfl,hb⟩;have dz:=aA (fV.o.trans (hb.mono fV.o.size));have aiM:=aA ((zK HOW.o (Dt.o.trans (hb.mono Dt.o.size))).alloc (.cells #[I (A-page*16),.string s] 52));have ahd:=aiM.o.lt;have Pq:=aA (bO w1 #[I (A-page*16),.string s] 52);have BP:=aA (aQ (bO wr #[I P,.string by_] 259) hb (by simp));clear hb)
       | (at_builtin;refine E4 _ rfl _ _ 48 rfl w.heap.size 52 i0 (.agg #[I 0,.string ⟨#[]⟩]) 2 24 Tryz.underlying48 hi hz0 hz1 hz2 rfl (by decide) _ _ _ rfl aiM.o (Ad w1.heap.size 0) 1 1 [I (A-page*16),.string s] rfl rfl (tT Pq.o) (by intro u hu;simp at hu;rcases hu with rfl | rfl <;> rfl) (by decide) (by unfold maxLen;omega) (by omega) (by have:=dz.o.size;simp;omega) (w1.heap.size+1) (by simp) ?_;intro gg aim w2 hown2 hgrow acB zF;have ac8:=aA hown2;have gj:=aA ((dz.o.alloc dz.o.size (.cells #[I (A-page*16),.string s] 52)).grown hgrow (by have:=dz.o.size;simp;omega) (fun q hq=>(ahd _ hq).1));clear hown2 hgrow acB))
      go_roundw
      case rel=>exact⟨k+1,by omega,by go_num,by rw[HT.o,fk,qg];exact ac8.o,gj.o⟩
      case measure=>simp[intOf];omega
    · rw[adt.o,bf hAE,E2] at HT;have amo:E<=A:=by omega
      clear adt;go_wp2;go_roundw
      case rel=>exact⟨k+1,by omega,by go_num,by rw[HT.o];exact HOW.o.alloc _,fV.o⟩
      case measure=>simp[intOf];omega
  · obtain rfl:k=ps.length:=by omega
    rw[qd] at HOW;clear hown hb;go_wp2;go_ret;exact⟨⟨_,rfl,HOW.o⟩,qL.o⟩
open Go.RowKit
theorem TS (d:ByteArray):d.toList.isEmpty=decide (d.size=0):=by
 rw[zC];obtain⟨⟨l⟩⟩:=d;cases l with
 | nil=>rfl
 | cons a r=>rfl
theorem Hz (d:ByteArray):(d.toList=[])=(d.size=0):=by
 rw[zC];obtain⟨⟨l⟩⟩:=d
 grind [ByteArray.size]
theorem DI (f:jm) (w:World):Calls Tryz.prog 168 #[.agg #[.string f.data,I f.refs,.bool f.eX,.bool f.seen]] w fun e w'=>e=.returned (.bool (lj f))/\Below w.heap.size w w':=by
 obtain⟨d,r,dy,sn⟩:=f;unfold lj;simp only;obtain⟨A,hA⟩:=ex (decide (d.size=0/\r=0/\dy=false/\sn=false));rw[<- hA];have HA:=ai hA;clear hA;go_enter Tryz.func168,Tryz.ntmps168;go_wp2
 all_goals
  go_ret;refine⟨dQ (fun b=>Ending.returned (.bool b)) ?_,(aK _ _).alloc (aI _) _⟩
  grind [Hz,Hid.o]
theorem Wb:oV=rR:=by decide
theorem BV (hs:List bR) (p:Int) (z:Bool) (mb:Nat) (w:World) (hfl:∀n:Nat,n<256->w.cell? (Ad mb (5+n))=some (.string (eO hs n))) (hp:0<=p/\p<256) :
  Calls Tryz.prog 119 #[.pointer (some (Ad mb 0)),I p,.bool z] w fun e w'=>e=.returned (.string (dY hs p z))/\Below w.heap.size w w':=by
 have HZ:Hid (∀V,Calls Tryz.prog 155 #[.string ⟨#[0]⟩,I 16] V fun e w'=>e=.returned (.string rR)/\Below V.heap.size V w'):=fun V=>by rw[<- Wb];exact Fv V
 cases z with
 | true =>
  have HF:Hid (dY hs p true=rR):=rfl;rw[HF.o];clear hfl;obtain⟨Z,hZ⟩:=ex rR;rw[<- hZ] at HZ ⊢;clear hZ HF;go_enter Tryz.func119,Tryz.ntmps119;go_wp2_with (go_at_call 155;refine(HZ.o _).mono ?_;rintro e w1 ⟨rfl,hb1⟩;have dz:=ai hb1;clear hb1)
  go_ret;exact⟨rfl,dz.o⟩
 | false =>
  obtain⟨n,rfl⟩:∃n:Nat,p=(n:Int):=⟨p.toNat,by omega⟩;have q:=hfl n (by omega);have HF:Hid (dY hs (n:Int) false=eO hs n):=rfl;rw[HF.o];obtain⟨D,hD⟩:=ex (eO hs (n:Int));rw[<- hD] at q ⊢;clear hD HF hfl HZ;go_enter Tryz.func119,Tryz.ntmps119;go_wp2;go_ret;exact⟨rfl,aK _ _⟩
open Go.RowKit
theorem fJ {P:Program} {f:FuncId} {args:Array Value} {v:Value} {w:World} (x:dm w.heap.size w) (h:∀W,Below w.heap.size w W->Calls P f args W fun e w'=>e=.returned v/\Below W.heap.size W w') :
  Calls P f args x.world fun e w''=>e=.returned v/\∃y:dm w.heap.size w,w''=y.world :=
 (h x.world x.keeps).mono fun e w'' ⟨he,hb⟩=>⟨he,⟨w'',x.keeps.trans (hb.mono x.keeps.size)⟩,rfl⟩
theorem TT (x y:ByteArray):(x.toList==y.toList)=decide (x=y):=by
 rw[zC,zC];by_cases c:x=y
 · grind
 · rw[dJ c,zw];exact fun e=>c (by cases x;simp_all)
theorem Gj (hs:List bR) (f:jm) (u:eN) (mb:Nat) (w:World) (hmb:mb<w.heap.size) (hfl:∀n:Nat,n<256->w.cell? (Ad mb (5+n))=some (.string (eO hs n))) (hp:u.refs≠0->0<=u.page/\u.page<256) (hd:bT f.data.size) :
  Calls Tryz.prog 151 #[.pointer (some (Ad mb 0)),.agg #[.string f.data,I f.refs,.bool f.eX,.bool f.seen],.agg #[I u.refs,I u.page,.bool u.zero]] w fun e w'=>e=.returned (.bool (ja hs f u))/\Below w.heap.size w w':=by
 obtain⟨A,hA⟩:=ex (ja hs f u);rw[<- hA];unfold ja at hA;have HA:=ai hA;have HIZ:=ai (fun V=>DI f V);obtain⟨IZ,hIZ⟩:=ex (lj f);rw[<- hIZ] at HA HIZ;clear hIZ;obtain⟨d,r,dy,sn⟩:=f;obtain⟨ur,up,uz⟩:=u;simp only at HA HIZ hp hd ⊢;unfold bT at hd;have HB:=ai (((aK w.heap.size w).alloc (aI _) (.cells #[.string d,I r,.bool dy,.bool sn] 40)).alloc (by simp) (.cells #[I ur,I up,.bool uz] 211));have Vp:=ai hfl;clear hA hfl;by_cases c:ur=0
 · subst c;rw[aR rfl] at HA;go_enter Tryz.func151,Tryz.ntmps151;go_wp2_with (go_at_call 168;refine(HIZ.o _).mono ?_;rintro e w1 ⟨rfl,hb1⟩;have dz:=ai (cd HB.o hb1);clear hb1)
   go_ret;exact⟨dQ (fun b=>Ending.returned (.bool b)) HA.o.symm,dz.o⟩
 · rw[bf c] at HA;have cb:(ur==0)=false:=by grind
   have Jz:=hp c;clear HIZ hp;by_cases c1:r=ur
   · have c1b:(r != ur)=false:=by grind
     by_cases c2:d.size=16
     · have c2i:((d.size:Int) != 16)=false:=by grind
       have wj:Hid (A=(dy || decide (d=dY hs up uz))):=by grind
       have qK:Hid (∀V,Below w.heap.size w V->Calls Tryz.prog 119 #[.pointer (some (Ad mb 0)),I up,.bool uz] V fun e w'=>e=.returned (.string (dY hs up uz))/\Below V.heap.size V w'):=fun V hV=>BV hs up uz mb V (fun n hn=>(hV.cell (p:=(Ad mb (5+n))) hmb).trans (Vp.o n hn)) Jz
       obtain⟨FK,hFK⟩:=ex (dY hs up uz);rw[<- hFK] at wj qK;have BF:=ai (bM (bO w #[.string d,I r,.bool dy,.bool sn] 40) (.cells #[I ur,I up,.bool uz] 211));have BU:=ai (bO (w.alloc (.cells #[.string d,I r,.bool dy,.bool sn] 40)) #[I ur,I up,.bool uz] 211);rw[ig] at BU;clear hFK HA c c1 c2;go_enter Tryz.func151,Tryz.ntmps151;go_wp2_with fail
       obtain⟨W,hW⟩:=ex ((w.alloc (.cells #[.string d,I r,.bool dy,.bool sn] 40)).alloc (.cells #[I ur,I up,.bool uz] 211));rw[<- hW] at HB BF BU ⊢;have uP:=gG W;have k0:∀x:dm W.heap.size W,x.world.cell? (Ad w.heap.size 0)=some (.string d):=fun x=>by grind [fD,aB,Hid.o]
       have k2:∀x:dm W.heap.size W,x.world.cell? (Ad w.heap.size 2)=some (.bool dy):=fun x=>by rw[fD x _ _ (aT BF.o)];simp_all
       have l1:∀x:dm W.heap.size W,x.world.cell? (Ad (w.heap.size+1) 1)=some (I up):=fun x=>by rw[fD x _ _ (aT BU.o)];simp_all
       have l2:∀x:dm W.heap.size W,x.world.cell? (Ad (w.heap.size+1) 2)=some (.bool uz):=fun x=>by rw[fD x _ _ (aT BU.o)];exact aB BU.o 2 rfl
       have ai5:=ai (fun V (hV:Below W.heap.size W V)=>qK.o V (HB.o.trans (hV.mono HB.o.size)));clear hW qK BF BU;cases dy with
       | true =>
        have Al:Hid (A=true):=wj;clear wj;refine cA (by rfl) (by kernel_rfl) ?_
        repeat (first | go_big_quiet_step (fail) | quiet_step (fail))
        refine fK ?_;rintro _ ⟨x,rfl⟩;go_wp2;go_ret;exact⟨dQ (fun b=>Ending.returned (.bool b)) Al.o.symm,HB.o.trans (x.keeps.mono HB.o.size)⟩
       | false =>
        have Al:Hid (A=(d.toList==FK.toList)):=by grind [TT]
        clear wj;refine cA (by rfl) (by kernel_rfl) ?_
        repeat (first | go_big_quiet_step ((go_at_call 119;exact fJ _ ai5.o)) | quiet_step ((go_at_call 119;exact fJ _ ai5.o)))
        refine fK ?_;rintro _ ⟨x,rfl⟩;go_wp2;go_ret;exact⟨dQ (fun b=>Ending.returned (.bool b)) Al.o.symm,HB.o.trans (x.keeps.mono HB.o.size)⟩
     · have c2i:((d.size:Int) != 16)=true:=by grind
       have wj:Hid (A=false):=by grind
       clear HA c c1 c2;go_enter Tryz.func151,Tryz.ntmps151;go_wp2;go_ret;exact⟨dQ (fun b=>Ending.returned (.bool b)) wj.o.symm,HB.o⟩
   · have c1b:(r != ur)=true:=by grind
     have wj:Hid (A=false):=by grind
     clear HA c c1;go_enter Tryz.func151,Tryz.ntmps151;go_wp2;go_ret;exact⟨dQ (fun b=>Ending.returned (.bool b)) wj.o.symm,HB.o⟩
open Go.RowKit
theorem O6 {n:Nat} {p:Nat->Bool} {i:Nat} (hi:i<n) (h:p i=false):(List.range n).all p=false:=by
 grind
theorem LM {n:Nat} {p:Nat->Bool} (h:∀i,i<n->p i=true):(List.range n).all p=true:=by
 grind
theorem Er (hs:List bR) (fs:List jm) (us:List eN) (aF:Option Addr) (cF mb lo g cap:Nat) (w:World) (hF:cJ fB 4 eW w aF fs) (hU:fY lo w g fs.length cap us) (hmb:mb<w.heap.size) (rZ:w.cell? (Ad mb 1)=some (.slice aF fs.length cF)) (hfl:∀n:Nat,n<256->w.cell? (Ad mb (5+n))=some (.string (eO hs n))) (hp:∀i,i<fs.length->(cU us i).refs≠0->0<=(cU us i).page/\(cU us i).page<256) (hd:∀i,i<fs.length->bT (au fs i).data.size) (hn:fs.length<=64) :
  Calls Tryz.prog 113 #[.pointer (some (Ad mb 0)),.slice (some (Ad g 0)) fs.length cap] w fun e w'=>e=.returned (.bool ((List.range fs.length).all fun i=>ja hs (au fs i) (cU us i)))/\Below w.heap.size w w':=by
 have HH:=ai hF;have HU:=ai hU;have hg:=hU.lt.2;have EH:Hid (∀i,i<fs.length->∀V,Below w.heap.size w V->Calls Tryz.prog 151 #[.pointer (some (Ad mb 0)),.agg #[.string (au fs i).data,I (au fs i).refs,.bool (au fs i).eX,.bool (au fs i).seen],.agg #[I (cU us i).refs,I (cU us i).page,.bool (cU us i).zero]] V fun e w'=>e=.returned (.bool (ja hs (au fs i) (cU us i)))/\Below V.heap.size V w'):=fun i hi V hV=>Gj hs _ _ mb V (iH hmb hV.size) (fun n hn=>(hV.cell (p:=(Ad mb (5+n))) hmb).trans (hfl n hn)) (hp i hi) (hd i hi)
 have pK:=ai (fun i (hi:i<fs.length)=>@O6 fs.length (fun i=>ja hs (au fs i) (cU us i)) i hi);have xj:=ai (@LM fs.length (fun i=>ja hs (au fs i) (cU us i)));obtain⟨A,hA⟩:=ex ((List.range fs.length).all fun i=>ja hs (au fs i) (cU us i));rw[<- hA] at pK xj ⊢;obtain⟨n,hnn⟩:=ex fs.length;rw[<- hnn] at HU EH pK xj rZ hn ⊢;have YB:=ai hnn;clear hF hU hfl hp hd hA hnn;go_enter Tryz.func113,Tryz.ntmps113;go_wp2;go_loopw [13] (fun iv wr=>∃k:Nat,k<=n/\iv=I (k:Int)/\Below w.heap.size w wr/\∀i,i<k->ja hs (au fs i) (cU us i)=true) (fun iv _=>n-(intOf iv).toNat)
 case atStart=>grind [Below.refl]
 case round =>
  obtain⟨k,hk,rfl,hb,Bn⟩:=hrel;have HB:=ai hb;have HP:=ai Bn;clear Bn;by_cases hlt:k<n
  · obtain⟨fb,fo,hao,hbl,eI⟩:=HH.o (by rw[<- YB.o];omega);subst hao;have ce:∀j,j<4->wr.cell? (Ad fb (fo+k*4+j))=(fB (au fs k))[j]?:=fun j hj=>(hb.cell (p:=(Ad fb (fo+k*4+j))) hbl).trans (eI k (by rw[<- YB.o];exact hlt) j hj)
    have y0:=ce 0 (by omega);have y1:=ce 1 (by omega);have y2:=ce 2 (by omega);have y3:=ce 3 (by omega);rw[fW] at y0;obtain⟨z0,z1,z2⟩:=HU.o.at k hlt;have EH:=ai (EH.o k hlt);have pK:=ai (pK.o k hlt);have ES:Hid (ja hs (au fs k) (cU us k)=true->∀i,i<k+1->ja hs (au fs i) (cU us i)=true):=fun g i hi=>by
     by_cases e:i=k
     · rw[e];exact g
     · exact HP.o i (by omega)
    obtain⟨R,hR⟩:=ex (ja hs (au fs k) (cU us k));have pK:Hid (R=false->A=false):=fun g=>pK.o (by rw[<- hR];exact g)
    rw[<- hR] at EH ES;obtain⟨f,hf⟩:=ex (au fs k);obtain⟨u,hu⟩:=ex (cU us k);rw[<- hf] at EH y0 y1 y2 y3;rw[<- hu] at EH z0 z1 z2;obtain⟨d,r,dy,sn⟩:=f;obtain⟨ur,up,uz⟩:=u;simp only at EH z0 z1 z2;have x0:wr.cell? (Ad fb (fo+k*4))=some (.string d):=y0;have x1:wr.cell? (Ad fb (fo+k*4+1))=some (I r):=y1;have x2:wr.cell? (Ad fb (fo+k*4+2))=some (.bool dy):=y2;have x3:wr.cell? (Ad fb (fo+k*4+3))=some (.bool sn):=y3;have acz:=hb.size;have fV:=ai (HB.o.alloc HB.o.size (.cells #[.string d,I r,.bool dy,.bool sn] 40));have BF:=ai (bO wr #[.string d,I r,.bool dy,.bool sn] 40);clear hR hf hu y0 y1 y2 y3 ce eI hb xj;go_wp2_with fail
    obtain⟨W,hW⟩:=ex (wr.alloc (.cells #[.string d,I r,.bool dy,.bool sn] 40));rw[<- hW] at fV BF ⊢;obtain⟨sb,Bi⟩:=ex wr.heap.size;rw[<- Bi] at BF ⊢;clear hW Bi x0 x1 x2 x3;have uP:=gG W;have k0:∀x:dm W.heap.size W,x.world.cell? (Ad sb 0)=some (.string d):=fun x=>by rw[fD x _ _ (aT BF.o)];exact aB BF.o 0 rfl
    have k1:∀x:dm W.heap.size W,x.world.cell? (Ad sb 1)=some (I r):=fun x=>by rw[fD x _ _ (aT BF.o)];exact aB BF.o 1 rfl
    have k2:∀x:dm W.heap.size W,x.world.cell? (Ad sb 2)=some (.bool dy):=fun x=>by rw[fD x _ _ (aT BF.o)];exact aB BF.o 2 rfl
    have k3:∀x:dm W.heap.size W,x.world.cell? (Ad sb 3)=some (.bool sn):=fun x=>by rw[fD x _ _ (aT BF.o)];exact aB BF.o 3 rfl
    have hgW:g<W.heap.size:=by have:=fV.o.size;omega
    have l0:∀x:dm W.heap.size W,x.world.cell? (Ad g (k*3))=some (I ur):=fun x=>by rw[fD x _ _ hgW];exact(fV.o.cell (p:=(Ad g (k*3))) hg).trans z0
    have l1:∀x:dm W.heap.size W,x.world.cell? (Ad g (k*3+1))=some (I up):=fun x=>by rw[fD x _ _ hgW];exact(fV.o.cell (p:=(Ad g (k*3+1))) hg).trans z1
    have l2:∀x:dm W.heap.size W,x.world.cell? (Ad g (k*3+2))=some (.bool uz):=fun x=>by rw[fD x _ _ hgW];exact(fV.o.cell (p:=(Ad g (k*3+2))) hg).trans z2
    have afF:=ai (fun V (hV:Below W.heap.size W V)=>EH.o V (fV.o.trans (hV.mono fV.o.size)));have kk0:(0:Int)<=(k:Int):=by omega
    have kk1:(k:Int)<(n:Int):=by omega
    clear EH BF z0 z1 z2;refine cA (by kernel_rfl) (by kernel_rfl) ?_
    repeat (first | go_big_quiet_step ((go_at_call 151;exact fJ _ afF.o)) | quiet_step ((go_at_call 151;exact fJ _ afF.o)))
    refine fK ?_;rintro _ ⟨x,rfl⟩;have uO:=ai (fV.o.trans (x.keeps.mono fV.o.size));clear k0 k1 k2 k3 l0 l1 l2 afF;cases R with
    | false =>
     have HA:=ai (pK.o rfl);go_wp2;go_ret;exact⟨dQ (fun b=>Ending.returned (.bool b)) HA.o.symm,uO.o⟩
    | true =>
     have Dl:=ai (ES.o rfl);clear ES pK;go_wp2;go_roundw
     case rel=>exact⟨k+1,by omega,by go_num,uO.o,Dl.o⟩
     case measure=>simp[intOf];omega
  · obtain rfl:k=n:=by omega
    have HA:=ai (xj.o HP.o);clear hb;go_wp2;go_ret;exact⟨dQ (fun b=>Ending.returned (.bool b)) HA.o.symm,HB.o⟩
open Go.RowKit
theorem Gi (fs:List lD) (us:List eN) (aF:Option Addr) (cF mb lo g cap:Nat) (w:World) (hF:cJ fA 2 jS w aF fs) (hU:fY lo w g fs.length cap us) (rZ:w.cell? (Ad mb 2)=some (.slice aF fs.length cF)) (hr:∀i,i<fs.length->0<=(cU us i).refs) (hd:∀i,i<fs.length->bT (br fs i).data.size) (hn:fs.length<=512) :
  Calls Tryz.prog 114 #[.pointer (some (Ad mb 0)),.slice (some (Ad g 0)) fs.length cap] w fun e w'=>e=.returned (.bool ((List.range fs.length).all fun i=>kG (br fs i) (cU us i)))/\Below w.heap.size w w':=by
 have HH:=ai hF;have HU:=ai hU;have hg:=hU.lt.2;have pK:=ai (fun i (hi:i<fs.length)=>@O6 fs.length (fun i=>kG (br fs i) (cU us i)) i hi);have xj:=ai (@LM fs.length (fun i=>kG (br fs i) (cU us i)));have HR:=ai hr;have HD:=ai hd;obtain⟨A,hA⟩:=ex ((List.range fs.length).all fun i=>kG (br fs i) (cU us i));rw[<- hA] at pK xj ⊢;obtain⟨n,hnn⟩:=ex fs.length;rw[<- hnn] at HU pK xj HR HD rZ hn ⊢;have YB:=ai hnn;clear hF hU hr hd hA hnn;go_enter Tryz.func114,Tryz.ntmps114;go_wp2;go_loopw [14] (fun iv wr=>∃k:Nat,k<=n/\iv=I (k:Int)/\Below w.heap.size w wr/\∀i,i<k->kG (br fs i) (cU us i)=true) (fun iv _=>n-(intOf iv).toNat)
 case atStart=>grind [Below.refl]
 case round =>
  obtain⟨k,hk,rfl,hb,Bn⟩:=hrel;have HB:=ai hb;have HP:=ai Bn;clear Bn;by_cases hlt:k<n
  · obtain⟨fb,fo,hao,hbl,eI⟩:=HH.o (by rw[<- YB.o];omega);subst hao;have ce:∀j,j<2->wr.cell? (Ad fb (fo+k*2+j))=(fA (br fs k))[j]?:=fun j hj=>(hb.cell (p:=(Ad fb (fo+k*2+j))) hbl).trans (eI k (by rw[<- YB.o];exact hlt) j hj)
    have y0:=ce 0 (by omega);have y1:=ce 1 (by omega);rw[fW] at y0;obtain⟨a0,_,_⟩:=HU.o.at k hlt;have z0:=(hb.cell (p:=(Ad g (k*3))) hg).trans a0;have ZR:=HR.o k hlt;have hdk:=HD.o k hlt;unfold bT at hdk;have pK:=ai (pK.o k hlt);have ES:Hid (kG (br fs k) (cU us k)=true->∀i,i<k+1->kG (br fs i) (cU us i)=true):=fun g i hi=>by
     by_cases e:i=k
     · rw[e];exact g
     · exact HP.o i (by omega)
    unfold kG lW at pK ES;obtain⟨f,hf⟩:=ex (br fs k);obtain⟨u,hu⟩:=ex (cU us k);have Dl:Hid ((if u.refs=0 then decide (f.data.size=0/\f.refs=0) else decide (f.refs=u.refs/\f.data.size=16))=true->∀i,i<k+1->kG (br fs i) (cU us i)=true):=by rw[hf,hu];exact ES
    have Ak:Hid ((if u.refs=0 then decide (f.data.size=0/\f.refs=0) else decide (f.refs=u.refs/\f.data.size=16))=false->A=false):=by rw[hf,hu];exact pK
    rw[<- hf] at y0 y1 hdk;rw[<- hu] at z0 ZR;obtain⟨d,r⟩:=f;obtain⟨ur,up,uz⟩:=u;simp only at Dl Ak z0 ZR hdk;have x0:wr.cell? (Ad fb (fo+k*2))=some (.string d):=y0;have x1:wr.cell? (Ad fb (fo+k*2+1))=some (I r):=y1;have acz:=hb.size;have Ef:¬fb=wr.heap.size:=by omega
    have hgb:¬g=wr.heap.size:=by omega
    have fV:=ai (HB.o.alloc HB.o.size (.cells #[.string d,I r] 86));have kk0:(0:Int)<=(k:Int):=by omega
    have kk1:(k:Int)<(n:Int):=by omega
    have zA:(wr.alloc (.cells #[.string d,I r] 86)).cell? (Ad g (k*3))=some (I ur):=(Kl ((aK wr.heap.size wr).alloc (aI _) _) (p:=(Ad g (k*3))) (by show g<_;omega)).trans z0;clear hf hu y0 y1 ce eI hb xj ES pK a0;by_cases c:ur=0
    · subst c;rw[aR rfl] at Dl Ak;rcases(show(d.toList=[]/\r=0)∨(d.toList=[]/\¬r=0)∨¬d.toList=[] by
       by_cases a:d.toList=[]
       · by_cases b:r=0
         · exact .inl ⟨a,b⟩
         · exact .inr (.inl ⟨a,b⟩)
       · exact .inr (.inr a)) with⟨g1,g2⟩ | ⟨g1,g2⟩ | g1
      · have HP4:=ai (Dl.o (by rw[Hz] at g1;exact dI ⟨g1,g2⟩));subst g2;clear Dl Ak;go_wp2;go_roundw
        case rel=>exact⟨k+1,by omega,by go_num,fV.o,HP4.o⟩
        case measure=>simp[intOf];omega
      · have HA:=ai (Ak.o (dJ (fun x=>g2 x.2)));clear Dl Ak;go_wp2;go_ret;exact⟨dQ (fun b=>Ending.returned (.bool b)) HA.o.symm,fV.o⟩
      · have HA:=ai (Ak.o (dJ (fun x=>g1 (by rw[Hz];exact x.1))));clear Dl Ak;go_wp2;go_ret;exact⟨dQ (fun b=>Ending.returned (.bool b)) HA.o.symm,fV.o⟩
    · rw[bf c] at Dl Ak;have cb:(ur==0)=false:=by simpa using c
      have cp:0<ur:=by omega
      rcases(show(r=ur/\d.size=16)∨(r=ur/\¬d.size=16)∨¬r=ur by omega) with⟨g1,g2⟩ | ⟨g1,g2⟩ | g1
      · have HP4:=ai (Dl.o (dI ⟨g1,g2⟩));have b1:(r != ur)=false:=by simpa using g1
        have b2:((d.size:Int) != 16)=false:=by rw[bne_eq_false_iff_eq];omega
        clear Dl Ak g1 g2 c;go_wp2;go_roundw
        case rel=>exact⟨k+1,by omega,by go_num,fV.o,HP4.o⟩
        case measure=>simp[intOf];omega
      · have HA:=ai (Ak.o (dJ (fun x=>g2 x.2)));have b1:(r != ur)=false:=by simpa using g1
        have b2:((d.size:Int) != 16)=true:=by rw[bne_iff_ne];omega
        clear Dl Ak g1 g2 c;go_wp2;go_ret;exact⟨dQ (fun b=>Ending.returned (.bool b)) HA.o.symm,fV.o⟩
      · have HA:=ai (Ak.o (dJ (fun x=>g1 x.1)));have b1:(r != ur)=true:=by simpa using g1
        clear Dl Ak g1 c;go_wp2;go_ret;exact⟨dQ (fun b=>Ending.returned (.bool b)) HA.o.symm,fV.o⟩
  · obtain rfl:k=n:=by omega
    have HA:=ai (xj.o HP.o);clear hb;go_wp2;go_ret;exact⟨dQ (fun b=>Ending.returned (.bool b)) HA.o.symm,HB.o⟩
open Go.RowKit
theorem qA {P:Program} (w:World) (dT sT ty elem:TypeId) (size:Nat) (hu:P.underlying dT=some (.slice elem)) (hsz:∀w,(sizeOf elem).run P w=.ok size w) (g off dLen dCap:Nat) (sp:Option Addr) (sLen sCap:Nat)
  (cur:List Value) (t:TypeId) (hg:w.heap[g]?=some (.cells cur.toArray t (0,0))) (cs:List Value) (hn:cs.length=Nat.min sLen dLen*size) (hsrc:0<cs.length->∃ad,sp=some ad/\∀j v,cs[j]?=some v->w.cell? (ad.add j)=some v)
  (hfit:off+cs.length<=cur.length) (h1:∀v∈cs,v.oneCell'=true) :
  (Builtin.copy_ #[dT,sT] ty #[.slice (some (Ad g off)) dLen dCap,.slice sp sLen sCap]).run P w=.ok (goInt (Nat.min sLen dLen)) (w.setRow g (splice cur off cs).toArray):=by
 have hst:=run_storeCells_at (P:=P) g off t cs 0 cur.toArray w hg (by omega) h1;have hfc:(Builtin.firstCells size (Nat.min sLen dLen) (.slice sp sLen sCap)).run P w=.ok cs.toArray w:=by
  by_cases h0:0<cs.length
  · grind [run_firstCells_some]
  · have hcs:cs=[]:=iT (by omega);subst hcs;cases sp with
    | none=>rfl
    | some ad=>grind [run_firstCells_some]
 simp_all [Builtin.copy_,E1,Builtin.lenOf,splice]
def iE (z:List Value):Nat->List Value
 | 0=>[]
 | n+1=>z++iE z n
theorem kK (z:List Value):∀n,(iE z n).length=n*z.length
 | 0=>by simp[iE]
 | n+1=>by rw[iE,fk,kK z n,Ka,Nat.add_comm]
theorem xk (z:List Value):∀(n j:Nat),j<n*z.length->(iE z n)[j]?=z[j%z.length]?
 | 0,j,h=>by omega
 | n+1,j,h=>by
  have hz:0<z.length:=by
   grind
  rw[iE];by_cases c:j<z.length
  · grind [Nat.mod_eq_of_lt]
  · rw[E8 (by omega),xk z n (j-z.length) (by grind),<- Nat.mod_eq_sub_mod (by omega)]
theorem yH (z:Array Value) (n:Nat) (hz:0<z.size):(Builtin.zeroCells z n).toList=iE z.toList n:=by
 apply Kp
 grind [xk,Builtin.zeroCells,kK]
theorem CH (z:List Value) (h:∀u∈z,u.oneCell'=true):∀n,∀u∈iE z n,u.oneCell'=true
 | 0,u,hu=>by cases hu
 | n+1,u,hu=>by
  rcases kq.1 hu with g | g
  · grind
  · exact CH z h n u g
theorem GX {P:Program} (w:World) (t ty elem:TypeId) (z:Value) (hu:P.underlying t=some (.slice elem)) (hv:∀w,(zeroValue elem).run P w=.ok z w) (hz:0<z.cells.size) (h1:∀u∈z.cells.toList,u.oneCell'=true) (g off n c:Nat)
  (cur:List Value) (te:TypeId) (hg:w.heap[g]?=some (.cells cur.toArray te (0,0))) (hfit:off+n*z.cells.size<=cur.length) :
  (Builtin.clear_ #[t] ty #[.slice (some (Ad g off)) n c]).run P w=.ok (.tuple #[]) (w.setRow g (splice cur off (iE z.cells.toList n)).toArray):=by
 have hzl:(iE z.cells.toList n).length=n*z.cells.size:=by grind [kK]
 have hst:=run_storeCells_at (P:=P) g off te (iE z.cells.toList n) 0 cur.toArray w hg (by grind) (CH _ h1 n);simp only[fW] at hst;cases n with
 | zero =>
  unfold Builtin.clear_;have e:splice cur off (iE z.cells.toList 0)=cur:=by simp_all [splice]
  rw[e,setRow_self w g cur.toArray te (0,0) hg];simp[E1 hu]
 | succ n =>
  simp_all [Builtin.clear_,E1,yH,splice]
open Go.RowKit
theorem Ze:(Tryz.prog.info? 211).map (fun i=>(i.zero,i.size,i.bytes))=some (some (.agg #[I 0,I 0,.bool false]),3,24):=by rfl
theorem Zf (a b c d e:Value):Tryz.prog.built 104 [(0,.agg #[a,b,c,d,e])]=some (kS a b c d e pS):=by kernel_rfl
theorem JP {P:Program} {ops:Array Oper} {rest:List Oper} {o:Oper} {a:Act} {w:World} {Q:Exit->Act->World->Prop} (hg:o.guard=none) (t:TypeId) (x:Operand) (ho:o.op=.build t #[(0,x)]) (v:Value) (hx:a.eval x=v) (cells:Array Value) (hb:P.built t [(0,v)]=some cells) (h:wpList P ops Q rest (a.put o.dst (.agg cells)) w):wpList P ops Q (o::rest) a w :=
 wpList_build hg t #[(0,x)] ho (by grind) (by simpa [hx,hb] using h)
def tC (n:Nat):Array Value:=madeCells #[I 0,I 0,.bool false] (n*3)
theorem Yq (V:World) (n:Nat) (hn:n<=1000):(Instr.makeSlice 162 (I (n:Int)) (I (n:Int))).run Tryz.prog V=.ok (.slice (some (Ad V.heap.size 0)) n n) (V.alloc (.cells (tC n) 211)):=by
 obtain⟨i0,hi,hz0,hz1,hz2⟩:=gm Ze;have h:=run_make (P:=Tryz.prog) V 162 211 i0 (.agg #[I 0,I 0,.bool false]) Tryz.underlying162 hi hz0 .i64 .i64 (n:Int) (n:Int) (by omega) (xy _) (by grind) (by omega);rw[hz1,jn] at h;exact h
theorem TJ:∀n,iE [I 0,I 0,.bool false] n=(List.replicate n dw).flatMap rP
 | 0=>rfl
 | n+1=>by rw[iE,TJ n,List.replicate_succ,mS];rfl
theorem TI (n:Nat):(tC n).toList=(List.replicate n dw).flatMap rP:=by
 rw[<- TJ];apply Kp
 grind [xk,tC,madeCells,kK]
theorem Ep (n:Nat):(tC n).size=n*3:=by simp[tC,madeCells]
theorem Dd (lo:Nat) (V:World) (n:Nat) (hl:lo<=V.heap.size) (hn:n<=1000):fY lo (V.alloc (.cells (tC n) 211)) V.heap.size n n (List.replicate n dw):=by
 refine⟨pG,?_⟩;rw[<- TI];refine⟨by grind [Ep],.inr ⟨V.heap.size,n,tC n,rfl,hl,bO V (tC n) _,aI _,?_,by rw[Ep],?_⟩⟩
 · grind [maxLen]
 grind [Array.length_toList,Ep]
end Go.Proofs.YtpgifpeohlllfaaGreat
