import Derived.Test.YtlgoihmkgaaemaaGreatGP12
import Derived.Test.YtlgoihmkgaaemaaGreatGP13
import Derived.Lib.AppendZerosOnto
import Derived.Lib.Overlaps
set_option maxHeartbeats 20000000
set_option linter.unusedVariables false
set_option maxRecDepth 100000
set_option linter.unusedSimpArgs false
namespace Go.Proofs.YtlgoihmkgaaemaaGreat
open Go.RowKit Tryz
theorem KN (w:World):Calls prog 170 #[.string ⟨#[0]⟩,I 16] w λe w'=>e=.returned (.string rK)/\Below w.heap.size w w' :=
 strings_Repeat_main ⟨#[0]⟩ 16 w Δ Δ Δ Δ
theorem TB (s:qw) (n:Nat) (w:World) (hn:n<=1000) (hs:s.data.size<=100000) :
  Calls prog 113 #[.agg #[I s.page,I s.aY,.string s.data,.bool s.wr,.bool s.ex],I n] w λe w'=>e=.returned (.string (wI s n))/\Below w.heap.size w w':=by
 obtain⟨pg,pn,dt,wr,h⟩:=s;simp only at hs;obtain⟨b,hb⟩:∃b:Nat,b=min (n*16) dt.size:=⟨_,rfl⟩;obtain⟨e,he⟩:∃e:Nat,e=min (b+16) dt.size:=⟨_,rfl⟩;have y:Hid (wI ⟨pg,pn,dt,wr,h⟩ n=iT rK 0 (dt.extract b e)):=by
  show _=_
  grind [wI]
 have G:min ((n:Int)*16) (dt.size:Int)=(b:Int):=by omega
 have F:min ((b:Int)+16) (dt.size:Int)=(e:Int):=by omega
 have h1:b<=e:=by omega
 have h2:e<=dt.size:=by omega
 have h3:e<=b+16:=by omega
 have r:Hid (∀V,Calls prog 124 #[.string rK,I 0,.string (dt.extract b e)] V λe w'=>e=.returned (.tuple #[.string (wI ⟨pg,pn,dt,wr,h⟩ n),I 0])/\Below V.heap.size V w'):=λV=>by
  rw[y.o];exact J5 rK (dt.extract b e) 0 V (by grind [E9]) (by grind [E9,Pj])
 have BX:=aB (bG w #[I pg,I pn,.string dt,.bool wr,.bool h] 166);have HB:=aB ((aN w.heap.size w).alloc (aJ _) (.cells #[I pg,I pn,.string dt,.bool wr,.bool h] 166));obtain⟨W,hW⟩:=ex (w.alloc (.cells #[I pg,I pn,.string dt,.bool wr,.bool h] 166));rw[<- hW] at BX HB;have HW:=aB hW;clear hW hb he;have E7:=aM BX.o;have yL:=iH W;have A:=@fG W;have e2:∀x:cM W.heap.size W,x.world.cell? (Ad w.heap.size 2)=some (.string dt):=λx=>by grind [aA,Hid.o]
 have HZ:Hid (∀V,Below W.heap.size W V->Calls prog 170 #[.string ⟨#[0]⟩,I 16] V λe w'=>e=.returned (.string rK)/\Below V.heap.size V w'):=λV _=>KN V
 have Cw:Hid (∀V,Below W.heap.size W V->Calls prog 124 #[.string rK,I 0,.string (dt.extract b e)] V λe w'=>e=.returned (.tuple #[.string (wI ⟨pg,pn,dt,wr,h⟩ n),I 0])/\Below V.heap.size V w'):=λV _=>r.o V
 clear A r;go_enter func113,ntmps113;go_wp2;rw[<- HW.o];refine cB ρ κ ?_
 repeat (first | go_big_quiet_step ((first | (go_at_call 170;exact fy _ HZ.o) | (go_at_call 124;exact fy _ Cw.o))) | quiet_step ((first | (go_at_call 170;exact fy _ HZ.o) | (go_at_call 124;exact fy _ Cw.o))))
 refine fL ?_;intro _ B;obtain⟨x,q⟩:=B;subst q;go_wp2;go_ret;exact⟨rfl,HB.o.trans (x.keeps.mono HB.o.size)⟩
theorem af7:(prog.info? 226).map (λi=>(i.zero,i.size,i.bytes))=some (some (.agg #[I 0,.string ⟨#[]⟩]),2,24):=by rfl
theorem QX (page:Int) (ps:List qc) (ao:Option Addr) (cap:Nat) (w:World) (h0:0<=page) (h1:page<=3000) (h:Lf w ao ps) (hn:ps.length<=1000) (hf:∀k,k<ps.length->Xi (yi ps k)) :
  Calls prog 114 #[I page,.slice ao ps.length cap] w λe w'=>(∃v,e=.returned v/\w'.ownsRow w.heap.size 226 2 v (kZ page ps).length ((kZ page ps).flatMap Dv))/\Below w.heap.size w w':=by
 have HH:=aB h;have HF:=aB hf;clear h hf;obtain⟨i0,hi,a1,a0,U⟩:=mQ af7;go_enter func114,ntmps114;go_wp2;go_loopw [17,6] (λi v wr=>∃k:Nat,k<=ps.length/\i=I k/\wr.ownsRow w.heap.size 226 2 v (kZ page (ps.take k)).length ((kZ page (ps.take k)).flatMap Dv)/\Below w.heap.size w wr) (λi _ _=>ps.length-(intOf i).toNat)
 case atStart=>exact⟨0,ω,rfl,nt _ _ _ _,aN _ _⟩
 case round =>
  obtain⟨k,hk,rfl,F,hb⟩:=hrel;have B:=aB F;have pI:=aB hb;by_cases hlt:k<ps.length
  . obtain⟨b,off,R,a5,dZ⟩:=(HH.o.below hb) ω;subst R;obtain⟨c0,c1⟩:=dZ k hlt;obtain⟨f1,f2,f3⟩:=HF.o k hlt;have HT:Hid (kZ page (ps.take (k+1))=kZ page (ps.take k)++Ek page (yi ps k)):=by
     show _=_;rw[Xa ps ac0 k hlt,Ri];rfl
    have K:=K7 page (ps.take k);rw[ye] at K;generalize kZ page (ps.take k)=G at B HT K;generalize yi ps k=p at c0 c1 f1 f2 f3 HT;clear dZ hb F;obtain⟨P,by_⟩:=p;simp only at c0 c1 f1 f2 f3;have jo:=aB (pI.o.alloc pI.o.size (.cells #[I P,.string by_] 282));have PC:=aB ((aN wr.heap.size wr).alloc (aJ _) (.cells #[I P,.string by_] 282));obtain⟨A,hA⟩:=ex (max (page*16) P);obtain⟨E,hE⟩:=ex (min (page*16+16) (P+8));have a3:page*16<=A/\P<=A/\A<=1000000:=by omega
    have a2:E<=page*16+16/\E<=P+8:=by omega
    have X:max (page*16) P=A:=hA.symm;have Y:min (page*16+16) (P+8)=E:=hE.symm;have J:Hid (Ek page ⟨P,by_⟩=if A<E then [⟨A-page*16,by_.extract (A-P).toNat (A-P+(E-A)).toNat⟩] else []):=by
     show _=_;unfold Ek;simp only;rw[X,Y]
    clear hA hE;by_cases hAE:A<E
    . rw[J.o,aQ hAE] at HT;obtain⟨u,hu⟩:∃u:Nat,A-P=(u:Int):=⟨(A-P).toNat,ω⟩;obtain⟨n,hn⟩:∃n:Nat,E-A=(n:Int):=⟨(E-A).toNat,ω⟩;have L:(A-P+(E-A)).toNat=u+n:=by omega
      have N:(A-P).toNat=u:=by omega
      rw[L,N] at HT;have M:Hid (∀V,Calls prog 171 #[.string by_,I (A-P),I (E-A)] V λe w'=>e=.returned (.tuple #[.string (by_.extract u (u+n)),I 0])/\Below V.heap.size V w'):=λV=>by
       rw[hu,hn];exact GZ by_ u n V ω ω
      generalize by_.extract u (u+n)=s at M HT;clear hu hn L N J;have Z:¬E<=A:=by omega
      go_wp2_with (first
       | (go_at_call 171;refine(M.o _).mono ?_;rintro e w1 ⟨rfl,hb⟩;have dz:=aB (jo.o.trans (hb.mono jo.o.size));have O:=aB ((Eh B.o (PC.o.trans (hb.mono PC.o.size))).alloc (.cells #[I (A-page*16),.string s] 226));have T:=O.o.lt;have Th:=aB (bG w1 #[I (A-page*16),.string s] 226);have BP:=aB (aO (bG wr #[I P,.string by_] 282) hb ξ);clear hb)
       | (at_builtin;refine Ku _ rfl _ _ 143 rfl w.heap.size 226 i0 (.agg #[I 0,.string ⟨#[]⟩]) 2 24 underlying143 hi a1 a0 U rfl Δ _ _ _ rfl O.o (Ad w1.heap.size 0) 1 1 [I (A-page*16),.string s] rfl rfl (EW Th.o) (by intro u hu;simp at hu;rcases hu with rfl | rfl <;> rfl) Δ (by unfold maxLen;omega) ω (by have:=dz.o.size;simp;omega) (w1.heap.size+1) ξ ?_;intro gg a4 w2 r y W Am;have Q:=aB r;have iI:=aB ((dz.o.alloc dz.o.size (.cells #[I (A-page*16),.string s] 226)).grown y (by have:=dz.o.size;simp;omega) (λq hq=>(T _ hq).1));clear r y W))
      go_roundw
      case rel=>exact⟨k+1,ω,by go_num,by rw[HT.o,gM,wk];exact Q.o,iI.o⟩
      case measure=>simp[intOf];omega
    rw[J.o,aH hAE,Ko] at HT;have Z:E<=A:=by omega
    clear J;go_wp2;go_roundw
    case rel=>exact⟨k+1,ω,by go_num,by rw[HT.o];exact B.o.alloc _,jo.o⟩
    case measure=>simp[intOf];omega
  obtain rfl:k=ps.length:=by omega
  rw[sW] at B;clear F hb;go_wp2;go_ret;exact⟨⟨_,rfl,B.o⟩,pI.o⟩
theorem aaC (d:ByteArray):d.toList.isEmpty=decide (d.size=0):=by
 rw[Ea];obtain⟨⟨l⟩⟩:=d;cases l with
 | nil=>rfl
 | cons a r=>rfl
theorem M9 (d:ByteArray):(d.toList=[])=(d.size=0):=by
 rw[Ea];obtain⟨⟨l⟩⟩:=d
 grind [ByteArray.size]
theorem IJ (f:ko) (w:World):Calls prog 216 #[.agg #[.string f.data,I f.refs,.bool f.ja,.bool f.seen]] w λe w'=>e=.returned (.bool (nk f))/\Below w.heap.size w w':=by
 obtain⟨d,r,dy,sn⟩:=f;unfold nk;simp only;obtain⟨A,hA⟩:=ex (decide (d.size=0/\r=0/\dy=false/\sn=false));rw[<- hA];have HA:=ai hA;clear hA;go_enter func216,ntmps216;go_wp2
 all_goals
  go_ret;refine⟨dO (λb=>Ending.returned (.bool b)) ?_,(aN _ _).alloc (aJ _) _⟩
  grind [M9,Hid.o]
theorem adk:rK=vQ:=by decide
theorem Oj (hs:List bD) (p:Int) (z:Bool) (mb:Nat) (w:World) (hfl:∀n:Nat,n<256->w.cell? (Ad mb (5+n))=some (.string (fE hs n))) (hp:0<=p/\p<256) :
  Calls prog 130 #[.pointer (some (Ad mb 0)),I p,.bool z] w λe w'=>e=.returned (.string (fM hs p z))/\Below w.heap.size w w':=by
 have HZ:Hid (∀V,Calls prog 170 #[.string ⟨#[0]⟩,I 16] V λe w'=>e=.returned (.string vQ)/\Below V.heap.size V w'):=λV=>by rw[<- adk];exact KN V
 cases z with
 | true =>
  have HF:Hid (fM hs p true=vQ):=rfl;rw[HF.o];clear hfl;generalize vQ=Z at HZ ⊢;clear HF;go_enter func130,ntmps130;go_wp2_with (go_at_call 170;refine(HZ.o _).mono ?_;rintro e w1 ⟨rfl,b⟩;have dz:=ai b;clear b);go_ret;exact⟨rfl,dz.o⟩
 | false =>
  obtain⟨n,rfl⟩:∃n:Nat,p=(n:Int):=⟨p.toNat,ω⟩;have q:=hfl n ω;have HF:Hid (fM hs (n:Int) false=fE hs n):=rfl;rw[HF.o];generalize fE hs (n:Int)=D at q ⊢;clear HF hfl HZ;go_enter func130,ntmps130;go_wp2;go_ret;exact⟨rfl,aN _ _⟩
theorem gZ {P:Program} {f:FuncId} {args:Array Value} {v:Value} {w:World} (x:cM w.heap.size w) (h:∀W,Below w.heap.size w W->Calls P f args W λe w'=>e=.returned v/\Below W.heap.size W w') :
  Calls P f args x.world λe w''=>e=.returned v/\∃y:cM w.heap.size w,w''=y.world :=
 (h x.world x.keeps).mono λe w'' ⟨he,hb⟩=>⟨he,⟨w'',x.keeps.trans (hb.mono x.keeps.size)⟩,rfl⟩
theorem aaD (x y:ByteArray):(x.toList==y.toList)=decide (x=y):=by
 rw[Ea,Ea];by_cases c:x=y
 . grind
 rw[eH c,jx];exact λe=>c (by cases x;simp_all)
theorem Ls (hs:List bD) (f:ko) (u:fC) (mb:Nat) (w:World) (hmb:mb<w.heap.size) (hfl:∀n:Nat,n<256->w.cell? (Ad mb (5+n))=some (.string (fE hs n))) (hp:u.refs≠0->0<=u.page/\u.page<256) (hd:bM f.data.size) :
  Calls prog 192 #[.pointer (some (Ad mb 0)),.agg #[.string f.data,I f.refs,.bool f.ja,.bool f.seen],.agg #[I u.refs,I u.page,.bool u.zero]] w λe w'=>e=.returned (.bool (jZ hs f u))/\Below w.heap.size w w':=by
 obtain⟨A,hA⟩:=ex (jZ hs f u);rw[<- hA];unfold jZ at hA;have HA:=ai hA;have h:=ai (λV=>IJ f V);obtain⟨IZ,y⟩:=ex (nk f);rw[<- y] at HA h;clear y;obtain⟨d,r,dy,sn⟩:=f;obtain⟨ur,up,uz⟩:=u;simp only at HA h hp hd ⊢;unfold bM at hd;have HB:=ai (((aN w.heap.size w).alloc (aJ _) (.cells #[.string d,I r,.bool dy,.bool sn] 169)).alloc ξ (.cells #[I ur,I up,.bool uz] 302));have K:=ai hfl;clear hA hfl;by_cases c:ur=0
 . subst c;rw[aQ rfl] at HA;go_enter func192,ntmps192;go_wp2_with (go_at_call 216;refine(h.o _).mono ?_;rintro e w1 ⟨rfl,B⟩;have dz:=ai (cJ HB.o B);clear B);go_ret;exact⟨dO (λb=>Ending.returned (.bool b)) HA.o.symm,dz.o⟩
 rw[aH c] at HA;have cb:(ur==0)=false:=by grind
 have Ib:=hp c;clear h hp;by_cases c1:r=ur
 . have G:(r != ur)=false:=by grind
   by_cases c2:d.size=16
   . have J:((d.size:Int) != 16)=false:=by grind
     have vv:Hid (A=(dy || decide (d=fM hs up uz))):=by grind
     have Dh:Hid (∀V,Below w.heap.size w V->Calls prog 130 #[.pointer (some (Ad mb 0)),I up,.bool uz] V λe w'=>e=.returned (.string (fM hs up uz))/\Below V.heap.size V w'):=λV hV=>Oj hs up uz mb V (λn hn=>(hV.cell (p:=(Ad mb (5+n))) hmb).trans (K.o n hn)) Ib
     obtain⟨FK,F⟩:=ex (fM hs up uz);rw[<- F] at vv Dh;have BF:=ai (bB (bG w #[.string d,I r,.bool dy,.bool sn] 169) (.cells #[I ur,I up,.bool uz] 302));have BU:=ai (bG (w.alloc (.cells #[.string d,I r,.bool dy,.bool sn] 169)) #[I ur,I up,.bool uz] 302);rw[fp] at BU;clear F HA c c1 c2;go_enter func192,ntmps192;go_wp2_with fail;obtain⟨W,hW⟩:=ex ((w.alloc (.cells #[.string d,I r,.bool dy,.bool sn] 169)).alloc (.cells #[I ur,I up,.bool uz] 302));rw[<- hW] at HB BF BU ⊢;have yL:=iH W;have k0:∀x:cM W.heap.size W,x.world.cell? (Ad w.heap.size 0)=some (.string d):=λx=>by grind [fG,aA,Hid.o]
     have k2:∀x:cM W.heap.size W,x.world.cell? (Ad w.heap.size 2)=some (.bool dy):=λx=>by rw[fG x _ _ (aM BF.o)];simp_all
     have l1:∀x:cM W.heap.size W,x.world.cell? (Ad (w.heap.size+1) 1)=some (I up):=λx=>by rw[fG x _ _ (aM BU.o)];simp_all
     have l2:∀x:cM W.heap.size W,x.world.cell? (Ad (w.heap.size+1) 2)=some (.bool uz):=λx=>by rw[fG x _ _ (aM BU.o)];exact aA BU.o 2 rfl
     have q:=ai (λV (hV:Below W.heap.size W V)=>Dh.o V (HB.o.trans (hV.mono HB.o.size)));clear hW Dh BF BU;cases dy with
     | true =>
      have C2:Hid (A=true):=vv;clear vv;refine cB ρ κ ?_
      repeat (first | go_big_quiet_step (fail) | quiet_step (fail))
      refine fL ?_;rintro _ ⟨x,rfl⟩;go_wp2;go_ret;exact⟨dO (λb=>Ending.returned (.bool b)) C2.o.symm,HB.o.trans (x.keeps.mono HB.o.size)⟩
     | false =>
      have C2:Hid (A=(d.toList==FK.toList)):=by grind [aaD]
      clear vv;refine cB ρ κ ?_
      repeat (first | go_big_quiet_step ((go_at_call 130;exact gZ _ q.o)) | quiet_step ((go_at_call 130;exact gZ _ q.o)))
      refine fL ?_;rintro _ ⟨x,rfl⟩;go_wp2;go_ret;exact⟨dO (λb=>Ending.returned (.bool b)) C2.o.symm,HB.o.trans (x.keeps.mono HB.o.size)⟩
   have J:((d.size:Int) != 16)=true:=by grind
   have vv:Hid (A=false):=by grind
   clear HA c c1 c2;go_enter func192,ntmps192;go_wp2;go_ret;exact⟨dO (λb=>Ending.returned (.bool b)) vv.o.symm,HB.o⟩
 have G:(r != ur)=true:=by grind
 have vv:Hid (A=false):=by grind
 clear HA c c1;go_enter func192,ntmps192;go_wp2;go_ret;exact⟨dO (λb=>Ending.returned (.bool b)) vv.o.symm,HB.o⟩
theorem Vs {n:Nat} {p:Nat->Bool} {i:Nat} (hi:i<n) (h:p i=false):(List.range n).all p=false:=by
 grind
theorem Rw {n:Nat} {p:Nat->Bool} (h:∀i,i<n->p i=true):(List.range n).all p=true:=by
 grind
theorem JL (hs:List bD) (fs:List ko) (us:List fC) (aF:Option Addr) (cF mb lo g cap:Nat) (w:World) (hF:dE gu 4 eG w aF fs) (hU:iz lo w g fs.length cap us) (hmb:mb<w.heap.size) (vW:w.cell? (Ad mb 1)=some (.slice aF fs.length cF)) (hfl:∀n:Nat,n<256->w.cell? (Ad mb (5+n))=some (.string (fE hs n))) (hp:∀i,i<fs.length->(dx us i).refs≠0->0<=(dx us i).page/\(dx us i).page<256) (hd:∀i,i<fs.length->bM (aK fs i).data.size) (hn:fs.length<=64) :
  Calls prog 144 #[.pointer (some (Ad mb 0)),.slice (some (Ad g 0)) fs.length cap] w λe w'=>e=.returned (.bool ((List.range fs.length).all λi=>jZ hs (aK fs i) (dx us i)))/\Below w.heap.size w w':=by
 have HH:=ai hF;have HU:=ai hU;have hg:=hU.lt.2;have JV:Hid (∀i,i<fs.length->∀V,Below w.heap.size w V->Calls prog 192 #[.pointer (some (Ad mb 0)),.agg #[.string (aK fs i).data,I (aK fs i).refs,.bool (aK fs i).ja,.bool (aK fs i).seen],.agg #[I (dx us i).refs,I (dx us i).page,.bool (dx us i).zero]] V λe w'=>e=.returned (.bool (jZ hs (aK fs i) (dx us i)))/\Below V.heap.size V w'):=λi hi V hV=>Ls hs _ _ mb V (gm hmb hV.size) (λn hn=>(hV.cell (p:=(Ad mb (5+n))) hmb).trans (hfl n hn)) (hp i hi) (hd i hi)
 have sS:=ai (λi (hi:i<fs.length)=>@Vs fs.length (λi=>jZ hs (aK fs i) (dx us i)) i hi);have FI:=ai (@Rw fs.length (λi=>jZ hs (aK fs i) (dx us i)));generalize ((List.range fs.length).all λi=>jZ hs (aK fs i) (dx us i))=A at sS FI ⊢;obtain⟨n,y⟩:=ex fs.length;rw[<- y] at HU JV sS FI vW hn ⊢;have B:=ai y;clear hF hU hfl hp hd y;go_enter func144,ntmps144;go_wp2;go_loopw [13] (λiv wr=>∃k:Nat,k<=n/\iv=I (k:Int)/\Below w.heap.size w wr/\∀i,i<k->jZ hs (aK fs i) (dx us i)=true) (λiv _=>n-(intOf iv).toNat)
 case atStart=>grind [Below.refl]
 case round =>
  obtain⟨k,hk,rfl,hb,FM⟩:=hrel;have HB:=ai hb;have HP:=ai FM;clear FM;by_cases hlt:k<n
  . obtain⟨fb,fo,F,G,dZ⟩:=HH.o (by rw[<- B.o];omega);subst F;have ce:∀j,j<4->wr.cell? (Ad fb (fo+k*4+j))=(gu (aK fs k))[j]?:=λj hj=>(hb.cell (p:=(Ad fb (fo+k*4+j))) G).trans (dZ k (by rw[<- B.o];exact hlt) j hj)
    have y0:=ce 0 ω;have y1:=ce 1 ω;have y2:=ce 2 ω;have y3:=ce 3 ω;rw[jt] at y0;obtain⟨z0,z1,z2⟩:=HU.o.at k hlt;have JV:=ai (JV.o k hlt);have sS:=ai (sS.o k hlt);have Cv:Hid (jZ hs (aK fs k) (dx us k)=true->∀i,i<k+1->jZ hs (aK fs i) (dx us i)=true):=λg i hi=>by
     by_cases e:i=k
     . rw[e];exact g
     exact HP.o i ω
    obtain⟨R,hR⟩:=ex (jZ hs (aK fs k) (dx us k));have sS:Hid (R=false->A=false):=λg=>sS.o (by rw[<- hR];exact g)
    rw[<- hR] at JV Cv;obtain⟨u,hu⟩:=ex (dx us k);generalize aK fs k=f at JV y0 y1 y2 y3;rw[<- hu] at JV z0 z1 z2;obtain⟨d,r,dy,sn⟩:=f;obtain⟨ur,up,uz⟩:=u;simp only at JV z0 z1 z2;have x0:wr.cell? (Ad fb (fo+k*4))=some (.string d):=y0;have x1:wr.cell? (Ad fb (fo+k*4+1))=some (I r):=y1;have x2:wr.cell? (Ad fb (fo+k*4+2))=some (.bool dy):=y2;have x3:wr.cell? (Ad fb (fo+k*4+3))=some (.bool sn):=y3;have L:=hb.size;have jo:=ai (HB.o.alloc HB.o.size (.cells #[.string d,I r,.bool dy,.bool sn] 169));have BF:=ai (bG wr #[.string d,I r,.bool dy,.bool sn] 169);clear hR hu y0 y1 y2 y3 ce dZ hb FI;go_wp2_with fail;generalize wr.alloc (.cells #[.string d,I r,.bool dy,.bool sn] 169)=W at jo BF ⊢;generalize wr.heap.size=sb at BF ⊢;clear x0 x1 x2 x3;have yL:=iH W;have k0:∀x:cM W.heap.size W,x.world.cell? (Ad sb 0)=some (.string d):=λx=>by rw[fG x _ _ (aM BF.o)];exact aA BF.o 0 rfl
    have k1:∀x:cM W.heap.size W,x.world.cell? (Ad sb 1)=some (I r):=λx=>by rw[fG x _ _ (aM BF.o)];exact aA BF.o 1 rfl
    have k2:∀x:cM W.heap.size W,x.world.cell? (Ad sb 2)=some (.bool dy):=λx=>by rw[fG x _ _ (aM BF.o)];exact aA BF.o 2 rfl
    have k3:∀x:cM W.heap.size W,x.world.cell? (Ad sb 3)=some (.bool sn):=λx=>by rw[fG x _ _ (aM BF.o)];exact aA BF.o 3 rfl
    have h:g<W.heap.size:=by have:=jo.o.size;omega
    have l0:∀x:cM W.heap.size W,x.world.cell? (Ad g (k*3))=some (I ur):=λx=>by rw[fG x _ _ h];exact(jo.o.cell (p:=(Ad g (k*3))) hg).trans z0
    have l1:∀x:cM W.heap.size W,x.world.cell? (Ad g (k*3+1))=some (I up):=λx=>by rw[fG x _ _ h];exact(jo.o.cell (p:=(Ad g (k*3+1))) hg).trans z1
    have l2:∀x:cM W.heap.size W,x.world.cell? (Ad g (k*3+2))=some (.bool uz):=λx=>by rw[fG x _ _ h];exact(jo.o.cell (p:=(Ad g (k*3+2))) hg).trans z2
    have q:=ai (λV (hV:Below W.heap.size W V)=>JV.o V (jo.o.trans (hV.mono jo.o.size)));have J:(0:Int)<=(k:Int):=by omega
    have K:(k:Int)<(n:Int):=by omega
    clear JV BF z0 z1 z2;refine cB κ κ ?_
    repeat (first | go_big_quiet_step ((go_at_call 192;exact gZ _ q.o)) | quiet_step ((go_at_call 192;exact gZ _ q.o)))
    refine fL ?_;rintro _ ⟨x,rfl⟩;have mh:=ai (jo.o.trans (x.keeps.mono jo.o.size));clear k0 k1 k2 k3 l0 l1 l2 q;cases R with
    | false =>
     have HA:=ai (sS.o rfl);go_wp2;go_ret;exact⟨dO (λb=>Ending.returned (.bool b)) HA.o.symm,mh.o⟩
    | true =>
     have Mf:=ai (Cv.o rfl);clear Cv sS;go_wp2;go_roundw
     case rel=>exact⟨k+1,ω,by go_num,mh.o,Mf.o⟩
     case measure=>simp[intOf];omega
  obtain rfl:k=n:=by omega
  have HA:=ai (FI.o HP.o);clear hb;go_wp2;go_ret;exact⟨dO (λb=>Ending.returned (.bool b)) HA.o.symm,HB.o⟩
theorem Lr (fs:List mJ) (us:List fC) (aF:Option Addr) (cF mb lo g cap:Nat) (w:World) (hF:dE gq 2 gP w aF fs) (hU:iz lo w g fs.length cap us) (vW:w.cell? (Ad mb 2)=some (.slice aF fs.length cF)) (hr:∀i,i<fs.length->0<=(dx us i).refs) (hd:∀i,i<fs.length->bM (bI fs i).data.size) (hn:fs.length<=512) :
  Calls prog 145 #[.pointer (some (Ad mb 0)),.slice (some (Ad g 0)) fs.length cap] w λe w'=>e=.returned (.bool ((List.range fs.length).all λi=>mr (bI fs i) (dx us i)))/\Below w.heap.size w w':=by
 have HH:=ai hF;have HU:=ai hU;have hg:=hU.lt.2;have sS:=ai (λi (hi:i<fs.length)=>@Vs fs.length (λi=>mr (bI fs i) (dx us i)) i hi);have FI:=ai (@Rw fs.length (λi=>mr (bI fs i) (dx us i)));have HR:=ai hr;have HD:=ai hd;generalize ((List.range fs.length).all λi=>mr (bI fs i) (dx us i))=A at sS FI ⊢;obtain⟨n,y⟩:=ex fs.length;rw[<- y] at HU sS FI HR HD vW hn ⊢;have F:=ai y;clear hF hU hr hd y;go_enter func145,ntmps145;go_wp2;go_loopw [14] (λiv wr=>∃k:Nat,k<=n/\iv=I (k:Int)/\Below w.heap.size w wr/\∀i,i<k->mr (bI fs i) (dx us i)=true) (λiv _=>n-(intOf iv).toNat)
 case atStart=>grind [Below.refl]
 case round =>
  obtain⟨k,hk,rfl,hb,FM⟩:=hrel;have HB:=ai hb;have HP:=ai FM;clear FM;by_cases hlt:k<n
  . obtain⟨fb,fo,G,J,dZ⟩:=HH.o (by rw[<- F.o];omega);subst G;have ce:∀j,j<2->wr.cell? (Ad fb (fo+k*2+j))=(gq (bI fs k))[j]?:=λj hj=>(hb.cell (p:=(Ad fb (fo+k*2+j))) J).trans (dZ k (by rw[<- F.o];exact hlt) j hj)
    have y0:=ce 0 ω;have y1:=ce 1 ω;rw[jt] at y0;obtain⟨a0,_,_⟩:=HU.o.at k hlt;have z0:=(hb.cell (p:=(Ad g (k*3))) hg).trans a0;have B:=HR.o k hlt;have h:=HD.o k hlt;unfold bM at h;have sS:=ai (sS.o k hlt);have Cv:Hid (mr (bI fs k) (dx us k)=true->∀i,i<k+1->mr (bI fs i) (dx us i)=true):=λg i hi=>by
     by_cases e:i=k
     . rw[e];exact g
     exact HP.o i ω
    unfold mr oa at sS Cv;obtain⟨f,hf⟩:=ex (bI fs k);obtain⟨u,hu⟩:=ex (dx us k);have Mf:Hid ((if u.refs=0 then decide (f.data.size=0/\f.refs=0) else decide (f.refs=u.refs/\f.data.size=16))=true->∀i,i<k+1->mr (bI fs i) (dx us i)=true):=by rw[hf,hu];exact Cv
    have EK:Hid ((if u.refs=0 then decide (f.data.size=0/\f.refs=0) else decide (f.refs=u.refs/\f.data.size=16))=false->A=false):=by rw[hf,hu];exact sS
    rw[<- hf] at y0 y1 h;rw[<- hu] at z0 B;obtain⟨d,r⟩:=f;obtain⟨ur,up,uz⟩:=u;simp only at Mf EK z0 B h;have x0:wr.cell? (Ad fb (fo+k*2))=some (.string d):=y0;have x1:wr.cell? (Ad fb (fo+k*2+1))=some (I r):=y1;have N:=hb.size;have Zu:¬fb=wr.heap.size:=by omega
    have M:¬g=wr.heap.size:=by omega
    have jo:=ai (HB.o.alloc HB.o.size (.cells #[.string d,I r] 171));have K:(0:Int)<=(k:Int):=by omega
    have L:(k:Int)<(n:Int):=by omega
    have zA:(wr.alloc (.cells #[.string d,I r] 171)).cell? (Ad g (k*3))=some (I ur):=(Qd ((aN wr.heap.size wr).alloc (aJ _) _) (p:=(Ad g (k*3))) (by show g<_;omega)).trans z0;clear hf hu y0 y1 ce dZ hb FI Cv sS a0;by_cases c:ur=0
    . subst c;rw[aQ rfl] at Mf EK;rcases(show(d.toList=[]/\r=0)\/(d.toList=[]/\¬r=0)\/¬d.toList=[] by
       by_cases a:d.toList=[]
       . by_cases b:r=0
         . exact .inl ⟨a,b⟩
         exact .inr (.inl ⟨a,b⟩)
       exact .inr (.inr a)) with⟨g1,g2⟩ | ⟨g1,g2⟩ | g1
      . have q:=ai (Mf.o (by rw[M9] at g1;exact dW ⟨g1,g2⟩));subst g2;clear Mf EK;go_wp2;go_roundw
        case rel=>exact⟨k+1,ω,by go_num,jo.o,q.o⟩
        case measure=>simp[intOf];omega
      . have HA:=ai (EK.o (eH (λx=>g2 x.2)));clear Mf EK;go_wp2;go_ret;exact⟨dO (λb=>Ending.returned (.bool b)) HA.o.symm,jo.o⟩
      have HA:=ai (EK.o (eH (λx=>g1 (by rw[M9];exact x.1))));clear Mf EK;go_wp2;go_ret;exact⟨dO (λb=>Ending.returned (.bool b)) HA.o.symm,jo.o⟩
    rw[aH c] at Mf EK;have cb:(ur==0)=false:=by simpa using c
    have cp:0<ur:=by omega
    rcases(show(r=ur/\d.size=16)\/(r=ur/\¬d.size=16)\/¬r=ur by omega) with⟨g1,g2⟩ | ⟨g1,g2⟩ | g1
    . have q:=ai (Mf.o (dW ⟨g1,g2⟩));have b1:(r != ur)=false:=by simpa using g1
      have b2:((d.size:Int) != 16)=false:=by rw[bne_eq_false_iff_eq];omega
      clear Mf EK g1 g2 c;go_wp2;go_roundw
      case rel=>exact⟨k+1,ω,by go_num,jo.o,q.o⟩
      case measure=>simp[intOf];omega
    . have HA:=ai (EK.o (eH (λx=>g2 x.2)));have b1:(r != ur)=false:=by simpa using g1
      have b2:((d.size:Int) != 16)=true:=by rw[Kj];omega
      clear Mf EK g1 g2 c;go_wp2;go_ret;exact⟨dO (λb=>Ending.returned (.bool b)) HA.o.symm,jo.o⟩
    have HA:=ai (EK.o (eH (λx=>g1 x.1)));have b1:(r != ur)=true:=by simpa using g1
    clear Mf EK g1 c;go_wp2;go_ret;exact⟨dO (λb=>Ending.returned (.bool b)) HA.o.symm,jo.o⟩
  obtain rfl:k=n:=by omega
  have HA:=ai (FI.o HP.o);clear hb;go_wp2;go_ret;exact⟨dO (λb=>Ending.returned (.bool b)) HA.o.symm,HB.o⟩
theorem uk {P:Program} (w:World) (dT sT ty elem:TypeId) (size:Nat) (hu:P.underlying dT=some (.slice elem)) (hsz:∀w,(sizeOf elem).run P w=.ok size w) (g off dLen dCap:Nat) (sp:Option Addr) (sLen sCap:Nat)
  (cur:List Value) (t:TypeId) (hg:w.heap[g]?=some (.cells cur.toArray t (0,0))) (cs:List Value) (hn:cs.length=Nat.min sLen dLen*size) (hsrc:0<cs.length->∃ad,sp=some ad/\∀j v,cs[j]?=some v->w.cell? (ad.add j)=some v)
  (hfit:off+cs.length<=cur.length) (h1:∀v∈cs,v.oneCell'=true) :
  (Builtin.copy_ #[dT,sT] ty #[.slice (some (Ad g off)) dLen dCap,.slice sp sLen sCap]).run P w=.ok (goInt (Nat.min sLen dLen)) (w.setRow g (splice cur off cs).toArray):=by
 have h:=run_storeCells_at (P:=P) g off t cs 0 cur.toArray w hg ω h1;have q:(Builtin.firstCells size (Nat.min sLen dLen) (.slice sp sLen sCap)).run P w=.ok cs.toArray w:=by
  by_cases h0:0<cs.length
  . grind [run_firstCells_some]
  have b:cs=[]:=mR ω;subst b;cases sp with
  | none=>rfl
  | some ad=>grind [run_firstCells_some]
 simp_all [Builtin.copy_,Kn,Builtin.lenOf,splice]
def jG (z:List Value):Nat->List Value
 | 0=>[]
 | n+1=>z++jG z n
theorem mA (z:List Value):∀n,(jG z n).length=n*z.length
 | 0=>by simp[jG]
 | n+1=>by rw[jG,gM,mA z n,Nat.succ_mul,Nat.add_comm]
theorem Bc (z:List Value):∀(n j:Nat),j<n*z.length->(jG z n)[j]?=z[j%z.length]?
 | 0,j,h=>by omega
 | n+1,j,h=>by
  have hz:0<z.length:=by
   grind
  rw[jG];by_cases c:j<z.length
  . grind [Nat.mod_eq_of_lt]
  rw[Eb ω,Bc z n (j-z.length) Γ,<- Nat.mod_eq_sub_mod ω]
theorem C3 (z:Array Value) (n:Nat) (hz:0<z.size):(Builtin.zeroCells z n).toList=jG z.toList n:=by
 apply D7
 grind [Bc,Builtin.zeroCells,mA]
theorem GR (z:List Value) (h:∀u∈z,u.oneCell'=true):∀n,∀u∈jG z n,u.oneCell'=true
 | 0,u,hu=>by cases hu
 | n+1,u,hu=>by
  rcases mj.1 hu with g | g
  . grind
  exact GR z h n u g
theorem Mn {P:Program} (w:World) (t ty elem:TypeId) (z:Value) (hu:P.underlying t=some (.slice elem)) (hv:∀w,(zeroValue elem).run P w=.ok z w) (hz:0<z.cells.size) (h1:∀u∈z.cells.toList,u.oneCell'=true) (g off n c:Nat)
  (cur:List Value) (te:TypeId) (hg:w.heap[g]?=some (.cells cur.toArray te (0,0))) (hfit:off+n*z.cells.size<=cur.length) :
  (Builtin.clear_ #[t] ty #[.slice (some (Ad g off)) n c]).run P w=.ok (.tuple #[]) (w.setRow g (splice cur off (jG z.cells.toList n)).toArray):=by
 have h:(jG z.cells.toList n).length=n*z.cells.size:=by grind [mA]
 have b:=run_storeCells_at (P:=P) g off te (jG z.cells.toList n) 0 cur.toArray w hg Γ (GR _ h1 n);simp only[jt] at b;cases n with
 | zero =>
  unfold Builtin.clear_;have e:splice cur off (jG z.cells.toList 0)=cur:=by simp_all [splice]
  rw[e,setRow_self w g cur.toArray te (0,0) hg];simp[Kn hu]
 | succ n =>
  simp_all [Builtin.clear_,Kn,C3,splice]
theorem age:(prog.info? 302).map (λi=>(i.zero,i.size,i.bytes))=some (some (.agg #[I 0,I 0,.bool false]),3,24):=by rfl
theorem agf (a b c d e:Value):prog.built 158 [(0,.agg #[a,b,c,d,e])]=some (mW a b c d e tB):=by kernel_rfl
theorem Pq {P:Program} {ops:Array Oper} {rest:List Oper} {o:Oper} {a:Act} {w:World} {Q:Exit->Act->World->Prop} (hg:o.guard=none) (t:TypeId) (x:Operand) (ho:o.op=.build t #[(0,x)]) (v:Value) (hx:a.eval x=v) (cells:Array Value) (hb:P.built t [(0,v)]=some cells) (h:wpList P ops Q rest (a.put o.dst (.agg cells)) w):wpList P ops Q (o::rest) a w :=
 wpList_build hg t #[(0,x)] ho Γ (by simpa [hx,hb] using h)
def xH (n:Nat):Array Value:=madeCells #[I 0,I 0,.bool false] (n*3)
theorem afj (V:World) (n:Nat) (hn:n<=1000):(Instr.makeSlice 250 (I (n:Int)) (I (n:Int))).run prog V=.ok (.slice (some (Ad V.heap.size 0)) n n) (V.alloc (.cells (xH n) 302)):=by
 obtain⟨i0,hi,q,b,r⟩:=mQ age;have h:=run_make (P:=prog) V 250 302 i0 (.agg #[I 0,I 0,.bool false]) underlying250 hi q .i64 .i64 (n:Int) (n:Int) ω (Bx _) Γ ω;rw[b,kq] at h;exact h
theorem aax:∀n,jG [I 0,I 0,.bool false] n=(List.replicate n dM).flatMap vN
 | 0=>rfl
 | n+1=>by rw[jG,aax n,List.replicate_succ,oF];rfl
theorem aaw (n:Nat):(xH n).toList=(List.replicate n dM).flatMap vN:=by
 rw[<- aax];apply D7
 grind [Bc,xH,madeCells,mA]
theorem JK (n:Nat):(xH n).size=n*3:=by simp[xH,madeCells]
theorem Hv (lo:Nat) (V:World) (n:Nat) (hl:lo<=V.heap.size) (hn:n<=1000):iz lo (V.alloc (.cells (xH n) 302)) V.heap.size n n (List.replicate n dM):=by
 refine⟨qL,?_⟩;rw[<- aaw];refine⟨by grind [JK],.inr ⟨V.heap.size,n,xH n,rfl,hl,bG V (xH n) _,aJ _,?_,by rw[JK],?_⟩⟩
 . grind [maxLen]
 grind [Array.length_toList,JK]
end Go.Proofs.YtlgoihmkgaaemaaGreat
