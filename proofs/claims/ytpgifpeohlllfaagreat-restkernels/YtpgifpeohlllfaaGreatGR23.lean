import Derived.Test.YtpgifpeohlllfaaGreatGR22
set_option maxHeartbeats 20000000
set_option linter.unusedVariables false
set_option maxRecDepth 100000
set_option linter.unusedSimpArgs false
namespace Go.Proofs.YtpgifpeohlllfaaGreat
open Go.RowKit
def oX (k:aN) (j:Nat) (a n way:Int):Nat->aN
 | 0=>k
 | 1=>(eH k j a way).2
 | _=>(ir k j a n way).2
def oo (k:aN) (j:Nat) (a n way:Int):Nat->List Int
 | 0=>[]
 | 1=>[((eH k j a way).1:Int)]
 | _=>[((eH k j a way).1:Int),((ir k j a n way).1:Int)]
def yu (l:List Nat):List Int:=l.map fun x:Nat=>(x:Int)
def mg (a n:Int):Nat:=if cD a n=a/16 then 1 else 2
theorem xQ (k:aN) (j:Nat) (a n way:Int):aW k j a n way=((aW k j a n way).1,oX k j a n way (mg a n))/\yu (aW k j a n way).1=oo k j a n way (mg a n)/\(aW k j a n way).1.length=mg a n:=by
 unfold aW mg;by_cases c:cD a n=a/16
 · rw[aR c,aR c];exact⟨rfl,rfl,rfl⟩
 · rw[bf c,bf c];exact⟨rfl,rfl,rfl⟩
theorem afq (k:aN) (j:Nat) (a n way:Int):oX k j a n way 0=k:=rfl
theorem aaX (k:aN) (j:Nat) (a n way:Int):oX k j a n way 1=(cQ k j (a/16) way []).2:=by rfl
theorem afp (k:aN) (j:Nat) (a n way:Int):oX k j a n way 2=(cQ (cQ k j (a/16) way []).2 j (cD a n) way [((cQ k j (a/16) way []).1:Int)]).2:=by rfl
theorem afs (k:aN) (j:Nat) (a n way:Int):oo k j a n way 0=[]:=rfl
theorem aaY (k:aN) (j:Nat) (a n way:Int):oo k j a n way 1=[((cQ k j (a/16) way []).1:Int)]:=by rfl
theorem afr (k:aN) (j:Nat) (a n way:Int):oo k j a n way 2=[((cQ k j (a/16) way []).1:Int)]++[((cQ (cQ k j (a/16) way []).2 j (cD a n) way [((cQ k j (a/16) way []).1:Int)]).1:Int)]:=by rfl
theorem aaZ.local {S S':dE} {w w2 w3:World} {D:Nat->Prop} (h:bU S w S' w2) (k:aM D w2 w3) (hd:∀b,D b->w.heap.size<=b):bU S w S' w3:=⟨⟨k.os.trans h.kp.os,k.tape.trans h.kp.tape,k.output.trans h.kp.output,gy h.kp.size k.size,fun b hb hn=>(k.block b (iH hb h.kp.size) (fun g=>by grind)).trans (h.kp.block b hb hn)⟩,h.no,h.eS,h.eF,h.eL,h.eP⟩
theorem O4 (k:aN) (j:Nat) (a n way:Int) (m:Nat) (hm:m<=2):(oo k j a n way m).length=m:=by
 rcases(show m=0∨m=1∨m=2 by omega) with rfl | rfl | rfl <;> rfl
theorem yt {lo mb:Nat} {tt:TypeId} {X:List Value} (k:aN) (S:dE) (w:World) (j:Nat) (a n way:Int) (h:bu lo mb tt X w S k) (hR:bc k) (hj:j<k.aj.length) (ha:eY a) (hn:1<=n/\n<=8) (hf:(eV (ak k.aj j).bk a n way).1=0) (hX:Gg X k.aD) :
  Calls Tryz.prog 52 #[.pointer (some (Ad mb 0)),I (j:Int),I a,I n,I way] w fun e w'=>∃av cv S',e=.returned (.tuple #[.slice av (aW k j a n way).1.length cv,.agg #[I 0,I 0]])/\jD w' S' av (yu (aW k j a n way).1)/\bu lo mb tt X w' S' (aW k j a n way).2/\bU S w S' w':=by
 have hcc:=hR.c;obtain⟨Vw,hal,hau,hmap⟩:=nQ hn.1 hn.2 hf;have rZ:dx k j (a/16):=by
  have:=hmap 0 (by omega) (by omega);rw[CU] at this;exact this
 have hm2:dx k j (cD a n):=by
  have:=hmap (n-1) (by omega) (by omega);unfold cD;rw[show a+n-1=a+(n-1) by omega];exact this
 have hlast:cD a n=a/16+((mg a n:Nat):Int)-1:=by
  unfold mg
  grind [Ii]
 have hp2:mg a n=1∨mg a n=2:=by unfold mg;grind
 have A1:=(mj hR hj rZ way (held:=[]) (by simp)).1;obtain⟨hr1,hr2,hr3⟩:=xQ k j a n way;have hpw:∀m,m<mg a n->bc (oX k j a n way m)/\j<(oX k j a n way m).aj.length/\dx (oX k j a n way m) j (a/16+(m:Int))/\(oX k j a n way m).aD=k.aD/\(cQ (oX k j a n way m) j (a/16+(m:Int)) way (oo k j a n way m)).2=oX k j a n way (m+1)/\oo k j a n way (m+1)=oo k j a n way m++[((cQ (oX k j a n way m) j (a/16+(m:Int)) way (oo k j a n way m)).1:Int)]:=fun m hm=>by
  rcases(show m=0∨(m=1/\mg a n=2) by omega) with rfl | ⟨rfl,h2⟩
  · grind [afq,afs,aaX,aaY]
  grind [aaX,aaY,afp,afr,ft.right,ft.kept,fp.mapped,fp.aD,fp.np]
 have HBR:Hid (∀V S' m av nv cv,m<mg a n->nv=m->bu lo mb tt X V S' (oX k j a n way m)->jD V S' av (oo k j a n way m)->Calls Tryz.prog 97 #[.pointer (some (Ad mb 0)),I (j:Int),I (a/16+(m:Int)),I way,.slice av nv cv] V fun e w'=>∃i:Nat,e=.returned (I (i:Int))/\oo k j a n way (m+1)=oo k j a n way m++[(i:Int)]/\∃S2,bu lo mb tt X w' S2 (oX k j a n way (m+1))/\bU S' V S2 w'):=fun V S' m av nv cv hm hnv hV hh=>by
  obtain⟨q1,q2,q3,q4,q5,q6⟩:=hpw m hm;have hil:=O4 k j a n way m (by omega);have:=QE (oX k j a n way m) S' V j (a/16+(m:Int)) way (oo k j a n way m) av cv hV q1 q2 q3 (by grind) (by omega) hh;rw[hil] at this;subst hnv;refine this.mono fun e w' ⟨g1,S2,g2,g3⟩=>⟨_,g1,q6,S2,q5 ▸ g2,g3⟩
 have cV:Hid (∀V S' av nv cv,nv=mg a n->jD V S' av (oo k j a n way (mg a n))->bu lo mb tt X V S' (oX k j a n way (mg a n))->bU S w S' V->(∃av' cv' S'',Ending.returned (.tuple #[.slice av nv cv,.agg #[I 0,I 0]])=.returned (.tuple #[.slice av' (aW k j a n way).1.length cv',.agg #[I 0,I 0]])/\jD V S'' av' (yu (aW k j a n way).1)/\bu lo mb tt X V S'' (aW k j a n way).2/\bU S w S'' V)):=fun V S' av nv cv e1 g1 g2 g3=>by
  have e2:(aW k j a n way).2=oX k j a n way (mg a n):=dQ Prod.snd hr1;exact⟨av,cv,S',by grind,by grind,by grind,g3⟩
 obtain⟨P,hP⟩:∃P:Ending->World->Prop,P=fun e w'=>∃av cv S',e=.returned (.tuple #[.slice av (aW k j a n way).1.length cv,.agg #[I 0,I 0]])/\jD w' S' av (yu (aW k j a n way).1)/\bu lo mb tt X w' S' (aW k j a n way).2/\bU S w S' w':=⟨_,rfl⟩
 have qK:Hid (∀V S' av nv cv,nv=mg a n->jD V S' av (oo k j a n way (mg a n))->bu lo mb tt X V S' (oX k j a n way (mg a n))->bU S w S' V->P (.returned (.tuple #[.slice av nv cv,.agg #[I 0,I 0]])) V):=fun V S' av nv cv e1 g1 g2 g3=>by grind
 rw[<- hP];obtain⟨pb,cP,A⟩:=h.toKr.sp (by omega);have c3:=h.c3;rw[A.v] at c3;have a1:=A.x1 j hj;have hfit:fU (ak k.aj j).bk:=lC _ (hR.sp hj).bk;have xx:=ai (fun V (hb:Below w.heap.size w V)=>PE _ _ a n way V (fu.below (h.toKr.bk hj) hb) hfit ha (by omega));rw[Vw] at xx;obtain⟨ax,cx,Av,_,_⟩:=aY (h.each j hj).bk;rw[Av] at xx a1;have Sw:(j:Int)<(k.aj.length:Int):=by omega
 have yT:=h.lt;have hpl:=A.lt;unfold Dp at xx;simp only at xx;have eU:=ai ((aK w.heap.size w).alloc (aI _) (.cells #[I 0,I 0] 36));have R0:=ai (bO w #[I 0,I 0] 36);have d3:=(eU.o.cell (p:=(Ad mb 3)) yT).trans c3;have d1:=(eU.o.cell (p:=(Ad pb (j*3+1))) hpl).trans a1;obtain⟨np,Ee⟩:=ex k.aj.length;rw[<- Ee] at d3 Sw;obtain⟨na,Ax⟩:=ex ((ak k.aj j).bk.length);rw[<- Ax] at d1 xx;have n0:Hid (S.lab w.heap.size=.no):=h.toKr.new (aI _);have HKM:=ai h;have hlq:(a+n-1)/16=a/16+((mg a n:Nat):Int)-1:=hlast;have HIL:=ai (O4 k j a n way);obtain⟨PG,hPG⟩:=ex (mg a n);rw[<- hPG] at HBR qK hp2 hlq;have ha0:0<=a:=by omega
 have han:0<=a+n-1:=by omega
 have hw1:IntKind.i64.wrap (a+n)=a+n:=m8 _ (by omega);have hw2:IntKind.i64.wrap (a+n-1)=a+n-1:=m8 _ (by omega);obtain⟨i0,hin,hz0,hz1,hz2⟩:=gm Dn;have yG:=ai hin;have Bg:=ai hz0;have Bf:=ai hz1;have Aj:=ai hz2;have al5:a/16<=256:=by omega
 have hap:0<=a/16:=by omega
 obtain⟨Q,hQ⟩:=ex (a/16);have HQ:=ai hQ;rw[<- hQ] at HBR hlq al5 hap;have hqa:a.tdiv 16=Q:=by rw[hQ];exact C3 ha0
 have hqb:(a+n-1).tdiv 16=Q+(PG:Int)-1:=by rw[<- hlq];exact C3 han
 clear h hR hj A c3 a1 hfit Av Vw hcc Ee Ax ha hmap rZ hm2 hlast A1 hr1 hr2 hr3 hpw cV hP hPG hX hf hal hau ha0 han hQ hin hz0 hz1 hz2 hlq;go_enter Tryz.func52,Tryz.ntmps52;go_wp2_with (go_at_call 96;refine(xx.o _ eU.o).mono ?_;rintro e w1 ⟨rfl,hb1⟩;have dz:=ai (cd eU.o hb1);have R1:=ai (aQ R0.o hb1 (aT R0.o));have FX:=ai (bO w1 #[I 0,I 0] 36);obtain⟨y0,y1⟩:=nM FX.o;clear hb1)
 have fV:=ai (dz.o.alloc dz.o.size (.cells #[I 0,I 0] 36));have R2:=ai (bM R1.o (.cells #[I 0,I 0] 36));obtain⟨W,hW⟩:=ex (w1.alloc (.cells #[I 0,I 0] 36));rw[<- hW] at fV R2 y0 y1 ⊢;clear hW y0 y1 FX R1 dz;go_loopw [13,14] (fun fv pv wr=>∃(m:Nat) (S':dE) (av:Option Addr) (cv:Nat),m<=PG/\pv=I (Q+(m:Int))/\fv=.slice av m cv/\wr.ownsRow W.heap.size 3 1 (.slice av m cv) m ((oo k j a n way m).flatMap dN)/\(∀b,bQ (.slice av m cv) b->S'.lab b=.no)/\bu lo mb tt X wr S' (oX k j a n way m)/\bU S W S' wr) (fun _ pv _=>(Q+(PG:Int)-intOf pv).toNat)
 case atStart=>exact⟨0,S,none,0,by omega,by simp,rfl,jz _ _ _ _,fun b hb=>(by cases hb),HKM.o.below fV.o,bU.refl _ _⟩
 case round =>
  obtain⟨m,S',av,cv,hm,rfl,rfl,hrow,hno,iU,hch⟩:=hrel;have Mv:=ai hrow;have pK:=ai hno;have Pv:=ai hch;by_cases hlt:m<PG
  · have hle:Q+(m:Int)<=Q+(PG:Int)-1:=by omega
    have hil:=HIL.o m (by omega);have hrow2:=hrow;rw[<- hil] at hrow2;have wk:=(uH (S:=S') (n:=m) (l:=oo k j a n way m) (by rw[hil];omega) hno).2;have anV:=ai (HBR.o wr S' m av m cv hlt rfl iU wk);clear hrow hno iU hch hrow2 wk hil HKM;go_wp2_with (first
     | (at_builtin;refine cZ (P:=Tryz.prog) rfl _ _ 99 rfl W.heap.size 3 i0 (I 0) 1 8 Tryz.underlying99 yG.o Bg.o Bf.o Aj.o rfl (by decide) (.slice av m cv) m ((oo k j a n way m).flatMap dN) rfl AZ.o (some (Ad w2.heap.size 0)) 1 1 [I (i:Int)] rfl rfl (fun _=>⟨_,rfl,tT (bO w2 _ _)⟩) (by intro u hu;simp at hu;rw[hu];rfl) (by unfold maxLen;omega) (by omega) (by have:=tD.o.kp.size;simp;omega) ?_;intro v' w' hown hgr hat;obtain⟨aG,cG,KR,_,_⟩:=aY hown;subst KR;have HO3:=ai hown;have HG3:=ai hgr;have Al:=ai hat;clear hown hgr hat)
     | (go_at_call 97;refine anV.o.mono ?_;rintro e w2 ⟨i,rfl,hid,S2,hk2,hc2⟩;have HID:=ai hid;have qa:=ai hk2;have tD:=ai (Pv.o.trans hc2);have HO1:=ai (hc2.kp.row Mv.o (fun b hb z=>z (pK.o b hb)));have Xp:=ai (fun b (hb:bQ (.slice av m cv) b)=>hc2.no b (Mv.o.lt b hb).2 (pK.o b hb));have AZ:=ai (HO1.o.alloc (.cells #[I (i:Int)] 3));clear hid hk2 hc2))
    go_roundw
    case rel =>
     have kA:aM (fun b=>bQ (.slice av m cv) b) w2 (w2.alloc (.cells #[I (i:Int)] 3)):=aM.alloc _ _ _;have kB:=kA.trans (aM.grown (D:=fun b=>bQ (.slice av m cv) b) HG3.o (fun q hq=>hq)) (fun _ _ g=>g);have hlab:∀b,bQ (.slice aG (m+1) cG) b->S2.lab b=.no:=fun b hb=>by
      rcases Al.o with g | g
      · exact Xp.o b (by show Value.ownBlock _=_;rw[<- g];exact hb)
      · have hb:Value.ownBlock _=some b:=hb;rw[g] at hb;injection hb with hb;rw[ig] at hb;exact qa.o.toKr.new (by omega)
     refine⟨m+1,S2,aG,cG,by omega,by go_num,rfl,?_,hlab,?_,?_⟩
     · rw[HID.o,qg];have e:[(i:Int)].flatMap dN=[I (i:Int)]:=rfl;rw[e];exact HO3.o
     · exact qa.o.kp kB (fun b hb g=>hb (Xp.o b g))
     · exact aaZ.local tD.o kB (fun b g=>(HO1.o.lt b g).1)
    case measure=>simp[intOf];omega
  · obtain rfl:m=PG:=by omega
    have hgt:¬Q+(m:Int)<=Q+(m:Int)-1:=by omega
    have hil:=HIL.o m (by omega);have wk:=(uH (S:=S') (n:=m) (l:=oo k j a n way m) (by rw[hil];omega) hno).2;have YE:=ai wk;have Z0:=ai iU;have RW:=ai (hch.keep R2.o n0.out);obtain⟨y0,y1⟩:=nM RW.o;have q0:=aO RW.o 0;have q1:=aO RW.o 1;have ZJ:=ai ((bU.below fV.o).trans hch);have hnl:S'.lab w.heap.size=.no:=hch.no _ (aT R2.o) n0.out;have HKF:Hid (∀V,V=(wr.setCell (Ad w.heap.size 0) (I 0)).setCell (Ad w.heap.size 1) (I 0)->jD V S' av (oo k j a n way m)/\bu lo mb tt X V S' (oX k j a n way m)/\bU S w S' V/\V.heap[w.heap.size]?=some (.cells #[I 0,I 0] 36 (0,0))):=fun V hV=>by
     have kp:aM (fun b=>b=w.heap.size) wr V:=by rw[hV];exact(aM.set (fun b=>b=w.heap.size) wr (Ad w.heap.size 0) _ rfl).trans (aM.set (fun b=>b=w.heap.size) _ (Ad w.heap.size 1) _ rfl) (fun _ _ g=>g)
     refine⟨⟨O5.kp YE.o.has kp (fun b off e z=>?_),YE.o.no,fun b off e=>iH (YE.o.lt b off e) kp.size⟩,Z0.o.kp kp (fun b hb z=>hb (by rw[z];exact hnl)),aaZ.local ZJ.o kp (fun b z=>by omega),by rw[hV];exact dD (dD RW.o 0 _) 1 _⟩;have:W.heap.size<=b:=by
      subst e;rcases Mv.o.2 with⟨h0,_⟩ | ⟨g,cap',cur,hv,hbs,_⟩
      · cases h0
      · injection hv with e1 _ _;injection e1 with e1;injection e1 with e1 _ _;omega
     have:=aT R2.o;omega
    have Zv:=ai (fun V (hV:V=(wr.setCell (Ad w.heap.size 0) (I 0)).setCell (Ad w.heap.size 1) (I 0))=>qK.o V S' av m cv rfl (HKF.o V hV).1 (HKF.o V hV).2.1 (HKF.o V hV).2.2.1);clear hrow hno iU hch wk hil HKM YE Z0 ZJ hnl HBR;go_wp2;obtain⟨v0,v1⟩:=nM (HKF.o _ rfl).2.2.2;refine cm (v:=.tuple #[.slice av m cv,.agg #[I 0,I 0]]) (by simp[results,Tryz.results52,go_sem,v0,v1]) rfl ?_;exact Zv.o _ rfl
open Go.RowKit
def sG:Prop:=∀(k:aN) (a:fR) (w:World),gD w a k->zg k->Calls Tryz.prog 55 #[.agg (bg a k)] w (oW w k)
def gI (k:aN):List Value:=oY (kz k.aD k.aD.length) 256
theorem BC {k:aN} (hr:ed k.aD=true) {hs:List bR} (h:cW k.aD hs):Gg (gI k) hs:=fun n hn=>by
 grind [gI,BJ,BQ,Cl]
theorem DF {hs:List bR} (h:ed hs=true) (i:Nat) (hi:i<hs.length):(aV hs i).cM.length<=16:=by
 have all:∀n,gX hs n=true->∀i,i<n->cu (aV hs i)=true:=fun n=>by
  induction n with
  | zero=>omega
  | succ n ih =>
   grind [gX]
 have hb:=all hs.length h i hi;unfold cu at hb;rw[cR] at hb;have:=mq _ _ hb.2;omega
theorem sF {k:aN} (hR:bc k) (hF:iI k):zg k:=by
 have hc:=hR.c;refine⟨by omega,fun i hi=>?_,by omega,by omega,by omega,fun i hi=>?_,fun i hi=>by grind [iZ]⟩
 · grind [DF,bc.kP]
 · have:=kO _ (hR.sp hi).bk;omega
theorem aaW {lo mb:Nat} {w' V:World} {S:dE} {k:aN} {hs:List bR} {k0:aN} {a:fR} (hr:Kr lo w' S (bN k hs)) (hm:w'.heap[mb]?=some (.cells (nu a k0) 104 (0,0))) (hlb:lo<=mb) (hno:S.lab mb=.no) (ht:gI k0=gI k)
  (hV:V=((((w'.setCell (Ad mb 0) S.vS).setCell (Ad mb 1) S.vF).setCell (Ad mb 2) S.vL).setCell (Ad mb 3) S.vP).setCell (Ad mb 4) (I k.hand)) :
  bu lo mb 104 (gI k) V ⟨fun b=>if b=mb then .head else S.lab b,S.vS,S.vF,S.vL,S.vP,S.L⟩ (bN k hs):=by
 have kp:aM (fun b=>b=mb) w' V:=by
  rw[hV];exact((((aM.set (fun b=>b=mb) w' (Ad mb 0) _ rfl).trans (aM.set (fun b=>b=mb) _ (Ad mb 1) _ rfl) (fun _ _ g=>g)).trans (aM.set (fun b=>b=mb) _ (Ad mb 2) _ rfl) (fun _ _ g=>g)).trans (aM.set (fun b=>b=mb) _ (Ad mb 3) _ rfl) (fun _ _ g=>g)).trans (aM.set (fun b=>b=mb) _ (Ad mb 4) _ rfl) (fun _ _ g=>g)
 have r1:=hr.kp kp (fun b hb e=>hb (by grind));have lb:∀b c,S.lab b=c->c≠.no->(if b=mb then jO.head else S.lab b)=c:=fun b c e hc=>by
  grind
 refine⟨⟨fun b hb=>?_,r1.aD,r1.cM,r1.frames,r1.slots,r1.aj,r1.len,r1.each,fun b hb=>lb b _ (r1.lS b hb) (by simp),fun i hi b hb=>lb b _ (r1.lX i hi b hb) (by simp),fun b hb=>lb b _ (r1.lF b hb) (by simp),fun b hb=>lb b _ (r1.lL b hb) (by simp),fun b hb=>lb b _ (r1.lP b hb) (by simp),fun i hi b hb=>lb b _ (r1.lA i hi b hb) (by simp),fun i hi b hb=>lb b _ (r1.lE i hi b hb) (by simp)⟩,?_,aR rfl⟩
 · by_cases c:b=mb
   · simp_all [aT]
   · have hb:(if b=mb then jO.head else S.lab b)≠.no:=hb;rw[bf c] at hb;exact r1.rV b hb
 · rw[hV,dD (dD (dD (dD (dD hm 0 S.vS) 1 S.vF) 2 S.vL) 3 S.vP) 4 (I k.hand)];unfold nu kS;rw[<- ht];congr 2
theorem LF (Hk:sG) (k:aN) (a:fR) (mb:Nat) (w:World) (hK:gD w a k) (hsm:zg k) (hm:w.heap[mb]?=some (.cells (nu a k) 104 (0,0))) (lo:Nat) (hlo:lo<=mb) :
  Calls Tryz.prog 84 #[.pointer (some (Ad mb 0))] w fun e w'=>e=.returned (.tuple #[])/\∃S hs,cW k.aD hs/\bu lo mb 104 (gI k) w' S (bN k hs)/\(∀b,S.lab b≠.no->b=mb∨w.heap.size<=b)/\aM (fun b=>b=mb) w w':=by
 have Z3:=ai (Hk k a w hK hsm);have yT:=aT hm;have HM:=ai hm;have cV:Hid (∀w1 S hs V,cW k.aD hs->Kr w.heap.size w1 S (bN k hs)->Below w.heap.size w w1->V=((((w1.setCell (Ad mb 0) S.vS).setCell (Ad mb 1) S.vF).setCell (Ad mb 2) S.vL).setCell (Ad mb 3) S.vP).setCell (Ad mb 4) (I k.hand)->∃S hs,cW k.aD hs/\bu lo mb 104 (gI k) V S (bN k hs)/\(∀b,S.lab b≠.no->b=mb∨w.heap.size<=b)/\aM (fun b=>b=mb) w V):=fun w1 S hs V h1 h2 h3 h4=>by
  have rZ:=aQ HM.o h3 yT;have hno:S.lab mb=.no:=xE.1 fun x=>by grind [Kr.rV]
  have r1:Kr lo w1 S (bN k hs):=h2.mono (by omega);have m:=aaW r1 rZ hlo hno rfl h4;refine⟨_,hs,h1,m,fun b hb=>?_,?_⟩
  · by_cases c:b=mb
    · omega
    · have hb:(if b=mb then jO.head else S.lab b)≠.no:=hb;rw[bf c] at hb;exact .inr (h2.rV b hb).1
  · have kp:aM (fun b=>b=mb) w1 V:=by
     rw[h4];exact((((aM.set (fun b=>b=mb) w1 (Ad mb 0) _ rfl).trans (aM.set (fun b=>b=mb) _ (Ad mb 1) _ rfl) (fun _ _ g=>g)).trans (aM.set (fun b=>b=mb) _ (Ad mb 2) _ rfl) (fun _ _ g=>g)).trans (aM.set (fun b=>b=mb) _ (Ad mb 3) _ rfl) (fun _ _ g=>g)).trans (aM.set (fun b=>b=mb) _ (Ad mb 4) _ rfl) (fun _ _ g=>g)
    exact(aM.cH h3).trans kp (fun _ _ g=>g)
 have ajb:Hid (Calls Tryz.prog 55 #[.agg (bg a k)] w fun e w'=>∃S hs aS nS cS aF nF cF aL nL cL aP nP cP,S.vS=.slice aS nS cS/\S.vF=.slice aF nF cF/\S.vL=.slice aL nL cL/\S.vP=.slice aP nP cP/\cW k.aD hs/\e=.returned (.agg #[.slice aS nS cS,.slice aF nF cF,.slice aL nL cL,.slice aP nP cP,I k.hand])/\Kr w.heap.size w' S (bN k hs)/\Below w.heap.size w w'):=Z3.o.mono fun e w' ⟨S,hs,h1,h2,h3,h4⟩=>by
  obtain⟨aS,cS,eS,_⟩:=aY h3.aD;obtain⟨aF,cF,eF,_⟩:=aY h3.frames;obtain⟨aL,cL,eL,_⟩:=aY h3.slots;obtain⟨aP,cP,eP,_⟩:=aY h3.aj
  grind
 have c0:w.cell? (Ad mb 0)=some (.slice a.aS k.aD.length a.cS):=aB hm 0 rfl;have c1:w.cell? (Ad mb 1)=some (.slice a.aF k.frames.length a.cF):=aB hm 1 rfl;have c2:w.cell? (Ad mb 2)=some (.slice a.aL k.slots.length a.cL):=aB hm 2 rfl;have c3:w.cell? (Ad mb 3)=some (.slice a.aP k.aj.length a.cP):=aB hm 3 rfl;have c4:w.cell? (Ad mb 4)=some (I k.hand):=aB hm 4 rfl;have HCM:Hid (∀V,Below w.heap.size w V->(V.cell? (Ad mb 0)=some (.slice a.aS k.aD.length a.cS)/\V.cell? (Ad mb 1)=some (.slice a.aF k.frames.length a.cF)/\V.cell? (Ad mb 2)=some (.slice a.aL k.slots.length a.cL)/\V.cell? (Ad mb 3)=some (.slice a.aP k.aj.length a.cP)/\V.cell? (Ad mb 4)=some (I k.hand))/\V.frozen? (Ad mb 0)=false/\V.frozen? (Ad mb 1)=false/\V.frozen? (Ad mb 2)=false/\V.frozen? (Ad mb 3)=false/\V.frozen? (Ad mb 4)=false):=fun V hb=>by
  have h1:=aQ HM.o hb yT;exact⟨⟨aB h1 0 rfl,aB h1 1 rfl,aB h1 2 rfl,aB h1 3 rfl,aB h1 4 rfl⟩,aO h1 0,aO h1 1,aO h1 2,aO h1 3,aO h1 4⟩
 unfold bg at ajb;clear hm hK hsm Z3;go_enter Tryz.func84,Tryz.ntmps84;go_wp2_with (go_at_call 55;refine ajb.o.mono ?_;rintro e w1 ⟨S,hs,aS,nS,cS,aF,nF,cF,aL,nL,cL,aP,nP,cP,eS,eF,eL,eP,hsame,rfl,hkr,hb1⟩;have HF1:=ai (fun V=>cV.o w1 S hs V hsame hkr hb1);rw[eS,eF,eL,eP] at HF1;obtain⟨⟨y0,y1,y2,y3,y4⟩,f0,f1,f2,f3,f4⟩:=HCM.o w1 hb1;clear hsame hkr hb1 eS eF eL eP)
 refine pE (v:=.tuple #[]) (by simp[results,Tryz.results84,go_sem]) rfl ?_;exact⟨rfl,HF1.o _ rfl⟩
open Go.RowKit
def eB (k:aN) (sp size way:Int) (ways:List Int):Int:=if dV k sp≠0 then dV k sp else if ¬(1<=size/\size<=8) then 3 else if way∈ways then 0 else 10
def Hy (w:World) (k:aN) (e:Ending) (w':World):Prop:=∃mb S hs,e=.returned (.tuple #[.pointer (some (Ad mb 0)),I 0])/\cW k.aD hs/\bu w.heap.size mb 104 (gI k) w' S (bN k hs)/\Below w.heap.size w w'
theorem IW {w:World} {a:fR} {k:aN} {sp:Int} (h:Calls Tryz.prog 69 #[.agg (bg a k),I sp] w (tJ w a k (dV k sp))) (hc:dV k sp≠0):Calls Tryz.prog 69 #[.agg (bg a k),I sp] w fun e w'=>e=.returned (.tuple #[.pointer none,I (dV k sp)])/\Below w.heap.size w w':=h.mono fun e w' ⟨hb,hh⟩=>by
 grind
theorem LG {w:World} {a:fR} {k:aN} {sp:Int} (h:Calls Tryz.prog 69 #[.agg (bg a k),I sp] w (tJ w a k (dV k sp))) (hc:dV k sp=0):Calls Tryz.prog 69 #[.agg (bg a k),I sp] w fun e w'=>∃mb,e=.returned (.tuple #[.pointer (some (Ad mb 0)),I 0])/\w.heap.size<=mb/\w'.heap[mb]?=some (.cells (nu a k) 104 (0,0))/\Below w.heap.size w w':=h.mono fun e w' ⟨hb,hh⟩=>by
 grind
theorem pA {k:aN} {sp:Int} (h:dV k sp=0):bc k/\0<=sp/\sp.toNat<k.aj.length/\(ak k.aj sp.toNat).live=true:=by
 grind [dV,nJ]
theorem wK (k:aN) (a:fR) (sp size way:Int) (ways:List Int) (aw:Option Addr) (cw:Nat) (w:World) (hK:gD w a k) (hF:iI k) (hsp:eY sp) (hw:cJ dN 1 0 w aw ways) (E9:ways.length<=1000000) (hc:eB k sp size way ways≠0) :
  Calls Tryz.prog 51 #[.agg (bg a k),I sp,I size,I way,.slice aw ways.length cw] w fun e w'=>e=.returned (.tuple #[.pointer none,I (eB k sp size way ways)])/\Below w.heap.size w w':=by
 have vY:=ai (fun V (hV:Below w.heap.size w V)=>xU k a sp V (hK.below hV) hF hsp);have Vr:=ai (fun V (hV:Below w.heap.size w V)=>tI ways way aw cw V (hw.below hV) E9);have eU:=ai ((aK w.heap.size w).alloc (aI _) (.cells (bg a k) 27));have KB:=ai (bO w (bg a k) 27);obtain⟨C,hC⟩:=ex (eB k sp size way ways);rw[<- hC] at hc ⊢;obtain⟨P,hP⟩:∃P:Ending->World->Prop,P=fun e w'=>e=.returned (.tuple #[.pointer none,I C])/\Below w.heap.size w w':=⟨_,rfl⟩
 have HE:Hid (∀V,Below w.heap.size w V->P (.returned (.tuple #[.pointer none,I C])) V):=fun V hV=>by grind
 rw[<- hP];clear hP;unfold eB at hC;by_cases c1:dV k sp=0
 · rw[bf (fun x=>x c1)] at hC;have AZ:=ai (fun V hV=>LG (vY.o V hV) c1);by_cases c2:1<=size/\size<=8
   · rw[bf (fun x=>x c2)] at hC;have c3:way∉ways:=fun x=>by grind
     rw[bf c3] at hC;subst hC;rw[dJ c3] at Vr;obtain⟨g1,g2⟩:=c2;clear vY c1 c3 hK hF hsp hw hc;unfold bg at AZ eU KB ⊢;go_enter Tryz.func51,Tryz.ntmps51;go_wp2_with (first
      | (go_at_call 69;refine(AZ.o _ eU.o).mono ?_;rintro e w1 ⟨mb,rfl,rZ,hm2,hb1⟩;have dz:=ai (cd eU.o hb1);clear hb1 hm2)
      | (go_at_call 95;refine(Vr.o _ dz.o).mono ?_;rintro e w2 ⟨rfl,rfl⟩))
     exact HE.o _ dz.o
   · rw[aR c2] at hC;subst hC;clear vY Vr c1 hK hF hsp hw hc;unfold bg at AZ eU KB ⊢;rcases(show size<1∨(1<=size/\8<size) by omega) with g | ⟨g1,g2⟩
     · go_enter Tryz.func51,Tryz.ntmps51;go_wp2_with (go_at_call 69;refine(AZ.o _ eU.o).mono ?_;rintro e w1 ⟨mb,rfl,rZ,hm2,hb1⟩;have dz:=ai (cd eU.o hb1);clear hb1 hm2)
       exact HE.o _ dz.o
     · have g3:¬size<1:=by omega
       go_enter Tryz.func51,Tryz.ntmps51;go_wp2_with (go_at_call 69;refine(AZ.o _ eU.o).mono ?_;rintro e w1 ⟨mb,rfl,rZ,hm2,hb1⟩;have dz:=ai (cd eU.o hb1);clear hb1 hm2)
       exact HE.o _ dz.o
 · rw[aR c1] at hC;have AZ:=ai (fun V hV=>IW (vY.o V hV) c1);rw[<- hC] at AZ;have cb:(C != 0)=true:=by grind
   clear vY Vr c1 hK hF hsp hw hc hC;unfold bg at AZ eU KB ⊢;go_enter Tryz.func51,Tryz.ntmps51;go_wp2_with (go_at_call 69;refine(AZ.o _ eU.o).mono ?_;rintro e w1 ⟨rfl,hb1⟩;have dz:=ai (cd eU.o hb1);clear hb1)
   exact HE.o _ dz.o
theorem yr (Hk:sG) (k:aN) (a:fR) (sp size way:Int) (ways:List Int) (aw:Option Addr) (cw:Nat) (w:World) (hK:gD w a k) (hF:iI k) (hsp:eY sp) (hw:cJ dN 1 0 w aw ways) (E9:ways.length<=1000000) (hc:eB k sp size way ways=0) :
  Calls Tryz.prog 51 #[.agg (bg a k),I sp,I size,I way,.slice aw ways.length cw] w (Hy w k):=by
 have c1:dV k sp=0:=by
  grind [eB]
 have c2:1<=size/\size<=8:=by
  grind [eB]
 have c3:way∈ways:=by
  grind [eB]
 have hR:=(pA c1).1;have hsm:=sF hR hF;have AZ:=ai (fun V (hV:Below w.heap.size w V)=>LG (xU k a sp V (hK.below hV) hF hsp) c1);have Vr:=ai (fun V (hV:Below w.heap.size w V)=>tI ways way aw cw V (hw.below hV) E9);rw[dI c3] at Vr;have eU:=ai ((aK w.heap.size w).alloc (aI _) (.cells (bg a k) 27));have HOW:Hid (∀V mb,Below w.heap.size w V->w.heap.size<=mb->V.heap[mb]?=some (.cells (nu a k) 104 (0,0))->Calls Tryz.prog 84 #[.pointer (some (Ad mb 0))] V fun e w'=>e=.returned (.tuple #[])/\Hy w k (.returned (.tuple #[.pointer (some (Ad mb 0)),I 0])) w'):=fun V mb hV rZ hm2=>(LF Hk k a mb V (hK.below hV) hsm hm2 w.heap.size rZ).mono fun e w' ⟨h1,S,hs,h2,h3,h4,h5⟩=>⟨h1,mb,S,hs,rfl,h2,h3,aM.below hV h5 hV.size (fun b e=>by omega)⟩
 obtain⟨P,hP⟩:=ex (Hy w k);rw[<- hP] at HOW ⊢;obtain⟨g1,g2⟩:=c2;clear c1 c3 hK hF hsp hw hc hR hsm hP;unfold bg at AZ eU ⊢;go_enter Tryz.func51,Tryz.ntmps51;go_wp2_with (first
  | (go_at_call 69;refine(AZ.o _ eU.o).mono ?_;rintro e w1 ⟨mb,rfl,rZ,hm2,hb1⟩;have dz:=ai (cd eU.o hb1);have Vo:=ai hm2;have Ji:Hid (w.heap.size<=mb):=(by simp at rZ;grind);clear hb1 hm2 rZ)
  | (go_at_call 95;refine(Vr.o _ dz.o).mono ?_;rintro e w2 ⟨rfl,rfl⟩)
  | (go_at_call 84;refine(HOW.o _ _ dz.o Ji.o Vo.o).mono ?_;rintro e w3 ⟨rfl,hq⟩;have HQ:=ai hq;clear hq))
 exact HQ.o
open Go.RowKit
def dK:aN:=⟨[],[],[],[],0⟩
def aaQ:dE:=⟨fun _=>.no,Nl,Nl,Nl,Nl,[]⟩
def dg (w:World) (k:aN) (vs:List Value) (e:Ending) (w':World):Prop:=∃S hs,cW k.aD hs/\e=.returned (.tuple (Value.agg #[S.vS,S.vF,S.vL,S.vP,I k.hand]::vs).toArray)/\Kr w.heap.size w' S (bN k hs)/\Below w.heap.size w w'
theorem VX (lo:Nat) (w:World):Kr lo w aaQ dK:=by
 refine⟨fun b hb=>absurd rfl hb,jz _ _ _ _,fun i hi=>?_,jz _ _ _ _,jz _ _ _ _,jz _ _ _ _,rfl,fun i hi=>?_,fun b hb=>?_,fun i hi=>?_,fun b hb=>?_,fun b hb=>?_,fun b hb=>?_,fun i hi=>?_,fun i hi=>?_⟩
 all_goals first | cases hb | cases hi
theorem oJ {w w':World} (vs:List Value) (hb:Below w.heap.size w w'):dg w dK vs (.returned (.tuple (Value.agg #[Nl,Nl,Nl,Nl,I 0]::vs).toArray)) w':=⟨aaQ,[],rfl,rfl,VX _ _,hb⟩
def gz (k:aN) (sp a n way:Int):aN×(Int×Int)×Int:=if eB k sp n way [0,1,2]≠0 then (dK,(0,0),eB k sp n way [0,1,2]) else if (eV (ak k.aj sp.toNat).bk a n way).1≠0 then (dK,eV (ak k.aj sp.toNat).bk a n way,0) else ((aW k sp.toNat a n way).2,(0,0),0)
theorem vH {k:aN} {sp size way:Int} {ways:List Int} (h:eB k sp size way ways=0):dV k sp=0/\(1<=size/\size<=8)/\way∈ways:=by
 grind [eB]
theorem uj {W:World} {rb fb:Nat} (hr:W.heap[rb]?=some (.cells #[Nl,Nl,Nl,Nl,I 0] 27 (0,0))) (hf:W.heap[fb]?=some (.cells #[I 0,I 0] 36 (0,0))) (hne:rb≠fb) (s f l p h x y:Value) {V:World} (hV:V=((((((W.setCell (Ad rb 0) s).setCell (Ad rb 1) f).setCell (Ad rb 2) l).setCell (Ad rb 3) p).setCell (Ad rb 4) h).setCell (Ad fb 0) x).setCell (Ad fb 1) y) :
  V.heap[rb]?=some (.cells #[s,f,l,p,h] 27 (0,0))/\V.heap[fb]?=some (.cells #[x,y] 36 (0,0))/\aM (fun b=>b=rb∨b=fb) W V:=by
 have h1:(((((W.setCell (Ad rb 0) s).setCell (Ad rb 1) f).setCell (Ad rb 2) l).setCell (Ad rb 3) p).setCell (Ad rb 4) h).heap[rb]?=some (.cells #[s,f,l,p,h] 27 (0,0)):=dD (dD (dD (dD (dD hr 0 s) 1 f) 2 l) 3 p) 4 h;have aai:fb≠rb:=fun e=>hne e.symm
 have h2:=iM (iM (iM (iM (iM hf rb 0 s aai) rb 1 f aai) rb 2 l aai) rb 3 p aai) rb 4 h aai;subst hV;refine⟨iM (iM h1 fb 0 x hne) fb 1 y hne,dD (dD h2 0 x) 1 y,?_⟩;have k:∀(A:World) (g j:Nat) (v:Value),g=rb∨g=fb->aM (fun b=>b=rb∨b=fb) A (A.setCell (Ad g j) v):=fun A g j v hg=>aM.set _ A (Ad g j) v hg
 exact((((((k _ _ _ _ (.inl rfl)).trans (k _ _ _ _ (.inl rfl)) (fun _ _ g=>g)).trans (k _ _ _ _ (.inl rfl)) (fun _ _ g=>g)).trans (k _ _ _ _ (.inl rfl)) (fun _ _ g=>g)).trans (k _ _ _ _ (.inl rfl)) (fun _ _ g=>g)).trans (k _ _ _ _ (.inr rfl)) (fun _ _ g=>g)).trans (k _ _ _ _ (.inr rfl)) (fun _ _ g=>g)
theorem Qz (V:World):cJ dN 1 0 (V.alloc (.cells #[I 0,I 1,I 2] 3)) (some (Ad V.heap.size 0)) [0,1,2]:=fun _=>by
 have h:=bO V #[I 0,I 1,I 2] 3;refine⟨V.heap.size,0,rfl,aT h,fun i hi j hj=>?_⟩;obtain rfl:j=0:=by omega
 have hi:i<3:=hi;rcases(show i=0∨i=1∨i=2 by omega) with rfl | rfl | rfl
 · exact aB h 0 rfl
 · exact aB h 1 rfl
 · exact aB h 2 rfl
theorem QA (Hk:sG) (k:aN) (a:fR) (sp ad n way:Int) (w:World) (hK:gD w a k) (hF:iI k) (hsp:eY sp) (had:eY ad) :
  Calls Tryz.prog 17 #[.agg (bg a k),I sp,I ad,I n,I way] w (dg w (gz k sp ad n way).1 [.agg #[I (gz k sp ad n way).2.1.1,I (gz k sp ad n way).2.1.2],I (gz k sp ad n way).2.2]):=by
 obtain⟨WA,jG⟩:=ex (((w.alloc (.cells (bg a k) 27)).alloc (.cells #[Nl,Nl,Nl,Nl,I 0] 27)).alloc (.cells #[I 0,I 0] 36));have hb0:Below w.heap.size w WA:=by rw[jG];exact(((aK _ _).alloc (aI _) _).alloc (by simp) _).alloc (by simp;omega) _
 have kb:WA.heap[w.heap.size]?=some (.cells (bg a k) 27 (0,0)):=by grind [bM,bO]
 have rb:WA.heap[w.heap.size+1]?=some (.cells #[Nl,Nl,Nl,Nl,I 0] 27 (0,0)):=by
  grind [bM,bO,World.size_alloc]
 have fb:WA.heap[w.heap.size+1+1]?=some (.cells #[I 0,I 0] 36 (0,0)):=by
  grind [bO,World.size_alloc]
 have hsz:WA.heap.size=w.heap.size+3:=by simp_all
 obtain⟨WB,Tc⟩:=ex (WA.alloc (.cells #[I 0,I 1,I 2] 3));have hb1:Below w.heap.size w WB:=by grind [Below.alloc]
 have hrow:cJ dN 1 0 WB (some (Ad WA.heap.size 0)) [0,1,2]:=by grind [Qz]
 have KS:WB.heap.size=w.heap.size+4:=by simp_all
 have RB:Hid (∀V,Below WB.heap.size WB V->V.heap[w.heap.size+1]?=some (.cells #[Nl,Nl,Nl,Nl,I 0] 27 (0,0))):=fun V hb=>aQ (by grind [bM]) hb (by omega)
 have FB:Hid (∀V,Below WB.heap.size WB V->V.heap[w.heap.size+1+1]?=some (.cells #[I 0,I 0] 36 (0,0))):=fun V hb=>aQ (by grind [bM]) hb (by omega)
 have k0:WA.cell? (Ad w.heap.size 0)=some (.slice a.aS k.aD.length a.cS):=aB kb 0 rfl;have k1:WA.cell? (Ad w.heap.size 1)=some (.slice a.aF k.frames.length a.cF):=aB kb 1 rfl;have k2:WA.cell? (Ad w.heap.size 2)=some (.slice a.aL k.slots.length a.cL):=aB kb 2 rfl;have k3:WA.cell? (Ad w.heap.size 3)=some (.slice a.aP k.aj.length a.cP):=aB kb 3 rfl;have k4:WA.cell? (Ad w.heap.size 4)=some (I k.hand):=aB kb 4 rfl;have lI:=ai jG;have Zw:=ai Tc;have dz:=ai hb1;by_cases c:eB k sp n way [0,1,2]=0
 · obtain⟨hlv,hn,hwy⟩:=vH c;obtain⟨hR,Jy,hj,tv⟩:=pA hlv;obtain⟨j,hje⟩:∃j:Nat,sp=(j:Int):=⟨sp.toNat,by omega⟩;subst hje;rw[jn] at hj tv;have vY:=ai (yr Hk k a (j:Int) n way [0,1,2] (some (Ad WA.heap.size 0)) 3 WB (hK.below hb1) hF hsp hrow (by simp) c);rw[show([0,1,2]:List Int).length=3 from rfl] at vY;have Ff:w.heap.size+1≠w.heap.size+1+1:=by omega
   have HLB:=ai (show w.heap.size+1+1<WB.heap.size by omega);by_cases hf:(eV (ak k.aj j).bk ad n way).1=0
   · obtain⟨Vw,hal,hau,hmap⟩:=nQ hn.1 hn.2 hf;have rZ:dx k j (ad/16):=by
      have:=hmap 0 (by omega) (by omega);rw[CU] at this;exact this
     have hm2:dx k j (cD ad n):=by
      have:=hmap (n-1) (by omega) (by omega);unfold cD;rw[show ad+n-1=ad+(n-1) by omega];exact this
     have ZR:=(nz hR hj ad n way rZ hm2).kept.aD;have hA:gz k (j:Int) ad n way=((aW k j ad n way).2,(0,0),0):=by
      unfold gz;rw[bf (fun x=>x c),jn,bf (fun x=>x hf)]
     rw[hA];have rD:Hid (∀V S mb hs,cW k.aD hs->bu WB.heap.size mb 104 (gI k) V S (bN k hs)->Below w.heap.size w V->V.heap[w.heap.size+1]?=some (.cells #[Nl,Nl,Nl,Nl,I 0] 27 (0,0))->V.heap[w.heap.size+1+1]?=some (.cells #[I 0,I 0] 36 (0,0))->Calls Tryz.prog 52 #[.pointer (some (Ad mb 0)),I (j:Int),I ad,I n,I way] V fun e w'=>∃av nv cv aS nS cS aF nF cF aL nL cL aP nP cP hd,e=.returned (.tuple #[.slice av nv cv,.agg #[I 0,I 0]])/\w'.cell? (Ad mb 0)=some (.slice aS nS cS)/\w'.cell? (Ad mb 1)=some (.slice aF nF cF)/\w'.cell? (Ad mb 2)=some (.slice aL nL cL)/\w'.cell? (Ad mb 3)=some (.slice aP nP cP)/\w'.cell? (Ad mb 4)=some (I hd)/\mb<w'.heap.size/\w'.heap[w.heap.size+1]?=some (.cells #[Nl,Nl,Nl,Nl,I 0] 27 (0,0))/\w'.heap[w.heap.size+1+1]?=some (.cells #[I 0,I 0] 36 (0,0))/\Below w.heap.size w w'/\(∀U,aM (fun b=>b=w.heap.size+1∨b=w.heap.size+1+1) w' U->dg w (aW k j ad n way).2 [.agg #[I 0,I 0],I 0] (.returned (.tuple #[.agg #[.slice aS nS cS,.slice aF nF cF,.slice aL nL cL,.slice aP nP cP,I hd],.agg #[I 0,I 0],I 0])) U)):=fun V S mb hs hsame hV hbV hrV hfV=>by
      have hR':=hR.Du hsame;refine(yt (bN k hs) S V j ad n way hV hR' hj had hn hf (BC hR.kP hsame)).mono fun e w' ⟨av,cv,S',e1,_,hk',hc'⟩=>?_
      rw[wU hR hj rZ hsame] at hk' e1;have Dr:∀b,b<WB.heap.size->S.lab b=.no:=fun b hb=>xE.1 fun x=>by have:=(hV.rV b x).1;omega
      have KU:=HLB.o;obtain⟨aS,cS,eS,_⟩:=aY hk'.aD;obtain⟨aF,cF,eF,_⟩:=aY hk'.frames;obtain⟨aL,cL,eL,_⟩:=aY hk'.slots;obtain⟨aP,cP,eP,_⟩:=aY hk'.aj;have c0:=hk'.c0;have c1:=hk'.c1;have c2:=hk'.c2;have c3:=hk'.c3;rw[eS] at c0;rw[eF] at c1;rw[eL] at c2;rw[eP] at c3;have hbl:Below w.heap.size w w':=aM.below hbV hc'.kp hbV.size (fun b hb=>by have:=(hV.rV b hb).1;omega);refine⟨av,_,cv,aS,_,cS,aF,_,cF,aL,_,cL,aP,_,cP,_,e1,c0,c1,c2,c3,hk'.c4,hk'.lt,hc'.keep hrV (Dr _ (by omega)),hc'.keep hfV (Dr _ KU),hbl,fun U hU=>⟨S',hs,by rw[ZR];omega,by rw[eS,eF,eL,eP];rfl,?_,?_⟩⟩
      · exact(hk'.toKr.kp hU (fun b hb e=>hb (hc'.no b (by have:=aT hfV;omega) (Dr b (by omega))))).mono (by omega)
      · exact aM.below hbl hU hbl.size (fun b e=>by omega)
     obtain⟨P,hP⟩:=ex (dg w (aW k j ad n way).2 [.agg #[I 0,I 0],I 0]);rw[<- hP] at rD;show Calls _ _ _ _ (dg w (aW k j ad n way).2 [.agg #[I 0,I 0],I 0]);rw[<- hP];have vX:Hid (Calls Tryz.prog 51 #[.agg (bg a k),I (j:Int),I n,I way,.slice (some (Ad WA.heap.size 0)) 3 3] WB fun e w'=>∃mb S hs,e=.returned (.tuple #[.pointer (some (Ad mb 0)),I 0])/\cW k.aD hs/\bu WB.heap.size mb 104 (gI k) w' S (bN k hs)/\Below WB.heap.size WB w'):=vY.o;unfold bg at vX lI ⊢;clear hK hF hsp had hA c hP jG Tc hb0 hb1 kb rb fb hrow hsz KS vY hf Vw hal hau hmap rZ hm2 ZR hR hlv hn hwy hj tv Jy;go_enter Tryz.func17,Tryz.ntmps17;go_upto_region 1 with fail;rw[<- lI.o];go_upto_region 7 with(first
      | (go_at_call 51;rw[<- Zw.o];refine vX.o.mono ?_;rintro e w1 ⟨mb,S1,hs1,rfl,hs2,hk1,hb1⟩;have gj:=ai (dz.o.trans (hb1.mono dz.o.size));have R1:=ai (RB.o _ hb1);have F1:=ai (FB.o _ hb1);have vZ:=ai hk1;have jP:=ai hs2;clear hb1 hk1 hs2)
      | (go_at_call 52;refine(rD.o _ _ _ _ jP.o vZ.o gj.o R1.o F1.o).mono ?_;rintro e w2 ⟨av,nv,cv,aS,nS,cS,aF,nF,cF,aL,nL,cL,aP,nP,cP,hd,rfl,m0,m1,m2,m3,m4,yT,hr2,hf2,hb2,hfin⟩;have R2:=ai hr2;have F2:=ai hf2;have qK:=ai hfin;have X2:=ai (bO w2 #[I 0,I 0] 36);obtain⟨x0,x1⟩:=nM X2.o;clear hr2 hf2 hb2 hfin))
     have R3:=ai (bM R2.o (.cells #[I 0,I 0] 36));have F3:=ai (bM F2.o (.cells #[I 0,I 0] 36));have HA:=ai ((aK w2.heap.size w2).alloc (aI _) (.cells #[I 0,I 0] 36));have p0:=(HA.o.cell (p:=(Ad mb 0)) yT).trans m0;have p1:=(HA.o.cell (p:=(Ad mb 1)) yT).trans m1;have p2:=(HA.o.cell (p:=(Ad mb 2)) yT).trans m2;have p3:=(HA.o.cell (p:=(Ad mb 3)) yT).trans m3;have p4:=(HA.o.cell (p:=(Ad mb 4)) yT).trans m4;obtain⟨W3,hW3⟩:=ex (w2.alloc (.cells #[I 0,I 0] 36));rw[<- hW3] at R3 F3 HA p0 p1 p2 p3 p4 ⊢;clear hW3 m0 m1 m2 m3 m4 x0 x1;obtain⟨y0,y1,y2,y3,y4⟩:=fy R3.o;obtain⟨z0,z1⟩:=nM F3.o;have f0:=aO R3.o 0;have f1:=aO R3.o 1;have f2:=aO R3.o 2;have f3:=aO R3.o 3;have f4:=aO R3.o 4;have g0:=aO F3.o 0;have g1:=aO F3.o 1;have h7:=ai (fun V=>uj R3.o F3.o Ff (.slice aS nS cS) (.slice aF nF cF) (.slice aL nL cL) (.slice aP nP cP) (I hd) (I 0) (I 0) (V:=V));go_wp2;obtain⟨q1,q2,q3⟩:=h7.out _ rfl;obtain⟨y0,y1,y2,y3,y4⟩:=fy q1;obtain⟨z0,z1⟩:=nM q2;refine cm (v:=.tuple #[.agg #[.slice aS nS cS,.slice aF nF cF,.slice aL nL cL,.slice aP nP cP,I hd],.agg #[I 0,I 0],I 0]) (by simp[results,Tryz.results17,go_sem,y0,y1,y2,y3,y4,z0,z1]) rfl ?_;exact qK.o _ ((aM.cH HA.o).trans q3 (fun _ _ g=>g))
   · have hA:gz k (j:Int) ad n way=(dK,eV (ak k.aj j).bk ad n way,0):=by
      unfold gz
      grind
     rw[hA];obtain⟨FA,hFA⟩:=ex (eV (ak k.aj j).bk ad n way);have rD:Hid (∀V S mb hs,cW k.aD hs->bu WB.heap.size mb 104 (gI k) V S (bN k hs)->Calls Tryz.prog 52 #[.pointer (some (Ad mb 0)),I (j:Int),I ad,I n,I way] V fun e w'=>e=.returned (.tuple #[Nl,.agg #[I FA.1,I FA.2]])/\Below V.heap.size V w'):=fun V S mb hs hsame hV=>by
      rw[hFA];exact wL (bN k hs) S V j ad n way hV (hR.Du hsame) hj had hn hf
     rw[<- hFA] at hf ⊢;have Ef:(FA.1 != 0)=true:=by grind
     have vX:Hid (Calls Tryz.prog 51 #[.agg (bg a k),I (j:Int),I n,I way,.slice (some (Ad WA.heap.size 0)) 3 3] WB fun e w'=>∃mb S hs,e=.returned (.tuple #[.pointer (some (Ad mb 0)),I 0])/\cW k.aD hs/\bu WB.heap.size mb 104 (gI k) w' S (bN k hs)/\Below WB.heap.size WB w'):=vY.o;obtain⟨f0,f1⟩:=FA;simp only at rD Ef ⊢;have cV:Hid (∀V,Below w.heap.size w V->dg w dK [.agg #[I f0,I f1],I 0] (.returned (.tuple #[.agg #[Nl,Nl,Nl,Nl,I 0],.agg #[I f0,I f1],I 0])) V):=fun V hV=>oJ _ hV
     obtain⟨P,hP⟩:=ex (dg w dK [.agg #[I f0,I f1],I 0]);rw[<- hP] at cV ⊢;unfold bg at vX lI ⊢;clear hK hF hsp had hA c hP jG Tc hb0 hb1 kb rb fb hrow hsz KS vY hf hR hlv hn hwy hj tv Jy hFA;go_enter Tryz.func17,Tryz.ntmps17;go_upto_region 1 with fail;rw[<- lI.o];go_upto_region 6 with(first
      | (go_at_call 51;rw[<- Zw.o];refine vX.o.mono ?_;rintro e w1 ⟨mb,S1,hs1,rfl,hs2,hk1,hb1⟩;have gj:=ai (dz.o.trans (hb1.mono dz.o.size));have R1:=ai (RB.o _ hb1);have F1:=ai (FB.o _ hb1);have vZ:=ai hk1;have jP:=ai hs2;clear hb1 hk1 hs2)
      | (go_at_call 52;refine(rD.o _ _ _ _ jP.o vZ.o).mono ?_;rintro e w2 ⟨rfl,hb2⟩;have R2:=ai (aQ R1.o hb2 (aT R1.o));have F2:=ai (aQ F1.o hb2 (aT F1.o));have kJ:=ai (gj.o.trans (hb2.mono gj.o.size));have X2:=ai (bO w2 #[I f0,I f1] 36);obtain⟨x0,x1⟩:=nM X2.o;clear hb2))
     have R3:=ai (bM R2.o (.cells #[I f0,I f1] 36));have F3:=ai (bM F2.o (.cells #[I f0,I f1] 36));have pZ:=ai (kJ.o.alloc kJ.o.size (.cells #[I f0,I f1] 36));have hl3:=aT F2.o;obtain⟨W3,hW3⟩:=ex (w2.alloc (.cells #[I f0,I f1] 36));rw[<- hW3] at R3 F3 pZ x0 x1 ⊢;clear hW3;obtain⟨y0,y1,y2,y3,y4⟩:=fy R3.o;obtain⟨z0,z1⟩:=nM F3.o;have e0:=aO R3.o 0;have e1:=aO R3.o 1;have e2:=aO R3.o 2;have e3:=aO R3.o 3;have e4:=aO R3.o 4;have g0:=aO F3.o 0;have g1:=aO F3.o 1;have h7:=ai (fun V=>uj R3.o F3.o Ff Nl Nl Nl Nl (I 0) (I f0) (I f1) (V:=V));go_region;go_wp2;obtain⟨q1,q2,q3⟩:=h7.out _ rfl;obtain⟨y0,y1,y2,y3,y4⟩:=fy q1;obtain⟨z0,z1⟩:=nM q2;refine cm (v:=.tuple #[.agg #[Nl,Nl,Nl,Nl,I 0],.agg #[I f0,I f1],I 0]) (by simp[results,Tryz.results17,go_sem,y0,y1,y2,y3,y4,z0,z1]) rfl ?_;exact cV.o _ (aM.below pZ.o (q3.trans (aM.drew _ _) (fun _ _ g=>g)) pZ.o.size (fun b e=>by omega))
 · have hA:gz k sp ad n way=(dK,(0,0),eB k sp n way [0,1,2]):=by unfold gz;grind
   rw[hA];have vY:=ai (wK k a sp n way [0,1,2] (some (Ad WA.heap.size 0)) 3 WB (hK.below hb1) hF hsp hrow (by simp) c);rw[show([0,1,2]:List Int).length=3 from rfl] at vY;obtain⟨C,hC⟩:=ex (eB k sp n way [0,1,2]);rw[<- hC] at vY c ⊢;have cb:(C != 0)=true:=by grind
   have cV:Hid (∀V,Below w.heap.size w V->dg w dK [.agg #[I 0,I 0],I C] (.returned (.tuple #[.agg #[Nl,Nl,Nl,Nl,I 0],.agg #[I 0,I 0],I C])) V):=fun V hV=>oJ _ hV
   obtain⟨P,hP⟩:=ex (dg w dK [.agg #[I 0,I 0],I C]);rw[<- hP] at cV ⊢;unfold bg at vY lI ⊢;clear hK hF hsp had hA hC c hP jG Tc hb0 hb1 kb rb fb hrow hsz KS;go_enter Tryz.func17,Tryz.ntmps17;go_upto_region 1 with fail;rw[<- lI.o];go_upto_region 3 with(go_at_call 51;rw[<- Zw.o];refine vY.o.mono ?_;rintro e w1 ⟨rfl,hb1⟩;have gj:=ai (dz.o.trans (hb1.mono dz.o.size));have R1:=ai (RB.o _ hb1);have F1:=ai (FB.o _ hb1);clear hb1)
   obtain⟨y0,y1,y2,y3,y4⟩:=fy R1.o;obtain⟨z0,z1⟩:=nM F1.o;have f0:=aO R1.o 0;have f1:=aO R1.o 1;have f2:=aO R1.o 2;have f3:=aO R1.o 3;have f4:=aO R1.o 4;have g0:=aO F1.o 0;have g1:=aO F1.o 1;have h7:=ai (fun V=>uj R1.o F1.o (by omega) Nl Nl Nl Nl (I 0) (I 0) (I 0) (V:=V));go_wp2;obtain⟨q1,q2,q3⟩:=h7.out _ rfl;obtain⟨y0,y1,y2,y3,y4⟩:=fy q1;obtain⟨z0,z1⟩:=nM q2;refine cm (v:=.tuple #[.agg #[Nl,Nl,Nl,Nl,I 0],.agg #[I 0,I 0],I C]) (by simp[results,Tryz.results17,go_sem,y0,y1,y2,y3,y4,z0,z1]) rfl ?_;exact cV.o _ (aM.below gj.o q3 gj.o.size (fun b e=>by omega))
open Go.RowKit
theorem zS (l:List Nat):(yu l).length=l.length:=by unfold yu;rw[ub]
theorem O0 (l:List Nat) (n:Nat) (hn:n<l.length):zV (yu l) n=((l.getD n 0:Nat):Int):=by
 unfold zV yu;rw[lU,List.getElem?_map,lU,q9 hn];rfl
theorem IY {lo mb:Nat} {tt:TypeId} {X:List Value} (k:aN) (S:dE) (w:World) (l:List Nat) (av:Option Addr) (cv:Nat) (h:bu lo mb tt X w S k) (hH:jD w S av (yu l)) (hl:∀n,n<l.length->l.getD n 0<k.frames.length) (hll:l.length<=2) (hsz:∀n,n<l.length->(au k.frames (l.getD n 0)).data.size<=1000) (tq:0<k.frames.length) :
  Calls Tryz.prog 64 #[.pointer (some (Ad mb 0)),.slice av l.length cv] w fun e w'=>e=.returned (.string (gK k.frames l l.length))/\w'=w:=by
 obtain⟨fb,cF,A⟩:=h.toKr.fr tq;have c1:=h.c1;rw[A.v] at c1;have HX:=ai A.x0;have HH:=ai hH.has;have HL:=ai hl;have ZX:=ai hsz;have HJB:Hid (∀n,n<=l.length->(gK k.frames l n).size<=n*1000):=fun n=>by
  induction n with
  | zero=>intro _;exact oO _
  | succ n ih =>
   intro hn;unfold gK;rw[ByteArray.size_append];have:=ih (by omega);have:=hsz n (by omega);omega
 obtain⟨nf,SU⟩:=ex k.frames.length;rw[<- SU] at c1 HX HL;clear h hH A hl hsz tq SU;go_enter Tryz.func64,Tryz.ntmps64;go_wp2;go_loopw [5,10] (fun dv iv wr=>∃n:Nat,n<=l.length/\iv=I (n:Int)/\dv=.string (gK k.frames l n)/\wr=w) (fun _ iv _=>l.length-(intOf iv).toNat)
 case atStart=>exact⟨0,by omega,rfl,rfl,rfl⟩
 case round =>
  obtain⟨n,hn,rfl,rfl,rfl⟩:=hrel;by_cases hlt:n<l.length
  · have hni:(n:Int)<(l.length:Int):=by omega
    have hjb:=HJB.o n hn;have hs1:=ZX.o n hlt;obtain⟨eb,eo,hao,hbl,eI⟩:=HH.o (by rw[zS];omega);subst hao;have y0:=eI n (by rw[zS];exact hlt) 0 (by omega);rw[fW,J9] at y0;have e0:=O0 l n hlt;have x0:wr.cell? (Ad eb (eo+n))=some (I ((l.getD n 0:Nat):Int)):=by
     rw[<- e0];exact y0
    have hq:=HL.o n hlt;have xF:=HX.o (l.getD n 0) hq;have qH:Hid (gK k.frames l (n+1)=gK k.frames l n++(au k.frames (l.getD n 0)).data):=rfl;obtain⟨q,hqe⟩:=ex (l.getD n 0);rw[<- hqe] at x0 xF qH hq hs1;obtain⟨FD,hFD⟩:=ex ((au k.frames q).data);rw[<- hFD] at xF qH hs1;obtain⟨JD,hJD⟩:=ex (gK k.frames l n);rw[<- hJD] at qH hjb ⊢;have hqi:(q:Int)<(nf:Int):=by omega
    clear eI y0 e0 hqe hFD hJD;go_wp2;go_roundw
    case rel=>exact⟨n+1,by omega,by go_num,by rw[qH.o],trivial⟩
    case measure=>simp[intOf];omega
  · obtain rfl:n=l.length:=by omega
    go_wp2;go_ret;exact⟨rfl,rfl⟩
end Go.Proofs.YtpgifpeohlllfaaGreat
