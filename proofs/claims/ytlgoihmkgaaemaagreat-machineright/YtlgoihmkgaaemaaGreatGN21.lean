import Derived.Test.YtlgoihmkgaaemaaGreatGN20
set_option maxHeartbeats 20000000
set_option linter.unusedVariables false
set_option maxRecDepth 100000
set_option linter.unusedSimpArgs false
namespace Go.Proofs.YtlgoihmkgaaemaaGreat
open Go.RowKit
def qT (k:aT) (j:Nat) (a n way:Int):Nat->aT
 | 0=>k
 | 1=>(fp k j a way).2
 | _=>(kF k j a n way).2
def qq (k:aT) (j:Nat) (a n way:Int):Nat->List Int
 | 0=>[]
 | 1=>[((fp k j a way).1:Int)]
 | _=>[((fp k j a way).1:Int),((kF k j a n way).1:Int)]
def Cg (l:List Nat):List Int:=l.map fun x:Nat=>(x:Int)
def nX (a n:Int):Nat:=if cD a n=a/16 then 1 else 2
theorem Bf (k:aT) (j:Nat) (a n way:Int):bf k j a n way=((bf k j a n way).1,qT k j a n way (nX a n))/\Cg (bf k j a n way).1=qq k j a n way (nX a n)/\(bf k j a n way).1.length=nX a n:=by
 unfold bf nX;by_cases c:cD a n=a/16
 · rw[aC c,aC c];exact⟨rfl,rfl,rfl⟩
 · rw[aA c,aA c];exact⟨rfl,rfl,rfl⟩
theorem akO (k:aT) (j:Nat) (a n way:Int):qT k j a n way 0=k:=rfl
theorem af0 (k:aT) (j:Nat) (a n way:Int):qT k j a n way 1=(dN k j (a/16) way []).2:=by rfl
theorem akN (k:aT) (j:Nat) (a n way:Int):qT k j a n way 2=(dN (dN k j (a/16) way []).2 j (cD a n) way [((dN k j (a/16) way []).1:Int)]).2:=by rfl
theorem akQ (k:aT) (j:Nat) (a n way:Int):qq k j a n way 0=[]:=rfl
theorem af1 (k:aT) (j:Nat) (a n way:Int):qq k j a n way 1=[((dN k j (a/16) way []).1:Int)]:=by rfl
theorem akP (k:aT) (j:Nat) (a n way:Int):qq k j a n way 2=[((dN k j (a/16) way []).1:Int)]++[((dN (dN k j (a/16) way []).2 j (cD a n) way [((dN k j (a/16) way []).1:Int)]).1:Int)]:=by rfl
theorem ajt.local {S S':gI} {w w2 w3:World} {D:Nat->Prop} (h:cM S w S' w2) (k:aD D w2 w3) (hd:∀b,D b->w.heap.size<=b):cM S w S' w3:=⟨⟨k.os.trans h.kp.os,k.tape.trans h.kp.tape,k.output.trans h.kp.output,gY h.kp.size k.size,fun b hb hn=>(k.block b (fL hb h.kp.size) (fun g=>by grind)).trans (h.kp.block b hb hn)⟩,h.no,h.eS,h.eF,h.eL,h.eP⟩
theorem Ug (k:aT) (j:Nat) (a n way:Int) (m:Nat) (hm:m<=2):(qq k j a n way m).length=m:=by
 rcases(show m=0∨m=1∨m=2 by omega) with rfl | rfl | rfl <;> rfl
theorem Il {lo mb:Nat} {tt:TypeId} {X:List Value} (k:aT) (S:gI) (w:World) (j:Nat) (a n way:Int) (h:bK lo mb tt X w S k) (hR:aZ k) (hj:j<k.aj.length) (ha:cO a) (hn:1<=n/\n<=8) (hf:(bR (ak k.aj j).aU a n way).1=0) (hX:KH X k.aM) :
  Calls Tryz.prog 272 #[.pointer (some (Ad mb 0)),I (j:Int),I a,I n,I way] w fun e w'=>∃av cv S',e=.returned (.tuple #[.slice av (bf k j a n way).1.length cv,.agg #[I 0,I 0]])/\nj w' S' av (Cg (bf k j a n way).1)/\bK lo mb tt X w' S' (bf k j a n way).2/\cM S w S' w':=by
 have hcc:=hR.c;obtain⟨hf0,hal,hau,hmap⟩:=rR hn.1 hn.2 hf;have nJ:ez k j (a/16):=by
  have:=hmap 0 (by omega) (by omega);rw[Dj] at this;exact this
 have hm2:ez k j (cD a n):=by
  have:=hmap (n-1) (by omega) (by omega);unfold cD;rw[show a+n-1=a+(n-1) by omega];exact this
 have hlast:cD a n=a/16+((nX a n:Nat):Int)-1:=by
  unfold nX
  grind [Mv]
 have hp2:nX a n=1∨nX a n=2:=by unfold nX;grind
 have A1:=(qW hR hj nJ way (held:=[]) (by simp)).1;obtain⟨hr1,hr2,hr3⟩:=Bf k j a n way;have hpw:∀m,m<nX a n->aZ (qT k j a n way m)/\j<(qT k j a n way m).aj.length/\ez (qT k j a n way m) j (a/16+(m:Int))/\(qT k j a n way m).aM=k.aM/\(dN (qT k j a n way m) j (a/16+(m:Int)) way (qq k j a n way m)).2=qT k j a n way (m+1)/\qq k j a n way (m+1)=qq k j a n way m++[((dN (qT k j a n way m) j (a/16+(m:Int)) way (qq k j a n way m)).1:Int)]:=fun m hm=>by
  rcases(show m=0∨(m=1/\nX a n=2) by omega) with rfl | ⟨rfl,h2⟩
  · grind [akO,akQ,af0,af1]
  grind [af0,af1,akN,akP,fR.right,fR.kept,fM.mapped,fM.aM,fM.np]
 have HBR:Hid (∀V S' m av nv cv,m<nX a n->nv=m->bK lo mb tt X V S' (qT k j a n way m)->nj V S' av (qq k j a n way m)->Calls Tryz.prog 284 #[.pointer (some (Ad mb 0)),I (j:Int),I (a/16+(m:Int)),I way,.slice av nv cv] V fun e w'=>∃i:Nat,e=.returned (I (i:Int))/\qq k j a n way (m+1)=qq k j a n way m++[(i:Int)]/\∃S2,bK lo mb tt X w' S2 (qT k j a n way (m+1))/\cM S' V S2 w'):=fun V S' m av nv cv hm hnv hV hh=>by
  obtain⟨q1,q2,q3,q4,q5,q6⟩:=hpw m hm;have hil:=Ug k j a n way m (by omega);have:=VP (qT k j a n way m) S' V j (a/16+(m:Int)) way (qq k j a n way m) av cv hV q1 q2 q3 (by grind) (by omega) hh;rw[hil] at this;subst hnv;refine this.mono fun e w' ⟨g1,S2,g2,g3⟩=>⟨_,g1,q6,S2,q5 ▸ g2,g3⟩
 have dz:Hid (∀V S' av nv cv,nv=nX a n->nj V S' av (qq k j a n way (nX a n))->bK lo mb tt X V S' (qT k j a n way (nX a n))->cM S w S' V->(∃av' cv' S'',Ending.returned (.tuple #[.slice av nv cv,.agg #[I 0,I 0]])=.returned (.tuple #[.slice av' (bf k j a n way).1.length cv',.agg #[I 0,I 0]])/\nj V S'' av' (Cg (bf k j a n way).1)/\bK lo mb tt X V S'' (bf k j a n way).2/\cM S w S'' V)):=fun V S' av nv cv e1 g1 g2 g3=>by
  have e2:(bf k j a n way).2=qT k j a n way (nX a n):=dI Prod.snd hr1;exact⟨av,cv,S',by grind,by grind,by grind,g3⟩
 obtain⟨P,hP⟩:∃P:Ending->World->Prop,P=fun e w'=>∃av cv S',e=.returned (.tuple #[.slice av (bf k j a n way).1.length cv,.agg #[I 0,I 0]])/\nj w' S' av (Cg (bf k j a n way).1)/\bK lo mb tt X w' S' (bf k j a n way).2/\cM S w S' w':=⟨_,rfl⟩
 have Ay:Hid (∀V S' av nv cv,nv=nX a n->nj V S' av (qq k j a n way (nX a n))->bK lo mb tt X V S' (qT k j a n way (nX a n))->cM S w S' V->P (.returned (.tuple #[.slice av nv cv,.agg #[I 0,I 0]])) V):=fun V S' av nv cv e1 g1 g2 g3=>by grind
 rw[<- hP];obtain⟨pb,cP,A⟩:=h.toKr.sp (by omega);have c3:=h.c3;rw[A.v] at c3;have a1:=A.x1 j hj;have hfit:dO (ak k.aj j).aU:=lK _ (hR.sp hj).aU;have E7:=ai (fun V (hb:Below w.heap.size w V)=>UE _ _ a n way V (fZ.below (h.toKr.aU hj) hb) hfit ha (by omega));rw[hf0] at E7;obtain⟨ax,cx,Ja,_,_⟩:=bj (h.each j hj).aU;rw[Ja] at E7 a1;have hji:(j:Int)<(k.aj.length:Int):=by omega
 have MV:=h.lt;have hpl:=A.lt;unfold gU at E7;simp only at E7;have gK:=ai ((aK w.heap.size w).alloc (aI _) (.cells #[I 0,I 0] 75));have R0:=ai (bE w #[I 0,I 0] 75);have d3:=(gK.o.cell (p:=(Ad mb 3)) MV).trans c3;have d1:=(gK.o.cell (p:=(Ad pb (j*3+1))) hpl).trans a1;obtain⟨np,AA⟩:=ex k.aj.length;rw[<- AA] at d3 hji;obtain⟨na,rz⟩:=ex ((ak k.aj j).aU.length);rw[<- rz] at d1 E7;have n0:Hid (S.lab w.heap.size=.no):=h.toKr.new (aI _);have HKM:=ai h;have hlq:(a+n-1)/16=a/16+((nX a n:Nat):Int)-1:=hlast;have HIL:=ai (Ug k j a n way);obtain⟨PG,hPG⟩:=ex (nX a n);rw[<- hPG] at HBR Ay hp2 hlq;have ha0:0<=a:=by omega
 have han:0<=a+n-1:=by omega
 have hw1:IntKind.i64.wrap (a+n)=a+n:=vI _ (by omega);have hw2:IntKind.i64.wrap (a+n-1)=a+n-1:=vI _ (by omega);obtain⟨i0,hin,hz0,hz1,hz2⟩:=ju MK;have Eo:=ai hin;have Hu:=ai hz0;have Gf:=ai hz1;have yV:=ai hz2;have aqG:a/16<=256:=by omega
 have hap:0<=a/16:=by omega
 obtain⟨Q,hQ⟩:=ex (a/16);have HQ:=ai hQ;rw[<- hQ] at HBR hlq aqG hap;have hqa:a.tdiv 16=Q:=by rw[hQ];exact Pt ha0
 have hqb:(a+n-1).tdiv 16=Q+(PG:Int)-1:=by rw[<- hlq];exact Pt han
 clear h hR hj A c3 a1 hfit Ja hf0 hcc AA rz ha hmap nJ hm2 hlast A1 hr1 hr2 hr3 hpw dz hP hPG hX hf hal hau ha0 han hQ hin hz0 hz1 hz2 hlq;go_enter Tryz.func272,Tryz.ntmps272;go_wp2_with (go_at_call 283;refine(E7.o _ gK.o).mono ?_;rintro e w1 ⟨rfl,hb1⟩;have cN:=ai (bX gK.o hb1);have R1:=ai (aO R0.o hb1 (aJ R0.o));have FX:=ai (bE w1 #[I 0,I 0] 75);obtain⟨y0,y1⟩:=rq FX.o;clear hb1)
 have jV:=ai (cN.o.alloc cN.o.size (.cells #[I 0,I 0] 75));have R2:=ai (br R1.o (.cells #[I 0,I 0] 75));obtain⟨W,hW⟩:=ex (w1.alloc (.cells #[I 0,I 0] 75));rw[<- hW] at jV R2 y0 y1 ⊢;clear hW y0 y1 FX R1 cN;go_loopw [13,14] (fun fv pv wr=>∃(m:Nat) (S':gI) (av:Option Addr) (cv:Nat),m<=PG/\pv=I (Q+(m:Int))/\fv=.slice av m cv/\wr.ownsRow W.heap.size 3 1 (.slice av m cv) m ((qq k j a n way m).flatMap iE)/\(∀b,bZ (.slice av m cv) b->S'.lab b=.no)/\bK lo mb tt X wr S' (qT k j a n way m)/\cM S W S' wr) (fun _ pv _=>(Q+(PG:Int)-intOf pv).toNat)
 case atStart=>exact⟨0,S,none,0,by omega,by simp,rfl,mE _ _ _ _,fun b hb=>(by cases hb),HKM.o.below jV.o,cM.refl _ _⟩
 case round =>
  obtain⟨m,S',av,cv,hm,rfl,rfl,hrow,hno,rN,hch⟩:=hrel;have Wy:=ai hrow;have uZ:=ai hno;have JL:=ai hch;by_cases hlt:m<PG
  · have hle:Q+(m:Int)<=Q+(PG:Int)-1:=by omega
    have hil:=HIL.o m (by omega);have hrow2:=hrow;rw[<- hil] at hrow2;have zK:=(FC (S:=S') (n:=m) (l:=qq k j a n way m) (by rw[hil];omega) hno).2;have asa:=ai (HBR.o wr S' m av m cv hlt rfl rN zK);clear hrow hno rN hch hrow2 zK hil HKM;go_wp2_with (first
     | (at_builtin;refine fB (P:=Tryz.prog) rfl _ _ 48 rfl W.heap.size 3 i0 (I 0) 1 8 Tryz.underlying48 Eo.o Hu.o Gf.o yV.o rfl (by decide) (.slice av m cv) m ((qq k j a n way m).flatMap iE) rfl Hx.o (some (Ad w2.heap.size 0)) 1 1 [I (i:Int)] rfl rfl (fun _=>⟨_,rfl,GJ (bE w2 _ _)⟩) (by intro u hu;simp at hu;rw[hu];rfl) (by unfold maxLen;omega) (by omega) (by have:=yP.o.kp.size;simp;omega) ?_;intro v' w' hown hgr hat;obtain⟨aG,cG,hvG,_,_⟩:=bj hown;subst hvG;have HO3:=ai hown;have HG3:=ai hgr;have Cu:=ai hat;clear hown hgr hat)
     | (go_at_call 284;refine asa.o.mono ?_;rintro e w2 ⟨i,rfl,hid,S2,hk2,hc2⟩;have HID:=ai hid;have pU:=ai hk2;have yP:=ai (JL.o.trans hc2);have HO1:=ai (hc2.kp.row Wy.o (fun b hb z=>z (uZ.o b hb)));have Tx:=ai (fun b (hb:bZ (.slice av m cv) b)=>hc2.no b (Wy.o.lt b hb).2 (uZ.o b hb));have Hx:=ai (HO1.o.alloc (.cells #[I (i:Int)] 3));clear hid hk2 hc2))
    go_roundw
    case rel =>
     have kA:aD (fun b=>bZ (.slice av m cv) b) w2 (w2.alloc (.cells #[I (i:Int)] 3)):=aD.alloc _ _ _;have kB:=kA.trans (aD.grown (D:=fun b=>bZ (.slice av m cv) b) HG3.o (fun q hq=>hq)) (fun _ _ g=>g);have hlab:∀b,bZ (.slice aG (m+1) cG) b->S2.lab b=.no:=fun b hb=>by
      rcases Cu.o with g | g
      · exact Tx.o b (by show Value.ownBlock _=_;rw[<- g];exact hb)
      · have hb:Value.ownBlock _=some b:=hb;rw[g] at hb;injection hb with hb;rw[fF] at hb;exact pU.o.toKr.new (by omega)
     refine⟨m+1,S2,aG,cG,by omega,by go_num,rfl,?_,hlab,?_,?_⟩
     · rw[HID.o,xN];have e:[(i:Int)].flatMap iE=[I (i:Int)]:=rfl;rw[e];exact HO3.o
     · exact pU.o.kp kB (fun b hb g=>hb (Tx.o b g))
     · exact ajt.local yP.o kB (fun b g=>(HO1.o.lt b g).1)
    case measure=>simp[intOf];omega
  · obtain rfl:m=PG:=by omega
    have hgt:¬Q+(m:Int)<=Q+(m:Int)-1:=by omega
    have hil:=HIL.o m (by omega);have zK:=(FC (S:=S') (n:=m) (l:=qq k j a n way m) (by rw[hil];omega) hno).2;have HHE:=ai zK;have HKE:=ai rN;have RW:=ai (hch.keep R2.o n0.out);obtain⟨y0,y1⟩:=rq RW.o;have q0:=aR RW.o 0;have q1:=aR RW.o 1;have HCW:=ai ((cM.below jV.o).trans hch);have hnl:S'.lab w.heap.size=.no:=hch.no _ (aJ R2.o) n0.out;have HKF:Hid (∀V,V=(wr.setCell (Ad w.heap.size 0) (I 0)).setCell (Ad w.heap.size 1) (I 0)->nj V S' av (qq k j a n way m)/\bK lo mb tt X V S' (qT k j a n way m)/\cM S w S' V/\V.heap[w.heap.size]?=some (.cells #[I 0,I 0] 75 (0,0))):=fun V hV=>by
     have kp:aD (fun b=>b=w.heap.size) wr V:=by rw[hV];exact(aD.set (fun b=>b=w.heap.size) wr (Ad w.heap.size 0) _ rfl).trans (aD.set (fun b=>b=w.heap.size) _ (Ad w.heap.size 1) _ rfl) (fun _ _ g=>g)
     refine⟨⟨Uh.kp HHE.o.has kp (fun b off e z=>?_),HHE.o.no,fun b off e=>fL (HHE.o.lt b off e) kp.size⟩,HKE.o.kp kp (fun b hb z=>hb (by rw[z];exact hnl)),ajt.local HCW.o kp (fun b z=>by omega),by rw[hV];exact fh (fh RW.o 0 _) 1 _⟩;have:W.heap.size<=b:=by
      subst e;rcases Wy.o.2 with⟨h0,_⟩ | ⟨g,cap',cur,hv,hbs,_⟩
      · cases h0
      · injection hv with e1 _ _;injection e1 with e1;injection e1 with e1 _ _;omega
     have:=aJ R2.o;omega
    have HX2:=ai (fun V (hV:V=(wr.setCell (Ad w.heap.size 0) (I 0)).setCell (Ad w.heap.size 1) (I 0))=>Ay.o V S' av m cv rfl (HKF.o V hV).1 (HKF.o V hV).2.1 (HKF.o V hV).2.2.1);clear hrow hno rN hch zK hil HKM HHE HKE HCW hnl HBR;go_wp2;obtain⟨v0,v1⟩:=rq (HKF.o _ rfl).2.2.2;refine bO (v:=.tuple #[.slice av m cv,.agg #[I 0,I 0]]) (by simp[results,Tryz.results272,go_sem,v0,v1]) rfl ?_;exact HX2.o _ rfl
open Go.RowKit
structure Fx (k:aT):Prop where
 aM:k.aM.length<=1000000
 dZ:∀i,i<k.aM.length->(bl k.aM i).dZ.length<=1000000
 frames:k.frames.length<=1000000
 slots:k.slots.length<=1000000
 aj:k.aj.length<=1000000
 aU:∀i,i<k.aj.length->(ak k.aj i).aU.length<=1000000
 bc:∀i,i<k.aj.length->(ak k.aj i).bc.length<=1000000
def VK (w:World) (k:aT) (e:Ending) (w':World):Prop:=∃S hs,cC k.aM hs/\e=.returned (.agg #[S.vS,S.vF,S.vL,S.vP,I k.hand])/\Kr w.heap.size w' S (aV k hs)/\Below w.heap.size w w'
open Go.RowKit
def rG:Prop:=∀(k:aT) (a:jc) (w:World),jd w a k->Fx k->Calls Tryz.prog 79 #[.agg (bg a k)] w (VK w k)
def ij (k:aT):List Value:=qU (l8 k.aM k.aM.length) 256
theorem Ng {k:aT} (hr:gX k.aM=true) {hs:List bJ} (h:cC k.aM hs):KH (ij k) hs:=fun n hn=>by
 grind [ij,FH,FI,FT]
theorem Ij {hs:List bJ} (h:gX hs=true) (i:Nat) (hi:i<hs.length):(bl hs i).dZ.length<=16:=by
 have all:∀n,jZ hs n=true->∀i,i<n->di (bl hs i)=true:=fun n=>by
  induction n with
  | zero=>omega
  | succ n ih =>
   grind [jZ]
 have hb:=all hs.length h i hi;unfold di at hb;rw[eQ] at hb;have:=sQ _ _ hb.2;omega
theorem sS {k:aT} (hR:aZ k) (hF:nu k):Fx k:=by
 have hc:=hR.c;refine⟨by omega,fun i hi=>?_,by omega,by omega,by omega,fun i hi=>?_,fun i hi=>by grind [og]⟩
 · grind [Ij,aZ.mr]
 · have:=oq _ (hR.sp hi).aU;omega
theorem afZ {lo mb:Nat} {w' V:World} {S:gI} {k:aT} {hs:List bJ} {k0:aT} {a:jc} (hr:Kr lo w' S (aV k hs)) (hm:w'.heap[mb]?=some (.cells (nk a k0) 158 (0,0))) (hlb:lo<=mb) (hno:S.lab mb=.no) (ht:ij k0=ij k)
  (hV:V=((((w'.setCell (Ad mb 0) S.vS).setCell (Ad mb 1) S.vF).setCell (Ad mb 2) S.vL).setCell (Ad mb 3) S.vP).setCell (Ad mb 4) (I k.hand)) :
  bK lo mb 158 (ij k) V ⟨fun b=>if b=mb then .head else S.lab b,S.vS,S.vF,S.vL,S.vP,S.L⟩ (aV k hs):=by
 have kp:aD (fun b=>b=mb) w' V:=by
  rw[hV];exact((((aD.set (fun b=>b=mb) w' (Ad mb 0) _ rfl).trans (aD.set (fun b=>b=mb) _ (Ad mb 1) _ rfl) (fun _ _ g=>g)).trans (aD.set (fun b=>b=mb) _ (Ad mb 2) _ rfl) (fun _ _ g=>g)).trans (aD.set (fun b=>b=mb) _ (Ad mb 3) _ rfl) (fun _ _ g=>g)).trans (aD.set (fun b=>b=mb) _ (Ad mb 4) _ rfl) (fun _ _ g=>g)
 have r1:=hr.kp kp (fun b hb e=>hb (by grind));have lb:∀b c,S.lab b=c->c≠.no->(if b=mb then oY.head else S.lab b)=c:=fun b c e hc=>by
  grind
 refine⟨⟨fun b hb=>?_,r1.aM,r1.dZ,r1.frames,r1.slots,r1.aj,r1.len,r1.each,fun b hb=>lb b _ (r1.lS b hb) (by simp),fun i hi b hb=>lb b _ (r1.lX i hi b hb) (by simp),fun b hb=>lb b _ (r1.lF b hb) (by simp),fun b hb=>lb b _ (r1.lL b hb) (by simp),fun b hb=>lb b _ (r1.lP b hb) (by simp),fun i hi b hb=>lb b _ (r1.lA i hi b hb) (by simp),fun i hi b hb=>lb b _ (r1.lE i hi b hb) (by simp)⟩,?_,aC rfl⟩
 · by_cases c:b=mb
   · simp_all [aJ]
   · have hb:(if b=mb then oY.head else S.lab b)≠.no:=hb;rw[aA c] at hb;exact r1.yJ b hb
 · rw[hV,fh (fh (fh (fh (fh hm 0 S.vS) 1 S.vF) 2 S.vL) 3 S.vP) 4 (I k.hand)];unfold nk mG;rw[<- ht];congr 2
theorem DK (E8:rG) (k:aT) (a:jc) (mb:Nat) (w:World) (hK:jd w a k) (hsm:Fx k) (hm:w.heap[mb]?=some (.cells (nk a k) 158 (0,0))) (lo:Nat) (hlo:lo<=mb) :
  Calls Tryz.prog 267 #[.pointer (some (Ad mb 0))] w fun e w'=>e=.returned (.tuple #[])/\∃S hs,cC k.aM hs/\bK lo mb 158 (ij k) w' S (aV k hs)/\(∀b,S.lab b≠.no->b=mb∨w.heap.size<=b)/\aD (fun b=>b=mb) w w':=by
 have HCP:=ai (E8 k a w hK hsm);have MV:=aJ hm;have HM:=ai hm;have dz:Hid (∀w1 S hs V,cC k.aM hs->Kr w.heap.size w1 S (aV k hs)->Below w.heap.size w w1->V=((((w1.setCell (Ad mb 0) S.vS).setCell (Ad mb 1) S.vF).setCell (Ad mb 2) S.vL).setCell (Ad mb 3) S.vP).setCell (Ad mb 4) (I k.hand)->∃S hs,cC k.aM hs/\bK lo mb 158 (ij k) V S (aV k hs)/\(∀b,S.lab b≠.no->b=mb∨w.heap.size<=b)/\aD (fun b=>b=mb) w V):=fun w1 S hs V h1 h2 h3 h4=>by
  have nJ:=aO HM.o h3 MV;have hno:S.lab mb=.no:=y7.1 fun x=>by grind [Kr.yJ]
  have r1:Kr lo w1 S (aV k hs):=h2.mono (by omega);have m:=afZ r1 nJ hlo hno rfl h4;refine⟨_,hs,h1,m,fun b hb=>?_,?_⟩
  · by_cases c:b=mb
    · omega
    · have hb:(if b=mb then oY.head else S.lab b)≠.no:=hb;rw[aA c] at hb;exact .inr (h2.yJ b hb).1
  · have kp:aD (fun b=>b=mb) w1 V:=by
     rw[h4];exact((((aD.set (fun b=>b=mb) w1 (Ad mb 0) _ rfl).trans (aD.set (fun b=>b=mb) _ (Ad mb 1) _ rfl) (fun _ _ g=>g)).trans (aD.set (fun b=>b=mb) _ (Ad mb 2) _ rfl) (fun _ _ g=>g)).trans (aD.set (fun b=>b=mb) _ (Ad mb 3) _ rfl) (fun _ _ g=>g)).trans (aD.set (fun b=>b=mb) _ (Ad mb 4) _ rfl) (fun _ _ g=>g)
    exact(aD.b9 h3).trans kp (fun _ _ g=>g)
 have anQ:Hid (Calls Tryz.prog 79 #[.agg (bg a k)] w fun e w'=>∃S hs aS nS cS aF nF cF aL nL cL aP nP cP,S.vS=.slice aS nS cS/\S.vF=.slice aF nF cF/\S.vL=.slice aL nL cL/\S.vP=.slice aP nP cP/\cC k.aM hs/\e=.returned (.agg #[.slice aS nS cS,.slice aF nF cF,.slice aL nL cL,.slice aP nP cP,I k.hand])/\Kr w.heap.size w' S (aV k hs)/\Below w.heap.size w w'):=HCP.o.mono fun e w' ⟨S,hs,h1,h2,h3,h4⟩=>by
  obtain⟨aS,cS,eS,_⟩:=bj h3.aM;obtain⟨aF,cF,eF,_⟩:=bj h3.frames;obtain⟨aL,cL,eL,_⟩:=bj h3.slots;obtain⟨aP,cP,eP,_⟩:=bj h3.aj
  grind
 have c0:w.cell? (Ad mb 0)=some (.slice a.aS k.aM.length a.cS):=au hm 0 rfl;have c1:w.cell? (Ad mb 1)=some (.slice a.aF k.frames.length a.cF):=au hm 1 rfl;have c2:w.cell? (Ad mb 2)=some (.slice a.aL k.slots.length a.cL):=au hm 2 rfl;have c3:w.cell? (Ad mb 3)=some (.slice a.aP k.aj.length a.cP):=au hm 3 rfl;have c4:w.cell? (Ad mb 4)=some (I k.hand):=au hm 4 rfl;have HCM:Hid (∀V,Below w.heap.size w V->(V.cell? (Ad mb 0)=some (.slice a.aS k.aM.length a.cS)/\V.cell? (Ad mb 1)=some (.slice a.aF k.frames.length a.cF)/\V.cell? (Ad mb 2)=some (.slice a.aL k.slots.length a.cL)/\V.cell? (Ad mb 3)=some (.slice a.aP k.aj.length a.cP)/\V.cell? (Ad mb 4)=some (I k.hand))/\V.frozen? (Ad mb 0)=false/\V.frozen? (Ad mb 1)=false/\V.frozen? (Ad mb 2)=false/\V.frozen? (Ad mb 3)=false/\V.frozen? (Ad mb 4)=false):=fun V hb=>by
  have h1:=aO HM.o hb MV;exact⟨⟨au h1 0 rfl,au h1 1 rfl,au h1 2 rfl,au h1 3 rfl,au h1 4 rfl⟩,aR h1 0,aR h1 1,aR h1 2,aR h1 3,aR h1 4⟩
 unfold bg at anQ;clear hm hK hsm HCP;go_enter Tryz.func267,Tryz.ntmps267;go_wp2_with (go_at_call 79;refine anQ.o.mono ?_;rintro e w1 ⟨S,hs,aS,nS,cS,aF,nF,cF,aL,nL,cL,aP,nP,cP,eS,eF,eL,eP,hsame,rfl,hkr,hb1⟩;have Uz:=ai (fun V=>dz.o w1 S hs V hsame hkr hb1);rw[eS,eF,eL,eP] at Uz;obtain⟨⟨y0,y1,y2,y3,y4⟩,f0,f1,f2,f3,f4⟩:=HCM.o w1 hb1;clear hsame hkr hb1 eS eF eL eP)
 refine vE (v:=.tuple #[]) (by simp[results,Tryz.results267,go_sem]) rfl ?_;exact⟨rfl,Uz.o _ rfl⟩
open Go.RowKit
def iZ (k:aT) (sp size way:Int) (ways:List Int):Int:=if fI k sp≠0 then fI k sp else if ¬(1<=size/\size<=8) then 3 else if way∈ways then 0 else 10
def Mq (w:World) (k:aT) (e:Ending) (w':World):Prop:=∃mb S hs,e=.returned (.tuple #[.pointer (some (Ad mb 0)),I 0])/\cC k.aM hs/\bK w.heap.size mb 158 (ij k) w' S (aV k hs)/\Below w.heap.size w w'
theorem Bb {w:World} {a:jc} {k:aT} {sp:Int} (h:Calls Tryz.prog 76 #[.agg (bg a k),I sp] w (xj w a k (fI k sp))) (hc:fI k sp≠0):Calls Tryz.prog 76 #[.agg (bg a k),I sp] w fun e w'=>e=.returned (.tuple #[.pointer none,I (fI k sp)])/\Below w.heap.size w w':=h.mono fun e w' ⟨hb,hh⟩=>by
 grind
theorem QC {w:World} {a:jc} {k:aT} {sp:Int} (h:Calls Tryz.prog 76 #[.agg (bg a k),I sp] w (xj w a k (fI k sp))) (hc:fI k sp=0):Calls Tryz.prog 76 #[.agg (bg a k),I sp] w fun e w'=>∃mb,e=.returned (.tuple #[.pointer (some (Ad mb 0)),I 0])/\w.heap.size<=mb/\w'.heap[mb]?=some (.cells (nk a k) 158 (0,0))/\Below w.heap.size w w':=h.mono fun e w' ⟨hb,hh⟩=>by
 grind
theorem rQ {k:aT} {sp:Int} (h:fI k sp=0):aZ k/\0<=sp/\sp.toNat<k.aj.length/\(ak k.aj sp.toNat).live=true:=by
 grind [fI,wC]
theorem Fw (k:aT) (a:jc) (sp size way:Int) (ways:List Int) (aw:Option Addr) (cw:Nat) (w:World) (hK:jd w a k) (hF:nu k) (hsp:cO sp) (hw:dW iE 1 0 w aw ways) (hwl:ways.length<=1000000) (hc:iZ k sp size way ways≠0) :
  Calls Tryz.prog 271 #[.agg (bg a k),I sp,I size,I way,.slice aw ways.length cw] w fun e w'=>e=.returned (.tuple #[.pointer none,I (iZ k sp size way ways)])/\Below w.heap.size w w':=by
 have Ax:=ai (fun V (hV:Below w.heap.size w V)=>yr k a sp V (hK.below hV) hF hsp);have HCT:=ai (fun V (hV:Below w.heap.size w V)=>xh ways way aw cw V (hw.below hV) hwl);have gK:=ai ((aK w.heap.size w).alloc (aI _) (.cells (bg a k) 30));have KB:=ai (bE w (bg a k) 30);obtain⟨C,hC⟩:=ex (iZ k sp size way ways);rw[<- hC] at hc ⊢;obtain⟨P,hP⟩:∃P:Ending->World->Prop,P=fun e w'=>e=.returned (.tuple #[.pointer none,I C])/\Below w.heap.size w w':=⟨_,rfl⟩
 have HE:Hid (∀V,Below w.heap.size w V->P (.returned (.tuple #[.pointer none,I C])) V):=fun V hV=>by grind
 rw[<- hP];clear hP;unfold iZ at hC;by_cases c1:fI k sp=0
 · rw[aA (fun x=>x c1)] at hC;have Hx:=ai (fun V hV=>QC (Ax.o V hV) c1);by_cases c2:1<=size/\size<=8
   · rw[aA (fun x=>x c2)] at hC;have c3:way∉ways:=fun x=>by grind
     rw[aA c3] at hC;subst hC;rw[jl c3] at HCT;obtain⟨g1,g2⟩:=c2;clear Ax c1 c3 hK hF hsp hw hc;unfold bg at Hx gK KB ⊢;go_enter Tryz.func271,Tryz.ntmps271;go_wp2_with (first
      | (go_at_call 76;refine(Hx.o _ gK.o).mono ?_;rintro e w1 ⟨mb,rfl,nJ,hm2,hb1⟩;have cN:=ai (bX gK.o hb1);clear hb1 hm2)
      | (go_at_call 282;refine(HCT.o _ cN.o).mono ?_;rintro e w2 ⟨rfl,rfl⟩))
     exact HE.o _ cN.o
   · rw[aC c2] at hC;subst hC;clear Ax HCT c1 hK hF hsp hw hc;unfold bg at Hx gK KB ⊢;rcases(show size<1∨(1<=size/\8<size) by omega) with g | ⟨g1,g2⟩
     · go_enter Tryz.func271,Tryz.ntmps271;go_wp2_with (go_at_call 76;refine(Hx.o _ gK.o).mono ?_;rintro e w1 ⟨mb,rfl,nJ,hm2,hb1⟩;have cN:=ai (bX gK.o hb1);clear hb1 hm2)
       exact HE.o _ cN.o
     · have g3:¬size<1:=by omega
       go_enter Tryz.func271,Tryz.ntmps271;go_wp2_with (go_at_call 76;refine(Hx.o _ gK.o).mono ?_;rintro e w1 ⟨mb,rfl,nJ,hm2,hb1⟩;have cN:=ai (bX gK.o hb1);clear hb1 hm2)
       exact HE.o _ cN.o
 · rw[aC c1] at hC;have Hx:=ai (fun V hV=>Bb (Ax.o V hV) c1);rw[<- hC] at Hx;have cb:(C != 0)=true:=by grind
   clear Ax HCT c1 hK hF hsp hw hc hC;unfold bg at Hx gK KB ⊢;go_enter Tryz.func271,Tryz.ntmps271;go_wp2_with (go_at_call 76;refine(Hx.o _ gK.o).mono ?_;rintro e w1 ⟨rfl,hb1⟩;have cN:=ai (bX gK.o hb1);clear hb1)
   exact HE.o _ cN.o
theorem Ik (E8:rG) (k:aT) (a:jc) (sp size way:Int) (ways:List Int) (aw:Option Addr) (cw:Nat) (w:World) (hK:jd w a k) (hF:nu k) (hsp:cO sp) (hw:dW iE 1 0 w aw ways) (hwl:ways.length<=1000000) (hc:iZ k sp size way ways=0) :
  Calls Tryz.prog 271 #[.agg (bg a k),I sp,I size,I way,.slice aw ways.length cw] w (Mq w k):=by
 have c1:fI k sp=0:=by
  grind [iZ]
 have c2:1<=size/\size<=8:=by
  grind [iZ]
 have c3:way∈ways:=by
  grind [iZ]
 have hR:=(rQ c1).1;have hsm:=sS hR hF;have Hx:=ai (fun V (hV:Below w.heap.size w V)=>QC (yr k a sp V (hK.below hV) hF hsp) c1);have HCT:=ai (fun V (hV:Below w.heap.size w V)=>xh ways way aw cw V (hw.below hV) hwl);rw[gZ c3] at HCT;have gK:=ai ((aK w.heap.size w).alloc (aI _) (.cells (bg a k) 30));have HOW:Hid (∀V mb,Below w.heap.size w V->w.heap.size<=mb->V.heap[mb]?=some (.cells (nk a k) 158 (0,0))->Calls Tryz.prog 267 #[.pointer (some (Ad mb 0))] V fun e w'=>e=.returned (.tuple #[])/\Mq w k (.returned (.tuple #[.pointer (some (Ad mb 0)),I 0])) w'):=fun V mb hV nJ hm2=>(DK E8 k a mb V (hK.below hV) hsm hm2 w.heap.size nJ).mono fun e w' ⟨h1,S,hs,h2,h3,h4,h5⟩=>⟨h1,mb,S,hs,rfl,h2,h3,aD.below hV h5 hV.size (fun b e=>by omega)⟩
 obtain⟨P,hP⟩:=ex (Mq w k);rw[<- hP] at HOW ⊢;obtain⟨g1,g2⟩:=c2;clear c1 c3 hK hF hsp hw hc hR hsm hP;unfold bg at Hx gK ⊢;go_enter Tryz.func271,Tryz.ntmps271;go_wp2_with (first
  | (go_at_call 76;refine(Hx.o _ gK.o).mono ?_;rintro e w1 ⟨mb,rfl,nJ,hm2,hb1⟩;have cN:=ai (bX gK.o hb1);have Jv:=ai hm2;have Sg:Hid (w.heap.size<=mb):=(by simp at nJ;grind);clear hb1 hm2 nJ)
  | (go_at_call 282;refine(HCT.o _ cN.o).mono ?_;rintro e w2 ⟨rfl,rfl⟩)
  | (go_at_call 267;refine(HOW.o _ _ cN.o Sg.o Jv.o).mono ?_;rintro e w3 ⟨rfl,hq⟩;have HQ:=ai hq;clear hq))
 exact HQ.o
open Go.RowKit
def eG:aT:=⟨[],[],[],[],0⟩
def afW:gI:=⟨fun _=>.no,Nl,Nl,Nl,Nl,[]⟩
def cA (w:World) (k:aT) (vs:List Value) (e:Ending) (w':World):Prop:=∃S hs,cC k.aM hs/\e=.returned (.tuple (Value.agg #[S.vS,S.vF,S.vL,S.vP,I k.hand]::vs).toArray)/\Kr w.heap.size w' S (aV k hs)/\Below w.heap.size w w'
theorem abx (lo:Nat) (w:World):Kr lo w afW eG:=by
 refine⟨fun b hb=>absurd rfl hb,mE _ _ _ _,fun i hi=>?_,mE _ _ _ _,mE _ _ _ _,mE _ _ _ _,rfl,fun i hi=>?_,fun b hb=>?_,fun i hi=>?_,fun b hb=>?_,fun b hb=>?_,fun b hb=>?_,fun i hi=>?_,fun i hi=>?_⟩
 all_goals first | cases hb | cases hi
theorem qH {w w':World} (vs:List Value) (hb:Below w.heap.size w w'):cA w eG vs (.returned (.tuple (Value.agg #[Nl,Nl,Nl,Nl,I 0]::vs).toArray)) w':=⟨afW,[],rfl,rfl,abx _ _,hb⟩
theorem KD {k:aT} {sp size way:Int} {ways:List Int} (h:iZ k sp size way ways=0):fI k sp=0/\(1<=size/\size<=8)/\way∈ways:=by
 grind [iZ]
theorem DJ {W:World} {rb fb:Nat} (hr:W.heap[rb]?=some (.cells #[Nl,Nl,Nl,Nl,I 0] 30 (0,0))) (hf:W.heap[fb]?=some (.cells #[I 0,I 0] 75 (0,0))) (hne:rb≠fb) (s f l p h x y:Value) {V:World} (hV:V=((((((W.setCell (Ad rb 0) s).setCell (Ad rb 1) f).setCell (Ad rb 2) l).setCell (Ad rb 3) p).setCell (Ad rb 4) h).setCell (Ad fb 0) x).setCell (Ad fb 1) y) :
  V.heap[rb]?=some (.cells #[s,f,l,p,h] 30 (0,0))/\V.heap[fb]?=some (.cells #[x,y] 75 (0,0))/\aD (fun b=>b=rb∨b=fb) W V:=by
 have h1:(((((W.setCell (Ad rb 0) s).setCell (Ad rb 1) f).setCell (Ad rb 2) l).setCell (Ad rb 3) p).setCell (Ad rb 4) h).heap[rb]?=some (.cells #[s,f,l,p,h] 30 (0,0)):=fh (fh (fh (fh (fh hr 0 s) 1 f) 2 l) 3 p) 4 h;have afq:fb≠rb:=fun e=>hne e.symm
 have h2:=mo (mo (mo (mo (mo hf rb 0 s afq) rb 1 f afq) rb 2 l afq) rb 3 p afq) rb 4 h afq;subst hV;refine⟨mo (mo h1 fb 0 x hne) fb 1 y hne,fh (fh h2 0 x) 1 y,?_⟩;have k:∀(A:World) (g j:Nat) (v:Value),g=rb∨g=fb->aD (fun b=>b=rb∨b=fb) A (A.setCell (Ad g j) v):=fun A g j v hg=>aD.set _ A (Ad g j) v hg
 exact((((((k _ _ _ _ (.inl rfl)).trans (k _ _ _ _ (.inl rfl)) (fun _ _ g=>g)).trans (k _ _ _ _ (.inl rfl)) (fun _ _ g=>g)).trans (k _ _ _ _ (.inl rfl)) (fun _ _ g=>g)).trans (k _ _ _ _ (.inl rfl)) (fun _ _ g=>g)).trans (k _ _ _ _ (.inr rfl)) (fun _ _ g=>g)).trans (k _ _ _ _ (.inr rfl)) (fun _ _ g=>g)
open Go.RowKit
theorem Wo {s:bJ} (h:di s=true):DI s:=by
 unfold di pq at h;rw[eQ,kX] at h;obtain⟨⟨h1,h2,h3⟩,hf⟩:=h;have hl:=sQ _ _ hf;refine⟨⟨by omega,by omega⟩,by unfold cB;omega,by unfold cB;omega,fun k hk=>?_⟩;have all:∀n,fQ s.dZ n=true->∀i,i<n->fQ s.dZ i=true/\zk (rB s.dZ i) (ng s.dZ i)=true:=fun n=>by
  induction n with
  | zero=>intro _ i hi;omega
  | succ n ih =>
   intro hn i hi;simp only[fQ,eQ] at hn;by_cases c:i=n
   · rw[c];exact hn
   · exact ih hn.1 i (by omega)
 obtain⟨g1,g2⟩:=all _ hf k hk;have g3:=sQ _ _ g1;unfold zk at g2;rw[kX] at g2;exact⟨⟨by omega,by omega⟩,by unfold cB;omega⟩
theorem Tj {hs:List bJ} (h:gX hs=true) (hl:hs.length<=255):rD hs:=⟨by unfold cB;omega,fun k hk=>Wo (qR hs hs.length h k hk).1⟩
theorem oc {k:aT} (h:aZ k):nu k:=by
 have hc:=h.c;obtain⟨r1,r2⟩:=yq h;have hh:=h.hand;refine⟨Tj h.mr (by omega),by unfold cB;omega,fun i hi=>⟨?_,?_⟩,by unfold cB;omega,fun i hi=>⟨?_,?_⟩,by unfold cB;omega,fun i hi=>⟨?_,?_,fun n hn=>?_⟩,⟨by omega,by omega⟩⟩
 · have f:=h.zL i hi;unfold cB;by_cases c:bW k.aj 1 i=[]
   · rw[f.zero c];exact uH _
   · rw[f.size c];decide
 · have:=r1 i hi;exact⟨by omega,by omega⟩
 · have f:=h.slt i hi;unfold cB;by_cases c:bW k.aj 2 i=[]
   · rw[f.zero c];exact uH _
   · rw[f.size c];decide
 · have:=r2 i hi;exact⟨by omega,by omega⟩
 · exact lK _ (h.sp hi).aU
 · have:=og h hi;unfold cB;omega
 · have s:=h.sp hi;have he:aW (ak k.aj i).bc n∈(ak k.aj i).bc:=jP hn;obtain⟨e1,e2⟩:=s.M6 _ he;have e3:=iu s.aU e1;rcases e2 with⟨e4,e5,e6⟩ | ⟨e4,e5,e6⟩
   · exact⟨⟨by omega,by omega⟩,by rw[e4];exact⟨by decide,by decide⟩,⟨by omega,by omega⟩⟩
   · exact⟨⟨by omega,by omega⟩,by rw[e4];exact⟨by decide,by decide⟩,⟨by omega,by omega⟩⟩
theorem NI {lo:Nat} {w:World} {S:gI} {k:aT} (h:Kr lo w S k):∃a,#[S.vS,S.vF,S.vL,S.vP,I k.hand]=bg a k/\∀U,aD (fun b=>b<lo) w U->jd U a k:=by
 obtain⟨a,p,_⟩:=h.has;refine⟨a,by unfold bg;rw[p.eS,p.eF,p.eL,p.eP],fun U hU=>?_⟩;obtain⟨a',p',ha⟩:=(h.kp hU (fun b hb e=>by have:=(h.yJ b hb).1;omega)).has;have e1:=p.eS.symm.trans p'.eS;have e2:=p.eF.symm.trans p'.eF;have e3:=p.eL.symm.trans p'.eL;have e4:=p.eP.symm.trans p'.eP;injection e1 with q1 _ q2;injection e2 with q3 _ q4;injection e3 with q5 _ q6;injection e4 with q7 _ q8;have:a'=a:=by
  cases a;cases a';simp only at q1 q2 q3 q4 q5 q6 q7 q8;subst q1 q2 q3 q4 q5 q6 q7 q8;rfl
 rw[<- this];exact ha
def ah7 (w:World) (k:aT) (vs:List Value) (e:Ending) (w':World):Prop:=∃hs a,cC k.aM hs/\e=.returned (.tuple (Value.agg (bg a (aV k hs))::vs).toArray)/\(∀U,aD (fun b=>b<w.heap.size) w' U->jd U a (aV k hs))/\Below w.heap.size w w'
theorem Zm {w:World} {k:aT} {vs:List Value} {e:Ending} {w':World} (h:cA w k vs e w'):ah7 w k vs e w':=by
 obtain⟨S,hs,h1,h2,h3,h4⟩:=h;obtain⟨a,e1,e2⟩:=NI h3;exact⟨hs,a,h1,by rw[h2,<- e1];rfl,e2,h4⟩
open Go.RowKit
theorem DN (l:List Nat):(Cg l).length=l.length:=by unfold Cg;rw[ia]
theorem Uf (l:List Nat) (n:Nat) (hn:n<l.length):DW (Cg l) n=((l.getD n 0:Nat):Int):=by
 unfold DW Cg;rw[fG,AH,fG,lW hn];rfl
theorem Nj {lo mb:Nat} {tt:TypeId} {X:List Value} (k:aT) (S:gI) (w:World) (l:List Nat) (av:Option Addr) (cv:Nat) (h:bK lo mb tt X w S k) (hH:nj w S av (Cg l)) (hl:∀n,n<l.length->l.getD n 0<k.frames.length) (hll:l.length<=2) (hsz:∀n,n<l.length->(aH k.frames (l.getD n 0)).data.size<=1000) (B6:0<k.frames.length) :
  Calls Tryz.prog 273 #[.pointer (some (Ad mb 0)),.slice av l.length cv] w fun e w'=>e=.returned (.string (iP k.frames l l.length))/\w'=w:=by
 obtain⟨fb,cF,A⟩:=h.toKr.fr B6;have c1:=h.c1;rw[A.v] at c1;have HX:=ai A.x0;have HH:=ai hH.has;have HL:=ai hl;have HSZ:=ai hsz;have HJB:Hid (∀n,n<=l.length->(iP k.frames l n).size<=n*1000):=fun n=>by
  induction n with
  | zero=>intro _;exact uH _
  | succ n ih =>
   intro hn;unfold iP;rw[U0];have:=ih (by omega);have:=hsz n (by omega);omega
 obtain⟨nf,afp⟩:=ex k.frames.length;rw[<- afp] at c1 HX HL;clear h hH A hl hsz B6 afp;go_enter Tryz.func273,Tryz.ntmps273;go_wp2;go_loopw [5,10] (fun dv iv wr=>∃n:Nat,n<=l.length/\iv=I (n:Int)/\dv=.string (iP k.frames l n)/\wr=w) (fun _ iv _=>l.length-(intOf iv).toNat)
 case atStart=>exact⟨0,by omega,rfl,rfl,rfl⟩
 case round =>
  obtain⟨n,hn,rfl,rfl,rfl⟩:=hrel;by_cases hlt:n<l.length
  · have hni:(n:Int)<(l.length:Int):=by omega
    have hjb:=HJB.o n hn;have hs1:=HSZ.o n hlt;obtain⟨eb,eo,hao,hbl,eY⟩:=HH.o (by rw[DN];omega);subst hao;have y0:=eY n (by rw[DN];exact hlt) 0 (by omega);rw[kW,OW] at y0;have e0:=Uf l n hlt;have x0:wr.cell? (Ad eb (eo+n))=some (I ((l.getD n 0:Nat):Int)):=by
     rw[<- e0];exact y0
    have hq:=HL.o n hlt;have xF:=HX.o (l.getD n 0) hq;have wS:Hid (iP k.frames l (n+1)=iP k.frames l n++(aH k.frames (l.getD n 0)).data):=rfl;obtain⟨q,hqe⟩:=ex (l.getD n 0);rw[<- hqe] at x0 xF wS hq hs1;obtain⟨FD,hFD⟩:=ex ((aH k.frames q).data);rw[<- hFD] at xF wS hs1;obtain⟨JD,hJD⟩:=ex (iP k.frames l n);rw[<- hJD] at wS hjb ⊢;have hqi:(q:Int)<(nf:Int):=by omega
    clear eY y0 e0 hqe hFD hJD;go_wp2;go_roundw
    case rel=>exact⟨n+1,by omega,by go_num,by rw[wS.o],trivial⟩
    case measure=>simp[intOf];omega
  · obtain rfl:n=l.length:=by omega
    go_wp2;go_ret;exact⟨rfl,rfl⟩
open Go.RowKit
theorem zV (k:aT) (l:List Nat) (s:ByteArray):∀n,(lD k l s n).frames.length=k.frames.length
 | 0=>rfl
 | n+1=>by
  unfold lD wy;show(List.set _ _ _).length=_;rw[fJ,zV k l s n]
theorem YU {lo mb:Nat} {tt:TypeId} {X:List Value} (k:aT) (S:gI) (w:World) (l:List Nat) (s:ByteArray) (av:Option Addr) (cv:Nat) (h:bK lo mb tt X w S k) (hH:nj w S av (Cg l)) (hl:∀n,n<l.length->l.getD n 0<k.frames.length) (hll:l.length<=2) (hs:l.length*16<=s.size) (hs2:s.size<=1000) (B6:0<k.frames.length) :
  Calls Tryz.prog 278 #[.pointer (some (Ad mb 0)),.slice av l.length cv,.string s] w (mP lo mb tt X w S (.tuple #[]) (lD k l s l.length)):=by
 have HH:=ai hH;have HL:=ai hl;have Hw:Hid (∀V n,n<l.length->bK lo mb tt X V S (lD k l s n)->∃fb cF,¬mb=fb/\V.cell? (Ad mb 1)=some (.slice (some (Ad fb 0)) k.frames.length cF)/\(∀V',Below V.heap.size V V'->V'.cell? (Ad fb (l.getD n 0*4))=some (.string (aH (lD k l s n).frames (l.getD n 0)).data)/\V'.frozen? (Ad fb (l.getD n 0*4))=false/\bK lo mb tt X (V'.setCell (Ad fb (l.getD n 0*4)) (.string (s.extract (n*16) (n*16+16)))) S (lD k l s (n+1))/\cM S V S (V'.setCell (Ad fb (l.getD n 0*4)) (.string (s.extract (n*16) (n*16+16)))))):=fun V n hn hV=>by
  obtain⟨fb,cF,A⟩:=hV.toKr.fr (by rw[zV];exact B6);have c1:=hV.c1;rw[A.v,zV] at c1;refine⟨fb,cF,fun e=>by have:=A.lab;rw[<- e,hV.lH] at this;simp at this,c1,fun V' hb=>?_⟩;have hV':=hV.below hb;obtain⟨fb',cF',A'⟩:=hV'.toKr.fr (by rw[zV];exact B6);have e:fb'=fb:=by
   have:=A'.v;rw[A.v] at this;injection this with e1 _ _;injection e1 with e1;injection e1 with e1 _ _;exact e1.symm
  subst e;have hi:l.getD n 0<(lD k l s n).frames.length:=by rw[zV];exact hl n hn
  exact⟨A'.x0 _ hi,A'.fz _,hV'.L6 A'.v hi (j:=0) (by omega) rfl,(cM.below hb).trans (zX hV'.toKr A'.v)⟩
 have HPA:Hid (∀V n,n<l.length->Calls Tryz.prog 171 #[.string s,I ((n:Int)*16),I 16] V fun e w'=>e=.returned (.tuple #[.string (s.extract (n*16) (n*16+16)),I 0])/\Below V.heap.size V w'):=fun V n hn=>by
  have:=GH s (n*16) 16 V (by omega) (by omega);rw[show((n*16:Nat):Int)=(n:Int)*16 by omega,show((16:Nat):Int)=16 from rfl] at this;exact this
 have tV:=ai h;have dz:Hid (∀V,bK lo mb tt X V S (lD k l s l.length)->cM S w S V->mP lo mb tt X w S (.tuple #[]) (lD k l s l.length) (.returned (.tuple #[])) V):=fun V h1 h2=>⟨rfl,h1,h2⟩
 obtain⟨P,hP⟩:=ex (mP lo mb tt X w S (.tuple #[]) (lD k l s l.length));rw[<- hP] at dz ⊢;obtain⟨nf,afp⟩:=ex k.frames.length;rw[<- afp] at Hw HL;clear h hH hl B6 afp hs hs2 hP;go_enter Tryz.func278,Tryz.ntmps278;go_wp2;go_loopw [10] (fun iv wr=>∃n:Nat,n<=l.length/\iv=I (n:Int)/\bK lo mb tt X wr S (lD k l s n)/\cM S w S wr) (fun iv _=>l.length-(intOf iv).toNat)
 case atStart=>exact⟨0,by omega,rfl,tV.o,cM.refl _ _⟩
 case round =>
  obtain⟨n,hn,rfl,rN,hch⟩:=hrel;by_cases hlt:n<l.length
  · have hni:(n:Int)<(l.length:Int):=by omega
    have zK:=HH.o.ch hch;obtain⟨eb,eo,hao,hbl,eY⟩:=zK.has (by rw[DN];omega);subst hao;have y0:=eY n (by rw[DN];exact hlt) 0 (by omega);rw[kW,OW] at y0;have e0:=Uf l n hlt;have x0:wr.cell? (Ad eb (eo+n))=some (I ((l.getD n 0:Nat):Int)):=by
     rw[<- e0];exact y0
    have hq:=HL.o n hlt;obtain⟨fb,cF,hmf,c1,hwr⟩:=Hw.o wr n hlt rN;have HWR:=ai hwr;have ak3:=ai (fun V=>HPA.o V n hlt);have JL:=ai hch;obtain⟨q,hqe⟩:=ex (l.getD n 0);rw[<- hqe] at x0 hq HWR;obtain⟨FD,hFD⟩:=ex ((aH (lD k l s n).frames q).data);rw[<- hFD] at HWR;obtain⟨PD,hPD⟩:=ex (s.extract (n*16) (n*16+16));rw[<- hPD] at HWR ak3;have hqi:(q:Int)<(nf:Int):=by omega
    have MV:mb<wr.heap.size:=oQ wr _ c1;have hmu:IntKind.i64.wrap ((n:Int)*16)=(n:Int)*16:=vI _ (by omega);clear eY y0 e0 hqe hFD hPD rN hch hwr zK tV;go_upto_region 3 with fail;have tV:=ai (aK wr.heap.size wr).drew;have ow:Hid (wr.drew.cell? (Ad mb 1)=some (.slice (some (Ad fb 0)) nf cF)):=(tV.o.cell (p:=(Ad mb 1)) MV).trans c1
    go_region_held3 (fun V=>V.cell? (Ad mb 1)=some (.slice (some (Ad fb 0)) nf cF)) (first | exact sK.o | exact ow.o | exact HS4.o)
     ((go_at_call 171;refine(ak3.o _).mono ?_;rintro r w5 ⟨rfl,Mb⟩;have HK5:=ai (tV.o.trans (Mb.mono tV.o.size));have sK:Hid (w5.cell? (Ad mb 1)=some (.slice (some (Ad fb 0)) nf cF)):=(HK5.o.cell (p:=(Ad mb 1)) MV).trans c1;have HS4:Hid ((w5.setCell (Ad fb (q*4)) (.string PD)).cell? (Ad mb 1)=some (.slice (some (Ad fb 0)) nf cF)):=(cu _ _ _ _ _ _ hmf).trans sK.o;obtain⟨z0,z1,z2,z3⟩:=HWR.o w5 HK5.o;have yV:=ai z2;have HZ3:=ai z3;clear Mb z2 z3))
    all_goals clear ow sK HS4 ak3
    all_goals go_wp2
    go_roundw
    case rel=>exact⟨n+1,by omega,by go_num,yV.o,JL.o.trans HZ3.o⟩
    case measure=>simp[intOf];omega
  · obtain rfl:n=l.length:=by omega
    have HX:=ai (dz.o wr rN hch);clear rN hch;go_wp2
    first
     | exact HX.o
     | (refine vE (v:=.tuple #[]) (by simp[results,Tryz.results278,go_sem]) rfl ?_;exact HX.o)
end Go.Proofs.YtlgoihmkgaaemaaGreat
