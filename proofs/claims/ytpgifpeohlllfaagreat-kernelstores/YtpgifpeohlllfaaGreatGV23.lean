import Derived.Test.YtpgifpeohlllfaaGreatGV22
set_option maxHeartbeats 20000000
set_option linter.unusedVariables false
set_option maxRecDepth 100000
set_option linter.unusedSimpArgs false
namespace Go.Proofs.YtpgifpeohlllfaaGreat
namespace Go.Proofs.YtpgifpeohlllfaaGreat
open Go.RowKit
def qw (k:aN) (j:Nat) (a n way:Int):Nat->aN
 | 0=>k
 | 1=>(ft k j a way).2
 | _=>(iN k j a n way).2
def pR (k:aN) (j:Nat) (a n way:Int):Nat->List Int
 | 0=>[]
 | 1=>[((ft k j a way).1:Int)]
 | _=>[((ft k j a way).1:Int),((iN k j a n way).1:Int)]
def AJ (l:List Nat):List Int:=l.map fun x:Nat=>(x:Int)
def nR (a n:Int):Nat:=if bK a n=a/16 then 1 else 2
theorem Aa (k:aN) (j:Nat) (a n way:Int):bh k j a n way=((bh k j a n way).1,qw k j a n way (nR a n))/\AJ (bh k j a n way).1=pR k j a n way (nR a n)/\(bh k j a n way).1.length=nR a n:=by
 unfold bh nR;by_cases c:bK a n=a/16
 · rw[bf c,bf c];exact⟨rfl,rfl,rfl⟩
 · rw[bl c,bl c];exact⟨rfl,rfl,rfl⟩
theorem ajw (k:aN) (j:Nat) (a n way:Int):qw k j a n way 0=k:=rfl
theorem aeO (k:aN) (j:Nat) (a n way:Int):qw k j a n way 1=(dD k j (a/16) way []).2:=by rfl
theorem ajv (k:aN) (j:Nat) (a n way:Int):qw k j a n way 2=(dD (dD k j (a/16) way []).2 j (bK a n) way [((dD k j (a/16) way []).1:Int)]).2:=by rfl
theorem ajy (k:aN) (j:Nat) (a n way:Int):pR k j a n way 0=[]:=rfl
theorem aeP (k:aN) (j:Nat) (a n way:Int):pR k j a n way 1=[((dD k j (a/16) way []).1:Int)]:=by rfl
theorem ajx (k:aN) (j:Nat) (a n way:Int):pR k j a n way 2=[((dD k j (a/16) way []).1:Int)]++[((dD (dD k j (a/16) way []).2 j (bK a n) way [((dD k j (a/16) way []).1:Int)]).1:Int)]:=by rfl
theorem eJ.local {S S':dN} {w w2 w3:World} {D:Nat->Prop} (h:dI S w S' w2) (k:aH D w2 w3) (hd:∀b,D b->w.heap.size<=b):dI S w S' w3:=⟨⟨k.os.trans h.kp.os,k.tape.trans h.kp.tape,k.output.trans h.kp.output,gJ h.kp.size k.size,fun b hb hn=>(k.block b (jt hb h.kp.size) (fun g=>by grind)).trans (h.kp.block b hb hn)⟩,h.no,h.eS,h.eF,h.eL,h.eP⟩
theorem Td (k:aN) (j:Nat) (a n way:Int) (m:Nat) (hm:m<=2):(pR k j a n way m).length=m:=by
 rcases(show m=0∨m=1∨m=2 by omega) with rfl | rfl | rfl <;> rfl
theorem AH {lo mb:Nat} {tt:TypeId} {X:List Value} (k:aN) (S:dN) (w:World) (j:Nat) (a n way:Int) (h:bQ lo mb tt X w S k) (hR:bg k) (hj:j<k.aj.length) (ha:dY a) (hn:1<=n/\n<=8) (hf:(dQ (ak k.aj j).aZ a n way).1=0) (hX:Jp X k.aA) :
  Calls Tryz.prog 52 #[.pointer (some (Ad mb 0)),I (j:Int),I a,I n,I way] w fun e w'=>∃av cv S',e=.returned (.tuple #[.slice av (bh k j a n way).1.length cv,.agg #[I 0,I 0]])/\kL w' S' av (AJ (bh k j a n way).1)/\bQ lo mb tt X w' S' (bh k j a n way).2/\dI S w S' w':=by
 have hcc:=hR.c;obtain⟨Ov,hal,hau,hmap⟩:=kS hn.1 hn.2 hf;have qP:cV k j (a/16):=by
  have:=hmap 0 (by omega) (by omega);rw[xM] at this;exact this
 have hm2:cV k j (bK a n):=by
  have:=hmap (n-1) (by omega) (by omega);unfold bK;rw[show a+n-1=a+(n-1) by omega];exact this
 have hlast:bK a n=a/16+((nR a n:Nat):Int)-1:=by
  unfold nR
  grind [yw]
 have hp2:nR a n=1∨nR a n=2:=by unfold nR;grind
 have A1:=(nV hR hj qP way (held:=[]) (by simp)).1;obtain⟨hr1,hr2,hr3⟩:=Aa k j a n way;have hpw:∀m,m<nR a n->bg (qw k j a n way m)/\j<(qw k j a n way m).aj.length/\cV (qw k j a n way m) j (a/16+(m:Int))/\(qw k j a n way m).aA=k.aA/\(dD (qw k j a n way m) j (a/16+(m:Int)) way (pR k j a n way m)).2=qw k j a n way (m+1)/\pR k j a n way (m+1)=pR k j a n way m++[((dD (qw k j a n way m) j (a/16+(m:Int)) way (pR k j a n way m)).1:Int)]:=fun m hm=>by
  rcases(show m=0∨(m=1/\nR a n=2) by omega) with rfl | ⟨rfl,h2⟩
  · grind [ajw,ajy,aeO,aeP]
  grind [aeO,aeP,ajv,ajx,fZ.right,fZ.kept,fQ.mapped,fQ.aA,fQ.np]
 have HBR:Hid (∀V S' m av nv cv,m<nR a n->nv=m->bQ lo mb tt X V S' (qw k j a n way m)->kL V S' av (pR k j a n way m)->Calls Tryz.prog 97 #[.pointer (some (Ad mb 0)),I (j:Int),I (a/16+(m:Int)),I way,.slice av nv cv] V fun e w'=>∃i:Nat,e=.returned (I (i:Int))/\pR k j a n way (m+1)=pR k j a n way m++[(i:Int)]/\∃S2,bQ lo mb tt X w' S2 (qw k j a n way (m+1))/\dI S' V S2 w'):=fun V S' m av nv cv hm hnv hV hh=>by
  obtain⟨q1,q2,q3,q4,q5,q6⟩:=hpw m hm;have hil:=Td k j a n way m (by omega);have:=UN (qw k j a n way m) S' V j (a/16+(m:Int)) way (pR k j a n way m) av cv hV q1 q2 q3 (by grind) (by omega) hh;rw[hil] at this;subst hnv;refine this.mono fun e w' ⟨g1,S2,g2,g3⟩=>⟨_,g1,q6,S2,q5 ▸ g2,g3⟩
 have cZ:Hid (∀V S' av nv cv,nv=nR a n->kL V S' av (pR k j a n way (nR a n))->bQ lo mb tt X V S' (qw k j a n way (nR a n))->dI S w S' V->(∃av' cv' S'',Ending.returned (.tuple #[.slice av nv cv,.agg #[I 0,I 0]])=.returned (.tuple #[.slice av' (bh k j a n way).1.length cv',.agg #[I 0,I 0]])/\kL V S'' av' (AJ (bh k j a n way).1)/\bQ lo mb tt X V S'' (bh k j a n way).2/\dI S w S'' V)):=fun V S' av nv cv e1 g1 g2 g3=>by
  have e2:(bh k j a n way).2=qw k j a n way (nR a n):=fp Prod.snd hr1;exact⟨av,cv,S',by grind,by grind,by grind,g3⟩
 obtain⟨P,hP⟩:∃P:Ending->World->Prop,P=fun e w'=>∃av cv S',e=.returned (.tuple #[.slice av (bh k j a n way).1.length cv,.agg #[I 0,I 0]])/\kL w' S' av (AJ (bh k j a n way).1)/\bQ lo mb tt X w' S' (bh k j a n way).2/\dI S w S' w':=⟨_,rfl⟩
 have qN:Hid (∀V S' av nv cv,nv=nR a n->kL V S' av (pR k j a n way (nR a n))->bQ lo mb tt X V S' (qw k j a n way (nR a n))->dI S w S' V->P (.returned (.tuple #[.slice av nv cv,.agg #[I 0,I 0]])) V):=fun V S' av nv cv e1 g1 g2 g3=>by grind
 rw[<- hP];obtain⟨pb,cP,A⟩:=h.toiZ.sp (by omega);have c3:=h.c3;rw[A.v] at c3;have a1:=A.x1 j hj;have hfit:ed (ak k.aj j).aZ:=lD _ (hR.sp hj).aZ;have zx:=ai (fun V (hb:Below w.heap.size w V)=>TN _ _ a n way V (eU.below (h.toiZ.aZ hj) hb) hfit ha (by omega));rw[Ov] at zx;obtain⟨ax,cx,yt,_,_⟩:=aY (h.each j hj).aZ;rw[yt] at zx a1;have KT:(j:Int)<(k.aj.length:Int):=by omega
 have Bk:=h.lt;have hpl:=A.lt;unfold yz at zx;simp only at zx;have eO:=ai ((aK w.heap.size w).alloc (aM _) (.cells #[I 0,I 0] 36));have R0:=ai (bG w #[I 0,I 0] 36);have d3:=(eO.o.cell (p:=(Ad mb 3)) Bk).trans c3;have d1:=(eO.o.cell (p:=(Ad pb (j*3+1))) hpl).trans a1;obtain⟨np,G0⟩:=ex k.aj.length;rw[<- G0] at d3 KT;obtain⟨na,wh⟩:=ex ((ak k.aj j).aZ.length);rw[<- wh] at d1 zx;have n0:Hid (S.lab w.heap.size=.no):=h.toiZ.new (aM _);have E6:=ai h;have hlq:(a+n-1)/16=a/16+((nR a n:Nat):Int)-1:=hlast;have HIL:=ai (Td k j a n way);obtain⟨PG,hPG⟩:=ex (nR a n);rw[<- hPG] at HBR qN hp2 hlq;have ha0:0<=a:=by omega
 have han:0<=a+n-1:=by omega
 have hw1:IntKind.i64.wrap (a+n)=a+n:=mP _ (by omega);have hw2:IntKind.i64.wrap (a+n-1)=a+n-1:=mP _ (by omega);obtain⟨i0,hin,hz0,hz1,hz2⟩:=iq F7;have tP:=ai hin;have Dg:=ai hz0;have Df:=ai hz1;have BI:=ai hz2;have apS:a/16<=256:=by omega
 have hap:0<=a/16:=by omega
 obtain⟨Q,hQ⟩:=ex (a/16);have HQ:=ai hQ;rw[<- hQ] at HBR hlq apS hap;have hqa:a.tdiv 16=Q:=by rw[hQ];exact Cu ha0
 have hqb:(a+n-1).tdiv 16=Q+(PG:Int)-1:=by rw[<- hlq];exact Cu han
 clear h hR hj A c3 a1 hfit yt Ov hcc G0 wh ha hmap qP hm2 hlast A1 hr1 hr2 hr3 hpw cZ hP hPG hX hf hal hau ha0 han hQ hin hz0 hz1 hz2 hlq;go_enter Tryz.func52,Tryz.ntmps52;go_wp2_with (go_at_call 96;refine(zx.o _ eO.o).mono ?_;rintro e w1 ⟨rfl,hb1⟩;have cT:=ai (bZ eO.o hb1);have R1:=ai (aQ R0.o hb1 (aO R0.o));have FX:=ai (bG w1 #[I 0,I 0] 36);obtain⟨y0,y1⟩:=kI FX.o;clear hb1)
 have gK:=ai (cT.o.alloc cT.o.size (.cells #[I 0,I 0] 36));have R2:=ai (bE R1.o (.cells #[I 0,I 0] 36));obtain⟨W,hW⟩:=ex (w1.alloc (.cells #[I 0,I 0] 36));rw[<- hW] at gK R2 y0 y1 ⊢;clear hW y0 y1 FX R1 cT;go_loopw [13,14] (fun fv pv wr=>∃(m:Nat) (S':dN) (av:Option Addr) (cv:Nat),m<=PG/\pv=I (Q+(m:Int))/\fv=.slice av m cv/\wr.ownsRow W.heap.size 3 1 (.slice av m cv) m ((pR k j a n way m).flatMap eZ)/\(∀b,bI (.slice av m cv) b->S'.lab b=.no)/\bQ lo mb tt X wr S' (qw k j a n way m)/\dI S W S' wr) (fun _ pv _=>(Q+(PG:Int)-intOf pv).toNat)
 case atStart=>exact⟨0,S,none,0,by omega,by simp,rfl,km _ _ _ _,fun b hb=>(by cases hb),E6.o.below gK.o,dI.refl _ _⟩
 case round =>
  obtain⟨m,S',av,cv,hm,rfl,rfl,hrow,hno,jn,hch⟩:=hrel;have Qk:=ai hrow;have pq:=ai hno;have TE:=ai hch;by_cases hlt:m<PG
  · have hle:Q+(m:Int)<=Q+(PG:Int)-1:=by omega
    have hil:=HIL.o m (by omega);have hrow2:=hrow;rw[<- hil] at hrow2;have yA:=(wY (S:=S') (n:=m) (l:=pR k j a n way m) (by rw[hil];omega) hno).2;have arX:=ai (HBR.o wr S' m av m cv hlt rfl jn yA);clear hrow hno jn hch hrow2 yA hil E6;go_wp2_with (first
     | (at_builtin;refine dU (P:=Tryz.prog) rfl _ _ 99 rfl W.heap.size 3 i0 (I 0) 1 8 Tryz.underlying99 tP.o Dg.o Df.o BI.o rfl (by decide) (.slice av m cv) m ((pR k j a n way m).flatMap eZ) rfl za.o (some (Ad w2.heap.size 0)) 1 1 [I (i:Int)] rfl rfl (fun _=>⟨_,rfl,vU (bG w2 _ _)⟩) (by intro u hu;simp at hu;rw[hu];rfl) (by unfold maxLen;omega) (by omega) (by have:=vv.o.kp.size;simp;omega) ?_;intro v' w' hown hgr hat;obtain⟨aG,cG,MT,_,_⟩:=aY hown;subst MT;have HO3:=ai hown;have HG3:=ai hgr;have xD:=ai hat;clear hown hgr hat)
     | (go_at_call 97;refine arX.o.mono ?_;rintro e w2 ⟨i,rfl,hid,S2,hk2,hc2⟩;have HID:=ai hid;have pH:=ai hk2;have vv:=ai (TE.o.trans hc2);have Si:=ai (hc2.kp.row Qk.o (fun b hb z=>z (pq.o b hb)));have QM:=ai (fun b (hb:bI (.slice av m cv) b)=>hc2.no b (Qk.o.lt b hb).2 (pq.o b hb));have za:=ai (Si.o.alloc (.cells #[I (i:Int)] 3));clear hid hk2 hc2))
    go_roundw
    case rel =>
     have kA:aH (fun b=>bI (.slice av m cv) b) w2 (w2.alloc (.cells #[I (i:Int)] 3)):=aH.alloc _ _ _;have kB:=kA.trans (aH.grown (D:=fun b=>bI (.slice av m cv) b) HG3.o (fun q hq=>hq)) (fun _ _ g=>g);have hlab:∀b,bI (.slice aG (m+1) cG) b->S2.lab b=.no:=fun b hb=>by
      rcases xD.o with g | g
      · exact QM.o b (by show Value.ownBlock _=_;rw[<- g];exact hb)
      · have hb:Value.ownBlock _=some b:=hb;rw[g] at hb;injection hb with hb;rw[iJ] at hb;exact pH.o.toiZ.new (by omega)
     refine⟨m+1,S2,aG,cG,by omega,by go_num,rfl,?_,hlab,?_,?_⟩
     · rw[HID.o,tG];have e:[(i:Int)].flatMap eZ=[I (i:Int)]:=rfl;rw[e];exact HO3.o
     · exact pH.o.kp kB (fun b hb g=>hb (QM.o b g))
     · exact eJ.local vv.o kB (fun b g=>(Si.o.lt b g).1)
    case measure=>simp[intOf];omega
  · obtain rfl:m=PG:=by omega
    have hgt:¬Q+(m:Int)<=Q+(m:Int)-1:=by omega
    have hil:=HIL.o m (by omega);have yA:=(wY (S:=S') (n:=m) (l:=pR k j a n way m) (by rw[hil];omega) hno).2;have HHE:=ai yA;have ZK:=ai jn;have RW:=ai (hch.keep R2.o n0.out);obtain⟨y0,y1⟩:=kI RW.o;have q0:=aJ RW.o 0;have q1:=aJ RW.o 1;have HCW:=ai ((dI.below gK.o).trans hch);have hnl:S'.lab w.heap.size=.no:=hch.no _ (aO R2.o) n0.out;have HKF:Hid (∀V,V=(wr.setCell (Ad w.heap.size 0) (I 0)).setCell (Ad w.heap.size 1) (I 0)->kL V S' av (pR k j a n way m)/\bQ lo mb tt X V S' (qw k j a n way m)/\dI S w S' V/\V.heap[w.heap.size]?=some (.cells #[I 0,I 0] 36 (0,0))):=fun V hV=>by
     have kp:aH (fun b=>b=w.heap.size) wr V:=by rw[hV];exact(aH.set (fun b=>b=w.heap.size) wr (Ad w.heap.size 0) _ rfl).trans (aH.set (fun b=>b=w.heap.size) _ (Ad w.heap.size 1) _ rfl) (fun _ _ g=>g)
     refine⟨⟨qR.kp HHE.o.has kp (fun b off e z=>?_),HHE.o.no,fun b off e=>jt (HHE.o.lt b off e) kp.size⟩,ZK.o.kp kp (fun b hb z=>hb (by rw[z];exact hnl)),eJ.local HCW.o kp (fun b z=>by omega),by rw[hV];exact dG (dG RW.o 0 _) 1 _⟩;have:W.heap.size<=b:=by
      subst e;rcases Qk.o.2 with⟨h0,_⟩ | ⟨g,cap',cur,hv,hbs,_⟩
      · cases h0
      · injection hv with e1 _ _;injection e1 with e1;injection e1 with e1 _ _;omega
     have:=aO R2.o;omega
    have Sg:=ai (fun V (hV:V=(wr.setCell (Ad w.heap.size 0) (I 0)).setCell (Ad w.heap.size 1) (I 0))=>qN.o V S' av m cv rfl (HKF.o V hV).1 (HKF.o V hV).2.1 (HKF.o V hV).2.2.1);clear hrow hno jn hch yA hil E6 HHE ZK HCW hnl HBR;go_wp2;obtain⟨v0,v1⟩:=kI (HKF.o _ rfl).2.2.2;refine bR (v:=.tuple #[.slice av m cv,.agg #[I 0,I 0]]) (by simp[results,Tryz.results52,go_sem,v0,v1]) rfl ?_;exact Sg.o _ rfl
def oD:Prop:=∀(k:aN) (a:fP) (w:World),fT w a k->yH k->Calls Tryz.prog 55 #[.agg (aT a k)] w (qu w k)
def ik (k:aN):List Value:=qx (lY k.aA k.aA.length) 256
theorem Ei {k:aN} (hr:fJ k.aA=true) {hs:List bM} (h:dw k.aA hs):Jp (ik k) hs:=fun n hn=>by
 grind [ik,Em,Eo,EH]
theorem Gs {hs:List bM} (h:fJ hs=true) (i:Nat) (hi:i<hs.length):(bj hs i).dn.length<=16:=by
 have all:∀n,jg hs n=true->∀i,i<n->cR (bj hs i)=true:=fun n=>by
  induction n with
  | zero=>omega
  | succ n ih =>
   grind [jg]
 have hb:=all hs.length h i hi;unfold cR at hb;rw[dR] at hb;have:=nY _ _ hb.2;omega
theorem oC {k:aN} (hR:bg k) (hF:gW k):yH k:=by
 have hc:=hR.c;refine⟨by omega,fun i hi=>?_,by omega,by omega,by omega,fun i hi=>?_,fun i hi=>by grind [jC]⟩
 · grind [Gs,bg.lQ]
 · have:=kg _ (hR.sp hi).aZ;omega
theorem aeN {lo mb:Nat} {w' V:World} {S:dN} {k:aN} {hs:List bM} {k0:aN} {a:fP} (hr:iZ lo w' S (bu k hs)) (hm:w'.heap[mb]?=some (.cells (mv a k0) 104 (0,0))) (hlb:lo<=mb) (hno:S.lab mb=.no) (ht:ik k0=ik k)
  (hV:V=((((w'.setCell (Ad mb 0) S.vS).setCell (Ad mb 1) S.vF).setCell (Ad mb 2) S.vL).setCell (Ad mb 3) S.vP).setCell (Ad mb 4) (I k.hand)) :
  bQ lo mb 104 (ik k) V ⟨fun b=>if b=mb then .head else S.lab b,S.vS,S.vF,S.vL,S.vP,S.L⟩ (bu k hs):=by
 have kp:aH (fun b=>b=mb) w' V:=by
  rw[hV];exact((((aH.set (fun b=>b=mb) w' (Ad mb 0) _ rfl).trans (aH.set (fun b=>b=mb) _ (Ad mb 1) _ rfl) (fun _ _ g=>g)).trans (aH.set (fun b=>b=mb) _ (Ad mb 2) _ rfl) (fun _ _ g=>g)).trans (aH.set (fun b=>b=mb) _ (Ad mb 3) _ rfl) (fun _ _ g=>g)).trans (aH.set (fun b=>b=mb) _ (Ad mb 4) _ rfl) (fun _ _ g=>g)
 have r1:=hr.kp kp (fun b hb e=>hb (by grind));have lb:∀b c,S.lab b=c->c≠.no->(if b=mb then iH.head else S.lab b)=c:=fun b c e hc=>by
  grind
 refine⟨⟨fun b hb=>?_,r1.aA,r1.dn,r1.frames,r1.slots,r1.aj,r1.len,r1.each,fun b hb=>lb b _ (r1.lS b hb) (by simp),fun i hi b hb=>lb b _ (r1.lX i hi b hb) (by simp),fun b hb=>lb b _ (r1.lF b hb) (by simp),fun b hb=>lb b _ (r1.lL b hb) (by simp),fun b hb=>lb b _ (r1.lP b hb) (by simp),fun i hi b hb=>lb b _ (r1.lA i hi b hb) (by simp),fun i hi b hb=>lb b _ (r1.lE i hi b hb) (by simp)⟩,?_,bf rfl⟩
 · by_cases c:b=mb
   · simp_all [aO]
   · have hb:(if b=mb then iH.head else S.lab b)≠.no:=hb;rw[bl c] at hb;exact r1.qF b hb
 · rw[hV,dG (dG (dG (dG (dG hm 0 S.vS) 1 S.vF) 2 S.vL) 3 S.vP) 4 (I k.hand)];unfold mv mz;rw[<- ht];congr 2
theorem Ha (zw:oD) (k:aN) (a:fP) (mb:Nat) (w:World) (hK:fT w a k) (hsm:yH k) (hm:w.heap[mb]?=some (.cells (mv a k) 104 (0,0))) (lo:Nat) (hlo:lo<=mb) :
  Calls Tryz.prog 84 #[.pointer (some (Ad mb 0))] w fun e w'=>e=.returned (.tuple #[])/\∃S hs,dw k.aA hs/\bQ lo mb 104 (ik k) w' S (bu k hs)/\(∀b,S.lab b≠.no->b=mb∨w.heap.size<=b)/\aH (fun b=>b=mb) w w':=by
 have HCP:=ai (zw k a w hK hsm);have Bk:=aO hm;have HM:=ai hm;have cZ:Hid (∀w1 S hs V,dw k.aA hs->iZ w.heap.size w1 S (bu k hs)->Below w.heap.size w w1->V=((((w1.setCell (Ad mb 0) S.vS).setCell (Ad mb 1) S.vF).setCell (Ad mb 2) S.vL).setCell (Ad mb 3) S.vP).setCell (Ad mb 4) (I k.hand)->∃S hs,dw k.aA hs/\bQ lo mb 104 (ik k) V S (bu k hs)/\(∀b,S.lab b≠.no->b=mb∨w.heap.size<=b)/\aH (fun b=>b=mb) w V):=fun w1 S hs V h1 h2 h3 h4=>by
  have qP:=aQ HM.o h3 Bk;have hno:S.lab mb=.no:=pK.1 fun x=>by grind [iZ.qF]
  have r1:iZ lo w1 S (bu k hs):=h2.mono (by omega);have m:=aeN r1 qP hlo hno rfl h4;refine⟨_,hs,h1,m,fun b hb=>?_,?_⟩
  · by_cases c:b=mb
    · omega
    · have hb:(if b=mb then iH.head else S.lab b)≠.no:=hb;rw[bl c] at hb;exact .inr (h2.qF b hb).1
  · have kp:aH (fun b=>b=mb) w1 V:=by
     rw[h4];exact((((aH.set (fun b=>b=mb) w1 (Ad mb 0) _ rfl).trans (aH.set (fun b=>b=mb) _ (Ad mb 1) _ rfl) (fun _ _ g=>g)).trans (aH.set (fun b=>b=mb) _ (Ad mb 2) _ rfl) (fun _ _ g=>g)).trans (aH.set (fun b=>b=mb) _ (Ad mb 3) _ rfl) (fun _ _ g=>g)).trans (aH.set (fun b=>b=mb) _ (Ad mb 4) _ rfl) (fun _ _ g=>g)
    exact(aH.b7 h3).trans kp (fun _ _ g=>g)
 have anw:Hid (Calls Tryz.prog 55 #[.agg (aT a k)] w fun e w'=>∃S hs aS nS cS aF nF cF aL nL cL aP nP cP,S.vS=.slice aS nS cS/\S.vF=.slice aF nF cF/\S.vL=.slice aL nL cL/\S.vP=.slice aP nP cP/\dw k.aA hs/\e=.returned (.agg #[.slice aS nS cS,.slice aF nF cF,.slice aL nL cL,.slice aP nP cP,I k.hand])/\iZ w.heap.size w' S (bu k hs)/\Below w.heap.size w w'):=HCP.o.mono fun e w' ⟨S,hs,h1,h2,h3,h4⟩=>by
  obtain⟨aS,cS,eS,_⟩:=aY h3.aA;obtain⟨aF,cF,eF,_⟩:=aY h3.frames;obtain⟨aL,cL,eL,_⟩:=aY h3.slots;obtain⟨aP,cP,eP,_⟩:=aY h3.aj
  grind
 have c0:w.cell? (Ad mb 0)=some (.slice a.aS k.aA.length a.cS):=aB hm 0 rfl;have c1:w.cell? (Ad mb 1)=some (.slice a.aF k.frames.length a.cF):=aB hm 1 rfl;have c2:w.cell? (Ad mb 2)=some (.slice a.aL k.slots.length a.cL):=aB hm 2 rfl;have c3:w.cell? (Ad mb 3)=some (.slice a.aP k.aj.length a.cP):=aB hm 3 rfl;have c4:w.cell? (Ad mb 4)=some (I k.hand):=aB hm 4 rfl;have HCM:Hid (∀V,Below w.heap.size w V->(V.cell? (Ad mb 0)=some (.slice a.aS k.aA.length a.cS)/\V.cell? (Ad mb 1)=some (.slice a.aF k.frames.length a.cF)/\V.cell? (Ad mb 2)=some (.slice a.aL k.slots.length a.cL)/\V.cell? (Ad mb 3)=some (.slice a.aP k.aj.length a.cP)/\V.cell? (Ad mb 4)=some (I k.hand))/\V.frozen? (Ad mb 0)=false/\V.frozen? (Ad mb 1)=false/\V.frozen? (Ad mb 2)=false/\V.frozen? (Ad mb 3)=false/\V.frozen? (Ad mb 4)=false):=fun V hb=>by
  have h1:=aQ HM.o hb Bk;exact⟨⟨aB h1 0 rfl,aB h1 1 rfl,aB h1 2 rfl,aB h1 3 rfl,aB h1 4 rfl⟩,aJ h1 0,aJ h1 1,aJ h1 2,aJ h1 3,aJ h1 4⟩
 unfold aT at anw;clear hm hK hsm HCP;go_enter Tryz.func84,Tryz.ntmps84;go_wp2_with (go_at_call 55;refine anw.o.mono ?_;rintro e w1 ⟨S,hs,aS,nS,cS,aF,nF,cF,aL,nL,cL,aP,nP,cP,eS,eF,eL,eP,hsame,rfl,hkr,hb1⟩;have HF1:=ai (fun V=>cZ.o w1 S hs V hsame hkr hb1);rw[eS,eF,eL,eP] at HF1;obtain⟨⟨y0,y1,y2,y3,y4⟩,f0,f1,f2,f3,f4⟩:=HCM.o w1 hb1;clear hsame hkr hb1 eS eF eL eP)
 refine q9 (v:=.tuple #[]) (by simp[results,Tryz.results84,go_sem]) rfl ?_;exact⟨rfl,HF1.o _ rfl⟩
def eI (k:aN) (sp size way:Int) (ways:List Int):Int:=if dM k sp≠0 then dM k sp else if ¬(1<=size/\size<=8) then 3 else if way∈ways then 0 else 10
def Ld (w:World) (k:aN) (e:Ending) (w':World):Prop:=∃mb S hs,e=.returned (.tuple #[.pointer (some (Ad mb 0)),I 0])/\dw k.aA hs/\bQ w.heap.size mb 104 (ik k) w' S (bu k hs)/\Below w.heap.size w w'
theorem Eh {w:World} {a:fP} {k:aN} {sp:Int} (h:Calls Tryz.prog 69 #[.agg (aT a k),I sp] w (vH w a k (dM k sp))) (hc:dM k sp≠0):Calls Tryz.prog 69 #[.agg (aT a k),I sp] w fun e w'=>e=.returned (.tuple #[.pointer none,I (dM k sp)])/\Below w.heap.size w w':=h.mono fun e w' ⟨hb,hh⟩=>by
 grind
theorem Ph {w:World} {a:fP} {k:aN} {sp:Int} (h:Calls Tryz.prog 69 #[.agg (aT a k),I sp] w (vH w a k (dM k sp))) (hc:dM k sp=0):Calls Tryz.prog 69 #[.agg (aT a k),I sp] w fun e w'=>∃mb,e=.returned (.tuple #[.pointer (some (Ad mb 0)),I 0])/\w.heap.size<=mb/\w'.heap[mb]?=some (.cells (mv a k) 104 (0,0))/\Below w.heap.size w w':=h.mono fun e w' ⟨hb,hh⟩=>by
 grind
theorem jy {k:aN} {sp:Int} (h:dM k sp=0):bg k/\0<=sp/\sp.toNat<k.aj.length/\(ak k.aj sp.toNat).live=true:=by
 grind [dM,qz]
theorem yG (k:aN) (a:fP) (sp size way:Int) (ways:List Int) (aw:Option Addr) (cw:Nat) (w:World) (hK:fT w a k) (hF:gW k) (hsp:dY sp) (hw:dz eZ 1 0 w aw ways) (ID:ways.length<=1000000) (hc:eI k sp size way ways≠0) :
  Calls Tryz.prog 51 #[.agg (aT a k),I sp,I size,I way,.slice aw ways.length cw] w fun e w'=>e=.returned (.tuple #[.pointer none,I (eI k sp size way ways)])/\Below w.heap.size w w':=by
 have vt:=ai (fun V (hV:Below w.heap.size w V)=>wZ k a sp V (hK.below hV) hF hsp);have ZM:=ai (fun V (hV:Below w.heap.size w V)=>vD ways way aw cw V (hw.below hV) ID);have eO:=ai ((aK w.heap.size w).alloc (aM _) (.cells (aT a k) 27));have KB:=ai (bG w (aT a k) 27);obtain⟨C,hC⟩:=ex (eI k sp size way ways);rw[<- hC] at hc ⊢;obtain⟨P,hP⟩:∃P:Ending->World->Prop,P=fun e w'=>e=.returned (.tuple #[.pointer none,I C])/\Below w.heap.size w w':=⟨_,rfl⟩
 have HE:Hid (∀V,Below w.heap.size w V->P (.returned (.tuple #[.pointer none,I C])) V):=fun V hV=>by grind
 rw[<- hP];clear hP;unfold eI at hC;by_cases c1:dM k sp=0
 · rw[bl (fun x=>x c1)] at hC;have za:=ai (fun V hV=>Ph (vt.o V hV) c1);by_cases c2:1<=size/\size<=8
   · rw[bl (fun x=>x c2)] at hC;have c3:way∉ways:=fun x=>by grind
     rw[bl c3] at hC;subst hC;rw[dE c3] at ZM;obtain⟨g1,g2⟩:=c2;clear vt c1 c3 hK hF hsp hw hc;unfold aT at za eO KB ⊢;go_enter Tryz.func51,Tryz.ntmps51;go_wp2_with (first
      | (go_at_call 69;refine(za.o _ eO.o).mono ?_;rintro e w1 ⟨mb,rfl,qP,hm2,hb1⟩;have cT:=ai (bZ eO.o hb1);clear hb1 hm2)
      | (go_at_call 95;refine(ZM.o _ cT.o).mono ?_;rintro e w2 ⟨rfl,rfl⟩))
     exact HE.o _ cT.o
   · rw[bf c2] at hC;subst hC;clear vt ZM c1 hK hF hsp hw hc;unfold aT at za eO KB ⊢;rcases(show size<1∨(1<=size/\8<size) by omega) with g | ⟨g1,g2⟩
     · go_enter Tryz.func51,Tryz.ntmps51;go_wp2_with (go_at_call 69;refine(za.o _ eO.o).mono ?_;rintro e w1 ⟨mb,rfl,qP,hm2,hb1⟩;have cT:=ai (bZ eO.o hb1);clear hb1 hm2)
       exact HE.o _ cT.o
     · have g3:¬size<1:=by omega
       go_enter Tryz.func51,Tryz.ntmps51;go_wp2_with (go_at_call 69;refine(za.o _ eO.o).mono ?_;rintro e w1 ⟨mb,rfl,qP,hm2,hb1⟩;have cT:=ai (bZ eO.o hb1);clear hb1 hm2)
       exact HE.o _ cT.o
 · rw[bf c1] at hC;have za:=ai (fun V hV=>Eh (vt.o V hV) c1);rw[<- hC] at za;have cb:(C != 0)=true:=by grind
   clear vt ZM c1 hK hF hsp hw hc hC;unfold aT at za eO KB ⊢;go_enter Tryz.func51,Tryz.ntmps51;go_wp2_with (go_at_call 69;refine(za.o _ eO.o).mono ?_;rintro e w1 ⟨rfl,hb1⟩;have cT:=ai (bZ eO.o hb1);clear hb1)
   exact HE.o _ cT.o
theorem AG (zw:oD) (k:aN) (a:fP) (sp size way:Int) (ways:List Int) (aw:Option Addr) (cw:Nat) (w:World) (hK:fT w a k) (hF:gW k) (hsp:dY sp) (hw:dz eZ 1 0 w aw ways) (ID:ways.length<=1000000) (hc:eI k sp size way ways=0) :
  Calls Tryz.prog 51 #[.agg (aT a k),I sp,I size,I way,.slice aw ways.length cw] w (Ld w k):=by
 have c1:dM k sp=0:=by
  grind [eI]
 have c2:1<=size/\size<=8:=by
  grind [eI]
 have c3:way∈ways:=by
  grind [eI]
 have hR:=(jy c1).1;have hsm:=oC hR hF;have za:=ai (fun V (hV:Below w.heap.size w V)=>Ph (wZ k a sp V (hK.below hV) hF hsp) c1);have ZM:=ai (fun V (hV:Below w.heap.size w V)=>vD ways way aw cw V (hw.below hV) ID);rw[dh c3] at ZM;have eO:=ai ((aK w.heap.size w).alloc (aM _) (.cells (aT a k) 27));have HOW:Hid (∀V mb,Below w.heap.size w V->w.heap.size<=mb->V.heap[mb]?=some (.cells (mv a k) 104 (0,0))->Calls Tryz.prog 84 #[.pointer (some (Ad mb 0))] V fun e w'=>e=.returned (.tuple #[])/\Ld w k (.returned (.tuple #[.pointer (some (Ad mb 0)),I 0])) w'):=fun V mb hV qP hm2=>(Ha zw k a mb V (hK.below hV) hsm hm2 w.heap.size qP).mono fun e w' ⟨h1,S,hs,h2,h3,h4,h5⟩=>⟨h1,mb,S,hs,rfl,h2,h3,aH.below hV h5 hV.size (fun b e=>by omega)⟩
 obtain⟨P,hP⟩:=ex (Ld w k);rw[<- hP] at HOW ⊢;obtain⟨g1,g2⟩:=c2;clear c1 c3 hK hF hsp hw hc hR hsm hP;unfold aT at za eO ⊢;go_enter Tryz.func51,Tryz.ntmps51;go_wp2_with (first
  | (go_at_call 69;refine(za.o _ eO.o).mono ?_;rintro e w1 ⟨mb,rfl,qP,hm2,hb1⟩;have cT:=ai (bZ eO.o hb1);have Wd:=ai hm2;have JY:Hid (w.heap.size<=mb):=(by simp at qP;grind);clear hb1 hm2 qP)
  | (go_at_call 95;refine(ZM.o _ cT.o).mono ?_;rintro e w2 ⟨rfl,rfl⟩)
  | (go_at_call 84;refine(HOW.o _ _ cT.o JY.o Wd.o).mono ?_;rintro e w3 ⟨rfl,hq⟩;have HQ:=ai hq;clear hq))
 exact HQ.o
def cJ:aN:=⟨[],[],[],[],0⟩
def aeK:dN:=⟨fun _=>.no,Nl,Nl,Nl,Nl,[]⟩
def bN (w:World) (k:aN) (vs:List Value) (e:Ending) (w':World):Prop:=∃S hs,dw k.aA hs/\e=.returned (.tuple (Value.agg #[S.vS,S.vF,S.vL,S.vP,I k.hand]::vs).toArray)/\iZ w.heap.size w' S (bu k hs)/\Below w.heap.size w w'
theorem Pf (lo:Nat) (w:World):iZ lo w aeK cJ:=by
 refine⟨fun b hb=>absurd rfl hb,km _ _ _ _,fun i hi=>?_,km _ _ _ _,km _ _ _ _,km _ _ _ _,rfl,fun i hi=>?_,fun b hb=>?_,fun i hi=>?_,fun b hb=>?_,fun b hb=>?_,fun b hb=>?_,fun i hi=>?_,fun i hi=>?_⟩
 all_goals first | cases hb | cases hi
theorem mo {w w':World} (vs:List Value) (hb:Below w.heap.size w w'):bN w cJ vs (.returned (.tuple (Value.agg #[Nl,Nl,Nl,Nl,I 0]::vs).toArray)) w':=⟨aeK,[],rfl,rfl,Pf _ _,hb⟩
def iC (k:aN) (sp a n way:Int):aN×(Int×Int)×Int:=if eI k sp n way [0,1,2]≠0 then (cJ,(0,0),eI k sp n way [0,1,2]) else if (dQ (ak k.aj sp.toNat).aZ a n way).1≠0 then (cJ,dQ (ak k.aj sp.toNat).aZ a n way,0) else ((bh k sp.toNat a n way).2,(0,0),0)
theorem r9 {k:aN} {sp size way:Int} {ways:List Int} (h:eI k sp size way ways=0):dM k sp=0/\(1<=size/\size<=8)/\way∈ways:=by
 grind [eI]
theorem wB {W:World} {rb fb:Nat} (hr:W.heap[rb]?=some (.cells #[Nl,Nl,Nl,Nl,I 0] 27 (0,0))) (hf:W.heap[fb]?=some (.cells #[I 0,I 0] 36 (0,0))) (hne:rb≠fb) (s f l p h x y:Value) {V:World} (hV:V=((((((W.setCell (Ad rb 0) s).setCell (Ad rb 1) f).setCell (Ad rb 2) l).setCell (Ad rb 3) p).setCell (Ad rb 4) h).setCell (Ad fb 0) x).setCell (Ad fb 1) y) :
  V.heap[rb]?=some (.cells #[s,f,l,p,h] 27 (0,0))/\V.heap[fb]?=some (.cells #[x,y] 36 (0,0))/\aH (fun b=>b=rb∨b=fb) W V:=by
 have h1:(((((W.setCell (Ad rb 0) s).setCell (Ad rb 1) f).setCell (Ad rb 2) l).setCell (Ad rb 3) p).setCell (Ad rb 4) h).heap[rb]?=some (.cells #[s,f,l,p,h] 27 (0,0)):=dG (dG (dG (dG (dG hr 0 s) 1 f) 2 l) 3 p) 4 h;have aec:fb≠rb:=fun e=>hne e.symm
 have h2:=jT (jT (jT (jT (jT hf rb 0 s aec) rb 1 f aec) rb 2 l aec) rb 3 p aec) rb 4 h aec;subst hV;refine⟨jT (jT h1 fb 0 x hne) fb 1 y hne,dG (dG h2 0 x) 1 y,?_⟩;have k:∀(A:World) (g j:Nat) (v:Value),g=rb∨g=fb->aH (fun b=>b=rb∨b=fb) A (A.setCell (Ad g j) v):=fun A g j v hg=>aH.set _ A (Ad g j) v hg
 exact((((((k _ _ _ _ (.inl rfl)).trans (k _ _ _ _ (.inl rfl)) (fun _ _ g=>g)).trans (k _ _ _ _ (.inl rfl)) (fun _ _ g=>g)).trans (k _ _ _ _ (.inl rfl)) (fun _ _ g=>g)).trans (k _ _ _ _ (.inl rfl)) (fun _ _ g=>g)).trans (k _ _ _ _ (.inr rfl)) (fun _ _ g=>g)).trans (k _ _ _ _ (.inr rfl)) (fun _ _ g=>g)
theorem UH (V:World):dz eZ 1 0 (V.alloc (.cells #[I 0,I 1,I 2] 3)) (some (Ad V.heap.size 0)) [0,1,2]:=fun _=>by
 have h:=bG V #[I 0,I 1,I 2] 3;refine⟨V.heap.size,0,rfl,aO h,fun i hi j hj=>?_⟩;obtain rfl:j=0:=by omega
 have hi:i<3:=hi;rcases(show i=0∨i=1∨i=2 by omega) with rfl | rfl | rfl
 · exact aB h 0 rfl
 · exact aB h 1 rfl
 · exact aB h 2 rfl
theorem UI (zw:oD) (k:aN) (a:fP) (sp ad n way:Int) (w:World) (hK:fT w a k) (hF:gW k) (hsp:dY sp) (had:dY ad) :
  Calls Tryz.prog 17 #[.agg (aT a k),I sp,I ad,I n,I way] w (bN w (iC k sp ad n way).1 [.agg #[I (iC k sp ad n way).2.1.1,I (iC k sp ad n way).2.1.2],I (iC k sp ad n way).2.2]):=by
 obtain⟨WA,iK⟩:=ex (((w.alloc (.cells (aT a k) 27)).alloc (.cells #[Nl,Nl,Nl,Nl,I 0] 27)).alloc (.cells #[I 0,I 0] 36));have hb0:Below w.heap.size w WA:=by rw[iK];exact(((aK _ _).alloc (aM _) _).alloc (by simp) _).alloc (by simp;omega) _
 have kb:WA.heap[w.heap.size]?=some (.cells (aT a k) 27 (0,0)):=by grind [bE,bG]
 have rb:WA.heap[w.heap.size+1]?=some (.cells #[Nl,Nl,Nl,Nl,I 0] 27 (0,0)):=by
  grind [bE,bG,World.size_alloc]
 have fb:WA.heap[w.heap.size+1+1]?=some (.cells #[I 0,I 0] 36 (0,0)):=by
  grind [bG,World.size_alloc]
 have hsz:WA.heap.size=w.heap.size+3:=by simp_all
 obtain⟨WB,Xm⟩:=ex (WA.alloc (.cells #[I 0,I 1,I 2] 3));have hb1:Below w.heap.size w WB:=by grind [Below.alloc]
 have hrow:dz eZ 1 0 WB (some (Ad WA.heap.size 0)) [0,1,2]:=by grind [UH]
 have Oo:WB.heap.size=w.heap.size+4:=by simp_all
 have RB:Hid (∀V,Below WB.heap.size WB V->V.heap[w.heap.size+1]?=some (.cells #[Nl,Nl,Nl,Nl,I 0] 27 (0,0))):=fun V hb=>aQ (by grind [bE]) hb (by omega)
 have FB:Hid (∀V,Below WB.heap.size WB V->V.heap[w.heap.size+1+1]?=some (.cells #[I 0,I 0] 36 (0,0))):=fun V hb=>aQ (by grind [bE]) hb (by omega)
 have k0:WA.cell? (Ad w.heap.size 0)=some (.slice a.aS k.aA.length a.cS):=aB kb 0 rfl;have k1:WA.cell? (Ad w.heap.size 1)=some (.slice a.aF k.frames.length a.cF):=aB kb 1 rfl;have k2:WA.cell? (Ad w.heap.size 2)=some (.slice a.aL k.slots.length a.cL):=aB kb 2 rfl;have k3:WA.cell? (Ad w.heap.size 3)=some (.slice a.aP k.aj.length a.cP):=aB kb 3 rfl;have k4:WA.cell? (Ad w.heap.size 4)=some (I k.hand):=aB kb 4 rfl;have iG:=ai iK;have HWB:=ai Xm;have cT:=ai hb1;by_cases c:eI k sp n way [0,1,2]=0
 · obtain⟨hlv,hn,hwy⟩:=r9 c;obtain⟨hR,wR,hj,mN⟩:=jy hlv;obtain⟨j,Xh⟩:∃j:Nat,sp=(j:Int):=⟨sp.toNat,by omega⟩;subst Xh;rw[iu] at hj mN;have vt:=ai (AG zw k a (j:Int) n way [0,1,2] (some (Ad WA.heap.size 0)) 3 WB (hK.below hb1) hF hsp hrow (by simp) c);rw[show([0,1,2]:List Int).length=3 from rfl] at vt;have IJ:w.heap.size+1≠w.heap.size+1+1:=by omega
   have HLB:=ai (show w.heap.size+1+1<WB.heap.size by omega);by_cases hf:(dQ (ak k.aj j).aZ ad n way).1=0
   · obtain⟨Ov,hal,hau,hmap⟩:=kS hn.1 hn.2 hf;have qP:cV k j (ad/16):=by
      have:=hmap 0 (by omega) (by omega);rw[xM] at this;exact this
     have hm2:cV k j (bK ad n):=by
      have:=hmap (n-1) (by omega) (by omega);unfold bK;rw[show ad+n-1=ad+(n-1) by omega];exact this
     have hrk:=(l8 hR hj ad n way qP hm2).kept.aA;have hA:iC k (j:Int) ad n way=((bh k j ad n way).2,(0,0),0):=by
      unfold iC;rw[bl (fun x=>x c),iu,bl (fun x=>x hf)]
     rw[hA];have sS:Hid (∀V S mb hs,dw k.aA hs->bQ WB.heap.size mb 104 (ik k) V S (bu k hs)->Below w.heap.size w V->V.heap[w.heap.size+1]?=some (.cells #[Nl,Nl,Nl,Nl,I 0] 27 (0,0))->V.heap[w.heap.size+1+1]?=some (.cells #[I 0,I 0] 36 (0,0))->Calls Tryz.prog 52 #[.pointer (some (Ad mb 0)),I (j:Int),I ad,I n,I way] V fun e w'=>∃av nv cv aS nS cS aF nF cF aL nL cL aP nP cP hd,e=.returned (.tuple #[.slice av nv cv,.agg #[I 0,I 0]])/\w'.cell? (Ad mb 0)=some (.slice aS nS cS)/\w'.cell? (Ad mb 1)=some (.slice aF nF cF)/\w'.cell? (Ad mb 2)=some (.slice aL nL cL)/\w'.cell? (Ad mb 3)=some (.slice aP nP cP)/\w'.cell? (Ad mb 4)=some (I hd)/\mb<w'.heap.size/\w'.heap[w.heap.size+1]?=some (.cells #[Nl,Nl,Nl,Nl,I 0] 27 (0,0))/\w'.heap[w.heap.size+1+1]?=some (.cells #[I 0,I 0] 36 (0,0))/\Below w.heap.size w w'/\(∀U,aH (fun b=>b=w.heap.size+1∨b=w.heap.size+1+1) w' U->bN w (bh k j ad n way).2 [.agg #[I 0,I 0],I 0] (.returned (.tuple #[.agg #[.slice aS nS cS,.slice aF nF cF,.slice aL nL cL,.slice aP nP cP,I hd],.agg #[I 0,I 0],I 0])) U)):=fun V S mb hs hsame hV QJ hrV hfV=>by
      have hR':=hR.Dn hsame;refine(AH (bu k hs) S V j ad n way hV hR' hj had hn hf (Ei hR.lQ hsame)).mono fun e w' ⟨av,cv,S',e1,_,hk',hc'⟩=>?_
      rw[yR hR hj qP hsame] at hk' e1;have Gc:∀b,b<WB.heap.size->S.lab b=.no:=fun b hb=>pK.1 fun x=>by have:=(hV.qF b x).1;omega
      have Ox:=HLB.o;obtain⟨aS,cS,eS,_⟩:=aY hk'.aA;obtain⟨aF,cF,eF,_⟩:=aY hk'.frames;obtain⟨aL,cL,eL,_⟩:=aY hk'.slots;obtain⟨aP,cP,eP,_⟩:=aY hk'.aj;have c0:=hk'.c0;have c1:=hk'.c1;have c2:=hk'.c2;have c3:=hk'.c3;rw[eS] at c0;rw[eF] at c1;rw[eL] at c2;rw[eP] at c3;have hbl:Below w.heap.size w w':=aH.below QJ hc'.kp QJ.size (fun b hb=>by have:=(hV.qF b hb).1;omega);refine⟨av,_,cv,aS,_,cS,aF,_,cF,aL,_,cL,aP,_,cP,_,e1,c0,c1,c2,c3,hk'.c4,hk'.lt,hc'.keep hrV (Gc _ (by omega)),hc'.keep hfV (Gc _ Ox),hbl,fun U hU=>⟨S',hs,by rw[hrk];omega,by rw[eS,eF,eL,eP];rfl,?_,?_⟩⟩
      · exact(hk'.toiZ.kp hU (fun b hb e=>hb (hc'.no b (by have:=aO hfV;omega) (Gc b (by omega))))).mono (by omega)
      · exact aH.below hbl hU hbl.size (fun b e=>by omega)
     obtain⟨P,hP⟩:=ex (bN w (bh k j ad n way).2 [.agg #[I 0,I 0],I 0]);rw[<- hP] at sS;show Calls _ _ _ _ (bN w (bh k j ad n way).2 [.agg #[I 0,I 0],I 0]);rw[<- hP];have uq:Hid (Calls Tryz.prog 51 #[.agg (aT a k),I (j:Int),I n,I way,.slice (some (Ad WA.heap.size 0)) 3 3] WB fun e w'=>∃mb S hs,e=.returned (.tuple #[.pointer (some (Ad mb 0)),I 0])/\dw k.aA hs/\bQ WB.heap.size mb 104 (ik k) w' S (bu k hs)/\Below WB.heap.size WB w'):=vt.o;unfold aT at uq iG ⊢;clear hK hF hsp had hA c hP iK Xm hb0 hb1 kb rb fb hrow hsz Oo vt hf Ov hal hau hmap qP hm2 hrk hR hlv hn hwy hj mN wR;go_enter Tryz.func17,Tryz.ntmps17;go_upto_region 1 with fail;rw[<- iG.o];go_upto_region 7 with(first
      | (go_at_call 51;rw[<- HWB.o];refine uq.o.mono ?_;rintro e w1 ⟨mb,S1,hs1,rfl,hs2,hk1,hb1⟩;have fq:=ai (cT.o.trans (hb1.mono cT.o.size));have R1:=ai (RB.o _ hb1);have F1:=ai (FB.o _ hb1);have yj:=ai hk1;have mg:=ai hs2;clear hb1 hk1 hs2)
      | (go_at_call 52;refine(sS.o _ _ _ _ mg.o yj.o fq.o R1.o F1.o).mono ?_;rintro e w2 ⟨av,nv,cv,aS,nS,cS,aF,nF,cF,aL,nL,cL,aP,nP,cP,hd,rfl,m0,m1,m2,m3,m4,Bk,hr2,hf2,hb2,hfin⟩;have R2:=ai hr2;have F2:=ai hf2;have qN:=ai hfin;have X2:=ai (bG w2 #[I 0,I 0] 36);obtain⟨x0,x1⟩:=kI X2.o;clear hr2 hf2 hb2 hfin))
     have R3:=ai (bE R2.o (.cells #[I 0,I 0] 36));have F3:=ai (bE F2.o (.cells #[I 0,I 0] 36));have HA:=ai ((aK w2.heap.size w2).alloc (aM _) (.cells #[I 0,I 0] 36));have p0:=(HA.o.cell (p:=(Ad mb 0)) Bk).trans m0;have p1:=(HA.o.cell (p:=(Ad mb 1)) Bk).trans m1;have p2:=(HA.o.cell (p:=(Ad mb 2)) Bk).trans m2;have p3:=(HA.o.cell (p:=(Ad mb 3)) Bk).trans m3;have p4:=(HA.o.cell (p:=(Ad mb 4)) Bk).trans m4;obtain⟨W3,hW3⟩:=ex (w2.alloc (.cells #[I 0,I 0] 36));rw[<- hW3] at R3 F3 HA p0 p1 p2 p3 p4 ⊢;clear hW3 m0 m1 m2 m3 m4 x0 x1;obtain⟨y0,y1,y2,y3,y4⟩:=dx R3.o;obtain⟨z0,z1⟩:=kI F3.o;have f0:=aJ R3.o 0;have f1:=aJ R3.o 1;have f2:=aJ R3.o 2;have f3:=aJ R3.o 3;have f4:=aJ R3.o 4;have g0:=aJ F3.o 0;have g1:=aJ F3.o 1;have h7:=ai (fun V=>wB R3.o F3.o IJ (.slice aS nS cS) (.slice aF nF cF) (.slice aL nL cL) (.slice aP nP cP) (I hd) (I 0) (I 0) (V:=V));go_wp2;obtain⟨q1,q2,q3⟩:=h7.out _ rfl;obtain⟨y0,y1,y2,y3,y4⟩:=dx q1;obtain⟨z0,z1⟩:=kI q2;refine bR (v:=.tuple #[.agg #[.slice aS nS cS,.slice aF nF cF,.slice aL nL cL,.slice aP nP cP,I hd],.agg #[I 0,I 0],I 0]) (by simp[results,Tryz.results17,go_sem,y0,y1,y2,y3,y4,z0,z1]) rfl ?_;exact qN.o _ ((aH.b7 HA.o).trans q3 (fun _ _ g=>g))
   · have hA:iC k (j:Int) ad n way=(cJ,dQ (ak k.aj j).aZ ad n way,0):=by
      unfold iC
      grind
     rw[hA];obtain⟨FA,hFA⟩:=ex (dQ (ak k.aj j).aZ ad n way);have sS:Hid (∀V S mb hs,dw k.aA hs->bQ WB.heap.size mb 104 (ik k) V S (bu k hs)->Calls Tryz.prog 52 #[.pointer (some (Ad mb 0)),I (j:Int),I ad,I n,I way] V fun e w'=>e=.returned (.tuple #[Nl,.agg #[I FA.1,I FA.2]])/\Below V.heap.size V w'):=fun V S mb hs hsame hV=>by
      rw[hFA];exact yI (bu k hs) S V j ad n way hV (hR.Dn hsame) hj had hn hf
     rw[<- hFA] at hf ⊢;have G3:(FA.1 != 0)=true:=by grind
     have uq:Hid (Calls Tryz.prog 51 #[.agg (aT a k),I (j:Int),I n,I way,.slice (some (Ad WA.heap.size 0)) 3 3] WB fun e w'=>∃mb S hs,e=.returned (.tuple #[.pointer (some (Ad mb 0)),I 0])/\dw k.aA hs/\bQ WB.heap.size mb 104 (ik k) w' S (bu k hs)/\Below WB.heap.size WB w'):=vt.o;obtain⟨f0,f1⟩:=FA;simp only at sS G3 ⊢;have cZ:Hid (∀V,Below w.heap.size w V->bN w cJ [.agg #[I f0,I f1],I 0] (.returned (.tuple #[.agg #[Nl,Nl,Nl,Nl,I 0],.agg #[I f0,I f1],I 0])) V):=fun V hV=>mo _ hV
     obtain⟨P,hP⟩:=ex (bN w cJ [.agg #[I f0,I f1],I 0]);rw[<- hP] at cZ ⊢;unfold aT at uq iG ⊢;clear hK hF hsp had hA c hP iK Xm hb0 hb1 kb rb fb hrow hsz Oo vt hf hR hlv hn hwy hj mN wR hFA;go_enter Tryz.func17,Tryz.ntmps17;go_upto_region 1 with fail;rw[<- iG.o];go_upto_region 6 with(first
      | (go_at_call 51;rw[<- HWB.o];refine uq.o.mono ?_;rintro e w1 ⟨mb,S1,hs1,rfl,hs2,hk1,hb1⟩;have fq:=ai (cT.o.trans (hb1.mono cT.o.size));have R1:=ai (RB.o _ hb1);have F1:=ai (FB.o _ hb1);have yj:=ai hk1;have mg:=ai hs2;clear hb1 hk1 hs2)
      | (go_at_call 52;refine(sS.o _ _ _ _ mg.o yj.o).mono ?_;rintro e w2 ⟨rfl,hb2⟩;have R2:=ai (aQ R1.o hb2 (aO R1.o));have F2:=ai (aQ F1.o hb2 (aO F1.o));have jo:=ai (fq.o.trans (hb2.mono fq.o.size));have X2:=ai (bG w2 #[I f0,I f1] 36);obtain⟨x0,x1⟩:=kI X2.o;clear hb2))
     have R3:=ai (bE R2.o (.cells #[I f0,I f1] 36));have F3:=ai (bE F2.o (.cells #[I f0,I f1] 36));have kO:=ai (jo.o.alloc jo.o.size (.cells #[I f0,I f1] 36));have hl3:=aO F2.o;obtain⟨W3,hW3⟩:=ex (w2.alloc (.cells #[I f0,I f1] 36));rw[<- hW3] at R3 F3 kO x0 x1 ⊢;clear hW3;obtain⟨y0,y1,y2,y3,y4⟩:=dx R3.o;obtain⟨z0,z1⟩:=kI F3.o;have e0:=aJ R3.o 0;have e1:=aJ R3.o 1;have e2:=aJ R3.o 2;have e3:=aJ R3.o 3;have e4:=aJ R3.o 4;have g0:=aJ F3.o 0;have g1:=aJ F3.o 1;have h7:=ai (fun V=>wB R3.o F3.o IJ Nl Nl Nl Nl (I 0) (I f0) (I f1) (V:=V));go_region;go_wp2;obtain⟨q1,q2,q3⟩:=h7.out _ rfl;obtain⟨y0,y1,y2,y3,y4⟩:=dx q1;obtain⟨z0,z1⟩:=kI q2;refine bR (v:=.tuple #[.agg #[Nl,Nl,Nl,Nl,I 0],.agg #[I f0,I f1],I 0]) (by simp[results,Tryz.results17,go_sem,y0,y1,y2,y3,y4,z0,z1]) rfl ?_;exact cZ.o _ (aH.below kO.o (q3.trans (aH.drew _ _) (fun _ _ g=>g)) kO.o.size (fun b e=>by omega))
 · have hA:iC k sp ad n way=(cJ,(0,0),eI k sp n way [0,1,2]):=by unfold iC;grind
   rw[hA];have vt:=ai (yG k a sp n way [0,1,2] (some (Ad WA.heap.size 0)) 3 WB (hK.below hb1) hF hsp hrow (by simp) c);rw[show([0,1,2]:List Int).length=3 from rfl] at vt;obtain⟨C,hC⟩:=ex (eI k sp n way [0,1,2]);rw[<- hC] at vt c ⊢;have cb:(C != 0)=true:=by grind
   have cZ:Hid (∀V,Below w.heap.size w V->bN w cJ [.agg #[I 0,I 0],I C] (.returned (.tuple #[.agg #[Nl,Nl,Nl,Nl,I 0],.agg #[I 0,I 0],I C])) V):=fun V hV=>mo _ hV
   obtain⟨P,hP⟩:=ex (bN w cJ [.agg #[I 0,I 0],I C]);rw[<- hP] at cZ ⊢;unfold aT at vt iG ⊢;clear hK hF hsp had hA hC c hP iK Xm hb0 hb1 kb rb fb hrow hsz Oo;go_enter Tryz.func17,Tryz.ntmps17;go_upto_region 1 with fail;rw[<- iG.o];go_upto_region 3 with(go_at_call 51;rw[<- HWB.o];refine vt.o.mono ?_;rintro e w1 ⟨rfl,hb1⟩;have fq:=ai (cT.o.trans (hb1.mono cT.o.size));have R1:=ai (RB.o _ hb1);have F1:=ai (FB.o _ hb1);clear hb1)
   obtain⟨y0,y1,y2,y3,y4⟩:=dx R1.o;obtain⟨z0,z1⟩:=kI F1.o;have f0:=aJ R1.o 0;have f1:=aJ R1.o 1;have f2:=aJ R1.o 2;have f3:=aJ R1.o 3;have f4:=aJ R1.o 4;have g0:=aJ F1.o 0;have g1:=aJ F1.o 1;have h7:=ai (fun V=>wB R1.o F1.o (by omega) Nl Nl Nl Nl (I 0) (I 0) (I 0) (V:=V));go_wp2;obtain⟨q1,q2,q3⟩:=h7.out _ rfl;obtain⟨y0,y1,y2,y3,y4⟩:=dx q1;obtain⟨z0,z1⟩:=kI q2;refine bR (v:=.tuple #[.agg #[Nl,Nl,Nl,Nl,I 0],.agg #[I 0,I 0],I C]) (by simp[results,Tryz.results17,go_sem,y0,y1,y2,y3,y4,z0,z1]) rfl ?_;exact cZ.o _ (aH.below fq.o q3 fq.o.size (fun b e=>by omega))
theorem CM (l:List Nat):(AJ l).length=l.length:=by grind [AJ]
theorem Tc (l:List Nat) (n:Nat) (hn:n<l.length):CQ (AJ l) n=((l.getD n 0:Nat):Int):=by
 grind [CQ,AJ]
theorem Mf {lo mb:Nat} {tt:TypeId} {X:List Value} (k:aN) (S:dN) (w:World) (l:List Nat) (av:Option Addr) (cv:Nat) (h:bQ lo mb tt X w S k) (hH:kL w S av (AJ l)) (hl:∀n,n<l.length->l.getD n 0<k.frames.length) (hll:l.length<=2) (hsz:∀n,n<l.length->(au k.frames (l.getD n 0)).data.size<=1000) (rU:0<k.frames.length) :
  Calls Tryz.prog 64 #[.pointer (some (Ad mb 0)),.slice av l.length cv] w fun e w'=>e=.returned (.string (iT k.frames l l.length))/\w'=w:=by
 obtain⟨fb,cF,A⟩:=h.toiZ.fr rU;have c1:=h.c1;rw[A.v] at c1;have HX:=ai A.x0;have HH:=ai hH.has;have HL:=ai hl;have HSZ:=ai hsz;have HJB:Hid (∀n,n<=l.length->(iT k.frames l n).size<=n*1000):=fun n=>by
  induction n with
  | zero=>intro _;exact ql _
  | succ n ih =>
   grind [iT]
 obtain⟨nf,Xc⟩:=ex k.frames.length;rw[<- Xc] at c1 HX HL;clear h hH A hl hsz rU Xc;go_enter Tryz.func64,Tryz.ntmps64;go_wp2;go_loopw [5,10] (fun dv iv wr=>∃n:Nat,n<=l.length/\iv=I (n:Int)/\dv=.string (iT k.frames l n)/\wr=w) (fun _ iv _=>l.length-(intOf iv).toNat)
 case atStart=>exact⟨0,by omega,rfl,rfl,rfl⟩
 case round =>
  obtain⟨n,hn,rfl,rfl,rfl⟩:=hrel;by_cases hlt:n<l.length
  · have hni:(n:Int)<(l.length:Int):=by omega
    have hjb:=HJB.o n hn;have hs1:=HSZ.o n hlt;obtain⟨eb,eo,hao,hbl,fG⟩:=HH.o (by rw[CM];omega);subst hao;have y0:=fG n (by rw[CM];exact hlt) 0 (by omega);rw[gV,NC] at y0;have e0:=Tc l n hlt;have x0:wr.cell? (Ad eb (eo+n))=some (I ((l.getD n 0:Nat):Int)):=by
     rw[<- e0];exact y0
    have hq:=HL.o n hlt;have xF:=HX.o (l.getD n 0) hq;have rR:Hid (iT k.frames l (n+1)=iT k.frames l n++(au k.frames (l.getD n 0)).data):=rfl;obtain⟨q,hqe⟩:=ex (l.getD n 0);rw[<- hqe] at x0 xF rR hq hs1;obtain⟨FD,hFD⟩:=ex ((au k.frames q).data);rw[<- hFD] at xF rR hs1;obtain⟨JD,hJD⟩:=ex (iT k.frames l n);rw[<- hJD] at rR hjb ⊢;have hqi:(q:Int)<(nf:Int):=by omega
    clear fG y0 e0 hqe hFD hJD;go_wp2;go_roundw
    case rel=>exact⟨n+1,by omega,by go_num,by rw[rR.o],trivial⟩
    case measure=>simp[intOf];omega
  · obtain rfl:n=l.length:=by omega
    go_wp2;go_ret;exact⟨rfl,rfl⟩
end Go.Proofs.YtpgifpeohlllfaaGreat
end Go.Proofs.YtpgifpeohlllfaaGreat
