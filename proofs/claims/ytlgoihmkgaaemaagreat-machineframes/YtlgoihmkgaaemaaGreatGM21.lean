import Derived.Test.YtlgoihmkgaaemaaGreatGM20
set_option maxHeartbeats 20000000
set_option linter.unusedVariables false
set_option maxRecDepth 100000
set_option linter.unusedSimpArgs false
namespace Go.Proofs.YtlgoihmkgaaemaaGreat
open Go.RowKit
def qH (k:aR) (j:Nat) (a n way:Int):Nat->aR
 | 0=>k
 | 1=>(eU k j a way).2
 | _=>(kx k j a n way).2
def qb (k:aR) (j:Nat) (a n way:Int):Nat->List Int
 | 0=>[]
 | 1=>[((eU k j a way).1:Int)]
 | _=>[((eU k j a way).1:Int),((kx k j a n way).1:Int)]
def BB (l:List Nat):List Int:=l.map fun x:Nat=>(x:Int)
def nO (a n:Int):Nat:=if cj a n=a/16 then 1 else 2
theorem AU (k:aR) (j:Nat) (a n way:Int):aZ k j a n way=((aZ k j a n way).1,qH k j a n way (nO a n))/\BB (aZ k j a n way).1=qb k j a n way (nO a n)/\(aZ k j a n way).1.length=nO a n:=by
 unfold aZ nO;by_cases c:cj a n=a/16
 · rw[aB c,aB c];exact⟨rfl,rfl,rfl⟩
 · rw[au c,au c];exact⟨rfl,rfl,rfl⟩
theorem ajs (k:aR) (j:Nat) (a n way:Int):qH k j a n way 0=k:=rfl
theorem afg (k:aR) (j:Nat) (a n way:Int):qH k j a n way 1=(dG k j (a/16) way []).2:=by rfl
theorem ajr (k:aR) (j:Nat) (a n way:Int):qH k j a n way 2=(dG (dG k j (a/16) way []).2 j (cj a n) way [((dG k j (a/16) way []).1:Int)]).2:=by rfl
theorem aju (k:aR) (j:Nat) (a n way:Int):qb k j a n way 0=[]:=rfl
theorem afh (k:aR) (j:Nat) (a n way:Int):qb k j a n way 1=[((dG k j (a/16) way []).1:Int)]:=by rfl
theorem ajt (k:aR) (j:Nat) (a n way:Int):qb k j a n way 2=[((dG k j (a/16) way []).1:Int)]++[((dG (dG k j (a/16) way []).2 j (cj a n) way [((dG k j (a/16) way []).1:Int)]).1:Int)]:=by rfl
theorem aio.local {S S':gB} {w w2 w3:World} {D:Nat->Prop} (h:cI S w S' w2) (k:aC D w2 w3) (hd:∀b,D b->w.heap.size<=b):cI S w S' w3:=⟨⟨k.os.trans h.kp.os,k.tape.trans h.kp.tape,k.output.trans h.kp.output,gT h.kp.size k.size,fun b hb hn=>(k.block b (fV hb h.kp.size) (fun g=>by grind)).trans (h.kp.block b hb hn)⟩,h.no,h.eS,h.eF,h.eL,h.eP⟩
theorem TV (k:aR) (j:Nat) (a n way:Int) (m:Nat) (hm:m<=2):(qb k j a n way m).length=m:=by
 rcases(show m=0∨m=1∨m=2 by omega) with rfl | rfl | rfl <;> rfl
theorem Hx {lo mb:Nat} {tt:TypeId} {X:List Value} (k:aR) (S:gB) (w:World) (j:Nat) (a n way:Int) (h:bH lo mb tt X w S k) (hR:aY k) (hj:j<k.aj.length) (ha:cK a) (hn:1<=n/\n<=8) (hf:(bN (ak k.aj j).aT a n way).1=0) (hX:Ku X k.aM) :
  Calls Tryz.prog 272 #[.pointer (some (Ad mb 0)),I (j:Int),I a,I n,I way] w fun e w'=>∃av cv S',e=.returned (.tuple #[.slice av (aZ k j a n way).1.length cv,.agg #[I 0,I 0]])/\m8 w' S' av (BB (aZ k j a n way).1)/\bH lo mb tt X w' S' (aZ k j a n way).2/\cI S w S' w':=by
 have hcc:=hR.c;obtain⟨hf0,hal,hau,hmap⟩:=rD hn.1 hn.2 hf;have nC:dX k j (a/16):=by
  have:=hmap 0 (by omega) (by omega);rw[C3] at this;exact this
 have hm2:dX k j (cj a n):=by
  have:=hmap (n-1) (by omega) (by omega);unfold cj;rw[show a+n-1=a+(n-1) by omega];exact this
 have hlast:cj a n=a/16+((nO a n:Nat):Int)-1:=by
  unfold nO
  grind [Mi]
 have hp2:nO a n=1∨nO a n=2:=by unfold nO;grind
 have A1:=(qK hR hj nC way (held:=[]) (by simp)).1;obtain⟨hr1,hr2,hr3⟩:=AU k j a n way;have hpw:∀m,m<nO a n->aY (qH k j a n way m)/\j<(qH k j a n way m).aj.length/\dX (qH k j a n way m) j (a/16+(m:Int))/\(qH k j a n way m).aM=k.aM/\(dG (qH k j a n way m) j (a/16+(m:Int)) way (qb k j a n way m)).2=qH k j a n way (m+1)/\qb k j a n way (m+1)=qb k j a n way m++[((dG (qH k j a n way m) j (a/16+(m:Int)) way (qb k j a n way m)).1:Int)]:=fun m hm=>by
  rcases(show m=0∨(m=1/\nO a n=2) by omega) with rfl | ⟨rfl,h2⟩
  · grind [ajs,aju,afg,afh]
  grind [afg,afh,ajr,ajt,fK.right,fK.kept,fE.mapped,fE.aM,fE.np]
 have HBR:Hid (∀V S' m av nv cv,m<nO a n->nv=m->bH lo mb tt X V S' (qH k j a n way m)->m8 V S' av (qb k j a n way m)->Calls Tryz.prog 284 #[.pointer (some (Ad mb 0)),I (j:Int),I (a/16+(m:Int)),I way,.slice av nv cv] V fun e w'=>∃i:Nat,e=.returned (I (i:Int))/\qb k j a n way (m+1)=qb k j a n way m++[(i:Int)]/\∃S2,bH lo mb tt X w' S2 (qH k j a n way (m+1))/\cI S' V S2 w'):=fun V S' m av nv cv hm hnv hV hh=>by
  obtain⟨q1,q2,q3,q4,q5,q6⟩:=hpw m hm;have hil:=TV k j a n way m (by omega);have:=Vu (qH k j a n way m) S' V j (a/16+(m:Int)) way (qb k j a n way m) av cv hV q1 q2 q3 (by grind) (by omega) hh;rw[hil] at this;subst hnv;refine this.mono fun e w' ⟨g1,S2,g2,g3⟩=>⟨_,g1,q6,S2,q5 ▸ g2,g3⟩
 have dm:Hid (∀V S' av nv cv,nv=nO a n->m8 V S' av (qb k j a n way (nO a n))->bH lo mb tt X V S' (qH k j a n way (nO a n))->cI S w S' V->(∃av' cv' S'',Ending.returned (.tuple #[.slice av nv cv,.agg #[I 0,I 0]])=.returned (.tuple #[.slice av' (aZ k j a n way).1.length cv',.agg #[I 0,I 0]])/\m8 V S'' av' (BB (aZ k j a n way).1)/\bH lo mb tt X V S'' (aZ k j a n way).2/\cI S w S'' V)):=fun V S' av nv cv e1 g1 g2 g3=>by
  have e2:(aZ k j a n way).2=qH k j a n way (nO a n):=dY Prod.snd hr1;exact⟨av,cv,S',by grind,by grind,by grind,g3⟩
 obtain⟨P,hP⟩:∃P:Ending->World->Prop,P=fun e w'=>∃av cv S',e=.returned (.tuple #[.slice av (aZ k j a n way).1.length cv,.agg #[I 0,I 0]])/\m8 w' S' av (BB (aZ k j a n way).1)/\bH lo mb tt X w' S' (aZ k j a n way).2/\cI S w S' w':=⟨_,rfl⟩
 have Ai:Hid (∀V S' av nv cv,nv=nO a n->m8 V S' av (qb k j a n way (nO a n))->bH lo mb tt X V S' (qH k j a n way (nO a n))->cI S w S' V->P (.returned (.tuple #[.slice av nv cv,.agg #[I 0,I 0]])) V):=fun V S' av nv cv e1 g1 g2 g3=>by grind
 rw[<- hP];obtain⟨pb,cP,A⟩:=h.toKr.sp (by omega);have c3:=h.c3;rw[A.v] at c3;have a1:=A.x1 j hj;have hfit:dH (ak k.aj j).aT:=lC _ (hR.sp hj).aT;have ES:=ai (fun V (hb:Below w.heap.size w V)=>Ui _ _ a n way V (gu.below (h.toKr.aT hj) hb) hfit ha (by omega));rw[hf0] at ES;obtain⟨ax,cx,IP,_,_⟩:=bh (h.each j hj).aT;rw[IP] at ES a1;have hji:(j:Int)<(k.aj.length:Int):=by omega
 have MH:=h.lt;have hpl:=A.lt;unfold gL at ES;simp only at ES;have gG:=ai ((aJ w.heap.size w).alloc (aH _) (.cells #[I 0,I 0] 75));have R0:=ai (bD w #[I 0,I 0] 75);have d3:=(gG.o.cell (p:=(Ad mb 3)) MH).trans c3;have d1:=(gG.o.cell (p:=(Ad pb (j*3+1))) hpl).trans a1;obtain⟨np,Ak⟩:=ex k.aj.length;rw[<- Ak] at d3 hji;obtain⟨na,qV⟩:=ex ((ak k.aj j).aT.length);rw[<- qV] at d1 ES;have n0:Hid (S.lab w.heap.size=.no):=h.toKr.new (aH _);have HKM:=ai h;have hlq:(a+n-1)/16=a/16+((nO a n:Nat):Int)-1:=hlast;have HIL:=ai (TV k j a n way);obtain⟨PG,hPG⟩:=ex (nO a n);rw[<- hPG] at HBR Ai hp2 hlq;have ha0:0<=a:=by omega
 have han:0<=a+n-1:=by omega
 have hw1:IntKind.i64.wrap (a+n)=a+n:=ve _ (by omega);have hw2:IntKind.i64.wrap (a+n-1)=a+n-1:=ve _ (by omega);obtain⟨i0,hin,hz0,hz1,hz2⟩:=jm Mw;have Ed:=ai hin;have Hh:=ai hz0;have FU:=ai hz1;have yH:=ai hz2;have aoM:a/16<=256:=by omega
 have hap:0<=a/16:=by omega
 obtain⟨Q,hQ⟩:=ex (a/16);have HQ:=ai hQ;rw[<- hQ] at HBR hlq aoM hap;have hqa:a.tdiv 16=Q:=by rw[hQ];exact Pb ha0
 have hqb:(a+n-1).tdiv 16=Q+(PG:Int)-1:=by rw[<- hlq];exact Pb han
 clear h hR hj A c3 a1 hfit IP hf0 hcc Ak qV ha hmap nC hm2 hlast A1 hr1 hr2 hr3 hpw dm hP hPG hX hf hal hau ha0 han hQ hin hz0 hz1 hz2 hlq;go_enter Tryz.func272,Tryz.ntmps272;go_wp2_with (go_at_call 283;refine(ES.o _ gG.o).mono ?_;rintro e w1 ⟨rfl,hb1⟩;have cM:=ai (bU gG.o hb1);have R1:=ai (aN R0.o hb1 (aI R0.o));have FX:=ai (bD w1 #[I 0,I 0] 75);obtain⟨y0,y1⟩:=qR FX.o;clear hb1)
 have jQ:=ai (cM.o.alloc cM.o.size (.cells #[I 0,I 0] 75));have R2:=ai (bl R1.o (.cells #[I 0,I 0] 75));obtain⟨W,hW⟩:=ex (w1.alloc (.cells #[I 0,I 0] 75));rw[<- hW] at jQ R2 y0 y1 ⊢;clear hW y0 y1 FX R1 cM;go_loopw [13,14] (fun fv pv wr=>∃(m:Nat) (S':gB) (av:Option Addr) (cv:Nat),m<=PG/\pv=I (Q+(m:Int))/\fv=.slice av m cv/\wr.ownsRow W.heap.size 3 1 (.slice av m cv) m ((qb k j a n way m).flatMap iz)/\(∀b,bW (.slice av m cv) b->S'.lab b=.no)/\bH lo mb tt X wr S' (qH k j a n way m)/\cI S W S' wr) (fun _ pv _=>(Q+(PG:Int)-intOf pv).toNat)
 case atStart=>exact⟨0,S,none,0,by omega,by simp,rfl,mC _ _ _ _,fun b hb=>(by cases hb),HKM.o.below jQ.o,cI.refl _ _⟩
 case round =>
  obtain⟨m,S',av,cv,hm,rfl,rfl,hrow,hno,rz,hch⟩:=hrel;have We:=ai hrow;have uP:=ai hno;have Ol:=ai hch;by_cases hlt:m<PG
  · have hle:Q+(m:Int)<=Q+(PG:Int)-1:=by omega
    have hil:=HIL.o m (by omega);have hrow2:=hrow;rw[<- hil] at hrow2;have zq:=(Fk (S:=S') (n:=m) (l:=qb k j a n way m) (by rw[hil];omega) hno).2;have aqc:=ai (HBR.o wr S' m av m cv hlt rfl rz zq);clear hrow hno rz hch hrow2 zq hil HKM;go_wp2_with (first
     | (at_builtin;refine fq (P:=Tryz.prog) rfl _ _ 48 rfl W.heap.size 3 i0 (I 0) 1 8 Tryz.underlying48 Ed.o Hh.o FU.o yH.o rfl (by decide) (.slice av m cv) m ((qb k j a n way m).flatMap iz) rfl Hj.o (some (Ad w2.heap.size 0)) 1 1 [I (i:Int)] rfl rfl (fun _=>⟨_,rfl,Gv (bD w2 _ _)⟩) (by intro u hu;simp at hu;rw[hu];rfl) (by unfold maxLen;omega) (by omega) (by have:=yA.o.kp.size;simp;omega) ?_;intro v' w' hown hgr hat;obtain⟨aG,cG,hvG,_,_⟩:=bh hown;subst hvG;have HO3:=ai hown;have HG3:=ai hgr;have Ce:=ai hat;clear hown hgr hat)
     | (go_at_call 284;refine aqc.o.mono ?_;rintro e w2 ⟨i,rfl,hid,S2,hk2,hc2⟩;have HID:=ai hid;have pM:=ai hk2;have yA:=ai (Ol.o.trans hc2);have HO1:=ai (hc2.kp.row We.o (fun b hb z=>z (uP.o b hb)));have Mr:=ai (fun b (hb:bW (.slice av m cv) b)=>hc2.no b (We.o.lt b hb).2 (uP.o b hb));have Hj:=ai (HO1.o.alloc (.cells #[I (i:Int)] 3));clear hid hk2 hc2))
    go_roundw
    case rel =>
     have kA:aC (fun b=>bW (.slice av m cv) b) w2 (w2.alloc (.cells #[I (i:Int)] 3)):=aC.alloc _ _ _;have kB:=kA.trans (aC.grown (D:=fun b=>bW (.slice av m cv) b) HG3.o (fun q hq=>hq)) (fun _ _ g=>g);have hlab:∀b,bW (.slice aG (m+1) cG) b->S2.lab b=.no:=fun b hb=>by
      rcases Ce.o with g | g
      · exact Mr.o b (by show Value.ownBlock _=_;rw[<- g];exact hb)
      · have hb:Value.ownBlock _=some b:=hb;rw[g] at hb;injection hb with hb;rw[fM] at hb;exact pM.o.toKr.new (by omega)
     refine⟨m+1,S2,aG,cG,by omega,by go_num,rfl,?_,hlab,?_,?_⟩
     · rw[HID.o,xw];have e:[(i:Int)].flatMap iz=[I (i:Int)]:=rfl;rw[e];exact HO3.o
     · exact pM.o.kp kB (fun b hb g=>hb (Mr.o b g))
     · exact aio.local yA.o kB (fun b g=>(HO1.o.lt b g).1)
    case measure=>simp[intOf];omega
  · obtain rfl:m=PG:=by omega
    have hgt:¬Q+(m:Int)<=Q+(m:Int)-1:=by omega
    have hil:=HIL.o m (by omega);have zq:=(Fk (S:=S') (n:=m) (l:=qb k j a n way m) (by rw[hil];omega) hno).2;have HHE:=ai zq;have HKE:=ai rz;have RW:=ai (hch.keep R2.o n0.out);obtain⟨y0,y1⟩:=qR RW.o;have q0:=aQ RW.o 0;have q1:=aQ RW.o 1;have HCW:=ai ((cI.below jQ.o).trans hch);have hnl:S'.lab w.heap.size=.no:=hch.no _ (aI R2.o) n0.out;have HKF:Hid (∀V,V=(wr.setCell (Ad w.heap.size 0) (I 0)).setCell (Ad w.heap.size 1) (I 0)->m8 V S' av (qb k j a n way m)/\bH lo mb tt X V S' (qH k j a n way m)/\cI S w S' V/\V.heap[w.heap.size]?=some (.cells #[I 0,I 0] 75 (0,0))):=fun V hV=>by
     have kp:aC (fun b=>b=w.heap.size) wr V:=by rw[hV];exact(aC.set (fun b=>b=w.heap.size) wr (Ad w.heap.size 0) _ rfl).trans (aC.set (fun b=>b=w.heap.size) _ (Ad w.heap.size 1) _ rfl) (fun _ _ g=>g)
     refine⟨⟨TW.kp HHE.o.has kp (fun b off e z=>?_),HHE.o.no,fun b off e=>fV (HHE.o.lt b off e) kp.size⟩,HKE.o.kp kp (fun b hb z=>hb (by rw[z];exact hnl)),aio.local HCW.o kp (fun b z=>by omega),by rw[hV];exact fF (fF RW.o 0 _) 1 _⟩;have:W.heap.size<=b:=by
      subst e;rcases We.o.2 with⟨h0,_⟩ | ⟨g,cap',cur,hv,hbs,_⟩
      · cases h0
      · injection hv with e1 _ _;injection e1 with e1;injection e1 with e1 _ _;omega
     have:=aI R2.o;omega
    have HX2:=ai (fun V (hV:V=(wr.setCell (Ad w.heap.size 0) (I 0)).setCell (Ad w.heap.size 1) (I 0))=>Ai.o V S' av m cv rfl (HKF.o V hV).1 (HKF.o V hV).2.1 (HKF.o V hV).2.2.1);clear hrow hno rz hch zq hil HKM HHE HKE HCW hnl HBR;go_wp2;obtain⟨v0,v1⟩:=qR (HKF.o _ rfl).2.2.2;refine bK (v:=.tuple #[.slice av m cv,.agg #[I 0,I 0]]) (by simp[results,Tryz.results272,go_sem,v0,v1]) rfl ?_;exact HX2.o _ rfl
open Go.RowKit
structure Fh (k:aR):Prop where
 aM:k.aM.length<=1000000
 eO:∀i,i<k.aM.length->(bu k.aM i).eO.length<=1000000
 frames:k.frames.length<=1000000
 slots:k.slots.length<=1000000
 aj:k.aj.length<=1000000
 aT:∀i,i<k.aj.length->(ak k.aj i).aT.length<=1000000
 bf:∀i,i<k.aj.length->(ak k.aj i).bf.length<=1000000
def Vp (w:World) (k:aR) (e:Ending) (w':World):Prop:=∃S hs,cE k.aM hs/\e=.returned (.agg #[S.vS,S.vF,S.vL,S.vP,I k.hand])/\Kr w.heap.size w' S (aU k hs)/\Below w.heap.size w w'
open Go.RowKit
def ra:Prop:=∀(k:aR) (a:ja) (w:World),jo w a k->Fh k->Calls Tryz.prog 79 #[.agg (bc a k)] w (Vp w k)
def ie (k:aR):List Value:=qI (lY k.aM k.aM.length) 256
theorem MT {k:aR} (hr:gS k.aM=true) {hs:List bG} (h:cE k.aM hs):Ku (ie k) hs:=fun n hn=>by
 grind [ie,Fm,Fp,Fy]
theorem Hv {hs:List bG} (h:gS hs=true) (i:Nat) (hi:i<hs.length):(bu hs i).eO.length<=16:=by
 have all:∀n,jT hs n=true->∀i,i<n->df (bu hs i)=true:=fun n=>by
  induction n with
  | zero=>omega
  | succ n ih =>
   grind [jT]
 have hb:=all hs.length h i hi;unfold df at hb;rw[eG] at hb;have:=sF _ _ hb.2;omega
theorem sG {k:aR} (hR:aY k) (hF:o7 k):Fh k:=by
 have hc:=hR.c;refine⟨by omega,fun i hi=>?_,by omega,by omega,by omega,fun i hi=>?_,fun i hi=>by grind [nW]⟩
 · grind [Hv,aY.mn]
 · have:=oa _ (hR.sp hi).aT;omega
theorem aff {lo mb:Nat} {w' V:World} {S:gB} {k:aR} {hs:List bG} {k0:aR} {a:ja} (hr:Kr lo w' S (aU k hs)) (hm:w'.heap[mb]?=some (.cells (m9 a k0) 158 (0,0))) (hlb:lo<=mb) (hno:S.lab mb=.no) (ht:ie k0=ie k)
  (hV:V=((((w'.setCell (Ad mb 0) S.vS).setCell (Ad mb 1) S.vF).setCell (Ad mb 2) S.vL).setCell (Ad mb 3) S.vP).setCell (Ad mb 4) (I k.hand)) :
  bH lo mb 158 (ie k) V ⟨fun b=>if b=mb then .head else S.lab b,S.vS,S.vF,S.vL,S.vP,S.L⟩ (aU k hs):=by
 have kp:aC (fun b=>b=mb) w' V:=by
  rw[hV];exact((((aC.set (fun b=>b=mb) w' (Ad mb 0) _ rfl).trans (aC.set (fun b=>b=mb) _ (Ad mb 1) _ rfl) (fun _ _ g=>g)).trans (aC.set (fun b=>b=mb) _ (Ad mb 2) _ rfl) (fun _ _ g=>g)).trans (aC.set (fun b=>b=mb) _ (Ad mb 3) _ rfl) (fun _ _ g=>g)).trans (aC.set (fun b=>b=mb) _ (Ad mb 4) _ rfl) (fun _ _ g=>g)
 have r1:=hr.kp kp (fun b hb e=>hb (by grind));have lb:∀b c,S.lab b=c->c≠.no->(if b=mb then oN.head else S.lab b)=c:=fun b c e hc=>by
  grind
 refine⟨⟨fun b hb=>?_,r1.aM,r1.eO,r1.frames,r1.slots,r1.aj,r1.len,r1.each,fun b hb=>lb b _ (r1.lS b hb) (by simp),fun i hi b hb=>lb b _ (r1.lX i hi b hb) (by simp),fun b hb=>lb b _ (r1.lF b hb) (by simp),fun b hb=>lb b _ (r1.lL b hb) (by simp),fun b hb=>lb b _ (r1.lP b hb) (by simp),fun i hi b hb=>lb b _ (r1.lA i hi b hb) (by simp),fun i hi b hb=>lb b _ (r1.lE i hi b hb) (by simp)⟩,?_,aB rfl⟩
 · by_cases c:b=mb
   · simp_all [aI]
   · have hb:(if b=mb then oN.head else S.lab b)≠.no:=hb;rw[au c] at hb;exact r1.yq b hb
 · rw[hV,fF (fF (fF (fF (fF hm 0 S.vS) 1 S.vF) 2 S.vL) 3 S.vP) 4 (I k.hand)];unfold m9 mD;rw[<- ht];congr 2
theorem Dy (GV:ra) (k:aR) (a:ja) (mb:Nat) (w:World) (hK:jo w a k) (hsm:Fh k) (hm:w.heap[mb]?=some (.cells (m9 a k) 158 (0,0))) (lo:Nat) (hlo:lo<=mb) :
  Calls Tryz.prog 267 #[.pointer (some (Ad mb 0))] w fun e w'=>e=.returned (.tuple #[])/\∃S hs,cE k.aM hs/\bH lo mb 158 (ie k) w' S (aU k hs)/\(∀b,S.lab b≠.no->b=mb∨w.heap.size<=b)/\aC (fun b=>b=mb) w w':=by
 have HCP:=ai (GV k a w hK hsm);have MH:=aI hm;have HM:=ai hm;have dm:Hid (∀w1 S hs V,cE k.aM hs->Kr w.heap.size w1 S (aU k hs)->Below w.heap.size w w1->V=((((w1.setCell (Ad mb 0) S.vS).setCell (Ad mb 1) S.vF).setCell (Ad mb 2) S.vL).setCell (Ad mb 3) S.vP).setCell (Ad mb 4) (I k.hand)->∃S hs,cE k.aM hs/\bH lo mb 158 (ie k) V S (aU k hs)/\(∀b,S.lab b≠.no->b=mb∨w.heap.size<=b)/\aC (fun b=>b=mb) w V):=fun w1 S hs V h1 h2 h3 h4=>by
  have nC:=aN HM.o h3 MH;have hno:S.lab mb=.no:=yM.1 fun x=>by grind [Kr.yq]
  have r1:Kr lo w1 S (aU k hs):=h2.mono (by omega);have m:=aff r1 nC hlo hno rfl h4;refine⟨_,hs,h1,m,fun b hb=>?_,?_⟩
  · by_cases c:b=mb
    · omega
    · have hb:(if b=mb then oN.head else S.lab b)≠.no:=hb;rw[au c] at hb;exact .inr (h2.yq b hb).1
  · have kp:aC (fun b=>b=mb) w1 V:=by
     rw[h4];exact((((aC.set (fun b=>b=mb) w1 (Ad mb 0) _ rfl).trans (aC.set (fun b=>b=mb) _ (Ad mb 1) _ rfl) (fun _ _ g=>g)).trans (aC.set (fun b=>b=mb) _ (Ad mb 2) _ rfl) (fun _ _ g=>g)).trans (aC.set (fun b=>b=mb) _ (Ad mb 3) _ rfl) (fun _ _ g=>g)).trans (aC.set (fun b=>b=mb) _ (Ad mb 4) _ rfl) (fun _ _ g=>g)
    exact(aC.bY h3).trans kp (fun _ _ g=>g)
 have amj:Hid (Calls Tryz.prog 79 #[.agg (bc a k)] w fun e w'=>∃S hs aS nS cS aF nF cF aL nL cL aP nP cP,S.vS=.slice aS nS cS/\S.vF=.slice aF nF cF/\S.vL=.slice aL nL cL/\S.vP=.slice aP nP cP/\cE k.aM hs/\e=.returned (.agg #[.slice aS nS cS,.slice aF nF cF,.slice aL nL cL,.slice aP nP cP,I k.hand])/\Kr w.heap.size w' S (aU k hs)/\Below w.heap.size w w'):=HCP.o.mono fun e w' ⟨S,hs,h1,h2,h3,h4⟩=>by
  obtain⟨aS,cS,eS,_⟩:=bh h3.aM;obtain⟨aF,cF,eF,_⟩:=bh h3.frames;obtain⟨aL,cL,eL,_⟩:=bh h3.slots;obtain⟨aP,cP,eP,_⟩:=bh h3.aj
  grind
 have c0:w.cell? (Ad mb 0)=some (.slice a.aS k.aM.length a.cS):=aq hm 0 rfl;have c1:w.cell? (Ad mb 1)=some (.slice a.aF k.frames.length a.cF):=aq hm 1 rfl;have c2:w.cell? (Ad mb 2)=some (.slice a.aL k.slots.length a.cL):=aq hm 2 rfl;have c3:w.cell? (Ad mb 3)=some (.slice a.aP k.aj.length a.cP):=aq hm 3 rfl;have c4:w.cell? (Ad mb 4)=some (I k.hand):=aq hm 4 rfl;have HCM:Hid (∀V,Below w.heap.size w V->(V.cell? (Ad mb 0)=some (.slice a.aS k.aM.length a.cS)/\V.cell? (Ad mb 1)=some (.slice a.aF k.frames.length a.cF)/\V.cell? (Ad mb 2)=some (.slice a.aL k.slots.length a.cL)/\V.cell? (Ad mb 3)=some (.slice a.aP k.aj.length a.cP)/\V.cell? (Ad mb 4)=some (I k.hand))/\V.frozen? (Ad mb 0)=false/\V.frozen? (Ad mb 1)=false/\V.frozen? (Ad mb 2)=false/\V.frozen? (Ad mb 3)=false/\V.frozen? (Ad mb 4)=false):=fun V hb=>by
  have h1:=aN HM.o hb MH;exact⟨⟨aq h1 0 rfl,aq h1 1 rfl,aq h1 2 rfl,aq h1 3 rfl,aq h1 4 rfl⟩,aQ h1 0,aQ h1 1,aQ h1 2,aQ h1 3,aQ h1 4⟩
 unfold bc at amj;clear hm hK hsm HCP;go_enter Tryz.func267,Tryz.ntmps267;go_wp2_with (go_at_call 79;refine amj.o.mono ?_;rintro e w1 ⟨S,hs,aS,nS,cS,aF,nF,cF,aL,nL,cL,aP,nP,cP,eS,eF,eL,eP,hsame,rfl,hkr,hb1⟩;have Ud:=ai (fun V=>dm.o w1 S hs V hsame hkr hb1);rw[eS,eF,eL,eP] at Ud;obtain⟨⟨y0,y1,y2,y3,y4⟩,f0,f1,f2,f3,f4⟩:=HCM.o w1 hb1;clear hsame hkr hb1 eS eF eL eP)
 refine uZ (v:=.tuple #[]) (by simp[results,Tryz.results267,go_sem]) rfl ?_;exact⟨rfl,Ud.o _ rfl⟩
open Go.RowKit
def iP (k:aR) (sp size way:Int) (ways:List Int):Int:=if fB k sp≠0 then fB k sp else if ¬(1<=size/\size<=8) then 3 else if way∈ways then 0 else 10
def Md (w:World) (k:aR) (e:Ending) (w':World):Prop:=∃mb S hs,e=.returned (.tuple #[.pointer (some (Ad mb 0)),I 0])/\cE k.aM hs/\bH w.heap.size mb 158 (ie k) w' S (aU k hs)/\Below w.heap.size w w'
theorem AQ {w:World} {a:ja} {k:aR} {sp:Int} (h:Calls Tryz.prog 76 #[.agg (bc a k),I sp] w (wR w a k (fB k sp))) (hc:fB k sp≠0):Calls Tryz.prog 76 #[.agg (bc a k),I sp] w fun e w'=>e=.returned (.tuple #[.pointer none,I (fB k sp)])/\Below w.heap.size w w':=h.mono fun e w' ⟨hb,hh⟩=>by
 grind
theorem Qn {w:World} {a:ja} {k:aR} {sp:Int} (h:Calls Tryz.prog 76 #[.agg (bc a k),I sp] w (wR w a k (fB k sp))) (hc:fB k sp=0):Calls Tryz.prog 76 #[.agg (bc a k),I sp] w fun e w'=>∃mb,e=.returned (.tuple #[.pointer (some (Ad mb 0)),I 0])/\w.heap.size<=mb/\w'.heap[mb]?=some (.cells (m9 a k) 158 (0,0))/\Below w.heap.size w w':=h.mono fun e w' ⟨hb,hh⟩=>by
 grind
theorem rC {k:aR} {sp:Int} (h:fB k sp=0):aY k/\0<=sp/\sp.toNat<k.aj.length/\(ak k.aj sp.toNat).live=true:=by
 grind [fB,vU]
theorem Fg (k:aR) (a:ja) (sp size way:Int) (ways:List Int) (aw:Option Addr) (cw:Nat) (w:World) (hK:jo w a k) (hF:o7 k) (hsp:cK sp) (hw:dW iz 1 0 w aw ways) (hwl:ways.length<=1000000) (hc:iP k sp size way ways≠0) :
  Calls Tryz.prog 271 #[.agg (bc a k),I sp,I size,I way,.slice aw ways.length cw] w fun e w'=>e=.returned (.tuple #[.pointer none,I (iP k sp size way ways)])/\Below w.heap.size w w':=by
 have Ah:=ai (fun V (hV:Below w.heap.size w V)=>xX k a sp V (hK.below hV) hF hsp);have HCT:=ai (fun V (hV:Below w.heap.size w V)=>wQ ways way aw cw V (hw.below hV) hwl);have gG:=ai ((aJ w.heap.size w).alloc (aH _) (.cells (bc a k) 30));have KB:=ai (bD w (bc a k) 30);obtain⟨C,hC⟩:=ex (iP k sp size way ways);rw[<- hC] at hc ⊢;obtain⟨P,hP⟩:∃P:Ending->World->Prop,P=fun e w'=>e=.returned (.tuple #[.pointer none,I C])/\Below w.heap.size w w':=⟨_,rfl⟩
 have HE:Hid (∀V,Below w.heap.size w V->P (.returned (.tuple #[.pointer none,I C])) V):=fun V hV=>by grind
 rw[<- hP];clear hP;unfold iP at hC;by_cases c1:fB k sp=0
 · rw[au (fun x=>x c1)] at hC;have Hj:=ai (fun V hV=>Qn (Ah.o V hV) c1);by_cases c2:1<=size/\size<=8
   · rw[au (fun x=>x c2)] at hC;have c3:way∉ways:=fun x=>by grind
     rw[au c3] at hC;subst hC;rw[je c3] at HCT;obtain⟨g1,g2⟩:=c2;clear Ah c1 c3 hK hF hsp hw hc;unfold bc at Hj gG KB ⊢;go_enter Tryz.func271,Tryz.ntmps271;go_wp2_with (first
      | (go_at_call 76;refine(Hj.o _ gG.o).mono ?_;rintro e w1 ⟨mb,rfl,nC,hm2,hb1⟩;have cM:=ai (bU gG.o hb1);clear hb1 hm2)
      | (go_at_call 282;refine(HCT.o _ cM.o).mono ?_;rintro e w2 ⟨rfl,rfl⟩))
     exact HE.o _ cM.o
   · rw[aB c2] at hC;subst hC;clear Ah HCT c1 hK hF hsp hw hc;unfold bc at Hj gG KB ⊢;rcases(show size<1∨(1<=size/\8<size) by omega) with g | ⟨g1,g2⟩
     · go_enter Tryz.func271,Tryz.ntmps271;go_wp2_with (go_at_call 76;refine(Hj.o _ gG.o).mono ?_;rintro e w1 ⟨mb,rfl,nC,hm2,hb1⟩;have cM:=ai (bU gG.o hb1);clear hb1 hm2)
       exact HE.o _ cM.o
     · have g3:¬size<1:=by omega
       go_enter Tryz.func271,Tryz.ntmps271;go_wp2_with (go_at_call 76;refine(Hj.o _ gG.o).mono ?_;rintro e w1 ⟨mb,rfl,nC,hm2,hb1⟩;have cM:=ai (bU gG.o hb1);clear hb1 hm2)
       exact HE.o _ cM.o
 · rw[aB c1] at hC;have Hj:=ai (fun V hV=>AQ (Ah.o V hV) c1);rw[<- hC] at Hj;have cb:(C != 0)=true:=by grind
   clear Ah HCT c1 hK hF hsp hw hc hC;unfold bc at Hj gG KB ⊢;go_enter Tryz.func271,Tryz.ntmps271;go_wp2_with (go_at_call 76;refine(Hj.o _ gG.o).mono ?_;rintro e w1 ⟨rfl,hb1⟩;have cM:=ai (bU gG.o hb1);clear hb1)
   exact HE.o _ cM.o
theorem Hw (GV:ra) (k:aR) (a:ja) (sp size way:Int) (ways:List Int) (aw:Option Addr) (cw:Nat) (w:World) (hK:jo w a k) (hF:o7 k) (hsp:cK sp) (hw:dW iz 1 0 w aw ways) (hwl:ways.length<=1000000) (hc:iP k sp size way ways=0) :
  Calls Tryz.prog 271 #[.agg (bc a k),I sp,I size,I way,.slice aw ways.length cw] w (Md w k):=by
 have c1:fB k sp=0:=by
  grind [iP]
 have c2:1<=size/\size<=8:=by
  grind [iP]
 have c3:way∈ways:=by
  grind [iP]
 have hR:=(rC c1).1;have hsm:=sG hR hF;have Hj:=ai (fun V (hV:Below w.heap.size w V)=>Qn (xX k a sp V (hK.below hV) hF hsp) c1);have HCT:=ai (fun V (hV:Below w.heap.size w V)=>wQ ways way aw cw V (hw.below hV) hwl);rw[gU c3] at HCT;have gG:=ai ((aJ w.heap.size w).alloc (aH _) (.cells (bc a k) 30));have HOW:Hid (∀V mb,Below w.heap.size w V->w.heap.size<=mb->V.heap[mb]?=some (.cells (m9 a k) 158 (0,0))->Calls Tryz.prog 267 #[.pointer (some (Ad mb 0))] V fun e w'=>e=.returned (.tuple #[])/\Md w k (.returned (.tuple #[.pointer (some (Ad mb 0)),I 0])) w'):=fun V mb hV nC hm2=>(Dy GV k a mb V (hK.below hV) hsm hm2 w.heap.size nC).mono fun e w' ⟨h1,S,hs,h2,h3,h4,h5⟩=>⟨h1,mb,S,hs,rfl,h2,h3,aC.below hV h5 hV.size (fun b e=>by omega)⟩
 obtain⟨P,hP⟩:=ex (Md w k);rw[<- hP] at HOW ⊢;obtain⟨g1,g2⟩:=c2;clear c1 c3 hK hF hsp hw hc hR hsm hP;unfold bc at Hj gG ⊢;go_enter Tryz.func271,Tryz.ntmps271;go_wp2_with (first
  | (go_at_call 76;refine(Hj.o _ gG.o).mono ?_;rintro e w1 ⟨mb,rfl,nC,hm2,hb1⟩;have cM:=ai (bU gG.o hb1);have Jk:=ai hm2;have RO:Hid (w.heap.size<=mb):=(by simp at nC;grind);clear hb1 hm2 nC)
  | (go_at_call 282;refine(HCT.o _ cM.o).mono ?_;rintro e w2 ⟨rfl,rfl⟩)
  | (go_at_call 267;refine(HOW.o _ _ cM.o RO.o Jk.o).mono ?_;rintro e w3 ⟨rfl,hq⟩;have HQ:=ai hq;clear hq))
 exact HQ.o
open Go.RowKit
def ed:aR:=⟨[],[],[],[],0⟩
def afc:gB:=⟨fun _=>.no,Nl,Nl,Nl,Nl,[]⟩
def b9 (w:World) (k:aR) (vs:List Value) (e:Ending) (w':World):Prop:=∃S hs,cE k.aM hs/\e=.returned (.tuple (Value.agg #[S.vS,S.vF,S.vL,S.vP,I k.hand]::vs).toArray)/\Kr w.heap.size w' S (aU k hs)/\Below w.heap.size w w'
theorem aaU (lo:Nat) (w:World):Kr lo w afc ed:=by
 refine⟨fun b hb=>absurd rfl hb,mC _ _ _ _,fun i hi=>?_,mC _ _ _ _,mC _ _ _ _,mC _ _ _ _,rfl,fun i hi=>?_,fun b hb=>?_,fun i hi=>?_,fun b hb=>?_,fun b hb=>?_,fun b hb=>?_,fun i hi=>?_,fun i hi=>?_⟩
 all_goals first | cases hb | cases hi
theorem qw {w w':World} (vs:List Value) (hb:Below w.heap.size w w'):b9 w ed vs (.returned (.tuple (Value.agg #[Nl,Nl,Nl,Nl,I 0]::vs).toArray)) w':=⟨afc,[],rfl,rfl,aaU _ _,hb⟩
theorem Kp {k:aR} {sp size way:Int} {ways:List Int} (h:iP k sp size way ways=0):fB k sp=0/\(1<=size/\size<=8)/\way∈ways:=by
 grind [iP]
theorem Dx {W:World} {rb fb:Nat} (hr:W.heap[rb]?=some (.cells #[Nl,Nl,Nl,Nl,I 0] 30 (0,0))) (hf:W.heap[fb]?=some (.cells #[I 0,I 0] 75 (0,0))) (hne:rb≠fb) (s f l p h x y:Value) {V:World} (hV:V=((((((W.setCell (Ad rb 0) s).setCell (Ad rb 1) f).setCell (Ad rb 2) l).setCell (Ad rb 3) p).setCell (Ad rb 4) h).setCell (Ad fb 0) x).setCell (Ad fb 1) y) :
  V.heap[rb]?=some (.cells #[s,f,l,p,h] 30 (0,0))/\V.heap[fb]?=some (.cells #[x,y] 75 (0,0))/\aC (fun b=>b=rb∨b=fb) W V:=by
 have h1:(((((W.setCell (Ad rb 0) s).setCell (Ad rb 1) f).setCell (Ad rb 2) l).setCell (Ad rb 3) p).setCell (Ad rb 4) h).heap[rb]?=some (.cells #[s,f,l,p,h] 30 (0,0)):=fF (fF (fF (fF (fF hr 0 s) 1 f) 2 l) 3 p) 4 h;have aeI:fb≠rb:=fun e=>hne e.symm
 have h2:=mh (mh (mh (mh (mh hf rb 0 s aeI) rb 1 f aeI) rb 2 l aeI) rb 3 p aeI) rb 4 h aeI;subst hV;refine⟨mh (mh h1 fb 0 x hne) fb 1 y hne,fF (fF h2 0 x) 1 y,?_⟩;have k:∀(A:World) (g j:Nat) (v:Value),g=rb∨g=fb->aC (fun b=>b=rb∨b=fb) A (A.setCell (Ad g j) v):=fun A g j v hg=>aC.set _ A (Ad g j) v hg
 exact((((((k _ _ _ _ (.inl rfl)).trans (k _ _ _ _ (.inl rfl)) (fun _ _ g=>g)).trans (k _ _ _ _ (.inl rfl)) (fun _ _ g=>g)).trans (k _ _ _ _ (.inl rfl)) (fun _ _ g=>g)).trans (k _ _ _ _ (.inl rfl)) (fun _ _ g=>g)).trans (k _ _ _ _ (.inr rfl)) (fun _ _ g=>g)).trans (k _ _ _ _ (.inr rfl)) (fun _ _ g=>g)
open Go.RowKit
theorem VU {s:bG} (h:df s=true):Dw s:=by
 unfold df oY at h;rw[eG,kR] at h;obtain⟨⟨h1,h2,h3⟩,hf⟩:=h;have hl:=sF _ _ hf;refine⟨⟨by omega,by omega⟩,by unfold cu;omega,by unfold cu;omega,fun k hk=>?_⟩;have all:∀n,fJ s.eO n=true->∀i,i<n->fJ s.eO i=true/\yU (qX s.eO i) (nN s.eO i)=true:=fun n=>by
  induction n with
  | zero=>intro _ i hi;omega
  | succ n ih =>
   intro hn i hi;simp only[fJ,eG] at hn;by_cases c:i=n
   · rw[c];exact hn
   · exact ih hn.1 i (by omega)
 obtain⟨g1,g2⟩:=all _ hf k hk;have g3:=sF _ _ g1;unfold yU at g2;rw[kR] at g2;exact⟨⟨by omega,by omega⟩,by unfold cu;omega⟩
theorem SV {hs:List bG} (h:gS hs=true) (hl:hs.length<=255):qZ hs:=⟨by unfold cu;omega,fun k hk=>VU (qF hs hs.length h k hk).1⟩
theorem pj {k:aR} (h:aY k):o7 k:=by
 have hc:=h.c;obtain⟨r1,r2⟩:=xW h;have hh:=h.hand;refine⟨SV h.mn (by omega),by unfold cu;omega,fun i hi=>⟨?_,?_⟩,by unfold cu;omega,fun i hi=>⟨?_,?_⟩,by unfold cu;omega,fun i hi=>⟨?_,?_,fun n hn=>?_⟩,⟨by omega,by omega⟩⟩
 · have f:=h.zt i hi;unfold cu;by_cases c:bT k.aj 1 i=[]
   · rw[f.zero c];exact rN _
   · rw[f.size c];decide
 · have:=r1 i hi;exact⟨by omega,by omega⟩
 · have f:=h.slt i hi;unfold cu;by_cases c:bT k.aj 2 i=[]
   · rw[f.zero c];exact rN _
   · rw[f.size c];decide
 · have:=r2 i hi;exact⟨by omega,by omega⟩
 · exact lC _ (h.sp hi).aT
 · have:=nW h hi;unfold cu;omega
 · have s:=h.sp hi;have he:aV (ak k.aj i).bf n∈(ak k.aj i).bf:=jL hn;obtain⟨e1,e2⟩:=s.ML _ he;have e3:=ik s.aT e1;rcases e2 with⟨e4,e5,e6⟩ | ⟨e4,e5,e6⟩
   · exact⟨⟨by omega,by omega⟩,by rw[e4];exact⟨by decide,by decide⟩,⟨by omega,by omega⟩⟩
   · exact⟨⟨by omega,by omega⟩,by rw[e4];exact⟨by decide,by decide⟩,⟨by omega,by omega⟩⟩
theorem Ns {lo:Nat} {w:World} {S:gB} {k:aR} (h:Kr lo w S k):∃a,#[S.vS,S.vF,S.vL,S.vP,I k.hand]=bc a k/\∀U,aC (fun b=>b<lo) w U->jo U a k:=by
 obtain⟨a,p,_⟩:=h.has;refine⟨a,by unfold bc;rw[p.eS,p.eF,p.eL,p.eP],fun U hU=>?_⟩;obtain⟨a',p',ha⟩:=(h.kp hU (fun b hb e=>by have:=(h.yq b hb).1;omega)).has;have e1:=p.eS.symm.trans p'.eS;have e2:=p.eF.symm.trans p'.eF;have e3:=p.eL.symm.trans p'.eL;have e4:=p.eP.symm.trans p'.eP;injection e1 with q1 _ q2;injection e2 with q3 _ q4;injection e3 with q5 _ q6;injection e4 with q7 _ q8;have:a'=a:=by
  cases a;cases a';simp only at q1 q2 q3 q4 q5 q6 q7 q8;subst q1 q2 q3 q4 q5 q6 q7 q8;rfl
 rw[<- this];exact ha
def ahj (w:World) (k:aR) (vs:List Value) (e:Ending) (w':World):Prop:=∃hs a,cE k.aM hs/\e=.returned (.tuple (Value.agg (bc a (aU k hs))::vs).toArray)/\(∀U,aC (fun b=>b<w.heap.size) w' U->jo U a (aU k hs))/\Below w.heap.size w w'
theorem YT {w:World} {k:aR} {vs:List Value} {e:Ending} {w':World} (h:b9 w k vs e w'):ahj w k vs e w':=by
 obtain⟨S,hs,h1,h2,h3,h4⟩:=h;obtain⟨a,e1,e2⟩:=Ns h3;exact⟨hs,a,h1,by rw[h2,<- e1];rfl,e2,h4⟩
open Go.RowKit
theorem DB (l:List Nat):(BB l).length=l.length:=by unfold BB;rw[gV]
theorem TU (l:List Nat) (n:Nat) (hn:n<l.length):DI (BB l) n=((l.getD n 0:Nat):Int):=by
 unfold DI BB;rw[fy,Aq,fy,lR hn];rfl
theorem MW {lo mb:Nat} {tt:TypeId} {X:List Value} (k:aR) (S:gB) (w:World) (l:List Nat) (av:Option Addr) (cv:Nat) (h:bH lo mb tt X w S k) (hH:m8 w S av (BB l)) (hl:∀n,n<l.length->l.getD n 0<k.frames.length) (hll:l.length<=2) (hsz:∀n,n<l.length->(aD k.frames (l.getD n 0)).data.size<=1000) (Bt:0<k.frames.length) :
  Calls Tryz.prog 273 #[.pointer (some (Ad mb 0)),.slice av l.length cv] w fun e w'=>e=.returned (.string (iH k.frames l l.length))/\w'=w:=by
 obtain⟨fb,cF,A⟩:=h.toKr.fr Bt;have c1:=h.c1;rw[A.v] at c1;have HX:=ai A.x0;have HH:=ai hH.has;have HL:=ai hl;have HSZ:=ai hsz;have HJB:Hid (∀n,n<=l.length->(iH k.frames l n).size<=n*1000):=fun n=>by
  induction n with
  | zero=>intro _;exact rN _
  | succ n ih =>
   intro hn;unfold iH;rw[UB];have:=ih (by omega);have:=hsz n (by omega);omega
 obtain⟨nf,aeH⟩:=ex k.frames.length;rw[<- aeH] at c1 HX HL;clear h hH A hl hsz Bt aeH;go_enter Tryz.func273,Tryz.ntmps273;go_wp2;go_loopw [5,10] (fun dv iv wr=>∃n:Nat,n<=l.length/\iv=I (n:Int)/\dv=.string (iH k.frames l n)/\wr=w) (fun _ iv _=>l.length-(intOf iv).toNat)
 case atStart=>exact⟨0,by omega,rfl,rfl,rfl⟩
 case round =>
  obtain⟨n,hn,rfl,rfl,rfl⟩:=hrel;by_cases hlt:n<l.length
  · have hni:(n:Int)<(l.length:Int):=by omega
    have hjb:=HJB.o n hn;have hs1:=HSZ.o n hlt;obtain⟨eb,eo,hao,hbl,eX⟩:=HH.o (by rw[DB];omega);subst hao;have y0:=eX n (by rw[DB];exact hlt) 0 (by omega);rw[mA,OD] at y0;have e0:=TU l n hlt;have x0:wr.cell? (Ad eb (eo+n))=some (I ((l.getD n 0:Nat):Int)):=by
     rw[<- e0];exact y0
    have hq:=HL.o n hlt;have xF:=HX.o (l.getD n 0) hq;have wE:Hid (iH k.frames l (n+1)=iH k.frames l n++(aD k.frames (l.getD n 0)).data):=rfl;obtain⟨q,hqe⟩:=ex (l.getD n 0);rw[<- hqe] at x0 xF wE hq hs1;obtain⟨FD,hFD⟩:=ex ((aD k.frames q).data);rw[<- hFD] at xF wE hs1;obtain⟨JD,hJD⟩:=ex (iH k.frames l n);rw[<- hJD] at wE hjb ⊢;have hqi:(q:Int)<(nf:Int):=by omega
    clear eX y0 e0 hqe hFD hJD;go_wp2;go_roundw
    case rel=>exact⟨n+1,by omega,by go_num,by rw[wE.o],trivial⟩
    case measure=>simp[intOf];omega
  · obtain rfl:n=l.length:=by omega
    go_wp2;go_ret;exact⟨rfl,rfl⟩
open Go.RowKit
theorem zG (k:aR) (l:List Nat) (s:ByteArray):∀n,(lq k l s n).frames.length=k.frames.length
 | 0=>rfl
 | n+1=>by
  unfold lq vQ;show(List.set _ _ _).length=_;rw[fC,zG k l s n]
theorem Yu {lo mb:Nat} {tt:TypeId} {X:List Value} (k:aR) (S:gB) (w:World) (l:List Nat) (s:ByteArray) (av:Option Addr) (cv:Nat) (h:bH lo mb tt X w S k) (hH:m8 w S av (BB l)) (hl:∀n,n<l.length->l.getD n 0<k.frames.length) (hll:l.length<=2) (hs:l.length*16<=s.size) (hs2:s.size<=1000) (Bt:0<k.frames.length) :
  Calls Tryz.prog 278 #[.pointer (some (Ad mb 0)),.slice av l.length cv,.string s] w (mM lo mb tt X w S (.tuple #[]) (lq k l s l.length)):=by
 have HH:=ai hH;have HL:=ai hl;have LO:Hid (∀V n,n<l.length->bH lo mb tt X V S (lq k l s n)->∃fb cF,¬mb=fb/\V.cell? (Ad mb 1)=some (.slice (some (Ad fb 0)) k.frames.length cF)/\(∀V',Below V.heap.size V V'->V'.cell? (Ad fb (l.getD n 0*4))=some (.string (aD (lq k l s n).frames (l.getD n 0)).data)/\V'.frozen? (Ad fb (l.getD n 0*4))=false/\bH lo mb tt X (V'.setCell (Ad fb (l.getD n 0*4)) (.string (s.extract (n*16) (n*16+16)))) S (lq k l s (n+1))/\cI S V S (V'.setCell (Ad fb (l.getD n 0*4)) (.string (s.extract (n*16) (n*16+16)))))):=fun V n hn hV=>by
  obtain⟨fb,cF,A⟩:=hV.toKr.fr (by rw[zG];exact Bt);have c1:=hV.c1;rw[A.v,zG] at c1;refine⟨fb,cF,fun e=>by have:=A.lab;rw[<- e,hV.lH] at this;simp at this,c1,fun V' hb=>?_⟩;have hV':=hV.below hb;obtain⟨fb',cF',A'⟩:=hV'.toKr.fr (by rw[zG];exact Bt);have e:fb'=fb:=by
   have:=A'.v;rw[A.v] at this;injection this with e1 _ _;injection e1 with e1;injection e1 with e1 _ _;exact e1.symm
  subst e;have hi:l.getD n 0<(lq k l s n).frames.length:=by rw[zG];exact hl n hn
  exact⟨A'.x0 _ hi,A'.fz _,hV'.LQ A'.v hi (j:=0) (by omega) rfl,(cI.below hb).trans (zK hV'.toKr A'.v)⟩
 have HPA:Hid (∀V n,n<l.length->Calls Tryz.prog 171 #[.string s,I ((n:Int)*16),I 16] V fun e w'=>e=.returned (.tuple #[.string (s.extract (n*16) (n*16+16)),I 0])/\Below V.heap.size V w'):=fun V n hn=>by
  have:=Gt s (n*16) 16 V (by omega) (by omega);rw[show((n*16:Nat):Int)=(n:Int)*16 by omega,show((16:Nat):Int)=16 from rfl] at this;exact this
 have tM:=ai h;have dm:Hid (∀V,bH lo mb tt X V S (lq k l s l.length)->cI S w S V->mM lo mb tt X w S (.tuple #[]) (lq k l s l.length) (.returned (.tuple #[])) V):=fun V h1 h2=>⟨rfl,h1,h2⟩
 obtain⟨P,hP⟩:=ex (mM lo mb tt X w S (.tuple #[]) (lq k l s l.length));rw[<- hP] at dm ⊢;obtain⟨nf,aeH⟩:=ex k.frames.length;rw[<- aeH] at LO HL;clear h hH hl Bt aeH hs hs2 hP;go_enter Tryz.func278,Tryz.ntmps278;go_wp2;go_loopw [10] (fun iv wr=>∃n:Nat,n<=l.length/\iv=I (n:Int)/\bH lo mb tt X wr S (lq k l s n)/\cI S w S wr) (fun iv _=>l.length-(intOf iv).toNat)
 case atStart=>exact⟨0,by omega,rfl,tM.o,cI.refl _ _⟩
 case round =>
  obtain⟨n,hn,rfl,rz,hch⟩:=hrel;by_cases hlt:n<l.length
  · have hni:(n:Int)<(l.length:Int):=by omega
    have zq:=HH.o.ch hch;obtain⟨eb,eo,hao,hbl,eX⟩:=zq.has (by rw[DB];omega);subst hao;have y0:=eX n (by rw[DB];exact hlt) 0 (by omega);rw[mA,OD] at y0;have e0:=TU l n hlt;have x0:wr.cell? (Ad eb (eo+n))=some (I ((l.getD n 0:Nat):Int)):=by
     rw[<- e0];exact y0
    have hq:=HL.o n hlt;obtain⟨fb,cF,hmf,c1,hwr⟩:=LO.o wr n hlt rz;have HWR:=ai hwr;have ajH:=ai (fun V=>HPA.o V n hlt);have Ol:=ai hch;obtain⟨q,hqe⟩:=ex (l.getD n 0);rw[<- hqe] at x0 hq HWR;obtain⟨FD,hFD⟩:=ex ((aD (lq k l s n).frames q).data);rw[<- hFD] at HWR;obtain⟨PD,hPD⟩:=ex (s.extract (n*16) (n*16+16));rw[<- hPD] at HWR ajH;have hqi:(q:Int)<(nf:Int):=by omega
    have MH:mb<wr.heap.size:=oJ wr _ c1;have hmu:IntKind.i64.wrap ((n:Int)*16)=(n:Int)*16:=ve _ (by omega);clear eX y0 e0 hqe hFD hPD rz hch hwr zq tM;go_upto_region 3 with fail;have tM:=ai (aJ wr.heap.size wr).drew;have oh:Hid (wr.drew.cell? (Ad mb 1)=some (.slice (some (Ad fb 0)) nf cF)):=(tM.o.cell (p:=(Ad mb 1)) MH).trans c1
    go_region_held3 (fun V=>V.cell? (Ad mb 1)=some (.slice (some (Ad fb 0)) nf cF)) (first | exact si.o | exact oh.o | exact HS4.o)
     ((go_at_call 171;refine(ajH.o _).mono ?_;rintro r w5 ⟨rfl,LV⟩;have HK5:=ai (tM.o.trans (LV.mono tM.o.size));have si:Hid (w5.cell? (Ad mb 1)=some (.slice (some (Ad fb 0)) nf cF)):=(HK5.o.cell (p:=(Ad mb 1)) MH).trans c1;have HS4:Hid ((w5.setCell (Ad fb (q*4)) (.string PD)).cell? (Ad mb 1)=some (.slice (some (Ad fb 0)) nf cF)):=(b7 _ _ _ _ _ _ hmf).trans si.o;obtain⟨z0,z1,z2,z3⟩:=HWR.o w5 HK5.o;have yH:=ai z2;have HZ3:=ai z3;clear LV z2 z3))
    all_goals clear oh si HS4 ajH
    all_goals go_wp2
    go_roundw
    case rel=>exact⟨n+1,by omega,by go_num,yH.o,Ol.o.trans HZ3.o⟩
    case measure=>simp[intOf];omega
  · obtain rfl:n=l.length:=by omega
    have HX:=ai (dm.o wr rz hch);clear rz hch;go_wp2
    first
     | exact HX.o
     | (refine uZ (v:=.tuple #[]) (by simp[results,Tryz.results278,go_sem]) rfl ?_;exact HX.o)
end Go.Proofs.YtlgoihmkgaaemaaGreat
