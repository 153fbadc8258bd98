import Derived.Test.YtlgoihmkgaaemaaGreatGM34
set_option maxHeartbeats 20000000
set_option linter.unusedVariables false
set_option maxRecDepth 100000
set_option linter.unusedSimpArgs false
namespace Go.Proofs.YtlgoihmkgaaemaaGreat
open Go.RowKit
theorem Oe (m:iM) (r:Int×Option (dA aR)) (q:Nat) (a:ja) (ar ao:Option Addr) (cr co:Nat) (w:World) (h:uH w a ar ao m) (hf:K7 m) (hr:r.1=0->∃s,r.2=some s)
  (hc:jy m=0->∀(V:World) (lo mb gb:Nat) (D:Nat->Prop) (vr vo:Value),Below w.heap.size w V->w.heap.size<=lo->fQ (gz lo mb) lo mb gb V D vr vo (gZ m)->Calls Tryz.prog 61 #[.pointer (some ⟨gb,0,none⟩),.pointer (some ⟨q,0,none⟩)] V (zn (gz lo mb) lo mb gb V D vr vo r)) :
  Calls Tryz.prog 45 #[.agg (ia m a ar ao cr co),.func (.func 61) #[] #[.pointer (some ⟨q,0,none⟩)]] w (tK w (zS m r)):=by
 have EU:Hid (∀V,Below w.heap.size w V->Calls Tryz.prog 15 #[.agg (ia m a ar ao cr co)] V fun e w'=>e=.returned (I (jy m))/\Below V.heap.size V w'):=fun V hV=>VW m a ar ao cr co V (h.below hV) hf
 have HNM:Hid (jy m=0->∀V,Below w.heap.size w V->Calls Tryz.prog 79 #[.agg (bc a m.iZ)] V fun e w'=>∃s0 n0 q0 s1 n1 q1 s2 n2 q2 s3 n3 q3 hd,e=.returned (.agg #[.slice s0 n0 q0,.slice s1 n1 q1,.slice s2 n2 q2,.slice s3 n3 q3,I hd])/\Below V.heap.size V w'/\gz V.heap.size w'.heap.size (w'.alloc (.cells #[.slice s0 n0 q0,.slice s1 n1 q1,.slice s2 n2 q2,.slice s3 n3 q3,I hd] 185)) (fun b=>b=w'.heap.size∨(V.heap.size<=b/\b<w'.heap.size)) m.iZ):=fun hk V hV=>by
  obtain⟨c1,c2,c3,c4⟩:=A8 hk;refine(vI m.iZ a V (h.iZ.below hV) (sG c1 hf.iZ)).mono ?_;rintro e w' ⟨S,hs,g1,g2,g3,g4⟩;obtain⟨a',e1,e2⟩:=Ns g3;have e3:e=.returned (.agg (bc a' (aU m.iZ hs))):=by rw[g2,<- e1];rfl
  exact⟨_,_,_,_,_,_,_,_,_,_,_,_,_,e3,g4,abg g1 e2 g4⟩
 have Po:Hid (jy m=0->∀V,Below w.heap.size w V->Calls Tryz.prog 94 #[.slice ar m.procs.length cr] V fun e w'=>∃a' c',e=.returned (.slice a' m.procs.length c')/\w'.ownsRow V.heap.size 77 13 (.slice a' m.procs.length c') m.procs.length (m.procs.flatMap bQ)/\Below V.heap.size V w'):=fun hk V hV=>by
  obtain⟨c1,c2,c3,c4⟩:=A8 hk;have:=c1.c.2.2.1.2;refine(abP ar m.procs.length cr (m.procs.flatMap bQ) V (fT bQ 13 rI _) ((abe h.procs).below hV) (adE _) (by omega)).mono ?_;rintro e w' ⟨v,rfl,h1,h2⟩;obtain⟨a',c',rfl,_,_⟩:=bh h1;exact⟨a',c',rfl,h1,h2⟩
 have HWD:Hid (jy m=0->∀V,Below w.heap.size w V->Calls Tryz.prog 95 #[.slice ao m.out.length co] V fun e w'=>∃a' c',e=.returned (.slice a' m.out.length c')/\w'.ownsRow V.heap.size 91 2 (.slice a' m.out.length c') m.out.length (m.out.flatMap jz)/\Below V.heap.size V w'):=fun hk V hV=>by
  obtain⟨c1,c2,c3,c4⟩:=A8 hk;refine(abM ao m.out.length co (m.out.flatMap jz) V (fT jz 2 xL _) ((abc h.out).below hV) (adC _) (by omega)).mono ?_;rintro e w' ⟨v,rfl,h1,h2⟩;obtain⟨a',c',rfl,_,_⟩:=bh h1;exact⟨a',c',rfl,h1,h2⟩
 have HC:=ai hc;have HR:=ai hr;obtain⟨ck,Ju⟩:=ex (jy m);have HCF:Hid (zS m r=if ¬ck=0 then (vV,ck) else if ¬r.1=0 then (vV,r.1) else match r.2 with | none=>(vV,r.1) | some s=>(yz s,0)):=by rw[Ju];exact rfl
 rw[<- Ju] at EU HNM Po HWD HC;obtain⟨R,hR⟩:=ex (zS m r);rw[<- hR] at HCF ⊢;obtain⟨P,hP⟩:=ex (tK w R);have HP:Hid (∀e w',tK w R e w'->P e w'):=fun e w' h=>by rw[hP];exact h
 rw[<- hP];unfold ia at EU ⊢;unfold bc at HNM;obtain⟨x0,hx0⟩:∃n,n=m.iZ.aM.length:=⟨_,rfl⟩;obtain⟨x1,hx1⟩:∃n,n=m.iZ.frames.length:=⟨_,rfl⟩;obtain⟨x2,hx2⟩:∃n,n=m.iZ.slots.length:=⟨_,rfl⟩;obtain⟨x3,hx3⟩:∃n,n=m.iZ.aj.length:=⟨_,rfl⟩;obtain⟨x4,hx4⟩:∃n,n=m.iZ.hand:=⟨_,rfl⟩;obtain⟨np,Ak⟩:=ex m.procs.length;obtain⟨no,hno⟩:=ex m.out.length;rw[<- hx0,<- hx1,<- hx2,<- hx3,<- hx4] at EU HNM ⊢;rw[<- Ak,<- hno] at EU ⊢;rw[<- Ak] at Po;rw[<- hno] at HWD;have HNP:=ai Ak;have uP:=ai hno;have kX:=ai (((aJ w.heap.size w).alloc (aH _) (.cells #[.slice a.aS x0 a.cS,.slice a.aF x1 a.cF,.slice a.aL x2 a.cL,.slice a.aP x3 a.cP,I x4,.slice ar np cr,.slice ao no co] 34)).alloc (by simp) (.cells #[Nl,Nl,Nl,Nl,I 0,Nl,Nl] 34));have BX:=ai (bl (bD w #[.slice a.aS x0 a.cS,.slice a.aF x1 a.cF,.slice a.aL x2 a.cL,.slice a.aP x3 a.cP,I x4,.slice ar np cr,.slice ao no co] 34) (.cells #[Nl,Nl,Nl,Nl,I 0,Nl,Nl] 34));have BZ:=ai (bD (w.alloc (.cells #[.slice a.aS x0 a.cS,.slice a.aF x1 a.cF,.slice a.aL x2 a.cL,.slice a.aP x3 a.cP,I x4,.slice ar np cr,.slice ao no co] 34)) #[Nl,Nl,Nl,Nl,I 0,Nl,Nl] 34);clear h hf hc hr Ju hR hP hx0 hx1 hx2 hx3 hx4 Ak hno;go_enter Tryz.func45,Tryz.ntmps45;go_wp2_with fail
 obtain⟨WA,mj⟩:=ex ((w.alloc (.cells #[.slice a.aS x0 a.cS,.slice a.aF x1 a.cF,.slice a.aL x2 a.cL,.slice a.aP x3 a.cP,I x4,.slice ar np cr,.slice ao no co] 34)).alloc (.cells #[Nl,Nl,Nl,Nl,I 0,Nl,Nl] 34));have hsz1:(w.alloc (.cells #[.slice a.aS x0 a.cS,.slice a.aF x1 a.cF,.slice a.aL x2 a.cL,.slice a.aP x3 a.cP,I x4,.slice ar np cr,.slice ao no co] 34)).heap.size=w.heap.size+1:=by simp
 rw[hsz1] at BZ;rw[<- mj] at kX BX BZ ⊢;obtain⟨x,hxe⟩:=ex w.heap.size;obtain⟨z,hze⟩:=ex (w.heap.size+1);rw[<- hze] at BZ ⊢;rw[<- hxe] at BX ⊢;have HXE:=ai hxe;have HZE:=ai hze;have hxz:¬x=z:=by omega
 have hzx:¬z=x:=by omega
 have S6:Hid (∀V,Below WA.heap.size WA V->V.cell? ⟨x,0,none⟩=some (.slice a.aS x0 a.cS)/\V.cell? ⟨x,1,none⟩=some (.slice a.aF x1 a.cF)/\V.cell? ⟨x,2,none⟩=some (.slice a.aL x2 a.cL)/\V.cell? ⟨x,3,none⟩=some (.slice a.aP x3 a.cP)/\V.cell? ⟨x,4,none⟩=some (I x4)/\V.cell? ⟨x,5,none⟩=some (.slice ar np cr)/\V.cell? ⟨x,6,none⟩=some (.slice ao no co)):=fun V hb=>by
  have h1:=aN BX.o hb (aI BX.o);exact rV h1
 have HZC:Hid (∀V,Below WA.heap.size WA V->(V.cell? ⟨z,0,none⟩=some Nl/\V.cell? ⟨z,1,none⟩=some Nl/\V.cell? ⟨z,2,none⟩=some Nl/\V.cell? ⟨z,3,none⟩=some Nl/\V.cell? ⟨z,4,none⟩=some (I 0)/\V.cell? ⟨z,5,none⟩=some Nl/\V.cell? ⟨z,6,none⟩=some Nl)/\V.frozen? ⟨z,0,none⟩=false/\V.frozen? ⟨z,1,none⟩=false/\V.frozen? ⟨z,2,none⟩=false/\V.frozen? ⟨z,3,none⟩=false/\V.frozen? ⟨z,4,none⟩=false/\V.frozen? ⟨z,5,none⟩=false/\V.frozen? ⟨z,6,none⟩=false):=fun V hb=>by
  have h1:=aN BZ.o hb (aI BZ.o);exact⟨rV h1,aQ h1 0,aQ h1 1,aQ h1 2,aQ h1 3,aQ h1 4,aQ h1 5,aQ h1 6⟩
 have akA:=aI BZ.o;have HWZ:Hid (w.heap.size<=z):=(by rw[hze];omega:w.heap.size<=z);clear mj hsz1 hxe hze BX BZ;refine(EU.o _ kX.o).mono ?_;rintro e w1 ⟨rfl,hb1⟩;have cM:=ai hb1;obtain⟨⟨z0,z1,z2,z3,z4,z5,z6⟩,f0,f1,f2,f3,f4,f5,f6⟩:=HZC.o _ hb1;obtain⟨y0,y1,y2,y3,y4,y5,y6⟩:=S6.o _ hb1;clear hb1 EU;by_cases hk0:ck=0
 · subst hk0;have HC1:=ai (HC.o rfl);have al2:=ai (HNM.o rfl);have alW:=ai (Po.o rfl);have alO:=ai (HWD.o rfl);have ahI:Hid (R=if ¬r.1=0 then (vV,r.1) else match r.2 with | none=>(vV,r.1) | some s=>(yz s,0)):=by rw[HCF.o,au (fun g=>g rfl)];exact rfl
   clear HC HNM Po HWD HCF;go_wp2_with (go_at_call 79;refine(al2.o _ (kX.o.trans (cM.o.mono kX.o.size))).mono ?_;rintro e w2 ⟨s0,n0,q0,s1,n1,q1,s2,n2,q2,s3,n3,q3,hd,rfl,hb2,hm⟩;have Jk:=ai hm;have gP:=ai hb2;clear hm hb2)
   obtain⟨mb,hmb⟩:=ex w2.heap.size;obtain⟨D0,hD0⟩:∃D0:Nat->Prop,D0=fun b=>b=w2.heap.size∨(w1.heap.size<=b/\b<w2.heap.size):=⟨_,rfl⟩
   obtain⟨WM,hWM⟩:=ex (w2.alloc (.cells #[.slice s0 n0 q0,.slice s1 n1 q1,.slice s2 n2 q2,.slice s3 n3 q3,I hd] 185));have hbM:Below w1.heap.size w1 WM:=by rw[hWM];exact gP.o.alloc gP.o.size _
   rw[<- hD0,<- hWM,<- hmb] at Jk;rw[<- hWM,<- hmb];clear hmb hD0 hWM;have al6:=ai (cM.o.trans (hbM.mono cM.o.size));have pM:=ai al6.o.drew;have oh:=ai ((S6.o _ pM.o).2.2.2.2.2);clear y0 y1 y2 y3 y4 y5 y6 z0 z1 z2 z3 z4 z5 z6 f0 f1 f2 f3 f4 f5 f6 hbM;go_cut [8] (fun x8 wx=>∃gb D vr vo,x8=.pointer (some ⟨gb,0,none⟩)/\fQ (gz w1.heap.size mb) w1.heap.size mb gb wx D vr vo (gZ m)/\Below WA.heap.size WA wx)
   case first =>
    go_region_held3 (fun V=>V.cell? ⟨x,5,none⟩=some (.slice ar np cr)/\V.cell? ⟨x,6,none⟩=some (.slice ao no co)) (first | exact HS4.o | exact si.o | exact oh.o | exact(S6.o _ (HK4.o.alloc HK4.o.size _)).2.2.2.2.2)
     (first
      | (go_at_call 94;refine(alW.o _ (kX.o.trans (pM.o.mono kX.o.size))).mono ?_;rintro e w3 ⟨a3,c3,rfl,ho3,hb3⟩;have HO3:=ai ho3;have m7:=ai hb3;have Bg:=ai (pM.o.trans (hb3.mono pM.o.size));have si:=ai ((S6.o _ Bg.o).2.2.2.2.2);clear ho3 hb3)
      | (go_at_call 95;refine(alO.o _ (kX.o.trans (Bg.o.mono kX.o.size))).mono ?_;rintro e w4 ⟨a4,c4,rfl,ho4,hb4⟩;have HO4:=ai ho4;have sX:=ai hb4;have HK4:=ai (Bg.o.trans (hb4.mono Bg.o.size));have HS4:=ai ((S6.o _ HK4.o).2.2.2.2.2);clear ho4 hb4))
    all_goals
     go_wp2_with fail
     go_meet
     case rel =>
      refine⟨_,_,_,_,rfl,YY Jk.o ((aJ _ _).drew.trans m7.o) ?_ sX.o ?_,HK4.o.alloc HK4.o.size _⟩
      · rw[<- HNP.o];exact HO3.o
      · rw[<- uP.o];exact HO4.o
   case rest =>
    obtain⟨gb,D,vr,vo,rfl,hg,hbc⟩:=hcut;have HG:=ai hg;have HBC:=ai hbc;have HWB:=ai (kX.o.trans (hbc.mono kX.o.size));have HLO:Hid (w.heap.size<=w1.heap.size):=(by have:=kX.o.size;have:=cM.o.size;omega:w.heap.size<=w1.heap.size);have qu:=ai (HC1.o wc w1.heap.size mb gb D vr vo HWB.o HLO.o hg);have HGL:=ai (fun b=>fQ.lt (Pn w1.heap.size mb) hg b);have FU:Hid (z<w1.heap.size):=fV akA cM.o.size;clear hg hbc HC1 al2 alW alO Jk gP al6 pM oh;by_cases Xy:r.1=0
    · obtain⟨s,hs⟩:=HR.o Xy;have Hi:Hid (R=(yz s,0)):=by rw[ahI.o,au (fun g=>g Xy),hs];exact rfl
      obtain⟨n5,hn5⟩:∃n,n=s.ps.length:=⟨_,rfl⟩;obtain⟨n6,hn6⟩:∃n,n=s.out.length:=⟨_,rfl⟩;have Ww:Hid (Calls Tryz.prog 61 #[.pointer (some ⟨gb,0,none⟩),.pointer (some ⟨q,0,none⟩)] wc fun e w'=>∃s0 n0 q0 s1 n1 q1 s2 n2 q2 s3 n3 q3 hd a5 c5 a6 c6,e=.returned (I 0)/\Below WA.heap.size WA w'/\(w'.cell? ⟨mb,0,none⟩=some (.slice s0 n0 q0)/\w'.cell? ⟨mb,1,none⟩=some (.slice s1 n1 q1)/\w'.cell? ⟨mb,2,none⟩=some (.slice s2 n2 q2)/\w'.cell? ⟨mb,3,none⟩=some (.slice s3 n3 q3)/\w'.cell? ⟨mb,4,none⟩=some (I hd)/\w'.cell? ⟨gb,1,none⟩=some (.slice a5 n5 c5)/\w'.cell? ⟨gb,2,none⟩=some (.slice a6 n6 c6))/\(¬mb=z/\¬gb=z)/\∃hs a,cE s.mem.aM hs/\ia (mJ (yz s) hs) a a5 a6 c5 c6=#[.slice s0 n0 q0,.slice s1 n1 q1,.slice s2 n2 q2,.slice s3 n3 q3,I hd,.slice a5 n5 c5,.slice a6 n6 c6]/\∀V,aC (fun b=>b<=z) w' V->uH V a a5 a6 (mJ (yz s) hs)):=qu.o.mono fun e w' ⟨h1,h2,h3⟩=>by
       obtain⟨D',NU,NV,hg',_,_⟩:=h3 s hs;rw[Xy] at h1;obtain⟨s0,n0,q0,s1,n1,q1,s2,n2,q2,s3,n3,q3,hd,a5,c5,a6,c6,g1,g2,g3⟩:=YX hg' FU.o;rw[<- hn5,<- hn6] at g1 g3;exact⟨s0,n0,q0,s1,n1,q1,s2,n2,q2,s3,n3,q3,hd,a5,c5,a6,c6,h1,aC.below HBC.o h2 HBC.o.size (fun b hb=>gT cM.o.size (HGL.o b hb).1),g1,g2,g3⟩
      clear ahI qu hs Xy HR hn5 hn6 HGL HG;go_wp2_with (go_at_call 61;refine Ww.o.mono ?_;rintro e w5 ⟨s0,n0,q0,s1,n1,q1,s2,n2,q2,s3,n3,q3,hd,a5,c5,a6,c6,rfl,LV,hcl,hnz,hfl⟩;have Xq:=ai LV;have Oj:=ai hcl;have HFL:=ai hfl;obtain⟨⟨z0,z1,z2,z3,z4,z5,z6⟩,f0,f1,f2,f3,f4,f5,f6⟩:=HZC.o _ LV;obtain⟨nz1,nz2⟩:=hnz;clear LV hcl hfl)
      obtain⟨k0,k1,k2,k3,k4,k5,k6⟩:=Oj.o;go_region
      all_goals
       go_wp2;refine bK (v:=.tuple #[.agg #[.slice s0 n0 q0,.slice s1 n1 q1,.slice s2 n2 q2,.slice s3 n3 q3,I hd,.slice a5 n5 c5,.slice a6 n6 c6],I 0]) (by simp[results,Tryz.results45,go_sem,z0,z1,z2,z3,z4,z5,z6]) rfl ?_;refine HP.o _ _ ?_;rw[Hi.o];have hk4:=(sQ w5 z (.slice s0 n0 q0) (.slice s1 n1 q1) (.slice s2 n2 q2) (.slice s3 n3 q3) (I hd) (.slice a5 n5 c5) (.slice a6 n6 c6)).trans (aC.drew (fun b=>b=z) _) (fun _ _ g=>g);obtain⟨hs,a',g1,g2,g3⟩:=HFL.o;exact⟨hs,a',a5,c5,a6,c6,g1,by rw[g2],fun V hV=>g3 _ ((hk4.mono (fun b _ e=>Nat.le_of_eq e)).trans hV (fun b _ g=>OE (fV g HWZ.o))),aC.below (kX.o.trans (Xq.o.mono kX.o.size)) hk4 (gT kX.o.size Xq.o.size) (fun b e=>by rw[e];exact HWZ.o)⟩
    · have Hi:Hid (R=(vV,r.1)):=by rw[ahI.o,aB Xy];exact rfl
      obtain⟨rc,hrc⟩:=ex r.1;have yA:Hid (Calls Tryz.prog 61 #[.pointer (some ⟨gb,0,none⟩),.pointer (some ⟨q,0,none⟩)] wc fun e w'=>e=.returned (I rc)/\Below WA.heap.size WA w'):=qu.o.mono fun e w' ⟨h1,h2,h3⟩=>by
       rw[<- hrc] at h1;exact⟨h1,aC.below HBC.o h2 HBC.o.size (fun b hb=>gT cM.o.size (HGL.o b hb).1)⟩
      have JL:(rc==0)=false:=by rw[lG,hrc];exact Xy
      rw[<- hrc] at Hi;clear ahI qu Xy HR hrc;go_wp2_with (go_at_call 61;refine yA.o.mono ?_;rintro e w5 ⟨rfl,LV⟩;have Xq:=ai LV;obtain⟨⟨z0,z1,z2,z3,z4,z5,z6⟩,f0,f1,f2,f3,f4,f5,f6⟩:=HZC.o _ LV;clear LV)
      refine bK (v:=.tuple #[.agg #[Nl,Nl,Nl,Nl,I 0,Nl,Nl],I rc]) (by simp[results,Tryz.results45,go_sem,z0,z1,z2,z3,z4,z5,z6]) rfl ?_;refine HP.o _ _ ?_;rw[Hi.o];exact Ml rc (aC.below (kX.o.trans (Xq.o.mono kX.o.size)) (sQ w5 z _ _ _ _ _ _ _) (gT kX.o.size Xq.o.size) (fun b e=>by rw[e];exact HWZ.o))
 · have Hi:Hid (R=(vV,ck)):=by rw[HCF.o,aB hk0];exact rfl
   have JL:(ck==0)=false:=by rw[lG];exact hk0
   clear HCF hk0 HC HNM Po HWD;go_wp2;refine bK (v:=.tuple #[.agg #[Nl,Nl,Nl,Nl,I 0,Nl,Nl],I ck]) (by simp[results,Tryz.results45,go_sem,z0,z1,z2,z3,z4,z5,z6]) rfl ?_;refine HP.o _ _ ?_;rw[Hi.o];exact Ml ck (aC.below (kX.o.trans (cM.o.mono kX.o.size)) (sQ w1 z _ _ _ _ _ _ _) (gT kX.o.size cM.o.size) (fun b e=>by rw[e];exact HWZ.o))
open Go.RowKit
theorem acK.below {w w':World} {ao:Option Addr} {l:List Int} (h:tL w ao l) (hb:Below w.heap.size w w'):tL w' ao l:=fun hl=>by
 obtain⟨b,off,e,hlt,hc⟩:=h hl;exact⟨b,off,e,fV hlt hb.size,fun i hi=>(hb.cell (p:=⟨b,(off+i),none⟩) hlt).trans (hc i hi)⟩
theorem YU (st:dA aR) (picks:List Int) (h:(vX fR st picks).1=0):∃s,(vX fR st picks).2=some s:=by
 unfold vX at h ⊢;by_cases c:2000<picks.length
 · rw[aB c] at h;cases h
 · rw[au c] at h ⊢;cases e:fe fR picks picks.length (some st) with
   | none=>rw[e] at h;cases h
   | some s=>exact⟨s,rfl⟩
theorem YV {m:iM} {lo mb gb:Nat} {D:Nat->Prop} {vr vo:Value} (picks:List Int) (ap:Option Addr) (cp q:Nat) (V:World) (hk:jy m=0) (hp:QO m.procs) (hg:fQ (gz lo mb) lo mb gb V D vr vo (gZ m)) (hq:V.cell? ⟨q,0,none⟩=some (.slice ap picks.length cp)) (hn:tL V ap picks) (hps:0<picks.length->∀b,ap=some b->b.block<lo) (hpl:picks.length<=140737488351232) :
  Calls Tryz.prog 61 #[.pointer (some ⟨gb,0,none⟩),.pointer (some ⟨q,0,none⟩)] V (zn (gz lo mb) lo mb gb V D vr vo (vX fR (gZ m) picks)):=by
 have HS:=ai (abk (Pn lo mb) picks ap cp V hg (adH hk hp) hn (fun h0 b e g=>by have:=(hg.lt (Pn lo mb) _ g).1;have:=hps h0 b e;omega) hpl);obtain⟨X,hX⟩:=ex (vX fR (gZ m) picks);rw[<- hX] at HS ⊢;obtain⟨P,hP⟩:=ex (zn (gz lo mb) lo mb gb V D vr vo X);have HP:Hid (∀w',(aC (kz gb D vr vo) V w'/\∀s,X.2=some s->cD (gz lo mb) lo mb gb V D vr vo s w')->P (.returned (I X.1)) w'):=fun w' h=>by
  rw[hP];exact⟨rfl,h.1,h.2⟩
 rw[<- hP];obtain⟨X1,hX1⟩:=ex X.1;have rJ:Hid (Calls Tryz.prog 62 #[.pointer (some ⟨gb,0,none⟩),.slice ap picks.length cp] V fun e w'=>e=.returned (I X1)/\aC (kz gb D vr vo) V w'/\∀s,X.2=some s->cD (gz lo mb) lo mb gb V D vr vo s w'):=by rw[hX1];exact HS.o
 rw[<- hX1] at HP;clear hX hP hg HS hX1 hn hps;go_enter Tryz.func61,Tryz.ntmps61;go_wp2_with (go_at_call 62;refine rJ.o.mono ?_;rintro e w1 ⟨rfl,hl⟩;have HL:=ai hl;clear hl)
 exact HP.o _ HL.o
theorem abd (m:iM) (picks:List Int) (ap:Option Addr) (cp:Nat) (a:ja) (ar ao:Option Addr) (cr co:Nat) (w:World) (h:uH w a ar ao m) (hf:K7 m) (hp:QO m.procs) (hn:tL w ap picks) (hps:0<picks.length->∀b,ap=some b->b.block<w.heap.size) (hpl:picks.length<=140737488351232) :
  Calls Tryz.prog 20 #[.agg (ia m a ar ao cr co),.slice ap picks.length cp] w (tK w (fX m picks)):=by
 obtain⟨r,hr⟩:=ex (fX m picks);have Ol:Hid (∀V q,Below w.heap.size w V->V.cell? ⟨q,0,none⟩=some (.slice ap picks.length cp)->Calls Tryz.prog 45 #[.agg (ia m a ar ao cr co),.func (.func 61) #[] #[.pointer (some ⟨q,0,none⟩)]] V fun e w'=>∃s0 n0 q0 s1 n1 q1 s2 n2 q2 s3 n3 q3 hd s5 n5 q5 s6 n6 q6 er,e=.returned (.tuple #[.agg #[.slice s0 n0 q0,.slice s1 n1 q1,.slice s2 n2 q2,.slice s3 n3 q3,I hd,.slice s5 n5 q5,.slice s6 n6 q6],I er])/\Below V.heap.size V w'/\∀U,aC (fun b=>b<V.heap.size) w' U->Below w.heap.size w U->tK w r (.returned (.tuple #[.agg #[.slice s0 n0 q0,.slice s1 n1 q1,.slice s2 n2 q2,.slice s3 n3 q3,I hd,.slice s5 n5 q5,.slice s6 n6 q6],I er])) U):=fun V q hV hq=>by
  rw[hr];refine(Oe m (vX fR (gZ m) picks) q a ar ao cr co V (h.below hV) hf (YU _ _) (fun hk U lo mb gb D vr vo hU hlo hg=>YV picks ap cp q U hk hp hg ((hU.cell (p:=⟨q,0,none⟩) (oJ _ _ hq)).trans hq) (acK.below (acK.below hn hV) hU) (fun h0 b e=>fV (hps h0 b e) (gT hV.size hlo)) hpl)).mono ?_;rintro e w' ⟨hs,a1,a2,c2,a3,c3,hsm,rfl,h1,h2⟩;exact⟨_,_,_,_,_,_,_,_,_,_,_,_,_,_,_,_,_,_,_,_,rfl,h2,fun U hU hb=>⟨hs,a1,a2,c2,a3,c3,hsm,rfl,fun V2 h3=>h1 _ (hU.trans h3 (fun b _ g=>fV g hV.size)),hb⟩⟩
 rw[<- hr];obtain⟨P,hP⟩:=ex (tK w r);rw[<- hP] at Ol ⊢;clear h hf hp hr hP hn hps;unfold ia at Ol ⊢;obtain⟨x0,hx0⟩:∃n,n=m.iZ.aM.length:=⟨_,rfl⟩;obtain⟨x1,hx1⟩:∃n,n=m.iZ.frames.length:=⟨_,rfl⟩;obtain⟨x2,hx2⟩:∃n,n=m.iZ.slots.length:=⟨_,rfl⟩;obtain⟨x3,hx3⟩:∃n,n=m.iZ.aj.length:=⟨_,rfl⟩;obtain⟨x4,hx4⟩:∃n,n=m.iZ.hand:=⟨_,rfl⟩;obtain⟨np,Ak⟩:=ex m.procs.length;obtain⟨no,hno⟩:=ex m.out.length;rw[<- hx0,<- hx1,<- hx2,<- hx3,<- hx4,<- Ak,<- hno] at Ol ⊢;clear hx0 hx1 hx2 hx3 hx4 Ak hno;obtain⟨pl,hpe⟩:=ex picks.length;rw[<- hpe] at Ol ⊢;clear hpe hpl;obtain⟨WQ,hWQ⟩:=ex ((w.alloc (.cells #[.slice a.aS x0 a.cS,.slice a.aF x1 a.cF,.slice a.aL x2 a.cL,.slice a.aP x3 a.cP,I x4,.slice ar np cr,.slice ao no co] 34)).alloc (.cells #[.slice ap pl cp] 48));have hwq:WQ.heap.size=w.heap.size+1+1:=by rw[hWQ];simp
 have BQ:WQ.heap[w.heap.size+1]?=some (.cells #[.slice ap pl cp] 48 (0,0)):=by
  rw[hWQ];have:=bD (w.alloc (.cells #[.slice a.aS x0 a.cS,.slice a.aF x1 a.cF,.slice a.aL x2 a.cL,.slice a.aP x3 a.cP,I x4,.slice ar np cr,.slice ao no co] 34)) #[.slice ap pl cp] 48;simpa using this
 have HBQ:Below w.heap.size w WQ:=by rw[hWQ];exact((aJ w.heap.size w).alloc (aH _) _).alloc (by simp) _
 have kX:=ai (HBQ.alloc HBQ.size (.cells #[Nl,Nl,Nl,Nl,I 0,Nl,Nl] 34));have hq:(WQ.alloc (.cells #[Nl,Nl,Nl,Nl,I 0,Nl,Nl] 34)).cell? ⟨(w.heap.size+1),0,none⟩=some (.slice ap pl cp):=aq (bl BQ _) 0 rfl;have BZ:=bD WQ #[Nl,Nl,Nl,Nl,I 0,Nl,Nl] 34;rw[hwq] at BZ;obtain⟨WA,mj⟩:=ex (WQ.alloc (.cells #[Nl,Nl,Nl,Nl,I 0,Nl,Nl] 34));rw[<- mj] at kX hq BZ;have amn:=ai (Ol.o WA (w.heap.size+1) kX.o hq);have HZB:=ai BZ;rw[hWQ] at mj;rw[mj] at amn;have se:=ai mj;clear mj hWQ hwq BQ HBQ hq BZ Ol;go_enter Tryz.func20,Tryz.ntmps20;go_wp2_with (go_at_call 45;refine amn.o.mono ?_;rintro e w1 ⟨s0,n0,q0,s1,n1,q1,s2,n2,q2,s3,n3,q3,hd,s5,n5,q5,s6,n6,q6,er,rfl,hb,ho⟩;rw[<- se.o] at hb ho;have cM:=ai hb;have HO1:=ai ho;have hz1:=aN HZB.o hb (aI HZB.o);obtain⟨z0,z1,z2,z3,z4,z5,z6⟩:=rV hz1;have f0:=aQ hz1 0;have f1:=aQ hz1 1;have f2:=aQ hz1 2;have f3:=aQ hz1 3;have f4:=aQ hz1 4;have f5:=aQ hz1 5;have f6:=aQ hz1 6;clear hb ho hz1)
 refine bK (v:=.tuple #[.agg #[.slice s0 n0 q0,.slice s1 n1 q1,.slice s2 n2 q2,.slice s3 n3 q3,I hd,.slice s5 n5 q5,.slice s6 n6 q6],I er]) (by simp[results,Tryz.results20,go_sem,z0,z1,z2,z3,z4,z5,z6]) rfl ?_;have hk4:=sQ w1 (w.heap.size+1+1) (.slice s0 n0 q0) (.slice s1 n1 q1) (.slice s2 n2 q2) (.slice s3 n3 q3) (I hd) (.slice s5 n5 q5) (.slice s6 n6 q6);have hzl:=aI HZB.o;exact HO1.o _ (hk4.mono (fun b _ e=>by rw[e];exact hzl)) (aC.below (kX.o.trans (cM.o.mono kX.o.size)) hk4 (gT kX.o.size cM.o.size) (fun b e=>by omega))
open Go.RowKit
def nu (l:List aX) (hs:List bG) (en nf ns:Int):iM×Int:=if (rT l hs en nf ns).2=0 then (⟨(rT l hs en nf ns).1,[ml en],[]⟩,0) else (vV,(rT l hs en nf ns).2)
theorem abh {V:World} {g:Nat} {en:Int} {t:TypeId} (h:V.heap[g]?=some (.cells #[I 0,I 0,I 0,I 0,I 0,I 0,I 0,I 0,I en,I 1,I 0,I 0,I 0] t (0,0))):uI V (some ⟨g,0,none⟩) [ml en]:=fun _=>⟨g,0,rfl,aI h,fun i hi=>by
 obtain rfl:i=0:=by have:i<1:=hi;omega
 exact⟨aq h 0 rfl,aq h 1 rfl,aq h 2 rfl,aq h 3 rfl,aq h 4 rfl,aq h 5 rfl,aq h 6 rfl,aq h 7 rfl,aq h 8 rfl,aq h 9 rfl,aq h 10 rfl,aq h 11 rfl,aq h 12 rfl⟩⟩
theorem abf (l:List aX) (hs:List bG) (en nf ns:Int) (va:Value) (ao:Option Addr) (cap:Nat) (w:World) (ha:gu w va l) (hf:dH l) (h:jn w ao hs) (Pf:qZ hs) (hcap:hs.length<=cap) (he:cK en) :
  Calls Tryz.prog 10 #[.agg #[va,.slice ao hs.length cap,I en],I nf,I ns] w (tK w (nu l hs en nf ns)):=by
 obtain⟨aa,ca,IP,_⟩:=id ha;have HNK:Hid (∀V,Below w.heap.size w V->Calls Tryz.prog 30 #[.agg #[va,.slice ao hs.length cap,I en],I nf,I ns] V fun e w'=>∃s0 n0 q0 s1 n1 q1 s2 n2 q2 s3 n3 q3 hd,e=.returned (.tuple #[.agg #[.slice s0 n0 q0,.slice s1 n1 q1,.slice s2 n2 q2,.slice s3 n3 q3,I hd],I (rT l hs en nf ns).2])/\Below V.heap.size V w'/\∃hs1 a,cE (rT l hs en nf ns).1.aM hs1/\bc a (aU (rT l hs en nf ns).1 hs1)=#[.slice s0 n0 q0,.slice s1 n1 q1,.slice s2 n2 q2,.slice s3 n3 q3,I hd]/\∀U,aC (fun b=>b<V.heap.size) w' U->jo U a (aU (rT l hs en nf ns).1 hs1)):=fun V hV=>by
  refine(aaS vI l hs en nf ns va ao cap V (ha.below hV) hf (h.below hV) Pf hcap he).mono ?_;intro e w' ho;obtain⟨hs1,a,g1,g2,g3,g4⟩:=YT ho;exact⟨_,_,_,_,_,_,_,_,_,_,_,_,_,g2,g4,hs1,a,g1,rfl,g3⟩
 have HBG:Hid (∀V,Calls Tryz.prog 31 #[I en] V fun e w'=>e=.returned (.agg #[I 0,I 0,I 0,I 0,I 0,I 0,I 0,I 0,I en,I 1,I 0,I 0,I 0])/\Below V.heap.size V w'):=fun V=>W4 en V
 obtain⟨N,hN⟩:=ex (rT l hs en nf ns);have Xn:Hid (nu l hs en nf ns=if N.2=0 then (⟨N.1,[ml en],[]⟩,0) else (vV,N.2)):=by rw[hN];exact rfl
 rw[<- hN] at HNK;obtain⟨R,hR⟩:=ex (nu l hs en nf ns);rw[<- hR] at Xn ⊢;obtain⟨P,hP⟩:=ex (tK w R);have HP:Hid (∀e w',tK w R e w'->P e w'):=fun e w' h=>by rw[hP];exact h
 rw[<- hP];obtain⟨er,her⟩:=ex N.2;rw[<- her] at HNK Xn;obtain⟨nh,hnh⟩:=ex hs.length;rw[<- hnh] at HNK ⊢;subst IP;obtain⟨na,qV⟩:=ex l.length;rw[<- qV] at HNK ⊢;obtain⟨va,IP⟩:=ex (Value.slice aa na ca);have HVA:=ai IP;clear IP;have kX:=ai (((aJ w.heap.size w).alloc (aH _) (.cells #[.slice aa na ca,.slice ao nh cap,I en] 25)).alloc (by simp) (.cells #[Nl,Nl,Nl,Nl,I 0,Nl,Nl] 34));have BX:=ai (bl (bD w #[.slice aa na ca,.slice ao nh cap,I en] 25) (.cells #[Nl,Nl,Nl,Nl,I 0,Nl,Nl] 34));have BZ:=ai (bD (w.alloc (.cells #[.slice aa na ca,.slice ao nh cap,I en] 25)) #[Nl,Nl,Nl,Nl,I 0,Nl,Nl] 34);clear ha hf h Pf hcap he hN hR hP her hnh qV HVA va;go_enter Tryz.func10,Tryz.ntmps10;go_wp2_with fail
 obtain⟨WA,mj⟩:=ex ((w.alloc (.cells #[.slice aa na ca,.slice ao nh cap,I en] 25)).alloc (.cells #[Nl,Nl,Nl,Nl,I 0,Nl,Nl] 34));have hsz1:(w.alloc (.cells #[.slice aa na ca,.slice ao nh cap,I en] 25)).heap.size=w.heap.size+1:=by simp
 rw[hsz1] at BZ;rw[<- mj] at kX BX BZ ⊢;obtain⟨x,hxe⟩:=ex w.heap.size;obtain⟨z,hze⟩:=ex (w.heap.size+1);rw[<- hze] at BZ ⊢;rw[<- hxe] at BX ⊢;have hxz:¬x=z:=by omega
 have hzx:¬z=x:=by omega
 have S6:Hid (∀V,Below WA.heap.size WA V->V.cell? ⟨x,0,none⟩=some (.slice aa na ca)/\V.cell? ⟨x,1,none⟩=some (.slice ao nh cap)/\V.cell? ⟨x,2,none⟩=some (I en)):=fun V hb=>ET (aN BX.o hb (aI BX.o))
 have HZB:Hid (∀V,Below WA.heap.size WA V->V.heap[z]?=some (.cells #[Nl,Nl,Nl,Nl,I 0,Nl,Nl] 34 (0,0))):=fun V hb=>aN BZ.o hb (aI BZ.o)
 have akA:=aI BZ.o;have HWZ:Hid (w.heap.size<=z):=(by rw[hze];omega:w.heap.size<=z);clear mj hsz1 hxe hze BX BZ;refine(HNK.o _ kX.o).mono ?_;rintro e w1 ⟨s0,n0,q0,s1,n1,q1,s2,n2,q2,s3,n3,q3,hd,rfl,hb1,hk1⟩;have cM:=ai hb1;have uY:=ai hk1;clear hb1 hk1 HNK;obtain⟨WX,hWX⟩:=ex (w1.alloc (.cells #[.slice s0 n0 q0,.slice s1 n1 q1,.slice s2 n2 q2,.slice s3 n3 q3,I hd] 30));have hbX:Below w1.heap.size w1 WX:=by rw[hWX];exact(aJ _ _).alloc (aH _) _
 have hX:=bD w1 #[.slice s0 n0 q0,.slice s1 n1 q1,.slice s2 n2 q2,.slice s3 n3 q3,I hd] 30;rw[<- hWX] at hX;have Jl:=ai (cM.o.trans (hbX.mono cM.o.size));have HWX:=ai hWX;have hz2:=HZB.o _ Jl.o;obtain⟨z0,z1,z2,z3,z4,z5,z6⟩:=rV hz2;have f0:=aQ hz2 0;have f1:=aQ hz2 1;have f2:=aQ hz2 2;have f3:=aQ hz2 3;have f4:=aQ hz2 4;have f5:=aQ hz2 5;have f6:=aQ hz2 6;have HX0:=ai hX;have ajW:=ai hbX;rw[hWX] at z0 z1 z2 z3 z4 z5 z6 f0 f1 f2 f3 f4 f5 f6;clear hWX hbX hz2 hX;by_cases c:er=0
 · subst c;have Hi:Hid (R=(⟨N.1,[ml en],[]⟩,0)):=Xn;clear Xn;go_wp2_with fail
   rw[<- HWX.o];rw[<- HWX.o] at z0 z1 z2 z3 z4 z5 z6 f0 f1 f2 f3 f4 f5 f6;obtain⟨X,hXe⟩:=ex w1.heap.size;rw[<- hXe] at HX0 ⊢;have afJ:Hid (∀V,Below WX.heap.size WX V->V.cell? ⟨X,0,none⟩=some (.slice s0 n0 q0)/\V.cell? ⟨X,1,none⟩=some (.slice s1 n1 q1)/\V.cell? ⟨X,2,none⟩=some (.slice s2 n2 q2)/\V.cell? ⟨X,3,none⟩=some (.slice s3 n3 q3)/\V.cell? ⟨X,4,none⟩=some (I hd)/\V.cell? ⟨x,2,none⟩=some (I en)):=fun V hb=>by
    obtain⟨k0,k1,k2,k3,k4⟩:=iI (aN HX0.o hb (aI HX0.o));exact⟨k0,k1,k2,k3,k4,(S6.o V (Jl.o.trans (hb.mono Jl.o.size))).2.2⟩
   have oh:=ai (afJ.o _ (aJ WX.heap.size WX).drew);have hXz:¬X=z:=by have:=cM.o.size;omega
   have HXZ:=ai hXz;have aqf:Hid (∀V,Below WX.heap.size WX V->Calls Tryz.prog 31 #[I en] V fun e w'=>e=.returned (.agg #[I 0,I 0,I 0,I 0,I 0,I 0,I 0,I 0,I en,I 1,I 0,I 0,I 0])/\Below WX.heap.size WX w'):=fun V hV=>(HBG.o V).mono fun e w' ⟨g1,g2⟩=>⟨g1,hV.trans (g2.mono hV.size)⟩
   have Xr:Hid (∀W,Below WX.heap.size WX W->∀V,aC (fun b=>b=z) (W.alloc (.cells #[I 0,I 0,I 0,I 0,I 0,I 0,I 0,I 0,I en,I 1,I 0,I 0,I 0] 77)) V->V.cell? ⟨X,0,none⟩=some (.slice s0 n0 q0)/\V.cell? ⟨X,1,none⟩=some (.slice s1 n1 q1)/\V.cell? ⟨X,2,none⟩=some (.slice s2 n2 q2)/\V.cell? ⟨X,3,none⟩=some (.slice s3 n3 q3)/\V.cell? ⟨X,4,none⟩=some (I hd)/\V.cell? ⟨x,2,none⟩=some (I en)):=fun W hW V hV=>by
    obtain⟨k0,k1,k2,k3,k4,k5⟩:=afJ.o _ (hW.alloc hW.size (.cells #[I 0,I 0,I 0,I 0,I 0,I 0,I 0,I 0,I en,I 1,I 0,I 0,I 0] 77));exact⟨hV.cell k0 HXZ.o,hV.cell k1 HXZ.o,hV.cell k2 HXZ.o,hV.cell k3 HXZ.o,hV.cell k4 HXZ.o,hV.cell k5 hxz⟩
   have HZ7:Hid (∀W,Below WX.heap.size WX W->(W.alloc (.cells #[I 0,I 0,I 0,I 0,I 0,I 0,I 0,I 0,I en,I 1,I 0,I 0,I 0] 77)).heap[z]?=some (.cells #[Nl,Nl,Nl,Nl,I 0,Nl,Nl] 34 (0,0))):=fun W hW=>HZB.o _ (Jl.o.trans ((hW.alloc hW.size _).mono Jl.o.size))
   clear z0 z1 z2 z3 z4 z5 z6 f0 f1 f2 f3 f4 f5 f6 hXe hXz;refine xe (S:=fun V=>V.cell? ⟨X,0,none⟩=some (.slice s0 n0 q0)/\V.cell? ⟨X,1,none⟩=some (.slice s1 n1 q1)/\V.cell? ⟨X,2,none⟩=some (.slice s2 n2 q2)/\V.cell? ⟨X,3,none⟩=some (.slice s3 n3 q3)/\V.cell? ⟨X,4,none⟩=some (I hd)/\V.cell? ⟨x,2,none⟩=some (I en)) (z:=6) (by kernel_rfl) ?_;obtain⟨V0,hV0⟩:=ex WX.drew;have HV0:Hid (Below WX.heap.size WX V0):=by rw[hV0];exact(aJ WX.heap.size WX).drew
   rw[<- hV0] at oh ⊢;clear hV0;refine iE 0 oh.o ?_ ?_ ?_;rotate_left 1
   · intro V h;obtain⟨k0,k1,k2,k3,k4,k5⟩:=h;go_simp
     try with_reducible rfl
   refine iE 1 oh.o ?_ ?_ ?_;rotate_left 1
   · intro V h;obtain⟨k0,k1,k2,k3,k4,k5⟩:=h;go_simp
     try with_reducible rfl
   refine iE 2 oh.o ?_ ?_ ?_;rotate_left 1
   · intro V h;obtain⟨k0,k1,k2,k3,k4,k5⟩:=h;go_simp
     try with_reducible rfl
   refine eu (rs:=[3]) (by kernel_rfl) (by simp) ?_;refine bo.cons rfl (fun K hK=>?_) bo.nil;go_simp
   go_at_call 31
   refine(aqf.o _ HV0.o).mono ?_;rintro e w7 ⟨rfl,hb7⟩;have HK7:=ai hb7;clear hb7;go_simp;refine hK.out _ _ (fun _=>?_) ?_
   · exact afJ.o _ HK7.o
   clear hK K
   try simp only[Act.put,dC,dw,dh]
   refine eu (rs:=[4]) (by kernel_rfl) (by simp) ?_;refine bo.cons rfl (fun K hK=>?_) bo.nil;go_simp;refine hK.out _ _ (fun _=>?_) ?_
   · exact afJ.o _ (HK7.o.alloc HK7.o.size _)
   clear hK K
   try simp only[Act.put,dC,dw,dh]
   have HK8:=ai (HK7.o.alloc HK7.o.size (.cells #[I 0,I 0,I 0,I 0,I 0,I 0,I 0,I 0,I en,I 1,I 0,I 0,I 0] 77));have BP:=ai (bD w7 #[I 0,I 0,I 0,I 0,I 0,I 0,I 0,I 0,I en,I 1,I 0,I 0,I 0] 77);have HZ8:=ai (HZ7.o _ HK7.o);obtain⟨V8,hV8⟩:=ex (w7.alloc (.cells #[I 0,I 0,I 0,I 0,I 0,I 0,I 0,I 0,I en,I 1,I 0,I 0,I 0] 77));obtain⟨bP,Xj⟩:=ex w7.heap.size;have HBP:Hid (WX.heap.size<=bP):=(by rw[Xj];exact HK7.o.size:WX.heap.size<=bP);have apA:Hid (∀V,aC (fun b=>b=z) V8 V->V.cell? ⟨X,0,none⟩=some (.slice s0 n0 q0)/\V.cell? ⟨X,1,none⟩=some (.slice s1 n1 q1)/\V.cell? ⟨X,2,none⟩=some (.slice s2 n2 q2)/\V.cell? ⟨X,3,none⟩=some (.slice s3 n3 q3)/\V.cell? ⟨X,4,none⟩=some (I hd)/\V.cell? ⟨x,2,none⟩=some (I en)):=by rw[hV8];exact Xr.o _ HK7.o
   rw[<- hV8] at HK8 BP HZ8 ⊢;rw[<- Xj] at BP ⊢;clear hV8 Xj;refine iE 5 (afJ.o _ HK8.o) ?_ ?_ ?_;rotate_left 1
   · intro V h;obtain⟨k0,k1,k2,k3,k4,k5⟩:=h;go_simp
     try with_reducible rfl
   obtain⟨z0,z1,z2,z3,z4,z5,z6⟩:=rV HZ8.o;have f0:=aQ HZ8.o 0;have f1:=aQ HZ8.o 1;have f2:=aQ HZ8.o 2;have f3:=aQ HZ8.o 3;have f4:=aQ HZ8.o 4;have f5:=aQ HZ8.o 5;have f6:=aQ HZ8.o 6;refine eu (rs:=[6]) (by kernel_rfl) (by simp) ?_;refine bo.cons rfl (fun K hK=>?_) bo.nil;go_simp;refine hK.out _ _ (fun g=>absurd rfl g) ?_;clear hK K
   try simp only[Act.put,dC,dw,dh]
   refine eu (rs:=[7]) (by kernel_rfl) (by simp) ?_;refine bo.cons rfl (fun K hK=>?_) bo.nil;go_simp;refine hK.out _ _ (fun _=>?_) ?_
   · exact(apA.o _ (sQ _ z _ _ _ _ _ _ _))
   clear hK K
   try simp only[Act.put,dC,dw,dh]
   refine qO (by kernel_rfl) ?_ _;go_wp2;refine bK (v:=.tuple #[.agg #[.slice s0 n0 q0,.slice s1 n1 q1,.slice s2 n2 q2,.slice s3 n3 q3,I hd,.slice (some ⟨bP,0,none⟩) 1 1,Nl],I 0]) (by simp[results,Tryz.results10,go_sem,z0,z1,z2,z3,z4,z5,z6]) rfl ?_;refine HP.o _ _ ?_;rw[Hi.o];have hk8:=sQ V8 z (.slice s0 n0 q0) (.slice s1 n1 q1) (.slice s2 n2 q2) (.slice s3 n3 q3) (I hd) (.slice (some ⟨bP,0,none⟩) 1 1) Nl;obtain⟨hs1,a1,g1,g2,g3⟩:=uY.o;have hzb:¬bP=z:=by have:=HBP.o;have:=Jl.o.size;omega
   have e7:ia (mJ ⟨N.1,[ml en],[]⟩ hs1) a1 (some ⟨bP,0,none⟩) none 1 0=#[.slice s0 n0 q0,.slice s1 n1 q1,.slice s2 n2 q2,.slice s3 n3 q3,I hd,.slice (some ⟨bP,0,none⟩) 1 1,Nl]:=by
    have g2:=dY Array.toList g2;unfold bc at g2;unfold ia mJ;simp only[Ap] at g2 ⊢;obtain⟨b0,b1,b2,b3,b4,_⟩:=g2;simp only[b0,b1,b2,b3,b4,xu,OJ]
   have hwz:=HWZ.o;have hsz:=kX.o.size;have aul:=cM.o.size;have hsW:=ajW.o.size;have aoL:Below w1.heap.size w1 V8:=ajW.o.trans (HK8.o.mono ajW.o.size);have hW1:=Jl.o.size;refine⟨hs1,a1,some ⟨bP,0,none⟩,1,none,0,g1,by rw[e7],fun V hV=>?_,aC.below ((kX.o.trans (Jl.o.mono kX.o.size)).trans (HK8.o.mono (by omega))) hk8 (by have:=HK8.o.size;omega) (fun b e=>by rw[e];exact hwz)⟩;have hkv:aC (fun b=>b<WX.heap.size) V8 V:=(hk8.mono (fun b _ e=>by omega)).trans (hV.mono (fun b _ g=>by omega)) (fun _ _ g=>g);have hkw:aC (fun b=>b<WA.heap.size) V8 V:=(hk8.mono (fun b _ e=>by omega)).trans (hV.mono (fun b _ g=>by omega)) (fun _ _ g=>g);exact⟨g3 V ((aC.bY aoL).trans hkw (fun _ _ g=>g)),abh (hkv.keep BP.o (by have:=HBP.o;omega)),fun g=>absurd g (kr _)⟩
 · have Hi:Hid (R=(vV,er)):=by rw[Xn.o,au c];exact rfl
   have cb:(er==0)=false:=by grind
   clear c Xn;go_wp2_with fail
   rw[<- HWX.o];rw[<- HWX.o] at z0 z1 z2 z3 z4 z5 z6 f0 f1 f2 f3 f4 f5 f6;refine bK (v:=.tuple #[.agg #[Nl,Nl,Nl,Nl,I 0,Nl,Nl],I er]) (by simp[results,Tryz.results10,go_sem,z0,z1,z2,z3,z4,z5,z6]) rfl ?_;refine HP.o _ _ ?_;rw[Hi.o];exact Ml er (aC.below (kX.o.trans (Jl.o.mono kX.o.size)) (sQ WX z _ _ _ _ _ _ _) (gT kX.o.size Jl.o.size) (fun b e=>by rw[e];exact HWZ.o))
open Go.RowKit
def CP:ByteArray:=⟨#[16,0,0,0,5,0,0,0,11,1,0,0,40,0,0,0]⟩
def CO:ByteArray:=⟨#[10,0,1,8,0,0,0,0,9,0,1,1,0,0,0,0]⟩
def CN:ByteArray:=⟨#[16,0,0,0,1,0,0,0,16,0,0,0,6,0,0,0]⟩
def aiv:ByteArray:=⟨#[0,0,0,0,0,0,0,0,0,0,0,0,0,0,0,0]⟩
def Wz:List aX:=[⟨1,4,3,false⟩]
def abF (a1 a2 a3 a4:Option Addr) (c1 c2 c3 c4:Nat):List bG:=[⟨1,CP,[],a1,c1⟩,⟨2,CO,[],a2,c2⟩,⟨3,CN,[],a3,c3⟩,⟨4,aiv,[],a4,c4⟩]
def qi:List Int:=[0,1,0,1,0,1,0,1,0,1,0,1,0,1]
variable {σ:Type}
def Hb (s:dA σ):Nat×Nat×Int×Int×Int×Int:=(s.ps.length,s.out.length,(oL s.out 0).value,(oL s.out 1).value,(aK s.ps 1).st,(aK s.ps 1).cd)
def Mu:dA ry:=⟨⟨8,[⟨true,Wz,[⟨1,CP⟩,⟨2,CO⟩,⟨3,CN⟩,⟨4,aiv⟩]⟩]⟩,[ml 16],[]⟩
theorem Tj:(fe Ei qi 14 (some Mu)).map Hb=some (2,2,0,1,2,0):=by kernel_rfl
variable (a1 a2 a3 a4:Option Addr) (c1 c2 c3 c4:Nat)
def abG:dA aR:=⟨lI Wz (abF a1 a2 a3 a4 c1 c2 c3 c4) 3 8,[ml 16],[]⟩
theorem adW:kI Wz (abF a1 a2 a3 a4 c1 c2 c3 c4) 16=0:=by kernel_rfl
theorem Ef {Ok:σ->List Bool->Prop} {m:σ} {en:Int} (he:cK en) (h:Ok m [true]):dK Ok (⟨m,[ml en],[]⟩:dA σ):=by
 refine⟨h,fun k hk=>?_,fun k hk=>?_,fun x hx=>(by cases hx),rN _⟩
 · have:k=0:=by have hk:k<1:=hk;omega
   subst this;exact⟨fun j hj=>⟨by show -9223372036854775808<=(0:Int);omega,by show(0:Int)<=9223372036854775807;omega⟩,he⟩
 · have:k=0:=by have hk:k<1:=hk;omega
   subst this;rfl
theorem ajV:ql Mu.mem [true]:=by
 have hr:iY Mu.mem.aj=4:=by kernel_rfl
 have h1:lN (bq Mu.mem.aj 0)=true:=by kernel_rfl
 refine⟨rfl,fun k hk=>?_,by rw[hr];show(4:Int)<=8;omega,⟨by show(0:Int)<=8;omega,by show(8:Int)<=512;omega⟩,⟨by show 1<=1;omega,by show 1<=4;omega⟩⟩;have:k=0:=by have hk:k<1:=hk;omega
 subst this;exact h1
theorem af4:∃s,fe fR qi 14 (some (abG a1 a2 a3 a4 c1 c2 c3 c4))=some s/\Hb s=(2,2,0,1,2,0):=by
 have L:=Lm (adW a1 a2 a3 a4 c1 c2 c3 c4);have hR:=Iy (nf:=3) (ns:=8) L (by omega) (by omega) (by omega) (by omega) (by show(4:Int)<=8;omega);have e:=Lj Gb Zu ic abL (s:=abG a1 a2 a3 a4 c1 c2 c3 c4) (s':=Mu) (Ef ⟨by omega,by omega⟩ ⟨hR,rfl⟩) (Ef ⟨by omega,by omega⟩ ajV) (by
  show(⟨cW (lI Wz (abF a1 a2 a3 a4 c1 c2 c3 c4) 3 8),_,_⟩:dA wL)=_;rw[Jj L (by omega)];rfl) qi 14
 have f:=Tj;cases g:fe Ei qi 14 (some Mu) with
 | none=>rw[g] at f;cases f
 | some s' =>
  rw[g] at e f;cases g2:fe fR qi 14 (some (abG a1 a2 a3 a4 c1 c2 c3 c4)) with
  | none=>rw[g2] at e;cases e
  | some s =>
   rw[g2] at e;refine⟨s,rfl,?_⟩;have e:gj cW s=gj gp s':=by injection e
   have f:Hb s'=(2,2,0,1,2,0):=by injection f
   have ep:s.ps=s'.ps:=dY dA.ps e;have eo:s.out=s'.out:=dY dA.out e;rw[<- f];unfold Hb;rw[ep,eo]
open Go.RowKit
def ki (N:Nat) (m:iM) (c:Array Value) (w:World):Prop:=∃hs a ar cr ao co,cE m.iZ.aM hs/\c=ia (mJ m hs) a ar ao cr co/\∀U,aC (fun b=>b<N) w U->uH U a ar ao (mJ m hs)
theorem ki.cells {N:Nat} {m:iM} {c:Array Value} {w:World} (h:ki N m c w):∃s0 n0 q0 s1 n1 q1 s2 n2 q2 s3 n3 q3 hd s5 q5 s6 q6,c=#[.slice s0 n0 q0,.slice s1 n1 q1,.slice s2 n2 q2,.slice s3 n3 q3,I hd,.slice s5 m.procs.length q5,.slice s6 m.out.length q6]:=by
 obtain⟨hs,a,ar,cr,ao,co,_,h2,_⟩:=h;exact⟨_,_,_,_,_,_,_,_,_,_,_,_,_,ar,cr,ao,co,h2⟩
theorem ki.later {N:Nat} {m:iM} {c:Array Value} {w U:World} (h:ki N m c w) (g:aC (fun b=>b<N) w U):ki N m c U:=by
 obtain⟨hs,a,ar,cr,ao,co,h1,h2,h3⟩:=h;exact⟨hs,a,ar,cr,ao,co,h1,h2,fun V hV=>h3 V (g.trans hV (fun _ _ x=>x))⟩
theorem ki.below {N:Nat} {m:iM} {c:Array Value} {w U:World} (h:ki N m c w) (g:Below w.heap.size w U):ki N m c U:=h.later (aC.bY g)
theorem Ua {w w':World} {r:iM×Int} {e:Ending} (h:tK w r e w'):∃c,e=.returned (.tuple #[.agg c,I r.2])/\ki w.heap.size r.1 c w'/\Below w.heap.size w w':=by
 obtain⟨hs,a,ar,cr,ao,co,h1,h2,h3,h4⟩:=h;exact⟨_,h2,⟨hs,a,ar,cr,ao,co,h1,rfl,h3⟩,h4⟩
theorem Zk {w w':World} {r:iM×Int} {hs:List bG} {e:Ending} (s:cE r.1.iZ.aM hs) (h:tK w (mJ r.1 hs,r.2) e w'):tK w r e w':=by
 obtain⟨hs2,a,ar,cr,ao,co,h1,h2,h3,h4⟩:=h;exact⟨hs2,a,ar,cr,ao,co,s.trans h1,h2,h3,h4⟩
theorem Zm {m:iM} (h:dK dO (gZ m)):m.procs.length<=4:=by
 have:=ic.few _ _ h.mem;simpa [bX,gZ] using this
theorem afR {m:iM} (h:dK dO (gZ m)):K7 m:=⟨pj h.mem.right,by have:=Zm h;unfold cu;omega,by have:m.out.length<=2000:=h.out;unfold cu;omega⟩
variable {N:Nat} {m:iM} {c:Array Value} {U:World}
def Wk (w:World) (r:iM×Int) (e:Ending) (w':World):Prop:=∃c,e=.returned (.tuple #[.agg c,I r.2])/\ki w.heap.size r.1 c w'/\Below w.heap.size w w'
theorem Ny (h:ki N m c U) (hg:dK dO (gZ m)) (picks:List Int) (ap:Option Addr) (cp:Nat) (hn:tL U ap picks) (hps:0<picks.length->∀b,ap=some b->b.block<U.heap.size) (hpl:picks.length<=140737488351232) :
  Calls Tryz.prog 20 #[.agg c,.slice ap picks.length cp] U (Wk U (fX m picks)):=by
 obtain⟨hs,a,ar,cr,ao,co,h1,rfl,h3⟩:=h;have g':dK dO (gZ (mJ m hs)):=Nz hg h1;obtain⟨hs',s1,s2⟩:=Zi hg h1 picks;refine(abd (mJ m hs) picks ap cp a ar ao cr co U (h3 U (aC.refl _ _)) (afR g') g'.fit hn hps hpl).mono fun e w' ho=>?_
 rw[s2] at ho;exact Ua (Zk s1 ho)
theorem FW (l:List aX) (hs:List bG) (en nf ns:Int) (va:Value) (ao:Option Addr) (cap:Nat) (w:World) (ha:gu w va l) (hf:dH l) (h:jn w ao hs) (Pf:qZ hs) (hcap:hs.length<=cap) (he:cK en) :
  Calls Tryz.prog 10 #[.agg #[va,.slice ao hs.length cap,I en],I nf,I ns] w (Wk w (nu l hs en nf ns)) :=
 (abf l hs en nf ns va ao cap w ha hf h Pf hcap he).mono fun e w' ho=>Ua ho
theorem D7 (l:List aX) (hs:List bG) (en nf ns:Int) (he:cK en):((nu l hs en nf ns).2≠0)∨(kI l hs en=0/\3<=nf/\nf<=64/\0<=ns/\ns<=512/\bg l<=ns/\nu l hs en nf ns=(⟨lI l hs nf ns,[ml en],[]⟩,0)/\dK dO (gZ ⟨lI l hs nf ns,[ml en],[]⟩)):=by
 by_cases c:(rT l hs en nf ns).2=0
 · right;have hk:kI l hs en=0/\3<=nf/\nf<=64/\0<=ns/\ns<=512/\bg l<=ns/\rT l hs en nf ns=(lI l hs nf ns,0):=by
    unfold rT at c ⊢;by_cases c1:kI l hs en=0
    · rw[au (fun x=>x c1)] at c ⊢;by_cases c3:nf<3
      · rw[aB c3] at c;cases c
      rw[au c3] at c ⊢;by_cases cr:nf>64∨ns<0∨ns>512
      · rw[aB cr] at c;cases c
      rw[au cr] at c ⊢;by_cases ct:bg l>ns
      · rw[aB ct] at c;cases c
      rw[au ct] at c ⊢;exact⟨c1,by omega,by omega,by omega,by omega,by omega,rfl⟩
    · rw[aB c1] at c;exact absurd c c1
   obtain⟨g1,g2,g3,g4,g5,g6,g7⟩:=hk;have e:nu l hs en nf ns=(⟨lI l hs nf ns,[ml en],[]⟩,0):=by unfold nu;rw[g7];rfl
   exact⟨g1,g2,g3,g4,g5,g6,e,Ef he ⟨Iy (Lm g1) g2 g3 g4 g5 g6,rfl⟩⟩
 · left;unfold nu;rw[au c];exact c
open Go.RowKit
theorem afS {m n:iM} (h:dK dO (gZ m)) (h':dK dO (gZ n)) (e:gj cW (gZ m)=gj cW (gZ n)) (picks:List Int):(fX m picks).2=(fX n picks).2/\(fX m picks).1.procs=(fX n picks).1.procs/\(fX m picks).1.out=(fX n picks).1.out:=by
 have r:=Lj Gb Gb ic ic h h' e picks picks.length;rw[zo h,zo h'];by_cases c:2000<picks.length
 · rw[aB c,aB c];exact⟨rfl,rfl,rfl⟩
 · rw[au c,au c];cases f:fe fR picks picks.length (some (gZ m)) with
   | none =>
    cases g:fe fR picks picks.length (some (gZ n)) with
    | none=>exact⟨rfl,rfl,rfl⟩
    | some s=>rw[f,g] at r;cases r
   | some s =>
    cases g:fe fR picks picks.length (some (gZ n)) with
    | none=>rw[f,g] at r;cases r
    | some s' =>
     rw[f,g] at r;have r:gj cW s=gj cW s':=by injection r
     have r1:s.ps=s'.ps:=(by show(gj cW s).ps=(gj cW s').ps;rw[r]);have r2:s.out=s'.out:=(by show(gj cW s).out=(gj cW s').out;rw[r]);exact⟨rfl,r1,r2⟩
theorem Oh {l:List aX} {hs:List bG} {en n1 n2 ns:Int} (hc:kI l hs en=0) (h0:0<=ns):gj cW (gZ ⟨lI l hs n1 ns,[ml en],[]⟩)=gj cW (gZ ⟨lI l hs n2 ns,[ml en],[]⟩):=by
 show(⟨cW (lI l hs n1 ns),_,_⟩:dA wL)=⟨cW (lI l hs n2 ns),_,_⟩;rw[Jj (Lm hc) h0,Jj (Lm hc) h0];rfl
theorem abr {m:iM} (h:dK dO (gZ m)) (picks:List Int):(fX m picks).2=0∨((fX m picks).2=2/\(fX m picks).1=vV):=by
 rcases Lh h picks with e | ⟨s,_,_,_,e⟩
 · rw[e];exact .inr ⟨rfl,rfl⟩
 · rw[e];exact .inl rfl
theorem Zj {m:iM} (h:dK dO (gZ m)) {picks:List Int} (g:(fX m picks).2=0):dK dO (gZ (fX m picks).1):=by
 rcases Lh h picks with e | ⟨s,_,_,e2,e⟩
 · rw[e] at g;cases g
 · rw[e];exact e2
open Go.RowKit
structure P9 (l:List jZ) (ao:Option Addr) (w:World):Prop where
 has:Ko w ao l
 few:l.length<=1000
 chk:∀k,k<l.length->mq (dJ l k).i=0
 fit:∀k,k<l.length->JW (dJ l k).i
 base:∀k,k<l.length->1<=(dJ l k).base/\(dJ l k).base<=2000
theorem P9.below {l:List jZ} {ao:Option Addr} {w w':World} (h:P9 l ao w) (hb:Below w.heap.size w w'):P9 l ao w':=⟨h.has.below hb,h.few,h.chk,h.fit,h.base⟩
open Go.RowKit
open Go.RowKit
open Go.RowKit
open Go.RowKit
open Go.RowKit
open Go.RowKit
end Go.Proofs.YtlgoihmkgaaemaaGreat
