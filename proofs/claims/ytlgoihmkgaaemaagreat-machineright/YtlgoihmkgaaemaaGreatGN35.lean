import Derived.Test.YtlgoihmkgaaemaaGreatGN34
set_option maxHeartbeats 20000000
set_option linter.unusedVariables false
set_option maxRecDepth 100000
set_option linter.unusedSimpArgs false
namespace Go.Proofs.YtlgoihmkgaaemaaGreat
open Go.RowKit
theorem OC (m:iF) (r:Int×Option (dE aT)) (q:Nat) (a:jc) (ar ao:Option Addr) (cr co:Nat) (w:World) (h:uR w a ar ao m) (hf:Lp m) (hr:r.1=0->∃s,r.2=some s)
  (hc:jD m=0->∀(V:World) (lo mb gb:Nat) (D:Nat->Prop) (vr vo:Value),Below w.heap.size w V->w.heap.size<=lo->fW (gB lo mb) lo mb gb V D vr vo (gG m)->Calls Tryz.prog 61 #[.pointer (some ⟨gb,0,none⟩),.pointer (some ⟨q,0,none⟩)] V (zI (gB lo mb) lo mb gb V D vr vo r)) :
  Calls Tryz.prog 45 #[.agg (ig m a ar ao cr co),.func (.func 61) #[] #[.pointer (some ⟨q,0,none⟩)]] w (tU w (Ag m r)):=by
 have E9:Hid (∀V,Below w.heap.size w V->Calls Tryz.prog 15 #[.agg (ig m a ar ao cr co)] V fun e w'=>e=.returned (I (jD m))/\Below V.heap.size V w'):=fun V hV=>Lm m a ar ao cr co V (h.below hV) hf
 have HNM:Hid (jD m=0->∀V,Below w.heap.size w V->Calls Tryz.prog 79 #[.agg (bg a m.il)] V fun e w'=>∃s0 n0 q0 s1 n1 q1 s2 n2 q2 s3 n3 q3 hd,e=.returned (.agg #[.slice s0 n0 q0,.slice s1 n1 q1,.slice s2 n2 q2,.slice s3 n3 q3,I hd])/\Below V.heap.size V w'/\gB V.heap.size w'.heap.size (w'.alloc (.cells #[.slice s0 n0 q0,.slice s1 n1 q1,.slice s2 n2 q2,.slice s3 n3 q3,I hd] 185)) (fun b=>b=w'.heap.size∨(V.heap.size<=b/\b<w'.heap.size)) m.il):=fun hk V hV=>by
  obtain⟨c1,c2,c3,c4⟩:=Bq hk;refine(vY m.il a V (h.il.below hV) (sS c1 hf.il)).mono ?_;rintro e w' ⟨S,hs,g1,g2,g3,g4⟩;obtain⟨a',e1,e2⟩:=NI g3;have e3:e=.returned (.agg (bg a' (aV m.il hs))):=by rw[g2,<- e1];rfl
  exact⟨_,_,_,_,_,_,_,_,_,_,_,_,_,e3,g4,abS g1 e2 g4⟩
 have PF:Hid (jD m=0->∀V,Below w.heap.size w V->Calls Tryz.prog 94 #[.slice ar m.procs.length cr] V fun e w'=>∃a' c',e=.returned (.slice a' m.procs.length c')/\w'.ownsRow V.heap.size 77 13 (.slice a' m.procs.length c') m.procs.length (m.procs.flatMap bU)/\Below V.heap.size V w'):=fun hk V hV=>by
  obtain⟨c1,c2,c3,c4⟩:=Bq hk;have:=c1.c.2.2.1.2;refine(acs ar m.procs.length cr (m.procs.flatMap bU) V (fY bU 13 rW _) ((abQ h.procs).below hV) (aef _) (by omega)).mono ?_;rintro e w' ⟨v,rfl,h1,h2⟩;obtain⟨a',c',rfl,_,_⟩:=bj h1;exact⟨a',c',rfl,h1,h2⟩
 have HWD:Hid (jD m=0->∀V,Below w.heap.size w V->Calls Tryz.prog 95 #[.slice ao m.out.length co] V fun e w'=>∃a' c',e=.returned (.slice a' m.out.length c')/\w'.ownsRow V.heap.size 91 2 (.slice a' m.out.length c') m.out.length (m.out.flatMap jE)/\Below V.heap.size V w'):=fun hk V hV=>by
  obtain⟨c1,c2,c3,c4⟩:=Bq hk;refine(aco ao m.out.length co (m.out.flatMap jE) V (fY jE 2 yc _) ((abO h.out).below hV) (aed _) (by omega)).mono ?_;rintro e w' ⟨v,rfl,h1,h2⟩;obtain⟨a',c',rfl,_,_⟩:=bj h1;exact⟨a',c',rfl,h1,h2⟩
 have HC:=ai hc;have HR:=ai hr;obtain⟨ck,JJ⟩:=ex (jD m);have HCF:Hid (Ag m r=if ¬ck=0 then (wE,ck) else if ¬r.1=0 then (wE,r.1) else match r.2 with | none=>(wE,r.1) | some s=>(wD s,0)):=by rw[JJ];exact rfl
 rw[<- JJ] at E9 HNM PF HWD HC;obtain⟨R,hR⟩:=ex (Ag m r);rw[<- hR] at HCF ⊢;obtain⟨P,hP⟩:=ex (tU w R);have HP:Hid (∀e w',tU w R e w'->P e w'):=fun e w' h=>by rw[hP];exact h
 rw[<- hP];unfold ig at E9 ⊢;unfold bg at HNM;obtain⟨x0,hx0⟩:∃n,n=m.il.aM.length:=⟨_,rfl⟩;obtain⟨x1,hx1⟩:∃n,n=m.il.frames.length:=⟨_,rfl⟩;obtain⟨x2,hx2⟩:∃n,n=m.il.slots.length:=⟨_,rfl⟩;obtain⟨x3,hx3⟩:∃n,n=m.il.aj.length:=⟨_,rfl⟩;obtain⟨x4,hx4⟩:∃n,n=m.il.hand:=⟨_,rfl⟩;obtain⟨np,AA⟩:=ex m.procs.length;obtain⟨no,hno⟩:=ex m.out.length;rw[<- hx0,<- hx1,<- hx2,<- hx3,<- hx4] at E9 HNM ⊢;rw[<- AA,<- hno] at E9 ⊢;rw[<- AA] at PF;rw[<- hno] at HWD;have HNP:=ai AA;have uZ:=ai hno;have lh:=ai (((aK w.heap.size w).alloc (aI _) (.cells #[.slice a.aS x0 a.cS,.slice a.aF x1 a.cF,.slice a.aL x2 a.cL,.slice a.aP x3 a.cP,I x4,.slice ar np cr,.slice ao no co] 34)).alloc (by simp) (.cells #[Nl,Nl,Nl,Nl,I 0,Nl,Nl] 34));have BX:=ai (br (bE w #[.slice a.aS x0 a.cS,.slice a.aF x1 a.cF,.slice a.aL x2 a.cL,.slice a.aP x3 a.cP,I x4,.slice ar np cr,.slice ao no co] 34) (.cells #[Nl,Nl,Nl,Nl,I 0,Nl,Nl] 34));have BZ:=ai (bE (w.alloc (.cells #[.slice a.aS x0 a.cS,.slice a.aF x1 a.cF,.slice a.aL x2 a.cL,.slice a.aP x3 a.cP,I x4,.slice ar np cr,.slice ao no co] 34)) #[Nl,Nl,Nl,Nl,I 0,Nl,Nl] 34);clear h hf hc hr JJ hR hP hx0 hx1 hx2 hx3 hx4 AA hno;go_enter Tryz.func45,Tryz.ntmps45;go_wp2_with fail
 obtain⟨WA,lO⟩:=ex ((w.alloc (.cells #[.slice a.aS x0 a.cS,.slice a.aF x1 a.cF,.slice a.aL x2 a.cL,.slice a.aP x3 a.cP,I x4,.slice ar np cr,.slice ao no co] 34)).alloc (.cells #[Nl,Nl,Nl,Nl,I 0,Nl,Nl] 34));have hsz1:(w.alloc (.cells #[.slice a.aS x0 a.cS,.slice a.aF x1 a.cF,.slice a.aL x2 a.cL,.slice a.aP x3 a.cP,I x4,.slice ar np cr,.slice ao no co] 34)).heap.size=w.heap.size+1:=by simp
 rw[hsz1] at BZ;rw[<- lO] at lh BX BZ ⊢;obtain⟨x,hxe⟩:=ex w.heap.size;obtain⟨z,hze⟩:=ex (w.heap.size+1);rw[<- hze] at BZ ⊢;rw[<- hxe] at BX ⊢;have HXE:=ai hxe;have HZE:=ai hze;have hxz:¬x=z:=by omega
 have hzx:¬z=x:=by omega
 have Tt:Hid (∀V,Below WA.heap.size WA V->V.cell? ⟨x,0,none⟩=some (.slice a.aS x0 a.cS)/\V.cell? ⟨x,1,none⟩=some (.slice a.aF x1 a.cF)/\V.cell? ⟨x,2,none⟩=some (.slice a.aL x2 a.cL)/\V.cell? ⟨x,3,none⟩=some (.slice a.aP x3 a.cP)/\V.cell? ⟨x,4,none⟩=some (I x4)/\V.cell? ⟨x,5,none⟩=some (.slice ar np cr)/\V.cell? ⟨x,6,none⟩=some (.slice ao no co)):=fun V hb=>by
  have h1:=aO BX.o hb (aJ BX.o);exact nR h1
 have HZC:Hid (∀V,Below WA.heap.size WA V->(V.cell? ⟨z,0,none⟩=some Nl/\V.cell? ⟨z,1,none⟩=some Nl/\V.cell? ⟨z,2,none⟩=some Nl/\V.cell? ⟨z,3,none⟩=some Nl/\V.cell? ⟨z,4,none⟩=some (I 0)/\V.cell? ⟨z,5,none⟩=some Nl/\V.cell? ⟨z,6,none⟩=some Nl)/\V.frozen? ⟨z,0,none⟩=false/\V.frozen? ⟨z,1,none⟩=false/\V.frozen? ⟨z,2,none⟩=false/\V.frozen? ⟨z,3,none⟩=false/\V.frozen? ⟨z,4,none⟩=false/\V.frozen? ⟨z,5,none⟩=false/\V.frozen? ⟨z,6,none⟩=false):=fun V hb=>by
  have h1:=aO BZ.o hb (aJ BZ.o);exact⟨nR h1,aR h1 0,aR h1 1,aR h1 2,aR h1 3,aR h1 4,aR h1 5,aR h1 6⟩
 have al2:=aJ BZ.o;have HWZ:Hid (w.heap.size<=z):=(by rw[hze];omega:w.heap.size<=z);clear lO hsz1 hxe hze BX BZ;refine(E9.o _ lh.o).mono ?_;rintro e w1 ⟨rfl,hb1⟩;have cN:=ai hb1;obtain⟨⟨z0,z1,z2,z3,z4,z5,z6⟩,f0,f1,f2,f3,f4,f5,f6⟩:=HZC.o _ hb1;obtain⟨y0,y1,y2,y3,y4,y5,y6⟩:=Tt.o _ hb1;clear hb1 E9;by_cases hk0:ck=0
 · subst hk0;have HC1:=ai (HC.o rfl);have anA:=ai (HNM.o rfl);have ant:=ai (PF.o rfl);have anj:=ai (HWD.o rfl);have aiB:Hid (R=if ¬r.1=0 then (wE,r.1) else match r.2 with | none=>(wE,r.1) | some s=>(wD s,0)):=by rw[HCF.o,aA (fun g=>g rfl)];exact rfl
   clear HC HNM PF HWD HCF;go_wp2_with (go_at_call 79;refine(anA.o _ (lh.o.trans (cN.o.mono lh.o.size))).mono ?_;rintro e w2 ⟨s0,n0,q0,s1,n1,q1,s2,n2,q2,s3,n3,q3,hd,rfl,hb2,hm⟩;have Jv:=ai hm;have gQ:=ai hb2;clear hm hb2)
   obtain⟨mb,hmb⟩:=ex w2.heap.size;obtain⟨D0,hD0⟩:∃D0:Nat->Prop,D0=fun b=>b=w2.heap.size∨(w1.heap.size<=b/\b<w2.heap.size):=⟨_,rfl⟩
   obtain⟨WM,hWM⟩:=ex (w2.alloc (.cells #[.slice s0 n0 q0,.slice s1 n1 q1,.slice s2 n2 q2,.slice s3 n3 q3,I hd] 185));have hbM:Below w1.heap.size w1 WM:=by rw[hWM];exact gQ.o.alloc gQ.o.size _
   rw[<- hD0,<- hWM,<- hmb] at Jv;rw[<- hWM,<- hmb];clear hmb hD0 hWM;have anE:=ai (cN.o.trans (hbM.mono cN.o.size));have pU:=ai anE.o.drew;have ow:=ai ((Tt.o _ pU.o).2.2.2.2.2);clear y0 y1 y2 y3 y4 y5 y6 z0 z1 z2 z3 z4 z5 z6 f0 f1 f2 f3 f4 f5 f6 hbM;go_cut [8] (fun x8 wx=>∃gb D vr vo,x8=.pointer (some ⟨gb,0,none⟩)/\fW (gB w1.heap.size mb) w1.heap.size mb gb wx D vr vo (gG m)/\Below WA.heap.size WA wx)
   case first =>
    go_region_held3 (fun V=>V.cell? ⟨x,5,none⟩=some (.slice ar np cr)/\V.cell? ⟨x,6,none⟩=some (.slice ao no co)) (first | exact HS4.o | exact sK.o | exact ow.o | exact(Tt.o _ (HK4.o.alloc HK4.o.size _)).2.2.2.2.2)
     (first
      | (go_at_call 94;refine(ant.o _ (lh.o.trans (pU.o.mono lh.o.size))).mono ?_;rintro e w3 ⟨a3,c3,rfl,ho3,hb3⟩;have HO3:=ai ho3;have mO:=ai hb3;have Bw:=ai (pU.o.trans (hb3.mono pU.o.size));have sK:=ai ((Tt.o _ Bw.o).2.2.2.2.2);clear ho3 hb3)
      | (go_at_call 95;refine(anj.o _ (lh.o.trans (Bw.o.mono lh.o.size))).mono ?_;rintro e w4 ⟨a4,c4,rfl,ho4,hb4⟩;have HO4:=ai ho4;have tC:=ai hb4;have HK4:=ai (Bw.o.trans (hb4.mono Bw.o.size));have HS4:=ai ((Tt.o _ HK4.o).2.2.2.2.2);clear ho4 hb4))
    all_goals
     go_wp2_with fail
     go_meet
     case rel =>
      refine⟨_,_,_,_,rfl,Zr Jv.o ((aK _ _).drew.trans mO.o) ?_ tC.o ?_,HK4.o.alloc HK4.o.size _⟩
      · rw[<- HNP.o];exact HO3.o
      · rw[<- uZ.o];exact HO4.o
   case rest =>
    obtain⟨gb,D,vr,vo,rfl,hg,hbc⟩:=hcut;have HG:=ai hg;have HBC:=ai hbc;have HWB:=ai (lh.o.trans (hbc.mono lh.o.size));have HLO:Hid (w.heap.size<=w1.heap.size):=(by have:=lh.o.size;have:=cN.o.size;omega:w.heap.size<=w1.heap.size);have qG:=ai (HC1.o wc w1.heap.size mb gb D vr vo HWB.o HLO.o hg);have HGL:=ai (fun b=>fW.lt (PE w1.heap.size mb) hg b);have Gf:Hid (z<w1.heap.size):=fL al2 cN.o.size;clear hg hbc HC1 anA ant anj Jv gQ anE pU ow;by_cases Yf:r.1=0
    · obtain⟨s,hs⟩:=HR.o Yf;have Hv:Hid (R=(wD s,0)):=by rw[aiB.o,aA (fun g=>g Yf),hs];exact rfl
      obtain⟨n5,hn5⟩:∃n,n=s.ps.length:=⟨_,rfl⟩;obtain⟨n6,hn6⟩:∃n,n=s.out.length:=⟨_,rfl⟩;have W7:Hid (Calls Tryz.prog 61 #[.pointer (some ⟨gb,0,none⟩),.pointer (some ⟨q,0,none⟩)] wc fun e w'=>∃s0 n0 q0 s1 n1 q1 s2 n2 q2 s3 n3 q3 hd a5 c5 a6 c6,e=.returned (I 0)/\Below WA.heap.size WA w'/\(w'.cell? ⟨mb,0,none⟩=some (.slice s0 n0 q0)/\w'.cell? ⟨mb,1,none⟩=some (.slice s1 n1 q1)/\w'.cell? ⟨mb,2,none⟩=some (.slice s2 n2 q2)/\w'.cell? ⟨mb,3,none⟩=some (.slice s3 n3 q3)/\w'.cell? ⟨mb,4,none⟩=some (I hd)/\w'.cell? ⟨gb,1,none⟩=some (.slice a5 n5 c5)/\w'.cell? ⟨gb,2,none⟩=some (.slice a6 n6 c6))/\(¬mb=z/\¬gb=z)/\∃hs a,cC s.mem.aM hs/\ig (lI (wD s) hs) a a5 a6 c5 c6=#[.slice s0 n0 q0,.slice s1 n1 q1,.slice s2 n2 q2,.slice s3 n3 q3,I hd,.slice a5 n5 c5,.slice a6 n6 c6]/\∀V,aD (fun b=>b<=z) w' V->uR V a a5 a6 (lI (wD s) hs)):=qG.o.mono fun e w' ⟨h1,h2,h3⟩=>by
       obtain⟨D',Ob,Oc,hg',_,_⟩:=h3 s hs;rw[Yf] at h1;obtain⟨s0,n0,q0,s1,n1,q1,s2,n2,q2,s3,n3,q3,hd,a5,c5,a6,c6,g1,g2,g3⟩:=Zq hg' Gf.o;rw[<- hn5,<- hn6] at g1 g3;exact⟨s0,n0,q0,s1,n1,q1,s2,n2,q2,s3,n3,q3,hd,a5,c5,a6,c6,h1,aD.below HBC.o h2 HBC.o.size (fun b hb=>gY cN.o.size (HGL.o b hb).1),g1,g2,g3⟩
      clear aiB qG hs Yf HR hn5 hn6 HGL HG;go_wp2_with (go_at_call 61;refine W7.o.mono ?_;rintro e w5 ⟨s0,n0,q0,s1,n1,q1,s2,n2,q2,s3,n3,q3,hd,a5,c5,a6,c6,rfl,Mb,hcl,hnz,hfl⟩;have XV:=ai Mb;have OH:=ai hcl;have HFL:=ai hfl;obtain⟨⟨z0,z1,z2,z3,z4,z5,z6⟩,f0,f1,f2,f3,f4,f5,f6⟩:=HZC.o _ Mb;obtain⟨nz1,nz2⟩:=hnz;clear Mb hcl hfl)
      obtain⟨k0,k1,k2,k3,k4,k5,k6⟩:=OH.o;go_region
      all_goals
       go_wp2;refine bO (v:=.tuple #[.agg #[.slice s0 n0 q0,.slice s1 n1 q1,.slice s2 n2 q2,.slice s3 n3 q3,I hd,.slice a5 n5 c5,.slice a6 n6 c6],I 0]) (by simp[results,Tryz.results45,go_sem,z0,z1,z2,z3,z4,z5,z6]) rfl ?_;refine HP.o _ _ ?_;rw[Hv.o];have hk4:=(pO w5 z (.slice s0 n0 q0) (.slice s1 n1 q1) (.slice s2 n2 q2) (.slice s3 n3 q3) (I hd) (.slice a5 n5 c5) (.slice a6 n6 c6)).trans (aD.drew (fun b=>b=z) _) (fun _ _ g=>g);obtain⟨hs,a',g1,g2,g3⟩:=HFL.o;exact⟨hs,a',a5,c5,a6,c6,g1,by rw[g2],fun V hV=>g3 _ ((hk4.mono (fun b _ e=>Nat.le_of_eq e)).trans hV (fun b _ g=>OY (fL g HWZ.o))),aD.below (lh.o.trans (XV.o.mono lh.o.size)) hk4 (gY lh.o.size XV.o.size) (fun b e=>by rw[e];exact HWZ.o)⟩
    · have Hv:Hid (R=(wE,r.1)):=by rw[aiB.o,aC Yf];exact rfl
      obtain⟨rc,hrc⟩:=ex r.1;have yP:Hid (Calls Tryz.prog 61 #[.pointer (some ⟨gb,0,none⟩),.pointer (some ⟨q,0,none⟩)] wc fun e w'=>e=.returned (I rc)/\Below WA.heap.size WA w'):=qG.o.mono fun e w' ⟨h1,h2,h3⟩=>by
       rw[<- hrc] at h1;exact⟨h1,aD.below HBC.o h2 HBC.o.size (fun b hb=>gY cN.o.size (HGL.o b hb).1)⟩
      have JI:(rc==0)=false:=by rw[mF,hrc];exact Yf
      rw[<- hrc] at Hv;clear aiB qG Yf HR hrc;go_wp2_with (go_at_call 61;refine yP.o.mono ?_;rintro e w5 ⟨rfl,Mb⟩;have XV:=ai Mb;obtain⟨⟨z0,z1,z2,z3,z4,z5,z6⟩,f0,f1,f2,f3,f4,f5,f6⟩:=HZC.o _ Mb;clear Mb)
      refine bO (v:=.tuple #[.agg #[Nl,Nl,Nl,Nl,I 0,Nl,Nl],I rc]) (by simp[results,Tryz.results45,go_sem,z0,z1,z2,z3,z4,z5,z6]) rfl ?_;refine HP.o _ _ ?_;rw[Hv.o];exact My rc (aD.below (lh.o.trans (XV.o.mono lh.o.size)) (pO w5 z _ _ _ _ _ _ _) (gY lh.o.size XV.o.size) (fun b e=>by rw[e];exact HWZ.o))
 · have Hv:Hid (R=(wE,ck)):=by rw[HCF.o,aC hk0];exact rfl
   have JI:(ck==0)=false:=by rw[mF];exact hk0
   clear HCF hk0 HC HNM PF HWD;go_wp2;refine bO (v:=.tuple #[.agg #[Nl,Nl,Nl,Nl,I 0,Nl,Nl],I ck]) (by simp[results,Tryz.results45,go_sem,z0,z1,z2,z3,z4,z5,z6]) rfl ?_;refine HP.o _ _ ?_;rw[Hv.o];exact My ck (aD.below (lh.o.trans (cN.o.mono lh.o.size)) (pO w1 z _ _ _ _ _ _ _) (gY lh.o.size cN.o.size) (fun b e=>by rw[e];exact HWZ.o))
open Go.RowKit
theorem adk.below {w w':World} {ao:Option Addr} {l:List Int} (h:oV w ao l) (hb:Below w.heap.size w w'):oV w' ao l:=fun hl=>by
 obtain⟨b,off,e,hlt,hc⟩:=h hl;exact⟨b,off,e,fL hlt hb.size,fun i hi=>(hb.cell (p:=⟨b,(off+i),none⟩) hlt).trans (hc i hi)⟩
theorem Zn (st:dE aT) (picks:List Int) (h:(wF fX st picks).1=0):∃s,(wF fX st picks).2=some s:=by
 unfold wF at h ⊢;by_cases c:2000<picks.length
 · rw[aC c] at h;cases h
 · rw[aA c] at h ⊢;cases e:dG fX picks picks.length (some st) with
   | none=>rw[e] at h;cases h
   | some s=>exact⟨s,rfl⟩
theorem Zo {m:iF} {lo mb gb:Nat} {D:Nat->Prop} {vr vo:Value} (picks:List Int) (ap:Option Addr) (cp q:Nat) (V:World) (hk:jD m=0) (hp:Q5 m.procs) (hg:fW (gB lo mb) lo mb gb V D vr vo (gG m)) (hq:V.cell? ⟨q,0,none⟩=some (.slice ap picks.length cp)) (hn:oV V ap picks) (hps:0<picks.length->∀b,ap=some b->b.block<lo) (hpl:picks.length<=140737488351232) :
  Calls Tryz.prog 61 #[.pointer (some ⟨gb,0,none⟩),.pointer (some ⟨q,0,none⟩)] V (zI (gB lo mb) lo mb gb V D vr vo (wF fX (gG m) picks)):=by
 have HS:=ai (abV (PE lo mb) picks ap cp V hg (aei hk hp) hn (fun h0 b e g=>by have:=(hg.lt (PE lo mb) _ g).1;have:=hps h0 b e;omega) hpl);obtain⟨X,hX⟩:=ex (wF fX (gG m) picks);rw[<- hX] at HS ⊢;obtain⟨P,hP⟩:=ex (zI (gB lo mb) lo mb gb V D vr vo X);have HP:Hid (∀w',(aD (kH gb D vr vo) V w'/\∀s,X.2=some s->cJ (gB lo mb) lo mb gb V D vr vo s w')->P (.returned (I X.1)) w'):=fun w' h=>by
  rw[hP];exact⟨rfl,h.1,h.2⟩
 rw[<- hP];obtain⟨X1,hX1⟩:=ex X.1;have rX:Hid (Calls Tryz.prog 62 #[.pointer (some ⟨gb,0,none⟩),.slice ap picks.length cp] V fun e w'=>e=.returned (I X1)/\aD (kH gb D vr vo) V w'/\∀s,X.2=some s->cJ (gB lo mb) lo mb gb V D vr vo s w'):=by rw[hX1];exact HS.o
 rw[<- hX1] at HP;clear hX hP hg HS hX1 hn hps;go_enter Tryz.func61,Tryz.ntmps61;go_wp2_with (go_at_call 62;refine rX.o.mono ?_;rintro e w1 ⟨rfl,hl⟩;have HL:=ai hl;clear hl)
 exact HP.o _ HL.o
theorem abP (m:iF) (picks:List Int) (ap:Option Addr) (cp:Nat) (a:jc) (ar ao:Option Addr) (cr co:Nat) (w:World) (h:uR w a ar ao m) (hf:Lp m) (hp:Q5 m.procs) (hn:oV w ap picks) (hps:0<picks.length->∀b,ap=some b->b.block<w.heap.size) (hpl:picks.length<=140737488351232) :
  Calls Tryz.prog 20 #[.agg (ig m a ar ao cr co),.slice ap picks.length cp] w (tU w (dU m picks)):=by
 obtain⟨r,hr⟩:=ex (dU m picks);have JL:Hid (∀V q,Below w.heap.size w V->V.cell? ⟨q,0,none⟩=some (.slice ap picks.length cp)->Calls Tryz.prog 45 #[.agg (ig m a ar ao cr co),.func (.func 61) #[] #[.pointer (some ⟨q,0,none⟩)]] V fun e w'=>∃s0 n0 q0 s1 n1 q1 s2 n2 q2 s3 n3 q3 hd s5 n5 q5 s6 n6 q6 er,e=.returned (.tuple #[.agg #[.slice s0 n0 q0,.slice s1 n1 q1,.slice s2 n2 q2,.slice s3 n3 q3,I hd,.slice s5 n5 q5,.slice s6 n6 q6],I er])/\Below V.heap.size V w'/\∀U,aD (fun b=>b<V.heap.size) w' U->Below w.heap.size w U->tU w r (.returned (.tuple #[.agg #[.slice s0 n0 q0,.slice s1 n1 q1,.slice s2 n2 q2,.slice s3 n3 q3,I hd,.slice s5 n5 q5,.slice s6 n6 q6],I er])) U):=fun V q hV hq=>by
  rw[hr];refine(OC m (wF fX (gG m) picks) q a ar ao cr co V (h.below hV) hf (Zn _ _) (fun hk U lo mb gb D vr vo hU hlo hg=>Zo picks ap cp q U hk hp hg ((hU.cell (p:=⟨q,0,none⟩) (oQ _ _ hq)).trans hq) (adk.below (adk.below hn hV) hU) (fun h0 b e=>fL (hps h0 b e) (gY hV.size hlo)) hpl)).mono ?_;rintro e w' ⟨hs,a1,a2,c2,a3,c3,hsm,rfl,h1,h2⟩;exact⟨_,_,_,_,_,_,_,_,_,_,_,_,_,_,_,_,_,_,_,_,rfl,h2,fun U hU hb=>⟨hs,a1,a2,c2,a3,c3,hsm,rfl,fun V2 h3=>h1 _ (hU.trans h3 (fun b _ g=>fL g hV.size)),hb⟩⟩
 rw[<- hr];obtain⟨P,hP⟩:=ex (tU w r);rw[<- hP] at JL ⊢;clear h hf hp hr hP hn hps;unfold ig at JL ⊢;obtain⟨x0,hx0⟩:∃n,n=m.il.aM.length:=⟨_,rfl⟩;obtain⟨x1,hx1⟩:∃n,n=m.il.frames.length:=⟨_,rfl⟩;obtain⟨x2,hx2⟩:∃n,n=m.il.slots.length:=⟨_,rfl⟩;obtain⟨x3,hx3⟩:∃n,n=m.il.aj.length:=⟨_,rfl⟩;obtain⟨x4,hx4⟩:∃n,n=m.il.hand:=⟨_,rfl⟩;obtain⟨np,AA⟩:=ex m.procs.length;obtain⟨no,hno⟩:=ex m.out.length;rw[<- hx0,<- hx1,<- hx2,<- hx3,<- hx4,<- AA,<- hno] at JL ⊢;clear hx0 hx1 hx2 hx3 hx4 AA hno;obtain⟨pl,hpe⟩:=ex picks.length;rw[<- hpe] at JL ⊢;clear hpe hpl;obtain⟨WQ,hWQ⟩:=ex ((w.alloc (.cells #[.slice a.aS x0 a.cS,.slice a.aF x1 a.cF,.slice a.aL x2 a.cL,.slice a.aP x3 a.cP,I x4,.slice ar np cr,.slice ao no co] 34)).alloc (.cells #[.slice ap pl cp] 48));have hwq:WQ.heap.size=w.heap.size+1+1:=by rw[hWQ];simp
 have BQ:WQ.heap[w.heap.size+1]?=some (.cells #[.slice ap pl cp] 48 (0,0)):=by
  rw[hWQ];have:=bE (w.alloc (.cells #[.slice a.aS x0 a.cS,.slice a.aF x1 a.cF,.slice a.aL x2 a.cL,.slice a.aP x3 a.cP,I x4,.slice ar np cr,.slice ao no co] 34)) #[.slice ap pl cp] 48;simpa using this
 have HBQ:Below w.heap.size w WQ:=by rw[hWQ];exact((aK w.heap.size w).alloc (aI _) _).alloc (by simp) _
 have lh:=ai (HBQ.alloc HBQ.size (.cells #[Nl,Nl,Nl,Nl,I 0,Nl,Nl] 34));have hq:(WQ.alloc (.cells #[Nl,Nl,Nl,Nl,I 0,Nl,Nl] 34)).cell? ⟨(w.heap.size+1),0,none⟩=some (.slice ap pl cp):=au (br BQ _) 0 rfl;have BZ:=bE WQ #[Nl,Nl,Nl,Nl,I 0,Nl,Nl] 34;rw[hwq] at BZ;obtain⟨WA,lO⟩:=ex (WQ.alloc (.cells #[Nl,Nl,Nl,Nl,I 0,Nl,Nl] 34));rw[<- lO] at lh hq BZ;have anU:=ai (JL.o WA (w.heap.size+1) lh.o hq);have HZB:=ai BZ;rw[hWQ] at lO;rw[lO] at anU;have se:=ai lO;clear lO hWQ hwq BQ HBQ hq BZ JL;go_enter Tryz.func20,Tryz.ntmps20;go_wp2_with (go_at_call 45;refine anU.o.mono ?_;rintro e w1 ⟨s0,n0,q0,s1,n1,q1,s2,n2,q2,s3,n3,q3,hd,s5,n5,q5,s6,n6,q6,er,rfl,hb,ho⟩;rw[<- se.o] at hb ho;have cN:=ai hb;have HO1:=ai ho;have hz1:=aO HZB.o hb (aJ HZB.o);obtain⟨z0,z1,z2,z3,z4,z5,z6⟩:=nR hz1;have f0:=aR hz1 0;have f1:=aR hz1 1;have f2:=aR hz1 2;have f3:=aR hz1 3;have f4:=aR hz1 4;have f5:=aR hz1 5;have f6:=aR hz1 6;clear hb ho hz1)
 refine bO (v:=.tuple #[.agg #[.slice s0 n0 q0,.slice s1 n1 q1,.slice s2 n2 q2,.slice s3 n3 q3,I hd,.slice s5 n5 q5,.slice s6 n6 q6],I er]) (by simp[results,Tryz.results20,go_sem,z0,z1,z2,z3,z4,z5,z6]) rfl ?_;have hk4:=pO w1 (w.heap.size+1+1) (.slice s0 n0 q0) (.slice s1 n1 q1) (.slice s2 n2 q2) (.slice s3 n3 q3) (I hd) (.slice s5 n5 q5) (.slice s6 n6 q6);have hzl:=aJ HZB.o;exact HO1.o _ (hk4.mono (fun b _ e=>by rw[e];exact hzl)) (aD.below (lh.o.trans (cN.o.mono lh.o.size)) hk4 (gY lh.o.size cN.o.size) (fun b e=>by omega))
open Go.RowKit
def qd (l:List aX) (hs:List bJ) (en nf ns:Int):iF×Int:=if (sD l hs en nf ns).2=0 then (⟨(sD l hs en nf ns).1,[nH en],[]⟩,0) else (wE,(sD l hs en nf ns).2)
theorem abT {V:World} {g:Nat} {en:Int} {t:TypeId} (h:V.heap[g]?=some (.cells #[I 0,I 0,I 0,I 0,I 0,I 0,I 0,I 0,I en,I 1,I 0,I 0,I 0] t (0,0))):uS V (some ⟨g,0,none⟩) [nH en]:=fun _=>⟨g,0,rfl,aJ h,fun i hi=>by
 obtain rfl:i=0:=by have:i<1:=hi;omega
 exact⟨au h 0 rfl,au h 1 rfl,au h 2 rfl,au h 3 rfl,au h 4 rfl,au h 5 rfl,au h 6 rfl,au h 7 rfl,au h 8 rfl,au h 9 rfl,au h 10 rfl,au h 11 rfl,au h 12 rfl⟩⟩
theorem abR (l:List aX) (hs:List bJ) (en nf ns:Int) (va:Value) (ao:Option Addr) (cap:Nat) (w:World) (ha:fZ w va l) (hf:dO l) (h:iT w ao hs) (PX:rD hs) (hcap:hs.length<=cap) (he:cO en) :
  Calls Tryz.prog 10 #[.agg #[va,.slice ao hs.length cap,I en],I nf,I ns] w (tU w (qd l hs en nf ns)):=by
 obtain⟨aa,ca,Ja,_⟩:=id ha;have HNK:Hid (∀V,Below w.heap.size w V->Calls Tryz.prog 30 #[.agg #[va,.slice ao hs.length cap,I en],I nf,I ns] V fun e w'=>∃s0 n0 q0 s1 n1 q1 s2 n2 q2 s3 n3 q3 hd,e=.returned (.tuple #[.agg #[.slice s0 n0 q0,.slice s1 n1 q1,.slice s2 n2 q2,.slice s3 n3 q3,I hd],I (sD l hs en nf ns).2])/\Below V.heap.size V w'/\∃hs1 a,cC (sD l hs en nf ns).1.aM hs1/\bg a (aV (sD l hs en nf ns).1 hs1)=#[.slice s0 n0 q0,.slice s1 n1 q1,.slice s2 n2 q2,.slice s3 n3 q3,I hd]/\∀U,aD (fun b=>b<V.heap.size) w' U->jd U a (aV (sD l hs en nf ns).1 hs1)):=fun V hV=>by
  refine(abv vY l hs en nf ns va ao cap V (ha.below hV) hf (h.below hV) PX hcap he).mono ?_;intro e w' ho;obtain⟨hs1,a,g1,g2,g3,g4⟩:=Zm ho;exact⟨_,_,_,_,_,_,_,_,_,_,_,_,_,g2,g4,hs1,a,g1,rfl,g3⟩
 have HBG:Hid (∀V,Calls Tryz.prog 31 #[I en] V fun e w'=>e=.returned (.agg #[I 0,I 0,I 0,I 0,I 0,I 0,I 0,I 0,I en,I 1,I 0,I 0,I 0])/\Below V.heap.size V w'):=fun V=>Xu en V
 obtain⟨N,hN⟩:=ex (sD l hs en nf ns);have HRN:Hid (qd l hs en nf ns=if N.2=0 then (⟨N.1,[nH en],[]⟩,0) else (wE,N.2)):=by rw[hN];exact rfl
 rw[<- hN] at HNK;obtain⟨R,hR⟩:=ex (qd l hs en nf ns);rw[<- hR] at HRN ⊢;obtain⟨P,hP⟩:=ex (tU w R);have HP:Hid (∀e w',tU w R e w'->P e w'):=fun e w' h=>by rw[hP];exact h
 rw[<- hP];obtain⟨er,her⟩:=ex N.2;rw[<- her] at HNK HRN;obtain⟨nh,hnh⟩:=ex hs.length;rw[<- hnh] at HNK ⊢;subst Ja;obtain⟨na,rz⟩:=ex l.length;rw[<- rz] at HNK ⊢;obtain⟨va,Ja⟩:=ex (Value.slice aa na ca);have HVA:=ai Ja;clear Ja;have lh:=ai (((aK w.heap.size w).alloc (aI _) (.cells #[.slice aa na ca,.slice ao nh cap,I en] 25)).alloc (by simp) (.cells #[Nl,Nl,Nl,Nl,I 0,Nl,Nl] 34));have BX:=ai (br (bE w #[.slice aa na ca,.slice ao nh cap,I en] 25) (.cells #[Nl,Nl,Nl,Nl,I 0,Nl,Nl] 34));have BZ:=ai (bE (w.alloc (.cells #[.slice aa na ca,.slice ao nh cap,I en] 25)) #[Nl,Nl,Nl,Nl,I 0,Nl,Nl] 34);clear ha hf h PX hcap he hN hR hP her hnh rz HVA va;go_enter Tryz.func10,Tryz.ntmps10;go_wp2_with fail
 obtain⟨WA,lO⟩:=ex ((w.alloc (.cells #[.slice aa na ca,.slice ao nh cap,I en] 25)).alloc (.cells #[Nl,Nl,Nl,Nl,I 0,Nl,Nl] 34));have hsz1:(w.alloc (.cells #[.slice aa na ca,.slice ao nh cap,I en] 25)).heap.size=w.heap.size+1:=by simp
 rw[hsz1] at BZ;rw[<- lO] at lh BX BZ ⊢;obtain⟨x,hxe⟩:=ex w.heap.size;obtain⟨z,hze⟩:=ex (w.heap.size+1);rw[<- hze] at BZ ⊢;rw[<- hxe] at BX ⊢;have hxz:¬x=z:=by omega
 have hzx:¬z=x:=by omega
 have Tt:Hid (∀V,Below WA.heap.size WA V->V.cell? ⟨x,0,none⟩=some (.slice aa na ca)/\V.cell? ⟨x,1,none⟩=some (.slice ao nh cap)/\V.cell? ⟨x,2,none⟩=some (I en)):=fun V hb=>Ez (aO BX.o hb (aJ BX.o))
 have HZB:Hid (∀V,Below WA.heap.size WA V->V.heap[z]?=some (.cells #[Nl,Nl,Nl,Nl,I 0,Nl,Nl] 34 (0,0))):=fun V hb=>aO BZ.o hb (aJ BZ.o)
 have al2:=aJ BZ.o;have HWZ:Hid (w.heap.size<=z):=(by rw[hze];omega:w.heap.size<=z);clear lO hsz1 hxe hze BX BZ;refine(HNK.o _ lh.o).mono ?_;rintro e w1 ⟨s0,n0,q0,s1,n1,q1,s2,n2,q2,s3,n3,q3,hd,rfl,hb1,hk1⟩;have cN:=ai hb1;have vD:=ai hk1;clear hb1 hk1 HNK;obtain⟨WX,hWX⟩:=ex (w1.alloc (.cells #[.slice s0 n0 q0,.slice s1 n1 q1,.slice s2 n2 q2,.slice s3 n3 q3,I hd] 30));have hbX:Below w1.heap.size w1 WX:=by rw[hWX];exact(aK _ _).alloc (aI _) _
 have hX:=bE w1 #[.slice s0 n0 q0,.slice s1 n1 q1,.slice s2 n2 q2,.slice s3 n3 q3,I hd] 30;rw[<- hWX] at hX;have Jw:=ai (cN.o.trans (hbX.mono cN.o.size));have HWX:=ai hWX;have hz2:=HZB.o _ Jw.o;obtain⟨z0,z1,z2,z3,z4,z5,z6⟩:=nR hz2;have f0:=aR hz2 0;have f1:=aR hz2 1;have f2:=aR hz2 2;have f3:=aR hz2 3;have f4:=aR hz2 4;have f5:=aR hz2 5;have f6:=aR hz2 6;have HX0:=ai hX;have aln:=ai hbX;rw[hWX] at z0 z1 z2 z3 z4 z5 z6 f0 f1 f2 f3 f4 f5 f6;clear hWX hbX hz2 hX;by_cases c:er=0
 · subst c;have Hv:Hid (R=(⟨N.1,[nH en],[]⟩,0)):=HRN;clear HRN;go_wp2_with fail
   rw[<- HWX.o];rw[<- HWX.o] at z0 z1 z2 z3 z4 z5 z6 f0 f1 f2 f3 f4 f5 f6;obtain⟨X,hXe⟩:=ex w1.heap.size;rw[<- hXe] at HX0 ⊢;have agu:Hid (∀V,Below WX.heap.size WX V->V.cell? ⟨X,0,none⟩=some (.slice s0 n0 q0)/\V.cell? ⟨X,1,none⟩=some (.slice s1 n1 q1)/\V.cell? ⟨X,2,none⟩=some (.slice s2 n2 q2)/\V.cell? ⟨X,3,none⟩=some (.slice s3 n3 q3)/\V.cell? ⟨X,4,none⟩=some (I hd)/\V.cell? ⟨x,2,none⟩=some (I en)):=fun V hb=>by
    obtain⟨k0,k1,k2,k3,k4⟩:=iH (aO HX0.o hb (aJ HX0.o));exact⟨k0,k1,k2,k3,k4,(Tt.o V (Jw.o.trans (hb.mono Jw.o.size))).2.2⟩
   have ow:=ai (agu.o _ (aK WX.heap.size WX).drew);have hXz:¬X=z:=by have:=cN.o.size;omega
   have HXZ:=ai hXz;have ase:Hid (∀V,Below WX.heap.size WX V->Calls Tryz.prog 31 #[I en] V fun e w'=>e=.returned (.agg #[I 0,I 0,I 0,I 0,I 0,I 0,I 0,I 0,I en,I 1,I 0,I 0,I 0])/\Below WX.heap.size WX w'):=fun V hV=>(HBG.o V).mono fun e w' ⟨g1,g2⟩=>⟨g1,hV.trans (g2.mono hV.size)⟩
   have XX:Hid (∀W,Below WX.heap.size WX W->∀V,aD (fun b=>b=z) (W.alloc (.cells #[I 0,I 0,I 0,I 0,I 0,I 0,I 0,I 0,I en,I 1,I 0,I 0,I 0] 77)) V->V.cell? ⟨X,0,none⟩=some (.slice s0 n0 q0)/\V.cell? ⟨X,1,none⟩=some (.slice s1 n1 q1)/\V.cell? ⟨X,2,none⟩=some (.slice s2 n2 q2)/\V.cell? ⟨X,3,none⟩=some (.slice s3 n3 q3)/\V.cell? ⟨X,4,none⟩=some (I hd)/\V.cell? ⟨x,2,none⟩=some (I en)):=fun W hW V hV=>by
    obtain⟨k0,k1,k2,k3,k4,k5⟩:=agu.o _ (hW.alloc hW.size (.cells #[I 0,I 0,I 0,I 0,I 0,I 0,I 0,I 0,I en,I 1,I 0,I 0,I 0] 77));exact⟨hV.cell k0 HXZ.o,hV.cell k1 HXZ.o,hV.cell k2 HXZ.o,hV.cell k3 HXZ.o,hV.cell k4 HXZ.o,hV.cell k5 hxz⟩
   have HZ7:Hid (∀W,Below WX.heap.size WX W->(W.alloc (.cells #[I 0,I 0,I 0,I 0,I 0,I 0,I 0,I 0,I en,I 1,I 0,I 0,I 0] 77)).heap[z]?=some (.cells #[Nl,Nl,Nl,Nl,I 0,Nl,Nl] 34 (0,0))):=fun W hW=>HZB.o _ (Jw.o.trans ((hW.alloc hW.size _).mono Jw.o.size))
   clear z0 z1 z2 z3 z4 z5 z6 f0 f1 f2 f3 f4 f5 f6 hXe hXz;refine xx (S:=fun V=>V.cell? ⟨X,0,none⟩=some (.slice s0 n0 q0)/\V.cell? ⟨X,1,none⟩=some (.slice s1 n1 q1)/\V.cell? ⟨X,2,none⟩=some (.slice s2 n2 q2)/\V.cell? ⟨X,3,none⟩=some (.slice s3 n3 q3)/\V.cell? ⟨X,4,none⟩=some (I hd)/\V.cell? ⟨x,2,none⟩=some (I en)) (z:=6) (by kernel_rfl) ?_;obtain⟨V0,hV0⟩:=ex WX.drew;have HV0:Hid (Below WX.heap.size WX V0):=by rw[hV0];exact(aK WX.heap.size WX).drew
   rw[<- hV0] at ow ⊢;clear hV0;refine iK 0 ow.o ?_ ?_ ?_;rotate_left 1
   · intro V h;obtain⟨k0,k1,k2,k3,k4,k5⟩:=h;go_simp
     try with_reducible rfl
   refine iK 1 ow.o ?_ ?_ ?_;rotate_left 1
   · intro V h;obtain⟨k0,k1,k2,k3,k4,k5⟩:=h;go_simp
     try with_reducible rfl
   refine iK 2 ow.o ?_ ?_ ?_;rotate_left 1
   · intro V h;obtain⟨k0,k1,k2,k3,k4,k5⟩:=h;go_simp
     try with_reducible rfl
   refine eI (rs:=[3]) (by kernel_rfl) (by simp) ?_;refine bw.cons rfl (fun K hK=>?_) bw.nil;go_simp
   go_at_call 31
   refine(ase.o _ HV0.o).mono ?_;rintro e w7 ⟨rfl,hb7⟩;have HK7:=ai hb7;clear hb7;go_simp;refine hK.out _ _ (fun _=>?_) ?_
   · exact agu.o _ HK7.o
   clear hK K
   try simp only[Act.put,dJ,dB,dw]
   refine eI (rs:=[4]) (by kernel_rfl) (by simp) ?_;refine bw.cons rfl (fun K hK=>?_) bw.nil;go_simp;refine hK.out _ _ (fun _=>?_) ?_
   · exact agu.o _ (HK7.o.alloc HK7.o.size _)
   clear hK K
   try simp only[Act.put,dJ,dB,dw]
   have HK8:=ai (HK7.o.alloc HK7.o.size (.cells #[I 0,I 0,I 0,I 0,I 0,I 0,I 0,I 0,I en,I 1,I 0,I 0,I 0] 77));have BP:=ai (bE w7 #[I 0,I 0,I 0,I 0,I 0,I 0,I 0,I 0,I en,I 1,I 0,I 0,I 0] 77);have HZ8:=ai (HZ7.o _ HK7.o);obtain⟨V8,hV8⟩:=ex (w7.alloc (.cells #[I 0,I 0,I 0,I 0,I 0,I 0,I 0,I 0,I en,I 1,I 0,I 0,I 0] 77));obtain⟨bP,XM⟩:=ex w7.heap.size;have HBP:Hid (WX.heap.size<=bP):=(by rw[XM];exact HK7.o.size:WX.heap.size<=bP);have arw:Hid (∀V,aD (fun b=>b=z) V8 V->V.cell? ⟨X,0,none⟩=some (.slice s0 n0 q0)/\V.cell? ⟨X,1,none⟩=some (.slice s1 n1 q1)/\V.cell? ⟨X,2,none⟩=some (.slice s2 n2 q2)/\V.cell? ⟨X,3,none⟩=some (.slice s3 n3 q3)/\V.cell? ⟨X,4,none⟩=some (I hd)/\V.cell? ⟨x,2,none⟩=some (I en)):=by rw[hV8];exact XX.o _ HK7.o
   rw[<- hV8] at HK8 BP HZ8 ⊢;rw[<- XM] at BP ⊢;clear hV8 XM;refine iK 5 (agu.o _ HK8.o) ?_ ?_ ?_;rotate_left 1
   · intro V h;obtain⟨k0,k1,k2,k3,k4,k5⟩:=h;go_simp
     try with_reducible rfl
   obtain⟨z0,z1,z2,z3,z4,z5,z6⟩:=nR HZ8.o;have f0:=aR HZ8.o 0;have f1:=aR HZ8.o 1;have f2:=aR HZ8.o 2;have f3:=aR HZ8.o 3;have f4:=aR HZ8.o 4;have f5:=aR HZ8.o 5;have f6:=aR HZ8.o 6;refine eI (rs:=[6]) (by kernel_rfl) (by simp) ?_;refine bw.cons rfl (fun K hK=>?_) bw.nil;go_simp;refine hK.out _ _ (fun g=>absurd rfl g) ?_;clear hK K
   try simp only[Act.put,dJ,dB,dw]
   refine eI (rs:=[7]) (by kernel_rfl) (by simp) ?_;refine bw.cons rfl (fun K hK=>?_) bw.nil;go_simp;refine hK.out _ _ (fun _=>?_) ?_
   · exact(arw.o _ (pO _ z _ _ _ _ _ _ _))
   clear hK K
   try simp only[Act.put,dJ,dB,dw]
   refine q9 (by kernel_rfl) ?_ _;go_wp2;refine bO (v:=.tuple #[.agg #[.slice s0 n0 q0,.slice s1 n1 q1,.slice s2 n2 q2,.slice s3 n3 q3,I hd,.slice (some ⟨bP,0,none⟩) 1 1,Nl],I 0]) (by simp[results,Tryz.results10,go_sem,z0,z1,z2,z3,z4,z5,z6]) rfl ?_;refine HP.o _ _ ?_;rw[Hv.o];have hk8:=pO V8 z (.slice s0 n0 q0) (.slice s1 n1 q1) (.slice s2 n2 q2) (.slice s3 n3 q3) (I hd) (.slice (some ⟨bP,0,none⟩) 1 1) Nl;obtain⟨hs1,a1,g1,g2,g3⟩:=vD.o;have hzb:¬bP=z:=by have:=HBP.o;have:=Jw.o.size;omega
   have e7:ig (lI ⟨N.1,[nH en],[]⟩ hs1) a1 (some ⟨bP,0,none⟩) none 1 0=#[.slice s0 n0 q0,.slice s1 n1 q1,.slice s2 n2 q2,.slice s3 n3 q3,I hd,.slice (some ⟨bP,0,none⟩) 1 1,Nl]:=by
    have g2:=dI Array.toList g2;unfold bg at g2;unfold ig lI;simp only[AG] at g2 ⊢;obtain⟨b0,b1,b2,b3,b4,_⟩:=g2;simp only[b0,b1,b2,b3,b4,xM,O5]
   have hwz:=HWZ.o;have hsz:=lh.o.size;have avq:=cN.o.size;have hsW:=aln.o.size;have aqF:Below w1.heap.size w1 V8:=aln.o.trans (HK8.o.mono aln.o.size);have hW1:=Jw.o.size;refine⟨hs1,a1,some ⟨bP,0,none⟩,1,none,0,g1,by rw[e7],fun V hV=>?_,aD.below ((lh.o.trans (Jw.o.mono lh.o.size)).trans (HK8.o.mono (by omega))) hk8 (by have:=HK8.o.size;omega) (fun b e=>by rw[e];exact hwz)⟩;have hkv:aD (fun b=>b<WX.heap.size) V8 V:=(hk8.mono (fun b _ e=>by omega)).trans (hV.mono (fun b _ g=>by omega)) (fun _ _ g=>g);have hkw:aD (fun b=>b<WA.heap.size) V8 V:=(hk8.mono (fun b _ e=>by omega)).trans (hV.mono (fun b _ g=>by omega)) (fun _ _ g=>g);exact⟨g3 V ((aD.b9 aqF).trans hkw (fun _ _ g=>g)),abT (hkv.keep BP.o (by have:=HBP.o;omega)),fun g=>absurd g (ky _)⟩
 · have Hv:Hid (R=(wE,er)):=by rw[HRN.o,aA c];exact rfl
   have cb:(er==0)=false:=by grind
   clear c HRN;go_wp2_with fail
   rw[<- HWX.o];rw[<- HWX.o] at z0 z1 z2 z3 z4 z5 z6 f0 f1 f2 f3 f4 f5 f6;refine bO (v:=.tuple #[.agg #[Nl,Nl,Nl,Nl,I 0,Nl,Nl],I er]) (by simp[results,Tryz.results10,go_sem,z0,z1,z2,z3,z4,z5,z6]) rfl ?_;refine HP.o _ _ ?_;rw[Hv.o];exact My er (aD.below (lh.o.trans (Jw.o.mono lh.o.size)) (pO WX z _ _ _ _ _ _ _) (gY lh.o.size Jw.o.size) (fun b e=>by rw[e];exact HWZ.o))
open Go.RowKit
def C4:ByteArray:=⟨#[16,0,0,0,5,0,0,0,11,1,0,0,40,0,0,0]⟩
def C3:ByteArray:=⟨#[10,0,1,8,0,0,0,0,9,0,1,1,0,0,0,0]⟩
def C2:ByteArray:=⟨#[16,0,0,0,1,0,0,0,16,0,0,0,6,0,0,0]⟩
def ajz:ByteArray:=⟨#[0,0,0,0,0,0,0,0,0,0,0,0,0,0,0,0]⟩
def Xa:List aX:=[⟨1,4,3,false⟩]
def acg (a1 a2 a3 a4:Option Addr) (c1 c2 c3 c4:Nat):List bJ:=[⟨1,C4,[],a1,c1⟩,⟨2,C3,[],a2,c2⟩,⟨3,C2,[],a3,c3⟩,⟨4,ajz,[],a4,c4⟩]
def qz:List Int:=[0,1,0,1,0,1,0,1,0,1,0,1,0,1]
variable {σ:Type}
def Ho (s:dE σ):Nat×Nat×Int×Int×Int×Int:=(s.ps.length,s.out.length,(oW s.out 0).value,(oW s.out 1).value,(aN s.ps 1).st,(aN s.ps 1).cd)
def MI:dE rM:=⟨⟨8,[⟨true,Xa,[⟨1,C4⟩,⟨2,C3⟩,⟨3,C2⟩,⟨4,ajz⟩]⟩]⟩,[nH 16],[]⟩
theorem TG:(dG Eu qz 14 (some MI)).map Ho=some (2,2,0,1,2,0):=by kernel_rfl
variable (a1 a2 a3 a4:Option Addr) (c1 c2 c3 c4:Nat)
def ach:dE aT:=⟨ni Xa (acg a1 a2 a3 a4 c1 c2 c3 c4) 3 8,[nH 16],[]⟩
theorem aeA:lu Xa (acg a1 a2 a3 a4 c1 c2 c3 c4) 16=0:=by kernel_rfl
theorem Er {Ok:σ->List Bool->Prop} {m:σ} {en:Int} (he:cO en) (h:Ok m [true]):dh Ok (⟨m,[nH en],[]⟩:dE σ):=by
 refine⟨h,fun k hk=>?_,fun k hk=>?_,fun x hx=>(by cases hx),uH _⟩
 · have:k=0:=by have hk:k<1:=hk;omega
   subst this;exact⟨fun j hj=>⟨by show -9223372036854775808<=(0:Int);omega,by show(0:Int)<=9223372036854775807;omega⟩,he⟩
 · have:k=0:=by have hk:k<1:=hk;omega
   subst this;rfl
theorem alm:qB MI.mem [true]:=by
 have hr:jg MI.mem.aj=4:=by kernel_rfl
 have h1:lT (bB MI.mem.aj 0)=true:=by kernel_rfl
 refine⟨rfl,fun k hk=>?_,by rw[hr];show(4:Int)<=8;omega,⟨by show(0:Int)<=8;omega,by show(8:Int)<=512;omega⟩,⟨by show 1<=1;omega,by show 1<=4;omega⟩⟩;have:k=0:=by have hk:k<1:=hk;omega
 subst this;exact h1
theorem agN:∃s,dG fX qz 14 (some (ach a1 a2 a3 a4 c1 c2 c3 c4))=some s/\Ho s=(2,2,0,1,2,0):=by
 have L:=ZY (aeA a1 a2 a3 a4 c1 c2 c3 c4);have hR:=IY (nf:=3) (ns:=8) L (by omega) (by omega) (by omega) (by omega) (by show(4:Int)<=8;omega);have e:=WO ZZ Z0 iq acn (s:=ach a1 a2 a3 a4 c1 c2 c3 c4) (s':=MI) (Er ⟨by omega,by omega⟩ ⟨hR,rfl⟩) (Er ⟨by omega,by omega⟩ alm) (by
  show(⟨eD (ni Xa (acg a1 a2 a3 a4 c1 c2 c3 c4) 3 8),_,_⟩:dE yE)=_;rw[ab5 L (by omega)];rfl) qz 14
 have f:=TG;cases g:dG Eu qz 14 (some MI) with
 | none=>rw[g] at f;cases f
 | some s' =>
  rw[g] at e f;cases g2:dG fX qz 14 (some (ach a1 a2 a3 a4 c1 c2 c3 c4)) with
  | none=>rw[g2] at e;cases e
  | some s =>
   rw[g2] at e;refine⟨s,rfl,?_⟩;have e:jf eD s=jf gw s':=by injection e
   have f:Ho s'=(2,2,0,1,2,0):=by injection f
   have ep:s.ps=s'.ps:=dI dE.ps e;have eo:s.out=s'.out:=dI dE.out e;rw[<- f];unfold Ho;rw[ep,eo]
open Go.RowKit
def gD (N:Nat) (m:iF) (c:Array Value) (w:World):Prop:=∃hs a ar cr ao co,cC m.il.aM hs/\c=ig (lI m hs) a ar ao cr co/\∀U,aD (fun b=>b<N) w U->uR U a ar ao (lI m hs)
theorem gD.cells {N:Nat} {m:iF} {c:Array Value} {w:World} (h:gD N m c w):∃s0 n0 q0 s1 n1 q1 s2 n2 q2 s3 n3 q3 hd s5 q5 s6 q6,c=#[.slice s0 n0 q0,.slice s1 n1 q1,.slice s2 n2 q2,.slice s3 n3 q3,I hd,.slice s5 m.procs.length q5,.slice s6 m.out.length q6]:=by
 obtain⟨hs,a,ar,cr,ao,co,_,h2,_⟩:=h;exact⟨_,_,_,_,_,_,_,_,_,_,_,_,_,ar,cr,ao,co,h2⟩
theorem gD.later {N:Nat} {m:iF} {c:Array Value} {w U:World} (h:gD N m c w) (g:aD (fun b=>b<N) w U):gD N m c U:=by
 obtain⟨hs,a,ar,cr,ao,co,h1,h2,h3⟩:=h;exact⟨hs,a,ar,cr,ao,co,h1,h2,fun V hV=>h3 V (g.trans hV (fun _ _ x=>x))⟩
theorem gD.below {N:Nat} {m:iF} {c:Array Value} {w U:World} (h:gD N m c w) (g:Below w.heap.size w U):gD N m c U:=h.later (aD.b9 g)
theorem Uw {w w':World} {r:iF×Int} {e:Ending} (h:tU w r e w'):∃c,e=.returned (.tuple #[.agg c,I r.2])/\gD w.heap.size r.1 c w'/\Below w.heap.size w w':=by
 obtain⟨hs,a,ar,cr,ao,co,h1,h2,h3,h4⟩:=h;exact⟨_,h2,⟨hs,a,ar,cr,ao,co,h1,rfl,h3⟩,h4⟩
theorem ZN {w w':World} {r:iF×Int} {hs:List bJ} {e:Ending} (s:cC r.1.il.aM hs) (h:tU w (lI r.1 hs,r.2) e w'):tU w r e w':=by
 obtain⟨hs2,a,ar,cr,ao,co,h1,h2,h3,h4⟩:=h;exact⟨hs2,a,ar,cr,ao,co,s.trans h1,h2,h3,h4⟩
theorem ZQ {m:iF} (h:dh dn (gG m)):m.procs.length<=4:=by
 have:=iq.few _ _ h.mem;simpa [b7,gG] using this
theorem ZP {m:iF} (h:dh dn (gG m)):Lp m:=⟨oc h.mem.right,by have:=ZQ h;unfold cB;omega,by have:m.out.length<=2000:=h.out;unfold cB;omega⟩
variable {N:Nat} {m:iF} {c:Array Value} {U:World}
def WI (w:World) (r:iF×Int) (e:Ending) (w':World):Prop:=∃c,e=.returned (.tuple #[.agg c,I r.2])/\gD w.heap.size r.1 c w'/\Below w.heap.size w w'
theorem Br (h:gD N m c U) (hg:dh dn (gG m)) (picks:List Int) (ap:Option Addr) (cp:Nat) (hn:oV U ap picks) (hps:0<picks.length->∀b,ap=some b->b.block<U.heap.size) (hpl:picks.length<=140737488351232) :
  Calls Tryz.prog 20 #[.agg c,.slice ap picks.length cp] U (WI U (dU m picks)):=by
 obtain⟨hs,a,ar,cr,ao,co,h1,rfl,h3⟩:=h;have g':dh dn (gG (lI m hs)):=Gh hg h1;obtain⟨hs',s1,s2⟩:=ZM hg h1 picks;refine(abP (lI m hs) picks ap cp a ar ao cr co U (h3 U (aD.refl _ _)) (ZP g') g'.fit hn hps hpl).mono fun e w' ho=>?_
 rw[s2] at ho;exact Uw (ZN s1 ho)
theorem IQ (h:gD N m c U) (hg:dh dn (gG m)) :
  Calls Tryz.prog 15 #[.agg c] U fun e w'=>e=.returned (I 0)/\Below U.heap.size U w':=by
 obtain⟨hs,a,ar,cr,ao,co,h1,rfl,h3⟩:=h;have g':dh dn (gG (lI m hs)):=Gh hg h1;have:=Lm (lI m hs) a ar ao cr co U (h3 U (aD.refl _ _)) (ZP g');rw[Re g'] at this;exact this
theorem NP (l:List aX) (hs:List bJ) (en nf ns:Int) (va:Value) (ao:Option Addr) (cap:Nat) (w:World) (ha:fZ w va l) (hf:dO l) (h:iT w ao hs) (PX:rD hs) (hcap:hs.length<=cap) (he:cO en) :
  Calls Tryz.prog 10 #[.agg #[va,.slice ao hs.length cap,I en],I nf,I ns] w (WI w (qd l hs en nf ns)) :=
 (abR l hs en nf ns va ao cap w ha hf h PX hcap he).mono fun e w' ho=>Uw ho
theorem Lx (l:List aX) (hs:List bJ) (en nf ns:Int) (he:cO en):((qd l hs en nf ns).2≠0)∨(lu l hs en=0/\3<=nf/\nf<=64/\0<=ns/\ns<=512/\bh l<=ns/\qd l hs en nf ns=(⟨ni l hs nf ns,[nH en],[]⟩,0)/\dh dn (gG ⟨ni l hs nf ns,[nH en],[]⟩)):=by
 by_cases c:(sD l hs en nf ns).2=0
 · right;have hk:lu l hs en=0/\3<=nf/\nf<=64/\0<=ns/\ns<=512/\bh l<=ns/\sD l hs en nf ns=(ni l hs nf ns,0):=by
    unfold sD at c ⊢;by_cases c1:lu l hs en=0
    · rw[aA (fun x=>x c1)] at c ⊢;by_cases c3:nf<3
      · rw[aC c3] at c;cases c
      rw[aA c3] at c ⊢;by_cases cr:nf>64∨ns<0∨ns>512
      · rw[aC cr] at c;cases c
      rw[aA cr] at c ⊢;by_cases ct:bh l>ns
      · rw[aC ct] at c;cases c
      rw[aA ct] at c ⊢;exact⟨c1,by omega,by omega,by omega,by omega,by omega,rfl⟩
    · rw[aC c1] at c;exact absurd c c1
   obtain⟨g1,g2,g3,g4,g5,g6,g7⟩:=hk;have e:qd l hs en nf ns=(⟨ni l hs nf ns,[nH en],[]⟩,0):=by unfold qd;rw[g7];rfl
   exact⟨g1,g2,g3,g4,g5,g6,e,Er he ⟨IY (ZY g1) g2 g3 g4 g5 g6,rfl⟩⟩
 · left;unfold qd;rw[aA c];exact c
open Go.RowKit
theorem ab1 {m:iF} (h:dh dn (gG m)) (picks:List Int):(dU m picks).2=0∨((dU m picks).2=2/\(dU m picks).1=wE):=by
 rcases Lv h picks with e | ⟨s,_,_,_,e⟩
 · rw[e];exact .inr ⟨rfl,rfl⟩
 · rw[e];exact .inl rfl
theorem NN {m:iF} (h:dh dn (gG m)) {picks:List Int} (g:(dU m picks).2=0):dh dn (gG (dU m picks).1):=by
 rcases Lv h picks with e | ⟨s,_,_,e2,e⟩
 · rw[e] at g;cases g
 · rw[e];exact e2
theorem WC {m:iF} (h:dh dn (gG m)) {picks:List Int} (k:Nat) (hk:k<=picks.length):(¬(dU m (picks.take k)).2=0->(dU m picks).2=2)/\((dU m picks).2=0->(dU m (picks.take k)).2=0->dU (dU m (picks.take k)).1 (picks.drop k)=dU m picks):=by
 have ht:(picks.take k).length=k:=by rw[qM];omega
 have hd:(picks.drop k).length=picks.length-k:=y8;have hcut:=Rf fX picks k (some (gG m)) (picks.length-k);rw[show k+(picks.length-k)=picks.length by omega] at hcut;have htk:=NQ fX picks k (some (gG m)) k (aI _);rw[xt h picks,xt h (picks.take k),ht,htk];by_cases c:2000<picks.length
 · rw[aC c];exact⟨fun _=>rfl,fun e=>(by cases e)⟩
 · rw[aA c,aA (show ¬2000<k by omega),hcut];cases f:dG fX picks k (some (gG m)) with
   | none =>
    rw[NR];exact⟨fun _=>rfl,fun e=>(by cases e)⟩
   | some s =>
    refine⟨fun e=>absurd rfl e,fun _ _=>?_⟩;have hs:=vw iq h picks k s f;show dU (wD s) (picks.drop k)=_;rw[xt (m:=wD s) hs,aA (by rw[hd];omega),hd];rfl
open Go.RowKit
structure Qo (l:List km) (ao:Option Addr) (w:World):Prop where
 has:KC w ao l
 few:l.length<=1000
 chk:∀k,k<l.length->mz (dR l k).i=0
 fit:∀k,k<l.length->J6 (dR l k).i
 base:∀k,k<l.length->1<=(dR l k).base/\(dR l k).base<=2000
theorem Qo.below {l:List km} {ao:Option Addr} {w w':World} (h:Qo l ao w) (hb:Below w.heap.size w w'):Qo l ao w':=⟨h.has.below hb,h.few,h.chk,h.fit,h.base⟩
open Go.RowKit
open Go.RowKit
end Go.Proofs.YtlgoihmkgaaemaaGreat
