import Derived.Test.YtlgoihmkgaaemaaGreatGO39
set_option maxHeartbeats 20000000
set_option linter.unusedVariables false
set_option maxRecDepth 100000
set_option linter.unusedSimpArgs false
namespace Go.Proofs.YtlgoihmkgaaemaaGreat
open Go.RowKit Go.WideMaps Go.Maps
theorem VL (p:iW) (libs:List iW) (ao:Option Addr) (cap:Nat) (w:World) (hp:qm w p.a p.i) (h:DM w ao libs) (hfp:Kj p.i) (hf:adj libs)
  (Hj:∀k,k<(p::libs).length->∀V,Below w.heap.size w V->Calls Tryz.prog 109 #[.agg (jM (cD (p::libs) k).a (cD (p::libs) k).i)] V fun e w'=>e=.returned (I (mC (cD (p::libs) k).i))/\Below V.heap.size V w')
  (hga:∀m D V,ajf (p::libs) m D V->Calls Tryz.prog 64 #[A8 (cD (p::libs) 0),.map (some m)] V (PQ (p::libs) (MD (p::libs) (p::libs).length 0 [0]) V))
  (hpx:∀ix ao cap k V,k<(eV (p::libs) 1 ix).length->Calls Tryz.prog 112 #[.agg (px (dR (eV (p::libs) 1 ix) k)),.slice ao (eV (p::libs) 1 ix).length cap] V (CU (vX (eV (p::libs) 1 ix) (dR (eV (p::libs) 1 ix) k)) V)) :
  Calls Tryz.prog 22 #[A8 p,.slice ao libs.length cap] w (adg (p::libs) w):=by
 have hsl:libs.length<=140737488351232:=hf.1;have ano:=aA Hj;have anf:=aA hga;have amX:=aA hpx;have HL:=aA h;have HIM:Hid (∀V,Below w.heap.size w V->∀k,k<(p::libs).length->qm V (cD (p::libs) k).a (cD (p::libs) k).i):=fun V hb k hk=>by
  cases k with
  | zero=>exact hp.below hb
  | succ k =>
   have hk':k<libs.length:=by grind
   obtain⟨b,off,_,_,hl⟩:=h (by omega);exact(hl k hk').2.below hb
 have Fe:Hid (∀k,k<(p::libs).length->Kj (cD (p::libs) k).i):=fun k hk=>by
  cases k with
  | zero=>exact hfp
  | succ k=>exact hf.2 k (by grind)
 clear hp h hfp hf Hj hga hpx;have HBB:=aA (((aK w.heap.size w).alloc (aD _) (.cells (jM p.a p.i) 56)).alloc (by simp) (.cells #[Nl,Nl,I 0] 25));have BM:=aA (bk (bB w (jM p.a p.i) 56) (.cells #[Nl,Nl,I 0] 25));have BR0:=bB (w.alloc (.cells (jM p.a p.i) 56)) #[Nl,Nl,I 0] 25;rw[gh] at BR0;have BR:=aA BR0;clear BR0;unfold A8;go_enter Tryz.func22,Tryz.ntmps22;by_cases h6:6<libs.length
 · have HE:Hid (l8 (p::libs)=2):=by
    show _=_
    grind [l8]
   clear BM BR;simp only[jM] at HBB ⊢;go_wp2;exact bI (v:=.tuple #[.agg #[Nl,Nl,I 0],I 2]) (by simp[results,Tryz.results22,go_sem]) rfl ⟨HBB.o,by rw[HE.o];simp⟩
 · have h7:(p::libs).length<=7:=by grind
   have aky:Hid ((((w.alloc (.cells (jM p.a p.i) 56)).alloc (.cells #[Nl,Nl,I 0] 25)).alloc (.cells (jM p.a p.i) 56)).ownsRow (w.heap.size+2) 56 6 (.slice (some (Ad (w.heap.size+2) 0)) 1 1) 1 (qy p)):=by
    have h:=World.ownsRow_lit (base:=w.heap.size+2) (e:=56) (size:=6) ((w.alloc (.cells (jM p.a p.i) 56)).alloc (.cells #[Nl,Nl,I 0] 25)) (jM p.a p.i) 1 (by simp) (by decide) rfl;have e:((w.alloc (.cells (jM p.a p.i) 56)).alloc (.cells #[Nl,Nl,I 0] 25)).heap.size=w.heap.size+2:=by simp
    rw[e] at h;exact h
   have mQ:=aA (HBB.o.alloc (by simp;omega) (.cells (jM p.a p.i) 56));have BM3:=aA (bk BM.o (.cells (jM p.a p.i) 56));have JO:=aA (bk BR.o (.cells (jM p.a p.i) 56));clear BM BR HBB;simp only[jM] at aky mQ BM3 JO ⊢;go_wp2_with (at_builtin;refine E8 rfl _ _ rfl (w.heap.size+2) p (w.heap.size+2) (by rfl) aky.o ao cap libs rfl (HL.o.below mQ.o) (by omega) (by simp) ?_;intro gg amL w1 hown hgrow hlt;have cH:=aA (mQ.o.grown hgrow (by simp;omega) (fun q hq=>by grind));have BM1:=aA (H6 BM3.o hgrow (by simp));have CL:=aA (H6 JO.o hgrow (by simp));have HI1:=aA (adW (l:=p::libs) hown hlt (HIM.o _ cH.o));clear hown hgrow hlt)
   obtain⟨all,hall⟩:=ex (p::libs);have HLI:Hid (cD all 0=p):=by rw[hall];rfl
   have hlen:libs.length+1=all.length:=by grind
   rw[<- hall] at HI1 HIM Fe h7 ano anf amX;rw[<- hall,hlen];clear aky mQ BM3 JO HL;have aro:=aA hall;clear hall;refine(Qv all _ _ _ HI1.o ⟨by grind [b7],Fe.o⟩ (fun k hk V hV=>ano.o k hk V (cH.o.trans (hV.mono cH.o.size)))).mono ?_;rintro e w2 ⟨hb,hout⟩;have gK:=aA (cH.o.trans (hb.mono cH.o.size));have BM2:=aA (aN BM1.o hb (aJ BM1.o));have JS:=aA (aN CL.o hb (aJ CL.o));clear hb BM1 CL cH HI1;by_cases hby:oM all=0
   · rw[aB hby] at hout;obtain⟨m,D,rfl,hmap,hnm⟩:=hout;obtain⟨Hj,Yx⟩:=S4 hby;have HGI:Hid (ajf all m D w2):=⟨by omega,h7,Hj,Fe.o,Yx,HIM.o _ gK.o,hmap,hnm⟩;have Cv:=aA Hj;clear hmap hnm Yx Hj;have m0:=aq BM2.o 0 rfl;have m1:=aq BM2.o 1 rfl;have m2:=aq BM2.o 2 rfl;have m3:=aq BM2.o 3 rfl;have m4:=aq BM2.o 4 rfl;have m5:=aq BM2.o 5 rfl;have HBY:=aA hby;clear hby;go_wp2_with fail
     have E0:=aA (anf.o m D w2 HGI.o);rw[HLI.o] at E0;refine Calls.mono (P:=Tryz.prog) E0.o ?_;rintro e w3 ⟨hb,hout⟩;have mQ:=aA (gK.o.trans (hb.mono gK.o.size));have BM3:=aA (aN BM2.o hb (aJ BM2.o));have JO:=aA (aN JS.o hb (aJ JS.o));clear hb BM2 JS E0 m0 m1 m2 m3 m4 m5;have r0:=aq JO.o 0 rfl;have r1:=aq JO.o 1 rfl;have r2:=aq JO.o 2 rfl;have rf:=aO JO.o;have rl:=aJ JO.o;cases eg:MD all all.length 0 [0] with
     | none =>
      rw[eg] at hout;obtain rfl:=hout;have HE:Hid (l8 all=6):=by
       grind [l8,Hid.o]
      clear eg;go_wp2;exact bI (v:=.tuple #[.agg #[Nl,Nl,I 0],I 6]) (by simp[results,Tryz.results22,go_sem,r0,r1,r2]) rfl ⟨((mQ.o.setCell (by simp) _).setCell (by simp) _).setCell (by simp) _,by grind [Hid.o]⟩
     | some ix =>
      rw[eg] at hout;obtain⟨hok,ao2,cap2,rfl,hO⟩:=hout;have hpos:=hok.pos;have hle:=hok.le;have HLE:Hid (xU (dR (eV all 1 ix) (ix.length-1))=jO all 1 ix):=OE all ix 1 hpos;have HOI:Hid (QA (eV all 1 ix) ao2 w3):=by
       refine⟨hO,by grind [kH],fun k hk=>?_,fun k hk=>?_,Y2 Cv.o h7 hok⟩
       · grind [kH,uB,Hid.o,Hn.lt]
       grind [kH,uB,Hid.o,Hn.lt]
      have hxl:ix.length=(eV all 1 ix).length:=(kH all ix 1).symm;have agQ:Hid (l8 all=if 256<jO all 1 ix then 3 else match sV (eV all 1 ix) with
        | none=>7
        | some _=>0):=by
       grind [l8,Hid.o]
      have HEG:=aA eg;obtain⟨EN,hEN⟩:=ex (jO all 1 ix);rw[<- hEN] at HLE agQ;have amY:=aA (amX.o ix);obtain⟨Un,ajE⟩:=ex (eV all 1 ix);rw[<- ajE] at HOI agQ HLE hO hxl amY;have HOB:=aA ajE;rw[hxl] at HLE hpos hle;rw[hxl];clear hEN ajE eg hok hxl HGI HBY;obtain⟨b,off,afB,hbl,eY⟩:=hO hpos;subst afB;obtain⟨k1,hk1⟩:=ex (Un.length-1);have aft:k1<Un.length:=by omega
      rw[<- hk1] at HLE;obtain⟨⟨c0,c1,c2,c3,c4,c5,c6⟩,him⟩:=eY k1 aft;have yF:=aA (fun V hb=>abn (dR Un k1) V (him.below hb) (HOI.o.chk k1 aft) (by have:=HOI.o.base k1 aft;omega) (by have:=HOI.o.base k1 aft;omega));obtain⟨o,ho⟩:=ex (dR Un k1);rw[<- ho] at c0 c1 c2 c3 c4 c5 c6 yF HLE;simp only[px] at yF;rw[HLE.o] at yF;have hwr:IntKind.i64.wrap ((Un.length:Int)-1)=(k1:Int):=by grind [IntWalk.i64_in]
      clear ho eY hO him HLE hk1 hlen HIM Fe;by_cases avA:256<EN
      · have HE:Hid (l8 all=3):=by
         grind
        clear agQ;go_wp2_with (go_at_call 65;refine(yF.o _ (aK _ _)).mono ?_;rintro e w4 ⟨rfl,hb⟩;have sQ:=aA (mQ.o.trans (hb.mono mQ.o.size));have BR4:=aA (aN JO.o hb (aJ JO.o));have s0:=aq BR4.o 0 rfl;have s1:=aq BR4.o 1 rfl;have s2:=aq BR4.o 2 rfl;have sf:=aO BR4.o;clear hb)
        exact bI (v:=.tuple #[.agg #[Nl,Nl,I 0],I 3]) (by simp[results,Tryz.results22,go_sem,s0,s1,s2]) rfl ⟨((sQ.o.setCell (by simp) _).setCell (by simp) _).setCell (by simp) _,by grind [Hid.o]⟩
      · have HSH:Hid (∀V,QA Un (some (Ad b off)) V->Calls Tryz.prog 66 #[.slice (some (Ad b off)) Un.length cap2] V (Kp (sV Un) V)):=fun V hV=>Mx Un _ cap2 V hV (by omega) (fun k hk V' hV'=>amY.o _ cap2 k V' hk)
        cases es:sV Un with
        | none =>
         have HE:Hid (l8 all=7):=by
          grind
         rw[es] at HSH;clear agQ es;go_wp2_with (first
          | (go_at_call 65;refine(yF.o _ (aK _ _)).mono ?_;rintro e w4 ⟨rfl,hb⟩;have sQ:=aA (mQ.o.trans (hb.mono mQ.o.size));have BR4:=aA (aN JO.o hb (aJ JO.o));have agB:=aA (HOI.o.below hb);clear hb)
          | (go_at_call 66;refine(HSH.o _ agB.o).mono ?_;rintro e w5 ⟨hb,rfl⟩;have PW:=aA (sQ.o.trans (hb.mono sQ.o.size));have BR5:=aA (aN BR4.o hb (aJ BR4.o));have s0:=aq BR5.o 0 rfl;have s1:=aq BR5.o 1 rfl;have s2:=aq BR5.o 2 rfl;have sf:=aO BR5.o;clear hb))
         exact bI (v:=.tuple #[.agg #[Nl,Nl,I 0],I 7]) (by simp[results,Tryz.results22,go_sem,s0,s1,s2]) rfl ⟨((PW.o.setCell (by simp) _).setCell (by simp) _).setCell (by simp) _,by grind [Hid.o]⟩
        | some E =>
         have HE:Hid (l8 all=0):=by
          grind
         have HES:=aA es;rw[es] at HSH;clear agQ es;go_wp2_with (first
          | (go_at_call 65;refine(yF.o _ (aK _ _)).mono ?_;rintro e w4 ⟨rfl,hb⟩;have sQ:=aA (mQ.o.trans (hb.mono mQ.o.size));have BR4:=aA (aN JO.o hb (aJ JO.o));have BM4:=aA (aN BM3.o hb (aJ BM3.o));have agB:=aA (HOI.o.below hb);clear hb)
          | (go_at_call 66;refine(HSH.o _ agB.o).mono ?_;rintro e w5 ⟨hb,hs,ah,ch,hme,rfl,hhh,hcc⟩;have PW:=aA (sQ.o.trans (hb.mono sQ.o.size));have BR5:=aA (aN BR4.o hb (aJ BR4.o));have BM5:=aA (aN BM4.o hb (aJ BM4.o));have akz:=aA (agB.o.below hb);have HME:=aA hme;have HHH:=aA hhh;clear hb hme hhh))
         clear HSH yF HOI agB JO BR4 BM3 BM4 mQ r0 r1 r2 rf rl c0 c1 c2 c3 c4 c5 c6 hwr hbl aft;obtain⟨b5,aoV,hbe,YB,aiZ⟩:=akz.o.has hpos;obtain⟨⟨d0,d1,d2,d3,d4,d5,d6⟩,dim⟩:=aiZ 0 hpos;have ajU:b=b5:=by grind
         have amm:off=aoV:=by grind
         rw[<- ajU,<- amm] at d0 d1 d2 d3 d4 d5 d6;rw[<- ajU] at YB;simp only[Nat.zero_mul,mF] at d0 d1 d2 d3 d4 d5 d6;have avo:=akz.o.base 0 hpos;have hen:0<=p.i.entry/\p.i.entry<4080:=by
          have h:=OH (Cv.o 0 (by omega))
          grind [Hid.o]
         have HEA:Hid ((cD all 0).i.entry=p.i.entry):=by rw[HLI.o];rfl
         have HAR:Hid (∀V,Below w5.heap.size w5 V->Calls Tryz.prog 67 #[.slice (some (Ad b off)) Un.length cap2] V fun e w'=>∃r,e=.returned r/\ez V.heap.size w' r (rY Un)/\Below V.heap.size V w'):=fun V hb=>Qw Un _ cap2 V (akz.o.below hb) (by omega)
         have HAD:=aA (fun V=>Qz (dR Un 0) p.i.entry V (by omega) (by omega) hen.1 (by omega));obtain⟨o0,ho0⟩:=ex (dR Un 0);have HO0:=aA ho0;rw[<- ho0] at d0 d1 d2 d3 d4 d5 d6 HAD;simp only[px] at HAD;have hne:b≠w.heap.size+1:=fun e=>by
          rw[e] at d6;have h:=BR5.o
          grind [World.cell?]
         have HS:Hid (∀V,Below w5.heap.size w5 V->V.cell? (Ad b off)=some (.string o0.i.name)/\V.cell? (Ad b (off+1))=some (.slice o0.a.an o0.i.needs.length o0.a.cn)/\V.cell? (Ad b (off+2))=some (.slice o0.a.ag o0.i.jK.length o0.a.cg)/\V.cell? (Ad b (off+3))=some (.slice o0.a.ay o0.i.syms.length o0.a.cy)/\V.cell? (Ad b (off+4))=some (.slice o0.a.ar o0.i.qd.length o0.a.cr)/\V.cell? (Ad b (off+5))=some (I o0.i.entry)/\V.cell? (Ad b (off+6))=some (I o0.base)/\V.cell? (Ad w.heap.size 5)=some (I p.i.entry)):=fun V hb=>⟨(cM hb YB).trans d0,(cM hb YB).trans d1,(cM hb YB).trans d2,(cM hb YB).trans d3,(cM hb YB).trans d4,(cM hb YB).trans d5,(cM hb YB).trans d6,aq (aN BM5.o hb (aJ BM5.o)) 5 rfl⟩
         obtain⟨AD,hAD⟩:=ex (yq o0 p.i.entry);rw[<- hAD] at HAD;have awZ:=aA hAD;clear ho0 hAD d0 d1 d2 d3 d4 d5 d6 dim aiZ hbe ajU amm;have ub:=aA (aK w5.heap.size w5).drew;have nU:=aA (HS.o _ ub.o)
         go_region_held3 (fun V=>V.cell? (Ad b off)=some (.string o0.i.name)/\V.cell? (Ad b (off+1))=some (.slice o0.a.an o0.i.needs.length o0.a.cn)/\V.cell? (Ad b (off+2))=some (.slice o0.a.ag o0.i.jK.length o0.a.cg)/\V.cell? (Ad b (off+3))=some (.slice o0.a.ay o0.i.syms.length o0.a.cy)/\V.cell? (Ad b (off+4))=some (.slice o0.a.ar o0.i.qd.length o0.a.cr)/\V.cell? (Ad b (off+5))=some (I o0.i.entry)/\V.cell? (Ad b (off+6))=some (I o0.base)/\V.cell? (Ad w.heap.size 5)=some (I p.i.entry)) (first | exact HS7.o | exact W9.o | exact nU.o | grind [Hid.o])
          (first
           | (go_at_call 67;refine(HAR.o _ ub.o).mono ?_;rintro e w6 ⟨v8,rfl,hrw,hb⟩;obtain⟨ar,cr,hrv,hrg⟩:=DF hrw;subst hrv;have HRW:=aA hrw;have HK6:=aA (ub.o.trans (hb.mono ub.o.size));have W9:=aA (HS.o _ HK6.o);clear hb hrw hrg)
           | (go_at_call 68;refine(HAD.o _).mono ?_;rintro e w7 ⟨rfl,hb⟩;have HK7:=aA (HK6.o.trans (hb.mono HK6.o.size));have HS7:=aA (HS.o _ HK7.o);have aqF:=aA (zk HRW.o hb);have BR7:=aA (aN BR5.o HK7.o (aJ BR5.o));have s0:=aq BR7.o 0 rfl;have s1:=aq BR7.o 1 rfl;have s2:=aq BR7.o 2 rfl;have sf:=aO BR7.o;have MR:Hid (∀u0 u1 u2,(fun V:World=>V.cell? (Ad b off)=some (.string o0.i.name)/\V.cell? (Ad b (off+1))=some (.slice o0.a.an o0.i.needs.length o0.a.cn)/\V.cell? (Ad b (off+2))=some (.slice o0.a.ag o0.i.jK.length o0.a.cg)/\V.cell? (Ad b (off+3))=some (.slice o0.a.ay o0.i.syms.length o0.a.cy)/\V.cell? (Ad b (off+4))=some (.slice o0.a.ar o0.i.qd.length o0.a.cr)/\V.cell? (Ad b (off+5))=some (I o0.i.entry)/\V.cell? (Ad b (off+6))=some (I o0.base)/\V.cell? (Ad w.heap.size 5)=some (I p.i.entry)) (((w7.setCell (Ad (w.heap.size+1) 0) u0).setCell (Ad (w.heap.size+1) 1) u1).setCell (Ad (w.heap.size+1) 2) u2)):=(fun u0 u1 u2=>by grind [tQ,Hid.o]);clear hb))
         have aq1:=aA (VM BR7.o (HHH.o.below HK7.o) (.slice ar (rY Un).length cr) (.slice ah hs.length ch) (I AD));have am0:=aA (YR (rb:=w.heap.size+1) aqF.o (fD (aJ BR5.o) ub.o.size) (.slice ar (rY Un).length cr) (.slice ah hs.length ch) (I AD));have HB7:=aA ((((PW.o.trans (HK7.o.mono PW.o.size)).setCell (p:=(Ad (w.heap.size+1) 0)) (by simp) (.slice ar (rY Un).length cr)).setCell (p:=(Ad (w.heap.size+1) 1)) (by simp) (.slice ah hs.length ch)).setCell (p:=(Ad (w.heap.size+1) 2)) (by simp) (I AD));go_wp2;refine bI (v:=.tuple #[.agg #[.slice ar (rY Un).length cr,.slice ah hs.length ch,I AD],I 0]) (by simp[results,Tryz.results22,go_sem,s0,s1,s2]) rfl ⟨HB7.o,?_⟩;rw[<- aro.o,HE.o,aB rfl];refine⟨ix,E,.slice ar (rY Un).length cr,hs,ah,ch,HEG.o,by grind [Hid.o],HME.o,?_,?_,aq1.o,hcc⟩
         · grind [Hid.o]
         · rw[<- HOB.o];exact am0.o.mono (gu PW.o.size ub.o.size)
   · rw[au hby] at hout;subst hout;have HE:Hid (l8 all=oM all):=by
      show _=_
      grind [l8]
     obtain⟨er,her⟩:=ex (oM all);rw[<- her] at HE hby;rw[<- her];have hbz:(er==0)=false:=by grind
     have r0:=aq JS.o 0 rfl;have r1:=aq JS.o 1 rfl;have r2:=aq JS.o 2 rfl;have rf:=aO JS.o;clear her;go_wp2;exact bI (v:=.tuple #[.agg #[Nl,Nl,I 0],I er]) (by simp[results,Tryz.results22,go_sem,r0,r1,r2]) rfl ⟨((gK.o.setCell (by simp) _).setCell (by simp) _).setCell (by simp) _,by grind [Hid.o]⟩
open Go.RowKit
theorem YQ (l:List kr) (ao:Option Addr) (cap:Nat) (o:kr) (w:World) (hr:o.i.qd=[]):Calls Tryz.prog 112 #[.agg (px o),.slice ao l.length cap] w (CU (vX l o) w):=by
 have e:vX l o=some []:=by unfold vX;rw[hr];rfl
 rw[e];unfold px;rw[hr];obtain⟨⟨nm,ns,gs,ys,rs,en⟩,⟨an,cn,ag,cg,ay,cy,ar,cr⟩,bs⟩:=o;simp only at hr ⊢;clear hr e;obtain⟨n1,h1⟩:∃n,n=ns.length:=⟨_,rfl⟩;obtain⟨n2,h2⟩:∃n,n=gs.length:=⟨_,rfl⟩;obtain⟨n3,h3⟩:∃n,n=ys.length:=⟨_,rfl⟩;rw[<- h1,<- h2,<- h3];clear h1 h2 h3;have HB:=aA ((aK w.heap.size w).alloc (aD _) (.cells #[.string nm,.slice an n1 cn,.slice ag n2 cg,.slice ay n3 cy,.slice ar 0 cr,I en,I bs] 131));have dB:Hid (∀w',Below w.heap.size w w'->CU (some []) w (.returned (.tuple #[Nl,.bool true])) w'):=fun w' hb=>⟨hb,_,rfl,mG _ _ _ _⟩
 obtain⟨P,hP⟩:=ex (CU (some []) w);rw[<- hP] at dB ⊢;clear hP;simp only[Ph];go_enter Tryz.func112,Tryz.ntmps112;go_wp2;go_loopw [6,17] (fun sv iv wr=>sv=Nl/\iv=I 0/\Below w.heap.size w wr) (fun _ _ _=>0)
 case atStart=>grind [Hid.o]
 case round =>
  obtain⟨rfl,rfl,hb⟩:=hrel;have gK:=aA hb;clear hb;go_wp2;exact dB.o _ gK.o
theorem abm (p:iW) (m:Nat) (w:World) (hn:p.i.needs=[]) (him:qm w p.a p.i):Calls Tryz.prog 64 #[A8 p,.map (some m)] w (PQ [p] (some [0]) w):=by
 have dB:Hid (∀(w':World) g,w'.heap[g]?=some (.cells #[.string p.i.name,.slice p.a.an p.i.needs.length p.a.cn,.slice p.a.ag p.i.jK.length p.a.cg,.slice p.a.ay p.i.syms.length p.a.cy,.slice p.a.ar p.i.qd.length p.a.cr,I p.i.entry,I 1] 131 (0,0))->Below w.heap.size w w'->PQ [p] (some [0]) w (.returned (.tuple #[.slice (some (Ad g 0)) 1 1,.bool true])) w'):=fun w' g h1 h2=>by
  refine⟨h2,⟨by decide,by decide,fun j hj=>?_⟩,some (Ad g 0),1,rfl,fun _=>⟨g,0,rfl,aJ h1,fun k hk=>?_⟩⟩
  · grind
  · obtain rfl:k=0:=by have:k<1:=hk;omega
    exact⟨⟨aq h1 0 rfl,aq h1 1 rfl,aq h1 2 rfl,aq h1 3 rfl,aq h1 4 rfl,aq h1 5 rfl,aq h1 6 rfl⟩,him.below h2⟩
 obtain⟨P,hP⟩:=ex (PQ [p] (some [0]) w);rw[<- hP] at dB ⊢;clear hP him;unfold A8 jM;rw[hn] at dB ⊢;obtain⟨⟨nm,ns,gs,ys,rs,en⟩,⟨an,cn,ag,cg,ay,cy,ar,cr⟩⟩:=p;simp only at dB ⊢;clear hn;obtain⟨n2,h2⟩:∃n,n=gs.length:=⟨_,rfl⟩;obtain⟨n3,h3⟩:∃n,n=ys.length:=⟨_,rfl⟩;obtain⟨n4,h4⟩:∃n,n=rs.length:=⟨_,rfl⟩;rw[<- h2,<- h3,<- h4] at dB ⊢;simp only[Ph] at dB ⊢;clear h2 h3 h4;have HB:=aA (((aK w.heap.size w).alloc (aD _) (.cells #[.string nm,.slice an 0 cn,.slice ag n2 cg,.slice ay n3 cy,.slice ar n4 cr,I en] 56)).alloc (by simp) (.cells #[.string nm,.slice an 0 cn,.slice ag n2 cg,.slice ay n3 cy,.slice ar n4 cr,I en,I 1] 131));have HX:Hid (((w.alloc (.cells #[.string nm,.slice an 0 cn,.slice ag n2 cg,.slice ay n3 cy,.slice ar n4 cr,I en] 56)).alloc (.cells #[.string nm,.slice an 0 cn,.slice ag n2 cg,.slice ay n3 cy,.slice ar n4 cr,I en,I 1] 131)).heap[w.heap.size+1]?=some (.cells #[.string nm,.slice an 0 cn,.slice ag n2 cg,.slice ay n3 cy,.slice ar n4 cr,I en,I 1] 131 (0,0))):=by
  have:=bB (w.alloc (.cells #[.string nm,.slice an 0 cn,.slice ag n2 cg,.slice ay n3 cy,.slice ar n4 cr,I en] 56)) #[.string nm,.slice an 0 cn,.slice ag n2 cg,.slice ay n3 cy,.slice ar n4 cr,I en,I 1] 131;rw[gh] at this;exact this
 go_enter Tryz.func64,Tryz.ntmps64;go_wp2;obtain⟨g,hg⟩:=ex (w.heap.size+1);rw[<- hg] at HX ⊢;clear hg;go_loopw [6,7] (fun sv iv wr=>sv=.slice (some (Ad g 0)) 1 1/\(∃k:Nat,k<=1/\iv=I (k:Int))/\wr.heap[g]?=some (.cells #[.string nm,.slice an 0 cn,.slice ag n2 cg,.slice ay n3 cy,.slice ar n4 cr,I en,I 1] 131 (0,0))/\Below w.heap.size w wr) (fun _ iv _=>1-(intOf iv).toNat)
 case atStart=>grind [Hid.o]
 case round =>
  obtain⟨rfl,⟨k,hk,rfl⟩,hx,hb⟩:=hrel;have HX2:=aA hx;have gK:=aA hb;have x1:wr.cell? (Ad g 1)=some (.slice an 0 cn):=aq hx 1 rfl;clear hx hb HX HB;by_cases h0:k=0
  · subst h0;go_wp2;clear x1;go_loopw [6,28] (fun sv iv wi=>sv=.slice (some (Ad g 0)) 1 1/\iv=I 0/\wi.heap[g]?=some (.cells #[.string nm,.slice an 0 cn,.slice ag n2 cg,.slice ay n3 cy,.slice ar n4 cr,I en,I 1] 131 (0,0))/\Below w.heap.size w wi) (fun _ _ _=>0)
    case atStart=>exact⟨rfl,rfl,HX2.o,gK.o⟩
    case round =>
     obtain⟨rfl,rfl,hx,hb⟩:=hrel;have HX3:=aA hx;have mQ:=aA hb;clear hx hb HX2 gK;go_wp2;go_roundw
     case rel=>exact⟨rfl,⟨1,by omega,by first | rfl | go_num⟩,HX3.o,mQ.o⟩
     case measure=>simp[intOf]
  · obtain rfl:k=1:=by omega
    go_wp2;exact dB.o _ _ HX2.o gK.o
open Go.RowKit
def zL:Array Value:=#[I 16,I 0,I 0,I 0,I 5,I 11,I 1,I 0,I 0,I 40,I 10,I 0,I 1,I 8,I 0,I 9,I 0,I 1,I 1,I 0,I 16,I 0,I 0,I 0,I 1,I 16,I 0,I 0,I 0,I 6]
theorem aax {V:World} {rb:Nat} (h:V.heap[rb]?=some (.cells zL 108 (0,0))) (k:Nat) (hk:k<6) :
  V.cell? (Ad rb (k*5))=some (I (Au.getD k GJ).op)/\V.cell? (Ad rb (k*5+1))=some (I (Au.getD k GJ).a)/\V.cell? (Ad rb (k*5+2))=some (I (Au.getD k GJ).b)/\V.cell? (Ad rb (k*5+3))=some (I (Au.getD k GJ).c)/\V.cell? (Ad rb (k*5+4))=some (I (Au.getD k GJ).m):=by
 match k,hk with
 | 0,_=>exact⟨aq h 0 rfl,aq h 1 rfl,aq h 2 rfl,aq h 3 rfl,aq h 4 rfl⟩
 | 1,_=>exact⟨aq h 5 rfl,aq h 6 rfl,aq h 7 rfl,aq h 8 rfl,aq h 9 rfl⟩
 | 2,_=>exact⟨aq h 10 rfl,aq h 11 rfl,aq h 12 rfl,aq h 13 rfl,aq h 14 rfl⟩
 | 3,_=>exact⟨aq h 15 rfl,aq h 16 rfl,aq h 17 rfl,aq h 18 rfl,aq h 19 rfl⟩
 | 4,_=>exact⟨aq h 20 rfl,aq h 21 rfl,aq h 22 rfl,aq h 23 rfl,aq h 24 rfl⟩
 | 5,_=>exact⟨aq h 25 rfl,aq h 26 rfl,aq h 27 rfl,aq h 28 rfl,aq h 29 rfl⟩
 | k+6,h=>exact absurd h (by omega)
def XQ (w:World) (e:Ending) (w':World):Prop:=∃ar cr ah ch a1 a2 a3 a4 c1 c2 c3 c4,e=.returned (.agg #[.slice ar 1 cr,.slice ah 4 ch,I 16])/\gD w' (.slice ar 1 cr) wM/\jB w' ah (pO a1 a2 a3 a4 c1 c2 c3 c4)/\4<=ch/\Below w.heap.size w w'
theorem aeK {a:Kk} {w w':World} {e:Ending} (h:adg [⟨kM,a⟩] w e w'):∃ar cr ah ch a1 a2 a3 a4 c1 c2 c3 c4,e=.returned (.tuple #[.agg #[.slice ar 1 cr,.slice ah 4 ch,I 16],I 0])/\ez w.heap.size w' (.slice ar 1 cr) wM/\jB w' ah (pO a1 a2 a3 a4 c1 c2 c3 c4)/\4<=ch/\Below w.heap.size w w':=by
 obtain⟨hb,h2⟩:=h;rw[aB (acG a)] at h2;obtain⟨ix,E,r,hs,ao,cap,h3,h4,h5,h6,h7,h8,h9⟩:=h2;rw[R4] at h3;injection h3 with h3;subst h3;rw[acF] at h4 h6 h7;rw[Ud] at h4;injection h4 with h4;subst h4;rw[XO] at h7;rw[XN] at h6;obtain⟨a1,a2,a3,a4,c1,c2,c3,c4,rfl⟩:=aeL h5;obtain⟨ar,cr,hr,_⟩:=DF h7;subst hr;exact⟨ar,cr,ao,cap,a1,a2,a3,a4,c1,c2,c3,c4,h6,h7,h8,h9,hb⟩
theorem aay {V U:World} {g:Nat} {x y:Value} {n:Int} {ah:Option Addr} {a1 a2 a3 a4:Option Addr} {c1 c2 c3 c4:Nat} (h:jB V ah (pO a1 a2 a3 a4 c1 c2 c3 c4)) (hg:V.heap[g]?=some (.cells #[x,y,I n] 25 (0,0))) (hx:∀k i,x≠.int k i) (hy:∀k i,y≠.int k i) (hk:∀b j v,b≠g->V.cell? (Ad b j)=some v->U.cell? (Ad b j)=some v) (hs:V.heap.size<=U.heap.size):jB U ah (pO a1 a2 a3 a4 c1 c2 c3 c4):=fun hl=>by
 obtain⟨b,off,rfl,hb,eY⟩:=h hl;have hne:b≠g:=fun e=>by
  subst e;obtain⟨d0,d1,_,_⟩:=eY 0 (by unfold pO;simp);rw[Nat.zero_mul,mF] at d0 d1
  match off,d0,d1 with
  | 0,d0,_ =>
   rw[aq hg 0 (v:=x) rfl] at d0;injection d0 with d0;exact hx _ _ d0
  | 1,d0,_ =>
   rw[aq hg 1 (v:=y) rfl] at d0;injection d0 with d0;exact hy _ _ d0
  | 2,_,d1 =>
   have:V.cell? (Ad b 3)=none:=by simp[World.cell?,hg]
   rw[this] at d1;cases d1
  | k+3,d0,_ =>
   have:V.cell? (Ad b (k+3))=none:=by simp[World.cell?,hg]
   rw[this] at d0;cases d0
 refine⟨b,off,rfl,by omega,fun i hi=>?_⟩;obtain⟨d0,d1,d2,_⟩:=eY i hi;refine⟨hk _ _ _ hne d0,hk _ _ _ hne d1,hk _ _ _ hne d2,fun h0=>?_⟩;exfalso
 match i,hi,h0 with
 | 0,_,h0=>exact jf _ h0
 | 1,_,h0=>exact jf _ h0
 | 2,_,h0=>exact jf _ h0
 | 3,_,h0=>exact jf _ h0
 | i+4,h,_=>exact absurd h (by unfold pO;simp)
theorem XM (w:World):Calls Tryz.prog 37 #[] w (XQ w):=by
 have dB:Hid (∀ar cr ah ch a1 a2 a3 a4 c1 c2 c3 c4 (w':World),gD w' (.slice ar 1 cr) wM->jB w' ah (pO a1 a2 a3 a4 c1 c2 c3 c4)->4<=ch->Below w.heap.size w w'->XQ w (.returned (.agg #[.slice ar 1 cr,.slice ah 4 ch,I 16])) w'):=fun ar cr ah ch a1 a2 a3 a4 c1 c2 c3 c4 w' h1 h2 h3 h4=>⟨ar,cr,ah,ch,a1,a2,a3,a4,c1,c2,c3,c4,rfl,h1,h2,h3,h4⟩
 obtain⟨P,hP⟩:=ex (XQ w);rw[<- hP] at dB ⊢;clear hP;have Eu:Hid (∀(i:dU) V,Calls Tryz.prog 84 #[.agg #[I i.op,I i.a,I i.b,I i.c,I i.m]] V fun e w'=>e=.returned (.string i.bytes)/\Below V.heap.size V w'):=fun i V=>VD i V
 have HST:Hid (∀k,wL (k+1)=wL k++(Au.getD k GJ).bytes):=fun k=>rfl
 have HSZ:=ai I9;have HLK:Hid (∀wb V,V.heap[wb]?=some (.cells #[I 0,I 4,.string H5,.bool true,.bool true] 166 (0,0))->Calls Tryz.prog 22 #[.agg #[.string ⟨#[116]⟩,Nl,.slice (some (Ad wb 0)) 1 1,Nl,Nl,I 0],Nl] V fun e w'=>∃ar cr ah ch a1 a2 a3 a4 c1 c2 c3 c4,e=.returned (.tuple #[.agg #[.slice ar 1 cr,.slice ah 4 ch,I 16],I 0])/\ez V.heap.size w' (.slice ar 1 cr) wM/\jB w' ah (pO a1 a2 a3 a4 c1 c2 c3 c4)/\4<=ch/\Below V.heap.size V w'):=fun wb V hV=>by
  have him:qm V ⟨none,0,some (Ad wb 0),1,none,0,none,0⟩ kM:=⟨fun h=>absurd h (jf _),fun _=>⟨wb,0,rfl,aJ hV,fun i hi=>by
   obtain rfl:i=0:=by
    have:i<1:=hi;omega
   exact⟨aq hV 0 rfl,aq hV 1 rfl,aq hV 2 rfl,aq hV 3 rfl,aq hV 4 rfl⟩⟩,fun h=>absurd h (jf _),fun h=>absurd h (jf _)⟩
  refine(VL ⟨kM,⟨none,0,some (Ad wb 0),1,none,0,none,0⟩⟩ [] none 0 V him (fun h=>absurd h (by simp)) R7 ⟨by unfold b7;decide,fun k hk=>absurd hk (by simp)⟩ (fun k hk U hU=>?_) (fun m D U hG=>?_) (fun ix ao cap k U hk=>?_)).mono fun e w' h=>aeK h
  · obtain rfl:k=0:=by
     have:k<1:=hk;omega
    refine(afL ⟨#[116]⟩ [⟨0,4,H5,true,true⟩] 0 none (some (Ad wb 0)) none none 0 1 0 0 U (him.below hU) R7 (by kernel_rfl) (by kernel_rfl) (by kernel_rfl) (by kernel_rfl) (by kernel_rfl)).mono ?_;rintro e w' ⟨rfl,hb⟩;exact⟨by rw[show mC (cD [⟨kM,⟨none,0,some (Ad wb 0),1,none,0,none,0⟩⟩] 0).i=0 by kernel_rfl],hb⟩
  · rw[R4];exact abm _ m U rfl (hG.im 0 hG.pos)
  · refine YQ _ ao cap _ U ?_;rw[kH] at hk;rw[(uB _ ix 1 k hk).1];cases ix.getD k 0 <;> rfl
 have HDD:Hid (wL 6=H5):=XL;obtain⟨D,hD⟩:=ex H5;rw[<- hD] at HLK HDD;clear hD;have gB:=ai (((aK w.heap.size w).alloc (aD _) (.cells #[Nl,Nl,I 0] 25)).alloc (by simp) (.cells zL 108));have X0:=ai (bk (bB w #[Nl,Nl,I 0] 25) (.cells zL 108));have R0:Hid (((w.alloc (.cells #[Nl,Nl,I 0] 25)).alloc (.cells zL 108)).heap[w.heap.size+1]?=some (.cells zL 108 (0,0))):=by
  have:=bB (w.alloc (.cells #[Nl,Nl,I 0] 25)) zL 108;rw[gh] at this;exact this
 go_enter Tryz.func37,Tryz.ntmps37;go_wp2;obtain⟨WA,lu⟩:=ex ((w.alloc (.cells #[Nl,Nl,I 0] 25)).alloc (.cells zL 108));have ajV:=lu;unfold zL at ajV;rw[<- ajV];rw[<- lu] at gB X0 R0;clear lu ajV;obtain⟨rb,J5⟩:=ex (w.heap.size+1);rw[<- J5] at R0 ⊢;have MS:=ai J5;clear J5;go_loopw [1,3] (fun sv iv wr=>∃k:Nat,k<=6/\iv=I (k:Int)/\sv=.string (wL k)/\wr.heap[rb]?=some (.cells zL 108 (0,0))/\wr.heap[w.heap.size]?=some (.cells #[Nl,Nl,I 0] 25 (0,0))/\Below w.heap.size w wr) (fun _ iv _=>6-(intOf iv).toNat)
 case atStart=>exact⟨0,by omega,rfl,rfl,R0.o,X0.o,gB.o⟩
 case round =>
  obtain⟨k,hk,rfl,rfl,hr,hx,hb⟩:=hrel;have HR:=ai hr;have HX:=ai hx;have HB:=ai hb;clear R0 X0 gB;by_cases hlt:k<6
  · obtain⟨c0,c1,c2,c3,c4⟩:=aax hr k hlt;have hs:=HSZ.o k;have HS:=ai (HST.o k);have hz:(Au.getD k GJ).bytes.size=8:=Ih _;have HI2:=ai (Eu.o (Au.getD k GJ));obtain⟨i,hi⟩:=ex (Au.getD k GJ);rw[<- hi] at c0 c1 c2 c3 c4 HS hz HI2;obtain⟨Z,hZ⟩:=ex (wL k);obtain⟨Y,hY⟩:=ex i.bytes;rw[<- hZ] at hs HS ⊢;rw[<- hY] at hz HS HI2;have Jj:(k:Int)<6:=by omega
    clear hi hZ hY hr hx hb;go_wp2_with (go_at_call 84;refine(HI2.o _).mono ?_;rintro e w1 ⟨rfl,hb1⟩;have cH:=ai (HB.o.trans (hb1.mono HB.o.size));have HR1:=ai (aN HR.o hb1 (aJ HR.o));have HX1:=ai (aN HX.o hb1 (aJ HX.o));clear hb1)
    go_roundw
    case rel=>exact⟨k+1,by omega,by go_num,by rw[HS.o],HR1.o,HX1.o,cH.o⟩
    case measure=>simp[intOf];omega
  · obtain rfl:k=6:=by omega
    rw[HDD.o];have auw:=aJ hx;clear hr hx hb HST HSZ Eu;go_wp2_with fail
    have HBS:=ai (HB.o.alloc HB.o.size (.cells #[I 0,I 4,.string D,.bool true,.bool true] 166));have HXS:=ai (bk HX.o (.cells #[I 0,I 4,.string D,.bool true,.bool true] 166));have HLS:=ai (HLK.o wr.heap.size _ (bB wr #[I 0,I 4,.string D,.bool true,.bool true] 166))
    go_at_call 22
    refine HLS.o.mono ?_;rintro e w2 ⟨ar,cr,ah,ch,a1,a2,a3,a4,c1,c2,c3,c4,rfl,h1,h2,h3,h4⟩;have HO:=ai h1;have HH:=ai h2;have HX2:=ai (aN HXS.o h4 (aJ HXS.o));have gK:=ai (HBS.o.trans (h4.mono HBS.o.size));have hcl:=h4.size;clear h1 h2 h4 HLS HLK HDD HXS;have HX3:=ai (bk HX2.o (.cells #[.slice ar 1 cr,.slice ah 4 ch,I 16] 25));have y0:=aq HX3.o 0 rfl;have y1:=aq HX3.o 1 rfl;have y2:=aq HX3.o 2 rfl;have yf:=aO HX3.o;have hwl:=aJ HX3.o;have vI:Hid (aC (fun b=>b=w.heap.size) w2 (w2.alloc (.cells #[.slice ar 1 cr,.slice ah 4 ch,I 16] 25))):=aC.alloc _ w2 _;have HKU:=ai (vI.o.trans (xD (D:=fun b=>b=w.heap.size) _ w.heap.size 0 1 2 (.slice ar 1 cr) (.slice ah 4 ch) (I 16) rfl) (fun _ _ g=>g));go_wp2;refine bI (v:=.agg #[.slice ar 1 cr,.slice ah 4 ch,I 16]) (by simp[results,Tryz.results37,go_sem,y0,y1,y2,hwl]) rfl (dB.o _ _ _ _ a1 a2 a3 a4 c1 c2 c3 c4 _ ?_ ?_ h3 ?_)
    · exact ez.has (HKU.o.row HO.o (fun b hb e=>by have:=(HO.o.lt b hb).1;simp at this;omega))
    · exact aay HH.o HX2.o (fun _ _ h=>nomatch h) (fun _ _ h=>nomatch h) (fun b j v hne hc=>HKU.o.cell hc hne) HKU.o.size
    · exact aC.below gK.o HKU.o gK.o.size (fun b hb=>by rw[hb];exact aD _)
open Go.RowKit
theorem T6 (w:World):Calls Tryz.prog 38 #[] w fun e w'=>(∃pb,e=.returned (.slice (some (Ad pb 0)) 14 14)/\tZ w' (some (Ad pb 0)) qG/\pb<w'.heap.size)/\Below w.heap.size w w':=by
 have HN:Hid (∀(V:World),V.heap[w.heap.size]?=some (.cells #[I 0,I 1,I 0,I 1,I 0,I 1,I 0,I 1,I 0,I 1,I 0,I 1,I 0,I 1] 3 (0,0))->tZ V (some (Ad w.heap.size 0)) qG):=fun V h _=>by
  refine⟨w.heap.size,0,rfl,aJ h,fun i hi=>?_⟩
  match i,hi with
  | 0,_=>exact aq h 0 rfl
  | 1,_=>exact aq h 1 rfl
  | 2,_=>exact aq h 2 rfl
  | 3,_=>exact aq h 3 rfl
  | 4,_=>exact aq h 4 rfl
  | 5,_=>exact aq h 5 rfl
  | 6,_=>exact aq h 6 rfl
  | 7,_=>exact aq h 7 rfl
  | 8,_=>exact aq h 8 rfl
  | 9,_=>exact aq h 9 rfl
  | 10,_=>exact aq h 10 rfl
  | 11,_=>exact aq h 11 rfl
  | 12,_=>exact aq h 12 rfl
  | 13,_=>exact aq h 13 rfl
  | k+14,h=>exact absurd h (by show ¬k+14<14;omega)
 have HB:=ai ((aK w.heap.size w).alloc (aD _) (.cells #[I 0,I 1,I 0,I 1,I 0,I 1,I 0,I 1,I 0,I 1,I 0,I 1,I 0,I 1] 3));have HX:=ai (HN.o _ (bB w #[I 0,I 1,I 0,I 1,I 0,I 1,I 0,I 1,I 0,I 1,I 0,I 1,I 0,I 1] 3));go_enter Tryz.func38,Tryz.ntmps38;go_wp2;go_ret;exact⟨⟨w.heap.size,rfl,HX.o,by simp⟩,HB.o⟩
def aam (a1 a2 a3 a4:Option Addr) (c1 c2 c3 c4:Nat):gQ:=⟨nj wM (pO a1 a2 a3 a4 c1 c2 c3 c4) 3 8,[nE 16],[]⟩
theorem Ev (a1 a2 a3 a4:Option Addr) (c1 c2 c3 c4:Nat):qo wM (pO a1 a2 a3 a4 c1 c2 c3 c4) 16 3 8=(aam a1 a2 a3 a4 c1 c2 c3 c4,0)/\dh dn (dC (aam a1 a2 a3 a4 c1 c2 c3 c4)):=by
 rcases LJ wM (pO a1 a2 a3 a4 c1 c2 c3 c4) 16 3 8 ⟨by omega,by omega⟩ with h | ⟨_,_,_,_,_,_,h1,h2⟩
 · exact absurd (by kernel_rfl) h
 · exact⟨h1,h2⟩
theorem Xw (a1 a2 a3 a4:Option Addr) (c1 c2 c3 c4:Nat):∃s,ij (aam a1 a2 a3 a4 c1 c2 c3 c4) qG=(ru s,0)/\Hz s=(2,2,0,1,2,0):=by
 obtain⟨s,h1,h2⟩:=agS a1 a2 a3 a4 c1 c2 c3 c4;refine⟨s,?_,h2⟩;rw[Hv (Ev a1 a2 a3 a4 c1 c2 c3 c4).2,au (by decide)];have h1:fZ cI qG qG.length (some (dC (aam a1 a2 a3 a4 c1 c2 c3 c4)))=some s:=h1;rw[h1]
theorem T8 {N:Nat} {c:Array Value} {U:World} {a1 a2 a3 a4:Option Addr} {c1 c2 c3 c4:Nat} (h:jY N (aam a1 a2 a3 a4 c1 c2 c3 c4) c U) (ap:Option Addr) (cp:Nat) (hn:tZ U ap qG) (hps:∀b,ap=some b->b.block<U.heap.size) :
  Calls Tryz.prog 20 #[.agg c,.slice ap 14 cp] U fun e w''=>∃t0 k0 p0 t1 k1 p1 t2 k2 p2 t3 k3 p3 hc b1 o1 p5 b2 o2 p6,e=.returned (.tuple #[.agg #[.slice t0 k0 p0,.slice t1 k1 p1,.slice t2 k2 p2,.slice t3 k3 p3,I hc,.slice (some (Ad b1 o1)) 2 p5,.slice (some (Ad b2 o2)) 2 p6],I 0])/\(∀X,aC (fun b=>b<U.heap.size) w'' X->X.cell? (Ad b1 (o1+22))=some (I 2)/\X.cell? (Ad b1 (o1+23))=some (I 0)/\X.cell? (Ad b2 (o2+1))=some (I 0)/\X.cell? (Ad b2 (o2+3))=some (I 1))/\Below U.heap.size U w'':=by
 obtain⟨s,e1,e2⟩:=Xw a1 a2 a3 a4 c1 c2 c3 c4;refine(N3 h (Ev a1 a2 a3 a4 c1 c2 c3 c4).2 qG ap cp hn (fun _=>hps) (by show(14:Nat)<=_;decide)).mono ?_;rintro e w' ⟨c',g1,g2,g3⟩;rw[e1] at g1 g2;simp only[Hz,Prod.mk.injEq] at e2;obtain⟨r1,r2,r3,r4,r5,r6⟩:=e2;obtain⟨hs,a,ar,cr,ao,co,i1,rfl,i3⟩:=g2;have hk:=i3 w' (aC.refl _ _);obtain⟨b1,o1,f1,_,_⟩:=hk.procs (by show 0<s.ps.length;omega);obtain⟨b2,o2,f2,_,_⟩:=hk.out (by show 0<s.out.length;omega);subst f1 f2;have g1:e=.returned (.tuple #[.agg #[.slice a.aS hs.length a.cS,.slice a.aF s.mem.frames.length a.cF,.slice a.aL s.mem.slots.length a.cL,.slice a.aP s.mem.aj.length a.cP,I s.mem.hand,.slice (some (Ad b1 o1)) s.ps.length cr,.slice (some (Ad b2 o2)) s.out.length co],I 0]):=g1;rw[r1,r2] at g1;refine⟨_,_,_,_,_,_,_,_,_,_,_,_,_,b1,o1,cr,b2,o2,co,g1,fun X hX=>?_,g3⟩;have hu:=i3 X hX;obtain⟨b3,o3,f3,_,l3⟩:=hu.procs (by show 0<s.ps.length;omega);obtain⟨b4,o4,f4,_,l4⟩:=hu.out (by show 0<s.out.length;omega);injection f3 with f3;injection f4 with f4;injection f3 with u1 u2;injection f4 with u3 u4;subst u1 u2 u3 u4;obtain⟨_,_,_,_,_,_,_,_,_,k9,k10,_,_⟩:=l3 1 (by show 1<s.ps.length;omega);obtain⟨_,k1⟩:=l4 0 (by show 0<s.out.length;omega);obtain⟨_,k2⟩:=l4 1 (by show 1<s.out.length;omega);have k9:X.cell? (Ad b1 (o1+1*13+9))=some (I (aI s.ps 1).st):=k9;have k10:X.cell? (Ad b1 (o1+1*13+10))=some (I (aI s.ps 1).cd):=k10;have k1:X.cell? (Ad b2 (o2+0*2+1))=some (I (pP s.out 0).value):=k1;have k2:X.cell? (Ad b2 (o2+1*2+1))=some (I (pP s.out 1).value):=k2;rw[r5] at k9;rw[r6] at k10;rw[r3] at k1;rw[r4] at k2;exact⟨k9,k10,k1,k2⟩
theorem Xx (w:World):Calls Tryz.prog 13 #[] w fun e w'=>e=.returned (.bool true)/\Below w.heap.size w w':=by
 have HCT:=ai XM;have Mh:=ai T6;have HNW:Hid (∀V ar cr ah ch a1 a2 a3 a4 c1 c2 c3 c4,gD V (.slice ar 1 cr) wM->jB V ah (pO a1 a2 a3 a4 c1 c2 c3 c4)->4<=ch->Calls Tryz.prog 10 #[.agg #[.slice ar 1 cr,.slice ah 4 ch,I 16],I 3,I 8] V fun e w'=>∃s0 n0 q0 s1 n1 C7 s2 n2 C6 s3 n3 C5 hd s5 q5 s6 q6,e=.returned (.tuple #[.agg #[.slice s0 n0 q0,.slice s1 n1 C7,.slice s2 n2 C6,.slice s3 n3 C5,I hd,.slice s5 1 q5,.slice s6 0 q6],I 0])/\(∀U,aC (fun b=>b<V.heap.size) w' U->∀ap cp,tZ U ap qG->(∀b,ap=some b->b.block<U.heap.size)->Calls Tryz.prog 20 #[.agg #[.slice s0 n0 q0,.slice s1 n1 C7,.slice s2 n2 C6,.slice s3 n3 C5,I hd,.slice s5 1 q5,.slice s6 0 q6],.slice ap 14 cp] U fun e w''=>∃t0 k0 p0 t1 k1 p1 t2 k2 p2 t3 k3 p3 hc b1 o1 p5 b2 o2 p6,e=.returned (.tuple #[.agg #[.slice t0 k0 p0,.slice t1 k1 p1,.slice t2 k2 p2,.slice t3 k3 p3,I hc,.slice (some (Ad b1 o1)) 2 p5,.slice (some (Ad b2 o2)) 2 p6],I 0])/\(∀X,aC (fun b=>b<U.heap.size) w'' X->X.cell? (Ad b1 (o1+22))=some (I 2)/\X.cell? (Ad b1 (o1+23))=some (I 0)/\X.cell? (Ad b2 (o2+1))=some (I 0)/\X.cell? (Ad b2 (o2+3))=some (I 1))/\Below U.heap.size U w'')/\Below V.heap.size V w'):=fun V ar cr ah ch a1 a2 a3 a4 c1 c2 c3 c4 h1 h2 h3=>by
  have h:=N6 wM (pO a1 a2 a3 a4 c1 c2 c3 c4) 16 3 8 (.slice ar 1 cr) ah ch V h1 aaA h2 (aaz a1 a2 a3 a4 c1 c2 c3 c4) h3 (by unfold cN;decide);rw[(Ev a1 a2 a3 a4 c1 c2 c3 c4).1] at h;refine h.mono ?_;rintro e w' ⟨c,g1,g2,g3⟩;obtain⟨s0,n0,q0,s1,n1,C7,s2,n2,C6,s3,n3,C5,hd,s5,q5,s6,q6,hc⟩:=g2.cells;subst hc;exact⟨s0,n0,q0,s1,n1,C7,s2,n2,C6,s3,n3,C5,hd,s5,q5,s6,q6,g1,fun U hU ap cp hn hb=>T8 (g2.later hU) ap cp hn hb,g3⟩
 go_enter Tryz.func13,Tryz.ntmps13;go_wp2_with fail
 go_at_call 37
 refine(HCT.o _).mono ?_;rintro e w1 ⟨ar,cr,ah,ch,a1,a2,a3,a4,c1,c2,c3,c4,rfl,h1,h2,h3,h4⟩;have cH:=ai h4;have HN1:=ai (HNW.o w1 ar cr ah ch a1 a2 a3 a4 c1 c2 c3 c4 h1 h2 h3);clear h1 h2 h3 h4 HCT HNW;go_wp2_with fail
 go_at_call 10
 refine HN1.o.mono ?_;rintro e w2 ⟨s0,n0,q0,s1,n1,C7,s2,n2,C6,s3,n3,C5,hd,s5,q5,s6,q6,rfl,h1,h2⟩;have LQ:=ai h1;have gK:=ai (cH.o.trans (h2.mono cH.o.size));have hsz:=h2.size;clear h1 h2 HN1;go_wp2_with fail
 have jk:=ai (gK.o.alloc gK.o.size (.cells #[.slice s0 n0 q0,.slice s1 n1 C7,.slice s2 n2 C6,.slice s3 n3 C5,I hd,.slice s5 1 q5,.slice s6 0 q6] 34));have X0:=ai (bB w2 #[.slice s0 n0 q0,.slice s1 n1 C7,.slice s2 n2 C6,.slice s3 n3 C5,I hd,.slice s5 1 q5,.slice s6 0 q6] 34);have HKA:Hid (Below w2.heap.size w2 (w2.alloc (.cells #[.slice s0 n0 q0,.slice s1 n1 C7,.slice s2 n2 C6,.slice s3 n3 C5,I hd,.slice s5 1 q5,.slice s6 0 q6] 34))):=(aK w2.heap.size w2).alloc (aD _) _;obtain⟨W,hW⟩:=ex (w2.alloc (.cells #[.slice s0 n0 q0,.slice s1 n1 C7,.slice s2 n2 C6,.slice s3 n3 C5,I hd,.slice s5 1 q5,.slice s6 0 q6] 34));rw[<- hW] at jk X0 HKA ⊢;obtain⟨fb,Mo⟩:=ex w2.heap.size;have hfw:w.heap.size<=fb:=by rw[Mo];exact gK.o.size
 rw[<- Mo] at X0 ⊢;clear Mo hW;have ub:=ai (aK W.heap.size W).drew;have X00:Hid (W.drew.heap[fb]?=some (.cells #[.slice s0 n0 q0,.slice s1 n1 C7,.slice s2 n2 C6,.slice s3 n3 C5,I hd,.slice s5 1 q5,.slice s6 0 q6] 34 (0,0))):=X0.o;obtain⟨x0,x1,x2,x3,x4,x5,x6⟩:=qF X0.o;go_cut [3] (fun x3 wx=>∃t0 k0 p0 t1 k1 p1 t2 k2 p2 t3 k3 p3 hc b1 o1 p5 b2 o2 p6,x3=I 0/\wx.heap[fb]?=some (.cells #[.slice t0 k0 p0,.slice t1 k1 p1,.slice t2 k2 p2,.slice t3 k3 p3,I hc,.slice (some (Ad b1 o1)) 2 p5,.slice (some (Ad b2 o2)) 2 p6] 34 (0,0))/\(wx.cell? (Ad b1 (o1+22))=some (I 2)/\wx.cell? (Ad b1 (o1+23))=some (I 0)/\wx.cell? (Ad b2 (o2+1))=some (I 0)/\wx.cell? (Ad b2 (o2+3))=some (I 1))/\Below w.heap.size w wx)
 case first =>
  go_region_law (first
   | (go_simp;go_at_call 38;refine(Mh.o _).mono ?_;rintro e w3 ⟨⟨pb,rfl,hn,hpl⟩,hb3⟩;have zG:=ai (ub.o.trans (hb3.mono ub.o.size));have X3:=ai (aN X00.o hb3 (aJ X00.o));obtain⟨y0,y1,y2,y3,y4,y5,y6⟩:=qF X3.o;have aqG:=ai (LQ.o w3 (aC.bZ (HKA.o.trans (zG.o.mono HKA.o.size))) (some (Ad pb 0)) 14 hn (fun b hb=>by injection hb with hb;subst hb;exact hpl));clear hn hpl hb3;go_simp)
   | (go_simp;go_at_call 20;refine aqG.o.mono ?_;rintro e w4 ⟨t0,k0,p0,t1,k1,p1,t2,k2,p2,t3,k3,p3,hc,b1,o1,p5,b2,o2,p6,rfl,hc4,hb4⟩;have HC4:=ai hc4;have sQ:=ai hb4;have X4:=ai (aN X3.o hb4 (aJ X3.o));obtain⟨z0,z1,z2,z3,z4,z5,z6⟩:=qF X4.o;have zf:=aO X4.o;clear hc4 hb4;go_simp))
  all_goals
   go_wp2_with fail
   go_meet
   case rel =>
    have hf3:=aJ X3.o;have kU:=nI w4 fb (.slice t0 k0 p0) (.slice t1 k1 p1) (.slice t2 k2 p2) (.slice t3 k3 p3) (I hc) (.slice (some (Ad b1 o1)) 2 p5) (.slice (some (Ad b2 o2)) 2 p6);refine⟨t0,k0,p0,t1,k1,p1,t2,k2,p2,t3,k3,p3,hc,b1,o1,p5,b2,o2,p6,rfl,fP (fP (fP (fP (fP (fP (fP X4.o 0 _) 1 _) 2 _) 3 _) 4 _) 5 _) 6 _,HC4.o _ (kU.mono (fun b _ e=>by rw[e];exact hf3)),?_⟩;have hb:Below w.heap.size w w4:=(jk.o.trans (zG.o.mono jk.o.size)).trans (sQ.o.mono (jk.o.trans (zG.o.mono jk.o.size)).size);exact aC.below hb kU hb.size (fun b e=>by rw[e];exact hfw)
 case rest =>
  obtain⟨t0,k0,p0,t1,k1,p1,t2,k2,p2,t3,k3,p3,hc,b1,o1,p5,b2,o2,p6,rfl,hx,⟨j1,j2,j3,j4⟩,hb⟩:=hcut;have HB:=ai hb;have CM:=jt wc;have hkc:=@fR wc;have l0:=aJ hx;have l1:=nW _ _ j1;have l2:=nW _ _ j3;have e2:∀x:dW wc.heap.size wc,x.world.cell? (Ad fb 5)=some (.slice (some (Ad b1 o1)) 2 p5):=fun x=>(hkc x _ _ l0).trans (aq hx 5 rfl)
  have e3:∀x:dW wc.heap.size wc,x.world.cell? (Ad fb 6)=some (.slice (some (Ad b2 o2)) 2 p6):=fun x=>(hkc x _ _ l0).trans (aq hx 6 rfl)
  have e4:∀x:dW wc.heap.size wc,x.world.cell? (Ad b1 (o1+22))=some (I 2):=fun x=>(hkc x _ _ l1).trans j1
  have e4':∀x:dW wc.heap.size wc,x.world.cell? (Ad b1 (o1+13+9))=some (I 2):=fun x=>(hkc x _ _ l1).trans j1
  have e5:∀x:dW wc.heap.size wc,x.world.cell? (Ad b1 (o1+23))=some (I 0):=fun x=>(hkc x _ _ l1).trans j2
  have e5':∀x:dW wc.heap.size wc,x.world.cell? (Ad b1 (o1+13+10))=some (I 0):=fun x=>(hkc x _ _ l1).trans j2
  have e6:∀x:dW wc.heap.size wc,x.world.cell? (Ad b2 (o2+1))=some (I 0):=fun x=>(hkc x _ _ l2).trans j3
  have e7:∀x:dW wc.heap.size wc,x.world.cell? (Ad b2 (o2+2+1))=some (I 1):=fun x=>(hkc x _ _ l2).trans j4
  have e8:∀x:dW wc.heap.size wc,x.world.cell? (Ad b2 (o2+3))=some (I 1):=fun x=>(hkc x _ _ l2).trans j4
  clear hkc hx j1 j2 j3 j4 hb Mh LQ HKA ub X00 X0 x0 x1 x2 x3 x4 x5 x6 l0 l1 l2;go_wp2_with fail
  refine dA (by kernel_rfl) (by kernel_rfl) ?_
  repeat (first | go_big_quiet_step (fail) | quiet_step (fail))
  refine jo ?_;intro _ hw';obtain⟨x,hw''⟩:=hw';subst hw'';go_wp2;go_ret;exact⟨by simp,HB.o.trans (x.keeps.mono HB.o.size)⟩
open Go.RowKit Go.Deep
theorem YJ:Tryz.prog.cellsOf 9=1:=by rfl
theorem Kg:Tryz.prog.cellsOf 3=1:=by rfl
theorem zQ (n:Int) (h:(Lit.int .i64 n).wf=true):cN n:=aeP n h
theorem Ms {w:World} {b o:Nat} {v:Value} (h:w.cell? (Ad b o)=some v):b<w.heap.size:=by
 grind [World.cell?]
instance:Inhabited pR:=⟨Ii⟩
instance:Inhabited VI:=⟨ajd⟩
instance:Inhabited SM:=⟨aje⟩
def A3 {H:Type} (t:TypeId) (d:DataW H):Prop:=∀n∈d.weights Tryz.prog t,n<=reachBytes
theorem CN {H:Type} {e:TypeId}:∀{l:List (DataW H)} {d:DataW H},d∈l->∀n∈d.weights Tryz.prog e,n∈DataW.weightsAll Tryz.prog e l
 | y::r,d,h,n,hn=>by
  simp only[DataW.weightsAll,l5];rcases uQ.1 h with h | h
  · grind
  · exact .inr (CN h n hn)
theorem Kb {H:Type} {t:TypeId} {b:List UInt8} (h:A3 (H:=H) t (.lit (.string b))):b.length<=reachBytes:=h _ (by simp[DataW.weights])
theorem AZ {H:Type} {t e:TypeId} {el sp:List (DataW H)} (hu:Tryz.prog.underlying t=some (.slice e)) (h:A3 t (.slice el sp)):(el.length+sp.length)*Tryz.prog.bytesOf e<=reachBytes/\∀d∈el,A3 e d:=by
 refine⟨h _ (by grind [DataW.weights]),fun d hd n hn=>h n ?_⟩
 grind [DataW.weights,CN]
theorem CO {H:Type} {t:TypeId} {fs:Array Field} {ps:List (DataW H)} (hu:Tryz.prog.underlying t=some (.struct fs)) (h:A3 t (.agg ps)) {j:Nat} {u:TypeId} {d:DataW H} (ht:(fs.toList.map (·.type))[j]?=some u) (hd:ps[j]?=some d):A3 u d:=fun n hn=>h n (by
 grind [DataW.weights,DataW.weights_mem_each])
section
variable {H:Type} {enc:TypeId×Value->H} {w:World} {base:Nat} {spare:Nat->Bool} {held:Bool}
theorem Jk {t e:TypeId} {fuel:Nat} {v:Value} {x:DataW H×List MemPlace} (ht:Tryz.prog.underlying t=some (.slice e)) (h:DataW.trod enc Tryz.prog w base spare held fuel t [v]=some x):∃a len cap,v=.slice a len cap:=by
 rcases open_slice ht h with⟨hcs,_⟩ | ⟨a,len',cap',m,n,D,Pl,hcs,_⟩
 · grind
 grind
end
end Go.Proofs.YtlgoihmkgaaemaaGreat
