import Derived.Test.YtpgifpeohlllfaaGreatGT38
set_option maxHeartbeats 20000000
set_option linter.unusedVariables false
set_option maxRecDepth 100000
set_option linter.unusedSimpArgs false
namespace Go.Proofs.YtpgifpeohlllfaaGreat
namespace LW
open Go.RowKit Go.WideMaps Go.Maps
open W (ai)
theorem Ls (p:LM.Li) (libs:List LM.Li) (ao:Option Addr) (cap:Nat) (w:World) (hp:M.nX w p.a p.i) (h:LM.I4 w ao libs) (ZW:M.Fit p.i) (hf:LM.abE libs)
  (qT:∀k,k<(p::libs).length->∀V,Below w.heap.size w V->Calls Tryz.prog 158 #[.agg (M.fK (LM.cO (p::libs) k).a (LM.cO (p::libs) k).i)] V fun e w'=>e=.returned (I (M.kq (LM.cO (p::libs) k).i))/\Below V.heap.size V w')
  (hga:∀m D V,Gi (p::libs) m D V->Calls Tryz.prog 133 #[LM.E1 (LM.cO (p::libs) 0),.map (some m)] V (Uo (p::libs) (LM.YB (p::libs) (p::libs).length 0 [0]) V))
  (hpx:∀ix ao cap k V,k<(LM.cT (p::libs) 1 ix).length->Calls Tryz.prog 161 #[.agg (LM.lV (LM.eu (LM.cT (p::libs) 1 ix) k)),.slice ao (LM.cT (p::libs) 1 ix).length cap] V (Cr (LM.yH (LM.cT (p::libs) 1 ix) (LM.eu (LM.cT (p::libs) 1 ix) k)) V)) :
  Calls Tryz.prog 93 #[LM.E1 p,.slice ao libs.length cap] w (aaN (p::libs) w):=by
 have hsl:libs.length<=140737488351232:=hf.1;have HP:=ai hp;have aby:=ai qT;have abm:=ai hga;have aa4:=ai hpx;have HL:=ai h;have YM:Hid (∀V,Below w.heap.size w V->∀k,k<(p::libs).length->M.nX V (LM.cO (p::libs) k).a (LM.cO (p::libs) k).i):=fun V hb k hk=>by
  cases k with
  | zero=>exact hp.below hb
  | succ k =>
   have hk':k<libs.length:=by simpa using hk
   obtain⟨b,off,_,_,hl⟩:=h (by omega);exact(hl k hk').2.below hb
 have om:Hid (∀k,k<(p::libs).length->M.Fit (LM.cO (p::libs) k).i):=fun k hk=>by
  cases k with
  | zero=>exact ZW
  | succ k=>exact hf.2 k (by simpa using hk)
 clear hp h ZW hf qT hga hpx;have VK:=ai (((Below.refl w.heap.size w).alloc (Nat.le_refl _) (.cells (M.fK p.a p.i) 151)).alloc (by simp) (.cells #[Nl,Nl,I 0] 30));have BM:=ai (B.alloc (B.new w (M.fK p.a p.i) 151) (.cells #[Nl,Nl,I 0] 30));have BR0:=B.new (w.alloc (.cells (M.fK p.a p.i) 151)) #[Nl,Nl,I 0] 30;rw[World.size_alloc] at BR0;have BR:=ai BR0;clear BR0;unfold LM.E1;go_enter Tryz.func93,Tryz.ntmps93;by_cases h6:6<libs.length
 · have HE:Hid (LM.il (p::libs)=2):=by
    show _=_;unfold LM.il;rw[if_pos (by simp;omega)]
   clear BM BR;simp only[M.fK] at VK ⊢;go_wp2;exact bodyPost_ret (v:=.tuple #[.agg #[Nl,Nl,I 0],I 2]) (by simp[results,Tryz.results93,go_sem]) rfl ⟨VK.o,by rw[HE.o];simp⟩
 · have h7:(p::libs).length<=7:=by simp;omega
   have XC:Hid ((((w.alloc (.cells (M.fK p.a p.i) 151)).alloc (.cells #[Nl,Nl,I 0] 30)).alloc (.cells (M.fK p.a p.i) 151)).ownsRow (w.heap.size+2) 151 6 (.slice (some (Ad (w.heap.size+2) 0)) 1 1) 1 (LM.bU p)):=by
    have h:=World.ownsRow_lit (base:=w.heap.size+2) (e:=151) (size:=6) ((w.alloc (.cells (M.fK p.a p.i) 151)).alloc (.cells #[Nl,Nl,I 0] 30)) (M.fK p.a p.i) 1 (by simp) (by decide) rfl;have e:((w.alloc (.cells (M.fK p.a p.i) 151)).alloc (.cells #[Nl,Nl,I 0] 30)).heap.size=w.heap.size+2:=by simp
    rw[e] at h;exact h
   have ed:=ai (VK.o.alloc (by simp;omega) (.cells (M.fK p.a p.i) 151));have UX:=ai (B.alloc BM.o (.cells (M.fK p.a p.i) 151));have Gt:=ai (B.alloc BR.o (.cells (M.fK p.a p.i) 151));clear BM BR VK;simp only[M.fK] at XC ed UX Gt ⊢;go_wp2_with (at_builtin;refine rR rfl _ _ rfl (w.heap.size+2) p (w.heap.size+2) (by first | rfl | simp) XC.o ao cap libs rfl (HL.o.below ed.o) (by omega) (by simp) ?_;intro gg aaI w1 hown hgrow hlt;have bE:=ai (ed.o.grown hgrow (by simp;omega) (fun q hq=>by injection hq with hq;omega));have BM1:=ai (B.grown UX.o hgrow (by simp));have BR1:=ai (B.grown Gt.o hgrow (by simp));have HI1:=ai (VZ (l:=p::libs) hown hlt (YM.o _ bE.o));clear hown hgrow hlt)
   obtain⟨all,hall⟩:=ex (p::libs);have HLI:Hid (LM.cO all 0=p):=by rw[hall];rfl
   have hlen:libs.length+1=all.length:=by rw[hall];rfl
   rw[<- hall] at HI1 YM om h7 aby abm aa4;rw[<- hall,hlen];clear XC ed UX Gt HL;have QQ:=ai hall;clear hall;refine(FE all _ _ _ HI1.o ⟨by unfold M.bD;omega,om.o⟩ (fun k hk V hV=>aby.o k hk V (bE.o.trans (hV.mono bE.o.size)))).mono ?_;rintro e w2 ⟨hb,hout⟩;have cM:=ai (bE.o.trans (hb.mono bE.o.size));have UY:=ai (B.below BM1.o hb (B.isLt BM1.o));have VN:=ai (B.below BR1.o hb (B.isLt BR1.o));clear hb BM1 BR1 bE HI1;by_cases hby:LM.mX all=0
   · rw[if_pos hby] at hout;obtain⟨m,D,rfl,hmap,pO⟩:=hout;obtain⟨qT,E6⟩:=LM.IM hby;have HGI:Hid (Gi all m D w2):=⟨by omega,h7,qT,om.o,E6,YM.o _ cM.o,hmap,pO⟩;have uB:=ai qT;clear hmap pO E6 qT;have m0:=B.cell UY.o 0 rfl;have m1:=B.cell UY.o 1 rfl;have m2:=B.cell UY.o 2 rfl;have m3:=B.cell UY.o 3 rfl;have m4:=B.cell UY.o 4 rfl;have m5:=B.cell UY.o 5 rfl;have Gb:=ai hby;clear hby;go_wp2_with fail
     have HGA:=ai (abm.o m D w2 HGI.o);rw[HLI.o] at HGA;refine Calls.mono (P:=Tryz.prog) HGA.o ?_;rintro e w3 ⟨hb,hout⟩;have ed:=ai (cM.o.trans (hb.mono cM.o.size));have UX:=ai (B.below UY.o hb (B.isLt UY.o));have Gt:=ai (B.below VN.o hb (B.isLt VN.o));clear hb UY VN HGA m0 m1 m2 m3 m4 m5;have r0:=B.cell Gt.o 0 rfl;have r1:=B.cell Gt.o 1 rfl;have r2:=B.cell Gt.o 2 rfl;have rf:=B.free Gt.o;have rl:=B.isLt Gt.o;cases eg:LM.YB all all.length 0 [0] with
     | none =>
      rw[eg] at hout;obtain rfl:=hout;have HE:Hid (LM.il all=6):=by
       show _=_;unfold LM.il;rw[if_neg (by omega),if_pos Gb.o,eg]
      clear eg;go_wp2;exact bodyPost_ret (v:=.tuple #[.agg #[Nl,Nl,I 0],I 6]) (by simp[results,Tryz.results93,go_sem,r0,r1,r2]) rfl ⟨((ed.o.setCell (by simp) _).setCell (by simp) _).setCell (by simp) _,by rw[<- QQ.o,HE.o];simp⟩
     | some ix =>
      rw[eg] at hout;obtain⟨hok,ao2,cap2,rfl,hO⟩:=hout;have hpos:=hok.pos;have hle:=hok.le;have Gs:Hid (LM.AO (LM.eu (LM.cT all 1 ix) (ix.length-1))=LM.fY all 1 ix):=LM.CX all ix 1 hpos;have XF:Hid (Oi (LM.cT all 1 ix) ao2 w3):=by
       refine⟨hO,by rw[LM.eU];omega,fun k hk=>?_,fun k hk=>?_,LM.Og uB.o h7 hok⟩
       · rw[LM.eU] at hk;rw[(LM.mJ all ix 1 k hk).1];exact uB.o _ (hok.lt _ (LM.dO ix k hk))
       · rw[LM.eU] at hk;rw[(LM.mJ all ix 1 k hk).1];exact om.o _ (hok.lt _ (LM.dO ix k hk))
      have hxl:ix.length=(LM.cT all 1 ix).length:=(LM.eU all ix 1).symm;have FZ:Hid (LM.il all=if 256<LM.fY all 1 ix then 3 else match LM.ma (LM.cT all 1 ix) with
        | none=>7
        | some _=>0):=by
       show _=_;unfold LM.il;rw[if_neg (by omega),if_pos Gb.o,eg];dsimp only;cases LM.ma (LM.cT all 1 ix) <;> rfl
      have HEG:=ai eg;obtain⟨EN,hEN⟩:=ex (LM.fY all 1 ix);rw[<- hEN] at Gs FZ;have aa5:=ai (aa4.o ix);obtain⟨Br,Wq⟩:=ex (LM.cT all 1 ix);rw[<- Wq] at XF FZ Gs hO hxl aa5;have HOB:=ai Wq;rw[hxl] at Gs hpos hle;rw[hxl];clear hEN Wq eg hok hxl HGI Gb;obtain⟨b,off,PE,hbl,bN⟩:=hO hpos;subst PE;obtain⟨k1,hk1⟩:=ex (Br.length-1);have Pm:k1<Br.length:=by omega
      rw[<- hk1] at Gs;obtain⟨⟨c0,c1,c2,c3,c4,c5,c6⟩,him⟩:=bN k1 Pm;have iy:=ai (fun V hb=>jC (LM.eu Br k1) V (him.below hb) (XF.o.chk k1 Pm) (by have:=XF.o.base k1 Pm;omega) (by have:=XF.o.base k1 Pm;omega));obtain⟨o,ho⟩:=ex (LM.eu Br k1);rw[<- ho] at c0 c1 c2 c3 c4 c5 c6 iy Gs;simp only[LM.lV] at iy;rw[Gs.o] at iy;have hwr:IntKind.i64.wrap ((Br.length:Int)-1)=(k1:Int):=by rw[IntWalk.i64_in _ (by omega)];omega
      clear ho bN hO him Gs hk1 hlen HP YM om;by_cases Xb:256<EN
      · have HE:Hid (LM.il all=3):=by
         show _=_;rw[FZ.o,if_pos Xb]
        clear FZ;go_wp2_with (go_at_call 134;refine(iy.o _ (Below.refl _ _)).mono ?_;rintro e w4 ⟨rfl,hb⟩;have gw:=ai (ed.o.trans (hb.mono ed.o.size));have Nk:=ai (B.below Gt.o hb (B.isLt Gt.o));have s0:=B.cell Nk.o 0 rfl;have s1:=B.cell Nk.o 1 rfl;have s2:=B.cell Nk.o 2 rfl;have sf:=B.free Nk.o;have sl:=B.isLt Nk.o;clear hb)
        exact bodyPost_ret (v:=.tuple #[.agg #[Nl,Nl,I 0],I 3]) (by simp[results,Tryz.results93,go_sem,s0,s1,s2]) rfl ⟨((gw.o.setCell (by simp) _).setCell (by simp) _).setCell (by simp) _,by rw[<- QQ.o,HE.o];simp⟩
      · have DV:Hid (∀V,Oi Br (some (Ad b off)) V->Calls Tryz.prog 135 #[.slice (some (Ad b off)) Br.length cap2] V (J9 (LM.ma Br) V)):=fun V hV=>Aq Br _ cap2 V hV (by omega) (fun k hk V' hV'=>aa5.o _ cap2 k V' hk)
        cases es:LM.ma Br with
        | none =>
         have HE:Hid (LM.il all=7):=by
          show _=_;rw[FZ.o,if_neg Xb,es]
         rw[es] at DV;clear FZ es;go_wp2_with (first
          | (go_at_call 134;refine(iy.o _ (Below.refl _ _)).mono ?_;rintro e w4 ⟨rfl,hb⟩;have gw:=ai (ed.o.trans (hb.mono ed.o.size));have Nk:=ai (B.below Gt.o hb (B.isLt Gt.o));have BM4:=ai (B.below UX.o hb (B.isLt UX.o));have QJ:=ai (XF.o.below hb);clear hb)
          | (go_at_call 135;refine(DV.o _ QJ.o).mono ?_;rintro e w5 ⟨hb,rfl⟩;have pM:=ai (gw.o.trans (hb.mono gw.o.size));have Sq:=ai (B.below Nk.o hb (B.isLt Nk.o));have s0:=B.cell Sq.o 0 rfl;have s1:=B.cell Sq.o 1 rfl;have s2:=B.cell Sq.o 2 rfl;have sf:=B.free Sq.o;have sl:=B.isLt Sq.o;clear hb))
         exact bodyPost_ret (v:=.tuple #[.agg #[Nl,Nl,I 0],I 7]) (by simp[results,Tryz.results93,go_sem,s0,s1,s2]) rfl ⟨((pM.o.setCell (by simp) _).setCell (by simp) _).setCell (by simp) _,by rw[<- QQ.o,HE.o];simp⟩
        | some E =>
         have HE:Hid (LM.il all=0):=by
          show _=_;rw[FZ.o,if_neg Xb,es]
         have HES:=ai es;rw[es] at DV;clear FZ es;go_wp2_with (first
          | (go_at_call 134;refine(iy.o _ (Below.refl _ _)).mono ?_;rintro e w4 ⟨rfl,hb⟩;have gw:=ai (ed.o.trans (hb.mono ed.o.size));have Nk:=ai (B.below Gt.o hb (B.isLt Gt.o));have BM4:=ai (B.below UX.o hb (B.isLt UX.o));have QJ:=ai (XF.o.below hb);clear hb)
          | (go_at_call 135;refine(DV.o _ QJ.o).mono ?_;rintro e w5 ⟨hb,hs,ah,ch,hme,rfl,hhh,hcc⟩;have pM:=ai (gw.o.trans (hb.mono gw.o.size));have Sq:=ai (B.below Nk.o hb (B.isLt Nk.o));have BM5:=ai (B.below BM4.o hb (B.isLt BM4.o));have XE:=ai (QJ.o.below hb);have HME:=ai hme;have HHH:=ai hhh;clear hb hme hhh))
         clear DV iy XF QJ Gt Nk UX BM4 ed r0 r1 r2 rf rl c0 c1 c2 c3 c4 c5 c6 hwr hbl Pm;obtain⟨b5,ac9,PA,Fe,Vg⟩:=XE.o.has hpos;obtain⟨⟨d0,d1,d2,d3,d4,d5,d6⟩,dim⟩:=Vg 0 hpos;have WO:b=b5:=by injection PA with PA;injection PA
         have aaa:off=ac9:=by injection PA with PA;injection PA
         rw[<- WO,<- aaa] at d0 d1 d2 d3 d4 d5 d6;rw[<- WO] at Fe;simp only[Nat.zero_mul,Nat.add_zero] at d0 d1 d2 d3 d4 d5 d6;have akx:=XE.o.base 0 hpos;have hen:0<=p.i.entry/\p.i.entry<4080:=by
          have h:=LM.Dl (uB.o 0 (by omega));rw[HLI.o] at h;exact h
         have Yf:Hid ((LM.cO all 0).i.entry=p.i.entry):=by rw[HLI.o];rfl
         have Yj:Hid (∀V,Below w5.heap.size w5 V->Calls Tryz.prog 136 #[.slice (some (Ad b off)) Br.length cap2] V fun e w'=>∃r,e=.returned r/\AW.Own V.heap.size w' r (LM.oa Br)/\Below V.heap.size V w'):=fun V hb=>qy Br _ cap2 V (XE.o.below hb) (by omega)
         have HAD:=ai (fun V=>FT (LM.eu Br 0) p.i.entry V (by omega) (by omega) hen.1 (by omega));obtain⟨o0,ho0⟩:=ex (LM.eu Br 0);have HO0:=ai ho0;rw[<- ho0] at d0 d1 d2 d3 d4 d5 d6 HAD;simp only[LM.lV] at HAD;have hne:b≠w.heap.size+1:=fun e=>by
          rw[e] at d6;have h:=Sq.o;simp[World.cell?,h] at d6
         have HS:Hid (∀V,Below w5.heap.size w5 V->V.cell? (Ad b off)=some (.string o0.i.name)/\V.cell? (Ad b (off+1))=some (.slice o0.a.an o0.i.needs.length o0.a.cn)/\V.cell? (Ad b (off+2))=some (.slice o0.a.ag o0.i.dw.length o0.a.cg)/\V.cell? (Ad b (off+3))=some (.slice o0.a.ay o0.i.syms.length o0.a.cy)/\V.cell? (Ad b (off+4))=some (.slice o0.a.ar o0.i.fV.length o0.a.cr)/\V.cell? (Ad b (off+5))=some (I o0.i.entry)/\V.cell? (Ad b (off+6))=some (I o0.base)/\V.cell? (Ad w.heap.size 5)=some (I p.i.entry)):=fun V hb=>⟨(M.br hb Fe).trans d0,(M.br hb Fe).trans d1,(M.br hb Fe).trans d2,(M.br hb Fe).trans d3,(M.br hb Fe).trans d4,(M.br hb Fe).trans d5,(M.br hb Fe).trans d6,B.cell (B.below BM5.o hb (B.isLt BM5.o)) 5 rfl⟩
         obtain⟨AD,hAD⟩:=ex (LM.wV o0 p.i.entry);rw[<- hAD] at HAD;have ago:=ai hAD;clear ho0 hAD d0 d1 d2 d3 d4 d5 d6 dim Vg PA WO aaa;have je:=ai (Below.refl w5.heap.size w5).drew;have gG:=ai (HS.o _ je.o)
         go_region_held3 (fun V=>V.cell? (Ad b off)=some (.string o0.i.name)/\V.cell? (Ad b (off+1))=some (.slice o0.a.an o0.i.needs.length o0.a.cn)/\V.cell? (Ad b (off+2))=some (.slice o0.a.ag o0.i.dw.length o0.a.cg)/\V.cell? (Ad b (off+3))=some (.slice o0.a.ay o0.i.syms.length o0.a.cy)/\V.cell? (Ad b (off+4))=some (.slice o0.a.ar o0.i.fV.length o0.a.cr)/\V.cell? (Ad b (off+5))=some (I o0.i.entry)/\V.cell? (Ad b (off+6))=some (I o0.base)/\V.cell? (Ad w.heap.size 5)=some (I p.i.entry)) (first | exact HS7.o | exact Dv.o | exact gG.o | exact Xr.o _ _ _)
          (first
           | (go_at_call 136;refine(Yj.o _ je.o).mono ?_;rintro e w6 ⟨v8,rfl,Gf,hb⟩;obtain⟨ar,cr,hrv,hrg⟩:=uN Gf;subst hrv;have Al:=ai Gf;have HK6:=ai (je.o.trans (hb.mono je.o.size));have Dv:=ai (HS.o _ HK6.o);clear hb Gf hrg)
           | (go_at_call 137;refine(HAD.o _).mono ?_;rintro e w7 ⟨rfl,hb⟩;have YL:=ai (HK6.o.trans (hb.mono HK6.o.size));have HS7:=ai (HS.o _ YL.o);have afb:=ai (qF Al.o hb);have YT:=ai (B.below Sq.o YL.o (B.isLt Sq.o));have s0:=B.cell YT.o 0 rfl;have s1:=B.cell YT.o 1 rfl;have s2:=B.cell YT.o 2 rfl;have sf:=B.free YT.o;have sl:=B.isLt YT.o;have Xr:Hid (∀u0 u1 u2,(fun V:World=>V.cell? (Ad b off)=some (.string o0.i.name)/\V.cell? (Ad b (off+1))=some (.slice o0.a.an o0.i.needs.length o0.a.cn)/\V.cell? (Ad b (off+2))=some (.slice o0.a.ag o0.i.dw.length o0.a.cg)/\V.cell? (Ad b (off+3))=some (.slice o0.a.ay o0.i.syms.length o0.a.cy)/\V.cell? (Ad b (off+4))=some (.slice o0.a.ar o0.i.fV.length o0.a.cr)/\V.cell? (Ad b (off+5))=some (I o0.i.entry)/\V.cell? (Ad b (off+6))=some (I o0.base)/\V.cell? (Ad w.heap.size 5)=some (I p.i.entry)) (((w7.setCell (Ad (w.heap.size+1) 0) u0).setCell (Ad (w.heap.size+1) 1) u1).setCell (Ad (w.heap.size+1) 2) u2)):=(fun u0 u1 u2=>by have h:=HS7.o;have hw:w.heap.size≠w.heap.size+1:=(by omega);simp only[kS _ _ _ _ _ _ _ hne,kS _ _ _ _ _ _ _ hw];exact h);clear hb))
         have afY:=ai (L9 YT.o (HHH.o.below YL.o) (.slice ar (LM.oa Br).length cr) (.slice ah hs.length ch) (I AD));have aa6:=ai (N4 (rb:=w.heap.size+1) afb.o (Nat.lt_of_lt_of_le (B.isLt Sq.o) je.o.size) (.slice ar (LM.oa Br).length cr) (.slice ah hs.length ch) (I AD));have A6:=ai ((((pM.o.trans (YL.o.mono pM.o.size)).setCell (p:=(Ad (w.heap.size+1) 0)) (by simp) (.slice ar (LM.oa Br).length cr)).setCell (p:=(Ad (w.heap.size+1) 1)) (by simp) (.slice ah hs.length ch)).setCell (p:=(Ad (w.heap.size+1) 2)) (by simp) (I AD));go_wp2;refine bodyPost_ret (v:=.tuple #[.agg #[.slice ar (LM.oa Br).length cr,.slice ah hs.length ch,I AD],I 0]) (by simp[results,Tryz.results93,go_sem,s0,s1,s2]) rfl ⟨A6.o,?_⟩;rw[<- QQ.o,HE.o,if_pos rfl];refine⟨ix,E,.slice ar (LM.oa Br).length cr,hs,ah,ch,HEG.o,by rw[<- HOB.o];exact HES.o,HME.o,?_,?_,afY.o,hcc⟩
         · rw[Yf.o,<- HOB.o,<- HO0.o,<- ago.o]
         · rw[<- HOB.o];exact aa6.o.mono (Nat.le_trans pM.o.size je.o.size)
   · rw[if_neg hby] at hout;subst hout;have HE:Hid (LM.il all=LM.mX all):=by
      show _=_;unfold LM.il;rw[if_neg (by omega),if_neg hby]
     obtain⟨er,her⟩:=ex (LM.mX all);rw[<- her] at HE hby;rw[<- her];have hbz:(er==0)=false:=by simpa using hby
     have r0:=B.cell VN.o 0 rfl;have r1:=B.cell VN.o 1 rfl;have r2:=B.cell VN.o 2 rfl;have rf:=B.free VN.o;have rl:=B.isLt VN.o;clear her;go_wp2;exact bodyPost_ret (v:=.tuple #[.agg #[Nl,Nl,I 0],I er]) (by simp[results,Tryz.results93,go_sem,r0,r1,r2]) rfl ⟨((cM.o.setCell (by simp) _).setCell (by simp) _).setCell (by simp) _,by rw[<- QQ.o,HE.o,if_neg hby]⟩
end LW
namespace LW
open Go.RowKit
open W (ai)
theorem N2 (l:List LM.Ob) (ao:Option Addr) (cap:Nat) (o:LM.Ob) (w:World) (hr:o.i.fV=[]):Calls Tryz.prog 161 #[.agg (LM.lV o),.slice ao l.length cap] w (Cr (LM.yH l o) w):=by
 have e:LM.yH l o=some []:=by unfold LM.yH;rw[hr];rfl
 rw[e];unfold LM.lV;rw[hr];obtain⟨⟨nm,ns,gs,ys,rs,en⟩,⟨an,cn,ag,cg,ay,cy,ar,cr⟩,bs⟩:=o;simp only at hr ⊢;clear hr e;obtain⟨n1,h1⟩:∃n,n=ns.length:=⟨_,rfl⟩;obtain⟨n2,h2⟩:∃n,n=gs.length:=⟨_,rfl⟩;obtain⟨n3,h3⟩:∃n,n=ys.length:=⟨_,rfl⟩;rw[<- h1,<- h2,<- h3];clear h1 h2 h3;have HB:=ai ((Below.refl w.heap.size w).alloc (Nat.le_refl _) (.cells #[.string nm,.slice an n1 cn,.slice ag n2 cg,.slice ay n3 cy,.slice ar 0 cr,I en,I bs] 195));have bB:Hid (∀w',Below w.heap.size w w'->Cr (some []) w (.returned (.tuple #[Nl,.bool true])) w'):=fun w' hb=>⟨hb,_,rfl,World.ownsRow_nil _ _ _ _⟩
 obtain⟨P,hP⟩:=ex (Cr (some []) w);rw[<- hP] at bB ⊢;clear hP;simp only[List.length_nil];go_enter Tryz.func161,Tryz.ntmps161;go_wp2;go_loopw [6,17] (fun sv iv wr=>sv=Nl/\iv=I 0/\Below w.heap.size w wr) (fun _ _ _=>0)
 case atStart=>exact⟨rfl,rfl,HB.o⟩
 case round =>
  obtain⟨rfl,rfl,hb⟩:=hrel;have cM:=ai hb;clear hb;go_wp2;exact bB.o _ cM.o
theorem TI (p:LM.Li) (m:Nat) (w:World) (hn:p.i.needs=[]) (him:M.nX w p.a p.i):Calls Tryz.prog 133 #[LM.E1 p,.map (some m)] w (Uo [p] (some [0]) w):=by
 have bB:Hid (∀(w':World) g,w'.heap[g]?=some (.cells #[.string p.i.name,.slice p.a.an p.i.needs.length p.a.cn,.slice p.a.ag p.i.dw.length p.a.cg,.slice p.a.ay p.i.syms.length p.a.cy,.slice p.a.ar p.i.fV.length p.a.cr,I p.i.entry,I 1] 195 (0,0))->Below w.heap.size w w'->Uo [p] (some [0]) w (.returned (.tuple #[.slice (some (Ad g 0)) 1 1,.bool true])) w'):=fun w' g h1 h2=>by
  refine⟨h2,⟨by decide,by decide,fun j hj=>?_⟩,some (Ad g 0),1,rfl,fun _=>⟨g,0,rfl,B.isLt h1,fun k hk=>?_⟩⟩
  · simp at hj;subst hj;exact Nat.zero_lt_one
  · obtain rfl:k=0:=by have:k<1:=hk;omega
    exact⟨⟨B.cell h1 0 rfl,B.cell h1 1 rfl,B.cell h1 2 rfl,B.cell h1 3 rfl,B.cell h1 4 rfl,B.cell h1 5 rfl,B.cell h1 6 rfl⟩,him.below h2⟩
 obtain⟨P,hP⟩:=ex (Uo [p] (some [0]) w);rw[<- hP] at bB ⊢;clear hP him;unfold LM.E1 M.fK;rw[hn] at bB ⊢;obtain⟨⟨nm,ns,gs,ys,rs,en⟩,⟨an,cn,ag,cg,ay,cy,ar,cr⟩⟩:=p;simp only at bB ⊢;clear hn;obtain⟨n2,h2⟩:∃n,n=gs.length:=⟨_,rfl⟩;obtain⟨n3,h3⟩:∃n,n=ys.length:=⟨_,rfl⟩;obtain⟨n4,h4⟩:∃n,n=rs.length:=⟨_,rfl⟩;rw[<- h2,<- h3,<- h4] at bB ⊢;simp only[List.length_nil] at bB ⊢;clear h2 h3 h4;have HB:=ai (((Below.refl w.heap.size w).alloc (Nat.le_refl _) (.cells #[.string nm,.slice an 0 cn,.slice ag n2 cg,.slice ay n3 cy,.slice ar n4 cr,I en] 151)).alloc (by simp) (.cells #[.string nm,.slice an 0 cn,.slice ag n2 cg,.slice ay n3 cy,.slice ar n4 cr,I en,I 1] 195));have HX:Hid (((w.alloc (.cells #[.string nm,.slice an 0 cn,.slice ag n2 cg,.slice ay n3 cy,.slice ar n4 cr,I en] 151)).alloc (.cells #[.string nm,.slice an 0 cn,.slice ag n2 cg,.slice ay n3 cy,.slice ar n4 cr,I en,I 1] 195)).heap[w.heap.size+1]?=some (.cells #[.string nm,.slice an 0 cn,.slice ag n2 cg,.slice ay n3 cy,.slice ar n4 cr,I en,I 1] 195 (0,0))):=by
  have:=B.new (w.alloc (.cells #[.string nm,.slice an 0 cn,.slice ag n2 cg,.slice ay n3 cy,.slice ar n4 cr,I en] 151)) #[.string nm,.slice an 0 cn,.slice ag n2 cg,.slice ay n3 cy,.slice ar n4 cr,I en,I 1] 195;rw[World.size_alloc] at this;exact this
 go_enter Tryz.func133,Tryz.ntmps133;go_wp2;obtain⟨g,hg⟩:=ex (w.heap.size+1);rw[<- hg] at HX ⊢;clear hg;go_loopw [6,7] (fun sv iv wr=>sv=.slice (some (Ad g 0)) 1 1/\(∃k:Nat,k<=1/\iv=I (k:Int))/\wr.heap[g]?=some (.cells #[.string nm,.slice an 0 cn,.slice ag n2 cg,.slice ay n3 cy,.slice ar n4 cr,I en,I 1] 195 (0,0))/\Below w.heap.size w wr) (fun _ iv _=>1-(intOf iv).toNat)
 case atStart=>exact⟨rfl,⟨0,by omega,rfl⟩,HX.o,HB.o⟩
 case round =>
  obtain⟨rfl,⟨k,hk,rfl⟩,hx,hb⟩:=hrel;have Gm:=ai hx;have cM:=ai hb;have x1:wr.cell? (Ad g 1)=some (.slice an 0 cn):=B.cell hx 1 rfl;clear hx hb HX HB;by_cases h0:k=0
  · subst h0;go_wp2;clear x1;go_loopw [6,28] (fun sv iv wi=>sv=.slice (some (Ad g 0)) 1 1/\iv=I 0/\wi.heap[g]?=some (.cells #[.string nm,.slice an 0 cn,.slice ag n2 cg,.slice ay n3 cy,.slice ar n4 cr,I en,I 1] 195 (0,0))/\Below w.heap.size w wi) (fun _ _ _=>0)
    case atStart=>exact⟨rfl,rfl,Gm.o,cM.o⟩
    case round =>
     obtain⟨rfl,rfl,hx,hb⟩:=hrel;have xC:=ai hx;have ed:=ai hb;clear hx hb Gm cM;go_wp2;go_roundw
     case rel=>exact⟨rfl,⟨1,by omega,by first | rfl | go_num⟩,xC.o,ed.o⟩
     case measure=>simp[intOf]
  · obtain rfl:k=1:=by omega
    go_wp2;exact bB.o _ _ Gm.o cM.o
end LW
namespace KG
open Go.RowKit GK
open FW (ai aD)
def Qw (w:World) (e:Ending) (w':World):Prop:=∃ar cr ah ch a1 a2 a3 c1 c2 c3,e=.returned (.agg #[.slice ar 2 cr,.slice ah 3 ch,I 16])/\AW.Has w' (.slice ar 2 cr) Gz/\LM.jb w' ah (pI a1 a2 a3 c1 c2 c3)/\3<=ch/\Below w.heap.size w w'
theorem V8 {a:M.At} {w w':World} {e:Ending} (h:LW.aaN [⟨uq,a⟩] w e w'):∃ar cr ah ch a1 a2 a3 c1 c2 c3,e=.returned (.tuple #[.agg #[.slice ar 2 cr,.slice ah 3 ch,I 16],I 0])/\AW.Own w.heap.size w' (.slice ar 2 cr) Gz/\LM.jb w' ah (pI a1 a2 a3 c1 c2 c3)/\3<=ch/\Below w.heap.size w w':=by
 obtain⟨hb,h2⟩:=h;rw[if_pos (VV a)] at h2;obtain⟨ix,E,r,hs,ao,cap,h3,h4,h5,h6,h7,h8,h9⟩:=h2;rw[NB] at h3;injection h3 with h3;subst h3;rw[VT] at h4 h6 h7;rw[Kz] at h4;injection h4 with h4;subst h4;rw[NG] at h7;rw[ND] at h6;obtain⟨a1,a2,a3,c1,c2,c3,rfl⟩:=U3 h5;obtain⟨ar,cr,hr,_⟩:=LW.uN h7;subst hr;exact⟨ar,cr,ao,cap,a1,a2,a3,c1,c2,c3,h6,h7,h8,h9,hb⟩
theorem PC {V U:World} {g:Nat} {x y:Value} {n:Int} {ah:Option Addr} {a1 a2 a3:Option Addr} {c1 c2 c3:Nat} (h:LM.jb V ah (pI a1 a2 a3 c1 c2 c3)) (hg:V.heap[g]?=some (.cells #[x,y,I n] 30 (0,0))) (hx:∀k i,x≠.int k i) (hy:∀k i,y≠.int k i) (hk:∀b j v,b≠g->V.cell? (Ad b j)=some v->U.cell? (Ad b j)=some v) (hs:V.heap.size<=U.heap.size):LM.jb U ah (pI a1 a2 a3 c1 c2 c3):=fun hl=>by
 obtain⟨b,off,rfl,hb,bN⟩:=h hl;have hne:b≠g:=fun e=>by
  subst e;obtain⟨d0,d1,_,_⟩:=bN 0 (by unfold pI;simp);rw[Nat.zero_mul,Nat.add_zero] at d0 d1
  match off,d0,d1 with
  | 0,d0,_ =>
   rw[B.cell hg 0 (v:=x) rfl] at d0;injection d0 with d0;exact hx _ _ d0
  | 1,d0,_ =>
   rw[B.cell hg 1 (v:=y) rfl] at d0;injection d0 with d0;exact hy _ _ d0
  | 2,_,d1 =>
   have:V.cell? (Ad b 3)=none:=by simp[World.cell?,hg]
   rw[this] at d1;cases d1
  | k+3,d0,_ =>
   have:V.cell? (Ad b (k+3))=none:=by simp[World.cell?,hg]
   rw[this] at d0;cases d0
 refine⟨b,off,rfl,by omega,fun i hi=>?_⟩;obtain⟨d0,d1,d2,_⟩:=bN i hi;refine⟨hk _ _ _ hne d0,hk _ _ _ hne d1,hk _ _ _ hne d2,fun h0=>?_⟩;exfalso
 match i,hi,h0 with
 | 0,_,h0=>exact Nat.not_lt_zero _ h0
 | 1,_,h0=>exact Nat.not_lt_zero _ h0
 | 2,_,h0=>exact Nat.not_lt_zero _ h0
 | i+3,h,_=>exact absurd h (by unfold pI;simp)
theorem Kv (w:World):Calls Tryz.prog 50 #[] w (Qw w):=by
 have bB:Hid (∀ar cr ah ch a1 a2 a3 c1 c2 c3 (w':World),AW.Has w' (.slice ar 2 cr) Gz->LM.jb w' ah (pI a1 a2 a3 c1 c2 c3)->3<=ch->Below w.heap.size w w'->Qw w (.returned (.agg #[.slice ar 2 cr,.slice ah 3 ch,I 16])) w'):=fun ar cr ah ch a1 a2 a3 c1 c2 c3 w' h1 h2 h3 h4=>⟨ar,cr,ah,ch,a1,a2,a3,c1,c2,c3,rfl,h1,h2,h3,h4⟩
 obtain⟨P,hP⟩:=ex (Qw w);rw[<- hP] at bB ⊢;clear hP;have ry:Hid (∀V,Calls Tryz.prog 94 #[.agg #[I 12,I 0,I 0,I 0,I 0]] V fun e w'=>e=.returned (.string LP)/\Below V.heap.size V w'):=fun V=>by
  have:=PW.LR ⟨12,0,0,0,0⟩ V;rw[LO] at this;exact this
 have UH:Hid (∀wb V,V.heap[wb]?=some (.cells #[I 0,I 1,.string LP,.bool false,.bool true,I 1,I 2,.string ⟨#[97,98,99]⟩,.bool true,.bool false] 145 (0,0))->Calls Tryz.prog 93 #[.agg #[.string ⟨#[116]⟩,Nl,.slice (some (Ad wb 0)) 2 2,Nl,Nl,I 0],Nl] V fun e w'=>∃ar cr ah ch a1 a2 a3 c1 c2 c3,e=.returned (.tuple #[.agg #[.slice ar 2 cr,.slice ah 3 ch,I 16],I 0])/\AW.Own V.heap.size w' (.slice ar 2 cr) Gz/\LM.jb w' ah (pI a1 a2 a3 c1 c2 c3)/\3<=ch/\Below V.heap.size V w'):=fun wb V hV=>by
  have him:M.nX V ⟨none,0,some (Ad wb 0),2,none,0,none,0⟩ uq:=⟨fun h=>absurd h (Nat.not_lt_zero _),fun _=>⟨wb,0,rfl,B.isLt hV,fun i hi=>by
   have:i<2:=hi;rcases(show i=0∨i=1 by omega) with rfl | rfl
   · exact⟨B.cell hV 0 rfl,B.cell hV 1 rfl,B.cell hV 2 rfl,B.cell hV 3 rfl,B.cell hV 4 rfl⟩
   · exact⟨B.cell hV 5 rfl,B.cell hV 6 rfl,B.cell hV 7 rfl,B.cell hV 8 rfl,B.cell hV 9 rfl⟩⟩,fun h=>absurd h (Nat.not_lt_zero _),fun h=>absurd h (Nat.not_lt_zero _)⟩
  refine(LW.Ls ⟨uq,⟨none,0,some (Ad wb 0),2,none,0,none,0⟩⟩ [] none 0 V him (fun h=>absurd h (by simp)) NC ⟨by unfold M.bD;decide,fun k hk=>absurd hk (by simp)⟩ (fun k hk U hU=>?_) (fun m D U hG=>?_) (fun ix ao cap k U hk=>?_)).mono fun e w' h=>V8 h
  · obtain rfl:k=0:=by
     have:k<1:=hk;omega
    refine(W.Xe ⟨#[116]⟩ [⟨0,1,LP,false,true⟩,⟨1,2,aaM,true,false⟩] 0 none (some (Ad wb 0)) none none 0 2 0 0 U (him.below hU) NC (by kernel_rfl) (by kernel_rfl) (by kernel_rfl) (by kernel_rfl) (by kernel_rfl)).mono ?_;rintro e w' ⟨rfl,hb⟩;exact⟨by rw[show M.kq (LM.cO [⟨uq,⟨none,0,some (Ad wb 0),2,none,0,none,0⟩⟩] 0).i=0 by kernel_rfl],hb⟩
  · rw[NB];exact LW.TI _ m U rfl (hG.im 0 hG.pos)
  · refine LW.N2 _ ao cap _ U ?_;rw[LM.eU] at hk;rw[(LM.mJ _ ix 1 k hk).1];cases ix.getD k 0 <;> rfl
 obtain⟨D,hD⟩:=ex LP;rw[<- hD] at UH ry;clear hD;have bR:=ai ((Below.refl w.heap.size w).alloc (Nat.le_refl _) (.cells #[Nl,Nl,I 0] 30));have X0:=ai (B.new w #[Nl,Nl,I 0] 30);obtain⟨WA,di⟩:=ex (w.alloc (.cells #[Nl,Nl,I 0] 30));rw[<- di] at bR X0;have eZ:=ai di;have hxl:=B.isLt X0.o;clear di;go_enter Tryz.func50,Tryz.ntmps50;go_upto_region 1 with fail;rw[<- eZ.o];go_upto_region 2 with(first
  | (go_at_call 94;refine(ry.o _).mono ?_;rintro e w1 ⟨rfl,hb1⟩;have bE:=ai (bR.o.trans (hb1.mono bR.o.size));have X1:=ai (B.below X0.o hb1 (B.isLt X0.o));clear hb1)
  | (go_at_call 93;refine(UH.o _ _ (B.new w1 _ _)).mono ?_;rintro e w2 ⟨ar,cr,ah,ch,a1,a2,a3,c1,c2,c3,rfl,h1,h2,h3,h4⟩;have HO:=ai h1;have HH:=ai h2;have cM:=ai h4;clear h1 h2 h4))
 have Gm:=ai (B.below (B.alloc X1.o (.cells #[I 0,I 1,.string D,.bool false,.bool true,I 1,I 2,.string ⟨#[97,98,99]⟩,.bool true,.bool false] 145)) cM.o (by have:=B.isLt X1.o;simp;omega));have HBS:=ai (bE.o.alloc bE.o.size (.cells #[I 0,I 1,.string D,.bool false,.bool true,I 1,I 2,.string ⟨#[97,98,99]⟩,.bool true,.bool false] 145));have ed:=ai (HBS.o.trans (cM.o.mono HBS.o.size));have xC:=ai (B.alloc Gm.o (.cells #[.slice ar 2 cr,.slice ah 3 ch,I 16] 30));have HL3:=ai (B.new w2 #[.slice ar 2 cr,.slice ah 3 ch,I 16] 30);have mC:Hid (GK.Kp (fun b=>b=w.heap.size) w2 (w2.alloc (.cells #[.slice ar 2 cr,.slice ah 3 ch,I 16] 30))):=GK.Kp.alloc _ _ _;have HOW:Hid (∀b,KS.blk (.slice ar 2 cr) b->b≠w.heap.size):=(show ∀b,KS.blk (.slice ar 2 cr) b->b≠w.heap.size from fun b hb e=>by have:=(HO.o.lt b hb).1;rw[World.size_alloc] at this;have:=B.isLt X1.o;omega);obtain⟨W4,PF⟩:=ex (w2.alloc (.cells #[.slice ar 2 cr,.slice ah 3 ch,I 16] 30));obtain⟨lb,hlb⟩:=ex w2.heap.size;rw[<- PF] at xC HL3 mC ⊢;rw[<- hlb] at HL3 ⊢;clear PF hlb hxl;obtain⟨l0,l1,l2⟩:=B.c3 HL3.o;obtain⟨y0,y1,y2⟩:=B.c3 xC.o;have f0:=B.free xC.o 0;have f1:=B.free xC.o 1;have f2:=B.free xC.o 2;have HKU:=ai (mC.o.trans (GK.nC (D:=fun b=>b=w.heap.size) _ w.heap.size 0 1 2 (.slice ar 2 cr) (.slice ah 3 ch) (I 16) rfl) (fun _ _ g=>g));have sY:=ai (B.set (B.set (B.set xC.o 0 (.slice ar 2 cr)) 1 (.slice ah 3 ch)) 2 (I 16));go_wp2;obtain⟨y0,y1,y2⟩:=B.c3 sY.o;refine bodyPost_ret (v:=.agg #[.slice ar 2 cr,.slice ah 3 ch,I 16]) (by simp[results,Tryz.results50,go_sem,y0,y1,y2]) rfl (bB.o _ _ _ _ a1 a2 a3 c1 c2 c3 _ ?_ ?_ h3 ?_)
 · exact AW.Own.has (HKU.o.row HO.o (fun b hb e=>HOW.o b hb e))
 · exact PC HH.o Gm.o (fun _ _ h=>nomatch h) (fun _ _ h=>nomatch h) (fun b j v hne hc=>HKU.o.cell hc hne) HKU.o.size
 · exact GK.Kp.below ed.o HKU.o ed.o.size (fun b hb=>by rw[hb];exact Nat.le_refl _)
end KG
namespace KY
open Go.RowKit KO
open KW (fh cK aI eB)
theorem Cl:km:=fun k a w hK hs=>EW k a w hK hs
end KY
namespace KG
open Go.RowKit GK KO
open FW (ai aD)
open KW (fh cK aI eB)
def Th (V:World) (K:List LM.Sh->KM.Kn) (a:fh):Prop:=∃b1 b2 b3 d1 d2 d3,cK V a (K (pI b1 b2 b3 d1 d2 d3))
theorem CU {w:World} {K:List LM.Sh->KM.Kn} {H:List LM.Sh} {vs:List Value} {e:Ending} {w':World} (hH:H.map LM.plain=Yo) (hS:∀H,(K H).ak=H) (hW:∀H H',KM.aT (K H) H'=K H') (h:KZ.b6 w (K H) vs e w'):∃a b1 b2 b3 d1 d2 d3,e=.returned (.tuple (Value.agg (aI a (K (pI b1 b2 b3 d1 d2 d3)))::vs).toArray)/\(∀U,Kp (fun b=>b<w.heap.size) w' U->Th U K a)/\Below w.heap.size w w':=by
 obtain⟨hs,a,h1,h2,h3,h4⟩:=N8 h;rw[hS] at h1;obtain⟨b1,b2,b3,d1,d2,d3,rfl⟩:=U3 (Eq.trans h1 hH);rw[hW] at h2 h3;exact⟨a,b1,b2,b3,d1,d2,d3,h2,fun U hU=>⟨b1,b2,b3,d1,d2,d3,h3 U hU⟩,h4⟩
theorem tu (b1 b2 b3:Option Addr) (d1 d2 d3:Nat):(pI b1 b2 b3 d1 d2 d3).map LM.plain=Yo:=rfl
theorem VU {V:World} {ar ah:Option Addr} {cr ch:Nat} {a1 a2 a3:Option Addr} {c1 c2 c3:Nat} (h1:AW.Has V (.slice ar 2 cr) Gz) (h2:LM.jb V ah (pI a1 a2 a3 c1 c2 c3)) (h3:3<=ch):Calls Tryz.prog 18 #[.agg #[.slice ar 2 cr,.slice ah 3 ch,I 16],I 3,I 8] V fun e w'=>∃a,e=.returned (.tuple #[.agg #[.slice a.aS 3 a.cS,.slice a.aF 3 a.cF,.slice a.aL 8 a.cL,.slice a.aP 1 a.cP,I 0],I 0])/\(∀U,Kp (fun b=>b<V.heap.size) w' U->Th U JH a)/\Below V.heap.size V w':=by
 refine(KZ.S6 KY.Cl Gz (pI a1 a2 a3 c1 c2 c3) 16 3 8 (.slice ar 2 cr) ah ch V h1 SD h2 (SC a1 a2 a3 c1 c2 c3) h3 (by unfold M.gu;decide)).mono fun e w' h=>?_
 have e0:KZ.He Gz (pI a1 a2 a3 c1 c2 c3) 16 3 8=(JH (pI a1 a2 a3 c1 c2 c3),0):=by kernel_rfl
 rw[e0] at h;obtain⟨a,b1,b2,b3,d1,d2,d3,g1,g2,g3⟩:=CU (tu _ _ _ _ _ _) (fun _=>rfl) (fun _ _=>rfl) h;exact⟨a,g1,g2,g3⟩
theorem Ky {V:World} {a:fh} (h:Th V JH a):Calls Tryz.prog 28 #[.agg #[.slice a.aS 3 a.cS,.slice a.aF 3 a.cF,.slice a.aL 8 a.cL,.slice a.aP 1 a.cP,I 0],I 0,I 46,.string ⟨#[119,120,121,122]⟩] V fun e w'=>∃a,e=.returned (.tuple #[.agg #[.slice a.aS 3 a.cS,.slice a.aF 3 a.cF,.slice a.aL 8 a.cL,.slice a.aP 1 a.cP,I 0],.agg #[I 0,I 0],I 0])/\(∀U,Kp (fun b=>b<V.heap.size) w' U->Th U JG a)/\Below V.heap.size V w':=by
 obtain⟨b1,b2,b3,d1,d2,d3,hk⟩:=h;refine(KZ.Bb KY.Cl _ a 0 46 wxD V hk (Tk b1 b2 b3 d1 d2 d3) (by unfold M.gu;decide) (by unfold M.gu;decide)).mono fun e w' h=>?_
 rw[LG] at h;obtain⟨a,b1,b2,b3,d1,d2,d3,g1,g2,g3⟩:=CU (tu _ _ _ _ _ _) (fun _=>rfl) (fun _ _=>rfl) h;exact⟨a,g1,g2,g3⟩
theorem Sz {V:World} {a:fh} (h:Th V JG a):Calls Tryz.prog 39 #[.agg #[.slice a.aS 3 a.cS,.slice a.aF 3 a.cF,.slice a.aL 8 a.cL,.slice a.aP 1 a.cP,I 0],I 0] V fun e w'=>∃a,e=.returned (.tuple #[.agg #[.slice a.aS 3 a.cS,.slice a.aF 3 a.cF,.slice a.aL 8 a.cL,.slice a.aP 2 a.cP,I 0],I 1,I 0])/\(∀U,Kp (fun b=>b<V.heap.size) w' U->Th U MQ a)/\Below V.heap.size V w':=by
 obtain⟨b1,b2,b3,d1,d2,d3,hk⟩:=h;refine(KZ.Fi KY.Cl _ a 0 V hk (Tj b1 b2 b3 d1 d2 d3) (by unfold M.gu;decide)).mono fun e w' h=>?_
 have e0:KZ.fe (JG (pI b1 b2 b3 d1 d2 d3)) 0=(MQ (pI b1 b2 b3 d1 d2 d3),1,0):=by kernel_rfl
 rw[e0] at h;obtain⟨a,b1,b2,b3,d1,d2,d3,g1,g2,g3⟩:=CU (tu _ _ _ _ _ _) (fun _=>rfl) (fun _ _=>rfl) h;exact⟨a,g1,g2,g3⟩
theorem Kw {V:World} {a:fh} (h:Th V MQ a):Calls Tryz.prog 28 #[.agg #[.slice a.aS 3 a.cS,.slice a.aF 3 a.cF,.slice a.aL 8 a.cL,.slice a.aP 2 a.cP,I 0],I 1,I 32,.string ⟨#[113]⟩] V fun e w'=>∃a,e=.returned (.tuple #[.agg #[.slice a.aS 3 a.cS,.slice a.aF 3 a.cF,.slice a.aL 8 a.cL,.slice a.aP 2 a.cP,I 0],.agg #[I 0,I 0],I 0])/\(∀U,Kp (fun b=>b<V.heap.size) w' U->Th U JF a)/\Below V.heap.size V w':=by
 obtain⟨b1,b2,b3,d1,d2,d3,hk⟩:=h;refine(KZ.Bb KY.Cl _ a 1 32 qD V hk (Ti b1 b2 b3 d1 d2 d3) (by unfold M.gu;decide) (by unfold M.gu;decide)).mono fun e w' h=>?_
 rw[Lz] at h;obtain⟨a,b1,b2,b3,d1,d2,d3,g1,g2,g3⟩:=CU (tu _ _ _ _ _ _) (fun _=>rfl) (fun _ _=>rfl) h;exact⟨a,g1,g2,g3⟩
theorem Sw {V:World} {a:fh} (h:Th V JF a):Calls Tryz.prog 25 #[.agg #[.slice a.aS 3 a.cS,.slice a.aF 3 a.cF,.slice a.aL 8 a.cL,.slice a.aP 2 a.cP,I 0],I 0,I 32,I 2,I 0] V fun e w'=>∃(a:fh) (hd:Int) (n1 n2 n3 n4:Nat),e=.returned (.tuple #[.agg #[.slice a.aS n1 a.cS,.slice a.aF n2 a.cF,.slice a.aL n3 a.cL,.slice a.aP n4 a.cP,I hd],.string ⟨#[97,98]⟩,.agg #[I 0,I 0],I 0])/\Below V.heap.size V w':=by
 obtain⟨b1,b2,b3,d1,d2,d3,hk⟩:=h;refine(KZ.OC KY.Cl _ a 0 32 2 0 V hk (JE b1 b2 b3 d1 d2 d3) (by unfold M.gu;decide) (by unfold M.gu;decide)).mono fun e w' h=>?_
 rw[OP] at h;obtain⟨hs,a,h1,h2,h3,h4⟩:=N8 h;exact⟨a,_,_,_,_,_,h2,h4⟩
theorem Sv {V:World} {a:fh} (h:Th V JF a):Calls Tryz.prog 30 #[.agg #[.slice a.aS 3 a.cS,.slice a.aF 3 a.cF,.slice a.aL 8 a.cL,.slice a.aP 2 a.cP,I 0],I 1,I 2] V fun e w'=>e=.returned (.tuple #[.string Yp,I 0])/\Below V.heap.size V w':=by
 obtain⟨b1,b2,b3,d1,d2,d3,hk⟩:=h;have:=KW.N1 _ a 1 2 V hk (JE b1 b2 b3 d1 d2 d3) (by unfold M.gu;decide);rw[OO] at this;exact this
theorem xY {V U:World} {K:List LM.Sh->KM.Kn} {a:fh} (h:Th V K a) (hb:Below V.heap.size V U):Th U K a:=by
 obtain⟨b1,b2,b3,d1,d2,d3,hk⟩:=h;exact⟨b1,b2,b3,d1,d2,d3,hk.below hb⟩
theorem OG {w W w3:World} {kb n:Nat} {b:fh} {c0 c1 c2 c3 c4:Value} {K:List LM.Sh->KM.Kn} (hB:Below w.heap.size w W) (ZM:w.heap.size<=kb) (hkb:kb<W.heap.size) (hb:Below W.heap.size W w3) (hk:w3.heap[kb]?=some (.cells #[c0,c1,c2,c3,c4] 27 (0,0))) (ht:∀U,Kp (fun x=>x<W.heap.size) w3 U->Th U K b) {V:World} (hV:V=(((((w3.setCell (Ad kb 0) (.slice b.aS 3 b.cS)).setCell (Ad kb 1) (.slice b.aF 3 b.cF)).setCell (Ad kb 2) (.slice b.aL 8 b.cL)).setCell (Ad kb 3) (.slice b.aP n b.cP)).setCell (Ad kb 4) (I 0))) :
  V.heap[kb]?=some (.cells #[.slice b.aS 3 b.cS,.slice b.aF 3 b.cF,.slice b.aL 8 b.cL,.slice b.aP n b.cP,I 0] 27 (0,0))/\Th V K b/\Below w.heap.size w V/\Kp (fun x=>x=kb) w3 V:=by
 have hk2:V.heap[kb]?=some (.cells #[.slice b.aS 3 b.cS,.slice b.aF 3 b.cF,.slice b.aL 8 b.cL,.slice b.aP n b.cP,I 0] 27 (0,0)):=by rw[hV];exact B.set (B.set (B.set (B.set (B.set hk 0 _) 1 _) 2 _) 3 _) 4 _
 have kp:Kp (fun x=>x=kb) w3 V:=by
  rw[hV];have k:∀(A:World) (j:Nat) (v:Value),Kp (fun x=>x=kb) A (A.setCell (Ad kb j) v):=fun A j v=>Kp.set _ A (Ad kb j) v rfl
  exact((((k _ _ _).trans (k _ _ _) (fun _ _ g=>g)).trans (k _ _ _) (fun _ _ g=>g)).trans (k _ _ _) (fun _ _ g=>g)).trans (k _ _ _) (fun _ _ g=>g)
 have ek:Below w.heap.size w w3:=hB.trans (hb.mono hB.size);exact⟨hk2,ht V (kp.mono (fun x _ e=>by rw[e];exact hkb)),Kp.below ek kp ek.size (fun x e=>by rw[e];exact ZM),kp⟩
theorem Mx (w:World):Calls Tryz.prog 15 #[] w fun e w'=>e=.returned (.bool true)/\Below w.heap.size w w':=by
 go_enter Tryz.func15,Tryz.ntmps15;go_upto_region 2 with(first
  | (go_at_call 50;refine(Kv _).mono ?_;rintro e w1 ⟨ar,cr,ah,ch,a1,a2,a3,c1,c2,c3,rfl,h1,h2,h3,h4⟩;have bE:=ai h4;have HN:=ai (VU h1 h2 h3);clear h1 h2 h3 h4)
  | (go_at_call 18;refine HN.o.mono ?_;rintro e w2 ⟨a,rfl,O6,hb⟩;have VC:=ai O6;have lR:=ai hb;have cM:=ai (bE.o.trans (hb.mono bE.o.size));clear O6 hb))
 have HB:=ai (cM.o.alloc cM.o.size (.cells #[.slice a.aS 3 a.cS,.slice a.aF 3 a.cF,.slice a.aL 8 a.cL,.slice a.aP 1 a.cP,I 0] 27));have KB:=ai (B.new w2 #[.slice a.aS 3 a.cS,.slice a.aF 3 a.cF,.slice a.aL 8 a.cL,.slice a.aP 1 a.cP,I 0] 27);have HT:=ai (VC.o _ (Kp.alloc _ w2 (.cells #[.slice a.aS 3 a.cS,.slice a.aF 3 a.cF,.slice a.aL 8 a.cL,.slice a.aP 1 a.cP,I 0] 27)));obtain⟨W,hW⟩:=ex (w2.alloc (.cells #[.slice a.aS 3 a.cS,.slice a.aF 3 a.cF,.slice a.aL 8 a.cL,.slice a.aP 1 a.cP,I 0] 27));obtain⟨kb,hkb⟩:=ex w2.heap.size;have ZM:w.heap.size<=kb:=by rw[hkb];exact cM.o.size
 rw[<- hW] at HB KB HT ⊢;rw[<- hkb] at KB ⊢;clear hW hkb VC lR cM bE HN;obtain⟨k0,k1,k2,k3,k4⟩:=B.c5 KB.o;have kr:=ai (Ky HT.o);go_upto_region 3 with(go_at_call 28;refine kr.o.mono ?_;rintro e v1 ⟨b1,rfl,O6,hb⟩;have Ke:=ai O6;have oN:=ai hb;have K3:=B.below KB.o hb (B.isLt KB.o);have mC:=ai K3;obtain⟨k0,k1,k2,k3,k4⟩:=B.c5 K3;have f0:=B.free K3 0;have f1:=B.free K3 1;have f2:=B.free K3 2;have f3:=B.free K3 3;have f4:=B.free K3 4;have hkl:=B.isLt K3;clear O6 hb K3)
 have HL:=ai (OG (n:=1) HB.o ZM (B.isLt KB.o) oN.o mC.o Ke.o rfl);have HX:=ai (HL.o.2.2.1.alloc HL.o.2.2.1.size (.cells #[I 0,I 0] 36));have KX:=ai (B.alloc HL.o.1 (.cells #[I 0,I 0] 36));have QF:=ai (xY HL.o.2.1 ((Below.refl _ _).alloc (Nat.le_refl _) (.cells #[I 0,I 0] 36)));have F1:=ai (B.new (((((v1.setCell (Ad kb 0) (.slice b1.aS 3 b1.cS)).setCell (Ad kb 1) (.slice b1.aF 3 b1.cF)).setCell (Ad kb 2) (.slice b1.aL 8 b1.cL)).setCell (Ad kb 3) (.slice b1.aP 1 b1.cP)).setCell (Ad kb 4) (I 0)) #[I 0,I 0] 36);have hsz:(((((v1.setCell (Ad kb 0) (.slice b1.aS 3 b1.cS)).setCell (Ad kb 1) (.slice b1.aF 3 b1.cF)).setCell (Ad kb 2) (.slice b1.aL 8 b1.cL)).setCell (Ad kb 3) (.slice b1.aP 1 b1.cP)).setCell (Ad kb 4) (I 0)).heap.size=v1.heap.size:=by simp
 rw[hsz] at F1;obtain⟨fb1,sJ⟩:=ex v1.heap.size;have xU:Hid (¬fb1=kb):=(show ¬fb1=kb from fun e=>by omega);obtain⟨W1,hW⟩:=ex ((((((v1.setCell (Ad kb 0) (.slice b1.aS 3 b1.cS)).setCell (Ad kb 1) (.slice b1.aF 3 b1.cF)).setCell (Ad kb 2) (.slice b1.aL 8 b1.cL)).setCell (Ad kb 3) (.slice b1.aP 1 b1.cP)).setCell (Ad kb 4) (I 0)).alloc (.cells #[I 0,I 0] 36));rw[<- hW] at HX KX QF F1 ⊢;rw[<- sJ] at F1 ⊢;clear hW sJ hsz;clear k0 k1 k2 k3 k4 f0 f1 f2 f3 f4 hkl HL mC Ke oN kr HB KB HT;have HB:=HX;have KB:=KX;have HT:=QF;clear HX KX QF;obtain⟨k0,k1,k2,k3,k4⟩:=B.c5 KB.o;have kr:=ai (Sz HT.o);go_upto_region 4 with(go_at_call 39;refine kr.o.mono ?_;rintro e v2 ⟨b2,rfl,O6,hb⟩;have Ke:=ai O6;have oN:=ai hb;have K3:=B.below KB.o hb (B.isLt KB.o);have mC:=ai K3;obtain⟨k0,k1,k2,k3,k4⟩:=B.c5 K3;have f0:=B.free K3 0;have f1:=B.free K3 1;have f2:=B.free K3 2;have f3:=B.free K3 3;have f4:=B.free K3 4;have hkl:=B.isLt K3;clear O6 hb K3)
 have HL:=ai (OG (n:=2) HB.o ZM (B.isLt KB.o) oN.o mC.o Ke.o rfl);have F1:=ai (HL.o.2.2.2.keep (B.below F1.o oN.o (B.isLt F1.o)) xU.o);have HX:=ai HL.o.2.2.1;have KX:=ai HL.o.1;have QF:=ai HL.o.2.1;obtain⟨W2,hW⟩:=ex ((((((v2.setCell (Ad kb 0) (.slice b2.aS 3 b2.cS)).setCell (Ad kb 1) (.slice b2.aF 3 b2.cF)).setCell (Ad kb 2) (.slice b2.aL 8 b2.cL)).setCell (Ad kb 3) (.slice b2.aP 2 b2.cP)).setCell (Ad kb 4) (I 0)));rw[<- hW] at HX KX QF F1 ⊢;clear hW;clear k0 k1 k2 k3 k4 f0 f1 f2 f3 f4 hkl HL mC Ke oN kr HB KB HT;have HB:=HX;have KB:=KX;have HT:=QF;clear HX KX QF;obtain⟨k0,k1,k2,k3,k4⟩:=B.c5 KB.o;have kr:=ai (Kw HT.o);go_upto_region 5 with(go_at_call 28;refine kr.o.mono ?_;rintro e v3 ⟨b3,rfl,O6,hb⟩;have Ke:=ai O6;have oN:=ai hb;have K3:=B.below KB.o hb (B.isLt KB.o);have mC:=ai K3;obtain⟨k0,k1,k2,k3,k4⟩:=B.c5 K3;have f0:=B.free K3 0;have f1:=B.free K3 1;have f2:=B.free K3 2;have f3:=B.free K3 3;have f4:=B.free K3 4;have hkl:=B.isLt K3;clear O6 hb K3)
 have HL:=ai (OG (n:=2) HB.o ZM (B.isLt KB.o) oN.o mC.o Ke.o rfl);have F1:=ai (HL.o.2.2.2.keep (B.below F1.o oN.o (B.isLt F1.o)) xU.o);have HX:=ai (HL.o.2.2.1.alloc HL.o.2.2.1.size (.cells #[I 0,I 0] 36));have KX:=ai (B.alloc HL.o.1 (.cells #[I 0,I 0] 36));have QF:=ai (xY HL.o.2.1 ((Below.refl _ _).alloc (Nat.le_refl _) (.cells #[I 0,I 0] 36)));have F1:=ai (B.alloc F1.o (.cells #[I 0,I 0] 36));have F2:=ai (B.new (((((v3.setCell (Ad kb 0) (.slice b3.aS 3 b3.cS)).setCell (Ad kb 1) (.slice b3.aF 3 b3.cF)).setCell (Ad kb 2) (.slice b3.aL 8 b3.cL)).setCell (Ad kb 3) (.slice b3.aP 2 b3.cP)).setCell (Ad kb 4) (I 0)) #[I 0,I 0] 36);have hsz:(((((v3.setCell (Ad kb 0) (.slice b3.aS 3 b3.cS)).setCell (Ad kb 1) (.slice b3.aF 3 b3.cF)).setCell (Ad kb 2) (.slice b3.aL 8 b3.cL)).setCell (Ad kb 3) (.slice b3.aP 2 b3.cP)).setCell (Ad kb 4) (I 0)).heap.size=v3.heap.size:=by simp
 rw[hsz] at F2;obtain⟨fb2,sJ⟩:=ex v3.heap.size;have Dy:Hid (¬fb2=kb):=(show ¬fb2=kb from fun e=>by omega);obtain⟨W3,hW⟩:=ex ((((((v3.setCell (Ad kb 0) (.slice b3.aS 3 b3.cS)).setCell (Ad kb 1) (.slice b3.aF 3 b3.cF)).setCell (Ad kb 2) (.slice b3.aL 8 b3.cL)).setCell (Ad kb 3) (.slice b3.aP 2 b3.cP)).setCell (Ad kb 4) (I 0)).alloc (.cells #[I 0,I 0] 36));rw[<- hW] at HX KX QF F1 F2 ⊢;rw[<- sJ] at F2 ⊢;clear hW sJ hsz;clear k0 k1 k2 k3 k4 f0 f1 f2 f3 f4 hkl HL mC Ke oN kr HB KB HT;have HB:=HX;have KB:=KX;have HT:=QF;clear HX KX QF;obtain⟨k0,k1,k2,k3,k4⟩:=B.c5 KB.o;have kr:=ai (Sw HT.o);go_upto_region 6 with(go_at_call 25;refine kr.o.mono ?_;rintro e v4 ⟨b4,JQ,m1,m2,m3,m4,rfl,hb⟩;have oN:=ai hb;clear hb)
 have lB:=ai (oN.o.alloc oN.o.size (.cells #[.slice b4.aS m1 b4.cS,.slice b4.aF m2 b4.cF,.slice b4.aL m3 b4.cL,.slice b4.aP m4 b4.cP,I JQ] 27));have Gb:=ai (lB.o.alloc lB.o.size (.cells #[I 0,I 0] 36));have F3:=ai (KZ.n1 v4 (.cells #[.slice b4.aS m1 b4.cS,.slice b4.aF m2 b4.cF,.slice b4.aL m3 b4.cL,.slice b4.aP m4 b4.cP,I JQ] 27) #[I 0,I 0] 36);obtain⟨W4,hW⟩:=ex ((v4.alloc (.cells #[.slice b4.aS m1 b4.cS,.slice b4.aF m2 b4.cF,.slice b4.aL m3 b4.cL,.slice b4.aP m4 b4.cP,I JQ] 27)).alloc (.cells #[I 0,I 0] 36));obtain⟨fb3,sJ⟩:=ex (v4.heap.size+1);rw[<- hW] at Gb F3 ⊢;rw[<- sJ] at F3 ⊢;clear hW sJ lB oN k0 k1 k2 k3 k4;have KY:=ai (B.below KB.o Gb.o (B.isLt KB.o));have HTY:=ai (xY HT.o Gb.o);have F1:=ai (B.below F1.o Gb.o (B.isLt F1.o));have F2:=ai (B.below F2.o Gb.o (B.isLt F2.o));have gw:=ai (HB.o.trans (Gb.o.mono HB.o.size));obtain⟨k0,k1,k2,k3,k4⟩:=B.c5 KY.o;have iM:=ai (Sv HTY.o);have hp1:Yp.size=16:=rfl;have hp2:Yp.extract 0 3=⟨#[113,98,99]⟩:=by kernel_rfl
 have Pb:Yp.extract 14 16=⟨#[119,120]⟩:=by kernel_rfl
 obtain⟨D,hD⟩:=ex Yp;rw[<- hD] at iM hp1 hp2 Pb;clear hD;go_upto_region 7 with(go_at_call 30;refine iM.o.mono ?_;rintro e v5 ⟨rfl,hb⟩;have pM:=ai (gw.o.trans (hb.mono gw.o.size));obtain⟨x1,y1⟩:=B.c2 (B.below F1.o hb (B.isLt F1.o));obtain⟨x2,y2⟩:=B.c2 (B.below F2.o hb (B.isLt F2.o));obtain⟨x3,y3⟩:=B.c2 (B.below F3.o hb (B.isLt F3.o));clear hb)
 go_wp2;go_ret;exact⟨by simp,pM.o⟩
end KG
end Go.Proofs.YtpgifpeohlllfaaGreat
