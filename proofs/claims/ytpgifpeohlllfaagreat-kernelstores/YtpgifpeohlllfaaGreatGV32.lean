import Derived.Test.YtpgifpeohlllfaaGreatGV31
set_option maxHeartbeats 20000000
set_option linter.unusedVariables false
set_option maxRecDepth 100000
set_option linter.unusedSimpArgs false
namespace Go.Proofs.YtpgifpeohlllfaaGreat
namespace Go.Proofs.YtpgifpeohlllfaaGreat
open Go.RowKit Go.WideMaps Go.Maps
theorem Ur (p:iY) (libs:List iY) (ao:Option Addr) (cap:Nat) (w:World) (hp:pL w p.a p.i) (h:CH w ao libs) (hfp:IV p.i) (hf:ab7 libs)
  (Fz:∀k,k<(p::libs).length->∀V,Below w.heap.size w V->Calls Tryz.prog 158 #[.agg (jV (cY (p::libs) k).a (cY (p::libs) k).i)] V fun e w'=>e=.returned (I (mG (cY (p::libs) k).i))/\Below V.heap.size V w')
  (hga:∀m D V,ail (p::libs) m D V->Calls Tryz.prog 133 #[zY (cY (p::libs) 0),.map (some m)] V (Oc (p::libs) (K9 (p::libs) (p::libs).length 0 [0]) V))
  (hpx:∀ix ao cap k V,k<(fH (p::libs) 1 ix).length->Calls Tryz.prog 161 #[.agg (oX (eN (fH (p::libs) 1 ix) k)),.slice ao (fH (p::libs) 1 ix).length cap] V (Bv (uC (fH (p::libs) 1 ix) (eN (fH (p::libs) 1 ix) k)) V)) :
  Calls Tryz.prog 93 #[zY p,.slice ao libs.length cap] w (ab5 (p::libs) w):=by
 have hsl:libs.length<=140737488351232:=hf.1;have anz:=aD Fz;have anl:=aD hga;have am1:=aD hpx;have HL:=aD h;have HIM:Hid (∀V,Below w.heap.size w V->∀k,k<(p::libs).length->pL V (cY (p::libs) k).a (cY (p::libs) k).i):=fun V hb k hk=>by
  cases k with
  | zero=>exact hp.below hb
  | succ k =>
   have hk':k<libs.length:=by grind
   obtain⟨b,off,_,_,hl⟩:=h (by omega);exact(hl k hk').2.below hb
 have zx:Hid (∀k,k<(p::libs).length->IV (cY (p::libs) k).i):=fun k hk=>by
  cases k with
  | zero=>exact hfp
  | succ k=>exact hf.2 k (by grind)
 clear hp h hfp hf Fz hga hpx;have MD:=aD (((aK w.heap.size w).alloc (aM _) (.cells (jV p.a p.i) 151)).alloc (by simp) (.cells #[Nl,Nl,I 0] 30));have BM:=aD (bE (bG w (jV p.a p.i) 151) (.cells #[Nl,Nl,I 0] 30));have BR0:=bG (w.alloc (.cells (jV p.a p.i) 151)) #[Nl,Nl,I 0] 30;rw[iJ] at BR0;have BR:=aD BR0;clear BR0;unfold zY;go_enter Tryz.func93,Tryz.ntmps93;by_cases h6:6<libs.length
 · have HE:Hid (lV (p::libs)=2):=by
    show _=_
    grind [lV]
   clear BM BR;simp only[jV] at MD ⊢;go_wp2;exact bR (v:=.tuple #[.agg #[Nl,Nl,I 0],I 2]) (by simp[results,Tryz.results93,go_sem]) rfl ⟨MD.o,by rw[HE.o];simp⟩
 · have h7:(p::libs).length<=7:=by grind
   have ajV:Hid ((((w.alloc (.cells (jV p.a p.i) 151)).alloc (.cells #[Nl,Nl,I 0] 30)).alloc (.cells (jV p.a p.i) 151)).ownsRow (w.heap.size+2) 151 6 (.slice (some (Ad (w.heap.size+2) 0)) 1 1) 1 (pQ p)):=by
    have h:=World.ownsRow_lit (base:=w.heap.size+2) (e:=151) (size:=6) ((w.alloc (.cells (jV p.a p.i) 151)).alloc (.cells #[Nl,Nl,I 0] 30)) (jV p.a p.i) 1 (by simp) (by decide) rfl;have e:((w.alloc (.cells (jV p.a p.i) 151)).alloc (.cells #[Nl,Nl,I 0] 30)).heap.size=w.heap.size+2:=by simp
    rw[e] at h;exact h
   have jo:=aD (MD.o.alloc (by simp;omega) (.cells (jV p.a p.i) 151));have BM3:=aD (bE BM.o (.cells (jV p.a p.i) 151));have ZN:=aD (bE BR.o (.cells (jV p.a p.i) 151));clear BM BR MD;simp only[jV] at ajV jo BM3 ZN ⊢;go_wp2_with (at_builtin;refine DT rfl _ _ rfl (w.heap.size+2) p (w.heap.size+2) (by rfl) ajV.o ao cap libs rfl (HL.o.below jo.o) (by omega) (by simp) ?_;intro gg amB w1 hown hgrow hlt;have cT:=aD (jo.o.grown hgrow (by simp;omega) (fun q hq=>by grind));have BM1:=aD (J9 BM3.o hgrow (by simp));have BR1:=aD (J9 ZN.o hgrow (by simp));have HI1:=aD (acX (l:=p::libs) hown hlt (HIM.o _ cT.o));clear hown hgrow hlt)
   obtain⟨all,hall⟩:=ex (p::libs);have HLI:Hid (cY all 0=p):=by rw[hall];rfl
   have hlen:libs.length+1=all.length:=by grind
   rw[<- hall] at HI1 HIM zx h7 anz anl am1;rw[<- hall,hlen];clear ajV jo BM3 ZN HL;have ar3:=aD hall;clear hall;refine(OQ all _ _ _ HI1.o ⟨by grind [bY],zx.o⟩ (fun k hk V hV=>anz.o k hk V (cT.o.trans (hV.mono cT.o.size)))).mono ?_;rintro e w2 ⟨hb,hout⟩;have fq:=aD (cT.o.trans (hb.mono cT.o.size));have BM2:=aD (aQ BM1.o hb (aO BM1.o));have BR2:=aD (aQ BR1.o hb (aO BR1.o));clear hb BM1 BR1 cT HI1;by_cases hby:ow all=0
   · rw[bf hby] at hout;obtain⟨m,D,rfl,hmap,Kr⟩:=hout;obtain⟨Fz,Xb⟩:=Rb hby;have HGI:Hid (ail all m D w2):=⟨by omega,h7,Fz,zx.o,Xb,HIM.o _ fq.o,hmap,Kr⟩;have LK:=aD Fz;clear hmap Kr Xb Fz;have m0:=aB BM2.o 0 rfl;have m1:=aB BM2.o 1 rfl;have m2:=aB BM2.o 2 rfl;have m3:=aB BM2.o 3 rfl;have m4:=aB BM2.o 4 rfl;have m5:=aB BM2.o 5 rfl;have Y7:=aD hby;clear hby;go_wp2_with fail
     have HGA:=aD (anl.o m D w2 HGI.o);rw[HLI.o] at HGA;refine Calls.mono (P:=Tryz.prog) HGA.o ?_;rintro e w3 ⟨hb,hout⟩;have jo:=aD (fq.o.trans (hb.mono fq.o.size));have BM3:=aD (aQ BM2.o hb (aO BM2.o));have ZN:=aD (aQ BR2.o hb (aO BR2.o));clear hb BM2 BR2 HGA m0 m1 m2 m3 m4 m5;have r0:=aB ZN.o 0 rfl;have r1:=aB ZN.o 1 rfl;have r2:=aB ZN.o 2 rfl;have rf:=aJ ZN.o;have rl:=aO ZN.o;cases eg:K9 all all.length 0 [0] with
     | none =>
      rw[eg] at hout;obtain rfl:=hout;have HE:Hid (lV all=6):=by
       grind [lV,Hid.o]
      clear eg;go_wp2;exact bR (v:=.tuple #[.agg #[Nl,Nl,I 0],I 6]) (by simp[results,Tryz.results93,go_sem,r0,r1,r2]) rfl ⟨((jo.o.setCell (by simp) _).setCell (by simp) _).setCell (by simp) _,by grind [Hid.o]⟩
     | some ix =>
      rw[eg] at hout;obtain⟨hok,ao2,cap2,rfl,hO⟩:=hout;have hpos:=hok.pos;have hle:=hok.le;have HLE:Hid (wA (eN (fH all 1 ix) (ix.length-1))=jW all 1 ix):=M9 all ix 1 hpos;have HOI:Hid (OW (fH all 1 ix) ao2 w3):=by
       refine⟨hO,by grind [kJ],fun k hk=>?_,fun k hk=>?_,XL LK.o h7 hok⟩
       · grind [kJ,s7,Hid.o,FI.lt]
       grind [kJ,s7,Hid.o,FI.lt]
      have hxl:ix.length=(fH all 1 ix).length:=(kJ all ix 1).symm;have afj:Hid (lV all=if 256<jW all 1 ix then 3 else match rD (fH all 1 ix) with
        | none=>7
        | some _=>0):=by
       grind [lV,Hid.o]
      have HEG:=aD eg;obtain⟨EN,hEN⟩:=ex (jW all 1 ix);rw[<- hEN] at HLE afj;have am2:=aD (am1.o ix);obtain⟨SH,aiN⟩:=ex (fH all 1 ix);rw[<- aiN] at HOI afj HLE hO hxl am2;have HOB:=aD aiN;rw[hxl] at HLE hpos hle;rw[hxl];clear hEN aiN eg hok hxl HGI Y7;obtain⟨b,off,aet,hbl,fG⟩:=hO hpos;subst aet;obtain⟨k1,hk1⟩:=ex (SH.length-1);have aej:k1<SH.length:=by omega
      rw[<- hk1] at HLE;obtain⟨⟨c0,c1,c2,c3,c4,c5,c6⟩,him⟩:=fG k1 aej;have px:=aD (fun V hb=>Z6 (eN SH k1) V (him.below hb) (HOI.o.chk k1 aej) (by have:=HOI.o.base k1 aej;omega) (by have:=HOI.o.base k1 aej;omega));obtain⟨o,ho⟩:=ex (eN SH k1);rw[<- ho] at c0 c1 c2 c3 c4 c5 c6 px HLE;simp only[oX] at px;rw[HLE.o] at px;have hwr:IntKind.i64.wrap ((SH.length:Int)-1)=(k1:Int):=by grind [IntWalk.i64_in]
      clear ho fG hO him HLE hk1 hlen HIM zx;by_cases awo:256<EN
      · have HE:Hid (lV all=3):=by
         grind
        clear afj;go_wp2_with (go_at_call 134;refine(px.o _ (aK _ _)).mono ?_;rintro e w4 ⟨rfl,hb⟩;have kO:=aD (jo.o.trans (hb.mono jo.o.size));have BR4:=aD (aQ ZN.o hb (aO ZN.o));have s0:=aB BR4.o 0 rfl;have s1:=aB BR4.o 1 rfl;have s2:=aB BR4.o 2 rfl;have sf:=aJ BR4.o;clear hb)
        exact bR (v:=.tuple #[.agg #[Nl,Nl,I 0],I 3]) (by simp[results,Tryz.results93,go_sem,s0,s1,s2]) rfl ⟨((kO.o.setCell (by simp) _).setCell (by simp) _).setCell (by simp) _,by grind [Hid.o]⟩
      · have WN:Hid (∀V,OW SH (some (Ad b off)) V->Calls Tryz.prog 135 #[.slice (some (Ad b off)) SH.length cap2] V (I5 (rD SH) V)):=fun V hV=>K4 SH _ cap2 V hV (by omega) (fun k hk V' hV'=>am2.o _ cap2 k V' hk)
        cases es:rD SH with
        | none =>
         have HE:Hid (lV all=7):=by
          grind
         rw[es] at WN;clear afj es;go_wp2_with (first
          | (go_at_call 134;refine(px.o _ (aK _ _)).mono ?_;rintro e w4 ⟨rfl,hb⟩;have kO:=aD (jo.o.trans (hb.mono jo.o.size));have BR4:=aD (aQ ZN.o hb (aO ZN.o));have afc:=aD (HOI.o.below hb);clear hb)
          | (go_at_call 135;refine(WN.o _ afc.o).mono ?_;rintro e w5 ⟨hb,rfl⟩;have ym:=aD (kO.o.trans (hb.mono kO.o.size));have BR5:=aD (aQ BR4.o hb (aO BR4.o));have s0:=aB BR5.o 0 rfl;have s1:=aB BR5.o 1 rfl;have s2:=aB BR5.o 2 rfl;have sf:=aJ BR5.o;clear hb))
         exact bR (v:=.tuple #[.agg #[Nl,Nl,I 0],I 7]) (by simp[results,Tryz.results93,go_sem,s0,s1,s2]) rfl ⟨((ym.o.setCell (by simp) _).setCell (by simp) _).setCell (by simp) _,by grind [Hid.o]⟩
        | some E =>
         have HE:Hid (lV all=0):=by
          grind
         have HES:=aD es;rw[es] at WN;clear afj es;go_wp2_with (first
          | (go_at_call 134;refine(px.o _ (aK _ _)).mono ?_;rintro e w4 ⟨rfl,hb⟩;have kO:=aD (jo.o.trans (hb.mono jo.o.size));have BR4:=aD (aQ ZN.o hb (aO ZN.o));have BM4:=aD (aQ BM3.o hb (aO BM3.o));have afc:=aD (HOI.o.below hb);clear hb)
          | (go_at_call 135;refine(WN.o _ afc.o).mono ?_;rintro e w5 ⟨hb,hs,ah,ch,hme,rfl,hhh,hcc⟩;have ym:=aD (kO.o.trans (hb.mono kO.o.size));have BR5:=aD (aQ BR4.o hb (aO BR4.o));have BM5:=aD (aQ BM4.o hb (aO BM4.o));have ajX:=aD (afc.o.below hb);have HME:=aD hme;have HHH:=aD hhh;clear hb hme hhh))
         clear WN px HOI afc ZN BR4 BM3 BM4 jo r0 r1 r2 rf rl c0 c1 c2 c3 c4 c5 c6 hwr hbl aej;obtain⟨b5,aoT,hbe,Xl,ahV⟩:=ajX.o.has hpos;obtain⟨⟨d0,d1,d2,d3,d4,d5,d6⟩,dim⟩:=ahV 0 hpos;have ai5:b=b5:=by grind
         have alW:off=aoT:=by grind
         rw[<- ai5,<- alW] at d0 d1 d2 d3 d4 d5 d6;rw[<- ai5] at Xl;simp only[Nat.zero_mul,gV] at d0 d1 d2 d3 d4 d5 d6;have av3:=ajX.o.base 0 hpos;have hen:0<=p.i.entry/\p.i.entry<4080:=by
          have h:=Nb (LK.o 0 (by omega))
          grind [Hid.o]
         have Qp:Hid ((cY all 0).i.entry=p.i.entry):=by rw[HLI.o];rfl
         have Y8:Hid (∀V,Below w5.heap.size w5 V->Calls Tryz.prog 136 #[.slice (some (Ad b off)) SH.length cap2] V fun e w'=>∃r,e=.returned r/\dC V.heap.size w' r (qQ SH)/\Below V.heap.size V w'):=fun V hb=>OS SH _ cap2 V (ajX.o.below hb) (by omega)
         have HAD:=aD (fun V=>OV (eN SH 0) p.i.entry V (by omega) (by omega) hen.1 (by omega));obtain⟨o0,ho0⟩:=ex (eN SH 0);have HO0:=aD ho0;rw[<- ho0] at d0 d1 d2 d3 d4 d5 d6 HAD;simp only[oX] at HAD;have hne:b≠w.heap.size+1:=fun e=>by
          rw[e] at d6;have h:=BR5.o
          grind [World.cell?]
         have HS:Hid (∀V,Below w5.heap.size w5 V->V.cell? (Ad b off)=some (.string o0.i.name)/\V.cell? (Ad b (off+1))=some (.slice o0.a.an o0.i.needs.length o0.a.cn)/\V.cell? (Ad b (off+2))=some (.slice o0.a.ag o0.i.jU.length o0.a.cg)/\V.cell? (Ad b (off+3))=some (.slice o0.a.ay o0.i.syms.length o0.a.cy)/\V.cell? (Ad b (off+4))=some (.slice o0.a.ar o0.i.pI.length o0.a.cr)/\V.cell? (Ad b (off+5))=some (I o0.i.entry)/\V.cell? (Ad b (off+6))=some (I o0.base)/\V.cell? (Ad w.heap.size 5)=some (I p.i.entry)):=fun V hb=>⟨(gF hb Xl).trans d0,(gF hb Xl).trans d1,(gF hb Xl).trans d2,(gF hb Xl).trans d3,(gF hb Xl).trans d4,(gF hb Xl).trans d5,(gF hb Xl).trans d6,aB (aQ BM5.o hb (aO BM5.o)) 5 rfl⟩
         obtain⟨AD,hAD⟩:=ex (wU o0 p.i.entry);rw[<- hAD] at HAD;have axI:=aD hAD;clear ho0 hAD d0 d1 d2 d3 d4 d5 d6 dim ahV hbe ai5 alW;have rz:=aD (aK w5.heap.size w5).drew;have gj:=aD (HS.o _ rz.o)
         go_region_held3 (fun V=>V.cell? (Ad b off)=some (.string o0.i.name)/\V.cell? (Ad b (off+1))=some (.slice o0.a.an o0.i.needs.length o0.a.cn)/\V.cell? (Ad b (off+2))=some (.slice o0.a.ag o0.i.jU.length o0.a.cg)/\V.cell? (Ad b (off+3))=some (.slice o0.a.ay o0.i.syms.length o0.a.cy)/\V.cell? (Ad b (off+4))=some (.slice o0.a.ar o0.i.pI.length o0.a.cr)/\V.cell? (Ad b (off+5))=some (I o0.i.entry)/\V.cell? (Ad b (off+6))=some (I o0.base)/\V.cell? (Ad w.heap.size 5)=some (I p.i.entry)) (first | exact HS7.o | exact V9.o | exact gj.o | grind [Hid.o])
          (first
           | (go_at_call 136;refine(Y8.o _ rz.o).mono ?_;rintro e w6 ⟨v8,rfl,hrw,hb⟩;obtain⟨ar,cr,hrv,hrg⟩:=CA hrw;subst hrv;have Sh:=aD hrw;have HK6:=aD (rz.o.trans (hb.mono rz.o.size));have V9:=aD (HS.o _ HK6.o);clear hb hrw hrg)
           | (go_at_call 137;refine(HAD.o _).mono ?_;rintro e w7 ⟨rfl,hb⟩;have Wh:=aD (HK6.o.trans (hb.mono HK6.o.size));have HS7:=aD (HS.o _ Wh.o);have aqP:=aD (xR Sh.o hb);have BR7:=aD (aQ BR5.o Wh.o (aO BR5.o));have s0:=aB BR7.o 0 rfl;have s1:=aB BR7.o 1 rfl;have s2:=aB BR7.o 2 rfl;have sf:=aJ BR7.o;have HSX:Hid (∀u0 u1 u2,(fun V:World=>V.cell? (Ad b off)=some (.string o0.i.name)/\V.cell? (Ad b (off+1))=some (.slice o0.a.an o0.i.needs.length o0.a.cn)/\V.cell? (Ad b (off+2))=some (.slice o0.a.ag o0.i.jU.length o0.a.cg)/\V.cell? (Ad b (off+3))=some (.slice o0.a.ay o0.i.syms.length o0.a.cy)/\V.cell? (Ad b (off+4))=some (.slice o0.a.ar o0.i.pI.length o0.a.cr)/\V.cell? (Ad b (off+5))=some (I o0.i.entry)/\V.cell? (Ad b (off+6))=some (I o0.base)/\V.cell? (Ad w.heap.size 5)=some (I p.i.entry)) (((w7.setCell (Ad (w.heap.size+1) 0) u0).setCell (Ad (w.heap.size+1) 1) u1).setCell (Ad (w.heap.size+1) 2) u2)):=(fun u0 u1 u2=>by grind [rY,Hid.o]);clear hb))
         have arD:=aD (Us BR7.o (HHH.o.below Wh.o) (.slice ar (qQ SH).length cr) (.slice ah hs.length ch) (I AD));have am5:=aD (XB (rb:=w.heap.size+1) aqP.o (jt (aO BR5.o) rz.o.size) (.slice ar (qQ SH).length cr) (.slice ah hs.length ch) (I AD));have Ns:=aD ((((ym.o.trans (Wh.o.mono ym.o.size)).setCell (p:=(Ad (w.heap.size+1) 0)) (by simp) (.slice ar (qQ SH).length cr)).setCell (p:=(Ad (w.heap.size+1) 1)) (by simp) (.slice ah hs.length ch)).setCell (p:=(Ad (w.heap.size+1) 2)) (by simp) (I AD));go_wp2;refine bR (v:=.tuple #[.agg #[.slice ar (qQ SH).length cr,.slice ah hs.length ch,I AD],I 0]) (by simp[results,Tryz.results93,go_sem,s0,s1,s2]) rfl ⟨Ns.o,?_⟩;rw[<- ar3.o,HE.o,bf rfl];refine⟨ix,E,.slice ar (qQ SH).length cr,hs,ah,ch,HEG.o,by grind [Hid.o],HME.o,?_,?_,arD.o,hcc⟩
         · grind [Hid.o]
         · rw[<- HOB.o];exact am5.o.mono (gJ ym.o.size rz.o.size)
   · rw[bl hby] at hout;subst hout;have HE:Hid (lV all=ow all):=by
      show _=_
      grind [lV]
     obtain⟨er,her⟩:=ex (ow all);rw[<- her] at HE hby;rw[<- her];have hbz:(er==0)=false:=by grind
     have r0:=aB BR2.o 0 rfl;have r1:=aB BR2.o 1 rfl;have r2:=aB BR2.o 2 rfl;have rf:=aJ BR2.o;clear her;go_wp2;exact bR (v:=.tuple #[.agg #[Nl,Nl,I 0],I er]) (by simp[results,Tryz.results93,go_sem,r0,r1,r2]) rfl ⟨((fq.o.setCell (by simp) _).setCell (by simp) _).setCell (by simp) _,by grind [Hid.o]⟩
end Go.Proofs.YtpgifpeohlllfaaGreat
namespace Go.Proofs.YtpgifpeohlllfaaGreat
open Go.RowKit
theorem Xz (l:List kF) (ao:Option Addr) (cap:Nat) (o:kF) (w:World) (hr:o.i.pI=[]):Calls Tryz.prog 161 #[.agg (oX o),.slice ao l.length cap] w (Bv (uC l o) w):=by
 have e:uC l o=some []:=by unfold uC;rw[hr];rfl
 rw[e];unfold oX;rw[hr];obtain⟨⟨nm,ns,gs,ys,rs,en⟩,⟨an,cn,ag,cg,ay,cy,ar,cr⟩,bs⟩:=o;simp only at hr ⊢;clear hr e;obtain⟨n1,h1⟩:∃n,n=ns.length:=⟨_,rfl⟩;obtain⟨n2,h2⟩:∃n,n=gs.length:=⟨_,rfl⟩;obtain⟨n3,h3⟩:∃n,n=ys.length:=⟨_,rfl⟩;rw[<- h1,<- h2,<- h3];clear h1 h2 h3;have HB:=aD ((aK w.heap.size w).alloc (aM _) (.cells #[.string nm,.slice an n1 cn,.slice ag n2 cg,.slice ay n3 cy,.slice ar 0 cr,I en,I bs] 195));have cZ:Hid (∀w',Below w.heap.size w w'->Bv (some []) w (.returned (.tuple #[Nl,.bool true])) w'):=fun w' hb=>⟨hb,_,rfl,km _ _ _ _⟩
 obtain⟨P,hP⟩:=ex (Bv (some []) w);rw[<- hP] at cZ ⊢;clear hP;simp only[TV];go_enter Tryz.func161,Tryz.ntmps161;go_wp2;go_loopw [6,17] (fun sv iv wr=>sv=Nl/\iv=I 0/\Below w.heap.size w wr) (fun _ _ _=>0)
 case atStart=>grind [Hid.o]
 case round =>
  obtain⟨rfl,rfl,hb⟩:=hrel;have fq:=aD hb;clear hb;go_wp2;exact cZ.o _ fq.o
theorem Z5 (p:iY) (m:Nat) (w:World) (hn:p.i.needs=[]) (him:pL w p.a p.i):Calls Tryz.prog 133 #[zY p,.map (some m)] w (Oc [p] (some [0]) w):=by
 have cZ:Hid (∀(w':World) g,w'.heap[g]?=some (.cells #[.string p.i.name,.slice p.a.an p.i.needs.length p.a.cn,.slice p.a.ag p.i.jU.length p.a.cg,.slice p.a.ay p.i.syms.length p.a.cy,.slice p.a.ar p.i.pI.length p.a.cr,I p.i.entry,I 1] 195 (0,0))->Below w.heap.size w w'->Oc [p] (some [0]) w (.returned (.tuple #[.slice (some (Ad g 0)) 1 1,.bool true])) w'):=fun w' g h1 h2=>by
  refine⟨h2,⟨by decide,by decide,fun j hj=>?_⟩,some (Ad g 0),1,rfl,fun _=>⟨g,0,rfl,aO h1,fun k hk=>?_⟩⟩
  · grind
  · obtain rfl:k=0:=by have:k<1:=hk;omega
    exact⟨⟨aB h1 0 rfl,aB h1 1 rfl,aB h1 2 rfl,aB h1 3 rfl,aB h1 4 rfl,aB h1 5 rfl,aB h1 6 rfl⟩,him.below h2⟩
 obtain⟨P,hP⟩:=ex (Oc [p] (some [0]) w);rw[<- hP] at cZ ⊢;clear hP him;unfold zY jV;rw[hn] at cZ ⊢;obtain⟨⟨nm,ns,gs,ys,rs,en⟩,⟨an,cn,ag,cg,ay,cy,ar,cr⟩⟩:=p;simp only at cZ ⊢;clear hn;obtain⟨n2,h2⟩:∃n,n=gs.length:=⟨_,rfl⟩;obtain⟨n3,h3⟩:∃n,n=ys.length:=⟨_,rfl⟩;obtain⟨n4,h4⟩:∃n,n=rs.length:=⟨_,rfl⟩;rw[<- h2,<- h3,<- h4] at cZ ⊢;simp only[TV] at cZ ⊢;clear h2 h3 h4;have HB:=aD (((aK w.heap.size w).alloc (aM _) (.cells #[.string nm,.slice an 0 cn,.slice ag n2 cg,.slice ay n3 cy,.slice ar n4 cr,I en] 151)).alloc (by simp) (.cells #[.string nm,.slice an 0 cn,.slice ag n2 cg,.slice ay n3 cy,.slice ar n4 cr,I en,I 1] 195));have HX:Hid (((w.alloc (.cells #[.string nm,.slice an 0 cn,.slice ag n2 cg,.slice ay n3 cy,.slice ar n4 cr,I en] 151)).alloc (.cells #[.string nm,.slice an 0 cn,.slice ag n2 cg,.slice ay n3 cy,.slice ar n4 cr,I en,I 1] 195)).heap[w.heap.size+1]?=some (.cells #[.string nm,.slice an 0 cn,.slice ag n2 cg,.slice ay n3 cy,.slice ar n4 cr,I en,I 1] 195 (0,0))):=by
  have:=bG (w.alloc (.cells #[.string nm,.slice an 0 cn,.slice ag n2 cg,.slice ay n3 cy,.slice ar n4 cr,I en] 151)) #[.string nm,.slice an 0 cn,.slice ag n2 cg,.slice ay n3 cy,.slice ar n4 cr,I en,I 1] 195;rw[iJ] at this;exact this
 go_enter Tryz.func133,Tryz.ntmps133;go_wp2;obtain⟨g,hg⟩:=ex (w.heap.size+1);rw[<- hg] at HX ⊢;clear hg;go_loopw [6,7] (fun sv iv wr=>sv=.slice (some (Ad g 0)) 1 1/\(∃k:Nat,k<=1/\iv=I (k:Int))/\wr.heap[g]?=some (.cells #[.string nm,.slice an 0 cn,.slice ag n2 cg,.slice ay n3 cy,.slice ar n4 cr,I en,I 1] 195 (0,0))/\Below w.heap.size w wr) (fun _ iv _=>1-(intOf iv).toNat)
 case atStart=>grind [Hid.o]
 case round =>
  obtain⟨rfl,⟨k,hk,rfl⟩,hx,hb⟩:=hrel;have Sg:=aD hx;have fq:=aD hb;have x1:wr.cell? (Ad g 1)=some (.slice an 0 cn):=aB hx 1 rfl;clear hx hb HX HB;by_cases h0:k=0
  · subst h0;go_wp2;clear x1;go_loopw [6,28] (fun sv iv wi=>sv=.slice (some (Ad g 0)) 1 1/\iv=I 0/\wi.heap[g]?=some (.cells #[.string nm,.slice an 0 cn,.slice ag n2 cg,.slice ay n3 cy,.slice ar n4 cr,I en,I 1] 195 (0,0))/\Below w.heap.size w wi) (fun _ _ _=>0)
    case atStart=>exact⟨rfl,rfl,Sg.o,fq.o⟩
    case round =>
     obtain⟨rfl,rfl,hx,hb⟩:=hrel;have LF:=aD hx;have jo:=aD hb;clear hx hb Sg fq;go_wp2;go_roundw
     case rel=>exact⟨rfl,⟨1,by omega,by first | rfl | go_num⟩,LF.o,jo.o⟩
     case measure=>simp[intOf]
  · obtain rfl:k=1:=by omega
    go_wp2;exact cZ.o _ _ Sg.o fq.o
def Qg (w:World) (e:Ending) (w':World):Prop:=∃ar cr ah ch a1 a2 a3 c1 c2 c3,e=.returned (.agg #[.slice ar 2 cr,.slice ah 3 ch,I 16])/\eU w' (.slice ar 2 cr) tX/\iM w' ah (jN a1 a2 a3 c1 c2 c3)/\3<=ch/\Below w.heap.size w w'
theorem adr {a:IW} {w w':World} {e:Ending} (h:ab5 [⟨mL,a⟩] w e w'):∃ar cr ah ch a1 a2 a3 c1 c2 c3,e=.returned (.tuple #[.agg #[.slice ar 2 cr,.slice ah 3 ch,I 16],I 0])/\dC w.heap.size w' (.slice ar 2 cr) tX/\iM w' ah (jN a1 a2 a3 c1 c2 c3)/\3<=ch/\Below w.heap.size w w':=by
 obtain⟨hb,h2⟩:=h;rw[bf (adq a)] at h2;obtain⟨ix,E,r,hs,ao,cap,h3,h4,h5,h6,h7,h8,h9⟩:=h2;rw[Tx] at h3;injection h3 with h3;subst h3;rw[ado] at h4 h6 h7;rw[VR] at h4;injection h4 with h4;subst h4;rw[YS] at h7;rw[YR] at h6;obtain⟨a1,a2,a3,c1,c2,c3,rfl⟩:=YQ h5;obtain⟨ar,cr,hr,_⟩:=CA h7;subst hr;exact⟨ar,cr,ao,cap,a1,a2,a3,c1,c2,c3,h6,h7,h8,h9,hb⟩
theorem YV {V U:World} {g:Nat} {x y:Value} {n:Int} {ah:Option Addr} {a1 a2 a3:Option Addr} {c1 c2 c3:Nat} (h:iM V ah (jN a1 a2 a3 c1 c2 c3)) (hg:V.heap[g]?=some (.cells #[x,y,I n] 30 (0,0))) (hx:∀k i,x≠.int k i) (hy:∀k i,y≠.int k i) (hk:∀b j v,b≠g->V.cell? (Ad b j)=some v->U.cell? (Ad b j)=some v) (hs:V.heap.size<=U.heap.size):iM U ah (jN a1 a2 a3 c1 c2 c3):=fun hl=>by
 obtain⟨b,off,rfl,hb,fG⟩:=h hl;have hne:b≠g:=fun e=>by
  subst e;obtain⟨d0,d1,_,_⟩:=fG 0 (by omega)
  grind [World.cell?]
 refine⟨b,off,rfl,by omega,fun i hi=>?_⟩;obtain⟨d0,d1,d2,_⟩:=fG i hi;refine⟨hk _ _ _ hne d0,hk _ _ _ hne d1,hk _ _ _ hne d2,fun h0=>?_⟩;exfalso
 match i,hi,h0 with
 | 0,_,h0=>exact jQ _ h0
 | 1,_,h0=>exact jQ _ h0
 | 2,_,h0=>exact jQ _ h0
 | i+3,h,_=>grind [jN]
theorem VO (w:World):Calls Tryz.prog 50 #[] w (Qg w):=by
 have cZ:Hid (∀ar cr ah ch a1 a2 a3 c1 c2 c3 (w':World),eU w' (.slice ar 2 cr) tX->iM w' ah (jN a1 a2 a3 c1 c2 c3)->3<=ch->Below w.heap.size w w'->Qg w (.returned (.agg #[.slice ar 2 cr,.slice ah 3 ch,I 16])) w'):=fun ar cr ah ch a1 a2 a3 c1 c2 c3 w' h1 h2 h3 h4=>⟨ar,cr,ah,ch,a1,a2,a3,c1,c2,c3,rfl,h1,h2,h3,h4⟩
 obtain⟨P,hP⟩:=ex (Qg w);rw[<- hP] at cZ ⊢;clear hP;have tP:Hid (∀V,Calls Tryz.prog 94 #[.agg #[I 12,I 0,I 0,I 0,I 0]] V fun e w'=>e=.returned (.string FW)/\Below V.heap.size V w'):=fun V=>by
  have:=Ul ⟨12,0,0,0,0⟩ V;rw[V8] at this;exact this
 have HLK:Hid (∀wb V,V.heap[wb]?=some (.cells #[I 0,I 1,.string FW,.bool false,.bool true,I 1,I 2,.string ⟨#[97,98,99]⟩,.bool true,.bool false] 145 (0,0))->Calls Tryz.prog 93 #[.agg #[.string ⟨#[116]⟩,Nl,.slice (some (Ad wb 0)) 2 2,Nl,Nl,I 0],Nl] V fun e w'=>∃ar cr ah ch a1 a2 a3 c1 c2 c3,e=.returned (.tuple #[.agg #[.slice ar 2 cr,.slice ah 3 ch,I 16],I 0])/\dC V.heap.size w' (.slice ar 2 cr) tX/\iM w' ah (jN a1 a2 a3 c1 c2 c3)/\3<=ch/\Below V.heap.size V w'):=fun wb V hV=>by
  have him:pL V ⟨none,0,some (Ad wb 0),2,none,0,none,0⟩ mL:=⟨fun h=>absurd h (jQ _),fun _=>⟨wb,0,rfl,aO hV,fun i hi=>by
   have:i<2:=hi;rcases(show i=0∨i=1 by omega) with rfl | rfl
   · exact⟨aB hV 0 rfl,aB hV 1 rfl,aB hV 2 rfl,aB hV 3 rfl,aB hV 4 rfl⟩
   · exact⟨aB hV 5 rfl,aB hV 6 rfl,aB hV 7 rfl,aB hV 8 rfl,aB hV 9 rfl⟩⟩,fun h=>absurd h (jQ _),fun h=>absurd h (jQ _)⟩
  refine(Ur ⟨mL,⟨none,0,some (Ad wb 0),2,none,0,none,0⟩⟩ [] none 0 V him (fun h=>absurd h (by simp)) Ty ⟨by grind [bY],fun k hk=>absurd hk (by simp)⟩ (fun k hk U hU=>?_) (fun m D U hG=>?_) (fun ix ao cap k U hk=>?_)).mono fun e w' h=>adr h
  · obtain rfl:k=0:=by
     grind
    refine(aeD ⟨#[116]⟩ [⟨0,1,FW,false,true⟩,⟨1,2,acf,true,false⟩] 0 none (some (Ad wb 0)) none none 0 2 0 0 U (him.below hU) Ty (by rfl) (by rfl) (by rfl) (by rfl) (by rfl)).mono ?_;rintro e w' ⟨rfl,hb⟩;exact⟨by rfl,hb⟩
  · rw[Tx];exact Z5 _ m U rfl (hG.im 0 hG.pos)
  · refine Xz _ ao cap _ U ?_;rw[kJ] at hk;rw[(s7 _ ix 1 k hk).1];cases ix.getD k 0 <;> rfl
 obtain⟨D,hD⟩:=ex FW;rw[<- hD] at HLK tP;clear hD;have eO:=ai ((aK w.heap.size w).alloc (aM _) (.cells #[Nl,Nl,I 0] 30));have X0:=ai (bG w #[Nl,Nl,I 0] 30);obtain⟨WA,iK⟩:=ex (w.alloc (.cells #[Nl,Nl,I 0] 30));rw[<- iK] at eO X0;have iG:=ai iK;clear iK;go_enter Tryz.func50,Tryz.ntmps50;go_upto_region 1 with fail;rw[<- iG.o];go_upto_region 2 with(first
  | (go_at_call 94;refine(tP.o _).mono ?_;rintro e w1 ⟨rfl,hb1⟩;have cT:=ai (eO.o.trans (hb1.mono eO.o.size));have X1:=ai (aQ X0.o hb1 (aO X0.o));clear hb1)
  | (go_at_call 93;refine(HLK.o _ _ (bG w1 _ _)).mono ?_;rintro e w2 ⟨ar,cr,ah,ch,a1,a2,a3,c1,c2,c3,rfl,h1,h2,h3,h4⟩;have HO:=ai h1;have HH:=ai h2;have fq:=ai h4;clear h1 h2 h4))
 have Sg:=ai (aQ (bE X1.o (.cells #[I 0,I 1,.string D,.bool false,.bool true,I 1,I 2,.string ⟨#[97,98,99]⟩,.bool true,.bool false] 145)) fq.o (by have:=aO X1.o;simp;omega));have HBS:=ai (cT.o.alloc cT.o.size (.cells #[I 0,I 1,.string D,.bool false,.bool true,I 1,I 2,.string ⟨#[97,98,99]⟩,.bool true,.bool false] 145));have jo:=ai (HBS.o.trans (fq.o.mono HBS.o.size));have LF:=ai (bE Sg.o (.cells #[.slice ar 2 cr,.slice ah 3 ch,I 16] 30));have HL3:=ai (bG w2 #[.slice ar 2 cr,.slice ah 3 ch,I 16] 30);have sX:Hid (aH (fun b=>b=w.heap.size) w2 (w2.alloc (.cells #[.slice ar 2 cr,.slice ah 3 ch,I 16] 30))):=aH.alloc _ _ _;have HOW:Hid (∀b,bI (.slice ar 2 cr) b->b≠w.heap.size):=(show ∀b,bI (.slice ar 2 cr) b->b≠w.heap.size from fun b hb e=>by have:=(HO.o.lt b hb).1;rw[iJ] at this;have:=aO X1.o;omega);obtain⟨W4,L8⟩:=ex (w2.alloc (.cells #[.slice ar 2 cr,.slice ah 3 ch,I 16] 30));obtain⟨lb,hlb⟩:=ex w2.heap.size;rw[<- L8] at LF HL3 sX ⊢;rw[<- hlb] at HL3 ⊢;clear L8 hlb;obtain⟨l0,l1,l2⟩:=og HL3.o;obtain⟨y0,y1,y2⟩:=og LF.o;have f0:=aJ LF.o 0;have f1:=aJ LF.o 1;have f2:=aJ LF.o 2;have HKU:=ai (sX.o.trans (vR (D:=fun b=>b=w.heap.size) _ w.heap.size 0 1 2 (.slice ar 2 cr) (.slice ah 3 ch) (I 16) rfl) (fun _ _ g=>g));have qj:=ai (dG (dG (dG LF.o 0 (.slice ar 2 cr)) 1 (.slice ah 3 ch)) 2 (I 16));go_wp2;obtain⟨y0,y1,y2⟩:=og qj.o;refine bR (v:=.agg #[.slice ar 2 cr,.slice ah 3 ch,I 16]) (by simp[results,Tryz.results50,go_sem,y0,y1,y2]) rfl (cZ.o _ _ _ _ a1 a2 a3 c1 c2 c3 _ ?_ ?_ h3 ?_)
 · exact dC.has (HKU.o.row HO.o (fun b hb e=>HOW.o b hb e))
 · exact YV HH.o Sg.o (fun _ _ h=>nomatch h) (fun _ _ h=>nomatch h) (fun b j v hne hc=>HKU.o.cell hc hne) HKU.o.size
 · exact aH.below jo.o HKU.o jo.o.size (fun b hb=>by omega)
theorem XO (l:List bc) (ao:Option Addr) (n cap:Nat) (page aR q:Int) (x y z:Nat) (w:World) (h:eU w (.slice ao n cap) l) (hf:ed l) (hp:dY page) (hn:dY aR) (hx:w.cell? (Ad x 0)=some (I page)) (hy:w.cell? (Ad y 0)=some (I aR)) (hz:w.cell? (Ad z 0)=some (I q)) :
  Calls Tryz.prog 73 #[.slice ao n cap,.pointer (some (Ad x 0)),.pointer (some (Ad y 0)),.pointer (some (Ad z 0))] w fun e w'=>∃ar nr cr,e=.returned (.tuple #[.slice ar nr cr,I (eY l page aR q).2])/\dC w.heap.size w' (.slice ar nr cr) (eY l page aR q).1/\Below w.heap.size w w':=by
 have HM:Hid (Calls Tryz.prog 74 #[.slice ao n cap,I page,I aR,I q] w fun e w'=>∃ar nr cr,e=.returned (.tuple #[.slice ar nr cr,I (eY l page aR q).2])/\dC w.heap.size w' (.slice ar nr cr) (eY l page aR q).1/\Below w.heap.size w w'):=(Qy l (.slice ao n cap) page aR q w h hf hp hn).mono fun e w' ⟨r,h1,h2,h3⟩=>by
  obtain⟨ar,cr,er,_⟩:=aY h2
  grind
 clear h hf hp hn;go_enter Tryz.func73,Tryz.ntmps73;go_wp2_with (go_at_call 74;refine HM.o.mono ?_;rintro e w1 ⟨ar,nr,cr,rfl,h2,h3⟩;have H2:=ai h2;have H3:=ai h3;clear h2 h3)
 refine bR (v:=.tuple #[.slice ar nr cr,I (eY l page aR q).2]) (by simp[results]) rfl ?_
 grind [Hid.o]
theorem Rc (l:List bc) (ao:Option Addr) (n cap:Nat) (page aR:Int) (x y:Nat) (w:World) (h:eU w (.slice ao n cap) l) (hf:ed l) (hp:dY page) (hn:dY aR) (hx:w.cell? (Ad x 0)=some (I page)) (hy:w.cell? (Ad y 0)=some (I aR)) :
  Calls Tryz.prog 75 #[.slice ao n cap,.pointer (some (Ad x 0)),.pointer (some (Ad y 0))] w fun e w'=>∃ar nr cr,e=.returned (.tuple #[.slice ar nr cr,I (dA l page aR).2])/\dC w.heap.size w' (.slice ar nr cr) (dA l page aR).1/\Below w.heap.size w w':=by
 have HM:Hid (Calls Tryz.prog 76 #[.slice ao n cap,I page,I aR] w fun e w'=>∃ar nr cr,e=.returned (.tuple #[.slice ar nr cr,I (dA l page aR).2])/\dC w.heap.size w' (.slice ar nr cr) (dA l page aR).1/\Below w.heap.size w w'):=(Wq l (.slice ao n cap) page aR w h hf hp hn).mono fun e w' ⟨r,h1,h2,h3⟩=>by
  obtain⟨ar,cr,er,_⟩:=aY h2
  grind
 clear h hf hp hn;go_enter Tryz.func75,Tryz.ntmps75;go_wp2_with (go_at_call 76;refine HM.o.mono ?_;rintro e w1 ⟨ar,nr,cr,rfl,h2,h3⟩;have H2:=ai h2;have H3:=ai h3;clear h2 h3)
 refine bR (v:=.tuple #[.slice ar nr cr,I (dA l page aR).2]) (by simp[results]) rfl ?_
 grind [Hid.o]
theorem Nc (l:List bc) (ao:Option Addr) (n cap:Nat) (page aR q:Int) (x y z:Nat) (w:World) (h:eU w (.slice ao n cap) l) (hf:ed l) (hp:dY page) (hn:dY aR) (hx:w.cell? (Ad x 0)=some (I page)) (hy:w.cell? (Ad y 0)=some (I aR)) (hz:w.cell? (Ad z 0)=some (I q)) :
  Calls Tryz.prog 77 #[.slice ao n cap,.pointer (some (Ad x 0)),.pointer (some (Ad y 0)),.pointer (some (Ad z 0))] w fun e w'=>∃ar nr cr,e=.returned (.tuple #[.slice ar nr cr,I (cK l page aR q).2])/\dC w.heap.size w' (.slice ar nr cr) (cK l page aR q).1/\Below w.heap.size w w':=by
 have HM:Hid (Calls Tryz.prog 78 #[.slice ao n cap,I page,I aR,I q] w fun e w'=>∃ar nr cr,e=.returned (.tuple #[.slice ar nr cr,I (cK l page aR q).2])/\dC w.heap.size w' (.slice ar nr cr) (cK l page aR q).1/\Below w.heap.size w w'):=(Qx l (.slice ao n cap) page aR q w h hf hp hn).mono fun e w' ⟨r,h1,h2,h3⟩=>by
  obtain⟨ar,cr,er,_⟩:=aY h2
  grind
 clear h hf hp hn;go_enter Tryz.func77,Tryz.ntmps77;go_wp2_with (go_at_call 78;refine HM.o.mono ?_;rintro e w1 ⟨ar,nr,cr,rfl,h2,h3⟩;have H2:=ai h2;have H3:=ai h3;clear h2 h3)
 refine bR (v:=.tuple #[.slice ar nr cr,I (cK l page aR q).2]) (by simp[results]) rfl ?_
 grind [Hid.o]
theorem Rf (l:List bc) (ao:Option Addr) (n cap:Nat) (e:bC) (x:Nat) (w:World) (hx:w.cell? (Ad x 0)=some (.slice ao n cap)) (h:eU w (.slice ao n cap) l) (hf:ed l) :
  Calls Tryz.prog 120 #[.agg #[I e.page,I e.kind,I e.loc],.pointer (some (Ad x 0))] w fun r w'=>r=.returned (.bool (ju l e))/\Below w.heap.size w w':=by
 obtain⟨WA,iK⟩:=ex (w.alloc (.cells #[I e.page,I e.kind,I e.loc] 45));have hb:Below w.heap.size w WA:=by grind [Below.refl,Below.alloc]
 have hxl:x<w.heap.size:=nQ w _ hx;have xA:WA.cell? (Ad x 0)=some (.slice ao n cap):=(hb.cell (p:=(Ad x 0)) hxl).trans hx;have BN:WA.heap[w.heap.size]?=some (.cells #[I e.page,I e.kind,I e.loc] 45 (0,0)):=by grind [bG]
 have e0:WA.cell? (Ad w.heap.size 0)=some (I e.page):=aB BN 0 rfl;have HF:=ai (uo l (.slice ao n cap) e.page WA (h.below hb) hf);have HB:=ai hb;have iG:=ai iK;unfold ju;obtain⟨r,hr⟩:=ex (aV l e.page);rw[<- hr] at HF ⊢;obtain⟨⟨pg,ps,pr,zr⟩,ok⟩:=r;have E7:Hid (Calls Tryz.prog 70 #[.slice ao n cap,I e.page] WA fun e w'=>e=.returned (.tuple #[.agg #[I pg,I ps,I pr,.bool zr],.bool ok])/\Below WA.heap.size WA w'):=HF.o;clear iK hb BN hr hx h hf HF;go_enter Tryz.func120,Tryz.ntmps120;go_upto_region 1 with fail;rw[<- iG.o];go_wp2_with (go_at_call 70;refine E7.o.mono ?_;rintro e w1 ⟨rfl,hb1⟩;have cT:=ai (HB.o.trans (hb1.mono HB.o.size));clear hb1)
 go_ret;exact⟨by simp,cT.o.alloc cT.o.size _⟩
end Go.Proofs.YtpgifpeohlllfaaGreat
end Go.Proofs.YtpgifpeohlllfaaGreat
