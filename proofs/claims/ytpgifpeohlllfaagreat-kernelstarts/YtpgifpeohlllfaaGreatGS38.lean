import Derived.Test.YtpgifpeohlllfaaGreatGS37
set_option maxHeartbeats 20000000
set_option linter.unusedVariables false
set_option maxRecDepth 100000
set_option linter.unusedSimpArgs false
namespace Go.Proofs.YtpgifpeohlllfaaGreat
namespace LW
open Go.RowKit Go.WideMaps Go.Maps
open W (ai)
theorem Kk (p:LM.Li) (libs:List LM.Li) (ao:Option Addr) (cap:Nat) (w:World) (hp:M.nt w p.a p.i) (h:LM.Ic w ao libs) (YD:M.Fit p.i) (hf:LM.aaa libs)
  (qz:∀k,k<(p::libs).length->∀V,Below w.heap.size w V->Calls Tryz.prog 158 #[.agg (M.fD (LM.cD (p::libs) k).a (LM.cD (p::libs) k).i)] V fun e w'=>e=.returned (I (M.j5 (LM.cD (p::libs) k).i))/\Below V.heap.size V w')
  (hga:∀m D V,Gi (p::libs) m D V->Calls Tryz.prog 133 #[LM.Ep (LM.cD (p::libs) 0),.map (some m)] V (Sz (p::libs) (LM.W7 (p::libs) (p::libs).length 0 [0]) V))
  (hpx:∀ix ao cap k V,k<(LM.cM (p::libs) 1 ix).length->Calls Tryz.prog 161 #[.agg (LM.lj (LM.ek (LM.cM (p::libs) 1 ix) k)),.slice ao (LM.cM (p::libs) 1 ix).length cap] V (Bw (LM.ye (LM.cM (p::libs) 1 ix) (LM.ek (LM.cM (p::libs) 1 ix) k)) V)) :
  Calls Tryz.prog 93 #[LM.Ep p,.slice ao libs.length cap] w (Zm (p::libs) w):=by
 have hsl:libs.length<=140737488351232:=hf.1
 have HP:=ai hp
 have Z3:=ai qz
 have ZU:=ai hga
 have ZB:=ai hpx
 have HL:=ai h
 have Xj:Hid (∀V,Below w.heap.size w V->∀k,k<(p::libs).length->M.nt V (LM.cD (p::libs) k).a (LM.cD (p::libs) k).i):=fun V hb k hk=>by
  cases k with
  | zero=>exact hp.below hb
  | succ k =>
   have hk':k<libs.length:=by simpa using hk
   obtain⟨b,off,_,_,hl⟩:=h (by omega)
   exact(hl k hk').2.below hb
 have nJ:Hid (∀k,k<(p::libs).length->M.Fit (LM.cD (p::libs) k).i):=fun k hk=>by
  cases k with
  | zero=>exact YD
  | succ k=>exact hf.2 k (by simpa using hk)
 clear hp h YD hf qz hga hpx
 have Uf:=ai (((Below.refl w.heap.size w).alloc (Nat.le_refl _) (.cells (M.fD p.a p.i) 151)).alloc (by simp) (.cells #[Nl,Nl,I 0] 30))
 have BM:=ai (B.alloc (B.new w (M.fD p.a p.i) 151) (.cells #[Nl,Nl,I 0] 30))
 have BR0:=B.new (w.alloc (.cells (M.fD p.a p.i) 151)) #[Nl,Nl,I 0] 30
 rw[World.size_alloc] at BR0
 have BR:=ai BR0
 clear BR0
 unfold LM.Ep
 go_enter Tryz.func93,Tryz.ntmps93
 by_cases h6:6<libs.length
 · have HE:Hid (LM.ij (p::libs)=2):=by
    show _=_
    unfold LM.ij
    rw[if_pos (by simp;omega)]
   clear BM BR
   simp only[M.fD] at Uf ⊢
   go_wp2
   exact bodyPost_ret (v:=.tuple #[.agg #[Nl,Nl,I 0],I 2]) (by simp[results,Tryz.results93,go_sem]) rfl ⟨Uf.o,by rw[HE.o];simp⟩
 · have h7:(p::libs).length<=7:=by simp;omega
   have VV:Hid ((((w.alloc (.cells (M.fD p.a p.i) 151)).alloc (.cells #[Nl,Nl,I 0] 30)).alloc (.cells (M.fD p.a p.i) 151)).ownsRow (w.heap.size+2) 151 6 (.slice (some (Ad (w.heap.size+2) 0)) 1 1) 1 (LM.bT p)):=by
    have h:=World.ownsRow_lit (base:=w.heap.size+2) (e:=151) (size:=6) ((w.alloc (.cells (M.fD p.a p.i) 151)).alloc (.cells #[Nl,Nl,I 0] 30)) (M.fD p.a p.i) 1 (by simp) (by decide) rfl
    have e:((w.alloc (.cells (M.fD p.a p.i) 151)).alloc (.cells #[Nl,Nl,I 0] 30)).heap.size=w.heap.size+2:=by simp
    rw[e] at h
    exact h
   have cZ:=ai (Uf.o.alloc (by simp;omega) (.cells (M.fD p.a p.i) 151))
   have Tk:=ai (B.alloc BM.o (.cells (M.fD p.a p.i) 151))
   have FP:=ai (B.alloc BR.o (.cells (M.fD p.a p.i) 151))
   clear BM BR Uf
   simp only[M.fD] at VV cZ Tk FP ⊢
   go_wp2_with (at_builtin;refine rD rfl _ _ rfl (w.heap.size+2) p (w.heap.size+2) (by first | rfl | simp) VV.o ao cap libs rfl (HL.o.below cZ.o) (by omega) (by simp) ?_;intro gg Zh w1 hown hgrow hlt;have bI:=ai (cZ.o.grown hgrow (by simp;omega) (fun q hq=>by injection hq with hq;omega));have BM1:=ai (B.grown Tk.o hgrow (by simp));have BR1:=ai (B.grown FP.o hgrow (by simp));have Qj:=ai (Ux (l:=p::libs) hown hlt (Xj.o _ bI.o));clear hown hgrow hlt)
   obtain⟨all,hall⟩:=ex (p::libs)
   have HLI:Hid (LM.cD all 0=p):=by rw[hall];rfl
   have hlen:libs.length+1=all.length:=by rw[hall];rfl
   rw[<- hall] at Qj Xj nJ h7 Z3 ZU ZB
   rw[<- hall,hlen]
   clear VV cZ Tk FP HL
   have PU:=ai hall
   clear hall
   refine(E5 all _ _ _ Qj.o ⟨by unfold M.bf;omega,nJ.o⟩ (fun k hk V hV=>Z3.o k hk V (bI.o.trans (hV.mono bI.o.size)))).mono ?_
   rintro e w2 ⟨hb,hout⟩
   have ck:=ai (bI.o.trans (hb.mono bI.o.size))
   have Tm:=ai (B.below BM1.o hb (B.isLt BM1.o))
   have Uj:=ai (B.below BR1.o hb (B.isLt BR1.o))
   clear hb BM1 BR1 bI Qj
   by_cases hby:LM.mG all=0
   · rw[if_pos hby] at hout
     obtain⟨m,D,rfl,hmap,qy⟩:=hout
     obtain⟨qz,Ex⟩:=LM.Hy hby
     have HGI:Hid (Gi all m D w2):=⟨by omega,h7,qz,nJ.o,Ex,Xj.o _ ck.o,hmap,qy⟩
     have oU:=ai qz
     clear hmap qy Ex qz
     have m0:=B.cell Tm.o 0 rfl
     have m1:=B.cell Tm.o 1 rfl
     have m2:=B.cell Tm.o 2 rfl
     have m3:=B.cell Tm.o 3 rfl
     have m4:=B.cell Tm.o 4 rfl
     have m5:=B.cell Tm.o 5 rfl
     have Fu:=ai hby
     clear hby
     go_wp2_with fail
     have HGA:=ai (ZU.o m D w2 HGI.o)
     rw[HLI.o] at HGA
     refine Calls.mono (P:=Tryz.prog) HGA.o ?_
     rintro e w3 ⟨hb,hout⟩
     have cZ:=ai (ck.o.trans (hb.mono ck.o.size))
     have Tk:=ai (B.below Tm.o hb (B.isLt Tm.o))
     have FP:=ai (B.below Uj.o hb (B.isLt Uj.o))
     clear hb Tm Uj HGA m0 m1 m2 m3 m4 m5
     have r0:=B.cell FP.o 0 rfl
     have r1:=B.cell FP.o 1 rfl
     have r2:=B.cell FP.o 2 rfl
     have rf:=B.free FP.o
     have rl:=B.isLt FP.o
     cases eg:LM.W7 all all.length 0 [0] with
     | none =>
      rw[eg] at hout
      obtain rfl:=hout
      have HE:Hid (LM.ij all=6):=by
       show _=_
       unfold LM.ij
       rw[if_neg (by omega),if_pos Fu.o,eg]
      clear eg
      go_wp2
      exact bodyPost_ret (v:=.tuple #[.agg #[Nl,Nl,I 0],I 6]) (by simp[results,Tryz.results93,go_sem,r0,r1,r2]) rfl ⟨((cZ.o.setCell (by simp) _).setCell (by simp) _).setCell (by simp) _,by rw[<- PU.o,HE.o];simp⟩
     | some ix =>
      rw[eg] at hout
      obtain⟨hok,ao2,cap2,rfl,hO⟩:=hout
      have hpos:=hok.pos
      have hle:=hok.le
      have Mk:Hid (LM.Ae (LM.ek (LM.cM all 1 ix) (ix.length-1))=LM.fP all 1 ix):=LM.Cs all ix 1 hpos
      have VZ:Hid (Oi (LM.cM all 1 ix) ao2 w3):=by
       refine⟨hO,by rw[LM.eQ];omega,fun k hk=>?_,fun k hk=>?_,LM.Np oU.o h7 hok⟩
       · rw[LM.eQ] at hk
         rw[(LM.ml all ix 1 k hk).1]
         exact oU.o _ (hok.lt _ (LM.dX ix k hk))
       · rw[LM.eQ] at hk
         rw[(LM.ml all ix 1 k hk).1]
         exact nJ.o _ (hok.lt _ (LM.dX ix k hk))
      have hxl:ix.length=(LM.cM all 1 ix).length:=(LM.eQ all ix 1).symm
      have Fq:Hid (LM.ij all=if 256<LM.fP all 1 ix then 3 else match LM.lM (LM.cM all 1 ix) with
        | none=>7
        | some _=>0):=by
       show _=_
       unfold LM.ij
       rw[if_neg (by omega),if_pos Fu.o,eg]
       dsimp only
       cases LM.lM (LM.cM all 1 ix) <;> rfl
      have HEG:=ai eg
      obtain⟨EN,Zb⟩:=ex (LM.fP all 1 ix)
      rw[<- Zb] at Mk Fq
      have ZC:=ai (ZB.o ix)
      obtain⟨AY,UX⟩:=ex (LM.cM all 1 ix)
      rw[<- UX] at VZ Fq Mk hO hxl ZC
      have HOB:=ai UX
      rw[hxl] at Mk hpos hle
      rw[hxl]
      clear Zb UX eg hok hxl HGI Fu
      obtain⟨b,off,OE,hbl,bM⟩:=hO hpos
      subst OE
      obtain⟨k1,hk1⟩:=ex (AY.length-1)
      have Oh:k1<AY.length:=by omega
      rw[<- hk1] at Mk
      obtain⟨⟨c0,c1,c2,c3,c4,c5,c6⟩,him⟩:=bM k1 Oh
      have iG:=ai (fun V hb=>jq (LM.ek AY k1) V (him.below hb) (VZ.o.Zg k1 Oh) (by have:=VZ.o.base k1 Oh;omega) (by have:=VZ.o.base k1 Oh;omega))
      obtain⟨o,ho⟩:=ex (LM.ek AY k1)
      rw[<- ho] at c0 c1 c2 c3 c4 c5 c6 iG Mk
      simp only[LM.lj] at iG
      rw[Mk.o] at iG
      have hwr:IntKind.i64.wrap ((AY.length:Int)-1)=(k1:Int):=by rw[IntWalk.i64_in _ (by omega)];omega
      clear ho bM hO him Mk hk1 hlen HP Xj nJ
      by_cases Vt:256<EN
      · have HE:Hid (LM.ij all=3):=by
         show _=_
         rw[Fq.o,if_pos Vt]
        clear Fq
        go_wp2_with (go_at_call 134;refine(iG.o _ (Below.refl _ _)).mono ?_;rintro e w4 ⟨rfl,hb⟩;have iF:=ai (cZ.o.trans (hb.mono cZ.o.size));have Mr:=ai (B.below FP.o hb (B.isLt FP.o));have s0:=B.cell Mr.o 0 rfl;have s1:=B.cell Mr.o 1 rfl;have s2:=B.cell Mr.o 2 rfl;have sf:=B.free Mr.o;have sl:=B.isLt Mr.o;clear hb)
        exact bodyPost_ret (v:=.tuple #[.agg #[Nl,Nl,I 0],I 3]) (by simp[results,Tryz.results93,go_sem,s0,s1,s2]) rfl ⟨((iF.o.setCell (by simp) _).setCell (by simp) _).setCell (by simp) _,by rw[<- PU.o,HE.o];simp⟩
      · have Dn:Hid (∀V,Oi AY (some (Ad b off)) V->Calls Tryz.prog 135 #[.slice (some (Ad b off)) AY.length cap2] V (Jt (LM.lM AY) V)):=fun V hV=>zQ AY _ cap2 V hV (by omega) (fun k hk V' hV'=>ZC.o _ cap2 k V' hk)
        cases es:LM.lM AY with
        | none =>
         have HE:Hid (LM.ij all=7):=by
          show _=_
          rw[Fq.o,if_neg Vt,es]
         rw[es] at Dn
         clear Fq es
         go_wp2_with (first
          | (go_at_call 134;refine(iG.o _ (Below.refl _ _)).mono ?_;rintro e w4 ⟨rfl,hb⟩;have iF:=ai (cZ.o.trans (hb.mono cZ.o.size));have Mr:=ai (B.below FP.o hb (B.isLt FP.o));have BM4:=ai (B.below Tk.o hb (B.isLt Tk.o));have PJ:=ai (VZ.o.below hb);clear hb)
          | (go_at_call 135;refine(Dn.o _ PJ.o).mono ?_;rintro e w5 ⟨hb,rfl⟩;have tS:=ai (iF.o.trans (hb.mono iF.o.size));have Qu:=ai (B.below Mr.o hb (B.isLt Mr.o));have s0:=B.cell Qu.o 0 rfl;have s1:=B.cell Qu.o 1 rfl;have s2:=B.cell Qu.o 2 rfl;have sf:=B.free Qu.o;have sl:=B.isLt Qu.o;clear hb))
         exact bodyPost_ret (v:=.tuple #[.agg #[Nl,Nl,I 0],I 7]) (by simp[results,Tryz.results93,go_sem,s0,s1,s2]) rfl ⟨((tS.o.setCell (by simp) _).setCell (by simp) _).setCell (by simp) _,by rw[<- PU.o,HE.o];simp⟩
        | some E =>
         have HE:Hid (LM.ij all=0):=by
          show _=_
          rw[Fq.o,if_neg Vt,es]
         have HES:=ai es
         rw[es] at Dn
         clear Fq es
         go_wp2_with (first
          | (go_at_call 134;refine(iG.o _ (Below.refl _ _)).mono ?_;rintro e w4 ⟨rfl,hb⟩;have iF:=ai (cZ.o.trans (hb.mono cZ.o.size));have Mr:=ai (B.below FP.o hb (B.isLt FP.o));have BM4:=ai (B.below Tk.o hb (B.isLt Tk.o));have PJ:=ai (VZ.o.below hb);clear hb)
          | (go_at_call 135;refine(Dn.o _ PJ.o).mono ?_;rintro e w5 ⟨hb,hs,ah,ch,hme,rfl,hhh,hcc⟩;have tS:=ai (iF.o.trans (hb.mono iF.o.size));have Qu:=ai (B.below Mr.o hb (B.isLt Mr.o));have BM5:=ai (B.below BM4.o hb (B.isLt BM4.o));have VY:=ai (PJ.o.below hb);have ZM:=ai hme;have HHH:=ai hhh;clear hb hme hhh))
         clear Dn iG VZ PJ FP Mr Tk BM4 cZ r0 r1 r2 rf rl c0 c1 c2 c3 c4 c5 c6 hwr hbl Oh
         obtain⟨b5,abx,Oz,EE,TE⟩:=VY.o.has hpos
         obtain⟨⟨d0,d1,d2,d3,d4,d5,d6⟩,dim⟩:=TE 0 hpos
         have Vg:b=b5:=by injection Oz with Oz;injection Oz
         have YO:off=abx:=by injection Oz with Oz;injection Oz
         rw[<- Vg,<- YO] at d0 d1 d2 d3 d4 d5 d6
         rw[<- Vg] at EE
         simp only[Nat.zero_mul,Nat.add_zero] at d0 d1 d2 d3 d4 d5 d6
         have aiM:=VY.o.base 0 hpos
         have hen:0<=p.i.entry/\p.i.entry<4080:=by
          have h:=LM.CU (oU.o 0 (by omega))
          rw[HLI.o] at h
          exact h
         have Ww:Hid ((LM.cD all 0).i.entry=p.i.entry):=by rw[HLI.o];rfl
         have qJ:Hid (∀V,Below w5.heap.size w5 V->Calls Tryz.prog 136 #[.slice (some (Ad b off)) AY.length cap2] V fun e w'=>∃r,e=.returned r/\AW.Own V.heap.size w' r (LM.nC AY)/\Below V.heap.size V w'):=fun V hb=>p9 AY _ cap2 V (VY.o.below hb) (by omega)
         have HAD:=ai (fun V=>Fg (LM.ek AY 0) p.i.entry V (by omega) (by omega) hen.1 (by omega))
         obtain⟨o0,ho0⟩:=ex (LM.ek AY 0)
         have HO0:=ai ho0
         rw[<- ho0] at d0 d1 d2 d3 d4 d5 d6 HAD
         simp only[LM.lj] at HAD
         have hne:b≠w.heap.size+1:=fun e=>by
          rw[e] at d6
          have h:=Qu.o
          simp[World.cell?,h] at d6
         have HS:Hid (∀V,Below w5.heap.size w5 V->V.cell? (Ad b off)=some (.string o0.i.name)/\V.cell? (Ad b (off+1))=some (.slice o0.a.an o0.i.needs.length o0.a.cn)/\V.cell? (Ad b (off+2))=some (.slice o0.a.ag o0.i.dm.length o0.a.cg)/\V.cell? (Ad b (off+3))=some (.slice o0.a.ay o0.i.syms.length o0.a.cy)/\V.cell? (Ad b (off+4))=some (.slice o0.a.ar o0.i.fN.length o0.a.cr)/\V.cell? (Ad b (off+5))=some (I o0.i.entry)/\V.cell? (Ad b (off+6))=some (I o0.base)/\V.cell? (Ad w.heap.size 5)=some (I p.i.entry)):=fun V hb=>⟨(M.bk hb EE).trans d0,(M.bk hb EE).trans d1,(M.bk hb EE).trans d2,(M.bk hb EE).trans d3,(M.bk hb EE).trans d4,(M.bk hb EE).trans d5,(M.bk hb EE).trans d6,B.cell (B.below BM5.o hb (B.isLt BM5.o)) 5 rfl⟩
         obtain⟨AD,hAD⟩:=ex (LM.wh o0 p.i.entry)
         rw[<- hAD] at HAD
         have aev:=ai hAD
         clear ho0 hAD d0 d1 d2 d3 d4 d5 d6 dim TE Oz Vg YO
         have iW:=ai (Below.refl w5.heap.size w5).drew
         have eX:=ai (HS.o _ iW.o)
         go_region_held3 (fun V=>V.cell? (Ad b off)=some (.string o0.i.name)/\V.cell? (Ad b (off+1))=some (.slice o0.a.an o0.i.needs.length o0.a.cn)/\V.cell? (Ad b (off+2))=some (.slice o0.a.ag o0.i.dm.length o0.a.cg)/\V.cell? (Ad b (off+3))=some (.slice o0.a.ay o0.i.syms.length o0.a.cy)/\V.cell? (Ad b (off+4))=some (.slice o0.a.ar o0.i.fN.length o0.a.cr)/\V.cell? (Ad b (off+5))=some (I o0.i.entry)/\V.cell? (Ad b (off+6))=some (I o0.base)/\V.cell? (Ad w.heap.size 5)=some (I p.i.entry)) (first | exact HS7.o | exact sG.o | exact eX.o | exact VM.o _ _ _)
          (first
           | (go_at_call 136;refine(qJ.o _ iW.o).mono ?_;rintro e w6 ⟨v8,rfl,KU,hb⟩;obtain⟨ar,cr,hrv,hrg⟩:=uq KU;subst hrv;have Ii:=ai KU;have ZQ:=ai (iW.o.trans (hb.mono iW.o.size));have sG:=ai (HS.o _ ZQ.o);clear hb KU hrg)
           | (go_at_call 137;refine(HAD.o _).mono ?_;rintro e w7 ⟨rfl,hb⟩;have Xi:=ai (ZQ.o.trans (hb.mono ZQ.o.size));have HS7:=ai (HS.o _ Xi.o);have adm:=ai (qh Ii.o hb);have Xq:=ai (B.below Qu.o Xi.o (B.isLt Qu.o));have s0:=B.cell Xq.o 0 rfl;have s1:=B.cell Xq.o 1 rfl;have s2:=B.cell Xq.o 2 rfl;have sf:=B.free Xq.o;have sl:=B.isLt Xq.o;have VM:Hid (∀u0 u1 u2,(fun V:World=>V.cell? (Ad b off)=some (.string o0.i.name)/\V.cell? (Ad b (off+1))=some (.slice o0.a.an o0.i.needs.length o0.a.cn)/\V.cell? (Ad b (off+2))=some (.slice o0.a.ag o0.i.dm.length o0.a.cg)/\V.cell? (Ad b (off+3))=some (.slice o0.a.ay o0.i.syms.length o0.a.cy)/\V.cell? (Ad b (off+4))=some (.slice o0.a.ar o0.i.fN.length o0.a.cr)/\V.cell? (Ad b (off+5))=some (I o0.i.entry)/\V.cell? (Ad b (off+6))=some (I o0.base)/\V.cell? (Ad w.heap.size 5)=some (I p.i.entry)) (((w7.setCell (Ad (w.heap.size+1) 0) u0).setCell (Ad (w.heap.size+1) 1) u1).setCell (Ad (w.heap.size+1) 2) u2)):=(fun u0 u1 u2=>by have h:=HS7.o;have hw:w.heap.size≠w.heap.size+1:=(by omega);simp only[kE _ _ _ _ _ _ _ hne,kE _ _ _ _ _ _ _ hw];exact h);clear hb))
         have ad5:=ai (Lh Xq.o (HHH.o.below Xi.o) (.slice ar (LM.nC AY).length cr) (.slice ah hs.length ch) (I AD))
         have ZF:=ai (M9 (rb:=w.heap.size+1) adm.o (Nat.lt_of_lt_of_le (B.isLt Qu.o) iW.o.size) (.slice ar (LM.nC AY).length cr) (.slice ah hs.length ch) (I AD))
         have HB7:=ai ((((tS.o.trans (Xi.o.mono tS.o.size)).setCell (p:=(Ad (w.heap.size+1) 0)) (by simp) (.slice ar (LM.nC AY).length cr)).setCell (p:=(Ad (w.heap.size+1) 1)) (by simp) (.slice ah hs.length ch)).setCell (p:=(Ad (w.heap.size+1) 2)) (by simp) (I AD))
         go_wp2
         refine bodyPost_ret (v:=.tuple #[.agg #[.slice ar (LM.nC AY).length cr,.slice ah hs.length ch,I AD],I 0]) (by simp[results,Tryz.results93,go_sem,s0,s1,s2]) rfl ⟨HB7.o,?_⟩
         rw[<- PU.o,HE.o,if_pos rfl]
         refine⟨ix,E,.slice ar (LM.nC AY).length cr,hs,ah,ch,HEG.o,by rw[<- HOB.o];exact HES.o,ZM.o,?_,?_,ad5.o,hcc⟩
         · rw[Ww.o,<- HOB.o,<- HO0.o,<- aev.o]
         · rw[<- HOB.o]
           exact ZF.o.mono (Nat.le_trans tS.o.size iW.o.size)
   · rw[if_neg hby] at hout
     subst hout
     have HE:Hid (LM.ij all=LM.mG all):=by
      show _=_
      unfold LM.ij
      rw[if_neg (by omega),if_neg hby]
     obtain⟨er,her⟩:=ex (LM.mG all)
     rw[<- her] at HE hby
     rw[<- her]
     have hbz:(er==0)=false:=by simpa using hby
     have r0:=B.cell Uj.o 0 rfl
     have r1:=B.cell Uj.o 1 rfl
     have r2:=B.cell Uj.o 2 rfl
     have rf:=B.free Uj.o
     have rl:=B.isLt Uj.o
     clear her
     go_wp2
     exact bodyPost_ret (v:=.tuple #[.agg #[Nl,Nl,I 0],I er]) (by simp[results,Tryz.results93,go_sem,r0,r1,r2]) rfl ⟨((ck.o.setCell (by simp) _).setCell (by simp) _).setCell (by simp) _,by rw[<- PU.o,HE.o,if_neg hby]⟩
end LW
namespace LW
open Go.RowKit
open W (ai)
theorem M7 (l:List LM.Ob) (ao:Option Addr) (cap:Nat) (o:LM.Ob) (w:World) (hr:o.i.fN=[]):Calls Tryz.prog 161 #[.agg (LM.lj o),.slice ao l.length cap] w (Bw (LM.ye l o) w):=by
 have e:LM.ye l o=some []:=by unfold LM.ye;rw[hr];rfl
 rw[e]
 unfold LM.lj
 rw[hr]
 obtain⟨⟨nm,ns,gs,ys,rs,en⟩,⟨an,cn,ag,cg,ay,cy,ar,cr⟩,bs⟩:=o
 simp only at hr ⊢
 clear hr e
 obtain⟨n1,h1⟩:∃n,n=ns.length:=⟨_,rfl⟩
 obtain⟨n2,h2⟩:∃n,n=gs.length:=⟨_,rfl⟩
 obtain⟨n3,h3⟩:∃n,n=ys.length:=⟨_,rfl⟩
 rw[<- h1,<- h2,<- h3]
 clear h1 h2 h3
 have HB:=ai ((Below.refl w.heap.size w).alloc (Nat.le_refl _) (.cells #[.string nm,.slice an n1 cn,.slice ag n2 cg,.slice ay n3 cy,.slice ar 0 cr,I en,I bs] 195))
 have bw:Hid (∀w',Below w.heap.size w w'->Bw (some []) w (.returned (.tuple #[Nl,.bool true])) w'):=fun w' hb=>⟨hb,_,rfl,World.ownsRow_nil _ _ _ _⟩
 obtain⟨P,hP⟩:=ex (Bw (some []) w)
 rw[<- hP] at bw ⊢
 clear hP
 simp only[List.length_nil]
 go_enter Tryz.func161,Tryz.ntmps161
 go_wp2
 go_loopw [6,17] (fun sv iv wr=>sv=Nl/\iv=I 0/\Below w.heap.size w wr) (fun _ _ _=>0)
 case atStart=>exact⟨rfl,rfl,HB.o⟩
 case round =>
  obtain⟨rfl,rfl,hb⟩:=hrel
  have ck:=ai hb
  clear hb
  go_wp2
  exact bw.o _ ck.o
theorem Ru (p:LM.Li) (m:Nat) (w:World) (hn:p.i.needs=[]) (him:M.nt w p.a p.i):Calls Tryz.prog 133 #[LM.Ep p,.map (some m)] w (Sz [p] (some [0]) w):=by
 have bw:Hid (∀(w':World) g,w'.heap[g]?=some (.cells #[.string p.i.name,.slice p.a.an p.i.needs.length p.a.cn,.slice p.a.ag p.i.dm.length p.a.cg,.slice p.a.ay p.i.syms.length p.a.cy,.slice p.a.ar p.i.fN.length p.a.cr,I p.i.entry,I 1] 195 (0,0))->Below w.heap.size w w'->Sz [p] (some [0]) w (.returned (.tuple #[.slice (some (Ad g 0)) 1 1,.bool true])) w'):=fun w' g h1 h2=>by
  refine⟨h2,⟨by decide,by decide,fun j hj=>?_⟩,some (Ad g 0),1,rfl,fun _=>⟨g,0,rfl,B.isLt h1,fun k hk=>?_⟩⟩
  · simp at hj;subst hj;exact Nat.zero_lt_one
  · obtain rfl:k=0:=by have:k<1:=hk;omega
    exact⟨⟨B.cell h1 0 rfl,B.cell h1 1 rfl,B.cell h1 2 rfl,B.cell h1 3 rfl,B.cell h1 4 rfl,B.cell h1 5 rfl,B.cell h1 6 rfl⟩,him.below h2⟩
 obtain⟨P,hP⟩:=ex (Sz [p] (some [0]) w)
 rw[<- hP] at bw ⊢
 clear hP him
 unfold LM.Ep M.fD
 rw[hn] at bw ⊢
 obtain⟨⟨nm,ns,gs,ys,rs,en⟩,⟨an,cn,ag,cg,ay,cy,ar,cr⟩⟩:=p
 simp only at bw ⊢
 clear hn
 obtain⟨n2,h2⟩:∃n,n=gs.length:=⟨_,rfl⟩
 obtain⟨n3,h3⟩:∃n,n=ys.length:=⟨_,rfl⟩
 obtain⟨n4,h4⟩:∃n,n=rs.length:=⟨_,rfl⟩
 rw[<- h2,<- h3,<- h4] at bw ⊢
 simp only[List.length_nil] at bw ⊢
 clear h2 h3 h4
 have HB:=ai (((Below.refl w.heap.size w).alloc (Nat.le_refl _) (.cells #[.string nm,.slice an 0 cn,.slice ag n2 cg,.slice ay n3 cy,.slice ar n4 cr,I en] 151)).alloc (by simp) (.cells #[.string nm,.slice an 0 cn,.slice ag n2 cg,.slice ay n3 cy,.slice ar n4 cr,I en,I 1] 195))
 have HX:Hid (((w.alloc (.cells #[.string nm,.slice an 0 cn,.slice ag n2 cg,.slice ay n3 cy,.slice ar n4 cr,I en] 151)).alloc (.cells #[.string nm,.slice an 0 cn,.slice ag n2 cg,.slice ay n3 cy,.slice ar n4 cr,I en,I 1] 195)).heap[w.heap.size+1]?=some (.cells #[.string nm,.slice an 0 cn,.slice ag n2 cg,.slice ay n3 cy,.slice ar n4 cr,I en,I 1] 195 (0,0))):=by
  have:=B.new (w.alloc (.cells #[.string nm,.slice an 0 cn,.slice ag n2 cg,.slice ay n3 cy,.slice ar n4 cr,I en] 151)) #[.string nm,.slice an 0 cn,.slice ag n2 cg,.slice ay n3 cy,.slice ar n4 cr,I en,I 1] 195
  rw[World.size_alloc] at this
  exact this
 go_enter Tryz.func133,Tryz.ntmps133
 go_wp2
 obtain⟨g,hg⟩:=ex (w.heap.size+1)
 rw[<- hg] at HX ⊢
 clear hg
 go_loopw [6,7] (fun sv iv wr=>sv=.slice (some (Ad g 0)) 1 1/\(∃k:Nat,k<=1/\iv=I (k:Int))/\wr.heap[g]?=some (.cells #[.string nm,.slice an 0 cn,.slice ag n2 cg,.slice ay n3 cy,.slice ar n4 cr,I en,I 1] 195 (0,0))/\Below w.heap.size w wr) (fun _ iv _=>1-(intOf iv).toNat)
 case atStart=>exact⟨rfl,⟨0,by omega,rfl⟩,HX.o,HB.o⟩
 case round =>
  obtain⟨rfl,⟨k,hk,rfl⟩,hx,hb⟩:=hrel
  have T4:=ai hx
  have ck:=ai hb
  have x1:wr.cell? (Ad g 1)=some (.slice an 0 cn):=B.cell hx 1 rfl
  clear hx hb HX HB
  by_cases h0:k=0
  · subst h0
    go_wp2
    clear x1
    go_loopw [6,28] (fun sv iv wi=>sv=.slice (some (Ad g 0)) 1 1/\iv=I 0/\wi.heap[g]?=some (.cells #[.string nm,.slice an 0 cn,.slice ag n2 cg,.slice ay n3 cy,.slice ar n4 cr,I en,I 1] 195 (0,0))/\Below w.heap.size w wi) (fun _ _ _=>0)
    case atStart=>exact⟨rfl,rfl,T4.o,ck.o⟩
    case round =>
     obtain⟨rfl,rfl,hx,hb⟩:=hrel
     have Fi:=ai hx
     have cZ:=ai hb
     clear hx hb T4 ck
     go_wp2
     go_roundw
     case rel=>exact⟨rfl,⟨1,by omega,by first | rfl | go_num⟩,Fi.o,cZ.o⟩
     case measure=>simp[intOf]
  · obtain rfl:k=1:=by omega
    go_wp2
    exact bw.o _ _ T4.o ck.o
end LW
namespace KG
open Go.RowKit GK
open FW (ai aB)
def Ps (w:World) (e:Ending) (w':World):Prop:=∃ar cr ah ch a1 a2 a3 c1 c2 c3,e=.returned (.agg #[.slice ar 2 cr,.slice ah 3 ch,I 16])/\AW.Has w' (.slice ar 2 cr) FZ/\LM.gT w' ah (pq a1 a2 a3 c1 c2 c3)/\3<=ch/\Below w.heap.size w w'
theorem UB {a:M.At} {w w':World} {e:Ending} (h:LW.Zm [⟨tU,a⟩] w e w'):∃ar cr ah ch a1 a2 a3 c1 c2 c3,e=.returned (.tuple #[.agg #[.slice ar 2 cr,.slice ah 3 ch,I 16],I 0])/\AW.Own w.heap.size w' (.slice ar 2 cr) FZ/\LM.gT w' ah (pq a1 a2 a3 c1 c2 c3)/\3<=ch/\Below w.heap.size w w':=by
 obtain⟨hb,h2⟩:=h
 rw[if_pos (Ut a)] at h2
 obtain⟨ix,E,r,hs,ao,cap,h3,h4,h5,h6,h7,h8,h9⟩:=h2
 rw[ME] at h3
 injection h3 with h3
 subst h3
 rw[Uq] at h4 h6 h7
 rw[JN] at h4
 injection h4 with h4
 subst h4
 rw[MH] at h7
 rw[MG] at h6
 obtain⟨a1,a2,a3,c1,c2,c3,rfl⟩:=Tq h5
 obtain⟨ar,cr,hr,_⟩:=LW.uq h7
 subst hr
 exact⟨ar,cr,ao,cap,a1,a2,a3,c1,c2,c3,h6,h7,h8,h9,hb⟩
theorem OD {V U:World} {g:Nat} {x y:Value} {n:Int} {ah:Option Addr} {a1 a2 a3:Option Addr} {c1 c2 c3:Nat} (h:LM.gT V ah (pq a1 a2 a3 c1 c2 c3)) (hg:V.heap[g]?=some (.cells #[x,y,I n] 30 (0,0))) (hx:∀k i,x≠.int k i) (hy:∀k i,y≠.int k i) (hk:∀b j v,b≠g->V.cell? (Ad b j)=some v->U.cell? (Ad b j)=some v) (hs:V.heap.size<=U.heap.size):LM.gT U ah (pq a1 a2 a3 c1 c2 c3):=fun hl=>by
 obtain⟨b,off,rfl,hb,bM⟩:=h hl
 have hne:b≠g:=fun e=>by
  subst e
  obtain⟨d0,d1,_,_⟩:=bM 0 (by unfold pq;simp)
  rw[Nat.zero_mul,Nat.add_zero] at d0 d1
  match off,d0,d1 with
  | 0,d0,_ =>
   rw[B.cell hg 0 (v:=x) rfl] at d0
   injection d0 with d0
   exact hx _ _ d0
  | 1,d0,_ =>
   rw[B.cell hg 1 (v:=y) rfl] at d0
   injection d0 with d0
   exact hy _ _ d0
  | 2,_,d1 =>
   have:V.cell? (Ad b 3)=none:=by simp[World.cell?,hg]
   rw[this] at d1
   cases d1
  | k+3,d0,_ =>
   have:V.cell? (Ad b (k+3))=none:=by simp[World.cell?,hg]
   rw[this] at d0
   cases d0
 refine⟨b,off,rfl,by omega,fun i hi=>?_⟩
 obtain⟨d0,d1,d2,_⟩:=bM i hi
 refine⟨hk _ _ _ hne d0,hk _ _ _ hne d1,hk _ _ _ hne d2,fun h0=>?_⟩
 exfalso
 match i,hi,h0 with
 | 0,_,h0=>exact Nat.not_lt_zero _ h0
 | 1,_,h0=>exact Nat.not_lt_zero _ h0
 | 2,_,h0=>exact Nat.not_lt_zero _ h0
 | i+3,h,_=>exact absurd h (by unfold pq;simp)
theorem JK (w:World):Calls Tryz.prog 50 #[] w (Ps w):=by
 have bw:Hid (∀ar cr ah ch a1 a2 a3 c1 c2 c3 (w':World),AW.Has w' (.slice ar 2 cr) FZ->LM.gT w' ah (pq a1 a2 a3 c1 c2 c3)->3<=ch->Below w.heap.size w w'->Ps w (.returned (.agg #[.slice ar 2 cr,.slice ah 3 ch,I 16])) w'):=fun ar cr ah ch a1 a2 a3 c1 c2 c3 w' h1 h2 h3 h4=>⟨ar,cr,ah,ch,a1,a2,a3,c1,c2,c3,rfl,h1,h2,h3,h4⟩
 obtain⟨P,hP⟩:=ex (Ps w)
 rw[<- hP] at bw ⊢
 clear hP
 have qI:Hid (∀V,Calls Tryz.prog 94 #[.agg #[I 12,I 0,I 0,I 0,I 0]] V fun e w'=>e=.returned (.string KJ)/\Below V.heap.size V w'):=fun V=>by
  have:=PW.KQ ⟨12,0,0,0,0⟩ V
  rw[KH] at this
  exact this
 have S0:Hid (∀wb V,V.heap[wb]?=some (.cells #[I 0,I 1,.string KJ,.bool false,.bool true,I 1,I 2,.string ⟨#[97,98,99]⟩,.bool true,.bool false] 145 (0,0))->Calls Tryz.prog 93 #[.agg #[.string ⟨#[116]⟩,Nl,.slice (some (Ad wb 0)) 2 2,Nl,Nl,I 0],Nl] V fun e w'=>∃ar cr ah ch a1 a2 a3 c1 c2 c3,e=.returned (.tuple #[.agg #[.slice ar 2 cr,.slice ah 3 ch,I 16],I 0])/\AW.Own V.heap.size w' (.slice ar 2 cr) FZ/\LM.gT w' ah (pq a1 a2 a3 c1 c2 c3)/\3<=ch/\Below V.heap.size V w'):=fun wb V hV=>by
  have him:M.nt V ⟨none,0,some (Ad wb 0),2,none,0,none,0⟩ tU:=⟨fun h=>absurd h (Nat.not_lt_zero _),fun _=>⟨wb,0,rfl,B.isLt hV,fun i hi=>by
   have:i<2:=hi
   rcases(show i=0∨i=1 by omega) with rfl | rfl
   · exact⟨B.cell hV 0 rfl,B.cell hV 1 rfl,B.cell hV 2 rfl,B.cell hV 3 rfl,B.cell hV 4 rfl⟩
   · exact⟨B.cell hV 5 rfl,B.cell hV 6 rfl,B.cell hV 7 rfl,B.cell hV 8 rfl,B.cell hV 9 rfl⟩⟩,fun h=>absurd h (Nat.not_lt_zero _),fun h=>absurd h (Nat.not_lt_zero _)⟩
  refine(LW.Kk ⟨tU,⟨none,0,some (Ad wb 0),2,none,0,none,0⟩⟩ [] none 0 V him (fun h=>absurd h (by simp)) MF ⟨by unfold M.bf;decide,fun k hk=>absurd hk (by simp)⟩ (fun k hk U hU=>?_) (fun m D U hG=>?_) (fun ix ao cap k U hk=>?_)).mono fun e w' h=>UB h
  · obtain rfl:k=0:=by
     have:k<1:=hk
     omega
    refine(W.Vx ⟨#[116]⟩ [⟨0,1,KJ,false,true⟩,⟨1,2,Zl,true,false⟩] 0 none (some (Ad wb 0)) none none 0 2 0 0 U (him.below hU) MF (by kernel_rfl) (by kernel_rfl) (by kernel_rfl) (by kernel_rfl) (by kernel_rfl)).mono ?_
    rintro e w' ⟨rfl,hb⟩
    exact⟨by rw[show M.j5 (LM.cD [⟨tU,⟨none,0,some (Ad wb 0),2,none,0,none,0⟩⟩] 0).i=0 by kernel_rfl],hb⟩
  · rw[ME]
    exact LW.Ru _ m U rfl (hG.im 0 hG.pos)
  · refine LW.M7 _ ao cap _ U ?_
    rw[LM.eQ] at hk
    rw[(LM.ml _ ix 1 k hk).1]
    cases ix.getD k 0 <;> rfl
 obtain⟨D,hD⟩:=ex KJ
 rw[<- hD] at S0 qI
 clear hD
 have bW:=ai ((Below.refl w.heap.size w).alloc (Nat.le_refl _) (.cells #[Nl,Nl,I 0] 30))
 have X0:=ai (B.new w #[Nl,Nl,I 0] 30)
 obtain⟨WA,dK⟩:=ex (w.alloc (.cells #[Nl,Nl,I 0] 30))
 rw[<- dK] at bW X0
 have gp:=ai dK
 have hxl:=B.isLt X0.o
 clear dK
 go_enter Tryz.func50,Tryz.ntmps50
 go_upto_region 1 with fail
 rw[<- gp.o]
 go_upto_region 2 with(first
  | (go_at_call 94;refine(qI.o _).mono ?_;rintro e w1 ⟨rfl,hb1⟩;have bI:=ai (bW.o.trans (hb1.mono bW.o.size));have X1:=ai (B.below X0.o hb1 (B.isLt X0.o));clear hb1)
  | (go_at_call 93;refine(S0.o _ _ (B.new w1 _ _)).mono ?_;rintro e w2 ⟨ar,cr,ah,ch,a1,a2,a3,c1,c2,c3,rfl,h1,h2,h3,h4⟩;have HO:=ai h1;have HH:=ai h2;have ck:=ai h4;clear h1 h2 h4))
 have T4:=ai (B.below (B.alloc X1.o (.cells #[I 0,I 1,.string D,.bool false,.bool true,I 1,I 2,.string ⟨#[97,98,99]⟩,.bool true,.bool false] 145)) ck.o (by have:=B.isLt X1.o;simp;omega))
 have Z7:=ai (bI.o.alloc bI.o.size (.cells #[I 0,I 1,.string D,.bool false,.bool true,I 1,I 2,.string ⟨#[97,98,99]⟩,.bool true,.bool false] 145))
 have cZ:=ai (Z7.o.trans (ck.o.mono Z7.o.size))
 have Fi:=ai (B.alloc T4.o (.cells #[.slice ar 2 cr,.slice ah 3 ch,I 16] 30))
 have HL3:=ai (B.new w2 #[.slice ar 2 cr,.slice ah 3 ch,I 16] 30)
 have l8:Hid (GK.Kp (fun b=>b=w.heap.size) w2 (w2.alloc (.cells #[.slice ar 2 cr,.slice ah 3 ch,I 16] 30))):=GK.Kp.alloc _ _ _
 have HOW:Hid (∀b,KS.blk (.slice ar 2 cr) b->b≠w.heap.size):=(show ∀b,KS.blk (.slice ar 2 cr) b->b≠w.heap.size from fun b hb e=>by have:=(HO.o.lt b hb).1;rw[World.size_alloc] at this;have:=B.isLt X1.o;omega)
 obtain⟨W4,hW4⟩:=ex (w2.alloc (.cells #[.slice ar 2 cr,.slice ah 3 ch,I 16] 30))
 obtain⟨lb,hlb⟩:=ex w2.heap.size
 rw[<- hW4] at Fi HL3 l8 ⊢
 rw[<- hlb] at HL3 ⊢
 clear hW4 hlb hxl
 obtain⟨l0,l1,l2⟩:=B.c3 HL3.o
 obtain⟨y0,y1,y2⟩:=B.c3 Fi.o
 have f0:=B.free Fi.o 0
 have f1:=B.free Fi.o 1
 have f2:=B.free Fi.o 2
 have HKU:=ai (l8.o.trans (GK.tB (D:=fun b=>b=w.heap.size) _ w.heap.size 0 1 2 (.slice ar 2 cr) (.slice ah 3 ch) (I 16) rfl) (fun _ _ g=>g))
 have wV:=ai (B.set (B.set (B.set Fi.o 0 (.slice ar 2 cr)) 1 (.slice ah 3 ch)) 2 (I 16))
 go_wp2
 obtain⟨y0,y1,y2⟩:=B.c3 wV.o
 refine bodyPost_ret (v:=.agg #[.slice ar 2 cr,.slice ah 3 ch,I 16]) (by simp[results,Tryz.results50,go_sem,y0,y1,y2]) rfl (bw.o _ _ _ _ a1 a2 a3 c1 c2 c3 _ ?_ ?_ h3 ?_)
 · exact AW.Own.has (HKU.o.row HO.o (fun b hb e=>HOW.o b hb e))
 · exact OD HH.o T4.o (fun _ _ h=>nomatch h) (fun _ _ h=>nomatch h) (fun b j v hne hc=>HKU.o.cell hc hne) HKU.o.size
 · exact GK.Kp.below cZ.o HKU.o cZ.o.size (fun b hb=>by rw[hb];exact Nat.le_refl _)
end KG
namespace KZ
open Go.RowKit GK KO
open FW (ai aB)
open KS (blk)
end KZ
namespace KZ
open Go.RowKit GK KO
open FW (ai aB)
open KW (bE bD aK aZ fu cI aJ dN bT lh eW dw iN fW)
open KS (Lc bJ oY dC blk cU)
open KX (uS Held ids)
open KY (kX fL dR oP)
end KZ
end Go.Proofs.YtpgifpeohlllfaaGreat
