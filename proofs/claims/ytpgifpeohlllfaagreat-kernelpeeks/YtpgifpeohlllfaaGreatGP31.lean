import Derived.Test.YtpgifpeohlllfaaGreatGP00
import Derived.Test.YtpgifpeohlllfaaGreatGP30
import Derived.Test.YtpgifpeohlllfaaGreatGP29
import Derived.Test.YtpgifpeohlllfaaGreatGP27
import Derived.Test.YtpgifpeohlllfaaGreatGP10
set_option maxHeartbeats 20000000
set_option linter.unusedVariables false
set_option maxRecDepth 100000
set_option linter.unusedSimpArgs false
namespace Go.Proofs.YtpgifpeohlllfaaGreat
namespace LW
open Go.RowKit Go.WideMaps Go.Maps
open W (ai)
theorem IK (p:LM.Li) (libs:List LM.Li) (ao:Option Addr) (cap:Nat) (w:World) (hp:M.mK w p.a p.i) (h:LM.FT w ao libs) (VD:M.Fit p.i) (hf:LM.Xq libs)
  (pI:∀k,k<(p::libs).length->∀V,Below w.heap.size w V->Calls Tryz.prog 158 #[.agg (M.eO (LM.b9 (p::libs) k).a (LM.b9 (p::libs) k).i)] V fun e w'=>e=.returned (I (M.jB (LM.b9 (p::libs) k).i))/\Below V.heap.size V w')
  (hga:∀m D V,Gi (p::libs) m D V->Calls Tryz.prog 133 #[LM.CR (LM.b9 (p::libs) 0),.map (some m)] V (Qk (p::libs) (LM.Uf (p::libs) (p::libs).length 0 [0]) V))
  (hpx:∀ix ao cap k V,k<(LM.cu (p::libs) 1 ix).length->Calls Tryz.prog 161 #[.agg (LM.kI (LM.dK (LM.cu (p::libs) 1 ix) k)),.slice ao (LM.cu (p::libs) 1 ix).length cap] V (zO (LM.wK (LM.cu (p::libs) 1 ix) (LM.dK (LM.cu (p::libs) 1 ix) k)) V)) :
  Calls Tryz.prog 93 #[LM.CR p,.slice ao libs.length cap] w (Ws (p::libs) w):=by
 have hsl:libs.length<=140737488351232:=hf.1
 have HP:=ai hp
 have Xj:=ai pI
 have Xb:=ai hga
 have WM:=ai hpx
 have HL:=ai h
 have Uq:Hid (∀V,Below w.heap.size w V->∀k,k<(p::libs).length->M.mK V (LM.b9 (p::libs) k).a (LM.b9 (p::libs) k).i):=fun V hb k hk=>by
  cases k with
  | zero=>exact hp.below hb
  | succ k =>
   have hk':k<libs.length:=by simpa using hk
   obtain⟨b,off,_,_,hl⟩:=h (by omega)
   exact(hl k hk').2.below hb
 have oo:Hid (∀k,k<(p::libs).length->M.Fit (LM.b9 (p::libs) k).i):=fun k hk=>by
  cases k with
  | zero=>exact VD
  | succ k=>exact hf.2 k (by simpa using hk)
 clear hp h VD hf pI hga hpx
 have RD:=ai (((Below.refl w.heap.size w).alloc (Nat.le_refl _) (.cells (M.eO p.a p.i) 151)).alloc (by simp) (.cells #[Nl,Nl,I 0] 30))
 have BM:=ai (B.alloc (B.new w (M.eO p.a p.i) 151) (.cells #[Nl,Nl,I 0] 30))
 have BR0:=B.new (w.alloc (.cells (M.eO p.a p.i) 151)) #[Nl,Nl,I 0] 30
 rw[World.size_alloc] at BR0
 have BR:=ai BR0
 clear BR0
 unfold LM.CR
 go_enter Tryz.func93,Tryz.ntmps93
 by_cases h6:6<libs.length
 · have HE:Hid (LM.gH (p::libs)=2):=by
    show _=_
    unfold LM.gH
    rw[if_pos (by simp;omega)]
   clear BM BR
   simp only[M.eO] at RD ⊢
   go_wp2
   exact bodyPost_ret (v:=.tuple #[.agg #[Nl,Nl,I 0],I 2]) (by simp[results,Tryz.results93,go_sem]) rfl ⟨RD.o,by rw[HE.o];simp⟩
 · have h7:(p::libs).length<=7:=by simp;omega
   have TN:Hid ((((w.alloc (.cells (M.eO p.a p.i) 151)).alloc (.cells #[Nl,Nl,I 0] 30)).alloc (.cells (M.eO p.a p.i) 151)).ownsRow (w.heap.size+2) 151 6 (.slice (some (Ad (w.heap.size+2) 0)) 1 1) 1 (LM.bQ p)):=by
    have h:=World.ownsRow_lit (base:=w.heap.size+2) (e:=151) (size:=6) ((w.alloc (.cells (M.eO p.a p.i) 151)).alloc (.cells #[Nl,Nl,I 0] 30)) (M.eO p.a p.i) 1 (by simp) (by decide) rfl
    have e:((w.alloc (.cells (M.eO p.a p.i) 151)).alloc (.cells #[Nl,Nl,I 0] 30)).heap.size=w.heap.size+2:=by simp
    rw[e] at h
    exact h
   have dC:=ai (RD.o.alloc (by simp;omega) (.cells (M.eO p.a p.i) 151))
   have QL:=ai (B.alloc BM.o (.cells (M.eO p.a p.i) 151))
   have D5:=ai (B.alloc BR.o (.cells (M.eO p.a p.i) 151))
   clear BM BR RD
   simp only[M.eO] at TN dC QL D5 ⊢
   go_wp2_with (at_builtin;refine qo rfl _ _ rfl (w.heap.size+2) p (w.heap.size+2) (by first | rfl | simp) TN.o ao cap libs rfl (HL.o.below dC.o) (by omega) (by simp) ?_;intro gg Wn w1 hown hgrow hlt;have aZ:=ai (dC.o.grown hgrow (by simp;omega) (fun q hq=>by injection hq with hq;omega));have BM1:=ai (B.grown QL.o hgrow (by simp));have BR1:=ai (B.grown D5.o hgrow (by simp));have HI1:=ai (R9 (l:=p::libs) hown hlt (Uq.o _ aZ.o));clear hown hgrow hlt)
   obtain⟨all,hall⟩:=ex (p::libs)
   have WZ:Hid (LM.b9 all 0=p):=by rw[hall];rfl
   have hlen:libs.length+1=all.length:=by rw[hall];rfl
   rw[<- hall] at HI1 Uq oo h7 Xj Xb WM
   rw[<- hall,hlen]
   clear TN dC QL D5 HL
   have NH:=ai hall
   clear hall
   refine(Ds all _ _ _ HI1.o ⟨by unfold M.br;omega,oo.o⟩ (fun k hk V hV=>Xj.o k hk V (aZ.o.trans (hV.mono aZ.o.size)))).mono ?_
   rintro e w2 ⟨hb,hout⟩
   have bY:=ai (aZ.o.trans (hb.mono aZ.o.size))
   have QM:=ai (B.below BM1.o hb (B.isLt BM1.o))
   have RJ:=ai (B.below BR1.o hb (B.isLt BR1.o))
   clear hb BM1 BR1 aZ HI1
   by_cases hby:LM.lV all=0
   · rw[if_pos hby] at hout
     obtain⟨m,D,rfl,hmap,pH⟩:=hout
     obtain⟨pI,CY⟩:=LM.Fy hby
     have HGI:Hid (Gi all m D w2):=⟨by omega,h7,pI,oo.o,CY,Uq.o _ bY.o,hmap,pH⟩
     have sI:=ai pI
     clear hmap pH CY pI
     have m0:=B.cell QM.o 0 rfl
     have m1:=B.cell QM.o 1 rfl
     have m2:=B.cell QM.o 2 rfl
     have m3:=B.cell QM.o 3 rfl
     have m4:=B.cell QM.o 4 rfl
     have m5:=B.cell QM.o 5 rfl
     have DL:=ai hby
     clear hby
     go_wp2_with fail
     have HGA:=ai (Xb.o m D w2 HGI.o)
     rw[WZ.o] at HGA
     refine Calls.mono (P:=Tryz.prog) HGA.o ?_
     rintro e w3 ⟨hb,hout⟩
     have dC:=ai (bY.o.trans (hb.mono bY.o.size))
     have QL:=ai (B.below QM.o hb (B.isLt QM.o))
     have D5:=ai (B.below RJ.o hb (B.isLt RJ.o))
     clear hb QM RJ HGA m0 m1 m2 m3 m4 m5
     have r0:=B.cell D5.o 0 rfl
     have r1:=B.cell D5.o 1 rfl
     have r2:=B.cell D5.o 2 rfl
     have rf:=B.free D5.o
     have rl:=B.isLt D5.o
     cases eg:LM.Uf all all.length 0 [0] with
     | none =>
      rw[eg] at hout
      obtain rfl:=hout
      have HE:Hid (LM.gH all=6):=by
       show _=_
       unfold LM.gH
       rw[if_neg (by omega),if_pos DL.o,eg]
      clear eg
      go_wp2
      exact bodyPost_ret (v:=.tuple #[.agg #[Nl,Nl,I 0],I 6]) (by simp[results,Tryz.results93,go_sem,r0,r1,r2]) rfl ⟨((dC.o.setCell (by simp) _).setCell (by simp) _).setCell (by simp) _,by rw[<- NH.o,HE.o];simp⟩
     | some ix =>
      rw[eg] at hout
      obtain⟨hok,ao2,cap2,rfl,hO⟩:=hout
      have hpos:=hok.pos
      have hle:=hok.le
      have Kb:Hid (LM.yz (LM.dK (LM.cu all 1 ix) (ix.length-1))=LM.fy all 1 ix):=LM.Au all ix 1 hpos
      have TS:Hid (Oi (LM.cu all 1 ix) ao2 w3):=by
       refine⟨hO,by rw[LM.dX];omega,fun k hk=>?_,fun k hk=>?_,LM.Lt sI.o h7 hok⟩
       · rw[LM.dX] at hk
         rw[(LM.lB all ix 1 k hk).1]
         exact sI.o _ (hok.lt _ (LM.dB ix k hk))
       · rw[LM.dX] at hk
         rw[(LM.lB all ix 1 k hk).1]
         exact oo.o _ (hok.lt _ (LM.dB ix k hk))
      have hxl:ix.length=(LM.cu all 1 ix).length:=(LM.dX all ix 1).symm
      have DK:Hid (LM.gH all=if 256<LM.fy all 1 ix then 3 else match LM.kQ (LM.cu all 1 ix) with
        | none=>7
        | some _=>0):=by
       show _=_
       unfold LM.gH
       rw[if_neg (by omega),if_pos DL.o,eg]
       dsimp only
       cases LM.kQ (LM.cu all 1 ix) <;> rfl
      have HEG:=ai eg
      obtain⟨EN,Wh⟩:=ex (LM.fy all 1 ix)
      rw[<- Wh] at Kb DK
      have WN:=ai (WM.o ix)
      obtain⟨y8,SH⟩:=ex (LM.cu all 1 ix)
      rw[<- SH] at TS DK Kb hO hxl WN
      have HOB:=ai SH
      rw[hxl] at Kb hpos hle
      rw[hxl]
      clear Wh SH eg hok hxl HGI DL
      obtain⟨b,off,Mt,hbl,bC⟩:=hO hpos
      subst Mt
      obtain⟨k1,hk1⟩:=ex (y8.length-1)
      have Mg:k1<y8.length:=by omega
      rw[<- hk1] at Kb
      obtain⟨⟨c0,c1,c2,c3,c4,c5,c6⟩,him⟩:=bC k1 Mg
      have fX:=ai (fun V hb=>iQ (LM.dK y8 k1) V (him.below hb) (TS.o.Wm k1 Mg) (by have:=TS.o.base k1 Mg;omega) (by have:=TS.o.base k1 Mg;omega))
      obtain⟨o,ho⟩:=ex (LM.dK y8 k1)
      rw[<- ho] at c0 c1 c2 c3 c4 c5 c6 fX Kb
      simp only[LM.kI] at fX
      rw[Kb.o] at fX
      have hwr:IntKind.i64.wrap ((y8.length:Int)-1)=(k1:Int):=by rw[IntWalk.i64_in _ (by omega)];omega
      clear ho bC hO him Kb hk1 hlen HP Uq oo
      by_cases Te:256<EN
      · have HE:Hid (LM.gH all=3):=by
         show _=_
         rw[DK.o,if_pos Te]
        clear DK
        go_wp2_with (go_at_call 134;refine(fX.o _ (Below.refl _ _)).mono ?_;rintro e w4 ⟨rfl,hb⟩;have gN:=ai (dC.o.trans (hb.mono dC.o.size));have Kk:=ai (B.below D5.o hb (B.isLt D5.o));have s0:=B.cell Kk.o 0 rfl;have s1:=B.cell Kk.o 1 rfl;have s2:=B.cell Kk.o 2 rfl;have sf:=B.free Kk.o;have sl:=B.isLt Kk.o;clear hb)
        exact bodyPost_ret (v:=.tuple #[.agg #[Nl,Nl,I 0],I 3]) (by simp[results,Tryz.results93,go_sem,s0,s1,s2]) rfl ⟨((gN.o.setCell (by simp) _).setCell (by simp) _).setCell (by simp) _,by rw[<- NH.o,HE.o];simp⟩
      · have Hj:Hid (∀V,Oi y8 (some (Ad b off)) V->Calls Tryz.prog 135 #[.slice (some (Ad b off)) y8.length cap2] V (Hg (LM.kQ y8) V)):=fun V hV=>ye y8 _ cap2 V hV (by omega) (fun k hk V' XX=>WN.o _ cap2 k V' hk)
        cases es:LM.kQ y8 with
        | none =>
         have HE:Hid (LM.gH all=7):=by
          show _=_
          rw[DK.o,if_neg Te,es]
         rw[es] at Hj
         clear DK es
         go_wp2_with (first
          | (go_at_call 134;refine(fX.o _ (Below.refl _ _)).mono ?_;rintro e w4 ⟨rfl,hb⟩;have gN:=ai (dC.o.trans (hb.mono dC.o.size));have Kk:=ai (B.below D5.o hb (B.isLt D5.o));have YH:=ai (B.below QL.o hb (B.isLt QL.o));have Nw:=ai (TS.o.below hb);clear hb)
          | (go_at_call 135;refine(Hj.o _ Nw.o).mono ?_;rintro e w5 ⟨hb,rfl⟩;have ql:=ai (gN.o.trans (hb.mono gN.o.size));have Oe:=ai (B.below Kk.o hb (B.isLt Kk.o));have s0:=B.cell Oe.o 0 rfl;have s1:=B.cell Oe.o 1 rfl;have s2:=B.cell Oe.o 2 rfl;have sf:=B.free Oe.o;have sl:=B.isLt Oe.o;clear hb))
         exact bodyPost_ret (v:=.tuple #[.agg #[Nl,Nl,I 0],I 7]) (by simp[results,Tryz.results93,go_sem,s0,s1,s2]) rfl ⟨((ql.o.setCell (by simp) _).setCell (by simp) _).setCell (by simp) _,by rw[<- NH.o,HE.o];simp⟩
        | some E =>
         have HE:Hid (LM.gH all=0):=by
          show _=_
          rw[DK.o,if_neg Te,es]
         have Yz:=ai es
         rw[es] at Hj
         clear DK es
         go_wp2_with (first
          | (go_at_call 134;refine(fX.o _ (Below.refl _ _)).mono ?_;rintro e w4 ⟨rfl,hb⟩;have gN:=ai (dC.o.trans (hb.mono dC.o.size));have Kk:=ai (B.below D5.o hb (B.isLt D5.o));have YH:=ai (B.below QL.o hb (B.isLt QL.o));have Nw:=ai (TS.o.below hb);clear hb)
          | (go_at_call 135;refine(Hj.o _ Nw.o).mono ?_;rintro e w5 ⟨hb,hs,ah,ch,hme,rfl,hhh,hcc⟩;have ql:=ai (gN.o.trans (hb.mono gN.o.size));have Oe:=ai (B.below Kk.o hb (B.isLt Kk.o));have BM5:=ai (B.below YH.o hb (B.isLt YH.o));have TR:=ai (Nw.o.below hb);have WW:=ai hme;have HHH:=ai hhh;clear hb hme hhh))
         clear Hj fX TS Nw D5 Kk QL YH dC r0 r1 r2 rf rl c0 c1 c2 c3 c4 c5 c6 hwr hbl Mg
         obtain⟨b5,YT,Mq,C5,Q3⟩:=TR.o.has hpos
         obtain⟨⟨d0,d1,d2,d3,d4,d5,d6⟩,dim⟩:=Q3 0 hpos
         have S4:b=b5:=by injection Mq with Mq;injection Mq
         have VO:off=YT:=by injection Mq with Mq;injection Mq
         rw[<- S4,<- VO] at d0 d1 d2 d3 d4 d5 d6
         rw[<- S4] at C5
         simp only[Nat.zero_mul,Nat.add_zero] at d0 d1 d2 d3 d4 d5 d6
         have ae6:=TR.o.base 0 hpos
         have hen:0<=p.i.entry/\p.i.entry<4080:=by
          have h:=LM.Ba (sI.o 0 (by omega))
          rw[WZ.o] at h
          exact h
         have Kf:Hid ((LM.b9 all 0).i.entry=p.i.entry):=by rw[WZ.o];rfl
         have Xo:Hid (∀V,Below w5.heap.size w5 V->Calls Tryz.prog 136 #[.slice (some (Ad b off)) y8.length cap2] V fun e w'=>∃r,e=.returned r/\AW.Own V.heap.size w' r (LM.mR y8)/\Below V.heap.size V w'):=fun V hb=>o8 y8 _ cap2 V (TR.o.below hb) (by omega)
         have HAD:=ai (fun V=>DB (LM.dK y8 0) p.i.entry V (by omega) (by omega) hen.1 (by omega))
         obtain⟨o0,ho0⟩:=ex (LM.dK y8 0)
         have HO0:=ai ho0
         rw[<- ho0] at d0 d1 d2 d3 d4 d5 d6 HAD
         simp only[LM.kI] at HAD
         have hne:b≠w.heap.size+1:=fun e=>by
          rw[e] at d6
          have h:=Oe.o
          simp[World.cell?,h] at d6
         have HS:Hid (∀V,Below w5.heap.size w5 V->V.cell? (Ad b off)=some (.string o0.i.name)/\V.cell? (Ad b (off+1))=some (.slice o0.a.an o0.i.needs.length o0.a.cn)/\V.cell? (Ad b (off+2))=some (.slice o0.a.ag o0.i.cU.length o0.a.cg)/\V.cell? (Ad b (off+3))=some (.slice o0.a.ay o0.i.syms.length o0.a.cy)/\V.cell? (Ad b (off+4))=some (.slice o0.a.ar o0.i.fu.length o0.a.cr)/\V.cell? (Ad b (off+5))=some (I o0.i.entry)/\V.cell? (Ad b (off+6))=some (I o0.base)/\V.cell? (Ad w.heap.size 5)=some (I p.i.entry)):=fun V hb=>⟨(M.aX hb C5).trans d0,(M.aX hb C5).trans d1,(M.aX hb C5).trans d2,(M.aX hb C5).trans d3,(M.aX hb C5).trans d4,(M.aX hb C5).trans d5,(M.aX hb C5).trans d6,B.cell (B.below BM5.o hb (B.isLt BM5.o)) 5 rfl⟩
         obtain⟨AD,hAD⟩:=ex (LM.uN o0 p.i.entry)
         rw[<- hAD] at HAD
         have abp:=ai hAD
         clear ho0 hAD d0 d1 d2 d3 d4 d5 d6 dim Q3 Mq S4 VO
         have iz:=ai (Below.refl w5.heap.size w5).drew
         have gL:=ai (HS.o _ iz.o)
         go_region_held3 (fun V=>V.cell? (Ad b off)=some (.string o0.i.name)/\V.cell? (Ad b (off+1))=some (.slice o0.a.an o0.i.needs.length o0.a.cn)/\V.cell? (Ad b (off+2))=some (.slice o0.a.ag o0.i.cU.length o0.a.cg)/\V.cell? (Ad b (off+3))=some (.slice o0.a.ay o0.i.syms.length o0.a.cy)/\V.cell? (Ad b (off+4))=some (.slice o0.a.ar o0.i.fu.length o0.a.cr)/\V.cell? (Ad b (off+5))=some (I o0.i.entry)/\V.cell? (Ad b (off+6))=some (I o0.base)/\V.cell? (Ad w.heap.size 5)=some (I p.i.entry)) (first | exact HS7.o | exact Bg.o | exact gL.o | exact TF.o _ _ _)
          (first
           | (go_at_call 136;refine(Xo.o _ iz.o).mono ?_;rintro e w6 ⟨v8,rfl,Jb,hb⟩;obtain⟨ar,cr,hrv,hrg⟩:=sX Jb;subst hrv;have Qs:=ai Jb;have W7:=ai (iz.o.trans (hb.mono iz.o.size));have Bg:=ai (HS.o _ W7.o);clear hb Jb hrg)
           | (go_at_call 137;refine(HAD.o _).mono ?_;rintro e w7 ⟨rfl,hb⟩;have Uo:=ai (W7.o.trans (hb.mono W7.o.size));have HS7:=ai (HS.o _ Uo.o);have aay:=ai (py Qs.o hb);have Uz:=ai (B.below Oe.o Uo.o (B.isLt Oe.o));have s0:=B.cell Uz.o 0 rfl;have s1:=B.cell Uz.o 1 rfl;have s2:=B.cell Uz.o 2 rfl;have sf:=B.free Uz.o;have sl:=B.isLt Uz.o;have TF:Hid (∀u0 u1 u2,(fun V:World=>V.cell? (Ad b off)=some (.string o0.i.name)/\V.cell? (Ad b (off+1))=some (.slice o0.a.an o0.i.needs.length o0.a.cn)/\V.cell? (Ad b (off+2))=some (.slice o0.a.ag o0.i.cU.length o0.a.cg)/\V.cell? (Ad b (off+3))=some (.slice o0.a.ay o0.i.syms.length o0.a.cy)/\V.cell? (Ad b (off+4))=some (.slice o0.a.ar o0.i.fu.length o0.a.cr)/\V.cell? (Ad b (off+5))=some (I o0.i.entry)/\V.cell? (Ad b (off+6))=some (I o0.base)/\V.cell? (Ad w.heap.size 5)=some (I p.i.entry)) (((w7.setCell (Ad (w.heap.size+1) 0) u0).setCell (Ad (w.heap.size+1) 1) u1).setCell (Ad (w.heap.size+1) 2) u2)):=(fun u0 u1 u2=>by have h:=HS7.o;have hw:w.heap.size≠w.heap.size+1:=(by omega);simp only[jQ _ _ _ _ _ _ _ hne,jQ _ _ _ _ _ _ _ hw];exact h);clear hb))
         have aa0:=ai (Jj Uz.o (HHH.o.below Uo.o) (.slice ar (LM.mR y8).length cr) (.slice ah hs.length ch) (I AD))
         have WO:=ai (Lg (rb:=w.heap.size+1) aay.o (Nat.lt_of_lt_of_le (B.isLt Oe.o) iz.o.size) (.slice ar (LM.mR y8).length cr) (.slice ah hs.length ch) (I AD))
         have YC:=ai ((((ql.o.trans (Uo.o.mono ql.o.size)).setCell (p:=(Ad (w.heap.size+1) 0)) (by simp) (.slice ar (LM.mR y8).length cr)).setCell (p:=(Ad (w.heap.size+1) 1)) (by simp) (.slice ah hs.length ch)).setCell (p:=(Ad (w.heap.size+1) 2)) (by simp) (I AD))
         go_wp2
         refine bodyPost_ret (v:=.tuple #[.agg #[.slice ar (LM.mR y8).length cr,.slice ah hs.length ch,I AD],I 0]) (by simp[results,Tryz.results93,go_sem,s0,s1,s2]) rfl ⟨YC.o,?_⟩
         rw[<- NH.o,HE.o,if_pos rfl]
         refine⟨ix,E,.slice ar (LM.mR y8).length cr,hs,ah,ch,HEG.o,by rw[<- HOB.o];exact Yz.o,WW.o,?_,?_,aa0.o,hcc⟩
         · rw[Kf.o,<- HOB.o,<- HO0.o,<- abp.o]
         · rw[<- HOB.o]
           exact WO.o.mono (Nat.le_trans ql.o.size iz.o.size)
   · rw[if_neg hby] at hout
     subst hout
     have HE:Hid (LM.gH all=LM.lV all):=by
      show _=_
      unfold LM.gH
      rw[if_neg (by omega),if_neg hby]
     obtain⟨er,her⟩:=ex (LM.lV all)
     rw[<- her] at HE hby
     rw[<- her]
     have hbz:(er==0)=false:=by simpa using hby
     have r0:=B.cell RJ.o 0 rfl
     have r1:=B.cell RJ.o 1 rfl
     have r2:=B.cell RJ.o 2 rfl
     have rf:=B.free RJ.o
     have rl:=B.isLt RJ.o
     clear her
     go_wp2
     exact bodyPost_ret (v:=.tuple #[.agg #[Nl,Nl,I 0],I er]) (by simp[results,Tryz.results93,go_sem,r0,r1,r2]) rfl ⟨((bY.o.setCell (by simp) _).setCell (by simp) _).setCell (by simp) _,by rw[<- NH.o,HE.o,if_neg hby]⟩
end LW
namespace LW
open Go.RowKit
open W (ai)
theorem Le (l:List LM.Ob) (ao:Option Addr) (cap:Nat) (o:LM.Ob) (w:World) (hr:o.i.fu=[]):Calls Tryz.prog 161 #[.agg (LM.kI o),.slice ao l.length cap] w (zO (LM.wK l o) w):=by
 have e:LM.wK l o=some []:=by unfold LM.wK;rw[hr];rfl
 rw[e]
 unfold LM.kI
 rw[hr]
 obtain⟨⟨nm,ns,gs,ys,rs,en⟩,⟨an,cn,ag,cg,ay,cy,ar,cr⟩,bs⟩:=o
 simp only at hr ⊢
 clear hr e
 obtain⟨n1,h1⟩:∃n,n=ns.length:=⟨_,rfl⟩
 obtain⟨n2,h2⟩:∃n,n=gs.length:=⟨_,rfl⟩
 obtain⟨n3,h3⟩:∃n,n=ys.length:=⟨_,rfl⟩
 rw[<- h1,<- h2,<- h3]
 clear h1 h2 h3
 have HB:=ai ((Below.refl w.heap.size w).alloc (Nat.le_refl _) (.cells #[.string nm,.slice an n1 cn,.slice ag n2 cg,.slice ay n3 cy,.slice ar 0 cr,I en,I bs] 195))
 have bh:Hid (∀w',Below w.heap.size w w'->zO (some []) w (.returned (.tuple #[Nl,.bool true])) w'):=fun w' hb=>⟨hb,_,rfl,World.ownsRow_nil _ _ _ _⟩
 obtain⟨P,hP⟩:=ex (zO (some []) w)
 rw[<- hP] at bh ⊢
 clear hP
 simp only[List.length_nil]
 go_enter Tryz.func161,Tryz.ntmps161
 go_wp2
 go_loopw [6,17] (fun sv iv wr=>sv=Nl/\iv=I 0/\Below w.heap.size w wr) (fun _ _ _=>0)
 case atStart=>exact⟨rfl,rfl,HB.o⟩
 case round =>
  obtain⟨rfl,rfl,hb⟩:=hrel
  have bY:=ai hb
  clear hb
  go_wp2
  exact bh.o _ bY.o
theorem Py (p:LM.Li) (m:Nat) (w:World) (hn:p.i.needs=[]) (him:M.mK w p.a p.i):Calls Tryz.prog 133 #[LM.CR p,.map (some m)] w (Qk [p] (some [0]) w):=by
 have bh:Hid (∀(w':World) g,w'.heap[g]?=some (.cells #[.string p.i.name,.slice p.a.an p.i.needs.length p.a.cn,.slice p.a.ag p.i.cU.length p.a.cg,.slice p.a.ay p.i.syms.length p.a.cy,.slice p.a.ar p.i.fu.length p.a.cr,I p.i.entry,I 1] 195 (0,0))->Below w.heap.size w w'->Qk [p] (some [0]) w (.returned (.tuple #[.slice (some (Ad g 0)) 1 1,.bool true])) w'):=fun w' g h1 h2=>by
  refine⟨h2,⟨by decide,by decide,fun j hj=>?_⟩,some (Ad g 0),1,rfl,fun _=>⟨g,0,rfl,B.isLt h1,fun k hk=>?_⟩⟩
  · simp at hj;subst hj;exact Nat.zero_lt_one
  · obtain rfl:k=0:=by have:k<1:=hk;omega
    exact⟨⟨B.cell h1 0 rfl,B.cell h1 1 rfl,B.cell h1 2 rfl,B.cell h1 3 rfl,B.cell h1 4 rfl,B.cell h1 5 rfl,B.cell h1 6 rfl⟩,him.below h2⟩
 obtain⟨P,hP⟩:=ex (Qk [p] (some [0]) w)
 rw[<- hP] at bh ⊢
 clear hP him
 unfold LM.CR M.eO
 rw[hn] at bh ⊢
 obtain⟨⟨nm,ns,gs,ys,rs,en⟩,⟨an,cn,ag,cg,ay,cy,ar,cr⟩⟩:=p
 simp only at bh ⊢
 clear hn
 obtain⟨n2,h2⟩:∃n,n=gs.length:=⟨_,rfl⟩
 obtain⟨n3,h3⟩:∃n,n=ys.length:=⟨_,rfl⟩
 obtain⟨n4,h4⟩:∃n,n=rs.length:=⟨_,rfl⟩
 rw[<- h2,<- h3,<- h4] at bh ⊢
 simp only[List.length_nil] at bh ⊢
 clear h2 h3 h4
 have HB:=ai (((Below.refl w.heap.size w).alloc (Nat.le_refl _) (.cells #[.string nm,.slice an 0 cn,.slice ag n2 cg,.slice ay n3 cy,.slice ar n4 cr,I en] 151)).alloc (by simp) (.cells #[.string nm,.slice an 0 cn,.slice ag n2 cg,.slice ay n3 cy,.slice ar n4 cr,I en,I 1] 195))
 have HX:Hid (((w.alloc (.cells #[.string nm,.slice an 0 cn,.slice ag n2 cg,.slice ay n3 cy,.slice ar n4 cr,I en] 151)).alloc (.cells #[.string nm,.slice an 0 cn,.slice ag n2 cg,.slice ay n3 cy,.slice ar n4 cr,I en,I 1] 195)).heap[w.heap.size+1]?=some (.cells #[.string nm,.slice an 0 cn,.slice ag n2 cg,.slice ay n3 cy,.slice ar n4 cr,I en,I 1] 195 (0,0))):=by
  have:=B.new (w.alloc (.cells #[.string nm,.slice an 0 cn,.slice ag n2 cg,.slice ay n3 cy,.slice ar n4 cr,I en] 151)) #[.string nm,.slice an 0 cn,.slice ag n2 cg,.slice ay n3 cy,.slice ar n4 cr,I en,I 1] 195
  rw[World.size_alloc] at this
  exact this
 go_enter Tryz.func133,Tryz.ntmps133
 go_wp2
 obtain⟨g,hg⟩:=ex (w.heap.size+1)
 rw[<- hg] at HX ⊢
 clear hg
 go_loopw [6,7] (fun sv iv wr=>sv=.slice (some (Ad g 0)) 1 1/\(∃k:Nat,k<=1/\iv=I (k:Int))/\wr.heap[g]?=some (.cells #[.string nm,.slice an 0 cn,.slice ag n2 cg,.slice ay n3 cy,.slice ar n4 cr,I en,I 1] 195 (0,0))/\Below w.heap.size w wr) (fun _ iv _=>1-(intOf iv).toNat)
 case atStart=>exact⟨rfl,⟨0,by omega,rfl⟩,HX.o,HB.o⟩
 case round =>
  obtain⟨rfl,⟨k,hk,rfl⟩,hx,hb⟩:=hrel
  have Rn:=ai hx
  have bY:=ai hb
  have x1:wr.cell? (Ad g 1)=some (.slice an 0 cn):=B.cell hx 1 rfl
  clear hx hb HX HB
  by_cases h0:k=0
  · subst h0
    go_wp2
    clear x1
    go_loopw [6,28] (fun sv iv wi=>sv=.slice (some (Ad g 0)) 1 1/\iv=I 0/\wi.heap[g]?=some (.cells #[.string nm,.slice an 0 cn,.slice ag n2 cg,.slice ay n3 cy,.slice ar n4 cr,I en,I 1] 195 (0,0))/\Below w.heap.size w wi) (fun _ _ _=>0)
    case atStart=>exact⟨rfl,rfl,Rn.o,bY.o⟩
    case round =>
     obtain⟨rfl,rfl,hx,hb⟩:=hrel
     have DD:=ai hx
     have dC:=ai hb
     clear hx hb Rn bY
     go_wp2
     go_roundw
     case rel=>exact⟨rfl,⟨1,by omega,by first | rfl | go_num⟩,DD.o,dC.o⟩
     case measure=>simp[intOf]
  · obtain rfl:k=1:=by omega
    go_wp2
    exact bh.o _ _ Rn.o bY.o
end LW
namespace KG
open Go.RowKit GK
open FW (ai aC)
def Nh (w:World) (e:Ending) (w':World):Prop:=∃ar cr ah ch a1 a2 a3 c1 c2 c3,e=.returned (.agg #[.slice ar 2 cr,.slice ah 3 ch,I 16])/\AW.Has w' (.slice ar 2 cr) Eb/\LM.jg w' ah (ot a1 a2 a3 c1 c2 c3)/\3<=ch/\Below w.heap.size w w'
theorem Sd {a:M.At} {w w':World} {e:Ending} (h:LW.Ws [⟨sB,a⟩] w e w'):∃ar cr ah ch a1 a2 a3 c1 c2 c3,e=.returned (.tuple #[.agg #[.slice ar 2 cr,.slice ah 3 ch,I 16],I 0])/\AW.Own w.heap.size w' (.slice ar 2 cr) Eb/\LM.jg w' ah (ot a1 a2 a3 c1 c2 c3)/\3<=ch/\Below w.heap.size w w':=by
 obtain⟨hb,h2⟩:=h
 rw[if_pos (RX a)] at h2
 obtain⟨ix,E,r,hs,ao,cap,h3,h4,h5,h6,h7,h8,h9⟩:=h2
 rw[KD] at h3
 injection h3 with h3
 subst h3
 rw[RU] at h4 h6 h7
 rw[H5] at h4
 injection h4 with h4
 subst h4
 rw[KH] at h7
 rw[KF] at h6
 obtain⟨a1,a2,a3,c1,c2,c3,rfl⟩:=QP h5
 obtain⟨ar,cr,hr,_⟩:=LW.sX h7
 subst hr
 exact⟨ar,cr,ao,cap,a1,a2,a3,c1,c2,c3,h6,h7,h8,h9,hb⟩
theorem Ms {V U:World} {g:Nat} {x y:Value} {n:Int} {ah:Option Addr} {a1 a2 a3:Option Addr} {c1 c2 c3:Nat} (h:LM.jg V ah (ot a1 a2 a3 c1 c2 c3)) (hg:V.heap[g]?=some (.cells #[x,y,I n] 30 (0,0))) (hx:∀k i,x≠.int k i) (hy:∀k i,y≠.int k i) (hk:∀b j v,b≠g->V.cell? (Ad b j)=some v->U.cell? (Ad b j)=some v) (hs:V.heap.size<=U.heap.size):LM.jg U ah (ot a1 a2 a3 c1 c2 c3):=fun hl=>by
 obtain⟨b,off,rfl,hb,bC⟩:=h hl
 have hne:b≠g:=fun e=>by
  subst e
  obtain⟨d0,d1,_,_⟩:=bC 0 (by unfold ot;simp)
  rw[Nat.zero_mul,Nat.add_zero] at d0 d1
  match off,d0,d1 with
  | 0,d0,_ =>
   rw[B.cell hg 0 (v:=x) rfl] at d0
   injection d0 with d0
   exact hx _ _ d0
  | 1,d0,_ =>
   rw[B.cell hg 1 (v:=y) rfl] at d0
   injection d0 with d0
   exact hy _ _ d0
  | 2,_,d1 =>
   have:V.cell? (Ad b 3)=none:=by simp[World.cell?,hg]
   rw[this] at d1
   cases d1
  | k+3,d0,_ =>
   have:V.cell? (Ad b (k+3))=none:=by simp[World.cell?,hg]
   rw[this] at d0
   cases d0
 refine⟨b,off,rfl,by omega,fun i hi=>?_⟩
 obtain⟨d0,d1,d2,_⟩:=bC i hi
 refine⟨hk _ _ _ hne d0,hk _ _ _ hne d1,hk _ _ _ hne d2,fun h0=>?_⟩
 exfalso
 match i,hi,h0 with
 | 0,_,h0=>exact Nat.not_lt_zero _ h0
 | 1,_,h0=>exact Nat.not_lt_zero _ h0
 | 2,_,h0=>exact Nat.not_lt_zero _ h0
 | i+3,h,_=>exact absurd h (by unfold ot;simp)
theorem Hy (w:World):Calls Tryz.prog 50 #[] w (Nh w):=by
 have bh:Hid (∀ar cr ah ch a1 a2 a3 c1 c2 c3 (w':World),AW.Has w' (.slice ar 2 cr) Eb->LM.jg w' ah (ot a1 a2 a3 c1 c2 c3)->3<=ch->Below w.heap.size w w'->Nh w (.returned (.agg #[.slice ar 2 cr,.slice ah 3 ch,I 16])) w'):=fun ar cr ah ch a1 a2 a3 c1 c2 c3 w' h1 h2 h3 h4=>⟨ar,cr,ah,ch,a1,a2,a3,c1,c2,c3,rfl,h1,h2,h3,h4⟩
 obtain⟨P,hP⟩:=ex (Nh w)
 rw[<- hP] at bh ⊢
 clear hP
 have qX:Hid (∀V,Calls Tryz.prog 94 #[.agg #[I 12,I 0,I 0,I 0,I 0]] V fun e w'=>e=.returned (.string I6)/\Below V.heap.size V w'):=fun V=>by
  have:=PW.I8 ⟨12,0,0,0,0⟩ V
  rw[I5] at this
  exact this
 have Qy:Hid (∀wb V,V.heap[wb]?=some (.cells #[I 0,I 1,.string I6,.bool false,.bool true,I 1,I 2,.string ⟨#[97,98,99]⟩,.bool true,.bool false] 145 (0,0))->Calls Tryz.prog 93 #[.agg #[.string ⟨#[116]⟩,Nl,.slice (some (Ad wb 0)) 2 2,Nl,Nl,I 0],Nl] V fun e w'=>∃ar cr ah ch a1 a2 a3 c1 c2 c3,e=.returned (.tuple #[.agg #[.slice ar 2 cr,.slice ah 3 ch,I 16],I 0])/\AW.Own V.heap.size w' (.slice ar 2 cr) Eb/\LM.jg w' ah (ot a1 a2 a3 c1 c2 c3)/\3<=ch/\Below V.heap.size V w'):=fun wb V hV=>by
  have him:M.mK V ⟨none,0,some (Ad wb 0),2,none,0,none,0⟩ sB:=⟨fun h=>absurd h (Nat.not_lt_zero _),fun _=>⟨wb,0,rfl,B.isLt hV,fun i hi=>by
   have:i<2:=hi
   rcases(show i=0∨i=1 by omega) with rfl | rfl
   · exact⟨B.cell hV 0 rfl,B.cell hV 1 rfl,B.cell hV 2 rfl,B.cell hV 3 rfl,B.cell hV 4 rfl⟩
   · exact⟨B.cell hV 5 rfl,B.cell hV 6 rfl,B.cell hV 7 rfl,B.cell hV 8 rfl,B.cell hV 9 rfl⟩⟩,fun h=>absurd h (Nat.not_lt_zero _),fun h=>absurd h (Nat.not_lt_zero _)⟩
  refine(LW.IK ⟨sB,⟨none,0,some (Ad wb 0),2,none,0,none,0⟩⟩ [] none 0 V him (fun h=>absurd h (by simp)) KE ⟨by unfold M.br;decide,fun k hk=>absurd hk (by simp)⟩ (fun k hk U hU=>?_) (fun m D U hG=>?_) (fun ix ao cap k U hk=>?_)).mono fun e w' h=>Sd h
  · obtain rfl:k=0:=by
     have:k<1:=hk
     omega
    refine(W.Tm ⟨#[116]⟩ [⟨0,1,I6,false,true⟩,⟨1,2,Wq,true,false⟩] 0 none (some (Ad wb 0)) none none 0 2 0 0 U (him.below hU) KE (by kernel_rfl) (by kernel_rfl) (by kernel_rfl) (by kernel_rfl) (by kernel_rfl)).mono ?_
    rintro e w' ⟨rfl,hb⟩
    exact⟨by rw[show M.jB (LM.b9 [⟨sB,⟨none,0,some (Ad wb 0),2,none,0,none,0⟩⟩] 0).i=0 by kernel_rfl],hb⟩
  · rw[KD]
    exact LW.Py _ m U rfl (hG.im 0 hG.pos)
  · refine LW.Le _ ao cap _ U ?_
    rw[LM.dX] at hk
    rw[(LM.lB _ ix 1 k hk).1]
    cases ix.getD k 0 <;> rfl
 obtain⟨D,hD⟩:=ex I6
 rw[<- hD] at Qy qX
 clear hD
 have bI:=ai ((Below.refl w.heap.size w).alloc (Nat.le_refl _) (.cells #[Nl,Nl,I 0] 30))
 have X0:=ai (B.new w #[Nl,Nl,I 0] 30)
 obtain⟨WA,dx⟩:=ex (w.alloc (.cells #[Nl,Nl,I 0] 30))
 rw[<- dx] at bI X0
 have eV:=ai dx
 have hxl:=B.isLt X0.o
 clear dx
 go_enter Tryz.func50,Tryz.ntmps50
 go_upto_region 1 with fail
 rw[<- eV.o]
 go_upto_region 2 with(first
  | (go_at_call 94;refine(qX.o _).mono ?_;rintro e w1 ⟨rfl,hb1⟩;have aZ:=ai (bI.o.trans (hb1.mono bI.o.size));have X1:=ai (B.below X0.o hb1 (B.isLt X0.o));clear hb1)
  | (go_at_call 93;refine(Qy.o _ _ (B.new w1 _ _)).mono ?_;rintro e w2 ⟨ar,cr,ah,ch,a1,a2,a3,c1,c2,c3,rfl,h1,h2,h3,h4⟩;have HO:=ai h1;have HH:=ai h2;have bY:=ai h4;clear h1 h2 h4))
 have Rn:=ai (B.below (B.alloc X1.o (.cells #[I 0,I 1,.string D,.bool false,.bool true,I 1,I 2,.string ⟨#[97,98,99]⟩,.bool true,.bool false] 145)) bY.o (by have:=B.isLt X1.o;simp;omega))
 have Xn:=ai (aZ.o.alloc aZ.o.size (.cells #[I 0,I 1,.string D,.bool false,.bool true,I 1,I 2,.string ⟨#[97,98,99]⟩,.bool true,.bool false] 145))
 have dC:=ai (Xn.o.trans (bY.o.mono Xn.o.size))
 have DD:=ai (B.alloc Rn.o (.cells #[.slice ar 2 cr,.slice ah 3 ch,I 16] 30))
 have HL3:=ai (B.new w2 #[.slice ar 2 cr,.slice ah 3 ch,I 16] 30)
 have ld:Hid (GK.Kp (fun b=>b=w.heap.size) w2 (w2.alloc (.cells #[.slice ar 2 cr,.slice ah 3 ch,I 16] 30))):=GK.Kp.alloc _ _ _
 have HOW:Hid (∀b,KS.blk (.slice ar 2 cr) b->b≠w.heap.size):=(show ∀b,KS.blk (.slice ar 2 cr) b->b≠w.heap.size from fun b hb e=>by have:=(HO.o.lt b hb).1;rw[World.size_alloc] at this;have:=B.isLt X1.o;omega)
 obtain⟨W4,VY⟩:=ex (w2.alloc (.cells #[.slice ar 2 cr,.slice ah 3 ch,I 16] 30))
 obtain⟨lb,hlb⟩:=ex w2.heap.size
 rw[<- VY] at DD HL3 ld ⊢
 rw[<- hlb] at HL3 ⊢
 clear VY hlb hxl
 obtain⟨l0,l1,l2⟩:=B.c3 HL3.o
 obtain⟨y0,y1,y2⟩:=B.c3 DD.o
 have f0:=B.free DD.o 0
 have f1:=B.free DD.o 1
 have f2:=B.free DD.o 2
 have Yv:=ai (ld.o.trans (GK.rP (D:=fun b=>b=w.heap.size) _ w.heap.size 0 1 2 (.slice ar 2 cr) (.slice ah 3 ch) (I 16) rfl) (fun _ _ g=>g))
 have vq:=ai (B.set (B.set (B.set DD.o 0 (.slice ar 2 cr)) 1 (.slice ah 3 ch)) 2 (I 16))
 go_wp2
 obtain⟨y0,y1,y2⟩:=B.c3 vq.o
 refine bodyPost_ret (v:=.agg #[.slice ar 2 cr,.slice ah 3 ch,I 16]) (by simp[results,Tryz.results50,go_sem,y0,y1,y2]) rfl (bh.o _ _ _ _ a1 a2 a3 c1 c2 c3 _ ?_ ?_ h3 ?_)
 · exact AW.Own.has (Yv.o.row HO.o (fun b hb e=>HOW.o b hb e))
 · exact Ms HH.o Rn.o (fun _ _ h=>nomatch h) (fun _ _ h=>nomatch h) (fun b j v hne hc=>Yv.o.cell hc hne) Yv.o.size
 · exact GK.Kp.below dC.o Yv.o dC.o.size (fun b hb=>by rw[hb];exact Nat.le_refl _)
end KG
namespace KZ
open Go.RowKit GK KO
open FW (ai aC)
open KW (bE bD aI aU fe cO aH dH bQ kF eY b6 il)
open KS (Lc bO oD dm blk cT)
open KX (tN Held ids)
open KY (l4 fp cW nY)
theorem rA {W:World} {rb:Nat} (hr:W.heap[rb]?=some (.cells #[Nl,Nl,Nl,Nl,I 0] 27 (0,0))) (s f l p h:Value) {V:World} (hV:V=((((W.setCell (Ad rb 0) s).setCell (Ad rb 1) f).setCell (Ad rb 2) l).setCell (Ad rb 3) p).setCell (Ad rb 4) h) :
  V.heap[rb]?=some (.cells #[s,f,l,p,h] 27 (0,0))/\Kp (fun b=>b=rb) W V:=by
 subst hV
 refine⟨B.set (B.set (B.set (B.set (B.set hr 0 s) 1 f) 2 l) 3 p) 4 h,?_⟩
 have k:∀(A:World) (j:Nat) (v:Value),Kp (fun b=>b=rb) A (A.setCell (Ad rb j) v):=fun A j v=>Kp.set _ A (Ad rb j) v rfl
 exact((((k _ _ _).trans (k _ _ _) (fun _ _ g=>g)).trans (k _ _ _) (fun _ _ g=>g)).trans (k _ _ _) (fun _ _ g=>g)).trans (k _ _ _) (fun _ _ g=>g)
end KZ
namespace KZ
open Go.RowKit GK KO
open FW (ai aC)
open KS (blk)
end KZ
namespace KZ
open Go.RowKit GK KO
open FW (ai aC)
open KW (bE bD aI aU fe cO aH dH bQ kF eY b6 il fF)
open KS (Lc bO oD dm blk cT)
open KX (tN Held ids)
open KY (l4 fp cW nY)
end KZ
end Go.Proofs.YtpgifpeohlllfaaGreat
