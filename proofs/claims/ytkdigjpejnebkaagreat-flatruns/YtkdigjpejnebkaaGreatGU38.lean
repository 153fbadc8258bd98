import Derived.Test.YtkdigjpejnebkaaGreatGU00
import Derived.Test.YtkdigjpejnebkaaGreatGU36
import Derived.Test.YtkdigjpejnebkaaGreatGU37
set_option maxHeartbeats 20000000
set_option linter.unusedVariables false
set_option maxRecDepth 100000
set_option linter.unusedSimpArgs false
namespace Go.Proofs.YtkdigjpejnebkaaGreat
namespace LW
open Go.RowKit Go.WideMaps Go.Maps
open W (ai)
theorem JZ (p:LM.Li) (libs:List LM.Li) (ao:Option Addr) (cap:Nat) (w:World) (hp:M.mH w p.a p.i) (h:LM.G6 w ao libs) (Yn:M.Fit p.i) (hf:LM.ZY libs)
  (qa:∀k,k<(p::libs).length->∀V,Below w.heap.size w V->Calls Tryz.prog 115 #[.agg (M.eZ (LM.cx (p::libs) k).a (LM.cx (p::libs) k).i)] V fun e w'=>e=.returned (I (M.ji (LM.cx (p::libs) k).i))/\Below V.heap.size V w')
  (hga:∀m D V,Gi (p::libs) m D V->Calls Tryz.prog 100 #[LM.Dn (LM.cx (p::libs) 0),.map (some m)] V (RD (p::libs) (LM.Wj (p::libs) (p::libs).length 0 [0]) V))
  (hpx:∀ix ao cap k V,k<(LM.cH (p::libs) 1 ix).length->Calls Tryz.prog 118 #[.agg (LM.kF (LM.dP (LM.cH (p::libs) 1 ix) k)),.slice ao (LM.cH (p::libs) 1 ix).length cap] V (Ao (LM.wY (LM.cH (p::libs) 1 ix) (LM.dP (LM.cH (p::libs) 1 ix) k)) V)) :
  Calls Tryz.prog 72 #[LM.Dn p,.slice ao libs.length cap] w (Y6 (p::libs) w):=by
 have hsl:libs.length<=140737488351232:=hf.1
 have HP:=ai hp
 have ZR:=ai qa
 have ZG:=ai hga
 have Zp:=ai hpx
 have HL:=ai h
 have Wx:Hid (∀V,Below w.heap.size w V->∀k,k<(p::libs).length->M.mH V (LM.cx (p::libs) k).a (LM.cx (p::libs) k).i):=fun V hb k hk=>by
  cases k with
  | zero=>exact hp.below hb
  | succ k =>
   have hk':k<libs.length:=by simpa using hk
   obtain⟨b,off,_,_,hl⟩:=h (by omega)
   exact(hl k hk').2.below hb
 have jk:Hid (∀k,k<(p::libs).length->M.Fit (LM.cx (p::libs) k).i):=fun k hk=>by
  cases k with
  | zero=>exact Yn
  | succ k=>exact hf.2 k (by simpa using hk)
 clear hp h Yn hf qa hga hpx
 have Ay:=ai (((Below.refl w.heap.size w).alloc (Nat.le_refl _) (.cells (M.eZ p.a p.i) 135)).alloc (by simp) (.cells #[Nl,Nl,I 0] 25))
 have BM:=ai (B.alloc (B.new w (M.eZ p.a p.i) 135) (.cells #[Nl,Nl,I 0] 25))
 have BR0:=B.new (w.alloc (.cells (M.eZ p.a p.i) 135)) #[Nl,Nl,I 0] 25
 rw[World.size_alloc] at BR0
 have BR:=ai BR0
 clear BR0
 unfold LM.Dn
 go_enter Tryz.func72,Tryz.ntmps72
 by_cases h6:6<libs.length
 · have HE:Hid (LM.gv (p::libs)=2):=by
    show _=_
    unfold LM.gv
    rw[if_pos (by simp;omega)]
   clear BM BR
   simp only[M.eZ] at Ay ⊢
   go_wp2
   exact bodyPost_ret (v:=.tuple #[.agg #[Nl,Nl,I 0],I 2]) (by simp[results,Tryz.results72,go_sem]) rfl ⟨Ay.o,by rw[HE.o];simp⟩
 · have h7:(p::libs).length<=7:=by simp;omega
   have Vo:Hid ((((w.alloc (.cells (M.eZ p.a p.i) 135)).alloc (.cells #[Nl,Nl,I 0] 25)).alloc (.cells (M.eZ p.a p.i) 135)).ownsRow (w.heap.size+2) 135 6 (.slice (some (Ad (w.heap.size+2) 0)) 1 1) 1 (LM.lS p)):=by
    have h:=World.ownsRow_lit (base:=w.heap.size+2) (e:=135) (size:=6) ((w.alloc (.cells (M.eZ p.a p.i) 135)).alloc (.cells #[Nl,Nl,I 0] 25)) (M.eZ p.a p.i) 1 (by simp) (by decide) rfl
    have e:((w.alloc (.cells (M.eZ p.a p.i) 135)).alloc (.cells #[Nl,Nl,I 0] 25)).heap.size=w.heap.size+2:=by simp
    rw[e] at h
    exact h
   have fH:=ai (Ay.o.alloc (by simp;omega) (.cells (M.eZ p.a p.i) 135))
   have SG:=ai (B.alloc BM.o (.cells (M.eZ p.a p.i) 135))
   have rW:=ai (B.alloc BR.o (.cells (M.eZ p.a p.i) 135))
   clear BM BR Ay
   simp only[M.eZ] at Vo fH SG rW ⊢
   go_wp2_with (at_builtin;refine qV rfl _ _ rfl (w.heap.size+2) p (w.heap.size+2) (by first | rfl | simp) Vo.o ao cap libs rfl (HL.o.below fH.o) (by omega) (by simp) ?_;intro gg YU w1 hown hgrow hlt;have bj:=ai (fH.o.grown hgrow (by simp;omega) (fun q hq=>by injection hq with hq;omega));have BM1:=ai (B.grown SG.o hgrow (by simp));have iU:=ai (B.grown rW.o hgrow (by simp));have Wy:=ai (TN (l:=p::libs) hown hlt (Wx.o _ bj.o));clear hown hgrow hlt)
   obtain⟨all,hall⟩:=ex (p::libs)
   have HLI:Hid (LM.cx all 0=p):=by rw[hall];rfl
   have hlen:libs.length+1=all.length:=by rw[hall];rfl
   rw[<- hall] at Wy Wx jk h7 ZR ZG Zp
   rw[<- hall,hlen]
   clear Vo fH SG rW HL
   have O3:=ai hall
   clear hall
   refine(D9 all _ _ _ Wy.o ⟨by unfold M.bD;omega,jk.o⟩ (fun k hk V hV=>ZR.o k hk V (bj.o.trans (hV.mono bj.o.size)))).mono ?_
   rintro e w2 ⟨hb,hout⟩
   have bW:=ai (bj.o.trans (hb.mono bj.o.size))
   have ER:=ai (B.below BM1.o hb (B.isLt BM1.o))
   have oJ:=ai (B.below iU.o hb (B.isLt iU.o))
   clear hb BM1 iU bj Wy
   by_cases hby:LM.lU all=0
   · rw[if_pos hby] at hout
     obtain⟨m,D,rfl,hmap,M6⟩:=hout
     obtain⟨qa,Dv⟩:=LM.GN hby
     have HGI:Hid (Gi all m D w2):=⟨by omega,h7,qa,jk.o,Dv,Wx.o _ bW.o,hmap,M6⟩
     have vQ:=ai qa
     clear hmap M6 Dv qa
     have m0:=B.cell ER.o 0 rfl
     have m1:=B.cell ER.o 1 rfl
     have m2:=B.cell ER.o 2 rfl
     have m3:=B.cell ER.o 3 rfl
     have m4:=B.cell ER.o 4 rfl
     have m5:=B.cell ER.o 5 rfl
     have EM:=ai hby
     clear hby
     go_wp2_with fail
     have ow:=ai (ZG.o m D w2 HGI.o)
     rw[HLI.o] at ow
     refine Calls.mono (P:=Tryz.prog) ow.o ?_
     rintro e w3 ⟨hb,hout⟩
     have fH:=ai (bW.o.trans (hb.mono bW.o.size))
     have SG:=ai (B.below ER.o hb (B.isLt ER.o))
     have rW:=ai (B.below oJ.o hb (B.isLt oJ.o))
     clear hb ER oJ ow m0 m1 m2 m3 m4 m5
     have r0:=B.cell rW.o 0 rfl
     have r1:=B.cell rW.o 1 rfl
     have r2:=B.cell rW.o 2 rfl
     have rf:=B.free rW.o
     have rl:=B.isLt rW.o
     cases eg:LM.Wj all all.length 0 [0] with
     | none =>
      rw[eg] at hout
      obtain rfl:=hout
      have HE:Hid (LM.gv all=6):=by
       show _=_
       unfold LM.gv
       rw[if_neg (by omega),if_pos EM.o,eg]
      clear eg
      go_wp2
      exact bodyPost_ret (v:=.tuple #[.agg #[Nl,Nl,I 0],I 6]) (by simp[results,Tryz.results72,go_sem,r0,r1,r2]) rfl ⟨((fH.o.setCell (by simp) _).setCell (by simp) _).setCell (by simp) _,by rw[<- O3.o,HE.o];simp⟩
     | some ix =>
      rw[eg] at hout
      obtain⟨hok,I2,cap2,rfl,hO⟩:=hout
      have hpos:=hok.pos
      have hle:=hok.le
      have KS:Hid (LM.zj (LM.dP (LM.cH all 1 ix) (ix.length-1))=LM.fD all 1 ix):=LM.A5 all ix 1 hpos
      have Vr:Hid (Oi (LM.cH all 1 ix) I2 w3):=by
       refine⟨hO,by rw[LM.dW];omega,fun k hk=>?_,fun k hk=>?_,LM.Mz vQ.o h7 hok⟩
       · rw[LM.dW] at hk
         rw[(LM.lK all ix 1 k hk).1]
         exact vQ.o _ (hok.lt _ (LM.DB ix k hk))
       · rw[LM.dW] at hk
         rw[(LM.lK all ix 1 k hk).1]
         exact jk.o _ (hok.lt _ (LM.DB ix k hk))
      have hxl:ix.length=(LM.cH all 1 ix).length:=(LM.dW all ix 1).symm
      have En:Hid (LM.gv all=if 256<LM.fD all 1 ix then 3 else match LM.kP (LM.cH all 1 ix) with
        | none=>7
        | some _=>0):=by
       show _=_
       unfold LM.gv
       rw[if_neg (by omega),if_pos EM.o,eg]
       dsimp only
       cases LM.kP (LM.cH all 1 ix) <;> rfl
      have HEG:=ai eg
      obtain⟨EN,hEN⟩:=ex (LM.fD all 1 ix)
      rw[<- hEN] at KS En
      have Zq:=ai (Zp.o ix)
      obtain⟨zT,Uv⟩:=ex (LM.cH all 1 ix)
      rw[<- Uv] at Vr En KS hO hxl Zq
      have HOB:=ai Uv
      rw[hxl] at KS hpos hle
      rw[hxl]
      clear hEN Uv eg hok hxl HGI EM
      obtain⟨b,off,Gg,hbl,bP⟩:=hO hpos
      subst Gg
      obtain⟨k1,hk1⟩:=ex (zT.length-1)
      have M9:k1<zT.length:=by omega
      rw[<- hk1] at KS
      obtain⟨⟨c0,c1,c2,c3,c4,c5,c6⟩,him⟩:=bP k1 M9
      have qq:=ai (fun V hb=>iB (LM.dP zT k1) V (him.below hb) (Vr.o.YS k1 M9) (by have:=Vr.o.base k1 M9;omega) (by have:=Vr.o.base k1 M9;omega))
      obtain⟨o,ho⟩:=ex (LM.dP zT k1)
      rw[<- ho] at c0 c1 c2 c3 c4 c5 c6 qq KS
      simp only[LM.kF] at qq
      rw[KS.o] at qq
      have hwr:IntKind.i64.wrap ((zT.length:Int)-1)=(k1:Int):=by rw[IntWalk.i64_in _ (by omega)];omega
      clear ho bP hO him KS hk1 hlen HP Wx jk
      by_cases UX:256<EN
      · have HE:Hid (LM.gv all=3):=by
         show _=_
         rw[En.o,if_pos UX]
        clear En
        go_wp2_with (go_at_call 101;refine(qq.o _ (Below.refl _ _)).mono ?_;rintro e w4 ⟨rfl,hb⟩;have mU:=ai (fH.o.trans (hb.mono fH.o.size));have Lt:=ai (B.below rW.o hb (B.isLt rW.o));have s0:=B.cell Lt.o 0 rfl;have s1:=B.cell Lt.o 1 rfl;have s2:=B.cell Lt.o 2 rfl;have sf:=B.free Lt.o;have sl:=B.isLt Lt.o;clear hb)
        exact bodyPost_ret (v:=.tuple #[.agg #[Nl,Nl,I 0],I 3]) (by simp[results,Tryz.results72,go_sem,s0,s1,s2]) rfl ⟨((mU.o.setCell (by simp) _).setCell (by simp) _).setCell (by simp) _,by rw[<- O3.o,HE.o];simp⟩
      · have RQ:Hid (∀V,Oi zT (some (Ad b off)) V->Calls Tryz.prog 102 #[.slice (some (Ad b off)) zT.length cap2] V (I4 (LM.kP zT) V)):=fun V hV=>yJ zT _ cap2 V hV (by omega) (fun k hk V' hV'=>Zq.o _ cap2 k V' hk)
        cases es:LM.kP zT with
        | none =>
         have HE:Hid (LM.gv all=7):=by
          show _=_
          rw[En.o,if_neg UX,es]
         rw[es] at RQ
         clear En es
         go_wp2_with (first
          | (go_at_call 101;refine(qq.o _ (Below.refl _ _)).mono ?_;rintro e w4 ⟨rfl,hb⟩;have mU:=ai (fH.o.trans (hb.mono fH.o.size));have Lt:=ai (B.below rW.o hb (B.isLt rW.o));have BM4:=ai (B.below SG.o hb (B.isLt SG.o));have OE:=ai (Vr.o.below hb);clear hb)
          | (go_at_call 102;refine(RQ.o _ OE.o).mono ?_;rintro e w5 ⟨hb,rfl⟩;have jg:=ai (mU.o.trans (hb.mono mU.o.size));have PA:=ai (B.below Lt.o hb (B.isLt Lt.o));have s0:=B.cell PA.o 0 rfl;have s1:=B.cell PA.o 1 rfl;have s2:=B.cell PA.o 2 rfl;have sf:=B.free PA.o;have sl:=B.isLt PA.o;clear hb))
         exact bodyPost_ret (v:=.tuple #[.agg #[Nl,Nl,I 0],I 7]) (by simp[results,Tryz.results72,go_sem,s0,s1,s2]) rfl ⟨((jg.o.setCell (by simp) _).setCell (by simp) _).setCell (by simp) _,by rw[<- O3.o,HE.o];simp⟩
        | some E =>
         have HE:Hid (LM.gv all=0):=by
          show _=_
          rw[En.o,if_neg UX,es]
         have HES:=ai es
         rw[es] at RQ
         clear En es
         go_wp2_with (first
          | (go_at_call 101;refine(qq.o _ (Below.refl _ _)).mono ?_;rintro e w4 ⟨rfl,hb⟩;have mU:=ai (fH.o.trans (hb.mono fH.o.size));have Lt:=ai (B.below rW.o hb (B.isLt rW.o));have BM4:=ai (B.below SG.o hb (B.isLt SG.o));have OE:=ai (Vr.o.below hb);clear hb)
          | (go_at_call 102;refine(RQ.o _ OE.o).mono ?_;rintro e w5 ⟨hb,hs,ah,ch,hme,rfl,hhh,hcc⟩;have jg:=ai (mU.o.trans (hb.mono mU.o.size));have PA:=ai (B.below Lt.o hb (B.isLt Lt.o));have BM5:=ai (B.below BM4.o hb (B.isLt BM4.o));have Vq:=ai (OE.o.below hb);have Tq:=ai hme;have Wz:=ai hhh;clear hb hme hhh))
         clear RQ qq Vr OE rW Lt SG BM4 fH r0 r1 r2 rf rl c0 c1 c2 c3 c4 c5 c6 hwr hbl M9
         obtain⟨b5,abx,ze,Dx,SY⟩:=Vq.o.has hpos
         obtain⟨⟨d0,d1,d2,d3,d4,d5,d6⟩,dim⟩:=SY 0 hpos
         have UM:b=b5:=by injection ze with ze;injection ze
         have Yy:off=abx:=by injection ze with ze;injection ze
         rw[<- UM,<- Yy] at d0 d1 d2 d3 d4 d5 d6
         rw[<- UM] at Dx
         simp only[Nat.zero_mul,Nat.add_zero] at d0 d1 d2 d3 d4 d5 d6
         have aih:=Vq.o.base 0 hpos
         have hen:0<=p.i.entry/\p.i.entry<4080:=by
          have h:=LM.Bz (vQ.o 0 (by omega))
          rw[HLI.o] at h
          exact h
         have EK:Hid ((LM.cx all 0).i.entry=p.i.entry):=by rw[HLI.o];rfl
         have HAR:Hid (∀V,Below w5.heap.size w5 V->Calls Tryz.prog 103 #[.slice (some (Ad b off)) zT.length cap2] V fun e w'=>∃r,e=.returned r/\AW.Own V.heap.size w' r (LM.mP zT)/\Below V.heap.size V w'):=fun V hb=>pK zT _ cap2 V (Vq.o.below hb) (by omega)
         have HAD:=ai (fun V=>Eh (LM.dP zT 0) p.i.entry V (by omega) (by omega) hen.1 (by omega))
         obtain⟨o0,ho0⟩:=ex (LM.dP zT 0)
         have Zy:=ai ho0
         rw[<- ho0] at d0 d1 d2 d3 d4 d5 d6 HAD
         simp only[LM.kF] at HAD
         have hne:b≠w.heap.size+1:=fun e=>by
          rw[e] at d6
          have h:=PA.o
          simp[World.cell?,h] at d6
         have HS:Hid (∀V,Below w5.heap.size w5 V->V.cell? (Ad b off)=some (.string o0.i.name)/\V.cell? (Ad b (off+1))=some (.slice o0.a.an o0.i.needs.length o0.a.cn)/\V.cell? (Ad b (off+2))=some (.slice o0.a.ag o0.i.cW.length o0.a.cg)/\V.cell? (Ad b (off+3))=some (.slice o0.a.ay o0.i.syms.length o0.a.cy)/\V.cell? (Ad b (off+4))=some (.slice o0.a.ar o0.i.fu.length o0.a.cr)/\V.cell? (Ad b (off+5))=some (I o0.i.entry)/\V.cell? (Ad b (off+6))=some (I o0.base)/\V.cell? (Ad w.heap.size 5)=some (I p.i.entry)):=fun V hb=>⟨(M.aA hb Dx).trans d0,(M.aA hb Dx).trans d1,(M.aA hb Dx).trans d2,(M.aA hb Dx).trans d3,(M.aA hb Dx).trans d4,(M.aA hb Dx).trans d5,(M.aA hb Dx).trans d6,B.cell (B.below BM5.o hb (B.isLt BM5.o)) 5 rfl⟩
         obtain⟨AD,hAD⟩:=ex (LM.ve o0 p.i.entry)
         rw[<- hAD] at HAD
         have aen:=ai hAD
         clear ho0 hAD d0 d1 d2 d3 d4 d5 d6 dim SY ze UM Yy
         have jI:=ai (Below.refl w5.heap.size w5).drew
         have cw:=ai (HS.o _ jI.o)
         go_region_held3 (fun V=>V.cell? (Ad b off)=some (.string o0.i.name)/\V.cell? (Ad b (off+1))=some (.slice o0.a.an o0.i.needs.length o0.a.cn)/\V.cell? (Ad b (off+2))=some (.slice o0.a.ag o0.i.cW.length o0.a.cg)/\V.cell? (Ad b (off+3))=some (.slice o0.a.ay o0.i.syms.length o0.a.cy)/\V.cell? (Ad b (off+4))=some (.slice o0.a.ar o0.i.fu.length o0.a.cr)/\V.cell? (Ad b (off+5))=some (I o0.i.entry)/\V.cell? (Ad b (off+6))=some (I o0.base)/\V.cell? (Ad w.heap.size 5)=some (I p.i.entry)) (first | exact HS7.o | exact HS6.o | exact cw.o | exact tG.o _ _ _)
          (first
           | (go_at_call 103;refine(HAR.o _ jI.o).mono ?_;rintro e w6 ⟨v8,rfl,yF,hb⟩;obtain⟨ar,cr,hrv,hrg⟩:=tZ yF;subst hrv;have tN:=ai yF;have Cz:=ai (jI.o.trans (hb.mono jI.o.size));have HS6:=ai (HS.o _ Cz.o);clear hb yF hrg)
           | (go_at_call 104;refine(HAD.o _).mono ?_;rintro e w7 ⟨rfl,hb⟩;have Hh:=ai (Cz.o.trans (hb.mono Cz.o.size));have HS7:=ai (HS.o _ Hh.o);have adv:=ai (pW tN.o hb);have WG:=ai (B.below PA.o Hh.o (B.isLt PA.o));have s0:=B.cell WG.o 0 rfl;have s1:=B.cell WG.o 1 rfl;have s2:=B.cell WG.o 2 rfl;have sf:=B.free WG.o;have sl:=B.isLt WG.o;have tG:Hid (∀u0 u1 u2,(fun V:World=>V.cell? (Ad b off)=some (.string o0.i.name)/\V.cell? (Ad b (off+1))=some (.slice o0.a.an o0.i.needs.length o0.a.cn)/\V.cell? (Ad b (off+2))=some (.slice o0.a.ag o0.i.cW.length o0.a.cg)/\V.cell? (Ad b (off+3))=some (.slice o0.a.ay o0.i.syms.length o0.a.cy)/\V.cell? (Ad b (off+4))=some (.slice o0.a.ar o0.i.fu.length o0.a.cr)/\V.cell? (Ad b (off+5))=some (I o0.i.entry)/\V.cell? (Ad b (off+6))=some (I o0.base)/\V.cell? (Ad w.heap.size 5)=some (I p.i.entry)) (((w7.setCell (Ad (w.heap.size+1) 0) u0).setCell (Ad (w.heap.size+1) 1) u1).setCell (Ad (w.heap.size+1) 2) u2)):=(fun u0 u1 u2=>by have h:=HS7.o;have hw:w.heap.size≠w.heap.size+1:=(by omega);simp only[jF _ _ _ _ _ _ _ hne,jF _ _ _ _ _ _ _ hw];exact h);clear hb))
         have adU:=ai (Kb WG.o (Wz.o.below Hh.o) (.slice ar (LM.mP zT).length cr) (.slice ah hs.length ch) (I AD))
         have Zu:=ai (Mp (rb:=w.heap.size+1) adv.o (Nat.lt_of_lt_of_le (B.isLt PA.o) jI.o.size) (.slice ar (LM.mP zT).length cr) (.slice ah hs.length ch) (I AD))
         have iT:=ai ((((jg.o.trans (Hh.o.mono jg.o.size)).setCell (p:=(Ad (w.heap.size+1) 0)) (by simp) (.slice ar (LM.mP zT).length cr)).setCell (p:=(Ad (w.heap.size+1) 1)) (by simp) (.slice ah hs.length ch)).setCell (p:=(Ad (w.heap.size+1) 2)) (by simp) (I AD))
         go_wp2
         refine bodyPost_ret (v:=.tuple #[.agg #[.slice ar (LM.mP zT).length cr,.slice ah hs.length ch,I AD],I 0]) (by simp[results,Tryz.results72,go_sem,s0,s1,s2]) rfl ⟨iT.o,?_⟩
         rw[<- O3.o,HE.o,if_pos rfl]
         refine⟨ix,E,.slice ar (LM.mP zT).length cr,hs,ah,ch,HEG.o,by rw[<- HOB.o];exact HES.o,Tq.o,?_,?_,adU.o,hcc⟩
         · rw[EK.o,<- HOB.o,<- Zy.o,<- aen.o]
         · rw[<- HOB.o]
           exact Zu.o.mono (Nat.le_trans jg.o.size jI.o.size)
   · rw[if_neg hby] at hout
     subst hout
     have HE:Hid (LM.gv all=LM.lU all):=by
      show _=_
      unfold LM.gv
      rw[if_neg (by omega),if_neg hby]
     obtain⟨er,her⟩:=ex (LM.lU all)
     rw[<- her] at HE hby
     rw[<- her]
     have hbz:(er==0)=false:=by simpa using hby
     have r0:=B.cell oJ.o 0 rfl
     have r1:=B.cell oJ.o 1 rfl
     have r2:=B.cell oJ.o 2 rfl
     have rf:=B.free oJ.o
     have rl:=B.isLt oJ.o
     clear her
     go_wp2
     exact bodyPost_ret (v:=.tuple #[.agg #[Nl,Nl,I 0],I er]) (by simp[results,Tryz.results72,go_sem,r0,r1,r2]) rfl ⟨((bW.o.setCell (by simp) _).setCell (by simp) _).setCell (by simp) _,by rw[<- O3.o,HE.o,if_neg hby]⟩
end LW
namespace LW
open Go.RowKit
open W (ai)
theorem Mn (l:List LM.Ob) (ao:Option Addr) (cap:Nat) (o:LM.Ob) (w:World) (hr:o.i.fu=[]):Calls Tryz.prog 118 #[.agg (LM.kF o),.slice ao l.length cap] w (Ao (LM.wY l o) w):=by
 have e:LM.wY l o=some []:=by unfold LM.wY;rw[hr];rfl
 rw[e]
 unfold LM.kF
 rw[hr]
 obtain⟨⟨nm,ns,gs,ys,rs,en⟩,⟨an,cn,ag,cg,ay,cy,ar,cr⟩,bs⟩:=o
 simp only at hr ⊢
 clear hr e
 obtain⟨n1,h1⟩:∃n,n=ns.length:=⟨_,rfl⟩
 obtain⟨n2,h2⟩:∃n,n=gs.length:=⟨_,rfl⟩
 obtain⟨n3,h3⟩:∃n,n=ys.length:=⟨_,rfl⟩
 rw[<- h1,<- h2,<- h3]
 clear h1 h2 h3
 have HB:=ai ((Below.refl w.heap.size w).alloc (Nat.le_refl _) (.cells #[.string nm,.slice an n1 cn,.slice ag n2 cg,.slice ay n3 cy,.slice ar 0 cr,I en,I bs] 178))
 have dz:Hid (∀w',Below w.heap.size w w'->Ao (some []) w (.returned (.tuple #[Nl,.bool true])) w'):=fun w' hb=>⟨hb,_,rfl,World.ownsRow_nil _ _ _ _⟩
 obtain⟨P,hP⟩:=ex (Ao (some []) w)
 rw[<- hP] at dz ⊢
 clear hP
 simp only[List.length_nil]
 go_enter Tryz.func118,Tryz.ntmps118
 go_wp2
 go_loopw [6,17] (fun sv iv wr=>sv=Nl/\iv=I 0/\Below w.heap.size w wr) (fun _ _ _=>0)
 case atStart=>exact⟨rfl,rfl,HB.o⟩
 case round =>
  obtain⟨rfl,rfl,hb⟩:=hrel
  have bW:=ai hb
  clear hb
  go_wp2
  exact dz.o _ bW.o
theorem QL (p:LM.Li) (m:Nat) (w:World) (hn:p.i.needs=[]) (him:M.mH w p.a p.i):Calls Tryz.prog 100 #[LM.Dn p,.map (some m)] w (RD [p] (some [0]) w):=by
 have dz:Hid (∀(w':World) g,w'.heap[g]?=some (.cells #[.string p.i.name,.slice p.a.an p.i.needs.length p.a.cn,.slice p.a.ag p.i.cW.length p.a.cg,.slice p.a.ay p.i.syms.length p.a.cy,.slice p.a.ar p.i.fu.length p.a.cr,I p.i.entry,I 1] 178 (0,0))->Below w.heap.size w w'->RD [p] (some [0]) w (.returned (.tuple #[.slice (some (Ad g 0)) 1 1,.bool true])) w'):=fun w' g h1 h2=>by
  refine⟨h2,⟨by decide,by decide,fun j hj=>?_⟩,some (Ad g 0),1,rfl,fun _=>⟨g,0,rfl,B.isLt h1,fun k hk=>?_⟩⟩
  · simp at hj;subst hj;exact Nat.zero_lt_one
  · obtain rfl:k=0:=by have:k<1:=hk;omega
    exact⟨⟨B.cell h1 0 rfl,B.cell h1 1 rfl,B.cell h1 2 rfl,B.cell h1 3 rfl,B.cell h1 4 rfl,B.cell h1 5 rfl,B.cell h1 6 rfl⟩,him.below h2⟩
 obtain⟨P,hP⟩:=ex (RD [p] (some [0]) w)
 rw[<- hP] at dz ⊢
 clear hP him
 unfold LM.Dn M.eZ
 rw[hn] at dz ⊢
 obtain⟨⟨nm,ns,gs,ys,rs,en⟩,⟨an,cn,ag,cg,ay,cy,ar,cr⟩⟩:=p
 simp only at dz ⊢
 clear hn
 obtain⟨n2,h2⟩:∃n,n=gs.length:=⟨_,rfl⟩
 obtain⟨n3,h3⟩:∃n,n=ys.length:=⟨_,rfl⟩
 obtain⟨n4,h4⟩:∃n,n=rs.length:=⟨_,rfl⟩
 rw[<- h2,<- h3,<- h4] at dz ⊢
 simp only[List.length_nil] at dz ⊢
 clear h2 h3 h4
 have HB:=ai (((Below.refl w.heap.size w).alloc (Nat.le_refl _) (.cells #[.string nm,.slice an 0 cn,.slice ag n2 cg,.slice ay n3 cy,.slice ar n4 cr,I en] 135)).alloc (by simp) (.cells #[.string nm,.slice an 0 cn,.slice ag n2 cg,.slice ay n3 cy,.slice ar n4 cr,I en,I 1] 178))
 have HX:Hid (((w.alloc (.cells #[.string nm,.slice an 0 cn,.slice ag n2 cg,.slice ay n3 cy,.slice ar n4 cr,I en] 135)).alloc (.cells #[.string nm,.slice an 0 cn,.slice ag n2 cg,.slice ay n3 cy,.slice ar n4 cr,I en,I 1] 178)).heap[w.heap.size+1]?=some (.cells #[.string nm,.slice an 0 cn,.slice ag n2 cg,.slice ay n3 cy,.slice ar n4 cr,I en,I 1] 178 (0,0))):=by
  have:=B.new (w.alloc (.cells #[.string nm,.slice an 0 cn,.slice ag n2 cg,.slice ay n3 cy,.slice ar n4 cr,I en] 135)) #[.string nm,.slice an 0 cn,.slice ag n2 cg,.slice ay n3 cy,.slice ar n4 cr,I en,I 1] 178
  rw[World.size_alloc] at this
  exact this
 go_enter Tryz.func100,Tryz.ntmps100
 go_wp2
 obtain⟨g,hg⟩:=ex (w.heap.size+1)
 rw[<- hg] at HX ⊢
 clear hg
 go_loopw [6,7] (fun sv iv wr=>sv=.slice (some (Ad g 0)) 1 1/\(∃k:Nat,k<=1/\iv=I (k:Int))/\wr.heap[g]?=some (.cells #[.string nm,.slice an 0 cn,.slice ag n2 cg,.slice ay n3 cy,.slice ar n4 cr,I en,I 1] 178 (0,0))/\Below w.heap.size w wr) (fun _ iv _=>1-(intOf iv).toNat)
 case atStart=>exact⟨rfl,⟨0,by omega,rfl⟩,HX.o,HB.o⟩
 case round =>
  obtain⟨rfl,⟨k,hk,rfl⟩,hx,hb⟩:=hrel
  have Wo:=ai hx
  have bW:=ai hb
  have x1:wr.cell? (Ad g 1)=some (.slice an 0 cn):=B.cell hx 1 rfl
  clear hx hb HX HB
  by_cases h0:k=0
  · subst h0
    go_wp2
    clear x1
    go_loopw [6,28] (fun sv iv wi=>sv=.slice (some (Ad g 0)) 1 1/\iv=I 0/\wi.heap[g]?=some (.cells #[.string nm,.slice an 0 cn,.slice ag n2 cg,.slice ay n3 cy,.slice ar n4 cr,I en,I 1] 178 (0,0))/\Below w.heap.size w wi) (fun _ _ _=>0)
    case atStart=>exact⟨rfl,rfl,Wo.o,bW.o⟩
    case round =>
     obtain⟨rfl,rfl,hx,hb⟩:=hrel
     have Pe:=ai hx
     have fH:=ai hb
     clear hx hb Wo bW
     go_wp2
     go_roundw
     case rel=>exact⟨rfl,⟨1,by omega,by first | rfl | go_num⟩,Pe.o,fH.o⟩
     case measure=>simp[intOf]
  · obtain rfl:k=1:=by omega
    go_wp2
    exact dz.o _ _ Wo.o bW.o
end LW
namespace GB
open Go.RowKit
open FW (ai aB)
def AQ:Array Value:=#[I 16,I 0,I 0,I 0,I 5,I 11,I 1,I 0,I 0,I 40,I 10,I 0,I 1,I 8,I 0,I 9,I 0,I 1,I 1,I 0,I 16,I 0,I 0,I 0,I 1,I 16,I 0,I 0,I 0,I 6]
theorem Mh {V:World} {rb:Nat} (h:V.heap[rb]?=some (.cells AQ 99 (0,0))) (k:Nat) (hk:k<6) :
  V.cell? (Ad rb (k*5))=some (I (NY.getD k i0).op)/\V.cell? (Ad rb (k*5+1))=some (I (NY.getD k i0).a)/\V.cell? (Ad rb (k*5+2))=some (I (NY.getD k i0).b)/\V.cell? (Ad rb (k*5+3))=some (I (NY.getD k i0).c)/\V.cell? (Ad rb (k*5+4))=some (I (NY.getD k i0).m):=by
 match k,hk with
 | 0,_=>exact⟨B.cell h 0 rfl,B.cell h 1 rfl,B.cell h 2 rfl,B.cell h 3 rfl,B.cell h 4 rfl⟩
 | 1,_=>exact⟨B.cell h 5 rfl,B.cell h 6 rfl,B.cell h 7 rfl,B.cell h 8 rfl,B.cell h 9 rfl⟩
 | 2,_=>exact⟨B.cell h 10 rfl,B.cell h 11 rfl,B.cell h 12 rfl,B.cell h 13 rfl,B.cell h 14 rfl⟩
 | 3,_=>exact⟨B.cell h 15 rfl,B.cell h 16 rfl,B.cell h 17 rfl,B.cell h 18 rfl,B.cell h 19 rfl⟩
 | 4,_=>exact⟨B.cell h 20 rfl,B.cell h 21 rfl,B.cell h 22 rfl,B.cell h 23 rfl,B.cell h 24 rfl⟩
 | 5,_=>exact⟨B.cell h 25 rfl,B.cell h 26 rfl,B.cell h 27 rfl,B.cell h 28 rfl,B.cell h 29 rfl⟩
 | k+6,h=>exact absurd h (by omega)
def kV (w:World) (e:Ending) (w':World):Prop:=∃ar cr ah ch a1 a2 a3 a4 c1 c2 c3 c4,e=.returned (.agg #[.slice ar 1 cr,.slice ah 4 ch,I 16])/\AW.Has w' (.slice ar 1 cr) zk/\LM.nZ w' ah (rK a1 a2 a3 a4 c1 c2 c3 c4)/\4<=ch/\Below w.heap.size w w'
theorem TY {a:M.At} {w w':World} {e:Ending} (h:LW.Y6 [⟨jZ,a⟩] w e w'):∃ar cr ah ch a1 a2 a3 a4 c1 c2 c3 c4,e=.returned (.tuple #[.agg #[.slice ar 1 cr,.slice ah 4 ch,I 16],I 0])/\AW.Own w.heap.size w' (.slice ar 1 cr) zk/\LM.nZ w' ah (rK a1 a2 a3 a4 c1 c2 c3 c4)/\4<=ch/\Below w.heap.size w w':=by
 obtain⟨hb,h2⟩:=h
 rw[if_pos (QX a)] at h2
 obtain⟨ix,E,r,hs,ao,cap,h3,h4,h5,h6,h7,h8,h9⟩:=h2
 rw[IQ] at h3
 injection h3 with h3
 subst h3
 rw[QV] at h4 h6 h7
 rw[Gv] at h4
 injection h4 with h4
 subst h4
 rw[Ku] at h7
 rw[Kt] at h6
 obtain⟨a1,a2,a3,a4,c1,c2,c3,c4,rfl⟩:=U8 h5
 obtain⟨ar,cr,hr,_⟩:=LW.tZ h7
 subst hr
 exact⟨ar,cr,ao,cap,a1,a2,a3,a4,c1,c2,c3,c4,h6,h7,h8,h9,hb⟩
theorem Nn {V U:World} {g:Nat} {x y:Value} {n:Int} {ah:Option Addr} {a1 a2 a3 a4:Option Addr} {c1 c2 c3 c4:Nat} (h:LM.nZ V ah (rK a1 a2 a3 a4 c1 c2 c3 c4)) (hg:V.heap[g]?=some (.cells #[x,y,I n] 25 (0,0))) (hx:∀k i,x≠.int k i) (hy:∀k i,y≠.int k i) (hk:∀b j v,b≠g->V.cell? (Ad b j)=some v->U.cell? (Ad b j)=some v) (hs:V.heap.size<=U.heap.size):LM.nZ U ah (rK a1 a2 a3 a4 c1 c2 c3 c4):=fun hl=>by
 obtain⟨b,off,rfl,hb,bP⟩:=h hl
 have hne:b≠g:=fun e=>by
  subst e
  obtain⟨d0,d1,_,_⟩:=bP 0 (by unfold rK;simp)
  rw[Nat.zero_mul,Nat.add_zero] at d0 d1
  match off,d0,d1 with
  | 0,d0,_ =>
   rw[B.cell hg 0 (v:=x) rfl] at d0
   injection d0 with d0
   exact hx _ _ d0
  | 1,d0,_ =>
   rw[B.cell hg 1 (v:=y) rfl] at d0
   injection d0 with d0
   exact hy _ _ d0
  | 2,_,d1 =>
   have:V.cell? (Ad b 3)=none:=by simp[World.cell?,hg]
   rw[this] at d1
   cases d1
  | k+3,d0,_ =>
   have:V.cell? (Ad b (k+3))=none:=by simp[World.cell?,hg]
   rw[this] at d0
   cases d0
 refine⟨b,off,rfl,by omega,fun i hi=>?_⟩
 obtain⟨d0,d1,d2,_⟩:=bP i hi
 refine⟨hk _ _ _ hne d0,hk _ _ _ hne d1,hk _ _ _ hne d2,fun h0=>?_⟩
 exfalso
 match i,hi,h0 with
 | 0,_,h0=>exact Nat.not_lt_zero _ h0
 | 1,_,h0=>exact Nat.not_lt_zero _ h0
 | 2,_,h0=>exact Nat.not_lt_zero _ h0
 | 3,_,h0=>exact Nat.not_lt_zero _ h0
 | i+4,h,_=>exact absurd h (by unfold rK;simp)
theorem Ks (w:World):Calls Tryz.prog 31 #[] w (kV w):=by
 have dz:Hid (∀ar cr ah ch a1 a2 a3 a4 c1 c2 c3 c4 (w':World),AW.Has w' (.slice ar 1 cr) zk->LM.nZ w' ah (rK a1 a2 a3 a4 c1 c2 c3 c4)->4<=ch->Below w.heap.size w w'->kV w (.returned (.agg #[.slice ar 1 cr,.slice ah 4 ch,I 16])) w'):=fun ar cr ah ch a1 a2 a3 a4 c1 c2 c3 c4 w' h1 h2 h3 h4=>⟨ar,cr,ah,ch,a1,a2,a3,a4,c1,c2,c3,c4,rfl,h1,h2,h3,h4⟩
 obtain⟨P,hP⟩:=ex (kV w)
 rw[<- hP] at dz ⊢
 clear hP
 have nB:Hid (∀(i:PM.ey) V,Calls Tryz.prog 71 #[.agg #[I i.op,I i.a,I i.b,I i.c,I i.m]] V fun e w'=>e=.returned (.string i.bytes)/\Below V.heap.size V w'):=fun i V=>PW.J2 i V
 have HST:Hid (∀k,sP (k+1)=sP k++(NY.getD k i0).bytes):=fun k=>rfl
 have tM:=ai xz
 have VC:Hid (∀wb V,V.heap[wb]?=some (.cells #[I 0,I 4,.string Kv,.bool true,.bool true] 129 (0,0))->Calls Tryz.prog 72 #[.agg #[.string ⟨#[116]⟩,Nl,.slice (some (Ad wb 0)) 1 1,Nl,Nl,I 0],Nl] V fun e w'=>∃ar cr ah ch a1 a2 a3 a4 c1 c2 c3 c4,e=.returned (.tuple #[.agg #[.slice ar 1 cr,.slice ah 4 ch,I 16],I 0])/\AW.Own V.heap.size w' (.slice ar 1 cr) zk/\LM.nZ w' ah (rK a1 a2 a3 a4 c1 c2 c3 c4)/\4<=ch/\Below V.heap.size V w'):=fun wb V hV=>by
  have him:M.mH V ⟨none,0,some (Ad wb 0),1,none,0,none,0⟩ jZ:=⟨fun h=>absurd h (Nat.not_lt_zero _),fun _=>⟨wb,0,rfl,B.isLt hV,fun i hi=>by
   obtain rfl:i=0:=by
    have:i<1:=hi
    omega
   exact⟨B.cell hV 0 rfl,B.cell hV 1 rfl,B.cell hV 2 rfl,B.cell hV 3 rfl,B.cell hV 4 rfl⟩⟩,fun h=>absurd h (Nat.not_lt_zero _),fun h=>absurd h (Nat.not_lt_zero _)⟩
  refine(LW.JZ ⟨jZ,⟨none,0,some (Ad wb 0),1,none,0,none,0⟩⟩ [] none 0 V him (fun h=>absurd h (by simp)) IU ⟨by unfold M.bD;decide,fun k hk=>absurd hk (by simp)⟩ (fun k hk U hU=>?_) (fun m D U hG=>?_) (fun ix ao cap k U hk=>?_)).mono fun e w' h=>TY h
  · obtain rfl:k=0:=by
     have:k<1:=hk
     omega
    refine(W.U9 ⟨#[116]⟩ [⟨0,4,Kv,true,true⟩] 0 none (some (Ad wb 0)) none none 0 1 0 0 U (him.below hU) IU (by kernel_rfl) (by kernel_rfl) (by kernel_rfl) (by kernel_rfl) (by kernel_rfl)).mono ?_
    rintro e w' ⟨rfl,hb⟩
    exact⟨by rw[show M.ji (LM.cx [⟨jZ,⟨none,0,some (Ad wb 0),1,none,0,none,0⟩⟩] 0).i=0 by kernel_rfl],hb⟩
  · rw[IQ]
    exact LW.QL _ m U rfl (hG.im 0 hG.pos)
  · refine LW.Mn _ ao cap _ U ?_
    rw[LM.dW] at hk
    rw[(LM.lK _ ix 1 k hk).1]
    cases ix.getD k 0 <;> rfl
 have HDD:Hid (sP 6=Kv):=J3
 obtain⟨D,hD⟩:=ex Kv
 rw[<- hD] at VC HDD
 clear hD
 have cM:=ai (((Below.refl w.heap.size w).alloc (Nat.le_refl _) (.cells #[Nl,Nl,I 0] 25)).alloc (by simp) (.cells AQ 99))
 have X0:=ai (B.alloc (B.new w #[Nl,Nl,I 0] 25) (.cells AQ 99))
 have R0:Hid (((w.alloc (.cells #[Nl,Nl,I 0] 25)).alloc (.cells AQ 99)).heap[w.heap.size+1]?=some (.cells AQ 99 (0,0))):=by
  have:=B.new (w.alloc (.cells #[Nl,Nl,I 0] 25)) AQ 99
  rw[World.size_alloc] at this
  exact this
 go_enter Tryz.func31,Tryz.ntmps31
 go_wp2
 obtain⟨WA,gw⟩:=ex ((w.alloc (.cells #[Nl,Nl,I 0] 25)).alloc (.cells AQ 99))
 have UR:=gw
 unfold AQ at UR
 rw[<- UR]
 rw[<- gw] at cM X0 R0
 clear gw UR
 obtain⟨rb,oD⟩:=ex (w.heap.size+1)
 rw[<- oD] at R0 ⊢
 have OB:=ai oD
 clear oD
 go_loopw [1,3] (fun sv iv wr=>∃k:Nat,k<=6/\iv=I (k:Int)/\sv=.string (sP k)/\wr.heap[rb]?=some (.cells AQ 99 (0,0))/\wr.heap[w.heap.size]?=some (.cells #[Nl,Nl,I 0] 25 (0,0))/\Below w.heap.size w wr) (fun _ iv _=>6-(intOf iv).toNat)
 case atStart=>exact⟨0,by omega,rfl,rfl,R0.o,X0.o,cM.o⟩
 case round =>
  obtain⟨k,hk,rfl,rfl,hr,hx,hb⟩:=hrel
  have HR:=ai hr
  have HX:=ai hx
  have HB:=ai hb
  clear R0 X0 cM
  by_cases hlt:k<6
  · obtain⟨c0,c1,c2,c3,c4⟩:=Mh hr k hlt
    have hs:=tM.o k
    have HS:=ai (HST.o k)
    have hz:(NY.getD k i0).bytes.size=8:=PM.yg _
    have Tv:=ai (nB.o (NY.getD k i0))
    obtain⟨i,hi⟩:=ex (NY.getD k i0)
    rw[<- hi] at c0 c1 c2 c3 c4 HS hz Tv
    obtain⟨Z,hZ⟩:=ex (sP k)
    obtain⟨Y,hY⟩:=ex i.bytes
    rw[<- hZ] at hs HS ⊢
    rw[<- hY] at hz HS Tv
    have jd:(k:Int)<6:=by omega
    clear hi hZ hY hr hx hb
    go_wp2_with (go_at_call 71;refine(Tv.o _).mono ?_;rintro e w1 ⟨rfl,hb1⟩;have bj:=ai (HB.o.trans (hb1.mono HB.o.size));have Tk:=ai (B.below HR.o hb1 (B.isLt HR.o));have Za:=ai (B.below HX.o hb1 (B.isLt HX.o));clear hb1)
    go_roundw
    case rel=>exact⟨k+1,by omega,by go_num,by rw[HS.o],Tk.o,Za.o,bj.o⟩
    case measure=>simp[intOf];omega
  · obtain rfl:k=6:=by omega
    rw[HDD.o]
    have Xu:=B.isLt hx
    clear hr hx hb HST tM nB
    go_wp2_with fail
    have HBS:=ai (HB.o.alloc HB.o.size (.cells #[I 0,I 4,.string D,.bool true,.bool true] 129))
    have Vb:=ai (B.alloc HX.o (.cells #[I 0,I 4,.string D,.bool true,.bool true] 129))
    have OI:=ai (VC.o wr.heap.size _ (B.new wr #[I 0,I 4,.string D,.bool true,.bool true] 129))
    go_at_call 72
    refine OI.o.mono ?_
    rintro e w2 ⟨ar,cr,ah,ch,a1,a2,a3,a4,c1,c2,c3,c4,rfl,h1,h2,h3,h4⟩
    have HO:=ai h1
    have HH:=ai h2
    have Wo:=ai (B.below Vb.o h4 (B.isLt Vb.o))
    have bW:=ai (HBS.o.trans (h4.mono HBS.o.size))
    have hcl:=h4.size
    clear h1 h2 h4 OI VC HDD Vb
    have Pe:=ai (B.alloc Wo.o (.cells #[.slice ar 1 cr,.slice ah 4 ch,I 16] 25))
    have y0:=B.cell Pe.o 0 rfl
    have y1:=B.cell Pe.o 1 rfl
    have y2:=B.cell Pe.o 2 rfl
    have yf:=B.free Pe.o
    have Un:=B.isLt Pe.o
    have qp:Hid (GK.Kp (fun b=>b=w.heap.size) w2 (w2.alloc (.cells #[.slice ar 1 cr,.slice ah 4 ch,I 16] 25))):=GK.Kp.alloc _ w2 _
    have HKU:=ai (qp.o.trans (GK.sO (D:=fun b=>b=w.heap.size) _ w.heap.size 0 1 2 (.slice ar 1 cr) (.slice ah 4 ch) (I 16) rfl) (fun _ _ g=>g))
    go_wp2
    refine bodyPost_ret (v:=.agg #[.slice ar 1 cr,.slice ah 4 ch,I 16]) (by simp[results,Tryz.results31,go_sem,y0,y1,y2,Un]) rfl (dz.o _ _ _ _ a1 a2 a3 a4 c1 c2 c3 c4 _ ?_ ?_ h3 ?_)
    · exact AW.Own.has (HKU.o.row HO.o (fun b hb e=>by have:=(HO.o.lt b hb).1;simp at this;omega))
    · exact Nn HH.o Wo.o (fun _ _ h=>nomatch h) (fun _ _ h=>nomatch h) (fun b j v hne hc=>HKU.o.cell hc hne) HKU.o.size
    · exact GK.Kp.below bW.o HKU.o bW.o.size (fun b hb=>by rw[hb];exact Nat.le_refl _)
end GB
end Go.Proofs.YtkdigjpejnebkaaGreat
