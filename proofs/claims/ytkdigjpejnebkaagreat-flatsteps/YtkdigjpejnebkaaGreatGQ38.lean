import Derived.Test.YtkdigjpejnebkaaGreatGQ00
import Derived.Test.YtkdigjpejnebkaaGreatGQ36
import Derived.Test.YtkdigjpejnebkaaGreatGQ37
set_option maxHeartbeats 20000000
set_option linter.unusedVariables false
set_option maxRecDepth 100000
set_option linter.unusedSimpArgs false
namespace Go.Proofs.YtkdigjpejnebkaaGreat
namespace LW
open Go.RowKit Go.WideMaps Go.Maps
open W (ai)
theorem J9 (p:LM.Li) (libs:List LM.Li) (ao:Option Addr) (cap:Nat) (w:World) (hp:M.mJ w p.a p.i) (h:LM.He w ao libs) (Yh:M.Fit p.i) (hf:LM.ZN libs)
  (px:∀k,k<(p::libs).length->∀V,Below w.heap.size w V->Calls Tryz.prog 115 #[.agg (M.eY (LM.cA (p::libs) k).a (LM.cA (p::libs) k).i)] V fun e w'=>e=.returned (I (M.jm (LM.cA (p::libs) k).i))/\Below V.heap.size V w')
  (hga:∀m D V,Gi (p::libs) m D V->Calls Tryz.prog 100 #[LM.Ds (LM.cA (p::libs) 0),.map (some m)] V (RM (p::libs) (LM.V9 (p::libs) (p::libs).length 0 [0]) V))
  (hpx:∀ix ao cap k V,k<(LM.cI (p::libs) 1 ix).length->Calls Tryz.prog 118 #[.agg (LM.kH (LM.dO (LM.cI (p::libs) 1 ix) k)),.slice ao (LM.cI (p::libs) 1 ix).length cap] V (Au (LM.wW (LM.cI (p::libs) 1 ix) (LM.dO (LM.cI (p::libs) 1 ix) k)) V)) :
  Calls Tryz.prog 72 #[LM.Ds p,.slice ao libs.length cap] w (YX (p::libs) w):=by
 have hsl:libs.length<=140737488351232:=hf.1
 have HP:=ai hp
 have ZH:=ai px
 have Zv:=ai hga
 have Zh:=ai hpx
 have HL:=ai h
 have Wo:Hid (∀V,Below w.heap.size w V->∀k,k<(p::libs).length->M.mJ V (LM.cA (p::libs) k).a (LM.cA (p::libs) k).i):=fun V hb k hk=>by
  cases k with
  | zero=>exact hp.below hb
  | succ k =>
   have hk':k<libs.length:=by simpa using hk
   obtain⟨b,off,_,_,hl⟩:=h (by omega)
   exact(hl k hk').2.below hb
 have jn:Hid (∀k,k<(p::libs).length->M.Fit (LM.cA (p::libs) k).i):=fun k hk=>by
  cases k with
  | zero=>exact Yh
  | succ k=>exact hf.2 k (by simpa using hk)
 clear hp h Yh hf px hga hpx
 have Az:=ai (((Below.refl w.heap.size w).alloc (Nat.le_refl _) (.cells (M.eY p.a p.i) 135)).alloc (by simp) (.cells #[Nl,Nl,I 0] 25))
 have BM:=ai (B.alloc (B.new w (M.eY p.a p.i) 135) (.cells #[Nl,Nl,I 0] 25))
 have BR0:=B.new (w.alloc (.cells (M.eY p.a p.i) 135)) #[Nl,Nl,I 0] 25
 rw[World.size_alloc] at BR0
 have BR:=ai BR0
 clear BR0
 unfold LM.Ds
 go_enter Tryz.func72,Tryz.ntmps72
 by_cases h6:6<libs.length
 · have HE:Hid (LM.gy (p::libs)=2):=by
    show _=_
    unfold LM.gy
    rw[if_pos (by simp;omega)]
   clear BM BR
   simp only[M.eY] at Az ⊢
   go_wp2
   exact bodyPost_ret (v:=.tuple #[.agg #[Nl,Nl,I 0],I 2]) (by simp[results,Tryz.results72,go_sem]) rfl ⟨Az.o,by rw[HE.o];simp⟩
 · have h7:(p::libs).length<=7:=by simp;omega
   have Vi:Hid ((((w.alloc (.cells (M.eY p.a p.i) 135)).alloc (.cells #[Nl,Nl,I 0] 25)).alloc (.cells (M.eY p.a p.i) 135)).ownsRow (w.heap.size+2) 135 6 (.slice (some (Ad (w.heap.size+2) 0)) 1 1) 1 (LM.lS p)):=by
    have h:=World.ownsRow_lit (base:=w.heap.size+2) (e:=135) (size:=6) ((w.alloc (.cells (M.eY p.a p.i) 135)).alloc (.cells #[Nl,Nl,I 0] 25)) (M.eY p.a p.i) 1 (by simp) (by decide) rfl
    have e:((w.alloc (.cells (M.eY p.a p.i) 135)).alloc (.cells #[Nl,Nl,I 0] 25)).heap.size=w.heap.size+2:=by simp
    rw[e] at h
    exact h
   have fK:=ai (Az.o.alloc (by simp;omega) (.cells (M.eY p.a p.i) 135))
   have SH:=ai (B.alloc BM.o (.cells (M.eY p.a p.i) 135))
   have rW:=ai (B.alloc BR.o (.cells (M.eY p.a p.i) 135))
   clear BM BR Az
   simp only[M.eY] at Vi fK SH rW ⊢
   go_wp2_with (at_builtin;refine qV rfl _ _ rfl (w.heap.size+2) p (w.heap.size+2) (by first | rfl | simp) Vi.o ao cap libs rfl (HL.o.below fK.o) (by omega) (by simp) ?_;intro gg YO w1 hown hgrow hlt;have bh:=ai (fK.o.grown hgrow (by simp;omega) (fun q hq=>by injection hq with hq;omega));have BM1:=ai (B.grown SH.o hgrow (by simp));have iY:=ai (B.grown rW.o hgrow (by simp));have Wp:=ai (TL (l:=p::libs) hown hlt (Wo.o _ bh.o));clear hown hgrow hlt)
   obtain⟨all,hall⟩:=ex (p::libs)
   have HLI:Hid (LM.cA all 0=p):=by rw[hall];rfl
   have hlen:libs.length+1=all.length:=by rw[hall];rfl
   rw[<- hall] at Wp Wo jn h7 ZH Zv Zh
   rw[<- hall,hlen]
   clear Vi fK SH rW HL
   have Pd:=ai hall
   clear hall
   refine(Ed all _ _ _ Wp.o ⟨by unfold M.bD;omega,jn.o⟩ (fun k hk V hV=>ZH.o k hk V (bh.o.trans (hV.mono bh.o.size)))).mono ?_
   rintro e w2 ⟨hb,hout⟩
   have bY:=ai (bh.o.trans (hb.mono bh.o.size))
   have SI:=ai (B.below BM1.o hb (B.isLt BM1.o))
   have rX:=ai (B.below iY.o hb (B.isLt iY.o))
   clear hb BM1 iY bh Wp
   by_cases hby:LM.lU all=0
   · rw[if_pos hby] at hout
     obtain⟨m,D,rfl,hmap,M0⟩:=hout
     obtain⟨px,Dy⟩:=LM.G3 hby
     have HGI:Hid (Gi all m D w2):=⟨by omega,h7,px,jn.o,Dy,Wo.o _ bY.o,hmap,M0⟩
     have rU:=ai px
     clear hmap M0 Dy px
     have m0:=B.cell SI.o 0 rfl
     have m1:=B.cell SI.o 1 rfl
     have m2:=B.cell SI.o 2 rfl
     have m3:=B.cell SI.o 3 rfl
     have m4:=B.cell SI.o 4 rfl
     have m5:=B.cell SI.o 5 rfl
     have ES:=ai hby
     clear hby
     go_wp2_with fail
     have oH:=ai (Zv.o m D w2 HGI.o)
     rw[HLI.o] at oH
     refine Calls.mono (P:=Tryz.prog) oH.o ?_
     rintro e w3 ⟨hb,hout⟩
     have fK:=ai (bY.o.trans (hb.mono bY.o.size))
     have SH:=ai (B.below SI.o hb (B.isLt SI.o))
     have rW:=ai (B.below rX.o hb (B.isLt rX.o))
     clear hb SI rX oH m0 m1 m2 m3 m4 m5
     have r0:=B.cell rW.o 0 rfl
     have r1:=B.cell rW.o 1 rfl
     have r2:=B.cell rW.o 2 rfl
     have rf:=B.free rW.o
     have rl:=B.isLt rW.o
     cases eg:LM.V9 all all.length 0 [0] with
     | none =>
      rw[eg] at hout
      obtain rfl:=hout
      have HE:Hid (LM.gy all=6):=by
       show _=_
       unfold LM.gy
       rw[if_neg (by omega),if_pos ES.o,eg]
      clear eg
      go_wp2
      exact bodyPost_ret (v:=.tuple #[.agg #[Nl,Nl,I 0],I 6]) (by simp[results,Tryz.results72,go_sem,r0,r1,r2]) rfl ⟨((fK.o.setCell (by simp) _).setCell (by simp) _).setCell (by simp) _,by rw[<- Pd.o,HE.o];simp⟩
     | some ix =>
      rw[eg] at hout
      obtain⟨hok,I9,cap2,rfl,hO⟩:=hout
      have hpos:=hok.pos
      have hle:=hok.le
      have KZ:Hid (LM.zj (LM.dO (LM.cI all 1 ix) (ix.length-1))=LM.fB all 1 ix):=LM.Bb all ix 1 hpos
      have Vk:Hid (Oi (LM.cI all 1 ix) I9 w3):=by
       refine⟨hO,by rw[LM.dX];omega,fun k hk=>?_,fun k hk=>?_,LM.Mw rU.o h7 hok⟩
       · rw[LM.dX] at hk
         rw[(LM.lK all ix 1 k hk).1]
         exact rU.o _ (hok.lt _ (LM.DI ix k hk))
       · rw[LM.dX] at hk
         rw[(LM.lK all ix 1 k hk).1]
         exact jn.o _ (hok.lt _ (LM.DI ix k hk))
      have hxl:ix.length=(LM.cI all 1 ix).length:=(LM.dX all ix 1).symm
      have Eu:Hid (LM.gy all=if 256<LM.fB all 1 ix then 3 else match LM.kQ (LM.cI all 1 ix) with
        | none=>7
        | some _=>0):=by
       show _=_
       unfold LM.gy
       rw[if_neg (by omega),if_pos ES.o,eg]
       dsimp only
       cases LM.kQ (LM.cI all 1 ix) <;> rfl
      have HEG:=ai eg
      obtain⟨EN,hEN⟩:=ex (LM.fB all 1 ix)
      rw[<- hEN] at KZ Eu
      have Zi:=ai (Zh.o ix)
      obtain⟨zU,Us⟩:=ex (LM.cI all 1 ix)
      rw[<- Us] at Vk Eu KZ hO hxl Zi
      have HOB:=ai Us
      rw[hxl] at KZ hpos hle
      rw[hxl]
      clear hEN Us eg hok hxl HGI ES
      obtain⟨b,off,Gp,hbl,bQ⟩:=hO hpos
      subst Gp
      obtain⟨k1,hk1⟩:=ex (zU.length-1)
      have M5:k1<zU.length:=by omega
      rw[<- hk1] at KZ
      obtain⟨⟨c0,c1,c2,c3,c4,c5,c6⟩,him⟩:=bQ k1 M5
      have qq:=ai (fun V hb=>iC (LM.dO zU k1) V (him.below hb) (Vk.o.YM k1 M5) (by have:=Vk.o.base k1 M5;omega) (by have:=Vk.o.base k1 M5;omega))
      obtain⟨o,ho⟩:=ex (LM.dO zU k1)
      rw[<- ho] at c0 c1 c2 c3 c4 c5 c6 qq KZ
      simp only[LM.kH] at qq
      rw[KZ.o] at qq
      have hwr:IntKind.i64.wrap ((zU.length:Int)-1)=(k1:Int):=by rw[IntWalk.i64_in _ (by omega)];omega
      clear ho bQ hO him KZ hk1 hlen HP Wo jn
      by_cases UQ:256<EN
      · have HE:Hid (LM.gy all=3):=by
         show _=_
         rw[Eu.o,if_pos UQ]
        clear Eu
        go_wp2_with (go_at_call 101;refine(qq.o _ (Below.refl _ _)).mono ?_;rintro e w4 ⟨rfl,hb⟩;have lZ:=ai (fK.o.trans (hb.mono fK.o.size));have LB:=ai (B.below rW.o hb (B.isLt rW.o));have s0:=B.cell LB.o 0 rfl;have s1:=B.cell LB.o 1 rfl;have s2:=B.cell LB.o 2 rfl;have sf:=B.free LB.o;have sl:=B.isLt LB.o;clear hb)
        exact bodyPost_ret (v:=.tuple #[.agg #[Nl,Nl,I 0],I 3]) (by simp[results,Tryz.results72,go_sem,s0,s1,s2]) rfl ⟨((lZ.o.setCell (by simp) _).setCell (by simp) _).setCell (by simp) _,by rw[<- Pd.o,HE.o];simp⟩
      · have RY:Hid (∀V,Oi zU (some (Ad b off)) V->Calls Tryz.prog 102 #[.slice (some (Ad b off)) zU.length cap2] V (Jb (LM.kQ zU) V)):=fun V hV=>yI zU _ cap2 V hV (by omega) (fun k hk V' hV'=>Zi.o _ cap2 k V' hk)
        cases es:LM.kQ zU with
        | none =>
         have HE:Hid (LM.gy all=7):=by
          show _=_
          rw[Eu.o,if_neg UQ,es]
         rw[es] at RY
         clear Eu es
         go_wp2_with (first
          | (go_at_call 101;refine(qq.o _ (Below.refl _ _)).mono ?_;rintro e w4 ⟨rfl,hb⟩;have lZ:=ai (fK.o.trans (hb.mono fK.o.size));have LB:=ai (B.below rW.o hb (B.isLt rW.o));have BM4:=ai (B.below SH.o hb (B.isLt SH.o));have OL:=ai (Vk.o.below hb);clear hb)
          | (go_at_call 102;refine(RY.o _ OL.o).mono ?_;rintro e w5 ⟨hb,rfl⟩;have gK:=ai (lZ.o.trans (hb.mono lZ.o.size));have PO:=ai (B.below LB.o hb (B.isLt LB.o));have s0:=B.cell PO.o 0 rfl;have s1:=B.cell PO.o 1 rfl;have s2:=B.cell PO.o 2 rfl;have sf:=B.free PO.o;have sl:=B.isLt PO.o;clear hb))
         exact bodyPost_ret (v:=.tuple #[.agg #[Nl,Nl,I 0],I 7]) (by simp[results,Tryz.results72,go_sem,s0,s1,s2]) rfl ⟨((gK.o.setCell (by simp) _).setCell (by simp) _).setCell (by simp) _,by rw[<- Pd.o,HE.o];simp⟩
        | some E =>
         have HE:Hid (LM.gy all=0):=by
          show _=_
          rw[Eu.o,if_neg UQ,es]
         have HES:=ai es
         rw[es] at RY
         clear Eu es
         go_wp2_with (first
          | (go_at_call 101;refine(qq.o _ (Below.refl _ _)).mono ?_;rintro e w4 ⟨rfl,hb⟩;have lZ:=ai (fK.o.trans (hb.mono fK.o.size));have LB:=ai (B.below rW.o hb (B.isLt rW.o));have BM4:=ai (B.below SH.o hb (B.isLt SH.o));have OL:=ai (Vk.o.below hb);clear hb)
          | (go_at_call 102;refine(RY.o _ OL.o).mono ?_;rintro e w5 ⟨hb,hs,ah,ch,hme,rfl,hhh,hcc⟩;have gK:=ai (lZ.o.trans (hb.mono lZ.o.size));have PO:=ai (B.below LB.o hb (B.isLt LB.o));have BM5:=ai (B.below BM4.o hb (B.isLt BM4.o));have Vj:=ai (OL.o.below hb);have Tt:=ai hme;have Wq:=ai hhh;clear hb hme hhh))
         clear RY qq Vk OL rW LB SH BM4 fK r0 r1 r2 rf rl c0 c1 c2 c3 c4 c5 c6 hwr hbl M5
         obtain⟨b5,abl,ze,DB,S3⟩:=Vj.o.has hpos
         obtain⟨⟨d0,d1,d2,d3,d4,d5,d6⟩,dim⟩:=S3 0 hpos
         have UH:b=b5:=by injection ze with ze;injection ze
         have Yr:off=abl:=by injection ze with ze;injection ze
         rw[<- UH,<- Yr] at d0 d1 d2 d3 d4 d5 d6
         rw[<- UH] at DB
         simp only[Nat.zero_mul,Nat.add_zero] at d0 d1 d2 d3 d4 d5 d6
         have ahT:=Vj.o.base 0 hpos
         have hen:0<=p.i.entry/\p.i.entry<4080:=by
          have h:=LM.BG (rU.o 0 (by omega))
          rw[HLI.o] at h
          exact h
         have EP:Hid ((LM.cA all 0).i.entry=p.i.entry):=by rw[HLI.o];rfl
         have HAR:Hid (∀V,Below w5.heap.size w5 V->Calls Tryz.prog 103 #[.slice (some (Ad b off)) zU.length cap2] V fun e w'=>∃r,e=.returned r/\AW.Own V.heap.size w' r (LM.mS zU)/\Below V.heap.size V w'):=fun V hb=>pN zU _ cap2 V (Vj.o.below hb) (by omega)
         have HAD:=ai (fun V=>El (LM.dO zU 0) p.i.entry V (by omega) (by omega) hen.1 (by omega))
         obtain⟨o0,ho0⟩:=ex (LM.dO zU 0)
         have Zo:=ai ho0
         rw[<- ho0] at d0 d1 d2 d3 d4 d5 d6 HAD
         simp only[LM.kH] at HAD
         have hne:b≠w.heap.size+1:=fun e=>by
          rw[e] at d6
          have h:=PO.o
          simp[World.cell?,h] at d6
         have HS:Hid (∀V,Below w5.heap.size w5 V->V.cell? (Ad b off)=some (.string o0.i.name)/\V.cell? (Ad b (off+1))=some (.slice o0.a.an o0.i.needs.length o0.a.cn)/\V.cell? (Ad b (off+2))=some (.slice o0.a.ag o0.i.cX.length o0.a.cg)/\V.cell? (Ad b (off+3))=some (.slice o0.a.ay o0.i.syms.length o0.a.cy)/\V.cell? (Ad b (off+4))=some (.slice o0.a.ar o0.i.fh.length o0.a.cr)/\V.cell? (Ad b (off+5))=some (I o0.i.entry)/\V.cell? (Ad b (off+6))=some (I o0.base)/\V.cell? (Ad w.heap.size 5)=some (I p.i.entry)):=fun V hb=>⟨(M.aA hb DB).trans d0,(M.aA hb DB).trans d1,(M.aA hb DB).trans d2,(M.aA hb DB).trans d3,(M.aA hb DB).trans d4,(M.aA hb DB).trans d5,(M.aA hb DB).trans d6,B.cell (B.below BM5.o hb (B.isLt BM5.o)) 5 rfl⟩
         obtain⟨AD,hAD⟩:=ex (LM.u7 o0 p.i.entry)
         rw[<- hAD] at HAD
         have ad3:=ai hAD
         clear ho0 hAD d0 d1 d2 d3 d4 d5 d6 dim S3 ze UH Yr
         have jL:=ai (Below.refl w5.heap.size w5).drew
         have cB:=ai (HS.o _ jL.o)
         go_region_held3 (fun V=>V.cell? (Ad b off)=some (.string o0.i.name)/\V.cell? (Ad b (off+1))=some (.slice o0.a.an o0.i.needs.length o0.a.cn)/\V.cell? (Ad b (off+2))=some (.slice o0.a.ag o0.i.cX.length o0.a.cg)/\V.cell? (Ad b (off+3))=some (.slice o0.a.ay o0.i.syms.length o0.a.cy)/\V.cell? (Ad b (off+4))=some (.slice o0.a.ar o0.i.fh.length o0.a.cr)/\V.cell? (Ad b (off+5))=some (I o0.i.entry)/\V.cell? (Ad b (off+6))=some (I o0.base)/\V.cell? (Ad w.heap.size 5)=some (I p.i.entry)) (first | exact HS7.o | exact HS6.o | exact cB.o | exact pP.o _ _ _)
          (first
           | (go_at_call 103;refine(HAR.o _ jL.o).mono ?_;rintro e w6 ⟨v8,rfl,yD,hb⟩;obtain⟨ar,cr,hrv,hrg⟩:=tZ yD;subst hrv;have tO:=ai yD;have Ax:=ai (jL.o.trans (hb.mono jL.o.size));have HS6:=ai (HS.o _ Ax.o);clear hb yD hrg)
           | (go_at_call 104;refine(HAD.o _).mono ?_;rintro e w7 ⟨rfl,hb⟩;have Hn:=ai (Ax.o.trans (hb.mono Ax.o.size));have HS7:=ai (HS.o _ Hn.o);have adi:=ai (pZ tO.o hb);have Wu:=ai (B.below PO.o Hn.o (B.isLt PO.o));have s0:=B.cell Wu.o 0 rfl;have s1:=B.cell Wu.o 1 rfl;have s2:=B.cell Wu.o 2 rfl;have sf:=B.free Wu.o;have sl:=B.isLt Wu.o;have pP:Hid (∀u0 u1 u2,(fun V:World=>V.cell? (Ad b off)=some (.string o0.i.name)/\V.cell? (Ad b (off+1))=some (.slice o0.a.an o0.i.needs.length o0.a.cn)/\V.cell? (Ad b (off+2))=some (.slice o0.a.ag o0.i.cX.length o0.a.cg)/\V.cell? (Ad b (off+3))=some (.slice o0.a.ay o0.i.syms.length o0.a.cy)/\V.cell? (Ad b (off+4))=some (.slice o0.a.ar o0.i.fh.length o0.a.cr)/\V.cell? (Ad b (off+5))=some (I o0.i.entry)/\V.cell? (Ad b (off+6))=some (I o0.base)/\V.cell? (Ad w.heap.size 5)=some (I p.i.entry)) (((w7.setCell (Ad (w.heap.size+1) 0) u0).setCell (Ad (w.heap.size+1) 1) u1).setCell (Ad (w.heap.size+1) 2) u2)):=(fun u0 u1 u2=>by have h:=HS7.o;have hw:w.heap.size≠w.heap.size+1:=(by omega);simp only[jI _ _ _ _ _ _ _ hne,jI _ _ _ _ _ _ _ hw];exact h);clear hb))
         have adF:=ai (Kl Wu.o (Wq.o.below Hn.o) (.slice ar (LM.mS zU).length cr) (.slice ah hs.length ch) (I AD))
         have Zk:=ai (Mm (rb:=w.heap.size+1) adi.o (Nat.lt_of_lt_of_le (B.isLt PO.o) jL.o.size) (.slice ar (LM.mS zU).length cr) (.slice ah hs.length ch) (I AD))
         have iE:=ai ((((gK.o.trans (Hn.o.mono gK.o.size)).setCell (p:=(Ad (w.heap.size+1) 0)) (by simp) (.slice ar (LM.mS zU).length cr)).setCell (p:=(Ad (w.heap.size+1) 1)) (by simp) (.slice ah hs.length ch)).setCell (p:=(Ad (w.heap.size+1) 2)) (by simp) (I AD))
         go_wp2
         refine bodyPost_ret (v:=.tuple #[.agg #[.slice ar (LM.mS zU).length cr,.slice ah hs.length ch,I AD],I 0]) (by simp[results,Tryz.results72,go_sem,s0,s1,s2]) rfl ⟨iE.o,?_⟩
         rw[<- Pd.o,HE.o,if_pos rfl]
         refine⟨ix,E,.slice ar (LM.mS zU).length cr,hs,ah,ch,HEG.o,by rw[<- HOB.o];exact HES.o,Tt.o,?_,?_,adF.o,hcc⟩
         · rw[EP.o,<- HOB.o,<- Zo.o,<- ad3.o]
         · rw[<- HOB.o]
           exact Zk.o.mono (Nat.le_trans gK.o.size jL.o.size)
   · rw[if_neg hby] at hout
     subst hout
     have HE:Hid (LM.gy all=LM.lU all):=by
      show _=_
      unfold LM.gy
      rw[if_neg (by omega),if_neg hby]
     obtain⟨er,her⟩:=ex (LM.lU all)
     rw[<- her] at HE hby
     rw[<- her]
     have hbz:(er==0)=false:=by simpa using hby
     have r0:=B.cell rX.o 0 rfl
     have r1:=B.cell rX.o 1 rfl
     have r2:=B.cell rX.o 2 rfl
     have rf:=B.free rX.o
     have rl:=B.isLt rX.o
     clear her
     go_wp2
     exact bodyPost_ret (v:=.tuple #[.agg #[Nl,Nl,I 0],I er]) (by simp[results,Tryz.results72,go_sem,r0,r1,r2]) rfl ⟨((bY.o.setCell (by simp) _).setCell (by simp) _).setCell (by simp) _,by rw[<- Pd.o,HE.o,if_neg hby]⟩
end LW
namespace LW
open Go.RowKit
open W (ai)
theorem Mk (l:List LM.Ob) (ao:Option Addr) (cap:Nat) (o:LM.Ob) (w:World) (hr:o.i.fh=[]):Calls Tryz.prog 118 #[.agg (LM.kH o),.slice ao l.length cap] w (Au (LM.wW l o) w):=by
 have e:LM.wW l o=some []:=by unfold LM.wW;rw[hr];rfl
 rw[e]
 unfold LM.kH
 rw[hr]
 obtain⟨⟨nm,ns,gs,ys,rs,en⟩,⟨an,cn,ag,cg,ay,cy,ar,cr⟩,bs⟩:=o
 simp only at hr ⊢
 clear hr e
 obtain⟨n1,h1⟩:∃n,n=ns.length:=⟨_,rfl⟩
 obtain⟨n2,h2⟩:∃n,n=gs.length:=⟨_,rfl⟩
 obtain⟨n3,h3⟩:∃n,n=ys.length:=⟨_,rfl⟩
 rw[<- h1,<- h2,<- h3]
 clear h1 h2 h3
 have HB:=ai ((Below.refl w.heap.size w).alloc (Nat.le_refl _) (.cells #[.string nm,.slice an n1 cn,.slice ag n2 cg,.slice ay n3 cy,.slice ar 0 cr,I en,I bs] 178))
 have dx:Hid (∀w',Below w.heap.size w w'->Au (some []) w (.returned (.tuple #[Nl,.bool true])) w'):=fun w' hb=>⟨hb,_,rfl,World.ownsRow_nil _ _ _ _⟩
 obtain⟨P,hP⟩:=ex (Au (some []) w)
 rw[<- hP] at dx ⊢
 clear hP
 simp only[List.length_nil]
 go_enter Tryz.func118,Tryz.ntmps118
 go_wp2
 go_loopw [6,17] (fun sv iv wr=>sv=Nl/\iv=I 0/\Below w.heap.size w wr) (fun _ _ _=>0)
 case atStart=>exact⟨rfl,rfl,HB.o⟩
 case round =>
  obtain⟨rfl,rfl,hb⟩:=hrel
  have bY:=ai hb
  clear hb
  go_wp2
  exact dx.o _ bY.o
theorem QU (p:LM.Li) (m:Nat) (w:World) (hn:p.i.needs=[]) (him:M.mJ w p.a p.i):Calls Tryz.prog 100 #[LM.Ds p,.map (some m)] w (RM [p] (some [0]) w):=by
 have dx:Hid (∀(w':World) g,w'.heap[g]?=some (.cells #[.string p.i.name,.slice p.a.an p.i.needs.length p.a.cn,.slice p.a.ag p.i.cX.length p.a.cg,.slice p.a.ay p.i.syms.length p.a.cy,.slice p.a.ar p.i.fh.length p.a.cr,I p.i.entry,I 1] 178 (0,0))->Below w.heap.size w w'->RM [p] (some [0]) w (.returned (.tuple #[.slice (some (Ad g 0)) 1 1,.bool true])) w'):=fun w' g h1 h2=>by
  refine⟨h2,⟨by decide,by decide,fun j hj=>?_⟩,some (Ad g 0),1,rfl,fun _=>⟨g,0,rfl,B.isLt h1,fun k hk=>?_⟩⟩
  · simp at hj;subst hj;exact Nat.zero_lt_one
  · obtain rfl:k=0:=by have:k<1:=hk;omega
    exact⟨⟨B.cell h1 0 rfl,B.cell h1 1 rfl,B.cell h1 2 rfl,B.cell h1 3 rfl,B.cell h1 4 rfl,B.cell h1 5 rfl,B.cell h1 6 rfl⟩,him.below h2⟩
 obtain⟨P,hP⟩:=ex (RM [p] (some [0]) w)
 rw[<- hP] at dx ⊢
 clear hP him
 unfold LM.Ds M.eY
 rw[hn] at dx ⊢
 obtain⟨⟨nm,ns,gs,ys,rs,en⟩,⟨an,cn,ag,cg,ay,cy,ar,cr⟩⟩:=p
 simp only at dx ⊢
 clear hn
 obtain⟨n2,h2⟩:∃n,n=gs.length:=⟨_,rfl⟩
 obtain⟨n3,h3⟩:∃n,n=ys.length:=⟨_,rfl⟩
 obtain⟨n4,h4⟩:∃n,n=rs.length:=⟨_,rfl⟩
 rw[<- h2,<- h3,<- h4] at dx ⊢
 simp only[List.length_nil] at dx ⊢
 clear h2 h3 h4
 have HB:=ai (((Below.refl w.heap.size w).alloc (Nat.le_refl _) (.cells #[.string nm,.slice an 0 cn,.slice ag n2 cg,.slice ay n3 cy,.slice ar n4 cr,I en] 135)).alloc (by simp) (.cells #[.string nm,.slice an 0 cn,.slice ag n2 cg,.slice ay n3 cy,.slice ar n4 cr,I en,I 1] 178))
 have HX:Hid (((w.alloc (.cells #[.string nm,.slice an 0 cn,.slice ag n2 cg,.slice ay n3 cy,.slice ar n4 cr,I en] 135)).alloc (.cells #[.string nm,.slice an 0 cn,.slice ag n2 cg,.slice ay n3 cy,.slice ar n4 cr,I en,I 1] 178)).heap[w.heap.size+1]?=some (.cells #[.string nm,.slice an 0 cn,.slice ag n2 cg,.slice ay n3 cy,.slice ar n4 cr,I en,I 1] 178 (0,0))):=by
  have:=B.new (w.alloc (.cells #[.string nm,.slice an 0 cn,.slice ag n2 cg,.slice ay n3 cy,.slice ar n4 cr,I en] 135)) #[.string nm,.slice an 0 cn,.slice ag n2 cg,.slice ay n3 cy,.slice ar n4 cr,I en,I 1] 178
  rw[World.size_alloc] at this
  exact this
 go_enter Tryz.func100,Tryz.ntmps100
 go_wp2
 obtain⟨g,hg⟩:=ex (w.heap.size+1)
 rw[<- hg] at HX ⊢
 clear hg
 go_loopw [6,7] (fun sv iv wr=>sv=.slice (some (Ad g 0)) 1 1/\(∃k:Nat,k<=1/\iv=I (k:Int))/\wr.heap[g]?=some (.cells #[.string nm,.slice an 0 cn,.slice ag n2 cg,.slice ay n3 cy,.slice ar n4 cr,I en,I 1] 178 (0,0))/\Below w.heap.size w wr) (fun _ iv _=>1-(intOf iv).toNat)
 case atStart=>exact⟨rfl,⟨0,by omega,rfl⟩,HX.o,HB.o⟩
 case round =>
  obtain⟨rfl,⟨k,hk,rfl⟩,hx,hb⟩:=hrel
  have Wf:=ai hx
  have bY:=ai hb
  have x1:wr.cell? (Ad g 1)=some (.slice an 0 cn):=B.cell hx 1 rfl
  clear hx hb HX HB
  by_cases h0:k=0
  · subst h0
    go_wp2
    clear x1
    go_loopw [6,28] (fun sv iv wi=>sv=.slice (some (Ad g 0)) 1 1/\iv=I 0/\wi.heap[g]?=some (.cells #[.string nm,.slice an 0 cn,.slice ag n2 cg,.slice ay n3 cy,.slice ar n4 cr,I en,I 1] 178 (0,0))/\Below w.heap.size w wi) (fun _ _ _=>0)
    case atStart=>exact⟨rfl,rfl,Wf.o,bY.o⟩
    case round =>
     obtain⟨rfl,rfl,hx,hb⟩:=hrel
     have Ps:=ai hx
     have fK:=ai hb
     clear hx hb Wf bY
     go_wp2
     go_roundw
     case rel=>exact⟨rfl,⟨1,by omega,by first | rfl | go_num⟩,Ps.o,fK.o⟩
     case measure=>simp[intOf]
  · obtain rfl:k=1:=by omega
    go_wp2
    exact dx.o _ _ Wf.o bY.o
end LW
namespace GB
open Go.RowKit
open FW (ai aB)
def AU:Array Value:=#[I 16,I 0,I 0,I 0,I 5,I 11,I 1,I 0,I 0,I 40,I 10,I 0,I 1,I 8,I 0,I 9,I 0,I 1,I 1,I 0,I 16,I 0,I 0,I 0,I 1,I 16,I 0,I 0,I 0,I 6]
theorem Me {V:World} {rb:Nat} (h:V.heap[rb]?=some (.cells AU 99 (0,0))) (k:Nat) (hk:k<6) :
  V.cell? (Ad rb (k*5))=some (I (NU.getD k i0).op)/\V.cell? (Ad rb (k*5+1))=some (I (NU.getD k i0).a)/\V.cell? (Ad rb (k*5+2))=some (I (NU.getD k i0).b)/\V.cell? (Ad rb (k*5+3))=some (I (NU.getD k i0).c)/\V.cell? (Ad rb (k*5+4))=some (I (NU.getD k i0).m):=by
 match k,hk with
 | 0,_=>exact⟨B.cell h 0 rfl,B.cell h 1 rfl,B.cell h 2 rfl,B.cell h 3 rfl,B.cell h 4 rfl⟩
 | 1,_=>exact⟨B.cell h 5 rfl,B.cell h 6 rfl,B.cell h 7 rfl,B.cell h 8 rfl,B.cell h 9 rfl⟩
 | 2,_=>exact⟨B.cell h 10 rfl,B.cell h 11 rfl,B.cell h 12 rfl,B.cell h 13 rfl,B.cell h 14 rfl⟩
 | 3,_=>exact⟨B.cell h 15 rfl,B.cell h 16 rfl,B.cell h 17 rfl,B.cell h 18 rfl,B.cell h 19 rfl⟩
 | 4,_=>exact⟨B.cell h 20 rfl,B.cell h 21 rfl,B.cell h 22 rfl,B.cell h 23 rfl,B.cell h 24 rfl⟩
 | 5,_=>exact⟨B.cell h 25 rfl,B.cell h 26 rfl,B.cell h 27 rfl,B.cell h 28 rfl,B.cell h 29 rfl⟩
 | k+6,h=>exact absurd h (by omega)
def kY (w:World) (e:Ending) (w':World):Prop:=∃ar cr ah ch a1 a2 a3 a4 c1 c2 c3 c4,e=.returned (.agg #[.slice ar 1 cr,.slice ah 4 ch,I 16])/\AW.Has w' (.slice ar 1 cr) zk/\LM.om w' ah (rI a1 a2 a3 a4 c1 c2 c3 c4)/\4<=ch/\Below w.heap.size w w'
theorem TW {a:M.At} {w w':World} {e:Ending} (h:LW.YX [⟨ki,a⟩] w e w'):∃ar cr ah ch a1 a2 a3 a4 c1 c2 c3 c4,e=.returned (.tuple #[.agg #[.slice ar 1 cr,.slice ah 4 ch,I 16],I 0])/\AW.Own w.heap.size w' (.slice ar 1 cr) zk/\LM.om w' ah (rI a1 a2 a3 a4 c1 c2 c3 c4)/\4<=ch/\Below w.heap.size w w':=by
 obtain⟨hb,h2⟩:=h
 rw[if_pos (Q8 a)] at h2
 obtain⟨ix,E,r,hs,ao,cap,h3,h4,h5,h6,h7,h8,h9⟩:=h2
 rw[IY] at h3
 injection h3 with h3
 subst h3
 rw[Q6] at h4 h6 h7
 rw[GL] at h4
 injection h4 with h4
 subst h4
 rw[KG] at h7
 rw[KF] at h6
 obtain⟨a1,a2,a3,a4,c1,c2,c3,c4,rfl⟩:=U2 h5
 obtain⟨ar,cr,hr,_⟩:=LW.tZ h7
 subst hr
 exact⟨ar,cr,ao,cap,a1,a2,a3,a4,c1,c2,c3,c4,h6,h7,h8,h9,hb⟩
theorem Nh {V U:World} {g:Nat} {x y:Value} {n:Int} {ah:Option Addr} {a1 a2 a3 a4:Option Addr} {c1 c2 c3 c4:Nat} (h:LM.om V ah (rI a1 a2 a3 a4 c1 c2 c3 c4)) (hg:V.heap[g]?=some (.cells #[x,y,I n] 25 (0,0))) (hx:∀k i,x≠.int k i) (hy:∀k i,y≠.int k i) (hk:∀b j v,b≠g->V.cell? (Ad b j)=some v->U.cell? (Ad b j)=some v) (hs:V.heap.size<=U.heap.size):LM.om U ah (rI a1 a2 a3 a4 c1 c2 c3 c4):=fun hl=>by
 obtain⟨b,off,rfl,hb,bQ⟩:=h hl
 have hne:b≠g:=fun e=>by
  subst e
  obtain⟨d0,d1,_,_⟩:=bQ 0 (by unfold rI;simp)
  rw[Nat.zero_mul,Nat.add_zero] at d0 d1
  match off,d0,d1 with
  | 0,d0,_ =>
   rw[B.cell hg 0 (v:=x) rfl] at d0
   injection d0 with d0
   exact hx _ _ d0
  | 1,d0,_ =>
   rw[B.cell hg 1 (v:=y) rfl] at d0
   injection d0 with d0
   exact hy _ _ d0
  | 2,_,d1 =>
   have:V.cell? (Ad b 3)=none:=by simp[World.cell?,hg]
   rw[this] at d1
   cases d1
  | k+3,d0,_ =>
   have:V.cell? (Ad b (k+3))=none:=by simp[World.cell?,hg]
   rw[this] at d0
   cases d0
 refine⟨b,off,rfl,by omega,fun i hi=>?_⟩
 obtain⟨d0,d1,d2,_⟩:=bQ i hi
 refine⟨hk _ _ _ hne d0,hk _ _ _ hne d1,hk _ _ _ hne d2,fun h0=>?_⟩
 exfalso
 match i,hi,h0 with
 | 0,_,h0=>exact Nat.not_lt_zero _ h0
 | 1,_,h0=>exact Nat.not_lt_zero _ h0
 | 2,_,h0=>exact Nat.not_lt_zero _ h0
 | 3,_,h0=>exact Nat.not_lt_zero _ h0
 | i+4,h,_=>exact absurd h (by unfold rI;simp)
theorem KE (w:World):Calls Tryz.prog 31 #[] w (kY w):=by
 have dx:Hid (∀ar cr ah ch a1 a2 a3 a4 c1 c2 c3 c4 (w':World),AW.Has w' (.slice ar 1 cr) zk->LM.om w' ah (rI a1 a2 a3 a4 c1 c2 c3 c4)->4<=ch->Below w.heap.size w w'->kY w (.returned (.agg #[.slice ar 1 cr,.slice ah 4 ch,I 16])) w'):=fun ar cr ah ch a1 a2 a3 a4 c1 c2 c3 c4 w' h1 h2 h3 h4=>⟨ar,cr,ah,ch,a1,a2,a3,a4,c1,c2,c3,c4,rfl,h1,h2,h3,h4⟩
 obtain⟨P,hP⟩:=ex (kY w)
 rw[<- hP] at dx ⊢
 clear hP
 have nC:Hid (∀(i:PM.ey) V,Calls Tryz.prog 71 #[.agg #[I i.op,I i.a,I i.b,I i.c,I i.m]] V fun e w'=>e=.returned (.string i.bytes)/\Below V.heap.size V w'):=fun i V=>PW.Kc i V
 have HST:Hid (∀k,sU (k+1)=sU k++(NU.getD k i0).bytes):=fun k=>rfl
 have se:=ai xy
 have Vs:Hid (∀wb V,V.heap[wb]?=some (.cells #[I 0,I 4,.string KH,.bool true,.bool true] 129 (0,0))->Calls Tryz.prog 72 #[.agg #[.string ⟨#[116]⟩,Nl,.slice (some (Ad wb 0)) 1 1,Nl,Nl,I 0],Nl] V fun e w'=>∃ar cr ah ch a1 a2 a3 a4 c1 c2 c3 c4,e=.returned (.tuple #[.agg #[.slice ar 1 cr,.slice ah 4 ch,I 16],I 0])/\AW.Own V.heap.size w' (.slice ar 1 cr) zk/\LM.om w' ah (rI a1 a2 a3 a4 c1 c2 c3 c4)/\4<=ch/\Below V.heap.size V w'):=fun wb V hV=>by
  have him:M.mJ V ⟨none,0,some (Ad wb 0),1,none,0,none,0⟩ ki:=⟨fun h=>absurd h (Nat.not_lt_zero _),fun _=>⟨wb,0,rfl,B.isLt hV,fun i hi=>by
   obtain rfl:i=0:=by
    have:i<1:=hi
    omega
   exact⟨B.cell hV 0 rfl,B.cell hV 1 rfl,B.cell hV 2 rfl,B.cell hV 3 rfl,B.cell hV 4 rfl⟩⟩,fun h=>absurd h (Nat.not_lt_zero _),fun h=>absurd h (Nat.not_lt_zero _)⟩
  refine(LW.J9 ⟨ki,⟨none,0,some (Ad wb 0),1,none,0,none,0⟩⟩ [] none 0 V him (fun h=>absurd h (by simp)) IZ ⟨by unfold M.bD;decide,fun k hk=>absurd hk (by simp)⟩ (fun k hk U hU=>?_) (fun m D U hG=>?_) (fun ix ao cap k U hk=>?_)).mono fun e w' h=>TW h
  · obtain rfl:k=0:=by
     have:k<1:=hk
     omega
    refine(W.U3 ⟨#[116]⟩ [⟨0,4,KH,true,true⟩] 0 none (some (Ad wb 0)) none none 0 1 0 0 U (him.below hU) IZ (by kernel_rfl) (by kernel_rfl) (by kernel_rfl) (by kernel_rfl) (by kernel_rfl)).mono ?_
    rintro e w' ⟨rfl,hb⟩
    exact⟨by rw[show M.jm (LM.cA [⟨ki,⟨none,0,some (Ad wb 0),1,none,0,none,0⟩⟩] 0).i=0 by kernel_rfl],hb⟩
  · rw[IY]
    exact LW.QU _ m U rfl (hG.im 0 hG.pos)
  · refine LW.Mk _ ao cap _ U ?_
    rw[LM.dX] at hk
    rw[(LM.lK _ ix 1 k hk).1]
    cases ix.getD k 0 <;> rfl
 have HDD:Hid (sU 6=KH):=Ke
 obtain⟨D,hD⟩:=ex KH
 rw[<- hD] at Vs HDD
 clear hD
 have cP:=ai (((Below.refl w.heap.size w).alloc (Nat.le_refl _) (.cells #[Nl,Nl,I 0] 25)).alloc (by simp) (.cells AU 99))
 have X0:=ai (B.alloc (B.new w #[Nl,Nl,I 0] 25) (.cells AU 99))
 have R0:Hid (((w.alloc (.cells #[Nl,Nl,I 0] 25)).alloc (.cells AU 99)).heap[w.heap.size+1]?=some (.cells AU 99 (0,0))):=by
  have:=B.new (w.alloc (.cells #[Nl,Nl,I 0] 25)) AU 99
  rw[World.size_alloc] at this
  exact this
 go_enter Tryz.func31,Tryz.ntmps31
 go_wp2
 obtain⟨WA,fH⟩:=ex ((w.alloc (.cells #[Nl,Nl,I 0] 25)).alloc (.cells AU 99))
 have UL:=fH
 unfold AU at UL
 rw[<- UL]
 rw[<- fH] at cP X0 R0
 clear fH UL
 obtain⟨rb,oJ⟩:=ex (w.heap.size+1)
 rw[<- oJ] at R0 ⊢
 have OG:=ai oJ
 clear oJ
 go_loopw [1,3] (fun sv iv wr=>∃k:Nat,k<=6/\iv=I (k:Int)/\sv=.string (sU k)/\wr.heap[rb]?=some (.cells AU 99 (0,0))/\wr.heap[w.heap.size]?=some (.cells #[Nl,Nl,I 0] 25 (0,0))/\Below w.heap.size w wr) (fun _ iv _=>6-(intOf iv).toNat)
 case atStart=>exact⟨0,by omega,rfl,rfl,R0.o,X0.o,cP.o⟩
 case round =>
  obtain⟨k,hk,rfl,rfl,hr,hx,hb⟩:=hrel
  have HR:=ai hr
  have HX:=ai hx
  have HB:=ai hb
  clear R0 X0 cP
  by_cases hlt:k<6
  · obtain⟨c0,c1,c2,c3,c4⟩:=Me hr k hlt
    have hs:=se.o k
    have HS:=ai (HST.o k)
    have hz:(NU.getD k i0).bytes.size=8:=PM.yb _
    have Tx:=ai (nC.o (NU.getD k i0))
    obtain⟨i,hi⟩:=ex (NU.getD k i0)
    rw[<- hi] at c0 c1 c2 c3 c4 HS hz Tx
    obtain⟨Z,hZ⟩:=ex (sU k)
    obtain⟨Y,hY⟩:=ex i.bytes
    rw[<- hZ] at hs HS ⊢
    rw[<- hY] at hz HS Tx
    have jc:(k:Int)<6:=by omega
    clear hi hZ hY hr hx hb
    go_wp2_with (go_at_call 71;refine(Tx.o _).mono ?_;rintro e w1 ⟨rfl,hb1⟩;have bh:=ai (HB.o.trans (hb1.mono HB.o.size));have Zg:=ai (B.below HR.o hb1 (B.isLt HR.o));have Y5:=ai (B.below HX.o hb1 (B.isLt HX.o));clear hb1)
    go_roundw
    case rel=>exact⟨k+1,by omega,by go_num,by rw[HS.o],Zg.o,Y5.o,bh.o⟩
    case measure=>simp[intOf];omega
  · obtain rfl:k=6:=by omega
    rw[HDD.o]
    have Xk:=B.isLt hx
    clear hr hx hb HST se nC
    go_wp2_with fail
    have HBS:=ai (HB.o.alloc HB.o.size (.cells #[I 0,I 4,.string D,.bool true,.bool true] 129))
    have U5:=ai (B.alloc HX.o (.cells #[I 0,I 4,.string D,.bool true,.bool true] 129))
    have OQ:=ai (Vs.o wr.heap.size _ (B.new wr #[I 0,I 4,.string D,.bool true,.bool true] 129))
    go_at_call 72
    refine OQ.o.mono ?_
    rintro e w2 ⟨ar,cr,ah,ch,a1,a2,a3,a4,c1,c2,c3,c4,rfl,h1,h2,h3,h4⟩
    have HO:=ai h1
    have HH:=ai h2
    have Wf:=ai (B.below U5.o h4 (B.isLt U5.o))
    have bY:=ai (HBS.o.trans (h4.mono HBS.o.size))
    have hcl:=h4.size
    clear h1 h2 h4 OQ Vs HDD U5
    have Ps:=ai (B.alloc Wf.o (.cells #[.slice ar 1 cr,.slice ah 4 ch,I 16] 25))
    have y0:=B.cell Ps.o 0 rfl
    have y1:=B.cell Ps.o 1 rfl
    have y2:=B.cell Ps.o 2 rfl
    have yf:=B.free Ps.o
    have Uk:=B.isLt Ps.o
    have qp:Hid (GK.Kp (fun b=>b=w.heap.size) w2 (w2.alloc (.cells #[.slice ar 1 cr,.slice ah 4 ch,I 16] 25))):=GK.Kp.alloc _ w2 _
    have HKU:=ai (qp.o.trans (GK.sS (D:=fun b=>b=w.heap.size) _ w.heap.size 0 1 2 (.slice ar 1 cr) (.slice ah 4 ch) (I 16) rfl) (fun _ _ g=>g))
    go_wp2
    refine bodyPost_ret (v:=.agg #[.slice ar 1 cr,.slice ah 4 ch,I 16]) (by simp[results,Tryz.results31,go_sem,y0,y1,y2,Uk]) rfl (dx.o _ _ _ _ a1 a2 a3 a4 c1 c2 c3 c4 _ ?_ ?_ h3 ?_)
    · exact AW.Own.has (HKU.o.row HO.o (fun b hb e=>by have:=(HO.o.lt b hb).1;simp at this;omega))
    · exact Nh HH.o Wf.o (fun _ _ h=>nomatch h) (fun _ _ h=>nomatch h) (fun b j v hne hc=>HKU.o.cell hc hne) HKU.o.size
    · exact GK.Kp.below bY.o HKU.o bY.o.size (fun b hb=>by rw[hb];exact Nat.le_refl _)
end GB
end Go.Proofs.YtkdigjpejnebkaaGreat
