import Derived.Test.YtpgifpeohlllfaaGreatGP00
import Derived.Test.YtpgifpeohlllfaaGreatGP34
import Derived.Test.YtpgifpeohlllfaaGreatGP23
import Derived.Test.YtpgifpeohlllfaaGreatGP08
import Derived.Test.YtpgifpeohlllfaaGreatGP33
import Derived.Test.YtpgifpeohlllfaaGreatGP28
set_option maxHeartbeats 20000000
set_option linter.unusedVariables false
set_option maxRecDepth 100000
set_option linter.unusedSimpArgs false
namespace Go.Proofs.YtpgifpeohlllfaaGreat
namespace KZ
open Go.RowKit GK KO
open FW (ai aC)
open KW (fe cO aH eY)
open KY (l4 Ql)
theorem n1 (V:World) (A:Obj) (c:Array Value) (t:TypeId):((V.alloc A).alloc (.cells c t)).heap[V.heap.size+1]?=some (.cells c t (0,0)):=by
 have:=B.new (V.alloc A) c t
 rw[World.size_alloc] at this
 exact this
theorem OQ (yw:l4) (l:List AM.Ar) (hs:List LM.Sh) (en nf ns:Int) (va:Value) (ao:Option Addr) (cap:Nat) (w:World) (ha:AW.Has w va l) (hf:AW.eH l) (h:LM.jg w ao hs) (DW:LM.oq hs) (hcap:hs.length<=cap) (he:M.fR en) :
  Calls Tryz.prog 18 #[.agg #[va,.slice ao hs.length cap,I en],I nf,I ns] w (dw w (OT l hs en nf ns).1 [I (OT l hs en nf ns).2]):=by
 obtain⟨aa,ca,rU,_⟩:=id ha
 subst rU
 obtain⟨WA,dx⟩:=ex ((w.alloc (.cells #[.slice aa l.length ca,.slice ao hs.length cap,I en] 30)).alloc (.cells #[Nl,Nl,Nl,Nl,I 0] 27))
 have hb0:Below w.heap.size w WA:=by rw[dx];exact((Below.refl _ _).alloc (Nat.le_refl _) _).alloc (by simp) _
 have kb:WA.heap[w.heap.size]?=some (.cells #[.slice aa l.length ca,.slice ao hs.length cap,I en] 30 (0,0)):=by rw[dx];exact B.alloc (B.new w _ _) _
 have rb:WA.heap[w.heap.size+1]?=some (.cells #[Nl,Nl,Nl,Nl,I 0] 27 (0,0)):=by rw[dx];exact n1 _ _ _ _
 have RB:Hid (∀V,Below WA.heap.size WA V->V.heap[w.heap.size+1]?=some (.cells #[Nl,Nl,Nl,Nl,I 0] 27 (0,0))):=fun V hb=>B.below rb hb (B.isLt rb)
 have KB:Hid (∀V,Below WA.heap.size WA V->V.heap[w.heap.size]?=some (.cells #[.slice aa l.length ca,.slice ao hs.length cap,I en] 30 (0,0))):=fun V hb=>B.below kb hb (B.isLt kb)
 have k0:WA.cell? (Ad w.heap.size 0)=some (.slice aa l.length ca):=B.cell kb 0 rfl
 have k1:WA.cell? (Ad w.heap.size 1)=some (.slice ao hs.length cap):=B.cell kb 1 rfl
 have k2:WA.cell? (Ad w.heap.size 2)=some (I en):=B.cell kb 2 rfl
 have eV:=ai dx
 have bI:=ai hb0
 have hrl:=B.isLt rb
 have sI:=ai (LW.gv l hs en (.slice aa l.length ca) ao cap WA (ha.below hb0) hf (h.below hb0) DW hcap he)
 have TD:Hid (∀V,Below WA.heap.size WA V->Calls Tryz.prog 54 #[.slice aa l.length ca] V fun e w'=>e=.returned (I (AM.cD l))/\Below V.heap.size V w'):=fun V hV=>AW.sL l _ V (ha.below (hb0.trans (hV.mono hb0.size))) hf
 have Bh:Hid (∀(V:World) (C:Int),Below w.heap.size w V->dw w l8 [I C] (.returned (.tuple #[.agg #[Nl,Nl,Nl,Nl,I 0],I C])) V):=fun V C hV=>ng _ hV
 unfold OT
 by_cases c:LM.lR l hs en=0
 · rw[if_neg (fun x=>x c)]
   have Kg:LM.lR l hs en=0->3<=nf->nf<=64->0<=ns->ns<=512->Hid (∀(W:World) fb sb pb,Below WA.heap.size WA W->W.heap[fb]?=some (.cells (zf nf.toNat) 40 (0,0))->W.heap[sb]?=some (.cells (zl ns.toNat) 86 (0,0))->W.heap[pb]?=some (.cells #[.bool true,.slice aa l.length ca,Nl] 43 (0,0))->Calls Tryz.prog 55 #[.agg #[.slice ao hs.length cap,.slice (some (Ad fb 0)) nf.toNat nf.toNat,.slice (some (Ad sb 0)) ns.toNat ns.toNat,.slice (some (Ad pb 0)) 1 1,I 0]] W fun e w'=>∃aS nS cS aF nF cF aL nL cL aP nP cP,e=.returned (.agg #[.slice aS nS cS,.slice aF nF cF,.slice aL nL cL,.slice aP nP cP,I 0])/\Below WA.heap.size WA w'/\w'.heap[w.heap.size+1]?=some (.cells #[Nl,Nl,Nl,Nl,I 0] 27 (0,0))/\∀U,Kp (fun b=>b=w.heap.size+1) w' U->dw w (OS l hs nf ns) [I 0] (.returned (.tuple #[.agg #[.slice aS nS cS,.slice aF nF cF,.slice aL nL cL,.slice aP nP cP,I 0],I 0])) U):=fun hc h3 h64 h0 afk W fb sb pb hW g1 g2 g3=>by
    have eW:Below w.heap.size w W:=hb0.trans (hW.mono hb0.size)
    have hk:=Pw (cap:=cap) (ha.below eW) (h.below eW) g1 g2 g3
    have hcl:=yw _ _ W hk (Iz hc nf.toNat ns.toNat (by omega) (by omega))
    unfold aH at hcl
    simp only[List.length_replicate,List.length_singleton] at hcl
    refine hcl.mono fun e w' ⟨S,hs',hsame,e1,hr,hb⟩=>?_
    obtain⟨aS,nS,cS,eS⟩:∃b n d,S.vS=.slice b n d:=by obtain⟨b,d,e,_⟩:=aR hr.ak;exact⟨b,_,d,e⟩
    obtain⟨aF,nF,cF,eF⟩:∃b n d,S.vF=.slice b n d:=by obtain⟨b,d,e,_⟩:=aR hr.frames;exact⟨b,_,d,e⟩
    obtain⟨aL,nL,cL,eL⟩:∃b n d,S.vL=.slice b n d:=by obtain⟨b,d,e,_⟩:=aR hr.slots;exact⟨b,_,d,e⟩
    obtain⟨aP,nP,cP,eP⟩:∃b n d,S.vP=.slice b n d:=by obtain⟨b,d,e,_⟩:=aR hr.aj;exact⟨b,_,d,e⟩
    rw[eS,eF,eL,eP] at e1
    have hbl:Below WA.heap.size WA w':=hW.trans (hb.mono hW.size)
    have VM:Below w.heap.size w w':=hb0.trans (hbl.mono hb0.size)
    have hWz:=hW.size
    refine⟨aS,nS,cS,aF,nF,cF,aL,nL,cL,aP,nP,cP,e1,hbl,RB.o _ hbl,fun U hU=>⟨S,hs',hsame,by rw[eS,eF,eL,eP];rfl,(hr.kp hU (fun b hb e=>by have:=(hr.mW b hb).1;omega)).mono eW.size,Kp.below VM hU VM.size (fun b e=>by omega)⟩⟩
   have QI:=Kg c
   rw[c] at sI
   clear Kg ha hf h DW he hcap hb0 kb rb dx
   by_cases c3:nf<3
   · rw[if_pos c3]
     have bh:=ai (fun V (h:Below w.heap.size w V)=>Bh.o V 9 h)
     obtain⟨P,hP⟩:=ex (dw w l8 [I 9])
     show Calls _ _ _ _ (dw w l8 [I 9])
     rw[<- hP] at bh ⊢
     clear hP Bh QI c TD
     go_enter Tryz.func18,Tryz.ntmps18
     go_upto_region 1 with fail
     rw[<- eV.o]
     go_upto_region 5 with(go_at_call 53;refine sI.o.mono ?_;rintro e w1 ⟨rfl,hb1⟩;have aZ:=ai hb1;have gN:=ai (bI.o.trans (hb1.mono bI.o.size));have R1:=ai (RB.o _ hb1);obtain⟨j0,j1,j2⟩:=B.c3 (KB.o _ hb1);clear hb1)
     obtain⟨y0,y1,y2,y3,y4⟩:=B.c5 R1.o
     have f0:=B.free R1.o 0
     have f1:=B.free R1.o 1
     have f2:=B.free R1.o 2
     have f3:=B.free R1.o 3
     have f4:=B.free R1.o 4
     have h5:=ai (fun V=>rA R1.o Nl Nl Nl Nl (I 0) (V:=V))
     go_wp2
     obtain⟨r1,r2⟩:=h5.out _ rfl
     obtain⟨y0,y1,y2,y3,y4⟩:=B.c5 r1
     refine bodyPost_ret (v:=.tuple #[.agg #[Nl,Nl,Nl,Nl,I 0],I 9]) (by simp[results,Tryz.results18,go_sem,y0,y1,y2,y3,y4]) rfl ?_
     exact bh.o _ (Kp.below gN.o r2 gN.o.size (fun b e=>by omega))
   rw[if_neg c3]
   by_cases cr:nf>64∨ns<0∨ns>512
   · rw[if_pos cr]
     rcases(show 64<nf∨(¬64<nf/\ns<0)∨(¬64<nf/\¬ns<0/\512<ns) by omega) with g1 | ⟨g1,g2⟩ | ⟨g1,g2,g3⟩
     all_goals
      clear cr
      have bh:=ai (fun V (h:Below w.heap.size w V)=>Bh.o V 3 h)
      obtain⟨P,hP⟩:=ex (dw w l8 [I 3])
      show Calls _ _ _ _ (dw w l8 [I 3])
      rw[<- hP] at bh ⊢
      clear hP Bh QI c TD
      go_enter Tryz.func18,Tryz.ntmps18
      go_upto_region 1 with fail
      rw[<- eV.o]
      go_upto_region 7 with(go_at_call 53;refine sI.o.mono ?_;rintro e w1 ⟨rfl,hb1⟩;have aZ:=ai hb1;have gN:=ai (bI.o.trans (hb1.mono bI.o.size));have R1:=ai (RB.o _ hb1);obtain⟨j0,j1,j2⟩:=B.c3 (KB.o _ hb1);clear hb1)
      obtain⟨y0,y1,y2,y3,y4⟩:=B.c5 R1.o
      have f0:=B.free R1.o 0
      have f1:=B.free R1.o 1
      have f2:=B.free R1.o 2
      have f3:=B.free R1.o 3
      have f4:=B.free R1.o 4
      have h5:=ai (fun V=>rA R1.o Nl Nl Nl Nl (I 0) (V:=V))
      go_wp2
      obtain⟨r1,r2⟩:=h5.out _ rfl
      obtain⟨y0,y1,y2,y3,y4⟩:=B.c5 r1
      refine bodyPost_ret (v:=.tuple #[.agg #[Nl,Nl,Nl,Nl,I 0],I 3]) (by simp[results,Tryz.results18,go_sem,y0,y1,y2,y3,y4]) rfl ?_
      exact bh.o _ (Kp.below gN.o r2 gN.o.size (fun b e=>by omega))
   rw[if_neg cr]
   have g1:¬64<nf:=by omega
   have g2:¬ns<0:=by omega
   have g3:¬512<ns:=by omega
   have FY:=QI (by omega) (by omega) (by omega) (by omega)
   have e2:=fun V:World=>mkF V nf (by omega) (by omega)
   have e3:=fun V:World=>mkL V ns (by omega) (by omega)
   clear cr QI c
   have Va:=KW.kg l
   obtain⟨T1,Rb⟩:=ex (AM.cD l)
   rw[<- Rb] at TD Va ⊢
   clear Rb
   by_cases ct:T1>ns
   · rw[if_pos ct]
     have c2:ns<T1:=ct
     have bh:=ai (fun V (h:Below w.heap.size w V)=>Bh.o V 8 h)
     obtain⟨P,hP⟩:=ex (dw w l8 [I 8])
     show Calls _ _ _ _ (dw w l8 [I 8])
     rw[<- hP] at bh ⊢
     clear hP Bh FY e2 e3 ct
     go_enter Tryz.func18,Tryz.ntmps18
     go_upto_region 1 with fail
     rw[<- eV.o]
     go_upto_region 9 with(first
      | (go_at_call 53;refine sI.o.mono ?_;rintro e w1 ⟨rfl,hb1⟩;have aZ:=ai hb1;have gN:=ai (bI.o.trans (hb1.mono bI.o.size));have R1:=ai (RB.o _ hb1);obtain⟨j0,j1,j2⟩:=B.c3 (KB.o _ hb1);clear hb1)
      | (go_at_call 54;refine(TD.o _ aZ.o).mono ?_;rintro e w2 ⟨rfl,hb2⟩;have hb3:=aZ.o.trans (hb2.mono aZ.o.size);have gN:=ai (bI.o.trans (hb3.mono bI.o.size));have R1:=ai (RB.o _ hb3);clear hb2 hb3))
     obtain⟨y0,y1,y2,y3,y4⟩:=B.c5 R1.o
     have f0:=B.free R1.o 0
     have f1:=B.free R1.o 1
     have f2:=B.free R1.o 2
     have f3:=B.free R1.o 3
     have f4:=B.free R1.o 4
     have h5:=ai (fun V=>rA R1.o Nl Nl Nl Nl (I 0) (V:=V))
     go_wp2
     obtain⟨r1,r2⟩:=h5.out _ rfl
     obtain⟨y0,y1,y2,y3,y4⟩:=B.c5 r1
     refine bodyPost_ret (v:=.tuple #[.agg #[Nl,Nl,Nl,Nl,I 0],I 8]) (by simp[results,Tryz.results18,go_sem,y0,y1,y2,y3,y4]) rfl ?_
     exact bh.o _ (Kp.below gN.o r2 gN.o.size (fun b e=>by omega))
   rw[if_neg ct]
   have c2:¬ns<T1:=ct
   obtain⟨P,hP⟩:=ex (dw w (OS l hs nf ns) [I 0])
   show Calls _ _ _ _ (dw w (OS l hs nf ns) [I 0])
   rw[<- hP] at FY ⊢
   obtain⟨NF,Z7⟩:=ex nf.toNat
   obtain⟨NS,Z6⟩:=ex ns.toNat
   rw[<- Z7] at FY
   rw[<- Z6] at FY
   simp only[<- Z7] at e2
   simp only[<- Z6] at e3
   clear hP Z7 Z6 Bh ct
   go_enter Tryz.func18,Tryz.ntmps18
   go_upto_region 1 with fail
   rw[<- eV.o]
   go_upto_region 10 with(first
    | (go_at_call 53;refine sI.o.mono ?_;rintro e w1 ⟨rfl,hb1⟩;have aZ:=ai hb1;obtain⟨j0,j1,j2⟩:=B.c3 (KB.o _ hb1);clear hb1)
    | (go_at_call 54;refine(TD.o _ aZ.o).mono ?_;rintro e w2 ⟨rfl,hb2⟩;have bY:=ai (aZ.o.trans (hb2.mono aZ.o.size));clear hb2))
   clear j0 j1 j2 sI TD
   have fh:Hid (∀V,Below WA.heap.size WA V->V.cell? (Ad w.heap.size 0)=some (.slice aa l.length ca)/\V.cell? (Ad w.heap.size 1)=some (.slice ao hs.length cap)):=fun V hV=>⟨B.cell (KB.o _ hV) 0 rfl,B.cell (KB.o _ hV) 1 rfl⟩
   refine GZ.tK (S:=fun V=>V.cell? (Ad w.heap.size 0)=some (.slice aa l.length ca)/\V.cell? (Ad w.heap.size 1)=some (.slice ao hs.length cap)) (z:=13) (by kernel_rfl) ?_
   have gL:=ai (bY.o.drew)
   obtain⟨V0,hV0⟩:=ex w2.drew
   rw[<- hV0] at gL ⊢
   clear hV0
   refine GZ.tk 0 (fh.o _ gL.o) ?_ ?_ ?_
   rotate_left 1
   · intro V h
     obtain⟨k0,k1⟩:=h
     go_simp
     try with_reducible rfl
   refine GZ.tk 1 (fh.o _ gL.o) ?_ ?_ ?_
   rotate_left 1
   · intro V h
     obtain⟨k0,k1⟩:=h
     go_simp
     try with_reducible rfl
   refine GZ.tk 2 (fh.o _ gL.o) ?_ ?_ ?_
   rotate_left 1
   · intro V h
     obtain⟨k0,k1⟩:=h
     go_simp
     try with_reducible rfl
   refine GZ.tk 4 (fh.o _ gL.o) ?_ ?_ ?_
   rotate_left 1
   · intro V h
     obtain⟨k0,k1⟩:=h
     go_simp
     try with_reducible rfl
   refine GZ.tk 6 (fh.o _ gL.o) ?_ ?_ ?_
   rotate_left 1
   · intro V h
     obtain⟨k0,k1⟩:=h
     go_simp
     try with_reducible rfl
   refine GZ.tk 7 (fh.o _ gL.o) ?_ ?_ ?_
   rotate_left 1
   · intro V h
     obtain⟨k0,k1⟩:=h
     go_simp
     try with_reducible rfl
   refine GZ.tk 8 (fh.o _ gL.o) ?_ ?_ ?_
   rotate_left 1
   · intro V h
     obtain⟨k0,k1⟩:=h
     go_simp
     try with_reducible rfl
   refine GZ.all (rs:=[3,5,9]) (by kernel_rfl) (by simp) ?_
   refine GZ.bu.cons rfl (fun K hK=>?_) (GZ.bu.cons rfl (fun K hK=>?_) (GZ.bu.cons rfl (fun K hK=>?_) GZ.bu.nil))
   · go_simp
     refine hK.out _ _ (fun _=>?_) ?_
     · exact fh.o _ (gL.o.alloc gL.o.size _)
     clear hK K
     have jC:=ai (gL.o.alloc gL.o.size (.cells (zf NF) 40))
     have BF:=ai (B.new V0 (zf NF) 40)
     obtain⟨V1,hV1⟩:=ex (V0.alloc (.cells (zf NF) 40))
     obtain⟨bF,GY⟩:=ex V0.heap.size
     rw[<- hV1] at jC BF ⊢
     rw[<- GY] at BF ⊢
     clear hV1 GY
     try simp only[Act.put,List.setIfInBounds_toArray,List.set_cons_zero,List.set_cons_succ]
     refine GZ.all (rs:=[5,9]) (by kernel_rfl) (by simp) ?_
     refine GZ.bu.cons rfl (fun K hK=>?_) (GZ.bu.cons rfl (fun K hK=>?_) GZ.bu.nil)
     · go_simp
       refine hK.out _ _ (fun _=>?_) ?_
       · exact fh.o _ (jC.o.alloc jC.o.size _)
       clear hK K
       have iy:=ai (jC.o.alloc jC.o.size (.cells (zl NS) 86))
       have BF:=ai (B.alloc BF.o (.cells (zl NS) 86))
       have BL:=ai (B.new V1 (zl NS) 86)
       obtain⟨V2,hV2⟩:=ex (V1.alloc (.cells (zl NS) 86))
       obtain⟨bL,hbL⟩:=ex V1.heap.size
       rw[<- hV2] at iy BF BL ⊢
       rw[<- hbL] at BL ⊢
       clear hV2 hbL
       try simp only[Act.put,List.setIfInBounds_toArray,List.set_cons_zero,List.set_cons_succ]
       refine GZ.all (rs:=[9]) (by kernel_rfl) (by simp) ?_
       refine GZ.bu.cons rfl (fun K hK=>?_) GZ.bu.nil
       go_simp
       refine hK.out _ _ (fun _=>?_) ?_
       · exact fh.o _ (iy.o.alloc iy.o.size _)
       clear hK K
       have jF:=ai (iy.o.alloc iy.o.size (.cells #[.bool true,.slice aa l.length ca,Nl] 43))
       have BF:=ai (B.alloc BF.o (.cells #[.bool true,.slice aa l.length ca,Nl] 43))
       have BL:=ai (B.alloc BL.o (.cells #[.bool true,.slice aa l.length ca,Nl] 43))
       have BP:=ai (B.new V2 #[.bool true,.slice aa l.length ca,Nl] 43)
       obtain⟨V3,C7⟩:=ex (V2.alloc (.cells #[.bool true,.slice aa l.length ca,Nl] 43))
       obtain⟨bP,GX⟩:=ex V2.heap.size
       rw[<- C7] at jF BF BL BP ⊢
       rw[<- GX] at BP ⊢
       clear C7 GX
       try simp only[Act.put,List.setIfInBounds_toArray,List.set_cons_zero,List.set_cons_succ]
       refine GZ.tk 10 (fh.o _ jF.o) ?_ ?_ ?_
       rotate_left 1
       · intro V h
         obtain⟨k0,k1⟩:=h
         go_simp
         try with_reducible rfl
       refine GZ.all (rs:=[11]) (by kernel_rfl) (by simp) ?_
       refine GZ.bu.cons rfl (fun K hK=>?_) GZ.bu.nil
       rw[if_pos (by rfl)];go_simp;go_at_call 55;refine(FY.o _ _ _ _ jF.o BF.o BL.o BP.o).mono ?_;rintro e w6 ⟨aS,nS,cS,aF,nF,cF,aL,nL,cL,aP,nP,cP,rfl,uo,CV,hfin⟩;have Bg:=ai uo;have R6:=ai CV;have ky:=ai hfin;clear uo CV hfin;try go_simp
       refine hK.out _ _ (fun _=>?_) ?_
       · exact fh.o _ Bg.o
       clear hK K
       try simp only[Act.put,List.setIfInBounds_toArray,List.set_cons_zero,List.set_cons_succ]
       obtain⟨y0,y1,y2,y3,y4⟩:=B.c5 R6.o
       have f0:=B.free R6.o 0
       have f1:=B.free R6.o 1
       have f2:=B.free R6.o 2
       have f3:=B.free R6.o 3
       have f4:=B.free R6.o 4
       have h5:=ai (fun V=>rA R6.o (.slice aS nS cS) (.slice aF nF cF) (.slice aL nL cL) (.slice aP nP cP) (I 0) (V:=V))
       refine GZ.all (rs:=[12]) (by kernel_rfl) (by simp) ?_
       refine GZ.bu.cons rfl (fun K hK=>?_) GZ.bu.nil
       go_simp
       obtain⟨r1,r2⟩:=h5.out _ rfl
       refine hK.out _ _ (fun _=>?_) ?_
       · have:=r2.keep (KB.o _ Bg.o) (show ¬w.heap.size=w.heap.size+1 by omega)
         exact⟨B.cell this 0 rfl,B.cell this 1 rfl⟩
       clear hK K
       try simp only[Act.put,List.setIfInBounds_toArray,List.set_cons_zero,List.set_cons_succ]
       refine GZ.all (rs:=[13]) (by kernel_rfl) (by simp) ?_
       refine GZ.bu.cons rfl (fun K hK=>?_) GZ.bu.nil
       go_simp
       refine hK.out _ _ (fun g=>absurd rfl g) ?_
       refine GZ.done (by kernel_rfl) ?_ _
       go_wp2
       obtain⟨y0,y1,y2,y3,y4⟩:=B.c5 r1
       refine bodyPost_ret (v:=.tuple #[.agg #[.slice aS nS cS,.slice aF nF cF,.slice aL nL cL,.slice aP nP cP,I 0],I 0]) (by simp[results,Tryz.results18,go_sem,y0,y1,y2,y3,y4]) rfl ?_
       exact ky.o _ r2
     · go_simp
       refine hK.out _ _ (fun _=>?_) ?_
       · exact fh.o _ (jC.o.alloc jC.o.size _)
       clear hK K
       have iy:=ai (jC.o.alloc jC.o.size (.cells #[.bool true,.slice aa l.length ca,Nl] 43))
       have BF:=ai (B.alloc BF.o (.cells #[.bool true,.slice aa l.length ca,Nl] 43))
       have BP:=ai (B.new V1 #[.bool true,.slice aa l.length ca,Nl] 43)
       obtain⟨V2,hV2⟩:=ex (V1.alloc (.cells #[.bool true,.slice aa l.length ca,Nl] 43))
       obtain⟨bP,GX⟩:=ex V1.heap.size
       rw[<- hV2] at iy BF BP ⊢
       rw[<- GX] at BP ⊢
       clear hV2 GX
       try simp only[Act.put,List.setIfInBounds_toArray,List.set_cons_zero,List.set_cons_succ]
       refine GZ.all (rs:=[5]) (by kernel_rfl) (by simp) ?_
       refine GZ.bu.cons rfl (fun K hK=>?_) GZ.bu.nil
       go_simp
       refine hK.out _ _ (fun _=>?_) ?_
       · exact fh.o _ (iy.o.alloc iy.o.size _)
       clear hK K
       have jF:=ai (iy.o.alloc iy.o.size (.cells (zl NS) 86))
       have BF:=ai (B.alloc BF.o (.cells (zl NS) 86))
       have BP:=ai (B.alloc BP.o (.cells (zl NS) 86))
       have BL:=ai (B.new V2 (zl NS) 86)
       obtain⟨V3,C7⟩:=ex (V2.alloc (.cells (zl NS) 86))
       obtain⟨bL,hbL⟩:=ex V2.heap.size
       rw[<- C7] at jF BF BP BL ⊢
       rw[<- hbL] at BL ⊢
       clear C7 hbL
       try simp only[Act.put,List.setIfInBounds_toArray,List.set_cons_zero,List.set_cons_succ]
       refine GZ.tk 10 (fh.o _ jF.o) ?_ ?_ ?_
       rotate_left 1
       · intro V h
         obtain⟨k0,k1⟩:=h
         go_simp
         try with_reducible rfl
       refine GZ.all (rs:=[11]) (by kernel_rfl) (by simp) ?_
       refine GZ.bu.cons rfl (fun K hK=>?_) GZ.bu.nil
       rw[if_pos (by rfl)];go_simp;go_at_call 55;refine(FY.o _ _ _ _ jF.o BF.o BL.o BP.o).mono ?_;rintro e w6 ⟨aS,nS,cS,aF,nF,cF,aL,nL,cL,aP,nP,cP,rfl,uo,CV,hfin⟩;have Bg:=ai uo;have R6:=ai CV;have ky:=ai hfin;clear uo CV hfin;try go_simp
       refine hK.out _ _ (fun _=>?_) ?_
       · exact fh.o _ Bg.o
       clear hK K
       try simp only[Act.put,List.setIfInBounds_toArray,List.set_cons_zero,List.set_cons_succ]
       obtain⟨y0,y1,y2,y3,y4⟩:=B.c5 R6.o
       have f0:=B.free R6.o 0
       have f1:=B.free R6.o 1
       have f2:=B.free R6.o 2
       have f3:=B.free R6.o 3
       have f4:=B.free R6.o 4
       have h5:=ai (fun V=>rA R6.o (.slice aS nS cS) (.slice aF nF cF) (.slice aL nL cL) (.slice aP nP cP) (I 0) (V:=V))
       refine GZ.all (rs:=[12]) (by kernel_rfl) (by simp) ?_
       refine GZ.bu.cons rfl (fun K hK=>?_) GZ.bu.nil
       go_simp
       obtain⟨r1,r2⟩:=h5.out _ rfl
       refine hK.out _ _ (fun _=>?_) ?_
       · have:=r2.keep (KB.o _ Bg.o) (show ¬w.heap.size=w.heap.size+1 by omega)
         exact⟨B.cell this 0 rfl,B.cell this 1 rfl⟩
       clear hK K
       try simp only[Act.put,List.setIfInBounds_toArray,List.set_cons_zero,List.set_cons_succ]
       refine GZ.all (rs:=[13]) (by kernel_rfl) (by simp) ?_
       refine GZ.bu.cons rfl (fun K hK=>?_) GZ.bu.nil
       go_simp
       refine hK.out _ _ (fun g=>absurd rfl g) ?_
       refine GZ.done (by kernel_rfl) ?_ _
       go_wp2
       obtain⟨y0,y1,y2,y3,y4⟩:=B.c5 r1
       refine bodyPost_ret (v:=.tuple #[.agg #[.slice aS nS cS,.slice aF nF cF,.slice aL nL cL,.slice aP nP cP,I 0],I 0]) (by simp[results,Tryz.results18,go_sem,y0,y1,y2,y3,y4]) rfl ?_
       exact ky.o _ r2
   · go_simp
     refine hK.out _ _ (fun _=>?_) ?_
     · exact fh.o _ (gL.o.alloc gL.o.size _)
     clear hK K
     have jC:=ai (gL.o.alloc gL.o.size (.cells (zl NS) 86))
     have BL:=ai (B.new V0 (zl NS) 86)
     obtain⟨V1,hV1⟩:=ex (V0.alloc (.cells (zl NS) 86))
     obtain⟨bL,hbL⟩:=ex V0.heap.size
     rw[<- hV1] at jC BL ⊢
     rw[<- hbL] at BL ⊢
     clear hV1 hbL
     try simp only[Act.put,List.setIfInBounds_toArray,List.set_cons_zero,List.set_cons_succ]
     refine GZ.all (rs:=[3,9]) (by kernel_rfl) (by simp) ?_
     refine GZ.bu.cons rfl (fun K hK=>?_) (GZ.bu.cons rfl (fun K hK=>?_) GZ.bu.nil)
     · go_simp
       refine hK.out _ _ (fun _=>?_) ?_
       · exact fh.o _ (jC.o.alloc jC.o.size _)
       clear hK K
       have iy:=ai (jC.o.alloc jC.o.size (.cells (zf NF) 40))
       have BL:=ai (B.alloc BL.o (.cells (zf NF) 40))
       have BF:=ai (B.new V1 (zf NF) 40)
       obtain⟨V2,hV2⟩:=ex (V1.alloc (.cells (zf NF) 40))
       obtain⟨bF,GY⟩:=ex V1.heap.size
       rw[<- hV2] at iy BL BF ⊢
       rw[<- GY] at BF ⊢
       clear hV2 GY
       try simp only[Act.put,List.setIfInBounds_toArray,List.set_cons_zero,List.set_cons_succ]
       refine GZ.all (rs:=[9]) (by kernel_rfl) (by simp) ?_
       refine GZ.bu.cons rfl (fun K hK=>?_) GZ.bu.nil
       go_simp
       refine hK.out _ _ (fun _=>?_) ?_
       · exact fh.o _ (iy.o.alloc iy.o.size _)
       clear hK K
       have jF:=ai (iy.o.alloc iy.o.size (.cells #[.bool true,.slice aa l.length ca,Nl] 43))
       have BL:=ai (B.alloc BL.o (.cells #[.bool true,.slice aa l.length ca,Nl] 43))
       have BF:=ai (B.alloc BF.o (.cells #[.bool true,.slice aa l.length ca,Nl] 43))
       have BP:=ai (B.new V2 #[.bool true,.slice aa l.length ca,Nl] 43)
       obtain⟨V3,C7⟩:=ex (V2.alloc (.cells #[.bool true,.slice aa l.length ca,Nl] 43))
       obtain⟨bP,GX⟩:=ex V2.heap.size
       rw[<- C7] at jF BL BF BP ⊢
       rw[<- GX] at BP ⊢
       clear C7 GX
       try simp only[Act.put,List.setIfInBounds_toArray,List.set_cons_zero,List.set_cons_succ]
       refine GZ.tk 10 (fh.o _ jF.o) ?_ ?_ ?_
       rotate_left 1
       · intro V h
         obtain⟨k0,k1⟩:=h
         go_simp
         try with_reducible rfl
       refine GZ.all (rs:=[11]) (by kernel_rfl) (by simp) ?_
       refine GZ.bu.cons rfl (fun K hK=>?_) GZ.bu.nil
       rw[if_pos (by rfl)];go_simp;go_at_call 55;refine(FY.o _ _ _ _ jF.o BF.o BL.o BP.o).mono ?_;rintro e w6 ⟨aS,nS,cS,aF,nF,cF,aL,nL,cL,aP,nP,cP,rfl,uo,CV,hfin⟩;have Bg:=ai uo;have R6:=ai CV;have ky:=ai hfin;clear uo CV hfin;try go_simp
       refine hK.out _ _ (fun _=>?_) ?_
       · exact fh.o _ Bg.o
       clear hK K
       try simp only[Act.put,List.setIfInBounds_toArray,List.set_cons_zero,List.set_cons_succ]
       obtain⟨y0,y1,y2,y3,y4⟩:=B.c5 R6.o
       have f0:=B.free R6.o 0
       have f1:=B.free R6.o 1
       have f2:=B.free R6.o 2
       have f3:=B.free R6.o 3
       have f4:=B.free R6.o 4
       have h5:=ai (fun V=>rA R6.o (.slice aS nS cS) (.slice aF nF cF) (.slice aL nL cL) (.slice aP nP cP) (I 0) (V:=V))
       refine GZ.all (rs:=[12]) (by kernel_rfl) (by simp) ?_
       refine GZ.bu.cons rfl (fun K hK=>?_) GZ.bu.nil
       go_simp
       obtain⟨r1,r2⟩:=h5.out _ rfl
       refine hK.out _ _ (fun _=>?_) ?_
       · have:=r2.keep (KB.o _ Bg.o) (show ¬w.heap.size=w.heap.size+1 by omega)
         exact⟨B.cell this 0 rfl,B.cell this 1 rfl⟩
       clear hK K
       try simp only[Act.put,List.setIfInBounds_toArray,List.set_cons_zero,List.set_cons_succ]
       refine GZ.all (rs:=[13]) (by kernel_rfl) (by simp) ?_
       refine GZ.bu.cons rfl (fun K hK=>?_) GZ.bu.nil
       go_simp
       refine hK.out _ _ (fun g=>absurd rfl g) ?_
       refine GZ.done (by kernel_rfl) ?_ _
       go_wp2
       obtain⟨y0,y1,y2,y3,y4⟩:=B.c5 r1
       refine bodyPost_ret (v:=.tuple #[.agg #[.slice aS nS cS,.slice aF nF cF,.slice aL nL cL,.slice aP nP cP,I 0],I 0]) (by simp[results,Tryz.results18,go_sem,y0,y1,y2,y3,y4]) rfl ?_
       exact ky.o _ r2
     · go_simp
       refine hK.out _ _ (fun _=>?_) ?_
       · exact fh.o _ (jC.o.alloc jC.o.size _)
       clear hK K
       have iy:=ai (jC.o.alloc jC.o.size (.cells #[.bool true,.slice aa l.length ca,Nl] 43))
       have BL:=ai (B.alloc BL.o (.cells #[.bool true,.slice aa l.length ca,Nl] 43))
       have BP:=ai (B.new V1 #[.bool true,.slice aa l.length ca,Nl] 43)
       obtain⟨V2,hV2⟩:=ex (V1.alloc (.cells #[.bool true,.slice aa l.length ca,Nl] 43))
       obtain⟨bP,GX⟩:=ex V1.heap.size
       rw[<- hV2] at iy BL BP ⊢
       rw[<- GX] at BP ⊢
       clear hV2 GX
       try simp only[Act.put,List.setIfInBounds_toArray,List.set_cons_zero,List.set_cons_succ]
       refine GZ.all (rs:=[3]) (by kernel_rfl) (by simp) ?_
       refine GZ.bu.cons rfl (fun K hK=>?_) GZ.bu.nil
       go_simp
       refine hK.out _ _ (fun _=>?_) ?_
       · exact fh.o _ (iy.o.alloc iy.o.size _)
       clear hK K
       have jF:=ai (iy.o.alloc iy.o.size (.cells (zf NF) 40))
       have BL:=ai (B.alloc BL.o (.cells (zf NF) 40))
       have BP:=ai (B.alloc BP.o (.cells (zf NF) 40))
       have BF:=ai (B.new V2 (zf NF) 40)
       obtain⟨V3,C7⟩:=ex (V2.alloc (.cells (zf NF) 40))
       obtain⟨bF,GY⟩:=ex V2.heap.size
       rw[<- C7] at jF BL BP BF ⊢
       rw[<- GY] at BF ⊢
       clear C7 GY
       try simp only[Act.put,List.setIfInBounds_toArray,List.set_cons_zero,List.set_cons_succ]
       refine GZ.tk 10 (fh.o _ jF.o) ?_ ?_ ?_
       rotate_left 1
       · intro V h
         obtain⟨k0,k1⟩:=h
         go_simp
         try with_reducible rfl
       refine GZ.all (rs:=[11]) (by kernel_rfl) (by simp) ?_
       refine GZ.bu.cons rfl (fun K hK=>?_) GZ.bu.nil
       rw[if_pos (by rfl)];go_simp;go_at_call 55;refine(FY.o _ _ _ _ jF.o BF.o BL.o BP.o).mono ?_;rintro e w6 ⟨aS,nS,cS,aF,nF,cF,aL,nL,cL,aP,nP,cP,rfl,uo,CV,hfin⟩;have Bg:=ai uo;have R6:=ai CV;have ky:=ai hfin;clear uo CV hfin;try go_simp
       refine hK.out _ _ (fun _=>?_) ?_
       · exact fh.o _ Bg.o
       clear hK K
       try simp only[Act.put,List.setIfInBounds_toArray,List.set_cons_zero,List.set_cons_succ]
       obtain⟨y0,y1,y2,y3,y4⟩:=B.c5 R6.o
       have f0:=B.free R6.o 0
       have f1:=B.free R6.o 1
       have f2:=B.free R6.o 2
       have f3:=B.free R6.o 3
       have f4:=B.free R6.o 4
       have h5:=ai (fun V=>rA R6.o (.slice aS nS cS) (.slice aF nF cF) (.slice aL nL cL) (.slice aP nP cP) (I 0) (V:=V))
       refine GZ.all (rs:=[12]) (by kernel_rfl) (by simp) ?_
       refine GZ.bu.cons rfl (fun K hK=>?_) GZ.bu.nil
       go_simp
       obtain⟨r1,r2⟩:=h5.out _ rfl
       refine hK.out _ _ (fun _=>?_) ?_
       · have:=r2.keep (KB.o _ Bg.o) (show ¬w.heap.size=w.heap.size+1 by omega)
         exact⟨B.cell this 0 rfl,B.cell this 1 rfl⟩
       clear hK K
       try simp only[Act.put,List.setIfInBounds_toArray,List.set_cons_zero,List.set_cons_succ]
       refine GZ.all (rs:=[13]) (by kernel_rfl) (by simp) ?_
       refine GZ.bu.cons rfl (fun K hK=>?_) GZ.bu.nil
       go_simp
       refine hK.out _ _ (fun g=>absurd rfl g) ?_
       refine GZ.done (by kernel_rfl) ?_ _
       go_wp2
       obtain⟨y0,y1,y2,y3,y4⟩:=B.c5 r1
       refine bodyPost_ret (v:=.tuple #[.agg #[.slice aS nS cS,.slice aF nF cF,.slice aL nL cL,.slice aP nP cP,I 0],I 0]) (by simp[results,Tryz.results18,go_sem,y0,y1,y2,y3,y4]) rfl ?_
       exact ky.o _ r2
   · go_simp
     refine hK.out _ _ (fun _=>?_) ?_
     · exact fh.o _ (gL.o.alloc gL.o.size _)
     clear hK K
     have jC:=ai (gL.o.alloc gL.o.size (.cells #[.bool true,.slice aa l.length ca,Nl] 43))
     have BP:=ai (B.new V0 #[.bool true,.slice aa l.length ca,Nl] 43)
     obtain⟨V1,hV1⟩:=ex (V0.alloc (.cells #[.bool true,.slice aa l.length ca,Nl] 43))
     obtain⟨bP,GX⟩:=ex V0.heap.size
     rw[<- hV1] at jC BP ⊢
     rw[<- GX] at BP ⊢
     clear hV1 GX
     try simp only[Act.put,List.setIfInBounds_toArray,List.set_cons_zero,List.set_cons_succ]
     refine GZ.all (rs:=[3,5]) (by kernel_rfl) (by simp) ?_
     refine GZ.bu.cons rfl (fun K hK=>?_) (GZ.bu.cons rfl (fun K hK=>?_) GZ.bu.nil)
     · go_simp
       refine hK.out _ _ (fun _=>?_) ?_
       · exact fh.o _ (jC.o.alloc jC.o.size _)
       clear hK K
       have iy:=ai (jC.o.alloc jC.o.size (.cells (zf NF) 40))
       have BP:=ai (B.alloc BP.o (.cells (zf NF) 40))
       have BF:=ai (B.new V1 (zf NF) 40)
       obtain⟨V2,hV2⟩:=ex (V1.alloc (.cells (zf NF) 40))
       obtain⟨bF,GY⟩:=ex V1.heap.size
       rw[<- hV2] at iy BP BF ⊢
       rw[<- GY] at BF ⊢
       clear hV2 GY
       try simp only[Act.put,List.setIfInBounds_toArray,List.set_cons_zero,List.set_cons_succ]
       refine GZ.all (rs:=[5]) (by kernel_rfl) (by simp) ?_
       refine GZ.bu.cons rfl (fun K hK=>?_) GZ.bu.nil
       go_simp
       refine hK.out _ _ (fun _=>?_) ?_
       · exact fh.o _ (iy.o.alloc iy.o.size _)
       clear hK K
       have jF:=ai (iy.o.alloc iy.o.size (.cells (zl NS) 86))
       have BP:=ai (B.alloc BP.o (.cells (zl NS) 86))
       have BF:=ai (B.alloc BF.o (.cells (zl NS) 86))
       have BL:=ai (B.new V2 (zl NS) 86)
       obtain⟨V3,C7⟩:=ex (V2.alloc (.cells (zl NS) 86))
       obtain⟨bL,hbL⟩:=ex V2.heap.size
       rw[<- C7] at jF BP BF BL ⊢
       rw[<- hbL] at BL ⊢
       clear C7 hbL
       try simp only[Act.put,List.setIfInBounds_toArray,List.set_cons_zero,List.set_cons_succ]
       refine GZ.tk 10 (fh.o _ jF.o) ?_ ?_ ?_
       rotate_left 1
       · intro V h
         obtain⟨k0,k1⟩:=h
         go_simp
         try with_reducible rfl
       refine GZ.all (rs:=[11]) (by kernel_rfl) (by simp) ?_
       refine GZ.bu.cons rfl (fun K hK=>?_) GZ.bu.nil
       rw[if_pos (by rfl)];go_simp;go_at_call 55;refine(FY.o _ _ _ _ jF.o BF.o BL.o BP.o).mono ?_;rintro e w6 ⟨aS,nS,cS,aF,nF,cF,aL,nL,cL,aP,nP,cP,rfl,uo,CV,hfin⟩;have Bg:=ai uo;have R6:=ai CV;have ky:=ai hfin;clear uo CV hfin;try go_simp
       refine hK.out _ _ (fun _=>?_) ?_
       · exact fh.o _ Bg.o
       clear hK K
       try simp only[Act.put,List.setIfInBounds_toArray,List.set_cons_zero,List.set_cons_succ]
       obtain⟨y0,y1,y2,y3,y4⟩:=B.c5 R6.o
       have f0:=B.free R6.o 0
       have f1:=B.free R6.o 1
       have f2:=B.free R6.o 2
       have f3:=B.free R6.o 3
       have f4:=B.free R6.o 4
       have h5:=ai (fun V=>rA R6.o (.slice aS nS cS) (.slice aF nF cF) (.slice aL nL cL) (.slice aP nP cP) (I 0) (V:=V))
       refine GZ.all (rs:=[12]) (by kernel_rfl) (by simp) ?_
       refine GZ.bu.cons rfl (fun K hK=>?_) GZ.bu.nil
       go_simp
       obtain⟨r1,r2⟩:=h5.out _ rfl
       refine hK.out _ _ (fun _=>?_) ?_
       · have:=r2.keep (KB.o _ Bg.o) (show ¬w.heap.size=w.heap.size+1 by omega)
         exact⟨B.cell this 0 rfl,B.cell this 1 rfl⟩
       clear hK K
       try simp only[Act.put,List.setIfInBounds_toArray,List.set_cons_zero,List.set_cons_succ]
       refine GZ.all (rs:=[13]) (by kernel_rfl) (by simp) ?_
       refine GZ.bu.cons rfl (fun K hK=>?_) GZ.bu.nil
       go_simp
       refine hK.out _ _ (fun g=>absurd rfl g) ?_
       refine GZ.done (by kernel_rfl) ?_ _
       go_wp2
       obtain⟨y0,y1,y2,y3,y4⟩:=B.c5 r1
       refine bodyPost_ret (v:=.tuple #[.agg #[.slice aS nS cS,.slice aF nF cF,.slice aL nL cL,.slice aP nP cP,I 0],I 0]) (by simp[results,Tryz.results18,go_sem,y0,y1,y2,y3,y4]) rfl ?_
       exact ky.o _ r2
     · go_simp
       refine hK.out _ _ (fun _=>?_) ?_
       · exact fh.o _ (jC.o.alloc jC.o.size _)
       clear hK K
       have iy:=ai (jC.o.alloc jC.o.size (.cells (zl NS) 86))
       have BP:=ai (B.alloc BP.o (.cells (zl NS) 86))
       have BL:=ai (B.new V1 (zl NS) 86)
       obtain⟨V2,hV2⟩:=ex (V1.alloc (.cells (zl NS) 86))
       obtain⟨bL,hbL⟩:=ex V1.heap.size
       rw[<- hV2] at iy BP BL ⊢
       rw[<- hbL] at BL ⊢
       clear hV2 hbL
       try simp only[Act.put,List.setIfInBounds_toArray,List.set_cons_zero,List.set_cons_succ]
       refine GZ.all (rs:=[3]) (by kernel_rfl) (by simp) ?_
       refine GZ.bu.cons rfl (fun K hK=>?_) GZ.bu.nil
       go_simp
       refine hK.out _ _ (fun _=>?_) ?_
       · exact fh.o _ (iy.o.alloc iy.o.size _)
       clear hK K
       have jF:=ai (iy.o.alloc iy.o.size (.cells (zf NF) 40))
       have BP:=ai (B.alloc BP.o (.cells (zf NF) 40))
       have BL:=ai (B.alloc BL.o (.cells (zf NF) 40))
       have BF:=ai (B.new V2 (zf NF) 40)
       obtain⟨V3,C7⟩:=ex (V2.alloc (.cells (zf NF) 40))
       obtain⟨bF,GY⟩:=ex V2.heap.size
       rw[<- C7] at jF BP BL BF ⊢
       rw[<- GY] at BF ⊢
       clear C7 GY
       try simp only[Act.put,List.setIfInBounds_toArray,List.set_cons_zero,List.set_cons_succ]
       refine GZ.tk 10 (fh.o _ jF.o) ?_ ?_ ?_
       rotate_left 1
       · intro V h
         obtain⟨k0,k1⟩:=h
         go_simp
         try with_reducible rfl
       refine GZ.all (rs:=[11]) (by kernel_rfl) (by simp) ?_
       refine GZ.bu.cons rfl (fun K hK=>?_) GZ.bu.nil
       rw[if_pos (by rfl)];go_simp;go_at_call 55;refine(FY.o _ _ _ _ jF.o BF.o BL.o BP.o).mono ?_;rintro e w6 ⟨aS,nS,cS,aF,nF,cF,aL,nL,cL,aP,nP,cP,rfl,uo,CV,hfin⟩;have Bg:=ai uo;have R6:=ai CV;have ky:=ai hfin;clear uo CV hfin;try go_simp
       refine hK.out _ _ (fun _=>?_) ?_
       · exact fh.o _ Bg.o
       clear hK K
       try simp only[Act.put,List.setIfInBounds_toArray,List.set_cons_zero,List.set_cons_succ]
       obtain⟨y0,y1,y2,y3,y4⟩:=B.c5 R6.o
       have f0:=B.free R6.o 0
       have f1:=B.free R6.o 1
       have f2:=B.free R6.o 2
       have f3:=B.free R6.o 3
       have f4:=B.free R6.o 4
       have h5:=ai (fun V=>rA R6.o (.slice aS nS cS) (.slice aF nF cF) (.slice aL nL cL) (.slice aP nP cP) (I 0) (V:=V))
       refine GZ.all (rs:=[12]) (by kernel_rfl) (by simp) ?_
       refine GZ.bu.cons rfl (fun K hK=>?_) GZ.bu.nil
       go_simp
       obtain⟨r1,r2⟩:=h5.out _ rfl
       refine hK.out _ _ (fun _=>?_) ?_
       · have:=r2.keep (KB.o _ Bg.o) (show ¬w.heap.size=w.heap.size+1 by omega)
         exact⟨B.cell this 0 rfl,B.cell this 1 rfl⟩
       clear hK K
       try simp only[Act.put,List.setIfInBounds_toArray,List.set_cons_zero,List.set_cons_succ]
       refine GZ.all (rs:=[13]) (by kernel_rfl) (by simp) ?_
       refine GZ.bu.cons rfl (fun K hK=>?_) GZ.bu.nil
       go_simp
       refine hK.out _ _ (fun g=>absurd rfl g) ?_
       refine GZ.done (by kernel_rfl) ?_ _
       go_wp2
       obtain⟨y0,y1,y2,y3,y4⟩:=B.c5 r1
       refine bodyPost_ret (v:=.tuple #[.agg #[.slice aS nS cS,.slice aF nF cF,.slice aL nL cL,.slice aP nP cP,I 0],I 0]) (by simp[results,Tryz.results18,go_sem,y0,y1,y2,y3,y4]) rfl ?_
       exact ky.o _ r2
 · rw[if_pos c]
   obtain⟨C,hC⟩:=ex (LM.lR l hs en)
   rw[<- hC] at sI c ⊢
   have cb:(C != 0)=true:=by simpa using c
   have bh:=ai (fun V (h:Below w.heap.size w V)=>Bh.o V C h)
   obtain⟨P,hP⟩:=ex (dw w l8 [I C])
   show Calls _ _ _ _ (dw w l8 [I C])
   rw[<- hP] at bh ⊢
   clear ha hf h DW he hcap hb0 kb rb dx hC c hP Bh TD
   go_enter Tryz.func18,Tryz.ntmps18
   go_upto_region 1 with fail
   rw[<- eV.o]
   go_upto_region 3 with(go_at_call 53;refine sI.o.mono ?_;rintro e w1 ⟨rfl,hb1⟩;have gN:=ai (bI.o.trans (hb1.mono bI.o.size));have R1:=ai (RB.o _ hb1);clear hb1)
   obtain⟨y0,y1,y2,y3,y4⟩:=B.c5 R1.o
   have f0:=B.free R1.o 0
   have f1:=B.free R1.o 1
   have f2:=B.free R1.o 2
   have f3:=B.free R1.o 3
   have f4:=B.free R1.o 4
   have h5:=ai (fun V=>rA R1.o Nl Nl Nl Nl (I 0) (V:=V))
   go_wp2
   obtain⟨r1,r2⟩:=h5.out _ rfl
   obtain⟨y0,y1,y2,y3,y4⟩:=B.c5 r1
   refine bodyPost_ret (v:=.tuple #[.agg #[Nl,Nl,Nl,Nl,I 0],I C]) (by simp[results,Tryz.results18,go_sem,y0,y1,y2,y3,y4]) rfl ?_
   exact bh.o _ (Kp.below gN.o r2 gN.o.size (fun b e=>by omega))
end KZ
namespace KY
open Go.RowKit KO
open KW (fe cO aH eY)
theorem Dm:l4:=fun k a w hK hs=>CN k a w hK hs
end KY
end Go.Proofs.YtpgifpeohlllfaaGreat
