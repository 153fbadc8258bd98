import Derived.Test.YtpgifpeohlllfaaGreatGJ26
import Derived.Test.YtpgifpeohlllfaaGreatGJ31
import Derived.Test.YtpgifpeohlllfaaGreatGJ35
import Derived.Test.YtpgifpeohlllfaaGreatGJ36
import Derived.Test.YtpgifpeohlllfaaGreatGJ32
import Derived.Test.YtpgifpeohlllfaaGreatGJ15
import Derived.Test.YtpgifpeohlllfaaGreatGJ20
import Derived.Test.YtpgifpeohlllfaaGreatGJ12
import Derived.StillTailTactics
import Derived.Test.YtpgifpeohlllfaaGreatGJ06
import Derived.Test.YtpgifpeohlllfaaGreatGJ02
import Derived.Test.YtpgifpeohlllfaaGreatGJ13
set_option maxHeartbeats 20000000
set_option linter.unusedVariables false
set_option maxRecDepth 100000
set_option linter.unusedSimpArgs false
namespace Go.Proofs.YtpgifpeohlllfaaGreat
namespace KR
open Go.RowKit GK KO
open FW (hideC add_below)
open KW (KAt HasK cellsK FitK)
open KY (OutC)
open KZ (newA newK zf zl mkF mkL has_new new_small n1 ret5 kn0)
set_option maxHeartbeats 16000000 in
theorem newKernel_any (l : List AM.Ar) (hs : List LM.Sh) (en nf ns : Int) (va : Value) (ao : Option Addr) (cap : Nat) (w : World) (ha : AW.Has w va l) (h : LM.HasH w ao hs) (hc : LM.checkL l hs en = 0) (h3 : 3 <= nf) (h64 : nf <= 64) (h0 : 0 <= ns) (h512 : ns <= 512) :
  Calls Tryz.prog 22 #[.agg #[va,.slice ao hs.length cap,.int .i64 en],.int .i64 nf,.int .i64 ns] w (OutC w (newK l hs nf ns)):=by
 obtain ⟨aa,ca,hva,_⟩:=id ha
 subst hva
 obtain ⟨WA,hWA⟩ : ∃ WA,WA = (w.alloc (.cells #[.slice aa l.length ca,.slice ao hs.length cap,.int .i64 en] 30)).alloc (.cells #[.slice none 0 0,.slice none 0 0,.slice none 0 0,.slice none 0 0,.int .i64 0] 27):=⟨_,rfl⟩
 have hb0 : Below w.heap.size w WA:=by rw [hWA];exact ((Below.refl _ _).alloc (Nat.le_refl _) _).alloc (by simp) _
 have kb : WA.heap[w.heap.size]? = some (.cells #[.slice aa l.length ca,.slice ao hs.length cap,.int .i64 en] 30 (0,0)):=by rw [hWA];exact B.alloc (B.new w _ _) _
 have rb : WA.heap[w.heap.size + 1]? = some (.cells #[.slice none 0 0,.slice none 0 0,.slice none 0 0,.slice none 0 0,.int .i64 0] 27 (0,0)):=by rw [hWA];exact n1 _ _ _ _
 have RB : Hid (∀ V,Below WA.heap.size WA V -> V.heap[w.heap.size + 1]? = some (.cells #[.slice none 0 0,.slice none 0 0,.slice none 0 0,.slice none 0 0,.int .i64 0] 27 (0,0))):=fun V hb=>B.below rb hb (B.isLt rb)
 have KB : Hid (∀ V,Below WA.heap.size WA V -> V.heap[w.heap.size]? = some (.cells #[.slice aa l.length ca,.slice ao hs.length cap,.int .i64 en] 30 (0,0))):=fun V hb=>B.below kb hb (B.isLt kb)
 have HWA:=hideC hWA
 have HB0:=hideC hb0
 have hrl:=B.isLt rb
 have HNC : Hid (∀ (W : World) fb sb pb,Below WA.heap.size WA W -> W.heap[fb]? = some (.cells (zf nf.toNat) 40 (0,0)) -> W.heap[sb]? = some (.cells (zl ns.toNat) 86 (0,0)) -> W.heap[pb]? = some (.cells #[.bool true,.slice aa l.length ca,.slice none 0 0] 43 (0,0)) -> Calls Tryz.prog 16 #[.agg #[.slice ao hs.length cap,.slice (some ⟨fb,0,none⟩) nf.toNat nf.toNat,.slice (some ⟨sb,0,none⟩) ns.toNat ns.toNat,.slice (some ⟨pb,0,none⟩) 1 1,.int .i64 0]] W fun e w'=>∃ aS nS cS aF nF cF aL nL cL aP nP cP,e = .returned (.agg #[.slice aS nS cS,.slice aF nF cF,.slice aL nL cL,.slice aP nP cP,.int .i64 0]) /\ Below WA.heap.size WA w' /\ w'.heap[w.heap.size + 1]? = some (.cells #[.slice none 0 0,.slice none 0 0,.slice none 0 0,.slice none 0 0,.int .i64 0] 27 (0,0)) /\ ∀ U,Kp (fun b=>b = w.heap.size + 1) w' U -> OutC w (newK l hs nf ns) (.returned (.agg #[.slice aS nS cS,.slice aF nF cF,.slice aL nL cL,.slice aP nP cP,.int .i64 0])) U):=fun W fb sb pb hW g1 g2 g3=>by
  have hbw : Below w.heap.size w W:=hb0.trans (hW.mono hb0.size)
  have hk:=has_new (cap:=cap) (ha.below hbw) (h.below hbw) g1 g2 g3
  have hcl:=own_any _ _ W hk (new_small hc nf.toNat ns.toNat (by omega) (by omega))
  unfold cellsK at hcl
  simp only [List.length_replicate,List.length_singleton] at hcl
  refine hcl.mono fun e w' ⟨S,hs',hsame,e1,hr,hb⟩=>?_
  obtain ⟨aS,nS,cS,eS⟩ : ∃ b n d,S.vS = .slice b n d:=by obtain ⟨b,d,e,_⟩:=row_form hr.sheets;exact ⟨b,_,d,e⟩
  obtain ⟨aF,nF,cF,eF⟩ : ∃ b n d,S.vF = .slice b n d:=by obtain ⟨b,d,e,_⟩:=row_form hr.frames;exact ⟨b,_,d,e⟩
  obtain ⟨aL,nL,cL,eL⟩ : ∃ b n d,S.vL = .slice b n d:=by obtain ⟨b,d,e,_⟩:=row_form hr.slots;exact ⟨b,_,d,e⟩
  obtain ⟨aP,nP,cP,eP⟩ : ∃ b n d,S.vP = .slice b n d:=by obtain ⟨b,d,e,_⟩:=row_form hr.spaces;exact ⟨b,_,d,e⟩
  rw [eS,eF,eL,eP] at e1
  have hbl : Below WA.heap.size WA w':=hW.trans (hb.mono hW.size)
  have hbw' : Below w.heap.size w w':=hb0.trans (hbl.mono hb0.size)
  have hWz:=hW.size
  refine ⟨aS,nS,cS,aF,nF,cF,aL,nL,cL,aP,nP,cP,e1,hbl,RB.out _ hbl,fun U hU=>⟨S,hs',hsame,by rw [eS,eF,eL,eP];rfl,(hr.kp hU (fun b hb e=>by have:=(hr.bnd b hb).1;omega)).mono hbw.size,Kp.below hbw' hU hbw'.size (fun b e=>by omega)⟩⟩
 have e2:=fun V : World=>mkF V nf (by omega) (by omega)
 have e3:=fun V : World=>mkL V ns (by omega) (by omega)
 obtain ⟨P,hP⟩ : ∃ P,P = OutC w (newK l hs nf ns):=⟨_,rfl⟩
 rw [<- hP] at HNC ⊢
 obtain ⟨NF,hNF⟩ : ∃ NF,NF = nf.toNat:=⟨_,rfl⟩
 obtain ⟨NS,hNS⟩ : ∃ NS,NS = ns.toNat:=⟨_,rfl⟩
 rw [<- hNF] at HNC
 rw [<- hNS] at HNC
 simp only [<- hNF] at e2
 simp only [<- hNS] at e3
 clear hP hNF hNS ha h hc kb rb hWA hb0
 go_enter Tryz.func22,Tryz.ntmps22
 go_upto_region 1 with fail
 rw [<- HWA.out]
 have HCC : Hid (∀ V,Below WA.heap.size WA V -> V.cell? ⟨w.heap.size,0,none⟩ = some (.slice aa l.length ca) /\ V.cell? ⟨w.heap.size,1,none⟩ = some (.slice ao hs.length cap)):=fun V hV=>⟨B.cell (KB.out _ hV) 0 rfl,B.cell (KB.out _ hV) 1 rfl⟩
 refine GZ.begin_ (S:=fun V=>V.cell? ⟨w.heap.size,0,none⟩ = some (.slice aa l.length ca) /\ V.cell? ⟨w.heap.size,1,none⟩ = some (.slice ao hs.length cap)) (z:=12) (by kernel_rfl) ?_
 have HS0:=hideC ((Below.refl WA.heap.size WA).drew)
 obtain ⟨V0,hV0⟩ : ∃ V0,V0 = WA.drew:=⟨_,rfl⟩
 rw [<- hV0] at HS0 ⊢
 clear hV0
 refine GZ.tk 0 (HCC.out _ HS0.out) ?_ ?_ ?_
 rotate_left 1
 · intro V h
   obtain ⟨k0,k1⟩:=h
   go_simp
   try with_reducible rfl
 refine GZ.tk 1 (HCC.out _ HS0.out) ?_ ?_ ?_
 rotate_left 1
 · intro V h
   obtain ⟨k0,k1⟩:=h
   go_simp
   try with_reducible rfl
 refine GZ.tk 2 (HCC.out _ HS0.out) ?_ ?_ ?_
 rotate_left 1
 · intro V h
   obtain ⟨k0,k1⟩:=h
   go_simp
   try with_reducible rfl
 refine GZ.tk 4 (HCC.out _ HS0.out) ?_ ?_ ?_
 rotate_left 1
 · intro V h
   obtain ⟨k0,k1⟩:=h
   go_simp
   try with_reducible rfl
 refine GZ.tk 6 (HCC.out _ HS0.out) ?_ ?_ ?_
 rotate_left 1
 · intro V h
   obtain ⟨k0,k1⟩:=h
   go_simp
   try with_reducible rfl
 refine GZ.tk 7 (HCC.out _ HS0.out) ?_ ?_ ?_
 rotate_left 1
 · intro V h
   obtain ⟨k0,k1⟩:=h
   go_simp
   try with_reducible rfl
 refine GZ.tk 8 (HCC.out _ HS0.out) ?_ ?_ ?_
 rotate_left 1
 · intro V h
   obtain ⟨k0,k1⟩:=h
   go_simp
   try with_reducible rfl
 refine GZ.all (rs:=[3,5,9]) (by kernel_rfl) (by simp) ?_
 refine GZ.AllZ.cons rfl (fun K hK=>?_) (GZ.AllZ.cons rfl (fun K hK=>?_) (GZ.AllZ.cons rfl (fun K hK=>?_) GZ.AllZ.nil))
 · go_simp
   refine hK.out _ _ (fun _=>?_) ?_
   · exact HCC.out _ (HS0.out.alloc HS0.out.size _)
   clear hK K
   have HS1:=hideC (HS0.out.alloc HS0.out.size (.cells (zf NF) 40))
   have BF:=hideC (B.new V0 (zf NF) 40)
   obtain ⟨V1,hV1⟩ : ∃ V1,V1 = V0.alloc (.cells (zf NF) 40):=⟨_,rfl⟩
   obtain ⟨bF,hbF⟩ : ∃ bF,bF = V0.heap.size:=⟨_,rfl⟩
   rw [<- hV1] at HS1 BF ⊢
   rw [<- hbF] at BF ⊢
   clear hV1 hbF
   try simp only [Act.put,List.setIfInBounds_toArray,List.set_cons_zero,List.set_cons_succ]
   refine GZ.all (rs:=[5,9]) (by kernel_rfl) (by simp) ?_
   refine GZ.AllZ.cons rfl (fun K hK=>?_) (GZ.AllZ.cons rfl (fun K hK=>?_) GZ.AllZ.nil)
   · go_simp
     refine hK.out _ _ (fun _=>?_) ?_
     · exact HCC.out _ (HS1.out.alloc HS1.out.size _)
     clear hK K
     have HS2:=hideC (HS1.out.alloc HS1.out.size (.cells (zl NS) 86))
     have BF:=hideC (B.alloc BF.out (.cells (zl NS) 86))
     have BL:=hideC (B.new V1 (zl NS) 86)
     obtain ⟨V2,hV2⟩ : ∃ V2,V2 = V1.alloc (.cells (zl NS) 86):=⟨_,rfl⟩
     obtain ⟨bL,hbL⟩ : ∃ bL,bL = V1.heap.size:=⟨_,rfl⟩
     rw [<- hV2] at HS2 BF BL ⊢
     rw [<- hbL] at BL ⊢
     clear hV2 hbL
     try simp only [Act.put,List.setIfInBounds_toArray,List.set_cons_zero,List.set_cons_succ]
     refine GZ.all (rs:=[9]) (by kernel_rfl) (by simp) ?_
     refine GZ.AllZ.cons rfl (fun K hK=>?_) GZ.AllZ.nil
     go_simp
     refine hK.out _ _ (fun _=>?_) ?_
     · exact HCC.out _ (HS2.out.alloc HS2.out.size _)
     clear hK K
     have HS3:=hideC (HS2.out.alloc HS2.out.size (.cells #[.bool true,.slice aa l.length ca,.slice none 0 0] 43))
     have BF:=hideC (B.alloc BF.out (.cells #[.bool true,.slice aa l.length ca,.slice none 0 0] 43))
     have BL:=hideC (B.alloc BL.out (.cells #[.bool true,.slice aa l.length ca,.slice none 0 0] 43))
     have BP:=hideC (B.new V2 #[.bool true,.slice aa l.length ca,.slice none 0 0] 43)
     obtain ⟨V3,hV3⟩ : ∃ V3,V3 = V2.alloc (.cells #[.bool true,.slice aa l.length ca,.slice none 0 0] 43):=⟨_,rfl⟩
     obtain ⟨bP,hbP⟩ : ∃ bP,bP = V2.heap.size:=⟨_,rfl⟩
     rw [<- hV3] at HS3 BF BL BP ⊢
     rw [<- hbP] at BP ⊢
     clear hV3 hbP
     try simp only [Act.put,List.setIfInBounds_toArray,List.set_cons_zero,List.set_cons_succ]
     refine GZ.tk 10 (HCC.out _ HS3.out) ?_ ?_ ?_
     rotate_left 1
     · intro V h
       obtain ⟨k0,k1⟩:=h
       go_simp
       try with_reducible rfl
     refine GZ.all (rs:=[11]) (by kernel_rfl) (by simp) ?_
     refine GZ.AllZ.cons rfl (fun K hK=>?_) GZ.AllZ.nil
     rw [if_pos (by rfl)];go_simp;go_at_call 16;refine (HNC.out _ _ _ _ HS3.out BF.out BL.out BP.out).mono ?_;rintro e w6 ⟨aS,nS,cS,aF,nF,cF,aL,nL,cL,aP,nP,cP,rfl,hb6,hr6,hfin⟩;have HS6:=hideC hb6;have R6:=hideC hr6;have HFI:=hideC hfin;clear hb6 hr6 hfin;try go_simp
     refine hK.out _ _ (fun _=>?_) ?_
     · exact HCC.out _ HS6.out
     clear hK K
     try simp only [Act.put,List.setIfInBounds_toArray,List.set_cons_zero,List.set_cons_succ]
     obtain ⟨y0,y1,y2,y3,y4⟩:=B.c5 R6.out
     have f0:=B.free R6.out 0
     have f1:=B.free R6.out 1
     have f2:=B.free R6.out 2
     have f3:=B.free R6.out 3
     have f4:=B.free R6.out 4
     have h5:=hideC (fun V=>ret5 R6.out (.slice aS nS cS) (.slice aF nF cF) (.slice aL nL cL) (.slice aP nP cP) (.int .i64 0) (V:=V))
     refine GZ.all (rs:=[12]) (by kernel_rfl) (by simp) ?_
     refine GZ.AllZ.cons rfl (fun K hK=>?_) GZ.AllZ.nil
     go_simp
     obtain ⟨r1,r2⟩:=h5.out _ rfl
     refine hK.out _ _ (fun g=>absurd rfl g) ?_
     refine GZ.done (by kernel_rfl) ?_ _
     clear y0 y1 y2 y3 y4
     go_wp2
     obtain ⟨y0,y1,y2,y3,y4⟩:=B.c5 r1
     refine bodyPost_ret (v:=.agg #[.slice aS nS cS,.slice aF nF cF,.slice aL nL cL,.slice aP nP cP,.int .i64 0]) (by simp [results,Tryz.results22,go_sem,y0,y1,y2,y3,y4]) rfl ?_
     exact HFI.out _ r2
   · go_simp
     refine hK.out _ _ (fun _=>?_) ?_
     · exact HCC.out _ (HS1.out.alloc HS1.out.size _)
     clear hK K
     have HS2:=hideC (HS1.out.alloc HS1.out.size (.cells #[.bool true,.slice aa l.length ca,.slice none 0 0] 43))
     have BF:=hideC (B.alloc BF.out (.cells #[.bool true,.slice aa l.length ca,.slice none 0 0] 43))
     have BP:=hideC (B.new V1 #[.bool true,.slice aa l.length ca,.slice none 0 0] 43)
     obtain ⟨V2,hV2⟩ : ∃ V2,V2 = V1.alloc (.cells #[.bool true,.slice aa l.length ca,.slice none 0 0] 43):=⟨_,rfl⟩
     obtain ⟨bP,hbP⟩ : ∃ bP,bP = V1.heap.size:=⟨_,rfl⟩
     rw [<- hV2] at HS2 BF BP ⊢
     rw [<- hbP] at BP ⊢
     clear hV2 hbP
     try simp only [Act.put,List.setIfInBounds_toArray,List.set_cons_zero,List.set_cons_succ]
     refine GZ.all (rs:=[5]) (by kernel_rfl) (by simp) ?_
     refine GZ.AllZ.cons rfl (fun K hK=>?_) GZ.AllZ.nil
     go_simp
     refine hK.out _ _ (fun _=>?_) ?_
     · exact HCC.out _ (HS2.out.alloc HS2.out.size _)
     clear hK K
     have HS3:=hideC (HS2.out.alloc HS2.out.size (.cells (zl NS) 86))
     have BF:=hideC (B.alloc BF.out (.cells (zl NS) 86))
     have BP:=hideC (B.alloc BP.out (.cells (zl NS) 86))
     have BL:=hideC (B.new V2 (zl NS) 86)
     obtain ⟨V3,hV3⟩ : ∃ V3,V3 = V2.alloc (.cells (zl NS) 86):=⟨_,rfl⟩
     obtain ⟨bL,hbL⟩ : ∃ bL,bL = V2.heap.size:=⟨_,rfl⟩
     rw [<- hV3] at HS3 BF BP BL ⊢
     rw [<- hbL] at BL ⊢
     clear hV3 hbL
     try simp only [Act.put,List.setIfInBounds_toArray,List.set_cons_zero,List.set_cons_succ]
     refine GZ.tk 10 (HCC.out _ HS3.out) ?_ ?_ ?_
     rotate_left 1
     · intro V h
       obtain ⟨k0,k1⟩:=h
       go_simp
       try with_reducible rfl
     refine GZ.all (rs:=[11]) (by kernel_rfl) (by simp) ?_
     refine GZ.AllZ.cons rfl (fun K hK=>?_) GZ.AllZ.nil
     rw [if_pos (by rfl)];go_simp;go_at_call 16;refine (HNC.out _ _ _ _ HS3.out BF.out BL.out BP.out).mono ?_;rintro e w6 ⟨aS,nS,cS,aF,nF,cF,aL,nL,cL,aP,nP,cP,rfl,hb6,hr6,hfin⟩;have HS6:=hideC hb6;have R6:=hideC hr6;have HFI:=hideC hfin;clear hb6 hr6 hfin;try go_simp
     refine hK.out _ _ (fun _=>?_) ?_
     · exact HCC.out _ HS6.out
     clear hK K
     try simp only [Act.put,List.setIfInBounds_toArray,List.set_cons_zero,List.set_cons_succ]
     obtain ⟨y0,y1,y2,y3,y4⟩:=B.c5 R6.out
     have f0:=B.free R6.out 0
     have f1:=B.free R6.out 1
     have f2:=B.free R6.out 2
     have f3:=B.free R6.out 3
     have f4:=B.free R6.out 4
     have h5:=hideC (fun V=>ret5 R6.out (.slice aS nS cS) (.slice aF nF cF) (.slice aL nL cL) (.slice aP nP cP) (.int .i64 0) (V:=V))
     refine GZ.all (rs:=[12]) (by kernel_rfl) (by simp) ?_
     refine GZ.AllZ.cons rfl (fun K hK=>?_) GZ.AllZ.nil
     go_simp
     obtain ⟨r1,r2⟩:=h5.out _ rfl
     refine hK.out _ _ (fun g=>absurd rfl g) ?_
     refine GZ.done (by kernel_rfl) ?_ _
     clear y0 y1 y2 y3 y4
     go_wp2
     obtain ⟨y0,y1,y2,y3,y4⟩:=B.c5 r1
     refine bodyPost_ret (v:=.agg #[.slice aS nS cS,.slice aF nF cF,.slice aL nL cL,.slice aP nP cP,.int .i64 0]) (by simp [results,Tryz.results22,go_sem,y0,y1,y2,y3,y4]) rfl ?_
     exact HFI.out _ r2
 · go_simp
   refine hK.out _ _ (fun _=>?_) ?_
   · exact HCC.out _ (HS0.out.alloc HS0.out.size _)
   clear hK K
   have HS1:=hideC (HS0.out.alloc HS0.out.size (.cells (zl NS) 86))
   have BL:=hideC (B.new V0 (zl NS) 86)
   obtain ⟨V1,hV1⟩ : ∃ V1,V1 = V0.alloc (.cells (zl NS) 86):=⟨_,rfl⟩
   obtain ⟨bL,hbL⟩ : ∃ bL,bL = V0.heap.size:=⟨_,rfl⟩
   rw [<- hV1] at HS1 BL ⊢
   rw [<- hbL] at BL ⊢
   clear hV1 hbL
   try simp only [Act.put,List.setIfInBounds_toArray,List.set_cons_zero,List.set_cons_succ]
   refine GZ.all (rs:=[3,9]) (by kernel_rfl) (by simp) ?_
   refine GZ.AllZ.cons rfl (fun K hK=>?_) (GZ.AllZ.cons rfl (fun K hK=>?_) GZ.AllZ.nil)
   · go_simp
     refine hK.out _ _ (fun _=>?_) ?_
     · exact HCC.out _ (HS1.out.alloc HS1.out.size _)
     clear hK K
     have HS2:=hideC (HS1.out.alloc HS1.out.size (.cells (zf NF) 40))
     have BL:=hideC (B.alloc BL.out (.cells (zf NF) 40))
     have BF:=hideC (B.new V1 (zf NF) 40)
     obtain ⟨V2,hV2⟩ : ∃ V2,V2 = V1.alloc (.cells (zf NF) 40):=⟨_,rfl⟩
     obtain ⟨bF,hbF⟩ : ∃ bF,bF = V1.heap.size:=⟨_,rfl⟩
     rw [<- hV2] at HS2 BL BF ⊢
     rw [<- hbF] at BF ⊢
     clear hV2 hbF
     try simp only [Act.put,List.setIfInBounds_toArray,List.set_cons_zero,List.set_cons_succ]
     refine GZ.all (rs:=[9]) (by kernel_rfl) (by simp) ?_
     refine GZ.AllZ.cons rfl (fun K hK=>?_) GZ.AllZ.nil
     go_simp
     refine hK.out _ _ (fun _=>?_) ?_
     · exact HCC.out _ (HS2.out.alloc HS2.out.size _)
     clear hK K
     have HS3:=hideC (HS2.out.alloc HS2.out.size (.cells #[.bool true,.slice aa l.length ca,.slice none 0 0] 43))
     have BL:=hideC (B.alloc BL.out (.cells #[.bool true,.slice aa l.length ca,.slice none 0 0] 43))
     have BF:=hideC (B.alloc BF.out (.cells #[.bool true,.slice aa l.length ca,.slice none 0 0] 43))
     have BP:=hideC (B.new V2 #[.bool true,.slice aa l.length ca,.slice none 0 0] 43)
     obtain ⟨V3,hV3⟩ : ∃ V3,V3 = V2.alloc (.cells #[.bool true,.slice aa l.length ca,.slice none 0 0] 43):=⟨_,rfl⟩
     obtain ⟨bP,hbP⟩ : ∃ bP,bP = V2.heap.size:=⟨_,rfl⟩
     rw [<- hV3] at HS3 BL BF BP ⊢
     rw [<- hbP] at BP ⊢
     clear hV3 hbP
     try simp only [Act.put,List.setIfInBounds_toArray,List.set_cons_zero,List.set_cons_succ]
     refine GZ.tk 10 (HCC.out _ HS3.out) ?_ ?_ ?_
     rotate_left 1
     · intro V h
       obtain ⟨k0,k1⟩:=h
       go_simp
       try with_reducible rfl
     refine GZ.all (rs:=[11]) (by kernel_rfl) (by simp) ?_
     refine GZ.AllZ.cons rfl (fun K hK=>?_) GZ.AllZ.nil
     rw [if_pos (by rfl)];go_simp;go_at_call 16;refine (HNC.out _ _ _ _ HS3.out BF.out BL.out BP.out).mono ?_;rintro e w6 ⟨aS,nS,cS,aF,nF,cF,aL,nL,cL,aP,nP,cP,rfl,hb6,hr6,hfin⟩;have HS6:=hideC hb6;have R6:=hideC hr6;have HFI:=hideC hfin;clear hb6 hr6 hfin;try go_simp
     refine hK.out _ _ (fun _=>?_) ?_
     · exact HCC.out _ HS6.out
     clear hK K
     try simp only [Act.put,List.setIfInBounds_toArray,List.set_cons_zero,List.set_cons_succ]
     obtain ⟨y0,y1,y2,y3,y4⟩:=B.c5 R6.out
     have f0:=B.free R6.out 0
     have f1:=B.free R6.out 1
     have f2:=B.free R6.out 2
     have f3:=B.free R6.out 3
     have f4:=B.free R6.out 4
     have h5:=hideC (fun V=>ret5 R6.out (.slice aS nS cS) (.slice aF nF cF) (.slice aL nL cL) (.slice aP nP cP) (.int .i64 0) (V:=V))
     refine GZ.all (rs:=[12]) (by kernel_rfl) (by simp) ?_
     refine GZ.AllZ.cons rfl (fun K hK=>?_) GZ.AllZ.nil
     go_simp
     obtain ⟨r1,r2⟩:=h5.out _ rfl
     refine hK.out _ _ (fun g=>absurd rfl g) ?_
     refine GZ.done (by kernel_rfl) ?_ _
     clear y0 y1 y2 y3 y4
     go_wp2
     obtain ⟨y0,y1,y2,y3,y4⟩:=B.c5 r1
     refine bodyPost_ret (v:=.agg #[.slice aS nS cS,.slice aF nF cF,.slice aL nL cL,.slice aP nP cP,.int .i64 0]) (by simp [results,Tryz.results22,go_sem,y0,y1,y2,y3,y4]) rfl ?_
     exact HFI.out _ r2
   · go_simp
     refine hK.out _ _ (fun _=>?_) ?_
     · exact HCC.out _ (HS1.out.alloc HS1.out.size _)
     clear hK K
     have HS2:=hideC (HS1.out.alloc HS1.out.size (.cells #[.bool true,.slice aa l.length ca,.slice none 0 0] 43))
     have BL:=hideC (B.alloc BL.out (.cells #[.bool true,.slice aa l.length ca,.slice none 0 0] 43))
     have BP:=hideC (B.new V1 #[.bool true,.slice aa l.length ca,.slice none 0 0] 43)
     obtain ⟨V2,hV2⟩ : ∃ V2,V2 = V1.alloc (.cells #[.bool true,.slice aa l.length ca,.slice none 0 0] 43):=⟨_,rfl⟩
     obtain ⟨bP,hbP⟩ : ∃ bP,bP = V1.heap.size:=⟨_,rfl⟩
     rw [<- hV2] at HS2 BL BP ⊢
     rw [<- hbP] at BP ⊢
     clear hV2 hbP
     try simp only [Act.put,List.setIfInBounds_toArray,List.set_cons_zero,List.set_cons_succ]
     refine GZ.all (rs:=[3]) (by kernel_rfl) (by simp) ?_
     refine GZ.AllZ.cons rfl (fun K hK=>?_) GZ.AllZ.nil
     go_simp
     refine hK.out _ _ (fun _=>?_) ?_
     · exact HCC.out _ (HS2.out.alloc HS2.out.size _)
     clear hK K
     have HS3:=hideC (HS2.out.alloc HS2.out.size (.cells (zf NF) 40))
     have BL:=hideC (B.alloc BL.out (.cells (zf NF) 40))
     have BP:=hideC (B.alloc BP.out (.cells (zf NF) 40))
     have BF:=hideC (B.new V2 (zf NF) 40)
     obtain ⟨V3,hV3⟩ : ∃ V3,V3 = V2.alloc (.cells (zf NF) 40):=⟨_,rfl⟩
     obtain ⟨bF,hbF⟩ : ∃ bF,bF = V2.heap.size:=⟨_,rfl⟩
     rw [<- hV3] at HS3 BL BP BF ⊢
     rw [<- hbF] at BF ⊢
     clear hV3 hbF
     try simp only [Act.put,List.setIfInBounds_toArray,List.set_cons_zero,List.set_cons_succ]
     refine GZ.tk 10 (HCC.out _ HS3.out) ?_ ?_ ?_
     rotate_left 1
     · intro V h
       obtain ⟨k0,k1⟩:=h
       go_simp
       try with_reducible rfl
     refine GZ.all (rs:=[11]) (by kernel_rfl) (by simp) ?_
     refine GZ.AllZ.cons rfl (fun K hK=>?_) GZ.AllZ.nil
     rw [if_pos (by rfl)];go_simp;go_at_call 16;refine (HNC.out _ _ _ _ HS3.out BF.out BL.out BP.out).mono ?_;rintro e w6 ⟨aS,nS,cS,aF,nF,cF,aL,nL,cL,aP,nP,cP,rfl,hb6,hr6,hfin⟩;have HS6:=hideC hb6;have R6:=hideC hr6;have HFI:=hideC hfin;clear hb6 hr6 hfin;try go_simp
     refine hK.out _ _ (fun _=>?_) ?_
     · exact HCC.out _ HS6.out
     clear hK K
     try simp only [Act.put,List.setIfInBounds_toArray,List.set_cons_zero,List.set_cons_succ]
     obtain ⟨y0,y1,y2,y3,y4⟩:=B.c5 R6.out
     have f0:=B.free R6.out 0
     have f1:=B.free R6.out 1
     have f2:=B.free R6.out 2
     have f3:=B.free R6.out 3
     have f4:=B.free R6.out 4
     have h5:=hideC (fun V=>ret5 R6.out (.slice aS nS cS) (.slice aF nF cF) (.slice aL nL cL) (.slice aP nP cP) (.int .i64 0) (V:=V))
     refine GZ.all (rs:=[12]) (by kernel_rfl) (by simp) ?_
     refine GZ.AllZ.cons rfl (fun K hK=>?_) GZ.AllZ.nil
     go_simp
     obtain ⟨r1,r2⟩:=h5.out _ rfl
     refine hK.out _ _ (fun g=>absurd rfl g) ?_
     refine GZ.done (by kernel_rfl) ?_ _
     clear y0 y1 y2 y3 y4
     go_wp2
     obtain ⟨y0,y1,y2,y3,y4⟩:=B.c5 r1
     refine bodyPost_ret (v:=.agg #[.slice aS nS cS,.slice aF nF cF,.slice aL nL cL,.slice aP nP cP,.int .i64 0]) (by simp [results,Tryz.results22,go_sem,y0,y1,y2,y3,y4]) rfl ?_
     exact HFI.out _ r2
 · go_simp
   refine hK.out _ _ (fun _=>?_) ?_
   · exact HCC.out _ (HS0.out.alloc HS0.out.size _)
   clear hK K
   have HS1:=hideC (HS0.out.alloc HS0.out.size (.cells #[.bool true,.slice aa l.length ca,.slice none 0 0] 43))
   have BP:=hideC (B.new V0 #[.bool true,.slice aa l.length ca,.slice none 0 0] 43)
   obtain ⟨V1,hV1⟩ : ∃ V1,V1 = V0.alloc (.cells #[.bool true,.slice aa l.length ca,.slice none 0 0] 43):=⟨_,rfl⟩
   obtain ⟨bP,hbP⟩ : ∃ bP,bP = V0.heap.size:=⟨_,rfl⟩
   rw [<- hV1] at HS1 BP ⊢
   rw [<- hbP] at BP ⊢
   clear hV1 hbP
   try simp only [Act.put,List.setIfInBounds_toArray,List.set_cons_zero,List.set_cons_succ]
   refine GZ.all (rs:=[3,5]) (by kernel_rfl) (by simp) ?_
   refine GZ.AllZ.cons rfl (fun K hK=>?_) (GZ.AllZ.cons rfl (fun K hK=>?_) GZ.AllZ.nil)
   · go_simp
     refine hK.out _ _ (fun _=>?_) ?_
     · exact HCC.out _ (HS1.out.alloc HS1.out.size _)
     clear hK K
     have HS2:=hideC (HS1.out.alloc HS1.out.size (.cells (zf NF) 40))
     have BP:=hideC (B.alloc BP.out (.cells (zf NF) 40))
     have BF:=hideC (B.new V1 (zf NF) 40)
     obtain ⟨V2,hV2⟩ : ∃ V2,V2 = V1.alloc (.cells (zf NF) 40):=⟨_,rfl⟩
     obtain ⟨bF,hbF⟩ : ∃ bF,bF = V1.heap.size:=⟨_,rfl⟩
     rw [<- hV2] at HS2 BP BF ⊢
     rw [<- hbF] at BF ⊢
     clear hV2 hbF
     try simp only [Act.put,List.setIfInBounds_toArray,List.set_cons_zero,List.set_cons_succ]
     refine GZ.all (rs:=[5]) (by kernel_rfl) (by simp) ?_
     refine GZ.AllZ.cons rfl (fun K hK=>?_) GZ.AllZ.nil
     go_simp
     refine hK.out _ _ (fun _=>?_) ?_
     · exact HCC.out _ (HS2.out.alloc HS2.out.size _)
     clear hK K
     have HS3:=hideC (HS2.out.alloc HS2.out.size (.cells (zl NS) 86))
     have BP:=hideC (B.alloc BP.out (.cells (zl NS) 86))
     have BF:=hideC (B.alloc BF.out (.cells (zl NS) 86))
     have BL:=hideC (B.new V2 (zl NS) 86)
     obtain ⟨V3,hV3⟩ : ∃ V3,V3 = V2.alloc (.cells (zl NS) 86):=⟨_,rfl⟩
     obtain ⟨bL,hbL⟩ : ∃ bL,bL = V2.heap.size:=⟨_,rfl⟩
     rw [<- hV3] at HS3 BP BF BL ⊢
     rw [<- hbL] at BL ⊢
     clear hV3 hbL
     try simp only [Act.put,List.setIfInBounds_toArray,List.set_cons_zero,List.set_cons_succ]
     refine GZ.tk 10 (HCC.out _ HS3.out) ?_ ?_ ?_
     rotate_left 1
     · intro V h
       obtain ⟨k0,k1⟩:=h
       go_simp
       try with_reducible rfl
     refine GZ.all (rs:=[11]) (by kernel_rfl) (by simp) ?_
     refine GZ.AllZ.cons rfl (fun K hK=>?_) GZ.AllZ.nil
     rw [if_pos (by rfl)];go_simp;go_at_call 16;refine (HNC.out _ _ _ _ HS3.out BF.out BL.out BP.out).mono ?_;rintro e w6 ⟨aS,nS,cS,aF,nF,cF,aL,nL,cL,aP,nP,cP,rfl,hb6,hr6,hfin⟩;have HS6:=hideC hb6;have R6:=hideC hr6;have HFI:=hideC hfin;clear hb6 hr6 hfin;try go_simp
     refine hK.out _ _ (fun _=>?_) ?_
     · exact HCC.out _ HS6.out
     clear hK K
     try simp only [Act.put,List.setIfInBounds_toArray,List.set_cons_zero,List.set_cons_succ]
     obtain ⟨y0,y1,y2,y3,y4⟩:=B.c5 R6.out
     have f0:=B.free R6.out 0
     have f1:=B.free R6.out 1
     have f2:=B.free R6.out 2
     have f3:=B.free R6.out 3
     have f4:=B.free R6.out 4
     have h5:=hideC (fun V=>ret5 R6.out (.slice aS nS cS) (.slice aF nF cF) (.slice aL nL cL) (.slice aP nP cP) (.int .i64 0) (V:=V))
     refine GZ.all (rs:=[12]) (by kernel_rfl) (by simp) ?_
     refine GZ.AllZ.cons rfl (fun K hK=>?_) GZ.AllZ.nil
     go_simp
     obtain ⟨r1,r2⟩:=h5.out _ rfl
     refine hK.out _ _ (fun g=>absurd rfl g) ?_
     refine GZ.done (by kernel_rfl) ?_ _
     clear y0 y1 y2 y3 y4
     go_wp2
     obtain ⟨y0,y1,y2,y3,y4⟩:=B.c5 r1
     refine bodyPost_ret (v:=.agg #[.slice aS nS cS,.slice aF nF cF,.slice aL nL cL,.slice aP nP cP,.int .i64 0]) (by simp [results,Tryz.results22,go_sem,y0,y1,y2,y3,y4]) rfl ?_
     exact HFI.out _ r2
   · go_simp
     refine hK.out _ _ (fun _=>?_) ?_
     · exact HCC.out _ (HS1.out.alloc HS1.out.size _)
     clear hK K
     have HS2:=hideC (HS1.out.alloc HS1.out.size (.cells (zl NS) 86))
     have BP:=hideC (B.alloc BP.out (.cells (zl NS) 86))
     have BL:=hideC (B.new V1 (zl NS) 86)
     obtain ⟨V2,hV2⟩ : ∃ V2,V2 = V1.alloc (.cells (zl NS) 86):=⟨_,rfl⟩
     obtain ⟨bL,hbL⟩ : ∃ bL,bL = V1.heap.size:=⟨_,rfl⟩
     rw [<- hV2] at HS2 BP BL ⊢
     rw [<- hbL] at BL ⊢
     clear hV2 hbL
     try simp only [Act.put,List.setIfInBounds_toArray,List.set_cons_zero,List.set_cons_succ]
     refine GZ.all (rs:=[3]) (by kernel_rfl) (by simp) ?_
     refine GZ.AllZ.cons rfl (fun K hK=>?_) GZ.AllZ.nil
     go_simp
     refine hK.out _ _ (fun _=>?_) ?_
     · exact HCC.out _ (HS2.out.alloc HS2.out.size _)
     clear hK K
     have HS3:=hideC (HS2.out.alloc HS2.out.size (.cells (zf NF) 40))
     have BP:=hideC (B.alloc BP.out (.cells (zf NF) 40))
     have BL:=hideC (B.alloc BL.out (.cells (zf NF) 40))
     have BF:=hideC (B.new V2 (zf NF) 40)
     obtain ⟨V3,hV3⟩ : ∃ V3,V3 = V2.alloc (.cells (zf NF) 40):=⟨_,rfl⟩
     obtain ⟨bF,hbF⟩ : ∃ bF,bF = V2.heap.size:=⟨_,rfl⟩
     rw [<- hV3] at HS3 BP BL BF ⊢
     rw [<- hbF] at BF ⊢
     clear hV3 hbF
     try simp only [Act.put,List.setIfInBounds_toArray,List.set_cons_zero,List.set_cons_succ]
     refine GZ.tk 10 (HCC.out _ HS3.out) ?_ ?_ ?_
     rotate_left 1
     · intro V h
       obtain ⟨k0,k1⟩:=h
       go_simp
       try with_reducible rfl
     refine GZ.all (rs:=[11]) (by kernel_rfl) (by simp) ?_
     refine GZ.AllZ.cons rfl (fun K hK=>?_) GZ.AllZ.nil
     rw [if_pos (by rfl)];go_simp;go_at_call 16;refine (HNC.out _ _ _ _ HS3.out BF.out BL.out BP.out).mono ?_;rintro e w6 ⟨aS,nS,cS,aF,nF,cF,aL,nL,cL,aP,nP,cP,rfl,hb6,hr6,hfin⟩;have HS6:=hideC hb6;have R6:=hideC hr6;have HFI:=hideC hfin;clear hb6 hr6 hfin;try go_simp
     refine hK.out _ _ (fun _=>?_) ?_
     · exact HCC.out _ HS6.out
     clear hK K
     try simp only [Act.put,List.setIfInBounds_toArray,List.set_cons_zero,List.set_cons_succ]
     obtain ⟨y0,y1,y2,y3,y4⟩:=B.c5 R6.out
     have f0:=B.free R6.out 0
     have f1:=B.free R6.out 1
     have f2:=B.free R6.out 2
     have f3:=B.free R6.out 3
     have f4:=B.free R6.out 4
     have h5:=hideC (fun V=>ret5 R6.out (.slice aS nS cS) (.slice aF nF cF) (.slice aL nL cL) (.slice aP nP cP) (.int .i64 0) (V:=V))
     refine GZ.all (rs:=[12]) (by kernel_rfl) (by simp) ?_
     refine GZ.AllZ.cons rfl (fun K hK=>?_) GZ.AllZ.nil
     go_simp
     obtain ⟨r1,r2⟩:=h5.out _ rfl
     refine hK.out _ _ (fun g=>absurd rfl g) ?_
     refine GZ.done (by kernel_rfl) ?_ _
     clear y0 y1 y2 y3 y4
     go_wp2
     obtain ⟨y0,y1,y2,y3,y4⟩:=B.c5 r1
     refine bodyPost_ret (v:=.agg #[.slice aS nS cS,.slice aF nF cF,.slice aL nL cL,.slice aP nP cP,.int .i64 0]) (by simp [results,Tryz.results22,go_sem,y0,y1,y2,y3,y4]) rfl ?_
     exact HFI.out _ r2
end KR
namespace LW
open Go.RowKit
open W (hideC)
structure Oi (l : List LM.Ob) (ao : Option Addr) (w : World) : Prop where
 has : LM.HasO w ao l
 few : l.length <= 1000
 chk : ∀ k,k < l.length -> M.chkN (LM.obAt l k).i = 0
 fit : ∀ k,k < l.length -> M.Fit (LM.obAt l k).i
 base : ∀ k,k < l.length -> 1 <= (LM.obAt l k).base /\ (LM.obAt l k).base <= 2000
theorem Oi.below {l : List LM.Ob} {ao : Option Addr} {w w' : World} (h : Oi l ao w) (hb : Below w.heap.size w w') : Oi l ao w':=⟨h.has.below hb,h.few,h.chk,h.fit,h.base⟩
structure SameH (xs ys : List LM.Sh) : Prop where
 len : xs.length = ys.length
 page : ∀ k,k < xs.length -> (LM.shAt ys k).page = (LM.shAt xs k).page
 data : ∀ k,k < xs.length -> (LM.shAt ys k).data = (LM.shAt xs k).data
 fixes : ∀ k,k < xs.length -> (LM.shAt ys k).fixes = (LM.shAt xs k).fixes
set_option maxHeartbeats 4000000 in
theorem sameSheets_yes (xs ys : List LM.Sh) (ax ay : Option Addr) (cx cy : Nat) (w : World) (hx : LM.HasH w ax xs) (hy : LM.HasH w ay ys) (hs : SameH xs ys) (hn : M.Short xs.length) (hfn : ∀ k,k < xs.length -> M.Short (LM.shAt xs k).fixes.length) :
  Calls Tryz.prog 57 #[.slice ax xs.length cx,.slice ay ys.length cy] w fun e w'=>e = .returned (.bool true) /\ Below w.heap.size w w':=by
 have HX:=hideC hx
 have HYY:=hideC hy
 have HS:=hideC hs
 have HFN:=hideC hfn
 rw [<- hs.len]
 unfold M.Short at hn
 clear hx hy hs hfn
 go_enter Tryz.func57,Tryz.ntmps57
 go_wp2
 go_loopw [5] (fun i wr=>∃ k : Nat,k <= xs.length /\ i = .int .i64 k /\ Below w.heap.size w wr) (fun i _=>xs.length - (intOf i).toNat)
 case atStart=>exact ⟨0,by omega,rfl,Below.refl _ _⟩
 case round =>
  obtain ⟨i,hi,rfl,hb⟩:=hrel
  have HBr:=hideC hb
  by_cases hlt : i < xs.length
  · obtain ⟨bx,ox,hax,hbx,hlx⟩:=HX.out (by omega)
    obtain ⟨bx2,oy,hay,hby,hly⟩:=HYY.out (by rw [<- HS.out.len];omega)
    subst hax hay
    have HF : Hid (∀ V,Below w.heap.size w V -> (V.cell? ⟨bx,ox + i * 3,none⟩ = some (.int .i64 (LM.shAt xs i).page) /\ V.cell? ⟨bx,ox + i * 3 + 1,none⟩ = some (.string (LM.shAt xs i).data) /\ V.cell? ⟨bx,ox + i * 3 + 2,none⟩ = some (.slice (LM.shAt xs i).ao (LM.shAt xs i).fixes.length (LM.shAt xs i).cap) /\ LM.HasF V (LM.shAt xs i).ao (LM.shAt xs i).fixes) /\ (V.cell? ⟨bx2,oy + i * 3,none⟩ = some (.int .i64 (LM.shAt xs i).page) /\ V.cell? ⟨bx2,oy + i * 3 + 1,none⟩ = some (.string (LM.shAt xs i).data) /\ V.cell? ⟨bx2,oy + i * 3 + 2,none⟩ = some (.slice (LM.shAt ys i).ao (LM.shAt xs i).fixes.length (LM.shAt ys i).cap) /\ LM.HasF V (LM.shAt ys i).ao (LM.shAt xs i).fixes)):=fun V hV=>by
     obtain ⟨a0,a1,a2,a3⟩:=LM.lieH hV hbx hlx i hlt
     obtain ⟨b0,b1,b2,b3⟩:=LM.lieH hV hby hly i (by rw [<- HS.out.len];exact hlt)
     rw [HS.out.page i hlt] at b0
     rw [HS.out.data i hlt] at b1
     rw [HS.out.fixes i hlt] at b2 b3
     exact ⟨⟨a0,a1,a2,a3⟩,b0,b1,b2,b3⟩
    have hfi:=HFN.out i hlt
    obtain ⟨⟨pg,dt,fs,af,cf⟩,hsx⟩ : ∃ s,s = LM.shAt xs i:=⟨_,rfl⟩
    obtain ⟨ag,hag⟩ : ∃ a,a = (LM.shAt ys i).ao:=⟨_,rfl⟩
    obtain ⟨cg,hcg⟩ : ∃ a,a = (LM.shAt ys i).cap:=⟨_,rfl⟩
    rw [<- hsx,<- hag,<- hcg] at HF
    rw [<- hsx] at hfi
    simp only at HF hfi
    unfold M.Short at hfi
    clear hsx hag hcg hlx hly
    obtain ⟨⟨a0,a1,a2,-⟩,b0,b1,b2,-⟩:=HF.out _ hb
    have hi1 : (i : Int) < (xs.length : Int):=by omega
    have hi0 : (0 : Int) <= (i : Int):=by omega
    clear hb
    go_wp2
    go_quiet (fail)
    go_wp2
    go_loopw [6] (fun i2 wr=>∃ k : Nat,k <= fs.length /\ i2 = .int .i64 k /\ Below w.heap.size w wr) (fun i2 _=>fs.length - (intOf i2).toNat)
    case atStart=>exact ⟨0,by omega,rfl,below_drewN HBr.out _⟩
    case round =>
     obtain ⟨k,hk,rfl,hb⟩:=hrel
     have HBk:=hideC hb
     obtain ⟨⟨d0,d1,d2,d3⟩,e0,e1,e2,e3⟩:=HF.out _ hb
     clear hb a0 a1 a2 b0 b1 b2
     by_cases hlk : k < fs.length
     · obtain ⟨fb,fo,haf,hfb,hlf⟩:=d3 (by omega)
       obtain ⟨gb,go,hag,hgb,hlg⟩:=e3 (by omega)
       subst haf hag
       obtain ⟨f0,f1⟩:=hlf k hlk
       obtain ⟨g0,g1⟩:=hlg k hlk
       obtain ⟨⟨fo1,fb1⟩,hfx⟩ : ∃ f,f = LM.fxAt fs k:=⟨_,rfl⟩
       rw [<- hfx] at f0 f1 g0 g1
       simp only at f0 f1 g0 g1
       clear hfx hlf hlg d3 e3
       have hk1 : (k : Int) < (fs.length : Int):=by omega
       have hk0 : (0 : Int) <= (k : Int):=by omega
       go_wp2
       go_quiet (fail)
       go_wp2
       go_roundw
       case rel=>exact ⟨k + 1,by omega,by go_num,below_drewN HBk.out _⟩
       case measure=>simp [intOf];omega
     · obtain rfl : k = fs.length:=by omega
       clear d3 e3
       go_wp2
       go_roundw
       case rel=>exact ⟨i + 1,by omega,by go_num,HBk.out⟩
       case measure=>simp [intOf];omega
  · obtain rfl : i = xs.length:=by omega
    go_wp2
    go_ret
    exact ⟨rfl,HBr.out⟩
end LW
namespace FW
open Go.RowKit
structure FitS (s : FM.Sp) : Prop where
 areas : AW.AllFit s.areas
 pages : M.Short s.pages.length
 page : ∀ k,k < s.pages.length -> M.I64 (FM.pgAt s.pages k).page /\ M.Short (FM.pgAt s.pages k).data.size
theorem isSl {w : World} {v : Value} {l : List AM.Ar} (h : AW.Has w v l) : ∃ ao n c,v = .slice ao n c:=by
 obtain ⟨ao,cap,h,_⟩:=h
 exact ⟨ao,_,cap,h⟩
end FW
end Go.Proofs.YtpgifpeohlllfaaGreat
