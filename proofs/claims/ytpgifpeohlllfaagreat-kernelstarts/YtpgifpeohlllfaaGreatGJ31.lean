import Derived.Test.YtpgifpeohlllfaaGreatGJ30
import Derived.Test.YtpgifpeohlllfaaGreatGJ21
import Derived.Test.YtpgifpeohlllfaaGreatGJ10
set_option maxHeartbeats 20000000
set_option linter.unusedVariables false
set_option maxRecDepth 100000
set_option linter.unusedSimpArgs false
namespace Go.Proofs.YtpgifpeohlllfaaGreat
namespace KZ
open Go.RowKit GK KO
open FW (hideC add_below)
open KW (KAt HasK cellsK FitK)
open KY (CopyK OutC)
theorem n1 (V : World) (A : Obj) (c : Array Value) (t : TypeId) : ((V.alloc A).alloc (.cells c t)).heap[V.heap.size + 1]? = some (.cells c t (0,0)):=by
 have:=B.new (V.alloc A) c t
 rw [World.size_alloc] at this
 exact this
set_option maxHeartbeats 16000000 in
theorem new_any (hcp : CopyK) (l : List AM.Ar) (hs : List LM.Sh) (en nf ns : Int) (va : Value) (ao : Option Addr) (cap : Nat) (w : World) (ha : AW.Has w va l) (hf : AW.AllFit l) (h : LM.HasH w ao hs) (hfs : LM.FitHs hs) (hcap : hs.length <= cap) (he : M.I64 en) :
  Calls Tryz.prog 18 #[.agg #[va,.slice ao hs.length cap,.int .i64 en],.int .i64 nf,.int .i64 ns] w (OutKn w (newA l hs en nf ns).1 [.int .i64 (newA l hs en nf ns).2]):=by
 obtain ⟨aa,ca,hva,_⟩:=id ha
 subst hva
 obtain ⟨WA,hWA⟩ : ∃ WA,WA = (w.alloc (.cells #[.slice aa l.length ca,.slice ao hs.length cap,.int .i64 en] 30)).alloc (.cells #[.slice none 0 0,.slice none 0 0,.slice none 0 0,.slice none 0 0,.int .i64 0] 27):=⟨_,rfl⟩
 have hb0 : Below w.heap.size w WA:=by rw [hWA];exact ((Below.refl _ _).alloc (Nat.le_refl _) _).alloc (by simp) _
 have kb : WA.heap[w.heap.size]? = some (.cells #[.slice aa l.length ca,.slice ao hs.length cap,.int .i64 en] 30 (0,0)):=by rw [hWA];exact B.alloc (B.new w _ _) _
 have rb : WA.heap[w.heap.size + 1]? = some (.cells #[.slice none 0 0,.slice none 0 0,.slice none 0 0,.slice none 0 0,.int .i64 0] 27 (0,0)):=by rw [hWA];exact n1 _ _ _ _
 have RB : Hid (∀ V,Below WA.heap.size WA V -> V.heap[w.heap.size + 1]? = some (.cells #[.slice none 0 0,.slice none 0 0,.slice none 0 0,.slice none 0 0,.int .i64 0] 27 (0,0))):=fun V hb=>B.below rb hb (B.isLt rb)
 have KB : Hid (∀ V,Below WA.heap.size WA V -> V.heap[w.heap.size]? = some (.cells #[.slice aa l.length ca,.slice ao hs.length cap,.int .i64 en] 30 (0,0))):=fun V hb=>B.below kb hb (B.isLt kb)
 have k0 : WA.cell? ⟨w.heap.size,0,none⟩ = some (.slice aa l.length ca):=B.cell kb 0 rfl
 have k1 : WA.cell? ⟨w.heap.size,1,none⟩ = some (.slice ao hs.length cap):=B.cell kb 1 rfl
 have k2 : WA.cell? ⟨w.heap.size,2,none⟩ = some (.int .i64 en):=B.cell kb 2 rfl
 have HWA:=hideC hWA
 have HB0:=hideC hb0
 have hrl:=B.isLt rb
 have HCK:=hideC (LW.check_any l hs en (.slice aa l.length ca) ao cap WA (ha.below hb0) hf (h.below hb0) hfs hcap he)
 have HTT : Hid (∀ V,Below WA.heap.size WA V -> Calls Tryz.prog 54 #[.slice aa l.length ca] V fun e w'=>e = .returned (.int .i64 (AM.totalN l)) /\ Below V.heap.size V w'):=fun V hV=>AW.total_any l _ V (ha.below (hb0.trans (hV.mono hb0.size))) hf
 have HRT : Hid (∀ (V : World) (C : Int),Below w.heap.size w V -> OutKn w kn0 [.int .i64 C] (.returned (.tuple #[.agg #[.slice none 0 0,.slice none 0 0,.slice none 0 0,.slice none 0 0,.int .i64 0],.int .i64 C])) V):=fun V C hV=>out_none _ hV
 unfold newA
 by_cases c : LM.checkL l hs en = 0
 · rw [if_neg (fun x=>x c)]
   have HCP : LM.checkL l hs en = 0 -> 3 <= nf -> nf <= 64 -> 0 <= ns -> ns <= 512 -> Hid (∀ (W : World) fb sb pb,Below WA.heap.size WA W -> W.heap[fb]? = some (.cells (zf nf.toNat) 40 (0,0)) -> W.heap[sb]? = some (.cells (zl ns.toNat) 86 (0,0)) -> W.heap[pb]? = some (.cells #[.bool true,.slice aa l.length ca,.slice none 0 0] 43 (0,0)) -> Calls Tryz.prog 55 #[.agg #[.slice ao hs.length cap,.slice (some ⟨fb,0,none⟩) nf.toNat nf.toNat,.slice (some ⟨sb,0,none⟩) ns.toNat ns.toNat,.slice (some ⟨pb,0,none⟩) 1 1,.int .i64 0]] W fun e w'=>∃ aS nS cS aF nF cF aL nL cL aP nP cP,e = .returned (.agg #[.slice aS nS cS,.slice aF nF cF,.slice aL nL cL,.slice aP nP cP,.int .i64 0]) /\ Below WA.heap.size WA w' /\ w'.heap[w.heap.size + 1]? = some (.cells #[.slice none 0 0,.slice none 0 0,.slice none 0 0,.slice none 0 0,.int .i64 0] 27 (0,0)) /\ ∀ U,Kp (fun b=>b = w.heap.size + 1) w' U -> OutKn w (newK l hs nf ns) [.int .i64 0] (.returned (.tuple #[.agg #[.slice aS nS cS,.slice aF nF cF,.slice aL nL cL,.slice aP nP cP,.int .i64 0],.int .i64 0])) U):=fun hc h3 h64 h0 h512 W fb sb pb hW g1 g2 g3=>by
    have hbw : Below w.heap.size w W:=hb0.trans (hW.mono hb0.size)
    have hk:=has_new (cap:=cap) (ha.below hbw) (h.below hbw) g1 g2 g3
    have hcl:=hcp _ _ W hk (new_small hc nf.toNat ns.toNat (by omega) (by omega))
    unfold cellsK at hcl
    simp only [List.length_replicate,List.length_singleton] at hcl
    refine hcl.mono fun e w' ⟨S,hs',hsame,e1,hr,hb⟩=>?_
    obtain ⟨aS,nS,cS,eS⟩ : ∃ b n d,S.vS = .slice b n d:=by obtain ⟨b,d,e,_⟩:=row_form hr.sheets;exact ⟨b,_,d,e⟩
    obtain ⟨aF,nF,cF,eF⟩ : ∃ b n d,S.vF = .slice b n d:=by obtain ⟨b,d,e,_⟩:=row_form hr.frames;exact ⟨b,_,d,e⟩
    obtain ⟨aL,nL,cL,eL⟩ : ∃ b n d,S.vL = .slice b n d:=by obtain ⟨b,d,e,_⟩:=row_form hr.slots;exact ⟨b,_,d,e⟩
    obtain ⟨aP,nP,cP,eP⟩ : ∃ b n d,S.vP = .slice b n d:=by obtain ⟨b,d,e,_⟩:=row_form hr.spaces;exact ⟨b,_,d,e⟩
    rw [eS,eF,eL,eP] at e1
    have hbl : Below WA.heap.size WA w':=hW.trans (hb.mono hW.size)
    have hbw' : Below w.heap.size w w':=hb0.trans (hbl.mono hb0.size)
    have hWz:=hW.size
    refine ⟨aS,nS,cS,aF,nF,cF,aL,nL,cL,aP,nP,cP,e1,hbl,RB.out _ hbl,fun U hU=>⟨S,hs',hsame,by rw [eS,eF,eL,eP];rfl,(hr.kp hU (fun b hb e=>by have:=(hr.bnd b hb).1;omega)).mono hbw.size,Kp.below hbw' hU hbw'.size (fun b e=>by omega)⟩⟩
   have HCPc:=HCP c
   rw [c] at HCK
   clear HCP ha hf h hfs he hcap hb0 kb rb hWA
   by_cases c3 : nf < 3
   · rw [if_pos c3]
     have HFIN:=hideC (fun V (h : Below w.heap.size w V)=>HRT.out V 9 h)
     obtain ⟨P,hP⟩ : ∃ P,P = OutKn w kn0 [.int .i64 9]:=⟨_,rfl⟩
     show Calls _ _ _ _ (OutKn w kn0 [.int .i64 9])
     rw [<- hP] at HFIN ⊢
     clear hP HRT HCPc c HTT
     go_enter Tryz.func18,Tryz.ntmps18
     go_upto_region 1 with fail
     rw [<- HWA.out]
     go_upto_region 5 with (go_at_call 53;refine HCK.out.mono ?_;rintro e w1 ⟨rfl,hb1⟩;have HB1:=hideC hb1;have HB4:=hideC (HB0.out.trans (hb1.mono HB0.out.size));have R1:=hideC (RB.out _ hb1);obtain ⟨j0,j1,j2⟩:=B.c3 (KB.out _ hb1);clear hb1)
     obtain ⟨y0,y1,y2,y3,y4⟩:=B.c5 R1.out
     have f0:=B.free R1.out 0
     have f1:=B.free R1.out 1
     have f2:=B.free R1.out 2
     have f3:=B.free R1.out 3
     have f4:=B.free R1.out 4
     have h5:=hideC (fun V=>ret5 R1.out (.slice none 0 0) (.slice none 0 0) (.slice none 0 0) (.slice none 0 0) (.int .i64 0) (V:=V))
     go_wp2
     obtain ⟨r1,r2⟩:=h5.out _ rfl
     obtain ⟨y0,y1,y2,y3,y4⟩:=B.c5 r1
     refine bodyPost_ret (v:=.tuple #[.agg #[.slice none 0 0,.slice none 0 0,.slice none 0 0,.slice none 0 0,.int .i64 0],.int .i64 9]) (by simp [results,Tryz.results18,go_sem,y0,y1,y2,y3,y4]) rfl ?_
     exact HFIN.out _ (Kp.below HB4.out r2 HB4.out.size (fun b e=>by omega))
   rw [if_neg c3]
   by_cases cr : nf > 64 ∨ ns < 0 ∨ ns > 512
   · rw [if_pos cr]
     rcases (show 64 < nf ∨ (¬ 64 < nf /\ ns < 0) ∨ (¬ 64 < nf /\ ¬ ns < 0 /\ 512 < ns) by omega) with g1 | ⟨g1,g2⟩ | ⟨g1,g2,g3⟩
     all_goals
      clear cr
      have HFIN:=hideC (fun V (h : Below w.heap.size w V)=>HRT.out V 3 h)
      obtain ⟨P,hP⟩ : ∃ P,P = OutKn w kn0 [.int .i64 3]:=⟨_,rfl⟩
      show Calls _ _ _ _ (OutKn w kn0 [.int .i64 3])
      rw [<- hP] at HFIN ⊢
      clear hP HRT HCPc c HTT
      go_enter Tryz.func18,Tryz.ntmps18
      go_upto_region 1 with fail
      rw [<- HWA.out]
      go_upto_region 7 with (go_at_call 53;refine HCK.out.mono ?_;rintro e w1 ⟨rfl,hb1⟩;have HB1:=hideC hb1;have HB4:=hideC (HB0.out.trans (hb1.mono HB0.out.size));have R1:=hideC (RB.out _ hb1);obtain ⟨j0,j1,j2⟩:=B.c3 (KB.out _ hb1);clear hb1)
      obtain ⟨y0,y1,y2,y3,y4⟩:=B.c5 R1.out
      have f0:=B.free R1.out 0
      have f1:=B.free R1.out 1
      have f2:=B.free R1.out 2
      have f3:=B.free R1.out 3
      have f4:=B.free R1.out 4
      have h5:=hideC (fun V=>ret5 R1.out (.slice none 0 0) (.slice none 0 0) (.slice none 0 0) (.slice none 0 0) (.int .i64 0) (V:=V))
      go_wp2
      obtain ⟨r1,r2⟩:=h5.out _ rfl
      obtain ⟨y0,y1,y2,y3,y4⟩:=B.c5 r1
      refine bodyPost_ret (v:=.tuple #[.agg #[.slice none 0 0,.slice none 0 0,.slice none 0 0,.slice none 0 0,.int .i64 0],.int .i64 3]) (by simp [results,Tryz.results18,go_sem,y0,y1,y2,y3,y4]) rfl ?_
      exact HFIN.out _ (Kp.below HB4.out r2 HB4.out.size (fun b e=>by omega))
   rw [if_neg cr]
   have g1 : ¬ 64 < nf:=by omega
   have g2 : ¬ ns < 0:=by omega
   have g3 : ¬ 512 < ns:=by omega
   have HNC:=HCPc (by omega) (by omega) (by omega) (by omega)
   have e2:=fun V : World=>mkF V nf (by omega) (by omega)
   have e3:=fun V : World=>mkL V ns (by omega) (by omega)
   clear cr HCPc c
   have htb:=KW.total_bd l
   obtain ⟨T1,hT1⟩ : ∃ T1,T1 = AM.totalN l:=⟨_,rfl⟩
   rw [<- hT1] at HTT htb ⊢
   clear hT1
   by_cases ct : T1 > ns
   · rw [if_pos ct]
     have c2 : ns < T1:=ct
     have HFIN:=hideC (fun V (h : Below w.heap.size w V)=>HRT.out V 8 h)
     obtain ⟨P,hP⟩ : ∃ P,P = OutKn w kn0 [.int .i64 8]:=⟨_,rfl⟩
     show Calls _ _ _ _ (OutKn w kn0 [.int .i64 8])
     rw [<- hP] at HFIN ⊢
     clear hP HRT HNC e2 e3 ct
     go_enter Tryz.func18,Tryz.ntmps18
     go_upto_region 1 with fail
     rw [<- HWA.out]
     go_upto_region 9 with (first
      | (go_at_call 53;refine HCK.out.mono ?_;rintro e w1 ⟨rfl,hb1⟩;have HB1:=hideC hb1;have HB4:=hideC (HB0.out.trans (hb1.mono HB0.out.size));have R1:=hideC (RB.out _ hb1);obtain ⟨j0,j1,j2⟩:=B.c3 (KB.out _ hb1);clear hb1)
      | (go_at_call 54;refine (HTT.out _ HB1.out).mono ?_;rintro e w2 ⟨rfl,hb2⟩;have hb3:=HB1.out.trans (hb2.mono HB1.out.size);have HB4:=hideC (HB0.out.trans (hb3.mono HB0.out.size));have R1:=hideC (RB.out _ hb3);clear hb2 hb3))
     obtain ⟨y0,y1,y2,y3,y4⟩:=B.c5 R1.out
     have f0:=B.free R1.out 0
     have f1:=B.free R1.out 1
     have f2:=B.free R1.out 2
     have f3:=B.free R1.out 3
     have f4:=B.free R1.out 4
     have h5:=hideC (fun V=>ret5 R1.out (.slice none 0 0) (.slice none 0 0) (.slice none 0 0) (.slice none 0 0) (.int .i64 0) (V:=V))
     go_wp2
     obtain ⟨r1,r2⟩:=h5.out _ rfl
     obtain ⟨y0,y1,y2,y3,y4⟩:=B.c5 r1
     refine bodyPost_ret (v:=.tuple #[.agg #[.slice none 0 0,.slice none 0 0,.slice none 0 0,.slice none 0 0,.int .i64 0],.int .i64 8]) (by simp [results,Tryz.results18,go_sem,y0,y1,y2,y3,y4]) rfl ?_
     exact HFIN.out _ (Kp.below HB4.out r2 HB4.out.size (fun b e=>by omega))
   rw [if_neg ct]
   have c2 : ¬ ns < T1:=ct
   obtain ⟨P,hP⟩ : ∃ P,P = OutKn w (newK l hs nf ns) [.int .i64 0]:=⟨_,rfl⟩
   show Calls _ _ _ _ (OutKn w (newK l hs nf ns) [.int .i64 0])
   rw [<- hP] at HNC ⊢
   obtain ⟨NF,hNF⟩ : ∃ NF,NF = nf.toNat:=⟨_,rfl⟩
   obtain ⟨NS,hNS⟩ : ∃ NS,NS = ns.toNat:=⟨_,rfl⟩
   rw [<- hNF] at HNC
   rw [<- hNS] at HNC
   simp only [<- hNF] at e2
   simp only [<- hNS] at e3
   clear hP hNF hNS HRT ct
   go_enter Tryz.func18,Tryz.ntmps18
   go_upto_region 1 with fail
   rw [<- HWA.out]
   go_upto_region 10 with (first
    | (go_at_call 53;refine HCK.out.mono ?_;rintro e w1 ⟨rfl,hb1⟩;have HB1:=hideC hb1;obtain ⟨j0,j1,j2⟩:=B.c3 (KB.out _ hb1);clear hb1)
    | (go_at_call 54;refine (HTT.out _ HB1.out).mono ?_;rintro e w2 ⟨rfl,hb2⟩;have HB2:=hideC (HB1.out.trans (hb2.mono HB1.out.size));clear hb2))
   clear j0 j1 j2 HCK HTT
   have HCC : Hid (∀ V,Below WA.heap.size WA V -> V.cell? ⟨w.heap.size,0,none⟩ = some (.slice aa l.length ca) /\ V.cell? ⟨w.heap.size,1,none⟩ = some (.slice ao hs.length cap)):=fun V hV=>⟨B.cell (KB.out _ hV) 0 rfl,B.cell (KB.out _ hV) 1 rfl⟩
   refine GZ.begin_ (S:=fun V=>V.cell? ⟨w.heap.size,0,none⟩ = some (.slice aa l.length ca) /\ V.cell? ⟨w.heap.size,1,none⟩ = some (.slice ao hs.length cap)) (z:=13) (by kernel_rfl) ?_
   have HS0:=hideC (HB2.out.drew)
   obtain ⟨V0,hV0⟩ : ∃ V0,V0 = w2.drew:=⟨_,rfl⟩
   rw [<- hV0] at HS0 ⊢
   clear hV0
   refine GZ.tk 0 (HCC.out _ HS0.out) ?_ ?_ ?_
   rotate_left 1
   · intro V h
     obtain ⟨k0,k1⟩:=h
     go_simp
     try with_reducible rfl
   refine GZ.tk 1 (HCC.out _ HS0.out) ?_ ?_ ?_
   rotate_left 1
   · intro V h
     obtain ⟨k0,k1⟩:=h
     go_simp
     try with_reducible rfl
   refine GZ.tk 2 (HCC.out _ HS0.out) ?_ ?_ ?_
   rotate_left 1
   · intro V h
     obtain ⟨k0,k1⟩:=h
     go_simp
     try with_reducible rfl
   refine GZ.tk 4 (HCC.out _ HS0.out) ?_ ?_ ?_
   rotate_left 1
   · intro V h
     obtain ⟨k0,k1⟩:=h
     go_simp
     try with_reducible rfl
   refine GZ.tk 6 (HCC.out _ HS0.out) ?_ ?_ ?_
   rotate_left 1
   · intro V h
     obtain ⟨k0,k1⟩:=h
     go_simp
     try with_reducible rfl
   refine GZ.tk 7 (HCC.out _ HS0.out) ?_ ?_ ?_
   rotate_left 1
   · intro V h
     obtain ⟨k0,k1⟩:=h
     go_simp
     try with_reducible rfl
   refine GZ.tk 8 (HCC.out _ HS0.out) ?_ ?_ ?_
   rotate_left 1
   · intro V h
     obtain ⟨k0,k1⟩:=h
     go_simp
     try with_reducible rfl
   refine GZ.all (rs:=[3,5,9]) (by kernel_rfl) (by simp) ?_
   refine GZ.AllZ.cons rfl (fun K hK=>?_) (GZ.AllZ.cons rfl (fun K hK=>?_) (GZ.AllZ.cons rfl (fun K hK=>?_) GZ.AllZ.nil))
   · go_simp
     refine hK.out _ _ (fun _=>?_) ?_
     · exact HCC.out _ (HS0.out.alloc HS0.out.size _)
     clear hK K
     have HS1:=hideC (HS0.out.alloc HS0.out.size (.cells (zf NF) 40))
     have BF:=hideC (B.new V0 (zf NF) 40)
     obtain ⟨V1,hV1⟩ : ∃ V1,V1 = V0.alloc (.cells (zf NF) 40):=⟨_,rfl⟩
     obtain ⟨bF,hbF⟩ : ∃ bF,bF = V0.heap.size:=⟨_,rfl⟩
     rw [<- hV1] at HS1 BF ⊢
     rw [<- hbF] at BF ⊢
     clear hV1 hbF
     try simp only [Act.put,List.setIfInBounds_toArray,List.set_cons_zero,List.set_cons_succ]
     refine GZ.all (rs:=[5,9]) (by kernel_rfl) (by simp) ?_
     refine GZ.AllZ.cons rfl (fun K hK=>?_) (GZ.AllZ.cons rfl (fun K hK=>?_) GZ.AllZ.nil)
     · go_simp
       refine hK.out _ _ (fun _=>?_) ?_
       · exact HCC.out _ (HS1.out.alloc HS1.out.size _)
       clear hK K
       have HS2:=hideC (HS1.out.alloc HS1.out.size (.cells (zl NS) 86))
       have BF:=hideC (B.alloc BF.out (.cells (zl NS) 86))
       have BL:=hideC (B.new V1 (zl NS) 86)
       obtain ⟨V2,hV2⟩ : ∃ V2,V2 = V1.alloc (.cells (zl NS) 86):=⟨_,rfl⟩
       obtain ⟨bL,hbL⟩ : ∃ bL,bL = V1.heap.size:=⟨_,rfl⟩
       rw [<- hV2] at HS2 BF BL ⊢
       rw [<- hbL] at BL ⊢
       clear hV2 hbL
       try simp only [Act.put,List.setIfInBounds_toArray,List.set_cons_zero,List.set_cons_succ]
       refine GZ.all (rs:=[9]) (by kernel_rfl) (by simp) ?_
       refine GZ.AllZ.cons rfl (fun K hK=>?_) GZ.AllZ.nil
       go_simp
       refine hK.out _ _ (fun _=>?_) ?_
       · exact HCC.out _ (HS2.out.alloc HS2.out.size _)
       clear hK K
       have HS3:=hideC (HS2.out.alloc HS2.out.size (.cells #[.bool true,.slice aa l.length ca,.slice none 0 0] 43))
       have BF:=hideC (B.alloc BF.out (.cells #[.bool true,.slice aa l.length ca,.slice none 0 0] 43))
       have BL:=hideC (B.alloc BL.out (.cells #[.bool true,.slice aa l.length ca,.slice none 0 0] 43))
       have BP:=hideC (B.new V2 #[.bool true,.slice aa l.length ca,.slice none 0 0] 43)
       obtain ⟨V3,hV3⟩ : ∃ V3,V3 = V2.alloc (.cells #[.bool true,.slice aa l.length ca,.slice none 0 0] 43):=⟨_,rfl⟩
       obtain ⟨bP,hbP⟩ : ∃ bP,bP = V2.heap.size:=⟨_,rfl⟩
       rw [<- hV3] at HS3 BF BL BP ⊢
       rw [<- hbP] at BP ⊢
       clear hV3 hbP
       try simp only [Act.put,List.setIfInBounds_toArray,List.set_cons_zero,List.set_cons_succ]
       refine GZ.tk 10 (HCC.out _ HS3.out) ?_ ?_ ?_
       rotate_left 1
       · intro V h
         obtain ⟨k0,k1⟩:=h
         go_simp
         try with_reducible rfl
       refine GZ.all (rs:=[11]) (by kernel_rfl) (by simp) ?_
       refine GZ.AllZ.cons rfl (fun K hK=>?_) GZ.AllZ.nil
       rw [if_pos (by rfl)];go_simp;go_at_call 55;refine (HNC.out _ _ _ _ HS3.out BF.out BL.out BP.out).mono ?_;rintro e w6 ⟨aS,nS,cS,aF,nF,cF,aL,nL,cL,aP,nP,cP,rfl,hb6,hr6,hfin⟩;have HS6:=hideC hb6;have R6:=hideC hr6;have HFI:=hideC hfin;clear hb6 hr6 hfin;try go_simp
       refine hK.out _ _ (fun _=>?_) ?_
       · exact HCC.out _ HS6.out
       clear hK K
       try simp only [Act.put,List.setIfInBounds_toArray,List.set_cons_zero,List.set_cons_succ]
       obtain ⟨y0,y1,y2,y3,y4⟩:=B.c5 R6.out
       have f0:=B.free R6.out 0
       have f1:=B.free R6.out 1
       have f2:=B.free R6.out 2
       have f3:=B.free R6.out 3
       have f4:=B.free R6.out 4
       have h5:=hideC (fun V=>ret5 R6.out (.slice aS nS cS) (.slice aF nF cF) (.slice aL nL cL) (.slice aP nP cP) (.int .i64 0) (V:=V))
       refine GZ.all (rs:=[12]) (by kernel_rfl) (by simp) ?_
       refine GZ.AllZ.cons rfl (fun K hK=>?_) GZ.AllZ.nil
       go_simp
       obtain ⟨r1,r2⟩:=h5.out _ rfl
       refine hK.out _ _ (fun _=>?_) ?_
       · have:=r2.keep (KB.out _ HS6.out) (show ¬ w.heap.size = w.heap.size + 1 by omega)
         exact ⟨B.cell this 0 rfl,B.cell this 1 rfl⟩
       clear hK K
       try simp only [Act.put,List.setIfInBounds_toArray,List.set_cons_zero,List.set_cons_succ]
       refine GZ.all (rs:=[13]) (by kernel_rfl) (by simp) ?_
       refine GZ.AllZ.cons rfl (fun K hK=>?_) GZ.AllZ.nil
       go_simp
       refine hK.out _ _ (fun g=>absurd rfl g) ?_
       refine GZ.done (by kernel_rfl) ?_ _
       go_wp2
       obtain ⟨y0,y1,y2,y3,y4⟩:=B.c5 r1
       refine bodyPost_ret (v:=.tuple #[.agg #[.slice aS nS cS,.slice aF nF cF,.slice aL nL cL,.slice aP nP cP,.int .i64 0],.int .i64 0]) (by simp [results,Tryz.results18,go_sem,y0,y1,y2,y3,y4]) rfl ?_
       exact HFI.out _ r2
     · go_simp
       refine hK.out _ _ (fun _=>?_) ?_
       · exact HCC.out _ (HS1.out.alloc HS1.out.size _)
       clear hK K
       have HS2:=hideC (HS1.out.alloc HS1.out.size (.cells #[.bool true,.slice aa l.length ca,.slice none 0 0] 43))
       have BF:=hideC (B.alloc BF.out (.cells #[.bool true,.slice aa l.length ca,.slice none 0 0] 43))
       have BP:=hideC (B.new V1 #[.bool true,.slice aa l.length ca,.slice none 0 0] 43)
       obtain ⟨V2,hV2⟩ : ∃ V2,V2 = V1.alloc (.cells #[.bool true,.slice aa l.length ca,.slice none 0 0] 43):=⟨_,rfl⟩
       obtain ⟨bP,hbP⟩ : ∃ bP,bP = V1.heap.size:=⟨_,rfl⟩
       rw [<- hV2] at HS2 BF BP ⊢
       rw [<- hbP] at BP ⊢
       clear hV2 hbP
       try simp only [Act.put,List.setIfInBounds_toArray,List.set_cons_zero,List.set_cons_succ]
       refine GZ.all (rs:=[5]) (by kernel_rfl) (by simp) ?_
       refine GZ.AllZ.cons rfl (fun K hK=>?_) GZ.AllZ.nil
       go_simp
       refine hK.out _ _ (fun _=>?_) ?_
       · exact HCC.out _ (HS2.out.alloc HS2.out.size _)
       clear hK K
       have HS3:=hideC (HS2.out.alloc HS2.out.size (.cells (zl NS) 86))
       have BF:=hideC (B.alloc BF.out (.cells (zl NS) 86))
       have BP:=hideC (B.alloc BP.out (.cells (zl NS) 86))
       have BL:=hideC (B.new V2 (zl NS) 86)
       obtain ⟨V3,hV3⟩ : ∃ V3,V3 = V2.alloc (.cells (zl NS) 86):=⟨_,rfl⟩
       obtain ⟨bL,hbL⟩ : ∃ bL,bL = V2.heap.size:=⟨_,rfl⟩
       rw [<- hV3] at HS3 BF BP BL ⊢
       rw [<- hbL] at BL ⊢
       clear hV3 hbL
       try simp only [Act.put,List.setIfInBounds_toArray,List.set_cons_zero,List.set_cons_succ]
       refine GZ.tk 10 (HCC.out _ HS3.out) ?_ ?_ ?_
       rotate_left 1
       · intro V h
         obtain ⟨k0,k1⟩:=h
         go_simp
         try with_reducible rfl
       refine GZ.all (rs:=[11]) (by kernel_rfl) (by simp) ?_
       refine GZ.AllZ.cons rfl (fun K hK=>?_) GZ.AllZ.nil
       rw [if_pos (by rfl)];go_simp;go_at_call 55;refine (HNC.out _ _ _ _ HS3.out BF.out BL.out BP.out).mono ?_;rintro e w6 ⟨aS,nS,cS,aF,nF,cF,aL,nL,cL,aP,nP,cP,rfl,hb6,hr6,hfin⟩;have HS6:=hideC hb6;have R6:=hideC hr6;have HFI:=hideC hfin;clear hb6 hr6 hfin;try go_simp
       refine hK.out _ _ (fun _=>?_) ?_
       · exact HCC.out _ HS6.out
       clear hK K
       try simp only [Act.put,List.setIfInBounds_toArray,List.set_cons_zero,List.set_cons_succ]
       obtain ⟨y0,y1,y2,y3,y4⟩:=B.c5 R6.out
       have f0:=B.free R6.out 0
       have f1:=B.free R6.out 1
       have f2:=B.free R6.out 2
       have f3:=B.free R6.out 3
       have f4:=B.free R6.out 4
       have h5:=hideC (fun V=>ret5 R6.out (.slice aS nS cS) (.slice aF nF cF) (.slice aL nL cL) (.slice aP nP cP) (.int .i64 0) (V:=V))
       refine GZ.all (rs:=[12]) (by kernel_rfl) (by simp) ?_
       refine GZ.AllZ.cons rfl (fun K hK=>?_) GZ.AllZ.nil
       go_simp
       obtain ⟨r1,r2⟩:=h5.out _ rfl
       refine hK.out _ _ (fun _=>?_) ?_
       · have:=r2.keep (KB.out _ HS6.out) (show ¬ w.heap.size = w.heap.size + 1 by omega)
         exact ⟨B.cell this 0 rfl,B.cell this 1 rfl⟩
       clear hK K
       try simp only [Act.put,List.setIfInBounds_toArray,List.set_cons_zero,List.set_cons_succ]
       refine GZ.all (rs:=[13]) (by kernel_rfl) (by simp) ?_
       refine GZ.AllZ.cons rfl (fun K hK=>?_) GZ.AllZ.nil
       go_simp
       refine hK.out _ _ (fun g=>absurd rfl g) ?_
       refine GZ.done (by kernel_rfl) ?_ _
       go_wp2
       obtain ⟨y0,y1,y2,y3,y4⟩:=B.c5 r1
       refine bodyPost_ret (v:=.tuple #[.agg #[.slice aS nS cS,.slice aF nF cF,.slice aL nL cL,.slice aP nP cP,.int .i64 0],.int .i64 0]) (by simp [results,Tryz.results18,go_sem,y0,y1,y2,y3,y4]) rfl ?_
       exact HFI.out _ r2
   · go_simp
     refine hK.out _ _ (fun _=>?_) ?_
     · exact HCC.out _ (HS0.out.alloc HS0.out.size _)
     clear hK K
     have HS1:=hideC (HS0.out.alloc HS0.out.size (.cells (zl NS) 86))
     have BL:=hideC (B.new V0 (zl NS) 86)
     obtain ⟨V1,hV1⟩ : ∃ V1,V1 = V0.alloc (.cells (zl NS) 86):=⟨_,rfl⟩
     obtain ⟨bL,hbL⟩ : ∃ bL,bL = V0.heap.size:=⟨_,rfl⟩
     rw [<- hV1] at HS1 BL ⊢
     rw [<- hbL] at BL ⊢
     clear hV1 hbL
     try simp only [Act.put,List.setIfInBounds_toArray,List.set_cons_zero,List.set_cons_succ]
     refine GZ.all (rs:=[3,9]) (by kernel_rfl) (by simp) ?_
     refine GZ.AllZ.cons rfl (fun K hK=>?_) (GZ.AllZ.cons rfl (fun K hK=>?_) GZ.AllZ.nil)
     · go_simp
       refine hK.out _ _ (fun _=>?_) ?_
       · exact HCC.out _ (HS1.out.alloc HS1.out.size _)
       clear hK K
       have HS2:=hideC (HS1.out.alloc HS1.out.size (.cells (zf NF) 40))
       have BL:=hideC (B.alloc BL.out (.cells (zf NF) 40))
       have BF:=hideC (B.new V1 (zf NF) 40)
       obtain ⟨V2,hV2⟩ : ∃ V2,V2 = V1.alloc (.cells (zf NF) 40):=⟨_,rfl⟩
       obtain ⟨bF,hbF⟩ : ∃ bF,bF = V1.heap.size:=⟨_,rfl⟩
       rw [<- hV2] at HS2 BL BF ⊢
       rw [<- hbF] at BF ⊢
       clear hV2 hbF
       try simp only [Act.put,List.setIfInBounds_toArray,List.set_cons_zero,List.set_cons_succ]
       refine GZ.all (rs:=[9]) (by kernel_rfl) (by simp) ?_
       refine GZ.AllZ.cons rfl (fun K hK=>?_) GZ.AllZ.nil
       go_simp
       refine hK.out _ _ (fun _=>?_) ?_
       · exact HCC.out _ (HS2.out.alloc HS2.out.size _)
       clear hK K
       have HS3:=hideC (HS2.out.alloc HS2.out.size (.cells #[.bool true,.slice aa l.length ca,.slice none 0 0] 43))
       have BL:=hideC (B.alloc BL.out (.cells #[.bool true,.slice aa l.length ca,.slice none 0 0] 43))
       have BF:=hideC (B.alloc BF.out (.cells #[.bool true,.slice aa l.length ca,.slice none 0 0] 43))
       have BP:=hideC (B.new V2 #[.bool true,.slice aa l.length ca,.slice none 0 0] 43)
       obtain ⟨V3,hV3⟩ : ∃ V3,V3 = V2.alloc (.cells #[.bool true,.slice aa l.length ca,.slice none 0 0] 43):=⟨_,rfl⟩
       obtain ⟨bP,hbP⟩ : ∃ bP,bP = V2.heap.size:=⟨_,rfl⟩
       rw [<- hV3] at HS3 BL BF BP ⊢
       rw [<- hbP] at BP ⊢
       clear hV3 hbP
       try simp only [Act.put,List.setIfInBounds_toArray,List.set_cons_zero,List.set_cons_succ]
       refine GZ.tk 10 (HCC.out _ HS3.out) ?_ ?_ ?_
       rotate_left 1
       · intro V h
         obtain ⟨k0,k1⟩:=h
         go_simp
         try with_reducible rfl
       refine GZ.all (rs:=[11]) (by kernel_rfl) (by simp) ?_
       refine GZ.AllZ.cons rfl (fun K hK=>?_) GZ.AllZ.nil
       rw [if_pos (by rfl)];go_simp;go_at_call 55;refine (HNC.out _ _ _ _ HS3.out BF.out BL.out BP.out).mono ?_;rintro e w6 ⟨aS,nS,cS,aF,nF,cF,aL,nL,cL,aP,nP,cP,rfl,hb6,hr6,hfin⟩;have HS6:=hideC hb6;have R6:=hideC hr6;have HFI:=hideC hfin;clear hb6 hr6 hfin;try go_simp
       refine hK.out _ _ (fun _=>?_) ?_
       · exact HCC.out _ HS6.out
       clear hK K
       try simp only [Act.put,List.setIfInBounds_toArray,List.set_cons_zero,List.set_cons_succ]
       obtain ⟨y0,y1,y2,y3,y4⟩:=B.c5 R6.out
       have f0:=B.free R6.out 0
       have f1:=B.free R6.out 1
       have f2:=B.free R6.out 2
       have f3:=B.free R6.out 3
       have f4:=B.free R6.out 4
       have h5:=hideC (fun V=>ret5 R6.out (.slice aS nS cS) (.slice aF nF cF) (.slice aL nL cL) (.slice aP nP cP) (.int .i64 0) (V:=V))
       refine GZ.all (rs:=[12]) (by kernel_rfl) (by simp) ?_
       refine GZ.AllZ.cons rfl (fun K hK=>?_) GZ.AllZ.nil
       go_simp
       obtain ⟨r1,r2⟩:=h5.out _ rfl
       refine hK.out _ _ (fun _=>?_) ?_
       · have:=r2.keep (KB.out _ HS6.out) (show ¬ w.heap.size = w.heap.size + 1 by omega)
         exact ⟨B.cell this 0 rfl,B.cell this 1 rfl⟩
       clear hK K
       try simp only [Act.put,List.setIfInBounds_toArray,List.set_cons_zero,List.set_cons_succ]
       refine GZ.all (rs:=[13]) (by kernel_rfl) (by simp) ?_
       refine GZ.AllZ.cons rfl (fun K hK=>?_) GZ.AllZ.nil
       go_simp
       refine hK.out _ _ (fun g=>absurd rfl g) ?_
       refine GZ.done (by kernel_rfl) ?_ _
       go_wp2
       obtain ⟨y0,y1,y2,y3,y4⟩:=B.c5 r1
       refine bodyPost_ret (v:=.tuple #[.agg #[.slice aS nS cS,.slice aF nF cF,.slice aL nL cL,.slice aP nP cP,.int .i64 0],.int .i64 0]) (by simp [results,Tryz.results18,go_sem,y0,y1,y2,y3,y4]) rfl ?_
       exact HFI.out _ r2
     · go_simp
       refine hK.out _ _ (fun _=>?_) ?_
       · exact HCC.out _ (HS1.out.alloc HS1.out.size _)
       clear hK K
       have HS2:=hideC (HS1.out.alloc HS1.out.size (.cells #[.bool true,.slice aa l.length ca,.slice none 0 0] 43))
       have BL:=hideC (B.alloc BL.out (.cells #[.bool true,.slice aa l.length ca,.slice none 0 0] 43))
       have BP:=hideC (B.new V1 #[.bool true,.slice aa l.length ca,.slice none 0 0] 43)
       obtain ⟨V2,hV2⟩ : ∃ V2,V2 = V1.alloc (.cells #[.bool true,.slice aa l.length ca,.slice none 0 0] 43):=⟨_,rfl⟩
       obtain ⟨bP,hbP⟩ : ∃ bP,bP = V1.heap.size:=⟨_,rfl⟩
       rw [<- hV2] at HS2 BL BP ⊢
       rw [<- hbP] at BP ⊢
       clear hV2 hbP
       try simp only [Act.put,List.setIfInBounds_toArray,List.set_cons_zero,List.set_cons_succ]
       refine GZ.all (rs:=[3]) (by kernel_rfl) (by simp) ?_
       refine GZ.AllZ.cons rfl (fun K hK=>?_) GZ.AllZ.nil
       go_simp
       refine hK.out _ _ (fun _=>?_) ?_
       · exact HCC.out _ (HS2.out.alloc HS2.out.size _)
       clear hK K
       have HS3:=hideC (HS2.out.alloc HS2.out.size (.cells (zf NF) 40))
       have BL:=hideC (B.alloc BL.out (.cells (zf NF) 40))
       have BP:=hideC (B.alloc BP.out (.cells (zf NF) 40))
       have BF:=hideC (B.new V2 (zf NF) 40)
       obtain ⟨V3,hV3⟩ : ∃ V3,V3 = V2.alloc (.cells (zf NF) 40):=⟨_,rfl⟩
       obtain ⟨bF,hbF⟩ : ∃ bF,bF = V2.heap.size:=⟨_,rfl⟩
       rw [<- hV3] at HS3 BL BP BF ⊢
       rw [<- hbF] at BF ⊢
       clear hV3 hbF
       try simp only [Act.put,List.setIfInBounds_toArray,List.set_cons_zero,List.set_cons_succ]
       refine GZ.tk 10 (HCC.out _ HS3.out) ?_ ?_ ?_
       rotate_left 1
       · intro V h
         obtain ⟨k0,k1⟩:=h
         go_simp
         try with_reducible rfl
       refine GZ.all (rs:=[11]) (by kernel_rfl) (by simp) ?_
       refine GZ.AllZ.cons rfl (fun K hK=>?_) GZ.AllZ.nil
       rw [if_pos (by rfl)];go_simp;go_at_call 55;refine (HNC.out _ _ _ _ HS3.out BF.out BL.out BP.out).mono ?_;rintro e w6 ⟨aS,nS,cS,aF,nF,cF,aL,nL,cL,aP,nP,cP,rfl,hb6,hr6,hfin⟩;have HS6:=hideC hb6;have R6:=hideC hr6;have HFI:=hideC hfin;clear hb6 hr6 hfin;try go_simp
       refine hK.out _ _ (fun _=>?_) ?_
       · exact HCC.out _ HS6.out
       clear hK K
       try simp only [Act.put,List.setIfInBounds_toArray,List.set_cons_zero,List.set_cons_succ]
       obtain ⟨y0,y1,y2,y3,y4⟩:=B.c5 R6.out
       have f0:=B.free R6.out 0
       have f1:=B.free R6.out 1
       have f2:=B.free R6.out 2
       have f3:=B.free R6.out 3
       have f4:=B.free R6.out 4
       have h5:=hideC (fun V=>ret5 R6.out (.slice aS nS cS) (.slice aF nF cF) (.slice aL nL cL) (.slice aP nP cP) (.int .i64 0) (V:=V))
       refine GZ.all (rs:=[12]) (by kernel_rfl) (by simp) ?_
       refine GZ.AllZ.cons rfl (fun K hK=>?_) GZ.AllZ.nil
       go_simp
       obtain ⟨r1,r2⟩:=h5.out _ rfl
       refine hK.out _ _ (fun _=>?_) ?_
       · have:=r2.keep (KB.out _ HS6.out) (show ¬ w.heap.size = w.heap.size + 1 by omega)
         exact ⟨B.cell this 0 rfl,B.cell this 1 rfl⟩
       clear hK K
       try simp only [Act.put,List.setIfInBounds_toArray,List.set_cons_zero,List.set_cons_succ]
       refine GZ.all (rs:=[13]) (by kernel_rfl) (by simp) ?_
       refine GZ.AllZ.cons rfl (fun K hK=>?_) GZ.AllZ.nil
       go_simp
       refine hK.out _ _ (fun g=>absurd rfl g) ?_
       refine GZ.done (by kernel_rfl) ?_ _
       go_wp2
       obtain ⟨y0,y1,y2,y3,y4⟩:=B.c5 r1
       refine bodyPost_ret (v:=.tuple #[.agg #[.slice aS nS cS,.slice aF nF cF,.slice aL nL cL,.slice aP nP cP,.int .i64 0],.int .i64 0]) (by simp [results,Tryz.results18,go_sem,y0,y1,y2,y3,y4]) rfl ?_
       exact HFI.out _ r2
   · go_simp
     refine hK.out _ _ (fun _=>?_) ?_
     · exact HCC.out _ (HS0.out.alloc HS0.out.size _)
     clear hK K
     have HS1:=hideC (HS0.out.alloc HS0.out.size (.cells #[.bool true,.slice aa l.length ca,.slice none 0 0] 43))
     have BP:=hideC (B.new V0 #[.bool true,.slice aa l.length ca,.slice none 0 0] 43)
     obtain ⟨V1,hV1⟩ : ∃ V1,V1 = V0.alloc (.cells #[.bool true,.slice aa l.length ca,.slice none 0 0] 43):=⟨_,rfl⟩
     obtain ⟨bP,hbP⟩ : ∃ bP,bP = V0.heap.size:=⟨_,rfl⟩
     rw [<- hV1] at HS1 BP ⊢
     rw [<- hbP] at BP ⊢
     clear hV1 hbP
     try simp only [Act.put,List.setIfInBounds_toArray,List.set_cons_zero,List.set_cons_succ]
     refine GZ.all (rs:=[3,5]) (by kernel_rfl) (by simp) ?_
     refine GZ.AllZ.cons rfl (fun K hK=>?_) (GZ.AllZ.cons rfl (fun K hK=>?_) GZ.AllZ.nil)
     · go_simp
       refine hK.out _ _ (fun _=>?_) ?_
       · exact HCC.out _ (HS1.out.alloc HS1.out.size _)
       clear hK K
       have HS2:=hideC (HS1.out.alloc HS1.out.size (.cells (zf NF) 40))
       have BP:=hideC (B.alloc BP.out (.cells (zf NF) 40))
       have BF:=hideC (B.new V1 (zf NF) 40)
       obtain ⟨V2,hV2⟩ : ∃ V2,V2 = V1.alloc (.cells (zf NF) 40):=⟨_,rfl⟩
       obtain ⟨bF,hbF⟩ : ∃ bF,bF = V1.heap.size:=⟨_,rfl⟩
       rw [<- hV2] at HS2 BP BF ⊢
       rw [<- hbF] at BF ⊢
       clear hV2 hbF
       try simp only [Act.put,List.setIfInBounds_toArray,List.set_cons_zero,List.set_cons_succ]
       refine GZ.all (rs:=[5]) (by kernel_rfl) (by simp) ?_
       refine GZ.AllZ.cons rfl (fun K hK=>?_) GZ.AllZ.nil
       go_simp
       refine hK.out _ _ (fun _=>?_) ?_
       · exact HCC.out _ (HS2.out.alloc HS2.out.size _)
       clear hK K
       have HS3:=hideC (HS2.out.alloc HS2.out.size (.cells (zl NS) 86))
       have BP:=hideC (B.alloc BP.out (.cells (zl NS) 86))
       have BF:=hideC (B.alloc BF.out (.cells (zl NS) 86))
       have BL:=hideC (B.new V2 (zl NS) 86)
       obtain ⟨V3,hV3⟩ : ∃ V3,V3 = V2.alloc (.cells (zl NS) 86):=⟨_,rfl⟩
       obtain ⟨bL,hbL⟩ : ∃ bL,bL = V2.heap.size:=⟨_,rfl⟩
       rw [<- hV3] at HS3 BP BF BL ⊢
       rw [<- hbL] at BL ⊢
       clear hV3 hbL
       try simp only [Act.put,List.setIfInBounds_toArray,List.set_cons_zero,List.set_cons_succ]
       refine GZ.tk 10 (HCC.out _ HS3.out) ?_ ?_ ?_
       rotate_left 1
       · intro V h
         obtain ⟨k0,k1⟩:=h
         go_simp
         try with_reducible rfl
       refine GZ.all (rs:=[11]) (by kernel_rfl) (by simp) ?_
       refine GZ.AllZ.cons rfl (fun K hK=>?_) GZ.AllZ.nil
       rw [if_pos (by rfl)];go_simp;go_at_call 55;refine (HNC.out _ _ _ _ HS3.out BF.out BL.out BP.out).mono ?_;rintro e w6 ⟨aS,nS,cS,aF,nF,cF,aL,nL,cL,aP,nP,cP,rfl,hb6,hr6,hfin⟩;have HS6:=hideC hb6;have R6:=hideC hr6;have HFI:=hideC hfin;clear hb6 hr6 hfin;try go_simp
       refine hK.out _ _ (fun _=>?_) ?_
       · exact HCC.out _ HS6.out
       clear hK K
       try simp only [Act.put,List.setIfInBounds_toArray,List.set_cons_zero,List.set_cons_succ]
       obtain ⟨y0,y1,y2,y3,y4⟩:=B.c5 R6.out
       have f0:=B.free R6.out 0
       have f1:=B.free R6.out 1
       have f2:=B.free R6.out 2
       have f3:=B.free R6.out 3
       have f4:=B.free R6.out 4
       have h5:=hideC (fun V=>ret5 R6.out (.slice aS nS cS) (.slice aF nF cF) (.slice aL nL cL) (.slice aP nP cP) (.int .i64 0) (V:=V))
       refine GZ.all (rs:=[12]) (by kernel_rfl) (by simp) ?_
       refine GZ.AllZ.cons rfl (fun K hK=>?_) GZ.AllZ.nil
       go_simp
       obtain ⟨r1,r2⟩:=h5.out _ rfl
       refine hK.out _ _ (fun _=>?_) ?_
       · have:=r2.keep (KB.out _ HS6.out) (show ¬ w.heap.size = w.heap.size + 1 by omega)
         exact ⟨B.cell this 0 rfl,B.cell this 1 rfl⟩
       clear hK K
       try simp only [Act.put,List.setIfInBounds_toArray,List.set_cons_zero,List.set_cons_succ]
       refine GZ.all (rs:=[13]) (by kernel_rfl) (by simp) ?_
       refine GZ.AllZ.cons rfl (fun K hK=>?_) GZ.AllZ.nil
       go_simp
       refine hK.out _ _ (fun g=>absurd rfl g) ?_
       refine GZ.done (by kernel_rfl) ?_ _
       go_wp2
       obtain ⟨y0,y1,y2,y3,y4⟩:=B.c5 r1
       refine bodyPost_ret (v:=.tuple #[.agg #[.slice aS nS cS,.slice aF nF cF,.slice aL nL cL,.slice aP nP cP,.int .i64 0],.int .i64 0]) (by simp [results,Tryz.results18,go_sem,y0,y1,y2,y3,y4]) rfl ?_
       exact HFI.out _ r2
     · go_simp
       refine hK.out _ _ (fun _=>?_) ?_
       · exact HCC.out _ (HS1.out.alloc HS1.out.size _)
       clear hK K
       have HS2:=hideC (HS1.out.alloc HS1.out.size (.cells (zl NS) 86))
       have BP:=hideC (B.alloc BP.out (.cells (zl NS) 86))
       have BL:=hideC (B.new V1 (zl NS) 86)
       obtain ⟨V2,hV2⟩ : ∃ V2,V2 = V1.alloc (.cells (zl NS) 86):=⟨_,rfl⟩
       obtain ⟨bL,hbL⟩ : ∃ bL,bL = V1.heap.size:=⟨_,rfl⟩
       rw [<- hV2] at HS2 BP BL ⊢
       rw [<- hbL] at BL ⊢
       clear hV2 hbL
       try simp only [Act.put,List.setIfInBounds_toArray,List.set_cons_zero,List.set_cons_succ]
       refine GZ.all (rs:=[3]) (by kernel_rfl) (by simp) ?_
       refine GZ.AllZ.cons rfl (fun K hK=>?_) GZ.AllZ.nil
       go_simp
       refine hK.out _ _ (fun _=>?_) ?_
       · exact HCC.out _ (HS2.out.alloc HS2.out.size _)
       clear hK K
       have HS3:=hideC (HS2.out.alloc HS2.out.size (.cells (zf NF) 40))
       have BP:=hideC (B.alloc BP.out (.cells (zf NF) 40))
       have BL:=hideC (B.alloc BL.out (.cells (zf NF) 40))
       have BF:=hideC (B.new V2 (zf NF) 40)
       obtain ⟨V3,hV3⟩ : ∃ V3,V3 = V2.alloc (.cells (zf NF) 40):=⟨_,rfl⟩
       obtain ⟨bF,hbF⟩ : ∃ bF,bF = V2.heap.size:=⟨_,rfl⟩
       rw [<- hV3] at HS3 BP BL BF ⊢
       rw [<- hbF] at BF ⊢
       clear hV3 hbF
       try simp only [Act.put,List.setIfInBounds_toArray,List.set_cons_zero,List.set_cons_succ]
       refine GZ.tk 10 (HCC.out _ HS3.out) ?_ ?_ ?_
       rotate_left 1
       · intro V h
         obtain ⟨k0,k1⟩:=h
         go_simp
         try with_reducible rfl
       refine GZ.all (rs:=[11]) (by kernel_rfl) (by simp) ?_
       refine GZ.AllZ.cons rfl (fun K hK=>?_) GZ.AllZ.nil
       rw [if_pos (by rfl)];go_simp;go_at_call 55;refine (HNC.out _ _ _ _ HS3.out BF.out BL.out BP.out).mono ?_;rintro e w6 ⟨aS,nS,cS,aF,nF,cF,aL,nL,cL,aP,nP,cP,rfl,hb6,hr6,hfin⟩;have HS6:=hideC hb6;have R6:=hideC hr6;have HFI:=hideC hfin;clear hb6 hr6 hfin;try go_simp
       refine hK.out _ _ (fun _=>?_) ?_
       · exact HCC.out _ HS6.out
       clear hK K
       try simp only [Act.put,List.setIfInBounds_toArray,List.set_cons_zero,List.set_cons_succ]
       obtain ⟨y0,y1,y2,y3,y4⟩:=B.c5 R6.out
       have f0:=B.free R6.out 0
       have f1:=B.free R6.out 1
       have f2:=B.free R6.out 2
       have f3:=B.free R6.out 3
       have f4:=B.free R6.out 4
       have h5:=hideC (fun V=>ret5 R6.out (.slice aS nS cS) (.slice aF nF cF) (.slice aL nL cL) (.slice aP nP cP) (.int .i64 0) (V:=V))
       refine GZ.all (rs:=[12]) (by kernel_rfl) (by simp) ?_
       refine GZ.AllZ.cons rfl (fun K hK=>?_) GZ.AllZ.nil
       go_simp
       obtain ⟨r1,r2⟩:=h5.out _ rfl
       refine hK.out _ _ (fun _=>?_) ?_
       · have:=r2.keep (KB.out _ HS6.out) (show ¬ w.heap.size = w.heap.size + 1 by omega)
         exact ⟨B.cell this 0 rfl,B.cell this 1 rfl⟩
       clear hK K
       try simp only [Act.put,List.setIfInBounds_toArray,List.set_cons_zero,List.set_cons_succ]
       refine GZ.all (rs:=[13]) (by kernel_rfl) (by simp) ?_
       refine GZ.AllZ.cons rfl (fun K hK=>?_) GZ.AllZ.nil
       go_simp
       refine hK.out _ _ (fun g=>absurd rfl g) ?_
       refine GZ.done (by kernel_rfl) ?_ _
       go_wp2
       obtain ⟨y0,y1,y2,y3,y4⟩:=B.c5 r1
       refine bodyPost_ret (v:=.tuple #[.agg #[.slice aS nS cS,.slice aF nF cF,.slice aL nL cL,.slice aP nP cP,.int .i64 0],.int .i64 0]) (by simp [results,Tryz.results18,go_sem,y0,y1,y2,y3,y4]) rfl ?_
       exact HFI.out _ r2
 · rw [if_pos c]
   obtain ⟨C,hC⟩ : ∃ C,C = LM.checkL l hs en:=⟨_,rfl⟩
   rw [<- hC] at HCK c ⊢
   have cb : (C != 0) = true:=by simpa using c
   have HFIN:=hideC (fun V (h : Below w.heap.size w V)=>HRT.out V C h)
   obtain ⟨P,hP⟩ : ∃ P,P = OutKn w kn0 [.int .i64 C]:=⟨_,rfl⟩
   show Calls _ _ _ _ (OutKn w kn0 [.int .i64 C])
   rw [<- hP] at HFIN ⊢
   clear ha hf h hfs he hcap hb0 kb rb hWA hC c hP HRT HTT
   go_enter Tryz.func18,Tryz.ntmps18
   go_upto_region 1 with fail
   rw [<- HWA.out]
   go_upto_region 3 with (go_at_call 53;refine HCK.out.mono ?_;rintro e w1 ⟨rfl,hb1⟩;have HB4:=hideC (HB0.out.trans (hb1.mono HB0.out.size));have R1:=hideC (RB.out _ hb1);clear hb1)
   obtain ⟨y0,y1,y2,y3,y4⟩:=B.c5 R1.out
   have f0:=B.free R1.out 0
   have f1:=B.free R1.out 1
   have f2:=B.free R1.out 2
   have f3:=B.free R1.out 3
   have f4:=B.free R1.out 4
   have h5:=hideC (fun V=>ret5 R1.out (.slice none 0 0) (.slice none 0 0) (.slice none 0 0) (.slice none 0 0) (.int .i64 0) (V:=V))
   go_wp2
   obtain ⟨r1,r2⟩:=h5.out _ rfl
   obtain ⟨y0,y1,y2,y3,y4⟩:=B.c5 r1
   refine bodyPost_ret (v:=.tuple #[.agg #[.slice none 0 0,.slice none 0 0,.slice none 0 0,.slice none 0 0,.int .i64 0],.int .i64 C]) (by simp [results,Tryz.results18,go_sem,y0,y1,y2,y3,y4]) rfl ?_
   exact HFIN.out _ (Kp.below HB4.out r2 HB4.out.size (fun b e=>by omega))
end KZ
end Go.Proofs.YtpgifpeohlllfaaGreat
