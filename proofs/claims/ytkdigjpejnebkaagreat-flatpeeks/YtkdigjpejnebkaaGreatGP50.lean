import Derived.Test.YtkdigjpejnebkaaGreatGP48
set_option linter.unusedVariables false
set_option maxRecDepth 100000
set_option linter.unusedSimpArgs false
namespace Go.Proofs.YtkdigjpejnebkaaGreat
namespace GH
open Go.RowKit GK
open GW (cellPr cellWd cellPr_len cellWd_len)
open FW (hideC add_below)
open GF (blk)
set_option maxHeartbeats 8000000 in
theorem changedR_any (f : FM.Fl) (r : Int × Option (GG.St GM.Mf)) (q : Nat) (az ar ao : Option Addr) (cs cr co : Nat) (w : World) (h : FW.HasFl w f az ar ao) (hf : FW.FitFl f) (hr : r.1 = 0 -> ∃ s,r.2 = some s)
  (hc : FM.checkF f = 0 -> ∀ (V : World) (lo mb gb : Nat) (D : Nat -> Prop) (vr vo : Value),Below w.heap.size w V -> w.heap.size <= lo -> GW.Grp (GF.HdF lo mb) lo mb gb V D vr vo (ofFl f) -> Calls Tryz.prog 58 #[.pointer (some ⟨gb,0,none⟩),.pointer (some ⟨q,0,none⟩)] V (GW.OutRun (GF.HdF lo mb) lo mb gb V D vr vo r)) :
  Calls Tryz.prog 44 #[.agg (FW.flCells f az ar ao cs cr co),.func (.func 58) #[] #[.pointer (some ⟨q,0,none⟩)]] w (OutFl w (changeF f r)) := by
 have HCK : Hid (∀ V,Below w.heap.size w V -> Calls Tryz.prog 12 #[.agg (FW.flCells f az ar ao cs cr co)] V fun e w' => e = .returned (.int .i64 (FM.checkF f)) /\ Below V.heap.size V w') := fun V hV => FW.check_any f az ar ao cs cr co V (h.below hV) hf
 have HNM : Hid (FM.checkF f = 0 -> ∀ V,Below w.heap.size w V -> Calls Tryz.prog 78 #[.agg (FW.flCells f az ar ao cs cr co)] V (GF.OutMem V f.slots f.spaces)) := fun hk V hV => by
  obtain ⟨c1,c2,c3,c4⟩ := counts_of hk
  obtain ⟨h1,h2⟩ := right_of hk
  unfold FM.rightSpaces at h1
  simp only [Bool.and_eq_true,decide_eq_true_eq,List.all_eq_true] at h1
  refine GF.newMemory_any f az ar ao cs cr co V (h.spaces.below hV) hf.spaces (by omega) (fun k hk => ?_)
  have hm : FM.spAt f.spaces k ∈ f.spaces := by
   unfold FM.spAt
   rw [List.getD_eq_getElem?_getD,List.getElem?_eq_getElem hk]
   exact List.getElem_mem hk
  have hrs := h1.1 _ hm
  cases hl : (FM.spAt f.spaces k).live with
  | true =>
   have hL := GM.liv_of hrs hl
   have := AM.good_len _ hL.check
   have := GM.total_len hL
   have := FW.total_bd (FM.spAt f.spaces k).areas
   omega
  | false =>
   unfold FM.rightSpace at hrs
   rw [hl] at hrs
   simp only [Bool.false_eq_true,if_false,Bool.and_eq_true,decide_eq_true_eq] at hrs
   omega
 have HPR : Hid (FM.checkF f = 0 -> ∀ V,Below w.heap.size w V -> Calls Tryz.prog 79 #[.slice ar f.procs.length cr] V fun e w' => ∃ a' c',e = .returned (.slice a' f.procs.length c') /\ w'.ownsRow V.heap.size 70 13 (.slice a' f.procs.length c') f.procs.length (f.procs.flatMap cellPr) /\ Below V.heap.size V w') := fun hk V hV => by
  obtain ⟨c1,c2,c3,c4⟩ := counts_of hk
  refine (clonePr ar f.procs.length cr (f.procs.flatMap cellPr) V (rows_length cellPr 13 cellPr_len _) ((pr_from h.procs).below hV) (pr_one _) (by omega)).mono ?_
  rintro e w' ⟨v,rfl,h1,h2⟩
  obtain ⟨a',c',rfl,_,_⟩ := row_form h1
  exact ⟨a',c',rfl,h1,h2⟩
 have HWD : Hid (FM.checkF f = 0 -> ∀ V,Below w.heap.size w V -> Calls Tryz.prog 80 #[.slice ao f.out.length co] V fun e w' => ∃ a' c',e = .returned (.slice a' f.out.length c') /\ w'.ownsRow V.heap.size 78 2 (.slice a' f.out.length c') f.out.length (f.out.flatMap cellWd) /\ Below V.heap.size V w') := fun hk V hV => by
  obtain ⟨c1,c2,c3,c4⟩ := counts_of hk
  refine (cloneWd ao f.out.length co (f.out.flatMap cellWd) V (rows_length cellWd 2 cellWd_len _) ((wd_from h.out).below hV) (wd_one _) (by omega)).mono ?_
  rintro e w' ⟨v,rfl,h1,h2⟩
  obtain ⟨a',c',rfl,_,_⟩ := row_form h1
  exact ⟨a',c',rfl,h1,h2⟩
 have HC := hideC hc
 have HR := hideC hr
 obtain ⟨ck,hck⟩ : ∃ ck,ck = FM.checkF f := ⟨_,rfl⟩
 have HCF : Hid (changeF f r = if ¬ ck = 0 then (fl0,ck) else if ¬ r.1 = 0 then (fl0,r.1) else match r.2 with | none => (fl0,r.1) | some s => (toFl s,0)) := by rw [hck];exact rfl
 rw [<- hck] at HCK HNM HPR HWD HC
 obtain ⟨R,hR⟩ : ∃ R,R = changeF f r := ⟨_,rfl⟩
 rw [<- hR] at HCF ⊢
 obtain ⟨P,hP⟩ : ∃ P,P = OutFl w R := ⟨_,rfl⟩
 have HP : Hid (∀ e w',OutFl w R e w' -> P e w') := fun e w' h => by rw [hP];exact h
 rw [<- hP]
 unfold FW.flCells at HCK HNM ⊢
 have HOF : Hid (ofFl f = ⟨⟨f.slots,f.spaces⟩,f.procs,f.out⟩) := rfl
 obtain ⟨ns,hns⟩ : ∃ ns,ns = f.spaces.length := ⟨_,rfl⟩
 obtain ⟨np,hnp⟩ : ∃ np,np = f.procs.length := ⟨_,rfl⟩
 obtain ⟨no,hno⟩ : ∃ no,no = f.out.length := ⟨_,rfl⟩
 obtain ⟨sl,hsl⟩ : ∃ sl,sl = f.slots := ⟨_,rfl⟩
 rw [<- hns,<- hnp,<- hno,<- hsl] at HCK HNM ⊢
 rw [<- hnp] at HPR
 rw [<- hno] at HWD
 have HNP := hideC hnp
 have HNO := hideC hno
 have HSL := hideC hsl
 have HBX := hideC (((Below.refl w.heap.size w).alloc (Nat.le_refl _) (.cells #[.int .i64 sl,.slice az ns cs,.slice ar np cr,.slice ao no co] 30)).alloc (by simp) (.cells #[.int .i64 0,.slice none 0 0,.slice none 0 0,.slice none 0 0] 30))
 have BX := hideC (B.alloc (B.new w #[.int .i64 sl,.slice az ns cs,.slice ar np cr,.slice ao no co] 30) (.cells #[.int .i64 0,.slice none 0 0,.slice none 0 0,.slice none 0 0] 30))
 have BZ := hideC (B.new (w.alloc (.cells #[.int .i64 sl,.slice az ns cs,.slice ar np cr,.slice ao no co] 30)) #[.int .i64 0,.slice none 0 0,.slice none 0 0,.slice none 0 0] 30)
 clear h hf hc hr hck hR hP hns hnp hno hsl
 go_enter Tryz.func44,Tryz.ntmps44
 go_wp2_with fail
 obtain ⟨WA,hWA⟩ : ∃ WA,WA = (w.alloc (.cells #[.int .i64 sl,.slice az ns cs,.slice ar np cr,.slice ao no co] 30)).alloc (.cells #[.int .i64 0,.slice none 0 0,.slice none 0 0,.slice none 0 0] 30) := ⟨_,rfl⟩
 have hsz1 : (w.alloc (.cells #[.int .i64 sl,.slice az ns cs,.slice ar np cr,.slice ao no co] 30)).heap.size = w.heap.size + 1 := by simp
 rw [hsz1] at BZ
 rw [<- hWA] at HBX BX BZ ⊢
 obtain ⟨x,hxe⟩ : ∃ x,x = w.heap.size := ⟨_,rfl⟩
 obtain ⟨z,hze⟩ : ∃ z,z = w.heap.size + 1 := ⟨_,rfl⟩
 rw [<- hze] at BZ ⊢
 rw [<- hxe] at BX ⊢
 have HXE := hideC hxe
 have HZE := hideC hze
 have hxz : ¬ x = z := by omega
 have hzx : ¬ z = x := by omega
 have HSZ : Hid (∀ V,Below WA.heap.size WA V -> V.heap[z]? = some (.cells #[.int .i64 0,.slice none 0 0,.slice none 0 0,.slice none 0 0] 30 (0,0))) := fun V hb => B.below BZ.out hb (B.isLt BZ.out)
 have HSX : Hid (∀ V,Below WA.heap.size WA V -> V.cell? ⟨x,0,none⟩ = some (.int .i64 sl) /\ V.cell? ⟨x,1,none⟩ = some (.slice az ns cs) /\ V.cell? ⟨x,2,none⟩ = some (.slice ar np cr) /\ V.cell? ⟨x,3,none⟩ = some (.slice ao no co)) := fun V hb => by
  have h1 := B.below BX.out hb (B.isLt BX.out)
  exact ⟨B.cell h1 0 rfl,B.cell h1 1 rfl,B.cell h1 2 rfl,B.cell h1 3 rfl⟩
 have HZC : Hid (∀ V,Below WA.heap.size WA V -> (V.cell? ⟨z,0,none⟩ = some (.int .i64 0) /\ V.cell? ⟨z,1,none⟩ = some (.slice none 0 0) /\ V.cell? ⟨z,2,none⟩ = some (.slice none 0 0) /\ V.cell? ⟨z,3,none⟩ = some (.slice none 0 0)) /\ V.frozen? ⟨z,0,none⟩ = false /\ V.frozen? ⟨z,1,none⟩ = false /\ V.frozen? ⟨z,2,none⟩ = false /\ V.frozen? ⟨z,3,none⟩ = false) := fun V hb => by
  have h1 := HSZ.out V hb
  exact ⟨⟨B.cell h1 0 rfl,B.cell h1 1 rfl,B.cell h1 2 rfl,B.cell h1 3 rfl⟩,B.free h1 0,B.free h1 1,B.free h1 2,B.free h1 3⟩
 have hzWA := B.isLt BZ.out
 have HWZ : Hid (w.heap.size <= z) := (by rw [hze];omega : w.heap.size <= z)
 clear hWA hsz1 hxe hze BX BZ
 refine (HCK.out _ HBX.out).mono ?_
 rintro e w1 ⟨rfl,hb1⟩
 have HB1 := hideC hb1
 obtain ⟨⟨z0,z1,z2,z3⟩,f0,f1,f2,f3⟩ := HZC.out _ hb1
 obtain ⟨x0,x1,x2,x3⟩ := HSX.out _ hb1
 clear hb1 HCK
 by_cases hk0 : ck = 0
 · subst hk0
   have HC1 := hideC (HC.out rfl)
   have HNM1 := hideC (HNM.out rfl)
   have HPR1 := hideC (HPR.out rfl)
   have HWD1 := hideC (HWD.out rfl)
   have HCF1 : Hid (R = if ¬ r.1 = 0 then (fl0,r.1) else match r.2 with | none => (fl0,r.1) | some s => (toFl s,0)) := by rw [HCF.out,if_neg (fun g => g rfl)];exact rfl
   clear HC HNM HPR HWD HCF
   go_wp2_with (go_at_call 78;refine (HNM1.out _ (HBX.out.trans (HB1.out.mono HBX.out.size))).mono ?_;rintro e w2 ⟨mb,v,L,rfl,hm,hb2⟩;have HM2 := hideC hm;have HB2 := hideC hb2;clear hm hb2)
   have HKW2 := hideC (HB1.out.trans (HB2.out.mono HB1.out.size))
   have HK2 := hideC HKW2.out.drew
   have HS0 := hideC ((HSX.out _ HK2.out).2.2)
   clear x0 x1 x2 x3 z0 z1 z2 z3 f0 f1 f2 f3
   go_cut [8] (fun x8 wx => ∃ gb D vr vo,x8 = .pointer (some ⟨gb,0,none⟩) /\ GW.Grp (GF.HdF w1.heap.size mb) w1.heap.size mb gb wx D vr vo (ofFl f) /\ Below WA.heap.size WA wx)
   case first =>
    go_region_held3 (fun V => V.cell? ⟨x,2,none⟩ = some (.slice ar np cr) /\ V.cell? ⟨x,3,none⟩ = some (.slice ao no co)) (first | exact HS4.out | exact HS3.out | exact HS0.out | exact (HSX.out _ (HK4.out.alloc HK4.out.size _)).2.2)
     (first
      | (go_at_call 79;refine (HPR1.out _ (HBX.out.trans (HK2.out.mono HBX.out.size))).mono ?_;rintro e w3 ⟨a3,c3,rfl,ho3,hb3⟩;have HO3 := hideC ho3;have HB3 := hideC hb3;have HK3 := hideC (HK2.out.trans (hb3.mono HK2.out.size));have HS3 := hideC ((HSX.out _ HK3.out).2.2);clear ho3 hb3)
      | (go_at_call 80;refine (HWD1.out _ (HBX.out.trans (HK3.out.mono HBX.out.size))).mono ?_;rintro e w4 ⟨a4,c4,rfl,ho4,hb4⟩;have HO4 := hideC ho4;have HB4 := hideC hb4;have HK4 := hideC (HK3.out.trans (hb4.mono HK3.out.size));have HS4 := hideC ((HSX.out _ HK4.out).2.2);clear ho4 hb4))
    all_goals
     go_wp2_with fail
     go_meet
     case rel =>
      refine ⟨_,_,_,_,rfl,grp_made (by rw [<- HSL.out];exact HM2.out) ((Below.refl _ _).drew.trans HB3.out) ?_ HB4.out ?_,HK4.out.alloc HK4.out.size _⟩
      · rw [<- HNP.out];exact HO3.out
      · rw [<- HNO.out];exact HO4.out
   case rest =>
    obtain ⟨gb,D,vr,vo,rfl,hg,hbc⟩ := hcut
    have HG := hideC hg
    have HBC := hideC hbc
    have HWB := hideC (HBX.out.trans (hbc.mono HBX.out.size))
    have HLO : Hid (w.heap.size <= w1.heap.size) := (by have := HBX.out.size;have := HB1.out.size;omega : w.heap.size <= w1.heap.size)
    have HCC := hideC (HC1.out wc w1.heap.size mb gb D vr vo HWB.out HLO.out hg)
    have HGL := hideC (fun b => GW.Grp.lt (GF.memC w1.heap.size mb) hg b)
    clear hg hbc HC1 HNM1 HPR1 HWD1 HM2 HB2 HKW2 HK2 HS0
    by_cases hr0 : r.1 = 0
    · obtain ⟨s,hs⟩ := HR.out hr0
      have HRE : Hid (R = (toFl s,0)) := by rw [HCF1.out,if_neg (fun g => g hr0),hs];exact rfl
      have HC2 : Hid (Calls Tryz.prog 58 #[.pointer (some ⟨gb,0,none⟩),.pointer (some ⟨q,0,none⟩)] wc fun e w' => e = .returned (.int .i64 0) /\ Below WA.heap.size WA w' /\ ∃ D' vr' vo',GW.Grp (GF.HdF w1.heap.size mb) w1.heap.size mb gb w' D' vr' vo' s) := HCC.out.mono fun e w' ⟨h1,h2,h3⟩ => by
       obtain ⟨D',vr',vo',hg',_,_⟩ := h3 s hs
       rw [hr0] at h1
       exact ⟨h1,Kp.below HBC.out h2 HBC.out.size (fun b hb => Nat.le_trans HB1.out.size (HGL.out b hb).1),D',vr',vo',hg'⟩
      have HC3 : Hid (Calls Tryz.prog 58 #[.pointer (some ⟨gb,0,none⟩),.pointer (some ⟨q,0,none⟩)] wc fun e w' => ∃ a5 c5 a6 c6 a7 c7,e = .returned (.int .i64 0) /\ Below WA.heap.size WA w' /\ (w'.cell? ⟨mb,0,none⟩ = some (.int .i64 s.mem.slots) /\ w'.cell? ⟨mb,1,none⟩ = some (.slice a7 s.mem.spaces.length c7) /\ w'.cell? ⟨gb,1,none⟩ = some (.slice a5 s.ps.length c5) /\ w'.cell? ⟨gb,2,none⟩ = some (.slice a6 s.out.length c6)) /\ (¬ mb = z /\ ¬ gb = z) /\ ∀ V,Kp (fun b => b <= z) w' V -> FW.HasFl V (toFl s) a7 a5 a6) := HC2.out.mono fun e w' ⟨h1,h2,D',vr',vo',hg⟩ => by
       obtain ⟨a5,c5,rfl,_,_⟩ := row_form hg.procs
       obtain ⟨a6,c6,rfl,_,_⟩ := row_form hg.outs
       obtain ⟨⟨v7,L7,hM⟩,hD⟩ := hg.mem
       obtain ⟨a7,c7,rfl,_⟩ := hM.has
       have hlz : z < w1.heap.size := Nat.lt_of_lt_of_le hzWA HB1.out.size
       have hgl := GW.Grp.lt (GF.memC w1.heap.size mb) hg
       refine ⟨a5,c5,a6,c6,a7,c7,h1,h2,⟨B.cell hM.head 0 rfl,B.cell hM.head 1 rfl,B.cell hg.head 1 rfl,B.cell hg.head 2 rfl⟩,⟨fun e => by have := hM.base;omega,fun e => by have := hg.base;omega⟩,fun V hV => ?_⟩
       have hMV := hM.kp hV (fun b hb e => by have := (hD b hb).1;omega)
       obtain ⟨a8,c8,e8,h8⟩ := hMV.has
       injection e8 with e9 _ _
       subst e9
       exact ⟨h8,pr_has (hV.row hg.procs (fun b hb e => by have := (hgl b (.inr (.inr (.inl hb)))).1;omega)),wd_has (hV.row hg.outs (fun b hb e => by have := (hgl b (.inr (.inr (.inr hb)))).1;omega))⟩
      have HTF : Hid (toFl s = ⟨s.mem.slots,s.mem.spaces,s.ps,s.out⟩) := rfl
      obtain ⟨s0,hs0⟩ : ∃ s0,s0 = s.mem.slots := ⟨_,rfl⟩
      obtain ⟨s1,hs1⟩ : ∃ s1,s1 = s.mem.spaces.length := ⟨_,rfl⟩
      obtain ⟨s2,hs2⟩ : ∃ s2,s2 = s.ps.length := ⟨_,rfl⟩
      obtain ⟨s3,hs3⟩ : ∃ s3,s3 = s.out.length := ⟨_,rfl⟩
      rw [<- hs0,<- hs1,<- hs2,<- hs3] at HC3
      have HFC : Hid (∀ a7 c7 a5 c5 a6 c6,FW.flCells (toFl s) a7 a5 a6 c7 c5 c6 = #[.int .i64 s0,.slice a7 s1 c7,.slice a5 s2 c5,.slice a6 s3 c6]) := fun a7 c7 a5 c5 a6 c6 => by rw [hs0,hs1,hs2,hs3];rfl
      clear HCF1 HCC hs hr0 HR HC2 hs0 hs1 hs2 hs3 HGL HG
      go_wp2_with (go_at_call 58;refine HC3.out.mono ?_;rintro e w5 ⟨a5,c5,a6,c6,a7,c7,rfl,hb5,hcl,hnz,hfl⟩;have HB5 := hideC hb5;have HCL := hideC hcl;have HFL := hideC hfl;obtain ⟨⟨z0,z1,z2,z3⟩,f0,f1,f2,f3⟩ := HZC.out _ hb5;obtain ⟨nz1,nz2⟩ := hnz;clear hb5 hcl hfl)
      have HSE : Hid (∀ V,Kp (fun b => b = z) w5 V -> V.cell? ⟨mb,0,none⟩ = some (.int .i64 s0) /\ V.cell? ⟨mb,1,none⟩ = some (.slice a7 s1 c7) /\ V.cell? ⟨gb,1,none⟩ = some (.slice a5 s2 c5) /\ V.cell? ⟨gb,2,none⟩ = some (.slice a6 s3 c6)) := fun V hV => by
       obtain ⟨q0,q1,q2,q3⟩ := HCL.out
       exact ⟨hV.cell q0 nz1,hV.cell q1 nz1,hV.cell q2 nz2,hV.cell q3 nz2⟩
      go_region_held3 (fun V => V.cell? ⟨mb,0,none⟩ = some (.int .i64 s0) /\ V.cell? ⟨mb,1,none⟩ = some (.slice a7 s1 c7) /\ V.cell? ⟨gb,1,none⟩ = some (.slice a5 s2 c5) /\ V.cell? ⟨gb,2,none⟩ = some (.slice a6 s3 c6)) (first | exact HCL.out | exact HSE.out _ ((kp_set4 w5 z _ _ _ _).trans (Kp.drew (fun b => b = z) _) (fun _ _ g => g))) (fail)
      all_goals
       go_wp2
       refine bodyPost_ret (v := .tuple #[.agg #[.int .i64 s0,.slice a7 s1 c7,.slice a5 s2 c5,.slice a6 s3 c6],.int .i64 0]) (by simp [results,Tryz.results44,go_sem,z0,z1,z2,z3]) rfl ?_
       refine HP.out _ _ ?_
       rw [HRE.out]
       have hk4 := (kp_set4 w5 z (.int .i64 s0) (.slice a7 s1 c7) (.slice a5 s2 c5) (.slice a6 s3 c6)).trans (Kp.drew (fun b => b = z) _) (fun _ _ g => g)
       refine ⟨a7,c7,a5,c5,a6,c6,by rw [HFC.out],fun V hV => HFL.out _ ((hk4.mono (fun b _ e => Nat.le_of_eq e)).trans hV (fun b _ g => Nat.le_of_lt (Nat.lt_of_lt_of_le g HWZ.out))),Kp.below (HBX.out.trans (HB5.out.mono HBX.out.size)) hk4 (Nat.le_trans HBX.out.size HB5.out.size) (fun b e => by rw [e];exact HWZ.out)⟩
    · have HRE : Hid (R = (fl0,r.1)) := by rw [HCF1.out,if_pos hr0];exact rfl
      obtain ⟨rc,hrc⟩ : ∃ rc,rc = r.1 := ⟨_,rfl⟩
      have HC2 : Hid (Calls Tryz.prog 58 #[.pointer (some ⟨gb,0,none⟩),.pointer (some ⟨q,0,none⟩)] wc fun e w' => e = .returned (.int .i64 rc) /\ Below WA.heap.size WA w') := HCC.out.mono fun e w' ⟨h1,h2,h3⟩ => by
       rw [<- hrc] at h1
       exact ⟨h1,Kp.below HBC.out h2 HBC.out.size (fun b hb => Nat.le_trans HB1.out.size (HGL.out b hb).1)⟩
      have hki : (rc == 0) = false := by rw [beq_eq_false_iff_ne,hrc];exact hr0
      rw [<- hrc] at HRE
      clear HCF1 HCC hr0 HR hrc
      go_wp2_with (go_at_call 58;refine HC2.out.mono ?_;rintro e w5 ⟨rfl,hb5⟩;have HB5 := hideC hb5;obtain ⟨⟨z0,z1,z2,z3⟩,f0,f1,f2,f3⟩ := HZC.out _ hb5;clear hb5)
      refine bodyPost_ret (v := .tuple #[.agg #[.int .i64 0,.slice none 0 0,.slice none 0 0,.slice none 0 0],.int .i64 rc]) (by simp [results,Tryz.results44,go_sem,z0,z1,z2,z3]) rfl ?_
      refine HP.out _ _ ?_
      rw [HRE.out]
      exact ⟨none,0,none,0,none,0,rfl,fun V _ => has_fl0 V,Kp.below (HBX.out.trans (HB5.out.mono HBX.out.size)) (kp_set4 w5 z _ _ _ _) (Nat.le_trans HBX.out.size HB5.out.size) (fun b e => by rw [e];exact HWZ.out)⟩
 · have HRE : Hid (R = (fl0,ck)) := by rw [HCF.out,if_pos hk0];exact rfl
   have hki : (ck == 0) = false := by rw [beq_eq_false_iff_ne];exact hk0
   clear HCF hk0 HC HNM HPR HWD
   go_wp2
   refine bodyPost_ret (v := .tuple #[.agg #[.int .i64 0,.slice none 0 0,.slice none 0 0,.slice none 0 0],.int .i64 ck]) (by simp [results,Tryz.results44,go_sem,z0,z1,z2,z3]) rfl ?_
   refine HP.out _ _ ?_
   rw [HRE.out]
   exact ⟨none,0,none,0,none,0,rfl,fun V _ => has_fl0 V,Kp.below (HBX.out.trans (HB1.out.mono HBX.out.size)) (kp_set4 w1 z _ _ _ _) (Nat.le_trans HBX.out.size HB1.out.size) (fun b e => by rw [e];exact HWZ.out)⟩
theorem HasN.below {w w' : World} {ao : Option Addr} {l : List Int} (h : GW.HasN w ao l) (hb : Below w.heap.size w w') : GW.HasN w' ao l := fun hl => by
 obtain ⟨b,off,e,hlt,hc⟩ := h hl
 exact ⟨b,off,e,Nat.lt_of_lt_of_le hlt hb.size,fun i hi => (hb.cell (p := ⟨b,off + i,none⟩) hlt).trans (hc i hi)⟩
theorem run_some (st : GG.St GM.Mf) (picks : List Int) (h : (GG.runG GM.flatOps st picks).1 = 0) : ∃ s,(GG.runG GM.flatOps st picks).2 = some s := by
 unfold GG.runG at h ⊢
 by_cases c : 2000 < picks.length
 · rw [if_pos c] at h;cases h
 · rw [if_neg c] at h ⊢
   cases e : GG.runTo GM.flatOps picks picks.length (some st) with
   | none => rw [e] at h;cases h
   | some s => exact ⟨s,rfl⟩
set_option maxHeartbeats 1000000 in
theorem run1_any {f : FM.Fl} {lo mb gb : Nat} {D : Nat -> Prop} {vr vo : Value} (picks : List Int) (ap : Option Addr) (cp q : Nat) (V : World) (hk : FM.checkF f = 0) (hp : FitPs f.procs) (hg : GW.Grp (GF.HdF lo mb) lo mb gb V D vr vo (ofFl f)) (hq : V.cell? ⟨q,0,none⟩ = some (.slice ap picks.length cp)) (hn : GW.HasN V ap picks) (hps : ∀ b,ap = some b -> b.block < lo) (hpl : picks.length <= 140737488351232) :
  Calls Tryz.prog 58 #[.pointer (some ⟨gb,0,none⟩),.pointer (some ⟨q,0,none⟩)] V (GW.OutRun (GF.HdF lo mb) lo mb gb V D vr vo (GG.runG GM.flatOps (ofFl f) picks)) := by
 have HS := hideC (GW.run_any (GF.memC lo mb) picks ap cp V hg (gok_of hk hp) hn (fun b e g => by have := (hg.lt (GF.memC lo mb) _ g).1;have := hps b e;omega) hpl)
 obtain ⟨X,hX⟩ : ∃ X,X = GG.runG GM.flatOps (ofFl f) picks := ⟨_,rfl⟩
 rw [<- hX] at HS ⊢
 obtain ⟨P,hP⟩ : ∃ P,P = GW.OutRun (GF.HdF lo mb) lo mb gb V D vr vo X := ⟨_,rfl⟩
 have HP : Hid (∀ w',(Kp (GW.grpD gb D vr vo) V w' /\ ∀ s,X.2 = some s -> GW.Left (GF.HdF lo mb) lo mb gb V D vr vo s w') -> P (.returned (.int .i64 X.1)) w') := fun w' h => by
  rw [hP]
  exact ⟨rfl,h.1,h.2⟩
 rw [<- hP]
 obtain ⟨X1,hX1⟩ : ∃ X1,X1 = X.1 := ⟨_,rfl⟩
 have HS2 : Hid (Calls Tryz.prog 59 #[.pointer (some ⟨gb,0,none⟩),.slice ap picks.length cp] V fun e w' => e = .returned (.int .i64 X1) /\ Kp (GW.grpD gb D vr vo) V w' /\ ∀ s,X.2 = some s -> GW.Left (GF.HdF lo mb) lo mb gb V D vr vo s w') := by rw [hX1];exact HS.out
 rw [<- hX1] at HP
 clear hX hP hg HS hX1 hn hps
 go_enter Tryz.func58,Tryz.ntmps58
 go_wp2_with (go_at_call 59;refine HS2.out.mono ?_;rintro e w1 ⟨rfl,hl⟩;have HL := hideC hl;clear hl)
 exact HP.out _ HL.out
set_option maxHeartbeats 4000000 in
theorem run_any (f : FM.Fl) (picks : List Int) (ap : Option Addr) (cp : Nat) (az ar ao : Option Addr) (cs cr co : Nat) (w : World) (h : FW.HasFl w f az ar ao) (hf : FW.FitFl f) (hp : FitPs f.procs) (hn : GW.HasN w ap picks) (hps : ∀ b,ap = some b -> b.block < w.heap.size) (hpl : picks.length <= 140737488351232) :
  Calls Tryz.prog 17 #[.agg (FW.flCells f az ar ao cs cr co),.slice ap picks.length cp] w (OutFl w (runF f picks)) := by
 obtain ⟨r,hr⟩ : ∃ r,r = runF f picks := ⟨_,rfl⟩
 have HCH : Hid (∀ V q,Below w.heap.size w V -> V.cell? ⟨q,0,none⟩ = some (.slice ap picks.length cp) -> Calls Tryz.prog 44 #[.agg (FW.flCells f az ar ao cs cr co),.func (.func 58) #[] #[.pointer (some ⟨q,0,none⟩)]] V fun e w' => ∃ s0 a1 s1 c1 a2 s2 c2 a3 s3 c3 er,e = .returned (.tuple #[.agg #[.int .i64 s0,.slice a1 s1 c1,.slice a2 s2 c2,.slice a3 s3 c3],.int .i64 er]) /\ Below V.heap.size V w' /\ ∀ U,Kp (fun b => b < V.heap.size) w' U -> Below w.heap.size w U -> OutFl w r (.returned (.tuple #[.agg #[.int .i64 s0,.slice a1 s1 c1,.slice a2 s2 c2,.slice a3 s3 c3],.int .i64 er])) U) := fun V q hV hq => by
  rw [hr]
  refine (changedR_any f (GG.runG GM.flatOps (ofFl f) picks) q az ar ao cs cr co V (h.below hV) hf (run_some _ _) (fun hk U lo mb gb D vr vo hU hlo hg => run1_any picks ap cp q U hk hp hg ((hU.cell (p := ⟨q,0,none⟩) (World.block_lt_of_cell? _ _ hq)).trans hq) (HasN.below (HasN.below hn hV) hU) (fun b e => Nat.lt_of_lt_of_le (hps b e) (Nat.le_trans hV.size hlo)) hpl)).mono ?_
  rintro e w' ⟨a1,c1,a2,c2,a3,c3,rfl,h1,h2⟩
  exact ⟨_,a1,_,c1,a2,_,c2,a3,_,c3,_,rfl,h2,fun U hU hb => ⟨a1,c1,a2,c2,a3,c3,rfl,fun V2 h3 => h1 _ (hU.trans h3 (fun b _ g => Nat.lt_of_lt_of_le g hV.size)),hb⟩⟩
 rw [<- hr]
 obtain ⟨P,hP⟩ : ∃ P,P = OutFl w r := ⟨_,rfl⟩
 rw [<- hP] at HCH ⊢
 clear h hf hp hr hP hn hps
 unfold FW.flCells at HCH ⊢
 obtain ⟨ns,hns⟩ : ∃ ns,ns = f.spaces.length := ⟨_,rfl⟩
 obtain ⟨np,hnp⟩ : ∃ np,np = f.procs.length := ⟨_,rfl⟩
 obtain ⟨no,hno⟩ : ∃ no,no = f.out.length := ⟨_,rfl⟩
 obtain ⟨sl,hsl⟩ : ∃ sl,sl = f.slots := ⟨_,rfl⟩
 rw [<- hns,<- hnp,<- hno,<- hsl] at HCH ⊢
 clear hns hnp hno hsl
 obtain ⟨pl,hpe⟩ : ∃ pl,pl = picks.length := ⟨_,rfl⟩
 rw [<- hpe] at HCH ⊢
 clear hpe hpl
 obtain ⟨WQ,hWQ⟩ : ∃ WQ,WQ = (w.alloc (.cells #[.int .i64 sl,.slice az ns cs,.slice ar np cr,.slice ao no co] 30)).alloc (.cells #[.slice ap pl cp] 44) := ⟨_,rfl⟩
 have hwq : WQ.heap.size = w.heap.size + 1 + 1 := by rw [hWQ];simp
 have BQ : WQ.heap[w.heap.size + 1]? = some (.cells #[.slice ap pl cp] 44 (0,0)) := by
  rw [hWQ]
  have := B.new (w.alloc (.cells #[.int .i64 sl,.slice az ns cs,.slice ar np cr,.slice ao no co] 30)) #[.slice ap pl cp] 44
  simpa using this
 have HBQ : Below w.heap.size w WQ := by rw [hWQ];exact ((Below.refl w.heap.size w).alloc (Nat.le_refl _) _).alloc (by simp) _
 have HBX := hideC (HBQ.alloc HBQ.size (.cells #[.int .i64 0,.slice none 0 0,.slice none 0 0,.slice none 0 0] 30))
 have hq : (WQ.alloc (.cells #[.int .i64 0,.slice none 0 0,.slice none 0 0,.slice none 0 0] 30)).cell? ⟨w.heap.size + 1,0,none⟩ = some (.slice ap pl cp) := B.cell (B.alloc BQ _) 0 rfl
 have BZ := B.new WQ #[.int .i64 0,.slice none 0 0,.slice none 0 0,.slice none 0 0] 30
 rw [hwq] at BZ
 obtain ⟨WA,hWA⟩ : ∃ WA,WA = WQ.alloc (.cells #[.int .i64 0,.slice none 0 0,.slice none 0 0,.slice none 0 0] 30) := ⟨_,rfl⟩
 rw [<- hWA] at HBX hq BZ
 have HCH2 := hideC (HCH.out WA (w.heap.size + 1) HBX.out hq)
 have HZB := hideC BZ
 rw [hWQ] at hWA
 rw [hWA] at HCH2
 have HWA := hideC hWA
 clear hWA hWQ hwq BQ HBQ hq BZ HCH
 go_enter Tryz.func17,Tryz.ntmps17
 go_wp2_with (go_at_call 44;refine HCH2.out.mono ?_;rintro e w1 ⟨s0,a1,s1,c1,a2,s2,c2,a3,s3,c3,er,rfl,hb,ho⟩;rw [<- HWA.out] at hb ho;have HB1 := hideC hb;have HO1 := hideC ho;have hz1 := B.below HZB.out hb (B.isLt HZB.out);have z0 : w1.cell? ⟨w.heap.size + 1 + 1,0,none⟩ = some (.int .i64 0) := B.cell hz1 0 rfl;have z1 : w1.cell? ⟨w.heap.size + 1 + 1,1,none⟩ = some (.slice none 0 0) := B.cell hz1 1 rfl;have z2 : w1.cell? ⟨w.heap.size + 1 + 1,2,none⟩ = some (.slice none 0 0) := B.cell hz1 2 rfl;have z3 : w1.cell? ⟨w.heap.size + 1 + 1,3,none⟩ = some (.slice none 0 0) := B.cell hz1 3 rfl;have f0 := B.free hz1 0;have f1 := B.free hz1 1;have f2 := B.free hz1 2;have f3 := B.free hz1 3;clear hb ho hz1)
 refine bodyPost_ret (v := .tuple #[.agg #[.int .i64 s0,.slice a1 s1 c1,.slice a2 s2 c2,.slice a3 s3 c3],.int .i64 er]) (by simp [results,Tryz.results17,go_sem,z0,z1,z2,z3]) rfl ?_
 have hk4 := kp_set4 w1 (w.heap.size + 1 + 1) (.int .i64 s0) (.slice a1 s1 c1) (.slice a2 s2 c2) (.slice a3 s3 c3)
 have hzl := B.isLt HZB.out
 exact HO1.out _ (hk4.mono (fun b _ e => by rw [e];exact hzl)) (Kp.below (HBX.out.trans (HB1.out.mono HBX.out.size)) hk4 (Nat.le_trans HBX.out.size HB1.out.size) (fun b e => by omega))
end GH
end Go.Proofs.YtkdigjpejnebkaaGreat
