import Derived.Test.YtpgifpeohlllfaaGreatGJ21
import Derived.Test.YtpgifpeohlllfaaGreatGJ24
set_option maxHeartbeats 20000000
set_option linter.unusedVariables false
set_option maxRecDepth 100000
set_option linter.unusedSimpArgs false
namespace Go.Proofs.YtpgifpeohlllfaaGreat
namespace KY
open Go.RowKit GK KO
open FW (hideC add_below)
open KW (cellFr cellSl cellEn HasRow KAt HasK cellsK aggEn cellI)
open KS (Lc cellLc lc0 lcAt blk SpOwn)
theorem Kh.at_ {lo cb : Nat} {w : World} {lab : Nat -> Lb} {aS : Option Addr} {m cS : Nat} {vF vL : Value} {k : KM.Kn} {hs : List LM.Sh} {n : Nat} (h : Kh lo cb w lab (.slice aS m cS) vF vL k hs n) (hn : n < k.sheets.length) :
  ∃ sb,aS = some ⟨sb,0,none⟩ /\ ¬ cb = sb /\ sb < w.heap.size /\ w.cell? ⟨cb,0,none⟩ = some (.slice aS m cS) /\ w.cell? ⟨sb,n * 3,none⟩ = some (.int .i64 (LM.shAt k.sheets n).page) /\ w.cell? ⟨sb,n * 3 + 1,none⟩ = some (.string (LM.shAt k.sheets n).data) /\ w.cell? ⟨sb,n * 3 + 2,none⟩ = some (.slice (LM.shAt k.sheets n).ao (LM.shAt k.sheets n).fixes.length (LM.shAt k.sheets n).cap) /\ ∀ j,w.frozen? ⟨sb,j,none⟩ = false:=by
 have hl:=h.same.len
 obtain ⟨ao,cap,e,hc,hg⟩:=row_form h.sheets
 injection e with e1 e2 e3
 subst e1 e2 e3
 obtain ⟨g,rfl,hg1,hg2⟩:=hg (by omega)
 have at_:=fun j (hj : j < 3)=>row_at cellSh (fun _=>rfl) LM.sh0 h.sheets n j (by omega) hj
 have er : hs.getD n LM.sh0 = LM.shAt k.sheets n:=h.rest n (Nat.le_refl _)
 rw [er] at at_
 exact ⟨g,rfl,fun e=>by have:=h.lS g rfl;rw [<- e,h.lH] at this;simp at this,hg2,B.cell h.head 0 rfl,at_ 0 (by omega),at_ 1 (by omega),at_ 2 (by omega),row_free h.sheets⟩
theorem infoSp : (Tryz.prog.info? 43).map (fun i=>(i.zero,i.size,i.bytes)) = some (some (.agg #[.bool false,.slice none 0 0,.slice none 0 0]),3,56):=by kernel_rfl
theorem new_lc (w : World) (xs : List Value) (e : TypeId) : ∀ j u,xs[j]? = some u -> (w.alloc (.cells xs.toArray e)).cell? ((⟨w.heap.size,0,none⟩ : Addr).add j) = some u:=fun j u hu=>by
 rw [Addr.add_lit,Nat.zero_add]
 exact B.cell (B.new w xs.toArray e) j (by simpa using hu)
theorem sp_take (l : List KM.Sp) (m : Nat) (h : m < l.length) : l.take (m + 1) = l.take m ++ [KM.spAt l m]:=by
 rw [List.take_add_one,List.getElem?_eq_getElem h]
 unfold KM.spAt
 rw [List.getD_eq_getElem?_getD,List.getElem?_eq_getElem h]
 rfl
set_option maxHeartbeats 16000000 in
theorem kernel_copy (k : KM.Kn) (a : KAt) (w : World) (hK : HasK w a k) (hs : Small k) :
  Calls Tryz.prog 55 #[.agg (cellsK a k)] w (OutC w k):=by
 obtain ⟨P,hP⟩ : ∃ P,P = OutC w k:=⟨_,rfl⟩
 rw [<- hP]
 have HP:=hideC hP
 clear hP
 have HKS:=hideC hK.spaces
 have HRS:=hideC (row_from (f:=cellSh) (n:=3) (fun _=>rfl) (sh_row hK.sheets))
 have HRF:=hideC (row_from (f:=cellFr) (n:=4) (fun _=>rfl) hK.frames)
 have HRL:=hideC (row_from (f:=cellSl) (n:=2) (fun _=>rfl) hK.slots)
 obtain ⟨WA,hWA⟩ : ∃ WA,WA = (w.alloc (.cells (cellsK a k) 27)).alloc (.cells #[.slice none 0 0,.slice none 0 0,.slice none 0 0,.slice none 0 0,.int .i64 0] 27):=⟨_,rfl⟩
 have HBA : Hid (Below w.heap.size w WA):=by rw [hWA];exact ((Below.refl _ _).alloc (Nat.le_refl _) _).alloc (by simp) _
 have KB : Hid (WA.heap[w.heap.size]? = some (.cells (cellsK a k) 27 (0,0))):=by rw [hWA];exact B.alloc (B.new w _ _) _
 have RB : Hid (WA.heap[w.heap.size + 1]? = some (.cells #[.slice none 0 0,.slice none 0 0,.slice none 0 0,.slice none 0 0,.int .i64 0] 27 (0,0))):=by
  have:=B.new (w.alloc (.cells (cellsK a k) 27)) #[.slice none 0 0,.slice none 0 0,.slice none 0 0,.slice none 0 0,.int .i64 0] 27
  rw [World.size_alloc] at this
  rw [hWA];exact this
 have HS : Hid (∀ V,Below WA.heap.size WA V -> V.cell? ⟨w.heap.size,0,none⟩ = some (.slice a.aS k.sheets.length a.cS) /\ V.cell? ⟨w.heap.size,1,none⟩ = some (.slice a.aF k.frames.length a.cF) /\ V.cell? ⟨w.heap.size,2,none⟩ = some (.slice a.aL k.slots.length a.cL) /\ V.cell? ⟨w.heap.size,4,none⟩ = some (.int .i64 k.hand)):=fun V hb=>by
  have h1:=B.below KB.out hb (B.isLt KB.out)
  exact ⟨B.cell h1 0 rfl,B.cell h1 1 rfl,B.cell h1 2 rfl,B.cell h1 4 rfl⟩
 have HCS : Hid (∀ V,Below WA.heap.size WA V -> Calls Tryz.prog 103 #[.slice a.aS k.sheets.length a.cS] V fun e w'=>∃ ad c,e = .returned (.slice ad k.sheets.length c) /\ w'.ownsRow V.heap.size 50 3 (.slice ad k.sheets.length c) k.sheets.length (k.sheets.flatMap cellSh) /\ Below V.heap.size V w'):=fun V hV=>(cloneSh _ _ _ _ V (rows_length cellSh 3 (fun _=>rfl) k.sheets) (HRS.out.below (HBA.out.trans (hV.mono HBA.out.size))) (sh_one _) hs.sheets).mono fun e w' ⟨v,h1,h2,h3⟩=>by
  obtain ⟨ad,c,rfl,_⟩:=row_form h2
  exact ⟨ad,c,h1,h2,h3⟩
 have HCF : Hid (∀ V,Below WA.heap.size WA V -> Calls Tryz.prog 104 #[.slice a.aF k.frames.length a.cF] V fun e w'=>∃ ad c,e = .returned (.slice ad k.frames.length c) /\ w'.ownsRow V.heap.size 40 4 (.slice ad k.frames.length c) k.frames.length (k.frames.flatMap cellFr) /\ Below V.heap.size V w'):=fun V hV=>(cloneFr _ _ _ _ V (rows_length cellFr 4 (fun _=>rfl) k.frames) (HRF.out.below (HBA.out.trans (hV.mono HBA.out.size))) (fr_one _) hs.frames).mono fun e w' ⟨v,h1,h2,h3⟩=>by
  obtain ⟨ad,c,rfl,_⟩:=row_form h2
  exact ⟨ad,c,h1,h2,h3⟩
 have HCL : Hid (∀ V,Below WA.heap.size WA V -> Calls Tryz.prog 105 #[.slice a.aL k.slots.length a.cL] V fun e w'=>∃ ad c,e = .returned (.slice ad k.slots.length c) /\ w'.ownsRow V.heap.size 86 2 (.slice ad k.slots.length c) k.slots.length (k.slots.flatMap cellSl) /\ Below V.heap.size V w'):=fun V hV=>(cloneSl _ _ _ _ V (rows_length cellSl 2 (fun _=>rfl) k.slots) (HRL.out.below (HBA.out.trans (hV.mono HBA.out.size))) (sl_one _) hs.slots).mono fun e w' ⟨v,h1,h2,h3⟩=>by
  obtain ⟨ad,c,rfl,_⟩:=row_form h2
  exact ⟨ad,c,h1,h2,h3⟩
 have HFX : Hid (∀ V n,Below w.heap.size w V -> n < k.sheets.length -> From V (LM.shAt k.sheets n).ao (LM.shAt k.sheets n).fixes.length ((LM.shAt k.sheets n).fixes.flatMap cellFx) /\ (LM.shAt k.sheets n).fixes.length <= 1000000):=fun V n hb hn=>by
  obtain ⟨b,off,_,_,hi⟩:=hK.sheets (by omega)
  have h4 : LM.HasF w (LM.shAt k.sheets n).ao (LM.shAt k.sheets n).fixes:=(hi n hn).2.2.2
  exact ⟨row_from (f:=cellFx) (n:=2) (fun _=>rfl) (fx_row (h4.below hb)),hs.fixes n hn⟩
 have HCC : Hid (∀ V : World,(V.cell? ⟨w.heap.size,0,none⟩ = some (.slice a.aS k.sheets.length a.cS) /\ V.cell? ⟨w.heap.size,1,none⟩ = some (.slice a.aF k.frames.length a.cF) /\ V.cell? ⟨w.heap.size,2,none⟩ = some (.slice a.aL k.slots.length a.cL) /\ V.cell? ⟨w.heap.size,4,none⟩ = some (.int .i64 k.hand)) -> V.cell? ⟨w.heap.size,0,none⟩ = some (.slice a.aS k.sheets.length a.cS) /\ V.cell? ⟨w.heap.size,1,none⟩ = some (.slice a.aF k.frames.length a.cF) /\ V.cell? ⟨w.heap.size,2,none⟩ = some (.slice a.aL k.slots.length a.cL) /\ V.cell? ⟨w.heap.size,4,none⟩ = some (.int .i64 k.hand)):=fun V h=>h
 have HWA:=hideC hWA
 unfold cellsK at HWA ⊢
 clear hWA hK
 go_enter Tryz.func55,Tryz.ntmps55
 go_upto_region 1 with fail
 rw [<- HWA.out]
 go_cut [3] (fun x3 wx=>∃ cb aS cS aF cF aL cL,x3 = .pointer (some ⟨cb,0,none⟩) /\ Four WA.heap.size WA wx cb (.slice aS k.sheets.length cS) (.slice aF k.frames.length cF) (.slice aL k.slots.length cL) k.hand k)
 case first =>
  refine GZ.begin_ (S:=fun V=>V.cell? ⟨w.heap.size,0,none⟩ = some (.slice a.aS k.sheets.length a.cS) /\ V.cell? ⟨w.heap.size,1,none⟩ = some (.slice a.aF k.frames.length a.cF) /\ V.cell? ⟨w.heap.size,2,none⟩ = some (.slice a.aL k.slots.length a.cL) /\ V.cell? ⟨w.heap.size,4,none⟩ = some (.int .i64 k.hand)) (z:=13) (by kernel_rfl) ?_
  have HK0:=hideC (Below.refl WA.heap.size WA).drew
  obtain ⟨WD,hWD⟩ : ∃ WD,WD = WA.drew:=⟨_,rfl⟩
  rw [<- hWD] at HK0 ⊢
  clear hWD
  have HS0:=hideC (HS.out _ HK0.out)
  refine GZ.tk 0 HS0.out ?_ ?_ ?_
  rotate_left 1
  · intro V h
    obtain ⟨k0,k1,k2,k3⟩:=HCC.out V h
    go_simp
    try with_reducible rfl
  refine GZ.tk 1 HS0.out ?_ ?_ ?_
  rotate_left 1
  · intro V h
    obtain ⟨k0,k1,k2,k3⟩:=HCC.out V h
    go_simp
    try with_reducible rfl
  refine GZ.tk 3 HS0.out ?_ ?_ ?_
  rotate_left 1
  · intro V h
    obtain ⟨k0,k1,k2,k3⟩:=HCC.out V h
    go_simp
    try with_reducible rfl
  refine GZ.tk 4 HS0.out ?_ ?_ ?_
  rotate_left 1
  · intro V h
    obtain ⟨k0,k1,k2,k3⟩:=HCC.out V h
    go_simp
    try with_reducible rfl
  refine GZ.tk 6 HS0.out ?_ ?_ ?_
  rotate_left 1
  · intro V h
    obtain ⟨k0,k1,k2,k3⟩:=HCC.out V h
    go_simp
    try with_reducible rfl
  refine GZ.tk 7 HS0.out ?_ ?_ ?_
  rotate_left 1
  · intro V h
    obtain ⟨k0,k1,k2,k3⟩:=HCC.out V h
    go_simp
    try with_reducible rfl
  refine GZ.tk 9 HS0.out ?_ ?_ ?_
  rotate_left 1
  · intro V h
    obtain ⟨k0,k1,k2,k3⟩:=HCC.out V h
    go_simp
    try with_reducible rfl
  refine GZ.tk 10 HS0.out ?_ ?_ ?_
  rotate_left 1
  · intro V h
    obtain ⟨k0,k1,k2,k3⟩:=HCC.out V h
    go_simp
    try with_reducible rfl
  refine GZ.all (rs:=[2,12]) (by kernel_rfl) (by simp) ?_
  refine GZ.AllZ.cons rfl (fun K hK=>?_) (GZ.AllZ.cons rfl (fun K hK=>?_) GZ.AllZ.nil)
  · have FIRST0:=trivial
    rw [if_pos (by rfl)];go_simp;go_at_call 103
    refine (HCS.out _ HK0.out).mono ?_
    rintro e w1 ⟨a1,c1,rfl,hr1,hb1⟩
    have HR1:=hideC hr1
    have HB1:=hideC hb1
    have HK1:=hideC ((HK0.out).trans (hb1.mono (HK0.out).size))
    have HS1:=hideC (HS.out _ HK1.out)
    clear hr1 hb1
    try go_simp
    refine hK.out _ _ (fun _=>?_) ?_
    · exact HS1.out
    clear hK K
    try simp only [Act.put,List.setIfInBounds_toArray,List.set_cons_zero,List.set_cons_succ]
    refine GZ.all (rs:=[5,12]) (by kernel_rfl) (by simp) ?_
    refine GZ.AllZ.cons rfl (fun K hK=>?_) (GZ.AllZ.cons rfl (fun K hK=>?_) GZ.AllZ.nil)
    · have FIRST1:=trivial
      rw [if_pos (by rfl)];go_simp;go_at_call 104
      refine (HCF.out _ HK1.out).mono ?_
      rintro e w2 ⟨a2,c2,rfl,hr2,hb2⟩
      have HR2:=hideC hr2
      have HB2:=hideC hb2
      have HK2:=hideC ((HK1.out).trans (hb2.mono (HK1.out).size))
      have HS2:=hideC (HS.out _ HK2.out)
      clear hr2 hb2
      try go_simp
      refine hK.out _ _ (fun _=>?_) ?_
      · exact HS2.out
      clear hK K
      try simp only [Act.put,List.setIfInBounds_toArray,List.set_cons_zero,List.set_cons_succ]
      refine GZ.all (rs:=[8,12]) (by kernel_rfl) (by simp) ?_
      refine GZ.AllZ.cons rfl (fun K hK=>?_) (GZ.AllZ.cons rfl (fun K hK=>?_) GZ.AllZ.nil)
      · have FIRST2:=trivial
        rw [if_pos (by rfl)];go_simp;go_at_call 105
        refine (HCL.out _ HK2.out).mono ?_
        rintro e w3 ⟨a3,c3,rfl,hr3,hb3⟩
        have HR3:=hideC hr3
        have HB3:=hideC hb3
        have HK3:=hideC ((HK2.out).trans (hb3.mono (HK2.out).size))
        have HS3:=hideC (HS.out _ HK3.out)
        clear hr3 hb3
        try go_simp
        refine hK.out _ _ (fun _=>?_) ?_
        · exact HS3.out
        clear hK K
        try simp only [Act.put,List.setIfInBounds_toArray,List.set_cons_zero,List.set_cons_succ]
        refine GZ.tk 11 HS3.out ?_ ?_ ?_
        rotate_left 1
        · intro V h
          obtain ⟨k0,k1,k2,k3⟩:=HCC.out V h
          go_simp
          try with_reducible rfl
        refine GZ.all (rs:=[12]) (by kernel_rfl) (by simp) ?_
        refine GZ.AllZ.cons rfl (fun K hK=>?_) GZ.AllZ.nil
        go_simp
        refine hK.out _ _ (fun _=>?_) ?_
        · exact HS.out _ (HK3.out.alloc HK3.out.size (.cells #[.slice none 0 0,.slice none 0 0,.slice none 0 0,.slice none 0 0,.int .i64 0] 27))
        clear hK K
        try simp only [Act.put,List.setIfInBounds_toArray,List.set_cons_zero,List.set_cons_succ]
        refine GZ.all (rs:=[13]) (by kernel_rfl) (by simp) ?_
        refine GZ.AllZ.cons rfl (fun K hK=>?_) GZ.AllZ.nil
        go_simp
        refine hK.out _ _ (fun g=>absurd rfl g) ?_
        refine GZ.done (by kernel_rfl) ?_ _
        go_wp2_with fail
        go_meet
        case rel =>
         refine ⟨_,a1,c1,a2,c2,a3,c3,rfl,?_⟩
         exact four_new (V1:=WD) (w1:=w1) (V2:=w1) (w2:=w2) (V3:=w2) (w3:=w3) HK0.out HR1.out HB1.out (Below.refl _ _) HR2.out HB2.out (Below.refl _ _) HR3.out HB3.out
      · have SECOND2:=trivial
        go_simp
        refine hK.out _ _ (fun _=>?_) ?_
        · exact HS.out _ (HK2.out.alloc HK2.out.size (.cells #[.slice none 0 0,.slice none 0 0,.slice none 0 0,.slice none 0 0,.int .i64 0] 27))
        clear hK K
        try simp only [Act.put,List.setIfInBounds_toArray,List.set_cons_zero,List.set_cons_succ]
        refine GZ.all (rs:=[8]) (by kernel_rfl) (by simp) ?_
        refine GZ.AllZ.cons rfl (fun K hK=>?_) GZ.AllZ.nil
        rw [if_pos (by rfl)];go_simp;go_at_call 105
        refine (HCL.out _ (HK2.out.alloc HK2.out.size (.cells #[.slice none 0 0,.slice none 0 0,.slice none 0 0,.slice none 0 0,.int .i64 0] 27))).mono ?_
        rintro e w3 ⟨a3,c3,rfl,hr3,hb3⟩
        have HR3:=hideC hr3
        have HB3:=hideC hb3
        have HK3:=hideC (((HK2.out.alloc HK2.out.size (.cells #[.slice none 0 0,.slice none 0 0,.slice none 0 0,.slice none 0 0,.int .i64 0] 27))).trans (hb3.mono ((HK2.out.alloc HK2.out.size (.cells #[.slice none 0 0,.slice none 0 0,.slice none 0 0,.slice none 0 0,.int .i64 0] 27))).size))
        have HS3:=hideC (HS.out _ HK3.out)
        have BZ3:=hideC (B.below (B.new w2 #[.slice none 0 0,.slice none 0 0,.slice none 0 0,.slice none 0 0,.int .i64 0] 27) hb3 (by simp))
        clear hr3 hb3
        try go_simp
        refine hK.out _ _ (fun _=>?_) ?_
        · exact HS3.out
        clear hK K
        try simp only [Act.put,List.setIfInBounds_toArray,List.set_cons_zero,List.set_cons_succ]
        refine GZ.tk 11 HS3.out ?_ ?_ ?_
        rotate_left 1
        · intro V h
          obtain ⟨k0,k1,k2,k3⟩:=HCC.out V h
          go_simp
          try with_reducible rfl
        obtain ⟨z0,z1,z2,z3,z4⟩:=B.c5 BZ3.out
        have f0:=B.free BZ3.out 0
        have f1:=B.free BZ3.out 1
        have f2:=B.free BZ3.out 2
        have f3:=B.free BZ3.out 3
        have f4:=B.free BZ3.out 4
        refine GZ.all (rs:=[13]) (by kernel_rfl) (by simp) ?_
        refine GZ.AllZ.cons rfl (fun K hK=>?_) GZ.AllZ.nil
        go_simp
        refine hK.out _ _ (fun g=>absurd rfl g) ?_
        refine GZ.done (by kernel_rfl) ?_ _
        go_wp2_with fail
        go_meet
        case rel =>
         refine ⟨_,a1,c1,a2,c2,a3,c3,rfl,?_⟩
         exact four_made (V4:=w3) (cb:=w2.heap.size) (V1:=WD) (w1:=w1) (V2:=w1) (w2:=w2) (V3:=(w2.alloc (.cells #[.slice none 0 0,.slice none 0 0,.slice none 0 0,.slice none 0 0,.int .i64 0] 27))) (w3:=w3) HK0.out HR1.out HB1.out (Below.refl _ _) HR2.out HB2.out ((Below.refl _ _).alloc (Nat.le_refl _) _) HR3.out HB3.out (Below.refl _ _) BZ3.out (HK2.out.size) (.inr (.inr (.inl ⟨Nat.le_refl _,by simp⟩)))
    · have SECOND1:=trivial
      go_simp
      refine hK.out _ _ (fun _=>?_) ?_
      · exact HS.out _ (HK1.out.alloc HK1.out.size (.cells #[.slice none 0 0,.slice none 0 0,.slice none 0 0,.slice none 0 0,.int .i64 0] 27))
      clear hK K
      try simp only [Act.put,List.setIfInBounds_toArray,List.set_cons_zero,List.set_cons_succ]
      refine GZ.all (rs:=[5]) (by kernel_rfl) (by simp) ?_
      refine GZ.AllZ.cons rfl (fun K hK=>?_) GZ.AllZ.nil
      rw [if_pos (by rfl)];go_simp;go_at_call 104
      refine (HCF.out _ (HK1.out.alloc HK1.out.size (.cells #[.slice none 0 0,.slice none 0 0,.slice none 0 0,.slice none 0 0,.int .i64 0] 27))).mono ?_
      rintro e w2 ⟨a2,c2,rfl,hr2,hb2⟩
      have HR2:=hideC hr2
      have HB2:=hideC hb2
      have HK2:=hideC (((HK1.out.alloc HK1.out.size (.cells #[.slice none 0 0,.slice none 0 0,.slice none 0 0,.slice none 0 0,.int .i64 0] 27))).trans (hb2.mono ((HK1.out.alloc HK1.out.size (.cells #[.slice none 0 0,.slice none 0 0,.slice none 0 0,.slice none 0 0,.int .i64 0] 27))).size))
      have HS2:=hideC (HS.out _ HK2.out)
      have BZ2:=hideC (B.below (B.new w1 #[.slice none 0 0,.slice none 0 0,.slice none 0 0,.slice none 0 0,.int .i64 0] 27) hb2 (by simp))
      clear hr2 hb2
      try go_simp
      refine hK.out _ _ (fun _=>?_) ?_
      · exact HS2.out
      clear hK K
      try simp only [Act.put,List.setIfInBounds_toArray,List.set_cons_zero,List.set_cons_succ]
      refine GZ.all (rs:=[8]) (by kernel_rfl) (by simp) ?_
      refine GZ.AllZ.cons rfl (fun K hK=>?_) GZ.AllZ.nil
      rw [if_pos (by rfl)];go_simp;go_at_call 105
      refine (HCL.out _ HK2.out).mono ?_
      rintro e w3 ⟨a3,c3,rfl,hr3,hb3⟩
      have HR3:=hideC hr3
      have HB3:=hideC hb3
      have HK3:=hideC ((HK2.out).trans (hb3.mono (HK2.out).size))
      have HS3:=hideC (HS.out _ HK3.out)
      have BZ3:=hideC (B.below BZ2.out hb3 (B.isLt BZ2.out))
      clear hr3 hb3
      try go_simp
      refine hK.out _ _ (fun _=>?_) ?_
      · exact HS3.out
      clear hK K
      try simp only [Act.put,List.setIfInBounds_toArray,List.set_cons_zero,List.set_cons_succ]
      refine GZ.tk 11 HS3.out ?_ ?_ ?_
      rotate_left 1
      · intro V h
        obtain ⟨k0,k1,k2,k3⟩:=HCC.out V h
        go_simp
        try with_reducible rfl
      obtain ⟨z0,z1,z2,z3,z4⟩:=B.c5 BZ3.out
      have f0:=B.free BZ3.out 0
      have f1:=B.free BZ3.out 1
      have f2:=B.free BZ3.out 2
      have f3:=B.free BZ3.out 3
      have f4:=B.free BZ3.out 4
      refine GZ.all (rs:=[13]) (by kernel_rfl) (by simp) ?_
      refine GZ.AllZ.cons rfl (fun K hK=>?_) GZ.AllZ.nil
      go_simp
      refine hK.out _ _ (fun g=>absurd rfl g) ?_
      refine GZ.done (by kernel_rfl) ?_ _
      go_wp2_with fail
      go_meet
      case rel =>
       refine ⟨_,a1,c1,a2,c2,a3,c3,rfl,?_⟩
       exact four_made (V4:=w3) (cb:=w1.heap.size) (V1:=WD) (w1:=w1) (V2:=(w1.alloc (.cells #[.slice none 0 0,.slice none 0 0,.slice none 0 0,.slice none 0 0,.int .i64 0] 27))) (w2:=w2) (V3:=w2) (w3:=w3) HK0.out HR1.out HB1.out ((Below.refl _ _).alloc (Nat.le_refl _) _) HR2.out HB2.out (Below.refl _ _) HR3.out HB3.out (Below.refl _ _) BZ3.out (HK1.out.size) (.inr (.inl ⟨Nat.le_refl _,by simp⟩))
  · have SECOND0:=trivial
    go_simp
    refine hK.out _ _ (fun _=>?_) ?_
    · exact HS.out _ (HK0.out.alloc HK0.out.size (.cells #[.slice none 0 0,.slice none 0 0,.slice none 0 0,.slice none 0 0,.int .i64 0] 27))
    clear hK K
    try simp only [Act.put,List.setIfInBounds_toArray,List.set_cons_zero,List.set_cons_succ]
    refine GZ.all (rs:=[2]) (by kernel_rfl) (by simp) ?_
    refine GZ.AllZ.cons rfl (fun K hK=>?_) GZ.AllZ.nil
    rw [if_pos (by rfl)];go_simp;go_at_call 103
    refine (HCS.out _ (HK0.out.alloc HK0.out.size (.cells #[.slice none 0 0,.slice none 0 0,.slice none 0 0,.slice none 0 0,.int .i64 0] 27))).mono ?_
    rintro e w1 ⟨a1,c1,rfl,hr1,hb1⟩
    have HR1:=hideC hr1
    have HB1:=hideC hb1
    have HK1:=hideC (((HK0.out.alloc HK0.out.size (.cells #[.slice none 0 0,.slice none 0 0,.slice none 0 0,.slice none 0 0,.int .i64 0] 27))).trans (hb1.mono ((HK0.out.alloc HK0.out.size (.cells #[.slice none 0 0,.slice none 0 0,.slice none 0 0,.slice none 0 0,.int .i64 0] 27))).size))
    have HS1:=hideC (HS.out _ HK1.out)
    have BZ1:=hideC (B.below (B.new WD #[.slice none 0 0,.slice none 0 0,.slice none 0 0,.slice none 0 0,.int .i64 0] 27) hb1 (by simp))
    clear hr1 hb1
    try go_simp
    refine hK.out _ _ (fun _=>?_) ?_
    · exact HS1.out
    clear hK K
    try simp only [Act.put,List.setIfInBounds_toArray,List.set_cons_zero,List.set_cons_succ]
    refine GZ.all (rs:=[5]) (by kernel_rfl) (by simp) ?_
    refine GZ.AllZ.cons rfl (fun K hK=>?_) GZ.AllZ.nil
    rw [if_pos (by rfl)];go_simp;go_at_call 104
    refine (HCF.out _ HK1.out).mono ?_
    rintro e w2 ⟨a2,c2,rfl,hr2,hb2⟩
    have HR2:=hideC hr2
    have HB2:=hideC hb2
    have HK2:=hideC ((HK1.out).trans (hb2.mono (HK1.out).size))
    have HS2:=hideC (HS.out _ HK2.out)
    have BZ2:=hideC (B.below BZ1.out hb2 (B.isLt BZ1.out))
    clear hr2 hb2
    try go_simp
    refine hK.out _ _ (fun _=>?_) ?_
    · exact HS2.out
    clear hK K
    try simp only [Act.put,List.setIfInBounds_toArray,List.set_cons_zero,List.set_cons_succ]
    refine GZ.all (rs:=[8]) (by kernel_rfl) (by simp) ?_
    refine GZ.AllZ.cons rfl (fun K hK=>?_) GZ.AllZ.nil
    rw [if_pos (by rfl)];go_simp;go_at_call 105
    refine (HCL.out _ HK2.out).mono ?_
    rintro e w3 ⟨a3,c3,rfl,hr3,hb3⟩
    have HR3:=hideC hr3
    have HB3:=hideC hb3
    have HK3:=hideC ((HK2.out).trans (hb3.mono (HK2.out).size))
    have HS3:=hideC (HS.out _ HK3.out)
    have BZ3:=hideC (B.below BZ2.out hb3 (B.isLt BZ2.out))
    clear hr3 hb3
    try go_simp
    refine hK.out _ _ (fun _=>?_) ?_
    · exact HS3.out
    clear hK K
    try simp only [Act.put,List.setIfInBounds_toArray,List.set_cons_zero,List.set_cons_succ]
    refine GZ.tk 11 HS3.out ?_ ?_ ?_
    rotate_left 1
    · intro V h
      obtain ⟨k0,k1,k2,k3⟩:=HCC.out V h
      go_simp
      try with_reducible rfl
    obtain ⟨z0,z1,z2,z3,z4⟩:=B.c5 BZ3.out
    have f0:=B.free BZ3.out 0
    have f1:=B.free BZ3.out 1
    have f2:=B.free BZ3.out 2
    have f3:=B.free BZ3.out 3
    have f4:=B.free BZ3.out 4
    refine GZ.all (rs:=[13]) (by kernel_rfl) (by simp) ?_
    refine GZ.AllZ.cons rfl (fun K hK=>?_) GZ.AllZ.nil
    go_simp
    refine hK.out _ _ (fun g=>absurd rfl g) ?_
    refine GZ.done (by kernel_rfl) ?_ _
    go_wp2_with fail
    go_meet
    case rel =>
     refine ⟨_,a1,c1,a2,c2,a3,c3,rfl,?_⟩
     exact four_made (V4:=w3) (cb:=WD.heap.size) (V1:=(WD.alloc (.cells #[.slice none 0 0,.slice none 0 0,.slice none 0 0,.slice none 0 0,.int .i64 0] 27))) (w1:=w1) (V2:=w1) (w2:=w2) (V3:=w2) (w3:=w3) (HK0.out.alloc HK0.out.size (.cells #[.slice none 0 0,.slice none 0 0,.slice none 0 0,.slice none 0 0,.int .i64 0] 27)) HR1.out HB1.out (Below.refl _ _) HR2.out HB2.out (Below.refl _ _) HR3.out HB3.out (Below.refl _ _) BZ3.out (HK0.out.size) (.inl (by simp))
 case rest =>
  obtain ⟨cb,aS,cS,aF,cF,aL,cL,rfl,hfour⟩:=hcut
  have HB1:=hideC hfour.below
  have HKH : Hid (∃ lab,Kh WA.heap.size cb wc lab (.slice aS k.sheets.length cS) (.slice aF k.frames.length cF) (.slice aL k.slots.length cL) k k.sheets 0):=four_kh hfour
  have c0 : wc.cell? ⟨cb,0,none⟩ = some (.slice aS k.sheets.length cS):=B.cell hfour.head 0 rfl
  clear hfour
  have hks:=hs.sheets
  go_wp2
  go_loopw [23] (fun iv wq=>∃ n : Nat,∃ lab hs',n <= k.sheets.length /\ iv = .int .i64 (n : Int) /\ Kh WA.heap.size cb wq lab (.slice aS k.sheets.length cS) (.slice aF k.frames.length cF) (.slice aL k.slots.length cL) k hs' n /\ Below WA.heap.size WA wq) (fun iv _=>k.sheets.length - (intOf iv).toNat)
  case atStart =>
   obtain ⟨lab,h0⟩:=HKH.out
   exact ⟨0,lab,k.sheets,by omega,rfl,h0,HB1.out⟩
  case round =>
   obtain ⟨n,lab,hs',hn,rfl,hkh,hbw⟩:=hrel
   by_cases hlt : n < k.sheets.length
   · have hni : (n : Int) < (k.sheets.length : Int):=by omega
     obtain ⟨sb,rfl,hne,hsl,d0,x0,x1,x2,fz⟩:=hkh.at_ hlt
     have hlS:=hkh.same.len
     have hlo : WA.heap.size <= wr.heap.size:=hbw.size
     have hsA : WA.heap.size <= sb:=(hkh.bnd sb (by rw [hkh.lS sb rfl];simp)).1
     have er : LM.shAt hs' n = LM.shAt k.sheets n:=hkh.rest n (Nat.le_refl _)
     have hcl : cb < wr.heap.size:=B.isLt hkh.head
     have hfx:=HFX.out wr n (HBA.out.trans (hbw.mono HBA.out.size)) hlt
     obtain ⟨sh,hsh⟩ : ∃ sh,sh = LM.shAt k.sheets n:=⟨_,rfl⟩
     rw [<- hsh] at x0 x1 x2 hfx er
     obtain ⟨pg,dt,fx,ao,cp⟩:=sh
     simp only at x0 x1 x2 hfx
     obtain ⟨hfr,hfl⟩:=hfx
     obtain ⟨WL,hWL⟩ : ∃ WL,WL = wr.alloc (.cells #[.int .i64 pg,.string dt,.slice ao fx.length cp] 50):=⟨_,rfl⟩
     have hbL : Below wr.heap.size wr WL:=by rw [hWL];exact (Below.refl _ _).alloc (Nat.le_refl _) _
     have BL : WL.heap[wr.heap.size]? = some (.cells #[.int .i64 pg,.string dt,.slice ao fx.length cp] 50 (0,0)):=by rw [hWL];exact B.new _ _ _
     have HCX : Hid (∀ V,Below WL.heap.size WL V -> Calls Tryz.prog 106 #[.slice ao fx.length cp] V fun e w'=>∃ ax cx,e = .returned (.slice ax fx.length cx) /\ (w'.cell? ⟨cb,0,none⟩ = some (.slice (some ⟨sb,0,none⟩) k.sheets.length cS) /\ w'.cell? ⟨wr.heap.size,2,none⟩ = some (.slice ao fx.length cp)) /\ ((w'.setCell ⟨sb,n * 3 + 2,none⟩ (.slice ax fx.length cx)).cell? ⟨cb,0,none⟩ = some (.slice (some ⟨sb,0,none⟩) k.sheets.length cS) /\ (w'.setCell ⟨sb,n * 3 + 2,none⟩ (.slice ax fx.length cx)).cell? ⟨wr.heap.size,2,none⟩ = some (.slice ao fx.length cp)) /\ w'.cell? ⟨sb,n * 3 + 2,none⟩ = some (.slice ao fx.length cp) /\ w'.frozen? ⟨sb,n * 3 + 2,none⟩ = false /\ (∃ lab' hs'',Kh WA.heap.size cb (w'.setCell ⟨sb,n * 3 + 2,none⟩ (.slice ax fx.length cx)) lab' (.slice (some ⟨sb,0,none⟩) k.sheets.length cS) (.slice aF k.frames.length cF) (.slice aL k.slots.length cL) k hs'' (n + 1)) /\ Below WA.heap.size WA (w'.setCell ⟨sb,n * 3 + 2,none⟩ (.slice ax fx.length cx))):=fun V hV=>(cloneFx ao fx.length cp (fx.flatMap cellFx) V (rows_length cellFx 2 (fun _=>rfl) fx) (hfr.below (hbL.trans (hV.mono hbL.size))) (fx_one _) hfl).mono fun e w' ⟨v,h1,h2,h3⟩=>by
      obtain ⟨ax,cx,rfl,_⟩:=row_form h2
      have hb' : Below WL.heap.size WL w':=hV.trans (h3.mono hV.size)
      have hkL:=hkh.below hbL
      have hk':=hkL.below hb'
      have hr':=row_base (base':=WL.heap.size) h2 (fun g hg=>Nat.le_trans hV.size (h2.lt g hg).1)
      obtain ⟨sb2,e2,_,hsl2,d2,_,_,y2,fz2⟩:=hk'.at_ hlt
      injection e2 with e2
      injection e2 with e2 _ _
      subst e2
      rw [<- hsh] at y2
      obtain ⟨lab',hst,_⟩:=hkL.step (n:=n) (ax:=ax) (cx:=cx) (by omega) (Nat.le_trans hlo hbL.size) hb' (by rw [er];exact hr')
      rw [er] at hst
      have xl : w'.cell? ⟨wr.heap.size,2,none⟩ = some (.slice ao fx.length cp):=B.cell (B.below BL hb' (B.isLt BL)) 2 rfl
      have hbA:=(hbw.trans (hbL.mono hlo)).trans (hb'.mono (Nat.le_trans hlo hbL.size))
      have hne2 : ¬ wr.heap.size = sb:=fun e=>by omega
      exact ⟨ax,cx,h1,⟨d2,xl⟩,⟨(cell_other _ _ _ _ _ _ hne).trans d2,(cell_other _ _ _ _ _ _ hne2).trans xl⟩,y2,fz2 _,⟨lab',_,hst⟩,Kp.below hbA (Kp.set (fun b=>b = sb) w' ⟨sb,n * 3 + 2,none⟩ _ rfl) hbA.size (fun b e=>by rw [e];exact hsA)⟩
     have HWL:=hideC hWL
     have HSL : Hid (WL.drew.cell? ⟨cb,0,none⟩ = some (.slice (some ⟨sb,0,none⟩) k.sheets.length cS) /\ WL.drew.cell? ⟨wr.heap.size,2,none⟩ = some (.slice ao fx.length cp)):=⟨(hbL.drew.cell (p:=⟨cb,0,none⟩) hcl).trans d0,B.cell (B.below BL (Below.refl _ _).drew (B.isLt BL)) 2 rfl⟩
     have HDR:=hideC (Below.refl WL.heap.size WL).drew
     clear hkh hbw hfr hfl er hsh hWL hbL BL hlS hlo hsA HKH HB1 fz hcl
     go_upto_region 5 with fail
     rw [<- HWL.out]
     go_region_held3 (fun V=>V.cell? ⟨cb,0,none⟩ = some (.slice (some ⟨sb,0,none⟩) k.sheets.length cS) /\ V.cell? ⟨wr.heap.size,2,none⟩ = some (.slice ao fx.length cp)) (first | exact HS3.out | exact HSL.out | exact HS4.out)
      ((go_at_call 106;refine (HCX.out _ HDR.out).mono ?_;rintro e w5 ⟨ax,cx,rfl,s3,s4,y2,f2,hst,hbA⟩;have HS3:=hideC s3;have HS4:=hideC s4;have HST:=hideC hst;have HBA5:=hideC hbA;clear s3 s4 hst hbA))
     all_goals clear HSL HS3 HS4 HCX
     all_goals go_wp2
     go_roundw
     case rel =>
      obtain ⟨lab',hs'',hst⟩:=HST.out
      exact ⟨n + 1,lab',hs'',by omega,by go_num,hst,HBA5.out⟩
     case measure=>simp [intOf];omega
   · obtain rfl : n = k.sheets.length:=by omega
     have HKM0 : Hid (Km WA.heap.size cb 27 [] wr ⟨lab,.slice aS k.sheets.length cS,.slice aF k.frames.length cF,.slice aL k.slots.length cL,.slice none 0 0,[]⟩ (KM.withS ⟨k.sheets,k.frames,k.slots,k.spaces.take 0,k.hand⟩ hs')):=Kh.done (by rw [hkh.same.len];exact hkh)
     have HSM:=hideC hkh.same
     have HB2:=hideC hbw
     have q3 : wr.cell? ⟨w.heap.size,3,none⟩ = some (.slice a.aP k.spaces.length a.cP):=B.cell (B.below KB.out hbw (B.isLt KB.out)) 3 rfl
     have hkp:=hs.spaces
     clear hkh hbw HKH HB1
     go_wp2
     go_loopw [40] (fun iv wq=>∃ m : Nat,∃ S hs2,m <= k.spaces.length /\ iv = .int .i64 (m : Int) /\ KM.Same k.sheets hs2 /\ Km WA.heap.size cb 27 [] wq S (KM.withS ⟨k.sheets,k.frames,k.slots,k.spaces.take m,k.hand⟩ hs2) /\ Below WA.heap.size WA wq) (fun iv _=>k.spaces.length - (intOf iv).toNat)
     case atStart=>exact ⟨0,_,hs',by omega,rfl,HSM.out,HKM0.out,HB2.out⟩
     case round =>
      obtain ⟨m,S,hs2,hm,rfl,hsame,hkm,hbw⟩:=hrel
      by_cases hlt2 : m < k.spaces.length
      · have hmi : (m : Int) < (k.spaces.length : Int):=by omega
        obtain ⟨pb,po,hpo,hpl,hli⟩:=HKS.out (by omega)
        obtain ⟨va,ap,cp,v0,v1,v2,hha,hhp,_⟩:=hli m hlt2
        have hha2:=hha
        obtain ⟨aa,ca,hva,_⟩:=hha
        subst hva
        have hbl : Below w.heap.size w wr:=HBA.out.trans (hbw.mono HBA.out.size)
        have z0:=(hbl.cell (p:=⟨pb,po + m * 3,none⟩) hpl).trans v0
        have z1:=(hbl.cell (p:=⟨pb,po + m * 3 + 1,none⟩) hpl).trans v1
        have z2:=(hbl.cell (p:=⟨pb,po + m * 3 + 2,none⟩) hpl).trans v2
        have har:=hs.areas m hlt2
        have hen:=hs.ents m hlt2
        have htk:=sp_take k.spaces m hlt2
        obtain ⟨sp,hsp⟩ : ∃ sp,sp = KM.spAt k.spaces m:=⟨_,rfl⟩
        rw [<- hsp] at z0 z1 z2 har hen htk hha2 hhp
        obtain ⟨lv,ars,ens⟩:=sp
        simp only at z0 z1 z2 har hen hha2 hhp
        obtain ⟨bP,dP,eP,_⟩:=row_form hkm.spaces
        have hLl : S.L.length <= 1000000:=by have:=hkm.len;have e : (KM.withS ⟨k.sheets,k.frames,k.slots,k.spaces.take m,k.hand⟩ hs2).spaces.length = (k.spaces.take m).length:=rfl;rw [e,List.length_take] at this;omega
        obtain ⟨WL,hWL⟩ : ∃ WL,WL = wr.alloc (.cells #[.bool lv,.slice aa ars.length ca,.slice ap ens.length cp] 43):=⟨_,rfl⟩
        have hbL : Below wr.heap.size wr WL:=by rw [hWL];exact (Below.refl _ _).alloc (Nat.le_refl _) _
        have BL : WL.heap[wr.heap.size]? = some (.cells #[.bool lv,.slice aa ars.length ca,.slice ap ens.length cp] 43 (0,0)):=by rw [hWL];exact B.new _ _ _
        have hbD : Below wr.heap.size wr WL.drew:=hbL.drew
        have BD : WL.drew.heap[wr.heap.size]? = some (.cells #[.bool lv,.slice aa ars.length ca,.slice ap ens.length cp] 43 (0,0)):=B.below BL (Below.refl _ _).drew (B.isLt BL)
        have HWL:=hideC hWL
        obtain ⟨WD,hWD⟩ : ∃ WD,WD = WL.drew:=⟨_,rfl⟩
        rw [<- hWD] at hbD BD
        have HWD:=hideC hWD
        have hkD:=hkm.below hbD
        have hlD : WA.heap.size <= WD.heap.size:=Nat.le_trans hbw.size hbD.size
        have HCP : Hid (Calls Tryz.prog 86 #[.agg #[.bool lv,.slice aa ars.length ca,.slice ap ens.length cp]] WD fun e w'=>∃ xa nx cx ya ny cy,e = .returned (.agg #[.bool lv,.slice xa nx cx,.slice ya ny cy]) /\ SpOwn WD.heap.size w' ⟨lv,.slice xa nx cx,.slice ya ny cy⟩ ⟨lv,ars,ens⟩ /\ (∀ b,blk (.slice ya ny cy) b -> ¬ blk (.slice xa nx cx) b) /\ Below WD.heap.size WD w'):=(KS.copyOf_any ⟨lv,ars,ens⟩ aa ap ars.length ca cp WD (hha2.below (hbl.trans (hbD.mono hbl.size))) (hhp.below (hbl.trans (hbD.mono hbl.size))) har hen).mono fun e w' ⟨va,vp,h1,h2,h3,h4⟩=>by
         obtain ⟨xa,cx,ex,_⟩:=row_form h2.areas
         obtain ⟨ya,cy,ey,_⟩:=row_form h2.pages
         have ex : va = _:=ex
         have ey : vp = _:=ey
         subst ex ey
         exact ⟨xa,_,cx,ya,_,cy,h1,h2,h3,h4⟩
        have HCC2 : Hid (∀ V,Kp (fun b=>blk S.vP b) WD V -> V.cell? ⟨cb,3,none⟩ = some (.slice bP S.L.length dP) /\ V.cell? ⟨wr.heap.size,0,none⟩ = some (.bool lv) /\ V.cell? ⟨wr.heap.size,1,none⟩ = some (.slice aa ars.length ca) /\ V.cell? ⟨wr.heap.size,2,none⟩ = some (.slice ap ens.length cp) /\ V.frozen? ⟨cb,3,none⟩ = false):=fun V hV=>by
         have b1:=hV.keep hkD.head (fun g=>by have:=hkm.lP _ g;rw [hkm.lH] at this;simp at this)
         have b2:=hV.keep BD (fun g=>by have:=(hkm.spaces.lt _ g).2;omega)
         refine ⟨?_,B.cell b2 0 rfl,B.cell b2 1 rfl,B.cell b2 2 rfl,B.free b1 3⟩
         rw [<- eP]
         exact B.cell b1 3 rfl
        have HRW : Hid (∀ w2 o,Below WD.heap.size WD w2 -> (w2.alloc o).ownsRow WA.heap.size 43 3 (.slice bP S.L.length dP) S.L.length (S.L.flatMap cellLc)):=fun w2 o hb=>by
         have:=((Kp.ofBelow (D:=fun _=>False) hb).trans (Kp.alloc _ w2 o) (fun _ _ g=>g)).row hkD.spaces (fun _ _ g=>g)
         rw [eP] at this
         exact this
        have HPU : Hid (∀ w2 w4 O v' l,Below WD.heap.size WD w2 -> SpOwn WD.heap.size w2 l ⟨lv,ars,ens⟩ -> (∀ b,blk l.vp b -> ¬ blk l.va b) -> (w2.alloc O).grownBy w4 S.vP.ownBlock -> w4.ownsRow WA.heap.size 43 3 v' (S.L.length + 1) (S.L.flatMap cellLc ++ cellLc l) -> (v'.ownBlock = S.vP.ownBlock ∨ v'.ownBlock = some (w2.alloc O).heap.size) -> ∃ S',Km WA.heap.size cb 27 [] (w4.setCell ⟨cb,3,none⟩ v') S' (KM.withS ⟨k.sheets,k.frames,k.slots,k.spaces.take (m + 1),k.hand⟩ hs2) /\ Below WA.heap.size WA (w4.setCell ⟨cb,3,none⟩ v')):=fun w2 w4 O v' l h1 h2 h3 h4 h5 h6=>by
         have m1:=hkD.push hlD h1 h2 h3 h4 h5 h6
         have m2:=m1.1
         rw [htk]
         have hbA:=hbw.trans (hbD.mono hbw.size)
         exact ⟨_,m2,Kp.below hbA m1.2.2 hbA.size (fun b hb=>(hkD.bnd b hb).1)⟩
        have HSAME:=hideC hsame
        have HSP : Hid (∀ w2,Below WD.heap.size WD w2 -> Kp (fun b=>blk S.vP b) WD w2):=fun w2 h=>Kp.ofBelow h
        have HEP:=hideC eP
        obtain ⟨i0,hin,hz0,hz1,hz2⟩:=info_parts infoSp
        have HIN:=hideC hin
        have HZ0:=hideC hz0
        have HZ1:=hideC hz1
        have HZ2:=hideC hz2
        have hlw : WA.heap.size <= WD.heap.size:=hlD
        clear hkm hkD hbw hbl v0 v1 v2 hha2 hhp har hen htk hsp hWL hWD hbL BL hbD BD hli HKM0 HSM HB2 hsame eP hin hz0 hz1 hz2
        rw [hpo]
        go_upto_region 10 with fail
        rw [<- HWL.out]
        refine GZ.begin_ (S:=fun V=>Kp (fun b=>blk S.vP b) WD V) (z:=7) (by kernel_rfl) ?_
        rw [<- HWD.out]
        have HCC:=HCC2
        have HS0 : Hid (Kp (fun b=>blk S.vP b) WD WD):=Kp.refl _ _
        refine GZ.tk 0 HS0.out ?_ ?_ ?_
        rotate_left 1
        · intro V h
          obtain ⟨k0,k1,k2,k3,k4⟩:=HCC.out V h
          go_simp
          try with_reducible rfl
        refine GZ.tk 1 HS0.out ?_ ?_ ?_
        rotate_left 1
        · intro V h
          obtain ⟨k0,k1,k2,k3,k4⟩:=HCC.out V h
          go_simp
          try with_reducible rfl
        refine GZ.tk 2 HS0.out ?_ ?_ ?_
        rotate_left 1
        · intro V h
          obtain ⟨k0,k1,k2,k3,k4⟩:=HCC.out V h
          go_simp
          try with_reducible rfl
        refine GZ.all (rs:=[3]) (by kernel_rfl) (by simp) ?_
        refine GZ.AllZ.cons rfl (fun K hK=>?_) GZ.AllZ.nil
        rw [if_pos (by rfl)];go_simp;go_at_call 86;refine HCP.out.mono ?_;rintro e w2 ⟨xa,nx,cx,ya,ny,cy,rfl,hso,hap,hb2⟩;have HSO:=hideC hso;have HAP:=hideC hap;have HB2:=hideC hb2;have HS2:=hideC (HSP.out _ hb2);clear hso hap hb2;try go_simp
        refine hK.out _ _ (fun _=>?_) ?_
        · exact HS2.out
        clear hK K
        try simp only [Act.put,List.setIfInBounds_toArray,List.set_cons_zero,List.set_cons_succ]
        refine GZ.all (rs:=[4]) (by kernel_rfl) (by simp) ?_
        refine GZ.AllZ.cons rfl (fun K hK=>?_) GZ.AllZ.nil
        go_simp
        refine hK.out _ _ (fun _=>?_) ?_
        · exact HS2.out.trans (Kp.alloc _ _ _) (fun _ _ g=>g)
        clear hK K
        try simp only [Act.put,List.setIfInBounds_toArray,List.set_cons_zero,List.set_cons_succ]
        have hs2z:=HB2.out.size
        refine GZ.all (rs:=[5]) (by kernel_rfl) (by simp) ?_
        refine GZ.AllZ.cons rfl (fun K hK=>?_) GZ.AllZ.nil
        rw [if_pos (by rfl)];refine wp_append_src (P:=Tryz.prog) _ _ 25 rfl WA.heap.size 43 i0 (.agg #[.bool false,.slice none 0 0,.slice none 0 0]) 3 56 Tryz.underlying25 HIN.out HZ0.out HZ1.out HZ2.out rfl (by decide) (.slice bP S.L.length dP) S.L.length (S.L.flatMap cellLc) rfl (HRW.out _ _ HB2.out) (some ⟨w2.heap.size,0,none⟩) 1 1 (cellLc ⟨lv,.slice xa nx cx,.slice ya ny cy⟩) rfl rfl (fun _=>⟨_,rfl,new_lc w2 _ _⟩) (by intro u hu;simp [cellLc] at hu;rcases hu with rfl | rfl | rfl <;> rfl) (by unfold maxLen;omega) (by omega) (by rw [World.size_alloc];omega) ?_;intro vG wG hoG hgG haG;obtain ⟨aG,cG,hvG,_,_⟩:=row_form hoG;subst hvG;rw [<- HEP.out] at hgG haG;have HSG : Hid (Kp (fun b=>blk S.vP b) WD wG):=(HS2.out.trans (Kp.alloc _ _ _) (fun _ _ g=>g)).trans (Kp.grown hgG (fun q hq=>hq)) (fun _ _ g=>g);have HPF:=hideC (HPU.out w2 wG _ _ ⟨lv,.slice xa nx cx,.slice ya ny cy⟩ HB2.out HSO.out HAP.out hgG hoG haG);clear hoG hgG haG
        refine hK.out _ _ (fun _=>?_) ?_
        · exact HSG.out
        clear hK K
        try simp only [Act.put,List.setIfInBounds_toArray,List.set_cons_zero,List.set_cons_succ]
        refine GZ.tk 6 HSG.out ?_ ?_ ?_
        rotate_left 1
        · intro V h
          obtain ⟨k0,k1,k2,k3,k4⟩:=HCC.out V h
          go_simp
          try with_reducible rfl
        obtain ⟨k0,k1,k2,k3,k4⟩:=HCC.out _ HSG.out
        refine GZ.all (rs:=[7]) (by kernel_rfl) (by simp) ?_
        refine GZ.AllZ.cons rfl (fun K hK=>?_) GZ.AllZ.nil
        go_simp
        refine hK.out _ _ (fun g=>absurd rfl g) ?_
        refine GZ.done (by kernel_rfl) ?_ _
        go_wp2
        go_roundw
        case rel =>
         obtain ⟨S',h1,h2⟩:=HPF.out
         exact ⟨m + 1,S',hs2,by omega,by go_num,HSAME.out,h1,h2⟩
        case measure=>simp [intOf];omega
      · obtain rfl : m = k.spaces.length:=by omega
        rw [List.take_length] at hkm
        obtain ⟨bS,nS,dS,eS⟩ : ∃ b n d,S.vS = .slice b n d:=by obtain ⟨b,d,e,_⟩:=row_form hkm.sheets;exact ⟨b,_,d,e⟩
        obtain ⟨bF,nF,dF,eF⟩ : ∃ b n d,S.vF = .slice b n d:=by obtain ⟨b,d,e,_⟩:=row_form hkm.frames;exact ⟨b,_,d,e⟩
        obtain ⟨bL,nL,dL,eL⟩ : ∃ b n d,S.vL = .slice b n d:=by obtain ⟨b,d,e,_⟩:=row_form hkm.slots;exact ⟨b,_,d,e⟩
        obtain ⟨bP,nP,dP,eP⟩ : ∃ b n d,S.vP = .slice b n d:=by obtain ⟨b,d,e,_⟩:=row_form hkm.spaces;exact ⟨b,_,d,e⟩
        have c0:=hkm.c0
        have c1:=hkm.c1
        have c2:=hkm.c2
        have c3:=hkm.c3
        have c4 : wr.cell? ⟨cb,4,none⟩ = some (.int .i64 k.hand):=hkm.c4
        rw [eS] at c0
        rw [eF] at c1
        rw [eL] at c2
        rw [eP] at c3
        have hcl:=hkm.lt
        have R1:=B.below RB.out hbw (B.isLt RB.out)
        obtain ⟨y0,y1,y2,y3,y4⟩:=B.c5 R1
        have f0:=B.free R1 0
        have f1:=B.free R1 1
        have f2:=B.free R1 2
        have f3:=B.free R1 3
        have f4:=B.free R1 4
        have hwl : w.heap.size + 1 < WA.heap.size:=B.isLt RB.out
        have hbl : Below w.heap.size w wr:=HBA.out.trans (hbw.mono HBA.out.size)
        have HFIN : Hid (∀ V,Kp (fun b=>b = w.heap.size + 1) wr V -> P (.returned (.agg #[.slice bS nS dS,.slice bF nF dF,.slice bL nL dL,.slice bP nP dP,.int .i64 k.hand])) V):=fun V hV=>by
         rw [HP.out]
         refine ⟨S,hs2,hsame,by rw [eS,eF,eL,eP],(hkm.toKr.kp hV (fun b hb e=>by have:=(hkm.bnd b hb).1;omega)).mono (by omega),?_⟩
         exact Kp.below hbl hV hbl.size (fun b e=>by omega)
        have h5 : Hid (∀ s f l p h,(((((wr.setCell ⟨w.heap.size + 1,0,none⟩ s).setCell ⟨w.heap.size + 1,1,none⟩ f).setCell ⟨w.heap.size + 1,2,none⟩ l).setCell ⟨w.heap.size + 1,3,none⟩ p).setCell ⟨w.heap.size + 1,4,none⟩ h).heap[w.heap.size + 1]? = some (.cells #[s,f,l,p,h] 27 (0,0)) /\ Kp (fun b=>b = w.heap.size + 1) wr (((((wr.setCell ⟨w.heap.size + 1,0,none⟩ s).setCell ⟨w.heap.size + 1,1,none⟩ f).setCell ⟨w.heap.size + 1,2,none⟩ l).setCell ⟨w.heap.size + 1,3,none⟩ p).setCell ⟨w.heap.size + 1,4,none⟩ h)):=fun s f l p h=>⟨B.set (B.set (B.set (B.set (B.set R1 0 s) 1 f) 2 l) 3 p) 4 h,((((Kp.set (fun b=>b = w.heap.size + 1) wr ⟨w.heap.size + 1,0,none⟩ s rfl).trans (Kp.set (fun b=>b = w.heap.size + 1) _ ⟨w.heap.size + 1,1,none⟩ f rfl) (fun _ _ g=>g)).trans (Kp.set (fun b=>b = w.heap.size + 1) _ ⟨w.heap.size + 1,2,none⟩ l rfl) (fun _ _ g=>g)).trans (Kp.set (fun b=>b = w.heap.size + 1) _ ⟨w.heap.size + 1,3,none⟩ p rfl) (fun _ _ g=>g)).trans (Kp.set (fun b=>b = w.heap.size + 1) _ ⟨w.heap.size + 1,4,none⟩ h rfl) (fun _ _ g=>g)⟩
        clear hkm hbw hsame eS eF eL eP hwl hbl HKM0 HSM HB2 R1
        go_wp2
        obtain ⟨q1,q2⟩:=h5.out (.slice bS nS dS) (.slice bF nF dF) (.slice bL nL dL) (.slice bP nP dP) (.int .i64 k.hand)
        obtain ⟨y0,y1,y2,y3,y4⟩:=B.c5 q1
        refine bodyPost_ret (v:=.agg #[.slice bS nS dS,.slice bF nF dF,.slice bL nL dL,.slice bP nP dP,.int .i64 k.hand]) (by simp [results,Tryz.results55,go_sem,y0,y1,y2,y3,y4]) rfl ?_
        exact HFIN.out _ q2
end KY
end Go.Proofs.YtpgifpeohlllfaaGreat
