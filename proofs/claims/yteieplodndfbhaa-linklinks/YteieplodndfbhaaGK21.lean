import Derived.Test.YteieplodndfbhaaGK18
import Derived.Test.YteieplodndfbhaaGK19
import Derived.Test.YteieplodndfbhaaGK20
/- The law of linking: the walk. -/
namespace Go.Proofs.Yteieplodndfbhaa.LW
open Go.RowKit
open Go.Proofs.Yteieplodndfbhaa.W (hideC)
set_option linter.unusedVariables false
set_option maxRecDepth 100000

set_option maxHeartbeats 6000000 in
theorem links_any (hlo : ∀ (p : LM.Li) (libs : List LM.Li) (ao : Option Addr) (cap : Nat) (w : World), M.HasIm w p.a p.i → LM.HasI w ao libs → M.Fit p.i → LM.FitI libs → LM.linkErr (p :: libs) = 0 → Calls Try.prog 8 #[LM.imgV p, .slice ao libs.length cap] w (OutLd (p :: libs) w))
    (p : LM.Li) (libs : List LM.Li) (ao : Option Addr) (cap : Nat) (w : World) (hp : M.HasIm w p.a p.i) (h : LM.HasI w ao libs) (hfp : M.Fit p.i) (hf : LM.FitI libs) :
    Calls Try.prog 3 #[LM.imgV p, .slice ao libs.length cap] w fun e w' => e = .returned (.bool true) ∧ Below w.heap.size w w' := by
  have HLK : Hid (∀ V, Below w.heap.size w V → Calls Try.prog 6 #[LM.imgV p, .slice ao libs.length cap] V (OutL (p :: libs) V)) := fun V hb => link_any p libs ao cap V (hp.below hb) (h.below hb) hfp hf
  have HLR : Hid (∀ V, Below w.heap.size w V → Calls Try.prog 7 #[LM.imgV p, .slice ao libs.length cap] V fun e w' => e = .returned (.int .i64 (LM.linkErr (p :: libs))) ∧ Below V.heap.size V w') := fun V hb => linkErrorR_any p libs ao cap V (hp.below hb) (h.below hb) hfp hf
  have HLO : Hid (LM.linkErr (p :: libs) = 0 → ∀ V, Below w.heap.size w V → Calls Try.prog 8 #[LM.imgV p, .slice ao libs.length cap] V (OutLd (p :: libs) V)) := fun he V hb => hlo p libs ao cap V (hp.below hb) (h.below hb) hfp hf he
  clear hlo hp h hfp hf
  simp only [LM.imgV, M.cellsI] at HLK HLR HLO ⊢
  obtain ⟨all, hall⟩ : ∃ all, all = p :: libs := ⟨_, rfl⟩
  have hap : 0 < all.length := by rw [hall]; simp
  rw [← hall] at HLK HLR HLO
  clear hall
  have HB0 := hideC ((Below.refl w.heap.size w).alloc (Nat.le_refl _) (.cells #[.string p.i.name, .slice p.a.an p.i.needs.length p.a.cn, .slice p.a.ag p.i.segs.length p.a.cg, .slice p.a.ay p.i.syms.length p.a.cy, .slice p.a.ar p.i.rels.length p.a.cr, .int .i64 p.i.entry] 27))
  have BM0 := hideC (B.new w #[.string p.i.name, .slice p.a.an p.i.needs.length p.a.cn, .slice p.a.ag p.i.segs.length p.a.cg, .slice p.a.ay p.i.syms.length p.a.cy, .slice p.a.ar p.i.rels.length p.a.cr, .int .i64 p.i.entry] 27)
  have HG := hideC begun_any
  obtain ⟨LE, hLE⟩ : ∃ LE, LE = LM.linkErr all := ⟨_, rfl⟩
  have HLE := hideC hLE
  rw [← hLE] at HLR HLO
  clear hLE
  go_enter Try.func3, Try.ntmps3
  go_wp2_with fail
  refine (HLK.out _ HB0.out).mono ?_
  rintro e w1 ⟨hb1, hout⟩
  have HB1 := hideC (HB0.out.trans (hb1.mono HB0.out.size))
  have BM1 := hideC (B.below BM0.out hb1 (B.isLt BM0.out))
  have m0 := B.cell BM1.out 0 rfl
  have m1 := B.cell BM1.out 1 rfl
  have m2 := B.cell BM1.out 2 rfl
  have m3 := B.cell BM1.out 3 rfl
  have m4 := B.cell BM1.out 4 rfl
  have m5 := B.cell BM1.out 5 rfl
  have hml := B.isLt BM1.out
  rw [← HLE.out] at hout
  clear hb1 HB0 BM0 HLK
  by_cases he : LE = 0
  · rw [if_pos he] at hout
    have HLO2 := hideC (HLO.out he)
    obtain ⟨ix, E, r, hs, ah, ch, hgat, hsh, hmE, rfl, hown, hhs, hch⟩ := hout
    obtain ⟨h7, hck, -⟩ := link_zero (HLE.out.symm.trans he)
    have hx := gat_ok _ _ _ _ (ok_zero hap) hgat
    obtain ⟨ix2, E2, hg2, hend, -⟩ := (link_zero (HLE.out.symm.trans he)).2.2
    have e2 : ix2 = ix := Option.some.inj (hg2.symm.trans hgat)
    rw [e2] at hend
    have HAE := hideC (LM.areas_eq hck hx hend).1
    have HSM := hideC (sheets_small h7 hck hx hsh hmE)
    obtain ⟨ar, cr, hrv, -⟩ := own_slice hown
    subst hrv
    have HA1 := hideC (AW.Own.has hown)
    have HHS := hideC hhs
    have HGAT := hideC hgat
    have HSH := hideC hsh
    have HME := hideC hmE
    obtain ⟨EN, hEN⟩ : ∃ EN, EN = LM.addrO (LM.obAt (LM.obsFrom all 1 ix) 0) (LM.liAt all 0).i.entry := ⟨_, rfl⟩
    have HENE := hideC hEN
    rw [← hEN]
    obtain ⟨AL, hAL⟩ : ∃ AL, AL = LM.areasN (LM.obsFrom all 1 ix) := ⟨_, rfl⟩
    rw [← hAL] at HA1 HAE
    rw [← hAL]
    have hals : AL.length ≤ 140737488351232 := by
      rw [HAE.out]
      have := AM.gather_len (LM.bob (LM.obsFrom all 1 ix) (LM.obsFrom all 1 ix).length) 256
      unfold AM.gatherN
      omega
    clear hown hhs hgat hsh hmE hEN hAL hg2 e2 hend hx hck h7 HLO
    subst he
    have HBA := hideC ((Below.refl w1.heap.size w1).alloc (Nat.le_refl _) (.cells #[.slice ar AL.length cr, .slice ah hs.length ch, .int .i64 EN] 32))
    have BLA := hideC (B.new w1 #[.slice ar AL.length cr, .slice ah hs.length ch, .int .i64 EN] 32)
    go_wp2_with fail
    refine (HLR.out _ (HB1.out.trans (HBA.out.mono HB1.out.size))).mono ?_
    rintro e w2 ⟨rfl, hb2⟩
    have HB2 := hideC (HBA.out.trans (hb2.mono HBA.out.size))
    have BL2 := hideC (B.below BLA.out hb2 (B.isLt BLA.out))
    have hlb := B.isLt BL2.out
    have BM2 := hideC (B.below BM1.out HB2.out (B.isLt BM1.out))
    have HBW2 := hideC (HB1.out.trans (HB2.out.mono HB1.out.size))
    clear hb2 m0 m1 m2 m3 m4 m5 HBA BLA HLR
    have m0 := B.cell BM2.out 0 rfl
    have m1 := B.cell BM2.out 1 rfl
    have m2 := B.cell BM2.out 2 rfl
    have m3 := B.cell BM2.out 3 rfl
    have m4 := B.cell BM2.out 4 rfl
    have m5 := B.cell BM2.out 5 rfl
    have hml2 := B.isLt BM2.out
    have HBZ := hideC ((Below.refl w2.heap.size w2).alloc (Nat.le_refl _) (.cells #[.slice none 0 0, .slice none 0 0, .int .i64 0] 32))
    have BZ := hideC (B.new w2 #[.slice none 0 0, .slice none 0 0, .int .i64 0] 32)
    go_wp2_with fail
    refine (HLO2.out _ (HBW2.out.trans (HBZ.out.mono HBW2.out.size))).mono ?_
    rintro e w3 ⟨hb3, ix3, E3, r3, hs3, ao3, cap3, hg3, hsh3, hm3, rfl, hhas3, hhh3, hcc3⟩
    have e3 : ix3 = ix := Option.some.inj (hg3.symm.trans HGAT.out)
    rw [e3] at hsh3 hhas3 ⊢
    have e4 : E3 = E := Option.some.inj (hsh3.symm.trans HSH.out)
    rw [← HENE.out, ← HAE.out] at *
    obtain ⟨a3, c3, hv3, -⟩ := id hhas3
    subst hv3
    have HSAM := hideC (same_plain (xs := hs) (ys := hs3) (by rw [HME.out, hm3, e4]))
    have HB3 := hideC (HBZ.out.trans (hb3.mono HBZ.out.size))
    have BZ3 := hideC (B.below BZ.out hb3 (B.isLt BZ.out))
    have BL3 := hideC (B.below BL2.out HB3.out (B.isLt BL2.out))
    have HHA3 := hideC hhas3
    have HHH3 := hideC hhh3
    have HA3 := hideC ((HA1.out.below HB2.out).below HB3.out)
    have HHS3 := hideC ((HHS.out.below HB2.out).below HB3.out)
    have HBW3 := hideC (HBW2.out.trans (HB3.out.mono HBW2.out.size))
    clear hb3 hg3 hsh3 hm3 hhas3 hhh3 m0 m1 m2 m3 m4 m5 HLO2 HA1 HHS BM2 BL2
    have s0 := B.cell BZ3.out 0 rfl
    have s1 := B.cell BZ3.out 1 rfl
    have s2 := B.cell BZ3.out 2 rfl
    have sf := B.free BZ3.out
    have sl := B.isLt BZ3.out
    have BZ4 : Hid ((w3.setCell ⟨w2.heap.size, 0, none⟩ (.slice a3 AL.length c3)).heap[w2.heap.size]? = some (.cells #[.slice a3 AL.length c3, .slice none 0 0, .int .i64 0] 32 (0, 0))) := B.set BZ3.out 0 _
    have BZ5 : Hid (((w3.setCell ⟨w2.heap.size, 0, none⟩ (.slice a3 AL.length c3)).setCell ⟨w2.heap.size, 1, none⟩ (.slice ao3 hs3.length cap3)).heap[w2.heap.size]? = some (.cells #[.slice a3 AL.length c3, .slice ao3 hs3.length cap3, .int .i64 0] 32 (0, 0))) := B.set BZ4.out 1 _
    have BZ6 : Hid ((set3 w3 w2.heap.size (.slice a3 AL.length c3) (.slice ao3 hs3.length cap3) (.int .i64 EN)).heap[w2.heap.size]? = some (.cells #[.slice a3 AL.length c3, .slice ao3 hs3.length cap3, .int .i64 EN] 32 (0, 0))) := B.set BZ5.out 2 _
    have BL6 : Hid ((set3 w3 w2.heap.size (.slice a3 AL.length c3) (.slice ao3 hs3.length cap3) (.int .i64 EN)).heap[w1.heap.size]? = some (.cells #[.slice ar AL.length cr, .slice ah hs.length ch, .int .i64 EN] 32 (0, 0))) := B.other (B.other (B.other BL3.out _ _ _ (by omega)) _ _ _ (by omega)) _ _ _ (by omega)
    have HHA6 : Hid (AW.Has (set3 w3 w2.heap.size (.slice a3 AL.length c3) (.slice ao3 hs3.length cap3) (.int .i64 EN)) (.slice a3 AL.length c3) AL) := has_set BZ5.out (has_set BZ4.out (has_set BZ3.out HHA3.out 0 _) 1 _) 2 _
    have HA6 : Hid (AW.Has (set3 w3 w2.heap.size (.slice a3 AL.length c3) (.slice ao3 hs3.length cap3) (.int .i64 EN)) (.slice ar AL.length cr) AL) := has_set BZ5.out (has_set BZ4.out (has_set BZ3.out HA3.out 0 _) 1 _) 2 _
    have HHH6 := hideC (hasH_set3 BZ3.out HHH3.out (.slice a3 AL.length c3) (.slice ao3 hs3.length cap3) (.int .i64 EN))
    have HHS6 := hideC (hasH_set3 BZ3.out HHS3.out (.slice a3 AL.length c3) (.slice ao3 hs3.length cap3) (.int .i64 EN))
    have HBW6 : Hid (Below w.heap.size w (set3 w3 w2.heap.size (.slice a3 AL.length c3) (.slice ao3 hs3.length cap3) (.int .i64 EN))) := ((HBW3.out.setCell (p := ⟨w2.heap.size, 0, none⟩) (HBW2.out.size) _).setCell (p := ⟨w2.heap.size, 1, none⟩) (HBW2.out.size) _).setCell (p := ⟨w2.heap.size, 2, none⟩) (HBW2.out.size) _
    clear BZ3 BZ4 BZ5 BL3 HHA3 HA3 HHH3 HHS3 HBW3
    go_wp2_with fail
    obtain ⟨W6, hW6⟩ : ∃ W6, W6 = set3 w3 w2.heap.size (.slice a3 AL.length c3) (.slice ao3 hs3.length cap3) (.int .i64 EN) := ⟨_, rfl⟩
    have HW6 : Hid (((w3.setCell ⟨w2.heap.size, 0, none⟩ (.slice a3 AL.length c3)).setCell ⟨w2.heap.size, 1, none⟩ (.slice ao3 hs3.length cap3)).setCell ⟨w2.heap.size, 2, none⟩ (.int .i64 EN) = W6) := hW6.symm
    rw [← hW6] at BZ6 BL6 HHA6 HA6 HHH6 HHS6 HBW6
    rw [HW6.out]
    clear hW6 HW6 s0 s1 s2 sf sl
    refine (HG.out W6).mono ?_
    rintro e w7 ⟨rfl, hb7⟩
    have BZ7 := hideC (B.below BZ6.out hb7 (B.isLt BZ6.out))
    have BL7 := hideC (B.below BL6.out hb7 (B.isLt BL6.out))
    have HSL := hideC (sameLinked_yes AL (.slice ar AL.length cr) (.slice a3 AL.length c3) hs hs3 ah ao3 ch cap3 EN w7 (HA6.out.below hb7) (HHA6.out.below hb7) hals (HHS6.out.below hb7) (HHH6.out.below hb7) HSAM.out HSM.out.1 HSM.out.2)
    have HBW7 := hideC (HBW6.out.trans (hb7.mono HBW6.out.size))
    have y0 := B.cell BL7.out 0 rfl
    have y1 := B.cell BL7.out 1 rfl
    have y2 := B.cell BL7.out 2 rfl
    have z0 := B.cell BZ7.out 0 rfl
    have z1 := B.cell BZ7.out 1 rfl
    have z2 := B.cell BZ7.out 2 rfl
    clear hb7
    go_wp2_with (go_at_call 10; refine HSL.out.mono ?_; rintro e w8 ⟨rfl, hb8⟩; have HB8 := hideC (HBW7.out.trans (hb8.mono HBW7.out.size)); clear hb8)
    go_ret
    exact ⟨rfl, HB8.out⟩
  · rw [if_neg he] at hout
    subst hout
    have hez : (LE == 0) = false := by simpa using he
    have HBA := hideC ((Below.refl w1.heap.size w1).alloc (Nat.le_refl _) (.cells #[.slice none 0 0, .slice none 0 0, .int .i64 0] 32))
    have BLA := hideC (B.new w1 #[.slice none 0 0, .slice none 0 0, .int .i64 0] 32)
    clear HLO
    go_wp2_with fail
    refine (HLR.out _ (HB1.out.trans (HBA.out.mono HB1.out.size))).mono ?_
    rintro e w2 ⟨rfl, hb2⟩
    have HB2 := hideC (HBA.out.trans (hb2.mono HBA.out.size))
    have BL2 := hideC (B.below BLA.out hb2 (B.isLt BLA.out))
    have HBW2 := hideC (HB1.out.trans (HB2.out.mono HB1.out.size))
    clear hb2 m0 m1 m2 m3 m4 m5 HBA BLA HLR
    have HBZ := hideC ((Below.refl w2.heap.size w2).alloc (Nat.le_refl _) (.cells #[.slice none 0 0, .slice none 0 0, .int .i64 0] 32))
    have BZ := hideC (B.new w2 #[.slice none 0 0, .slice none 0 0, .int .i64 0] 32)
    have BL3 := hideC (B.below BL2.out HBZ.out (B.isLt BL2.out))
    have HBW3 := hideC (HBW2.out.trans (HBZ.out.mono HBW2.out.size))
    go_wp2_with fail
    refine (HG.out _).mono ?_
    rintro e w7 ⟨rfl, hb7⟩
    have BZ7 := hideC (B.below BZ.out hb7 (B.isLt BZ.out))
    have BL7 := hideC (B.below BL3.out hb7 (B.isLt BL3.out))
    have HSL := hideC (sameLinked_yes [] (.slice none 0 0) (.slice none 0 0) [] [] none none 0 0 0 w7 ⟨none, 0, rfl, .inl rfl⟩ ⟨none, 0, rfl, .inl rfl⟩ (by simp) (fun h => absurd h (by simp)) (fun h => absurd h (by simp)) ⟨rfl, fun k hk => absurd hk (by simp), fun k hk => absurd hk (by simp), fun k hk => absurd hk (by simp)⟩ (by unfold M.Short; simp) (fun k hk => absurd hk (by simp)))
    have HBW7 := hideC (HBW3.out.trans (hb7.mono HBW3.out.size))
    have y0 := B.cell BL7.out 0 rfl
    have y1 := B.cell BL7.out 1 rfl
    have y2 := B.cell BL7.out 2 rfl
    have z0 := B.cell BZ7.out 0 rfl
    have z1 := B.cell BZ7.out 1 rfl
    have z2 := B.cell BZ7.out 2 rfl
    clear hb7
    go_wp2_with (go_at_call 10; refine HSL.out.mono ?_; rintro e w8 ⟨rfl, hb8⟩; have HB8 := hideC (HBW7.out.trans (hb8.mono HBW7.out.size)); clear hb8)
    go_ret
    exact ⟨by simp, HB8.out⟩
end Go.Proofs.Yteieplodndfbhaa.LW
/- A page of a segment: out of its bytes and zeros; plain Lean. -/
namespace Go.Proofs.Yteieplodndfbhaa.LW
open Go.RowKit
set_option linter.unusedVariables false
set_option maxRecDepth 100000

theorem pad_list (L : List UInt8) (q d : Nat) (h : q + 16 ≤ L.length + d) : ((L ++ List.replicate d 0).drop q).take 16 = (L.drop q).take 16 ++ List.replicate (16 - ((L.drop q).take 16).length) 0 := by
  rw [List.drop_append, List.take_append, List.drop_replicate, List.take_replicate]
  congr 2
  simp only [List.length_drop, List.length_take]
  omega
theorem page_ext (s : M.Sg) (m d : Nat) (hd : s.pages * 16 - (s.data.size : Int) = (d : Int)) (hm : (m : Int) < s.pages) : LM.pageN s m = (s.data ++ zs d).extract (m * 16) (m * 16 + 16) := by
  have hsz : s.data.size = s.data.data.toList.length := Lib.size_eq _
  have key : ∀ (a b : ByteArray), a.data.toList = b.data.toList → a = b := fun a b h => by
    apply ByteArray.ext
    exact Array.toList_inj.1 h
  apply key
  have h1 : (zs d).data.toList = List.replicate d 0 := by simp [zs]
  have hq : m * 16 + 16 ≤ s.data.data.toList.length + d := by omega
  have e1 := pad_list s.data.data.toList (m * 16) d hq
  have er : ((s.data ++ zs d).extract (m * 16) (m * 16 + 16)).data.toList = ((s.data.data.toList ++ List.replicate d 0).drop (m * 16)).take 16 := by
    rw [Lib.extract_data, ByteArray.data_append, Array.toList_append, h1, Nat.add_sub_cancel_left]
  rw [er, e1]
  obtain ⟨t, ht⟩ : ∃ t, t = s.data.extract (min (m * 16) s.data.size) (min (min (m * 16) s.data.size + 16) s.data.size) := ⟨_, rfl⟩
  have htl : t.data.toList = (s.data.data.toList.drop (m * 16)).take 16 := by
    rw [ht, Lib.extract_data]
    by_cases hle : m * 16 ≤ s.data.size
    · rw [Nat.min_eq_left hle]
      by_cases h2 : m * 16 + 16 ≤ s.data.size
      · rw [Nat.min_eq_left h2, Nat.add_sub_cancel_left]
      · rw [Nat.min_eq_right (by omega), List.take_of_length_le (by rw [List.length_drop]; omega), List.take_of_length_le (by rw [List.length_drop]; omega)]
    · rw [Nat.min_eq_right (by omega), Nat.min_eq_right (by omega), Nat.sub_self, List.take_zero, List.drop_of_length_le (by omega), List.take_nil]
  have hz : LM.zeros16.data.toList = List.replicate 16 0 := rfl
  have hts : t.size = t.data.toList.length := Lib.size_eq _
  unfold LM.pageN
  rw [← ht]
  show (LM.zeros16.data.toList.take 0 ++ t.data.toList ++ LM.zeros16.data.toList.drop (0 + t.size)).toArray.toList = _
  rw [List.toList_toArray, List.take_zero, List.nil_append, hz, List.drop_replicate, hts, htl, Nat.zero_add]
end Go.Proofs.Yteieplodndfbhaa.LW
