import Derived.Test.YteieplodndfbhaaGK21
import Derived.Test.YteieplodndfbhaaGK14
import Derived.Test.YteieplodndfbhaaGK18
import Derived.Deep.DeepCutAuto
/- The reference's LinkedOf: the walk. -/
namespace Go.Proofs.Yteieplodndfbhaa.LW
open Go.RowKit
open Go.Proofs.Yteieplodndfbhaa.W (hideC)
set_option linter.unusedVariables false
set_option maxRecDepth 100000

set_option maxHeartbeats 8000000 in
theorem linkedR_any (p : LM.Li) (libs : List LM.Li) (ao : Option Addr) (cap : Nat) (w : World) (hp : M.HasIm w p.a p.i) (h : LM.HasI w ao libs) (hfp : M.Fit p.i) (hf : LM.FitI libs) (hz : LM.linkErr (p :: libs) = 0) :
    Calls Try.prog 8 #[LM.imgV p, .slice ao libs.length cap] w (OutLd (p :: libs) w) := by
  obtain ⟨h7, hck, ix, ES, hgat, hend, hsh⟩ := link_zero hz
  have h6 : libs.length ≤ 6 := by simpa using h7
  have HL := hideC h
  have HIM : Hid (∀ V, Below w.heap.size w V → ∀ k, k < (p :: libs).length → M.HasIm V (LM.liAt (p :: libs) k).a (LM.liAt (p :: libs) k).i) := fun V hb k hk => by
    cases k with
    | zero => exact hp.below hb
    | succ k =>
      have hk' : k < libs.length := by simpa using hk
      obtain ⟨b, off, _, _, hl⟩ := h (by omega)
      exact (hl k hk').2.below hb
  have HFA : Hid (∀ k, k < (p :: libs).length → M.Fit (LM.liAt (p :: libs) k).i) := fun k hk => by
    cases k with
    | zero => exact hfp
    | succ k => exact hf.2 k (by simpa using hk)
  have HEN : Hid ((LM.liAt (p :: libs) 0).i.entry = p.i.entry) := rfl
  have HEB : Hid (0 ≤ p.i.entry ∧ p.i.entry < 4080) := LM.entry_bounds (hck 0 (by simp))
  clear hp h hfp hf hz
  have HBB := hideC (((Below.refl w.heap.size w).alloc (Nat.le_refl _) (.cells (M.cellsI p.a p.i) 27)).alloc (by simp) (.cells #[.slice none 0 0, .slice none 0 0, .int .i64 0] 32))
  have BM := hideC (B.alloc (B.new w (M.cellsI p.a p.i) 27) (.cells #[.slice none 0 0, .slice none 0 0, .int .i64 0] 32))
  have BR0 := B.new (w.alloc (.cells (M.cellsI p.a p.i) 27)) #[.slice none 0 0, .slice none 0 0, .int .i64 0] 32
  rw [World.size_alloc] at BR0
  have BR := hideC BR0
  clear BR0
  unfold LM.imgV
  have HOW0 : Hid ((((w.alloc (.cells (M.cellsI p.a p.i) 27)).alloc (.cells #[.slice none 0 0, .slice none 0 0, .int .i64 0] 32)).alloc (.cells (M.cellsI p.a p.i) 27)).ownsRow (w.heap.size + 2) 27 6 (.slice (some ⟨w.heap.size + 2, 0, none⟩) 1 1) 1 (LM.cellI p)) := by
    have h := World.ownsRow_lit (base := w.heap.size + 2) (e := 27) (size := 6) ((w.alloc (.cells (M.cellsI p.a p.i) 27)).alloc (.cells #[.slice none 0 0, .slice none 0 0, .int .i64 0] 32)) (M.cellsI p.a p.i) 1 (by simp) (by decide) rfl
    have e : ((w.alloc (.cells (M.cellsI p.a p.i) 27)).alloc (.cells #[.slice none 0 0, .slice none 0 0, .int .i64 0] 32)).heap.size = w.heap.size + 2 := by simp
    rw [e] at h
    exact h
  have HB3 := hideC (HBB.out.alloc (by simp; omega) (.cells (M.cellsI p.a p.i) 27))
  have BM3 := hideC (B.alloc BM.out (.cells (M.cellsI p.a p.i) 27))
  have BR3 := hideC (B.alloc BR.out (.cells (M.cellsI p.a p.i) 27))
  clear BM BR HBB
  obtain ⟨all, hall⟩ : ∃ all, all = p :: libs := ⟨_, rfl⟩
  have hlen : libs.length + 1 = all.length := by rw [hall]; rfl
  have HALL := hideC hall
  rw [← hall] at HIM HFA h7 hck hgat hend hsh HEN ⊢
  clear hall
  have HGAT := hideC hgat
  have HSH := hideC hsh
  have HCK := hideC hck
  have HEND := hideC hend
  clear hgat hsh hck hend
  obtain ⟨Z, hZ⟩ : ∃ Z, Z = AM.cellsB (fun _ => 0) := ⟨_, rfl⟩
  have hzv := AW.zv42
  rw [← hZ] at hzv
  have HZ : Hid (Z = AM.cellsB (fun _ => 0)) := hZ
  have hZs : Z.size = 256 := by rw [hZ]; exact AM.cellsB_size _
  clear hZ
  simp only [M.cellsI] at HOW0 HB3 BM3 BR3 ⊢
  go_enter Try.func8, Try.ntmps8
  go_wp2_with (at_builtin; refine wpList_append_libs rfl _ _ rfl (w.heap.size + 2) p (w.heap.size + 2) (by first | rfl | simp) HOW0.out ao cap libs rfl (HL.out.below HB3.out) (by omega) (by simp) ?_; intro gg capg w1 hown hgrow hlt; have HB1 := hideC (HB3.out.grown hgrow (by simp; omega) (fun q hq => by injection hq with hq; omega)); have BM1 := hideC (B.grown BM3.out hgrow (by simp)); have BR1 := hideC (B.grown BR3.out hgrow (by simp)); have hown2 := hown; rw [← HALL.out, hlen] at hown2; have HI1 := hideC (row_im (l := all) hown2 hlt (HIM.out _ HB1.out)); clear hown hown2 hgrow hlt)
  have HAI : Hid (Ai all (some ⟨gg, 0, none⟩) w1) := ⟨HI1.out, by omega, h7, HCK.out⟩
  refine (objectsR_any all (some ⟨gg, 0, none⟩) capg w1 HAI.out).mono ?_
  rintro e w3 ⟨hb3, hout⟩
  have HB3 := hideC (HB1.out.trans (hb3.mono HB1.out.size))
  have BM3 := hideC (B.below BM1.out hb3 (B.isLt BM1.out))
  have BR3 := hideC (B.below BR1.out hb3 (B.isLt BR1.out))
  clear hb3 BM1 BR1 HB1 HI1 HAI HL HOW0
  rw [HGAT.out] at hout
  simp only at hout
  obtain ⟨hx, hout⟩ := hout
  rw [if_neg (by have := HEND.out; omega)] at hout
  obtain ⟨ao3, cap3, rfl, hobs⟩ := hout
  have HOI := hideC (oi_of h7 HCK.out HFA.out hx hobs)
  have HPG := hideC (obs_pages HCK.out hx HEND.out)
  have hxl := LM.obsFrom_length all ix 1
  have hxp := hx.pos
  have HB0 : Hid ((LM.obAt (LM.obsFrom all 1 ix) 0).base = 1) := by
    show _ = _
    rw [(LM.obsFrom_at all ix 1 0 hxp).2.2]
    rfl
  have hfw : ix.length ≤ 7 := by have := hx.le; omega
  have HPAT := hideC (obs_pats HSH.out)
  have HFI := hideC (LM.areas_eq HCK.out hx HEND.out).2
  obtain ⟨l, hl⟩ : ∃ l, l = LM.obsFrom all 1 ix := ⟨_, rfl⟩
  have HLL := hideC hl
  rw [← hl] at HOI HPG hxl HB0 HSH HPAT HFI
  rw [← hxl] at hfw hxp
  rw [← hxl]
  clear hl hx hobs hxl
  have HOI2 : Hid (Oi l ao3 w3) := HOI.out
  obtain ⟨ob0, oo, hao3, hobl, holie⟩ := HOI.out.has hxp
  subst hao3
  have HOL := hideC holie
  clear holie
  have HSZ3 := HB3.out.size
  have HBo0 : Hid (Bo (w3.heap.size + 2) w3.heap.size (w3.heap.size + 1) ((w3.alloc (.cells Z 77)).alloc (.cells #[.slice none 0 0, .slice none 0 0, .int .i64 0] 32)) (LM.bob l 0) (.slice none 0 0) []) := by
    refine ⟨?_, ?_, World.ownsRow_nil _ _ _ _, fun k hk => by simp at hk⟩
    · have e : AM.cellsB (fun q => AM.enc (LM.bob l 0 q)) = Z := by rw [HZ.out]; rfl
      rw [e]
      exact B.alloc (B.new w3 Z 77) _
    · have := B.new (w3.alloc (.cells Z 77)) #[.slice none 0 0, .slice none 0 0, .int .i64 0] 32
      simpa using this
  have HBw0 : Hid (Below w3.heap.size w3 ((w3.alloc (.cells Z 77)).alloc (.cells #[.slice none 0 0, .slice none 0 0, .int .i64 0] 32))) := ((Below.refl _ _).alloc (Nat.le_refl _) _).alloc (by simp) _
  go_wp2
  obtain ⟨lo, hlo⟩ : ∃ lo, lo = w3.heap.size + 2 := ⟨_, rfl⟩
  rw [← hlo] at HBo0
  go_loopw [9] (fun nx wr => ∃ (n : Nat) (E : List LM.Sp) (v : Value) (hs : List LM.Sh), nx = .int .i64 n ∧ n ≤ l.length ∧ LM.obsTo l n = some E ∧ hs.map LM.plain = E ∧ hs.length ≤ n * 1600 ∧ Bo lo w3.heap.size (w3.heap.size + 1) wr (LM.bob l n) v hs ∧ Below w3.heap.size w3 wr) (fun nx _ => l.length - (intOf nx).toNat)
  case atStart => exact ⟨0, [], _, [], rfl, by omega, rfl, rfl, by simp, HBo0.out, HBw0.out⟩
  case round =>
    clear HBo0 HBw0 hzv hZs HZ
    obtain ⟨n, E, v, hs, rfl, hn, hE, hmE, hlen1, hbo, hb⟩ := hrel
    have HE := hideC hE
    have HME := hideC hmE
    have HBO := hideC hbo
    have HBr := hideC hb
    clear hE hmE hbo
    by_cases hnl : n < l.length
    · obtain ⟨ps, hps⟩ := HPAT.out n hnl
      have HNX : Hid (LM.obsTo l (n + 1) = some (E ++ LM.sgsTo (LM.obAt l n) ps (LM.obAt l n).i.segs.length)) := obs_next HE.out hps
      have HNB : Hid (LM.bob l (n + 1) = LM.bsg (LM.obAt l n) (LM.bob l n) (LM.obAt l n).i.segs.length) := rfl
      have hck := HOI.out.chk n hnl
      have hbs := HPG.out n hnl
      have HSB := hideC (LM.seg_bounds hck)
      have HSL := hideC (LM.segs_last hck)
      have hcn := LM.counts_of hck
      have HCell : Hid (∀ V, Below w3.heap.size w3 V → (V.cell? ⟨ob0, oo + n * 7, none⟩ = some (.string (LM.obAt l n).i.name) ∧ V.cell? ⟨ob0, oo + n * 7 + 1, none⟩ = some (.slice (LM.obAt l n).a.an (LM.obAt l n).i.needs.length (LM.obAt l n).a.cn) ∧
         V.cell? ⟨ob0, oo + n * 7 + 2, none⟩ = some (.slice (LM.obAt l n).a.ag (LM.obAt l n).i.segs.length (LM.obAt l n).a.cg) ∧ V.cell? ⟨ob0, oo + n * 7 + 3, none⟩ = some (.slice (LM.obAt l n).a.ay (LM.obAt l n).i.syms.length (LM.obAt l n).a.cy) ∧
         V.cell? ⟨ob0, oo + n * 7 + 4, none⟩ = some (.slice (LM.obAt l n).a.ar (LM.obAt l n).i.rels.length (LM.obAt l n).a.cr) ∧ V.cell? ⟨ob0, oo + n * 7 + 5, none⟩ = some (.int .i64 (LM.obAt l n).i.entry) ∧ V.cell? ⟨ob0, oo + n * 7 + 6, none⟩ = some (.int .i64 (LM.obAt l n).base))) := fun V hV => (LM.lieO hV hobl HOL.out n hnl).1
      have HIMO := hideC (HOL.out n hnl).2
      have HFX : Hid (∀ V page, Below w3.heap.size w3 V → 0 ≤ page → page ≤ 3000 → Calls Try.prog 29 #[.slice (some ⟨ob0, oo, none⟩) l.length cap3, .agg (LM.cellsO (LM.obAt l n)), .int .i64 page] V fun e w' => (∃ v, e = .returned v ∧ w'.ownsRow V.heap.size 89 2 v (LM.fixesN page ps).length ((LM.fixesN page ps).flatMap LM.cellF)) ∧ Below V.heap.size V w') := fun V page hV h1 h2 => fixesR_any l _ cap3 (LM.obAt l n) page ps V (HOI.out.below hV) (HIMO.out.below hV) hck (by omega) (HOI.out.base n hnl).2 h1 h2 hps
      obtain ⟨F0, hF0⟩ : ∃ F0, F0 = LM.bob l n := ⟨_, rfl⟩
      rw [← hF0] at HBO HNB
      obtain ⟨o, ho⟩ : ∃ o, o = LM.obAt l n := ⟨_, rfl⟩
      have HEO : Hid (LM.endO o = o.base + (LM.lastSeg o.i).page + (LM.lastSeg o.i).pages) := rfl
      rw [← ho] at HNX HNB hck hbs HSB HSL hcn HCell HIMO HFX
      obtain ⟨bs, offs, hag, hbls, hlg⟩ := HIMO.out.segs (by omega)
      have HLG := hideC hlg
      rw [hag] at HCell
      clear ho hF0 hlg hb hps HIMO
      simp only [LM.cellsO] at HFX
      rw [hag] at HFX
      rw [HEO.out] at hbs
      clear hag HEO
      have c2 := (HCell.out _ HBr.out).2.2.1
      go_wp2
      go_loopw [10] (fun kx wr => ∃ (k : Nat) (v : Value) (hs' : List LM.Sh), kx = .int .i64 k ∧ k ≤ o.i.segs.length ∧ hs'.map LM.plain = E ++ LM.sgsTo o ps k ∧ hs'.length ≤ n * 1600 + k * 255 ∧ Bo lo w3.heap.size (w3.heap.size + 1) wr (LM.bsg o F0 k) v hs' ∧ Below w3.heap.size w3 wr) (fun kx _ => o.i.segs.length - (intOf kx).toNat)
      case atStart => exact ⟨0, v, hs, rfl, by omega, by rw [HME.out]; simp [LM.sgsTo], by omega, HBO.out, HBr.out⟩
      case round =>
        clear c2 HBO HBr HME hlen1
        obtain ⟨k, v, hs', rfl, hk, hmE, hlen2, hbo, hb⟩ := hrel
        have HM2 := hideC hmE
        have HBO := hideC hbo
        have HBr := hideC hb
        have hsz := hb.size
        have c2 := (HCell.out _ HBr.out).2.2.1
        clear hmE hbo
        by_cases hkl : k < o.i.segs.length
        · obtain ⟨s0, s1, s2, s3, s4⟩ := M.lieG hb hbls HLG.out k hkl
          have hsb := HSB.out k hkl
          have hsl := HSL.out k hkl
          have hbls' : bs < wr.heap.size := Nat.lt_of_lt_of_le hbls hsz
          have HNS : Hid (LM.sgsTo o ps (k + 1) = LM.sgsTo o ps k ++ LM.pgsTo o ps (M.sgAt o.i.segs k) (M.sgAt o.i.segs k).pages.toNat) := rfl
          have HNF : Hid (LM.bsg o F0 (k + 1) = AM.layTo (LM.bsg o F0 k) (LM.arO o (M.sgAt o.i.segs k)) (o.base + (M.sgAt o.i.segs k).page + (M.sgAt o.i.segs k).pages)) := rfl
          obtain ⟨F1, hF1⟩ : ∃ F1, F1 = LM.bsg o F0 k := ⟨_, rfl⟩
          rw [← hF1] at HNF HBO
          obtain ⟨s, hse⟩ : ∃ s, s = M.sgAt o.i.segs k := ⟨_, rfl⟩
          rw [← hse] at s0 s1 s2 s3 s4 hsb hsl HNS HNF
          clear hse hF1
          obtain ⟨P, hP⟩ : ∃ P : Nat, s.pages = (P : Int) := ⟨s.pages.toNat, by omega⟩
          obtain ⟨pg, pn, dt, wb, ex⟩ := s
          simp only at s0 s1 s2 s3 s4 hsb hsl HNS HNF hP
          subst hP
          rw [Int.toNat_natCast] at HNS
          have HBA := hideC (HBr.out.alloc HBr.out.size (.cells #[.int .i64 pg, .int .i64 P, .string dt, .bool wb, .bool ex] 79))
          have HRA := hideC ((Below.refl wr.heap.size wr).alloc (Nat.le_refl _) (.cells #[.int .i64 pg, .int .i64 P, .string dt, .bool wb, .bool ex] 79))
          have BS := hideC (B.new wr #[.int .i64 pg, .int .i64 P, .string dt, .bool wb, .bool ex] 79)
          have HBOA := hideC (HBO.out.below HRA.out (by omega) (by omega))
          have HVR : Hid (∀ q, v.ownBlock = some q → q < wr.heap.size) := fun q hq => (HBO.out.row.lt q hq).2
          have hobz := B.isLt HBO.out.out
          clear hb HBO
          obtain ⟨d, hd⟩ : ∃ d : Nat, (P : Int) * 16 - (dt.size : Int) = (d : Int) := ⟨((P : Int) * 16 - (dt.size : Int)).toNat, by omega⟩
          have hd2 : d ≤ 100000 := by omega
          have HZS : Hid ((zs d).size = d) := by show _ = _; simp [zs, ByteArray.size]
          have hzs : (zs d).size ≤ 100000 := by rw [HZS.out]; exact hd2
          have hmk := fun V => mk_zero V d hd2
          have hcv : ∀ V : World, (convert 80 9 (.slice (some ⟨V.heap.size, 0, none⟩) d d)).run Try.prog (V.alloc (.cells (zc d) 5)).drew = .ok (.string (zs d)) (V.alloc (.cells (zc d) 5)).drew := fun V => cv_zero _ V.heap.size d (B.new V (zc d) 5)
          have hw1 : IntKind.i64.wrap ((P : Int) * 16) = (P : Int) * 16 := IntWalk.i64_in _ (by omega)
          have hw2 : IntKind.i64.wrap ((P : Int) * 16 - (dt.size : Int)) = (d : Int) := by rw [hd]; exact IntWalk.i64_in _ (by omega)
          obtain ⟨ZS, hZS⟩ : ∃ ZS, ZS = zs d := ⟨_, rfl⟩
          rw [← hZS] at hcv hzs HZS
          obtain ⟨ZC, hZC⟩ : ∃ ZC, ZC = zc d := ⟨_, rfl⟩
          rw [← hZC] at hcv hmk
          have hds : dt.size ≤ 100000 := by omega
          clear hZC
          have HZE := hideC hZS
          clear hZS
          obtain ⟨WR, hWR⟩ : ∃ WR, WR = wr := ⟨_, rfl⟩
          subst hWR
          obtain ⟨PR, hPR⟩ : ∃ PR, PR = LM.protN ⟨pg, P, dt, wb, ex⟩ := ⟨_, rfl⟩
          have HPR := hideC hPR
          have hprb : 0 ≤ PR ∧ PR ≤ 3 := by rw [hPR]; exact LM.protN_bd _
          clear hPR
          have x1 := B.cell BS.out 1 rfl
          have x2 := B.cell BS.out 2 rfl
          have x3 := B.cell BS.out 3 rfl
          have x4 := B.cell BS.out 4 rfl
          go_upto_if 51 with fail
          obtain ⟨WA, hWA⟩ : ∃ WA, WA = WR.alloc (.cells #[.int .i64 pg, .int .i64 P, .string dt, .bool wb, .bool ex] 79) := ⟨_, rfl⟩
          have hwas : WR.heap.size < WA.heap.size := by rw [hWA]; simp
          rw [← hWA] at x1 x2 x3 x4 HBA HRA BS HBOA ⊢
          clear hWA
          go_cut [12] (fun x12 wx => x12 = .int .i64 (if wb then 1 else 0) ∧ wx = WA)
          case first =>
            cases wb
            · go_wp2
              go_meet
              exact ⟨rfl, rfl⟩
            · go_wp2
              go_meet
              exact ⟨rfl, rfl⟩
          case rest =>
          obtain ⟨rfl, hwc⟩ := hcut
          have hwc := hwc.symm
          subst hwc
          go_upto_if 55 with fail
          go_cut [12] (fun x12 wx => x12 = .int .i64 PR ∧ wx = WA)
          case first =>
            cases wb <;> cases ex <;> (go_wp2; go_meet; exact ⟨by rw [HPR.out]; rfl, rfl⟩)
          case rest =>
            obtain ⟨rfl, hwc⟩ := hcut
            have hwc := hwc.symm
            subst hwc
            go_wp2
            go_region
            have HBZ : Hid (Below WA.heap.size WA (WA.alloc (.cells ZC 5)).drew) := (below_drewN ((Below.refl _ _).alloc (Nat.le_refl _) _) 1)
            have BS0 := hideC (B.below BS.out HBZ.out (B.isLt BS.out))
            have HBO0 := hideC (HBOA.out.below HBZ.out (by omega) (by omega))
            have HB0' := hideC (HBA.out.trans (HBZ.out.mono HBA.out.size))
            have hobl' := B.isLt HBO0.out.out
            have HSR : Hid (∀ q, v.ownBlock = some q → q < WR.heap.size) := HVR.out
            obtain ⟨WB, hWB⟩ : ∃ WB, WB = (WA.alloc (.cells ZC 5)).drew := ⟨_, rfl⟩
            rw [← hWB] at BS0 HBO0 HB0' hobl' ⊢
            obtain ⟨DD, hDD⟩ : ∃ DD, DD = dt ++ ZS := ⟨_, rfl⟩
            have HDD := hideC hDD
            rw [← hDD]
            clear hWB HBZ HBA HRA BS HBOA x1 x2 hmk hcv hDD
            go_wp2
            go_loopw [14] (fun mx wi => ∃ (m : Nat) (v : Value) (hs2 : List LM.Sh), mx = .int .i64 m ∧ m ≤ P ∧ hs2.map LM.plain = (E ++ LM.sgsTo o ps k) ++ LM.pgsTo o ps ⟨pg, P, dt, wb, ex⟩ m ∧ hs2.length ≤ n * 1600 + k * 255 + m ∧ Bo lo w3.heap.size (w3.heap.size + 1) wi (AM.layTo F1 (LM.arO o ⟨pg, P, dt, wb, ex⟩) (o.base + pg + (m : Int))) v hs2 ∧ Below w3.heap.size w3 wi ∧ wi.heap[WR.heap.size]? = some (.cells #[.int .i64 pg, .int .i64 P, .string dt, .bool wb, .bool ex] 79 (0, 0)) ∧ some WR.heap.size ≠ v.ownBlock) (fun mx _ => P - (intOf mx).toNat)
            case atStart => exact ⟨0, v, hs', rfl, by omega, by rw [HM2.out]; simp [LM.pgsTo], by omega, by rw [show o.base + pg + ((0 : Nat) : Int) = (LM.arO o ⟨pg, P, dt, wb, ex⟩).page from by simp [LM.arO], AM.layTo_begin]; exact HBO0.out, HB0'.out, BS0.out, fun e => by have := HSR.out _ e.symm; omega⟩
            case round =>
              clear HBO0 HB0' BS0 HSR HM2 hlen2
              obtain ⟨m, v, hs2, rfl, hm, hm3, hlen3, hbo, hb, hbs2, hnr⟩ := hrel
              have HM3 := hideC hm3
              have HBO := hideC hbo
              have HBi := hideC hb
              have HBS := hideC hbs2
              have HNR := hideC hnr
              have x0 := B.cell hbs2 0 rfl
              have x1 := B.cell hbs2 1 rfl
              have hisz := hb.size
              have hsbl := B.isLt hbs2
              clear hm3 hbo hbs2 hnr
              by_cases hmP : m < P
              · have y6 := (HCell.out _ hb).2.2.2.2.2.2
                obtain ⟨pn, hpn⟩ : ∃ pn : Nat, o.base + pg + (m : Int) = (pn : Int) := ⟨(o.base + pg + (m : Int)).toNat, by omega⟩
                have hpb : 1 ≤ pn ∧ pn ≤ 255 := by omega
                have HLS := hideC (AM.layTo_step F1 (LM.arO o ⟨pg, P, dt, wb, ex⟩) pn (by show o.base + pg ≤ (pn : Int); omega))
                have HNP := hideC (LM.pgsTo_succ o ps ⟨pg, P, dt, wb, ex⟩ m)
                have HSP : Hid (LM.pgN o ps ⟨pg, P, dt, wb, ex⟩ m = ⟨(pn : Int), LM.pageN ⟨pg, P, dt, wb, ex⟩ m, LM.fixesN (pn : Int) ps⟩) := by
                  show _ = _
                  unfold LM.pgN
                  rw [hpn]
                have HFXm := hideC (fun V hV => HFX.out V (pn : Int) hV (by omega) (by omega))
                have HPE : Hid (LM.pageN ⟨pg, P, dt, wb, ex⟩ m = DD.extract (m * 16) (m * 16 + 16)) := by
                  show _ = _
                  rw [HDD.out, HZE.out]
                  exact page_ext _ m d hd (by simpa using hmP)
                rw [hpn] at HBO
                obtain ⟨F2, hF2⟩ : ∃ F2, F2 = AM.layTo F1 (LM.arO o ⟨pg, P, dt, wb, ex⟩) (pn : Int) := ⟨_, rfl⟩
                rw [← hF2] at HBO HLS
                clear hF2
                have hm1 : (m : Int) < (P : Int) := by omega
                have hn1 : (n : Int) < (l.length : Int) := by omega
                have hn0 : (0 : Int) ≤ (n : Int) := by omega
                have hw3 : IntKind.i64.wrap (o.base + pg) = o.base + pg := IntWalk.i64_in _ (by omega)
                have hw4 : IntKind.i64.wrap (o.base + pg + (m : Int)) = (pn : Int) := by rw [hpn]; exact IntWalk.i64_in _ (by omega)
                go_wp2
                go_quiet (fail)
                have HBQ := hideC (below_drewN (Below.refl wr.heap.size wr) nq)
                obtain ⟨V, hV⟩ : ∃ V, V = wr.drewN nq := ⟨_, rfl⟩
                rw [← hV] at HBQ ⊢
                have HBV := hideC (HBi.out.trans (HBQ.out.mono HBi.out.size))
                have HBOV := hideC (HBO.out.below HBQ.out (by omega) (by omega))
                have HBSV := hideC (B.below HBS.out HBQ.out (B.isLt HBS.out))
                have z0 := B.cell HBOV.out.board pn (AM.cellsB_get _ pn (by omega))
                have zf := B.free HBOV.out.board
                have hp256 : (pn : Int) < 256 := by omega
                have hp0 : (0 : Int) ≤ (pn : Int) := by omega
                have HBO1 := hideC (HBOV.out.mark (by omega) (by omega) (by omega) pn (by omega) PR)
                have HBS1 := hideC (B.other HBSV.out w3.heap.size pn (.int .i64 (AM.mark PR false)) (by omega))
                have HBV1 : Hid (Below w3.heap.size w3 (V.setCell ⟨w3.heap.size, pn, none⟩ (.int .i64 (AM.mark PR false)))) := HBV.out.setCell (by simp) _
                clear hV HBO HBQ HBS HBOV HBSV HBi x0 x1 y6 hb
                go_wp2_with (go_at_call 28; refine (AW.mark_any _ _ _ hprb).mono ?_; rintro e w' ⟨rfl, rfl⟩)
                clear z0 zf HBV
                obtain ⟨V1, hV1⟩ : ∃ V1, V1 = V.setCell ⟨w3.heap.size, pn, none⟩ (.int .i64 (AM.mark PR false)) := ⟨_, rfl⟩
                rw [← hV1] at HBO1 HBS1 HBV1 ⊢
                have HBD := hideC (below_drew V1)
                have HSZ1 : Hid (lo ≤ V1.heap.size) := (by have h1 := B.isLt HBO1.out.out; omega : lo ≤ V1.heap.size)
                obtain ⟨y0, y1, y2, y3, y4, y5, y6⟩ := HCell.out _ HBV1.out
                have yo := B.cell (v := v) HBO1.out.out 1 rfl
                have hobV : ob0 < V1.heap.size := Nat.lt_of_lt_of_le hobl HBV1.out.size
                have hoV : w3.heap.size + 1 < V1.heap.size := B.isLt HBO1.out.out
                have HROW : Hid (∀ q, v.ownBlock = some q → lo ≤ q ∧ q < V1.heap.size) := HBO1.out.row.lt
                clear hV1
                have hDs : DD.size = P * 16 := by rw [HDD.out, ByteArray.size_append, HZS.out]; omega
                obtain ⟨FF, hFF⟩ : ∃ FF, FF = LM.fixesN (pn : Int) ps := ⟨_, rfl⟩
                rw [← hFF] at HFXm HSP
                clear hFF
                have hw5 : IntKind.i64.wrap ((m : Int) * 16) = (m : Int) * 16 := IntWalk.i64_in _ (by omega)
                have hw6 : IntKind.i64.wrap ((m : Int) + 1) = (m : Int) + 1 := IntWalk.i64_in _ (by omega)
                have hw7 : IntKind.i64.wrap (((m : Int) + 1) * 16) = ((m : Int) + 1) * 16 := IntWalk.i64_in _ (by omega)
                have hq1 : (0 : Int) ≤ (m : Int) * 16 := by omega
                have hq2 : (m : Int) * 16 ≤ ((m : Int) + 1) * 16 := by omega
                have hq3 : ((m : Int) + 1) * 16 ≤ (DD.size : Int) := by omega
                have hq4 : (0 : Int) ≤ ((m : Int) + 1) * 16 := by omega
                have hq5 : (m : Int) + 1 ≤ (P : Int) := by omega
                have hq6 : (m : Int) ≤ (m : Int) + 1 := by omega
                have ht1 : ((m : Int) * 16).toNat = m * 16 := by omega
                have ht2 : (((m : Int) + 1) * 16).toNat = m * 16 + 16 := by omega
                have hl3 : hs2.length ≤ 100000 := by omega
                obtain ⟨i0, hin, hz0, hz1, hz2⟩ := info_parts infoSh
                go_wp2_with fail
                go_region_law (first
                  | (refine step_append_lies _ rfl _ _ 30 rfl lo 43 i0 (.agg #[.int .i64 0, .string ⟨#[]⟩, .slice none 0 0]) 3 48 Try.underlying30 hin hz0 hz1 hz2 rfl (by decide) _ _ _ rfl HBO5.out.row ⟨w5.heap.size, 0, none⟩ 1 1 [.int .i64 (pn : Int), .string (DD.extract (m * 16) (m * 16 + 16)), .slice af FF.length cf] rfl rfl (B.news HN5.out) (by intro u hu; simp at hu; rcases hu with rfl | rfl | rfl <;> rfl) (by decide) (by unfold maxLen; omega) (by omega) (by have := HSZ5.out; simp; omega) (w5.heap.size + 1) (by simp) ?_; intro gg capg w6 hown6 hgrow hatt hlt6; have HOW6 := hideC hown6; have HGR := hideC hgrow; have HAT := hideC hatt; have HO6 := hideC (B.grown HBO5.out.out hgrow (fun e => by have := (HROW.out _ e.symm).1; omega)); have o6 := B.cell (v := v) HO6.out 1 rfl; have f6 := B.free HO6.out; clear hown6 hgrow hatt)
                  | (go_simp; go_at_call 29; refine (HFXm.out _ (HBV1.out.trans (HBD.out.mono HBV1.out.size))).mono ?_; rintro e w5 ⟨⟨v5, rfl, hrw⟩, hb5⟩; have HW5 := hideC (HBD.out.trans hb5); obtain ⟨af, cf, hvf, hfl⟩ := row_fl hrw (lo := lo) HSZ1.out v.ownBlock (fun q hq => (HROW.out q hq).2); subst hvf; have HFL := hideC hfl; have HA5 := hideC (HW5.out.alloc HW5.out.size (.cells #[.int .i64 (pn : Int), .string (DD.extract (m * 16) (m * 16 + 16)), .slice af FF.length cf] 43)); have HBO5 := hideC (HBO1.out.below HA5.out (by omega) (by omega)); have HN5 := hideC (B.new w5 #[.int .i64 (pn : Int), .string (DD.extract (m * 16) (m * 16 + 16)), .slice af FF.length cf] 43); have HSZ5 : Hid (lo ≤ w5.heap.size) := Nat.le_trans HSZ1.out HW5.out.size; have o5 := B.cell (v := v) (B.below HBO1.out.out HW5.out (B.isLt HBO1.out.out)) 1 rfl; have hl5 : w3.heap.size + 1 < w5.heap.size := Nat.lt_of_lt_of_le hoV HW5.out.size; clear hb5 hrw hfl; go_simp))
                all_goals
                  have hat6 : v.ownBlock = some gg ∨ gg = (w5.alloc (.cells #[.int .i64 (pn : Int), .string (DD.extract (m * 16) (m * 16 + 16)), .slice af FF.length cf] 43)).heap.size := by rw [World.size_alloc]; exact HAT.out
                  have HFL5 := hideC (HFL.out.fq (Fq.ofBelow (bb := w3.heap.size) (ob := w3.heap.size + 1) ((Below.refl w5.heap.size w5).alloc (Nat.le_refl _) (.cells #[.int .i64 (pn : Int), .string (DD.extract (m * 16) (m * 16 + 16)), .slice af FF.length cf] 43)) v.ownBlock) (by omega) (by omega))
                  have HF3 : Hid (AM.upd F2 pn ⟨true, PR, false⟩ = AM.layTo F1 (LM.arO o ⟨pg, P, dt, wb, ex⟩) (o.base + pg + ((m + 1 : Nat) : Int))) := by
                    show _ = _
                    rw [HPR.out, show o.base + pg + ((m + 1 : Nat) : Int) = (pn : Int) + 1 from by omega]
                    exact HLS.out
                  have HMO := hideC (HBO5.out.more (x := ⟨(pn : Int), DD.extract (m * 16) (m * 16 + 16), FF, af, cf⟩) (by omega) (by omega) (by omega) HFL5.out HOW6.out HGR.out HGR.out.size hat6)
                  have hWs : WR.heap.size < w5.heap.size := Nat.lt_of_lt_of_le (B.isLt HBS1.out) HW5.out.size
                  have HSG6 := hideC (B.other (B.grown (B.below HBS1.out HA5.out (B.isLt HBS1.out)) HGR.out HNR.out) (w3.heap.size + 1) 1 (.slice (some ⟨gg, 0, none⟩) (hs2.length + 1) capg) (by omega))
                  have HBW6 : Hid (Below w3.heap.size w3 (w6.setCell ⟨w3.heap.size + 1, 1, none⟩ (.slice (some ⟨gg, 0, none⟩) (hs2.length + 1) capg))) := ((HBV1.out.trans (HA5.out.mono HBV1.out.size)).grown HGR.out (by have := HSZ5.out; simp; omega) (fun q hq => by have := (HROW.out q hq).1; omega)).setCell (by simp) _
                  have HM9 : Hid ((hs2 ++ [(⟨(pn : Int), DD.extract (m * 16) (m * 16 + 16), FF, af, cf⟩ : LM.Sh)]).map LM.plain = (E ++ LM.sgsTo o ps k) ++ LM.pgsTo o ps ⟨pg, P, dt, wb, ex⟩ (m + 1)) := by
                    show _ = _
                    rw [HNP.out, HSP.out, HPE.out, List.map_append, HM3.out, List.append_assoc (E ++ LM.sgsTo o ps k)]
                    rfl
                  have hl9 : (hs2 ++ [(⟨(pn : Int), DD.extract (m * 16) (m * 16 + 16), FF, af, cf⟩ : LM.Sh)]).length ≤ n * 1600 + k * 255 + (m + 1) := by
                    simp only [List.length_append, List.length_singleton]
                    omega
                  have HBO9 : Hid (Bo lo w3.heap.size (w3.heap.size + 1) (w6.setCell ⟨w3.heap.size + 1, 1, none⟩ (.slice (some ⟨gg, 0, none⟩) (hs2.length + 1) capg)) (AM.layTo F1 (LM.arO o ⟨pg, P, dt, wb, ex⟩) (o.base + pg + ((m + 1 : Nat) : Int))) (.slice (some ⟨gg, 0, none⟩) (hs2.length + 1) capg) (hs2 ++ [⟨(pn : Int), DD.extract (m * 16) (m * 16 + 16), FF, af, cf⟩])) := by
                    rw [← HF3.out]
                    exact HMO.out
                  have HNE9 : Hid (some WR.heap.size ≠ (Value.slice (some ⟨gg, 0, none⟩) (hs2.length + 1) capg).ownBlock) := fun e => by
                    injection e with e
                    rcases hat6 with h | h
                    · exact HNR.out (by rw [h, e])
                    · rw [World.size_alloc] at h
                      have e2 : WR.heap.size = gg := e
                      omega
                  clear o6 f6 o5 yo
                  go_wp2
                  go_roundw
                  case rel => exact ⟨m + 1, .slice (some ⟨gg, 0, none⟩) (hs2.length + 1) capg, hs2 ++ [⟨(pn : Int), DD.extract (m * 16) (m * 16 + 16), FF, af, cf⟩], by go_num, hmP, HM9.out, hl9, HBO9.out, HBW6.out, HSG6.out, HNE9.out⟩
                  case measure => simp [intOf]; omega
              · obtain rfl : m = P := by omega
                clear hb
                go_wp2
                go_roundw
                case rel => exact ⟨k + 1, v, hs2, by go_num, by omega, by rw [HNS.out, HM3.out, List.append_assoc], by omega, by rw [HNF.out]; exact HBO.out, HBi.out⟩
                case measure => simp [intOf]; omega
        · obtain rfl : k = o.i.segs.length := by omega
          clear hb
          go_wp2
          go_roundw
          case rel => exact ⟨n + 1, _, v, hs', by go_num, by omega, HNX.out, HM2.out, by omega, by rw [HNB.out]; exact HBO.out, HBr.out⟩
          case measure => simp [intOf]; omega
    · obtain rfl : n = l.length := by omega
      have HE2 : Hid (E = ES) := Option.some.inj (HE.out.symm.trans HSH.out)
      have BRr := hideC (B.below BR3.out hb (B.isLt BR3.out))
      have BMr := hideC (B.below BM3.out hb (B.isLt BM3.out))
      obtain ⟨D, hD⟩ : ∃ D, D = AM.cellsB (fun q => AM.enc (LM.bob l l.length q)) := ⟨_, rfl⟩
      have hDs : D.size = 256 := by rw [hD]; exact AM.cellsB_size _
      have HBD : Hid (wr.heap[w3.heap.size]? = some (.cells D 77 (0, 0))) := by rw [hD]; exact HBO.out.board
      have HAO : Hid (∀ V, Calls Try.prog 30 #[.agg D] V fun e w' => ∃ v, e = .returned v ∧ AW.Has w' v (AM.gatherN (LM.bob l l.length)) ∧ Below V.heap.size V w') := fun V => by rw [hD]; exact AW.areasOf_any (LM.bob l l.length) HFI.out V
      obtain ⟨ah, ch, hv, hh, hcc, -⟩ := HBO.out.has
      have HVE := hideC hv
      subst hv
      have HFS := hideC HBO.out.fs
      have HOUT := hideC HBO.out.out
      have HC0 := hideC ((LM.lieO hb hobl HOL.out 0 hxp).1.2.2.2.2.2.2)
      have hob3 := B.isLt HBO.out.out
      clear hb hh hD HBO HOL HPG HPAT HOI HOI2
      go_wp2_with (first | (refine wpList_load_row rfl 77 _ rfl w3.heap.size rfl 77 D (0, 0) _ HBD.out Try.underlying77 rfl (by rw [hDs]; exact AW.size42) ?_) | (go_at_call 30; refine (HAO.out _).mono ?_; rintro e w4 ⟨v4, rfl, hhas, hb4⟩; have hha := hhas; obtain ⟨a4, c4, hv4, -⟩ := hha; subst hv4; have HH4 := hideC hhas; have HB4 := hideC (HBr.out.trans (hb4.mono HBr.out.size)); have HO4 := hideC (B.below HOUT.out hb4 (B.isLt HOUT.out)); have BR4 := hideC (B.below BRr.out hb4 (B.isLt BRr.out)); have BM4 := hideC (B.below BMr.out hb4 (B.isLt BMr.out)); have HF4 := hideC (HFS.out.below hb4 (by omega)); have HC4 := hideC ((M.below_cell hb4 (Nat.lt_of_lt_of_le hobl HBr.out.size)).trans HC0.out); have o0 := B.cell HO4.out 0 rfl; have of := B.free HO4.out; clear hhas hb4))
      have HO5 : Hid ((w4.setCell ⟨w3.heap.size + 1, 0, none⟩ (.slice a4 (AM.gatherN (LM.bob l l.length)).length c4)).heap[w3.heap.size + 1]? = some (.cells #[.slice a4 (AM.gatherN (LM.bob l l.length)).length c4, .slice ah hs.length ch, .int .i64 0] 32 (0, 0))) := B.set HO4.out 0 (.slice a4 (AM.gatherN (LM.bob l l.length)).length c4)
      have HH5 := hideC (has_set HO4.out HH4.out 0 (.slice a4 (AM.gatherN (LM.bob l l.length)).length c4))
      have HF5 := hideC (HF4.out.set (w3.heap.size + 1) 0 (by omega) (.slice a4 (AM.gatherN (LM.bob l l.length)).length c4))
      have BR5 := hideC (B.other BR4.out (w3.heap.size + 1) 0 (.slice a4 (AM.gatherN (LM.bob l l.length)).length c4) (by have h9 := B.isLt BR3.out; omega))
      have BM5 := hideC (B.other BM4.out (w3.heap.size + 1) 0 (.slice a4 (AM.gatherN (LM.bob l l.length)).length c4) (by have h9 := B.isLt BM3.out; omega))
      have HC5 := hideC ((World.cell?_setCell_far w4 ⟨w3.heap.size + 1, 0, none⟩ ⟨ob0, oo + 0 * 7 + 6, none⟩ (.slice a4 (AM.gatherN (LM.bob l l.length)).length c4) (by show w3.heap.size + 1 ≠ ob0; omega)).trans HC4.out)
      have HB5 : Hid (Below w3.heap.size w3 (w4.setCell ⟨w3.heap.size + 1, 0, none⟩ (.slice a4 (AM.gatherN (LM.bob l l.length)).length c4))) := HB4.out.setCell (by simp) _
      obtain ⟨GL, hGL⟩ : ∃ GL, GL = (AM.gatherN (LM.bob l l.length)).length := ⟨_, rfl⟩
      rw [← hGL] at HO5 HH5 HF5 BR5 BM5 HC5 HB5 ⊢
      obtain ⟨U1, hU1⟩ : ∃ U1, U1 = w4.setCell ⟨w3.heap.size + 1, 0, none⟩ (.slice a4 GL c4) := ⟨_, rfl⟩
      rw [← hU1] at HO5 HH5 HF5 BR5 BM5 HC5 HB5 ⊢
      have HGL := hideC hGL
      clear hU1 o0 of HO4 HF4 HH4 BR4 BM4 HC4 HB4 hGL
      rw [Nat.zero_mul, Nat.add_zero] at HC5
      obtain ⟨ba, hba⟩ : ∃ ba, ba = (LM.obAt l 0).base := ⟨_, rfl⟩
      have HBA := hideC hba
      have hb1 : ba = 1 := hba.trans HB0.out
      rw [← hba] at HC5
      clear hba
      have hb2 : 0 ≤ ba ∧ ba ≤ 2 := by omega
      clear hb1
      have cb := HC5.out
      have e5 := B.cell BM5.out 5 rfl
      have o2 := B.cell HO5.out 2 rfl
      have of2 := B.free HO5.out
      have heb := HEB.out
      obtain ⟨en, hen⟩ : ∃ en, en = p.i.entry := ⟨_, rfl⟩
      have HENE := hideC hen
      simp only [List.getElem_toArray, List.getElem_cons_succ, List.getElem_cons_zero] at e5 o2
      rw [← hen] at e5 heb
      clear hen
      have hw8 : IntKind.i64.wrap (ba * 16) = ba * 16 := IntWalk.i64_in _ (by omega)
      have hw9 : IntKind.i64.wrap (ba * 16 + en) = ba * 16 + en := IntWalk.i64_in _ (by omega)
      have hl1 : (0 : Int) < (l.length : Int) := by omega
      go_region
      have HO6 := hideC (B.set HO5.out 2 (.int .i64 (ba * 16 + en)))
      have HH6 := hideC (has_set HO5.out HH5.out 2 (.int .i64 (ba * 16 + en)))
      have HF6 := hideC (HF5.out.set (w3.heap.size + 1) 2 (by omega) (.int .i64 (ba * 16 + en)))
      have BR6 := hideC (B.other BR5.out (w3.heap.size + 1) 2 (.int .i64 (ba * 16 + en)) (by have h9 := B.isLt BR3.out; omega))
      have HB6 : Hid (Below w3.heap.size w3 (U1.setCell ⟨w3.heap.size + 1, 2, none⟩ (.int .i64 (ba * 16 + en)))) := HB5.out.setCell (by simp) _
      obtain ⟨U3, hU3⟩ : ∃ U3, U3 = U1.setCell ⟨w3.heap.size + 1, 2, none⟩ (.int .i64 (ba * 16 + en)) := ⟨_, rfl⟩
      rw [← hU3] at HO6 HH6 HF6 BR6 HB6 ⊢
      have HD6 := hideC (below_drew U3)
      have HO7 : Hid (U3.drew.heap[w3.heap.size + 1]? = some (.cells #[.slice a4 GL c4, .slice ah hs.length ch, .int .i64 (ba * 16 + en)] 32 (0, 0))) := B.below HO6.out HD6.out (B.isLt HO6.out)
      have HH7 := hideC (HH6.out.below HD6.out)
      have HF7 := hideC (HF6.out.below HD6.out (by omega))
      have BR7 := hideC (B.below BR6.out HD6.out (B.isLt BR6.out))
      have HB7 := hideC (HB3.out.trans ((HB6.out.trans (HD6.out.mono HB6.out.size)).mono HB3.out.size))
      obtain ⟨U2, hU2⟩ : ∃ U2, U2 = U3.drew := ⟨_, rfl⟩
      rw [← hU2] at HO7 HH7 HF7 BR7 HB7 ⊢
      clear hU2 hU3 HD6 HO6 HH6 HF6 BR6 HB6 cb e5 o2 of2 HO5 HH5 HF5 BR5 BM5 HC5 HB5
      have p0 := B.cell HO7.out 0 rfl
      have p1 := B.cell HO7.out 1 rfl
      have p2 := B.cell HO7.out 2 rfl
      have s0 := B.cell BR7.out 0 rfl
      have s1 := B.cell BR7.out 1 rfl
      have s2 := B.cell BR7.out 2 rfl
      have sf := B.free BR7.out
      have sl := B.isLt BR7.out
      simp only [List.getElem_toArray, List.getElem_cons_succ, List.getElem_cons_zero] at p0 p1 p2 s0 s1 s2
      have hrs : w.heap.size + 1 < lo := by have h9 := B.isLt BR3.out; omega
      have BS1 : Hid ((U2.setCell ⟨w.heap.size + 1, 0, none⟩ (.slice a4 GL c4)).heap[w.heap.size + 1]? = some (.cells #[.slice a4 GL c4, .slice none 0 0, .int .i64 0] 32 (0, 0))) := B.set BR7.out 0 (.slice a4 GL c4)
      have BS2 : Hid (((U2.setCell ⟨w.heap.size + 1, 0, none⟩ (.slice a4 GL c4)).setCell ⟨w.heap.size + 1, 1, none⟩ (.slice ah hs.length ch)).heap[w.heap.size + 1]? = some (.cells #[.slice a4 GL c4, .slice ah hs.length ch, .int .i64 0] 32 (0, 0))) := B.set BS1.out 1 (.slice ah hs.length ch)
      have HH8 := hideC (has_set BS2.out (has_set BS1.out (has_set BR7.out HH7.out 0 (.slice a4 GL c4)) 1 (.slice ah hs.length ch)) 2 (.int .i64 (ba * 16 + en)))
      have HF8 := hideC (((HF7.out.set (w.heap.size + 1) 0 hrs (.slice a4 GL c4)).set (w.heap.size + 1) 1 hrs (.slice ah hs.length ch)).set (w.heap.size + 1) 2 hrs (.int .i64 (ba * 16 + en)))
      have HB8 := hideC (((HB7.out.setCell (p := ⟨w.heap.size + 1, 0, none⟩) (by simp) (.slice a4 GL c4)).setCell (p := ⟨w.heap.size + 1, 1, none⟩) (by simp) (.slice ah hs.length ch)).setCell (p := ⟨w.heap.size + 1, 2, none⟩) (by simp) (.int .i64 (ba * 16 + en)))
      go_wp2
      refine bodyPost_ret (v := .agg #[.slice a4 GL c4, .slice ah hs.length ch, .int .i64 (ba * 16 + en)]) (by simp [results, Try.results8, go_sem, s0, s1, s2]) rfl ⟨HB8.out, ?_⟩
      refine ⟨ix, ES, .slice a4 GL c4, hs, ah, ch, HGAT.out, by rw [← HLL.out]; exact HSH.out, by rw [HME.out, HE2.out], ?_, by rw [← HLL.out]; exact HH8.out, HF8.out.has rfl, hcc⟩
      rw [← HLL.out, HEN.out, ← HENE.out]
      show Ending.returned _ = Ending.returned (.agg #[_, _, .int .i64 ((LM.obAt l 0).base * 16 + en)])
      rw [← HBA.out]
end Go.Proofs.Yteieplodndfbhaa.LW
