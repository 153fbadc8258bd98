import Derived.Test.YteieplodndfbhaaGL19
/- The reference's Long: the walk. -/
namespace Go.Proofs.Yteieplodndfbhaa.LW
open Go.RowKit
open Go.Proofs.Yteieplodndfbhaa.W (hideC)
set_option linter.unusedVariables false
set_option maxRecDepth 100000

set_option maxHeartbeats 8000000 in
theorem longR_any (p : LM.Li) (libs : List LM.Li) (ao : Option Addr) (cap : Nat) (w : World) (hp : M.HasIm w p.a p.i) (h : LM.HasI w ao libs) (hfp : M.Fit p.i) (hf : LM.FitI libs) (hz : LM.linkErr (p :: libs) = 0) :
    Calls Try.prog 16 #[LM.imgV p, .slice ao libs.length cap] w fun e w' => (∃ ix, LM.gat (p :: libs) (p :: libs).length 0 [0] = some ix ∧ e = .returned (.string (LM.longN (LM.obsFrom (p :: libs) 1 ix)))) ∧ Below w.heap.size w w' := by
  obtain ⟨h7, hck, ix, ES, hgat, hend, hsh⟩ := link_zero hz
  have h6 : libs.length ≤ 6 := by simpa using h7
  have HL := hideC h
  have HIM : Hid (∀ V, Below w.heap.size w V → ∀ k, k < (p :: libs).length → M.HasIm V (LM.liAt (p :: libs) k).a (LM.liAt (p :: libs) k).i) := fun V hb k hk => by
    cases k with
    | zero => exact hp.below hb
    | succ k =>
      have hk' : k < libs.length := by simpa using hk
      obtain ⟨b, off, _, _, hl⟩ := h (by omega)
      exact (hl k hk').2.below hb
  have HFA : Hid (∀ k, k < (p :: libs).length → M.Fit (LM.liAt (p :: libs) k).i) := fun k hk => by
    cases k with
    | zero => exact hfp
    | succ k => exact hf.2 k (by simpa using hk)
  clear hp h hfp hf hz
  have HBB := hideC ((Below.refl w.heap.size w).alloc (Nat.le_refl _) (.cells (M.cellsI p.a p.i) 27))
  unfold LM.imgV
  have HOW0 : Hid (((w.alloc (.cells (M.cellsI p.a p.i) 27)).alloc (.cells (M.cellsI p.a p.i) 27)).ownsRow (w.heap.size + 1) 27 6 (.slice (some ⟨w.heap.size + 1, 0, none⟩) 1 1) 1 (LM.cellI p)) := by
    have h := World.ownsRow_lit (base := w.heap.size + 1) (e := 27) (size := 6) (w.alloc (.cells (M.cellsI p.a p.i) 27)) (M.cellsI p.a p.i) 1 (by simp) (by decide) rfl
    have e : (w.alloc (.cells (M.cellsI p.a p.i) 27)).heap.size = w.heap.size + 1 := by simp
    rw [e] at h
    exact h
  have HB3 := hideC (HBB.out.alloc (by simp) (.cells (M.cellsI p.a p.i) 27))
  clear HBB
  obtain ⟨all, hall⟩ : ∃ all, all = p :: libs := ⟨_, rfl⟩
  have hlen : libs.length + 1 = all.length := by rw [hall]; rfl
  have HALL := hideC hall
  rw [← hall] at HIM HFA h7 hck hgat hend hsh ⊢
  clear hall
  have HGAT := hideC hgat
  have HSH := hideC hsh
  have HCK := hideC hck
  have HEND := hideC hend
  clear hgat hsh hck hend
  obtain ⟨RS, hRS⟩ : ∃ RS : Ending → World → Prop, RS = fun e w' => (∃ ix, LM.gat all all.length 0 [0] = some ix ∧ e = .returned (.string (LM.longN (LM.obsFrom all 1 ix)))) ∧ Below w.heap.size w w' := ⟨_, rfl⟩
  have HRS : Hid (∀ w', Below w.heap.size w w' → RS (.returned (.string (LM.longN (LM.obsFrom all 1 ix)))) w') := fun w' hw' => by rw [hRS]; exact ⟨⟨ix, HGAT.out, rfl⟩, hw'⟩
  rw [← hRS]
  clear hRS
  obtain ⟨d4, hd4⟩ : ∃ d4, d4 = 4096 := ⟨_, rfl⟩
  have hmk : ∀ V : World, (Instr.makeSlice 80 (.int .i64 4096) (.int .i64 4096)).run Try.prog V = .ok (.slice (some ⟨V.heap.size, 0, none⟩) 4096 4096) (V.alloc (.cells (zc d4) 5)) := fun V => by rw [hd4]; exact mk_zero V 4096 (by decide)
  have hcv : ∀ V : World, (convert 80 9 (.slice (some ⟨V.heap.size, 0, none⟩) 4096 4096)).run Try.prog (V.alloc (.cells (zc d4) 5)) = .ok (.string (zs d4)) (V.alloc (.cells (zc d4) 5)) := fun V => by rw [hd4]; exact cv_zero _ V.heap.size 4096 (B.new V (zc 4096) 5)
  have HZS : Hid ((zs d4).size = 4096) := by rw [hd4]; show _ = _; simp [zs, ByteArray.size]
  have HZL : Hid (LM.longN (LM.obsFrom all 1 ix) = LM.rlOver (LM.obsFrom all 1 ix) (LM.obOver (LM.obsFrom all 1 ix) (zs d4) (LM.obsFrom all 1 ix).length) (LM.obsFrom all 1 ix).length) := by rw [hd4]; rfl
  obtain ⟨ZS, hZS⟩ : ∃ ZS, ZS = zs d4 := ⟨_, rfl⟩
  rw [← hZS] at hcv HZS HZL
  obtain ⟨ZC, hZC⟩ : ∃ ZC, ZC = zc d4 := ⟨_, rfl⟩
  rw [← hZC] at hcv hmk
  clear hZC hZS hd4 d4
  simp only [M.cellsI] at HOW0 HB3 ⊢
  go_enter Try.func16, Try.ntmps16
  go_wp2_with (at_builtin; refine wpList_append_libs rfl _ _ rfl (w.heap.size + 1) p (w.heap.size + 1) (by first | rfl | simp) HOW0.out ao cap libs rfl (HL.out.below HB3.out) (by omega) (by simp) ?_; intro gg capg w1 hown hgrow hlt; have HB1 := hideC (HB3.out.grown hgrow (by simp; omega) (fun q hq => by injection hq with hq; omega)); have hown2 := hown; rw [← HALL.out, hlen] at hown2; have HI1 := hideC (row_im (l := all) hown2 hlt (HIM.out _ HB1.out)); clear hown hown2 hgrow hlt)
  have HAI : Hid (Ai all (some ⟨gg, 0, none⟩) w1) := ⟨HI1.out, by omega, h7, HCK.out⟩
  refine (objectsR_any all (some ⟨gg, 0, none⟩) capg w1 HAI.out).mono ?_
  rintro e w3 ⟨hb3, hout⟩
  have HB3 := hideC (HB1.out.trans (hb3.mono HB1.out.size))
  clear hb3 HB1 HI1 HAI HL HOW0
  rw [HGAT.out] at hout
  simp only at hout
  obtain ⟨hx, hout⟩ := hout
  rw [if_neg (by have := HEND.out; omega)] at hout
  obtain ⟨ao3, cap3, rfl, hobs⟩ := hout
  have HOI := hideC (oi_of h7 HCK.out HFA.out hx hobs)
  have HPG := hideC (obs_pages HCK.out hx HEND.out)
  have hxl := LM.obsFrom_length all ix 1
  have hxp := hx.pos
  have hfw : ix.length ≤ 7 := by have := hx.le; omega
  have HPAT := hideC (obs_pats HSH.out)
  obtain ⟨l, hl⟩ : ∃ l, l = LM.obsFrom all 1 ix := ⟨_, rfl⟩
  rw [← hl] at HOI HPG hxl HPAT HRS HZL
  rw [← hxl] at hfw hxp
  rw [← hxl]
  clear hl hx hobs hxl HSH HGAT HEND HCK HFA HIM HALL hlen
  obtain ⟨ob0, oo, hao3, hobl, holie⟩ := HOI.out.has hxp
  subst hao3
  have HOL := hideC holie
  clear holie
  have HBW3 := hideC HB3.out
  clear HB3
  have HZB := hideC ((Below.refl w3.heap.size w3).alloc (Nat.le_refl _) (.cells ZC 5))
  have HOS := hideC (fun k hk => LM.obOver_size (l := l) HOI.out.chk HPG.out ZS HZS.out k hk)
  go_wp2
  go_loopw [8, 7] (fun nx sv wr => ∃ n : Nat, nx = .int .i64 n ∧ n ≤ l.length ∧ sv = .string (LM.obOver l ZS n) ∧ Below w3.heap.size w3 wr) (fun nx _ _ => l.length - (intOf nx).toNat)
  case atStart => exact ⟨0, rfl, by omega, rfl, HZB.out⟩
  case round =>
    clear HZB hmk hcv
    obtain ⟨n, rfl, hn, rfl, hb⟩ := hrel
    have HBr := hideC hb
    by_cases hnl : n < l.length
    · have hck := HOI.out.chk n hnl
      have hbs := HPG.out n hnl
      have hbs2 := HOI.out.base n hnl
      have HSB := hideC (LM.seg_bounds hck)
      have HSL := hideC (LM.segs_last hck)
      have hcn := LM.counts_of hck
      have HSZ := hideC (LM.sgOver_size (LM.obAt l n) hck hbs.1 hbs.2 (LM.obOver l ZS n) (HOS.out n hn))
      have HC2 : Hid (∀ V, Below w3.heap.size w3 V → V.cell? ⟨ob0, oo + n * 7 + 2, none⟩ = some (.slice (LM.obAt l n).a.ag (LM.obAt l n).i.segs.length (LM.obAt l n).a.cg)) := fun V hV => (LM.lieO hV hobl HOL.out n hnl).1.2.2.1
      have HC6 : Hid (∀ V, Below w3.heap.size w3 V → V.cell? ⟨ob0, oo + n * 7 + 6, none⟩ = some (.int .i64 (LM.obAt l n).base)) := fun V hV => (LM.lieO hV hobl HOL.out n hnl).1.2.2.2.2.2.2
      have HNB : Hid (LM.obOver l ZS (n + 1) = LM.sgOver (LM.obAt l n) (LM.obOver l ZS n) (LM.obAt l n).i.segs.length) := rfl
      obtain ⟨S0, hS0⟩ : ∃ S0, S0 = LM.obOver l ZS n := ⟨_, rfl⟩
      rw [← hS0] at HSZ HNB ⊢
      have HIMO := hideC (HOL.out n hnl).2
      obtain ⟨o, ho⟩ : ∃ o, o = LM.obAt l n := ⟨_, rfl⟩
      have HEO : Hid (LM.endO o = o.base + (LM.lastSeg o.i).page + (LM.lastSeg o.i).pages) := rfl
      rw [← ho] at hbs hbs2 HSB HSL hcn HSZ HC2 HC6 HNB HIMO
      rw [HEO.out] at hbs
      obtain ⟨bs, offs, hag, hbls, hlg⟩ := HIMO.out.segs (by omega)
      have HLG := hideC hlg
      rw [hag] at HC2
      clear ho hS0 hlg HIMO hck hag HEO hb
      go_wp2
      go_loopw [9, 7] (fun kx sv wr => ∃ k : Nat, kx = .int .i64 k ∧ k ≤ o.i.segs.length ∧ sv = .string (LM.sgOver o S0 k) ∧ Below w3.heap.size w3 wr) (fun kx _ _ => o.i.segs.length - (intOf kx).toNat)
      case atStart => exact ⟨0, rfl, by omega, rfl, HBr.out⟩
      case round =>
        obtain ⟨k, rfl, hk, rfl, hb⟩ := hrel
        have HBk := hideC hb
        have c2 := HC2.out _ hb
        by_cases hkl : k < o.i.segs.length
        · have hsb := HSB.out k hkl
          have hsl := HSL.out k hkl
          have hsz := HSZ.out k (by omega)
          have HS0 : Hid (∀ V, Below w3.heap.size w3 V → V.cell? ⟨bs, offs + k * 5, none⟩ = some (.int .i64 (M.sgAt o.i.segs k).page)) := fun V hV => (M.lieG hV hbls HLG.out k hkl).1
          have HS2 : Hid (∀ V, Below w3.heap.size w3 V → V.cell? ⟨bs, offs + k * 5 + 2, none⟩ = some (.string (M.sgAt o.i.segs k).data)) := fun V hV => (M.lieG hV hbls HLG.out k hkl).2.2.1
          have HNX : Hid (LM.sgOver o S0 (k + 1) = CL.over (LM.sgOver o S0 k) ((o.base + (M.sgAt o.i.segs k).page) * 16).toNat (M.sgAt o.i.segs k).data) := rfl
          obtain ⟨S1, hS1⟩ : ∃ S1, S1 = LM.sgOver o S0 k := ⟨_, rfl⟩
          rw [← hS1] at hsz HNX ⊢
          obtain ⟨⟨pg, pn, dt, wb, ex⟩, hse⟩ : ∃ s, s = M.sgAt o.i.segs k := ⟨_, rfl⟩
          rw [← hse] at hsb hsl HS0 HS2 HNX
          simp only at hsb hsl HS0 HS2 HNX
          clear hse hS1 hb
          obtain ⟨q, hq⟩ : ∃ q : Nat, (o.base + pg) * 16 = (q : Int) := ⟨((o.base + pg) * 16).toNat, by omega⟩
          rw [hq, Int.toNat_natCast] at HNX
          have hqb : q + dt.size ≤ S1.size := by omega
          have HOV : Hid (∀ V, Below wr.heap.size wr V → Calls Try.prog 38 #[.string S1, .int .i64 (q : Int), .string dt] V fun e w' => e = .returned (.string (CL.over S1 q dt)) ∧ Below V.heap.size V w') := fun V _ => CW.over_any S1 dt q V (by omega) (by omega)
          have hw1 : IntKind.i64.wrap (o.base + pg) = o.base + pg := IntWalk.i64_in _ (by omega)
          have hw2 : IntKind.i64.wrap ((o.base + pg) * 16) = (q : Int) := by rw [hq]; exact IntWalk.i64_in _ (by omega)
          have hkin := Q.kin_some wr
          have HBX : Hid (∀ x : Q.Kin wr.heap.size wr, Below w3.heap.size w3 x.world) := fun x => HBk.out.trans (x.keeps.mono HBk.out.size)
          have a2 := fun x : Q.Kin wr.heap.size wr => HC2.out _ (HBX.out x)
          have a6 := fun x : Q.Kin wr.heap.size wr => HC6.out _ (HBX.out x)
          have r0 := fun x : Q.Kin wr.heap.size wr => HS0.out _ (HBX.out x)
          have r2 := fun x : Q.Kin wr.heap.size wr => HS2.out _ (HBX.out x)
          have hk1 : (k : Int) < (o.i.segs.length : Int) := by omega
          have hk0 : (0 : Int) ≤ (k : Int) := by omega
          have hn1 : (n : Int) < (l.length : Int) := by omega
          have hn0 : (0 : Int) ≤ (n : Int) := by omega
          go_wp2_with fail
          refine Q.region_kin (by kernel_rfl) (by kernel_rfl) ?_
          repeat (first | go_big_quiet_step ((go_at_call 38; with_reducible exact calls_below HOV.out _)) | quiet_step ((go_at_call 38; with_reducible exact calls_below HOV.out _)))
          refine wpQuiet_nil ?_
          intro _ hw'
          obtain ⟨x, hw''⟩ := hw'
          subst hw''
          have HKX := hideC (HBX.out x)
          clear a2 a6 r0 r2 HOV hkin
          obtain ⟨w0, hw0⟩ : ∃ w0, w0 = x.world := ⟨_, rfl⟩
          rw [← hw0] at HKX ⊢
          clear hw0 x
          go_wp2
          go_roundw
          case rel => exact ⟨k + 1, by go_num, by omega, by rw [HNX.out], HKX.out⟩
          case measure => simp [intOf]; omega
        · obtain rfl : k = o.i.segs.length := by omega
          clear hb
          go_wp2
          go_roundw
          case rel => exact ⟨n + 1, by go_num, by omega, by rw [HNB.out], HBk.out⟩
          case measure => simp [intOf]; omega
    · obtain rfl : n = l.length := by omega
      obtain ⟨S0, hS0⟩ : ∃ S0, S0 = LM.obOver l ZS l.length := ⟨_, rfl⟩
      have hS0s : S0.size = 4096 := by rw [hS0]; exact HOS.out l.length (Nat.le_refl _)
      rw [← hS0] at HZL ⊢
      have HRZ := hideC (fun k hk => LM.rlOver_size (l := l) HOI.out.chk HPG.out HPAT.out S0 hS0s k hk)
      clear hS0 hb HOS
      go_wp2
      go_loopw [10, 7] (fun nx sv wr => ∃ n : Nat, nx = .int .i64 n ∧ n ≤ l.length ∧ sv = .string (LM.rlOver l S0 n) ∧ Below w3.heap.size w3 wr) (fun nx _ _ => l.length - (intOf nx).toNat)
      case atStart => exact ⟨0, rfl, by omega, rfl, HBr.out⟩
      case round =>
        clear HBr
        obtain ⟨n, rfl, hn, rfl, hb⟩ := hrel
        have HBr := hideC hb
        by_cases hnl : n < l.length
        · obtain ⟨PS, hps⟩ := HPAT.out n hnl
          have hck := HOI.out.chk n hnl
          have hbs := HPG.out n hnl
          have hbs2 := HOI.out.base n hnl
          have hcr := (LM.counts_of hck).2.2.2.2
          have hrs := HRZ.out n hn
          have HRE := hideC (LM.rel_end hck)
          have HRB := hideC (LM.rel_bounds hck)
          have HNB : Hid (LM.rlOver l S0 (n + 1) = LM.ptOver (LM.rlOver l S0 n) PS) := by
            show LM.ptOver _ ((LM.patN l (LM.obAt l n)).getD []) = _
            rw [hps]
            rfl
          have HRSO : Hid (M.HasBy M.LieR w3 (LM.obAt l n).a.ar (LM.obAt l n).i.rels) := (HOL.out n hnl).2.rels
          have HCell : Hid (∀ V, Below w3.heap.size w3 V → (V.cell? ⟨ob0, oo + n * 7, none⟩ = some (.string (LM.obAt l n).i.name) ∧ V.cell? ⟨ob0, oo + n * 7 + 1, none⟩ = some (.slice (LM.obAt l n).a.an (LM.obAt l n).i.needs.length (LM.obAt l n).a.cn) ∧
             V.cell? ⟨ob0, oo + n * 7 + 2, none⟩ = some (.slice (LM.obAt l n).a.ag (LM.obAt l n).i.segs.length (LM.obAt l n).a.cg) ∧ V.cell? ⟨ob0, oo + n * 7 + 3, none⟩ = some (.slice (LM.obAt l n).a.ay (LM.obAt l n).i.syms.length (LM.obAt l n).a.cy) ∧
             V.cell? ⟨ob0, oo + n * 7 + 4, none⟩ = some (.slice (LM.obAt l n).a.ar (LM.obAt l n).i.rels.length (LM.obAt l n).a.cr) ∧ V.cell? ⟨ob0, oo + n * 7 + 5, none⟩ = some (.int .i64 (LM.obAt l n).i.entry) ∧ V.cell? ⟨ob0, oo + n * 7 + 6, none⟩ = some (.int .i64 (LM.obAt l n).base))) := fun V hV => (LM.lieO hV hobl HOL.out n hnl).1
          have HAD : Hid (∀ k V, Below w3.heap.size w3 V → Calls Try.prog 27 #[.slice (some ⟨ob0, oo, none⟩) l.length cap3, .agg (LM.cellsO (LM.obAt l n)), .agg #[.int .i64 (M.rlAt (LM.obAt l n).i.rels k).pos, .string (M.rlAt (LM.obAt l n).i.rels k).name, .int .i64 (M.rlAt (LM.obAt l n).i.rels k).add]] V fun e w' => e = .returned (addrV (LM.tgtN l (LM.obAt l n) (M.rlAt (LM.obAt l n).i.rels k).name) (M.rlAt (LM.obAt l n).i.rels k).add) ∧ Below V.heap.size V w') := fun k V hV => addressR_any l _ cap3 (LM.obAt l n) (M.rlAt (LM.obAt l n).i.rels k) V (HOI.out.below hV) (by omega) (by omega)
          have HSTP := hideC (fun k (hk : k < (LM.obAt l n).i.rels.length) qs hq => pat_step hps hk (ps := qs) hq)
          have HINS := hideC (fun k (hk : k ≤ (LM.obAt l n).i.rels.length) qs hq => LM.pat_ins (l := l) (o := LM.obAt l n) hck hbs.1 hbs.2 k qs hk hq)
          have HPN : Hid (LM.patTo l (LM.obAt l n) (LM.obAt l n).i.rels.length = some PS) := hps
          have HPO : Hid (∀ k t, LM.ptOf (LM.obAt l n) (M.rlAt (LM.obAt l n).i.rels k) t = ⟨(LM.obAt l n).base * 16 + (M.rlAt (LM.obAt l n).i.rels k).pos, ⟨(Lib.leBytes 8 (CM.low (t + (M.rlAt (LM.obAt l n).i.rels k).add))).toArray⟩⟩) := fun k t => rfl
          obtain ⟨PT, hPT⟩ : ∃ PT, PT = LM.patTo l (LM.obAt l n) := ⟨_, rfl⟩
          obtain ⟨TG, hTG⟩ : ∃ TG, TG = LM.tgtN l (LM.obAt l n) := ⟨_, rfl⟩
          have HP0 : Hid (PT 0 = some []) := hideC (by rw [hPT]; rfl)
          rw [← hTG] at HAD
          rw [← hPT, ← hTG] at HSTP
          rw [← hPT] at HPN HINS
          obtain ⟨PO, hPO⟩ : ∃ PO, PO = LM.ptOf (LM.obAt l n) := ⟨_, rfl⟩
          rw [← hPO] at HSTP HPO
          clear hPT hTG hPO hps
          obtain ⟨S1, hS1⟩ : ∃ S1, S1 = LM.rlOver l S0 n := ⟨_, rfl⟩
          rw [← hS1] at hrs HNB ⊢
          obtain ⟨o, ho⟩ : ∃ o, o = LM.obAt l n := ⟨_, rfl⟩
          have HEO : Hid (LM.endO o = o.base + (LM.lastSeg o.i).page + (LM.lastSeg o.i).pages) := rfl
          rw [← ho] at hck hbs hbs2 hcr HRE HRB HRSO HCell HAD HSTP HINS HPN HPO
          rw [HEO.out] at hbs
          clear ho hS1 hb hck HEO
          obtain ⟨⟨nm, ns, gs, ys, rs, en⟩, ⟨an, cn, ag, cg, ay, cy, ar, cr⟩, ba⟩ := o
          simp only [LM.cellsO] at HAD
          simp only at hbs hbs2 hcr HRE HRB HRSO HCell HAD HSTP HINS HPN HPO
          have hn1 : (n : Int) < (l.length : Int) := by omega
          have hn0 : (0 : Int) ≤ (n : Int) := by omega
          go_wp2
          go_loopw [11, 7] (fun kx sv wr => ∃ (k : Nat) (ps : List LM.Pt), kx = .int .i64 k ∧ k ≤ rs.length ∧ PT k = some ps ∧ sv = .string (LM.ptOver S1 ps) ∧ Below w3.heap.size w3 wr) (fun kx _ _ => rs.length - (intOf kx).toNat)
          case atStart => exact ⟨0, [], rfl, by omega, HP0.out, rfl, HBr.out⟩
          case round =>
            clear HBr
            obtain ⟨k, ps, rfl, hk, hpt, rfl, hb⟩ := hrel
            have HBk := hideC hb
            have z4 := (HCell.out _ hb).2.2.2.2.1
            by_cases hkl : k < rs.length
            · obtain ⟨t, htg, hpn⟩ := HSTP.out k hkl ps hpt
              have hins := HINS.out k hk ps hpt
              have hsz := LM.ptOver_size ps S1 hins hrs
              obtain ⟨rb, ro, har, hrb, hlr⟩ := HRSO.out (by omega)
              subst har
              have HRC : Hid (∀ V, Below w3.heap.size w3 V → (V.cell? ⟨rb, ro + k * 3, none⟩ = some (.int .i64 (M.rlAt rs k).pos) ∧ V.cell? ⟨rb, ro + k * 3 + 1, none⟩ = some (.string (M.rlAt rs k).name) ∧ V.cell? ⟨rb, ro + k * 3 + 2, none⟩ = some (.int .i64 (M.rlAt rs k).add))) := fun V hV => M.lieR hV hrb hlr k hkl
              have HADk := hideC (fun V (hV : Below wr.heap.size wr V) => HAD.out k V (HBk.out.trans (hV.mono HBk.out.size)))
              rw [htg] at HADk
              simp only [addrV] at HADk
              have hpb := HRB.out k hkl
              have hpe := HRE.out k hkl
              have HPOk := hideC (HPO.out k t)
              have HPN1 := hideC hpn
              obtain ⟨⟨rp, rn, ra⟩, hrr⟩ : ∃ r, r = M.rlAt rs k := ⟨_, rfl⟩
              rw [← hrr] at HRC HADk hpb hpe HPOk HPN1
              simp only at HRC HADk hpb hpe HPOk
              rw [HPOk.out] at HPN1
              clear hrr hpn htg HPOk hlr hb hpt HAD hins
              obtain ⟨N, hN⟩ : ∃ N, N = wrap64 (t + ra) := ⟨_, rfl⟩
              have HBy : Hid (∀ V, Calls Try.prog 48 #[.int .i64 N, .int .i64 8] V fun e w' => e = .returned (.string ⟨(Lib.leBytes 8 (CM.low (t + ra))).toArray⟩) ∧ Below V.heap.size V w') := fun V => by
                have hh := CW.bytes_any N 8 V (by omega)
                rw [hN, LM.low_wrap, ← hN] at hh
                exact hh
              rw [← hN] at HADk
              obtain ⟨BB, hBB⟩ : ∃ BB : ByteArray, BB = ⟨(Lib.leBytes 8 (CM.low (t + ra))).toArray⟩ := ⟨_, rfl⟩
              have hBs : BB.size = 8 := by rw [hBB, Lib.size_eq]; simp [Lib.leBytes_length]
              rw [← hBB] at HBy HPN1
              clear hBB hN
              have HPS := hideC (LM.ptOver_snoc S1 ps ⟨ba * 16 + rp, BB⟩)
              obtain ⟨S2, hS2⟩ : ∃ S2, S2 = LM.ptOver S1 ps := ⟨_, rfl⟩
              rw [← hS2] at hsz HPS ⊢
              clear hS2
              obtain ⟨q, hq⟩ : ∃ q : Nat, ba * 16 + rp = (q : Int) := ⟨(ba * 16 + rp).toNat, by omega⟩
              simp only at HPS
              rw [hq, Int.toNat_natCast] at HPS
              have HOV : Hid (∀ V, Calls Try.prog 38 #[.string S2, .int .i64 (q : Int), .string BB] V fun e w' => e = .returned (.string (CL.over S2 q BB)) ∧ Below V.heap.size V w') := fun V => CW.over_any S2 BB q V (by omega) (by omega)
              have hkin := Q.kin_some wr
              have HBX : Hid (∀ x : Q.Kin wr.heap.size wr, Below w3.heap.size w3 x.world) := fun x => HBk.out.trans (x.keeps.mono HBk.out.size)
              have a0 := fun x : Q.Kin wr.heap.size wr => (HCell.out _ (HBX.out x)).1
              have a1 := fun x : Q.Kin wr.heap.size wr => (HCell.out _ (HBX.out x)).2.1
              have a2 := fun x : Q.Kin wr.heap.size wr => (HCell.out _ (HBX.out x)).2.2.1
              have a3 := fun x : Q.Kin wr.heap.size wr => (HCell.out _ (HBX.out x)).2.2.2.1
              have a4 := fun x : Q.Kin wr.heap.size wr => (HCell.out _ (HBX.out x)).2.2.2.2.1
              have a5 := fun x : Q.Kin wr.heap.size wr => (HCell.out _ (HBX.out x)).2.2.2.2.2.1
              have a6 := fun x : Q.Kin wr.heap.size wr => (HCell.out _ (HBX.out x)).2.2.2.2.2.2
              have r0 := fun x : Q.Kin wr.heap.size wr => (HRC.out _ (HBX.out x)).1
              have r1 := fun x : Q.Kin wr.heap.size wr => (HRC.out _ (HBX.out x)).2.1
              have r2 := fun x : Q.Kin wr.heap.size wr => (HRC.out _ (HBX.out x)).2.2
              have hk1 : (k : Int) < (rs.length : Int) := by omega
              have hk0 : (0 : Int) ≤ (k : Int) := by omega
              go_wp2_with fail
              refine Q.region_kin (by kernel_rfl) (by kernel_rfl) ?_
              repeat (first | go_big_quiet_step ((go_at_call 27; with_reducible exact calls_below HADk.out _)) | quiet_step ((go_at_call 27; with_reducible exact calls_below HADk.out _)))
              refine wpQuiet_nil ?_
              intro _ hw'
              obtain ⟨x, hw''⟩ := hw'
              subst hw''
              have HKX := hideC (HBX.out x)
              clear a0 a1 a2 a3 a4 a5 a6 r0 r1 r2 HADk hkin HBX
              obtain ⟨w0, hw0⟩ : ∃ w0, w0 = x.world := ⟨_, rfl⟩
              rw [← hw0] at HKX ⊢
              clear hw0 x
              have hkin := Q.kin_some w0
              have HBX : Hid (∀ x : Q.Kin w0.heap.size w0, Below w3.heap.size w3 x.world) := fun x => HKX.out.trans (x.keeps.mono HKX.out.size)
              have b4 := fun x : Q.Kin w0.heap.size w0 => (HCell.out _ (HBX.out x)).2.2.2.2.1
              have b6 := fun x : Q.Kin w0.heap.size w0 => (HCell.out _ (HBX.out x)).2.2.2.2.2.2
              have s0 := fun x : Q.Kin w0.heap.size w0 => (HRC.out _ (HBX.out x)).1
              have hw1 : IntKind.i64.wrap (ba * 16) = ba * 16 := IntWalk.i64_in _ (by omega)
              have hw2 : IntKind.i64.wrap (ba * 16 + rp) = (q : Int) := by rw [hq]; exact IntWalk.i64_in _ (by omega)
              have HBy2 : Hid (∀ V, Below w0.heap.size w0 V → Calls Try.prog 48 #[.int .i64 N, .int .i64 8] V fun e w' => e = .returned (.string BB) ∧ Below V.heap.size V w') := fun V _ => HBy.out V
              have HOV2 : Hid (∀ V, Below w0.heap.size w0 V → Calls Try.prog 38 #[.string S2, .int .i64 (q : Int), .string BB] V fun e w' => e = .returned (.string (CL.over S2 q BB)) ∧ Below V.heap.size V w') := fun V _ => HOV.out V
              clear HBy HOV z4
              go_wp2_with fail
              refine Q.region_kin (by kernel_rfl) (by kernel_rfl) ?_
              repeat (first | go_big_quiet_step ((first | (go_at_call 48; with_reducible exact calls_below HBy2.out _) | (go_at_call 38; with_reducible exact calls_below HOV2.out _))) | quiet_step ((first | (go_at_call 48; with_reducible exact calls_below HBy2.out _) | (go_at_call 38; with_reducible exact calls_below HOV2.out _))))
              refine wpQuiet_nil ?_
              intro _ hw'
              obtain ⟨x, hw''⟩ := hw'
              subst hw''
              have HKY := hideC (HBX.out x)
              clear b4 b6 s0 HBy2 HOV2 hkin HBX
              obtain ⟨w5, hw5⟩ : ∃ w5, w5 = x.world := ⟨_, rfl⟩
              rw [← hw5] at HKY ⊢
              clear hw5 x
              go_wp2
              go_roundw
              case rel => exact ⟨k + 1, _, by go_num, by omega, HPN1.out, by rw [hq]; exact congrArg Value.string HPS.out.symm, HKY.out⟩
              case measure => simp [intOf]; omega
            · obtain rfl : k = rs.length := by omega
              have e : ps = PS := Option.some.inj (hpt.symm.trans HPN.out)
              subst e
              clear hb
              go_wp2
              go_roundw
              case rel => exact ⟨n + 1, by go_num, by omega, by rw [HNB.out], HBk.out⟩
              case measure => simp [intOf]; omega
        · obtain rfl : n = l.length := by omega
          have HF := hideC (HRS.out wr (HBW3.out.trans (hb.mono HBW3.out.size)))
          rw [HZL.out] at HF
          clear hb
          go_wp2
          exact HF.out
end Go.Proofs.Yteieplodndfbhaa.LW
