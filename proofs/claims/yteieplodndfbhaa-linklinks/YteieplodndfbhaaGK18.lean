import Derived.Test.YteieplodndfbhaaGK13
import Derived.Test.YteieplodndfbhaaGK15
import Derived.Test.YteieplodndfbhaaGK17
import Derived.Test.YteieplodndfbhaaGK12
import Derived.Test.YteieplodndfbhaaGK14
/- The reference's LinkError: which error is told. -/
namespace Go.Proofs.Yteieplodndfbhaa.LW
open Go.RowKit
open Go.Proofs.Yteieplodndfbhaa.W (hideC strs row_has info9 alike_any checkImage_any)
set_option linter.unusedVariables false
set_option maxRecDepth 100000

theorem obs_miss {l : List LM.Ob} {n : Nat} (hn : n < l.length) {E : List LM.Sp} (h : LM.obsTo l n = some E) (hp : LM.patN l (LM.obAt l n) = none) : LM.sheetsN l = none := by
  refine LM.obsTo_none (k := n + 1) ?_ l.length (by omega)
  simp only [LM.obsTo]
  rw [h]
  simp only
  rw [hp]
theorem obs_next {l : List LM.Ob} {n : Nat} {E : List LM.Sp} (h : LM.obsTo l n = some E) {ps : List LM.Pt} (hp : LM.patN l (LM.obAt l n) = some ps) : LM.obsTo l (n + 1) = some (E ++ LM.sgsTo (LM.obAt l n) ps (LM.obAt l n).i.segs.length) := by
  simp only [LM.obsTo]
  rw [h]
  simp only
  rw [hp]
theorem pat_miss {l : List LM.Ob} {o : LM.Ob} {k : Nat} (hk : k < o.i.rels.length) {ps : List LM.Pt} (h : LM.patTo l o k = some ps) (ht : LM.tgtN l o (M.rlAt o.i.rels k).name = none) : LM.patN l o = none := by
  refine LM.patTo_none (k := k + 1) ?_ o.i.rels.length (by omega)
  simp only [LM.patTo]
  rw [h]
  simp only
  rw [ht]
theorem pat_next {l : List LM.Ob} {o : LM.Ob} {k : Nat} {ps : List LM.Pt} (h : LM.patTo l o k = some ps) {t : Int} (ht : LM.tgtN l o (M.rlAt o.i.rels k).name = some t) : LM.patTo l o (k + 1) = some (ps ++ [LM.ptOf o (M.rlAt o.i.rels k) t]) := by
  simp only [LM.patTo]
  rw [h]
  simp only
  rw [ht]
theorem names_snoc (l : List LM.Li) (k : Nat) (h : k < l.length) : (LM.namesL l).take (k + 1) = (LM.namesL l).take k ++ [(LM.liAt l k).i.name] := by
  rw [List.take_add_one, ← LM.namesL_at l k h]
  unfold M.strAt
  rw [List.getD_eq_getElem?_getD, List.getElem?_eq_getElem (by rw [LM.namesL_length]; exact h)]
  rfl
theorem err_step {l : List LM.Li} {k : Nat} (hz : LM.errTo l k = 0) : LM.errTo l (k + 1) = M.chkN (LM.liAt l k).i := by
  simp only [LM.errTo]
  rw [if_pos hz]
theorem link_check {l : List LM.Li} (h7 : l.length ≤ 7) {k : Nat} (hk : k < l.length) (hz : LM.errTo l k = 0) (hc : M.chkN (LM.liAt l k).i ≠ 0) : LM.linkErr l = M.chkN (LM.liAt l k).i := by
  have h1 := err_step hz
  have h2 : LM.errTo l (k + 1) ≠ 0 := by rw [h1]; exact hc
  have h3 := LM.errTo_stays l (k + 1) h2 l.length (by omega)
  have h4 : LM.byErr l = M.chkN (LM.liAt l k).i := by
    unfold LM.byErr
    rw [if_neg (by rw [h3]; exact h2), h3, h1]
  unfold LM.linkErr
  rw [if_neg (by omega), if_neg (by rw [h4]; exact hc), h4]
theorem link_names {l : List LM.Li} (h7 : l.length ≤ 7) (hz : LM.errTo l l.length = 0) (ho : M.onceB (LM.namesL l) = false) : LM.linkErr l = 5 := by
  have h4 : LM.byErr l = 5 := by
    unfold LM.byErr
    rw [if_pos hz, ho]
    rfl
  unfold LM.linkErr
  rw [if_neg (by omega), if_neg (by rw [h4]; decide), h4]
theorem link_rest {l : List LM.Li} (h7 : l.length ≤ 7) (hz : LM.errTo l l.length = 0) (ho : M.onceB (LM.namesL l) = true) : LM.linkErr l = match LM.gat l l.length 0 [0] with
    | none => 6
    | some ix => if 256 < LM.endFrom l 1 ix then 3 else match LM.sheetsN (LM.obsFrom l 1 ix) with
      | none => 7
      | some _ => 0 := by
  have h4 : LM.byErr l = 0 := by
    unfold LM.byErr
    rw [if_pos hz, ho]
    rfl
  unfold LM.linkErr
  rw [if_neg (by omega), if_pos h4]
  rfl
/-- objects that objects made may be handed on -/
theorem oi_of {all : List LM.Li} {w : World} {ao : Option Addr} {ix : List Nat} (h7 : all.length ≤ 7) (hc : ∀ j, j < all.length → M.chkN (LM.liAt all j).i = 0) (hf : ∀ j, j < all.length → M.Fit (LM.liAt all j).i) (hx : LM.OkIx all ix) (h : LM.HasO w ao (LM.obsFrom all 1 ix)) : Oi (LM.obsFrom all 1 ix) ao w :=
  ⟨h, by rw [LM.obsFrom_length]; have := hx.le; omega, fun k hk => by
    rw [LM.obsFrom_length] at hk
    rw [(LM.obsFrom_at all ix 1 k hk).1]
    exact hc _ (hx.lt _ (LM.getD_mem ix k hk)), fun k hk => by
    rw [LM.obsFrom_length] at hk
    rw [(LM.obsFrom_at all ix 1 k hk).1]
    exact hf _ (hx.lt _ (LM.getD_mem ix k hk)), fun k hk => LM.obs_base hc h7 hx k hk⟩
set_option maxHeartbeats 6000000 in
theorem linkErrorR_any (p : LM.Li) (libs : List LM.Li) (ao : Option Addr) (cap : Nat) (w : World) (hp : M.HasIm w p.a p.i) (h : LM.HasI w ao libs) (hfp : M.Fit p.i) (hf : LM.FitI libs) :
    Calls Try.prog 7 #[LM.imgV p, .slice ao libs.length cap] w fun e w' => e = .returned (.int .i64 (LM.linkErr (p :: libs))) ∧ Below w.heap.size w w' := by
  have hsl : libs.length ≤ 140737488351232 := hf.1
  have HP := hideC hp
  have HL := hideC h
  have HIM : Hid (∀ V, Below w.heap.size w V → ∀ k, k < (p :: libs).length → M.HasIm V (LM.liAt (p :: libs) k).a (LM.liAt (p :: libs) k).i) := fun V hb k hk => by
    cases k with
    | zero => exact hp.below hb
    | succ k =>
      have hk' : k < libs.length := by simpa using hk
      obtain ⟨b, off, _, _, hl⟩ := h (by omega)
      exact (hl k hk').2.below hb
  have HFA : Hid (∀ k, k < (p :: libs).length → M.Fit (LM.liAt (p :: libs) k).i) := fun k hk => by
    cases k with
    | zero => exact hfp
    | succ k => exact hf.2 k (by simpa using hk)
  clear hp h hfp hf
  have HBB := hideC ((Below.refl w.heap.size w).alloc (Nat.le_refl _) (.cells (M.cellsI p.a p.i) 27))
  unfold LM.imgV
  obtain ⟨LE, hLE⟩ : ∃ LE, LE = LM.linkErr (p :: libs) := ⟨_, rfl⟩
  have HLE := hideC hLE
  rw [← hLE]
  clear hLE
  go_enter Try.func7, Try.ntmps7
  by_cases h6 : 6 < libs.length
  · have HE : Hid (LM.linkErr (p :: libs) = 2) := by
      show _ = _
      unfold LM.linkErr
      rw [if_pos (by simp; omega)]
    simp only [M.cellsI] at HBB ⊢
    go_wp2
    go_ret
    exact ⟨by rw [HLE.out, HE.out]; rfl, HBB.out⟩
  · have h7 : (p :: libs).length ≤ 7 := by simp; omega
    have HOW0 : Hid (((w.alloc (.cells (M.cellsI p.a p.i) 27)).alloc (.cells (M.cellsI p.a p.i) 27)).ownsRow (w.heap.size + 1) 27 6 (.slice (some ⟨w.heap.size + 1, 0, none⟩) 1 1) 1 (LM.cellI p)) := by
      have h := World.ownsRow_lit (base := w.heap.size + 1) (e := 27) (size := 6) (w.alloc (.cells (M.cellsI p.a p.i) 27)) (M.cellsI p.a p.i) 1 (by simp) (by decide) rfl
      have e : (w.alloc (.cells (M.cellsI p.a p.i) 27)).heap.size = w.heap.size + 1 := by simp
      rw [e] at h
      exact h
    have HB3 := hideC (HBB.out.alloc (by simp) (.cells (M.cellsI p.a p.i) 27))
    clear HBB
    simp only [M.cellsI] at HOW0 HB3 ⊢
    go_wp2_with (at_builtin; refine wpList_append_libs rfl _ _ rfl (w.heap.size + 1) p (w.heap.size + 1) (by first | rfl | simp) HOW0.out ao cap libs rfl (HL.out.below HB3.out) (by omega) (by simp) ?_; intro gg capg w1 hown hgrow hlt; have HB1 := hideC (HB3.out.grown hgrow (by simp; omega) (fun q hq => by injection hq with hq; omega)); have HI1 := hideC (row_im (l := p :: libs) hown hlt (HIM.out _ HB1.out)); clear hown hgrow hlt)
    obtain ⟨all, hall⟩ : ∃ all, all = p :: libs := ⟨_, rfl⟩
    have hlen : libs.length + 1 = all.length := by rw [hall]; rfl
    rw [← hall] at HI1 HIM HFA h7 HLE
    rw [hlen]
    clear HOW0 HB3 HL HP
    clear hall
    have hap : 0 < all.length := by omega
    obtain ⟨b, off, hao1, hbl, hlie⟩ := HI1.out hap
    injection hao1 with hao1
    injection hao1 with hg1 hg2
    subst hg1 hg2
    have HLI := hideC hlie
    clear hlie
    obtain ⟨i0, hi, hz0, hz1, hz2⟩ := info_parts info9
    go_loopw [7, 6] (fun kx v wr => ∃ k : Nat, kx = .int .i64 k ∧ k ≤ all.length ∧ LM.errTo all k = 0 ∧ wr.ownsRow w1.heap.size 9 1 v k (strs ((LM.namesL all).take k)) ∧ Below w1.heap.size w1 wr) (fun kx _ _ => all.length - (intOf kx).toNat)
    case atStart => exact ⟨0, rfl, by omega, rfl, World.ownsRow_nil _ _ _ _, Below.refl _ _⟩
    case round =>
      obtain ⟨k, rfl, hk, hz, hown, hb⟩ := hrel
      have HZ := hideC hz
      have HOW := hideC hown
      have HBr := hideC hb
      have HBt := hideC (HB1.out.trans (hb.mono HB1.out.size))
      have hsz := hb.size
      by_cases hkl : k < all.length
      · obtain ⟨⟨c0, c1, c2, c3, c4, c5⟩, him⟩ := LM.lieI hb hbl HLI.out k hkl
        simp only [Nat.zero_add] at c0 c1 c2 c3 c4 c5
        have HCK := hideC (checkImage_any (LM.liAt all k).i (LM.liAt all k).a wr him (HFA.out k hkl))
        have HER := hideC (err_step HZ.out)
        have HLC := hideC (link_check h7 hkl HZ.out)
        have HSN := hideC (names_snoc all k hkl)
        obtain ⟨q, hq⟩ : ∃ q, q = LM.liAt all k := ⟨_, rfl⟩
        rw [← hq] at c0 c1 c2 c3 c4 c5 HCK HER HLC HSN
        clear hq him hown hz
        obtain ⟨⟨nm, ns, gs, ys, rs, en⟩, ⟨an, cn, ag, cg, ay, cy, ar, cr⟩⟩ := q
        simp only [M.cellsI] at HCK
        simp only at c0 c1 c2 c3 c4 c5 HSN
        obtain ⟨C, hC⟩ : ∃ C, C = M.chkN ⟨nm, ns, gs, ys, rs, en⟩ := ⟨_, rfl⟩
        rw [← hC] at HCK HER HLC
        clear hC
        have hkl1 : (k : Int) < (all.length : Int) := by omega
        by_cases hc : C = 0
        · subst hc
          clear HLC
          go_wp2_with (first | (at_builtin; refine wpList_append_lies _ rfl _ _ 22 rfl w1.heap.size 9 i0 (.string ⟨#[]⟩) 1 16 Try.underlying22 hi hz0 hz1 hz2 rfl (by decide) _ _ _ rfl (HOW2.out.alloc _) ⟨w2.heap.size, 0, none⟩ 1 1 [.string nm] rfl rfl (B.news HN.out) (by intro u hu; simp at hu; subst hu; rfl) (by decide) (by unfold maxLen; omega) (by omega) (by simp; omega) (w2.heap.size + 1) (by simp) ?_; intro g3 cap3 w3 hown3 hgrow hat hlt3; have HO3 := hideC hown3; have HB3 : Hid (Below w1.heap.size w1 w3) := (HB2.out.alloc HB2.out.size _).grown hgrow (by simp; omega) (fun k' e => (hrow.out _ e).1); clear hown3 hgrow hat) | go_at_call 24; refine HCK.out.mono ?_; rintro e w2 ⟨rfl, hb2⟩; have HB2 := hideC (HBr.out.trans (hb2.mono HBr.out.size)); have HOW2 := hideC (row_grown HOW.out hb2); have hl2 : gg < w2.heap.size := (by have := hb2.size; omega); have d0 := (M.below_cell hb2 (show gg < wr.heap.size by omega)).trans c0; have hrow : Hid (∀ q, u6.ownBlock = some q → w1.heap.size ≤ q ∧ q < w2.heap.size) := HOW2.out.lt; have HN := hideC (B.new w2 #[.string nm] 9); have hsz2 := HB2.out.size; clear hb2 c0 c1 c2 c3 c4 c5)
          go_roundw
          case rel => exact ⟨k + 1, by go_num, by omega, HER.out, by rw [HSN.out]; unfold strs; rw [List.map_append]; exact HO3.out, HB3.out⟩
          case measure => simp [intOf]; omega
        · have HL2 := hideC (HLC.out hc)
          go_wp2_with (go_at_call 24; refine HCK.out.mono ?_; rintro e w2 ⟨rfl, hb2⟩; have HB2 := hideC (HBt.out.trans (hb2.mono HBt.out.size)); clear hb2 c0 c1 c2 c3 c4 c5)
          go_ret
          exact ⟨by rw [HLE.out, HL2.out]; rfl, HB2.out⟩
      · obtain rfl : k = all.length := by omega
        rw [List.take_of_length_le (by rw [LM.namesL_length]; omega)] at hown
        rw [← LM.namesL_length] at hown
        obtain ⟨aL, cL, hv6, hasL⟩ := row_has hown
        rw [LM.namesL_length] at hv6
        subst hv6
        have HAL := hideC (alike_any (LM.namesL all) aL cL wr hasL (by unfold M.Short; rw [LM.namesL_length]; omega) (fun k hk => by
          rw [LM.namesL_length] at hk
          rw [LM.namesL_at all k hk]
          exact (HFA.out k hk).name))
        rw [LM.namesL_length] at HAL
        have HCA : Hid (∀ k, k < all.length → M.chkN (LM.liAt all k).i = 0) := LM.errTo_none all all.length HZ.out
        clear hown hasL hz HOW
        cases ho : M.onceB (LM.namesL all) with
        | false =>
          rw [ho] at HAL
          have HLN := hideC (link_names h7 HZ.out ho)
          clear ho
          go_wp2_with (go_at_call 25; refine HAL.out.mono ?_; rintro e w2 ⟨rfl, hb2⟩; have HB2 := hideC (HBt.out.trans (hb2.mono HBt.out.size)); clear hb2)
          go_ret
          exact ⟨by rw [HLE.out, HLN.out]; rfl, HB2.out⟩
        | true =>
          rw [ho] at HAL
          have HLR := hideC (link_rest h7 HZ.out ho)
          clear ho
          have HAI : Hid (Ai all (some ⟨gg, 0, none⟩) wr) := ⟨(HI1.out).below hb, hap, h7, HCA.out⟩
          clear hb
          go_wp2_with (go_at_call 25; refine HAL.out.mono ?_; rintro e w2 ⟨rfl, hb2⟩; have HB2 := hideC (HBt.out.trans (hb2.mono HBt.out.size)); have HA2 := hideC (HAI.out.below hb2); clear hb2)
          refine (objectsR_any all (some ⟨gg, 0, none⟩) capg w2 HA2.out).mono ?_
          rintro e w3 ⟨hb3, hout⟩
          have HB3 := hideC (HB2.out.trans (hb3.mono HB2.out.size))
          clear hb3 HAI HA2
          cases hgt : LM.gat all all.length 0 [0] with
          | none =>
            rw [hgt] at hout HLR
            simp only at hout HLR
            subst hout
            go_wp2
            go_ret
            exact ⟨by rw [HLE.out, HLR.out]; rfl, HB3.out⟩
          | some ix =>
            rw [hgt] at hout HLR
            simp only at hout HLR
            obtain ⟨hx, hout⟩ := hout
            clear hgt
            by_cases hbig : 256 < LM.endFrom all 1 ix
            · rw [if_pos hbig] at hout HLR
              subst hout
              clear hx hbig
              go_wp2
              go_ret
              exact ⟨by rw [HLE.out, HLR.out]; rfl, HB3.out⟩
            · rw [if_neg hbig] at hout HLR
              obtain ⟨ao3, cap3, rfl, hobs⟩ := hout
              have HOI := hideC (oi_of h7 HCA.out HFA.out hx hobs)
              have hxl := LM.obsFrom_length all ix 1
              obtain ⟨l, hl⟩ : ∃ l, l = LM.obsFrom all 1 ix := ⟨_, rfl⟩
              rw [← hl] at HOI HLR hxl
              rw [← hxl]
              have hfw : l.length ≤ 7 := by rw [hxl]; have := hx.le; omega
              have HL0 : Hid ((∃ E, LM.sheetsN l = some E) → LE = 0) := fun ⟨E, hE⟩ => by
                rw [HLE.out, HLR.out, hE]
              have HL7 : Hid (LM.sheetsN l = none → LE = 7) := fun hE => by
                rw [HLE.out, HLR.out, hE]
              clear hl hx hobs hbig hxl HLR HLE HLI HI1 HFA HIM HAL HZ HCA hz0 hz1 hz2 hi HBr HBt HB1 HB2
              go_wp2
              go_loopw [11] (fun nx wr => ∃ (n : Nat) (E : List LM.Sp), nx = .int .i64 n ∧ n ≤ l.length ∧ LM.obsTo l n = some E ∧ Below w3.heap.size w3 wr) (fun nx _ => l.length - (intOf nx).toNat)
              case atStart => exact ⟨0, [], rfl, by omega, rfl, Below.refl _ _⟩
              case round =>
                obtain ⟨n, E, rfl, hn, hobE, hb⟩ := hrel
                have HOE := hideC hobE
                have HBn := hideC hb
                clear hobE
                by_cases hnl : n < l.length
                · obtain ⟨ob, oo, hao3, hobl, holie⟩ := HOI.out.has (by omega)
                  subst hao3
                  have HRS : Hid (M.HasBy M.LieR w3 (LM.obAt l n).a.ar (LM.obAt l n).i.rels) := (holie n hnl).2.rels
                  have HCell : Hid (∀ V, Below w3.heap.size w3 V → (V.cell? ⟨ob, oo + n * 7, none⟩ = some (.string (LM.obAt l n).i.name) ∧ V.cell? ⟨ob, oo + n * 7 + 1, none⟩ = some (.slice (LM.obAt l n).a.an (LM.obAt l n).i.needs.length (LM.obAt l n).a.cn) ∧
                     V.cell? ⟨ob, oo + n * 7 + 2, none⟩ = some (.slice (LM.obAt l n).a.ag (LM.obAt l n).i.segs.length (LM.obAt l n).a.cg) ∧ V.cell? ⟨ob, oo + n * 7 + 3, none⟩ = some (.slice (LM.obAt l n).a.ay (LM.obAt l n).i.syms.length (LM.obAt l n).a.cy) ∧
                     V.cell? ⟨ob, oo + n * 7 + 4, none⟩ = some (.slice (LM.obAt l n).a.ar (LM.obAt l n).i.rels.length (LM.obAt l n).a.cr) ∧ V.cell? ⟨ob, oo + n * 7 + 5, none⟩ = some (.int .i64 (LM.obAt l n).i.entry) ∧ V.cell? ⟨ob, oo + n * 7 + 6, none⟩ = some (.int .i64 (LM.obAt l n).base))) := fun V hV => (LM.lieO hV hobl holie n hnl).1
                  have hbase := HOI.out.base n hnl
                  have hcr := (LM.counts_of (HOI.out.chk n hnl)).2.2.2.2
                  have HAD : Hid (∀ k V, Below w3.heap.size w3 V → Calls Try.prog 27 #[.slice (some ⟨ob, oo, none⟩) l.length cap3, .agg (LM.cellsO (LM.obAt l n)), .agg #[.int .i64 (M.rlAt (LM.obAt l n).i.rels k).pos, .string (M.rlAt (LM.obAt l n).i.rels k).name, .int .i64 (M.rlAt (LM.obAt l n).i.rels k).add]] V fun e w' => e = .returned (addrV (LM.tgtN l (LM.obAt l n) (M.rlAt (LM.obAt l n).i.rels k).name) (M.rlAt (LM.obAt l n).i.rels k).add) ∧ Below V.heap.size V w') := fun k V hV => addressR_any l _ cap3 (LM.obAt l n) (M.rlAt (LM.obAt l n).i.rels k) V (HOI.out.below hV) (by omega) (by omega)
                  have HMISS := hideC (fun k (hk : k < (LM.obAt l n).i.rels.length) ps h1 h2 => HL7.out (obs_miss hnl HOE.out (pat_miss (o := LM.obAt l n) (k := k) hk (ps := ps) h1 h2)))
                  have HNEXT := hideC (fun k ps h1 t h2 => pat_next (l := l) (o := LM.obAt l n) (k := k) (ps := ps) h1 (t := t) h2)
                  have HOBN : Hid (∀ ps, LM.patTo l (LM.obAt l n) (LM.obAt l n).i.rels.length = some ps → ∃ E', LM.obsTo l (n + 1) = some E') := fun ps hp => ⟨_, obs_next HOE.out (show LM.patN l (LM.obAt l n) = some ps from hp)⟩
                  clear holie
                  obtain ⟨PT, hPT⟩ : ∃ PT, PT = LM.patTo l (LM.obAt l n) := ⟨_, rfl⟩
                  obtain ⟨TG, hTG⟩ : ∃ TG, TG = LM.tgtN l (LM.obAt l n) := ⟨_, rfl⟩
                  have HP0 : Hid (PT 0 = some []) := hideC (by rw [hPT]; rfl)
                  rw [← hTG] at HAD
                  rw [← hPT, ← hTG] at HNEXT HMISS
                  rw [← hPT] at HOBN
                  clear hPT hTG
                  obtain ⟨PO, hPO⟩ : ∃ PO, PO = LM.ptOf (LM.obAt l n) := ⟨_, rfl⟩
                  rw [← hPO] at HNEXT
                  clear hPO
                  obtain ⟨o, ho⟩ : ∃ o, o = LM.obAt l n := ⟨_, rfl⟩
                  rw [← ho] at HRS HCell hcr HAD HMISS HNEXT HOBN
                  clear ho hbase
                  obtain ⟨⟨nm, ns, gs, ys, rs, en⟩, ⟨an, cn, ag, cg, ay, cy, ar, cr⟩, ba⟩ := o
                  simp only [LM.cellsO] at HAD
                  simp only at HRS HCell hcr HAD HMISS HNEXT HOBN
                  have hn1 : (n : Int) < (l.length : Int) := by omega
                  clear hb
                  go_wp2
                  go_loopw [12] (fun kx wr => ∃ (k : Nat) (ps : List LM.Pt), kx = .int .i64 k ∧ k ≤ rs.length ∧ PT k = some ps ∧ Below w3.heap.size w3 wr) (fun kx _ => rs.length - (intOf kx).toNat)
                  case atStart => exact ⟨0, [], rfl, by omega, HP0.out, HBn.out⟩
                  case round =>
                    obtain ⟨k, ps, rfl, hk, hps, hb⟩ := hrel
                    have HPS := hideC hps
                    have HBk := hideC hb
                    have z4 := (HCell.out _ hb).2.2.2.2.1
                    clear hps
                    by_cases hkl2 : k < rs.length
                    · obtain ⟨rb, ro, har, hrb, hlr⟩ := HRS.out (by omega)
                      subst har
                      have HRC : Hid (∀ V, Below w3.heap.size w3 V → (V.cell? ⟨rb, ro + k * 3, none⟩ = some (.int .i64 (M.rlAt rs k).pos) ∧ V.cell? ⟨rb, ro + k * 3 + 1, none⟩ = some (.string (M.rlAt rs k).name) ∧ V.cell? ⟨rb, ro + k * 3 + 2, none⟩ = some (.int .i64 (M.rlAt rs k).add))) := fun V hV => M.lieR hV hrb hlr k hkl2
                      have HADk := hideC (fun V (hV : Below wr.heap.size wr V) => HAD.out k V (HBk.out.trans (hV.mono HBk.out.size)))
                      have HMk := hideC (HMISS.out k hkl2 ps HPS.out)
                      have HNk := hideC (HNEXT.out k ps HPS.out)
                      obtain ⟨⟨rp, rn, ra⟩, hrr⟩ : ∃ r, r = M.rlAt rs k := ⟨_, rfl⟩
                      rw [← hrr] at HRC HADk HMk HNk
                      simp only at HRC HADk HMk HNk
                      clear hrr hlr hb HAD
                      have hkin := Q.kin_some wr
                      have HBX : Hid (∀ x : Q.Kin wr.heap.size wr, Below w3.heap.size w3 x.world) := fun x => HBk.out.trans (x.keeps.mono HBk.out.size)
                      have a0 := fun x : Q.Kin wr.heap.size wr => (HCell.out _ (HBX.out x)).1
                      have a1 := fun x : Q.Kin wr.heap.size wr => (HCell.out _ (HBX.out x)).2.1
                      have a2 := fun x : Q.Kin wr.heap.size wr => (HCell.out _ (HBX.out x)).2.2.1
                      have a3 := fun x : Q.Kin wr.heap.size wr => (HCell.out _ (HBX.out x)).2.2.2.1
                      have a4 := fun x : Q.Kin wr.heap.size wr => (HCell.out _ (HBX.out x)).2.2.2.2.1
                      have a5 := fun x : Q.Kin wr.heap.size wr => (HCell.out _ (HBX.out x)).2.2.2.2.2.1
                      have a6 := fun x : Q.Kin wr.heap.size wr => (HCell.out _ (HBX.out x)).2.2.2.2.2.2
                      have r0 := fun x : Q.Kin wr.heap.size wr => (HRC.out _ (HBX.out x)).1
                      have r1 := fun x : Q.Kin wr.heap.size wr => (HRC.out _ (HBX.out x)).2.1
                      have r2 := fun x : Q.Kin wr.heap.size wr => (HRC.out _ (HBX.out x)).2.2
                      have hk1 : (k : Int) < (rs.length : Int) := by omega
                      have hk0 : (0 : Int) ≤ (k : Int) := by omega
                      have hn0 : (0 : Int) ≤ (n : Int) := by omega
                      cases htg : TG rn with
                      | none =>
                        rw [htg] at HADk
                        simp only [addrV] at HADk
                        have HLE7 := hideC (HMk.out htg)
                        clear htg HMk HNk
                        go_wp2_with fail
                        refine Q.region_kin (by kernel_rfl) (by kernel_rfl) ?_
                        repeat (first | go_big_quiet_step ((go_at_call 27; with_reducible exact calls_below HADk.out _)) | quiet_step ((go_at_call 27; with_reducible exact calls_below HADk.out _)))
                        refine wpQuiet_nil ?_
                        intro _ hw'
                        obtain ⟨x, hw''⟩ := hw'
                        subst hw''
                        have HKX := hideC (HBX.out x)
                        clear a0 a1 a2 a3 a4 a5 a6 r0 r1 r2 HADk hkin
                        obtain ⟨w0, hw0⟩ : ∃ w0, w0 = x.world := ⟨_, rfl⟩
                        rw [← hw0] at HKX ⊢
                        clear hw0 x
                        go_wp2
                        go_ret
                        exact ⟨by rw [HLE7.out]; rfl, HB3.out.trans (HKX.out.mono HB3.out.size)⟩
                      | some t =>
                        rw [htg] at HADk
                        simp only [addrV] at HADk
                        have HNX := hideC (HNk.out t htg)
                        clear htg HMk HNk
                        go_wp2_with fail
                        refine Q.region_kin (by kernel_rfl) (by kernel_rfl) ?_
                        repeat (first | go_big_quiet_step ((go_at_call 27; with_reducible exact calls_below HADk.out _)) | quiet_step ((go_at_call 27; with_reducible exact calls_below HADk.out _)))
                        refine wpQuiet_nil ?_
                        intro _ hw'
                        obtain ⟨x, hw''⟩ := hw'
                        subst hw''
                        have HKX := hideC (HBX.out x)
                        clear a0 a1 a2 a3 a4 a5 a6 r0 r1 r2 HADk hkin
                        obtain ⟨w0, hw0⟩ : ∃ w0, w0 = x.world := ⟨_, rfl⟩
                        rw [← hw0] at HKX ⊢
                        clear hw0 x
                        go_wp2
                        go_roundw
                        case rel => exact ⟨k + 1, _, by go_num, by omega, HNX.out, HKX.out⟩
                        case measure => simp [intOf]; omega
                    · obtain rfl : k = rs.length := by omega
                      obtain ⟨E', hE'⟩ := HOBN.out ps HPS.out
                      have HE' := hideC hE'
                      clear hE' hb
                      go_wp2
                      go_roundw
                      case rel => exact ⟨n + 1, E', by go_num, by omega, HE'.out, HBk.out⟩
                      case measure => simp [intOf]; omega
                · obtain rfl : n = l.length := by omega
                  have HZ0 := hideC (HL0.out ⟨E, HOE.out⟩)
                  clear hb
                  go_wp2
                  go_ret
                  exact ⟨by rw [HZ0.out]; rfl, HB3.out.trans (HBn.out.mono HB3.out.size)⟩
end Go.Proofs.Yteieplodndfbhaa.LW
/- The reference's SameSheets, at two rows of the same sheets. -/
namespace Go.Proofs.Yteieplodndfbhaa.LW
open Go.RowKit
open Go.Proofs.Yteieplodndfbhaa.W (hideC)
set_option linter.unusedVariables false
set_option maxRecDepth 100000

/-- the same sheets, wherever they lie -/
structure SameH (xs ys : List LM.Sh) : Prop where
  len : xs.length = ys.length
  page : ∀ k, k < xs.length → (LM.shAt ys k).page = (LM.shAt xs k).page
  data : ∀ k, k < xs.length → (LM.shAt ys k).data = (LM.shAt xs k).data
  fixes : ∀ k, k < xs.length → (LM.shAt ys k).fixes = (LM.shAt xs k).fixes
set_option maxHeartbeats 4000000 in
theorem sameSheets_yes (xs ys : List LM.Sh) (ax ay : Option Addr) (cx cy : Nat) (w : World) (hx : LM.HasH w ax xs) (hy : LM.HasH w ay ys) (hs : SameH xs ys) (hn : M.Short xs.length) (hfn : ∀ k, k < xs.length → M.Short (LM.shAt xs k).fixes.length) :
    Calls Try.prog 33 #[.slice ax xs.length cx, .slice ay ys.length cy] w fun e w' => e = .returned (.bool true) ∧ Below w.heap.size w w' := by
  have HX := hideC hx
  have HYY := hideC hy
  have HS := hideC hs
  have HFN := hideC hfn
  rw [← hs.len]
  unfold M.Short at hn
  clear hx hy hs hfn
  go_enter Try.func33, Try.ntmps33
  go_wp2
  go_loopw [5] (fun i wr => ∃ k : Nat, k ≤ xs.length ∧ i = .int .i64 k ∧ Below w.heap.size w wr) (fun i _ => xs.length - (intOf i).toNat)
  case atStart => exact ⟨0, by omega, rfl, Below.refl _ _⟩
  case round =>
    obtain ⟨i, hi, rfl, hb⟩ := hrel
    have HBr := hideC hb
    by_cases hlt : i < xs.length
    · obtain ⟨bx, ox, hax, hbx, hlx⟩ := HX.out (by omega)
      obtain ⟨bx2, oy, hay, hby, hly⟩ := HYY.out (by rw [← HS.out.len]; omega)
      subst hax hay
      have HF : Hid (∀ V, Below w.heap.size w V → (V.cell? ⟨bx, ox + i * 3, none⟩ = some (.int .i64 (LM.shAt xs i).page) ∧ V.cell? ⟨bx, ox + i * 3 + 1, none⟩ = some (.string (LM.shAt xs i).data) ∧ V.cell? ⟨bx, ox + i * 3 + 2, none⟩ = some (.slice (LM.shAt xs i).ao (LM.shAt xs i).fixes.length (LM.shAt xs i).cap) ∧ LM.HasF V (LM.shAt xs i).ao (LM.shAt xs i).fixes) ∧ (V.cell? ⟨bx2, oy + i * 3, none⟩ = some (.int .i64 (LM.shAt xs i).page) ∧ V.cell? ⟨bx2, oy + i * 3 + 1, none⟩ = some (.string (LM.shAt xs i).data) ∧ V.cell? ⟨bx2, oy + i * 3 + 2, none⟩ = some (.slice (LM.shAt ys i).ao (LM.shAt xs i).fixes.length (LM.shAt ys i).cap) ∧ LM.HasF V (LM.shAt ys i).ao (LM.shAt xs i).fixes)) := fun V hV => by
        obtain ⟨a0, a1, a2, a3⟩ := LM.lieH hV hbx hlx i hlt
        obtain ⟨b0, b1, b2, b3⟩ := LM.lieH hV hby hly i (by rw [← HS.out.len]; exact hlt)
        rw [HS.out.page i hlt] at b0
        rw [HS.out.data i hlt] at b1
        rw [HS.out.fixes i hlt] at b2 b3
        exact ⟨⟨a0, a1, a2, a3⟩, b0, b1, b2, b3⟩
      have hfi := HFN.out i hlt
      obtain ⟨⟨pg, dt, fs, af, cf⟩, hsx⟩ : ∃ s, s = LM.shAt xs i := ⟨_, rfl⟩
      obtain ⟨ag, hag⟩ : ∃ a, a = (LM.shAt ys i).ao := ⟨_, rfl⟩
      obtain ⟨cg, hcg⟩ : ∃ a, a = (LM.shAt ys i).cap := ⟨_, rfl⟩
      rw [← hsx, ← hag, ← hcg] at HF
      rw [← hsx] at hfi
      simp only at HF hfi
      unfold M.Short at hfi
      clear hsx hag hcg hlx hly
      obtain ⟨⟨a0, a1, a2, -⟩, b0, b1, b2, -⟩ := HF.out _ hb
      have hi1 : (i : Int) < (xs.length : Int) := by omega
      have hi0 : (0 : Int) ≤ (i : Int) := by omega
      clear hb
      go_wp2
      go_quiet (fail)
      go_wp2
      go_loopw [6] (fun i2 wr => ∃ k : Nat, k ≤ fs.length ∧ i2 = .int .i64 k ∧ Below w.heap.size w wr) (fun i2 _ => fs.length - (intOf i2).toNat)
      case atStart => exact ⟨0, by omega, rfl, below_drewN HBr.out _⟩
      case round =>
        obtain ⟨k, hk, rfl, hb⟩ := hrel
        have HBk := hideC hb
        obtain ⟨⟨d0, d1, d2, d3⟩, e0, e1, e2, e3⟩ := HF.out _ hb
        clear hb a0 a1 a2 b0 b1 b2
        by_cases hlk : k < fs.length
        · obtain ⟨fb, fo, haf, hfb, hlf⟩ := d3 (by omega)
          obtain ⟨gb, go, hag, hgb, hlg⟩ := e3 (by omega)
          subst haf hag
          obtain ⟨f0, f1⟩ := hlf k hlk
          obtain ⟨g0, g1⟩ := hlg k hlk
          obtain ⟨⟨fo1, fb1⟩, hfx⟩ : ∃ f, f = LM.fxAt fs k := ⟨_, rfl⟩
          rw [← hfx] at f0 f1 g0 g1
          simp only at f0 f1 g0 g1
          clear hfx hlf hlg d3 e3
          have hk1 : (k : Int) < (fs.length : Int) := by omega
          have hk0 : (0 : Int) ≤ (k : Int) := by omega
          go_wp2
          go_quiet (fail)
          go_wp2
          go_roundw
          case rel => exact ⟨k + 1, by omega, by go_num, below_drewN HBk.out _⟩
          case measure => simp [intOf]; omega
        · obtain rfl : k = fs.length := by omega
          clear d3 e3
          go_wp2
          go_roundw
          case rel => exact ⟨i + 1, by omega, by go_num, HBk.out⟩
          case measure => simp [intOf]; omega
    · obtain rfl : i = xs.length := by omega
      go_wp2
      go_ret
      exact ⟨rfl, HBr.out⟩
end Go.Proofs.Yteieplodndfbhaa.LW
/- What is linked: small facts; plain Lean, but for how LinkedOf ends. -/
namespace Go.Proofs.Yteieplodndfbhaa.LW
open Go.RowKit
set_option linter.unusedVariables false
set_option maxRecDepth 100000

theorem link_zero {all : List LM.Li} (h : LM.linkErr all = 0) : all.length ≤ 7 ∧ (∀ k, k < all.length → M.chkN (LM.liAt all k).i = 0) ∧ ∃ ix E, LM.gat all all.length 0 [0] = some ix ∧ LM.endFrom all 1 ix ≤ 256 ∧ LM.sheetsN (LM.obsFrom all 1 ix) = some E := by
  unfold LM.linkErr at h
  by_cases h7 : 7 < all.length
  · rw [if_pos h7] at h; cases h
  · rw [if_neg h7] at h
    by_cases hb : LM.byErr all = 0
    · rw [if_pos hb] at h
      refine ⟨by omega, (LM.byErr_zero hb).1, ?_⟩
      cases hg : LM.gat all all.length 0 [0] with
      | none => rw [hg] at h; cases h
      | some ix =>
        rw [hg] at h
        simp only at h
        by_cases he : 256 < LM.endFrom all 1 ix
        · rw [if_pos he] at h; cases h
        · rw [if_neg he] at h
          cases hs : LM.sheetsN (LM.obsFrom all 1 ix) with
          | none => rw [hs] at h; cases h
          | some E => exact ⟨ix, E, rfl, by omega, hs⟩
    · rw [if_neg hb] at h; exact (hb h).elim
theorem obs_pats {l : List LM.Ob} : ∀ {n : Nat} {E : List LM.Sp}, LM.obsTo l n = some E → ∀ k, k < n → ∃ ps, LM.patN l (LM.obAt l k) = some ps
  | 0, E, _, k, hk => by omega
  | n + 1, E, h, k, hk => by
    cases e : LM.obsTo l n with
    | none => rw [LM.obsTo_none e (n + 1) (by omega)] at h; cases h
    | some E' =>
      by_cases hkn : k = n
      · subst hkn
        cases g : LM.patN l (LM.obAt l k) with
        | none => simp only [LM.obsTo, e, g] at h; cases h
        | some ps => exact ⟨ps, rfl⟩
      · exact obs_pats e k (by omega)
/-- pages of what is linked -/
theorem obs_pages {all : List LM.Li} {ix : List Nat} (hc : ∀ j, j < all.length → M.chkN (LM.liAt all j).i = 0) (hx : LM.OkIx all ix) (he : LM.endFrom all 1 ix ≤ 256) (n : Nat) (hn : n < (LM.obsFrom all 1 ix).length) :
    1 ≤ (LM.obAt (LM.obsFrom all 1 ix) n).base ∧ LM.endO (LM.obAt (LM.obsFrom all 1 ix) n) ≤ 256 := by
  rw [LM.obsFrom_length] at hn
  have h2 := LM.obsFrom_at all ix 1 n hn
  have hb := LM.endFrom_bounds all hc (ix.take n) 1 (fun j hj => hx.lt j (List.mem_of_mem_take hj))
  have ht := endFrom_take all hc ix 1 (n + 1) hx.lt
  rw [take_snoc ix n hn, LM.endFrom_snoc] at ht
  unfold LM.endO at ht ⊢
  rw [h2.1, h2.2.2]
  simp only at ht
  omega
/-- how LinkedOf ends -/
def OutLd (all : List LM.Li) (w : World) (e : Ending) (w' : World) : Prop := Below w.heap.size w w' ∧
  ∃ (ix : List Nat) (E : List LM.Sp) (r : Value) (hs : List LM.Sh) (ao : Option Addr) (cap : Nat), LM.gat all all.length 0 [0] = some ix ∧ LM.sheetsN (LM.obsFrom all 1 ix) = some E ∧ hs.map LM.plain = E ∧
    e = .returned (.agg #[r, .slice ao hs.length cap, .int .i64 (LM.addrO (LM.obAt (LM.obsFrom all 1 ix) 0) (LM.liAt all 0).i.entry)]) ∧ AW.Has w' r (AM.gatherN (LM.bob (LM.obsFrom all 1 ix) (LM.obsFrom all 1 ix).length)) ∧ LM.HasH w' ao hs ∧ hs.length ≤ cap
theorem same_plain {xs ys : List LM.Sh} (h : xs.map LM.plain = ys.map LM.plain) : SameH xs ys := by
  have hl : xs.length = ys.length := by
    have := congrArg List.length h
    simpa using this
  have key : ∀ k, k < xs.length → LM.plain (LM.shAt ys k) = LM.plain (LM.shAt xs k) := fun k hk => by
    have h1 : (xs.map LM.plain)[k]? = (ys.map LM.plain)[k]? := by rw [h]
    rw [List.getElem?_map, List.getElem?_map, List.getElem?_eq_getElem hk, List.getElem?_eq_getElem (by omega)] at h1
    unfold LM.shAt
    rw [List.getD_eq_getElem?_getD, List.getD_eq_getElem?_getD, List.getElem?_eq_getElem hk, List.getElem?_eq_getElem (by omega)]
    simpa using h1.symm
  refine ⟨hl, fun k hk => ?_, fun k hk => ?_, fun k hk => ?_⟩
  · exact congrArg LM.Sp.page (key k hk)
  · exact congrArg LM.Sp.data (key k hk)
  · exact congrArg LM.Sp.fixes (key k hk)
theorem pgs_fix (o : LM.Ob) (ps : List LM.Pt) (s : M.Sg) (n : Nat) : ∀ x ∈ LM.pgsTo o ps s n, x.fixes.length ≤ ps.length := fun x hx => by
  unfold LM.pgsTo at hx
  obtain ⟨m, _, rfl⟩ := List.mem_map.1 hx
  exact LM.fixes_len _ ps
theorem sgs_fix (o : LM.Ob) (ps : List LM.Pt) : ∀ k, ∀ x ∈ LM.sgsTo o ps k, x.fixes.length ≤ ps.length
  | 0, x, hx => by simp [LM.sgsTo] at hx
  | k + 1, x, hx => by
    simp only [LM.sgsTo] at hx
    rcases List.mem_append.1 hx with h | h
    · exact sgs_fix o ps k x h
    · exact pgs_fix o ps _ _ x h
theorem sgs_len (o : LM.Ob) (hc : M.chkN o.i = 0) (ps : List LM.Pt) : ∀ k, k ≤ o.i.segs.length → (LM.sgsTo o ps k).length ≤ k * 255
  | 0, _ => by simp [LM.sgsTo]
  | k + 1, hk => by
    have ih := sgs_len o hc ps k (by omega)
    have hb := LM.seg_bounds hc k (by omega)
    simp only [LM.sgsTo, List.length_append]
    have : (LM.pgsTo o ps (M.sgAt o.i.segs k) (M.sgAt o.i.segs k).pages.toNat).length = (M.sgAt o.i.segs k).pages.toNat := by simp [LM.pgsTo]
    omega
theorem obs_small {l : List LM.Ob} (hc : ∀ k, k < l.length → M.chkN (LM.obAt l k).i = 0) : ∀ n, n ≤ l.length → ∀ E, LM.obsTo l n = some E → E.length ≤ n * 1600 ∧ ∀ x ∈ E, x.fixes.length ≤ 16
  | 0, _, E, h => by
    simp only [LM.obsTo] at h
    injection h with h
    subst h
    exact ⟨by simp, fun x hx => by simp at hx⟩
  | n + 1, hn, E, h => by
    cases e : LM.obsTo l n with
    | none => rw [LM.obsTo_none e (n + 1) (by omega)] at h; cases h
    | some E' =>
      obtain ⟨ps, hps⟩ := obs_pats h n (by omega)
      have h2 := obs_next e hps
      rw [h2] at h
      injection h with h
      subst h
      obtain ⟨ih1, ih2⟩ := obs_small hc n (by omega) E' e
      have hck := hc n (by omega)
      have hcn := LM.counts_of hck
      have hpl := LM.patTo_len hps
      have hsl := sgs_len (LM.obAt l n) hck ps _ (Nat.le_refl _)
      refine ⟨by rw [List.length_append]; omega, fun x hx => ?_⟩
      rcases List.mem_append.1 hx with g | g
      · exact ih2 x g
      · have := sgs_fix _ ps _ x g
        omega
theorem sheets_small {all : List LM.Li} {ix : List Nat} (h7 : all.length ≤ 7) (hc : ∀ j, j < all.length → M.chkN (LM.liAt all j).i = 0) (hx : LM.OkIx all ix) {E : List LM.Sp} (h : LM.sheetsN (LM.obsFrom all 1 ix) = some E) {hs : List LM.Sh} (hm : hs.map LM.plain = E) :
    M.Short hs.length ∧ ∀ k, k < hs.length → M.Short (LM.shAt hs k).fixes.length := by
  have hle := hx.le
  have hsm := obs_small (l := LM.obsFrom all 1 ix) (fun k hk => by
    rw [LM.obsFrom_length] at hk
    rw [(LM.obsFrom_at all ix 1 k hk).1]
    exact hc _ (hx.lt _ (LM.getD_mem ix k hk))) _ (Nat.le_refl _) E h
  rw [LM.obsFrom_length] at hsm
  subst hm
  rw [List.length_map] at hsm
  unfold M.Short
  refine ⟨by omega, fun k hk => ?_⟩
  have h1 := hsm.2 (LM.plain (LM.shAt hs k)) (List.mem_map.2 ⟨_, by
    unfold LM.shAt
    rw [List.getD_eq_getElem?_getD, List.getElem?_eq_getElem hk]
    exact List.getElem_mem hk, rfl⟩)
  have h2 : (LM.plain (LM.shAt hs k)).fixes.length = (LM.shAt hs k).fixes.length := rfl
  omega
theorem ordTo_ok {all : List LM.Li} {ix : List Nat} {needs : List ByteArray} (h : LM.OkIx all ix) : ∀ k ix', LM.ordTo all ix needs k = some ix' → LM.OkIx all ix'
  | 0, ix', e => by simp only [LM.ordTo] at e; injection e with e; subst e; exact h
  | k + 1, ix', e => by
    cases g : LM.ordTo all ix needs k with
    | none => rw [LM.ordTo_none g (k + 1) (by omega)] at e; cases e
    | some jx =>
      cases q : LM.ixOf all (M.strAt needs k) with
      | none => rw [LM.ordTo_miss g q] at e; cases e
      | some j =>
        rw [LM.ordTo_step g q] at e
        injection e with e
        subst e
        exact (ordTo_ok h k jx g).add (LM.ixOf_some q).1
theorem gat_ok {all : List LM.Li} : ∀ (f n : Nat) (ix ix' : List Nat), LM.OkIx all ix → LM.gat all f n ix = some ix' → LM.OkIx all ix'
  | 0, n, ix, ix', h, e => by simp only [LM.gat] at e; injection e with e; subst e; exact h
  | f + 1, n, ix, ix', h, e => by
    by_cases hn : n < ix.length
    · cases g : LM.ordTo all ix (LM.needsAt all ix n) (LM.needsAt all ix n).length with
      | none => rw [LM.gat_none all f n ix hn g] at e; cases e
      | some jx =>
        rw [LM.gat_some all f n ix jx hn g] at e
        exact gat_ok f (n + 1) jx ix' (ordTo_ok h _ jx g) e
    · rw [LM.gat_end all (f + 1) n ix hn] at e
      injection e with e
      subst e
      exact h
theorem ok_zero {all : List LM.Li} (h : 0 < all.length) : LM.OkIx all [0] := ⟨by simp, by simp, fun j hj => by simp at hj; omega⟩
end Go.Proofs.Yteieplodndfbhaa.LW
