import Derived.Test.YteieplodndfbhaaGL14
import Derived.Test.YteieplodndfbhaaGL15
import Derived.Test.YteieplodndfbhaaGL17
import Derived.Test.YteieplodndfbhaaGL11
import Derived.Test.YteieplodndfbhaaGL10
/- The reference's LinkError: which error is told. -/
namespace Go.Proofs.Yteieplodndfbhaa.LW
open Go.RowKit
open Go.Proofs.Yteieplodndfbhaa.W (hideC strs row_has info9 alike_any checkImage_any)
set_option linter.unusedVariables false
set_option maxRecDepth 100000

theorem obs_miss {l : List LM.Ob} {n : Nat} (hn : n < l.length) {E : List LM.Sp} (h : LM.obsTo l n = some E) (hp : LM.patN l (LM.obAt l n) = none) : LM.sheetsN l = none := by
  refine LM.obsTo_none (k := n + 1) ?_ l.length (by omega)
  simp only [LM.obsTo]
  rw [h]
  simp only
  rw [hp]
theorem obs_next {l : List LM.Ob} {n : Nat} {E : List LM.Sp} (h : LM.obsTo l n = some E) {ps : List LM.Pt} (hp : LM.patN l (LM.obAt l n) = some ps) : LM.obsTo l (n + 1) = some (E ++ LM.sgsTo (LM.obAt l n) ps (LM.obAt l n).i.segs.length) := by
  simp only [LM.obsTo]
  rw [h]
  simp only
  rw [hp]
theorem pat_miss {l : List LM.Ob} {o : LM.Ob} {k : Nat} (hk : k < o.i.rels.length) {ps : List LM.Pt} (h : LM.patTo l o k = some ps) (ht : LM.tgtN l o (M.rlAt o.i.rels k).name = none) : LM.patN l o = none := by
  refine LM.patTo_none (k := k + 1) ?_ o.i.rels.length (by omega)
  simp only [LM.patTo]
  rw [h]
  simp only
  rw [ht]
theorem pat_next {l : List LM.Ob} {o : LM.Ob} {k : Nat} {ps : List LM.Pt} (h : LM.patTo l o k = some ps) {t : Int} (ht : LM.tgtN l o (M.rlAt o.i.rels k).name = some t) : LM.patTo l o (k + 1) = some (ps ++ [LM.ptOf o (M.rlAt o.i.rels k) t]) := by
  simp only [LM.patTo]
  rw [h]
  simp only
  rw [ht]
theorem names_snoc (l : List LM.Li) (k : Nat) (h : k < l.length) : (LM.namesL l).take (k + 1) = (LM.namesL l).take k ++ [(LM.liAt l k).i.name] := by
  rw [List.take_add_one, ← LM.namesL_at l k h]
  unfold M.strAt
  rw [List.getD_eq_getElem?_getD, List.getElem?_eq_getElem (by rw [LM.namesL_length]; exact h)]
  rfl
theorem err_step {l : List LM.Li} {k : Nat} (hz : LM.errTo l k = 0) : LM.errTo l (k + 1) = M.chkN (LM.liAt l k).i := by
  simp only [LM.errTo]
  rw [if_pos hz]
theorem link_check {l : List LM.Li} (h7 : l.length ≤ 7) {k : Nat} (hk : k < l.length) (hz : LM.errTo l k = 0) (hc : M.chkN (LM.liAt l k).i ≠ 0) : LM.linkErr l = M.chkN (LM.liAt l k).i := by
  have h1 := err_step hz
  have h2 : LM.errTo l (k + 1) ≠ 0 := by rw [h1]; exact hc
  have h3 := LM.errTo_stays l (k + 1) h2 l.length (by omega)
  have h4 : LM.byErr l = M.chkN (LM.liAt l k).i := by
    unfold LM.byErr
    rw [if_neg (by rw [h3]; exact h2), h3, h1]
  unfold LM.linkErr
  rw [if_neg (by omega), if_neg (by rw [h4]; exact hc), h4]
theorem link_names {l : List LM.Li} (h7 : l.length ≤ 7) (hz : LM.errTo l l.length = 0) (ho : M.onceB (LM.namesL l) = false) : LM.linkErr l = 5 := by
  have h4 : LM.byErr l = 5 := by
    unfold LM.byErr
    rw [if_pos hz, ho]
    rfl
  unfold LM.linkErr
  rw [if_neg (by omega), if_neg (by rw [h4]; decide), h4]
theorem link_rest {l : List LM.Li} (h7 : l.length ≤ 7) (hz : LM.errTo l l.length = 0) (ho : M.onceB (LM.namesL l) = true) : LM.linkErr l = match LM.gat l l.length 0 [0] with
    | none => 6
    | some ix => if 256 < LM.endFrom l 1 ix then 3 else match LM.sheetsN (LM.obsFrom l 1 ix) with
      | none => 7
      | some _ => 0 := by
  have h4 : LM.byErr l = 0 := by
    unfold LM.byErr
    rw [if_pos hz, ho]
    rfl
  unfold LM.linkErr
  rw [if_neg (by omega), if_pos h4]
  rfl
/-- objects that objects made may be handed on -/
theorem oi_of {all : List LM.Li} {w : World} {ao : Option Addr} {ix : List Nat} (h7 : all.length ≤ 7) (hc : ∀ j, j < all.length → M.chkN (LM.liAt all j).i = 0) (hf : ∀ j, j < all.length → M.Fit (LM.liAt all j).i) (hx : LM.OkIx all ix) (h : LM.HasO w ao (LM.obsFrom all 1 ix)) : Oi (LM.obsFrom all 1 ix) ao w :=
  ⟨h, by rw [LM.obsFrom_length]; have := hx.le; omega, fun k hk => by
    rw [LM.obsFrom_length] at hk
    rw [(LM.obsFrom_at all ix 1 k hk).1]
    exact hc _ (hx.lt _ (LM.getD_mem ix k hk)), fun k hk => by
    rw [LM.obsFrom_length] at hk
    rw [(LM.obsFrom_at all ix 1 k hk).1]
    exact hf _ (hx.lt _ (LM.getD_mem ix k hk)), fun k hk => LM.obs_base hc h7 hx k hk⟩
set_option maxHeartbeats 6000000 in
theorem linkErrorR_any (p : LM.Li) (libs : List LM.Li) (ao : Option Addr) (cap : Nat) (w : World) (hp : M.HasIm w p.a p.i) (h : LM.HasI w ao libs) (hfp : M.Fit p.i) (hf : LM.FitI libs) :
    Calls Try.prog 7 #[LM.imgV p, .slice ao libs.length cap] w fun e w' => e = .returned (.int .i64 (LM.linkErr (p :: libs))) ∧ Below w.heap.size w w' := by
  have hsl : libs.length ≤ 140737488351232 := hf.1
  have HP := hideC hp
  have HL := hideC h
  have HIM : Hid (∀ V, Below w.heap.size w V → ∀ k, k < (p :: libs).length → M.HasIm V (LM.liAt (p :: libs) k).a (LM.liAt (p :: libs) k).i) := fun V hb k hk => by
    cases k with
    | zero => exact hp.below hb
    | succ k =>
      have hk' : k < libs.length := by simpa using hk
      obtain ⟨b, off, _, _, hl⟩ := h (by omega)
      exact (hl k hk').2.below hb
  have HFA : Hid (∀ k, k < (p :: libs).length → M.Fit (LM.liAt (p :: libs) k).i) := fun k hk => by
    cases k with
    | zero => exact hfp
    | succ k => exact hf.2 k (by simpa using hk)
  clear hp h hfp hf
  have HBB := hideC ((Below.refl w.heap.size w).alloc (Nat.le_refl _) (.cells (M.cellsI p.a p.i) 27))
  unfold LM.imgV
  obtain ⟨LE, hLE⟩ : ∃ LE, LE = LM.linkErr (p :: libs) := ⟨_, rfl⟩
  have HLE := hideC hLE
  rw [← hLE]
  clear hLE
  go_enter Try.func7, Try.ntmps7
  by_cases h6 : 6 < libs.length
  · have HE : Hid (LM.linkErr (p :: libs) = 2) := by
      show _ = _
      unfold LM.linkErr
      rw [if_pos (by simp; omega)]
    simp only [M.cellsI] at HBB ⊢
    go_wp2
    go_ret
    exact ⟨by rw [HLE.out, HE.out]; rfl, HBB.out⟩
  · have h7 : (p :: libs).length ≤ 7 := by simp; omega
    have HOW0 : Hid (((w.alloc (.cells (M.cellsI p.a p.i) 27)).alloc (.cells (M.cellsI p.a p.i) 27)).ownsRow (w.heap.size + 1) 27 6 (.slice (some ⟨w.heap.size + 1, 0, none⟩) 1 1) 1 (LM.cellI p)) := by
      have h := World.ownsRow_lit (base := w.heap.size + 1) (e := 27) (size := 6) (w.alloc (.cells (M.cellsI p.a p.i) 27)) (M.cellsI p.a p.i) 1 (by simp) (by decide) rfl
      have e : (w.alloc (.cells (M.cellsI p.a p.i) 27)).heap.size = w.heap.size + 1 := by simp
      rw [e] at h
      exact h
    have HB3 := hideC (HBB.out.alloc (by simp) (.cells (M.cellsI p.a p.i) 27))
    clear HBB
    simp only [M.cellsI] at HOW0 HB3 ⊢
    go_wp2_with (at_builtin; refine wpList_append_libs rfl _ _ rfl (w.heap.size + 1) p (w.heap.size + 1) (by first | rfl | simp) HOW0.out ao cap libs rfl (HL.out.below HB3.out) (by omega) (by simp) ?_; intro gg capg w1 hown hgrow hlt; have HB1 := hideC (HB3.out.grown hgrow (by simp; omega) (fun q hq => by injection hq with hq; omega)); have HI1 := hideC (row_im (l := p :: libs) hown hlt (HIM.out _ HB1.out)); clear hown hgrow hlt)
    obtain ⟨all, hall⟩ : ∃ all, all = p :: libs := ⟨_, rfl⟩
    have hlen : libs.length + 1 = all.length := by rw [hall]; rfl
    rw [← hall] at HI1 HIM HFA h7 HLE
    rw [hlen]
    clear HOW0 HB3 HL HP
    clear hall
    have hap : 0 < all.length := by omega
    obtain ⟨b, off, hao1, hbl, hlie⟩ := HI1.out hap
    injection hao1 with hao1
    injection hao1 with hg1 hg2
    subst hg1 hg2
    have HLI := hideC hlie
    clear hlie
    obtain ⟨i0, hi, hz0, hz1, hz2⟩ := info_parts info9
    go_loopw [7, 6] (fun kx v wr => ∃ k : Nat, kx = .int .i64 k ∧ k ≤ all.length ∧ LM.errTo all k = 0 ∧ wr.ownsRow w1.heap.size 9 1 v k (strs ((LM.namesL all).take k)) ∧ Below w1.heap.size w1 wr) (fun kx _ _ => all.length - (intOf kx).toNat)
    case atStart => exact ⟨0, rfl, by omega, rfl, World.ownsRow_nil _ _ _ _, Below.refl _ _⟩
    case round =>
      obtain ⟨k, rfl, hk, hz, hown, hb⟩ := hrel
      have HZ := hideC hz
      have HOW := hideC hown
      have HBr := hideC hb
      have HBt := hideC (HB1.out.trans (hb.mono HB1.out.size))
      have hsz := hb.size
      by_cases hkl : k < all.length
      · obtain ⟨⟨c0, c1, c2, c3, c4, c5⟩, him⟩ := LM.lieI hb hbl HLI.out k hkl
        simp only [Nat.zero_add] at c0 c1 c2 c3 c4 c5
        have HCK := hideC (checkImage_any (LM.liAt all k).i (LM.liAt all k).a wr him (HFA.out k hkl))
        have HER := hideC (err_step HZ.out)
        have HLC := hideC (link_check h7 hkl HZ.out)
        have HSN := hideC (names_snoc all k hkl)
        obtain ⟨q, hq⟩ : ∃ q, q = LM.liAt all k := ⟨_, rfl⟩
        rw [← hq] at c0 c1 c2 c3 c4 c5 HCK HER HLC HSN
        clear hq him hown hz
        obtain ⟨⟨nm, ns, gs, ys, rs, en⟩, ⟨an, cn, ag, cg, ay, cy, ar, cr⟩⟩ := q
        simp only [M.cellsI] at HCK
        simp only at c0 c1 c2 c3 c4 c5 HSN
        obtain ⟨C, hC⟩ : ∃ C, C = M.chkN ⟨nm, ns, gs, ys, rs, en⟩ := ⟨_, rfl⟩
        rw [← hC] at HCK HER HLC
        clear hC
        have hkl1 : (k : Int) < (all.length : Int) := by omega
        by_cases hc : C = 0
        · subst hc
          clear HLC
          go_wp2_with (first | (at_builtin; refine wpList_append_lies _ rfl _ _ 22 rfl w1.heap.size 9 i0 (.string ⟨#[]⟩) 1 16 Try.underlying22 hi hz0 hz1 hz2 rfl (by decide) _ _ _ rfl (HOW2.out.alloc _) ⟨w2.heap.size, 0, none⟩ 1 1 [.string nm] rfl rfl (B.news HN.out) (by intro u hu; simp at hu; subst hu; rfl) (by decide) (by unfold maxLen; omega) (by omega) (by simp; omega) (w2.heap.size + 1) (by simp) ?_; intro g3 cap3 w3 hown3 hgrow hat hlt3; have HO3 := hideC hown3; have HB3 : Hid (Below w1.heap.size w1 w3) := (HB2.out.alloc HB2.out.size _).grown hgrow (by simp; omega) (fun k' e => (hrow.out _ e).1); clear hown3 hgrow hat) | go_at_call 24; refine HCK.out.mono ?_; rintro e w2 ⟨rfl, hb2⟩; have HB2 := hideC (HBr.out.trans (hb2.mono HBr.out.size)); have HOW2 := hideC (row_grown HOW.out hb2); have hl2 : gg < w2.heap.size := (by have := hb2.size; omega); have d0 := (M.below_cell hb2 (show gg < wr.heap.size by omega)).trans c0; have hrow : Hid (∀ q, u6.ownBlock = some q → w1.heap.size ≤ q ∧ q < w2.heap.size) := HOW2.out.lt; have HN := hideC (B.new w2 #[.string nm] 9); have hsz2 := HB2.out.size; clear hb2 c0 c1 c2 c3 c4 c5)
          go_roundw
          case rel => exact ⟨k + 1, by go_num, by omega, HER.out, by rw [HSN.out]; unfold strs; rw [List.map_append]; exact HO3.out, HB3.out⟩
          case measure => simp [intOf]; omega
        · have HL2 := hideC (HLC.out hc)
          go_wp2_with (go_at_call 24; refine HCK.out.mono ?_; rintro e w2 ⟨rfl, hb2⟩; have HB2 := hideC (HBt.out.trans (hb2.mono HBt.out.size)); clear hb2 c0 c1 c2 c3 c4 c5)
          go_ret
          exact ⟨by rw [HLE.out, HL2.out]; rfl, HB2.out⟩
      · obtain rfl : k = all.length := by omega
        rw [List.take_of_length_le (by rw [LM.namesL_length]; omega)] at hown
        rw [← LM.namesL_length] at hown
        obtain ⟨aL, cL, hv6, hasL⟩ := row_has hown
        rw [LM.namesL_length] at hv6
        subst hv6
        have HAL := hideC (alike_any (LM.namesL all) aL cL wr hasL (by unfold M.Short; rw [LM.namesL_length]; omega) (fun k hk => by
          rw [LM.namesL_length] at hk
          rw [LM.namesL_at all k hk]
          exact (HFA.out k hk).name))
        rw [LM.namesL_length] at HAL
        have HCA : Hid (∀ k, k < all.length → M.chkN (LM.liAt all k).i = 0) := LM.errTo_none all all.length HZ.out
        clear hown hasL hz HOW
        cases ho : M.onceB (LM.namesL all) with
        | false =>
          rw [ho] at HAL
          have HLN := hideC (link_names h7 HZ.out ho)
          clear ho
          go_wp2_with (go_at_call 25; refine HAL.out.mono ?_; rintro e w2 ⟨rfl, hb2⟩; have HB2 := hideC (HBt.out.trans (hb2.mono HBt.out.size)); clear hb2)
          go_ret
          exact ⟨by rw [HLE.out, HLN.out]; rfl, HB2.out⟩
        | true =>
          rw [ho] at HAL
          have HLR := hideC (link_rest h7 HZ.out ho)
          clear ho
          have HAI : Hid (Ai all (some ⟨gg, 0, none⟩) wr) := ⟨(HI1.out).below hb, hap, h7, HCA.out⟩
          clear hb
          go_wp2_with (go_at_call 25; refine HAL.out.mono ?_; rintro e w2 ⟨rfl, hb2⟩; have HB2 := hideC (HBt.out.trans (hb2.mono HBt.out.size)); have HA2 := hideC (HAI.out.below hb2); clear hb2)
          refine (objectsR_any all (some ⟨gg, 0, none⟩) capg w2 HA2.out).mono ?_
          rintro e w3 ⟨hb3, hout⟩
          have HB3 := hideC (HB2.out.trans (hb3.mono HB2.out.size))
          clear hb3 HAI HA2
          cases hgt : LM.gat all all.length 0 [0] with
          | none =>
            rw [hgt] at hout HLR
            simp only at hout HLR
            subst hout
            go_wp2
            go_ret
            exact ⟨by rw [HLE.out, HLR.out]; rfl, HB3.out⟩
          | some ix =>
            rw [hgt] at hout HLR
            simp only at hout HLR
            obtain ⟨hx, hout⟩ := hout
            clear hgt
            by_cases hbig : 256 < LM.endFrom all 1 ix
            · rw [if_pos hbig] at hout HLR
              subst hout
              clear hx hbig
              go_wp2
              go_ret
              exact ⟨by rw [HLE.out, HLR.out]; rfl, HB3.out⟩
            · rw [if_neg hbig] at hout HLR
              obtain ⟨ao3, cap3, rfl, hobs⟩ := hout
              have HOI := hideC (oi_of h7 HCA.out HFA.out hx hobs)
              have hxl := LM.obsFrom_length all ix 1
              obtain ⟨l, hl⟩ : ∃ l, l = LM.obsFrom all 1 ix := ⟨_, rfl⟩
              rw [← hl] at HOI HLR hxl
              rw [← hxl]
              have hfw : l.length ≤ 7 := by rw [hxl]; have := hx.le; omega
              have HL0 : Hid ((∃ E, LM.sheetsN l = some E) → LE = 0) := fun ⟨E, hE⟩ => by
                rw [HLE.out, HLR.out, hE]
              have HL7 : Hid (LM.sheetsN l = none → LE = 7) := fun hE => by
                rw [HLE.out, HLR.out, hE]
              clear hl hx hobs hbig hxl HLR HLE HLI HI1 HFA HIM HAL HZ HCA hz0 hz1 hz2 hi HBr HBt HB1 HB2
              go_wp2
              go_loopw [11] (fun nx wr => ∃ (n : Nat) (E : List LM.Sp), nx = .int .i64 n ∧ n ≤ l.length ∧ LM.obsTo l n = some E ∧ Below w3.heap.size w3 wr) (fun nx _ => l.length - (intOf nx).toNat)
              case atStart => exact ⟨0, [], rfl, by omega, rfl, Below.refl _ _⟩
              case round =>
                obtain ⟨n, E, rfl, hn, hobE, hb⟩ := hrel
                have HOE := hideC hobE
                have HBn := hideC hb
                clear hobE
                by_cases hnl : n < l.length
                · obtain ⟨ob, oo, hao3, hobl, holie⟩ := HOI.out.has (by omega)
                  subst hao3
                  have HRS : Hid (M.HasBy M.LieR w3 (LM.obAt l n).a.ar (LM.obAt l n).i.rels) := (holie n hnl).2.rels
                  have HCell : Hid (∀ V, Below w3.heap.size w3 V → (V.cell? ⟨ob, oo + n * 7, none⟩ = some (.string (LM.obAt l n).i.name) ∧ V.cell? ⟨ob, oo + n * 7 + 1, none⟩ = some (.slice (LM.obAt l n).a.an (LM.obAt l n).i.needs.length (LM.obAt l n).a.cn) ∧
                     V.cell? ⟨ob, oo + n * 7 + 2, none⟩ = some (.slice (LM.obAt l n).a.ag (LM.obAt l n).i.segs.length (LM.obAt l n).a.cg) ∧ V.cell? ⟨ob, oo + n * 7 + 3, none⟩ = some (.slice (LM.obAt l n).a.ay (LM.obAt l n).i.syms.length (LM.obAt l n).a.cy) ∧
                     V.cell? ⟨ob, oo + n * 7 + 4, none⟩ = some (.slice (LM.obAt l n).a.ar (LM.obAt l n).i.rels.length (LM.obAt l n).a.cr) ∧ V.cell? ⟨ob, oo + n * 7 + 5, none⟩ = some (.int .i64 (LM.obAt l n).i.entry) ∧ V.cell? ⟨ob, oo + n * 7 + 6, none⟩ = some (.int .i64 (LM.obAt l n).base))) := fun V hV => (LM.lieO hV hobl holie n hnl).1
                  have hbase := HOI.out.base n hnl
                  have hcr := (LM.counts_of (HOI.out.chk n hnl)).2.2.2.2
                  have HAD : Hid (∀ k V, Below w3.heap.size w3 V → Calls Try.prog 27 #[.slice (some ⟨ob, oo, none⟩) l.length cap3, .agg (LM.cellsO (LM.obAt l n)), .agg #[.int .i64 (M.rlAt (LM.obAt l n).i.rels k).pos, .string (M.rlAt (LM.obAt l n).i.rels k).name, .int .i64 (M.rlAt (LM.obAt l n).i.rels k).add]] V fun e w' => e = .returned (addrV (LM.tgtN l (LM.obAt l n) (M.rlAt (LM.obAt l n).i.rels k).name) (M.rlAt (LM.obAt l n).i.rels k).add) ∧ Below V.heap.size V w') := fun k V hV => addressR_any l _ cap3 (LM.obAt l n) (M.rlAt (LM.obAt l n).i.rels k) V (HOI.out.below hV) (by omega) (by omega)
                  have HMISS := hideC (fun k (hk : k < (LM.obAt l n).i.rels.length) ps h1 h2 => HL7.out (obs_miss hnl HOE.out (pat_miss (o := LM.obAt l n) (k := k) hk (ps := ps) h1 h2)))
                  have HNEXT := hideC (fun k ps h1 t h2 => pat_next (l := l) (o := LM.obAt l n) (k := k) (ps := ps) h1 (t := t) h2)
                  have HOBN : Hid (∀ ps, LM.patTo l (LM.obAt l n) (LM.obAt l n).i.rels.length = some ps → ∃ E', LM.obsTo l (n + 1) = some E') := fun ps hp => ⟨_, obs_next HOE.out (show LM.patN l (LM.obAt l n) = some ps from hp)⟩
                  clear holie
                  obtain ⟨PT, hPT⟩ : ∃ PT, PT = LM.patTo l (LM.obAt l n) := ⟨_, rfl⟩
                  obtain ⟨TG, hTG⟩ : ∃ TG, TG = LM.tgtN l (LM.obAt l n) := ⟨_, rfl⟩
                  have HP0 : Hid (PT 0 = some []) := hideC (by rw [hPT]; rfl)
                  rw [← hTG] at HAD
                  rw [← hPT, ← hTG] at HNEXT HMISS
                  rw [← hPT] at HOBN
                  clear hPT hTG
                  obtain ⟨PO, hPO⟩ : ∃ PO, PO = LM.ptOf (LM.obAt l n) := ⟨_, rfl⟩
                  rw [← hPO] at HNEXT
                  clear hPO
                  obtain ⟨o, ho⟩ : ∃ o, o = LM.obAt l n := ⟨_, rfl⟩
                  rw [← ho] at HRS HCell hcr HAD HMISS HNEXT HOBN
                  clear ho hbase
                  obtain ⟨⟨nm, ns, gs, ys, rs, en⟩, ⟨an, cn, ag, cg, ay, cy, ar, cr⟩, ba⟩ := o
                  simp only [LM.cellsO] at HAD
                  simp only at HRS HCell hcr HAD HMISS HNEXT HOBN
                  have hn1 : (n : Int) < (l.length : Int) := by omega
                  clear hb
                  go_wp2
                  go_loopw [12] (fun kx wr => ∃ (k : Nat) (ps : List LM.Pt), kx = .int .i64 k ∧ k ≤ rs.length ∧ PT k = some ps ∧ Below w3.heap.size w3 wr) (fun kx _ => rs.length - (intOf kx).toNat)
                  case atStart => exact ⟨0, [], rfl, by omega, HP0.out, HBn.out⟩
                  case round =>
                    obtain ⟨k, ps, rfl, hk, hps, hb⟩ := hrel
                    have HPS := hideC hps
                    have HBk := hideC hb
                    have z4 := (HCell.out _ hb).2.2.2.2.1
                    clear hps
                    by_cases hkl2 : k < rs.length
                    · obtain ⟨rb, ro, har, hrb, hlr⟩ := HRS.out (by omega)
                      subst har
                      have HRC : Hid (∀ V, Below w3.heap.size w3 V → (V.cell? ⟨rb, ro + k * 3, none⟩ = some (.int .i64 (M.rlAt rs k).pos) ∧ V.cell? ⟨rb, ro + k * 3 + 1, none⟩ = some (.string (M.rlAt rs k).name) ∧ V.cell? ⟨rb, ro + k * 3 + 2, none⟩ = some (.int .i64 (M.rlAt rs k).add))) := fun V hV => M.lieR hV hrb hlr k hkl2
                      have HADk := hideC (fun V (hV : Below wr.heap.size wr V) => HAD.out k V (HBk.out.trans (hV.mono HBk.out.size)))
                      have HMk := hideC (HMISS.out k hkl2 ps HPS.out)
                      have HNk := hideC (HNEXT.out k ps HPS.out)
                      obtain ⟨⟨rp, rn, ra⟩, hrr⟩ : ∃ r, r = M.rlAt rs k := ⟨_, rfl⟩
                      rw [← hrr] at HRC HADk HMk HNk
                      simp only at HRC HADk HMk HNk
                      clear hrr hlr hb HAD
                      have hkin := Q.kin_some wr
                      have HBX : Hid (∀ x : Q.Kin wr.heap.size wr, Below w3.heap.size w3 x.world) := fun x => HBk.out.trans (x.keeps.mono HBk.out.size)
                      have a0 := fun x : Q.Kin wr.heap.size wr => (HCell.out _ (HBX.out x)).1
                      have a1 := fun x : Q.Kin wr.heap.size wr => (HCell.out _ (HBX.out x)).2.1
                      have a2 := fun x : Q.Kin wr.heap.size wr => (HCell.out _ (HBX.out x)).2.2.1
                      have a3 := fun x : Q.Kin wr.heap.size wr => (HCell.out _ (HBX.out x)).2.2.2.1
                      have a4 := fun x : Q.Kin wr.heap.size wr => (HCell.out _ (HBX.out x)).2.2.2.2.1
                      have a5 := fun x : Q.Kin wr.heap.size wr => (HCell.out _ (HBX.out x)).2.2.2.2.2.1
                      have a6 := fun x : Q.Kin wr.heap.size wr => (HCell.out _ (HBX.out x)).2.2.2.2.2.2
                      have r0 := fun x : Q.Kin wr.heap.size wr => (HRC.out _ (HBX.out x)).1
                      have r1 := fun x : Q.Kin wr.heap.size wr => (HRC.out _ (HBX.out x)).2.1
                      have r2 := fun x : Q.Kin wr.heap.size wr => (HRC.out _ (HBX.out x)).2.2
                      have hk1 : (k : Int) < (rs.length : Int) := by omega
                      have hk0 : (0 : Int) ≤ (k : Int) := by omega
                      have hn0 : (0 : Int) ≤ (n : Int) := by omega
                      cases htg : TG rn with
                      | none =>
                        rw [htg] at HADk
                        simp only [addrV] at HADk
                        have HLE7 := hideC (HMk.out htg)
                        clear htg HMk HNk
                        go_wp2_with fail
                        refine Q.region_kin (by kernel_rfl) (by kernel_rfl) ?_
                        repeat (first | go_big_quiet_step ((go_at_call 27; with_reducible exact calls_below HADk.out _)) | quiet_step ((go_at_call 27; with_reducible exact calls_below HADk.out _)))
                        refine wpQuiet_nil ?_
                        intro _ hw'
                        obtain ⟨x, hw''⟩ := hw'
                        subst hw''
                        have HKX := hideC (HBX.out x)
                        clear a0 a1 a2 a3 a4 a5 a6 r0 r1 r2 HADk hkin
                        obtain ⟨w0, hw0⟩ : ∃ w0, w0 = x.world := ⟨_, rfl⟩
                        rw [← hw0] at HKX ⊢
                        clear hw0 x
                        go_wp2
                        go_ret
                        exact ⟨by rw [HLE7.out]; rfl, HB3.out.trans (HKX.out.mono HB3.out.size)⟩
                      | some t =>
                        rw [htg] at HADk
                        simp only [addrV] at HADk
                        have HNX := hideC (HNk.out t htg)
                        clear htg HMk HNk
                        go_wp2_with fail
                        refine Q.region_kin (by kernel_rfl) (by kernel_rfl) ?_
                        repeat (first | go_big_quiet_step ((go_at_call 27; with_reducible exact calls_below HADk.out _)) | quiet_step ((go_at_call 27; with_reducible exact calls_below HADk.out _)))
                        refine wpQuiet_nil ?_
                        intro _ hw'
                        obtain ⟨x, hw''⟩ := hw'
                        subst hw''
                        have HKX := hideC (HBX.out x)
                        clear a0 a1 a2 a3 a4 a5 a6 r0 r1 r2 HADk hkin
                        obtain ⟨w0, hw0⟩ : ∃ w0, w0 = x.world := ⟨_, rfl⟩
                        rw [← hw0] at HKX ⊢
                        clear hw0 x
                        go_wp2
                        go_roundw
                        case rel => exact ⟨k + 1, _, by go_num, by omega, HNX.out, HKX.out⟩
                        case measure => simp [intOf]; omega
                    · obtain rfl : k = rs.length := by omega
                      obtain ⟨E', hE'⟩ := HOBN.out ps HPS.out
                      have HE' := hideC hE'
                      clear hE' hb
                      go_wp2
                      go_roundw
                      case rel => exact ⟨n + 1, E', by go_num, by omega, HE'.out, HBk.out⟩
                      case measure => simp [intOf]; omega
                · obtain rfl : n = l.length := by omega
                  have HZ0 := hideC (HL0.out ⟨E, HOE.out⟩)
                  clear hb
                  go_wp2
                  go_ret
                  exact ⟨by rw [HZ0.out]; rfl, HB3.out.trans (HBn.out.mono HB3.out.size)⟩
end Go.Proofs.Yteieplodndfbhaa.LW
/- The board of what is linked; plain Lean. -/
namespace Go.Proofs.Yteieplodndfbhaa.LM
open Go.RowKit
set_option linter.unusedVariables false
set_option maxRecDepth 100000

/-- the area of a segment -/
def arO (o : Ob) (s : M.Sg) : AM.Ar := ⟨o.base + s.page, s.pages, protN s, false⟩
/-- the board, one segment more -/
def bsg (o : Ob) (F : Nat → AM.St) : Nat → Nat → AM.St
  | 0 => F
  | k + 1 => AM.layTo (bsg o F k) (arO o (M.sgAt o.i.segs k)) (o.base + (M.sgAt o.i.segs k).page + (M.sgAt o.i.segs k).pages)
def bob (l : List Ob) : Nat → Nat → AM.St
  | 0 => fun _ => AM.off
  | k + 1 => bsg (obAt l k) (bob l k) (obAt l k).i.segs.length
theorem protN_bd (s : M.Sg) : 0 ≤ protN s ∧ protN s ≤ 3 := by
  unfold protN
  split <;> split <;> omega
theorem enc_mark (s : M.Sg) : AM.enc ⟨true, protN s, false⟩ = AM.mark (protN s) false := rfl
/-- the segments of an image lie one behind the other -/
theorem there_of {i : M.Im} (hc : M.chkN i = 0) : M.apartB i.segs = true := by
  unfold M.chkN at hc
  split at hc
  · simp at hc
  · split at hc
    · simp at hc
    · split at hc
      · simp at hc
      · split at hc
        · simp at hc
        · rename_i h
          have h' : M.thereB i = true := by simpa using h
          unfold M.thereB at h'
          simp only [Bool.and_eq_true] at h'
          exact h'.1
theorem over_at (l : List M.Sg) : ∀ n, M.overTo l n = true → ∀ k, k + 1 < n → (M.sgAt l k).page + (M.sgAt l k).pages ≤ (M.sgAt l (k + 1)).page
  | 0, _, k, hk => by omega
  | n + 1, h, k, hk => by
    simp only [M.overTo, Bool.and_eq_true] at h
    by_cases e : k + 1 = n
    · subst e
      have := h.2
      unfold M.overAt at this
      simpa using this
    · exact over_at l n h.1 k (by omega)
theorem segs_rise {i : M.Im} (hc : M.chkN i = 0) : ∀ (m k : Nat), k < m → m < i.segs.length → (M.sgAt i.segs k).page + (M.sgAt i.segs k).pages ≤ (M.sgAt i.segs m).page
  | 0, k, h, _ => by omega
  | m + 1, k, h, hm => by
    have ho := over_at i.segs i.segs.length (there_of hc) m hm
    by_cases e : k = m
    · subst e; exact ho
    · have ih := segs_rise hc m k (by omega) (by omega)
      have hb := seg_bounds hc m (by omega)
      omega
theorem segs_last {i : M.Im} (hc : M.chkN i = 0) (k : Nat) (hk : k < i.segs.length) : (M.sgAt i.segs k).page + (M.sgAt i.segs k).pages ≤ (lastSeg i).page + (lastSeg i).pages := by
  unfold lastSeg
  by_cases e : k = i.segs.length - 1
  · subst e; exact Int.le_refl _
  · have h := segs_rise hc (i.segs.length - 1) k (by omega) (by omega)
    have hb := seg_bounds hc (i.segs.length - 1) (by omega)
    omega
end Go.Proofs.Yteieplodndfbhaa.LM
namespace Go.Proofs.Yteieplodndfbhaa.AW
open Go.RowKit
set_option linter.unusedVariables false
set_option maxRecDepth 100000

theorem size42' : (Try.prog.info? 77).map (·.size) = some 256 := by kernel_rfl

set_option maxHeartbeats 2000000 in
theorem areasOf_any (F : Nat → AM.St) (hF : AM.Fine F) (w : World) :
    Calls Try.prog 30 #[.agg (AM.cellsB (fun n => AM.enc (F n)))] w fun e w' => ∃ v, e = .returned v ∧ Has w' v (AM.gatherN F) ∧ Below w.heap.size w w' := by
  have HF : Hid (AM.Fine F) := hF
  clear hF
  obtain ⟨C, hC⟩ : ∃ C, C = AM.cellsB (fun n => AM.enc (F n)) := ⟨_, rfl⟩
  have hCg : Hid (∀ n, n < 256 → C[n]? = some (.int .i64 (AM.enc (F n)))) := by show ∀ n, _; rw [hC]; exact fun n hn => AM.cellsB_get _ n hn
  rw [← hC]
  clear hC
  obtain ⟨i0, hi, hz0, hz1, hz2⟩ := info_parts info24
  have HX : Hid ((w.alloc (.cells C 77)).heap[w.heap.size]? = some (.cells C 77 (0, 0))) := B.new w C 77
  have HB0 : Hid (Below w.heap.size w (w.alloc (.cells C 77))) := (Below.refl _ _).alloc (Nat.le_refl _) _
  go_enter Try.func30, Try.ntmps30
  go_wp2
  go_loopw [3, 4] (fun v i wr => ∃ k : Nat, 1 ≤ k ∧ k ≤ 256 ∧ i = .int .i64 k ∧ wr.ownsRow (w.heap.size + 1) 99 4 v (AM.gatherTo F k).length (AM.areaCells (AM.gatherTo F k)) ∧ wr.heap[w.heap.size]? = some (.cells C 77 (0, 0)) ∧ Below w.heap.size w wr) (fun _ i _ => 256 - (intOf i).toNat)
  case atStart =>
    have e : AM.gatherTo F 1 = [] := by simp only [AM.gatherTo]; rw [if_pos HF.out.zero]
    refine ⟨1, by omega, by omega, rfl, ?_, HX.out, HB0.out⟩
    rw [e]
    exact World.ownsRow_nil _ _ _ _
  case round =>
    obtain ⟨k, hk1, hk, rfl, hown, hx, hb⟩ := hrel
    have HO : Hid (wr.ownsRow (w.heap.size + 1) 99 4 u3 (AM.gatherTo F k).length (AM.areaCells (AM.gatherTo F k))) := hown
    have HXr : Hid (wr.heap[w.heap.size]? = some (.cells C 77 (0, 0))) := hx
    have HB : Hid (Below w.heap.size w wr) := hb
    have hsz : w.heap.size < wr.heap.size := B.isLt hx
    by_cases hlt : k < 256
    · have l0 := B.cell hx k (hCg.out k hlt)
      have l1 := B.cell hx (k - 1) (hCg.out (k - 1) (by omega))
      have hki : (k : Int) ≤ 255 := by omega
      have hk1i : (1 : Int) ≤ (k : Int) := by omega
      have hkb : (k : Int) < 256 := by omega
      clear hown hx hb
      have hlast : AM.lastTo F k = F (k - 1) := by
        cases k with
        | zero => omega
        | succ k => rfl
      have hpk := HF.out.prot k
      have hpl := HF.out.prot (k - 1)
      obtain ⟨s, hs⟩ : ∃ s, s = F k := ⟨_, rfl⟩
      obtain ⟨t, ht⟩ : ∃ t, t = AM.lastTo F k := ⟨_, rfl⟩
      rw [← hlast, ← ht] at l1 hpl
      rw [← hs] at l0 hpk
      have HS : Hid (s = F k) := hs
      have HT : Hid (t = AM.lastTo F k) := ht
      clear hs ht hlast
      by_cases hm : s.m = true
      · have hen := AM.enc_prot s hpk hm
        have hinj := AM.enc_inj s t hpk hpl hm
        obtain ⟨x, hx⟩ : ∃ x, x = AM.enc s := ⟨_, rfl⟩
        obtain ⟨y, hy⟩ : ∃ y, y = AM.enc t := ⟨_, rfl⟩
        rw [← hx] at l0 hen hinj
        rw [← hy] at l1 hinj
        obtain ⟨hp1, hp2, hp3, hp4⟩ := hen
        have HP1 : Hid ((x - 1) % 8 / 2 = s.p) := hp1
        have HP2 : Hid (decide (8 ≤ x - 1) = s.z) := hp2
        have HI : Hid (y = x ↔ AM.stEq s t = true) := hinj
        have hx0 : (x == 0) = false := beq_eq_false_iff_ne.2 (by omega)
        clear hx hy hp1 hp2 hinj hpk hpl
        by_cases hyx : y = x
        · have he : AM.stEq s t = true := HI.out.1 hyx
          have hyx' : (y == x) = true := by simp [hyx]
          have HG : Hid (AM.gatherTo F (k + 1) = AM.bump (AM.gatherTo F k)) := by show _ = _; simp only [AM.gatherTo]; rw [← HS.out, ← HT.out, hm, he]; rfl
          have hpos := AM.gather_some F k (by rw [← HT.out, ← AM.stEq_eq s t he]; exact hm)
          have hlen := AM.gather_len F k
          have hpg := AM.gather_pages F k ((AM.gatherTo F k).length - 1) (by omega)
          obtain ⟨G, hG⟩ : ∃ G, G = AM.gatherTo F k := ⟨_, rfl⟩
          rw [← hG] at HO HG hpos hlen hpg
          clear hG he hm hyx
          rcases HO.out.2 with ⟨_, h0⟩ | ⟨g, cap, cur, hv, hbg, hg, hnc, hcm, hcs, htake⟩
          · omega
          · have HO2 := HO.out
            rw [hv] at HO2
            have p1 : wr.cell? ⟨g, (G.length - 1) * 4 + 1, none⟩ = some (.int .i64 (AM.at_ G (G.length - 1)).pages) := by
              rw [HO2.cellAt _ (by omega), AM.areaCells_get G _ 1 (by omega) (by omega)]; rfl
            have pf := HO2.frozenAt
            have HOv : Hid (wr.ownsRow (w.heap.size + 1) 99 4 (.slice (some ⟨g, 0, none⟩) G.length cap) G.length (AM.areaCells G)) := HO2
            have hgl : g < wr.heap.size := B.isLt hg
            rw [hv]
            clear HO HO2 hv hg htake hcs
            obtain ⟨pp, hpp⟩ : ∃ pp, pp = (AM.at_ G (G.length - 1)).pages := ⟨_, rfl⟩
            rw [← hpp] at p1 hpg
            have HP : Hid (pp = (AM.at_ G (G.length - 1)).pages) := hpp
            clear hpp
            have hG1 : (1 : Int) ≤ (G.length : Int) := by omega
            have hG2 : (G.length : Int) ≤ 256 := by omega
            go_wp2
            go_quiet (fail)
            obtain ⟨V, hV⟩ : ∃ V : World, V = wr.drewN nq := ⟨_, rfl⟩
            rw [← hV]
            have p1V : V.cell? ⟨g, (G.length - 1) * 4 + 1, none⟩ = some (.int .i64 pp) := by rw [hV]; exact p1
            have pfV : ∀ j, V.frozen? ⟨g, j, none⟩ = false := by rw [hV]; exact pf
            have HXV : Hid (V.heap[w.heap.size]? = some (.cells C 77 (0, 0))) := by show _ = _; rw [hV]; exact HXr.out
            have HOV : Hid (V.ownsRow (w.heap.size + 1) 99 4 (.slice (some ⟨g, 0, none⟩) G.length cap) G.length (AM.areaCells G)) := by show World.ownsRow _ _ _ _ _ _ _; rw [hV]; exact HOv.out
            have HBV : Hid (Below w.heap.size w V) := by show Below _ _ _; rw [hV]; exact below_drewN HB.out _
            clear hV p1 pf l0 l1 HXr HOv HB
            go_wp2
            go_roundw
            case rel =>
              have ho := (HOV.out.stored ((G.length - 1) * 4 + 1) (.int .i64 (pp + 1))).1
              have e : (AM.areaCells G).set ((G.length - 1) * 4 + 1) (.int .i64 (pp + 1)) = AM.areaCells (AM.bump G) := by
                rw [HP.out]; exact (AM.areaCells_set G (G.length - 1) _ (by omega)).symm
              rw [e] at ho
              refine ⟨k + 1, by omega, by omega, by go_num, ?_, B.other HXV.out _ _ _ (by omega), HBV.out.setCell (by simp; omega) _⟩
              rw [HG.out, AM.bump_length]; exact ho
            case measure => simp [intOf]; omega
        · have he : AM.stEq s t = false := by
            cases e : AM.stEq s t
            · rfl
            · exact absurd (HI.out.2 e) hyx
          have hyx' : (y == x) = false := beq_eq_false_iff_ne.2 hyx
          have HG : Hid (AM.gatherTo F (k + 1) = AM.gatherTo F k ++ [⟨(k : Int), 1, s.p, s.z⟩]) := by show _ = _; simp only [AM.gatherTo]; rw [← HS.out, ← HT.out, hm, he]; rfl
          have hlen := AM.gather_len F k
          obtain ⟨G, hG⟩ : ∃ G, G = AM.gatherTo F k := ⟨_, rfl⟩
          rw [← hG] at HO HG hlen
          clear hG he hm hyx
          have hrow : Hid (∀ j, u3.ownBlock = some j → w.heap.size + 1 ≤ j ∧ j < wr.heap.size) := HO.out.lt
          go_wp2
          go_quiet (fail)
          obtain ⟨V, hV⟩ : ∃ V : World, V = wr.drewN nq := ⟨_, rfl⟩
          rw [← hV]
          have l0V : V.cell? ⟨w.heap.size, k, none⟩ = some (.int .i64 x) := by rw [hV]; exact l0
          have HXV : Hid (V.heap[w.heap.size]? = some (.cells C 77 (0, 0))) := by show _ = _; rw [hV]; exact HXr.out
          have HOV : Hid (V.ownsRow (w.heap.size + 1) 99 4 u3 G.length (AM.areaCells G)) := by show World.ownsRow _ _ _ _ _ _ _; rw [hV]; exact HO.out
          have HBV : Hid (Below w.heap.size w V) := by show Below _ _ _; rw [hV]; exact below_drewN HB.out _
          have hrV : Hid (∀ j, u3.ownBlock = some j → w.heap.size + 1 ≤ j ∧ j < V.heap.size) := HOV.out.lt
          have hszV : w.heap.size < V.heap.size := B.isLt HXV.out
          clear hV l0 l1 HXr HO HB hrow hsz
          have HN : Hid ((V.alloc (.cells #[.int .i64 (k : Int), .int .i64 1, .int .i64 ((x - 1) % 8 / 2), .bool (decide (8 ≤ x - 1))] 99)).heap[V.heap.size]? = some (.cells #[.int .i64 (k : Int), .int .i64 1, .int .i64 ((x - 1) % 8 / 2), .bool (decide (8 ≤ x - 1))] 99 (0, 0))) := B.new _ _ _
          go_wp2_with (at_builtin; refine wpList_append_lies _ rfl _ _ 29 rfl (w.heap.size + 1) 99 i0 (.agg #[.int .i64 0, .int .i64 0, .int .i64 0, .bool false]) 4 32 Try.underlying29 hi hz0 hz1 hz2 rfl (by decide) _ _ _ rfl (HOV.out.alloc _) ⟨V.heap.size, 0, none⟩ 1 1 [.int .i64 (k : Int), .int .i64 1, .int .i64 ((x - 1) % 8 / 2), .bool (decide (8 ≤ x - 1))] rfl rfl (B.news HN.out) (AM.areaCells_one [⟨(k : Int), 1, (x - 1) % 8 / 2, decide (8 ≤ x - 1)⟩]) (by decide) (by unfold maxLen; omega) (by omega) (by simp; omega) (V.heap.size + 1) (by simp) ?_)
          intro g cap w1 hown1 hgrow hat hlt1
          have bX := B.grown (B.alloc HXV.out (.cells #[.int .i64 (k : Int), .int .i64 1, .int .i64 ((x - 1) % 8 / 2), .bool (decide (8 ≤ x - 1))] 99)) hgrow (fun e => by have := hrV.out _ e.symm; omega)
          have HO1 : Hid (w1.ownsRow (w.heap.size + 1) 99 4 (Value.slice (some ⟨g, 0, none⟩) (G.length + 1) cap) (G.length + 1) (AM.areaCells G ++ [.int .i64 (k : Int), .int .i64 1, .int .i64 ((x - 1) % 8 / 2), .bool (decide (8 ≤ x - 1))])) := hown1
          have HX1 : Hid (w1.heap[w.heap.size]? = some (.cells C 77 (0, 0))) := bX
          have HB1 : Hid (Below w.heap.size w w1) := (HBV.out.alloc HBV.out.size _).grown hgrow (by have := HBV.out.size; simp; omega) (fun k' e => by have := hrV.out _ e; omega)
          clear bX hown1 hgrow hat
          go_wp2
          go_roundw
          case rel =>
            refine ⟨k + 1, by omega, by omega, by go_num, ?_, HX1.out, HB1.out⟩
            rw [HG.out, List.length_append, AM.areaCells_append]
            have h := HO1.out
            rw [HP1.out, HP2.out] at h
            exact h
          case measure => simp [intOf]; omega
      · have hm' : s.m = false := by simpa using hm
        have hx0 := (AM.enc_zero s hpk.1).2 hm'
        have HG : Hid (AM.gatherTo F (k + 1) = AM.gatherTo F k) := by show _ = _; simp only [AM.gatherTo]; rw [← HS.out, hm']; rfl
        rw [hx0] at l0
        clear hm hx0
        go_wp2
        go_roundw
        case rel =>
          refine ⟨k + 1, by omega, by omega, by go_num, ?_, HXr.out, HB.out⟩
          rw [HG.out]; exact HO.out
        case measure => simp [intOf]; omega
    · obtain rfl : k = 256 := by omega
      clear hown hx hb
      go_wp2
      go_ret
      refine ⟨_, rfl, ?_, HB.out⟩
      show Has wr u3 (AM.gatherN F)
      rcases HO.out.2 with ⟨hv, h0⟩ | ⟨g, cap, cur, hv, hbg, hg, hnc, hcm, hcs, htake⟩
      · have h0' : (AM.gatherN F).length = 0 := h0
        exact ⟨none, 0, by rw [hv, h0'], .inl (List.eq_nil_of_length_eq_zero h0')⟩
      · have ho := HO.out
        rw [hv] at ho
        refine ⟨some ⟨g, 0, none⟩, cap, hv, .inr ⟨g, 0, rfl, fun i hi => ?_⟩⟩
        have hi' : i < (AM.gatherTo F 256).length := hi
        rw [Nat.zero_add]
        exact ⟨(ho.cellAt _ (by omega)).trans (AM.areaCells_get _ i 0 hi' (by omega)), (ho.cellAt _ (by omega)).trans (AM.areaCells_get _ i 1 hi' (by omega)), (ho.cellAt _ (by omega)).trans (AM.areaCells_get _ i 2 hi' (by omega)), (ho.cellAt _ (by omega)).trans (AM.areaCells_get _ i 3 hi' (by omega))⟩
end Go.Proofs.Yteieplodndfbhaa.AW
