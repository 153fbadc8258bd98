import Derived.Test.YtafdgjpmhofinaaU6
import Derived.Deep.AppendLies
import Derived.Deep.RegionLaw
import Derived.Deep.CutBlock
import Derived.Deep.DeepCutAuto
namespace Go.Proofs.Ytafdgjpmhofinaa.W
open Go.RowKit
set_option linter.unusedVariables false

theorem empty_of {s : ByteArray} (h : s.data.toList = []) : s = ⟨#[]⟩ := by
  obtain ⟨a⟩ := s
  congr 1
  exact Array.toList_eq_nil_iff.1 h
set_option maxRecDepth 100000 in
set_option maxHeartbeats 4000000 in
theorem imageFrom_any (s : ByteArray) (w : World) (hs : s.size ≤ 1048576) : Calls Try.prog 12 #[.string s] w (OutF w (readR s.data.toList)) := by
  have hml : s.size ≤ maxLen := by unfold maxLen; omega
  have HB1 := hideC ((Below.refl w.heap.size w).alloc (Nat.le_refl _) (.cells #[.string ⟨#[]⟩, .slice none 0 0, .slice none 0 0, .slice none 0 0, .slice none 0 0, .int .i64 0] 27))
  have HB2 := hideC (HB1.out.alloc HB1.out.size (.cells #[.string s, .bool false] 67))
  obtain ⟨W, hW⟩ : ∃ W, W = (w.alloc (.cells #[.string ⟨#[]⟩, .slice none 0 0, .slice none 0 0, .slice none 0 0, .slice none 0 0, .int .i64 0] 27)).alloc (.cells #[.string s, .bool false] 67) := ⟨_, rfl⟩
  have HW := hideC hW
  obtain ⟨p, hp⟩ : ∃ p, p = w.heap.size + 1 := ⟨_, rfl⟩
  have HPE := hideC hp
  have HEY : Hid (Eye p W (some s.data.toList)) := by
    refine ⟨s, false, ?_, hs, rfl, rfl⟩
    rw [hW, hp]
    have h := B.new (w.alloc (.cells #[.string ⟨#[]⟩, .slice none 0 0, .slice none 0 0, .slice none 0 0, .slice none 0 0, .int .i64 0] 27)) #[.string s, .bool false] 67
    rw [show (w.alloc (.cells #[.string ⟨#[]⟩, .slice none 0 0, .slice none 0 0, .slice none 0 0, .slice none 0 0, .int .i64 0] 27)).heap.size = w.heap.size + 1 by simp] at h
    exact h
  have R0 : Hid (W.heap[w.heap.size]? = some (.cells #[.string ⟨#[]⟩, .slice none 0 0, .slice none 0 0, .slice none 0 0, .slice none 0 0, .int .i64 0] 27 (0, 0))) := by
    show _ = _
    rw [hW]
    exact B.alloc (B.new w _ _) _
  have hWs : W.heap.size = w.heap.size + 2 := by rw [hW]; simp
  rw [← hW] at HB2
  clear hW hp
  obtain ⟨i9, hi9, hz90, hz91, hz92⟩ := info_parts info9
  have HT1 := hideC (text_eye p (some s.data.toList) W HEY.out)
  obtain ⟨nm, o1, h1⟩ : ∃ nm o1, textE (some s.data.toList) = (nm, o1) := ⟨_, _, rfl⟩
  rw [h1] at HT1
  simp only at HT1
  clear HEY
  have H1 := hideC h1
  clear h1
  obtain ⟨m1, c1, hc1, hl1, hm1⟩ := count_list textE o1
  obtain ⟨ns, o2, e2⟩ : ∃ ns o2, listE textE o1 = (ns, o2) := ⟨_, _, rfl⟩
  rw [e2] at hl1
  have HC1 := hideC hc1
  have HL1 := hideC hl1
  have HM1 := hideC hm1
  have HE2 := hideC e2
  clear hc1 hl1 hm1 e2
  go_enter Try.func12, Try.ntmps12
  go_upto_block 0 with (first | (go_at_call 36; rw [← HW.out, ← HPE.out]; refine HT1.out.mono ?_; rintro e w1 ⟨rfl, hey, hf⟩; have HEY := hideC hey; have HF := hideC hf; have hw1 := hey.lt; have hw1s := hf.below.size; clear hey hf) | (go_at_call 37; refine (count_eye p o1 _ (HEY.out.keep ((Below.refl w1.heap.size w1).alloc (Nat.le_refl _) _))).mono ?_; rintro e w2 ⟨rfl, hey, hf⟩; rw [HC1.out] at hey ⊢; have HEY2 := hideC hey; have HF2 := hideC hf; have hw2s := hf.below.size; clear hey hf))
  have hp2 := HEY2.out.lt
  have hqs : w1.heap.size + 1 ≤ w2.heap.size := by simpa using hw2s
  have HQ2 := hideC ((HF2.out.block w1.heap.size (by simp) (by omega) (by simp)).trans (B.new w1 #[.string nm, .slice none 0 0, .slice none 0 0, .slice none 0 0, .slice none 0 0, .int .i64 0] 27))
  obtain ⟨q, hq⟩ : ∃ q, q = w1.heap.size := ⟨_, rfl⟩
  have HQE := hideC hq
  rw [← hq] at HQ2
  have hpq : p < q := by omega
  have hq2 : q < w2.heap.size := by omega
  rw [← hq]
  clear hq
  have HC : Hid (∀ v, (fun v => #[.string nm, v, .slice none 0 0, .slice none 0 0, .slice none 0 0, .int .i64 0] : Value → Array Value) v = #[.string nm, v, .slice none 0 0, .slice none 0 0, .slice none 0 0, .int .i64 0]) := fun v => rfl
  go_cut [6] (fun i wc => LE cellS1 9 1 p q (fun v => #[.string nm, v, .slice none 0 0, .slice none 0 0, .slice none 0 0, .int .i64 0]) w2 ns o2 wc)
  case first =>
    go_wp2
    go_loopw [6] (fun i wr => ∃ (k : Nat) (oc : Option (List UInt8)) (xs : List ByteArray) (v : Value), i = .int .i64 k ∧ LL textE cellS1 9 1 p q (fun v => #[.string nm, v, .slice none 0 0, .slice none 0 0, .slice none 0 0, .int .i64 0]) w2 ns o2 k oc xs v wr) (fun i _ => (intOf i).toNat)
    case atStart => exact ⟨m1, c1, [], _, rfl, LL.begin HL1.out HEY2.out HQ2.out (HM1.out p _ HEY2.out)⟩
    case round =>
      obtain ⟨k, oc, xs, v, rfl, hll⟩ := hrel
      have HLL := hideC hll
      obtain ⟨hst, hey, hqb, hown, hxk, hf2⟩ := hll
      have HST := hideC hst
      have HEYk := hideC hey
      have HQ := hideC hqb
      have HOW := hideC hown
      have HFF := hideC hf2
      have hsz := hf2.below.size
      have hpl := hey.lt
      clear hst hey hqb hown hf2
      by_cases hk0 : k = 0
      · have z1 : decide ((0 : Int) < (k : Int)) = false := by simp; omega
        have z2 : decide (0 < k) = false := by simp; omega
        have z3 : ¬ (0 : Int) < (k : Int) := by omega
        have HX := hideC (HLL.out.done (.inl hk0))
        clear hk0
        go_wp2
        go_meet
        case rel => exact HX.out
      · cases oc with
        | none =>
          have cb := HEYk.out.bad
          have HX := hideC (HLL.out.done (.inr rfl))
          have hki : (0 : Int) < (k : Int) := by omega
          have hki2 : 0 < k := by omega
          clear hk0
          go_wp2
          go_meet
          case rel => exact HX.out
        | some l =>
          obtain ⟨j, hj⟩ : ∃ j, k = j + 1 := ⟨k - 1, by omega⟩
          subst hj
          have cb := HEYk.out.good
          have hki : (0 : Int) < ((j + 1 : Nat) : Int) := by omega
          have hki2 : 0 < j + 1 := by omega
          have hki3 : (0 : Int) < (j : Int) + 1 := by omega
          clear hk0 HLL
          have HBD := hideC (below_drew wr)
          have HEYD := hideC (HEYk.out.keep HBD.out)
          have HNX : Hid (stepsE textE j (textE (some l)).2 (xs ++ [(textE (some l)).1]) = (ns, o2)) := HST.out
          obtain ⟨x, ox, hx⟩ : ∃ x ox, textE (some l) = (x, ox) := ⟨_, _, rfl⟩
          rw [hx] at HNX
          simp only at HNX
          have HX := hideC hx
          clear hx
          obtain ⟨va, vn, vc, hvs⟩ := row_slice HOW.out
          subst hvs
          have hq1 := B.cell HQ.out 1 rfl
          have hqf := B.free HQ.out
          go_wp2
          go_region_law (first
            | (refine step_append_lies _ rfl _ _ 22 rfl w2.heap.size 9 i9 (.string ⟨#[]⟩) 1 16 Try.underlying22 hi9 hz90 hz91 hz92 rfl (by decide) _ _ _ rfl (HOW3.out.alloc _) ⟨w3.heap.size, 0, none⟩ 1 1 [.string x] rfl rfl (B.news HN.out) (by intro u hu; simp at hu; subst hu; rfl) (by decide) (by unfold maxLen; omega) (by omega) (by simp; omega) (w3.heap.size + 1) (by simp) ?_; intro g cap w4 hown4 hgrow hat hlt4; have HQ4 := hideC (B.grown (B.alloc HQ3.out _) hgrow (fun e => by have := hrow3.out _ e.symm; omega)); have qc := B.cell HQ4.out 1 rfl; have qf := B.free HQ4.out; have HOW4 := hideC hown4; have HEY4 := hideC ((HEY3.out.keep HBA.out).grown hgrow (fun g e => by have := hrow3.out g e; omega)); have HFF4 := hideC ((HFF3.out.trans (F2.ofBelow q HBA.out (by omega))).grown hgrow (fun g e => (hrow3.out g e).1) (by omega)); clear hown4 hgrow hat)
            | (go_simp; go_at_call 36; refine (text_eye p (some l) _ HEYD.out).mono ?_; rintro e w3 ⟨rfl, hey3, hf3⟩; rw [HX.out] at hey3 ⊢; simp only at hey3 ⊢; have HEY3 := hideC hey3; have HFF3 := hideC ((HFF.out.trans (F2.ofBelow q HBD.out (by omega))).trans (F2.ofFrm q hf3)); have HQ3 := hideC ((hf3.block q (by have := B.isLt HQ.out; simpa using this) (by omega) (by simp)).trans HQ.out); have qc3 := B.cell HQ3.out 1 rfl; have qc3a := B.cell (B.alloc HQ3.out (.cells #[.string x] 9)) 1 rfl; have HOW3 := hideC (ownsRow_frm (ownsRow_below HOW.out HBD.out) hf3 (by omega)); have hrow3 : Hid (∀ j, (Value.slice va vn vc).ownBlock = some j → w2.heap.size ≤ j ∧ j < w3.heap.size) := HOW3.out.lt; have hw3 : wr.heap.size ≤ w3.heap.size := (by have := hf3.below.size; simpa using this); have hp3 := hey3.lt; have HN := hideC (B.new w3 #[.string x] 9); have HBA := hideC ((Below.refl w3.heap.size w3).alloc (Nat.le_refl _) (.cells #[.string x] 9)); clear hey3 hf3; go_simp))
          all_goals
            go_wp2
            go_roundw
            case rel => exact ⟨j, ox, xs ++ [x], _, by go_num, HNX.out, HEY4.out.setQ (by omega) _ _, B.set HQ4.out 1 _, by rw [List.length_append, List.flatMap_append]; exact ownsRow_setCell_below HOW4.out (by simp; omega) _, by rw [List.length_append]; simp; omega, HFF4.out.setQ (by omega) _ _⟩
            case measure => simp [intOf]
  case rest =>
    obtain ⟨w3, hwc⟩ : ∃ x, x = wc := ⟨_, rfl⟩
    subst hwc
    obtain ⟨vv, hey, hqb, hown, hf2⟩ := hcut
    obtain ⟨an, cn, hvv, hh⟩ := row_50 hown
    subst hvv
    have HEYC := hideC hey
    have HQC := hideC hqb
    have HHS := hideC hh
    have HFT := hideC hf2
    have hpC := hey.lt
    have hszC := hf2.below.size
    have hqC : q < w3.heap.size := by omega
    clear hey hqb hown hf2 hh HEY2 HQ2 HT1 HEY
    obtain ⟨m2, c2, hc2, hl2, hm2⟩ := count_list segE o2
    obtain ⟨gs, o3, e2⟩ : ∃ gs o3, listE segE o2 = (gs, o3) := ⟨_, _, rfl⟩
    rw [e2] at hl2
    have HC2 := hideC hc2
    have HL2 := hideC hl2
    have HM2 := hideC hm2
    have HE2' := hideC e2
    clear hc2 hl2 hm2 e2
    obtain ⟨i48, hi48, hz480, hz481, hz482⟩ := info_parts info48
    go_upto_block 2 with (go_at_call 37; refine (count_eye p o2 _ HEYC.out).mono ?_; rintro e w4 ⟨rfl, hey, hf⟩; rw [HC2.out] at hey ⊢; have HEYB := hideC hey; have HFB := hideC hf; have hwbs := hf.below.size; clear hey hf)
    have hpB := HEYB.out.lt
    have hqB : q < w4.heap.size := by omega
    have HQB := hideC ((HFB.out.block q (by omega) (by omega) (by simp)).trans HQC.out)
    go_cut [7] (fun i wc => LE cellG5 48 5 p q (fun v => #[.string nm, .slice an ns.length cn, v, .slice none 0 0, .slice none 0 0, .int .i64 0]) w4 gs o3 wc)
    case first =>
      go_wp2
      go_loopw [7] (fun i wr => ∃ (k : Nat) (oc : Option (List UInt8)) (xs : List M.Sg) (v : Value), i = .int .i64 k ∧ LL segE cellG5 48 5 p q (fun v => #[.string nm, .slice an ns.length cn, v, .slice none 0 0, .slice none 0 0, .int .i64 0]) w4 gs o3 k oc xs v wr) (fun i _ => (intOf i).toNat)
      case atStart => exact ⟨m2, c2, [], _, rfl, LL.begin HL2.out HEYB.out HQB.out (HM2.out p _ HEYB.out)⟩
      case round =>
        obtain ⟨k, oc, xs, v, rfl, hll⟩ := hrel
        have HLL := hideC hll
        obtain ⟨hst, hey, hqb, hown, hxk, hf2⟩ := hll
        have HST := hideC hst
        have HEYk := hideC hey
        have HQ := hideC hqb
        have HOW := hideC hown
        have HFF := hideC hf2
        have hsz := hf2.below.size
        have hpl := hey.lt
        clear hst hey hqb hown hf2
        by_cases hk0 : k = 0
        · have z1 : decide ((0 : Int) < (k : Int)) = false := by simp; omega
          have z2 : decide (0 < k) = false := by simp; omega
          have z3 : ¬ (0 : Int) < (k : Int) := by omega
          have HX := hideC (HLL.out.done (.inl hk0))
          clear hk0
          go_wp2
          go_meet
          case rel => exact HX.out
        · cases oc with
          | none =>
            have cb := HEYk.out.bad
            have HX := hideC (HLL.out.done (.inr rfl))
            have hki : (0 : Int) < (k : Int) := by omega
            have hki2 : 0 < k := by omega
            clear hk0
            go_wp2
            go_meet
            case rel => exact HX.out
          | some l =>
            obtain ⟨j, hj⟩ : ∃ j, k = j + 1 := ⟨k - 1, by omega⟩
            subst hj
            have cb := HEYk.out.good
            have hki : (0 : Int) < ((j + 1 : Nat) : Int) := by omega
            have hki2 : 0 < j + 1 := by omega
            have hki3 : (0 : Int) < (j : Int) + 1 := by omega
            clear hk0 HLL
            obtain ⟨pg, oa, hpg⟩ : ∃ pg oa, numE (some l) = (pg, oa) := ⟨_, _, rfl⟩
            obtain ⟨pn, ob, hpn⟩ : ∃ pn ob, numE oa = (pn, ob) := ⟨_, _, rfl⟩
            obtain ⟨dt, od, hdt⟩ : ∃ dt od, textE ob = (dt, od) := ⟨_, _, rfl⟩
            obtain ⟨b1, oe, hb1⟩ : ∃ b1 oe, truthE od = (b1, oe) := ⟨_, _, rfl⟩
            obtain ⟨b2, ox, hb2⟩ : ∃ b2 ox, truthE oe = (b2, ox) := ⟨_, _, rfl⟩
            have HNX : Hid (stepsE segE j ox (xs ++ [⟨pg, pn, dt, b1, b2⟩]) = (gs, o3)) := by
              have h := HST.out
              have e : segE (some l) = (⟨pg, pn, dt, b1, b2⟩, ox) := by unfold segE; simp only [hpg, hpn, hdt, hb1, hb2]
              show _ = _
              rw [← h]
              show _ = stepsE segE j (segE (some l)).2 (xs ++ [(segE (some l)).1])
              rw [e]
            have Hpg := hideC hpg
            have Hpn := hideC hpn
            have Hdt := hideC hdt
            have Hb1 := hideC hb1
            have Hb2 := hideC hb2
            clear hpg hpn hdt hb1 hb2
            obtain ⟨va, vn, vc, hvs⟩ := row_slice HOW.out
            subst hvs
            have hrow : Hid (∀ g, (Value.slice va vn vc).ownBlock = some g → w4.heap.size ≤ g ∧ g < wr.heap.size) := HOW.out.lt
            have hqr : q < wr.heap.size := by omega
            have hqc := B.cell HQ.out 2 rfl
            have hqf := B.free HQ.out
            go_wp2_with (first | (go_at_call 38; have _ := FA; refine (number_eye p oa _ E1.out).mono ?_; rintro e a2 ⟨rfl, hey, hf⟩; rw [Hpn.out] at hey ⊢; simp only at hey ⊢; have E2 := hideC hey; have G2 := hideC (G1.out.trans (hf)); have hsa2 := hf.below.size; have hpa2 := hey.lt; clear hey hf) | (go_at_call 38; refine (number_eye p (some l) _ HEYk.out).mono ?_; rintro e a1 ⟨rfl, hey, hf⟩; rw [Hpg.out] at hey ⊢; simp only at hey ⊢; have FA := trivial; have E1 := hideC hey; have G1 := hideC (hf); have hsa1 := hf.below.size; have hpa1 := hey.lt; clear hey hf) | (go_at_call 36; refine (text_eye p ob _ E2.out).mono ?_; rintro e a3 ⟨rfl, hey, hf⟩; rw [Hdt.out] at hey ⊢; simp only at hey ⊢; have E3 := hideC hey; have G3 := hideC (G2.out.trans (hf)); have hsa3 := hf.below.size; have hpa3 := hey.lt; have HS3 := hideC (B.new a3 #[.int .i64 pg, .int .i64 pn, .string dt, .bool false, .bool false] 48); have HB3 := hideC ((Below.refl a3.heap.size a3).alloc (Nat.le_refl _) (.cells #[.int .i64 pg, .int .i64 pn, .string dt, .bool false, .bool false] 48)); have E3a := hideC (hey.keep HB3.out); have G3a := hideC ((G2.out.trans hf).alloc (by omega) (.cells #[.int .i64 pg, .int .i64 pn, .string dt, .bool false, .bool false] 48)); clear hey hf) | (go_at_call 39; have _ := FD; refine (truth_eye p oe _ (E4.out.setQ (by omega) _ _)).mono ?_; rintro e a5 ⟨rfl, hey, hf⟩; rw [Hb2.out] at hey ⊢; simp only at hey ⊢; have E5 := hideC hey; have G5 := hideC ((G4.out.setNew a3.heap.size 3 (.bool b1) (by omega) (by omega)).trans (hf)); have hsa5 := hf.below.size; have hpa5 := hey.lt; have hq5 : a4.heap.size ≤ a5.heap.size := (by have := hf.below.size; simpa using this); have HS5 : Hid (a5.heap[a3.heap.size]? = some (.cells #[.int .i64 pg, .int .i64 pn, .string dt, .bool b1, .bool false] 48 (0, 0))) := (hf.block a3.heap.size (by simp; omega) (by omega) (by simp)).trans (B.set HS4.out 3 (.bool b1)); have s0 := B.cell HS5.out 0 rfl; have s1 := B.cell HS5.out 1 rfl; have s2 := B.cell HS5.out 2 rfl; have s3 := B.cell HS5.out 3 rfl; have s4 := B.cell HS5.out 4 rfl; have sf := B.free HS5.out; have G6 := hideC (G5.out.setNew a3.heap.size 4 (.bool b2) (by omega) (by omega)); have HQ6 := hideC ((G6.out.block q hqr (by omega) (by simp)).trans HQ.out); have qq := B.cell ((G5.out.block q hqr (by omega) (by simp)).trans HQ.out) 2 rfl; have qqa := B.cell HQ6.out 2 rfl; have hne : q ≠ a3.heap.size := (by omega); have G7 := hideC (G6.out.alloc (by omega) (.cells #[.int .i64 pg, .int .i64 pn, .string dt, .bool b1, .bool b2] 48)); have HO7 := hideC (ownsRow_frm HOW.out G7.out (by omega)); have HN7 : Hid (((a5.setCell ⟨a3.heap.size, 4, none⟩ (.bool b2)).alloc (.cells #[.int .i64 pg, .int .i64 pn, .string dt, .bool b1, .bool b2] 48)).heap[a5.heap.size]? = some (.cells #[.int .i64 pg, .int .i64 pn, .string dt, .bool b1, .bool b2] 48 (0, 0))) := (by have h := B.new (a5.setCell ⟨a3.heap.size, 4, none⟩ (.bool b2)) #[.int .i64 pg, .int .i64 pn, .string dt, .bool b1, .bool b2] 48; rw [show (a5.setCell ⟨a3.heap.size, 4, none⟩ (.bool b2)).heap.size = a5.heap.size by simp] at h; exact h); have E7 := hideC ((hey.setQ (q := a3.heap.size) (by omega) 4 (.bool b2)).keep ((Below.refl _ _).alloc (Nat.le_refl _) (.cells #[.int .i64 pg, .int .i64 pn, .string dt, .bool b1, .bool b2] 48))); clear hey hf) | (go_at_call 39; refine (truth_eye p od _ E3a.out).mono ?_; rintro e a4 ⟨rfl, hey, hf⟩; rw [Hb1.out] at hey ⊢; simp only at hey ⊢; have FD := trivial; have E4 := hideC hey; have G4 := hideC (G3a.out.trans (hf)); have hsa4 := hf.below.size; have hpa4 := hey.lt; have hq4 : a3.heap.size + 1 ≤ a4.heap.size := (by have := hf.below.size; simpa using this); have HS4 : Hid (a4.heap[a3.heap.size]? = some (.cells #[.int .i64 pg, .int .i64 pn, .string dt, .bool false, .bool false] 48 (0, 0))) := (hf.block a3.heap.size (by simp) (by omega) (by simp)).trans HS3.out; have s3 := B.cell HS4.out 3 rfl; have sf := B.free HS4.out; clear hey hf) | (at_builtin; refine wpList_append_lies _ rfl _ _ 23 rfl w4.heap.size 48 i48 (.agg #[.int .i64 0, .int .i64 0, .string ⟨#[]⟩, .bool false, .bool false]) 5 40 Try.underlying23 hi48 hz480 hz481 hz482 rfl (by decide) _ _ _ rfl HO7.out ⟨a5.heap.size, 0, none⟩ 1 1 (cellG5 ⟨pg, pn, dt, b1, b2⟩) rfl rfl (B.news HN7.out) (by intro u hu; simp [cellG5] at hu; rcases hu with rfl | rfl | rfl | rfl | rfl <;> rfl) (by decide) (by unfold maxLen; omega) (by omega) (by simp; omega) (a5.heap.size + 1) (by simp) ?_; intro g cap w' hown hgrow hat hlt; have HO8 := hideC hown; have HG8 := hideC hgrow; have HQ8 := hideC (B.grown ((G7.out.block q hqr (by omega) (by simp)).trans HQ.out) hgrow (fun e => by have := hrow.out _ e.symm; omega)); have q8 := B.cell HQ8.out 2 rfl; have f8 := B.free HQ8.out; clear hown hgrow hat))
            go_roundw
            case rel => exact ⟨j, ox, xs ++ [⟨pg, pn, dt, b1, b2⟩], _, by go_num, LL.next HFF.out hxk HQ.out (fun g e => (hrow.out g e).1) hpq hqB G7.out E7.out HNX.out HO8.out HG8.out rfl⟩
            case measure => simp [intOf]
    case rest =>
      obtain ⟨w5, hwc⟩ : ∃ x, x = wc := ⟨_, rfl⟩
      subst hwc
      obtain ⟨vv, hey, hqb, hown, hf2⟩ := hcut
      obtain ⟨ag, cg, hvv, hh⟩ := row_51 hown
      subst hvv
      have HF3 := hideC ((F2.ofFrm q HFB.out).trans hf2)
      have hszn := HF3.out.below.size
      have HHS := hideC (HHS.out.f2 (fun h hb => lieS_block h hb) HF3.out (by omega) (by omega))
      have HHG := hideC (hh.lower (by omega : w2.heap.size ≤ w4.heap.size))
      have HFT := hideC (HFT.out.trans HF3.out)
      have HEYC := hideC hey
      have HQC := hideC hqb
      have hpC := hey.lt
      have hszC : w2.heap.size ≤ w5.heap.size := by omega
      have hqC : q < w5.heap.size := by omega
      clear hey hqb hown hf2 hh HEYB HQB HFB HF3
      obtain ⟨m3, c3, hc3, hl3, hm3⟩ := count_list symE o3
      obtain ⟨ys, o4, e3⟩ : ∃ ys o4, listE symE o3 = (ys, o4) := ⟨_, _, rfl⟩
      rw [e3] at hl3
      have HC3 := hideC hc3
      have HL3 := hideC hl3
      have HM3 := hideC hm3
      have HE3' := hideC e3
      clear hc3 hl3 hm3 e3
      obtain ⟨i50, hi50, hz500, hz501, hz502⟩ := info_parts info50
      go_upto_block 4 with (go_at_call 37; refine (count_eye p o3 _ HEYC.out).mono ?_; rintro e w6 ⟨rfl, hey, hf⟩; rw [HC3.out] at hey ⊢; have HEYB := hideC hey; have HFB := hideC hf; have hwbs := hf.below.size; clear hey hf)
      have hpB := HEYB.out.lt
      have hqB : q < w6.heap.size := by omega
      have HQB := hideC ((HFB.out.block q (by omega) (by omega) (by simp)).trans HQC.out)
      go_cut [9] (fun i wc => LE cellY2 50 2 p q (fun v => #[.string nm, .slice an ns.length cn, .slice ag gs.length cg, v, .slice none 0 0, .int .i64 0]) w6 ys o4 wc)
      case first =>
        go_wp2
        go_loopw [9] (fun i wr => ∃ (k : Nat) (oc : Option (List UInt8)) (xs : List M.Sy) (v : Value), i = .int .i64 k ∧ LL symE cellY2 50 2 p q (fun v => #[.string nm, .slice an ns.length cn, .slice ag gs.length cg, v, .slice none 0 0, .int .i64 0]) w6 ys o4 k oc xs v wr) (fun i _ => (intOf i).toNat)
        case atStart => exact ⟨m3, c3, [], _, rfl, LL.begin HL3.out HEYB.out HQB.out (HM3.out p _ HEYB.out)⟩
        case round =>
          obtain ⟨k, oc, xs, v, rfl, hll⟩ := hrel
          have HLL := hideC hll
          obtain ⟨hst, hey, hqb, hown, hxk, hf2⟩ := hll
          have HST := hideC hst
          have HEYk := hideC hey
          have HQ := hideC hqb
          have HOW := hideC hown
          have HFF := hideC hf2
          have hsz := hf2.below.size
          have hpl := hey.lt
          clear hst hey hqb hown hf2
          by_cases hk0 : k = 0
          · have z1 : decide ((0 : Int) < (k : Int)) = false := by simp; omega
            have z2 : decide (0 < k) = false := by simp; omega
            have z3 : ¬ (0 : Int) < (k : Int) := by omega
            have HX := hideC (HLL.out.done (.inl hk0))
            clear hk0
            go_wp2
            go_meet
            case rel => exact HX.out
          · cases oc with
            | none =>
              have cb := HEYk.out.bad
              have HX := hideC (HLL.out.done (.inr rfl))
              have hki : (0 : Int) < (k : Int) := by omega
              have hki2 : 0 < k := by omega
              clear hk0
              go_wp2
              go_meet
              case rel => exact HX.out
            | some l =>
              obtain ⟨j, hj⟩ : ∃ j, k = j + 1 := ⟨k - 1, by omega⟩
              subst hj
              have cb := HEYk.out.good
              have hki : (0 : Int) < ((j + 1 : Nat) : Int) := by omega
              have hki2 : 0 < j + 1 := by omega
              have hki3 : (0 : Int) < (j : Int) + 1 := by omega
              clear hk0 HLL
              obtain ⟨sn, oa, hsn⟩ : ∃ sn oa, textE (some l) = (sn, oa) := ⟨_, _, rfl⟩
              obtain ⟨sp, ox, hsp⟩ : ∃ sp ox, numE oa = (sp, ox) := ⟨_, _, rfl⟩
              have HNX : Hid (stepsE symE j ox (xs ++ [⟨sn, sp⟩]) = (ys, o4)) := by
                have h := HST.out
                have e : symE (some l) = (⟨sn, sp⟩, ox) := by unfold symE; simp only [hsn, hsp]
                show _ = _
                rw [← h]
                show _ = stepsE symE j (symE (some l)).2 (xs ++ [(symE (some l)).1])
                rw [e]
              have Hsn := hideC hsn
              have Hsp := hideC hsp
              clear hsn hsp
              obtain ⟨va, vn, vc, hvs⟩ := row_slice HOW.out
              subst hvs
              have hrow : Hid (∀ g, (Value.slice va vn vc).ownBlock = some g → w6.heap.size ≤ g ∧ g < wr.heap.size) := HOW.out.lt
              have hqr : q < wr.heap.size := by omega
              have hqc := B.cell HQ.out 3 rfl
              have hqf := B.free HQ.out
              have HBD := hideC (below_drew wr)
              have HEYD := hideC (HEYk.out.keep HBD.out)
              have GD := hideC (Frm.ofBelow HBD.out (by omega : p ≤ wr.heap.size) none)
              go_wp2
              go_region_law (first | (refine step_append_lies _ rfl _ _ 24 rfl w6.heap.size 50 i50 (.agg #[.string ⟨#[]⟩, .int .i64 0]) 2 24 Try.underlying24 hi50 hz500 hz501 hz502 rfl (by decide) _ _ _ rfl HOX.out ⟨a2.heap.size, 0, none⟩ 1 1 (cellY2 ⟨sn, sp⟩) rfl rfl (B.news HNW.out) (by intro u hu; simp [cellY2] at hu; rcases hu with rfl | rfl <;> rfl) (by decide) (by unfold maxLen; omega) (by omega) (by simp; omega) (a2.heap.size + 1) (by simp) ?_; intro g cap w' hown hgrow hat hlt; have HO8 := hideC hown; have HG8 := hideC hgrow; have HQ8 := hideC (B.grown ((GX.out.block q hqr (by omega) (by simp)).trans HQ.out) hgrow (fun e => by have := hrow.out _ e.symm; omega)); have q8 := B.cell HQ8.out 3 rfl; have f8 := B.free HQ8.out; clear hown hgrow hat) | (go_simp; go_at_call 36; refine (text_eye p (some l) _ HEYD.out).mono ?_; rintro e a1 ⟨rfl, hey, hf⟩; rw [Hsn.out] at hey ⊢; simp only at hey ⊢; have E1 := hideC hey; have Ga1 := hideC (GD.out.trans hf); have hsa1 := Ga1.out.below.size; have hpa1 := hey.lt; have qca1 := B.cell ((Ga1.out.block q hqr (by omega) (by simp)).trans HQ.out) 3 rfl; clear hey hf; go_simp) | (go_simp; go_at_call 38; refine (number_eye p oa _ E1.out).mono ?_; rintro e a2 ⟨rfl, hey, hf⟩; rw [Hsp.out] at hey ⊢; simp only at hey ⊢; have E2 := hideC hey; have Ga2 := hideC (Ga1.out.trans hf); have hsa2 := Ga2.out.below.size; have hpa2 := hey.lt; have qca2 := B.cell ((Ga2.out.block q hqr (by omega) (by simp)).trans HQ.out) 3 rfl; have GX := hideC (Ga2.out.alloc (by omega) (.cells #[.string sn, .int .i64 sp] 50)); have HNW := hideC (B.new a2 #[.string sn, .int .i64 sp] 50); have HOX := hideC (ownsRow_frm HOW.out GX.out (by omega)); have EX := hideC (hey.keep ((Below.refl _ _).alloc (Nat.le_refl _) (.cells #[.string sn, .int .i64 sp] 50))); have qcx := B.cell ((GX.out.block q hqr (by omega) (by simp)).trans HQ.out) 3 rfl; clear hey hf; go_simp))
              all_goals
                go_wp2
                go_roundw
                case rel => exact ⟨j, ox, xs ++ [⟨sn, sp⟩], _, by go_num, LL.next HFF.out hxk HQ.out (fun g e => (hrow.out g e).1) hpq hqB GX.out EX.out HNX.out HO8.out HG8.out rfl⟩
                case measure => simp [intOf]
      case rest =>
        obtain ⟨w7, hwc⟩ : ∃ x, x = wc := ⟨_, rfl⟩
        subst hwc
        obtain ⟨vv, hey, hqb, hown, hf2⟩ := hcut
        obtain ⟨ay, cy, hvv, hh⟩ := row_53 hown
        subst hvv
        have HF3 := hideC ((F2.ofFrm q HFB.out).trans hf2)
        have hszn := HF3.out.below.size
        have HHS := hideC (HHS.out.f2 (fun h hb => lieS_block h hb) HF3.out (by omega) (by omega))
        have HHG := hideC (HHG.out.f2 (fun h hb => lieG_block h hb) HF3.out (by omega) (by omega))
        have HHY := hideC (hh.lower (by omega : w2.heap.size ≤ w6.heap.size))
        have HFT := hideC (HFT.out.trans HF3.out)
        have HEYC := hideC hey
        have HQC := hideC hqb
        have hpC := hey.lt
        have hszC : w2.heap.size ≤ w7.heap.size := by omega
        have hqC : q < w7.heap.size := by omega
        clear hey hqb hown hf2 hh HEYB HQB HFB HF3
        obtain ⟨m4, c4, hc4, hl4, hm4⟩ := count_list relE o4
        obtain ⟨rs, o5, e4⟩ : ∃ rs o5, listE relE o4 = (rs, o5) := ⟨_, _, rfl⟩
        rw [e4] at hl4
        have HC4 := hideC hc4
        have HL4 := hideC hl4
        have HM4 := hideC hm4
        have HE4' := hideC e4
        clear hc4 hl4 hm4 e4
        obtain ⟨i59, hi59, hz590, hz591, hz592⟩ := info_parts info59
        go_upto_block 6 with (go_at_call 37; refine (count_eye p o4 _ HEYC.out).mono ?_; rintro e w8 ⟨rfl, hey, hf⟩; rw [HC4.out] at hey ⊢; have HEYB := hideC hey; have HFB := hideC hf; have hwbs := hf.below.size; clear hey hf)
        have hpB := HEYB.out.lt
        have hqB : q < w8.heap.size := by omega
        have HQB := hideC ((HFB.out.block q (by omega) (by omega) (by simp)).trans HQC.out)
        go_cut [10] (fun i wc => LE cellR3 59 3 p q (fun v => #[.string nm, .slice an ns.length cn, .slice ag gs.length cg, .slice ay ys.length cy, v, .int .i64 0]) w8 rs o5 wc)
        case first =>
          go_wp2
          go_loopw [10] (fun i wr => ∃ (k : Nat) (oc : Option (List UInt8)) (xs : List M.Rl) (v : Value), i = .int .i64 k ∧ LL relE cellR3 59 3 p q (fun v => #[.string nm, .slice an ns.length cn, .slice ag gs.length cg, .slice ay ys.length cy, v, .int .i64 0]) w8 rs o5 k oc xs v wr) (fun i _ => (intOf i).toNat)
          case atStart => exact ⟨m4, c4, [], _, rfl, LL.begin HL4.out HEYB.out HQB.out (HM4.out p _ HEYB.out)⟩
          case round =>
            obtain ⟨k, oc, xs, v, rfl, hll⟩ := hrel
            have HLL := hideC hll
            obtain ⟨hst, hey, hqb, hown, hxk, hf2⟩ := hll
            have HST := hideC hst
            have HEYk := hideC hey
            have HQ := hideC hqb
            have HOW := hideC hown
            have HFF := hideC hf2
            have hsz := hf2.below.size
            have hpl := hey.lt
            clear hst hey hqb hown hf2
            by_cases hk0 : k = 0
            · have z1 : decide ((0 : Int) < (k : Int)) = false := by simp; omega
              have z2 : decide (0 < k) = false := by simp; omega
              have z3 : ¬ (0 : Int) < (k : Int) := by omega
              have HX := hideC (HLL.out.done (.inl hk0))
              clear hk0
              go_wp2
              go_meet
              case rel => exact HX.out
            · cases oc with
              | none =>
                have cb := HEYk.out.bad
                have HX := hideC (HLL.out.done (.inr rfl))
                have hki : (0 : Int) < (k : Int) := by omega
                have hki2 : 0 < k := by omega
                clear hk0
                go_wp2
                go_meet
                case rel => exact HX.out
              | some l =>
                obtain ⟨j, hj⟩ : ∃ j, k = j + 1 := ⟨k - 1, by omega⟩
                subst hj
                have cb := HEYk.out.good
                have hki : (0 : Int) < ((j + 1 : Nat) : Int) := by omega
                have hki2 : 0 < j + 1 := by omega
                have hki3 : (0 : Int) < (j : Int) + 1 := by omega
                clear hk0 HLL
                obtain ⟨rp, oa, hrp⟩ : ∃ rp oa, numE (some l) = (rp, oa) := ⟨_, _, rfl⟩
                obtain ⟨rn, ob, hrn⟩ : ∃ rn ob, textE oa = (rn, ob) := ⟨_, _, rfl⟩
                obtain ⟨ra, ox, hra⟩ : ∃ ra ox, numE ob = (ra, ox) := ⟨_, _, rfl⟩
                have HNX : Hid (stepsE relE j ox (xs ++ [⟨rp, rn, ra⟩]) = (rs, o5)) := by
                  have h := HST.out
                  have e : relE (some l) = (⟨rp, rn, ra⟩, ox) := by unfold relE; simp only [hrp, hrn, hra]
                  show _ = _
                  rw [← h]
                  show _ = stepsE relE j (relE (some l)).2 (xs ++ [(relE (some l)).1])
                  rw [e]
                have Hrp := hideC hrp
                have Hrn := hideC hrn
                have Hra := hideC hra
                clear hrp hrn hra
                obtain ⟨va, vn, vc, hvs⟩ := row_slice HOW.out
                subst hvs
                have hrow : Hid (∀ g, (Value.slice va vn vc).ownBlock = some g → w8.heap.size ≤ g ∧ g < wr.heap.size) := HOW.out.lt
                have hqr : q < wr.heap.size := by omega
                have hqc := B.cell HQ.out 4 rfl
                have hqf := B.free HQ.out
                have HBD := hideC (below_drew wr)
                have HEYD := hideC (HEYk.out.keep HBD.out)
                have GD := hideC (Frm.ofBelow HBD.out (by omega : p ≤ wr.heap.size) none)
                go_wp2
                go_region_law (first | (refine step_append_lies _ rfl _ _ 25 rfl w8.heap.size 59 i59 (.agg #[.int .i64 0, .string ⟨#[]⟩, .int .i64 0]) 3 32 Try.underlying25 hi59 hz590 hz591 hz592 rfl (by decide) _ _ _ rfl HOX.out ⟨a3.heap.size, 0, none⟩ 1 1 (cellR3 ⟨rp, rn, ra⟩) rfl rfl (B.news HNW.out) (by intro u hu; simp [cellR3] at hu; rcases hu with rfl | rfl | rfl <;> rfl) (by decide) (by unfold maxLen; omega) (by omega) (by simp; omega) (a3.heap.size + 1) (by simp) ?_; intro g cap w' hown hgrow hat hlt; have HO8 := hideC hown; have HG8 := hideC hgrow; have HQ8 := hideC (B.grown ((GX.out.block q hqr (by omega) (by simp)).trans HQ.out) hgrow (fun e => by have := hrow.out _ e.symm; omega)); have q8 := B.cell HQ8.out 4 rfl; have f8 := B.free HQ8.out; clear hown hgrow hat) | (go_simp; go_at_call 38; have _ := FA; refine (number_eye p ob _ E2.out).mono ?_; rintro e a3 ⟨rfl, hey, hf⟩; rw [Hra.out] at hey ⊢; simp only at hey ⊢; have E3 := hideC hey; have Ga3 := hideC (Ga2.out.trans hf); have hsa3 := Ga3.out.below.size; have hpa3 := hey.lt; have qca3 := B.cell ((Ga3.out.block q hqr (by omega) (by simp)).trans HQ.out) 4 rfl; have GX := hideC (Ga3.out.alloc (by omega) (.cells #[.int .i64 rp, .string rn, .int .i64 ra] 59)); have HNW := hideC (B.new a3 #[.int .i64 rp, .string rn, .int .i64 ra] 59); have HOX := hideC (ownsRow_frm HOW.out GX.out (by omega)); have EX := hideC (hey.keep ((Below.refl _ _).alloc (Nat.le_refl _) (.cells #[.int .i64 rp, .string rn, .int .i64 ra] 59))); have qcx := B.cell ((GX.out.block q hqr (by omega) (by simp)).trans HQ.out) 4 rfl; clear hey hf; go_simp) | (go_simp; go_at_call 38; refine (number_eye p (some l) _ HEYD.out).mono ?_; rintro e a1 ⟨rfl, hey, hf⟩; rw [Hrp.out] at hey ⊢; simp only at hey ⊢; have FA := trivial; have E1 := hideC hey; have Ga1 := hideC (GD.out.trans hf); have hsa1 := Ga1.out.below.size; have hpa1 := hey.lt; have qca1 := B.cell ((Ga1.out.block q hqr (by omega) (by simp)).trans HQ.out) 4 rfl; clear hey hf; go_simp) | (go_simp; go_at_call 36; refine (text_eye p oa _ E1.out).mono ?_; rintro e a2 ⟨rfl, hey, hf⟩; rw [Hrn.out] at hey ⊢; simp only at hey ⊢; have E2 := hideC hey; have Ga2 := hideC (Ga1.out.trans hf); have hsa2 := Ga2.out.below.size; have hpa2 := hey.lt; have qca2 := B.cell ((Ga2.out.block q hqr (by omega) (by simp)).trans HQ.out) 4 rfl; clear hey hf; go_simp))
                all_goals
                  go_wp2
                  go_roundw
                  case rel => exact ⟨j, ox, xs ++ [⟨rp, rn, ra⟩], _, by go_num, LL.next HFF.out hxk HQ.out (fun g e => (hrow.out g e).1) hpq hqB GX.out EX.out HNX.out HO8.out HG8.out rfl⟩
                  case measure => simp [intOf]
        case rest =>
          obtain ⟨w9, hwc⟩ : ∃ x, x = wc := ⟨_, rfl⟩
          subst hwc
          obtain ⟨vv, hey, hqb, hown, hf2⟩ := hcut
          obtain ⟨ar, cr, hvv, hh⟩ := row_55 hown
          subst hvv
          have HF3 := hideC ((F2.ofFrm q HFB.out).trans hf2)
          have hszn := HF3.out.below.size
          have HHS := hideC (HHS.out.f2 (fun h hb => lieS_block h hb) HF3.out (by omega) (by omega))
          have HHG := hideC (HHG.out.f2 (fun h hb => lieG_block h hb) HF3.out (by omega) (by omega))
          have HHY := hideC (HHY.out.f2 (fun h hb => lieY_block h hb) HF3.out (by omega) (by omega))
          have HHR := hideC (hh.lower (by omega : w2.heap.size ≤ w8.heap.size))
          have HFT := hideC (HFT.out.trans HF3.out)
          have HEYC := hideC hey
          have HQC := hideC hqb
          have hpC := hey.lt
          have hszC : w2.heap.size ≤ w9.heap.size := by omega
          have hqC : q < w9.heap.size := by omega
          clear hey hqb hown hf2 hh HEYB HQB HFB HF3
          obtain ⟨en, o6, h6⟩ : ∃ en o6, numE o5 = (en, o6) := ⟨_, _, rfl⟩
          have H6 := hideC h6
          clear h6
          have hr : w.heap.size < p := by have := HPE.out; omega
          have hrq : w.heap.size ≠ q := by omega
          have hrp : w.heap.size ≠ p := by omega
          have hpq' : p ≠ q := by omega
          have R9 := hideC (B.below (B.below (B.alloc (B.below R0.out HF.out.below hr) (.cells #[.string nm, .slice none 0 0, .slice none 0 0, .slice none 0 0, .slice none 0 0, .int .i64 0] 27)) HF2.out.below hr) HFT.out.below hr)
          have hb1 := HB2.out.trans (HF.out.below.mono (Nat.le_of_lt hr))
          have hb2 := hb1.alloc hb1.size (.cells #[.string nm, .slice none 0 0, .slice none 0 0, .slice none 0 0, .slice none 0 0, .int .i64 0] 27)
          have hb3 := hb2.trans (HF2.out.below.mono (Nat.le_of_lt hr))
          have HBT := hideC (hb3.trans (HFT.out.below.mono (Nat.le_of_lt hr)))
          have HN9 : Hid (∀ e', HasImN w2.heap.size w9 ⟨an, cn, ag, cg, ay, cy, ar, cr⟩ ⟨nm, ns, gs, ys, rs, e'⟩) := fun e' => ⟨HHS.out, HHG.out, HHY.out, HHR.out⟩
          clear hb1 hb2 hb3
          cases o6 with
          | none =>
            have HRD : Hid (readR s.data.toList = none) := readR_none (img_bad H1.out HE2.out HE2'.out HE3'.out HE4'.out H6.out)
            go_wp2_with (go_at_call 38; refine (number_eye p o5 _ HEYC.out).mono ?_; rintro e w10 ⟨rfl, hey, hf⟩; rw [H6.out] at hey ⊢; simp only at hey ⊢; have hs10 := hf.below.size; have HQX := hideC ((hf.block q hqC (by omega) (by simp)).trans HQC.out); have qc0 := B.cell HQX.out 0 rfl; have qc1 := B.cell HQX.out 1 rfl; have qc2 := B.cell HQX.out 2 rfl; have qc3 := B.cell HQX.out 3 rfl; have qc4 := B.cell HQX.out 4 rfl; have qc5 := B.cell HQX.out 5 rfl; have qf := B.free HQX.out; have RX := hideC (B.below R9.out hf.below hr); have y0 := B.cell RX.out 0 rfl; have y1 := B.cell RX.out 1 rfl; have y2 := B.cell RX.out 2 rfl; have y3 := B.cell RX.out 3 rfl; have y4 := B.cell RX.out 4 rfl; have y5 := B.cell RX.out 5 rfl; have yf := B.free RX.out; have HB10 := hideC ((HBT.out.trans (hf.below.mono (Nat.le_of_lt hr))).setCell (p := ⟨q, 5, none⟩) (by show w.heap.size ≤ q; omega) (.int .i64 en)); have cb := hey.bad; clear hey hf)
            refine bodyPost_ret (v := .tuple #[.agg #[.string ⟨#[]⟩, .slice none 0 0, .slice none 0 0, .slice none 0 0, .slice none 0 0, .int .i64 0], .bool false]) (by simp [results, Try.results12, go_sem, y0, y1, y2, y3, y4, y5]) rfl ?_
            show OutF w (readR _) _ _
            rw [HRD.out]
            exact ⟨rfl, set6_below HB10.out (Nat.le_refl w.heap.size) (.string ⟨#[]⟩) (.slice none 0 0) (.slice none 0 0) (.slice none 0 0) (.slice none 0 0) (.int .i64 0)⟩
          | some l6 =>
            have HIM := hideC (img_good H1.out HE2.out HE2'.out HE3'.out HE4'.out H6.out)
            have HFIT := hideC (fit_img HIM.out (by rw [← Lib.size_eq]; exact hs))
            have HRE := hideC (readR_eq HIM.out)
            have HCK : Hid (∀ W, M.HasIm W ⟨an, cn, ag, cg, ay, cy, ar, cr⟩ ⟨nm, ns, gs, ys, rs, en⟩ → Calls Try.prog 7 #[.agg #[.string nm, .slice an ns.length cn, .slice ag gs.length cg, .slice ay ys.length cy, .slice ar rs.length cr, .int .i64 en]] W fun e w' => e = .returned (.int .i64 (M.chkN ⟨nm, ns, gs, ys, rs, en⟩)) ∧ Below W.heap.size W w') := fun W h => checkImage_any ⟨nm, ns, gs, ys, rs, en⟩ ⟨an, cn, ag, cg, ay, cy, ar, cr⟩ W h HFIT.out
            obtain ⟨ck, hck⟩ : ∃ ck, ck = M.chkN ⟨nm, ns, gs, ys, rs, en⟩ := ⟨_, rfl⟩
            rw [← hck] at HCK HRE
            clear hck HFIT HIM
            by_cases hl : l6 = []
            · subst hl
              by_cases hc : ck = 0
              · subst hc
                have HRD : Hid (readR s.data.toList = some ⟨nm, ns, gs, ys, rs, en⟩) := HRE.out.trans (if_pos ⟨rfl, rfl⟩)
                go_wp2_with (first | (go_at_call 38; refine (number_eye p o5 _ HEYC.out).mono ?_; rintro e w10 ⟨rfl, hey, hf⟩; rw [H6.out] at hey ⊢; simp only at hey ⊢; have hs10 := hf.below.size; have HQX := hideC ((hf.block q hqC (by omega) (by simp)).trans HQC.out); have qc0 := B.cell HQX.out 0 rfl; have qc1 := B.cell HQX.out 1 rfl; have qc2 := B.cell HQX.out 2 rfl; have qc3 := B.cell HQX.out 3 rfl; have qc4 := B.cell HQX.out 4 rfl; have qc5 := B.cell HQX.out 5 rfl; have qf := B.free HQX.out; have RX := hideC (B.below R9.out hf.below hr); have y0 := B.cell RX.out 0 rfl; have y1 := B.cell RX.out 1 rfl; have y2 := B.cell RX.out 2 rfl; have y3 := B.cell RX.out 3 rfl; have y4 := B.cell RX.out 4 rfl; have y5 := B.cell RX.out 5 rfl; have yf := B.free RX.out; have HB10 := hideC ((HBT.out.trans (hf.below.mono (Nat.le_of_lt hr))).setCell (p := ⟨q, 5, none⟩) (by show w.heap.size ≤ q; omega) (.int .i64 en)); have cb := hey.good; obtain ⟨s6, cs6, hs6⟩ := hey.text; have hs6' : s6 = ⟨#[]⟩ := (empty_of hs6); subst hs6'; clear hs6; have HIX := hideC (((HN9.out en).frm hf (by omega)).set q 5 (.int .i64 en) (by omega)); have BQ := hideC (B.set HQX.out 5 (.int .i64 en)); have BR := hideC (B.other RX.out q 5 (.int .i64 en) hrq);  clear hey hf) | (go_at_call 7; refine (HCK.out _ HIX.out.im).mono ?_; rintro e w11 ⟨rfl, hb⟩; have HI11 := hideC (HIX.out.below hb); have HB11 := hideC (HB10.out.trans (hb.mono HB10.out.size)); have BQ11 : Hid (w11.heap[q]? = some (.cells #[.string nm, .slice an ns.length cn, .slice ag gs.length cg, .slice ay ys.length cy, .slice ar rs.length cr, .int .i64 en] 27 (0, 0))) := (B.below BQ.out hb (B.isLt BQ.out)); have BR11 := hideC (B.below BR.out hb (B.isLt BR.out)); have x0 := B.cell BQ11.out 0 rfl; have x1 := B.cell BQ11.out 1 rfl; have x2 := B.cell BQ11.out 2 rfl; have x3 := B.cell BQ11.out 3 rfl; have x4 := B.cell BQ11.out 4 rfl; have x5 := B.cell BQ11.out 5 rfl; have u0 := B.cell BR11.out 0 rfl; have u1 := B.cell BR11.out 1 rfl; have u2 := B.cell BR11.out 2 rfl; have u3 := B.cell BR11.out 3 rfl; have u4 := B.cell BR11.out 4 rfl; have u5 := B.cell BR11.out 5 rfl; have uf := B.free BR11.out; clear hb))
                refine bodyPost_ret (v := .tuple #[.agg #[.string nm, .slice an ns.length cn, .slice ag gs.length cg, .slice ay ys.length cy, .slice ar rs.length cr, .int .i64 en], .bool true]) (by simp [results, Try.results12, go_sem, u0, u1, u2, u3, u4, u5]) rfl ?_
                show OutF w (readR _) _ _
                rw [HRD.out]
                exact ⟨⟨⟨an, cn, ag, cg, ay, cy, ar, cr⟩, rfl, (set6_has (g := w.heap.size) HI11.out (by omega) (.string nm) (.slice an ns.length cn) (.slice ag gs.length cg) (.slice ay ys.length cy) (.slice ar rs.length cr) (.int .i64 en)).im⟩, set6_below HB11.out (Nat.le_refl w.heap.size) (.string nm) (.slice an ns.length cn) (.slice ag gs.length cg) (.slice ay ys.length cy) (.slice ar rs.length cr) (.int .i64 en)⟩
              · have hc' : (ck == 0) = false := by simpa using hc
                have HRD : Hid (readR s.data.toList = none) := HRE.out.trans (if_neg (fun h => hc h.2))
                go_wp2_with (first | (go_at_call 38; refine (number_eye p o5 _ HEYC.out).mono ?_; rintro e w10 ⟨rfl, hey, hf⟩; rw [H6.out] at hey ⊢; simp only at hey ⊢; have hs10 := hf.below.size; have HQX := hideC ((hf.block q hqC (by omega) (by simp)).trans HQC.out); have qc0 := B.cell HQX.out 0 rfl; have qc1 := B.cell HQX.out 1 rfl; have qc2 := B.cell HQX.out 2 rfl; have qc3 := B.cell HQX.out 3 rfl; have qc4 := B.cell HQX.out 4 rfl; have qc5 := B.cell HQX.out 5 rfl; have qf := B.free HQX.out; have RX := hideC (B.below R9.out hf.below hr); have y0 := B.cell RX.out 0 rfl; have y1 := B.cell RX.out 1 rfl; have y2 := B.cell RX.out 2 rfl; have y3 := B.cell RX.out 3 rfl; have y4 := B.cell RX.out 4 rfl; have y5 := B.cell RX.out 5 rfl; have yf := B.free RX.out; have HB10 := hideC ((HBT.out.trans (hf.below.mono (Nat.le_of_lt hr))).setCell (p := ⟨q, 5, none⟩) (by show w.heap.size ≤ q; omega) (.int .i64 en)); have cb := hey.good; obtain ⟨s6, cs6, hs6⟩ := hey.text; have hs6' : s6 = ⟨#[]⟩ := (empty_of hs6); subst hs6'; clear hs6; have HIX := hideC (((HN9.out en).frm hf (by omega)).set q 5 (.int .i64 en) (by omega)); have BQ := hideC (B.set HQX.out 5 (.int .i64 en)); have BR := hideC (B.other RX.out q 5 (.int .i64 en) hrq);  clear hey hf) | (go_at_call 7; refine (HCK.out _ HIX.out.im).mono ?_; rintro e w11 ⟨rfl, hb⟩; have HB11 := hideC (HB10.out.trans (hb.mono HB10.out.size)); have BR11 := hideC (B.below BR.out hb (B.isLt BR.out)); have u0 := B.cell BR11.out 0 rfl; have u1 := B.cell BR11.out 1 rfl; have u2 := B.cell BR11.out 2 rfl; have u3 := B.cell BR11.out 3 rfl; have u4 := B.cell BR11.out 4 rfl; have u5 := B.cell BR11.out 5 rfl; have uf := B.free BR11.out; clear hb))
                refine bodyPost_ret (v := .tuple #[.agg #[.string ⟨#[]⟩, .slice none 0 0, .slice none 0 0, .slice none 0 0, .slice none 0 0, .int .i64 0], .bool false]) (by simp [results, Try.results12, go_sem, u0, u1, u2, u3, u4, u5]) rfl ?_
                show OutF w (readR _) _ _
                rw [HRD.out]
                exact ⟨rfl, set6_below HB11.out (Nat.le_refl w.heap.size) (.string ⟨#[]⟩) (.slice none 0 0) (.slice none 0 0) (.slice none 0 0) (.slice none 0 0) (.int .i64 0)⟩
            · have HRD : Hid (readR s.data.toList = none) := HRE.out.trans (if_neg (fun h => hl h.1))
              go_wp2_with (go_at_call 38; refine (number_eye p o5 _ HEYC.out).mono ?_; rintro e w10 ⟨rfl, hey, hf⟩; rw [H6.out] at hey ⊢; simp only at hey ⊢; have hs10 := hf.below.size; have HQX := hideC ((hf.block q hqC (by omega) (by simp)).trans HQC.out); have qc0 := B.cell HQX.out 0 rfl; have qc1 := B.cell HQX.out 1 rfl; have qc2 := B.cell HQX.out 2 rfl; have qc3 := B.cell HQX.out 3 rfl; have qc4 := B.cell HQX.out 4 rfl; have qc5 := B.cell HQX.out 5 rfl; have qf := B.free HQX.out; have RX := hideC (B.below R9.out hf.below hr); have y0 := B.cell RX.out 0 rfl; have y1 := B.cell RX.out 1 rfl; have y2 := B.cell RX.out 2 rfl; have y3 := B.cell RX.out 3 rfl; have y4 := B.cell RX.out 4 rfl; have y5 := B.cell RX.out 5 rfl; have yf := B.free RX.out; have HB10 := hideC ((HBT.out.trans (hf.below.mono (Nat.le_of_lt hr))).setCell (p := ⟨q, 5, none⟩) (by show w.heap.size ≤ q; omega) (.int .i64 en)); have cb := hey.good; obtain ⟨s6, cs6, hs6⟩ := hey.text; have hs7 : (s6 == ⟨#[]⟩) = false := (by simp; intro e; subst e; exact hl hs6.symm); have hs8 : (s6 != ⟨#[]⟩) = true := (by simp; intro e; subst e; exact hl hs6.symm); have hs9 : ¬ s6.toList = [] := (fun e => hl (by rw [← hs6, ← Lib.toList_data]; exact e)); clear hs6; clear hey hf)
              refine bodyPost_ret (v := .tuple #[.agg #[.string ⟨#[]⟩, .slice none 0 0, .slice none 0 0, .slice none 0 0, .slice none 0 0, .int .i64 0], .bool false]) (by simp [results, Try.results12, go_sem, y0, y1, y2, y3, y4, y5]) rfl ?_
              show OutF w (readR _) _ _
              rw [HRD.out]
              exact ⟨rfl, set6_below HB10.out (Nat.le_refl w.heap.size) (.string ⟨#[]⟩) (.slice none 0 0) (.slice none 0 0) (.slice none 0 0) (.slice none 0 0) (.int .i64 0)⟩
end Go.Proofs.Ytafdgjpmhofinaa.W
