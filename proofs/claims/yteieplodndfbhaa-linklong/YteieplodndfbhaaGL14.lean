import Derived.Test.YteieplodndfbhaaGL13
import Derived.Test.YteieplodndfbhaaGL09
import Derived.Test.YteieplodndfbhaaGL12
/- The reference's objects: the order, then the bases. -/
namespace Go.Proofs.Yteieplodndfbhaa.LW
open Go.RowKit
open Go.Proofs.Yteieplodndfbhaa.W (hideC)
set_option linter.unusedVariables false
set_option maxRecDepth 100000

def ints (ix : List Nat) : List Value := ix.map (fun (j : Nat) => Value.int .i64 (j : Int))
theorem infoIn : (Try.prog.info? 3).map (fun i => (i.zero, i.size, i.bytes)) = some (some (.int .i64 0), 1, 8) := by kernel_rfl
theorem infoRo : (Try.prog.info? 71).map (fun i => (i.zero, i.size, i.bytes)) = some (some (.agg #[.string ⟨#[]⟩, .slice none 0 0, .slice none 0 0, .slice none 0 0, .slice none 0 0, .int .i64 0, .int .i64 0]), 7, 128) := by kernel_rfl
theorem row_int {w : World} {base : Nat} {v : Value} {ix : List Nat} (h : w.ownsRow base 3 1 v ix.length (ints ix)) (hl : 0 < ix.length) :
    ∃ g cap, v = .slice (some ⟨g, 0, none⟩) ix.length cap ∧ base ≤ g ∧ g < w.heap.size ∧ ix.length ≤ cap ∧ ∀ k, k < ix.length → w.cell? ⟨g, k, none⟩ = some (.int .i64 ((ix.getD k 0 : Nat) : Int)) := by
  rcases h.2 with ⟨hv, h0⟩ | ⟨g, cap, cur, hv, hbg, hg, hnc, hcm, hcs, htake⟩
  · omega
  · subst hv
    refine ⟨g, cap, rfl, hbg, B.isLt hg, hnc, fun k hk => ?_⟩
    refine (h.cellAt k (by omega)).trans ?_
    unfold ints
    rw [List.getElem?_map, List.getD_eq_getElem?_getD, List.getElem?_eq_getElem hk]
    rfl
theorem row_ro {w : World} {base : Nat} {v : Value} {l : List LM.Ob} (h : w.ownsRow base 71 7 v l.length (l.flatMap LM.cellO)) (hl : 0 < l.length) (hi : ∀ k, k < l.length → M.HasIm w (LM.obAt l k).a (LM.obAt l k).i) :
    ∃ g cap, v = .slice (some ⟨g, 0, none⟩) l.length cap ∧ base ≤ g ∧ g < w.heap.size ∧ l.length ≤ cap ∧ LM.LieO w g 0 l := by
  rcases h.2 with ⟨hv, h0⟩ | ⟨g, cap, cur, hv, hbg, hg, hnc, hcm, hcs, htake⟩
  · omega
  · subst hv
    refine ⟨g, cap, rfl, hbg, B.isLt hg, hnc, fun k hk => ?_⟩
    rw [Nat.zero_add]
    have hh : ∀ j, j < 7 → w.cell? ⟨g, k * 7 + j, none⟩ = (LM.cellO (LM.obAt l k))[j]? := fun j hj => (h.cellAt _ (by omega)).trans (flat_get LM.cellO 7 (fun _ => rfl) LM.ob0 l k j hk hj)
    exact ⟨⟨hh 0 (by omega), hh 1 (by omega), hh 2 (by omega), hh 3 (by omega), hh 4 (by omega), hh 5 (by omega), hh 6 (by omega)⟩, hi k hk⟩
/-- what objects is handed -/
structure Ai (all : List LM.Li) (ao : Option Addr) (w : World) : Prop where
  has : LM.HasI w ao all
  pos : 0 < all.length
  few : all.length ≤ 7
  chk : ∀ j, j < all.length → M.chkN (LM.liAt all j).i = 0
theorem Ai.below {all : List LM.Li} {ao : Option Addr} {w w' : World} (h : Ai all ao w) (hb : Below w.heap.size w w') : Ai all ao w' := ⟨h.has.below hb, h.pos, h.few, h.chk⟩
theorem Ai.im {all : List LM.Li} {ao : Option Addr} {w : World} (h : Ai all ao w) (j : Nat) (hj : j < all.length) : M.HasIm w (LM.liAt all j).a (LM.liAt all j).i := by
  obtain ⟨b, off, _, _, hl⟩ := h.has (by omega)
  exact (hl j hj).2
/-- how objects ends -/
def OutO (all : List LM.Li) (R : Option (List Nat)) (w : World) (e : Ending) (w' : World) : Prop := Below w.heap.size w w' ∧ match R with
  | none => e = .returned (.tuple #[.slice none 0 0, .int .i64 6])
  | some ix => LM.OkIx all ix ∧ if 256 < LM.endFrom all 1 ix then e = .returned (.tuple #[.slice none 0 0, .int .i64 3]) else
      ∃ ao cap, e = .returned (.tuple #[.slice ao ix.length cap, .int .i64 0]) ∧ LM.HasO w' ao (LM.obsFrom all 1 ix)
theorem endFrom_take (all : List LM.Li) (hc : ∀ j, j < all.length → M.chkN (LM.liAt all j).i = 0) : ∀ (ix : List Nat) (b : Int) (k : Nat), (∀ j ∈ ix, j < all.length) → LM.endFrom all b (ix.take k) ≤ LM.endFrom all b ix
  | [], b, k, _ => by simp
  | j :: r, b, 0, h => by
    have := (LM.endFrom_bounds all hc (j :: r) b h).1
    simpa [LM.endFrom] using this
  | j :: r, b, k + 1, h => by
    have := endFrom_take all hc r (LM.endO ⟨(LM.liAt all j).i, (LM.liAt all j).a, b⟩) k (fun q hq => h q (List.mem_cons_of_mem _ hq))
    simpa [LM.endFrom] using this
theorem take_snoc (ix : List Nat) (k : Nat) (h : k < ix.length) : ix.take (k + 1) = ix.take k ++ [ix.getD k 0] := by
  rw [List.take_add_one, List.getD_eq_getElem?_getD, List.getElem?_eq_getElem h]
  rfl
theorem has_snoc (ix : List Nat) (k j : Nat) (h : k < ix.length) : (ix.take (k + 1)).contains j = ((ix.take k).contains j || decide (((ix.getD k 0 : Nat) : Int) = (j : Int))) := by
  rw [take_snoc ix k h]
  rw [Bool.eq_iff_iff]
  simp only [List.contains_iff_mem, List.mem_append, List.mem_singleton, Bool.or_eq_true, decide_eq_true_eq]
  constructor
  · rintro (g | g)
    · exact .inl g
    · exact .inr (by rw [g])
  · rintro (g | g)
    · exact .inl g
    · exact .inr (by omega)
set_option maxHeartbeats 6000000 in
theorem objectsR_any (all : List LM.Li) (ao : Option Addr) (cap : Nat) (w : World) (h : Ai all ao w) :
    Calls Try.prog 26 #[.slice ao all.length cap] w (OutO all (LM.gat all all.length 0 [0]) w) := by
  obtain ⟨i0, hi, hz0, hz1, hz2⟩ := info_parts infoIn
  have HA := hideC h
  have hpos := h.pos
  have hfew := h.few
  clear h
  obtain ⟨R, hR⟩ : ∃ R, R = LM.gat all all.length 0 [0] := ⟨_, rfl⟩
  have HR := hideC hR
  rw [← hR]
  clear hR
  have HX0 : Hid (LM.OkIx all [0]) := ⟨by simp, by simp, fun j hj => by simp at hj; omega⟩
  have HB0 := hideC ((Below.refl w.heap.size w).alloc (Nat.le_refl _) (.cells #[.int .i64 0] 3))
  have HOW0 : Hid ((w.alloc (.cells #[.int .i64 0] 3)).ownsRow w.heap.size 3 1 (.slice (some ⟨w.heap.size, 0, none⟩) 1 1) 1 (ints [0])) :=
    World.ownsRow_lit (base := w.heap.size) (e := 3) (size := 1) w #[.int .i64 0] 1 (Nat.le_refl _) (by unfold maxLen; omega) rfl
  obtain ⟨b, off, hao, hbl, hlie⟩ := HA.out.has hpos
  subst hao
  have HLI := hideC hlie
  clear hlie
  go_enter Try.func26, Try.ntmps26
  go_wp2
  go_loopw [5, 4] (fun nx v wr => ∃ (n : Nat) (ix : List Nat), nx = .int .i64 n ∧ LM.OkIx all ix ∧ n ≤ ix.length ∧ LM.gat all (all.length - n) n ix = R ∧ wr.ownsRow w.heap.size 3 1 v ix.length (ints ix) ∧ Below w.heap.size w wr) (fun nx _ _ => all.length - (intOf nx).toNat)
  case atStart => exact ⟨0, [0], rfl, HX0.out, by simp, HR.out.symm, HOW0.out, HB0.out⟩
  case round =>
    obtain ⟨n, ix, rfl, hx, hnx, hgt, hown, hb⟩ := hrel
    have HX := hideC hx
    have HGT := hideC hgt
    have HOW := hideC hown
    have HBr := hideC hb
    have hle := hx.le
    have hps := hx.pos
    obtain ⟨g, capg, hv, hbg, hgl, hnc, hcell⟩ := row_int hown hps
    subst hv
    have HCE := hideC hcell
    have HAr := hideC (HA.out.below hb)
    clear hcell
    by_cases hlt : n < ix.length
    · have hjl := hx.lt _ (LM.getD_mem ix n hlt)
      have c0 := HCE.out n hlt
      obtain ⟨⟨-, c1, -, -, -, -⟩, -⟩ := LM.lieI hb hbl HLI.out (ix.getD n 0) hjl
      have HIM := hideC (HA.out.im _ hjl).needs
      have hcn := (LM.counts_of (HA.out.chk _ hjl)).2.2.1
      obtain ⟨f, hf⟩ : ∃ f, all.length - n = f + 1 := ⟨all.length - n - 1, by omega⟩
      have HF : Hid (all.length - (n + 1) = f) := by show _ = _; omega
      rw [hf] at HGT
      have HSOME : Hid (∀ ix', LM.ordTo all ix (LM.liAt all (ix.getD n 0)).i.needs (LM.liAt all (ix.getD n 0)).i.needs.length = some ix' → LM.gat all f (n + 1) ix' = R) := fun ix' h => by
        rw [← HGT.out]
        exact (LM.gat_some all f n ix ix' hlt h).symm
      have HNONE : Hid (LM.ordTo all ix (LM.liAt all (ix.getD n 0)).i.needs (LM.liAt all (ix.getD n 0)).i.needs.length = none → R = none) := fun h => by
        rw [← HGT.out]
        exact LM.gat_none all f n ix hlt h
      obtain ⟨jn, hjn⟩ : ∃ jn, jn = ix.getD n 0 := ⟨_, rfl⟩
      rw [← hjn] at c0 c1 hjl HIM hcn HSOME HNONE
      obtain ⟨q, hq⟩ : ∃ q, q = LM.liAt all jn := ⟨_, rfl⟩
      rw [← hq] at c1 HIM hcn HSOME HNONE
      clear hq hjn hf hgt hown hb hx
      obtain ⟨⟨nmq, nd, gsq, ysq, rsq, enq⟩, ⟨anq, cnq, agq, cgq, ayq, cyq, arq, crq⟩⟩ := q
      simp only at c1 HSOME HNONE HIM hcn
      go_wp2
      go_loopw [7, 4] (fun kx v wi => ∃ (k : Nat) (ix' : List Nat), kx = .int .i64 k ∧ k ≤ nd.length ∧ LM.ordTo all ix nd k = some ix' ∧ LM.OkIx all ix' ∧ ix.length ≤ ix'.length ∧ wi.ownsRow w.heap.size 3 1 v ix'.length (ints ix') ∧ Below w.heap.size w wi) (fun kx _ _ => nd.length - (intOf kx).toNat)
      case atStart => exact ⟨0, ix, rfl, by omega, rfl, HX.out, Nat.le_refl _, HOW.out, HBr.out⟩
      case round =>
        clear c0 c1 HCE
        obtain ⟨k, jx, rfl, hk, hord, hox, hlx, hown, hb⟩ := hrel
        have HORD := hideC hord
        have HOX := hideC hox
        have HOWi := hideC hown
        have HBi := hideC hb
        have hsz := hb.size
        have hle2 := hox.le
        have hps2 := hox.pos
        obtain ⟨g2, cap2, hv2, hbg2, hgl2, hnc2, hcell2⟩ := row_int hown hps2
        subst hv2
        have HCE2 := hideC hcell2
        have HAi := hideC (HA.out.below hb)
        clear hord hown hox hcell2
        by_cases hkl : k < nd.length
        · obtain ⟨bn, offn, han, hbnl, hlien⟩ := HIM.out (by omega)
          subst han
          have cs := M.lieS hb hbnl hlien k hkl
          obtain ⟨s, hse⟩ : ∃ s, s = M.strAt nd k := ⟨_, rfl⟩
          rw [← hse] at cs
          have HSE := hideC hse
          clear hse hb hlien
          have HFI := hideC (find_any all (some ⟨b, off, none⟩) cap s wr HAi.out.has (by unfold M.Short; omega))
          cases e : LM.ixOf all s with
          | none =>
            have HRN : Hid (R = none) := HNONE.out (LM.ordTo_none (LM.ordTo_miss HORD.out (by rw [← HSE.out]; exact e)) nd.length (by omega))
            rw [e] at HFI
            simp only [ixInt] at HFI
            clear e
            go_wp2_with (go_at_call 60; refine HFI.out.mono ?_; rintro e w' ⟨rfl, rfl⟩)
            go_ret2
            show OutO all R w _ _
            rw [HRN.out]
            exact ⟨HBi.out, rfl⟩
          | some j =>
            have HSTEP : Hid (LM.ordTo all ix nd (k + 1) = some (LM.addIx jx j)) := LM.ordTo_step HORD.out (by rw [← HSE.out]; exact e)
            obtain ⟨hjl2, -⟩ := LM.ixOf_some e
            have HOXA := hideC (HOX.out.add hjl2)
            rw [e] at HFI
            simp only [ixInt] at HFI
            clear e
            have hj0 : (0 : Int) ≤ (j : Int) := by omega
            go_wp2_with (go_at_call 60; refine HFI.out.mono ?_; rintro e w' ⟨rfl, rfl⟩)
            go_loop [9, 10] (fun u m => ∃ k2 : Nat, k2 ≤ jx.length ∧ m = .int .i64 k2 ∧ u = .bool ((jx.take k2).contains j)) (fun _ m => jx.length - (intOf m).toNat)
            case atStart => exact ⟨0, by omega, rfl, by simp⟩
            case round =>
              obtain ⟨m, hm, rfl, rfl⟩ := hrel
              by_cases hml : m < jx.length
              · have d0 := HCE2.out m hml
                have HSN := hideC (has_snoc jx m j hml)
                obtain ⟨y, hy⟩ : ∃ y, y = jx.getD m 0 := ⟨_, rfl⟩
                rw [← hy] at d0 HSN
                clear hy
                have hm1 : (m : Int) < (jx.length : Int) := by omega
                cases ec : (jx.take m).contains j with
                | true =>
                  rw [ec] at HSN
                  simp only [Bool.true_or] at HSN
                  go_wp2
                  go_round
                  case rel => exact ⟨m + 1, by omega, by go_num, by rw [HSN.out]⟩
                  case measure => simp [intOf]; omega
                | false =>
                  rw [ec] at HSN
                  simp only [Bool.false_or] at HSN
                  go_wp2
                  go_round
                  case rel => exact ⟨m + 1, by omega, by go_num, by rw [HSN.out]; rfl⟩
                  case measure => simp [intOf]; omega
              · obtain rfl : m = jx.length := by omega
                rw [List.take_length]
                cases hcj : jx.contains j with
                | true =>
                  have HAE : Hid (LM.addIx jx j = jx) := by show _ = _; unfold LM.addIx; rw [if_pos hcj]
                  rw [HAE.out] at HSTEP
                  clear hcj
                  go_wp2
                  go_roundw
                  case rel => exact ⟨k + 1, jx, by go_num, by omega, HSTEP.out, HOX.out, hlx, HOWi.out, HBi.out⟩
                  case measure => simp [intOf]; omega
                | false =>
                  have HAE : Hid (LM.addIx jx j = jx ++ [j]) := by show _ = _; unfold LM.addIx; rw [if_neg (by rw [hcj]; decide)]
                  rw [HAE.out] at HSTEP HOXA
                  clear hcj
                  have hrow : Hid (∀ q, (Value.slice (some ⟨g2, 0, none⟩) jx.length cap2).ownBlock = some q → w.heap.size ≤ q ∧ q < wr.heap.size) := HOWi.out.lt
                  have HN := hideC (B.new wr #[.int .i64 (j : Int)] 3)
                  go_wp2_with (at_builtin; refine wpList_append_lies _ rfl _ _ 117 rfl w.heap.size 3 i0 (.int .i64 0) 1 8 Try.underlying117 hi hz0 hz1 hz2 rfl (by decide) _ _ _ rfl (HOWi.out.alloc _) ⟨wr.heap.size, 0, none⟩ 1 1 [.int .i64 (j : Int)] rfl rfl (B.news HN.out) (by intro u hu; simp at hu; subst hu; rfl) (by decide) (by unfold maxLen; omega) (by omega) (by simp; omega) (wr.heap.size + 1) (by simp) ?_; intro gg capg3 w1 hown1 hgrow hat hlt1; have HO1 := hideC hown1; have HB1 : Hid (Below w.heap.size w w1) := (HBi.out.alloc HBi.out.size _).grown hgrow (by have := HBi.out.size; simp; omega) (fun k' e => by have := hrow.out _ e; omega); clear hown1 hgrow hat)
                  go_roundw
                  case rel => exact ⟨k + 1, jx ++ [j], by go_num, by omega, HSTEP.out, HOXA.out, by rw [List.length_append]; omega, by unfold ints; rw [List.map_append, List.length_append]; exact HO1.out, HB1.out⟩
                  case measure => simp [intOf]; omega
        · obtain rfl : k = nd.length := by omega
          have HE := hideC (HSOME.out jx HORD.out)
          clear hb
          go_wp2
          go_roundw
          case rel => exact ⟨n + 1, jx, by go_num, HOX.out, by omega, by rw [HF.out]; exact HE.out, HOWi.out, HBi.out⟩
          case measure => simp [intOf]; omega
    · obtain rfl : n = ix.length := by omega
      obtain rfl : some ix = R := by
        rw [← HGT.out]
        exact (LM.gat_end all _ _ ix (by omega)).symm
      obtain ⟨i1, hi1, hy0, hy1, hy2⟩ := info_parts infoRo
      have HBD : Hid (∀ k, k ≤ ix.length → 1 ≤ LM.endFrom all 1 (ix.take k) ∧ LM.endFrom all 1 (ix.take k) ≤ 2000 ∧ LM.endFrom all 1 (ix.take k) ≤ LM.endFrom all 1 ix) := fun k hk => by
        have h1 := LM.endFrom_bounds all HA.out.chk (ix.take k) 1 (fun j hj => HX.out.lt j (List.mem_of_mem_take hj))
        have h2 : (ix.take k).length ≤ 7 := by rw [List.length_take]; omega
        have h3 := endFrom_take all HA.out.chk ix 1 k HX.out.lt
        omega
      clear hgt hown hx hb HGT HR
      obtain ⟨V, hV⟩ : ∃ V, V = wr := ⟨_, rfl⟩
      subst hV
      go_wp2
      go_loopw [13, 11, 12] (fun nx v bx wi => ∃ n : Nat, nx = .int .i64 n ∧ n ≤ ix.length ∧ bx = .int .i64 (LM.endFrom all 1 (ix.take n)) ∧ (LM.endFrom all 1 (ix.take n) ≤ 256) ∧ wi.ownsRow V.heap.size 71 7 v n ((LM.obsFrom all 1 (ix.take n)).flatMap LM.cellO) ∧ Below V.heap.size V wi) (fun nx _ _ _ => ix.length - (intOf nx).toNat)
      case atStart => exact ⟨0, rfl, by omega, rfl, by simp [LM.endFrom], World.ownsRow_nil _ _ _ _, Below.refl _ _⟩
      case round =>
        obtain ⟨n, rfl, hn, rfl, hbs, hown, hb⟩ := hrel
        have HOWi := hideC hown
        have HBi := hideC hb
        have HBt := hideC (HBr.out.trans (hb.mono HBr.out.size))
        have hsz := hb.size
        by_cases hlt2 : n < ix.length
        · have hjl := HX.out.lt _ (LM.getD_mem ix n hlt2)
          have o0 := (M.below_cell hb hgl).trans (HCE.out n hlt2)
          obtain ⟨⟨c0, c1, c2, c3, c4, c5⟩, him⟩ := LM.lieI HBt.out hbl HLI.out (ix.getD n 0) hjl
          have hbl2 : b < wr.heap.size := Nat.lt_of_lt_of_le hbl HBt.out.size
          have hgl2 : g < wr.heap.size := Nat.lt_of_lt_of_le hgl hsz
          have hcn := LM.counts_of (HA.out.chk _ hjl)
          have hlb := LM.last_bounds (HA.out.chk _ hjl)
          have hbd := HBD.out n (by omega)
          have hbd1 := HBD.out (n + 1) (by omega)
          have HTE : Hid (LM.endFrom all 1 (ix.take (n + 1)) = LM.endFrom all 1 (ix.take n) + (LM.lastSeg (LM.liAt all (ix.getD n 0)).i).page + (LM.lastSeg (LM.liAt all (ix.getD n 0)).i).pages) := by
            show _ = _
            rw [take_snoc ix n hlt2, LM.endFrom_snoc]
            rfl
          have HTO : Hid (LM.obsFrom all 1 (ix.take (n + 1)) = LM.obsFrom all 1 (ix.take n) ++ [⟨(LM.liAt all (ix.getD n 0)).i, (LM.liAt all (ix.getD n 0)).a, LM.endFrom all 1 (ix.take n)⟩]) := by
            show _ = _
            rw [take_snoc ix n hlt2, LM.obsFrom_snoc]
          obtain ⟨jn, hjn⟩ : ∃ jn, jn = ix.getD n 0 := ⟨_, rfl⟩
          rw [← hjn] at o0 c0 c1 c2 c3 c4 c5 him hcn hlb HTE HTO hjl
          obtain ⟨q, hq⟩ : ∃ q, q = LM.liAt all jn := ⟨_, rfl⟩
          rw [← hq] at c0 c1 c2 c3 c4 c5 him hcn hlb HTE HTO
          clear hq hjn
          obtain ⟨⟨nm, ns, gs, ys, rs, en⟩, ⟨an, cn, ag, cg, ay, cy, ar, cr⟩⟩ := q
          have hsg := him.segs
          simp only at hsg c0 c1 c2 c3 c4 c5 hcn
          obtain ⟨sb, so, hag, hsbl, hslie⟩ := hsg (by omega)
          subst hag
          have hls : LM.lastSeg ⟨nm, ns, gs, ys, rs, en⟩ = M.sgAt gs (gs.length - 1) := rfl
          rw [hls] at hlb HTE
          obtain ⟨s0, s1, s2, s3, s4⟩ := hslie (gs.length - 1) (by omega)
          obtain ⟨s, hs⟩ : ∃ s, s = M.sgAt gs (gs.length - 1) := ⟨_, rfl⟩
          rw [← hs] at s0 s1 s2 s3 s4 hlb HTE
          clear hs hls hslie him hsg hb hown
          obtain ⟨G, hG⟩ : ∃ G, G = gs.length := ⟨_, rfl⟩
          rw [← hG] at c2 s0 s1 s2 s3 s4 hcn
          have HGE := hideC hG
          clear hG
          obtain ⟨E0, hE0⟩ : ∃ E0, E0 = LM.endFrom all 1 (ix.take n) := ⟨_, rfl⟩
          obtain ⟨E1, hE1⟩ : ∃ E1, E1 = LM.endFrom all 1 (ix.take (n + 1)) := ⟨_, rfl⟩
          rw [← hE0] at hbd HTE HTO hbs ⊢
          rw [← hE1] at hbd1 HTE
          have HE1 := hideC hE1
          have hT := HTE.out
          clear hE0 hE1 HTE
          obtain ⟨sp, sn, sd, sw, se⟩ := s
          simp only at s0 s1 s2 s3 s4 hlb hT
          have hn1 : (n : Int) < (ix.length : Int) := by omega
          have hj1 : (jn : Int) < (all.length : Int) := by omega
          have hG1 : (1 : Int) ≤ (G : Int) := by omega
          have hG2 : 0 < G := by omega
          by_cases hbig : 256 < E1
          · have HFI : Hid (256 < LM.endFrom all 1 ix) := (by omega : (256 : Int) < LM.endFrom all 1 ix)
            have HBE := hideC ((HBt.out.alloc HBt.out.size (.cells #[.string nm, .slice an ns.length cn, .slice (some ⟨sb, so, none⟩) G cg, .slice ay ys.length cy, .slice ar rs.length cr, .int .i64 en, .int .i64 E0] 71)).alloc (by simp; have := HBt.out.size; omega) (.cells #[.int .i64 sp, .int .i64 sn, .string sd, .bool sw, .bool se] 79))
            have hE : E0 + sp + sn - 1 > 255 := by omega
            go_wp2
            go_ret2
            exact ⟨HBE.out, HX.out, by rw [if_pos HFI.out]; rfl⟩
          · have hE : ¬ (E0 + sp + sn - 1 > 255) := by omega
            have HW2 : Hid (Below V.heap.size V ((wr.alloc (.cells #[.string nm, .slice an ns.length cn, .slice (some ⟨sb, so, none⟩) G cg, .slice ay ys.length cy, .slice ar rs.length cr, .int .i64 en, .int .i64 E0] 71)).alloc (.cells #[.int .i64 sp, .int .i64 sn, .string sd, .bool sw, .bool se] 79))) := (HBi.out.alloc HBi.out.size _).alloc (by simp; omega) _
            have HO2 := hideC ((HOWi.out.alloc (.cells #[.string nm, .slice an ns.length cn, .slice (some ⟨sb, so, none⟩) G cg, .slice ay ys.length cy, .slice ar rs.length cr, .int .i64 en, .int .i64 E0] 71)).alloc (.cells #[.int .i64 sp, .int .i64 sn, .string sd, .bool sw, .bool se] 79))
            have hrow : Hid (∀ q, u11.ownBlock = some q → V.heap.size ≤ q ∧ q < wr.heap.size) := HOWi.out.lt
            have HN0 := B.new ((wr.alloc (.cells #[.string nm, .slice an ns.length cn, .slice (some ⟨sb, so, none⟩) G cg, .slice ay ys.length cy, .slice ar rs.length cr, .int .i64 en, .int .i64 E0] 71)).alloc (.cells #[.int .i64 sp, .int .i64 sn, .string sd, .bool sw, .bool se] 79)) #[.string nm, .slice an ns.length cn, .slice (some ⟨sb, so, none⟩) G cg, .slice ay ys.length cy, .slice ar rs.length cr, .int .i64 en, .int .i64 E0] 71
            rw [show ((wr.alloc (.cells #[.string nm, .slice an ns.length cn, .slice (some ⟨sb, so, none⟩) G cg, .slice ay ys.length cy, .slice ar rs.length cr, .int .i64 en, .int .i64 E0] 71)).alloc (.cells #[.int .i64 sp, .int .i64 sn, .string sd, .bool sw, .bool se] 79)).heap.size = wr.heap.size + 2 by simp] at HN0
            have HN := hideC HN0
            clear HN0
            go_wp2_with (at_builtin; refine wpList_append_lies _ rfl _ _ 67 rfl V.heap.size 71 i1 (.agg #[.string ⟨#[]⟩, .slice none 0 0, .slice none 0 0, .slice none 0 0, .slice none 0 0, .int .i64 0, .int .i64 0]) 7 128 Try.underlying67 hi1 hy0 hy1 hy2 rfl (by decide) _ _ _ rfl (HO2.out.alloc _) ⟨wr.heap.size + 2, 0, none⟩ 1 1 [.string nm, .slice an ns.length cn, .slice (some ⟨sb, so, none⟩) G cg, .slice ay ys.length cy, .slice ar rs.length cr, .int .i64 en, .int .i64 E0] rfl rfl (B.news HN.out) (by intro u hu; simp at hu; rcases hu with rfl | rfl | rfl | rfl | rfl | rfl | rfl <;> rfl) (by decide) (by unfold maxLen; omega) (by omega) (by simp; omega) (wr.heap.size + 3) (by simp) ?_; intro gg capg3 w1 hown1 hgrow hat hlt1; have HO1 := hideC hown1; have HB1 : Hid (Below V.heap.size V w1) := (HW2.out.alloc (by simp; omega) _).grown hgrow (by simp; omega) (fun k' e => (hrow.out _ e).1); clear hown1 hgrow hat)
            go_roundw
            case rel => exact ⟨n + 1, by go_num, by omega, by rw [← HE1.out, hT], by rw [← HE1.out]; omega, by rw [HTO.out, List.flatMap_append]; have h9 := HO1.out; rw [HGE.out] at h9; exact h9, HB1.out⟩
            case measure => simp [intOf]; omega
        · obtain rfl : n = ix.length := by omega
          rw [List.take_length] at hown hbs
          have HAV := hideC (HA.out.below HBt.out)
          have HNB : Hid (LM.endFrom all 1 ix ≤ 256) := hbs
          obtain ⟨g3, cap3, hv3, -, hgl3, -, hlie3⟩ := row_ro (l := LM.obsFrom all 1 ix) (by rw [LM.obsFrom_length]; exact hown) (by rw [LM.obsFrom_length]; exact hps) (fun k hk => by
            rw [LM.obsFrom_length] at hk
            have h2 := LM.obsFrom_at all ix 1 k hk
            rw [h2.1, h2.2.1]
            exact HAV.out.im _ (HX.out.lt _ (LM.getD_mem ix k hk)))
          rw [LM.obsFrom_length] at hv3
          subst hv3
          have HOO : Hid (LM.HasO wr (some ⟨g3, 0, none⟩) (LM.obsFrom all 1 ix)) := fun _ => ⟨g3, 0, rfl, hgl3, hlie3⟩
          clear hown hlie3 hb
          go_wp2
          go_ret2
          exact ⟨HBt.out, HX.out, by rw [if_neg (by have := HNB.out; omega)]; exact ⟨_, _, rfl, HOO.out⟩⟩
end Go.Proofs.Yteieplodndfbhaa.LW
/- The linker: the patches of an object. -/
namespace Go.Proofs.Yteieplodndfbhaa.LW
open Go.RowKit
open Go.Proofs.Yteieplodndfbhaa.W (hideC)
set_option linter.unusedVariables false
set_option maxRecDepth 100000

theorem infoPt : (Try.prog.info? 134).map (fun i => (i.zero, i.size, i.bytes)) = some (some (.agg #[.int .i64 0, .string ⟨#[]⟩]), 2, 24) := by kernel_rfl
theorem row_mono {w : World} {base base' : Nat} {e : TypeId} {size : Nat} {v : Value} {n : Nat} {xs : List Value} (h : w.ownsRow base e size v n xs) (hl : base' ≤ base) : w.ownsRow base' e size v n xs := by
  refine ⟨h.1, ?_⟩
  rcases h.2 with h2 | ⟨g, cap, cur, hv, hbg, rest⟩
  · exact .inl h2
  · exact .inr ⟨g, cap, cur, hv, Nat.le_trans hl hbg, rest⟩
/-- how patchesOf ends -/
def OutPt (R : Option (List LM.Pt)) (w : World) (e : Ending) (w' : World) : Prop := Below w.heap.size w w' ∧ match R with
  | none => e = .returned (.tuple #[.slice none 0 0, .bool false])
  | some ps => ∃ v, e = .returned (.tuple #[v, .bool true]) ∧ w'.ownsRow w.heap.size 134 2 v ps.length (ps.flatMap LM.cellP)
set_option maxHeartbeats 4000000 in
theorem patchesOf_any (l : List LM.Ob) (ao : Option Addr) (cap : Nat) (o : LM.Ob) (w : World) (h : Oi l ao w) (hi : M.HasIm w o.a o.i) (hc : M.chkN o.i = 0) (hfo : M.Fit o.i) (h0 : 1 ≤ o.base) (h1 : o.base ≤ 2000) :
    Calls Try.prog 53 #[.agg (LM.cellsO o), .slice ao l.length cap] w (OutPt (LM.patN l o) w) := by
  have hn := (LM.counts_of hc).2.2.2.2
  have HRB := hideC (LM.rel_bounds hc)
  have HRF := hideC hfo.rel
  have HRL := hideC hi.rels
  have HAD : Hid (∀ at', 0 ≤ at' → at' ≤ 100000 → ∀ V, Calls Try.prog 23 #[.agg (LM.cellsO o), .int .i64 at'] V fun e w' => e = .returned (.int .i64 (LM.addrO o at')) ∧ Below V.heap.size V w') := fun a h2 h3 V => address_any o a V (by omega) (by omega) h2 h3
  have HTG : Hid (∀ s V, Below w.heap.size w V → Calls Try.prog 78 #[.agg (LM.cellsO o), .slice ao l.length cap, .string s] V fun e w' => e = .returned (optV (LM.tgtN l o s)) ∧ Below V.heap.size V w') := fun s V hb => target_any l ao cap o s V (h.below hb) (by omega) (by omega)
  obtain ⟨R, hR⟩ : ∃ R, R = LM.patN l o := ⟨_, rfl⟩
  have HR : Hid (R = LM.patTo l o o.i.rels.length) := hR
  rw [← hR]
  clear hR h hi hc hfo
  obtain ⟨i0, hin, hz0, hz1, hz2⟩ := info_parts infoPt
  obtain ⟨og, hog⟩ : ∃ og, og = o := ⟨_, rfl⟩
  have HOG := hideC hog
  rw [← hog] at HR HRB HRF HRL HTG HAD hn
  simp only [LM.cellsO] at HTG HAD
  rw [hog] at HTG HAD
  clear hog
  have HTG' : Hid (∀ s V, Below w.heap.size w V → Calls Try.prog 78 #[.agg #[.string o.i.name, .slice o.a.an o.i.needs.length o.a.cn, .slice o.a.ag o.i.segs.length o.a.cg, .slice o.a.ay o.i.syms.length o.a.cy, .slice o.a.ar o.i.rels.length o.a.cr, .int .i64 o.i.entry, .int .i64 o.base], .slice ao l.length cap, .string s] V fun e w' => e = .returned (optV (LM.tgtN l og s)) ∧ Below V.heap.size V w') := by
    rw [HOG.out]
    exact HTG
  have HAD' : Hid (∀ at', 0 ≤ at' → at' ≤ 100000 → ∀ V, Calls Try.prog 23 #[.agg #[.string o.i.name, .slice o.a.an o.i.needs.length o.a.cn, .slice o.a.ag o.i.segs.length o.a.cg, .slice o.a.ay o.i.syms.length o.a.cy, .slice o.a.ar o.i.rels.length o.a.cr, .int .i64 o.i.entry, .int .i64 o.base], .int .i64 at'] V fun e w' => e = .returned (.int .i64 (LM.addrO og at')) ∧ Below V.heap.size V w') := by
    rw [HOG.out]
    exact HAD
  have HRL' : Hid (M.HasBy M.LieR w o.a.ar og.i.rels) := by
    have h := HRL.out
    rw [HOG.out] at h ⊢
    exact h
  have hrl : o.i.rels.length = og.i.rels.length := by rw [HOG.out]
  clear HTG HAD HRL
  simp only [LM.cellsO]
  obtain ⟨⟨nm, ns, gs, ys, rs, en⟩, ⟨an, cn, ag, cg, ay, cy, ar, cr⟩, ba⟩ := o
  simp only at HTG' HAD' HRL' hrl h0 h1
  simp only
  rw [hrl] at HTG' HAD'
  rw [hrl]
  clear hrl HOG
  obtain ⟨L, hL⟩ : ∃ L, L = og.i.rels := ⟨_, rfl⟩
  rw [← hL] at HTG' HAD' HRL' hn HR HRB HRF
  rw [← hL]
  have HL := hideC hL
  clear hL
  have HB := hideC ((Below.refl w.heap.size w).alloc (Nat.le_refl _) (.cells #[.string nm, .slice an ns.length cn, .slice ag gs.length cg, .slice ay ys.length cy, .slice ar L.length cr, .int .i64 en, .int .i64 ba] 59))
  have BX := hideC (B.new w #[.string nm, .slice an ns.length cn, .slice ag gs.length cg, .slice ay ys.length cy, .slice ar L.length cr, .int .i64 en, .int .i64 ba] 59)
  go_enter Try.func53, Try.ntmps53
  go_wp2
  go_loopw [17, 6] (fun i v wr => ∃ (k : Nat) (ps : List LM.Pt), k ≤ L.length ∧ i = .int .i64 k ∧ LM.patTo l og k = some ps ∧ wr.ownsRow (w.heap.size + 1) 134 2 v ps.length (ps.flatMap LM.cellP) ∧ Below w.heap.size w wr ∧ wr.heap[w.heap.size]? = some (.cells #[.string nm, .slice an ns.length cn, .slice ag gs.length cg, .slice ay ys.length cy, .slice ar L.length cr, .int .i64 en, .int .i64 ba] 59 (0, 0))) (fun i _ _ => L.length - (intOf i).toNat)
  case atStart => exact ⟨0, [], by omega, rfl, rfl, World.ownsRow_nil _ _ _ _, HB.out, BX.out⟩
  case round =>
    obtain ⟨k, ps, hk, rfl, hpt, hown, hb, hbx⟩ := hrel
    have HPT := hideC hpt
    have HOW := hideC hown
    have HBr := hideC hb
    have BXr := hideC hbx
    have hb0 := B.isLt hbx
    have hpl : ps.length ≤ 16 := by have := LM.patTo_len hpt; omega
    have x0 := B.cell hbx 0 rfl
    have x1 := B.cell hbx 1 rfl
    have x2 := B.cell hbx 2 rfl
    have x3 := B.cell hbx 3 rfl
    have x4 := B.cell hbx 4 rfl
    have x5 := B.cell hbx 5 rfl
    have x6 := B.cell hbx 6 rfl
    by_cases hlt : k < L.length
    · obtain ⟨b, off, har, hbl, hlie⟩ := (M.HasBy.below (lie := M.LieR) (fun hb hlt h => M.lieR hb hlt h) HRL'.out hb) (by omega)
      obtain ⟨c0, c1, c2⟩ := hlie k hlt
      have hrb := HRB.out k hlt
      have HS1 : Hid (∀ t, LM.tgtN l og (M.rlAt L k).name = some t → LM.patTo l og (k + 1) = some (ps ++ [LM.ptOf og (M.rlAt L k) t])) := fun t g => by
        rw [HL.out] at g ⊢
        simp only [LM.patTo, HPT.out, g]
      have HS0 : Hid (LM.tgtN l og (M.rlAt L k).name = none → R = none) := fun g => by
        rw [HR.out]
        refine LM.patTo_none (k := k + 1) ?_ L.length (by omega)
        rw [HL.out] at g
        simp only [LM.patTo, HPT.out, g]
      obtain ⟨r, hr⟩ : ∃ r, r = M.rlAt L k := ⟨_, rfl⟩
      rw [← hr] at c0 c1 c2 hrb HS1 HS0
      clear hr hlie hpt hown hbx
      obtain ⟨rp, rn, ra⟩ := r
      simp only at c0 c1 c2 hrb HS1 HS0
      have HBA := hideC (HBr.out.alloc HBr.out.size (.cells #[.int .i64 rp, .string rn, .int .i64 ra] 75))
      have HRA := hideC ((Below.refl wr.heap.size wr).alloc (Nat.le_refl _) (.cells #[.int .i64 rp, .string rn, .int .i64 ra] 75))
      have BRA := hideC (B.new wr #[.int .i64 rp, .string rn, .int .i64 ra] 75)
      have HT2 := hideC (HTG'.out rn)
      cases e : LM.tgtN l og rn with
      | none =>
        have HRN := hideC (HS0.out e)
        rw [e] at HT2
        simp only [optV, Option.getD_none, Option.isSome_none] at HT2
        clear e HS0 HS1 hb
        subst har
        go_wp2_with (go_at_call 78; refine (HT2.out _ HBA.out).mono ?_; rintro e w1 ⟨rfl, hb⟩; have HB1 := hideC (HBA.out.trans (hb.mono HBA.out.size)); clear hb)
        go_ret2
        show OutPt R w _ _
        rw [HRN.out]
        exact ⟨HB1.out, rfl⟩
      | some t =>
        have HPS := hideC (HS1.out t e)
        rw [e] at HT2
        simp only [optV, Option.getD_some, Option.isSome_some] at HT2
        have HA2 := hideC (HAD'.out rp hrb.1 (by omega))
        have HPP : Hid (LM.ptOf og ⟨rp, rn, ra⟩ t = ⟨LM.addrO og rp, ⟨(Lib.leBytes 8 (CM.low (t + ra))).toArray⟩⟩) := rfl
        obtain ⟨a8, ha8⟩ : ∃ a8, a8 = LM.addrO og rp := ⟨_, rfl⟩
        obtain ⟨sb, hsb⟩ : ∃ sb : ByteArray, sb = ⟨(Lib.leBytes 8 (CM.low (t + ra))).toArray⟩ := ⟨_, rfl⟩
        have HPU : Hid (∀ n, CM.low n = CM.low (t + ra) → ∀ V, Calls Try.prog 79 #[.int .i64 n, .int .i64 8] V fun e w' => e = .returned (.tuple #[.string sb, .int .i64 0]) ∧ Below V.heap.size V w') := fun n hn V => by
          have h := CW.put_yes n 8 V (by decide) (by decide)
          rw [hn, ← hsb] at h
          exact h
        rw [← ha8] at HA2 HPP
        rw [← hsb] at HPP
        rw [HPP.out] at HPS
        clear e HS0 HS1 HPP ha8 hsb hb
        subst har
        go_wp2_with (first
          | (go_at_call 78; refine (HT2.out _ HBA.out).mono ?_; rintro e w1 ⟨rfl, hb⟩; have HB1 := hideC (HBA.out.trans (hb.mono HBA.out.size)); have HW1 := hideC (HRA.out.trans (hb.mono HRA.out.size)); have BR1 := hideC (B.below BRA.out hb (B.isLt BRA.out)); have z0 := B.cell BR1.out 0 rfl; have z2 := B.cell BR1.out 2 rfl; clear hb)
          | (go_at_call 79; refine (HPU.out _ (by first | rfl | exact LM.low_wrap _) _).mono ?_; rintro e w2 ⟨rfl, hb⟩; have HB2 := hideC (HB1.out.trans (hb.mono HB1.out.size)); have HW2 := hideC (HW1.out.trans (hb.mono HW1.out.size)); have BR2 := hideC (B.below BR1.out hb (B.isLt BR1.out)); have v0 := B.cell BR2.out 0 rfl; have BX2 := hideC (B.below BXr.out HW2.out hb0); have q0 := B.cell BX2.out 0 rfl; have q1 := B.cell BX2.out 1 rfl; have q2 := B.cell BX2.out 2 rfl; have q3 := B.cell BX2.out 3 rfl; have q4 := B.cell BX2.out 4 rfl; have q5 := B.cell BX2.out 5 rfl; have q6 := B.cell BX2.out 6 rfl; clear hb)
          | (go_at_call 23; refine (HA2.out _).mono ?_; rintro e w3 ⟨rfl, hb⟩; have HB3 := hideC (HB2.out.trans (hb.mono HB2.out.size)); have HW3 := hideC (HW2.out.trans (hb.mono HW2.out.size)); have BX3 := hideC (B.below BXr.out HW3.out hb0); have HOW3 := hideC ((row_grown HOW.out HW3.out).alloc (.cells #[.int .i64 a8, .string sb] 134)); have hrow3 := HOW3.out.lt; have HN3 := hideC (B.new w3 #[.int .i64 a8, .string sb] 134); clear hb)
          | (at_builtin; refine wpList_append_lies _ rfl _ _ 106 rfl (w.heap.size + 1) 134 i0 (.agg #[.int .i64 0, .string ⟨#[]⟩]) 2 24 Try.underlying106 hin hz0 hz1 hz2 rfl (by decide) _ _ _ rfl HOW3.out ⟨w3.heap.size, 0, none⟩ 1 1 [.int .i64 a8, .string sb] rfl rfl (B.news HN3.out) (by intro u hu; simp at hu; rcases hu with rfl | rfl <;> rfl) (by decide) (by unfold maxLen; omega) (by omega) (by have := B.isLt BX3.out; simp; omega) (w3.heap.size + 1) (by simp) ?_; intro gg capg w4 hown4 hgrow hatt hlt4; have HOW4 := hideC hown4; have HB4 := hideC ((HB3.out.alloc HB3.out.size (.cells #[.int .i64 a8, .string sb] 134)).grown hgrow (by have := HB3.out.size; simp; omega) (fun q hq => by have := hrow3 _ hq; omega)); have BX4 := hideC (B.grown (B.alloc BX3.out (.cells #[.int .i64 a8, .string sb] 134)) hgrow (fun e => by have := hrow3 _ e.symm; omega)); clear hown4 hgrow hatt))
        go_roundw
        case rel => exact ⟨k + 1, ps ++ [⟨a8, sb⟩], by omega, by go_num, HPS.out, by rw [List.length_append, List.flatMap_append]; exact HOW4.out, HB4.out, BX4.out⟩
        case measure => simp [intOf]; omega
    · obtain rfl : k = L.length := by omega
      have HE : Hid (R = some ps) := by rw [HR.out]; exact HPT.out
      clear hpt hown hb hbx
      go_wp2
      go_ret2
      show OutPt R w _ _
      rw [HE.out]
      exact ⟨HBr.out, _, rfl, row_mono HOW.out (by omega)⟩
end Go.Proofs.Yteieplodndfbhaa.LW
/- The sheets of objects; plain Lean. -/
namespace Go.Proofs.Yteieplodndfbhaa.LM
open Go.RowKit
set_option linter.unusedVariables false
set_option maxRecDepth 100000

/-- a sheet without the places of its fixes -/
structure Sp where
  page : Int
  data : ByteArray
  fixes : List Fx
def plain (s : Sh) : Sp := ⟨s.page, s.data, s.fixes⟩
def pgN (o : Ob) (ps : List Pt) (s : M.Sg) (m : Nat) : Sp := ⟨o.base + s.page + (m : Int), pageN s m, fixesN (o.base + s.page + (m : Int)) ps⟩
def pgsTo (o : Ob) (ps : List Pt) (s : M.Sg) (n : Nat) : List Sp := (List.range n).map (pgN o ps s)
def sgsTo (o : Ob) (ps : List Pt) : Nat → List Sp
  | 0 => []
  | k + 1 => sgsTo o ps k ++ pgsTo o ps (M.sgAt o.i.segs k) (M.sgAt o.i.segs k).pages.toNat
def obsTo (l : List Ob) : Nat → Option (List Sp)
  | 0 => some []
  | k + 1 => match obsTo l k with
    | none => none
    | some E => match patN l (obAt l k) with
      | none => none
      | some ps => some (E ++ sgsTo (obAt l k) ps (obAt l k).i.segs.length)
def sheetsN (l : List Ob) : Option (List Sp) := obsTo l l.length
theorem pgsTo_succ (o : Ob) (ps : List Pt) (s : M.Sg) (n : Nat) : pgsTo o ps s (n + 1) = pgsTo o ps s n ++ [pgN o ps s n] := by
  unfold pgsTo
  rw [List.range_succ, List.map_append]
  rfl
theorem obsTo_none {l : List Ob} {k : Nat} (h : obsTo l k = none) : ∀ n, k ≤ n → obsTo l n = none
  | 0, hn => by obtain rfl : k = 0 := by omega
                exact h
  | n + 1, hn => by
    by_cases e : k = n + 1
    · subst e; exact h
    · simp only [obsTo]
      rw [obsTo_none h n (by omega)]
theorem pat_fit {l : List Ob} {o : Ob} (hc : M.chkN o.i = 0) (h0 : 1 ≤ o.base) (h1 : o.base ≤ 2000) : ∀ (k : Nat) (ps : List Pt), k ≤ o.i.rels.length → patTo l o k = some ps → ∀ j, j < ps.length → FitP (ptAt ps j)
  | 0, ps, _, h, j, hj => by simp only [patTo] at h; injection h with h; subst h; simp at hj
  | k + 1, ps, hk, h, j, hj => by
    simp only [patTo] at h
    cases e : patTo l o k with
    | none => rw [e] at h; cases h
    | some qs =>
      rw [e] at h
      simp only at h
      cases g : tgtN l o (M.rlAt o.i.rels k).name with
      | none => rw [g] at h; cases h
      | some t =>
        rw [g] at h
        simp only at h
        injection h with h
        subst h
        rw [List.length_append] at hj
        by_cases hjq : j < qs.length
        · have := pat_fit hc h0 h1 k qs (by omega) e j hjq
          unfold ptAt at this ⊢
          rw [List.getD_eq_getElem?_getD, List.getElem?_append_left hjq, ← List.getD_eq_getElem?_getD]
          exact this
        · have hje : j = qs.length := by simp at hj; omega
          subst hje
          unfold ptAt
          rw [List.getD_eq_getElem?_getD, List.getElem?_append_right (Nat.le_refl _), Nat.sub_self]
          have hb := rel_bounds hc k (by omega)
          refine ⟨?_, ?_, ?_⟩
          · show 0 ≤ o.base * 16 + (M.rlAt o.i.rels k).pos
            omega
          · show o.base * 16 + (M.rlAt o.i.rels k).pos ≤ 1000000
            omega
          · show (⟨(Lib.leBytes 8 (CM.low (t + (M.rlAt o.i.rels k).add))).toArray⟩ : ByteArray).size = 8
            rw [Lib.size_eq]
            simp [Lib.leBytes]
/-- fixes that lie in another block than rb -/
def HasFN (rb : Option Nat) (w : World) (ao : Option Addr) (l : List Fx) : Prop := 0 < l.length → ∃ b off, ao = some ⟨b, off, none⟩ ∧ b < w.heap.size ∧ some b ≠ rb ∧ LieF w b off l
theorem HasFN.has {rb : Option Nat} {w : World} {ao : Option Addr} {l : List Fx} (h : HasFN rb w ao l) : HasF w ao l := fun hl => by
  obtain ⟨b, off, h1, h2, _, h3⟩ := h hl
  exact ⟨b, off, h1, h2, h3⟩
theorem HasFN.below {rb : Option Nat} {w w' : World} {ao : Option Addr} {l : List Fx} (h : HasFN rb w ao l) (hb : Below w.heap.size w w') : HasFN rb w' ao l := fun hl => by
  obtain ⟨b, off, h1, h2, h3, h4⟩ := h hl
  exact ⟨b, off, h1, Nat.lt_of_lt_of_le h2 hb.size, h3, lieF hb h2 h4⟩
theorem lieF_block {w w' : World} {b off : Nat} {l : List Fx} (h : LieF w b off l) (hb : w'.heap[b]? = w.heap[b]?) : LieF w' b off l := fun i hi => by
  obtain ⟨c0, c1⟩ := h i hi
  exact ⟨(World.cell?_of_block hb).trans c0, (World.cell?_of_block hb).trans c1⟩
theorem HasFN.grown {rb : Option Nat} {w w' : World} {ao : Option Addr} {l : List Fx} {g : Nat} (h : HasFN rb w ao l) (hg : w.grownBy w' rb) (hs : w.heap.size ≤ w'.heap.size) (hat : rb = some g ∨ g = w.heap.size) : HasFN (some g) w' ao l := fun hl => by
  obtain ⟨b, off, h1, h2, h3, h4⟩ := h hl
  refine ⟨b, off, h1, Nat.lt_of_lt_of_le h2 hs, fun e => ?_, lieF_block h4 (hg.block b h2 h3)⟩
  injection e with e
  rcases hat with hat | hat
  · exact h3 (by rw [hat, e])
  · omega
def AllF (rb : Option Nat) (w : World) (hs : List Sh) : Prop := ∀ k, k < hs.length → HasFN rb w (shAt hs k).ao (shAt hs k).fixes
def cellH (s : Sh) : List Value := [.int .i64 s.page, .string s.data, .slice s.ao s.fixes.length s.cap]
theorem shAt_left (l : List Sh) (x : Sh) (k : Nat) (h : k < l.length) : shAt (l ++ [x]) k = shAt l k := by
  unfold shAt
  rw [List.getD_eq_getElem?_getD, List.getElem?_append_left h, ← List.getD_eq_getElem?_getD]
theorem shAt_last (l : List Sh) (x : Sh) : shAt (l ++ [x]) l.length = x := by
  unfold shAt
  rw [List.getD_eq_getElem?_getD, List.getElem?_append_right (Nat.le_refl _)]
  simp
end Go.Proofs.Yteieplodndfbhaa.LM
/- The linker: the sheets of all objects. -/
namespace Go.Proofs.Yteieplodndfbhaa.LW
open Go.RowKit
open Go.Proofs.Yteieplodndfbhaa.W (hideC)
set_option linter.unusedVariables false
set_option maxRecDepth 100000

theorem infoSh : (Try.prog.info? 43).map (fun i => (i.zero, i.size, i.bytes)) = some (some (.agg #[.int .i64 0, .string ⟨#[]⟩, .slice none 0 0]), 3, 48) := by kernel_rfl
/-- the sheets so far, in a row of the call's own -/
structure Rs (lo : Nat) (w : World) (v : Value) (hs : List LM.Sh) : Prop where
  row : w.ownsRow lo 43 3 v hs.length (hs.flatMap LM.cellH)
  fix : LM.AllF v.ownBlock w hs
theorem Rs.below {lo : Nat} {w w' : World} {v : Value} {hs : List LM.Sh} (h : Rs lo w v hs) (hb : Below w.heap.size w w') : Rs lo w' v hs := ⟨row_grown h.row hb, fun k hk => (h.fix k hk).below hb⟩
theorem Rs.nil (lo : Nat) (w : World) : Rs lo w (.slice none 0 0) [] := ⟨World.ownsRow_nil _ _ _ _, fun k hk => by simp at hk⟩
theorem Rs.has {lo : Nat} {w : World} {v : Value} {hs : List LM.Sh} (h : Rs lo w v hs) : ∃ ao cap, v = .slice ao hs.length cap ∧ LM.HasH w ao hs ∧ hs.length ≤ cap := by
  have hr := h.row
  rcases hr.2 with ⟨hv, h0⟩ | ⟨g, cap, cur, hv, hbg, hg, hnc, hcm, hcs, htake⟩
  · exact ⟨none, 0, by rw [hv, h0], fun hl => by omega, by omega⟩
  · rw [hv] at hr
    refine ⟨some ⟨g, 0, none⟩, cap, hv, fun _ => ⟨g, 0, rfl, B.isLt hg, fun k hk => ?_⟩, hnc⟩
    rw [Nat.zero_add]
    have hh : ∀ j, j < 3 → w.cell? ⟨g, k * 3 + j, none⟩ = (LM.cellH (LM.shAt hs k))[j]? := fun j hj => (hr.cellAt _ (by omega)).trans (flat_get LM.cellH 3 (fun _ => rfl) LM.sh0 hs k j hk hj)
    exact ⟨hh 0 (by omega), hh 1 (by omega), hh 2 (by omega), (h.fix k hk).has⟩
theorem row_fx {w : World} {base : Nat} {v : Value} {l : List LM.Fx} (h : w.ownsRow base 89 2 v l.length (l.flatMap LM.cellF)) (rb : Option Nat) (hrb : ∀ q, rb = some q → q < base) : ∃ ao cap, v = .slice ao l.length cap ∧ LM.HasFN rb w ao l := by
  rcases h.2 with ⟨hv, h0⟩ | ⟨g, cap, cur, hv, hbg, hg, hnc, hcm, hcs, htake⟩
  · exact ⟨none, 0, by rw [hv, h0], fun hl => by omega⟩
  · subst hv
    refine ⟨some ⟨g, 0, none⟩, cap, rfl, fun hl => ⟨g, 0, rfl, B.isLt hg, fun e => by have := hrb g e.symm; omega, fun k hk => ?_⟩⟩
    rw [Nat.zero_add]
    have hh : ∀ j, j < 2 → w.cell? ⟨g, k * 2 + j, none⟩ = (LM.cellF (LM.fxAt l k))[j]? := fun j hj => (h.cellAt _ (by omega)).trans (flat_get LM.cellF 2 (fun _ => rfl) LM.fx0 l k j hk hj)
    exact ⟨hh 0 (by omega), hh 1 (by omega)⟩
/-- one sheet more -/
theorem Rs.more {lo : Nat} {w w' : World} {v : Value} {hs : List LM.Sh} {x : LM.Sh} {g cap : Nat} (h : LM.AllF v.ownBlock w hs) (hx : LM.HasFN v.ownBlock w x.ao x.fixes) (hown : w'.ownsRow lo 43 3 (.slice (some ⟨g, 0, none⟩) (hs.length + 1) cap) (hs.length + 1) (hs.flatMap LM.cellH ++ LM.cellH x)) (hg : w.grownBy w' v.ownBlock) (hs' : w.heap.size ≤ w'.heap.size) (hat : v.ownBlock = some g ∨ g = w.heap.size) :
    Rs lo w' (.slice (some ⟨g, 0, none⟩) (hs.length + 1) cap) (hs ++ [x]) := by
  refine ⟨by rw [List.length_append, List.flatMap_append]; simpa using hown, fun k hk => ?_⟩
  have e : (Value.slice (some ⟨g, 0, none⟩) (hs.length + 1) cap).ownBlock = some g := rfl
  rw [e]
  rw [List.length_append] at hk
  by_cases hkl : k < hs.length
  · rw [LM.shAt_left hs x k hkl]
    exact (h k hkl).grown hg hs' hat
  · obtain rfl : k = hs.length := by simp at hk; omega
    rw [LM.shAt_last]
    exact hx.grown hg hs' hat
theorem row_pt {w : World} {base : Nat} {v : Value} {l : List LM.Pt} (h : w.ownsRow base 134 2 v l.length (l.flatMap LM.cellP)) : ∃ ao cap, v = .slice ao l.length cap ∧ LM.HasP w ao l := by
  rcases h.2 with ⟨hv, h0⟩ | ⟨g, cap, cur, hv, hbg, hg, hnc, hcm, hcs, htake⟩
  · exact ⟨none, 0, by rw [hv, h0], fun hl => by omega⟩
  · subst hv
    refine ⟨some ⟨g, 0, none⟩, cap, rfl, fun hl => ⟨g, 0, rfl, B.isLt hg, fun k hk => ?_⟩⟩
    rw [Nat.zero_add]
    have hh : ∀ j, j < 2 → w.cell? ⟨g, k * 2 + j, none⟩ = (LM.cellP (LM.ptAt l k))[j]? := fun j hj => (h.cellAt _ (by omega)).trans (flat_get LM.cellP 2 (fun _ => rfl) LM.pt0 l k j hk hj)
    exact ⟨hh 0 (by omega), hh 1 (by omega)⟩
/-- how sheetsOf ends -/
def OutSh (R : Option (List LM.Sp)) (w : World) (e : Ending) (w' : World) : Prop := Below w.heap.size w w' ∧ match R with
  | none => e = .returned (.tuple #[.slice none 0 0, .bool false])
  | some E => ∃ (hs : List LM.Sh) (ao : Option Addr) (cap : Nat), hs.map LM.plain = E ∧ e = .returned (.tuple #[.slice ao hs.length cap, .bool true]) ∧ LM.HasH w' ao hs ∧ hs.length ≤ cap
end Go.Proofs.Yteieplodndfbhaa.LW
