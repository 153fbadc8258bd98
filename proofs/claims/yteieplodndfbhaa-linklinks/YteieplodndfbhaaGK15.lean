import Derived.Test.YteieplodndfbhaaGK14
import Derived.Test.YteieplodndfbhaaGK07
import Derived.Deep.RegionHeld3
import Derived.Deep.Upon
import Derived.Test.YteieplodndfbhaaGK02
import Derived.Test.YteieplodndfbhaaGK09
/- The linker: the areas of all objects, the walk. -/
namespace Go.Proofs.Yteieplodndfbhaa.LW
open Go.RowKit
open Go.Proofs.Yteieplodndfbhaa.W (hideC)
set_option linter.unusedVariables false
set_option maxRecDepth 100000

theorem own_below {lo : Nat} {w w' : World} {v : Value} {l : List AM.Ar} (h : AW.Own lo w v l) (hb : Below w.heap.size w w') : AW.Own lo w' v l := row_grown h hb
theorem own_slice {lo : Nat} {w : World} {v : Value} {l : List AM.Ar} (h : AW.Own lo w v l) : ∃ ao cap, v = .slice ao l.length cap ∧ (0 < l.length → ∃ g, ao = some ⟨g, 0, none⟩) := by
  rcases h.2 with ⟨hv, h0⟩ | ⟨g, cap, cur, hv, _⟩
  · exact ⟨none, 0, by rw [hv, h0], fun hl => by omega⟩
  · exact ⟨_, cap, hv, fun _ => ⟨g, rfl⟩⟩

set_option maxHeartbeats 6000000 in
theorem areasOf_any (l : List LM.Ob) (ao : Option Addr) (cap : Nat) (w : World) (h : Oi l ao w) (hl7 : l.length ≤ 7) :
    Calls Try.prog 22 #[.slice ao l.length cap] w fun e w' => ∃ r, e = .returned r ∧ AW.Own w.heap.size w' r (LM.areasN l) ∧ Below w.heap.size w w' := by
  have HO := hideC h
  clear h
  go_enter Try.func22, Try.ntmps22
  go_wp2
  go_loopw [11, 3] (fun i v wr => ∃ (a : Nat), a ≤ l.length ∧ i = .int .i64 a ∧ AW.Own w.heap.size wr v (LM.aob l a) ∧ Below w.heap.size w wr) (fun i _ _ => l.length - (intOf i).toNat)
  case atStart => exact ⟨0, by omega, rfl, AW.Own.nil _ _, Below.refl _ _⟩
  case round =>
    obtain ⟨a, hal, rfl, hown, hb⟩ := hrel
    have HOW := hideC hown
    have HBr := hideC hb
    by_cases hlt : a < l.length
    · have HOr := hideC (HO.out.below hb)
      obtain ⟨b, off, hao, hbl, hlie⟩ := HOr.out.has (by omega)
      obtain ⟨⟨c0, c1, c2, c3, c4, c5, c6⟩, him⟩ := hlie a hlt
      have hbs := HO.out.base a hlt
      have hck := HO.out.chk a hlt
      obtain ⟨b2, off2, hao2, hbl2, hlie2⟩ := HO.out.has (by omega)
      have him2 := (hlie2 a hlt).2
      have HNX : Hid (LM.aob l (a + 1) = LM.asg (LM.obAt l a) (LM.aob l a) (LM.obAt l a).i.segs.length) := rfl
      obtain ⟨o, ho⟩ : ∃ o, o = LM.obAt l a := ⟨_, rfl⟩
      rw [← ho] at c0 c1 c2 c3 c4 c5 c6 him2 hbs hck HNX
      have HFA := hideC (LM.fit_aob l a)
      obtain ⟨L, hL⟩ : ∃ L, L = LM.aob l a := ⟨_, rfl⟩
      rw [← hL] at HOW HNX HFA
      have hcn := LM.counts_of hck
      have HSB := hideC (LM.seg_bounds hck)
      obtain ⟨bs, offs, hag, hbls, hlg⟩ := him2.segs (by omega)
      have HLG := hideC hlg
      rw [hag] at c2
      clear ho hL hlie hb hown him hlg hag him2 hlie2 hao2 hbl2 hck
      subst hao
      have HBA := hideC (HBr.out.alloc HBr.out.size (.cells #[.string o.i.name, .slice o.a.an o.i.needs.length o.a.cn, .slice (some ⟨bs, offs, none⟩) o.i.segs.length o.a.cg, .slice o.a.ay o.i.syms.length o.a.cy, .slice o.a.ar o.i.rels.length o.a.cr, .int .i64 o.i.entry, .int .i64 o.base] 59))
      have HRA := hideC ((Below.refl wr.heap.size wr).alloc (Nat.le_refl _) (.cells #[.string o.i.name, .slice o.a.an o.i.needs.length o.a.cn, .slice (some ⟨bs, offs, none⟩) o.i.segs.length o.a.cg, .slice o.a.ay o.i.syms.length o.a.cy, .slice o.a.ar o.i.rels.length o.a.cr, .int .i64 o.i.entry, .int .i64 o.base] 59))
      have BO := hideC (B.new wr #[.string o.i.name, .slice o.a.an o.i.needs.length o.a.cn, .slice (some ⟨bs, offs, none⟩) o.i.segs.length o.a.cg, .slice o.a.ay o.i.syms.length o.a.cy, .slice o.a.ar o.i.rels.length o.a.cr, .int .i64 o.i.entry, .int .i64 o.base] 59)
      have HOA := hideC (own_below HOW.out HRA.out)
      go_wp2
      obtain ⟨W1, hW1⟩ : ∃ W1, W1 = wr.alloc (.cells #[.string o.i.name, .slice o.a.an o.i.needs.length o.a.cn, .slice (some ⟨bs, offs, none⟩) o.i.segs.length o.a.cg, .slice o.a.ay o.i.syms.length o.a.cy, .slice o.a.ar o.i.rels.length o.a.cr, .int .i64 o.i.entry, .int .i64 o.base] 59) := ⟨_, rfl⟩
      rw [← hW1] at HBA HRA BO HOA
      rw [← hW1]
      obtain ⟨ob, hob⟩ : ∃ ob, ob = wr.heap.size := ⟨_, rfl⟩
      rw [← hob] at BO
      rw [← hob]
      clear hW1 hob HRA HOW HBr HOr c0 c1 c2 c3 c4 c5 c6 hbl
      go_loopw [19, 3] (fun i v wm => ∃ (k : Nat), k ≤ o.i.segs.length ∧ i = .int .i64 k ∧ AW.Own w.heap.size wm v (LM.asg o L k) ∧ Below w.heap.size w wm ∧ Below W1.heap.size W1 wm) (fun i _ _ => o.i.segs.length - (intOf i).toNat)
      case atStart => exact ⟨0, by omega, rfl, HOA.out, HBA.out, Below.refl _ _⟩
      case round =>
        obtain ⟨k, hk, rfl, hown, hb, hb1⟩ := hrel
        have HOW := hideC hown
        have HBm := hideC hb
        have HB1 := hideC hb1
        clear HOA HBA
        by_cases hlk : k < o.i.segs.length
        · obtain ⟨c0, c1, c2, c3, c4⟩ := M.lieG hb hbls HLG.out k hlk
          have hsb := HSB.out k hlk
          have hbls' : bs < wr.heap.size := Nat.lt_of_lt_of_le hbls hb.size
          have HFK := hideC (LM.fit_asg o L HFA.out k)
          have HKX : Hid (LM.asg o L (k + 1) = LM.mapSeg o (LM.asg o L k) (M.sgAt o.i.segs k)) := rfl
          obtain ⟨s, hse⟩ : ∃ s, s = M.sgAt o.i.segs k := ⟨_, rfl⟩
          rw [← hse] at c0 c1 c2 c3 c4 hsb HKX
          clear hse
          obtain ⟨L2, hL2⟩ : ∃ L2, L2 = LM.asg o L k := ⟨_, rfl⟩
          rw [← hL2] at HOW HFK HKX
          clear hL2
          obtain ⟨pg, pn, dt, wb, ex⟩ := s
          simp only at c0 c1 c2 c3 c4 hsb
          have HBA := hideC (HBm.out.alloc HBm.out.size (.cells #[.int .i64 pg, .int .i64 pn, .string dt, .bool wb, .bool ex] 79))
          have HRA := hideC ((Below.refl wr.heap.size wr).alloc (Nat.le_refl _) (.cells #[.int .i64 pg, .int .i64 pn, .string dt, .bool wb, .bool ex] 79))
          have BS := hideC (B.new wr #[.int .i64 pg, .int .i64 pn, .string dt, .bool wb, .bool ex] 79)
          have BOA := hideC (B.alloc (B.below BO.out HB1.out (B.isLt BO.out)) (.cells #[.int .i64 pg, .int .i64 pn, .string dt, .bool wb, .bool ex] 79))
          have HB1A := hideC (HB1.out.alloc HB1.out.size (.cells #[.int .i64 pg, .int .i64 pn, .string dt, .bool wb, .bool ex] 79))
          have HOWA := hideC (own_below HOW.out HRA.out)
          clear hown hb hb1
          go_wp2
          obtain ⟨WA, hWA⟩ : ∃ WA, WA = wr.alloc (.cells #[.int .i64 pg, .int .i64 pn, .string dt, .bool wb, .bool ex] 79) := ⟨_, rfl⟩
          rw [← hWA] at HBA BS BOA HB1A HOWA
          rw [← hWA]
          obtain ⟨sb, hsbe⟩ : ∃ sb, sb = wr.heap.size := ⟨_, rfl⟩
          rw [← hsbe] at BS
          rw [← hsbe]
          clear hWA hsbe HRA HOW HBm HB1 c0 c1 c2 c3 c4 hbls'
          have HS : Hid (∀ V, Below WA.heap.size WA V → V.cell? ⟨ob, 6, none⟩ = some (.int .i64 o.base) ∧ V.cell? ⟨sb, 0, none⟩ = some (.int .i64 pg) ∧ V.cell? ⟨sb, 1, none⟩ = some (.int .i64 pn) ∧ V.cell? ⟨sb, 2, none⟩ = some (.string dt) ∧ V.cell? ⟨sb, 3, none⟩ = some (.bool wb) ∧ V.cell? ⟨sb, 4, none⟩ = some (.bool ex)) := fun V hb => by
            have h1 := B.below BOA.out hb (B.isLt BOA.out)
            have h2 := B.below BS.out hb (B.isLt BS.out)
            exact ⟨B.cell h1 6 rfl, B.cell h2 0 rfl, B.cell h2 1 rfl, B.cell h2 2 rfl, B.cell h2 3 rfl, B.cell h2 4 rfl⟩
          have HPR : Hid (∀ V, Calls Try.prog 57 #[.agg #[.int .i64 pg, .int .i64 pn, .string dt, .bool wb, .bool ex]] V fun e w' => e = .returned (.int .i64 (LM.protN ⟨pg, pn, dt, wb, ex⟩)) ∧ Below V.heap.size V w') := fun V => prot_any ⟨pg, pn, dt, wb, ex⟩ V
          have HMP : Hid (∀ V, Below WA.heap.size WA V → Calls Try.prog 56 #[u3, .int .i64 (o.base + pg), .int .i64 pn, .int .i64 (LM.protN ⟨pg, pn, dt, wb, ex⟩)] V fun e w' => ∃ r, e = .returned (.tuple #[r, .int .i64 (AW.mapN L2 (o.base + pg) pn (LM.protN ⟨pg, pn, dt, wb, ex⟩)).2]) ∧ AW.Own V.heap.size w' r (AW.mapN L2 (o.base + pg) pn (LM.protN ⟨pg, pn, dt, wb, ex⟩)).1 ∧ Below V.heap.size V w') := fun V hb => AW.map_own L2 u3 (o.base + pg) pn _ V (own_below HOWA.out hb).has HFK.out (by unfold AW.I64; omega) (by unfold AW.I64; omega)
          have HMS : Hid (LM.mapSeg o L2 ⟨pg, pn, dt, wb, ex⟩ = (AW.mapN L2 (o.base + pg) pn (LM.protN ⟨pg, pn, dt, wb, ex⟩)).1) := rfl
          obtain ⟨PR, hPR⟩ : ∃ PR, PR = LM.protN ⟨pg, pn, dt, wb, ex⟩ := ⟨_, rfl⟩
          rw [← hPR] at HPR HMP HMS
          obtain ⟨MN, hMN⟩ : ∃ MN, MN = AW.mapN L2 (o.base + pg) pn PR := ⟨_, rfl⟩
          rw [← hMN] at HMP HMS
          clear hPR hMN
          have hwr : IntKind.i64.wrap (o.base + pg) = o.base + pg := IntWalk.i64_in _ (by omega)
          have HK0 := hideC (Below.refl WA.heap.size WA).drew
          have HS0 := hideC (HS.out _ HK0.out)
          go_region_held3 (fun V => V.cell? ⟨ob, 6, none⟩ = some (.int .i64 o.base) ∧ V.cell? ⟨sb, 0, none⟩ = some (.int .i64 pg) ∧ V.cell? ⟨sb, 1, none⟩ = some (.int .i64 pn) ∧ V.cell? ⟨sb, 2, none⟩ = some (.string dt) ∧ V.cell? ⟨sb, 3, none⟩ = some (.bool wb) ∧ V.cell? ⟨sb, 4, none⟩ = some (.bool ex)) (first | exact HS3.out | exact HS2.out | exact HS0.out)
            (first
              | (go_at_call 57; refine (HPR.out _).mono ?_; rintro e w2 ⟨rfl, hb⟩; have HK2 := hideC (HK0.out.trans (hb.mono HK0.out.size)); have HS2 := hideC (HS.out _ HK2.out); clear hb)
              | (go_at_call 56; refine (HMP.out _ HK2.out).mono ?_; rintro e w3 ⟨v8, rfl, hrw, hb⟩; have HK3 := hideC (HK2.out.trans (hb.mono HK2.out.size)); have HS3 := hideC (HS.out _ HK3.out); have HR3 := hideC hrw; clear hb hrw))
          go_wp2
          go_roundw
          case rel => exact ⟨k + 1, by omega, by go_num, by rw [HKX.out, HMS.out]; exact HR3.out.mono (Nat.le_trans HBA.out.size HK2.out.size), HBA.out.trans (HK3.out.mono HBA.out.size), HB1A.out.trans (HK3.out.mono HB1A.out.size)⟩
          case measure => simp [intOf]; omega
        · obtain rfl : k = o.i.segs.length := by omega
          clear hown hb hb1
          go_wp2
          go_roundw
          case rel => exact ⟨a + 1, by omega, by go_num, by rw [HNX.out]; exact HOW.out, HBm.out⟩
          case measure => simp [intOf]; omega
    · obtain rfl : a = l.length := by omega
      have HAN : Hid (LM.areasN l = LM.clrTo (LM.aob l l.length) (LM.aob l l.length).length) := (LM.clrTo_all _).symm
      have HFA := hideC (LM.fit_aob l l.length)
      obtain ⟨L, hL⟩ : ∃ L, L = LM.aob l l.length := ⟨_, rfl⟩
      rw [← hL] at HOW HAN HFA
      have hll := HFA.out.2
      obtain ⟨ar, cr, hv, hg⟩ := own_slice HOW.out
      subst hv
      have HG := hideC hg
      clear hown hb hL hg HFA
      go_wp2
      go_loopw [41] (fun i wr => ∃ (k : Nat), k ≤ L.length ∧ i = .int .i64 k ∧ AW.Own w.heap.size wr (.slice ar L.length cr) (LM.clrTo L k) ∧ Below w.heap.size w wr) (fun i _ => L.length - (intOf i).toNat)
      case atStart => exact ⟨0, by omega, rfl, HOW.out, HBr.out⟩
      case round =>
        obtain ⟨k, hk, rfl, hown, hb⟩ := hrel
        have HOW2 := hideC hown
        have HBr2 := hideC hb
        clear HOW HBr hown hb
        by_cases hlt : k < L.length
        · obtain ⟨g, hg⟩ := HG.out (by omega)
          subst hg
          have hln := LM.clrTo_length L k
          have HO4 : Hid (wr.ownsRow w.heap.size 99 4 (.slice (some ⟨g, 0, none⟩) L.length cr) L.length (AM.areaCells (LM.clrTo L k))) := by
            have h := HOW2.out
            unfold AW.Own at h
            rw [hln] at h
            exact h
          have HST := hideC (HO4.out.stored (k * 4 + 3) (.bool false))
          have HNX : Hid (AM.areaCells (LM.clrTo L (k + 1)) = (AM.areaCells (LM.clrTo L k)).set (k * 4 + 3) (.bool false)) := (LM.areaCells_set false (LM.clrTo L k) k (by omega)).symm
          have hlx := LM.clrTo_length L (k + 1)
          have HLX := hideC hlx
          have hgl := HO4.out.lt g rfl
          have q3 := (HO4.out.cellAt (k * 4 + 3) (by omega)).trans (AM.areaCells_get (LM.clrTo L k) k 3 (by omega) (by omega))
          have qf := HO4.out.frozenAt (k * 4 + 3)
          clear hln hlx
          go_wp2
          go_roundw
          case rel => exact ⟨k + 1, by omega, by go_num, by unfold AW.Own; rw [HLX.out, HNX.out]; exact HST.out.1, HBr2.out.setCell (by simp; omega) _⟩
          case measure => simp [intOf]; omega
        · obtain rfl : k = L.length := by omega
          go_wp2
          go_ret
          exact ⟨_, rfl, by rw [HAN.out]; exact HOW2.out, HBr2.out⟩
end Go.Proofs.Yteieplodndfbhaa.LW
/- The linker: main and the libraries in one row. -/
namespace Go.Proofs.Yteieplodndfbhaa.LW
open Go.RowKit
open Go.Proofs.Yteieplodndfbhaa.W (hideC)
set_option linter.unusedVariables false
set_option maxRecDepth 100000

theorem infoIm : (Try.prog.info? 27).map (fun i => (i.zero, i.size, i.bytes)) = some (some (.agg #[.string ⟨#[]⟩, .slice none 0 0, .slice none 0 0, .slice none 0 0, .slice none 0 0, .int .i64 0]), 6, 120) := by kernel_rfl
theorem lie_news {w : World} {b off : Nat} {l : List LM.Li} (h : LM.LieI w b off l) : ∀ j u, (l.flatMap LM.cellI)[j]? = some u → w.cell? ((⟨b, off, none⟩ : Addr).add j) = some u := fun j u hj => by
  obtain ⟨k, r, hr, rfl⟩ : ∃ k r, r < 6 ∧ j = k * 6 + r := ⟨j / 6, j % 6, by omega, by omega⟩
  have hlen : ∀ l : List LM.Li, (l.flatMap LM.cellI).length = l.length * 6 := fun l => by
    induction l with
    | nil => rfl
    | cons a r ih => rw [List.flatMap_cons, List.length_append, ih, List.length_cons]; show 6 + _ = _; omega
  have hk : k < l.length := by
    obtain ⟨hlt, _⟩ := List.getElem?_eq_some_iff.1 hj
    rw [hlen] at hlt
    omega
  rw [flat_get LM.cellI 6 (fun _ => rfl) LM.li0 l k r hk hr] at hj
  obtain ⟨⟨c0, c1, c2, c3, c4, c5⟩, _⟩ := h k hk
  rw [Addr.add_lit, ← Nat.add_assoc]
  match r, hr with
  | 0, _ => exact c0.trans hj
  | 1, _ => exact c1.trans hj
  | 2, _ => exact c2.trans hj
  | 3, _ => exact c3.trans hj
  | 4, _ => exact c4.trans hj
  | 5, _ => exact c5.trans hj
theorem row_im {w : World} {base : Nat} {g cap : Nat} {l : List LM.Li} (h : w.ownsRow base 27 6 (.slice (some ⟨g, 0, none⟩) l.length cap) l.length (l.flatMap LM.cellI)) (hg : g < w.heap.size) (hi : ∀ k, k < l.length → M.HasIm w (LM.liAt l k).a (LM.liAt l k).i) :
    LM.HasI w (some ⟨g, 0, none⟩) l := fun hl => by
  refine ⟨g, 0, rfl, hg, fun k hk => ?_⟩
  rw [Nat.zero_add]
  have hh : ∀ j, j < 6 → w.cell? ⟨g, k * 6 + j, none⟩ = (LM.cellI (LM.liAt l k))[j]? := fun j hj => (h.cellAt _ (by omega)).trans (flat_get LM.cellI 6 (fun _ => rfl) LM.li0 l k j hk hj)
  exact ⟨⟨hh 0 (by omega), hh 1 (by omega), hh 2 (by omega), hh 3 (by omega), hh 4 (by omega), hh 5 (by omega)⟩, hi k hk⟩
/-- 'append([]api.Image{main}, libs...)' -/
theorem wpList_append_libs {ops : Array Oper} {rest : List Oper} {o : Oper} {a : Act} {w : World} {Q : Exit → Act → World → Prop} (hgd : o.guard = none) (s x : Operand)
    (ho : o.op = .call { callee := .builtin .append, args := #[s, x], argTypes := #[28, 28] })
    (base : Nat) (p : LM.Li) (g0 : Nat) (hs : a.eval s = .slice (some ⟨g0, 0, none⟩) 1 1) (hown : w.ownsRow base 27 6 (.slice (some ⟨g0, 0, none⟩) 1 1) 1 (LM.cellI p))
    (ao : Option Addr) (c : Nat) (libs : List LM.Li) (hx : a.eval x = .slice ao libs.length c) (hlie : LM.HasI w ao libs) (h6 : libs.length ≤ 6) (hbase : base ≤ w.heap.size)
    (h : ∀ g cap w', w'.ownsRow base 27 6 (.slice (some ⟨g, 0, none⟩) (libs.length + 1) cap) (libs.length + 1) ((p :: libs).flatMap LM.cellI) → w.grownBy w' (some g0) → g < w'.heap.size → wpList Try.prog ops Q rest (a.put o.dst (.slice (some ⟨g, 0, none⟩) (libs.length + 1) cap)) w') : wpList Try.prog ops Q (o :: rest) a w := by
  obtain ⟨i0, hin, hz0, hz1, hz2⟩ := info_parts infoIm
  by_cases h0 : 0 < libs.length
  · obtain ⟨b, off, rfl, hb, hl⟩ := hlie h0
    have hlen : ∀ l : List LM.Li, (l.flatMap LM.cellI).length = l.length * 6 := fun l => by
      induction l with
      | nil => rfl
      | cons a r ih => rw [List.flatMap_cons, List.length_append, ih, List.length_cons]; show 6 + _ = _; omega
    have hone : ∀ u ∈ libs.flatMap LM.cellI, u.oneCell' = true := fun u hu => by
      obtain ⟨y, _, hy⟩ := List.mem_flatMap.1 hu
      simp only [LM.cellI, M.cellsI] at hy
      simp at hy
      rcases hy with rfl | rfl | rfl | rfl | rfl | rfl <;> rfl
    refine wpList_append_lies w hgd s x 28 ho base 27 i0 (.agg #[.string ⟨#[]⟩, .slice none 0 0, .slice none 0 0, .slice none 0 0, .slice none 0 0, .int .i64 0]) 6 120 Try.underlying28 hin hz0 hz1 hz2 rfl (by decide) _ 1 _ hs hown ⟨b, off, none⟩ libs.length c (libs.flatMap LM.cellI) hx (hlen _) (lie_news hl) hone h0 (by unfold maxLen; omega) (by omega) hbase _ rfl ?_
    intro g cap w' h2 h3 _ h5
    have e : 1 + libs.length = libs.length + 1 := Nat.add_comm _ _
    rw [e] at h2 ⊢
    exact h g cap w' h2 h3 h5
  · have e0 : libs = [] := List.eq_nil_of_length_eq_zero (by omega)
    subst e0
    have hg0 : g0 < w.heap.size := (hown.lt g0 rfl).2
    refine wpList_plain hgd fun K hK => ?_
    have hsrc : Src Try.prog i0.size 28 (.slice ao 0 c) 0 [] w := ⟨.inl ⟨_, Try.underlying28⟩, fun w' => by simp [Builtin.lenOf], by cases ao <;> simp [Builtin.firstCells, loadCells, loadCellsFrom], by cases ao <;> simp [Builtin.firstCells, loadCells, loadCellsFrom], by simp, by simp⟩
    have hr := run_append_nothing (P := Try.prog) w 28 28 o.type 27 i0 Try.underlying28 hin (some ⟨g0, 0, none⟩) 1 1 (Nat.le_refl _) (.slice ao 0 c) hsrc
    have hx' : a.eval x = .slice ao 0 c := hx
    unfold Oper.wp execOp
    simp only [ho, resolve, invoke, builtin, Sem.run_bind, Sem.run_pure, Result.andThen_ok, List.map_toArray, List.map_cons, List.map_nil, hs, hx', hr]
    refine hK _ _ (h g0 1 w ?_ ⟨rfl, rfl, rfl, Nat.le_refl _, fun _ _ _ => rfl⟩ hg0)
    have e : ([p].flatMap LM.cellI) = LM.cellI p := by simp
    rw [e]
    exact hown
end Go.Proofs.Yteieplodndfbhaa.LW
namespace Go.Proofs.Yteieplodndfbhaa.W
open Go.RowKit
set_option linter.unusedVariables false
set_option maxRecDepth 100000

set_option maxHeartbeats 4000000 in
theorem namesFine_any (i : M.Im) (a : M.At) (w : World) (h : M.HasIm w a i) (hf : M.Fit i) : Calls Try.prog 58 #[.agg (M.cellsI a i)] w fun e w' => e = .returned (.bool (M.namesB i)) ∧ Below w.heap.size w w' := by
  obtain ⟨an, cn, ag, cg, ay, cy, ar, cr⟩ := a
  obtain ⟨nm, ns, gs, ys, rs, en⟩ := i
  obtain ⟨h1, h2, h3, h4⟩ := h
  obtain ⟨f1, f2, f3, f4, f5, f6, f7, f8, f9, f10⟩ := hf
  simp only at h1 h2 h3 h4 f1 f2 f3 f4 f5 f6 f7 f8 f9 f10
  unfold M.Short at f2 f6 f8
  simp only [M.cellsI, M.namesB]
  have H1 := hideC h1
  have H3 := hideC h3
  have H4 := hideC h4
  have F3 := hideC f3
  have F7 := hideC f7
  have F9 := hideC f9
  clear h1 h2 h3 h4 f3 f4 f5 f7 f9 f10
  have BOX := hideC (B.new w #[.string nm, .slice an ns.length cn, .slice ag gs.length cg, .slice ay ys.length cy, .slice ar rs.length cr, .int .i64 en] 27)
  have HB0 := hideC ((Below.refl w.heap.size w).alloc (Nat.le_refl _) (.cells #[.string nm, .slice an ns.length cn, .slice ag gs.length cg, .slice ay ys.length cy, .slice ar rs.length cr, .int .i64 en] 27))
  obtain ⟨X, hX⟩ : ∃ X : Array Value, X = #[.string nm, .slice an ns.length cn, .slice ag gs.length cg, .slice ay ys.length cy, .slice ar rs.length cr, .int .i64 en] := ⟨_, rfl⟩
  have HX := hideC hX
  rw [← hX] at BOX HB0
  clear hX
  cases e1 : M.nameB nm
  · go_enter Try.func58, Try.ntmps58
    go_wp2_with (go_at_call 83; refine (named_any _ _ f1).mono ?_; rintro e w' ⟨rfl, rfl⟩; rw [e1])
    go_ret
    rw [← HX.out]
    exact ⟨rfl, HB0.out⟩
  · go_enter Try.func58, Try.ntmps58
    go_wp2_with (go_at_call 83; refine (named_any _ _ f1).mono ?_; rintro e w' ⟨rfl, rfl⟩; rw [e1])
    rw [← HX.out]
    go_loopw [3] (fun i wr => ∃ k : Nat, k ≤ ns.length ∧ i = .int .i64 k ∧ (∀ j, j < k → M.nameB (M.strAt ns j) = true) ∧ wr.heap[w.heap.size]? = some (.cells X 27 (0, 0)) ∧ Below w.heap.size w wr) (fun i _ => ns.length - (intOf i).toNat)
    case atStart => exact ⟨0, by omega, rfl, fun j h => by omega, BOX.out, HB0.out⟩
    case round =>
      obtain ⟨k0, hk, rfl, hall, hbox, hb⟩ := hrel
      have HA0 := hideC hall
      have BOX0 := hideC hbox
      have HB1 := hideC hb
      have bx0 := B.cell hbox 0 (by rw [HX.out]; rfl)
      have bx1 := B.cell hbox 1 (by rw [HX.out]; rfl)
      have bx2 := B.cell hbox 2 (by rw [HX.out]; rfl)
      have bx3 := B.cell hbox 3 (by rw [HX.out]; rfl)
      have bx4 := B.cell hbox 4 (by rw [HX.out]; rfl)
      have bx5 := B.cell hbox 5 (by rw [HX.out]; rfl)
      clear hall hbox
      by_cases hlt : k0 < ns.length
      · obtain ⟨b, off, hao, hbl, hl⟩ := H1.out (by omega)
        have hli : (k0 : Int) < (ns.length : Int) := by omega
        have c0 := M.lieS hb hbl hl k0 hlt
        have fs := F3.out k0 hlt
        obtain ⟨x, hx⟩ : ∃ x, x = M.strAt ns k0 := ⟨_, rfl⟩
        rw [← hx] at c0 fs
        have HXX := hideC hx
        clear hx hb hl
        subst hao
        cases hc : M.nameB x
        · have HR : Hid ((true && (ns.all M.nameB && (ys.all (fun y => M.nameB y.name) && rs.all M.relNameB))) = false) := by
            show _ = _
            rw [M.all_false M.nameB M.nil ns k0 hlt (by show M.nameB (M.strAt ns k0) = false; rw [← HXX.out]; exact hc)]
            simp
          go_wp2_with (go_at_call 83; refine (named_any _ _ fs).mono ?_; rintro e w' ⟨rfl, rfl⟩; rw [hc])
          go_ret
          exact ⟨ret_bool HR.out.symm, HB1.out⟩
        · go_wp2_with (go_at_call 83; refine (named_any _ _ fs).mono ?_; rintro e w' ⟨rfl, rfl⟩; rw [hc])
          go_roundw
          case rel => exact ⟨k0 + 1, by omega, by go_num, fun j h => if e : j = k0 then by rw [e, ← HXX.out]; exact hc else HA0.out j (by omega), BOX0.out, HB1.out⟩
          case measure => simp [intOf]; omega
      · obtain rfl : k0 = ns.length := by omega
        clear hb
        go_wp2_with (go_at_call 83; fail)
        go_loopw [4] (fun i wr => ∃ k : Nat, k ≤ ys.length ∧ i = .int .i64 k ∧ (∀ j, j < k → M.nameB (M.syAt ys j).name = true) ∧ wr.heap[w.heap.size]? = some (.cells X 27 (0, 0)) ∧ Below w.heap.size w wr) (fun i _ => ys.length - (intOf i).toNat)
        case atStart => exact ⟨0, by omega, rfl, fun j h => by omega, BOX0.out, HB1.out⟩
        case round =>
          obtain ⟨k1, hk, rfl, hall, hbox, hb⟩ := hrel
          have HA1 := hideC hall
          have BOX1 := hideC hbox
          have HB2 := hideC hb
          have bx0 := B.cell hbox 0 (by rw [HX.out]; rfl)
          have bx1 := B.cell hbox 1 (by rw [HX.out]; rfl)
          have bx2 := B.cell hbox 2 (by rw [HX.out]; rfl)
          have bx3 := B.cell hbox 3 (by rw [HX.out]; rfl)
          have bx4 := B.cell hbox 4 (by rw [HX.out]; rfl)
          have bx5 := B.cell hbox 5 (by rw [HX.out]; rfl)
          clear hall hbox
          by_cases hlt : k1 < ys.length
          · obtain ⟨b, off, hao, hbl, hl⟩ := H3.out (by omega)
            have hli : (k1 : Int) < (ys.length : Int) := by omega
            obtain ⟨c0, c1⟩ := M.lieY hb hbl hl k1 hlt
            have fs := (F7.out k1 hlt).1
            obtain ⟨y, hx⟩ : ∃ y, y = M.syAt ys k1 := ⟨_, rfl⟩
            rw [← hx] at c0 c1 fs
            have HXX := hideC hx
            clear hx hb hl
            obtain ⟨x, xp⟩ := y
            simp only at c0 c1 fs
            subst hao
            cases hc : M.nameB x
            · have HR : Hid ((true && (ns.all M.nameB && (ys.all (fun y => M.nameB y.name) && rs.all M.relNameB))) = false) := by
                show _ = _
                rw [M.all_false (fun y => M.nameB y.name) M.sy0 ys k1 hlt (by show M.nameB (M.syAt ys k1).name = false; rw [← HXX.out]; exact hc)]
                simp
              go_wp2_with (go_at_call 83; refine (named_any _ _ fs).mono ?_; rintro e w' ⟨rfl, rfl⟩; rw [hc])
              go_ret
              exact ⟨ret_bool HR.out.symm, HB2.out⟩
            · go_wp2_with (go_at_call 83; refine (named_any _ _ fs).mono ?_; rintro e w' ⟨rfl, rfl⟩; rw [hc])
              go_roundw
              case rel => exact ⟨k1 + 1, by omega, by go_num, fun j h => if e : j = k1 then by rw [e, ← HXX.out]; exact hc else HA1.out j (by omega), BOX1.out, HB2.out⟩
              case measure => simp [intOf]; omega
          · obtain rfl : k1 = ys.length := by omega
            clear hb
            go_wp2_with (go_at_call 83; fail)
            go_loopw [5] (fun i wr => ∃ k : Nat, k ≤ rs.length ∧ i = .int .i64 k ∧ (∀ j, j < k → M.relNameB (M.rlAt rs j) = true) ∧ wr.heap[w.heap.size]? = some (.cells X 27 (0, 0)) ∧ Below w.heap.size w wr) (fun i _ => rs.length - (intOf i).toNat)
            case atStart => exact ⟨0, by omega, rfl, fun j h => by omega, BOX1.out, HB2.out⟩
            case round =>
              obtain ⟨k2, hk, rfl, hall, hbox, hb⟩ := hrel
              have HA2 := hideC hall
              have BOX2 := hideC hbox
              have HB3 := hideC hb
              have bx0 := B.cell hbox 0 (by rw [HX.out]; rfl)
              have bx1 := B.cell hbox 1 (by rw [HX.out]; rfl)
              have bx2 := B.cell hbox 2 (by rw [HX.out]; rfl)
              have bx3 := B.cell hbox 3 (by rw [HX.out]; rfl)
              have bx4 := B.cell hbox 4 (by rw [HX.out]; rfl)
              have bx5 := B.cell hbox 5 (by rw [HX.out]; rfl)
              clear hall hbox
              by_cases hlt : k2 < rs.length
              · obtain ⟨b, off, hao, hbl, hl⟩ := H4.out (by omega)
                have hli : (k2 : Int) < (rs.length : Int) := by omega
                obtain ⟨c0, c1, c2⟩ := M.lieR hb hbl hl k2 hlt
                have fs := (F9.out k2 hlt).2.1
                obtain ⟨y, hx⟩ : ∃ y, y = M.rlAt rs k2 := ⟨_, rfl⟩
                rw [← hx] at c0 c1 c2 fs
                have HXX := hideC hx
                clear hx hb hl
                obtain ⟨xp, x, xa⟩ := y
                simp only at c0 c1 c2 fs
                subst hao
                by_cases he : x.size = 0
                · have hrl : Hid (M.relNameB ⟨xp, x, xa⟩ = true) := by show _ = _; unfold M.relNameB; simp only; rw [decide_eq_true he]; rfl
                  obtain rfl : x = ⟨#[]⟩ := by cases x with | mk d => congr 1; exact Array.eq_empty_of_size_eq_zero he
                  go_wp2
                  go_roundw
                  case rel => exact ⟨k2 + 1, by omega, by go_num, fun j h => if e : j = k2 then by rw [e, ← HXX.out]; exact hrl.out else HA2.out j (by omega), BOX2.out, HB3.out⟩
                  case measure => simp [intOf]; omega
                · have hne : ¬ x.toList = [] := by rw [Lib.toList_data]; intro e; exact he (by rw [Lib.size_eq, e]; rfl)
                  have hne2 : x.toList.isEmpty = false := by cases hh : x.toList with | nil => exact absurd hh hne | cons _ _ => rfl
                  cases hc : M.nameB x
                  · have HR : Hid ((true && (ns.all M.nameB && (ys.all (fun y => M.nameB y.name) && rs.all M.relNameB))) = false) := by
                      show _ = _
                      rw [M.all_false M.relNameB M.rl0 rs k2 hlt (by show M.relNameB (M.rlAt rs k2) = false; rw [← HXX.out]; unfold M.relNameB; simp only; rw [hc, decide_eq_false he]; rfl)]
                      simp
                    go_wp2_with (go_at_call 83; refine (named_any _ _ fs).mono ?_; rintro e w' ⟨rfl, rfl⟩; rw [hc])
                    go_ret
                    exact ⟨ret_bool HR.out.symm, HB3.out⟩
                  · have hrl : Hid (M.relNameB ⟨xp, x, xa⟩ = true) := by show _ = _; unfold M.relNameB; simp only; rw [hc]; simp
                    go_wp2_with (go_at_call 83; refine (named_any _ _ fs).mono ?_; rintro e w' ⟨rfl, rfl⟩; rw [hc])
                    go_roundw
                    case rel => exact ⟨k2 + 1, by omega, by go_num, fun j h => if e : j = k2 then by rw [e, ← HXX.out]; exact hrl.out else HA2.out j (by omega), BOX2.out, HB3.out⟩
                    case measure => simp [intOf]; omega
              · obtain rfl : k2 = rs.length := by omega
                clear hb
                have HR : Hid ((true && (ns.all M.nameB && (ys.all (fun y => M.nameB y.name) && rs.all M.relNameB))) = true) := by
                  show _ = _
                  rw [M.all_true M.nameB M.nil ns (fun j hj => HA0.out j hj), M.all_true (fun y => M.nameB y.name) M.sy0 ys (fun j hj => HA1.out j hj), M.all_true M.relNameB M.rl0 rs (fun j hj => HA2.out j hj)]
                  rfl
                go_wp2
                go_ret
                exact ⟨ret_bool HR.out.symm, HB3.out⟩
end Go.Proofs.Yteieplodndfbhaa.W
namespace Go.Proofs.Yteieplodndfbhaa.W
open Go.RowKit
set_option linter.unusedVariables false
set_option maxRecDepth 100000

/-- which segment holds the address, counted from k on; -1: none -/
def ownFrom : List M.Sg → Int → Nat → Int
  | [], _, _ => -1
  | s :: r, a, k => if M.inSeg s a then (k : Int) else ownFrom r a (k + 1)
def ownN (l : List M.Sg) (a : Int) : Int := ownFrom l a 0
theorem ownFrom_none : ∀ (l : List M.Sg) (a : Int) (n : Nat), (∀ j, j < l.length → M.inSeg (M.sgAt l j) a = false) → ownFrom l a n = -1
  | [], _, _, _ => rfl
  | s :: r, a, n, h => by
    have h0 : M.inSeg s a = false := h 0 (by simp)
    unfold ownFrom
    rw [h0, if_neg (by simp)]
    exact ownFrom_none r a (n + 1) (fun j hj => h (j + 1) (by simpa using hj))
theorem ownFrom_some : ∀ (l : List M.Sg) (a : Int) (n k : Nat), k < l.length → (∀ j, j < k → M.inSeg (M.sgAt l j) a = false) → M.inSeg (M.sgAt l k) a = true → ownFrom l a n = ((n + k : Nat) : Int)
  | s :: r, a, n, 0, _, _, h => by
    have h0 : M.inSeg s a = true := h
    unfold ownFrom
    rw [h0, if_pos rfl]
    rfl
  | s :: r, a, n, k + 1, hk, hj, h => by
    have h0 : M.inSeg s a = false := hj 0 (by omega)
    unfold ownFrom
    rw [h0, if_neg (by simp), ownFrom_some r a (n + 1) k (by simpa using hk) (fun j h => hj (j + 1) (by omega)) h]
    congr 1
    omega
theorem own_none (l : List M.Sg) (a : Int) (h : ∀ j, j < l.length → M.inSeg (M.sgAt l j) a = false) : ownN l a = -1 := ownFrom_none l a 0 h
theorem own_some (l : List M.Sg) (a : Int) (k : Nat) (hk : k < l.length) (hj : ∀ j, j < k → M.inSeg (M.sgAt l j) a = false) (h : M.inSeg (M.sgAt l k) a = true) : ownN l a = (k : Int) := by
  unfold ownN
  rw [ownFrom_some l a 0 k hk hj h, Nat.zero_add]
theorem first_or (l : List M.Sg) (a : Int) : ∀ n, n ≤ l.length → (∀ j, j < n → M.inSeg (M.sgAt l j) a = false) ∨ ∃ k, k < n ∧ (∀ j, j < k → M.inSeg (M.sgAt l j) a = false) ∧ M.inSeg (M.sgAt l k) a = true
  | 0, _ => .inl fun j h => by omega
  | n + 1, hn => by
    rcases first_or l a n (by omega) with h | ⟨k, hk, h1, h2⟩
    · cases e : M.inSeg (M.sgAt l n) a
      · exact .inl fun j hj => if g : j = n then by rw [g]; exact e else h j (by omega)
      · exact .inr ⟨n, by omega, h, e⟩
    · exact .inr ⟨k, by omega, h1, h2⟩
theorem own_cases (l : List M.Sg) (a : Int) : (M.placedB l a = true ∧ ∃ k, k < l.length ∧ ownN l a = (k : Int) ∧ segOr l a = M.sgAt l k) ∨ (M.placedB l a = false ∧ ownN l a = -1) := by
  rcases first_or l a l.length (Nat.le_refl _) with h | ⟨k, hk, h1, h2⟩
  · exact .inr ⟨by unfold M.placedB; rw [segIn_none l a h]; rfl, own_none l a h⟩
  · exact .inl ⟨by unfold M.placedB; rw [segIn_some l a k hk h1 h2]; rfl, k, hk, own_some l a k hk h1 h2, by unfold segOr; rw [segIn_some l a k hk h1 h2]; rfl⟩

set_option maxHeartbeats 1500000 in
theorem owner_any (i : M.Im) (a : M.At) (w : World) (p : Int) (hp : M.I64 p) (h : M.HasIm w a i) (hf : M.Fit i) (hr : i.segs.all M.rangeB = true) : Calls Try.prog 84 #[.agg (M.cellsI a i), .int .i64 p] w fun e w' => e = .returned (.int .i64 (ownN i.segs p)) ∧ Below w.heap.size w w' := by
  obtain ⟨an, cn, ag, cg, ay, cy, ar, cr⟩ := a
  obtain ⟨nm, ns, gs, ys, rs, en⟩ := i
  obtain ⟨h1, h2, h3, h4⟩ := h
  obtain ⟨f1, f2, f3, f4, f5, f6, f7, f8, f9, f10⟩ := hf
  simp only at h1 h2 h3 h4 f1 f2 f3 f4 f5 f6 f7 f8 f9 f10
  have F4 := hideC f4
  unfold M.Short at f2 f4 f6 f8
  simp only [M.cellsI]
  have H1 := hideC h1
  have H2 := hideC h2
  have H3 := hideC h3
  have H4 := hideC h4
  have F3 := hideC f3
  have F7 := hideC f7
  have F9 := hideC f9
  have F10 := hideC f10
  have HG := hideC hr
  clear h1 h2 h3 h4 f3 f5 f7 f9 f10 hr
  have BOX := hideC (B.new w #[.string nm, .slice an ns.length cn, .slice ag gs.length cg, .slice ay ys.length cy, .slice ar rs.length cr, .int .i64 en] 27)
  have HB0 := hideC ((Below.refl w.heap.size w).alloc (Nat.le_refl _) (.cells #[.string nm, .slice an ns.length cn, .slice ag gs.length cg, .slice ay ys.length cy, .slice ar rs.length cr, .int .i64 en] 27))
  obtain ⟨X, hX⟩ : ∃ X : Array Value, X = #[.string nm, .slice an ns.length cn, .slice ag gs.length cg, .slice ay ys.length cy, .slice ar rs.length cr, .int .i64 en] := ⟨_, rfl⟩
  have HX := hideC hX
  rw [← hX] at BOX HB0
  clear hX
  unfold M.I64 at hp
  go_enter Try.func84, Try.ntmps84
  go_wp2
  rw [← HX.out]
  go_loopw [5] (fun i wr => ∃ k : Nat, k ≤ gs.length ∧ i = .int .i64 k ∧ (∀ j, j < k → M.inSeg (M.sgAt gs j) p = false) ∧ wr.heap[w.heap.size]? = some (.cells X 27 (0, 0)) ∧ Below w.heap.size w wr) (fun i _ => gs.length - (intOf i).toNat)
  case atStart => exact ⟨0, by omega, rfl, fun j h => by omega, BOX.out, HB0.out⟩
  case round =>
    obtain ⟨k, hk, rfl, hall, hbox, hb⟩ := hrel
    have HA := hideC hall
    have BX := hideC hbox
    have HB := hideC hb
    have bx2 := B.cell hbox 2 (by rw [HX.out]; rfl)
    clear hall hbox
    by_cases hlt : k < gs.length
    · obtain ⟨b, off, hao, hbl, hl⟩ := H2.out (by omega)
      have hli : (k : Int) < (gs.length : Int) := by omega
      obtain ⟨c0, c1, c2, c3, c4⟩ := M.lieG hb hbl hl k hlt
      obtain ⟨g1, g2, g3, g4⟩ := range_at HG.out k hlt
      obtain ⟨s, hs⟩ : ∃ s, s = M.sgAt gs k := ⟨_, rfl⟩
      rw [← hs] at c0 c1 c2 c3 c4 g1 g2 g3 g4
      have HS := hideC hs
      clear hs hb hl g4
      obtain ⟨sp, sn, sd, sx, sy⟩ := s
      simp only at c0 c1 c2 c3 c4 g1 g2 g3
      subst hao
      have BX1 := hideC (B.alloc BX.out (.cells #[.int .i64 sp, .int .i64 sn, .string sd, .bool sx, .bool sy] 79))
      have HB1 := hideC (HB.out.alloc HB.out.size (.cells #[.int .i64 sp, .int .i64 sn, .string sd, .bool sx, .bool sy] 79))
      by_cases d1 : sp * 16 ≤ p
      · by_cases d2 : p < (sp + sn) * 16
        · have HR := hideC (own_some gs p k hlt HA.out (by rw [← HS.out]; exact decide_eq_true (show sp * 16 ≤ p ∧ p < (sp + sn) * 16 from ⟨d1, d2⟩)))
          go_wp2
          go_ret
          exact ⟨ret_i64 HR.out.symm, HB1.out⟩
        · have hmiss : Hid (M.inSeg (M.sgAt gs k) p = false) := by show _ = _; rw [← HS.out]; exact decide_eq_false (show ¬ (sp * 16 ≤ p ∧ p < (sp + sn) * 16) by omega)
          go_wp2
          go_roundw
          case rel => exact ⟨k + 1, by omega, by go_num, fun j hj => if e : j = k then by rw [e]; exact hmiss.out else HA.out j (by omega), BX1.out, HB1.out⟩
          case measure => simp [intOf]; omega
      · have hmiss : Hid (M.inSeg (M.sgAt gs k) p = false) := by show _ = _; rw [← HS.out]; exact decide_eq_false (show ¬ (sp * 16 ≤ p ∧ p < (sp + sn) * 16) by omega)
        have d1' : decide (sp * 16 ≤ p) = false := decide_eq_false d1
        go_wp2
        go_roundw
        case rel => exact ⟨k + 1, by omega, by go_num, fun j hj => if e : j = k then by rw [e]; exact hmiss.out else HA.out j (by omega), BX1.out, HB1.out⟩
        case measure => simp [intOf]; omega
    · obtain rfl : k = gs.length := by omega
      clear hb
      have HR := hideC (own_none gs p HA.out)
      go_wp2
      go_ret
      exact ⟨ret_i64 HR.out.symm, HB.out⟩

theorem toList_ne {s t : ByteArray} (h : ¬ s = t) : ¬ s.toList = t.toList := fun e => h (by
  rw [Lib.toList_data, Lib.toList_data] at e
  cases s; cases t
  congr 1
  exact Array.toList_inj.1 e)
/-- the name at k is none of the first n -/
theorem notin_step (l : List ByteArray) (k n : Nat) (hn : n < l.length) (h : (l.take n).contains (M.strAt l k) = false) (hne : ¬ M.strAt l k = M.strAt l n) : (l.take (n + 1)).contains (M.strAt l k) = false := by
  rw [contains_step l n hn, h, Bool.false_or]
  simpa using hne
theorem once_no (l : List ByteArray) (k n : Nat) (hk : k < l.length) (hn : n < k) (he : M.strAt l k = M.strAt l n) : M.onceB l = false := by
  refine once_mono l (k + 1) l.length ?_ hk
  have : (l.take k).contains (M.strAt l k) = true := by
    rw [he]
    have h1 : M.strAt l n ∈ l.take k := by
      have hlt : n < (l.take k).length := by simp; omega
      have : (l.take k)[n] = M.strAt l n := by
        unfold M.strAt
        rw [List.getElem_take, List.getD_eq_getElem?_getD, List.getElem?_eq_getElem (by omega)]
        rfl
      rw [← this]
      exact List.getElem_mem hlt
    simpa using h1
  simp only [M.onceTo]
  rw [this]
  simp

set_option maxHeartbeats 1500000 in
theorem alike_any (l : List ByteArray) (ao : Option Addr) (cap : Nat) (w : World) (h : M.HasBy M.LieS w ao l) (hn : M.Short l.length) (hf : ∀ k, k < l.length → M.Short (M.strAt l k).size) :
    Calls Try.prog 25 #[.slice ao l.length cap] w fun e w' => e = .returned (.bool (!M.onceB l)) ∧ Below w.heap.size w w' := by
  unfold M.Short at hn
  have H := hideC h
  have F := hideC hf
  clear h hf
  go_enter Try.func25, Try.ntmps25
  go_wp2
  go_loopw [3] (fun i wr => ∃ k : Nat, k ≤ l.length ∧ i = .int .i64 k ∧ M.onceTo l k = true ∧ Below w.heap.size w wr) (fun i _ => l.length - (intOf i).toNat)
  case atStart => exact ⟨0, by omega, rfl, rfl, Below.refl _ _⟩
  case round =>
    obtain ⟨k, hk, rfl, honce, hb⟩ := hrel
    have HO := hideC honce
    have HB := hideC hb
    clear honce hb
    by_cases hlt : k < l.length
    · obtain ⟨b, off, hao, hbl, hl⟩ := H.out (by omega)
      subst hao
      have HL := hideC hl
      clear hl
      have hli : (k : Int) < (l.length : Int) := by omega
      go_wp2
      go_loopw [4] (fun i wq => ∃ n : Nat, n ≤ k ∧ i = .int .i64 n ∧ (l.take n).contains (M.strAt l k) = false ∧ Below w.heap.size w wq) (fun i _ => k - (intOf i).toNat)
      case atStart => exact ⟨0, by omega, rfl, rfl, HB.out⟩
      case round =>
        obtain ⟨n, hn', rfl, hno, hb⟩ := hrel
        have HN := hideC hno
        have HB2 := hideC hb
        clear hno
        by_cases hnk : n < k
        · have hnk' : (n : Int) < (k : Int) := by omega
          have hnl : (n : Int) < (l.length : Int) := by omega
          have c0 := M.lieS hb hbl HL.out k hlt
          have c1 := M.lieS hb hbl HL.out n (by omega)
          have HST := hideC (notin_step l k n (by omega) HN.out)
          have HNO := hideC (once_no l k n hlt hnk)
          obtain ⟨s, hs⟩ : ∃ s, s = M.strAt l k := ⟨_, rfl⟩
          obtain ⟨t, ht⟩ : ∃ t, t = M.strAt l n := ⟨_, rfl⟩
          rw [← hs] at c0
          rw [← ht] at c1
          rw [← hs, ← ht] at HST HNO
          have HS := hideC hs
          have hkin := Q.kin_some wr
          have hbq : b < wr.heap.size := Nat.lt_of_lt_of_le hbl HB2.out.size
          have k0 : ∀ x : Q.Kin wr.heap.size wr, x.world.cell? ⟨b, off + k, none⟩ = some (.string s) := fun x => by rw [Q.cell_kin x _ _ hbq, c0]
          have k1 : ∀ x : Q.Kin wr.heap.size wr, x.world.cell? ⟨b, off + n, none⟩ = some (.string t) := fun x => by rw [Q.cell_kin x _ _ hbq, c1]
          clear hs ht hb c0 c1
          by_cases hst : s = t
          · have HR := hideC (HNO.out hst)
            clear HNO HST
            subst hst
            go_wp2
            refine Q.region_kin (by kernel_rfl) (by kernel_rfl) ?_
            repeat (first | go_big_quiet_step (fail) | quiet_step (fail))
            refine wpQuiet_nil ?_
            intro _ hw'
            obtain ⟨x, hw''⟩ := hw'
            subst hw''
            go_wp2
            go_ret
            exact ⟨ret_bool (by rw [HR.out]; rfl), HB2.out.trans (x.keeps.mono HB2.out.size)⟩
          · have HR := hideC (HST.out hst)
            clear HNO HST
            have hst1 := toList_ne hst
            have hst' : (s.toList == t.toList) = false := by simpa using hst1
            go_wp2
            refine Q.region_kin (by kernel_rfl) (by kernel_rfl) ?_
            repeat (first | go_big_quiet_step (fail) | quiet_step (fail))
            refine wpQuiet_nil ?_
            intro _ hw'
            obtain ⟨x, hw''⟩ := hw'
            subst hw''
            go_wp2
            go_roundw
            case rel => exact ⟨n + 1, by omega, by go_num, by rw [← HS.out]; exact HR.out, HB2.out.trans (x.keeps.mono HB2.out.size)⟩
            case measure => simp [intOf]; omega
        · obtain rfl : n = k := by omega
          have HNX : Hid (M.onceTo l (n + 1) = true) := by show (M.onceTo l n && !(l.take n).contains (M.strAt l n)) = true; rw [HO.out, HN.out]; rfl
          clear hb
          go_wp2
          go_roundw
          case rel => exact ⟨n + 1, by omega, by go_num, HNX.out, HB2.out⟩
          case measure => simp [intOf]; omega
    · obtain rfl : k = l.length := by omega
      go_wp2
      go_ret
      exact ⟨ret_bool (by unfold M.onceB; rw [HO.out]; rfl), HB.out⟩
end Go.Proofs.Yteieplodndfbhaa.W
