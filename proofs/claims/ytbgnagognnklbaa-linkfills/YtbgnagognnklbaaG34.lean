import Derived.Test.YtbgnagognnklbaaG31
import Derived.Test.YtbgnagognnklbaaG24
import Derived.Test.YtbgnagognnklbaaG33
import Derived.Deep.RegionHeld3
import Derived.Test.YtbgnagognnklbaaG21
/- The areas of the objects; plain Lean. -/
namespace Go.Proofs.Ytbgnagognnklbaa.LM
open Go.RowKit
set_option linter.unusedVariables false
set_option maxRecDepth 100000

/-- the areas, one segment more -/
def mapSeg (o : Ob) (L : List AM.Ar) (s : M.Sg) : List AM.Ar := (AW.mapN L (o.base + s.page) s.pages (protN s)).1
def asg (o : Ob) (L : List AM.Ar) : Nat → List AM.Ar
  | 0 => L
  | k + 1 => mapSeg o (asg o L k) (M.sgAt o.i.segs k)
def aob (l : List Ob) : Nat → List AM.Ar
  | 0 => []
  | k + 1 => asg (obAt l k) (aob l k) (obAt l k).i.segs.length
def clr (a : AM.Ar) : AM.Ar := ⟨a.page, a.pages, a.prot, false⟩
def clrTo (L : List AM.Ar) : Nat → List AM.Ar
  | 0 => L
  | k + 1 => (clrTo L k).set k (clr (AM.at_ (clrTo L k) k))
/-- what areasOf answers -/
def areasN (l : List Ob) : List AM.Ar := (aob l l.length).map clr

theorem fit_asg (o : Ob) (L : List AM.Ar) (h : AW.AllFit L) : ∀ k, AW.AllFit (asg o L k)
  | 0 => h
  | k + 1 => AW.fit_map _ _ _ _
theorem fit_aob (l : List Ob) : ∀ k, AW.AllFit (aob l k)
  | 0 => AW.fit_nil
  | k + 1 => fit_asg _ _ (fit_aob l k) _
theorem clrTo_length (L : List AM.Ar) : ∀ k, (clrTo L k).length = L.length
  | 0 => rfl
  | k + 1 => by simp only [clrTo, List.length_set, clrTo_length L k]
theorem clrTo_get (L : List AM.Ar) : ∀ k, k ≤ L.length → ∀ j, (clrTo L k)[j]? = if j < k then L[j]?.map clr else L[j]?
  | 0, _, j => by simp [clrTo]
  | k + 1, hk, j => by
    have ih := clrTo_get L k (by omega)
    have hl := clrTo_length L k
    have e : AM.at_ (clrTo L k) k = AM.at_ L k := by
      unfold AM.at_
      rw [List.getD_eq_getElem?_getD, List.getD_eq_getElem?_getD, ih k, if_neg (Nat.lt_irrefl _)]
    simp only [clrTo]
    rw [e, List.getElem?_set]
    by_cases hjk : k = j
    · subst hjk
      rw [if_pos rfl, if_pos (by omega), if_pos (by omega)]
      unfold AM.at_
      rw [List.getD_eq_getElem?_getD, List.getElem?_eq_getElem (by omega)]
      rfl
    · rw [if_neg hjk, ih j]
      by_cases h1 : j < k
      · rw [if_pos h1, if_pos (by omega)]
      · rw [if_neg h1, if_neg (by omega)]
theorem clrTo_all (L : List AM.Ar) : clrTo L L.length = L.map clr := by
  apply List.ext_getElem?
  intro j
  rw [clrTo_get L _ (Nat.le_refl _) j, List.getElem?_map]
  by_cases h : j < L.length
  · rw [if_pos h]
  · rw [if_neg h, List.getElem?_eq_none (by omega)]
    rfl
theorem areaCells_set (b : Bool) : ∀ (L : List AM.Ar) (k : Nat), k < L.length → (AM.areaCells L).set (k * 4 + 3) (.bool b) = AM.areaCells (L.set k ⟨(AM.at_ L k).page, (AM.at_ L k).pages, (AM.at_ L k).prot, b⟩)
  | [], k, h => by simp at h
  | a :: r, 0, h => rfl
  | a :: r, k + 1, h => by
    have ih := areaCells_set b r k (by simpa using h)
    show (AM.four a ++ AM.areaCells r).set _ _ = AM.four a ++ AM.areaCells (r.set k _)
    rw [List.set_append_right _ _ (by simp [AM.four]; omega)]
    congr 1
    have e : (k + 1) * 4 + 3 - (AM.four a).length = k * 4 + 3 := by simp [AM.four]; omega
    rw [e, ih]
    rfl
end Go.Proofs.Ytbgnagognnklbaa.LM
/- The linker: the areas of all objects, the walk. -/
namespace Go.Proofs.Ytbgnagognnklbaa.LW
open Go.RowKit
open Go.Proofs.Ytbgnagognnklbaa.W (hideC)
set_option linter.unusedVariables false
set_option maxRecDepth 100000

theorem own_below {lo : Nat} {w w' : World} {v : Value} {l : List AM.Ar} (h : AW.Own lo w v l) (hb : Below w.heap.size w w') : AW.Own lo w' v l := row_grown h hb
theorem own_slice {lo : Nat} {w : World} {v : Value} {l : List AM.Ar} (h : AW.Own lo w v l) : ∃ ao cap, v = .slice ao l.length cap ∧ (0 < l.length → ∃ g, ao = some ⟨g, 0, none⟩) := by
  rcases h.2 with ⟨hv, h0⟩ | ⟨g, cap, cur, hv, _⟩
  · exact ⟨none, 0, by rw [hv, h0], fun hl => by omega⟩
  · exact ⟨_, cap, hv, fun _ => ⟨g, rfl⟩⟩

set_option maxHeartbeats 6000000 in
theorem areasOf_any (l : List LM.Ob) (ao : Option Addr) (cap : Nat) (w : World) (h : Oi l ao w) (hl7 : l.length ≤ 7) :
    Calls Try.prog 22 #[.slice ao l.length cap] w fun e w' => ∃ r, e = .returned r ∧ AW.Own w.heap.size w' r (LM.areasN l) ∧ Below w.heap.size w w' := by
  have HO := hideC h
  clear h
  go_enter Try.func22, Try.ntmps22
  go_wp2
  go_loopw [11, 3] (fun i v wr => ∃ (a : Nat), a ≤ l.length ∧ i = .int .i64 a ∧ AW.Own w.heap.size wr v (LM.aob l a) ∧ Below w.heap.size w wr) (fun i _ _ => l.length - (intOf i).toNat)
  case atStart => exact ⟨0, by omega, rfl, AW.Own.nil _ _, Below.refl _ _⟩
  case round =>
    obtain ⟨a, hal, rfl, hown, hb⟩ := hrel
    have HOW := hideC hown
    have HBr := hideC hb
    by_cases hlt : a < l.length
    · have HOr := hideC (HO.out.below hb)
      obtain ⟨b, off, hao, hbl, hlie⟩ := HOr.out.has (by omega)
      obtain ⟨⟨c0, c1, c2, c3, c4, c5, c6⟩, him⟩ := hlie a hlt
      have hbs := HO.out.base a hlt
      have hck := HO.out.chk a hlt
      obtain ⟨b2, off2, hao2, hbl2, hlie2⟩ := HO.out.has (by omega)
      have him2 := (hlie2 a hlt).2
      have HNX : Hid (LM.aob l (a + 1) = LM.asg (LM.obAt l a) (LM.aob l a) (LM.obAt l a).i.segs.length) := rfl
      obtain ⟨o, ho⟩ : ∃ o, o = LM.obAt l a := ⟨_, rfl⟩
      rw [← ho] at c0 c1 c2 c3 c4 c5 c6 him2 hbs hck HNX
      have HFA := hideC (LM.fit_aob l a)
      obtain ⟨L, hL⟩ : ∃ L, L = LM.aob l a := ⟨_, rfl⟩
      rw [← hL] at HOW HNX HFA
      have hcn := LM.counts_of hck
      have HSB := hideC (LM.seg_bounds hck)
      obtain ⟨bs, offs, hag, hbls, hlg⟩ := him2.segs (by omega)
      have HLG := hideC hlg
      rw [hag] at c2
      clear ho hL hlie hb hown him hlg hag him2 hlie2 hao2 hbl2 hck
      subst hao
      have HBA := hideC (HBr.out.alloc HBr.out.size (.cells #[.string o.i.name, .slice o.a.an o.i.needs.length o.a.cn, .slice (some ⟨bs, offs, none⟩) o.i.segs.length o.a.cg, .slice o.a.ay o.i.syms.length o.a.cy, .slice o.a.ar o.i.rels.length o.a.cr, .int .i64 o.i.entry, .int .i64 o.base] 59))
      have HRA := hideC ((Below.refl wr.heap.size wr).alloc (Nat.le_refl _) (.cells #[.string o.i.name, .slice o.a.an o.i.needs.length o.a.cn, .slice (some ⟨bs, offs, none⟩) o.i.segs.length o.a.cg, .slice o.a.ay o.i.syms.length o.a.cy, .slice o.a.ar o.i.rels.length o.a.cr, .int .i64 o.i.entry, .int .i64 o.base] 59))
      have BO := hideC (B.new wr #[.string o.i.name, .slice o.a.an o.i.needs.length o.a.cn, .slice (some ⟨bs, offs, none⟩) o.i.segs.length o.a.cg, .slice o.a.ay o.i.syms.length o.a.cy, .slice o.a.ar o.i.rels.length o.a.cr, .int .i64 o.i.entry, .int .i64 o.base] 59)
      have HOA := hideC (own_below HOW.out HRA.out)
      go_wp2
      obtain ⟨W1, hW1⟩ : ∃ W1, W1 = wr.alloc (.cells #[.string o.i.name, .slice o.a.an o.i.needs.length o.a.cn, .slice (some ⟨bs, offs, none⟩) o.i.segs.length o.a.cg, .slice o.a.ay o.i.syms.length o.a.cy, .slice o.a.ar o.i.rels.length o.a.cr, .int .i64 o.i.entry, .int .i64 o.base] 59) := ⟨_, rfl⟩
      rw [← hW1] at HBA HRA BO HOA
      rw [← hW1]
      obtain ⟨ob, hob⟩ : ∃ ob, ob = wr.heap.size := ⟨_, rfl⟩
      rw [← hob] at BO
      rw [← hob]
      clear hW1 hob HRA HOW HBr HOr c0 c1 c2 c3 c4 c5 c6 hbl
      go_loopw [19, 3] (fun i v wm => ∃ (k : Nat), k ≤ o.i.segs.length ∧ i = .int .i64 k ∧ AW.Own w.heap.size wm v (LM.asg o L k) ∧ Below w.heap.size w wm ∧ Below W1.heap.size W1 wm) (fun i _ _ => o.i.segs.length - (intOf i).toNat)
      case atStart => exact ⟨0, by omega, rfl, HOA.out, HBA.out, Below.refl _ _⟩
      case round =>
        obtain ⟨k, hk, rfl, hown, hb, hb1⟩ := hrel
        have HOW := hideC hown
        have HBm := hideC hb
        have HB1 := hideC hb1
        clear HOA HBA
        by_cases hlk : k < o.i.segs.length
        · obtain ⟨c0, c1, c2, c3, c4⟩ := M.lieG hb hbls HLG.out k hlk
          have hsb := HSB.out k hlk
          have hbls' : bs < wr.heap.size := Nat.lt_of_lt_of_le hbls hb.size
          have HFK := hideC (LM.fit_asg o L HFA.out k)
          have HKX : Hid (LM.asg o L (k + 1) = LM.mapSeg o (LM.asg o L k) (M.sgAt o.i.segs k)) := rfl
          obtain ⟨s, hse⟩ : ∃ s, s = M.sgAt o.i.segs k := ⟨_, rfl⟩
          rw [← hse] at c0 c1 c2 c3 c4 hsb HKX
          clear hse
          obtain ⟨L2, hL2⟩ : ∃ L2, L2 = LM.asg o L k := ⟨_, rfl⟩
          rw [← hL2] at HOW HFK HKX
          clear hL2
          obtain ⟨pg, pn, dt, wb, ex⟩ := s
          simp only at c0 c1 c2 c3 c4 hsb
          have HBA := hideC (HBm.out.alloc HBm.out.size (.cells #[.int .i64 pg, .int .i64 pn, .string dt, .bool wb, .bool ex] 79))
          have HRA := hideC ((Below.refl wr.heap.size wr).alloc (Nat.le_refl _) (.cells #[.int .i64 pg, .int .i64 pn, .string dt, .bool wb, .bool ex] 79))
          have BS := hideC (B.new wr #[.int .i64 pg, .int .i64 pn, .string dt, .bool wb, .bool ex] 79)
          have BOA := hideC (B.alloc (B.below BO.out HB1.out (B.isLt BO.out)) (.cells #[.int .i64 pg, .int .i64 pn, .string dt, .bool wb, .bool ex] 79))
          have HB1A := hideC (HB1.out.alloc HB1.out.size (.cells #[.int .i64 pg, .int .i64 pn, .string dt, .bool wb, .bool ex] 79))
          have HOWA := hideC (own_below HOW.out HRA.out)
          clear hown hb hb1
          go_wp2
          obtain ⟨WA, hWA⟩ : ∃ WA, WA = wr.alloc (.cells #[.int .i64 pg, .int .i64 pn, .string dt, .bool wb, .bool ex] 79) := ⟨_, rfl⟩
          rw [← hWA] at HBA BS BOA HB1A HOWA
          rw [← hWA]
          obtain ⟨sb, hsbe⟩ : ∃ sb, sb = wr.heap.size := ⟨_, rfl⟩
          rw [← hsbe] at BS
          rw [← hsbe]
          clear hWA hsbe HRA HOW HBm HB1 c0 c1 c2 c3 c4 hbls'
          have HS : Hid (∀ V, Below WA.heap.size WA V → V.cell? ⟨ob, 6, none⟩ = some (.int .i64 o.base) ∧ V.cell? ⟨sb, 0, none⟩ = some (.int .i64 pg) ∧ V.cell? ⟨sb, 1, none⟩ = some (.int .i64 pn) ∧ V.cell? ⟨sb, 2, none⟩ = some (.string dt) ∧ V.cell? ⟨sb, 3, none⟩ = some (.bool wb) ∧ V.cell? ⟨sb, 4, none⟩ = some (.bool ex)) := fun V hb => by
            have h1 := B.below BOA.out hb (B.isLt BOA.out)
            have h2 := B.below BS.out hb (B.isLt BS.out)
            exact ⟨B.cell h1 6 rfl, B.cell h2 0 rfl, B.cell h2 1 rfl, B.cell h2 2 rfl, B.cell h2 3 rfl, B.cell h2 4 rfl⟩
          have HPR : Hid (∀ V, Calls Try.prog 57 #[.agg #[.int .i64 pg, .int .i64 pn, .string dt, .bool wb, .bool ex]] V fun e w' => e = .returned (.int .i64 (LM.protN ⟨pg, pn, dt, wb, ex⟩)) ∧ Below V.heap.size V w') := fun V => prot_any ⟨pg, pn, dt, wb, ex⟩ V
          have HMP : Hid (∀ V, Below WA.heap.size WA V → Calls Try.prog 56 #[u3, .int .i64 (o.base + pg), .int .i64 pn, .int .i64 (LM.protN ⟨pg, pn, dt, wb, ex⟩)] V fun e w' => ∃ r, e = .returned (.tuple #[r, .int .i64 (AW.mapN L2 (o.base + pg) pn (LM.protN ⟨pg, pn, dt, wb, ex⟩)).2]) ∧ AW.Own V.heap.size w' r (AW.mapN L2 (o.base + pg) pn (LM.protN ⟨pg, pn, dt, wb, ex⟩)).1 ∧ Below V.heap.size V w') := fun V hb => AW.map_own L2 u3 (o.base + pg) pn _ V (own_below HOWA.out hb).has HFK.out (by unfold AW.I64; omega) (by unfold AW.I64; omega)
          have HMS : Hid (LM.mapSeg o L2 ⟨pg, pn, dt, wb, ex⟩ = (AW.mapN L2 (o.base + pg) pn (LM.protN ⟨pg, pn, dt, wb, ex⟩)).1) := rfl
          obtain ⟨PR, hPR⟩ : ∃ PR, PR = LM.protN ⟨pg, pn, dt, wb, ex⟩ := ⟨_, rfl⟩
          rw [← hPR] at HPR HMP HMS
          obtain ⟨MN, hMN⟩ : ∃ MN, MN = AW.mapN L2 (o.base + pg) pn PR := ⟨_, rfl⟩
          rw [← hMN] at HMP HMS
          clear hPR hMN
          have hwr : IntKind.i64.wrap (o.base + pg) = o.base + pg := IntWalk.i64_in _ (by omega)
          have HK0 := hideC (Below.refl WA.heap.size WA).drew
          have HS0 := hideC (HS.out _ HK0.out)
          go_region_held3 (fun V => V.cell? ⟨ob, 6, none⟩ = some (.int .i64 o.base) ∧ V.cell? ⟨sb, 0, none⟩ = some (.int .i64 pg) ∧ V.cell? ⟨sb, 1, none⟩ = some (.int .i64 pn) ∧ V.cell? ⟨sb, 2, none⟩ = some (.string dt) ∧ V.cell? ⟨sb, 3, none⟩ = some (.bool wb) ∧ V.cell? ⟨sb, 4, none⟩ = some (.bool ex)) (first | exact HS3.out | exact HS2.out | exact HS0.out)
            (first
              | (go_at_call 57; refine (HPR.out _).mono ?_; rintro e w2 ⟨rfl, hb⟩; have HK2 := hideC (HK0.out.trans (hb.mono HK0.out.size)); have HS2 := hideC (HS.out _ HK2.out); clear hb)
              | (go_at_call 56; refine (HMP.out _ HK2.out).mono ?_; rintro e w3 ⟨v8, rfl, hrw, hb⟩; have HK3 := hideC (HK2.out.trans (hb.mono HK2.out.size)); have HS3 := hideC (HS.out _ HK3.out); have HR3 := hideC hrw; clear hb hrw))
          go_wp2
          go_roundw
          case rel => exact ⟨k + 1, by omega, by go_num, by rw [HKX.out, HMS.out]; exact HR3.out.mono (Nat.le_trans HBA.out.size HK2.out.size), HBA.out.trans (HK3.out.mono HBA.out.size), HB1A.out.trans (HK3.out.mono HB1A.out.size)⟩
          case measure => simp [intOf]; omega
        · obtain rfl : k = o.i.segs.length := by omega
          clear hown hb hb1
          go_wp2
          go_roundw
          case rel => exact ⟨a + 1, by omega, by go_num, by rw [HNX.out]; exact HOW.out, HBm.out⟩
          case measure => simp [intOf]; omega
    · obtain rfl : a = l.length := by omega
      have HAN : Hid (LM.areasN l = LM.clrTo (LM.aob l l.length) (LM.aob l l.length).length) := (LM.clrTo_all _).symm
      have HFA := hideC (LM.fit_aob l l.length)
      obtain ⟨L, hL⟩ : ∃ L, L = LM.aob l l.length := ⟨_, rfl⟩
      rw [← hL] at HOW HAN HFA
      have hll := HFA.out.2
      obtain ⟨ar, cr, hv, hg⟩ := own_slice HOW.out
      subst hv
      have HG := hideC hg
      clear hown hb hL hg HFA
      go_wp2
      go_loopw [41] (fun i wr => ∃ (k : Nat), k ≤ L.length ∧ i = .int .i64 k ∧ AW.Own w.heap.size wr (.slice ar L.length cr) (LM.clrTo L k) ∧ Below w.heap.size w wr) (fun i _ => L.length - (intOf i).toNat)
      case atStart => exact ⟨0, by omega, rfl, HOW.out, HBr.out⟩
      case round =>
        obtain ⟨k, hk, rfl, hown, hb⟩ := hrel
        have HOW2 := hideC hown
        have HBr2 := hideC hb
        clear HOW HBr hown hb
        by_cases hlt : k < L.length
        · obtain ⟨g, hg⟩ := HG.out (by omega)
          subst hg
          have hln := LM.clrTo_length L k
          have HO4 : Hid (wr.ownsRow w.heap.size 99 4 (.slice (some ⟨g, 0, none⟩) L.length cr) L.length (AM.areaCells (LM.clrTo L k))) := by
            have h := HOW2.out
            unfold AW.Own at h
            rw [hln] at h
            exact h
          have HST := hideC (HO4.out.stored (k * 4 + 3) (.bool false))
          have HNX : Hid (AM.areaCells (LM.clrTo L (k + 1)) = (AM.areaCells (LM.clrTo L k)).set (k * 4 + 3) (.bool false)) := (LM.areaCells_set false (LM.clrTo L k) k (by omega)).symm
          have hlx := LM.clrTo_length L (k + 1)
          have HLX := hideC hlx
          have hgl := HO4.out.lt g rfl
          have q3 := (HO4.out.cellAt (k * 4 + 3) (by omega)).trans (AM.areaCells_get (LM.clrTo L k) k 3 (by omega) (by omega))
          have qf := HO4.out.frozenAt (k * 4 + 3)
          clear hln hlx
          go_wp2
          trace_state
          go_roundw
          case rel => exact ⟨k + 1, by omega, by go_num, by unfold AW.Own; rw [HLX.out, HNX.out]; exact HST.out.1, HBr2.out.setCell (by simp; omega) _⟩
          case measure => simp [intOf]; omega
        · obtain rfl : k = L.length := by omega
          go_wp2
          go_ret
          exact ⟨_, rfl, by rw [HAN.out]; exact HOW2.out, HBr2.out⟩
end Go.Proofs.Ytbgnagognnklbaa.LW
/- What Link is handed, and what it answers; plain Lean. -/
namespace Go.Proofs.Ytbgnagognnklbaa.LM
open Go.RowKit
set_option linter.unusedVariables false
set_option maxRecDepth 100000

def cellI (x : Li) : List Value := (M.cellsI x.a x.i).toList
/-- the error that Link tells -/
def linkErr (all : List Li) : Int :=
  if 7 < all.length then 2
  else if byErr all = 0 then
    match gat all all.length 0 [0] with
    | none => 6
    | some ix => if 256 < endFrom all 1 ix then 3 else
      match sheetsN (obsFrom all 1 ix) with
      | none => 7
      | some _ => 0
  else byErr all
theorem byErr_zero {l : List Li} (h : byErr l = 0) : (∀ k, k < l.length → M.chkN (liAt l k).i = 0) ∧ M.onceB (namesL l) = true := by
  unfold byErr at h
  by_cases e : errTo l l.length = 0
  · rw [if_pos e] at h
    refine ⟨errTo_none l l.length e, ?_⟩
    by_cases g : M.onceB (namesL l) = true
    · exact g
    · rw [if_neg g] at h
      cases h
  · rw [if_neg e] at h
    exact (e h).elim
theorem obs_base {all : List Li} (hc : ∀ j, j < all.length → M.chkN (liAt all j).i = 0) (h7 : all.length ≤ 7) {ix : List Nat} (ho : OkIx all ix) (k : Nat) (hk : k < (obsFrom all 1 ix).length) : 1 ≤ (obAt (obsFrom all 1 ix) k).base ∧ (obAt (obsFrom all 1 ix) k).base ≤ 2000 := by
  rw [obsFrom_length] at hk
  rw [(obsFrom_at all ix 1 k hk).2.2]
  have h := endFrom_bounds all hc (ix.take k) 1 (fun j hj => ho.lt j (List.mem_of_mem_take hj))
  have h2 := ho.le
  rw [List.length_take] at h
  omega
end Go.Proofs.Ytbgnagognnklbaa.LM
