import Derived.Test.YteieplodndfbhaaGL19
import Derived.Test.YteieplodndfbhaaGL02
/- Windows of a text: what of a laid part lies in one page; plain Lean. -/
namespace Go.Proofs.Yteieplodndfbhaa.LM
open Go.RowKit
set_option linter.unusedVariables false
set_option maxRecDepth 100000

theorem over_get (s : ByteArray) (q : Nat) (t : ByteArray) (x : Nat) (h : q + t.size ≤ s.size) : (CL.over s q t).data.toList[x]? = if q ≤ x ∧ x < q + t.size then t.data.toList[x - q]? else s.data.toList[x]? := by
  have hts : t.size = t.data.toList.length := Lib.size_eq t
  have hss : s.size = s.data.toList.length := Lib.size_eq s
  have hl : (s.data.toList.take q).length = q := by rw [List.length_take]; omega
  simp only [CL.over, List.toList_toArray]
  by_cases h1 : x < q
  · rw [if_neg (by omega), List.append_assoc, List.getElem?_append_left (by omega), List.getElem?_take, if_pos h1]
  · by_cases h2 : x < q + t.size
    · rw [if_pos ⟨by omega, h2⟩, List.append_assoc, List.getElem?_append_right (by omega), hl, List.getElem?_append_left (by omega)]
    · rw [if_neg (by omega), List.getElem?_append_right (by rw [List.length_append]; omega), List.getElem?_drop]
      congr 1
      rw [List.length_append]
      omega
theorem ext_get (s : ByteArray) (a b i : Nat) : (s.extract a b).data.toList[i]? = if i < b - a then s.data.toList[a + i]? else none := by
  rw [Lib.extract_data, List.getElem?_take]
  split
  · rw [List.getElem?_drop]
  · rfl
theorem bytes_ext {s t : ByteArray} (h : ∀ i : Nat, s.data.toList[i]? = t.data.toList[i]?) : s = t := by
  apply ByteArray.ext
  exact Array.toList_inj.1 (List.ext_getElem? h)
/-- a window of a text over which a part was laid -/
theorem win_over (s : ByteArray) (q : Nat) (t : ByteArray) (a : Nat) (h : q + t.size ≤ s.size) (ha : a + 16 ≤ s.size) (hm : max a q < min (a + 16) (q + t.size)) :
    (CL.over s q t).extract a (a + 16) = CL.over (s.extract a (a + 16)) (max a q - a) (t.extract (max a q - q) (min (a + 16) (q + t.size) - q)) := by
  have e1 : (t.extract (max a q - q) (min (a + 16) (q + t.size) - q)).size = min (a + 16) (q + t.size) - max a q := by
    rw [extract_size _ _ _ (by omega) (by omega)]
    omega
  have e2 : (s.extract a (a + 16)).size = 16 := by rw [extract_size _ _ _ (by omega) (by omega)]; omega
  refine bytes_ext (fun i => ?_)
  rw [ext_get, over_get s q t _ h, over_get (s.extract a (a + 16)) _ _ _ (by rw [e1, e2]; omega), ext_get, ext_get, e1]
  by_cases h16 : i < 16
  · rw [if_pos (by omega), if_pos (by omega : i < a + 16 - a)]
    by_cases hin : q ≤ a + i ∧ a + i < q + t.size
    · rw [if_pos hin, if_pos (by omega), if_pos (by omega)]
      congr 1
      omega
    · rw [if_neg hin, if_neg (by omega)]
  · rw [if_neg (by omega), if_neg (by omega), if_neg (by omega)]
theorem win_far (s : ByteArray) (q : Nat) (t : ByteArray) (a : Nat) (h : q + t.size ≤ s.size) (ha : a + 16 ≤ s.size) (hm : ¬ max a q < min (a + 16) (q + t.size)) : (CL.over s q t).extract a (a + 16) = s.extract a (a + 16) := by
  refine bytes_ext (fun i => ?_)
  rw [ext_get, ext_get, over_get _ _ _ _ h]
  by_cases h16 : i < a + 16 - a
  · rw [if_pos h16, if_pos h16, if_neg (by omega)]
  · rw [if_neg h16, if_neg h16]
/-- fixes, laid one behind the other -/
def fxOver (d : ByteArray) (fs : List Fx) : ByteArray := fs.foldl (fun a f => CL.over a f.off.toNat f.bytes) d
theorem laidTo_fold (d : ByteArray) (l : List Fx) : ∀ k, k ≤ l.length → laidTo d l k = fxOver d (l.take k)
  | 0, _ => rfl
  | k + 1, hk => by
    simp only [laidTo]
    rw [laidTo_fold d l k (by omega), take_snoc l fx0 k (by omega)]
    unfold fxOver
    rw [List.foldl_append]
    rfl
theorem fillS_fold (s : Sh) : fillS s = fxOver s.data s.fixes := by
  unfold fillS
  rw [laidTo_fold _ _ _ (Nat.le_refl _), List.take_length]
theorem win_cut (s : ByteArray) (p : Pt) (page : Nat) (hs : s.size = 4096) (hp : 0 ≤ p.pos ∧ p.pos + 8 ≤ 4096 ∧ p.bytes.size = 8) (hpg : page ≤ 255) :
    (CL.over s p.pos.toNat p.bytes).extract (page * 16) (page * 16 + 16) = fxOver (s.extract (page * 16) (page * 16 + 16)) (cutP (page : Int) p) := by
  obtain ⟨q, hq⟩ : ∃ q : Nat, p.pos = (q : Int) := ⟨p.pos.toNat, by omega⟩
  unfold cutP
  rw [hq, Int.toNat_natCast]
  by_cases c : max ((page : Int) * 16) (q : Int) < min ((page : Int) * 16 + 16) ((q : Int) + 8)
  · rw [if_pos c]
    rw [win_over s q p.bytes (page * 16) (by omega) (by omega) (by omega)]
    show _ = CL.over _ _ _
    have e1 : (max ((page : Int) * 16) (q : Int) - (page : Int) * 16).toNat = max (page * 16) q - page * 16 := by omega
    have e2 : (max ((page : Int) * 16) (q : Int) - (q : Int)).toNat = max (page * 16) q - q := by omega
    have e3 : (max ((page : Int) * 16) (q : Int) - (q : Int) + (min ((page : Int) * 16 + 16) ((q : Int) + 8) - max ((page : Int) * 16) (q : Int))).toNat = min (page * 16 + 16) (q + p.bytes.size) - q := by omega
    simp only
    rw [e1, e2, e3]
  · rw [if_neg c]
    rw [win_far s q p.bytes (page * 16) (by omega) (by omega) (by omega)]
    rfl
theorem win_pts (page : Nat) (hpg : page ≤ 255) : ∀ (ps : List Pt) (s : ByteArray), s.size = 4096 → Ins ps → (ptOver s ps).extract (page * 16) (page * 16 + 16) = fxOver (s.extract (page * 16) (page * 16 + 16)) (fixesN (page : Int) ps)
  | [], s, _, _ => rfl
  | p :: r, s, hs, h => by
    have hp := h p List.mem_cons_self
    have ih := win_pts page hpg r (CL.over s p.pos.toNat p.bytes) (by rw [CL.over_size' _ _ _ (by omega), hs]) (fun q hq => h q (List.mem_cons_of_mem _ hq))
    show (ptOver (CL.over s p.pos.toNat p.bytes) r).extract _ _ = _
    rw [ih, win_cut s p page hs hp hpg]
    unfold fxOver fixesN
    rw [List.flatMap_cons, List.foldl_append]
/-- no patch of another object lies in the page -/
theorem cut_none (page : Int) (p : Pt) (h : p.pos + 8 ≤ page * 16 ∨ page * 16 + 16 ≤ p.pos) : cutP page p = [] := by
  unfold cutP
  rw [if_neg (by omega)]
theorem fixes_none (page : Int) (ps : List Pt) (h : ∀ p ∈ ps, p.pos + 8 ≤ page * 16 ∨ page * 16 + 16 ≤ p.pos) : fixesN page ps = [] := by
  unfold fixesN
  rw [List.flatMap_eq_nil_iff]
  exact fun p hp => cut_none page p (h p hp)
end Go.Proofs.Yteieplodndfbhaa.LM
/- Page by page is all at one time: the pages of what is linked; plain Lean. -/
namespace Go.Proofs.Yteieplodndfbhaa.LM
open Go.RowKit
set_option linter.unusedVariables false
set_option maxRecDepth 100000

structure Geo (l : List Ob) : Prop where
  chk : ∀ n, n < l.length → M.chkN (obAt l n).i = 0
  pg : ∀ n, n < l.length → 1 ≤ (obAt l n).base ∧ endO (obAt l n) ≤ 256
  ord : ∀ n j, j < n → n < l.length → endO (obAt l j) ≤ (obAt l n).base
theorem geo_of {all : List Li} {ix : List Nat} (hc : ∀ j, j < all.length → M.chkN (liAt all j).i = 0) (hx : OkIx all ix) (he : endFrom all 1 ix ≤ 256) : Geo (obsFrom all 1 ix) := by
  refine ⟨fun n hn => ?_, LW.obs_pages hc hx he, fun n j hj hn => ?_⟩
  · rw [obsFrom_length] at hn
    rw [(obsFrom_at all ix 1 n hn).1]
    exact hc _ (hx.lt _ (getD_mem ix n hn))
  · rw [obsFrom_length] at hn
    have h2 := obsFrom_at all ix 1 j (by omega)
    have e : endO (obAt (obsFrom all 1 ix) j) = endFrom all 1 (ix.take (j + 1)) := by
      rw [LW.take_snoc ix j (by omega), endFrom_snoc]
      unfold endO
      rw [h2.1, h2.2.2]
    rw [e, (obsFrom_at all ix 1 n hn).2.2]
    have ht := LW.endFrom_take all hc (ix.take n) 1 (j + 1) (fun q hq => hx.lt q (List.mem_of_mem_take hq))
    rw [List.take_take, Nat.min_eq_left (by omega)] at ht
    exact ht
theorem zeros_win (a : Nat) (h : a + 16 ≤ 4096) : (LW.zs 4096).extract a (a + 16) = zeros16 := by
  have h1 : (LW.zs 4096).data.toList = List.replicate 4096 0 := by simp [LW.zs]
  have h2 : zeros16.data.toList = List.replicate 16 0 := rfl
  apply ByteArray.ext
  apply Array.toList_inj.1
  rw [Lib.extract_data, h1, h2, List.drop_replicate, List.take_replicate, Nat.add_sub_cancel_left, Nat.min_eq_left (by omega)]
/-- a page of the segment itself -/
theorem seg_win (s : ByteArray) (g : M.Sg) (q m a : Nat) (hs : s.size = 4096) (hq : q + g.data.size ≤ 4096) (ha : a = q + m * 16) (h16 : a + 16 ≤ 4096) (hz : s.extract a (a + 16) = zeros16) : (CL.over s q g.data).extract a (a + 16) = pageN g m := by
  unfold pageN
  by_cases c : m * 16 < g.data.size
  · rw [win_over s q g.data a (by omega) (by omega) (by omega), hz]
    congr 2 <;> omega
  · rw [win_far s q g.data a (by omega) (by omega) (by omega), hz]
    rw [CL.over_nil]
    rw [extract_size _ _ _ (by omega) (by omega)]
    omega
theorem sg_far (o : Ob) (hc : M.chkN o.i = 0) (h1 : 1 ≤ o.base) (he : endO o ≤ 256) (s : ByteArray) (hs : s.size = 4096) (p : Nat) (hp : p ≤ 255) : ∀ k, k ≤ o.i.segs.length → (∀ j, j < k → ¬ (o.base + (M.sgAt o.i.segs j).page ≤ (p : Int) ∧ (p : Int) < o.base + (M.sgAt o.i.segs j).page + (M.sgAt o.i.segs j).pages)) → (sgOver o s k).extract (p * 16) (p * 16 + 16) = s.extract (p * 16) (p * 16 + 16)
  | 0, _, _ => rfl
  | k + 1, hk, h => by
    have ih := sg_far o hc h1 he s hs p hp k (by omega) (fun j hj => h j (by omega))
    have hz := sgOver_size o hc h1 he s hs k (by omega)
    have hb := seg_bounds hc k (by omega)
    have hl := segs_last hc k (by omega)
    have hh := h k (by omega)
    unfold endO at he
    simp only [sgOver]
    rw [win_far _ _ _ _ (by omega) (by omega) (by omega), ih]
theorem sg_at (o : Ob) (hc : M.chkN o.i = 0) (h1 : 1 ≤ o.base) (he : endO o ≤ 256) (s : ByteArray) (hs : s.size = 4096) (j m p : Nat) (hj : j < o.i.segs.length) (hm : (m : Int) < (M.sgAt o.i.segs j).pages) (hp : (p : Int) = o.base + (M.sgAt o.i.segs j).page + (m : Int)) (hz : s.extract (p * 16) (p * 16 + 16) = zeros16) :
    ∀ k, k ≤ o.i.segs.length → j < k → (sgOver o s k).extract (p * 16) (p * 16 + 16) = pageN (M.sgAt o.i.segs j) m
  | 0, _, h => by omega
  | k + 1, hk, h => by
    have hsz := sgOver_size o hc h1 he s hs k (by omega)
    have hb := seg_bounds hc k (by omega)
    have hl := segs_last hc k (by omega)
    have hbj := seg_bounds hc j hj
    have hlj := segs_last hc j hj
    unfold endO at he
    by_cases e : j = k
    · subst e
      have hf := sg_far o hc h1 (by unfold endO; exact he) s hs p (by omega) j (by omega) (fun i hi => by
        have := segs_rise hc j i hi hj
        omega)
      simp only [sgOver]
      exact seg_win _ _ _ m _ hsz (by omega) (by omega) (by omega) (by rw [hf, hz])
    · have ih := sg_at o hc h1 (by unfold endO; exact he) s hs j m p hj hm hp hz k (by omega) (by omega)
      have hr := segs_rise hc k j (by omega) (by omega)
      simp only [sgOver]
      rw [win_far _ _ _ _ (by omega) (by omega) (by omega), ih]
theorem ob_far {l : List Ob} (hg : Geo l) (p : Nat) (hp : p ≤ 255) : ∀ n, n ≤ l.length → (∀ j, j < n → (p : Int) < (obAt l j).base ∨ endO (obAt l j) ≤ (p : Int)) → (obOver l (LW.zs 4096) n).extract (p * 16) (p * 16 + 16) = zeros16
  | 0, _, _ => zeros_win _ (by omega)
  | n + 1, hn, h => by
    have ih := ob_far hg p hp n (by omega) (fun j hj => h j (by omega))
    have hz : (obOver l (LW.zs 4096) n).size = 4096 := obOver_size hg.chk hg.pg _ (by simp [LW.zs, ByteArray.size]) n (by omega)
    have hpg := hg.pg n (by omega)
    have hh := h n (by omega)
    simp only [obOver]
    rw [sg_far _ (hg.chk n (by omega)) hpg.1 hpg.2 _ hz p hp _ (Nat.le_refl _) (fun j hj => ?_), ih]
    have hb := seg_bounds (hg.chk n (by omega)) j hj
    have hl := segs_last (hg.chk n (by omega)) j hj
    unfold endO at hh
    omega
/-- where a page of what is linked lies -/
structure Spot (l : List Ob) (j k m p : Nat) : Prop where
  hj : j < l.length
  hk : k < (obAt l j).i.segs.length
  hm : (m : Int) < (M.sgAt (obAt l j).i.segs k).pages
  hp : (p : Int) = (obAt l j).base + (M.sgAt (obAt l j).i.segs k).page + (m : Int)
theorem Spot.rng {l : List Ob} (hg : Geo l) {j k m p : Nat} (h : Spot l j k m p) : (obAt l j).base ≤ (p : Int) ∧ (p : Int) < endO (obAt l j) ∧ 1 ≤ p ∧ p ≤ 255 := by
  have hb := seg_bounds (hg.chk j h.hj) k h.hk
  have hl := segs_last (hg.chk j h.hj) k h.hk
  have hp := hg.pg j h.hj
  have h1 := h.hm
  have h2 := h.hp
  unfold endO at hp ⊢
  omega
theorem ob_at {l : List Ob} (hg : Geo l) {j k m p : Nat} (h : Spot l j k m p) : ∀ n, n ≤ l.length → j < n → (obOver l (LW.zs 4096) n).extract (p * 16) (p * 16 + 16) = pageN (M.sgAt (obAt l j).i.segs k) m
  | 0, _, hj => by omega
  | n + 1, hn, hj => by
    have hr := h.rng hg
    have hz : (obOver l (LW.zs 4096) n).size = 4096 := obOver_size hg.chk hg.pg _ (by simp [LW.zs, ByteArray.size]) n (by omega)
    have hpg := hg.pg n (by omega)
    simp only [obOver]
    by_cases e : j = n
    · subst e
      exact sg_at _ (hg.chk j h.hj) hpg.1 hpg.2 _ hz k m p h.hk h.hm h.hp (ob_far hg p hr.2.2.2 j (by omega) (fun i hi => by
        have := hg.ord j i hi h.hj
        omega)) _ (Nat.le_refl _) h.hk
    · rw [sg_far _ (hg.chk n (by omega)) hpg.1 hpg.2 _ hz p hr.2.2.2 _ (Nat.le_refl _) (fun i hi => ?_)]
      · exact ob_at hg h n (by omega) (by omega)
      · have ho := hg.ord n j (by omega) (by omega)
        have hb := seg_bounds (hg.chk n (by omega)) i hi
        omega
theorem pat_rng {l : List Ob} {o : Ob} (hc : M.chkN o.i = 0) : ∀ (k : Nat) (ps : List Pt), k ≤ o.i.rels.length → patTo l o k = some ps → ∀ p ∈ ps, o.base * 16 ≤ p.pos ∧ p.pos + 8 ≤ endO o * 16
  | 0, ps, _, h => by simp only [patTo] at h; injection h with h; subst h; exact fun p hp => by simp at hp
  | k + 1, ps, hk, h => by
    cases e : patTo l o k with
    | none => rw [patTo_none e (k + 1) (by omega)] at h; cases h
    | some qs =>
      cases g : tgtN l o (M.rlAt o.i.rels k).name with
      | none =>
        simp only [patTo] at h
        rw [e] at h
        simp only at h
        rw [g] at h
        cases h
      | some t =>
        rw [LW.pat_next e g] at h
        injection h with h
        subst h
        have hb := rel_bounds hc k (by omega)
        have hr := rel_end hc k (by omega)
        intro p hp
        rcases List.mem_append.1 hp with q | q
        · exact pat_rng hc k qs (by omega) e p q
        · simp at q
          subst q
          unfold endO
          show o.base * 16 ≤ o.base * 16 + (M.rlAt o.i.rels k).pos ∧ o.base * 16 + (M.rlAt o.i.rels k).pos + 8 ≤ _
          omega
theorem rl_at {l : List Ob} (hg : Geo l) (ht : ∀ k, k < l.length → ∃ ps, patN l (obAt l k) = some ps) {j k m p : Nat} (h : Spot l j k m p) {ps : List Pt} (hps : patN l (obAt l j) = some ps) (s : ByteArray) (hs : s.size = 4096) :
    ∀ n, n ≤ l.length → (rlOver l s n).extract (p * 16) (p * 16 + 16) = if j < n then fxOver (s.extract (p * 16) (p * 16 + 16)) (fixesN (p : Int) ps) else s.extract (p * 16) (p * 16 + 16)
  | 0, _ => by rw [if_neg (by omega)]; rfl
  | n + 1, hn => by
    have hr := h.rng hg
    have ih := rl_at hg ht h hps s hs n (by omega)
    obtain ⟨qs, hqs⟩ := ht n (by omega)
    have hz := rlOver_size hg.chk hg.pg ht s hs n (by omega)
    have hpg := hg.pg n (by omega)
    have hins := pat_ins (hg.chk n (by omega)) hpg.1 hpg.2 _ qs (Nat.le_refl _) hqs
    have hrg := pat_rng (hg.chk n (by omega)) _ qs (Nat.le_refl _) hqs
    simp only [rlOver]
    rw [hqs]
    show (ptOver (rlOver l s n) qs).extract _ _ = _
    rw [win_pts p hr.2.2.2 qs _ hz hins, ih]
    by_cases e : j = n
    · subst e
      rw [hps] at hqs
      injection hqs with hqs
      subst hqs
      rw [if_neg (by omega), if_pos (by omega)]
    · have hno : fixesN (p : Int) qs = [] := fixes_none _ qs (fun x hx => by
        have hx2 := hrg x hx
        rcases Nat.lt_or_gt_of_ne e with c | c
        · have := hg.ord n j c (by omega)
          omega
        · have := hg.ord j n c h.hj
          omega)
      rw [hno]
      show (if j < n then _ else _) = _
      by_cases c : j < n
      · rw [if_pos c, if_pos (by omega)]
      · rw [if_neg c, if_neg (by omega)]
/-- the page of the long text is the sheet, filled -/
theorem long_page {l : List Ob} (hg : Geo l) (ht : ∀ k, k < l.length → ∃ ps, patN l (obAt l k) = some ps) {j k m p : Nat} (h : Spot l j k m p) {ps : List Pt} (hps : patN l (obAt l j) = some ps) :
    (longN l).extract (p * 16) (p * 16 + 16) = fxOver (pageN (M.sgAt (obAt l j).i.segs k) m) (fixesN (p : Int) ps) := by
  have hz : (obOver l (LW.zs 4096) l.length).size = 4096 := obOver_size hg.chk hg.pg _ (by simp [LW.zs, ByteArray.size]) _ (Nat.le_refl _)
  unfold longN
  rw [rl_at hg ht h hps _ hz _ (Nat.le_refl _), if_pos h.hj, ob_at hg h _ (Nat.le_refl _) h.hj]
theorem long_size {l : List Ob} (hg : Geo l) (ht : ∀ k, k < l.length → ∃ ps, patN l (obAt l k) = some ps) : (longN l).size = 4096 :=
  rlOver_size hg.chk hg.pg ht _ (obOver_size hg.chk hg.pg _ (by simp [LW.zs, ByteArray.size]) _ (Nat.le_refl _)) _ (Nat.le_refl _)
end Go.Proofs.Yteieplodndfbhaa.LM
/- What is linked is right; plain Lean. -/
namespace Go.Proofs.Yteieplodndfbhaa.LM
open Go.RowKit
set_option linter.unusedVariables false
set_option maxRecDepth 100000

/-! the fixes of a page lie one behind the other -/
def okFx : Int → List Fx → Prop
  | _, [] => True
  | e, f :: r => (e ≤ f.off ∧ f.off ≤ 16 ∧ 1 ≤ (f.bytes.size : Int) ∧ (f.bytes.size : Int) ≤ 16 - f.off) ∧ okFx (f.off + (f.bytes.size : Int)) r
theorem okFx_snoc : ∀ (l : List Fx) (e : Int) (f : Fx), okFx e (l ++ [f]) → okFx e l
  | [], _, _, _ => trivial
  | x :: r, e, f, h => ⟨h.1, okFx_snoc r _ f h.2⟩
theorem okFx_at : ∀ (l : List Fx) (e : Int), okFx e l → ∀ k, k < l.length → fixB (if k = 0 then e else endTo l k) (fxAt l k) = true
  | x :: r, e, h, 0, _ => by
    rw [if_pos rfl]
    exact decide_eq_true h.1
  | x :: r, e, h, k + 1, hk => by
    have ih := okFx_at r _ h.2 k (by simpa using hk)
    rw [if_neg (by omega)]
    have e1 : fxAt (x :: r) (k + 1) = fxAt r k := by simp [fxAt]
    rw [e1]
    cases k with
    | zero => rw [if_pos rfl] at ih; exact ih
    | succ k =>
      rw [if_neg (by omega)] at ih
      have e2 : endTo (x :: r) (k + 1 + 1) = endTo r (k + 1) := by simp [endTo, fxAt]
      rw [e2]
      exact ih
theorem fixesTo_all (l : List Fx) (h : ∀ k, k < l.length → fixB (endTo l k) (fxAt l k) = true) : ∀ n, n ≤ l.length → fixesTo l n = true
  | 0, _ => rfl
  | n + 1, hn => by
    simp only [fixesTo]
    rw [fixesTo_all l h n (by omega), h n (by omega)]
    rfl
theorem fixes_ok {l : List Fx} (h : okFx 0 l) : fixesTo l l.length = true := by
  refine fixesTo_all l (fun k hk => ?_) _ (Nat.le_refl _)
  have := okFx_at l 0 h k hk
  by_cases e : k = 0
  · subst e; exact this
  · rw [if_neg e] at this; exact this
def Chain : Int → List Pt → Prop
  | _, [] => True
  | e, p :: r => (e ≤ p.pos ∧ p.bytes.size = 8) ∧ Chain (p.pos + 8) r
def lastE : Int → List Pt → Int
  | e, [] => e
  | _, p :: r => lastE (p.pos + 8) r
theorem chain_snoc : ∀ (ps : List Pt) (e : Int) (p : Pt), Chain e ps → lastE e ps ≤ p.pos → p.bytes.size = 8 → Chain e (ps ++ [p])
  | [], e, p, _, h1, h2 => ⟨⟨h1, h2⟩, trivial⟩
  | x :: r, e, p, h, h1, h2 => ⟨h.1, chain_snoc r _ p h.2 h1 h2⟩
theorem lastE_snoc : ∀ (ps : List Pt) (e : Int) (p : Pt), lastE e (ps ++ [p]) = p.pos + 8
  | [], _, _ => rfl
  | x :: r, _, p => lastE_snoc r _ p
theorem chain_ok (page : Int) : ∀ (ps : List Pt) (e lo : Int), Chain lo ps → e ≤ max 0 (lo - page * 16) → okFx e (fixesN page ps)
  | [], _, _, _, _ => trivial
  | p :: r, e, lo, h, he => by
    have h1 := h.1
    unfold fixesN
    rw [List.flatMap_cons]
    unfold cutP
    by_cases c : max (page * 16) p.pos < min (page * 16 + 16) (p.pos + 8)
    · rw [if_pos c]
      have hsz : (p.bytes.extract (max (page * 16) p.pos - p.pos).toNat (max (page * 16) p.pos - p.pos + (min (page * 16 + 16) (p.pos + 8) - max (page * 16) p.pos)).toNat).size = (min (page * 16 + 16) (p.pos + 8) - max (page * 16) p.pos).toNat := by
        rw [extract_size _ _ _ (by omega) (by omega)]
        omega
      refine ⟨?_, ?_⟩
      · simp only
        rw [hsz]
        omega
      · simp only
        rw [hsz]
        exact chain_ok page r _ (p.pos + 8) h.2 (by omega)
    · rw [if_neg c]
      exact chain_ok page r e (p.pos + 8) h.2 (by omega)
theorem relsTo_rise {i : M.Im} (hc : M.chkN i = 0) (k : Nat) (hk : k + 1 < i.rels.length) : (M.rlAt i.rels k).pos + 8 ≤ (M.rlAt i.rels (k + 1)).pos := by
  have h := rel_at hc (k + 1) hk
  unfold M.relAt at h
  simp only [Bool.and_eq_true, Bool.or_eq_true] at h
  rcases h.1 with g | g
  · simp at g
  · simpa using g
theorem pat_chain {l : List Ob} {o : Ob} (hc : M.chkN o.i = 0) : ∀ (k : Nat) (ps : List Pt), k ≤ o.i.rels.length → patTo l o k = some ps → Chain (o.base * 16) ps ∧ (lastE (o.base * 16) ps = if k = 0 then o.base * 16 else o.base * 16 + (M.rlAt o.i.rels (k - 1)).pos + 8)
  | 0, ps, _, h => by simp only [patTo] at h; injection h with h; subst h; exact ⟨trivial, rfl⟩
  | k + 1, ps, hk, h => by
    cases e : patTo l o k with
    | none => rw [patTo_none e (k + 1) (by omega)] at h; cases h
    | some qs =>
      cases g : tgtN l o (M.rlAt o.i.rels k).name with
      | none =>
        simp only [patTo] at h
        rw [e] at h
        simp only at h
        rw [g] at h
        cases h
      | some t =>
        rw [LW.pat_next e g] at h
        injection h with h
        subst h
        obtain ⟨ih1, ih2⟩ := pat_chain hc k qs (by omega) e
        have hb := rel_bounds hc k (by omega)
        have hsz : (ptOf o (M.rlAt o.i.rels k) t).bytes.size = 8 := by
          show (⟨(Lib.leBytes 8 (CM.low (t + (M.rlAt o.i.rels k).add))).toArray⟩ : ByteArray).size = 8
          rw [Lib.size_eq]
          simp [Lib.leBytes]
        have hpos : (ptOf o (M.rlAt o.i.rels k) t).pos = o.base * 16 + (M.rlAt o.i.rels k).pos := rfl
        refine ⟨chain_snoc qs _ _ ih1 ?_ hsz, ?_⟩
        · rw [ih2, hpos]
          by_cases k0 : k = 0
          · rw [if_pos k0]; omega
          · rw [if_neg k0]
            have := relsTo_rise hc (k - 1) (by omega)
            rw [show k - 1 + 1 = k by omega] at this
            omega
        · rw [lastE_snoc, if_neg (by omega), hpos, Nat.add_sub_cancel]
theorem sheet_ok {l : List Ob} (hg : Geo l) {j k m p : Nat} (h : Spot l j k m p) {ps : List Pt} (hps : patN l (obAt l j) = some ps) (s : Sh) (h1 : s.page = (p : Int)) (h2 : s.data = pageN (M.sgAt (obAt l j).i.segs k) m) (h3 : s.fixes = fixesN (p : Int) ps) : sheetB s = true := by
  have hr := h.rng hg
  have hpg := hg.pg j h.hj
  unfold sheetB headB
  rw [decide_eq_true (by rw [h1, h2, pageN_size]; omega), Bool.true_and, h3]
  exact fixes_ok (chain_ok (p : Int) ps 0 _ (pat_chain (hg.chk j h.hj) _ ps (Nat.le_refl _) hps).1 (by omega))

/-! each sheet has its spot -/
theorem pg_spot {l : List Ob} (j : Nat) (hj : j < l.length) (hg : Geo l) (ps : List Pt) (k : Nat) (hk : k < (obAt l j).i.segs.length) (n : Nat) (hn : n ≤ (M.sgAt (obAt l j).i.segs k).pages.toNat) : ∀ x ∈ pgsTo (obAt l j) ps (M.sgAt (obAt l j).i.segs k) n, ∃ m p, Spot l j k m p ∧ x = ⟨(p : Int), pageN (M.sgAt (obAt l j).i.segs k) m, fixesN (p : Int) ps⟩ := fun x hx => by
  unfold pgsTo at hx
  obtain ⟨m, hm, rfl⟩ := List.mem_map.1 hx
  have hm' := List.mem_range.1 hm
  have hb := seg_bounds (hg.chk j hj) k hk
  have hp := hg.pg j hj
  obtain ⟨p, hpe⟩ : ∃ p : Nat, (p : Int) = (obAt l j).base + (M.sgAt (obAt l j).i.segs k).page + (m : Int) := ⟨((obAt l j).base + (M.sgAt (obAt l j).i.segs k).page + (m : Int)).toNat, by omega⟩
  refine ⟨m, p, ⟨hj, hk, by omega, hpe⟩, ?_⟩
  unfold pgN
  rw [hpe]
theorem sg_spot {l : List Ob} (j : Nat) (hj : j < l.length) (hg : Geo l) (ps : List Pt) : ∀ n, n ≤ (obAt l j).i.segs.length → ∀ x ∈ sgsTo (obAt l j) ps n, ∃ k m p, k < n ∧ Spot l j k m p ∧ x = ⟨(p : Int), pageN (M.sgAt (obAt l j).i.segs k) m, fixesN (p : Int) ps⟩
  | 0, _, x, hx => by simp [sgsTo] at hx
  | n + 1, hn, x, hx => by
    simp only [sgsTo] at hx
    rcases List.mem_append.1 hx with h | h
    · obtain ⟨k, m, p, h1, h2⟩ := sg_spot j hj hg ps n (by omega) x h
      exact ⟨k, m, p, by omega, h2⟩
    · obtain ⟨m, p, h2⟩ := pg_spot j hj hg ps n (by omega) _ (Nat.le_refl _) x h
      exact ⟨n, m, p, by omega, h2⟩
theorem ob_spot {l : List Ob} (hg : Geo l) : ∀ n, n ≤ l.length → ∀ E, obsTo l n = some E → ∀ x ∈ E, ∃ j k m p ps, j < n ∧ Spot l j k m p ∧ patN l (obAt l j) = some ps ∧ x = ⟨(p : Int), pageN (M.sgAt (obAt l j).i.segs k) m, fixesN (p : Int) ps⟩
  | 0, _, E, h, x, hx => by
    simp only [obsTo] at h
    injection h with h
    subst h
    simp at hx
  | n + 1, hn, E, h, x, hx => by
    cases e : obsTo l n with
    | none => rw [obsTo_none e (n + 1) (by omega)] at h; cases h
    | some E' =>
      obtain ⟨ps, hps⟩ := LW.obs_pats h n (by omega)
      rw [LW.obs_next e hps] at h
      injection h with h
      subst h
      rcases List.mem_append.1 hx with g | g
      · obtain ⟨j, k, m, p, qs, h1, h2⟩ := ob_spot hg n (by omega) E' e x g
        exact ⟨j, k, m, p, qs, by omega, h2⟩
      · obtain ⟨k, m, p, h1, h2, h3⟩ := sg_spot n (by omega) hg ps _ (Nat.le_refl _) x g
        exact ⟨n, k, m, p, ps, by omega, h2, hps, h3⟩
/-! .. and each spot its sheet; the pages rise -/
theorem pg_pages (o : Ob) (ps : List Pt) (s : M.Sg) (n : Nat) : (pgsTo o ps s n).map (·.page) = pagesN ⟨o.base + s.page, 0, 0, false⟩ n := by
  unfold pgsTo pagesN pgN
  rw [List.map_map]
  rfl
theorem sg_pages {o : Ob} (hc : M.chkN o.i = 0) (ps : List Pt) : ∀ n, n ≤ o.i.segs.length → Rising ((sgsTo o ps n).map (·.page)) ∧ (∀ x, x ∈ (sgsTo o ps n).map (·.page) ↔ ∃ k, k < n ∧ o.base + (M.sgAt o.i.segs k).page ≤ x ∧ x < o.base + (M.sgAt o.i.segs k).page + (M.sgAt o.i.segs k).pages)
  | 0, _ => ⟨List.Pairwise.nil, fun x => ⟨fun h => by simp [sgsTo] at h, fun ⟨k, hk, _⟩ => by omega⟩⟩
  | n + 1, hn => by
    obtain ⟨ih1, ih2⟩ := sg_pages hc ps n (by omega)
    have hb := seg_bounds hc n (by omega)
    simp only [sgsTo]
    rw [List.map_append, pg_pages]
    have hmem : ∀ x, x ∈ pagesN ⟨o.base + (M.sgAt o.i.segs n).page, 0, 0, false⟩ (M.sgAt o.i.segs n).pages.toNat ↔ o.base + (M.sgAt o.i.segs n).page ≤ x ∧ x < o.base + (M.sgAt o.i.segs n).page + (M.sgAt o.i.segs n).pages := fun x => by
      rw [pagesN_mem]
      simp only
      omega
    refine ⟨List.pairwise_append.2 ⟨ih1, pagesN_rising _ _, fun a ha b hb2 => ?_⟩, fun x => ?_⟩
    · obtain ⟨k, hk, h1, h2⟩ := (ih2 a).1 ha
      have h3 := (hmem b).1 hb2
      have h4 := segs_rise hc n k hk (by omega)
      omega
    · rw [List.mem_append, ih2, hmem]
      constructor
      · rintro (⟨k, hk, h⟩ | h)
        · exact ⟨k, by omega, h⟩
        · exact ⟨n, by omega, h⟩
      · rintro ⟨k, hk, h⟩
        by_cases e : k = n
        · subst e; exact .inr h
        · exact .inl ⟨k, by omega, h⟩
def InOb (o : Ob) (x : Int) : Prop := ∃ k, k < o.i.segs.length ∧ o.base + (M.sgAt o.i.segs k).page ≤ x ∧ x < o.base + (M.sgAt o.i.segs k).page + (M.sgAt o.i.segs k).pages
theorem inOb_rng {o : Ob} (hc : M.chkN o.i = 0) {x : Int} (h : InOb o x) : o.base ≤ x ∧ x < endO o := by
  obtain ⟨k, hk, h1, h2⟩ := h
  have hb := seg_bounds hc k hk
  have hl := segs_last hc k hk
  unfold endO
  omega
theorem ob_pages {l : List Ob} (hg : Geo l) : ∀ n, n ≤ l.length → ∀ E, obsTo l n = some E → Rising (E.map (·.page)) ∧ (∀ x, x ∈ E.map (·.page) ↔ ∃ j, j < n ∧ InOb (obAt l j) x)
  | 0, _, E, h => by
    simp only [obsTo] at h
    injection h with h
    subst h
    exact ⟨List.Pairwise.nil, fun x => ⟨fun h => by simp at h, fun ⟨k, hk, _⟩ => by omega⟩⟩
  | n + 1, hn, E, h => by
    cases e : obsTo l n with
    | none => rw [obsTo_none e (n + 1) (by omega)] at h; cases h
    | some E' =>
      obtain ⟨ps, hps⟩ := LW.obs_pats h n (by omega)
      rw [LW.obs_next e hps] at h
      injection h with h
      subst h
      obtain ⟨ih1, ih2⟩ := ob_pages hg n (by omega) E' e
      obtain ⟨s1, s2⟩ := sg_pages (hg.chk n (by omega)) ps _ (Nat.le_refl _)
      rw [List.map_append]
      refine ⟨List.pairwise_append.2 ⟨ih1, s1, fun a ha b hb => ?_⟩, fun x => ?_⟩
      · obtain ⟨j, hj, h1⟩ := (ih2 a).1 ha
        have r1 := inOb_rng (hg.chk j (by omega)) h1
        have r2 := inOb_rng (hg.chk n (by omega)) ((s2 b).1 hb)
        have := hg.ord n j hj (by omega)
        omega
      · rw [List.mem_append, ih2, s2]
        constructor
        · rintro (⟨j, hj, h⟩ | h)
          · exact ⟨j, by omega, h⟩
          · exact ⟨n, by omega, h⟩
        · rintro ⟨j, hj, h⟩
          by_cases c : j = n
          · subst c; exact .inr h
          · exact .inl ⟨j, by omega, h⟩
/-! the board has the same pages -/
theorem bsg_at (o : Ob) (hc : M.chkN o.i = 0) (F : Nat → AM.St) (q : Nat) (j : Nat) (hj : j < o.i.segs.length) (h : o.base + (M.sgAt o.i.segs j).page ≤ (q : Int) ∧ (q : Int) < o.base + (M.sgAt o.i.segs j).page + (M.sgAt o.i.segs j).pages) :
    ∀ k, k ≤ o.i.segs.length → j < k → bsg o F k q = ⟨true, protN (M.sgAt o.i.segs j), false⟩
  | 0, _, hk => by omega
  | k + 1, hk, hjk => by
    simp only [bsg]
    unfold AM.layTo
    by_cases e : j = k
    · subst e
      rw [if_pos (by unfold arO; exact h)]
      rfl
    · have := segs_rise hc k j (by omega) (by omega)
      rw [if_neg (by unfold arO; simp only; omega)]
      exact bsg_at o hc F q j hj h k (by omega) (by omega)
theorem bsg_out (o : Ob) (F : Nat → AM.St) (q : Nat) : ∀ k, k ≤ o.i.segs.length → (∀ j, j < k → ¬ (o.base + (M.sgAt o.i.segs j).page ≤ (q : Int) ∧ (q : Int) < o.base + (M.sgAt o.i.segs j).page + (M.sgAt o.i.segs j).pages)) → bsg o F k q = F q
  | 0, _, _ => rfl
  | k + 1, hk, h => by
    simp only [bsg]
    unfold AM.layTo
    rw [if_neg (by unfold arO; exact h k (by omega))]
    exact bsg_out o F q k (by omega) (fun j hj => h j (by omega))
theorem bob_at {l : List Ob} (hg : Geo l) (q j k : Nat) (hj : j < l.length) (hk : k < (obAt l j).i.segs.length) (h : (obAt l j).base + (M.sgAt (obAt l j).i.segs k).page ≤ (q : Int) ∧ (q : Int) < (obAt l j).base + (M.sgAt (obAt l j).i.segs k).page + (M.sgAt (obAt l j).i.segs k).pages) :
    ∀ n, n ≤ l.length → j < n → bob l n q = ⟨true, protN (M.sgAt (obAt l j).i.segs k), false⟩
  | 0, _, hn => by omega
  | n + 1, hn, hjn => by
    simp only [bob]
    by_cases e : j = n
    · subst e
      exact bsg_at _ (hg.chk j hj) _ q k hk h _ (Nat.le_refl _) hk
    · rw [bsg_out _ _ q _ (Nat.le_refl _) (fun i hi g => ?_)]
      · exact bob_at hg q j k hj hk h n (by omega) (by omega)
      · have r1 := inOb_rng (hg.chk j hj) ⟨k, hk, h⟩
        have r2 := inOb_rng (hg.chk n (by omega)) ⟨i, hi, g⟩
        have := hg.ord n j (by omega) (by omega)
        omega
theorem bob_none {l : List Ob} (q : Nat) : ∀ n, n ≤ l.length → (∀ j, j < n → ¬ InOb (obAt l j) (q : Int)) → bob l n q = AM.off
  | 0, _, _ => rfl
  | n + 1, hn, h => by
    simp only [bob]
    rw [bsg_out _ _ q _ (Nat.le_refl _) (fun i hi g => h n (by omega) ⟨i, hi, g⟩)]
    exact bob_none q n (by omega) (fun j hj => h j (by omega))
end Go.Proofs.Yteieplodndfbhaa.LM
/- What is linked is right: Check says so; plain Lean. -/
namespace Go.Proofs.Yteieplodndfbhaa.LM
open Go.RowKit
set_option linter.unusedVariables false
set_option maxRecDepth 100000

theorem addIx_head (ix : List Nat) (j : Nat) (h : 0 < ix.length) : (addIx ix j).getD 0 0 = ix.getD 0 0 := by
  unfold addIx
  split
  · rfl
  · rw [List.getD_eq_getElem?_getD, List.getElem?_append_left h, ← List.getD_eq_getElem?_getD]
theorem ordTo_head {all : List Li} {ix : List Nat} {needs : List ByteArray} (h : 0 < ix.length) : ∀ k ix', ordTo all ix needs k = some ix' → ix'.getD 0 0 = ix.getD 0 0 ∧ 0 < ix'.length
  | 0, ix', e => by simp only [ordTo] at e; injection e with e; subst e; exact ⟨rfl, h⟩
  | k + 1, ix', e => by
    cases g : ordTo all ix needs k with
    | none => rw [ordTo_none g (k + 1) (by omega)] at e; cases e
    | some jx =>
      cases q : ixOf all (M.strAt needs k) with
      | none => rw [ordTo_miss g q] at e; cases e
      | some j =>
        rw [ordTo_step g q] at e
        injection e with e
        subst e
        obtain ⟨h1, h2⟩ := ordTo_head h k jx g
        have := addIx_len jx j
        exact ⟨(addIx_head jx j h2).trans h1, by omega⟩
theorem gat_head {all : List Li} : ∀ (f n : Nat) (ix ix' : List Nat), 0 < ix.length → gat all f n ix = some ix' → ix'.getD 0 0 = ix.getD 0 0
  | 0, n, ix, ix', h, e => by simp only [gat] at e; injection e with e; subst e; rfl
  | f + 1, n, ix, ix', h, e => by
    by_cases hn : n < ix.length
    · cases g : ordTo all ix (needsAt all ix n) (needsAt all ix n).length with
      | none => rw [gat_none all f n ix hn g] at e; cases e
      | some jx =>
        rw [gat_some all f n ix jx hn g] at e
        obtain ⟨h1, h2⟩ := ordTo_head h _ jx g
        exact (gat_head f (n + 1) jx ix' h2 e).trans h1
    · rw [gat_end all (f + 1) n ix hn] at e
      injection e with e
      subst e
      rfl
theorem zeroTo_none (l : List AM.Ar) (h : ∀ k, k < l.length → (AM.at_ l k).zero = false) : ∀ n, n ≤ l.length → zeroTo l n = false
  | 0, _ => rfl
  | n + 1, hn => by
    simp only [zeroTo]
    rw [zeroTo_none l h n (by omega), h n (by omega)]
    rfl
theorem sheetsTo_all (hs : List Sh) (h : ∀ k, k < hs.length → sheetB (shAt hs k) = true) : ∀ n, n ≤ hs.length → sheetsTo hs n = true
  | 0, _ => rfl
  | n + 1, hn => by
    simp only [sheetsTo]
    rw [sheetsTo_all hs h n (by omega), h n (by omega)]
    rfl
/-- the sheet k is one of what is linked -/
theorem sh_spot {l : List Ob} (hg : Geo l) {E : List Sp} (hE : sheetsN l = some E) {hs : List Sh} (hm : hs.map plain = E) (i : Nat) (hi : i < hs.length) : ∃ j k m p ps, Spot l j k m p ∧ patN l (obAt l j) = some ps ∧ (shAt hs i).page = (p : Int) ∧ (shAt hs i).data = pageN (M.sgAt (obAt l j).i.segs k) m ∧ (shAt hs i).fixes = fixesN (p : Int) ps := by
  have hin : plain (shAt hs i) ∈ E := by
    rw [← hm]
    refine List.mem_map.2 ⟨_, ?_, rfl⟩
    unfold shAt
    rw [List.getD_eq_getElem?_getD, List.getElem?_eq_getElem hi]
    exact List.getElem_mem hi
  obtain ⟨j, k, m, p, ps, _, h1, h2, h3⟩ := ob_spot hg _ (Nat.le_refl _) E hE _ hin
  exact ⟨j, k, m, p, ps, h1, h2, congrArg Sp.page h3, congrArg Sp.data h3, congrArg Sp.fixes h3⟩
theorem entry_of {i : M.Im} (hc : M.chkN i = 0) : ∃ k, k < i.segs.length ∧ (M.sgAt i.segs k).ex = true ∧ i.entry % 8 = 0 ∧ (M.sgAt i.segs k).page * 16 ≤ i.entry ∧ i.entry < ((M.sgAt i.segs k).page + (M.sgAt i.segs k).pages) * 16 := by
  have h := places_of hc
  unfold M.placesB at h
  simp only [Bool.and_eq_true] at h
  have he := h.2.2
  unfold M.entryB at he
  cases e : M.segIn i.segs i.entry with
  | none => rw [e] at he; cases he
  | some s =>
    rw [e] at he
    simp only [Bool.and_eq_true, decide_eq_true_eq] at he
    obtain ⟨⟨k, hk, hs⟩, hi⟩ := segIn_mem e
    unfold M.inSeg at hi
    have hi' := of_decide_eq_true hi
    subst hs
    exact ⟨k, hk, he.1, he.2, hi'⟩
theorem linked_right {all : List Li} {ix : List Nat} (hc : ∀ j, j < all.length → M.chkN (liAt all j).i = 0) (hx : OkIx all ix) (h0 : ix.getD 0 0 = 0) (he : endFrom all 1 ix ≤ 256) {E : List Sp} (hE : sheetsN (obsFrom all 1 ix) = some E) {hs : List Sh} (hm : hs.map plain = E) :
    checkL (areasN (obsFrom all 1 ix)) hs (addrO (obAt (obsFrom all 1 ix) 0) (liAt all 0).i.entry) = 0 := by
  have hg := geo_of hc hx he
  obtain ⟨ha, hf⟩ := areas_eq hc hx he
  have hat := obsFrom_at all ix 1 0 hx.pos
  rw [h0] at hat
  have hl0 : 0 < (obsFrom all 1 ix).length := by rw [obsFrom_length]; exact hx.pos
  have hz : anyZeroB (areasN (obsFrom all 1 ix)) = false := by
    refine zeroTo_none _ (fun k hk => ?_) _ (Nat.le_refl _)
    unfold areasN at hk ⊢
    rw [List.length_map] at hk
    rw [at_map _ _ hk]
    rfl
  rw [ha] at hz ⊢
  rw [← hat.1]
  obtain ⟨l, hl⟩ : ∃ l, l = obsFrom all 1 ix := ⟨_, rfl⟩
  rw [← hl] at hg hf hl0 hE hz ⊢
  clear hl ha hat
  have hck := AM.check_gather _ hf
  have hlook := fun q : Nat => AM.gather_look _ hf q
  obtain ⟨F, hF⟩ : ∃ F, F = bob l l.length := ⟨_, rfl⟩
  have hFat := fun (q j k : Nat) hj hk h => bob_at hg q j k hj hk h l.length (Nat.le_refl _) hj
  have hFno := fun q : Nat => bob_none (l := l) q l.length (Nat.le_refl _)
  rw [← hF] at hck hlook hFat hFno hz ⊢
  clear hF
  obtain ⟨A, hA⟩ : ∃ A, A = AM.gatherN F := ⟨_, rfl⟩
  rw [← hA] at hck hlook hz ⊢
  clear hA
  have hgood := fun i hi => AM.okAt_pages A i (AM.good_pages A hck i hi)
  obtain ⟨hrise, hmem⟩ := ob_pages hg _ (Nat.le_refl _) E hE
  have hpg : hs.map (·.page) = E.map (·.page) := by
    rw [← hm, List.map_map]
    rfl
  have hinK : ∀ x, x ∈ pagesOf A ↔ ∃ j, j < l.length ∧ InOb (obAt l j) x := fun x => by
    unfold pagesOf
    rw [pagesTo_mem]
    constructor
    · rintro ⟨k, hk, hh⟩
      have hb := hgood k hk
      have hh2 := (AM.hit_iff _ _).1 hh
      obtain ⟨q, hq⟩ : ∃ q : Nat, x = (q : Int) := ⟨x.toNat, by omega⟩
      subst hq
      obtain ⟨i, hi, hfi⟩ := find_hit A (q : Int) k hk hh
      have hm1 : (AM.look A q).m = true := by rw [AM.look_m, hfi]
      rw [hlook q (by omega)] at hm1
      by_cases c : ∃ j, j < l.length ∧ InOb (obAt l j) (q : Int)
      · exact c
      · rw [hFno q (fun j hj g => c ⟨j, hj, g⟩)] at hm1
        cases hm1
    · rintro ⟨j, hj, k, hk, h1, h2⟩
      have r := inOb_rng (hg.chk j hj) ⟨k, hk, h1, h2⟩
      have hp := hg.pg j hj
      obtain ⟨q, hq⟩ : ∃ q : Nat, x = (q : Int) := ⟨x.toNat, by omega⟩
      subst hq
      have hm1 : (AM.look A q).m = true := by rw [hlook q (by omega), hFat q j k hj hk ⟨h1, h2⟩]
      rw [AM.look_m] at hm1
      exact found_hit A (q : Int) hm1
  have hfor : forEachB A hs = true := by
    unfold forEachB
    refine decide_eq_true ?_
    rw [hpg]
    have hK : Rising (pagesOf A) := pagesTo_rising A hck _ (Nat.le_refl _)
    exact rising_eq _ _ hrise hK (fun z hz2 => (hinK z).2 ((hmem z).1 hz2)) (rising_len _ _ hK hrise (fun z hz2 => (hmem z).2 ((hinK z).1 hz2)))
  have hsb : sheetsB hs = true := sheetsTo_all hs (fun i hi => by
    obtain ⟨j, k, m, p, ps, h1, h2, h3, h4, h5⟩ := sh_spot hg hE hm i hi
    exact sheet_ok hg h1 h2 _ h3 h4 h5) _ (Nat.le_refl _)
  have hent : entB A (addrO (obAt l 0) (obAt l 0).i.entry) = true := by
    obtain ⟨k, hk, hex, hen, hb1, hb2⟩ := entry_of (hg.chk 0 hl0)
    have hp := hg.pg 0 hl0
    have hsb2 := seg_bounds (hg.chk 0 hl0) k hk
    obtain ⟨o, ho⟩ : ∃ o, o = obAt l 0 := ⟨_, rfl⟩
    have hFa := fun q => hFat q 0 k hl0 hk
    rw [← ho] at hk hex hen hb1 hb2 hp hsb2 hFa ⊢
    have hr := inOb_rng (o := o) (by rw [ho]; exact hg.chk 0 hl0) (x := o.base + o.i.entry / 16) ⟨k, hk, by omega, by omega⟩
    clear ho
    obtain ⟨q, hq⟩ : ∃ q : Nat, o.base + o.i.entry / 16 = (q : Int) := ⟨(o.base + o.i.entry / 16).toNat, by omega⟩
    have hFq := hFa q (by omega)
    have e1 : (addrO o o.i.entry).tdiv 16 = (q : Int) := by
      unfold addrO
      rw [Int.tdiv_eq_ediv_of_nonneg (by omega)]
      omega
    have e2 : (addrO o o.i.entry).tmod 8 = 0 := by
      unfold addrO
      rw [Int.tmod_eq_emod_of_nonneg (by omega)]
      omega
    have hlk : AM.look A q = ⟨true, protN (M.sgAt o.i.segs k), false⟩ := by rw [hlook q (by omega), hFq]
    have hpr : 2 ≤ protN (M.sgAt o.i.segs k) := by
      unfold protN
      rw [hex]
      split <;> simp
    unfold AM.look at hlk
    simp only at hlk
    unfold entB
    rw [e1, e2]
    by_cases c : (AM.findFrom A (q : Int)).2 = true
    · rw [if_pos c] at hlk
      have hprot := congrArg AM.St.p hlk
      simp only at hprot
      rw [c, hprot, decide_eq_true hpr]
      rfl
    · rw [if_neg c] at hlk
      have := congrArg AM.St.m hlk
      cases this
  unfold checkL
  rw [if_pos hck, hz, hfor, hsb, hent]
  rfl
end Go.Proofs.Yteieplodndfbhaa.LM
