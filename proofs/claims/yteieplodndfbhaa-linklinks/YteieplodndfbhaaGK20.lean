import Derived.Test.YteieplodndfbhaaGK15
import Derived.Deep.RegionLaw
import Derived.Test.YteieplodndfbhaaGK07
/- The linker: Link, the walk. -/
namespace Go.Proofs.Yteieplodndfbhaa.LW
open Go.RowKit Go.WideMaps Go.Maps
open Go.Proofs.Yteieplodndfbhaa.W (hideC)
set_option linter.unusedVariables false
set_option maxRecDepth 100000

/-- how Link ends -/
def OutL (all : List LM.Li) (w : World) (e : Ending) (w' : World) : Prop := Below w.heap.size w w' ∧
  if LM.linkErr all = 0 then ∃ (ix : List Nat) (E : List LM.Sp) (r : Value) (hs : List LM.Sh) (ao : Option Addr) (cap : Nat), LM.gat all all.length 0 [0] = some ix ∧ LM.sheetsN (LM.obsFrom all 1 ix) = some E ∧ hs.map LM.plain = E ∧
    e = .returned (.tuple #[.agg #[r, .slice ao hs.length cap, .int .i64 (LM.addrO (LM.obAt (LM.obsFrom all 1 ix) 0) (LM.liAt all 0).i.entry)], .int .i64 0]) ∧ AW.Own w.heap.size w' r (LM.areasN (LM.obsFrom all 1 ix)) ∧ LM.HasH w' ao hs ∧ hs.length ≤ cap
  else e = .returned (.tuple #[.agg #[.slice none 0 0, .slice none 0 0, .int .i64 0], .int .i64 (LM.linkErr all)])

theorem cell_set3 (V : World) (rb b j : Nat) (u0 u1 u2 : Value) (h : b ≠ rb) : (((V.setCell ⟨rb, 0, none⟩ u0).setCell ⟨rb, 1, none⟩ u1).setCell ⟨rb, 2, none⟩ u2).cell? ⟨b, j, none⟩ = V.cell? ⟨b, j, none⟩ := by
  rw [World.cell?_setCell_far _ ⟨rb, 2, none⟩ ⟨b, j, none⟩ u2 (Ne.symm h), World.cell?_setCell_far _ ⟨rb, 1, none⟩ ⟨b, j, none⟩ u1 (Ne.symm h), World.cell?_setCell_far _ ⟨rb, 0, none⟩ ⟨b, j, none⟩ u0 (Ne.symm h)]
def set3 (V : World) (rb : Nat) (u0 u1 u2 : Value) : World := ((V.setCell ⟨rb, 0, none⟩ u0).setCell ⟨rb, 1, none⟩ u1).setCell ⟨rb, 2, none⟩ u2
theorem set3_size (V : World) (rb : Nat) (u0 u1 u2 : Value) : (set3 V rb u0 u1 u2).heap.size = V.heap.size := by simp [set3]
theorem no_is {V : World} {rb b off : Nat} {t : TypeId} {x : Int} {y : ByteArray} (h : V.heap[rb]? = some (.cells #[.slice none 0 0, .slice none 0 0, .int .i64 0] t (0, 0))) (c0 : V.cell? ⟨b, off, none⟩ = some (.int .i64 x)) (c1 : V.cell? ⟨b, off + 1, none⟩ = some (.string y)) : b ≠ rb := fun e => by
  rw [e] at c0 c1
  simp only [World.cell?, h] at c0 c1
  match off with
  | 0 => simp at c0
  | 1 => simp at c0
  | 2 => simp at c1
  | n + 3 => simp at c0
theorem hasF_set3 {V : World} {rb : Nat} {t : TypeId} (h : V.heap[rb]? = some (.cells #[.slice none 0 0, .slice none 0 0, .int .i64 0] t (0, 0))) {ao : Option Addr} {l : List LM.Fx} (g : LM.HasF V ao l) (u0 u1 u2 : Value) : LM.HasF (set3 V rb u0 u1 u2) ao l := fun hl => by
  obtain ⟨b, off, e, hb, hlie⟩ := g hl
  obtain ⟨c0, c1⟩ := hlie 0 hl
  have hne := no_is h c0 c1
  refine ⟨b, off, e, by rw [set3_size]; exact hb, fun k hk => ?_⟩
  obtain ⟨d0, d1⟩ := hlie k hk
  exact ⟨(cell_set3 V rb b _ u0 u1 u2 hne).trans d0, (cell_set3 V rb b _ u0 u1 u2 hne).trans d1⟩
theorem hasH_set3 {V : World} {rb : Nat} {t : TypeId} (h : V.heap[rb]? = some (.cells #[.slice none 0 0, .slice none 0 0, .int .i64 0] t (0, 0))) {ao : Option Addr} {l : List LM.Sh} (g : LM.HasH V ao l) (u0 u1 u2 : Value) : LM.HasH (set3 V rb u0 u1 u2) ao l := fun hl => by
  obtain ⟨b, off, e, hb, hlie⟩ := g hl
  obtain ⟨c0, c1, _, _⟩ := hlie 0 hl
  have hne := no_is h c0 c1
  refine ⟨b, off, e, by rw [set3_size]; exact hb, fun k hk => ?_⟩
  obtain ⟨d0, d1, d2, d3⟩ := hlie k hk
  exact ⟨(cell_set3 V rb b _ u0 u1 u2 hne).trans d0, (cell_set3 V rb b _ u0 u1 u2 hne).trans d1, (cell_set3 V rb b _ u0 u1 u2 hne).trans d2, hasF_set3 h d3 u0 u1 u2⟩
theorem own_set3 {V : World} {rb lo : Nat} {v : Value} {l : List AM.Ar} (h : AW.Own lo V v l) (hlt : rb < lo) (u0 u1 u2 : Value) : AW.Own lo (set3 V rb u0 u1 u2) v l :=
  ownsRow_setCell_below (ownsRow_setCell_below (ownsRow_setCell_below h hlt _) hlt _) hlt _
set_option maxHeartbeats 6000000 in
theorem link_any (p : LM.Li) (libs : List LM.Li) (ao : Option Addr) (cap : Nat) (w : World) (hp : M.HasIm w p.a p.i) (h : LM.HasI w ao libs) (hfp : M.Fit p.i) (hf : LM.FitI libs) :
    Calls Try.prog 6 #[LM.imgV p, .slice ao libs.length cap] w (OutL (p :: libs) w) := by
  have hsl : libs.length ≤ 140737488351232 := hf.1
  have HP := hideC hp
  have HL := hideC h
  have HIM : Hid (∀ V, Below w.heap.size w V → ∀ k, k < (p :: libs).length → M.HasIm V (LM.liAt (p :: libs) k).a (LM.liAt (p :: libs) k).i) := fun V hb k hk => by
    cases k with
    | zero => exact hp.below hb
    | succ k =>
      have hk' : k < libs.length := by simpa using hk
      obtain ⟨b, off, _, _, hl⟩ := h (by omega)
      exact (hl k hk').2.below hb
  have HFA : Hid (∀ k, k < (p :: libs).length → M.Fit (LM.liAt (p :: libs) k).i) := fun k hk => by
    cases k with
    | zero => exact hfp
    | succ k => exact hf.2 k (by simpa using hk)
  clear hp h hfp hf
  have HBB := hideC (((Below.refl w.heap.size w).alloc (Nat.le_refl _) (.cells (M.cellsI p.a p.i) 27)).alloc (by simp) (.cells #[.slice none 0 0, .slice none 0 0, .int .i64 0] 32))
  have BM := hideC (B.alloc (B.new w (M.cellsI p.a p.i) 27) (.cells #[.slice none 0 0, .slice none 0 0, .int .i64 0] 32))
  have BR0 := B.new (w.alloc (.cells (M.cellsI p.a p.i) 27)) #[.slice none 0 0, .slice none 0 0, .int .i64 0] 32
  rw [World.size_alloc] at BR0
  have BR := hideC BR0
  clear BR0
  unfold LM.imgV
  go_enter Try.func6, Try.ntmps6
  by_cases h6 : 6 < libs.length
  · have HE : Hid (LM.linkErr (p :: libs) = 2) := by
      show _ = _
      unfold LM.linkErr
      rw [if_pos (by simp; omega)]
    clear BM BR
    simp only [M.cellsI] at HBB ⊢
    go_wp2
    exact bodyPost_ret (v := .tuple #[.agg #[.slice none 0 0, .slice none 0 0, .int .i64 0], .int .i64 2]) (by simp [results, Try.results6, go_sem]) rfl ⟨HBB.out, by rw [HE.out]; simp⟩
  · have h7 : (p :: libs).length ≤ 7 := by simp; omega
    have HOW0 : Hid ((((w.alloc (.cells (M.cellsI p.a p.i) 27)).alloc (.cells #[.slice none 0 0, .slice none 0 0, .int .i64 0] 32)).alloc (.cells (M.cellsI p.a p.i) 27)).ownsRow (w.heap.size + 2) 27 6 (.slice (some ⟨w.heap.size + 2, 0, none⟩) 1 1) 1 (LM.cellI p)) := by
      have h := World.ownsRow_lit (base := w.heap.size + 2) (e := 27) (size := 6) ((w.alloc (.cells (M.cellsI p.a p.i) 27)).alloc (.cells #[.slice none 0 0, .slice none 0 0, .int .i64 0] 32)) (M.cellsI p.a p.i) 1 (by simp) (by decide) rfl
      have e : ((w.alloc (.cells (M.cellsI p.a p.i) 27)).alloc (.cells #[.slice none 0 0, .slice none 0 0, .int .i64 0] 32)).heap.size = w.heap.size + 2 := by simp
      rw [e] at h
      exact h
    have HB3 := hideC (HBB.out.alloc (by simp; omega) (.cells (M.cellsI p.a p.i) 27))
    have BM3 := hideC (B.alloc BM.out (.cells (M.cellsI p.a p.i) 27))
    have BR3 := hideC (B.alloc BR.out (.cells (M.cellsI p.a p.i) 27))
    clear BM BR HBB
    simp only [M.cellsI] at HOW0 HB3 BM3 BR3 ⊢
    go_wp2_with (at_builtin; refine wpList_append_libs rfl _ _ rfl (w.heap.size + 2) p (w.heap.size + 2) (by first | rfl | simp) HOW0.out ao cap libs rfl (HL.out.below HB3.out) (by omega) (by simp) ?_; intro gg capg w1 hown hgrow hlt; have HB1 := hideC (HB3.out.grown hgrow (by simp; omega) (fun q hq => by injection hq with hq; omega)); have BM1 := hideC (B.grown BM3.out hgrow (by simp)); have BR1 := hideC (B.grown BR3.out hgrow (by simp)); have HI1 := hideC (row_im (l := p :: libs) hown hlt (HIM.out _ HB1.out)); clear hown hgrow hlt)
    obtain ⟨all, hall⟩ : ∃ all, all = p :: libs := ⟨_, rfl⟩
    have HLI : Hid (LM.liAt all 0 = p) := by rw [hall]; rfl
    have hlen : libs.length + 1 = all.length := by rw [hall]; rfl
    rw [← hall] at HI1 HIM HFA h7
    rw [← hall, hlen]
    clear HOW0 HB3 BM3 BR3 HL
    have HALL := hideC hall
    clear hall
    refine (byName_any all _ _ _ HI1.out ⟨by unfold M.Short; omega, HFA.out⟩).mono ?_
    rintro e w2 ⟨hb, hout⟩
    have HB2 := hideC (HB1.out.trans (hb.mono HB1.out.size))
    have BM2 := hideC (B.below BM1.out hb (B.isLt BM1.out))
    have BR2 := hideC (B.below BR1.out hb (B.isLt BR1.out))
    clear hb BM1 BR1 HB1 HI1
    by_cases hby : LM.byErr all = 0
    · rw [if_pos hby] at hout
      obtain ⟨m, D, rfl, hmap, hnm⟩ := hout
      obtain ⟨hck, honce⟩ := LM.byErr_zero hby
      have HGI : Hid (Gi all m D w2) := ⟨by omega, h7, hck, HFA.out, honce, HIM.out _ HB2.out, hmap, hnm⟩
      have HCK := hideC hck
      clear hmap hnm honce hck
      have m0 := B.cell BM2.out 0 rfl
      have m1 := B.cell BM2.out 1 rfl
      have m2 := B.cell BM2.out 2 rfl
      have m3 := B.cell BM2.out 3 rfl
      have m4 := B.cell BM2.out 4 rfl
      have m5 := B.cell BM2.out 5 rfl
      have HBY := hideC hby
      clear hby
      go_wp2_with fail
      have HGA := hideC (gather_any all m D w2 HGI.out)
      rw [HLI.out] at HGA
      refine Calls.mono (P := Try.prog) HGA.out ?_
      rintro e w3 ⟨hb, hout⟩
      have HB3 := hideC (HB2.out.trans (hb.mono HB2.out.size))
      have BM3 := hideC (B.below BM2.out hb (B.isLt BM2.out))
      have BR3 := hideC (B.below BR2.out hb (B.isLt BR2.out))
      clear hb BM2 BR2 HGA m0 m1 m2 m3 m4 m5
      have r0 := B.cell BR3.out 0 rfl
      have r1 := B.cell BR3.out 1 rfl
      have r2 := B.cell BR3.out 2 rfl
      have rf := B.free BR3.out
      have rl := B.isLt BR3.out
      cases eg : LM.gat all all.length 0 [0] with
      | none =>
        rw [eg] at hout
        obtain rfl := hout
        have HE : Hid (LM.linkErr all = 6) := by
          show _ = _
          unfold LM.linkErr
          rw [if_neg (by omega), if_pos HBY.out, eg]
        clear eg
        go_wp2
        exact bodyPost_ret (v := .tuple #[.agg #[.slice none 0 0, .slice none 0 0, .int .i64 0], .int .i64 6]) (by simp [results, Try.results6, go_sem, r0, r1, r2]) rfl ⟨((HB3.out.setCell (by simp) _).setCell (by simp) _).setCell (by simp) _, by rw [← HALL.out, HE.out]; simp⟩
      | some ix =>
        rw [eg] at hout
        obtain ⟨hok, ao2, cap2, rfl, hO⟩ := hout
        have hpos := hok.pos
        have hle := hok.le
        have HLE : Hid (LM.endO (LM.obAt (LM.obsFrom all 1 ix) (ix.length - 1)) = LM.endFrom all 1 ix) := LM.obsFrom_last all ix 1 hpos
        have HOI : Hid (Oi (LM.obsFrom all 1 ix) ao2 w3) := by
          refine ⟨hO, by rw [LM.obsFrom_length]; omega, fun k hk => ?_, fun k hk => ?_, LM.obs_base HCK.out h7 hok⟩
          · rw [LM.obsFrom_length] at hk
            rw [(LM.obsFrom_at all ix 1 k hk).1]
            exact HCK.out _ (hok.lt _ (LM.getD_mem ix k hk))
          · rw [LM.obsFrom_length] at hk
            rw [(LM.obsFrom_at all ix 1 k hk).1]
            exact HFA.out _ (hok.lt _ (LM.getD_mem ix k hk))
        have hxl : ix.length = (LM.obsFrom all 1 ix).length := (LM.obsFrom_length all ix 1).symm
        have HERR : Hid (LM.linkErr all = if 256 < LM.endFrom all 1 ix then 3 else match LM.sheetsN (LM.obsFrom all 1 ix) with
            | none => 7
            | some _ => 0) := by
          show _ = _
          unfold LM.linkErr
          rw [if_neg (by omega), if_pos HBY.out, eg]
          dsimp only
          cases LM.sheetsN (LM.obsFrom all 1 ix) <;> rfl
        have HEG := hideC eg
        obtain ⟨EN, hEN⟩ : ∃ EN, EN = LM.endFrom all 1 ix := ⟨_, rfl⟩
        rw [← hEN] at HLE HERR
        obtain ⟨obs, hobs⟩ : ∃ obs, obs = LM.obsFrom all 1 ix := ⟨_, rfl⟩
        rw [← hobs] at HOI HERR HLE hO hxl
        have HOB := hideC hobs
        rw [hxl] at HLE hpos hle
        rw [hxl]
        clear hEN hobs eg hok hxl HGI HBY
        obtain ⟨b, off, hao2, hbl, hlie⟩ := hO hpos
        subst hao2
        obtain ⟨k1, hk1⟩ : ∃ k1, k1 = obs.length - 1 := ⟨_, rfl⟩
        have hk1l : k1 < obs.length := by omega
        rw [← hk1] at HLE
        obtain ⟨⟨c0, c1, c2, c3, c4, c5, c6⟩, him⟩ := hlie k1 hk1l
        have HEN := hideC (fun V hb => end_any (LM.obAt obs k1) V (him.below hb) (HOI.out.chk k1 hk1l) (by have := HOI.out.base k1 hk1l; omega) (by have := HOI.out.base k1 hk1l; omega))
        obtain ⟨o, ho⟩ : ∃ o, o = LM.obAt obs k1 := ⟨_, rfl⟩
        rw [← ho] at c0 c1 c2 c3 c4 c5 c6 HEN HLE
        simp only [LM.cellsO] at HEN
        rw [HLE.out] at HEN
        have hwr : IntKind.i64.wrap ((obs.length : Int) - 1) = (k1 : Int) := by rw [IntWalk.i64_in _ (by omega)]; omega
        clear ho hlie hO him HLE hk1 hlen HP HIM HFA
        by_cases h256 : 256 < EN
        · have HE : Hid (LM.linkErr all = 3) := by
            show _ = _
            rw [HERR.out, if_pos h256]
          clear HERR
          go_wp2_with (go_at_call 20; refine (HEN.out _ (Below.refl _ _)).mono ?_; rintro e w4 ⟨rfl, hb⟩; have HB4 := hideC (HB3.out.trans (hb.mono HB3.out.size)); have BR4 := hideC (B.below BR3.out hb (B.isLt BR3.out)); have s0 := B.cell BR4.out 0 rfl; have s1 := B.cell BR4.out 1 rfl; have s2 := B.cell BR4.out 2 rfl; have sf := B.free BR4.out; have sl := B.isLt BR4.out; clear hb)
          exact bodyPost_ret (v := .tuple #[.agg #[.slice none 0 0, .slice none 0 0, .int .i64 0], .int .i64 3]) (by simp [results, Try.results6, go_sem, s0, s1, s2]) rfl ⟨((HB4.out.setCell (by simp) _).setCell (by simp) _).setCell (by simp) _, by rw [← HALL.out, HE.out]; simp⟩
        · have HSH : Hid (∀ V, Oi obs (some ⟨b, off, none⟩) V → Calls Try.prog 21 #[.slice (some ⟨b, off, none⟩) obs.length cap2] V (OutSh (LM.sheetsN obs) V)) := fun V hV => sheetsOf_any obs _ cap2 V hV (by omega)
          cases es : LM.sheetsN obs with
          | none =>
            have HE : Hid (LM.linkErr all = 7) := by
              show _ = _
              rw [HERR.out, if_neg h256, es]
            rw [es] at HSH
            clear HERR es
            go_wp2_with (first
              | (go_at_call 20; refine (HEN.out _ (Below.refl _ _)).mono ?_; rintro e w4 ⟨rfl, hb⟩; have HB4 := hideC (HB3.out.trans (hb.mono HB3.out.size)); have BR4 := hideC (B.below BR3.out hb (B.isLt BR3.out)); have BM4 := hideC (B.below BM3.out hb (B.isLt BM3.out)); have HOI4 := hideC (HOI.out.below hb); clear hb)
              | (go_at_call 21; refine (HSH.out _ HOI4.out).mono ?_; rintro e w5 ⟨hb, rfl⟩; have HB5 := hideC (HB4.out.trans (hb.mono HB4.out.size)); have BR5 := hideC (B.below BR4.out hb (B.isLt BR4.out)); have s0 := B.cell BR5.out 0 rfl; have s1 := B.cell BR5.out 1 rfl; have s2 := B.cell BR5.out 2 rfl; have sf := B.free BR5.out; have sl := B.isLt BR5.out; clear hb))
            exact bodyPost_ret (v := .tuple #[.agg #[.slice none 0 0, .slice none 0 0, .int .i64 0], .int .i64 7]) (by simp [results, Try.results6, go_sem, s0, s1, s2]) rfl ⟨((HB5.out.setCell (by simp) _).setCell (by simp) _).setCell (by simp) _, by rw [← HALL.out, HE.out]; simp⟩
          | some E =>
            have HE : Hid (LM.linkErr all = 0) := by
              show _ = _
              rw [HERR.out, if_neg h256, es]
            have HES := hideC es
            rw [es] at HSH
            clear HERR es
            go_wp2_with (first
              | (go_at_call 20; refine (HEN.out _ (Below.refl _ _)).mono ?_; rintro e w4 ⟨rfl, hb⟩; have HB4 := hideC (HB3.out.trans (hb.mono HB3.out.size)); have BR4 := hideC (B.below BR3.out hb (B.isLt BR3.out)); have BM4 := hideC (B.below BM3.out hb (B.isLt BM3.out)); have HOI4 := hideC (HOI.out.below hb); clear hb)
              | (go_at_call 21; refine (HSH.out _ HOI4.out).mono ?_; rintro e w5 ⟨hb, hs, ah, ch, hme, rfl, hhh, hcc⟩; have HB5 := hideC (HB4.out.trans (hb.mono HB4.out.size)); have BR5 := hideC (B.below BR4.out hb (B.isLt BR4.out)); have BM5 := hideC (B.below BM4.out hb (B.isLt BM4.out)); have HOI5 := hideC (HOI4.out.below hb); have HME := hideC hme; have HHH := hideC hhh; clear hb hme hhh))
            clear HSH HEN HOI HOI4 BR3 BR4 BM3 BM4 HB3 r0 r1 r2 rf rl c0 c1 c2 c3 c4 c5 c6 hwr hbl hk1l
            obtain ⟨b5, off5, hbe, hbl5, hlie5⟩ := HOI5.out.has hpos
            obtain ⟨⟨d0, d1, d2, d3, d4, d5, d6⟩, dim⟩ := hlie5 0 hpos
            have hbe1 : b = b5 := by injection hbe with hbe; injection hbe
            have hbe2 : off = off5 := by injection hbe with hbe; injection hbe
            rw [← hbe1, ← hbe2] at d0 d1 d2 d3 d4 d5 d6
            rw [← hbe1] at hbl5
            simp only [Nat.zero_mul, Nat.add_zero] at d0 d1 d2 d3 d4 d5 d6
            have hbs0 := HOI5.out.base 0 hpos
            have hen : 0 ≤ p.i.entry ∧ p.i.entry < 4080 := by
              have h := LM.entry_bounds (HCK.out 0 (by omega))
              rw [HLI.out] at h
              exact h
            have HEA : Hid ((LM.liAt all 0).i.entry = p.i.entry) := by rw [HLI.out]; rfl
            have HAR : Hid (∀ V, Below w5.heap.size w5 V → Calls Try.prog 22 #[.slice (some ⟨b, off, none⟩) obs.length cap2] V fun e w' => ∃ r, e = .returned r ∧ AW.Own V.heap.size w' r (LM.areasN obs) ∧ Below V.heap.size V w') := fun V hb => areasOf_any obs _ cap2 V (HOI5.out.below hb) (by omega)
            have HAD := hideC (fun V => address_any (LM.obAt obs 0) p.i.entry V (by omega) (by omega) hen.1 (by omega))
            obtain ⟨o0, ho0⟩ : ∃ o0, o0 = LM.obAt obs 0 := ⟨_, rfl⟩
            have HO0 := hideC ho0
            rw [← ho0] at d0 d1 d2 d3 d4 d5 d6 HAD
            simp only [LM.cellsO] at HAD
            have hne : b ≠ w.heap.size + 1 := fun e => by
              rw [e] at d6
              have h := BR5.out
              simp [World.cell?, h] at d6
            have HS : Hid (∀ V, Below w5.heap.size w5 V → V.cell? ⟨b, off, none⟩ = some (.string o0.i.name) ∧ V.cell? ⟨b, off + 1, none⟩ = some (.slice o0.a.an o0.i.needs.length o0.a.cn) ∧ V.cell? ⟨b, off + 2, none⟩ = some (.slice o0.a.ag o0.i.segs.length o0.a.cg) ∧ V.cell? ⟨b, off + 3, none⟩ = some (.slice o0.a.ay o0.i.syms.length o0.a.cy) ∧ V.cell? ⟨b, off + 4, none⟩ = some (.slice o0.a.ar o0.i.rels.length o0.a.cr) ∧ V.cell? ⟨b, off + 5, none⟩ = some (.int .i64 o0.i.entry) ∧ V.cell? ⟨b, off + 6, none⟩ = some (.int .i64 o0.base) ∧ V.cell? ⟨w.heap.size, 5, none⟩ = some (.int .i64 p.i.entry)) := fun V hb => ⟨(M.below_cell hb hbl5).trans d0, (M.below_cell hb hbl5).trans d1, (M.below_cell hb hbl5).trans d2, (M.below_cell hb hbl5).trans d3, (M.below_cell hb hbl5).trans d4, (M.below_cell hb hbl5).trans d5, (M.below_cell hb hbl5).trans d6, B.cell (B.below BM5.out hb (B.isLt BM5.out)) 5 rfl⟩
            obtain ⟨AD, hAD⟩ : ∃ AD, AD = LM.addrO o0 p.i.entry := ⟨_, rfl⟩
            rw [← hAD] at HAD
            have HADE := hideC hAD
            clear ho0 hAD d0 d1 d2 d3 d4 d5 d6 dim hlie5 hbe hbe1 hbe2
            have HK0 := hideC (Below.refl w5.heap.size w5).drew
            have HS0 := hideC (HS.out _ HK0.out)
            go_region_held3 (fun V => V.cell? ⟨b, off, none⟩ = some (.string o0.i.name) ∧ V.cell? ⟨b, off + 1, none⟩ = some (.slice o0.a.an o0.i.needs.length o0.a.cn) ∧ V.cell? ⟨b, off + 2, none⟩ = some (.slice o0.a.ag o0.i.segs.length o0.a.cg) ∧ V.cell? ⟨b, off + 3, none⟩ = some (.slice o0.a.ay o0.i.syms.length o0.a.cy) ∧ V.cell? ⟨b, off + 4, none⟩ = some (.slice o0.a.ar o0.i.rels.length o0.a.cr) ∧ V.cell? ⟨b, off + 5, none⟩ = some (.int .i64 o0.i.entry) ∧ V.cell? ⟨b, off + 6, none⟩ = some (.int .i64 o0.base) ∧ V.cell? ⟨w.heap.size, 5, none⟩ = some (.int .i64 p.i.entry)) (first | exact HS7.out | exact HS6.out | exact HS0.out | exact HSX.out _ _ _)
              (first
                | (go_at_call 22; refine (HAR.out _ HK0.out).mono ?_; rintro e w6 ⟨v8, rfl, hrw, hb⟩; obtain ⟨ar, cr, hrv, hrg⟩ := own_slice hrw; subst hrv; have HRW := hideC hrw; have HK6 := hideC (HK0.out.trans (hb.mono HK0.out.size)); have HS6 := hideC (HS.out _ HK6.out); clear hb hrw hrg)
                | (go_at_call 23; refine (HAD.out _).mono ?_; rintro e w7 ⟨rfl, hb⟩; have HK7 := hideC (HK6.out.trans (hb.mono HK6.out.size)); have HS7 := hideC (HS.out _ HK7.out); have HRW7 := hideC (own_below HRW.out hb); have BR7 := hideC (B.below BR5.out HK7.out (B.isLt BR5.out)); have s0 := B.cell BR7.out 0 rfl; have s1 := B.cell BR7.out 1 rfl; have s2 := B.cell BR7.out 2 rfl; have sf := B.free BR7.out; have sl := B.isLt BR7.out; have HSX : Hid (∀ u0 u1 u2, (fun V : World => V.cell? ⟨b, off, none⟩ = some (.string o0.i.name) ∧ V.cell? ⟨b, off + 1, none⟩ = some (.slice o0.a.an o0.i.needs.length o0.a.cn) ∧ V.cell? ⟨b, off + 2, none⟩ = some (.slice o0.a.ag o0.i.segs.length o0.a.cg) ∧ V.cell? ⟨b, off + 3, none⟩ = some (.slice o0.a.ay o0.i.syms.length o0.a.cy) ∧ V.cell? ⟨b, off + 4, none⟩ = some (.slice o0.a.ar o0.i.rels.length o0.a.cr) ∧ V.cell? ⟨b, off + 5, none⟩ = some (.int .i64 o0.i.entry) ∧ V.cell? ⟨b, off + 6, none⟩ = some (.int .i64 o0.base) ∧ V.cell? ⟨w.heap.size, 5, none⟩ = some (.int .i64 p.i.entry)) (((w7.setCell ⟨w.heap.size + 1, 0, none⟩ u0).setCell ⟨w.heap.size + 1, 1, none⟩ u1).setCell ⟨w.heap.size + 1, 2, none⟩ u2)) := (fun u0 u1 u2 => by have h := HS7.out; have hw : w.heap.size ≠ w.heap.size + 1 := (by omega); simp only [cell_set3 _ _ _ _ _ _ _ hne, cell_set3 _ _ _ _ _ _ _ hw]; exact h); clear hb))
            have HHH7 := hideC (hasH_set3 BR7.out (HHH.out.below HK7.out) (.slice ar (LM.areasN obs).length cr) (.slice ah hs.length ch) (.int .i64 AD))
            have HOWN7 := hideC (own_set3 (rb := w.heap.size + 1) HRW7.out (Nat.lt_of_lt_of_le (B.isLt BR5.out) HK0.out.size) (.slice ar (LM.areasN obs).length cr) (.slice ah hs.length ch) (.int .i64 AD))
            have HB7 := hideC ((((HB5.out.trans (HK7.out.mono HB5.out.size)).setCell (p := ⟨w.heap.size + 1, 0, none⟩) (by simp) (.slice ar (LM.areasN obs).length cr)).setCell (p := ⟨w.heap.size + 1, 1, none⟩) (by simp) (.slice ah hs.length ch)).setCell (p := ⟨w.heap.size + 1, 2, none⟩) (by simp) (.int .i64 AD))
            go_wp2
            refine bodyPost_ret (v := .tuple #[.agg #[.slice ar (LM.areasN obs).length cr, .slice ah hs.length ch, .int .i64 AD], .int .i64 0]) (by simp [results, Try.results6, go_sem, s0, s1, s2]) rfl ⟨HB7.out, ?_⟩
            rw [← HALL.out, HE.out, if_pos rfl]
            refine ⟨ix, E, .slice ar (LM.areasN obs).length cr, hs, ah, ch, HEG.out, by rw [← HOB.out]; exact HES.out, HME.out, ?_, ?_, HHH7.out, hcc⟩
            · rw [HEA.out, ← HOB.out, ← HO0.out, ← HADE.out]
            · rw [← HOB.out]
              exact HOWN7.out.mono (Nat.le_trans HB5.out.size HK0.out.size)
    · rw [if_neg hby] at hout
      subst hout
      have HE : Hid (LM.linkErr all = LM.byErr all) := by
        show _ = _
        unfold LM.linkErr
        rw [if_neg (by omega), if_neg hby]
      obtain ⟨er, her⟩ : ∃ er, er = LM.byErr all := ⟨_, rfl⟩
      rw [← her] at HE hby
      rw [← her]
      have hbz : (er == 0) = false := by simpa using hby
      have r0 := B.cell BR2.out 0 rfl
      have r1 := B.cell BR2.out 1 rfl
      have r2 := B.cell BR2.out 2 rfl
      have rf := B.free BR2.out
      have rl := B.isLt BR2.out
      clear her
      go_wp2
      exact bodyPost_ret (v := .tuple #[.agg #[.slice none 0 0, .slice none 0 0, .int .i64 0], .int .i64 er]) (by simp [results, Try.results6, go_sem, r0, r1, r2]) rfl ⟨((HB2.out.setCell (by simp) _).setCell (by simp) _).setCell (by simp) _, by rw [← HALL.out, HE.out, if_neg hby]⟩
end Go.Proofs.Yteieplodndfbhaa.LW
namespace Go.Proofs.Yteieplodndfbhaa.W
open Go.RowKit
set_option linter.unusedVariables false
set_option maxRecDepth 100000

def le (k : Nat) (n : Int) : ByteArray := ⟨(Lib.leBytes k (CM.low n)).toArray⟩
theorem le_size (k : Nat) (n : Int) : (le k n).size = k := by
  unfold le
  rw [Lib.size_eq]
  simp [Lib.leBytes_length]
def instrB (o m : Int) : ByteArray := (((le 1 o ++ le 1 0) ++ le 1 0) ++ le 1 0) ++ le 4 m

set_option maxHeartbeats 1500000 in
theorem instr_any (o m : Int) (w : World) : Calls Try.prog 61 #[.agg #[.int .i64 o, .int .i64 0, .int .i64 0, .int .i64 0, .int .i64 m]] w fun e w' => e = .returned (.string (instrB o m)) ∧ Below w.heap.size w w' := by
  have HB0 := hideC ((Below.refl w.heap.size w).alloc (Nat.le_refl _) (.cells #[.int .i64 o, .int .i64 0, .int .i64 0, .int .i64 0, .int .i64 m] 121))
  have BX := hideC (B.new w #[.int .i64 o, .int .i64 0, .int .i64 0, .int .i64 0, .int .i64 m] 121)
  obtain ⟨W, hW⟩ : ∃ W, W = w.alloc (.cells #[.int .i64 o, .int .i64 0, .int .i64 0, .int .i64 0, .int .i64 m] 121) := ⟨_, rfl⟩
  have HW := hideC hW
  rw [← hW] at HB0 BX
  have hkin := Q.kin_some W
  have hwl := B.isLt BX.out
  have k0 : ∀ x : Q.Kin W.heap.size W, x.world.cell? ⟨w.heap.size, 0, none⟩ = some (.int .i64 o) := fun x => by rw [Q.cell_kin x _ _ hwl]; exact B.cell BX.out 0 rfl
  have k1 : ∀ x : Q.Kin W.heap.size W, x.world.cell? ⟨w.heap.size, 1, none⟩ = some (.int .i64 0) := fun x => by rw [Q.cell_kin x _ _ hwl]; exact B.cell BX.out 1 rfl
  have k2 : ∀ x : Q.Kin W.heap.size W, x.world.cell? ⟨w.heap.size, 2, none⟩ = some (.int .i64 0) := fun x => by rw [Q.cell_kin x _ _ hwl]; exact B.cell BX.out 2 rfl
  have k3 : ∀ x : Q.Kin W.heap.size W, x.world.cell? ⟨w.heap.size, 3, none⟩ = some (.int .i64 0) := fun x => by rw [Q.cell_kin x _ _ hwl]; exact B.cell BX.out 3 rfl
  have k4 : ∀ x : Q.Kin W.heap.size W, x.world.cell? ⟨w.heap.size, 4, none⟩ = some (.int .i64 m) := fun x => by rw [Q.cell_kin x _ _ hwl]; exact B.cell BX.out 4 rfl
  have hA : ∀ V, Calls Try.prog 48 #[.int .i64 o, .int .i64 1] V fun e w' => e = .returned (.string (le 1 o)) ∧ Below V.heap.size V w' := fun U => CW.bytes_any o 1 U (by omega)
  have hZ : ∀ V, Calls Try.prog 48 #[.int .i64 0, .int .i64 1] V fun e w' => e = .returned (.string (le 1 0)) ∧ Below V.heap.size V w' := fun U => CW.bytes_any 0 1 U (by omega)
  have hM : ∀ V, Calls Try.prog 48 #[.int .i64 m, .int .i64 4] V fun e w' => e = .returned (.string (le 4 m)) ∧ Below V.heap.size V w' := fun U => CW.bytes_any m 4 U (by omega)
  have s1 := le_size 1 o
  have s2 := le_size 1 0
  have s3 := le_size 4 m
  have HR : Hid (instrB o m = (((le 1 o ++ le 1 0) ++ le 1 0) ++ le 1 0) ++ le 4 m) := rfl
  rw [HR.out]
  obtain ⟨A1, h1⟩ : ∃ A, A = le 1 o := ⟨_, rfl⟩
  obtain ⟨A2, h2⟩ : ∃ A, A = le 1 0 := ⟨_, rfl⟩
  obtain ⟨A3, h3⟩ : ∃ A, A = le 4 m := ⟨_, rfl⟩
  rw [← h1] at hA s1
  rw [← h2] at hZ s2
  rw [← h3] at hM s3
  rw [← h1, ← h2, ← h3]
  have HA := hideC hA
  have HZ := hideC hZ
  have HM := hideC hM
  have t1 : (A1 ++ A2).size = 2 := by rw [ByteArray.size_append, s1, s2]
  have t2 : (A1 ++ A2 ++ A2).size = 3 := by rw [ByteArray.size_append, t1, s2]
  have t3 : (A1 ++ A2 ++ A2 ++ A2).size = 4 := by rw [ByteArray.size_append, t2, s2]
  clear h1 h2 h3 hA hZ hM hW
  go_enter Try.func61, Try.ntmps61
  go_wp2
  rw [← HW.out]
  refine Q.region_kin (by kernel_rfl) (by kernel_rfl) ?_
  repeat (first | go_big_quiet_step ((go_at_call 48; first | with_reducible exact Q.calls_kin HA.out _ | with_reducible exact Q.calls_kin HZ.out _ | with_reducible exact Q.calls_kin HM.out _)) | quiet_step ((go_at_call 48; first | with_reducible exact Q.calls_kin HA.out _ | with_reducible exact Q.calls_kin HZ.out _ | with_reducible exact Q.calls_kin HM.out _)))
  refine wpQuiet_nil ?_
  intro _ hw'
  obtain ⟨x, hw''⟩ := hw'
  subst hw''
  go_wp2
  go_ret
  exact ⟨rfl, HB0.out.trans (x.keeps.mono HB0.out.size)⟩
end Go.Proofs.Yteieplodndfbhaa.W
namespace Go.Proofs.Yteieplodndfbhaa.W
open Go.RowKit
set_option linter.unusedVariables false
set_option maxRecDepth 100000

def set6 (w : World) (g : Nat) (v0 v1 v2 v3 v4 v5 : Value) : World :=
  (((((w.setCell ⟨g, 0, none⟩ v0).setCell ⟨g, 1, none⟩ v1).setCell ⟨g, 2, none⟩ v2).setCell ⟨g, 3, none⟩ v3).setCell ⟨g, 4, none⟩ v4).setCell ⟨g, 5, none⟩ v5
theorem set6_below {N g : Nat} {w W : World} (h : Below N w W) (hg : N ≤ g) (v0 v1 v2 v3 v4 v5 : Value) : Below N w (set6 W g v0 v1 v2 v3 v4 v5) :=
  (((((h.setCell (p := ⟨g, 0, none⟩) hg v0).setCell (p := ⟨g, 1, none⟩) hg v1).setCell (p := ⟨g, 2, none⟩) hg v2).setCell (p := ⟨g, 3, none⟩) hg v3).setCell (p := ⟨g, 4, none⟩) hg v4).setCell (p := ⟨g, 5, none⟩) hg v5
def tinyD : ByteArray := instrB 1 7 ++ instrB 16 6
theorem instrB_size (o m : Int) : (instrB o m).size = 8 := by
  unfold instrB
  simp only [ByteArray.size_append, le_size]
theorem tinyD_size : tinyD.size = 16 := by
  unfold tinyD
  rw [ByteArray.size_append, instrB_size, instrB_size]
def tinyI : M.Im := ⟨⟨#[116]⟩, [], [⟨0, 1, tinyD, false, true⟩], [], [], 0⟩
theorem tiny_chk : M.chkN tinyI = 0 := by
  have h1 : M.namesB tinyI = true := by unfold M.namesB tinyI; rfl
  have h2 : M.countsB tinyI = true := rfl
  have h3 : M.rangesB tinyI = true := by
    unfold M.rangesB tinyI
    simp only [List.all_cons, List.all_nil, Bool.and_true]
    exact decide_eq_true (by rw [tinyD_size]; decide)
  have h4 : M.thereB tinyI = true := rfl
  have h5 : M.placesB tinyI = true := rfl
  unfold M.chkN
  rw [h1, h2, h3, h4, h5]
  rfl
theorem tiny_fit : M.Fit tinyI := by
  refine ⟨by unfold M.Short tinyI; decide, by unfold M.Short tinyI; decide, fun k hk => absurd hk (by unfold tinyI; simp), by unfold M.Short tinyI; decide, fun k hk => ?_, by unfold M.Short tinyI; decide, fun k hk => absurd hk (by unfold tinyI; simp), by unfold M.Short tinyI; decide, fun k hk => absurd hk (by unfold tinyI; simp), by unfold M.I64 tinyI; decide⟩
  have : k = 0 := by unfold tinyI at hk; simp at hk; omega
  subst this
  exact ⟨by unfold M.I64 tinyI M.sgAt; decide, by unfold M.I64 tinyI M.sgAt; decide, by unfold M.Short; show tinyD.size ≤ _; rw [tinyD_size]; decide⟩

set_option maxHeartbeats 1500000 in
theorem tiny_any (w : World) : Calls Try.prog 31 #[] w fun e w' => (∃ a, e = .returned (.agg (M.cellsI a tinyI)) ∧ M.HasIm w' a tinyI) ∧ Below w.heap.size w w' := by
  have HB0 := hideC ((Below.refl w.heap.size w).alloc (Nat.le_refl _) (.cells #[.string ⟨#[]⟩, .slice none 0 0, .slice none 0 0, .slice none 0 0, .slice none 0 0, .int .i64 0] 27))
  have BX := hideC (B.new w #[.string ⟨#[]⟩, .slice none 0 0, .slice none 0 0, .slice none 0 0, .slice none 0 0, .int .i64 0] 27)
  have H1 := hideC (instr_any 1 7)
  have H2 := hideC (instr_any 16 6)
  have s1 := instrB_size 1 7
  have s2 := instrB_size 16 6
  have HD : Hid (tinyD = instrB 1 7 ++ instrB 16 6) := rfl
  obtain ⟨A1, h1⟩ : ∃ A, A = instrB 1 7 := ⟨_, rfl⟩
  obtain ⟨A2, h2⟩ : ∃ A, A = instrB 16 6 := ⟨_, rfl⟩
  rw [← h1] at H1 s1
  rw [← h2] at H2 s2
  rw [← h1, ← h2] at HD
  clear h1 h2
  have t1 : (A1 ++ A2).size = 16 := by rw [ByteArray.size_append, s1, s2]
  go_enter Try.func31, Try.ntmps31
  go_wp2_with (first | (go_at_call 61; have _ := FIRST; refine (H2.out _).mono ?_; rintro e w2 ⟨rfl, hb⟩; have HB := hideC (HB.out.trans (hb.mono HB.out.size)); have BX := hideC (B.below BX.out hb (B.isLt BX.out)); have y0 := B.cell BX.out 0 rfl; have y1 := B.cell BX.out 1 rfl; have y2 := B.cell BX.out 2 rfl; have y3 := B.cell BX.out 3 rfl; have y4 := B.cell BX.out 4 rfl; have y5 := B.cell BX.out 5 rfl; have yf := B.free BX.out; have hwl := B.isLt BX.out; clear hb) | (go_at_call 61; refine (H1.out _).mono ?_; rintro e w1 ⟨rfl, hb⟩; have FIRST := trivial; have HB := hideC (HB0.out.trans (hb.mono HB0.out.size)); have BX := hideC (B.below BX.out hb (B.isLt BX.out)); clear hb))
  have FB := hideC ((set6_below HB.out (Nat.le_refl w.heap.size) (.string ⟨#[116]⟩) (.slice none 0 0) (.slice (some ⟨w2.heap.size, 0, none⟩) 1 1) (.slice none 0 0) (.slice none 0 0) (.int .i64 0)).alloc (by have := (set6_below HB.out (Nat.le_refl w.heap.size) (.string ⟨#[116]⟩) (.slice none 0 0) (.slice (some ⟨w2.heap.size, 0, none⟩) 1 1) (.slice none 0 0) (.slice none 0 0) (.int .i64 0)).size; exact this) (.cells #[.int .i64 0, .int .i64 1, .string (A1 ++ A2), .bool false, .bool true] 79))
  have NB := B.new (set6 w2 w.heap.size (.string ⟨#[116]⟩) (.slice none 0 0) (.slice (some ⟨w2.heap.size, 0, none⟩) 1 1) (.slice none 0 0) (.slice none 0 0) (.int .i64 0)) #[.int .i64 0, .int .i64 1, .string (A1 ++ A2), .bool false, .bool true] 79
  rw [show (set6 w2 w.heap.size (.string ⟨#[116]⟩) (.slice none 0 0) (.slice (some ⟨w2.heap.size, 0, none⟩) 1 1) (.slice none 0 0) (.slice none 0 0) (.int .i64 0)).heap.size = w2.heap.size by simp [set6]] at NB
  refine bodyPost_ret (v := .agg #[.string ⟨#[116]⟩, .slice none 0 0, .slice (some ⟨w2.heap.size, 0, none⟩) 1 1, .slice none 0 0, .slice none 0 0, .int .i64 0]) (by simp [results, Try.results31, go_sem, y0, y1, y2, y3, y4, y5, hwl]) rfl ⟨⟨⟨none, 0, some ⟨w2.heap.size, 0, none⟩, 1, none, 0, none, 0⟩, rfl, ⟨fun h => absurd h (by decide), fun _ => ⟨w2.heap.size, 0, rfl, B.isLt NB, fun i hi => ?_⟩, fun h => absurd h (by decide), fun h => absurd h (by decide)⟩⟩, FB.out⟩
  obtain rfl : i = 0 := by
    have : i < 1 := hi
    omega
  refine ⟨B.cell NB 0 rfl, B.cell NB 1 rfl, ?_, B.cell NB 3 rfl, B.cell NB 4 rfl⟩
  show _ = some (Value.string tinyD)
  rw [HD.out]
  exact B.cell NB 2 rfl

end Go.Proofs.Yteieplodndfbhaa.W
/- The tiny image, linked; plain Lean. -/
namespace Go.Proofs.Yteieplodndfbhaa.LM
open Go.RowKit
set_option linter.unusedVariables false
set_option maxRecDepth 100000

theorem tiny_by (a : M.At) : byErr [⟨W.tinyI, a⟩] = 0 := by
  unfold byErr
  have h : errTo [⟨W.tinyI, a⟩] [(⟨W.tinyI, a⟩ : Li)].length = 0 := by
    show (if (0 : Int) = 0 then M.chkN W.tinyI else 0) = 0
    rw [if_pos rfl]
    exact W.tiny_chk
  rw [if_pos h]
  rfl
theorem tiny_gat (a : M.At) : gat [⟨W.tinyI, a⟩] [(⟨W.tinyI, a⟩ : Li)].length 0 [0] = some [0] := rfl
theorem tiny_obs (a : M.At) : obsFrom [⟨W.tinyI, a⟩] 1 [0] = [⟨W.tinyI, a, 1⟩] := rfl
theorem tiny_end (a : M.At) : endFrom [⟨W.tinyI, a⟩] 1 [0] = 2 := rfl
theorem over_all (s d : ByteArray) (h : s.size = d.size) : CL.over s 0 d = d := by
  unfold CL.over
  rw [List.take_zero, List.nil_append, Nat.zero_add, List.drop_eq_nil_of_le (by rw [← Lib.size_eq, h]; exact Nat.le_refl _), List.append_nil, Array.toArray_toList]
theorem tiny_page : pageN ⟨0, 1, W.tinyD, false, true⟩ 0 = W.tinyD := by
  unfold pageN
  have e : W.tinyD.extract (min (0 * 16) W.tinyD.size) (min (min (0 * 16) W.tinyD.size + 16) W.tinyD.size) = W.tinyD := by
    rw [show min (0 * 16) W.tinyD.size = 0 by omega, show min (0 + 16) W.tinyD.size = W.tinyD.size by rw [W.tinyD_size]; rfl]
    exact ByteArray.extract_zero_size
  rw [show (⟨0, 1, W.tinyD, false, true⟩ : M.Sg).data = W.tinyD from rfl, e]
  exact over_all _ _ (by rw [zeros16_size, W.tinyD_size])
theorem tiny_sheets (a : M.At) : sheetsN [⟨W.tinyI, a, 1⟩] = some [⟨1, W.tinyD, []⟩] := by
  show some ([] ++ ([] ++ [(⟨1, pageN ⟨0, 1, W.tinyD, false, true⟩ 0, []⟩ : Sp)])) = _
  rw [tiny_page]
  rfl
theorem tiny_areas (a : M.At) : areasN [⟨W.tinyI, a, 1⟩] = [⟨1, 1, 2, false⟩] := by
  unfold areasN
  show (AW.mapN [] 1 1 2).1.map clr = _
  kernel_rfl
theorem tiny_err (a : M.At) : linkErr [⟨W.tinyI, a⟩] = 0 := by
  unfold linkErr
  rw [if_neg (by simp), if_pos (tiny_by a), tiny_gat]
  dsimp only
  rw [tiny_end, if_neg (by decide), tiny_obs, tiny_sheets]
end Go.Proofs.Yteieplodndfbhaa.LM
/- The tiny image, linked: how it ends. -/
namespace Go.Proofs.Yteieplodndfbhaa.LW
open Go.RowKit
open Go.Proofs.Yteieplodndfbhaa.W (hideC)
set_option linter.unusedVariables false
set_option maxRecDepth 100000

def tinyS (af : Option Addr) (cf : Nat) : LM.Sh := ⟨1, W.tinyD, [], af, cf⟩
theorem tiny_out {a : M.At} {w w' : World} {e : Ending} (h : OutL [⟨W.tinyI, a⟩] w e w') : Below w.heap.size w w' ∧ ∃ (ar ah : Option Addr) (cr ch : Nat) (af : Option Addr) (cf : Nat), e = .returned (.tuple #[.agg #[.slice ar 1 cr, .slice ah 1 ch, .int .i64 16], .int .i64 0]) ∧ AW.Own w.heap.size w' (.slice ar 1 cr) [⟨1, 1, 2, false⟩] ∧ LM.HasH w' ah [tinyS af cf] ∧ 1 ≤ ch := by
  obtain ⟨hb, h2⟩ := h
  refine ⟨hb, ?_⟩
  rw [if_pos (LM.tiny_err a)] at h2
  obtain ⟨ix, E, r, hs, ao, cap, h3, h4, h5, h6, h7, h8, h9⟩ := h2
  rw [LM.tiny_gat] at h3
  injection h3 with h3
  subst h3
  rw [LM.tiny_obs] at h4 h6 h7
  rw [LM.tiny_sheets] at h4
  injection h4 with h4
  subst h4
  rw [LM.tiny_areas] at h7
  obtain ⟨s, rfl⟩ : ∃ s, hs = [s] := List.length_eq_one_iff.1 (by have := congrArg List.length h5; simpa using this)
  obtain ⟨pg, dt, fs, af, cf⟩ := s
  simp only [List.map_cons, List.map_nil, LM.plain, List.cons.injEq, LM.Sp.mk.injEq, and_true] at h5
  obtain ⟨rfl, rfl, rfl⟩ := h5
  obtain ⟨ar, cr, hr, _⟩ := own_slice h7
  subst hr
  exact ⟨ar, ao, cr, cap, af, cf, h6, h7, h8, h9⟩
theorem tiny_sheetB (af : Option Addr) (cf : Nat) : LM.sheetB (tinyS af cf) = true := by
  unfold LM.sheetB LM.headB tinyS
  simp only [W.tinyD_size]
  rfl
theorem tiny_fill (af : Option Addr) (cf : Nat) : LM.fillN (tinyS af cf) = (W.tinyD, 0) := by
  unfold LM.fillN
  rw [tiny_sheetB]
  rfl
theorem tiny_check (af : Option Addr) (cf : Nat) : LM.checkL [⟨1, 1, 2, false⟩] [tinyS af cf] 16 = 0 := by
  unfold LM.checkL
  rw [if_pos (by rfl), if_pos]
  have h1 : LM.anyZeroB [⟨1, 1, 2, false⟩] = false := rfl
  have h2 : LM.forEachB [⟨1, 1, 2, false⟩] [tinyS af cf] = true := by rfl
  have h3 : LM.sheetsB [tinyS af cf] = true := by
    show (true && LM.sheetB (tinyS af cf)) = true
    rw [tiny_sheetB]
    rfl
  have h4 : LM.entB [⟨1, 1, 2, false⟩] 16 = true := by rfl
  rw [h1, h2, h3, h4]
  rfl
theorem tiny_fitH (af : Option Addr) (cf : Nat) : LM.FitH (tinyS af cf) := ⟨by unfold M.I64; show (-9223372036854775808 : Int) ≤ 1 ∧ (1 : Int) ≤ 9223372036854775807; decide, by unfold M.Short; show W.tinyD.size ≤ _; rw [W.tinyD_size]; decide, by unfold M.Short; show 0 ≤ _; exact Nat.zero_le _, fun k hk => absurd hk (by unfold tinyS; simp)⟩
theorem tiny_fitHs (af : Option Addr) (cf : Nat) : LM.FitHs [tinyS af cf] := ⟨by unfold M.Short; simp, fun k hk => by
  obtain rfl : k = 0 := by simpa using hk
  exact tiny_fitH af cf⟩
theorem tiny_fitA : AW.AllFit [⟨1, 1, 2, false⟩] := (AM.fits_of_check _ (by rfl))
end Go.Proofs.Yteieplodndfbhaa.LW
/- What must be in any case: linkBegun answers true. -/
namespace Go.Proofs.Yteieplodndfbhaa.LW
open Go.RowKit
open Go.Proofs.Yteieplodndfbhaa.W (hideC)
set_option linter.unusedVariables false
set_option maxRecDepth 100000

theorem empty_fill : LM.fillN ⟨0, ⟨#[]⟩, [], none, 0⟩ = (⟨#[]⟩, 1) := rfl
theorem empty_fit : LM.FitH ⟨0, ⟨#[]⟩, [], none, 0⟩ := ⟨by unfold M.I64; decide, by unfold M.Short; decide, by unfold M.Short; decide, fun k hk => absurd hk (by simp)⟩
set_option maxHeartbeats 6000000 in
theorem begun_any (w : World) : Calls Try.prog 9 #[] w fun e w' => e = .returned (.bool true) ∧ Below w.heap.size w w' := by
  have HT := hideC W.tiny_any
  have HL : Hid (∀ (a : M.At) V, M.HasIm V a W.tinyI → Calls Try.prog 6 #[.agg (M.cellsI a W.tinyI), .slice none 0 0] V fun e w' => Below V.heap.size V w' ∧ ∃ (ar ah : Option Addr) (cr ch : Nat) (af : Option Addr) (cf : Nat), e = .returned (.tuple #[.agg #[.slice ar 1 cr, .slice ah 1 ch, .int .i64 16], .int .i64 0]) ∧ AW.Own V.heap.size w' (.slice ar 1 cr) [⟨1, 1, 2, false⟩] ∧ LM.HasH w' ah [tinyS af cf] ∧ 1 ≤ ch) := fun a V hV =>
    (link_any ⟨W.tinyI, a⟩ [] none 0 V hV (fun h => absurd h (by simp)) W.tiny_fit ⟨by unfold M.Short; decide, fun k hk => absurd hk (by simp)⟩).mono fun e w' h => tiny_out h
  have HF : Hid (∀ (af : Option Addr) (cf : Nat) V, Calls Try.prog 11 #[.agg #[.int .i64 1, .string W.tinyD, .slice af 0 cf]] V fun e w' => e = .returned (.tuple #[.string W.tinyD, .int .i64 0]) ∧ Below V.heap.size V w') := fun af cf V => by
    have h := fill_any (tinyS af cf) V (fun h => absurd h (by unfold tinyS; simp)) (tiny_fitH af cf)
    rw [tiny_fill] at h
    exact h
  have HF0 : Hid (∀ V, Calls Try.prog 11 #[.agg #[.int .i64 0, .string ⟨#[]⟩, .slice none 0 0]] V fun e w' => e = .returned (.tuple #[.string ⟨#[]⟩, .int .i64 1]) ∧ Below V.heap.size V w') := fun V => fill_any ⟨0, ⟨#[]⟩, [], none, 0⟩ V (fun h => absurd h (by simp)) empty_fit
  have HC : Hid (∀ (ar ah : Option Addr) (cr ch : Nat) (af : Option Addr) (cf : Nat) V, AW.Has V (.slice ar 1 cr) [⟨1, 1, 2, false⟩] → LM.HasH V ah [tinyS af cf] → 1 ≤ ch → Calls Try.prog 14 #[.agg #[.slice ar 1 cr, .slice ah 1 ch, .int .i64 16]] V fun e w' => e = .returned (.int .i64 0) ∧ Below V.heap.size V w') := fun ar ah cr ch af cf V h1 h2 h3 => by
    have h := check_any [⟨1, 1, 2, false⟩] [tinyS af cf] 16 (.slice ar 1 cr) ah ch V h1 tiny_fitA h2 (tiny_fitHs af cf) h3 (by unfold M.I64; decide)
    rw [tiny_check] at h
    exact h
  have hts := W.tinyD_size
  obtain ⟨TD, hTD⟩ : ∃ TD, TD = W.tinyD := ⟨_, rfl⟩
  have HTD := hideC hTD
  rw [← hTD] at HF hts
  clear hTD
  go_enter Try.func9, Try.ntmps9
  go_wp2_with fail
  refine (HT.out _).mono ?_
  rintro e w1 ⟨⟨a, rfl, him⟩, hb⟩
  have HB1 := hideC hb
  have HL1 := hideC (HL.out a w1 him)
  clear hb him HL
  go_wp2_with fail
  refine Calls.mono (P := Try.prog) HL1.out ?_
  rintro e w2 ⟨hb, ar, ah, cr, ch, af, cf, rfl, hown, hh, hch⟩
  have HB2 := hideC (HB1.out.trans (hb.mono HB1.out.size))
  have HOW := hideC hown.has
  have HH := hideC hh
  obtain ⟨bh, offh, hah, hbh, hlie⟩ := hh (by simp)
  subst hah
  obtain ⟨c0, c1, c2, -⟩ := hlie 0 (by simp)
  simp only [Nat.zero_mul, Nat.add_zero] at c0 c1 c2
  clear hb hown hh hlie HL1 HB1
  have d0 : w2.cell? ⟨bh, offh, none⟩ = some (.int .i64 1) := c0
  have d1 : w2.cell? ⟨bh, offh + 1, none⟩ = some (.string TD) := by rw [HTD.out]; exact c1
  have d2 : w2.cell? ⟨bh, offh + 2, none⟩ = some (.slice af 0 cf) := c2
  clear c0 c1 c2
  have HBA := hideC (HB2.out.alloc HB2.out.size (.cells #[.slice ar 1 cr, .slice (some ⟨bh, offh, none⟩) 1 ch, .int .i64 16] 32))
  have HRA := hideC ((Below.refl w2.heap.size w2).alloc (Nat.le_refl _) (.cells #[.slice ar 1 cr, .slice (some ⟨bh, offh, none⟩) 1 ch, .int .i64 16] 32))
  have BL := hideC (B.new w2 #[.slice ar 1 cr, .slice (some ⟨bh, offh, none⟩) 1 ch, .int .i64 16] 32)
  go_wp2_with fail
  refine (HF.out af cf _).mono ?_
  rintro e w3 ⟨rfl, hb⟩
  have HR3 := hideC (HRA.out.trans (hb.mono HRA.out.size))
  have BL3 := hideC (B.below BL.out hb (B.isLt BL.out))
  clear hb HRA BL HF d0 d1 d2 HBA
  go_wp2_with fail
  refine (HF0.out _).mono ?_
  rintro e w4 ⟨rfl, hb⟩
  have HR4 := hideC (HR3.out.trans (hb.mono HR3.out.size))
  have BL4 := hideC (B.below BL3.out hb (B.isLt BL3.out))
  clear hb HR3 BL3 HF0
  go_wp2_with fail
  refine (HT.out _).mono ?_
  rintro e w5 ⟨⟨a2, rfl, him2⟩, hb⟩
  have HR5 := hideC (HR4.out.trans (hb.mono HR4.out.size))
  have BL5 := hideC (B.below BL4.out hb (B.isLt BL4.out))
  clear hb HR4 BL4 HT
  obtain ⟨bs, offs, hag, hbs, hlg⟩ := him2.segs (by unfold W.tinyI; simp)
  obtain ⟨-, -, c2, -, -⟩ := hlg 0 (by unfold W.tinyI; simp)
  have d2 : w5.cell? ⟨bs, offs + 2, none⟩ = some (.string TD) := by
    rw [HTD.out]
    simp only [Nat.zero_mul, Nat.add_zero] at c2
    exact c2
  obtain ⟨an, cn, ag, cg, ay, cy, ar2, cr2⟩ := a2
  simp only at hag
  subst hag
  have e2 : M.cellsI ⟨an, cn, some ⟨bs, offs, none⟩, cg, ay, cy, ar2, cr2⟩ W.tinyI = #[.string ⟨#[116]⟩, .slice an 0 cn, .slice (some ⟨bs, offs, none⟩) 1 cg, .slice ay 0 cy, .slice ar2 0 cr2, .int .i64 0] := rfl
  rw [e2]
  have hfd : ∀ V : World, (Instr.field 27 (.agg #[.string ⟨#[116]⟩, .slice an 0 cn, .slice (some ⟨bs, offs, none⟩) 1 cg, .slice ay 0 cy, .slice ar2 0 cr2, .int .i64 0]) 2).run Try.prog V = .ok (.slice (some ⟨bs, offs, none⟩) 1 cg) V := fun _ => by kernel_rfl
  have l0 := B.cell BL5.out 0 rfl
  have l1 := B.cell BL5.out 1 rfl
  have l2 := B.cell BL5.out 2 rfl
  clear hlg him2 c2 e2
  go_wp2_with fail
  refine (HC.out ar _ cr ch af cf _ (HOW.out.below HR5.out) (HH.out.below HR5.out) hch).mono ?_
  rintro e w6 ⟨rfl, hb⟩
  have HR6 := hideC (HR5.out.trans (hb.mono HR5.out.size))
  clear hb
  go_wp2
  go_ret
  exact ⟨by simp, HB2.out.trans (HR6.out.mono HB2.out.size)⟩
end Go.Proofs.Yteieplodndfbhaa.LW
