import Derived.Shelf.Strings.Repeat
import Derived.Test.YtbgnagognnklbaaProg
import Derived.Test.YtbgnagognnklbaaG22
import Derived.Test.YtbgnagognnklbaaG23
import Derived.Test.YtbgnagognnklbaaG27
/-
  DERIVED: THE SHELF's CONTRACTS AT THIS DUMP, IN PLAIN WORDS (tools/lay-plain.mjs out of 'TryRep.lean', which tools/lay-shelf.mjs wrote): THE SAME DECLARATIONS UNDER THE SAME NAMES: 'import', 'namespace', 'open', 'def', 'theorem' AND NOTHING ELSE: no command of the shelf's: FOR A HAND-IN. Each laying: the table of numbers ('.._ren') and one theorem, a field a fact of the dump's own or the kernel's comparison; each contract: ONE APPLICATION.
-/
namespace Go.Proofs
open Go.Shelf
def Try.lays105_ren : Go.Shelf.Ren := ⟨fun | 105 => 80 | 212 => 90 | 99 => 91 | 165 => 92 | 166 => 93 | 170 => 94 | 169 => 95 | 263 => 101 | 264 => 102 | 206 => 103 | 240 => 104 | 241 => 105 | 276 => 106 | 277 => 107 | n => n, fun | 9 => 9 | 3 => 3 | 4 => 4 | 20 => 20 | 0 => 0 | 46 => 127 | 109 => 149 | 5 => 5 | 72 => 154 | 76 => 158 | 51 => 169 | 146 => 170 | 53 => 148 | 148 => 172 | 70 => 152 | 37 => 80 | 75 => 157 | 127 => 142 | 164 => 174 | 80 => 160 | n => n, fun | n => n⟩
theorem Try.lays105 : Go.Proofs.Lays.n105 Try.prog Try.lays105_ren := {
  mixed := by kernel_rfl
  f99 := Try.func91.trans (congrArg some (by kernel_rfl))
  f105 := Try.func80.trans (congrArg some (by kernel_rfl))
  f165 := Try.func92.trans (congrArg some (by kernel_rfl))
  f166 := Try.func93.trans (congrArg some (by kernel_rfl))
  f169 := Try.func95.trans (congrArg some (by kernel_rfl))
  f170 := Try.func94.trans (congrArg some (by kernel_rfl))
  f206 := Try.func103.trans (congrArg some (by kernel_rfl))
  f212 := Try.func90.trans (congrArg some (by kernel_rfl))
  f240 := Try.func104.trans (congrArg some (by kernel_rfl))
  f241 := Try.func105.trans (congrArg some (by kernel_rfl))
  f263 := Try.func101.trans (congrArg some (by kernel_rfl))
  f264 := Try.func102.trans (congrArg some (by kernel_rfl))
  f276 := Try.func106.trans (congrArg some (by kernel_rfl))
  f277 := Try.func107.trans (congrArg some (by kernel_rfl))
  t0 := Try.underlying0
  a0 := Try.isAgg0
  z0 := Try.sizeOf0
  v0 := Try.zeroValue0
  t3 := Try.underlying3
  a3 := Try.isAgg3
  z3 := Try.sizeOf3
  v3 := Try.zeroValue3
  t4 := Try.underlying4
  a4 := Try.isAgg4
  z4 := Try.sizeOf4
  v4 := Try.zeroValue4
  t5 := Try.underlying5
  a5 := Try.isAgg5
  z5 := Try.sizeOf5
  v5 := Try.zeroValue5
  t9 := Try.underlying9
  a9 := Try.isAgg9
  z9 := Try.sizeOf9
  v9 := Try.zeroValue9
  t20 := Try.underlying20
  a20 := Try.isAgg20
  z20 := Try.sizeOf20
  v20 := Try.zeroValue20
  t37 := Try.underlying80
  a37 := Try.isAgg80
  z37 := Try.sizeOf80
  v37 := Try.zeroValue80
  t46 := Try.underlying127
  a46 := Try.isAgg127
  z46 := Try.sizeOf127
  v46 := Try.zeroValue127
  t51 := Try.underlying169
  a51 := Try.isAgg169
  z51 := Try.sizeOf169
  v51 := Try.zeroValue169
  t53 := Try.underlying148
  a53 := Try.isAgg148
  z53 := Try.sizeOf148
  v53 := Try.zeroValue148
  t70 := Try.underlying152
  a70 := Try.isAgg152
  z70 := Try.sizeOf152
  v70 := Try.zeroValue152
  t72 := Try.underlying154
  a72 := Try.isAgg154
  z72 := Try.sizeOf154
  v72 := Try.zeroValue154
  t75 := Try.underlying157
  a75 := Try.isAgg157
  z75 := Try.sizeOf157
  v75 := Try.zeroValue157
  t76 := Try.underlying158
  a76 := Try.isAgg158
  z76 := Try.sizeOf158
  v76 := Try.zeroValue158
  t109 := Try.underlying149
  a109 := Try.isAgg149
  z109 := Try.sizeOf149
  v109 := Try.zeroValue149
  t127 := Try.underlying142
  a127 := Try.isAgg142
  z127 := Try.sizeOf142
  v127 := Try.zeroValue142
  t146 := Try.underlying170
  a146 := Try.isAgg170
  z146 := Try.sizeOf170
  v146 := Try.zeroValue170
  t148 := Try.underlying172
  a148 := Try.isAgg172
  z148 := Try.sizeOf172
  v148 := Try.zeroValue172
  t164 := Try.underlying174
  a164 := Try.isAgg174
  z164 := Try.sizeOf174
  v164 := Try.zeroValue174 }
theorem Try.Builder_Extra_105 : Builder.Extra Try.prog Try.lays105_ren := {
  sizeBuilder := by kernel_rfl
  liesBuilder := by kernel_rfl
  t5 := Try.underlying5
  a5 := Try.isAgg5
  z5 := Try.sizeOf5
  v5 := Try.zeroValue5
  infoByte := by kernel_rfl
  cellsByte := by kernel_rfl
  sizeByte := by kernel_rfl
  neB5 := by decide }
open Go.RowKit Go.Lib in
/-- THE MAIN CASE: at least two copies of a string that is not empty. (LAID: no walk: one application.) -/
theorem Try.strings_Repeat_main (s : ByteArray) (c : Nat) (w : World) (hc2 : 2 ≤ c) (hc : c ≤ 9223372036854775807) (hlen : s.size * c ≤ 140737488355328) (h0 : 0 < s.size) :
    Calls Try.prog 80 #[.string s, .int .i64 c] w fun e w' => e = .returned (.string ⟨(Lib.repeatL s.data.toList c).toArray⟩) ∧ Below w.heap.size w w' := Any.strings_Repeat_main Try.lays105 Try.Builder_Extra_105 s c w hc2 hc hlen h0
end Go.Proofs
/- The linker: a page of a segment; what of the patches is in a page. -/
namespace Go.Proofs.Ytbgnagognnklbaa.LW
open Go.RowKit
open Go.Proofs.Ytbgnagognnklbaa.W (hideC)
set_option linter.unusedVariables false
set_option maxRecDepth 100000

theorem zeros_any (w : World) : Calls Try.prog 80 #[.string ⟨#[0]⟩, .int .i64 16] w fun e w' => e = .returned (.string LM.zeros16) ∧ Below w.heap.size w w' :=
  Try.strings_Repeat_main ⟨#[0]⟩ 16 w (by decide) (by decide) (by decide) (by decide)

set_option maxHeartbeats 2000000 in
theorem pageOf_any (s : M.Sg) (n : Nat) (w : World) (hn : n ≤ 1000) (hs : s.data.size ≤ 100000) :
    Calls Try.prog 54 #[.agg #[.int .i64 s.page, .int .i64 s.pages, .string s.data, .bool s.wr, .bool s.ex], .int .i64 n] w fun e w' => e = .returned (.string (LM.pageN s n)) ∧ Below w.heap.size w w' := by
  obtain ⟨pg, pn, dt, wr, ex⟩ := s
  simp only at hs
  have hml : dt.size ≤ maxLen := by unfold maxLen; omega
  obtain ⟨b, hb⟩ : ∃ b : Nat, b = min (n * 16) dt.size := ⟨_, rfl⟩
  obtain ⟨e, he⟩ : ∃ e : Nat, e = min (b + 16) dt.size := ⟨_, rfl⟩
  have HPN : Hid (LM.pageN ⟨pg, pn, dt, wr, ex⟩ n = CL.over LM.zeros16 0 (dt.extract b e)) := by
    show _ = _
    unfold LM.pageN
    simp only
    rw [← hb, ← he]
  have hbI : min ((n : Int) * 16) (dt.size : Int) = (b : Int) := by omega
  have heI : min ((b : Int) + 16) (dt.size : Int) = (e : Int) := by omega
  have h1 : b ≤ e := by omega
  have h2 : e ≤ dt.size := by omega
  have h3 : e ≤ b + 16 := by omega
  have HLY : Hid (∀ V, Calls Try.prog 36 #[.string LM.zeros16, .int .i64 0, .string (dt.extract b e)] V fun e w' => e = .returned (.tuple #[.string (LM.pageN ⟨pg, pn, dt, wr, ex⟩ n), .int .i64 0]) ∧ Below V.heap.size V w') := fun V => by
    rw [HPN.out]
    exact CW.lay_yes LM.zeros16 (dt.extract b e) 0 V (by rw [LM.zeros16_size]; omega) (by rw [LM.zeros16_size, LM.extract_size _ _ _ h1 h2]; omega)
  have BX := hideC (B.new w #[.int .i64 pg, .int .i64 pn, .string dt, .bool wr, .bool ex] 79)
  have HB := hideC ((Below.refl w.heap.size w).alloc (Nat.le_refl _) (.cells #[.int .i64 pg, .int .i64 pn, .string dt, .bool wr, .bool ex] 79))
  obtain ⟨W, hW⟩ : ∃ W, W = w.alloc (.cells #[.int .i64 pg, .int .i64 pn, .string dt, .bool wr, .bool ex] 79) := ⟨_, rfl⟩
  rw [← hW] at BX HB
  have HW := hideC hW
  clear hW hb he
  have hbx := B.isLt BX.out
  have hkin := Q.kin_some W
  have hkc := @Q.cell_kin W
  have e2 : ∀ x : Q.Kin W.heap.size W, x.world.cell? ⟨w.heap.size, 2, none⟩ = some (.string dt) := fun x => by rw [hkc x _ _ hbx]; exact B.cell BX.out 2 rfl
  have HZ : Hid (∀ V, Below W.heap.size W V → Calls Try.prog 80 #[.string ⟨#[0]⟩, .int .i64 16] V fun e w' => e = .returned (.string LM.zeros16) ∧ Below V.heap.size V w') := fun V _ => zeros_any V
  have HL2 : Hid (∀ V, Below W.heap.size W V → Calls Try.prog 36 #[.string LM.zeros16, .int .i64 0, .string (dt.extract b e)] V fun e w' => e = .returned (.tuple #[.string (LM.pageN ⟨pg, pn, dt, wr, ex⟩ n), .int .i64 0]) ∧ Below V.heap.size V w') := fun V _ => HLY.out V
  clear hkc HLY
  go_enter Try.func54, Try.ntmps54
  go_wp2
  rw [← HW.out]
  refine Q.region_kin (by kernel_rfl) (by kernel_rfl) ?_
  repeat (first | go_big_quiet_step ((first | (go_at_call 80; exact calls_kin _ HZ.out) | (go_at_call 36; exact calls_kin _ HL2.out))) | quiet_step ((first | (go_at_call 80; exact calls_kin _ HZ.out) | (go_at_call 36; exact calls_kin _ HL2.out))))
  refine wpQuiet_nil ?_
  intro _ hw'
  obtain ⟨x, hw''⟩ := hw'
  subst hw''
  go_wp2
  go_ret
  exact ⟨rfl, HB.out.trans (x.keeps.mono HB.out.size)⟩

theorem infoFx : (Try.prog.info? 89).map (fun i => (i.zero, i.size, i.bytes)) = some (some (.agg #[.int .i64 0, .string ⟨#[]⟩]), 2, 24) := by kernel_rfl
set_option maxHeartbeats 3000000 in
theorem fixesOf_any (page : Int) (ps : List LM.Pt) (ao : Option Addr) (cap : Nat) (w : World) (h0 : 0 ≤ page) (h1 : page ≤ 3000) (h : LM.HasP w ao ps) (hn : ps.length ≤ 1000) (hf : ∀ k, k < ps.length → LM.FitP (LM.ptAt ps k)) :
    Calls Try.prog 55 #[.int .i64 page, .slice ao ps.length cap] w fun e w' => (∃ v, e = .returned v ∧ w'.ownsRow w.heap.size 89 2 v (LM.fixesN page ps).length ((LM.fixesN page ps).flatMap LM.cellF)) ∧ Below w.heap.size w w' := by
  have HH := hideC h
  have HF := hideC hf
  clear h hf
  obtain ⟨i0, hi, hz0, hz1, hz2⟩ := info_parts infoFx
  go_enter Try.func55, Try.ntmps55
  go_wp2
  go_loopw [17, 6] (fun i v wr => ∃ k : Nat, k ≤ ps.length ∧ i = .int .i64 k ∧ wr.ownsRow w.heap.size 89 2 v (LM.fixesN page (ps.take k)).length ((LM.fixesN page (ps.take k)).flatMap LM.cellF) ∧ Below w.heap.size w wr) (fun i _ _ => ps.length - (intOf i).toNat)
  case atStart => exact ⟨0, by omega, rfl, World.ownsRow_nil _ _ _ _, Below.refl _ _⟩
  case round =>
    obtain ⟨k, hk, rfl, hown, hb⟩ := hrel
    have HOW := hideC hown
    have HBr := hideC hb
    have hsz := hb.size
    by_cases hlt : k < ps.length
    · obtain ⟨b, off, hao, hbl, hlie⟩ := (HH.out.below hb) (by omega)
      subst hao
      obtain ⟨c0, c1⟩ := hlie k hlt
      obtain ⟨f1, f2, f3⟩ := HF.out k hlt
      have HT : Hid (LM.fixesN page (ps.take (k + 1)) = LM.fixesN page (ps.take k) ++ LM.cutP page (LM.ptAt ps k)) := by
        show _ = _
        rw [LM.take_snoc ps LM.pt0 k hlt, LM.fixesN_snoc]
        rfl
      have hlen := LM.fixes_len page (ps.take k)
      rw [List.length_take] at hlen
      obtain ⟨G, hG⟩ : ∃ G, G = LM.fixesN page (ps.take k) := ⟨_, rfl⟩
      rw [← hG] at HOW HT hlen
      obtain ⟨p, hp⟩ : ∃ p, p = LM.ptAt ps k := ⟨_, rfl⟩
      rw [← hp] at c0 c1 f1 f2 f3 HT
      clear hG hp hlie hb hown
      obtain ⟨P, by_⟩ := p
      simp only at c0 c1 f1 f2 f3
      have HBA := hideC (HBr.out.alloc HBr.out.size (.cells #[.int .i64 P, .string by_] 134))
      have HRA := hideC ((Below.refl wr.heap.size wr).alloc (Nat.le_refl _) (.cells #[.int .i64 P, .string by_] 134))
      obtain ⟨A, hA⟩ : ∃ A, A = max (page * 16) P := ⟨_, rfl⟩
      obtain ⟨E, hE⟩ : ∃ E, E = min (page * 16 + 16) (P + 8) := ⟨_, rfl⟩
      have hAb : page * 16 ≤ A ∧ P ≤ A ∧ A ≤ 1000000 := by omega
      have hEb : E ≤ page * 16 + 16 ∧ E ≤ P + 8 := by omega
      have hA' : max (page * 16) P = A := hA.symm
      have hE' : min (page * 16 + 16) (P + 8) = E := hE.symm
      have HCUT : Hid (LM.cutP page ⟨P, by_⟩ = if A < E then [⟨A - page * 16, by_.extract (A - P).toNat (A - P + (E - A)).toNat⟩] else []) := by
        show _ = _
        unfold LM.cutP
        simp only
        rw [hA', hE']
      clear hA hE
      by_cases hAE : A < E
      · rw [HCUT.out, if_pos hAE] at HT
        obtain ⟨u, hu⟩ : ∃ u : Nat, A - P = (u : Int) := ⟨(A - P).toNat, by omega⟩
        obtain ⟨n, hn⟩ : ∃ n : Nat, E - A = (n : Int) := ⟨(E - A).toNat, by omega⟩
        have hun : (A - P + (E - A)).toNat = u + n := by omega
        have hu2 : (A - P).toNat = u := by omega
        rw [hun, hu2] at HT
        have HPT : Hid (∀ V, Calls Try.prog 17 #[.string by_, .int .i64 (A - P), .int .i64 (E - A)] V fun e w' => e = .returned (.tuple #[.string (by_.extract u (u + n)), .int .i64 0]) ∧ Below V.heap.size V w') := fun V => by
          rw [hu, hn]
          exact CW.part_yes by_ u n V (by omega) (by omega)
        obtain ⟨s, hs⟩ : ∃ s, s = by_.extract u (u + n) := ⟨_, rfl⟩
        rw [← hs] at HPT HT
        clear hu hn hun hu2 hs HCUT
        have hAE' : ¬ E ≤ A := by omega
        go_wp2_with (first
          | (go_at_call 17; refine (HPT.out _).mono ?_; rintro e w1 ⟨rfl, hb⟩; have HB1 := hideC (HBA.out.trans (hb.mono HBA.out.size)); have HOW1 := hideC ((row_grown HOW.out (HRA.out.trans (hb.mono HRA.out.size))).alloc (.cells #[.int .i64 (A - page * 16), .string s] 89)); have hrow1 := HOW1.out.lt; have HN1 := hideC (B.new w1 #[.int .i64 (A - page * 16), .string s] 89); have BP := hideC (B.below (B.new wr #[.int .i64 P, .string by_] 134) hb (by simp)); have y0 := B.cell BP.out 0 rfl; have y1 := B.cell BP.out 1 rfl; clear hb)
          | (at_builtin; refine wpList_append_lies _ rfl _ _ 41 rfl w.heap.size 89 i0 (.agg #[.int .i64 0, .string ⟨#[]⟩]) 2 24 Try.underlying41 hi hz0 hz1 hz2 rfl (by decide) _ _ _ rfl HOW1.out ⟨w1.heap.size, 0, none⟩ 1 1 [.int .i64 (A - page * 16), .string s] rfl rfl (B.news HN1.out) (by intro u hu; simp at hu; rcases hu with rfl | rfl <;> rfl) (by decide) (by unfold maxLen; omega) (by omega) (by have := HB1.out.size; simp; omega) (w1.heap.size + 1) (by simp) ?_; intro gg capg w2 hown2 hgrow hatt hlt2; have HOW2 := hideC hown2; have HB2 := hideC ((HB1.out.alloc HB1.out.size (.cells #[.int .i64 (A - page * 16), .string s] 89)).grown hgrow (by have := HB1.out.size; simp; omega) (fun q hq => (hrow1 _ hq).1)); clear hown2 hgrow hatt))
        go_roundw
        case rel => exact ⟨k + 1, by omega, by go_num, by rw [HT.out, List.length_append, List.flatMap_append]; exact HOW2.out, HB2.out⟩
        case measure => simp [intOf]; omega
      · rw [HCUT.out, if_neg hAE, List.append_nil] at HT
        have hAE' : E ≤ A := by omega
        clear HCUT
        go_wp2
        go_roundw
        case rel => exact ⟨k + 1, by omega, by go_num, by rw [HT.out]; exact HOW.out.alloc _, HBA.out⟩
        case measure => simp [intOf]; omega
    · obtain rfl : k = ps.length := by omega
      rw [List.take_length] at HOW
      clear hown hb
      go_wp2
      go_ret
      exact ⟨⟨_, rfl, HOW.out⟩, HBr.out⟩
end Go.Proofs.Ytbgnagognnklbaa.LW
