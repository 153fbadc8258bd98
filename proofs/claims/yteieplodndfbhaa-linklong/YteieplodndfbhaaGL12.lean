import Derived.Test.YteieplodndfbhaaGL11
import Derived.Test.YteieplodndfbhaaGL02
import Derived.Test.YteieplodndfbhaaGL03
import Derived.Shelf.Strings.Repeat
import Derived.Test.YteieplodndfbhaaProg
import Derived.Test.YteieplodndfbhaaGL09
/- The reference: sheets that are right and rise. -/
namespace Go.Proofs.Yteieplodndfbhaa.LW
open Go.RowKit
open Go.Proofs.Yteieplodndfbhaa.W (hideC)
set_option linter.unusedVariables false
set_option maxRecDepth 100000

/-- a call in a region that draws, in a world that keeps what was there -/
theorem calls_kin {P : Program} {f : FuncId} {args : Array Value} {v : Value} {w : World} (x : Q.Kin w.heap.size w) (h : ∀ W, Below w.heap.size w W → Calls P f args W fun e w' => e = .returned v ∧ Below W.heap.size W w') :
    Calls P f args x.world fun e w'' => e = .returned v ∧ ∃ y : Q.Kin w.heap.size w, w'' = y.world :=
  (h x.world x.keeps).mono fun e w'' ⟨he, hb⟩ => ⟨he, ⟨w'', x.keeps.trans (hb.mono x.keeps.size)⟩, rfl⟩

set_option maxHeartbeats 3000000 in
theorem sheetsRise_any (hs : List LM.Sh) (ao : Option Addr) (cap : Nat) (w : World) (h : LM.HasH w ao hs) (hf : LM.FitHs hs) :
    Calls Try.prog 46 #[.slice ao hs.length cap] w fun e w' => e = .returned (.bool (LM.riseB hs)) ∧ Below w.heap.size w w' := by
  have HF := hideC hf
  have HH := hideC h
  have hn : hs.length ≤ 140737488351232 := hf.1
  clear h hf
  go_enter Try.func46, Try.ntmps46
  go_wp2
  go_loopw [3] (fun i wr => ∃ k : Nat, k ≤ hs.length ∧ i = .int .i64 k ∧ LM.riseTo hs k = true ∧ Below w.heap.size w wr) (fun i _ => hs.length - (intOf i).toNat)
  case atStart => exact ⟨0, by omega, rfl, rfl, Below.refl _ _⟩
  case round =>
    obtain ⟨k, hk, rfl, hz, hb⟩ := hrel
    have HZ := hideC hz
    have HBr := hideC hb
    clear hz
    by_cases hlt : k < hs.length
    · obtain ⟨b, off, hao, hbl, hlie⟩ := (HH.out.below hb) (by omega)
      subst hao
      obtain ⟨c0, c1, c2, c3⟩ := hlie k hlt
      have hfk := HF.out.2 k hlt
      have HE : Hid (LM.riseTo hs (k + 1) = (LM.sheetB (LM.shAt hs k) && LM.riseAt hs k)) := by
        show _ = _
        simp only [LM.riseTo]
        rw [HZ.out, Bool.true_and]
      have HE2 : Hid ((LM.sheetB (LM.shAt hs k) && LM.riseAt hs k) = false → LM.riseB hs = false) := fun e => LM.rise_bad hs k hlt e
      have hkin := Q.kin_some wr
      have hkc := @Q.cell_kin wr
      have PREV : Hid (0 < k → wr.cell? ⟨b, off + (k - 1) * 3, none⟩ = some (.int .i64 (LM.shAt hs (k - 1)).page)) := fun h0 => (hlie (k - 1) (by omega)).1
      have HRI : Hid (LM.riseAt hs k = (k == 0 || decide ((LM.shAt hs (k - 1)).page < (LM.shAt hs k).page))) := rfl
      obtain ⟨s, hse⟩ : ∃ s, s = LM.shAt hs k := ⟨_, rfl⟩
      rw [← hse] at c0 c1 c2 c3 hfk HE HE2 HRI
      have e0 : ∀ x : Q.Kin wr.heap.size wr, x.world.cell? ⟨b, off + k * 3, none⟩ = some (.int .i64 s.page) := fun x => by rw [hkc x _ _ hbl, c0]
      have e1 : ∀ x : Q.Kin wr.heap.size wr, x.world.cell? ⟨b, off + k * 3 + 1, none⟩ = some (.string s.data) := fun x => by rw [hkc x _ _ hbl, c1]
      have e2 : ∀ x : Q.Kin wr.heap.size wr, x.world.cell? ⟨b, off + k * 3 + 2, none⟩ = some (.slice s.ao s.fixes.length s.cap) := fun x => by rw [hkc x _ _ hbl, c2]
      have HC : Hid (∀ W, Below wr.heap.size wr W → Calls Try.prog 12 #[.agg #[.int .i64 s.page, .string s.data, .slice s.ao s.fixes.length s.cap]] W fun e w' => e = .returned (.bool (LM.sheetB s)) ∧ Below W.heap.size W w') := fun W hb => sheetFine_any s W (c3.below hb) hfk
      clear hse hlie hb c0 c1 c2 c3 hfk
      cases e : LM.sheetB s with
      | false =>
        have HX := hideC (HE2.out (by rw [e]; rfl))
        rw [e] at HC
        clear e HE HE2 HRI PREV hkc
        go_wp2
        refine Q.region_kin (by kernel_rfl) (by kernel_rfl) ?_
        repeat (first | go_big_quiet_step ((go_at_call 12; exact calls_kin _ HC.out)) | quiet_step ((go_at_call 12; exact calls_kin _ HC.out)))
        refine wpQuiet_nil ?_
        intro _ hw'
        obtain ⟨x, hw''⟩ := hw'
        subst hw''
        go_wp2
        go_ret
        exact ⟨ret_bool HX.out.symm, HBr.out.trans (x.keeps.mono HBr.out.size)⟩
      | true =>
        rw [e] at HC HE HE2
        rw [Bool.true_and] at HE HE2
        clear e
        by_cases hk0 : k = 0
        · have z1 : decide ((0 : Int) < (k : Int)) = false := by simp; omega
          have z2 : decide (0 < k) = false := by simp; omega
          have HX : Hid (LM.riseAt hs k = true) := by show _ = _; rw [HRI.out, hk0]; rfl
          rw [HX.out] at HE
          clear hk0 HE2 HRI PREV hkc HX
          go_wp2
          refine Q.region_kin (by kernel_rfl) (by kernel_rfl) ?_
          repeat (first | go_big_quiet_step ((go_at_call 12; exact calls_kin _ HC.out)) | quiet_step ((go_at_call 12; exact calls_kin _ HC.out)))
          refine wpQuiet_nil ?_
          intro _ hw'
          obtain ⟨x, hw''⟩ := hw'
          subst hw''
          go_wp2
          go_roundw
          case rel => exact ⟨k + 1, by omega, by go_num, HE.out, HBr.out.trans (x.keeps.mono HBr.out.size)⟩
          case measure => simp [intOf]; omega
        · have hk1 : (1 : Int) ≤ (k : Int) := by omega
          have hk2 : 0 < k := by omega
          have hk3 : (0 : Int) < (k : Int) := by omega
          have hkz : (k == 0) = false := by simpa using hk0
          obtain ⟨p, hp⟩ : ∃ p, p = (LM.shAt hs (k - 1)).page := ⟨_, rfl⟩
          have hpv := PREV.out hk2
          rw [← hp] at hpv HRI
          rw [hkz, Bool.false_or] at HRI
          have e3 : ∀ x : Q.Kin wr.heap.size wr, x.world.cell? ⟨b, off + (k - 1) * 3, none⟩ = some (.int .i64 p) := fun x => by rw [hkc x _ _ hbl, hpv]
          clear hp hpv hk0 PREV hkc hkz
          by_cases hlt2 : p < s.page
          · have HX : Hid (LM.riseAt hs k = true) := by show _ = _; rw [HRI.out, decide_eq_true hlt2]
            rw [HX.out] at HE
            have hnl : ¬ s.page ≤ p := by omega
            clear HE2 HRI HX
            go_wp2
            refine Q.region_kin (by kernel_rfl) (by kernel_rfl) ?_
            repeat (first | go_big_quiet_step ((go_at_call 12; exact calls_kin _ HC.out)) | quiet_step ((go_at_call 12; exact calls_kin _ HC.out)))
            refine wpQuiet_nil ?_
            intro _ hw'
            obtain ⟨x, hw''⟩ := hw'
            subst hw''
            go_wp2
            go_roundw
            case rel => exact ⟨k + 1, by omega, by go_num, HE.out, HBr.out.trans (x.keeps.mono HBr.out.size)⟩
            case measure => simp [intOf]; omega
          · have HX : Hid (LM.riseB hs = false) := HE2.out (by rw [HRI.out, decide_eq_false hlt2])
            have hnl : s.page ≤ p := by omega
            clear HE HE2 HRI
            go_wp2
            refine Q.region_kin (by kernel_rfl) (by kernel_rfl) ?_
            repeat (first | go_big_quiet_step ((go_at_call 12; exact calls_kin _ HC.out)) | quiet_step ((go_at_call 12; exact calls_kin _ HC.out)))
            refine wpQuiet_nil ?_
            intro _ hw'
            obtain ⟨x, hw''⟩ := hw'
            subst hw''
            go_wp2
            go_ret
            exact ⟨ret_bool HX.out.symm, HBr.out.trans (x.keeps.mono HBr.out.size)⟩
    · obtain rfl : k = hs.length := by omega
      go_wp2
      go_ret
      exact ⟨ret_bool HZ.out.symm, HBr.out⟩
end Go.Proofs.Yteieplodndfbhaa.LW
/-
  DERIVED: THE SHELF's CONTRACTS AT THIS DUMP, IN PLAIN WORDS (tools/lay-plain.mjs out of 'TryRep.lean', which tools/lay-shelf.mjs wrote): THE SAME DECLARATIONS UNDER THE SAME NAMES: 'import', 'namespace', 'open', 'def', 'theorem' AND NOTHING ELSE: no command of the shelf's: FOR A HAND-IN. Each laying: the table of numbers ('.._ren') and one theorem, a field a fact of the dump's own or the kernel's comparison; each contract: ONE APPLICATION.
-/
namespace Go.Proofs
open Go.Shelf
def Try.lays105_ren : Go.Shelf.Ren := ⟨fun | 105 => 80 | 212 => 90 | 99 => 91 | 165 => 92 | 166 => 93 | 170 => 94 | 169 => 95 | 263 => 101 | 264 => 102 | 206 => 103 | 240 => 104 | 241 => 105 | 276 => 106 | 277 => 107 | n => n, fun | 9 => 9 | 3 => 3 | 4 => 4 | 20 => 20 | 0 => 0 | 46 => 127 | 109 => 149 | 5 => 5 | 72 => 154 | 76 => 158 | 51 => 169 | 146 => 170 | 53 => 148 | 148 => 172 | 70 => 152 | 37 => 80 | 75 => 157 | 127 => 142 | 164 => 174 | 80 => 160 | n => n, fun | n => n⟩
theorem Try.lays105 : Go.Proofs.Lays.n105 Try.prog Try.lays105_ren := {
  mixed := by kernel_rfl
  f99 := Try.func91.trans (congrArg some (by kernel_rfl))
  f105 := Try.func80.trans (congrArg some (by kernel_rfl))
  f165 := Try.func92.trans (congrArg some (by kernel_rfl))
  f166 := Try.func93.trans (congrArg some (by kernel_rfl))
  f169 := Try.func95.trans (congrArg some (by kernel_rfl))
  f170 := Try.func94.trans (congrArg some (by kernel_rfl))
  f206 := Try.func103.trans (congrArg some (by kernel_rfl))
  f212 := Try.func90.trans (congrArg some (by kernel_rfl))
  f240 := Try.func104.trans (congrArg some (by kernel_rfl))
  f241 := Try.func105.trans (congrArg some (by kernel_rfl))
  f263 := Try.func101.trans (congrArg some (by kernel_rfl))
  f264 := Try.func102.trans (congrArg some (by kernel_rfl))
  f276 := Try.func106.trans (congrArg some (by kernel_rfl))
  f277 := Try.func107.trans (congrArg some (by kernel_rfl))
  t0 := Try.underlying0
  a0 := Try.isAgg0
  z0 := Try.sizeOf0
  v0 := Try.zeroValue0
  t3 := Try.underlying3
  a3 := Try.isAgg3
  z3 := Try.sizeOf3
  v3 := Try.zeroValue3
  t4 := Try.underlying4
  a4 := Try.isAgg4
  z4 := Try.sizeOf4
  v4 := Try.zeroValue4
  t5 := Try.underlying5
  a5 := Try.isAgg5
  z5 := Try.sizeOf5
  v5 := Try.zeroValue5
  t9 := Try.underlying9
  a9 := Try.isAgg9
  z9 := Try.sizeOf9
  v9 := Try.zeroValue9
  t20 := Try.underlying20
  a20 := Try.isAgg20
  z20 := Try.sizeOf20
  v20 := Try.zeroValue20
  t37 := Try.underlying80
  a37 := Try.isAgg80
  z37 := Try.sizeOf80
  v37 := Try.zeroValue80
  t46 := Try.underlying127
  a46 := Try.isAgg127
  z46 := Try.sizeOf127
  v46 := Try.zeroValue127
  t51 := Try.underlying169
  a51 := Try.isAgg169
  z51 := Try.sizeOf169
  v51 := Try.zeroValue169
  t53 := Try.underlying148
  a53 := Try.isAgg148
  z53 := Try.sizeOf148
  v53 := Try.zeroValue148
  t70 := Try.underlying152
  a70 := Try.isAgg152
  z70 := Try.sizeOf152
  v70 := Try.zeroValue152
  t72 := Try.underlying154
  a72 := Try.isAgg154
  z72 := Try.sizeOf154
  v72 := Try.zeroValue154
  t75 := Try.underlying157
  a75 := Try.isAgg157
  z75 := Try.sizeOf157
  v75 := Try.zeroValue157
  t76 := Try.underlying158
  a76 := Try.isAgg158
  z76 := Try.sizeOf158
  v76 := Try.zeroValue158
  t109 := Try.underlying149
  a109 := Try.isAgg149
  z109 := Try.sizeOf149
  v109 := Try.zeroValue149
  t127 := Try.underlying142
  a127 := Try.isAgg142
  z127 := Try.sizeOf142
  v127 := Try.zeroValue142
  t146 := Try.underlying170
  a146 := Try.isAgg170
  z146 := Try.sizeOf170
  v146 := Try.zeroValue170
  t148 := Try.underlying172
  a148 := Try.isAgg172
  z148 := Try.sizeOf172
  v148 := Try.zeroValue172
  t164 := Try.underlying174
  a164 := Try.isAgg174
  z164 := Try.sizeOf174
  v164 := Try.zeroValue174 }
theorem Try.Builder_Extra_105 : Builder.Extra Try.prog Try.lays105_ren := {
  sizeBuilder := by kernel_rfl
  liesBuilder := by kernel_rfl
  t5 := Try.underlying5
  a5 := Try.isAgg5
  z5 := Try.sizeOf5
  v5 := Try.zeroValue5
  infoByte := by kernel_rfl
  cellsByte := by kernel_rfl
  sizeByte := by kernel_rfl
  neB5 := by decide }
open Go.RowKit Go.Lib in
/-- THE MAIN CASE: at least two copies of a string that is not empty. (LAID: no walk: one application.) -/
theorem Try.strings_Repeat_main (s : ByteArray) (c : Nat) (w : World) (hc2 : 2 ≤ c) (hc : c ≤ 9223372036854775807) (hlen : s.size * c ≤ 140737488355328) (h0 : 0 < s.size) :
    Calls Try.prog 80 #[.string s, .int .i64 c] w fun e w' => e = .returned (.string ⟨(Lib.repeatL s.data.toList c).toArray⟩) ∧ Below w.heap.size w w' := Any.strings_Repeat_main Try.lays105 Try.Builder_Extra_105 s c w hc2 hc hlen h0
end Go.Proofs
/- The linker: a page of a segment; what of the patches is in a page. -/
namespace Go.Proofs.Yteieplodndfbhaa.LW
open Go.RowKit
open Go.Proofs.Yteieplodndfbhaa.W (hideC)
set_option linter.unusedVariables false
set_option maxRecDepth 100000

theorem zeros_any (w : World) : Calls Try.prog 80 #[.string ⟨#[0]⟩, .int .i64 16] w fun e w' => e = .returned (.string LM.zeros16) ∧ Below w.heap.size w w' :=
  Try.strings_Repeat_main ⟨#[0]⟩ 16 w (by decide) (by decide) (by decide) (by decide)

set_option maxHeartbeats 2000000 in
theorem pageOf_any (s : M.Sg) (n : Nat) (w : World) (hn : n ≤ 1000) (hs : s.data.size ≤ 100000) :
    Calls Try.prog 54 #[.agg #[.int .i64 s.page, .int .i64 s.pages, .string s.data, .bool s.wr, .bool s.ex], .int .i64 n] w fun e w' => e = .returned (.string (LM.pageN s n)) ∧ Below w.heap.size w w' := by
  obtain ⟨pg, pn, dt, wr, ex⟩ := s
  simp only at hs
  have hml : dt.size ≤ maxLen := by unfold maxLen; omega
  obtain ⟨b, hb⟩ : ∃ b : Nat, b = min (n * 16) dt.size := ⟨_, rfl⟩
  obtain ⟨e, he⟩ : ∃ e : Nat, e = min (b + 16) dt.size := ⟨_, rfl⟩
  have HPN : Hid (LM.pageN ⟨pg, pn, dt, wr, ex⟩ n = CL.over LM.zeros16 0 (dt.extract b e)) := by
    show _ = _
    unfold LM.pageN
    simp only
    rw [← hb, ← he]
  have hbI : min ((n : Int) * 16) (dt.size : Int) = (b : Int) := by omega
  have heI : min ((b : Int) + 16) (dt.size : Int) = (e : Int) := by omega
  have h1 : b ≤ e := by omega
  have h2 : e ≤ dt.size := by omega
  have h3 : e ≤ b + 16 := by omega
  have HLY : Hid (∀ V, Calls Try.prog 36 #[.string LM.zeros16, .int .i64 0, .string (dt.extract b e)] V fun e w' => e = .returned (.tuple #[.string (LM.pageN ⟨pg, pn, dt, wr, ex⟩ n), .int .i64 0]) ∧ Below V.heap.size V w') := fun V => by
    rw [HPN.out]
    exact CW.lay_yes LM.zeros16 (dt.extract b e) 0 V (by rw [LM.zeros16_size]; omega) (by rw [LM.zeros16_size, LM.extract_size _ _ _ h1 h2]; omega)
  have BX := hideC (B.new w #[.int .i64 pg, .int .i64 pn, .string dt, .bool wr, .bool ex] 79)
  have HB := hideC ((Below.refl w.heap.size w).alloc (Nat.le_refl _) (.cells #[.int .i64 pg, .int .i64 pn, .string dt, .bool wr, .bool ex] 79))
  obtain ⟨W, hW⟩ : ∃ W, W = w.alloc (.cells #[.int .i64 pg, .int .i64 pn, .string dt, .bool wr, .bool ex] 79) := ⟨_, rfl⟩
  rw [← hW] at BX HB
  have HW := hideC hW
  clear hW hb he
  have hbx := B.isLt BX.out
  have hkin := Q.kin_some W
  have hkc := @Q.cell_kin W
  have e2 : ∀ x : Q.Kin W.heap.size W, x.world.cell? ⟨w.heap.size, 2, none⟩ = some (.string dt) := fun x => by rw [hkc x _ _ hbx]; exact B.cell BX.out 2 rfl
  have HZ : Hid (∀ V, Below W.heap.size W V → Calls Try.prog 80 #[.string ⟨#[0]⟩, .int .i64 16] V fun e w' => e = .returned (.string LM.zeros16) ∧ Below V.heap.size V w') := fun V _ => zeros_any V
  have HL2 : Hid (∀ V, Below W.heap.size W V → Calls Try.prog 36 #[.string LM.zeros16, .int .i64 0, .string (dt.extract b e)] V fun e w' => e = .returned (.tuple #[.string (LM.pageN ⟨pg, pn, dt, wr, ex⟩ n), .int .i64 0]) ∧ Below V.heap.size V w') := fun V _ => HLY.out V
  clear hkc HLY
  go_enter Try.func54, Try.ntmps54
  go_wp2
  rw [← HW.out]
  refine Q.region_kin (by kernel_rfl) (by kernel_rfl) ?_
  repeat (first | go_big_quiet_step ((first | (go_at_call 80; exact calls_kin _ HZ.out) | (go_at_call 36; exact calls_kin _ HL2.out))) | quiet_step ((first | (go_at_call 80; exact calls_kin _ HZ.out) | (go_at_call 36; exact calls_kin _ HL2.out))))
  refine wpQuiet_nil ?_
  intro _ hw'
  obtain ⟨x, hw''⟩ := hw'
  subst hw''
  go_wp2
  go_ret
  exact ⟨rfl, HB.out.trans (x.keeps.mono HB.out.size)⟩

theorem infoFx : (Try.prog.info? 89).map (fun i => (i.zero, i.size, i.bytes)) = some (some (.agg #[.int .i64 0, .string ⟨#[]⟩]), 2, 24) := by kernel_rfl
set_option maxHeartbeats 3000000 in
theorem fixesOf_any (page : Int) (ps : List LM.Pt) (ao : Option Addr) (cap : Nat) (w : World) (h0 : 0 ≤ page) (h1 : page ≤ 3000) (h : LM.HasP w ao ps) (hn : ps.length ≤ 1000) (hf : ∀ k, k < ps.length → LM.FitP (LM.ptAt ps k)) :
    Calls Try.prog 55 #[.int .i64 page, .slice ao ps.length cap] w fun e w' => (∃ v, e = .returned v ∧ w'.ownsRow w.heap.size 89 2 v (LM.fixesN page ps).length ((LM.fixesN page ps).flatMap LM.cellF)) ∧ Below w.heap.size w w' := by
  have HH := hideC h
  have HF := hideC hf
  clear h hf
  obtain ⟨i0, hi, hz0, hz1, hz2⟩ := info_parts infoFx
  go_enter Try.func55, Try.ntmps55
  go_wp2
  go_loopw [17, 6] (fun i v wr => ∃ k : Nat, k ≤ ps.length ∧ i = .int .i64 k ∧ wr.ownsRow w.heap.size 89 2 v (LM.fixesN page (ps.take k)).length ((LM.fixesN page (ps.take k)).flatMap LM.cellF) ∧ Below w.heap.size w wr) (fun i _ _ => ps.length - (intOf i).toNat)
  case atStart => exact ⟨0, by omega, rfl, World.ownsRow_nil _ _ _ _, Below.refl _ _⟩
  case round =>
    obtain ⟨k, hk, rfl, hown, hb⟩ := hrel
    have HOW := hideC hown
    have HBr := hideC hb
    have hsz := hb.size
    by_cases hlt : k < ps.length
    · obtain ⟨b, off, hao, hbl, hlie⟩ := (HH.out.below hb) (by omega)
      subst hao
      obtain ⟨c0, c1⟩ := hlie k hlt
      obtain ⟨f1, f2, f3⟩ := HF.out k hlt
      have HT : Hid (LM.fixesN page (ps.take (k + 1)) = LM.fixesN page (ps.take k) ++ LM.cutP page (LM.ptAt ps k)) := by
        show _ = _
        rw [LM.take_snoc ps LM.pt0 k hlt, LM.fixesN_snoc]
        rfl
      have hlen := LM.fixes_len page (ps.take k)
      rw [List.length_take] at hlen
      obtain ⟨G, hG⟩ : ∃ G, G = LM.fixesN page (ps.take k) := ⟨_, rfl⟩
      rw [← hG] at HOW HT hlen
      obtain ⟨p, hp⟩ : ∃ p, p = LM.ptAt ps k := ⟨_, rfl⟩
      rw [← hp] at c0 c1 f1 f2 f3 HT
      clear hG hp hlie hb hown
      obtain ⟨P, by_⟩ := p
      simp only at c0 c1 f1 f2 f3
      have HBA := hideC (HBr.out.alloc HBr.out.size (.cells #[.int .i64 P, .string by_] 134))
      have HRA := hideC ((Below.refl wr.heap.size wr).alloc (Nat.le_refl _) (.cells #[.int .i64 P, .string by_] 134))
      obtain ⟨A, hA⟩ : ∃ A, A = max (page * 16) P := ⟨_, rfl⟩
      obtain ⟨E, hE⟩ : ∃ E, E = min (page * 16 + 16) (P + 8) := ⟨_, rfl⟩
      have hAb : page * 16 ≤ A ∧ P ≤ A ∧ A ≤ 1000000 := by omega
      have hEb : E ≤ page * 16 + 16 ∧ E ≤ P + 8 := by omega
      have hA' : max (page * 16) P = A := hA.symm
      have hE' : min (page * 16 + 16) (P + 8) = E := hE.symm
      have HCUT : Hid (LM.cutP page ⟨P, by_⟩ = if A < E then [⟨A - page * 16, by_.extract (A - P).toNat (A - P + (E - A)).toNat⟩] else []) := by
        show _ = _
        unfold LM.cutP
        simp only
        rw [hA', hE']
      clear hA hE
      by_cases hAE : A < E
      · rw [HCUT.out, if_pos hAE] at HT
        obtain ⟨u, hu⟩ : ∃ u : Nat, A - P = (u : Int) := ⟨(A - P).toNat, by omega⟩
        obtain ⟨n, hn⟩ : ∃ n : Nat, E - A = (n : Int) := ⟨(E - A).toNat, by omega⟩
        have hun : (A - P + (E - A)).toNat = u + n := by omega
        have hu2 : (A - P).toNat = u := by omega
        rw [hun, hu2] at HT
        have HPT : Hid (∀ V, Calls Try.prog 17 #[.string by_, .int .i64 (A - P), .int .i64 (E - A)] V fun e w' => e = .returned (.tuple #[.string (by_.extract u (u + n)), .int .i64 0]) ∧ Below V.heap.size V w') := fun V => by
          rw [hu, hn]
          exact CW.part_yes by_ u n V (by omega) (by omega)
        obtain ⟨s, hs⟩ : ∃ s, s = by_.extract u (u + n) := ⟨_, rfl⟩
        rw [← hs] at HPT HT
        clear hu hn hun hu2 hs HCUT
        have hAE' : ¬ E ≤ A := by omega
        go_wp2_with (first
          | (go_at_call 17; refine (HPT.out _).mono ?_; rintro e w1 ⟨rfl, hb⟩; have HB1 := hideC (HBA.out.trans (hb.mono HBA.out.size)); have HOW1 := hideC ((row_grown HOW.out (HRA.out.trans (hb.mono HRA.out.size))).alloc (.cells #[.int .i64 (A - page * 16), .string s] 89)); have hrow1 := HOW1.out.lt; have HN1 := hideC (B.new w1 #[.int .i64 (A - page * 16), .string s] 89); have BP := hideC (B.below (B.new wr #[.int .i64 P, .string by_] 134) hb (by simp)); have y0 := B.cell BP.out 0 rfl; have y1 := B.cell BP.out 1 rfl; clear hb)
          | (at_builtin; refine wpList_append_lies _ rfl _ _ 41 rfl w.heap.size 89 i0 (.agg #[.int .i64 0, .string ⟨#[]⟩]) 2 24 Try.underlying41 hi hz0 hz1 hz2 rfl (by decide) _ _ _ rfl HOW1.out ⟨w1.heap.size, 0, none⟩ 1 1 [.int .i64 (A - page * 16), .string s] rfl rfl (B.news HN1.out) (by intro u hu; simp at hu; rcases hu with rfl | rfl <;> rfl) (by decide) (by unfold maxLen; omega) (by omega) (by have := HB1.out.size; simp; omega) (w1.heap.size + 1) (by simp) ?_; intro gg capg w2 hown2 hgrow hatt hlt2; have HOW2 := hideC hown2; have HB2 := hideC ((HB1.out.alloc HB1.out.size (.cells #[.int .i64 (A - page * 16), .string s] 89)).grown hgrow (by have := HB1.out.size; simp; omega) (fun q hq => (hrow1 _ hq).1)); clear hown2 hgrow hatt))
        go_roundw
        case rel => exact ⟨k + 1, by omega, by go_num, by rw [HT.out, List.length_append, List.flatMap_append]; exact HOW2.out, HB2.out⟩
        case measure => simp [intOf]; omega
      · rw [HCUT.out, if_neg hAE, List.append_nil] at HT
        have hAE' : E ≤ A := by omega
        clear HCUT
        go_wp2
        go_roundw
        case rel => exact ⟨k + 1, by omega, by go_num, by rw [HT.out]; exact HOW.out.alloc _, HBA.out⟩
        case measure => simp [intOf]; omega
    · obtain rfl : k = ps.length := by omega
      rw [List.take_length] at HOW
      clear hown hb
      go_wp2
      go_ret
      exact ⟨⟨_, rfl, HOW.out⟩, HBr.out⟩
end Go.Proofs.Yteieplodndfbhaa.LW
/- Symbols, and what relocations come to; plain Lean. -/
namespace Go.Proofs.Yteieplodndfbhaa.LM
open Go.RowKit
set_option linter.unusedVariables false
set_option maxRecDepth 100000

def symIx (l : List M.Sy) (s : ByteArray) : Option Nat := l.findIdx? (fun y => decide (y.name = s))
theorem syAt_get (l : List M.Sy) (j : Nat) (h : j < l.length) : M.syAt l j = l[j] := by
  unfold M.syAt
  rw [List.getD_eq_getElem?_getD, List.getElem?_eq_getElem h]
  rfl
theorem symIx_at {l : List M.Sy} {s : ByteArray} {k : Nat} (hk : k < l.length) (h : (M.syAt l k).name = s) (hno : ∀ j, j < k → (M.syAt l j).name ≠ s) : symIx l s = some k := by
  unfold symIx
  refine List.findIdx?_eq_some_iff_getElem.2 ⟨hk, ?_, fun j hj => ?_⟩
  · rw [syAt_get l k hk] at h
    exact decide_eq_true h
  · have := hno j hj
    rw [syAt_get l j (by omega)] at this
    simpa using this
theorem symIx_none {l : List M.Sy} {s : ByteArray} (h : ∀ j, j < l.length → (M.syAt l j).name ≠ s) : symIx l s = none := by
  unfold symIx
  refine List.findIdx?_eq_none_iff.2 (fun y hy => ?_)
  obtain ⟨j, hj, e⟩ := List.getElem_of_mem hy
  have := h j hj
  rw [syAt_get l j hj, e] at this
  simpa using this
theorem symIx_lt {l : List M.Sy} {s : ByteArray} {k : Nat} (h : symIx l s = some k) : k < l.length := by
  unfold symIx at h
  obtain ⟨hj, _⟩ := List.findIdx?_eq_some_iff_getElem.1 h
  exact hj
/-- the address of that name in an object -/
def symN (o : Ob) (s : ByteArray) : Option Int := match symIx o.i.syms s with
  | none => none
  | some k => some (addrO o (M.syAt o.i.syms k).pos)
/-- .. in the first k objects -/
def tgtTo (l : List Ob) (s : ByteArray) : Nat → Option Int
  | 0 => none
  | k + 1 => match tgtTo l s k with
    | some t => some t
    | none => symN (obAt l k) s
def tgtN (l : List Ob) (o : Ob) (s : ByteArray) : Option Int := if s = ⟨#[]⟩ then some (addrO o 0) else tgtTo l s l.length
theorem tgtTo_some {l : List Ob} {s : ByteArray} {k : Nat} {t : Int} (h : tgtTo l s k = some t) : ∀ n, k ≤ n → tgtTo l s n = some t
  | 0, hn => by obtain rfl : k = 0 := by omega
                exact h
  | n + 1, hn => by
    by_cases e : k = n + 1
    · subst e; exact h
    · simp only [tgtTo]
      rw [tgtTo_some h n (by omega)]
/-- places of symbols and relocations are small -/
theorem places_of {i : M.Im} (hc : M.chkN i = 0) : M.placesB i = true := by
  unfold M.chkN at hc
  split at hc
  · simp at hc
  · split at hc
    · simp at hc
    · split at hc
      · simp at hc
      · split at hc
        · simp at hc
        · split at hc
          · simp at hc
          · rename_i h
            simpa using h
theorem segIn_mem : ∀ {l : List M.Sg} {a : Int} {s : M.Sg}, M.segIn l a = some s → (∃ k, k < l.length ∧ M.sgAt l k = s) ∧ M.inSeg s a = true
  | [], a, s, h => by cases h
  | x :: r, a, s, h => by
    simp only [M.segIn] at h
    split at h
    · rename_i hi
      injection h with h
      subst h
      exact ⟨⟨0, by simp, rfl⟩, hi⟩
    · obtain ⟨⟨k, hk, e⟩, hi⟩ := segIn_mem h
      exact ⟨⟨k + 1, by simpa using hk, by simpa [M.sgAt] using e⟩, hi⟩
theorem placed_bounds {i : M.Im} (hc : M.chkN i = 0) {a : Int} (h : M.placedB i.segs a = true) : 0 ≤ a ∧ a < 4080 := by
  unfold M.placedB at h
  obtain ⟨s, hs⟩ := Option.isSome_iff_exists.1 h
  obtain ⟨⟨k, hk, e⟩, hi⟩ := segIn_mem hs
  have hb := seg_bounds hc k hk
  rw [e] at hb
  unfold M.inSeg at hi
  have := of_decide_eq_true hi
  omega
theorem sym_bounds {i : M.Im} (hc : M.chkN i = 0) (k : Nat) (hk : k < i.syms.length) : 0 ≤ (M.syAt i.syms k).pos ∧ (M.syAt i.syms k).pos < 4080 := by
  have h := places_of hc
  unfold M.placesB at h
  simp only [Bool.and_eq_true] at h
  exact placed_bounds hc (M.all_at (fun y => M.placedB i.segs y.pos) M.sy0 i.syms k hk h.1)
theorem relsTo_at (i : M.Im) : ∀ n, M.relsTo i n = true → ∀ k, k < n → M.relAt i k = true
  | 0, _, k, hk => by omega
  | n + 1, h, k, hk => by
    simp only [M.relsTo, Bool.and_eq_true] at h
    by_cases e : k = n
    · subst e; exact h.2
    · exact relsTo_at i n h.1 k (by omega)
theorem rel_at {i : M.Im} (hc : M.chkN i = 0) (k : Nat) (hk : k < i.rels.length) : M.relAt i k = true := by
  have h := places_of hc
  unfold M.placesB at h
  simp only [Bool.and_eq_true] at h
  exact relsTo_at i i.rels.length h.2.1 k hk
theorem rel_bounds {i : M.Im} (hc : M.chkN i = 0) (k : Nat) (hk : k < i.rels.length) : 0 ≤ (M.rlAt i.rels k).pos ∧ (M.rlAt i.rels k).pos + 7 < 4080 := by
  have h := rel_at hc k hk
  unfold M.relAt M.wholeB at h
  simp only [Bool.and_eq_true] at h
  have h0 := placed_bounds hc h.2.1
  have h7 := placed_bounds hc h.2.2.2.2.2.2.2.2
  omega
theorem entry_bounds {i : M.Im} (hc : M.chkN i = 0) : 0 ≤ i.entry ∧ i.entry < 4080 := by
  have h := places_of hc
  unfold M.placesB at h
  simp only [Bool.and_eq_true] at h
  have he := h.2.2
  unfold M.entryB at he
  refine placed_bounds hc ?_
  unfold M.placedB
  cases e : M.segIn i.segs i.entry with
  | none => rw [e] at he; cases he
  | some s => rfl

/-- the patch of a relocation that comes to t -/
def ptOf (o : Ob) (r : M.Rl) (t : Int) : Pt := ⟨addrO o r.pos, ⟨(Lib.leBytes 8 (CM.low (t + r.add))).toArray⟩⟩
def patTo (l : List Ob) (o : Ob) : Nat → Option (List Pt)
  | 0 => some []
  | k + 1 => match patTo l o k with
    | none => none
    | some ps => match tgtN l o (M.rlAt o.i.rels k).name with
      | none => none
      | some t => some (ps ++ [ptOf o (M.rlAt o.i.rels k) t])
def patN (l : List Ob) (o : Ob) : Option (List Pt) := patTo l o o.i.rels.length
theorem patTo_none {l : List Ob} {o : Ob} {k : Nat} (h : patTo l o k = none) : ∀ n, k ≤ n → patTo l o n = none
  | 0, hn => by obtain rfl : k = 0 := by omega
                exact h
  | n + 1, hn => by
    by_cases e : k = n + 1
    · subst e; exact h
    · simp only [patTo]
      rw [patTo_none h n (by omega)]
theorem patTo_len {l : List Ob} {o : Ob} : ∀ {k : Nat} {ps : List Pt}, patTo l o k = some ps → ps.length = k
  | 0, ps, h => by simp only [patTo] at h; injection h with h; subst h; rfl
  | k + 1, ps, h => by
    simp only [patTo] at h
    cases e : patTo l o k with
    | none => rw [e] at h; cases h
    | some qs =>
      rw [e] at h
      simp only at h
      cases g : tgtN l o (M.rlAt o.i.rels k).name with
      | none => rw [g] at h; cases h
      | some t =>
        rw [g] at h
        simp only at h
        injection h with h
        subst h
        rw [List.length_append, patTo_len e]
        rfl
theorem low_wrap (n : Int) : CM.low (wrap64 n) = CM.low n := by
  unfold CM.low wrap64
  omega
end Go.Proofs.Yteieplodndfbhaa.LM
/- The linker: symbols, and what relocations come to. -/
namespace Go.Proofs.Yteieplodndfbhaa.LW
open Go.RowKit
open Go.Proofs.Yteieplodndfbhaa.W (hideC)
set_option linter.unusedVariables false
set_option maxRecDepth 100000

theorem sym1_any (y : M.Sy) (P : Nat) (s : ByteArray) (w : World) (hP : w.cell? ⟨P, 0, none⟩ = some (.string s)) :
    Calls Try.prog 100 #[.agg #[.string y.name, .int .i64 y.pos], .pointer (some ⟨P, 0, none⟩)] w fun e w' => e = .returned (.bool (decide (y.name = s))) ∧ Below w.heap.size w w' := by
  have hPl : P < w.heap.size := World.block_lt_of_cell? w _ hP
  obtain ⟨nm, ps⟩ := y
  go_enter Try.func100, Try.ntmps100
  go_wp2
  go_ret
  exact ⟨ret_bool (str_eq _ _), (Below.refl _ _).alloc (Nat.le_refl _) _⟩
def ixInt : Option Nat → Int
  | none => -1
  | some k => k
set_option maxHeartbeats 2000000 in
theorem indexSy_any (l : List M.Sy) (ao : Option Addr) (cap : Nat) (P : Nat) (s : ByteArray) (w : World) (h : M.HasBy M.LieY w ao l) (hn : M.Short l.length) (hP : w.cell? ⟨P, 0, none⟩ = some (.string s)) :
    Calls Try.prog 99 #[.slice ao l.length cap, .func (.func 100) #[] #[.pointer (some ⟨P, 0, none⟩)]] w fun e w' => e = .returned (.int .i64 (ixInt (LM.symIx l s))) ∧ Below w.heap.size w w' := by
  have HH := hideC h
  have hPl : P < w.heap.size := World.block_lt_of_cell? w _ hP
  have HP := hideC hP
  unfold M.Short at hn
  clear h hP
  go_enter Try.func99, Try.ntmps99
  go_wp2
  go_loopw [8] (fun i wr => ∃ k : Nat, k ≤ l.length ∧ i = .int .i64 k ∧ (∀ j, j < k → (M.syAt l j).name ≠ s) ∧ Below w.heap.size w wr) (fun i _ => l.length - (intOf i).toNat)
  case atStart => exact ⟨0, by omega, rfl, fun j hj => by omega, Below.refl _ _⟩
  case round =>
    obtain ⟨k, hk, rfl, hno, hb⟩ := hrel
    have HNO := hideC hno
    have HBr := hideC hb
    clear hno
    by_cases hlt : k < l.length
    · obtain ⟨b, off, hao, hbl, hlie⟩ := (M.HasBy.below (lie := M.LieY) (fun hb hlt h => M.lieY hb hlt h) HH.out hb) (by omega)
      subst hao
      obtain ⟨c0, c1⟩ := hlie k hlt
      have HY : Hid ((M.syAt l k).name = s → LM.symIx l s = some k) := fun e => LM.symIx_at hlt e HNO.out
      have HZ : Hid ((M.syAt l k).name ≠ s → ∀ j, j < k + 1 → (M.syAt l j).name ≠ s) := fun e j hj => by
        by_cases g : j = k
        · subst g; exact e
        · exact HNO.out j (by omega)
      obtain ⟨y, hy⟩ : ∃ y, y = M.syAt l k := ⟨_, rfl⟩
      rw [← hy] at c0 c1 HY HZ
      have HPr := hideC ((hb.cell (p := ⟨P, 0, none⟩) hPl).trans HP.out)
      have HC := hideC (sym1_any y P s wr HPr.out)
      clear hy hlie hb
      by_cases hnm : y.name = s
      · have HX := hideC (HY.out hnm)
        rw [decide_eq_true hnm] at HC
        clear hnm HY HZ
        go_wp2_with (go_at_call 100; refine HC.out.mono ?_; rintro e w1 ⟨rfl, hb⟩; have HB1 := hideC (HBr.out.trans (hb.mono HBr.out.size)); clear hb)
        go_ret
        exact ⟨by rw [HX.out]; rfl, HB1.out⟩
      · have HX := hideC (HZ.out hnm)
        rw [decide_eq_false hnm] at HC
        clear hnm HY HZ
        go_wp2_with (go_at_call 100; refine HC.out.mono ?_; rintro e w1 ⟨rfl, hb⟩; have HB1 := hideC (HBr.out.trans (hb.mono HBr.out.size)); clear hb)
        go_roundw
        case rel => exact ⟨k + 1, by omega, by go_num, HX.out, HB1.out⟩
        case measure => simp [intOf]; omega
    · obtain rfl : k = l.length := by omega
      have HX := hideC (LM.symIx_none HNO.out)
      go_wp2
      go_ret
      exact ⟨by rw [HX.out]; rfl, HBr.out⟩

/-- a number and a flag -/
def optV (t : Option Int) : Value := .tuple #[.int .i64 (t.getD 0), .bool t.isSome]
set_option maxHeartbeats 3000000 in
theorem symbol_any (o : LM.Ob) (s : ByteArray) (w : World) (h : M.HasIm w o.a o.i) (hc : M.chkN o.i = 0) (h0 : 0 ≤ o.base) (h1 : o.base ≤ 100000) :
    Calls Try.prog 88 #[.agg (LM.cellsO o), .string s] w fun e w' => e = .returned (optV (LM.symN o s)) ∧ Below w.heap.size w w' := by
  have hn := (LM.counts_of hc).2.2.2.1
  have HSB := hideC (LM.sym_bounds hc)
  have HSY := hideC h.syms
  have HAD : Hid (∀ at', 0 ≤ at' → at' ≤ 100000 → ∀ V, Calls Try.prog 23 #[.agg (LM.cellsO o), .int .i64 at'] V fun e w' => e = .returned (.int .i64 (LM.addrO o at')) ∧ Below V.heap.size V w') := fun a h2 h3 V => address_any o a V h0 h1 h2 h3
  have HSN : Hid (LM.symN o s = match LM.symIx o.i.syms s with
    | none => none
    | some k => some (LM.addrO o (M.syAt o.i.syms k).pos)) := rfl
  obtain ⟨⟨nm, ns, gs, ys, rs, en⟩, ⟨an, cn, ag, cg, ay, cy, ar, cr⟩, ba⟩ := o
  simp only [LM.cellsO] at HAD
  simp only [LM.cellsO]
  simp only at hn HSN HSY HSB
  clear h hc
  have BX := hideC (B.new w #[.string nm, .slice an ns.length cn, .slice ag gs.length cg, .slice ay ys.length cy, .slice ar rs.length cr, .int .i64 en, .int .i64 ba] 59)
  have HB := hideC ((Below.refl w.heap.size w).alloc (Nat.le_refl _) (.cells #[.string nm, .slice an ns.length cn, .slice ag gs.length cg, .slice ay ys.length cy, .slice ar rs.length cr, .int .i64 en, .int .i64 ba] 59))
  have HB2 := hideC (HB.out.alloc HB.out.size (.cells #[.string s] 9))
  obtain ⟨W, hW⟩ : ∃ W, W = (w.alloc (.cells #[.string nm, .slice an ns.length cn, .slice ag gs.length cg, .slice ay ys.length cy, .slice ar rs.length cr, .int .i64 en, .int .i64 ba] 59)).alloc (.cells #[.string s] 9) := ⟨_, rfl⟩
  have BXW : Hid (W.heap[w.heap.size]? = some (.cells #[.string nm, .slice an ns.length cn, .slice ag gs.length cg, .slice ay ys.length cy, .slice ar rs.length cr, .int .i64 en, .int .i64 ba] 59 (0, 0))) := by
    show _ = _
    rw [hW]
    exact B.alloc BX.out _
  have HPW : Hid (W.cell? ⟨w.heap.size + 1, 0, none⟩ = some (.string s)) := by
    show _ = _
    rw [hW]
    have h := B.new (w.alloc (.cells #[.string nm, .slice an ns.length cn, .slice ag gs.length cg, .slice ay ys.length cy, .slice ar rs.length cr, .int .i64 en, .int .i64 ba] 59)) #[.string s] 9
    rw [show (w.alloc (.cells #[.string nm, .slice an ns.length cn, .slice ag gs.length cg, .slice ay ys.length cy, .slice ar rs.length cr, .int .i64 en, .int .i64 ba] 59)).heap.size = w.heap.size + 1 by simp] at h
    exact B.cell h 0 rfl
  rw [← hW] at HB2
  have HWE := hideC hW
  clear hW HB BX
  have HIX := hideC (indexSy_any ys ay cy (w.heap.size + 1) s W (M.HasBy.below (lie := M.LieY) (fun hb hlt h => M.lieY hb hlt h) HSY.out HB2.out) (by unfold M.Short; omega) HPW.out)
  cases e : LM.symIx ys s with
  | none =>
    rw [e] at HIX HSN
    simp only [ixInt] at HIX HSN
    rw [HSN.out]
    clear e
    go_enter Try.func88, Try.ntmps88
    go_wp2_with (go_at_call 99; rw [← HWE.out]; refine HIX.out.mono ?_; rintro e w1 ⟨rfl, hb⟩; have HB3 := hideC (HB2.out.trans (hb.mono HB2.out.size)); clear hb)
    go_ret2
    exact ⟨rfl, HB3.out⟩
  | some k =>
    have hk := LM.symIx_lt e
    rw [e] at HIX HSN
    simp only [ixInt] at HIX HSN
    rw [HSN.out]
    have hsb := HSB.out k hk
    obtain ⟨by_, off, hay, hbl, hlie⟩ := HSY.out (by omega)
    subst hay
    obtain ⟨-, c1⟩ := hlie k hk
    obtain ⟨q, hq⟩ : ∃ q, q = (M.syAt ys k).pos := ⟨_, rfl⟩
    rw [← hq] at c1 hsb
    rw [← hq]
    have HA2 := hideC (HAD.out q hsb.1 (by omega))
    clear e hq hlie HSB HSN HAD
    go_enter Try.func88, Try.ntmps88
    go_wp2_with (go_at_call 99; rw [← HWE.out]; refine HIX.out.mono ?_; rintro e w1 ⟨rfl, hb⟩; have HB3 := hideC (HB2.out.trans (hb.mono HB2.out.size)); have BX1 := hideC (B.below BXW.out hb (B.isLt BXW.out)); clear hb)
    have hb1 := B.isLt BX1.out
    have hbl1 : by_ < w1.heap.size := Nat.lt_of_lt_of_le hbl HB3.out.size
    have hkin := Q.kin_some w1
    have hkc := @Q.cell_kin w1
    have x0 : ∀ x : Q.Kin w1.heap.size w1, x.world.cell? ⟨w.heap.size, 0, none⟩ = some (.string nm) := fun x => by rw [hkc x _ _ hb1]; exact B.cell BX1.out 0 rfl
    have x1 : ∀ x : Q.Kin w1.heap.size w1, x.world.cell? ⟨w.heap.size, 1, none⟩ = some (.slice an ns.length cn) := fun x => by rw [hkc x _ _ hb1]; exact B.cell BX1.out 1 rfl
    have x2 : ∀ x : Q.Kin w1.heap.size w1, x.world.cell? ⟨w.heap.size, 2, none⟩ = some (.slice ag gs.length cg) := fun x => by rw [hkc x _ _ hb1]; exact B.cell BX1.out 2 rfl
    have x3 : ∀ x : Q.Kin w1.heap.size w1, x.world.cell? ⟨w.heap.size, 3, none⟩ = some (.slice (some ⟨by_, off, none⟩) ys.length cy) := fun x => by rw [hkc x _ _ hb1]; exact B.cell BX1.out 3 rfl
    have x4 : ∀ x : Q.Kin w1.heap.size w1, x.world.cell? ⟨w.heap.size, 4, none⟩ = some (.slice ar rs.length cr) := fun x => by rw [hkc x _ _ hb1]; exact B.cell BX1.out 4 rfl
    have x5 : ∀ x : Q.Kin w1.heap.size w1, x.world.cell? ⟨w.heap.size, 5, none⟩ = some (.int .i64 en) := fun x => by rw [hkc x _ _ hb1]; exact B.cell BX1.out 5 rfl
    have x6 : ∀ x : Q.Kin w1.heap.size w1, x.world.cell? ⟨w.heap.size, 6, none⟩ = some (.int .i64 ba) := fun x => by rw [hkc x _ _ hb1]; exact B.cell BX1.out 6 rfl
    have y1 : ∀ x : Q.Kin w1.heap.size w1, x.world.cell? ⟨by_, off + k * 2 + 1, none⟩ = some (.int .i64 q) := fun x => by rw [hkc x _ _ hbl1, HB3.out.cell (p := ⟨by_, _, none⟩) hbl]; exact c1
    have HA3 : Hid (∀ V, Below w1.heap.size w1 V → Calls Try.prog 23 #[.agg #[.string nm, .slice an ns.length cn, .slice ag gs.length cg, .slice (some ⟨by_, off, none⟩) ys.length cy, .slice ar rs.length cr, .int .i64 en, .int .i64 ba], .int .i64 q] V fun e w' => e = .returned (.int .i64 (LM.addrO ⟨⟨nm, ns, gs, ys, rs, en⟩, ⟨an, cn, ag, cg, some ⟨by_, off, none⟩, cy, ar, cr⟩, ba⟩ q)) ∧ Below V.heap.size V w') := fun V _ => HA2.out V
    clear hkc HA2
    refine Q.region_kin (by kernel_rfl) (by kernel_rfl) ?_
    repeat (first | go_big_quiet_step ((go_at_call 23; exact calls_kin _ HA3.out)) | quiet_step ((go_at_call 23; exact calls_kin _ HA3.out)))
    refine wpQuiet_nil ?_
    intro _ hw'
    obtain ⟨x, hw''⟩ := hw'
    subst hw''
    go_wp2
    go_ret2
    exact ⟨rfl, HB3.out.trans (x.keeps.mono HB3.out.size)⟩

theorem ret_opt {a b : Option Int} (h : a = b) : Ending.returned (optV a) = .returned (optV b) := by rw [h]
/-- what target and its like are handed: objects that may be, in memory -/
structure Oi (l : List LM.Ob) (ao : Option Addr) (w : World) : Prop where
  has : LM.HasO w ao l
  few : l.length ≤ 1000
  chk : ∀ k, k < l.length → M.chkN (LM.obAt l k).i = 0
  fit : ∀ k, k < l.length → M.Fit (LM.obAt l k).i
  base : ∀ k, k < l.length → 1 ≤ (LM.obAt l k).base ∧ (LM.obAt l k).base ≤ 2000
theorem Oi.below {l : List LM.Ob} {ao : Option Addr} {w w' : World} (h : Oi l ao w) (hb : Below w.heap.size w w') : Oi l ao w' := ⟨h.has.below hb, h.few, h.chk, h.fit, h.base⟩
set_option maxHeartbeats 3000000 in
theorem target_any (l : List LM.Ob) (ao : Option Addr) (cap : Nat) (o : LM.Ob) (s : ByteArray) (w : World) (h : Oi l ao w) (h0 : 0 ≤ o.base) (h1 : o.base ≤ 100000) :
    Calls Try.prog 78 #[.agg (LM.cellsO o), .slice ao l.length cap, .string s] w fun e w' => e = .returned (optV (LM.tgtN l o s)) ∧ Below w.heap.size w w' := by
  have HO := hideC h
  have hn := h.few
  clear h
  have HA0 := hideC (fun V => address_any o 0 V h0 h1 (by omega) (by omega))
  have HTN : Hid (LM.tgtN l o s = if s = ⟨#[]⟩ then some (LM.addrO o 0) else LM.tgtTo l s l.length) := rfl
  obtain ⟨a0, ha0⟩ : ∃ a0, a0 = LM.addrO o 0 := ⟨_, rfl⟩
  rw [← ha0] at HA0 HTN
  obtain ⟨R, hR⟩ : ∃ R, R = LM.tgtN l o s := ⟨_, rfl⟩
  rw [← hR] at HTN
  rw [← hR]
  clear hR ha0
  obtain ⟨⟨nm, ns, gs, ys, rs, en⟩, ⟨an, cn, ag, cg, ay, cy, ar, cr⟩, ba⟩ := o
  simp only [LM.cellsO] at HA0
  simp only [LM.cellsO]
  have HB := hideC ((Below.refl w.heap.size w).alloc (Nat.le_refl _) (.cells #[.string nm, .slice an ns.length cn, .slice ag gs.length cg, .slice ay ys.length cy, .slice ar rs.length cr, .int .i64 en, .int .i64 ba] 59))
  by_cases hs : s = ⟨#[]⟩
  · subst hs
    rw [if_pos rfl] at HTN
    go_enter Try.func78, Try.ntmps78
    go_wp2_with (go_at_call 23; refine (HA0.out _).mono ?_; rintro e w1 ⟨rfl, hb⟩; have HB1 := hideC (HB.out.trans (hb.mono HB.out.size)); clear hb)
    go_ret2
    exact ⟨by rw [HTN.out]; rfl, HB1.out⟩
  · rw [if_neg hs] at HTN
    have hs2 : ¬ s.toList = [] := fun e => hs (by
      rw [Lib.toList_data] at e
      cases s
      congr 1
      exact Array.toList_eq_nil_iff.1 e)
    have hs4 : s.toList.isEmpty = false := by simpa using hs2
    clear hs hs2
    go_enter Try.func78, Try.ntmps78
    go_wp2
    go_loopw [18] (fun i wr => ∃ k : Nat, k ≤ l.length ∧ i = .int .i64 k ∧ LM.tgtTo l s k = none ∧ Below w.heap.size w wr) (fun i _ => l.length - (intOf i).toNat)
    case atStart => exact ⟨0, by omega, rfl, rfl, HB.out⟩
    case round =>
      obtain ⟨k, hk, rfl, hz, hb⟩ := hrel
      have HZ := hideC hz
      have HBr := hideC hb
      clear hz
      by_cases hlt : k < l.length
      · have HOr := hideC (HO.out.below hb)
        obtain ⟨b, off, hao, hbl, hlie⟩ := HOr.out.has (by omega)
        subst hao
        obtain ⟨⟨c0, c1, c2, c3, c4, c5, c6⟩, him⟩ := hlie k hlt
        have hbs := HO.out.base k hlt
        have HST : Hid (LM.tgtTo l s (k + 1) = LM.symN (LM.obAt l k) s) := by
          show _ = _
          simp only [LM.tgtTo]
          rw [HZ.out]
        have HST2 : Hid (∀ t, LM.symN (LM.obAt l k) s = some t → R = some t) := fun t g => by
          rw [HTN.out]
          exact LM.tgtTo_some (by rw [HST.out]; exact g) l.length (by omega)
        have HSY : Hid (∀ V, Below wr.heap.size wr V → Calls Try.prog 88 #[.agg (LM.cellsO (LM.obAt l k)), .string s] V fun e w' => e = .returned (optV (LM.symN (LM.obAt l k) s)) ∧ Below V.heap.size V w') := fun V hb => symbol_any (LM.obAt l k) s V (him.below hb) (HO.out.chk k hlt) (by omega) (by omega)
        obtain ⟨q, hq⟩ : ∃ q, q = LM.obAt l k := ⟨_, rfl⟩
        rw [← hq] at c0 c1 c2 c3 c4 c5 c6 HST HST2 HSY
        simp only [LM.cellsO] at HSY
        clear hq hlie hb him hbs
        have HBA := hideC (HBr.out.alloc HBr.out.size (.cells #[.string q.i.name, .slice q.a.an q.i.needs.length q.a.cn, .slice q.a.ag q.i.segs.length q.a.cg, .slice q.a.ay q.i.syms.length q.a.cy, .slice q.a.ar q.i.rels.length q.a.cr, .int .i64 q.i.entry, .int .i64 q.base] 59))
        cases e : LM.symN q s with
        | none =>
          rw [e] at HSY HST
          simp only [optV, Option.getD_none, Option.isSome_none] at HSY
          clear e HST2
          go_wp2_with (go_at_call 88; refine (HSY.out _ ((Below.refl _ _).alloc (Nat.le_refl _) _)).mono ?_; rintro e w1 ⟨rfl, hb⟩; have HBA := hideC (HBA.out.trans (hb.mono HBA.out.size)); clear hb)
          go_roundw
          case rel => exact ⟨k + 1, by omega, by go_num, HST.out, HBA.out⟩
          case measure => simp [intOf]; omega
        | some t =>
          have HRT := hideC (HST2.out t e)
          rw [e] at HSY
          simp only [optV, Option.getD_some, Option.isSome_some] at HSY
          clear e HST2 HST
          go_wp2_with (go_at_call 88; refine (HSY.out _ ((Below.refl _ _).alloc (Nat.le_refl _) _)).mono ?_; rintro e w1 ⟨rfl, hb⟩; have HBA := hideC (HBA.out.trans (hb.mono HBA.out.size)); clear hb)
          go_ret2
          exact ⟨by rw [HRT.out]; rfl, HBA.out⟩
      · obtain rfl : k = l.length := by omega
        clear hb
        go_wp2
        go_ret2
        exact ⟨by rw [HTN.out, HZ.out]; rfl, HBr.out⟩
end Go.Proofs.Yteieplodndfbhaa.LW
