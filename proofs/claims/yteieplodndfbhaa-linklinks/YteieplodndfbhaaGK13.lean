import Derived.Test.YteieplodndfbhaaGK12
import Derived.Test.YteieplodndfbhaaGK10
/- The reference's fixesOf: the parts of an object's relocations that lie in a page. -/
namespace Go.Proofs.Yteieplodndfbhaa.LW
open Go.RowKit
open Go.Proofs.Yteieplodndfbhaa.W (hideC)
set_option linter.unusedVariables false
set_option maxRecDepth 100000

theorem row_lower {w : World} {base base' : Nat} {e : TypeId} {size : Nat} {v : Value} {n : Nat} {xs : List Value} (h : w.ownsRow base e size v n xs) (hb : base' ≤ base) : w.ownsRow base' e size v n xs := by
  refine ⟨h.1, ?_⟩
  rcases h.2 with h2 | ⟨g, cap, cur, hv, hbg, hg, rest⟩
  · exact .inl h2
  · exact .inr ⟨g, cap, cur, hv, Nat.le_trans hb hbg, hg, rest⟩
theorem calls_below {P : Program} {f : FuncId} {args : Array Value} {v : Value} {w : World} (h : ∀ W, Below w.heap.size w W → Calls P f args W fun e w' => e = .returned v ∧ Below W.heap.size W w') (x : Q.Kin w.heap.size w) :
    Calls P f args x.world fun e w'' => e = .returned v ∧ ∃ y : Q.Kin w.heap.size w, w'' = y.world :=
  (h x.world x.keeps).mono fun e w'' ⟨he, hb⟩ => ⟨he, ⟨w'', x.keeps.trans (hb.mono x.keeps.size)⟩, rfl⟩
theorem pat_step {l : List LM.Ob} {o : LM.Ob} {PS : List LM.Pt} (h : LM.patN l o = some PS) {k : Nat} (hk : k < o.i.rels.length) {ps : List LM.Pt} (hp : LM.patTo l o k = some ps) : ∃ t, LM.tgtN l o (M.rlAt o.i.rels k).name = some t ∧ LM.patTo l o (k + 1) = some (ps ++ [LM.ptOf o (M.rlAt o.i.rels k) t]) := by
  cases e : LM.tgtN l o (M.rlAt o.i.rels k).name with
  | none =>
    have h1 : LM.patTo l o (k + 1) = none := by simp only [LM.patTo]; rw [hp]; simp only; rw [e]
    have h2 := LM.patTo_none h1 o.i.rels.length (by omega)
    unfold LM.patN at h
    rw [h2] at h
    cases h
  | some t => exact ⟨t, rfl, by simp only [LM.patTo]; rw [hp]; simp only; rw [e]⟩
set_option maxHeartbeats 6000000 in
theorem fixesR_any (l : List LM.Ob) (ao : Option Addr) (cap : Nat) (o : LM.Ob) (page : Int) (PS : List LM.Pt) (w : World) (h : Oi l ao w) (him : M.HasIm w o.a o.i) (hc : M.chkN o.i = 0) (h0 : 0 ≤ o.base) (h1 : o.base ≤ 2000) (p0 : 0 ≤ page) (p1 : page ≤ 3000) (hps : LM.patN l o = some PS) :
    Calls Try.prog 29 #[.slice ao l.length cap, .agg (LM.cellsO o), .int .i64 page] w fun e w' => (∃ v, e = .returned v ∧ w'.ownsRow w.heap.size 89 2 v (LM.fixesN page PS).length ((LM.fixesN page PS).flatMap LM.cellF)) ∧ Below w.heap.size w w' := by
  obtain ⟨i0, hi, hz0, hz1, hz2⟩ := info_parts infoFx
  have HO := hideC h
  have HR := hideC him.rels
  have HRB := hideC (LM.rel_bounds hc)
  have hcn := (LM.counts_of hc).2.2.2.2
  have HAD : Hid (∀ k V, Below w.heap.size w V → Calls Try.prog 27 #[.slice ao l.length cap, .agg (LM.cellsO o), .agg #[.int .i64 (M.rlAt o.i.rels k).pos, .string (M.rlAt o.i.rels k).name, .int .i64 (M.rlAt o.i.rels k).add]] V fun e w' => e = .returned (addrV (LM.tgtN l o (M.rlAt o.i.rels k).name) (M.rlAt o.i.rels k).add) ∧ Below V.heap.size V w') := fun k V hV => addressR_any l ao cap o (M.rlAt o.i.rels k) V (HO.out.below hV) h0 (by omega)
  have HST : Hid (∀ k, k < o.i.rels.length → ∀ ps, LM.patTo l o k = some ps → ∃ t, LM.tgtN l o (M.rlAt o.i.rels k).name = some t ∧ LM.patTo l o (k + 1) = some (ps ++ [LM.ptOf o (M.rlAt o.i.rels k) t])) := fun k hk ps hp => pat_step hps hk hp
  have HPN : Hid (LM.patTo l o o.i.rels.length = some PS) := hps
  have HPO : Hid (∀ k t, LM.ptOf o (M.rlAt o.i.rels k) t = ⟨o.base * 16 + (M.rlAt o.i.rels k).pos, ⟨(Lib.leBytes 8 (CM.low (t + (M.rlAt o.i.rels k).add))).toArray⟩⟩) := fun k t => rfl
  have HPL : Hid (∀ k ps, LM.patTo l o k = some ps → ps.length = k) := fun k ps h => LM.patTo_len h
  clear h him hc hps
  obtain ⟨PT, hPT⟩ : ∃ PT, PT = LM.patTo l o := ⟨_, rfl⟩
  obtain ⟨TG, hTG⟩ : ∃ TG, TG = LM.tgtN l o := ⟨_, rfl⟩
  have HP0 : Hid (PT 0 = some []) := hideC (by rw [hPT]; rfl)
  rw [← hTG] at HAD
  rw [← hPT, ← hTG] at HST
  rw [← hPT] at HPN HPL
  obtain ⟨PO, hPO⟩ : ∃ PO, PO = LM.ptOf o := ⟨_, rfl⟩
  rw [← hPO] at HST HPO
  clear hPT hTG hPO
  obtain ⟨⟨nm, ns, gs, ys, rs, en⟩, ⟨an, cn, ag, cg, ay, cy, ar, cr⟩, ba⟩ := o
  simp only [LM.cellsO] at HAD ⊢
  simp only at HR HRB hcn h0 h1 HST HPN HPO HAD
  have HB0 := hideC ((Below.refl w.heap.size w).alloc (Nat.le_refl _) (.cells #[.string nm, .slice an ns.length cn, .slice ag gs.length cg, .slice ay ys.length cy, .slice ar rs.length cr, .int .i64 en, .int .i64 ba] 71))
  have BX := hideC (B.new w #[.string nm, .slice an ns.length cn, .slice ag gs.length cg, .slice ay ys.length cy, .slice ar rs.length cr, .int .i64 en, .int .i64 ba] 71)
  go_enter Try.func29, Try.ntmps29
  go_wp2
  go_loopw [8, 7] (fun i v wr => ∃ (k : Nat) (ps : List LM.Pt), k ≤ rs.length ∧ i = .int .i64 k ∧ PT k = some ps ∧ wr.ownsRow (w.heap.size + 1) 89 2 v (LM.fixesN page ps).length ((LM.fixesN page ps).flatMap LM.cellF) ∧ Below w.heap.size w wr ∧ wr.heap[w.heap.size]? = some (.cells #[.string nm, .slice an ns.length cn, .slice ag gs.length cg, .slice ay ys.length cy, .slice ar rs.length cr, .int .i64 en, .int .i64 ba] 71 (0, 0))) (fun i _ _ => rs.length - (intOf i).toNat)
  case atStart => exact ⟨0, [], by omega, rfl, HP0.out, World.ownsRow_nil _ _ _ _, HB0.out, BX.out⟩
  case round =>
    obtain ⟨k, ps, hk, rfl, hpt, hown, hb, hbx⟩ := hrel
    have HOW := hideC hown
    have HBr := hideC hb
    have HBX := hideC hbx
    have hsz := hb.size
    have hlb := B.isLt hbx
    have q4 := B.cell hbx 4 rfl
    by_cases hlt : k < rs.length
    · obtain ⟨t, htg, hpn⟩ := HST.out k hlt ps hpt
      have hpl := HPL.out k ps hpt
      obtain ⟨rb, ro, har, hrb, hlr⟩ := HR.out (by omega)
      subst har
      have HCell : Hid (∀ V, Below wr.heap.size wr V → (V.cell? ⟨rb, ro + k * 3, none⟩ = some (.int .i64 (M.rlAt rs k).pos) ∧ V.cell? ⟨rb, ro + k * 3 + 1, none⟩ = some (.string (M.rlAt rs k).name) ∧ V.cell? ⟨rb, ro + k * 3 + 2, none⟩ = some (.int .i64 (M.rlAt rs k).add)) ∧ V.heap[w.heap.size]? = some (.cells #[.string nm, .slice an ns.length cn, .slice ag gs.length cg, .slice ay ys.length cy, .slice (some ⟨rb, ro, none⟩) rs.length cr, .int .i64 en, .int .i64 ba] 71 (0, 0))) := fun V hV => by
        refine ⟨?_, B.below HBX.out hV (B.isLt HBX.out)⟩
        exact M.lieR (HBr.out.trans (hV.mono HBr.out.size)) hrb hlr k hlt
      have HADk : Hid (∀ V, Below wr.heap.size wr V → Calls Try.prog 27 #[.slice ao l.length cap, .agg #[.string nm, .slice an ns.length cn, .slice ag gs.length cg, .slice ay ys.length cy, .slice (some ⟨rb, ro, none⟩) rs.length cr, .int .i64 en, .int .i64 ba], .agg #[.int .i64 (M.rlAt rs k).pos, .string (M.rlAt rs k).name, .int .i64 (M.rlAt rs k).add]] V fun e w' => e = .returned (.tuple #[.int .i64 (wrap64 (t + (M.rlAt rs k).add)), .bool true]) ∧ Below V.heap.size V w') := fun V hV => by
        have hh := HAD.out k V (HBr.out.trans (hV.mono HBr.out.size))
        rw [htg] at hh
        exact hh
      have hpb := HRB.out k hlt
      have HPOk := hideC (HPO.out k t)
      have HPN1 := hideC hpn
      obtain ⟨⟨rp, rn, ra⟩, hrr⟩ : ∃ r, r = M.rlAt rs k := ⟨_, rfl⟩
      rw [← hrr] at HCell HADk hpb HPOk HPN1
      simp only at HCell HADk hpb HPOk
      rw [HPOk.out] at HPN1
      clear hrr hpn htg HPOk hlr hb hown hbx hpt HAD
      obtain ⟨N, hN⟩ : ∃ N, N = wrap64 (t + ra) := ⟨_, rfl⟩
      have HBy : Hid (∀ V, Calls Try.prog 48 #[.int .i64 N, .int .i64 8] V fun e w' => e = .returned (.string ⟨(Lib.leBytes 8 (CM.low (t + ra))).toArray⟩) ∧ Below V.heap.size V w') := fun V => by
        have hh := CW.bytes_any N 8 V (by omega)
        rw [hN, LM.low_wrap, ← hN] at hh
        exact hh
      rw [← hN] at HADk
      obtain ⟨BB, hBB⟩ : ∃ BB : ByteArray, BB = ⟨(Lib.leBytes 8 (CM.low (t + ra))).toArray⟩ := ⟨_, rfl⟩
      have hBs : BB.size = 8 := by rw [hBB, Lib.size_eq]; simp [Lib.leBytes_length]
      rw [← hBB] at HBy HPN1
      clear hBB hN
      have hkin := Q.kin_some wr
      have hbl2 : rb < wr.heap.size := Nat.lt_of_lt_of_le hrb hsz
      have HU : Hid (∀ x : Q.Kin wr.heap.size wr, x.world.heap[w.heap.size]? = some (.cells #[.string nm, .slice an ns.length cn, .slice ag gs.length cg, .slice ay ys.length cy, .slice (some ⟨rb, ro, none⟩) rs.length cr, .int .i64 en, .int .i64 ba] 71 (0, 0))) := fun x => (HCell.out _ x.keeps).2
      have a0 : ∀ x : Q.Kin wr.heap.size wr, x.world.cell? ⟨w.heap.size, 0, none⟩ = some (.string nm) := fun x => B.cell (HU.out x) 0 rfl
      have a1 : ∀ x : Q.Kin wr.heap.size wr, x.world.cell? ⟨w.heap.size, 1, none⟩ = some (.slice an ns.length cn) := fun x => B.cell (HU.out x) 1 rfl
      have a2 : ∀ x : Q.Kin wr.heap.size wr, x.world.cell? ⟨w.heap.size, 2, none⟩ = some (.slice ag gs.length cg) := fun x => B.cell (HU.out x) 2 rfl
      have a3 : ∀ x : Q.Kin wr.heap.size wr, x.world.cell? ⟨w.heap.size, 3, none⟩ = some (.slice ay ys.length cy) := fun x => B.cell (HU.out x) 3 rfl
      have a4 : ∀ x : Q.Kin wr.heap.size wr, x.world.cell? ⟨w.heap.size, 4, none⟩ = some (.slice (some ⟨rb, ro, none⟩) rs.length cr) := fun x => B.cell (HU.out x) 4 rfl
      have a5 : ∀ x : Q.Kin wr.heap.size wr, x.world.cell? ⟨w.heap.size, 5, none⟩ = some (.int .i64 en) := fun x => B.cell (HU.out x) 5 rfl
      have a6 : ∀ x : Q.Kin wr.heap.size wr, x.world.cell? ⟨w.heap.size, 6, none⟩ = some (.int .i64 ba) := fun x => B.cell (HU.out x) 6 rfl
      have r0 : ∀ x : Q.Kin wr.heap.size wr, x.world.cell? ⟨rb, ro + k * 3, none⟩ = some (.int .i64 rp) := fun x => (HCell.out _ x.keeps).1.1
      have r1 : ∀ x : Q.Kin wr.heap.size wr, x.world.cell? ⟨rb, ro + k * 3 + 1, none⟩ = some (.string rn) := fun x => (HCell.out _ x.keeps).1.2.1
      have r2 : ∀ x : Q.Kin wr.heap.size wr, x.world.cell? ⟨rb, ro + k * 3 + 2, none⟩ = some (.int .i64 ra) := fun x => (HCell.out _ x.keeps).1.2.2
      have hk1 : (k : Int) < (rs.length : Int) := by omega
      have hk0 : (0 : Int) ≤ (k : Int) := by omega
      go_wp2_with fail
      refine Q.region_kin (by kernel_rfl) (by kernel_rfl) ?_
      repeat (first | go_big_quiet_step ((go_at_call 27; with_reducible exact calls_below HADk.out _)) | quiet_step ((go_at_call 27; with_reducible exact calls_below HADk.out _)))
      refine wpQuiet_nil ?_
      intro _ hw'
      obtain ⟨x, hw''⟩ := hw'
      subst hw''
      have HKX := hideC x.keeps
      clear a0 a1 a2 a3 a4 a5 a6 r0 r1 r2 HADk hkin HU
      obtain ⟨w0, hw0⟩ : ∃ w0, w0 = x.world := ⟨_, rfl⟩
      rw [← hw0] at HKX ⊢
      clear hw0 x
      go_wp2_with fail
      refine (HBy.out _).mono ?_
      rintro e w1 ⟨rfl, hb1⟩
      have HK1 := hideC (HKX.out.trans (hb1.mono HKX.out.size))
      obtain ⟨⟨c0, -, -⟩, hbox⟩ := HCell.out _ HK1.out
      have z4 : w1.cell? ⟨w.heap.size, 4, none⟩ = some (.slice (some ⟨rb, ro, none⟩) rs.length cr) := B.cell hbox 4 rfl
      have z6 : w1.cell? ⟨w.heap.size, 6, none⟩ = some (.int .i64 ba) := B.cell hbox 6 rfl
      have HOW1 := hideC (row_grown HOW.out HK1.out)
      have HB1 := hideC (HBr.out.trans (HK1.out.mono HBr.out.size))
      have HBX1 := hideC hbox
      clear hb1 hbox HCell HKX HBy q4
      have hw1 : IntKind.i64.wrap (ba * 16) = ba * 16 := IntWalk.i64_in _ (by omega)
      have hw2 : IntKind.i64.wrap (ba * 16 + rp) = ba * 16 + rp := IntWalk.i64_in _ (by omega)
      have hw3 : IntKind.i64.wrap (page * 16) = page * 16 := IntWalk.i64_in _ (by omega)
      have hw4 : IntKind.i64.wrap (ba * 16 + rp - page * 16) = ba * 16 + rp - page * 16 := IntWalk.i64_in _ (by omega)
      go_wp2_with fail
      go_quiet (fail)
      have HBQ := hideC (below_drewN (Below.refl w1.heap.size w1) nq)
      obtain ⟨w2, hw2e⟩ : ∃ w2, w2 = w1.drewN nq := ⟨_, rfl⟩
      rw [← hw2e] at HBQ ⊢
      have HOW2 := hideC (row_grown HOW1.out HBQ.out)
      have HB2 := hideC (HB1.out.trans (HBQ.out.mono HB1.out.size))
      have HBX2 := hideC (B.below HBX1.out HBQ.out (B.isLt HBX1.out))
      have hs2 := HB2.out.size
      have hlx2 := B.isLt HBX2.out
      clear hw2e HOW1 HB1 HBX1 HBQ z4 z6 c0 HK1 HOW hw1 hw2 hw3
      obtain ⟨F, hF⟩ : ∃ F, F = ba * 16 + rp - page * 16 := ⟨_, rfl⟩
      have hFb : -100000 ≤ F ∧ F ≤ 100000 := by omega
      obtain ⟨A, hA⟩ : ∃ A, A = max F 0 := ⟨_, rfl⟩
      obtain ⟨E, hE⟩ : ∃ E, E = min (F + 8) 16 := ⟨_, rfl⟩
      have hAb : 0 ≤ A ∧ F ≤ A ∧ A ≤ 100000 := by omega
      have hEb : E ≤ 16 ∧ E ≤ F + 8 ∧ -100000 ≤ E := by omega
      have HT : Hid (LM.fixesN page (ps ++ [⟨ba * 16 + rp, BB⟩]) = LM.fixesN page ps ++ (if A < E then [⟨A, BB.extract (A - F).toNat (E - F).toNat⟩] else [])) := hideC (by
        rw [LM.fixesN_snoc, ← LM.cutR_eq]
        unfold LM.cutR
        simp only
        rw [← hF, ← hA, ← hE])
      have hlen := LM.fixes_len page ps
      have hA' : max F 0 = A := hA.symm
      have hE' : min (F + 8) 16 = E := hE.symm
      rw [← hF]
      clear hF hA hE hw4
      obtain ⟨G, hG⟩ : ∃ G, G = LM.fixesN page ps := ⟨_, rfl⟩
      rw [← hG] at HOW2 HT hlen
      clear hG
      by_cases hAE : A < E
      · rw [if_pos hAE] at HT
        obtain ⟨u, hu⟩ : ∃ u : Nat, A - F = (u : Int) := ⟨(A - F).toNat, by omega⟩
        obtain ⟨n, hn⟩ : ∃ n : Nat, E - F = (n : Int) := ⟨(E - F).toNat, by omega⟩
        have hu2 : (A - F).toNat = u := by omega
        have hn2 : (E - F).toNat = n := by omega
        have hun : u ≤ n ∧ n ≤ 8 := by omega
        rw [hu2, hn2] at HT
        clear hu2 hn2
        have hun1 : (u : Int) ≤ (n : Int) := by omega
        have hn8 : (n : Int) ≤ 8 := by omega
        have hrow1 := (HOW2.out.alloc (.cells #[.int .i64 A, .string (BB.extract u n)] 89)).lt
        have HOWA := hideC (HOW2.out.alloc (.cells #[.int .i64 A, .string (BB.extract u n)] 89))
        have HN1 := hideC (B.new w2 #[.int .i64 A, .string (BB.extract u n)] 89)
        have HBA := hideC (HB2.out.alloc HB2.out.size (.cells #[.int .i64 A, .string (BB.extract u n)] 89))
        have HBXA := hideC (B.alloc HBX2.out (.cells #[.int .i64 A, .string (BB.extract u n)] 89))
        go_wp2_with (at_builtin; refine wpList_append_lies _ rfl _ _ 41 rfl (w.heap.size + 1) 89 i0 (.agg #[.int .i64 0, .string ⟨#[]⟩]) 2 24 Try.underlying41 hi hz0 hz1 hz2 rfl (by decide) _ _ _ rfl HOWA.out ⟨w2.heap.size, 0, none⟩ 1 1 [.int .i64 A, .string (BB.extract u n)] rfl rfl (B.news HN1.out) (by intro u hu; simp at hu; rcases hu with rfl | rfl <;> rfl) (by decide) (by unfold maxLen; omega) (by omega) (by simp; omega) (w2.heap.size + 1) (by simp) ?_; intro gg capg w3 hown2 hgrow hatt hlt2; have HOW3 := hideC hown2; have HB3 := hideC (HBA.out.grown hgrow (by simp; omega) (fun q hq => Nat.le_trans (Nat.le_succ _) (hrow1 _ hq).1)); have HBX3 := hideC (B.grown HBXA.out hgrow (fun e => by have h9 := (hrow1 _ e.symm).1; omega)); clear hown2 hgrow hatt)
        go_roundw
        case rel => exact ⟨k + 1, _, by omega, by go_num, HPN1.out, by rw [HT.out, List.length_append, List.flatMap_append]; exact HOW3.out, HB3.out, HBX3.out⟩
        case measure => simp [intOf]; omega
      · rw [if_neg hAE, List.append_nil] at HT
        have hAE' : E ≤ A := by omega
        go_wp2
        go_roundw
        case rel => exact ⟨k + 1, _, by omega, by go_num, HPN1.out, by rw [HT.out]; exact HOW2.out, HB2.out, HBX2.out⟩
        case measure => simp [intOf]; omega
    · obtain rfl : k = rs.length := by omega
      have e : ps = PS := Option.some.inj (hpt.symm.trans HPN.out)
      subst e
      clear hown hb hbx
      go_wp2
      go_ret
      exact ⟨⟨_, rfl, row_lower HOW.out (Nat.le_succ _)⟩, HBr.out⟩
end Go.Proofs.Yteieplodndfbhaa.LW
/- The reference's objects: the order, then the bases. -/
namespace Go.Proofs.Yteieplodndfbhaa.LW
open Go.RowKit
open Go.Proofs.Yteieplodndfbhaa.W (hideC)
set_option linter.unusedVariables false
set_option maxRecDepth 100000

def ints (ix : List Nat) : List Value := ix.map (fun (j : Nat) => Value.int .i64 (j : Int))
theorem infoIn : (Try.prog.info? 3).map (fun i => (i.zero, i.size, i.bytes)) = some (some (.int .i64 0), 1, 8) := by kernel_rfl
theorem infoRo : (Try.prog.info? 71).map (fun i => (i.zero, i.size, i.bytes)) = some (some (.agg #[.string ⟨#[]⟩, .slice none 0 0, .slice none 0 0, .slice none 0 0, .slice none 0 0, .int .i64 0, .int .i64 0]), 7, 128) := by kernel_rfl
theorem row_int {w : World} {base : Nat} {v : Value} {ix : List Nat} (h : w.ownsRow base 3 1 v ix.length (ints ix)) (hl : 0 < ix.length) :
    ∃ g cap, v = .slice (some ⟨g, 0, none⟩) ix.length cap ∧ base ≤ g ∧ g < w.heap.size ∧ ix.length ≤ cap ∧ ∀ k, k < ix.length → w.cell? ⟨g, k, none⟩ = some (.int .i64 ((ix.getD k 0 : Nat) : Int)) := by
  rcases h.2 with ⟨hv, h0⟩ | ⟨g, cap, cur, hv, hbg, hg, hnc, hcm, hcs, htake⟩
  · omega
  · subst hv
    refine ⟨g, cap, rfl, hbg, B.isLt hg, hnc, fun k hk => ?_⟩
    refine (h.cellAt k (by omega)).trans ?_
    unfold ints
    rw [List.getElem?_map, List.getD_eq_getElem?_getD, List.getElem?_eq_getElem hk]
    rfl
theorem row_ro {w : World} {base : Nat} {v : Value} {l : List LM.Ob} (h : w.ownsRow base 71 7 v l.length (l.flatMap LM.cellO)) (hl : 0 < l.length) (hi : ∀ k, k < l.length → M.HasIm w (LM.obAt l k).a (LM.obAt l k).i) :
    ∃ g cap, v = .slice (some ⟨g, 0, none⟩) l.length cap ∧ base ≤ g ∧ g < w.heap.size ∧ l.length ≤ cap ∧ LM.LieO w g 0 l := by
  rcases h.2 with ⟨hv, h0⟩ | ⟨g, cap, cur, hv, hbg, hg, hnc, hcm, hcs, htake⟩
  · omega
  · subst hv
    refine ⟨g, cap, rfl, hbg, B.isLt hg, hnc, fun k hk => ?_⟩
    rw [Nat.zero_add]
    have hh : ∀ j, j < 7 → w.cell? ⟨g, k * 7 + j, none⟩ = (LM.cellO (LM.obAt l k))[j]? := fun j hj => (h.cellAt _ (by omega)).trans (flat_get LM.cellO 7 (fun _ => rfl) LM.ob0 l k j hk hj)
    exact ⟨⟨hh 0 (by omega), hh 1 (by omega), hh 2 (by omega), hh 3 (by omega), hh 4 (by omega), hh 5 (by omega), hh 6 (by omega)⟩, hi k hk⟩
/-- what objects is handed -/
structure Ai (all : List LM.Li) (ao : Option Addr) (w : World) : Prop where
  has : LM.HasI w ao all
  pos : 0 < all.length
  few : all.length ≤ 7
  chk : ∀ j, j < all.length → M.chkN (LM.liAt all j).i = 0
theorem Ai.below {all : List LM.Li} {ao : Option Addr} {w w' : World} (h : Ai all ao w) (hb : Below w.heap.size w w') : Ai all ao w' := ⟨h.has.below hb, h.pos, h.few, h.chk⟩
theorem Ai.im {all : List LM.Li} {ao : Option Addr} {w : World} (h : Ai all ao w) (j : Nat) (hj : j < all.length) : M.HasIm w (LM.liAt all j).a (LM.liAt all j).i := by
  obtain ⟨b, off, _, _, hl⟩ := h.has (by omega)
  exact (hl j hj).2
/-- how objects ends -/
def OutO (all : List LM.Li) (R : Option (List Nat)) (w : World) (e : Ending) (w' : World) : Prop := Below w.heap.size w w' ∧ match R with
  | none => e = .returned (.tuple #[.slice none 0 0, .int .i64 6])
  | some ix => LM.OkIx all ix ∧ if 256 < LM.endFrom all 1 ix then e = .returned (.tuple #[.slice none 0 0, .int .i64 3]) else
      ∃ ao cap, e = .returned (.tuple #[.slice ao ix.length cap, .int .i64 0]) ∧ LM.HasO w' ao (LM.obsFrom all 1 ix)
theorem endFrom_take (all : List LM.Li) (hc : ∀ j, j < all.length → M.chkN (LM.liAt all j).i = 0) : ∀ (ix : List Nat) (b : Int) (k : Nat), (∀ j ∈ ix, j < all.length) → LM.endFrom all b (ix.take k) ≤ LM.endFrom all b ix
  | [], b, k, _ => by simp
  | j :: r, b, 0, h => by
    have := (LM.endFrom_bounds all hc (j :: r) b h).1
    simpa [LM.endFrom] using this
  | j :: r, b, k + 1, h => by
    have := endFrom_take all hc r (LM.endO ⟨(LM.liAt all j).i, (LM.liAt all j).a, b⟩) k (fun q hq => h q (List.mem_cons_of_mem _ hq))
    simpa [LM.endFrom] using this
theorem take_snoc (ix : List Nat) (k : Nat) (h : k < ix.length) : ix.take (k + 1) = ix.take k ++ [ix.getD k 0] := by
  rw [List.take_add_one, List.getD_eq_getElem?_getD, List.getElem?_eq_getElem h]
  rfl
theorem has_snoc (ix : List Nat) (k j : Nat) (h : k < ix.length) : (ix.take (k + 1)).contains j = ((ix.take k).contains j || decide (((ix.getD k 0 : Nat) : Int) = (j : Int))) := by
  rw [take_snoc ix k h]
  rw [Bool.eq_iff_iff]
  simp only [List.contains_iff_mem, List.mem_append, List.mem_singleton, Bool.or_eq_true, decide_eq_true_eq]
  constructor
  · rintro (g | g)
    · exact .inl g
    · exact .inr (by rw [g])
  · rintro (g | g)
    · exact .inl g
    · exact .inr (by omega)
set_option maxHeartbeats 6000000 in
theorem objectsR_any (all : List LM.Li) (ao : Option Addr) (cap : Nat) (w : World) (h : Ai all ao w) :
    Calls Try.prog 26 #[.slice ao all.length cap] w (OutO all (LM.gat all all.length 0 [0]) w) := by
  obtain ⟨i0, hi, hz0, hz1, hz2⟩ := info_parts infoIn
  have HA := hideC h
  have hpos := h.pos
  have hfew := h.few
  clear h
  obtain ⟨R, hR⟩ : ∃ R, R = LM.gat all all.length 0 [0] := ⟨_, rfl⟩
  have HR := hideC hR
  rw [← hR]
  clear hR
  have HX0 : Hid (LM.OkIx all [0]) := ⟨by simp, by simp, fun j hj => by simp at hj; omega⟩
  have HB0 := hideC ((Below.refl w.heap.size w).alloc (Nat.le_refl _) (.cells #[.int .i64 0] 3))
  have HOW0 : Hid ((w.alloc (.cells #[.int .i64 0] 3)).ownsRow w.heap.size 3 1 (.slice (some ⟨w.heap.size, 0, none⟩) 1 1) 1 (ints [0])) :=
    World.ownsRow_lit (base := w.heap.size) (e := 3) (size := 1) w #[.int .i64 0] 1 (Nat.le_refl _) (by unfold maxLen; omega) rfl
  obtain ⟨b, off, hao, hbl, hlie⟩ := HA.out.has hpos
  subst hao
  have HLI := hideC hlie
  clear hlie
  go_enter Try.func26, Try.ntmps26
  go_wp2
  go_loopw [5, 4] (fun nx v wr => ∃ (n : Nat) (ix : List Nat), nx = .int .i64 n ∧ LM.OkIx all ix ∧ n ≤ ix.length ∧ LM.gat all (all.length - n) n ix = R ∧ wr.ownsRow w.heap.size 3 1 v ix.length (ints ix) ∧ Below w.heap.size w wr) (fun nx _ _ => all.length - (intOf nx).toNat)
  case atStart => exact ⟨0, [0], rfl, HX0.out, by simp, HR.out.symm, HOW0.out, HB0.out⟩
  case round =>
    obtain ⟨n, ix, rfl, hx, hnx, hgt, hown, hb⟩ := hrel
    have HX := hideC hx
    have HGT := hideC hgt
    have HOW := hideC hown
    have HBr := hideC hb
    have hle := hx.le
    have hps := hx.pos
    obtain ⟨g, capg, hv, hbg, hgl, hnc, hcell⟩ := row_int hown hps
    subst hv
    have HCE := hideC hcell
    have HAr := hideC (HA.out.below hb)
    clear hcell
    by_cases hlt : n < ix.length
    · have hjl := hx.lt _ (LM.getD_mem ix n hlt)
      have c0 := HCE.out n hlt
      obtain ⟨⟨-, c1, -, -, -, -⟩, -⟩ := LM.lieI hb hbl HLI.out (ix.getD n 0) hjl
      have HIM := hideC (HA.out.im _ hjl).needs
      have hcn := (LM.counts_of (HA.out.chk _ hjl)).2.2.1
      obtain ⟨f, hf⟩ : ∃ f, all.length - n = f + 1 := ⟨all.length - n - 1, by omega⟩
      have HF : Hid (all.length - (n + 1) = f) := by show _ = _; omega
      rw [hf] at HGT
      have HSOME : Hid (∀ ix', LM.ordTo all ix (LM.liAt all (ix.getD n 0)).i.needs (LM.liAt all (ix.getD n 0)).i.needs.length = some ix' → LM.gat all f (n + 1) ix' = R) := fun ix' h => by
        rw [← HGT.out]
        exact (LM.gat_some all f n ix ix' hlt h).symm
      have HNONE : Hid (LM.ordTo all ix (LM.liAt all (ix.getD n 0)).i.needs (LM.liAt all (ix.getD n 0)).i.needs.length = none → R = none) := fun h => by
        rw [← HGT.out]
        exact LM.gat_none all f n ix hlt h
      obtain ⟨jn, hjn⟩ : ∃ jn, jn = ix.getD n 0 := ⟨_, rfl⟩
      rw [← hjn] at c0 c1 hjl HIM hcn HSOME HNONE
      obtain ⟨q, hq⟩ : ∃ q, q = LM.liAt all jn := ⟨_, rfl⟩
      rw [← hq] at c1 HIM hcn HSOME HNONE
      clear hq hjn hf hgt hown hb hx
      obtain ⟨⟨nmq, nd, gsq, ysq, rsq, enq⟩, ⟨anq, cnq, agq, cgq, ayq, cyq, arq, crq⟩⟩ := q
      simp only at c1 HSOME HNONE HIM hcn
      go_wp2
      go_loopw [7, 4] (fun kx v wi => ∃ (k : Nat) (ix' : List Nat), kx = .int .i64 k ∧ k ≤ nd.length ∧ LM.ordTo all ix nd k = some ix' ∧ LM.OkIx all ix' ∧ ix.length ≤ ix'.length ∧ wi.ownsRow w.heap.size 3 1 v ix'.length (ints ix') ∧ Below w.heap.size w wi) (fun kx _ _ => nd.length - (intOf kx).toNat)
      case atStart => exact ⟨0, ix, rfl, by omega, rfl, HX.out, Nat.le_refl _, HOW.out, HBr.out⟩
      case round =>
        clear c0 c1 HCE
        obtain ⟨k, jx, rfl, hk, hord, hox, hlx, hown, hb⟩ := hrel
        have HORD := hideC hord
        have HOX := hideC hox
        have HOWi := hideC hown
        have HBi := hideC hb
        have hsz := hb.size
        have hle2 := hox.le
        have hps2 := hox.pos
        obtain ⟨g2, cap2, hv2, hbg2, hgl2, hnc2, hcell2⟩ := row_int hown hps2
        subst hv2
        have HCE2 := hideC hcell2
        have HAi := hideC (HA.out.below hb)
        clear hord hown hox hcell2
        by_cases hkl : k < nd.length
        · obtain ⟨bn, offn, han, hbnl, hlien⟩ := HIM.out (by omega)
          subst han
          have cs := M.lieS hb hbnl hlien k hkl
          obtain ⟨s, hse⟩ : ∃ s, s = M.strAt nd k := ⟨_, rfl⟩
          rw [← hse] at cs
          have HSE := hideC hse
          clear hse hb hlien
          have HFI := hideC (find_any all (some ⟨b, off, none⟩) cap s wr HAi.out.has (by unfold M.Short; omega))
          cases e : LM.ixOf all s with
          | none =>
            have HRN : Hid (R = none) := HNONE.out (LM.ordTo_none (LM.ordTo_miss HORD.out (by rw [← HSE.out]; exact e)) nd.length (by omega))
            rw [e] at HFI
            simp only [ixInt] at HFI
            clear e
            go_wp2_with (go_at_call 60; refine HFI.out.mono ?_; rintro e w' ⟨rfl, rfl⟩)
            go_ret2
            show OutO all R w _ _
            rw [HRN.out]
            exact ⟨HBi.out, rfl⟩
          | some j =>
            have HSTEP : Hid (LM.ordTo all ix nd (k + 1) = some (LM.addIx jx j)) := LM.ordTo_step HORD.out (by rw [← HSE.out]; exact e)
            obtain ⟨hjl2, -⟩ := LM.ixOf_some e
            have HOXA := hideC (HOX.out.add hjl2)
            rw [e] at HFI
            simp only [ixInt] at HFI
            clear e
            have hj0 : (0 : Int) ≤ (j : Int) := by omega
            go_wp2_with (go_at_call 60; refine HFI.out.mono ?_; rintro e w' ⟨rfl, rfl⟩)
            go_loop [9, 10] (fun u m => ∃ k2 : Nat, k2 ≤ jx.length ∧ m = .int .i64 k2 ∧ u = .bool ((jx.take k2).contains j)) (fun _ m => jx.length - (intOf m).toNat)
            case atStart => exact ⟨0, by omega, rfl, by simp⟩
            case round =>
              obtain ⟨m, hm, rfl, rfl⟩ := hrel
              by_cases hml : m < jx.length
              · have d0 := HCE2.out m hml
                have HSN := hideC (has_snoc jx m j hml)
                obtain ⟨y, hy⟩ : ∃ y, y = jx.getD m 0 := ⟨_, rfl⟩
                rw [← hy] at d0 HSN
                clear hy
                have hm1 : (m : Int) < (jx.length : Int) := by omega
                cases ec : (jx.take m).contains j with
                | true =>
                  rw [ec] at HSN
                  simp only [Bool.true_or] at HSN
                  go_wp2
                  go_round
                  case rel => exact ⟨m + 1, by omega, by go_num, by rw [HSN.out]⟩
                  case measure => simp [intOf]; omega
                | false =>
                  rw [ec] at HSN
                  simp only [Bool.false_or] at HSN
                  go_wp2
                  go_round
                  case rel => exact ⟨m + 1, by omega, by go_num, by rw [HSN.out]; rfl⟩
                  case measure => simp [intOf]; omega
              · obtain rfl : m = jx.length := by omega
                rw [List.take_length]
                cases hcj : jx.contains j with
                | true =>
                  have HAE : Hid (LM.addIx jx j = jx) := by show _ = _; unfold LM.addIx; rw [if_pos hcj]
                  rw [HAE.out] at HSTEP
                  clear hcj
                  go_wp2
                  go_roundw
                  case rel => exact ⟨k + 1, jx, by go_num, by omega, HSTEP.out, HOX.out, hlx, HOWi.out, HBi.out⟩
                  case measure => simp [intOf]; omega
                | false =>
                  have HAE : Hid (LM.addIx jx j = jx ++ [j]) := by show _ = _; unfold LM.addIx; rw [if_neg (by rw [hcj]; decide)]
                  rw [HAE.out] at HSTEP HOXA
                  clear hcj
                  have hrow : Hid (∀ q, (Value.slice (some ⟨g2, 0, none⟩) jx.length cap2).ownBlock = some q → w.heap.size ≤ q ∧ q < wr.heap.size) := HOWi.out.lt
                  have HN := hideC (B.new wr #[.int .i64 (j : Int)] 3)
                  go_wp2_with (at_builtin; refine wpList_append_lies _ rfl _ _ 117 rfl w.heap.size 3 i0 (.int .i64 0) 1 8 Try.underlying117 hi hz0 hz1 hz2 rfl (by decide) _ _ _ rfl (HOWi.out.alloc _) ⟨wr.heap.size, 0, none⟩ 1 1 [.int .i64 (j : Int)] rfl rfl (B.news HN.out) (by intro u hu; simp at hu; subst hu; rfl) (by decide) (by unfold maxLen; omega) (by omega) (by simp; omega) (wr.heap.size + 1) (by simp) ?_; intro gg capg3 w1 hown1 hgrow hat hlt1; have HO1 := hideC hown1; have HB1 : Hid (Below w.heap.size w w1) := (HBi.out.alloc HBi.out.size _).grown hgrow (by have := HBi.out.size; simp; omega) (fun k' e => by have := hrow.out _ e; omega); clear hown1 hgrow hat)
                  go_roundw
                  case rel => exact ⟨k + 1, jx ++ [j], by go_num, by omega, HSTEP.out, HOXA.out, by rw [List.length_append]; omega, by unfold ints; rw [List.map_append, List.length_append]; exact HO1.out, HB1.out⟩
                  case measure => simp [intOf]; omega
        · obtain rfl : k = nd.length := by omega
          have HE := hideC (HSOME.out jx HORD.out)
          clear hb
          go_wp2
          go_roundw
          case rel => exact ⟨n + 1, jx, by go_num, HOX.out, by omega, by rw [HF.out]; exact HE.out, HOWi.out, HBi.out⟩
          case measure => simp [intOf]; omega
    · obtain rfl : n = ix.length := by omega
      obtain rfl : some ix = R := by
        rw [← HGT.out]
        exact (LM.gat_end all _ _ ix (by omega)).symm
      obtain ⟨i1, hi1, hy0, hy1, hy2⟩ := info_parts infoRo
      have HBD : Hid (∀ k, k ≤ ix.length → 1 ≤ LM.endFrom all 1 (ix.take k) ∧ LM.endFrom all 1 (ix.take k) ≤ 2000 ∧ LM.endFrom all 1 (ix.take k) ≤ LM.endFrom all 1 ix) := fun k hk => by
        have h1 := LM.endFrom_bounds all HA.out.chk (ix.take k) 1 (fun j hj => HX.out.lt j (List.mem_of_mem_take hj))
        have h2 : (ix.take k).length ≤ 7 := by rw [List.length_take]; omega
        have h3 := endFrom_take all HA.out.chk ix 1 k HX.out.lt
        omega
      clear hgt hown hx hb HGT HR
      obtain ⟨V, hV⟩ : ∃ V, V = wr := ⟨_, rfl⟩
      subst hV
      go_wp2
      go_loopw [13, 11, 12] (fun nx v bx wi => ∃ n : Nat, nx = .int .i64 n ∧ n ≤ ix.length ∧ bx = .int .i64 (LM.endFrom all 1 (ix.take n)) ∧ (LM.endFrom all 1 (ix.take n) ≤ 256) ∧ wi.ownsRow V.heap.size 71 7 v n ((LM.obsFrom all 1 (ix.take n)).flatMap LM.cellO) ∧ Below V.heap.size V wi) (fun nx _ _ _ => ix.length - (intOf nx).toNat)
      case atStart => exact ⟨0, rfl, by omega, rfl, by simp [LM.endFrom], World.ownsRow_nil _ _ _ _, Below.refl _ _⟩
      case round =>
        obtain ⟨n, rfl, hn, rfl, hbs, hown, hb⟩ := hrel
        have HOWi := hideC hown
        have HBi := hideC hb
        have HBt := hideC (HBr.out.trans (hb.mono HBr.out.size))
        have hsz := hb.size
        by_cases hlt2 : n < ix.length
        · have hjl := HX.out.lt _ (LM.getD_mem ix n hlt2)
          have o0 := (M.below_cell hb hgl).trans (HCE.out n hlt2)
          obtain ⟨⟨c0, c1, c2, c3, c4, c5⟩, him⟩ := LM.lieI HBt.out hbl HLI.out (ix.getD n 0) hjl
          have hbl2 : b < wr.heap.size := Nat.lt_of_lt_of_le hbl HBt.out.size
          have hgl2 : g < wr.heap.size := Nat.lt_of_lt_of_le hgl hsz
          have hcn := LM.counts_of (HA.out.chk _ hjl)
          have hlb := LM.last_bounds (HA.out.chk _ hjl)
          have hbd := HBD.out n (by omega)
          have hbd1 := HBD.out (n + 1) (by omega)
          have HTE : Hid (LM.endFrom all 1 (ix.take (n + 1)) = LM.endFrom all 1 (ix.take n) + (LM.lastSeg (LM.liAt all (ix.getD n 0)).i).page + (LM.lastSeg (LM.liAt all (ix.getD n 0)).i).pages) := by
            show _ = _
            rw [take_snoc ix n hlt2, LM.endFrom_snoc]
            rfl
          have HTO : Hid (LM.obsFrom all 1 (ix.take (n + 1)) = LM.obsFrom all 1 (ix.take n) ++ [⟨(LM.liAt all (ix.getD n 0)).i, (LM.liAt all (ix.getD n 0)).a, LM.endFrom all 1 (ix.take n)⟩]) := by
            show _ = _
            rw [take_snoc ix n hlt2, LM.obsFrom_snoc]
          obtain ⟨jn, hjn⟩ : ∃ jn, jn = ix.getD n 0 := ⟨_, rfl⟩
          rw [← hjn] at o0 c0 c1 c2 c3 c4 c5 him hcn hlb HTE HTO hjl
          obtain ⟨q, hq⟩ : ∃ q, q = LM.liAt all jn := ⟨_, rfl⟩
          rw [← hq] at c0 c1 c2 c3 c4 c5 him hcn hlb HTE HTO
          clear hq hjn
          obtain ⟨⟨nm, ns, gs, ys, rs, en⟩, ⟨an, cn, ag, cg, ay, cy, ar, cr⟩⟩ := q
          have hsg := him.segs
          simp only at hsg c0 c1 c2 c3 c4 c5 hcn
          obtain ⟨sb, so, hag, hsbl, hslie⟩ := hsg (by omega)
          subst hag
          have hls : LM.lastSeg ⟨nm, ns, gs, ys, rs, en⟩ = M.sgAt gs (gs.length - 1) := rfl
          rw [hls] at hlb HTE
          obtain ⟨s0, s1, s2, s3, s4⟩ := hslie (gs.length - 1) (by omega)
          obtain ⟨s, hs⟩ : ∃ s, s = M.sgAt gs (gs.length - 1) := ⟨_, rfl⟩
          rw [← hs] at s0 s1 s2 s3 s4 hlb HTE
          clear hs hls hslie him hsg hb hown
          obtain ⟨G, hG⟩ : ∃ G, G = gs.length := ⟨_, rfl⟩
          rw [← hG] at c2 s0 s1 s2 s3 s4 hcn
          have HGE := hideC hG
          clear hG
          obtain ⟨E0, hE0⟩ : ∃ E0, E0 = LM.endFrom all 1 (ix.take n) := ⟨_, rfl⟩
          obtain ⟨E1, hE1⟩ : ∃ E1, E1 = LM.endFrom all 1 (ix.take (n + 1)) := ⟨_, rfl⟩
          rw [← hE0] at hbd HTE HTO hbs ⊢
          rw [← hE1] at hbd1 HTE
          have HE1 := hideC hE1
          have hT := HTE.out
          clear hE0 hE1 HTE
          obtain ⟨sp, sn, sd, sw, se⟩ := s
          simp only at s0 s1 s2 s3 s4 hlb hT
          have hn1 : (n : Int) < (ix.length : Int) := by omega
          have hj1 : (jn : Int) < (all.length : Int) := by omega
          have hG1 : (1 : Int) ≤ (G : Int) := by omega
          have hG2 : 0 < G := by omega
          by_cases hbig : 256 < E1
          · have HFI : Hid (256 < LM.endFrom all 1 ix) := (by omega : (256 : Int) < LM.endFrom all 1 ix)
            have HBE := hideC ((HBt.out.alloc HBt.out.size (.cells #[.string nm, .slice an ns.length cn, .slice (some ⟨sb, so, none⟩) G cg, .slice ay ys.length cy, .slice ar rs.length cr, .int .i64 en, .int .i64 E0] 71)).alloc (by simp; have := HBt.out.size; omega) (.cells #[.int .i64 sp, .int .i64 sn, .string sd, .bool sw, .bool se] 79))
            have hE : E0 + sp + sn - 1 > 255 := by omega
            go_wp2
            go_ret2
            exact ⟨HBE.out, HX.out, by rw [if_pos HFI.out]; rfl⟩
          · have hE : ¬ (E0 + sp + sn - 1 > 255) := by omega
            have HW2 : Hid (Below V.heap.size V ((wr.alloc (.cells #[.string nm, .slice an ns.length cn, .slice (some ⟨sb, so, none⟩) G cg, .slice ay ys.length cy, .slice ar rs.length cr, .int .i64 en, .int .i64 E0] 71)).alloc (.cells #[.int .i64 sp, .int .i64 sn, .string sd, .bool sw, .bool se] 79))) := (HBi.out.alloc HBi.out.size _).alloc (by simp; omega) _
            have HO2 := hideC ((HOWi.out.alloc (.cells #[.string nm, .slice an ns.length cn, .slice (some ⟨sb, so, none⟩) G cg, .slice ay ys.length cy, .slice ar rs.length cr, .int .i64 en, .int .i64 E0] 71)).alloc (.cells #[.int .i64 sp, .int .i64 sn, .string sd, .bool sw, .bool se] 79))
            have hrow : Hid (∀ q, u11.ownBlock = some q → V.heap.size ≤ q ∧ q < wr.heap.size) := HOWi.out.lt
            have HN0 := B.new ((wr.alloc (.cells #[.string nm, .slice an ns.length cn, .slice (some ⟨sb, so, none⟩) G cg, .slice ay ys.length cy, .slice ar rs.length cr, .int .i64 en, .int .i64 E0] 71)).alloc (.cells #[.int .i64 sp, .int .i64 sn, .string sd, .bool sw, .bool se] 79)) #[.string nm, .slice an ns.length cn, .slice (some ⟨sb, so, none⟩) G cg, .slice ay ys.length cy, .slice ar rs.length cr, .int .i64 en, .int .i64 E0] 71
            rw [show ((wr.alloc (.cells #[.string nm, .slice an ns.length cn, .slice (some ⟨sb, so, none⟩) G cg, .slice ay ys.length cy, .slice ar rs.length cr, .int .i64 en, .int .i64 E0] 71)).alloc (.cells #[.int .i64 sp, .int .i64 sn, .string sd, .bool sw, .bool se] 79)).heap.size = wr.heap.size + 2 by simp] at HN0
            have HN := hideC HN0
            clear HN0
            go_wp2_with (at_builtin; refine wpList_append_lies _ rfl _ _ 67 rfl V.heap.size 71 i1 (.agg #[.string ⟨#[]⟩, .slice none 0 0, .slice none 0 0, .slice none 0 0, .slice none 0 0, .int .i64 0, .int .i64 0]) 7 128 Try.underlying67 hi1 hy0 hy1 hy2 rfl (by decide) _ _ _ rfl (HO2.out.alloc _) ⟨wr.heap.size + 2, 0, none⟩ 1 1 [.string nm, .slice an ns.length cn, .slice (some ⟨sb, so, none⟩) G cg, .slice ay ys.length cy, .slice ar rs.length cr, .int .i64 en, .int .i64 E0] rfl rfl (B.news HN.out) (by intro u hu; simp at hu; rcases hu with rfl | rfl | rfl | rfl | rfl | rfl | rfl <;> rfl) (by decide) (by unfold maxLen; omega) (by omega) (by simp; omega) (wr.heap.size + 3) (by simp) ?_; intro gg capg3 w1 hown1 hgrow hat hlt1; have HO1 := hideC hown1; have HB1 : Hid (Below V.heap.size V w1) := (HW2.out.alloc (by simp; omega) _).grown hgrow (by simp; omega) (fun k' e => (hrow.out _ e).1); clear hown1 hgrow hat)
            go_roundw
            case rel => exact ⟨n + 1, by go_num, by omega, by rw [← HE1.out, hT], by rw [← HE1.out]; omega, by rw [HTO.out, List.flatMap_append]; have h9 := HO1.out; rw [HGE.out] at h9; exact h9, HB1.out⟩
            case measure => simp [intOf]; omega
        · obtain rfl : n = ix.length := by omega
          rw [List.take_length] at hown hbs
          have HAV := hideC (HA.out.below HBt.out)
          have HNB : Hid (LM.endFrom all 1 ix ≤ 256) := hbs
          obtain ⟨g3, cap3, hv3, -, hgl3, -, hlie3⟩ := row_ro (l := LM.obsFrom all 1 ix) (by rw [LM.obsFrom_length]; exact hown) (by rw [LM.obsFrom_length]; exact hps) (fun k hk => by
            rw [LM.obsFrom_length] at hk
            have h2 := LM.obsFrom_at all ix 1 k hk
            rw [h2.1, h2.2.1]
            exact HAV.out.im _ (HX.out.lt _ (LM.getD_mem ix k hk)))
          rw [LM.obsFrom_length] at hv3
          subst hv3
          have HOO : Hid (LM.HasO wr (some ⟨g3, 0, none⟩) (LM.obsFrom all 1 ix)) := fun _ => ⟨g3, 0, rfl, hgl3, hlie3⟩
          clear hown hlie3 hb
          go_wp2
          go_ret2
          exact ⟨HBt.out, HX.out, by rw [if_neg (by have := HNB.out; omega)]; exact ⟨_, _, rfl, HOO.out⟩⟩
end Go.Proofs.Yteieplodndfbhaa.LW
