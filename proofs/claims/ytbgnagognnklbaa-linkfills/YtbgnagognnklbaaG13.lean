import Derived.Test.YtbgnagognnklbaaG12
import Derived.Test.YtbgnagognnklbaaG11
import Derived.Test.YtbgnagognnklbaaG02
/- Objects: images and where they lie; plain Lean. -/
namespace Go.Proofs.Ytbgnagognnklbaa.LM
open Go.RowKit
set_option linter.unusedVariables false
set_option maxRecDepth 100000

/-- an image, where its lists lie, and its base -/
structure Ob where
  i : M.Im
  a : M.At
  base : Int
def ob0 : Ob := ⟨⟨⟨#[]⟩, [], [], [], [], 0⟩, ⟨none, 0, none, 0, none, 0, none, 0⟩, 0⟩
def obAt (l : List Ob) (k : Nat) : Ob := l.getD k ob0
def cellsO (o : Ob) : Array Value := #[.string o.i.name, .slice o.a.an o.i.needs.length o.a.cn, .slice o.a.ag o.i.segs.length o.a.cg, .slice o.a.ay o.i.syms.length o.a.cy, .slice o.a.ar o.i.rels.length o.a.cr, .int .i64 o.i.entry, .int .i64 o.base]
/-- the cells of objects -/
def LieO (w : World) (b off : Nat) (l : List Ob) : Prop := ∀ k, k < l.length →
  (w.cell? ⟨b, off + k * 7, none⟩ = some (.string (obAt l k).i.name) ∧ w.cell? ⟨b, off + k * 7 + 1, none⟩ = some (.slice (obAt l k).a.an (obAt l k).i.needs.length (obAt l k).a.cn) ∧
   w.cell? ⟨b, off + k * 7 + 2, none⟩ = some (.slice (obAt l k).a.ag (obAt l k).i.segs.length (obAt l k).a.cg) ∧ w.cell? ⟨b, off + k * 7 + 3, none⟩ = some (.slice (obAt l k).a.ay (obAt l k).i.syms.length (obAt l k).a.cy) ∧
   w.cell? ⟨b, off + k * 7 + 4, none⟩ = some (.slice (obAt l k).a.ar (obAt l k).i.rels.length (obAt l k).a.cr) ∧ w.cell? ⟨b, off + k * 7 + 5, none⟩ = some (.int .i64 (obAt l k).i.entry) ∧ w.cell? ⟨b, off + k * 7 + 6, none⟩ = some (.int .i64 (obAt l k).base)) ∧ M.HasIm w (obAt l k).a (obAt l k).i
theorem lieO {w w' : World} {b off : Nat} {l : List Ob} (hb : Below w.heap.size w w') (hlt : b < w.heap.size) (h : LieO w b off l) : LieO w' b off l := fun k hk => by
  obtain ⟨⟨c0, c1, c2, c3, c4, c5, c6⟩, hi⟩ := h k hk
  exact ⟨⟨(M.below_cell hb hlt).trans c0, (M.below_cell hb hlt).trans c1, (M.below_cell hb hlt).trans c2, (M.below_cell hb hlt).trans c3, (M.below_cell hb hlt).trans c4, (M.below_cell hb hlt).trans c5, (M.below_cell hb hlt).trans c6⟩, hi.below hb⟩
def HasO (w : World) (ao : Option Addr) (l : List Ob) : Prop := M.HasBy LieO w ao l
theorem HasO.below {w w' : World} {ao : Option Addr} {l : List Ob} (h : HasO w ao l) (hb : Below w.heap.size w w') : HasO w' ao l := M.HasBy.below (lie := LieO) (fun hb hlt h => lieO hb hlt h) h hb

def lastSeg (i : M.Im) : M.Sg := M.sgAt i.segs (i.segs.length - 1)
/-- the page behind the last one -/
def endO (o : Ob) : Int := o.base + (lastSeg o.i).page + (lastSeg o.i).pages
def addrO (o : Ob) (at' : Int) : Int := o.base * 16 + at'
def protN (s : M.Sg) : Int := if s.wr then (if s.ex then 3 else 1) else (if s.ex then 2 else 0)
/-- the first object that has that name -/
def nameIx (l : List Ob) (s : ByteArray) : Nat → Int
  | 0 => -1
  | k + 1 => let r := nameIx l s k; if 0 ≤ r then r else if (obAt l k).i.name == s then (k : Int) else -1
def hasName (l : List Ob) (s : ByteArray) : Bool := l.any (fun o => o.i.name == s)
/-- an image that may be, as far as numbers go -/
theorem seg_bounds {i : M.Im} (hc : M.chkN i = 0) (k : Nat) (hk : k < i.segs.length) : 0 ≤ (M.sgAt i.segs k).page ∧ 1 ≤ (M.sgAt i.segs k).pages ∧ (M.sgAt i.segs k).page + (M.sgAt i.segs k).pages ≤ 255 ∧ ((M.sgAt i.segs k).data.size : Int) ≤ (M.sgAt i.segs k).pages * 16 := by
  unfold M.chkN at hc
  split at hc
  · simp at hc
  · split at hc
    · simp at hc
    · split at hc
      · simp at hc
      · rename_i h
        have h' : M.rangesB i = true := by simpa using h
        unfold M.rangesB at h'
        have := M.all_at M.rangeB M.sg0 i.segs k hk h'
        unfold M.rangeB at this
        exact of_decide_eq_true this
theorem counts_of {i : M.Im} (hc : M.chkN i = 0) : 1 ≤ i.segs.length ∧ i.segs.length ≤ 6 ∧ i.needs.length ≤ 4 ∧ i.syms.length ≤ 12 ∧ i.rels.length ≤ 16 := by
  unfold M.chkN at hc
  split at hc
  · simp at hc
  · split at hc
    · simp at hc
    · rename_i h
      have h' : M.countsB i = true := by simpa using h
      unfold M.countsB at h'
      exact of_decide_eq_true h'
theorem last_bounds {i : M.Im} (hc : M.chkN i = 0) : 0 ≤ (lastSeg i).page ∧ 1 ≤ (lastSeg i).pages ∧ (lastSeg i).page + (lastSeg i).pages ≤ 255 := by
  have h1 := counts_of hc
  have h2 := seg_bounds hc (i.segs.length - 1) (by omega)
  exact ⟨h2.1, h2.2.1, h2.2.2.1⟩
end Go.Proofs.Ytbgnagognnklbaa.LM
/- The linker: objects. -/
namespace Go.Proofs.Ytbgnagognnklbaa.LW
open Go.RowKit
open Go.Proofs.Ytbgnagognnklbaa.W (hideC)
set_option linter.unusedVariables false
set_option maxRecDepth 100000

set_option maxHeartbeats 1000000 in
theorem end_any (o : LM.Ob) (w : World) (h : M.HasIm w o.a o.i) (hc : M.chkN o.i = 0) (h0 : 0 ≤ o.base) (h1 : o.base ≤ 100000) :
    Calls Try.prog 20 #[.agg (LM.cellsO o)] w fun e w' => e = .returned (.int .i64 (LM.endO o)) ∧ Below w.heap.size w w' := by
  have hl := LM.last_bounds hc
  have hn := LM.counts_of hc
  have HS := h.segs
  obtain ⟨⟨nm, ns, gs, ys, rs, en⟩, ⟨an, cn, ag, cg, ay, cy, ar, cr⟩, ba⟩ := o
  simp only [LM.cellsO]
  simp only at HS hn h0 h1
  obtain ⟨b, off, hag, hbl, hlie⟩ := HS (by omega)
  subst hag
  have E : Hid (LM.endO ⟨⟨nm, ns, gs, ys, rs, en⟩, ⟨an, cn, some ⟨b, off, none⟩, cg, ay, cy, ar, cr⟩, ba⟩ = ba + (M.sgAt gs (gs.length - 1)).page + (M.sgAt gs (gs.length - 1)).pages) := rfl
  have hl' : 0 ≤ (M.sgAt gs (gs.length - 1)).page ∧ 1 ≤ (M.sgAt gs (gs.length - 1)).pages ∧ (M.sgAt gs (gs.length - 1)).page + (M.sgAt gs (gs.length - 1)).pages ≤ 255 := hl
  obtain ⟨c0, c1, c2, c3, c4⟩ := hlie (gs.length - 1) (by omega)
  rw [E.out]
  obtain ⟨s, hs⟩ : ∃ s, s = M.sgAt gs (gs.length - 1) := ⟨_, rfl⟩
  rw [← hs] at c0 c1 c2 c3 c4 hl'
  rw [← hs]
  clear hs hl hlie HS h E
  obtain ⟨G, hG⟩ : ∃ G, G = gs.length := ⟨_, rfl⟩
  rw [← hG] at c0 c1 c2 c3 c4 hn
  rw [← hG]
  clear hG hc
  have hG1 : (1 : Int) ≤ (G : Int) := by omega
  have hG2 : 0 < G := by omega
  have HB := hideC ((Below.refl w.heap.size w).alloc (Nat.le_refl _) (.cells #[.string nm, .slice an ns.length cn, .slice (some ⟨b, off, none⟩) G cg, .slice ay ys.length cy, .slice ar rs.length cr, .int .i64 en, .int .i64 ba] 59))
  go_enter Try.func20, Try.ntmps20
  go_wp2
  go_ret
  exact ⟨rfl, HB.out.alloc HB.out.size _⟩

theorem address_any (o : LM.Ob) (at' : Int) (w : World) (h0 : 0 ≤ o.base) (h1 : o.base ≤ 100000) (h2 : 0 ≤ at') (h3 : at' ≤ 100000) :
    Calls Try.prog 23 #[.agg (LM.cellsO o), .int .i64 at'] w fun e w' => e = .returned (.int .i64 (LM.addrO o at')) ∧ Below w.heap.size w w' := by
  obtain ⟨⟨nm, ns, gs, ys, rs, en⟩, ⟨an, cn, ag, cg, ay, cy, ar, cr⟩, ba⟩ := o
  simp only [LM.cellsO, LM.addrO]
  simp only at h0 h1
  go_enter Try.func23, Try.ntmps23
  go_wp2
  go_ret
  exact ⟨rfl, (Below.refl _ _).alloc (Nat.le_refl _) _⟩

theorem prot_any (s : M.Sg) (w : World) :
    Calls Try.prog 57 #[.agg #[.int .i64 s.page, .int .i64 s.pages, .string s.data, .bool s.wr, .bool s.ex]] w fun e w' => e = .returned (.int .i64 (LM.protN s)) ∧ Below w.heap.size w w' := by
  obtain ⟨pg, pn, dt, wr, ex⟩ := s
  have b1 : bits BinOp.or IntKind.i64 0 1 = 1 := by decide
  have b2 : bits BinOp.or IntKind.i64 0 2 = 2 := by decide
  have b3 : bits BinOp.or IntKind.i64 1 2 = 3 := by decide
  cases wr <;> cases ex
  all_goals
    go_enter Try.func57, Try.ntmps57
    go_wp2
    go_ret
    exact ⟨ret_int (by first | rfl | simp [LM.protN, b1, b2, b3]), (Below.refl _ _).alloc (Nat.le_refl _) _⟩

theorem str_eq (s t : ByteArray) : (s.toList == t.toList) = decide (s = t) := by
  rw [Bool.eq_iff_iff]
  simp only [beq_iff_eq, decide_eq_true_eq]
  constructor
  · intro e
    rw [Lib.toList_data, Lib.toList_data] at e
    cases s
    cases t
    congr 1
    exact Array.toList_inj.1 e
  · rintro rfl
    rfl
theorem gather1_any (o : LM.Ob) (P : Nat) (s : ByteArray) (w : World) (hP : w.cell? ⟨P, 0, none⟩ = some (.string s)) (hn : M.Short o.i.name.size) (hs : M.Short s.size) :
    Calls Try.prog 52 #[.agg (LM.cellsO o), .pointer (some ⟨P, 0, none⟩)] w fun e w' => e = .returned (.bool (decide (o.i.name = s))) ∧ Below w.heap.size w w' := by
  have hPl : P < w.heap.size := World.block_lt_of_cell? w _ hP
  obtain ⟨⟨nm, ns, gs, ys, rs, en⟩, ⟨an, cn, ag, cg, ay, cy, ar, cr⟩, ba⟩ := o
  simp only [LM.cellsO]
  go_enter Try.func52, Try.ntmps52
  go_wp2
  go_ret
  exact ⟨ret_bool (str_eq _ _), (Below.refl _ _).alloc (Nat.le_refl _) _⟩
end Go.Proofs.Ytbgnagognnklbaa.LW
namespace Go.Proofs.Ytbgnagognnklbaa.W
open Go.RowKit
set_option linter.unusedVariables false

theorem within_any (n a b : Int) (w : World) : Calls Try.prog 37 #[.int .i64 n, .int .i64 a, .int .i64 b] w fun e w' => e = .returned (.bool (decide (a ≤ n ∧ n ≤ b))) ∧ w = w' := by
  by_cases h1 : a ≤ n
  · by_cases h2 : n ≤ b
    · rw [show decide (a ≤ n ∧ n ≤ b) = true from decide_eq_true ⟨h1, h2⟩]
      go_enter Try.func37, Try.ntmps37
      go_wp2
      go_ret
      exact ⟨rfl, rfl⟩
    · have d : decide (n ≤ b) = false := decide_eq_false h2
      rw [show decide (a ≤ n ∧ n ≤ b) = false from decide_eq_false (by omega)]
      go_enter Try.func37, Try.ntmps37
      go_wp2
      go_ret
      exact ⟨rfl, rfl⟩
  · have d : decide (a ≤ n) = false := decide_eq_false h1
    rw [show decide (a ≤ n ∧ n ≤ b) = false from decide_eq_false (by omega)]
    go_enter Try.func37, Try.ntmps37
    go_wp2
    go_ret
    exact ⟨rfl, rfl⟩
/-- is n from a to b -/
def inB (n a b : Int) : Bool := decide (a ≤ n ∧ n ≤ b)
theorem inB_yes {n a b : Int} (h : a ≤ n ∧ n ≤ b) : inB n a b = true := decide_eq_true h
theorem inB_no {n a b : Int} (h : ¬ (a ≤ n ∧ n ≤ b)) : inB n a b = false := decide_eq_false h
theorem inB_any (n a b : Int) (w : World) : Calls Try.prog 37 #[.int .i64 n, .int .i64 a, .int .i64 b] w fun e w' => e = .returned (.bool (inB n a b)) ∧ w = w' := within_any n a b w

theorem sign_cases (n : Int) : (M.signB n = true ∧ ((97 ≤ n ∧ n ≤ 122) ∨ (decide (97 ≤ n) = false ∧ 48 ≤ n ∧ n ≤ 57) ∨ n = 95)) ∨
    (M.signB n = false ∧ (n == 95) = false ∧ ((97 ≤ n ∧ decide (n ≤ 122) = false ∧ 48 ≤ n ∧ decide (n ≤ 57) = false) ∨ (decide (97 ≤ n) = false ∧ 48 ≤ n ∧ decide (n ≤ 57) = false) ∨ (decide (97 ≤ n) = false ∧ decide (48 ≤ n) = false))) := by
  unfold M.signB
  by_cases h1 : 97 ≤ n ∧ n ≤ 122
  · exact .inl ⟨by rw [decide_eq_true h1]; rfl, .inl h1⟩
  · by_cases h2 : 48 ≤ n ∧ n ≤ 57
    · exact .inl ⟨by rw [decide_eq_true h2]; simp, .inr (.inl ⟨by simp; omega, h2.1, h2.2⟩)⟩
    · by_cases h3 : n = 95
      · exact .inl ⟨by rw [decide_eq_true h3]; simp, .inr (.inr h3)⟩
      · refine .inr ⟨by rw [decide_eq_false h1, decide_eq_false h2, decide_eq_false h3]; rfl, by simpa using h3, ?_⟩
        by_cases a : 97 ≤ n
        · exact .inl ⟨a, by simp; omega, by omega, by simp; omega⟩
        · by_cases c : 48 ≤ n
          · exact .inr (.inl ⟨by simpa using a, c, by simp; omega⟩)
          · exact .inr (.inr ⟨by simpa using a, by simpa using c⟩)

set_option maxHeartbeats 2000000 in
theorem named_any (s : ByteArray) (w : World) (hs : M.Short s.size) : Calls Try.prog 83 #[.string s] w fun e w' => e = .returned (.bool (M.nameB s)) ∧ w = w' := by
  unfold M.Short at hs
  have hml : s.size ≤ maxLen := by unfold maxLen; omega
  by_cases h1 : 1 ≤ s.size ∧ s.size ≤ 12
  · have d1 : inB (s.size : Int) 1 12 = true := inB_yes (by omega)
    go_enter Try.func83, Try.ntmps83
    go_wp2_with (go_at_call 37; refine (inB_any _ _ _ _).mono ?_; rintro e w' ⟨rfl, rfl⟩; rw [d1])
    go_loop [3] (fun i => ∃ k : Nat, k ≤ s.size ∧ i = .int .i64 k ∧ ∀ j (hj : j < s.size), j < k → M.signB s[j].toNat = true) (fun i => s.size - (intOf i).toNat)
    case atStart => exact ⟨0, by omega, rfl, fun j _ h => by omega⟩
    case round =>
      obtain ⟨k, hk, rfl, hall⟩ := hrel
      have HA := hideC hall
      clear hall
      by_cases hlt : k < s.size
      · have hcs := sign_cases (s[k].toNat : Int)
        have hget := hideC (rfl : s[k] = s[k])
        obtain ⟨c, hcc⟩ : ∃ c : Int, c = (s[k].toNat : Int) := ⟨_, rfl⟩
        rw [← hcc] at hcs
        have HC := hideC hcc
        rcases hcs with ⟨hy, hh⟩ | ⟨hy, h95, hh⟩
        · rcases hh with ⟨g1, g2⟩ | ⟨g1, g2, g3⟩ | g1
          · rw [hcc] at *
            go_wp2
            go_round
            case rel => exact ⟨k + 1, by omega, by go_num, fun j hj h => if e : j = k then by subst e; exact hy else HA.out j hj (by omega)⟩
            case measure => simp [intOf]; omega
          · rw [hcc] at *
            go_wp2
            go_round
            case rel => exact ⟨k + 1, by omega, by go_num, fun j hj h => if e : j = k then by subst e; exact hy else HA.out j hj (by omega)⟩
            case measure => simp [intOf]; omega
          · rw [hcc] at *
            go_wp2
            go_round
            case rel => exact ⟨k + 1, by omega, by go_num, fun j hj h => if e : j = k then by subst e; exact hy else HA.out j hj (by omega)⟩
            case measure => simp [intOf]; omega
        · have HR := hideC (M.name_no s k hlt (by rw [← hcc]; exact hy))
          rcases hh with ⟨g1, g2, g3, g4⟩ | ⟨g1, g2, g3⟩ | ⟨g1, g2⟩
          · rw [hcc] at *
            go_wp2
            go_ret
            exact ⟨ret_bool HR.out.symm, rfl⟩
          · rw [hcc] at *
            go_wp2
            go_ret
            exact ⟨ret_bool HR.out.symm, rfl⟩
          · rw [hcc] at *
            go_wp2
            go_ret
            exact ⟨ret_bool HR.out.symm, rfl⟩
      · obtain rfl : k = s.size := by omega
        have HR := hideC (M.name_yes s h1.1 h1.2 (fun k hk => HA.out k hk hk))
        go_wp2
        go_ret
        exact ⟨ret_bool HR.out.symm, rfl⟩
  · have HR := hideC (M.name_len s h1)
    have d1 : inB (s.size : Int) 1 12 = false := inB_no (by omega)
    go_enter Try.func83, Try.ntmps83
    go_wp2_with (go_at_call 37; refine (inB_any _ _ _ _).mono ?_; rintro e w' ⟨rfl, rfl⟩; rw [d1])
    go_ret
    exact ⟨ret_bool HR.out.symm, rfl⟩
end Go.Proofs.Ytbgnagognnklbaa.W
