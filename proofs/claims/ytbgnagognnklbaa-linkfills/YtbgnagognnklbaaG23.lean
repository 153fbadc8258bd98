import Derived.Test.YtbgnagognnklbaaG21
import Derived.Lib.Repeat
import Derived.Test.YtbgnagognnklbaaG09
import Derived.Test.YtbgnagognnklbaaG05
/- Pages, patches and fixes; plain Lean. -/
namespace Go.Proofs.Ytbgnagognnklbaa.LM
open Go.RowKit
set_option linter.unusedVariables false
set_option maxRecDepth 100000

def zeros16 : ByteArray := ⟨(Lib.repeatL [0] 16).toArray⟩
theorem zeros16_size : zeros16.size = 16 := rfl
/-- page n of a segment -/
def pageN (s : M.Sg) (n : Nat) : ByteArray := CL.over zeros16 0 (s.data.extract (min (n * 16) s.data.size) (min (min (n * 16) s.data.size + 16) s.data.size))
theorem extract_size (s : ByteArray) (a b : Nat) (h1 : a ≤ b) (h2 : b ≤ s.size) : (s.extract a b).size = b - a := by
  rw [ByteArray.size_extract]
  omega
theorem pageN_size (s : M.Sg) (n : Nat) : (pageN s n).size = 16 := by
  unfold pageN
  rw [CL.over_size' _ _ _ ?_]
  · exact zeros16_size
  · rw [extract_size _ _ _ (by omega) (by omega), zeros16_size]
    omega

/-- what a relocation comes to -/
structure Pt where
  pos : Int
  bytes : ByteArray
def pt0 : Pt := ⟨0, ⟨#[]⟩⟩
def ptAt (l : List Pt) (k : Nat) : Pt := l.getD k pt0
def LieP (w : World) (b off : Nat) (l : List Pt) : Prop := ∀ i, i < l.length → w.cell? ⟨b, off + i * 2, none⟩ = some (.int .i64 (ptAt l i).pos) ∧ w.cell? ⟨b, off + i * 2 + 1, none⟩ = some (.string (ptAt l i).bytes)
theorem lieP {w w' : World} {b off : Nat} {l : List Pt} (hb : Below w.heap.size w w') (hlt : b < w.heap.size) (h : LieP w b off l) : LieP w' b off l := fun i hi => by
  obtain ⟨c0, c1⟩ := h i hi
  exact ⟨(M.below_cell hb hlt).trans c0, (M.below_cell hb hlt).trans c1⟩
def HasP (w : World) (ao : Option Addr) (l : List Pt) : Prop := M.HasBy LieP w ao l
theorem HasP.below {w w' : World} {ao : Option Addr} {l : List Pt} (h : HasP w ao l) (hb : Below w.heap.size w w') : HasP w' ao l := M.HasBy.below (lie := LieP) (fun hb hlt h => lieP hb hlt h) h hb
def cellP (p : Pt) : List Value := [.int .i64 p.pos, .string p.bytes]
def cellF (f : Fx) : List Value := [.int .i64 f.off, .string f.bytes]
/-- a patch that may be: eight bytes at a small place -/
def FitP (p : Pt) : Prop := 0 ≤ p.pos ∧ p.pos ≤ 1000000 ∧ p.bytes.size = 8

/-- what of a patch is in a page -/
def cutP (page : Int) (p : Pt) : List Fx := if max (page * 16) p.pos < min (page * 16 + 16) (p.pos + 8) then [⟨max (page * 16) p.pos - page * 16, p.bytes.extract (max (page * 16) p.pos - p.pos).toNat (max (page * 16) p.pos - p.pos + (min (page * 16 + 16) (p.pos + 8) - max (page * 16) p.pos)).toNat⟩] else []
def fixesN (page : Int) (ps : List Pt) : List Fx := ps.flatMap (cutP page)
theorem take_snoc {α : Type} (l : List α) (d : α) (k : Nat) (h : k < l.length) : l.take (k + 1) = l.take k ++ [l.getD k d] := by
  rw [List.take_succ_eq_append_getElem h, List.getD_eq_getElem?_getD, List.getElem?_eq_getElem h]
  rfl
theorem cut_len (page : Int) (p : Pt) : (cutP page p).length ≤ 1 := by
  unfold cutP
  split <;> simp
theorem fixes_len (page : Int) : ∀ ps : List Pt, (fixesN page ps).length ≤ ps.length
  | [] => by simp [fixesN]
  | p :: r => by
    have h1 := fixes_len page r
    have h2 := cut_len page p
    unfold fixesN at h1 ⊢
    rw [List.flatMap_cons, List.length_append, List.length_cons]
    omega
theorem fixesN_snoc (page : Int) (l : List Pt) (p : Pt) : fixesN page (l ++ [p]) = fixesN page l ++ cutP page p := by
  unfold fixesN
  rw [List.flatMap_append]
  simp
end Go.Proofs.Ytbgnagognnklbaa.LM
namespace Go.Proofs.Ytbgnagognnklbaa.AW
open Go.RowKit
set_option linter.unusedVariables false
set_option maxRecDepth 100000

set_option maxHeartbeats 2000000 in
theorem turn_map_own (l : List AM.Ar) (v : Value) (page pages q : Int) (P : Nat) (w : World) (h : Has w v l) (hf : AllFit l) (hp : -9223372036854775808 ≤ page ∧ page ≤ 9223372036854775807) (hn : -9223372036854775808 ≤ pages ∧ pages ≤ 9223372036854775807) (hP : w.cell? ⟨P, 0, none⟩ = some (.int .i64 q)) :
    Calls Try.prog 81 #[v, .int .i64 page, .int .i64 pages, .int .i64 q, .func (.func 82) #[] #[.pointer (some ⟨P, 0, none⟩)]] w fun e w' => ∃ r, e = .returned (.tuple #[r, .int .i64 (AM.turnN l page pages q (howMap q)).2]) ∧ Own w.heap.size w' r (AM.turnN l page pages q (howMap q)).1 ∧ Below w.heap.size w w' := by
  by_cases hc : AM.checkN l = 0
  · by_cases hpp : AM.pagesB page pages = true
    · by_cases hqq : AM.protB q = true
      · have HT : Hid (AM.turnN l page pages q (howMap q) = if AM.errFrom (AM.spreadN l) (howMap q) page.toNat pages.toNat = 0 then (AM.gatherN (AM.turned (AM.spreadN l) (howMap q) page (page + pages)), 0) else ([], AM.errFrom (AM.spreadN l) (howMap q) page.toNat pages.toNat)) := by
          show _ = _; simp [AM.turnN, hc, hpp, hqq]
        have hpb := (AM.pagesB_iff page pages).1 hpp
        obtain ⟨Z, hZ⟩ : ∃ Z, Z = AM.cellsL (fun _ => AM.off) := ⟨_, rfl⟩
        have hz := zv56
        rw [← hZ] at hz
        have hZs : Z.size = 768 := by rw [hZ]; exact AM.cellsL_size _
        clear hZ
        go_enter Try.func81, Try.ntmps81
        go_wp2_with fail
        refine (check_any l v _ h hf).mono ?_
        rintro e w1 ⟨rfl, hb1⟩
        rw [hc]
        have HC : Hid (AM.checkN l = 0) := hc
        clear hc
        go_wp2_with fail
        refine (rightPages_any _ _ _ hp hn).mono ?_
        rintro e w' ⟨rfl, rfl⟩
        go_wp2_with fail
        refine (rightProt_any _ _).mono ?_
        rintro e w' ⟨rfl, rfl⟩
        go_wp2_with fail
        refine (spread_any l v _ (h.below hb1) HC.out).mono ?_
        rintro e w2 ⟨rfl, hb2⟩
        have HB2 : Hid (Below w.heap.size w w2) := hb1.trans (hb2.mono hb1.size)
        obtain ⟨F, hF⟩ : ∃ F, F = AM.spreadN l := ⟨_, rfl⟩
        rw [← hF] at HT ⊢
        obtain ⟨C, hC⟩ : ∃ C, C = AM.cellsL F := ⟨_, rfl⟩
        have hCs : C.size = 768 := by rw [hC]; exact AM.cellsL_size _
        have HCF : Hid (C = AM.cellsL F) := hC
        rw [← hC]
        clear hb1 hb2 hF hC hpp hqq
        have hn2 : Hid ((w2.alloc (.cells Z 162)).heap[w2.heap.size]? = some (.cells Z 162 (0, 0))) := B.new w2 Z 162
        go_wp2_with (refine wpList_store_row rfl 162 _ _ rfl w2.heap.size C rfl rfl 162 Z hn2.out (by rw [hCs]; exact size56) (by rw [hZs, hCs]) (by rw [HCF.out]; exact AM.cellsL_one _) ?_)
        have HA0 : Hid (((w2.alloc (.cells Z 162)).setRow w2.heap.size C).heap[w2.heap.size]? = some (.cells C 162 (0, 0))) := setRow_heap _ _ _ _ 162 (0, 0) hn2.out
        have HB3 : Hid (Below w.heap.size w ((w2.alloc (.cells Z 162)).setRow w2.heap.size C)) := below_setRow (HB2.out.alloc HB2.out.size _) HB2.out.size _
        have hsz2 := HB2.out.size
        go_loopw [14] (fun t wr => ∃ n : Nat, page ≤ (n : Int) ∧ (n : Int) ≤ page + pages ∧ t = .int .i64 n ∧ (∀ k : Nat, page.toNat ≤ k → k < n → ((howMap q) (F k)).2 = 0) ∧ wr.heap[w2.heap.size]? = some (.cells (AM.cellsL (AM.turned F (howMap q) page n)) 162 (0, 0)) ∧ Below w.heap.size w wr) (fun t _ => (page + pages - intOf t).toNat)
        case atStart =>
          refine ⟨page.toNat, by omega, by omega, by rw [Int.toNat_of_nonneg (by omega)], fun k h1 h2 => by omega, ?_, HB3.out⟩
          rw [Int.toNat_of_nonneg (by omega), AM.turned_begin, ← HCF.out]
          exact HA0.out
        case round =>
          obtain ⟨n, hn1, hn3, rfl, hno, hA, hb⟩ := hrel
          have HN : Hid (∀ k : Nat, page.toNat ≤ k → k < n → ((howMap q) (F k)).2 = 0) := hno
          have HA : Hid (wr.heap[w2.heap.size]? = some (.cells (AM.cellsL (AM.turned F (howMap q) page n)) 162 (0, 0))) := hA
          have HB : Hid (Below w.heap.size w wr) := hb
          have hAl : w2.heap.size < wr.heap.size := B.isLt hA
          have hPw : wr.cell? ⟨P, 0, none⟩ = some (.int .i64 q) := (hb.cell (p := ⟨P, 0, none⟩) (World.block_lt_of_cell? w _ hP)).trans hP
          by_cases hin : (n : Int) < page + pages
          · have z0 := B.cell hA (n * 3) (AM.cellsL_get0 _ n (by omega))
            have z1 := B.cell hA (n * 3 + 1) (AM.cellsL_get1 _ n (by omega))
            have z2 := B.cell hA (n * 3 + 2) (AM.cellsL_get2 _ n (by omega))
            rw [AM.turned_at] at z0 z1 z2
            have hn256 : (n : Int) < 256 := by omega
            clear hno hA hb
            obtain ⟨s, hs⟩ : ∃ s, s = F n := ⟨_, rfl⟩
            rw [← hs] at z0 z1 z2
            have HS : Hid (s = F n) := hs
            clear hs
            go_wp2_with fail
            refine (map1_any s q P _ hPw).mono ?_
            rintro e w3 ⟨rfl, hb3⟩
            have bA := B.below HA.out hb3 hAl
            have y0 := B.cell bA (n * 3) (AM.cellsL_get0 _ n (by omega))
            have y1 := B.cell bA (n * 3 + 1) (AM.cellsL_get1 _ n (by omega))
            have y2 := B.cell bA (n * 3 + 2) (AM.cellsL_get2 _ n (by omega))
            have yf := B.free bA
            have HA3 : Hid (w3.heap[w2.heap.size]? = some (.cells (AM.cellsL (AM.turned F (howMap q) page n)) 162 (0, 0))) := bA
            have HBB : Hid (Below w.heap.size w w3) := HB.out.trans (hb3.mono HB.out.size)
            have hsz3 : w2.heap.size < w3.heap.size := B.isLt bA
            clear bA hb3 z0 z1 z2
            obtain ⟨r, hr⟩ : ∃ r, r = (howMap q) s := ⟨_, rfl⟩
            rw [← hr]
            have HR : Hid (r = (howMap q) s) := hr
            clear hr
            unfold aggSt
            by_cases he : r.2 = 0
            · have he' : (r.2 != 0) = false := by simp [he]
              have HE : Hid (r.2 = 0) := he
              clear he
              go_wp2
              go_roundw
              case rel =>
                have hset := B.set (B.set (B.set HA3.out (n * 3) (.bool r.1.m)) (n * 3 + 1) (.int .i64 r.1.p)) (n * 3 + 2) (.bool r.1.z)
                have est := AM.turned_step F (howMap q) page n hn1
                rw [← HS.out, ← HR.out] at est
                rw [AM.cellsL_set (AM.turned F (howMap q) page n) n r.1 (by omega), est] at hset
                refine ⟨n + 1, by omega, by omega, by go_num, fun k h1 h2 => if e : k = n then by rw [e, ← HS.out, ← HR.out]; exact HE.out else HN.out k h1 (by omega), ?_, ?_⟩
                · rw [show ((n + 1 : Nat) : Int) = (n : Int) + 1 from by omega]
                  exact B.alloc hset _
                · have hb4 := ((HBB.out.setCell (p := ⟨w2.heap.size, n * 3, none⟩) hsz2 (.bool r.1.m)).setCell (p := ⟨w2.heap.size, n * 3 + 1, none⟩) hsz2 (.int .i64 r.1.p)).setCell (p := ⟨w2.heap.size, n * 3 + 2, none⟩) hsz2 (.bool r.1.z)
                  exact hb4.alloc hb4.size _
              case measure => simp [intOf]; omega
            · have he' : (r.2 != 0) = true := by simpa using he
              have HE : Hid (r.2 ≠ 0) := he
              clear he
              have ht : Hid (AM.turnN l page pages q (howMap q) = ([], r.2)) := by
                have herr : AM.errFrom F (howMap q) page.toNat pages.toNat = r.2 := by
                  rw [HR.out, HS.out]
                  exact AM.errFrom_at F (howMap q) _ _ n (by omega) (by omega) HN.out (by rw [← HS.out, ← HR.out]; exact HE.out)
                show _ = _
                rw [HT.out, herr, if_neg HE.out]
              go_wp2
              go_ret2
              exact ⟨.slice none 0 0, by rw [ht.out]; rfl, by rw [ht.out]; exact Own.nil _ _, HBB.out.alloc HBB.out.size _⟩
          · have hend : Hid ((n : Int) = page + pages) := by show _ = _; omega
            have ht : Hid (AM.turnN l page pages q (howMap q) = (AM.gatherN (AM.turned F (howMap q) page n), 0)) := by
              have herr : AM.errFrom F (howMap q) page.toNat pages.toNat = 0 := AM.errFrom_zero F (howMap q) _ _ (fun k h1 h2 => HN.out k h1 (by have := hend.out; omega))
              show _ = _
              rw [HT.out, herr, if_pos rfl, hend.out]
            clear hno hA hb
            go_wp2_with (refine wpList_load_row rfl 162 _ rfl w2.heap.size rfl 162 _ (0, 0) _ HA.out Try.underlying162 rfl (by rw [AM.cellsL_size]; exact size56) ?_)
            refine (gather_own _ _).mono ?_
            rintro e w4 ⟨r, rfl, hr, hb4⟩
            go_wp2
            go_ret2
            exact ⟨r, by rw [ht.out]; rfl, by rw [ht.out]; exact hr.mono HB.out.size, HB.out.trans (hb4.mono HB.out.size)⟩
      · have hqq' : AM.protB q = false := by simpa using hqq
        have HT : Hid (AM.turnN l page pages q (howMap q) = ([], 3)) := by show _ = _; simp [AM.turnN, hc, hpp, hqq']
        clear hqq
        go_enter Try.func81, Try.ntmps81
        go_wp2_with fail
        refine (check_any l v _ h hf).mono ?_
        rintro e w1 ⟨rfl, hb1⟩
        rw [hc]
        clear hc
        go_wp2_with fail
        refine (rightPages_any _ _ _ hp hn).mono ?_
        rintro e w' ⟨rfl, rfl⟩
        go_wp2_with fail
        refine (rightProt_any _ _).mono ?_
        rintro e w' ⟨rfl, rfl⟩
        go_wp2
        go_ret2
        exact ⟨.slice none 0 0, by rw [HT.out]; rfl, by rw [HT.out]; exact Own.nil _ _, hb1⟩
    · have hpp' : AM.pagesB page pages = false := by simpa using hpp
      have HT : Hid (AM.turnN l page pages q (howMap q) = ([], 3)) := by show _ = _; simp [AM.turnN, hc, hpp']
      clear hpp
      go_enter Try.func81, Try.ntmps81
      go_wp2_with fail
      refine (check_any l v _ h hf).mono ?_
      rintro e w1 ⟨rfl, hb1⟩
      rw [hc]
      clear hc
      go_wp2_with fail
      refine (rightPages_any _ _ _ hp hn).mono ?_
      rintro e w' ⟨rfl, rfl⟩
      go_wp2
      go_ret2
      exact ⟨.slice none 0 0, by rw [HT.out]; rfl, by rw [HT.out]; exact Own.nil _ _, hb1⟩
  · have HT : Hid (AM.turnN l page pages q (howMap q) = ([], AM.checkN l)) := by show _ = _; simp [AM.turnN, hc]
    have hc' : (AM.checkN l != 0) = true := by simpa using hc
    go_enter Try.func81, Try.ntmps81
    go_wp2_with fail
    refine (check_any l v _ h hf).mono ?_
    rintro e w1 ⟨rfl, hb1⟩
    go_wp2
    go_ret2
    exact ⟨.slice none 0 0, by rw [HT.out]; rfl, by rw [HT.out]; exact Own.nil _ _, hb1⟩
theorem turn_map (l : List AM.Ar) (v : Value) (page pages q : Int) (P : Nat) (w : World) (h : Has w v l) (hf : AllFit l) (hp : -9223372036854775808 ≤ page ∧ page ≤ 9223372036854775807) (hn : -9223372036854775808 ≤ pages ∧ pages ≤ 9223372036854775807) (hP : w.cell? ⟨P, 0, none⟩ = some (.int .i64 q)) :
    Calls Try.prog 81 #[v, .int .i64 page, .int .i64 pages, .int .i64 q, .func (.func 82) #[] #[.pointer (some ⟨P, 0, none⟩)]] w fun e w' => ∃ r, e = .returned (.tuple #[r, .int .i64 (AM.turnN l page pages q (howMap q)).2]) ∧ Has w' r (AM.turnN l page pages q (howMap q)).1 ∧ Below w.heap.size w w' :=
  (turn_map_own l v page pages q P w h hf hp hn hP).mono fun e w' ⟨r, h1, h2, h3⟩ => ⟨r, h1, h2.has, h3⟩
end Go.Proofs.Ytbgnagognnklbaa.AW
namespace Go.Proofs.Ytbgnagognnklbaa.AW
open Go.RowKit
set_option linter.unusedVariables false
set_option maxRecDepth 100000

end Go.Proofs.Ytbgnagognnklbaa.AW
namespace Go.Proofs.Ytbgnagognnklbaa.AW
open Go.RowKit
set_option linter.unusedVariables false
set_option maxRecDepth 100000

end Go.Proofs.Ytbgnagognnklbaa.AW
namespace Go.Proofs.Ytbgnagognnklbaa.AW
open Go.RowKit
set_option linter.unusedVariables false
set_option maxRecDepth 100000

/-- what Map, Unmap, Protect answer -/
def mapN (l : List AM.Ar) (page pages q : Int) : List AM.Ar × Int := AM.turnN l page pages q (howMap q)
def unmapN (l : List AM.Ar) (page pages : Int) : List AM.Ar × Int := AM.turnN l page pages 0 howUnmap
def protectN (l : List AM.Ar) (page pages q : Int) : List AM.Ar × Int := AM.turnN l page pages q (howProtect q)
def I64 (n : Int) : Prop := -9223372036854775808 ≤ n ∧ n ≤ 9223372036854775807

set_option maxHeartbeats 400000 in
theorem map_own (l : List AM.Ar) (v : Value) (page pages q : Int) (w : World) (h : Has w v l) (hf : AllFit l) (hp : I64 page) (hn : I64 pages) :
    Calls Try.prog 56 #[v, .int .i64 page, .int .i64 pages, .int .i64 q] w fun e w' => ∃ r, e = .returned (.tuple #[r, .int .i64 (mapN l page pages q).2]) ∧ Own w.heap.size w' r (mapN l page pages q).1 ∧ Below w.heap.size w w' := by
  have hb0 : Below w.heap.size w (w.alloc (.cells #[.int .i64 q] 3)) := (Below.refl _ _).alloc (Nat.le_refl _) _
  have hP := B.cell (B.new w #[.int .i64 q] 3) 0 rfl
  have H := h.below hb0
  have HP : Hid ((w.alloc (.cells #[.int .i64 q] 3)).cell? ⟨w.heap.size, 0, none⟩ = some (.int .i64 q)) := hP
  clear hP
  go_enter Try.func56, Try.ntmps56
  go_wp2_with fail
  refine (turn_map_own l v page pages q w.heap.size _ H hf hp hn HP.out).mono ?_
  rintro e w1 ⟨r, rfl, hr, hb1⟩
  go_wp2
  go_ret2
  exact ⟨r, rfl, hr.mono hb0.size, hb0.trans (hb1.mono hb0.size)⟩
theorem map_any (l : List AM.Ar) (v : Value) (page pages q : Int) (w : World) (h : Has w v l) (hf : AllFit l) (hp : I64 page) (hn : I64 pages) :
    Calls Try.prog 56 #[v, .int .i64 page, .int .i64 pages, .int .i64 q] w fun e w' => ∃ r, e = .returned (.tuple #[r, .int .i64 (mapN l page pages q).2]) ∧ Has w' r (mapN l page pages q).1 ∧ Below w.heap.size w w' :=
  (map_own l v page pages q w h hf hp hn).mono fun e w' ⟨r, h1, h2, h3⟩ => ⟨r, h1, h2.has, h3⟩
end Go.Proofs.Ytbgnagognnklbaa.AW
namespace Go.Proofs.Ytbgnagognnklbaa.AW
open Go.RowKit
set_option linter.unusedVariables false
set_option maxRecDepth 100000

def b1 : AM.Ar := ⟨3, 4, 1, true⟩
def c1 : AM.Ar := ⟨3, 1, 1, true⟩
def c2 : AM.Ar := ⟨4, 1, 0, true⟩
def c3 : AM.Ar := ⟨5, 2, 1, true⟩
theorem e1 : mapN [] 3 4 1 = ([b1], 0) := by kernel_rfl
theorem e2 : protectN [b1] 4 1 0 = ([c1, c2, c3], 0) := by kernel_rfl
theorem e3 : unmapN [c1, c2, c3] 5 9 = ([c1, c2], 0) := by kernel_rfl
theorem e4 : AM.findN [c1, c2] 4 = (c2, true) := by kernel_rfl
theorem e5 : AM.totalN [c1, c2] = 2 := by kernel_rfl

theorem fit_all {l : List AM.Ar} (h : ∀ a ∈ l, AM.Fits a) (hn : l.length ≤ 140737488351232) : AllFit l := by
  refine ⟨fun i hi => ?_, hn⟩
  have e : AM.at_ l i = l[i] := by simp [AM.at_, hi]
  rw [e]
  exact h _ (List.getElem_mem hi)
theorem fit_nil : AllFit [] := fit_all (fun a h => by simp at h) (by simp)
theorem fit_b1 : AllFit [b1] := fit_all (fun a h => by simp at h; subst h; exact ⟨⟨by decide, by decide⟩, ⟨by decide, by decide⟩, by decide, by decide⟩) (by simp)
theorem fit_c : AllFit [c1, c2, c3] := fit_all (fun a h => by
  simp at h
  rcases h with rfl | rfl | rfl <;> exact ⟨⟨by decide, by decide⟩, ⟨by decide, by decide⟩, by decide, by decide⟩) (by simp)
theorem fit_d : AllFit [c1, c2] := fit_all (fun a h => by
  simp at h
  rcases h with rfl | rfl <;> exact ⟨⟨by decide, by decide⟩, ⟨by decide, by decide⟩, by decide, by decide⟩) (by simp)

theorem neg_tmod (c n : Int) (h0 : c < 0) (h1 : 1 ≤ n) : 0 ≤ -(c + 1).tmod n ∧ -(c + 1).tmod n < n := by
  have e : -(c + 1).tmod n = (-(c + 1)) % n := by
    rw [← Int.neg_tmod, Int.tmod_eq_emod_of_nonneg (by omega)]
  rw [e]
  exact ⟨Int.emod_nonneg _ (by omega), Int.emod_lt_of_pos _ (by omega)⟩
end Go.Proofs.Ytbgnagognnklbaa.AW
