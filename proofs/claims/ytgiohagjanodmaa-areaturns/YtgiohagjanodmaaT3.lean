import Derived.Test.YtgiohagjanodmaaR6
import Derived.Test.YtgiohagjanodmaaK0
namespace Go.Proofs.Ytgiohagjanodmaa.W
open Go.RowKit
set_option linter.unusedVariables false

set_option maxRecDepth 100000 in
set_option maxHeartbeats 4000000 in
theorem protect_ref (l : List M.Ar) (v : Value) (page pages q : Int) (w : World) (h : Has w v l) (hf : AllFit l) (hp : I64 page) (hn : I64 pages) :
    Calls Try.prog 18 #[v, .int .i64 page, .int .i64 pages, .int .i64 q] w fun e w' => ∃ r, e = .returned (.tuple #[r, .int .i64 (protectN l page pages q).2]) ∧ Has w' r (protectN l page pages q).1 ∧ Below w.heap.size w w' := by
  by_cases hs : spanN l page pages q = 0
  · have hall : M.checkN l = 0 ∧ M.pagesB page pages = true ∧ M.protB q = true := by
      unfold spanN at hs
      by_cases hc : M.checkN l = 0
      · rw [if_pos hc] at hs
        by_cases hx : (M.pagesB page pages && M.protB q) = true
        · rw [Bool.and_eq_true] at hx
          exact ⟨hc, hx.1, hx.2⟩
        · rw [if_neg hx] at hs; cases hs
      · rw [if_neg hc] at hs; exact absurd hs hc
    obtain ⟨hc, hpp, hqq⟩ := hall
    have HT : Hid (protectN l page pages q = if M.errFrom (M.spreadN l) (howProtect q) page.toNat pages.toNat = 0 then (M.gatherN (M.turned (M.spreadN l) (howProtect q) page (page + pages)), 0) else ([], M.errFrom (M.spreadN l) (howProtect q) page.toNat pages.toNat)) := by
      show _ = _; simp [protectN, M.turnN, hc, hpp, hqq]
    have hpb := (M.pagesB_iff page pages).1 hpp
    have hqb := (prot_iff q).1 hqq
    have hfin : Hid (∀ t, M.Fine (M.turned (M.spreadN l) (howProtect q) page t)) := fun t => fine_protect l page t q hc (by omega) hqb
    have hfs : Hid (M.Fine (M.spreadN l)) := M.fine_spread l hc
    have hgood := M.good_each l l.length (M.good_of_check l hc)
    have hlen := M.good_len l hc
    have SP := hideC (fun W hW => span_any l v page pages q W hW hf hp hn)
    rw [hs] at SP
    have BO := hideC (fun W hW => boardOf_any l v W hW hgood.1 hlen)
    rw [hgood.2] at BO
    have HR := hideC hgood.2
    obtain ⟨Z, hZ⟩ : ∃ Z, Z = M.cellsB (fun _ => 0) := ⟨_, rfl⟩
    have hz := zv42
    rw [← hZ] at hz
    have hZs : Z.size = 256 := by rw [hZ]; exact M.cellsB_size _
    clear hZ hs hc hpp hqq hgood hlen
    go_enter Try.func18, Try.ntmps18
    go_wp2_with fail
    refine (SP.out _ h).mono ?_
    rintro e w1 ⟨rfl, hb1⟩
    go_wp2_with fail
    refine (BO.out _ (h.below hb1)).mono ?_
    rintro e w2 ⟨C, rfl, hBd, hb2⟩
    have HB2 : Hid (Below w.heap.size w w2) := hb1.trans (hb2.mono hb1.size)
    obtain ⟨F, hF⟩ : ∃ F, F = M.spreadN l := ⟨_, rfl⟩
    obtain ⟨hCs, hCo, hCb⟩ := hBd
    have hC := hCb HR.out
    rw [← hF] at HT hfin hfs hC
    have HCF := hideC hC
    have HCo := hideC hCo
    clear hb1 hb2 hF hC hCb hCo SP BO HR
    have hn2 : Hid ((w2.alloc (.cells Z 42)).heap[w2.heap.size]? = some (.cells Z 42 (0, 0))) := B.new w2 Z 42
    go_wp2_with (refine wpList_store_row rfl 42 _ _ rfl w2.heap.size C rfl rfl 42 Z hn2.out (by rw [hCs]; exact size42) (by rw [hZs, hCs]) HCo.out ?_)
    have HA0 : Hid (((w2.alloc (.cells Z 42)).setRow w2.heap.size C).heap[w2.heap.size]? = some (.cells C 42 (0, 0))) := setRow_heap _ _ _ _ 42 (0, 0) hn2.out
    have HB3 : Hid (Below w.heap.size w ((w2.alloc (.cells Z 42)).setRow w2.heap.size C)) := below_setRow (HB2.out.alloc HB2.out.size _) HB2.out.size _
    have hsz2 := HB2.out.size
    go_loopw [13] (fun t wr => ∃ n : Nat, page ≤ (n : Int) ∧ (n : Int) ≤ page + pages ∧ t = .int .i64 n ∧ (∀ k : Nat, page.toNat ≤ k → k < n → ((howProtect q) (F k)).2 = 0) ∧ wr.heap[w2.heap.size]? = some (.cells (bd (M.turned F (howProtect q) page n)) 42 (0, 0)) ∧ Below w.heap.size w wr) (fun t _ => (page + pages - intOf t).toNat)
    case atStart =>
      refine ⟨page.toNat, by omega, by omega, by rw [Int.toNat_of_nonneg (by omega)], fun k h1 h2 => by omega, ?_, HB3.out⟩
      rw [Int.toNat_of_nonneg (by omega), M.turned_begin, ← HCF.out]
      exact HA0.out
    case round =>
      obtain ⟨n, hn1, hn3, rfl, hno, hA, hb⟩ := hrel
      have HN : Hid (∀ k : Nat, page.toNat ≤ k → k < n → ((howProtect q) (F k)).2 = 0) := hno
      have HA : Hid (wr.heap[w2.heap.size]? = some (.cells (bd (M.turned F (howProtect q) page n)) 42 (0, 0))) := hA
      have HB : Hid (Below w.heap.size w wr) := hb
      have hAl : w2.heap.size < wr.heap.size := B.isLt hA
      by_cases hin : (n : Int) < page + pages
      · have z0 := B.cell hA n (M.cellsB_get _ n (by omega))
        have zf := B.free hA
        rw [M.turned_at] at z0
        have hn256 : (n : Int) < 256 := by omega
        clear hno hA hb
        have hpF := hfs.out.prot n
        obtain ⟨s, hs⟩ : ∃ s, s = F n := ⟨_, rfl⟩
        rw [← hs] at z0 hpF
        have HS : Hid (s = F n) := hs
        clear hs
        have hstep : Hid (∀ x : M.St, ((howProtect q) s).1 = x → (bd (M.turned F (howProtect q) page n)).setIfInBounds n (.int .i64 (M.enc x)) = bd (M.turned F (howProtect q) page ((n : Int) + 1))) := fun x hx => by
          unfold bd
          rw [M.cellsB_set _ n _ (by omega), M.updI_enc (M.turned F (howProtect q) page n) n x, ← M.turned_step F (howProtect q) page n hn1, ← HS.out, hx]
        by_cases hm : s.m = true
        · have hz8 : decide (8 < M.enc s) = s.z := by
            unfold M.enc M.mark
            rw [hm]
            cases s.z <;> simp <;> omega
          have hx : (M.enc s == 0) = false := by
            simp
            intro hh
            have := (M.enc_zero s hpF.1).1 hh
            rw [hm] at this; cases this
          obtain ⟨x, hxe⟩ : ∃ x, x = M.enc s := ⟨_, rfl⟩
          rw [← hxe] at z0 hx hz8
          clear hxe
          go_wp2_with (first | (go_at_call 33; refine (mark_any _ _ _ hqb).mono ?_; rintro e w' ⟨rfl, rfl⟩))
          go_roundw
          case rel =>
            have hset := B.set HA.out n (.int .i64 (M.mark q s.z))
            rw [show (M.mark q s.z) = M.enc ⟨true, q, s.z⟩ from by simp [M.enc], hstep.out ⟨true, q, s.z⟩ (by simp [howProtect, hm])] at hset
            refine ⟨n + 1, by omega, by omega, by go_num, fun k h1 h2 => if e : k = n then by rw [e, ← HS.out]; simp [howProtect, hm] else HN.out k h1 (by omega), ?_, HB.out.setCell (by simp; omega) _⟩
            rw [show ((n + 1 : Nat) : Int) = (n : Int) + 1 from by omega]
            exact hset
          case measure => simp [intOf]; omega
        · have hm' : s.m = false := by simpa using hm
          have hx : M.enc s = 0 := (M.enc_zero s hpF.1).2 hm'
          rw [hx] at z0
          clear hx
          have ht : Hid (protectN l page pages q = ([], 6)) := by
            have herr : M.errFrom F (howProtect q) page.toNat pages.toNat = 6 := by
              have e5 : ((howProtect q) (F n)).2 = 6 := by rw [← HS.out]; simp [howProtect, hm]
              rw [M.errFrom_at F (howProtect q) _ _ n (by omega) (by omega) HN.out (by rw [e5]; decide), e5]
            show _ = _
            rw [HT.out, herr, if_neg (by decide)]
          go_wp2
          go_ret2
          exact ⟨.slice none 0 0, by rw [ht.out]; rfl, by rw [ht.out]; exact ⟨none, 0, rfl, .inl rfl⟩, HB.out⟩
      · have hend : Hid ((n : Int) = page + pages) := by show _ = _; omega
        have ht : Hid (protectN l page pages q = (M.gatherN (M.turned F (howProtect q) page n), 0)) := by
          have herr : M.errFrom F (howProtect q) page.toNat pages.toNat = 0 := M.errFrom_zero F (howProtect q) _ _ (fun k h1 h2 => HN.out k h1 (by have := hend.out; omega))
          show _ = _
          rw [HT.out, herr, if_pos rfl, hend.out]
        clear hno hA hb
        go_wp2_with (refine wpList_load_row rfl 42 _ rfl w2.heap.size rfl 42 _ (0, 0) _ HA.out Try.underlying42 rfl (by rw [bd_size]; exact size42) ?_)
        refine (areasOf_any _ (hfin.out n) _).mono ?_
        rintro e w4 ⟨r, rfl, hr, hb4⟩
        go_wp2
        go_ret2
        exact ⟨r, by rw [ht.out]; rfl, by rw [ht.out]; exact hr, HB.out.trans (hb4.mono HB.out.size)⟩
  · have HT : Hid (protectN l page pages q = ([], spanN l page pages q)) := by
      show _ = _
      unfold protectN M.turnN spanN at *
      by_cases hc : M.checkN l = 0
      · rw [if_pos hc] at hs
        rw [if_pos hc, if_pos hc]
        by_cases hx : (M.pagesB page pages && M.protB q) = true
        · rw [if_pos hx] at hs; exact absurd rfl hs
        · rw [if_neg hx, if_neg hx]
      · rw [if_neg hc, if_neg hc]
    have SP := hideC (fun W hW => span_any l v page pages q W hW hf hp hn)
    obtain ⟨c, hcc⟩ : ∃ c, c = spanN l page pages q := ⟨_, rfl⟩
    rw [← hcc] at SP hs HT
    clear hcc
    have hs' : (c == 0) = false := by simpa using hs
    go_enter Try.func18, Try.ntmps18
    go_wp2_with fail
    refine (SP.out _ h).mono ?_
    rintro e w1 ⟨rfl, hb1⟩
    go_wp2
    go_ret2
    exact ⟨.slice none 0 0, by rw [HT.out]; rfl, by rw [HT.out]; exact ⟨none, 0, rfl, .inl rfl⟩, hb1⟩
end Go.Proofs.Ytgiohagjanodmaa.W
