import Derived.Test.YtkdigjpejnebkaaGreatGP41
set_option linter.unusedVariables false
set_option maxRecDepth 100000
set_option linter.unusedSimpArgs false
namespace Go.Proofs.YtkdigjpejnebkaaGreat
namespace AW
open Go.RowKit
def inB (n a b : Int) : Bool := decide (a <= n /\ n <= b)
theorem inB_iff (n a b : Int) : inB n a b = true ↔ a <= n /\ n <= b := ⟨fun h => of_decide_eq_true h,fun h => decide_eq_true h⟩
theorem inB_any (n a b : Int) (w : World) : Calls Tryz.prog 27 #[.int .i64 n,.int .i64 a,.int .i64 b] w fun e w' => e = .returned (.bool (inB n a b)) /\ w = w' := within_any n a b w
theorem each_words (a : AM.Ar) : (AM.pagesB a.page a.pages && AM.protB a.prot) = true ↔ inB a.page 1 255 = true /\ inB a.pages 1 255 = true /\ a.page + a.pages - 1 <= 255 /\ inB a.prot 0 3 = true := by
 rw [Bool.and_eq_true,AM.pagesB_iff,prot_iff,inB_iff,inB_iff,inB_iff]
 omega
theorem check_each (l : List AM.Ar) (hn : ¬ 255 < l.length) (h : AM.eachTo l l.length = false) : AM.checkN l = 1 := by
 unfold AM.checkN
 rw [if_neg hn,if_neg]
 intro hg
 have := (AM.good_each l l.length hg).1
 rw [this] at h;cases h
theorem check_rise (l : List AM.Ar) (hn : ¬ 255 < l.length) (h : AM.riseTo l l.length = false) : AM.checkN l = 1 := by
 unfold AM.checkN
 rw [if_neg hn,if_neg]
 intro hg
 have := (AM.good_each l l.length hg).2
 rw [this] at h;cases h
theorem check_same (l : List AM.Ar) (hn : ¬ 255 < l.length) (h : AM.eachTo l l.length = true) : AM.checkN l = 0 ↔ AM.gatherN (AM.spreadN l) = l := by
 constructor
 · exact AM.gather_spread l
 · intro e
   have := AM.check_gather _ (AM.fine_each l h)
   rw [e] at this
   exact this
theorem check_01 (l : List AM.Ar) (hn : ¬ 255 < l.length) (h : AM.checkN l ≠ 0) : AM.checkN l = 1 := by
 unfold AM.checkN at h ⊢
 rw [if_neg hn] at h ⊢
 split
 · rename_i hg
   rw [if_pos hg] at h
   exact absurd rfl h
 · rfl
theorem board_nil (ao : Option Addr) (cap : Nat) (w : World) :
  Calls Tryz.prog 76 #[.slice ao 0 cap] w fun e w' => ∃ C,e = .returned (.tuple #[.agg C,.bool (AM.riseTo [] 0)]) /\ Board [] C /\ Below w.heap.size w w' := by
 obtain ⟨Z,hZ⟩ : ∃ Z,Z = AM.cellsB (fun _ => 0) := ⟨_,rfl⟩
 have hz := zv42
 rw [<- hZ] at hz
 have HZ : Hid (Z = AM.cellsB (fun _ => 0)) := hZ
 have hZs : Z.size = 256 := by rw [hZ];exact AM.cellsB_size _
 have hZo : Z.all (·.oneCell') = true := by rw [hZ];exact AM.cellsB_one _
 have HZO : Hid (Z.all (·.oneCell') = true) := hZo
 clear hZ hZo
 have HR : Hid (((w.alloc (.cells Z 140)).alloc (.cells Z 140)).heap[w.heap.size]? = some (.cells Z 140 (0,0))) := B.alloc (B.new w Z 140) _
 have HA : Hid (((w.alloc (.cells Z 140)).alloc (.cells Z 140)).heap[w.heap.size + 1]? = some (.cells Z 140 (0,0))) := by
  have := B.new (w.alloc (.cells Z 140)) Z 140
  show _ = _
  simpa using this
 have HB : Hid (Below w.heap.size w ((w.alloc (.cells Z 140)).alloc (.cells Z 140))) := ((Below.refl _ _).alloc (Nat.le_refl _) _).alloc (by simp) _
 go_enter Tryz.func76,Tryz.ntmps76
 go_wp2
 refine wp_loop_rounds 1 ?_
 rw [rounds_succ]
 go_wp2_with (first | (refine wpList_load_row rfl 140 _ rfl (w.heap.size + 1) rfl 140 Z (0,0) _ HA.out Tryz.underlying140 rfl (by rw [hZs];exact size42) ?_) | (refine wpList_store_row rfl 140 _ _ rfl w.heap.size Z rfl rfl 140 Z HR.out (by rw [hZs];exact size42) rfl HZO.out ?_))
 have hfin := setRow_heap _ _ _ Z 140 (0,0) HR.out
 have hld := run_loadVar_row (P := Tryz.prog) _ _ 140 140 Z (0,0) _ hfin Tryz.underlying140 rfl (by rw [hZs];exact size42)
 refine bodyPost_ret (v := .tuple #[.agg Z,.bool true]) ?_ rfl ⟨Z,rfl,⟨hZs,HZO.out,fun _ => HZ.out⟩,below_setRow HB.out (Nat.le_refl _) _⟩
 rw [results_cell_tmp rfl]
 simp [asAddr,Result.andThen,hld]
theorem boardOf_any (l : List AM.Ar) (v : Value) (w : World) (h : Has w v l) (he : AM.eachTo l l.length = true) (hn : l.length <= 255) :
  Calls Tryz.prog 76 #[v] w fun e w' => ∃ C,e = .returned (.tuple #[.agg C,.bool (AM.riseTo l l.length)]) /\ Board l C /\ Below w.heap.size w w' := by
 obtain ⟨ao,cap,rfl,h⟩ := h
 rcases h with rfl | ⟨b,off,rfl,hl⟩
 · exact board_nil ao cap w
 · exact boardOf_some l b off cap w hl he hn
set_option maxHeartbeats 4000000 in
theorem refCheck_tail (l : List AM.Ar) (v : Value) (w : World) (h : Has w v l) (he : AM.eachTo l l.length = true) (hn : ¬ 255 < l.length) (ao : Option Addr) (cap : Nat) (hv : v = .slice ao l.length cap)
  (hloop : ∀ i,i < l.length -> ∃ b off,ao = some ⟨b,off,none⟩ /\ AM.Lie w b off l) :
  Calls Tryz.prog 41 #[.slice ao l.length cap] w fun e w' => e = .returned (.int .i64 (AM.checkN l)) /\ Below w.heap.size w w' := by
 have HH : Hid (Has w (.slice ao l.length cap) l) := by show Has _ _ _;rw [<- hv];exact h
 have HE : Hid (AM.eachTo l l.length = true) := he
 have HL : Hid (∀ i,i < l.length -> ∃ b off,ao = some ⟨b,off,none⟩ /\ AM.Lie w b off l) := hloop
 have HNl : Hid (¬ 255 < l.length) := hn
 have hn' : ¬ (255 : Int) < (l.length : Int) := by omega
 obtain ⟨Z,hZ⟩ : ∃ Z,Z = AM.cellsB (fun _ => 0) := ⟨_,rfl⟩
 have hz := zv42
 rw [<- hZ] at hz
 have hZs : Z.size = 256 := by rw [hZ];exact AM.cellsB_size _
 clear h he hv hloop hZ
 go_enter Tryz.func41,Tryz.ntmps41
 go_wp2
 go_loopw [3] (fun i wr => ∃ k : Nat,k <= l.length /\ i = .int .i64 k /\ Below w.heap.size w wr) (fun i _ => l.length - (intOf i).toNat)
 case atStart => exact ⟨0,by omega,rfl,Below.refl _ _⟩
 case round =>
  obtain ⟨k,hk,rfl,hb⟩ := hrel
  have HB : Hid (Below w.heap.size w wr) := hb
  by_cases hlt : k < l.length
  · obtain ⟨b,off,hao,hl⟩ := HL.out k hlt
    obtain ⟨c0,c1,c2,c3⟩ := hl.below hb k hlt
    have hw := AM.each_at l _ HE.out k hlt
    have hw2 := (each_words (AM.at_ l k)).1 (by rw [hw.1,hw.2];rfl)
    have hbk := (AM.pagesB_iff _ _).1 hw.1
    obtain ⟨a,ha⟩ : ∃ a,a = AM.at_ l k := ⟨_,rfl⟩
    rw [<- ha] at c0 c1 c2 c3 hw2 hbk
    clear ha hb hl hw
    subst hao
    obtain ⟨d1,d2,d3,d4⟩ := hw2
    have d3' : ¬ 255 < a.page + a.pages - 1 := by omega
    have hki : (k : Int) < (l.length : Int) := by omega
    go_wp2_with (first | (go_at_call 27;refine (inB_any _ _ _ _).mono ?_;rintro e w' ⟨rfl,rfl⟩))
    go_roundw
    case rel => exact ⟨k + 1,by omega,by go_num,HB.out.alloc HB.out.size _⟩
    case measure => simp [intOf];omega
  · obtain rfl : k = l.length := by omega
    clear hb
    go_wp2_with fail
    refine (boardOf_any l (.slice ao l.length cap) _ (HH.out.below HB.out) HE.out (by omega)).mono ?_
    rintro e w2 ⟨C,rfl,hC,hb2⟩
    have HBD : Hid (Board l C) := hC
    have hCs : C.size = 256 := hC.1
    have hCo : C.all (·.oneCell') = true := hC.2.1
    have HCO : Hid (C.all (·.oneCell') = true) := hCo
    have HB2 : Hid (Below w.heap.size w w2) := HB.out.trans (hb2.mono HB.out.size)
    clear hC hCo hb2
    have hn2 : Hid ((w2.alloc (.cells Z 140)).heap[w2.heap.size]? = some (.cells Z 140 (0,0))) := B.new w2 Z 140
    have HA0 : Hid (((w2.alloc (.cells Z 140)).setRow w2.heap.size C).heap[w2.heap.size]? = some (.cells C 140 (0,0))) := setRow_heap _ _ _ _ 140 (0,0) hn2.out
    have HB3 : Hid (Below w.heap.size w ((w2.alloc (.cells Z 140)).setRow w2.heap.size C)) := below_setRow (HB2.out.alloc HB2.out.size _) HB2.out.size _
    by_cases hr : AM.riseTo l l.length = true
    · have hCb : Hid (C = bd (AM.spreadN l)) := HBD.out.2.2 hr
      go_wp2_with (first | (refine wpList_store_row rfl 140 _ _ rfl w2.heap.size C rfl rfl 140 Z hn2.out (by rw [hCs];exact size42) (by rw [hZs,hCs]) HCO.out ?_) | (refine wpList_load_row rfl 140 _ rfl w2.heap.size rfl 140 C (0,0) _ HA0.out Tryz.underlying140 rfl (by rw [hCs];exact size42) ?_))
      refine wp_load_row 140 _ rfl w2.heap.size rfl 140 C (0,0) _ HA0.out Tryz.underlying140 rfl (by rw [hCs];exact size42) ?_
      go_wp2_with fail
      have hcall := areasOf_any (AM.spreadN l) (AM.fine_each l HE.out) ((w2.alloc (.cells Z 140)).setRow w2.heap.size C)
      rw [show AM.cellsB (fun n => AM.enc (AM.spreadN l n)) = C from hCb.out.symm] at hcall
      refine hcall.mono ?_
      clear hcall
      rintro e w3 ⟨v3,rfl,h3,hb4⟩
      have HB4 : Hid (Below w.heap.size w w3) := HB3.out.trans (hb4.mono HB3.out.size)
      have HG3 : Hid (Has w3 v3 (AM.gatherN (AM.spreadN l))) := h3
      clear hb4 h3
      go_wp2_with fail
      refine (same_any (AM.gatherN (AM.spreadN l)) l v3 (.slice ao l.length cap) _ HG3.out (HH.out.below HB4.out) (by have := AM.gather_len (AM.spreadN l) 256;unfold AM.gatherN;omega) (by have := HNl.out;omega)).mono ?_
      rintro e w4 ⟨r,rfl,hr2,hb5⟩
      have HB5 : Hid (Below w.heap.size w w4) := HB4.out.trans (hb5.mono HB4.out.size)
      have HR2 : Hid (r = true ↔ AM.gatherN (AM.spreadN l) = l) := hr2
      clear hb5 hr2
      cases r
      · have hres : Hid (AM.checkN l = 1) := check_01 l HNl.out (fun e => by have := HR2.out.2 ((check_same l HNl.out HE.out).1 e);cases this)
        go_wp2
        go_ret
        exact ⟨ret_int hres.out.symm,HB5.out⟩
      · have hres : Hid (AM.checkN l = 0) := (check_same l HNl.out HE.out).2 (HR2.out.1 rfl)
        go_wp2
        go_ret
        exact ⟨ret_int hres.out.symm,HB5.out⟩
    · have hr' : AM.riseTo l l.length = false := by simpa using hr
      have hres : Hid (AM.checkN l = 1) := check_rise l HNl.out hr'
      go_wp2_with (refine wpList_store_row rfl 140 _ _ rfl w2.heap.size C rfl rfl 140 Z hn2.out (by rw [hCs];exact size42) (by rw [hZs,hCs]) HCO.out ?_)
      go_ret
      exact ⟨ret_int hres.out.symm,HB3.out⟩
set_option maxHeartbeats 4000000 in
theorem refCheck_bad (l : List AM.Ar) (b off cap : Nat) (w : World) (hl : AM.Lie w b off l) (hf : ∀ i,i < l.length -> AM.Fits (AM.at_ l i)) (he : AM.eachTo l l.length = false) (hn : ¬ 255 < l.length) :
  Calls Tryz.prog 41 #[.slice (some ⟨b,off,none⟩) l.length cap] w fun e w' => e = .returned (.int .i64 (AM.checkN l)) /\ Below w.heap.size w w' := by
 have hres : Hid (AM.checkN l = 1) := check_each l hn he
 have HE : Hid (AM.eachTo l l.length = false) := he
 have hn' : ¬ (255 : Int) < (l.length : Int) := by omega
 clear he
 go_enter Tryz.func41,Tryz.ntmps41
 go_wp2
 go_loopw [3] (fun i wr => ∃ k : Nat,k <= l.length /\ i = .int .i64 k /\ AM.eachTo l k = true /\ Below w.heap.size w wr) (fun i _ => l.length - (intOf i).toNat)
 case atStart => exact ⟨0,by omega,rfl,rfl,Below.refl _ _⟩
 case round =>
  obtain ⟨k,hk,rfl,hek,hb⟩ := hrel
  have HB : Hid (Below w.heap.size w wr) := hb
  have HEK : Hid (AM.eachTo l k = true) := hek
  clear hek
  by_cases hlt : k < l.length
  · obtain ⟨c0,c1,c2,c3⟩ := hl.below hb k hlt
    obtain ⟨f1,f2,f3⟩ := hf k hlt
    have hw := each_words (AM.at_ l k)
    obtain ⟨a,ha⟩ : ∃ a,a = AM.at_ l k := ⟨_,rfl⟩
    rw [<- ha] at c0 c1 c2 c3 f1 f2 f3 hw
    have HW : Hid ((AM.pagesB a.page a.pages && AM.protB a.prot) = true ↔ inB a.page 1 255 = true /\ inB a.pages 1 255 = true /\ a.page + a.pages - 1 <= 255 /\ inB a.prot 0 3 = true) := hw
    have HA : Hid (a = AM.at_ l k) := ha
    clear ha hb hw
    have hki : (k : Int) < (l.length : Int) := by omega
    by_cases d1 : inB a.page 1 255 = true
    · have b1 := (inB_iff _ _ _).1 d1
      by_cases d2 : inB a.pages 1 255 = true
      · have b2 := (inB_iff _ _ _).1 d2
        by_cases d3 : a.page + a.pages - 1 <= 255
        · have d3' : ¬ 255 < a.page + a.pages - 1 := by omega
          by_cases d4 : inB a.prot 0 3 = true
          · have hok : Hid (AM.eachTo l (k + 1) = true) := by show _ = _;simp only [AM.eachTo,HEK.out,Bool.true_and];rw [<- HA.out];exact HW.out.2 ⟨d1,d2,d3,d4⟩
            go_wp2_with (first | (go_at_call 27;refine (inB_any _ _ _ _).mono ?_;rintro e w' ⟨rfl,rfl⟩))
            go_roundw
            case rel => exact ⟨k + 1,by omega,by go_num,hok.out,HB.out.alloc HB.out.size _⟩
            case measure => simp [intOf];omega
          · have d4' : inB a.prot 0 3 = false := by simpa using d4
            clear d4
            go_wp2_with (first | (go_at_call 27;refine (inB_any _ _ _ _).mono ?_;rintro e w' ⟨rfl,rfl⟩))
            go_ret
            exact ⟨ret_int hres.out.symm,HB.out.alloc HB.out.size _⟩
        · have d3' : 255 < a.page + a.pages - 1 := by omega
          go_wp2_with (first | (go_at_call 27;refine (inB_any _ _ _ _).mono ?_;rintro e w' ⟨rfl,rfl⟩))
          go_ret
          exact ⟨ret_int hres.out.symm,HB.out.alloc HB.out.size _⟩
      · have d2' : inB a.pages 1 255 = false := by simpa using d2
        clear d2
        go_wp2_with (first | (go_at_call 27;refine (inB_any _ _ _ _).mono ?_;rintro e w' ⟨rfl,rfl⟩))
        go_ret
        exact ⟨ret_int hres.out.symm,HB.out.alloc HB.out.size _⟩
    · have d1' : inB a.page 1 255 = false := by simpa using d1
      clear d1
      go_wp2_with (first | (go_at_call 27;refine (inB_any _ _ _ _).mono ?_;rintro e w' ⟨rfl,rfl⟩))
      go_ret
      exact ⟨ret_int hres.out.symm,HB.out.alloc HB.out.size _⟩
  · exfalso
    obtain rfl : k = l.length := by omega
    have := HEK.out
    rw [HE.out] at this
    cases this
theorem refCheck_long (n : Nat) (ao : Option Addr) (cap : Nat) (w : World) (hn : 255 < n) (hm : n <= 140737488351232) :
  Calls Tryz.prog 41 #[.slice ao n cap] w fun e w' => e = .returned (.int .i64 2) /\ Below w.heap.size w w' := by
 have hn' : (255 : Int) < (n : Int) := by omega
 go_enter Tryz.func41,Tryz.ntmps41
 go_wp2
 go_ret
 exact ⟨rfl,Below.refl _ _⟩
theorem refCheck_any (l : List AM.Ar) (v : Value) (w : World) (h : Has w v l) (hf : AllFit l) :
  Calls Tryz.prog 41 #[v] w fun e w' => e = .returned (.int .i64 (AM.checkN l)) /\ Below w.heap.size w w' := by
 have h' := h
 obtain ⟨ao,cap,rfl,hh⟩ := h
 by_cases hn : 255 < l.length
 · have e : AM.checkN l = 2 := by simp [AM.checkN,hn]
   rw [e]
   exact refCheck_long l.length ao cap w hn hf.2
 · by_cases he : AM.eachTo l l.length = true
   · refine refCheck_tail l _ w h' he hn ao cap rfl (fun i hi => ?_)
     rcases hh with e | ⟨b,off,hao,hl⟩
     · rw [e] at hi;simp at hi
     · exact ⟨b,off,hao,hl⟩
   · have he' : AM.eachTo l l.length = false := by simpa using he
     rcases hh with e | ⟨b,off,hao,hl⟩
     · subst e;simp [AM.eachTo] at he'
     · subst hao
       exact refCheck_bad l b off cap w hl hf.1 he' hn
end AW
end Go.Proofs.YtkdigjpejnebkaaGreat
