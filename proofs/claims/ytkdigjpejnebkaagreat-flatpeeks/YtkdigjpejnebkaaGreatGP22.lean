import Derived.Test.YtkdigjpejnebkaaGreatGP21
set_option linter.unusedVariables false
set_option maxRecDepth 100000
set_option linter.unusedSimpArgs false
namespace Go.Proofs.YtkdigjpejnebkaaGreat
namespace W
open Go.RowKit
def cellsG (s : M.Sg) : Array Value := #[.int .i64 s.page,.int .i64 s.pages,.string s.data,.bool s.wr,.bool s.ex]
def segOr (l : List M.Sg) (a : Int) : M.Sg := (M.segIn l a).getD M.sg0
theorem segIn_none : ∀ (l : List M.Sg) (a : Int),(∀ j,j < l.length -> M.inSeg (M.sgAt l j) a = false) -> M.segIn l a = none
 | [],_,_ => rfl
 | s :: r,a,h => by
  have h0 : M.inSeg s a = false := h 0 (by simp)
  unfold M.segIn
  rw [h0,if_neg (by simp)]
  exact segIn_none r a (fun j hj => h (j + 1) (by simpa using hj))
theorem segIn_some : ∀ (l : List M.Sg) (a : Int) (k : Nat),k < l.length -> (∀ j,j < k -> M.inSeg (M.sgAt l j) a = false) -> M.inSeg (M.sgAt l k) a = true -> M.segIn l a = some (M.sgAt l k)
 | s :: r,a,0,_,_,h => by
  have h0 : M.inSeg s a = true := h
  unfold M.segIn
  rw [h0,if_pos rfl]
  rfl
 | s :: r,a,k + 1,hk,hj,h => by
  have h0 : M.inSeg s a = false := hj 0 (by omega)
  unfold M.segIn
  rw [h0,if_neg (by simp)]
  exact segIn_some r a k (by simpa using hk) (fun j h => hj (j + 1) (by omega)) h
theorem range_at {l : List M.Sg} (h : l.all M.rangeB = true) (k : Nat) (hk : k < l.length) : 0 <= (M.sgAt l k).page /\ 1 <= (M.sgAt l k).pages /\ (M.sgAt l k).page + (M.sgAt l k).pages <= 255 /\ ((M.sgAt l k).data.size : Int) <= (M.sgAt l k).pages * 16 :=
 of_decide_eq_true (M.all_at M.rangeB M.sg0 l k hk h)
theorem segIn_neg {l : List M.Sg} (h : l.all M.rangeB = true) (a : Int) (ha : a < 0) : M.segIn l a = none :=
 segIn_none l a (fun j hj => by
  have := range_at h j hj
  exact decide_eq_false (by omega))
theorem ret_seg {a b : M.Sg} {x y : Bool} (h : a = b) (g : x = y) : Ending.returned (.tuple #[.agg (cellsG a),.bool x]) = .returned (.tuple #[.agg (cellsG b),.bool y]) := by rw [h,g]
set_option maxHeartbeats 4000000 in
theorem segAt_any (l : List M.Sg) (ao : Option Addr) (cap : Nat) (a : Int) (w : World) (h : M.HasBy M.LieG w ao l) (hn : M.Short l.length) (hr : l.all M.rangeB = true) (ha : M.I64 a) :
  Calls Tryz.prog 150 #[.slice ao l.length cap,.int .i64 a] w fun e w' => e = .returned (.tuple #[.agg (cellsG (segOr l a)),.bool (M.placedB l a)]) /\ Below w.heap.size w w' := by
 unfold M.Short at hn
 unfold M.I64 at ha
 have H := hideC h
 have F := hideC hr
 clear h hr
 by_cases h0 : a < 0
 · have HN := hideC (segIn_neg F.out a h0)
   have HZ := hideC ((Below.refl w.heap.size w).alloc (Nat.le_refl _) (.cells #[.int .i64 0,.int .i64 0,.string ⟨#[]⟩,.bool false,.bool false] 129))
   go_enter Tryz.func150,Tryz.ntmps150
   go_wp2
   exact bodyPost_ret (v := .tuple #[.agg #[.int .i64 0,.int .i64 0,.string ⟨#[]⟩,.bool false,.bool false],.bool false]) (by simp [results,Tryz.results150,go_sem]) rfl ⟨ret_seg (a := M.sg0) (x := false) (by unfold segOr;rw [HN.out];rfl) (by unfold M.placedB;rw [HN.out];rfl),HZ.out⟩
 · have h0' : 0 <= a := by omega
   have hbz : Below w.heap.size w (w.alloc (.cells #[.int .i64 0,.int .i64 0,.string ⟨#[]⟩,.bool false,.bool false] 129)) := (Below.refl _ _).alloc (Nat.le_refl _) _
   have HZ := hideC hbz
   clear hbz
   go_enter Tryz.func150,Tryz.ntmps150
   go_wp2
   go_loopw [16] (fun i wr => ∃ k : Nat,k <= l.length /\ i = .int .i64 k /\ (∀ j,j < k -> M.inSeg (M.sgAt l j) a = false) /\ Below (w.heap.size + 1) (w.alloc (.cells #[.int .i64 0,.int .i64 0,.string ⟨#[]⟩,.bool false,.bool false] 129)) wr) (fun i _ => l.length - (intOf i).toNat)
   case atStart => exact ⟨0,by omega,rfl,fun j hj => by omega,Below.refl _ _⟩
   case round =>
    obtain ⟨k,hk,rfl,hno,hb⟩ := hrel
    have HN := hideC hno
    have HB := hideC hb
    have hbw : Hid (Below w.heap.size w wr) := HZ.out.trans (hb.mono (Nat.le_succ _))
    have hsz : w.heap.size + 1 <= wr.heap.size := by have := hb.size;simpa using this
    have HR := hideC (B.below (B.new w #[.int .i64 0,.int .i64 0,.string ⟨#[]⟩,.bool false,.bool false] 129) hb (Nat.lt_succ_self _))
    clear hno hb
    by_cases hlt : k < l.length
    · obtain ⟨b,off,hao,hbl,hl⟩ := H.out (by omega)
      subst hao
      obtain ⟨c0,c1,c2,c3,c4⟩ := M.lieG hbw.out hbl hl k hlt
      obtain ⟨g1,g2,g3,g4⟩ := range_at F.out k hlt
      obtain ⟨s,hs⟩ : ∃ s,s = M.sgAt l k := ⟨_,rfl⟩
      rw [<- hs] at c0 c1 c2 c3 c4 g1 g2 g3 g4
      have HS := hideC hs
      clear hs hl
      obtain ⟨p,n,d,x,y⟩ := s
      simp only at c0 c1 c2 c3 c4 g1 g2 g3 g4
      have hml : d.size <= maxLen := by unfold maxLen;omega
      have hli : (k : Int) < (l.length : Int) := by omega
      clear g4
      by_cases d1 : p <= a / 16
      · by_cases d2 : a / 16 < p + n
        · have hin : Hid (M.inSeg (M.sgAt l k) a = true) := by show _ = _;rw [<- HS.out];exact decide_eq_true (show p * 16 <= a /\ a < (p + n) * 16 by omega)
          have t0 := B.cell (B.alloc HR.out (.cells #[.int .i64 p,.int .i64 n,.string d,.bool x,.bool y] 129)) 0 rfl
          have t1 := B.cell (B.alloc HR.out (.cells #[.int .i64 p,.int .i64 n,.string d,.bool x,.bool y] 129)) 1 rfl
          have t2 := B.cell (B.alloc HR.out (.cells #[.int .i64 p,.int .i64 n,.string d,.bool x,.bool y] 129)) 2 rfl
          have t3 := B.cell (B.alloc HR.out (.cells #[.int .i64 p,.int .i64 n,.string d,.bool x,.bool y] 129)) 3 rfl
          have t4 := B.cell (B.alloc HR.out (.cells #[.int .i64 p,.int .i64 n,.string d,.bool x,.bool y] 129)) 4 rfl
          have u0 := B.free (B.alloc HR.out (.cells #[.int .i64 p,.int .i64 n,.string d,.bool x,.bool y] 129))
          have HW2 := hideC (hbw.out.alloc hbw.out.size (.cells #[.int .i64 p,.int .i64 n,.string d,.bool x,.bool y] 129))
          go_wp2
          exact bodyPost_ret (v := .tuple #[.agg #[.int .i64 p,.int .i64 n,.string d,.bool x,.bool y],.bool true]) (by simp [results,Tryz.results150,go_sem,t0,t1,t2,t3,t4]) rfl ⟨ret_seg (a := ⟨p,n,d,x,y⟩) (x := true) (by unfold segOr;rw [segIn_some l a k hlt HN.out hin.out];exact HS.out) (by unfold M.placedB;rw [segIn_some l a k hlt HN.out hin.out];rfl),(((((HW2.out.setCell (Nat.le_refl _) _).setCell (Nat.le_refl _) _).setCell (Nat.le_refl _) _).setCell (Nat.le_refl _) _).setCell (Nat.le_refl _) _)⟩
        · have hmiss : Hid (M.inSeg (M.sgAt l k) a = false) := by show _ = _;rw [<- HS.out];exact decide_eq_false (show ¬ (p * 16 <= a /\ a < (p + n) * 16) by omega)
          go_wp2
          go_roundw
          case rel => exact ⟨k + 1,by omega,by go_num,fun j hj => if e : j = k then by rw [e];exact hmiss.out else HN.out j (by omega),HB.out.alloc (by simpa using hsz) _⟩
          case measure => simp [intOf];omega
      · have hmiss : Hid (M.inSeg (M.sgAt l k) a = false) := by show _ = _;rw [<- HS.out];exact decide_eq_false (show ¬ (p * 16 <= a /\ a < (p + n) * 16) by omega)
        have d1' : decide (p <= a / 16) = false := decide_eq_false d1
        go_wp2
        go_roundw
        case rel => exact ⟨k + 1,by omega,by go_num,fun j hj => if e : j = k then by rw [e];exact hmiss.out else HN.out j (by omega),HB.out.alloc (by simpa using hsz) _⟩
        case measure => simp [intOf];omega
    · obtain rfl : k = l.length := by omega
      have HNo := hideC (segIn_none l a HN.out)
      have t0 := B.cell HR.out 0 rfl
      have t1 := B.cell HR.out 1 rfl
      have t2 := B.cell HR.out 2 rfl
      have t3 := B.cell HR.out 3 rfl
      have t4 := B.cell HR.out 4 rfl
      have u0 := B.free HR.out
      go_wp2
      exact bodyPost_ret (v := .tuple #[.agg #[.int .i64 0,.int .i64 0,.string ⟨#[]⟩,.bool false,.bool false],.bool false]) (by simp [results,Tryz.results150,go_sem,t0,t1,t2,t3,t4]) rfl ⟨ret_seg (a := M.sg0) (x := false) (by unfold segOr;rw [HNo.out];rfl) (by unfold M.placedB;rw [HNo.out];rfl),(((((hbw.out.setCell (Nat.le_refl _) _).setCell (Nat.le_refl _) _).setCell (Nat.le_refl _) _).setCell (Nat.le_refl _) _).setCell (Nat.le_refl _) _)⟩
theorem placed_bounds {l : List M.Sg} (h : l.all M.rangeB = true) (a : Int) (hp : M.placedB l a = true) : 0 <= a /\ a < 4080 := by
 induction l with
 | nil => cases hp
 | cons s r ih =>
  have h' : M.rangeB s = true /\ r.all M.rangeB = true := by simpa using h
  have hs : 0 <= s.page /\ 1 <= s.pages /\ s.page + s.pages <= 255 /\ (s.data.size : Int) <= s.pages * 16 := of_decide_eq_true h'.1
  unfold M.placedB M.segIn at hp
  cases e : M.inSeg s a
  · rw [e,if_neg (by simp)] at hp
    exact ih h'.2 hp
  · have := of_decide_eq_true e
    omega
theorem whole_yes {l : List M.Sg} {a : Int} (h : ∀ n : Nat,n < 8 -> M.placedB l (a + n) = true) : M.wholeB l a = true := by
 have e0 := h 0 (by omega)
 have e1 := h 1 (by omega)
 have e2 := h 2 (by omega)
 have e3 := h 3 (by omega)
 have e4 := h 4 (by omega)
 have e5 := h 5 (by omega)
 have e6 := h 6 (by omega)
 have e7 := h 7 (by omega)
 simp only [Int.cast_ofNat_Int,Int.add_zero] at e0 e1 e2 e3 e4 e5 e6 e7
 unfold M.wholeB
 rw [e0,e1,e2,e3,e4,e5,e6,e7]
 rfl
theorem whole_at {l : List M.Sg} {a : Int} (h : M.wholeB l a = true) (n : Nat) (hn : n < 8) : M.placedB l (a + n) = true := by
 unfold M.wholeB at h
 simp only [Bool.and_eq_true] at h
 obtain ⟨e0,e1,e2,e3,e4,e5,e6,e7⟩ := h
 have : n = 0 ∨ n = 1 ∨ n = 2 ∨ n = 3 ∨ n = 4 ∨ n = 5 ∨ n = 6 ∨ n = 7 := by omega
 rcases this with rfl | rfl | rfl | rfl | rfl | rfl | rfl | rfl
 · simpa using e0
 · exact e1
 · exact e2
 · exact e3
 · exact e4
 · exact e5
 · exact e6
 · exact e7
theorem whole_no {l : List M.Sg} {a : Int} (n : Nat) (hn : n < 8) (h : M.placedB l (a + n) = false) : M.wholeB l a = false := by
 cases e : M.wholeB l a
 · rfl
 · rw [whole_at e n hn] at h;cases h
theorem rels_mono (i : M.Im) (k n : Nat) (h : M.relsTo i k = false) (hk : k <= n) : M.relsTo i n = false := by
 induction n with
 | zero => obtain rfl : k = 0 := by omega
           exact h
 | succ n ih =>
  rcases Nat.lt_or_ge n k with g | g
  · obtain rfl : k = n + 1 := by omega
    exact h
  · simp only [M.relsTo]
    rw [ih g];rfl
theorem rels_at (i : M.Im) (k n : Nat) (h : M.relsTo i n = true) (hk : k < n) : M.relAt i k = true := by
 cases e : M.relAt i k
 · have : M.relsTo i (k + 1) = false := by simp only [M.relsTo];rw [e,Bool.and_false]
   rw [rels_mono i (k + 1) n this hk] at h;cases h
 · rfl
theorem rels_no (i : M.Im) (k : Nat) (hk : k < i.rels.length) (h : M.relAt i k = false) : M.relsTo i i.rels.length = false :=
 rels_mono i (k + 1) _ (by simp only [M.relsTo];rw [h,Bool.and_false]) hk
set_option maxHeartbeats 1500000 in
theorem symsPlaced_any (i : M.Im) (a : M.At) (w : World) (h : M.HasIm w a i) (hf : M.Fit i) (hr : i.segs.all M.rangeB = true) : Calls Tryz.prog 136 #[.agg (M.cellsI a i)] w fun e w' => e = .returned (.bool (i.syms.all (fun y => M.placedB i.segs y.pos))) /\ Below w.heap.size w w' := by
 obtain ⟨an,cn,ag,cg,ay,cy,ar,cr⟩ := a
 obtain ⟨nm,ns,gs,ys,rs,en⟩ := i
 obtain ⟨h1,h2,h3,h4⟩ := h
 obtain ⟨f1,f2,f3,f4,f5,f6,f7,f8,f9,f10⟩ := hf
 simp only at h1 h2 h3 h4 f1 f2 f3 f4 f5 f6 f7 f8 f9 f10
 have F4 := hideC f4
 unfold M.Short at f2 f4 f6 f8
 simp only [M.cellsI]
 have H1 := hideC h1
 have H2 := hideC h2
 have H3 := hideC h3
 have H4 := hideC h4
 have F3 := hideC f3
 have F7 := hideC f7
 have F9 := hideC f9
 have F10 := hideC f10
 have HG := hideC hr
 clear h1 h2 h3 h4 f3 f5 f7 f9 f10 hr
 have BOX := hideC (B.new w #[.string nm,.slice an ns.length cn,.slice ag gs.length cg,.slice ay ys.length cy,.slice ar rs.length cr,.int .i64 en] 135)
 have HB0 := hideC ((Below.refl w.heap.size w).alloc (Nat.le_refl _) (.cells #[.string nm,.slice an ns.length cn,.slice ag gs.length cg,.slice ay ys.length cy,.slice ar rs.length cr,.int .i64 en] 135))
 obtain ⟨X,hX⟩ : ∃ X : Array Value,X = #[.string nm,.slice an ns.length cn,.slice ag gs.length cg,.slice ay ys.length cy,.slice ar rs.length cr,.int .i64 en] := ⟨_,rfl⟩
 have HX := hideC hX
 rw [<- hX] at BOX HB0
 clear hX
 go_enter Tryz.func136,Tryz.ntmps136
 go_wp2
 rw [<- HX.out]
 go_loopw [10] (fun i wr => ∃ k : Nat,k <= ys.length /\ i = .int .i64 k /\ (∀ j,j < k -> M.placedB gs (M.syAt ys j).pos = true) /\ wr.heap[w.heap.size]? = some (.cells X 135 (0,0)) /\ Below w.heap.size w wr) (fun i _ => ys.length - (intOf i).toNat)
 case atStart => exact ⟨0,by omega,rfl,fun j h => by omega,BOX.out,HB0.out⟩
 case round =>
  obtain ⟨k,hk,rfl,hall,hbox,hb⟩ := hrel
  have HA := hideC hall
  have BX := hideC hbox
  have HB := hideC hb
  have bx0 := B.cell hbox 0 (by rw [HX.out];rfl)
  have bx1 := B.cell hbox 1 (by rw [HX.out];rfl)
  have bx2 := B.cell hbox 2 (by rw [HX.out];rfl)
  have bx3 := B.cell hbox 3 (by rw [HX.out];rfl)
  have bx4 := B.cell hbox 4 (by rw [HX.out];rfl)
  have bx5 := B.cell hbox 5 (by rw [HX.out];rfl)
  clear hall hbox
  by_cases hlt : k < ys.length
  · obtain ⟨b,off,hao,hbl,hl⟩ := H3.out (by omega)
    have hli : (k : Int) < (ys.length : Int) := by omega
    obtain ⟨c0,c1⟩ := M.lieY hb hbl hl k hlt
    have fs := (F7.out k hlt).2
    obtain ⟨y,hx⟩ : ∃ y,y = M.syAt ys k := ⟨_,rfl⟩
    rw [<- hx] at c0 c1 fs
    have HXX := hideC hx
    clear hx hb hl
    obtain ⟨x,xp⟩ := y
    simp only at c0 c1 fs
    subst hao
    have HB1 := hideC (HB.out.alloc HB.out.size (.cells #[.string x,.int .i64 xp] 239))
    have BX1 := hideC (B.alloc BX.out (.cells #[.string x,.int .i64 xp] 239))
    have hsz : w.heap.size < wr.heap.size := B.isLt BX.out
    have by2 := B.cell BX1.out 2 (by rw [HX.out];rfl)
    cases hc : M.placedB gs xp
    · have HR := hideC (M.all_false (fun y => M.placedB gs y.pos) M.sy0 ys k hlt (by show M.placedB gs (M.syAt ys k).pos = false;rw [<- HXX.out];exact hc))
      go_wp2_with (go_at_call 150;refine (segAt_any gs ag cg xp _ (M.HasBy.below (lie := M.LieG) (fun hb hlt h => M.lieG hb hlt h) H2.out HB1.out) F4.out HG.out fs).mono ?_;rintro e w2 ⟨rfl,hb2⟩;rw [hc];generalize segOr gs xp = sg;obtain ⟨sp,sn,sd,sx,sy⟩ := sg;simp only [cellsG];have HB2 := hideC (HB1.out.trans (hb2.mono HB1.out.size));have BX2 := hideC (B.below BX1.out hb2 (B.isLt BX1.out));clear hb2)
      go_ret
      exact ⟨ret_bool HR.out.symm,HB2.out.alloc HB2.out.size _⟩
    · go_wp2_with (go_at_call 150;refine (segAt_any gs ag cg xp _ (M.HasBy.below (lie := M.LieG) (fun hb hlt h => M.lieG hb hlt h) H2.out HB1.out) F4.out HG.out fs).mono ?_;rintro e w2 ⟨rfl,hb2⟩;rw [hc];generalize segOr gs xp = sg;obtain ⟨sp,sn,sd,sx,sy⟩ := sg;simp only [cellsG];have HB2 := hideC (HB1.out.trans (hb2.mono HB1.out.size));have BX2 := hideC (B.below BX1.out hb2 (B.isLt BX1.out));clear hb2)
      go_roundw
      case rel => exact ⟨k + 1,by omega,by go_num,fun j h => if e : j = k then by rw [e,<- HXX.out];exact hc else HA.out j (by omega),B.alloc BX2.out _,HB2.out.alloc HB2.out.size _⟩
      case measure => simp [intOf];omega
  · obtain rfl : k = ys.length := by omega
    clear hb
    have HR := hideC (M.all_true (fun y => M.placedB gs y.pos) M.sy0 ys (fun j hj => HA.out j hj))
    go_wp2
    go_ret
    exact ⟨ret_bool HR.out.symm,HB.out⟩
set_option maxHeartbeats 2000000 in
theorem entryPlaced_any (i : M.Im) (a : M.At) (w : World) (h : M.HasIm w a i) (hf : M.Fit i) (hr : i.segs.all M.rangeB = true) : Calls Tryz.prog 138 #[.agg (M.cellsI a i)] w fun e w' => e = .returned (.bool (M.entryB i)) /\ Below w.heap.size w w' := by
 obtain ⟨an,cn,ag,cg,ay,cy,ar,cr⟩ := a
 obtain ⟨nm,ns,gs,ys,rs,en⟩ := i
 obtain ⟨h1,h2,h3,h4⟩ := h
 obtain ⟨f1,f2,f3,f4,f5,f6,f7,f8,f9,f10⟩ := hf
 simp only at h1 h2 h3 h4 f1 f2 f3 f4 f5 f6 f7 f8 f9 f10
 have F4 := hideC f4
 unfold M.Short at f2 f4 f6 f8
 simp only [M.cellsI]
 have H1 := hideC h1
 have H2 := hideC h2
 have H3 := hideC h3
 have H4 := hideC h4
 have F3 := hideC f3
 have F7 := hideC f7
 have F9 := hideC f9
 have F10 := hideC f10
 have HG := hideC hr
 clear h1 h2 h3 h4 f3 f5 f7 f9 f10 hr
 have BOX := hideC (B.new w #[.string nm,.slice an ns.length cn,.slice ag gs.length cg,.slice ay ys.length cy,.slice ar rs.length cr,.int .i64 en] 135)
 have HB0 := hideC ((Below.refl w.heap.size w).alloc (Nat.le_refl _) (.cells #[.string nm,.slice an ns.length cn,.slice ag gs.length cg,.slice ay ys.length cy,.slice ar rs.length cr,.int .i64 en] 135))
 obtain ⟨X,hX⟩ : ∃ X : Array Value,X = #[.string nm,.slice an ns.length cn,.slice ag gs.length cg,.slice ay ys.length cy,.slice ar rs.length cr,.int .i64 en] := ⟨_,rfl⟩
 have HX := hideC hX
 rw [<- hX] at BOX HB0
 clear hX
 have bx2 := B.cell BOX.out 2 (by rw [HX.out];rfl)
 have bx5 := B.cell BOX.out 5 (by rw [HX.out];rfl)
 have f10' := F10.out
 unfold M.I64 at f10'
 have HE : Hid (M.entryB ⟨nm,ns,gs,ys,rs,en⟩ = (M.placedB gs en && ((segOr gs en).ex && decide (en % 8 = 0)))) := by
  show _ = _
  unfold M.entryB M.placedB segOr
  simp only
  cases M.segIn gs en <;> rfl
 rw [HE.out]
 have hpb : M.placedB gs en = true -> 0 <= en := fun h => (placed_bounds HG.out en h).1
 obtain ⟨sg,hsg⟩ : ∃ sg,sg = segOr gs en := ⟨_,rfl⟩
 obtain ⟨pb,hpp⟩ : ∃ pb,pb = M.placedB gs en := ⟨_,rfl⟩
 have HS := hideC hsg
 have HP := hideC hpp
 rw [<- hpp] at hpb
 rw [<- hsg,<- hpp]
 obtain ⟨sp,sn,sd,sx,sy⟩ := sg
 simp only
 clear HE hsg hpp
 cases pb
 · clear hpb
   go_enter Tryz.func138,Tryz.ntmps138
   go_wp2_with fail
   rw [<- HX.out]
   refine (segAt_any gs ag cg en _ (M.HasBy.below (lie := M.LieG) (fun hb hlt h => M.lieG hb hlt h) H2.out HB0.out) F4.out HG.out F10.out).mono ?_
   rintro e w2 ⟨rfl,hb2⟩
   have HB2 := hideC (HB0.out.trans (hb2.mono HB0.out.size))
   have BX2 := hideC (B.below BOX.out hb2 (B.isLt BOX.out))
   have hsz2 := B.isLt BX2.out
   have by5 := B.cell BX2.out 5 (by rw [HX.out];rfl)
   clear hb2
   rw [<- HS.out,<- HP.out]
   simp only [cellsG]
   go_wp2
   go_ret
   exact ⟨rfl,HB2.out.alloc HB2.out.size _⟩
 · have hp := hpb rfl
   clear hpb
   cases sy
   · go_enter Tryz.func138,Tryz.ntmps138
     go_wp2_with fail
     rw [<- HX.out]
     refine (segAt_any gs ag cg en _ (M.HasBy.below (lie := M.LieG) (fun hb hlt h => M.lieG hb hlt h) H2.out HB0.out) F4.out HG.out F10.out).mono ?_
     rintro e w2 ⟨rfl,hb2⟩
     have HB2 := hideC (HB0.out.trans (hb2.mono HB0.out.size))
     have BX2 := hideC (B.below BOX.out hb2 (B.isLt BOX.out))
     have hsz2 := B.isLt BX2.out
     have by5 := B.cell BX2.out 5 (by rw [HX.out];rfl)
     clear hb2
     rw [<- HS.out,<- HP.out]
     simp only [cellsG]
     go_wp2
     go_ret
     exact ⟨rfl,HB2.out.alloc HB2.out.size _⟩
   · by_cases d : en % 8 = 0
     · rw [decide_eq_true d]
       go_enter Tryz.func138,Tryz.ntmps138
       go_wp2_with fail
       rw [<- HX.out]
       refine (segAt_any gs ag cg en _ (M.HasBy.below (lie := M.LieG) (fun hb hlt h => M.lieG hb hlt h) H2.out HB0.out) F4.out HG.out F10.out).mono ?_
       rintro e w2 ⟨rfl,hb2⟩
       have HB2 := hideC (HB0.out.trans (hb2.mono HB0.out.size))
       have BX2 := hideC (B.below BOX.out hb2 (B.isLt BOX.out))
       have hsz2 := B.isLt BX2.out
       have by5 := B.cell BX2.out 5 (by rw [HX.out];rfl)
       clear hb2
       rw [<- HS.out,<- HP.out]
       simp only [cellsG]
       go_wp2
       go_ret
       exact ⟨rfl,HB2.out.alloc HB2.out.size _⟩
     · rw [decide_eq_false d]
       go_enter Tryz.func138,Tryz.ntmps138
       go_wp2_with fail
       rw [<- HX.out]
       refine (segAt_any gs ag cg en _ (M.HasBy.below (lie := M.LieG) (fun hb hlt h => M.lieG hb hlt h) H2.out HB0.out) F4.out HG.out F10.out).mono ?_
       rintro e w2 ⟨rfl,hb2⟩
       have HB2 := hideC (HB0.out.trans (hb2.mono HB0.out.size))
       have BX2 := hideC (B.below BOX.out hb2 (B.isLt BOX.out))
       have hsz2 := B.isLt BX2.out
       have by5 := B.cell BX2.out 5 (by rw [HX.out];rfl)
       clear hb2
       rw [<- HS.out,<- HP.out]
       simp only [cellsG]
       go_wp2
       go_ret
       exact ⟨ret_bool (by simpa using d),HB2.out.alloc HB2.out.size _⟩
set_option maxHeartbeats 2000000 in
theorem relsPlaced_any (i : M.Im) (a : M.At) (w : World) (h : M.HasIm w a i) (hf : M.Fit i) (hr : i.segs.all M.rangeB = true) : Calls Tryz.prog 137 #[.agg (M.cellsI a i)] w fun e w' => e = .returned (.bool (M.relsTo i i.rels.length)) /\ Below w.heap.size w w' := by
 obtain ⟨an,cn,ag,cg,ay,cy,ar,cr⟩ := a
 obtain ⟨nm,ns,gs,ys,rs,en⟩ := i
 obtain ⟨h1,h2,h3,h4⟩ := h
 obtain ⟨f1,f2,f3,f4,f5,f6,f7,f8,f9,f10⟩ := hf
 simp only at h1 h2 h3 h4 f1 f2 f3 f4 f5 f6 f7 f8 f9 f10
 have F4 := hideC f4
 unfold M.Short at f2 f4 f6 f8
 simp only [M.cellsI]
 have H1 := hideC h1
 have H2 := hideC h2
 have H3 := hideC h3
 have H4 := hideC h4
 have F3 := hideC f3
 have F7 := hideC f7
 have F9 := hideC f9
 have F10 := hideC f10
 have HG := hideC hr
 clear h1 h2 h3 h4 f3 f5 f7 f9 f10 hr
 have BOX := hideC (B.new w #[.string nm,.slice an ns.length cn,.slice ag gs.length cg,.slice ay ys.length cy,.slice ar rs.length cr,.int .i64 en] 135)
 have HB0 := hideC ((Below.refl w.heap.size w).alloc (Nat.le_refl _) (.cells #[.string nm,.slice an ns.length cn,.slice ag gs.length cg,.slice ay ys.length cy,.slice ar rs.length cr,.int .i64 en] 135))
 obtain ⟨X,hX⟩ : ∃ X : Array Value,X = #[.string nm,.slice an ns.length cn,.slice ag gs.length cg,.slice ay ys.length cy,.slice ar rs.length cr,.int .i64 en] := ⟨_,rfl⟩
 have HX := hideC hX
 rw [<- hX] at BOX HB0
 clear hX
 have hIR : ∀ k,k < rs.length -> M.relAt ⟨nm,ns,gs,ys,rs,en⟩ k = ((k == 0 || decide ((M.rlAt rs (k - 1)).pos + 8 <= (M.rlAt rs k).pos)) && M.wholeB gs (M.rlAt rs k).pos) := fun k hk => rfl
 have HIR := hideC hIR
 clear hIR
 obtain ⟨I,hI⟩ : ∃ I : M.Im,I = ⟨nm,ns,gs,ys,rs,en⟩ := ⟨_,rfl⟩
 have hIL : rs.length = I.rels.length := by rw [hI]
 have HNO : Hid (∀ k,k < rs.length -> M.relAt I k = false -> M.relsTo I rs.length = false) := fun k hk h => by rw [hIL];exact rels_no I k (by rw [<- hIL];exact hk) h
 rw [<- hI] at HIR
 rw [<- hI]
 clear hI hIL
 go_enter Tryz.func137,Tryz.ntmps137
 go_wp2
 rw [<- HX.out]
 go_loopw [11] (fun i wr => ∃ k : Nat,k <= rs.length /\ i = .int .i64 k /\ M.relsTo I k = true /\ wr.heap[w.heap.size]? = some (.cells X 135 (0,0)) /\ Below w.heap.size w wr) (fun i _ => rs.length - (intOf i).toNat)
 case atStart => exact ⟨0,by omega,rfl,rfl,BOX.out,HB0.out⟩
 case round =>
  obtain ⟨k,hk,rfl,hall,hbox,hb⟩ := hrel
  have HA := hideC hall
  have BX := hideC hbox
  have HB := hideC hb
  have bx0 := B.cell hbox 0 (by rw [HX.out];rfl)
  have bx1 := B.cell hbox 1 (by rw [HX.out];rfl)
  have bx2 := B.cell hbox 2 (by rw [HX.out];rfl)
  have bx3 := B.cell hbox 3 (by rw [HX.out];rfl)
  have bx4 := B.cell hbox 4 (by rw [HX.out];rfl)
  have bx5 := B.cell hbox 5 (by rw [HX.out];rfl)
  clear hall hbox
  by_cases hlt : k < rs.length
  · obtain ⟨b,off,hao,hbl,hl⟩ := H4.out (by omega)
    have hli : (k : Int) < (rs.length : Int) := by omega
    obtain ⟨c0,c1,c2⟩ := M.lieR hb hbl hl k hlt
    have fs := (F9.out k hlt).1
    have HK := hideC (HIR.out k hlt)
    have HPV : Hid (1 <= k -> wr.cell? ⟨b,off + (k - 1) * 3,none⟩ = some (.int .i64 (M.rlAt rs (k - 1)).pos) /\ 0 <= (M.rlAt rs (k - 1)).pos /\ (M.rlAt rs (k - 1)).pos < 4080) := fun h => by
     refine ⟨(M.lieR hb hbl hl (k - 1) (by omega)).1,?_⟩
     have := rels_at I (k - 1) k HA.out (by omega)
     rw [HIR.out (k - 1) (by omega),Bool.and_eq_true] at this
     have := whole_at this.2 0 (by omega)
     exact placed_bounds HG.out _ (by simpa using this)
    obtain ⟨y,hx⟩ : ∃ y,y = M.rlAt rs k := ⟨_,rfl⟩
    rw [<- hx] at c0 c1 c2 fs HK
    obtain ⟨q,hq⟩ : ∃ q,q = (M.rlAt rs (k - 1)).pos := ⟨_,rfl⟩
    rw [<- hq] at HPV HK
    clear hx hb hl hq
    obtain ⟨xp,xn,xa⟩ := y
    simp only at c0 c1 c2 fs HK
    have fs' := fs
    unfold M.I64 at fs'
    subst hao
    have hbr : b < wr.heap.size := Nat.lt_of_lt_of_le hbl HB.out.size
    have hsz : w.heap.size < wr.heap.size := B.isLt BX.out
    have HB1 := hideC (HB.out.alloc HB.out.size (.cells #[.int .i64 xp,.string xn,.int .i64 xa] 225))
    have BX1 := hideC (B.alloc BX.out (.cells #[.int .i64 xp,.string xn,.int .i64 xa] 225))
    have BR1 := hideC (B.new wr #[.int .i64 xp,.string xn,.int .i64 xa] 225)
    obtain ⟨W,hW⟩ : ∃ W,W = wr.alloc (.cells #[.int .i64 xp,.string xn,.int .i64 xa] 225) := ⟨_,rfl⟩
    have HW := hideC hW
    rw [<- hW] at HB1 BX1 BR1
    have hkin := Q.kin_some W
    have hkc := @Q.cell_kin W
    have hlw := B.isLt BX1.out
    have hlr := B.isLt BR1.out
    have hlb : b < W.heap.size := Nat.lt_of_lt_of_le hbl HB1.out.size
    have k0 : ∀ x : Q.Kin W.heap.size W,x.world.cell? ⟨wr.heap.size,0,none⟩ = some (.int .i64 xp) := fun x => by rw [hkc x _ _ hlr];exact B.cell BR1.out 0 rfl
    have k1 : ∀ x : Q.Kin W.heap.size W,x.world.cell? ⟨w.heap.size,4,none⟩ = some (.slice (some ⟨b,off,none⟩) rs.length cr) := fun x => by rw [hkc x _ _ hlw];exact B.cell BX1.out 4 (by rw [HX.out];rfl)
    have HSC : Hid (∀ o,W.cell? ⟨b,o,none⟩ = wr.cell? ⟨b,o,none⟩) := fun o => by rw [HW.out];exact (Below.refl wr.heap.size wr).alloc (Nat.le_refl _) _ |>.cell (p := ⟨b,o,none⟩) hbr
    clear hW hlw hlr
    by_cases hk0 : k = 0
    · subst hk0
      simp only [Nat.zero_mul,Nat.add_zero] at c0 c1 c2
      have HOK : Hid (M.relAt I 0 = M.wholeB gs xp) := HK.out.trans (by simp)
      clear HPV hkc
      go_wp2
      rw [<- HW.out]
      refine Q.region_kin (by kernel_rfl) (by kernel_rfl) ?_
      repeat (first | go_big_quiet_step (fail) | quiet_step (fail))
      refine wpQuiet_nil ?_
      intro _ hw'
      obtain ⟨x,hw''⟩ := hw'
      subst hw''
      go_wp2
      have HBX := hideC (HB1.out.trans (x.keeps.mono HB1.out.size))
      have BXX := hideC (B.below BX1.out x.keeps (B.isLt BX1.out))
      have BRX := hideC (B.below BR1.out x.keeps (B.isLt BR1.out))
      go_loopw [31] (fun i wq => ∃ n : Nat,n <= 8 /\ i = .int .i64 n /\ (∀ m : Nat,m < n -> M.placedB gs (xp + m) = true) /\ wq.heap[w.heap.size]? = some (.cells X 135 (0,0)) /\ wq.heap[wr.heap.size]? = some (.cells #[.int .i64 xp,.string xn,.int .i64 xa] 225 (0,0)) /\ Below w.heap.size w wq) (fun i _ => 8 - (intOf i).toNat)
      case atStart => exact ⟨0,by omega,rfl,fun j h => by omega,BXX.out,BRX.out,HBX.out⟩
      case round =>
       rename_i wq _ _
       obtain ⟨n,hn,rfl,hall,hbox,hbr2,hb⟩ := hrel
       have HA2 := hideC hall
       have BX2 := hideC hbox
       have BR2 := hideC hbr2
       have HB2 := hideC hb
       have q2 := B.cell hbox 2 (by rw [HX.out];rfl)
       have q0 := B.cell hbr2 0 rfl
       clear hall hbox hbr2 hb
       by_cases hn8 : n < 8
       · have hn8' : (n : Int) < 8 := by omega
         have hfit : 1 <= n -> 0 <= xp /\ xp < 4080 := fun h => placed_bounds HG.out xp (by have := HA2.out 0 (by omega);simpa using this)
         have hfs : M.I64 (xp + n) := by unfold M.I64;rcases Nat.eq_zero_or_pos n with h | h <;> omega
         have hfs' := hfs
         unfold M.I64 at hfs'
         clear hfit
         cases hc : M.placedB gs (xp + n)
         · have HR := hideC (HNO.out 0 hlt (HOK.out.trans (whole_no n hn8 hc)))
           go_wp2_with (go_at_call 150;refine (segAt_any gs ag cg (xp + n) _ (M.HasBy.below (lie := M.LieG) (fun hb hlt h => M.lieG hb hlt h) H2.out HB2.out) F4.out HG.out hfs).mono ?_;rintro e w3 ⟨rfl,hb3⟩;rw [hc];generalize segOr gs (xp + n) = sg;obtain ⟨sp,sn,sd,sx,sy⟩ := sg;simp only [cellsG];have HB3 := hideC (HB2.out.trans (hb3.mono HB2.out.size));have BX3 := hideC (B.below BX2.out hb3 (B.isLt BX2.out));have BR3 := hideC (B.below BR2.out hb3 (B.isLt BR2.out));clear hb3)
           go_ret
           exact ⟨ret_bool HR.out.symm,HB3.out.alloc HB3.out.size _⟩
         · go_wp2_with (go_at_call 150;refine (segAt_any gs ag cg (xp + n) _ (M.HasBy.below (lie := M.LieG) (fun hb hlt h => M.lieG hb hlt h) H2.out HB2.out) F4.out HG.out hfs).mono ?_;rintro e w3 ⟨rfl,hb3⟩;rw [hc];generalize segOr gs (xp + n) = sg;obtain ⟨sp,sn,sd,sx,sy⟩ := sg;simp only [cellsG];have HB3 := hideC (HB2.out.trans (hb3.mono HB2.out.size));have BX3 := hideC (B.below BX2.out hb3 (B.isLt BX2.out));have BR3 := hideC (B.below BR2.out hb3 (B.isLt BR2.out));clear hb3)
           go_roundw
           case rel => exact ⟨n + 1,by omega,by go_num,fun j h => if e : j = n then by rw [e];exact hc else HA2.out j (by omega),B.alloc BX3.out _,B.alloc BR3.out _,HB3.out.alloc HB3.out.size _⟩
           case measure => simp [intOf];omega
       · obtain rfl : n = 8 := by omega
         have HGO : Hid (M.relsTo I (0 + 1) = true) := by show (M.relsTo I 0 && M.relAt I 0) = true;rw [HA.out,HOK.out,whole_yes (fun m hm => HA2.out m hm)];rfl
         go_wp2
         go_roundw
         case rel => exact ⟨0 + 1,by omega,by go_num,HGO.out,BX2.out,HB2.out⟩
         case measure => simp [intOf];omega
    · have hk1 : 1 <= k := by omega
      obtain ⟨p0,p1,p2⟩ := HPV.out hk1
      have k2 : ∀ x : Q.Kin W.heap.size W,x.world.cell? ⟨b,off + (k - 1) * 3,none⟩ = some (.int .i64 q) := fun x => by rw [hkc x _ _ hlb,HSC.out];exact p0
      have hki : (0 : Int) < (k : Int) := by omega
      have hki2 : 0 < k := by omega
      have hki3 : (1 : Int) <= (k : Int) := by omega
      clear hkc hlb p0
      by_cases d : xp < q + 8
      · have HOK : Hid (M.relAt I k = false) := by show _ = _;rw [HK.out,decide_eq_false (by omega),show (k == 0) = false from by simp;omega];rfl
        go_wp2
        rw [<- HW.out]
        refine Q.region_kin (by kernel_rfl) (by kernel_rfl) ?_
        repeat (first | go_big_quiet_step (fail) | quiet_step (fail))
        refine wpQuiet_nil ?_
        intro _ hw'
        obtain ⟨x,hw''⟩ := hw'
        subst hw''
        go_wp2
        go_ret
        exact ⟨ret_bool (HNO.out k hlt HOK.out).symm,HB1.out.trans (x.keeps.mono HB1.out.size)⟩
      · have HOK : Hid (M.relAt I k = M.wholeB gs xp) := by show _ = _;rw [HK.out,decide_eq_true (by omega)];simp
        go_wp2
        rw [<- HW.out]
        refine Q.region_kin (by kernel_rfl) (by kernel_rfl) ?_
        repeat (first | go_big_quiet_step (fail) | quiet_step (fail))
        refine wpQuiet_nil ?_
        intro _ hw'
        obtain ⟨x,hw''⟩ := hw'
        subst hw''
        go_wp2
        have HBX := hideC (HB1.out.trans (x.keeps.mono HB1.out.size))
        have BXX := hideC (B.below BX1.out x.keeps (B.isLt BX1.out))
        have BRX := hideC (B.below BR1.out x.keeps (B.isLt BR1.out))
        go_loopw [31] (fun i wq => ∃ n : Nat,n <= 8 /\ i = .int .i64 n /\ (∀ m : Nat,m < n -> M.placedB gs (xp + m) = true) /\ wq.heap[w.heap.size]? = some (.cells X 135 (0,0)) /\ wq.heap[wr.heap.size]? = some (.cells #[.int .i64 xp,.string xn,.int .i64 xa] 225 (0,0)) /\ Below w.heap.size w wq) (fun i _ => 8 - (intOf i).toNat)
        case atStart => exact ⟨0,by omega,rfl,fun j h => by omega,BXX.out,BRX.out,HBX.out⟩
        case round =>
         rename_i wq _ _
         obtain ⟨n,hn,rfl,hall,hbox,hbr2,hb⟩ := hrel
         have HA2 := hideC hall
         have BX2 := hideC hbox
         have BR2 := hideC hbr2
         have HB2 := hideC hb
         have q2 := B.cell hbox 2 (by rw [HX.out];rfl)
         have q0 := B.cell hbr2 0 rfl
         clear hall hbox hbr2 hb
         by_cases hn8 : n < 8
         · have hn8' : (n : Int) < 8 := by omega
           have hfit : 1 <= n -> 0 <= xp /\ xp < 4080 := fun h => placed_bounds HG.out xp (by have := HA2.out 0 (by omega);simpa using this)
           have hfs : M.I64 (xp + n) := by unfold M.I64;rcases Nat.eq_zero_or_pos n with h | h <;> omega
           have hfs' := hfs
           unfold M.I64 at hfs'
           clear hfit
           cases hc : M.placedB gs (xp + n)
           · have HR := hideC (HNO.out k hlt (HOK.out.trans (whole_no n hn8 hc)))
             go_wp2_with (go_at_call 150;refine (segAt_any gs ag cg (xp + n) _ (M.HasBy.below (lie := M.LieG) (fun hb hlt h => M.lieG hb hlt h) H2.out HB2.out) F4.out HG.out hfs).mono ?_;rintro e w3 ⟨rfl,hb3⟩;rw [hc];generalize segOr gs (xp + n) = sg;obtain ⟨sp,sn,sd,sx,sy⟩ := sg;simp only [cellsG];have HB3 := hideC (HB2.out.trans (hb3.mono HB2.out.size));have BX3 := hideC (B.below BX2.out hb3 (B.isLt BX2.out));have BR3 := hideC (B.below BR2.out hb3 (B.isLt BR2.out));clear hb3)
             go_ret
             exact ⟨ret_bool HR.out.symm,HB3.out.alloc HB3.out.size _⟩
           · go_wp2_with (go_at_call 150;refine (segAt_any gs ag cg (xp + n) _ (M.HasBy.below (lie := M.LieG) (fun hb hlt h => M.lieG hb hlt h) H2.out HB2.out) F4.out HG.out hfs).mono ?_;rintro e w3 ⟨rfl,hb3⟩;rw [hc];generalize segOr gs (xp + n) = sg;obtain ⟨sp,sn,sd,sx,sy⟩ := sg;simp only [cellsG];have HB3 := hideC (HB2.out.trans (hb3.mono HB2.out.size));have BX3 := hideC (B.below BX2.out hb3 (B.isLt BX2.out));have BR3 := hideC (B.below BR2.out hb3 (B.isLt BR2.out));clear hb3)
             go_roundw
             case rel => exact ⟨n + 1,by omega,by go_num,fun j h => if e : j = n then by rw [e];exact hc else HA2.out j (by omega),B.alloc BX3.out _,B.alloc BR3.out _,HB3.out.alloc HB3.out.size _⟩
             case measure => simp [intOf];omega
         · obtain rfl : n = 8 := by omega
           have HGO : Hid (M.relsTo I (k + 1) = true) := by show (M.relsTo I k && M.relAt I k) = true;rw [HA.out,HOK.out,whole_yes (fun m hm => HA2.out m hm)];rfl
           go_wp2
           go_roundw
           case rel => exact ⟨k + 1,by omega,by go_num,HGO.out,BX2.out,HB2.out⟩
           case measure => simp [intOf];omega
  · obtain rfl : k = rs.length := by omega
    clear hb
    go_wp2
    go_ret
    exact ⟨ret_bool HA.out.symm,HB.out⟩
end W
end Go.Proofs.YtkdigjpejnebkaaGreat
