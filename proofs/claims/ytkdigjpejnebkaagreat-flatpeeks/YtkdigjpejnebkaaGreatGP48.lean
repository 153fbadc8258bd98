import Derived.Test.YtkdigjpejnebkaaGreatGP47
import Derived.Test.YtkdigjpejnebkaaGreatGP40
set_option linter.unusedVariables false
set_option maxRecDepth 100000
set_option linter.unusedSimpArgs false
namespace Go.Proofs.YtkdigjpejnebkaaGreat
namespace GB
open Go.RowKit
open FW (hideC add_below)
def rowC : Array Value := #[.int .i64 16,.int .i64 0,.int .i64 0,.int .i64 0,.int .i64 5,.int .i64 11,.int .i64 1,.int .i64 0,.int .i64 0,.int .i64 40,.int .i64 10,.int .i64 0,.int .i64 1,.int .i64 8,.int .i64 0,.int .i64 9,.int .i64 0,.int .i64 1,.int .i64 1,.int .i64 0,.int .i64 16,.int .i64 0,.int .i64 0,.int .i64 0,.int .i64 1,.int .i64 16,.int .i64 0,.int .i64 0,.int .i64 0,.int .i64 6]
theorem row_cell {V : World} {rb : Nat} (h : V.heap[rb]? = some (.cells rowC 99 (0,0))) (k : Nat) (hk : k < 6) :
  V.cell? ⟨rb,k * 5,none⟩ = some (.int .i64 (cis.getD k i0).op) /\ V.cell? ⟨rb,k * 5 + 1,none⟩ = some (.int .i64 (cis.getD k i0).a) /\ V.cell? ⟨rb,k * 5 + 2,none⟩ = some (.int .i64 (cis.getD k i0).b) /\ V.cell? ⟨rb,k * 5 + 3,none⟩ = some (.int .i64 (cis.getD k i0).c) /\ V.cell? ⟨rb,k * 5 + 4,none⟩ = some (.int .i64 (cis.getD k i0).m) := by
 match k,hk with
 | 0,_ => exact ⟨B.cell h 0 rfl,B.cell h 1 rfl,B.cell h 2 rfl,B.cell h 3 rfl,B.cell h 4 rfl⟩
 | 1,_ => exact ⟨B.cell h 5 rfl,B.cell h 6 rfl,B.cell h 7 rfl,B.cell h 8 rfl,B.cell h 9 rfl⟩
 | 2,_ => exact ⟨B.cell h 10 rfl,B.cell h 11 rfl,B.cell h 12 rfl,B.cell h 13 rfl,B.cell h 14 rfl⟩
 | 3,_ => exact ⟨B.cell h 15 rfl,B.cell h 16 rfl,B.cell h 17 rfl,B.cell h 18 rfl,B.cell h 19 rfl⟩
 | 4,_ => exact ⟨B.cell h 20 rfl,B.cell h 21 rfl,B.cell h 22 rfl,B.cell h 23 rfl,B.cell h 24 rfl⟩
 | 5,_ => exact ⟨B.cell h 25 rfl,B.cell h 26 rfl,B.cell h 27 rfl,B.cell h 28 rfl,B.cell h 29 rfl⟩
 | k + 6,h => exact absurd h (by omega)
def OutC (w : World) (e : Ending) (w' : World) : Prop := ∃ ar cr ah ch a1 a2 a3 a4 c1 c2 c3 c4,e = .returned (.agg #[.slice ar 1 cr,.slice ah 4 ch,.int .i64 16]) /\ AW.Has w' (.slice ar 1 cr) cntA /\ LM.HasH w' ah (cntH a1 a2 a3 a4 c1 c2 c3 c4) /\ 4 <= ch /\ Below w.heap.size w w'
theorem out_of {a : M.At} {w w' : World} {e : Ending} (h : LW.OutL [⟨cntI,a⟩] w e w') : ∃ ar cr ah ch a1 a2 a3 a4 c1 c2 c3 c4,e = .returned (.tuple #[.agg #[.slice ar 1 cr,.slice ah 4 ch,.int .i64 16],.int .i64 0]) /\ AW.Own w.heap.size w' (.slice ar 1 cr) cntA /\ LM.HasH w' ah (cntH a1 a2 a3 a4 c1 c2 c3 c4) /\ 4 <= ch /\ Below w.heap.size w w' := by
 obtain ⟨hb,h2⟩ := h
 rw [if_pos (cnt_err a)] at h2
 obtain ⟨ix,E,r,hs,ao,cap,h3,h4,h5,h6,h7,h8,h9⟩ := h2
 rw [cnt_gat] at h3
 injection h3 with h3
 subst h3
 rw [cnt_obs] at h4 h6 h7
 rw [cnt_sheets] at h4
 injection h4 with h4
 subst h4
 rw [cnt_areas] at h7
 rw [cnt_entry] at h6
 obtain ⟨a1,a2,a3,a4,c1,c2,c3,c4,rfl⟩ := cnt_of h5
 obtain ⟨ar,cr,hr,_⟩ := LW.own_slice h7
 subst hr
 exact ⟨ar,cr,ao,cap,a1,a2,a3,a4,c1,c2,c3,c4,h6,h7,h8,h9,hb⟩
theorem hasH_set {V U : World} {g : Nat} {x y : Value} {n : Int} {ah : Option Addr} {a1 a2 a3 a4 : Option Addr} {c1 c2 c3 c4 : Nat} (h : LM.HasH V ah (cntH a1 a2 a3 a4 c1 c2 c3 c4)) (hg : V.heap[g]? = some (.cells #[x,y,.int .i64 n] 25 (0,0))) (hx : ∀ k i,x ≠ .int k i) (hy : ∀ k i,y ≠ .int k i) (hk : ∀ b j v,b ≠ g -> V.cell? ⟨b,j,none⟩ = some v -> U.cell? ⟨b,j,none⟩ = some v) (hs : V.heap.size <= U.heap.size) : LM.HasH U ah (cntH a1 a2 a3 a4 c1 c2 c3 c4) := fun hl => by
 obtain ⟨b,off,rfl,hb,hlie⟩ := h hl
 have hne : b ≠ g := fun e => by
  subst e
  obtain ⟨d0,d1,_,_⟩ := hlie 0 (by unfold cntH;simp)
  rw [Nat.zero_mul,Nat.add_zero] at d0 d1
  match off,d0,d1 with
  | 0,d0,_ =>
   rw [B.cell hg 0 (v := x) rfl] at d0
   injection d0 with d0
   exact hx _ _ d0
  | 1,d0,_ =>
   rw [B.cell hg 1 (v := y) rfl] at d0
   injection d0 with d0
   exact hy _ _ d0
  | 2,_,d1 =>
   have : V.cell? ⟨b,3,none⟩ = none := by simp [World.cell?,hg]
   rw [this] at d1
   cases d1
  | k + 3,d0,_ =>
   have : V.cell? ⟨b,k + 3,none⟩ = none := by simp [World.cell?,hg]
   rw [this] at d0
   cases d0
 refine ⟨b,off,rfl,by omega,fun i hi => ?_⟩
 obtain ⟨d0,d1,d2,_⟩ := hlie i hi
 refine ⟨hk _ _ _ hne d0,hk _ _ _ hne d1,hk _ _ _ hne d2,fun h0 => ?_⟩
 exfalso
 match i,hi,h0 with
 | 0,_,h0 => exact Nat.not_lt_zero _ h0
 | 1,_,h0 => exact Nat.not_lt_zero _ h0
 | 2,_,h0 => exact Nat.not_lt_zero _ h0
 | 3,_,h0 => exact Nat.not_lt_zero _ h0
 | i + 4,h,_ => exact absurd h (by unfold cntH;simp)
set_option maxHeartbeats 4000000 in
theorem count_any (w : World) : Calls Tryz.prog 31 #[] w (OutC w) := by
 have HFIN : Hid (∀ ar cr ah ch a1 a2 a3 a4 c1 c2 c3 c4 (w' : World),AW.Has w' (.slice ar 1 cr) cntA -> LM.HasH w' ah (cntH a1 a2 a3 a4 c1 c2 c3 c4) -> 4 <= ch -> Below w.heap.size w w' -> OutC w (.returned (.agg #[.slice ar 1 cr,.slice ah 4 ch,.int .i64 16])) w') := fun ar cr ah ch a1 a2 a3 a4 c1 c2 c3 c4 w' h1 h2 h3 h4 => ⟨ar,cr,ah,ch,a1,a2,a3,a4,c1,c2,c3,c4,rfl,h1,h2,h3,h4⟩
 obtain ⟨P,hP⟩ : ∃ P,P = OutC w := ⟨_,rfl⟩
 rw [<- hP] at HFIN ⊢
 clear hP
 have HIN : Hid (∀ (i : PM.Ins) V,Calls Tryz.prog 71 #[.agg #[.int .i64 i.op,.int .i64 i.a,.int .i64 i.b,.int .i64 i.c,.int .i64 i.m]] V fun e w' => e = .returned (.string i.bytes) /\ Below V.heap.size V w') := fun i V => PW.instr_any i V
 have HST : Hid (∀ k,insTo (k + 1) = insTo k ++ (cis.getD k i0).bytes) := fun k => rfl
 have HSZ := hideC insTo_size
 have HLK : Hid (∀ wb V,V.heap[wb]? = some (.cells #[.int .i64 0,.int .i64 4,.string cntD,.bool true,.bool true] 129 (0,0)) -> Calls Tryz.prog 72 #[.agg #[.string ⟨#[116]⟩,.slice none 0 0,.slice (some ⟨wb,0,none⟩) 1 1,.slice none 0 0,.slice none 0 0,.int .i64 0],.slice none 0 0] V fun e w' => ∃ ar cr ah ch a1 a2 a3 a4 c1 c2 c3 c4,e = .returned (.tuple #[.agg #[.slice ar 1 cr,.slice ah 4 ch,.int .i64 16],.int .i64 0]) /\ AW.Own V.heap.size w' (.slice ar 1 cr) cntA /\ LM.HasH w' ah (cntH a1 a2 a3 a4 c1 c2 c3 c4) /\ 4 <= ch /\ Below V.heap.size V w') := fun wb V hV =>
  (LW.link_any ⟨cntI,⟨none,0,some ⟨wb,0,none⟩,1,none,0,none,0⟩⟩ [] none 0 V ⟨fun h => absurd h (Nat.not_lt_zero _),fun _ => ⟨wb,0,rfl,B.isLt hV,fun i hi => by
   obtain rfl : i = 0 := by
    have : i < 1 := hi
    omega
   exact ⟨B.cell hV 0 rfl,B.cell hV 1 rfl,B.cell hV 2 rfl,B.cell hV 3 rfl,B.cell hV 4 rfl⟩⟩,fun h => absurd h (Nat.not_lt_zero _),fun h => absurd h (Nat.not_lt_zero _)⟩ (fun h => absurd h (by simp)) cnt_fit ⟨by unfold M.Short;decide,fun k hk => absurd hk (by simp)⟩).mono fun e w' h => out_of h
 have HDD : Hid (insTo 6 = cntD) := insTo_all
 obtain ⟨D,hD⟩ : ∃ D,D = cntD := ⟨_,rfl⟩
 rw [<- hD] at HLK HDD
 clear hD
 have HB0 := hideC (((Below.refl w.heap.size w).alloc (Nat.le_refl _) (.cells #[.slice none 0 0,.slice none 0 0,.int .i64 0] 25)).alloc (by simp) (.cells rowC 99))
 have X0 := hideC (B.alloc (B.new w #[.slice none 0 0,.slice none 0 0,.int .i64 0] 25) (.cells rowC 99))
 have R0 : Hid (((w.alloc (.cells #[.slice none 0 0,.slice none 0 0,.int .i64 0] 25)).alloc (.cells rowC 99)).heap[w.heap.size + 1]? = some (.cells rowC 99 (0,0))) := by
  have := B.new (w.alloc (.cells #[.slice none 0 0,.slice none 0 0,.int .i64 0] 25)) rowC 99
  rw [World.size_alloc] at this
  exact this
 go_enter Tryz.func31,Tryz.ntmps31
 go_wp2
 obtain ⟨WA,hWA⟩ : ∃ WA,WA = (w.alloc (.cells #[.slice none 0 0,.slice none 0 0,.int .i64 0] 25)).alloc (.cells rowC 99) := ⟨_,rfl⟩
 have hWA' := hWA
 unfold rowC at hWA'
 rw [<- hWA']
 rw [<- hWA] at HB0 X0 R0
 clear hWA hWA'
 obtain ⟨rb,hrb⟩ : ∃ rb,rb = w.heap.size + 1 := ⟨_,rfl⟩
 rw [<- hrb] at R0 ⊢
 have HRB := hideC hrb
 clear hrb
 go_loopw [1,3] (fun sv iv wr => ∃ k : Nat,k <= 6 /\ iv = .int .i64 (k : Int) /\ sv = .string (insTo k) /\ wr.heap[rb]? = some (.cells rowC 99 (0,0)) /\ wr.heap[w.heap.size]? = some (.cells #[.slice none 0 0,.slice none 0 0,.int .i64 0] 25 (0,0)) /\ Below w.heap.size w wr) (fun _ iv _ => 6 - (intOf iv).toNat)
 case atStart => exact ⟨0,by omega,rfl,rfl,R0.out,X0.out,HB0.out⟩
 case round =>
  obtain ⟨k,hk,rfl,rfl,hr,hx,hb⟩ := hrel
  have HR := hideC hr
  have HX := hideC hx
  have HB := hideC hb
  clear R0 X0 HB0
  by_cases hlt : k < 6
  · obtain ⟨c0,c1,c2,c3,c4⟩ := row_cell hr k hlt
    have hs := HSZ.out k
    have HS := hideC (HST.out k)
    have hz : (cis.getD k i0).bytes.size = 8 := PM.bytes_size _
    have HI2 := hideC (HIN.out (cis.getD k i0))
    obtain ⟨i,hi⟩ : ∃ i,i = cis.getD k i0 := ⟨_,rfl⟩
    rw [<- hi] at c0 c1 c2 c3 c4 HS hz HI2
    obtain ⟨Z,hZ⟩ : ∃ Z,Z = insTo k := ⟨_,rfl⟩
    obtain ⟨Y,hY⟩ : ∃ Y,Y = i.bytes := ⟨_,rfl⟩
    rw [<- hZ] at hs HS ⊢
    rw [<- hY] at hz HS HI2
    have hki : (k : Int) < 6 := by omega
    clear hi hZ hY hr hx hb
    go_wp2_with (go_at_call 71;refine (HI2.out _).mono ?_;rintro e w1 ⟨rfl,hb1⟩;have HB1 := hideC (HB.out.trans (hb1.mono HB.out.size));have HR1 := hideC (B.below HR.out hb1 (B.isLt HR.out));have HX1 := hideC (B.below HX.out hb1 (B.isLt HX.out));clear hb1)
    go_roundw
    case rel => exact ⟨k + 1,by omega,by go_num,by rw [HS.out],HR1.out,HX1.out,HB1.out⟩
    case measure => simp [intOf];omega
  · obtain rfl : k = 6 := by omega
    rw [HDD.out]
    have hxlt := B.isLt hx
    clear hr hx hb HST HSZ HIN
    go_wp2_with fail
    have HBS := hideC (HB.out.alloc HB.out.size (.cells #[.int .i64 0,.int .i64 4,.string D,.bool true,.bool true] 129))
    have HXS := hideC (B.alloc HX.out (.cells #[.int .i64 0,.int .i64 4,.string D,.bool true,.bool true] 129))
    have HLS := hideC (HLK.out wr.heap.size _ (B.new wr #[.int .i64 0,.int .i64 4,.string D,.bool true,.bool true] 129))
    go_at_call 72
    refine HLS.out.mono ?_
    rintro e w2 ⟨ar,cr,ah,ch,a1,a2,a3,a4,c1,c2,c3,c4,rfl,h1,h2,h3,h4⟩
    have HO := hideC h1
    have HH := hideC h2
    have HX2 := hideC (B.below HXS.out h4 (B.isLt HXS.out))
    have HB2 := hideC (HBS.out.trans (h4.mono HBS.out.size))
    have hcl := h4.size
    clear h1 h2 h4 HLS HLK HDD HXS
    have HX3 := hideC (B.alloc HX2.out (.cells #[.slice ar 1 cr,.slice ah 4 ch,.int .i64 16] 25))
    have y0 := B.cell HX3.out 0 rfl
    have y1 := B.cell HX3.out 1 rfl
    have y2 := B.cell HX3.out 2 rfl
    have yf := B.free HX3.out
    have hwl := B.isLt HX3.out
    have HK1 : Hid (GK.Kp (fun b => b = w.heap.size) w2 (w2.alloc (.cells #[.slice ar 1 cr,.slice ah 4 ch,.int .i64 16] 25))) := GK.Kp.alloc _ w2 _
    have HKU := hideC (HK1.out.trans (GK.kp_set3 (D := fun b => b = w.heap.size) _ w.heap.size 0 1 2 (.slice ar 1 cr) (.slice ah 4 ch) (.int .i64 16) rfl) (fun _ _ g => g))
    go_wp2
    refine bodyPost_ret (v := .agg #[.slice ar 1 cr,.slice ah 4 ch,.int .i64 16]) (by simp [results,Tryz.results31,go_sem,y0,y1,y2,hwl]) rfl (HFIN.out _ _ _ _ a1 a2 a3 a4 c1 c2 c3 c4 _ ?_ ?_ h3 ?_)
    · exact AW.Own.has (HKU.out.row HO.out (fun b hb e => by have := (HO.out.lt b hb).1;simp at this;omega))
    · exact hasH_set HH.out HX2.out (fun _ _ h => nomatch h) (fun _ _ h => nomatch h) (fun b j v hne hc => HKU.out.cell hc hne) HKU.out.size
    · exact GK.Kp.below HB2.out HKU.out HB2.out.size (fun b hb => by rw [hb];exact Nat.le_refl _)
end GB
namespace GH
open Go.RowKit GK
open GW (cellPr cellWd cellPr_len cellWd_len)
open FW (hideC add_below)
open GF (blk)
def OutFl (w : World) (r : FM.Fl × Int) (e : Ending) (w' : World) : Prop := ∃ az cs ar cr ao co,e = .returned (.tuple #[.agg (FW.flCells r.1 az ar ao cs cr co),.int .i64 r.2]) /\ (∀ V,Kp (fun b => b < w.heap.size) w' V -> FW.HasFl V r.1 az ar ao) /\ Below w.heap.size w w'
theorem has_fl0 (w : World) : FW.HasFl w fl0 none none none := ⟨fun h => absurd h (Nat.not_lt_zero _),fun h => absurd h (Nat.not_lt_zero _),fun h => absurd h (Nat.not_lt_zero _)⟩
theorem kp_set4 (w : World) (g : Nat) (v0 v1 v2 v3 : Value) : Kp (fun b => b = g) w ((((w.setCell ⟨g,0,none⟩ v0).setCell ⟨g,1,none⟩ v1).setCell ⟨g,2,none⟩ v2).setCell ⟨g,3,none⟩ v3) :=
 (kp_set3 (D := fun b => b = g) w g 0 1 2 v0 v1 v2 rfl).trans (Kp.set (fun b => b = g) _ ⟨g,3,none⟩ v3 rfl) (fun _ _ h => h)
theorem grp_made {lo mb : Nat} {w2 w3 w4 : World} {v : Value} {L : List GF.Lc} {f : FM.Fl} {vr vo : Value} (hm : GF.Mem lo mb w2 (fun b => lo <= b /\ b < w2.heap.size) f.slots v L f.spaces) (h23 : Below w2.heap.size w2 w3) (hr : w3.ownsRow w2.heap.size 70 13 vr f.procs.length (f.procs.flatMap cellPr)) (h34 : Below w3.heap.size w3 w4) (ho : w4.ownsRow w3.heap.size 78 2 vo f.out.length (f.out.flatMap cellWd)) :
  GW.Grp (GF.HdF lo mb) lo mb w4.heap.size (w4.alloc (.cells #[.iface 144 (.pointer (some ⟨mb,0,none⟩)),vr,vo] 151)) (fun b => lo <= b /\ b < w2.heap.size) vr vo (ofFl f) := by
 have hlo : lo <= w2.heap.size := by have := hm.base;have := B.isLt hm.head;omega
 have s23 := h23.size
 have s34 := h34.size
 have hA : Below w4.heap.size w4 (w4.alloc (.cells #[.iface 144 (.pointer (some ⟨mb,0,none⟩)),vr,vo] 151)) := (Below.refl _ _).alloc (Nat.le_refl _) _
 have h2A : Below w2.heap.size w2 (w4.alloc (.cells #[.iface 144 (.pointer (some ⟨mb,0,none⟩)),vr,vo] 151)) := (h23.trans (h34.mono s23)).trans (hA.mono (by omega))
 have hr4 := Kp.row (Kp.ofBelow (D := fun _ => False) h34) hr (fun _ _ g => g)
 have lr : ∀ b,blk vr b -> w2.heap.size <= b /\ b < w3.heap.size := fun b hb => hr.lt b hb
 have lw : ∀ b,blk vo b -> w3.heap.size <= b /\ b < w4.heap.size := fun b hb => ho.lt b hb
 refine ⟨B.new w4 _ _,⟨⟨v,L,hm.below h2A⟩,fun b hb => ⟨hb.1,Nat.lt_of_lt_of_le hb.2 h2A.size⟩⟩,?_,?_,by omega,fun g => by have := g.2;omega,fun g => by have := lr _ g;omega,fun g => by have := lw _ g;omega,fun b hb g => by have := lr b hb;have := g.2;omega,fun b hb g => by have := lw b hb;have := g.2;omega,fun b hb g => by have := lr b hb;have := lw b g;omega⟩
 · exact row_base (Kp.row (Kp.ofBelow (D := fun _ => False) hA) hr4 (fun _ _ g => g)) (fun g hg => by have := lr g hg;omega)
 · exact row_base (Kp.row (Kp.ofBelow (D := fun _ => False) hA) ho (fun _ _ g => g)) (fun g hg => by have := lw g hg;omega)
end GH
end Go.Proofs.YtkdigjpejnebkaaGreat
