import Derived.Test.YtkdigjpejnebkaaGreatGS46
import Derived.Test.YtkdigjpejnebkaaGreatGS48
import Derived.Test.YtkdigjpejnebkaaGreatGS38
set_option linter.unusedVariables false
set_option maxRecDepth 100000
set_option linter.unusedSimpArgs false
namespace Go.Proofs.YtkdigjpejnebkaaGreat
namespace GB
open Go.RowKit
open FW (hideC add_below)
def rowC : Array Value:=#[.int .i64 16,.int .i64 0,.int .i64 0,.int .i64 0,.int .i64 5,.int .i64 11,.int .i64 1,.int .i64 0,.int .i64 0,.int .i64 40,.int .i64 10,.int .i64 0,.int .i64 1,.int .i64 8,.int .i64 0,.int .i64 9,.int .i64 0,.int .i64 1,.int .i64 1,.int .i64 0,.int .i64 16,.int .i64 0,.int .i64 0,.int .i64 0,.int .i64 1,.int .i64 16,.int .i64 0,.int .i64 0,.int .i64 0,.int .i64 6]
theorem row_cell {V : World} {rb : Nat} (h : V.heap[rb]? = some (.cells rowC 99 (0,0))) (k : Nat) (hk : k < 6) :
  V.cell? ⟨rb,k * 5,none⟩ = some (.int .i64 (cis.getD k i0).op) /\ V.cell? ⟨rb,k * 5 + 1,none⟩ = some (.int .i64 (cis.getD k i0).a) /\ V.cell? ⟨rb,k * 5 + 2,none⟩ = some (.int .i64 (cis.getD k i0).b) /\ V.cell? ⟨rb,k * 5 + 3,none⟩ = some (.int .i64 (cis.getD k i0).c) /\ V.cell? ⟨rb,k * 5 + 4,none⟩ = some (.int .i64 (cis.getD k i0).m):=by
 match k,hk with
 | 0,_=>exact ⟨B.cell h 0 rfl,B.cell h 1 rfl,B.cell h 2 rfl,B.cell h 3 rfl,B.cell h 4 rfl⟩
 | 1,_=>exact ⟨B.cell h 5 rfl,B.cell h 6 rfl,B.cell h 7 rfl,B.cell h 8 rfl,B.cell h 9 rfl⟩
 | 2,_=>exact ⟨B.cell h 10 rfl,B.cell h 11 rfl,B.cell h 12 rfl,B.cell h 13 rfl,B.cell h 14 rfl⟩
 | 3,_=>exact ⟨B.cell h 15 rfl,B.cell h 16 rfl,B.cell h 17 rfl,B.cell h 18 rfl,B.cell h 19 rfl⟩
 | 4,_=>exact ⟨B.cell h 20 rfl,B.cell h 21 rfl,B.cell h 22 rfl,B.cell h 23 rfl,B.cell h 24 rfl⟩
 | 5,_=>exact ⟨B.cell h 25 rfl,B.cell h 26 rfl,B.cell h 27 rfl,B.cell h 28 rfl,B.cell h 29 rfl⟩
 | k + 6,h=>exact absurd h (by omega)
def OutC (w : World) (e : Ending) (w' : World) : Prop:=∃ ar cr ah ch a1 a2 a3 a4 c1 c2 c3 c4,e = .returned (.agg #[.slice ar 1 cr,.slice ah 4 ch,.int .i64 16]) /\ AW.Has w' (.slice ar 1 cr) cntA /\ LM.HasH w' ah (cntH a1 a2 a3 a4 c1 c2 c3 c4) /\ 4 <= ch /\ Below w.heap.size w w'
theorem out_of {a : M.At} {w w' : World} {e : Ending} (h : LW.OutL [⟨cntI,a⟩] w e w') : ∃ ar cr ah ch a1 a2 a3 a4 c1 c2 c3 c4,e = .returned (.tuple #[.agg #[.slice ar 1 cr,.slice ah 4 ch,.int .i64 16],.int .i64 0]) /\ AW.Own w.heap.size w' (.slice ar 1 cr) cntA /\ LM.HasH w' ah (cntH a1 a2 a3 a4 c1 c2 c3 c4) /\ 4 <= ch /\ Below w.heap.size w w':=by
 obtain ⟨hb,h2⟩:=h
 rw [if_pos (cnt_err a)] at h2
 obtain ⟨ix,E,r,hs,ao,cap,h3,h4,h5,h6,h7,h8,h9⟩:=h2
 rw [cnt_gat] at h3
 injection h3 with h3
 subst h3
 rw [cnt_obs] at h4 h6 h7
 rw [cnt_sheets] at h4
 injection h4 with h4
 subst h4
 rw [cnt_areas] at h7
 rw [cnt_entry] at h6
 obtain ⟨a1,a2,a3,a4,c1,c2,c3,c4,rfl⟩:=cnt_of h5
 obtain ⟨ar,cr,hr,_⟩:=LW.own_slice h7
 subst hr
 exact ⟨ar,cr,ao,cap,a1,a2,a3,a4,c1,c2,c3,c4,h6,h7,h8,h9,hb⟩
theorem hasH_set {V U : World} {g : Nat} {x y : Value} {n : Int} {ah : Option Addr} {a1 a2 a3 a4 : Option Addr} {c1 c2 c3 c4 : Nat} (h : LM.HasH V ah (cntH a1 a2 a3 a4 c1 c2 c3 c4)) (hg : V.heap[g]? = some (.cells #[x,y,.int .i64 n] 25 (0,0))) (hx : ∀ k i,x ≠ .int k i) (hy : ∀ k i,y ≠ .int k i) (hk : ∀ b j v,b ≠ g -> V.cell? ⟨b,j,none⟩ = some v -> U.cell? ⟨b,j,none⟩ = some v) (hs : V.heap.size <= U.heap.size) : LM.HasH U ah (cntH a1 a2 a3 a4 c1 c2 c3 c4):=fun hl=>by
 obtain ⟨b,off,rfl,hb,hlie⟩:=h hl
 have hne : b ≠ g:=fun e=>by
  subst e
  obtain ⟨d0,d1,_,_⟩:=hlie 0 (by unfold cntH;simp)
  rw [Nat.zero_mul,Nat.add_zero] at d0 d1
  match off,d0,d1 with
  | 0,d0,_ =>
   rw [B.cell hg 0 (v:=x) rfl] at d0
   injection d0 with d0
   exact hx _ _ d0
  | 1,d0,_ =>
   rw [B.cell hg 1 (v:=y) rfl] at d0
   injection d0 with d0
   exact hy _ _ d0
  | 2,_,d1 =>
   have : V.cell? ⟨b,3,none⟩ = none:=by simp [World.cell?,hg]
   rw [this] at d1
   cases d1
  | k + 3,d0,_ =>
   have : V.cell? ⟨b,k + 3,none⟩ = none:=by simp [World.cell?,hg]
   rw [this] at d0
   cases d0
 refine ⟨b,off,rfl,by omega,fun i hi=>?_⟩
 obtain ⟨d0,d1,d2,_⟩:=hlie i hi
 refine ⟨hk _ _ _ hne d0,hk _ _ _ hne d1,hk _ _ _ hne d2,fun h0=>?_⟩
 exfalso
 match i,hi,h0 with
 | 0,_,h0=>exact Nat.not_lt_zero _ h0
 | 1,_,h0=>exact Nat.not_lt_zero _ h0
 | 2,_,h0=>exact Nat.not_lt_zero _ h0
 | 3,_,h0=>exact Nat.not_lt_zero _ h0
 | i + 4,h,_=>exact absurd h (by unfold cntH;simp)
set_option maxHeartbeats 4000000 in
theorem count_any (w : World) : Calls Tryz.prog 31 #[] w (OutC w):=by
 have HFIN : Hid (∀ ar cr ah ch a1 a2 a3 a4 c1 c2 c3 c4 (w' : World),AW.Has w' (.slice ar 1 cr) cntA -> LM.HasH w' ah (cntH a1 a2 a3 a4 c1 c2 c3 c4) -> 4 <= ch -> Below w.heap.size w w' -> OutC w (.returned (.agg #[.slice ar 1 cr,.slice ah 4 ch,.int .i64 16])) w'):=fun ar cr ah ch a1 a2 a3 a4 c1 c2 c3 c4 w' h1 h2 h3 h4=>⟨ar,cr,ah,ch,a1,a2,a3,a4,c1,c2,c3,c4,rfl,h1,h2,h3,h4⟩
 obtain ⟨P,hP⟩ : ∃ P,P = OutC w:=⟨_,rfl⟩
 rw [<- hP] at HFIN ⊢
 clear hP
 have HIN : Hid (∀ (i : PM.Ins) V,Calls Tryz.prog 71 #[.agg #[.int .i64 i.op,.int .i64 i.a,.int .i64 i.b,.int .i64 i.c,.int .i64 i.m]] V fun e w'=>e = .returned (.string i.bytes) /\ Below V.heap.size V w'):=fun i V=>PW.instr_any i V
 have HST : Hid (∀ k,insTo (k + 1) = insTo k ++ (cis.getD k i0).bytes):=fun k=>rfl
 have HSZ:=hideC insTo_size
 have HLK : Hid (∀ wb V,V.heap[wb]? = some (.cells #[.int .i64 0,.int .i64 4,.string cntD,.bool true,.bool true] 129 (0,0)) -> Calls Tryz.prog 72 #[.agg #[.string ⟨#[116]⟩,.slice none 0 0,.slice (some ⟨wb,0,none⟩) 1 1,.slice none 0 0,.slice none 0 0,.int .i64 0],.slice none 0 0] V fun e w'=>∃ ar cr ah ch a1 a2 a3 a4 c1 c2 c3 c4,e = .returned (.tuple #[.agg #[.slice ar 1 cr,.slice ah 4 ch,.int .i64 16],.int .i64 0]) /\ AW.Own V.heap.size w' (.slice ar 1 cr) cntA /\ LM.HasH w' ah (cntH a1 a2 a3 a4 c1 c2 c3 c4) /\ 4 <= ch /\ Below V.heap.size V w'):=fun wb V hV=>by
  have him : M.HasIm V ⟨none,0,some ⟨wb,0,none⟩,1,none,0,none,0⟩ cntI:=⟨fun h=>absurd h (Nat.not_lt_zero _),fun _=>⟨wb,0,rfl,B.isLt hV,fun i hi=>by
   obtain rfl : i = 0:=by
    have : i < 1:=hi
    omega
   exact ⟨B.cell hV 0 rfl,B.cell hV 1 rfl,B.cell hV 2 rfl,B.cell hV 3 rfl,B.cell hV 4 rfl⟩⟩,fun h=>absurd h (Nat.not_lt_zero _),fun h=>absurd h (Nat.not_lt_zero _)⟩
  refine (LW.link_with ⟨cntI,⟨none,0,some ⟨wb,0,none⟩,1,none,0,none,0⟩⟩ [] none 0 V him (fun h=>absurd h (by simp)) cnt_fit ⟨by unfold M.Short;decide,fun k hk=>absurd hk (by simp)⟩ (fun k hk U hU=>?_) (fun m D U hG=>?_) (fun ix ao cap k U hk=>?_)).mono fun e w' h=>out_of h
  · obtain rfl : k = 0:=by
     have : k < 1:=hk
     omega
    refine (W.check0 ⟨#[116]⟩ [⟨0,4,cntD,true,true⟩] 0 none (some ⟨wb,0,none⟩) none none 0 1 0 0 U (him.below hU) cnt_fit (by kernel_rfl) (by kernel_rfl) (by kernel_rfl) (by kernel_rfl) (by kernel_rfl)).mono ?_
    rintro e w' ⟨rfl,hb⟩
    exact ⟨by rw [show M.chkN (LM.liAt [⟨cntI,⟨none,0,some ⟨wb,0,none⟩,1,none,0,none,0⟩⟩] 0).i = 0 by kernel_rfl],hb⟩
  · rw [cnt_gat]
    exact LW.gather0 _ m U rfl (hG.im 0 hG.pos)
  · refine LW.patches0 _ ao cap _ U ?_
    rw [LM.obsFrom_length] at hk
    rw [(LM.obsFrom_at _ ix 1 k hk).1]
    cases ix.getD k 0 <;> rfl
 have HDD : Hid (insTo 6 = cntD):=insTo_all
 obtain ⟨D,hD⟩ : ∃ D,D = cntD:=⟨_,rfl⟩
 rw [<- hD] at HLK HDD
 clear hD
 have HB0:=hideC (((Below.refl w.heap.size w).alloc (Nat.le_refl _) (.cells #[.slice none 0 0,.slice none 0 0,.int .i64 0] 25)).alloc (by simp) (.cells rowC 99))
 have X0:=hideC (B.alloc (B.new w #[.slice none 0 0,.slice none 0 0,.int .i64 0] 25) (.cells rowC 99))
 have R0 : Hid (((w.alloc (.cells #[.slice none 0 0,.slice none 0 0,.int .i64 0] 25)).alloc (.cells rowC 99)).heap[w.heap.size + 1]? = some (.cells rowC 99 (0,0))):=by
  have:=B.new (w.alloc (.cells #[.slice none 0 0,.slice none 0 0,.int .i64 0] 25)) rowC 99
  rw [World.size_alloc] at this
  exact this
 go_enter Tryz.func31,Tryz.ntmps31
 go_wp2
 obtain ⟨WA,hWA⟩ : ∃ WA,WA = (w.alloc (.cells #[.slice none 0 0,.slice none 0 0,.int .i64 0] 25)).alloc (.cells rowC 99):=⟨_,rfl⟩
 have hWA':=hWA
 unfold rowC at hWA'
 rw [<- hWA']
 rw [<- hWA] at HB0 X0 R0
 clear hWA hWA'
 obtain ⟨rb,hrb⟩ : ∃ rb,rb = w.heap.size + 1:=⟨_,rfl⟩
 rw [<- hrb] at R0 ⊢
 have HRB:=hideC hrb
 clear hrb
 go_loopw [1,3] (fun sv iv wr=>∃ k : Nat,k <= 6 /\ iv = .int .i64 (k : Int) /\ sv = .string (insTo k) /\ wr.heap[rb]? = some (.cells rowC 99 (0,0)) /\ wr.heap[w.heap.size]? = some (.cells #[.slice none 0 0,.slice none 0 0,.int .i64 0] 25 (0,0)) /\ Below w.heap.size w wr) (fun _ iv _=>6 - (intOf iv).toNat)
 case atStart=>exact ⟨0,by omega,rfl,rfl,R0.out,X0.out,HB0.out⟩
 case round =>
  obtain ⟨k,hk,rfl,rfl,hr,hx,hb⟩:=hrel
  have HR:=hideC hr
  have HX:=hideC hx
  have HB:=hideC hb
  clear R0 X0 HB0
  by_cases hlt : k < 6
  · obtain ⟨c0,c1,c2,c3,c4⟩:=row_cell hr k hlt
    have hs:=HSZ.out k
    have HS:=hideC (HST.out k)
    have hz : (cis.getD k i0).bytes.size = 8:=PM.bytes_size _
    have HI2:=hideC (HIN.out (cis.getD k i0))
    obtain ⟨i,hi⟩ : ∃ i,i = cis.getD k i0:=⟨_,rfl⟩
    rw [<- hi] at c0 c1 c2 c3 c4 HS hz HI2
    obtain ⟨Z,hZ⟩ : ∃ Z,Z = insTo k:=⟨_,rfl⟩
    obtain ⟨Y,hY⟩ : ∃ Y,Y = i.bytes:=⟨_,rfl⟩
    rw [<- hZ] at hs HS ⊢
    rw [<- hY] at hz HS HI2
    have hki : (k : Int) < 6:=by omega
    clear hi hZ hY hr hx hb
    go_wp2_with (go_at_call 71;refine (HI2.out _).mono ?_;rintro e w1 ⟨rfl,hb1⟩;have HB1:=hideC (HB.out.trans (hb1.mono HB.out.size));have HR1:=hideC (B.below HR.out hb1 (B.isLt HR.out));have HX1:=hideC (B.below HX.out hb1 (B.isLt HX.out));clear hb1)
    go_roundw
    case rel=>exact ⟨k + 1,by omega,by go_num,by rw [HS.out],HR1.out,HX1.out,HB1.out⟩
    case measure=>simp [intOf];omega
  · obtain rfl : k = 6:=by omega
    rw [HDD.out]
    have hxlt:=B.isLt hx
    clear hr hx hb HST HSZ HIN
    go_wp2_with fail
    have HBS:=hideC (HB.out.alloc HB.out.size (.cells #[.int .i64 0,.int .i64 4,.string D,.bool true,.bool true] 129))
    have HXS:=hideC (B.alloc HX.out (.cells #[.int .i64 0,.int .i64 4,.string D,.bool true,.bool true] 129))
    have HLS:=hideC (HLK.out wr.heap.size _ (B.new wr #[.int .i64 0,.int .i64 4,.string D,.bool true,.bool true] 129))
    go_at_call 72
    refine HLS.out.mono ?_
    rintro e w2 ⟨ar,cr,ah,ch,a1,a2,a3,a4,c1,c2,c3,c4,rfl,h1,h2,h3,h4⟩
    have HO:=hideC h1
    have HH:=hideC h2
    have HX2:=hideC (B.below HXS.out h4 (B.isLt HXS.out))
    have HB2:=hideC (HBS.out.trans (h4.mono HBS.out.size))
    have hcl:=h4.size
    clear h1 h2 h4 HLS HLK HDD HXS
    have HX3:=hideC (B.alloc HX2.out (.cells #[.slice ar 1 cr,.slice ah 4 ch,.int .i64 16] 25))
    have y0:=B.cell HX3.out 0 rfl
    have y1:=B.cell HX3.out 1 rfl
    have y2:=B.cell HX3.out 2 rfl
    have yf:=B.free HX3.out
    have hwl:=B.isLt HX3.out
    have HK1 : Hid (GK.Kp (fun b=>b = w.heap.size) w2 (w2.alloc (.cells #[.slice ar 1 cr,.slice ah 4 ch,.int .i64 16] 25))):=GK.Kp.alloc _ w2 _
    have HKU:=hideC (HK1.out.trans (GK.kp_set3 (D:=fun b=>b = w.heap.size) _ w.heap.size 0 1 2 (.slice ar 1 cr) (.slice ah 4 ch) (.int .i64 16) rfl) (fun _ _ g=>g))
    go_wp2
    refine bodyPost_ret (v:=.agg #[.slice ar 1 cr,.slice ah 4 ch,.int .i64 16]) (by simp [results,Tryz.results31,go_sem,y0,y1,y2,hwl]) rfl (HFIN.out _ _ _ _ a1 a2 a3 a4 c1 c2 c3 c4 _ ?_ ?_ h3 ?_)
    · exact AW.Own.has (HKU.out.row HO.out (fun b hb e=>by have:=(HO.out.lt b hb).1;simp at this;omega))
    · exact hasH_set HH.out HX2.out (fun _ _ h=>nomatch h) (fun _ _ h=>nomatch h) (fun b j v hne hc=>HKU.out.cell hc hne) HKU.out.size
    · exact GK.Kp.below HB2.out HKU.out HB2.out.size (fun b hb=>by rw [hb];exact Nat.le_refl _)
end GB
namespace GH
open Go.RowKit GK
open GW (cellPr cellWd cellPr_len cellWd_len)
open FW (hideC add_below)
open GF (blk)
set_option maxHeartbeats 8000000 in
theorem changedR_any (f : FM.Fl) (r : Int × Option (GG.St GM.Mf)) (q : Nat) (az ar ao : Option Addr) (cs cr co : Nat) (w : World) (h : FW.HasFl w f az ar ao) (hf : FW.FitFl f) (hr : r.1 = 0 -> ∃ s,r.2 = some s)
  (hc : FM.checkF f = 0 -> ∀ (V : World) (lo mb gb : Nat) (D : Nat -> Prop) (vr vo : Value),Below w.heap.size w V -> w.heap.size <= lo -> GW.Grp (GF.HdF lo mb) lo mb gb V D vr vo (ofFl f) -> Calls Tryz.prog 58 #[.pointer (some ⟨gb,0,none⟩),.pointer (some ⟨q,0,none⟩)] V (GW.OutRun (GF.HdF lo mb) lo mb gb V D vr vo r)) :
  Calls Tryz.prog 44 #[.agg (FW.flCells f az ar ao cs cr co),.func (.func 58) #[] #[.pointer (some ⟨q,0,none⟩)]] w (OutFl w (changeF f r)):=by
 have HCK : Hid (∀ V,Below w.heap.size w V -> Calls Tryz.prog 12 #[.agg (FW.flCells f az ar ao cs cr co)] V fun e w'=>e = .returned (.int .i64 (FM.checkF f)) /\ Below V.heap.size V w'):=fun V hV=>FW.check_any f az ar ao cs cr co V (h.below hV) hf
 have HNM : Hid (FM.checkF f = 0 -> ∀ V,Below w.heap.size w V -> Calls Tryz.prog 78 #[.agg (FW.flCells f az ar ao cs cr co)] V (GF.OutMem V f.slots f.spaces)):=fun hk V hV=>by
  obtain ⟨c1,c2,c3,c4⟩:=counts_of hk
  obtain ⟨h1,h2⟩:=right_of hk
  unfold FM.rightSpaces at h1
  simp only [Bool.and_eq_true,decide_eq_true_eq,List.all_eq_true] at h1
  refine GF.newMemory_any f az ar ao cs cr co V (h.spaces.below hV) hf.spaces (by omega) (fun k hk=>?_)
  have hm : FM.spAt f.spaces k ∈ f.spaces:=by
   unfold FM.spAt
   rw [List.getD_eq_getElem?_getD,List.getElem?_eq_getElem hk]
   exact List.getElem_mem hk
  have hrs:=h1.1 _ hm
  cases hl : (FM.spAt f.spaces k).live with
  | true =>
   have hL:=GM.liv_of hrs hl
   have:=AM.good_len _ hL.check
   have:=GM.total_len hL
   have:=FW.total_bd (FM.spAt f.spaces k).areas
   omega
  | false =>
   unfold FM.rightSpace at hrs
   rw [hl] at hrs
   simp only [Bool.false_eq_true,if_false,Bool.and_eq_true,decide_eq_true_eq] at hrs
   omega
 have HPR : Hid (FM.checkF f = 0 -> ∀ V,Below w.heap.size w V -> Calls Tryz.prog 79 #[.slice ar f.procs.length cr] V fun e w'=>∃ a' c',e = .returned (.slice a' f.procs.length c') /\ w'.ownsRow V.heap.size 70 13 (.slice a' f.procs.length c') f.procs.length (f.procs.flatMap cellPr) /\ Below V.heap.size V w'):=fun hk V hV=>by
  obtain ⟨c1,c2,c3,c4⟩:=counts_of hk
  refine (clonePr ar f.procs.length cr (f.procs.flatMap cellPr) V (rows_length cellPr 13 cellPr_len _) ((pr_from h.procs).below hV) (pr_one _) (by omega)).mono ?_
  rintro e w' ⟨v,rfl,h1,h2⟩
  obtain ⟨a',c',rfl,_,_⟩:=row_form h1
  exact ⟨a',c',rfl,h1,h2⟩
 have HWD : Hid (FM.checkF f = 0 -> ∀ V,Below w.heap.size w V -> Calls Tryz.prog 80 #[.slice ao f.out.length co] V fun e w'=>∃ a' c',e = .returned (.slice a' f.out.length c') /\ w'.ownsRow V.heap.size 78 2 (.slice a' f.out.length c') f.out.length (f.out.flatMap cellWd) /\ Below V.heap.size V w'):=fun hk V hV=>by
  obtain ⟨c1,c2,c3,c4⟩:=counts_of hk
  refine (cloneWd ao f.out.length co (f.out.flatMap cellWd) V (rows_length cellWd 2 cellWd_len _) ((wd_from h.out).below hV) (wd_one _) (by omega)).mono ?_
  rintro e w' ⟨v,rfl,h1,h2⟩
  obtain ⟨a',c',rfl,_,_⟩:=row_form h1
  exact ⟨a',c',rfl,h1,h2⟩
 have HC:=hideC hc
 have HR:=hideC hr
 obtain ⟨ck,hck⟩ : ∃ ck,ck = FM.checkF f:=⟨_,rfl⟩
 have HCF : Hid (changeF f r = if ¬ ck = 0 then (fl0,ck) else if ¬ r.1 = 0 then (fl0,r.1) else match r.2 with | none=>(fl0,r.1) | some s=>(toFl s,0)):=by rw [hck];exact rfl
 rw [<- hck] at HCK HNM HPR HWD HC
 obtain ⟨R,hR⟩ : ∃ R,R = changeF f r:=⟨_,rfl⟩
 rw [<- hR] at HCF ⊢
 obtain ⟨P,hP⟩ : ∃ P,P = OutFl w R:=⟨_,rfl⟩
 have HP : Hid (∀ e w',OutFl w R e w' -> P e w'):=fun e w' h=>by rw [hP];exact h
 rw [<- hP]
 unfold FW.flCells at HCK HNM ⊢
 have HOF : Hid (ofFl f = ⟨⟨f.slots,f.spaces⟩,f.procs,f.out⟩):=rfl
 obtain ⟨ns,hns⟩ : ∃ ns,ns = f.spaces.length:=⟨_,rfl⟩
 obtain ⟨np,hnp⟩ : ∃ np,np = f.procs.length:=⟨_,rfl⟩
 obtain ⟨no,hno⟩ : ∃ no,no = f.out.length:=⟨_,rfl⟩
 obtain ⟨sl,hsl⟩ : ∃ sl,sl = f.slots:=⟨_,rfl⟩
 rw [<- hns,<- hnp,<- hno,<- hsl] at HCK HNM ⊢
 rw [<- hnp] at HPR
 rw [<- hno] at HWD
 have HNP:=hideC hnp
 have HNO:=hideC hno
 have HSL:=hideC hsl
 have HBX:=hideC (((Below.refl w.heap.size w).alloc (Nat.le_refl _) (.cells #[.int .i64 sl,.slice az ns cs,.slice ar np cr,.slice ao no co] 30)).alloc (by simp) (.cells #[.int .i64 0,.slice none 0 0,.slice none 0 0,.slice none 0 0] 30))
 have BX:=hideC (B.alloc (B.new w #[.int .i64 sl,.slice az ns cs,.slice ar np cr,.slice ao no co] 30) (.cells #[.int .i64 0,.slice none 0 0,.slice none 0 0,.slice none 0 0] 30))
 have BZ:=hideC (B.new (w.alloc (.cells #[.int .i64 sl,.slice az ns cs,.slice ar np cr,.slice ao no co] 30)) #[.int .i64 0,.slice none 0 0,.slice none 0 0,.slice none 0 0] 30)
 clear h hf hc hr hck hR hP hns hnp hno hsl
 go_enter Tryz.func44,Tryz.ntmps44
 go_wp2_with fail
 obtain ⟨WA,hWA⟩ : ∃ WA,WA = (w.alloc (.cells #[.int .i64 sl,.slice az ns cs,.slice ar np cr,.slice ao no co] 30)).alloc (.cells #[.int .i64 0,.slice none 0 0,.slice none 0 0,.slice none 0 0] 30):=⟨_,rfl⟩
 have hsz1 : (w.alloc (.cells #[.int .i64 sl,.slice az ns cs,.slice ar np cr,.slice ao no co] 30)).heap.size = w.heap.size + 1:=by simp
 rw [hsz1] at BZ
 rw [<- hWA] at HBX BX BZ ⊢
 obtain ⟨x,hxe⟩ : ∃ x,x = w.heap.size:=⟨_,rfl⟩
 obtain ⟨z,hze⟩ : ∃ z,z = w.heap.size + 1:=⟨_,rfl⟩
 rw [<- hze] at BZ ⊢
 rw [<- hxe] at BX ⊢
 have HXE:=hideC hxe
 have HZE:=hideC hze
 have hxz : ¬ x = z:=by omega
 have hzx : ¬ z = x:=by omega
 have HSZ : Hid (∀ V,Below WA.heap.size WA V -> V.heap[z]? = some (.cells #[.int .i64 0,.slice none 0 0,.slice none 0 0,.slice none 0 0] 30 (0,0))):=fun V hb=>B.below BZ.out hb (B.isLt BZ.out)
 have HSX : Hid (∀ V,Below WA.heap.size WA V -> V.cell? ⟨x,0,none⟩ = some (.int .i64 sl) /\ V.cell? ⟨x,1,none⟩ = some (.slice az ns cs) /\ V.cell? ⟨x,2,none⟩ = some (.slice ar np cr) /\ V.cell? ⟨x,3,none⟩ = some (.slice ao no co)):=fun V hb=>by
  have h1:=B.below BX.out hb (B.isLt BX.out)
  exact ⟨B.cell h1 0 rfl,B.cell h1 1 rfl,B.cell h1 2 rfl,B.cell h1 3 rfl⟩
 have HZC : Hid (∀ V,Below WA.heap.size WA V -> (V.cell? ⟨z,0,none⟩ = some (.int .i64 0) /\ V.cell? ⟨z,1,none⟩ = some (.slice none 0 0) /\ V.cell? ⟨z,2,none⟩ = some (.slice none 0 0) /\ V.cell? ⟨z,3,none⟩ = some (.slice none 0 0)) /\ V.frozen? ⟨z,0,none⟩ = false /\ V.frozen? ⟨z,1,none⟩ = false /\ V.frozen? ⟨z,2,none⟩ = false /\ V.frozen? ⟨z,3,none⟩ = false):=fun V hb=>by
  have h1:=HSZ.out V hb
  exact ⟨⟨B.cell h1 0 rfl,B.cell h1 1 rfl,B.cell h1 2 rfl,B.cell h1 3 rfl⟩,B.free h1 0,B.free h1 1,B.free h1 2,B.free h1 3⟩
 have hzWA:=B.isLt BZ.out
 have HWZ : Hid (w.heap.size <= z):=(by rw [hze];omega : w.heap.size <= z)
 clear hWA hsz1 hxe hze BX BZ
 refine (HCK.out _ HBX.out).mono ?_
 rintro e w1 ⟨rfl,hb1⟩
 have HB1:=hideC hb1
 obtain ⟨⟨z0,z1,z2,z3⟩,f0,f1,f2,f3⟩:=HZC.out _ hb1
 obtain ⟨x0,x1,x2,x3⟩:=HSX.out _ hb1
 clear hb1 HCK
 by_cases hk0 : ck = 0
 · subst hk0
   have HC1:=hideC (HC.out rfl)
   have HNM1:=hideC (HNM.out rfl)
   have HPR1:=hideC (HPR.out rfl)
   have HWD1:=hideC (HWD.out rfl)
   have HCF1 : Hid (R = if ¬ r.1 = 0 then (fl0,r.1) else match r.2 with | none=>(fl0,r.1) | some s=>(toFl s,0)):=by rw [HCF.out,if_neg (fun g=>g rfl)];exact rfl
   clear HC HNM HPR HWD HCF
   go_wp2_with (go_at_call 78;refine (HNM1.out _ (HBX.out.trans (HB1.out.mono HBX.out.size))).mono ?_;rintro e w2 ⟨mb,v,L,rfl,hm,hb2⟩;have HM2:=hideC hm;have HB2:=hideC hb2;clear hm hb2)
   have HKW2:=hideC (HB1.out.trans (HB2.out.mono HB1.out.size))
   have HK2:=hideC HKW2.out.drew
   have HS0:=hideC ((HSX.out _ HK2.out).2.2)
   clear x0 x1 x2 x3 z0 z1 z2 z3 f0 f1 f2 f3
   go_cut [8] (fun x8 wx=>∃ gb D vr vo,x8 = .pointer (some ⟨gb,0,none⟩) /\ GW.Grp (GF.HdF w1.heap.size mb) w1.heap.size mb gb wx D vr vo (ofFl f) /\ Below WA.heap.size WA wx)
   case first =>
    go_region_held3 (fun V=>V.cell? ⟨x,2,none⟩ = some (.slice ar np cr) /\ V.cell? ⟨x,3,none⟩ = some (.slice ao no co)) (first | exact HS4.out | exact HS3.out | exact HS0.out | exact (HSX.out _ (HK4.out.alloc HK4.out.size _)).2.2)
     (first
      | (go_at_call 79;refine (HPR1.out _ (HBX.out.trans (HK2.out.mono HBX.out.size))).mono ?_;rintro e w3 ⟨a3,c3,rfl,ho3,hb3⟩;have HO3:=hideC ho3;have HB3:=hideC hb3;have HK3:=hideC (HK2.out.trans (hb3.mono HK2.out.size));have HS3:=hideC ((HSX.out _ HK3.out).2.2);clear ho3 hb3)
      | (go_at_call 80;refine (HWD1.out _ (HBX.out.trans (HK3.out.mono HBX.out.size))).mono ?_;rintro e w4 ⟨a4,c4,rfl,ho4,hb4⟩;have HO4:=hideC ho4;have HB4:=hideC hb4;have HK4:=hideC (HK3.out.trans (hb4.mono HK3.out.size));have HS4:=hideC ((HSX.out _ HK4.out).2.2);clear ho4 hb4))
    all_goals
     go_wp2_with fail
     go_meet
     case rel =>
      refine ⟨_,_,_,_,rfl,grp_made (by rw [<- HSL.out];exact HM2.out) ((Below.refl _ _).drew.trans HB3.out) ?_ HB4.out ?_,HK4.out.alloc HK4.out.size _⟩
      · rw [<- HNP.out];exact HO3.out
      · rw [<- HNO.out];exact HO4.out
   case rest =>
    obtain ⟨gb,D,vr,vo,rfl,hg,hbc⟩:=hcut
    have HG:=hideC hg
    have HBC:=hideC hbc
    have HWB:=hideC (HBX.out.trans (hbc.mono HBX.out.size))
    have HLO : Hid (w.heap.size <= w1.heap.size):=(by have:=HBX.out.size;have:=HB1.out.size;omega : w.heap.size <= w1.heap.size)
    have HCC:=hideC (HC1.out wc w1.heap.size mb gb D vr vo HWB.out HLO.out hg)
    have HGL:=hideC (fun b=>GW.Grp.lt (GF.memC w1.heap.size mb) hg b)
    clear hg hbc HC1 HNM1 HPR1 HWD1 HM2 HB2 HKW2 HK2 HS0
    by_cases hr0 : r.1 = 0
    · obtain ⟨s,hs⟩:=HR.out hr0
      have HRE : Hid (R = (toFl s,0)):=by rw [HCF1.out,if_neg (fun g=>g hr0),hs];exact rfl
      have HC2 : Hid (Calls Tryz.prog 58 #[.pointer (some ⟨gb,0,none⟩),.pointer (some ⟨q,0,none⟩)] wc fun e w'=>e = .returned (.int .i64 0) /\ Below WA.heap.size WA w' /\ ∃ D' vr' vo',GW.Grp (GF.HdF w1.heap.size mb) w1.heap.size mb gb w' D' vr' vo' s):=HCC.out.mono fun e w' ⟨h1,h2,h3⟩=>by
       obtain ⟨D',vr',vo',hg',_,_⟩:=h3 s hs
       rw [hr0] at h1
       exact ⟨h1,Kp.below HBC.out h2 HBC.out.size (fun b hb=>Nat.le_trans HB1.out.size (HGL.out b hb).1),D',vr',vo',hg'⟩
      have HC3 : Hid (Calls Tryz.prog 58 #[.pointer (some ⟨gb,0,none⟩),.pointer (some ⟨q,0,none⟩)] wc fun e w'=>∃ a5 c5 a6 c6 a7 c7,e = .returned (.int .i64 0) /\ Below WA.heap.size WA w' /\ (w'.cell? ⟨mb,0,none⟩ = some (.int .i64 s.mem.slots) /\ w'.cell? ⟨mb,1,none⟩ = some (.slice a7 s.mem.spaces.length c7) /\ w'.cell? ⟨gb,1,none⟩ = some (.slice a5 s.ps.length c5) /\ w'.cell? ⟨gb,2,none⟩ = some (.slice a6 s.out.length c6)) /\ (¬ mb = z /\ ¬ gb = z) /\ ∀ V,Kp (fun b=>b <= z) w' V -> FW.HasFl V (toFl s) a7 a5 a6):=HC2.out.mono fun e w' ⟨h1,h2,D',vr',vo',hg⟩=>by
       obtain ⟨a5,c5,rfl,_,_⟩:=row_form hg.procs
       obtain ⟨a6,c6,rfl,_,_⟩:=row_form hg.outs
       obtain ⟨⟨v7,L7,hM⟩,hD⟩:=hg.mem
       obtain ⟨a7,c7,rfl,_⟩:=hM.has
       have hlz : z < w1.heap.size:=Nat.lt_of_lt_of_le hzWA HB1.out.size
       have hgl:=GW.Grp.lt (GF.memC w1.heap.size mb) hg
       refine ⟨a5,c5,a6,c6,a7,c7,h1,h2,⟨B.cell hM.head 0 rfl,B.cell hM.head 1 rfl,B.cell hg.head 1 rfl,B.cell hg.head 2 rfl⟩,⟨fun e=>by have:=hM.base;omega,fun e=>by have:=hg.base;omega⟩,fun V hV=>?_⟩
       have hMV:=hM.kp hV (fun b hb e=>by have:=(hD b hb).1;omega)
       obtain ⟨a8,c8,e8,h8⟩:=hMV.has
       injection e8 with e9 _ _
       subst e9
       exact ⟨h8,pr_has (hV.row hg.procs (fun b hb e=>by have:=(hgl b (.inr (.inr (.inl hb)))).1;omega)),wd_has (hV.row hg.outs (fun b hb e=>by have:=(hgl b (.inr (.inr (.inr hb)))).1;omega))⟩
      have HTF : Hid (toFl s = ⟨s.mem.slots,s.mem.spaces,s.ps,s.out⟩):=rfl
      obtain ⟨s0,hs0⟩ : ∃ s0,s0 = s.mem.slots:=⟨_,rfl⟩
      obtain ⟨s1,hs1⟩ : ∃ s1,s1 = s.mem.spaces.length:=⟨_,rfl⟩
      obtain ⟨s2,hs2⟩ : ∃ s2,s2 = s.ps.length:=⟨_,rfl⟩
      obtain ⟨s3,hs3⟩ : ∃ s3,s3 = s.out.length:=⟨_,rfl⟩
      rw [<- hs0,<- hs1,<- hs2,<- hs3] at HC3
      have HFC : Hid (∀ a7 c7 a5 c5 a6 c6,FW.flCells (toFl s) a7 a5 a6 c7 c5 c6 = #[.int .i64 s0,.slice a7 s1 c7,.slice a5 s2 c5,.slice a6 s3 c6]):=fun a7 c7 a5 c5 a6 c6=>by rw [hs0,hs1,hs2,hs3];rfl
      clear HCF1 HCC hs hr0 HR HC2 hs0 hs1 hs2 hs3 HGL HG
      go_wp2_with (go_at_call 58;refine HC3.out.mono ?_;rintro e w5 ⟨a5,c5,a6,c6,a7,c7,rfl,hb5,hcl,hnz,hfl⟩;have HB5:=hideC hb5;have HCL:=hideC hcl;have HFL:=hideC hfl;obtain ⟨⟨z0,z1,z2,z3⟩,f0,f1,f2,f3⟩:=HZC.out _ hb5;obtain ⟨nz1,nz2⟩:=hnz;clear hb5 hcl hfl)
      have HSE : Hid (∀ V,Kp (fun b=>b = z) w5 V -> V.cell? ⟨mb,0,none⟩ = some (.int .i64 s0) /\ V.cell? ⟨mb,1,none⟩ = some (.slice a7 s1 c7) /\ V.cell? ⟨gb,1,none⟩ = some (.slice a5 s2 c5) /\ V.cell? ⟨gb,2,none⟩ = some (.slice a6 s3 c6)):=fun V hV=>by
       obtain ⟨q0,q1,q2,q3⟩:=HCL.out
       exact ⟨hV.cell q0 nz1,hV.cell q1 nz1,hV.cell q2 nz2,hV.cell q3 nz2⟩
      go_region_held3 (fun V=>V.cell? ⟨mb,0,none⟩ = some (.int .i64 s0) /\ V.cell? ⟨mb,1,none⟩ = some (.slice a7 s1 c7) /\ V.cell? ⟨gb,1,none⟩ = some (.slice a5 s2 c5) /\ V.cell? ⟨gb,2,none⟩ = some (.slice a6 s3 c6)) (first | exact HCL.out | exact HSE.out _ ((kp_set4 w5 z _ _ _ _).trans (Kp.drew (fun b=>b = z) _) (fun _ _ g=>g))) (fail)
      all_goals
       go_wp2
       refine bodyPost_ret (v:=.tuple #[.agg #[.int .i64 s0,.slice a7 s1 c7,.slice a5 s2 c5,.slice a6 s3 c6],.int .i64 0]) (by simp [results,Tryz.results44,go_sem,z0,z1,z2,z3]) rfl ?_
       refine HP.out _ _ ?_
       rw [HRE.out]
       have hk4:=(kp_set4 w5 z (.int .i64 s0) (.slice a7 s1 c7) (.slice a5 s2 c5) (.slice a6 s3 c6)).trans (Kp.drew (fun b=>b = z) _) (fun _ _ g=>g)
       refine ⟨a7,c7,a5,c5,a6,c6,by rw [HFC.out],fun V hV=>HFL.out _ ((hk4.mono (fun b _ e=>Nat.le_of_eq e)).trans hV (fun b _ g=>Nat.le_of_lt (Nat.lt_of_lt_of_le g HWZ.out))),Kp.below (HBX.out.trans (HB5.out.mono HBX.out.size)) hk4 (Nat.le_trans HBX.out.size HB5.out.size) (fun b e=>by rw [e];exact HWZ.out)⟩
    · have HRE : Hid (R = (fl0,r.1)):=by rw [HCF1.out,if_pos hr0];exact rfl
      obtain ⟨rc,hrc⟩ : ∃ rc,rc = r.1:=⟨_,rfl⟩
      have HC2 : Hid (Calls Tryz.prog 58 #[.pointer (some ⟨gb,0,none⟩),.pointer (some ⟨q,0,none⟩)] wc fun e w'=>e = .returned (.int .i64 rc) /\ Below WA.heap.size WA w'):=HCC.out.mono fun e w' ⟨h1,h2,h3⟩=>by
       rw [<- hrc] at h1
       exact ⟨h1,Kp.below HBC.out h2 HBC.out.size (fun b hb=>Nat.le_trans HB1.out.size (HGL.out b hb).1)⟩
      have hki : (rc == 0) = false:=by rw [beq_eq_false_iff_ne,hrc];exact hr0
      rw [<- hrc] at HRE
      clear HCF1 HCC hr0 HR hrc
      go_wp2_with (go_at_call 58;refine HC2.out.mono ?_;rintro e w5 ⟨rfl,hb5⟩;have HB5:=hideC hb5;obtain ⟨⟨z0,z1,z2,z3⟩,f0,f1,f2,f3⟩:=HZC.out _ hb5;clear hb5)
      refine bodyPost_ret (v:=.tuple #[.agg #[.int .i64 0,.slice none 0 0,.slice none 0 0,.slice none 0 0],.int .i64 rc]) (by simp [results,Tryz.results44,go_sem,z0,z1,z2,z3]) rfl ?_
      refine HP.out _ _ ?_
      rw [HRE.out]
      exact ⟨none,0,none,0,none,0,rfl,fun V _=>has_fl0 V,Kp.below (HBX.out.trans (HB5.out.mono HBX.out.size)) (kp_set4 w5 z _ _ _ _) (Nat.le_trans HBX.out.size HB5.out.size) (fun b e=>by rw [e];exact HWZ.out)⟩
 · have HRE : Hid (R = (fl0,ck)):=by rw [HCF.out,if_pos hk0];exact rfl
   have hki : (ck == 0) = false:=by rw [beq_eq_false_iff_ne];exact hk0
   clear HCF hk0 HC HNM HPR HWD
   go_wp2
   refine bodyPost_ret (v:=.tuple #[.agg #[.int .i64 0,.slice none 0 0,.slice none 0 0,.slice none 0 0],.int .i64 ck]) (by simp [results,Tryz.results44,go_sem,z0,z1,z2,z3]) rfl ?_
   refine HP.out _ _ ?_
   rw [HRE.out]
   exact ⟨none,0,none,0,none,0,rfl,fun V _=>has_fl0 V,Kp.below (HBX.out.trans (HB1.out.mono HBX.out.size)) (kp_set4 w1 z _ _ _ _) (Nat.le_trans HBX.out.size HB1.out.size) (fun b e=>by rw [e];exact HWZ.out)⟩
end GH
end Go.Proofs.YtkdigjpejnebkaaGreat
