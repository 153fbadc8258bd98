import Derived.Test.YtpgifpeohlllfaaGreatGJ40
import Derived.Test.YtpgifpeohlllfaaGreatGJ37
import Derived.Test.YtpgifpeohlllfaaGreatGJ38
import Derived.Test.YtpgifpeohlllfaaGreatGJ16
import Derived.Test.YtpgifpeohlllfaaGreatGJ11
import Derived.Test.YtpgifpeohlllfaaGreatGJ03
import Derived.Test.YtpgifpeohlllfaaGreatChecked
import Derived.Deep.Slices
import Derived.ProofKit
import Derived.SizedLaws
import Derived.Test.YtpgifpeohlllfaaGreatGJ12
set_option maxHeartbeats 20000000
set_option linter.unusedVariables false
set_option maxRecDepth 100000
set_option linter.unusedSimpArgs false
namespace Go.Proofs.YtpgifpeohlllfaaGreat
namespace KL
open Go.RowKit GK KO
open FW (hideC add_below)
open KW (KAt HasK cellsK FitK)
open KY (OutC CopyK)
open KZ (newA newK kn0 n1)
set_option maxHeartbeats 4000000 in
theorem starts_any (hcp : CopyK) (l : List AM.Ar) (hs : List LM.Sh) (en nf ns : Int) (aa ah : Option Addr) (na ca ch : Nat) (k : KM.Kn) (a : KAt) (w : World) (b1 : AW.Has w (.slice aa na ca) l) (b2 : AW.AllFit l) (b3 : LM.HasH w ah hs) (b4 : LM.FitHs hs) (b5 : hs.length <= ch) (b6 : M.I64 en) (hK : HasK w a k) (hF : FitK k)
  (hbg : ∀ V,Calls Tryz.prog 15 #[] V fun e w'=>e = .returned (.bool true) /\ Below V.heap.size V w') :
  Calls Tryz.prog 4 #[.agg #[.slice aa na ca,.slice ah hs.length ch,.int .i64 en],.int .i64 nf,.int .i64 ns,.agg (cellsK a k)] w fun e w'=>e = .returned (.bool true) /\ Below w.heap.size w w':=by
 obtain ⟨WA,hWA⟩ : ∃ WA,WA = (w.alloc (.cells #[.slice aa na ca,.slice ah hs.length ch,.int .i64 en] 30)).alloc (.cells (cellsK a k) 27):=⟨_,rfl⟩
 have hb0 : Below w.heap.size w WA:=by rw [hWA];exact ((Below.refl _ _).alloc (Nat.le_refl _) _).alloc (by simp) _
 have lb : WA.heap[w.heap.size]? = some (.cells #[.slice aa na ca,.slice ah hs.length ch,.int .i64 en] 30 (0,0)):=by rw [hWA];exact B.alloc (B.new w _ _) _
 have kb : WA.heap[w.heap.size + 1]? = some (.cells (cellsK a k) 27 (0,0)):=by rw [hWA];exact n1 _ _ _ _
 have hWS : w.heap.size + 1 < WA.heap.size:=B.isLt kb
 have LB : Hid (∀ V,Below WA.heap.size WA V -> V.heap[w.heap.size]? = some (.cells #[.slice aa na ca,.slice ah hs.length ch,.int .i64 en] 30 (0,0))):=fun V hb=>B.below lb hb (B.isLt lb)
 have KB : Hid (∀ V,Below WA.heap.size WA V -> V.heap[w.heap.size + 1]? = some (.cells #[.slice a.aS k.sheets.length a.cS,.slice a.aF k.frames.length a.cF,.slice a.aL k.slots.length a.cL,.slice a.aP k.spaces.length a.cP,.int .i64 k.hand] 27 (0,0))):=fun V hb=>B.below kb hb (B.isLt kb)
 have hbw : ∀ {V : World},Below WA.heap.size WA V -> Below w.heap.size w V:=fun hV=>hb0.trans (hV.mono hb0.size)
 obtain ⟨l0,l1,l2⟩:=B.c3 (LB.out WA (Below.refl _ _))
 have HWA:=hideC hWA
 have HB0:=hideC hb0
 have HBG:=hideC hbg
 obtain ⟨K0,hK0⟩ : ∃ K0,K0 = (newA l hs en nf ns).1:=⟨_,rfl⟩
 obtain ⟨er,her⟩ : ∃ er,er = (newA l hs en nf ns).2:=⟨_,rfl⟩
 have hcs:=new_cases l hs en nf ns
 have HNW : Hid (Calls Tryz.prog 18 #[.agg #[.slice aa na ca,.slice ah hs.length ch,.int .i64 en],.int .i64 nf,.int .i64 ns] WA fun e w'=>∃ s1 n1 q1 s2 n2 q2 s3 n3 q3 s4 n4 q4 hd,e = .returned (.tuple #[.agg #[.slice s1 n1 q1,.slice s2 n2 q2,.slice s3 n3 q3,.slice s4 n4 q4,.int .i64 hd],.int .i64 er]) /\ Kept WA.heap.size K0 #[.slice s1 n1 q1,.slice s2 n2 q2,.slice s3 n3 q3,.slice s4 n4 q4,.int .i64 hd] w' /\ Below WA.heap.size WA w'):=by
  refine (KZ.new_any hcp l hs en nf ns (.slice aa na ca) ah ch WA (b1.below hb0) b2 (b3.below hb0) b4 b5 b6).mono fun e w' h=>?_
  obtain ⟨hs1,a1,h1,h2,h3,h4⟩:=KG.out_r h
  rw [<- hK0] at h1 h2 h3
  rw [<- her] at h2
  exact ⟨_,_,_,_,_,_,_,_,_,_,_,_,_,h2,⟨hs1,a1,h1,rfl,h3⟩,h4⟩
 have HNE : Hid (∀ V,Below WA.heap.size WA V -> Calls Tryz.prog 23 #[.agg #[.slice aa na ca,.slice ah hs.length ch,.int .i64 en],.int .i64 nf,.int .i64 ns] V fun e w'=>e = .returned (.int .i64 er) /\ Below V.heap.size V w'):=fun V hV=>by
  rw [her]
  exact KR.newError_any l hs en nf ns (.slice aa na ca) ah ch V (b1.below (hbw hV)) b2 (b3.below (hbw hV)) b4 b6
 have HNK : LM.checkL l hs en = 0 -> 3 <= nf -> nf <= 64 -> 0 <= ns -> ns <= 512 -> Hid (∀ V,Below WA.heap.size WA V -> Calls Tryz.prog 22 #[.agg #[.slice aa na ca,.slice ah hs.length ch,.int .i64 en],.int .i64 nf,.int .i64 ns] V fun e w'=>∃ t1 m1 p1 t2 m2 p2 t3 m3 p3 t4 m4 p4 he,e = .returned (.agg #[.slice t1 m1 p1,.slice t2 m2 p2,.slice t3 m3 p3,.slice t4 m4 p4,.int .i64 he]) /\ Kept V.heap.size (newK l hs nf ns) #[.slice t1 m1 p1,.slice t2 m2 p2,.slice t3 m3 p3,.slice t4 m4 p4,.int .i64 he] w' /\ Below V.heap.size V w'):=fun h1 h2 h3 h4 h5 V hV=>(KR.newKernel_any l hs en nf ns (.slice aa na ca) ah ch V (b1.below (hbw hV)) (b3.below (hbw hV)) h1 h2 h3 h4 h5).mono fun e w' h=>by
  obtain ⟨c,g1,g2,g3⟩:=kept_out h
  obtain ⟨t1,m1,p1,t2,m2,p2,t3,m3,p3,t4,m4,p4,he,rfl⟩:=g2.cells
  exact ⟨t1,m1,p1,t2,m2,p2,t3,m3,p3,t4,m4,p4,he,g1,g2,g3⟩
 have HCK : Hid (∀ V,Below WA.heap.size WA V -> Calls Tryz.prog 24 #[.agg #[.slice a.aS k.sheets.length a.cS,.slice a.aF k.frames.length a.cF,.slice a.aL k.slots.length a.cL,.slice a.aP k.spaces.length a.cP,.int .i64 k.hand]] V fun e w'=>e = .returned (.int .i64 (KM.checkK k)) /\ Below V.heap.size V w'):=fun V hV=>KW.check_any k a V (hK.below (hbw hV)) hF
 have HCR : Hid (∀ V,Below WA.heap.size WA V -> Calls Tryz.prog 14 #[.agg #[.slice a.aS k.sheets.length a.cS,.slice a.aF k.frames.length a.cF,.slice a.aL k.slots.length a.cL,.slice a.aP k.spaces.length a.cP,.int .i64 k.hand]] V fun e w'=>e = .returned (.int .i64 (KM.checkK k)) /\ Below V.heap.size V w'):=fun V hV=>by
  have:=KR.check_any k a V (hK.below (hbw hV)) hF
  rw [KM.check_same] at this
  exact this
 obtain ⟨CK,hCK⟩ : ∃ CK,CK = KM.checkK k:=⟨_,rfl⟩
 rw [<- hCK] at HCK HCR
 have HFN : LM.checkL l hs en = 0 -> nf <= 64 -> ns <= 512 -> ∀ hs1,KM.Same (newK l hs nf ns).sheets hs1 -> FitK (KM.withS (newK l hs nf ns) hs1):=fun h1 h2 h3 hs1 s=>fit_new h1 h2 h3 s
 unfold cellsK at HWA ⊢
 clear hb0 lb kb hWA hbg b1 b2 b3 b4 b5 b6 hK hF hbw hCK hcp
 rcases hcs with ⟨g1,g2⟩ | ⟨g1,g2,g3,g4,g5,g6⟩
 · rw [<- hK0] at g1
   rw [<- her] at g2
   subst g1
   have eb : (er == 0) = false:=by simpa using g2
   clear HNK HFN hK0 her g2
   go_enter Tryz.func4,Tryz.ntmps4
   go_upto_region 1 with fail
   rw [<- HWA.out]
   go_upto_region 2 with (go_at_call 18;refine HNW.out.mono ?_;rintro e w1 ⟨s1,n1,q1,s2,n2,q2,s3,n3,q3,s4,n4,q4,hd,rfl,hk1,hb1⟩;have HKN:=hideC hk1;have HB1:=hideC hb1;clear hk1 hb1)
   have HB2:=hideC (HB1.out.alloc HB1.out.size (.cells #[.slice s1 n1 q1,.slice s2 n2 q2,.slice s3 n3 q3,.slice s4 n4 q4,.int .i64 hd] 27))
   have NB0:=hideC (B.new w1 #[.slice s1 n1 q1,.slice s2 n2 q2,.slice s3 n3 q3,.slice s4 n4 q4,.int .i64 hd] 27)
   have HKA : Hid (Kp (fun b=>b < WA.heap.size) w1 (w1.alloc (.cells #[.slice s1 n1 q1,.slice s2 n2 q2,.slice s3 n3 q3,.slice s4 n4 q4,.int .i64 hd] 27))):=Kp.alloc _ _ _
   have hz1 : WA.heap.size <= w1.heap.size:=HB1.out.size
   obtain ⟨W1,hW1⟩ : ∃ W1,W1 = w1.alloc (.cells #[.slice s1 n1 q1,.slice s2 n2 q2,.slice s3 n3 q3,.slice s4 n4 q4,.int .i64 hd] 27):=⟨_,rfl⟩
   obtain ⟨nb,hnb⟩ : ∃ nb,nb = w1.heap.size:=⟨_,rfl⟩
   rw [<- hW1] at HB2 NB0 HKA ⊢
   rw [<- hnb] at NB0 hz1 ⊢
   clear hW1 hnb
   obtain ⟨l0,l1,l2⟩:=B.c3 (LB.out _ HB2.out)
   go_upto_region 3 with (go_at_call 23;refine (HNE.out _ HB2.out).mono ?_;rintro e w2 ⟨rfl,hb3⟩;have HB3:=hideC hb3;clear hb3)
   go_upto_region 4 with fail
   have NB:=hideC (B.alloc (B.below NB0.out HB3.out (B.isLt NB0.out)) (.cells #[.slice none 0 0,.slice none 0 0,.slice none 0 0,.slice none 0 0,.int .i64 0] 27))
   have HAR:=hideC ((HB2.out.trans (HB3.out.mono HB2.out.size)).alloc (HB2.out.trans (HB3.out.mono HB2.out.size)).size (.cells #[.slice none 0 0,.slice none 0 0,.slice none 0 0,.slice none 0 0,.int .i64 0] 27))
   have HKR : Hid (Kp (fun b=>b < WA.heap.size) w1 (w2.alloc (.cells #[.slice none 0 0,.slice none 0 0,.slice none 0 0,.slice none 0 0,.int .i64 0] 27))):=(HKA.out.trans (Kp.ofBelow HB3.out) (fun _ _ g=>g)).trans (Kp.alloc _ _ _) (fun _ _ g=>g)
   have RB:=hideC (B.new w2 #[.slice none 0 0,.slice none 0 0,.slice none 0 0,.slice none 0 0,.int .i64 0] 27)
   have hzr : WA.heap.size <= w2.heap.size:=Nat.le_trans HB2.out.size HB3.out.size
   have HW12 : Hid (w1.heap.size <= w2.heap.size):=Nat.le_trans HKA.out.size HB3.out.size
   have HNRB : Hid (nb < w2.heap.size):=Nat.lt_of_lt_of_le (B.isLt NB0.out) HB3.out.size
   obtain ⟨WR,hWR⟩ : ∃ WR,WR = w2.alloc (.cells #[.slice none 0 0,.slice none 0 0,.slice none 0 0,.slice none 0 0,.int .i64 0] 27):=⟨_,rfl⟩
   obtain ⟨rb,hrb⟩ : ∃ rb,rb = w2.heap.size:=⟨_,rfl⟩
   rw [<- hWR] at NB HAR HKR RB ⊢
   rw [<- hrb] at RB HNRB HW12 hzr ⊢
   clear hWR hrb NB0 HKA HB3 HB2
   go_upto_region 6 with fail
   have KW2:=hideC (kept_none WR.heap.size WR)
   have HSM : Hid (∀ V,Below WR.heap.size WR V -> Calls Tryz.prog 20 #[.agg #[.slice s1 n1 q1,.slice s2 n2 q2,.slice s3 n3 q3,.slice s4 n4 q4,.int .i64 hd],.agg #[.slice none 0 0,.slice none 0 0,.slice none 0 0,.slice none 0 0,.int .i64 0]] V fun e w'=>e = .returned (.bool true) /\ Below V.heap.size V w'):=fun V hV=>kept_same HKN.out KW2.out (fun hs1 s=>fit_none s) (HKR.out.trans (Kp.ofBelow hV) (fun _ _ g=>g)) (Kp.ofBelow hV)
   have WB:=hideC RB.out
   obtain ⟨t1,m1,p1,t2,m2,p2,t3,m3,p3,t4,m4,p4,he,hce⟩ : ∃ (t1 : Option Addr) (m1 p1 : Nat) (t2 : Option Addr) (m2 p2 : Nat) (t3 : Option Addr) (m3 p3 : Nat) (t4 : Option Addr) (m4 p4 : Nat) (he : Int),(#[.slice none 0 0,.slice none 0 0,.slice none 0 0,.slice none 0 0,.int .i64 0] : Array Value) = #[.slice t1 m1 p1,.slice t2 m2 p2,.slice t3 m3 p3,.slice t4 m4 p4,.int .i64 he]:=⟨_,_,_,_,_,_,_,_,_,_,_,_,_,rfl⟩
   rw [hce] at HSM WB
   clear hce
   have HCC : Hid (∀ V,Below WR.heap.size WR V -> V.cell? ⟨nb,0,none⟩ = some (.slice s1 n1 q1) /\ V.cell? ⟨nb,1,none⟩ = some (.slice s2 n2 q2) /\ V.cell? ⟨nb,2,none⟩ = some (.slice s3 n3 q3) /\ V.cell? ⟨nb,3,none⟩ = some (.slice s4 n4 q4) /\ V.cell? ⟨nb,4,none⟩ = some (.int .i64 hd) /\ V.cell? ⟨rb,0,none⟩ = some (.slice t1 m1 p1) /\ V.cell? ⟨rb,1,none⟩ = some (.slice t2 m2 p2) /\ V.cell? ⟨rb,2,none⟩ = some (.slice t3 m3 p3) /\ V.cell? ⟨rb,3,none⟩ = some (.slice t4 m4 p4) /\ V.cell? ⟨rb,4,none⟩ = some (.int .i64 he) /\ V.cell? ⟨w.heap.size + 1,0,none⟩ = some (.slice a.aS k.sheets.length a.cS) /\ V.cell? ⟨w.heap.size + 1,1,none⟩ = some (.slice a.aF k.frames.length a.cF) /\ V.cell? ⟨w.heap.size + 1,2,none⟩ = some (.slice a.aL k.slots.length a.cL) /\ V.cell? ⟨w.heap.size + 1,3,none⟩ = some (.slice a.aP k.spaces.length a.cP) /\ V.cell? ⟨w.heap.size + 1,4,none⟩ = some (.int .i64 k.hand)):=fun V hV=>by
    have c1:=B.below NB.out hV (B.isLt NB.out)
    have c2:=B.below WB.out hV (B.isLt WB.out)
    have c3:=KB.out V (HAR.out.trans (hV.mono HAR.out.size))
    exact ⟨B.cell c1 0 rfl,B.cell c1 1 rfl,B.cell c1 2 rfl,B.cell c1 3 rfl,B.cell c1 4 rfl,B.cell c2 0 rfl,B.cell c2 1 rfl,B.cell c2 2 rfl,B.cell c2 3 rfl,B.cell c2 4 rfl,B.cell c3 0 rfl,B.cell c3 1 rfl,B.cell c3 2 rfl,B.cell c3 3 rfl,B.cell c3 4 rfl⟩
   have HC1 : Hid (∀ V,Below WR.heap.size WR V -> Calls Tryz.prog 24 #[.agg #[.slice a.aS k.sheets.length a.cS,.slice a.aF k.frames.length a.cF,.slice a.aL k.slots.length a.cL,.slice a.aP k.spaces.length a.cP,.int .i64 k.hand]] V fun e w'=>e = .returned (.int .i64 CK) /\ Below V.heap.size V w'):=fun V hV=>HCK.out V (HAR.out.trans (hV.mono HAR.out.size))
   have HC2 : Hid (∀ V,Below WR.heap.size WR V -> Calls Tryz.prog 14 #[.agg #[.slice a.aS k.sheets.length a.cS,.slice a.aF k.frames.length a.cF,.slice a.aL k.slots.length a.cL,.slice a.aP k.spaces.length a.cP,.int .i64 k.hand]] V fun e w'=>e = .returned (.int .i64 CK) /\ Below V.heap.size V w'):=fun V hV=>HCR.out V (HAR.out.trans (hV.mono HAR.out.size))
   have Hw5 : Hid (Below WR.heap.size WR WR.drew):=(Below.refl _ _).drew
   refine wp_region_held_drew (S:=fun V=>Below WR.heap.size WR V) (by kernel_rfl) ?_ (fun hHeld=>?_)
   · exact Hw5.out
   refine wpAnyH_ready (rs:=[0]) (by kernel_rfl) (by simp) ?_
   refine AllReadyH.cons rfl (fun K hK=>?_) AllReadyH.nil
   (try rw [if_pos (by kernel_rfl)]);go_simp;go_at_call 15;refine (HBG.out _).mono ?_;rintro e w6 ⟨rfl,hbx⟩;have Hw6:=hideC (Hw5.out.trans (hbx.mono Hw5.out.size));clear hbx;try go_simp
   refine hK.out _ _ ?_ (fun hHeld=>?_)
   · try dsimp only
     exact Hw6.out
   clear hK K
   try simp only [Act.put,List.setIfInBounds_toArray,List.set_cons_zero,List.set_cons_succ]
   refine GZ.htk 1 (by assumption) ?_ ?_ ?_ (hwt:=by kernel_rfl)
   rotate_left 1
   · intro V h
     obtain ⟨x0,x1,x2,x3,x4,z0,z1,z2,z3,z4,k0,k1,k2,k3,k4⟩:=HCC.out V h
     go_simp
     try with_reducible rfl
   try simp only [Act.put,List.setIfInBounds_toArray,List.set_cons_zero,List.set_cons_succ]
   refine GZ.htk 2 (by assumption) ?_ ?_ ?_ (hwt:=by kernel_rfl)
   rotate_left 1
   · intro V h
     obtain ⟨x0,x1,x2,x3,x4,z0,z1,z2,z3,z4,k0,k1,k2,k3,k4⟩:=HCC.out V h
     go_simp
     try with_reducible rfl
   try simp only [Act.put,List.setIfInBounds_toArray,List.set_cons_zero,List.set_cons_succ]
   refine GZ.htk 3 (by assumption) ?_ ?_ ?_ (hwt:=by kernel_rfl)
   rotate_left 1
   · intro V h
     obtain ⟨x0,x1,x2,x3,x4,z0,z1,z2,z3,z4,k0,k1,k2,k3,k4⟩:=HCC.out V h
     go_simp
     try with_reducible rfl
   try simp only [Act.put,List.setIfInBounds_toArray,List.set_cons_zero,List.set_cons_succ]
   refine GZ.htk 4 (by assumption) ?_ ?_ ?_ (hwt:=by kernel_rfl)
   rotate_left 1
   · intro V h
     obtain ⟨x0,x1,x2,x3,x4,z0,z1,z2,z3,z4,k0,k1,k2,k3,k4⟩:=HCC.out V h
     go_simp
     try with_reducible rfl
   try simp only [Act.put,List.setIfInBounds_toArray,List.set_cons_zero,List.set_cons_succ]
   refine GZ.htk 5 (by assumption) ?_ ?_ ?_ (hwt:=by kernel_rfl)
   rotate_left 1
   · intro V h
     obtain ⟨x0,x1,x2,x3,x4,z0,z1,z2,z3,z4,k0,k1,k2,k3,k4⟩:=HCC.out V h
     go_simp
     try with_reducible rfl
   try simp only [Act.put,List.setIfInBounds_toArray,List.set_cons_zero,List.set_cons_succ]
   refine GZ.htk 6 (by assumption) ?_ ?_ ?_ (hwt:=by kernel_rfl)
   rotate_left 1
   · intro V h
     obtain ⟨x0,x1,x2,x3,x4,z0,z1,z2,z3,z4,k0,k1,k2,k3,k4⟩:=HCC.out V h
     go_simp
     try with_reducible rfl
   try simp only [Act.put,List.setIfInBounds_toArray,List.set_cons_zero,List.set_cons_succ]
   refine GZ.htk 7 (by assumption) ?_ ?_ ?_ (hwt:=by kernel_rfl)
   rotate_left 1
   · intro V h
     obtain ⟨x0,x1,x2,x3,x4,z0,z1,z2,z3,z4,k0,k1,k2,k3,k4⟩:=HCC.out V h
     go_simp
     try with_reducible rfl
   try simp only [Act.put,List.setIfInBounds_toArray,List.set_cons_zero,List.set_cons_succ]
   refine GZ.htk 8 (by assumption) ?_ ?_ ?_ (hwt:=by kernel_rfl)
   rotate_left 1
   · intro V h
     obtain ⟨x0,x1,x2,x3,x4,z0,z1,z2,z3,z4,k0,k1,k2,k3,k4⟩:=HCC.out V h
     go_simp
     try with_reducible rfl
   try simp only [Act.put,List.setIfInBounds_toArray,List.set_cons_zero,List.set_cons_succ]
   refine wpAnyH_ready (rs:=[9]) (by kernel_rfl) (by simp) ?_
   refine AllReadyH.cons rfl (fun K hK=>?_) AllReadyH.nil
   (try rw [if_pos (by kernel_rfl)]);go_simp;go_at_call 20;refine (HSM.out _ Hw6.out).mono ?_;rintro e w7 ⟨rfl,hbx⟩;have Hw7:=hideC (Hw6.out.trans (hbx.mono Hw6.out.size));clear hbx;try go_simp
   refine hK.out _ _ ?_ (fun hHeld=>?_)
   · try dsimp only
     exact Hw7.out
   clear hK K
   try simp only [Act.put,List.setIfInBounds_toArray,List.set_cons_zero,List.set_cons_succ]
   refine GZ.htk 10 (by assumption) ?_ ?_ ?_ (hwt:=by kernel_rfl)
   rotate_left 1
   · intro V h
     obtain ⟨x0,x1,x2,x3,x4,z0,z1,z2,z3,z4,k0,k1,k2,k3,k4⟩:=HCC.out V h
     go_simp
     try with_reducible rfl
   try simp only [Act.put,List.setIfInBounds_toArray,List.set_cons_zero,List.set_cons_succ]
   refine GZ.htk 11 (by assumption) ?_ ?_ ?_ (hwt:=by kernel_rfl)
   rotate_left 1
   · intro V h
     obtain ⟨x0,x1,x2,x3,x4,z0,z1,z2,z3,z4,k0,k1,k2,k3,k4⟩:=HCC.out V h
     go_simp
     try with_reducible rfl
   try simp only [Act.put,List.setIfInBounds_toArray,List.set_cons_zero,List.set_cons_succ]
   refine GZ.htk 12 (by assumption) ?_ ?_ ?_ (hwt:=by kernel_rfl)
   rotate_left 1
   · intro V h
     obtain ⟨x0,x1,x2,x3,x4,z0,z1,z2,z3,z4,k0,k1,k2,k3,k4⟩:=HCC.out V h
     go_simp
     try with_reducible rfl
   try simp only [Act.put,List.setIfInBounds_toArray,List.set_cons_zero,List.set_cons_succ]
   refine GZ.htk 14 (by assumption) ?_ ?_ ?_ (hwt:=by kernel_rfl)
   rotate_left 1
   · intro V h
     obtain ⟨x0,x1,x2,x3,x4,z0,z1,z2,z3,z4,k0,k1,k2,k3,k4⟩:=HCC.out V h
     go_simp
     try with_reducible rfl
   try simp only [Act.put,List.setIfInBounds_toArray,List.set_cons_zero,List.set_cons_succ]
   refine wpAnyH_ready (rs:=[13]) (by kernel_rfl) (by simp) ?_
   refine AllReadyH.cons rfl (fun K hK=>?_) AllReadyH.nil
   (try rw [if_pos (by kernel_rfl)]);go_simp;go_at_call 24;refine (HC1.out _ Hw7.out).mono ?_;rintro e w8 ⟨rfl,hbx⟩;have Hw8:=hideC (Hw7.out.trans (hbx.mono Hw7.out.size));clear hbx;try go_simp
   refine hK.out _ _ ?_ (fun hHeld=>?_)
   · try dsimp only
     exact Hw8.out
   clear hK K
   try simp only [Act.put,List.setIfInBounds_toArray,List.set_cons_zero,List.set_cons_succ]
   refine wpAnyH_ready (rs:=[15]) (by kernel_rfl) (by simp) ?_
   refine AllReadyH.cons rfl (fun K hK=>?_) AllReadyH.nil
   (try rw [if_pos (by kernel_rfl)]);go_simp;go_at_call 14;refine (HC2.out _ Hw8.out).mono ?_;rintro e w9 ⟨rfl,hbx⟩;have Hw9:=hideC (Hw8.out.trans (hbx.mono Hw8.out.size));clear hbx;try go_simp
   refine hK.out _ _ ?_ (fun hHeld=>?_)
   · try dsimp only
     exact Hw9.out
   clear hK K
   try simp only [Act.put,List.setIfInBounds_toArray,List.set_cons_zero,List.set_cons_succ]
   refine GZ.htk 16 (by assumption) ?_ ?_ ?_ (hwt:=by kernel_rfl)
   rotate_left 1
   · intro V h
     obtain ⟨x0,x1,x2,x3,x4,z0,z1,z2,z3,z4,k0,k1,k2,k3,k4⟩:=HCC.out V h
     go_simp
     try with_reducible rfl
   try simp only [Act.put,List.setIfInBounds_toArray,List.set_cons_zero,List.set_cons_succ]
   refine GZ.htk 17 (by assumption) ?_ ?_ ?_ (hwt:=by kernel_rfl)
   rotate_left 1
   · intro V h
     obtain ⟨x0,x1,x2,x3,x4,z0,z1,z2,z3,z4,k0,k1,k2,k3,k4⟩:=HCC.out V h
     go_simp
     try with_reducible rfl
   try simp only [Act.put,List.setIfInBounds_toArray,List.set_cons_zero,List.set_cons_succ]
   refine wpAnyH_ready (rs:=[18]) (by kernel_rfl) (by simp) ?_
   refine AllReadyH.cons rfl (fun K hK=>?_) AllReadyH.nil
   go_simp
   refine hK.out _ _ ?_ (fun hHeld=>?_)
   · try dsimp only
     exact Hw9.out
   clear hK K
   try simp only [Act.put,List.setIfInBounds_toArray,List.set_cons_zero,List.set_cons_succ]
   refine wpAnyH_done (by kernel_rfl) ?_ _
   go_wp2
   go_ret
   exact ⟨by simp,HB0.out.trans ((HAR.out.trans (Hw9.out.mono HAR.out.size)).mono HB0.out.size)⟩
 · rw [g6] at hK0 her
   have hK0 : K0 = newK l hs nf ns:=hK0
   have her : er = 0:=her
   subst hK0 her
   have HNQ:=HNK g1 g2 g3 g4 g5
   have HFQ:=hideC (HFN g1 g3 g5)
   clear HNK HFN g1 g2 g3 g4 g5 g6
   go_enter Tryz.func4,Tryz.ntmps4
   go_upto_region 1 with fail
   rw [<- HWA.out]
   go_upto_region 2 with (go_at_call 18;refine HNW.out.mono ?_;rintro e w1 ⟨s1,n1,q1,s2,n2,q2,s3,n3,q3,s4,n4,q4,hd,rfl,hk1,hb1⟩;have HKN:=hideC hk1;have HB1:=hideC hb1;clear hk1 hb1)
   have HB2:=hideC (HB1.out.alloc HB1.out.size (.cells #[.slice s1 n1 q1,.slice s2 n2 q2,.slice s3 n3 q3,.slice s4 n4 q4,.int .i64 hd] 27))
   have NB0:=hideC (B.new w1 #[.slice s1 n1 q1,.slice s2 n2 q2,.slice s3 n3 q3,.slice s4 n4 q4,.int .i64 hd] 27)
   have HKA : Hid (Kp (fun b=>b < WA.heap.size) w1 (w1.alloc (.cells #[.slice s1 n1 q1,.slice s2 n2 q2,.slice s3 n3 q3,.slice s4 n4 q4,.int .i64 hd] 27))):=Kp.alloc _ _ _
   have hz1 : WA.heap.size <= w1.heap.size:=HB1.out.size
   obtain ⟨W1,hW1⟩ : ∃ W1,W1 = w1.alloc (.cells #[.slice s1 n1 q1,.slice s2 n2 q2,.slice s3 n3 q3,.slice s4 n4 q4,.int .i64 hd] 27):=⟨_,rfl⟩
   obtain ⟨nb,hnb⟩ : ∃ nb,nb = w1.heap.size:=⟨_,rfl⟩
   rw [<- hW1] at HB2 NB0 HKA ⊢
   rw [<- hnb] at NB0 hz1 ⊢
   clear hW1 hnb
   obtain ⟨l0,l1,l2⟩:=B.c3 (LB.out _ HB2.out)
   go_upto_region 3 with (go_at_call 23;refine (HNE.out _ HB2.out).mono ?_;rintro e w2 ⟨rfl,hb3⟩;have HB3:=hideC hb3;clear hb3)
   go_upto_region 4 with fail
   have NB:=hideC (B.alloc (B.below NB0.out HB3.out (B.isLt NB0.out)) (.cells #[.slice none 0 0,.slice none 0 0,.slice none 0 0,.slice none 0 0,.int .i64 0] 27))
   have HAR:=hideC ((HB2.out.trans (HB3.out.mono HB2.out.size)).alloc (HB2.out.trans (HB3.out.mono HB2.out.size)).size (.cells #[.slice none 0 0,.slice none 0 0,.slice none 0 0,.slice none 0 0,.int .i64 0] 27))
   have HKR : Hid (Kp (fun b=>b < WA.heap.size) w1 (w2.alloc (.cells #[.slice none 0 0,.slice none 0 0,.slice none 0 0,.slice none 0 0,.int .i64 0] 27))):=(HKA.out.trans (Kp.ofBelow HB3.out) (fun _ _ g=>g)).trans (Kp.alloc _ _ _) (fun _ _ g=>g)
   have RB:=hideC (B.new w2 #[.slice none 0 0,.slice none 0 0,.slice none 0 0,.slice none 0 0,.int .i64 0] 27)
   have hzr : WA.heap.size <= w2.heap.size:=Nat.le_trans HB2.out.size HB3.out.size
   have HW12 : Hid (w1.heap.size <= w2.heap.size):=Nat.le_trans HKA.out.size HB3.out.size
   have HNRB : Hid (nb < w2.heap.size):=Nat.lt_of_lt_of_le (B.isLt NB0.out) HB3.out.size
   obtain ⟨WR,hWR⟩ : ∃ WR,WR = w2.alloc (.cells #[.slice none 0 0,.slice none 0 0,.slice none 0 0,.slice none 0 0,.int .i64 0] 27):=⟨_,rfl⟩
   obtain ⟨rb,hrb⟩ : ∃ rb,rb = w2.heap.size:=⟨_,rfl⟩
   rw [<- hWR] at NB HAR HKR RB ⊢
   rw [<- hrb] at RB HNRB HW12 hzr ⊢
   clear hWR hrb NB0 HKA HB3 HB2
   obtain ⟨l0,l1,l2⟩:=B.c3 (LB.out _ HAR.out)
   obtain ⟨y0,y1,y2,y3,y4⟩:=B.c5 RB.out
   have HZQ:=hideC hzr
   clear hzr
   go_upto_region 6 with (go_at_call 22;refine (HNQ.out _ HAR.out).mono ?_;rintro e w4 ⟨t1,m1,p1,t2,m2,p2,t3,m3,p3,t4,m4,p4,he,rfl,hk4,hb4⟩;have HK4:=hideC hk4;have HB4:=hideC hb4;have R4:=hideC (B.below RB.out hb4 (B.isLt RB.out));obtain ⟨y0,y1,y2,y3,y4⟩:=B.c5 R4.out;have f0:=B.free R4.out 0;have f1:=B.free R4.out 1;have f2:=B.free R4.out 2;have f3:=B.free R4.out 3;have f4:=B.free R4.out 4;clear hk4 hb4)
   have h5:=KZ.ret5 R4.out (.slice t1 m1 p1) (.slice t2 m2 p2) (.slice t3 m3 p3) (.slice t4 m4 p4) (.int .i64 he) rfl
   obtain ⟨W5,hW5⟩ : ∃ W5,W5 = ((((w4.setCell ⟨rb,0,none⟩ (.slice t1 m1 p1)).setCell ⟨rb,1,none⟩ (.slice t2 m2 p2)).setCell ⟨rb,2,none⟩ (.slice t3 m3 p3)).setCell ⟨rb,3,none⟩ (.slice t4 m4 p4)).setCell ⟨rb,4,none⟩ (.int .i64 he):=⟨_,rfl⟩
   rw [<- hW5] at h5 ⊢
   have HKQ : Hid (Kp (fun b=>b = rb) w4 W5):=h5.2
   have WB5:=hideC h5.1
   have HA5 : Hid (Below WA.heap.size WA W5):=Kp.below (HAR.out.trans (HB4.out.mono HAR.out.size)) HKQ.out (Nat.le_trans HAR.out.size HB4.out.size) (fun b e=>by have:=HZQ.out;omega)
   have HK5 : Hid (Kp (fun b=>b < WA.heap.size) w1 W5):=(HKR.out.trans (Kp.ofBelow (D:=fun b=>b < WA.heap.size) HB4.out) (fun _ _ g=>g)).trans HKQ.out (fun b hb e=>by have:=HW12.out;have e' : b = rb:=e;omega)
   have NB5:=hideC (HKQ.out.keep (B.below NB.out HB4.out (B.isLt NB.out)) (by have:=HNRB.out;omega))
   clear hW5 h5 f0 f1 f2 f3 f4 y0 y1 y2 y3 y4
   have HSM5 : Hid (∀ V,Below W5.heap.size W5 V -> Calls Tryz.prog 20 #[.agg #[.slice s1 n1 q1,.slice s2 n2 q2,.slice s3 n3 q3,.slice s4 n4 q4,.int .i64 hd],.agg #[.slice t1 m1 p1,.slice t2 m2 p2,.slice t3 m3 p3,.slice t4 m4 p4,.int .i64 he]] V fun e w'=>e = .returned (.bool true) /\ Below V.heap.size V w'):=fun V hV=>kept_same HKN.out HK4.out HFQ.out (HK5.out.trans (Kp.ofBelow hV) (fun _ _ g=>g)) ((HKQ.out.mono (fun b _ e=>by rw [e];exact B.isLt RB.out)).trans (Kp.ofBelow hV) (fun _ _ g=>g))
   clear HKR HNE HNW
   have HAR':=hideC HA5.out
   clear HAR NB RB
   have HAR:=hideC HAR'.out
   have NB:=hideC NB5.out
   have WB:=hideC WB5.out
   have HSM:=hideC HSM5.out
   clear HAR' HA5 NB5 WB5 HSM5 HK5 HKQ HB4 HK4 R4 HZQ HNRB HKN HFQ HNQ
   have HCC : Hid (∀ V,Below W5.heap.size W5 V -> V.cell? ⟨nb,0,none⟩ = some (.slice s1 n1 q1) /\ V.cell? ⟨nb,1,none⟩ = some (.slice s2 n2 q2) /\ V.cell? ⟨nb,2,none⟩ = some (.slice s3 n3 q3) /\ V.cell? ⟨nb,3,none⟩ = some (.slice s4 n4 q4) /\ V.cell? ⟨nb,4,none⟩ = some (.int .i64 hd) /\ V.cell? ⟨rb,0,none⟩ = some (.slice t1 m1 p1) /\ V.cell? ⟨rb,1,none⟩ = some (.slice t2 m2 p2) /\ V.cell? ⟨rb,2,none⟩ = some (.slice t3 m3 p3) /\ V.cell? ⟨rb,3,none⟩ = some (.slice t4 m4 p4) /\ V.cell? ⟨rb,4,none⟩ = some (.int .i64 he) /\ V.cell? ⟨w.heap.size + 1,0,none⟩ = some (.slice a.aS k.sheets.length a.cS) /\ V.cell? ⟨w.heap.size + 1,1,none⟩ = some (.slice a.aF k.frames.length a.cF) /\ V.cell? ⟨w.heap.size + 1,2,none⟩ = some (.slice a.aL k.slots.length a.cL) /\ V.cell? ⟨w.heap.size + 1,3,none⟩ = some (.slice a.aP k.spaces.length a.cP) /\ V.cell? ⟨w.heap.size + 1,4,none⟩ = some (.int .i64 k.hand)):=fun V hV=>by
    have c1:=B.below NB.out hV (B.isLt NB.out)
    have c2:=B.below WB.out hV (B.isLt WB.out)
    have c3:=KB.out V (HAR.out.trans (hV.mono HAR.out.size))
    exact ⟨B.cell c1 0 rfl,B.cell c1 1 rfl,B.cell c1 2 rfl,B.cell c1 3 rfl,B.cell c1 4 rfl,B.cell c2 0 rfl,B.cell c2 1 rfl,B.cell c2 2 rfl,B.cell c2 3 rfl,B.cell c2 4 rfl,B.cell c3 0 rfl,B.cell c3 1 rfl,B.cell c3 2 rfl,B.cell c3 3 rfl,B.cell c3 4 rfl⟩
   have HC1 : Hid (∀ V,Below W5.heap.size W5 V -> Calls Tryz.prog 24 #[.agg #[.slice a.aS k.sheets.length a.cS,.slice a.aF k.frames.length a.cF,.slice a.aL k.slots.length a.cL,.slice a.aP k.spaces.length a.cP,.int .i64 k.hand]] V fun e w'=>e = .returned (.int .i64 CK) /\ Below V.heap.size V w'):=fun V hV=>HCK.out V (HAR.out.trans (hV.mono HAR.out.size))
   have HC2 : Hid (∀ V,Below W5.heap.size W5 V -> Calls Tryz.prog 14 #[.agg #[.slice a.aS k.sheets.length a.cS,.slice a.aF k.frames.length a.cF,.slice a.aL k.slots.length a.cL,.slice a.aP k.spaces.length a.cP,.int .i64 k.hand]] V fun e w'=>e = .returned (.int .i64 CK) /\ Below V.heap.size V w'):=fun V hV=>HCR.out V (HAR.out.trans (hV.mono HAR.out.size))
   have Hw5 : Hid (Below W5.heap.size W5 W5.drew):=(Below.refl _ _).drew
   refine wp_region_held_drew (S:=fun V=>Below W5.heap.size W5 V) (by kernel_rfl) ?_ (fun hHeld=>?_)
   · exact Hw5.out
   refine wpAnyH_ready (rs:=[0]) (by kernel_rfl) (by simp) ?_
   refine AllReadyH.cons rfl (fun K hK=>?_) AllReadyH.nil
   (try rw [if_pos (by kernel_rfl)]);go_simp;go_at_call 15;refine (HBG.out _).mono ?_;rintro e w6 ⟨rfl,hbx⟩;have Hw6:=hideC (Hw5.out.trans (hbx.mono Hw5.out.size));clear hbx;try go_simp
   refine hK.out _ _ ?_ (fun hHeld=>?_)
   · try dsimp only
     exact Hw6.out
   clear hK K
   try simp only [Act.put,List.setIfInBounds_toArray,List.set_cons_zero,List.set_cons_succ]
   refine GZ.htk 1 (by assumption) ?_ ?_ ?_ (hwt:=by kernel_rfl)
   rotate_left 1
   · intro V h
     obtain ⟨x0,x1,x2,x3,x4,z0,z1,z2,z3,z4,k0,k1,k2,k3,k4⟩:=HCC.out V h
     go_simp
     try with_reducible rfl
   try simp only [Act.put,List.setIfInBounds_toArray,List.set_cons_zero,List.set_cons_succ]
   refine GZ.htk 2 (by assumption) ?_ ?_ ?_ (hwt:=by kernel_rfl)
   rotate_left 1
   · intro V h
     obtain ⟨x0,x1,x2,x3,x4,z0,z1,z2,z3,z4,k0,k1,k2,k3,k4⟩:=HCC.out V h
     go_simp
     try with_reducible rfl
   try simp only [Act.put,List.setIfInBounds_toArray,List.set_cons_zero,List.set_cons_succ]
   refine GZ.htk 3 (by assumption) ?_ ?_ ?_ (hwt:=by kernel_rfl)
   rotate_left 1
   · intro V h
     obtain ⟨x0,x1,x2,x3,x4,z0,z1,z2,z3,z4,k0,k1,k2,k3,k4⟩:=HCC.out V h
     go_simp
     try with_reducible rfl
   try simp only [Act.put,List.setIfInBounds_toArray,List.set_cons_zero,List.set_cons_succ]
   refine GZ.htk 4 (by assumption) ?_ ?_ ?_ (hwt:=by kernel_rfl)
   rotate_left 1
   · intro V h
     obtain ⟨x0,x1,x2,x3,x4,z0,z1,z2,z3,z4,k0,k1,k2,k3,k4⟩:=HCC.out V h
     go_simp
     try with_reducible rfl
   try simp only [Act.put,List.setIfInBounds_toArray,List.set_cons_zero,List.set_cons_succ]
   refine GZ.htk 5 (by assumption) ?_ ?_ ?_ (hwt:=by kernel_rfl)
   rotate_left 1
   · intro V h
     obtain ⟨x0,x1,x2,x3,x4,z0,z1,z2,z3,z4,k0,k1,k2,k3,k4⟩:=HCC.out V h
     go_simp
     try with_reducible rfl
   try simp only [Act.put,List.setIfInBounds_toArray,List.set_cons_zero,List.set_cons_succ]
   refine GZ.htk 6 (by assumption) ?_ ?_ ?_ (hwt:=by kernel_rfl)
   rotate_left 1
   · intro V h
     obtain ⟨x0,x1,x2,x3,x4,z0,z1,z2,z3,z4,k0,k1,k2,k3,k4⟩:=HCC.out V h
     go_simp
     try with_reducible rfl
   try simp only [Act.put,List.setIfInBounds_toArray,List.set_cons_zero,List.set_cons_succ]
   refine GZ.htk 7 (by assumption) ?_ ?_ ?_ (hwt:=by kernel_rfl)
   rotate_left 1
   · intro V h
     obtain ⟨x0,x1,x2,x3,x4,z0,z1,z2,z3,z4,k0,k1,k2,k3,k4⟩:=HCC.out V h
     go_simp
     try with_reducible rfl
   try simp only [Act.put,List.setIfInBounds_toArray,List.set_cons_zero,List.set_cons_succ]
   refine GZ.htk 8 (by assumption) ?_ ?_ ?_ (hwt:=by kernel_rfl)
   rotate_left 1
   · intro V h
     obtain ⟨x0,x1,x2,x3,x4,z0,z1,z2,z3,z4,k0,k1,k2,k3,k4⟩:=HCC.out V h
     go_simp
     try with_reducible rfl
   try simp only [Act.put,List.setIfInBounds_toArray,List.set_cons_zero,List.set_cons_succ]
   refine wpAnyH_ready (rs:=[9]) (by kernel_rfl) (by simp) ?_
   refine AllReadyH.cons rfl (fun K hK=>?_) AllReadyH.nil
   (try rw [if_pos (by kernel_rfl)]);go_simp;go_at_call 20;refine (HSM.out _ Hw6.out).mono ?_;rintro e w7 ⟨rfl,hbx⟩;have Hw7:=hideC (Hw6.out.trans (hbx.mono Hw6.out.size));clear hbx;try go_simp
   refine hK.out _ _ ?_ (fun hHeld=>?_)
   · try dsimp only
     exact Hw7.out
   clear hK K
   try simp only [Act.put,List.setIfInBounds_toArray,List.set_cons_zero,List.set_cons_succ]
   refine GZ.htk 10 (by assumption) ?_ ?_ ?_ (hwt:=by kernel_rfl)
   rotate_left 1
   · intro V h
     obtain ⟨x0,x1,x2,x3,x4,z0,z1,z2,z3,z4,k0,k1,k2,k3,k4⟩:=HCC.out V h
     go_simp
     try with_reducible rfl
   try simp only [Act.put,List.setIfInBounds_toArray,List.set_cons_zero,List.set_cons_succ]
   refine GZ.htk 11 (by assumption) ?_ ?_ ?_ (hwt:=by kernel_rfl)
   rotate_left 1
   · intro V h
     obtain ⟨x0,x1,x2,x3,x4,z0,z1,z2,z3,z4,k0,k1,k2,k3,k4⟩:=HCC.out V h
     go_simp
     try with_reducible rfl
   try simp only [Act.put,List.setIfInBounds_toArray,List.set_cons_zero,List.set_cons_succ]
   refine GZ.htk 12 (by assumption) ?_ ?_ ?_ (hwt:=by kernel_rfl)
   rotate_left 1
   · intro V h
     obtain ⟨x0,x1,x2,x3,x4,z0,z1,z2,z3,z4,k0,k1,k2,k3,k4⟩:=HCC.out V h
     go_simp
     try with_reducible rfl
   try simp only [Act.put,List.setIfInBounds_toArray,List.set_cons_zero,List.set_cons_succ]
   refine GZ.htk 14 (by assumption) ?_ ?_ ?_ (hwt:=by kernel_rfl)
   rotate_left 1
   · intro V h
     obtain ⟨x0,x1,x2,x3,x4,z0,z1,z2,z3,z4,k0,k1,k2,k3,k4⟩:=HCC.out V h
     go_simp
     try with_reducible rfl
   try simp only [Act.put,List.setIfInBounds_toArray,List.set_cons_zero,List.set_cons_succ]
   refine wpAnyH_ready (rs:=[13]) (by kernel_rfl) (by simp) ?_
   refine AllReadyH.cons rfl (fun K hK=>?_) AllReadyH.nil
   (try rw [if_pos (by kernel_rfl)]);go_simp;go_at_call 24;refine (HC1.out _ Hw7.out).mono ?_;rintro e w8 ⟨rfl,hbx⟩;have Hw8:=hideC (Hw7.out.trans (hbx.mono Hw7.out.size));clear hbx;try go_simp
   refine hK.out _ _ ?_ (fun hHeld=>?_)
   · try dsimp only
     exact Hw8.out
   clear hK K
   try simp only [Act.put,List.setIfInBounds_toArray,List.set_cons_zero,List.set_cons_succ]
   refine wpAnyH_ready (rs:=[15]) (by kernel_rfl) (by simp) ?_
   refine AllReadyH.cons rfl (fun K hK=>?_) AllReadyH.nil
   (try rw [if_pos (by kernel_rfl)]);go_simp;go_at_call 14;refine (HC2.out _ Hw8.out).mono ?_;rintro e w9 ⟨rfl,hbx⟩;have Hw9:=hideC (Hw8.out.trans (hbx.mono Hw8.out.size));clear hbx;try go_simp
   refine hK.out _ _ ?_ (fun hHeld=>?_)
   · try dsimp only
     exact Hw9.out
   clear hK K
   try simp only [Act.put,List.setIfInBounds_toArray,List.set_cons_zero,List.set_cons_succ]
   refine GZ.htk 16 (by assumption) ?_ ?_ ?_ (hwt:=by kernel_rfl)
   rotate_left 1
   · intro V h
     obtain ⟨x0,x1,x2,x3,x4,z0,z1,z2,z3,z4,k0,k1,k2,k3,k4⟩:=HCC.out V h
     go_simp
     try with_reducible rfl
   try simp only [Act.put,List.setIfInBounds_toArray,List.set_cons_zero,List.set_cons_succ]
   refine GZ.htk 17 (by assumption) ?_ ?_ ?_ (hwt:=by kernel_rfl)
   rotate_left 1
   · intro V h
     obtain ⟨x0,x1,x2,x3,x4,z0,z1,z2,z3,z4,k0,k1,k2,k3,k4⟩:=HCC.out V h
     go_simp
     try with_reducible rfl
   try simp only [Act.put,List.setIfInBounds_toArray,List.set_cons_zero,List.set_cons_succ]
   refine wpAnyH_ready (rs:=[18]) (by kernel_rfl) (by simp) ?_
   refine AllReadyH.cons rfl (fun K hK=>?_) AllReadyH.nil
   go_simp
   refine hK.out _ _ ?_ (fun hHeld=>?_)
   · try dsimp only
     exact Hw9.out
   clear hK K
   try simp only [Act.put,List.setIfInBounds_toArray,List.set_cons_zero,List.set_cons_succ]
   refine wpAnyH_done (by kernel_rfl) ?_ _
   go_wp2
   go_ret
   exact ⟨by simp,HB0.out.trans ((HAR.out.trans (Hw9.out.mono HAR.out.size)).mono HB0.out.size)⟩
end KL
namespace W
open Go.RowKit Go.Deep
theorem cells9 : Tryz.prog.cellsOf 9 = 1:=by kernel_rfl
theorem cells3 : Tryz.prog.cellsOf 3 = 1:=by kernel_rfl
theorem cells4 : Tryz.prog.cellsOf 4 = 1:=by kernel_rfl
theorem i64_of (n : Int) (h : (Lit.int .i64 n).wf = true) : M.I64 n:=CM.bounds n h
theorem cell_lt {w : World} {b o : Nat} {v : Value} (h : w.cell? ⟨b,o,none⟩ = some v) : b < w.heap.size:=by
 rcases Nat.lt_or_ge b w.heap.size with g | g
 · exact g
 · have e : w.heap[b]? = none:=Array.getElem?_eq_none g
   simp [World.cell?,e] at h
instance : Inhabited M.Sg:=⟨M.sg0⟩
instance : Inhabited M.Sy:=⟨M.sy0⟩
instance : Inhabited M.Rl:=⟨M.rl0⟩
def OkW {H : Type} (t : TypeId) (d : DataW H) : Prop:=∀ n ∈ d.weights Tryz.prog t,n <= reachBytes
theorem weightsAll_mem {H : Type} {e : TypeId} : ∀ {l : List (DataW H)} {d : DataW H},d ∈ l -> ∀ n ∈ d.weights Tryz.prog e,n ∈ DataW.weightsAll Tryz.prog e l
 | y :: r,d,h,n,hn=>by
  simp only [DataW.weightsAll,List.mem_append]
  rcases List.mem_cons.1 h with h | h
  · subst h;exact .inl hn
  · exact .inr (weightsAll_mem h n hn)
theorem okw_string {H : Type} {t : TypeId} {b : List UInt8} (h : OkW (H:=H) t (.lit (.string b))) : b.length <= reachBytes:=h _ (by simp [DataW.weights])
theorem okw_slice {H : Type} {t e : TypeId} {el sp : List (DataW H)} (hu : Tryz.prog.underlying t = some (.slice e)) (h : OkW t (.slice el sp)) : (el.length + sp.length) * Tryz.prog.bytesOf e <= reachBytes /\ ∀ d ∈ el,OkW e d:=by
 refine ⟨h _ (by simp [DataW.weights,hu]),fun d hd n hn=>h n ?_⟩
 simp only [DataW.weights,hu,List.mem_cons,List.mem_append]
 exact .inr (.inl (weightsAll_mem hd n hn))
theorem okw_agg {H : Type} {t : TypeId} {fs : Array Field} {ps : List (DataW H)} (hu : Tryz.prog.underlying t = some (.struct fs)) (h : OkW t (.agg ps)) {j : Nat} {u : TypeId} {d : DataW H} (ht : (fs.toList.map (·.type))[j]? = some u) (hd : ps[j]? = some d) : OkW u d:=fun n hn=>h n (by
 simp only [DataW.weights,hu]
 exact DataW.weights_mem_each ht hd n hn)
section
variable {H : Type} {enc : TypeId × Value -> H} {w : World} {base : Nat} {spare : Nat -> Bool} {held : Bool}
theorem slice_of {t e : TypeId} {fuel : Nat} {v : Value} {x : DataW H × List MemPlace} (ht : Tryz.prog.underlying t = some (.slice e)) (h : DataW.trod enc Tryz.prog w base spare held fuel t [v] = some x) : ∃ a len cap,v = .slice a len cap:=by
 rcases open_slice ht h with ⟨hcs,_⟩ | ⟨a,len',cap',m,n,D,Pl,hcs,_⟩
 · simp at hcs;exact ⟨_,_,_,hcs⟩
 · simp at hcs;exact ⟨_,_,_,hcs⟩
end
end W
namespace LW
open Go.RowKit Go.Deep
open W (OkW okw_string okw_slice okw_agg slice_of cell_lt i64_of cells9 cells3)
theorem cellsFx : Tryz.prog.cellsOf 52 = 2:=by kernel_rfl
theorem cellsSh : Tryz.prog.cellsOf 50 = 3:=by kernel_rfl
theorem cellsLk : Tryz.prog.cellsOf 30 = 3:=by kernel_rfl
theorem cellsFxs : Tryz.prog.cellsOf 48 = 1:=by kernel_rfl
theorem cellsShs : Tryz.prog.cellsOf 22 = 1:=by kernel_rfl
theorem cellsArs : Tryz.prog.cellsOf 28 = 1:=by kernel_rfl
theorem bytesFx : Tryz.prog.bytesOf 52 = 24:=by kernel_rfl
theorem bytesSh : Tryz.prog.bytesOf 50 = 48:=by kernel_rfl
theorem bytesAr : Tryz.prog.bytesOf 47 = 32:=by kernel_rfl
instance : Inhabited LM.Fx:=⟨LM.fx0⟩
instance : Inhabited LM.Sh:=⟨LM.sh0⟩
section
variable {H : Type} {enc : TypeId × Value -> H} {w : World} {base : Nat} {spare : Nat -> Bool} {held : Bool}
theorem one_fix {n : Nat} {a : Addr} {cs : List Value} {x : DataW H × List MemPlace} (hc : w.cells? base a 2 = some cs) (h : DataW.trod enc Tryz.prog w base spare held n 52 cs = some x) (hw : OkW 52 x.1) :
  ∃ (x0 : Int) (x1 : ByteArray),(w.cell? (a.add 0) = some (.int .i64 x0) /\ M.I64 x0) /\ (w.cell? (a.add 1) = some (.string x1) /\ M.Short x1.size):=by
 obtain ⟨_,hlen,hcell⟩:=World.cells?_some hc
 obtain ⟨xs,k,hk,hxy,_,hxl,hf⟩:=DataW.trod_struct Tryz.underlying52 h
 rw [hxy] at hw
 match cs,hlen with
 | [v0,v1],_ =>
  have g0 : DataW.trod enc Tryz.prog w base spare held k 3 (([v0,v1].drop 0).take (Tryz.prog.cellsOf 3)) = xs[0]?:=hf 0 _ rfl
  have g1 : DataW.trod enc Tryz.prog w base spare held k 9 (([v0,v1].drop 1).take (Tryz.prog.cellsOf 9)) = xs[1]?:=hf 1 _ rfl
  simp only [cells3,cells9] at g0 g1
  have e0:=hcell 0 (by omega)
  have e1:=hcell 1 (by omega)
  match xs,hxl with
  | [y0,y1],_ =>
   obtain ⟨m0,c0,_,w0⟩:=DataW.trod_int Tryz.underlying3 (show DataW.trod enc Tryz.prog w base spare held k 3 [v0] = some y0 from g0)
   obtain ⟨m1,c1,hx1,_⟩:=DataW.trod_string Tryz.underlying9 (show DataW.trod enc Tryz.prog w base spare held k 9 [v1] = some y1 from g1)
   have u1:=okw_agg Tryz.underlying52 hw (j:=1) (u:=9) (d:=y1.1) rfl rfl
   rw [hx1] at u1
   have w1 : M.Short m1.size:=by have:=okw_string u1;unfold M.Short;unfold reachBytes at this;rw [Lib.size_eq];exact this
   simp only [List.cons.injEq,and_true] at c0 c1
   subst c0;subst c1
   exact ⟨m0,m1,⟨e0,i64_of _ w0⟩,⟨e1,w1⟩⟩
theorem open_F {fuel : Nat} {a0 : Option Addr} {len cap : Nat} {x : DataW H × List MemPlace} (h : DataW.trod enc Tryz.prog w base spare held fuel 48 [.slice a0 len cap] = some x) (hw : OkW 48 x.1) :
  ∃ l : List LM.Fx,l.length = len /\ LM.HasF w a0 l /\ M.Short l.length /\ ∀ k,k < l.length -> LM.FitF (LM.fxAt l k):=by
 rcases open_slice Tryz.underlying48 h with ⟨hcs,_⟩ | ⟨a,len',cap',m,n,D,Pl,hcs,hb,hl,hm,hmm,rfl,hx⟩
 · simp at hcs
   obtain ⟨rfl,rfl,rfl⟩:=hcs
   exact ⟨[],rfl,fun h=>absurd h (by simp),by unfold M.Short;simp,fun k hk=>absurd hk (by simp)⟩
 · simp at hcs
   obtain ⟨rfl,rfl,rfl⟩:=hcs
   have hlm : len <= m:=by rw [hmm];split <;> omega
   obtain ⟨hb1,hb2⟩:=okw_slice Tryz.underlying48 hw
   rw [bytesFx] at hb1
   unfold reachBytes at hb1
   have hlen : len <= 140737488351232:=by simp at hb1;omega
   have each : ∀ i,i < len -> ∃ y : LM.Fx,w.cell? (a.add (i * 2 + 0)) = some (.int .i64 y.off) /\ w.cell? (a.add (i * 2 + 1)) = some (.string y.bytes) /\ LM.FitF y:=by
    intro i hi
    obtain ⟨cs',h1,h2⟩:=hx i (by omega)
    have hd : D i ∈ (List.range len).map D:=List.mem_map.2 ⟨i,List.mem_range.2 hi,rfl⟩
    rw [cellsFx] at h1
    obtain ⟨x0,x1,⟨e0,z0⟩,⟨e1,z1⟩⟩:=one_fix h1 h2 (hb2 _ hd)
    simp only [add_add] at e0 e1
    exact ⟨⟨x0,x1⟩,e0,e1,⟨z0,z1⟩⟩
   obtain ⟨g,hg⟩:=choose_lt each
   have hat : ∀ i,i < len -> LM.fxAt ((List.range len).map g) i = g i:=by
    intro i hi
    simp [LM.fxAt,hi]
   refine ⟨(List.range len).map g,by simp,fun h0=>?_,by unfold M.Short;simp;exact hlen,fun k hk=>?_⟩
   · have h0' : 0 < len:=by simpa using h0
     obtain ⟨b,off,spot⟩:=a
     have hc:=(hg 0 h0').1
     have hspot : spot = none:=by simpa [Addr.add] using World.cell?_spot hc
     subst hspot
     rw [Addr.add_lit] at hc
     refine ⟨b,off,rfl,cell_lt hc,fun i hi=>?_⟩
     have hi' : i < len:=by simpa using hi
     rw [hat i hi']
     obtain ⟨e0,e1,_⟩:=hg i hi'
     simp only [Addr.add_lit] at e0 e1
     exact ⟨e0,by rw [Nat.add_assoc];exact e1⟩
   · have hi' : k < len:=by simpa using hk
     rw [hat k hi']
     obtain ⟨_,_,f⟩:=hg k hi'
     exact f
theorem vals_sheet {n : Nat} {v0 v1 v2 : Value} {x : DataW H × List MemPlace} (h : DataW.trod enc Tryz.prog w base spare held n 50 [v0,v1,v2] = some x) (hw : OkW 50 x.1) :
  ∃ s : LM.Sh,v0 = .int .i64 s.page /\ v1 = .string s.data /\ v2 = .slice s.ao s.fixes.length s.cap /\ LM.HasF w s.ao s.fixes /\ LM.FitH s:=by
 obtain ⟨xs,k,hk,hxy,_,hxl,hf⟩:=DataW.trod_struct Tryz.underlying50 h
 rw [hxy] at hw
 have g0 : DataW.trod enc Tryz.prog w base spare held k 3 (([v0,v1,v2].drop 0).take (Tryz.prog.cellsOf 3)) = xs[0]?:=hf 0 _ rfl
 have g1 : DataW.trod enc Tryz.prog w base spare held k 9 (([v0,v1,v2].drop 1).take (Tryz.prog.cellsOf 9)) = xs[1]?:=hf 1 _ rfl
 have g2 : DataW.trod enc Tryz.prog w base spare held k 48 (([v0,v1,v2].drop 2).take (Tryz.prog.cellsOf 48)) = xs[2]?:=hf 2 _ rfl
 simp only [cells3,cells9,cellsFxs] at g0 g1 g2
 match xs,hxl with
 | [y0,y1,y2],_ =>
  obtain ⟨m0,c0,_,w0⟩:=DataW.trod_int Tryz.underlying3 (show DataW.trod enc Tryz.prog w base spare held k 3 [v0] = some y0 from g0)
  obtain ⟨m1,c1,hx1,_⟩:=DataW.trod_string Tryz.underlying9 (show DataW.trod enc Tryz.prog w base spare held k 9 [v1] = some y1 from g1)
  have u1:=okw_agg Tryz.underlying50 hw (j:=1) (u:=9) (d:=y1.1) rfl rfl
  have u2:=okw_agg Tryz.underlying50 hw (j:=2) (u:=48) (d:=y2.1) rfl rfl
  rw [hx1] at u1
  have w1 : M.Short m1.size:=by have:=okw_string u1;unfold M.Short;unfold reachBytes at this;rw [Lib.size_eq];exact this
  have t2 : DataW.trod enc Tryz.prog w base spare held k 48 [v2] = some y2:=g2
  obtain ⟨ao,ln,cp,d2⟩:=slice_of Tryz.underlying48 t2
  subst d2
  obtain ⟨fs,n1,n2,n3,n4⟩:=open_F t2 u2
  simp only [List.cons.injEq,and_true] at c0 c1
  subst c0;subst c1;subst n1
  exact ⟨⟨m0,m1,fs,ao,cp⟩,rfl,rfl,rfl,n2,⟨i64_of _ w0,w1,n3,n4⟩⟩
end
end LW
end Go.Proofs.YtpgifpeohlllfaaGreat
