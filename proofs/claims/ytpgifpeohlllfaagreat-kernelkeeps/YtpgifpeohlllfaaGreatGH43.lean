import Derived.Test.YtpgifpeohlllfaaGreatGH29
import Derived.Test.YtpgifpeohlllfaaGreatGH15
import Derived.Test.YtpgifpeohlllfaaGreatGH31
set_option maxHeartbeats 20000000
set_option linter.unusedVariables false
set_option maxRecDepth 100000
set_option linter.unusedSimpArgs false
namespace Go.Proofs.YtpgifpeohlllfaaGreat
namespace KL
open Go.RowKit GK KO
open FW (hideC add_below)
open KW (KAt HasK cellsK FitK liveK peekR)
open KZ (reachA loadA storeA kn0)
open KY (forErr CopyK)
set_option maxHeartbeats 8000000 in
theorem keeps_any (hcp : CopyK) (k : KM.Kn) (a : KAt) (sp ad n way ot p : Int) (w : World) (hK : HasK w a k) (hF : FitK k) (hsp : M.I64 sp) (had : M.I64 ad) (hot : M.I64 ot)
  (hbg : ∀ V,Calls Tryz.prog 15 #[] V fun e w'=>e = .returned (.bool true) /\ Below V.heap.size V w') :
  Calls Tryz.prog 10 #[.agg (cellsK a k),.int .i64 sp,.int .i64 ad,.int .i64 n,.int .i64 way,.int .i64 ot,.int .i64 p] w fun e w'=>e = .returned (.bool true) /\ Below w.heap.size w w':=by
 obtain ⟨WA,hWA⟩ : ∃ WA,WA = w.alloc (.cells (cellsK a k) 27):=⟨_,rfl⟩
 have hb0 : Below w.heap.size w WA:=by rw [hWA];exact (Below.refl _ _).alloc (Nat.le_refl _) _
 have kb : WA.heap[w.heap.size]? = some (.cells (cellsK a k) 27 (0,0)):=by rw [hWA];exact B.new w _ _
 have KB : Hid (∀ V,Below WA.heap.size WA V -> V.heap[w.heap.size]? = some (.cells #[.slice a.aS k.sheets.length a.cS,.slice a.aF k.frames.length a.cF,.slice a.aL k.slots.length a.cL,.slice a.aP k.spaces.length a.cP,.int .i64 k.hand] 27 (0,0))):=fun V hb=>B.below kb hb (B.isLt kb)
 obtain ⟨k0,k1,k2,k3,k4⟩:=B.c5 (KB.out WA (Below.refl _ _))
 have HWA:=hideC hWA
 have HB0:=hideC hb0
 have HBG:=hideC hbg
 have HRE:=KZ.reach_any hcp k a sp ad n way WA (hK.below hb0) hF hsp had
 have HPK : Hid (∀ V,Below WA.heap.size WA V -> Calls Tryz.prog 30 #[.agg (cellsK a k),.int .i64 ot,.int .i64 p] V fun e w'=>e = .returned (.tuple #[.string (peekR k ot p).1,.int .i64 (peekR k ot p).2]) /\ Below V.heap.size V w'):=fun V hV=>KW.peek_any k a ot p V (hK.below (hb0.trans (hV.mono hb0.size))) hF hot
 have hcs:=reach_cases k sp ad n way
 have HRN : Hid (Calls Tryz.prog 17 #[.agg (cellsK a k),.int .i64 sp,.int .i64 ad,.int .i64 n,.int .i64 way] WA fun e w'=>∃ s1 n1 c1 s2 n2 c2 s3 n3 c3 s4 n4 c4 hd,e = .returned (.tuple #[.agg #[.slice s1 n1 c1,.slice s2 n2 c2,.slice s3 n3 c3,.slice s4 n4 c4,.int .i64 hd],.agg #[.int .i64 (reachA k sp ad n way).2.1.1,.int .i64 (reachA k sp ad n way).2.1.2],.int .i64 (reachA k sp ad n way).2.2]) /\ Below WA.heap.size WA w'):=HRE.mono fun e w' h=>by
  obtain ⟨hs,a',h1,h2,h3,h4⟩:=KG.out_r h
  exact ⟨_,_,_,_,_,_,_,_,_,_,_,_,_,h2,h4⟩
 have HRY : (∃ j,Fine k sp ad n j /\ reachA k sp ad n way = ((KM.reachK k j ad n way).2,(0,0),0)) -> Hid (Calls Tryz.prog 17 #[.agg (cellsK a k),.int .i64 sp,.int .i64 ad,.int .i64 n,.int .i64 way] WA fun e w'=>∃ s1 n1 c1 s2 n2 c2 s3 n3 c3 s4 n4 c4 hd,e = .returned (.tuple #[.agg #[.slice s1 n1 c1,.slice s2 n2 c2,.slice s3 n3 c3,.slice s4 n4 c4,.int .i64 hd],.agg #[.int .i64 0,.int .i64 0],.int .i64 0]) /\ (∀ U,Kp (fun b=>b < WA.heap.size) w' U -> (Calls Tryz.prog 30 #[.agg #[.slice s1 n1 c1,.slice s2 n2 c2,.slice s3 n3 c3,.slice s4 n4 c4,.int .i64 hd],.int .i64 ot,.int .i64 p] U fun e w'=>e = .returned (.tuple #[.string (peekR k ot p).1,.int .i64 (peekR k ot p).2]) /\ Below U.heap.size U w') /\ (Calls Tryz.prog 24 #[.agg #[.slice s1 n1 c1,.slice s2 n2 c2,.slice s3 n3 c3,.slice s4 n4 c4,.int .i64 hd]] U fun e w'=>e = .returned (.int .i64 0) /\ Below U.heap.size U w')) /\ Below WA.heap.size WA w'):=fun ⟨j,hf,he⟩=>HRE.mono fun e w' h=>by
  rw [he] at h
  obtain ⟨hs,a',h1,h2,h3,h4⟩:=KG.out_r h
  have hr:=KM.reach_had hf.right hf.lt ad n way hf.one hf.two
  have hrs:=hr.right.withS h1
  have hfit:=KG.fit_right hrs
  refine ⟨_,_,_,_,_,_,_,_,_,_,_,_,_,h2,fun U hU=>⟨?_,?_⟩,h4⟩
  · have:=KW.peek_any _ a' ot p U (h3 U hU) hfit hot
    rw [peekR_withS hr.right h1,peekR_kept hf.right hr.right hr.kept] at this
    exact this
  · have:=KW.check_any _ a' U (h3 U hU) hfit
    rw [check_withS hr.right h1] at this
    exact this
 obtain ⟨R,hR⟩ : ∃ R,R = reachA k sp ad n way:=⟨_,rfl⟩
 rw [<- hR] at hcs HRN HRY
 obtain ⟨rk,⟨f1,f2⟩,er⟩:=R
 obtain ⟨PS,hPS⟩ : ∃ PS,PS = (peekR k ot p).1:=⟨_,rfl⟩
 obtain ⟨PE,hPE⟩ : ∃ PE,PE = (peekR k ot p).2:=⟨_,rfl⟩
 rw [<- hPS,<- hPE] at HPK HRY
 simp only at hcs HRN
 unfold cellsK at HRN HRY HPK HWA ⊢
 clear hK hF hsp had hot hbg HRE hb0 kb hWA hR hPS hPE
 rcases hcs with c | ⟨c,d⟩ | c
 · have cb : (er != 0) = true:=by simpa using c
   clear HRY HPK
   go_enter Tryz.func10,Tryz.ntmps10
   go_upto_region 1 with fail
   rw [<- HWA.out]
   go_wp2_with (first | (go_at_call 17;refine HRN.out.mono ?_;rintro e w1 ⟨s1,n1,c1,s2,n2,c2,s3,n3,c3,s4,n4,c4,hd,rfl,hb1⟩;have HB1:=hideC (HB0.out.trans (hb1.mono HB0.out.size));have hz1:=hb1.size;clear hb1) | (go_at_call 15;refine (HBG.out _).mono ?_;rintro e w2 ⟨rfl,hb2⟩;have HB2:=hideC hb2;clear hb2))
   go_ret
   exact ⟨rfl,by have q:=((HB1.out.alloc HB1.out.size (.cells #[.slice s1 n1 c1,.slice s2 n2 c2,.slice s3 n3 c3,.slice s4 n4 c4,.int .i64 hd] 27)).alloc (by have:=HB1.out.size;simp;omega) (.cells #[.int .i64 f1,.int .i64 f2] 36));exact q.trans (HB2.out.mono q.size)⟩
 · have cb : (er != 0) = false:=by simpa using c
   have db : (f1 != 0) = true:=by simpa using d
   clear HRY HPK
   go_enter Tryz.func10,Tryz.ntmps10
   go_upto_region 1 with fail
   rw [<- HWA.out]
   go_wp2_with (first | (go_at_call 17;refine HRN.out.mono ?_;rintro e w1 ⟨s1,n1,c1,s2,n2,c2,s3,n3,c3,s4,n4,c4,hd,rfl,hb1⟩;have HB1:=hideC (HB0.out.trans (hb1.mono HB0.out.size));have hz1:=hb1.size;clear hb1) | (go_at_call 15;refine (HBG.out _).mono ?_;rintro e w2 ⟨rfl,hb2⟩;have HB2:=hideC hb2;clear hb2))
   go_ret
   exact ⟨rfl,by have q:=((HB1.out.alloc HB1.out.size (.cells #[.slice s1 n1 c1,.slice s2 n2 c2,.slice s3 n3 c3,.slice s4 n4 c4,.int .i64 hd] 27)).alloc (by have:=HB1.out.size;simp;omega) (.cells #[.int .i64 f1,.int .i64 f2] 36));exact q.trans (HB2.out.mono q.size)⟩
 · have HRO:=HRY c
   clear HRY HRN c
   go_enter Tryz.func10,Tryz.ntmps10
   go_upto_region 1 with fail
   rw [<- HWA.out]
   go_upto_region 2 with (go_at_call 17;refine HRO.out.mono ?_;rintro e w1 ⟨s1,n1,c1,s2,n2,c2,s3,n3,c3,s4,n4,c4,hd,rfl,hc1,hb1⟩;have HC1:=hideC hc1;have HB1:=hideC hb1;clear hb1 hc1)
   have HBA:=hideC ((HB1.out.alloc HB1.out.size (.cells #[.slice s1 n1 c1,.slice s2 n2 c2,.slice s3 n3 c3,.slice s4 n4 c4,.int .i64 hd] 27)).alloc (by have:=HB1.out.size;simp;omega) (.cells #[.int .i64 0,.int .i64 0] 36))
   have HKA : Hid (Kp (fun b=>b < WA.heap.size) w1 ((w1.alloc (.cells #[.slice s1 n1 c1,.slice s2 n2 c2,.slice s3 n3 c3,.slice s4 n4 c4,.int .i64 hd] 27)).alloc (.cells #[.int .i64 0,.int .i64 0] 36))):=(Kp.alloc _ _ _).trans (Kp.alloc _ _ _) (fun _ _ g=>g)
   have NK:=hideC (B.alloc (B.new w1 #[.slice s1 n1 c1,.slice s2 n2 c2,.slice s3 n3 c3,.slice s4 n4 c4,.int .i64 hd] 27) (.cells #[.int .i64 0,.int .i64 0] 36))
   have NF:=hideC (KZ.n1 w1 (.cells #[.slice s1 n1 c1,.slice s2 n2 c2,.slice s3 n3 c3,.slice s4 n4 c4,.int .i64 hd] 27) #[.int .i64 0,.int .i64 0] 36)
   obtain ⟨W2,hW2⟩ : ∃ W2,W2 = (w1.alloc (.cells #[.slice s1 n1 c1,.slice s2 n2 c2,.slice s3 n3 c3,.slice s4 n4 c4,.int .i64 hd] 27)).alloc (.cells #[.int .i64 0,.int .i64 0] 36):=⟨_,rfl⟩
   obtain ⟨xb,hxb⟩ : ∃ xb,xb = w1.heap.size:=⟨_,rfl⟩
   rw [<- hW2] at HBA HKA NK NF ⊢
   rw [<- hxb] at NK NF ⊢
   clear hW2 hxb
   obtain ⟨x0,x1,x2,x3,x4⟩:=B.c5 NK.out
   obtain ⟨z0,z1⟩:=B.c2 NF.out
   obtain ⟨k0,k1,k2,k3,k4⟩:=B.c5 (KB.out _ HBA.out)
   go_upto_region 5 with (go_at_call 30;refine (HPK.out _ HBA.out).mono ?_;rintro e w3 ⟨rfl,hb3⟩;have HB3:=hideC hb3;obtain ⟨x0,x1,x2,x3,x4⟩:=B.c5 (B.below NK.out hb3 (B.isLt NK.out));have NK3:=hideC (B.below NK.out hb3 (B.isLt NK.out));clear hb3)
   have HU3:=hideC (HC1.out _ (HKA.out.trans (Kp.ofBelow HB3.out) (fun _ _ g=>g)))
   go_upto_region 6 with (go_at_call 30;refine HU3.out.1.mono ?_;rintro e w4 ⟨rfl,hb4⟩;have HB4:=hideC hb4;have NK4:=hideC (B.below NK3.out hb4 (B.isLt NK3.out));clear hb4)
   go_wp2_with (first | (go_at_call 15;refine (HBG.out _).mono ?_;rintro e w5 ⟨rfl,hb5⟩;have HB5:=hideC hb5;obtain ⟨v0,v1,v2,v3,v4⟩:=B.c5 (B.below NK4.out hb5 (B.isLt NK4.out));have HB45:=hideC (HB3.out.trans ((HB4.out.trans (HB5.out.mono HB4.out.size)).mono HB3.out.size));have HU5:=hideC (HC1.out _ (HKA.out.trans (Kp.ofBelow HB45.out) (fun _ _ g=>g)));clear hb5) | (go_at_call 24;refine HU5.out.2.mono ?_;rintro e w6 ⟨rfl,hb6⟩;have HB6:=hideC hb6;clear hb6))
   go_ret
   have q1:=HBA.out.trans (HB45.out.mono HBA.out.size)
   have q2:=q1.trans (HB6.out.mono q1.size)
   exact ⟨by simp,HB0.out.trans (q2.mono HB0.out.size)⟩
end KL
end Go.Proofs.YtpgifpeohlllfaaGreat
