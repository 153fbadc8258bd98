import Derived.Test.YtpgifpeohlllfaaGreatGH29
import Derived.Test.YtpgifpeohlllfaaGreatGH15
import Derived.Test.YtpgifpeohlllfaaGreatGH37
import Derived.Test.YtpgifpeohlllfaaGreatGH31
set_option maxHeartbeats 20000000
set_option linter.unusedVariables false
set_option maxRecDepth 100000
set_option linter.unusedSimpArgs false
namespace Go.Proofs.YtpgifpeohlllfaaGreat
namespace KL
open Go.RowKit GK KO
open FW (hideC add_below)
open KW (KAt HasK cellsK FitK liveK peekR)
open KZ (forkA dropA kn0)
open KY (forErr CopyK)
theorem live_of {k : KM.Kn} (h : KM.RightK k) {j : Nat} (hj : j < k.spaces.length) (hl : (KM.spAt k.spaces j).live = true) : liveK k (j : Int) = 0:=by
 unfold KW.liveK
 rw [if_pos ((KM.check_iff k).2 h),if_pos ⟨by omega,by omega,by rw [Int.toNat_natCast];exact hl⟩]
theorem peekR_of {k : KM.Kn} (h : KM.RightK k) {j : Nat} (hj : j < k.spaces.length) (hl : (KM.spAt k.spaces j).live = true) (p : Int) : peekR k (j : Int) p = if (AM.findN (KM.spAt k.spaces j).areas p).2 then (KM.peekK k j p,0) else (⟨#[]⟩,6):=by
 unfold KW.peekR
 rw [if_pos (live_of h hj hl),Int.toNat_natCast]
theorem peekR_dead {k : KM.Kn} (h : KM.RightK k) {j : Nat} (hl : (KM.spAt k.spaces j).live = false) (p : Int) : peekR k (j : Int) p = (⟨#[]⟩,6):=by
 have : liveK k (j : Int) = 6:=by
  unfold KW.liveK
  rw [if_pos ((KM.check_iff k).2 h),if_neg]
  rintro ⟨_,_,g⟩
  rw [Int.toNat_natCast,hl] at g
  cases g
 unfold KW.peekR
 rw [this,if_neg (by decide)]
theorem fork_cases (k : KM.Kn) (sp : Int) : (forkA k sp).2.2 ≠ 0 ∨ ∃ j : Nat,sp = (j : Int) /\ j < k.spaces.length /\ (KM.spAt k.spaces j).live = true /\ KM.RightK k /\ KM.RightK (KM.forkK k j) /\ forkA k sp = (KM.forkK k j,(k.spaces.length : Int),0):=by
 by_cases c : liveK k sp = 0
 · obtain ⟨hR,hs0,hj,hl⟩:=KY.live_right c
   by_cases c4 : k.spaces.length = 4
   · have e : forkA k sp = (kn0,0,2):=by unfold KZ.forkA;rw [if_neg (fun x=>x c),if_pos c4]
     rw [e];exact .inl (by decide)
   · by_cases cr : KM.room k.spaces + AM.totalN (KM.spAt k.spaces sp.toNat).areas > (k.slots.length : Int)
     · have e : forkA k sp = (kn0,0,8):=by unfold KZ.forkA;rw [if_neg (fun x=>x c),if_neg c4,if_pos cr]
       rw [e];exact .inl (by decide)
     · refine .inr ⟨sp.toNat,by omega,hj,hl,hR,KM.fork_right hR hj c4 (by omega),?_⟩
       unfold KZ.forkA
       rw [if_neg (fun x=>x c),if_neg c4,if_neg cr]
 · have e : forkA k sp = (kn0,0,liveK k sp):=by unfold KZ.forkA;rw [if_pos c]
   rw [e];exact .inl c
theorem fork_new {k : KM.Kn} (h : KM.RightK k) {j : Nat} (hj : j < k.spaces.length) : KM.spAt (KM.forkK k j).spaces k.spaces.length = KM.spAt k.spaces j /\ KM.spAt (KM.forkK k j).spaces j = KM.spAt k.spaces j /\ (KM.forkK k j).spaces.length = k.spaces.length + 1:=by
 have f:=(KM.fork_had h hj).spaces
 rw [f,KM.spAt_snoc,KM.spAt_snoc,if_neg (by omega),if_pos rfl,if_pos hj,List.length_append]
 exact ⟨rfl,rfl,rfl⟩
theorem fork_peekR {k : KM.Kn} (h : KM.RightK k) {j : Nat} (hj : j < k.spaces.length) (hl : (KM.spAt k.spaces j).live = true) (hf : KM.RightK (KM.forkK k j)) (p : Int) : peekR (KM.forkK k j) (k.spaces.length : Int) p = peekR k (j : Int) p:=by
 obtain ⟨e1,e2,e3⟩:=fork_new h hj
 rw [peekR_of hf (by omega) (by rw [e1];exact hl),peekR_of h hj hl,e1,KM.fork_peek h hj k.spaces.length j hj e1 p]
theorem drop_at {k : KM.Kn} {j : Nat} (hj : j < k.spaces.length) (m : Nat) : KM.spAt (KM.dropK k j).spaces m = if j = m then KM.sp0 else KM.spAt k.spaces m:=by
 have e : (KM.dropK k j).spaces = ((KM.forgetK k j (fun _=>true)).spaces.set j KM.sp0):=rfl
 rw [e,KM.forget_spaces,List.set_set,KM.spAt_set _ _ _ _ hj]
theorem drop_len {k : KM.Kn} {j : Nat} : (KM.dropK k j).spaces.length = k.spaces.length:=by
 have e : (KM.dropK k j).spaces = ((KM.forgetK k j (fun _=>true)).spaces.set j KM.sp0):=rfl
 rw [e,KM.forget_spaces,List.set_set,List.length_set]
theorem drop_peekR {k : KM.Kn} (h : KM.RightK k) {j m : Nat} (hj : j < k.spaces.length) (hm : m < k.spaces.length) (hne : m ≠ j) (hl : (KM.spAt k.spaces m).live = true) (p : Int) : peekR (KM.dropK k j) (m : Int) p = peekR k (m : Int) p:=by
 have e:=drop_at hj m
 rw [if_neg (fun x=>hne x.symm)] at e
 rw [peekR_of (KM.drop_right h hj) (by rw [drop_len];exact hm) (by rw [e];exact hl),peekR_of h hm hl,e,KM.drop_peek h hj hm hne]
set_option maxHeartbeats 8000000 in
theorem apart_any (hcp : CopyK) (k : KM.Kn) (a : KAt) (sp p : Int) (w : World) (hK : HasK w a k) (hF : FitK k) (hsp : M.I64 sp)
  (hbg : ∀ V,Calls Tryz.prog 15 #[] V fun e w'=>e = .returned (.bool true) /\ Below V.heap.size V w') :
  Calls Tryz.prog 12 #[.agg (cellsK a k),.int .i64 sp,.int .i64 p] w fun e w'=>e = .returned (.bool true) /\ Below w.heap.size w w':=by
 obtain ⟨WA,hWA⟩ : ∃ WA,WA = w.alloc (.cells (cellsK a k) 27):=⟨_,rfl⟩
 have hb0 : Below w.heap.size w WA:=by rw [hWA];exact (Below.refl _ _).alloc (Nat.le_refl _) _
 have kb : WA.heap[w.heap.size]? = some (.cells (cellsK a k) 27 (0,0)):=by rw [hWA];exact B.new w _ _
 have KB : Hid (∀ V,Below WA.heap.size WA V -> V.heap[w.heap.size]? = some (.cells #[.slice a.aS k.sheets.length a.cS,.slice a.aF k.frames.length a.cF,.slice a.aL k.slots.length a.cL,.slice a.aP k.spaces.length a.cP,.int .i64 k.hand] 27 (0,0))):=fun V hb=>B.below kb hb (B.isLt kb)
 obtain ⟨k0,k1,k2,k3,k4⟩:=B.c5 (KB.out WA (Below.refl _ _))
 have HWA:=hideC hWA
 have HB0:=hideC hb0
 have HBG:=hideC hbg
 have HFO:=KZ.fork_any hcp k a sp WA (hK.below hb0) hF hsp
 have HPK : Hid (∀ V,Below WA.heap.size WA V -> Calls Tryz.prog 30 #[.agg (cellsK a k),.int .i64 sp,.int .i64 p] V fun e w'=>e = .returned (.tuple #[.string (peekR k sp p).1,.int .i64 (peekR k sp p).2]) /\ Below V.heap.size V w'):=fun V hV=>KW.peek_any k a sp p V (hK.below (hb0.trans (hV.mono hb0.size))) hF hsp
 have hcs:=fork_cases k sp
 have HRN : Hid (Calls Tryz.prog 39 #[.agg (cellsK a k),.int .i64 sp] WA fun e w'=>∃ s1 n1 c1 s2 n2 c2 s3 n3 c3 s4 n4 c4 hd,e = .returned (.tuple #[.agg #[.slice s1 n1 c1,.slice s2 n2 c2,.slice s3 n3 c3,.slice s4 n4 c4,.int .i64 hd],.int .i64 (forkA k sp).2.1,.int .i64 (forkA k sp).2.2]) /\ Below WA.heap.size WA w'):=HFO.mono fun e w' h=>by
  obtain ⟨hs,a',h1,h2,h3,h4⟩:=KG.out_r h
  exact ⟨_,_,_,_,_,_,_,_,_,_,_,_,_,h2,h4⟩
 have HRY : (∃ j : Nat,sp = (j : Int) /\ j < k.spaces.length /\ (KM.spAt k.spaces j).live = true /\ KM.RightK k /\ KM.RightK (KM.forkK k j) /\ forkA k sp = (KM.forkK k j,(k.spaces.length : Int),0)) -> Hid (Calls Tryz.prog 39 #[.agg (cellsK a k),.int .i64 sp] WA fun e w'=>∃ s1 n1 c1 s2 n2 c2 s3 n3 c3 s4 n4 c4 hd,e = .returned (.tuple #[.agg #[.slice s1 n1 c1,.slice s2 n2 c2,.slice s3 n3 c3,.slice s4 n4 c4,.int .i64 hd],.int .i64 (k.spaces.length : Int),.int .i64 0]) /\ (∀ U,Kp (fun b=>b < WA.heap.size) w' U -> (Calls Tryz.prog 30 #[.agg #[.slice s1 n1 c1,.slice s2 n2 c2,.slice s3 n3 c3,.slice s4 n4 c4,.int .i64 hd],.int .i64 (k.spaces.length : Int),.int .i64 p] U fun e w'=>e = .returned (.tuple #[.string (peekR k sp p).1,.int .i64 (peekR k sp p).2]) /\ Below U.heap.size U w') /\ (Calls Tryz.prog 24 #[.agg #[.slice s1 n1 c1,.slice s2 n2 c2,.slice s3 n3 c3,.slice s4 n4 c4,.int .i64 hd]] U fun e w'=>e = .returned (.int .i64 0) /\ Below U.heap.size U w') /\ (Calls Tryz.prog 40 #[.agg #[.slice s1 n1 c1,.slice s2 n2 c2,.slice s3 n3 c3,.slice s4 n4 c4,.int .i64 hd],.int .i64 sp] U fun e w'=>∃ s1d n1d c1d s2d n2d c2d s3d n3d c3d s4d n4d c4d hdd,e = .returned (.tuple #[.agg #[.slice s1d n1d c1d,.slice s2d n2d c2d,.slice s3d n3d c3d,.slice s4d n4d c4d,.int .i64 hdd],.int .i64 0]) /\ (∀ Y,Kp (fun b=>b < U.heap.size) w' Y -> (Calls Tryz.prog 30 #[.agg #[.slice s1d n1d c1d,.slice s2d n2d c2d,.slice s3d n3d c3d,.slice s4d n4d c4d,.int .i64 hdd],.int .i64 (k.spaces.length : Int),.int .i64 p] Y fun e w'=>e = .returned (.tuple #[.string (peekR k sp p).1,.int .i64 (peekR k sp p).2]) /\ Below Y.heap.size Y w') /\ (Calls Tryz.prog 30 #[.agg #[.slice s1d n1d c1d,.slice s2d n2d c2d,.slice s3d n3d c3d,.slice s4d n4d c4d,.int .i64 hdd],.int .i64 sp,.int .i64 p] Y fun e w'=>e = .returned (.tuple #[.string ⟨#[]⟩,.int .i64 6]) /\ Below Y.heap.size Y w') /\ (Calls Tryz.prog 24 #[.agg #[.slice s1d n1d c1d,.slice s2d n2d c2d,.slice s3d n3d c3d,.slice s4d n4d c4d,.int .i64 hdd]] Y fun e w'=>e = .returned (.int .i64 0) /\ Below Y.heap.size Y w')) /\ Below U.heap.size U w')) /\ Below WA.heap.size WA w'):=fun ⟨j,hje,hj,hl,hR,hRf,he⟩=>HFO.mono fun e w' h=>by
  rw [he] at h
  obtain ⟨hs,a',h1,h2,h3,h4⟩:=KG.out_r h
  subst hje
  obtain ⟨e1,e2,e3⟩:=fork_new hR hj
  have hrs:=hRf.withS h1
  have hfit:=KG.fit_right hrs
  have hc4:=hRf.c
  have hI : M.I64 (k.spaces.length : Int):=⟨by omega,by omega⟩
  refine ⟨_,_,_,_,_,_,_,_,_,_,_,_,_,h2,fun U hU=>⟨?_,?_,?_⟩,h4⟩
  · have:=KW.peek_any _ a' (k.spaces.length : Int) p U (h3 U hU) hfit hI
    rw [peekR_withS hRf h1,fork_peekR hR hj hl hRf] at this
    exact this
  · have:=KW.check_any _ a' U (h3 U hU) hfit
    rw [check_withS hRf h1] at this
    exact this
  · refine (KZ.drop_any hcp _ a' (j : Int) U (h3 U hU) hfit hsp).mono fun e w'' g=>?_
    have hlv : liveK (KM.withS (KM.forkK k j) hs) (j : Int) = 0:=by
     rw [live_withS hRf h1]
     exact live_of hRf (by omega) (by rw [e2];exact hl)
    have ed : dropA (KM.withS (KM.forkK k j) hs) (j : Int) = (KM.dropK (KM.withS (KM.forkK k j) hs) j,0):=by
     unfold KZ.dropA
     rw [if_neg (fun x=>x hlv),Int.toNat_natCast]
    rw [ed] at g
    obtain ⟨hs2,a2,g1,g2,g3,g4⟩:=KG.out_r g
    have hjf : j < (KM.withS (KM.forkK k j) hs).spaces.length:=by show j < (KM.forkK k j).spaces.length;omega
    have hRd:=KM.drop_right hrs hjf
    have hrs2:=hRd.withS g1
    have hfit2:=KG.fit_right hrs2
    refine ⟨_,_,_,_,_,_,_,_,_,_,_,_,_,g2,fun Y hY=>⟨?_,?_,?_⟩,g4⟩
    · have:=KW.peek_any _ a2 (k.spaces.length : Int) p Y (g3 Y hY) hfit2 hI
      rw [peekR_withS hRd g1,drop_peekR hrs hjf (by show k.spaces.length < (KM.forkK k j).spaces.length;omega) (by omega) (by show (KM.spAt (KM.forkK k j).spaces k.spaces.length).live = true;rw [e1];exact hl),peekR_withS hRf h1,fork_peekR hR hj hl hRf] at this
      exact this
    · have:=KW.peek_any _ a2 (j : Int) p Y (g3 Y hY) hfit2 hsp
      rw [peekR_withS hRd g1,peekR_dead hRd (by rw [drop_at hjf,if_pos rfl];rfl)] at this
      exact this
    · have:=KW.check_any _ a2 Y (g3 Y hY) hfit2
      rw [check_withS hRd g1] at this
      exact this
 obtain ⟨R,hR⟩ : ∃ R,R = forkA k sp:=⟨_,rfl⟩
 rw [<- hR] at hcs HRN HRY
 obtain ⟨rk,rn,er⟩:=R
 obtain ⟨PS,hPS⟩ : ∃ PS,PS = (peekR k sp p).1:=⟨_,rfl⟩
 obtain ⟨PE,hPE⟩ : ∃ PE,PE = (peekR k sp p).2:=⟨_,rfl⟩
 rw [<- hPS,<- hPE] at HPK HRY
 simp only at hcs HRN
 unfold cellsK at HRN HRY HPK HWA ⊢
 clear hK hF hsp hbg HFO hb0 kb hWA hR hPS hPE
 rcases hcs with c | c
 · have cb : (er != 0) = true:=by simpa using c
   clear HRY HPK
   go_enter Tryz.func12,Tryz.ntmps12
   go_upto_region 1 with fail
   rw [<- HWA.out]
   go_wp2_with (first | (go_at_call 39;refine HRN.out.mono ?_;rintro e w1 ⟨s1,n1,c1,s2,n2,c2,s3,n3,c3,s4,n4,c4,hd,rfl,hb1⟩;have HB1:=hideC (HB0.out.trans (hb1.mono HB0.out.size));clear hb1) | (go_at_call 15;refine (HBG.out _).mono ?_;rintro e w2 ⟨rfl,hb2⟩;have HB2:=hideC hb2;clear hb2))
   go_ret
   exact ⟨rfl,by have q:=HB1.out.alloc HB1.out.size (.cells #[.slice s1 n1 c1,.slice s2 n2 c2,.slice s3 n3 c3,.slice s4 n4 c4,.int .i64 hd] 27);exact q.trans (HB2.out.mono q.size)⟩
 · have HRO:=HRY c
   clear HRY HRN c
   go_enter Tryz.func12,Tryz.ntmps12
   go_upto_region 1 with fail
   rw [<- HWA.out]
   go_upto_region 2 with (go_at_call 39;refine HRO.out.mono ?_;rintro e w1 ⟨s1,n1,c1,s2,n2,c2,s3,n3,c3,s4,n4,c4,hd,rfl,hc1,hb1⟩;have HC1:=hideC hc1;have HB1:=hideC hb1;clear hb1 hc1)
   have HBA:=hideC (HB1.out.alloc HB1.out.size (.cells #[.slice s1 n1 c1,.slice s2 n2 c2,.slice s3 n3 c3,.slice s4 n4 c4,.int .i64 hd] 27))
   have HKA : Hid (Kp (fun b=>b < WA.heap.size) w1 (w1.alloc (.cells #[.slice s1 n1 c1,.slice s2 n2 c2,.slice s3 n3 c3,.slice s4 n4 c4,.int .i64 hd] 27))):=Kp.alloc _ _ _
   have NK:=hideC (B.new w1 #[.slice s1 n1 c1,.slice s2 n2 c2,.slice s3 n3 c3,.slice s4 n4 c4,.int .i64 hd] 27)
   obtain ⟨W2,hW2⟩ : ∃ W2,W2 = w1.alloc (.cells #[.slice s1 n1 c1,.slice s2 n2 c2,.slice s3 n3 c3,.slice s4 n4 c4,.int .i64 hd] 27):=⟨_,rfl⟩
   obtain ⟨xb,hxb⟩ : ∃ xb,xb = w1.heap.size:=⟨_,rfl⟩
   rw [<- hW2] at HBA HKA NK ⊢
   rw [<- hxb] at NK ⊢
   clear hW2 hxb
   obtain ⟨k0,k1,k2,k3,k4⟩:=B.c5 (KB.out _ HBA.out)
   go_upto_region 5 with (go_at_call 30;refine (HPK.out _ HBA.out).mono ?_;rintro e w3 ⟨rfl,hb3⟩;have HB3:=hideC hb3;obtain ⟨x0,x1,x2,x3,x4⟩:=B.c5 (B.below NK.out hb3 (B.isLt NK.out));have NK3:=hideC (B.below NK.out hb3 (B.isLt NK.out));clear hb3)
   have HU3:=hideC (HC1.out _ (HKA.out.trans (Kp.ofBelow HB3.out) (fun _ _ g=>g)))
   go_upto_region 6 with (go_at_call 30;refine HU3.out.1.mono ?_;rintro e w4 ⟨rfl,hb4⟩;have HB4:=hideC (HB3.out.trans (hb4.mono HB3.out.size));have NK4:=hideC (B.below NK3.out hb4 (B.isLt NK3.out));obtain ⟨x0,x1,x2,x3,x4⟩:=B.c5 NK4.out;clear hb4)
   have HU4:=hideC (HC1.out _ (HKA.out.trans (Kp.ofBelow HB4.out) (fun _ _ g=>g)))
   go_upto_region 7 with (go_at_call 40;refine HU4.out.2.2.mono ?_;rintro e w5 ⟨s1d,n1d,c1d,s2d,n2d,c2d,s3d,n3d,c3d,s4d,n4d,c4d,hdd,rfl,hc5,hb5⟩;have HC5:=hideC hc5;have HL5:=hideC hb5;clear hb5 hc5)
   have HB5:=hideC ((HB4.out.trans (HL5.out.mono HB4.out.size)).alloc (HB4.out.trans (HL5.out.mono HB4.out.size)).size (.cells #[.slice s1d n1d c1d,.slice s2d n2d c2d,.slice s3d n3d c3d,.slice s4d n4d c4d,.int .i64 hdd] 27))
   have HKD : Hid (Kp (fun b=>b < w4.heap.size) w5 (w5.alloc (.cells #[.slice s1d n1d c1d,.slice s2d n2d c2d,.slice s3d n3d c3d,.slice s4d n4d c4d,.int .i64 hdd] 27))):=Kp.alloc _ _ _
   have ND:=hideC (B.new w5 #[.slice s1d n1d c1d,.slice s2d n2d c2d,.slice s3d n3d c3d,.slice s4d n4d c4d,.int .i64 hdd] 27)
   obtain ⟨W6,hW6⟩ : ∃ W6,W6 = w5.alloc (.cells #[.slice s1d n1d c1d,.slice s2d n2d c2d,.slice s3d n3d c3d,.slice s4d n4d c4d,.int .i64 hdd] 27):=⟨_,rfl⟩
   obtain ⟨yb,hyb⟩ : ∃ yb,yb = w5.heap.size:=⟨_,rfl⟩
   rw [<- hW6] at HB5 HKD ND ⊢
   rw [<- hyb] at ND ⊢
   clear hW6 hyb
   obtain ⟨z0,z1,z2,z3,z4⟩:=B.c5 ND.out
   have HU6:=hideC (HC5.out _ HKD.out)
   go_upto_region 8 with (go_at_call 30;refine HU6.out.1.mono ?_;rintro e w7 ⟨rfl,hb7⟩;have HL7:=hideC hb7;obtain ⟨z0,z1,z2,z3,z4⟩:=B.c5 (B.below ND.out hb7 (B.isLt ND.out));clear hb7)
   have HU7:=hideC (HC5.out _ (HKD.out.trans (Kp.ofBelow HL7.out) (fun _ _ g=>g)))
   go_upto_region 9 with (go_at_call 30;refine HU7.out.2.1.mono ?_;rintro e w8 ⟨rfl,hb8⟩;have HL8:=hideC (HL7.out.trans (hb8.mono HL7.out.size));clear hb8)
   go_wp2_with (first
    | (go_at_call 15;refine (HBG.out _).mono ?_;rintro e w9 ⟨rfl,hb9⟩;have HL9:=hideC (HL8.out.trans (hb9.mono HL8.out.size));have HBZ:=hideC (HB5.out.trans (HL9.out.mono HB5.out.size));obtain ⟨x0,x1,x2,x3,x4⟩:=B.c5 (B.below NK.out HBZ.out (B.isLt NK.out));have HU9:=hideC (HC1.out _ (HKA.out.trans (Kp.ofBelow HBZ.out) (fun _ _ g=>g)));have FIRST:=trivial;clear hb9)
    | (have _:=SECOND;go_at_call 24;refine HUA.out.2.2.mono ?_;rintro e wB ⟨rfl,hbB⟩;have HLB:=hideC (HLA.out.trans (hbB.mono HLA.out.size));clear hbB)
    | (have _:=FIRST;go_at_call 24;refine HU9.out.2.1.mono ?_;rintro e wA ⟨rfl,hbA⟩;have HLA:=hideC (HL9.out.trans (hbA.mono HL9.out.size));obtain ⟨z0,z1,z2,z3,z4⟩:=B.c5 (B.below ND.out HLA.out (B.isLt ND.out));have HUA:=hideC (HC5.out _ (HKD.out.trans (Kp.ofBelow HLA.out) (fun _ _ g=>g)));have SECOND:=trivial;clear hbA FIRST))
   go_ret
   have q1:=HB5.out.trans (HLB.out.mono HB5.out.size)
   have q2:=HBA.out.trans (q1.mono HBA.out.size)
   exact ⟨by simp,HB0.out.trans (q2.mono HB0.out.size)⟩
end KL
end Go.Proofs.YtpgifpeohlllfaaGreat
