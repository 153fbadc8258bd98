import Derived.Test.YtpgifpeohlllfaaGreatGH29
import Derived.Test.YtpgifpeohlllfaaGreatGH15
import Derived.Test.YtpgifpeohlllfaaGreatGH31
set_option maxHeartbeats 20000000
set_option linter.unusedVariables false
set_option maxRecDepth 100000
set_option linter.unusedSimpArgs false
namespace Go.Proofs.YtpgifpeohlllfaaGreat
namespace KL
open Go.RowKit GK KO
open FW (hideC add_below)
open KW (KAt HasK cellsK FitK liveK peekR)
open KZ (storeA loadA kn0)
open KY (forErr CopyK)
theorem fault_read {l : List AM.Ar} {a n : Int} (h0 : 16 <= a) (h : ∀ i,0 <= i -> i < n -> (AM.findN l ((a + i) / 16)).2 = true) : FM.faultN l a n 0 = (0,0):=by
 have all : ∀ m : Nat,(m : Int) <= n -> FM.bytesN l a 0 m = (0,0):=fun m=>by
  induction m with
  | zero=>intro _;rfl
  | succ m ih =>
   intro hm
   rw [FM.bytes_step (ih (by omega))]
   exact FM.byte_ok (by omega) (h m (by omega) (by omega)) (by unfold FM.noRight;simp)
 unfold FM.faultN
 rw [if_neg (fun g=>absurd g.1 (by decide))]
 by_cases c : 0 <= n
 · exact all n.toNat (by omega)
 · have : n.toNat = 0:=by omega
   rw [this];rfl
theorem load_back {k : KM.Kn} {sp ad : Int} {d : ByteArray} {j : Nat} (hf : Fine k sp ad d.size j) (hg : (FM.faultN (KM.spAt k.spaces j).areas ad d.size 1).1 = 0) {hs : List LM.Sh} (s : KM.Same (KM.storeK k j ad d).sheets hs) : KM.Stored k j ad d (KM.storeK k j ad d) /\ loadA (KM.withS (KM.storeK k j ad d) hs) sp ad d.size 0 = ((KM.reachK (KM.withS (KM.storeK k j ad d) hs) j ad d.size 0).2,d,(0,0),0) /\ KM.Reached (KM.withS (KM.storeK k j ad d) hs) j ad d.size 0:=by
 have S:=KM.store_had hf.right hf.lt ad d hf.size.1 hf.size.2 hf.one hf.two
 have R:=S.right.withS s
 have hj : j < (KM.withS (KM.storeK k j ad d) hs).spaces.length:=by show j < (KM.storeK k j ad d).spaces.length;rw [S.np];exact hf.lt
 have hl : (KM.spAt (KM.withS (KM.storeK k j ad d) hs).spaces j).live = true:=(S.live j hf.lt).trans hf.live
 have ha : (KM.spAt (KM.withS (KM.storeK k j ad d) hs).spaces j).areas = (KM.spAt k.spaces j).areas:=S.areas j hf.lt
 have m1 : KM.mapped (KM.withS (KM.storeK k j ad d) hs) j (ad / 16):=by unfold KM.mapped;rw [ha];exact hf.one
 have m2 : KM.mapped (KM.withS (KM.storeK k j ad d) hs) j (KM.lastPg ad d.size):=by unfold KM.mapped;rw [ha];exact hf.two
 have RR:=KM.reach_had R hj ad d.size 0 m1 m2
 refine ⟨S,?_,RR⟩
 have hlv : liveK (KM.withS (KM.storeK k j ad d) hs) sp = 0:=by
  unfold KW.liveK
  rw [if_pos ((KM.check_iff _).2 R),if_pos]
  rw [hf.sp,Int.toNat_natCast]
  exact ⟨by omega,by omega,hl⟩
 have he : forErr (KM.withS (KM.storeK k j ad d) hs) sp d.size 0 [0,2] = 0:=by
  unfold KY.forErr
  rw [if_neg (fun x=>x hlv),if_neg (fun x=>x hf.size),if_pos (by simp)]
 obtain ⟨_,f1,_,f2⟩:=KX.fault_none hf.size.1 hf.size.2 hg
 have hfa : FM.faultN (KM.spAt (KM.withS (KM.storeK k j ad d) hs).spaces sp.toNat).areas ad d.size 0 = (0,0):=by
  rw [hf.sp,Int.toNat_natCast,ha]
  exact fault_read f1 f2
 unfold KZ.loadA
 rw [if_neg (fun x=>x he),hfa,if_neg (fun x=>x rfl),hf.sp,Int.toNat_natCast]
 have hpg : KM.Pgs (KM.peekK k j) ad d.size:=⟨KM.peek_size hf.right hf.lt hf.one,KM.peek_size hf.right hf.lt hf.two⟩
 have ep : KM.peekK (KM.withS (KM.storeK k j ad d) hs) j = KM.storeB (KM.peekK k j) ad d:=by
  funext p
  rw [KM.peek_withS s,S.peek j hf.lt p,if_pos rfl]
 rw [KM.load_eq R hj ad d.size 0 m1 m2,ep,KM.load_store hpg hf.size.1 hf.size.2]
theorem peek_back {k : KM.Kn} {sp ad : Int} {d : ByteArray} {j : Nat} (hf : Fine k sp ad d.size j) (ot p : Int) : (peekR (KM.storeK k j ad d) ot p).2 = (peekR k ot p).2 /\ (peekR (KM.storeK k j ad d) ot p).1.size = (peekR k ot p).1.size /\ (peekR k ot p).1.size <= 16 /\ ∀ i : Nat,i < (peekR k ot p).1.size -> (ot ≠ sp ∨ p * 16 + i < ad ∨ ad + d.size <= p * 16 + i) -> (peekR (KM.storeK k j ad d) ot p).1.data.toList[i]? = (peekR k ot p).1.data.toList[i]?:=by
 have S:=KM.store_had hf.right hf.lt ad d hf.size.1 hf.size.2 hf.one hf.two
 have hpg : KM.Pgs (KM.peekK k j) ad d.size:=⟨KM.peek_size hf.right hf.lt hf.one,KM.peek_size hf.right hf.lt hf.two⟩
 have hlv:=live_eq hf.right S.right S.np S.live ot
 unfold KW.peekR
 rw [hlv]
 by_cases c : liveK k ot = 0
 · obtain ⟨_,o0,oj,_⟩:=KY.live_right c
   rw [if_pos c,if_pos c,S.areas _ oj,S.peek _ oj]
   by_cases g : (AM.findN (KM.spAt k.spaces ot.toNat).areas p).2 = true
   · rw [if_pos g,if_pos g]
     have h16:=KM.peek_size hf.right oj g
     by_cases e : ot.toNat = j
     · rw [if_pos e]
       rw [e] at h16 ⊢
       have z:=KM.store_size hpg hf.size.1 hf.size.2 p h16
       refine ⟨rfl,by show (KM.storeB _ _ _ _).size = _;rw [z,h16],by show (KM.peekK k j p).size <= 16;omega,fun i hi hc=>?_⟩
       have hi : i < (KM.peekK k j p).size:=hi
       show (KM.storeB _ _ _ _).data.toList[i]? = (KM.peekK k j p).data.toList[i]?
       rw [KM.store_get hpg hf.size.1 hf.size.2 p i (by omega),if_neg]
       rcases hc with hc | hc | hc
       · exact fun _=>hc (by rw [hf.sp];omega)
       · omega
       · omega
     · rw [if_neg e]
       exact ⟨rfl,rfl,by show (KM.peekK k ot.toNat p).size <= 16;omega,fun _ _ _=>rfl⟩
   · rw [if_neg g,if_neg g]
     exact ⟨rfl,rfl,by decide,fun _ _ _=>rfl⟩
 · rw [if_neg c,if_neg c]
   exact ⟨rfl,rfl,by show (0 : Nat) <= 16;decide,fun _ _ _=>rfl⟩
theorem byte_same {P Q : ByteArray} {i : Nat} (h1 : i < P.size) (h2 : i < Q.size) (h : Q.data.toList[i]? = P.data.toList[i]?) : (((P[i]'h1).toNat : Int) != ((Q[i]'h2).toNat : Int)) = false:=by
 have e1 : P.data.toList[i]? = some (P[i]'h1):=by rw [List.getElem?_eq_getElem (by simpa using h1)];rfl
 have e2 : Q.data.toList[i]? = some (Q[i]'h2):=by rw [List.getElem?_eq_getElem (by simpa using h2)];rfl
 rw [e1,e2] at h
 injection h with h
 rw [h]
 simp
set_option maxHeartbeats 4000000 in
theorem choose_any (c : Int) (hc : M.I64 c) (w : World) : Calls Tryz.prog 43 #[.int .i64 c,.int .i64 4080] w fun e w'=>∃ m : Int,e = .returned (.int .i64 m) /\ (0 <= m /\ m < 4080) /\ w' = w:=by
 obtain ⟨h1,h2⟩:=hc
 by_cases g : c < 0
 · have e : (c + 1).tmod 4080 = -((-(c + 1)) % 4080):=by
    rw [<- Int.tmod_eq_emod_of_nonneg (by omega),Int.neg_tmod,Int.neg_neg]
   go_enter Tryz.func43,Tryz.ntmps43
   go_wp2
   go_ret
   exact ⟨_,rfl,by omega,rfl⟩
 · go_enter Tryz.func43,Tryz.ntmps43
   go_wp2
   go_ret
   exact ⟨_,rfl,by omega,rfl⟩
set_option maxHeartbeats 8000000 in
theorem holds_any (hcp : CopyK) (k : KM.Kn) (a : KAt) (sp ad : Int) (d : ByteArray) (ot at_ : Int) (w : World) (hK : HasK w a k) (hF : FitK k) (hsp : M.I64 sp) (had : M.I64 ad) (hot : M.I64 ot) (hat : M.I64 at_)
  (hbg : ∀ V,Calls Tryz.prog 15 #[] V fun e w'=>e = .returned (.bool true) /\ Below V.heap.size V w') :
  Calls Tryz.prog 11 #[.agg (cellsK a k),.int .i64 sp,.int .i64 ad,.string d,.int .i64 ot,.int .i64 at_] w fun e w'=>e = .returned (.bool true) /\ Below w.heap.size w w':=by
 obtain ⟨WA,hWA⟩ : ∃ WA,WA = w.alloc (.cells (cellsK a k) 27):=⟨_,rfl⟩
 have hb0 : Below w.heap.size w WA:=by rw [hWA];exact (Below.refl _ _).alloc (Nat.le_refl _) _
 have kb : WA.heap[w.heap.size]? = some (.cells (cellsK a k) 27 (0,0)):=by rw [hWA];exact B.new w _ _
 have KB : Hid (∀ V,Below WA.heap.size WA V -> V.heap[w.heap.size]? = some (.cells #[.slice a.aS k.sheets.length a.cS,.slice a.aF k.frames.length a.cF,.slice a.aL k.slots.length a.cL,.slice a.aP k.spaces.length a.cP,.int .i64 k.hand] 27 (0,0))):=fun V hb=>B.below kb hb (B.isLt kb)
 obtain ⟨k0,k1,k2,k3,k4⟩:=B.c5 (KB.out WA (Below.refl _ _))
 have HWA:=hideC hWA
 have HB0:=hideC hb0
 have HBG:=hideC hbg
 have HST:=KZ.store_any hcp k a sp ad d WA (hK.below hb0) hF hsp had
 have HPK : Hid (∀ p V,Below WA.heap.size WA V -> Calls Tryz.prog 30 #[.agg (cellsK a k),.int .i64 ot,.int .i64 p] V fun e w'=>e = .returned (.tuple #[.string (peekR k ot p).1,.int .i64 (peekR k ot p).2]) /\ Below V.heap.size V w'):=fun p V hV=>KW.peek_any k a ot p V (hK.below (hb0.trans (hV.mono hb0.size))) hF hot
 have hcs:=store_cases k sp ad d
 have HRN : Hid (Calls Tryz.prog 28 #[.agg (cellsK a k),.int .i64 sp,.int .i64 ad,.string d] WA fun e w'=>∃ s1 n1 c1 s2 n2 c2 s3 n3 c3 s4 n4 c4 hd,e = .returned (.tuple #[.agg #[.slice s1 n1 c1,.slice s2 n2 c2,.slice s3 n3 c3,.slice s4 n4 c4,.int .i64 hd],.agg #[.int .i64 (storeA k sp ad d).2.1.1,.int .i64 (storeA k sp ad d).2.1.2],.int .i64 (storeA k sp ad d).2.2]) /\ Below WA.heap.size WA w'):=HST.mono fun e w' h=>by
  obtain ⟨hs,a',h1,h2,h3,h4⟩:=KG.out_r h
  exact ⟨_,_,_,_,_,_,_,_,_,_,_,_,_,h2,h4⟩
 have HRY : (∃ j,Fine k sp ad d.size j /\ (FM.faultN (KM.spAt k.spaces j).areas ad d.size 1).1 = 0 /\ storeA k sp ad d = (KM.storeK k j ad d,(0,0),0)) -> Hid (Calls Tryz.prog 28 #[.agg (cellsK a k),.int .i64 sp,.int .i64 ad,.string d] WA fun e w'=>∃ s1 n1 c1 s2 n2 c2 s3 n3 c3 s4 n4 c4 hd,e = .returned (.tuple #[.agg #[.slice s1 n1 c1,.slice s2 n2 c2,.slice s3 n3 c3,.slice s4 n4 c4,.int .i64 hd],.agg #[.int .i64 0,.int .i64 0],.int .i64 0]) /\ (∀ U,Kp (fun b=>b < WA.heap.size) w' U -> (Calls Tryz.prog 25 #[.agg #[.slice s1 n1 c1,.slice s2 n2 c2,.slice s3 n3 c3,.slice s4 n4 c4,.int .i64 hd],.int .i64 sp,.int .i64 ad,.int .i64 (d.size : Int),.int .i64 0] U fun e w'=>∃ s1d n1d c1d s2d n2d c2d s3d n3d c3d s4d n4d c4d hdd,e = .returned (.tuple #[.agg #[.slice s1d n1d c1d,.slice s2d n2d c2d,.slice s3d n3d c3d,.slice s4d n4d c4d,.int .i64 hdd],.string d,.agg #[.int .i64 0,.int .i64 0],.int .i64 0]) /\ (∀ Y,Kp (fun b=>b < U.heap.size) w' Y -> (Calls Tryz.prog 24 #[.agg #[.slice s1d n1d c1d,.slice s2d n2d c2d,.slice s3d n3d c3d,.slice s4d n4d c4d,.int .i64 hdd]] Y fun e w'=>e = .returned (.int .i64 0) /\ Below Y.heap.size Y w') /\ (∀ p,Calls Tryz.prog 30 #[.agg #[.slice s1d n1d c1d,.slice s2d n2d c2d,.slice s3d n3d c3d,.slice s4d n4d c4d,.int .i64 hdd],.int .i64 ot,.int .i64 p] Y fun e w'=>e = .returned (.tuple #[.string (peekR (KM.storeK k sp.toNat ad d) ot p).1,.int .i64 (peekR (KM.storeK k sp.toNat ad d) ot p).2]) /\ Below Y.heap.size Y w')) /\ Below U.heap.size U w')) /\ Below WA.heap.size WA w'):=fun ⟨j,hf,hg,he⟩=>HST.mono fun e w' h=>by
  rw [he] at h
  obtain ⟨hs,a',h1,h2,h3,h4⟩:=KG.out_r h
  obtain ⟨S,el,R⟩:=load_back hf hg h1
  have hrs:=S.right.withS h1
  have hfit:=KG.fit_right hrs
  refine ⟨_,_,_,_,_,_,_,_,_,_,_,_,_,h2,fun U hU=>?_,h4⟩
  refine (KZ.load_any hcp _ a' sp ad d.size 0 U (h3 U hU) hfit hsp had).mono fun e w'' g=>?_
  rw [el] at g
  obtain ⟨hs2,a2,g1,g2,g3,g4⟩:=KG.out_r g
  have hrs2:=R.right.withS g1
  have hfit2:=KG.fit_right hrs2
  have hje : sp.toNat = j:=by rw [hf.sp,Int.toNat_natCast]
  refine ⟨_,_,_,_,_,_,_,_,_,_,_,_,_,g2,fun Y hY=>⟨?_,fun p=>?_⟩,g4⟩
  · have:=KW.check_any _ a2 Y (g3 Y hY) hfit2
    rw [check_withS R.right g1] at this
    exact this
  · have:=KW.peek_any _ a2 ot p Y (g3 Y hY) hfit2 hot
    rw [peekR_withS R.right g1,peekR_kept hrs R.right R.kept,peekR_withS S.right h1] at this
    rw [hje]
    exact this
 have HPB : (∃ j,Fine k sp ad d.size j /\ (FM.faultN (KM.spAt k.spaces j).areas ad d.size 1).1 = 0 /\ storeA k sp ad d = (KM.storeK k j ad d,(0,0),0)) -> Hid (∀ p,∃ P Q E,peekR k ot p = (P,E) /\ peekR (KM.storeK k sp.toNat ad d) ot p = (Q,E) /\ Q.size = P.size /\ P.size <= 16 /\ ∀ i : Nat,i < P.size -> (ot ≠ sp ∨ p * 16 + i < ad ∨ ad + d.size <= p * 16 + i) -> Q.data.toList[i]? = P.data.toList[i]?):=fun ⟨j,hf,hg,he⟩ p=>by
  have hje : sp.toNat = j:=by rw [hf.sp,Int.toNat_natCast]
  obtain ⟨h1,h2,h3,h4⟩:=peek_back hf ot p
  rw [hje]
  exact ⟨_,_,_,rfl,Prod.ext rfl h1,h2,h3,h4⟩
 have HBD : (∃ j,Fine k sp ad d.size j /\ (FM.faultN (KM.spAt k.spaces j).areas ad d.size 1).1 = 0 /\ storeA k sp ad d = (KM.storeK k j ad d,(0,0),0)) -> 16 <= ad /\ ad + d.size <= 4096 /\ d.size <= 8:=fun ⟨j,hf,_,_⟩=>⟨hf.lo,hf.hi,by have:=hf.size.2;omega⟩
 obtain ⟨R,hR⟩ : ∃ R,R = storeA k sp ad d:=⟨_,rfl⟩
 rw [<- hR] at hcs HRN HRY HPB HBD
 obtain ⟨rk,⟨f1,f2⟩,er⟩:=R
 simp only at hcs HRN
 have HCH:=hideC (fun V=>choose_any at_ hat V)
 unfold cellsK at HRN HRY HPK HWA ⊢
 clear hK hF hsp had hot hbg HST hb0 kb hWA hR hat
 rcases hcs with c | ⟨c,d2⟩ | c
 · have cb : (er != 0) = true:=by simpa using c
   clear HRY HPK HPB HBD
   go_enter Tryz.func11,Tryz.ntmps11
   go_upto_region 1 with fail
   rw [<- HWA.out]
   go_wp2_with (first | (go_at_call 28;refine HRN.out.mono ?_;rintro e w1 ⟨s1,n1,c1,s2,n2,c2,s3,n3,c3,s4,n4,c4,hd,rfl,hb1⟩;have HB1:=hideC (HB0.out.trans (hb1.mono HB0.out.size));clear hb1) | (go_at_call 15;refine (HBG.out _).mono ?_;rintro e w2 ⟨rfl,hb2⟩;have HB2:=hideC hb2;clear hb2))
   go_ret
   exact ⟨rfl,by have q:=((HB1.out.alloc HB1.out.size (.cells #[.slice s1 n1 c1,.slice s2 n2 c2,.slice s3 n3 c3,.slice s4 n4 c4,.int .i64 hd] 27)).alloc (by have:=HB1.out.size;simp;omega) (.cells #[.int .i64 f1,.int .i64 f2] 36));exact q.trans (HB2.out.mono q.size)⟩
 · have cb : (er != 0) = false:=by simpa using c
   have db : (f1 != 0) = true:=by simpa using d2
   clear HRY HPK HPB HBD
   go_enter Tryz.func11,Tryz.ntmps11
   go_upto_region 1 with fail
   rw [<- HWA.out]
   go_wp2_with (first | (go_at_call 28;refine HRN.out.mono ?_;rintro e w1 ⟨s1,n1,c1,s2,n2,c2,s3,n3,c3,s4,n4,c4,hd,rfl,hb1⟩;have HB1:=hideC (HB0.out.trans (hb1.mono HB0.out.size));clear hb1) | (go_at_call 15;refine (HBG.out _).mono ?_;rintro e w2 ⟨rfl,hb2⟩;have HB2:=hideC hb2;clear hb2))
   go_ret
   exact ⟨rfl,by have q:=((HB1.out.alloc HB1.out.size (.cells #[.slice s1 n1 c1,.slice s2 n2 c2,.slice s3 n3 c3,.slice s4 n4 c4,.int .i64 hd] 27)).alloc (by have:=HB1.out.size;simp;omega) (.cells #[.int .i64 f1,.int .i64 f2] 36));exact q.trans (HB2.out.mono q.size)⟩
 · have HRO:=HRY c
   have HPP:=HPB c
   obtain ⟨hlo,hhi,hd8⟩:=HBD c
   clear HRY HRN HPB HBD c
   go_enter Tryz.func11,Tryz.ntmps11
   go_upto_region 1 with fail
   rw [<- HWA.out]
   go_upto_region 2 with (go_at_call 28;refine HRO.out.mono ?_;rintro e w1 ⟨s1,n1,c1,s2,n2,c2,s3,n3,c3,s4,n4,c4,hd,rfl,hc1,hb1⟩;have HC1:=hideC hc1;have HB1:=hideC hb1;clear hb1 hc1)
   have HBA:=hideC ((HB1.out.alloc HB1.out.size (.cells #[.slice s1 n1 c1,.slice s2 n2 c2,.slice s3 n3 c3,.slice s4 n4 c4,.int .i64 hd] 27)).alloc (by have:=HB1.out.size;simp;omega) (.cells #[.int .i64 0,.int .i64 0] 36))
   have HKA : Hid (Kp (fun b=>b < WA.heap.size) w1 ((w1.alloc (.cells #[.slice s1 n1 c1,.slice s2 n2 c2,.slice s3 n3 c3,.slice s4 n4 c4,.int .i64 hd] 27)).alloc (.cells #[.int .i64 0,.int .i64 0] 36))):=(Kp.alloc _ _ _).trans (Kp.alloc _ _ _) (fun _ _ g=>g)
   have NK:=hideC (B.alloc (B.new w1 #[.slice s1 n1 c1,.slice s2 n2 c2,.slice s3 n3 c3,.slice s4 n4 c4,.int .i64 hd] 27) (.cells #[.int .i64 0,.int .i64 0] 36))
   have NF:=hideC (KZ.n1 w1 (.cells #[.slice s1 n1 c1,.slice s2 n2 c2,.slice s3 n3 c3,.slice s4 n4 c4,.int .i64 hd] 27) #[.int .i64 0,.int .i64 0] 36)
   obtain ⟨W2,hW2⟩ : ∃ W2,W2 = (w1.alloc (.cells #[.slice s1 n1 c1,.slice s2 n2 c2,.slice s3 n3 c3,.slice s4 n4 c4,.int .i64 hd] 27)).alloc (.cells #[.int .i64 0,.int .i64 0] 36):=⟨_,rfl⟩
   obtain ⟨xb,hxb⟩ : ∃ xb,xb = w1.heap.size:=⟨_,rfl⟩
   rw [<- hW2] at HBA HKA NK NF ⊢
   rw [<- hxb] at NK NF ⊢
   clear hW2 hxb
   obtain ⟨x0,x1,x2,x3,x4⟩:=B.c5 NK.out
   obtain ⟨z0,z1⟩:=B.c2 NF.out
   have HU2:=hideC (HC1.out _ HKA.out)
   go_upto_region 5 with (go_at_call 25;refine HU2.out.mono ?_;rintro e w3 ⟨s1d,n1d,c1d,s2d,n2d,c2d,s3d,n3d,c3d,s4d,n4d,c4d,hdd,rfl,hc3,hb3⟩;have HC3:=hideC hc3;have HL3:=hideC hb3;clear hb3 hc3)
   have HBD:=hideC ((HL3.out.alloc HL3.out.size (.cells #[.slice s1d n1d c1d,.slice s2d n2d c2d,.slice s3d n3d c3d,.slice s4d n4d c4d,.int .i64 hdd] 27)).alloc (by have:=HL3.out.size;simp;omega) (.cells #[.int .i64 0,.int .i64 0] 36))
   have HKD : Hid (Kp (fun b=>b < W2.heap.size) w3 ((w3.alloc (.cells #[.slice s1d n1d c1d,.slice s2d n2d c2d,.slice s3d n3d c3d,.slice s4d n4d c4d,.int .i64 hdd] 27)).alloc (.cells #[.int .i64 0,.int .i64 0] 36))):=(Kp.alloc _ _ _).trans (Kp.alloc _ _ _) (fun _ _ g=>g)
   have ND:=hideC (B.alloc (B.new w3 #[.slice s1d n1d c1d,.slice s2d n2d c2d,.slice s3d n3d c3d,.slice s4d n4d c4d,.int .i64 hdd] 27) (.cells #[.int .i64 0,.int .i64 0] 36))
   have NG:=hideC (KZ.n1 w3 (.cells #[.slice s1d n1d c1d,.slice s2d n2d c2d,.slice s3d n3d c3d,.slice s4d n4d c4d,.int .i64 hdd] 27) #[.int .i64 0,.int .i64 0] 36)
   obtain ⟨W4,hW4⟩ : ∃ W4,W4 = (w3.alloc (.cells #[.slice s1d n1d c1d,.slice s2d n2d c2d,.slice s3d n3d c3d,.slice s4d n4d c4d,.int .i64 hdd] 27)).alloc (.cells #[.int .i64 0,.int .i64 0] 36):=⟨_,rfl⟩
   obtain ⟨yb,hyb⟩ : ∃ yb,yb = w3.heap.size:=⟨_,rfl⟩
   rw [<- hW4] at HBD HKD ND NG ⊢
   rw [<- hyb] at ND NG ⊢
   clear hW4 hyb x0 x1 x2 x3 x4 z0 z1
   obtain ⟨x0,x1,x2,x3,x4⟩:=B.c5 ND.out
   obtain ⟨z0,z1⟩:=B.c2 NG.out
   have HB4:=hideC (HBA.out.trans (HBD.out.mono HBA.out.size))
   have HU4:=hideC (HC3.out _ HKD.out)
   go_upto_region 7 with (go_at_call 24;refine HU4.out.1.mono ?_;rintro e w5 ⟨rfl,hb5⟩;have HL5:=hideC hb5;clear hb5)
   go_upto_region 8 with (go_at_call 43;refine (HCH.out _).mono ?_;rintro e w6 ⟨m,rfl,hm,rfl⟩)
   obtain ⟨p,hp⟩ : ∃ p,p = 1 + m / 16:=⟨_,rfl⟩
   have hp1 : 1 <= p /\ p <= 255:=by omega
   rw [<- hp]
   clear hp hm
   obtain ⟨P,Q,E,eP,eQ,hPQ,hP16,hby⟩:=HPP.out p
   have HBY:=hideC hby
   have HP1:=hideC (HPK.out p)
   rw [eP] at HP1
   have HB5:=hideC (HB4.out.trans (HL5.out.mono HB4.out.size))
   obtain ⟨k0,k1,k2,k3,k4⟩:=B.c5 (KB.out _ HB5.out)
   have HLD:=hideC (HKD.out.trans (Kp.ofBelow HL5.out) (fun _ _ g=>g))
   obtain ⟨x0,x1,x2,x3,x4⟩:=B.c5 (B.below ND.out HL5.out (B.isLt ND.out))
   clear eP hby HPP HPK
   go_upto_region 9 with (go_at_call 30;refine (HP1.out _ HB5.out).mono ?_;rintro e w7 ⟨rfl,hb7⟩;have HL7:=hideC hb7;obtain ⟨x0,x1,x2,x3,x4⟩:=B.c5 (B.below ND.out (HL5.out.trans (hb7.mono HL5.out.size)) (B.isLt ND.out));clear hb7)
   have HU7:=(HC3.out _ (HLD.out.trans (Kp.ofBelow HL7.out) (fun _ _ g=>g))).2 p
   rw [eQ] at HU7
   have HP2:=hideC HU7
   clear HU7 eQ
   go_upto_region 10 with (go_at_call 30;refine HP2.out.mono ?_;rintro e w8 ⟨rfl,hb8⟩;have HB8:=hideC ((HB5.out.trans (HL7.out.mono HB5.out.size)).trans (hb8.mono (HB5.out.trans (HL7.out.mono HB5.out.size)).size));clear hb8)
   have hPQi : (Q.size : Int) = (P.size : Int):=by omega
   clear x0 x1 x2 x3 x4 k0 k1 k2 k3 k4 z0 z1
   go_upto_region 12 with fail
   go_wp2
   go_loopw [25] (fun iv wq=>∃ i : Nat,i <= P.size /\ iv = .int .i64 (i : Int) /\ Below w8.heap.size w8 wq) (fun iv _=>P.size - (intOf iv).toNat)
   case atStart=>exact ⟨0,by omega,rfl,Below.refl _ _⟩
   case round =>
    obtain ⟨i,hi,rfl,hwr⟩:=hrel
    have HWR:=hideC hwr
    clear hwr
    by_cases hlt : i < P.size
    · have hii : (i : Int) < (P.size : Int):=by omega
      have hiq : (i : Int) < (Q.size : Int):=by omega
      go_upto_region 16 with fail
      rcases (show ¬ ot = sp ∨ (ot = sp /\ p * 16 + (i : Int) < ad) ∨ (ot = sp /\ ¬ p * 16 + (i : Int) < ad /\ ad + (d.size : Int) <= p * 16 + (i : Int)) ∨ (ot = sp /\ ¬ p * 16 + (i : Int) < ad /\ ¬ ad + (d.size : Int) <= p * 16 + (i : Int)) by omega) with g1 | ⟨g1,g2⟩ | ⟨g1,g2,g3⟩ | ⟨g1,g2,g3⟩
      · have hcm:=byte_same hlt (by omega) (HBY.out i hlt (.inl g1))
        have b1 : (ot != sp) = true:=by simpa using g1
        go_region
        go_wp2
        go_roundw
        case rel=>exact ⟨i + 1,by omega,by go_num,HWR.out.drew⟩
        case measure=>simp [intOf];omega
      · have hcm:=byte_same hlt (by omega) (HBY.out i hlt (.inr (.inl g2)))
        have b1 : (ot != sp) = false:=by simpa using g1
        go_region
        go_wp2
        go_roundw
        case rel=>exact ⟨i + 1,by omega,by go_num,HWR.out.drew⟩
        case measure=>simp [intOf];omega
      · have hcm:=byte_same hlt (by omega) (HBY.out i hlt (.inr (.inr g3)))
        have b1 : (ot != sp) = false:=by simpa using g1
        go_region
        go_wp2
        go_roundw
        case rel=>exact ⟨i + 1,by omega,by go_num,HWR.out.drew⟩
        case measure=>simp [intOf];omega
      · have b1 : (ot != sp) = false:=by simpa using g1
        go_region
        go_wp2
        go_roundw
        case rel=>exact ⟨i + 1,by omega,by go_num,HWR.out.drew⟩
        case measure=>simp [intOf];omega
    · obtain rfl : i = P.size:=by omega
      go_wp2_with (go_at_call 15;refine (HBG.out _).mono ?_;rintro e w9 ⟨rfl,hb9⟩;have HB9:=hideC ((HB8.out.trans (HWR.out.mono HB8.out.size)).trans (hb9.mono (HB8.out.trans (HWR.out.mono HB8.out.size)).size));clear hb9)
      go_ret
      exact ⟨rfl,HB0.out.trans (HB9.out.mono HB0.out.size)⟩
end KL
end Go.Proofs.YtpgifpeohlllfaaGreat
