import Derived.Test.YtpgifpeohlllfaaGreatGJ12
import Derived.Test.YtpgifpeohlllfaaGreatGJ13
import Derived.Test.YtpgifpeohlllfaaGreatGJ08
import Derived.Test.YtpgifpeohlllfaaGreatGJ15
import Derived.Test.YtpgifpeohlllfaaGreatGJ09
import Derived.Lib.Strings
import Derived.Deep.RegionLaw
import Derived.Deep.DeepCutAuto
import Derived.Deep.CutBlock
set_option maxHeartbeats 20000000
set_option linter.unusedVariables false
set_option maxRecDepth 100000
set_option linter.unusedSimpArgs false
namespace Go.Proofs.YtpgifpeohlllfaaGreat
namespace AW
open Go.RowKit
set_option maxHeartbeats 1000000 in
theorem pages_some (l : List AM.Ar) (b off cap : Nat) (w : World) (hl : AM.Lie w b off l) (hc : AM.checkN l = 0) :
  Calls Tryz.prog 61 #[.slice (some ⟨b,off,none⟩) l.length cap] w fun e w'=>e = .returned (.int .i64 (AM.sumTo l l.length)) /\ Below w.heap.size w w':=by
 have hlen:=AM.good_len l hc
 have HK : Hid (AM.checkN l = 0):=hc
 clear hc
 go_enter Tryz.func61,Tryz.ntmps61
 go_wp2
 go_loopw [3,4] (fun s i wr=>∃ k : Nat,k <= l.length /\ i = .int .i64 k /\ s = .int .i64 (AM.sumTo l k) /\ Below w.heap.size w wr) (fun _ i _=>l.length - (intOf i).toNat)
 case atStart=>exact ⟨0,by omega,rfl,rfl,Below.refl _ _⟩
 case round =>
  obtain ⟨k,hk,rfl,rfl,hb⟩:=hrel
  have hbd:=AM.sumTo_bd l HK.out k hk
  by_cases hlt : k < l.length
  · obtain ⟨c0,c1,c2,c3⟩:=(hl.below hb) k hlt
    have hsu : Hid (AM.sumTo l (k + 1) = AM.sumTo l k + (AM.at_ l k).pages):=rfl
    have hbk:=AM.okAt_pages l k (AM.good_pages l HK.out k hlt)
    obtain ⟨a,ha⟩ : ∃ a,a = AM.at_ l k:=⟨_,rfl⟩
    rw [<- ha] at c0 c1 c2 c3 hsu hbk
    clear ha
    go_wp2
    go_roundw
    case rel=>exact ⟨k + 1,by omega,by go_num,by rw [hsu.out],hb⟩
    case measure=>simp [intOf];omega
  · obtain rfl : k = l.length:=by omega
    go_wp2
    go_ret
    exact ⟨rfl,hb⟩
theorem pages_nil (ao : Option Addr) (cap : Nat) (w : World) :
  Calls Tryz.prog 61 #[.slice ao 0 cap] w fun e w'=>e = .returned (.int .i64 0) /\ Below w.heap.size w w':=by
 go_enter Tryz.func61,Tryz.ntmps61
 go_wp2
 refine wp_loop_rounds 1 ?_
 rw [rounds_succ]
 go_wp2
 go_ret
 exact ⟨rfl,Below.refl _ _⟩
theorem pages_any (l : List AM.Ar) (v : Value) (w : World) (h : Has w v l) (hc : AM.checkN l = 0) :
  Calls Tryz.prog 61 #[v] w fun e w'=>e = .returned (.int .i64 (AM.totalN l)) /\ Below w.heap.size w w':=by
 have e : AM.totalN l = AM.sumTo l l.length:=by simp [AM.totalN,hc]
 rw [e]
 obtain ⟨ao,cap,rfl,h⟩:=h
 rcases h with rfl | ⟨b,off,rfl,hl⟩
 · exact pages_nil ao cap w
 · exact pages_some l b off cap w hl hc
set_option maxHeartbeats 2000000 in
theorem areaAt_some (l : List AM.Ar) (b off cap : Nat) (p : Int) (w : World) (hl : AM.Lie w b off l) (hc : AM.checkN l = 0) :
  Calls Tryz.prog 31 #[.slice (some ⟨b,off,none⟩) l.length cap,.int .i64 p] w fun e w'=>e = .returned (.tuple #[.agg (cellsOf (AM.findN l p).1),.bool (AM.findN l p).2]) /\ Below w.heap.size w w':=by
 have hbz : Below w.heap.size w (w.alloc (.cells #[.int .i64 0,.int .i64 0,.int .i64 0,.bool false] 47)):=(Below.refl _ _).alloc (Nat.le_refl _) _
 have hlen:=AM.good_len l hc
 have HC : Hid (AM.findN l p = AM.findFrom l p):=by show _ = _;simp [AM.findN,hc]
 have HK : Hid (AM.checkN l = 0):=hc
 clear hc
 go_enter Tryz.func31,Tryz.ntmps31
 go_wp2
 go_loopw [6] (fun i wr=>∃ k : Nat,k <= l.length /\ i = .int .i64 k /\ (∀ j,j < k -> AM.hit (AM.at_ l j) p = false) /\ Below (w.heap.size + 1) (w.alloc (.cells #[.int .i64 0,.int .i64 0,.int .i64 0,.bool false] 47)) wr) (fun i _=>l.length - (intOf i).toNat)
 case atStart=>exact ⟨0,by omega,rfl,fun j hj=>by omega,Below.refl _ _⟩
 case round =>
  obtain ⟨k,hk,rfl,hno,hb⟩:=hrel
  have HN : Hid (∀ j,j < k -> AM.hit (AM.at_ l j) p = false):=hno
  have hbw : Hid (Below w.heap.size w wr):=hbz.trans (hb.mono (Nat.le_succ _))
  have hsz : w.heap.size + 1 <= wr.heap.size:=by have:=hb.size;simpa using this
  have hlr:=hl.below hbw.out
  have hR : wr.heap[w.heap.size]? = some (.cells #[.int .i64 0,.int .i64 0,.int .i64 0,.bool false] 47 (0,0)):=B.below (B.new w _ _) hb (Nat.lt_succ_self _)
  have HB : Hid (Below (w.heap.size + 1) (w.alloc (.cells #[.int .i64 0,.int .i64 0,.int .i64 0,.bool false] 47)) wr):=hb
  have t0:=B.cell hR 0 rfl
  have t1:=B.cell hR 1 rfl
  have t2:=B.cell hR 2 rfl
  have t3:=B.cell hR 3 rfl
  have u0:=B.free hR
  clear hno hR hb
  by_cases hlt : k < l.length
  · obtain ⟨c0,c1,c2,c3⟩:=hlr k hlt
    have hbk:=AM.okAt_pages l k (AM.good_pages l HK.out k hlt)
    obtain ⟨a,ha⟩ : ∃ a,a = AM.at_ l k:=⟨_,rfl⟩
    rw [<- ha] at c0 c1 c2 c3 hbk
    have HA : Hid (a = AM.at_ l k):=ha
    clear ha
    have hki : (k : Int) < (l.length : Int):=by omega
    by_cases h1 : a.page <= p
    · by_cases h2 : p < a.page + a.pages
      · have hres : Hid (AM.findN l p = (a,true)):=by
         show _ = _
         rw [HC.out,AM.findFrom_at l p k hlt HN.out (by rw [<- HA.out];simp [AM.hit,AM.Ar.last0,h1,h2]),<- HA.out]
        go_wp2
        go_quiet (fail)
        go_wp2
        have hbd:=below_drewN hbw.out nq
        exact bodyPost_ret (v:=.tuple #[.agg #[.int .i64 a.page,.int .i64 a.pages,.int .i64 a.prot,.bool a.zero],.bool true]) (by simp [results,Tryz.results31,go_sem,t0,t1,t2,t3]) rfl ⟨by rw [hres.out];rfl,(((hbd.setCell (Nat.le_refl _) _).setCell (Nat.le_refl _) _).setCell (Nat.le_refl _) _).setCell (Nat.le_refl _) _⟩
      · have hmiss : Hid (AM.hit (AM.at_ l k) p = false):=by show _ = _;rw [<- HA.out];unfold AM.hit AM.Ar.last0;exact decide_eq_false (by omega)
        have d2 : decide (p < a.page + a.pages) = false:=decide_eq_false h2
        go_wp2
        go_quiet (fail)
        go_wp2
        go_roundw
        case rel=>exact ⟨k + 1,by omega,by go_num,fun j hj=>if e : j = k then by rw [e];exact hmiss.out else HN.out j (by omega),below_drewN HB.out _⟩
        case measure=>simp [intOf];omega
    · have hmiss : Hid (AM.hit (AM.at_ l k) p = false):=by show _ = _;rw [<- HA.out];unfold AM.hit AM.Ar.last0;exact decide_eq_false (by omega)
      have d1 : decide (a.page <= p) = false:=decide_eq_false h1
      go_wp2
      go_quiet (fail)
      go_wp2
      go_roundw
      case rel=>exact ⟨k + 1,by omega,by go_num,fun j hj=>if e : j = k then by rw [e];exact hmiss.out else HN.out j (by omega),below_drewN HB.out _⟩
      case measure=>simp [intOf];omega
  · obtain rfl : k = l.length:=by omega
    have hres : Hid (AM.findN l p = (AM.nil,false)):=by show _ = _;rw [HC.out,AM.findFrom_none l p HN.out]
    go_wp2
    exact bodyPost_ret (v:=.tuple #[.agg #[.int .i64 0,.int .i64 0,.int .i64 0,.bool false],.bool false]) (by simp [results,Tryz.results31,go_sem,t0,t1,t2,t3]) rfl ⟨by rw [hres.out];rfl,(((hbw.out.setCell (Nat.le_refl _) _).setCell (Nat.le_refl _) _).setCell (Nat.le_refl _) _).setCell (Nat.le_refl _) _⟩
theorem areaAt_nil (ao : Option Addr) (cap : Nat) (p : Int) (w : World) :
  Calls Tryz.prog 31 #[.slice ao 0 cap,.int .i64 p] w fun e w'=>e = .returned (.tuple #[.agg (cellsOf (AM.findN [] p).1),.bool (AM.findN [] p).2]) /\ Below w.heap.size w w':=by
 have hbz : Below w.heap.size w (w.alloc (.cells #[.int .i64 0,.int .i64 0,.int .i64 0,.bool false] 47)):=(Below.refl _ _).alloc (Nat.le_refl _) _
 go_enter Tryz.func31,Tryz.ntmps31
 go_wp2
 refine wp_loop_rounds 1 ?_
 rw [rounds_succ]
 go_wp2
 exact bodyPost_ret (v:=.tuple #[.agg #[.int .i64 0,.int .i64 0,.int .i64 0,.bool false],.bool false]) (by simp [results,Tryz.results31,go_sem]) rfl ⟨rfl,hbz⟩
theorem areaAt_any (l : List AM.Ar) (v : Value) (p : Int) (w : World) (h : Has w v l) (hc : AM.checkN l = 0) :
  Calls Tryz.prog 31 #[v,.int .i64 p] w fun e w'=>e = .returned (.tuple #[.agg (cellsOf (AM.findN l p).1),.bool (AM.findN l p).2]) /\ Below w.heap.size w w':=by
 obtain ⟨ao,cap,rfl,h⟩:=h
 rcases h with rfl | ⟨b,off,rfl,hl⟩
 · exact areaAt_nil ao cap p w
 · exact areaAt_some l b off cap p w hl hc
end AW
namespace KR
open Go.RowKit GK
open FW (hideC add_below)
open KW (HasRow KAt HasK cellsK FitK FitSp HasSp)
theorem find_first (p : Int) : ∀ (hs : List LM.Sh) (i : Nat),i < hs.length -> (∀ j,j < i -> (LM.shAt hs j).page ≠ p) -> (LM.shAt hs i).page = p -> KM.sheetFor hs p = some (LM.shAt hs i)
 | s :: r,0,_,_,h=>List.find?_cons_of_pos (decide_eq_true h)
 | s :: r,i + 1,hi,hn,h=>by
  have ih:=find_first p r i (Nat.lt_of_succ_lt_succ hi) (fun j hj=>hn (j + 1) (by omega)) h
  unfold KM.sheetFor at ih ⊢
  have hne : decide (s.page = p) = false:=decide_eq_false (hn 0 (by omega))
  rw [List.find?_cons,hne]
  exact ih
theorem find_no (p : Int) : ∀ (hs : List LM.Sh),(∀ j,j < hs.length -> (LM.shAt hs j).page ≠ p) -> KM.sheetFor hs p = none
 | [],_=>rfl
 | s :: r,hn=>by
  have ih:=find_no p r (fun j hj=>hn (j + 1) (by simpa using hj))
  unfold KM.sheetFor at ih ⊢
  have hne : decide (s.page = p) = false:=decide_eq_false (hn 0 (by simp))
  rw [List.find?_cons,hne]
  exact ih
def shD (hs : List LM.Sh) (p : Int) : LM.Sh:=(KM.sheetFor hs p).getD LM.sh0
set_option maxHeartbeats 4000000 in
theorem sheetOf_any (hs : List LM.Sh) (ao : Option Addr) (cap : Nat) (p : Int) (w : World) (h : LM.HasH w ao hs) (hn : M.Short hs.length) :
  Calls Tryz.prog 91 #[.slice ao hs.length cap,.int .i64 p] w fun e w'=>e = .returned (.tuple #[.agg #[.int .i64 (shD hs p).page,.string (shD hs p).data,.slice (shD hs p).ao (shD hs p).fixes.length (shD hs p).cap],.bool (KM.sheetFor hs p).isSome]) /\ Below w.heap.size w w':=by
 obtain ⟨WA,hWA⟩ : ∃ WA,WA = w.alloc (.cells #[.int .i64 0,.string ⟨#[]⟩,.slice none 0 0] 50):=⟨_,rfl⟩
 have hb0 : Below w.heap.size w WA:=by rw [hWA];exact (Below.refl _ _).alloc (Nat.le_refl _) _
 have rb : WA.heap[w.heap.size]? = some (.cells #[.int .i64 0,.string ⟨#[]⟩,.slice none 0 0] 50 (0,0)):=by rw [hWA];exact B.new _ _ _
 have HH : Hid (∀ i,i < hs.length -> ∃ b off,ao = some ⟨b,off,none⟩ /\ b ≠ w.heap.size /\ WA.cell? ⟨b,off + i * 3,none⟩ = some (.int .i64 (LM.shAt hs i).page) /\ WA.cell? ⟨b,off + i * 3 + 1,none⟩ = some (.string (LM.shAt hs i).data) /\ WA.cell? ⟨b,off + i * 3 + 2,none⟩ = some (.slice (LM.shAt hs i).ao (LM.shAt hs i).fixes.length (LM.shAt hs i).cap)):=fun i hi=>by
  obtain ⟨b,off,e1,e2,e3⟩:=(h.below hb0) (by omega)
  obtain ⟨d0,d1,d2,_⟩:=e3 i hi
  obtain ⟨b',off',e1',e2',_⟩:=h (by omega)
  rw [e1] at e1'
  injection e1' with e1'
  injection e1' with q1 _
  exact ⟨b,off,e1,by omega,d0,d1,d2⟩
 obtain ⟨y0,y1,y2⟩:=B.c3 rb
 have f0:=B.free rb 0
 have f1:=B.free rb 1
 have f2:=B.free rb 2
 have HRB:=hideC rb
 have HWA:=hideC hWA
 have HB0:=hideC hb0
 have HKP : Hid (∀ (x : Value) (y : Value) (z : Value),(((WA.setCell ⟨w.heap.size,0,none⟩ x).setCell ⟨w.heap.size,1,none⟩ y).setCell ⟨w.heap.size,2,none⟩ z).heap[w.heap.size]? = some (.cells #[x,y,z] 50 (0,0)) /\ Below w.heap.size w (((WA.setCell ⟨w.heap.size,0,none⟩ x).setCell ⟨w.heap.size,1,none⟩ y).setCell ⟨w.heap.size,2,none⟩ z)):=fun x y z=>⟨B.set (B.set (B.set rb 0 x) 1 y) 2 z,Kp.below hb0 (GK.kp_set3 (D:=fun b=>b = w.heap.size) _ w.heap.size 0 1 2 x y z rfl) hb0.size (fun b e=>by omega)⟩
 have HEND : Hid (∀ i,i < hs.length -> (∀ j,j < i -> (LM.shAt hs j).page ≠ p) -> (LM.shAt hs i).page = p -> KM.sheetFor hs p = some (LM.shAt hs i)):=fun i=>find_first p hs i
 have HENN : Hid ((∀ j,j < hs.length -> (LM.shAt hs j).page ≠ p) -> KM.sheetFor hs p = none):=find_no p hs
 have hsl : hs.length <= 140737488351232:=hn
 unfold shD
 obtain ⟨o,ho⟩ : ∃ o,o = KM.sheetFor hs p:=⟨_,rfl⟩
 rw [<- ho] at HEND HENN ⊢
 clear hb0 rb hWA h hn ho
 go_enter Tryz.func91,Tryz.ntmps91
 go_upto_region 1 with fail
 rw [<- HWA.out]
 go_wp2
 go_loopw [6] (fun iv wq=>∃ i : Nat,i <= hs.length /\ iv = .int .i64 (i : Int) /\ wq = WA /\ ∀ j,j < i -> (LM.shAt hs j).page ≠ p) (fun iv _=>hs.length - (intOf iv).toNat)
 case atStart=>exact ⟨0,by omega,rfl,rfl,fun j hj=>absurd hj (Nat.not_lt_zero _)⟩
 case round =>
  obtain ⟨i,hi,rfl,hwr,hno⟩:=hrel
  subst hwr
  have HNO:=hideC hno
  clear hno
  by_cases hlt : i < hs.length
  · have hii : (i : Int) < (hs.length : Int):=by omega
    obtain ⟨b,off,hao,hbn,d0,d1,d2⟩:=HH.out i hlt
    have HE2:=hideC (fun g=>HEND.out i hlt HNO.out g)
    have HNX : Hid ((LM.shAt hs i).page ≠ p -> ∀ j,j < i + 1 -> (LM.shAt hs j).page ≠ p):=fun g j hj=>by
     by_cases e : j = i
     · rw [e];exact g
     · exact HNO.out j (by omega)
    obtain ⟨s,hs2⟩ : ∃ s,s = LM.shAt hs i:=⟨_,rfl⟩
    rw [<- hs2] at d0 d1 d2 HE2 HNX
    obtain ⟨pg,dt,fx,ax,cx⟩:=s
    simp only at d0 d1 d2 HE2 HNX
    subst hao
    clear HH HEND HENN hs2
    by_cases g : pg = p
    · have e:=HE2.out g
      subst e
      subst g
      clear HE2 HNX HNO
      go_wp2
      obtain ⟨q1,q2⟩:=HKP.out (.int .i64 pg) (.string dt) (.slice ax fx.length cx)
      obtain ⟨y0,y1,y2⟩:=B.c3 q1
      refine bodyPost_ret (v:=.tuple #[.agg #[.int .i64 pg,.string dt,.slice ax fx.length cx],.bool true]) (by simp [results,Tryz.results91,go_sem,y0,y1,y2]) rfl ⟨rfl,q2⟩
    · have gb : (pg == p) = false:=by simpa using g
      have HN2:=hideC (HNX.out g)
      clear HE2 HNX HNO
      go_wp2
      go_roundw
      case rel=>exact ⟨i + 1,by omega,by go_num,by first | rfl | trivial,HN2.out⟩
      case measure=>simp [intOf];omega
  · obtain rfl : i = hs.length:=by omega
    have e:=HENN.out HNO.out
    subst e
    clear HH HEND HENN HNO
    go_wp2
    obtain ⟨q1,q2⟩:=HKP.out (.int .i64 0) (.string ⟨#[]⟩) (.slice none 0 0)
    obtain ⟨y0,y1,y2⟩:=B.c3 q1
    refine bodyPost_ret (v:=.tuple #[.agg #[.int .i64 0,.string ⟨#[]⟩,.slice none 0 0],.bool false]) (by simp [results,Tryz.results91,go_sem,y0,y1,y2]) rfl ⟨rfl,q2⟩
set_option maxHeartbeats 4000000 in
theorem room_any (k : KM.Kn) (a : KAt) (w : World) (hP : HasSp w a.aP k.spaces) (hc : ∀ i,i < k.spaces.length -> AM.checkN (KM.spAt k.spaces i).areas = 0) (hn : k.spaces.length <= 1000000) :
  Calls Tryz.prog 47 #[.agg (cellsK a k)] w fun e w'=>e = .returned (.int .i64 (KM.room k.spaces)) /\ Below w.heap.size w w':=by
 obtain ⟨WA,hWA⟩ : ∃ WA,WA = w.alloc (.cells (cellsK a k) 27):=⟨_,rfl⟩
 have hb0 : Below w.heap.size w WA:=by rw [hWA];exact (Below.refl _ _).alloc (Nat.le_refl _) _
 have kb : WA.heap[w.heap.size]? = some (.cells (cellsK a k) 27 (0,0)):=by rw [hWA];exact B.new w _ _
 have HC3 : Hid (∀ V,Below WA.heap.size WA V -> V.cell? ⟨w.heap.size,3,none⟩ = some (.slice a.aP k.spaces.length a.cP)):=fun V hV=>B.cell (B.below kb hV (B.isLt kb)) 3 rfl
 have HH : Hid (∀ V i,Below WA.heap.size WA V -> i < k.spaces.length -> ∃ b off aa ca,a.aP = some ⟨b,off,none⟩ /\ V.cell? ⟨b,off + i * 3 + 1,none⟩ = some (.slice aa (KM.spAt k.spaces i).areas.length ca) /\ Calls Tryz.prog 61 #[.slice aa (KM.spAt k.spaces i).areas.length ca] V fun e w'=>e = .returned (.int .i64 (AM.totalN (KM.spAt k.spaces i).areas)) /\ Below V.heap.size V w'):=fun V i hV hi=>by
  obtain ⟨b,off,e1,e2,e3⟩:=(hP.below (hb0.trans (hV.mono hb0.size))) (by omega)
  obtain ⟨va,ap,cp,c0,c1,c2,c3,_⟩:=e3 i hi
  have c3':=c3
  obtain ⟨aa,ca,rfl,_⟩:=c3
  exact ⟨b,off,aa,ca,e1,c1,AW.pages_any _ _ V c3' (hc i hi)⟩
 have HRB:=hideC (KW.room_bd k.spaces)
 have HRS : Hid (∀ i,KM.roomTo k.spaces (i + 1) = KM.roomTo k.spaces i + AM.totalN (KM.spAt k.spaces i).areas):=fun i=>rfl
 have HWA:=hideC hWA
 have HB0:=hideC hb0
 obtain ⟨n0,hn0⟩ : ∃ n0,n0 = k.spaces.length:=⟨_,rfl⟩
 unfold KM.room
 unfold cellsK at HWA ⊢
 rw [<- hn0] at HC3 HH hn HWA ⊢
 clear hb0 kb hWA hP hc hn0
 go_enter Tryz.func47,Tryz.ntmps47
 go_upto_region 1 with fail
 rw [<- HWA.out]
 go_wp2
 go_loopw [3,4] (fun sv iv wq=>∃ i : Nat,i <= n0 /\ iv = .int .i64 (i : Int) /\ sv = .int .i64 (KM.roomTo k.spaces i) /\ Below WA.heap.size WA wq) (fun _ iv _=>n0 - (intOf iv).toNat)
 case atStart=>exact ⟨0,by omega,rfl,rfl,Below.refl _ _⟩
 case round =>
  obtain ⟨i,hi,rfl,rfl,hb⟩:=hrel
  have HB:=hideC hb
  have c3:=HC3.out _ hb
  have hrb:=HRB.out i
  by_cases hlt : i < n0
  · have hii : (i : Int) < (n0 : Int):=by omega
    obtain ⟨b,off,aa,ca,hao,c1,hcl⟩:=HH.out _ i hb hlt
    have hst:=HRS.out i
    have htb:=KW.total_bd (KM.spAt k.spaces i).areas
    have HCL:=hideC hcl
    obtain ⟨T,hT⟩ : ∃ T,T = AM.totalN (KM.spAt k.spaces i).areas:=⟨_,rfl⟩
    obtain ⟨R,hR⟩ : ∃ R,R = KM.roomTo k.spaces i:=⟨_,rfl⟩
    obtain ⟨na,hna⟩ : ∃ na,na = (KM.spAt k.spaces i).areas.length:=⟨_,rfl⟩
    rw [<- hna] at c1 HCL
    rw [<- hT] at HCL hst htb
    rw [<- hR] at hst hrb ⊢
    have HST:=hideC hst
    rw [hao] at c3
    clear hcl hT hR hna hst hb hao HH HRB HRS HC3
    go_wp2_with (go_at_call 61;refine HCL.out.mono ?_;rintro e w1 ⟨rfl,hb1⟩;have HB1:=hideC (HB.out.trans (hb1.mono HB.out.size));clear hb1)
    go_roundw
    case rel=>exact ⟨i + 1,by omega,by go_num,by rw [HST.out],HB1.out⟩
    case measure=>simp [intOf];omega
  · obtain rfl : i = n0:=by omega
    clear HH HRB HRS hb
    go_wp2
    go_ret
    exact ⟨rfl,HB0.out.trans (HB.out.mono HB0.out.size)⟩
def zc (d : Nat) : Array Value:=madeCells #[.int .u8 0] d
theorem infoU8 : (Tryz.prog.info? 5).map (fun i=>(i.zero,i.size,i.bytes)) = some (some (.int .u8 0),1,1):=by kernel_rfl
theorem mk_zero (V : World) : (Instr.makeSlice 137 (.int .i64 16) (.int .i64 16)).run Tryz.prog V = .ok (.slice (some ⟨V.heap.size,0,none⟩) 16 16) (V.alloc (.cells (zc 16) 5)):=by
 obtain ⟨i0,hi,hz0,hz1,hz2⟩:=info_parts infoU8
 have h:=run_make (P:=Tryz.prog) V 137 5 i0 (.int .u8 0) Tryz.underlying137 hi hz0 .i64 .i64 16 16 (by omega) (Int.le_refl _) (by rw [hz2];omega) (by omega)
 rw [hz1] at h
 exact h
theorem cv_zero (V : World) : (convert 137 9 (.slice (some ⟨V.heap.size,0,none⟩) 16 16)).run Tryz.prog (V.alloc (.cells (zc 16) 5)) = .ok (.string KM.zero16) (V.alloc (.cells (zc 16) 5)):=by
 have e : KM.zero16 = strOfNums (List.replicate 16 0):=by kernel_rfl
 rw [e]
 refine run_convert_bytes_arg _ 137 5 Tryz.underlying137 Tryz.underlying5 _ 0 16 16 _ (by simp) ?_ 9 Tryz.underlying9
 intro i hi
 rw [Nat.zero_add]
 refine B.cell (B.new V (zc 16) _) i ?_
 rw [List.getD_eq_getElem?_getD,List.getElem?_replicate,if_pos hi]
 unfold zc madeCells
 simp [hi,Nat.mod_one]
theorem sheet_has {w : World} {ao : Option Addr} {hs : List LM.Sh} {p : Int} {s : LM.Sh} (h : LM.HasH w ao hs) (hf : LM.FitHs hs) (hr : LM.riseB hs = true) (e : KM.sheetFor hs p = some s) : LM.HasF w s.ao s.fixes /\ LM.FitH s /\ LM.sheetB s = true:=by
 obtain ⟨i,hi,e2⟩:=KM.mem_getD LM.sh0 (List.mem_of_find?_eq_some e)
 have e3 : LM.shAt hs i = s:=e2
 obtain ⟨b,off,_,_,h3⟩:=h (by omega)
 have h4 : LM.HasF w (LM.shAt hs i).ao (LM.shAt hs i).fixes:=(h3 i hi).2.2.2
 rw [e3] at h4
 have h5:=hf.2 i hi
 have h6:=(LM.riseTo_ok hs hs.length hr i hi).1
 rw [e3] at h5 h6
 exact ⟨h4,h5,h6⟩
set_option maxHeartbeats 4000000 in
theorem filling_any (k : KM.Kn) (a : KAt) (g1 g2 g3 : Int) (z : Bool) (p : Int) (w : World) (hH : LM.HasH w a.aS k.sheets) (hf : LM.FitHs k.sheets) (hr : LM.riseB k.sheets = true) (hz : z = false -> (KM.sheetFor k.sheets p).isSome = true) :
  Calls Tryz.prog 49 #[.agg (cellsK a k),.agg #[.int .i64 g1,.int .i64 g2,.int .i64 g3,.bool z],.int .i64 p] w fun e w'=>e = .returned (.string (KM.fillK k.sheets p z)) /\ Below w.heap.size w w':=by
 obtain ⟨WA,hWA⟩ : ∃ WA,WA = (w.alloc (.cells (cellsK a k) 27)).alloc (.cells #[.int .i64 g1,.int .i64 g2,.int .i64 g3,.bool z] 47):=⟨_,rfl⟩
 have hb0 : Below w.heap.size w WA:=by rw [hWA];exact ((Below.refl _ _).alloc (Nat.le_refl _) _).alloc (by simp) _
 have kb : WA.heap[w.heap.size]? = some (.cells (cellsK a k) 27 (0,0)):=by rw [hWA];exact B.alloc (B.new w _ _) _
 have ab : WA.heap[w.heap.size + 1]? = some (.cells #[.int .i64 g1,.int .i64 g2,.int .i64 g3,.bool z] 47 (0,0)):=by
  have:=B.new (w.alloc (.cells (cellsK a k) 27)) #[.int .i64 g1,.int .i64 g2,.int .i64 g3,.bool z] 47
  rw [World.size_alloc] at this
  rw [hWA];exact this
 have k0 : WA.cell? ⟨w.heap.size,0,none⟩ = some (.slice a.aS k.sheets.length a.cS):=B.cell kb 0 rfl
 have x3 : WA.cell? ⟨w.heap.size + 1,3,none⟩ = some (.bool z):=B.cell ab 3 rfl
 have HWA:=hideC hWA
 have HB0:=hideC hb0
 cases z with
 | true =>
  have e1:=mk_zero
  have e2:=cv_zero
  have ef : KM.fillK k.sheets p true = KM.zero16:=rfl
  rw [ef]
  unfold cellsK at HWA ⊢
  clear hH hf hr hz hb0 kb ab hWA ef
  go_enter Tryz.func49,Tryz.ntmps49
  go_upto_region 1 with fail
  rw [<- HWA.out]
  go_wp2
  go_ret
  exact ⟨rfl,HB0.out.alloc HB0.out.size _⟩
 | false =>
  obtain ⟨s,hs⟩:=Option.isSome_iff_exists.1 (hz rfl)
  have ef : KM.fillK k.sheets p false = LM.fillS s:=by
   unfold KM.fillK KM.filled
   rw [hs]
   rfl
  rw [ef]
  have HSO:=hideC (sheetOf_any k.sheets a.aS a.cS p WA (hH.below hb0) hf.1)
  unfold shD at HSO
  rw [hs] at HSO
  have HFI : Hid (∀ V,Below WA.heap.size WA V -> Calls Tryz.prog 92 #[.agg #[.int .i64 s.page,.string s.data,.slice s.ao s.fixes.length s.cap]] V fun e w'=>e = .returned (.string (LM.fillS s)) /\ Below V.heap.size V w'):=fun V hV=>by
   obtain ⟨h1,h2,h3⟩:=sheet_has (hH.below (hb0.trans (hV.mono hb0.size))) hf hr hs
   exact LW.filled_any s V h1 h2 h3
  obtain ⟨D,hD⟩ : ∃ D,D = LM.fillS s:=⟨_,rfl⟩
  rw [<- hD] at HFI ⊢
  obtain ⟨pg,dt,fx,ax,cx⟩:=s
  have HSO2 : Hid (Calls Tryz.prog 91 #[.slice a.aS k.sheets.length a.cS,.int .i64 p] WA fun e w'=>e = .returned (.tuple #[.agg #[.int .i64 pg,.string dt,.slice ax fx.length cx],.bool true]) /\ Below WA.heap.size WA w'):=HSO.out
  simp only at HFI
  unfold cellsK at HWA ⊢
  clear hH hf hr hz hb0 kb ab hWA ef HSO hs hD
  go_enter Tryz.func49,Tryz.ntmps49
  go_upto_region 1 with fail
  rw [<- HWA.out]
  go_wp2_with (first
   | (go_at_call 91;refine HSO2.out.mono ?_;rintro e w1 ⟨rfl,hb1⟩;have HB1:=hideC hb1;clear hb1)
   | (go_at_call 92;refine (HFI.out _ (HB1.out.alloc HB1.out.size _)).mono ?_;rintro e w2 ⟨rfl,hb2⟩;have HB2:=hideC ((HB1.out.alloc HB1.out.size _).trans (hb2.mono (HB1.out.alloc HB1.out.size _).size));clear hb2))
  go_ret
  exact ⟨rfl,HB0.out.trans (HB2.out.mono HB0.out.size)⟩
structure Nm (w : World) (k0 : Array Value) (x : KM.Na) (W : World) : Prop where
 kb : W.heap[w.heap.size]? = some (.cells k0 27 (0,0))
 rb : W.heap[w.heap.size + 1]? = some (.cells #[.int .i64 0,.int .i64 0,.int .i64 0,.bool false] 47 (0,0))
 ab : W.heap[w.heap.size + 2]? = some (.cells #[.int .i64 x.area.page,.int .i64 x.area.pages,.int .i64 x.area.prot,.bool x.area.zero] 47 (0,0))
 bel : Below w.heap.size w W
theorem Nm.below {w W V : World} {k0 : Array Value} {x : KM.Na} (h : Nm w k0 x W) (hb : Below W.heap.size W V) : Nm w k0 x V:=⟨B.below h.kb hb (B.isLt h.kb),B.below h.rb hb (B.isLt h.rb),B.below h.ab hb (B.isLt h.ab),h.bel.trans (hb.mono h.bel.size)⟩
theorem Nm.lay {w W V : World} {k0 : Array Value} {x y : KM.Na} (h : Nm w k0 x W) (hV : V = (((W.setCell ⟨w.heap.size + 2,0,none⟩ (.int .i64 y.area.page)).setCell ⟨w.heap.size + 2,1,none⟩ (.int .i64 y.area.pages)).setCell ⟨w.heap.size + 2,2,none⟩ (.int .i64 y.area.prot)).setCell ⟨w.heap.size + 2,3,none⟩ (.bool y.area.zero)) : Nm w k0 y V:=by
 have kp : Kp (fun b=>b = w.heap.size + 2) W V:=by
  rw [hV]
  have k : ∀ (A : World) (j : Nat) (v : Value),Kp (fun b=>b = w.heap.size + 2) A (A.setCell ⟨w.heap.size + 2,j,none⟩ v):=fun A j v=>Kp.set _ A ⟨w.heap.size + 2,j,none⟩ v rfl
  exact (((k _ _ _).trans (k _ _ _) (fun _ _ g=>g)).trans (k _ _ _) (fun _ _ g=>g)).trans (k _ _ _) (fun _ _ g=>g)
 exact ⟨kp.keep h.kb (by omega),kp.keep h.rb (by omega),by rw [hV];exact B.set (B.set (B.set (B.set h.ab 0 _) 1 _) 2 _) 3 _,Kp.below h.bel kp h.bel.size (fun b e=>by omega)⟩
set_option maxHeartbeats 8000000 in
theorem namers_any (k : KM.Kn) (a : KAt) (kd at_ : Int) (w : World) (hP : HasSp w a.aP k.spaces) (hc : ∀ i,i < k.spaces.length -> AM.checkN (KM.spAt k.spaces i).areas = 0) (hn : k.spaces.length <= 4) (he : ∀ i,i < k.spaces.length -> (KM.spAt k.spaces i).ents.length <= 65025) :
  Calls Tryz.prog 48 #[.agg (cellsK a k),.int .i64 kd,.int .i64 at_] w fun e w'=>e = .returned (.tuple #[.int .i64 (KM.namersN k.spaces kd at_).n,.int .i64 (KM.namersN k.spaces kd at_).page,.bool (KM.namersN k.spaces kd at_).fine,.agg #[.int .i64 (KM.namersN k.spaces kd at_).area.page,.int .i64 (KM.namersN k.spaces kd at_).area.pages,.int .i64 (KM.namersN k.spaces kd at_).area.prot,.bool (KM.namersN k.spaces kd at_).area.zero]]) /\ Below w.heap.size w w':=by
 obtain ⟨n0,hn0⟩ : ∃ n0,n0 = k.spaces.length:=⟨_,rfl⟩
 obtain ⟨WA,hWA⟩ : ∃ WA,WA = ((w.alloc (.cells #[.slice a.aS k.sheets.length a.cS,.slice a.aF k.frames.length a.cF,.slice a.aL k.slots.length a.cL,.slice a.aP n0 a.cP,.int .i64 k.hand] 27)).alloc (.cells #[.int .i64 0,.int .i64 0,.int .i64 0,.bool false] 47)).alloc (.cells #[.int .i64 0,.int .i64 0,.int .i64 0,.bool false] 47):=⟨_,rfl⟩
 have hb0 : Below w.heap.size w WA:=by rw [hWA];exact (((Below.refl _ _).alloc (Nat.le_refl _) _).alloc (by simp) _).alloc (by simp;omega) _
 have HN0 : Hid (Nm w #[.slice a.aS k.sheets.length a.cS,.slice a.aF k.frames.length a.cF,.slice a.aL k.slots.length a.cL,.slice a.aP n0 a.cP,.int .i64 k.hand] KM.na0 WA):=by
  rw [hWA]
  refine ⟨B.alloc (B.alloc (B.new w _ _) _) _,B.alloc ?_ _,?_,by rw [<- hWA];exact hb0⟩
  · have:=B.new (w.alloc (.cells #[.slice a.aS k.sheets.length a.cS,.slice a.aF k.frames.length a.cF,.slice a.aL k.slots.length a.cL,.slice a.aP n0 a.cP,.int .i64 k.hand] 27)) #[.int .i64 0,.int .i64 0,.int .i64 0,.bool false] 47
    rw [World.size_alloc] at this
    exact this
  · have:=B.new ((w.alloc (.cells #[.slice a.aS k.sheets.length a.cS,.slice a.aF k.frames.length a.cF,.slice a.aL k.slots.length a.cL,.slice a.aP n0 a.cP,.int .i64 k.hand] 27)).alloc (.cells #[.int .i64 0,.int .i64 0,.int .i64 0,.bool false] 47)) #[.int .i64 0,.int .i64 0,.int .i64 0,.bool false] 47
    rw [World.size_alloc,World.size_alloc] at this
    exact this
 have HSP : Hid (∀ j,j < n0 -> ∃ b off aa ca ap cp,a.aP = some ⟨b,off,none⟩ /\ (∀ V,Below w.heap.size w V -> V.cell? ⟨b,off + j * 3 + 1,none⟩ = some (.slice aa (KM.spAt k.spaces j).areas.length ca) /\ V.cell? ⟨b,off + j * 3 + 2,none⟩ = some (.slice ap (KM.spAt k.spaces j).ents.length cp) /\ ∀ m,m < (KM.spAt k.spaces j).ents.length -> ∃ eb eo,ap = some ⟨eb,eo,none⟩ /\ V.cell? ⟨eb,eo + m * 3,none⟩ = some (.int .i64 (KM.enAt (KM.spAt k.spaces j).ents m).page) /\ V.cell? ⟨eb,eo + m * 3 + 1,none⟩ = some (.int .i64 (KM.enAt (KM.spAt k.spaces j).ents m).kind) /\ V.cell? ⟨eb,eo + m * 3 + 2,none⟩ = some (.int .i64 (KM.enAt (KM.spAt k.spaces j).ents m).loc)) /\ ∀ U p,Below w.heap.size w U -> Calls Tryz.prog 31 #[.slice aa (KM.spAt k.spaces j).areas.length ca,.int .i64 p] U fun e w'=>e = .returned (.tuple #[.agg #[.int .i64 (AM.findN (KM.spAt k.spaces j).areas p).1.page,.int .i64 (AM.findN (KM.spAt k.spaces j).areas p).1.pages,.int .i64 (AM.findN (KM.spAt k.spaces j).areas p).1.prot,.bool (AM.findN (KM.spAt k.spaces j).areas p).1.zero],.bool (AM.findN (KM.spAt k.spaces j).areas p).2]) /\ Below U.heap.size U w'):=fun j hj=>by
  have hj : j < k.spaces.length:=by omega
  obtain ⟨b,off,e1,e2,e3⟩:=hP (by omega)
  obtain ⟨va,ap,cp,c0,c1,c2,c3,c4,_⟩:=e3 j hj
  have c3':=c3
  obtain ⟨aa,ca,rfl,_⟩:=c3
  refine ⟨b,off,aa,ca,ap,cp,e1,fun V hV=>⟨(hV.cell (p:=⟨b,off + j * 3 + 1,none⟩) e2).trans c1,(hV.cell (p:=⟨b,off + j * 3 + 2,none⟩) e2).trans c2,fun m hm=>?_⟩,fun U p hU=>AW.areaAt_any _ _ p U (c3'.below hU) (hc j hj)⟩
  obtain ⟨eb,eo,g1,_,g3⟩:=(c4.below hV) (by omega)
  have z0:=g3 m hm 0 (by omega)
  rw [Nat.add_zero] at z0
  exact ⟨eb,eo,g1,z0,g3 m hm 1 (by omega),g3 m hm 2 (by omega)⟩
 have HNS : Hid (∀ j,KM.naSps k.spaces kd at_ (j + 1) = KM.naEnts (KM.spAt k.spaces j).areas (KM.spAt k.spaces j).ents kd at_ (KM.naSps k.spaces kd at_ j) (KM.spAt k.spaces j).ents.length):=fun j=>rfl
 have HNE : Hid (∀ ar es x m,KM.naEnts ar es kd at_ x (m + 1) = KM.naEnt ar kd at_ (KM.naEnts ar es kd at_ x m) (KM.enAt es m)):=fun ar es x m=>rfl
 have HEL : Hid (∀ j,j < n0 -> (KM.spAt k.spaces j).ents.length <= 65025):=fun j hj=>he j (by omega)
 have HWA:=hideC hWA
 unfold KM.namersN
 rw [<- hn0] at hn
 unfold cellsK
 rw [<- hn0]
 clear hP hc he hb0 hWA hn0
 obtain ⟨C0,hC0⟩ : ∃ C0 : Array Value,C0 = #[.slice a.aS k.sheets.length a.cS,.slice a.aF k.frames.length a.cF,.slice a.aL k.slots.length a.cL,.slice a.aP n0 a.cP,.int .i64 k.hand]:=⟨_,rfl⟩
 have HC3 : Hid (∀ (V : World) x,Nm w C0 x V -> V.cell? ⟨w.heap.size,3,none⟩ = some (.slice a.aP n0 a.cP)):=fun V x h=>by rw [hC0] at h;exact B.cell h.kb 3 rfl
 rw [<- hC0] at HN0
 clear hC0
 go_enter Tryz.func48,Tryz.ntmps48
 go_upto_region 3 with fail
 rw [<- HWA.out]
 go_wp2
 go_loopw [10,11,12,14] (fun v1 v2 v3 iv wq=>∃ j : Nat,∃ x : KM.Na,j <= n0 /\ iv = .int .i64 (j : Int) /\ x = KM.naSps k.spaces kd at_ j /\ v1 = .int .i64 x.n /\ v2 = .int .i64 x.page /\ v3 = .bool x.fine /\ (0 <= x.n /\ x.n <= 65025 * j) /\ Nm w C0 x wq) (fun _ _ _ iv _=>n0 - (intOf iv).toNat)
 case atStart=>exact ⟨0,KM.na0,by omega,rfl,rfl,rfl,rfl,rfl,by unfold KM.na0;decide,HN0.out⟩
 case round =>
  obtain ⟨j,x,hj,rfl,hx,rfl,rfl,rfl,hxn,hnm⟩:=hrel
  have HNM:=hideC hnm
  have HX:=hideC hx
  have c3:=HC3.out _ _ hnm
  by_cases hlt : j < n0
  · have hji : (j : Int) < (n0 : Int):=by omega
    obtain ⟨b,off,aa,ca,ap,cp,hao,hen,har⟩:=HSP.out j hlt
    have hel:=HEL.out j hlt
    have HST:=hideC (HNS.out j)
    rw [<- HX.out] at HST
    obtain ⟨es,hes⟩ : ∃ es,es = (KM.spAt k.spaces j).ents:=⟨_,rfl⟩
    obtain ⟨ars,hars⟩ : ∃ ars,ars = (KM.spAt k.spaces j).areas:=⟨_,rfl⟩
    rw [<- hes] at hen hel HST
    rw [<- hars] at hen har HST
    rw [hao] at c3 HC3
    have HEN:=hideC hen
    have HAR:=hideC har
    have HN2:=hideC (HNE.out ars es x)
    have HZ : Hid (KM.naEnts ars es kd at_ x 0 = x):=rfl
    clear hx hnm hao hen har hes hars HSP HNS HEL HN0 HNE HX
    go_wp2
    go_loopw [10,11,12,15] (fun v1 v2 v3 iv wq=>∃ m : Nat,∃ y : KM.Na,m <= es.length /\ iv = .int .i64 (m : Int) /\ y = KM.naEnts ars es kd at_ x m /\ v1 = .int .i64 y.n /\ v2 = .int .i64 y.page /\ v3 = .bool y.fine /\ (0 <= y.n /\ y.n <= 65025 * j + m) /\ Nm w C0 y wq) (fun _ _ _ iv _=>es.length - (intOf iv).toNat)
    case atStart=>exact ⟨0,x,by omega,rfl,HZ.out.symm,rfl,rfl,rfl,by omega,HNM.out⟩
    case round =>
     obtain ⟨m,y,hm,rfl,hy,rfl,rfl,rfl,hyn,hnm⟩:=hrel
     have HY:=hideC hy
     have HNY:=hideC hnm
     have c3:=HC3.out _ _ hnm
     obtain ⟨c1,c2,hee⟩:=HEN.out _ hnm.bel
     clear HZ HNM hxn hy
     by_cases hmt : m < es.length
     · have hmi : (m : Int) < (es.length : Int):=by omega
       obtain ⟨eb,eo,hap,z0,z1,z2⟩:=hee m hmt
       have HS2:=hideC (HN2.out m)
       rw [<- HY.out] at HS2
       obtain ⟨en,hen2⟩ : ∃ en,en = KM.enAt es m:=⟨_,rfl⟩
       rw [<- hen2] at z0 z1 z2 HS2
       obtain ⟨pg,kx,lx⟩:=en
       simp only at z0 z1 z2
       subst hap
       have HA2:=hideC (fun U hU=>HAR.out U pg hU)
       have HBE:=hideC hnm.bel
       clear hee hen2 HEN HAR HC3 HN2 HY hnm
       obtain ⟨W1,hW1⟩ : ∃ W1,W1 = wr.alloc (.cells #[.int .i64 pg,.int .i64 kx,.int .i64 lx] 45):=⟨_,rfl⟩
       have hb1 : Below wr.heap.size wr W1:=by rw [hW1];exact (Below.refl _ _).alloc (Nat.le_refl _) _
       have xb1 : W1.heap[wr.heap.size]? = some (.cells #[.int .i64 pg,.int .i64 kx,.int .i64 lx] 45 (0,0)):=by rw [hW1];exact B.new _ _ _
       have HN1:=hideC (HNY.out.below hb1)
       have t1 : ∀ {q : Nat} {o : Nat} {u : Value},wr.cell? ⟨q,o,none⟩ = some u -> W1.cell? ⟨q,o,none⟩ = some u:=fun {q o u} h=>(hb1.cell (p:=⟨q,o,none⟩) (World.block_lt_of_cell? wr _ h)).trans h
       have d3:=t1 c3
       have d1:=t1 c1
       obtain ⟨x0,x1,x2⟩:=B.c3 xb1
       have HX1:=hideC xb1
       have HW1:=hideC hW1
       clear hW1 hb1 t1 xb1
       by_cases hk : kx = kd /\ lx = at_
       · obtain ⟨rfl,rfl⟩:=hk
         have hst2 : KM.naEnts ars es kx lx x (m + 1) = KM.naStep y pg (AM.findN ars pg).1:=by
          rw [HS2.out]
          unfold KM.naEnt
          rw [if_pos ⟨rfl,rfl⟩]
         have HST2:=hideC hst2
         clear hst2
         obtain ⟨F,hF⟩ : ∃ F,F = AM.findN ars pg:=⟨_,rfl⟩
         rw [<- hF] at HST2 HA2
         obtain ⟨⟨g1,g2,g3,g4⟩,gf⟩:=F
         simp only at HA2 HST2
         clear HS2 hF
         go_upto_region 10 with fail
         rw [<- HW1.out]
         go_upto_region 11 with fail
         clear c1 c2 c3 z0 z1 z2
         have HK0:=hideC (HN1.out.below (Below.refl W1.heap.size W1).drew).bel
         have HK1:=hideC (HN1.out.below ((Below.refl W1.heap.size W1).alloc (Nat.le_refl _) (.cells #[.int .i64 0,.int .i64 0,.int .i64 0,.bool false] 47)).drew).bel
         have HKA:=hideC (Below.refl W1.heap.size W1).drew
         have HKB:=hideC ((Below.refl W1.heap.size W1).alloc (Nat.le_refl _) (.cells #[.int .i64 0,.int .i64 0,.int .i64 0,.bool false] 47)).drew
         obtain ⟨xb,hxb⟩ : ∃ xb,xb = wr.heap.size:=⟨_,rfl⟩
         rw [<- hxb] at HX1 x0 x1 x2 ⊢
         clear hxb
         have x0b : (W1.alloc (.cells #[.int .i64 0,.int .i64 0,.int .i64 0,.bool false] 47)).cell? ⟨xb,0,none⟩ = some (.int .i64 pg):=B.cell (B.alloc HX1.out _) 0 rfl
         have tb : ∀ {q : Nat} {o : Nat} {u : Value},W1.cell? ⟨q,o,none⟩ = some u -> (W1.alloc (.cells #[.int .i64 0,.int .i64 0,.int .i64 0,.bool false] 47)).cell? ⟨q,o,none⟩ = some u:=fun {q o u} h=>(((Below.refl W1.heap.size W1).alloc (Nat.le_refl _) _).cell (p:=⟨q,o,none⟩) (World.block_lt_of_cell? W1 _ h)).trans h
         have d3b:=tb d3
         have d1b:=tb d1
         clear tb
         have HNW : Hid (((W1.alloc (.cells #[.int .i64 0,.int .i64 0,.int .i64 0,.bool false] 47)).drew).heap[W1.heap.size]? = some (.cells #[.int .i64 0,.int .i64 0,.int .i64 0,.bool false] 47 (0,0))):=B.new W1 #[.int .i64 0,.int .i64 0,.int .i64 0,.bool false] 47
         go_cut [17,18] (fun x17 x18 wx=>∃ g,x17 = .pointer (some ⟨g,0,none⟩) /\ x18 = .bool gf /\ wx.heap[g]? = some (.cells #[.int .i64 g1,.int .i64 g2,.int .i64 g3,.bool g4] 47 (0,0)) /\ Below W1.heap.size W1 wx)
         case first =>
          go_region_law (go_simp;go_at_call 31;first | (refine (HA2.out _ HK0.out).mono ?_;rintro e w1 ⟨rfl,hb1⟩;have HB1:=hideC (HKA.out.trans (hb1.mono HKA.out.size));clear hb1;go_simp) | (refine (HA2.out _ HK1.out).mono ?_;rintro e w1 ⟨rfl,hb1⟩;have HB1:=hideC (HKB.out.trans (hb1.mono HKB.out.size));have hz:=B.below HNW.out hb1 (B.isLt HNW.out);have HZZ:=hideC hz;obtain ⟨k0,k1,k2,k3⟩:=B.c4 hz;have kf:=B.free hz;clear hz hb1;go_simp))
          all_goals
           go_wp2_with fail
           go_meet
           case rel=>exact ⟨_,rfl,rfl,by first | exact B.set (B.set (B.set (B.set HZZ.out 0 _) 1 _) 2 _) 3 _ | exact B.new w1 _ _,by first | exact HB1.out.alloc HB1.out.size _ | exact (((HB1.out.setCell (p:=⟨W1.heap.size,0,none⟩) (Nat.le_refl _) _).setCell (p:=⟨W1.heap.size,1,none⟩) (Nat.le_refl _) _).setCell (p:=⟨W1.heap.size,2,none⟩) (Nat.le_refl _) _).setCell (p:=⟨W1.heap.size,3,none⟩) (Nat.le_refl _) _⟩
         case rest =>
          obtain ⟨g,rfl,rfl,hgb,hbc⟩:=hcut
          have hnc:=HN1.out.below hbc
          obtain ⟨x0,x1,x2⟩:=B.c3 (B.below HX1.out hbc (B.isLt HX1.out))
          obtain ⟨y0,y1,y2,y3⟩:=B.c4 hgb
          obtain ⟨v0,v1,v2,v3⟩:=B.c4 hnc.ab
          have f0:=B.free hnc.ab 0
          have f1:=B.free hnc.ab 1
          have f2:=B.free hnc.ab 2
          have f3:=B.free hnc.ab 3
          have HLY : Hid (∀ V,V = (((wc.setCell ⟨w.heap.size + 2,0,none⟩ (.int .i64 g1)).setCell ⟨w.heap.size + 2,1,none⟩ (.int .i64 g2)).setCell ⟨w.heap.size + 2,2,none⟩ (.int .i64 g3)).setCell ⟨w.heap.size + 2,3,none⟩ (.bool g4) -> Nm w C0 (KM.naStep y pg ⟨g1,g2,g3,g4⟩) V):=fun V hV=>hnc.lay hV
          obtain ⟨yn,yp,yf,⟨q1,q2,q3,q4⟩⟩:=y
          simp only at v0 v1 v2 v3 hyn
          clear hgb hbc hnc HK0 HK1 HKA HKB HNW HA2 HN1 HX1 HNY HBE
          rcases (show yf = false ∨ (yf = true /\ yn = 0) ∨ (yf = true /\ ¬ yn = 0 /\ ¬ pg = yp) ∨ (yf = true /\ ¬ yn = 0 /\ pg = yp) by cases yf <;> simp <;> omega) with h1 | ⟨h1,h2⟩ | ⟨h1,h2,h3⟩ | ⟨h1,h2,h3⟩
          · subst h1
            go_wp2
            go_roundw
            case rel=>exact ⟨m + 1,KM.naStep ⟨yn,yp,false,⟨q1,q2,q3,q4⟩⟩ pg ⟨g1,g2,g3,g4⟩,by omega,by go_num,HST2.out.symm,rfl,rfl,rfl,by show 0 <= yn + 1 /\ yn + 1 <= 65025 * (j : Int) + ((m + 1 : Nat) : Int);omega,HLY.out _ rfl⟩
            case measure=>simp [intOf];omega
          · subst h1
            subst h2
            go_wp2
            go_roundw
            case rel=>exact ⟨m + 1,KM.naStep ⟨0,yp,true,⟨q1,q2,q3,q4⟩⟩ pg ⟨g1,g2,g3,g4⟩,by omega,by go_num,HST2.out.symm,rfl,rfl,rfl,by show 0 <= (0 : Int) + 1 /\ (0 : Int) + 1 <= 65025 * (j : Int) + ((m + 1 : Nat) : Int);omega,HLY.out _ rfl⟩
            case measure=>simp [intOf];omega
          · subst h1
            have b2 : (yn == 0) = false:=by simpa using h2
            have b3 : (pg == yp) = false:=by simpa using h3
            go_wp2
            go_roundw
            case rel=>exact ⟨m + 1,KM.naStep ⟨yn,yp,true,⟨q1,q2,q3,q4⟩⟩ pg ⟨g1,g2,g3,g4⟩,by omega,by go_num,HST2.out.symm,rfl,rfl,by unfold KM.naStep;simp [h2,h3],by show 0 <= yn + 1 /\ yn + 1 <= 65025 * (j : Int) + ((m + 1 : Nat) : Int);omega,HLY.out _ rfl⟩
            case measure=>simp [intOf];omega
          · subst h1
            subst h3
            have b2 : (yn == 0) = false:=by simpa using h2
            go_wp2
            go_roundw
            case rel=>exact ⟨m + 1,KM.naStep ⟨yn,pg,true,⟨q1,q2,q3,q4⟩⟩ pg ⟨g1,g2,g3,g4⟩,by omega,by go_num,HST2.out.symm,rfl,rfl,by unfold KM.naStep;simp [h2],by show 0 <= yn + 1 /\ yn + 1 <= 65025 * (j : Int) + ((m + 1 : Nat) : Int);omega,HLY.out _ rfl⟩
            case measure=>simp [intOf];omega
       · have hst2 : KM.naEnts ars es kd at_ x (m + 1) = y:=by
          rw [HS2.out]
          unfold KM.naEnt
          rw [if_neg hk]
         have HST2:=hideC hst2
         clear HS2 HA2 hst2
         rcases (show ¬ kx = kd ∨ (kx = kd /\ ¬ lx = at_) by omega) with h1 | ⟨h1,h2⟩
         · have b1 : (kx != kd) = true:=by simpa using h1
           go_upto_region 10 with fail
           rw [<- HW1.out]
           go_wp2
           go_roundw
           case rel=>exact ⟨m + 1,y,by omega,by go_num,HST2.out.symm,rfl,rfl,rfl,by omega,HN1.out⟩
           case measure=>simp [intOf];omega
         · subst h1
           have b1 : (kx != kx) = false:=by simp
           have b2 : (lx != at_) = true:=by simpa using h2
           go_upto_region 10 with fail
           rw [<- HW1.out]
           go_wp2
           go_roundw
           case rel=>exact ⟨m + 1,y,by omega,by go_num,HST2.out.symm,rfl,rfl,rfl,by omega,HN1.out⟩
           case measure=>simp [intOf];omega
     · obtain rfl : m = es.length:=by omega
       have HEQ : Hid (y = KM.naSps k.spaces kd at_ (j + 1)):=HY.out.trans HST.out.symm
       clear HEN HAR HN2 hee
       go_wp2
       go_roundw
       case rel=>exact ⟨j + 1,y,by omega,by go_num,HEQ.out,rfl,rfl,rfl,by omega,HNY.out⟩
       case measure=>simp [intOf];omega
  · obtain rfl : j = n0:=by omega
    have hnr:=hnm.rb
    obtain ⟨y0,y1,y2,y3⟩:=B.c4 hnm.ab
    obtain ⟨v0,v1,v2,v3⟩:=B.c4 hnr
    have f0:=B.free hnr 0
    have f1:=B.free hnr 1
    have f2:=B.free hnr 2
    have f3:=B.free hnr 3
    have HBE:=hideC hnm.bel
    have HEND : Hid (∀ p q r s : Value,((((wr.setCell ⟨w.heap.size + 1,0,none⟩ p).setCell ⟨w.heap.size + 1,1,none⟩ q).setCell ⟨w.heap.size + 1,2,none⟩ r).setCell ⟨w.heap.size + 1,3,none⟩ s).heap[w.heap.size + 1]? = some (.cells #[p,q,r,s] 47 (0,0)) /\ Below w.heap.size w ((((wr.setCell ⟨w.heap.size + 1,0,none⟩ p).setCell ⟨w.heap.size + 1,1,none⟩ q).setCell ⟨w.heap.size + 1,2,none⟩ r).setCell ⟨w.heap.size + 1,3,none⟩ s)):=fun p q r s=>⟨B.set (B.set (B.set (B.set hnr 0 p) 1 q) 2 r) 3 s,by
     have hb:=hnm.bel
     exact (((hb.setCell (p:=⟨w.heap.size + 1,0,none⟩) (Nat.le_succ _) _).setCell (p:=⟨w.heap.size + 1,1,none⟩) (Nat.le_succ _) _).setCell (p:=⟨w.heap.size + 1,2,none⟩) (Nat.le_succ _) _).setCell (p:=⟨w.heap.size + 1,3,none⟩) (Nat.le_succ _) _⟩
    obtain ⟨xn,xp,xf,⟨q1,q2,q3,q4⟩⟩:=x
    simp only at y0 y1 y2 y3
    clear hx hnm hnr HSP HNS HEL HN0 HNE HNM hxn
    go_upto_region 16 with fail
    go_region
    go_wp2
    obtain ⟨r1,r2⟩:=HEND.out (.int .i64 q1) (.int .i64 q2) (.int .i64 q3) (.bool q4)
    obtain ⟨y0,y1,y2,y3⟩:=B.c4 (B.below r1 (Below.refl _ _).drew (B.isLt r1))
    refine bodyPost_ret (v:=.tuple #[.int .i64 xn,.int .i64 xp,.bool xf,.agg #[.int .i64 q1,.int .i64 q2,.int .i64 q3,.bool q4]]) (by simp [results,Tryz.results48,go_sem,y0,y1,y2,y3]) rfl ⟨by rw [<- HX.out],r2.drew⟩
end KR
end Go.Proofs.YtpgifpeohlllfaaGreat
