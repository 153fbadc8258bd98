import Derived.Test.YtpgifpeohlllfaaGreatGI12
import Derived.Test.YtpgifpeohlllfaaGreatGI01
import Derived.Test.YtpgifpeohlllfaaGreatGI05
set_option maxHeartbeats 20000000
set_option linter.unusedVariables false
set_option maxRecDepth 100000
set_option linter.unusedSimpArgs false
namespace Go.Proofs.YtpgifpeohlllfaaGreat
namespace LW
open Go.RowKit
open W (hideC)
theorem calls_kin {P : Program} {f : FuncId} {args : Array Value} {v : Value} {w : World} (x : Q.Kin w.heap.size w) (h : ∀ W,Below w.heap.size w W -> Calls P f args W fun e w'=>e = .returned v /\ Below W.heap.size W w') :
  Calls P f args x.world fun e w''=>e = .returned v /\ ∃ y : Q.Kin w.heap.size w,w'' = y.world :=
 (h x.world x.keeps).mono fun e w'' ⟨he,hb⟩=>⟨he,⟨w'',x.keeps.trans (hb.mono x.keeps.size)⟩,rfl⟩
set_option maxHeartbeats 3000000 in
theorem sheetsRise_any (hs : List LM.Sh) (ao : Option Addr) (cap : Nat) (w : World) (h : LM.HasH w ao hs) (hf : LM.FitHs hs) :
  Calls Tryz.prog 45 #[.slice ao hs.length cap] w fun e w'=>e = .returned (.bool (LM.riseB hs)) /\ Below w.heap.size w w':=by
 have HF:=hideC hf
 have HH:=hideC h
 have hn : hs.length <= 140737488351232:=hf.1
 clear h hf
 go_enter Tryz.func45,Tryz.ntmps45
 go_wp2
 go_loopw [3] (fun i wr=>∃ k : Nat,k <= hs.length /\ i = .int .i64 k /\ LM.riseTo hs k = true /\ Below w.heap.size w wr) (fun i _=>hs.length - (intOf i).toNat)
 case atStart=>exact ⟨0,by omega,rfl,rfl,Below.refl _ _⟩
 case round =>
  obtain ⟨k,hk,rfl,hz,hb⟩:=hrel
  have HZ:=hideC hz
  have HBr:=hideC hb
  clear hz
  by_cases hlt : k < hs.length
  · obtain ⟨b,off,hao,hbl,hlie⟩:=(HH.out.below hb) (by omega)
    subst hao
    obtain ⟨c0,c1,c2,c3⟩:=hlie k hlt
    have hfk:=HF.out.2 k hlt
    have HE : Hid (LM.riseTo hs (k + 1) = (LM.sheetB (LM.shAt hs k) && LM.riseAt hs k)):=by
     show _ = _
     simp only [LM.riseTo]
     rw [HZ.out,Bool.true_and]
    have HE2 : Hid ((LM.sheetB (LM.shAt hs k) && LM.riseAt hs k) = false -> LM.riseB hs = false):=fun e=>LM.rise_bad hs k hlt e
    have hkin:=Q.kin_some wr
    have hkc:=@Q.cell_kin wr
    have PREV : Hid (0 < k -> wr.cell? ⟨b,off + (k - 1) * 3,none⟩ = some (.int .i64 (LM.shAt hs (k - 1)).page)):=fun h0=>(hlie (k - 1) (by omega)).1
    have HRI : Hid (LM.riseAt hs k = (k == 0 || decide ((LM.shAt hs (k - 1)).page < (LM.shAt hs k).page))):=rfl
    obtain ⟨s,hse⟩ : ∃ s,s = LM.shAt hs k:=⟨_,rfl⟩
    rw [<- hse] at c0 c1 c2 c3 hfk HE HE2 HRI
    have e0 : ∀ x : Q.Kin wr.heap.size wr,x.world.cell? ⟨b,off + k * 3,none⟩ = some (.int .i64 s.page):=fun x=>by rw [hkc x _ _ hbl,c0]
    have e1 : ∀ x : Q.Kin wr.heap.size wr,x.world.cell? ⟨b,off + k * 3 + 1,none⟩ = some (.string s.data):=fun x=>by rw [hkc x _ _ hbl,c1]
    have e2 : ∀ x : Q.Kin wr.heap.size wr,x.world.cell? ⟨b,off + k * 3 + 2,none⟩ = some (.slice s.ao s.fixes.length s.cap):=fun x=>by rw [hkc x _ _ hbl,c2]
    have HC : Hid (∀ W,Below wr.heap.size wr W -> Calls Tryz.prog 89 #[.agg #[.int .i64 s.page,.string s.data,.slice s.ao s.fixes.length s.cap]] W fun e w'=>e = .returned (.bool (LM.sheetB s)) /\ Below W.heap.size W w'):=fun W hb=>sheetFine_any s W (c3.below hb) hfk
    clear hse hlie hb c0 c1 c2 c3 hfk
    cases e : LM.sheetB s with
    | false =>
     have HX:=hideC (HE2.out (by rw [e];rfl))
     rw [e] at HC
     clear e HE HE2 HRI PREV hkc
     go_wp2
     refine Q.region_kin (by kernel_rfl) (by kernel_rfl) ?_
     repeat (first | go_big_quiet_step ((go_at_call 89;exact calls_kin _ HC.out)) | quiet_step ((go_at_call 89;exact calls_kin _ HC.out)))
     refine wpQuiet_nil ?_
     intro _ hw'
     obtain ⟨x,hw''⟩:=hw'
     subst hw''
     go_wp2
     go_ret
     exact ⟨ret_bool HX.out.symm,HBr.out.trans (x.keeps.mono HBr.out.size)⟩
    | true =>
     rw [e] at HC HE HE2
     rw [Bool.true_and] at HE HE2
     clear e
     by_cases hk0 : k = 0
     · have z1 : decide ((0 : Int) < (k : Int)) = false:=by simp;omega
       have z2 : decide (0 < k) = false:=by simp;omega
       have HX : Hid (LM.riseAt hs k = true):=by show _ = _;rw [HRI.out,hk0];rfl
       rw [HX.out] at HE
       clear hk0 HE2 HRI PREV hkc HX
       go_wp2
       refine Q.region_kin (by kernel_rfl) (by kernel_rfl) ?_
       repeat (first | go_big_quiet_step ((go_at_call 89;exact calls_kin _ HC.out)) | quiet_step ((go_at_call 89;exact calls_kin _ HC.out)))
       refine wpQuiet_nil ?_
       intro _ hw'
       obtain ⟨x,hw''⟩:=hw'
       subst hw''
       go_wp2
       go_roundw
       case rel=>exact ⟨k + 1,by omega,by go_num,HE.out,HBr.out.trans (x.keeps.mono HBr.out.size)⟩
       case measure=>simp [intOf];omega
     · have hk1 : (1 : Int) <= (k : Int):=by omega
       have hk2 : 0 < k:=by omega
       have hk3 : (0 : Int) < (k : Int):=by omega
       have hkz : (k == 0) = false:=by simpa using hk0
       obtain ⟨p,hp⟩ : ∃ p,p = (LM.shAt hs (k - 1)).page:=⟨_,rfl⟩
       have hpv:=PREV.out hk2
       rw [<- hp] at hpv HRI
       rw [hkz,Bool.false_or] at HRI
       have e3 : ∀ x : Q.Kin wr.heap.size wr,x.world.cell? ⟨b,off + (k - 1) * 3,none⟩ = some (.int .i64 p):=fun x=>by rw [hkc x _ _ hbl,hpv]
       clear hp hpv hk0 PREV hkc hkz
       by_cases hlt2 : p < s.page
       · have HX : Hid (LM.riseAt hs k = true):=by show _ = _;rw [HRI.out,decide_eq_true hlt2]
         rw [HX.out] at HE
         have hnl : ¬ s.page <= p:=by omega
         clear HE2 HRI HX
         go_wp2
         refine Q.region_kin (by kernel_rfl) (by kernel_rfl) ?_
         repeat (first | go_big_quiet_step ((go_at_call 89;exact calls_kin _ HC.out)) | quiet_step ((go_at_call 89;exact calls_kin _ HC.out)))
         refine wpQuiet_nil ?_
         intro _ hw'
         obtain ⟨x,hw''⟩:=hw'
         subst hw''
         go_wp2
         go_roundw
         case rel=>exact ⟨k + 1,by omega,by go_num,HE.out,HBr.out.trans (x.keeps.mono HBr.out.size)⟩
         case measure=>simp [intOf];omega
       · have HX : Hid (LM.riseB hs = false):=HE2.out (by rw [HRI.out,decide_eq_false hlt2])
         have hnl : s.page <= p:=by omega
         clear HE HE2 HRI
         go_wp2
         refine Q.region_kin (by kernel_rfl) (by kernel_rfl) ?_
         repeat (first | go_big_quiet_step ((go_at_call 89;exact calls_kin _ HC.out)) | quiet_step ((go_at_call 89;exact calls_kin _ HC.out)))
         refine wpQuiet_nil ?_
         intro _ hw'
         obtain ⟨x,hw''⟩:=hw'
         subst hw''
         go_wp2
         go_ret
         exact ⟨ret_bool HX.out.symm,HBr.out.trans (x.keeps.mono HBr.out.size)⟩
  · obtain rfl : k = hs.length:=by omega
    go_wp2
    go_ret
    exact ⟨ret_bool HZ.out.symm,HBr.out⟩
end LW
end Go.Proofs.YtpgifpeohlllfaaGreat
