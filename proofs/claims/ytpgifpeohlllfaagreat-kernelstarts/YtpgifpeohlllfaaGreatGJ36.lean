import Derived.Test.YtpgifpeohlllfaaGreatGJ13
import Derived.Test.YtpgifpeohlllfaaGreatGJ10
import Derived.Test.YtpgifpeohlllfaaGreatGJ33
import Derived.Test.YtpgifpeohlllfaaGreatGJ26
import Derived.Test.YtpgifpeohlllfaaGreatGJ31
import Derived.Test.YtpgifpeohlllfaaGreatGJ35
import Derived.Test.YtpgifpeohlllfaaGreatGJ32
set_option maxHeartbeats 20000000
set_option linter.unusedVariables false
set_option maxRecDepth 100000
set_option linter.unusedSimpArgs false
namespace Go.Proofs.YtpgifpeohlllfaaGreat
namespace LW
open Go.RowKit
open W (hideC)
set_option maxHeartbeats 6000000 in
theorem checkLinked_any (l : List AM.Ar) (hs : List LM.Sh) (en : Int) (va : Value) (ao : Option Addr) (cap : Nat) (w : World) (ha : AW.Has w va l) (hf : AW.AllFit l) (h : LM.HasH w ao hs) (hfs : LM.FitHs hs) (he : M.I64 en) :
  Calls Tryz.prog 60 #[.agg #[va,.slice ao hs.length cap,.int .i64 en]] w fun e w'=>e = .returned (.int .i64 (LM.checkR l hs en)) /\ Below w.heap.size w w':=by
 have HCK : Hid (∀ W,Below w.heap.size w W -> Calls Tryz.prog 90 #[va] W fun e w'=>e = .returned (.int .i64 (AM.checkN l)) /\ Below W.heap.size W w'):=fun W hb=>AW.refCheck_any l va W (ha.below hb) hf
 have HPG : Hid (AM.checkN l = 0 -> ∀ W,Below w.heap.size w W -> Calls Tryz.prog 61 #[va] W fun e w'=>e = .returned (.int .i64 (AM.sumTo l l.length)) /\ Below W.heap.size W w'):=fun hc W hb=>by
  have g:=AW.pages_any l va W (ha.below hb) hc
  have e : AM.totalN l = AM.sumTo l l.length:=by simp [AM.totalN,hc]
  rw [e] at g
  exact g
 have HSR : Hid (∀ W,Below w.heap.size w W -> Calls Tryz.prog 45 #[.slice ao hs.length cap] W fun e w'=>e = .returned (.bool (LM.riseB hs)) /\ Below W.heap.size W w'):=fun W hb=>sheetsRise_any hs ao cap W (h.below hb) hfs
 have HAA : Hid (AM.checkN l = 0 -> ∀ p W,Below w.heap.size w W -> Calls Tryz.prog 31 #[va,.int .i64 p] W fun e w'=>e = .returned (.tuple #[.agg #[.int .i64 (AM.findFrom l p).1.page,.int .i64 (AM.findFrom l p).1.pages,.int .i64 (AM.findFrom l p).1.prot,.bool (AM.findFrom l p).1.zero],.bool (AM.findFrom l p).2]) /\ Below W.heap.size W w'):=fun hc p W hb=>by
  have g:=AW.areaAt_any l va p W (ha.below hb) hc
  have e : AM.findN l p = AM.findFrom l p:=by simp [AM.findN,hc]
  rw [e] at g
  exact g
 have HPR : Hid (AM.checkN l = 0 -> ∀ p,(AM.findFrom l p).2 = true -> 0 <= (AM.findFrom l p).1.prot /\ (AM.findFrom l p).1.prot <= 3):=fun hc p=>LM.found_prot l hc p
 have HR : Hid (LM.checkR l hs en = if AM.checkN l = 0 then (if decide ((hs.length : Int) = AM.sumTo l l.length) && (LM.riseB hs && (LM.inTo l hs hs.length && LM.entB l en)) then 0 else 1) else AM.checkN l):=rfl
 have HE : Hid (LM.entB l en = ((AM.findFrom l (en.tdiv 16)).2 && (decide (2 <= (AM.findFrom l (en.tdiv 16)).1.prot) && decide (en.tmod 8 = 0)))):=rfl
 have HHS:=hideC h
 have hn : hs.length <= 140737488351232:=hfs.1
 obtain ⟨aa,na,ca,rfl⟩:=isSlice ha
 unfold M.I64 at he
 clear ha hf h hfs
 have HB:=hideC ((Below.refl w.heap.size w).alloc (Nat.le_refl _) (.cells #[.slice aa na ca,.slice ao hs.length cap,.int .i64 en] 30))
 have BX:=hideC (B.new w #[.slice aa na ca,.slice ao hs.length cap,.int .i64 en] 30)
 obtain ⟨C,hC⟩ : ∃ C,C = AM.checkN l:=⟨_,rfl⟩
 rw [<- hC] at HCK HPG HAA HPR HR
 rw [HR.out]
 clear hC HR
 by_cases hc : C = 0
 · subst hc
   have HPG1:=hideC (HPG.out rfl)
   have HAA1:=hideC (HAA.out rfl)
   have HPR1:=hideC (HPR.out rfl)
   clear HPG HAA HPR
   rw [if_pos rfl]
   obtain ⟨T,hT⟩ : ∃ T,T = AM.sumTo l l.length:=⟨_,rfl⟩
   rw [<- hT] at HPG1
   rw [<- hT]
   clear hT
   obtain ⟨R,hR⟩ : ∃ R : Int,R = (if decide ((hs.length : Int) = T) && (LM.riseB hs && (LM.inTo l hs hs.length && LM.entB l en)) then 0 else 1):=⟨_,rfl⟩
   rw [<- hR]
   have HRV:=hideC hR
   clear hR
   go_enter Tryz.func60,Tryz.ntmps60
   go_wp2_with (go_at_call 90;refine (HCK.out _ HB.out).mono ?_;rintro e w1 ⟨rfl,hb⟩;have HB:=hideC (HB.out.trans (hb.mono HB.out.size));have BX:=hideC (B.below BX.out hb (B.isLt BX.out));clear hb)
   have hbx:=B.isLt BX.out
   have hkin:=Q.kin_some w1
   have hkc:=@Q.cell_kin w1
   have e0 : ∀ x : Q.Kin w1.heap.size w1,x.world.cell? ⟨w.heap.size,0,none⟩ = some (.slice aa na ca):=fun x=>by rw [hkc x _ _ hbx];exact B.cell BX.out 0 rfl
   have e1 : ∀ x : Q.Kin w1.heap.size w1,x.world.cell? ⟨w.heap.size,1,none⟩ = some (.slice ao hs.length cap):=fun x=>by rw [hkc x _ _ hbx];exact B.cell BX.out 1 rfl
   have HP2 : Hid (∀ W,Below w1.heap.size w1 W -> Calls Tryz.prog 61 #[.slice aa na ca] W fun e w'=>e = .returned (.int .i64 T) /\ Below W.heap.size W w'):=fun W hb=>HPG1.out W (HB.out.trans (hb.mono HB.out.size))
   have HS2 : Hid (∀ W,Below w1.heap.size w1 W -> Calls Tryz.prog 45 #[.slice ao hs.length cap] W fun e w'=>e = .returned (.bool (LM.riseB hs)) /\ Below W.heap.size W w'):=fun W hb=>HSR.out W (HB.out.trans (hb.mono HB.out.size))
   clear hkc HPG1 HSR HCK
   by_cases hT : (hs.length : Int) = T
   · have hTb : decide ((hs.length : Int) = T) = true:=decide_eq_true hT
     rw [hTb,Bool.true_and] at HRV
     cases er : LM.riseB hs with
     | false =>
      rw [er] at HS2 HRV
      clear er hTb
      refine Q.region_kin (by kernel_rfl) (by kernel_rfl) ?_
      repeat (first | go_big_quiet_step ((first | (go_at_call 61;exact calls_kin _ HP2.out) | (go_at_call 45;exact calls_kin _ HS2.out))) | quiet_step ((first | (go_at_call 61;exact calls_kin _ HP2.out) | (go_at_call 45;exact calls_kin _ HS2.out))))
      refine wpQuiet_nil ?_
      intro _ hw'
      obtain ⟨x,hw''⟩:=hw'
      subst hw''
      go_wp2
      go_ret
      exact ⟨ret_int (by rw [HRV.out];rfl),HB.out.trans (x.keeps.mono HB.out.size)⟩
     | true =>
      rw [er] at HS2 HRV
      rw [Bool.true_and] at HRV
      clear er hTb
      refine Q.region_kin (by kernel_rfl) (by kernel_rfl) ?_
      repeat (first | go_big_quiet_step ((first | (go_at_call 61;exact calls_kin _ HP2.out) | (go_at_call 45;exact calls_kin _ HS2.out))) | quiet_step ((first | (go_at_call 61;exact calls_kin _ HP2.out) | (go_at_call 45;exact calls_kin _ HS2.out))))
      refine wpQuiet_nil ?_
      intro _ hw'
      obtain ⟨x,hw''⟩:=hw'
      subst hw''
      go_wp2
      have HBX:=hideC (HB.out.trans (x.keeps.mono HB.out.size))
      have BXX:=hideC (B.below BX.out x.keeps hbx)
      obtain ⟨w2,hw2⟩ : ∃ w2,w2 = x.world:=⟨_,rfl⟩
      rw [<- hw2] at HBX BXX
      rw [<- hw2]
      clear hw2 e0 e1 hkin HP2 HS2
      go_loopw [4] (fun i wr=>∃ k : Nat,k <= hs.length /\ i = .int .i64 k /\ LM.inTo l hs k = true /\ Below w.heap.size w wr /\ wr.heap[w.heap.size]? = some (.cells #[.slice aa na ca,.slice ao hs.length cap,.int .i64 en] 30 (0,0))) (fun i _=>hs.length - (intOf i).toNat)
      case atStart=>exact ⟨0,by omega,rfl,rfl,HBX.out,BXX.out⟩
      case round =>
       obtain ⟨k,hk,rfl,hin,hb,hbr⟩:=hrel
       have HIN:=hideC hin
       have HBr:=hideC hb
       have BXr:=hideC hbr
       have hbl0:=B.isLt hbr
       have x0:=B.cell hbr 0 rfl
       have x1:=B.cell hbr 1 rfl
       have x2:=B.cell hbr 2 rfl
       clear hin hbr
       by_cases hlt : k < hs.length
       · obtain ⟨b,off,hao,hbl,hlie⟩:=(HHS.out.below hb) (by omega)
         subst hao
         obtain ⟨c0,-,-,-⟩:=hlie k hlt
         have HI1 : Hid (LM.inTo l hs (k + 1) = ((AM.findFrom l (LM.shAt hs k).page).2 && !(AM.findFrom l (LM.shAt hs k).page).1.zero)):=by
          show _ = _
          simp only [LM.inTo]
          rw [HIN.out,Bool.true_and]
          rfl
         have HI2 : Hid (((AM.findFrom l (LM.shAt hs k).page).2 && !(AM.findFrom l (LM.shAt hs k).page).1.zero) = false -> LM.inTo l hs hs.length = false):=fun e=>LM.in_bad l hs k hlt e
         obtain ⟨p,hp⟩ : ∃ p,p = (LM.shAt hs k).page:=⟨_,rfl⟩
         rw [<- hp] at c0 HI1 HI2
         have HA2:=hideC (HAA1.out p)
         obtain ⟨r,hr⟩ : ∃ r,r = AM.findFrom l p:=⟨_,rfl⟩
         rw [<- hr] at HA2 HI1 HI2
         clear hp hr hlie hb
         obtain ⟨⟨pg,pn,pr,zr⟩,ok⟩:=r
         simp only at HA2 HI1 HI2
         have HBd:=hideC (below_drew wr)
         have HBD1:=hideC (HBr.out.trans (HBd.out.mono HBr.out.size))
         have HBD2:=hideC ((HBr.out.trans (HBd.out.mono HBr.out.size)).alloc (HBr.out.trans (HBd.out.mono HBr.out.size)).size (.cells #[.int .i64 0,.int .i64 0,.int .i64 0,.bool false] 47))
         have HBZ:=hideC (HBd.out.alloc (Nat.le_refl _) (.cells #[.int .i64 0,.int .i64 0,.int .i64 0,.bool false] 47))
         have BZ : Hid ((wr.drew.alloc (.cells #[.int .i64 0,.int .i64 0,.int .i64 0,.bool false] 47)).heap[wr.heap.size]? = some (.cells #[.int .i64 0,.int .i64 0,.int .i64 0,.bool false] 47 (0,0))):=B.new wr.drew _ _
         by_cases hgood : (ok && !zr) = true
         · obtain ⟨rfl,rfl⟩ : ok = true /\ zr = false:=by simpa using hgood
           clear hgood HI2
           go_wp2
           go_region_law (go_simp;go_at_call 31;refine (HA2.out _ (by first | exact HBD1.out | exact HBD2.out)).mono ?_;rintro e w3 ⟨rfl,hb⟩;have HB3 : Hid (Below w.heap.size w w3):=(by first | exact HBD1.out.trans (hb.mono HBD1.out.size) | exact HBD2.out.trans (hb.mono HBD2.out.size));have BX3 : Hid (w3.heap[w.heap.size]? = some (.cells #[.slice aa na ca,.slice (some ⟨b,off,none⟩) hs.length cap,.int .i64 en] 30 (0,0))):=(by first | exact B.below (B.below BXr.out HBd.out hbl0) hb (by simpa using hbl0) | exact B.below (B.below BXr.out HBZ.out hbl0) hb (by have:=hbl0;simp;omega));(try (have BZ3:=hideC (B.below BZ.out hb (B.isLt BZ.out));have z0:=B.cell BZ3.out 0 rfl;have z1:=B.cell BZ3.out 1 rfl;have z2:=B.cell BZ3.out 2 rfl;have z3:=B.cell BZ3.out 3 rfl;have zf:=B.free BZ3.out));clear hb;go_simp)
           all_goals
            go_wp2
            go_roundw
            case rel=>first | exact ⟨k + 1,by omega,by go_num,HI1.out,HB3.out.alloc HB3.out.size _,B.alloc BX3.out _⟩ | exact ⟨k + 1,by omega,by go_num,HI1.out,((((HB3.out.setCell (p:=⟨wr.heap.size,0,none⟩) HBr.out.size _).setCell (p:=⟨wr.heap.size,1,none⟩) HBr.out.size _).setCell (p:=⟨wr.heap.size,2,none⟩) HBr.out.size _).setCell (p:=⟨wr.heap.size,3,none⟩) HBr.out.size _),(B.other (B.other (B.other (B.other BX3.out wr.heap.size 0 _ (by omega)) wr.heap.size 1 _ (by omega)) wr.heap.size 2 _ (by omega)) wr.heap.size 3 _ (by omega))⟩
            case measure=>simp [intOf];omega
         · have HX:=hideC (HI2.out (by simpa using hgood))
           rw [HX.out,Bool.false_and] at HRV
           clear HI1 HI2
           cases ok
           · clear hgood
             go_wp2
             go_region_law (go_simp;go_at_call 31;refine (HA2.out _ (by first | exact HBD1.out | exact HBD2.out)).mono ?_;rintro e w3 ⟨rfl,hb⟩;have HB3 : Hid (Below w.heap.size w w3):=(by first | exact HBD1.out.trans (hb.mono HBD1.out.size) | exact HBD2.out.trans (hb.mono HBD2.out.size));(try (have BZ3:=hideC (B.below BZ.out hb (B.isLt BZ.out));have z0:=B.cell BZ3.out 0 rfl;have z1:=B.cell BZ3.out 1 rfl;have z2:=B.cell BZ3.out 2 rfl;have z3:=B.cell BZ3.out 3 rfl;have zf:=B.free BZ3.out));clear hb;go_simp)
             all_goals
              go_wp2
              go_ret
              first | exact ⟨ret_int (by rw [HRV.out];rfl),HB3.out.alloc HB3.out.size _⟩ | exact ⟨ret_int (by rw [HRV.out];rfl),((((HB3.out.setCell (p:=⟨wr.heap.size,0,none⟩) HBr.out.size _).setCell (p:=⟨wr.heap.size,1,none⟩) HBr.out.size _).setCell (p:=⟨wr.heap.size,2,none⟩) HBr.out.size _).setCell (p:=⟨wr.heap.size,3,none⟩) HBr.out.size _)⟩
           · obtain rfl : zr = true:=by simpa using hgood
             clear hgood
             go_wp2
             go_region_law (go_simp;go_at_call 31;refine (HA2.out _ (by first | exact HBD1.out | exact HBD2.out)).mono ?_;rintro e w3 ⟨rfl,hb⟩;have HB3 : Hid (Below w.heap.size w w3):=(by first | exact HBD1.out.trans (hb.mono HBD1.out.size) | exact HBD2.out.trans (hb.mono HBD2.out.size));(try (have BZ3:=hideC (B.below BZ.out hb (B.isLt BZ.out));have z0:=B.cell BZ3.out 0 rfl;have z1:=B.cell BZ3.out 1 rfl;have z2:=B.cell BZ3.out 2 rfl;have z3:=B.cell BZ3.out 3 rfl;have zf:=B.free BZ3.out));clear hb;go_simp)
             all_goals
              go_wp2
              go_ret
              first | exact ⟨ret_int (by rw [HRV.out];rfl),HB3.out.alloc HB3.out.size _⟩ | exact ⟨ret_int (by rw [HRV.out];rfl),((((HB3.out.setCell (p:=⟨wr.heap.size,0,none⟩) HBr.out.size _).setCell (p:=⟨wr.heap.size,1,none⟩) HBr.out.size _).setCell (p:=⟨wr.heap.size,2,none⟩) HBr.out.size _).setCell (p:=⟨wr.heap.size,3,none⟩) HBr.out.size _)⟩
       · obtain rfl : k = hs.length:=by omega
         rw [HIN.out,Bool.true_and,HE.out] at HRV
         have HA2:=hideC (HAA1.out (en.tdiv 16))
         have HPR2:=hideC (HPR1.out (en.tdiv 16))
         obtain ⟨r,hr⟩ : ∃ r,r = AM.findFrom l (en.tdiv 16):=⟨_,rfl⟩
         rw [<- hr] at HA2 HRV HPR2
         clear hr hb HE HAA1 HPR1
         obtain ⟨⟨pg,pn,pr,zr⟩,ok⟩:=r
         simp only at HA2 HRV HPR2
         cases ok with
         | false =>
          go_wp2_with (go_at_call 31;refine (HA2.out _ HBr.out).mono ?_;rintro e w3 ⟨rfl,hb⟩;have HB3:=hideC (HBr.out.trans (hb.mono HBr.out.size));clear hb)
          go_ret
          exact ⟨ret_int (by rw [HRV.out];rfl),HB3.out.alloc HB3.out.size _⟩
         | true =>
          have hpr:=LM.prot_cases (HPR2.out rfl)
          clear HPR2
          by_cases h8 : en.tmod 8 = 0
          · rw [decide_eq_true h8,Bool.and_true,Bool.true_and] at HRV
            rcases hpr with rfl | rfl | rfl | rfl
            all_goals
             go_wp2_with (go_at_call 31;refine (HA2.out _ HBr.out).mono ?_;rintro e w3 ⟨rfl,hb⟩;have HB3:=hideC (HBr.out.trans (hb.mono HBr.out.size));have BX3:=hideC (B.below BXr.out hb hbl0);have hb3:=B.isLt BX3.out;have y2:=B.cell BX3.out 2 rfl;clear hb)
             go_ret
             exact ⟨ret_int (by rw [HRV.out];rfl),HB3.out.alloc HB3.out.size _⟩
          · have h8' : (en.tmod 8 == 0) = false:=by simpa using h8
            rw [decide_eq_false h8,Bool.and_false,Bool.and_false] at HRV
            go_wp2_with (go_at_call 31;refine (HA2.out _ HBr.out).mono ?_;rintro e w3 ⟨rfl,hb⟩;have HB3:=hideC (HBr.out.trans (hb.mono HBr.out.size));have BX3:=hideC (B.below BXr.out hb hbl0);have hb3:=B.isLt BX3.out;have y2:=B.cell BX3.out 2 rfl;clear hb)
            go_ret
            exact ⟨ret_int (by rw [HRV.out];rfl),HB3.out.alloc HB3.out.size _⟩
   · have hTb : decide ((hs.length : Int) = T) = false:=decide_eq_false hT
     have hTb2 : ((hs.length : Int) == T) = false:=by simpa using hT
     rw [hTb,Bool.false_and] at HRV
     clear hTb
     refine Q.region_kin (by kernel_rfl) (by kernel_rfl) ?_
     repeat (first | go_big_quiet_step ((first | (go_at_call 61;exact calls_kin _ HP2.out) | (go_at_call 45;exact calls_kin _ HS2.out))) | quiet_step ((first | (go_at_call 61;exact calls_kin _ HP2.out) | (go_at_call 45;exact calls_kin _ HS2.out))))
     refine wpQuiet_nil ?_
     intro _ hw'
     obtain ⟨x,hw''⟩:=hw'
     subst hw''
     go_wp2
     go_ret
     exact ⟨ret_int (by rw [HRV.out];rfl),HB.out.trans (x.keeps.mono HB.out.size)⟩
 · have hc' : (C == 0) = false:=by simpa using hc
   rw [if_neg hc]
   go_enter Tryz.func60,Tryz.ntmps60
   go_wp2_with (go_at_call 90;refine (HCK.out _ HB.out).mono ?_;rintro e w1 ⟨rfl,hb⟩;have HB:=hideC (HB.out.trans (hb.mono HB.out.size));clear hb)
   go_ret
   exact ⟨rfl,HB.out⟩
end LW
namespace KR
open Go.RowKit GK KO
open FW (hideC add_below)
open KW (KAt HasK cellsK FitK)
open KY (OutC)
open KZ (newA newK zf zl mkF mkL has_new new_small n1 ret5 kn0)
set_option maxHeartbeats 8000000 in
theorem newError_any (l : List AM.Ar) (hs : List LM.Sh) (en nf ns : Int) (va : Value) (ao : Option Addr) (cap : Nat) (w : World) (ha : AW.Has w va l) (hf : AW.AllFit l) (h : LM.HasH w ao hs) (hfs : LM.FitHs hs) (he : M.I64 en) :
  Calls Tryz.prog 23 #[.agg #[va,.slice ao hs.length cap,.int .i64 en],.int .i64 nf,.int .i64 ns] w fun e w'=>e = .returned (.int .i64 (newA l hs en nf ns).2) /\ Below w.heap.size w w':=by
 obtain ⟨aa,ca,hva,_⟩:=id ha
 subst hva
 obtain ⟨WA,hWA⟩ : ∃ WA,WA = w.alloc (.cells #[.slice aa l.length ca,.slice ao hs.length cap,.int .i64 en] 30):=⟨_,rfl⟩
 have hb0 : Below w.heap.size w WA:=by rw [hWA];exact (Below.refl _ _).alloc (Nat.le_refl _) _
 have kb : WA.heap[w.heap.size]? = some (.cells #[.slice aa l.length ca,.slice ao hs.length cap,.int .i64 en] 30 (0,0)):=by rw [hWA];exact B.new _ _ _
 have KB : Hid (∀ V,Below WA.heap.size WA V -> V.heap[w.heap.size]? = some (.cells #[.slice aa l.length ca,.slice ao hs.length cap,.int .i64 en] 30 (0,0))):=fun V hb=>B.below kb hb (B.isLt kb)
 obtain ⟨k0,k1,k2⟩:=B.c3 (KB.out WA (Below.refl _ _))
 have HWA:=hideC hWA
 have HB0:=hideC hb0
 have HR0:=hideC (Below.refl WA.heap.size WA)
 have HCK : Hid (∀ V,Below WA.heap.size WA V -> Calls Tryz.prog 60 #[.agg #[.slice aa l.length ca,.slice ao hs.length cap,.int .i64 en]] V fun e w'=>e = .returned (.int .i64 (LM.checkL l hs en)) /\ Below WA.heap.size WA w' /\ w'.heap[w.heap.size]? = some (.cells #[.slice aa l.length ca,.slice ao hs.length cap,.int .i64 en] 30 (0,0))):=fun V hV=>(LW.checkLinked_any l hs en (.slice aa l.length ca) ao cap V (ha.below (hb0.trans (hV.mono hb0.size))) hf (h.below (hb0.trans (hV.mono hb0.size))) hfs he).mono fun e w' ⟨h1,h2⟩=>by
  rw [<- LM.check_same] at h1
  have hb:=hV.trans (h2.mono hV.size)
  exact ⟨h1,hb,KB.out _ hb⟩
 have HTT : LM.checkL l hs en = 0 -> Hid (∀ V,Below WA.heap.size WA V -> Calls Tryz.prog 61 #[.slice aa l.length ca] V fun e w'=>e = .returned (.int .i64 (AM.totalN l)) /\ Below WA.heap.size WA w'):=fun hc V hV=>(AW.pages_any l _ V (ha.below (hb0.trans (hV.mono hb0.size))) (KZ.check_rise hc).1).mono fun e w' ⟨h1,h2⟩=>⟨h1,hV.trans (h2.mono hV.size)⟩
 have HWI:=hideC (fun V=>AW.within_any ns 0 512 V)
 have htb:=KW.total_bd l
 unfold newA
 obtain ⟨C,hC⟩ : ∃ C,C = LM.checkL l hs en:=⟨_,rfl⟩
 rw [<- hC] at HCK HTT ⊢
 obtain ⟨T1,hT1⟩ : ∃ T1,T1 = AM.totalN l:=⟨_,rfl⟩
 rw [<- hT1] at HTT htb ⊢
 clear ha hf h hfs he kb hb0 hWA hC hT1
 by_cases c : C = 0
 · subst c
   have HT:=HTT rfl
   clear HTT
   rw [if_neg (fun x=>x rfl)]
   by_cases c3 : nf < 3
   · rw [if_pos c3]
     go_enter Tryz.func23,Tryz.ntmps23
     go_upto_region 1 with fail
     rw [<- HWA.out]
     go_wp2_with (first
      | (go_at_call 60;refine (HCK.out _ HR0.out).mono ?_;rintro e w1 ⟨rfl,hb1,hq⟩;have HR1:=hideC hb1;clear HR0;have HR0:=hideC HR1.out;clear HR1;obtain ⟨k0,k1,k2⟩:=B.c3 hq;clear hb1 hq)
      | (go_at_call 44;refine (HWI.out _).mono ?_;rintro e w2 ⟨rfl,rfl⟩)
      | (go_at_call 61;refine (HT.out _ HR0.out).mono ?_;rintro e w3 ⟨rfl,hb3⟩;clear HR0;have HR0:=hideC hb3;clear hb3))
     go_ret
     exact ⟨rfl,HB0.out.trans (HR0.out.mono HB0.out.size)⟩
   rw [if_neg c3]
   by_cases cr : nf > 64 ∨ ns < 0 ∨ ns > 512
   · rw [if_pos cr]
     by_cases g1 : 64 < nf
     · clear cr
       go_enter Tryz.func23,Tryz.ntmps23
       go_upto_region 1 with fail
       rw [<- HWA.out]
       go_wp2_with (first
        | (go_at_call 60;refine (HCK.out _ HR0.out).mono ?_;rintro e w1 ⟨rfl,hb1,hq⟩;have HR1:=hideC hb1;clear HR0;have HR0:=hideC HR1.out;clear HR1;obtain ⟨k0,k1,k2⟩:=B.c3 hq;clear hb1 hq)
        | (go_at_call 44;refine (HWI.out _).mono ?_;rintro e w2 ⟨rfl,rfl⟩)
        | (go_at_call 61;refine (HT.out _ HR0.out).mono ?_;rintro e w3 ⟨rfl,hb3⟩;clear HR0;have HR0:=hideC hb3;clear hb3))
       go_ret
       exact ⟨rfl,HB0.out.trans (HR0.out.mono HB0.out.size)⟩
     · have d : ¬ (0 <= ns /\ ns <= 512):=by omega
       rw [decide_eq_false d] at HWI
       clear cr d
       go_enter Tryz.func23,Tryz.ntmps23
       go_upto_region 1 with fail
       rw [<- HWA.out]
       go_wp2_with (first
        | (go_at_call 60;refine (HCK.out _ HR0.out).mono ?_;rintro e w1 ⟨rfl,hb1,hq⟩;have HR1:=hideC hb1;clear HR0;have HR0:=hideC HR1.out;clear HR1;obtain ⟨k0,k1,k2⟩:=B.c3 hq;clear hb1 hq)
        | (go_at_call 44;refine (HWI.out _).mono ?_;rintro e w2 ⟨rfl,rfl⟩)
        | (go_at_call 61;refine (HT.out _ HR0.out).mono ?_;rintro e w3 ⟨rfl,hb3⟩;clear HR0;have HR0:=hideC hb3;clear hb3))
       go_ret
       exact ⟨rfl,HB0.out.trans (HR0.out.mono HB0.out.size)⟩
   rw [if_neg cr]
   have g1 : ¬ 64 < nf:=by omega
   have d : 0 <= ns /\ ns <= 512:=by omega
   rw [decide_eq_true d] at HWI
   clear cr
   by_cases ct : T1 > ns
   · rw [if_pos ct]
     have c2 : ns < T1:=ct
     go_enter Tryz.func23,Tryz.ntmps23
     go_upto_region 1 with fail
     rw [<- HWA.out]
     go_wp2_with (first
      | (go_at_call 60;refine (HCK.out _ HR0.out).mono ?_;rintro e w1 ⟨rfl,hb1,hq⟩;have HR1:=hideC hb1;clear HR0;have HR0:=hideC HR1.out;clear HR1;obtain ⟨k0,k1,k2⟩:=B.c3 hq;clear hb1 hq)
      | (go_at_call 44;refine (HWI.out _).mono ?_;rintro e w2 ⟨rfl,rfl⟩)
      | (go_at_call 61;refine (HT.out _ HR0.out).mono ?_;rintro e w3 ⟨rfl,hb3⟩;clear HR0;have HR0:=hideC hb3;clear hb3))
     go_ret
     exact ⟨rfl,HB0.out.trans (HR0.out.mono HB0.out.size)⟩
   · rw [if_neg ct]
     have c2 : ¬ ns < T1:=ct
     go_enter Tryz.func23,Tryz.ntmps23
     go_upto_region 1 with fail
     rw [<- HWA.out]
     go_wp2_with (first
      | (go_at_call 60;refine (HCK.out _ HR0.out).mono ?_;rintro e w1 ⟨rfl,hb1,hq⟩;have HR1:=hideC hb1;clear HR0;have HR0:=hideC HR1.out;clear HR1;obtain ⟨k0,k1,k2⟩:=B.c3 hq;clear hb1 hq)
      | (go_at_call 44;refine (HWI.out _).mono ?_;rintro e w2 ⟨rfl,rfl⟩)
      | (go_at_call 61;refine (HT.out _ HR0.out).mono ?_;rintro e w3 ⟨rfl,hb3⟩;clear HR0;have HR0:=hideC hb3;clear hb3))
     go_ret
     exact ⟨rfl,HB0.out.trans (HR0.out.mono HB0.out.size)⟩
 · rw [if_pos c]
   have cb : (C != 0) = true:=by simpa using c
   clear HTT
   go_enter Tryz.func23,Tryz.ntmps23
   go_upto_region 1 with fail
   rw [<- HWA.out]
   go_wp2_with (first
    | (go_at_call 60;refine (HCK.out _ HR0.out).mono ?_;rintro e w1 ⟨rfl,hb1,hq⟩;have HR1:=hideC hb1;clear HR0;have HR0:=hideC HR1.out;clear HR1;obtain ⟨k0,k1,k2⟩:=B.c3 hq;clear hb1 hq)
    | (go_at_call 44;refine (HWI.out _).mono ?_;rintro e w2 ⟨rfl,rfl⟩)
    | (go_at_call 61;refine (HT.out _ HR0.out).mono ?_;rintro e w3 ⟨rfl,hb3⟩;clear HR0;have HR0:=hideC hb3;clear hb3))
   go_ret
   exact ⟨rfl,HB0.out.trans (HR0.out.mono HB0.out.size)⟩
end KR
end Go.Proofs.YtpgifpeohlllfaaGreat
