import Derived.Test.YtkdigjpejnebkaaGreatGS37
import Derived.Test.YtkdigjpejnebkaaGreatGS22
import Derived.Test.YtkdigjpejnebkaaGreatGS19
import Derived.Test.YtkdigjpejnebkaaGreatGS36
set_option linter.unusedVariables false
set_option maxRecDepth 100000
set_option linter.unusedSimpArgs false
namespace Go.Proofs.YtkdigjpejnebkaaGreat
namespace AW
open Go.RowKit
set_option maxHeartbeats 4000000 in
theorem refCheck_bad (l : List AM.Ar) (b off cap : Nat) (w : World) (hl : AM.Lie w b off l) (hf : ∀ i,i < l.length -> AM.Fits (AM.at_ l i)) (he : AM.eachTo l l.length = false) (hn : ¬ 255 < l.length) :
  Calls Tryz.prog 41 #[.slice (some ⟨b,off,none⟩) l.length cap] w fun e w'=>e = .returned (.int .i64 (AM.checkN l)) /\ Below w.heap.size w w':=by
 have hres : Hid (AM.checkN l = 1):=check_each l hn he
 have HE : Hid (AM.eachTo l l.length = false):=he
 have hn' : ¬ (255 : Int) < (l.length : Int):=by omega
 clear he
 go_enter Tryz.func41,Tryz.ntmps41
 go_wp2
 go_loopw [3] (fun i wr=>∃ k : Nat,k <= l.length /\ i = .int .i64 k /\ AM.eachTo l k = true /\ Below w.heap.size w wr) (fun i _=>l.length - (intOf i).toNat)
 case atStart=>exact ⟨0,by omega,rfl,rfl,Below.refl _ _⟩
 case round =>
  obtain ⟨k,hk,rfl,hek,hb⟩:=hrel
  have HB : Hid (Below w.heap.size w wr):=hb
  have HEK : Hid (AM.eachTo l k = true):=hek
  clear hek
  by_cases hlt : k < l.length
  · obtain ⟨c0,c1,c2,c3⟩:=hl.below hb k hlt
    obtain ⟨f1,f2,f3⟩:=hf k hlt
    have hw:=each_words (AM.at_ l k)
    obtain ⟨a,ha⟩ : ∃ a,a = AM.at_ l k:=⟨_,rfl⟩
    rw [<- ha] at c0 c1 c2 c3 f1 f2 f3 hw
    have HW : Hid ((AM.pagesB a.page a.pages && AM.protB a.prot) = true ↔ inB a.page 1 255 = true /\ inB a.pages 1 255 = true /\ a.page + a.pages - 1 <= 255 /\ inB a.prot 0 3 = true):=hw
    have HA : Hid (a = AM.at_ l k):=ha
    clear ha hb hw
    have hki : (k : Int) < (l.length : Int):=by omega
    by_cases d1 : inB a.page 1 255 = true
    · have b1:=(inB_iff _ _ _).1 d1
      by_cases d2 : inB a.pages 1 255 = true
      · have b2:=(inB_iff _ _ _).1 d2
        by_cases d3 : a.page + a.pages - 1 <= 255
        · have d3' : ¬ 255 < a.page + a.pages - 1:=by omega
          by_cases d4 : inB a.prot 0 3 = true
          · have hok : Hid (AM.eachTo l (k + 1) = true):=by show _ = _;simp only [AM.eachTo,HEK.out,Bool.true_and];rw [<- HA.out];exact HW.out.2 ⟨d1,d2,d3,d4⟩
            go_wp2_with (first | (go_at_call 27;refine (inB_any _ _ _ _).mono ?_;rintro e w' ⟨rfl,rfl⟩))
            go_roundw
            case rel=>exact ⟨k + 1,by omega,by go_num,hok.out,HB.out.alloc HB.out.size _⟩
            case measure=>simp [intOf];omega
          · have d4' : inB a.prot 0 3 = false:=by simpa using d4
            clear d4
            go_wp2_with (first | (go_at_call 27;refine (inB_any _ _ _ _).mono ?_;rintro e w' ⟨rfl,rfl⟩))
            go_ret
            exact ⟨ret_int hres.out.symm,HB.out.alloc HB.out.size _⟩
        · have d3' : 255 < a.page + a.pages - 1:=by omega
          go_wp2_with (first | (go_at_call 27;refine (inB_any _ _ _ _).mono ?_;rintro e w' ⟨rfl,rfl⟩))
          go_ret
          exact ⟨ret_int hres.out.symm,HB.out.alloc HB.out.size _⟩
      · have d2' : inB a.pages 1 255 = false:=by simpa using d2
        clear d2
        go_wp2_with (first | (go_at_call 27;refine (inB_any _ _ _ _).mono ?_;rintro e w' ⟨rfl,rfl⟩))
        go_ret
        exact ⟨ret_int hres.out.symm,HB.out.alloc HB.out.size _⟩
    · have d1' : inB a.page 1 255 = false:=by simpa using d1
      clear d1
      go_wp2_with (first | (go_at_call 27;refine (inB_any _ _ _ _).mono ?_;rintro e w' ⟨rfl,rfl⟩))
      go_ret
      exact ⟨ret_int hres.out.symm,HB.out.alloc HB.out.size _⟩
  · exfalso
    obtain rfl : k = l.length:=by omega
    have:=HEK.out
    rw [HE.out] at this
    cases this
theorem refCheck_long (n : Nat) (ao : Option Addr) (cap : Nat) (w : World) (hn : 255 < n) (hm : n <= 140737488351232) :
  Calls Tryz.prog 41 #[.slice ao n cap] w fun e w'=>e = .returned (.int .i64 2) /\ Below w.heap.size w w':=by
 have hn' : (255 : Int) < (n : Int):=by omega
 go_enter Tryz.func41,Tryz.ntmps41
 go_wp2
 go_ret
 exact ⟨rfl,Below.refl _ _⟩
theorem refCheck_any (l : List AM.Ar) (v : Value) (w : World) (h : Has w v l) (hf : AllFit l) :
  Calls Tryz.prog 41 #[v] w fun e w'=>e = .returned (.int .i64 (AM.checkN l)) /\ Below w.heap.size w w':=by
 have h':=h
 obtain ⟨ao,cap,rfl,hh⟩:=h
 by_cases hn : 255 < l.length
 · have e : AM.checkN l = 2:=by simp [AM.checkN,hn]
   rw [e]
   exact refCheck_long l.length ao cap w hn hf.2
 · by_cases he : AM.eachTo l l.length = true
   · refine refCheck_tail l _ w h' he hn ao cap rfl (fun i hi=>?_)
     rcases hh with e | ⟨b,off,hao,hl⟩
     · rw [e] at hi;simp at hi
     · exact ⟨b,off,hao,hl⟩
   · have he' : AM.eachTo l l.length = false:=by simpa using he
     rcases hh with e | ⟨b,off,hao,hl⟩
     · subst e;simp [AM.eachTo] at he'
     · subst hao
       exact refCheck_bad l b off cap w hl hf.1 he' hn
end AW
namespace LW
open Go.RowKit
open W (hideC)
set_option maxHeartbeats 6000000 in
theorem checkLinked_any (l : List AM.Ar) (hs : List LM.Sh) (en : Int) (va : Value) (ao : Option Addr) (cap : Nat) (w : World) (ha : AW.Has w va l) (hf : AW.AllFit l) (h : LM.HasH w ao hs) (hfs : LM.FitHs hs) (he : M.I64 en) :
  Calls Tryz.prog 26 #[.agg #[va,.slice ao hs.length cap,.int .i64 en]] w fun e w'=>e = .returned (.int .i64 (LM.checkR l hs en)) /\ Below w.heap.size w w':=by
 have HCK : Hid (∀ W,Below w.heap.size w W -> Calls Tryz.prog 41 #[va] W fun e w'=>e = .returned (.int .i64 (AM.checkN l)) /\ Below W.heap.size W w'):=fun W hb=>AW.refCheck_any l va W (ha.below hb) hf
 have HPG : Hid (AM.checkN l = 0 -> ∀ W,Below w.heap.size w W -> Calls Tryz.prog 28 #[va] W fun e w'=>e = .returned (.int .i64 (AM.sumTo l l.length)) /\ Below W.heap.size W w'):=fun hc W hb=>by
  have g:=AW.pages_any l va W (ha.below hb) hc
  have e : AM.totalN l = AM.sumTo l l.length:=by simp [AM.totalN,hc]
  rw [e] at g
  exact g
 have HSR : Hid (∀ W,Below w.heap.size w W -> Calls Tryz.prog 69 #[.slice ao hs.length cap] W fun e w'=>e = .returned (.bool (LM.riseB hs)) /\ Below W.heap.size W w'):=fun W hb=>sheetsRise_any hs ao cap W (h.below hb) hfs
 have HAA : Hid (AM.checkN l = 0 -> ∀ p W,Below w.heap.size w W -> Calls Tryz.prog 42 #[va,.int .i64 p] W fun e w'=>e = .returned (.tuple #[.agg #[.int .i64 (AM.findFrom l p).1.page,.int .i64 (AM.findFrom l p).1.pages,.int .i64 (AM.findFrom l p).1.prot,.bool (AM.findFrom l p).1.zero],.bool (AM.findFrom l p).2]) /\ Below W.heap.size W w'):=fun hc p W hb=>by
  have g:=AW.areaAt_any l va p W (ha.below hb) hc
  have e : AM.findN l p = AM.findFrom l p:=by simp [AM.findN,hc]
  rw [e] at g
  exact g
 have HPR : Hid (AM.checkN l = 0 -> ∀ p,(AM.findFrom l p).2 = true -> 0 <= (AM.findFrom l p).1.prot /\ (AM.findFrom l p).1.prot <= 3):=fun hc p=>LM.found_prot l hc p
 have HR : Hid (LM.checkR l hs en = if AM.checkN l = 0 then (if decide ((hs.length : Int) = AM.sumTo l l.length) && (LM.riseB hs && (LM.inTo l hs hs.length && LM.entB l en)) then 0 else 1) else AM.checkN l):=rfl
 have HE : Hid (LM.entB l en = ((AM.findFrom l (en.tdiv 16)).2 && (decide (2 <= (AM.findFrom l (en.tdiv 16)).1.prot) && decide (en.tmod 8 = 0)))):=rfl
 have HHS:=hideC h
 have hn : hs.length <= 140737488351232:=hfs.1
 obtain ⟨aa,na,ca,rfl⟩:=isSlice ha
 unfold M.I64 at he
 clear ha hf h hfs
 have HB:=hideC ((Below.refl w.heap.size w).alloc (Nat.le_refl _) (.cells #[.slice aa na ca,.slice ao hs.length cap,.int .i64 en] 25))
 have BX:=hideC (B.new w #[.slice aa na ca,.slice ao hs.length cap,.int .i64 en] 25)
 obtain ⟨C,hC⟩ : ∃ C,C = AM.checkN l:=⟨_,rfl⟩
 rw [<- hC] at HCK HPG HAA HPR HR
 rw [HR.out]
 clear hC HR
 by_cases hc : C = 0
 · subst hc
   have HPG1:=hideC (HPG.out rfl)
   have HAA1:=hideC (HAA.out rfl)
   have HPR1:=hideC (HPR.out rfl)
   clear HPG HAA HPR
   rw [if_pos rfl]
   obtain ⟨T,hT⟩ : ∃ T,T = AM.sumTo l l.length:=⟨_,rfl⟩
   rw [<- hT] at HPG1
   rw [<- hT]
   clear hT
   obtain ⟨R,hR⟩ : ∃ R : Int,R = (if decide ((hs.length : Int) = T) && (LM.riseB hs && (LM.inTo l hs hs.length && LM.entB l en)) then 0 else 1):=⟨_,rfl⟩
   rw [<- hR]
   have HRV:=hideC hR
   clear hR
   go_enter Tryz.func26,Tryz.ntmps26
   go_wp2_with (go_at_call 41;refine (HCK.out _ HB.out).mono ?_;rintro e w1 ⟨rfl,hb⟩;have HB:=hideC (HB.out.trans (hb.mono HB.out.size));have BX:=hideC (B.below BX.out hb (B.isLt BX.out));clear hb)
   have hbx:=B.isLt BX.out
   have hkin:=Q.kin_some w1
   have hkc:=@Q.cell_kin w1
   have e0 : ∀ x : Q.Kin w1.heap.size w1,x.world.cell? ⟨w.heap.size,0,none⟩ = some (.slice aa na ca):=fun x=>by rw [hkc x _ _ hbx];exact B.cell BX.out 0 rfl
   have e1 : ∀ x : Q.Kin w1.heap.size w1,x.world.cell? ⟨w.heap.size,1,none⟩ = some (.slice ao hs.length cap):=fun x=>by rw [hkc x _ _ hbx];exact B.cell BX.out 1 rfl
   have HP2 : Hid (∀ W,Below w1.heap.size w1 W -> Calls Tryz.prog 28 #[.slice aa na ca] W fun e w'=>e = .returned (.int .i64 T) /\ Below W.heap.size W w'):=fun W hb=>HPG1.out W (HB.out.trans (hb.mono HB.out.size))
   have HS2 : Hid (∀ W,Below w1.heap.size w1 W -> Calls Tryz.prog 69 #[.slice ao hs.length cap] W fun e w'=>e = .returned (.bool (LM.riseB hs)) /\ Below W.heap.size W w'):=fun W hb=>HSR.out W (HB.out.trans (hb.mono HB.out.size))
   clear hkc HPG1 HSR HCK
   by_cases hT : (hs.length : Int) = T
   · have hTb : decide ((hs.length : Int) = T) = true:=decide_eq_true hT
     rw [hTb,Bool.true_and] at HRV
     cases er : LM.riseB hs with
     | false =>
      rw [er] at HS2 HRV
      clear er hTb
      refine Q.region_kin (by kernel_rfl) (by kernel_rfl) ?_
      repeat (first | go_big_quiet_step ((first | (go_at_call 28;exact calls_kin _ HP2.out) | (go_at_call 69;exact calls_kin _ HS2.out))) | quiet_step ((first | (go_at_call 28;exact calls_kin _ HP2.out) | (go_at_call 69;exact calls_kin _ HS2.out))))
      refine wpQuiet_nil ?_
      intro _ hw'
      obtain ⟨x,hw''⟩:=hw'
      subst hw''
      go_wp2
      go_ret
      exact ⟨ret_int (by rw [HRV.out];rfl),HB.out.trans (x.keeps.mono HB.out.size)⟩
     | true =>
      rw [er] at HS2 HRV
      rw [Bool.true_and] at HRV
      clear er hTb
      refine Q.region_kin (by kernel_rfl) (by kernel_rfl) ?_
      repeat (first | go_big_quiet_step ((first | (go_at_call 28;exact calls_kin _ HP2.out) | (go_at_call 69;exact calls_kin _ HS2.out))) | quiet_step ((first | (go_at_call 28;exact calls_kin _ HP2.out) | (go_at_call 69;exact calls_kin _ HS2.out))))
      refine wpQuiet_nil ?_
      intro _ hw'
      obtain ⟨x,hw''⟩:=hw'
      subst hw''
      go_wp2
      have HBX:=hideC (HB.out.trans (x.keeps.mono HB.out.size))
      have BXX:=hideC (B.below BX.out x.keeps hbx)
      obtain ⟨w2,hw2⟩ : ∃ w2,w2 = x.world:=⟨_,rfl⟩
      rw [<- hw2] at HBX BXX
      rw [<- hw2]
      clear hw2 e0 e1 hkin HP2 HS2
      go_loopw [4] (fun i wr=>∃ k : Nat,k <= hs.length /\ i = .int .i64 k /\ LM.inTo l hs k = true /\ Below w.heap.size w wr /\ wr.heap[w.heap.size]? = some (.cells #[.slice aa na ca,.slice ao hs.length cap,.int .i64 en] 25 (0,0))) (fun i _=>hs.length - (intOf i).toNat)
      case atStart=>exact ⟨0,by omega,rfl,rfl,HBX.out,BXX.out⟩
      case round =>
       obtain ⟨k,hk,rfl,hin,hb,hbr⟩:=hrel
       have HIN:=hideC hin
       have HBr:=hideC hb
       have BXr:=hideC hbr
       have hbl0:=B.isLt hbr
       have x0:=B.cell hbr 0 rfl
       have x1:=B.cell hbr 1 rfl
       have x2:=B.cell hbr 2 rfl
       clear hin hbr
       by_cases hlt : k < hs.length
       · obtain ⟨b,off,hao,hbl,hlie⟩:=(HHS.out.below hb) (by omega)
         subst hao
         obtain ⟨c0,-,-,-⟩:=hlie k hlt
         have HI1 : Hid (LM.inTo l hs (k + 1) = ((AM.findFrom l (LM.shAt hs k).page).2 && !(AM.findFrom l (LM.shAt hs k).page).1.zero)):=by
          show _ = _
          simp only [LM.inTo]
          rw [HIN.out,Bool.true_and]
          rfl
         have HI2 : Hid (((AM.findFrom l (LM.shAt hs k).page).2 && !(AM.findFrom l (LM.shAt hs k).page).1.zero) = false -> LM.inTo l hs hs.length = false):=fun e=>LM.in_bad l hs k hlt e
         obtain ⟨p,hp⟩ : ∃ p,p = (LM.shAt hs k).page:=⟨_,rfl⟩
         rw [<- hp] at c0 HI1 HI2
         have HA2:=hideC (HAA1.out p)
         obtain ⟨r,hr⟩ : ∃ r,r = AM.findFrom l p:=⟨_,rfl⟩
         rw [<- hr] at HA2 HI1 HI2
         clear hp hr hlie hb
         obtain ⟨⟨pg,pn,pr,zr⟩,ok⟩:=r
         simp only at HA2 HI1 HI2
         have HBd:=hideC (below_drew wr)
         have HBD1:=hideC (HBr.out.trans (HBd.out.mono HBr.out.size))
         have HBD2:=hideC ((HBr.out.trans (HBd.out.mono HBr.out.size)).alloc (HBr.out.trans (HBd.out.mono HBr.out.size)).size (.cells #[.int .i64 0,.int .i64 0,.int .i64 0,.bool false] 59))
         have HBZ:=hideC (HBd.out.alloc (Nat.le_refl _) (.cells #[.int .i64 0,.int .i64 0,.int .i64 0,.bool false] 59))
         have BZ : Hid ((wr.drew.alloc (.cells #[.int .i64 0,.int .i64 0,.int .i64 0,.bool false] 59)).heap[wr.heap.size]? = some (.cells #[.int .i64 0,.int .i64 0,.int .i64 0,.bool false] 59 (0,0))):=B.new wr.drew _ _
         by_cases hgood : (ok && !zr) = true
         · obtain ⟨rfl,rfl⟩ : ok = true /\ zr = false:=by simpa using hgood
           clear hgood HI2
           go_wp2
           go_region_law (go_simp;go_at_call 42;refine (HA2.out _ (by first | exact HBD1.out | exact HBD2.out)).mono ?_;rintro e w3 ⟨rfl,hb⟩;have HB3 : Hid (Below w.heap.size w w3):=(by first | exact HBD1.out.trans (hb.mono HBD1.out.size) | exact HBD2.out.trans (hb.mono HBD2.out.size));have BX3 : Hid (w3.heap[w.heap.size]? = some (.cells #[.slice aa na ca,.slice (some ⟨b,off,none⟩) hs.length cap,.int .i64 en] 25 (0,0))):=(by first | exact B.below (B.below BXr.out HBd.out hbl0) hb (by simpa using hbl0) | exact B.below (B.below BXr.out HBZ.out hbl0) hb (by have:=hbl0;simp;omega));(try (have BZ3:=hideC (B.below BZ.out hb (B.isLt BZ.out));have z0:=B.cell BZ3.out 0 rfl;have z1:=B.cell BZ3.out 1 rfl;have z2:=B.cell BZ3.out 2 rfl;have z3:=B.cell BZ3.out 3 rfl;have zf:=B.free BZ3.out));clear hb;go_simp)
           all_goals
            go_wp2
            go_roundw
            case rel=>first | exact ⟨k + 1,by omega,by go_num,HI1.out,HB3.out.alloc HB3.out.size _,B.alloc BX3.out _⟩ | exact ⟨k + 1,by omega,by go_num,HI1.out,((((HB3.out.setCell (p:=⟨wr.heap.size,0,none⟩) HBr.out.size _).setCell (p:=⟨wr.heap.size,1,none⟩) HBr.out.size _).setCell (p:=⟨wr.heap.size,2,none⟩) HBr.out.size _).setCell (p:=⟨wr.heap.size,3,none⟩) HBr.out.size _),(B.other (B.other (B.other (B.other BX3.out wr.heap.size 0 _ (by omega)) wr.heap.size 1 _ (by omega)) wr.heap.size 2 _ (by omega)) wr.heap.size 3 _ (by omega))⟩
            case measure=>simp [intOf];omega
         · have HX:=hideC (HI2.out (by simpa using hgood))
           rw [HX.out,Bool.false_and] at HRV
           clear HI1 HI2
           cases ok
           · clear hgood
             go_wp2
             go_region_law (go_simp;go_at_call 42;refine (HA2.out _ (by first | exact HBD1.out | exact HBD2.out)).mono ?_;rintro e w3 ⟨rfl,hb⟩;have HB3 : Hid (Below w.heap.size w w3):=(by first | exact HBD1.out.trans (hb.mono HBD1.out.size) | exact HBD2.out.trans (hb.mono HBD2.out.size));(try (have BZ3:=hideC (B.below BZ.out hb (B.isLt BZ.out));have z0:=B.cell BZ3.out 0 rfl;have z1:=B.cell BZ3.out 1 rfl;have z2:=B.cell BZ3.out 2 rfl;have z3:=B.cell BZ3.out 3 rfl;have zf:=B.free BZ3.out));clear hb;go_simp)
             all_goals
              go_wp2
              go_ret
              first | exact ⟨ret_int (by rw [HRV.out];rfl),HB3.out.alloc HB3.out.size _⟩ | exact ⟨ret_int (by rw [HRV.out];rfl),((((HB3.out.setCell (p:=⟨wr.heap.size,0,none⟩) HBr.out.size _).setCell (p:=⟨wr.heap.size,1,none⟩) HBr.out.size _).setCell (p:=⟨wr.heap.size,2,none⟩) HBr.out.size _).setCell (p:=⟨wr.heap.size,3,none⟩) HBr.out.size _)⟩
           · obtain rfl : zr = true:=by simpa using hgood
             clear hgood
             go_wp2
             go_region_law (go_simp;go_at_call 42;refine (HA2.out _ (by first | exact HBD1.out | exact HBD2.out)).mono ?_;rintro e w3 ⟨rfl,hb⟩;have HB3 : Hid (Below w.heap.size w w3):=(by first | exact HBD1.out.trans (hb.mono HBD1.out.size) | exact HBD2.out.trans (hb.mono HBD2.out.size));(try (have BZ3:=hideC (B.below BZ.out hb (B.isLt BZ.out));have z0:=B.cell BZ3.out 0 rfl;have z1:=B.cell BZ3.out 1 rfl;have z2:=B.cell BZ3.out 2 rfl;have z3:=B.cell BZ3.out 3 rfl;have zf:=B.free BZ3.out));clear hb;go_simp)
             all_goals
              go_wp2
              go_ret
              first | exact ⟨ret_int (by rw [HRV.out];rfl),HB3.out.alloc HB3.out.size _⟩ | exact ⟨ret_int (by rw [HRV.out];rfl),((((HB3.out.setCell (p:=⟨wr.heap.size,0,none⟩) HBr.out.size _).setCell (p:=⟨wr.heap.size,1,none⟩) HBr.out.size _).setCell (p:=⟨wr.heap.size,2,none⟩) HBr.out.size _).setCell (p:=⟨wr.heap.size,3,none⟩) HBr.out.size _)⟩
       · obtain rfl : k = hs.length:=by omega
         rw [HIN.out,Bool.true_and,HE.out] at HRV
         have HA2:=hideC (HAA1.out (en.tdiv 16))
         have HPR2:=hideC (HPR1.out (en.tdiv 16))
         obtain ⟨r,hr⟩ : ∃ r,r = AM.findFrom l (en.tdiv 16):=⟨_,rfl⟩
         rw [<- hr] at HA2 HRV HPR2
         clear hr hb HE HAA1 HPR1
         obtain ⟨⟨pg,pn,pr,zr⟩,ok⟩:=r
         simp only at HA2 HRV HPR2
         cases ok with
         | false =>
          go_wp2_with (go_at_call 42;refine (HA2.out _ HBr.out).mono ?_;rintro e w3 ⟨rfl,hb⟩;have HB3:=hideC (HBr.out.trans (hb.mono HBr.out.size));clear hb)
          go_ret
          exact ⟨ret_int (by rw [HRV.out];rfl),HB3.out.alloc HB3.out.size _⟩
         | true =>
          have hpr:=LM.prot_cases (HPR2.out rfl)
          clear HPR2
          by_cases h8 : en.tmod 8 = 0
          · rw [decide_eq_true h8,Bool.and_true,Bool.true_and] at HRV
            rcases hpr with rfl | rfl | rfl | rfl
            all_goals
             go_wp2_with (go_at_call 42;refine (HA2.out _ HBr.out).mono ?_;rintro e w3 ⟨rfl,hb⟩;have HB3:=hideC (HBr.out.trans (hb.mono HBr.out.size));have BX3:=hideC (B.below BXr.out hb hbl0);have hb3:=B.isLt BX3.out;have y2:=B.cell BX3.out 2 rfl;clear hb)
             go_ret
             exact ⟨ret_int (by rw [HRV.out];rfl),HB3.out.alloc HB3.out.size _⟩
          · have h8' : (en.tmod 8 == 0) = false:=by simpa using h8
            rw [decide_eq_false h8,Bool.and_false,Bool.and_false] at HRV
            go_wp2_with (go_at_call 42;refine (HA2.out _ HBr.out).mono ?_;rintro e w3 ⟨rfl,hb⟩;have HB3:=hideC (HBr.out.trans (hb.mono HBr.out.size));have BX3:=hideC (B.below BXr.out hb hbl0);have hb3:=B.isLt BX3.out;have y2:=B.cell BX3.out 2 rfl;clear hb)
            go_ret
            exact ⟨ret_int (by rw [HRV.out];rfl),HB3.out.alloc HB3.out.size _⟩
   · have hTb : decide ((hs.length : Int) = T) = false:=decide_eq_false hT
     have hTb2 : ((hs.length : Int) == T) = false:=by simpa using hT
     rw [hTb,Bool.false_and] at HRV
     clear hTb
     refine Q.region_kin (by kernel_rfl) (by kernel_rfl) ?_
     repeat (first | go_big_quiet_step ((first | (go_at_call 28;exact calls_kin _ HP2.out) | (go_at_call 69;exact calls_kin _ HS2.out))) | quiet_step ((first | (go_at_call 28;exact calls_kin _ HP2.out) | (go_at_call 69;exact calls_kin _ HS2.out))))
     refine wpQuiet_nil ?_
     intro _ hw'
     obtain ⟨x,hw''⟩:=hw'
     subst hw''
     go_wp2
     go_ret
     exact ⟨ret_int (by rw [HRV.out];rfl),HB.out.trans (x.keeps.mono HB.out.size)⟩
 · have hc' : (C == 0) = false:=by simpa using hc
   rw [if_neg hc]
   go_enter Tryz.func26,Tryz.ntmps26
   go_wp2_with (go_at_call 41;refine (HCK.out _ HB.out).mono ?_;rintro e w1 ⟨rfl,hb⟩;have HB:=hideC (HB.out.trans (hb.mono HB.out.size));clear hb)
   go_ret
   exact ⟨rfl,HB.out⟩
end LW
namespace GR
open Go.RowKit GK GH
open FW (hideC add_below)
set_option maxHeartbeats 2000000 in
theorem flatError_any (l : List AM.Ar) (hs : List LM.Sh) (en slots : Int) (aa ah : Option Addr) (na ca ch : Nat) (w : World) (ha : AW.Has w (.slice aa na ca) l) (hf : AW.AllFit l) (h : LM.HasH w ah hs) (hfs : LM.FitHs hs) (he : M.I64 en) :
  Calls Tryz.prog 8 #[.agg #[.slice aa na ca,.slice ah hs.length ch,.int .i64 en],.int .i64 slots] w fun e w'=>e = .returned (.int .i64 (newF l hs en slots).2) /\ Below w.heap.size w w':=by
 have HCK : Hid (∀ V,Below w.heap.size w V -> Calls Tryz.prog 26 #[.agg #[.slice aa na ca,.slice ah hs.length ch,.int .i64 en]] V fun e w'=>e = .returned (.int .i64 (LM.checkL l hs en)) /\ Below V.heap.size V w'):=fun V hV=>by
  rw [LM.check_same]
  exact LW.checkLinked_any l hs en _ ah ch V (ha.below hV) hf (h.below hV) hfs he
 have HWI:=hideC (fun V=>AW.within_any slots 0 512 V)
 have HPG : Hid (LM.checkL l hs en = 0 -> ∀ V,Below w.heap.size w V -> Calls Tryz.prog 28 #[.slice aa na ca] V fun e w'=>e = .returned (.int .i64 (AM.totalN l)) /\ Below V.heap.size V w'):=fun g V hV=>AW.pages_any l _ V (ha.below hV) (check_parts g).1
 obtain ⟨ck,hck⟩ : ∃ ck,ck = LM.checkL l hs en:=⟨_,rfl⟩
 obtain ⟨tt,htt⟩ : ∃ tt,tt = AM.totalN l:=⟨_,rfl⟩
 have HNF : Hid ((newF l hs en slots).2 = if ¬ ck = 0 then ck else if ¬ (0 <= slots /\ slots <= 512) then 3 else if slots < tt then 8 else 0):=by
  show _ = _
  unfold newF
  rw [<- hck,<- htt]
  split
  · rfl
  · split
    · rfl
    · split <;> rfl
 rw [<- hck] at HCK HPG
 rw [<- htt] at HPG
 obtain ⟨R,hR⟩ : ∃ R,R = (newF l hs en slots).2:=⟨_,rfl⟩
 rw [<- hR] at HNF ⊢
 obtain ⟨n,hn⟩ : ∃ n,n = hs.length:=⟨_,rfl⟩
 rw [<- hn] at HCK ⊢
 have HBX:=hideC ((Below.refl w.heap.size w).alloc (Nat.le_refl _) (.cells #[.slice aa na ca,.slice ah n ch,.int .i64 en] 25))
 have BX:=hideC (B.new w #[.slice aa na ca,.slice ah n ch,.int .i64 en] 25)
 clear h ha hf hfs hck htt hR hn he
 by_cases hk0 : ck = 0
 · subst hk0
   have HP1:=hideC (HPG.out rfl)
   clear HPG
   by_cases hin : 0 <= slots /\ slots <= 512
   · have hid : decide (0 <= slots /\ slots <= 512) = true:=decide_eq_true hin
     rw [hid] at HWI
     have HRE : Hid (R = if slots < tt then 8 else 0):=by rw [HNF.out,if_neg (fun g=>g rfl),if_neg (fun g=>g hin)];exact rfl
     clear HNF hid hin
     by_cases hst : slots < tt
     · have hre : R = 8:=by rw [HRE.out,if_pos hst]
       subst hre
       clear HRE
       go_enter Tryz.func8,Tryz.ntmps8
       go_wp2_with (first
        | (go_at_call 26;refine (HCK.out _ HBX.out).mono ?_;rintro e w1 ⟨rfl,hb1⟩;have HB1:=hideC (HBX.out.trans (hb1.mono HBX.out.size));have x0 : w1.cell? ⟨w.heap.size,0,none⟩ = some (.slice aa na ca):=B.cell (B.below BX.out hb1 (B.isLt BX.out)) 0 rfl;clear hb1)
        | (go_at_call 27;refine (HWI.out _).mono ?_;rintro e w2 ⟨rfl,rfl⟩)
        | (go_at_call 28;refine (HP1.out _ HB1.out).mono ?_;rintro e w3 ⟨rfl,hb3⟩;have HB3:=hideC (HB1.out.trans (hb3.mono HB1.out.size));clear hb3))
       go_ret
       exact ⟨rfl,HB3.out⟩
     · have hre : R = 0:=by rw [HRE.out,if_neg hst]
       subst hre
       clear HRE
       go_enter Tryz.func8,Tryz.ntmps8
       go_wp2_with (first
        | (go_at_call 26;refine (HCK.out _ HBX.out).mono ?_;rintro e w1 ⟨rfl,hb1⟩;have HB1:=hideC (HBX.out.trans (hb1.mono HBX.out.size));have x0 : w1.cell? ⟨w.heap.size,0,none⟩ = some (.slice aa na ca):=B.cell (B.below BX.out hb1 (B.isLt BX.out)) 0 rfl;clear hb1)
        | (go_at_call 27;refine (HWI.out _).mono ?_;rintro e w2 ⟨rfl,rfl⟩)
        | (go_at_call 28;refine (HP1.out _ HB1.out).mono ?_;rintro e w3 ⟨rfl,hb3⟩;have HB3:=hideC (HB1.out.trans (hb3.mono HB1.out.size));clear hb3))
       go_ret
       exact ⟨rfl,HB3.out⟩
   · have hid : decide (0 <= slots /\ slots <= 512) = false:=decide_eq_false hin
     rw [hid] at HWI
     have hre : R = 3:=by rw [HNF.out,if_neg (fun g=>g rfl),if_pos hin]
     subst hre
     clear HNF hid hin
     go_enter Tryz.func8,Tryz.ntmps8
     go_wp2_with (first
      | (go_at_call 26;refine (HCK.out _ HBX.out).mono ?_;rintro e w1 ⟨rfl,hb1⟩;have HB1:=hideC (HBX.out.trans (hb1.mono HBX.out.size));clear hb1)
      | (go_at_call 27;refine (HWI.out _).mono ?_;rintro e w2 ⟨rfl,rfl⟩))
     go_ret
     exact ⟨rfl,HB1.out⟩
 · have hre : R = ck:=by rw [HNF.out,if_pos hk0]
   subst hre
   have hki : (R == 0) = false:=by rw [beq_eq_false_iff_ne];exact hk0
   clear HNF hk0 HPG
   go_enter Tryz.func8,Tryz.ntmps8
   go_wp2_with (first
    | (have _:=FIRST;go_at_call 26;refine (HCK.out _ HB1.out).mono ?_;rintro e w2 ⟨rfl,hb2⟩;have HB2:=hideC (HB1.out.trans (hb2.mono HB1.out.size));clear hb2)
    | (go_at_call 26;refine (HCK.out _ HBX.out).mono ?_;rintro e w1 ⟨rfl,hb1⟩;have HB1:=hideC (HBX.out.trans (hb1.mono HBX.out.size));have hx1:=B.below BX.out hb1 (B.isLt BX.out);have x0 : w1.cell? ⟨w.heap.size,0,none⟩ = some (.slice aa na ca):=B.cell hx1 0 rfl;have x1 : w1.cell? ⟨w.heap.size,1,none⟩ = some (.slice ah n ch):=B.cell hx1 1 rfl;have x2 : w1.cell? ⟨w.heap.size,2,none⟩ = some (.int .i64 en):=B.cell hx1 2 rfl;have FIRST:=trivial;clear hb1 hx1))
   go_ret
   exact ⟨rfl,HB2.out⟩
end GR
namespace GH
open Go.RowKit GK
open GW (cellPr cellWd cellPr_len cellWd_len)
open FW (hideC add_below)
open GF (blk)
def OutFl (w : World) (r : FM.Fl × Int) (e : Ending) (w' : World) : Prop:=∃ az cs ar cr ao co,e = .returned (.tuple #[.agg (FW.flCells r.1 az ar ao cs cr co),.int .i64 r.2]) /\ (∀ V,Kp (fun b=>b < w.heap.size) w' V -> FW.HasFl V r.1 az ar ao) /\ Below w.heap.size w w'
theorem has_fl0 (w : World) : FW.HasFl w fl0 none none none:=⟨fun h=>absurd h (Nat.not_lt_zero _),fun h=>absurd h (Nat.not_lt_zero _),fun h=>absurd h (Nat.not_lt_zero _)⟩
theorem kp_set4 (w : World) (g : Nat) (v0 v1 v2 v3 : Value) : Kp (fun b=>b = g) w ((((w.setCell ⟨g,0,none⟩ v0).setCell ⟨g,1,none⟩ v1).setCell ⟨g,2,none⟩ v2).setCell ⟨g,3,none⟩ v3) :=
 (kp_set3 (D:=fun b=>b = g) w g 0 1 2 v0 v1 v2 rfl).trans (Kp.set (fun b=>b = g) _ ⟨g,3,none⟩ v3 rfl) (fun _ _ h=>h)
theorem grp_made {lo mb : Nat} {w2 w3 w4 : World} {v : Value} {L : List GF.Lc} {f : FM.Fl} {vr vo : Value} (hm : GF.Mem lo mb w2 (fun b=>lo <= b /\ b < w2.heap.size) f.slots v L f.spaces) (h23 : Below w2.heap.size w2 w3) (hr : w3.ownsRow w2.heap.size 70 13 vr f.procs.length (f.procs.flatMap cellPr)) (h34 : Below w3.heap.size w3 w4) (ho : w4.ownsRow w3.heap.size 78 2 vo f.out.length (f.out.flatMap cellWd)) :
  GW.Grp (GF.HdF lo mb) lo mb w4.heap.size (w4.alloc (.cells #[.iface 144 (.pointer (some ⟨mb,0,none⟩)),vr,vo] 151)) (fun b=>lo <= b /\ b < w2.heap.size) vr vo (ofFl f):=by
 have hlo : lo <= w2.heap.size:=by have:=hm.base;have:=B.isLt hm.head;omega
 have s23:=h23.size
 have s34:=h34.size
 have hA : Below w4.heap.size w4 (w4.alloc (.cells #[.iface 144 (.pointer (some ⟨mb,0,none⟩)),vr,vo] 151)):=(Below.refl _ _).alloc (Nat.le_refl _) _
 have h2A : Below w2.heap.size w2 (w4.alloc (.cells #[.iface 144 (.pointer (some ⟨mb,0,none⟩)),vr,vo] 151)):=(h23.trans (h34.mono s23)).trans (hA.mono (by omega))
 have hr4:=Kp.row (Kp.ofBelow (D:=fun _=>False) h34) hr (fun _ _ g=>g)
 have lr : ∀ b,blk vr b -> w2.heap.size <= b /\ b < w3.heap.size:=fun b hb=>hr.lt b hb
 have lw : ∀ b,blk vo b -> w3.heap.size <= b /\ b < w4.heap.size:=fun b hb=>ho.lt b hb
 refine ⟨B.new w4 _ _,⟨⟨v,L,hm.below h2A⟩,fun b hb=>⟨hb.1,Nat.lt_of_lt_of_le hb.2 h2A.size⟩⟩,?_,?_,by omega,fun g=>by have:=g.2;omega,fun g=>by have:=lr _ g;omega,fun g=>by have:=lw _ g;omega,fun b hb g=>by have:=lr b hb;have:=g.2;omega,fun b hb g=>by have:=lw b hb;have:=g.2;omega,fun b hb g=>by have:=lr b hb;have:=lw b g;omega⟩
 · exact row_base (Kp.row (Kp.ofBelow (D:=fun _=>False) hA) hr4 (fun _ _ g=>g)) (fun g hg=>by have:=lr g hg;omega)
 · exact row_base (Kp.row (Kp.ofBelow (D:=fun _=>False) hA) ho (fun _ _ g=>g)) (fun g hg=>by have:=lw g hg;omega)
end GH
end Go.Proofs.YtkdigjpejnebkaaGreat
