import Derived.Test.YtkdigjpejnebkaaGreatGS02
import Derived.Test.YtkdigjpejnebkaaGreatGS10
import Derived.Test.YtkdigjpejnebkaaGreatGS13
set_option linter.unusedVariables false
set_option maxRecDepth 100000
set_option linter.unusedSimpArgs false
namespace Go.Proofs.YtkdigjpejnebkaaGreat
namespace FW
open Go.RowKit
def fcells (x : Int × Int) : Array Value:=#[.int .i64 x.1,.int .i64 x.2]
theorem set2_below {N g : Nat} {w W : World} (h : Below N w W) (hg : N <= g) (v0 v1 : Value) : Below N w ((W.setCell ⟨g,0,none⟩ v0).setCell ⟨g,1,none⟩ v1):=(h.setCell (p:=⟨g,0,none⟩) hg v0).setCell (p:=⟨g,1,none⟩) hg v1
set_option maxHeartbeats 4000000 in
theorem of_any (l : List AM.Ar) (v : Value) (a size way : Int) (w : World) (h : AW.Has w v l) (hf : AW.AllFit l) (ha : -9223372036854775808 <= a /\ a <= 9223372036854775807) (hz : size <= 9223372036854775807) :
  Calls Tryz.prog 205 #[v,.int .i64 a,.int .i64 size,.int .i64 way] w fun e w'=>e = .returned (.agg (fcells (FM.faultN l a size way))) /\ Below w.heap.size w w':=by
 have HFD:=hideC (fun p V (hV : AW.Has V v l)=>AW.find_any l v p V hV hf)
 have HH:=hideC h
 have HB0:=hideC ((Below.refl w.heap.size w).alloc (Nat.le_refl _) (.cells #[.int .i64 0,.int .i64 0] 68))
 have X0:=hideC (B.new w #[.int .i64 0,.int .i64 0] 68)
 have HF : Hid (FM.faultN l a size way = if way = 2 /\ ¬ a % 8 = 0 then (3,a) else FM.bytesN l a way size.toNat):=rfl
 obtain ⟨⟨R1,R2⟩,hR⟩ : ∃ R,R = FM.faultN l a size way:=⟨_,rfl⟩
 rw [<- hR] at HF ⊢
 clear hR h hf
 unfold fcells
 simp only
 obtain ⟨ao,vn,cap,rfl⟩ : ∃ ao n cap,v = .slice ao n cap:=by
  obtain ⟨ao,cap,h,_⟩:=HH.out
  exact ⟨ao,_,cap,h⟩
 have htm : a.tmod 8 = 0 ↔ a % 8 = 0:=by rw [Int.tmod_eq_emod];split <;> omega
 by_cases hal : way = 2 /\ ¬ a % 8 = 0
 · have HR : Hid ((R1,R2) = (3,a)):=by show _ = _;rw [HF.out,if_pos hal]
   obtain ⟨rfl,hal⟩:=hal
   have h8 : (a.tmod 8 == 0) = false:=by rw [beq_eq_false_iff_ne];exact fun g=>hal (htm.1 g)
   clear htm hal
   go_enter Tryz.func205,Tryz.ntmps205
   go_wp2
   exact bodyPost_ret (v:=.agg #[.int .i64 3,.int .i64 a]) (by simp [results,Tryz.results205,go_sem]) rfl ⟨by rw [(Prod.mk.inj HR.out).1,(Prod.mk.inj HR.out).2],(Below.refl w.heap.size w).alloc (Nat.le_refl _) _⟩
 · have HR : Hid ((R1,R2) = FM.bytesN l a way size.toNat):=by show _ = _;rw [HF.out,if_neg hal]
   clear HF
   by_cases c : way = 2
   · subst c
     have h8 : a.tmod 8 = 0:=htm.2 (Classical.not_not.1 (fun g=>hal ⟨rfl,g⟩))
     clear htm hal
     go_enter Tryz.func205,Tryz.ntmps205
     go_wp2_with fail
     go_loopw [23] (fun iv wr=>∃ k : Nat,k <= size.toNat /\ iv = .int .i64 (k : Int) /\ FM.bytesN l a 2 k = (0,0) /\ wr.heap[w.heap.size]? = some (.cells #[.int .i64 0,.int .i64 0] 68 (0,0)) /\ Below w.heap.size w wr) (fun iv _=>size.toNat - (intOf iv).toNat)
     case atStart=>exact ⟨0,by omega,rfl,rfl,X0.out,HB0.out⟩
     case round =>
      obtain ⟨k,hk,rfl,hnf,hx,hb⟩:=hrel
      have HN:=hideC hnf
      have HX:=hideC hx
      have HB:=hideC hb
      clear hnf hx hb X0 HB0
      by_cases hlt : (k : Int) < size
      · have hsm : -9223372036854775808 <= a + k /\ a + k <= 9223372036854775807:=by
         cases k with
         | zero=>omega
         | succ j =>
          have:=FM.bytes_small HN.out
          omega
        have HST:=hideC (FM.bytes_step HN.out)
        have HFE : Hid (∀ f : Int × Int,FM.bytesN l a 2 (k + 1) = f -> ¬ f.1 = 0 -> (R1,R2) = f):=fun f h1 h2=>HR.out.trans (FM.bytes_fell h1 h2 _ (by omega))
        have HFP:=hideC (fun V hV=>HFD.out ((a + k).tdiv 16) V hV)
        have HQ : Hid (0 <= a + k -> (a + k).tdiv 16 = (a + k) / 16):=fun h=>Int.tdiv_eq_ediv_of_nonneg h
        obtain ⟨⟨⟨pp,pn,pt,pz⟩,ok⟩,hF⟩ : ∃ F,F = AM.findN l ((a + k).tdiv 16):=⟨_,rfl⟩
        have HF2:=hideC hF
        rw [<- hF] at HFP
        have HFP2 : Hid (∀ V,AW.Has V (.slice ao vn cap) l -> Calls Tryz.prog 95 #[.slice ao vn cap,.int .i64 ((a + k).tdiv 16)] V fun e w'=>e = .returned (.tuple #[.agg #[.int .i64 pp,.int .i64 pn,.int .i64 pt,.bool pz],.bool ok]) /\ Below V.heap.size V w'):=HFP
        clear hF HFP
        have HBT : Hid ((a + k < 0 -> FM.byteN l (a + k) 2 = (1,a + k)) /\ (0 <= a + k -> ok = false -> FM.byteN l (a + k) 2 = (1,a + k)) /\ (0 <= a + k -> ok = true -> 0 <= pt /\ pt <= 3 /\ (FM.noRight pt 2 = true -> FM.byteN l (a + k) 2 = (2,a + k)) /\ (FM.noRight pt 2 = false -> FM.byteN l (a + k) 2 = (0,0)))):=by
         refine ⟨fun h=>FM.byte_map (.inl h),fun h h2=>?_,fun h h2=>?_⟩
         · refine FM.byte_map (.inr ?_)
           rw [<- HQ.out h,<- HF2.out]
           exact h2
         · have e1:=HF2.out
           rw [HQ.out h] at e1
           have h3 : (AM.findN l ((a + k) / 16)).2 = true:=by rw [<- e1];exact h2
           have h4:=FM.found_page (FM.found_check h3) h3
           have e2 : (AM.findN l ((a + k) / 16)).1.prot = pt:=by rw [<- e1]
           rw [e2] at h4
           exact ⟨h4.2.2.1,h4.2.2.2,fun h5=>FM.byte_right h h3 (by rw [e2];exact h5),fun h5=>FM.byte_ok h h3 (by rw [e2];exact h5)⟩
        clear HF2
        by_cases hneg : a + k < 0
        · have HRR:=hideC (HFE.out _ (HST.out.trans (HBT.out.1 hneg)) (by simp))
          clear HBT HFE HST
          go_wp2_with (go_at_call 95;refine (HFP2.out _ (HH.out.below HB.out)).mono ?_;rintro e w1 ⟨rfl,hb1⟩;have HB1:=hideC (add_below HB.out hb1);have X1:=hideC (B.below HX.out hb1 (B.isLt HX.out));clear hb1;have hl1:=B.isLt X1.out;have hne : ¬ w.heap.size = w1.heap.size:=(by omega);have x0 : w1.cell? ⟨w.heap.size,0,none⟩ = some (.int .i64 0):=B.cell X1.out 0 rfl;have x1 : w1.cell? ⟨w.heap.size,1,none⟩ = some (.int .i64 0):=B.cell X1.out 1 rfl;have f0 : ∀ k,w1.frozen? ⟨w.heap.size,k,none⟩ = false:=fun k=>B.free X1.out k)
          exact bodyPost_ret (v:=.agg #[.int .i64 1,.int .i64 (a + k)]) (by simp [results,Tryz.results205,go_sem,x0,x1,hl1]) rfl ⟨by rw [(Prod.mk.inj HRR.out).1,(Prod.mk.inj HRR.out).2],(set2_below HB1.out (Nat.le_refl _) _ _).alloc (by simp;omega) _⟩
        · have hnn : 0 <= a + k:=by omega
          have HFP3:=HFP2
          rw [HQ.out hnn] at HFP3
          clear hneg HFP2 HQ
          cases ok with
          | false =>
           have HRR:=hideC (HFE.out _ (HST.out.trans (HBT.out.2.1 (by omega) rfl)) (by simp))
           clear HBT HFE HST
           go_wp2_with (go_at_call 95;refine (HFP3.out _ (HH.out.below HB.out)).mono ?_;rintro e w1 ⟨rfl,hb1⟩;have HB1:=hideC (add_below HB.out hb1);have X1:=hideC (B.below HX.out hb1 (B.isLt HX.out));clear hb1;have hl1:=B.isLt X1.out;have hne : ¬ w.heap.size = w1.heap.size:=(by omega);have x0 : w1.cell? ⟨w.heap.size,0,none⟩ = some (.int .i64 0):=B.cell X1.out 0 rfl;have x1 : w1.cell? ⟨w.heap.size,1,none⟩ = some (.int .i64 0):=B.cell X1.out 1 rfl;have f0 : ∀ k,w1.frozen? ⟨w.heap.size,k,none⟩ = false:=fun k=>B.free X1.out k)
           exact bodyPost_ret (v:=.agg #[.int .i64 1,.int .i64 (a + k)]) (by simp [results,Tryz.results205,go_sem,x0,x1,hl1]) rfl ⟨by rw [(Prod.mk.inj HRR.out).1,(Prod.mk.inj HRR.out).2],(set2_below HB1.out (Nat.le_refl _) _ _).alloc (by simp;omega) _⟩
          | true =>
           have hpt:=HBT.out.2.2 hnn rfl
           have hbt:=right_bits pt 2 hpt.1 hpt.2.1
           have HBT2:=hideC hpt.2.2
           have HRA : Hid (∀ V,Calls Tryz.prog 211 #[.int .i64 2] V fun e w'=>e = .returned (.int .i64 (rightN 2)) /\ Below V.heap.size V w'):=fun V=>(right_any 2 V).mono fun e w' ⟨h1,h2⟩=>⟨h1,by rw [<- h2];exact Below.refl _ _⟩
           clear hpt HBT
           obtain ⟨RN,hRN⟩ : ∃ RN,RN = rightN 2:=⟨_,rfl⟩
           rw [<- hRN] at hbt HRA
           clear hRN
           go_wp2_with (go_at_call 95;refine (HFP3.out _ (HH.out.below HB.out)).mono ?_;rintro e w1 ⟨rfl,hb1⟩;have HB1:=hideC (add_below HB.out hb1);have X1:=hideC (B.below HX.out hb1 (B.isLt HX.out));clear hb1;have hl1:=B.isLt X1.out)
           obtain ⟨W,hW⟩ : ∃ W,W = w1.alloc (.cells #[.int .i64 pp,.int .i64 pn,.int .i64 pt,.bool pz] 59):=⟨_,rfl⟩
           have HW:=hideC hW
           have hs : W.heap.size = w1.heap.size + 1:=by rw [hW];simp
           have hkin:=Q.kin_some W
           have hkc:=@Q.cell_kin W
           have c2 : ∀ x : Q.Kin W.heap.size W,x.world.cell? ⟨w1.heap.size,2,none⟩ = some (.int .i64 pt):=fun x=>by rw [hkc x _ _ (by omega),hW];simp
           have HBW : Hid (Below w.heap.size w W):=by show Below _ _ _;rw [hW];exact HB1.out.alloc HB1.out.size _
           have XW : Hid (W.heap[w.heap.size]? = some (.cells #[.int .i64 0,.int .i64 0] 68 (0,0))):=by show _ = _;rw [hW];exact B.alloc X1.out _
           clear hW hs hkc
           rw [<- HW.out]
           cases hnr : FM.noRight pt 2 with
           | true =>
            rw [hnr] at hbt
            have hbt2 : (bits BinOp.and IntKind.i64 pt RN == RN) = false:=hbt
            have HRR:=hideC (HFE.out _ (HST.out.trans (HBT2.out.1 hnr)) (by simp))
            clear HFE HST HBT2 hbt hnr
            refine Q.region_kin (by kernel_rfl) (by kernel_rfl) ?_
            repeat (first | go_big_quiet_step ((go_at_call 211;exact Q.calls_kin HRA.out _)) | quiet_step ((go_at_call 211;exact Q.calls_kin HRA.out _)))
            refine wpQuiet_nil ?_
            intro _ hw'
            obtain ⟨x,hw''⟩:=hw'
            subst hw''
            have HB2:=hideC (add_below HBW.out x.keeps)
            have X2:=hideC (B.below XW.out x.keeps (B.isLt XW.out))
            obtain ⟨w2,hw2'⟩ : ∃ w2,w2 = x.world:=⟨_,rfl⟩
            rw [<- hw2'] at HB2 X2 ⊢
            clear hw2' c2
            have x0 : w2.cell? ⟨w.heap.size,0,none⟩ = some (.int .i64 0):=B.cell X2.out 0 rfl
            have x1 : w2.cell? ⟨w.heap.size,1,none⟩ = some (.int .i64 0):=B.cell X2.out 1 rfl
            have f0 : ∀ k,w2.frozen? ⟨w.heap.size,k,none⟩ = false:=fun k=>B.free X2.out k
            go_wp2
            exact bodyPost_ret (v:=.agg #[.int .i64 2,.int .i64 (a + k)]) (by simp [results,Tryz.results205,go_sem,x0,x1]) rfl ⟨by rw [(Prod.mk.inj HRR.out).1,(Prod.mk.inj HRR.out).2],set2_below HB2.out (Nat.le_refl _) _ _⟩
           | false =>
            rw [hnr] at hbt
            have hbt2 : (bits BinOp.and IntKind.i64 pt RN == RN) = true:=hbt
            have HNX:=hideC (HST.out.trans (HBT2.out.2 hnr))
            clear HFE HST HBT2 hbt hnr
            refine Q.region_kin (by kernel_rfl) (by kernel_rfl) ?_
            repeat (first | go_big_quiet_step ((go_at_call 211;exact Q.calls_kin HRA.out _)) | quiet_step ((go_at_call 211;exact Q.calls_kin HRA.out _)))
            refine wpQuiet_nil ?_
            intro _ hw'
            obtain ⟨x,hw''⟩:=hw'
            subst hw''
            have HB2:=hideC (add_below HBW.out x.keeps)
            have X2:=hideC (B.below XW.out x.keeps (B.isLt XW.out))
            obtain ⟨w2,hw2'⟩ : ∃ w2,w2 = x.world:=⟨_,rfl⟩
            rw [<- hw2'] at HB2 X2 ⊢
            clear hw2' c2
            go_wp2
            go_roundw
            case rel=>exact ⟨k + 1,by omega,by go_num,HNX.out,X2.out,HB2.out⟩
            case measure=>simp [intOf];omega
      · have hke : k = size.toNat:=by omega
        have HRR : Hid ((R1,R2) = (0,0)):=by show _ = _;rw [HR.out,<- hke];exact HN.out
        have x0 : wr.cell? ⟨w.heap.size,0,none⟩ = some (.int .i64 0):=B.cell HX.out 0 rfl
        have x1 : wr.cell? ⟨w.heap.size,1,none⟩ = some (.int .i64 0):=B.cell HX.out 1 rfl
        have f0 : ∀ k,wr.frozen? ⟨w.heap.size,k,none⟩ = false:=fun k=>B.free HX.out k
        clear hke
        go_wp2
        exact bodyPost_ret (v:=.agg #[.int .i64 0,.int .i64 0]) (by simp [results,Tryz.results205,go_sem,x0,x1]) rfl ⟨by rw [(Prod.mk.inj HRR.out).1,(Prod.mk.inj HRR.out).2],set2_below HB.out (Nat.le_refl _) _ _⟩
   · have hw2 : (way == 2) = false:=by rw [beq_eq_false_iff_ne];exact c
     clear htm hal c
     go_enter Tryz.func205,Tryz.ntmps205
     go_wp2_with fail
     go_loopw [23] (fun iv wr=>∃ k : Nat,k <= size.toNat /\ iv = .int .i64 (k : Int) /\ FM.bytesN l a way k = (0,0) /\ wr.heap[w.heap.size]? = some (.cells #[.int .i64 0,.int .i64 0] 68 (0,0)) /\ Below w.heap.size w wr) (fun iv _=>size.toNat - (intOf iv).toNat)
     case atStart=>exact ⟨0,by omega,rfl,rfl,X0.out,HB0.out⟩
     case round =>
      obtain ⟨k,hk,rfl,hnf,hx,hb⟩:=hrel
      have HN:=hideC hnf
      have HX:=hideC hx
      have HB:=hideC hb
      clear hnf hx hb X0 HB0
      by_cases hlt : (k : Int) < size
      · have hsm : -9223372036854775808 <= a + k /\ a + k <= 9223372036854775807:=by
         cases k with
         | zero=>omega
         | succ j =>
          have:=FM.bytes_small HN.out
          omega
        have HST:=hideC (FM.bytes_step HN.out)
        have HFE : Hid (∀ f : Int × Int,FM.bytesN l a way (k + 1) = f -> ¬ f.1 = 0 -> (R1,R2) = f):=fun f h1 h2=>HR.out.trans (FM.bytes_fell h1 h2 _ (by omega))
        have HFP:=hideC (fun V hV=>HFD.out ((a + k).tdiv 16) V hV)
        have HQ : Hid (0 <= a + k -> (a + k).tdiv 16 = (a + k) / 16):=fun h=>Int.tdiv_eq_ediv_of_nonneg h
        obtain ⟨⟨⟨pp,pn,pt,pz⟩,ok⟩,hF⟩ : ∃ F,F = AM.findN l ((a + k).tdiv 16):=⟨_,rfl⟩
        have HF2:=hideC hF
        rw [<- hF] at HFP
        have HFP2 : Hid (∀ V,AW.Has V (.slice ao vn cap) l -> Calls Tryz.prog 95 #[.slice ao vn cap,.int .i64 ((a + k).tdiv 16)] V fun e w'=>e = .returned (.tuple #[.agg #[.int .i64 pp,.int .i64 pn,.int .i64 pt,.bool pz],.bool ok]) /\ Below V.heap.size V w'):=HFP
        clear hF HFP
        have HBT : Hid ((a + k < 0 -> FM.byteN l (a + k) way = (1,a + k)) /\ (0 <= a + k -> ok = false -> FM.byteN l (a + k) way = (1,a + k)) /\ (0 <= a + k -> ok = true -> 0 <= pt /\ pt <= 3 /\ (FM.noRight pt way = true -> FM.byteN l (a + k) way = (2,a + k)) /\ (FM.noRight pt way = false -> FM.byteN l (a + k) way = (0,0)))):=by
         refine ⟨fun h=>FM.byte_map (.inl h),fun h h2=>?_,fun h h2=>?_⟩
         · refine FM.byte_map (.inr ?_)
           rw [<- HQ.out h,<- HF2.out]
           exact h2
         · have e1:=HF2.out
           rw [HQ.out h] at e1
           have h3 : (AM.findN l ((a + k) / 16)).2 = true:=by rw [<- e1];exact h2
           have h4:=FM.found_page (FM.found_check h3) h3
           have e2 : (AM.findN l ((a + k) / 16)).1.prot = pt:=by rw [<- e1]
           rw [e2] at h4
           exact ⟨h4.2.2.1,h4.2.2.2,fun h5=>FM.byte_right h h3 (by rw [e2];exact h5),fun h5=>FM.byte_ok h h3 (by rw [e2];exact h5)⟩
        clear HF2
        by_cases hneg : a + k < 0
        · have HRR:=hideC (HFE.out _ (HST.out.trans (HBT.out.1 hneg)) (by simp))
          clear HBT HFE HST
          go_wp2_with (go_at_call 95;refine (HFP2.out _ (HH.out.below HB.out)).mono ?_;rintro e w1 ⟨rfl,hb1⟩;have HB1:=hideC (add_below HB.out hb1);have X1:=hideC (B.below HX.out hb1 (B.isLt HX.out));clear hb1;have hl1:=B.isLt X1.out;have hne : ¬ w.heap.size = w1.heap.size:=(by omega);have x0 : w1.cell? ⟨w.heap.size,0,none⟩ = some (.int .i64 0):=B.cell X1.out 0 rfl;have x1 : w1.cell? ⟨w.heap.size,1,none⟩ = some (.int .i64 0):=B.cell X1.out 1 rfl;have f0 : ∀ k,w1.frozen? ⟨w.heap.size,k,none⟩ = false:=fun k=>B.free X1.out k)
          exact bodyPost_ret (v:=.agg #[.int .i64 1,.int .i64 (a + k)]) (by simp [results,Tryz.results205,go_sem,x0,x1,hl1]) rfl ⟨by rw [(Prod.mk.inj HRR.out).1,(Prod.mk.inj HRR.out).2],(set2_below HB1.out (Nat.le_refl _) _ _).alloc (by simp;omega) _⟩
        · have hnn : 0 <= a + k:=by omega
          have HFP3:=HFP2
          rw [HQ.out hnn] at HFP3
          clear hneg HFP2 HQ
          cases ok with
          | false =>
           have HRR:=hideC (HFE.out _ (HST.out.trans (HBT.out.2.1 (by omega) rfl)) (by simp))
           clear HBT HFE HST
           go_wp2_with (go_at_call 95;refine (HFP3.out _ (HH.out.below HB.out)).mono ?_;rintro e w1 ⟨rfl,hb1⟩;have HB1:=hideC (add_below HB.out hb1);have X1:=hideC (B.below HX.out hb1 (B.isLt HX.out));clear hb1;have hl1:=B.isLt X1.out;have hne : ¬ w.heap.size = w1.heap.size:=(by omega);have x0 : w1.cell? ⟨w.heap.size,0,none⟩ = some (.int .i64 0):=B.cell X1.out 0 rfl;have x1 : w1.cell? ⟨w.heap.size,1,none⟩ = some (.int .i64 0):=B.cell X1.out 1 rfl;have f0 : ∀ k,w1.frozen? ⟨w.heap.size,k,none⟩ = false:=fun k=>B.free X1.out k)
           exact bodyPost_ret (v:=.agg #[.int .i64 1,.int .i64 (a + k)]) (by simp [results,Tryz.results205,go_sem,x0,x1,hl1]) rfl ⟨by rw [(Prod.mk.inj HRR.out).1,(Prod.mk.inj HRR.out).2],(set2_below HB1.out (Nat.le_refl _) _ _).alloc (by simp;omega) _⟩
          | true =>
           have hpt:=HBT.out.2.2 hnn rfl
           have hbt:=right_bits pt way hpt.1 hpt.2.1
           have HBT2:=hideC hpt.2.2
           have HRA : Hid (∀ V,Calls Tryz.prog 211 #[.int .i64 way] V fun e w'=>e = .returned (.int .i64 (rightN way)) /\ Below V.heap.size V w'):=fun V=>(right_any way V).mono fun e w' ⟨h1,h2⟩=>⟨h1,by rw [<- h2];exact Below.refl _ _⟩
           clear hpt HBT
           obtain ⟨RN,hRN⟩ : ∃ RN,RN = rightN way:=⟨_,rfl⟩
           rw [<- hRN] at hbt HRA
           clear hRN
           go_wp2_with (go_at_call 95;refine (HFP3.out _ (HH.out.below HB.out)).mono ?_;rintro e w1 ⟨rfl,hb1⟩;have HB1:=hideC (add_below HB.out hb1);have X1:=hideC (B.below HX.out hb1 (B.isLt HX.out));clear hb1;have hl1:=B.isLt X1.out)
           obtain ⟨W,hW⟩ : ∃ W,W = w1.alloc (.cells #[.int .i64 pp,.int .i64 pn,.int .i64 pt,.bool pz] 59):=⟨_,rfl⟩
           have HW:=hideC hW
           have hs : W.heap.size = w1.heap.size + 1:=by rw [hW];simp
           have hkin:=Q.kin_some W
           have hkc:=@Q.cell_kin W
           have c2 : ∀ x : Q.Kin W.heap.size W,x.world.cell? ⟨w1.heap.size,2,none⟩ = some (.int .i64 pt):=fun x=>by rw [hkc x _ _ (by omega),hW];simp
           have HBW : Hid (Below w.heap.size w W):=by show Below _ _ _;rw [hW];exact HB1.out.alloc HB1.out.size _
           have XW : Hid (W.heap[w.heap.size]? = some (.cells #[.int .i64 0,.int .i64 0] 68 (0,0))):=by show _ = _;rw [hW];exact B.alloc X1.out _
           clear hW hs hkc
           rw [<- HW.out]
           cases hnr : FM.noRight pt way with
           | true =>
            rw [hnr] at hbt
            have hbt2 : (bits BinOp.and IntKind.i64 pt RN == RN) = false:=hbt
            have HRR:=hideC (HFE.out _ (HST.out.trans (HBT2.out.1 hnr)) (by simp))
            clear HFE HST HBT2 hbt hnr
            refine Q.region_kin (by kernel_rfl) (by kernel_rfl) ?_
            repeat (first | go_big_quiet_step ((go_at_call 211;exact Q.calls_kin HRA.out _)) | quiet_step ((go_at_call 211;exact Q.calls_kin HRA.out _)))
            refine wpQuiet_nil ?_
            intro _ hw'
            obtain ⟨x,hw''⟩:=hw'
            subst hw''
            have HB2:=hideC (add_below HBW.out x.keeps)
            have X2:=hideC (B.below XW.out x.keeps (B.isLt XW.out))
            obtain ⟨w2,hw2'⟩ : ∃ w2,w2 = x.world:=⟨_,rfl⟩
            rw [<- hw2'] at HB2 X2 ⊢
            clear hw2' c2
            have x0 : w2.cell? ⟨w.heap.size,0,none⟩ = some (.int .i64 0):=B.cell X2.out 0 rfl
            have x1 : w2.cell? ⟨w.heap.size,1,none⟩ = some (.int .i64 0):=B.cell X2.out 1 rfl
            have f0 : ∀ k,w2.frozen? ⟨w.heap.size,k,none⟩ = false:=fun k=>B.free X2.out k
            go_wp2
            exact bodyPost_ret (v:=.agg #[.int .i64 2,.int .i64 (a + k)]) (by simp [results,Tryz.results205,go_sem,x0,x1]) rfl ⟨by rw [(Prod.mk.inj HRR.out).1,(Prod.mk.inj HRR.out).2],set2_below HB2.out (Nat.le_refl _) _ _⟩
           | false =>
            rw [hnr] at hbt
            have hbt2 : (bits BinOp.and IntKind.i64 pt RN == RN) = true:=hbt
            have HNX:=hideC (HST.out.trans (HBT2.out.2 hnr))
            clear HFE HST HBT2 hbt hnr
            refine Q.region_kin (by kernel_rfl) (by kernel_rfl) ?_
            repeat (first | go_big_quiet_step ((go_at_call 211;exact Q.calls_kin HRA.out _)) | quiet_step ((go_at_call 211;exact Q.calls_kin HRA.out _)))
            refine wpQuiet_nil ?_
            intro _ hw'
            obtain ⟨x,hw''⟩:=hw'
            subst hw''
            have HB2:=hideC (add_below HBW.out x.keeps)
            have X2:=hideC (B.below XW.out x.keeps (B.isLt XW.out))
            obtain ⟨w2,hw2'⟩ : ∃ w2,w2 = x.world:=⟨_,rfl⟩
            rw [<- hw2'] at HB2 X2 ⊢
            clear hw2' c2
            go_wp2
            go_roundw
            case rel=>exact ⟨k + 1,by omega,by go_num,HNX.out,X2.out,HB2.out⟩
            case measure=>simp [intOf];omega
      · have hke : k = size.toNat:=by omega
        have HRR : Hid ((R1,R2) = (0,0)):=by show _ = _;rw [HR.out,<- hke];exact HN.out
        have x0 : wr.cell? ⟨w.heap.size,0,none⟩ = some (.int .i64 0):=B.cell HX.out 0 rfl
        have x1 : wr.cell? ⟨w.heap.size,1,none⟩ = some (.int .i64 0):=B.cell HX.out 1 rfl
        have f0 : ∀ k,wr.frozen? ⟨w.heap.size,k,none⟩ = false:=fun k=>B.free HX.out k
        clear hke
        go_wp2
        exact bodyPost_ret (v:=.agg #[.int .i64 0,.int .i64 0]) (by simp [results,Tryz.results205,go_sem,x0,x1]) rfl ⟨by rw [(Prod.mk.inj HRR.out).1,(Prod.mk.inj HRR.out).2],set2_below HB.out (Nat.le_refl _) _ _⟩
end FW
namespace GF
open Go.RowKit GK
open FW (hideC add_below)
theorem Mem.space {lo mb : Nat} {w : World} {D : Nat -> Prop} {sl : Int} {v : Value} {L : List Lc} {ss : List FM.Sp} (h : Mem lo mb w D sl v L ss) (k : Nat) (hk : k < ss.length) :
  ∃ sb cap aa na ca ap cp,v = .slice (some ⟨sb,0,none⟩) ss.length cap /\ sb < w.heap.size /\ lcAt L k = ⟨(FM.spAt ss k).live,.slice aa na ca,.slice ap (FM.spAt ss k).pages.length cp⟩ /\
   w.cell? ⟨sb,k * 3,none⟩ = some (.bool (FM.spAt ss k).live) /\ w.cell? ⟨sb,k * 3 + 1,none⟩ = some (.slice aa na ca) /\ w.cell? ⟨sb,k * 3 + 2,none⟩ = some (.slice ap (FM.spAt ss k).pages.length cp) /\
   AW.Has w (.slice aa na ca) (FM.spAt ss k).areas /\ FW.HasP w ap (FM.spAt ss k).pages /\ (FM.spAt ss k).pages.length <= cp /\ (∀ j,w.frozen? ⟨sb,j,none⟩ = false) /\ (0 < (FM.spAt ss k).pages.length -> ∃ pb,ap = some ⟨pb,0,none⟩ /\ pb < w.heap.size):=by
 obtain ⟨ao,cap,e,_,hg⟩:=row_form h.row
 have hlen:=h.len
 have hk' : k < L.length:=by omega
 obtain ⟨sb,rfl,_,hlt⟩:=hg (by omega)
 have hr:=h.row
 rw [e] at hr
 have hs:=h.each k hk'
 obtain ⟨aa,ca,ea,_,_⟩:=row_form (show w.ownsRow lo _ 4 _ _ _ from hs.areas)
 obtain ⟨ap,cp,ep,hcp,hgp⟩:=row_form hs.pages
 have hc : ∀ j,j < 3 -> w.cell? ⟨sb,k * 3 + j,none⟩ = (cellLc (lcAt L k))[j]?:=fun j hj=>row_at cellLc cellLc_len lc0 hr k j hk' hj
 have hl : lcAt L k = ⟨(FM.spAt ss k).live,.slice aa (FM.spAt ss k).areas.length ca,.slice ap (FM.spAt ss k).pages.length cp⟩:=by
  rw [<- ea,<- ep,<- hs.live]
 refine ⟨sb,cap,aa,_,ca,ap,cp,by rw [<- hlen];exact e,hlt,hl,?_,?_,?_,?_,?_,hcp,fun j=>row_free hr j,fun hp=>by
  obtain ⟨q,e1,_,e3⟩:=hgp hp
  exact ⟨q,e1,e3⟩⟩
 · have:=hc 0 (by omega)
   rw [hl] at this
   exact this
 · have:=hc 1 (by omega)
   rw [hl] at this
   exact this
 · have:=hc 2 (by omega)
   rw [hl] at this
   exact this
 · rw [<- ea];exact hs.areas.has
 · intro hp
   obtain ⟨q,rfl,hq1,hq2⟩:=hgp hp
   refine ⟨q,0,rfl,hq2,fun i hi=>?_⟩
   have hr:=hs.pages
   rw [ep] at hr
   have hci : ∀ j,j < 2 -> w.cell? ⟨q,i * 2 + j,none⟩ = (cellPg (FM.pgAt (FM.spAt ss k).pages i))[j]?:=fun j hj=>row_at cellPg cellPg_len FM.pg0 hr i j hi hj
   rw [Nat.zero_add]
   exact ⟨hci 0 (by omega),hci 1 (by omega)⟩
theorem low_unique {ps : List FM.Pg} {p : Int} {i j : Nat} (h : FW.Low ps p j) (hi : i < ps.length) (hp : (FM.pgAt ps i).page = p) (hr : FW.Rise ps) : j = i:=by
 rcases Nat.lt_trichotomy j i with g | g | g
 · have h1:=h.high j (Nat.le_refl _) (by omega)
   have h2:=hr j i g hi
   omega
 · exact g
 · have:=h.low i g
   omega
def OutReach (ps : List FM.Pg) (vp : Value) (a n : Int) (f : Int × Int) (w : World) (e : Ending) (w' : World) : Prop :=
 Below w.heap.size w w' /\ ((¬ f.1 = 0 /\ e = .returned (.tuple #[.slice none 0 0,.agg (FW.fcells f)])) ∨ (f.1 = 0 /\ ∃ i pb cp,GM.Reach ps a n i /\ vp = .slice (some ⟨pb,0,none⟩) ps.length cp /\ e = .returned (.tuple #[.slice (some ⟨pb,i * 2,none⟩) (GM.lastP a n - a / 16 + 1).toNat (cp - i),.agg #[.int .i64 0,.int .i64 0]])))
set_option maxHeartbeats 4000000 in
theorem reach_any {lo mb : Nat} {D : Nat -> Prop} {sl : Int} {v : Value} {L : List Lc} {ss : List FM.Sp} (k : Nat) (a n way : Int) (w : World) (h : Mem lo mb w D sl v L ss) (hk : k < ss.length) (hn : ss.length <= 1000) (hL : GM.Liv (FM.spAt ss k)) (ha : M.I64 a) (hn1 : 1 <= n) (hn8 : n <= 8) :
  Calls Tryz.prog 197 #[.pointer (some ⟨mb,0,none⟩),.int .i64 (k : Int),.int .i64 a,.int .i64 n,.int .i64 way] w (OutReach (FM.spAt ss k).pages (lcAt L k).vp a n (FM.faultN (FM.spAt ss k).areas a n way) w):=by
 obtain ⟨sb,cap,aa,na,ca,ap,cp,hv,hsb,hlc,c0,c1,c2,hHa,hHp,hcp,_,hapf⟩:=h.space k hk
 have HAP:=hideC hapf
 have HM:=hideC h
 have hfit:=AM.fits_of_check _ hL.check
 have hlen : (FM.spAt ss k).pages.length <= 65025:=by
  have h1:=GM.total_len hL
  have h2:=FW.total_bd (FM.spAt ss k).areas
  omega
 have HOF:=hideC (fun V (hV : Below w.heap.size w V)=>FW.of_any (FM.spAt ss k).areas (.slice aa na ca) a n way V (hHa.below hV) hfit ha (by omega))
 have HPL:=hideC (fun p V (hV : Below w.heap.size w V)=>FW.place_any (FM.spAt ss k).pages p ap cp V (hHp.below hV) hL.rise (by omega))
 have HRE:=hideC (fun g=>GM.reach_of hL (a:=a) (way:=way) hn1 (by omega) g)
 have HRI:=hideC hL.rise
 have HHP:=hideC hHp
 have HFB:=hideC (fun g=>(GM.fault_bytes (l:=(FM.spAt ss k).areas) (a:=a) (n:=n) (way:=way) g).1)
 rw [hlc]
 obtain ⟨s,hs⟩ : ∃ s,s = FM.spAt ss k:=⟨_,rfl⟩
 rw [<- hs] at c0 c2 HOF HPL HRE HRI HHP HFB HAP hcp hlen ⊢
 obtain ⟨f,hf⟩ : ∃ f,f = FM.faultN s.areas a n way:=⟨_,rfl⟩
 rw [<- hf] at HOF HRE HFB ⊢
 obtain ⟨lv,hlv⟩ : ∃ lv,lv = s.live:=⟨_,rfl⟩
 rw [<- hlv] at c0
 obtain ⟨ps,hps⟩ : ∃ ps,ps = s.pages:=⟨_,rfl⟩
 rw [<- hps] at c2 HPL HRE HRI HHP HAP hcp hlen ⊢
 obtain ⟨np,hnp⟩ : ∃ np,np = ps.length:=⟨_,rfl⟩
 have HNP:=hideC hnp
 rw [<- hnp] at c2 HPL hcp hlen HAP
 obtain ⟨ns,hns⟩ : ∃ ns,ns = ss.length:=⟨_,rfl⟩
 rw [<- hns] at hv hk hn
 subst hv
 have m1 : w.cell? ⟨mb,1,none⟩ = some (.slice (some ⟨sb,0,none⟩) ns cap):=B.cell h.head 1 rfl
 have hki : (k : Int) < (ns : Int):=by omega
 have hmb:=B.isLt h.head
 have hmb2 : ¬ mb = w.heap.size:=by omega
 have hsb2 : ¬ sb = w.heap.size:=by omega
 simp only
 obtain ⟨f1,f2⟩:=f
 unfold FW.fcells at HOF
 simp only at HOF
 have HBX:=hideC (((Below.refl w.heap.size w).alloc (Nat.le_refl _) (.cells #[.int .i64 0,.int .i64 0] 68)).alloc (by simp) (.cells #[.bool lv,.slice aa na ca,.slice ap np cp] 53))
 have BY:=hideC (B.alloc (B.new w #[.int .i64 0,.int .i64 0] 68) (.cells #[.bool lv,.slice aa na ca,.slice ap np cp] 53))
 have BS : Hid (((w.alloc (.cells #[.int .i64 0,.int .i64 0] 68)).alloc (.cells #[.bool lv,.slice aa na ca,.slice ap np cp] 53)).heap[w.heap.size + 1]? = some (.cells #[.bool lv,.slice aa na ca,.slice ap np cp] 53 (0,0))):=by
  have:=B.new (w.alloc (.cells #[.int .i64 0,.int .i64 0] 68)) #[.bool lv,.slice aa na ca,.slice ap np cp] 53
  rw [World.size_alloc] at this
  exact this
 clear h hs hf hlv hps hnp hns hL hHa hHp hfit hlc hapf
 by_cases hf1 : f1 = 0
 · subst hf1
   obtain ⟨i,hre⟩:=HRE.out rfl
   have h16:=hre.low
   have hhi:=hre.high
   have hlast : GM.lastP a n - a / 16 = 0 ∨ GM.lastP a n - a / 16 = 1:=by rcases hre.last with e | ⟨e,_⟩ <;> omega
   have HLA:=hideC (show GM.lastP a n = (a + n - 1) / 16 from rfl)
   have hin:=hre.lt
   have hin2 : i + (GM.lastP a n - a / 16 + 1).toNat <= np:=by rw [HNP.out];rcases hre.last with e | ⟨e,e2,_⟩ <;> omega
   have HRX:=hideC hre
   rw [<- HNP.out] at hin
   obtain ⟨pb,hap,hpb⟩:=HAP.out (by omega)
   subst hap
   have l0 : 0 <= (a + n - 1) / 16 - a / 16:=by have:=HLA.out;omega
   have l1 : (i : Int) + (a + n - 1) / 16 - a / 16 + 1 <= (np : Int):=by have:=HLA.out;omega
   have l2 : (np : Int) <= (cp : Int):=by omega
   clear hre HRE HFB
   go_enter Tryz.func197,Tryz.ntmps197
   go_wp2_with (first
    | (go_at_call 205;refine (HOF.out _ HBX.out).mono ?_;rintro e w1 ⟨rfl,hb1⟩;have HB1:=hideC (HBX.out.trans (hb1.mono HBX.out.size));have HB2:=hideC (HB1.out.alloc HB1.out.size (.cells #[.int .i64 0,.int .i64 f2] 68));have BS2:=hideC (B.alloc (B.below BS.out hb1 (B.isLt BS.out)) (.cells #[.int .i64 0,.int .i64 f2] 68));have BY2:=hideC (B.alloc (B.below BY.out hb1 (B.isLt BY.out)) (.cells #[.int .i64 0,.int .i64 f2] 68));have s2:=B.cell (v:=.slice (some ⟨pb,0,none⟩) np cp) BS2.out 2 rfl;clear hb1)
    | (go_at_call 60;refine (HPL.out _ _ HB2.out).mono ?_;rintro e w2 ⟨j,hj,rfl,hb2⟩;obtain rfl:=low_unique hj HRX.out.lt HRX.out.first HRI.out;have HB3:=hideC (HB2.out.trans (hb2.mono HB2.out.size));have BS3:=hideC (B.below BS2.out hb2 (B.isLt BS2.out));have BY3:=hideC (B.below BY2.out hb2 (B.isLt BY2.out));have s3:=B.cell (v:=.slice (some ⟨pb,0,none⟩) np cp) BS3.out 2 rfl;have y0:=B.cell (v:=.int .i64 0) BY3.out 0 rfl;have y1:=B.cell (v:=.int .i64 0) BY3.out 1 rfl;have y2:=B.free BY3.out 0;have y3:=B.free BY3.out 1;clear hb2 hj))
   refine bodyPost_ret (v:=.tuple #[.slice (some ⟨pb,j * 2,none⟩) (((j : Int) + (a + n - 1) / 16 - a / 16 + 1).toNat - j) (cp - j),.agg #[.int .i64 0,.int .i64 0]]) (by simp [results,Tryz.results197,go_sem,y0,y1]) rfl ?_
   refine ⟨(HB3.out.setCell (p:=⟨w.heap.size,0,none⟩) (Nat.le_refl _) _).setCell (p:=⟨w.heap.size,1,none⟩) (Nat.le_refl _) _,.inr ⟨rfl,j,pb,cp,HRX.out,rfl,?_⟩⟩
   have e : ((j : Int) + (a + n - 1) / 16 - a / 16 + 1).toNat - j = (GM.lastP a n - a / 16 + 1).toNat:=by have:=HLA.out;omega
   rw [e]
 · have hfi : (f1 == 0) = false:=by rw [beq_eq_false_iff_ne];exact hf1
   have HF1:=hideC hf1
   clear HRE HFB HPL hf1
   go_enter Tryz.func197,Tryz.ntmps197
   go_wp2_with (go_at_call 205;refine (HOF.out _ HBX.out).mono ?_;rintro e w1 ⟨rfl,hb1⟩;have HB1:=hideC (HBX.out.trans (hb1.mono HBX.out.size));have BY1:=hideC (B.below BY.out hb1 (B.isLt BY.out));have y0 : ∀ ob,(w1.alloc ob).cell? ⟨w.heap.size,0,none⟩ = some (.int .i64 0):=(fun ob=>B.cell (B.alloc BY1.out ob) 0 rfl);have y1 : ∀ ob,(w1.alloc ob).cell? ⟨w.heap.size,1,none⟩ = some (.int .i64 0):=(fun ob=>B.cell (B.alloc BY1.out ob) 1 rfl);have y2 : ∀ ob,(w1.alloc ob).frozen? ⟨w.heap.size,0,none⟩ = false:=(fun ob=>B.free (B.alloc BY1.out ob) 0);have y3 : ∀ ob,(w1.alloc ob).frozen? ⟨w.heap.size,1,none⟩ = false:=(fun ob=>B.free (B.alloc BY1.out ob) 1);have hne : ¬ w.heap.size = w1.heap.size:=(by have:=B.isLt BY1.out;omega);clear hb1)
   go_region
   all_goals
    go_wp2
    refine bodyPost_ret (v:=.tuple #[.slice none 0 0,.agg #[.int .i64 f1,.int .i64 f2]]) (by simp [results,Tryz.results197,go_sem,y0,y1]) rfl ?_
    exact ⟨((HB1.out.alloc HB1.out.size _).drew.setCell (p:=⟨w.heap.size,0,none⟩) (Nat.le_refl _) _).setCell (p:=⟨w.heap.size,1,none⟩) (Nat.le_refl _) _,.inl ⟨HF1.out,rfl⟩⟩
end GF
end Go.Proofs.YtkdigjpejnebkaaGreat
