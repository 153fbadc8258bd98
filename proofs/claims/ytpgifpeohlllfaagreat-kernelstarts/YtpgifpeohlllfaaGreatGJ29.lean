import Derived.Test.YtpgifpeohlllfaaGreatGJ02
import Derived.Test.YtpgifpeohlllfaaGreatGJ28
set_option maxHeartbeats 20000000
set_option linter.unusedVariables false
set_option maxRecDepth 100000
set_option linter.unusedSimpArgs false
namespace Go.Proofs.YtpgifpeohlllfaaGreat
namespace FW
open Go.RowKit
def fcells (x : Int × Int) : Array Value:=#[.int .i64 x.1,.int .i64 x.2]
theorem set2_below {N g : Nat} {w W : World} (h : Below N w W) (hg : N <= g) (v0 v1 : Value) : Below N w ((W.setCell ⟨g,0,none⟩ v0).setCell ⟨g,1,none⟩ v1):=(h.setCell (p:=⟨g,0,none⟩) hg v0).setCell (p:=⟨g,1,none⟩) hg v1
set_option maxHeartbeats 4000000 in
theorem of_any (l : List AM.Ar) (v : Value) (a size way : Int) (w : World) (h : AW.Has w v l) (hf : AW.AllFit l) (ha : -9223372036854775808 <= a /\ a <= 9223372036854775807) (hz : size <= 9223372036854775807) :
  Calls Tryz.prog 96 #[v,.int .i64 a,.int .i64 size,.int .i64 way] w fun e w'=>e = .returned (.agg (fcells (FM.faultN l a size way))) /\ Below w.heap.size w w':=by
 have HFD:=hideC (fun p V (hV : AW.Has V v l)=>AW.find_any l v p V hV hf)
 have HH:=hideC h
 have HB0:=hideC ((Below.refl w.heap.size w).alloc (Nat.le_refl _) (.cells #[.int .i64 0,.int .i64 0] 36))
 have X0:=hideC (B.new w #[.int .i64 0,.int .i64 0] 36)
 have HF : Hid (FM.faultN l a size way = if way = 2 /\ ¬ a % 8 = 0 then (3,a) else FM.bytesN l a way size.toNat):=rfl
 obtain ⟨⟨R1,R2⟩,hR⟩ : ∃ R,R = FM.faultN l a size way:=⟨_,rfl⟩
 rw [<- hR] at HF ⊢
 clear hR h hf
 unfold fcells
 simp only
 obtain ⟨ao,vn,cap,rfl⟩ : ∃ ao n cap,v = .slice ao n cap:=by
  obtain ⟨ao,cap,h,_⟩:=HH.out
  exact ⟨ao,_,cap,h⟩
 have htm : a.tmod 8 = 0 ↔ a % 8 = 0:=by rw [Int.tmod_eq_emod];split <;> omega
 by_cases hal : way = 2 /\ ¬ a % 8 = 0
 · have HR : Hid ((R1,R2) = (3,a)):=by show _ = _;rw [HF.out,if_pos hal]
   obtain ⟨rfl,hal⟩:=hal
   have h8 : (a.tmod 8 == 0) = false:=by rw [beq_eq_false_iff_ne];exact fun g=>hal (htm.1 g)
   clear htm hal
   go_enter Tryz.func96,Tryz.ntmps96
   go_wp2
   exact bodyPost_ret (v:=.agg #[.int .i64 3,.int .i64 a]) (by simp [results,Tryz.results96,go_sem]) rfl ⟨by rw [(Prod.mk.inj HR.out).1,(Prod.mk.inj HR.out).2],(Below.refl w.heap.size w).alloc (Nat.le_refl _) _⟩
 · have HR : Hid ((R1,R2) = FM.bytesN l a way size.toNat):=by show _ = _;rw [HF.out,if_neg hal]
   clear HF
   by_cases c : way = 2
   · subst c
     have h8 : a.tmod 8 = 0:=htm.2 (Classical.not_not.1 (fun g=>hal ⟨rfl,g⟩))
     clear htm hal
     go_enter Tryz.func96,Tryz.ntmps96
     go_wp2_with fail
     go_loopw [23] (fun iv wr=>∃ k : Nat,k <= size.toNat /\ iv = .int .i64 (k : Int) /\ FM.bytesN l a 2 k = (0,0) /\ wr.heap[w.heap.size]? = some (.cells #[.int .i64 0,.int .i64 0] 36 (0,0)) /\ Below w.heap.size w wr) (fun iv _=>size.toNat - (intOf iv).toNat)
     case atStart=>exact ⟨0,by omega,rfl,rfl,X0.out,HB0.out⟩
     case round =>
      obtain ⟨k,hk,rfl,hnf,hx,hb⟩:=hrel
      have HN:=hideC hnf
      have HX:=hideC hx
      have HB:=hideC hb
      clear hnf hx hb X0 HB0
      by_cases hlt : (k : Int) < size
      · have hsm : -9223372036854775808 <= a + k /\ a + k <= 9223372036854775807:=by
         cases k with
         | zero=>omega
         | succ j =>
          have:=FM.bytes_small HN.out
          omega
        have HST:=hideC (FM.bytes_step HN.out)
        have HFE : Hid (∀ f : Int × Int,FM.bytesN l a 2 (k + 1) = f -> ¬ f.1 = 0 -> (R1,R2) = f):=fun f h1 h2=>HR.out.trans (FM.bytes_fell h1 h2 _ (by omega))
        have HFP:=hideC (fun V hV=>HFD.out ((a + k).tdiv 16) V hV)
        have HQ : Hid (0 <= a + k -> (a + k).tdiv 16 = (a + k) / 16):=fun h=>Int.tdiv_eq_ediv_of_nonneg h
        obtain ⟨⟨⟨pp,pn,pt,pz⟩,ok⟩,hF⟩ : ∃ F,F = AM.findN l ((a + k).tdiv 16):=⟨_,rfl⟩
        have HF2:=hideC hF
        rw [<- hF] at HFP
        have HFP2 : Hid (∀ V,AW.Has V (.slice ao vn cap) l -> Calls Tryz.prog 70 #[.slice ao vn cap,.int .i64 ((a + k).tdiv 16)] V fun e w'=>e = .returned (.tuple #[.agg #[.int .i64 pp,.int .i64 pn,.int .i64 pt,.bool pz],.bool ok]) /\ Below V.heap.size V w'):=HFP
        clear hF HFP
        have HBT : Hid ((a + k < 0 -> FM.byteN l (a + k) 2 = (1,a + k)) /\ (0 <= a + k -> ok = false -> FM.byteN l (a + k) 2 = (1,a + k)) /\ (0 <= a + k -> ok = true -> 0 <= pt /\ pt <= 3 /\ (FM.noRight pt 2 = true -> FM.byteN l (a + k) 2 = (2,a + k)) /\ (FM.noRight pt 2 = false -> FM.byteN l (a + k) 2 = (0,0)))):=by
         refine ⟨fun h=>FM.byte_map (.inl h),fun h h2=>?_,fun h h2=>?_⟩
         · refine FM.byte_map (.inr ?_)
           rw [<- HQ.out h,<- HF2.out]
           exact h2
         · have e1:=HF2.out
           rw [HQ.out h] at e1
           have h3 : (AM.findN l ((a + k) / 16)).2 = true:=by rw [<- e1];exact h2
           have h4:=FM.found_page (FM.found_check h3) h3
           have e2 : (AM.findN l ((a + k) / 16)).1.prot = pt:=by rw [<- e1]
           rw [e2] at h4
           exact ⟨h4.2.2.1,h4.2.2.2,fun h5=>FM.byte_right h h3 (by rw [e2];exact h5),fun h5=>FM.byte_ok h h3 (by rw [e2];exact h5)⟩
        clear HF2
        by_cases hneg : a + k < 0
        · have HRR:=hideC (HFE.out _ (HST.out.trans (HBT.out.1 hneg)) (by simp))
          clear HBT HFE HST
          go_wp2_with (go_at_call 70;refine (HFP2.out _ (HH.out.below HB.out)).mono ?_;rintro e w1 ⟨rfl,hb1⟩;have HB1:=hideC (add_below HB.out hb1);have X1:=hideC (B.below HX.out hb1 (B.isLt HX.out));clear hb1;have hl1:=B.isLt X1.out;have hne : ¬ w.heap.size = w1.heap.size:=(by omega);obtain ⟨x0,x1⟩:=B.c2 X1.out;have f0 : ∀ k,w1.frozen? ⟨w.heap.size,k,none⟩ = false:=fun k=>B.free X1.out k)
          exact bodyPost_ret (v:=.agg #[.int .i64 1,.int .i64 (a + k)]) (by simp [results,Tryz.results96,go_sem,x0,x1,hl1]) rfl ⟨by rw [(Prod.mk.inj HRR.out).1,(Prod.mk.inj HRR.out).2],(set2_below HB1.out (Nat.le_refl _) _ _).alloc (by simp;omega) _⟩
        · have hnn : 0 <= a + k:=by omega
          have HFP3:=HFP2
          rw [HQ.out hnn] at HFP3
          clear hneg HFP2 HQ
          cases ok with
          | false =>
           have HRR:=hideC (HFE.out _ (HST.out.trans (HBT.out.2.1 (by omega) rfl)) (by simp))
           clear HBT HFE HST
           go_wp2_with (go_at_call 70;refine (HFP3.out _ (HH.out.below HB.out)).mono ?_;rintro e w1 ⟨rfl,hb1⟩;have HB1:=hideC (add_below HB.out hb1);have X1:=hideC (B.below HX.out hb1 (B.isLt HX.out));clear hb1;have hl1:=B.isLt X1.out;have hne : ¬ w.heap.size = w1.heap.size:=(by omega);obtain ⟨x0,x1⟩:=B.c2 X1.out;have f0 : ∀ k,w1.frozen? ⟨w.heap.size,k,none⟩ = false:=fun k=>B.free X1.out k)
           exact bodyPost_ret (v:=.agg #[.int .i64 1,.int .i64 (a + k)]) (by simp [results,Tryz.results96,go_sem,x0,x1,hl1]) rfl ⟨by rw [(Prod.mk.inj HRR.out).1,(Prod.mk.inj HRR.out).2],(set2_below HB1.out (Nat.le_refl _) _ _).alloc (by simp;omega) _⟩
          | true =>
           have hpt:=HBT.out.2.2 hnn rfl
           have hbt:=right_bits pt 2 hpt.1 hpt.2.1
           have HBT2:=hideC hpt.2.2
           have HRA : Hid (∀ V,Calls Tryz.prog 140 #[.int .i64 2] V fun e w'=>e = .returned (.int .i64 (rightN 2)) /\ Below V.heap.size V w'):=fun V=>(right_any 2 V).mono fun e w' ⟨h1,h2⟩=>⟨h1,by rw [<- h2];exact Below.refl _ _⟩
           clear hpt HBT
           obtain ⟨RN,hRN⟩ : ∃ RN,RN = rightN 2:=⟨_,rfl⟩
           rw [<- hRN] at hbt HRA
           clear hRN
           go_wp2_with (go_at_call 70;refine (HFP3.out _ (HH.out.below HB.out)).mono ?_;rintro e w1 ⟨rfl,hb1⟩;have HB1:=hideC (add_below HB.out hb1);have X1:=hideC (B.below HX.out hb1 (B.isLt HX.out));clear hb1;have hl1:=B.isLt X1.out)
           obtain ⟨W,hW⟩ : ∃ W,W = w1.alloc (.cells #[.int .i64 pp,.int .i64 pn,.int .i64 pt,.bool pz] 47):=⟨_,rfl⟩
           have HW:=hideC hW
           have hs : W.heap.size = w1.heap.size + 1:=by rw [hW];simp
           have hkin:=Q.kin_some W
           have hkc:=@Q.cell_kin W
           have c2 : ∀ x : Q.Kin W.heap.size W,x.world.cell? ⟨w1.heap.size,2,none⟩ = some (.int .i64 pt):=fun x=>by rw [hkc x _ _ (by omega),hW];simp
           have HBW : Hid (Below w.heap.size w W):=by show Below _ _ _;rw [hW];exact HB1.out.alloc HB1.out.size _
           have XW : Hid (W.heap[w.heap.size]? = some (.cells #[.int .i64 0,.int .i64 0] 36 (0,0))):=by show _ = _;rw [hW];exact B.alloc X1.out _
           clear hW hs hkc
           rw [<- HW.out]
           cases hnr : FM.noRight pt 2 with
           | true =>
            rw [hnr] at hbt
            have hbt2 : (bits BinOp.and IntKind.i64 pt RN == RN) = false:=hbt
            have HRR:=hideC (HFE.out _ (HST.out.trans (HBT2.out.1 hnr)) (by simp))
            clear HFE HST HBT2 hbt hnr
            refine Q.region_kin (by kernel_rfl) (by kernel_rfl) ?_
            repeat (first | go_big_quiet_step ((go_at_call 140;exact Q.calls_kin HRA.out _)) | quiet_step ((go_at_call 140;exact Q.calls_kin HRA.out _)))
            refine wpQuiet_nil ?_
            intro _ hw'
            obtain ⟨x,hw''⟩:=hw'
            subst hw''
            have HB2:=hideC (add_below HBW.out x.keeps)
            have X2:=hideC (B.below XW.out x.keeps (B.isLt XW.out))
            obtain ⟨w2,hw2'⟩ : ∃ w2,w2 = x.world:=⟨_,rfl⟩
            rw [<- hw2'] at HB2 X2 ⊢
            clear hw2' c2
            obtain ⟨x0,x1⟩:=B.c2 X2.out
            have f0 : ∀ k,w2.frozen? ⟨w.heap.size,k,none⟩ = false:=fun k=>B.free X2.out k
            go_wp2
            exact bodyPost_ret (v:=.agg #[.int .i64 2,.int .i64 (a + k)]) (by simp [results,Tryz.results96,go_sem,x0,x1]) rfl ⟨by rw [(Prod.mk.inj HRR.out).1,(Prod.mk.inj HRR.out).2],set2_below HB2.out (Nat.le_refl _) _ _⟩
           | false =>
            rw [hnr] at hbt
            have hbt2 : (bits BinOp.and IntKind.i64 pt RN == RN) = true:=hbt
            have HNX:=hideC (HST.out.trans (HBT2.out.2 hnr))
            clear HFE HST HBT2 hbt hnr
            refine Q.region_kin (by kernel_rfl) (by kernel_rfl) ?_
            repeat (first | go_big_quiet_step ((go_at_call 140;exact Q.calls_kin HRA.out _)) | quiet_step ((go_at_call 140;exact Q.calls_kin HRA.out _)))
            refine wpQuiet_nil ?_
            intro _ hw'
            obtain ⟨x,hw''⟩:=hw'
            subst hw''
            have HB2:=hideC (add_below HBW.out x.keeps)
            have X2:=hideC (B.below XW.out x.keeps (B.isLt XW.out))
            obtain ⟨w2,hw2'⟩ : ∃ w2,w2 = x.world:=⟨_,rfl⟩
            rw [<- hw2'] at HB2 X2 ⊢
            clear hw2' c2
            go_wp2
            go_roundw
            case rel=>exact ⟨k + 1,by omega,by go_num,HNX.out,X2.out,HB2.out⟩
            case measure=>simp [intOf];omega
      · have hke : k = size.toNat:=by omega
        have HRR : Hid ((R1,R2) = (0,0)):=by show _ = _;rw [HR.out,<- hke];exact HN.out
        obtain ⟨x0,x1⟩:=B.c2 HX.out
        have f0 : ∀ k,wr.frozen? ⟨w.heap.size,k,none⟩ = false:=fun k=>B.free HX.out k
        clear hke
        go_wp2
        exact bodyPost_ret (v:=.agg #[.int .i64 0,.int .i64 0]) (by simp [results,Tryz.results96,go_sem,x0,x1]) rfl ⟨by rw [(Prod.mk.inj HRR.out).1,(Prod.mk.inj HRR.out).2],set2_below HB.out (Nat.le_refl _) _ _⟩
   · have hw2 : (way == 2) = false:=by rw [beq_eq_false_iff_ne];exact c
     clear htm hal c
     go_enter Tryz.func96,Tryz.ntmps96
     go_wp2_with fail
     go_loopw [23] (fun iv wr=>∃ k : Nat,k <= size.toNat /\ iv = .int .i64 (k : Int) /\ FM.bytesN l a way k = (0,0) /\ wr.heap[w.heap.size]? = some (.cells #[.int .i64 0,.int .i64 0] 36 (0,0)) /\ Below w.heap.size w wr) (fun iv _=>size.toNat - (intOf iv).toNat)
     case atStart=>exact ⟨0,by omega,rfl,rfl,X0.out,HB0.out⟩
     case round =>
      obtain ⟨k,hk,rfl,hnf,hx,hb⟩:=hrel
      have HN:=hideC hnf
      have HX:=hideC hx
      have HB:=hideC hb
      clear hnf hx hb X0 HB0
      by_cases hlt : (k : Int) < size
      · have hsm : -9223372036854775808 <= a + k /\ a + k <= 9223372036854775807:=by
         cases k with
         | zero=>omega
         | succ j =>
          have:=FM.bytes_small HN.out
          omega
        have HST:=hideC (FM.bytes_step HN.out)
        have HFE : Hid (∀ f : Int × Int,FM.bytesN l a way (k + 1) = f -> ¬ f.1 = 0 -> (R1,R2) = f):=fun f h1 h2=>HR.out.trans (FM.bytes_fell h1 h2 _ (by omega))
        have HFP:=hideC (fun V hV=>HFD.out ((a + k).tdiv 16) V hV)
        have HQ : Hid (0 <= a + k -> (a + k).tdiv 16 = (a + k) / 16):=fun h=>Int.tdiv_eq_ediv_of_nonneg h
        obtain ⟨⟨⟨pp,pn,pt,pz⟩,ok⟩,hF⟩ : ∃ F,F = AM.findN l ((a + k).tdiv 16):=⟨_,rfl⟩
        have HF2:=hideC hF
        rw [<- hF] at HFP
        have HFP2 : Hid (∀ V,AW.Has V (.slice ao vn cap) l -> Calls Tryz.prog 70 #[.slice ao vn cap,.int .i64 ((a + k).tdiv 16)] V fun e w'=>e = .returned (.tuple #[.agg #[.int .i64 pp,.int .i64 pn,.int .i64 pt,.bool pz],.bool ok]) /\ Below V.heap.size V w'):=HFP
        clear hF HFP
        have HBT : Hid ((a + k < 0 -> FM.byteN l (a + k) way = (1,a + k)) /\ (0 <= a + k -> ok = false -> FM.byteN l (a + k) way = (1,a + k)) /\ (0 <= a + k -> ok = true -> 0 <= pt /\ pt <= 3 /\ (FM.noRight pt way = true -> FM.byteN l (a + k) way = (2,a + k)) /\ (FM.noRight pt way = false -> FM.byteN l (a + k) way = (0,0)))):=by
         refine ⟨fun h=>FM.byte_map (.inl h),fun h h2=>?_,fun h h2=>?_⟩
         · refine FM.byte_map (.inr ?_)
           rw [<- HQ.out h,<- HF2.out]
           exact h2
         · have e1:=HF2.out
           rw [HQ.out h] at e1
           have h3 : (AM.findN l ((a + k) / 16)).2 = true:=by rw [<- e1];exact h2
           have h4:=FM.found_page (FM.found_check h3) h3
           have e2 : (AM.findN l ((a + k) / 16)).1.prot = pt:=by rw [<- e1]
           rw [e2] at h4
           exact ⟨h4.2.2.1,h4.2.2.2,fun h5=>FM.byte_right h h3 (by rw [e2];exact h5),fun h5=>FM.byte_ok h h3 (by rw [e2];exact h5)⟩
        clear HF2
        by_cases hneg : a + k < 0
        · have HRR:=hideC (HFE.out _ (HST.out.trans (HBT.out.1 hneg)) (by simp))
          clear HBT HFE HST
          go_wp2_with (go_at_call 70;refine (HFP2.out _ (HH.out.below HB.out)).mono ?_;rintro e w1 ⟨rfl,hb1⟩;have HB1:=hideC (add_below HB.out hb1);have X1:=hideC (B.below HX.out hb1 (B.isLt HX.out));clear hb1;have hl1:=B.isLt X1.out;have hne : ¬ w.heap.size = w1.heap.size:=(by omega);obtain ⟨x0,x1⟩:=B.c2 X1.out;have f0 : ∀ k,w1.frozen? ⟨w.heap.size,k,none⟩ = false:=fun k=>B.free X1.out k)
          exact bodyPost_ret (v:=.agg #[.int .i64 1,.int .i64 (a + k)]) (by simp [results,Tryz.results96,go_sem,x0,x1,hl1]) rfl ⟨by rw [(Prod.mk.inj HRR.out).1,(Prod.mk.inj HRR.out).2],(set2_below HB1.out (Nat.le_refl _) _ _).alloc (by simp;omega) _⟩
        · have hnn : 0 <= a + k:=by omega
          have HFP3:=HFP2
          rw [HQ.out hnn] at HFP3
          clear hneg HFP2 HQ
          cases ok with
          | false =>
           have HRR:=hideC (HFE.out _ (HST.out.trans (HBT.out.2.1 (by omega) rfl)) (by simp))
           clear HBT HFE HST
           go_wp2_with (go_at_call 70;refine (HFP3.out _ (HH.out.below HB.out)).mono ?_;rintro e w1 ⟨rfl,hb1⟩;have HB1:=hideC (add_below HB.out hb1);have X1:=hideC (B.below HX.out hb1 (B.isLt HX.out));clear hb1;have hl1:=B.isLt X1.out;have hne : ¬ w.heap.size = w1.heap.size:=(by omega);obtain ⟨x0,x1⟩:=B.c2 X1.out;have f0 : ∀ k,w1.frozen? ⟨w.heap.size,k,none⟩ = false:=fun k=>B.free X1.out k)
           exact bodyPost_ret (v:=.agg #[.int .i64 1,.int .i64 (a + k)]) (by simp [results,Tryz.results96,go_sem,x0,x1,hl1]) rfl ⟨by rw [(Prod.mk.inj HRR.out).1,(Prod.mk.inj HRR.out).2],(set2_below HB1.out (Nat.le_refl _) _ _).alloc (by simp;omega) _⟩
          | true =>
           have hpt:=HBT.out.2.2 hnn rfl
           have hbt:=right_bits pt way hpt.1 hpt.2.1
           have HBT2:=hideC hpt.2.2
           have HRA : Hid (∀ V,Calls Tryz.prog 140 #[.int .i64 way] V fun e w'=>e = .returned (.int .i64 (rightN way)) /\ Below V.heap.size V w'):=fun V=>(right_any way V).mono fun e w' ⟨h1,h2⟩=>⟨h1,by rw [<- h2];exact Below.refl _ _⟩
           clear hpt HBT
           obtain ⟨RN,hRN⟩ : ∃ RN,RN = rightN way:=⟨_,rfl⟩
           rw [<- hRN] at hbt HRA
           clear hRN
           go_wp2_with (go_at_call 70;refine (HFP3.out _ (HH.out.below HB.out)).mono ?_;rintro e w1 ⟨rfl,hb1⟩;have HB1:=hideC (add_below HB.out hb1);have X1:=hideC (B.below HX.out hb1 (B.isLt HX.out));clear hb1;have hl1:=B.isLt X1.out)
           obtain ⟨W,hW⟩ : ∃ W,W = w1.alloc (.cells #[.int .i64 pp,.int .i64 pn,.int .i64 pt,.bool pz] 47):=⟨_,rfl⟩
           have HW:=hideC hW
           have hs : W.heap.size = w1.heap.size + 1:=by rw [hW];simp
           have hkin:=Q.kin_some W
           have hkc:=@Q.cell_kin W
           have c2 : ∀ x : Q.Kin W.heap.size W,x.world.cell? ⟨w1.heap.size,2,none⟩ = some (.int .i64 pt):=fun x=>by rw [hkc x _ _ (by omega),hW];simp
           have HBW : Hid (Below w.heap.size w W):=by show Below _ _ _;rw [hW];exact HB1.out.alloc HB1.out.size _
           have XW : Hid (W.heap[w.heap.size]? = some (.cells #[.int .i64 0,.int .i64 0] 36 (0,0))):=by show _ = _;rw [hW];exact B.alloc X1.out _
           clear hW hs hkc
           rw [<- HW.out]
           cases hnr : FM.noRight pt way with
           | true =>
            rw [hnr] at hbt
            have hbt2 : (bits BinOp.and IntKind.i64 pt RN == RN) = false:=hbt
            have HRR:=hideC (HFE.out _ (HST.out.trans (HBT2.out.1 hnr)) (by simp))
            clear HFE HST HBT2 hbt hnr
            refine Q.region_kin (by kernel_rfl) (by kernel_rfl) ?_
            repeat (first | go_big_quiet_step ((go_at_call 140;exact Q.calls_kin HRA.out _)) | quiet_step ((go_at_call 140;exact Q.calls_kin HRA.out _)))
            refine wpQuiet_nil ?_
            intro _ hw'
            obtain ⟨x,hw''⟩:=hw'
            subst hw''
            have HB2:=hideC (add_below HBW.out x.keeps)
            have X2:=hideC (B.below XW.out x.keeps (B.isLt XW.out))
            obtain ⟨w2,hw2'⟩ : ∃ w2,w2 = x.world:=⟨_,rfl⟩
            rw [<- hw2'] at HB2 X2 ⊢
            clear hw2' c2
            obtain ⟨x0,x1⟩:=B.c2 X2.out
            have f0 : ∀ k,w2.frozen? ⟨w.heap.size,k,none⟩ = false:=fun k=>B.free X2.out k
            go_wp2
            exact bodyPost_ret (v:=.agg #[.int .i64 2,.int .i64 (a + k)]) (by simp [results,Tryz.results96,go_sem,x0,x1]) rfl ⟨by rw [(Prod.mk.inj HRR.out).1,(Prod.mk.inj HRR.out).2],set2_below HB2.out (Nat.le_refl _) _ _⟩
           | false =>
            rw [hnr] at hbt
            have hbt2 : (bits BinOp.and IntKind.i64 pt RN == RN) = true:=hbt
            have HNX:=hideC (HST.out.trans (HBT2.out.2 hnr))
            clear HFE HST HBT2 hbt hnr
            refine Q.region_kin (by kernel_rfl) (by kernel_rfl) ?_
            repeat (first | go_big_quiet_step ((go_at_call 140;exact Q.calls_kin HRA.out _)) | quiet_step ((go_at_call 140;exact Q.calls_kin HRA.out _)))
            refine wpQuiet_nil ?_
            intro _ hw'
            obtain ⟨x,hw''⟩:=hw'
            subst hw''
            have HB2:=hideC (add_below HBW.out x.keeps)
            have X2:=hideC (B.below XW.out x.keeps (B.isLt XW.out))
            obtain ⟨w2,hw2'⟩ : ∃ w2,w2 = x.world:=⟨_,rfl⟩
            rw [<- hw2'] at HB2 X2 ⊢
            clear hw2' c2
            go_wp2
            go_roundw
            case rel=>exact ⟨k + 1,by omega,by go_num,HNX.out,X2.out,HB2.out⟩
            case measure=>simp [intOf];omega
      · have hke : k = size.toNat:=by omega
        have HRR : Hid ((R1,R2) = (0,0)):=by show _ = _;rw [HR.out,<- hke];exact HN.out
        obtain ⟨x0,x1⟩:=B.c2 HX.out
        have f0 : ∀ k,wr.frozen? ⟨w.heap.size,k,none⟩ = false:=fun k=>B.free HX.out k
        clear hke
        go_wp2
        exact bodyPost_ret (v:=.agg #[.int .i64 0,.int .i64 0]) (by simp [results,Tryz.results96,go_sem,x0,x1]) rfl ⟨by rw [(Prod.mk.inj HRR.out).1,(Prod.mk.inj HRR.out).2],set2_below HB.out (Nat.le_refl _) _ _⟩
end FW
namespace KX
open Go.RowKit GK KO
open FW (hideC add_below)
open KW (cellFr cellSl cellEn HasRow KAt HasK cellsK aggEn cellI entryN)
open KS (Lc cellLc lc0 lcAt blk SpOwn)
theorem fault_none {l : List AM.Ar} {a n way : Int} (h1 : 1 <= n) (h8 : n <= 8) (h : (FM.faultN l a n way).1 = 0) : FM.faultN l a n way = (0,0) /\ 16 <= a /\ a + n <= 4096 /\ ∀ i,0 <= i -> i < n -> (AM.findN l ((a + i) / 16)).2 = true:=by
 have hb : FM.faultN l a n way = FM.bytesN l a way n.toNat:=by
  unfold FM.faultN at h ⊢
  by_cases c : way = 2 /\ ¬ a % 8 = 0
  · rw [if_pos c] at h;cases h
  · rw [if_neg c]
 rw [hb] at h ⊢
 have all : ∀ m : Nat,(FM.bytesN l a way m).1 = 0 -> FM.bytesN l a way m = (0,0) /\ ∀ i : Nat,i < m -> (FM.byteN l (a + i) way).1 = 0:=fun m=>by
  induction m with
  | zero=>intro _;exact ⟨rfl,fun i hi=>by omega⟩
  | succ m ih =>
   intro hm
   have h0 : (FM.bytesN l a way m).1 = 0:=by
    by_cases c : (FM.bytesN l a way m).1 = 0
    · exact c
    · rw [FM.bytesN,if_neg c] at hm;exact hm
   obtain ⟨e,hi⟩:=ih h0
   rw [FM.bytes_step e] at hm ⊢
   refine ⟨(FM.byte_zero hm).1,fun i hlt=>?_⟩
   by_cases c : i = m
   · subst c;exact hm
   · exact hi i (by omega)
 obtain ⟨e,hi⟩:=all n.toNat h
 obtain ⟨m,hm⟩ : ∃ m,n.toNat = m + 1:=⟨n.toNat - 1,by omega⟩
 have hs:=FM.bytes_small (l:=l) (a:=a) (way:=way) (k:=m) (by rw [<- hm];exact e)
 refine ⟨e,hs.1,by omega,fun i h0 hn=>?_⟩
 have:=hi i.toNat (by omega)
 rw [show a + (i.toNat : Int) = a + i by omega] at this
 exact (FM.byte_zero this).2.2.1
set_option maxHeartbeats 8000000 in
theorem reach_fault {lo mb : Nat} {tt : TypeId} {X : List Value} (k : KM.Kn) (S : St) (w : World) (j : Nat) (a n way : Int) (h : Km lo mb tt X w S k) (hR : KM.RightK k) (hj : j < k.spaces.length) (ha : M.I64 a) (hn : 1 <= n /\ n <= 8) (hf : (FM.faultN (KM.spAt k.spaces j).areas a n way).1 ≠ 0) :
  Calls Tryz.prog 52 #[.pointer (some ⟨mb,0,none⟩),.int .i64 (j : Int),.int .i64 a,.int .i64 n,.int .i64 way] w fun e w'=>e = .returned (.tuple #[.slice none 0 0,.agg #[.int .i64 (FM.faultN (KM.spAt k.spaces j).areas a n way).1,.int .i64 (FM.faultN (KM.spAt k.spaces j).areas a n way).2]]) /\ Below w.heap.size w w':=by
 have hcc:=hR.c
 obtain ⟨pb,cP,A⟩:=h.toKr.sp (by omega)
 have c3:=h.c3
 rw [A.v] at c3
 have a1:=A.x1 j hj
 have hfit : AW.AllFit (KM.spAt k.spaces j).areas:=AM.fits_of_check _ (hR.sp hj).areas
 have HFA:=hideC (fun V (hb : Below w.heap.size w V)=>FW.of_any _ _ a n way V (AW.Has.below (h.toKr.areas hj) hb) hfit ha (by omega))
 obtain ⟨ax,cx,hva,_,_⟩:=row_form (h.each j hj).areas
 rw [hva] at HFA a1
 have hji : (j : Int) < (k.spaces.length : Int):=by omega
 have hml:=h.lt
 have hpl:=A.lt
 unfold FW.fcells at HFA
 obtain ⟨F,hF⟩ : ∃ F,F = FM.faultN (KM.spAt k.spaces j).areas a n way:=⟨_,rfl⟩
 rw [<- hF] at HFA hf ⊢
 obtain ⟨f0,f1⟩:=F
 simp only at HFA hf ⊢
 have fb : (f0 != 0) = true:=by simpa using hf
 have HB0:=hideC ((Below.refl w.heap.size w).alloc (Nat.le_refl _) (.cells #[.int .i64 0,.int .i64 0] 36))
 have R0:=hideC (B.new w #[.int .i64 0,.int .i64 0] 36)
 have d3:=(HB0.out.cell (p:=⟨mb,3,none⟩) hml).trans c3
 have d1:=(HB0.out.cell (p:=⟨pb,j * 3 + 1,none⟩) hpl).trans a1
 obtain ⟨np,hnp⟩ : ∃ np,np = k.spaces.length:=⟨_,rfl⟩
 rw [<- hnp] at d3 hji
 obtain ⟨na,hna⟩ : ∃ na,na = (KM.spAt k.spaces j).areas.length:=⟨_,rfl⟩
 rw [<- hna] at d1 HFA
 clear h hR hj A c3 a1 hfit hva hF hf hcc hnp hna ha hn
 go_enter Tryz.func52,Tryz.ntmps52
 go_upto_region 3 with (go_at_call 96;refine (HFA.out _ HB0.out).mono ?_;rintro e w1 ⟨rfl,hb1⟩;have HB1:=hideC (add_below HB0.out hb1);have R1:=hideC (B.below R0.out hb1 (B.isLt R0.out));have FX:=hideC (B.new w1 #[.int .i64 f0,.int .i64 f1] 36);obtain ⟨y0,y1⟩:=B.c2 FX.out;clear hb1)
 have HBA:=hideC (HB1.out.alloc HB1.out.size (.cells #[.int .i64 f0,.int .i64 f1] 36))
 have hl1:=B.isLt R1.out
 have R2:=hideC (B.alloc R1.out (.cells #[.int .i64 f0,.int .i64 f1] 36))
 obtain ⟨z0,z1⟩:=B.c2 R2.out
 have q0:=B.free R2.out 0
 have q1:=B.free R2.out 1
 have hne : ¬ w.heap.size = w1.heap.size:=by omega
 obtain ⟨W,hW⟩ : ∃ W,W = w1.alloc (.cells #[.int .i64 f0,.int .i64 f1] 36):=⟨_,rfl⟩
 rw [<- hW] at HBA R2 z0 z1 q0 q1 y0 y1 ⊢
 clear hW
 go_region
 go_wp2
 have R3 : ((W.setCell ⟨w.heap.size,0,none⟩ (.int .i64 f0)).setCell ⟨w.heap.size,1,none⟩ (.int .i64 f1)).heap[w.heap.size]? = some (.cells #[.int .i64 f0,.int .i64 f1] 36 (0,0)):=B.set (B.set R2.out 0 _) 1 _
 obtain ⟨v0,v1⟩:=B.c2 R3
 refine bodyPost_ret (v:=.tuple #[.slice none 0 0,.agg #[.int .i64 f0,.int .i64 f1]]) (by simp [results,Tryz.results52,go_sem,v0,v1]) rfl ?_
 exact ⟨rfl,by first | exact ((HBA.out.setCell (p:=⟨w.heap.size,0,none⟩) (Nat.le_refl _) _).setCell (p:=⟨w.heap.size,1,none⟩) (Nat.le_refl _) _).drew | exact (HBA.out.setCell (p:=⟨w.heap.size,0,none⟩) (Nat.le_refl _) _).setCell (p:=⟨w.heap.size,1,none⟩) (Nat.le_refl _) _⟩
def stK (k : KM.Kn) (j : Nat) (a n way : Int) : Nat -> KM.Kn
 | 0=>k
 | 1=>(KM.oneK k j a way).2
 | _=>(KM.twoB k j a n way).2
def idK (k : KM.Kn) (j : Nat) (a n way : Int) : Nat -> List Int
 | 0=>[]
 | 1=>[((KM.oneK k j a way).1 : Int)]
 | _=>[((KM.oneK k j a way).1 : Int),((KM.twoB k j a n way).1 : Int)]
def ids (l : List Nat) : List Int:=l.map fun x : Nat=>(x : Int)
def pgs (a n : Int) : Nat:=if KM.lastPg a n = a / 16 then 1 else 2
theorem st_reach (k : KM.Kn) (j : Nat) (a n way : Int) : KM.reachK k j a n way = ((KM.reachK k j a n way).1,stK k j a n way (pgs a n)) /\ ids (KM.reachK k j a n way).1 = idK k j a n way (pgs a n) /\ (KM.reachK k j a n way).1.length = pgs a n:=by
 unfold KM.reachK pgs
 by_cases c : KM.lastPg a n = a / 16
 · rw [if_pos c,if_pos c];exact ⟨rfl,rfl,rfl⟩
 · rw [if_neg c,if_neg c];exact ⟨rfl,rfl,rfl⟩
theorem st0 (k : KM.Kn) (j : Nat) (a n way : Int) : stK k j a n way 0 = k:=rfl
theorem st1 (k : KM.Kn) (j : Nat) (a n way : Int) : stK k j a n way 1 = (KM.bringK k j (a / 16) way []).2:=by unfold stK KM.oneK;rfl
theorem st2 (k : KM.Kn) (j : Nat) (a n way : Int) : stK k j a n way 2 = (KM.bringK (KM.bringK k j (a / 16) way []).2 j (KM.lastPg a n) way [((KM.bringK k j (a / 16) way []).1 : Int)]).2:=by unfold stK KM.twoB KM.oneK;rfl
theorem id0 (k : KM.Kn) (j : Nat) (a n way : Int) : idK k j a n way 0 = []:=rfl
theorem id1 (k : KM.Kn) (j : Nat) (a n way : Int) : idK k j a n way 1 = [((KM.bringK k j (a / 16) way []).1 : Int)]:=by unfold idK KM.oneK;rfl
theorem id2 (k : KM.Kn) (j : Nat) (a n way : Int) : idK k j a n way 2 = [((KM.bringK k j (a / 16) way []).1 : Int)] ++ [((KM.bringK (KM.bringK k j (a / 16) way []).2 j (KM.lastPg a n) way [((KM.bringK k j (a / 16) way []).1 : Int)]).1 : Int)]:=by unfold idK KM.twoB KM.oneK;rfl
theorem Ch.local {S S' : St} {w w2 w3 : World} {D : Nat -> Prop} (h : Ch S w S' w2) (k : Kp D w2 w3) (hd : ∀ b,D b -> w.heap.size <= b) : Ch S w S' w3:=⟨⟨k.os.trans h.kp.os,k.tape.trans h.kp.tape,k.output.trans h.kp.output,Nat.le_trans h.kp.size k.size,fun b hb hn=>(k.block b (Nat.lt_of_lt_of_le hb h.kp.size) (fun g=>by have:=hd b g;omega)).trans (h.kp.block b hb hn)⟩,h.no,h.eS,h.eF,h.eL,h.eP⟩
theorem id_len (k : KM.Kn) (j : Nat) (a n way : Int) (m : Nat) (hm : m <= 2) : (idK k j a n way m).length = m:=by
 rcases (show m = 0 ∨ m = 1 ∨ m = 2 by omega) with rfl | rfl | rfl <;> rfl
set_option maxHeartbeats 16000000 in
theorem reach_fine {lo mb : Nat} {tt : TypeId} {X : List Value} (k : KM.Kn) (S : St) (w : World) (j : Nat) (a n way : Int) (h : Km lo mb tt X w S k) (hR : KM.RightK k) (hj : j < k.spaces.length) (ha : M.I64 a) (hn : 1 <= n /\ n <= 8) (hf : (FM.faultN (KM.spAt k.spaces j).areas a n way).1 = 0) (hX : FilX X k.sheets) :
  Calls Tryz.prog 52 #[.pointer (some ⟨mb,0,none⟩),.int .i64 (j : Int),.int .i64 a,.int .i64 n,.int .i64 way] w fun e w'=>∃ av cv S',e = .returned (.tuple #[.slice av (KM.reachK k j a n way).1.length cv,.agg #[.int .i64 0,.int .i64 0]]) /\ Held w' S' av (ids (KM.reachK k j a n way).1) /\ Km lo mb tt X w' S' (KM.reachK k j a n way).2 /\ Ch S w S' w':=by
 have hcc:=hR.c
 obtain ⟨hf0,hal,hau,hmap⟩:=fault_none hn.1 hn.2 hf
 have hm1 : KM.mapped k j (a / 16):=by
  have:=hmap 0 (by omega) (by omega)
  rw [Int.add_zero] at this
  exact this
 have hm2 : KM.mapped k j (KM.lastPg a n):=by
  have:=hmap (n - 1) (by omega) (by omega)
  unfold KM.lastPg
  rw [show a + n - 1 = a + (n - 1) by omega]
  exact this
 have hlast : KM.lastPg a n = a / 16 + ((pgs a n : Nat) : Int) - 1:=by
  unfold pgs
  have:=KM.pg_two (a:=a) hn.1 hn.2
  by_cases c : KM.lastPg a n = a / 16
  · rw [if_pos c];omega
  · rw [if_neg c];omega
 have hp2 : pgs a n = 1 ∨ pgs a n = 2:=by unfold pgs;split <;> omega
 have A1:=(KM.bring_had hR hj hm1 way (held:=[]) (by simp)).1
 obtain ⟨hr1,hr2,hr3⟩:=st_reach k j a n way
 have hpw : ∀ m,m < pgs a n -> KM.RightK (stK k j a n way m) /\ j < (stK k j a n way m).spaces.length /\ KM.mapped (stK k j a n way m) j (a / 16 + (m : Int)) /\ (stK k j a n way m).sheets = k.sheets /\ (KM.bringK (stK k j a n way m) j (a / 16 + (m : Int)) way (idK k j a n way m)).2 = stK k j a n way (m + 1) /\ idK k j a n way (m + 1) = idK k j a n way m ++ [((KM.bringK (stK k j a n way m) j (a / 16 + (m : Int)) way (idK k j a n way m)).1 : Int)]:=fun m hm=>by
  rcases (show m = 0 ∨ (m = 1 /\ pgs a n = 2) by omega) with rfl | ⟨rfl,h2⟩
  · have e : a / 16 + ((0 : Nat) : Int) = a / 16:=by omega
    rw [e,st0,id0,Nat.zero_add,st1,id1]
    exact ⟨hR,hj,hm1,rfl,rfl,rfl⟩
  · have e : a / 16 + ((1 : Nat) : Int) = KM.lastPg a n:=by omega
    have e2 : 1 + 1 = 2:=rfl
    rw [e,e2,st1,id1,st2,id2]
    obtain ⟨BR,hBR⟩ : ∃ BR,BR = KM.bringK k j (a / 16) way []:=⟨_,rfl⟩
    rw [<- hBR] at A1 ⊢
    refine ⟨A1.right,?_,A1.kept.mapped hj hm2,A1.kept.sheets,rfl,rfl⟩
    rw [A1.kept.np];exact hj
 have HBR : Hid (∀ V S' m av nv cv,m < pgs a n -> nv = m -> Km lo mb tt X V S' (stK k j a n way m) -> Held V S' av (idK k j a n way m) -> Calls Tryz.prog 97 #[.pointer (some ⟨mb,0,none⟩),.int .i64 (j : Int),.int .i64 (a / 16 + (m : Int)),.int .i64 way,.slice av nv cv] V fun e w'=>∃ i : Nat,e = .returned (.int .i64 (i : Int)) /\ idK k j a n way (m + 1) = idK k j a n way m ++ [(i : Int)] /\ ∃ S2,Km lo mb tt X w' S2 (stK k j a n way (m + 1)) /\ Ch S' V S2 w'):=fun V S' m av nv cv hm hnv hV hh=>by
  obtain ⟨q1,q2,q3,q4,q5,q6⟩:=hpw m hm
  have hil:=id_len k j a n way m (by omega)
  have:=bring_any (stK k j a n way m) S' V j (a / 16 + (m : Int)) way (idK k j a n way m) av cv hV q1 q2 q3 (by rw [q4];exact hX) (by omega) hh
  rw [hil] at this
  subst hnv
  refine this.mono fun e w' ⟨g1,S2,g2,g3⟩=>⟨_,g1,q6,S2,q5 ▸ g2,g3⟩
 have HFIN : Hid (∀ V S' av nv cv,nv = pgs a n -> Held V S' av (idK k j a n way (pgs a n)) -> Km lo mb tt X V S' (stK k j a n way (pgs a n)) -> Ch S w S' V -> (∃ av' cv' S'',Ending.returned (.tuple #[.slice av nv cv,.agg #[.int .i64 0,.int .i64 0]]) = .returned (.tuple #[.slice av' (KM.reachK k j a n way).1.length cv',.agg #[.int .i64 0,.int .i64 0]]) /\ Held V S'' av' (ids (KM.reachK k j a n way).1) /\ Km lo mb tt X V S'' (KM.reachK k j a n way).2 /\ Ch S w S'' V)):=fun V S' av nv cv e1 g1 g2 g3=>by
  have e2 : (KM.reachK k j a n way).2 = stK k j a n way (pgs a n):=congrArg Prod.snd hr1
  exact ⟨av,cv,S',by rw [e1,hr3],by rw [hr2];exact g1,by rw [e2];exact g2,g3⟩
 obtain ⟨P,hP⟩ : ∃ P : Ending -> World -> Prop,P = fun e w'=>∃ av cv S',e = .returned (.tuple #[.slice av (KM.reachK k j a n way).1.length cv,.agg #[.int .i64 0,.int .i64 0]]) /\ Held w' S' av (ids (KM.reachK k j a n way).1) /\ Km lo mb tt X w' S' (KM.reachK k j a n way).2 /\ Ch S w S' w':=⟨_,rfl⟩
 have HFI : Hid (∀ V S' av nv cv,nv = pgs a n -> Held V S' av (idK k j a n way (pgs a n)) -> Km lo mb tt X V S' (stK k j a n way (pgs a n)) -> Ch S w S' V -> P (.returned (.tuple #[.slice av nv cv,.agg #[.int .i64 0,.int .i64 0]])) V):=fun V S' av nv cv e1 g1 g2 g3=>by rw [hP];exact HFIN.out V S' av nv cv e1 g1 g2 g3
 rw [<- hP]
 obtain ⟨pb,cP,A⟩:=h.toKr.sp (by omega)
 have c3:=h.c3
 rw [A.v] at c3
 have a1:=A.x1 j hj
 have hfit : AW.AllFit (KM.spAt k.spaces j).areas:=AM.fits_of_check _ (hR.sp hj).areas
 have HFA:=hideC (fun V (hb : Below w.heap.size w V)=>FW.of_any _ _ a n way V (AW.Has.below (h.toKr.areas hj) hb) hfit ha (by omega))
 rw [hf0] at HFA
 obtain ⟨ax,cx,hva,_,_⟩:=row_form (h.each j hj).areas
 rw [hva] at HFA a1
 have hji : (j : Int) < (k.spaces.length : Int):=by omega
 have hml:=h.lt
 have hpl:=A.lt
 unfold FW.fcells at HFA
 simp only at HFA
 have HB0:=hideC ((Below.refl w.heap.size w).alloc (Nat.le_refl _) (.cells #[.int .i64 0,.int .i64 0] 36))
 have R0:=hideC (B.new w #[.int .i64 0,.int .i64 0] 36)
 have d3:=(HB0.out.cell (p:=⟨mb,3,none⟩) hml).trans c3
 have d1:=(HB0.out.cell (p:=⟨pb,j * 3 + 1,none⟩) hpl).trans a1
 obtain ⟨np,hnp⟩ : ∃ np,np = k.spaces.length:=⟨_,rfl⟩
 rw [<- hnp] at d3 hji
 obtain ⟨na,hna⟩ : ∃ na,na = (KM.spAt k.spaces j).areas.length:=⟨_,rfl⟩
 rw [<- hna] at d1 HFA
 have n0 : Hid (S.lab w.heap.size = .no):=h.toKr.new (Nat.le_refl _)
 have HKM:=hideC h
 have hlastD : Hid (KM.lastPg a n = a / 16 + ((pgs a n : Nat) : Int) - 1):=hlast
 have hlq : (a + n - 1) / 16 = a / 16 + ((pgs a n : Nat) : Int) - 1:=hlast
 have HIL:=hideC (id_len k j a n way)
 obtain ⟨PG,hPG⟩ : ∃ PG,PG = pgs a n:=⟨_,rfl⟩
 rw [<- hPG] at HBR HFI hp2 hlq
 have ha0 : 0 <= a:=by omega
 have han : 0 <= a + n - 1:=by omega
 have hw1 : IntKind.i64.wrap (a + n) = a + n:=IntWalk.i64_in _ (by omega)
 have hw2 : IntKind.i64.wrap (a + n - 1) = a + n - 1:=IntWalk.i64_in _ (by omega)
 obtain ⟨i0,hin,hz0,hz1,hz2⟩:=info_parts infoIn
 have HIN:=hideC hin
 have HZ0:=hideC hz0
 have HZ1:=hideC hz1
 have HZ2:=hideC hz2
 have hau2 : a / 16 <= 256:=by omega
 have hap : 0 <= a / 16:=by omega
 obtain ⟨Q,hQ⟩ : ∃ Q,Q = a / 16:=⟨_,rfl⟩
 have HQ:=hideC hQ
 rw [<- hQ] at HBR hlq hau2 hap
 have hqa : a.tdiv 16 = Q:=by rw [hQ];exact Int.tdiv_eq_ediv_of_nonneg ha0
 have hqb : (a + n - 1).tdiv 16 = Q + (PG : Int) - 1:=by rw [<- hlq];exact Int.tdiv_eq_ediv_of_nonneg han
 clear h hR hj A c3 a1 hfit hva hf0 hcc hnp hna ha hmap hm1 hm2 hlast hlastD A1 hr1 hr2 hr3 hpw HFIN hP hPG hX hf hal hau ha0 han hQ hin hz0 hz1 hz2 hlq
 go_enter Tryz.func52,Tryz.ntmps52
 go_wp2_with (go_at_call 96;refine (HFA.out _ HB0.out).mono ?_;rintro e w1 ⟨rfl,hb1⟩;have HB1:=hideC (add_below HB0.out hb1);have R1:=hideC (B.below R0.out hb1 (B.isLt R0.out));have FX:=hideC (B.new w1 #[.int .i64 0,.int .i64 0] 36);obtain ⟨y0,y1⟩:=B.c2 FX.out;clear hb1)
 have HBA:=hideC (HB1.out.alloc HB1.out.size (.cells #[.int .i64 0,.int .i64 0] 36))
 have R2:=hideC (B.alloc R1.out (.cells #[.int .i64 0,.int .i64 0] 36))
 obtain ⟨W,hW⟩ : ∃ W,W = w1.alloc (.cells #[.int .i64 0,.int .i64 0] 36):=⟨_,rfl⟩
 rw [<- hW] at HBA R2 y0 y1 ⊢
 clear hW y0 y1 FX R1 HB1
 go_loopw [13,14] (fun fv pv wr=>∃ (m : Nat) (S' : St) (av : Option Addr) (cv : Nat),m <= PG /\ pv = .int .i64 (Q + (m : Int)) /\ fv = .slice av m cv /\ wr.ownsRow W.heap.size 3 1 (.slice av m cv) m ((idK k j a n way m).flatMap cellI) /\ (∀ b,blk (.slice av m cv) b -> S'.lab b = .no) /\ Km lo mb tt X wr S' (stK k j a n way m) /\ Ch S W S' wr) (fun _ pv _=>(Q + (PG : Int) - intOf pv).toNat)
 case atStart=>exact ⟨0,S,none,0,by omega,by simp,rfl,World.ownsRow_nil _ _ _ _,fun b hb=>(by cases hb),HKM.out.below HBA.out,Ch.refl _ _⟩
 case round =>
  obtain ⟨m,S',av,cv,hm,rfl,rfl,hrow,hno,hkm,hch⟩:=hrel
  have HROW:=hideC hrow
  have HNO:=hideC hno
  have HCH:=hideC hch
  by_cases hlt : m < PG
  · have hle : Q + (m : Int) <= Q + (PG : Int) - 1:=by omega
    have hil:=HIL.out m (by omega)
    have hrow2:=hrow
    rw [<- hil] at hrow2
    have hheld:=(held_row (S:=S') (n:=m) (l:=idK k j a n way m) (by rw [hil];exact hrow) hno).2
    have HBR2:=hideC (HBR.out wr S' m av m cv hlt rfl hkm hheld)
    clear hrow hno hkm hch hrow2 hheld hil HKM
    go_wp2_with (first
     | (at_builtin;refine wpList_append_src (P:=Tryz.prog) rfl _ _ 99 rfl W.heap.size 3 i0 (.int .i64 0) 1 8 Tryz.underlying99 HIN.out HZ0.out HZ1.out HZ2.out rfl (by decide) (.slice av m cv) m ((idK k j a n way m).flatMap cellI) rfl HO2.out (some ⟨w2.heap.size,0,none⟩) 1 1 [.int .i64 (i : Int)] rfl rfl (fun _=>⟨_,rfl,B.news (B.new w2 _ _)⟩) (by intro u hu;simp at hu;rw [hu];rfl) (by unfold maxLen;omega) (by omega) (by have:=HC2.out.kp.size;simp;omega) ?_;intro v' w' hown hgr hat;obtain ⟨aG,cG,hvG,_,_⟩:=row_form hown;subst hvG;have HO3:=hideC hown;have HG3:=hideC hgr;have HA3:=hideC hat;clear hown hgr hat)
     | (go_at_call 97;refine HBR2.out.mono ?_;rintro e w2 ⟨i,rfl,hid,S2,hk2,hc2⟩;have HID:=hideC hid;have HK2:=hideC hk2;have HC2:=hideC (HCH.out.trans hc2);have HO1:=hideC (hc2.kp.row HROW.out (fun b hb z=>z (HNO.out b hb)));have HN2:=hideC (fun b (hb : blk (.slice av m cv) b)=>hc2.no b (HROW.out.lt b hb).2 (HNO.out b hb));have HO2:=hideC (HO1.out.alloc (.cells #[.int .i64 (i : Int)] 3));clear hid hk2 hc2))
    go_roundw
    case rel =>
     have kA : Kp (fun b=>blk (.slice av m cv) b) w2 (w2.alloc (.cells #[.int .i64 (i : Int)] 3)):=Kp.alloc _ _ _
     have kB:=kA.trans (Kp.grown (D:=fun b=>blk (.slice av m cv) b) HG3.out (fun q hq=>hq)) (fun _ _ g=>g)
     have hlab : ∀ b,blk (.slice aG (m + 1) cG) b -> S2.lab b = .no:=fun b hb=>by
      rcases HA3.out with g | g
      · exact HN2.out b (by show Value.ownBlock _ = _;rw [<- g];exact hb)
      · have hb : Value.ownBlock _ = some b:=hb
        rw [g] at hb
        injection hb with hb
        rw [World.size_alloc] at hb
        exact HK2.out.toKr.new (by omega)
     refine ⟨m + 1,S2,aG,cG,by omega,by go_num,rfl,?_,hlab,?_,?_⟩
     · rw [HID.out,List.flatMap_append]
       have e : [(i : Int)].flatMap cellI = [.int .i64 (i : Int)]:=rfl
       rw [e]
       exact HO3.out
     · exact HK2.out.kp kB (fun b hb g=>hb (HN2.out b g))
     · exact KX.Ch.local HC2.out kB (fun b g=>(HO1.out.lt b g).1)
    case measure=>simp [intOf];omega
  · obtain rfl : m = PG:=by omega
    have hgt : ¬ Q + (m : Int) <= Q + (m : Int) - 1:=by omega
    have hil:=HIL.out m (by omega)
    have hheld:=(held_row (S:=S') (n:=m) (l:=idK k j a n way m) (by rw [hil];exact hrow) hno).2
    have HX:=hideC (HFI.out)
    have HHE:=hideC hheld
    have HKE:=hideC hkm
    have RW:=hideC (hch.keep R2.out n0.out)
    obtain ⟨y0,y1⟩:=B.c2 RW.out
    have q0:=B.free RW.out 0
    have q1:=B.free RW.out 1
    have HCW:=hideC ((Ch.below HBA.out).trans hch)
    have hnl : S'.lab w.heap.size = .no:=hch.no _ (B.isLt R2.out) n0.out
    have HKF : Hid (∀ V,V = (wr.setCell ⟨w.heap.size,0,none⟩ (.int .i64 0)).setCell ⟨w.heap.size,1,none⟩ (.int .i64 0) -> Held V S' av (idK k j a n way m) /\ Km lo mb tt X V S' (stK k j a n way m) /\ Ch S w S' V /\ V.heap[w.heap.size]? = some (.cells #[.int .i64 0,.int .i64 0] 36 (0,0))):=fun V hV=>by
     have kp : Kp (fun b=>b = w.heap.size) wr V:=by rw [hV];exact (Kp.set (fun b=>b = w.heap.size) wr ⟨w.heap.size,0,none⟩ _ rfl).trans (Kp.set (fun b=>b = w.heap.size) _ ⟨w.heap.size,1,none⟩ _ rfl) (fun _ _ g=>g)
     refine ⟨⟨KX.HasRow.kp HHE.out.has kp (fun b off e z=>?_),HHE.out.no,fun b off e=>Nat.lt_of_lt_of_le (HHE.out.lt b off e) kp.size⟩,HKE.out.kp kp (fun b hb z=>hb (by rw [z];exact hnl)),KX.Ch.local HCW.out kp (fun b z=>by omega),by rw [hV];exact B.set (B.set RW.out 0 _) 1 _⟩
     have : W.heap.size <= b:=by
      subst e
      rcases HROW.out.2 with ⟨h0,_⟩ | ⟨g,cap',cur,hv,hbs,_⟩
      · cases h0
      · injection hv with e1 _ _
        injection e1 with e1
        injection e1 with e1 _ _
        omega
     have:=B.isLt R2.out
     omega
    have HX2:=hideC (fun V (hV : V = (wr.setCell ⟨w.heap.size,0,none⟩ (.int .i64 0)).setCell ⟨w.heap.size,1,none⟩ (.int .i64 0))=>HFI.out V S' av m cv rfl (HKF.out V hV).1 (HKF.out V hV).2.1 (HKF.out V hV).2.2.1)
    clear hrow hno hkm hch hheld hil HKM HX HHE HKE HCW hnl HBR
    go_wp2
    obtain ⟨v0,v1⟩:=B.c2 (HKF.out _ rfl).2.2.2
    refine bodyPost_ret (v:=.tuple #[.slice av m cv,.agg #[.int .i64 0,.int .i64 0]]) (by simp [results,Tryz.results52,go_sem,v0,v1]) rfl ?_
    exact HX2.out _ rfl
end KX
end Go.Proofs.YtpgifpeohlllfaaGreat
