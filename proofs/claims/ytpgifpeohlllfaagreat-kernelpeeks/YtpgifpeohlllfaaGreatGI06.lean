import Derived.Test.YtpgifpeohlllfaaGreatGI05
import Derived.Test.YtpgifpeohlllfaaGreatGI00
import Derived.Deep.WholeRow
import Derived.Laws.CopyOwn
import Derived.Deep.AppendLies
import Derived.Test.YtpgifpeohlllfaaGreatGI02
import Derived.Lib.Hide
import Derived.WalkSpells
import Derived.Deep.CutBlock
import Derived.Deep.DeepCutAuto
import Derived.Test.YtpgifpeohlllfaaGreatProg
import Derived.WalkLawsBesides
set_option maxHeartbeats 20000000
set_option linter.unusedVariables false
set_option maxRecDepth 100000
set_option linter.unusedSimpArgs false
namespace Go.Proofs.YtpgifpeohlllfaaGreat
namespace AW
open Go.RowKit
def cellsOf (a : AM.Ar) : Array Value:=#[.int .i64 a.page,.int .i64 a.pages,.int .i64 a.prot,.bool a.zero]
set_option maxHeartbeats 2000000 in
theorem find_some (l : List AM.Ar) (b off cap : Nat) (p : Int) (w : World) (hl : AM.Lie w b off l) (hf : ∀ i,i < l.length -> AM.Fits (AM.at_ l i)) (hn : l.length <= 140737488351232) :
  Calls Tryz.prog 70 #[.slice (some ⟨b,off,none⟩) l.length cap,.int .i64 p] w fun e w'=>e = .returned (.tuple #[.agg (cellsOf (AM.findN l p).1),.bool (AM.findN l p).2]) /\ Below w.heap.size w w':=by
 have hbz : Below w.heap.size w (w.alloc (.cells #[.int .i64 0,.int .i64 0,.int .i64 0,.bool false] 47)):=(Below.refl _ _).alloc (Nat.le_refl _) _
 by_cases hc : AM.checkN l = 0
 · have hlen:=AM.good_len l hc
   have HC : Hid (AM.findN l p = AM.findFrom l p):=by show _ = _;simp [AM.findN,hc]
   have HK : Hid (AM.checkN l = 0):=hc
   go_enter Tryz.func70,Tryz.ntmps70
   go_wp2_with fail
   refine (check_some l b off cap _ (hl.below hbz) hf hn).mono ?_
   rintro e w1 ⟨rfl,hb1⟩
   rw [hc]
   clear hc
   go_wp2
   go_loopw [14] (fun i wr=>∃ k : Nat,k <= l.length /\ i = .int .i64 k /\ (∀ j,j < k -> AM.hit (AM.at_ l j) p = false) /\ Below (w.heap.size + 1) (w.alloc (.cells #[.int .i64 0,.int .i64 0,.int .i64 0,.bool false] 47)) wr) (fun i _=>l.length - (intOf i).toNat)
   case atStart=>exact ⟨0,by omega,rfl,fun j hj=>by omega,hb1.mono (by simp)⟩
   case round =>
    obtain ⟨k,hk,rfl,hno,hb⟩:=hrel
    have HN : Hid (∀ j,j < k -> AM.hit (AM.at_ l j) p = false):=hno
    have hbw : Hid (Below w.heap.size w wr):=hbz.trans (hb.mono (Nat.le_succ _))
    have hsz : w.heap.size + 1 <= wr.heap.size:=by have:=hb.size;simpa using this
    have hlr:=hl.below hbw.out
    have hR : wr.heap[w.heap.size]? = some (.cells #[.int .i64 0,.int .i64 0,.int .i64 0,.bool false] 47 (0,0)):=B.below (B.new w _ _) hb (Nat.lt_succ_self _)
    have HR : Hid (wr.heap[w.heap.size]? = some (.cells #[.int .i64 0,.int .i64 0,.int .i64 0,.bool false] 47 (0,0))):=hR
    have HB : Hid (Below (w.heap.size + 1) (w.alloc (.cells #[.int .i64 0,.int .i64 0,.int .i64 0,.bool false] 47)) wr):=hb
    clear hR hb
    clear hno hb1
    by_cases hlt : k < l.length
    · obtain ⟨c0,c1,c2,c3⟩:=hlr k hlt
      have hbk:=AM.okAt_pages l k (AM.good_pages l HK.out k hlt)
      obtain ⟨a,ha⟩ : ∃ a,a = AM.at_ l k:=⟨_,rfl⟩
      rw [<- ha] at c0 c1 c2 c3 hbk
      have HA : Hid (a = AM.at_ l k):=ha
      clear ha
      by_cases h1 : a.page <= p
      · by_cases h2 : p < a.page + a.pages
        · have hres : Hid (AM.findN l p = (a,true)):=by
           show _ = _
           rw [HC.out,AM.findFrom_at l p k hlt HN.out (by rw [<- HA.out];simp [AM.hit,AM.Ar.last0,h1,h2]),<- HA.out]
          go_wp2_with fail
          refine (end_any _ _ _ _ _ (by omega) (by omega)).mono ?_
          rintro e w2 ⟨rfl,hb2⟩
          have hA2:=B.below (B.new wr #[.int .i64 a.page,.int .i64 a.pages,.int .i64 a.prot,.bool a.zero] 47) hb2 (by simp)
          have hR2:=B.below (B.alloc HR.out _) hb2 (by simp;omega)
          have s0:=B.cell hA2 0 rfl
          have s1:=B.cell hA2 1 rfl
          have s2:=B.cell hA2 2 rfl
          have s3:=B.cell hA2 3 rfl
          have t0:=B.cell hR2 0 rfl
          have t1:=B.cell hR2 1 rfl
          have t2:=B.cell hR2 2 rfl
          have t3:=B.cell hR2 3 rfl
          have u0:=B.free hR2
          have hbe : Hid (Below w.heap.size w w2):=(hbw.out.alloc hbw.out.size _).trans (hb2.mono (by simp;omega))
          have hsz2 : wr.heap.size + 1 <= w2.heap.size:=by have:=hb2.size;simpa using this
          clear hb2 hA2 hR2
          go_wp2
          exact bodyPost_ret (v:=.tuple #[.agg #[.int .i64 a.page,.int .i64 a.pages,.int .i64 a.prot,.bool a.zero],.bool true]) (by simp [results,Tryz.results70,go_sem,t0,t1,t2,t3]) rfl ⟨by rw [hres.out];rfl,(((hbe.out.setCell (Nat.le_refl _) _).setCell (Nat.le_refl _) _).setCell (Nat.le_refl _) _).setCell (Nat.le_refl _) _⟩
        · have hmiss : Hid (AM.hit (AM.at_ l k) p = false):=by show _ = _;rw [<- HA.out];unfold AM.hit AM.Ar.last0;exact decide_eq_false (by omega)
          go_wp2_with fail
          refine (end_any _ _ _ _ _ (by omega) (by omega)).mono ?_
          rintro e w2 ⟨rfl,hb2⟩
          have hbe : Hid (Below (w.heap.size + 1) (w.alloc (.cells #[.int .i64 0,.int .i64 0,.int .i64 0,.bool false] 47)) w2):=(HB.out.alloc (by omega) _).trans (hb2.mono (by simp;omega))
          clear hb2
          go_wp2
          go_roundw
          case rel=>exact ⟨k + 1,by omega,by go_num,fun j hj=>if e : j = k then by rw [e];exact hmiss.out else HN.out j (by omega),hbe.out⟩
          case measure=>simp [intOf];omega
      · have hmiss : Hid (AM.hit (AM.at_ l k) p = false):=by show _ = _;rw [<- HA.out];unfold AM.hit AM.Ar.last0;exact decide_eq_false (by omega)
        have d1 : decide (a.page <= p) = false:=by simp;omega
        go_wp2
        go_roundw
        case rel=>exact ⟨k + 1,by omega,by go_num,fun j hj=>if e : j = k then by rw [e];exact hmiss.out else HN.out j (by omega),HB.out.alloc (by omega) _⟩
        case measure=>simp [intOf];omega
    · obtain rfl : k = l.length:=by omega
      have hres : Hid (AM.findN l p = (AM.nil,false)):=by show _ = _;rw [HC.out,AM.findFrom_none l p HN.out]
      have t0:=B.cell HR.out 0 rfl
      have t1:=B.cell HR.out 1 rfl
      have t2:=B.cell HR.out 2 rfl
      have t3:=B.cell HR.out 3 rfl
      have u0:=B.free HR.out
      go_wp2
      exact bodyPost_ret (v:=.tuple #[.agg #[.int .i64 0,.int .i64 0,.int .i64 0,.bool false],.bool false]) (by simp [results,Tryz.results70,go_sem,t0,t1,t2,t3]) rfl ⟨by rw [hres.out];rfl,(((hbw.out.setCell (Nat.le_refl _) _).setCell (Nat.le_refl _) _).setCell (Nat.le_refl _) _).setCell (Nat.le_refl _) _⟩
 · have HC : Hid (AM.findN l p = (AM.nil,false)):=by show _ = _;simp [AM.findN,hc]
   have hc' : (AM.checkN l != 0) = true:=by simpa using hc
   go_enter Tryz.func70,Tryz.ntmps70
   go_wp2_with fail
   refine (check_some l b off cap _ (hl.below hbz) hf hn).mono ?_
   rintro e w1 ⟨rfl,hb1⟩
   have hR1:=B.below (B.new w #[.int .i64 0,.int .i64 0,.int .i64 0,.bool false] 47) hb1 (by simp)
   have t0:=B.cell hR1 0 rfl
   have t1:=B.cell hR1 1 rfl
   have t2:=B.cell hR1 2 rfl
   have t3:=B.cell hR1 3 rfl
   have u0:=B.free hR1
   clear hR1
   go_wp2
   exact bodyPost_ret (v:=.tuple #[.agg #[.int .i64 0,.int .i64 0,.int .i64 0,.bool false],.bool false]) (by simp [results,Tryz.results70,go_sem,t0,t1,t2,t3]) rfl ⟨by rw [HC.out];rfl,((((hbz.trans (hb1.mono (by simp))).setCell (Nat.le_refl _) _).setCell (Nat.le_refl _) _).setCell (Nat.le_refl _) _).setCell (Nat.le_refl _) _⟩
theorem find_nil (ao : Option Addr) (cap : Nat) (p : Int) (w : World) :
  Calls Tryz.prog 70 #[.slice ao 0 cap,.int .i64 p] w fun e w'=>e = .returned (.tuple #[.agg (cellsOf (AM.findN [] p).1),.bool (AM.findN [] p).2]) /\ Below w.heap.size w w':=by
 have hbz : Below w.heap.size w (w.alloc (.cells #[.int .i64 0,.int .i64 0,.int .i64 0,.bool false] 47)):=(Below.refl _ _).alloc (Nat.le_refl _) _
 have e2 : AM.checkN [] = 0:=by decide
 go_enter Tryz.func70,Tryz.ntmps70
 go_wp2_with fail
 refine (check_nil ao cap _).mono ?_
 rintro e w1 ⟨rfl,hb1⟩
 rw [e2]
 have hR1:=B.below (B.new w #[.int .i64 0,.int .i64 0,.int .i64 0,.bool false] 47) hb1 (by simp)
 have t0:=B.cell hR1 0 rfl
 have t1:=B.cell hR1 1 rfl
 have t2:=B.cell hR1 2 rfl
 have t3:=B.cell hR1 3 rfl
 have u0:=B.free hR1
 clear hR1
 go_wp2
 refine wp_loop_rounds 1 ?_
 rw [rounds_succ]
 go_wp2
 exact bodyPost_ret (v:=.tuple #[.agg #[.int .i64 0,.int .i64 0,.int .i64 0,.bool false],.bool false]) (by simp [results,Tryz.results70,go_sem,t0,t1,t2,t3]) rfl ⟨rfl,((((hbz.trans (hb1.mono (by simp))).setCell (Nat.le_refl _) _).setCell (Nat.le_refl _) _).setCell (Nat.le_refl _) _).setCell (Nat.le_refl _) _⟩
theorem zero56 : (Tryz.prog.info? 215).map (fun i=>(i.zero,i.size)) = some (some (.agg (AM.cellsL (fun _=>AM.off))),768):=by kernel_rfl
theorem size56 : (Tryz.prog.info? 215).map (·.size) = some 768:=(zero_of_info zero56).2
theorem zv56 (w : World) : (zeroValue 215).run Tryz.prog w = .ok (.agg (AM.cellsL (fun _=>AM.off))) w:=(zero_of_info zero56).1 w
set_option maxHeartbeats 2000000 in
theorem spread_some (l : List AM.Ar) (b off cap : Nat) (w : World) (hl : AM.Lie w b off l) (hc : AM.checkN l = 0) :
  Calls Tryz.prog 156 #[.slice (some ⟨b,off,none⟩) l.length cap] w fun e w'=>e = .returned (.agg (AM.cellsL (AM.spreadN l))) /\ Below w.heap.size w w':=by
 have hlen:=AM.good_len l hc
 have HK : Hid (AM.checkN l = 0):=hc
 clear hc
 obtain ⟨Z,hZ⟩ : ∃ Z,Z = AM.cellsL (fun _=>AM.off):=⟨_,rfl⟩
 have hz:=zv56
 rw [<- hZ] at hz
 have HZ : Hid (Z = AM.cellsL (fun _=>AM.off)):=hZ
 clear hZ
 go_enter Tryz.func156,Tryz.ntmps156
 go_wp2
 go_loopw [9] (fun i wr=>∃ k : Nat,k <= l.length /\ i = .int .i64 k /\ wr.heap[w.heap.size]? = some (.cells Z 215 (0,0)) /\ wr.heap[w.heap.size + 1]? = some (.cells (AM.cellsL (AM.spreadTo l k)) 215 (0,0)) /\ Below w.heap.size w wr) (fun i _=>l.length - (intOf i).toNat)
 case atStart =>
  refine ⟨0,by omega,rfl,B.alloc (B.new w Z 215) _,?_,((Below.refl _ _).alloc (Nat.le_refl _) _).alloc (by simp) _⟩
  show _ = some (Obj.cells (AM.cellsL (fun _=>AM.off)) 215 (0,0))
  rw [<- HZ.out]
  have:=B.new (w.alloc (.cells Z 215)) Z 215
  simpa using this
 case round =>
  obtain ⟨k,hk,rfl,hR,hA,hb⟩:=hrel
  have HR : Hid (wr.heap[w.heap.size]? = some (.cells Z 215 (0,0))):=hR
  have HA : Hid (wr.heap[w.heap.size + 1]? = some (.cells (AM.cellsL (AM.spreadTo l k)) 215 (0,0))):=hA
  have HB : Hid (Below w.heap.size w wr):=hb
  have hsz : w.heap.size + 2 <= wr.heap.size:=B.isLt hA
  by_cases hlt : k < l.length
  · obtain ⟨c0,c1,c2,c3⟩:=hl.below hb k hlt
    have hbk:=AM.okAt_pages l k (AM.good_pages l HK.out k hlt)
    obtain ⟨a,ha⟩ : ∃ a,a = AM.at_ l k:=⟨_,rfl⟩
    rw [<- ha] at c0 c1 c2 c3 hbk
    have HAr : Hid (a = AM.at_ l k):=ha
    clear ha hR hA hb
    obtain ⟨wo,hwo⟩ : ∃ wo : World,wo = wr:=⟨_,rfl⟩
    subst hwo
    have hcx : (k : Int) < (l.length : Int):=by omega
    go_wp2
    go_loopw [6] (fun t wi=>∃ n : Nat,a.page <= (n : Int) /\ (n : Int) <= a.page + a.pages /\ t = .int .i64 n /\ wi.heap[w.heap.size]? = some (.cells Z 215 (0,0)) /\ wi.heap[w.heap.size + 1]? = some (.cells (AM.cellsL (AM.layTo (AM.spreadTo l k) a n)) 215 (0,0)) /\ wi.heap[wo.heap.size]? = some (.cells #[.int .i64 a.page,.int .i64 a.pages,.int .i64 a.prot,.bool a.zero] 47 (0,0)) /\ Below w.heap.size w wi) (fun t _=>(a.page + a.pages - intOf t).toNat)
    case atStart =>
     refine ⟨a.page.toNat,by omega,by omega,by rw [Int.toNat_of_nonneg (by omega)],B.alloc HR.out _,?_,B.new _ _ _,HB.out.alloc HB.out.size _⟩
     rw [Int.toNat_of_nonneg (by omega),AM.layTo_begin]
     exact B.alloc HA.out _
    case round =>
     obtain ⟨n,hn1,hn2,rfl,iR,iA,iX,ib⟩:=hrel
     have IR : Hid (wr.heap[w.heap.size]? = some (.cells Z 215 (0,0))):=iR
     have IA : Hid (wr.heap[w.heap.size + 1]? = some (.cells (AM.cellsL (AM.layTo (AM.spreadTo l k) a n)) 215 (0,0))):=iA
     have IB : Hid (Below w.heap.size w wr):=ib
     have x0:=B.cell iX 0 rfl
     have x1:=B.cell iX 1 rfl
     have x2:=B.cell iX 2 rfl
     have x3:=B.cell iX 3 rfl
     have IX : Hid (wr.heap[wo.heap.size]? = some (.cells #[.int .i64 a.page,.int .i64 a.pages,.int .i64 a.prot,.bool a.zero] 47 (0,0))):=iX
     have hxs : wo.heap.size < wr.heap.size:=B.isLt iX
     clear iR iA iX ib
     by_cases hin : (n : Int) < a.page + a.pages
     · go_wp2_with fail
       refine (end_any _ _ _ _ _ (by omega) (by omega)).mono ?_
       rintro e w2 ⟨rfl,hb2⟩
       have jR:=B.below IR.out hb2 (by omega)
       have jA:=B.below IA.out hb2 (by omega)
       have jX:=B.below IX.out hb2 hxs
       have y0:=B.cell jX 0 rfl
       have y1:=B.cell jX 1 rfl
       have y2:=B.cell jX 2 rfl
       have y3:=B.cell jX 3 rfl
       have z0:=B.cell jA (n * 3) (AM.cellsL_get0 _ n (by omega))
       have z1:=B.cell jA (n * 3 + 1) (AM.cellsL_get1 _ n (by omega))
       have z2:=B.cell jA (n * 3 + 2) (AM.cellsL_get2 _ n (by omega))
       have zf:=B.free jA
       have JR : Hid (w2.heap[w.heap.size]? = some (.cells Z 215 (0,0))):=jR
       have JA : Hid (w2.heap[w.heap.size + 1]? = some (.cells (AM.cellsL (AM.layTo (AM.spreadTo l k) a n)) 215 (0,0))):=jA
       have JX : Hid (w2.heap[wo.heap.size]? = some (.cells #[.int .i64 a.page,.int .i64 a.pages,.int .i64 a.prot,.bool a.zero] 47 (0,0))):=jX
       have JB : Hid (Below w.heap.size w w2):=IB.out.trans (hb2.mono IB.out.size)
       clear jR jA jX hb2 x0 x1 x2 x3
       have hn256 : (n : Int) < 256:=by omega
       go_wp2
       go_roundw
       case rel =>
        refine ⟨n + 1,by omega,by omega,by go_num,B.other (B.other (B.other JR.out _ _ _ (by omega)) _ _ _ (by omega)) _ _ _ (by omega),?_,B.other (B.other (B.other JX.out _ _ _ (by omega)) _ _ _ (by omega)) _ _ _ (by omega),((JB.out.setCell (by simp) _).setCell (by simp) _).setCell (by simp) _⟩
        have h:=B.set (B.set (B.set JA.out (n * 3) (.bool true)) (n * 3 + 1) (.int .i64 a.prot)) (n * 3 + 2) (.bool a.zero)
        rw [AM.cellsL_set (AM.layTo (AM.spreadTo l k) a n) n ⟨true,a.prot,a.zero⟩ (by omega),AM.layTo_step _ _ _ hn1] at h
        rw [show ((n + 1 : Nat) : Int) = (n : Int) + 1 from by omega]
        exact h
       case measure=>simp [intOf];omega
     · have hend : (n : Int) = a.page + a.pages:=by omega
       have HE : Hid ((n : Int) = a.page + a.pages):=hend
       clear hend
       go_wp2_with fail
       refine (end_any _ _ _ _ _ (by omega) (by omega)).mono ?_
       rintro e w2 ⟨rfl,hb2⟩
       have JR : Hid (w2.heap[w.heap.size]? = some (.cells Z 215 (0,0))):=B.below IR.out hb2 (by omega)
       have JA : Hid (w2.heap[w.heap.size + 1]? = some (.cells (AM.cellsL (AM.layTo (AM.spreadTo l k) a n)) 215 (0,0))):=B.below IA.out hb2 (by omega)
       have JB : Hid (Below w.heap.size w w2):=IB.out.trans (hb2.mono IB.out.size)
       clear hb2 x0 x1 x2 x3
       go_wp2
       go_roundw
       case rel =>
        refine ⟨k + 1,by omega,by go_num,JR.out,?_,JB.out⟩
        have h:=JA.out
        rw [HE.out] at h
        show _ = some (Obj.cells (AM.cellsL (AM.layTo (AM.spreadTo l k) (AM.at_ l k) (AM.at_ l k).last0)) 215 (0,0))
        rw [<- HAr.out]
        exact h
       case measure=>simp [intOf];omega
  · obtain rfl : k = l.length:=by omega
    have hZs : Z.size = 768:=by rw [HZ.out];exact AM.cellsL_size _
    clear hR hA hb
    go_wp2_with (first | (refine wpList_load_row rfl 215 _ rfl (w.heap.size + 1) rfl 215 _ (0,0) _ HA.out Tryz.underlying215 rfl (by rw [AM.cellsL_size];exact size56) ?_) | (refine wpList_store_row rfl 215 _ _ rfl w.heap.size _ rfl rfl 215 Z HR.out (by rw [AM.cellsL_size];exact size56) (by rw [hZs,AM.cellsL_size]) (AM.cellsL_one _) ?_))
    exact bodyPost_ret (v:=.agg (AM.cellsL (AM.spreadTo l l.length))) (results_cell_row rfl _ _ w.heap.size 215 _ (0,0) _ rfl (setRow_heap _ _ _ _ 215 (0,0) HR.out) Tryz.underlying215 rfl (by rw [AM.cellsL_size];exact size56)) rfl ⟨rfl,below_setRow HB.out (Nat.le_refl _) _⟩
set_option maxHeartbeats 1000000 in
theorem spread_nil (ao : Option Addr) (cap : Nat) (w : World) :
  Calls Tryz.prog 156 #[.slice ao 0 cap] w fun e w'=>e = .returned (.agg (AM.cellsL (AM.spreadN []))) /\ Below w.heap.size w w':=by
 obtain ⟨Z,hZ⟩ : ∃ Z,Z = AM.cellsL (fun _=>AM.off):=⟨_,rfl⟩
 have hz:=zv56
 rw [<- hZ] at hz
 have hZs : Z.size = 768:=by rw [hZ];exact AM.cellsL_size _
 have HZ : Hid (Z = AM.cellsL (fun _=>AM.off)):=hZ
 clear hZ
 have HR : Hid (((w.alloc (.cells Z 215)).alloc (.cells Z 215)).heap[w.heap.size]? = some (.cells Z 215 (0,0))):=B.alloc (B.new w Z 215) _
 have HA : Hid (((w.alloc (.cells Z 215)).alloc (.cells Z 215)).heap[w.heap.size + 1]? = some (.cells Z 215 (0,0))):=by
  have:=B.new (w.alloc (.cells Z 215)) Z 215
  show _ = _
  simpa using this
 go_enter Tryz.func156,Tryz.ntmps156
 go_wp2
 refine wp_loop_rounds 1 ?_
 rw [rounds_succ]
 go_wp2_with (first | (refine wpList_load_row rfl 215 _ rfl (w.heap.size + 1) rfl 215 _ (0,0) _ HA.out Tryz.underlying215 rfl (by rw [hZs];exact size56) ?_) | (refine wpList_store_row rfl 215 _ _ rfl w.heap.size _ rfl rfl 215 Z HR.out (by rw [hZs];exact size56) rfl (by rw [HZ.out];exact AM.cellsL_one _) ?_))
 exact bodyPost_ret (v:=.agg Z) (results_cell_row rfl _ _ w.heap.size 215 _ (0,0) _ rfl (setRow_heap _ _ _ _ 215 (0,0) HR.out) Tryz.underlying215 rfl (by rw [hZs];exact size56)) rfl ⟨by rw [HZ.out];rfl,below_setRow (((Below.refl _ _).alloc (Nat.le_refl _) _).alloc (by simp) _) (Nat.le_refl _) _⟩
theorem index56 (F : Nat -> AM.St) (k : Nat) (hk : k < 256) (w : World) : (Instr.index 215 (.agg (AM.cellsL F)) (.int .i64 k)).run Tryz.prog w = .ok (.agg #[.bool (F k).m,.int .i64 (F k).p,.bool (F k).z]) w:=by
 have h1 : (k : Int) < 256:=by omega
 simp [Instr.index,run_underlying Tryz.underlying215,go_sem]
 rw [if_pos hk,AM.cellsL_part F k hk]
theorem info24 : (Tryz.prog.info? 47).map (fun i=>(i.zero,i.size,i.bytes)) = some (some (.agg #[.int .i64 0,.int .i64 0,.int .i64 0,.bool false]),4,32):=by kernel_rfl
def Has (w : World) (v : Value) (l : List AM.Ar) : Prop:=∃ ao cap,v = .slice ao l.length cap /\ (l = [] ∨ ∃ b off,ao = some ⟨b,off,none⟩ /\ AM.Lie w b off l)
theorem fin_last {w wx : World} {v : Value} {n : Nat} {xs : List Value} {C : Array Value} (hC : C.size = 3) (hown : wx.ownsRow (w.heap.size + 2) 47 4 v n xs) (hl : wx.heap[w.heap.size + 1]? = some (.cells C 173 (0,0))) (hb : Below w.heap.size w wx) (x y z : Value) :
  (((wx.setCell ⟨w.heap.size + 1,0,none⟩ x).setCell ⟨w.heap.size + 1,1,none⟩ y).setCell ⟨w.heap.size + 1,2,none⟩ z).ownsRow (w.heap.size + 2) 47 4 v n xs /\
  (((wx.setCell ⟨w.heap.size + 1,0,none⟩ x).setCell ⟨w.heap.size + 1,1,none⟩ y).setCell ⟨w.heap.size + 1,2,none⟩ z).heap[w.heap.size + 1]? = some (.cells #[x,y,z] 173 (0,0)) /\
  Below w.heap.size w (((wx.setCell ⟨w.heap.size + 1,0,none⟩ x).setCell ⟨w.heap.size + 1,1,none⟩ y).setCell ⟨w.heap.size + 1,2,none⟩ z):=by
 refine ⟨ownsRow_setCell_below (ownsRow_setCell_below (ownsRow_setCell_below hown (by simp) _) (by simp) _) (by simp) _,?_,((hb.setCell (by simp) _).setCell (by simp) _).setCell (by simp) _⟩
 rw [B.set (B.set (B.set hl 0 x) 1 y) 2 z]
 congr 2
 match C,hC with
 | ⟨[a,b,c]⟩,_=>rfl
def Own (lo : Nat) (w : World) (v : Value) (l : List AM.Ar) : Prop:=w.ownsRow lo 47 4 v l.length (AM.areaCells l)
theorem Own.nil (lo : Nat) (w : World) : Own lo w (.slice none 0 0) []:=World.ownsRow_nil _ _ _ _
theorem Own.mono {lo lo' : Nat} {w : World} {v : Value} {l : List AM.Ar} (h : Own lo w v l) (hl : lo' <= lo) : Own lo' w v l:=by
 refine ⟨h.1,?_⟩
 rcases h.2 with h2 | ⟨g,cap,cur,hv,hbg,rest⟩
 · exact .inl h2
 · exact .inr ⟨g,cap,cur,hv,Nat.le_trans hl hbg,rest⟩
theorem Own.has {lo : Nat} {w : World} {v : Value} {l : List AM.Ar} (h : Own lo w v l) : Has w v l:=by
 rcases h.2 with ⟨hv,h0⟩ | ⟨g,cap,cur,hv,hbg,hg,hnc,hcm,hcs,htake⟩
 · exact ⟨none,0,by rw [hv,h0],.inl (List.eq_nil_of_length_eq_zero h0)⟩
 · have ho:=h
   unfold Own at ho
   rw [hv] at ho
   refine ⟨some ⟨g,0,none⟩,cap,hv,.inr ⟨g,0,rfl,fun i hi=>?_⟩⟩
   rw [Nat.zero_add]
   exact ⟨(ho.cellAt _ (by omega)).trans (AM.areaCells_get _ i 0 hi (by omega)),(ho.cellAt _ (by omega)).trans (AM.areaCells_get _ i 1 hi (by omega)),(ho.cellAt _ (by omega)).trans (AM.areaCells_get _ i 2 hi (by omega)),(ho.cellAt _ (by omega)).trans (AM.areaCells_get _ i 3 hi (by omega))⟩
set_option maxHeartbeats 2000000 in
theorem gather_own (F : Nat -> AM.St) (w : World) :
  Calls Tryz.prog 157 #[.agg (AM.cellsL F)] w fun e w'=>∃ v,e = .returned v /\ Own w.heap.size w' v (AM.gatherN F) /\ Below w.heap.size w w':=by
 have hidx:=index56 F
 obtain ⟨C,hC⟩ : ∃ C,C = AM.cellsL F:=⟨_,rfl⟩
 have hCs : C.size = 768:=by rw [hC];exact AM.cellsL_size _
 rw [<- hC] at hidx ⊢
 clear hC
 obtain ⟨i0,hi,hz0,hz1,hz2⟩:=info_parts info24
 have HX : Hid (((w.alloc (.cells C 215)).alloc (.cells #[.bool false,.int .i64 0,.bool false] 173)).heap[w.heap.size]? = some (.cells C 215 (0,0))):=B.alloc (B.new w C 215) _
 have HL : Hid (((w.alloc (.cells C 215)).alloc (.cells #[.bool false,.int .i64 0,.bool false] 173)).heap[w.heap.size + 1]? = some (.cells #[.bool false,.int .i64 0,.bool false] 173 (0,0))):=by
  have:=B.new (w.alloc (.cells C 215)) #[.bool false,.int .i64 0,.bool false] 173
  show _ = _
  simpa using this
 have HB0 : Hid (Below w.heap.size w ((w.alloc (.cells C 215)).alloc (.cells #[.bool false,.int .i64 0,.bool false] 173))):=((Below.refl _ _).alloc (Nat.le_refl _) _).alloc (by simp) _
 go_enter Tryz.func157,Tryz.ntmps157
 go_wp2_with (first | (refine wpList_load_row rfl 215 _ rfl w.heap.size rfl 215 _ (0,0) _ HX.out Tryz.underlying215 rfl (by rw [hCs];exact size56) ?_))
 go_loopw [3,8] (fun v i wr=>∃ k : Nat,k <= 256 /\ i = .int .i64 k /\ wr.ownsRow (w.heap.size + 2) 47 4 v (AM.gatherTo F k).length (AM.areaCells (AM.gatherTo F k)) /\ wr.heap[w.heap.size + 1]? = some (.cells #[.bool (AM.lastTo F k).m,.int .i64 (AM.lastTo F k).p,.bool (AM.lastTo F k).z] 173 (0,0)) /\ Below w.heap.size w wr) (fun _ i _=>256 - (intOf i).toNat)
 case atStart=>exact ⟨0,by omega,rfl,World.ownsRow_nil _ _ _ _,HL.out,HB0.out⟩
 case round =>
  obtain ⟨k,hk,rfl,hown,hl,hb⟩:=hrel
  have HO : Hid (wr.ownsRow (w.heap.size + 2) 47 4 u3 (AM.gatherTo F k).length (AM.areaCells (AM.gatherTo F k))):=hown
  have HLr : Hid (wr.heap[w.heap.size + 1]? = some (.cells #[.bool (AM.lastTo F k).m,.int .i64 (AM.lastTo F k).p,.bool (AM.lastTo F k).z] 173 (0,0))):=hl
  have HB : Hid (Below w.heap.size w wr):=hb
  have hsz : w.heap.size + 1 < wr.heap.size:=B.isLt hl
  have l0:=B.cell hl 0 rfl
  have l1:=B.cell hl 1 rfl
  have l2:=B.cell hl 2 rfl
  have lf:=B.free hl
  clear hown hl hb
  by_cases hlt : k < 256
  · have hx:=fun W=>hidx k hlt W
    have hki : (k : Int) < 256:=by omega
    obtain ⟨s,hs⟩ : ∃ s,s = F k:=⟨_,rfl⟩
    obtain ⟨t,ht⟩ : ∃ t,t = AM.lastTo F k:=⟨_,rfl⟩
    rw [<- hs] at hx
    rw [<- ht] at l0 l1 l2
    have HS : Hid (s = F k):=hs
    have HT : Hid (t = AM.lastTo F k):=ht
    clear hs ht hidx
    by_cases hm : s.m = true
    · by_cases he : AM.stEq s t = true
      · have hst : s = t:=AM.stEq_eq s t he
        have HG : Hid (AM.gatherTo F (k + 1) = AM.bump (AM.gatherTo F k)):=by show _ = _;simp only [AM.gatherTo];rw [<- HS.out,<- HT.out,hm,he];rfl
        have hpos:=AM.gather_some F k (by rw [<- HT.out,<- hst];exact hm)
        have hlen:=AM.gather_len F k
        obtain ⟨G,hG⟩ : ∃ G,G = AM.gatherTo F k:=⟨_,rfl⟩
        have hpg:=AM.gather_pages F k ((AM.gatherTo F k).length - 1) (by omega)
        rw [<- hG] at HO HG hpos hlen hpg
        clear hG
        rcases HO.out.2 with ⟨_,h0⟩ | ⟨g,cap,cur,hv,hbg,hg,hnc,hcm,hcs,htake⟩
        · omega
        · have HO2:=HO.out
          rw [hv] at HO2
          have p1 : wr.cell? ⟨g,(G.length - 1) * 4 + 1,none⟩ = some (.int .i64 (AM.at_ G (G.length - 1)).pages):=by
           rw [HO2.cellAt _ (by omega),AM.areaCells_get G _ 1 (by omega) (by omega)];rfl
          have pf:=HO2.frozenAt
          have HOv : Hid (wr.ownsRow (w.heap.size + 2) 47 4 (.slice (some ⟨g,0,none⟩) G.length cap) G.length (AM.areaCells G)):=HO2
          have Hv : Hid (u3 = .slice (some ⟨g,0,none⟩) G.length cap):=hv
          have hgl : g < wr.heap.size:=B.isLt hg
          rw [hv]
          clear HO HO2 hv hg htake hcs he
          obtain ⟨pp,hpp⟩ : ∃ pp,pp = (AM.at_ G (G.length - 1)).pages:=⟨_,rfl⟩
          rw [<- hpp] at p1 hpg
          have HP : Hid (pp = (AM.at_ G (G.length - 1)).pages):=hpp
          clear hpp
          subst hst
          have hG1 : (1 : Int) <= (G.length : Int):=by omega
          have hG2 : (G.length : Int) <= 256:=by omega
          go_wp2
          go_roundw
          case rel =>
           have ho:=(HOv.out.stored ((G.length - 1) * 4 + 1) (.int .i64 (pp + 1))).1
           have e : (AM.areaCells G).set ((G.length - 1) * 4 + 1) (.int .i64 (pp + 1)) = AM.areaCells (AM.bump G):=by
            rw [HP.out];exact (AM.areaCells_set G (G.length - 1) _ (by omega)).symm
           rw [e] at ho
           have h:=fin_last rfl ho (B.other HLr.out _ _ _ (by omega)) (HB.out.setCell (by simp;omega) _) (.bool true) (.int .i64 s.p) (.bool s.z)
           refine ⟨k + 1,by omega,by go_num,?_,?_,h.2.2.alloc h.2.2.size _⟩
           · rw [HG.out,AM.bump_length];exact h.1.alloc _
           · show _ = some (Obj.cells #[.bool (F k).m,.int .i64 (F k).p,.bool (F k).z] 173 (0,0))
             rw [<- HS.out,hm]
             exact B.alloc h.2.1 _
          case measure=>simp [intOf];omega
      · have he' : AM.stEq s t = false:=by simpa using he
        have HG : Hid (AM.gatherTo F (k + 1) = AM.gatherTo F k ++ [⟨(k : Int),1,s.p,s.z⟩]):=by show _ = _;simp only [AM.gatherTo];rw [<- HS.out,<- HT.out,hm,he'];rfl
        have hlen:=AM.gather_len F k
        obtain ⟨G,hG⟩ : ∃ G,G = AM.gatherTo F k:=⟨_,rfl⟩
        rw [<- hG] at HO HG hlen
        clear hG he
        have hrow : Hid (∀ j,u3.ownBlock = some j -> w.heap.size + 2 <= j /\ j < wr.heap.size):=HO.out.lt
        have hcas:=AM.stEq_ne s t he'
        obtain ⟨sm,sp,sz⟩:=s
        obtain ⟨tm,tp,tz⟩:=t
        simp only at hm hcas l0 l1 l2 HG
        subst hm
        have HN : Hid (((wr.alloc (.cells #[.bool true,.int .i64 sp,.bool sz] 173)).alloc (.cells #[.int .i64 (k : Int),.int .i64 1,.int .i64 sp,.bool sz] 47)).heap[wr.heap.size + 1]? = some (.cells #[.int .i64 (k : Int),.int .i64 1,.int .i64 sp,.bool sz] 47 (0,0))):=by
         have:=B.new (wr.alloc (.cells #[.bool true,.int .i64 sp,.bool sz] 173)) #[.int .i64 (k : Int),.int .i64 1,.int .i64 sp,.bool sz] 47
         show _ = _
         simpa using this
        have hcas' : tm = false ∨ (tm = true /\ (sp == tp) = false) ∨ (tm = true /\ sp = tp /\ tz = !sz):=by
         cases tm
         · exact .inl rfl
         · rcases hcas with q | ⟨_,q⟩ | ⟨_,q1,q2⟩
           · cases q
           · exact .inr (.inl ⟨rfl,q⟩)
           · refine .inr (.inr ⟨rfl,by simpa using q1,?_⟩)
             cases sz <;> cases tz <;> first | rfl | cases q2
        clear he' hcas
        rcases hcas' with rfl | ⟨rfl,q⟩ | ⟨rfl,rfl,rfl⟩
        all_goals
         go_wp2_with (at_builtin;refine wpList_append_lies _ rfl _ _ 28 rfl (w.heap.size + 2) 47 i0 (.agg #[.int .i64 0,.int .i64 0,.int .i64 0,.bool false]) 4 32 Tryz.underlying28 hi hz0 hz1 hz2 rfl (by decide) _ _ _ rfl ((HO.out.alloc _).alloc _) ⟨wr.heap.size + 1,0,none⟩ 1 1 [.int .i64 (k : Int),.int .i64 1,.int .i64 sp,.bool sz] rfl rfl (B.news HN.out) (AM.areaCells_one [⟨(k : Int),1,sp,sz⟩]) (by decide) (by unfold maxLen;omega) (by omega) (by simp;omega) (wr.heap.size + 2) (by simp) ?_)
         intro g cap w1 hown1 hgrow hat hlt1
         have bS:=B.grown (B.alloc (B.new wr #[.bool true,.int .i64 sp,.bool sz] 173) (.cells #[.int .i64 (k : Int),.int .i64 1,.int .i64 sp,.bool sz] 47)) hgrow (fun e=>by have:=hrow.out _ e.symm;omega)
         have bL:=B.grown (B.alloc (B.alloc HLr.out (.cells #[.bool true,.int .i64 sp,.bool sz] 173)) (.cells #[.int .i64 (k : Int),.int .i64 1,.int .i64 sp,.bool sz] 47)) hgrow (fun e=>by have:=hrow.out _ e.symm;omega)
         have b0:=B.cell bS 0 rfl
         have b1:=B.cell bS 1 rfl
         have b2:=B.cell bS 2 rfl
         have m0:=B.cell bL 0 rfl
         have m1:=B.cell bL 1 rfl
         have m2:=B.cell bL 2 rfl
         have mf:=B.free bL
         have HO1 : Hid (w1.ownsRow (w.heap.size + 2) 47 4 (Value.slice (some ⟨g,0,none⟩) (G.length + 1) cap) (G.length + 1) (AM.areaCells G ++ [.int .i64 (k : Int),.int .i64 1,.int .i64 sp,.bool sz])):=hown1
         have HL1 : Hid (w1.heap[w.heap.size + 1]? = some (.cells #[.bool (AM.lastTo F k).m,.int .i64 (AM.lastTo F k).p,.bool (AM.lastTo F k).z] 173 (0,0))):=bL
         have HB1 : Hid (Below w.heap.size w w1):=((HB.out.alloc HB.out.size _).alloc (by have:=HB.out.size;simp;omega) _).grown hgrow (by have:=HB.out.size;simp;omega) (fun k' e=>by have:=hrow.out _ e;omega)
         clear bS bL hown1 hgrow hat l0 l1 l2 lf
         go_wp2
         go_roundw
         case rel =>
          have h:=fin_last rfl HO1.out HL1.out HB1.out (.bool true) (.int .i64 sp) (.bool sz)
          refine ⟨k + 1,by omega,by go_num,?_,?_,h.2.2⟩
          · rw [HG.out,List.length_append,AM.areaCells_append];exact h.1
          · show _ = some (Obj.cells #[.bool (F k).m,.int .i64 (F k).p,.bool (F k).z] 173 (0,0))
            rw [<- HS.out]
            exact h.2.1
         case measure=>simp [intOf];omega
    · have hm' : s.m = false:=by simpa using hm
      have HG : Hid (AM.gatherTo F (k + 1) = AM.gatherTo F k):=by show _ = _;simp only [AM.gatherTo];rw [<- HS.out,hm'];rfl
      clear hm
      go_wp2
      go_roundw
      case rel =>
       have h:=fin_last rfl HO.out HLr.out HB.out (.bool false) (.int .i64 s.p) (.bool s.z)
       refine ⟨k + 1,by omega,by go_num,?_,?_,h.2.2.alloc h.2.2.size _⟩
       · rw [HG.out];exact h.1.alloc _
       · show _ = some (Obj.cells #[.bool (F k).m,.int .i64 (F k).p,.bool (F k).z] 173 (0,0))
         rw [<- HS.out,hm']
         exact B.alloc h.2.1 _
      case measure=>simp [intOf];omega
  · obtain rfl : k = 256:=by omega
    go_wp2
    go_ret
    refine ⟨_,rfl,?_,HB.out⟩
    exact Own.mono (lo:=w.heap.size + 2) HO.out (by omega)
def howMap (q : Int) (s : AM.St) : AM.St × Int:=if s.m then (s,5) else (⟨true,q,true⟩,0)
def aggSt (s : AM.St) : Value:=.agg #[.bool s.m,.int .i64 s.p,.bool s.z]
set_option maxHeartbeats 400000 in
theorem map1_any (s : AM.St) (q : Int) (P : Nat) (w : World) (hP : w.cell? ⟨P,0,none⟩ = some (.int .i64 q)) :
  Calls Tryz.prog 122 #[.agg #[.bool s.m,.int .i64 s.p,.bool s.z],.pointer (some ⟨P,0,none⟩)] w fun e w'=>e = .returned (.tuple #[aggSt (howMap q s).1,.int .i64 (howMap q s).2]) /\ Below w.heap.size w w':=by
 have hPl : P < w.heap.size:=World.block_lt_of_cell? w _ hP
 obtain ⟨m,p,z⟩:=s
 cases m
 · go_enter Tryz.func122,Tryz.ntmps122
   go_wp2
   exact bodyPost_ret (v:=.tuple #[.agg #[.bool true,.int .i64 q,.bool true],.int .i64 0]) (by simp [results,Tryz.results122,go_sem]) rfl ⟨rfl,((Below.refl _ _).alloc (Nat.le_refl _) _).alloc (by simp) _⟩
 · go_enter Tryz.func122,Tryz.ntmps122
   go_wp2
   exact bodyPost_ret (v:=.tuple #[.agg #[.bool true,.int .i64 p,.bool z],.int .i64 5]) (by simp [results,Tryz.results122,go_sem]) rfl ⟨rfl,((Below.refl _ _).alloc (Nat.le_refl _) _).alloc (by simp) _⟩
theorem Has.below {w w' : World} {v : Value} {l : List AM.Ar} (h : Has w v l) (hb : Below w.heap.size w w') : Has w' v l:=by
 obtain ⟨ao,cap,rfl,h⟩:=h
 rcases h with rfl | ⟨b,off,rfl,hl⟩
 · exact ⟨ao,cap,rfl,.inl rfl⟩
 · exact ⟨_,cap,rfl,.inr ⟨b,off,rfl,hl.below hb⟩⟩
def AllFit (l : List AM.Ar) : Prop:=(∀ i,i < l.length -> AM.Fits (AM.at_ l i)) /\ l.length <= 140737488351232
theorem check_any (l : List AM.Ar) (v : Value) (w : World) (h : Has w v l) (hf : AllFit l) :
  Calls Tryz.prog 98 #[v] w fun e w'=>e = .returned (.int .i64 (AM.checkN l)) /\ Below w.heap.size w w':=by
 obtain ⟨ao,cap,rfl,h⟩:=h
 rcases h with rfl | ⟨b,off,rfl,hl⟩
 · exact check_nil ao cap w
 · exact check_some l b off cap w hl hf.1 hf.2
theorem total_any (l : List AM.Ar) (v : Value) (w : World) (h : Has w v l) (hf : AllFit l) :
  Calls Tryz.prog 54 #[v] w fun e w'=>e = .returned (.int .i64 (AM.totalN l)) /\ Below w.heap.size w w':=by
 obtain ⟨ao,cap,rfl,h⟩:=h
 rcases h with rfl | ⟨b,off,rfl,hl⟩
 · exact total_nil ao cap w
 · exact total_some l b off cap w hl hf.1 hf.2
theorem find_any (l : List AM.Ar) (v : Value) (p : Int) (w : World) (h : Has w v l) (hf : AllFit l) :
  Calls Tryz.prog 70 #[v,.int .i64 p] w fun e w'=>e = .returned (.tuple #[.agg (cellsOf (AM.findN l p).1),.bool (AM.findN l p).2]) /\ Below w.heap.size w w':=by
 obtain ⟨ao,cap,rfl,h⟩:=h
 rcases h with rfl | ⟨b,off,rfl,hl⟩
 · exact find_nil ao cap p w
 · exact find_some l b off cap p w hl hf.1 hf.2
theorem spread_any (l : List AM.Ar) (v : Value) (w : World) (h : Has w v l) (hc : AM.checkN l = 0) :
  Calls Tryz.prog 156 #[v] w fun e w'=>e = .returned (.agg (AM.cellsL (AM.spreadN l))) /\ Below w.heap.size w w':=by
 obtain ⟨ao,cap,rfl,h⟩:=h
 rcases h with rfl | ⟨b,off,rfl,hl⟩
 · exact spread_nil ao cap w
 · exact spread_some l b off cap w hl hc
end AW
namespace FW
open Go.RowKit
theorem hideC {p : Prop} (h : p) : Hid p:=h
theorem add_below {w w1 w2 : World} (h1 : Below w.heap.size w w1) (h2 : Below w1.heap.size w1 w2) : Below w.heap.size w w2:=h1.trans (h2.mono h1.size)
def rightN (way : Int) : Int:=if way = 1 then 1 else if way = 2 then 2 else 0
theorem right_any (way : Int) (w : World) : Calls Tryz.prog 140 #[.int .i64 way] w fun e w'=>e = .returned (.int .i64 (rightN way)) /\ w = w':=by
 unfold rightN
 by_cases h1 : way = 1
 · subst h1
   go_enter Tryz.func140,Tryz.ntmps140
   go_wp2
   go_ret
   exact ⟨rfl,rfl⟩
 · rw [if_neg h1]
   have h1i : (way == 1) = false:=by rw [beq_eq_false_iff_ne];exact h1
   by_cases h2 : way = 2
   · subst h2
     go_enter Tryz.func140,Tryz.ntmps140
     go_wp2
     go_ret
     exact ⟨rfl,rfl⟩
   · rw [if_neg h2]
     have h2i : (way == 2) = false:=by rw [beq_eq_false_iff_ne];exact h2
     clear h1 h2
     go_enter Tryz.func140,Tryz.ntmps140
     go_wp2
     go_ret
     exact ⟨rfl,rfl⟩
theorem right_bits (p way : Int) (h0 : 0 <= p) (h3 : p <= 3) : (bits BinOp.and IntKind.i64 p (rightN way) == rightN way) = !(FM.noRight p way):=by
 have hp : p = 0 ∨ p = 1 ∨ p = 2 ∨ p = 3:=by omega
 unfold rightN FM.noRight
 by_cases h1 : way = 1
 · subst h1
   rcases hp with rfl | rfl | rfl | rfl <;> decide
 · by_cases h2 : way = 2
   · subst h2
     rcases hp with rfl | rfl | rfl | rfl <;> decide
   · rw [if_neg h1,if_neg h2]
     simp only [h1,h2,false_and,or_self,decide_false,Bool.not_false]
     rcases hp with rfl | rfl | rfl | rfl <;> decide
end FW
namespace W
open Go.RowKit
theorem hideC {p : Prop} (h : p) : Hid p:=h
theorem ret_bool {a b : Bool} (h : a = b) : Ending.returned (.bool a) = .returned (.bool b):=by rw [h]
set_option maxHeartbeats 1000000 in
theorem inName_any (n : Int) (w : World) : Calls Tryz.prog 209 #[.int .u8 n] w fun e w'=>e = .returned (.bool (M.signB n)) /\ w = w':=by
 by_cases h1 : 97 <= n /\ n <= 122
 · have e : M.signB n = true:=by unfold M.signB;rw [decide_eq_true h1];rfl
   rw [e]
   obtain ⟨a,b⟩:=h1
   go_enter Tryz.func209,Tryz.ntmps209
   go_wp2
   go_ret
   exact ⟨rfl,rfl⟩
 · by_cases h2 : 48 <= n /\ n <= 57
   · have e : M.signB n = true:=by unfold M.signB;rw [decide_eq_true h2];simp
     rw [e]
     obtain ⟨a,b⟩:=h2
     have c : decide (97 <= n) = false:=by simp;omega
     clear h1
     go_enter Tryz.func209,Tryz.ntmps209
     go_wp2
     go_ret
     exact ⟨rfl,rfl⟩
   · by_cases h3 : n = 95
     · subst h3
       go_enter Tryz.func209,Tryz.ntmps209
       go_wp2
       go_ret
       exact ⟨rfl,rfl⟩
     · have e : M.signB n = false:=by unfold M.signB;rw [decide_eq_false h1,decide_eq_false h2,decide_eq_false h3];rfl
       rw [e]
       have h3' : (n == 95) = false:=by simpa using h3
       by_cases a : 97 <= n
       · have b : decide (n <= 122) = false:=by simp;omega
         have c : 48 <= n:=by omega
         have d : decide (n <= 57) = false:=by simp;omega
         clear h1 h2
         go_enter Tryz.func209,Tryz.ntmps209
         go_wp2
         go_ret
         exact ⟨rfl,rfl⟩
       · have a' : decide (97 <= n) = false:=by simpa using a
         by_cases c : 48 <= n
         · have d : decide (n <= 57) = false:=by simp;omega
           clear h1 h2
           go_enter Tryz.func209,Tryz.ntmps209
           go_wp2
           go_ret
           exact ⟨rfl,rfl⟩
         · have c' : decide (48 <= n) = false:=by simpa using c
           clear h1 h2
           go_enter Tryz.func209,Tryz.ntmps209
           go_wp2
           go_ret
           exact ⟨rfl,rfl⟩
set_option maxHeartbeats 1000000 in
theorem isName_any (s : ByteArray) (w : World) (hs : M.Short s.size) : Calls Tryz.prog 198 #[.string s] w fun e w'=>e = .returned (.bool (M.nameB s)) /\ w = w':=by
 unfold M.Short at hs
 have hml : s.size <= maxLen:=by unfold maxLen;omega
 by_cases h1 : 1 <= s.size
 · by_cases h2 : s.size <= 12
   · have d1 : ¬ (s.size : Int) < 1:=by omega
     have d2 : ¬ 12 < (s.size : Int):=by omega
     go_enter Tryz.func198,Tryz.ntmps198
     go_wp2
     go_loop [14] (fun i=>∃ k : Nat,k <= s.size /\ i = .int .i64 k /\ ∀ j (hj : j < s.size),j < k -> M.signB s[j].toNat = true) (fun i=>s.size - (intOf i).toNat)
     case atStart=>exact ⟨0,by omega,rfl,fun j _ h=>by omega⟩
     case round =>
      obtain ⟨k,hk,rfl,hall⟩:=hrel
      have HA:=hideC hall
      clear hall
      by_cases hlt : k < s.size
      · cases hc : M.signB s[k].toNat
        · have HR:=hideC (M.name_no s k hlt hc)
          go_wp2_with (go_at_call 209;refine (inName_any _ _).mono ?_;rintro e w' ⟨rfl,rfl⟩;rw [hc])
          go_ret
          exact ⟨ret_bool HR.out.symm,rfl⟩
        · have HC:=hideC hc
          go_wp2_with (go_at_call 209;refine (inName_any _ _).mono ?_;rintro e w' ⟨rfl,rfl⟩;rw [hc])
          go_round
          case rel=>exact ⟨k + 1,by omega,by go_num,fun j hj h=>if e : j = k then by subst e;exact HC.out else HA.out j hj (by omega)⟩
          case measure=>simp [intOf];omega
      · obtain rfl : k = s.size:=by omega
        have HR:=hideC (M.name_yes s h1 h2 (fun k hk=>HA.out k hk hk))
        go_wp2
        go_ret
        exact ⟨ret_bool HR.out.symm,rfl⟩
   · have HR:=hideC (M.name_len s (fun h=>h2 h.2))
     have d1 : ¬ (s.size : Int) < 1:=by omega
     have d2 : 12 < (s.size : Int):=by omega
     go_enter Tryz.func198,Tryz.ntmps198
     go_wp2
     go_ret
     exact ⟨ret_bool HR.out.symm,rfl⟩
 · have HR:=hideC (M.name_len s (fun h=>h1 h.1))
   have d1 : (s.size : Int) < 1:=by omega
   go_enter Tryz.func198,Tryz.ntmps198
   go_wp2
   go_ret
   exact ⟨ret_bool HR.out.symm,rfl⟩
end W
end Go.Proofs.YtpgifpeohlllfaaGreat
