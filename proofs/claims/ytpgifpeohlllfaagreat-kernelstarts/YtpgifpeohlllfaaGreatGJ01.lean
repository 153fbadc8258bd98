import Derived.Test.YtpgifpeohlllfaaGreatGJ00
import Derived.Deep.WholeRow
import Derived.Laws.CopyOwn
import Derived.OwnWalk
set_option maxHeartbeats 20000000
set_option linter.unusedVariables false
set_option maxRecDepth 100000
set_option linter.unusedSimpArgs false
namespace Go.Proofs.YtpgifpeohlllfaaGreat
namespace AW
open Go.RowKit
theorem ret_int {k : IntKind} {a b : Int} (h : a = b) : Ending.returned (.int k a) = .returned (.int k b):=by rw [h]
set_option maxHeartbeats 1000000 in
theorem check_some (l : List AM.Ar) (b off cap : Nat) (w : World) (hl : AM.Lie w b off l) (hf : ∀ i,i < l.length -> AM.Fits (AM.at_ l i)) (hn : l.length <= 140737488351232) :
  Calls Tryz.prog 98 #[.slice (some ⟨b,off,none⟩) l.length cap] w fun e w'=>e = .returned (.int .i64 (AM.checkN l)) /\ Below w.heap.size w w':=by
 by_cases hm : 255 < l.length
 · have e : AM.checkN l = 2:=by simp [AM.checkN,hm]
   rw [e]
   have hm' : (255 : Int) < (l.length : Int):=by omega
   go_enter Tryz.func98,Tryz.ntmps98
   go_wp2
   go_ret
   exact ⟨rfl,Below.refl _ _⟩
 · have hm' : ¬ (255 : Int) < (l.length : Int):=by omega
   have e : AM.checkN l = if AM.good l then 0 else 1:=by simp [AM.checkN,hm]
   have E : Hid (AM.checkN l = if AM.good l then 0 else 1):=e
   clear e
   go_enter Tryz.func98,Tryz.ntmps98
   go_wp2
   go_loopw [10] (fun i wr=>∃ k : Nat,k <= l.length /\ i = .int .i64 k /\ AM.goodTo l k = true /\ Below w.heap.size w wr) (fun i _=>l.length - (intOf i).toNat)
   case atStart=>exact ⟨0,by omega,rfl,rfl,Below.refl _ _⟩
   case round =>
    obtain ⟨k,hk,rfl,hg,hb⟩:=hrel
    have HG : Hid (AM.goodTo l k = true):=hg
    clear hg
    by_cases hlt : k < l.length
    · obtain ⟨c0,c1,c2,c3⟩:=(hl.below hb) k hlt
      obtain ⟨f1,f2,f3⟩:=hf k hlt
      obtain ⟨a,ha⟩ : ∃ a,a = AM.at_ l k:=⟨_,rfl⟩
      rw [<- ha] at c0 c1 c2 c3 f1 f2 f3
      have HA : Hid (a = AM.at_ l k):=ha
      clear ha
      by_cases hp : AM.pagesB a.page a.pages = true
      · by_cases hq : AM.protB a.prot = true
        · obtain ⟨W,hW⟩ : ∃ W,W = wr.alloc (.cells #[.int .i64 a.page,.int .i64 a.pages,.int .i64 a.prot,.bool a.zero] 47):=⟨_,rfl⟩
          have hs : W.heap.size = wr.heap.size + 1:=by rw [hW];simp
          have hbW : Hid (Below w.heap.size w W):=by show Below _ _ _;rw [hW];exact hb.alloc hb.size _
          by_cases hk0 : k = 0
          · have hok : Hid (AM.okAt l k = true):=by show _ = true;unfold AM.okAt;rw [<- HA.out,hp,hq,hk0];rfl
            have z1 : decide ((0 : Int) < (k : Int)) = false:=by simp;omega
            have z2 : decide (0 < k) = false:=by simp;omega
            clear hk0
            go_wp2_with (first | (go_at_call 143;refine (rightPages_any _ _ _ f1 f2).mono ?_;rintro e w' ⟨rfl,rfl⟩) | (go_at_call 144;refine (rightProt_any _ _).mono ?_;rintro e w' ⟨rfl,rfl⟩))
            go_quiet (fail)
            go_wp2
            go_roundw
            case rel=>exact ⟨k + 1,by omega,by go_num,AM.ok_step l k HG.out hok.out,below_drewN (hb.alloc hb.size _) _⟩
            case measure=>simp [intOf];omega
          · have hkin:=Q.kin_some W
            have hkc:=@Q.cell_kin W
            have hlW:=hl.below hbW.out
            have hbl:=hlW.lt k hlt
            obtain ⟨g0,g1,g2,g3⟩:=hlW (k - 1) (by omega)
            obtain ⟨fp1,fp2,fp3⟩:=hf (k - 1) (by omega)
            obtain ⟨p,hpd⟩ : ∃ p,p = AM.at_ l (k - 1):=⟨_,rfl⟩
            rw [<- hpd] at g0 g1 g2 g3 fp1 fp2 fp3
            have hprev:=AM.goodTo_ok l k HG.out (k - 1) (by omega)
            have hps : AM.pagesB p.page p.pages = true:=by
             unfold AM.okAt at hprev
             rw [<- hpd] at hprev
             simp only [Bool.and_eq_true] at hprev
             exact hprev.1.1
            have hpb : 1 <= p.page /\ 1 <= p.pages /\ p.pages <= 256 - p.page:=by simpa [AM.pagesB] using hps
            have hok : Hid (AM.okAt l k = AM.followB p a):=by show _ = _;unfold AM.okAt;rw [<- HA.out,<- hpd,hp,hq];simp [hk0]
            have k0 : ∀ x : Q.Kin W.heap.size W,x.world.cell? ⟨b,off + (k - 1) * 4,none⟩ = some (.int .i64 p.page):=fun x=>by rw [hkc x _ _ hbl,g0]
            have k1 : ∀ x : Q.Kin W.heap.size W,x.world.cell? ⟨b,off + (k - 1) * 4 + 1,none⟩ = some (.int .i64 p.pages):=fun x=>by rw [hkc x _ _ hbl,g1]
            have k2 : ∀ x : Q.Kin W.heap.size W,x.world.cell? ⟨b,off + (k - 1) * 4 + 2,none⟩ = some (.int .i64 p.prot):=fun x=>by rw [hkc x _ _ hbl,g2]
            have k3 : ∀ x : Q.Kin W.heap.size W,x.world.cell? ⟨b,off + (k - 1) * 4 + 3,none⟩ = some (.bool p.zero):=fun x=>by rw [hkc x _ _ hbl,g3]
            have e0 : ∀ x : Q.Kin W.heap.size W,x.world.cell? ⟨wr.heap.size,0,none⟩ = some (.int .i64 a.page):=fun x=>by rw [hkc x _ _ (by omega),hW];simp
            have e1 : ∀ x : Q.Kin W.heap.size W,x.world.cell? ⟨wr.heap.size,1,none⟩ = some (.int .i64 a.pages):=fun x=>by rw [hkc x _ _ (by omega),hW];simp
            have e2 : ∀ x : Q.Kin W.heap.size W,x.world.cell? ⟨wr.heap.size,2,none⟩ = some (.int .i64 a.prot):=fun x=>by rw [hkc x _ _ (by omega),hW];simp
            have e3 : ∀ x : Q.Kin W.heap.size W,x.world.cell? ⟨wr.heap.size,3,none⟩ = some (.bool a.zero):=fun x=>by rw [hkc x _ _ (by omega),hW];simp
            have HW : Hid (W = wr.alloc (.cells #[.int .i64 a.page,.int .i64 a.pages,.int .i64 a.prot,.bool a.zero] 47)):=hW
            have hk1 : (1 : Int) <= (k : Int):=by omega
            have hk2 : 0 < k:=by omega
            have hk3 : (0 : Int) < (k : Int):=by omega
            clear hW hs hkc hlW hbl g0 g1 g2 g3 hpd hprev hps hl
            by_cases hfo : AM.followB p a = true
            · go_wp2_with (first | (go_at_call 143;refine (rightPages_any _ _ _ f1 f2).mono ?_;rintro e w' ⟨rfl,rfl⟩) | (go_at_call 144;refine (rightProt_any _ _).mono ?_;rintro e w' ⟨rfl,rfl⟩))
              rw [<- HW.out]
              refine Q.region_kin (by kernel_rfl) (by kernel_rfl) ?_
              repeat (first | go_big_quiet_step ((go_at_call 145;exact Q.calls_kin (fun W=>mayFollow_any p a W (by omega) (by omega)) _)) | quiet_step ((go_at_call 145;exact Q.calls_kin (fun W=>mayFollow_any p a W (by omega) (by omega)) _)))
              refine wpQuiet_nil ?_
              intro _ hw'
              obtain ⟨x,hw''⟩:=hw'
              subst hw''
              go_wp2
              go_roundw
              case rel=>exact ⟨k + 1,by omega,by go_num,AM.ok_step l k HG.out (hok.out.trans hfo),hbW.out.trans (x.keeps.mono hbW.out.size)⟩
              case measure=>simp [intOf];omega
            · have hfo' : AM.followB p a = false:=by simpa using hfo
              clear hfo
              go_wp2_with (first | (go_at_call 143;refine (rightPages_any _ _ _ f1 f2).mono ?_;rintro e w' ⟨rfl,rfl⟩) | (go_at_call 144;refine (rightProt_any _ _).mono ?_;rintro e w' ⟨rfl,rfl⟩))
              rw [<- HW.out]
              refine Q.region_kin (by kernel_rfl) (by kernel_rfl) ?_
              repeat (first | go_big_quiet_step ((go_at_call 145;exact Q.calls_kin (fun W=>mayFollow_any p a W (by omega) (by omega)) _)) | quiet_step ((go_at_call 145;exact Q.calls_kin (fun W=>mayFollow_any p a W (by omega) (by omega)) _)))
              refine wpQuiet_nil ?_
              intro _ hw'
              obtain ⟨x,hw''⟩:=hw'
              subst hw''
              go_wp2
              go_ret
              exact ⟨ret_int (by rw [E.out,AM.bad_at l k hlt (hok.out.trans hfo')];rfl),hbW.out.trans (x.keeps.mono hbW.out.size)⟩
        · have hq' : AM.protB a.prot = false:=by simpa using hq
          clear hq
          have hbad : Hid (AM.okAt l k = false):=by show _ = false;unfold AM.okAt;rw [<- HA.out,hp,hq'];rfl
          go_wp2_with (first | (go_at_call 143;refine (rightPages_any _ _ _ f1 f2).mono ?_;rintro e w' ⟨rfl,rfl⟩) | (go_at_call 144;refine (rightProt_any _ _).mono ?_;rintro e w' ⟨rfl,rfl⟩))
          go_ret
          exact ⟨ret_int (by rw [E.out,AM.bad_at l k hlt hbad.out];rfl),hb.alloc hb.size _⟩
      · have hp' : AM.pagesB a.page a.pages = false:=by simpa using hp
        clear hp
        have hbad : Hid (AM.okAt l k = false):=by show _ = false;unfold AM.okAt;rw [<- HA.out,hp'];rfl
        go_wp2_with (first | (go_at_call 143;refine (rightPages_any _ _ _ f1 f2).mono ?_;rintro e w' ⟨rfl,rfl⟩))
        go_ret
        exact ⟨ret_int (by rw [E.out,AM.bad_at l k hlt hbad.out];rfl),hb.alloc hb.size _⟩
    · obtain rfl : k = l.length:=by omega
      go_wp2
      go_ret
      exact ⟨ret_int (by rw [E.out,show AM.good l = true from HG.out];rfl),hb⟩
theorem check_nil (ao : Option Addr) (cap : Nat) (w : World) :
  Calls Tryz.prog 98 #[.slice ao 0 cap] w fun e w'=>e = .returned (.int .i64 (AM.checkN [])) /\ Below w.heap.size w w':=by
 have e : AM.checkN [] = 0:=by decide
 rw [e]
 go_enter Tryz.func98,Tryz.ntmps98
 go_wp2
 refine wp_loop_rounds 1 ?_
 rw [rounds_succ]
 go_wp2
 go_ret
 exact ⟨rfl,Below.refl _ _⟩
set_option maxHeartbeats 1000000 in
theorem total_some (l : List AM.Ar) (b off cap : Nat) (w : World) (hl : AM.Lie w b off l) (hf : ∀ i,i < l.length -> AM.Fits (AM.at_ l i)) (hn : l.length <= 140737488351232) :
  Calls Tryz.prog 54 #[.slice (some ⟨b,off,none⟩) l.length cap] w fun e w'=>e = .returned (.int .i64 (AM.totalN l)) /\ Below w.heap.size w w':=by
 by_cases hc : AM.checkN l = 0
 · have hlen:=AM.good_len l hc
   have HC : Hid (AM.totalN l = AM.sumTo l l.length):=by show _ = _;simp [AM.totalN,hc]
   have HK : Hid (AM.checkN l = 0):=hc
   go_enter Tryz.func54,Tryz.ntmps54
   go_wp2_with fail
   refine (check_some l b off cap _ hl hf hn).mono ?_
   rintro e w1 ⟨rfl,hb1⟩
   rw [hc]
   clear hc
   go_wp2
   go_loopw [3,11] (fun s i wr=>∃ k : Nat,k <= l.length /\ i = .int .i64 k /\ s = .int .i64 (AM.sumTo l k) /\ Below w.heap.size w wr) (fun _ i _=>l.length - (intOf i).toNat)
   case atStart=>exact ⟨0,by omega,rfl,rfl,hb1⟩
   case round =>
    obtain ⟨k,hk,rfl,rfl,hb⟩:=hrel
    have hbd:=AM.sumTo_bd l HK.out k hk
    by_cases hlt : k < l.length
    · obtain ⟨c0,c1,c2,c3⟩:=(hl.below hb) k hlt
      have hsu : Hid (AM.sumTo l (k + 1) = AM.sumTo l k + (AM.at_ l k).pages):=rfl
      have hbk:=AM.okAt_pages l k (AM.good_pages l HK.out k hlt)
      obtain ⟨a,ha⟩ : ∃ a,a = AM.at_ l k:=⟨_,rfl⟩
      rw [<- ha] at c0 c1 c2 c3 hsu hbk
      clear ha
      go_wp2
      go_roundw
      case rel=>exact ⟨k + 1,by omega,by go_num,by rw [hsu.out],hb.alloc hb.size _⟩
      case measure=>simp [intOf];omega
    · obtain rfl : k = l.length:=by omega
      go_wp2
      go_ret
      exact ⟨ret_int HC.out.symm,hb⟩
 · have HC : Hid (AM.totalN l = 0):=by show _ = _;simp [AM.totalN,hc]
   have hc' : (AM.checkN l != 0) = true:=by simpa using hc
   go_enter Tryz.func54,Tryz.ntmps54
   go_wp2_with fail
   refine (check_some l b off cap _ hl hf hn).mono ?_
   rintro e w1 ⟨rfl,hb1⟩
   go_wp2
   go_ret
   exact ⟨ret_int HC.out.symm,hb1⟩
theorem total_nil (ao : Option Addr) (cap : Nat) (w : World) :
  Calls Tryz.prog 54 #[.slice ao 0 cap] w fun e w'=>e = .returned (.int .i64 (AM.totalN [])) /\ Below w.heap.size w w':=by
 have e : AM.totalN [] = 0:=by decide
 have e2 : AM.checkN [] = 0:=by decide
 rw [e]
 go_enter Tryz.func54,Tryz.ntmps54
 go_wp2_with fail
 refine (check_nil ao cap _).mono ?_
 rintro e w1 ⟨rfl,hb1⟩
 rw [e2]
 go_wp2
 refine wp_loop_rounds 1 ?_
 rw [rounds_succ]
 go_wp2
 go_ret
 exact ⟨rfl,hb1⟩
def cellsOf (a : AM.Ar) : Array Value:=#[.int .i64 a.page,.int .i64 a.pages,.int .i64 a.prot,.bool a.zero]
set_option maxHeartbeats 2000000 in
theorem find_some (l : List AM.Ar) (b off cap : Nat) (p : Int) (w : World) (hl : AM.Lie w b off l) (hf : ∀ i,i < l.length -> AM.Fits (AM.at_ l i)) (hn : l.length <= 140737488351232) :
  Calls Tryz.prog 70 #[.slice (some ⟨b,off,none⟩) l.length cap,.int .i64 p] w fun e w'=>e = .returned (.tuple #[.agg (cellsOf (AM.findN l p).1),.bool (AM.findN l p).2]) /\ Below w.heap.size w w':=by
 have hbz : Below w.heap.size w (w.alloc (.cells #[.int .i64 0,.int .i64 0,.int .i64 0,.bool false] 47)):=(Below.refl _ _).alloc (Nat.le_refl _) _
 by_cases hc : AM.checkN l = 0
 · have hlen:=AM.good_len l hc
   have HC : Hid (AM.findN l p = AM.findFrom l p):=by show _ = _;simp [AM.findN,hc]
   have HK : Hid (AM.checkN l = 0):=hc
   go_enter Tryz.func70,Tryz.ntmps70
   go_wp2_with fail
   refine (check_some l b off cap _ (hl.below hbz) hf hn).mono ?_
   rintro e w1 ⟨rfl,hb1⟩
   rw [hc]
   clear hc
   go_wp2
   go_loopw [14] (fun i wr=>∃ k : Nat,k <= l.length /\ i = .int .i64 k /\ (∀ j,j < k -> AM.hit (AM.at_ l j) p = false) /\ Below (w.heap.size + 1) (w.alloc (.cells #[.int .i64 0,.int .i64 0,.int .i64 0,.bool false] 47)) wr) (fun i _=>l.length - (intOf i).toNat)
   case atStart=>exact ⟨0,by omega,rfl,fun j hj=>by omega,hb1.mono (by simp)⟩
   case round =>
    obtain ⟨k,hk,rfl,hno,hb⟩:=hrel
    have HN : Hid (∀ j,j < k -> AM.hit (AM.at_ l j) p = false):=hno
    have hbw : Hid (Below w.heap.size w wr):=hbz.trans (hb.mono (Nat.le_succ _))
    have hsz : w.heap.size + 1 <= wr.heap.size:=by have:=hb.size;simpa using this
    have hlr:=hl.below hbw.out
    have hR : wr.heap[w.heap.size]? = some (.cells #[.int .i64 0,.int .i64 0,.int .i64 0,.bool false] 47 (0,0)):=B.below (B.new w _ _) hb (Nat.lt_succ_self _)
    have HR : Hid (wr.heap[w.heap.size]? = some (.cells #[.int .i64 0,.int .i64 0,.int .i64 0,.bool false] 47 (0,0))):=hR
    have HB : Hid (Below (w.heap.size + 1) (w.alloc (.cells #[.int .i64 0,.int .i64 0,.int .i64 0,.bool false] 47)) wr):=hb
    clear hR hb
    clear hno hb1
    by_cases hlt : k < l.length
    · obtain ⟨c0,c1,c2,c3⟩:=hlr k hlt
      have hbk:=AM.okAt_pages l k (AM.good_pages l HK.out k hlt)
      obtain ⟨a,ha⟩ : ∃ a,a = AM.at_ l k:=⟨_,rfl⟩
      rw [<- ha] at c0 c1 c2 c3 hbk
      have HA : Hid (a = AM.at_ l k):=ha
      clear ha
      by_cases h1 : a.page <= p
      · by_cases h2 : p < a.page + a.pages
        · have hres : Hid (AM.findN l p = (a,true)):=by
           show _ = _
           rw [HC.out,AM.findFrom_at l p k hlt HN.out (by rw [<- HA.out];simp [AM.hit,AM.Ar.last0,h1,h2]),<- HA.out]
          go_wp2_with fail
          refine (end_any _ _ _ _ _ (by omega) (by omega)).mono ?_
          rintro e w2 ⟨rfl,hb2⟩
          have hA2:=B.below (B.new wr #[.int .i64 a.page,.int .i64 a.pages,.int .i64 a.prot,.bool a.zero] 47) hb2 (by simp)
          have hR2:=B.below (B.alloc HR.out _) hb2 (by simp;omega)
          have s0:=B.cell hA2 0 rfl
          have s1:=B.cell hA2 1 rfl
          have s2:=B.cell hA2 2 rfl
          have s3:=B.cell hA2 3 rfl
          have t0:=B.cell hR2 0 rfl
          have t1:=B.cell hR2 1 rfl
          have t2:=B.cell hR2 2 rfl
          have t3:=B.cell hR2 3 rfl
          have u0:=B.free hR2
          have hbe : Hid (Below w.heap.size w w2):=(hbw.out.alloc hbw.out.size _).trans (hb2.mono (by simp;omega))
          have hsz2 : wr.heap.size + 1 <= w2.heap.size:=by have:=hb2.size;simpa using this
          clear hb2 hA2 hR2
          go_wp2
          exact bodyPost_ret (v:=.tuple #[.agg #[.int .i64 a.page,.int .i64 a.pages,.int .i64 a.prot,.bool a.zero],.bool true]) (by simp [results,Tryz.results70,go_sem,t0,t1,t2,t3]) rfl ⟨by rw [hres.out];rfl,(((hbe.out.setCell (Nat.le_refl _) _).setCell (Nat.le_refl _) _).setCell (Nat.le_refl _) _).setCell (Nat.le_refl _) _⟩
        · have hmiss : Hid (AM.hit (AM.at_ l k) p = false):=by show _ = _;rw [<- HA.out];unfold AM.hit AM.Ar.last0;exact decide_eq_false (by omega)
          go_wp2_with fail
          refine (end_any _ _ _ _ _ (by omega) (by omega)).mono ?_
          rintro e w2 ⟨rfl,hb2⟩
          have hbe : Hid (Below (w.heap.size + 1) (w.alloc (.cells #[.int .i64 0,.int .i64 0,.int .i64 0,.bool false] 47)) w2):=(HB.out.alloc (by omega) _).trans (hb2.mono (by simp;omega))
          clear hb2
          go_wp2
          go_roundw
          case rel=>exact ⟨k + 1,by omega,by go_num,fun j hj=>if e : j = k then by rw [e];exact hmiss.out else HN.out j (by omega),hbe.out⟩
          case measure=>simp [intOf];omega
      · have hmiss : Hid (AM.hit (AM.at_ l k) p = false):=by show _ = _;rw [<- HA.out];unfold AM.hit AM.Ar.last0;exact decide_eq_false (by omega)
        have d1 : decide (a.page <= p) = false:=by simp;omega
        go_wp2
        go_roundw
        case rel=>exact ⟨k + 1,by omega,by go_num,fun j hj=>if e : j = k then by rw [e];exact hmiss.out else HN.out j (by omega),HB.out.alloc (by omega) _⟩
        case measure=>simp [intOf];omega
    · obtain rfl : k = l.length:=by omega
      have hres : Hid (AM.findN l p = (AM.nil,false)):=by show _ = _;rw [HC.out,AM.findFrom_none l p HN.out]
      have t0:=B.cell HR.out 0 rfl
      have t1:=B.cell HR.out 1 rfl
      have t2:=B.cell HR.out 2 rfl
      have t3:=B.cell HR.out 3 rfl
      have u0:=B.free HR.out
      go_wp2
      exact bodyPost_ret (v:=.tuple #[.agg #[.int .i64 0,.int .i64 0,.int .i64 0,.bool false],.bool false]) (by simp [results,Tryz.results70,go_sem,t0,t1,t2,t3]) rfl ⟨by rw [hres.out];rfl,(((hbw.out.setCell (Nat.le_refl _) _).setCell (Nat.le_refl _) _).setCell (Nat.le_refl _) _).setCell (Nat.le_refl _) _⟩
 · have HC : Hid (AM.findN l p = (AM.nil,false)):=by show _ = _;simp [AM.findN,hc]
   have hc' : (AM.checkN l != 0) = true:=by simpa using hc
   go_enter Tryz.func70,Tryz.ntmps70
   go_wp2_with fail
   refine (check_some l b off cap _ (hl.below hbz) hf hn).mono ?_
   rintro e w1 ⟨rfl,hb1⟩
   have hR1:=B.below (B.new w #[.int .i64 0,.int .i64 0,.int .i64 0,.bool false] 47) hb1 (by simp)
   have t0:=B.cell hR1 0 rfl
   have t1:=B.cell hR1 1 rfl
   have t2:=B.cell hR1 2 rfl
   have t3:=B.cell hR1 3 rfl
   have u0:=B.free hR1
   clear hR1
   go_wp2
   exact bodyPost_ret (v:=.tuple #[.agg #[.int .i64 0,.int .i64 0,.int .i64 0,.bool false],.bool false]) (by simp [results,Tryz.results70,go_sem,t0,t1,t2,t3]) rfl ⟨by rw [HC.out];rfl,((((hbz.trans (hb1.mono (by simp))).setCell (Nat.le_refl _) _).setCell (Nat.le_refl _) _).setCell (Nat.le_refl _) _).setCell (Nat.le_refl _) _⟩
theorem find_nil (ao : Option Addr) (cap : Nat) (p : Int) (w : World) :
  Calls Tryz.prog 70 #[.slice ao 0 cap,.int .i64 p] w fun e w'=>e = .returned (.tuple #[.agg (cellsOf (AM.findN [] p).1),.bool (AM.findN [] p).2]) /\ Below w.heap.size w w':=by
 have hbz : Below w.heap.size w (w.alloc (.cells #[.int .i64 0,.int .i64 0,.int .i64 0,.bool false] 47)):=(Below.refl _ _).alloc (Nat.le_refl _) _
 have e2 : AM.checkN [] = 0:=by decide
 go_enter Tryz.func70,Tryz.ntmps70
 go_wp2_with fail
 refine (check_nil ao cap _).mono ?_
 rintro e w1 ⟨rfl,hb1⟩
 rw [e2]
 have hR1:=B.below (B.new w #[.int .i64 0,.int .i64 0,.int .i64 0,.bool false] 47) hb1 (by simp)
 have t0:=B.cell hR1 0 rfl
 have t1:=B.cell hR1 1 rfl
 have t2:=B.cell hR1 2 rfl
 have t3:=B.cell hR1 3 rfl
 have u0:=B.free hR1
 clear hR1
 go_wp2
 refine wp_loop_rounds 1 ?_
 rw [rounds_succ]
 go_wp2
 exact bodyPost_ret (v:=.tuple #[.agg #[.int .i64 0,.int .i64 0,.int .i64 0,.bool false],.bool false]) (by simp [results,Tryz.results70,go_sem,t0,t1,t2,t3]) rfl ⟨rfl,((((hbz.trans (hb1.mono (by simp))).setCell (Nat.le_refl _) _).setCell (Nat.le_refl _) _).setCell (Nat.le_refl _) _).setCell (Nat.le_refl _) _⟩
end AW
namespace AM
open Go.RowKit
structure St where
 m : Bool
 p : Int
 z : Bool
def off : St:=⟨false,0,false⟩
def three (s : St) : List Value:=[.bool s.m,.int .i64 s.p,.bool s.z]
def rows (F : Nat -> St) : Nat -> List Value
 | 0=>[]
 | m + 1=>rows F m ++ three (F m)
def cellsL (F : Nat -> St) : Array Value:=(rows F 256).toArray
def upd (F : Nat -> St) (n : Nat) (s : St) : Nat -> St:=fun k=>if k = n then s else F k
theorem rows_length (F : Nat -> St) : ∀ m,(rows F m).length = m * 3
 | 0=>rfl
 | m + 1=>by simp [rows,rows_length F m,three];omega
theorem cellsL_size (F : Nat -> St) : (cellsL F).size = 768:=by simp [cellsL,rows_length]
theorem rows_get (F : Nat -> St) (n j : Nat) (hj : j < 3) : ∀ m,n < m -> (rows F m)[n * 3 + j]? = (three (F n))[j]?
 | 0,h=>by omega
 | m + 1,h=>by
  simp only [rows]
  by_cases e : n = m
  · subst e
    rw [List.getElem?_append_right (by rw [rows_length];omega),rows_length,show n * 3 + j - n * 3 = j from by omega]
  · rw [List.getElem?_append_left (by rw [rows_length];omega)]
    exact rows_get F n j hj m (by omega)
theorem cellsL_get (F : Nat -> St) (n j : Nat) (hn : n < 256) (hj : j < 3) : (cellsL F)[n * 3 + j]? = (three (F n))[j]?:=by
 unfold cellsL
 rw [List.getElem?_toArray]
 exact rows_get F n j hj 256 hn
theorem cellsL_get0 (F : Nat -> St) (n : Nat) (hn : n < 256) : (cellsL F)[n * 3]? = some (.bool (F n).m):=cellsL_get F n 0 hn (by omega)
theorem cellsL_get1 (F : Nat -> St) (n : Nat) (hn : n < 256) : (cellsL F)[n * 3 + 1]? = some (.int .i64 (F n).p):=cellsL_get F n 1 hn (by omega)
theorem cellsL_get2 (F : Nat -> St) (n : Nat) (hn : n < 256) : (cellsL F)[n * 3 + 2]? = some (.bool (F n).z):=cellsL_get F n 2 hn (by omega)
theorem rows_congr (F G : Nat -> St) : ∀ m,(∀ k,k < m -> F k = G k) -> rows F m = rows G m
 | 0,_=>rfl
 | m + 1,h=>by simp only [rows];rw [rows_congr F G m (fun k hk=>h k (by omega)),h m (by omega)]
theorem rows_set (F : Nat -> St) (n : Nat) (s : St) : ∀ m,n < m -> (((rows F m).set (n * 3) (.bool s.m)).set (n * 3 + 1) (.int .i64 s.p)).set (n * 3 + 2) (.bool s.z) = rows (upd F n s) m
 | 0,h=>by omega
 | m + 1,h=>by
  simp only [rows]
  by_cases e : n = m
  · subst e
    rw [List.set_append_right _ _ (by rw [rows_length];omega),List.set_append_right _ _ (by rw [rows_length];omega),List.set_append_right _ _ (by rw [rows_length];omega),rows_length,
     show n * 3 - n * 3 = 0 from by omega,show n * 3 + 1 - n * 3 = 1 from by omega,show n * 3 + 2 - n * 3 = 2 from by omega]
    rw [rows_congr (upd F n s) F n (fun k hk=>by simp [upd];omega)]
    simp [three,upd]
  · rw [List.set_append_left _ _ (by rw [rows_length];omega),List.set_append_left _ _ (by rw [List.length_set,rows_length];omega),List.set_append_left _ _ (by rw [List.length_set,List.length_set,rows_length];omega),rows_set F n s m (by omega)]
    congr 2
    simp [upd];intro h';exact absurd h'.symm e
theorem cellsL_set (F : Nat -> St) (n : Nat) (s : St) (hn : n < 256) :
  (((cellsL F).setIfInBounds (n * 3) (.bool s.m)).setIfInBounds (n * 3 + 1) (.int .i64 s.p)).setIfInBounds (n * 3 + 2) (.bool s.z) = cellsL (upd F n s):=by
 unfold cellsL
 rw [<- rows_set F n s 256 hn]
 simp only [List.setIfInBounds_toArray]
theorem rows_one (F : Nat -> St) : ∀ m,∀ v ∈ rows F m,v.oneCell' = true
 | 0,v,h=>by simp [rows] at h
 | m + 1,v,h=>by
  simp only [rows,List.mem_append] at h
  rcases h with h | h
  · exact rows_one F m v h
  · simp only [three,List.mem_cons,List.not_mem_nil,or_false] at h
    rcases h with rfl | rfl | rfl <;> rfl
theorem cellsL_one (F : Nat -> St) : (cellsL F).all (·.oneCell') = true:=by
 rw [Array.all_eq_true_iff_forall_mem]
 intro v hv
 exact rows_one F 256 v (by simpa [cellsL] using hv)
def layTo (F : Nat -> St) (a : Ar) (t : Int) : Nat -> St:=fun n=>if a.page <= (n : Int) /\ (n : Int) < t then ⟨true,a.prot,a.zero⟩ else F n
def spreadTo (l : List Ar) : Nat -> Nat -> St
 | 0=>fun _=>off
 | k + 1=>layTo (spreadTo l k) (at_ l k) (at_ l k).last0
def spreadN (l : List Ar) : Nat -> St:=spreadTo l l.length
theorem layTo_begin (F : Nat -> St) (a : Ar) : layTo F a a.page = F:=by
 funext n;simp only [layTo];rw [if_neg (by omega)]
theorem layTo_step (F : Nat -> St) (a : Ar) (n : Nat) (h : a.page <= (n : Int)) : upd (layTo F a n) n ⟨true,a.prot,a.zero⟩ = layTo F a ((n : Int) + 1):=by
 funext k
 simp only [upd,layTo]
 by_cases e : k = n
 · subst e;rw [if_pos rfl,if_pos ⟨h,by omega⟩]
 · rw [if_neg e]
   by_cases c : a.page <= (k : Int) /\ (k : Int) < n
   · rw [if_pos c,if_pos ⟨c.1,by omega⟩]
   · rw [if_neg c,if_neg (by omega)]
end AM
namespace AW
open Go.RowKit
theorem zero56 : (Tryz.prog.info? 215).map (fun i=>(i.zero,i.size)) = some (some (.agg (AM.cellsL (fun _=>AM.off))),768):=by kernel_rfl
theorem size56 : (Tryz.prog.info? 215).map (·.size) = some 768:=(zero_of_info zero56).2
theorem zv56 (w : World) : (zeroValue 215).run Tryz.prog w = .ok (.agg (AM.cellsL (fun _=>AM.off))) w:=(zero_of_info zero56).1 w
set_option maxHeartbeats 2000000 in
theorem spread_some (l : List AM.Ar) (b off cap : Nat) (w : World) (hl : AM.Lie w b off l) (hc : AM.checkN l = 0) :
  Calls Tryz.prog 156 #[.slice (some ⟨b,off,none⟩) l.length cap] w fun e w'=>e = .returned (.agg (AM.cellsL (AM.spreadN l))) /\ Below w.heap.size w w':=by
 have hlen:=AM.good_len l hc
 have HK : Hid (AM.checkN l = 0):=hc
 clear hc
 obtain ⟨Z,hZ⟩ : ∃ Z,Z = AM.cellsL (fun _=>AM.off):=⟨_,rfl⟩
 have hz:=zv56
 rw [<- hZ] at hz
 have HZ : Hid (Z = AM.cellsL (fun _=>AM.off)):=hZ
 clear hZ
 go_enter Tryz.func156,Tryz.ntmps156
 go_wp2
 go_loopw [9] (fun i wr=>∃ k : Nat,k <= l.length /\ i = .int .i64 k /\ wr.heap[w.heap.size]? = some (.cells Z 215 (0,0)) /\ wr.heap[w.heap.size + 1]? = some (.cells (AM.cellsL (AM.spreadTo l k)) 215 (0,0)) /\ Below w.heap.size w wr) (fun i _=>l.length - (intOf i).toNat)
 case atStart =>
  refine ⟨0,by omega,rfl,B.alloc (B.new w Z 215) _,?_,((Below.refl _ _).alloc (Nat.le_refl _) _).alloc (by simp) _⟩
  show _ = some (Obj.cells (AM.cellsL (fun _=>AM.off)) 215 (0,0))
  rw [<- HZ.out]
  have:=B.new (w.alloc (.cells Z 215)) Z 215
  simpa using this
 case round =>
  obtain ⟨k,hk,rfl,hR,hA,hb⟩:=hrel
  have HR : Hid (wr.heap[w.heap.size]? = some (.cells Z 215 (0,0))):=hR
  have HA : Hid (wr.heap[w.heap.size + 1]? = some (.cells (AM.cellsL (AM.spreadTo l k)) 215 (0,0))):=hA
  have HB : Hid (Below w.heap.size w wr):=hb
  have hsz : w.heap.size + 2 <= wr.heap.size:=B.isLt hA
  by_cases hlt : k < l.length
  · obtain ⟨c0,c1,c2,c3⟩:=hl.below hb k hlt
    have hbk:=AM.okAt_pages l k (AM.good_pages l HK.out k hlt)
    obtain ⟨a,ha⟩ : ∃ a,a = AM.at_ l k:=⟨_,rfl⟩
    rw [<- ha] at c0 c1 c2 c3 hbk
    have HAr : Hid (a = AM.at_ l k):=ha
    clear ha hR hA hb
    obtain ⟨wo,hwo⟩ : ∃ wo : World,wo = wr:=⟨_,rfl⟩
    subst hwo
    have hcx : (k : Int) < (l.length : Int):=by omega
    go_wp2
    go_loopw [6] (fun t wi=>∃ n : Nat,a.page <= (n : Int) /\ (n : Int) <= a.page + a.pages /\ t = .int .i64 n /\ wi.heap[w.heap.size]? = some (.cells Z 215 (0,0)) /\ wi.heap[w.heap.size + 1]? = some (.cells (AM.cellsL (AM.layTo (AM.spreadTo l k) a n)) 215 (0,0)) /\ wi.heap[wo.heap.size]? = some (.cells #[.int .i64 a.page,.int .i64 a.pages,.int .i64 a.prot,.bool a.zero] 47 (0,0)) /\ Below w.heap.size w wi) (fun t _=>(a.page + a.pages - intOf t).toNat)
    case atStart =>
     refine ⟨a.page.toNat,by omega,by omega,by rw [Int.toNat_of_nonneg (by omega)],B.alloc HR.out _,?_,B.new _ _ _,HB.out.alloc HB.out.size _⟩
     rw [Int.toNat_of_nonneg (by omega),AM.layTo_begin]
     exact B.alloc HA.out _
    case round =>
     obtain ⟨n,hn1,hn2,rfl,iR,iA,iX,ib⟩:=hrel
     have IR : Hid (wr.heap[w.heap.size]? = some (.cells Z 215 (0,0))):=iR
     have IA : Hid (wr.heap[w.heap.size + 1]? = some (.cells (AM.cellsL (AM.layTo (AM.spreadTo l k) a n)) 215 (0,0))):=iA
     have IB : Hid (Below w.heap.size w wr):=ib
     have x0:=B.cell iX 0 rfl
     have x1:=B.cell iX 1 rfl
     have x2:=B.cell iX 2 rfl
     have x3:=B.cell iX 3 rfl
     have IX : Hid (wr.heap[wo.heap.size]? = some (.cells #[.int .i64 a.page,.int .i64 a.pages,.int .i64 a.prot,.bool a.zero] 47 (0,0))):=iX
     have hxs : wo.heap.size < wr.heap.size:=B.isLt iX
     clear iR iA iX ib
     by_cases hin : (n : Int) < a.page + a.pages
     · go_wp2_with fail
       refine (end_any _ _ _ _ _ (by omega) (by omega)).mono ?_
       rintro e w2 ⟨rfl,hb2⟩
       have jR:=B.below IR.out hb2 (by omega)
       have jA:=B.below IA.out hb2 (by omega)
       have jX:=B.below IX.out hb2 hxs
       have y0:=B.cell jX 0 rfl
       have y1:=B.cell jX 1 rfl
       have y2:=B.cell jX 2 rfl
       have y3:=B.cell jX 3 rfl
       have z0:=B.cell jA (n * 3) (AM.cellsL_get0 _ n (by omega))
       have z1:=B.cell jA (n * 3 + 1) (AM.cellsL_get1 _ n (by omega))
       have z2:=B.cell jA (n * 3 + 2) (AM.cellsL_get2 _ n (by omega))
       have zf:=B.free jA
       have JR : Hid (w2.heap[w.heap.size]? = some (.cells Z 215 (0,0))):=jR
       have JA : Hid (w2.heap[w.heap.size + 1]? = some (.cells (AM.cellsL (AM.layTo (AM.spreadTo l k) a n)) 215 (0,0))):=jA
       have JX : Hid (w2.heap[wo.heap.size]? = some (.cells #[.int .i64 a.page,.int .i64 a.pages,.int .i64 a.prot,.bool a.zero] 47 (0,0))):=jX
       have JB : Hid (Below w.heap.size w w2):=IB.out.trans (hb2.mono IB.out.size)
       clear jR jA jX hb2 x0 x1 x2 x3
       have hn256 : (n : Int) < 256:=by omega
       go_wp2
       go_roundw
       case rel =>
        refine ⟨n + 1,by omega,by omega,by go_num,B.other (B.other (B.other JR.out _ _ _ (by omega)) _ _ _ (by omega)) _ _ _ (by omega),?_,B.other (B.other (B.other JX.out _ _ _ (by omega)) _ _ _ (by omega)) _ _ _ (by omega),((JB.out.setCell (by simp) _).setCell (by simp) _).setCell (by simp) _⟩
        have h:=B.set (B.set (B.set JA.out (n * 3) (.bool true)) (n * 3 + 1) (.int .i64 a.prot)) (n * 3 + 2) (.bool a.zero)
        rw [AM.cellsL_set (AM.layTo (AM.spreadTo l k) a n) n ⟨true,a.prot,a.zero⟩ (by omega),AM.layTo_step _ _ _ hn1] at h
        rw [show ((n + 1 : Nat) : Int) = (n : Int) + 1 from by omega]
        exact h
       case measure=>simp [intOf];omega
     · have hend : (n : Int) = a.page + a.pages:=by omega
       have HE : Hid ((n : Int) = a.page + a.pages):=hend
       clear hend
       go_wp2_with fail
       refine (end_any _ _ _ _ _ (by omega) (by omega)).mono ?_
       rintro e w2 ⟨rfl,hb2⟩
       have JR : Hid (w2.heap[w.heap.size]? = some (.cells Z 215 (0,0))):=B.below IR.out hb2 (by omega)
       have JA : Hid (w2.heap[w.heap.size + 1]? = some (.cells (AM.cellsL (AM.layTo (AM.spreadTo l k) a n)) 215 (0,0))):=B.below IA.out hb2 (by omega)
       have JB : Hid (Below w.heap.size w w2):=IB.out.trans (hb2.mono IB.out.size)
       clear hb2 x0 x1 x2 x3
       go_wp2
       go_roundw
       case rel =>
        refine ⟨k + 1,by omega,by go_num,JR.out,?_,JB.out⟩
        have h:=JA.out
        rw [HE.out] at h
        show _ = some (Obj.cells (AM.cellsL (AM.layTo (AM.spreadTo l k) (AM.at_ l k) (AM.at_ l k).last0)) 215 (0,0))
        rw [<- HAr.out]
        exact h
       case measure=>simp [intOf];omega
  · obtain rfl : k = l.length:=by omega
    have hZs : Z.size = 768:=by rw [HZ.out];exact AM.cellsL_size _
    clear hR hA hb
    go_wp2_with (first | (refine wpList_load_row rfl 215 _ rfl (w.heap.size + 1) rfl 215 _ (0,0) _ HA.out Tryz.underlying215 rfl (by rw [AM.cellsL_size];exact size56) ?_) | (refine wpList_store_row rfl 215 _ _ rfl w.heap.size _ rfl rfl 215 Z HR.out (by rw [AM.cellsL_size];exact size56) (by rw [hZs,AM.cellsL_size]) (AM.cellsL_one _) ?_))
    exact bodyPost_ret (v:=.agg (AM.cellsL (AM.spreadTo l l.length))) (results_cell_row rfl _ _ w.heap.size 215 _ (0,0) _ rfl (setRow_heap _ _ _ _ 215 (0,0) HR.out) Tryz.underlying215 rfl (by rw [AM.cellsL_size];exact size56)) rfl ⟨rfl,below_setRow HB.out (Nat.le_refl _) _⟩
set_option maxHeartbeats 1000000 in
theorem spread_nil (ao : Option Addr) (cap : Nat) (w : World) :
  Calls Tryz.prog 156 #[.slice ao 0 cap] w fun e w'=>e = .returned (.agg (AM.cellsL (AM.spreadN []))) /\ Below w.heap.size w w':=by
 obtain ⟨Z,hZ⟩ : ∃ Z,Z = AM.cellsL (fun _=>AM.off):=⟨_,rfl⟩
 have hz:=zv56
 rw [<- hZ] at hz
 have hZs : Z.size = 768:=by rw [hZ];exact AM.cellsL_size _
 have HZ : Hid (Z = AM.cellsL (fun _=>AM.off)):=hZ
 clear hZ
 have HR : Hid (((w.alloc (.cells Z 215)).alloc (.cells Z 215)).heap[w.heap.size]? = some (.cells Z 215 (0,0))):=B.alloc (B.new w Z 215) _
 have HA : Hid (((w.alloc (.cells Z 215)).alloc (.cells Z 215)).heap[w.heap.size + 1]? = some (.cells Z 215 (0,0))):=by
  have:=B.new (w.alloc (.cells Z 215)) Z 215
  show _ = _
  simpa using this
 go_enter Tryz.func156,Tryz.ntmps156
 go_wp2
 refine wp_loop_rounds 1 ?_
 rw [rounds_succ]
 go_wp2_with (first | (refine wpList_load_row rfl 215 _ rfl (w.heap.size + 1) rfl 215 _ (0,0) _ HA.out Tryz.underlying215 rfl (by rw [hZs];exact size56) ?_) | (refine wpList_store_row rfl 215 _ _ rfl w.heap.size _ rfl rfl 215 Z HR.out (by rw [hZs];exact size56) rfl (by rw [HZ.out];exact AM.cellsL_one _) ?_))
 exact bodyPost_ret (v:=.agg Z) (results_cell_row rfl _ _ w.heap.size 215 _ (0,0) _ rfl (setRow_heap _ _ _ _ 215 (0,0) HR.out) Tryz.underlying215 rfl (by rw [hZs];exact size56)) rfl ⟨by rw [HZ.out];rfl,below_setRow (((Below.refl _ _).alloc (Nat.le_refl _) _).alloc (by simp) _) (Nat.le_refl _) _⟩
end AW
namespace AM
open Go.RowKit
theorem cellsL_part (F : Nat -> St) (k : Nat) (hk : k < 256) : (cellsL F).extract (k * 3) (k * 3 + 3) = #[.bool (F k).m,.int .i64 (F k).p,.bool (F k).z]:=by
 apply Array.ext_getElem?
 intro j
 have hs:=cellsL_size F
 rw [Array.getElem?_extract,hs]
 match j with
 | 0=>rw [if_pos (by omega)];exact cellsL_get0 F k hk
 | 1=>rw [if_pos (by omega)];exact cellsL_get1 F k hk
 | 2=>rw [if_pos (by omega)];exact cellsL_get2 F k hk
 | j + 3=>rw [if_neg (by omega)];simp
def lastTo (F : Nat -> St) : Nat -> St
 | 0=>off
 | k + 1=>F k
def stEq (a b : St) : Bool:=a.m == b.m && (a.p == b.p && a.z == b.z)
def bump (G : List Ar) : List Ar:=G.set (G.length - 1) ⟨(at_ G (G.length - 1)).page,(at_ G (G.length - 1)).pages + 1,(at_ G (G.length - 1)).prot,(at_ G (G.length - 1)).zero⟩
def gatherTo (F : Nat -> St) : Nat -> List Ar
 | 0=>[]
 | k + 1=>if (F k).m = false then gatherTo F k else if stEq (F k) (lastTo F k) then bump (gatherTo F k) else gatherTo F k ++ [⟨(k : Int),1,(F k).p,(F k).z⟩]
def gatherN (F : Nat -> St) : List Ar:=gatherTo F 256
def four (a : Ar) : List Value:=[.int .i64 a.page,.int .i64 a.pages,.int .i64 a.prot,.bool a.zero]
def areaCells : List Ar -> List Value
 | []=>[]
 | a :: r=>four a ++ areaCells r
theorem areaCells_length : ∀ G : List Ar,(areaCells G).length = G.length * 4
 | []=>rfl
 | a :: r=>by simp [areaCells,four,areaCells_length r];omega
theorem areaCells_append : ∀ G H : List Ar,areaCells (G ++ H) = areaCells G ++ areaCells H
 | [],H=>rfl
 | a :: r,H=>by simp [areaCells,areaCells_append r H]
theorem areaCells_get : ∀ (G : List Ar) (i j : Nat),i < G.length -> j < 4 -> (areaCells G)[i * 4 + j]? = (four (at_ G i))[j]?
 | [],i,j,h,_=>by simp at h
 | a :: r,0,j,h,hj=>by
  simp only [areaCells]
  rw [List.getElem?_append_left (by simp [four];omega)]
  simp [at_]
 | a :: r,i + 1,j,h,hj=>by
  simp only [areaCells]
  rw [List.getElem?_append_right (by simp [four];omega),show (i + 1) * 4 + j - (four a).length = i * 4 + j from by simp [four];omega,areaCells_get r i j (by simpa using h) hj]
  simp [at_]
theorem areaCells_set : ∀ (G : List Ar) (i : Nat) (n : Int),i < G.length -> areaCells (G.set i ⟨(at_ G i).page,n,(at_ G i).prot,(at_ G i).zero⟩) = (areaCells G).set (i * 4 + 1) (.int .i64 n)
 | [],i,n,h=>by simp at h
 | a :: r,0,n,h=>by simp [areaCells,four,at_]
 | a :: r,i + 1,n,h=>by
  simp only [areaCells,List.set_cons_succ]
  rw [List.set_append_right _ _ (by simp [four];omega),show (i + 1) * 4 + 1 - (four a).length = i * 4 + 1 from by simp [four];omega]
  have e:=areaCells_set r i n (by simpa using h)
  rw [<- e]
  simp [at_]
theorem bump_length (G : List Ar) : (bump G).length = G.length:=by simp [bump]
theorem areaCells_one : ∀ (G : List Ar),∀ v ∈ areaCells G,v.oneCell' = true
 | [],v,h=>by simp [areaCells] at h
 | a :: r,v,h=>by
  simp only [areaCells,four,List.cons_append,List.nil_append,List.mem_cons] at h
  rcases h with rfl | rfl | rfl | rfl | h
  · rfl
  · rfl
  · rfl
  · rfl
  · exact areaCells_one r v h
theorem at_append_left (G H : List Ar) (i : Nat) (h : i < G.length) : at_ (G ++ H) i = at_ G i:=by simp [at_,List.getElem?_append_left h]
theorem at_append_last (G : List Ar) (a : Ar) : at_ (G ++ [a]) G.length = a:=by simp [at_]
theorem at_set_same (G : List Ar) (i : Nat) (a : Ar) (h : i < G.length) : at_ (G.set i a) i = a:=by simp [at_,h]
theorem at_set_other (G : List Ar) (i j : Nat) (a : Ar) (h : j ≠ i) : at_ (G.set i a) j = at_ G j:=by simp [at_,List.getElem?_set_ne (Ne.symm h)]
theorem gather_len (F : Nat -> St) : ∀ k,(gatherTo F k).length <= k
 | 0=>by simp [gatherTo]
 | k + 1=>by
  have ih:=gather_len F k
  simp only [gatherTo]
  split
  · omega
  · split
    · rw [bump_length];omega
    · simp;omega
theorem gather_some (F : Nat -> St) : ∀ k,(lastTo F k).m = true -> 0 < (gatherTo F k).length
 | 0,h=>by simp [lastTo,off] at h
 | k + 1,h=>by
  have h' : (F k).m = true:=h
  simp only [gatherTo,h']
  rw [if_neg (by simp)]
  split
  · rename_i he
    have hm : (lastTo F k).m = true:=by
     simp only [stEq,Bool.and_eq_true,beq_iff_eq] at he
     rw [<- he.1];exact h'
    rw [bump_length]
    exact gather_some F k hm
  · simp
theorem gather_pages (F : Nat -> St) : ∀ k,∀ i,i < (gatherTo F k).length -> 1 <= (at_ (gatherTo F k) i).pages /\ (at_ (gatherTo F k) i).pages <= k
 | 0,i,h=>by simp [gatherTo] at h
 | k + 1,i,h=>by
  have ih:=gather_pages F k
  simp only [gatherTo] at h ⊢
  split
  · rename_i hm
    rw [if_pos hm] at h
    have:=ih i h
    omega
  · rename_i hm
    rw [if_neg hm] at h
    split
    · rename_i he
      rw [if_pos he,bump_length] at h
      by_cases e : i = (gatherTo F k).length - 1
      · rw [e,bump,at_set_same _ _ _ (by omega)]
        have:=ih ((gatherTo F k).length - 1) (by omega)
        simp only
        omega
      · rw [bump,at_set_other _ _ _ _ e]
        have:=ih i h
        omega
    · rename_i he
      rw [if_neg he] at h
      by_cases e : i < (gatherTo F k).length
      · rw [at_append_left _ _ _ e]
        have:=ih i e
        omega
      · obtain rfl : i = (gatherTo F k).length:=by simp at h;omega
        rw [at_append_last]
        simp only
        omega
theorem stEq_eq (a b : St) (h : stEq a b = true) : a = b:=by
 cases a;cases b
 simp only [stEq,Bool.and_eq_true,beq_iff_eq] at h
 obtain ⟨h1,h2,h3⟩:=h
 subst h1;subst h2;subst h3;rfl
theorem stEq_ne (a b : St) (h : stEq a b = false) : (a.m == b.m) = false ∨ ((a.m == b.m) = true /\ (a.p == b.p) = false) ∨ ((a.m == b.m) = true /\ (a.p == b.p) = true /\ (a.z == b.z) = false):=by
 unfold stEq at h
 cases h1 : (a.m == b.m)
 · exact .inl rfl
 · cases h2 : (a.p == b.p)
   · exact .inr (.inl ⟨rfl,rfl⟩)
   · cases h3 : (a.z == b.z)
     · exact .inr (.inr ⟨rfl,rfl,rfl⟩)
     · rw [h1,h2,h3] at h;simp at h
end AM
end Go.Proofs.YtpgifpeohlllfaaGreat
