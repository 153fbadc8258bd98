import Derived.Test.YtkdigjpejnebkaaGreatGS00
set_option linter.unusedVariables false
set_option maxRecDepth 100000
set_option linter.unusedSimpArgs false
namespace Go.Proofs.YtkdigjpejnebkaaGreat
namespace AW
open Go.RowKit
set_option maxHeartbeats 400000 in
theorem mayFollow_eq (ap an at' bp bn bt : Int) (az bz : Bool) (w : World) (h1 : -9223372036854775808 <= ap + an) (h2 : ap + an <= 9223372036854775807) (he : bp = ap + an) :
  Calls Tryz.prog 94 #[.agg #[.int .i64 ap,.int .i64 an,.int .i64 at',.bool az],.agg #[.int .i64 bp,.int .i64 bn,.int .i64 bt,.bool bz]] w fun e w'=>e = .returned (.bool (bt != at' || bz != az)) /\ Below w.heap.size w w':=by
 obtain ⟨W,hW⟩ : ∃ W,W = (w.alloc (.cells #[.int .i64 ap,.int .i64 an,.int .i64 at',.bool az] 59)).alloc (.cells #[.int .i64 bp,.int .i64 bn,.int .i64 bt,.bool bz] 59):=⟨_,rfl⟩
 have hs : W.heap.size = w.heap.size + 2:=by rw [hW];simp
 have hkin:=Q.kin_some W
 have hkc:=@Q.cell_kin W
 have c0 : ∀ x : Q.Kin W.heap.size W,x.world.cell? ⟨w.heap.size,0,none⟩ = some (.int .i64 ap):=fun x=>by rw [hkc x _ _ (by omega),hW];simp
 have c1 : ∀ x : Q.Kin W.heap.size W,x.world.cell? ⟨w.heap.size,1,none⟩ = some (.int .i64 an):=fun x=>by rw [hkc x _ _ (by omega),hW];simp
 have c2 : ∀ x : Q.Kin W.heap.size W,x.world.cell? ⟨w.heap.size,2,none⟩ = some (.int .i64 at'):=fun x=>by rw [hkc x _ _ (by omega),hW];simp
 have c3 : ∀ x : Q.Kin W.heap.size W,x.world.cell? ⟨w.heap.size,3,none⟩ = some (.bool az):=fun x=>by rw [hkc x _ _ (by omega),hW];simp
 have d0 : ∀ x : Q.Kin W.heap.size W,x.world.cell? ⟨w.heap.size + 1,0,none⟩ = some (.int .i64 bp):=fun x=>by rw [hkc x _ _ (by omega),hW];simp
 have d2 : ∀ x : Q.Kin W.heap.size W,x.world.cell? ⟨w.heap.size + 1,2,none⟩ = some (.int .i64 bt):=fun x=>by rw [hkc x _ _ (by omega),hW];simp
 have d3 : ∀ x : Q.Kin W.heap.size W,x.world.cell? ⟨w.heap.size + 1,3,none⟩ = some (.bool bz):=fun x=>by rw [hkc x _ _ (by omega),hW];simp
 have hbW : Hid (Below w.heap.size w W):=by show Below _ _ _;rw [hW];exact ((Below.refl _ _).alloc (Nat.le_refl _) _).alloc (by simp) _
 have HW : Hid (W = (w.alloc (.cells #[.int .i64 ap,.int .i64 an,.int .i64 at',.bool az] 59)).alloc (.cells #[.int .i64 bp,.int .i64 bn,.int .i64 bt,.bool bz] 59)):=hW
 clear hW hs hkc
 have hx : (bp == ap + an) = true:=by simp [he]
 clear he
 go_enter Tryz.func94,Tryz.ntmps94
 go_wp2_with fail
 rw [<- HW.out]
 refine Q.region_kin (by kernel_rfl) (by kernel_rfl) ?_
 repeat (first | go_big_quiet_step ((go_at_call 114;exact Q.calls_kin (fun W=>end_any _ _ _ _ W h1 h2) _)) | quiet_step ((go_at_call 114;exact Q.calls_kin (fun W=>end_any _ _ _ _ W h1 h2) _)))
 refine wpQuiet_nil ?_
 intro _ hw'
 obtain ⟨x,hw''⟩:=hw'
 subst hw''
 go_wp2
 all_goals go_ret
 all_goals exact ⟨by first | (simp [*];done) | (simp [*];cases bz <;> cases az <;> rfl),hbW.out.trans (x.keeps.mono hbW.out.size)⟩
set_option maxHeartbeats 400000 in
theorem mayFollow_ne (ap an at' bp bn bt : Int) (az bz : Bool) (w : World) (h1 : -9223372036854775808 <= ap + an) (h2 : ap + an <= 9223372036854775807) (he : ¬ bp = ap + an) :
  Calls Tryz.prog 94 #[.agg #[.int .i64 ap,.int .i64 an,.int .i64 at',.bool az],.agg #[.int .i64 bp,.int .i64 bn,.int .i64 bt,.bool bz]] w fun e w'=>e = .returned (.bool (decide (ap + an < bp))) /\ Below w.heap.size w w':=by
 obtain ⟨W,hW⟩ : ∃ W,W = (w.alloc (.cells #[.int .i64 ap,.int .i64 an,.int .i64 at',.bool az] 59)).alloc (.cells #[.int .i64 bp,.int .i64 bn,.int .i64 bt,.bool bz] 59):=⟨_,rfl⟩
 have hs : W.heap.size = w.heap.size + 2:=by rw [hW];simp
 have hkin:=Q.kin_some W
 have hkc:=@Q.cell_kin W
 have c0 : ∀ x : Q.Kin W.heap.size W,x.world.cell? ⟨w.heap.size,0,none⟩ = some (.int .i64 ap):=fun x=>by rw [hkc x _ _ (by omega),hW];simp
 have c1 : ∀ x : Q.Kin W.heap.size W,x.world.cell? ⟨w.heap.size,1,none⟩ = some (.int .i64 an):=fun x=>by rw [hkc x _ _ (by omega),hW];simp
 have c2 : ∀ x : Q.Kin W.heap.size W,x.world.cell? ⟨w.heap.size,2,none⟩ = some (.int .i64 at'):=fun x=>by rw [hkc x _ _ (by omega),hW];simp
 have c3 : ∀ x : Q.Kin W.heap.size W,x.world.cell? ⟨w.heap.size,3,none⟩ = some (.bool az):=fun x=>by rw [hkc x _ _ (by omega),hW];simp
 have d0 : ∀ x : Q.Kin W.heap.size W,x.world.cell? ⟨w.heap.size + 1,0,none⟩ = some (.int .i64 bp):=fun x=>by rw [hkc x _ _ (by omega),hW];simp
 have hbW : Hid (Below w.heap.size w W):=by show Below _ _ _;rw [hW];exact ((Below.refl _ _).alloc (Nat.le_refl _) _).alloc (by simp) _
 have HW : Hid (W = (w.alloc (.cells #[.int .i64 ap,.int .i64 an,.int .i64 at',.bool az] 59)).alloc (.cells #[.int .i64 bp,.int .i64 bn,.int .i64 bt,.bool bz] 59)):=hW
 have hs2 : Hid (w.heap.size + 2 <= W.heap.size):=by show _ <= _;omega
 clear hW hs hkc
 have hx : (bp == ap + an) = false:=by simp [he]
 clear he
 go_enter Tryz.func94,Tryz.ntmps94
 go_wp2_with fail
 rw [<- HW.out]
 refine Q.region_kin (by kernel_rfl) (by kernel_rfl) ?_
 repeat (first | go_big_quiet_step ((go_at_call 114;exact Q.calls_kin (fun W=>end_any _ _ _ _ W h1 h2) _)) | quiet_step ((go_at_call 114;exact Q.calls_kin (fun W=>end_any _ _ _ _ W h1 h2) _)))
 refine wpQuiet_nil ?_
 intro _ hw'
 obtain ⟨x,hw''⟩:=hw'
 subst hw''
 have c0x:=c0 x
 have c1x:=c1 x
 have c2x:=c2 x
 have c3x:=c3 x
 have d0x:=d0 x
 have hsx : Hid (w.heap.size + 2 <= x.world.heap.size):=Nat.le_trans hs2.out x.keeps.size
 have hbx : Hid (Below w.heap.size w x.world):=hbW.out.trans (x.keeps.mono hbW.out.size)
 clear HW c0 c1 c2 c3 d0 hkin hbW hs2
 obtain ⟨V,hV⟩ : ∃ V,V = x.world:=⟨_,rfl⟩
 rw [<- hV] at c0x c1x c2x c3x d0x hsx hbx ⊢
 clear hV
 have hkin:=Q.kin_some V
 have hkc:=@Q.cell_kin V
 have hsx':=hsx.out
 have c0 : ∀ x : Q.Kin V.heap.size V,x.world.cell? ⟨w.heap.size,0,none⟩ = some (.int .i64 ap):=fun x=>by rw [hkc x _ _ (by omega),c0x]
 have c1 : ∀ x : Q.Kin V.heap.size V,x.world.cell? ⟨w.heap.size,1,none⟩ = some (.int .i64 an):=fun x=>by rw [hkc x _ _ (by omega),c1x]
 have c2 : ∀ x : Q.Kin V.heap.size V,x.world.cell? ⟨w.heap.size,2,none⟩ = some (.int .i64 at'):=fun x=>by rw [hkc x _ _ (by omega),c2x]
 have c3 : ∀ x : Q.Kin V.heap.size V,x.world.cell? ⟨w.heap.size,3,none⟩ = some (.bool az):=fun x=>by rw [hkc x _ _ (by omega),c3x]
 have d0 : ∀ x : Q.Kin V.heap.size V,x.world.cell? ⟨w.heap.size + 1,0,none⟩ = some (.int .i64 bp):=fun x=>by rw [hkc x _ _ (by omega),d0x]
 clear hkc hsx'
 go_wp2_with fail
 refine Q.region_kin (by kernel_rfl) (by kernel_rfl) ?_
 repeat (first | go_big_quiet_step ((go_at_call 114;exact Q.calls_kin (fun W=>end_any _ _ _ _ W h1 h2) _)) | quiet_step ((go_at_call 114;exact Q.calls_kin (fun W=>end_any _ _ _ _ W h1 h2) _)))
 refine wpQuiet_nil ?_
 intro _ hw'
 obtain ⟨y,hw''⟩:=hw'
 subst hw''
 go_wp2
 go_ret
 exact ⟨rfl,hbx.out.trans (y.keeps.mono hbx.out.size)⟩
theorem mayFollow_any (a b : AM.Ar) (w : World) (h1 : -9223372036854775808 <= a.page + a.pages) (h2 : a.page + a.pages <= 9223372036854775807) :
  Calls Tryz.prog 94 #[.agg #[.int .i64 a.page,.int .i64 a.pages,.int .i64 a.prot,.bool a.zero],.agg #[.int .i64 b.page,.int .i64 b.pages,.int .i64 b.prot,.bool b.zero]] w fun e w'=>e = .returned (.bool (AM.followB a b)) /\ Below w.heap.size w w':=by
 unfold AM.followB AM.Ar.last0
 split
 · exact mayFollow_eq _ _ _ _ _ _ _ _ w h1 h2 (by assumption)
 · exact mayFollow_ne _ _ _ _ _ _ _ _ w h1 h2 (by assumption)
theorem ret_int {k : IntKind} {a b : Int} (h : a = b) : Ending.returned (.int k a) = .returned (.int k b):=by rw [h]
set_option maxHeartbeats 1000000 in
theorem check_some (l : List AM.Ar) (b off cap : Nat) (w : World) (hl : AM.Lie w b off l) (hf : ∀ i,i < l.length -> AM.Fits (AM.at_ l i)) (hn : l.length <= 140737488351232) :
  Calls Tryz.prog 61 #[.slice (some ⟨b,off,none⟩) l.length cap] w fun e w'=>e = .returned (.int .i64 (AM.checkN l)) /\ Below w.heap.size w w':=by
 by_cases hm : 255 < l.length
 · have e : AM.checkN l = 2:=by simp [AM.checkN,hm]
   rw [e]
   have hm' : (255 : Int) < (l.length : Int):=by omega
   go_enter Tryz.func61,Tryz.ntmps61
   go_wp2
   go_ret
   exact ⟨rfl,Below.refl _ _⟩
 · have hm' : ¬ (255 : Int) < (l.length : Int):=by omega
   have e : AM.checkN l = if AM.good l then 0 else 1:=by simp [AM.checkN,hm]
   have E : Hid (AM.checkN l = if AM.good l then 0 else 1):=e
   clear e
   go_enter Tryz.func61,Tryz.ntmps61
   go_wp2
   go_loopw [10] (fun i wr=>∃ k : Nat,k <= l.length /\ i = .int .i64 k /\ AM.goodTo l k = true /\ Below w.heap.size w wr) (fun i _=>l.length - (intOf i).toNat)
   case atStart=>exact ⟨0,by omega,rfl,rfl,Below.refl _ _⟩
   case round =>
    obtain ⟨k,hk,rfl,hg,hb⟩:=hrel
    have HG : Hid (AM.goodTo l k = true):=hg
    clear hg
    by_cases hlt : k < l.length
    · obtain ⟨c0,c1,c2,c3⟩:=(hl.below hb) k hlt
      obtain ⟨f1,f2,f3⟩:=hf k hlt
      obtain ⟨a,ha⟩ : ∃ a,a = AM.at_ l k:=⟨_,rfl⟩
      rw [<- ha] at c0 c1 c2 c3 f1 f2 f3
      have HA : Hid (a = AM.at_ l k):=ha
      clear ha
      by_cases hp : AM.pagesB a.page a.pages = true
      · by_cases hq : AM.protB a.prot = true
        · obtain ⟨W,hW⟩ : ∃ W,W = wr.alloc (.cells #[.int .i64 a.page,.int .i64 a.pages,.int .i64 a.prot,.bool a.zero] 59):=⟨_,rfl⟩
          have hs : W.heap.size = wr.heap.size + 1:=by rw [hW];simp
          have hbW : Hid (Below w.heap.size w W):=by show Below _ _ _;rw [hW];exact hb.alloc hb.size _
          by_cases hk0 : k = 0
          · have hok : Hid (AM.okAt l k = true):=by show _ = true;unfold AM.okAt;rw [<- HA.out,hp,hq,hk0];rfl
            have z1 : decide ((0 : Int) < (k : Int)) = false:=by simp;omega
            have z2 : decide (0 < k) = false:=by simp;omega
            clear hk0
            go_wp2_with (first | (go_at_call 92;refine (rightPages_any _ _ _ f1 f2).mono ?_;rintro e w' ⟨rfl,rfl⟩) | (go_at_call 93;refine (rightProt_any _ _).mono ?_;rintro e w' ⟨rfl,rfl⟩))
            go_quiet (fail)
            go_wp2
            go_roundw
            case rel=>exact ⟨k + 1,by omega,by go_num,AM.ok_step l k HG.out hok.out,below_drewN (hb.alloc hb.size _) _⟩
            case measure=>simp [intOf];omega
          · have hkin:=Q.kin_some W
            have hkc:=@Q.cell_kin W
            have hlW:=hl.below hbW.out
            have hbl:=hlW.lt k hlt
            obtain ⟨g0,g1,g2,g3⟩:=hlW (k - 1) (by omega)
            obtain ⟨fp1,fp2,fp3⟩:=hf (k - 1) (by omega)
            obtain ⟨p,hpd⟩ : ∃ p,p = AM.at_ l (k - 1):=⟨_,rfl⟩
            rw [<- hpd] at g0 g1 g2 g3 fp1 fp2 fp3
            have hprev:=AM.goodTo_ok l k HG.out (k - 1) (by omega)
            have hps : AM.pagesB p.page p.pages = true:=by
             unfold AM.okAt at hprev
             rw [<- hpd] at hprev
             simp only [Bool.and_eq_true] at hprev
             exact hprev.1.1
            have hpb : 1 <= p.page /\ 1 <= p.pages /\ p.pages <= 256 - p.page:=by simpa [AM.pagesB] using hps
            have hok : Hid (AM.okAt l k = AM.followB p a):=by show _ = _;unfold AM.okAt;rw [<- HA.out,<- hpd,hp,hq];simp [hk0]
            have k0 : ∀ x : Q.Kin W.heap.size W,x.world.cell? ⟨b,off + (k - 1) * 4,none⟩ = some (.int .i64 p.page):=fun x=>by rw [hkc x _ _ hbl,g0]
            have k1 : ∀ x : Q.Kin W.heap.size W,x.world.cell? ⟨b,off + (k - 1) * 4 + 1,none⟩ = some (.int .i64 p.pages):=fun x=>by rw [hkc x _ _ hbl,g1]
            have k2 : ∀ x : Q.Kin W.heap.size W,x.world.cell? ⟨b,off + (k - 1) * 4 + 2,none⟩ = some (.int .i64 p.prot):=fun x=>by rw [hkc x _ _ hbl,g2]
            have k3 : ∀ x : Q.Kin W.heap.size W,x.world.cell? ⟨b,off + (k - 1) * 4 + 3,none⟩ = some (.bool p.zero):=fun x=>by rw [hkc x _ _ hbl,g3]
            have e0 : ∀ x : Q.Kin W.heap.size W,x.world.cell? ⟨wr.heap.size,0,none⟩ = some (.int .i64 a.page):=fun x=>by rw [hkc x _ _ (by omega),hW];simp
            have e1 : ∀ x : Q.Kin W.heap.size W,x.world.cell? ⟨wr.heap.size,1,none⟩ = some (.int .i64 a.pages):=fun x=>by rw [hkc x _ _ (by omega),hW];simp
            have e2 : ∀ x : Q.Kin W.heap.size W,x.world.cell? ⟨wr.heap.size,2,none⟩ = some (.int .i64 a.prot):=fun x=>by rw [hkc x _ _ (by omega),hW];simp
            have e3 : ∀ x : Q.Kin W.heap.size W,x.world.cell? ⟨wr.heap.size,3,none⟩ = some (.bool a.zero):=fun x=>by rw [hkc x _ _ (by omega),hW];simp
            have HW : Hid (W = wr.alloc (.cells #[.int .i64 a.page,.int .i64 a.pages,.int .i64 a.prot,.bool a.zero] 59)):=hW
            have hk1 : (1 : Int) <= (k : Int):=by omega
            have hk2 : 0 < k:=by omega
            have hk3 : (0 : Int) < (k : Int):=by omega
            clear hW hs hkc hlW hbl g0 g1 g2 g3 hpd hprev hps hl
            by_cases hfo : AM.followB p a = true
            · go_wp2_with (first | (go_at_call 92;refine (rightPages_any _ _ _ f1 f2).mono ?_;rintro e w' ⟨rfl,rfl⟩) | (go_at_call 93;refine (rightProt_any _ _).mono ?_;rintro e w' ⟨rfl,rfl⟩))
              rw [<- HW.out]
              refine Q.region_kin (by kernel_rfl) (by kernel_rfl) ?_
              repeat (first | go_big_quiet_step ((go_at_call 94;exact Q.calls_kin (fun W=>mayFollow_any p a W (by omega) (by omega)) _)) | quiet_step ((go_at_call 94;exact Q.calls_kin (fun W=>mayFollow_any p a W (by omega) (by omega)) _)))
              refine wpQuiet_nil ?_
              intro _ hw'
              obtain ⟨x,hw''⟩:=hw'
              subst hw''
              go_wp2
              go_roundw
              case rel=>exact ⟨k + 1,by omega,by go_num,AM.ok_step l k HG.out (hok.out.trans hfo),hbW.out.trans (x.keeps.mono hbW.out.size)⟩
              case measure=>simp [intOf];omega
            · have hfo' : AM.followB p a = false:=by simpa using hfo
              clear hfo
              go_wp2_with (first | (go_at_call 92;refine (rightPages_any _ _ _ f1 f2).mono ?_;rintro e w' ⟨rfl,rfl⟩) | (go_at_call 93;refine (rightProt_any _ _).mono ?_;rintro e w' ⟨rfl,rfl⟩))
              rw [<- HW.out]
              refine Q.region_kin (by kernel_rfl) (by kernel_rfl) ?_
              repeat (first | go_big_quiet_step ((go_at_call 94;exact Q.calls_kin (fun W=>mayFollow_any p a W (by omega) (by omega)) _)) | quiet_step ((go_at_call 94;exact Q.calls_kin (fun W=>mayFollow_any p a W (by omega) (by omega)) _)))
              refine wpQuiet_nil ?_
              intro _ hw'
              obtain ⟨x,hw''⟩:=hw'
              subst hw''
              go_wp2
              go_ret
              exact ⟨ret_int (by rw [E.out,AM.bad_at l k hlt (hok.out.trans hfo')];rfl),hbW.out.trans (x.keeps.mono hbW.out.size)⟩
        · have hq' : AM.protB a.prot = false:=by simpa using hq
          clear hq
          have hbad : Hid (AM.okAt l k = false):=by show _ = false;unfold AM.okAt;rw [<- HA.out,hp,hq'];rfl
          go_wp2_with (first | (go_at_call 92;refine (rightPages_any _ _ _ f1 f2).mono ?_;rintro e w' ⟨rfl,rfl⟩) | (go_at_call 93;refine (rightProt_any _ _).mono ?_;rintro e w' ⟨rfl,rfl⟩))
          go_ret
          exact ⟨ret_int (by rw [E.out,AM.bad_at l k hlt hbad.out];rfl),hb.alloc hb.size _⟩
      · have hp' : AM.pagesB a.page a.pages = false:=by simpa using hp
        clear hp
        have hbad : Hid (AM.okAt l k = false):=by show _ = false;unfold AM.okAt;rw [<- HA.out,hp'];rfl
        go_wp2_with (first | (go_at_call 92;refine (rightPages_any _ _ _ f1 f2).mono ?_;rintro e w' ⟨rfl,rfl⟩))
        go_ret
        exact ⟨ret_int (by rw [E.out,AM.bad_at l k hlt hbad.out];rfl),hb.alloc hb.size _⟩
    · obtain rfl : k = l.length:=by omega
      go_wp2
      go_ret
      exact ⟨ret_int (by rw [E.out,show AM.good l = true from HG.out];rfl),hb⟩
theorem check_nil (ao : Option Addr) (cap : Nat) (w : World) :
  Calls Tryz.prog 61 #[.slice ao 0 cap] w fun e w'=>e = .returned (.int .i64 (AM.checkN [])) /\ Below w.heap.size w w':=by
 have e : AM.checkN [] = 0:=by decide
 rw [e]
 go_enter Tryz.func61,Tryz.ntmps61
 go_wp2
 refine wp_loop_rounds 1 ?_
 rw [rounds_succ]
 go_wp2
 go_ret
 exact ⟨rfl,Below.refl _ _⟩
set_option maxHeartbeats 1000000 in
theorem total_some (l : List AM.Ar) (b off cap : Nat) (w : World) (hl : AM.Lie w b off l) (hf : ∀ i,i < l.length -> AM.Fits (AM.at_ l i)) (hn : l.length <= 140737488351232) :
  Calls Tryz.prog 22 #[.slice (some ⟨b,off,none⟩) l.length cap] w fun e w'=>e = .returned (.int .i64 (AM.totalN l)) /\ Below w.heap.size w w':=by
 by_cases hc : AM.checkN l = 0
 · have hlen:=AM.good_len l hc
   have HC : Hid (AM.totalN l = AM.sumTo l l.length):=by show _ = _;simp [AM.totalN,hc]
   have HK : Hid (AM.checkN l = 0):=hc
   go_enter Tryz.func22,Tryz.ntmps22
   go_wp2_with fail
   refine (check_some l b off cap _ hl hf hn).mono ?_
   rintro e w1 ⟨rfl,hb1⟩
   rw [hc]
   clear hc
   go_wp2
   go_loopw [3,11] (fun s i wr=>∃ k : Nat,k <= l.length /\ i = .int .i64 k /\ s = .int .i64 (AM.sumTo l k) /\ Below w.heap.size w wr) (fun _ i _=>l.length - (intOf i).toNat)
   case atStart=>exact ⟨0,by omega,rfl,rfl,hb1⟩
   case round =>
    obtain ⟨k,hk,rfl,rfl,hb⟩:=hrel
    have hbd:=AM.sumTo_bd l HK.out k hk
    by_cases hlt : k < l.length
    · obtain ⟨c0,c1,c2,c3⟩:=(hl.below hb) k hlt
      have hsu : Hid (AM.sumTo l (k + 1) = AM.sumTo l k + (AM.at_ l k).pages):=rfl
      have hbk:=AM.okAt_pages l k (AM.good_pages l HK.out k hlt)
      obtain ⟨a,ha⟩ : ∃ a,a = AM.at_ l k:=⟨_,rfl⟩
      rw [<- ha] at c0 c1 c2 c3 hsu hbk
      clear ha
      go_wp2
      go_roundw
      case rel=>exact ⟨k + 1,by omega,by go_num,by rw [hsu.out],hb.alloc hb.size _⟩
      case measure=>simp [intOf];omega
    · obtain rfl : k = l.length:=by omega
      go_wp2
      go_ret
      exact ⟨ret_int HC.out.symm,hb⟩
 · have HC : Hid (AM.totalN l = 0):=by show _ = _;simp [AM.totalN,hc]
   have hc' : (AM.checkN l != 0) = true:=by simpa using hc
   go_enter Tryz.func22,Tryz.ntmps22
   go_wp2_with fail
   refine (check_some l b off cap _ hl hf hn).mono ?_
   rintro e w1 ⟨rfl,hb1⟩
   go_wp2
   go_ret
   exact ⟨ret_int HC.out.symm,hb1⟩
theorem total_nil (ao : Option Addr) (cap : Nat) (w : World) :
  Calls Tryz.prog 22 #[.slice ao 0 cap] w fun e w'=>e = .returned (.int .i64 (AM.totalN [])) /\ Below w.heap.size w w':=by
 have e : AM.totalN [] = 0:=by decide
 have e2 : AM.checkN [] = 0:=by decide
 rw [e]
 go_enter Tryz.func22,Tryz.ntmps22
 go_wp2_with fail
 refine (check_nil ao cap _).mono ?_
 rintro e w1 ⟨rfl,hb1⟩
 rw [e2]
 go_wp2
 refine wp_loop_rounds 1 ?_
 rw [rounds_succ]
 go_wp2
 go_ret
 exact ⟨rfl,hb1⟩
def cellsOf (a : AM.Ar) : Array Value:=#[.int .i64 a.page,.int .i64 a.pages,.int .i64 a.prot,.bool a.zero]
set_option maxHeartbeats 2000000 in
theorem find_some (l : List AM.Ar) (b off cap : Nat) (p : Int) (w : World) (hl : AM.Lie w b off l) (hf : ∀ i,i < l.length -> AM.Fits (AM.at_ l i)) (hn : l.length <= 140737488351232) :
  Calls Tryz.prog 95 #[.slice (some ⟨b,off,none⟩) l.length cap,.int .i64 p] w fun e w'=>e = .returned (.tuple #[.agg (cellsOf (AM.findN l p).1),.bool (AM.findN l p).2]) /\ Below w.heap.size w w':=by
 have hbz : Below w.heap.size w (w.alloc (.cells #[.int .i64 0,.int .i64 0,.int .i64 0,.bool false] 59)):=(Below.refl _ _).alloc (Nat.le_refl _) _
 by_cases hc : AM.checkN l = 0
 · have hlen:=AM.good_len l hc
   have HC : Hid (AM.findN l p = AM.findFrom l p):=by show _ = _;simp [AM.findN,hc]
   have HK : Hid (AM.checkN l = 0):=hc
   go_enter Tryz.func95,Tryz.ntmps95
   go_wp2_with fail
   refine (check_some l b off cap _ (hl.below hbz) hf hn).mono ?_
   rintro e w1 ⟨rfl,hb1⟩
   rw [hc]
   clear hc
   go_wp2
   go_loopw [14] (fun i wr=>∃ k : Nat,k <= l.length /\ i = .int .i64 k /\ (∀ j,j < k -> AM.hit (AM.at_ l j) p = false) /\ Below (w.heap.size + 1) (w.alloc (.cells #[.int .i64 0,.int .i64 0,.int .i64 0,.bool false] 59)) wr) (fun i _=>l.length - (intOf i).toNat)
   case atStart=>exact ⟨0,by omega,rfl,fun j hj=>by omega,hb1.mono (by simp)⟩
   case round =>
    obtain ⟨k,hk,rfl,hno,hb⟩:=hrel
    have HN : Hid (∀ j,j < k -> AM.hit (AM.at_ l j) p = false):=hno
    have hbw : Hid (Below w.heap.size w wr):=hbz.trans (hb.mono (Nat.le_succ _))
    have hsz : w.heap.size + 1 <= wr.heap.size:=by have:=hb.size;simpa using this
    have hlr:=hl.below hbw.out
    have hR : wr.heap[w.heap.size]? = some (.cells #[.int .i64 0,.int .i64 0,.int .i64 0,.bool false] 59 (0,0)):=B.below (B.new w _ _) hb (Nat.lt_succ_self _)
    have HR : Hid (wr.heap[w.heap.size]? = some (.cells #[.int .i64 0,.int .i64 0,.int .i64 0,.bool false] 59 (0,0))):=hR
    have HB : Hid (Below (w.heap.size + 1) (w.alloc (.cells #[.int .i64 0,.int .i64 0,.int .i64 0,.bool false] 59)) wr):=hb
    clear hR hb
    clear hno hb1
    by_cases hlt : k < l.length
    · obtain ⟨c0,c1,c2,c3⟩:=hlr k hlt
      have hbk:=AM.okAt_pages l k (AM.good_pages l HK.out k hlt)
      obtain ⟨a,ha⟩ : ∃ a,a = AM.at_ l k:=⟨_,rfl⟩
      rw [<- ha] at c0 c1 c2 c3 hbk
      have HA : Hid (a = AM.at_ l k):=ha
      clear ha
      by_cases h1 : a.page <= p
      · by_cases h2 : p < a.page + a.pages
        · have hres : Hid (AM.findN l p = (a,true)):=by
           show _ = _
           rw [HC.out,AM.findFrom_at l p k hlt HN.out (by rw [<- HA.out];simp [AM.hit,AM.Ar.last0,h1,h2]),<- HA.out]
          go_wp2_with fail
          refine (end_any _ _ _ _ _ (by omega) (by omega)).mono ?_
          rintro e w2 ⟨rfl,hb2⟩
          have hA2:=B.below (B.new wr #[.int .i64 a.page,.int .i64 a.pages,.int .i64 a.prot,.bool a.zero] 59) hb2 (by simp)
          have hR2:=B.below (B.alloc HR.out _) hb2 (by simp;omega)
          have s0:=B.cell hA2 0 rfl
          have s1:=B.cell hA2 1 rfl
          have s2:=B.cell hA2 2 rfl
          have s3:=B.cell hA2 3 rfl
          have t0:=B.cell hR2 0 rfl
          have t1:=B.cell hR2 1 rfl
          have t2:=B.cell hR2 2 rfl
          have t3:=B.cell hR2 3 rfl
          have u0:=B.free hR2
          have hbe : Hid (Below w.heap.size w w2):=(hbw.out.alloc hbw.out.size _).trans (hb2.mono (by simp;omega))
          have hsz2 : wr.heap.size + 1 <= w2.heap.size:=by have:=hb2.size;simpa using this
          clear hb2 hA2 hR2
          go_wp2
          exact bodyPost_ret (v:=.tuple #[.agg #[.int .i64 a.page,.int .i64 a.pages,.int .i64 a.prot,.bool a.zero],.bool true]) (by simp [results,Tryz.results95,go_sem,t0,t1,t2,t3]) rfl ⟨by rw [hres.out];rfl,(((hbe.out.setCell (Nat.le_refl _) _).setCell (Nat.le_refl _) _).setCell (Nat.le_refl _) _).setCell (Nat.le_refl _) _⟩
        · have hmiss : Hid (AM.hit (AM.at_ l k) p = false):=by show _ = _;rw [<- HA.out];unfold AM.hit AM.Ar.last0;exact decide_eq_false (by omega)
          go_wp2_with fail
          refine (end_any _ _ _ _ _ (by omega) (by omega)).mono ?_
          rintro e w2 ⟨rfl,hb2⟩
          have hbe : Hid (Below (w.heap.size + 1) (w.alloc (.cells #[.int .i64 0,.int .i64 0,.int .i64 0,.bool false] 59)) w2):=(HB.out.alloc (by omega) _).trans (hb2.mono (by simp;omega))
          clear hb2
          go_wp2
          go_roundw
          case rel=>exact ⟨k + 1,by omega,by go_num,fun j hj=>if e : j = k then by rw [e];exact hmiss.out else HN.out j (by omega),hbe.out⟩
          case measure=>simp [intOf];omega
      · have hmiss : Hid (AM.hit (AM.at_ l k) p = false):=by show _ = _;rw [<- HA.out];unfold AM.hit AM.Ar.last0;exact decide_eq_false (by omega)
        have d1 : decide (a.page <= p) = false:=by simp;omega
        go_wp2
        go_roundw
        case rel=>exact ⟨k + 1,by omega,by go_num,fun j hj=>if e : j = k then by rw [e];exact hmiss.out else HN.out j (by omega),HB.out.alloc (by omega) _⟩
        case measure=>simp [intOf];omega
    · obtain rfl : k = l.length:=by omega
      have hres : Hid (AM.findN l p = (AM.nil,false)):=by show _ = _;rw [HC.out,AM.findFrom_none l p HN.out]
      have t0:=B.cell HR.out 0 rfl
      have t1:=B.cell HR.out 1 rfl
      have t2:=B.cell HR.out 2 rfl
      have t3:=B.cell HR.out 3 rfl
      have u0:=B.free HR.out
      go_wp2
      exact bodyPost_ret (v:=.tuple #[.agg #[.int .i64 0,.int .i64 0,.int .i64 0,.bool false],.bool false]) (by simp [results,Tryz.results95,go_sem,t0,t1,t2,t3]) rfl ⟨by rw [hres.out];rfl,(((hbw.out.setCell (Nat.le_refl _) _).setCell (Nat.le_refl _) _).setCell (Nat.le_refl _) _).setCell (Nat.le_refl _) _⟩
 · have HC : Hid (AM.findN l p = (AM.nil,false)):=by show _ = _;simp [AM.findN,hc]
   have hc' : (AM.checkN l != 0) = true:=by simpa using hc
   go_enter Tryz.func95,Tryz.ntmps95
   go_wp2_with fail
   refine (check_some l b off cap _ (hl.below hbz) hf hn).mono ?_
   rintro e w1 ⟨rfl,hb1⟩
   have hR1:=B.below (B.new w #[.int .i64 0,.int .i64 0,.int .i64 0,.bool false] 59) hb1 (by simp)
   have t0:=B.cell hR1 0 rfl
   have t1:=B.cell hR1 1 rfl
   have t2:=B.cell hR1 2 rfl
   have t3:=B.cell hR1 3 rfl
   have u0:=B.free hR1
   clear hR1
   go_wp2
   exact bodyPost_ret (v:=.tuple #[.agg #[.int .i64 0,.int .i64 0,.int .i64 0,.bool false],.bool false]) (by simp [results,Tryz.results95,go_sem,t0,t1,t2,t3]) rfl ⟨by rw [HC.out];rfl,((((hbz.trans (hb1.mono (by simp))).setCell (Nat.le_refl _) _).setCell (Nat.le_refl _) _).setCell (Nat.le_refl _) _).setCell (Nat.le_refl _) _⟩
theorem find_nil (ao : Option Addr) (cap : Nat) (p : Int) (w : World) :
  Calls Tryz.prog 95 #[.slice ao 0 cap,.int .i64 p] w fun e w'=>e = .returned (.tuple #[.agg (cellsOf (AM.findN [] p).1),.bool (AM.findN [] p).2]) /\ Below w.heap.size w w':=by
 have hbz : Below w.heap.size w (w.alloc (.cells #[.int .i64 0,.int .i64 0,.int .i64 0,.bool false] 59)):=(Below.refl _ _).alloc (Nat.le_refl _) _
 have e2 : AM.checkN [] = 0:=by decide
 go_enter Tryz.func95,Tryz.ntmps95
 go_wp2_with fail
 refine (check_nil ao cap _).mono ?_
 rintro e w1 ⟨rfl,hb1⟩
 rw [e2]
 have hR1:=B.below (B.new w #[.int .i64 0,.int .i64 0,.int .i64 0,.bool false] 59) hb1 (by simp)
 have t0:=B.cell hR1 0 rfl
 have t1:=B.cell hR1 1 rfl
 have t2:=B.cell hR1 2 rfl
 have t3:=B.cell hR1 3 rfl
 have u0:=B.free hR1
 clear hR1
 go_wp2
 refine wp_loop_rounds 1 ?_
 rw [rounds_succ]
 go_wp2
 exact bodyPost_ret (v:=.tuple #[.agg #[.int .i64 0,.int .i64 0,.int .i64 0,.bool false],.bool false]) (by simp [results,Tryz.results95,go_sem,t0,t1,t2,t3]) rfl ⟨rfl,((((hbz.trans (hb1.mono (by simp))).setCell (Nat.le_refl _) _).setCell (Nat.le_refl _) _).setCell (Nat.le_refl _) _).setCell (Nat.le_refl _) _⟩
end AW
namespace AM
open Go.RowKit
structure St where
 m : Bool
 p : Int
 z : Bool
def off : St:=⟨false,0,false⟩
def three (s : St) : List Value:=[.bool s.m,.int .i64 s.p,.bool s.z]
def rows (F : Nat -> St) : Nat -> List Value
 | 0=>[]
 | m + 1=>rows F m ++ three (F m)
def cellsL (F : Nat -> St) : Array Value:=(rows F 256).toArray
def upd (F : Nat -> St) (n : Nat) (s : St) : Nat -> St:=fun k=>if k = n then s else F k
theorem rows_length (F : Nat -> St) : ∀ m,(rows F m).length = m * 3
 | 0=>rfl
 | m + 1=>by simp [rows,rows_length F m,three];omega
theorem cellsL_size (F : Nat -> St) : (cellsL F).size = 768:=by simp [cellsL,rows_length]
theorem rows_get (F : Nat -> St) (n j : Nat) (hj : j < 3) : ∀ m,n < m -> (rows F m)[n * 3 + j]? = (three (F n))[j]?
 | 0,h=>by omega
 | m + 1,h=>by
  simp only [rows]
  by_cases e : n = m
  · subst e
    rw [List.getElem?_append_right (by rw [rows_length];omega),rows_length,show n * 3 + j - n * 3 = j from by omega]
  · rw [List.getElem?_append_left (by rw [rows_length];omega)]
    exact rows_get F n j hj m (by omega)
theorem cellsL_get (F : Nat -> St) (n j : Nat) (hn : n < 256) (hj : j < 3) : (cellsL F)[n * 3 + j]? = (three (F n))[j]?:=by
 unfold cellsL
 rw [List.getElem?_toArray]
 exact rows_get F n j hj 256 hn
theorem cellsL_get0 (F : Nat -> St) (n : Nat) (hn : n < 256) : (cellsL F)[n * 3]? = some (.bool (F n).m):=cellsL_get F n 0 hn (by omega)
theorem cellsL_get1 (F : Nat -> St) (n : Nat) (hn : n < 256) : (cellsL F)[n * 3 + 1]? = some (.int .i64 (F n).p):=cellsL_get F n 1 hn (by omega)
theorem cellsL_get2 (F : Nat -> St) (n : Nat) (hn : n < 256) : (cellsL F)[n * 3 + 2]? = some (.bool (F n).z):=cellsL_get F n 2 hn (by omega)
theorem rows_congr (F G : Nat -> St) : ∀ m,(∀ k,k < m -> F k = G k) -> rows F m = rows G m
 | 0,_=>rfl
 | m + 1,h=>by simp only [rows];rw [rows_congr F G m (fun k hk=>h k (by omega)),h m (by omega)]
theorem rows_set (F : Nat -> St) (n : Nat) (s : St) : ∀ m,n < m -> (((rows F m).set (n * 3) (.bool s.m)).set (n * 3 + 1) (.int .i64 s.p)).set (n * 3 + 2) (.bool s.z) = rows (upd F n s) m
 | 0,h=>by omega
 | m + 1,h=>by
  simp only [rows]
  by_cases e : n = m
  · subst e
    rw [List.set_append_right _ _ (by rw [rows_length];omega),List.set_append_right _ _ (by rw [rows_length];omega),List.set_append_right _ _ (by rw [rows_length];omega),rows_length,
     show n * 3 - n * 3 = 0 from by omega,show n * 3 + 1 - n * 3 = 1 from by omega,show n * 3 + 2 - n * 3 = 2 from by omega]
    rw [rows_congr (upd F n s) F n (fun k hk=>by simp [upd];omega)]
    simp [three,upd]
  · rw [List.set_append_left _ _ (by rw [rows_length];omega),List.set_append_left _ _ (by rw [List.length_set,rows_length];omega),List.set_append_left _ _ (by rw [List.length_set,List.length_set,rows_length];omega),rows_set F n s m (by omega)]
    congr 2
    simp [upd];intro h';exact absurd h'.symm e
theorem cellsL_set (F : Nat -> St) (n : Nat) (s : St) (hn : n < 256) :
  (((cellsL F).setIfInBounds (n * 3) (.bool s.m)).setIfInBounds (n * 3 + 1) (.int .i64 s.p)).setIfInBounds (n * 3 + 2) (.bool s.z) = cellsL (upd F n s):=by
 unfold cellsL
 rw [<- rows_set F n s 256 hn]
 simp only [List.setIfInBounds_toArray]
theorem rows_one (F : Nat -> St) : ∀ m,∀ v ∈ rows F m,v.oneCell' = true
 | 0,v,h=>by simp [rows] at h
 | m + 1,v,h=>by
  simp only [rows,List.mem_append] at h
  rcases h with h | h
  · exact rows_one F m v h
  · simp only [three,List.mem_cons,List.not_mem_nil,or_false] at h
    rcases h with rfl | rfl | rfl <;> rfl
theorem cellsL_one (F : Nat -> St) : (cellsL F).all (·.oneCell') = true:=by
 rw [Array.all_eq_true_iff_forall_mem]
 intro v hv
 exact rows_one F 256 v (by simpa [cellsL] using hv)
def layTo (F : Nat -> St) (a : Ar) (t : Int) : Nat -> St:=fun n=>if a.page <= (n : Int) /\ (n : Int) < t then ⟨true,a.prot,a.zero⟩ else F n
def spreadTo (l : List Ar) : Nat -> Nat -> St
 | 0=>fun _=>off
 | k + 1=>layTo (spreadTo l k) (at_ l k) (at_ l k).last0
def spreadN (l : List Ar) : Nat -> St:=spreadTo l l.length
theorem layTo_begin (F : Nat -> St) (a : Ar) : layTo F a a.page = F:=by
 funext n;simp only [layTo];rw [if_neg (by omega)]
theorem layTo_step (F : Nat -> St) (a : Ar) (n : Nat) (h : a.page <= (n : Int)) : upd (layTo F a n) n ⟨true,a.prot,a.zero⟩ = layTo F a ((n : Int) + 1):=by
 funext k
 simp only [upd,layTo]
 by_cases e : k = n
 · subst e;rw [if_pos rfl,if_pos ⟨h,by omega⟩]
 · rw [if_neg e]
   by_cases c : a.page <= (k : Int) /\ (k : Int) < n
   · rw [if_pos c,if_pos ⟨c.1,by omega⟩]
   · rw [if_neg c,if_neg (by omega)]
end AM
end Go.Proofs.YtkdigjpejnebkaaGreat
