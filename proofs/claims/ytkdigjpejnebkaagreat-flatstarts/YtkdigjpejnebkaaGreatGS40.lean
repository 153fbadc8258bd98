import Derived.Test.YtkdigjpejnebkaaGreatGS36
import Derived.Test.YtkdigjpejnebkaaGreatGS38
import Derived.Test.YtkdigjpejnebkaaGreatGS39
import Derived.Deep.RegionLaw
import Derived.Deep.RegionHeld3
set_option linter.unusedVariables false
set_option maxRecDepth 100000
set_option linter.unusedSimpArgs false
namespace Go.Proofs.YtkdigjpejnebkaaGreat
namespace GR
open Go.RowKit GK GH
open GF (blk cellPg cellPg_len)
open FW (hideC add_below)
def OutN (w : World) (F : FM.Fl) (e : Ending) (w' : World) : Prop:=∃ az cs ar cr,e = .returned (.agg #[.int .i64 F.slots,.slice az 1 cs,.slice ar 1 cr,.slice none 0 0]) /\ (∀ V,Kp (fun b=>b < w.heap.size) w' V -> FW.HasFl V F az ar none) /\ Below w.heap.size w w'
theorem fillS_N {s : LM.Sh} (h : LM.sheetB s = true) : LM.fillS s = (LM.fillN s).1:=by
 unfold LM.fillN
 rw [if_pos h]
set_option maxHeartbeats 8000000 in
theorem newFlat_any (l : List AM.Ar) (hs : List LM.Sh) (en slots : Int) (aa ah : Option Addr) (na ca ch : Nat) (w : World) (ha : AW.Has w (.slice aa na ca) l) (h : LM.HasH w ah hs) (hfs : LM.FitHs hs) (hck : LM.checkL l hs en = 0) :
  Calls Tryz.prog 9 #[.agg #[.slice aa na ca,.slice ah hs.length ch,.int .i64 en],.int .i64 slots] w (OutN w ⟨slots,[⟨true,l,hs.map pgOf⟩],[FW.beginN en],[]⟩):=by
 obtain ⟨hk1,_,hk3⟩:=check_parts hck
 obtain ⟨_,hnb⟩:=sheets_len hck
 have HAF : Hid (∀ V,Below w.heap.size w V -> From V aa na (AM.areaCells l)):=fun V hV=>(GF.areas_from (ha.below hV)).2
 have hna : na = l.length:=(GF.areas_from ha).1
 have HLC : Hid ((AM.areaCells l).length = na * 4):=by rw [hna];exact AM.areaCells_length l
 have HOC : Hid (∀ u ∈ AM.areaCells l,u.oneCell' = true):=AM.areaCells_one l
 have hnl : l.length <= 255:=AM.good_len _ hk1
 have HFI : Hid (∀ k,k < hs.length -> ∀ V,Below w.heap.size w V -> Calls Tryz.prog 29 #[.agg (LM.cellsH (LM.shAt hs k))] V fun e w'=>e = .returned (.string (LM.fillN (LM.shAt hs k)).1) /\ Below V.heap.size V w'):=fun k hk V hV=>by
  obtain ⟨b,off,_,_,hl⟩:=(h.below hV) (by omega)
  rw [<- fillS_N (hk3 k hk)]
  exact LW.filled_any (LM.shAt hs k) V (hl k hk).2.2.2 (hfs.2 k hk) (hk3 k hk)
 have HHH:=hideC h
 have HTS:=hideC (take_snoc hs)
 obtain ⟨P,hP⟩ : ∃ P,P = OutN w ⟨slots,[⟨true,l,hs.map pgOf⟩],[FW.beginN en],[]⟩:=⟨_,rfl⟩
 have HP : Hid (∀ e w',OutN w ⟨slots,[⟨true,l,hs.map pgOf⟩],[FW.beginN en],[]⟩ e w' -> P e w'):=fun e w' h=>by rw [hP];exact h
 rw [<- hP]
 obtain ⟨n,hn⟩ : ∃ n,n = hs.length:=⟨_,rfl⟩
 rw [<- hn] at HFI hnb ⊢
 have HN:=hideC hn
 have HNA:=hideC hna
 have HFS : Hid (∀ V,Calls Tryz.prog 30 #[.agg #[.slice aa na ca,.slice ah n ch,.int .i64 en]] V fun e w'=>∃ b,e = .returned (.slice (some ⟨b,0,none⟩) 1 1) /\ V.heap.size <= b /\ w'.heap[b]? = some (.cells #[.int .i64 0,.int .i64 0,.int .i64 0,.int .i64 0,.int .i64 0,.int .i64 0,.int .i64 0,.int .i64 0,.int .i64 en,.int .i64 1,.int .i64 0,.int .i64 0,.int .i64 0] 70 (0,0)) /\ Below V.heap.size V w'):=fun V=>first_any _ _ en V ⟨_,_,_,rfl⟩ ⟨_,_,_,rfl⟩
 have HBX:=hideC (((Below.refl w.heap.size w).alloc (Nat.le_refl _) (.cells #[.slice aa na ca,.slice ah n ch,.int .i64 en] 25)).alloc (by simp) (.cells #[.int .i64 0,.slice none 0 0,.slice none 0 0,.slice none 0 0] 30))
 have BX:=hideC (B.alloc (B.new w #[.slice aa na ca,.slice ah n ch,.int .i64 en] 25) (.cells #[.int .i64 0,.slice none 0 0,.slice none 0 0,.slice none 0 0] 30))
 have BZ:=hideC (B.new (w.alloc (.cells #[.slice aa na ca,.slice ah n ch,.int .i64 en] 25)) #[.int .i64 0,.slice none 0 0,.slice none 0 0,.slice none 0 0] 30)
 clear h ha hfs hck hP hn hk1 hk3 hna
 obtain ⟨i1,hin1,hy0,hy1,hy2⟩:=info_parts infoAr
 have HI1:=hideC hin1
 have HY0:=hideC hy0
 have HY1:=hideC hy1
 have HY2:=hideC hy2
 clear hin1 hy0 hy1 hy2
 have hnal : na <= 255:=by rw [HNA.out];exact hnl
 go_enter Tryz.func9,Tryz.ntmps9
 go_upto_region 1 with fail
 obtain ⟨WA,hWA⟩ : ∃ WA,WA = (w.alloc (.cells #[.slice aa na ca,.slice ah n ch,.int .i64 en] 25)).alloc (.cells #[.int .i64 0,.slice none 0 0,.slice none 0 0,.slice none 0 0] 30):=⟨_,rfl⟩
 have hsz1 : (w.alloc (.cells #[.slice aa na ca,.slice ah n ch,.int .i64 en] 25)).heap.size = w.heap.size + 1:=by simp
 rw [hsz1] at BZ
 rw [<- hWA] at HBX BX BZ ⊢
 obtain ⟨x,hxe⟩ : ∃ x,x = w.heap.size:=⟨_,rfl⟩
 obtain ⟨z,hze⟩ : ∃ z,z = w.heap.size + 1:=⟨_,rfl⟩
 rw [<- hze] at BZ ⊢
 rw [<- hxe] at BX ⊢
 have hxz : ¬ x = z:=by omega
 have hzx : ¬ z = x:=by omega
 have HSX : Hid (∀ V,Below WA.heap.size WA V -> V.cell? ⟨x,0,none⟩ = some (.slice aa na ca) /\ V.cell? ⟨x,1,none⟩ = some (.slice ah n ch) /\ V.cell? ⟨x,2,none⟩ = some (.int .i64 en)):=fun V hb=>by
  have h1:=B.below BX.out hb (B.isLt BX.out)
  exact ⟨B.cell h1 0 rfl,B.cell h1 1 rfl,B.cell h1 2 rfl⟩
 have HZC : Hid (∀ V,Below WA.heap.size WA V -> (V.cell? ⟨z,0,none⟩ = some (.int .i64 0) /\ V.cell? ⟨z,1,none⟩ = some (.slice none 0 0) /\ V.cell? ⟨z,2,none⟩ = some (.slice none 0 0) /\ V.cell? ⟨z,3,none⟩ = some (.slice none 0 0)) /\ V.frozen? ⟨z,0,none⟩ = false /\ V.frozen? ⟨z,1,none⟩ = false /\ V.frozen? ⟨z,2,none⟩ = false /\ V.frozen? ⟨z,3,none⟩ = false):=fun V hb=>by
  have h1:=B.below BZ.out hb (B.isLt BZ.out)
  exact ⟨⟨B.cell h1 0 rfl,B.cell h1 1 rfl,B.cell h1 2 rfl,B.cell h1 3 rfl⟩,B.free h1 0,B.free h1 1,B.free h1 2,B.free h1 3⟩
 have hzWA:=B.isLt BZ.out
 have hxWA:=B.isLt BX.out
 have HWZ : Hid (w.heap.size <= z):=(by rw [hze];omega : w.heap.size <= z)
 have HXW : Hid (x = w.heap.size):=hxe
 have hxn0 : ¬ x = WA.heap.size:=by omega
 clear hWA hsz1 hxe hze BX BZ
 obtain ⟨x0,x1,x2⟩:=HSX.out _ (Below.refl _ _)
 have x00 : ∀ o,(WA.alloc o).cell? ⟨x,0,none⟩ = some (.slice aa na ca):=fun o=>(HSX.out _ ((Below.refl _ _).alloc (Nat.le_refl _) o)).1
 go_wp2_with (at_builtin;refine wpList_append_src (P:=Tryz.prog) rfl _ _ 22 rfl WA.heap.size 59 i1 (.agg #[.int .i64 0,.int .i64 0,.int .i64 0,.bool false]) 4 32 Tryz.underlying22 HI1.out HY0.out HY1.out HY2.out rfl (by decide) (.slice (some ⟨WA.heap.size,0,none⟩) 0 0) 0 [] (by rfl) (World.ownsRow_made WA #[] 0 (Nat.le_refl _) (by unfold maxLen;omega) (by simp)) aa na ca (AM.areaCells l) (by rfl) HLC.out (HAF.out _ (HBX.out.alloc HBX.out.size _)) HOC.out (by unfold maxLen;omega) (by omega) (by simp) ?_;intro v3 w3 hown hgr hat;rw [Nat.zero_add] at hown;obtain ⟨a3,c3,hv3,_,_⟩:=row_form hown;subst hv3;have HO3':=hideC hown;have HG3:=hideC hgr;clear hown hgr hat)
 have HO3 : Hid (w3.ownsRow WA.heap.size 59 4 (.slice a3 na c3) na (AM.areaCells l)):=HO3'.out
 have HB3 : Hid (Below WA.heap.size WA w3):=((Below.refl WA.heap.size WA).alloc (Nat.le_refl _) _).grown HG3.out (by simp) (fun k hk=>by simp [Value.ownBlock] at hk;omega)
 rw [HNA.out] at HO3
 obtain ⟨p0,p1,p2⟩:=HSX.out _ HB3.out
 have hxw3 : x < w3.heap.size:=World.block_lt_of_cell? _ _ p0
 have hxn : ¬ x = w3.heap.size:=by omega
 have hll : l.length = na:=HNA.out.symm
 rw [hll] at HO3
 have HT3:=hideC (B.new w3 #[.bool true,.slice a3 na c3,.slice none 0 0] 53)
 have HA3:=hideC ((Below.refl w3.heap.size w3).alloc (Nat.le_refl _) (.cells #[.bool true,.slice a3 na c3,.slice none 0 0] 53))
 obtain ⟨i0,hin,hz0,hz1,hz2⟩:=info_parts infoPg
 have HIN:=hideC hin
 have HZ0:=hideC hz0
 have HZ1:=hideC hz1
 have HZ2:=hideC hz2
 have HBW3:=hideC (HBX.out.trans (HB3.out.mono HBX.out.size))
 clear hin hz0 hz1 hz2 x0 x1 x2 x00 HO3' HG3 hll HAF HLC HOC HI1 HY0 HY1 HY2
 go_loopw [6] (fun iv wr=>∃ (k : Nat) (av : Option Addr) (cv : Nat),k <= n /\ iv = .int .i64 (k : Int) /\ wr.heap[w3.heap.size]? = some (.cells #[.bool true,.slice a3 na c3,.slice av k cv] 53 (0,0)) /\ wr.ownsRow (w3.heap.size + 1) 65 2 (.slice av k cv) k (((hs.take k).map pgOf).flatMap cellPg) /\ Below w3.heap.size w3 wr) (fun iv _=>n - (intOf iv).toNat)
 case atStart=>exact ⟨0,none,0,by omega,rfl,HT3.out,World.ownsRow_nil _ _ _ _,HA3.out⟩
 case round =>
  obtain ⟨k,av,cv,hk,rfl,htb,hrow,hbr⟩:=hrel
  have HTB:=hideC htb
  have HRW:=hideC hrow
  have HBR:=hideC hbr
  have htl : w3.heap.size < wr.heap.size:=B.isLt htb
  have HKR0:=hideC (HB3.out.trans (hbr.mono HB3.out.size))
  by_cases hlt : k < n
  · have hki : (k : Int) < (n : Int):=by omega
    have r1:=(HSX.out _ HKR0.out).2.1
    obtain ⟨b,off,hah,hbl,hlie⟩:=HHH.out (by have:=HN.out;omega)
    subst hah
    obtain ⟨c0,c1,c2,_⟩:=hlie k (by have:=HN.out;omega)
    have HFK:=hideC (HFI.out k hlt)
    have HSK:=hideC (HTS.out k (by have:=HN.out;omega))
    unfold LM.cellsH at HFK
    obtain ⟨S,hS⟩ : ∃ S,S = LM.shAt hs k:=⟨_,rfl⟩
    rw [<- hS] at c0 c1 c2 HFK HSK
    obtain ⟨sp,hsp⟩ : ∃ sp,sp = S.page:=⟨_,rfl⟩
    obtain ⟨sd,hsd⟩ : ∃ sd,sd = S.data:=⟨_,rfl⟩
    obtain ⟨sf,hsf⟩ : ∃ sf,sf = S.fixes.length:=⟨_,rfl⟩
    obtain ⟨FD,hFD⟩ : ∃ FD,FD = (LM.fillN S).1:=⟨_,rfl⟩
    rw [<- hsp] at c0 HFK HSK
    rw [<- hsd] at c1 HFK
    rw [<- hsf] at c2 HFK
    rw [<- hFD] at HFK HSK
    have HRD : Hid (∀ V,Kp (fun b=>w3.heap.size <= b) wr V -> V.cell? ⟨x,1,none⟩ = some (.slice (some ⟨b,off,none⟩) n ch) /\ V.cell? ⟨b,off + k * 3,none⟩ = some (.int .i64 sp) /\ V.cell? ⟨b,off + k * 3 + 1,none⟩ = some (.string sd) /\ V.cell? ⟨b,off + k * 3 + 2,none⟩ = some (.slice S.ao sf S.cap)):=fun V hV=>by
     have hw:=HBW3.out.trans (HBR.out.mono HBW3.out.size)
     have hlb : ¬ w3.heap.size <= b:=by have:=HBW3.out.size;omega
     exact ⟨hV.cell (HSX.out _ HKR0.out).2.1 (show ¬ w3.heap.size <= x by omega),hV.cell ((M.below_cell hw hbl).trans c0) hlb,hV.cell ((M.below_cell hw hbl).trans c1) hlb,hV.cell ((M.below_cell hw hbl).trans c2) hlb⟩
    have HK0:=hideC (Below.refl wr.heap.size wr).drew
    have m0 : wr.drew.cell? ⟨w3.heap.size,2,none⟩ = some (.slice av k cv):=B.cell HTB.out 2 rfl
    have HS0:=hideC (HRD.out _ (Kp.ofBelow HK0.out))
    clear htb hrow hbr hlie hS hsp hsd hsf hFD c0 c1 c2
    go_wp2_with fail
    refine wp_region_held_drew (S:=(fun V=>V.cell? ⟨x,1,none⟩ = some (.slice (some ⟨b,off,none⟩) n ch) /\ V.cell? ⟨b,off + k * 3,none⟩ = some (.int .i64 sp) /\ V.cell? ⟨b,off + k * 3 + 1,none⟩ = some (.string sd) /\ V.cell? ⟨b,off + k * 3 + 2,none⟩ = some (.slice S.ao sf S.cap))) (by kernel_rfl) ?_ (fun hHeld=>?_)
    · exact HS0.out
    refine wpAnyH_take (i:=0) (v:=?_) rfl (by kernel_rfl) (by kernel_rfl) (by kernel_rfl) (fun _ _ _ h=>h) (Or.inl ⟨by rfl,?_⟩) (by assumption) ?_
    rotate_left 1
    · intro w hSw
      try dsimp only at hSw
      go_simp
      try with_reducible rfl
    try simp only [Act.put,List.setIfInBounds_toArray,List.set_cons_zero,List.set_cons_succ]
    refine wpAnyH_take (i:=2) (v:=?_) rfl (by kernel_rfl) (by kernel_rfl) (by kernel_rfl) (fun _ _ _ h=>h) (Or.inl ⟨by rfl,?_⟩) (by assumption) ?_
    rotate_left 1
    · intro w hSw
      try dsimp only at hSw
      go_simp
      try with_reducible rfl
    try simp only [Act.put,List.setIfInBounds_toArray,List.set_cons_zero,List.set_cons_succ]
    refine wpAnyH_take (i:=3) (v:=?_) rfl (by kernel_rfl) (by kernel_rfl) (by kernel_rfl) (fun _ _ _ h=>h) (Or.inl ⟨by rfl,?_⟩) (by assumption) ?_
    rotate_left 1
    · intro w hSw
      try dsimp only at hSw
      go_simp
      try with_reducible rfl
    try simp only [Act.put,List.setIfInBounds_toArray,List.set_cons_zero,List.set_cons_succ]
    refine wpAnyH_take (i:=4) (v:=?_) rfl (by kernel_rfl) (by kernel_rfl) (by kernel_rfl) (fun _ _ _ h=>h) (Or.inl ⟨by rfl,?_⟩) (by assumption) ?_
    rotate_left 1
    · intro w hSw
      try dsimp only at hSw
      go_simp
      try with_reducible rfl
    try simp only [Act.put,List.setIfInBounds_toArray,List.set_cons_zero,List.set_cons_succ]
    refine wpAnyH_take (i:=5) (v:=?_) rfl (by kernel_rfl) (by kernel_rfl) (by kernel_rfl) (fun _ _ _ h=>h) (Or.inl ⟨by rfl,?_⟩) (by assumption) ?_
    rotate_left 1
    · intro w hSw
      try dsimp only at hSw
      go_simp
      try with_reducible rfl
    try simp only [Act.put,List.setIfInBounds_toArray,List.set_cons_zero,List.set_cons_succ]
    refine wpAnyH_take (i:=6) (v:=?_) rfl (by kernel_rfl) (by kernel_rfl) (by kernel_rfl) (fun _ _ _ h=>h) (Or.inl ⟨by rfl,?_⟩) (by assumption) ?_
    rotate_left 1
    · intro w hSw
      try dsimp only at hSw
      go_simp
      try with_reducible rfl
    try simp only [Act.put,List.setIfInBounds_toArray,List.set_cons_zero,List.set_cons_succ]
    refine wpAnyH_take (i:=7) (v:=?_) rfl (by kernel_rfl) (by kernel_rfl) (by kernel_rfl) (fun _ _ _ h=>h) (Or.inl ⟨by rfl,?_⟩) (by assumption) ?_
    rotate_left 1
    · intro w hSw
      try dsimp only at hSw
      go_simp
      try with_reducible rfl
    try simp only [Act.put,List.setIfInBounds_toArray,List.set_cons_zero,List.set_cons_succ]
    refine wpAnyH_take (i:=8) (v:=?_) rfl (by kernel_rfl) (by kernel_rfl) (by kernel_rfl) (fun _ _ _ h=>h) (Or.inl ⟨by rfl,?_⟩) (by assumption) ?_
    rotate_left 1
    · intro w hSw
      try dsimp only at hSw
      go_simp
      try with_reducible rfl
    try simp only [Act.put,List.setIfInBounds_toArray,List.set_cons_zero,List.set_cons_succ]
    refine wpAnyH_take (i:=9) (v:=?_) rfl (by kernel_rfl) (by kernel_rfl) (by kernel_rfl) (fun _ _ _ h=>h) (Or.inl ⟨by rfl,?_⟩) (by assumption) ?_
    rotate_left 1
    · intro w hSw
      try dsimp only at hSw
      go_simp
      try with_reducible rfl
    try simp only [Act.put,List.setIfInBounds_toArray,List.set_cons_zero,List.set_cons_succ]
    refine wpAnyH_take (i:=10) (v:=?_) rfl (by kernel_rfl) (by kernel_rfl) (by kernel_rfl) (fun _ _ _ h=>h) (Or.inl ⟨by rfl,?_⟩) (by assumption) ?_
    rotate_left 1
    · intro w hSw
      try dsimp only at hSw
      go_simp
      try with_reducible rfl
    try simp only [Act.put,List.setIfInBounds_toArray,List.set_cons_zero,List.set_cons_succ]
    refine wpAnyH_take (i:=11) (v:=?_) rfl (by kernel_rfl) (by kernel_rfl) (by kernel_rfl) (fun _ _ _ h=>h) (Or.inl ⟨by rfl,?_⟩) (by assumption) ?_
    rotate_left 1
    · intro w hSw
      try dsimp only at hSw
      go_simp
      try with_reducible rfl
    try simp only [Act.put,List.setIfInBounds_toArray,List.set_cons_zero,List.set_cons_succ]
    refine wpAnyH_take (i:=12) (v:=?_) rfl (by kernel_rfl) (by kernel_rfl) (by kernel_rfl) (fun _ _ _ h=>h) (Or.inl ⟨by rfl,?_⟩) (by assumption) ?_
    rotate_left 1
    · intro w hSw
      try dsimp only at hSw
      go_simp
      try with_reducible rfl
    try simp only [Act.put,List.setIfInBounds_toArray,List.set_cons_zero,List.set_cons_succ]
    refine wpAnyH_ready (rs:=[1,13]) (by kernel_rfl) (by simp) ?_
    refine AllReadyH.cons rfl (fun K hK=>?_) ?_
    · go_simp
      refine hK.out _ _ ?_ (fun hHeld=>?_)
      · try dsimp only
        first | exact HS7.out | exact HS6.out | exact HS5a.out _ | exact HS5.out | exact HS0.out
      clear hK K
      try simp only [Act.put,List.setIfInBounds_toArray,List.set_cons_zero,List.set_cons_succ]
      refine wpAnyH_ready (rs:=[13]) (by kernel_rfl) (by simp) ?_
      refine AllReadyH.cons rfl (fun K hK=>?_) ?_
      · go_simp;go_at_call 29;refine (HFK.out _ (HBW3.out.trans ((HBR.out.trans (HK0.out.mono HBR.out.size)).mono HBW3.out.size))).mono ?_;rintro e w5 ⟨rfl,hb5⟩;have HK5:=hideC (HK0.out.trans (hb5.mono HK0.out.size));have HB5:=hideC (HBR.out.trans (HK5.out.mono HBR.out.size));have hl5:=HK5.out.size;have HTB5:=hideC (B.below HTB.out HK5.out (B.isLt HTB.out));have HRW5:=hideC (Kp.row (Kp.ofBelow (D:=fun _=>False) HK5.out) HRW.out (fun _ _ g=>g));have n0 : w5.cell? ⟨w3.heap.size,2,none⟩ = some (.slice av k cv):=B.cell HTB5.out 2 rfl;have o0 : ∀ o,(w5.alloc o).cell? ⟨w3.heap.size,2,none⟩ = some (.slice av k cv):=(fun o=>B.cell (B.alloc HTB5.out o) 2 rfl);have HS5:=hideC (HRD.out _ (Kp.ofBelow HK5.out));have HS5a:=hideC (fun o=>HRD.out _ (Kp.ofBelow (HK5.out.alloc HK5.out.size o)));clear hb5;go_wp2_with fail
        refine hK.out _ _ ?_ (fun hHeld=>?_)
        · try dsimp only
          first | exact HS7.out | exact HS6.out | exact HS5a.out _ | exact HS5.out | exact HS0.out
        clear hK K
        try simp only [Act.put,List.setIfInBounds_toArray,List.set_cons_zero,List.set_cons_succ]
        refine wpAnyH_take (i:=14) (v:=?_) rfl (by kernel_rfl) (by kernel_rfl) (by kernel_rfl) (fun _ _ _ h=>h) (Or.inl ⟨by rfl,?_⟩) (by assumption) ?_
        rotate_left 1
        · intro w hSw
          try dsimp only at hSw
          go_simp
          try with_reducible rfl
        try simp only [Act.put,List.setIfInBounds_toArray,List.set_cons_zero,List.set_cons_succ]
        refine wpAnyH_ready (rs:=[15]) (by kernel_rfl) (by simp) ?_
        refine AllReadyH.cons rfl (fun K hK=>?_) ?_
        · go_simp
          refine hK.out _ _ ?_ (fun hHeld=>?_)
          · try dsimp only
            first | exact HS7.out | exact HS6.out | exact HS5a.out _ | exact HS5.out | exact HS0.out
          clear hK K
          try simp only [Act.put,List.setIfInBounds_toArray,List.set_cons_zero,List.set_cons_succ]
          refine wpAnyH_ready (rs:=[16]) (by kernel_rfl) (by simp) ?_
          refine AllReadyH.cons rfl (fun K hK=>?_) ?_
          · rw [if_pos (by rfl)];refine wp_append_src (P:=Tryz.prog) _ _ 51 rfl (w3.heap.size + 1) 65 i0 (.agg #[.int .i64 0,.string ⟨#[]⟩]) 2 24 Tryz.underlying51 HIN.out HZ0.out HZ1.out HZ2.out rfl (by decide) _ k (((hs.take k).map pgOf).flatMap cellPg) rfl (HRW5.out.alloc _) (some ⟨w5.heap.size,0,none⟩) 1 1 [.int .i64 sp,.string FD] rfl rfl (fun _=>⟨_,rfl,B.news (B.new w5 _ _)⟩) (by intro u hu;simp at hu;rcases hu with rfl | rfl <;> rfl) (by unfold maxLen;omega) (by omega) (by simp;omega) ?_;intro v' w6 hown hgr hat;obtain ⟨a6,c6,hv6,_,_⟩:=row_form hown;subst hv6;have HO6:=hideC hown;have HG6:=hideC hgr;have HT6:=hideC (B.grown (B.alloc HTB5.out (.cells #[.int .i64 sp,.string FD] 65)) hgr (fun e=>by have:=(HRW5.out.lt _ e.symm).1;omega));have t6 : w6.cell? ⟨w3.heap.size,2,none⟩ = some (.slice av k cv):=B.cell HT6.out 2 rfl;have t7:=B.free HT6.out 2;have HKP6 : Hid (Kp (fun b=>w3.heap.size <= b) wr w6):=(((Kp.ofBelow (D:=fun b=>w3.heap.size <= b) HK5.out).trans (Kp.alloc (fun b=>w3.heap.size <= b) w5 _) (fun _ _ g=>g)).trans (Kp.grown (D:=fun b=>w3.heap.size <= b) hgr (fun g hg=>by have:=(HRW5.out.lt g hg).1;omega)) (fun _ _ g=>g));have HS6:=hideC (HRD.out _ HKP6.out);have HS7:=hideC (HRD.out _ ((HKP6.out.trans (Kp.set (fun b=>w3.heap.size <= b) w6 ⟨w3.heap.size,2,none⟩ (.slice a6 (k + 1) c6) (Nat.le_refl _)) (fun _ _ g=>g)).trans (Kp.drew _ _) (fun _ _ g=>g)));clear hown hgr hat
            refine hK.out _ _ ?_ (fun hHeld=>?_)
            · try dsimp only
              first | exact HS7.out | exact HS6.out | exact HS5a.out _ | exact HS5.out | exact HS0.out
            clear hK K
            try simp only [Act.put,List.setIfInBounds_toArray,List.set_cons_zero,List.set_cons_succ]
            refine wpAnyH_take (i:=17) (v:=?_) rfl (by kernel_rfl) (by kernel_rfl) (by kernel_rfl) (fun _ _ _ h=>h) (Or.inl ⟨by rfl,?_⟩) (by assumption) ?_
            rotate_left 1
            · intro w hSw
              try dsimp only at hSw
              go_simp
              try with_reducible rfl
            try simp only [Act.put,List.setIfInBounds_toArray,List.set_cons_zero,List.set_cons_succ]
            refine wpAnyH_ready (rs:=[18]) (by kernel_rfl) (by simp) ?_
            refine AllReadyH.cons rfl (fun K hK=>?_) ?_
            · go_simp
              refine hK.out _ _ ?_ (fun hHeld=>?_)
              · try dsimp only
                first | exact HS7.out | exact HS6.out | exact HS5a.out _ | exact HS5.out | exact HS0.out
              clear hK K
              try simp only [Act.put,List.setIfInBounds_toArray,List.set_cons_zero,List.set_cons_succ]
              refine wpAnyH_done (by kernel_rfl) ?_ _
              go_wp2
              go_roundw
              case rel =>
               refine ⟨k + 1,a6,c6,by omega,by go_num,?_,?_,?_⟩
               · exact B.set HT6.out 2 _
               · have hr:=Kp.row (Kp.set (fun b=>b = w3.heap.size) w6 ⟨w3.heap.size,2,none⟩ (.slice a6 (k + 1) c6) rfl) HO6.out (fun g hg e=>by have:=(HO6.out.lt g hg).1;omega)
                 rw [HSK.out]
                 exact hr
               · have hk6 : Kp (fun b=>w3.heap.size <= b) w5 w6:=((Kp.alloc (fun b=>w3.heap.size <= b) w5 (.cells #[.int .i64 sp,.string FD] 65)).trans (Kp.grown (D:=fun b=>w3.heap.size <= b) HG6.out (fun g hg=>by have:=(HRW5.out.lt g hg).1;omega)) (fun _ _ g=>g))
                 exact Kp.below (Kp.below HB5.out hk6 HB5.out.size (fun b g=>g)) (Kp.set (fun b=>w3.heap.size <= b) w6 ⟨w3.heap.size,2,none⟩ _ (Nat.le_refl _)) (Nat.le_trans HB5.out.size hk6.size) (fun b g=>g)
              case measure=>simp [intOf];omega
            exact AllReadyH.nil
          exact AllReadyH.nil
        exact AllReadyH.nil
      exact AllReadyH.nil
    refine AllReadyH.cons rfl (fun K hK=>?_) ?_
    · go_simp;go_at_call 29;refine (HFK.out _ (HBW3.out.trans ((HBR.out.trans (HK0.out.mono HBR.out.size)).mono HBW3.out.size))).mono ?_;rintro e w5 ⟨rfl,hb5⟩;have HK5:=hideC (HK0.out.trans (hb5.mono HK0.out.size));have HB5:=hideC (HBR.out.trans (HK5.out.mono HBR.out.size));have hl5:=HK5.out.size;have HTB5:=hideC (B.below HTB.out HK5.out (B.isLt HTB.out));have HRW5:=hideC (Kp.row (Kp.ofBelow (D:=fun _=>False) HK5.out) HRW.out (fun _ _ g=>g));have n0 : w5.cell? ⟨w3.heap.size,2,none⟩ = some (.slice av k cv):=B.cell HTB5.out 2 rfl;have o0 : ∀ o,(w5.alloc o).cell? ⟨w3.heap.size,2,none⟩ = some (.slice av k cv):=(fun o=>B.cell (B.alloc HTB5.out o) 2 rfl);have HS5:=hideC (HRD.out _ (Kp.ofBelow HK5.out));have HS5a:=hideC (fun o=>HRD.out _ (Kp.ofBelow (HK5.out.alloc HK5.out.size o)));clear hb5;go_wp2_with fail
      refine hK.out _ _ ?_ (fun hHeld=>?_)
      · try dsimp only
        first | exact HS7.out | exact HS6.out | exact HS5a.out _ | exact HS5.out | exact HS0.out
      clear hK K
      try simp only [Act.put,List.setIfInBounds_toArray,List.set_cons_zero,List.set_cons_succ]
      refine wpAnyH_take (i:=14) (v:=?_) rfl (by kernel_rfl) (by kernel_rfl) (by kernel_rfl) (fun _ _ _ h=>h) (Or.inl ⟨by rfl,?_⟩) (by assumption) ?_
      rotate_left 1
      · intro w hSw
        try dsimp only at hSw
        go_simp
        try with_reducible rfl
      try simp only [Act.put,List.setIfInBounds_toArray,List.set_cons_zero,List.set_cons_succ]
      refine wpAnyH_ready (rs:=[1,15]) (by kernel_rfl) (by simp) ?_
      refine AllReadyH.cons rfl (fun K hK=>?_) ?_
      · go_simp
        refine hK.out _ _ ?_ (fun hHeld=>?_)
        · try dsimp only
          first | exact HS7.out | exact HS6.out | exact HS5a.out _ | exact HS5.out | exact HS0.out
        clear hK K
        try simp only [Act.put,List.setIfInBounds_toArray,List.set_cons_zero,List.set_cons_succ]
        refine wpAnyH_ready (rs:=[15]) (by kernel_rfl) (by simp) ?_
        refine AllReadyH.cons rfl (fun K hK=>?_) ?_
        · go_simp
          refine hK.out _ _ ?_ (fun hHeld=>?_)
          · try dsimp only
            first | exact HS7.out | exact HS6.out | exact HS5a.out _ | exact HS5.out | exact HS0.out
          clear hK K
          try simp only [Act.put,List.setIfInBounds_toArray,List.set_cons_zero,List.set_cons_succ]
          refine wpAnyH_ready (rs:=[16]) (by kernel_rfl) (by simp) ?_
          refine AllReadyH.cons rfl (fun K hK=>?_) ?_
          · rw [if_pos (by rfl)];refine wp_append_src (P:=Tryz.prog) _ _ 51 rfl (w3.heap.size + 1) 65 i0 (.agg #[.int .i64 0,.string ⟨#[]⟩]) 2 24 Tryz.underlying51 HIN.out HZ0.out HZ1.out HZ2.out rfl (by decide) _ k (((hs.take k).map pgOf).flatMap cellPg) rfl (HRW5.out.alloc _) (some ⟨w5.heap.size,0,none⟩) 1 1 [.int .i64 sp,.string FD] rfl rfl (fun _=>⟨_,rfl,B.news (B.new w5 _ _)⟩) (by intro u hu;simp at hu;rcases hu with rfl | rfl <;> rfl) (by unfold maxLen;omega) (by omega) (by simp;omega) ?_;intro v' w6 hown hgr hat;obtain ⟨a6,c6,hv6,_,_⟩:=row_form hown;subst hv6;have HO6:=hideC hown;have HG6:=hideC hgr;have HT6:=hideC (B.grown (B.alloc HTB5.out (.cells #[.int .i64 sp,.string FD] 65)) hgr (fun e=>by have:=(HRW5.out.lt _ e.symm).1;omega));have t6 : w6.cell? ⟨w3.heap.size,2,none⟩ = some (.slice av k cv):=B.cell HT6.out 2 rfl;have t7:=B.free HT6.out 2;have HKP6 : Hid (Kp (fun b=>w3.heap.size <= b) wr w6):=(((Kp.ofBelow (D:=fun b=>w3.heap.size <= b) HK5.out).trans (Kp.alloc (fun b=>w3.heap.size <= b) w5 _) (fun _ _ g=>g)).trans (Kp.grown (D:=fun b=>w3.heap.size <= b) hgr (fun g hg=>by have:=(HRW5.out.lt g hg).1;omega)) (fun _ _ g=>g));have HS6:=hideC (HRD.out _ HKP6.out);have HS7:=hideC (HRD.out _ ((HKP6.out.trans (Kp.set (fun b=>w3.heap.size <= b) w6 ⟨w3.heap.size,2,none⟩ (.slice a6 (k + 1) c6) (Nat.le_refl _)) (fun _ _ g=>g)).trans (Kp.drew _ _) (fun _ _ g=>g)));clear hown hgr hat
            refine hK.out _ _ ?_ (fun hHeld=>?_)
            · try dsimp only
              first | exact HS7.out | exact HS6.out | exact HS5a.out _ | exact HS5.out | exact HS0.out
            clear hK K
            try simp only [Act.put,List.setIfInBounds_toArray,List.set_cons_zero,List.set_cons_succ]
            refine wpAnyH_take (i:=17) (v:=?_) rfl (by kernel_rfl) (by kernel_rfl) (by kernel_rfl) (fun _ _ _ h=>h) (Or.inl ⟨by rfl,?_⟩) (by assumption) ?_
            rotate_left 1
            · intro w hSw
              try dsimp only at hSw
              go_simp
              try with_reducible rfl
            try simp only [Act.put,List.setIfInBounds_toArray,List.set_cons_zero,List.set_cons_succ]
            refine wpAnyH_ready (rs:=[18]) (by kernel_rfl) (by simp) ?_
            refine AllReadyH.cons rfl (fun K hK=>?_) ?_
            · go_simp
              refine hK.out _ _ ?_ (fun hHeld=>?_)
              · try dsimp only
                first | exact HS7.out | exact HS6.out | exact HS5a.out _ | exact HS5.out | exact HS0.out
              clear hK K
              try simp only [Act.put,List.setIfInBounds_toArray,List.set_cons_zero,List.set_cons_succ]
              refine wpAnyH_done (by kernel_rfl) ?_ _
              go_wp2
              go_roundw
              case rel =>
               refine ⟨k + 1,a6,c6,by omega,by go_num,?_,?_,?_⟩
               · exact B.set HT6.out 2 _
               · have hr:=Kp.row (Kp.set (fun b=>b = w3.heap.size) w6 ⟨w3.heap.size,2,none⟩ (.slice a6 (k + 1) c6) rfl) HO6.out (fun g hg e=>by have:=(HO6.out.lt g hg).1;omega)
                 rw [HSK.out]
                 exact hr
               · have hk6 : Kp (fun b=>w3.heap.size <= b) w5 w6:=((Kp.alloc (fun b=>w3.heap.size <= b) w5 (.cells #[.int .i64 sp,.string FD] 65)).trans (Kp.grown (D:=fun b=>w3.heap.size <= b) HG6.out (fun g hg=>by have:=(HRW5.out.lt g hg).1;omega)) (fun _ _ g=>g))
                 exact Kp.below (Kp.below HB5.out hk6 HB5.out.size (fun b g=>g)) (Kp.set (fun b=>w3.heap.size <= b) w6 ⟨w3.heap.size,2,none⟩ _ (Nat.le_refl _)) (Nat.le_trans HB5.out.size hk6.size) (fun b g=>g)
              case measure=>simp [intOf];omega
            exact AllReadyH.nil
          exact AllReadyH.nil
        exact AllReadyH.nil
      refine AllReadyH.cons rfl (fun K hK=>?_) ?_
      · go_simp
        refine hK.out _ _ ?_ (fun hHeld=>?_)
        · try dsimp only
          first | exact HS7.out | exact HS6.out | exact HS5a.out _ | exact HS5.out | exact HS0.out
        clear hK K
        try simp only [Act.put,List.setIfInBounds_toArray,List.set_cons_zero,List.set_cons_succ]
        refine wpAnyH_ready (rs:=[1]) (by kernel_rfl) (by simp) ?_
        refine AllReadyH.cons rfl (fun K hK=>?_) ?_
        · go_simp
          refine hK.out _ _ ?_ (fun hHeld=>?_)
          · try dsimp only
            first | exact HS7.out | exact HS6.out | exact HS5a.out _ | exact HS5.out | exact HS0.out
          clear hK K
          try simp only [Act.put,List.setIfInBounds_toArray,List.set_cons_zero,List.set_cons_succ]
          refine wpAnyH_ready (rs:=[16]) (by kernel_rfl) (by simp) ?_
          refine AllReadyH.cons rfl (fun K hK=>?_) ?_
          · rw [if_pos (by rfl)];refine wp_append_src (P:=Tryz.prog) _ _ 51 rfl (w3.heap.size + 1) 65 i0 (.agg #[.int .i64 0,.string ⟨#[]⟩]) 2 24 Tryz.underlying51 HIN.out HZ0.out HZ1.out HZ2.out rfl (by decide) _ k (((hs.take k).map pgOf).flatMap cellPg) rfl (HRW5.out.alloc _) (some ⟨w5.heap.size,0,none⟩) 1 1 [.int .i64 sp,.string FD] rfl rfl (fun _=>⟨_,rfl,B.news (B.new w5 _ _)⟩) (by intro u hu;simp at hu;rcases hu with rfl | rfl <;> rfl) (by unfold maxLen;omega) (by omega) (by simp;omega) ?_;intro v' w6 hown hgr hat;obtain ⟨a6,c6,hv6,_,_⟩:=row_form hown;subst hv6;have HO6:=hideC hown;have HG6:=hideC hgr;have HT6:=hideC (B.grown (B.alloc HTB5.out (.cells #[.int .i64 sp,.string FD] 65)) hgr (fun e=>by have:=(HRW5.out.lt _ e.symm).1;omega));have t6 : w6.cell? ⟨w3.heap.size,2,none⟩ = some (.slice av k cv):=B.cell HT6.out 2 rfl;have t7:=B.free HT6.out 2;have HKP6 : Hid (Kp (fun b=>w3.heap.size <= b) wr w6):=(((Kp.ofBelow (D:=fun b=>w3.heap.size <= b) HK5.out).trans (Kp.alloc (fun b=>w3.heap.size <= b) w5 _) (fun _ _ g=>g)).trans (Kp.grown (D:=fun b=>w3.heap.size <= b) hgr (fun g hg=>by have:=(HRW5.out.lt g hg).1;omega)) (fun _ _ g=>g));have HS6:=hideC (HRD.out _ HKP6.out);have HS7:=hideC (HRD.out _ ((HKP6.out.trans (Kp.set (fun b=>w3.heap.size <= b) w6 ⟨w3.heap.size,2,none⟩ (.slice a6 (k + 1) c6) (Nat.le_refl _)) (fun _ _ g=>g)).trans (Kp.drew _ _) (fun _ _ g=>g)));clear hown hgr hat
            refine hK.out _ _ ?_ (fun hHeld=>?_)
            · try dsimp only
              first | exact HS7.out | exact HS6.out | exact HS5a.out _ | exact HS5.out | exact HS0.out
            clear hK K
            try simp only [Act.put,List.setIfInBounds_toArray,List.set_cons_zero,List.set_cons_succ]
            refine wpAnyH_take (i:=17) (v:=?_) rfl (by kernel_rfl) (by kernel_rfl) (by kernel_rfl) (fun _ _ _ h=>h) (Or.inl ⟨by rfl,?_⟩) (by assumption) ?_
            rotate_left 1
            · intro w hSw
              try dsimp only at hSw
              go_simp
              try with_reducible rfl
            try simp only [Act.put,List.setIfInBounds_toArray,List.set_cons_zero,List.set_cons_succ]
            refine wpAnyH_ready (rs:=[18]) (by kernel_rfl) (by simp) ?_
            refine AllReadyH.cons rfl (fun K hK=>?_) ?_
            · go_simp
              refine hK.out _ _ ?_ (fun hHeld=>?_)
              · try dsimp only
                first | exact HS7.out | exact HS6.out | exact HS5a.out _ | exact HS5.out | exact HS0.out
              clear hK K
              try simp only [Act.put,List.setIfInBounds_toArray,List.set_cons_zero,List.set_cons_succ]
              refine wpAnyH_done (by kernel_rfl) ?_ _
              go_wp2
              go_roundw
              case rel =>
               refine ⟨k + 1,a6,c6,by omega,by go_num,?_,?_,?_⟩
               · exact B.set HT6.out 2 _
               · have hr:=Kp.row (Kp.set (fun b=>b = w3.heap.size) w6 ⟨w3.heap.size,2,none⟩ (.slice a6 (k + 1) c6) rfl) HO6.out (fun g hg e=>by have:=(HO6.out.lt g hg).1;omega)
                 rw [HSK.out]
                 exact hr
               · have hk6 : Kp (fun b=>w3.heap.size <= b) w5 w6:=((Kp.alloc (fun b=>w3.heap.size <= b) w5 (.cells #[.int .i64 sp,.string FD] 65)).trans (Kp.grown (D:=fun b=>w3.heap.size <= b) HG6.out (fun g hg=>by have:=(HRW5.out.lt g hg).1;omega)) (fun _ _ g=>g))
                 exact Kp.below (Kp.below HB5.out hk6 HB5.out.size (fun b g=>g)) (Kp.set (fun b=>w3.heap.size <= b) w6 ⟨w3.heap.size,2,none⟩ _ (Nat.le_refl _)) (Nat.le_trans HB5.out.size hk6.size) (fun b g=>g)
              case measure=>simp [intOf];omega
            exact AllReadyH.nil
          exact AllReadyH.nil
        exact AllReadyH.nil
      exact AllReadyH.nil
    exact AllReadyH.nil
  · obtain rfl : n = k:=by omega
    clear htb hrow hbr
    obtain rfl : l.length = na:=HNA.out.symm
    have HKR:=hideC (HB3.out.trans (HBR.out.mono HB3.out.size))
    obtain ⟨⟨z0,z1,z2,z3⟩,f0,f1,f2,f3⟩:=HZC.out _ HKR.out
    obtain ⟨r0,r1,r2⟩:=HSX.out _ HKR.out
    have t0 : wr.cell? ⟨w3.heap.size,0,none⟩ = some (.bool true):=B.cell HTB.out 0 rfl
    have t1 : wr.cell? ⟨w3.heap.size,1,none⟩ = some (.slice a3 l.length c3):=B.cell HTB.out 1 rfl
    have t2 : wr.cell? ⟨w3.heap.size,2,none⟩ = some (.slice av n cv):=B.cell HTB.out 2 rfl
    have HDR:=hideC ((Below.refl wr.heap.size wr).drew)
    have HAD : Hid (∀ o,Below wr.heap.size wr (wr.alloc o).drew /\ wr.heap.size <= (wr.alloc o).drew.heap.size):=fun o=>⟨((Below.refl wr.heap.size wr).alloc (Nat.le_refl _) o).drew,((Below.refl wr.heap.size wr).alloc (Nat.le_refl _) o).drew.size⟩
    have HFIN : Hid (∀ (Y : World) (A C : Nat),Y.heap[A]? = some (.cells #[.bool true,.slice a3 l.length c3,.slice av n cv] 53 (0,0)) -> Y.heap[C]? = some (.cells #[.int .i64 0,.int .i64 0,.int .i64 0,.int .i64 0,.int .i64 0,.int .i64 0,.int .i64 0,.int .i64 0,.int .i64 en,.int .i64 1,.int .i64 0,.int .i64 0,.int .i64 0] 70 (0,0)) -> Below wr.heap.size wr Y -> wr.heap.size <= A -> wr.heap.size <= C -> P (.returned (.agg #[.int .i64 slots,.slice (some ⟨A,0,none⟩) 1 1,.slice (some ⟨C,0,none⟩) 1 1,.slice none 0 0])) ((((Y.setCell ⟨z,0,none⟩ (.int .i64 slots)).setCell ⟨z,1,none⟩ (.slice (some ⟨A,0,none⟩) 1 1)).setCell ⟨z,2,none⟩ (.slice (some ⟨C,0,none⟩) 1 1)).setCell ⟨z,3,none⟩ (.slice none 0 0))):=fun Y A C hA hC hY hAl hCl=>by
     refine HP.out _ _ ?_
     have hk4:=kp_set4 Y z (.int .i64 slots) (.slice (some ⟨A,0,none⟩) 1 1) (.slice (some ⟨C,0,none⟩) 1 1) (.slice none 0 0)
     have hw3:=HBW3.out.size
     have hwr:=HBR.out.size
     have hzl : z < w3.heap.size:=Nat.lt_of_lt_of_le hzWA HB3.out.size
     have hwz:=HWZ.out
     refine ⟨some ⟨A,0,none⟩,1,some ⟨C,0,none⟩,1,rfl,fun V hV=>?_,?_⟩
     · have hk : Kp (fun b=>b <= z) Y V:=(hk4.mono (fun b _ e=>Nat.le_of_eq e)).trans hV (fun b _ g=>by have g' : b < w.heap.size:=g;omega)
       have gA:=hk.keep hA (fun g=>by have g' : A <= z:=g;omega)
       have gC:=hk.keep hC (fun g=>by have g' : C <= z:=g;omega)
       have hO : AW.Own (z + 1) V (.slice a3 l.length c3) l:=by
        have h1:=HO3.out
        have h2 : w3.ownsRow WA.heap.size 59 4 (.slice a3 l.length c3) l.length (AM.areaCells l):=h1
        have hz2 : z < WA.heap.size:=hzWA
        have h3:=Kp.row (Kp.ofBelow (D:=fun _=>False) HBR.out) h2 (fun _ _ g=>g)
        have h4:=Kp.row (Kp.ofBelow (D:=fun _=>False) hY) h3 (fun _ _ g=>g)
        have h5:=Kp.row hk h4 (fun g hg e=>by have g' : g <= z:=e;have:=(h2.lt g hg).1;omega)
        exact row_base h5 (fun g hg=>by have:=(h2.lt g hg).1;omega)
       have hPg:=Kp.row hk (Kp.row (Kp.ofBelow (D:=fun _=>False) hY) HRW.out (fun _ _ g=>g)) (fun g hg e=>by have g' : g <= z:=e;have:=(HRW.out.lt g hg).1;omega)
       have hfull : (hs.take n).map pgOf = hs.map pgOf:=by rw [HN.out,List.take_length]
       rw [hfull] at hPg
       have hlen : (hs.map pgOf).length = n:=by rw [List.length_map,HN.out]
       have hHP : FW.HasP V av (hs.map pgOf):=fun hp=>by
        obtain ⟨ao',cap',e0,_,hg⟩:=row_form hPg
        injection e0 with ea _ _
        obtain ⟨g,hgo,_,hglt⟩:=hg (by omega)
        have hao : av = some ⟨g,0,none⟩:=ea.trans hgo
        refine ⟨g,0,hao,hglt,fun i hi=>?_⟩
        rw [hao,<- hlen] at hPg
        rw [Nat.zero_add]
        exact ⟨row_at cellPg cellPg_len FM.pg0 hPg i 0 hi (by omega),row_at cellPg cellPg_len FM.pg0 hPg i 1 hi (by omega)⟩
       refine ⟨fun _=>⟨A,0,rfl,B.isLt gA,fun i hi=>?_⟩,fun _=>⟨C,0,rfl,B.isLt gC,fun i hi=>?_⟩,fun g=>absurd g (Nat.not_lt_zero _)⟩
       · have hi' : i < 1:=hi
         obtain rfl : i = 0:=by omega
         refine ⟨_,av,cv,B.cell gA 0 rfl,B.cell gA 1 rfl,?_,AW.Own.has hO,hHP,?_⟩
         · have:=B.cell gA 2 (v:=.slice av n cv) rfl
           rw [<- hlen] at this
           exact this
         · show (hs.map pgOf).length <= cv
           obtain ⟨ao',cap',e0,hcc,_⟩:=row_form hPg
           injection e0 with _ _ ec
           omega
       · have hi' : i < 1:=hi
         obtain rfl : i = 0:=by omega
         exact ⟨B.cell gC 0 rfl,B.cell gC 1 rfl,B.cell gC 2 rfl,B.cell gC 3 rfl,B.cell gC 4 rfl,B.cell gC 5 rfl,B.cell gC 6 rfl,B.cell gC 7 rfl,B.cell gC 8 rfl,B.cell gC 9 rfl,B.cell gC 10 rfl,B.cell gC 11 rfl,B.cell gC 12 rfl⟩
     · exact Kp.below ((HBW3.out.trans (HBR.out.mono HBW3.out.size)).trans (hY.mono (by omega))) hk4 (by have:=hY.size;omega) (fun b e=>by have e' : b = z:=e;omega)
    have hxr : ¬ x = wr.heap.size:=by have:=World.block_lt_of_cell? _ _ r0;have h' : x < wr.heap.size:=this;omega
    have hzr : z < wr.heap.size:=Nat.lt_of_lt_of_le hzWA HKR.out.size
    have hzr' : ¬ z = wr.heap.size:=by omega
    have htr' : ¬ w3.heap.size = wr.heap.size:=by omega
    have r3 : ∀ o,(wr.alloc o).cell? ⟨x,0,none⟩ = some (.slice aa l.length ca):=fun o=>(HSX.out _ (HKR.out.alloc HKR.out.size o)).1
    have r4 : ∀ o,(wr.alloc o).cell? ⟨x,1,none⟩ = some (.slice ah n ch):=fun o=>(HSX.out _ (HKR.out.alloc HKR.out.size o)).2.1
    have r5 : ∀ o,(wr.alloc o).cell? ⟨x,2,none⟩ = some (.int .i64 en):=fun o=>(HSX.out _ (HKR.out.alloc HKR.out.size o)).2.2
    clear HFI HHH HTS HP p0 p1 p2 HT3 HA3 HIN HZ0 HZ1 HZ2 HNA
    go_wp2_with fail
    go_region_law (go_simp;go_at_call 30;refine (HFS.out _).mono ?_;rintro e w7 ⟨C,rfl,hCl,hC7,hb7⟩;have hs7 : wr.heap.size <= w7.heap.size:=(by first | exact hb7.size | (have:=hb7.size;simp at this;omega));have hCw : wr.heap.size <= C:=(by first | exact hCl | (have:=hCl;simp at this;omega));have HC7:=hideC hC7;have HY7 : Hid (Below wr.heap.size wr w7):=(by first | exact HDR.out.trans hb7 | exact (HAD.out _).1.trans (hb7.mono (HAD.out _).2));have HB7:=hideC hb7;have hT7:=B.below HTB.out HY7.out htl;have u0 : w7.cell? ⟨w3.heap.size,0,none⟩ = some (.bool true):=B.cell hT7 0 rfl;have u1 : w7.cell? ⟨w3.heap.size,1,none⟩ = some (.slice a3 l.length c3):=B.cell hT7 1 rfl;have u2 : w7.cell? ⟨w3.heap.size,2,none⟩ = some (.slice av n cv):=B.cell hT7 2 rfl;have HK7:=hideC (HKR.out.trans (HY7.out.mono HKR.out.size));obtain ⟨⟨v0,v1,v2,v3⟩,g0,g1,g2,g3⟩:=HZC.out _ HK7.out;have HQ1:=hideC (fun o=>HZC.out _ (HK7.out.alloc HK7.out.size o));have e0:=(fun o=>(HQ1.out o).1.1);have e1:=(fun o=>(HQ1.out o).1.2.1);have e2:=(fun o=>(HQ1.out o).1.2.2.1);have e3:=(fun o=>(HQ1.out o).1.2.2.2);have e4:=(fun o=>(HQ1.out o).2.1);have e5:=(fun o=>(HQ1.out o).2.2.1);have e6:=(fun o=>(HQ1.out o).2.2.2.1);have e7:=(fun o=>(HQ1.out o).2.2.2.2);have hz7 : ¬ z = w7.heap.size:=(by omega);have ht7 : ¬ w3.heap.size = w7.heap.size:=(by omega);clear hb7 hT7 hC7 hCl;go_simp)
    all_goals
     go_wp2
     refine bodyPost_ret (v:=?_) ?_ rfl ?_
     rotate_left 2
     · refine HFIN.out _ _ _ ?_ ?_ ?_ ?_ ?_
       · first
          | exact B.new w7 _ _
          | exact B.below (w:=(wr.alloc (.cells #[.bool true,.slice a3 l.length c3,.slice av n cv] 53)).drew) (B.new wr #[.bool true,.slice a3 l.length c3,.slice av n cv] 53) HB7.out (show wr.heap.size < (wr.alloc (.cells #[.bool true,.slice a3 l.length c3,.slice av n cv] 53)).heap.size by simp)
       · first
          | exact B.alloc HC7.out _
          | exact HC7.out
       · first
          | exact HY7.out.alloc hs7 _
          | exact HY7.out
       · first
          | exact hs7
          | exact Nat.le_refl _
       · exact hCw
     simp [results,Tryz.results9,go_sem,Act.put,v0,v1,v2,v3,e0,e1,e2,e3]
end GR
end Go.Proofs.YtkdigjpejnebkaaGreat
