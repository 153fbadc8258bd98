import Derived.Test.YtkdigjpejnebkaaGreatGS17
import Derived.Test.YtkdigjpejnebkaaGreatGS00
import Derived.Laws.CopyOwn
import Derived.Lib.AppendZerosOnto
import Derived.Lib.Overlaps
import Derived.Test.YtkdigjpejnebkaaGreatGS08
import Derived.Test.YtkdigjpejnebkaaGreatGS12
import Derived.Test.YtkdigjpejnebkaaGreatProg
import Derived.WalkLawsBesides
import Derived.WalkSpells
set_option linter.unusedVariables false
set_option maxRecDepth 100000
set_option linter.unusedSimpArgs false
namespace Go.Proofs.YtkdigjpejnebkaaGreat
namespace GF
open Go.RowKit GK
open FW (hideC add_below)
theorem fit_liv {s : FM.Sp} (h : GM.Liv s) : FW.FitS s:=by
 have h1:=GM.total_len h
 have h2:=FW.total_bd s.areas
 refine ⟨AM.fits_of_check _ h.check,by unfold M.Short;omega,fun k hk=>⟨?_,?_⟩⟩
 · have hm : (FM.pgAt s.pages k).page ∈ FM.pagesOf s.areas:=by
    rw [<- h.nums]
    exact List.mem_map_of_mem (FM.pgAt_mem hk)
   have:=GM.page_range h.check hm
   unfold M.I64;omega
 · rw [h.size k hk];unfold M.Short;omega
theorem fit_right {s : FM.Sp} (h : FM.rightSpace s = true) : FW.FitS s:=by
 cases hl : s.live with
 | true=>exact fit_liv (GM.liv_of h hl)
 | false =>
  unfold FM.rightSpace at h
  rw [hl] at h
  simp only [Bool.false_eq_true,if_false,Bool.and_eq_true,decide_eq_true_eq] at h
  have ha : s.areas = []:=List.length_eq_zero_iff.1 h.1
  have hp : s.pages = []:=List.length_eq_zero_iff.1 h.2
  refine ⟨by rw [ha];exact AW.fit_nil,by rw [hp];unfold M.Short;simp,fun k hk=>by rw [hp] at hk;simp at hk⟩
theorem fits_ok {m : GM.Mf} {fl : List Bool} (h : GM.OkF m fl) : FW.FitSs m.spaces:=⟨by unfold M.Short;have:=h.few.2;omega,fun k hk=>fit_right (h.each k hk)⟩
set_option maxHeartbeats 8000000 in
theorem fork_any {lo mb : Nat} (w : World) (D : Nat -> Prop) (m : GM.Mf) (fl : List Bool) (k : Nat) (h : HdF lo mb w D m) (hok : GM.OkF m fl) (hf : fl.getD k false = true) :
  Calls Tryz.prog 191 #[.pointer (some ⟨mb,0,none⟩),.int .i64 (k : Int)] w (GW.Out (HdF lo mb) w D (.int .i64 (GM.forkM m k).1) (GM.forkM m k).2):=by
 obtain ⟨⟨v,L,hM⟩,hD⟩:=h
 obtain ⟨hk,hlv⟩:=hok.live hf
 have hL:=GM.liv_of (hok.each k hk) hlv
 have h4:=hok.few.2
 have hsl:=hok.slots
 have hrm:=hok.room
 obtain ⟨sb,cap,aa,na,ca,ap,cp,hv,hsb,hlc,c0,c1,c2,hHa,hHp,_,hfz,_⟩:=hM.space k hk
 obtain ⟨ao',cap',hv2,hHs⟩:=hM.has
 rw [hv] at hv2
 injection hv2 with e1 e2 e3
 subst e1 e3
 subst hv
 have hbd:=FW.total_bd (FM.spAt m.spaces k).areas
 have hrb:=FW.room_bd m.spaces m.spaces.length
 have hlen1 : (FM.spAt m.spaces k).areas.length <= 1000000:=by have:=AM.good_len _ hL.check;omega
 have hlen2 : (FM.spAt m.spaces k).pages.length <= 1000000:=by have:=GM.total_len hL;omega
 have HTT : Hid (∀ V,Below w.heap.size w V -> Calls Tryz.prog 74 #[.slice (some ⟨sb,0,none⟩) m.spaces.length cap] V fun e w'=>e = .returned (.int .i64 (FM.room m.spaces)) /\ Below V.heap.size V w'):=fun V hV=>FW.total_any m.spaces (some ⟨sb,0,none⟩) cap V (hHs.below hV) (fits_ok hok) (by omega)
 have HTA : Hid (∀ V,Below w.heap.size w V -> Calls Tryz.prog 22 #[.slice aa na ca] V fun e w'=>e = .returned (.int .i64 (AM.totalN (FM.spAt m.spaces k).areas)) /\ Below V.heap.size V w'):=fun V hV=>AW.total_any _ _ _ (hHa.below hV) (AM.fits_of_check _ hL.check)
 have HCO : Hid (∀ V,Below w.heap.size w V -> Calls Tryz.prog 107 #[.agg #[.bool (FM.spAt m.spaces k).live,.slice aa na ca,.slice ap (FM.spAt m.spaces k).pages.length cp]] V (OutSp V (FM.spAt m.spaces k))):=fun V hV=>copyOf_any (FM.spAt m.spaces k) aa ap na ca cp V (hHa.below hV) (hHp.below hV) hlen1 hlen2
 have HLM : Hid (GM.forkM m k = if 4 <= m.spaces.length then (2,m) else if m.slots < FM.room m.spaces + AM.totalN (FM.spAt m.spaces k).areas then (8,m) else (0,{ m with spaces:=m.spaces ++ [FM.spAt m.spaces k] })):=rfl
 have m0 : w.cell? ⟨mb,0,none⟩ = some (.int .i64 m.slots):=B.cell hM.head 0 rfl
 have m1 : w.cell? ⟨mb,1,none⟩ = some (.slice (some ⟨sb,0,none⟩) m.spaces.length cap):=B.cell hM.head 1 rfl
 have hmb:=B.isLt hM.head
 have hmb2 : ¬ mb = w.heap.size:=by omega
 have hki : (k : Int) < (m.spaces.length : Int):=by omega
 have HM:=hideC hM
 have HD:=hideC hD
 have HKS:=hideC hk
 obtain ⟨R,hR⟩ : ∃ R,R = GM.forkM m k:=⟨_,rfl⟩
 rw [<- hR] at HLM ⊢
 obtain ⟨P,hP⟩ : ∃ P,P = GW.Out (HdF lo mb) w D (.int .i64 R.1) R.2:=⟨_,rfl⟩
 have HP : Hid (∀ w',(∃ D',HdF lo mb w' D' R.2 /\ Kp D w w' /\ ∀ b,D' b -> D b ∨ w.heap.size <= b) -> P (.returned (.int .i64 R.1)) w'):=fun w' ⟨D',h1,h2,h3⟩=>by rw [hP];exact ⟨D',rfl,h1,h2,h3⟩
 rw [<- hP]
 obtain ⟨s,hs⟩ : ∃ s,s = FM.spAt m.spaces k:=⟨_,rfl⟩
 rw [<- hs] at HTA HCO HLM c0 c2 hbd
 obtain ⟨lv,hlv2⟩ : ∃ lv,lv = s.live:=⟨_,rfl⟩
 obtain ⟨np,hnp⟩ : ∃ np,np = s.pages.length:=⟨_,rfl⟩
 rw [<- hlv2] at c0
 rw [<- hnp] at c2
 rw [<- hlv2,<- hnp] at HCO
 have HLV:=hideC hlv2
 obtain ⟨sl,hsl2⟩ : ∃ sl,sl = m.slots:=⟨_,rfl⟩
 rw [<- hsl2] at HLM m0 hsl hrm
 obtain ⟨rm,hrm2⟩ : ∃ rm,rm = FM.room m.spaces:=⟨_,rfl⟩
 rw [<- hrm2] at HTT HLM hrm
 have hrm0 : 0 <= rm:=by rw [hrm2];exact hrb.1
 obtain ⟨tt,htt⟩ : ∃ tt,tt = AM.totalN s.areas:=⟨_,rfl⟩
 rw [<- htt] at HTA HLM hbd
 obtain ⟨ns,hns⟩ : ∃ ns,ns = m.spaces.length:=⟨_,rfl⟩
 rw [<- hns] at m1 hki hk h4 HTT HLM
 have HNS:=hideC hns
 have HSL:=hideC hsl2
 have HBX:=hideC ((Below.refl w.heap.size w).alloc (Nat.le_refl _) (.cells #[.bool lv,.slice aa na ca,.slice ap np cp] 53))
 have BX:=hideC (B.new w #[.bool lv,.slice aa na ca,.slice ap np cp] 53)
 clear hM hD hok hf hlv hR hP hL hHa hHp hlc hfz hns hs hlv2 hnp hsl2 hrm2 htt hrb hHs e2 hlen1 hlen2
 by_cases h4n : 4 <= ns
 · have HR : Hid (R = (2,m)):=by rw [HLM.out,if_pos h4n];exact rfl
   have h4i : (4 : Int) <= (ns : Int):=by omega
   clear HLM
   go_enter Tryz.func191,Tryz.ntmps191
   go_wp2
   have:=HP.out _ ⟨D,by rw [HR.out];exact HdF.below ⟨⟨_,L,HM.out⟩,HD.out⟩ HBX.out,Kp.ofBelow HBX.out,fun b hb=>.inl hb⟩
   rw [HR.out] at this
   exact this
 · have h4i : ¬ (4 : Int) <= (ns : Int):=by omega
   have HL2 : Hid (R = if sl < rm + tt then (8,m) else (0,{ m with spaces:=m.spaces ++ [s] })):=by rw [HLM.out,if_neg h4n,HSL.out];exact rfl
   clear HLM
   have hwr : IntKind.i64.wrap (rm + tt) = rm + tt:=IntWalk.i64_in _ (by omega)
   go_enter Tryz.func191,Tryz.ntmps191
   go_wp2_with fail
   obtain ⟨WA,hWA⟩ : ∃ WA,WA = w.alloc (.cells #[.bool lv,.slice aa na ca,.slice ap np cp] 53):=⟨_,rfl⟩
   rw [<- hWA] at HBX BX ⊢
   obtain ⟨xb,hxb⟩ : ∃ xb,xb = w.heap.size:=⟨_,rfl⟩
   rw [<- hxb] at BX ⊢
   have HXB:=hideC hxb
   have HMA:=hideC (HM.out.below HBX.out)
   have HS : Hid (∀ V,Below WA.heap.size WA V -> V.cell? ⟨mb,0,none⟩ = some (.int .i64 sl) /\ V.cell? ⟨mb,1,none⟩ = some (.slice (some ⟨sb,0,none⟩) ns cap) /\ V.cell? ⟨xb,0,none⟩ = some (.bool lv) /\ V.cell? ⟨xb,1,none⟩ = some (.slice aa na ca) /\ V.cell? ⟨xb,2,none⟩ = some (.slice ap np cp)):=fun V hb=>by
    have h1:=B.below BX.out hb (B.isLt BX.out)
    have h2:=B.below HMA.out.head hb (B.isLt HMA.out.head)
    exact ⟨by rw [HSL.out];exact B.cell h2 0 rfl,by rw [HNS.out];exact B.cell h2 1 rfl,B.cell h1 0 rfl,B.cell h1 1 rfl,B.cell h1 2 rfl⟩
   have HK0:=hideC (Below.refl WA.heap.size WA).drew
   have HS0:=hideC (HS.out _ HK0.out)
   clear hWA hxb m0 m1 c0 c1 c2 hmb2
   go_cut [20] (fun x20 wx=>x20 = .bool (decide (sl < rm + tt)) /\ Below WA.heap.size WA wx)
   case first =>
    go_region_held3 (fun V=>V.cell? ⟨mb,0,none⟩ = some (.int .i64 sl) /\ V.cell? ⟨mb,1,none⟩ = some (.slice (some ⟨sb,0,none⟩) ns cap) /\ V.cell? ⟨xb,0,none⟩ = some (.bool lv) /\ V.cell? ⟨xb,1,none⟩ = some (.slice aa na ca) /\ V.cell? ⟨xb,2,none⟩ = some (.slice ap np cp)) (first | exact HS3.out | exact HS2.out | exact HS0.out)
     (first
      | (go_at_call 74;refine (HTT.out _ (HBX.out.trans (HK0.out.mono HBX.out.size))).mono ?_;rintro e w2 ⟨rfl,hb2⟩;have HK2:=hideC (HK0.out.trans (hb2.mono HK0.out.size));have HS2:=hideC (HS.out _ HK2.out);clear hb2)
      | (go_at_call 22;refine (HTA.out _ (HBX.out.trans (HK2.out.mono HBX.out.size))).mono ?_;rintro e w3 ⟨rfl,hb3⟩;have HK3:=hideC (HK2.out.trans (hb3.mono HK2.out.size));have HS3:=hideC (HS.out _ HK3.out);clear hb3))
    all_goals
     go_wp2_with fail
     go_meet
     case rel=>exact ⟨by first | rfl | simp,HK3.out⟩
   case rest =>
    obtain ⟨rfl,hbc⟩:=hcut
    have HBC:=hideC hbc
    have HSC:=HS.out _ hbc
    obtain ⟨s0,s1,s2,s3,s4⟩:=HSC
    clear hbc HS0 HK0 HTT HTA
    by_cases hroom : sl < rm + tt
    · have HR : Hid (R = (8,m)):=by rw [HL2.out,if_pos hroom];exact rfl
      clear HL2
      go_wp2
      have hb:=HBX.out.trans (HBC.out.mono HBX.out.size)
      have:=HP.out _ ⟨D,by rw [HR.out];exact HdF.below ⟨⟨_,L,HM.out⟩,HD.out⟩ hb,Kp.ofBelow hb,fun b hb=>.inl hb⟩
      rw [HR.out] at this
      exact this
    · have HR : Hid (R = (0,{ m with spaces:=m.spaces ++ [s] })):=by rw [HL2.out,if_neg hroom];exact rfl
      clear HL2
      have HBW:=hideC (HBX.out.trans (HBC.out.mono HBX.out.size))
      have HMX : Hid (Mem lo mb wc D m.slots (.slice (some ⟨sb,0,none⟩) ns cap) L m.spaces):=by have:=HM.out.below HBW.out;rw [<- HNS.out] at this;exact this
      have hlk : L.length = ns:=by rw [HNS.out];exact HM.out.len
      have HC2 : Hid (∀ V,Below wc.heap.size wc V -> Calls Tryz.prog 107 #[.agg #[.bool lv,.slice aa na ca,.slice ap np cp]] V fun e w'=>∃ a1 n1 c1 a2 n2 c2,e = .returned (.agg #[.bool lv,.slice a1 n1 c1,.slice a2 n2 c2]) /\ SpOwn V.heap.size w' ⟨lv,.slice a1 n1 c1,.slice a2 n2 c2⟩ s /\ (∀ b,blk (.slice a2 n2 c2) b -> ¬ blk (.slice a1 n1 c1) b) /\ Below V.heap.size V w'):=fun V hV=>(HCO.out V (HBW.out.trans (hV.mono HBW.out.size))).mono fun e w' ⟨va,vp,h1,h2,h3,h4⟩=>by
       rw [<- HLV.out] at h1 h2
       obtain ⟨a1,c1,e1,_⟩:=row_form h2.areas
       obtain ⟨a2,c2,e2,_⟩:=row_form h2.pages
       have e1' : va = _:=e1
       have e2' : vp = _:=e2
       subst e1' e2'
       exact ⟨_,_,_,_,_,_,h1,h2,h3,h4⟩
      have HK0:=hideC (Below.refl wc.heap.size wc).drew
      have hlow : lo <= wc.heap.size:=by have:=HMX.out.base;have:=B.isLt HMX.out.head;omega
      obtain ⟨i0,hin,hz0,hz1,hz2⟩:=info_parts infoFS
      have HIN:=hideC hin
      have HZ0:=hideC hz0
      have HZ1:=hideC hz1
      have HZ2:=hideC hz2
      clear hin hz0 hz1 hz2
      go_wp2
      go_region_law (first
       | (refine step_append_src (P:=Tryz.prog) rfl _ _ 26 rfl lo 53 i0 (.agg #[.bool false,.slice none 0 0,.slice none 0 0]) 3 56 Tryz.underlying26 HIN.out HZ0.out HZ1.out HZ2.out rfl (by decide) (.slice (some ⟨sb,0,none⟩) ns cap) ns (L.flatMap cellLc) rfl HOW2.out (some ⟨w2.heap.size,0,none⟩) 1 1 [.bool lv,.slice a1 n1 c1,.slice a2 n2 c2] rfl rfl (fun _=>⟨_,rfl,B.news (B.new w2 _ _)⟩) (by intro u hu;simp at hu;rcases hu with rfl | rfl | rfl <;> rfl) (by unfold maxLen;omega) (by omega) HLO2.out ?_;intro v3 w4 hown hgr hat;obtain ⟨a4,c4,rfl,_⟩:=row_form hown;have HOW4:=hideC hown;have HGR4:=hideC hgr;have HAT4:=hideC hat;have hM4:=B.grown (B.alloc (HMX.out.below HK2.out).head (.cells #[.bool lv,.slice a1 n1 c1,.slice a2 n2 c2] 53)) hgr (fun e=>HMX.out.n1 e.symm);have y1 : w4.cell? ⟨mb,1,none⟩ = some (.slice (some ⟨sb,0,none⟩) ns cap):=B.cell hM4 1 rfl;have y2 : w4.frozen? ⟨mb,1,none⟩ = false:=B.free hM4 1;clear hown hgr hat hM4)
       | (go_simp;go_at_call 107;refine (HC2.out _ HK0.out).mono ?_;rintro e w2 ⟨a1,n1,c1,a2,n2,c2,rfl,hs2,hn2,hb2⟩;have HK2:=hideC (HK0.out.trans (hb2.mono HK0.out.size));have HSO:=hideC hs2;have HNE:=hideC hn2;have HB2:=hideC hb2;have m3 : w2.cell? ⟨mb,1,none⟩ = some (.slice (some ⟨sb,0,none⟩) ns cap):=B.cell (HMX.out.below HK2.out).head 1 rfl;have m4 : (w2.alloc (.cells #[.bool lv,.slice a1 n1 c1,.slice a2 n2 c2] 53)).cell? ⟨mb,1,none⟩ = some (.slice (some ⟨sb,0,none⟩) ns cap):=B.cell (B.alloc (HMX.out.below HK2.out).head _) 1 rfl;have HOW2 : Hid ((w2.alloc (.cells #[.bool lv,.slice a1 n1 c1,.slice a2 n2 c2] 53)).ownsRow lo 53 3 (.slice (some ⟨sb,0,none⟩) ns cap) ns (L.flatMap cellLc)):=hlk ▸ ((HMX.out.below HK2.out).row.alloc _);have HLO2 : Hid (lo <= (w2.alloc (.cells #[.bool lv,.slice a1 n1 c1,.slice a2 n2 c2] 53)).heap.size):=(by show _ <= _;have:=HK2.out.size;simp;omega);clear hb2 hs2 hn2;go_simp))
      all_goals
       go_wp2
       have hp:=HMX.out.push (D':=fun b=>D b ∨ (w.heap.size <= b /\ b < w4.heap.size)) hlow HK2.out HSO.out HNE.out HGR4.out (hlk ▸ HOW4.out) HAT4.out (fun b hb=>.inl hb) (fun b h1 h2=>.inr ⟨by have:=HBW.out.size;omega,h2⟩)
       have hsz : (w4.setCell ⟨mb,1,none⟩ (.slice a4 (ns + 1) c4)).heap.size = w4.heap.size:=by simp
       have hkk : Kp D wc (w4.setCell ⟨mb,1,none⟩ (.slice a4 (ns + 1) c4)):=hp.2.mono (fun b _ hb=>by
        rcases hb with g | g
        · rw [g];exact HMX.out.d1
        · exact HMX.out.d2 b g)
       have:=HP.out _ ⟨_,by rw [HR.out];exact ⟨⟨_,_,hp.1⟩,fun b hb=>by
        have z1:=hkk.size
        have z2:=HBW.out.size
        have z3:=HM.out.base
        have z4:=B.isLt HM.out.head
        rw [hsz] at z1 ⊢
        rcases hb with g | g
        · have:=HD.out b g;omega
        · omega⟩,(Kp.ofBelow HBW.out).trans hkk (fun _ _ g=>g),fun b hb=>by
        rcases hb with g | g
        · exact .inl g
        · exact .inr g.1⟩
       rw [HR.out] at this
       exact this
end GF
namespace GK
open Go.RowKit
theorem run_copy_rows {P : Program} (w : World) (dT sT ty elem : TypeId) (size : Nat) (hu : P.underlying dT = some (.slice elem)) (hsz : ∀ w,(sizeOf elem).run P w = .ok size w) (g off dLen dCap : Nat) (sp : Option Addr) (sLen sCap : Nat)
  (cur : List Value) (t : TypeId) (hg : w.heap[g]? = some (.cells cur.toArray t (0,0))) (cs : List Value) (hn : cs.length = Nat.min sLen dLen * size) (hsrc : 0 < cs.length -> ∃ ad,sp = some ad /\ ∀ j v,cs[j]? = some v -> w.cell? (ad.add j) = some v)
  (hfit : off + cs.length <= cur.length) (h1 : ∀ v ∈ cs,v.oneCell' = true) :
  (Builtin.copy_ #[dT,sT] ty #[.slice (some ⟨g,off,none⟩) dLen dCap,.slice sp sLen sCap]).run P w = .ok (goInt (Nat.min sLen dLen)) (w.setRow g (splice cur off cs).toArray):=by
 have hst:=run_storeCells_at (P:=P) g off t cs 0 cur.toArray w hg (by simpa using hfit) h1
 have hfc : (Builtin.firstCells size (Nat.min sLen dLen) (.slice sp sLen sCap)).run P w = .ok cs.toArray w:=by
  by_cases h0 : 0 < cs.length
  · obtain ⟨ad,rfl,hc⟩:=hsrc h0
    exact run_firstCells_some w size (Nat.min sLen dLen) ad sLen sCap cs hn hc
  · have hcs : cs = []:=List.eq_nil_of_length_eq_zero (by omega)
    subst hcs
    cases sp with
    | none=>exact run_firstCells_none w size _ _ _
    | some ad=>exact run_firstCells_some w size (Nat.min sLen dLen) ad sLen sCap [] hn (fun j v h=>by cases h)
 simp only [Nat.add_zero] at hst
 unfold Builtin.copy_
 simp [run_underlying hu,Builtin.lenOf,hsz,hfc,hst,splice]
def zeroRow (z : List Value) : Nat -> List Value
 | 0=>[]
 | n + 1=>z ++ zeroRow z n
theorem zeroRow_length (z : List Value) : ∀ n,(zeroRow z n).length = n * z.length
 | 0=>by simp [zeroRow]
 | n + 1=>by rw [zeroRow,List.length_append,zeroRow_length z n,Nat.succ_mul,Nat.add_comm]
theorem zeroRow_get (z : List Value) : ∀ (n j : Nat),j < n * z.length -> (zeroRow z n)[j]? = z[j % z.length]?
 | 0,j,h=>by omega
 | n + 1,j,h=>by
  have hz : 0 < z.length:=by
   rcases Nat.eq_zero_or_pos z.length with g | g
   · rw [g] at h;omega
   · exact g
  rw [zeroRow]
  by_cases c : j < z.length
  · rw [List.getElem?_append_left c,Nat.mod_eq_of_lt c]
  · rw [List.getElem?_append_right (by omega),zeroRow_get z n (j - z.length) (by rw [Nat.succ_mul] at h;omega),<- Nat.mod_eq_sub_mod (by omega)]
theorem zero_cells (z : Array Value) (n : Nat) (hz : 0 < z.size) : (Builtin.zeroCells z n).toList = zeroRow z.toList n:=by
 apply List.ext_getElem?
 intro j
 by_cases c : j < n * z.size
 · rw [zeroRow_get z.toList n j (by simpa using c)]
   unfold Builtin.zeroCells
   have hm : j % z.size < z.size:=Nat.mod_lt _ hz
   simp [c,hm,getElem!_pos]
 · rw [List.getElem?_eq_none (by simp [Builtin.zeroCells];omega),List.getElem?_eq_none (by rw [zeroRow_length];simp;omega)]
theorem zeroRow_one (z : List Value) (h : ∀ u ∈ z,u.oneCell' = true) : ∀ n,∀ u ∈ zeroRow z n,u.oneCell' = true
 | 0,u,hu=>by cases hu
 | n + 1,u,hu=>by
  rcases List.mem_append.1 hu with g | g
  · exact h u g
  · exact zeroRow_one z h n u g
theorem run_clear_rows {P : Program} (w : World) (t ty elem : TypeId) (z : Value) (hu : P.underlying t = some (.slice elem)) (hv : ∀ w,(zeroValue elem).run P w = .ok z w) (hz : 0 < z.cells.size) (h1 : ∀ u ∈ z.cells.toList,u.oneCell' = true) (g off n c : Nat)
  (cur : List Value) (te : TypeId) (hg : w.heap[g]? = some (.cells cur.toArray te (0,0))) (hfit : off + n * z.cells.size <= cur.length) :
  (Builtin.clear_ #[t] ty #[.slice (some ⟨g,off,none⟩) n c]).run P w = .ok (.tuple #[]) (w.setRow g (splice cur off (zeroRow z.cells.toList n)).toArray):=by
 have hzl : (zeroRow z.cells.toList n).length = n * z.cells.size:=by rw [zeroRow_length];simp
 have hst:=run_storeCells_at (P:=P) g off te (zeroRow z.cells.toList n) 0 cur.toArray w hg (by simp [hzl];omega) (zeroRow_one _ h1 n)
 simp only [Nat.add_zero] at hst
 cases n with
 | zero =>
  unfold Builtin.clear_
  have e : splice cur off (zeroRow z.cells.toList 0) = cur:=by simp [splice,zeroRow]
  rw [e,setRow_self w g cur.toArray te (0,0) hg]
  simp [run_underlying hu]
 | succ n =>
  unfold Builtin.clear_
  simp [run_underlying hu,hv,zero_cells z.cells (n + 1) hz,hst,splice]
end GK
namespace LM
open Go.RowKit
structure Fx where
 off : Int
 bytes : ByteArray
structure Sh where
 page : Int
 data : ByteArray
 fixes : List Fx
 ao : Option Addr
 cap : Nat
def fx0 : Fx:=⟨0,⟨#[]⟩⟩
def fxAt (l : List Fx) (i : Nat) : Fx:=l.getD i fx0
def sh0 : Sh:=⟨0,⟨#[]⟩,[],none,0⟩
def shAt (l : List Sh) (i : Nat) : Sh:=l.getD i sh0
def LieF (w : World) (b off : Nat) (l : List Fx) : Prop:=∀ i,i < l.length -> w.cell? ⟨b,off + i * 2,none⟩ = some (.int .i64 (fxAt l i).off) /\ w.cell? ⟨b,off + i * 2 + 1,none⟩ = some (.string (fxAt l i).bytes)
theorem lieF {w w' : World} {b off : Nat} {l : List Fx} (hb : Below w.heap.size w w') (hlt : b < w.heap.size) (h : LieF w b off l) : LieF w' b off l:=fun i hi=>by
 obtain ⟨c0,c1⟩:=h i hi
 exact ⟨(M.below_cell hb hlt).trans c0,(M.below_cell hb hlt).trans c1⟩
def HasF (w : World) (ao : Option Addr) (l : List Fx) : Prop:=M.HasBy LieF w ao l
theorem HasF.below {w w' : World} {ao : Option Addr} {l : List Fx} (h : HasF w ao l) (hb : Below w.heap.size w w') : HasF w' ao l:=M.HasBy.below (lie:=LieF) (fun hb hlt h=>lieF hb hlt h) h hb
def FitF (f : Fx) : Prop:=M.I64 f.off /\ M.Short f.bytes.size
structure FitH (s : Sh) : Prop where
 page : M.I64 s.page
 data : M.Short s.data.size
 fixes : M.Short s.fixes.length
 fix : ∀ k,k < s.fixes.length -> FitF (fxAt s.fixes k)
def cellsH (s : Sh) : Array Value:=#[.int .i64 s.page,.string s.data,.slice s.ao s.fixes.length s.cap]
def endTo (l : List Fx) : Nat -> Int
 | 0=>0
 | k + 1=>(fxAt l k).off + ((fxAt l k).bytes.size : Int)
def fixB (e : Int) (f : Fx) : Bool:=decide (e <= f.off /\ f.off <= 16 /\ 1 <= (f.bytes.size : Int) /\ (f.bytes.size : Int) <= 16 - f.off)
def fixesTo (l : List Fx) : Nat -> Bool
 | 0=>true
 | k + 1=>fixesTo l k && fixB (endTo l k) (fxAt l k)
def headB (s : Sh) : Bool:=decide (1 <= s.page /\ s.page <= 255 /\ s.data.size = 16)
def sheetB (s : Sh) : Bool:=headB s && fixesTo s.fixes s.fixes.length
def laidTo (d : ByteArray) (l : List Fx) : Nat -> ByteArray
 | 0=>d
 | k + 1=>CL.over (laidTo d l k) (fxAt l k).off.toNat (fxAt l k).bytes
def fillS (s : Sh) : ByteArray:=laidTo s.data s.fixes s.fixes.length
def fillN (s : Sh) : ByteArray × Int:=if sheetB s then (fillS s,0) else (⟨#[]⟩,1)
theorem fixesTo_false (l : List Fx) : ∀ (k n : Nat),k <= n -> fixesTo l k = false -> fixesTo l n = false
 | k, 0, h, hk => by obtain rfl : k = 0 := by omega
                     exact hk
 | k,n + 1,h,hk=>by
  by_cases e : k = n + 1
  · subst e;exact hk
  · simp [fixesTo,fixesTo_false l k n (by omega) hk]
theorem fixes_bad (l : List Fx) (k : Nat) (hk : k < l.length) (h : fixB (endTo l k) (fxAt l k) = false) : fixesTo l l.length = false :=
 fixesTo_false l (k + 1) l.length (by omega) (by simp [fixesTo,h])
theorem fixesTo_ok (l : List Fx) : ∀ (n : Nat),fixesTo l n = true -> ∀ i,i < n -> fixB (endTo l i) (fxAt l i) = true
 | 0,_,i,hi=>by omega
 | n + 1,h,i,hi=>by
  simp only [fixesTo,Bool.and_eq_true] at h
  by_cases e : i = n
  · subst e;exact h.2
  · exact fixesTo_ok l n h.1 i (by omega)
theorem fixB_iff (e : Int) (f : Fx) : fixB e f = true ↔ (e <= f.off /\ f.off <= 16 /\ 1 <= (f.bytes.size : Int) /\ (f.bytes.size : Int) <= 16 - f.off):=by simp [fixB]
theorem fixB_no {e : Int} {f : Fx} (h : ¬ (e <= f.off /\ f.off <= 16 /\ 1 <= (f.bytes.size : Int) /\ (f.bytes.size : Int) <= 16 - f.off)) : fixB e f = false:=by simpa [fixB] using h
theorem endTo_ge (l : List Fx) : ∀ k,fixesTo l k = true -> (k : Int) <= endTo l k /\ endTo l k <= 16
 | 0,_=>by simp [endTo]
 | k + 1,h=>by
  simp only [fixesTo,Bool.and_eq_true] at h
  have ih:=endTo_ge l k h.1
  have hf:=(fixB_iff _ _).1 h.2
  simp only [endTo]
  omega
theorem laidTo_size (d : ByteArray) (l : List Fx) (hd : d.size = 16) : ∀ k,fixesTo l k = true -> (laidTo d l k).size = 16
 | 0,_=>hd
 | k + 1,h=>by
  simp only [fixesTo,Bool.and_eq_true] at h
  have ih:=laidTo_size d l hd k h.1
  have hf:=(fixB_iff _ _).1 h.2
  have he:=endTo_ge l k h.1
  simp only [laidTo]
  rw [CL.over_size' _ _ _ (by omega),ih]
end LM
namespace W
open Go.RowKit
theorem hideC {p : Prop} (h : p) : Hid p:=h
theorem ret_bool {a b : Bool} (h : a = b) : Ending.returned (.bool a) = .returned (.bool b):=by rw [h]
set_option maxHeartbeats 1000000 in
theorem inName_any (n : Int) (w : World) : Calls Tryz.prog 165 #[.int .u8 n] w fun e w'=>e = .returned (.bool (M.signB n)) /\ w = w':=by
 by_cases h1 : 97 <= n /\ n <= 122
 · have e : M.signB n = true:=by unfold M.signB;rw [decide_eq_true h1];rfl
   rw [e]
   obtain ⟨a,b⟩:=h1
   go_enter Tryz.func165,Tryz.ntmps165
   go_wp2
   go_ret
   exact ⟨rfl,rfl⟩
 · by_cases h2 : 48 <= n /\ n <= 57
   · have e : M.signB n = true:=by unfold M.signB;rw [decide_eq_true h2];simp
     rw [e]
     obtain ⟨a,b⟩:=h2
     have c : decide (97 <= n) = false:=by simp;omega
     clear h1
     go_enter Tryz.func165,Tryz.ntmps165
     go_wp2
     go_ret
     exact ⟨rfl,rfl⟩
   · by_cases h3 : n = 95
     · subst h3
       go_enter Tryz.func165,Tryz.ntmps165
       go_wp2
       go_ret
       exact ⟨rfl,rfl⟩
     · have e : M.signB n = false:=by unfold M.signB;rw [decide_eq_false h1,decide_eq_false h2,decide_eq_false h3];rfl
       rw [e]
       have h3' : (n == 95) = false:=by simpa using h3
       by_cases a : 97 <= n
       · have b : decide (n <= 122) = false:=by simp;omega
         have c : 48 <= n:=by omega
         have d : decide (n <= 57) = false:=by simp;omega
         clear h1 h2
         go_enter Tryz.func165,Tryz.ntmps165
         go_wp2
         go_ret
         exact ⟨rfl,rfl⟩
       · have a' : decide (97 <= n) = false:=by simpa using a
         by_cases c : 48 <= n
         · have d : decide (n <= 57) = false:=by simp;omega
           clear h1 h2
           go_enter Tryz.func165,Tryz.ntmps165
           go_wp2
           go_ret
           exact ⟨rfl,rfl⟩
         · have c' : decide (48 <= n) = false:=by simpa using c
           clear h1 h2
           go_enter Tryz.func165,Tryz.ntmps165
           go_wp2
           go_ret
           exact ⟨rfl,rfl⟩
set_option maxHeartbeats 1000000 in
theorem isName_any (s : ByteArray) (w : World) (hs : M.Short s.size) : Calls Tryz.prog 149 #[.string s] w fun e w'=>e = .returned (.bool (M.nameB s)) /\ w = w':=by
 unfold M.Short at hs
 have hml : s.size <= maxLen:=by unfold maxLen;omega
 by_cases h1 : 1 <= s.size
 · by_cases h2 : s.size <= 12
   · have d1 : ¬ (s.size : Int) < 1:=by omega
     have d2 : ¬ 12 < (s.size : Int):=by omega
     go_enter Tryz.func149,Tryz.ntmps149
     go_wp2
     go_loop [14] (fun i=>∃ k : Nat,k <= s.size /\ i = .int .i64 k /\ ∀ j (hj : j < s.size),j < k -> M.signB s[j].toNat = true) (fun i=>s.size - (intOf i).toNat)
     case atStart=>exact ⟨0,by omega,rfl,fun j _ h=>by omega⟩
     case round =>
      obtain ⟨k,hk,rfl,hall⟩:=hrel
      have HA:=hideC hall
      clear hall
      by_cases hlt : k < s.size
      · cases hc : M.signB s[k].toNat
        · have HR:=hideC (M.name_no s k hlt hc)
          go_wp2_with (go_at_call 165;refine (inName_any _ _).mono ?_;rintro e w' ⟨rfl,rfl⟩;rw [hc])
          go_ret
          exact ⟨ret_bool HR.out.symm,rfl⟩
        · have HC:=hideC hc
          go_wp2_with (go_at_call 165;refine (inName_any _ _).mono ?_;rintro e w' ⟨rfl,rfl⟩;rw [hc])
          go_round
          case rel=>exact ⟨k + 1,by omega,by go_num,fun j hj h=>if e : j = k then by subst e;exact HC.out else HA.out j hj (by omega)⟩
          case measure=>simp [intOf];omega
      · obtain rfl : k = s.size:=by omega
        have HR:=hideC (M.name_yes s h1 h2 (fun k hk=>HA.out k hk hk))
        go_wp2
        go_ret
        exact ⟨ret_bool HR.out.symm,rfl⟩
   · have HR:=hideC (M.name_len s (fun h=>h2 h.2))
     have d1 : ¬ (s.size : Int) < 1:=by omega
     have d2 : 12 < (s.size : Int):=by omega
     go_enter Tryz.func149,Tryz.ntmps149
     go_wp2
     go_ret
     exact ⟨ret_bool HR.out.symm,rfl⟩
 · have HR:=hideC (M.name_len s (fun h=>h1 h.1))
   have d1 : (s.size : Int) < 1:=by omega
   go_enter Tryz.func149,Tryz.ntmps149
   go_wp2
   go_ret
   exact ⟨ret_bool HR.out.symm,rfl⟩
end W
namespace LW
open Go.RowKit
open W (hideC)
theorem below_drew (w : World) : Below w.heap.size w w.drew:=⟨rfl,rfl,rfl,Nat.le_refl _,fun _ _=>rfl⟩
theorem ret_bool {a b : Bool} (h : a = b) : Ending.returned (.bool a) = .returned (.bool b):=by rw [h]
set_option maxHeartbeats 2000000 in
theorem rightSheet_any (s : LM.Sh) (w : World) (h : LM.HasF w s.ao s.fixes) (hf : LM.FitH s) :
  Calls Tryz.prog 66 #[.agg (LM.cellsH s)] w fun e w'=>e = .returned (.bool (LM.sheetB s)) /\ Below w.heap.size w w':=by
 obtain ⟨f1,f2,f3,f4⟩:=hf
 obtain ⟨pg,dt,fs,ao,cap⟩:=s
 simp only at f1 f2 f3 f4
 unfold M.I64 at f1
 unfold M.Short at f2 f3
 simp only [LM.cellsH]
 have hdl : dt.size <= maxLen:=by unfold maxLen;omega
 have F4:=hideC f4
 have HH:=hideC h
 clear f4 h
 have HB:=hideC ((Below.refl w.heap.size w).alloc (Nat.le_refl _) (.cells #[.int .i64 pg,.string dt,.slice ao fs.length cap] 62))
 by_cases h1 : pg < 1
 · have e : LM.sheetB ⟨pg,dt,fs,ao,cap⟩ = false:=by
    unfold LM.sheetB LM.headB
    rw [decide_eq_false (by simp only;omega),Bool.false_and]
   rw [e]
   go_enter Tryz.func66,Tryz.ntmps66
   go_wp2
   go_ret
   exact ⟨rfl,HB.out⟩
 by_cases h2 : 255 < pg
 · have e : LM.sheetB ⟨pg,dt,fs,ao,cap⟩ = false:=by
    unfold LM.sheetB LM.headB
    rw [decide_eq_false (by simp only;omega),Bool.false_and]
   rw [e]
   go_enter Tryz.func66,Tryz.ntmps66
   go_wp2
   go_ret
   exact ⟨rfl,HB.out⟩
 by_cases h3 : dt.size = 16
 · have h3' : (dt.size : Int) = 16:=by omega
   have e : LM.headB ⟨pg,dt,fs,ao,cap⟩ = true:=by
    unfold LM.headB
    exact decide_eq_true ⟨by simp only;omega,by simp only;omega,h3⟩
   have E : Hid (LM.sheetB ⟨pg,dt,fs,ao,cap⟩ = LM.fixesTo fs fs.length):=by
    show _ = _
    unfold LM.sheetB
    rw [e,Bool.true_and]
   clear e h3
   go_enter Tryz.func66,Tryz.ntmps66
   go_wp2
   go_loopw [23,3] (fun i en wr=>∃ k : Nat,k <= fs.length /\ i = .int .i64 k /\ en = .int .i64 (LM.endTo fs k) /\ LM.fixesTo fs k = true /\ Below w.heap.size w wr) (fun i _ _=>fs.length - (intOf i).toNat)
   case atStart=>exact ⟨0,by omega,rfl,rfl,rfl,HB.out⟩
   case round =>
    obtain ⟨k,hk,rfl,rfl,hg,hb⟩:=hrel
    have HG:=hideC hg
    have HBr:=hideC hb
    clear hg
    by_cases hlt : k < fs.length
    · obtain ⟨b,off,hao,hbl,hlie⟩:=(HH.out.below hb) (by omega)
      subst hao
      obtain ⟨c0,c1⟩:=hlie k hlt
      obtain ⟨g1,g2⟩:=F4.out k hlt
      have hed:=LM.endTo_ge fs k HG.out
      obtain ⟨f,hfe⟩ : ∃ f,f = LM.fxAt fs k:=⟨_,rfl⟩
      rw [<- hfe] at c0 c1 g1 g2
      unfold M.I64 at g1
      unfold M.Short at g2
      have hfl : f.bytes.size <= maxLen:=by unfold maxLen;omega
      have HFE:=hideC hfe
      clear hfe hlie hb
      obtain ⟨en,hen⟩ : ∃ en,en = LM.endTo fs k:=⟨_,rfl⟩
      rw [<- hen] at hed
      have HEN:=hideC hen
      rw [<- hen]
      clear hen
      have HBA:=hideC (HBr.out.alloc HBr.out.size (.cells #[.int .i64 f.off,.string f.bytes] 121))
      by_cases q1 : f.off < en
      · have HX : Hid (LM.fixesTo fs fs.length = false):=LM.fixes_bad fs k hlt (by rw [<- HFE.out,<- HEN.out];exact LM.fixB_no (by omega))
        go_wp2
        go_ret
        exact ⟨ret_bool (by rw [E.out,HX.out]),HBA.out⟩
      by_cases q2 : 16 < f.off
      · have HX : Hid (LM.fixesTo fs fs.length = false):=LM.fixes_bad fs k hlt (by rw [<- HFE.out,<- HEN.out];exact LM.fixB_no (by omega))
        go_wp2
        go_ret
        exact ⟨ret_bool (by rw [E.out,HX.out]),HBA.out⟩
      by_cases q3 : (f.bytes.size : Int) < 1
      · have HX : Hid (LM.fixesTo fs fs.length = false):=LM.fixes_bad fs k hlt (by rw [<- HFE.out,<- HEN.out];exact LM.fixB_no (by omega))
        go_wp2
        go_ret
        exact ⟨ret_bool (by rw [E.out,HX.out]),HBA.out⟩
      by_cases q4 : 16 - f.off < (f.bytes.size : Int)
      · have HX : Hid (LM.fixesTo fs fs.length = false):=LM.fixes_bad fs k hlt (by rw [<- HFE.out,<- HEN.out];exact LM.fixB_no (by omega))
        go_wp2
        go_ret
        exact ⟨ret_bool (by rw [E.out,HX.out]),HBA.out⟩
      · have HX : Hid (LM.fixesTo fs (k + 1) = true):=by
         show _ = _
         simp only [LM.fixesTo,Bool.and_eq_true]
         exact ⟨HG.out,by rw [<- HFE.out,<- HEN.out];exact (LM.fixB_iff _ _).2 (by omega)⟩
        have HY : Hid (LM.endTo fs (k + 1) = f.off + (f.bytes.size : Int)):=by show _ = _;simp only [LM.endTo];rw [<- HFE.out]
        go_wp2
        go_roundw
        case rel=>exact ⟨k + 1,by omega,by go_num,by rw [HY.out],HX.out,HBA.out⟩
        case measure=>simp [intOf];omega
    · obtain rfl : k = fs.length:=by omega
      go_wp2
      go_ret
      exact ⟨ret_bool (by rw [E.out,HG.out]),HBr.out⟩
 · have e : LM.sheetB ⟨pg,dt,fs,ao,cap⟩ = false:=by
    unfold LM.sheetB LM.headB
    rw [decide_eq_false (fun h=>h3 h.2.2),Bool.false_and]
   have h3' : ((dt.size : Int) == 16) = false:=by simp;omega
   rw [e]
   go_enter Tryz.func66,Tryz.ntmps66
   go_wp2
   go_ret
   exact ⟨rfl,HB.out⟩
end LW
end Go.Proofs.YtkdigjpejnebkaaGreat
