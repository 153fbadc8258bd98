import Derived.Test.YtkdigjpejnebkaaGreatGS36
import Derived.Test.YtkdigjpejnebkaaGreatGS38
import Derived.Test.YtkdigjpejnebkaaGreatGS19
set_option linter.unusedVariables false
set_option maxRecDepth 100000
set_option linter.unusedSimpArgs false
namespace Go.Proofs.YtkdigjpejnebkaaGreat
namespace GH
open Go.RowKit GK
open GW (cellPr cellWd cellPr_len cellWd_len)
open FW (hideC add_below)
open GF (blk cellPg cellPg_len)
theorem take_snoc (hs : List LM.Sh) (k : Nat) (h : k < hs.length) : ((hs.take (k + 1)).map pgOf).flatMap cellPg = ((hs.take k).map pgOf).flatMap cellPg ++ [.int .i64 (LM.shAt hs k).page,.string (LM.fillN (LM.shAt hs k)).1]:=by
 have e : hs.take (k + 1) = hs.take k ++ [LM.shAt hs k]:=by
  rw [List.take_add_one,List.getElem?_eq_getElem h]
  unfold LM.shAt
  rw [List.getD_eq_getElem?_getD,List.getElem?_eq_getElem h]
  rfl
 rw [e,List.map_append,List.flatMap_append]
 rfl
theorem newS (w : World) (o : Obj) (C : Array Value) (t : TypeId) : ((w.alloc o).alloc (.cells C t)).heap[w.heap.size + 1]? = some (.cells C t (0,0)):=by
 have:=B.new (w.alloc o) C t
 simpa using this
set_option maxHeartbeats 8000000 in
theorem new_any (l : List AM.Ar) (hs : List LM.Sh) (en slots : Int) (aa ah : Option Addr) (na ca ch : Nat) (w : World) (ha : AW.Has w (.slice aa na ca) l) (hf : AW.AllFit l) (h : LM.HasH w ah hs) (hfs : LM.FitHs hs) (hcap : hs.length <= ch) (he : M.I64 en) :
  Calls Tryz.prog 7 #[.agg #[.slice aa na ca,.slice ah hs.length ch,.int .i64 en],.int .i64 slots] w (OutFl w (newF l hs en slots)):=by
 have HCK : Hid (∀ V,Below w.heap.size w V -> Calls Tryz.prog 21 #[.agg #[.slice aa na ca,.slice ah hs.length ch,.int .i64 en]] V fun e w'=>e = .returned (.int .i64 (LM.checkL l hs en)) /\ Below V.heap.size V w'):=fun V hV=>LW.check_any l hs en _ ah ch V (ha.below hV) hf (h.below hV) hfs hcap he
 have HTO : Hid (∀ V,Below w.heap.size w V -> Calls Tryz.prog 22 #[.slice aa na ca] V fun e w'=>e = .returned (.int .i64 (AM.totalN l)) /\ Below V.heap.size V w'):=fun V hV=>AW.total_any _ _ _ (ha.below hV) hf
 have HCL : Hid (AM.checkN l = 0 -> ∀ V,Below w.heap.size w V -> Calls Tryz.prog 23 #[.slice aa na ca] V fun e w'=>∃ a' c',e = .returned (.slice a' l.length c') /\ AW.Own V.heap.size w' (.slice a' l.length c') l /\ Below V.heap.size V w'):=fun hk V hV=>by
  obtain ⟨hn,hfr⟩:=GF.areas_from (ha.below hV)
  subst hn
  refine (cloneAr aa l.length ca (AM.areaCells l) V ?_ hfr ?_ (by have:=AM.good_len _ hk;omega)).mono ?_
  · exact AM.areaCells_length l
  · exact AM.areaCells_one l
  · rintro e w' ⟨v,rfl,h1,h2⟩
    obtain ⟨a',c',rfl,_,_⟩:=row_form h1
    exact ⟨a',c',rfl,h1,h2⟩
 have HFI : Hid (∀ k,k < hs.length -> ∀ V,Below w.heap.size w V -> Calls Tryz.prog 24 #[.agg (LM.cellsH (LM.shAt hs k))] V fun e w'=>e = .returned (.tuple #[.string (LM.fillN (LM.shAt hs k)).1,.int .i64 (LM.fillN (LM.shAt hs k)).2]) /\ Below V.heap.size V w'):=fun k hk V hV=>by
  obtain ⟨b,off,_,_,hl⟩:=(h.below hV) (by omega)
  exact LW.fill_any (LM.shAt hs k) V (hl k hk).2.2.2 (hfs.2 k hk)
 have HBG:=hideC (fun V=>FW.begin_any en V)
 have HSL:=hideC (fun (g : LM.checkL l hs en = 0)=>sheets_len g)
 have HPC:=hideC (fun (g : LM.checkL l hs en = 0)=>(check_parts g).1)
 have HTD:=hideC (FW.total_bd l)
 have HHH:=hideC h
 have HTS:=hideC (take_snoc hs)
 obtain ⟨ck,hck⟩ : ∃ ck,ck = LM.checkL l hs en:=⟨_,rfl⟩
 obtain ⟨tt,htt⟩ : ∃ tt,tt = AM.totalN l:=⟨_,rfl⟩
 have HNF : Hid (newF l hs en slots = if ¬ ck = 0 then (fl0,ck) else if ¬ (0 <= slots /\ slots <= 512) then (fl0,3) else if slots < tt then (fl0,8) else (⟨slots,[⟨true,l,hs.map pgOf⟩],[FW.beginN en],[]⟩,0)):=by rw [hck,htt];exact rfl
 rw [<- hck] at HCK HSL HPC
 rw [<- htt] at HTO HSL HTD
 obtain ⟨R,hR⟩ : ∃ R,R = newF l hs en slots:=⟨_,rfl⟩
 rw [<- hR] at HNF ⊢
 obtain ⟨P,hP⟩ : ∃ P,P = OutFl w R:=⟨_,rfl⟩
 have HP : Hid (∀ e w',OutFl w R e w' -> P e w'):=fun e w' h=>by rw [hP];exact h
 rw [<- hP]
 obtain ⟨n,hn⟩ : ∃ n,n = hs.length:=⟨_,rfl⟩
 rw [<- hn] at HCK HFI HSL ⊢
 have HN:=hideC hn
 obtain ⟨X,hX⟩ : ∃ X : Array Value,X = #[.slice aa na ca,.slice ah n ch,.int .i64 en]:=⟨_,rfl⟩
 have HBX:=hideC (((Below.refl w.heap.size w).alloc (Nat.le_refl _) (.cells #[.slice aa na ca,.slice ah n ch,.int .i64 en] 25)).alloc (by simp) (.cells #[.int .i64 0,.slice none 0 0,.slice none 0 0,.slice none 0 0] 30))
 have BX:=hideC (B.alloc (B.new w #[.slice aa na ca,.slice ah n ch,.int .i64 en] 25) (.cells #[.int .i64 0,.slice none 0 0,.slice none 0 0,.slice none 0 0] 30))
 have BZ:=hideC (B.new (w.alloc (.cells #[.slice aa na ca,.slice ah n ch,.int .i64 en] 25)) #[.int .i64 0,.slice none 0 0,.slice none 0 0,.slice none 0 0] 30)
 clear h ha hf hfs hck htt hR hP hn hX he hcap
 go_enter Tryz.func7,Tryz.ntmps7
 go_wp2_with fail
 obtain ⟨WA,hWA⟩ : ∃ WA,WA = (w.alloc (.cells #[.slice aa na ca,.slice ah n ch,.int .i64 en] 25)).alloc (.cells #[.int .i64 0,.slice none 0 0,.slice none 0 0,.slice none 0 0] 30):=⟨_,rfl⟩
 have hsz1 : (w.alloc (.cells #[.slice aa na ca,.slice ah n ch,.int .i64 en] 25)).heap.size = w.heap.size + 1:=by simp
 rw [hsz1] at BZ
 rw [<- hWA] at HBX BX BZ ⊢
 obtain ⟨x,hxe⟩ : ∃ x,x = w.heap.size:=⟨_,rfl⟩
 obtain ⟨z,hze⟩ : ∃ z,z = w.heap.size + 1:=⟨_,rfl⟩
 rw [<- hze] at BZ ⊢
 rw [<- hxe] at BX ⊢
 have hxz : ¬ x = z:=by omega
 have hzx : ¬ z = x:=by omega
 have HSX : Hid (∀ V,Below WA.heap.size WA V -> V.cell? ⟨x,0,none⟩ = some (.slice aa na ca) /\ V.cell? ⟨x,1,none⟩ = some (.slice ah n ch) /\ V.cell? ⟨x,2,none⟩ = some (.int .i64 en)):=fun V hb=>by
  have h1:=B.below BX.out hb (B.isLt BX.out)
  exact ⟨B.cell h1 0 rfl,B.cell h1 1 rfl,B.cell h1 2 rfl⟩
 have HZC : Hid (∀ V,Below WA.heap.size WA V -> (V.cell? ⟨z,0,none⟩ = some (.int .i64 0) /\ V.cell? ⟨z,1,none⟩ = some (.slice none 0 0) /\ V.cell? ⟨z,2,none⟩ = some (.slice none 0 0) /\ V.cell? ⟨z,3,none⟩ = some (.slice none 0 0)) /\ V.frozen? ⟨z,0,none⟩ = false /\ V.frozen? ⟨z,1,none⟩ = false /\ V.frozen? ⟨z,2,none⟩ = false /\ V.frozen? ⟨z,3,none⟩ = false):=fun V hb=>by
  have h1:=B.below BZ.out hb (B.isLt BZ.out)
  exact ⟨⟨B.cell h1 0 rfl,B.cell h1 1 rfl,B.cell h1 2 rfl,B.cell h1 3 rfl⟩,B.free h1 0,B.free h1 1,B.free h1 2,B.free h1 3⟩
 have hzWA:=B.isLt BZ.out
 have HWZ : Hid (w.heap.size <= z):=(by rw [hze];omega : w.heap.size <= z)
 have HXW : Hid (x = w.heap.size):=hxe
 clear hWA hsz1 hxe hze BX BZ
 have HNO : Hid (∀ (V : World) (er : Int),R = (fl0,er) -> Below WA.heap.size WA V -> P (.returned (.tuple #[.agg #[.int .i64 0,.slice none 0 0,.slice none 0 0,.slice none 0 0],.int .i64 er])) ((((V.setCell ⟨z,0,none⟩ (.int .i64 0)).setCell ⟨z,1,none⟩ (.slice none 0 0)).setCell ⟨z,2,none⟩ (.slice none 0 0)).setCell ⟨z,3,none⟩ (.slice none 0 0))):=fun V er hRe hV=>by
  refine HP.out _ _ ?_
  rw [hRe]
  exact ⟨none,0,none,0,none,0,rfl,fun V _=>has_fl0 V,Kp.below (HBX.out.trans (hV.mono HBX.out.size)) (kp_set4 V z _ _ _ _) (Nat.le_trans HBX.out.size hV.size) (fun b e=>by rw [e];exact HWZ.out)⟩
 refine (HCK.out _ HBX.out).mono ?_
 rintro e w1 ⟨rfl,hb1⟩
 have HB1:=hideC hb1
 obtain ⟨⟨z0,z1,z2,z3⟩,f0,f1,f2,f3⟩:=HZC.out _ hb1
 obtain ⟨x0,x1,x2⟩:=HSX.out _ hb1
 clear hb1 HCK
 by_cases hk0 : ck = 0
 · subst hk0
   obtain ⟨hnt,hnb⟩:=HSL.out rfl
   have hnl : (n : Int) <= 65025:=by omega
   have HCL1:=hideC (HCL.out (HPC.out rfl))
   have HN1 : Hid (R = if ¬ (0 <= slots /\ slots <= 512) then (fl0,3) else if slots < tt then (fl0,8) else (⟨slots,[⟨true,l,hs.map pgOf⟩],[FW.beginN en],[]⟩,0)):=by rw [HNF.out,if_neg (fun g=>g rfl)];exact rfl
   clear HNF HSL HPC HCL
   by_cases hs0 : 0 <= slots
   · by_cases hs5 : slots <= 512
     · by_cases hst : slots < tt
       · have HRE : Hid (R = (fl0,8)):=by rw [HN1.out,if_neg (fun g=>g ⟨hs0,hs5⟩),if_pos hst];exact rfl
         clear HN1
         go_wp2_with (go_at_call 22;refine (HTO.out _ (HBX.out.trans (HB1.out.mono HBX.out.size))).mono ?_;rintro e w2 ⟨rfl,hb2⟩;have HB2:=hideC (HB1.out.trans (hb2.mono HB1.out.size));obtain ⟨⟨y0,y1,y2,y3⟩,g0,g1,g2,g3⟩:=HZC.out _ HB2.out;clear hb2)
         refine bodyPost_ret (v:=.tuple #[.agg #[.int .i64 0,.slice none 0 0,.slice none 0 0,.slice none 0 0],.int .i64 8]) (by simp [results,Tryz.results7,go_sem,y0,y1,y2,y3]) rfl ?_
         exact HNO.out _ _ HRE.out HB2.out
       · have HRE : Hid (R = (⟨slots,[⟨true,l,hs.map pgOf⟩],[FW.beginN en],[]⟩,0)):=by rw [HN1.out,if_neg (fun g=>g ⟨hs0,hs5⟩),if_neg hst];exact rfl
         clear HN1
         go_wp2_with (first
          | (go_at_call 22;refine (HTO.out _ (HBX.out.trans (HB1.out.mono HBX.out.size))).mono ?_;rintro e w2 ⟨rfl,hb2⟩;have HB2:=hideC (HB1.out.trans (hb2.mono HB1.out.size));obtain ⟨q0,q1,q2⟩:=HSX.out _ HB2.out;clear hb2)
          | (go_at_call 23;refine (HCL1.out _ (HBX.out.trans (HB2.out.mono HBX.out.size))).mono ?_;rintro e w3 ⟨a3,c3,rfl,ho3,hb3⟩;have HO3:=hideC ho3;have HB3:=hideC (HB2.out.trans (hb3.mono HB2.out.size));obtain ⟨p0,p1,p2⟩:=HSX.out _ HB3.out;have hxw3 : x < w3.heap.size:=World.block_lt_of_cell? _ _ p0;have hxn : ¬ x = w3.heap.size:=(by omega);clear ho3 hb3))
         have HT3:=hideC (B.new w3 #[.bool true,.slice a3 l.length c3,.slice none 0 0] 53)
         have HA3:=hideC ((Below.refl w3.heap.size w3).alloc (Nat.le_refl _) (.cells #[.bool true,.slice a3 l.length c3,.slice none 0 0] 53))
         obtain ⟨i0,hin,hz0,hz1,hz2⟩:=info_parts infoPg
         have HIN:=hideC hin
         have HZ0:=hideC hz0
         have HZ1:=hideC hz1
         have HZ2:=hideC hz2
         have HBW3:=hideC (HBX.out.trans (HB3.out.mono HBX.out.size))
         clear hin hz0 hz1 hz2 q0 q1 q2 x0 x1 x2 z0 z1 z2 z3 f0 f1 f2 f3 HTO HCL1
         go_loopw [40] (fun iv wr=>∃ (k : Nat) (av : Option Addr) (cv : Nat),k <= n /\ iv = .int .i64 (k : Int) /\ wr.heap[w3.heap.size]? = some (.cells #[.bool true,.slice a3 l.length c3,.slice av k cv] 53 (0,0)) /\ wr.ownsRow (w3.heap.size + 1) 65 2 (.slice av k cv) k (((hs.take k).map pgOf).flatMap cellPg) /\ Below w3.heap.size w3 wr) (fun iv _=>n - (intOf iv).toNat)
         case atStart=>exact ⟨0,none,0,by omega,rfl,HT3.out,World.ownsRow_nil _ _ _ _,HA3.out⟩
         case round =>
          obtain ⟨k,av,cv,hk,rfl,htb,hrow,hbr⟩:=hrel
          have HTB:=hideC htb
          have HRW:=hideC hrow
          have HBR:=hideC hbr
          have htl : w3.heap.size < wr.heap.size:=B.isLt htb
          by_cases hlt : k < n
          · have hki : (k : Int) < (n : Int):=by omega
            obtain ⟨b,off,hah,hbl,hlie⟩:=(HHH.out.below (HBW3.out.trans (hbr.mono HBW3.out.size))) (by have:=HN.out;omega)
            subst hah
            obtain ⟨c0,c1,c2,_⟩:=hlie k (by have:=HN.out;omega)
            have HFK:=hideC (HFI.out k hlt)
            have HSK:=hideC (HTS.out k (by have:=HN.out;omega))
            unfold LM.cellsH at HFK
            obtain ⟨S,hS⟩ : ∃ S,S = LM.shAt hs k:=⟨_,rfl⟩
            rw [<- hS] at c0 c1 c2 HFK HSK
            obtain ⟨sp,hsp⟩ : ∃ sp,sp = S.page:=⟨_,rfl⟩
            obtain ⟨sd,hsd⟩ : ∃ sd,sd = S.data:=⟨_,rfl⟩
            obtain ⟨sf,hsf⟩ : ∃ sf,sf = S.fixes.length:=⟨_,rfl⟩
            obtain ⟨FD,hFD⟩ : ∃ FD,FD = (LM.fillN S).1:=⟨_,rfl⟩
            obtain ⟨FE,hFE⟩ : ∃ FE,FE = (LM.fillN S).2:=⟨_,rfl⟩
            rw [<- hsp] at c0 HFK HSK
            rw [<- hsd] at c1 HFK
            rw [<- hsf] at c2 HFK
            rw [<- hFD] at HFK HSK
            rw [<- hFE] at HFK
            have HA4:=hideC ((Below.refl wr.heap.size wr).alloc (Nat.le_refl _) (.cells #[.int .i64 sp,.string sd,.slice S.ao sf S.cap] 62))
            have HN4:=hideC (B.new wr #[.int .i64 sp,.string sd,.slice S.ao sf S.cap] 62)
            clear htb hrow hbr hlie hS hsp hsd hsf hFD hFE
            go_wp2_with (first
             | (at_builtin;refine wpList_append_src (P:=Tryz.prog) rfl _ _ 51 rfl (w3.heap.size + 1) 65 i0 (.agg #[.int .i64 0,.string ⟨#[]⟩]) 2 24 Tryz.underlying51 HIN.out HZ0.out HZ1.out HZ2.out rfl (by decide) _ k (((hs.take k).map pgOf).flatMap cellPg) rfl (HRW5.out.alloc _) (some ⟨w5.heap.size,0,none⟩) 1 1 [.int .i64 sp,.string FD] rfl rfl (fun _=>⟨_,rfl,B.news (B.new w5 _ _)⟩) (by intro u hu;simp at hu;rcases hu with rfl | rfl <;> rfl) (by unfold maxLen;omega) (by omega) (by simp;omega) ?_;intro v' w6 hown hgr hat;obtain ⟨a6,c6,hv6,_,_⟩:=row_form hown;subst hv6;have HO6:=hideC hown;have HG6:=hideC hgr;have HT6:=hideC (B.grown (B.alloc HTB5.out (.cells #[.int .i64 sp,.string FD] 65)) hgr (fun e=>by have:=(HRW5.out.lt _ e.symm).1;omega));have t6 : w6.cell? ⟨w3.heap.size,2,none⟩ = some (.slice av k cv):=B.cell HT6.out 2 rfl;have t7:=B.free HT6.out 2;clear hown hgr hat)
             | (go_at_call 24;refine (HFK.out _ (HBW3.out.trans ((HBR.out.trans (HA4.out.mono HBR.out.size)).mono HBW3.out.size))).mono ?_;rintro e w5 ⟨rfl,hb5⟩;have HB5:=hideC (HBR.out.trans ((HA4.out.trans (hb5.mono HA4.out.size)).mono HBR.out.size));have hl5:=(HA4.out.trans (hb5.mono HA4.out.size)).size;have HTB5:=hideC (B.below (B.alloc HTB.out (.cells #[.int .i64 sp,.string sd,.slice S.ao sf S.cap] 62)) hb5 (B.isLt (B.alloc HTB.out _)));have HRW5:=hideC (Kp.row (Kp.ofBelow (D:=fun _=>False) (HA4.out.trans (hb5.mono HA4.out.size))) HRW.out (fun _ _ g=>g));have t5 : w5.cell? ⟨w3.heap.size,2,none⟩ = some (.slice av k cv):=B.cell HTB5.out 2 rfl;have t4 : w5.cell? ⟨wr.heap.size,0,none⟩ = some (.int .i64 sp):=B.cell (B.below HN4.out hb5 (B.isLt HN4.out)) 0 rfl;clear hb5))
            go_roundw
            case rel =>
             refine ⟨k + 1,a6,c6,by omega,by go_num,?_,?_,?_⟩
             · exact B.set HT6.out 2 _
             · have hr:=Kp.row (Kp.set (fun b=>b = w3.heap.size) w6 ⟨w3.heap.size,2,none⟩ (.slice a6 (k + 1) c6) rfl) HO6.out (fun g hg e=>by have:=(HO6.out.lt g hg).1;omega)
               rw [HSK.out]
               exact hr
             · have hk6 : Kp (fun b=>w3.heap.size <= b) w5 w6:=((Kp.alloc (fun b=>w3.heap.size <= b) w5 (.cells #[.int .i64 sp,.string FD] 65)).trans (Kp.grown (D:=fun b=>w3.heap.size <= b) HG6.out (fun g hg=>by have:=(HRW5.out.lt g hg).1;omega)) (fun _ _ g=>g))
               exact Kp.below (Kp.below HB5.out hk6 HB5.out.size (fun b g=>g)) (Kp.set (fun b=>w3.heap.size <= b) w6 ⟨w3.heap.size,2,none⟩ _ (Nat.le_refl _)) (Nat.le_trans HB5.out.size hk6.size) (fun b g=>g)
            case measure=>simp [intOf];omega
          · obtain rfl : n = k:=by omega
            clear htb hrow hbr
            have HBG2 : Hid (∀ V,Calls Tryz.prog 25 #[.int .i64 en] V fun e w'=>e = .returned (.agg #[.int .i64 0,.int .i64 0,.int .i64 0,.int .i64 0,.int .i64 0,.int .i64 0,.int .i64 0,.int .i64 0,.int .i64 en,.int .i64 1,.int .i64 0,.int .i64 0,.int .i64 0]) /\ Below V.heap.size V w'):=fun V=>HBG.out V
            have HKR:=hideC (HB3.out.trans (HBR.out.mono HB3.out.size))
            obtain ⟨⟨z0,z1,z2,z3⟩,f0,f1,f2,f3⟩:=HZC.out _ HKR.out
            obtain ⟨r0,r1,r2⟩:=HSX.out _ HKR.out
            have t0 : wr.cell? ⟨w3.heap.size,0,none⟩ = some (.bool true):=B.cell HTB.out 0 rfl
            have t1 : wr.cell? ⟨w3.heap.size,1,none⟩ = some (.slice a3 l.length c3):=B.cell HTB.out 1 rfl
            have t2 : wr.cell? ⟨w3.heap.size,2,none⟩ = some (.slice av n cv):=B.cell HTB.out 2 rfl
            have HTD : Hid (wr.drew.heap[w3.heap.size]? = some (.cells #[.bool true,.slice a3 l.length c3,.slice av n cv] 53 (0,0))):=HTB.out
            have HDR:=hideC ((Below.refl wr.heap.size wr).drew)
            have HAD : Hid (∀ o,Below wr.heap.size wr (wr.alloc o).drew /\ wr.heap.size <= (wr.alloc o).drew.heap.size):=fun o=>⟨((Below.refl wr.heap.size wr).alloc (Nat.le_refl _) o).drew,((Below.refl wr.heap.size wr).alloc (Nat.le_refl _) o).drew.size⟩
            have HFIN : Hid (∀ (Y : World) (A C : Nat),Y.heap[A]? = some (.cells #[.bool true,.slice a3 l.length c3,.slice av n cv] 53 (0,0)) -> Y.heap[C]? = some (.cells #[.int .i64 0,.int .i64 0,.int .i64 0,.int .i64 0,.int .i64 0,.int .i64 0,.int .i64 0,.int .i64 0,.int .i64 en,.int .i64 1,.int .i64 0,.int .i64 0,.int .i64 0] 70 (0,0)) -> Below wr.heap.size wr Y -> wr.heap.size <= A -> wr.heap.size <= C -> P (.returned (.tuple #[.agg #[.int .i64 slots,.slice (some ⟨A,0,none⟩) 1 1,.slice (some ⟨C,0,none⟩) 1 1,.slice none 0 0],.int .i64 0])) ((((Y.setCell ⟨z,0,none⟩ (.int .i64 slots)).setCell ⟨z,1,none⟩ (.slice (some ⟨A,0,none⟩) 1 1)).setCell ⟨z,2,none⟩ (.slice (some ⟨C,0,none⟩) 1 1)).setCell ⟨z,3,none⟩ (.slice none 0 0))):=fun Y A C hA hC hY hAl hCl=>by
             refine HP.out _ _ ?_
             rw [HRE.out]
             have hk4:=kp_set4 Y z (.int .i64 slots) (.slice (some ⟨A,0,none⟩) 1 1) (.slice (some ⟨C,0,none⟩) 1 1) (.slice none 0 0)
             have hw3:=HBW3.out.size
             have hwr:=HBR.out.size
             have hzl : z < w3.heap.size:=Nat.lt_of_lt_of_le hzWA HB3.out.size
             have hwz:=HWZ.out
             refine ⟨some ⟨A,0,none⟩,1,some ⟨C,0,none⟩,1,none,0,rfl,fun V hV=>?_,?_⟩
             · have hk : Kp (fun b=>b <= z) Y V:=(hk4.mono (fun b _ e=>Nat.le_of_eq e)).trans hV (fun b _ g=>by have g' : b < w.heap.size:=g;omega)
               have gA:=hk.keep hA (fun g=>by have g' : A <= z:=g;omega)
               have gC:=hk.keep hC (fun g=>by have g' : C <= z:=g;omega)
               have hO : AW.Own (z + 1) V (.slice a3 l.length c3) l:=by
                have h1:=HO3.out
                have h2 : w3.ownsRow w2.heap.size 59 4 (.slice a3 l.length c3) l.length (AM.areaCells l):=h1
                have hz2 : z < w2.heap.size:=Nat.lt_of_lt_of_le hzWA HB2.out.size
                have h3:=Kp.row (Kp.ofBelow (D:=fun _=>False) HBR.out) h2 (fun _ _ g=>g)
                have h4:=Kp.row (Kp.ofBelow (D:=fun _=>False) hY) h3 (fun _ _ g=>g)
                have h5:=Kp.row hk h4 (fun g hg e=>by have g' : g <= z:=e;have:=(h2.lt g hg).1;omega)
                exact row_base h5 (fun g hg=>by have:=(h2.lt g hg).1;omega)
               have hPg:=Kp.row hk (Kp.row (Kp.ofBelow (D:=fun _=>False) hY) HRW.out (fun _ _ g=>g)) (fun g hg e=>by have g' : g <= z:=e;have:=(HRW.out.lt g hg).1;omega)
               have hfull : (hs.take n).map pgOf = hs.map pgOf:=by rw [HN.out,List.take_length]
               rw [hfull] at hPg
               have hlen : (hs.map pgOf).length = n:=by rw [List.length_map,HN.out]
               have hHP : FW.HasP V av (hs.map pgOf):=fun hp=>by
                obtain ⟨ao',cap',e0,_,hg⟩:=row_form hPg
                injection e0 with ea _ _
                obtain ⟨g,hgo,_,hglt⟩:=hg (by omega)
                have hao : av = some ⟨g,0,none⟩:=ea.trans hgo
                refine ⟨g,0,hao,hglt,fun i hi=>?_⟩
                rw [hao,<- hlen] at hPg
                rw [Nat.zero_add]
                exact ⟨row_at cellPg cellPg_len FM.pg0 hPg i 0 hi (by omega),row_at cellPg cellPg_len FM.pg0 hPg i 1 hi (by omega)⟩
               refine ⟨fun _=>⟨A,0,rfl,B.isLt gA,fun i hi=>?_⟩,fun _=>⟨C,0,rfl,B.isLt gC,fun i hi=>?_⟩,fun g=>absurd g (Nat.not_lt_zero _)⟩
               · have hi' : i < 1:=hi
                 obtain rfl : i = 0:=by omega
                 refine ⟨_,av,cv,B.cell gA 0 rfl,B.cell gA 1 rfl,?_,AW.Own.has hO,hHP,?_⟩
                 · have:=B.cell gA 2 (v:=.slice av n cv) rfl
                   rw [<- hlen] at this
                   exact this
                 · show (hs.map pgOf).length <= cv
                   obtain ⟨ao',cap',e0,hcc,_⟩:=row_form hPg
                   injection e0 with _ _ ec
                   omega
               · have hi' : i < 1:=hi
                 obtain rfl : i = 0:=by omega
                 exact ⟨B.cell gC 0 rfl,B.cell gC 1 rfl,B.cell gC 2 rfl,B.cell gC 3 rfl,B.cell gC 4 rfl,B.cell gC 5 rfl,B.cell gC 6 rfl,B.cell gC 7 rfl,B.cell gC 8 rfl,B.cell gC 9 rfl,B.cell gC 10 rfl,B.cell gC 11 rfl,B.cell gC 12 rfl⟩
             · exact Kp.below ((HBW3.out.trans (HBR.out.mono HBW3.out.size)).trans (hY.mono (by omega))) hk4 (by have:=hY.size;omega) (fun b e=>by have e' : b = z:=e;omega)
            have hxr : ¬ x = wr.heap.size:=by have:=World.block_lt_of_cell? _ _ r0;have h' : x < wr.heap.size:=this;omega
            have hzr : z < wr.heap.size:=Nat.lt_of_lt_of_le hzWA HKR.out.size
            have hzr' : ¬ z = wr.heap.size:=by omega
            have htr' : ¬ w3.heap.size = wr.heap.size:=by omega
            have r3 : ∀ o,(wr.alloc o).cell? ⟨x,2,none⟩ = some (.int .i64 en):=fun o=>(HSX.out _ (HKR.out.alloc HKR.out.size o)).2.2
            clear HBG HFI HHH HTS HNO HRE HP p0 p1 p2 HT3 HA3 HIN HZ0 HZ1 HZ2
            go_wp2_with fail
            go_region_law (go_simp;go_at_call 25;refine (HBG2.out _).mono ?_;rintro e w7 ⟨rfl,hb7⟩;have hs7 : wr.heap.size <= w7.heap.size:=(by first | exact hb7.size | (have:=hb7.size;simp at this;omega));have HY7 : Hid (Below wr.heap.size wr w7):=(by first | exact HDR.out.trans hb7 | exact (HAD.out _).1.trans (hb7.mono (HAD.out _).2));have HB7:=hideC hb7;have hT7:=B.below HTB.out HY7.out htl;have u0 : w7.cell? ⟨w3.heap.size,0,none⟩ = some (.bool true):=B.cell hT7 0 rfl;have u1 : w7.cell? ⟨w3.heap.size,1,none⟩ = some (.slice a3 l.length c3):=B.cell hT7 1 rfl;have u2 : w7.cell? ⟨w3.heap.size,2,none⟩ = some (.slice av n cv):=B.cell hT7 2 rfl;have HK7:=hideC (HKR.out.trans (HY7.out.mono HKR.out.size));obtain ⟨⟨v0,v1,v2,v3⟩,g0,g1,g2,g3⟩:=HZC.out _ HK7.out;have HQ1:=hideC (fun o=>HZC.out _ (HK7.out.alloc HK7.out.size o));have HQ2:=hideC (fun o o'=>HZC.out _ ((HK7.out.alloc HK7.out.size o).alloc (HK7.out.alloc HK7.out.size o).size o'));have e0:=(fun o=>(HQ1.out o).1.1);have e1:=(fun o=>(HQ1.out o).1.2.1);have e2:=(fun o=>(HQ1.out o).1.2.2.1);have e3:=(fun o=>(HQ1.out o).1.2.2.2);have e4:=(fun o=>(HQ1.out o).2.1);have e5:=(fun o=>(HQ1.out o).2.2.1);have e6:=(fun o=>(HQ1.out o).2.2.2.1);have e7:=(fun o=>(HQ1.out o).2.2.2.2);have k0:=(fun o o'=>(HQ2.out o o').1.1);have k1:=(fun o o'=>(HQ2.out o o').1.2.1);have k2:=(fun o o'=>(HQ2.out o o').1.2.2.1);have k3:=(fun o o'=>(HQ2.out o o').1.2.2.2);have k4:=(fun o o'=>(HQ2.out o o').2.1);have k5:=(fun o o'=>(HQ2.out o o').2.2.1);have k6:=(fun o o'=>(HQ2.out o o').2.2.2.1);have k7:=(fun o o'=>(HQ2.out o o').2.2.2.2);have u3 : ∀ o,(w7.alloc o).cell? ⟨w3.heap.size,0,none⟩ = some (.bool true):=(fun o=>B.cell (B.alloc hT7 o) 0 rfl);have u4 : ∀ o,(w7.alloc o).cell? ⟨w3.heap.size,1,none⟩ = some (.slice a3 l.length c3):=(fun o=>B.cell (B.alloc hT7 o) 1 rfl);have u5 : ∀ o,(w7.alloc o).cell? ⟨w3.heap.size,2,none⟩ = some (.slice av n cv):=(fun o=>B.cell (B.alloc hT7 o) 2 rfl);have hz7 : ¬ z = w7.heap.size:=(by omega);have hz8 : ¬ z = w7.heap.size + 1:=(by omega);have ht7 : ¬ w3.heap.size = w7.heap.size:=(by omega);have ht8 : ¬ w3.heap.size = w7.heap.size + 1:=(by omega);clear hb7 hT7;go_simp)
            all_goals
             go_wp2
             refine bodyPost_ret (v:=?_) ?_ rfl ?_
             rotate_left 2
             · refine HFIN.out _ _ _ ?_ ?_ ?_ ?_ ?_
               · first
                  | exact B.alloc (B.new w7 _ _) _
                  | exact newS w7 _ _ _
                  | exact B.alloc (B.below (w:=(wr.alloc (.cells #[.bool true,.slice a3 l.length c3,.slice av n cv] 53)).drew) (B.new wr #[.bool true,.slice a3 l.length c3,.slice av n cv] 53) HB7.out (show wr.heap.size < (wr.alloc (.cells #[.bool true,.slice a3 l.length c3,.slice av n cv] 53)).heap.size by simp)) _
               · first
                  | exact B.new w7 _ _
                  | exact newS w7 _ _ _
                  | exact B.alloc (B.new w7 _ _) _
               · first
                  | exact HY7.out.alloc hs7 _
                  | exact (HY7.out.alloc hs7 _).alloc (HY7.out.alloc hs7 _).size _
               · first
                  | exact Nat.le_refl _
                  | exact hs7
                  | omega
               · first
                  | exact hs7
                  | omega
             simp [results,Tryz.results7,go_sem,Act.put,v0,v1,v2,v3,e0,e1,e2,e3,k0,k1,k2,k3]
     · have HRE : Hid (R = (fl0,3)):=by rw [HN1.out,if_pos (fun g=>hs5 g.2)];exact rfl
       clear HN1
       go_wp2
       refine bodyPost_ret (v:=.tuple #[.agg #[.int .i64 0,.slice none 0 0,.slice none 0 0,.slice none 0 0],.int .i64 3]) (by simp [results,Tryz.results7,go_sem,z0,z1,z2,z3]) rfl ?_
       exact HNO.out _ _ HRE.out HB1.out
   · have HRE : Hid (R = (fl0,3)):=by rw [HN1.out,if_pos (fun g=>hs0 g.1)];exact rfl
     clear HN1
     go_wp2
     refine bodyPost_ret (v:=.tuple #[.agg #[.int .i64 0,.slice none 0 0,.slice none 0 0,.slice none 0 0],.int .i64 3]) (by simp [results,Tryz.results7,go_sem,z0,z1,z2,z3]) rfl ?_
     exact HNO.out _ _ HRE.out HB1.out
 · have HRE : Hid (R = (fl0,ck)):=by rw [HNF.out,if_pos hk0];exact rfl
   have hki : (ck == 0) = false:=by rw [beq_eq_false_iff_ne];exact hk0
   clear HNF hk0 HSL HPC HCL
   go_wp2
   refine bodyPost_ret (v:=.tuple #[.agg #[.int .i64 0,.slice none 0 0,.slice none 0 0,.slice none 0 0],.int .i64 ck]) (by simp [results,Tryz.results7,go_sem,z0,z1,z2,z3]) rfl ?_
   exact HNO.out _ _ HRE.out HB1.out
end GH
end Go.Proofs.YtkdigjpejnebkaaGreat
