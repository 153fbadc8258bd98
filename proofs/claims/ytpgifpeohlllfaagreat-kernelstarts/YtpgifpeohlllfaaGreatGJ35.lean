import Derived.Test.YtpgifpeohlllfaaGreatGJ32
import Derived.Test.YtpgifpeohlllfaaGreatGJ34
import Derived.Test.YtpgifpeohlllfaaGreatGJ15
import Derived.Test.YtpgifpeohlllfaaGreatGJ13
import Derived.Test.YtpgifpeohlllfaaGreatGJ30
set_option maxHeartbeats 20000000
set_option linter.unusedVariables false
set_option maxRecDepth 100000
set_option linter.unusedSimpArgs false
namespace Go.Proofs.YtpgifpeohlllfaaGreat
namespace KR
open Go.RowKit GK
open FW (hideC add_below)
open KW (HasRow KAt HasK cellsK FitK FitSp HasSp cellEn kinC cellFr cellSl)
structure Ans (k : KM.Kn) (A : Int) : Prop where
 rise : LM.riseB k.sheets = false -> A = 1
 hand : ¬ (0 <= k.hand /\ k.hand <= (k.frames.length : Int) - 1) -> A = 1
 sp : ∀ i,i < k.spaces.length -> KM.spFineR k.sheets k.frames.length k.slots.length (KM.spAt k.spaces i) = false -> A = 1
 room : ¬ KM.room k.spaces <= (k.slots.length : Int) -> A = 1
 fr : ∀ i,i < k.frames.length -> KM.frR k.sheets (KM.frAt k.frames i) (KM.namersN k.spaces 1 i) = false -> A = 1
 sl : ∀ i,i < k.slots.length -> KM.slR (KM.slAt k.slots i) (KM.namersN k.spaces 2 i) = false -> A = 1
 yes : LM.riseB k.sheets = true -> (0 <= k.hand /\ k.hand <= (k.frames.length : Int) - 1) -> KM.spsR k k.spaces.length = true -> KM.room k.spaces <= (k.slots.length : Int) -> KM.frsR k k.frames.length = true -> KM.slsR k k.slots.length = true -> A = 0
theorem ans_of {k : KM.Kn} (hc : KM.counts k = true) : Ans k (KM.checkR k):=by
 have e : KM.checkR k = if KM.fineR k then 0 else 1:=by
  unfold KM.checkR
  rw [if_neg (by rw [hc];decide)]
 have no : KM.fineR k = false -> KM.checkR k = 1:=fun h=>by rw [e,h];rfl
 refine ⟨fun h=>no ?_,fun h=>no ?_,fun i hi h=>no ?_,fun h=>no ?_,fun i hi h=>no ?_,fun i hi h=>no ?_,fun h1 h2 h3 h4 h5 h6=>?_⟩
 · unfold KM.fineR;rw [h,Bool.false_and]
 · unfold KM.fineR;rw [decide_eq_false h,Bool.false_and,Bool.and_false]
 · unfold KM.fineR
   rw [to_false (f:=fun n=>KM.spFineR k.sheets k.frames.length k.slots.length (KM.spAt k.spaces n)) (g:=KM.spsR k) (fun _=>rfl) _ i hi h]
   simp
 · unfold KM.fineR;rw [decide_eq_false h];simp
 · unfold KM.fineR
   rw [to_false (f:=fun n : Nat=>KM.frR k.sheets (KM.frAt k.frames n) (KM.namersN k.spaces 1 n)) (g:=KM.frsR k) (fun _=>rfl) _ i hi h]
   simp
 · unfold KM.fineR
   rw [to_false (f:=fun n : Nat=>KM.slR (KM.slAt k.slots n) (KM.namersN k.spaces 2 n)) (g:=KM.slsR k) (fun _=>rfl) _ i hi h]
   simp
 · rw [e]
   unfold KM.fineR
   rw [h1,decide_eq_true h2,h3,decide_eq_true h4,h5,h6]
   rfl
structure Fnd (k : KM.Kn) : Prop where
 check : ∀ i,i < k.spaces.length -> AM.checkN (KM.spAt k.spaces i).areas = 0
 few : ∀ i,i < k.spaces.length -> (KM.spAt k.spaces i).ents.length <= 65025
 sheet : ∀ kd i,(KM.namersN k.spaces kd i).n ≠ 0 -> (KM.namersN k.spaces kd i).area.zero = false -> (KM.sheetFor k.sheets (KM.namersN k.spaces kd i).page).isSome = true
 pos : ∀ kd i,0 <= (KM.namersN k.spaces kd i).n
theorem fnd_of {k : KM.Kn} (h : KM.spsR k k.spaces.length = true) : Fnd k:=by
 have all : ∀ i,i < k.spaces.length -> KM.SpR k.sheets k.frames.length k.slots.length (KM.spAt k.spaces i):=fun i hi=>KM.spR_iff.1 ((KM.to_all (f:=fun n=>KM.spFineR k.sheets k.frames.length k.slots.length (KM.spAt k.spaces n)) (g:=KM.spsR k) rfl (fun _=>rfl) _).1 h i hi)
 refine ⟨fun i hi=>(all i hi).areas,fun i hi=>?_,fun kd i hn hz=>?_,fun kd i=>?_⟩
 · have h1:=KM.ents_pages (all i hi)
   have h2:=KW.total_bd (KM.spAt k.spaces i).areas
   omega
 · have N:=KM.na_all k.spaces kd i
   have hne : KM.names k.spaces kd i ≠ []:=fun e=>hn (by rw [N.n,e];rfl)
   obtain ⟨s,hs,e,he,_,_,hx⟩:=KM.mem_names.1 (N.last hne)
   obtain ⟨j,hj,ej⟩:=KM.mem_getD KM.sp0 hs
   have ej : KM.spAt k.spaces j = s:=ej
   have hS:=all j hj
   rw [ej] at hS
   injection hx with p1 p2
   rw [p1]
   exact hS.sheets e.page (hS.ent e he).1 (by rw [<- p2];exact hz)
 · rw [(KM.na_all k.spaces kd i).n]
   omega
set_option maxHeartbeats 16000000 in
theorem check_any (k : KM.Kn) (a : KAt) (w : World) (hK : HasK w a k) (hF : FitK k) :
  Calls Tryz.prog 14 #[.agg (cellsK a k)] w fun e w'=>e = .returned (.int .i64 (KM.checkR k)) /\ Below w.heap.size w w':=by
 obtain ⟨nS,hnS⟩ : ∃ nS,nS = k.sheets.length:=⟨_,rfl⟩
 obtain ⟨nF,hnF⟩ : ∃ nF,nF = k.frames.length:=⟨_,rfl⟩
 obtain ⟨nL,hnL⟩ : ∃ nL,nL = k.slots.length:=⟨_,rfl⟩
 obtain ⟨nP,hnP⟩ : ∃ nP,nP = k.spaces.length:=⟨_,rfl⟩
 obtain ⟨WA,hWA⟩ : ∃ WA,WA = w.alloc (.cells #[.slice a.aS nS a.cS,.slice a.aF nF a.cF,.slice a.aL nL a.cL,.slice a.aP nP a.cP,.int .i64 k.hand] 27):=⟨_,rfl⟩
 have hb0 : Below w.heap.size w WA:=by rw [hWA];exact (Below.refl _ _).alloc (Nat.le_refl _) _
 have kb : WA.heap[w.heap.size]? = some (.cells #[.slice a.aS nS a.cS,.slice a.aF nF a.cF,.slice a.aL nL a.cL,.slice a.aP nP a.cP,.int .i64 k.hand] 27 (0,0)):=by rw [hWA];exact B.new w _ _
 have KB : Hid (∀ V,Below WA.heap.size WA V -> V.heap[w.heap.size]? = some (.cells #[.slice a.aS nS a.cS,.slice a.aF nF a.cF,.slice a.aL nL a.cL,.slice a.aP nP a.cP,.int .i64 k.hand] 27 (0,0))):=fun V hb=>B.below kb hb (B.isLt kb)
 have hck : cellsK a k = #[.slice a.aS nS a.cS,.slice a.aF nF a.cF,.slice a.aL nL a.cL,.slice a.aP nP a.cP,.int .i64 k.hand]:=by unfold cellsK;rw [<- hnS,<- hnF,<- hnL,<- hnP]
 have HWI:=hideC AW.within_any
 have hbw : ∀ {V : World},Below WA.heap.size WA V -> Below w.heap.size w V:=fun hV=>hb0.trans (hV.mono hb0.size)
 have HSR : Hid (∀ V,Below WA.heap.size WA V -> Calls Tryz.prog 45 #[.slice a.aS nS a.cS] V fun e w'=>e = .returned (.bool (LM.riseB k.sheets)) /\ Below V.heap.size V w'):=fun V hV=>by rw [hnS];exact LW.sheetsRise_any k.sheets a.aS a.cS V (hK.sheets.below (hbw hV)) hF.sheets
 have HWA:=hideC hWA
 have HB0:=hideC hb0
 rw [hck]
 have hsS : nS <= 140737488351232:=by rw [hnS];exact hF.sheets.1
 have hsF : nF <= 140737488351232:=by rw [hnF];exact hF.nf
 have hsL : nL <= 140737488351232:=by rw [hnL];exact hF.ns
 have hsP : nP <= 140737488351232:=by rw [hnP];exact hF.np
 by_cases hcn : KM.counts k = true
 · have HAN:=hideC (ans_of hcn)
   have hc4 : (3 <= nF /\ nF <= 64) /\ nL <= 512 /\ (1 <= nP /\ nP <= 4) /\ nS <= 255:=by rw [hnS,hnF,hnL,hnP];exact of_decide_eq_true hcn
   obtain ⟨⟨hF3,hF64⟩,hL5,⟨hP1,hP4⟩,hS2⟩:=hc4
   obtain ⟨A,hA⟩ : ∃ A,A = KM.checkR k:=⟨_,rfl⟩
   rw [<- hA] at HAN ⊢
   have HSF : Hid (∀ V i,Below WA.heap.size WA V -> i < nP -> ∃ pb po lv aa la ca ap le cp,a.aP = some ⟨pb,po,none⟩ /\ (∀ U,Below V.heap.size V U -> U.cell? ⟨pb,po + i * 3,none⟩ = some (.bool lv) /\ U.cell? ⟨pb,po + i * 3 + 1,none⟩ = some (.slice aa la ca) /\ U.cell? ⟨pb,po + i * 3 + 2,none⟩ = some (.slice ap le cp)) /\ ∀ U,Below V.heap.size V U -> Calls Tryz.prog 46 #[.agg #[.slice a.aS nS a.cS,.slice a.aF nF a.cF,.slice a.aL nL a.cL,.slice a.aP nP a.cP,.int .i64 k.hand],.agg #[.bool lv,.slice aa la ca,.slice ap le cp]] U fun e w'=>e = .returned (.bool (KM.spFineR k.sheets k.frames.length k.slots.length (KM.spAt k.spaces i))) /\ Below U.heap.size U w'):=fun V i hV hi=>by
    obtain ⟨pb,po,e1,e2,e3⟩:=(hK.spaces.below (hbw hV)) (by omega)
    obtain ⟨va,ap,cp,c0,c1,c2,c3,c4,_⟩:=e3 i (by omega)
    have c3':=c3
    obtain ⟨aa,ca,rfl,_⟩:=c3
    refine ⟨pb,po,_,aa,_,ca,ap,_,cp,e1,fun U hU=>⟨(hU.cell (p:=⟨pb,po + i * 3,none⟩) e2).trans c0,(hU.cell (p:=⟨pb,po + i * 3 + 1,none⟩) e2).trans c1,(hU.cell (p:=⟨pb,po + i * 3 + 2,none⟩) e2).trans c2⟩,fun U hU=>?_⟩
    have hf:=hF.sp i (by omega)
    have:=spaceFine_any k a (KM.spAt k.spaces i) aa ap ca cp U (c3'.below hU) hf.areas (c4.below hU) hf.ents (hK.sheets.below ((hbw hV).trans (hU.mono (hbw hV).size))) hF.sheets (by omega) (by omega)
    rw [hck] at this
    exact this
   have HRM : KM.spsR k k.spaces.length = true -> Hid (∀ V,Below WA.heap.size WA V -> Calls Tryz.prog 47 #[.agg #[.slice a.aS nS a.cS,.slice a.aF nF a.cF,.slice a.aL nL a.cL,.slice a.aP nP a.cP,.int .i64 k.hand]] V fun e w'=>e = .returned (.int .i64 (KM.room k.spaces)) /\ Below V.heap.size V w'):=fun hs V hV=>by
    have:=room_any k a V (hK.spaces.below (hbw hV)) (fnd_of hs).check (by omega)
    rw [hck] at this
    exact this
   have HNM : KM.spsR k k.spaces.length = true -> Hid (∀ V kd i,Below WA.heap.size WA V -> ∃ nn np nfi q1 q2 q3 q4,KM.namersN k.spaces kd i = ⟨nn,np,nfi,⟨q1,q2,q3,q4⟩⟩ /\ 0 <= nn /\ (nn ≠ 0 -> q4 = false -> (KM.sheetFor k.sheets np).isSome = true) /\ Calls Tryz.prog 48 #[.agg #[.slice a.aS nS a.cS,.slice a.aF nF a.cF,.slice a.aL nL a.cL,.slice a.aP nP a.cP,.int .i64 k.hand],.int .i64 kd,.int .i64 i] V fun e w'=>e = .returned (.tuple #[.int .i64 nn,.int .i64 np,.bool nfi,.agg #[.int .i64 q1,.int .i64 q2,.int .i64 q3,.bool q4]]) /\ Below V.heap.size V w'):=fun hs V kd i hV=>by
    have f:=fnd_of hs
    have h1:=namers_any k a kd i V (hK.spaces.below (hbw hV)) f.check (by omega) f.few
    have h2:=f.sheet kd i
    have h3:=f.pos kd i
    rw [hck] at h1
    exact ⟨_,_,_,_,_,_,_,rfl,h3,h2,h1⟩
   have HFL : LM.riseB k.sheets = true -> Hid (∀ V q1 q2 q3 q4 p,Below WA.heap.size WA V -> (q4 = false -> (KM.sheetFor k.sheets p).isSome = true) -> Calls Tryz.prog 49 #[.agg #[.slice a.aS nS a.cS,.slice a.aF nF a.cF,.slice a.aL nL a.cL,.slice a.aP nP a.cP,.int .i64 k.hand],.agg #[.int .i64 q1,.int .i64 q2,.int .i64 q3,.bool q4],.int .i64 p] V fun e w'=>e = .returned (.string (KM.fillK k.sheets p q4)) /\ Below V.heap.size V w'):=fun hr V q1 q2 q3 q4 p hV hz=>by
    have:=filling_any k a q1 q2 q3 q4 p V (hK.sheets.below (hbw hV)) hF.sheets hr hz
    rw [hck] at this
    exact this
   have HFR : Hid (∀ V i,Below WA.heap.size WA V -> i < nF -> ∃ fb fo,a.aF = some ⟨fb,fo,none⟩ /\ V.cell? ⟨fb,fo + i * 4,none⟩ = some (.string (KM.frAt k.frames i).data) /\ V.cell? ⟨fb,fo + i * 4 + 1,none⟩ = some (.int .i64 (KM.frAt k.frames i).refs) /\ V.cell? ⟨fb,fo + i * 4 + 2,none⟩ = some (.bool (KM.frAt k.frames i).dirty) /\ V.cell? ⟨fb,fo + i * 4 + 3,none⟩ = some (.bool (KM.frAt k.frames i).seen)):=fun V i hV hi=>by
    obtain ⟨fb,fo,e1,e2,e3⟩:=(hK.frames.below (hbw hV)) (by omega)
    have z:=e3 i (by omega) 0 (by omega)
    rw [Nat.add_zero] at z
    exact ⟨fb,fo,e1,z,e3 i (by omega) 1 (by omega),e3 i (by omega) 2 (by omega),e3 i (by omega) 3 (by omega)⟩
   have HSL : Hid (∀ V i,Below WA.heap.size WA V -> i < nL -> ∃ fb fo,a.aL = some ⟨fb,fo,none⟩ /\ V.cell? ⟨fb,fo + i * 2,none⟩ = some (.string (KM.slAt k.slots i).data) /\ V.cell? ⟨fb,fo + i * 2 + 1,none⟩ = some (.int .i64 (KM.slAt k.slots i).refs)):=fun V i hV hi=>by
    obtain ⟨fb,fo,e1,e2,e3⟩:=(hK.slots.below (hbw hV)) (by omega)
    have z:=e3 i (by omega) 0 (by omega)
    rw [Nat.add_zero] at z
    exact ⟨fb,fo,e1,z,e3 i (by omega) 1 (by omega)⟩
   have HLF:=hideC hnF
   have HLL:=hideC hnL
   have HLP:=hideC hnP
   rw [<- hnF,<- hnL] at HSF
   obtain ⟨k0,k1,k2,k3,k4⟩:=B.c5 (KB.out WA (Below.refl _ _))
   have HW1 : Hid (∀ V,Calls Tryz.prog 44 #[.int .i64 (nF : Int),.int .i64 3,.int .i64 64] V fun e w'=>e = .returned (.bool true) /\ V = w'):=fun V=>by
    have:=HWI.out (nF : Int) 3 64 V
    rw [decide_eq_true (by omega)] at this
    exact this
   have HW2 : Hid (∀ V,Calls Tryz.prog 44 #[.int .i64 (nP : Int),.int .i64 1,.int .i64 4] V fun e w'=>e = .returned (.bool true) /\ V = w'):=fun V=>by
    have:=HWI.out (nP : Int) 1 4 V
    rw [decide_eq_true (by omega)] at this
    exact this
   have HW3:=hideC (fun V=>HWI.out k.hand 0 ((nF : Int) - 1) V)
   obtain ⟨hb,hhb⟩ : ∃ hb,hb = decide (0 <= k.hand /\ k.hand <= (nF : Int) - 1):=⟨_,rfl⟩
   rw [<- hhb] at HW3
   have HHB:=hideC hhb
   obtain ⟨rs,hrs⟩ : ∃ rs,rs = LM.riseB k.sheets:=⟨_,rfl⟩
   rw [<- hrs] at HSR
   have HRS:=hideC hrs
   clear hK hF hb0 kb hWA hck hbw hcn hA hhb hrs HWI hnS hnF hnL hnP
   go_enter Tryz.func14,Tryz.ntmps14
   go_upto_region 1 with fail
   rw [<- HWA.out]
   go_upto_region 3 with (first
    | (have _:=FIRST;go_at_call 44;refine (HW2.out _).mono ?_;rintro e w2 ⟨rfl,rfl⟩)
    | (go_at_call 44;refine (HW1.out _).mono ?_;rintro e w1 ⟨rfl,rfl⟩;have FIRST:=trivial))
   cases rs with
   | false =>
    have e0 : A = 1:=HAN.out.rise HRS.out.symm
    subst e0
    go_wp2_with (go_at_call 45;refine (HSR.out _ (Below.refl _ _)).mono ?_;rintro e w1 ⟨rfl,hb1⟩;have HB1:=hideC hb1;clear hb1)
    go_ret
    exact ⟨rfl,HB0.out.trans (HB1.out.mono HB0.out.size)⟩
   | true =>
   have hrs : LM.riseB k.sheets = true:=HRS.out.symm
   have HFL2:=HFL hrs
   have HRI:=hideC hrs
   clear hrs HFL
   cases hb with
   | false =>
    have e0 : A = 1:=HAN.out.hand (by rw [<- HLF.out];exact of_decide_eq_false HHB.out.symm)
    subst e0
    go_wp2_with (first | (go_at_call 45;refine (HSR.out _ (Below.refl _ _)).mono ?_;rintro e w1 ⟨rfl,hb1⟩;have HB1:=hideC hb1;obtain ⟨k0,k1,k2,k3,k4⟩:=B.c5 (KB.out _ hb1);clear hb1) | (go_at_call 44;refine (HW3.out _).mono ?_;rintro e w2 ⟨rfl,rfl⟩))
    go_ret
    exact ⟨rfl,HB0.out.trans (HB1.out.mono HB0.out.size)⟩
   | true =>
   have HHD : Hid (0 <= k.hand /\ k.hand <= (k.frames.length : Int) - 1):=(show 0 <= k.hand /\ k.hand <= (k.frames.length : Int) - 1 by rw [<- HLF.out];exact of_decide_eq_true HHB.out.symm)
   go_upto_region 5 with (first | (go_at_call 45;refine (HSR.out _ (Below.refl _ _)).mono ?_;rintro e w1 ⟨rfl,hb1⟩;have HB1:=hideC hb1;obtain ⟨k0,k1,k2,k3,k4⟩:=B.c5 (KB.out _ hb1);clear hb1) | (go_at_call 44;refine (HW3.out _).mono ?_;rintro e w2 ⟨rfl,rfl⟩))
   have HSS : Hid (∀ i,KM.spsR k (i + 1) = (KM.spsR k i && KM.spFineR k.sheets nF nL (KM.spAt k.spaces i))):=fun _=>by rw [HLF.out,HLL.out];exact (rfl : _ = _)
   have HSN : Hid (∀ i,i < nP -> KM.spFineR k.sheets nF nL (KM.spAt k.spaces i) = false -> A = 1):=fun i hi h=>HAN.out.sp i (by have:=HLP.out;omega) (by rw [<- HLF.out,<- HLL.out];exact h)
   clear k0 k1 k2 k3 k4 HW1 HW2 HW3 HSR HHB HRS
   go_wp2
   go_loopw [3] (fun iv wq=>∃ i : Nat,i <= nP /\ iv = .int .i64 (i : Int) /\ KM.spsR k i = true /\ Below WA.heap.size WA wq) (fun iv _=>nP - (intOf iv).toNat)
   case atStart=>exact ⟨0,by omega,rfl,rfl,HB1.out⟩
   case round =>
    obtain ⟨i,hi,rfl,hsi,hbq⟩:=hrel
    have HSI:=hideC hsi
    have HBQ:=hideC hbq
    obtain ⟨k0,k1,k2,k3,k4⟩:=B.c5 (KB.out wr hbq)
    by_cases hlt : i < nP
    · have hii : (i : Int) < (nP : Int):=by omega
      obtain ⟨pb,po,lv,aa,la,ca,ap,le,cp,hao,hcl,hsf⟩:=HSF.out wr i hbq hlt
      have HST:=hideC (HSS.out i)
      have HNI:=hideC (HSN.out i hlt)
      obtain ⟨bv,hbv⟩ : ∃ bv,bv = KM.spFineR k.sheets nF nL (KM.spAt k.spaces i):=⟨_,rfl⟩
      rw [<- hbv] at hsf HST HNI
      have hkin:=Q.kin_some wr
      rw [hao] at hsf k3 KB
      have kk0 : ∀ x : Q.Kin wr.heap.size wr,x.world.cell? ⟨w.heap.size,0,none⟩ = some (.slice a.aS nS a.cS):=fun x=>B.cell (KB.out _ (HBQ.out.trans (x.keeps.mono HBQ.out.size))) 0 rfl
      have kk1 : ∀ x : Q.Kin wr.heap.size wr,x.world.cell? ⟨w.heap.size,1,none⟩ = some (.slice a.aF nF a.cF):=fun x=>B.cell (KB.out _ (HBQ.out.trans (x.keeps.mono HBQ.out.size))) 1 rfl
      have kk2 : ∀ x : Q.Kin wr.heap.size wr,x.world.cell? ⟨w.heap.size,2,none⟩ = some (.slice a.aL nL a.cL):=fun x=>B.cell (KB.out _ (HBQ.out.trans (x.keeps.mono HBQ.out.size))) 2 rfl
      have kk3 : ∀ x : Q.Kin wr.heap.size wr,x.world.cell? ⟨w.heap.size,3,none⟩ = some (.slice (some ⟨pb,po,none⟩) nP a.cP):=fun x=>B.cell (KB.out _ (HBQ.out.trans (x.keeps.mono HBQ.out.size))) 3 rfl
      have kk4 : ∀ x : Q.Kin wr.heap.size wr,x.world.cell? ⟨w.heap.size,4,none⟩ = some (.int .i64 k.hand):=fun x=>B.cell (KB.out _ (HBQ.out.trans (x.keeps.mono HBQ.out.size))) 4 rfl
      have s0 : ∀ x : Q.Kin wr.heap.size wr,x.world.cell? ⟨pb,po + i * 3,none⟩ = some (.bool lv):=fun x=>(hcl _ x.keeps).1
      have s1 : ∀ x : Q.Kin wr.heap.size wr,x.world.cell? ⟨pb,po + i * 3 + 1,none⟩ = some (.slice aa la ca):=fun x=>(hcl _ x.keeps).2.1
      have s2 : ∀ x : Q.Kin wr.heap.size wr,x.world.cell? ⟨pb,po + i * 3 + 2,none⟩ = some (.slice ap le cp):=fun x=>(hcl _ x.keeps).2.2
      have HS2:=hideC hsf
      clear hcl hsf hbv hsi hbq HSF HSS HSN HRM HNM HFL2 HFR HSL
      go_upto_region 8 with fail
      refine Q.region_kin (by kernel_rfl) (by kernel_rfl) ?_
      repeat (first | go_big_quiet_step ((go_at_call 46;exact kinC _ HS2.out)) | quiet_step ((go_at_call 46;exact kinC _ HS2.out)))
      refine wpQuiet_nil ?_
      rintro _ ⟨X,rfl⟩
      have HBX:=hideC (HBQ.out.trans (X.keeps.mono HBQ.out.size))
      clear s0 s1 s2 kk0 kk1 kk2 kk3 kk4 hkin
      cases bv with
      | false =>
       have e0 : A = 1:=HNI.out rfl
       subst e0
       go_wp2
       go_ret
       exact ⟨rfl,HB0.out.trans (HBX.out.mono HB0.out.size)⟩
      | true =>
       have HE1 : Hid (KM.spsR k (i + 1) = true):=(show KM.spsR k (i + 1) = true by rw [HST.out,HSI.out];rfl)
       go_wp2
       go_roundw
       case rel=>exact ⟨i + 1,by omega,by go_num,HE1.out,HBX.out⟩
       case measure=>simp [intOf];omega
    · obtain rfl : nP = i:=by omega
      have hsp : KM.spsR k k.spaces.length = true:=by rw [<- HLP.out];exact hsi
      have HRM2:=HRM hsp
      have HNM2:=HNM hsp
      have HSPS:=hideC hsp
      have hrb:=KW.room_bd k.spaces k.spaces.length
      have hrm2 : 0 <= KM.room k.spaces /\ KM.room k.spaces <= 65025 * 1000000:=by
       have:=HLP.out
       unfold KM.room
       omega
      have HRO : Hid (¬ KM.room k.spaces <= (nL : Int) -> A = 1):=fun h=>HAN.out.room (by rw [<- HLL.out];exact h)
      have HROY : Hid (KM.room k.spaces <= (nL : Int) -> KM.room k.spaces <= (k.slots.length : Int)):=fun h=>by rw [<- HLL.out];exact h
      obtain ⟨RM,hRM⟩ : ∃ RM,RM = KM.room k.spaces:=⟨_,rfl⟩
      rw [<- hRM] at HRM2 hrm2 HRO
      have HRME:=hideC hRM
      have hkin:=Q.kin_some wr
      have kk0 : ∀ x : Q.Kin wr.heap.size wr,x.world.cell? ⟨w.heap.size,0,none⟩ = some (.slice a.aS nS a.cS):=fun x=>B.cell (KB.out _ (HBQ.out.trans (x.keeps.mono HBQ.out.size))) 0 rfl
      have kk1 : ∀ x : Q.Kin wr.heap.size wr,x.world.cell? ⟨w.heap.size,1,none⟩ = some (.slice a.aF nF a.cF):=fun x=>B.cell (KB.out _ (HBQ.out.trans (x.keeps.mono HBQ.out.size))) 1 rfl
      have kk2 : ∀ x : Q.Kin wr.heap.size wr,x.world.cell? ⟨w.heap.size,2,none⟩ = some (.slice a.aL nL a.cL):=fun x=>B.cell (KB.out _ (HBQ.out.trans (x.keeps.mono HBQ.out.size))) 2 rfl
      have kk3 : ∀ x : Q.Kin wr.heap.size wr,x.world.cell? ⟨w.heap.size,3,none⟩ = some (.slice a.aP nP a.cP):=fun x=>B.cell (KB.out _ (HBQ.out.trans (x.keeps.mono HBQ.out.size))) 3 rfl
      have kk4 : ∀ x : Q.Kin wr.heap.size wr,x.world.cell? ⟨w.heap.size,4,none⟩ = some (.int .i64 k.hand):=fun x=>B.cell (KB.out _ (HBQ.out.trans (x.keeps.mono HBQ.out.size))) 4 rfl
      have HRK:=hideC (fun V (hV : Below wr.heap.size wr V)=>HRM2.out V (HBQ.out.trans (hV.mono HBQ.out.size)))
      clear hsp HRM HNM hrb hRM hsi hbq HSF HSS HSN HRM2 hlt
      go_upto_region 10 with fail
      refine Q.region_kin (by kernel_rfl) (by kernel_rfl) ?_
      repeat (first | go_big_quiet_step ((go_at_call 47;exact kinC _ HRK.out)) | quiet_step ((go_at_call 47;exact kinC _ HRK.out)))
      refine wpQuiet_nil ?_
      rintro _ ⟨X,rfl⟩
      have HBX:=hideC (HBQ.out.trans (X.keeps.mono HBQ.out.size))
      clear kk0 kk1 kk2 kk3 kk4 hkin HRK k0 k1 k2 k3 k4
      by_cases hr : RM <= (nL : Int)
      · have hr2 : ¬ (nL : Int) < RM:=by omega
        have HRY : Hid (KM.room k.spaces <= (k.slots.length : Int)):=HROY.out (by rw [<- HRME.out];exact hr)
        have HFS : Hid (∀ i : Nat,KM.frsR k (i + 1) = (KM.frsR k i && KM.frR k.sheets (KM.frAt k.frames i) (KM.namersN k.spaces 1 i))):=fun _=>rfl
        have HFN : Hid (∀ i : Nat,i < nF -> KM.frR k.sheets (KM.frAt k.frames i) (KM.namersN k.spaces 1 i) = false -> A = 1):=fun i hi h=>HAN.out.fr i (by have:=HLF.out;omega) h
        clear HRO HROY hr HRME
        go_wp2
        go_loopw [4] (fun iv wq=>∃ i : Nat,i <= nF /\ iv = .int .i64 (i : Int) /\ KM.frsR k i = true /\ Below WA.heap.size WA wq) (fun iv _=>nF - (intOf iv).toNat)
        case atStart=>exact ⟨0,by omega,rfl,rfl,HBX.out⟩
        case round =>
         obtain ⟨i,hi,rfl,hei,hbq⟩:=hrel
         have HEI:=hideC hei
         have HBQ:=hideC hbq
         obtain ⟨k0,k1,k2,k3,k4⟩:=B.c5 (KB.out wr hbq)
         by_cases hlt : i < nF
         · have hii : (i : Int) < (nF : Int):=by omega
           obtain ⟨fb,fo,hfo,z0,z1,z2,z3⟩:=HFR.out wr i hbq hlt
           have HSI:=hideC (HFS.out i)
           have HNI:=hideC (HFN.out i hlt)
           obtain ⟨f,hf⟩ : ∃ f,f = KM.frAt k.frames i:=⟨_,rfl⟩
           rw [<- hf] at z0 z1 z2 z3 HSI HNI
           obtain ⟨d,rf,dy,sn⟩:=f
           simp only at z0 z1 z2 z3
           obtain ⟨W1,hW1⟩ : ∃ W1,W1 = wr.alloc (.cells #[.string d,.int .i64 rf,.bool dy,.bool sn] 40):=⟨_,rfl⟩
           have hb1 : Below wr.heap.size wr W1:=by rw [hW1];exact (Below.refl _ _).alloc (Nat.le_refl _) _
           have xb1 : W1.heap[wr.heap.size]? = some (.cells #[.string d,.int .i64 rf,.bool dy,.bool sn] 40 (0,0)):=by rw [hW1];exact B.new _ _ _
           have hbA:=hbq.trans (hb1.mono hbq.size)
           have HBA:=hideC hbA
           have HXB:=hideC xb1
           have HW1:=hideC hW1
           obtain ⟨nn,np,nfi,q1,q2,q3,q4,hna,hn0,hsh,hcl⟩:=HNM2.out W1 1 (i : Int) hbA
           rw [hna] at HSI HNI
           have HNC:=hideC hcl
           have HSH:=hideC hsh
           rw [hfo] at k1
           go_upto_region 16 with fail
           rw [<- HW1.out]
           obtain ⟨xb,hxb⟩ : ∃ xb,xb = wr.heap.size:=⟨_,rfl⟩
           rw [<- hxb] at HXB ⊢
           clear hW1 hb1 xb1 hbA hei hbq hf hna hsh hcl hxb k0 k1 k2 k3 k4 z0 z1 z2 z3 hfo
           obtain ⟨k0,k1,k2,k3,k4⟩:=B.c5 (KB.out W1 HBA.out)
           go_upto_region 17 with (go_at_call 48;refine HNC.out.mono ?_;rintro e w2 ⟨rfl,hb2⟩;have HB2:=hideC hb2;clear hb2)
           have hb3 : Below W1.heap.size W1 (w2.alloc (.cells #[.int .i64 q1,.int .i64 q2,.int .i64 q3,.bool q4] 47)):=HB2.out.alloc HB2.out.size _
           have HYB:=hideC (B.new w2 #[.int .i64 q1,.int .i64 q2,.int .i64 q3,.bool q4] 47)
           obtain ⟨W3,hW3⟩ : ∃ W3,W3 = w2.alloc (.cells #[.int .i64 q1,.int .i64 q2,.int .i64 q3,.bool q4] 47):=⟨_,rfl⟩
           obtain ⟨yb,hyb⟩ : ∃ yb,yb = w2.heap.size:=⟨_,rfl⟩
           rw [<- hW3] at hb3 HYB ⊢
           rw [<- hyb] at HYB ⊢
           have HB3:=hideC (HBA.out.trans (hb3.mono HBA.out.size))
           have HX3:=hideC (B.below HXB.out hb3 (B.isLt HXB.out))
           clear hW3 hyb hb3 k0 k1 k2 k3 k4
           obtain ⟨BD,hBD⟩ : ∃ BD,BD = !(KM.frR k.sheets ⟨d,rf,dy,sn⟩ ⟨nn,np,nfi,⟨q1,q2,q3,q4⟩⟩):=⟨_,rfl⟩
           have HBD:=hideC hBD
           have HBN : Hid (KM.frR k.sheets ⟨d,rf,dy,sn⟩ ⟨nn,np,nfi,⟨q1,q2,q3,q4⟩⟩ = !BD):=(show KM.frR k.sheets ⟨d,rf,dy,sn⟩ ⟨nn,np,nfi,⟨q1,q2,q3,q4⟩⟩ = !BD by rw [hBD,Bool.not_not])
           rw [HBN.out] at HSI HNI
           clear hBD HBN
           go_cut [135] (fun c wx=>c = .bool BD /\ Below W3.heap.size W3 wx)
           case first =>
            have hkin:=Q.kin_some W3
            have kk0 : ∀ x : Q.Kin W3.heap.size W3,x.world.cell? ⟨w.heap.size,0,none⟩ = some (.slice a.aS nS a.cS):=fun x=>B.cell (KB.out _ (HB3.out.trans (x.keeps.mono HB3.out.size))) 0 rfl
            have kk1 : ∀ x : Q.Kin W3.heap.size W3,x.world.cell? ⟨w.heap.size,1,none⟩ = some (.slice a.aF nF a.cF):=fun x=>B.cell (KB.out _ (HB3.out.trans (x.keeps.mono HB3.out.size))) 1 rfl
            have kk2 : ∀ x : Q.Kin W3.heap.size W3,x.world.cell? ⟨w.heap.size,2,none⟩ = some (.slice a.aL nL a.cL):=fun x=>B.cell (KB.out _ (HB3.out.trans (x.keeps.mono HB3.out.size))) 2 rfl
            have kk3 : ∀ x : Q.Kin W3.heap.size W3,x.world.cell? ⟨w.heap.size,3,none⟩ = some (.slice a.aP nP a.cP):=fun x=>B.cell (KB.out _ (HB3.out.trans (x.keeps.mono HB3.out.size))) 3 rfl
            have kk4 : ∀ x : Q.Kin W3.heap.size W3,x.world.cell? ⟨w.heap.size,4,none⟩ = some (.int .i64 k.hand):=fun x=>B.cell (KB.out _ (HB3.out.trans (x.keeps.mono HB3.out.size))) 4 rfl
            have x0 : ∀ x : Q.Kin W3.heap.size W3,x.world.cell? ⟨xb,0,none⟩ = some (.string d):=fun x=>B.cell (B.below HX3.out x.keeps (B.isLt HX3.out)) 0 rfl
            have x1 : ∀ x : Q.Kin W3.heap.size W3,x.world.cell? ⟨xb,1,none⟩ = some (.int .i64 rf):=fun x=>B.cell (B.below HX3.out x.keeps (B.isLt HX3.out)) 1 rfl
            have x2 : ∀ x : Q.Kin W3.heap.size W3,x.world.cell? ⟨xb,2,none⟩ = some (.bool dy):=fun x=>B.cell (B.below HX3.out x.keeps (B.isLt HX3.out)) 2 rfl
            have x3 : ∀ x : Q.Kin W3.heap.size W3,x.world.cell? ⟨xb,3,none⟩ = some (.bool sn):=fun x=>B.cell (B.below HX3.out x.keeps (B.isLt HX3.out)) 3 rfl
            have y0 : ∀ x : Q.Kin W3.heap.size W3,x.world.cell? ⟨yb,0,none⟩ = some (.int .i64 q1):=fun x=>B.cell (B.below HYB.out x.keeps (B.isLt HYB.out)) 0 rfl
            have y1 : ∀ x : Q.Kin W3.heap.size W3,x.world.cell? ⟨yb,1,none⟩ = some (.int .i64 q2):=fun x=>B.cell (B.below HYB.out x.keeps (B.isLt HYB.out)) 1 rfl
            have y2 : ∀ x : Q.Kin W3.heap.size W3,x.world.cell? ⟨yb,2,none⟩ = some (.int .i64 q3):=fun x=>B.cell (B.below HYB.out x.keeps (B.isLt HYB.out)) 2 rfl
            have y3 : ∀ x : Q.Kin W3.heap.size W3,x.world.cell? ⟨yb,3,none⟩ = some (.bool q4):=fun x=>B.cell (B.below HYB.out x.keeps (B.isLt HYB.out)) 3 rfl
            have HF17 : Hid (∀ V,Below W3.heap.size W3 V -> nn ≠ 0 -> Calls Tryz.prog 49 #[.agg #[.slice a.aS nS a.cS,.slice a.aF nF a.cF,.slice a.aL nL a.cL,.slice a.aP nP a.cP,.int .i64 k.hand],.agg #[.int .i64 q1,.int .i64 q2,.int .i64 q3,.bool q4],.int .i64 np] V fun e w'=>e = .returned (.string (KM.fillK k.sheets np q4)) /\ Below V.heap.size V w'):=fun V hV hne=>HFL2.out V q1 q2 q3 q4 np (HB3.out.trans (hV.mono HB3.out.size)) (HSH.out hne)
            clear HSI HNI HEI HNM2 HFL2 HFR HSL HFS HFN HAN HSPS HRY HHD HRI HLF HLL HLP
            by_cases h1 : rf = nn
            · have H1:=hideC h1
              subst h1
              by_cases h2 : rf = 0
              · subst h2
                by_cases h3 : d.size = 0
                · have h3' : d = ⟨#[]⟩:=by
                   obtain ⟨⟨l⟩⟩:=d
                   have : l.length = 0:=h3
                   have e:=List.length_eq_zero_iff.1 this
                   subst e
                   rfl
                  subst h3'
                  cases dy with
                  | true =>
                   as_aux_lemma =>
                    refine Q.region_kin (by kernel_rfl) (by kernel_rfl) ?_
                    repeat (first | go_big_quiet_step (fail) | quiet_step (fail))
                    refine wpQuiet_nil ?_
                    intro _ hw'
                    obtain ⟨x,hw''⟩:=hw'
                    subst hw''
                    go_wp2
                    go_meet
                    exact ⟨by rw [HBD.out];simp [KM.frR,KM.isZ] <;> rfl,x.keeps⟩
                  | false =>
                   cases sn with
                   | true =>
                    as_aux_lemma =>
                     refine Q.region_kin (by kernel_rfl) (by kernel_rfl) ?_
                     repeat (first | go_big_quiet_step (fail) | quiet_step (fail))
                     refine wpQuiet_nil ?_
                     intro _ hw'
                     obtain ⟨x,hw''⟩:=hw'
                     subst hw''
                     go_wp2
                     go_meet
                     exact ⟨by rw [HBD.out];simp [KM.frR,KM.isZ] <;> rfl,x.keeps⟩
                   | false =>
                    as_aux_lemma =>
                     refine Q.region_kin (by kernel_rfl) (by kernel_rfl) ?_
                     repeat (first | go_big_quiet_step (fail) | quiet_step (fail))
                     refine wpQuiet_nil ?_
                     intro _ hw'
                     obtain ⟨x,hw''⟩:=hw'
                     subst hw''
                     go_wp2
                     go_meet
                     exact ⟨by rw [HBD.out];simp [KM.frR,KM.isZ] <;> rfl,x.keeps⟩
                · have hd : d.toList.isEmpty = false:=by
                   rw [Go.ByteArray.toList_eq]
                   obtain ⟨⟨l⟩⟩:=d
                   cases l with
                   | nil=>exact absurd rfl h3
                   | cons x r=>rfl
                  have hd2 : (d.toList == []) = false:=by
                   cases hq : d.toList with
                   | nil=>rw [hq] at hd;cases hd
                   | cons x r=>rfl
                  as_aux_lemma =>
                   refine Q.region_kin (by kernel_rfl) (by kernel_rfl) ?_
                   repeat (first | go_big_quiet_step (fail) | quiet_step (fail))
                   refine wpQuiet_nil ?_
                   intro _ hw'
                   obtain ⟨x,hw''⟩:=hw'
                   subst hw''
                   go_wp2
                   go_meet
                   exact ⟨by rw [HBD.out];simp [KM.frR,KM.isZ,h3],x.keeps⟩
              · have b2 : (rf == 0) = false:=by simpa using h2
                have hpos2 : 0 < rf:=by omega
                cases nfi with
                | false =>
                 as_aux_lemma =>
                  refine Q.region_kin (by kernel_rfl) (by kernel_rfl) ?_
                  repeat (first | go_big_quiet_step (fail) | quiet_step (fail))
                  refine wpQuiet_nil ?_
                  intro _ hw'
                  obtain ⟨x,hw''⟩:=hw'
                  subst hw''
                  go_wp2
                  go_meet
                  exact ⟨by rw [HBD.out];simp [KM.frR,KM.isZ,hpos2],x.keeps⟩
                | true =>
                 by_cases h4 : d.size = 16
                 · have h4i : ((d.size : Int) != 16) = false:=by rw [h4];rfl
                   cases dy with
                   | true =>
                    as_aux_lemma =>
                     refine Q.region_kin (by kernel_rfl) (by kernel_rfl) ?_
                     repeat (first | go_big_quiet_step (fail) | quiet_step (fail))
                     refine wpQuiet_nil ?_
                     intro _ hw'
                     obtain ⟨x,hw''⟩:=hw'
                     subst hw''
                     go_wp2
                     go_meet
                     exact ⟨by rw [HBD.out];simp [KM.frR,KM.isZ,hpos2,h2,h4],x.keeps⟩
                   | false =>
                    have HF2:=hideC (fun V hV=>HF17.out V hV h2)
                    as_aux_lemma =>
                     refine Q.region_kin (by kernel_rfl) (by kernel_rfl) ?_
                     repeat (first | go_big_quiet_step ((go_at_call 49;exact kinC _ HF2.out)) | quiet_step ((go_at_call 49;exact kinC _ HF2.out)))
                     refine wpQuiet_nil ?_
                     intro _ hw'
                     obtain ⟨x,hw''⟩:=hw'
                     subst hw''
                     go_wp2
                     go_meet
                     exact ⟨by rw [HBD.out];simp [KM.frR,KM.isZ,hpos2,h2,h4,KW.ba_eq,bne],x.keeps⟩
                 · have h4i : ((d.size : Int) != 16) = true:=by rw [bne_iff_ne];omega
                   as_aux_lemma =>
                    refine Q.region_kin (by kernel_rfl) (by kernel_rfl) ?_
                    repeat (first | go_big_quiet_step (fail) | quiet_step (fail))
                    refine wpQuiet_nil ?_
                    intro _ hw'
                    obtain ⟨x,hw''⟩:=hw'
                    subst hw''
                    go_wp2
                    go_meet
                    exact ⟨by rw [HBD.out];simp [KM.frR,KM.isZ,hpos2,h2,h4],x.keeps⟩
            · have b1 : (rf != nn) = true:=by simpa using h1
              as_aux_lemma =>
               refine Q.region_kin (by kernel_rfl) (by kernel_rfl) ?_
               repeat (first | go_big_quiet_step (fail) | quiet_step (fail))
               refine wpQuiet_nil ?_
               intro _ hw'
               obtain ⟨x,hw''⟩:=hw'
               subst hw''
               go_wp2
               go_meet
               exact ⟨by rw [HBD.out];simp [KM.frR,KM.isZ,h1],x.keeps⟩
           case rest =>
            obtain ⟨rfl,hbc⟩:=hcut
            have HBC:=hideC (HB3.out.trans (hbc.mono HB3.out.size))
            cases BD with
            | true =>
             have e0 : A = 1:=HNI.out rfl
             subst e0
             go_wp2
             go_ret
             exact ⟨rfl,HB0.out.trans (HBC.out.mono HB0.out.size)⟩
            | false =>
             have HE1 : Hid (KM.frsR k (i + 1) = true):=(show KM.frsR k (i + 1) = true by rw [HSI.out,HEI.out];rfl)
             go_wp2
             go_roundw
             case rel=>exact ⟨i + 1,by omega,by go_num,HE1.out,HBC.out⟩
             case measure=>simp [intOf];omega
         · obtain rfl : nF = i:=by omega
           have HFRS : Hid (KM.frsR k k.frames.length = true):=(show KM.frsR k k.frames.length = true by rw [<- HLF.out];exact hei)
           have HFS2 : Hid (∀ i : Nat,KM.slsR k (i + 1) = (KM.slsR k i && KM.slR (KM.slAt k.slots i) (KM.namersN k.spaces 2 i))):=fun _=>rfl
           have HFN2 : Hid (∀ i : Nat,i < nL -> KM.slR (KM.slAt k.slots i) (KM.namersN k.spaces 2 i) = false -> A = 1):=fun i hi h=>HAN.out.sl i (by have:=HLL.out;omega) h
           clear HFS HFN HFR HFL2 hei hbq hlt
           go_wp2
           go_loopw [10] (fun iv wq=>∃ i : Nat,i <= nL /\ iv = .int .i64 (i : Int) /\ KM.slsR k i = true /\ Below WA.heap.size WA wq) (fun iv _=>nL - (intOf iv).toNat)
           case atStart=>exact ⟨0,by omega,rfl,rfl,HBQ.out⟩
           case round =>
            obtain ⟨i,hi,rfl,hei,hbq⟩:=hrel
            have HEI:=hideC hei
            have HBQ2:=hideC hbq
            obtain ⟨k0,k1,k2,k3,k4⟩:=B.c5 (KB.out wr hbq)
            by_cases hlt : i < nL
            · have hii : (i : Int) < (nL : Int):=by omega
              obtain ⟨fb,fo,hfo,z0,z1⟩:=HSL.out wr i hbq hlt
              have HSI:=hideC (HFS2.out i)
              have HNI:=hideC (HFN2.out i hlt)
              obtain ⟨f,hf⟩ : ∃ f,f = KM.slAt k.slots i:=⟨_,rfl⟩
              rw [<- hf] at z0 z1 HSI HNI
              obtain ⟨d,rf⟩:=f
              simp only at z0 z1
              obtain ⟨W1,hW1⟩ : ∃ W1,W1 = wr.alloc (.cells #[.string d,.int .i64 rf] 86):=⟨_,rfl⟩
              have hb1 : Below wr.heap.size wr W1:=by rw [hW1];exact (Below.refl _ _).alloc (Nat.le_refl _) _
              have xb1 : W1.heap[wr.heap.size]? = some (.cells #[.string d,.int .i64 rf] 86 (0,0)):=by rw [hW1];exact B.new _ _ _
              have hbA:=hbq.trans (hb1.mono hbq.size)
              have HBA:=hideC hbA
              have HXB:=hideC xb1
              have HW1:=hideC hW1
              obtain ⟨nn,np,nfi,q1,q2,q3,q4,hna,hn0,_,hcl⟩:=HNM2.out W1 2 (i : Int) hbA
              rw [hna] at HSI HNI
              have HNC:=hideC hcl
              rw [hfo] at k2
              go_upto_region 23 with fail
              rw [<- HW1.out]
              obtain ⟨xb,hxb⟩ : ∃ xb,xb = wr.heap.size:=⟨_,rfl⟩
              rw [<- hxb] at HXB ⊢
              clear hW1 hb1 xb1 hbA hei hbq hf hna hcl hxb k0 k1 k2 k3 k4 z0 z1 hfo
              obtain ⟨k0,k1,k2,k3,k4⟩:=B.c5 (KB.out W1 HBA.out)
              go_upto_region 24 with (go_at_call 48;refine HNC.out.mono ?_;rintro e w2 ⟨rfl,hb2⟩;have HB2:=hideC hb2;clear hb2)
              have hb3 : Below W1.heap.size W1 (w2.alloc (.cells #[.int .i64 q1,.int .i64 q2,.int .i64 q3,.bool q4] 47)):=HB2.out.alloc HB2.out.size _
              obtain ⟨W3,hW3⟩ : ∃ W3,W3 = w2.alloc (.cells #[.int .i64 q1,.int .i64 q2,.int .i64 q3,.bool q4] 47):=⟨_,rfl⟩
              rw [<- hW3] at hb3 ⊢
              have HB3:=hideC (HBA.out.trans (hb3.mono HBA.out.size))
              obtain ⟨x0,x1⟩:=B.c2 (B.below HXB.out hb3 (B.isLt HXB.out))
              have HRE : Hid (KM.slR ⟨d,rf⟩ ⟨nn,np,nfi,⟨q1,q2,q3,q4⟩⟩ = KM.slR ⟨d,rf⟩ ⟨nn,np,nfi,⟨q1,q2,q3,q4⟩⟩):=rfl
              clear hW3 hb3 k0 k1 k2 k3 k4 HNM2 HSL HFS2 HFN2 HNC HXB HB2
              by_cases h1 : rf = nn
              · subst h1
                by_cases h2 : rf = 0
                · subst h2
                  by_cases h3 : d.size = 0
                  · have h3' : d = ⟨#[]⟩:=by
                     obtain ⟨⟨l⟩⟩:=d
                     have : l.length = 0:=h3
                     have e:=List.length_eq_zero_iff.1 this
                     subst e
                     rfl
                    subst h3'
                    have HE1 : Hid (KM.slsR k (i + 1) = true):=(show KM.slsR k (i + 1) = true by rw [HSI.out,HEI.out,HRE.out];simp [KM.slR,KM.isZS] <;> rfl)
                    go_wp2
                    go_roundw
                    case rel=>exact ⟨i + 1,by omega,by go_num,HE1.out,HB3.out⟩
                    case measure=>simp [intOf];omega
                  · have hd : d.toList.isEmpty = false:=by
                     rw [Go.ByteArray.toList_eq]
                     obtain ⟨⟨l⟩⟩:=d
                     cases l with
                     | nil=>exact absurd rfl h3
                     | cons x r=>rfl
                    have hd2 : (d.toList == []) = false:=by
                     cases hq : d.toList with
                     | nil=>rw [hq] at hd;cases hd
                     | cons x r=>rfl
                    have e0:=HNI.out (by rw [HRE.out];simp [KM.slR,KM.isZS,h3])
                    subst e0
                    go_wp2
                    go_ret
                    exact ⟨rfl,HB0.out.trans (HB3.out.mono HB0.out.size)⟩
                · have b2 : (rf == 0) = false:=by simpa using h2
                  have hpos2 : 0 < rf:=by omega
                  cases nfi with
                  | false =>
                   have e0:=HNI.out (by rw [HRE.out];simp [KM.slR,KM.isZS,hpos2])
                   subst e0
                   go_wp2
                   go_ret
                   exact ⟨rfl,HB0.out.trans (HB3.out.mono HB0.out.size)⟩
                  | true =>
                   by_cases h4 : d.size = 16
                   · have h4i : ((d.size : Int) != 16) = false:=by rw [h4];rfl
                     have HE1 : Hid (KM.slsR k (i + 1) = true):=(show KM.slsR k (i + 1) = true by rw [HSI.out,HEI.out,HRE.out];simp [KM.slR,KM.isZS,hpos2,h2,h4])
                     go_wp2
                     go_roundw
                     case rel=>exact ⟨i + 1,by omega,by go_num,HE1.out,HB3.out⟩
                     case measure=>simp [intOf];omega
                   · have h4i : ((d.size : Int) != 16) = true:=by rw [bne_iff_ne];omega
                     have e0:=HNI.out (by rw [HRE.out];simp [KM.slR,KM.isZS,hpos2,h2,h4])
                     subst e0
                     go_wp2
                     go_ret
                     exact ⟨rfl,HB0.out.trans (HB3.out.mono HB0.out.size)⟩
              · have b1 : (rf != nn) = true:=by simpa using h1
                have e0:=HNI.out (by rw [HRE.out];simp [KM.slR,KM.isZS,h1])
                subst e0
                go_wp2
                go_ret
                exact ⟨rfl,HB0.out.trans (HB3.out.mono HB0.out.size)⟩
            · obtain rfl : nL = i:=by omega
              have e0 : A = 0:=HAN.out.yes HRI.out HHD.out HSPS.out HRY.out HFRS.out (by rw [<- HLL.out];exact hei)
              subst e0
              go_wp2
              go_ret
              exact ⟨rfl,HB0.out.trans (HBQ2.out.mono HB0.out.size)⟩
      · have hr2 : (nL : Int) < RM:=by omega
        have e0 : A = 1:=HRO.out hr
        subst e0
        go_wp2
        go_ret
        exact ⟨rfl,HB0.out.trans (HBX.out.mono HB0.out.size)⟩
 · have hA2 : KM.checkR k = 2:=by
    unfold KM.checkR
    rw [if_pos (by simpa using hcn)]
   rw [hA2]
   have hc4 : ¬ ((3 <= nF /\ nF <= 64) /\ nL <= 512 /\ (1 <= nP /\ nP <= 4) /\ nS <= 255):=by rw [hnS,hnF,hnL,hnP];exact fun g=>hcn (decide_eq_true g)
   obtain ⟨k0,k1,k2,k3,k4⟩:=B.c5 (KB.out WA (Below.refl _ _))
   have HW1:=hideC (fun V=>HWI.out (nF : Int) 3 64 V)
   have HW2:=hideC (fun V=>HWI.out (nP : Int) 1 4 V)
   rcases (show ¬ (3 <= (nF : Int) /\ (nF : Int) <= 64) ∨ ((3 <= (nF : Int) /\ (nF : Int) <= 64) /\ 512 < (nL : Int)) ∨ ((3 <= (nF : Int) /\ (nF : Int) <= 64) /\ ¬ 512 < (nL : Int) /\ ¬ (1 <= (nP : Int) /\ (nP : Int) <= 4)) ∨ ((3 <= (nF : Int) /\ (nF : Int) <= 64) /\ ¬ 512 < (nL : Int) /\ (1 <= (nP : Int) /\ (nP : Int) <= 4) /\ 255 < (nS : Int)) by omega) with g | ⟨g,g1⟩ | ⟨g,g1,g2⟩ | ⟨g,g1,g2,g3⟩
   · rw [decide_eq_false g] at HW1
     clear hK hF hb0 kb hWA hck hbw hcn hA2 hc4 HWI hnS hnF hnL hnP HSR
     go_enter Tryz.func14,Tryz.ntmps14
     go_upto_region 1 with fail
     rw [<- HWA.out]
     go_wp2_with (first
      | (have _:=FIRST;go_at_call 44;refine (HW2.out _).mono ?_;rintro e w2 ⟨rfl,rfl⟩)
      | (go_at_call 44;refine (HW1.out _).mono ?_;rintro e w1 ⟨rfl,rfl⟩;have FIRST:=trivial))
     go_ret
     exact ⟨rfl,HB0.out⟩
   · rw [decide_eq_true g] at HW1
     clear hK hF hb0 kb hWA hck hbw hcn hA2 hc4 HWI hnS hnF hnL hnP HSR
     go_enter Tryz.func14,Tryz.ntmps14
     go_upto_region 1 with fail
     rw [<- HWA.out]
     go_wp2_with (first
      | (have _:=FIRST;go_at_call 44;refine (HW2.out _).mono ?_;rintro e w2 ⟨rfl,rfl⟩)
      | (go_at_call 44;refine (HW1.out _).mono ?_;rintro e w1 ⟨rfl,rfl⟩;have FIRST:=trivial))
     go_ret
     exact ⟨rfl,HB0.out⟩
   · rw [decide_eq_true g] at HW1
     rw [decide_eq_false g2] at HW2
     clear hK hF hb0 kb hWA hck hbw hcn hA2 hc4 HWI hnS hnF hnL hnP HSR
     go_enter Tryz.func14,Tryz.ntmps14
     go_upto_region 1 with fail
     rw [<- HWA.out]
     go_wp2_with (first
      | (have _:=FIRST;go_at_call 44;refine (HW2.out _).mono ?_;rintro e w2 ⟨rfl,rfl⟩)
      | (go_at_call 44;refine (HW1.out _).mono ?_;rintro e w1 ⟨rfl,rfl⟩;have FIRST:=trivial))
     go_ret
     exact ⟨rfl,HB0.out⟩
   · rw [decide_eq_true g] at HW1
     rw [decide_eq_true g2] at HW2
     clear hK hF hb0 kb hWA hck hbw hcn hA2 hc4 HWI hnS hnF hnL hnP HSR
     go_enter Tryz.func14,Tryz.ntmps14
     go_upto_region 1 with fail
     rw [<- HWA.out]
     go_wp2_with (first
      | (have _:=FIRST;go_at_call 44;refine (HW2.out _).mono ?_;rintro e w2 ⟨rfl,rfl⟩)
      | (go_at_call 44;refine (HW1.out _).mono ?_;rintro e w1 ⟨rfl,rfl⟩;have FIRST:=trivial))
     go_ret
     exact ⟨rfl,HB0.out⟩
end KR
namespace KR
open Go.RowKit GK
open FW (hideC add_below)
open KW (HasRow KAt HasK cellsK FitK FitSp HasSp cellEn kinC cellFr cellSl liveK)
open KY (forErr)
end KR
namespace KR
open Go.RowKit GK
open FW (hideC add_below)
open KW (HasRow KAt HasK cellsK FitK FitSp HasSp cellEn kinC cellFr cellSl liveK)
end KR
end Go.Proofs.YtpgifpeohlllfaaGreat
