import Derived.Test.YtkdigjpejnebkaaGreatGS43
import Derived.Test.YtkdigjpejnebkaaGreatGS38
import Derived.Deep.RegionLaw
import Derived.Deep.DeepCutAuto
set_option linter.unusedVariables false
set_option maxRecDepth 100000
set_option linter.unusedSimpArgs false
namespace Go.Proofs.YtkdigjpejnebkaaGreat
namespace GR
open Go.RowKit
open FW (hideC add_below)
def bad8 (T lv : Bool) (na np : Nat) (C TT : Int) : Bool:=!T || (!lv && (decide (0 < na) || decide (0 < np))) || !(decide (C = 0)) || !(decide ((np : Int) = TT))
def bad15 (F R : Bool) (z : Nat) : Bool:=!F || !R || !(decide (z = 16))
theorem many_no {f : FM.Fl} (h : ¬ ((1 <= (f.spaces.length : Int) /\ (f.spaces.length : Int) <= 4) /\ (f.procs.length : Int) = (f.spaces.length : Int) /\ (0 <= f.slots /\ f.slots <= 512) /\ (f.out.length : Int) <= 2000)) : FM.checkF f = 2:=by
 apply chk_many
 cases e : FM.rightCounts f with
 | false=>rfl
 | true =>
  exfalso
  apply h
  unfold FM.rightCounts at e
  simp only [Bool.and_eq_true,decide_eq_true_eq] at e
  omega
theorem many_yes {f : FM.Fl} (h : (1 <= (f.spaces.length : Int) /\ (f.spaces.length : Int) <= 4) /\ (f.procs.length : Int) = (f.spaces.length : Int) /\ (0 <= f.slots /\ f.slots <= 512) /\ (f.out.length : Int) <= 2000) : FM.rightCounts f = true:=by
 unfold FM.rightCounts
 simp only [Bool.and_eq_true,decide_eq_true_eq]
 omega
theorem bad8_fine {f : FM.Fl} (hc : FM.rightCounts f = true) {k : Nat} (hk : k < f.spaces.length) (h : bad8 (FM.procFine (FM.prAt f.procs k) (FM.spAt f.spaces k).live) (FM.spAt f.spaces k).live (FM.spAt f.spaces k).areas.length (FM.spAt f.spaces k).pages.length (AM.checkN (FM.spAt f.spaces k).areas) (AM.totalN (FM.spAt f.spaces k).areas) = true) : FM.checkF f = 1:=by
 apply chk_bad hc hk
 cases e : FM.procFine (FM.prAt f.procs k) (FM.spAt f.spaces k).live with
 | false=>exact .inl rfl
 | true =>
  right
  rintro ⟨h1,h2,h3,h4⟩
  rw [e] at h
  unfold bad8 at h
  rw [decide_eq_true h2,decide_eq_true h3] at h
  cases hl : (FM.spAt f.spaces k).live with
  | true=>rw [hl] at h;cases h
  | false =>
   obtain ⟨g1,g2⟩:=h1 hl
   rw [hl,g1,g2] at h
   cases h
theorem bad8_no {s : FM.Sp} {T : Bool} (h : bad8 T s.live s.areas.length s.pages.length (AM.checkN s.areas) (AM.totalN s.areas) = false) : T = true /\ (s.live = false -> s.areas.length = 0 /\ s.pages.length = 0) /\ AM.checkN s.areas = 0 /\ (s.pages.length : Int) = AM.totalN s.areas:=by
 unfold bad8 at h
 simp only [Bool.or_eq_false_iff,Bool.not_eq_false',decide_eq_true_eq,Bool.and_eq_false_iff,decide_eq_false_iff_not] at h
 refine ⟨h.1.1.1,fun e=>?_,h.1.2,h.2⟩
 rcases h.1.1.2 with g | g
 · rw [g] at e;cases e
 · omega
set_option maxHeartbeats 20000000 in
theorem checkR_any (f : FM.Fl) (az ar ao : Option Addr) (cs cr co : Nat) (w : World) (h : FW.HasFl w f az ar ao) (hf : FW.FitFl f) :
  Calls Tryz.prog 13 #[.agg (FW.flCells f az ar ao cs cr co)] w fun e w'=>e = .returned (.int .i64 (FM.checkF f)) /\ Below w.heap.size w w':=by
 have HH:=hideC h
 have HF:=hideC hf
 have HMN:=hideC (many_no (f:=f))
 have HMY:=hideC (many_yes (f:=f))
 have HB8 : Hid (FM.rightCounts f = true -> ∀ k,k < f.spaces.length -> bad8 (FM.procFine (FM.prAt f.procs k) (FM.spAt f.spaces k).live) (FM.spAt f.spaces k).live (FM.spAt f.spaces k).areas.length (FM.spAt f.spaces k).pages.length (AM.checkN (FM.spAt f.spaces k).areas) (AM.totalN (FM.spAt f.spaces k).areas) = true -> FM.checkF f = 1):=fun hc k hk=>bad8_fine hc hk
 have HBP : Hid (FM.rightCounts f = true -> ∀ k,k < f.spaces.length -> ¬ FM.spaceFine (FM.spAt f.spaces k) -> FM.checkF f = 1):=fun hc k hk g=>chk_bad hc hk (.inr g)
 have HEN:=hideC (chk_end (f:=f))
 have HLB:=hideC (lens_bd hf.spaces)
 have HLS : Hid (∀ k,FM.lensTo f.spaces (k + 1) = FM.lensTo f.spaces k + ((FM.spAt f.spaces k).pages.length : Int)):=fun k=>rfl
 have HWF : Hid (f.procs.length <= 4 -> ∀ V,Below w.heap.size w V -> Calls Tryz.prog 43 #[.slice ao f.out.length co,.int .i64 (f.procs.length : Int)] V fun e w'=>e = .returned (.bool (FM.wordsTo f.out f.procs.length f.out.length)) /\ Below V.heap.size V w'):=fun hn V hV=>FW.wordsFine_any f.out f.procs.length ao co V (h.out.below hV) hf.out (by omega)
 have HW1:=hideC (fun V=>AW.within_any (f.spaces.length : Int) 1 4 V)
 have HW2:=hideC (fun V=>AW.within_any f.slots 0 512 V)
 unfold FW.flCells
 obtain ⟨sl,ss,ps,os⟩:=f
 simp only at HMN HMY HB8 HBP HEN HLB HLS HWF HW1 HW2 ⊢
 obtain ⟨A,hA⟩ : ∃ A,A = FM.checkF ⟨sl,ss,ps,os⟩:=⟨_,rfl⟩
 rw [<- hA] at HMN HB8 HBP HEN ⊢
 obtain ⟨RC,hRC⟩ : ∃ RC,RC = FM.rightCounts ⟨sl,ss,ps,os⟩:=⟨_,rfl⟩
 rw [<- hRC] at HMY HB8 HBP HEN
 obtain ⟨WO,hWO⟩ : ∃ WO,WO = FM.wordsTo os ps.length os.length:=⟨_,rfl⟩
 rw [<- hWO] at HEN HWF
 obtain ⟨ns,hns⟩ : ∃ ns,ns = ss.length:=⟨_,rfl⟩
 obtain ⟨nr,hnr⟩ : ∃ nr,nr = ps.length:=⟨_,rfl⟩
 obtain ⟨no,hno⟩ : ∃ no,no = os.length:=⟨_,rfl⟩
 have hno' : no <= 140737488351232:=by rw [hno];exact hf.out
 have hnr' : nr <= 140737488351232:=by rw [hnr];exact hf.procs
 have hns' : ns <= 140737488351232:=by rw [hns];exact hf.spaces.1
 rw [<- hns] at HMN HMY HB8 HBP HEN HLB HW1 ⊢
 rw [<- hnr] at HMN HMY HWF ⊢
 rw [<- hno] at HMN HMY HWF ⊢
 have HNS:=hideC hns
 have HNR:=hideC hnr
 clear h hf hA hRC hWO hns hnr hno
 have HB0:=hideC ((Below.refl w.heap.size w).alloc (Nat.le_refl _) (.cells #[.int .i64 sl,.slice az ns cs,.slice ar nr cr,.slice ao no co] 30))
 have X0:=hideC (B.new w #[.int .i64 sl,.slice az ns cs,.slice ar nr cr,.slice ao no co] 30)
 by_cases h0 : 1 <= (ns : Int) /\ (ns : Int) <= 4
 case neg =>
  rw [decide_eq_false h0] at HW1
  have HA2 : Hid (A = 2):=HMN.out (by omega)
  clear HMN HMY HB8 HBP HEN HLB HLS HWF
  go_enter Tryz.func13,Tryz.ntmps13
  go_wp2_with (first | (have _:=FIRST;go_at_call 27;refine (HW2.out _).mono ?_;rintro e w1 ⟨rfl,rfl⟩) | (go_at_call 27;refine (HW1.out _).mono ?_;rintro e w1 ⟨rfl,rfl⟩;have FIRST:=trivial))
  go_ret
  exact ⟨by rw [HA2.out];rfl,HB0.out⟩
 rw [decide_eq_true h0] at HW1
 by_cases h2 : (nr : Int) = (ns : Int)
 case neg =>
  have h2i : ((nr : Int) == (ns : Int)) = false:=by rw [beq_eq_false_iff_ne];exact h2
  have h2j : ((nr : Int) != (ns : Int)) = true:=by rw [bne,h2i];rfl
  have HA2 : Hid (A = 2):=HMN.out (by omega)
  clear HMN HMY HB8 HBP HEN HLB HLS HWF
  go_enter Tryz.func13,Tryz.ntmps13
  go_wp2_with (first | (have _:=FIRST;go_at_call 27;refine (HW2.out _).mono ?_;rintro e w1 ⟨rfl,rfl⟩) | (go_at_call 27;refine (HW1.out _).mono ?_;rintro e w1 ⟨rfl,rfl⟩;have FIRST:=trivial))
  go_ret
  exact ⟨by rw [HA2.out];rfl,HB0.out⟩
 by_cases h3 : 0 <= sl /\ sl <= 512
 case neg =>
  rw [decide_eq_false h3] at HW2
  have h2i : ((nr : Int) == (ns : Int)) = true:=by rw [beq_iff_eq];exact h2
  have HA2 : Hid (A = 2):=HMN.out (by omega)
  clear HMN HMY HB8 HBP HEN HLB HLS HWF
  go_enter Tryz.func13,Tryz.ntmps13
  go_wp2_with (first | (have _:=FIRST;go_at_call 27;refine (HW2.out _).mono ?_;rintro e w1 ⟨rfl,rfl⟩) | (go_at_call 27;refine (HW1.out _).mono ?_;rintro e w1 ⟨rfl,rfl⟩;have FIRST:=trivial))
  go_ret
  exact ⟨by rw [HA2.out];rfl,HB0.out⟩
 rw [decide_eq_true h3] at HW2
 by_cases h5 : (no : Int) <= 2000
 case neg =>
  have h2i : ((nr : Int) == (ns : Int)) = true:=by rw [beq_iff_eq];exact h2
  have HA2 : Hid (A = 2):=HMN.out (by omega)
  clear HMN HMY HB8 HBP HEN HLB HLS HWF
  go_enter Tryz.func13,Tryz.ntmps13
  go_wp2_with (first | (have _:=FIRST;go_at_call 27;refine (HW2.out _).mono ?_;rintro e w1 ⟨rfl,rfl⟩) | (go_at_call 27;refine (HW1.out _).mono ?_;rintro e w1 ⟨rfl,rfl⟩;have FIRST:=trivial))
  go_ret
  exact ⟨by rw [HA2.out];rfl,HB0.out⟩
 have hRC : RC = true:=HMY.out ⟨h0,h2,h3,h5⟩
 have h2n : nr = ns:=by omega
 subst h2n
 have HB8':=hideC (HB8.out hRC)
 have HBP':=hideC (HBP.out hRC)
 have HEN':=hideC (HEN.out hRC)
 have HWF':=hideC (HWF.out (by omega))
 clear HMN HMY HB8 HBP HEN HWF h2 hRC
 go_enter Tryz.func13,Tryz.ntmps13
 go_wp2_with (first | (have _:=FIRST;go_at_call 27;refine (HW2.out _).mono ?_;rintro e w1 ⟨rfl,rfl⟩) | (go_at_call 27;refine (HW1.out _).mono ?_;rintro e w1 ⟨rfl,rfl⟩;have FIRST:=trivial))
 clear HW1 HW2
 go_loopw [3,4] (fun tv iv wr=>∃ k : Nat,k <= nr /\ iv = .int .i64 (k : Int) /\ tv = .int .i64 (FM.lensTo ss k) /\ (∀ j,j < k -> FM.procFine (FM.prAt ps j) (FM.spAt ss j).live = true /\ FM.spaceFine (FM.spAt ss j)) /\ wr.heap[w.heap.size]? = some (.cells #[.int .i64 sl,.slice az nr cs,.slice ar nr cr,.slice ao no co] 30 (0,0)) /\ Below w.heap.size w wr) (fun _ iv _=>nr - (intOf iv).toNat)
 case atStart=>exact ⟨0,by omega,rfl,rfl,fun j hj=>by omega,X0.out,HB0.out⟩
 case round =>
  obtain ⟨k,hk,rfl,rfl,hall,hx,hb⟩:=hrel
  have HB:=hideC hb
  have HX:=hideC hx
  have HAL:=hideC hall
  have hlb:=HLB.out k hk
  have x0 : wr.cell? ⟨w.heap.size,0,none⟩ = some (.int .i64 sl):=B.cell hx 0 rfl
  have x1 : wr.cell? ⟨w.heap.size,1,none⟩ = some (.slice az nr cs):=B.cell hx 1 rfl
  have x2 : wr.cell? ⟨w.heap.size,2,none⟩ = some (.slice ar nr cr):=B.cell hx 2 rfl
  have x3 : wr.cell? ⟨w.heap.size,3,none⟩ = some (.slice ao no co):=B.cell hx 3 rfl
  have hxlt:=B.isLt hx
  clear hall hx X0 HB0
  by_cases hlt : k < nr
  · obtain ⟨b,off,hao,hbl,hlie⟩:=(HH.out.below hb).spaces (show 0 < ss.length by rw [<- HNS.out];omega)
    obtain ⟨b2,off2,hao2,hbl2,hlie2⟩:=(HH.out.below hb).procs (show 0 < ps.length by rw [<- HNR.out];omega)
    subst hao
    subst hao2
    obtain ⟨va,ap,cp,c0,c1,c2,c3,c4,c5⟩:=hlie k (by rw [<- HNS.out];exact hlt)
    obtain ⟨d0,d1,d2,d3,d4,d5,d6,d7,d8,d9,d10,d11,d12⟩:=hlie2 k (by rw [<- HNR.out];exact hlt)
    have hfk : FW.FitS (FM.spAt ss k):=HF.out.spaces.2 k (by show k < ss.length;rw [<- HNS.out];exact hlt)
    have HB8k:=hideC (HB8'.out k hlt)
    have HBPk:=hideC (HBP'.out k hlt)
    have HLSk:=hideC (HLS.out k)
    have HALk : Hid (FM.procFine (FM.prAt ps k) (FM.spAt ss k).live = true -> FM.spaceFine (FM.spAt ss k) -> ∀ j,j < k + 1 -> FM.procFine (FM.prAt ps j) (FM.spAt ss j).live = true /\ FM.spaceFine (FM.spAt ss j)):=fun g1 g2 j hj=>by
     by_cases e : j = k
     · subst e;exact ⟨g1,g2⟩
     · exact HAL.out j (by omega)
    obtain ⟨s,hs⟩ : ∃ s,s = FM.spAt ss k:=⟨_,rfl⟩
    obtain ⟨q,hq⟩ : ∃ q,q = FM.prAt ps k:=⟨_,rfl⟩
    rw [<- hs] at c0 c2 c3 c4 c5 hfk HB8k HBPk HLSk HALk
    rw [<- hq] at d0 d1 d2 d3 d4 d5 d6 d7 d8 d9 d10 d11 d12 HB8k HALk
    obtain ⟨aa,ca,hva⟩ : ∃ ao cap,va = .slice ao s.areas.length cap:=by
     obtain ⟨ao,cap,h,_⟩:=c3
     exact ⟨ao,cap,h⟩
    subst hva
    obtain ⟨WR,hWR⟩ : ∃ WR,WR = wr:=⟨_,rfl⟩
    subst hWR
    have HP : Hid (∀ V,Calls Tryz.prog 40 #[.agg #[.int .i64 (q.r 0),.int .i64 (q.r 1),.int .i64 (q.r 2),.int .i64 (q.r 3),.int .i64 (q.r 4),.int .i64 (q.r 5),.int .i64 (q.r 6),.int .i64 (q.r 7),.int .i64 q.pc,.int .i64 q.st,.int .i64 q.cd,.int .i64 q.fk,.int .i64 q.fa],.bool s.live] V fun e w'=>e = .returned (.bool (FM.procFine q s.live)) /\ Below V.heap.size V w'):=fun V=>FW.procFine_any q s.live V
    have HC : Hid (∀ V,Below WR.heap.size WR V -> Calls Tryz.prog 41 #[.slice aa s.areas.length ca] V fun e w'=>e = .returned (.int .i64 (AM.checkN s.areas)) /\ Below V.heap.size V w'):=fun V hV=>AW.refCheck_any _ _ _ (c3.below hV) hfk.areas
    have HT : Hid (AM.checkN s.areas = 0 -> ∀ V,Below WR.heap.size WR V -> Calls Tryz.prog 28 #[.slice aa s.areas.length ca] V fun e w'=>e = .returned (.int .i64 (AM.totalN s.areas)) /\ Below V.heap.size V w'):=fun hc V hV=>AW.pages_any _ _ _ (c3.below hV) hc
    have HAT : Hid (AM.checkN s.areas = 0 -> ∀ p V,Below WR.heap.size WR V -> Calls Tryz.prog 42 #[.slice aa s.areas.length ca,.int .i64 p] V fun e w'=>(∃ g1 g2 g3 g4,e = .returned (.tuple #[.agg #[.int .i64 g1,.int .i64 g2,.int .i64 g3,.bool g4],.bool (AM.findN s.areas p).2])) /\ Below V.heap.size V w'):=fun hc p V hV=>(AW.areaAt_any _ _ p _ (c3.below hV) hc).mono fun e w' ⟨h1,h2⟩=>⟨⟨_,_,_,_,h1⟩,h2⟩
    have HPG:=hideC c4
    have HFZ : Hid (∀ m,m < s.pages.length -> (FM.pgAt s.pages m).data.size <= 140737488351232):=fun m hm=>(hfk.page m hm).2
    have hlp : s.pages.length <= 140737488351232:=hfk.pages
    have hln : s.areas.length <= 140737488351232:=hfk.areas.2
    have HNO:=hideC (fun T=>bad8_no (s:=s) (T:=T))
    have HFN:=hideC (fine_of (s:=s))
    have HFP : Hid (¬ (∀ j,j < s.pages.length -> (AM.findN s.areas (FM.pgAt s.pages j).page).2 = true /\ (0 < j -> (FM.pgAt s.pages (j - 1)).page < (FM.pgAt s.pages j).page) /\ (FM.pgAt s.pages j).data.size = 16) -> ¬ FM.spaceFine s):=fun g e=>g e.2.2.2
    obtain ⟨na,hna⟩ : ∃ na,na = s.areas.length:=⟨_,rfl⟩
    obtain ⟨np,hnp⟩ : ∃ np,np = s.pages.length:=⟨_,rfl⟩
    obtain ⟨lv,hlv⟩ : ∃ lv,lv = s.live:=⟨_,rfl⟩
    obtain ⟨C,hC⟩ : ∃ C,C = AM.checkN s.areas:=⟨_,rfl⟩
    obtain ⟨TT,hTT⟩ : ∃ TT,TT = AM.totalN s.areas:=⟨_,rfl⟩
    rw [<- hlv] at c0 HB8k HALk HP HNO HFN
    obtain ⟨T,hT⟩ : ∃ T,T = FM.procFine q lv:=⟨_,rfl⟩
    rw [<- hna] at HB8k HNO HFN HC HT HAT hln c1
    rw [<- hnp] at c2 c5 HB8k HNO HFN HLSk HFZ HFP hlp
    rw [<- hC] at HB8k HNO HFN HC HT HAT
    rw [<- hTT] at HB8k HNO HFN HT
    rw [<- hT] at HB8k HALk HP
    have HNP:=hideC hnp
    clear hs hq hna hnp hlv hC hTT hT hfk c3 c4 hlie hlie2 HB8' HBP' HLS hb HAL HEN' HWF'
    obtain ⟨LK,hLK⟩ : ∃ LK,LK = FM.lensTo ss k:=⟨_,rfl⟩
    rw [<- hLK] at HLSk hlb ⊢
    clear hLK
    go_wp2_with fail
    have HRA:=hideC ((Below.refl WR.heap.size WR).alloc (Nat.le_refl _) (.cells #[.bool lv,.slice aa na ca,.slice ap np cp] 53))
    have XS:=hideC (B.new WR #[.bool lv,.slice aa na ca,.slice ap np cp] 53)
    obtain ⟨W,hW⟩ : ∃ W,W = WR.alloc (.cells #[.bool lv,.slice aa na ca,.slice ap np cp] 53):=⟨_,rfl⟩
    rw [<- hW] at HRA XS ⊢
    obtain ⟨sb,hsb⟩ : ∃ sb,sb = WR.heap.size:=⟨_,rfl⟩
    have HSB:=hideC hsb
    rw [<- hsb] at XS ⊢
    clear hsb
    have hsl:=B.isLt XS.out
    have hsz:=HRA.out.size
    have hkin:=Q.kin_some W
    have HKC:=hideC (@Q.cell_kin W)
    have HXW:=hideC (B.below HX.out HRA.out (B.isLt HX.out))
    have HBW:=hideC (HB.out.trans (HRA.out.mono HB.out.size))
    clear hW
    obtain ⟨BD,hBD⟩ : ∃ BD,BD = bad8 T lv na np C TT:=⟨_,rfl⟩
    have HBD:=hideC hBD
    rw [<- hBD] at HB8k
    clear hBD
    go_cut [87] (fun c wx=>c = .bool BD /\ Below W.heap.size W wx)
    case first =>
     have e2 : ∀ x : Q.Kin W.heap.size W,x.world.cell? ⟨w.heap.size,2,none⟩ = some (.slice (some ⟨b2,off2,none⟩) nr cr):=fun x=>(HKC.out x _ _ (by omega)).trans ((M.below_cell HRA.out (by omega)).trans x2)
     have f0 : ∀ x : Q.Kin W.heap.size W,x.world.cell? ⟨b2,off2 + k * 13,none⟩ = some (.int .i64 (q.r 0)):=fun x=>(HKC.out x _ _ (by omega)).trans ((M.below_cell HRA.out (by omega)).trans d0)
     have f1 : ∀ x : Q.Kin W.heap.size W,x.world.cell? ⟨b2,off2 + k * 13 + 1,none⟩ = some (.int .i64 (q.r 1)):=fun x=>(HKC.out x _ _ (by omega)).trans ((M.below_cell HRA.out (by omega)).trans d1)
     have f2 : ∀ x : Q.Kin W.heap.size W,x.world.cell? ⟨b2,off2 + k * 13 + 2,none⟩ = some (.int .i64 (q.r 2)):=fun x=>(HKC.out x _ _ (by omega)).trans ((M.below_cell HRA.out (by omega)).trans d2)
     have f3 : ∀ x : Q.Kin W.heap.size W,x.world.cell? ⟨b2,off2 + k * 13 + 3,none⟩ = some (.int .i64 (q.r 3)):=fun x=>(HKC.out x _ _ (by omega)).trans ((M.below_cell HRA.out (by omega)).trans d3)
     have f4 : ∀ x : Q.Kin W.heap.size W,x.world.cell? ⟨b2,off2 + k * 13 + 4,none⟩ = some (.int .i64 (q.r 4)):=fun x=>(HKC.out x _ _ (by omega)).trans ((M.below_cell HRA.out (by omega)).trans d4)
     have f5 : ∀ x : Q.Kin W.heap.size W,x.world.cell? ⟨b2,off2 + k * 13 + 5,none⟩ = some (.int .i64 (q.r 5)):=fun x=>(HKC.out x _ _ (by omega)).trans ((M.below_cell HRA.out (by omega)).trans d5)
     have f6 : ∀ x : Q.Kin W.heap.size W,x.world.cell? ⟨b2,off2 + k * 13 + 6,none⟩ = some (.int .i64 (q.r 6)):=fun x=>(HKC.out x _ _ (by omega)).trans ((M.below_cell HRA.out (by omega)).trans d6)
     have f7 : ∀ x : Q.Kin W.heap.size W,x.world.cell? ⟨b2,off2 + k * 13 + 7,none⟩ = some (.int .i64 (q.r 7)):=fun x=>(HKC.out x _ _ (by omega)).trans ((M.below_cell HRA.out (by omega)).trans d7)
     have f8 : ∀ x : Q.Kin W.heap.size W,x.world.cell? ⟨b2,off2 + k * 13 + 8,none⟩ = some (.int .i64 q.pc):=fun x=>(HKC.out x _ _ (by omega)).trans ((M.below_cell HRA.out (by omega)).trans d8)
     have f9 : ∀ x : Q.Kin W.heap.size W,x.world.cell? ⟨b2,off2 + k * 13 + 9,none⟩ = some (.int .i64 q.st):=fun x=>(HKC.out x _ _ (by omega)).trans ((M.below_cell HRA.out (by omega)).trans d9)
     have f10 : ∀ x : Q.Kin W.heap.size W,x.world.cell? ⟨b2,off2 + k * 13 + 10,none⟩ = some (.int .i64 q.cd):=fun x=>(HKC.out x _ _ (by omega)).trans ((M.below_cell HRA.out (by omega)).trans d10)
     have f11 : ∀ x : Q.Kin W.heap.size W,x.world.cell? ⟨b2,off2 + k * 13 + 11,none⟩ = some (.int .i64 q.fk):=fun x=>(HKC.out x _ _ (by omega)).trans ((M.below_cell HRA.out (by omega)).trans d11)
     have f12 : ∀ x : Q.Kin W.heap.size W,x.world.cell? ⟨b2,off2 + k * 13 + 12,none⟩ = some (.int .i64 q.fa):=fun x=>(HKC.out x _ _ (by omega)).trans ((M.below_cell HRA.out (by omega)).trans d12)
     have s0 : ∀ x : Q.Kin W.heap.size W,x.world.cell? ⟨sb,0,none⟩ = some (.bool lv):=fun x=>(HKC.out x _ _ hsl).trans (B.cell XS.out 0 rfl)
     have s1 : ∀ x : Q.Kin W.heap.size W,x.world.cell? ⟨sb,1,none⟩ = some (.slice aa na ca):=fun x=>(HKC.out x _ _ hsl).trans (B.cell XS.out 1 rfl)
     have s2 : ∀ x : Q.Kin W.heap.size W,x.world.cell? ⟨sb,2,none⟩ = some (.slice ap np cp):=fun x=>(HKC.out x _ _ hsl).trans (B.cell XS.out 2 rfl)
     have HP2 : Hid (∀ x : Q.Kin W.heap.size W,Calls Tryz.prog 40 #[.agg #[.int .i64 (q.r 0),.int .i64 (q.r 1),.int .i64 (q.r 2),.int .i64 (q.r 3),.int .i64 (q.r 4),.int .i64 (q.r 5),.int .i64 (q.r 6),.int .i64 (q.r 7),.int .i64 q.pc,.int .i64 q.st,.int .i64 q.cd,.int .i64 q.fk,.int .i64 q.fa],.bool lv] x.world fun e w'=>e = .returned (.bool T) /\ ∃ y : Q.Kin W.heap.size W,w' = y.world):=fun x=>Q.calls_kin HP.out x
     have HC2 : Hid (∀ x : Q.Kin W.heap.size W,Calls Tryz.prog 41 #[.slice aa na ca] x.world fun e w'=>e = .returned (.int .i64 C) /\ ∃ y : Q.Kin W.heap.size W,w' = y.world):=fun x=>(HC.out x.world (HRA.out.trans (x.keeps.mono HRA.out.size))).mono fun e w'' ⟨he,hb⟩=>⟨he,⟨w'',x.keeps.trans (hb.mono x.keeps.size)⟩,rfl⟩
     have HT2 : Hid (C = 0 -> ∀ x : Q.Kin W.heap.size W,Calls Tryz.prog 28 #[.slice aa na ca] x.world fun e w'=>e = .returned (.int .i64 TT) /\ ∃ y : Q.Kin W.heap.size W,w' = y.world):=fun hc x=>(HT.out hc x.world (HRA.out.trans (x.keeps.mono HRA.out.size))).mono fun e w'' ⟨he,hb⟩=>⟨he,⟨w'',x.keeps.trans (hb.mono x.keeps.size)⟩,rfl⟩
     clear HP HC HT HAT HPG HFZ HNO HFN HFP HB8k HBPk HLSk HALk HXW HBW HKC c0 c1 c2 c5 d0 d1 d2 d3 d4 d5 d6 d7 d8 d9 d10 d11 d12 x0 x1 x2 x3 HX HB HH HF h0 h3 h5 hno' hns' hlb hbl hbl2 hxlt hsz
     cases T with
     | false =>
      as_aux_lemma =>
       refine Q.region_kin (by kernel_rfl) (by kernel_rfl) ?_
       repeat (first | go_big_quiet_step ((first | (go_at_call 40;exact HP2.out _) | (go_at_call 41;exact HC2.out _))) | quiet_step ((first | (go_at_call 40;exact HP2.out _) | (go_at_call 41;exact HC2.out _))))
       refine wpQuiet_nil ?_
       intro _ hw'
       obtain ⟨x,hw''⟩:=hw'
       subst hw''
       go_wp2
       go_meet
       exact ⟨by rw [HBD.out];rfl,x.keeps⟩
     | true =>
      cases lv with
      | true =>
       by_cases hC : C = 0
       case neg =>
        have hCi : (C == 0) = false:=by rw [beq_eq_false_iff_ne];exact hC
        as_aux_lemma =>
         refine Q.region_kin (by kernel_rfl) (by kernel_rfl) ?_
         repeat (first | go_big_quiet_step ((first | (go_at_call 40;exact HP2.out _) | (go_at_call 41;exact HC2.out _))) | quiet_step ((first | (go_at_call 40;exact HP2.out _) | (go_at_call 41;exact HC2.out _))))
         refine wpQuiet_nil ?_
         intro _ hw'
         obtain ⟨x,hw''⟩:=hw'
         subst hw''
         go_wp2
         go_meet
         exact ⟨by rw [HBD.out];simp [bad8,hC],x.keeps⟩
       have HT3:=hideC (HT2.out hC)
       subst hC
       by_cases hTT : (np : Int) = TT
       · have hTi : ((np : Int) == TT) = true:=by rw [beq_iff_eq];exact hTT
         have HTT:=hideC hTT
         clear hTT
         as_aux_lemma =>
          refine Q.region_kin (by kernel_rfl) (by kernel_rfl) ?_
          repeat (first | go_big_quiet_step ((first | (go_at_call 40;exact HP2.out _) | (go_at_call 41;exact HC2.out _) | (go_at_call 28;exact HT3.out _))) | quiet_step ((first | (go_at_call 40;exact HP2.out _) | (go_at_call 41;exact HC2.out _) | (go_at_call 28;exact HT3.out _))))
          refine wpQuiet_nil ?_
          intro _ hw'
          obtain ⟨x,hw''⟩:=hw'
          subst hw''
          go_wp2
          go_meet
          exact ⟨by rw [HBD.out];simp [bad8,HTT.out],x.keeps⟩
       · have hTi : ((np : Int) == TT) = false:=by rw [beq_eq_false_iff_ne];exact hTT
         have HTT:=hideC hTT
         clear hTT
         as_aux_lemma =>
          refine Q.region_kin (by kernel_rfl) (by kernel_rfl) ?_
          repeat (first | go_big_quiet_step ((first | (go_at_call 40;exact HP2.out _) | (go_at_call 41;exact HC2.out _) | (go_at_call 28;exact HT3.out _))) | quiet_step ((first | (go_at_call 40;exact HP2.out _) | (go_at_call 41;exact HC2.out _) | (go_at_call 28;exact HT3.out _))))
          refine wpQuiet_nil ?_
          intro _ hw'
          obtain ⟨x,hw''⟩:=hw'
          subst hw''
          go_wp2
          go_meet
          exact ⟨by rw [HBD.out];simp [bad8,HTT.out],x.keeps⟩
      | false =>
       by_cases hna : (0 : Int) < (na : Int)
       · have hna2 : 0 < na:=by omega
         as_aux_lemma =>
          refine Q.region_kin (by kernel_rfl) (by kernel_rfl) ?_
          repeat (first | go_big_quiet_step ((first | (go_at_call 40;exact HP2.out _) | (go_at_call 41;exact HC2.out _))) | quiet_step ((first | (go_at_call 40;exact HP2.out _) | (go_at_call 41;exact HC2.out _))))
          refine wpQuiet_nil ?_
          intro _ hw'
          obtain ⟨x,hw''⟩:=hw'
          subst hw''
          go_wp2
          go_meet
          exact ⟨by rw [HBD.out];simp [bad8,hna2],x.keeps⟩
       have hna3 : ¬ 0 < na:=by omega
       by_cases hnp : (0 : Int) < (np : Int)
       · have hnp2 : 0 < np:=by omega
         as_aux_lemma =>
          refine Q.region_kin (by kernel_rfl) (by kernel_rfl) ?_
          repeat (first | go_big_quiet_step ((first | (go_at_call 40;exact HP2.out _) | (go_at_call 41;exact HC2.out _))) | quiet_step ((first | (go_at_call 40;exact HP2.out _) | (go_at_call 41;exact HC2.out _))))
          refine wpQuiet_nil ?_
          intro _ hw'
          obtain ⟨x,hw''⟩:=hw'
          subst hw''
          go_wp2
          go_meet
          exact ⟨by rw [HBD.out];simp [bad8,hnp2],x.keeps⟩
       have hnp3 : ¬ 0 < np:=by omega
       by_cases hC : C = 0
       case neg =>
        have hCi : (C == 0) = false:=by rw [beq_eq_false_iff_ne];exact hC
        as_aux_lemma =>
         refine Q.region_kin (by kernel_rfl) (by kernel_rfl) ?_
         repeat (first | go_big_quiet_step ((first | (go_at_call 40;exact HP2.out _) | (go_at_call 41;exact HC2.out _))) | quiet_step ((first | (go_at_call 40;exact HP2.out _) | (go_at_call 41;exact HC2.out _))))
         refine wpQuiet_nil ?_
         intro _ hw'
         obtain ⟨x,hw''⟩:=hw'
         subst hw''
         go_wp2
         go_meet
         exact ⟨by rw [HBD.out];simp [bad8,hC],x.keeps⟩
       have HT3:=hideC (HT2.out hC)
       subst hC
       by_cases hTT : (np : Int) = TT
       · have hTi : ((np : Int) == TT) = true:=by rw [beq_iff_eq];exact hTT
         have HTT:=hideC hTT
         clear hTT
         as_aux_lemma =>
          refine Q.region_kin (by kernel_rfl) (by kernel_rfl) ?_
          repeat (first | go_big_quiet_step ((first | (go_at_call 40;exact HP2.out _) | (go_at_call 41;exact HC2.out _) | (go_at_call 28;exact HT3.out _))) | quiet_step ((first | (go_at_call 40;exact HP2.out _) | (go_at_call 41;exact HC2.out _) | (go_at_call 28;exact HT3.out _))))
          refine wpQuiet_nil ?_
          intro _ hw'
          obtain ⟨x,hw''⟩:=hw'
          subst hw''
          go_wp2
          go_meet
          exact ⟨by rw [HBD.out];simp [bad8,HTT.out,hna3,hnp3],x.keeps⟩
       · have hTi : ((np : Int) == TT) = false:=by rw [beq_eq_false_iff_ne];exact hTT
         have HTT:=hideC hTT
         clear hTT
         as_aux_lemma =>
          refine Q.region_kin (by kernel_rfl) (by kernel_rfl) ?_
          repeat (first | go_big_quiet_step ((first | (go_at_call 40;exact HP2.out _) | (go_at_call 41;exact HC2.out _) | (go_at_call 28;exact HT3.out _))) | quiet_step ((first | (go_at_call 40;exact HP2.out _) | (go_at_call 41;exact HC2.out _) | (go_at_call 28;exact HT3.out _))))
          refine wpQuiet_nil ?_
          intro _ hw'
          obtain ⟨x,hw''⟩:=hw'
          subst hw''
          go_wp2
          go_meet
          exact ⟨by rw [HBD.out];simp [bad8,HTT.out],x.keeps⟩
    case rest =>
     obtain ⟨rfl,hbc⟩:=hcut
     have HBC:=hideC hbc
     have HXC:=hideC (B.below HXW.out hbc (B.isLt HXW.out))
     have XSC:=hideC (B.below XS.out hbc hsl)
     have HRC:=hideC (HRA.out.trans (hbc.mono HRA.out.size))
     have HBB:=hideC (HBW.out.trans (hbc.mono HBW.out.size))
     clear HP HC HT hbc
     cases BD with
     | true =>
      have HA2 : Hid (A = 1):=HB8k.out rfl
      clear HAT HPG HFZ HNO HFN HFP HB8k HBPk HLSk HALk HXW HBW HKC c0 c1 c2 c5 d0 d1 d2 d3 d4 d5 d6 d7 d8 d9 d10 d11 d12 HX HB HH HF
      go_wp2
      go_ret
      exact ⟨by rw [HA2.out];rfl,HBB.out⟩
     | false =>
      obtain ⟨hT1,hlv1,hC1,hTT1⟩:=HNO.out T HBD.out.symm
      have HAT2:=hideC (HAT.out hC1)
      have HFN2:=hideC (HFN.out hlv1 hC1 hTT1)
      have HAL2:=hideC (HALk.out hT1)
      clear HAT HNO HFN HALk HB8k HXW HBW HKC c0 c1 c2 d0 d1 d2 d3 d4 d5 d6 d7 d8 d9 d10 d11 d12 HX HH HF hT1 hlv1 hC1 hTT1 HBD x0 x1 x2 x3
      have y2 : wc.cell? ⟨sb,2,none⟩ = some (.slice ap np cp):=B.cell XSC.out 2 rfl
      go_wp2
      clear y2
      go_loopw [6] (fun iv wi=>∃ m : Nat,m <= np /\ iv = .int .i64 (m : Int) /\ pagesTo s m /\ wi.heap[sb]? = some (.cells #[.bool lv,.slice aa na ca,.slice ap np cp] 53 (0,0)) /\ wi.heap[w.heap.size]? = some (.cells #[.int .i64 sl,.slice (some ⟨b,off,none⟩) nr cs,.slice (some ⟨b2,off2,none⟩) nr cr,.slice ao no co] 30 (0,0)) /\ Below WR.heap.size WR wi) (fun iv _=>np - (intOf iv).toNat)
      case atStart=>exact ⟨0,by omega,rfl,(fun j hj=>absurd hj (Nat.not_lt_zero _)),XSC.out,HXC.out,HRC.out⟩
      case round =>
       obtain ⟨m,hm,rfl,hpt,hxs,hxf,hbi⟩:=hrel
       have HPT:=hideC hpt
       have HXS:=hideC hxs
       have HXF:=hideC hxf
       have HBI:=hideC hbi
       have HBT:=hideC (HB.out.trans (hbi.mono HB.out.size))
       have z1 : wr.cell? ⟨sb,1,none⟩ = some (.slice aa na ca):=B.cell hxs 1 rfl
       have z2 : wr.cell? ⟨sb,2,none⟩ = some (.slice ap np cp):=B.cell hxs 2 rfl
       have hsl2:=B.isLt hxs
       clear hpt hxs hxf XSC HXC HRC HBC HBB
       by_cases hmt : m < np
       · obtain ⟨bp,offp,hap,hbpl,hliep⟩:=(HPG.out.below hbi) (show 0 < s.pages.length by rw [<- HNP.out];omega)
         subst hap
         obtain ⟨p0,p1⟩:=hliep m (by rw [<- HNP.out];exact hmt)
         have HPV : Hid (∀ m',m = m' + 1 -> wr.cell? ⟨bp,offp + m' * 2,none⟩ = some (.int .i64 (FM.pgAt s.pages (m - 1)).page)):=fun m' g=>by
          subst g
          exact (hliep m' (by rw [<- HNP.out];omega)).1
         have hzs:=HFZ.out m hmt
         have HAT3:=hideC (HAT2.out (FM.pgAt s.pages m).page)
         have HSU:=hideC (fun g1 g2 g3=>pagesTo_succ (s:=s) (k:=m) HPT.out g1 g2 g3)
         have HBAD : Hid (¬ ((AM.findN s.areas (FM.pgAt s.pages m).page).2 = true /\ (0 < m -> (FM.pgAt s.pages (m - 1)).page < (FM.pgAt s.pages m).page) /\ (FM.pgAt s.pages m).data.size = 16) -> A = 1):=fun g=>HBPk.out (HFP.out (fun e=>g (e m hmt)))
         obtain ⟨pgn,hpgn⟩ : ∃ pgn,pgn = (FM.pgAt s.pages m).page:=⟨_,rfl⟩
         obtain ⟨dt,hdt⟩ : ∃ dt,dt = (FM.pgAt s.pages m).data:=⟨_,rfl⟩
         obtain ⟨pgv,hpgv⟩ : ∃ pgv,pgv = (FM.pgAt s.pages (m - 1)).page:=⟨_,rfl⟩
         rw [<- hpgn] at p0 HAT3 HSU HBAD
         rw [<- hdt] at p1 hzs HSU HBAD
         rw [<- hpgv] at HPV HSU HBAD
         obtain ⟨FF,hFF⟩ : ∃ FF,FF = (AM.findN s.areas pgn).2:=⟨_,rfl⟩
         rw [<- hFF] at HAT3 HSU HBAD
         have hmi : (m : Int) < (np : Int):=by omega
         clear hpgn hdt hpgv hFF hliep HAT2 HFP HPT HBPk HFN2 HAL2 HLSk hbi HPG HFZ
         go_upto_region 14 with fail
         have HK0:=hideC (HBI.out.trans ((Below.refl wr.heap.size wr).drew.mono HBI.out.size))
         have HK1:=hideC (HBI.out.trans (((Below.refl wr.heap.size wr).alloc (Nat.le_refl _) (.cells #[.int .i64 0,.int .i64 0,.int .i64 0,.bool false] 59)).drew.mono HBI.out.size))
         have HKA:=hideC (Below.refl wr.heap.size wr).drew
         have HKB:=hideC ((Below.refl wr.heap.size wr).alloc (Nat.le_refl _) (.cells #[.int .i64 0,.int .i64 0,.int .i64 0,.bool false] 59)).drew
         have HNW : Hid (((wr.alloc (.cells #[.int .i64 0,.int .i64 0,.int .i64 0,.bool false] 59)).drew).heap[wr.heap.size]? = some (.cells #[.int .i64 0,.int .i64 0,.int .i64 0,.bool false] 59 (0,0))):=B.new wr #[.int .i64 0,.int .i64 0,.int .i64 0,.bool false] 59
         go_cut [7,8] (fun x7 x8 wx=>(∃ g,x7 = .pointer (some ⟨g,0,none⟩)) /\ x8 = .bool FF /\ Below wr.heap.size wr wx)
         case first =>
          go_region_law (go_simp;go_at_call 42;first | (refine (HAT3.out _ HK0.out).mono ?_;rintro e w1 ⟨⟨g1,g2,g3,g4,rfl⟩,hb1⟩;have HB1:=hideC (HKA.out.trans (hb1.mono HKA.out.size));clear hb1;go_simp) | (refine (HAT3.out _ HK1.out).mono ?_;rintro e w1 ⟨⟨g1,g2,g3,g4,rfl⟩,hb1⟩;have HB1:=hideC (HKB.out.trans (hb1.mono HKB.out.size));have hz:=B.below HNW.out hb1 (B.isLt HNW.out);have k0 : w1.cell? ⟨wr.heap.size,0,none⟩ = some (.int .i64 0):=B.cell hz 0 rfl;have k1 : w1.cell? ⟨wr.heap.size,1,none⟩ = some (.int .i64 0):=B.cell hz 1 rfl;have k2 : w1.cell? ⟨wr.heap.size,2,none⟩ = some (.int .i64 0):=B.cell hz 2 rfl;have k3 : w1.cell? ⟨wr.heap.size,3,none⟩ = some (.bool false):=B.cell hz 3 rfl;have kf:=B.free hz;clear hz hb1;go_simp))
          all_goals
           go_wp2_with fail
           go_meet
           case rel=>exact ⟨⟨_,rfl⟩,rfl,by first | exact HB1.out.alloc HB1.out.size _ | exact (((HB1.out.setCell (p:=⟨wr.heap.size,0,none⟩) (Nat.le_refl _) _).setCell (p:=⟨wr.heap.size,1,none⟩) (Nat.le_refl _) _).setCell (p:=⟨wr.heap.size,2,none⟩) (Nat.le_refl _) _).setCell (p:=⟨wr.heap.size,3,none⟩) (Nat.le_refl _) _⟩
         case rest =>
          obtain ⟨⟨ga,rfl⟩,rfl,hbc2⟩:=hcut
          have HBC2:=hideC hbc2
          have hkin:=Q.kin_some wc
          have HKC:=hideC (@Q.cell_kin wc)
          have hc2s:=hbc2.size
          have z2' : ∀ x : Q.Kin wc.heap.size wc,x.world.cell? ⟨sb,2,none⟩ = some (.slice (some ⟨bp,offp,none⟩) np cp):=fun x=>(HKC.out x _ _ (by omega)).trans ((M.below_cell hbc2 (by omega)).trans z2)
          have p0' : ∀ x : Q.Kin wc.heap.size wc,x.world.cell? ⟨bp,offp + m * 2,none⟩ = some (.int .i64 pgn):=fun x=>(HKC.out x _ _ (by omega)).trans ((M.below_cell hbc2 (by omega)).trans p0)
          have p1' : ∀ x : Q.Kin wc.heap.size wc,x.world.cell? ⟨bp,offp + m * 2 + 1,none⟩ = some (.string dt):=fun x=>(HKC.out x _ _ (by omega)).trans ((M.below_cell hbc2 (by omega)).trans p1)
          have HPV2 : Hid (0 < m -> ∀ x : Q.Kin wc.heap.size wc,x.world.cell? ⟨bp,offp + (m - 1) * 2,none⟩ = some (.int .i64 pgv)):=fun g x=>(HKC.out x _ _ (by omega)).trans ((M.below_cell hbc2 (by omega)).trans (HPV.out (m - 1) (by omega)))
          have HBU:=hideC (HBT.out.trans (hbc2.mono HBT.out.size))
          have HBI2:=hideC (HBI.out.trans (hbc2.mono HBI.out.size))
          have HXS2:=hideC (B.below HXS.out hbc2 (B.isLt HXS.out))
          have HXF2:=hideC (B.below HXF.out hbc2 (B.isLt HXF.out))
          clear HAT3 HK0 HK1 HKA HKB HNW HPV hbc2 HKC p0 p1 z1 z2 HBI HXS HXF HBT
          obtain ⟨BE,hBE⟩ : ∃ BE,BE = bad15 FF (decide (0 < m -> pgv < pgn)) dt.size:=⟨_,rfl⟩
          have HBE:=hideC hBE
          clear hBE
          go_upto_region 15 with fail
          go_cut [143] (fun c wx=>c = .bool BE /\ Below wc.heap.size wc wx)
          case first =>
           clear HSU HBAD HBU HBI2 HXS2 HXF2 HBC2
           cases FF with
           | false =>
            as_aux_lemma =>
             refine Q.region_kin (by kernel_rfl) (by kernel_rfl) ?_
             repeat (first | go_big_quiet_step (fail) | quiet_step (fail))
             refine wpQuiet_nil ?_
             intro _ hw'
             obtain ⟨x,hw''⟩:=hw'
             subst hw''
             go_wp2
             go_meet
             exact ⟨by rw [HBE.out];rfl,x.keeps⟩
           | true =>
            by_cases hm0 : 0 < m
            · have hm0i : (0 : Int) < (m : Int):=by omega
              have p2':=HPV2.out hm0
              by_cases hq : pgn <= pgv
              · have hqd : decide (0 < m -> pgv < pgn) = false:=decide_eq_false (fun g=>by have:=g hm0;omega)
                as_aux_lemma =>
                 refine Q.region_kin (by kernel_rfl) (by kernel_rfl) ?_
                 repeat (first | go_big_quiet_step (fail) | quiet_step (fail))
                 refine wpQuiet_nil ?_
                 intro _ hw'
                 obtain ⟨x,hw''⟩:=hw'
                 subst hw''
                 go_wp2
                 go_meet
                 exact ⟨by rw [HBE.out,hqd];rfl,x.keeps⟩
              · have hqd : decide (0 < m -> pgv < pgn) = true:=decide_eq_true (fun _=>by omega)
                by_cases hz : dt.size = 16
                · have hzi : ((dt.size : Int) == 16) = true:=by rw [beq_iff_eq];omega
                  as_aux_lemma =>
                   refine Q.region_kin (by kernel_rfl) (by kernel_rfl) ?_
                   repeat (first | go_big_quiet_step (fail) | quiet_step (fail))
                   refine wpQuiet_nil ?_
                   intro _ hw'
                   obtain ⟨x,hw''⟩:=hw'
                   subst hw''
                   go_wp2
                   go_meet
                   exact ⟨by rw [HBE.out,hqd];simp [bad15,hz],x.keeps⟩
                · have hzi : ((dt.size : Int) == 16) = false:=by rw [beq_eq_false_iff_ne];omega
                  as_aux_lemma =>
                   refine Q.region_kin (by kernel_rfl) (by kernel_rfl) ?_
                   repeat (first | go_big_quiet_step (fail) | quiet_step (fail))
                   refine wpQuiet_nil ?_
                   intro _ hw'
                   obtain ⟨x,hw''⟩:=hw'
                   subst hw''
                   go_wp2
                   go_meet
                   exact ⟨by rw [HBE.out,hqd];simp [bad15,hz];omega,x.keeps⟩
            · have hm0i : ¬ (0 : Int) < (m : Int):=by omega
              have hqd : decide (0 < m -> pgv < pgn) = true:=decide_eq_true (fun g=>by omega)
              by_cases hz : dt.size = 16
              · have hzi : ((dt.size : Int) == 16) = true:=by rw [beq_iff_eq];omega
                as_aux_lemma =>
                 refine Q.region_kin (by kernel_rfl) (by kernel_rfl) ?_
                 repeat (first | go_big_quiet_step (fail) | quiet_step (fail))
                 refine wpQuiet_nil ?_
                 intro _ hw'
                 obtain ⟨x,hw''⟩:=hw'
                 subst hw''
                 go_wp2
                 go_meet
                 exact ⟨by rw [HBE.out,hqd];simp [bad15,hz],x.keeps⟩
              · have hzi : ((dt.size : Int) == 16) = false:=by rw [beq_eq_false_iff_ne];omega
                as_aux_lemma =>
                 refine Q.region_kin (by kernel_rfl) (by kernel_rfl) ?_
                 repeat (first | go_big_quiet_step (fail) | quiet_step (fail))
                 refine wpQuiet_nil ?_
                 intro _ hw'
                 obtain ⟨x,hw''⟩:=hw'
                 subst hw''
                 go_wp2
                 go_meet
                 exact ⟨by rw [HBE.out,hqd];simp [bad15,hz];omega,x.keeps⟩
          case rest =>
           obtain ⟨rfl,hbc3⟩:=hcut
           have HBV:=hideC (HBU.out.trans (hbc3.mono HBU.out.size))
           have HBI3:=hideC (HBI2.out.trans (hbc3.mono HBI2.out.size))
           have HXS3:=hideC (B.below HXS2.out hbc3 (B.isLt HXS2.out))
           have HXF3:=hideC (B.below HXF2.out hbc3 (B.isLt HXF2.out))
           have hbe:=HBE.out
           unfold bad15 at hbe
           clear hbc3 HBE z2' p0' p1' HPV2 hkin HBU HBI2 HXS2 HXF2
           cases BE with
           | true =>
            have HA2 : Hid (A = 1):=HBAD.out (fun ⟨g1,g2,g3⟩=>by rw [g1,decide_eq_true g2,decide_eq_true g3] at hbe;cases hbe)
            clear hbe HBAD HSU
            go_wp2
            go_ret
            exact ⟨by rw [HA2.out];rfl,HBV.out⟩
           | false =>
            have HPT2 : Hid (pagesTo s (m + 1)):=by
             have e1:=hbe.symm
             simp only [Bool.or_eq_false_iff,Bool.not_eq_false',decide_eq_true_eq] at e1
             exact HSU.out e1.1.1 e1.1.2 e1.2
            clear hbe HBAD HSU
            go_wp2
            go_roundw
            case rel=>exact ⟨m + 1,by omega,by go_num,HPT2.out,HXS3.out,HXF3.out,HBI3.out⟩
            case measure=>simp [intOf];omega
       · obtain rfl : m = np:=by omega
         have HAL3:=hideC (HAL2.out (HFN2.out HPT.out))
         clear hbi HAL2 HFN2 HPT
         go_wp2
         go_roundw
         case rel=>exact ⟨k + 1,by omega,by go_num,by rw [HLSk.out],HAL3.out,HXF.out,HBT.out⟩
         case measure=>simp [intOf];omega
  · obtain rfl : k = nr:=by omega
    have HE2:=hideC (HEN'.out HAL.out)
    obtain ⟨LT,hLT⟩ : ∃ LT,LT = FM.lensTo ss k:=⟨_,rfl⟩
    rw [<- hLT] at HE2 hlb ⊢
    have HW3:=hideC (HWF'.out _ hb)
    clear hb hLT HAL HEN' HB8' HBP' HLS HLB HWF'
    by_cases hq : sl < LT
    · have HA2 : Hid (A = 1):=by
       show _ = _
       rw [HE2.out,decide_eq_false (by omega)]
       rfl
      clear HE2
      go_wp2
      go_ret
      exact ⟨by rw [HA2.out];rfl,HB.out⟩
    · have hqd : decide (LT <= sl) = true:=decide_eq_true (by omega)
      rw [hqd,Bool.true_and] at HE2
      cases WO with
      | true =>
       have HA2 : Hid (A = 0):=HE2
       clear HE2
       go_wp2_with (go_at_call 43;refine HW3.out.mono ?_;rintro e w1 ⟨rfl,hb1⟩;have HB1:=hideC (add_below HB.out hb1);clear hb1)
       go_ret
       exact ⟨by rw [HA2.out];rfl,HB1.out⟩
      | false =>
       have HA2 : Hid (A = 1):=HE2
       clear HE2
       go_wp2_with (go_at_call 43;refine HW3.out.mono ?_;rintro e w1 ⟨rfl,hb1⟩;have HB1:=hideC (add_below HB.out hb1);clear hb1)
       go_ret
       exact ⟨by rw [HA2.out];rfl,HB1.out⟩
end GR
end Go.Proofs.YtkdigjpejnebkaaGreat
