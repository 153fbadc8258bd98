import Derived.Test.YtpgifpeohlllfaaGreatGJ15
import Derived.Great.Ranges
import Derived.Deep.DeepCutAuto
import Derived.Deep.RegionLaw
set_option maxHeartbeats 20000000
set_option linter.unusedVariables false
set_option maxRecDepth 100000
set_option linter.unusedSimpArgs false
namespace Go.Proofs.YtpgifpeohlllfaaGreat
namespace KW
open Go.RowKit GK
open FW (hideC add_below)
def OutLook (w : World) (a : KAt) (k : KM.Kn) (e : Ending) (w' : World) : Prop:=Below w.heap.size w w' /\ ((KM.checkK k = 0 /\ ∃ mb,e = .returned (.tuple #[.pointer (some ⟨mb,0,none⟩),.int .i64 0]) /\ w.heap.size <= mb /\ w'.heap[mb]? = some (.cells (memC (.slice a.aS k.sheets.length a.cS) (.slice a.aF k.frames.length a.cF) (.slice a.aL k.slots.length a.cL) (.slice a.aP k.spaces.length a.cP) (.int .i64 k.hand) (fillG k.sheets k.sheets.length)) 104 (0,0))) ∨ (KM.checkK k ≠ 0 /\ e = .returned (.tuple #[.pointer none,.int .i64 (KM.checkK k)])))
theorem mem_fill {w : World} {mb : Nat} {hs : List LM.Sh} {a b c d e : Value} (h : w.heap[mb]? = some (.cells (memC a b c d e (fillG hs hs.length)) 104 (0,0))) (hr : LM.riseB hs = true) : ∀ n : Nat,n < 256 -> w.cell? ⟨mb,5 + n,none⟩ = some (.string (KM.filled hs n)):=fun n hn=>(B.cell h (5 + n) (memC_at a b c d e _ n hn)).trans (by rw [fill_filled hs hr n])
set_option maxHeartbeats 16000000 in
theorem look_fine (k : KM.Kn) (a : KAt) (w : World) (hK : HasK w a k) (hF : FitK k) (hc : KM.counts k = true) : Calls Tryz.prog 62 #[.agg (cellsK a k)] w (OutLook w a k):=by
 have hcc:=of_decide_eq_true hc
 have HNO : Hid (∀ w',Below w.heap.size w w' -> KM.fineP k = false -> OutLook w a k (.returned (.tuple #[.pointer none,.int .i64 1])) w'):=fun w' hb hf=>by
  have e : KM.checkK k = 1:=by unfold KM.checkK;rw [if_neg (by rw [hc];simp),hf];rfl
  exact ⟨hb,.inr ⟨by rw [e];decide,by rw [e]⟩⟩
 have HYES : Hid (∀ w' mb,Below w.heap.size w w' -> KM.fineP k = true -> w.heap.size <= mb -> w'.heap[mb]? = some (.cells (memC (.slice a.aS k.sheets.length a.cS) (.slice a.aF k.frames.length a.cF) (.slice a.aL k.slots.length a.cL) (.slice a.aP k.spaces.length a.cP) (.int .i64 k.hand) (fillG k.sheets k.sheets.length)) 104 (0,0)) -> OutLook w a k (.returned (.tuple #[.pointer (some ⟨mb,0,none⟩),.int .i64 0])) w'):=fun w' mb hb hf hm hh=>by
  have e : KM.checkK k = 0:=by unfold KM.checkK;rw [if_neg (by rw [hc];simp),hf];rfl
  exact ⟨hb,.inl ⟨e,mb,rfl,hm,hh⟩⟩
 obtain ⟨P,hP⟩ : ∃ P,P = OutLook w a k:=⟨_,rfl⟩
 rw [<- hP] at HNO HYES ⊢
 clear hP
 unfold cellsK
 have HC : Hid (∀ V,Calls Tryz.prog 109 #[.agg #[.slice a.aS k.sheets.length a.cS,.slice a.aF k.frames.length a.cF,.slice a.aL k.slots.length a.cL,.slice a.aP k.spaces.length a.cP,.int .i64 k.hand]] V fun e w'=>e = .returned (.bool true) /\ Below V.heap.size V w'):=fun V=>by
  have:=counts_any a.aS a.aF a.aL a.aP k.sheets.length a.cS k.frames.length a.cF k.slots.length a.cL k.spaces.length a.cP (.int .i64 k.hand) V
  rw [decide_eq_true hcc] at this
  exact this
 have HUP:=hideC (@KM.users_page k)
 have HSB:=hideC (KM.sps_bd k.sheets k.spaces (List.replicate k.frames.length KM.us0,List.replicate k.slots.length KM.us0) k.frames.length k.slots.length (KM.us0_bd _) (KM.us0_bd _))
 have HSF:=hideC (KM.sps_false k.sheets k.spaces (List.replicate k.frames.length KM.us0,List.replicate k.slots.length KM.us0))
 obtain ⟨hKS,hKF,hKL,hKP⟩:=hK
 obtain ⟨fS,fnF,ffr,fnS,fsl,fnP,fsp,fhd⟩:=hF
 have HKS:=hideC hKS
 have HKF:=hideC hKF
 have HKL:=hideC hKL
 have HKP:=hideC hKP
 have HFS:=hideC fS
 have HFR:=hideC ffr
 have HSL:=hideC fsl
 have HFP:=hideC fsp
 clear hKS hKF hKL hKP fS ffr fsl fsp hc fnF fnS fnP
 obtain ⟨aS,cS,aF,cF,aL,cL,aP,cP⟩:=a
 obtain ⟨hs,fs,ls,ss,hd⟩:=k
 unfold KM.fineP KM.users at *
 simp only at HC hcc HNO HYES HUP HSB HSF HKS HKF HKL HKP HFS HFR HSL HFP fhd ⊢
 have BK:=hideC (B.new w #[.slice aS hs.length cS,.slice aF fs.length cF,.slice aL ls.length cL,.slice aP ss.length cP,.int .i64 hd] 27)
 have HB00:=hideC ((Below.refl w.heap.size w).alloc (Nat.le_refl _) (.cells #[.slice aS hs.length cS,.slice aF fs.length cF,.slice aL ls.length cL,.slice aP ss.length cP,.int .i64 hd] 27))
 go_enter Tryz.func62,Tryz.ntmps62
 go_upto_region 3 with (go_at_call 109;refine (HC.out _).mono ?_;rintro e w1 ⟨rfl,hb1⟩;have HB01:=hideC (add_below HB00.out hb1);have BK1:=hideC (B.below BK.out hb1 (by simp));clear hb1)
 refine wp_region_lit ?_
 refine wpList_load_row rfl 27 _ rfl w.heap.size rfl 27 _ (0,0) _ BK1.out Tryz.underlying27 rfl (by kernel_rfl) ?_
 refine wpList_built rfl 104 _ rfl (.agg #[.slice aS hs.length cS,.slice aF fs.length cF,.slice aL ls.length cL,.slice aP ss.length cP,.int .i64 hd]) (by rfl) _ (builtM _ _ _ _ _) ?_
 have HM:=hideC (B.new w1 (memC (.slice aS hs.length cS) (.slice aF fs.length cF) (.slice aL ls.length cL) (.slice aP ss.length cP) (.int .i64 hd) none256) 104)
 have BK2:=hideC (B.alloc BK1.out (.cells (memC (.slice aS hs.length cS) (.slice aF fs.length cF) (.slice aL ls.length cL) (.slice aP ss.length cP) (.int .i64 hd) none256) 104))
 have HB02:=hideC (HB01.out.alloc HB01.out.size (.cells (memC (.slice aS hs.length cS) (.slice aF fs.length cF) (.slice aL ls.length cL) (.slice aP ss.length cP) (.int .i64 hd) none256) 104))
 have hkm : w.heap.size < w1.heap.size:=B.isLt BK1.out
 refine Go.Great.wpList_boxTo rfl 104 _ rfl _ rfl w1.heap.size rfl (memC (.slice aS hs.length cS) (.slice aF fs.length cF) (.slice aL ls.length cL) (.slice aP ss.length cP) (.int .i64 hd) none256) (by rfl) ?_
 obtain ⟨W,hW⟩ : ∃ W,W = w1.alloc (.cells (memC (.slice aS hs.length cS) (.slice aF fs.length cF) (.slice aL ls.length cL) (.slice aP ss.length cP) (.int .i64 hd) none256) 104):=⟨_,rfl⟩
 rw [<- hW] at HM BK2 HB02 ⊢
 obtain ⟨mb,hmb⟩ : ∃ mb,mb = w1.heap.size:=⟨_,rfl⟩
 rw [<- hmb] at HM hkm ⊢
 obtain ⟨kb,hkb⟩ : ∃ kb,kb = w.heap.size:=⟨_,rfl⟩
 have hwmb : w.heap.size <= mb:=by omega
 have hwkb : w.heap.size <= kb:=by omega
 have hkbm : ¬ kb = mb:=by omega
 rw [<- hkb] at BK2 ⊢
 have d1 : W.cell? ⟨kb,1,none⟩ = some (.slice aF fs.length cF):=B.cell BK2.out 1 rfl
 have d2 : W.cell? ⟨kb,2,none⟩ = some (.slice aL ls.length cL):=B.cell BK2.out 2 rfl
 clear hW hmb hkb BK BK1 HC HB00 HB01
 have hn2 : fs.length <= 1000:=by omega
 have hn3 : ls.length <= 1000:=by omega
 have e2 : ∀ V : World,(Instr.makeSlice 162 (.int .i64 (fs.length : Int)) (.int .i64 (fs.length : Int))).run Tryz.prog V = .ok (.slice (some ⟨V.heap.size,0,none⟩) fs.length fs.length) (V.alloc (.cells (zu fs.length) 211)):=fun V=>mkUs V fs.length hn2
 have e3 : ∀ V : World,(Instr.makeSlice 162 (.int .i64 (ls.length : Int)) (.int .i64 (ls.length : Int))).run Tryz.prog V = .ok (.slice (some ⟨V.heap.size,0,none⟩) ls.length ls.length) (V.alloc (.cells (zu ls.length) 211)):=fun V=>mkUs V ls.length hn3
 have d1A : (W.alloc (.cells (zu ls.length) 211)).cell? ⟨kb,1,none⟩ = some (.slice aF fs.length cF):=B.cell (B.alloc BK2.out _) 1 rfl
 have d2A : (W.alloc (.cells (zu fs.length) 211)).cell? ⟨kb,2,none⟩ = some (.slice aL ls.length cL):=B.cell (B.alloc BK2.out _) 2 rfl
 have q1:=hideC (zu_own W.heap.size W fs.length (Nat.le_refl _) hn2)
 have q2:=hideC (zu_own W.heap.size (W.alloc (.cells (zu fs.length) 211)) ls.length (by simp) hn3)
 have q3:=hideC (zu_own W.heap.size W ls.length (Nat.le_refl _) hn3)
 have q4:=hideC (zu_own W.heap.size (W.alloc (.cells (zu ls.length) 211)) fs.length (by simp) hn2)
 rw [World.size_alloc] at q2 q4
 have q5:=hideC (((Below.refl W.heap.size W).alloc (Nat.le_refl _) (.cells (zu fs.length) 211)).alloc (by simp) (.cells (zu ls.length) 211))
 have q6:=hideC (((Below.refl W.heap.size W).alloc (Nat.le_refl _) (.cells (zu ls.length) 211)).alloc (by simp) (.cells (zu fs.length) 211))
 go_upto_region 4 with fail
 go_cut [5,6] (fun x5 x6 wx=>∃ gf gs : Nat,x5 = .slice (some ⟨gf,0,none⟩) fs.length fs.length /\ x6 = .slice (some ⟨gs,0,none⟩) ls.length ls.length /\ ¬ gf = gs /\ OwnU W.heap.size wx gf fs.length fs.length (List.replicate fs.length KM.us0) /\ OwnU W.heap.size wx gs ls.length ls.length (List.replicate ls.length KM.us0) /\ Below W.heap.size W wx)
 case first =>
  go_region
  all_goals
   go_wp2_with fail
   go_meet
   case rel=>first | exact ⟨_,_,rfl,rfl,by simp,(q1.out.kp (Kp.alloc (fun _=>False) _ _) (fun x=>x)).d,q2.out.d,q5.out.drew⟩ | exact ⟨_,_,rfl,rfl,by simp,q4.out.d,(q3.out.kp (Kp.alloc (fun _=>False) _ _) (fun x=>x)).d,q6.out.drew⟩
 case rest =>
  obtain ⟨gf,gs,rfl,rfl,hne,hof,hos,hbx⟩:=hcut
  clear q1 q2 q3 q4 q5 q6 e2 e3 d1A d2A d1 d2
  have hgf:=hof.lt
  have hgs:=hos.lt
  have HOF:=hideC hof
  have HOS:=hideC hos
  have hmW:=B.isLt HM.out
  have hkW:=B.isLt BK2.out
  have HMX:=hideC (B.below HM.out hbx hmW)
  have BKX:=hideC (B.below BK2.out hbx hkW)
  have HBX:=hideC (HB02.out.trans (hbx.mono HB02.out.size))
  have HFIL:=hideC (fillSheets_any hs aS cS mb (.slice aF fs.length cF) (.slice aL ls.length cL) (.slice aP ss.length cP) (.int .i64 hd) w wc HKS.out HFS.out HBX.out hwmb HMX.out (by omega))
  have k4 : wc.cell? ⟨kb,4,none⟩ = some (.int .i64 hd):=B.cell BKX.out 4 rfl
  clear hof hos hbx HM BK2 HB02
  have HNO2 : Hid (∀ V,Below w.heap.size w V -> (LM.riseB hs = false ∨ hd < 0 ∨ (fs.length : Int) <= hd) -> P (.returned (.tuple #[.pointer none,.int .i64 1])) V):=fun V hV g=>HNO.out V hV (by
   rcases g with g | g | g
   · rw [g];rfl
   · rw [decide_eq_false (by omega)];simp
   · rw [decide_eq_false (by omega)];simp)
  obtain ⟨RB,hRB⟩ : ∃ RB,RB = LM.riseB hs:=⟨_,rfl⟩
  have HRB:=hideC hRB
  rw [<- hRB] at HFIL HNO2
  clear hRB
  cases RB with
  | false =>
   go_wp2_with (go_at_call 110;refine HFIL.out.mono ?_;rintro e w2 ⟨rfl,hk2,G,hG,hg⟩;have HB2:=hideC (hk2.below HBX.out HBX.out.size (fun b hb=>(by omega)));have BK3:=hideC (hk2.keep BKX.out hkbm);have HG:=hideC hG;have HGG:=hideC hg;have OF2:=hideC (HOF.out.kp hk2 (by omega));have OS2:=hideC (HOS.out.kp hk2 (by omega));have m1 : w2.cell? ⟨kb,1,none⟩ = some (.slice aF fs.length cF):=B.cell BK3.out 1 rfl;have m3 : w2.cell? ⟨kb,3,none⟩ = some (.slice aP ss.length cP):=B.cell BK3.out 3 rfl;have m4 : w2.cell? ⟨kb,4,none⟩ = some (.int .i64 hd):=B.cell BK3.out 4 rfl;clear hk2 hG hg)
   exact HNO2.out _ HB2.out (.inl trivial)
  | true =>
   rcases (show hd < 0 ∨ (0 <= hd /\ (fs.length : Int) <= hd) ∨ (0 <= hd /\ hd < (fs.length : Int)) by omega) with g | ⟨g1,g2⟩ | ⟨g1,g2⟩
   · go_wp2_with (go_at_call 110;refine HFIL.out.mono ?_;rintro e w2 ⟨rfl,hk2,G,hG,hg⟩;have HB2:=hideC (hk2.below HBX.out HBX.out.size (fun b hb=>(by omega)));have BK3:=hideC (hk2.keep BKX.out hkbm);have HG:=hideC hG;have HGG:=hideC hg;have OF2:=hideC (HOF.out.kp hk2 (by omega));have OS2:=hideC (HOS.out.kp hk2 (by omega));have m1 : w2.cell? ⟨kb,1,none⟩ = some (.slice aF fs.length cF):=B.cell BK3.out 1 rfl;have m3 : w2.cell? ⟨kb,3,none⟩ = some (.slice aP ss.length cP):=B.cell BK3.out 3 rfl;have m4 : w2.cell? ⟨kb,4,none⟩ = some (.int .i64 hd):=B.cell BK3.out 4 rfl;clear hk2 hG hg)
     exact HNO2.out _ HB2.out (.inr (.inl g))
   · go_wp2_with (go_at_call 110;refine HFIL.out.mono ?_;rintro e w2 ⟨rfl,hk2,G,hG,hg⟩;have HB2:=hideC (hk2.below HBX.out HBX.out.size (fun b hb=>(by omega)));have BK3:=hideC (hk2.keep BKX.out hkbm);have HG:=hideC hG;have HGG:=hideC hg;have OF2:=hideC (HOF.out.kp hk2 (by omega));have OS2:=hideC (HOS.out.kp hk2 (by omega));have m1 : w2.cell? ⟨kb,1,none⟩ = some (.slice aF fs.length cF):=B.cell BK3.out 1 rfl;have m3 : w2.cell? ⟨kb,3,none⟩ = some (.slice aP ss.length cP):=B.cell BK3.out 3 rfl;have m4 : w2.cell? ⟨kb,4,none⟩ = some (.int .i64 hd):=B.cell BK3.out 4 rfl;clear hk2 hG hg)
     exact HNO2.out _ HB2.out (.inr (.inr g2))
   · go_wp2_with (go_at_call 110;refine HFIL.out.mono ?_;rintro e w2 ⟨rfl,hk2,G,hG,hg⟩;have HB2:=hideC (hk2.below HBX.out HBX.out.size (fun b hb=>(by omega)));have BK3:=hideC (hk2.keep BKX.out hkbm);have HG:=hideC hG;have HGG:=hideC hg;have OF2:=hideC (HOF.out.kp hk2 (by omega));have OS2:=hideC (HOS.out.kp hk2 (by omega));have m1 : w2.cell? ⟨kb,1,none⟩ = some (.slice aF fs.length cF):=B.cell BK3.out 1 rfl;have m3 : w2.cell? ⟨kb,3,none⟩ = some (.slice aP ss.length cP):=B.cell BK3.out 3 rfl;have m4 : w2.cell? ⟨kb,4,none⟩ = some (.int .i64 hd):=B.cell BK3.out 4 rfl;clear hk2 hG hg)
     have HG2 : Hid (w2.heap[mb]? = some (.cells (memC (.slice aS hs.length cS) (.slice aF fs.length cF) (.slice aL ls.length cL) (.slice aP ss.length cP) (.int .i64 hd) (fillG hs hs.length)) 104 (0,0))):=by
      have:=HG.out
      rw [HGG.out trivial] at this
      exact this
     clear HFIL HNO2 HG HGG HMX BKX HBX HOF HOS k4 m4
     go_loopw [42] (fun iv wr=>∃ k : Nat,k <= ss.length /\ iv = .int .i64 (k : Int) /\ KM.spsB hs ss (List.replicate fs.length KM.us0,List.replicate ls.length KM.us0) k = true /\ Below w.heap.size w wr /\ wr.heap[mb]? = some (.cells (memC (.slice aS hs.length cS) (.slice aF fs.length cF) (.slice aL ls.length cL) (.slice aP ss.length cP) (.int .i64 hd) (fillG hs hs.length)) 104 (0,0)) /\ wr.heap[kb]? = some (.cells #[.slice aS hs.length cS,.slice aF fs.length cF,.slice aL ls.length cL,.slice aP ss.length cP,.int .i64 hd] 27 (0,0)) /\ OwnU W.heap.size wr gf fs.length fs.length (KM.spsU ss (List.replicate fs.length KM.us0,List.replicate ls.length KM.us0) k).1 /\ OwnU W.heap.size wr gs ls.length ls.length (KM.spsU ss (List.replicate fs.length KM.us0,List.replicate ls.length KM.us0) k).2) (fun iv _=>ss.length - (intOf iv).toNat)
     case atStart=>exact ⟨0,by omega,rfl,rfl,HB2.out,HG2.out,BK3.out,OF2.out,OS2.out⟩
     case round =>
      obtain ⟨k,hk,rfl,hsb,hb,hmm,hkk,hof,hos⟩:=hrel
      have HSBK:=hideC hsb
      have HB:=hideC hb
      have HMM:=hideC hmm
      have HKK:=hideC hkk
      have HOF:=hideC hof
      have HOS:=hideC hos
      have m2 : wr.cell? ⟨kb,2,none⟩ = some (.slice aL ls.length cL):=B.cell hkk 2 rfl
      by_cases hlt : k < ss.length
      · obtain ⟨pb,po,hao,hbl,hlie⟩:=HKP.out (by omega)
        subst hao
        obtain ⟨va,ap,cp,c0,c1,c2,c3,c4,c5⟩:=hlie k hlt
        obtain ⟨aa,ca,hva,_⟩:=id c3
        subst hva
        have hfit:=HFP.out k hlt
        have x0:=(hb.cell (p:=⟨pb,po + k * 3,none⟩) hbl).trans c0
        have x1:=(hb.cell (p:=⟨pb,po + k * 3 + 1,none⟩) hbl).trans c1
        have x2:=(hb.cell (p:=⟨pb,po + k * 3 + 2,none⟩) hbl).trans c2
        have hbs:=hb.size
        have hbd:=HSB.out k (by omega) hsb
        have HNO3 : Hid (∀ V,Below w.heap.size w V -> KM.spsB hs ss (List.replicate fs.length KM.us0,List.replicate ls.length KM.us0) (k + 1) = false -> P (.returned (.tuple #[.pointer none,.int .i64 1])) V):=fun V hV g=>HNO.out V hV (by rw [HSF.out (k + 1) ss.length hlt g];simp)
        have HSN : Hid (KM.spsB hs ss (List.replicate fs.length KM.us0,List.replicate ls.length KM.us0) (k + 1) = (KM.rightSp hs (KM.spAt ss k) && KM.entsB (KM.spAt ss k).areas (KM.spAt ss k).ents (KM.spsU ss (List.replicate fs.length KM.us0,List.replicate ls.length KM.us0) k) (KM.spAt ss k).ents.length)):=by show _ = _;rw [KM.spsB,HSBK.out,Bool.true_and]
        have HUN : Hid (KM.spsU ss (List.replicate fs.length KM.us0,List.replicate ls.length KM.us0) (k + 1) = KM.entsU (KM.spAt ss k).areas (KM.spAt ss k).ents (KM.spsU ss (List.replicate fs.length KM.us0,List.replicate ls.length KM.us0) k) (KM.spAt ss k).ents.length):=rfl
        have hmlt:=B.isLt hmm
        have HRS:=hideC (rightSpace_any hs (KM.spAt ss k) (.slice aa (KM.spAt ss k).areas.length ca) ap cp mb (wr.alloc (.cells #[.bool (KM.spAt ss k).live,.slice aa (KM.spAt ss k).areas.length ca,.slice ap (KM.spAt ss k).ents.length cp] 43)) (c3.below (hb.alloc hb.size _)) hfit (by simp;omega) (mem_fill (B.alloc hmm _) HRB.out.symm))
        have HRE : Hid (∀ V,Below w.heap.size w V -> OwnU W.heap.size V gf fs.length fs.length (KM.spsU ss (List.replicate fs.length KM.us0,List.replicate ls.length KM.us0) k).1 -> OwnU W.heap.size V gs ls.length ls.length (KM.spsU ss (List.replicate fs.length KM.us0,List.replicate ls.length KM.us0) k).2 -> Calls Tryz.prog 112 #[.agg #[.bool (KM.spAt ss k).live,.slice aa (KM.spAt ss k).areas.length ca,.slice ap (KM.spAt ss k).ents.length cp],.slice (some ⟨gf,0,none⟩) fs.length fs.length,.slice (some ⟨gs,0,none⟩) ls.length ls.length] V fun x w'=>x = .returned (.bool (KM.entsB (KM.spAt ss k).areas (KM.spAt ss k).ents (KM.spsU ss (List.replicate fs.length KM.us0,List.replicate ls.length KM.us0) k) (KM.spAt ss k).ents.length)) /\ Kp (fun b=>b = gf ∨ b = gs) V w' /\ (KM.entsB (KM.spAt ss k).areas (KM.spAt ss k).ents (KM.spsU ss (List.replicate fs.length KM.us0,List.replicate ls.length KM.us0) k) (KM.spAt ss k).ents.length = true -> OwnU W.heap.size w' gf fs.length fs.length (KM.entsU (KM.spAt ss k).areas (KM.spAt ss k).ents (KM.spsU ss (List.replicate fs.length KM.us0,List.replicate ls.length KM.us0) k) (KM.spAt ss k).ents.length).1 /\ OwnU W.heap.size w' gs ls.length ls.length (KM.entsU (KM.spAt ss k).areas (KM.spAt ss k).ents (KM.spsU ss (List.replicate fs.length KM.us0,List.replicate ls.length KM.us0) k) (KM.spAt ss k).ents.length).2)):=fun V hV h1 h2=>rightEntries_any (KM.spAt ss k) (.slice aa (KM.spAt ss k).areas.length ca) ap cp (KM.spsU ss (List.replicate fs.length KM.us0,List.replicate ls.length KM.us0) k).1 (KM.spsU ss (List.replicate fs.length KM.us0,List.replicate ls.length KM.us0) k).2 W.heap.size gf fs.length fs.length gs ls.length ls.length (255 * k) w V c3 c4 hfit hV (by omega) h1 h2 hne hbd.1 hbd.2 (by omega) hn2 hn3
        obtain ⟨RS,hRS⟩ : ∃ RS,RS = KM.rightSp hs (KM.spAt ss k):=⟨_,rfl⟩
        obtain ⟨EB,hEB⟩ : ∃ EB,EB = KM.entsB (KM.spAt ss k).areas (KM.spAt ss k).ents (KM.spsU ss (List.replicate fs.length KM.us0,List.replicate ls.length KM.us0) k) (KM.spAt ss k).ents.length:=⟨_,rfl⟩
        rw [<- hRS] at HRS HSN
        rw [<- hEB] at HRE HSN
        obtain ⟨lv,hlv⟩ : ∃ lv,lv = (KM.spAt ss k).live:=⟨_,rfl⟩
        obtain ⟨na,hna⟩ : ∃ na,na = (KM.spAt ss k).areas.length:=⟨_,rfl⟩
        obtain ⟨ne,hnE⟩ : ∃ ne,ne = (KM.spAt ss k).ents.length:=⟨_,rfl⟩
        rw [<- hlv,<- hna,<- hnE] at HRS
        rw [<- hlv,<- hna] at HRE
        rw [<- hlv] at x0
        rw [<- hna] at x1
        rw [<- hnE] at x2
        rw [<- hnE] at HRE HUN
        have HBA:=hideC (hb.alloc hb.size (.cells #[.bool lv,.slice aa na ca,.slice ap ne cp] 43))
        have MA:=hideC (B.alloc hmm (.cells #[.bool lv,.slice aa na ca,.slice ap ne cp] 43))
        have KA:=hideC (B.alloc hkk (.cells #[.bool lv,.slice aa na ca,.slice ap ne cp] 43))
        have OA:=hideC (hof.kp (Kp.alloc (fun _=>False) wr (.cells #[.bool lv,.slice aa na ca,.slice ap ne cp] 43)) (fun x=>x))
        have OB:=hideC (hos.kp (Kp.alloc (fun _=>False) wr (.cells #[.bool lv,.slice aa na ca,.slice ap ne cp] 43)) (fun x=>x))
        have SB:=hideC (B.new wr #[.bool lv,.slice aa na ca,.slice ap ne cp] 43)
        have hpbw : ¬ pb = wr.heap.size:=by omega
        clear hRS hEB hlv hna hnE c0 c1 c2 c3 c4 c5 hlie hfit hbd hsb hb hmm hkk hof hos HSB HSF HNO HYES HUP HKS HKF HKL HKP HFS HFR HSL HFP HMM HKK HOF HOS HB2 HG2 BK3 OF2 OS2 m1 m3 m2
        cases RS with
        | false =>
         have HX:=hideC (HNO3.out)
         have HSN2 : Hid (KM.spsB hs ss (List.replicate fs.length KM.us0,List.replicate ls.length KM.us0) (k + 1) = false):=HSN
         clear HSN HRE
         go_wp2_with (go_at_call 111;refine HRS.out.mono ?_;rintro e w3 ⟨rfl,hb3⟩;have HB3:=hideC (add_below HBA.out hb3);have M3:=hideC (B.below MA.out hb3 (B.isLt MA.out));have KB3:=hideC (B.below KA.out hb3 (B.isLt KA.out));have O3:=hideC (OA.out.kp (Kp.ofBelow (D:=fun _=>False) hb3) (fun x=>x));have S3:=hideC (OB.out.kp (Kp.ofBelow (D:=fun _=>False) hb3) (fun x=>x));have SB3:=hideC (B.below SB.out hb3 (B.isLt SB.out));have v0 : w3.cell? ⟨wr.heap.size,0,none⟩ = some (.bool lv):=B.cell SB3.out 0 rfl;have v1 : w3.cell? ⟨wr.heap.size,1,none⟩ = some (.slice aa na ca):=B.cell SB3.out 1 rfl;have v2 : w3.cell? ⟨wr.heap.size,2,none⟩ = some (.slice ap ne cp):=B.cell SB3.out 2 rfl;clear hb3)
         exact HX.out _ HB3.out HSN2.out
        | true =>
         cases EB with
         | false =>
          have HX:=hideC (HNO3.out)
          have HSN2 : Hid (KM.spsB hs ss (List.replicate fs.length KM.us0,List.replicate ls.length KM.us0) (k + 1) = false):=HSN
          clear HSN
          go_wp2_with (first | (go_at_call 111;refine HRS.out.mono ?_;rintro e w3 ⟨rfl,hb3⟩;have HB3:=hideC (add_below HBA.out hb3);have M3:=hideC (B.below MA.out hb3 (B.isLt MA.out));have KB3:=hideC (B.below KA.out hb3 (B.isLt KA.out));have O3:=hideC (OA.out.kp (Kp.ofBelow (D:=fun _=>False) hb3) (fun x=>x));have S3:=hideC (OB.out.kp (Kp.ofBelow (D:=fun _=>False) hb3) (fun x=>x));have SB3:=hideC (B.below SB.out hb3 (B.isLt SB.out));have v0 : w3.cell? ⟨wr.heap.size,0,none⟩ = some (.bool lv):=B.cell SB3.out 0 rfl;have v1 : w3.cell? ⟨wr.heap.size,1,none⟩ = some (.slice aa na ca):=B.cell SB3.out 1 rfl;have v2 : w3.cell? ⟨wr.heap.size,2,none⟩ = some (.slice ap ne cp):=B.cell SB3.out 2 rfl;clear hb3) | (go_at_call 112;refine (HRE.out _ HB3.out O3.out S3.out).mono ?_;rintro e w4 ⟨rfl,hk4,ho4⟩;have HB4:=hideC (hk4.below HB3.out HB3.out.size (fun b hb=>(by omega)));have M4:=hideC (hk4.keep M3.out (by omega));have KB4:=hideC (hk4.keep KB3.out (by omega));have HO4:=hideC ho4;clear hk4 ho4))
          exact HX.out _ HB4.out HSN2.out
         | true =>
          have HSN2 : Hid (KM.spsB hs ss (List.replicate fs.length KM.us0,List.replicate ls.length KM.us0) (k + 1) = true):=HSN
          clear HSN HNO3
          go_wp2_with (first | (go_at_call 111;refine HRS.out.mono ?_;rintro e w3 ⟨rfl,hb3⟩;have HB3:=hideC (add_below HBA.out hb3);have M3:=hideC (B.below MA.out hb3 (B.isLt MA.out));have KB3:=hideC (B.below KA.out hb3 (B.isLt KA.out));have O3:=hideC (OA.out.kp (Kp.ofBelow (D:=fun _=>False) hb3) (fun x=>x));have S3:=hideC (OB.out.kp (Kp.ofBelow (D:=fun _=>False) hb3) (fun x=>x));have SB3:=hideC (B.below SB.out hb3 (B.isLt SB.out));have v0 : w3.cell? ⟨wr.heap.size,0,none⟩ = some (.bool lv):=B.cell SB3.out 0 rfl;have v1 : w3.cell? ⟨wr.heap.size,1,none⟩ = some (.slice aa na ca):=B.cell SB3.out 1 rfl;have v2 : w3.cell? ⟨wr.heap.size,2,none⟩ = some (.slice ap ne cp):=B.cell SB3.out 2 rfl;clear hb3) | (go_at_call 112;refine (HRE.out _ HB3.out O3.out S3.out).mono ?_;rintro e w4 ⟨rfl,hk4,ho4⟩;have HB4:=hideC (hk4.below HB3.out HB3.out.size (fun b hb=>(by omega)));have M4:=hideC (hk4.keep M3.out (by omega));have KB4:=hideC (hk4.keep KB3.out (by omega));have HO4:=hideC ho4;clear hk4 ho4))
          have HO5:=hideC (HO4.out trivial)
          rw [<- HUN.out] at HO5
          go_roundw
          case rel=>exact ⟨k + 1,by omega,by go_num,HSN2.out,HB4.out,M4.out,KB4.out,HO5.out.1,HO5.out.2⟩
          case measure=>simp [intOf];omega
      · obtain rfl : k = ss.length:=by omega
        have hlen4 : ss.length <= 4:=by omega
        have mB:=hmm
        have p1 : wr.cell? ⟨mb,1,none⟩ = some (.slice aF fs.length cF):=B.cell mB 1 rfl
        have p2 : wr.cell? ⟨mb,2,none⟩ = some (.slice aL ls.length cL):=B.cell mB 2 rfl
        have p3 : wr.cell? ⟨mb,3,none⟩ = some (.slice aP ss.length cP):=B.cell mB 3 rfl
        have hmlt:=B.isLt hmm
        have hklt:=B.isLt hkk
        have hbd:=HSB.out ss.length (Nat.le_refl _) hsb
        have HPG : Hid (∀ V,Below wr.heap.size wr V -> Calls Tryz.prog 83 #[.pointer (some ⟨mb,0,none⟩)] V fun e w'=>e = .returned (.int .i64 (KM.room ss)) /\ Below V.heap.size V w'):=fun V hV=>pages_any ss aP cP mb V (HKP.out.below (hb.trans (hV.mono hb.size))) (fun j hj=>(HFP.out j hj).areas) (by omega) ((hV.cell (p:=⟨mb,3,none⟩) hmlt).trans p3)
        have HRF : Hid (∀ V,Below wr.heap.size wr V -> Calls Tryz.prog 113 #[.pointer (some ⟨mb,0,none⟩),.slice (some ⟨gf,0,none⟩) fs.length fs.length] V fun e w'=>e = .returned (.bool ((List.range fs.length).all fun i=>KM.rightFr hs (KM.frAt fs i) (KM.usAt (KM.spsU ss (List.replicate fs.length KM.us0,List.replicate ls.length KM.us0) ss.length).1 i))) /\ Below V.heap.size V w'):=fun V hV=>rightFrames_any hs fs _ aF cF mb W.heap.size gf fs.length V (HKF.out.below (hb.trans (hV.mono hb.size))) (hof.kp (Kp.ofBelow (D:=fun _=>False) hV) (fun x=>x)) (Nat.lt_of_lt_of_le hmlt hV.size) ((hV.cell (p:=⟨mb,1,none⟩) hmlt).trans p1) (mem_fill (B.below mB hV hmlt) HRB.out.symm) (fun i hi=>HUP.out HRB.out.symm hsb i hi) (fun i hi=>(HFR.out i hi).1) (by omega)
        have HRL : Hid (∀ V,Below wr.heap.size wr V -> Calls Tryz.prog 114 #[.pointer (some ⟨mb,0,none⟩),.slice (some ⟨gs,0,none⟩) ls.length ls.length] V fun e w'=>e = .returned (.bool ((List.range ls.length).all fun i=>KM.rightSl (KM.slAt ls i) (KM.usAt (KM.spsU ss (List.replicate fs.length KM.us0,List.replicate ls.length KM.us0) ss.length).2 i))) /\ Below V.heap.size V w'):=fun V hV=>rightSlots_any ls _ aL cL mb W.heap.size gs ls.length V (HKL.out.below (hb.trans (hV.mono hb.size))) (hos.kp (Kp.ofBelow (D:=fun _=>False) hV) (fun x=>x)) ((hV.cell (p:=⟨mb,2,none⟩) hmlt).trans p2) (fun i hi=>(hbd.2.2 i hi).1) (fun i hi=>(HSL.out i hi).1) (by omega)
        have HNO4:=HNO
        have HYES4:=HYES
        rw [HRB.out.symm,HSBK.out,decide_eq_true (show 0 <= hd /\ hd < (fs.length : Int) from ⟨g1,g2⟩)] at HNO4 HYES4
        obtain ⟨RF,hRF⟩ : ∃ RF,RF = (List.range fs.length).all fun i=>KM.rightFr hs (KM.frAt fs i) (KM.usAt (KM.spsU ss (List.replicate fs.length KM.us0,List.replicate ls.length KM.us0) ss.length).1 i):=⟨_,rfl⟩
        obtain ⟨RL,hRL⟩ : ∃ RL,RL = (List.range ls.length).all fun i=>KM.rightSl (KM.slAt ls i) (KM.usAt (KM.spsU ss (List.replicate fs.length KM.us0,List.replicate ls.length KM.us0) ss.length).2 i):=⟨_,rfl⟩
        obtain ⟨RM,hRM⟩ : ∃ RM,RM = KM.room ss:=⟨_,rfl⟩
        rw [<- hRF] at HRF HNO4 HYES4
        rw [<- hRL] at HRL HNO4 HYES4
        rw [<- hRM] at HPG HNO4 HYES4
        have hkin:=Q.kin_some wr
        have k2 : ∀ x : Q.Kin wr.heap.size wr,x.world.cell? ⟨kb,2,none⟩ = some (.slice aL ls.length cL):=fun x=>by rw [Q.cell_kin x _ _ hklt];exact m2
        clear hRF hRL hRM hbd hsb hb hmm hkk hof hos HSB HSF HNO HYES HUP HKS HKF HKL HKP HFS HFR HSL HFP HKK HOF HOS HB2 HG2 BK3 OF2 OS2 m1 m3 m2 p1 p2 p3 mB HSBK
        go_upto_region 13 with fail
        by_cases c : RM <= (ls.length : Int)
        · have c2 : decide ((ls.length : Int) < RM) = false:=decide_eq_false (by omega)
          rw [decide_eq_true c] at HNO4 HYES4
          cases RF with
          | false =>
           refine Q.region_kin (by kernel_rfl) (by kernel_rfl) ?_
           repeat (first | go_big_quiet_step ((first | (go_at_call 83;exact kinC _ HPG.out) | (go_at_call 113;exact kinC _ HRF.out))) | quiet_step ((first | (go_at_call 83;exact kinC _ HPG.out) | (go_at_call 113;exact kinC _ HRF.out))))
           refine wpQuiet_nil ?_
           rintro _ ⟨x,rfl⟩
           have HBX:=hideC (HB.out.trans (x.keeps.mono HB.out.size))
           have MX:=hideC (B.below HMM.out x.keeps (B.isLt HMM.out))
           clear HPG HRF HRL k2
           go_wp2
           exact HNO4.out _ HBX.out (by simp)
          | true =>
           cases RL with
           | false =>
            refine Q.region_kin (by kernel_rfl) (by kernel_rfl) ?_
            repeat (first | go_big_quiet_step ((first | (go_at_call 83;exact kinC _ HPG.out) | (go_at_call 113;exact kinC _ HRF.out) | (go_at_call 114;exact kinC _ HRL.out))) | quiet_step ((first | (go_at_call 83;exact kinC _ HPG.out) | (go_at_call 113;exact kinC _ HRF.out) | (go_at_call 114;exact kinC _ HRL.out))))
            refine wpQuiet_nil ?_
            rintro _ ⟨x,rfl⟩
            have HBX:=hideC (HB.out.trans (x.keeps.mono HB.out.size))
            have MX:=hideC (B.below HMM.out x.keeps (B.isLt HMM.out))
            clear HPG HRF HRL k2
            go_wp2
            exact HNO4.out _ HBX.out (by simp)
           | true =>
            refine Q.region_kin (by kernel_rfl) (by kernel_rfl) ?_
            repeat (first | go_big_quiet_step ((first | (go_at_call 83;exact kinC _ HPG.out) | (go_at_call 113;exact kinC _ HRF.out) | (go_at_call 114;exact kinC _ HRL.out))) | quiet_step ((first | (go_at_call 83;exact kinC _ HPG.out) | (go_at_call 113;exact kinC _ HRF.out) | (go_at_call 114;exact kinC _ HRL.out))))
            refine wpQuiet_nil ?_
            rintro _ ⟨x,rfl⟩
            have HBX:=hideC (HB.out.trans (x.keeps.mono HB.out.size))
            have MX:=hideC (B.below HMM.out x.keeps (B.isLt HMM.out))
            clear HPG HRF HRL k2
            go_wp2
            exact HYES4.out _ mb HBX.out (by simp) hwmb MX.out
        · have c2 : decide ((ls.length : Int) < RM) = true:=decide_eq_true (by omega)
          rw [decide_eq_false c] at HNO4
          refine Q.region_kin (by kernel_rfl) (by kernel_rfl) ?_
          repeat (first | go_big_quiet_step ((go_at_call 83;exact kinC _ HPG.out)) | quiet_step ((go_at_call 83;exact kinC _ HPG.out)))
          refine wpQuiet_nil ?_
          rintro _ ⟨x,rfl⟩
          have HBX:=hideC (HB.out.trans (x.keeps.mono HB.out.size))
          have MX:=hideC (B.below HMM.out x.keeps (B.isLt HMM.out))
          clear HPG HRF HRL k2
          go_wp2
          exact HNO4.out _ HBX.out (by simp)
set_option maxHeartbeats 4000000 in
theorem look_bad (k : KM.Kn) (a : KAt) (w : World) (hc : KM.counts k = false) : Calls Tryz.prog 62 #[.agg (cellsK a k)] w (OutLook w a k):=by
 have hcc:=of_decide_eq_false hc
 have HNO : Hid (∀ w',Below w.heap.size w w' -> OutLook w a k (.returned (.tuple #[.pointer none,.int .i64 2])) w'):=fun w' hb=>by
  have e : KM.checkK k = 2:=by unfold KM.checkK;rw [if_pos hc]
  exact ⟨hb,.inr ⟨by rw [e];decide,by rw [e]⟩⟩
 obtain ⟨P,hP⟩ : ∃ P,P = OutLook w a k:=⟨_,rfl⟩
 rw [<- hP] at HNO ⊢
 clear hP
 unfold cellsK
 have HC : Hid (∀ V,Calls Tryz.prog 109 #[.agg #[.slice a.aS k.sheets.length a.cS,.slice a.aF k.frames.length a.cF,.slice a.aL k.slots.length a.cL,.slice a.aP k.spaces.length a.cP,.int .i64 k.hand]] V fun e w'=>e = .returned (.bool false) /\ Below V.heap.size V w'):=fun V=>by
  have:=counts_any a.aS a.aF a.aL a.aP k.sheets.length a.cS k.frames.length a.cF k.slots.length a.cL k.spaces.length a.cP (.int .i64 k.hand) V
  rw [decide_eq_false hcc] at this
  exact this
 obtain ⟨aS,cS,aF,cF,aL,cL,aP,cP⟩:=a
 obtain ⟨hs,fs,ls,ss,hd⟩:=k
 simp only at HC ⊢
 have HB00:=hideC ((Below.refl w.heap.size w).alloc (Nat.le_refl _) (.cells #[.slice aS hs.length cS,.slice aF fs.length cF,.slice aL ls.length cL,.slice aP ss.length cP,.int .i64 hd] 27))
 clear hc hcc
 go_enter Tryz.func62,Tryz.ntmps62
 go_wp2_with (go_at_call 109;refine (HC.out _).mono ?_;rintro e w1 ⟨rfl,hb1⟩;have HB01:=hideC (add_below HB00.out hb1);clear hb1)
 exact HNO.out _ HB01.out
theorem look_any (k : KM.Kn) (a : KAt) (w : World) (hK : HasK w a k) (hF : FitK k) : Calls Tryz.prog 62 #[.agg (cellsK a k)] w (OutLook w a k):=by
 cases hc : KM.counts k with
 | true=>exact look_fine k a w hK hF hc
 | false=>exact look_bad k a w hc
set_option maxHeartbeats 4000000 in
theorem check_any (k : KM.Kn) (a : KAt) (w : World) (hK : HasK w a k) (hF : FitK k) : Calls Tryz.prog 24 #[.agg (cellsK a k)] w fun e w'=>e = .returned (.int .i64 (KM.checkK k)) /\ Below w.heap.size w w':=by
 have HL : Hid (∀ V,Below w.heap.size w V -> Calls Tryz.prog 62 #[.agg (cellsK a k)] V fun e w'=>∃ v,e = .returned (.tuple #[v,.int .i64 (KM.checkK k)]) /\ Below V.heap.size V w'):=fun V hV=>(look_any k a V (hK.below hV) hF).mono fun e w' ⟨hb,h⟩=>by
  rcases h with ⟨h0,mb,he,_,_⟩ | ⟨_,he⟩
  · exact ⟨_,by rw [he,h0],hb⟩
  · exact ⟨_,he,hb⟩
 obtain ⟨C,hC⟩ : ∃ C,C = KM.checkK k:=⟨_,rfl⟩
 rw [<- hC] at HL ⊢
 unfold cellsK at HL ⊢
 obtain ⟨aS,cS,aF,cF,aL,cL,aP,cP⟩:=a
 obtain ⟨hs,fs,ls,ss,hd⟩:=k
 simp only at HL ⊢
 clear hC hK hF
 have HB00:=hideC ((Below.refl w.heap.size w).alloc (Nat.le_refl _) (.cells #[.slice aS hs.length cS,.slice aF fs.length cF,.slice aL ls.length cL,.slice aP ss.length cP,.int .i64 hd] 27))
 go_enter Tryz.func24,Tryz.ntmps24
 go_wp2_with (go_at_call 62;refine (HL.out _ HB00.out).mono ?_;rintro e w1 ⟨v,rfl,hb1⟩;have HB1:=hideC (add_below HB00.out hb1);clear hb1)
 go_ret
 exact ⟨rfl,HB1.out⟩
def liveK (k : KM.Kn) (sp : Int) : Int:=if KM.checkK k = 0 then (if 0 <= sp /\ sp < (k.spaces.length : Int) /\ (KM.spAt k.spaces sp.toNat).live = true then 0 else 6) else KM.checkK k
def memK (a : KAt) (k : KM.Kn) : Array Value:=memC (.slice a.aS k.sheets.length a.cS) (.slice a.aF k.frames.length a.cF) (.slice a.aL k.slots.length a.cL) (.slice a.aP k.spaces.length a.cP) (.int .i64 k.hand) (fillG k.sheets k.sheets.length)
def OutOpen (w : World) (a : KAt) (k : KM.Kn) (c : Int) (e : Ending) (w' : World) : Prop:=Below w.heap.size w w' /\ ((c = 0 /\ ∃ mb,e = .returned (.tuple #[.pointer (some ⟨mb,0,none⟩),.int .i64 0]) /\ w.heap.size <= mb /\ w'.heap[mb]? = some (.cells (memK a k) 104 (0,0))) ∨ (c ≠ 0 /\ e = .returned (.tuple #[.pointer none,.int .i64 c])))
set_option maxHeartbeats 8000000 in
theorem open_any (k : KM.Kn) (a : KAt) (sp : Int) (w : World) (hK : HasK w a k) (hF : FitK k) (hsp : M.I64 sp) : Calls Tryz.prog 69 #[.agg (cellsK a k),.int .i64 sp] w (OutOpen w a k (liveK k sp)):=by
 have HL:=hideC (fun V (hV : Below w.heap.size w V)=>look_any k a V (hK.below hV) hF)
 have HE : Hid (∀ V c,Below w.heap.size w V -> liveK k sp = c -> c ≠ 0 -> OutOpen w a k (liveK k sp) (.returned (.tuple #[.pointer none,.int .i64 c])) V):=fun V c hV e hc=>⟨hV,.inr ⟨by rw [e];exact hc,by rw [e]⟩⟩
 have HY : Hid (∀ V mb,Below w.heap.size w V -> liveK k sp = 0 -> w.heap.size <= mb -> V.heap[mb]? = some (.cells (memK a k) 104 (0,0)) -> OutOpen w a k (liveK k sp) (.returned (.tuple #[.pointer (some ⟨mb,0,none⟩),.int .i64 0])) V):=fun V mb hV e hm hh=>⟨hV,.inl ⟨e,mb,rfl,hm,hh⟩⟩
 obtain ⟨P,hP⟩ : ∃ P,P = OutOpen w a k (liveK k sp):=⟨_,rfl⟩
 rw [<- hP] at HE HY ⊢
 clear hP
 have HHP:=hideC hK.spaces
 have HKB:=hideC (B.new w (cellsK a k) 27)
 have HB0:=hideC ((Below.refl w.heap.size w).alloc (Nat.le_refl _) (.cells (cellsK a k) 27))
 have HLK : Hid (liveK k sp = if KM.checkK k = 0 then (if 0 <= sp /\ sp < (k.spaces.length : Int) /\ (KM.spAt k.spaces sp.toNat).live = true then 0 else 6) else KM.checkK k):=rfl
 have HN4 : Hid (KM.checkK k = 0 -> k.spaces.length <= 4):=fun h=>((KM.check_iff k).1 h).c.2.2.1.2
 clear hK hF
 by_cases hc : KM.checkK k = 0
 · have HL2 : Hid (∀ V,Below w.heap.size w V -> Calls Tryz.prog 62 #[.agg (cellsK a k)] V fun e w'=>∃ mb,e = .returned (.tuple #[.pointer (some ⟨mb,0,none⟩),.int .i64 0]) /\ w.heap.size <= mb /\ w'.heap[mb]? = some (.cells (memK a k) 104 (0,0)) /\ Below V.heap.size V w'):=fun V hV=>(HL.out V hV).mono fun e w' ⟨hb,h⟩=>by
    rcases h with ⟨_,mb,h1,h2,h3⟩ | ⟨h1,_⟩
    · exact ⟨mb,h1,Nat.le_trans hV.size h2,h3,hb⟩
    · exact absurd hc h1
   have hn4:=HN4.out hc
   have HLK2 : Hid (liveK k sp = if 0 <= sp /\ sp < (k.spaces.length : Int) /\ (KM.spAt k.spaces sp.toNat).live = true then 0 else 6):=by show _ = _;rw [HLK.out,if_pos hc]
   clear HL HLK hc HN4
   unfold cellsK at HL2 HKB HB0 ⊢
   obtain ⟨aS,cS,aF,cF,aL,cL,aP,cP⟩:=a
   obtain ⟨hs,fs,ls,ss,hd⟩:=k
   simp only at HL2 HKB HB0 HHP HLK2 HY hn4 ⊢
   have CALL : True:=trivial
   rcases (show sp < 0 ∨ (0 <= sp /\ (ss.length : Int) <= sp) ∨ (0 <= sp /\ sp < (ss.length : Int)) by omega) with g | ⟨g1,g2⟩ | ⟨g1,g2⟩
   · have HX:=hideC (fun V hV=>HE.out V 6 hV (by rw [HLK2.out,if_neg (by omega)]) (by decide))
     clear HE HY HLK2 HHP
     go_enter Tryz.func69,Tryz.ntmps69
     go_wp2_with (go_at_call 62;refine (HL2.out _ HB0.out).mono ?_;rintro e w1 ⟨mb,rfl,hm1,hm2,hb1⟩;have HB1:=hideC (add_below HB0.out hb1);have K1:=hideC (B.below HKB.out hb1 (by simp));have c3 : w1.cell? ⟨w.heap.size,3,none⟩ = some (.slice aP ss.length cP):=B.cell K1.out 3 rfl;clear hb1 hm2)
     exact HX.out _ HB1.out
   · have HX:=hideC (fun V hV=>HE.out V 6 hV (by rw [HLK2.out,if_neg (by omega)]) (by decide))
     clear HE HY HLK2 HHP
     go_enter Tryz.func69,Tryz.ntmps69
     go_wp2_with (go_at_call 62;refine (HL2.out _ HB0.out).mono ?_;rintro e w1 ⟨mb,rfl,hm1,hm2,hb1⟩;have HB1:=hideC (add_below HB0.out hb1);have K1:=hideC (B.below HKB.out hb1 (by simp));have c3 : w1.cell? ⟨w.heap.size,3,none⟩ = some (.slice aP ss.length cP):=B.cell K1.out 3 rfl;clear hb1 hm2)
     exact HX.out _ HB1.out
   · obtain ⟨j,rfl⟩ : ∃ j : Nat,sp = (j : Int):=⟨sp.toNat,by omega⟩
     obtain ⟨pb,po,hao,hbl,hlie⟩:=HHP.out (by omega)
     subst hao
     obtain ⟨va,ap,cp,y0,_,_,_,_,_⟩:=hlie j (by omega)
     rw [Int.toNat_natCast] at HLK2
     obtain ⟨lv,hlv⟩ : ∃ lv,lv = (KM.spAt ss j).live:=⟨_,rfl⟩
     rw [<- hlv] at y0 HLK2
     clear hlv hlie HHP
     cases lv with
     | false =>
      have HX:=hideC (fun V hV=>HE.out V 6 hV (by rw [HLK2.out,if_neg (by simp)]) (by decide))
      clear HE HY HLK2
      go_enter Tryz.func69,Tryz.ntmps69
      go_wp2_with (go_at_call 62;refine (HL2.out _ HB0.out).mono ?_;rintro e w1 ⟨mb,rfl,hm1,hm2,hb1⟩;have HB1:=hideC (add_below HB0.out hb1);have K1:=hideC (B.below HKB.out hb1 (by simp));have c3 : w1.cell? ⟨w.heap.size,3,none⟩ = some (.slice (some ⟨pb,po,none⟩) ss.length cP):=B.cell K1.out 3 rfl;have l0 : w1.cell? ⟨pb,po + j * 3,none⟩ = some (.bool false):=(HB1.out.cell (p:=⟨pb,po + j * 3,none⟩) hbl).trans y0;clear hb1 hm2)
      exact HX.out _ HB1.out
     | true =>
      have HX:=hideC (fun V mb hV hm hh=>HY.out V mb hV (by rw [HLK2.out,if_pos ⟨g1,g2,rfl⟩]) hm hh)
      clear HE HY HLK2
      go_enter Tryz.func69,Tryz.ntmps69
      go_wp2_with (go_at_call 62;refine (HL2.out _ HB0.out).mono ?_;rintro e w1 ⟨mb,rfl,hm1,hm2,hb1⟩;have HM2:=hideC hm2;have HB1:=hideC (add_below HB0.out hb1);have K1:=hideC (B.below HKB.out hb1 (by simp));have c3 : w1.cell? ⟨w.heap.size,3,none⟩ = some (.slice (some ⟨pb,po,none⟩) ss.length cP):=B.cell K1.out 3 rfl;have l0 : w1.cell? ⟨pb,po + j * 3,none⟩ = some (.bool true):=(HB1.out.cell (p:=⟨pb,po + j * 3,none⟩) hbl).trans y0;clear hb1 hm2)
      exact HX.out _ mb HB1.out hm1 HM2.out
 · have HL2 : Hid (∀ V,Below w.heap.size w V -> Calls Tryz.prog 62 #[.agg (cellsK a k)] V fun e w'=>e = .returned (.tuple #[.pointer none,.int .i64 (KM.checkK k)]) /\ Below V.heap.size V w'):=fun V hV=>(HL.out V hV).mono fun e w' ⟨hb,h⟩=>by
    rcases h with ⟨h1,_⟩ | ⟨_,h1⟩
    · exact absurd h1 hc
    · exact ⟨h1,hb⟩
   have HX:=hideC (fun V hV=>HE.out V (KM.checkK k) hV (by rw [HLK.out,if_neg hc]) hc)
   obtain ⟨C,hC⟩ : ∃ C,C = KM.checkK k:=⟨_,rfl⟩
   rw [<- hC] at HL2 HX hc
   have cb : (C != 0) = true:=by simpa using hc
   clear HL HLK hC HE HY HN4 HHP
   unfold cellsK at HL2 HKB HB0 ⊢
   obtain ⟨aS,cS,aF,cF,aL,cL,aP,cP⟩:=a
   obtain ⟨hs,fs,ls,ss,hd⟩:=k
   simp only at HL2 HKB HB0 ⊢
   clear hc
   go_enter Tryz.func69,Tryz.ntmps69
   go_wp2_with (go_at_call 62;refine (HL2.out _ HB0.out).mono ?_;rintro e w1 ⟨rfl,hb1⟩;have HB1:=hideC (add_below HB0.out hb1);clear hb1)
   exact HX.out _ HB1.out
set_option maxHeartbeats 4000000 in
theorem entry1_any (p : Int) (e : KM.En) (x : Nat) (w : World) (hx : w.cell? ⟨x,0,none⟩ = some (.int .i64 p)) :
  Calls Tryz.prog 154 #[.agg #[.int .i64 e.page,.int .i64 e.kind,.int .i64 e.loc],.pointer (some ⟨x,0,none⟩)] w fun r w'=>r = .returned (.bool (decide (e.page = p))) /\ Below w.heap.size w w':=by
 obtain ⟨pg,kd,lc⟩:=e
 simp only
 have hxl : x < w.heap.size:=World.block_lt_of_cell? w _ hx
 have xA : (w.alloc (.cells #[.int .i64 pg,.int .i64 kd,.int .i64 lc] 45)).cell? ⟨x,0,none⟩ = some (.int .i64 p):=(Below.cell ((Below.refl w.heap.size w).alloc (Nat.le_refl _) _) (p:=⟨x,0,none⟩) hxl).trans hx
 obtain ⟨A,hA⟩ : ∃ A,A = decide (pg = p):=⟨_,rfl⟩
 have HA : Hid ((pg == p) = A):=by show _ = _;rw [hA];rfl
 rw [<- hA]
 clear hA
 have ha:=HA.out
 clear HA
 go_enter Tryz.func154,Tryz.ntmps154
 go_wp2
 go_ret
 exact ⟨by simp,(Below.refl _ _).alloc (Nat.le_refl _) _⟩
set_option maxHeartbeats 8000000 in
theorem ixE_any (F : FuncId) (hF : F = 154 ∨ F = 191 ∨ F = 202) (P : KM.En -> Bool) (es : List KM.En) (ao : Option Addr) (cap x : Nat) (w : World) (h : HasRow cellEn 3 KM.en0 w ao es) (hl : es.length <= 1000000)
  (hC : ∀ V e,Below w.heap.size w V -> Calls Tryz.prog F #[.agg #[.int .i64 e.page,.int .i64 e.kind,.int .i64 e.loc],.pointer (some ⟨x,0,none⟩)] V fun r w'=>r = .returned (.bool (P e)) /\ Below V.heap.size V w') :
  Calls Tryz.prog 153 #[.slice ao es.length cap,.func (.func F) #[] #[.pointer (some ⟨x,0,none⟩)]] w fun e w' =>
   Below w.heap.size w w' /\ ((e = .returned (.int .i64 (-1)) /\ ∀ j,j < es.length -> P (KM.enAt es j) = false) ∨ ∃ i : Nat,i < es.length /\ e = .returned (.int .i64 (i : Int)) /\ P (KM.enAt es i) = true /\ ∀ j,j < i -> P (KM.enAt es j) = false):=by
 have HH:=hideC h
 have HC:=hideC hC
 clear h hC
 rcases hF with rfl | rfl | rfl
 all_goals
  go_enter Tryz.func153,Tryz.ntmps153
  go_wp2
  go_loopw [8] (fun iv wr=>∃ k : Nat,k <= es.length /\ iv = .int .i64 (k : Int) /\ (∀ j,j < k -> P (KM.enAt es j) = false) /\ Below w.heap.size w wr) (fun iv _=>es.length - (intOf iv).toNat)
  case atStart=>exact ⟨0,by omega,rfl,fun j hj=>by omega,Below.refl _ _⟩
  case round =>
   obtain ⟨k,hk,rfl,hno,hb⟩:=hrel
   have HNO:=hideC hno
   have HB:=hideC hb
   clear hno
   by_cases hlt : k < es.length
   · have hki : (k : Int) < (es.length : Int):=by omega
     obtain ⟨eb,eo,hao,hbl,hlie⟩:=HH.out (by omega)
     subst hao
     have y0:=(hb.cell (p:=⟨eb,eo + k * 3 + 0,none⟩) hbl).trans (hlie k hlt 0 (by omega))
     have y1:=(hb.cell (p:=⟨eb,eo + k * 3 + 1,none⟩) hbl).trans (hlie k hlt 1 (by omega))
     have y2:=(hb.cell (p:=⟨eb,eo + k * 3 + 2,none⟩) hbl).trans (hlie k hlt 2 (by omega))
     rw [Nat.add_zero] at y0
     have HC2:=hideC (HC.out wr (KM.enAt es k) hb)
     obtain ⟨G,hG⟩ : ∃ G,G = P (KM.enAt es k):=⟨_,rfl⟩
     rw [<- hG] at HC2
     have HG:=hideC hG
     obtain ⟨E,hE⟩ : ∃ E,E = KM.enAt es k:=⟨_,rfl⟩
     have x0 : wr.cell? ⟨eb,eo + k * 3,none⟩ = some (.int .i64 E.page):=by rw [hE];exact y0
     have x1 : wr.cell? ⟨eb,eo + k * 3 + 1,none⟩ = some (.int .i64 E.kind):=by rw [hE];exact y1
     have x2 : wr.cell? ⟨eb,eo + k * 3 + 2,none⟩ = some (.int .i64 E.loc):=by rw [hE];exact y2
     rw [<- hE] at HC2
     clear hG hE hb y0 y1 y2 hlie
     cases G with
     | true =>
      go_wp2_with ((first | go_at_call 154 | go_at_call 191 | go_at_call 202);refine HC2.out.mono ?_;rintro e w1 ⟨rfl,hb1⟩;have HB1:=hideC (HB.out.trans (hb1.mono HB.out.size));clear hb1)
      go_ret
      exact ⟨HB1.out,.inr ⟨k,hlt,rfl,HG.out.symm,HNO.out⟩⟩
     | false =>
      go_wp2_with ((first | go_at_call 154 | go_at_call 191 | go_at_call 202);refine HC2.out.mono ?_;rintro e w1 ⟨rfl,hb1⟩;have HB1:=hideC (HB.out.trans (hb1.mono HB.out.size));clear hb1)
      go_roundw
      case rel=>exact ⟨k + 1,by omega,by go_num,fun j hj=>by
       by_cases q : j = k
       · subst q;exact HG.out.symm
       · exact HNO.out j (by omega),HB1.out⟩
      case measure=>simp [intOf];omega
   · obtain rfl : k = es.length:=by omega
     clear hb
     go_wp2
     go_ret
     exact ⟨HB.out,.inl ⟨rfl,HNO.out⟩⟩
end KW
end Go.Proofs.YtpgifpeohlllfaaGreat
