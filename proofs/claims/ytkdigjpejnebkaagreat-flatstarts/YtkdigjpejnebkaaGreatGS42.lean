import Derived.Test.YtkdigjpejnebkaaGreatGS40
import Derived.Test.YtkdigjpejnebkaaGreatGS41
import Derived.Test.YtkdigjpejnebkaaGreatGS21
import Derived.Test.YtkdigjpejnebkaaGreatGS03
import Derived.Test.YtkdigjpejnebkaaGreatChecked
import Derived.Deep.Slices
import Derived.ProofKit
import Derived.SizedLaws
import Derived.Test.YtkdigjpejnebkaaGreatGS06
import Derived.Test.YtkdigjpejnebkaaGreatGS19
set_option linter.unusedVariables false
set_option maxRecDepth 100000
set_option linter.unusedSimpArgs false
namespace Go.Proofs.YtkdigjpejnebkaaGreat
namespace GT
open Go.RowKit GK GH
open FW (hideC add_below)
theorem new_fit {l : List AM.Ar} {hs : List LM.Sh} {en slots : Int} (hf : AW.AllFit l) (hfs : LM.FitHs hs) (hsl : M.I64 slots) : FW.FitFl (newF l hs en slots).1:=by
 have h0 : FW.FitFl fl0:=⟨by unfold M.I64 fl0;decide,⟨by unfold M.Short fl0;simp,fun k hk=>absurd hk (Nat.not_lt_zero _)⟩,by unfold M.Short fl0;simp,by unfold M.Short fl0;simp⟩
 unfold newF
 by_cases c : LM.checkL l hs en = 0
 · rw [if_neg (fun g=>g c)]
   by_cases d : 0 <= slots /\ slots <= 512
   · rw [if_neg (fun g=>g d)]
     by_cases e : slots < AM.totalN l
     · rw [if_pos e];exact h0
     · rw [if_neg e]
       obtain ⟨_,_,hk3⟩:=check_parts c
       refine ⟨hsl,⟨by unfold M.Short;show (1 : Nat) <= _;decide,fun k hk=>?_⟩,by unfold M.Short;show (1 : Nat) <= _;decide,by unfold M.Short;show (0 : Nat) <= _;decide⟩
       obtain rfl : k = 0:=by have : k < 1:=hk;omega
       have hlen : (hs.map pgOf).length = hs.length:=List.length_map _
       refine ⟨hf,by show (hs.map pgOf).length <= _;rw [hlen];exact hfs.1,fun j hj=>?_⟩
       have hj' : j < hs.length:=by have : j < (hs.map pgOf).length:=hj;omega
       have ej : FM.pgAt (hs.map pgOf) j = pgOf (LM.shAt hs j):=by
        unfold FM.pgAt LM.shAt
        rw [List.getD_eq_getElem?_getD,List.getElem?_map,List.getD_eq_getElem?_getD,List.getElem?_eq_getElem hj']
        rfl
       show M.I64 (FM.pgAt (hs.map pgOf) j).page /\ M.Short (FM.pgAt (hs.map pgOf) j).data.size
       rw [ej]
       refine ⟨(hfs.2 j hj').page,?_⟩
       have:=fill_size (hk3 j hj')
       show (LM.fillN (LM.shAt hs j)).1.size <= _
       rw [this]
       decide
   · rw [if_pos d];exact h0
 · rw [if_pos c];exact h0
theorem new_cases (l : List AM.Ar) (hs : List LM.Sh) (en slots : Int) : (¬ (newF l hs en slots).2 = 0 /\ (newF l hs en slots).1 = fl0) ∨ ((newF l hs en slots).2 = 0 /\ LM.checkL l hs en = 0 /\ (newF l hs en slots).1 = ⟨slots,[⟨true,l,hs.map pgOf⟩],[FW.beginN en],[]⟩):=by
 unfold newF
 by_cases c : LM.checkL l hs en = 0
 · rw [if_neg (fun g=>g c)]
   by_cases d : 0 <= slots /\ slots <= 512
   · rw [if_neg (fun g=>g d)]
     by_cases e : slots < AM.totalN l
     · rw [if_pos e];exact .inl ⟨by decide,rfl⟩
     · rw [if_neg e];exact .inr ⟨rfl,c,rfl⟩
   · rw [if_pos d];exact .inl ⟨by decide,rfl⟩
 · rw [if_pos c];exact .inl ⟨c,rfl⟩
set_option maxHeartbeats 8000000 in
theorem starts_any (l : List AM.Ar) (hs : List LM.Sh) (en slots : Int) (aa ah : Option Addr) (na ca ch : Nat) (f : FM.Fl) (az ar ao : Option Addr) (cs cr co : Nat) (w : World) (ha : AW.Has w (.slice aa na ca) l) (hf : AW.AllFit l) (h : LM.HasH w ah hs) (hfs : LM.FitHs hs) (hcap : hs.length <= ch) (he : M.I64 en) (hsl : M.I64 slots)
  (hF : FW.HasFl w f az ar ao) (hfF : FW.FitFl f)
  (hck : ∀ V,Below w.heap.size w V -> Calls Tryz.prog 13 #[.agg (FW.flCells f az ar ao cs cr co)] V fun e w'=>e = .returned (.int .i64 (FM.checkF f)) /\ Below V.heap.size V w')
  (hbg : ∀ V,Calls Tryz.prog 10 #[] V fun e w'=>e = .returned (.bool true) /\ Below V.heap.size V w') :
  Calls Tryz.prog 3 #[.agg #[.slice aa na ca,.slice ah hs.length ch,.int .i64 en],.int .i64 slots,.agg (FW.flCells f az ar ao cs cr co)] w fun e w'=>e = .returned (.bool true) /\ Below w.heap.size w w':=by
 have HNW:=hideC (fun V (hV : Below w.heap.size w V)=>new_any l hs en slots aa ah na ca ch V (ha.below hV) hf (h.below hV) hfs hcap he)
 have HER:=hideC (fun V (hV : Below w.heap.size w V)=>GR.flatError_any l hs en slots aa ah na ca ch V (ha.below hV) hf (h.below hV) hfs he)
 have HNF:=hideC (fun (g : LM.checkL l hs en = 0) V (hV : Below w.heap.size w V)=>GR.newFlat_any l hs en slots aa ah na ca ch V (ha.below hV) (h.below hV) hfs g)
 have HCK:=hideC (fun V (hV : Below w.heap.size w V)=>FW.check_any f az ar ao cs cr co V (hF.below hV) hfF)
 have HCR:=hideC hck
 have HBG:=hideC hbg
 have HFT:=hideC (new_fit (en:=en) hf hfs hsl)
 have HCS:=hideC (new_cases l hs en slots)
 obtain ⟨R,hR⟩ : ∃ R,R = newF l hs en slots:=⟨_,rfl⟩
 rw [<- hR] at HNW HER HFT HCS
 obtain ⟨C,hC⟩ : ∃ C,C = FM.checkF f:=⟨_,rfl⟩
 rw [<- hC] at HCK HCR
 unfold FW.flCells at HCK HCR ⊢
 obtain ⟨ns,hns⟩ : ∃ ns,ns = f.spaces.length:=⟨_,rfl⟩
 obtain ⟨nr,hnr⟩ : ∃ nr,nr = f.procs.length:=⟨_,rfl⟩
 obtain ⟨no,hno⟩ : ∃ no,no = f.out.length:=⟨_,rfl⟩
 obtain ⟨sl,hsl2⟩ : ∃ sl,sl = f.slots:=⟨_,rfl⟩
 rw [<- hns,<- hnr,<- hno,<- hsl2] at HCK HCR ⊢
 obtain ⟨n,hn⟩ : ∃ n,n = hs.length:=⟨_,rfl⟩
 rw [<- hn] at HNW HER HNF ⊢
 clear ha hf h hfs hcap he hF hfF hck hbg hR hC hns hnr hno hsl2 hn hsl
 have HBA:=hideC (((Below.refl w.heap.size w).alloc (Nat.le_refl _) (.cells #[.slice aa na ca,.slice ah n ch,.int .i64 en] 25)).alloc (by simp) (.cells #[.int .i64 sl,.slice az ns cs,.slice ar nr cr,.slice ao no co] 30))
 have XA:=hideC (B.alloc (B.new w #[.slice aa na ca,.slice ah n ch,.int .i64 en] 25) (.cells #[.int .i64 sl,.slice az ns cs,.slice ar nr cr,.slice ao no co] 30))
 have YA:=hideC (newS w (.cells #[.slice aa na ca,.slice ah n ch,.int .i64 en] 25) #[.int .i64 sl,.slice az ns cs,.slice ar nr cr,.slice ao no co] 30)
 go_enter Tryz.func3,Tryz.ntmps3
 go_wp2_with fail
 obtain ⟨WA,hWA⟩ : ∃ WA,WA = (w.alloc (.cells #[.slice aa na ca,.slice ah n ch,.int .i64 en] 25)).alloc (.cells #[.int .i64 sl,.slice az ns cs,.slice ar nr cr,.slice ao no co] 30):=⟨_,rfl⟩
 rw [<- hWA] at HBA XA YA ⊢
 obtain ⟨x,hx⟩ : ∃ x,x = w.heap.size:=⟨_,rfl⟩
 obtain ⟨y,hy⟩ : ∃ y,y = w.heap.size + 1:=⟨_,rfl⟩
 rw [<- hy] at YA ⊢
 rw [<- hx] at XA ⊢
 clear hx hy hWA
 go_at_call 7
 refine (HNW.out _ HBA.out).mono ?_
 rintro e w1 ⟨a1,c1,a2,c2,a3,c3,rfl,hfl,hb1⟩
 have HFL:=hideC hfl
 have HB1:=hideC (HBA.out.trans (hb1.mono HBA.out.size))
 have hs1:=hb1.size
 have X1:=hideC (B.below XA.out hb1 (B.isLt XA.out))
 have Y1:=hideC (B.below YA.out hb1 (B.isLt YA.out))
 unfold FW.flCells
 have HSF : Hid (∀ V b1 b2 b3 d1 d2 d3,FW.HasFl V R.1 a1 a2 a3 -> FW.HasFl V R.1 b1 b2 b3 -> Calls Tryz.prog 11 #[.agg #[.int .i64 R.1.slots,.slice a1 R.1.spaces.length c1,.slice a2 R.1.procs.length c2,.slice a3 R.1.out.length c3],.agg #[.int .i64 R.1.slots,.slice b1 R.1.spaces.length d1,.slice b2 R.1.procs.length d2,.slice b3 R.1.out.length d3]] V fun e w'=>e = .returned (.bool true) /\ Below V.heap.size V w'):=fun V b1 b2 b3 d1 d2 d3 h1 h2=>FW.sameFlats_yes R.1 a1 a2 a3 b1 b2 b3 c1 c2 c3 d1 d2 d3 V h1 h2 HFT.out
 have HF1 : Hid (∀ V,Below w1.heap.size w1 V -> FW.HasFl V R.1 a1 a2 a3):=fun V hV=>HFL.out V (Kp.ofBelow hV)
 clear hfl hb1 HNW HBA XA YA HFT
 rcases HCS.out with ⟨hne,hr⟩ | ⟨heq,hck0,hr⟩
 · -- an error
   rw [hr] at HF1 HSF ⊢
   have HSG : Hid (∀ V,Below w1.heap.size w1 V -> Calls Tryz.prog 11 #[.agg #[.int .i64 0,.slice a1 0 c1,.slice a2 0 c2,.slice a3 0 c3],.agg #[.int .i64 0,.slice none 0 0,.slice none 0 0,.slice none 0 0]] V fun e w'=>e = .returned (.bool true) /\ Below V.heap.size V w'):=fun V hV=>HSF.out V none none none 0 0 0 (HF1.out V hV) (has_fl0 V)
   obtain ⟨E,hE⟩ : ∃ E,E = R.2:=⟨_,rfl⟩
   rw [<- hE] at HER hne ⊢
   have hEi : (E == 0) = false:=by rw [beq_eq_false_iff_ne];exact hne
   have e0 : (fl0.slots : Int) = 0:=rfl
   have e1 : fl0.spaces.length = 0:=rfl
   have e2 : fl0.procs.length = 0:=rfl
   have e3 : fl0.out.length = 0:=rfl
   rw [e0,e1,e2,e3]
   clear hE HNF HFL HSF HCS e0 e1 e2 e3 hr
   have xx0 : w1.cell? ⟨x,0,none⟩ = some (.slice aa na ca):=B.cell X1.out 0 rfl
   have xx1 : w1.cell? ⟨x,1,none⟩ = some (.slice ah n ch):=B.cell X1.out 1 rfl
   have xx2 : w1.cell? ⟨x,2,none⟩ = some (.int .i64 en):=B.cell X1.out 2 rfl
   have HBN:=hideC (HB1.out.alloc HB1.out.size (.cells #[.int .i64 0,.slice a1 0 c1,.slice a2 0 c2,.slice a3 0 c3] 30))
   have HKN:=hideC ((Below.refl w1.heap.size w1).alloc (Nat.le_refl _) (.cells #[.int .i64 0,.slice a1 0 c1,.slice a2 0 c2,.slice a3 0 c3] 30))
   have NN:=hideC (B.new w1 #[.int .i64 0,.slice a1 0 c1,.slice a2 0 c2,.slice a3 0 c3] 30)
   have hxl:=B.isLt X1.out
   have hxn : ¬ x = w1.heap.size:=by omega
   go_wp2_with fail
   go_at_call 8
   refine (HER.out _ HBN.out).mono ?_
   rintro e w2 ⟨rfl,hb2⟩
   have HB2:=hideC (HBN.out.trans (hb2.mono HBN.out.size))
   have HK2:=hideC (HKN.out.trans (hb2.mono HKN.out.size))
   have N2:=hideC (B.below NN.out hb2 (B.isLt NN.out))
   have Y2:=hideC (B.below Y1.out HK2.out (B.isLt Y1.out))
   clear hb2 HER HBN HKN NN xx0 xx1 xx2 HB1
   go_wp2_with fail
   have HBZ:=hideC (HB2.out.alloc HB2.out.size (.cells #[.int .i64 0,.slice none 0 0,.slice none 0 0,.slice none 0 0] 30))
   have HKZ:=hideC (HK2.out.alloc HK2.out.size (.cells #[.int .i64 0,.slice none 0 0,.slice none 0 0,.slice none 0 0] 30))
   have ZN:=hideC (B.alloc N2.out (.cells #[.int .i64 0,.slice none 0 0,.slice none 0 0,.slice none 0 0] 30))
   have ZW:=hideC (B.new w2 #[.int .i64 0,.slice none 0 0,.slice none 0 0,.slice none 0 0] 30)
   have ZY:=hideC (B.alloc Y2.out (.cells #[.int .i64 0,.slice none 0 0,.slice none 0 0,.slice none 0 0] 30))
   obtain ⟨Z,hZ⟩ : ∃ Z,Z = w2.alloc (.cells #[.int .i64 0,.slice none 0 0,.slice none 0 0,.slice none 0 0] 30):=⟨_,rfl⟩
   rw [<- hZ] at HBZ HKZ ZN ZW ZY ⊢
   obtain ⟨nb,hnb⟩ : ∃ nb,nb = w1.heap.size:=⟨_,rfl⟩
   obtain ⟨wb,hwb⟩ : ∃ wb,wb = w2.heap.size:=⟨_,rfl⟩
   rw [<- hnb] at ZN
   rw [<- hwb] at ZW
   rw [<- hnb,<- hwb]
   have HSAM : Hid (∀ V,Below Z.heap.size Z V -> Calls Tryz.prog 11 #[.agg #[.int .i64 0,.slice a1 0 c1,.slice a2 0 c2,.slice a3 0 c3],.agg #[.int .i64 0,.slice none 0 0,.slice none 0 0,.slice none 0 0]] V fun e w'=>e = .returned (.bool true) /\ Below V.heap.size V w'):=fun V hV=>HSG.out V (HKZ.out.trans (hV.mono HKZ.out.size))
   clear hZ hnb hwb HSG HF1 HB2 HK2 N2 Y2 X1 Y1 HKZ
   have hkin:=Q.kin_some Z
   have hkc:=@Q.cell_kin Z
   have lN:=B.isLt ZN.out
   have lW:=B.isLt ZW.out
   have lY:=B.isLt ZY.out
   have fn0 : ∀ x : Q.Kin Z.heap.size Z,x.world.cell? ⟨nb,0,none⟩ = some (.int .i64 0):=fun x=>(hkc x _ _ lN).trans (B.cell ZN.out 0 rfl)
   have fn1 : ∀ x : Q.Kin Z.heap.size Z,x.world.cell? ⟨nb,1,none⟩ = some (.slice a1 0 c1):=fun x=>(hkc x _ _ lN).trans (B.cell ZN.out 1 rfl)
   have fn2 : ∀ x : Q.Kin Z.heap.size Z,x.world.cell? ⟨nb,2,none⟩ = some (.slice a2 0 c2):=fun x=>(hkc x _ _ lN).trans (B.cell ZN.out 2 rfl)
   have fn3 : ∀ x : Q.Kin Z.heap.size Z,x.world.cell? ⟨nb,3,none⟩ = some (.slice a3 0 c3):=fun x=>(hkc x _ _ lN).trans (B.cell ZN.out 3 rfl)
   have fw0 : ∀ x : Q.Kin Z.heap.size Z,x.world.cell? ⟨wb,0,none⟩ = some (.int .i64 0):=fun x=>(hkc x _ _ lW).trans (B.cell ZW.out 0 rfl)
   have fw1 : ∀ x : Q.Kin Z.heap.size Z,x.world.cell? ⟨wb,1,none⟩ = some (.slice none 0 0):=fun x=>(hkc x _ _ lW).trans (B.cell ZW.out 1 rfl)
   have fw2 : ∀ x : Q.Kin Z.heap.size Z,x.world.cell? ⟨wb,2,none⟩ = some (.slice none 0 0):=fun x=>(hkc x _ _ lW).trans (B.cell ZW.out 2 rfl)
   have fw3 : ∀ x : Q.Kin Z.heap.size Z,x.world.cell? ⟨wb,3,none⟩ = some (.slice none 0 0):=fun x=>(hkc x _ _ lW).trans (B.cell ZW.out 3 rfl)
   have fy0 : ∀ x : Q.Kin Z.heap.size Z,x.world.cell? ⟨y,0,none⟩ = some (.int .i64 sl):=fun x=>(hkc x _ _ lY).trans (B.cell ZY.out 0 rfl)
   have fy1 : ∀ x : Q.Kin Z.heap.size Z,x.world.cell? ⟨y,1,none⟩ = some (.slice az ns cs):=fun x=>(hkc x _ _ lY).trans (B.cell ZY.out 1 rfl)
   have fy2 : ∀ x : Q.Kin Z.heap.size Z,x.world.cell? ⟨y,2,none⟩ = some (.slice ar nr cr):=fun x=>(hkc x _ _ lY).trans (B.cell ZY.out 2 rfl)
   have fy3 : ∀ x : Q.Kin Z.heap.size Z,x.world.cell? ⟨y,3,none⟩ = some (.slice ao no co):=fun x=>(hkc x _ _ lY).trans (B.cell ZY.out 3 rfl)
   have HBG2 : Hid (∀ x : Q.Kin Z.heap.size Z,Calls Tryz.prog 10 #[] x.world fun e w'=>e = .returned (.bool true) /\ ∃ y : Q.Kin Z.heap.size Z,w' = y.world):=fun x=>Q.calls_kin HBG.out x
   have HSA2 : Hid (∀ x : Q.Kin Z.heap.size Z,Calls Tryz.prog 11 #[.agg #[.int .i64 0,.slice a1 0 c1,.slice a2 0 c2,.slice a3 0 c3],.agg #[.int .i64 0,.slice none 0 0,.slice none 0 0,.slice none 0 0]] x.world fun e w'=>e = .returned (.bool true) /\ ∃ y : Q.Kin Z.heap.size Z,w' = y.world):=fun x=>(HSAM.out x.world x.keeps).mono fun e w'' ⟨he,hb⟩=>⟨he,⟨w'',x.keeps.trans (hb.mono x.keeps.size)⟩,rfl⟩
   have HCK2 : Hid (∀ x : Q.Kin Z.heap.size Z,Calls Tryz.prog 12 #[.agg #[.int .i64 sl,.slice az ns cs,.slice ar nr cr,.slice ao no co]] x.world fun e w'=>e = .returned (.int .i64 C) /\ ∃ y : Q.Kin Z.heap.size Z,w' = y.world):=fun x=>(HCK.out x.world (HBZ.out.trans (x.keeps.mono HBZ.out.size))).mono fun e w'' ⟨he,hb⟩=>⟨he,⟨w'',x.keeps.trans (hb.mono x.keeps.size)⟩,rfl⟩
   have HCR2 : Hid (∀ x : Q.Kin Z.heap.size Z,Calls Tryz.prog 13 #[.agg #[.int .i64 sl,.slice az ns cs,.slice ar nr cr,.slice ao no co]] x.world fun e w'=>e = .returned (.int .i64 C) /\ ∃ y : Q.Kin Z.heap.size Z,w' = y.world):=fun x=>(HCR.out x.world (HBZ.out.trans (x.keeps.mono HBZ.out.size))).mono fun e w'' ⟨he,hb⟩=>⟨he,⟨w'',x.keeps.trans (hb.mono x.keeps.size)⟩,rfl⟩
   clear hkc HBG HSAM HCK HCR ZN ZW ZY lN lW lY
   refine Q.region_kin (by kernel_rfl) (by kernel_rfl) ?_
   repeat (first | go_big_quiet_step ((first | (go_at_call 10;exact HBG2.out _) | (go_at_call 11;exact HSA2.out _) | (go_at_call 12;exact HCK2.out _) | (go_at_call 13;exact HCR2.out _))))
   refine wpQuiet_nil ?_
   intro _ hw'
   obtain ⟨x,hw''⟩:=hw'
   subst hw''
   go_wp2
   go_ret
   exact ⟨by simp,HBZ.out.trans (x.keeps.mono HBZ.out.size)⟩
 · rw [hr] at HF1 HSF HFL ⊢
   have HSG : Hid (∀ V b1 b2 d1 d2,FW.HasFl V ⟨slots,[⟨true,l,hs.map pgOf⟩],[FW.beginN en],[]⟩ a1 a2 a3 -> FW.HasFl V ⟨slots,[⟨true,l,hs.map pgOf⟩],[FW.beginN en],[]⟩ b1 b2 none -> Calls Tryz.prog 11 #[.agg #[.int .i64 slots,.slice a1 1 c1,.slice a2 1 c2,.slice a3 0 c3],.agg #[.int .i64 slots,.slice b1 1 d1,.slice b2 1 d2,.slice none 0 0]] V fun e w'=>e = .returned (.bool true) /\ Below V.heap.size V w'):=fun V b1 b2 d1 d2 h1 h2=>HSF.out V b1 b2 none d1 d2 0 h1 h2
   rw [heq] at HER ⊢
   have HNF2:=hideC (HNF.out hck0)
   obtain ⟨F,hFe⟩ : ∃ F : FM.Fl,F = ⟨slots,[⟨true,l,hs.map pgOf⟩],[FW.beginN en],[]⟩:=⟨_,rfl⟩
   have hF0 : F.slots = slots:=by rw [hFe]
   have hF1 : F.spaces.length = 1:=by rw [hFe];rfl
   have hF2 : F.procs.length = 1:=by rw [hFe];rfl
   have hF3 : F.out.length = 0:=by rw [hFe];rfl
   rw [<- hFe] at HFL HF1 HSG HNF2 ⊢
   unfold GR.OutN at HNF2
   rw [hF0] at HNF2
   rw [hF0,hF1,hF2,hF3]
   clear HNF HSF HCS hr heq hck0 hFe hF0 hF1 hF2 hF3
   have xx0 : w1.cell? ⟨x,0,none⟩ = some (.slice aa na ca):=B.cell X1.out 0 rfl
   have xx1 : w1.cell? ⟨x,1,none⟩ = some (.slice ah n ch):=B.cell X1.out 1 rfl
   have xx2 : w1.cell? ⟨x,2,none⟩ = some (.int .i64 en):=B.cell X1.out 2 rfl
   have HBN:=hideC (HB1.out.alloc HB1.out.size (.cells #[.int .i64 slots,.slice a1 1 c1,.slice a2 1 c2,.slice a3 0 c3] 30))
   have HKN:=hideC ((Below.refl w1.heap.size w1).alloc (Nat.le_refl _) (.cells #[.int .i64 slots,.slice a1 1 c1,.slice a2 1 c2,.slice a3 0 c3] 30))
   have NN:=hideC (B.new w1 #[.int .i64 slots,.slice a1 1 c1,.slice a2 1 c2,.slice a3 0 c3] 30)
   have hxl:=B.isLt X1.out
   have hxn : ¬ x = w1.heap.size:=by omega
   go_wp2_with fail
   go_at_call 8
   refine (HER.out _ HBN.out).mono ?_
   rintro e w2 ⟨rfl,hb2⟩
   have HB2:=hideC (HBN.out.trans (hb2.mono HBN.out.size))
   have HK2:=hideC (HKN.out.trans (hb2.mono HKN.out.size))
   have N2:=hideC (B.below NN.out hb2 (B.isLt NN.out))
   have Y2:=hideC (B.below Y1.out HK2.out (B.isLt Y1.out))
   have X2:=hideC (B.below X1.out HK2.out (B.isLt X1.out))
   clear hb2 HER HBN HKN NN xx0 xx1 xx2 HB1
   have HB3:=hideC (HB2.out.alloc HB2.out.size (.cells #[.int .i64 0,.slice none 0 0,.slice none 0 0,.slice none 0 0] 30))
   have HK3:=hideC (HK2.out.alloc HK2.out.size (.cells #[.int .i64 0,.slice none 0 0,.slice none 0 0,.slice none 0 0] 30))
   have N3:=hideC (B.alloc N2.out (.cells #[.int .i64 0,.slice none 0 0,.slice none 0 0,.slice none 0 0] 30))
   have V3:=hideC (B.new w2 #[.int .i64 0,.slice none 0 0,.slice none 0 0,.slice none 0 0] 30)
   have Y3:=hideC (B.alloc Y2.out (.cells #[.int .i64 0,.slice none 0 0,.slice none 0 0,.slice none 0 0] 30))
   have X3:=hideC (B.alloc X2.out (.cells #[.int .i64 0,.slice none 0 0,.slice none 0 0,.slice none 0 0] 30))
   have y0 : (w2.alloc (.cells #[.int .i64 0,.slice none 0 0,.slice none 0 0,.slice none 0 0] 30)).cell? ⟨x,0,none⟩ = some (.slice aa na ca):=B.cell X3.out 0 rfl
   have y1 : (w2.alloc (.cells #[.int .i64 0,.slice none 0 0,.slice none 0 0,.slice none 0 0] 30)).cell? ⟨x,1,none⟩ = some (.slice ah n ch):=B.cell X3.out 1 rfl
   have y2 : (w2.alloc (.cells #[.int .i64 0,.slice none 0 0,.slice none 0 0,.slice none 0 0] 30)).cell? ⟨x,2,none⟩ = some (.int .i64 en):=B.cell X3.out 2 rfl
   have hx2 : ¬ x = w2.heap.size:=by have:=B.isLt X2.out;omega
   go_wp2_with fail
   obtain ⟨W3,hW3⟩ : ∃ W3,W3 = w2.alloc (.cells #[.int .i64 0,.slice none 0 0,.slice none 0 0,.slice none 0 0] 30):=⟨_,rfl⟩
   rw [<- hW3] at HB3 HK3 N3 V3 Y3 X3 ⊢
   obtain ⟨nb,hnb⟩ : ∃ nb,nb = w1.heap.size:=⟨_,rfl⟩
   obtain ⟨wb,hwb⟩ : ∃ wb,wb = w2.heap.size:=⟨_,rfl⟩
   have hnw : ¬ nb = wb:=by have:=B.isLt N2.out;omega
   have hyw : ¬ y = wb:=by have:=B.isLt Y2.out;omega
   have hnb1 : w1.heap.size <= wb:=by rw [hwb];exact HK2.out.size
   have hww : w.heap.size <= wb:=by rw [hwb];exact HB2.out.size
   rw [<- hnb] at N3
   rw [<- hwb] at V3
   rw [<- hnb,<- hwb]
   clear hW3 hwb hnb y0 y1 y2 hx2 X2 N2 Y2 HB2 HK2
   go_at_call 9
   refine (HNF2.out _ HB3.out).mono ?_
   rintro e w4 ⟨b1,d1,b2,d2,rfl,hw4,hb4⟩
   have HW4:=hideC hw4
   have HB4:=hideC (HB3.out.trans (hb4.mono HB3.out.size))
   have HK4:=hideC (HK3.out.trans (hb4.mono HK3.out.size))
   have N4:=hideC (B.below N3.out hb4 (B.isLt N3.out))
   have V4:=hideC (B.below V3.out hb4 (B.isLt V3.out))
   have Y4:=hideC (B.below Y3.out hb4 (B.isLt Y3.out))
   have hwl3:=B.isLt V3.out
   clear hw4 hb4 HNF2 HB3 HK3 N3 V3 Y3 X3
   have q0 : w4.cell? ⟨wb,0,none⟩ = some (.int .i64 0):=B.cell V4.out 0 rfl
   have q1 : w4.cell? ⟨wb,1,none⟩ = some (.slice none 0 0):=B.cell V4.out 1 rfl
   have q2 : w4.cell? ⟨wb,2,none⟩ = some (.slice none 0 0):=B.cell V4.out 2 rfl
   have q3 : w4.cell? ⟨wb,3,none⟩ = some (.slice none 0 0):=B.cell V4.out 3 rfl
   have qf:=B.free V4.out
   go_wp2_with fail
   have HKS:=hideC (kp_set4 w4 wb (.int .i64 slots) (.slice b1 1 d1) (.slice b2 1 d2) (.slice none 0 0))
   have ZN:=hideC (HKS.out.keep N4.out hnw)
   have ZY:=hideC (HKS.out.keep Y4.out hyw)
   have ZW:=hideC (B.set (B.set (B.set (B.set V4.out 0 (.int .i64 slots)) 1 (.slice b1 1 d1)) 2 (.slice b2 1 d2)) 3 (.slice none 0 0))
   have HBZ:=hideC (Kp.below HB4.out HKS.out HB4.out.size (fun b e=>by rw [e];exact hww))
   obtain ⟨Z,hZ⟩ : ∃ Z,Z = (((w4.setCell ⟨wb,0,none⟩ (.int .i64 slots)).setCell ⟨wb,1,none⟩ (.slice b1 1 d1)).setCell ⟨wb,2,none⟩ (.slice b2 1 d2)).setCell ⟨wb,3,none⟩ (.slice none 0 0):=⟨_,rfl⟩
   rw [<- hZ] at HBZ HKS ZN ZW ZY ⊢
   have HSAM : Hid (∀ V,Below Z.heap.size Z V -> Calls Tryz.prog 11 #[.agg #[.int .i64 slots,.slice a1 1 c1,.slice a2 1 c2,.slice a3 0 c3],.agg #[.int .i64 slots,.slice b1 1 d1,.slice b2 1 d2,.slice none 0 0]] V fun e w'=>e = .returned (.bool true) /\ Below V.heap.size V w'):=fun V hV=>by
    have k1 : Kp (fun b=>w1.heap.size <= b) w1 V:=((Kp.ofBelow (D:=fun b=>w1.heap.size <= b) HK4.out).trans (HKS.out.mono (D1:=fun b=>w1.heap.size <= b) (fun b _ e=>by rw [e];exact hnb1)) (fun _ _ g=>g)).trans (Kp.ofBelow (D:=fun b=>w1.heap.size <= b) hV) (fun _ _ g=>g)
    have k2 : Kp (fun b=>b < W3.heap.size) w4 V:=(HKS.out.mono (D1:=fun b=>b < W3.heap.size) (fun b _ e=>by rw [e];exact hwl3)).trans (Kp.ofBelow (D:=fun b=>b < W3.heap.size) hV) (fun _ _ g=>g)
    exact HSG.out V b1 b2 d1 d2 (HFL.out V (k1.mono (fun b hb g=>absurd hb (Nat.not_lt.2 g)))) (HW4.out V k2)
   clear hZ HSG HF1 HFL HW4 HB4 HK4 N4 V4 Y4 X1 Y1 HKS q0 q1 q2 q3 qf
   have hkin:=Q.kin_some Z
   have hkc:=@Q.cell_kin Z
   have lN:=B.isLt ZN.out
   have lW:=B.isLt ZW.out
   have lY:=B.isLt ZY.out
   have fn0 : ∀ x : Q.Kin Z.heap.size Z,x.world.cell? ⟨nb,0,none⟩ = some (.int .i64 slots):=fun x=>(hkc x _ _ lN).trans (B.cell ZN.out 0 rfl)
   have fn1 : ∀ x : Q.Kin Z.heap.size Z,x.world.cell? ⟨nb,1,none⟩ = some (.slice a1 1 c1):=fun x=>(hkc x _ _ lN).trans (B.cell ZN.out 1 rfl)
   have fn2 : ∀ x : Q.Kin Z.heap.size Z,x.world.cell? ⟨nb,2,none⟩ = some (.slice a2 1 c2):=fun x=>(hkc x _ _ lN).trans (B.cell ZN.out 2 rfl)
   have fn3 : ∀ x : Q.Kin Z.heap.size Z,x.world.cell? ⟨nb,3,none⟩ = some (.slice a3 0 c3):=fun x=>(hkc x _ _ lN).trans (B.cell ZN.out 3 rfl)
   have fw0 : ∀ x : Q.Kin Z.heap.size Z,x.world.cell? ⟨wb,0,none⟩ = some (.int .i64 slots):=fun x=>(hkc x _ _ lW).trans (B.cell ZW.out 0 rfl)
   have fw1 : ∀ x : Q.Kin Z.heap.size Z,x.world.cell? ⟨wb,1,none⟩ = some (.slice b1 1 d1):=fun x=>(hkc x _ _ lW).trans (B.cell ZW.out 1 rfl)
   have fw2 : ∀ x : Q.Kin Z.heap.size Z,x.world.cell? ⟨wb,2,none⟩ = some (.slice b2 1 d2):=fun x=>(hkc x _ _ lW).trans (B.cell ZW.out 2 rfl)
   have fw3 : ∀ x : Q.Kin Z.heap.size Z,x.world.cell? ⟨wb,3,none⟩ = some (.slice none 0 0):=fun x=>(hkc x _ _ lW).trans (B.cell ZW.out 3 rfl)
   have fy0 : ∀ x : Q.Kin Z.heap.size Z,x.world.cell? ⟨y,0,none⟩ = some (.int .i64 sl):=fun x=>(hkc x _ _ lY).trans (B.cell ZY.out 0 rfl)
   have fy1 : ∀ x : Q.Kin Z.heap.size Z,x.world.cell? ⟨y,1,none⟩ = some (.slice az ns cs):=fun x=>(hkc x _ _ lY).trans (B.cell ZY.out 1 rfl)
   have fy2 : ∀ x : Q.Kin Z.heap.size Z,x.world.cell? ⟨y,2,none⟩ = some (.slice ar nr cr):=fun x=>(hkc x _ _ lY).trans (B.cell ZY.out 2 rfl)
   have fy3 : ∀ x : Q.Kin Z.heap.size Z,x.world.cell? ⟨y,3,none⟩ = some (.slice ao no co):=fun x=>(hkc x _ _ lY).trans (B.cell ZY.out 3 rfl)
   have HBG2 : Hid (∀ x : Q.Kin Z.heap.size Z,Calls Tryz.prog 10 #[] x.world fun e w'=>e = .returned (.bool true) /\ ∃ y : Q.Kin Z.heap.size Z,w' = y.world):=fun x=>Q.calls_kin HBG.out x
   have HSA2 : Hid (∀ x : Q.Kin Z.heap.size Z,Calls Tryz.prog 11 #[.agg #[.int .i64 slots,.slice a1 1 c1,.slice a2 1 c2,.slice a3 0 c3],.agg #[.int .i64 slots,.slice b1 1 d1,.slice b2 1 d2,.slice none 0 0]] x.world fun e w'=>e = .returned (.bool true) /\ ∃ y : Q.Kin Z.heap.size Z,w' = y.world):=fun x=>(HSAM.out x.world x.keeps).mono fun e w'' ⟨he,hb⟩=>⟨he,⟨w'',x.keeps.trans (hb.mono x.keeps.size)⟩,rfl⟩
   have HCK2 : Hid (∀ x : Q.Kin Z.heap.size Z,Calls Tryz.prog 12 #[.agg #[.int .i64 sl,.slice az ns cs,.slice ar nr cr,.slice ao no co]] x.world fun e w'=>e = .returned (.int .i64 C) /\ ∃ y : Q.Kin Z.heap.size Z,w' = y.world):=fun x=>(HCK.out x.world (HBZ.out.trans (x.keeps.mono HBZ.out.size))).mono fun e w'' ⟨he,hb⟩=>⟨he,⟨w'',x.keeps.trans (hb.mono x.keeps.size)⟩,rfl⟩
   have HCR2 : Hid (∀ x : Q.Kin Z.heap.size Z,Calls Tryz.prog 13 #[.agg #[.int .i64 sl,.slice az ns cs,.slice ar nr cr,.slice ao no co]] x.world fun e w'=>e = .returned (.int .i64 C) /\ ∃ y : Q.Kin Z.heap.size Z,w' = y.world):=fun x=>(HCR.out x.world (HBZ.out.trans (x.keeps.mono HBZ.out.size))).mono fun e w'' ⟨he,hb⟩=>⟨he,⟨w'',x.keeps.trans (hb.mono x.keeps.size)⟩,rfl⟩
   clear hkc HBG HSAM HCK HCR ZN ZW ZY lN lW lY
   refine Q.region_kin (by kernel_rfl) (by kernel_rfl) ?_
   repeat (first | go_big_quiet_step ((first | (go_at_call 10;exact HBG2.out _) | (go_at_call 11;exact HSA2.out _) | (go_at_call 12;exact HCK2.out _) | (go_at_call 13;exact HCR2.out _))))
   refine wpQuiet_nil ?_
   intro _ hw'
   obtain ⟨x,hw''⟩:=hw'
   subst hw''
   go_wp2
   go_ret
   exact ⟨by simp,HBZ.out.trans (x.keeps.mono HBZ.out.size)⟩
end GT
namespace W
open Go.RowKit Go.Deep
theorem cells9 : Tryz.prog.cellsOf 9 = 1:=by kernel_rfl
theorem cells3 : Tryz.prog.cellsOf 3 = 1:=by kernel_rfl
theorem cells4 : Tryz.prog.cellsOf 4 = 1:=by kernel_rfl
theorem i64_of (n : Int) (h : (Lit.int .i64 n).wf = true) : M.I64 n:=CM.bounds n h
theorem cell_lt {w : World} {b o : Nat} {v : Value} (h : w.cell? ⟨b,o,none⟩ = some v) : b < w.heap.size:=by
 rcases Nat.lt_or_ge b w.heap.size with g | g
 · exact g
 · have e : w.heap[b]? = none:=Array.getElem?_eq_none g
   simp [World.cell?,e] at h
instance : Inhabited M.Sg:=⟨M.sg0⟩
instance : Inhabited M.Sy:=⟨M.sy0⟩
instance : Inhabited M.Rl:=⟨M.rl0⟩
def OkW {H : Type} (t : TypeId) (d : DataW H) : Prop:=∀ n ∈ d.weights Tryz.prog t,n <= reachBytes
theorem weightsAll_mem {H : Type} {e : TypeId} : ∀ {l : List (DataW H)} {d : DataW H},d ∈ l -> ∀ n ∈ d.weights Tryz.prog e,n ∈ DataW.weightsAll Tryz.prog e l
 | y :: r,d,h,n,hn=>by
  simp only [DataW.weightsAll,List.mem_append]
  rcases List.mem_cons.1 h with h | h
  · subst h;exact .inl hn
  · exact .inr (weightsAll_mem h n hn)
theorem okw_string {H : Type} {t : TypeId} {b : List UInt8} (h : OkW (H:=H) t (.lit (.string b))) : b.length <= reachBytes:=h _ (by simp [DataW.weights])
theorem okw_slice {H : Type} {t e : TypeId} {el sp : List (DataW H)} (hu : Tryz.prog.underlying t = some (.slice e)) (h : OkW t (.slice el sp)) : (el.length + sp.length) * Tryz.prog.bytesOf e <= reachBytes /\ ∀ d ∈ el,OkW e d:=by
 refine ⟨h _ (by simp [DataW.weights,hu]),fun d hd n hn=>h n ?_⟩
 simp only [DataW.weights,hu,List.mem_cons,List.mem_append]
 exact .inr (.inl (weightsAll_mem hd n hn))
theorem okw_agg {H : Type} {t : TypeId} {fs : Array Field} {ps : List (DataW H)} (hu : Tryz.prog.underlying t = some (.struct fs)) (h : OkW t (.agg ps)) {j : Nat} {u : TypeId} {d : DataW H} (ht : (fs.toList.map (·.type))[j]? = some u) (hd : ps[j]? = some d) : OkW u d:=fun n hn=>h n (by
 simp only [DataW.weights,hu]
 exact DataW.weights_mem_each ht hd n hn)
section
variable {H : Type} {enc : TypeId × Value -> H} {w : World} {base : Nat} {spare : Nat -> Bool} {held : Bool}
theorem slice_of {t e : TypeId} {fuel : Nat} {v : Value} {x : DataW H × List MemPlace} (ht : Tryz.prog.underlying t = some (.slice e)) (h : DataW.trod enc Tryz.prog w base spare held fuel t [v] = some x) : ∃ a len cap,v = .slice a len cap:=by
 rcases open_slice ht h with ⟨hcs,_⟩ | ⟨a,len',cap',m,n,D,Pl,hcs,_⟩
 · simp at hcs;exact ⟨_,_,_,hcs⟩
 · simp at hcs;exact ⟨_,_,_,hcs⟩
end
end W
namespace LW
open Go.RowKit Go.Deep
open W (OkW okw_string okw_slice okw_agg slice_of cell_lt i64_of cells9 cells3)
theorem cellsFx : Tryz.prog.cellsOf 121 = 2:=by kernel_rfl
theorem cellsSh : Tryz.prog.cellsOf 62 = 3:=by kernel_rfl
theorem cellsLk : Tryz.prog.cellsOf 25 = 3:=by kernel_rfl
theorem cellsFxs : Tryz.prog.cellsOf 60 = 1:=by kernel_rfl
theorem cellsShs : Tryz.prog.cellsOf 23 = 1:=by kernel_rfl
theorem cellsArs : Tryz.prog.cellsOf 22 = 1:=by kernel_rfl
theorem bytesFx : Tryz.prog.bytesOf 121 = 24:=by kernel_rfl
theorem bytesSh : Tryz.prog.bytesOf 62 = 48:=by kernel_rfl
theorem bytesAr : Tryz.prog.bytesOf 59 = 32:=by kernel_rfl
instance : Inhabited LM.Fx:=⟨LM.fx0⟩
instance : Inhabited LM.Sh:=⟨LM.sh0⟩
section
variable {H : Type} {enc : TypeId × Value -> H} {w : World} {base : Nat} {spare : Nat -> Bool} {held : Bool}
theorem one_fix {n : Nat} {a : Addr} {cs : List Value} {x : DataW H × List MemPlace} (hc : w.cells? base a 2 = some cs) (h : DataW.trod enc Tryz.prog w base spare held n 121 cs = some x) (hw : OkW 121 x.1) :
  ∃ (x0 : Int) (x1 : ByteArray),(w.cell? (a.add 0) = some (.int .i64 x0) /\ M.I64 x0) /\ (w.cell? (a.add 1) = some (.string x1) /\ M.Short x1.size):=by
 obtain ⟨_,hlen,hcell⟩:=World.cells?_some hc
 obtain ⟨xs,k,hk,hxy,_,hxl,hf⟩:=DataW.trod_struct Tryz.underlying121 h
 rw [hxy] at hw
 match cs,hlen with
 | [v0,v1],_ =>
  have g0 : DataW.trod enc Tryz.prog w base spare held k 3 (([v0,v1].drop 0).take (Tryz.prog.cellsOf 3)) = xs[0]?:=hf 0 _ rfl
  have g1 : DataW.trod enc Tryz.prog w base spare held k 9 (([v0,v1].drop 1).take (Tryz.prog.cellsOf 9)) = xs[1]?:=hf 1 _ rfl
  simp only [cells3,cells9] at g0 g1
  have e0:=hcell 0 (by omega)
  have e1:=hcell 1 (by omega)
  match xs,hxl with
  | [y0,y1],_ =>
   obtain ⟨m0,c0,_,w0⟩:=DataW.trod_int Tryz.underlying3 (show DataW.trod enc Tryz.prog w base spare held k 3 [v0] = some y0 from g0)
   obtain ⟨m1,c1,hx1,_⟩:=DataW.trod_string Tryz.underlying9 (show DataW.trod enc Tryz.prog w base spare held k 9 [v1] = some y1 from g1)
   have u1:=okw_agg Tryz.underlying121 hw (j:=1) (u:=9) (d:=y1.1) rfl rfl
   rw [hx1] at u1
   have w1 : M.Short m1.size:=by have:=okw_string u1;unfold M.Short;unfold reachBytes at this;rw [Lib.size_eq];exact this
   simp only [List.cons.injEq,and_true] at c0 c1
   subst c0;subst c1
   exact ⟨m0,m1,⟨e0,i64_of _ w0⟩,⟨e1,w1⟩⟩
theorem open_F {fuel : Nat} {a0 : Option Addr} {len cap : Nat} {x : DataW H × List MemPlace} (h : DataW.trod enc Tryz.prog w base spare held fuel 60 [.slice a0 len cap] = some x) (hw : OkW 60 x.1) :
  ∃ l : List LM.Fx,l.length = len /\ LM.HasF w a0 l /\ M.Short l.length /\ ∀ k,k < l.length -> LM.FitF (LM.fxAt l k):=by
 rcases open_slice Tryz.underlying60 h with ⟨hcs,_⟩ | ⟨a,len',cap',m,n,D,Pl,hcs,hb,hl,hm,hmm,rfl,hx⟩
 · simp at hcs
   obtain ⟨rfl,rfl,rfl⟩:=hcs
   exact ⟨[],rfl,fun h=>absurd h (by simp),by unfold M.Short;simp,fun k hk=>absurd hk (by simp)⟩
 · simp at hcs
   obtain ⟨rfl,rfl,rfl⟩:=hcs
   have hlm : len <= m:=by rw [hmm];split <;> omega
   obtain ⟨hb1,hb2⟩:=okw_slice Tryz.underlying60 hw
   rw [bytesFx] at hb1
   unfold reachBytes at hb1
   have hlen : len <= 140737488351232:=by simp at hb1;omega
   have each : ∀ i,i < len -> ∃ y : LM.Fx,w.cell? (a.add (i * 2 + 0)) = some (.int .i64 y.off) /\ w.cell? (a.add (i * 2 + 1)) = some (.string y.bytes) /\ LM.FitF y:=by
    intro i hi
    obtain ⟨cs',h1,h2⟩:=hx i (by omega)
    have hd : D i ∈ (List.range len).map D:=List.mem_map.2 ⟨i,List.mem_range.2 hi,rfl⟩
    rw [cellsFx] at h1
    obtain ⟨x0,x1,⟨e0,z0⟩,⟨e1,z1⟩⟩:=one_fix h1 h2 (hb2 _ hd)
    simp only [add_add] at e0 e1
    exact ⟨⟨x0,x1⟩,e0,e1,⟨z0,z1⟩⟩
   obtain ⟨g,hg⟩:=choose_lt each
   have hat : ∀ i,i < len -> LM.fxAt ((List.range len).map g) i = g i:=by
    intro i hi
    simp [LM.fxAt,hi]
   refine ⟨(List.range len).map g,by simp,fun h0=>?_,by unfold M.Short;simp;exact hlen,fun k hk=>?_⟩
   · have h0' : 0 < len:=by simpa using h0
     obtain ⟨b,off,spot⟩:=a
     have hc:=(hg 0 h0').1
     have hspot : spot = none:=by simpa [Addr.add] using World.cell?_spot hc
     subst hspot
     rw [Addr.add_lit] at hc
     refine ⟨b,off,rfl,cell_lt hc,fun i hi=>?_⟩
     have hi' : i < len:=by simpa using hi
     rw [hat i hi']
     obtain ⟨e0,e1,_⟩:=hg i hi'
     simp only [Addr.add_lit] at e0 e1
     exact ⟨e0,by rw [Nat.add_assoc];exact e1⟩
   · have hi' : k < len:=by simpa using hk
     rw [hat k hi']
     obtain ⟨_,_,f⟩:=hg k hi'
     exact f
theorem vals_sheet {n : Nat} {v0 v1 v2 : Value} {x : DataW H × List MemPlace} (h : DataW.trod enc Tryz.prog w base spare held n 62 [v0,v1,v2] = some x) (hw : OkW 62 x.1) :
  ∃ s : LM.Sh,v0 = .int .i64 s.page /\ v1 = .string s.data /\ v2 = .slice s.ao s.fixes.length s.cap /\ LM.HasF w s.ao s.fixes /\ LM.FitH s:=by
 obtain ⟨xs,k,hk,hxy,_,hxl,hf⟩:=DataW.trod_struct Tryz.underlying62 h
 rw [hxy] at hw
 have g0 : DataW.trod enc Tryz.prog w base spare held k 3 (([v0,v1,v2].drop 0).take (Tryz.prog.cellsOf 3)) = xs[0]?:=hf 0 _ rfl
 have g1 : DataW.trod enc Tryz.prog w base spare held k 9 (([v0,v1,v2].drop 1).take (Tryz.prog.cellsOf 9)) = xs[1]?:=hf 1 _ rfl
 have g2 : DataW.trod enc Tryz.prog w base spare held k 60 (([v0,v1,v2].drop 2).take (Tryz.prog.cellsOf 60)) = xs[2]?:=hf 2 _ rfl
 simp only [cells3,cells9,cellsFxs] at g0 g1 g2
 match xs,hxl with
 | [y0,y1,y2],_ =>
  obtain ⟨m0,c0,_,w0⟩:=DataW.trod_int Tryz.underlying3 (show DataW.trod enc Tryz.prog w base spare held k 3 [v0] = some y0 from g0)
  obtain ⟨m1,c1,hx1,_⟩:=DataW.trod_string Tryz.underlying9 (show DataW.trod enc Tryz.prog w base spare held k 9 [v1] = some y1 from g1)
  have u1:=okw_agg Tryz.underlying62 hw (j:=1) (u:=9) (d:=y1.1) rfl rfl
  have u2:=okw_agg Tryz.underlying62 hw (j:=2) (u:=60) (d:=y2.1) rfl rfl
  rw [hx1] at u1
  have w1 : M.Short m1.size:=by have:=okw_string u1;unfold M.Short;unfold reachBytes at this;rw [Lib.size_eq];exact this
  have t2 : DataW.trod enc Tryz.prog w base spare held k 60 [v2] = some y2:=g2
  obtain ⟨ao,ln,cp,d2⟩:=slice_of Tryz.underlying60 t2
  subst d2
  obtain ⟨fs,n1,n2,n3,n4⟩:=open_F t2 u2
  simp only [List.cons.injEq,and_true] at c0 c1
  subst c0;subst c1;subst n1
  exact ⟨⟨m0,m1,fs,ao,cp⟩,rfl,rfl,rfl,n2,⟨i64_of _ w0,w1,n3,n4⟩⟩
end
end LW
end Go.Proofs.YtkdigjpejnebkaaGreat
