import Derived.Test.YtpgifpeohlllfaaGreatGJ32
import Derived.Test.YtpgifpeohlllfaaGreatGJ33
set_option maxHeartbeats 20000000
set_option linter.unusedVariables false
set_option maxRecDepth 100000
set_option linter.unusedSimpArgs false
namespace Go.Proofs.YtpgifpeohlllfaaGreat
namespace KR
open Go.RowKit GK
open FW (hideC add_below)
open KW (HasRow KAt HasK cellsK FitK FitSp HasSp cellEn)
theorem to_false {f g : Nat -> Bool} (hs : ∀ k,g (k + 1) = (g k && f k)) : ∀ (n i : Nat),i < n -> f i = false -> g n = false
 | 0,i,h,_=>absurd h (Nat.not_lt_zero _)
 | n + 1,i,h,hf=>by
  rw [hs]
  by_cases c : i = n
  · rw [<- c,hf,Bool.and_false]
  · rw [to_false hs n i (by omega) hf,Bool.false_and]
theorem len0 (n : Nat) : ((n : Int) == 0) = decide (n = 0):=by
 rw [Bool.eq_iff_iff,beq_iff_eq,decide_eq_true_iff]
 omega
theorem ents_no {nf ns : Nat} {ar : List AM.Ar} {es : List KM.En} {i : Nat} (hi : i < es.length) (h : KM.entR nf ns ar es i = false) : KM.entsR nf ns ar es es.length = false:=to_false (f:=KM.entR nf ns ar es) (g:=KM.entsR nf ns ar es) (fun _=>rfl) _ i hi h
theorem sheets_no {hs : List LM.Sh} {ar : List AM.Ar} {i : Nat} (hi : i < 255) (h : KM.sheetR hs ar ((i : Int) + 1) = false) : KM.sheetsR hs ar 255 = false:=to_false (f:=fun n : Nat=>KM.sheetR hs ar ((n : Int) + 1)) (g:=KM.sheetsR hs ar) (fun _=>rfl) 255 i hi h
set_option maxHeartbeats 8000000 in
theorem spaceFine_any (k : KM.Kn) (a : KAt) (s : KM.Sp) (aa ap : Option Addr) (ca cp : Nat) (w : World) (hA : AW.Has w (.slice aa s.areas.length ca) s.areas) (hfA : AW.AllFit s.areas) (hE : HasRow cellEn 3 KM.en0 w ap s.ents) (hEn : M.Short s.ents.length) (hS : LM.HasH w a.aS k.sheets) (hfS : LM.FitHs k.sheets) (hnf : k.frames.length <= 64) (hns : k.slots.length <= 512) :
  Calls Tryz.prog 46 #[.agg (cellsK a k),.agg #[.bool s.live,.slice aa s.areas.length ca,.slice ap s.ents.length cp]] w fun e w'=>e = .returned (.bool (KM.spFineR k.sheets k.frames.length k.slots.length s)) /\ Below w.heap.size w w':=by
 obtain ⟨WA,hWA⟩ : ∃ WA,WA = (w.alloc (.cells (cellsK a k) 27)).alloc (.cells #[.bool s.live,.slice aa s.areas.length ca,.slice ap s.ents.length cp] 43):=⟨_,rfl⟩
 have hb0 : Below w.heap.size w WA:=by rw [hWA];exact ((Below.refl _ _).alloc (Nat.le_refl _) _).alloc (by simp) _
 have kb : WA.heap[w.heap.size]? = some (.cells (cellsK a k) 27 (0,0)):=by rw [hWA];exact B.alloc (B.new w _ _) _
 have sb : WA.heap[w.heap.size + 1]? = some (.cells #[.bool s.live,.slice aa s.areas.length ca,.slice ap s.ents.length cp] 43 (0,0)):=by
  have:=B.new (w.alloc (.cells (cellsK a k) 27)) #[.bool s.live,.slice aa s.areas.length ca,.slice ap s.ents.length cp] 43
  rw [World.size_alloc] at this
  rw [hWA];exact this
 have HC : Hid (∀ V,Below WA.heap.size WA V -> (V.cell? ⟨w.heap.size,0,none⟩ = some (.slice a.aS k.sheets.length a.cS) /\ V.cell? ⟨w.heap.size,1,none⟩ = some (.slice a.aF k.frames.length a.cF) /\ V.cell? ⟨w.heap.size,2,none⟩ = some (.slice a.aL k.slots.length a.cL)) /\ V.cell? ⟨w.heap.size + 1,0,none⟩ = some (.bool s.live) /\ V.cell? ⟨w.heap.size + 1,1,none⟩ = some (.slice aa s.areas.length ca) /\ V.cell? ⟨w.heap.size + 1,2,none⟩ = some (.slice ap s.ents.length cp)):=fun V hV=>by
  have h1:=B.below kb hV (B.isLt kb)
  have h2:=B.below sb hV (B.isLt sb)
  exact ⟨⟨B.cell h1 0 rfl,B.cell h1 1 rfl,B.cell h1 2 rfl⟩,B.cell h2 0 rfl,B.cell h2 1 rfl,B.cell h2 2 rfl⟩
 have HEN : Hid (∀ V m,Below WA.heap.size WA V -> m < s.ents.length -> ∃ eb eo,ap = some ⟨eb,eo,none⟩ /\ (V.cell? ⟨eb,eo + m * 3,none⟩ = some (.int .i64 (KM.enAt s.ents m).page) /\ V.cell? ⟨eb,eo + m * 3 + 1,none⟩ = some (.int .i64 (KM.enAt s.ents m).kind) /\ V.cell? ⟨eb,eo + m * 3 + 2,none⟩ = some (.int .i64 (KM.enAt s.ents m).loc)) /\ ∀ U,Below V.heap.size V U -> 0 < m -> U.cell? ⟨eb,eo + (m - 1) * 3,none⟩ = some (.int .i64 (KM.enAt s.ents (m - 1)).page)):=fun V m hV hm=>by
  have hvw:=hb0.trans (hV.mono hb0.size)
  obtain ⟨eb,eo,g1,g2,g3⟩:=(hE.below hvw) (by omega)
  have z0:=g3 m hm 0 (by omega)
  rw [Nat.add_zero] at z0
  refine ⟨eb,eo,g1,⟨z0,g3 m hm 1 (by omega),g3 m hm 2 (by omega)⟩,fun U hU h0=>?_⟩
  have z1:=g3 (m - 1) (by omega) 0 (by omega)
  rw [Nat.add_zero] at z1
  exact (hU.cell (p:=⟨eb,eo + (m - 1) * 3,none⟩) g2).trans z1
 have HCA : Hid (Calls Tryz.prog 90 #[.slice aa s.areas.length ca] WA fun e w'=>e = .returned (.int .i64 (AM.checkN s.areas)) /\ Below WA.heap.size WA w'):=AW.refCheck_any s.areas _ WA (hA.below hb0) hfA
 have HAT : AM.checkN s.areas = 0 -> Hid (∀ V p,Below WA.heap.size WA V -> Calls Tryz.prog 31 #[.slice aa s.areas.length ca,.int .i64 p] V fun e w'=>e = .returned (.tuple #[.agg #[.int .i64 (AM.findN s.areas p).1.page,.int .i64 (AM.findN s.areas p).1.pages,.int .i64 (AM.findN s.areas p).1.prot,.bool (AM.findN s.areas p).1.zero],.bool (AM.findN s.areas p).2]) /\ Below V.heap.size V w'):=fun hc V p hV=>AW.areaAt_any _ _ p V (hA.below (hb0.trans (hV.mono hb0.size))) hc
 have HSO : Hid (∀ V p,Below WA.heap.size WA V -> Calls Tryz.prog 91 #[.slice a.aS k.sheets.length a.cS,.int .i64 p] V fun e w'=>(∃ q1 q2 q3 q4 q5,e = .returned (.tuple #[.agg #[.int .i64 q1,.string q2,.slice q3 q4 q5],.bool (KM.sheetFor k.sheets p).isSome])) /\ Below V.heap.size V w'):=fun V p hV=>(sheetOf_any k.sheets a.aS a.cS p V (hS.below (hb0.trans (hV.mono hb0.size))) hfS.1).mono fun e w' ⟨h1,h2⟩=>⟨⟨_,_,_,_,_,h1⟩,h2⟩
 have HWI:=hideC AW.within_any
 have HWA:=hideC hWA
 have HB0:=hideC hb0
 have hel : s.ents.length <= 140737488351232:=hEn
 have hal : s.areas.length <= 140737488351232:=hfA.2
 obtain ⟨nf,hnf2⟩ : ∃ nf,nf = k.frames.length:=⟨_,rfl⟩
 obtain ⟨ns,hns2⟩ : ∃ ns,ns = k.slots.length:=⟨_,rfl⟩
 unfold cellsK at HWA ⊢
 rw [<- hnf2] at HC HWA hnf ⊢
 rw [<- hns2] at HC HWA hns ⊢
 obtain ⟨lv,ar,es⟩:=s
 simp only at HC HEN HCA HAT HSO HWA hel hal ⊢
 clear hA hfA hE hEn hS hfS hb0 kb sb hWA hnf2 hns2
 obtain ⟨⟨k0,k1,k2⟩,x0,x1,x2⟩:=HC.out WA (Below.refl _ _)
 unfold KM.spFineR
 simp only
 cases lv with
 | false =>
  rw [if_neg (by decide)]
  rcases (show ¬ ar.length = 0 ∨ ar.length = 0 by omega) with h1 | h1
  · have b1 : ((ar.length : Int) == 0) = false:=by rw [beq_eq_false_iff_ne];omega
    clear HEN HCA HAT HSO HC
    go_enter Tryz.func46,Tryz.ntmps46
    go_upto_region 1 with fail
    rw [<- HWA.out]
    go_wp2
    go_ret
    exact ⟨by simp [h1],HB0.out⟩
  · have H1:=hideC h1
    clear HEN HCA HAT HSO HC h1
    go_enter Tryz.func46,Tryz.ntmps46
    go_upto_region 1 with fail
    rw [<- HWA.out]
    have h1:=H1.out
    go_wp2
    go_ret
    exact ⟨congrArg (fun b=>Ending.returned (.bool b)) (by rw [len0,h1];simp),HB0.out⟩
 | true =>
  rw [if_pos rfl]
  by_cases hc : AM.checkN ar = 0
  · have HA2:=HAT hc
    rw [hc] at HCA
    rw [decide_eq_true hc,Bool.true_and]
    clear HAT hc
    have HNO : Hid (∀ i,i < es.length -> KM.entR nf ns ar es i = false -> KM.entsR nf ns ar es es.length = false):=fun i hi h=>ents_no hi h
    have HSS : Hid (∀ i,KM.entsR nf ns ar es (i + 1) = (KM.entsR nf ns ar es i && KM.entR nf ns ar es i)):=fun _=>rfl
    obtain ⟨ER,hER⟩ : ∃ ER,ER = KM.entsR nf ns ar es es.length:=⟨_,rfl⟩
    have HER:=hideC hER
    rw [<- hER]
    rw [<- hER] at HNO
    clear hER
    have HSN : Hid (∀ i : Nat,i < 255 -> KM.sheetR k.sheets ar ((i : Int) + 1) = false -> KM.sheetsR k.sheets ar 255 = false):=fun i hi h=>sheets_no hi h
    have HSR : Hid (∀ i : Nat,KM.sheetsR k.sheets ar (i + 1) = (KM.sheetsR k.sheets ar i && KM.sheetR k.sheets ar ((i : Int) + 1))):=fun _=>rfl
    obtain ⟨SR,hSR⟩ : ∃ SR,SR = KM.sheetsR k.sheets ar 255:=⟨_,rfl⟩
    have HRS:=hideC hSR
    rw [<- hSR]
    rw [<- hSR] at HSN
    clear hSR
    go_enter Tryz.func46,Tryz.ntmps46
    go_upto_region 1 with fail
    rw [<- HWA.out]
    go_upto_region 5 with (go_at_call 90;refine HCA.out.mono ?_;rintro e w1 ⟨rfl,hb1⟩;have HB1:=hideC hb1;clear hb1)
    clear k0 k1 k2 x0 x1 x2 HCA
    go_wp2
    go_loopw [5] (fun iv wq=>∃ i : Nat,i <= es.length /\ iv = .int .i64 (i : Int) /\ KM.entsR nf ns ar es i = true /\ Below WA.heap.size WA wq) (fun iv _=>es.length - (intOf iv).toNat)
    case atStart=>exact ⟨0,by omega,rfl,rfl,HB1.out⟩
    case round =>
     obtain ⟨i,hi,rfl,hei,hbw⟩:=hrel
     have HEI:=hideC hei
     have HBW:=hideC hbw
     obtain ⟨⟨k0,k1,k2⟩,x0,x1,x2⟩:=HC.out wr hbw
     clear hei
     by_cases hlt : i < es.length
     · have hii : (i : Int) < (es.length : Int):=by omega
       obtain ⟨eb,eo,hap,⟨z0,z1,z2⟩,hpv⟩:=HEN.out wr i hbw hlt
       have HPV:=hideC hpv
       have HNI:=hideC (HNO.out i hlt)
       have HSI:=hideC (HSS.out i)
       have HRE : Hid (KM.entR nf ns ar es i = ((AM.findN ar (KM.enAt es i).page).2 && (i == 0 || decide ((KM.enAt es (i - 1)).page < (KM.enAt es i).page)) && (if (KM.enAt es i).kind = 1 then decide (0 <= (KM.enAt es i).loc /\ (KM.enAt es i).loc <= (nf : Int) - 1) else if (KM.enAt es i).kind = 2 then decide (0 <= (KM.enAt es i).loc /\ (KM.enAt es i).loc <= (ns : Int) - 1) else false))):=rfl
       obtain ⟨en,hen⟩ : ∃ en,en = KM.enAt es i:=⟨_,rfl⟩
       rw [<- hen] at z0 z1 z2 HRE
       obtain ⟨pg,kx,lx⟩:=en
       simp only at z0 z1 z2 HRE
       have HAP:=hideC (fun V hV=>HA2.out V pg hV)
       subst hap
       clear hpv hen HNO HSS HER
       obtain ⟨W1,hW1⟩ : ∃ W1,W1 = wr.alloc (.cells #[.int .i64 pg,.int .i64 kx,.int .i64 lx] 45):=⟨_,rfl⟩
       have hb1 : Below wr.heap.size wr W1:=by rw [hW1];exact (Below.refl _ _).alloc (Nat.le_refl _) _
       have xb1 : W1.heap[wr.heap.size]? = some (.cells #[.int .i64 pg,.int .i64 kx,.int .i64 lx] 45 (0,0)):=by rw [hW1];exact B.new _ _ _
       have hbA:=hbw.trans (hb1.mono hbw.size)
       have HBL:=hideC hb1
       have HBA:=hideC hbA
       have HXB:=hideC xb1
       have HW1:=hideC hW1
       obtain ⟨F,hF⟩ : ∃ F,F = AM.findN ar pg:=⟨_,rfl⟩
       rw [<- hF] at HRE HAP
       obtain ⟨⟨g1,g2,g3,g4⟩,gf⟩:=F
       simp only at HRE HAP
       go_upto_region 9 with fail
       rw [<- HW1.out]
       clear hW1 hb1 hbw k0 k1 k2 x0 x1 x2 z0 z1 z2 hF
       obtain ⟨⟨k0,k1,k2⟩,x0,x1,x2⟩:=HC.out W1 hbA
       obtain ⟨y0,y1,y2⟩:=B.c3 xb1
       obtain ⟨xb,hxb⟩ : ∃ xb,xb = wr.heap.size:=⟨_,rfl⟩
       rw [<- hxb] at HXB y0 y1 y2 ⊢
       clear hbA xb1 hxb
       go_upto_region 10 with (go_at_call 31;refine (HAP.out _ HBA.out).mono ?_;rintro e w2 ⟨rfl,hb2⟩;have HB2:=hideC hb2;clear hb2)
       have hb3 : Below W1.heap.size W1 (w2.alloc (.cells #[.int .i64 g1,.int .i64 g2,.int .i64 g3,.bool g4] 47)):=HB2.out.alloc HB2.out.size _
       obtain ⟨W3,hW3⟩ : ∃ W3,W3 = w2.alloc (.cells #[.int .i64 g1,.int .i64 g2,.int .i64 g3,.bool g4] 47):=⟨_,rfl⟩
       rw [<- hW3] at hb3 ⊢
       have hb4:=HBA.out.trans (hb3.mono HBA.out.size)
       have HB4:=hideC hb4
       obtain ⟨y0,y1,y2⟩:=B.c3 (B.below HXB.out hb3 (B.isLt HXB.out))
       obtain ⟨⟨k0,k1,k2⟩,x0,x1,x2⟩:=HC.out W3 hb4
       have HPW:=hideC (HPV.out W3 (HBL.out.trans (hb3.mono HBL.out.size)))
       clear hW3 hb3 hb4 HAP HPV
       by_cases hgo : gf = true /\ (i = 0 ∨ (KM.enAt es (i - 1)).page < pg)
       · obtain ⟨rfl,ho⟩:=hgo
         have HRE2 : Hid (KM.entR nf ns ar es i = if kx = 1 then decide (0 <= lx /\ lx <= (nf : Int) - 1) else if kx = 2 then decide (0 <= lx /\ lx <= (ns : Int) - 1) else false):=(show KM.entR nf ns ar es i = if kx = 1 then decide (0 <= lx /\ lx <= (nf : Int) - 1) else if kx = 2 then decide (0 <= lx /\ lx <= (ns : Int) - 1) else false by
          rw [HRE.out]
          rcases ho with h | h
          · simp [h]
          · simp [h])
         clear HRE
         go_cut [68] (fun c wx=>c = .bool false /\ Below W3.heap.size W3 wx)
         case first =>
          rcases (show i = 0 ∨ (0 < i /\ (KM.enAt es (i - 1)).page < pg) by omega) with h0 | ⟨h0,h1⟩
          · subst h0
            go_region
            go_wp2_with fail
            go_meet
            case rel=>exact ⟨by simp,(Below.refl _ _).drew⟩
          · have pw:=HPW.out h0
            have hi0 : (0 : Int) < (i : Int):=by omega
            have him : ((i : Int) - 1).toNat = i - 1:=by omega
            have him2 : (i : Int) - 1 = ((i - 1 : Nat) : Int):=by omega
            have him3 : (i : Int) - 1 < (es.length : Int):=by omega
            have him4 : (0 : Int) <= (i : Int) - 1:=by omega
            have h2 : ¬ pg <= (KM.enAt es (i - 1)).page:=by omega
            go_region
            go_wp2_with fail
            go_meet
            case rel=>exact ⟨by simp [h2],(Below.refl _ _).drew⟩
         case rest =>
          obtain ⟨rfl,hbc⟩:=hcut
          have hb5:=HB4.out.trans (hbc.mono HB4.out.size)
          have HB5:=hideC hb5
          obtain ⟨⟨k0,k1,k2⟩,x0,x1,x2⟩:=HC.out wc hb5
          have t : ∀ {o : Nat} {u : Value},W3.cell? ⟨xb,o,none⟩ = some u -> wc.cell? ⟨xb,o,none⟩ = some u:=fun {o u} h=>(hbc.cell (p:=⟨xb,o,none⟩) (World.block_lt_of_cell? W3 _ h)).trans h
          have u1:=t y1
          have u2:=t y2
          clear hb5 hbc t y0 y1 y2 HPW HB4
          rcases (show kx = 1 ∨ kx = 2 ∨ (¬ kx = 1 /\ ¬ kx = 2) by omega) with hk | hk | ⟨hk,hk2⟩
          · rw [if_pos hk] at HRE2
            subst hk
            obtain ⟨bv,hbv⟩ : ∃ bv,bv = decide (0 <= lx /\ lx <= (nf : Int) - 1):=⟨_,rfl⟩
            have HWV:=hideC (fun V=>HWI.out lx 0 ((nf : Int) - 1) V)
            rw [<- hbv] at HRE2 HWV
            clear hbv
            cases bv with
            | false =>
             have e0:=HNI.out HRE2.out
             subst e0
             go_wp2_with (go_at_call 44;refine (HWV.out _).mono ?_;rintro e w6 ⟨rfl,rfl⟩)
             go_ret
             exact ⟨rfl,HB0.out.trans (HB5.out.mono HB0.out.size)⟩
            | true =>
             have HE1 : Hid (KM.entsR nf ns ar es (i + 1) = true):=(show KM.entsR nf ns ar es (i + 1) = true by rw [HSI.out,HEI.out,HRE2.out];rfl)
             go_wp2_with (go_at_call 44;refine (HWV.out _).mono ?_;rintro e w6 ⟨rfl,rfl⟩)
             go_roundw
             case rel=>exact ⟨i + 1,by omega,by go_num,HE1.out,HB5.out⟩
             case measure=>simp [intOf];omega
          · rw [if_neg (by omega),if_pos hk] at HRE2
            subst hk
            obtain ⟨bv,hbv⟩ : ∃ bv,bv = decide (0 <= lx /\ lx <= (ns : Int) - 1):=⟨_,rfl⟩
            have HWV:=hideC (fun V=>HWI.out lx 0 ((ns : Int) - 1) V)
            rw [<- hbv] at HRE2 HWV
            clear hbv
            cases bv with
            | false =>
             have e0:=HNI.out HRE2.out
             subst e0
             go_wp2_with (go_at_call 44;refine (HWV.out _).mono ?_;rintro e w6 ⟨rfl,rfl⟩)
             go_ret
             exact ⟨rfl,HB0.out.trans (HB5.out.mono HB0.out.size)⟩
            | true =>
             have HE1 : Hid (KM.entsR nf ns ar es (i + 1) = true):=(show KM.entsR nf ns ar es (i + 1) = true by rw [HSI.out,HEI.out,HRE2.out];rfl)
             go_wp2_with (go_at_call 44;refine (HWV.out _).mono ?_;rintro e w6 ⟨rfl,rfl⟩)
             go_roundw
             case rel=>exact ⟨i + 1,by omega,by go_num,HE1.out,HB5.out⟩
             case measure=>simp [intOf];omega
          · rw [if_neg hk,if_neg hk2] at HRE2
            have b1 : (kx == 1) = false:=by simpa using hk
            have b2 : (kx == 2) = false:=by simpa using hk2
            have e0:=HNI.out HRE2.out
            subst e0
            go_wp2
            go_ret
            exact ⟨rfl,HB0.out.trans (HB5.out.mono HB0.out.size)⟩
       · have hR0 : KM.entR nf ns ar es i = false:=by
          rw [HRE.out]
          cases gf with
          | false=>simp
          | true =>
           have h1 : ¬ i = 0:=fun e=>hgo ⟨rfl,.inl e⟩
           have h2 : ¬ (KM.enAt es (i - 1)).page < pg:=fun e=>hgo ⟨rfl,.inr e⟩
           simp [h1,h2]
         have e0:=HNI.out hR0
         subst e0
         clear HRE hR0 HNI HSI HEI
         cases gf with
         | false =>
          go_region
          go_wp2
          go_ret
          exact ⟨rfl,(HB0.out.trans (HB4.out.mono HB0.out.size)).drew⟩
         | true =>
          have h0 : 0 < i:=by
           by_cases e : i = 0
           · exact absurd ⟨rfl,.inl e⟩ hgo
           · omega
          have h2 : pg <= (KM.enAt es (i - 1)).page:=by
           by_cases e : (KM.enAt es (i - 1)).page < pg
           · exact absurd ⟨rfl,.inr e⟩ hgo
           · omega
          have pw:=HPW.out h0
          have hi0 : (0 : Int) < (i : Int):=by omega
          have him2 : (i : Int) - 1 = ((i - 1 : Nat) : Int):=by omega
          have him : ((i : Int) - 1).toNat = i - 1:=by omega
          have him3 : (i : Int) - 1 < (es.length : Int):=by omega
          have him4 : (0 : Int) <= (i : Int) - 1:=by omega
          clear hgo
          go_region
          go_wp2
          go_ret
          exact ⟨rfl,(HB0.out.trans (HB4.out.mono HB0.out.size)).drew⟩
     · obtain rfl : i = es.length:=by omega
       have he1 : ER = true:=HER.out.trans HEI.out
       subst he1
       clear HER HEI HNO HSS HEN HWI
       go_wp2
       go_loopw [9] (fun iv wq=>∃ n : Nat,n <= 255 /\ iv = .int .i64 ((n : Int) + 1) /\ KM.sheetsR k.sheets ar n = true /\ Below WA.heap.size WA wq) (fun iv _=>256 - (intOf iv).toNat)
       case atStart=>exact ⟨0,by omega,rfl,rfl,HBW.out⟩
       case round =>
        obtain ⟨n,hn,rfl,hsn,hb⟩:=hrel
        have HS:=hideC hsn
        have HBn:=hideC hb
        obtain ⟨⟨k0,k1,k2⟩,x0,x1,x2⟩:=HC.out wr hb
        clear hsn hb
        by_cases hlt : n < 255
        · have hni : (n : Int) + 1 <= 255:=by omega
          have HAP:=hideC (HA2.out wr ((n : Int) + 1) HBn.out)
          have HSQ:=hideC (fun V hV=>HSO.out V ((n : Int) + 1) hV)
          have HX:=hideC (HSN.out n hlt)
          have HY:=hideC (HSR.out n)
          have HD : Hid (KM.sheetR k.sheets ar ((n : Int) + 1) = !((AM.findN ar ((n : Int) + 1)).2 && (!(AM.findN ar ((n : Int) + 1)).1.zero && !(KM.sheetFor k.sheets ((n : Int) + 1)).isSome))):=rfl
          obtain ⟨F,hF⟩ : ∃ F,F = AM.findN ar ((n : Int) + 1):=⟨_,rfl⟩
          obtain ⟨H,hH⟩ : ∃ H,H = (KM.sheetFor k.sheets ((n : Int) + 1)).isSome:=⟨_,rfl⟩
          rw [<- hF] at HAP HD
          rw [<- hH] at HSQ HD
          obtain ⟨⟨g1,g2,g3,g4⟩,gf⟩:=F
          simp only at HAP HD
          clear hF hH HA2 HSO HSN HSR HRS
          go_upto_region 24 with (go_at_call 31;refine HAP.out.mono ?_;rintro e w2 ⟨rfl,hb2⟩;have HB2:=hideC hb2;clear hb2)
          have hb3:=(HBn.out.trans (HB2.out.mono HBn.out.size)).alloc (HBn.out.trans (HB2.out.mono HBn.out.size)).size (.cells #[.int .i64 g1,.int .i64 g2,.int .i64 g3,.bool g4] 47)
          have ab:=B.new w2 #[.int .i64 g1,.int .i64 g2,.int .i64 g3,.bool g4] 47
          obtain ⟨W3,hW3⟩ : ∃ W3,W3 = w2.alloc (.cells #[.int .i64 g1,.int .i64 g2,.int .i64 g3,.bool g4] 47):=⟨_,rfl⟩
          obtain ⟨gb,hgb⟩ : ∃ gb,gb = w2.heap.size:=⟨_,rfl⟩
          rw [<- hW3] at hb3 ab ⊢
          rw [<- hgb] at ab ⊢
          have HB3:=hideC hb3
          have HGB:=hideC ab
          obtain ⟨⟨k0,k1,k2⟩,x0,x1,x2⟩:=HC.out W3 hb3
          clear hW3 hgb hb3 ab
          go_upto_region 25 with (go_at_call 91;refine (HSQ.out _ HB3.out).mono ?_;rintro e w4 ⟨⟨q1,q2,q3,q4,q5,rfl⟩,hb4⟩;have HB4:=hideC (HB3.out.trans (hb4.mono HB3.out.size));have HG4:=hideC (B.below HGB.out hb4 (B.isLt HGB.out));clear hb4)
          have HB5:=hideC (HB4.out.alloc HB4.out.size (.cells #[.int .i64 q1,.string q2,.slice q3 q4 q5] 50))
          have g5:=B.cell (v:=.bool g4) (B.alloc HG4.out (.cells #[.int .i64 q1,.string q2,.slice q3 q4 q5] 50)) 3 rfl
          obtain ⟨W5,hW5⟩ : ∃ W5,W5 = w4.alloc (.cells #[.int .i64 q1,.string q2,.slice q3 q4 q5] 50):=⟨_,rfl⟩
          rw [<- hW5] at HB5 g5 ⊢
          clear hW5 k0 k1 k2 x0 x1 x2
          by_cases hbad : gf = true /\ g4 = false /\ H = false
          · obtain ⟨rfl,rfl,rfl⟩:=hbad
            have e0 : SR = false:=HX.out (by rw [HD.out];rfl)
            subst e0
            go_wp2
            go_ret
            exact ⟨rfl,HB0.out.trans (HB5.out.mono HB0.out.size)⟩
          · have HE1 : Hid (KM.sheetsR k.sheets ar (n + 1) = true):=(show KM.sheetsR k.sheets ar (n + 1) = true by
             rw [HY.out,HS.out,HD.out]
             revert hbad
             cases gf <;> cases g4 <;> cases H <;> simp)
            cases gf with
            | false =>
             go_wp2
             go_roundw
             case rel=>exact ⟨n + 1,by omega,by go_num,HE1.out,HB5.out⟩
             case measure=>simp [intOf];omega
            | true =>
             cases g4 with
             | true =>
              go_wp2
              go_roundw
              case rel=>exact ⟨n + 1,by omega,by go_num,HE1.out,HB5.out⟩
              case measure=>simp [intOf];omega
             | false =>
              cases H with
              | true =>
               go_wp2
               go_roundw
               case rel=>exact ⟨n + 1,by omega,by go_num,HE1.out,HB5.out⟩
               case measure=>simp [intOf];omega
              | false=>exact absurd ⟨rfl,rfl,rfl⟩ hbad
        · obtain rfl : n = 255:=by omega
          have e1 : SR = true:=HRS.out.trans HS.out
          subst e1
          go_wp2
          go_ret
          exact ⟨rfl,HB0.out.trans (HBn.out.mono HB0.out.size)⟩
  · have cb : (AM.checkN ar != 0) = true:=by simpa using hc
    rw [decide_eq_false hc,Bool.false_and]
    clear HAT HEN HSO
    go_enter Tryz.func46,Tryz.ntmps46
    go_upto_region 1 with fail
    rw [<- HWA.out]
    go_wp2_with (go_at_call 90;refine HCA.out.mono ?_;rintro e w1 ⟨rfl,hb1⟩;have HB1:=hideC hb1;clear hb1)
    go_ret
    exact ⟨rfl,HB0.out.trans (HB1.out.mono HB0.out.size)⟩
end KR
end Go.Proofs.YtpgifpeohlllfaaGreat
