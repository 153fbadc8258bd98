import Derived.Test.YtpgifpeohlllfaaGreatGJ09
import Derived.Test.YtpgifpeohlllfaaGreatGJ08
import Derived.Test.YtpgifpeohlllfaaGreatGJ03
import Derived.Test.YtpgifpeohlllfaaGreatGJ02
import Derived.Test.YtpgifpeohlllfaaGreatGJ04
set_option maxHeartbeats 20000000
set_option linter.unusedVariables false
set_option maxRecDepth 100000
set_option linter.unusedSimpArgs false
namespace Go.Proofs.YtpgifpeohlllfaaGreat
namespace KW
open Go.RowKit GK
open FW (hideC add_below)
set_option maxHeartbeats 16000000 in
theorem rightEntries_any (s : KM.Sp) (va : Value) (ap : Option Addr) (cp : Nat) (uf us : List KM.Us) (lo gf nf cf gs ns cs : Nat) (bd : Int) (w0 w : World) (ha : AW.Has w0 va s.areas) (he : HasRow cellEn 3 KM.en0 w0 ap s.ents) (hfit : FitSp s) (hw : Below w0.heap.size w0 w) (hlo : w0.heap.size <= lo) (huf : OwnU lo w gf nf cf uf) (hus : OwnU lo w gs ns cs us) (hne : ¬ gf = gs) (hb1 : KM.UsBd uf nf bd) (hb2 : KM.UsBd us ns bd) (hB : bd <= 100000) (hnf : nf <= 1000) (hns : ns <= 1000) :
  Calls Tryz.prog 112 #[.agg #[.bool s.live,va,.slice ap s.ents.length cp],.slice (some ⟨gf,0,none⟩) nf cf,.slice (some ⟨gs,0,none⟩) ns cs] w fun x w'=>x = .returned (.bool (KM.entsB s.areas s.ents (uf,us) s.ents.length)) /\ Kp (fun b=>b = gf ∨ b = gs) w w' /\ (KM.entsB s.areas s.ents (uf,us) s.ents.length = true -> OwnU lo w' gf nf cf (KM.entsU s.areas s.ents (uf,us) s.ents.length).1 /\ OwnU lo w' gs ns cs (KM.entsU s.areas s.ents (uf,us) s.ents.length).2):=by
 obtain ⟨lv,ar,es⟩:=s
 simp only at ha he hfit ⊢
 have HHA:=hideC ha
 have HHE:=hideC he
 have HFA:=hideC hfit.areas
 have HFE:=hideC hfit.ent
 have hel : es.length <= 140737488351232:=hfit.ents
 have HW:=hideC hw
 have HUF:=hideC huf
 have HUS:=hideC hus
 have hgf:=huf.lt
 have hgs:=hus.lt
 have HBD:=hideC (KM.ents_bd ar es (uf,us) nf ns bd hb1 hb2)
 have HBAD:=hideC (KM.ents_bad ar es (uf,us))
 have HNX : Hid (∀ k,KM.entsB ar es (uf,us) k = true -> KM.entB ar (KM.lastP es k) (KM.entsU ar es (uf,us) k).1 (KM.entsU ar es (uf,us) k).2 (KM.enAt es k) = true -> KM.entsB ar es (uf,us) (k + 1) = true /\ KM.entsU ar es (uf,us) (k + 1) = KM.entU ar (KM.entsU ar es (uf,us) k) (KM.enAt es k)):=fun k h1 h2=>⟨by rw [KM.entsB,h1,h2];rfl,rfl⟩
 have HL1 : Hid (∀ k,KM.lastP es (k + 1) = (KM.enAt es k).page):=fun k=>by unfold KM.lastP;rw [if_neg (by omega),Nat.add_sub_cancel]
 have HL0 : Hid (KM.lastP es 0 = 0):=rfl
 obtain ⟨aa,ca,hva,_⟩:=id ha
 subst hva
 obtain ⟨na,hna⟩ : ∃ na,na = ar.length:=⟨_,rfl⟩
 rw [<- hna] at HHA ⊢
 have HK0:=hideC (Kp.alloc (fun b=>b = gf ∨ b = gs) w (.cells #[.bool lv,.slice aa na ca,.slice ap es.length cp] 43))
 have BS:=hideC (B.new w #[.bool lv,.slice aa na ca,.slice ap es.length cp] 43)
 have HUF0:=hideC (huf.kp (Kp.alloc (fun _=>False) w (.cells #[.bool lv,.slice aa na ca,.slice ap es.length cp] 43)) (fun x=>x))
 have HUS0:=hideC (hus.kp (Kp.alloc (fun _=>False) w (.cells #[.bool lv,.slice aa na ca,.slice ap es.length cp] 43)) (fun x=>x))
 clear ha he hfit hw huf hus hb1 hb2 hna
 go_enter Tryz.func112,Tryz.ntmps112
 go_wp2
 obtain ⟨W,hW⟩ : ∃ W,W = w.alloc (.cells #[.bool lv,.slice aa na ca,.slice ap es.length cp] 43):=⟨_,rfl⟩
 rw [<- hW] at HK0 BS HUF0 HUS0 ⊢
 obtain ⟨sb,hsb⟩ : ∃ sb,sb = w.heap.size:=⟨_,rfl⟩
 have hsbf : ¬ sb = gf:=by omega
 have hsbs : ¬ sb = gs:=by omega
 have hsW : W.heap.size = sb + 1:=by rw [hW,World.size_alloc,hsb]
 have h0s : w0.heap.size <= sb:=by have:=HW.out.size;omega
 have hgf2 : gf < sb:=by omega
 have hgs2 : gs < sb:=by omega
 rw [<- hsb] at BS ⊢
 have HSB:=hideC hsb
 clear hW hsb HUF HUS
 go_loopw [7,15] (fun lv iv wr=>∃ k : Nat,k <= es.length /\ iv = .int .i64 (k : Int) /\ lv = .int .i64 (KM.lastP es k) /\ KM.entsB ar es (uf,us) k = true /\ Kp (fun b=>b = gf ∨ b = gs) W wr /\ OwnU lo wr gf nf cf (KM.entsU ar es (uf,us) k).1 /\ OwnU lo wr gs ns cs (KM.entsU ar es (uf,us) k).2) (fun _ iv _=>es.length - (intOf iv).toNat)
 case atStart=>exact ⟨0,by omega,rfl,rfl,rfl,Kp.refl _ _,HUF0.out,HUS0.out⟩
 case round =>
  obtain ⟨k,hk,rfl,rfl,hbk,hkp,hof,hos⟩:=hrel
  have HKP:=hideC hkp
  have HBK:=hideC hbk
  have HOF:=hideC hof
  have HOS:=hideC hos
  obtain ⟨L,hL⟩ : ∃ L,L = KM.lastP es k:=⟨_,rfl⟩
  rw [<- hL]
  have bs:=hkp.keep BS.out (fun x=>by omega)
  have hsz:=hkp.size
  have s1 : wr.cell? ⟨sb,1,none⟩ = some (.slice aa na ca):=B.cell bs 1 rfl
  have s2 : wr.cell? ⟨sb,2,none⟩ = some (.slice ap es.length cp):=B.cell bs 2 rfl
  have HBS:=hideC bs
  by_cases hlt : k < es.length
  · have hb0:=(hkp.below (HK0.out.below HW.out HW.out.size (fun b hb=>by omega)) (by omega) (fun b hb=>by omega) : Below w0.heap.size w0 wr)
    have HB0:=hideC hb0
    obtain ⟨eb,eo,hao,hbl,hlie⟩:=HHE.out (by omega)
    subst hao
    have ce : ∀ j,j < 3 -> wr.cell? ⟨eb,eo + k * 3 + j,none⟩ = (cellEn (KM.enAt es k))[j]?:=fun j hj=>(hb0.cell (p:=⟨eb,eo + k * 3 + j,none⟩) hbl).trans (hlie k hlt j hj)
    have e0:=ce 0 (by omega)
    have e1:=ce 1 (by omega)
    have e2:=ce 2 (by omega)
    rw [Nat.add_zero] at e0
    have hfe:=HFE.out k hlt
    have HBAD:=hideC (HBAD.out k hlt)
    have HNX:=hideC (HNX.out k HBK.out)
    have HL1:=hideC (HL1.out k)
    obtain ⟨bd1,bd2,bd3,bd4⟩:=HBD.out k (by omega) HBK.out
    have hk5 : (k : Int) <= 255:=by omega
    have HUB : Hid (KM.UsBd (KM.entsU ar es (uf,us) k).1 nf 1000000 /\ KM.UsBd (KM.entsU ar es (uf,us) k).2 ns 1000000):=⟨bd1.mono (by omega),bd2.mono (by omega)⟩
    have HFD : Hid (∀ V,Below w0.heap.size w0 V -> Calls Tryz.prog 70 #[.slice aa na ca,.int .i64 (KM.enAt es k).page] V fun e w'=>e = .returned (.tuple #[.agg (AW.cellsOf (AM.findN ar (KM.enAt es k).page).1),.bool (AM.findN ar (KM.enAt es k).page).2]) /\ Below V.heap.size V w'):=fun V hV=>AW.find_any ar _ _ V (HHA.out.below hV) HFA.out
    rw [<- hL] at HBAD HNX
    have HEU : Hid (∀ u : List KM.Us × List KM.Us,KM.entU ar u (KM.enAt es k) = if (KM.enAt es k).kind = 1 then (KM.useN u.1 (KM.enAt es k) (AM.findN ar (KM.enAt es k).page).1.zero,u.2) else (u.1,KM.useN u.2 (KM.enAt es k) (AM.findN ar (KM.enAt es k).page).1.zero)):=fun u=>rfl
    obtain ⟨UU,hUU⟩ : ∃ UU,UU = KM.entsU ar es (uf,us) k:=⟨_,rfl⟩
    rw [<- hUU] at HBAD HNX HUB HOF HOS
    obtain ⟨U1,U2⟩:=UU
    unfold KM.entB at HBAD HNX
    obtain ⟨E,hE⟩ : ∃ E,E = KM.enAt es k:=⟨_,rfl⟩
    rw [<- hE] at e0 e1 e2 hfe HBAD HNX HL1 HFD HEU
    obtain ⟨pg,kd,lc⟩:=E
    simp only at HBAD HNX HUB HOF HOS hfe HL1 HFD HEU
    have x0 : wr.cell? ⟨eb,eo + k * 3,none⟩ = some (.int .i64 pg):=e0
    have x1 : wr.cell? ⟨eb,eo + k * 3 + 1,none⟩ = some (.int .i64 kd):=e1
    have x2 : wr.cell? ⟨eb,eo + k * 3 + 2,none⟩ = some (.int .i64 lc):=e2
    obtain ⟨⟨fa,ok⟩,hF⟩ : ∃ F,F = AM.findN ar pg:=⟨_,rfl⟩
    rw [<- hF] at HBAD HNX HFD HEU
    obtain ⟨f1,f2,f3,z⟩:=fa
    unfold AW.cellsOf at HFD
    simp only at HBAD HNX HFD HEU
    have HU1:=hideC (fun V (hV : OwnU lo V gf nf cf U1)=>use_any U1 ⟨pg,kd,lc⟩ z lo gf nf cf V hV hnf ⟨hfe.1,hfe.2.2⟩ (fun i hi=>HUB.out.1.2 i hi))
    have HU2:=hideC (fun V (hV : OwnU lo V gs ns cs U2)=>use_any U2 ⟨pg,kd,lc⟩ z lo gs ns cs V hV hns ⟨hfe.1,hfe.2.2⟩ (fun i hi=>HUB.out.2.2 i hi))
    obtain ⟨A1,hA1⟩ : ∃ A1,A1 = KM.useOk U1 ⟨pg,kd,lc⟩ z:=⟨_,rfl⟩
    obtain ⟨A2,hA2⟩ : ∃ A2,A2 = KM.useOk U2 ⟨pg,kd,lc⟩ z:=⟨_,rfl⟩
    rw [<- hA1,<- hA2] at HBAD HNX
    rw [<- hA1] at HU1
    rw [<- hA2] at HU2
    have hbsz:=hb0.size
    have heb : ¬ eb = wr.heap.size:=by omega
    have hsr : ¬ sb = wr.heap.size:=by omega
    have KA:=hideC (HKP.out.trans (Kp.alloc (fun b=>b = gf ∨ b = gs) wr (.cells #[.int .i64 pg,.int .i64 kd,.int .i64 lc] 45)) (fun _ _ x=>x))
    have HBA:=hideC (HB0.out.alloc HB0.out.size (.cells #[.int .i64 pg,.int .i64 kd,.int .i64 lc] 45))
    have OA:=hideC (HOF.out.kp (Kp.alloc (fun _=>False) wr (.cells #[.int .i64 pg,.int .i64 kd,.int .i64 lc] 45)) (fun x=>x))
    have OB:=hideC (HOS.out.kp (Kp.alloc (fun _=>False) wr (.cells #[.int .i64 pg,.int .i64 kd,.int .i64 lc] 45)) (fun x=>x))
    have s1A : (wr.alloc (.cells #[.int .i64 pg,.int .i64 kd,.int .i64 lc] 45)).cell? ⟨sb,1,none⟩ = some (.slice aa na ca):=B.cell (B.alloc HBS.out _) 1 rfl
    have BE:=hideC (B.new wr #[.int .i64 pg,.int .i64 kd,.int .i64 lc] 45)
    clear e0 e1 e2 hL hUU hE hF hA1 hA2 hkp hbk hof hos hb0 hlie ce bd1 bd2 bd3 bd4 HBD HHE HHA HFA HFE HUF0 HUS0 HKP HB0 HOF HOS HUB bs HBS BS HSB HL0 hk5
    cases ok with
    | false =>
     have HAF:=hideC (HBAD.out rfl)
     clear HBAD HNX HU1 HU2 HEU
     go_wp2_with (go_at_call 70;refine (HFD.out _ HBA.out).mono ?_;rintro e w1 ⟨rfl,hb1⟩;have K1:=hideC (KA.out.trans (Kp.ofBelow hb1) (fun _ _ x=>x));have O1:=hideC (OA.out.kp (Kp.ofBelow (D:=fun _=>False) hb1) (fun x=>x));have O2:=hideC (OB.out.kp (Kp.ofBelow (D:=fun _=>False) hb1) (fun x=>x));have BE1:=hideC (B.below BE.out hb1 (by simp));have t0 : w1.cell? ⟨wr.heap.size,0,none⟩ = some (.int .i64 pg):=B.cell BE1.out 0 rfl;have t1 : w1.cell? ⟨wr.heap.size,1,none⟩ = some (.int .i64 kd):=B.cell BE1.out 1 rfl;have t2 : w1.cell? ⟨wr.heap.size,2,none⟩ = some (.int .i64 lc):=B.cell BE1.out 2 rfl;have hx1 : wr.heap.size < w1.heap.size:=B.isLt BE1.out;have hx2 : ¬ wr.heap.size = w1.heap.size:=(by omega);clear hb1)
     have KX:=hideC (K1.out.trans (Kp.alloc (fun b=>b = gf ∨ b = gs) w1 (.cells #[.int .i64 f1,.int .i64 f2,.int .i64 f3,.bool z] 47)) (fun _ _ x=>x))
     go_ret
     exact ⟨congrArg (fun b=>Ending.returned (.bool b)) HAF.out.symm,HK0.out.trans KX.out (fun _ _ x=>x),fun x=>by rw [HAF.out] at x;cases x⟩
    | true =>
     by_cases hlp : pg <= L
     · have HAF:=hideC (HBAD.out (by rw [decide_eq_false (show ¬ L < pg by omega)];rfl))
       clear HBAD HNX HU1 HU2 HEU
       go_wp2_with (go_at_call 70;refine (HFD.out _ HBA.out).mono ?_;rintro e w1 ⟨rfl,hb1⟩;have K1:=hideC (KA.out.trans (Kp.ofBelow hb1) (fun _ _ x=>x));have O1:=hideC (OA.out.kp (Kp.ofBelow (D:=fun _=>False) hb1) (fun x=>x));have O2:=hideC (OB.out.kp (Kp.ofBelow (D:=fun _=>False) hb1) (fun x=>x));have BE1:=hideC (B.below BE.out hb1 (by simp));have t0 : w1.cell? ⟨wr.heap.size,0,none⟩ = some (.int .i64 pg):=B.cell BE1.out 0 rfl;have t1 : w1.cell? ⟨wr.heap.size,1,none⟩ = some (.int .i64 kd):=B.cell BE1.out 1 rfl;have t2 : w1.cell? ⟨wr.heap.size,2,none⟩ = some (.int .i64 lc):=B.cell BE1.out 2 rfl;have hx1 : wr.heap.size < w1.heap.size:=B.isLt BE1.out;have hx2 : ¬ wr.heap.size = w1.heap.size:=(by omega);clear hb1)
       have KX:=hideC (K1.out.trans (Kp.alloc (fun b=>b = gf ∨ b = gs) w1 (.cells #[.int .i64 f1,.int .i64 f2,.int .i64 f3,.bool z] 47)) (fun _ _ x=>x))
       go_ret
       exact ⟨congrArg (fun b=>Ending.returned (.bool b)) HAF.out.symm,HK0.out.trans KX.out (fun _ _ x=>x),fun x=>by rw [HAF.out] at x;cases x⟩
     · have hlp2 : L < pg:=by omega
       rw [decide_eq_true hlp2] at HBAD HNX
       by_cases k1 : kd = 1
       · rw [if_pos k1] at HBAD HNX
         have k1b : (kd == 1) = true:=by simpa using k1
         have HK:=hideC k1
         clear HU2 k1
         cases A1 with
         | false =>
          have HAF:=hideC (HBAD.out rfl)
          clear HBAD HNX HEU
          go_wp2_with (first | (go_at_call 70;refine (HFD.out _ HBA.out).mono ?_;rintro e w1 ⟨rfl,hb1⟩;have K1:=hideC (KA.out.trans (Kp.ofBelow hb1) (fun _ _ x=>x));have O1:=hideC (OA.out.kp (Kp.ofBelow (D:=fun _=>False) hb1) (fun x=>x));have O2:=hideC (OB.out.kp (Kp.ofBelow (D:=fun _=>False) hb1) (fun x=>x));have BE1:=hideC (B.below BE.out hb1 (by simp));have t0 : w1.cell? ⟨wr.heap.size,0,none⟩ = some (.int .i64 pg):=B.cell BE1.out 0 rfl;have t1 : w1.cell? ⟨wr.heap.size,1,none⟩ = some (.int .i64 kd):=B.cell BE1.out 1 rfl;have t2 : w1.cell? ⟨wr.heap.size,2,none⟩ = some (.int .i64 lc):=B.cell BE1.out 2 rfl;have hx1 : wr.heap.size < w1.heap.size:=B.isLt BE1.out;have hx2 : ¬ wr.heap.size = w1.heap.size:=(by omega);clear hb1) | (go_at_call 150;refine (HU1.out _ (O1.out.kp (Kp.alloc (fun _=>False) _ _) (fun x=>x))).mono ?_;rintro e w3 ⟨rfl,hk3,ho3⟩;have K3:=hideC ((K1.out.trans (Kp.alloc (fun b=>b = gf ∨ b = gs) _ _) (fun _ _ x=>x)).trans (hk3.mono (D1:=fun b=>b = gf ∨ b = gs) (fun b _ x=>.inl x)) (fun _ _ x=>x));have O3:=hideC ho3;have P3:=hideC ((O2.out.kp (Kp.alloc (fun _=>False) _ _) (fun x=>x)).kp hk3 (fun x=>hne x.symm));clear hk3 ho3))
          have KX:=hideC K3.out
          go_ret
          exact ⟨congrArg (fun b=>Ending.returned (.bool b)) HAF.out.symm,HK0.out.trans KX.out (fun _ _ x=>x),fun x=>by rw [HAF.out] at x;cases x⟩
         | true =>
          have HN1:=hideC (HNX.out rfl)
          clear HBAD HNX
          go_wp2_with (first | (go_at_call 70;refine (HFD.out _ HBA.out).mono ?_;rintro e w1 ⟨rfl,hb1⟩;have K1:=hideC (KA.out.trans (Kp.ofBelow hb1) (fun _ _ x=>x));have O1:=hideC (OA.out.kp (Kp.ofBelow (D:=fun _=>False) hb1) (fun x=>x));have O2:=hideC (OB.out.kp (Kp.ofBelow (D:=fun _=>False) hb1) (fun x=>x));have BE1:=hideC (B.below BE.out hb1 (by simp));have t0 : w1.cell? ⟨wr.heap.size,0,none⟩ = some (.int .i64 pg):=B.cell BE1.out 0 rfl;have t1 : w1.cell? ⟨wr.heap.size,1,none⟩ = some (.int .i64 kd):=B.cell BE1.out 1 rfl;have t2 : w1.cell? ⟨wr.heap.size,2,none⟩ = some (.int .i64 lc):=B.cell BE1.out 2 rfl;have hx1 : wr.heap.size < w1.heap.size:=B.isLt BE1.out;have hx2 : ¬ wr.heap.size = w1.heap.size:=(by omega);clear hb1) | (go_at_call 150;refine (HU1.out _ (O1.out.kp (Kp.alloc (fun _=>False) _ _) (fun x=>x))).mono ?_;rintro e w3 ⟨rfl,hk3,ho3⟩;have K3:=hideC ((K1.out.trans (Kp.alloc (fun b=>b = gf ∨ b = gs) _ _) (fun _ _ x=>x)).trans (hk3.mono (D1:=fun b=>b = gf ∨ b = gs) (fun b _ x=>.inl x)) (fun _ _ x=>x));have O3:=hideC ho3;have P3:=hideC ((O2.out.kp (Kp.alloc (fun _=>False) _ _) (fun x=>x)).kp hk3 (fun x=>hne x.symm));clear hk3 ho3))
          go_roundw
          case rel=>exact ⟨k + 1,by omega,by go_num,by rw [HL1.out],HN1.out.1,K3.out,by rw [HN1.out.2,HEU.out,if_pos HK.out];exact O3.out,by rw [HN1.out.2,HEU.out,if_pos HK.out];exact P3.out⟩
          case measure=>simp [intOf];omega
       · rw [if_neg k1] at HBAD HNX
         clear HU1
         have k1b : (kd == 1) = false:=by simpa using k1
         by_cases k2 : kd = 2
         · rw [if_pos k2] at HBAD HNX
           have k2b : (kd == 2) = true:=by simpa using k2
           have HK:=hideC k1
           clear k1 k2
           cases A2 with
           | false =>
            have HAF:=hideC (HBAD.out rfl)
            clear HBAD HNX HEU
            go_wp2_with (first | (go_at_call 70;refine (HFD.out _ HBA.out).mono ?_;rintro e w1 ⟨rfl,hb1⟩;have K1:=hideC (KA.out.trans (Kp.ofBelow hb1) (fun _ _ x=>x));have O1:=hideC (OA.out.kp (Kp.ofBelow (D:=fun _=>False) hb1) (fun x=>x));have O2:=hideC (OB.out.kp (Kp.ofBelow (D:=fun _=>False) hb1) (fun x=>x));have BE1:=hideC (B.below BE.out hb1 (by simp));have t0 : w1.cell? ⟨wr.heap.size,0,none⟩ = some (.int .i64 pg):=B.cell BE1.out 0 rfl;have t1 : w1.cell? ⟨wr.heap.size,1,none⟩ = some (.int .i64 kd):=B.cell BE1.out 1 rfl;have t2 : w1.cell? ⟨wr.heap.size,2,none⟩ = some (.int .i64 lc):=B.cell BE1.out 2 rfl;have hx1 : wr.heap.size < w1.heap.size:=B.isLt BE1.out;have hx2 : ¬ wr.heap.size = w1.heap.size:=(by omega);clear hb1) | (go_at_call 150;refine (HU2.out _ (O2.out.kp (Kp.alloc (fun _=>False) _ _) (fun x=>x))).mono ?_;rintro e w3 ⟨rfl,hk3,ho3⟩;have K3:=hideC ((K1.out.trans (Kp.alloc (fun b=>b = gf ∨ b = gs) _ _) (fun _ _ x=>x)).trans (hk3.mono (D1:=fun b=>b = gf ∨ b = gs) (fun b _ x=>.inr x)) (fun _ _ x=>x));have O3:=hideC ho3;have P3:=hideC ((O1.out.kp (Kp.alloc (fun _=>False) _ _) (fun x=>x)).kp hk3 hne);clear hk3 ho3))
            have KX:=hideC K3.out
            go_ret
            exact ⟨congrArg (fun b=>Ending.returned (.bool b)) HAF.out.symm,HK0.out.trans KX.out (fun _ _ x=>x),fun x=>by rw [HAF.out] at x;cases x⟩
           | true =>
            have HN1:=hideC (HNX.out rfl)
            clear HBAD HNX
            go_wp2_with (first | (go_at_call 70;refine (HFD.out _ HBA.out).mono ?_;rintro e w1 ⟨rfl,hb1⟩;have K1:=hideC (KA.out.trans (Kp.ofBelow hb1) (fun _ _ x=>x));have O1:=hideC (OA.out.kp (Kp.ofBelow (D:=fun _=>False) hb1) (fun x=>x));have O2:=hideC (OB.out.kp (Kp.ofBelow (D:=fun _=>False) hb1) (fun x=>x));have BE1:=hideC (B.below BE.out hb1 (by simp));have t0 : w1.cell? ⟨wr.heap.size,0,none⟩ = some (.int .i64 pg):=B.cell BE1.out 0 rfl;have t1 : w1.cell? ⟨wr.heap.size,1,none⟩ = some (.int .i64 kd):=B.cell BE1.out 1 rfl;have t2 : w1.cell? ⟨wr.heap.size,2,none⟩ = some (.int .i64 lc):=B.cell BE1.out 2 rfl;have hx1 : wr.heap.size < w1.heap.size:=B.isLt BE1.out;have hx2 : ¬ wr.heap.size = w1.heap.size:=(by omega);clear hb1) | (go_at_call 150;refine (HU2.out _ (O2.out.kp (Kp.alloc (fun _=>False) _ _) (fun x=>x))).mono ?_;rintro e w3 ⟨rfl,hk3,ho3⟩;have K3:=hideC ((K1.out.trans (Kp.alloc (fun b=>b = gf ∨ b = gs) _ _) (fun _ _ x=>x)).trans (hk3.mono (D1:=fun b=>b = gf ∨ b = gs) (fun b _ x=>.inr x)) (fun _ _ x=>x));have O3:=hideC ho3;have P3:=hideC ((O1.out.kp (Kp.alloc (fun _=>False) _ _) (fun x=>x)).kp hk3 hne);clear hk3 ho3))
            go_roundw
            case rel=>exact ⟨k + 1,by omega,by go_num,by rw [HL1.out],HN1.out.1,K3.out,by rw [HN1.out.2,HEU.out,if_neg HK.out];exact P3.out,by rw [HN1.out.2,HEU.out,if_neg HK.out];exact O3.out⟩
            case measure=>simp [intOf];omega
         · rw [if_neg k2] at HBAD HNX
           have k2b : (kd == 2) = false:=by simpa using k2
           have HAF:=hideC (HBAD.out rfl)
           clear HBAD HNX HU2 HEU k1 k2
           go_wp2_with (go_at_call 70;refine (HFD.out _ HBA.out).mono ?_;rintro e w1 ⟨rfl,hb1⟩;have K1:=hideC (KA.out.trans (Kp.ofBelow hb1) (fun _ _ x=>x));have O1:=hideC (OA.out.kp (Kp.ofBelow (D:=fun _=>False) hb1) (fun x=>x));have O2:=hideC (OB.out.kp (Kp.ofBelow (D:=fun _=>False) hb1) (fun x=>x));have BE1:=hideC (B.below BE.out hb1 (by simp));have t0 : w1.cell? ⟨wr.heap.size,0,none⟩ = some (.int .i64 pg):=B.cell BE1.out 0 rfl;have t1 : w1.cell? ⟨wr.heap.size,1,none⟩ = some (.int .i64 kd):=B.cell BE1.out 1 rfl;have t2 : w1.cell? ⟨wr.heap.size,2,none⟩ = some (.int .i64 lc):=B.cell BE1.out 2 rfl;have hx1 : wr.heap.size < w1.heap.size:=B.isLt BE1.out;have hx2 : ¬ wr.heap.size = w1.heap.size:=(by omega);clear hb1)
           have KX:=hideC (K1.out.trans (Kp.alloc (fun b=>b = gf ∨ b = gs) w1 (.cells #[.int .i64 f1,.int .i64 f2,.int .i64 f3,.bool z] 47)) (fun _ _ x=>x))
           go_ret
           exact ⟨congrArg (fun b=>Ending.returned (.bool b)) HAF.out.symm,HK0.out.trans KX.out (fun _ _ x=>x),fun x=>by rw [HAF.out] at x;cases x⟩
  · obtain rfl : k = es.length:=by omega
    clear hL
    go_wp2
    go_ret
    exact ⟨congrArg (fun b=>Ending.returned (.bool b)) HBK.out.symm,HK0.out.trans HKP.out (fun _ _ x=>x),fun _=>⟨HOF.out,HOS.out⟩⟩
end KW
namespace LW
open Go.RowKit
open W (hideC)
theorem anyZero_nil (ao : Option Addr) (cap : Nat) (w : World) :
  Calls Tryz.prog 99 #[.slice ao 0 cap] w fun e w'=>e = .returned (.bool (LM.anyZeroB [])) /\ Below w.heap.size w w':=by
 go_enter Tryz.func99,Tryz.ntmps99
 go_wp2
 refine wp_loop_rounds 1 ?_
 rw [rounds_succ]
 go_wp2
 go_ret
 exact ⟨rfl,Below.refl _ _⟩
set_option maxHeartbeats 1000000 in
theorem anyZero_some (l : List AM.Ar) (b off cap : Nat) (w : World) (hl : AM.Lie w b off l) (hn : l.length <= 140737488351232) :
  Calls Tryz.prog 99 #[.slice (some ⟨b,off,none⟩) l.length cap] w fun e w'=>e = .returned (.bool (LM.anyZeroB l)) /\ Below w.heap.size w w':=by
 go_enter Tryz.func99,Tryz.ntmps99
 go_wp2
 go_loopw [7] (fun i wr=>∃ k : Nat,k <= l.length /\ i = .int .i64 k /\ LM.zeroTo l k = false /\ Below w.heap.size w wr) (fun i _=>l.length - (intOf i).toNat)
 case atStart=>exact ⟨0,by omega,rfl,rfl,Below.refl _ _⟩
 case round =>
  obtain ⟨k,hk,rfl,hz,hb⟩:=hrel
  have HZ:=hideC hz
  have HBr:=hideC hb
  clear hz
  by_cases hlt : k < l.length
  · obtain ⟨c0,c1,c2,c3⟩:=(hl.below hb) k hlt
    obtain ⟨a,ha⟩ : ∃ a,a = AM.at_ l k:=⟨_,rfl⟩
    rw [<- ha] at c0 c1 c2 c3
    have HA:=hideC ha
    clear ha hb
    by_cases hzr : a.zero = true
    · have HX : Hid (LM.anyZeroB l = true):=LM.zero_at l k hlt (by rw [<- HA.out];exact hzr)
      go_wp2
      go_ret
      exact ⟨ret_bool (by rw [HX.out]),HBr.out.alloc HBr.out.size _⟩
    · have hzr' : a.zero = false:=by simpa using hzr
      clear hzr
      have HX : Hid (LM.zeroTo l (k + 1) = false):=by
       show _ = _
       simp only [LM.zeroTo]
       rw [HZ.out,<- HA.out,hzr']
       rfl
      go_wp2
      go_roundw
      case rel=>exact ⟨k + 1,by omega,by go_num,HX.out,HBr.out.alloc HBr.out.size _⟩
      case measure=>simp [intOf];omega
  · obtain rfl : k = l.length:=by omega
    go_wp2
    go_ret
    exact ⟨ret_bool HZ.out.symm,HBr.out⟩
theorem anyZero_any (l : List AM.Ar) (v : Value) (w : World) (h : AW.Has w v l) (hf : AW.AllFit l) :
  Calls Tryz.prog 99 #[v] w fun e w'=>e = .returned (.bool (LM.anyZeroB l)) /\ Below w.heap.size w w':=by
 obtain ⟨ao,cap,rfl,h⟩:=h
 rcases h with rfl | ⟨b,off,rfl,hl⟩
 · exact anyZero_nil ao cap w
 · exact anyZero_some l b off cap w hl hf.2
set_option maxHeartbeats 1000000 in
theorem rightSheets_any (hs : List LM.Sh) (ao : Option Addr) (cap : Nat) (w : World) (h : LM.HasH w ao hs) (hf : LM.FitHs hs) :
  Calls Tryz.prog 101 #[.slice ao hs.length cap] w fun e w'=>e = .returned (.bool (LM.sheetsB hs)) /\ Below w.heap.size w w':=by
 have HF:=hideC hf
 have HH:=hideC h
 have hn : hs.length <= 140737488351232:=hf.1
 clear h hf
 go_enter Tryz.func101,Tryz.ntmps101
 go_wp2
 go_loopw [7] (fun i wr=>∃ k : Nat,k <= hs.length /\ i = .int .i64 k /\ LM.sheetsTo hs k = true /\ Below w.heap.size w wr) (fun i _=>hs.length - (intOf i).toNat)
 case atStart=>exact ⟨0,by omega,rfl,rfl,Below.refl _ _⟩
 case round =>
  obtain ⟨k,hk,rfl,hz,hb⟩:=hrel
  have HZ:=hideC hz
  have HBr:=hideC hb
  clear hz
  by_cases hlt : k < hs.length
  · obtain ⟨b,off,hao,hbl,hlie⟩:=(HH.out.below hb) (by omega)
    subst hao
    obtain ⟨c0,c1,c2,c3⟩:=hlie k hlt
    have hfk:=HF.out.2 k hlt
    have HE : Hid (LM.sheetsTo hs (k + 1) = LM.sheetB (LM.shAt hs k)):=by
     show _ = _
     simp only [LM.sheetsTo]
     rw [HZ.out,Bool.true_and]
    have HE2 : Hid (LM.sheetB (LM.shAt hs k) = false -> LM.sheetsB hs = false):=fun e=>LM.sheets_bad hs k hlt e
    obtain ⟨s,hse⟩ : ∃ s,s = LM.shAt hs k:=⟨_,rfl⟩
    rw [<- hse] at c0 c1 c2 c3 hfk HE HE2
    clear hse hlie hb
    have HBA:=hideC (HBr.out.alloc HBr.out.size (.cells #[.int .i64 s.page,.string s.data,.slice s.ao s.fixes.length s.cap] 50))
    have HC : Hid (∀ W,Below wr.heap.size wr W -> Calls Tryz.prog 146 #[.agg #[.int .i64 s.page,.string s.data,.slice s.ao s.fixes.length s.cap]] W fun e w'=>e = .returned (.bool (LM.sheetB s)) /\ Below W.heap.size W w'):=fun W hb=>rightSheet_any s W (c3.below hb) hfk
    clear c3 hfk
    cases e : LM.sheetB s with
    | true =>
     rw [e] at HC HE
     clear e
     go_wp2_with (go_at_call 146;refine (HC.out _ ((Below.refl _ _).alloc (Nat.le_refl _) _)).mono ?_;rintro e w1 ⟨rfl,hb⟩;have HBA:=hideC (HBA.out.trans (hb.mono HBA.out.size));clear hb)
     go_roundw
     case rel=>exact ⟨k + 1,by omega,by go_num,HE.out,HBA.out⟩
     case measure=>simp [intOf];omega
    | false =>
     have HX:=hideC (HE2.out e)
     rw [e] at HC
     clear e HE2 HE
     go_wp2_with (go_at_call 146;refine (HC.out _ ((Below.refl _ _).alloc (Nat.le_refl _) _)).mono ?_;rintro e w1 ⟨rfl,hb⟩;have HBA:=hideC (HBA.out.trans (hb.mono HBA.out.size));clear hb)
     go_ret
     exact ⟨ret_bool (by rw [HX.out]),HBA.out⟩
  · obtain rfl : k = hs.length:=by omega
    go_wp2
    go_ret
    exact ⟨ret_bool HZ.out.symm,HBr.out⟩
theorem slice_eq {a a' : Option Addr} {n n' m m' : Nat} (h1 : a = a') (h2 : n = n') (h3 : m = m') : Value.slice a n m = .slice a' n' m':=by rw [h1,h2,h3]
set_option maxHeartbeats 3000000 in
theorem forEach_any (l : List AM.Ar) (hs : List LM.Sh) (en : Int) (va : Value) (ao : Option Addr) (cap : Nat) (w : World) (ha : AW.Has w va l) (hc : AM.checkN l = 0) (h : LM.HasH w ao hs) (hn : hs.length <= 140737488351232) (hcap : hs.length <= cap) :
  Calls Tryz.prog 100 #[.agg #[va,.slice ao hs.length cap,.int .i64 en]] w fun e w'=>e = .returned (.bool (LM.forEachB l hs)) /\ Below w.heap.size w w':=by
 obtain ⟨b,off,hbo⟩ : ∃ b off,0 < hs.length -> ao = some ⟨b,off,none⟩ /\ b < w.heap.size /\ LM.LieH w b off hs:=by
  by_cases h0 : 0 < hs.length
  · obtain ⟨b,off,h1,h2,h3⟩:=h h0
    exact ⟨b,off,fun _=>⟨h1,h2,h3⟩⟩
  · exact ⟨0,0,fun g=>(h0 g).elim⟩
 have HBO:=hideC hbo
 have HC:=hideC hc
 have hlen:=AM.good_len l hc
 obtain ⟨aa,ca,rfl,hal⟩:=ha
 have HAL : Hid (0 < l.length -> ∃ b off,aa = some ⟨b,off,none⟩ /\ AM.Lie w b off l):=fun g=>by
  rcases hal with rfl | ⟨b,off,e,hl⟩
  · exact (Nat.lt_irrefl 0 g).elim
  · exact ⟨b,off,e,hl⟩
 clear hbo hc h hal
 have HB:=hideC ((Below.refl w.heap.size w).alloc (Nat.le_refl _) (.cells #[.slice aa l.length ca,.slice ao hs.length cap,.int .i64 en] 30))
 go_enter Tryz.func100,Tryz.ntmps100
 go_wp2
 go_loopw [12,3] (fun ix v wr=>∃ (i c : Nat) (ao' : Option Addr),i <= l.length /\ ix = .int .i64 i /\ v = .slice ao' (hs.length - c) (cap - c) /\ c <= hs.length /\ (c < hs.length -> ao' = some ⟨b,off + c * 3,none⟩) /\ (hs.take c).map (·.page) = LM.pagesTo l i /\ Below w.heap.size w wr) (fun ix _ _=>l.length - (intOf ix).toNat)
 case atStart=>exact ⟨0,0,ao,by omega,rfl,rfl,by omega,fun g=>by rw [(HBO.out g).1,Nat.zero_mul,Nat.add_zero],rfl,HB.out⟩
 case round =>
  obtain ⟨i,c,ao',hi,rfl,rfl,hcl,hao,htk,hb⟩:=hrel
  have HAO:=hideC hao
  have HTK:=hideC htk
  have HBr:=hideC hb
  clear hao htk
  by_cases hlt : i < l.length
  · obtain ⟨ba,offa,hae,hl⟩:=HAL.out (by omega)
    subst hae
    obtain ⟨c0,c1,c2,c3⟩:=(hl.below hb) i hlt
    have hbk:=AM.okAt_pages l i (AM.good_pages l HC.out i hlt)
    have HSP : Hid (∀ n,n < (AM.at_ l i).pages.toNat -> ∃ t,LM.pagesOf l = (LM.pagesTo l i ++ LM.pagesN (AM.at_ l i) n) ++ ((AM.at_ l i).page + (n : Int)) :: t):=fun n hn=>LM.pages_split l i hlt n hn
    have HNX : Hid (LM.pagesTo l (i + 1) = LM.pagesTo l i ++ LM.pagesN (AM.at_ l i) (AM.at_ l i).pages.toNat):=rfl
    obtain ⟨a,hae⟩ : ∃ a,a = AM.at_ l i:=⟨_,rfl⟩
    rw [<- hae] at c0 c1 c2 c3 hbk HSP HNX
    clear hae hb
    obtain ⟨P,hP⟩ : ∃ P : Nat,a.pages = (P : Int):=⟨a.pages.toNat,by omega⟩
    rw [hP] at c1 hbk HSP HNX
    rw [Int.toNat_natCast] at HSP HNX
    have HBA:=hideC (HBr.out.alloc HBr.out.size (.cells #[.int .i64 a.page,.int .i64 (P : Int),.int .i64 a.prot,.bool a.zero] 47))
    have BA:=hideC (B.new wr #[.int .i64 a.page,.int .i64 (P : Int),.int .i64 a.prot,.bool a.zero] 47)
    go_wp2
    go_loopw [18,3] (fun nx v wi=>∃ (n c : Nat) (ao' : Option Addr),n <= P /\ nx = .int .i64 n /\ v = .slice ao' (hs.length - c) (cap - c) /\ c <= hs.length /\ (c < hs.length -> ao' = some ⟨b,off + c * 3,none⟩) /\ (hs.take c).map (·.page) = LM.pagesTo l i ++ LM.pagesN a n /\ Below w.heap.size w wi /\ wi.heap[wr.heap.size]? = some (.cells #[.int .i64 a.page,.int .i64 (P : Int),.int .i64 a.prot,.bool a.zero] 47 (0,0))) (fun nx _ _=>P - (intOf nx).toNat)
    case atStart=>exact ⟨0,c,ao',by omega,rfl,rfl,hcl,HAO.out,by rw [HTK.out];simp [LM.pagesN],HBA.out,BA.out⟩
    case round =>
     obtain ⟨n,c,ao',hn',rfl,rfl,hcl,hao,htk,hb,hba⟩:=hrel
     have HAO:=hideC hao
     have HTK:=hideC htk
     have HBi:=hideC hb
     have BAi:=hideC hba
     have x0:=B.cell hba 0 rfl
     clear hao htk hba
     by_cases hlp : n < P
     · obtain ⟨t,ht⟩:=HSP.out n hlp
       have HT:=hideC ht
       clear ht
       by_cases hce : c = hs.length
       · have HX : Hid (LM.forEachB l hs = false):=LM.each_short (by have h:=HTK.out;rw [hce] at h;exact h) HT.out
         have hz : hs.length - c = 0:=by omega
         rw [hz]
         clear hz hce
         go_wp2
         go_quiet (fail)
         go_wp2
         go_ret
         exact ⟨ret_bool HX.out.symm,below_drewN HBi.out _⟩
       · have hcl' : c < hs.length:=by omega
         have hcz : (((hs.length - c : Nat) : Int) == 0) = false:=by simp;omega
         have hcz2 : 0 < hs.length - c:=by omega
         obtain ⟨-,g2,g3⟩:=HBO.out (by omega)
         obtain ⟨d0,d1,d2,d3⟩:=(LM.lieH (hb.mono (Nat.le_of_eq rfl)) g2 g3) c hcl'
         have hae:=HAO.out hcl'
         subst hae
         have hle1 : (1 : Int) <= ((hs.length - c : Nat) : Int):=by omega
         by_cases hpg : (LM.shAt hs c).page = a.page + (n : Int)
         · have HX : Hid ((hs.take (c + 1)).map (·.page) = LM.pagesTo l i ++ LM.pagesN a (n + 1)):=by
            show _ = _
            rw [LM.map_take_snoc hs c hcl',HTK.out,hpg,LM.pagesN_succ,List.append_assoc]
           rw [hpg] at d0
           clear hpg d1 d2 d3 hb hce
           by_cases hc1 : cap - c = 1
           · go_wp2
             go_quiet (fail)
             go_wp2
             go_roundw
             case rel=>exact ⟨n + 1,c + 1,_,by omega,by go_num,slice_eq rfl (by omega) (by omega),by omega,fun g=>by omega,HX.out,below_drewN HBi.out _,BAi.out⟩
             case measure=>simp [intOf];omega
           · go_wp2
             go_quiet (fail)
             go_wp2
             go_roundw
             case rel=>exact ⟨n + 1,c + 1,_,by omega,by go_num,slice_eq rfl (by omega) (by omega),by omega,fun g=>by simp [Nat.add_mul,Nat.add_assoc],HX.out,below_drewN HBi.out _,BAi.out⟩
             case measure=>simp [intOf];omega
         · have HX : Hid (LM.forEachB l hs = false):=LM.each_other hcl' HTK.out HT.out hpg
           have hpz : ((LM.shAt hs c).page == a.page + (n : Int)) = false:=by simpa using hpg
           clear hpg d1 d2 d3 hb hce
           go_wp2
           go_quiet (fail)
           go_wp2
           go_ret
           exact ⟨ret_bool HX.out.symm,below_drewN HBi.out _⟩
     · obtain rfl : n = P:=by omega
       go_wp2
       go_roundw
       case rel=>exact ⟨i + 1,c,ao',by omega,by go_num,rfl,hcl,HAO.out,by rw [HNX.out];exact HTK.out,HBi.out⟩
       case measure=>simp [intOf];omega
  · obtain rfl : i = l.length:=by omega
    have HX:=hideC (LM.each_done hcl HTK.out)
    go_wp2
    go_ret
    refine ⟨ret_bool ?_,HBr.out⟩
    rw [HX.out]
    rw [Bool.eq_iff_iff]
    simp
    omega
theorem ret_int {k : IntKind} {a b : Int} (h : a = b) : Ending.returned (.int k a) = .returned (.int k b):=by rw [h]
set_option maxHeartbeats 3000000 in
theorem rightEntry_any (l : List AM.Ar) (va vs : Value) (en : Int) (w : World) (ha : AW.Has w va l) (hf : AW.AllFit l) (hc : AM.checkN l = 0) (he : M.I64 en) (hva : ∃ ao n c,va = .slice ao n c) (hvs : ∃ ao n c,vs = .slice ao n c) :
  Calls Tryz.prog 102 #[.agg #[va,vs,.int .i64 en]] w fun e w'=>e = .returned (.bool (LM.entB l en)) /\ Below w.heap.size w w':=by
 have HFN : Hid (AM.findN l (en.tdiv 16) = AM.findFrom l (en.tdiv 16)):=by show _ = _;simp [AM.findN,hc]
 have HPR:=hideC (LM.found_prot l hc (en.tdiv 16))
 have HE : Hid (LM.entB l en = ((AM.findFrom l (en.tdiv 16)).2 && (decide (2 <= (AM.findFrom l (en.tdiv 16)).1.prot) && decide (en.tmod 8 = 0)))):=rfl
 have HFD : Hid (∀ W,Below w.heap.size w W -> Calls Tryz.prog 70 #[va,.int .i64 (en.tdiv 16)] W fun e w'=>e = .returned (.tuple #[.agg (AW.cellsOf (AM.findFrom l (en.tdiv 16)).1),.bool (AM.findFrom l (en.tdiv 16)).2]) /\ Below W.heap.size W w'):=fun W hb=>by
  have h:=AW.find_any l va (en.tdiv 16) W (ha.below hb) hf
  rw [HFN.out] at h
  exact h
 obtain ⟨r,hr⟩ : ∃ r,r = AM.findFrom l (en.tdiv 16):=⟨_,rfl⟩
 rw [<- hr] at HPR HE HFD
 clear hr HFN ha hf hc
 obtain ⟨⟨pg,pn,pr,zr⟩,ok⟩:=r
 simp only [AW.cellsOf] at HFD HPR HE
 obtain ⟨aa,na,ca,rfl⟩:=hva
 obtain ⟨ao,no,co,rfl⟩:=hvs
 unfold M.I64 at he
 have HB:=hideC ((Below.refl w.heap.size w).alloc (Nat.le_refl _) (.cells #[.slice aa na ca,.slice ao no co,.int .i64 en] 30))
 have BX:=hideC (B.new w #[.slice aa na ca,.slice ao no co,.int .i64 en] 30)
 rw [HE.out]
 cases ok with
 | false =>
  go_enter Tryz.func102,Tryz.ntmps102
  go_wp2_with (go_at_call 70;refine (HFD.out _ HB.out).mono ?_;rintro e w1 ⟨rfl,hb⟩;have HB:=hideC (HB.out.trans (hb.mono HB.out.size));clear hb)
  go_ret
  exact ⟨rfl,HB.out.alloc HB.out.size _⟩
 | true =>
  have hpr:=LM.prot_cases (HPR.out rfl)
  have b0 : bits BinOp.and IntKind.i64 0 2 = 0:=by decide
  have b1 : bits BinOp.and IntKind.i64 1 2 = 0:=by decide
  have b2 : bits BinOp.and IntKind.i64 2 2 = 2:=by decide
  have b3 : bits BinOp.and IntKind.i64 3 2 = 2:=by decide
  clear HPR
  by_cases h8 : en.tmod 8 = 0
  · rcases hpr with rfl | rfl | rfl | rfl
    all_goals
     go_enter Tryz.func102,Tryz.ntmps102
     go_wp2_with (go_at_call 70;refine (HFD.out _ HB.out).mono ?_;rintro e w1 ⟨rfl,hb⟩;have HB:=hideC (HB.out.trans (hb.mono HB.out.size));have BX:=hideC (B.below BX.out hb (B.isLt BX.out));have hbx:=B.isLt BX.out;have x2:=B.cell BX.out 2 rfl;clear hb)
     go_ret
     exact ⟨ret_bool (by simp [h8]),HB.out.alloc HB.out.size _⟩
  · have h8' : (en.tmod 8 == 0) = false:=by simpa using h8
    rcases hpr with rfl | rfl | rfl | rfl
    all_goals
     go_enter Tryz.func102,Tryz.ntmps102
     go_wp2_with (go_at_call 70;refine (HFD.out _ HB.out).mono ?_;rintro e w1 ⟨rfl,hb⟩;have HB:=hideC (HB.out.trans (hb.mono HB.out.size));have BX:=hideC (B.below BX.out hb (B.isLt BX.out));have hbx:=B.isLt BX.out;have x2:=B.cell BX.out 2 rfl;clear hb)
     go_ret
     exact ⟨ret_bool (by simp [h8]),HB.out.alloc HB.out.size _⟩
theorem isSlice {w : World} {v : Value} {l : List AM.Ar} (h : AW.Has w v l) : ∃ ao n c,v = .slice ao n c:=by
 obtain ⟨ao,cap,h,_⟩:=h
 exact ⟨ao,_,cap,h⟩
set_option maxHeartbeats 3000000 in
theorem check_any (l : List AM.Ar) (hs : List LM.Sh) (en : Int) (va : Value) (ao : Option Addr) (cap : Nat) (w : World) (ha : AW.Has w va l) (hf : AW.AllFit l) (h : LM.HasH w ao hs) (hfs : LM.FitHs hs) (hcap : hs.length <= cap) (he : M.I64 en) :
  Calls Tryz.prog 53 #[.agg #[va,.slice ao hs.length cap,.int .i64 en]] w fun e w'=>e = .returned (.int .i64 (LM.checkL l hs en)) /\ Below w.heap.size w w':=by
 have HCK : Hid (∀ W,Below w.heap.size w W -> Calls Tryz.prog 98 #[va] W fun e w'=>e = .returned (.int .i64 (AM.checkN l)) /\ Below W.heap.size W w'):=fun W hb=>AW.check_any l va W (ha.below hb) hf
 have HZ : Hid (∀ W,Below w.heap.size w W -> Calls Tryz.prog 99 #[va] W fun e w'=>e = .returned (.bool (LM.anyZeroB l)) /\ Below W.heap.size W w'):=fun W hb=>anyZero_any l va W (ha.below hb) hf
 have HEA : Hid (AM.checkN l = 0 -> ∀ W,Below w.heap.size w W -> Calls Tryz.prog 100 #[.agg #[va,.slice ao hs.length cap,.int .i64 en]] W fun e w'=>e = .returned (.bool (LM.forEachB l hs)) /\ Below W.heap.size W w'):=fun hc W hb=>forEach_any l hs en va ao cap W (ha.below hb) hc (h.below hb) hfs.1 hcap
 have HSH : Hid (∀ W,Below w.heap.size w W -> Calls Tryz.prog 101 #[.slice ao hs.length cap] W fun e w'=>e = .returned (.bool (LM.sheetsB hs)) /\ Below W.heap.size W w'):=fun W hb=>rightSheets_any hs ao cap W (h.below hb) hfs
 have HEN : Hid (AM.checkN l = 0 -> ∀ W,Below w.heap.size w W -> Calls Tryz.prog 102 #[.agg #[va,.slice ao hs.length cap,.int .i64 en]] W fun e w'=>e = .returned (.bool (LM.entB l en)) /\ Below W.heap.size W w'):=fun hc W hb=>rightEntry_any l va _ en W (ha.below hb) hf hc he (isSlice ha) ⟨_,_,_,rfl⟩
 have HR : Hid (LM.checkL l hs en = if AM.checkN l = 0 then (if !LM.anyZeroB l && (LM.forEachB l hs && (LM.sheetsB hs && LM.entB l en)) then 0 else 1) else AM.checkN l):=rfl
 obtain ⟨aa,na,ca,rfl⟩:=isSlice ha
 clear ha hf h hfs hcap he
 obtain ⟨N,hN⟩ : ∃ N,N = hs.length:=⟨_,rfl⟩
 rw [<- hN] at HEA HSH HEN
 rw [<- hN]
 obtain ⟨z,hz⟩ : ∃ z,z = LM.anyZeroB l:=⟨_,rfl⟩
 rw [<- hz] at HZ HR
 obtain ⟨q,hq⟩ : ∃ q,q = LM.forEachB l hs:=⟨_,rfl⟩
 rw [<- hq] at HEA HR
 obtain ⟨s,hs'⟩ : ∃ s,s = LM.sheetsB hs:=⟨_,rfl⟩
 rw [<- hs'] at HSH HR
 obtain ⟨r,hr⟩ : ∃ r,r = LM.entB l en:=⟨_,rfl⟩
 rw [<- hr] at HEN HR
 obtain ⟨C,hC⟩ : ∃ C,C = AM.checkN l:=⟨_,rfl⟩
 rw [<- hC] at HCK HEA HEN HR
 rw [HR.out]
 clear hN hz hq hs' hr hC HR
 have HB:=hideC ((Below.refl w.heap.size w).alloc (Nat.le_refl _) (.cells #[.slice aa na ca,.slice ao N cap,.int .i64 en] 30))
 have BX:=hideC (B.new w #[.slice aa na ca,.slice ao N cap,.int .i64 en] 30)
 by_cases hc : C = 0
 · subst hc
   have HEA1:=hideC (HEA.out rfl)
   have HEN1:=hideC (HEN.out rfl)
   clear HEA HEN
   rw [if_pos rfl]
   cases z <;> cases q <;> cases s <;> cases r
   all_goals
    go_enter Tryz.func53,Tryz.ntmps53
    go_wp2_with (first
     | (go_at_call 98;refine (HCK.out _ HB.out).mono ?_;rintro e w1 ⟨rfl,hb⟩;have HB:=hideC (HB.out.trans (hb.mono HB.out.size));have BX:=hideC (B.below BX.out hb (B.isLt BX.out));have x0:=B.cell BX.out 0 rfl;have x1:=B.cell BX.out 1 rfl;have x2:=B.cell BX.out 2 rfl;clear hb)
     | (go_at_call 99;refine (HZ.out _ HB.out).mono ?_;rintro e w1 ⟨rfl,hb⟩;have HB:=hideC (HB.out.trans (hb.mono HB.out.size));have BX:=hideC (B.below BX.out hb (B.isLt BX.out));have x0:=B.cell BX.out 0 rfl;have x1:=B.cell BX.out 1 rfl;have x2:=B.cell BX.out 2 rfl;clear hb)
     | (go_at_call 100;refine (HEA1.out _ HB.out).mono ?_;rintro e w1 ⟨rfl,hb⟩;have HB:=hideC (HB.out.trans (hb.mono HB.out.size));have BX:=hideC (B.below BX.out hb (B.isLt BX.out));have x0:=B.cell BX.out 0 rfl;have x1:=B.cell BX.out 1 rfl;have x2:=B.cell BX.out 2 rfl;clear hb)
     | (go_at_call 101;refine (HSH.out _ HB.out).mono ?_;rintro e w1 ⟨rfl,hb⟩;have HB:=hideC (HB.out.trans (hb.mono HB.out.size));have BX:=hideC (B.below BX.out hb (B.isLt BX.out));have x0:=B.cell BX.out 0 rfl;have x1:=B.cell BX.out 1 rfl;have x2:=B.cell BX.out 2 rfl;clear hb)
     | (go_at_call 102;refine (HEN1.out _ HB.out).mono ?_;rintro e w1 ⟨rfl,hb⟩;have HB:=hideC (HB.out.trans (hb.mono HB.out.size));clear hb))
    go_ret
    exact ⟨rfl,HB.out⟩
 · have hc' : (C == 0) = false:=by simpa using hc
   rw [if_neg hc]
   go_enter Tryz.func53,Tryz.ntmps53
   go_wp2_with (go_at_call 98;refine (HCK.out _ HB.out).mono ?_;rintro e w1 ⟨rfl,hb⟩;have HB:=hideC (HB.out.trans (hb.mono HB.out.size));clear hb)
   go_ret
   exact ⟨rfl,HB.out⟩
end LW
namespace LM
open Go.RowKit
structure Ob where
 i : M.Im
 a : M.At
 base : Int
def ob0 : Ob:=⟨⟨⟨#[]⟩,[],[],[],[],0⟩,⟨none,0,none,0,none,0,none,0⟩,0⟩
def obAt (l : List Ob) (k : Nat) : Ob:=l.getD k ob0
def cellsO (o : Ob) : Array Value:=#[.string o.i.name,.slice o.a.an o.i.needs.length o.a.cn,.slice o.a.ag o.i.segs.length o.a.cg,.slice o.a.ay o.i.syms.length o.a.cy,.slice o.a.ar o.i.rels.length o.a.cr,.int .i64 o.i.entry,.int .i64 o.base]
def LieO (w : World) (b off : Nat) (l : List Ob) : Prop:=∀ k,k < l.length ->
 (w.cell? ⟨b,off + k * 7,none⟩ = some (.string (obAt l k).i.name) /\ w.cell? ⟨b,off + k * 7 + 1,none⟩ = some (.slice (obAt l k).a.an (obAt l k).i.needs.length (obAt l k).a.cn) /\
  w.cell? ⟨b,off + k * 7 + 2,none⟩ = some (.slice (obAt l k).a.ag (obAt l k).i.segs.length (obAt l k).a.cg) /\ w.cell? ⟨b,off + k * 7 + 3,none⟩ = some (.slice (obAt l k).a.ay (obAt l k).i.syms.length (obAt l k).a.cy) /\
  w.cell? ⟨b,off + k * 7 + 4,none⟩ = some (.slice (obAt l k).a.ar (obAt l k).i.rels.length (obAt l k).a.cr) /\ w.cell? ⟨b,off + k * 7 + 5,none⟩ = some (.int .i64 (obAt l k).i.entry) /\ w.cell? ⟨b,off + k * 7 + 6,none⟩ = some (.int .i64 (obAt l k).base)) /\ M.HasIm w (obAt l k).a (obAt l k).i
theorem lieO {w w' : World} {b off : Nat} {l : List Ob} (hb : Below w.heap.size w w') (hlt : b < w.heap.size) (h : LieO w b off l) : LieO w' b off l:=fun k hk=>by
 obtain ⟨⟨c0,c1,c2,c3,c4,c5,c6⟩,hi⟩:=h k hk
 exact ⟨⟨(M.below_cell hb hlt).trans c0,(M.below_cell hb hlt).trans c1,(M.below_cell hb hlt).trans c2,(M.below_cell hb hlt).trans c3,(M.below_cell hb hlt).trans c4,(M.below_cell hb hlt).trans c5,(M.below_cell hb hlt).trans c6⟩,hi.below hb⟩
def HasO (w : World) (ao : Option Addr) (l : List Ob) : Prop:=M.HasBy LieO w ao l
theorem HasO.below {w w' : World} {ao : Option Addr} {l : List Ob} (h : HasO w ao l) (hb : Below w.heap.size w w') : HasO w' ao l:=M.HasBy.below (lie:=LieO) (fun hb hlt h=>lieO hb hlt h) h hb
def lastSeg (i : M.Im) : M.Sg:=M.sgAt i.segs (i.segs.length - 1)
def endO (o : Ob) : Int:=o.base + (lastSeg o.i).page + (lastSeg o.i).pages
def addrO (o : Ob) (at' : Int) : Int:=o.base * 16 + at'
def protN (s : M.Sg) : Int:=if s.wr then (if s.ex then 3 else 1) else (if s.ex then 2 else 0)
theorem seg_bounds {i : M.Im} (hc : M.chkN i = 0) (k : Nat) (hk : k < i.segs.length) : 0 <= (M.sgAt i.segs k).page /\ 1 <= (M.sgAt i.segs k).pages /\ (M.sgAt i.segs k).page + (M.sgAt i.segs k).pages <= 255 /\ ((M.sgAt i.segs k).data.size : Int) <= (M.sgAt i.segs k).pages * 16:=by
 unfold M.chkN at hc
 split at hc
 · simp at hc
 · split at hc
   · simp at hc
   · split at hc
     · simp at hc
     · rename_i h
       have h' : M.rangesB i = true:=by simpa using h
       unfold M.rangesB at h'
       have:=M.all_at M.rangeB M.sg0 i.segs k hk h'
       unfold M.rangeB at this
       exact of_decide_eq_true this
theorem counts_of {i : M.Im} (hc : M.chkN i = 0) : 1 <= i.segs.length /\ i.segs.length <= 6 /\ i.needs.length <= 4 /\ i.syms.length <= 12 /\ i.rels.length <= 16:=by
 unfold M.chkN at hc
 split at hc
 · simp at hc
 · split at hc
   · simp at hc
   · rename_i h
     have h' : M.countsB i = true:=by simpa using h
     unfold M.countsB at h'
     exact of_decide_eq_true h'
theorem last_bounds {i : M.Im} (hc : M.chkN i = 0) : 0 <= (lastSeg i).page /\ 1 <= (lastSeg i).pages /\ (lastSeg i).page + (lastSeg i).pages <= 255:=by
 have h1:=counts_of hc
 have h2:=seg_bounds hc (i.segs.length - 1) (by omega)
 exact ⟨h2.1,h2.2.1,h2.2.2.1⟩
end LM
end Go.Proofs.YtpgifpeohlllfaaGreat
