import Derived.Test.YtpgifpeohlllfaaGreatGJ44
import Derived.Test.YtpgifpeohlllfaaGreatGJ25
import Derived.Test.YtpgifpeohlllfaaGreatGJ39
import Derived.Test.YtpgifpeohlllfaaGreatGJ40
set_option maxHeartbeats 20000000
set_option linter.unusedVariables false
set_option maxRecDepth 100000
set_option linter.unusedSimpArgs false
namespace Go.Proofs.YtpgifpeohlllfaaGreat
namespace KZ
open Go.RowKit GK KO
open FW (hideC add_below)
open KW (cellFr cellSl cellEn HasRow KAt HasK cellsK aggEn cellI memK FitK liveK OutOpen kinC)
open KS (Lc cellLc lc0 lcAt blk SpOwn)
open KX (FilX Held ids)
open KY (CopyK tailK forErr OutFor infoSp new_lc)
def forkA (k : KM.Kn) (sp : Int) : KM.Kn × Int × Int:=if liveK k sp ≠ 0 then (kn0,0,liveK k sp) else if k.spaces.length = 4 then (kn0,0,2) else if KM.room k.spaces + AM.totalN (KM.spAt k.spaces sp.toNat).areas > (k.slots.length : Int) then (kn0,0,8) else (KM.forkK k sp.toNat,(k.spaces.length : Int),0)
theorem share_bd {k : KM.Kn} (hR : KM.RightK k) {j : Nat} (hj : j < k.spaces.length) {s : KM.Sp} (hs : s = KM.spAt k.spaces j) (n : Nat) (hn : n <= s.ents.length) : (∀ i,i < k.frames.length -> -1000000 <= (KM.frAt (KM.shareTo k s.ents n).frames i).refs /\ (KM.frAt (KM.shareTo k s.ents n).frames i).refs <= 1000000) /\ (∀ i,i < k.slots.length -> -1000000 <= (KM.slAt (KM.shareTo k s.ents n).slots i).refs /\ (KM.slAt (KM.shareTo k s.ents n).slots i).refs <= 1000000):=by
 subst hs
 obtain ⟨_,_,_,_,_,h6,h7⟩:=KM.share_parts hR hj n hn
 obtain ⟨r1,r2⟩:=KX.refs_few hR
 have hen:=KX.ents_few hR hj
 have hl : ∀ (kd i : Int),(KM.nm (KM.spAt k.spaces j).areas kd i ((KM.spAt k.spaces j).ents.take n)).length <= 512:=fun kd i=>by
  unfold KM.nm
  rw [List.length_map]
  refine Nat.le_trans (List.length_filter_le _ _) ?_
  rw [List.length_take]
  omega
 refine ⟨fun i hi=>?_,fun i hi=>?_⟩
 · rw [h6 i hi]
   have:=r1 i hi
   have:=hl 1 i
   show _ <= (KM.frAt k.frames i).refs + _ /\ (KM.frAt k.frames i).refs + _ <= _
   omega
 · rw [h7 i hi]
   have:=r2 i hi
   have:=hl 2 i
   show _ <= (KM.slAt k.slots i).refs + _ /\ (KM.slAt k.slots i).refs + _ <= _
   omega
def FinF (WA W : World) (mb : Nat) (k : KM.Kn) (X : List Value) (v' : Value) : Prop:=∃ S hs,KM.Same k.sheets hs /\ Km WA.heap.size mb 104 X W S (KM.withS k hs) /\ S.vP = v' /\ Below WA.heap.size WA W
theorem fin_parts {w WA W : World} {mb : Nat} {k : KM.Kn} {X : List Value} {aG : Option Addr} {nG cG : Nat} (h : FinF WA W mb k X (.slice aG nG cG)) (hRB : ∀ V,Below WA.heap.size WA V -> V.heap[w.heap.size + 1]? = some (.cells #[.slice none 0 0,.slice none 0 0,.slice none 0 0,.slice none 0 0,.int .i64 0] 27 (0,0))) (hb0 : Below w.heap.size w WA) (hrl : w.heap.size + 1 < WA.heap.size) (vs : List Value) :
  ∃ aS nS cS aF nF cF aL nL cL hd,(W.cell? ⟨mb,0,none⟩ = some (.slice aS nS cS) /\ W.cell? ⟨mb,1,none⟩ = some (.slice aF nF cF) /\ W.cell? ⟨mb,2,none⟩ = some (.slice aL nL cL) /\ W.cell? ⟨mb,3,none⟩ = some (.slice aG nG cG) /\ W.cell? ⟨mb,4,none⟩ = some (.int .i64 hd)) /\ W.heap[w.heap.size + 1]? = some (.cells #[.slice none 0 0,.slice none 0 0,.slice none 0 0,.slice none 0 0,.int .i64 0] 27 (0,0)) /\ ∀ U,Kp (fun b=>b = w.heap.size + 1) W U -> OutKn w k vs (.returned (.tuple (Value.agg #[.slice aS nS cS,.slice aF nF cF,.slice aL nL cL,.slice aG nG cG,.int .i64 hd] :: vs).toArray)) U:=by
 obtain ⟨S,hs,hsame,hkm,hv,hbl⟩:=h
 obtain ⟨aS,nS,cS,eS⟩ : ∃ b n d,S.vS = .slice b n d:=by obtain ⟨b,d,e,_⟩:=row_form hkm.sheets;exact ⟨b,_,d,e⟩
 obtain ⟨aF,nF,cF,eF⟩ : ∃ b n d,S.vF = .slice b n d:=by obtain ⟨b,d,e,_⟩:=row_form hkm.frames;exact ⟨b,_,d,e⟩
 obtain ⟨aL,nL,cL,eL⟩ : ∃ b n d,S.vL = .slice b n d:=by obtain ⟨b,d,e,_⟩:=row_form hkm.slots;exact ⟨b,_,d,e⟩
 have hbw : Below w.heap.size w W:=hb0.trans (hbl.mono hb0.size)
 refine ⟨aS,nS,cS,aF,nF,cF,aL,nL,cL,_,⟨by rw [<- eS];exact hkm.c0,by rw [<- eF];exact hkm.c1,by rw [<- eL];exact hkm.c2,by rw [<- hv];exact hkm.c3,hkm.c4⟩,hRB _ hbl,fun U hU=>⟨S,hs,hsame,by rw [eS,eF,eL,hv];rfl,(hkm.toKr.kp hU (fun b hb e=>by have:=(hkm.bnd b hb).1;omega)).mono hb0.size,Kp.below hbw hU hbw.size (fun b e=>by omega)⟩⟩
set_option maxHeartbeats 16000000 in
theorem fork_any (hcp : CopyK) (k : KM.Kn) (a : KAt) (sp : Int) (w : World) (hK : HasK w a k) (hF : FitK k) (hsp : M.I64 sp) :
  Calls Tryz.prog 39 #[.agg (cellsK a k),.int .i64 sp] w (OutKn w (forkA k sp).1 [.int .i64 (forkA k sp).2.1,.int .i64 (forkA k sp).2.2]):=by
 obtain ⟨WA,hWA⟩ : ∃ WA,WA = (w.alloc (.cells (cellsK a k) 27)).alloc (.cells #[.slice none 0 0,.slice none 0 0,.slice none 0 0,.slice none 0 0,.int .i64 0] 27):=⟨_,rfl⟩
 have hb0 : Below w.heap.size w WA:=by rw [hWA];exact ((Below.refl _ _).alloc (Nat.le_refl _) _).alloc (by simp) _
 have kb : WA.heap[w.heap.size]? = some (.cells (cellsK a k) 27 (0,0)):=by rw [hWA];exact B.alloc (B.new w _ _) _
 have rb : WA.heap[w.heap.size + 1]? = some (.cells #[.slice none 0 0,.slice none 0 0,.slice none 0 0,.slice none 0 0,.int .i64 0] 27 (0,0)):=by
  have:=B.new (w.alloc (.cells (cellsK a k) 27)) #[.slice none 0 0,.slice none 0 0,.slice none 0 0,.slice none 0 0,.int .i64 0] 27
  rw [World.size_alloc] at this
  rw [hWA];exact this
 have RB : Hid (∀ V,Below WA.heap.size WA V -> V.heap[w.heap.size + 1]? = some (.cells #[.slice none 0 0,.slice none 0 0,.slice none 0 0,.slice none 0 0,.int .i64 0] 27 (0,0))):=fun V hb=>B.below rb hb (B.isLt rb)
 have k0 : WA.cell? ⟨w.heap.size,0,none⟩ = some (.slice a.aS k.sheets.length a.cS):=B.cell kb 0 rfl
 have k1 : WA.cell? ⟨w.heap.size,1,none⟩ = some (.slice a.aF k.frames.length a.cF):=B.cell kb 1 rfl
 have k2 : WA.cell? ⟨w.heap.size,2,none⟩ = some (.slice a.aL k.slots.length a.cL):=B.cell kb 2 rfl
 have k3 : WA.cell? ⟨w.heap.size,3,none⟩ = some (.slice a.aP k.spaces.length a.cP):=B.cell kb 3 rfl
 have k4 : WA.cell? ⟨w.heap.size,4,none⟩ = some (.int .i64 k.hand):=B.cell kb 4 rfl
 have HWA:=hideC hWA
 have HB0:=hideC hb0
 have hrl:=B.isLt rb
 have HOP:=hideC (KW.open_any k a sp WA (hK.below hb0) hF hsp)
 have HRT : Hid (∀ (V : World) (C : Int),Below w.heap.size w V -> OutKn w kn0 [.int .i64 0,.int .i64 C] (.returned (.tuple #[.agg #[.slice none 0 0,.slice none 0 0,.slice none 0 0,.slice none 0 0,.int .i64 0],.int .i64 0,.int .i64 C])) V):=fun V C hV=>out_none _ hV
 by_cases c : liveK k sp = 0
 · obtain ⟨hR,hsp0,hj,hlive⟩:=KY.live_right c
   obtain ⟨j,hje⟩ : ∃ j : Nat,sp = (j : Int):=⟨sp.toNat,by omega⟩
   subst hje
   rw [Int.toNat_natCast] at hj hlive
   have hsm:=KY.small_right hR hF
   have HOP2 : Hid (Calls Tryz.prog 69 #[.agg (cellsK a k),.int .i64 (j : Int)] WA fun e w'=>∃ mb,e = .returned (.tuple #[.pointer (some ⟨mb,0,none⟩),.int .i64 0]) /\ WA.heap.size <= mb /\ w'.heap[mb]? = some (.cells (memK a k) 104 (0,0)) /\ Below WA.heap.size WA w'):=HOP.out.mono fun e w' ⟨h1,h2⟩=>by
    rcases h2 with ⟨_,mb,e1,e2,e3⟩ | ⟨g,_⟩
    · exact ⟨mb,e1,e2,e3,h1⟩
    · exact absurd c g
   obtain ⟨pb,po,hpo,hpl,hli⟩:=hK.spaces (by omega)
   obtain ⟨va,ap,cp,v0,v1,v2,hha,hhp,_⟩:=hli j hj
   have hha2:=hha
   obtain ⟨aa,ca,hva,_⟩:=hha
   subst hva
   have hrm:=KW.room_bd k.spaces k.spaces.length
   have hcc:=hR.c
   have hA0 : forkA k (j : Int) = if k.spaces.length = 4 then (kn0,0,2) else if KM.room k.spaces + AM.totalN (KM.spAt k.spaces j).areas > (k.slots.length : Int) then (kn0,0,8) else (KM.forkK k j,(k.spaces.length : Int),0):=by
    unfold forkA
    rw [if_neg (fun x=>x c),Int.toNat_natCast]
   rw [hA0]
   have hfit:=(hF.sp j hj).areas
   have hbw : ∀ {V : World},Below WA.heap.size WA V -> Below w.heap.size w V:=fun hV=>hb0.trans (hV.mono hb0.size)
   have hji : (j : Int) < (k.spaces.length : Int):=by omega
   have hsj:=hR.sp hj
   have hek : ∀ n,n < (KM.spAt k.spaces j).ents.length -> ((KM.enAt (KM.spAt k.spaces j).ents n).kind = 1 -> 0 <= (KM.enAt (KM.spAt k.spaces j).ents n).loc /\ (KM.enAt (KM.spAt k.spaces j).ents n).loc < (k.frames.length : Int)) /\ ((KM.enAt (KM.spAt k.spaces j).ents n).kind ≠ 1 -> 0 <= (KM.enAt (KM.spAt k.spaces j).ents n).loc /\ (KM.enAt (KM.spAt k.spaces j).ents n).loc < (k.slots.length : Int)):=fun n hn=>by
    obtain ⟨_,e2⟩:=hsj.ent _ (KM.getD_mem (d:=KM.en0) hn)
    rcases e2 with ⟨e4,e5,e6⟩ | ⟨e4,e5,e6⟩
    · exact ⟨fun _=>⟨e5,e6⟩,fun g=>absurd e4 g⟩
    · exact ⟨fun g=>absurd (e4.symm.trans g) (by decide),fun _=>⟨e5,e6⟩⟩
   have hen:=KX.ents_few hR hj
   have har:=AM.good_len _ hsj.areas
   have hrf:=KX.refs_few hR
   have hshp:=fun n hn=>KM.share_parts hR hj n hn
   obtain ⟨sj,hsjn⟩ : ∃ sj,sj = KM.spAt k.spaces j:=⟨_,rfl⟩
   have hfk : KM.forkK k j = { KM.shareTo k sj.ents sj.ents.length with spaces:=(KM.shareTo k sj.ents sj.ents.length).spaces ++ [sj] }:=by rw [hsjn];rfl
   rw [<- hsjn] at v0 v1 v2 hha2 hhp hfit hek hen har hlive hshp ⊢
   obtain ⟨lv,ars,ens⟩:=sj
   simp only at v0 v1 v2 hha2 hhp hfit hek hen har hlive hshp hfk
   have HV : Hid (∀ V,Below WA.heap.size WA V -> V.cell? ⟨pb,po + j * 3,none⟩ = some (.bool lv) /\ V.cell? ⟨pb,po + j * 3 + 1,none⟩ = some (.slice aa ars.length ca) /\ V.cell? ⟨pb,po + j * 3 + 2,none⟩ = some (.slice ap ens.length cp)):=fun V hV=>⟨((hbw hV).cell (p:=⟨pb,po + j * 3,none⟩) hpl).trans v0,((hbw hV).cell (p:=⟨pb,po + j * 3 + 1,none⟩) hpl).trans v1,((hbw hV).cell (p:=⟨pb,po + j * 3 + 2,none⟩) hpl).trans v2⟩
   have HM3 : Hid (∀ (V : World) mb,V.heap[mb]? = some (.cells (memK a k) 104 (0,0)) -> V.cell? ⟨mb,3,none⟩ = some (.slice (some ⟨pb,po,none⟩) k.spaces.length a.cP)):=fun V mb h=>by
    have:=B.cell (v:=.slice a.aP k.spaces.length a.cP) h 3 rfl
    rw [hpo] at this
    exact this
   have HM2 : Hid (∀ (V : World) mb,V.heap[mb]? = some (.cells (memK a k) 104 (0,0)) -> V.cell? ⟨mb,2,none⟩ = some (.slice a.aL k.slots.length a.cL)):=fun V mb h=>B.cell h 2 rfl
   by_cases c4 : k.spaces.length = 4
   · rw [if_pos c4]
     have HFIN:=hideC (fun V (h : Below w.heap.size w V)=>HRT.out V 2 h)
     obtain ⟨P,hP⟩ : ∃ P,P = OutKn w kn0 [.int .i64 0,.int .i64 2]:=⟨_,rfl⟩
     show Calls _ _ _ _ (OutKn w kn0 [.int .i64 0,.int .i64 2])
     rw [<- hP] at HFIN ⊢
     have c4i : (k.spaces.length : Int) = 4:=by omega
     unfold cellsK at HOP2 HWA ⊢
     clear hK hF hsp hA0 c hP hWA hb0 kb rb HOP hR hsp0 hj hli v0 v1 v2 hha2 hhp hfit hpo hcc hrm hsm c4 HRT hsjn hfk hek hen har hlive hshp hsj hrf hbw
     go_enter Tryz.func39,Tryz.ntmps39
     go_upto_region 1 with fail
     rw [<- HWA.out]
     go_upto_region 5 with (go_at_call 69;refine HOP2.out.mono ?_;rintro e w1 ⟨mb,rfl,hm1,hm2,hb1⟩;have HM1:=hideC hm1;have HMM:=hideC hm2;have HB1:=hideC hb1;have m3:=HM3.out _ _ hm2;obtain ⟨u0,u1,u2⟩:=HV.out _ hb1;clear hm1 hm2 hb1)
     have HB3:=hideC (HB1.out.alloc HB1.out.size (.cells #[.bool lv,.slice aa ars.length ca,.slice ap ens.length cp] 43))
     have B3:=hideC (B.new w1 #[.bool lv,.slice aa ars.length ca,.slice ap ens.length cp] 43)
     have M3:=hideC (B.alloc HMM.out (.cells #[.bool lv,.slice aa ars.length ca,.slice ap ens.length cp] 43))
     have HMX : Hid (w1.heap.size ≠ mb):=(show w1.heap.size ≠ mb from fun e=>by have:=B.isLt HMM.out;omega)
     obtain ⟨W3,hW3⟩ : ∃ W3,W3 = w1.alloc (.cells #[.bool lv,.slice aa ars.length ca,.slice ap ens.length cp] 43):=⟨_,rfl⟩
     obtain ⟨fb,hfb⟩ : ∃ fb,fb = w1.heap.size:=⟨_,rfl⟩
     rw [<- hW3] at HB3 B3 M3 ⊢
     rw [<- hfb] at B3 HMX ⊢
     clear hW3 hfb m3 u0 u1 u2
     have m3:=HM3.out _ _ M3.out
     go_upto_region 6 with fail
     have R1:=hideC (RB.out _ HB3.out)
     have HB4:=hideC (HB0.out.trans (HB3.out.mono HB0.out.size))
     obtain ⟨y0,y1,y2,y3,y4⟩:=B.c5 R1.out
     have f0:=B.free R1.out 0
     have f1:=B.free R1.out 1
     have f2:=B.free R1.out 2
     have f3:=B.free R1.out 3
     have f4:=B.free R1.out 4
     have h5:=hideC (fun V=>ret5 R1.out (.slice none 0 0) (.slice none 0 0) (.slice none 0 0) (.slice none 0 0) (.int .i64 0) (V:=V))
     go_wp2
     obtain ⟨r1,r2⟩:=h5.out _ rfl
     obtain ⟨y0,y1,y2,y3,y4⟩:=B.c5 r1
     refine bodyPost_ret (v:=.tuple #[.agg #[.slice none 0 0,.slice none 0 0,.slice none 0 0,.slice none 0 0,.int .i64 0],.int .i64 0,.int .i64 2]) (by simp [results,Tryz.results39,go_sem,y0,y1,y2,y3,y4]) rfl ?_
     exact HFIN.out _ (Kp.below HB4.out r2 HB4.out.size (fun b e=>by omega))
   rw [if_neg c4]
   have HPG : Hid (∀ V mb,Below WA.heap.size WA V -> V.heap[mb]? = some (.cells (memK a k) 104 (0,0)) -> Calls Tryz.prog 83 #[.pointer (some ⟨mb,0,none⟩)] V fun e w'=>e = .returned (.int .i64 (KM.room k.spaces)) /\ Below V.heap.size V w'):=fun V mb hV hm=>KW.pages_any k.spaces a.aP a.cP mb V (hK.spaces.below (hbw hV)) (fun i hi=>(hF.sp i hi).areas) (by omega) (B.cell hm 3 rfl)
   have HT1 : Hid (∀ V,Below WA.heap.size WA V -> Calls Tryz.prog 54 #[.slice aa ars.length ca] V fun e w'=>e = .returned (.int .i64 (AM.totalN ars)) /\ Below V.heap.size V w'):=fun V hV=>AW.total_any _ _ V (hha2.below (hbw hV)) hfit
   have hd1:=KW.total_bd ars
   have c4i : ¬ (k.spaces.length : Int) = 4:=by omega
   by_cases cr : KM.room k.spaces + AM.totalN ars > (k.slots.length : Int)
   · rw [if_pos cr]
     obtain ⟨RM,hRM⟩ : ∃ RM,RM = KM.room k.spaces:=⟨_,rfl⟩
     obtain ⟨T1,hT1⟩ : ∃ T1,T1 = AM.totalN ars:=⟨_,rfl⟩
     have hrm2 : 0 <= RM /\ RM <= 65025 * 4:=by
      rw [hRM]
      unfold KM.room
      omega
     rw [<- hT1] at hd1 HT1 cr
     rw [<- hRM] at HPG cr
     have HFIN:=hideC (fun V (h : Below w.heap.size w V)=>HRT.out V 8 h)
     obtain ⟨P,hP⟩ : ∃ P,P = OutKn w kn0 [.int .i64 0,.int .i64 8]:=⟨_,rfl⟩
     show Calls _ _ _ _ (OutKn w kn0 [.int .i64 0,.int .i64 8])
     rw [<- hP] at HFIN ⊢
     have c2 : (k.slots.length : Int) < RM + T1:=cr
     unfold cellsK at HOP2 HWA ⊢
     clear hK hF hsp hA0 c hP hWA hb0 kb rb HOP hR hsp0 hj hli v0 v1 v2 hha2 hhp hfit hpo hcc hrm hsm c4 HRT hsjn hfk hek hen har hlive hshp hsj hrf hbw hRM hT1 cr
     go_enter Tryz.func39,Tryz.ntmps39
     go_upto_region 1 with fail
     rw [<- HWA.out]
     go_upto_region 5 with (go_at_call 69;refine HOP2.out.mono ?_;rintro e w1 ⟨mb,rfl,hm1,hm2,hb1⟩;have HM1:=hideC hm1;have HMM:=hideC hm2;have HB1:=hideC hb1;have m3:=HM3.out _ _ hm2;obtain ⟨u0,u1,u2⟩:=HV.out _ hb1;clear hm1 hm2 hb1)
     have HB3:=hideC (HB1.out.alloc HB1.out.size (.cells #[.bool lv,.slice aa ars.length ca,.slice ap ens.length cp] 43))
     have B3:=hideC (B.new w1 #[.bool lv,.slice aa ars.length ca,.slice ap ens.length cp] 43)
     have M3:=hideC (B.alloc HMM.out (.cells #[.bool lv,.slice aa ars.length ca,.slice ap ens.length cp] 43))
     have HMX : Hid (w1.heap.size ≠ mb):=(show w1.heap.size ≠ mb from fun e=>by have:=B.isLt HMM.out;omega)
     obtain ⟨W3,hW3⟩ : ∃ W3,W3 = w1.alloc (.cells #[.bool lv,.slice aa ars.length ca,.slice ap ens.length cp] 43):=⟨_,rfl⟩
     obtain ⟨fb,hfb⟩ : ∃ fb,fb = w1.heap.size:=⟨_,rfl⟩
     rw [<- hW3] at HB3 B3 M3 ⊢
     rw [<- hfb] at B3 HMX ⊢
     clear hW3 hfb m3 u0 u1 u2
     have m3:=HM3.out _ _ M3.out
     go_upto_region 7 with fail
     have hkin:=Q.kin_some W3
     have q1 : ∀ x : Q.Kin W3.heap.size W3,x.world.cell? ⟨fb,1,none⟩ = some (.slice aa ars.length ca):=fun x=>B.cell (B.below B3.out x.keeps (B.isLt B3.out)) 1 rfl
     have q2 : ∀ x : Q.Kin W3.heap.size W3,x.world.cell? ⟨mb,2,none⟩ = some (.slice a.aL k.slots.length a.cL):=fun x=>HM2.out _ _ (B.below M3.out x.keeps (B.isLt M3.out))
     have HPG3:=hideC (fun V (hV : Below W3.heap.size W3 V)=>HPG.out V mb (HB3.out.trans (hV.mono HB3.out.size)) (B.below M3.out hV (B.isLt M3.out)))
     have HT13:=hideC (fun V (hV : Below W3.heap.size W3 V)=>HT1.out V (HB3.out.trans (hV.mono HB3.out.size)))
     clear m3
     refine Q.region_kin (by kernel_rfl) (by kernel_rfl) ?_
     repeat (first | go_big_quiet_step ((first | (go_at_call 83;exact kinC _ HPG3.out) | (go_at_call 54;exact kinC _ HT13.out))) | quiet_step ((first | (go_at_call 83;exact kinC _ HPG3.out) | (go_at_call 54;exact kinC _ HT13.out))))
     refine wpQuiet_nil ?_
     rintro _ ⟨X,rfl⟩
     have HBX:=hideC (HB3.out.trans (X.keeps.mono HB3.out.size))
     have R1:=hideC (RB.out _ HBX.out)
     have HB4:=hideC (HB0.out.trans (HBX.out.mono HB0.out.size))
     obtain ⟨y0,y1,y2,y3,y4⟩:=B.c5 R1.out
     have f0:=B.free R1.out 0
     have f1:=B.free R1.out 1
     have f2:=B.free R1.out 2
     have f3:=B.free R1.out 3
     have f4:=B.free R1.out 4
     have h5:=hideC (fun V=>ret5 R1.out (.slice none 0 0) (.slice none 0 0) (.slice none 0 0) (.slice none 0 0) (.int .i64 0) (V:=V))
     go_wp2
     obtain ⟨r1,r2⟩:=h5.out _ rfl
     obtain ⟨y0,y1,y2,y3,y4⟩:=B.c5 r1
     refine bodyPost_ret (v:=.tuple #[.agg #[.slice none 0 0,.slice none 0 0,.slice none 0 0,.slice none 0 0,.int .i64 0],.int .i64 0,.int .i64 8]) (by simp [results,Tryz.results39,go_sem,y0,y1,y2,y3,y4]) rfl ?_
     exact HFIN.out _ (Kp.below HB4.out r2 HB4.out.size (fun b e=>by omega))
   rw [if_neg cr]
   have HOW : Hid (∀ V mb,Below WA.heap.size WA V -> WA.heap.size <= mb -> V.heap[mb]? = some (.cells (memK a k) 104 (0,0)) -> Calls Tryz.prog 84 #[.pointer (some ⟨mb,0,none⟩)] V fun e w'=>e = .returned (.tuple #[]) /\ ∃ S hs,KM.Same k.sheets hs /\ Km WA.heap.size mb 104 (tailK k) w' S (KM.withS k hs) /\ (∀ b,S.lab b ≠ .no -> b = mb ∨ V.heap.size <= b) /\ Kp (fun b=>b = mb) V w'):=fun V mb hV hm1 hm2=>KY.own_any hcp k a mb V (hK.below (hbw hV)) hsm hm2 WA.heap.size hm1
   have HEN : Hid (∀ V n,Below WA.heap.size WA V -> n < ens.length -> ∃ eb eo,ap = some ⟨eb,eo,none⟩ /\ V.cell? ⟨eb,eo + n * 3,none⟩ = some (.int .i64 (KM.enAt ens n).page) /\ V.cell? ⟨eb,eo + n * 3 + 1,none⟩ = some (.int .i64 (KM.enAt ens n).kind) /\ V.cell? ⟨eb,eo + n * 3 + 2,none⟩ = some (.int .i64 (KM.enAt ens n).loc)):=fun V n hV hn=>by
    obtain ⟨eb,eo,e1,e2,e3⟩:=(hhp.below (hbw hV)) (by omega)
    have z0:=e3 n hn 0 (by omega)
    rw [Nat.add_zero] at z0
    exact ⟨eb,eo,e1,z0,e3 n hn 1 (by omega),e3 n hn 2 (by omega)⟩
   have HCT : Hid (∀ V S mb hs n,n < ens.length -> Km WA.heap.size mb 104 (tailK k) V S (KM.withS (KM.shareTo k ens n) hs) -> Calls Tryz.prog 85 #[.pointer (some ⟨mb,0,none⟩),.agg #[.int .i64 (KM.enAt ens n).page,.int .i64 (KM.enAt ens n).kind,.int .i64 (KM.enAt ens n).loc],.int .i64 1] V fun e w'=>e = .returned (.tuple #[]) /\ Km WA.heap.size mb 104 (tailK k) w' S (KM.withS (KM.shareTo k ens (n + 1)) hs) /\ Ch S V S w'):=fun V S mb hs n hn hV=>by
    have hp:=hshp n (by omega)
    have hbd:=share_bd hR hj hsjn n (Nat.le_of_lt hn)
    refine (KX.count_any (KM.withS (KM.shareTo k ens n) hs) S V (KM.enAt ens n) 1 hV (fun g=>?_) (fun g=>?_) (.inl rfl) ⟨fun g=>?_,fun g=>?_⟩).mono fun e w' ⟨h1,h2,h3⟩=>⟨h1,?_,h3⟩
    · show _ /\ _ < ((KM.shareTo k ens n).frames.length : Int)
      rw [hp.2.2.2.1];exact (hek n hn).1 g
    · show _ /\ _ < ((KM.shareTo k ens n).slots.length : Int)
      rw [hp.2.2.2.2.1];exact (hek n hn).2 g
    · exact hbd.1 _ (by have:=(hek n hn).1 g;omega)
    · exact hbd.2 _ (by have:=(hek n hn).2 g;omega)
    · rw [KM.count_withS] at h2
      exact h2
   have HSH : Hid (∀ n,n <= ens.length -> (KM.shareTo k ens n).spaces.length = k.spaces.length):=fun n hn=>by rw [(hshp n hn).2.2.1]
   have HSK : Hid ((KM.forkK k j).sheets = k.sheets /\ (KM.forkK k j).hand = k.hand /\ (KM.forkK k j).spaces.length = k.spaces.length + 1):=by
    have hp:=hshp ens.length (Nat.le_refl _)
    rw [hfk]
    refine ⟨hp.1,hp.2.1,?_⟩
    show ((KM.shareTo k ens ens.length).spaces ++ [_]).length = _
    rw [List.length_append,hp.2.2.1]
    rfl
   have HFK : Hid (∀ hs,KM.withS (KM.forkK k j) hs = { KM.withS (KM.shareTo k ens ens.length) hs with spaces:=(KM.withS (KM.shareTo k ens ens.length) hs).spaces ++ [⟨lv,ars,ens⟩] }):=fun hs=>by rw [hfk];rfl
   have HHA : Hid (∀ V,Below WA.heap.size WA V -> AW.Has V (.slice aa ars.length ca) ars /\ HasRow cellEn 3 KM.en0 V ap ens):=fun V hV=>⟨hha2.below (hbw hV),hhp.below (hbw hV)⟩
   obtain ⟨RM,hRM⟩ : ∃ RM,RM = KM.room k.spaces:=⟨_,rfl⟩
   obtain ⟨T1,hT1⟩ : ∃ T1,T1 = AM.totalN ars:=⟨_,rfl⟩
   have hrm2 : 0 <= RM /\ RM <= 65025 * 4:=by
    rw [hRM]
    unfold KM.room
    omega
   rw [<- hT1] at hd1 HT1 cr
   rw [<- hRM] at HPG cr
   obtain ⟨P,hP⟩ : ∃ P,P = OutKn w (KM.forkK k j) [.int .i64 (k.spaces.length : Int),.int .i64 0]:=⟨_,rfl⟩
   show Calls _ _ _ _ (OutKn w (KM.forkK k j) [.int .i64 (k.spaces.length : Int),.int .i64 0])
   rw [<- hP]
   have HP:=hideC hP
   have c2 : ¬ (k.slots.length : Int) < RM + T1:=cr
   have hns4 : k.spaces.length <= 4:=by omega
   unfold cellsK at HOP2 HWA ⊢
   clear hK hF hsp hA0 c hP hWA hb0 kb rb HOP hR hsp0 hj hli v0 v1 v2 hha2 hhp hfit hpo hcc hrm hsm c4 HRT hsjn hfk hek hlive hshp hsj hrf hbw hRM hT1 cr hcp
   go_enter Tryz.func39,Tryz.ntmps39
   go_upto_region 1 with fail
   rw [<- HWA.out]
   go_upto_region 5 with (go_at_call 69;refine HOP2.out.mono ?_;rintro e w1 ⟨mb,rfl,hm1,hm2,hb1⟩;have HM1:=hideC hm1;have HMM:=hideC hm2;have HB1:=hideC hb1;have m3:=HM3.out _ _ hm2;obtain ⟨u0,u1,u2⟩:=HV.out _ hb1;clear hm1 hm2 hb1)
   have HB3:=hideC (HB1.out.alloc HB1.out.size (.cells #[.bool lv,.slice aa ars.length ca,.slice ap ens.length cp] 43))
   have B3:=hideC (B.new w1 #[.bool lv,.slice aa ars.length ca,.slice ap ens.length cp] 43)
   have M3:=hideC (B.alloc HMM.out (.cells #[.bool lv,.slice aa ars.length ca,.slice ap ens.length cp] 43))
   have HMX : Hid (w1.heap.size ≠ mb):=(show w1.heap.size ≠ mb from fun e=>by have:=B.isLt HMM.out;omega)
   obtain ⟨W3,hW3⟩ : ∃ W3,W3 = w1.alloc (.cells #[.bool lv,.slice aa ars.length ca,.slice ap ens.length cp] 43):=⟨_,rfl⟩
   obtain ⟨fb,hfb⟩ : ∃ fb,fb = w1.heap.size:=⟨_,rfl⟩
   rw [<- hW3] at HB3 B3 M3 ⊢
   rw [<- hfb] at B3 HMX ⊢
   clear hW3 hfb m3 u0 u1 u2
   have m3:=HM3.out _ _ M3.out
   go_upto_region 7 with fail
   have hkin:=Q.kin_some W3
   have q1 : ∀ x : Q.Kin W3.heap.size W3,x.world.cell? ⟨fb,1,none⟩ = some (.slice aa ars.length ca):=fun x=>B.cell (B.below B3.out x.keeps (B.isLt B3.out)) 1 rfl
   have q2 : ∀ x : Q.Kin W3.heap.size W3,x.world.cell? ⟨mb,2,none⟩ = some (.slice a.aL k.slots.length a.cL):=fun x=>HM2.out _ _ (B.below M3.out x.keeps (B.isLt M3.out))
   have HPG3:=hideC (fun V (hV : Below W3.heap.size W3 V)=>HPG.out V mb (HB3.out.trans (hV.mono HB3.out.size)) (B.below M3.out hV (B.isLt M3.out)))
   have HT13:=hideC (fun V (hV : Below W3.heap.size W3 V)=>HT1.out V (HB3.out.trans (hV.mono HB3.out.size)))
   clear m3
   refine Q.region_kin (by kernel_rfl) (by kernel_rfl) ?_
   repeat (first | go_big_quiet_step ((first | (go_at_call 83;exact kinC _ HPG3.out) | (go_at_call 54;exact kinC _ HT13.out))) | quiet_step ((first | (go_at_call 83;exact kinC _ HPG3.out) | (go_at_call 54;exact kinC _ HT13.out))))
   refine wpQuiet_nil ?_
   rintro _ ⟨X,rfl⟩
   have HBX:=hideC (HB3.out.trans (X.keeps.mono HB3.out.size))
   have MX:=hideC (B.below M3.out X.keeps (B.isLt M3.out))
   have BX:=hideC (B.below B3.out X.keeps (B.isLt B3.out))
   clear hkin q2 q1 HPG3 HT13 HPG HT1
   obtain ⟨WX,hWX⟩ : ∃ WX,WX = X.world:=⟨_,rfl⟩
   rw [<- hWX] at HBX MX BX ⊢
   clear hWX
   go_upto_region 10 with (go_at_call 84;refine (HOW.out _ _ HBX.out HM1.out MX.out).mono ?_;rintro e w4 ⟨rfl,S,hs,hs2,hk2,hno2,hkp2⟩;have HS2:=hideC hs2;have HK2:=hideC hk2;have HN2:=hideC hno2;have HKP2:=hideC hkp2;clear hs2 hk2 hno2 hkp2)
   have hnf : S.lab fb = .no:=Classical.not_not.1 fun g=>by
    rcases HN2.out fb g with e | e
    · exact HMX.out e
    · have:=B.isLt BX.out;omega
   have HNF:=hideC hnf
   have B4:=hideC (HKP2.out.keep BX.out HMX.out)
   have hbW4 : Below WA.heap.size WA w4:=Kp.below HBX.out HKP2.out HBX.out.size (fun b e=>by have:=HM1.out;omega)
   have HB4:=hideC hbW4
   have x2 : w4.cell? ⟨fb,2,none⟩ = some (.slice ap ens.length cp):=B.cell B4.out 2 rfl
   have HSTB : Hid (∀ V,Kp (fun b=>S.lab b ≠ .no) w4 V -> V.heap[fb]? = some (.cells #[.bool lv,.slice aa ars.length ca,.slice ap ens.length cp] 43 (0,0)) /\ Below WA.heap.size WA V):=fun V hV=>⟨hV.keep B4.out (fun g=>g HNF.out),Kp.below HB4.out hV HB4.out.size (fun b hb=>(HK2.out.bnd b hb).1)⟩
   clear hnf hbW4
   go_wp2
   go_loopw [59] (fun iv wq=>∃ n : Nat,n <= ens.length /\ iv = .int .i64 (n : Int) /\ Km WA.heap.size mb 104 (tailK k) wq S (KM.withS (KM.shareTo k ens n) hs) /\ Kp (fun b=>S.lab b ≠ .no) w4 wq) (fun iv _=>ens.length - (intOf iv).toNat)
   case atStart=>exact ⟨0,by omega,rfl,HK2.out,Kp.refl _ _⟩
   case round =>
    obtain ⟨n,hn,rfl,hkm,hkq⟩:=hrel
    by_cases hlt : n < ens.length
    · have hni : (n : Int) < (ens.length : Int):=by omega
      obtain ⟨hfb,hbq⟩:=HSTB.out wr hkq
      obtain ⟨eb,eo,hap,z0,z1,z2⟩:=HEN.out wr n hbq hlt
      have HC2 : Hid (Calls Tryz.prog 85 #[.pointer (some ⟨mb,0,none⟩),.agg #[.int .i64 (KM.enAt ens n).page,.int .i64 (KM.enAt ens n).kind,.int .i64 (KM.enAt ens n).loc],.int .i64 1] (wr.alloc (.cells #[.int .i64 (KM.enAt ens n).page,.int .i64 (KM.enAt ens n).kind,.int .i64 (KM.enAt ens n).loc] 45)) fun e w'=>e = .returned (.tuple #[]) /\ Km WA.heap.size mb 104 (tailK k) w' S (KM.withS (KM.shareTo k ens (n + 1)) hs) /\ Kp (fun b=>S.lab b ≠ .no) w4 w'):=(HCT.out _ S mb hs n hlt (hkm.below ((Below.refl _ _).alloc (Nat.le_refl _) _))).mono fun e w' ⟨h1,h2,h3⟩=>⟨h1,h2,(hkq.trans (Kp.alloc _ _ _) (fun _ _ g=>g)).trans h3.kp (fun _ _ g=>g)⟩
      obtain ⟨en,hen2⟩ : ∃ en,en = KM.enAt ens n:=⟨_,rfl⟩
      rw [<- hen2] at z0 z1 z2 HC2
      obtain ⟨g1,g2,g3⟩:=en
      simp only at z0 z1 z2 HC2
      subst hap
      clear hkm hkq hfb hbq hen2 HCT HEN
      go_wp2_with (go_at_call 85;refine HC2.out.mono ?_;rintro e w5 ⟨rfl,h5,h6⟩;have HK5:=hideC h5;have HP5:=hideC h6;clear h5 h6)
      go_roundw
      case rel=>exact ⟨n + 1,by omega,by go_num,HK5.out,HP5.out⟩
      case measure=>simp [intOf];omega
    · obtain rfl : n = ens.length:=by omega
      obtain ⟨hfb,hbq⟩:=HSTB.out wr hkq
      obtain ⟨bP,dP,eP,_⟩:=row_form hkm.spaces
      have hLl : S.L.length <= 1000000:=by
       have:=hkm.len
       have e : (KM.withS (KM.shareTo k ens ens.length) hs).spaces.length = k.spaces.length:=HSH.out _ (Nat.le_refl _)
       omega
      have HLK : Hid (S.L.length = k.spaces.length):=by
       have:=hkm.len
       have e : (KM.withS (KM.shareTo k ens ens.length) hs).spaces.length = k.spaces.length:=HSH.out _ (Nat.le_refl _)
       exact (show S.L.length = k.spaces.length by omega)
      have hbD : Below wr.heap.size wr wr.drew:=(Below.refl _ _).drew
      have BD : wr.drew.heap[fb]? = some (.cells #[.bool lv,.slice aa ars.length ca,.slice ap ens.length cp] 43 (0,0)):=B.below hfb hbD (B.isLt hfb)
      obtain ⟨WD,hWD⟩ : ∃ WD,WD = wr.drew:=⟨_,rfl⟩
      rw [<- hWD] at hbD BD
      have HWD:=hideC hWD
      have hkD:=hkm.below hbD
      have hlD : WA.heap.size <= WD.heap.size:=Nat.le_trans hbq.size hbD.size
      have hbWD : Below WA.heap.size WA WD:=hbq.trans (hbD.mono hbq.size)
      obtain ⟨hh1,hh2⟩:=HHA.out WD hbWD
      have HCP : Hid (Calls Tryz.prog 86 #[.agg #[.bool lv,.slice aa ars.length ca,.slice ap ens.length cp]] WD fun e w'=>∃ xa nx cx ya ny cy,e = .returned (.agg #[.bool lv,.slice xa nx cx,.slice ya ny cy]) /\ SpOwn WD.heap.size w' ⟨lv,.slice xa nx cx,.slice ya ny cy⟩ ⟨lv,ars,ens⟩ /\ (∀ b,blk (.slice ya ny cy) b -> ¬ blk (.slice xa nx cx) b) /\ Below WD.heap.size WD w'):=(KS.copyOf_any ⟨lv,ars,ens⟩ aa ap ars.length ca cp WD hh1 hh2 (by show ars.length <= _;omega) (by show ens.length <= _;omega)).mono fun e w' ⟨va,vp,h1,h2,h3,h4⟩=>by
       obtain ⟨xa,cx,ex,_⟩:=row_form h2.areas
       obtain ⟨ya,cy,ey,_⟩:=row_form h2.pages
       have ex : va = _:=ex
       have ey : vp = _:=ey
       subst ex ey
       exact ⟨xa,_,cx,ya,_,cy,h1,h2,h3,h4⟩
      have HCC2 : Hid (∀ V,Kp (fun b=>blk S.vP b) WD V -> V.cell? ⟨mb,3,none⟩ = some (.slice bP S.L.length dP) /\ V.cell? ⟨fb,0,none⟩ = some (.bool lv) /\ V.cell? ⟨fb,1,none⟩ = some (.slice aa ars.length ca) /\ V.cell? ⟨fb,2,none⟩ = some (.slice ap ens.length cp) /\ V.frozen? ⟨mb,3,none⟩ = false):=fun V hV=>by
       have b1:=hV.keep hkD.head (fun g=>by have:=hkm.lP _ g;rw [hkm.lH] at this;simp at this)
       have b2:=hV.keep BD (fun g=>by have:=hkm.lP _ g;rw [HNF.out] at this;simp at this)
       refine ⟨?_,B.cell b2 0 rfl,B.cell b2 1 rfl,B.cell b2 2 rfl,B.free b1 3⟩
       rw [<- eP]
       exact B.cell b1 3 rfl
      have HRW : Hid (∀ w2 o,Below WD.heap.size WD w2 -> (w2.alloc o).ownsRow WA.heap.size 43 3 (.slice bP S.L.length dP) S.L.length (S.L.flatMap cellLc)):=fun w2 o hb=>by
       have:=((Kp.ofBelow (D:=fun _=>False) hb).trans (Kp.alloc _ w2 o) (fun _ _ g=>g)).row hkD.spaces (fun _ _ g=>g)
       rw [eP] at this
       exact this
      have HPU : Hid (∀ w2 w4 O v' l,Below WD.heap.size WD w2 -> SpOwn WD.heap.size w2 l ⟨lv,ars,ens⟩ -> (∀ b,blk l.vp b -> ¬ blk l.va b) -> (w2.alloc O).grownBy w4 S.vP.ownBlock -> w4.ownsRow WA.heap.size 43 3 v' (S.L.length + 1) (S.L.flatMap cellLc ++ cellLc l) -> (v'.ownBlock = S.vP.ownBlock ∨ v'.ownBlock = some (w2.alloc O).heap.size) -> FinF WA (w4.setCell ⟨mb,3,none⟩ v') mb (KM.forkK k j) (tailK k) v'):=fun w2 w4 O v' l h1 h2 h3 h4 h5 h6=>by
       have m1:=hkD.push hlD h1 h2 h3 h4 h5 h6
       have m2:=m1.1
       rw [<- HFK.out hs] at m2
       exact ⟨_,hs,by rw [HSK.out.1];exact HS2.out,m2,rfl,Kp.below hbWD m1.2.2 hbWD.size (fun b hb=>(hkD.bnd b hb).1)⟩
      have HSP : Hid (∀ w2,Below WD.heap.size WD w2 -> Kp (fun b=>blk S.vP b) WD w2):=fun w2 h=>Kp.ofBelow h
      have HEP:=hideC eP
      obtain ⟨i0,hin,hz0,hz1,hz2⟩:=info_parts infoSp
      have HIN:=hideC hin
      have HZ0:=hideC hz0
      have HZ1:=hideC hz1
      have HZ2:=hideC hz2
      have hlw : WA.heap.size <= WD.heap.size:=hlD
      clear hkm hkD hkq hbq hfb hh1 hh2 hWD hbD BD eP hin hz0 hz1 hz2 hbWD HCT HEN
      go_upto_region 15 with fail
      refine GZ.begin_ (S:=fun V=>Kp (fun b=>blk S.vP b) WD V) (z:=13) (by kernel_rfl) ?_
      rw [<- HWD.out]
      have HCC:=HCC2
      have HS0 : Hid (Kp (fun b=>blk S.vP b) WD WD):=Kp.refl _ _
      refine GZ.tk 0 HS0.out ?_ ?_ ?_
      rotate_left 1
      · intro V h
        obtain ⟨k0,k1,k2,k3,k4⟩:=HCC.out V h
        go_simp
        try with_reducible rfl
      refine GZ.tk 1 HS0.out ?_ ?_ ?_
      rotate_left 1
      · intro V h
        obtain ⟨k0,k1,k2,k3,k4⟩:=HCC.out V h
        go_simp
        try with_reducible rfl
      refine GZ.tk 2 HS0.out ?_ ?_ ?_
      rotate_left 1
      · intro V h
        obtain ⟨k0,k1,k2,k3,k4⟩:=HCC.out V h
        go_simp
        try with_reducible rfl
      refine GZ.tk 3 HS0.out ?_ ?_ ?_
      rotate_left 1
      · intro V h
        obtain ⟨k0,k1,k2,k3,k4⟩:=HCC.out V h
        go_simp
        try with_reducible rfl
      refine GZ.tk 4 HS0.out ?_ ?_ ?_
      rotate_left 1
      · intro V h
        obtain ⟨k0,k1,k2,k3,k4⟩:=HCC.out V h
        go_simp
        try with_reducible rfl
      refine GZ.tk 5 HS0.out ?_ ?_ ?_
      rotate_left 1
      · intro V h
        obtain ⟨k0,k1,k2,k3,k4⟩:=HCC.out V h
        go_simp
        try with_reducible rfl
      refine GZ.tk 6 HS0.out ?_ ?_ ?_
      rotate_left 1
      · intro V h
        obtain ⟨k0,k1,k2,k3,k4⟩:=HCC.out V h
        go_simp
        try with_reducible rfl
      refine GZ.all (rs:=[7]) (by kernel_rfl) (by simp) ?_
      refine GZ.AllZ.cons rfl (fun K hK=>?_) GZ.AllZ.nil
      rw [if_pos (by rfl)];go_simp;go_at_call 86;refine HCP.out.mono ?_;rintro e w6 ⟨xa,nx,cx,ya,ny,cy,rfl,hso,hap,hb2⟩;have HSO:=hideC hso;have HAP:=hideC hap;have HB2:=hideC hb2;have HS3:=hideC (HSP.out _ hb2);clear hso hap hb2;try go_simp
      refine hK.out _ _ (fun _=>?_) ?_
      · exact HS3.out
      clear hK K
      try simp only [Act.put,List.setIfInBounds_toArray,List.set_cons_zero,List.set_cons_succ]
      refine GZ.all (rs:=[8]) (by kernel_rfl) (by simp) ?_
      refine GZ.AllZ.cons rfl (fun K hK=>?_) GZ.AllZ.nil
      go_simp
      refine hK.out _ _ (fun _=>?_) ?_
      · exact HS3.out.trans (Kp.alloc _ _ _) (fun _ _ g=>g)
      clear hK K
      try simp only [Act.put,List.setIfInBounds_toArray,List.set_cons_zero,List.set_cons_succ]
      have hs2z:=HB2.out.size
      refine GZ.all (rs:=[9]) (by kernel_rfl) (by simp) ?_
      refine GZ.AllZ.cons rfl (fun K hK=>?_) GZ.AllZ.nil
      rw [if_pos (by rfl)];refine wp_append_src (P:=Tryz.prog) _ _ 25 rfl WA.heap.size 43 i0 (.agg #[.bool false,.slice none 0 0,.slice none 0 0]) 3 56 Tryz.underlying25 HIN.out HZ0.out HZ1.out HZ2.out rfl (by decide) (.slice bP S.L.length dP) S.L.length (S.L.flatMap cellLc) rfl (HRW.out _ _ HB2.out) (some ⟨w6.heap.size,0,none⟩) 1 1 (cellLc ⟨lv,.slice xa nx cx,.slice ya ny cy⟩) rfl rfl (fun _=>⟨_,rfl,new_lc w6 _ _⟩) (by intro u hu;simp [cellLc] at hu;rcases hu with rfl | rfl | rfl <;> rfl) (by unfold maxLen;omega) (by omega) (by rw [World.size_alloc];omega) ?_;intro vG wG hoG hgG haG;obtain ⟨aG,cG,hvG,_,_⟩:=row_form hoG;subst hvG;rw [<- HEP.out] at hgG haG;have HSG : Hid (Kp (fun b=>blk S.vP b) WD wG):=(HS3.out.trans (Kp.alloc _ _ _) (fun _ _ g=>g)).trans (Kp.grown hgG (fun q hq=>hq)) (fun _ _ g=>g);have HPF:=hideC (HPU.out w6 wG _ _ ⟨lv,.slice xa nx cx,.slice ya ny cy⟩ HB2.out HSO.out HAP.out hgG hoG haG);clear hoG hgG haG
      refine hK.out _ _ (fun _=>?_) ?_
      · exact HSG.out
      clear hK K
      try simp only [Act.put,List.setIfInBounds_toArray,List.set_cons_zero,List.set_cons_succ]
      refine GZ.all (rs:=[10]) (by kernel_rfl) (by simp) ?_
      refine GZ.AllZ.cons rfl (fun K hK=>?_) GZ.AllZ.nil
      go_simp
      refine hK.out _ _ (fun _=>?_) ?_
      · exact HSG.out
      clear hK K
      try simp only [Act.put,List.setIfInBounds_toArray,List.set_cons_zero,List.set_cons_succ]
      refine GZ.all (rs:=[11]) (by kernel_rfl) (by simp) ?_
      refine GZ.AllZ.cons rfl (fun K hK=>?_) GZ.AllZ.nil
      go_simp
      refine hK.out _ _ (fun _=>?_) ?_
      · exact HSG.out
      clear hK K
      try simp only [Act.put,List.setIfInBounds_toArray,List.set_cons_zero,List.set_cons_succ]
      refine GZ.tk 12 HSG.out ?_ ?_ ?_
      rotate_left 1
      · intro V h
        obtain ⟨k0,k1,k2,k3,k4⟩:=HCC.out V h
        go_simp
        try with_reducible rfl
      obtain ⟨k0,k1,k2,k3,k4⟩:=HCC.out _ HSG.out
      refine GZ.all (rs:=[13]) (by kernel_rfl) (by simp) ?_
      refine GZ.AllZ.cons rfl (fun K hK=>?_) GZ.AllZ.nil
      go_simp
      refine hK.out _ _ (fun g=>absurd rfl g) ?_
      refine GZ.done (by kernel_rfl) ?_ _
      clear k0 k1 k2 k3 k4
      obtain ⟨aS,nS,cS,aF,nF,cF,aL,nL,cL,hd,hcells,hr3,hfin⟩:=fin_parts HPF.out RB.out HB0.out hrl [.int .i64 (k.spaces.length : Int),.int .i64 0]
      have HFI:=hideC hfin
      have R3:=hideC hr3
      have HCL:=hideC hcells
      obtain ⟨W5,hW5⟩ : ∃ W5,W5 = wG.setCell ⟨mb,3,none⟩ (.slice aG (S.L.length + 1) cG):=⟨_,rfl⟩
      rw [<- hW5] at HCL R3 HFI ⊢
      clear hW5 hfin hr3 hcells
      obtain ⟨q0,q1,q2,q3,q4⟩:=HCL.out
      obtain ⟨y0,y1,y2,y3,y4⟩:=B.c5 R3.out
      have f0:=B.free R3.out 0
      have f1:=B.free R3.out 1
      have f2:=B.free R3.out 2
      have f3:=B.free R3.out 3
      have f4:=B.free R3.out 4
      have h5:=hideC (fun V=>ret5 R3.out (.slice aS nS cS) (.slice aF nF cF) (.slice aL nL cL) (.slice aG (S.L.length + 1) cG) (.int .i64 hd) (V:=V))
      have hne1 : ¬ mb = w.heap.size + 1:=by have:=HM1.out;omega
      have hne2 : ¬ w.heap.size + 1 = mb:=by omega
      have hn1 : ((S.L.length + 1 : Nat) : Int) - 1 = (S.L.length : Int):=by omega
      go_upto_region 16 with fail
      go_region
      go_wp2
      obtain ⟨r1,r2⟩:=h5.out _ rfl
      obtain ⟨y0,y1,y2,y3,y4⟩:=B.c5 (B.below r1 (Below.refl _ _).drew (B.isLt r1))
      refine bodyPost_ret (v:=.tuple #[.agg #[.slice aS nS cS,.slice aF nF cF,.slice aL nL cL,.slice aG (S.L.length + 1) cG,.int .i64 hd],.int .i64 (S.L.length : Int),.int .i64 0]) (by simp [results,Tryz.results39,go_sem,y0,y1,y2,y3,y4]) rfl ?_
      have e : (.int .i64 (S.L.length : Int) : Value) = .int .i64 (k.spaces.length : Int):=by rw [HLK.out]
      rw [e,HP.out]
      exact HFI.out _ (r2.trans (Kp.drew _ _) (fun _ _ g=>g))
 · have hA : forkA k sp = (kn0,0,liveK k sp):=by unfold forkA;rw [if_pos c]
   rw [hA]
   have HOPE:=hideC (KY.open_err HOP.out c)
   obtain ⟨C,hC2⟩ : ∃ C,C = liveK k sp:=⟨_,rfl⟩
   rw [<- hC2] at HOPE c ⊢
   have cb : (C != 0) = true:=by simpa using c
   have HFIN:=hideC (fun V (h : Below w.heap.size w V)=>HRT.out V C h)
   obtain ⟨P,hP⟩ : ∃ P,P = OutKn w kn0 [.int .i64 0,.int .i64 C]:=⟨_,rfl⟩
   show Calls _ _ _ _ (OutKn w kn0 [.int .i64 0,.int .i64 C])
   rw [<- hP] at HFIN ⊢
   unfold cellsK at HOPE HWA ⊢
   clear hK hF hsp hA hC2 c hP hWA hb0 kb rb HOP HRT hcp
   go_enter Tryz.func39,Tryz.ntmps39
   go_upto_region 1 with fail
   rw [<- HWA.out]
   go_upto_region 3 with (go_at_call 69;refine HOPE.out.mono ?_;rintro e w1 ⟨rfl,hb1⟩;have HB4:=hideC (HB0.out.trans (hb1.mono HB0.out.size));have R1:=hideC (RB.out _ hb1);clear hb1)
   obtain ⟨y0,y1,y2,y3,y4⟩:=B.c5 R1.out
   have f0:=B.free R1.out 0
   have f1:=B.free R1.out 1
   have f2:=B.free R1.out 2
   have f3:=B.free R1.out 3
   have f4:=B.free R1.out 4
   have h5:=hideC (fun V=>ret5 R1.out (.slice none 0 0) (.slice none 0 0) (.slice none 0 0) (.slice none 0 0) (.int .i64 0) (V:=V))
   go_wp2
   obtain ⟨r1,r2⟩:=h5.out _ rfl
   obtain ⟨y0,y1,y2,y3,y4⟩:=B.c5 r1
   refine bodyPost_ret (v:=.tuple #[.agg #[.slice none 0 0,.slice none 0 0,.slice none 0 0,.slice none 0 0,.int .i64 0],.int .i64 0,.int .i64 C]) (by simp [results,Tryz.results39,go_sem,y0,y1,y2,y3,y4]) rfl ?_
   exact HFIN.out _ (Kp.below HB4.out r2 HB4.out.size (fun b e=>by omega))
end KZ
namespace KY
open Go.RowKit KO
open KW (KAt HasK cellsK FitK)
theorem copyK : CopyK:=fun k a w hK hs=>kernel_copy k a w hK hs
end KY
end Go.Proofs.YtpgifpeohlllfaaGreat
