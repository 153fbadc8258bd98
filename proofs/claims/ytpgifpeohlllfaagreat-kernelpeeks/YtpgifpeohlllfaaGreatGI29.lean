import Derived.Test.YtpgifpeohlllfaaGreatGI28
import Derived.Deep.RegionHeld3
import Derived.Test.YtpgifpeohlllfaaGreatGI00
import Derived.Test.YtpgifpeohlllfaaGreatGI24
set_option maxHeartbeats 20000000
set_option linter.unusedVariables false
set_option maxRecDepth 100000
set_option linter.unusedSimpArgs false
namespace Go.Proofs.YtpgifpeohlllfaaGreat
namespace KX
open Go.RowKit GK KO
open FW (hideC add_below)
open KW (cellFr cellSl cellEn HasRow KAt HasK cellsK aggEn cellI entryN)
open KS (Lc cellLc lc0 lcAt blk SpOwn)
theorem enter_leave (k : KM.Kn) (j : Nat) (x e : KM.En) : KM.enterK (KM.leaveK k e) j x = KM.leaveK (KM.enterK k j x) e:=by unfold KM.leaveK KM.enterK;split <;> rfl
def FilX (X : List Value) (hs : List LM.Sh) : Prop:=∀ n : Nat,n < 256 -> X[n]? = some (.string (KM.filled hs n))
theorem ent_own {lo mb : Nat} {tt : TypeId} {X : List Value} (k : KM.Kn) (S : St) (w : World) (j : Nat) (p : Int) (h : Km lo mb tt X w S k) (hR : KM.RightK k) (hj : j < k.spaces.length) :
  Calls Tryz.prog 118 #[.pointer (some ⟨mb,0,none⟩),.int .i64 (j : Int),.int .i64 p] w fun e w'=>e = .returned (.tuple #[aggEn (entryN (KM.spAt k.spaces j).ents p).1,.bool (entryN (KM.spAt k.spaces j).ents p).2]) /\ Below w.heap.size w w':=by
 have hcc:=hR.c
 have hen:=ents_few hR hj
 obtain ⟨pb,cP,A⟩:=h.toKr.sp (by omega)
 obtain ⟨ae,ce,hve,hre⟩:=h.toKr.ents hj
 have c3:=h.c3
 rw [A.v] at c3
 have a2:=A.x2 j hj
 rw [hve] at a2
 have e0 : 0 + j * 3 + 2 = j * 3 + 2:=by omega
 exact KW.entry_any (KM.spAt k.spaces j).ents p j k.spaces.length mb pb 0 cP ae ce w c3 hj (by rw [e0];exact a2) hre (by omega) (by omega)
set_option maxHeartbeats 16000000 in
theorem present_here {lo mb : Nat} {tt : TypeId} {X : List Value} (k : KM.Kn) (S : St) (w : World) (j : Nat) (p : Int) (held : List Int) (ah : Option Addr) (ch : Nat) (e : KM.En) (h : Km lo mb tt X w S k) (hR : KM.RightK k) (hj : j < k.spaces.length) (he : KM.entOf (KM.spAt k.spaces j).ents p = some e) (hk : e.kind = 1) :
  Calls Tryz.prog 141 #[.pointer (some ⟨mb,0,none⟩),.int .i64 (j : Int),.int .i64 p,.slice ah held.length ch] w (OutM lo mb tt X w S (.int .i64 ((KM.presentK k j p held).1 : Int)) (KM.presentK k j p held).2):=by
 have HEN:=hideC (ent_own k S w j p h hR hj)
 have e1 : entryN (KM.spAt k.spaces j).ents p = (e,true):=by unfold KW.entryN;rw [he]
 rw [e1] at HEN
 have hP : KM.presentK k j p held = (e.loc.toNat,k):=by
  unfold KM.presentK
  rw [he]
  show (if e.kind = 1 then _ else _) = _
  rw [if_pos hk]
 have hb:=(KM.loc_bd hR hj (KM.ent_mem he)).resolve_right (fun y=>by omega)
 rw [hP]
 have HFIN : Hid (∀ V,Below w.heap.size w V -> OutM lo mb tt X w S (.int .i64 ((e.loc.toNat : Nat) : Int)) k (.returned (.int .i64 e.loc)) V):=fun V hV=>⟨by rw [hb.2.1],S,h.below hV,Ch.below hV⟩
 obtain ⟨P,hP2⟩ : ∃ P,P = OutM lo mb tt X w S (.int .i64 ((e.loc.toNat : Nat) : Int)) k:=⟨_,rfl⟩
 rw [<- hP2] at HFIN ⊢
 obtain ⟨pg,kd,lc⟩:=e
 unfold aggEn at HEN
 simp only at HEN HFIN hk
 have kb : (kd == 1) = true:=by simpa using hk
 clear hP hP2 e1 he h hR hj hb hk
 go_enter Tryz.func141,Tryz.ntmps141
 go_wp2_with (go_at_call 118;refine HEN.out.mono ?_;rintro r w1 ⟨rfl,hb1⟩;have HB1:=hideC hb1;have BX:=B.new w1 #[.int .i64 pg,.int .i64 kd,.int .i64 lc] 45;obtain ⟨d0,d1,d2⟩:=B.c3 BX;clear hb1 BX)
 exact HFIN.out _ (HB1.out.alloc HB1.out.size _)
set_option maxHeartbeats 16000000 in
theorem present_swapped {lo mb : Nat} {tt : TypeId} {X : List Value} (k : KM.Kn) (S : St) (w : World) (j : Nat) (p : Int) (held : List Int) (ah : Option Addr) (ch : Nat) (e : KM.En) (h : Km lo mb tt X w S k) (hR : KM.RightK k) (hj : j < k.spaces.length) (he : KM.entOf (KM.spAt k.spaces j).ents p = some e) (hk : e.kind ≠ 1) (hl : held.length <= 2) (hH : Held w S ah held) :
  Calls Tryz.prog 141 #[.pointer (some ⟨mb,0,none⟩),.int .i64 (j : Int),.int .i64 p,.slice ah held.length ch] w (OutM lo mb tt X w S (.int .i64 ((KM.presentK k j p held).1 : Int)) (KM.presentK k j p held).2):=by
 have HEN:=hideC (ent_own k S w j p h hR hj)
 have e1 : entryN (KM.spAt k.spaces j).ents p = (e,true):=by unfold KW.entryN;rw [he]
 rw [e1] at HEN
 have hP : KM.presentK k j p held = ((KM.getK k held).1,KM.moveTo (KM.getK k held).2 j p (KM.getK k held).1 (KM.slAt (KM.getK k held).2.slots e.loc.toNat).data true):=by
  unfold KM.presentK
  rw [he]
  show (if e.kind = 1 then _ else _) = _
  rw [if_neg hk]
 have hb:=(KM.loc_bd hR hj (KM.ent_mem he)).resolve_left (fun y=>hk y.1)
 have G:=KM.get_got hR hl
 have hent : KM.entOf (KM.spAt (KM.getK k held).2.spaces j).ents p = some e:=by rw [G.ent j hj p (fun x hx=>by rw [he] at hx;injection hx with hx;subst hx;exact fun y=>hk y.1),he]
 have hmv : KM.moveTo (KM.getK k held).2 j p (KM.getK k held).1 (KM.slAt (KM.getK k held).2.slots e.loc.toNat).data true = KM.enterK (KM.leaveK (KM.layK (KM.getK k held).2 (KM.getK k held).1 (KM.slAt (KM.getK k held).2.slots e.loc.toNat).data true) e) j ⟨p,1,(KM.getK k held).1⟩:=by
  rw [enter_leave]
  unfold KM.moveTo
  rw [hent]
 rw [hP,hmv]
 have hcc:=hR.c
 have hj1 : j < (KM.getK k held).2.spaces.length:=by rw [G.kept.np];exact hj
 have hi1 : (KM.getK k held).1 < (KM.getK k held).2.frames.length:=by rw [G.kept.nf];exact G.lt
 have hs1 : e.loc.toNat < (KM.getK k held).2.slots.length:=by rw [G.kept.ns];exact hb.2.2
 have hrf:=(refs_few G.right).2 e.loc.toNat hs1
 have hen1:=ents_few G.right hj1
 have hnp1:=G.kept.np
 have HGT : Hid (∀ V,Below w.heap.size w V -> Calls Tryz.prog 165 #[.pointer (some ⟨mb,0,none⟩),.slice ah held.length ch] V (OutM lo mb tt X V S (.int .i64 ((KM.getK k held).1 : Int)) (KM.getK k held).2)):=fun V hV=>get_any k S V held ah ch (h.below hV) hR hl (hH.ch (Ch.below hV))
 obtain ⟨k1,hk1⟩ : ∃ k1,k1 = (KM.getK k held).2:=⟨_,rfl⟩
 obtain ⟨i,hi⟩ : ∃ i,i = (KM.getK k held).1:=⟨_,rfl⟩
 rw [<- hk1,<- hi] at HGT hi1
 rw [<- hk1] at hs1 hrf hj1 hen1 hnp1
 rw [<- hk1,<- hi]
 obtain ⟨D,hD⟩ : ∃ D,D = (KM.slAt k1.slots e.loc.toNat).data:=⟨_,rfl⟩
 rw [<- hD]
 have HRD : Hid (∀ V S',Km lo mb tt X V S' k1 -> ∃ fb cF lb cL,V.cell? ⟨mb,1,none⟩ = some (.slice (some ⟨fb,0,none⟩) k1.frames.length cF) /\ V.cell? ⟨mb,2,none⟩ = some (.slice (some ⟨lb,0,none⟩) k1.slots.length cL) /\ V.cell? ⟨lb,e.loc.toNat * 2,none⟩ = some (.string D) /\ V.cell? ⟨fb,i * 4,none⟩ = some (.string (KM.frAt k1.frames i).data) /\ V.cell? ⟨fb,i * 4 + 1,none⟩ = some (.int .i64 (KM.frAt k1.frames i).refs) /\ V.cell? ⟨fb,i * 4 + 2,none⟩ = some (.bool (KM.frAt k1.frames i).dirty) /\ V.cell? ⟨fb,i * 4 + 3,none⟩ = some (.bool (KM.frAt k1.frames i).seen) /\ V.frozen? ⟨fb,i * 4,none⟩ = false /\ V.frozen? ⟨fb,i * 4 + 1,none⟩ = false /\ V.frozen? ⟨fb,i * 4 + 2,none⟩ = false /\ V.frozen? ⟨fb,i * 4 + 3,none⟩ = false /\
   (∀ U,U = ((((V.setCell ⟨fb,i * 4,none⟩ (.string D)).setCell ⟨fb,i * 4 + 1,none⟩ (.int .i64 1)).setCell ⟨fb,i * 4 + 2,none⟩ (.bool true)).setCell ⟨fb,i * 4 + 3,none⟩ (.bool false)).drew -> Km lo mb tt X U S' (KM.layK k1 i D true) /\ Ch S' V S' U)):=fun V S' hV=>by
  obtain ⟨fb,cF,A⟩:=hV.toKr.fr (by omega)
  obtain ⟨lb,cL,AL⟩:=hV.toKr.sl (by omega)
  have c1:=hV.c1
  have c2:=hV.c2
  rw [A.v] at c1
  rw [AL.v] at c2
  refine ⟨fb,cF,lb,cL,c1,c2,by rw [hD];exact AL.x0 _ hs1,A.x0 i hi1,A.x1 i hi1,A.x2 i hi1,A.x3 i hi1,A.fz _,A.fz _,A.fz _,A.fz _,fun U hU=>?_⟩
  have m:=hV.layF A.v hi1 ⟨D,1,true,false⟩
  subst hU
  exact ⟨m.1.below (Below.refl _ _).drew,m.2.trans (Ch.below (Below.refl _ _).drew)⟩
 have HCN : Hid (∀ V S',Km lo mb tt X V S' (KM.layK k1 i D true) -> Calls Tryz.prog 85 #[.pointer (some ⟨mb,0,none⟩),.agg #[.int .i64 e.page,.int .i64 e.kind,.int .i64 e.loc],.int .i64 (-1)] V (OutS lo mb tt X V S' (.tuple #[]) (KM.leaveK (KM.layK k1 i D true) e))):=fun V S' hV=>by
  rw [<- KM.count_leave]
  refine count_any _ S' V e (-1) hV (fun c=>absurd c hk) (fun _=>?_) (.inr rfl) ⟨fun c=>absurd c hk,fun _=>?_⟩
  · show 0 <= e.loc /\ e.loc < (k1.slots.length : Int)
    omega
  · show -1000000 <= (KM.slAt k1.slots e.loc.toNat).refs /\ (KM.slAt k1.slots e.loc.toNat).refs <= 1000000
    omega
 have HET : Hid (∀ V S',Km lo mb tt X V S' (KM.leaveK (KM.layK k1 i D true) e) -> Calls Tryz.prog 166 #[.pointer (some ⟨mb,0,none⟩),.int .i64 (j : Int),.agg #[.int .i64 p,.int .i64 1,.int .i64 (i : Int)]] V (OutM lo mb tt X V S' (.tuple #[]) (KM.enterK (KM.leaveK (KM.layK k1 i D true) e) j ⟨p,1,i⟩))):=fun V S' hV=>by
  have hsp : (KM.leaveK (KM.layK k1 i D true) e).spaces = k1.spaces:=KM.leave_spaces _ _
  exact enter_any _ S' V j ⟨p,1,i⟩ hV (by rw [hsp];exact hj1) (by rw [hsp];omega) (by rw [hsp];omega)
 have HFIN : Hid (∀ V S',Km lo mb tt X V S' (KM.enterK (KM.leaveK (KM.layK k1 i D true) e) j ⟨p,1,i⟩) -> Ch S w S' V -> OutM lo mb tt X w S (.int .i64 (i : Int)) (KM.enterK (KM.leaveK (KM.layK k1 i D true) e) j ⟨p,1,i⟩) (.returned (.int .i64 (i : Int))) V):=fun V S' h1 h2=>⟨rfl,S',h1,h2⟩
 obtain ⟨K3,hK3⟩ : ∃ K3,K3 = KM.enterK (KM.leaveK (KM.layK k1 i D true) e) j ⟨p,1,i⟩:=⟨_,rfl⟩
 rw [<- hK3] at HET HFIN ⊢
 obtain ⟨K2,hK2⟩ : ∃ K2,K2 = KM.leaveK (KM.layK k1 i D true) e:=⟨_,rfl⟩
 rw [<- hK2] at HCN HET
 obtain ⟨K1,hK1⟩ : ∃ K1,K1 = KM.layK k1 i D true:=⟨_,rfl⟩
 rw [<- hK1] at HRD HCN
 obtain ⟨P,hP2⟩ : ∃ P,P = OutM lo mb tt X w S (.int .i64 (i : Int)) K3:=⟨_,rfl⟩
 rw [<- hP2] at HFIN ⊢
 have HNO : Hid (∀ V : World,w.heap.size <= V.heap.size -> S.lab V.heap.size = .no):=fun V hV=>h.toKr.new hV
 obtain ⟨FR,hFR⟩ : ∃ FR,FR = KM.frAt k1.frames i:=⟨_,rfl⟩
 rw [<- hFR] at HRD
 obtain ⟨nf,hnf⟩ : ∃ nf,nf = k1.frames.length:=⟨_,rfl⟩
 obtain ⟨nl,hnl⟩ : ∃ nl,nl = k1.slots.length:=⟨_,rfl⟩
 rw [<- hnf,<- hnl] at HRD
 obtain ⟨m,hm⟩ : ∃ m : Nat,e.loc = (m : Int):=⟨e.loc.toNat,by omega⟩
 rw [hm,Int.toNat_natCast] at HRD
 have hmi : (m : Int) < (nl : Int):=by rw [hm,Int.toNat_natCast] at hs1;omega
 have hii : (i : Int) < (nf : Int):=by omega
 obtain ⟨pg,kd,lc⟩:=e
 unfold aggEn at HEN
 simp only at HEN hk HCN hm
 subst hm
 have kb : (kd == 1) = false:=by simpa using hk
 clear hP hP2 e1 he h hR hj hb hk G hent hmv hcc hj1 hi1 hs1 hrf hen1 hnp1 hk1 hi hD hK3 hK2 hK1 hH hl hFR hnf hnl
 go_enter Tryz.func141,Tryz.ntmps141
 go_upto_region 6 with (first
  | (go_at_call 118;refine HEN.out.mono ?_;rintro r w1 ⟨rfl,hb1⟩;have HB1:=hideC hb1;have HBA:=hideC (HB1.out.alloc HB1.out.size (.cells #[.int .i64 pg,.int .i64 kd,.int .i64 (m : Int)] 45));have BX:=hideC (B.new w1 #[.int .i64 pg,.int .i64 kd,.int .i64 (m : Int)] 45);obtain ⟨d0,d1,d2⟩:=B.c3 BX.out;have HN1:=hideC (HNO.out w1 hb1.size);clear hb1)
  | (go_at_call 165;refine (HGT.out _ HBA.out).mono ?_;rintro r w2 ⟨rfl,S2,hk2,hc2⟩;have HK2:=hideC hk2;have HC2:=hideC ((Ch.below HBA.out).trans hc2);have BX2:=hideC (hc2.keep BX.out HN1.out);have HN2:=hideC (hc2.no _ (B.isLt BX.out) HN1.out);clear hk2 hc2 d0 d1 d2))
 obtain ⟨fb,cF,lb,cL,g1,g2,g3,g4,g5,g6,g7,g8,g9,g10,g11,hfin⟩:=HRD.out w2 S2 HK2.out
 obtain ⟨d0,d1,d2⟩:=B.c3 BX2.out
 obtain ⟨U,hU⟩ : ∃ U,U = ((((w2.setCell ⟨fb,i * 4,none⟩ (.string D)).setCell ⟨fb,i * 4 + 1,none⟩ (.int .i64 1)).setCell ⟨fb,i * 4 + 2,none⟩ (.bool true)).setCell ⟨fb,i * 4 + 3,none⟩ (.bool false)).drew:=⟨_,rfl⟩
 obtain ⟨hk3,hc3⟩:=hfin U hU
 have HU:=hideC hU
 have HK3:=hideC hk3
 have HC3:=hideC (HC2.out.trans hc3)
 have BX3:=hideC (hc3.keep BX2.out HN2.out)
 have HN3:=hideC (hc3.no _ (B.isLt BX2.out) HN2.out)
 clear hfin hU hk3 hc3
 go_region
 rw [<- HU.out]
 clear g1 g2 g3 g4 g5 g6 g7 g8 g9 g10 g11 d0 d1 d2 HU
 obtain ⟨d0,d1,d2⟩:=B.c3 BX3.out
 go_wp2_with (first
  | (go_at_call 85;refine (HCN.out _ _ HK3.out).mono ?_;rintro r w4 ⟨rfl,hk4,hc4⟩;have HK4:=hideC hk4;have HC4:=hideC (HC3.out.trans hc4);clear hk4 hc4)
  | (go_at_call 166;refine (HET.out _ _ HK4.out).mono ?_;rintro r w5 ⟨rfl,S5,hk5,hc5⟩;have HK5:=hideC hk5;have HC5:=hideC (HC4.out.trans hc5);clear hk5 hc5))
 exact HFIN.out _ _ HK5.out HC5.out
theorem undrew {lo mb : Nat} {tt : TypeId} {X : List Value} {U : World} {S : St} {k : KM.Kn} (h : Km lo mb tt X U.drew S k) : Km lo mb tt X U S k:=h.kp (E:=fun _=>False) ⟨rfl,rfl,rfl,Nat.le_refl _,fun _ _ _=>rfl⟩ (fun _ _ g=>g)
theorem ch_undrew {S S' : St} {w U : World} (h : Ch S w S' U.drew) : Ch S w S' U:=⟨⟨h.kp.os,h.kp.tape,h.kp.output,h.kp.size,h.kp.block⟩,h.no,h.eS,h.eF,h.eL,h.eP⟩
set_option maxHeartbeats 16000000 in
theorem present_none {lo mb : Nat} {tt : TypeId} {X : List Value} (k : KM.Kn) (S : St) (w : World) (j : Nat) (p : Int) (held : List Int) (ah : Option Addr) (ch : Nat) (h : Km lo mb tt X w S k) (hR : KM.RightK k) (hj : j < k.spaces.length) (he : KM.entOf (KM.spAt k.spaces j).ents p = none) (hp : KM.mapped k j p) (hX : FilX X k.sheets) (hl : held.length <= 2) (hH : Held w S ah held) :
  Calls Tryz.prog 141 #[.pointer (some ⟨mb,0,none⟩),.int .i64 (j : Int),.int .i64 p,.slice ah held.length ch] w (OutM lo mb tt X w S (.int .i64 ((KM.presentK k j p held).1 : Int)) (KM.presentK k j p held).2):=by
 have HEN:=hideC (ent_own k S w j p h hR hj)
 have e1 : entryN (KM.spAt k.spaces j).ents p = (KM.en0,false):=by unfold KW.entryN;rw [he]
 rw [e1] at HEN
 have G:=KM.get_got hR hl
 have hP : KM.presentK k j p held = ((KM.getK k held).1,KM.moveTo (KM.getK k held).2 j p (KM.getK k held).1 (KM.fillK (KM.getK k held).2.sheets p (KM.zeroAt (KM.getK k held).2 j p)) false):=by
  unfold KM.presentK
  rw [he]
 have hent : KM.entOf (KM.spAt (KM.getK k held).2.spaces j).ents p = none:=by rw [G.ent j hj p (fun x hx=>by rw [he] at hx;cases hx),he]
 have hmv : KM.moveTo (KM.getK k held).2 j p (KM.getK k held).1 (KM.fillK (KM.getK k held).2.sheets p (KM.zeroAt (KM.getK k held).2 j p)) false = KM.enterK (KM.layK (KM.getK k held).2 (KM.getK k held).1 (KM.fillK (KM.getK k held).2.sheets p (KM.zeroAt (KM.getK k held).2 j p)) false) j ⟨p,1,(KM.getK k held).1⟩:=by
  unfold KM.moveTo
  rw [hent]
 rw [hP,hmv]
 have hpp:=KM.mapped_pos hp
 have hsh:=G.kept.sheets
 have hfit1 : AW.AllFit (KM.spAt (KM.getK k held).2.spaces j).areas:=by
  have:=(G.right.sp (by rw [G.kept.np];exact hj)).areas
  exact AM.fits_of_check _ this
 have hcc:=hR.c
 have hj1 : j < (KM.getK k held).2.spaces.length:=by rw [G.kept.np];exact hj
 have hi1 : (KM.getK k held).1 < (KM.getK k held).2.frames.length:=by rw [G.kept.nf];exact G.lt
 have hen1:=ents_few G.right hj1
 have hnp1:=G.kept.np
 have HGT : Hid (∀ V,Below w.heap.size w V -> Calls Tryz.prog 165 #[.pointer (some ⟨mb,0,none⟩),.slice ah held.length ch] V (OutM lo mb tt X V S (.int .i64 ((KM.getK k held).1 : Int)) (KM.getK k held).2)):=fun V hV=>get_any k S V held ah ch (h.below hV) hR hl (hH.ch (Ch.below hV))
 obtain ⟨k1,hk1⟩ : ∃ k1,k1 = (KM.getK k held).2:=⟨_,rfl⟩
 obtain ⟨i,hi⟩ : ∃ i,i = (KM.getK k held).1:=⟨_,rfl⟩
 rw [<- hk1,<- hi] at HGT hi1
 rw [<- hk1] at hj1 hen1 hnp1 hsh hfit1
 rw [<- hk1,<- hi]
 obtain ⟨D,hD⟩ : ∃ D,D = KM.fillK k1.sheets p (KM.zeroAt k1 j p):=⟨_,rfl⟩
 rw [<- hD]
 have HRD : Hid (∀ V S',Km lo mb tt X V S' k1 -> ∃ fb cF pb cP va,¬ mb = fb /\ V.cell? ⟨mb,1,none⟩ = some (.slice (some ⟨fb,0,none⟩) k1.frames.length cF) /\ V.cell? ⟨mb,3,none⟩ = some (.slice (some ⟨pb,0,none⟩) k1.spaces.length cP) /\ V.cell? ⟨pb,j * 3 + 1,none⟩ = some va /\ (∃ ax nx cx,va = .slice ax nx cx) /\ (∀ V',Below V.heap.size V V' -> Calls Tryz.prog 70 #[va,.int .i64 p] V' fun e w'=>e = .returned (.tuple #[.agg (AW.cellsOf (AM.findN (KM.spAt k1.spaces j).areas p).1),.bool (AM.findN (KM.spAt k1.spaces j).areas p).2]) /\ Below V'.heap.size V' w') /\ (∀ V',Below V.heap.size V V' -> Calls Tryz.prog 119 #[.pointer (some ⟨mb,0,none⟩),.int .i64 p,.bool (AM.findN (KM.spAt k1.spaces j).areas p).1.zero] V' fun e w'=>e = .returned (.string D) /\ Below V'.heap.size V' w') /\ V.cell? ⟨fb,i * 4,none⟩ = some (.string (KM.frAt k1.frames i).data) /\ V.cell? ⟨fb,i * 4 + 1,none⟩ = some (.int .i64 (KM.frAt k1.frames i).refs) /\ V.cell? ⟨fb,i * 4 + 2,none⟩ = some (.bool (KM.frAt k1.frames i).dirty) /\ V.cell? ⟨fb,i * 4 + 3,none⟩ = some (.bool (KM.frAt k1.frames i).seen) /\ V.frozen? ⟨fb,i * 4,none⟩ = false /\ V.frozen? ⟨fb,i * 4 + 1,none⟩ = false /\ V.frozen? ⟨fb,i * 4 + 2,none⟩ = false /\ V.frozen? ⟨fb,i * 4 + 3,none⟩ = false /\
   (∀ U,U = ((((V.setCell ⟨fb,i * 4,none⟩ (.string D)).setCell ⟨fb,i * 4 + 1,none⟩ (.int .i64 1)).setCell ⟨fb,i * 4 + 2,none⟩ (.bool false)).setCell ⟨fb,i * 4 + 3,none⟩ (.bool false)).drew -> Km lo mb tt X U S' (KM.layK k1 i D false) /\ Ch S' V S' U)):=fun V S' hV=>by
  obtain ⟨fb,cF,A⟩:=hV.toKr.fr (by omega)
  obtain ⟨pb,cP,AL⟩:=hV.toKr.sp (by omega)
  have c1:=hV.c1
  have c2:=hV.c3
  rw [A.v] at c1
  rw [AL.v] at c2
  refine ⟨fb,cF,pb,cP,(lcAt S'.L j).va,fun e=>by have:=A.lab;rw [<- e,hV.lH] at this;simp at this,c1,c2,AL.x1 j hj1,?_,fun V' hb=>AW.find_any _ _ p V' (AW.Has.below (hV.toKr.areas hj1) hb) hfit1,fun V' hb=>?_,A.x0 i hi1,A.x1 i hi1,A.x2 i hi1,A.x3 i hi1,A.fz _,A.fz _,A.fz _,A.fz _,fun U hU=>?_⟩
  · obtain ⟨ax,cx,hva,_,_⟩:=row_form (hV.each j hj1).areas
    exact ⟨_,_,_,hva⟩
  · rw [hD,hsh]
    have hm':=hV.below hb
    exact KW.fill_any k.sheets p _ mb V' (fun n hn=>hm'.cx n (hX n hn)) (by omega)
  have m:=hV.layF A.v hi1 ⟨D,1,false,false⟩
  subst hU
  exact ⟨m.1.below (Below.refl _ _).drew,m.2.trans (Ch.below (Below.refl _ _).drew)⟩
 have HET : Hid (∀ V S',Km lo mb tt X V S' (KM.layK k1 i D false) -> Calls Tryz.prog 166 #[.pointer (some ⟨mb,0,none⟩),.int .i64 (j : Int),.agg #[.int .i64 p,.int .i64 1,.int .i64 (i : Int)]] V (OutM lo mb tt X V S' (.tuple #[]) (KM.enterK (KM.layK k1 i D false) j ⟨p,1,i⟩))):=fun V S' hV=>by
  have hsp : (KM.layK k1 i D false).spaces = k1.spaces:=rfl
  exact enter_any _ S' V j ⟨p,1,i⟩ hV (by rw [hsp];exact hj1) (by rw [hsp];omega) (by rw [hsp];omega)
 have HFIN : Hid (∀ V S',Km lo mb tt X V S' (KM.enterK (KM.layK k1 i D false) j ⟨p,1,i⟩) -> Ch S w S' V -> OutM lo mb tt X w S (.int .i64 (i : Int)) (KM.enterK (KM.layK k1 i D false) j ⟨p,1,i⟩) (.returned (.int .i64 (i : Int))) V):=fun V S' h1 h2=>⟨rfl,S',h1,h2⟩
 obtain ⟨K3,hK3⟩ : ∃ K3,K3 = KM.enterK (KM.layK k1 i D false) j ⟨p,1,i⟩:=⟨_,rfl⟩
 rw [<- hK3] at HET HFIN ⊢
 obtain ⟨K1,hK1⟩ : ∃ K1,K1 = KM.layK k1 i D false:=⟨_,rfl⟩
 rw [<- hK1] at HRD HET
 obtain ⟨P,hP2⟩ : ∃ P,P = OutM lo mb tt X w S (.int .i64 (i : Int)) K3:=⟨_,rfl⟩
 rw [<- hP2] at HFIN ⊢
 have HNO : Hid (∀ V : World,w.heap.size <= V.heap.size -> S.lab V.heap.size = .no):=fun V hV=>h.toKr.new hV
 obtain ⟨FR,hFR⟩ : ∃ FR,FR = KM.frAt k1.frames i:=⟨_,rfl⟩
 rw [<- hFR] at HRD
 obtain ⟨nf,hnf⟩ : ∃ nf,nf = k1.frames.length:=⟨_,rfl⟩
 obtain ⟨np,hnp⟩ : ∃ np,np = k1.spaces.length:=⟨_,rfl⟩
 rw [<- hnf,<- hnp] at HRD
 have hji : (j : Int) < (np : Int):=by omega
 have hii : (i : Int) < (nf : Int):=by omega
 obtain ⟨AR,hAR⟩ : ∃ AR,AR = AM.findN (KM.spAt k1.spaces j).areas p:=⟨_,rfl⟩
 rw [<- hAR] at HRD
 obtain ⟨⟨q0,q1,q2,q3⟩,q4⟩:=AR
 unfold aggEn at HEN
 unfold AW.cellsOf at HRD
 simp only [KM.en0] at HEN HRD
 clear hP hP2 e1 he h hR hj G hent hmv hcc hj1 hi1 hen1 hnp1 hk1 hi hD hK3 hK1 hH hl hFR hnf hnp hAR hX hsh hfit1
 go_enter Tryz.func141,Tryz.ntmps141
 go_upto_region 8 with (first
  | (go_at_call 118;refine HEN.out.mono ?_;rintro r w1 ⟨rfl,hb1⟩;have HB1:=hideC hb1;have HBA:=hideC (HB1.out.alloc HB1.out.size (.cells #[.int .i64 0,.int .i64 0,.int .i64 0] 45));have BX:=hideC (B.new w1 #[.int .i64 0,.int .i64 0,.int .i64 0] 45);obtain ⟨d0,d1,d2⟩:=B.c3 BX.out;clear hb1)
  | (go_at_call 165;refine (HGT.out _ HBA.out).mono ?_;rintro r w2 ⟨rfl,S2,hk2,hc2⟩;have HK2:=hideC hk2;have HC2:=hideC ((Ch.below HBA.out).trans hc2);clear hk2 hc2 d0 d1 d2))
 obtain ⟨fb,cF,pb,cP,va,hmf,g1,g2,g3,⟨ax,nx,cx,hva⟩,hfind,hfill,g4,g5,g6,g7,g8,g9,g10,g11,hfin⟩:=HRD.out w2 S2 HK2.out
 subst hva
 have HFD:=hideC (hfind w2 (Below.refl _ _))
 have HFL:=hideC hfill
 have HSN:=hideC (fun V (hb : Below w2.heap.size w2 V)=>HRD.out V S2 (HK2.out.below hb))
 have hwl:=World.block_lt_of_cell? w2 _ g4
 have hml:=World.block_lt_of_cell? w2 _ g1
 have hwl : fb < w2.heap.size:=hwl
 have hml : mb < w2.heap.size:=hml
 clear hfind hfill g4 g5 g6 g7 g8 g9 g10 g11 hfin
 have HFBE : Hid (∀ V,Below w2.heap.size w2 V -> V.cell? ⟨fb,i * 4,none⟩ = some (.string FR.data) /\ V.cell? ⟨fb,i * 4 + 1,none⟩ = some (.int .i64 FR.refs) /\ V.cell? ⟨fb,i * 4 + 2,none⟩ = some (.bool FR.dirty) /\ V.cell? ⟨fb,i * 4 + 3,none⟩ = some (.bool FR.seen) /\ V.frozen? ⟨fb,i * 4,none⟩ = false /\ V.frozen? ⟨fb,i * 4 + 1,none⟩ = false /\ V.frozen? ⟨fb,i * 4 + 2,none⟩ = false /\ V.frozen? ⟨fb,i * 4 + 3,none⟩ = false /\ (∀ U,U = ((((V.setCell ⟨fb,i * 4,none⟩ (.string D)).setCell ⟨fb,i * 4 + 1,none⟩ (.int .i64 1)).setCell ⟨fb,i * 4 + 2,none⟩ (.bool false)).setCell ⟨fb,i * 4 + 3,none⟩ (.bool false)) -> Km lo mb tt X U S2 K1 /\ Ch S w S2 U)):=fun V hb=>by
  obtain ⟨fb',cF',pb',cP',va',_,z1,_,_,_,_,_,z4,z5,z6,z7,z8,z9,z10,z11,zfin⟩:=HSN.out V hb
  have e : fb' = fb:=by
   rw [(hb.cell (p:=⟨mb,1,none⟩) hml).trans g1] at z1
   injection z1 with z1
   injection z1 with e1 _ _
   injection e1 with e1
   injection e1 with e1 _ _
   exact e1.symm
  subst e
  refine ⟨z4,z5,z6,z7,z8,z9,z10,z11,fun U hU=>?_⟩
  obtain ⟨q1,q2⟩:=zfin U.drew (by rw [hU])
  have dr : Below U.heap.size U U.drew:=(Below.refl _ _).drew
  exact ⟨undrew q1,(HC2.out.trans (Ch.below hb)).trans (ch_undrew q2)⟩
 clear HSN HRD
 go_upto_region 9 with (go_at_call 70;refine HFD.out.mono ?_;rintro r w3 ⟨rfl,hb3⟩;have HB3:=hideC hb3;clear hb3)
 have HBW:=hideC (HB3.out.alloc HB3.out.size (.cells #[.int .i64 q0,.int .i64 q1,.int .i64 q2,.bool q3] 47))
 have AX:=hideC (B.new w3 #[.int .i64 q0,.int .i64 q1,.int .i64 q2,.bool q3] 47)
 have hl3:=HB3.out.size
 obtain ⟨W,hW⟩ : ∃ W,W = w3.alloc (.cells #[.int .i64 q0,.int .i64 q1,.int .i64 q2,.bool q3] 47):=⟨_,rfl⟩
 obtain ⟨xb,hxb⟩ : ∃ xb,xb = w3.heap.size:=⟨_,rfl⟩
 rw [<- hW] at HBW AX ⊢
 rw [<- hxb] at AX ⊢
 have hxf : ¬ xb = fb:=by omega
 clear hW hxb
 have HS : Hid (∀ V,Below W.heap.size W V -> V.cell? ⟨mb,1,none⟩ = some (.slice (some ⟨fb,0,none⟩) nf cF) /\ V.cell? ⟨xb,3,none⟩ = some (.bool q3)):=fun V hb=>⟨((HBW.out.trans (hb.mono HBW.out.size)).cell (p:=⟨mb,1,none⟩) hml).trans g1,B.cell (B.below AX.out hb (B.isLt AX.out)) 3 rfl⟩
 have HK0:=hideC (Below.refl W.heap.size W).drew
 have HS0:=hideC (HS.out _ HK0.out)
 have HFL2 : Hid (∀ V,Below W.heap.size W V -> Calls Tryz.prog 119 #[.pointer (some ⟨mb,0,none⟩),.int .i64 p,.bool q3] V fun e w'=>e = .returned (.string D) /\ Below V.heap.size V w'):=fun V hb=>HFL.out V (HBW.out.trans (hb.mono HBW.out.size))
 have HSY : Hid (∀ V : World,(V.cell? ⟨mb,1,none⟩ = some (.slice (some ⟨fb,0,none⟩) nf cF) /\ V.cell? ⟨xb,3,none⟩ = some (.bool q3)) -> ∀ v0 v1 v2 v3,((((V.setCell ⟨fb,i * 4,none⟩ v0).setCell ⟨fb,i * 4 + 1,none⟩ v1).setCell ⟨fb,i * 4 + 2,none⟩ v2).setCell ⟨fb,i * 4 + 3,none⟩ v3).cell? ⟨mb,1,none⟩ = some (.slice (some ⟨fb,0,none⟩) nf cF) /\ ((((V.setCell ⟨fb,i * 4,none⟩ v0).setCell ⟨fb,i * 4 + 1,none⟩ v1).setCell ⟨fb,i * 4 + 2,none⟩ v2).setCell ⟨fb,i * 4 + 3,none⟩ v3).cell? ⟨xb,3,none⟩ = some (.bool q3)):=fun V ⟨h0,h1⟩ v0 v1 v2 v3=>by
  rw [cell_other _ _ _ _ _ _ hmf,cell_other _ _ _ _ _ _ hmf,cell_other _ _ _ _ _ _ hmf,cell_other _ _ _ _ _ _ hmf,cell_other _ _ _ _ _ _ hxf,cell_other _ _ _ _ _ _ hxf,cell_other _ _ _ _ _ _ hxf,cell_other _ _ _ _ _ _ hxf]
  exact ⟨h0,h1⟩
 go_region_held3 (fun V=>V.cell? ⟨mb,1,none⟩ = some (.slice (some ⟨fb,0,none⟩) nf cF) /\ V.cell? ⟨xb,3,none⟩ = some (.bool q3)) (first | exact HS3.out | exact HS0.out | exact HSX.out _ _ _ _)
  ((go_at_call 119;refine (HFL2.out _ HK0.out).mono ?_;rintro r w5 ⟨rfl,hb5⟩;have HK5:=hideC (HK0.out.trans (hb5.mono HK0.out.size));have HS3:=hideC (HS.out _ HK5.out);have HSX:=hideC (fun v0 v1 v2 v3=>HSY.out w5 HS3.out v0 v1 v2 v3);have HZZ:=hideC (HFBE.out w5 (HBW.out.trans (HK5.out.mono HBW.out.size)));obtain ⟨z4,z5,z6,z7,z8,z9,z10,z11⟩ : w5.cell? ⟨fb,i * 4,none⟩ = some (.string FR.data) /\ w5.cell? ⟨fb,i * 4 + 1,none⟩ = some (.int .i64 FR.refs) /\ w5.cell? ⟨fb,i * 4 + 2,none⟩ = some (.bool FR.dirty) /\ w5.cell? ⟨fb,i * 4 + 3,none⟩ = some (.bool FR.seen) /\ w5.frozen? ⟨fb,i * 4,none⟩ = false /\ w5.frozen? ⟨fb,i * 4 + 1,none⟩ = false /\ w5.frozen? ⟨fb,i * 4 + 2,none⟩ = false /\ w5.frozen? ⟨fb,i * 4 + 3,none⟩ = false:=(by obtain ⟨a1,a2,a3,a4,a5,a6,a7,a8,_⟩:=HZZ.out;exact ⟨a1,a2,a3,a4,a5,a6,a7,a8⟩);clear hb5))
 all_goals clear HSX HSY HS HS0 HS3 HFL HFL2
 obtain ⟨U,hU⟩ : ∃ U,U = ((((w5.setCell ⟨fb,i * 4,none⟩ (.string D)).setCell ⟨fb,i * 4 + 1,none⟩ (.int .i64 1)).setCell ⟨fb,i * 4 + 2,none⟩ (.bool false)).setCell ⟨fb,i * 4 + 3,none⟩ (.bool false)):=⟨_,rfl⟩
 obtain ⟨_,_,_,_,_,_,_,_,zf⟩:=HZZ.out
 obtain ⟨hk6,hc6⟩:=zf U hU
 have HK6:=hideC hk6
 have HC6:=hideC hc6
 rw [<- hU]
 clear hU hk6 hc6 zf HZZ z4 z5 z6 z7 z8 z9 z10 z11 HFBE
 go_wp2_with (go_at_call 166;refine (HET.out _ _ HK6.out).mono ?_;rintro r w7 ⟨rfl,S7,hk7,hc7⟩;have HK7:=hideC hk7;have HC7:=hideC (HC6.out.trans hc7);clear hk7 hc7)
 exact HFIN.out _ _ HK7.out HC7.out
end KX
namespace KB
open Go.RowKit
theorem bytes_ext {s t : ByteArray} (h : ∀ i : Nat,s.data.toList[i]? = t.data.toList[i]?) : s = t:=by
 apply ByteArray.ext
 exact Array.toList_inj.1 (List.ext_getElem? h)
end KB
namespace KM
open Go.RowKit
theorem apart_frames {k : Kn} (h : RightK k) {j j0 : Nat} (hj : j < k.spaces.length) (hj0 : j0 < k.spaces.length) {p q : Int} {a b : Nat} (h1 : entOf (spAt k.spaces j).ents p = some ⟨p,1,a⟩) (h2 : entOf (spAt k.spaces j0).ents q = some ⟨q,1,b⟩) (hpq : q ≠ p) : a ≠ b:=fun e=>by
 subst e
 have m1:=name_of hj (ent_mem h1)
 have m2:=name_of hj0 (ent_mem h2)
 have hb:=loc_bd h hj (ent_mem h1)
 have hlt : a < k.frames.length:=by
  rcases hb with b | b
  · have:=b.2.2;simpa using this
  · have:=b.1;simp at this
 have:=(h.frm a hlt).one _ m1 _ m2
 injection this with e _
 exact hpq e.symm
theorem held_ne {k : Kn} (h : RightK k) {j0 : Nat} (hj0 : j0 < k.spaces.length) {q : Int} {b : Nat} (h2 : entOf (spAt k.spaces j0).ents q = some ⟨q,1,b⟩) : b < k.frames.length /\ (frAt k.frames b).refs ≠ 0:=by
 have m2:=name_of hj0 (ent_mem h2)
 have hb:=loc_bd h hj0 (ent_mem h2)
 have hlt : b < k.frames.length:=by
  rcases hb with b | b
  · have:=b.2.2;simpa using this
  · have:=b.1;simp at this
 refine ⟨hlt,fun z=>?_⟩
 have:=(h.frm b hlt).nil z
 rw [this] at m2
 cases m2
theorem present_held {k : Kn} (h : RightK k) {j : Nat} (hj : j < k.spaces.length) {p : Int} (hp : mapped k j p) {held : List Int} (hl : held.length <= 2) {j0 : Nat} (hj0 : j0 < k.spaces.length) {q : Int} {b : Nat} (h2 : entOf (spAt k.spaces j0).ents q = some ⟨q,1,b⟩) (hin : (b : Int) ∈ held) (hpq : q ≠ p) : frAt (presentK k j p held).2.frames b = frAt k.frames b:=by
 have hsp:=h.sp hj
 have G:=get_got h hl
 have hH:=G.heldF b hin (held_ne h hj0 h2).2
 unfold presentK
 cases g : entOf (spAt k.spaces j).ents p with
 | none =>
  dsimp only
  have hent : entOf (spAt (getK k held).2.spaces j).ents p = none:=by rw [G.ent j hj p (fun e he=>by rw [g] at he;cases he),g]
  have hj' : j < (getK k held).2.spaces.length:=by rw [G.kept.np];exact hj
  have m : Movable (getK k held).2 j p (getK k held).1 (fillK (getK k held).2.sheets p (zeroAt (getK k held).2 j p)) false:=⟨G.right,hj',G.mapped hj hp,by rw [G.kept.nf];exact G.lt,G.free,fill_size G.right hj' (G.mapped hj hp),fun _=>rfl⟩
  rw [(move_frames _ _ _ _ _ _ m).2.2.2.2.2.1 b,if_neg hH.1,hent]
  exact hH.2
 | some e =>
  have he:=(ent_iff hsp.rise).1 g
  dsimp only
  by_cases c : e.kind = 1
  · rw [if_pos c]
  · rw [if_neg c]
    have hb:=(loc_bd h hj he.1).resolve_left (fun y=>c y.1)
    have hent : entOf (spAt (getK k held).2.spaces j).ents p = some e:=by rw [G.ent j hj p (fun x hx=>by rw [g] at hx;injection hx with hx;subst hx;exact fun y=>c y.1),g]
    have hj' : j < (getK k held).2.spaces.length:=by rw [G.kept.np];exact hj
    have he':=(ent_iff (G.right.sp hj').rise).1 hent
    have hsz : (slAt (getK k held).2.slots e.loc.toNat).data.size = 16:=(G.right.slt e.loc.toNat (by rw [G.kept.ns];exact hb.2.2)).size (fun z=>by
     have:=name_of hj' he'.1
     rw [hb.1,<- hb.2.1,z] at this
     cases this)
    have m : Movable (getK k held).2 j p (getK k held).1 (slAt (getK k held).2.slots e.loc.toNat).data true:=⟨G.right,hj',G.mapped hj hp,by rw [G.kept.nf];exact G.lt,G.free,hsz,fun y=>by cases y⟩
    rw [(move_frames _ _ _ _ _ _ m).2.2.2.2.2.1 b,if_neg hH.1,hent]
    show (if e.kind = 1 /\ e.loc = (b : Int) then _ else _) = _
    rw [if_neg (fun x=>c x.1)]
    exact hH.2
theorem alone_held {k : Kn} (h : RightK k) {j : Nat} (hj : j < k.spaces.length) {p : Int} (hp : mapped k j p) {a : Nat} (ha : entOf (spAt k.spaces j).ents p = some ⟨p,1,a⟩) {held : List Int} (hl : held.length <= 1) {j0 : Nat} (hj0 : j0 < k.spaces.length) {q : Int} {b : Nat} (h2 : entOf (spAt k.spaces j0).ents q = some ⟨q,1,b⟩) (hin : (b : Int) ∈ held) (hpq : q ≠ p) : frAt (aloneK k j p a held).2.frames b = frAt k.frames b:=by
 have hab:=apart_frames h hj hj0 ha h2 hpq
 have hat:=(held_ne h hj ha).1
 unfold aloneK
 by_cases c : (frAt k.frames a).refs = 1
 · rw [if_pos c]
 · rw [if_neg c]
   have G:=get_got h (held:=held ++ [(a : Int)]) (by rw [List.length_append,List.length_singleton];omega)
   have hH:=G.heldF b (List.mem_append.2 (.inl hin)) (held_ne h hj0 h2).2
   obtain ⟨g,hg⟩ : ∃ g,g = getK k (held ++ [(a : Int)]):=⟨_,rfl⟩
   rw [<- hg] at G hH ⊢
   have hent : entOf (spAt g.2.spaces j).ents p = some ⟨p,1,a⟩:=G.stay h hj ha (fun _=>List.mem_append.2 (.inr (by simp)))
   have hj' : j < g.2.spaces.length:=by rw [G.kept.np];exact hj
   have he':=(ent_iff (G.right.sp hj').rise).1 hent
   have hsz : (frAt g.2.frames a).data.size = 16:=(G.right.frm a (by rw [G.kept.nf];exact hat)).size (fun z=>by
    have:=name_of hj' he'.1
    rw [z] at this
    cases this)
   have m : Movable g.2 j p g.1 (frAt g.2.frames a).data true:=⟨G.right,hj',G.mapped hj hp,by rw [G.kept.nf];exact G.lt,G.free,hsz,fun y=>by cases y⟩
   show frAt (moveTo g.2 j p g.1 _ true).frames b = _
   rw [(move_frames _ _ _ _ _ _ m).2.2.2.2.2.1 b,if_neg hH.1,hent]
   show (if (1 : Int) = 1 /\ (a : Int) = (b : Int) then _ else _) = _
   rw [if_neg (fun x=>hab (by omega))]
   exact hH.2
theorem bring_held {k : Kn} (h : RightK k) {j : Nat} (hj : j < k.spaces.length) {p : Int} (hp : mapped k j p) (way : Int) {held : List Int} (hl : held.length <= 1) {j0 : Nat} (hj0 : j0 < k.spaces.length) {q : Int} {b : Nat} (h2 : entOf (spAt k.spaces j0).ents q = some ⟨q,1,b⟩) (hin : (b : Int) ∈ held) (hpq : q ≠ p) : frAt (bringK k j p way held).2.frames b = frAt k.frames b:=by
 have P:=present_had h hj hp (held:=held) (by omega)
 have PH:=present_held h hj hp (held:=held) (by omega) hj0 h2 hin hpq
 have hT : Brought k j p held (twoK k j p way held) /\ frAt (twoK k j p way held).2.frames b = frAt k.frames b:=by
  unfold twoK
  by_cases c : way = 1
  · rw [if_pos c]
    have A:=alone_had P.right (by rw [P.kept.np];exact hj) (P.kept.mapped hj hp) P.here hl
    refine ⟨P.trans A.1,?_⟩
    rw [alone_held P.right (by rw [P.kept.np];exact hj) (P.kept.mapped hj hp) P.here hl (by rw [P.kept.np];exact hj0) (P.stay j0 hj0 q _ h2 rfl hin (fun x=>hpq x.2)) hin hpq]
    exact PH
  · rw [if_neg c];exact ⟨P,PH⟩
 have T:=hT.1
 have hne:=apart_frames T.right (by rw [T.kept.np];exact hj) (by rw [T.kept.np];exact hj0) T.here (T.stay j0 hj0 q _ h2 rfl hin (fun x=>hpq x.2)) hpq
 show frAt ((twoK k j p way held).2.frames.set _ _) b = _
 rw [frAt_set _ _ _ _ (by rw [T.kept.nf];exact T.lt),if_neg hne]
 exact hT.2
structure Alone (k : Kn) (j : Nat) (p : Int) (i : Nat) : Prop where
 here : entOf (spAt k.spaces j).ents p = some ⟨p,1,i⟩
 lt : i < k.frames.length
 refs : (frAt k.frames i).refs = 1
 dirty : (frAt k.frames i).dirty = true
theorem reach_alone {k : Kn} (h : RightK k) {j : Nat} (hj : j < k.spaces.length) (a n : Int) (h1 : mapped k j (a / 16)) (h2 : mapped k j (lastPg a n)) : Alone (reachK k j a n 1).2 j (a / 16) (oneK k j a 1).1 /\ (lastPg a n ≠ a / 16 -> Alone (reachK k j a n 1).2 j (lastPg a n) (twoB k j a n 1).1):=by
 have R:=reach_had h hj a n 1 h1 h2
 obtain ⟨A,A2⟩:=bring_had h hj h1 1 (held:=[]) (by simp)
 have A2:=A2 rfl
 by_cases c : lastPg a n = a / 16
 · have e : reachK k j a n 1 = ([(oneK k j a 1).1],(oneK k j a 1).2):=by unfold reachK;rw [if_pos c]
   refine ⟨?_,fun x=>absurd c x⟩
   rw [e]
   exact ⟨A.here,by have:=A.kept.nf;have:=A.lt;show (bringK k j (a / 16) 1 []).1 < (bringK k j (a / 16) 1 []).2.frames.length;omega,A2.1,A2.2⟩
 · have hj' : j < (oneK k j a 1).2.spaces.length:=by have:=A.kept.np;unfold oneK;omega
   have hm':=A.kept.mapped hj h2
   obtain ⟨B,B2⟩:=bring_had (k:=(oneK k j a 1).2) A.right hj' hm' 1 (held:=[((oneK k j a 1).1 : Int)]) (by simp)
   have B2:=B2 rfl
   have hh:=bring_held (k:=(oneK k j a 1).2) A.right hj' hm' 1 (held:=[((oneK k j a 1).1 : Int)]) (by simp) hj' A.here (by simp [oneK]) (fun x=>c x.symm)
   have e : reachK k j a n 1 = ([(oneK k j a 1).1,(twoB k j a n 1).1],(twoB k j a n 1).2):=by unfold reachK;rw [if_neg c]
   have hB : twoB k j a n 1 = bringK (oneK k j a 1).2 j (lastPg a n) 1 [((oneK k j a 1).1 : Int)]:=rfl
   have hlen : (twoB k j a n 1).2.frames.length = k.frames.length:=by rw [hB,B.kept.nf];exact A.kept.nf
   rw [e]
   refine ⟨⟨?_,?_,?_,?_⟩,fun _=>⟨?_,?_,?_,?_⟩⟩
   · exact B.stay j hj' (a / 16) _ A.here rfl (by simp [oneK]) (fun x=>c x.2.symm)
   · show (oneK k j a 1).1 < (twoB k j a n 1).2.frames.length
     rw [hlen];exact A.lt
   · show (frAt (twoB k j a n 1).2.frames (oneK k j a 1).1).refs = 1
     rw [hB]
     have : frAt (bringK (oneK k j a 1).2 j (lastPg a n) 1 [((oneK k j a 1).1 : Int)]).2.frames (oneK k j a 1).1 = frAt (oneK k j a 1).2.frames (oneK k j a 1).1:=hh
     rw [this];exact A2.1
   · show (frAt (twoB k j a n 1).2.frames (oneK k j a 1).1).dirty = true
     rw [hB]
     have : frAt (bringK (oneK k j a 1).2 j (lastPg a n) 1 [((oneK k j a 1).1 : Int)]).2.frames (oneK k j a 1).1 = frAt (oneK k j a 1).2.frames (oneK k j a 1).1:=hh
     rw [this];exact A2.2
   · exact B.here
   · show (twoB k j a n 1).1 < (twoB k j a n 1).2.frames.length
     rw [hlen]
     have:=B.lt
     have:=A.kept.nf
     show (bringK (oneK k j a 1).2 j (lastPg a n) 1 [((oneK k j a 1).1 : Int)]).1 < _
     unfold oneK at *
     omega
   · exact B2.1
   · exact B2.2
def layD (k : Kn) (i : Nat) (d : ByteArray) : Kn:={ k with frames:=k.frames.set i ⟨d,(frAt k.frames i).refs,(frAt k.frames i).dirty,(frAt k.frames i).seen⟩ }
theorem layD_right {k : Kn} (h : RightK k) {j : Nat} (hj : j < k.spaces.length) {p : Int} {i : Nat} (a : Alone k j p i) {d : ByteArray} (hd : d.size = 16) : RightK (layD k i d):=by
 have hf:=h.frm i a.lt
 refine h.frame ⟨hf.refs,fun e=>?_,hf.one,fun _=>hd,fun x=>?_⟩
 · have:=hf.refs
   rw [e,a.refs] at this
   cases this
 · have x : (frAt k.frames i).dirty = false:=x
   rw [a.dirty] at x;cases x
theorem layD_peek {k : Kn} (h : RightK k) {j : Nat} (hj : j < k.spaces.length) {p : Int} {i : Nat} (a : Alone k j p i) (d : ByteArray) {m : Nat} (hm : m < k.spaces.length) (q : Int) : peekK (layD k i d) m q = if m = j /\ q = p then d else peekK k m q:=by
 have at_ : ∀ n,frAt (layD k i d).frames n = if i = n then ⟨d,(frAt k.frames i).refs,(frAt k.frames i).dirty,(frAt k.frames i).seen⟩ else frAt k.frames n:=fun n=>frAt_set _ _ _ _ a.lt
 by_cases c : m = j /\ q = p
 · rw [if_pos c,c.1,c.2]
   unfold peekK
   show (match entOf (spAt k.spaces j).ents p with
    | some e=>if e.kind = 1 then (frAt (layD k i d).frames e.loc.toNat).data else _
    | none=>_) = d
   rw [a.here]
   show (if (1 : Int) = 1 then (frAt (layD k i d).frames (i : Int).toNat).data else _) = d
   rw [if_pos rfl,Int.toNat_natCast,at_,if_pos rfl]
 · rw [if_neg c]
   refine peek_eq rfl (fun x hx=>⟨fun hk=>?_,fun _=>rfl⟩) (fun _=>rfl)
   have hx : entOf (spAt k.spaces m).ents q = some x:=hx
   rw [at_]
   by_cases e : i = x.loc.toNat
   · exfalso
     have m1 : x ∈ (spAt k.spaces m).ents:=ent_mem hx
     have hb:=(loc_bd h hm m1).resolve_right (fun y=>by omega)
     have hxl : x.loc = (i : Int):=by omega
     have e2 : x = ⟨q,1,i⟩:=by
      have:=ent_page hx
      obtain ⟨a1,a2,a3⟩:=x
      simp only at this hk hxl
      rw [this,hk,hxl]
     rw [e2] at hx
     have hpq : q = p:=by
      by_cases z : q = p
      · exact z
      · exact absurd rfl (apart_frames h hj hm a.here hx z)
     have hmj : m ≠ j:=fun z=>c ⟨z,hpq⟩
     have hr:=(h.frm i a.lt).refs
     rw [a.refs] at hr
     have two : 2 <= (names k.spaces 1 i).length:=by
      have key : ∀ (l : List Sp) (a b : Nat),a < b -> b < l.length -> (nameIn (spAt l a) 1 i) ≠ [] -> (nameIn (spAt l b) 1 i) ≠ [] -> 2 <= (names l 1 i).length:=fun l=>by
       induction l with
       | nil=>intro a b _ hb;simp at hb
       | cons s r ih =>
        intro a b hab hb h1 h2
        rw [names_cons,List.length_append]
        cases a with
        | zero =>
         have h1' : 1 <= (nameIn s 1 i).length:=List.length_pos_iff.2 h1
         obtain ⟨b',rfl⟩ : ∃ b',b = b' + 1:=⟨b - 1,by omega⟩
         have h2' : nameIn (spAt r b') 1 i ≠ []:=h2
         have : 1 <= (names r 1 i).length:=by
          obtain ⟨y,hy⟩:=List.exists_mem_of_ne_nil _ h2'
          refine List.length_pos_iff.2 fun z=>?_
          have : y ∈ names r 1 i:=List.mem_flatMap.2 ⟨_,spAt_mem (by simpa using hb),hy⟩
          rw [z] at this;cases this
         omega
        | succ a =>
         obtain ⟨b',rfl⟩ : ∃ b',b = b' + 1:=⟨b - 1,by omega⟩
         have:=ih a b' (by omega) (by simpa using hb) h1 h2
         omega
      have n1 : nameIn (spAt k.spaces j) 1 i ≠ []:=fun z=>by
       have : (_ : Int × Bool) ∈ nameIn (spAt k.spaces j) 1 i:=mem_nameIn.2 ⟨_,ent_mem a.here,rfl,rfl,rfl⟩
       rw [z] at this;cases this
      have n2 : nameIn (spAt k.spaces m) 1 i ≠ []:=fun z=>by
       have : (_ : Int × Bool) ∈ nameIn (spAt k.spaces m) 1 i:=mem_nameIn.2 ⟨_,ent_mem hx,rfl,rfl,rfl⟩
       rw [z] at this;cases this
      rcases Nat.lt_or_gt_of_ne hmj with g | g
      · exact key k.spaces m j g hj n2 n1
      · exact key k.spaces j m g hm n1 n2
     omega
   · rw [if_neg e]
def joinB (f : Int -> ByteArray) (a n : Int) : ByteArray:=if lastPg a n = a / 16 then f (a / 16) else f (a / 16) ++ f (lastPg a n)
def laidB (f : Int -> ByteArray) (a : Int) (d : ByteArray) : ByteArray:=CL.over (joinB f a d.size) (a % 16).toNat d
def storeB (f : Int -> ByteArray) (a : Int) (d : ByteArray) (p : Int) : ByteArray:=if p = a / 16 then (laidB f a d).extract 0 16 else if p = lastPg a d.size then (laidB f a d).extract 16 32 else f p
def joinTo (fs : List Fr) (ids : List Nat) : Nat -> ByteArray
 | 0=>⟨#[]⟩
 | n + 1=>joinTo fs ids n ++ (frAt fs (ids.getD n 0)).data
def partTo (k : Kn) (ids : List Nat) (s : ByteArray) : Nat -> Kn
 | 0=>k
 | n + 1=>layD (partTo k ids s n) (ids.getD n 0) (s.extract (n * 16) (n * 16 + 16))
def loadK (k : Kn) (j : Nat) (a n way : Int) : ByteArray:=(joinTo (reachK k j a n way).2.frames (reachK k j a n way).1 (reachK k j a n way).1.length).extract (a % 16).toNat ((a % 16).toNat + n.toNat)
def storeK (k : Kn) (j : Nat) (a : Int) (d : ByteArray) : Kn:=partTo (reachK k j a d.size 1).2 (reachK k j a d.size 1).1 (CL.over (joinTo (reachK k j a d.size 1).2.frames (reachK k j a d.size 1).1 (reachK k j a d.size 1).1.length) (a % 16).toNat d) (reachK k j a d.size 1).1.length
theorem empty_append (d : ByteArray) : (⟨#[]⟩ : ByteArray) ++ d = d:=by
 apply KB.bytes_ext
 intro i
 simp
theorem here_data {k : Kn} {j : Nat} {p : Int} {i : Nat} (h : entOf (spAt k.spaces j).ents p = some ⟨p,1,i⟩) : peekK k j p = (frAt k.frames i).data:=by
 unfold peekK
 rw [h]
 show (if (1 : Int) = 1 then (frAt k.frames (i : Int).toNat).data else _) = _
 rw [if_pos rfl,Int.toNat_natCast]
theorem reach_join {k : Kn} (h : RightK k) {j : Nat} (hj : j < k.spaces.length) (a n way : Int) (h1 : mapped k j (a / 16)) (h2 : mapped k j (lastPg a n)) : joinTo (reachK k j a n way).2.frames (reachK k j a n way).1 (reachK k j a n way).1.length = joinB (peekK k j) a n:=by
 have R:=reach_had h hj a n way h1 h2
 have p1:=R.kept.peek j hj (a / 16)
 have p2:=R.kept.peek j hj (lastPg a n)
 rw [here_data R.one.1] at p1
 unfold joinB
 rw [<- p1,<- p2]
 by_cases c : lastPg a n = a / 16
 · rw [if_pos c]
   have e : (reachK k j a n way).1 = [(oneK k j a way).1]:=by unfold reachK;rw [if_pos c]
   rw [e]
   exact empty_append _
 · rw [if_neg c,here_data (R.two c).1]
   have e : (reachK k j a n way).1 = [(oneK k j a way).1,(twoB k j a n way).1]:=by unfold reachK;rw [if_neg c]
   rw [e]
   show ((⟨#[]⟩ : ByteArray) ++ _) ++ _ = _
   rw [empty_append]
   rfl
theorem peek_size {k : Kn} (h : RightK k) {j : Nat} (hj : j < k.spaces.length) {p : Int} (hp : mapped k j p) : (peekK k j p).size = 16:=by
 unfold peekK
 cases g : entOf (spAt k.spaces j).ents p with
 | none=>exact fill_size h hj hp
 | some e =>
  have hb:=loc_bd h hj (ent_mem g)
  have hn:=name_of hj (ent_mem g)
  dsimp only
  rcases hb with b | b
  · rw [if_pos b.1]
    exact (h.frm _ b.2.2).size (fun z=>by rw [b.1,<- b.2.1,z] at hn;cases hn)
  · rw [if_neg (by omega)]
    exact (h.slt _ b.2.2).size (fun z=>by rw [b.1,<- b.2.1,z] at hn;cases hn)
end KM
end Go.Proofs.YtpgifpeohlllfaaGreat
