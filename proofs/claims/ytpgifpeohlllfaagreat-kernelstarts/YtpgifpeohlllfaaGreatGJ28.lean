import Derived.Test.YtpgifpeohlllfaaGreatGJ27
import Derived.Deep.RegionHeld3
import Derived.Test.YtpgifpeohlllfaaGreatGJ20
set_option maxHeartbeats 20000000
set_option linter.unusedVariables false
set_option maxRecDepth 100000
set_option linter.unusedSimpArgs false
namespace Go.Proofs.YtpgifpeohlllfaaGreat
namespace KX
open Go.RowKit GK KO
open FW (hideC add_below)
open KW (cellFr cellSl cellEn HasRow KAt HasK cellsK aggEn cellI entryN)
open KS (Lc cellLc lc0 lcAt blk SpOwn)
theorem undrew {lo mb : Nat} {tt : TypeId} {X : List Value} {U : World} {S : St} {k : KM.Kn} (h : Km lo mb tt X U.drew S k) : Km lo mb tt X U S k:=h.kp (E:=fun _=>False) ⟨rfl,rfl,rfl,Nat.le_refl _,fun _ _ _=>rfl⟩ (fun _ _ g=>g)
theorem ch_undrew {S S' : St} {w U : World} (h : Ch S w S' U.drew) : Ch S w S' U:=⟨⟨h.kp.os,h.kp.tape,h.kp.output,h.kp.size,h.kp.block⟩,h.no,h.eS,h.eF,h.eL,h.eP⟩
set_option maxHeartbeats 16000000 in
theorem present_none {lo mb : Nat} {tt : TypeId} {X : List Value} (k : KM.Kn) (S : St) (w : World) (j : Nat) (p : Int) (held : List Int) (ah : Option Addr) (ch : Nat) (h : Km lo mb tt X w S k) (hR : KM.RightK k) (hj : j < k.spaces.length) (he : KM.entOf (KM.spAt k.spaces j).ents p = none) (hp : KM.mapped k j p) (hX : FilX X k.sheets) (hl : held.length <= 2) (hH : Held w S ah held) :
  Calls Tryz.prog 141 #[.pointer (some ⟨mb,0,none⟩),.int .i64 (j : Int),.int .i64 p,.slice ah held.length ch] w (OutM lo mb tt X w S (.int .i64 ((KM.presentK k j p held).1 : Int)) (KM.presentK k j p held).2):=by
 have HEN:=hideC (ent_own k S w j p h hR hj)
 have e1 : entryN (KM.spAt k.spaces j).ents p = (KM.en0,false):=by unfold KW.entryN;rw [he]
 rw [e1] at HEN
 have G:=KM.get_got hR hl
 have hP : KM.presentK k j p held = ((KM.getK k held).1,KM.moveTo (KM.getK k held).2 j p (KM.getK k held).1 (KM.fillK (KM.getK k held).2.sheets p (KM.zeroAt (KM.getK k held).2 j p)) false):=by
  unfold KM.presentK
  rw [he]
 have hent : KM.entOf (KM.spAt (KM.getK k held).2.spaces j).ents p = none:=by rw [G.ent j hj p (fun x hx=>by rw [he] at hx;cases hx),he]
 have hmv : KM.moveTo (KM.getK k held).2 j p (KM.getK k held).1 (KM.fillK (KM.getK k held).2.sheets p (KM.zeroAt (KM.getK k held).2 j p)) false = KM.enterK (KM.layK (KM.getK k held).2 (KM.getK k held).1 (KM.fillK (KM.getK k held).2.sheets p (KM.zeroAt (KM.getK k held).2 j p)) false) j ⟨p,1,(KM.getK k held).1⟩:=by
  unfold KM.moveTo
  rw [hent]
 rw [hP,hmv]
 have hpp:=KM.mapped_pos hp
 have hsh:=G.kept.sheets
 have hfit1 : AW.AllFit (KM.spAt (KM.getK k held).2.spaces j).areas:=by
  have:=(G.right.sp (by rw [G.kept.np];exact hj)).areas
  exact AM.fits_of_check _ this
 have hcc:=hR.c
 have hj1 : j < (KM.getK k held).2.spaces.length:=by rw [G.kept.np];exact hj
 have hi1 : (KM.getK k held).1 < (KM.getK k held).2.frames.length:=by rw [G.kept.nf];exact G.lt
 have hen1:=ents_few G.right hj1
 have hnp1:=G.kept.np
 have HGT : Hid (∀ V,Below w.heap.size w V -> Calls Tryz.prog 165 #[.pointer (some ⟨mb,0,none⟩),.slice ah held.length ch] V (OutM lo mb tt X V S (.int .i64 ((KM.getK k held).1 : Int)) (KM.getK k held).2)):=fun V hV=>get_any k S V held ah ch (h.below hV) hR hl (hH.ch (Ch.below hV))
 obtain ⟨k1,hk1⟩ : ∃ k1,k1 = (KM.getK k held).2:=⟨_,rfl⟩
 obtain ⟨i,hi⟩ : ∃ i,i = (KM.getK k held).1:=⟨_,rfl⟩
 rw [<- hk1,<- hi] at HGT hi1
 rw [<- hk1] at hj1 hen1 hnp1 hsh hfit1
 rw [<- hk1,<- hi]
 obtain ⟨D,hD⟩ : ∃ D,D = KM.fillK k1.sheets p (KM.zeroAt k1 j p):=⟨_,rfl⟩
 rw [<- hD]
 have HRD : Hid (∀ V S',Km lo mb tt X V S' k1 -> ∃ fb cF pb cP va,¬ mb = fb /\ V.cell? ⟨mb,1,none⟩ = some (.slice (some ⟨fb,0,none⟩) k1.frames.length cF) /\ V.cell? ⟨mb,3,none⟩ = some (.slice (some ⟨pb,0,none⟩) k1.spaces.length cP) /\ V.cell? ⟨pb,j * 3 + 1,none⟩ = some va /\ (∃ ax nx cx,va = .slice ax nx cx) /\ (∀ V',Below V.heap.size V V' -> Calls Tryz.prog 70 #[va,.int .i64 p] V' fun e w'=>e = .returned (.tuple #[.agg (AW.cellsOf (AM.findN (KM.spAt k1.spaces j).areas p).1),.bool (AM.findN (KM.spAt k1.spaces j).areas p).2]) /\ Below V'.heap.size V' w') /\ (∀ V',Below V.heap.size V V' -> Calls Tryz.prog 119 #[.pointer (some ⟨mb,0,none⟩),.int .i64 p,.bool (AM.findN (KM.spAt k1.spaces j).areas p).1.zero] V' fun e w'=>e = .returned (.string D) /\ Below V'.heap.size V' w') /\ V.cell? ⟨fb,i * 4,none⟩ = some (.string (KM.frAt k1.frames i).data) /\ V.cell? ⟨fb,i * 4 + 1,none⟩ = some (.int .i64 (KM.frAt k1.frames i).refs) /\ V.cell? ⟨fb,i * 4 + 2,none⟩ = some (.bool (KM.frAt k1.frames i).dirty) /\ V.cell? ⟨fb,i * 4 + 3,none⟩ = some (.bool (KM.frAt k1.frames i).seen) /\ V.frozen? ⟨fb,i * 4,none⟩ = false /\ V.frozen? ⟨fb,i * 4 + 1,none⟩ = false /\ V.frozen? ⟨fb,i * 4 + 2,none⟩ = false /\ V.frozen? ⟨fb,i * 4 + 3,none⟩ = false /\
   (∀ U,U = ((((V.setCell ⟨fb,i * 4,none⟩ (.string D)).setCell ⟨fb,i * 4 + 1,none⟩ (.int .i64 1)).setCell ⟨fb,i * 4 + 2,none⟩ (.bool false)).setCell ⟨fb,i * 4 + 3,none⟩ (.bool false)).drew -> Km lo mb tt X U S' (KM.layK k1 i D false) /\ Ch S' V S' U)):=fun V S' hV=>by
  obtain ⟨fb,cF,A⟩:=hV.toKr.fr (by omega)
  obtain ⟨pb,cP,AL⟩:=hV.toKr.sp (by omega)
  have c1:=hV.c1
  have c2:=hV.c3
  rw [A.v] at c1
  rw [AL.v] at c2
  refine ⟨fb,cF,pb,cP,(lcAt S'.L j).va,fun e=>by have:=A.lab;rw [<- e,hV.lH] at this;simp at this,c1,c2,AL.x1 j hj1,?_,fun V' hb=>AW.find_any _ _ p V' (AW.Has.below (hV.toKr.areas hj1) hb) hfit1,fun V' hb=>?_,A.x0 i hi1,A.x1 i hi1,A.x2 i hi1,A.x3 i hi1,A.fz _,A.fz _,A.fz _,A.fz _,fun U hU=>?_⟩
  · obtain ⟨ax,cx,hva,_,_⟩:=row_form (hV.each j hj1).areas
    exact ⟨_,_,_,hva⟩
  · rw [hD,hsh]
    have hm':=hV.below hb
    exact KW.fill_any k.sheets p _ mb V' (fun n hn=>hm'.cx n (hX n hn)) (by omega)
  have m:=hV.layF A.v hi1 ⟨D,1,false,false⟩
  subst hU
  exact ⟨m.1.below (Below.refl _ _).drew,m.2.trans (Ch.below (Below.refl _ _).drew)⟩
 have HET : Hid (∀ V S',Km lo mb tt X V S' (KM.layK k1 i D false) -> Calls Tryz.prog 166 #[.pointer (some ⟨mb,0,none⟩),.int .i64 (j : Int),.agg #[.int .i64 p,.int .i64 1,.int .i64 (i : Int)]] V (OutM lo mb tt X V S' (.tuple #[]) (KM.enterK (KM.layK k1 i D false) j ⟨p,1,i⟩))):=fun V S' hV=>by
  have hsp : (KM.layK k1 i D false).spaces = k1.spaces:=rfl
  exact enter_any _ S' V j ⟨p,1,i⟩ hV (by rw [hsp];exact hj1) (by rw [hsp];omega) (by rw [hsp];omega)
 have HFIN : Hid (∀ V S',Km lo mb tt X V S' (KM.enterK (KM.layK k1 i D false) j ⟨p,1,i⟩) -> Ch S w S' V -> OutM lo mb tt X w S (.int .i64 (i : Int)) (KM.enterK (KM.layK k1 i D false) j ⟨p,1,i⟩) (.returned (.int .i64 (i : Int))) V):=fun V S' h1 h2=>⟨rfl,S',h1,h2⟩
 obtain ⟨K3,hK3⟩ : ∃ K3,K3 = KM.enterK (KM.layK k1 i D false) j ⟨p,1,i⟩:=⟨_,rfl⟩
 rw [<- hK3] at HET HFIN ⊢
 obtain ⟨K1,hK1⟩ : ∃ K1,K1 = KM.layK k1 i D false:=⟨_,rfl⟩
 rw [<- hK1] at HRD HET
 obtain ⟨P,hP2⟩ : ∃ P,P = OutM lo mb tt X w S (.int .i64 (i : Int)) K3:=⟨_,rfl⟩
 rw [<- hP2] at HFIN ⊢
 have HNO : Hid (∀ V : World,w.heap.size <= V.heap.size -> S.lab V.heap.size = .no):=fun V hV=>h.toKr.new hV
 obtain ⟨FR,hFR⟩ : ∃ FR,FR = KM.frAt k1.frames i:=⟨_,rfl⟩
 rw [<- hFR] at HRD
 obtain ⟨nf,hnf⟩ : ∃ nf,nf = k1.frames.length:=⟨_,rfl⟩
 obtain ⟨np,hnp⟩ : ∃ np,np = k1.spaces.length:=⟨_,rfl⟩
 rw [<- hnf,<- hnp] at HRD
 have hji : (j : Int) < (np : Int):=by omega
 have hii : (i : Int) < (nf : Int):=by omega
 obtain ⟨AR,hAR⟩ : ∃ AR,AR = AM.findN (KM.spAt k1.spaces j).areas p:=⟨_,rfl⟩
 rw [<- hAR] at HRD
 obtain ⟨⟨q0,q1,q2,q3⟩,q4⟩:=AR
 unfold aggEn at HEN
 unfold AW.cellsOf at HRD
 simp only [KM.en0] at HEN HRD
 clear hP hP2 e1 he h hR hj G hent hmv hcc hj1 hi1 hen1 hnp1 hk1 hi hD hK3 hK1 hH hl hFR hnf hnp hAR hX hsh hfit1
 go_enter Tryz.func141,Tryz.ntmps141
 go_upto_region 8 with (first
  | (go_at_call 118;refine HEN.out.mono ?_;rintro r w1 ⟨rfl,hb1⟩;have HB1:=hideC hb1;have HBA:=hideC (HB1.out.alloc HB1.out.size (.cells #[.int .i64 0,.int .i64 0,.int .i64 0] 45));have BX:=hideC (B.new w1 #[.int .i64 0,.int .i64 0,.int .i64 0] 45);obtain ⟨d0,d1,d2⟩:=B.c3 BX.out;clear hb1)
  | (go_at_call 165;refine (HGT.out _ HBA.out).mono ?_;rintro r w2 ⟨rfl,S2,hk2,hc2⟩;have HK2:=hideC hk2;have HC2:=hideC ((Ch.below HBA.out).trans hc2);clear hk2 hc2 d0 d1 d2))
 obtain ⟨fb,cF,pb,cP,va,hmf,g1,g2,g3,⟨ax,nx,cx,hva⟩,hfind,hfill,g4,g5,g6,g7,g8,g9,g10,g11,hfin⟩:=HRD.out w2 S2 HK2.out
 subst hva
 have HFD:=hideC (hfind w2 (Below.refl _ _))
 have HFL:=hideC hfill
 have HSN:=hideC (fun V (hb : Below w2.heap.size w2 V)=>HRD.out V S2 (HK2.out.below hb))
 have hwl:=World.block_lt_of_cell? w2 _ g4
 have hml:=World.block_lt_of_cell? w2 _ g1
 have hwl : fb < w2.heap.size:=hwl
 have hml : mb < w2.heap.size:=hml
 clear hfind hfill g4 g5 g6 g7 g8 g9 g10 g11 hfin
 have HFBE : Hid (∀ V,Below w2.heap.size w2 V -> V.cell? ⟨fb,i * 4,none⟩ = some (.string FR.data) /\ V.cell? ⟨fb,i * 4 + 1,none⟩ = some (.int .i64 FR.refs) /\ V.cell? ⟨fb,i * 4 + 2,none⟩ = some (.bool FR.dirty) /\ V.cell? ⟨fb,i * 4 + 3,none⟩ = some (.bool FR.seen) /\ V.frozen? ⟨fb,i * 4,none⟩ = false /\ V.frozen? ⟨fb,i * 4 + 1,none⟩ = false /\ V.frozen? ⟨fb,i * 4 + 2,none⟩ = false /\ V.frozen? ⟨fb,i * 4 + 3,none⟩ = false /\ (∀ U,U = ((((V.setCell ⟨fb,i * 4,none⟩ (.string D)).setCell ⟨fb,i * 4 + 1,none⟩ (.int .i64 1)).setCell ⟨fb,i * 4 + 2,none⟩ (.bool false)).setCell ⟨fb,i * 4 + 3,none⟩ (.bool false)) -> Km lo mb tt X U S2 K1 /\ Ch S w S2 U)):=fun V hb=>by
  obtain ⟨fb',cF',pb',cP',va',_,z1,_,_,_,_,_,z4,z5,z6,z7,z8,z9,z10,z11,zfin⟩:=HSN.out V hb
  have e : fb' = fb:=by
   rw [(hb.cell (p:=⟨mb,1,none⟩) hml).trans g1] at z1
   injection z1 with z1
   injection z1 with e1 _ _
   injection e1 with e1
   injection e1 with e1 _ _
   exact e1.symm
  subst e
  refine ⟨z4,z5,z6,z7,z8,z9,z10,z11,fun U hU=>?_⟩
  obtain ⟨q1,q2⟩:=zfin U.drew (by rw [hU])
  have dr : Below U.heap.size U U.drew:=(Below.refl _ _).drew
  exact ⟨undrew q1,(HC2.out.trans (Ch.below hb)).trans (ch_undrew q2)⟩
 clear HSN HRD
 go_upto_region 9 with (go_at_call 70;refine HFD.out.mono ?_;rintro r w3 ⟨rfl,hb3⟩;have HB3:=hideC hb3;clear hb3)
 have HBW:=hideC (HB3.out.alloc HB3.out.size (.cells #[.int .i64 q0,.int .i64 q1,.int .i64 q2,.bool q3] 47))
 have AX:=hideC (B.new w3 #[.int .i64 q0,.int .i64 q1,.int .i64 q2,.bool q3] 47)
 have hl3:=HB3.out.size
 obtain ⟨W,hW⟩ : ∃ W,W = w3.alloc (.cells #[.int .i64 q0,.int .i64 q1,.int .i64 q2,.bool q3] 47):=⟨_,rfl⟩
 obtain ⟨xb,hxb⟩ : ∃ xb,xb = w3.heap.size:=⟨_,rfl⟩
 rw [<- hW] at HBW AX ⊢
 rw [<- hxb] at AX ⊢
 have hxf : ¬ xb = fb:=by omega
 clear hW hxb
 have HS : Hid (∀ V,Below W.heap.size W V -> V.cell? ⟨mb,1,none⟩ = some (.slice (some ⟨fb,0,none⟩) nf cF) /\ V.cell? ⟨xb,3,none⟩ = some (.bool q3)):=fun V hb=>⟨((HBW.out.trans (hb.mono HBW.out.size)).cell (p:=⟨mb,1,none⟩) hml).trans g1,B.cell (B.below AX.out hb (B.isLt AX.out)) 3 rfl⟩
 have HK0:=hideC (Below.refl W.heap.size W).drew
 have HS0:=hideC (HS.out _ HK0.out)
 have HFL2 : Hid (∀ V,Below W.heap.size W V -> Calls Tryz.prog 119 #[.pointer (some ⟨mb,0,none⟩),.int .i64 p,.bool q3] V fun e w'=>e = .returned (.string D) /\ Below V.heap.size V w'):=fun V hb=>HFL.out V (HBW.out.trans (hb.mono HBW.out.size))
 have HSY : Hid (∀ V : World,(V.cell? ⟨mb,1,none⟩ = some (.slice (some ⟨fb,0,none⟩) nf cF) /\ V.cell? ⟨xb,3,none⟩ = some (.bool q3)) -> ∀ v0 v1 v2 v3,((((V.setCell ⟨fb,i * 4,none⟩ v0).setCell ⟨fb,i * 4 + 1,none⟩ v1).setCell ⟨fb,i * 4 + 2,none⟩ v2).setCell ⟨fb,i * 4 + 3,none⟩ v3).cell? ⟨mb,1,none⟩ = some (.slice (some ⟨fb,0,none⟩) nf cF) /\ ((((V.setCell ⟨fb,i * 4,none⟩ v0).setCell ⟨fb,i * 4 + 1,none⟩ v1).setCell ⟨fb,i * 4 + 2,none⟩ v2).setCell ⟨fb,i * 4 + 3,none⟩ v3).cell? ⟨xb,3,none⟩ = some (.bool q3)):=fun V ⟨h0,h1⟩ v0 v1 v2 v3=>by
  rw [cell_other _ _ _ _ _ _ hmf,cell_other _ _ _ _ _ _ hmf,cell_other _ _ _ _ _ _ hmf,cell_other _ _ _ _ _ _ hmf,cell_other _ _ _ _ _ _ hxf,cell_other _ _ _ _ _ _ hxf,cell_other _ _ _ _ _ _ hxf,cell_other _ _ _ _ _ _ hxf]
  exact ⟨h0,h1⟩
 go_region_held3 (fun V=>V.cell? ⟨mb,1,none⟩ = some (.slice (some ⟨fb,0,none⟩) nf cF) /\ V.cell? ⟨xb,3,none⟩ = some (.bool q3)) (first | exact HS3.out | exact HS0.out | exact HSX.out _ _ _ _)
  ((go_at_call 119;refine (HFL2.out _ HK0.out).mono ?_;rintro r w5 ⟨rfl,hb5⟩;have HK5:=hideC (HK0.out.trans (hb5.mono HK0.out.size));have HS3:=hideC (HS.out _ HK5.out);have HSX:=hideC (fun v0 v1 v2 v3=>HSY.out w5 HS3.out v0 v1 v2 v3);have HZZ:=hideC (HFBE.out w5 (HBW.out.trans (HK5.out.mono HBW.out.size)));obtain ⟨z4,z5,z6,z7,z8,z9,z10,z11⟩ : w5.cell? ⟨fb,i * 4,none⟩ = some (.string FR.data) /\ w5.cell? ⟨fb,i * 4 + 1,none⟩ = some (.int .i64 FR.refs) /\ w5.cell? ⟨fb,i * 4 + 2,none⟩ = some (.bool FR.dirty) /\ w5.cell? ⟨fb,i * 4 + 3,none⟩ = some (.bool FR.seen) /\ w5.frozen? ⟨fb,i * 4,none⟩ = false /\ w5.frozen? ⟨fb,i * 4 + 1,none⟩ = false /\ w5.frozen? ⟨fb,i * 4 + 2,none⟩ = false /\ w5.frozen? ⟨fb,i * 4 + 3,none⟩ = false:=(by obtain ⟨a1,a2,a3,a4,a5,a6,a7,a8,_⟩:=HZZ.out;exact ⟨a1,a2,a3,a4,a5,a6,a7,a8⟩);clear hb5))
 all_goals clear HSX HSY HS HS0 HS3 HFL HFL2
 obtain ⟨U,hU⟩ : ∃ U,U = ((((w5.setCell ⟨fb,i * 4,none⟩ (.string D)).setCell ⟨fb,i * 4 + 1,none⟩ (.int .i64 1)).setCell ⟨fb,i * 4 + 2,none⟩ (.bool false)).setCell ⟨fb,i * 4 + 3,none⟩ (.bool false)):=⟨_,rfl⟩
 obtain ⟨_,_,_,_,_,_,_,_,zf⟩:=HZZ.out
 obtain ⟨hk6,hc6⟩:=zf U hU
 have HK6:=hideC hk6
 have HC6:=hideC hc6
 rw [<- hU]
 clear hU hk6 hc6 zf HZZ z4 z5 z6 z7 z8 z9 z10 z11 HFBE
 go_wp2_with (go_at_call 166;refine (HET.out _ _ HK6.out).mono ?_;rintro r w7 ⟨rfl,S7,hk7,hc7⟩;have HK7:=hideC hk7;have HC7:=hideC (HC6.out.trans hc7);clear hk7 hc7)
 exact HFIN.out _ _ HK7.out HC7.out
theorem present_any {lo mb : Nat} {tt : TypeId} {X : List Value} (k : KM.Kn) (S : St) (w : World) (j : Nat) (p : Int) (held : List Int) (ah : Option Addr) (ch : Nat) (h : Km lo mb tt X w S k) (hR : KM.RightK k) (hj : j < k.spaces.length) (hp : KM.mapped k j p) (hX : FilX X k.sheets) (hl : held.length <= 2) (hH : Held w S ah held) :
  Calls Tryz.prog 141 #[.pointer (some ⟨mb,0,none⟩),.int .i64 (j : Int),.int .i64 p,.slice ah held.length ch] w (OutM lo mb tt X w S (.int .i64 ((KM.presentK k j p held).1 : Int)) (KM.presentK k j p held).2):=by
 cases he : KM.entOf (KM.spAt k.spaces j).ents p with
 | none=>exact present_none k S w j p held ah ch h hR hj he hp hX hl hH
 | some e =>
  by_cases hk : e.kind = 1
  · exact present_here k S w j p held ah ch e h hR hj he hk
  · exact present_swapped k S w j p held ah ch e h hR hj he hk hl hH
theorem ints_one : ∀ l : List Int,∀ u ∈ l.flatMap cellI,u.oneCell' = true:=fun l u hu=>by
 obtain ⟨y,_,hy⟩:=List.mem_flatMap.1 hu
 simp [cellI] at hy
 rw [hy];rfl
theorem ints_from {w : World} {ah : Option Addr} {l : List Int} (h : HasRow cellI 1 0 w ah l) : From w ah l.length (l.flatMap cellI):=fun hm=>by
 obtain ⟨b,off,rfl,hb,hl⟩:=h hm
 exact KS.from_rows (w:=w) cellI 1 (fun _=>rfl) 0 l b off (fun i hi j hj=>hl i hi j hj) hm
theorem held_row {w : World} {base : Nat} {S : St} {ao : Option Addr} {n c : Nat} {l : List Int} (hr : w.ownsRow base 3 1 (.slice ao n c) l.length (l.flatMap cellI)) (hno : ∀ b,blk (.slice ao n c) b -> S.lab b = .no) : n = l.length /\ Held w S ao l:=by
 obtain ⟨a,cap,e,_,hrow⟩:=row_has cellI (fun _=>rfl) 0 hr
 injection e with e1 e2 e3
 subst e1 e2
 refine ⟨rfl,hrow,fun b off e=>?_,fun b off e=>?_⟩
 · subst e
   refine hno b ?_
   rcases hr.2 with ⟨h0,_⟩ | ⟨g,cap',cur,hv,_⟩
   · cases h0
   · injection hv with e1 _ _
     injection e1 with e1
     injection e1 with e1 e2 _
     subst e1 e2
     rfl
 · subst e
   rcases hr.2 with ⟨h0,_⟩ | ⟨g,cap',cur,hv,_,hg,_⟩
   · cases h0
   · injection hv with e1 _ _
     injection e1 with e1
     injection e1 with e1 _ _
     subst e1
     exact B.isLt hg
set_option maxHeartbeats 16000000 in
theorem alone_any {lo mb : Nat} {tt : TypeId} {X : List Value} (k : KM.Kn) (S : St) (w : World) (j : Nat) (p : Int) (a : Nat) (held : List Int) (ah : Option Addr) (ch : Nat) (h : Km lo mb tt X w S k) (hR : KM.RightK k) (hj : j < k.spaces.length) (ha : KM.entOf (KM.spAt k.spaces j).ents p = some ⟨p,1,a⟩) (hl : held.length <= 1) (hH : Held w S ah held) :
  Calls Tryz.prog 142 #[.pointer (some ⟨mb,0,none⟩),.int .i64 (j : Int),.int .i64 p,.int .i64 (a : Int),.slice ah held.length ch] w (OutM lo mb tt X w S (.int .i64 ((KM.aloneK k j p a held).1 : Int)) (KM.aloneK k j p a held).2):=by
 have hcc:=hR.c
 have hne:=KM.held_ne hR hj ha
 obtain ⟨fb,cF,A⟩:=h.toKr.fr (by omega)
 have c1:=h.c1
 rw [A.v] at c1
 have x1:=A.x1 a hne.1
 have hai : (a : Int) < (k.frames.length : Int):=by omega
 by_cases c : (KM.frAt k.frames a).refs = 1
 · have hP : KM.aloneK k j p a held = (a,k):=by unfold KM.aloneK;rw [if_pos c]
   rw [hP]
   have HFIN : Hid (OutM lo mb tt X w S (.int .i64 (a : Int)) k (.returned (.int .i64 (a : Int))) w):=⟨rfl,S,h,Ch.refl _ _⟩
   obtain ⟨P,hP2⟩ : ∃ P,P = OutM lo mb tt X w S (.int .i64 (a : Int)) k:=⟨_,rfl⟩
   rw [<- hP2] at HFIN ⊢
   rw [c] at x1
   obtain ⟨nf,hnf⟩ : ∃ nf,nf = k.frames.length:=⟨_,rfl⟩
   rw [<- hnf] at c1 hai
   clear hP hP2 c h hR hj ha hH hl A hne hcc hnf
   go_enter Tryz.func142,Tryz.ntmps142
   go_wp2
   exact HFIN.out
 · have hl2 : (held ++ [(a : Int)]).length <= 2:=by rw [List.length_append,List.length_singleton];omega
   have G:=KM.get_got hR hl2
   have hH1:=G.heldF a (List.mem_append.2 (.inr (by simp))) hne.2
   have hent : KM.entOf (KM.spAt (KM.getK k (held ++ [(a : Int)])).2.spaces j).ents p = some ⟨p,1,a⟩:=G.stay hR hj ha (fun _=>List.mem_append.2 (.inr (by simp)))
   obtain ⟨k1,hk1⟩ : ∃ k1,k1 = (KM.getK k (held ++ [(a : Int)])).2:=⟨_,rfl⟩
   obtain ⟨i,hi⟩ : ∃ i,i = (KM.getK k (held ++ [(a : Int)])).1:=⟨_,rfl⟩
   have hP : KM.aloneK k j p a held = (i,KM.moveTo k1 j p i (KM.frAt k1.frames a).data true):=by
    unfold KM.aloneK
    rw [if_neg c,hk1,hi]
   have hGT : ∀ V S',Km lo mb tt X V S' k -> ∀ ah' ch',Held V S' ah' (held ++ [(a : Int)]) -> Calls Tryz.prog 165 #[.pointer (some ⟨mb,0,none⟩),.slice ah' (held ++ [(a : Int)]).length ch'] V (OutM lo mb tt X V S' (.int .i64 (i : Int)) k1):=fun V S' hV ah' ch' hh=>by
    have:=get_any k S' V (held ++ [(a : Int)]) ah' ch' hV hR hl2 hh
    rw [<- hk1,<- hi] at this
    exact this
   rw [<- hk1] at hent hH1
   rw [<- hi] at hH1
   have hj1 : j < k1.spaces.length:=by have:=G.kept.np;rw [<- hk1] at this;rw [this];exact hj
   have hnf1 : k1.frames.length = k.frames.length:=by have:=G.kept.nf;rw [<- hk1] at this;exact this
   have hi1 : i < k1.frames.length:=by rw [hnf1,hi];exact G.lt
   have ha1 : a < k1.frames.length:=by rw [hnf1];exact hne.1
   have hR1 : KM.RightK k1:=by have:=G.right;rw [<- hk1] at this;exact this
   have hen1:=ents_few hR1 hj1
   have hcc1:=hR1.c
   have hrf:=(refs_few hR1).1 a ha1
   obtain ⟨D,hD⟩ : ∃ D,D = (KM.frAt k1.frames a).data:=⟨_,rfl⟩
   have hai2 : i ≠ a:=fun e=>hH1.1 e.symm
   have hfa : KM.frAt (KM.layK k1 i D true).frames a = KM.frAt k1.frames a:=by
    show KM.frAt (k1.frames.set i _) a = _
    rw [KM.frAt_set _ _ _ _ hi1,if_neg hai2]
   have hra : ¬ (KM.frAt k1.frames a).refs - 1 = 0:=by rw [hH1.2];omega
   obtain ⟨K2,hK2⟩ : ∃ K2 : KM.Kn,K2 = { KM.layK k1 i D true with frames:=(KM.layK k1 i D true).frames.set a ⟨(KM.frAt k1.frames a).data,(KM.frAt k1.frames a).refs - 1,(KM.frAt k1.frames a).dirty,(KM.frAt k1.frames a).seen⟩ }:=⟨_,rfl⟩
   have hmv : KM.moveTo k1 j p i D true = KM.enterK K2 j ⟨p,1,i⟩:=by
    unfold KM.moveTo
    rw [hent]
    show KM.leaveK _ _ = _
    rw [<- enter_leave]
    congr 1
    unfold KM.leaveK
    rw [if_pos rfl,hK2]
    show ({ KM.layK k1 i D true with frames:=(KM.layK k1 i D true).frames.set (a : Int).toNat (KM.lessF (KM.frAt (KM.layK k1 i D true).frames (a : Int).toNat)) } : KM.Kn) = _
    rw [Int.toNat_natCast,hfa]
    unfold KM.lessF
    rw [if_neg hra]
   rw [hP,<- hD,hmv]
   have HRD : Hid (∀ V S',Km lo mb tt X V S' k1 -> ∃ fb cF,V.cell? ⟨mb,1,none⟩ = some (.slice (some ⟨fb,0,none⟩) k1.frames.length cF) /\ ¬ mb = fb /\ V.cell? ⟨fb,a * 4,none⟩ = some (.string D) /\ V.cell? ⟨fb,i * 4,none⟩ = some (.string (KM.frAt k1.frames i).data) /\ V.cell? ⟨fb,i * 4 + 1,none⟩ = some (.int .i64 (KM.frAt k1.frames i).refs) /\ V.cell? ⟨fb,i * 4 + 2,none⟩ = some (.bool (KM.frAt k1.frames i).dirty) /\ V.cell? ⟨fb,i * 4 + 3,none⟩ = some (.bool (KM.frAt k1.frames i).seen) /\ V.frozen? ⟨fb,i * 4,none⟩ = false /\ V.frozen? ⟨fb,i * 4 + 1,none⟩ = false /\ V.frozen? ⟨fb,i * 4 + 2,none⟩ = false /\ V.frozen? ⟨fb,i * 4 + 3,none⟩ = false /\
     (∀ U,U = ((((V.setCell ⟨fb,i * 4,none⟩ (.string D)).setCell ⟨fb,i * 4 + 1,none⟩ (.int .i64 1)).setCell ⟨fb,i * 4 + 2,none⟩ (.bool true)).setCell ⟨fb,i * 4 + 3,none⟩ (.bool false)).drew -> U.cell? ⟨mb,1,none⟩ = some (.slice (some ⟨fb,0,none⟩) k1.frames.length cF) /\ U.cell? ⟨fb,a * 4 + 1,none⟩ = some (.int .i64 (KM.frAt k1.frames a).refs) /\ U.frozen? ⟨fb,a * 4 + 1,none⟩ = false /\ Km lo mb tt X (U.setCell ⟨fb,a * 4 + 1,none⟩ (.int .i64 ((KM.frAt k1.frames a).refs - 1))) S' K2 /\ Ch S' V S' (U.setCell ⟨fb,a * 4 + 1,none⟩ (.int .i64 ((KM.frAt k1.frames a).refs - 1))))):=fun V S' hV=>by
    obtain ⟨fb,cF,A⟩:=hV.toKr.fr (by omega)
    have c1:=hV.c1
    rw [A.v] at c1
    refine ⟨fb,cF,c1,fun e=>by have:=A.lab;rw [<- e,hV.lH] at this;simp at this,by rw [hD];exact A.x0 a ha1,A.x0 i hi1,A.x1 i hi1,A.x2 i hi1,A.x3 i hi1,A.fz _,A.fz _,A.fz _,A.fz _,fun U hU=>?_⟩
    have m:=hV.layF A.v hi1 ⟨D,1,true,false⟩
    have m1 : Km lo mb tt X U S' (KM.layK k1 i D true):=by subst hU;exact m.1.below (Below.refl _ _).drew
    have ch1 : Ch S' V S' U:=by subst hU;exact m.2.trans (Ch.below (Below.refl _ _).drew)
    have hln : (KM.layK k1 i D true).frames.length = k1.frames.length:=List.length_set
    obtain ⟨fb',cF',A'⟩:=m1.toKr.fr (by rw [hln];omega)
    have e : fb' = fb:=by
     have:=A'.v
     rw [A.v] at this
     injection this with e1 _ _
     injection e1 with e1
     injection e1 with e1 _ _
     exact e1.symm
    subst e
    have c1':=m1.c1
    rw [A.v] at c1'
    have y1:=A'.x1 a (by rw [hln];exact ha1)
    rw [hfa] at y1
    refine ⟨c1',y1,A'.fz _,?_,ch1.trans (chF m1.toKr A'.v)⟩
    rw [hK2]
    exact m1.setF A'.v (i:=a) (by rw [hln];exact ha1) (j:=1) (by omega) (by rw [hfa];rfl)
   have HET : Hid (∀ V S',Km lo mb tt X V S' K2 -> Calls Tryz.prog 166 #[.pointer (some ⟨mb,0,none⟩),.int .i64 (j : Int),.agg #[.int .i64 p,.int .i64 1,.int .i64 (i : Int)]] V (OutM lo mb tt X V S' (.tuple #[]) (KM.enterK K2 j ⟨p,1,i⟩))):=fun V S' hV=>by
    have hsp : K2.spaces = k1.spaces:=by rw [hK2];rfl
    exact enter_any _ S' V j ⟨p,1,i⟩ hV (by rw [hsp];exact hj1) (by rw [hsp];omega) (by rw [hsp];omega)
   have HFIN : Hid (∀ V S',Km lo mb tt X V S' (KM.enterK K2 j ⟨p,1,i⟩) -> Ch S w S' V -> OutM lo mb tt X w S (.int .i64 (i : Int)) (KM.enterK K2 j ⟨p,1,i⟩) (.returned (.int .i64 (i : Int))) V):=fun V S' h1 h2=>⟨rfl,S',h1,h2⟩
   obtain ⟨K3,hK3⟩ : ∃ K3,K3 = KM.enterK K2 j ⟨p,1,i⟩:=⟨_,rfl⟩
   rw [<- hK3] at HET HFIN ⊢
   obtain ⟨P,hP2⟩ : ∃ P,P = OutM lo mb tt X w S (.int .i64 (i : Int)) K3:=⟨_,rfl⟩
   rw [<- hP2] at HFIN ⊢
   have HCL : Hid (Calls Tryz.prog 167 #[.slice ah held.length ch] w fun e w'=>∃ av cv,e = .returned (.slice av held.length cv) /\ w'.ownsRow w.heap.size 3 1 (.slice av held.length cv) held.length (held.flatMap cellI) /\ Below w.heap.size w w'):=(cloneIn ah held.length ch (held.flatMap cellI) w (rows_length cellI 1 (fun _=>rfl) held) (ints_from hH.has) (ints_one held) (by omega)).mono fun e w' ⟨v,h1,h2,h3⟩=>by
    obtain ⟨av,cv,rfl,_⟩:=row_form h2
    exact ⟨av,cv,h1,h2,h3⟩
   have HGT : Hid (∀ V U av nv cv,Below w.heap.size w V -> U = V -> V.ownsRow w.heap.size 3 1 (.slice av nv cv) (held.length + 1) (held.flatMap cellI ++ [.int .i64 (a : Int)]) -> Calls Tryz.prog 165 #[.pointer (some ⟨mb,0,none⟩),.slice av nv cv] V (OutM lo mb tt X V S (.int .i64 (i : Int)) k1)):=fun V U av nv cv hb _ hr=>by
    have e1 : (held ++ [(a : Int)]).length = held.length + 1:=by simp
    have e2 : (held ++ [(a : Int)]).flatMap cellI = held.flatMap cellI ++ [.int .i64 (a : Int)]:=by simp [cellI]
    rw [<- e1,<- e2] at hr
    obtain ⟨q1,q2⟩:=held_row (S:=S) hr (fun b hb2=>h.toKr.new (hr.lt b hb2).1)
    rw [q1]
    exact hGT V S (h.below hb) av cv q2
   obtain ⟨i0,hin,hz0,hz1,hz2⟩:=info_parts infoIn
   have HIN:=hideC hin
   have HZ0:=hideC hz0
   have HZ1:=hideC hz1
   have HZ2:=hideC hz2
   have xb : ((KM.frAt k.frames a).refs == 1) = false:=by simpa using c
   obtain ⟨R0,hR0⟩ : ∃ R0,R0 = (KM.frAt k.frames a).refs:=⟨_,rfl⟩
   rw [<- hR0] at x1 xb
   obtain ⟨R1,hR1e⟩ : ∃ R1,R1 = (KM.frAt k1.frames a).refs:=⟨_,rfl⟩
   rw [<- hR1e] at HRD hrf
   have hw1 : IntKind.i64.wrap (R1 - 1) = R1 - 1:=IntWalk.i64_in _ (by omega)
   obtain ⟨FR,hFR⟩ : ∃ FR,FR = KM.frAt k1.frames i:=⟨_,rfl⟩
   rw [<- hFR] at HRD
   obtain ⟨nf,hnf⟩ : ∃ nf,nf = k.frames.length:=⟨_,rfl⟩
   rw [hnf1,<- hnf] at HRD
   rw [<- hnf] at c1 hai
   have hii : (i : Int) < (nf : Int):=by omega
   have hhl : held.length <= 1:=hl
   clear hP hP2 c h hR hj ha hH hl A hne hcc hnf hin hz0 hz1 hz2 hFR hR1e hR0 hK3 hGT hmv hK2 hra hfa hai2 hD hrf hcc1 hen1 hR1 ha1 hi1 hnf1 hj1 hH1 hent hi G hl2 hk1
   go_enter Tryz.func142,Tryz.ntmps142
   go_upto_region 4 with (first
    | (at_builtin;refine wpList_append_src (P:=Tryz.prog) rfl _ _ 99 rfl w.heap.size 3 i0 (.int .i64 0) 1 8 Tryz.underlying99 HIN.out HZ0.out HZ1.out HZ2.out rfl (by decide) _ held.length (held.flatMap cellI) rfl HO1.out (some ⟨w1.heap.size,0,none⟩) 1 1 [.int .i64 (a : Int)] rfl rfl (fun _=>⟨_,rfl,B.news (B.new w1 _ _)⟩) (by intro u hu;simp at hu;rw [hu];rfl) (by unfold maxLen;omega) (by omega) (by have:=HB1.out.size;simp;omega) ?_;intro v' w' hown hgr hat;obtain ⟨aG,cG,hvG,_,_⟩:=row_form hown;subst hvG;have HO2:=hideC hown;have HB2:=hideC ((HB1.out.alloc HB1.out.size (.cells #[.int .i64 (a : Int)] 3)).grown hgr (by have:=HB1.out.size;simp;omega) (fun q hq=>(HO1.out.lt q hq).1));clear hown hgr hat)
    | (go_at_call 167;refine HCL.out.mono ?_;rintro e w1 ⟨av,cv,rfl,hr1,hb1⟩;have HB1:=hideC hb1;have HO1:=hideC (hr1.alloc (.cells #[.int .i64 (a : Int)] 3));clear hr1 hb1)
    | (go_at_call 165;refine (HGT.out _ _ _ _ _ HB2.out rfl HO2.out).mono ?_;rintro e w3 ⟨rfl,S3,hk3,hc3⟩;have HK3:=hideC hk3;have HC3:=hideC ((Ch.below HB2.out).trans hc3);clear hk3 hc3))
   obtain ⟨fb3,cF3,g1,gne,g2,g3,g4,g5,g6,g7,g8,g9,g10,hfin⟩:=HRD.out w3 S3 HK3.out
   obtain ⟨U,hU⟩ : ∃ U,U = ((((w3.setCell ⟨fb3,i * 4,none⟩ (.string D)).setCell ⟨fb3,i * 4 + 1,none⟩ (.int .i64 1)).setCell ⟨fb3,i * 4 + 2,none⟩ (.bool true)).setCell ⟨fb3,i * 4 + 3,none⟩ (.bool false)).drew:=⟨_,rfl⟩
   obtain ⟨y1,y2,y3,hk4,hc4⟩:=hfin U hU
   have HU:=hideC hU
   have HK4:=hideC hk4
   have HC4:=hideC (HC3.out.trans hc4)
   clear hfin hU hk4 hc4
   go_region
   rw [<- HU.out]
   clear g1 g2 g3 g4 g5 g6 g7 g8 g9 g10 HU
   go_wp2_with (go_at_call 166;refine (HET.out _ _ HK4.out).mono ?_;rintro r w5 ⟨rfl,S5,hk5,hc5⟩;have HK5:=hideC hk5;have HC5:=hideC (HC4.out.trans hc5);clear hk5 hc5)
   exact HFIN.out _ _ HK5.out HC5.out
set_option maxHeartbeats 16000000 in
theorem bring_any {lo mb : Nat} {tt : TypeId} {X : List Value} (k : KM.Kn) (S : St) (w : World) (j : Nat) (p way : Int) (held : List Int) (ah : Option Addr) (ch : Nat) (h : Km lo mb tt X w S k) (hR : KM.RightK k) (hj : j < k.spaces.length) (hp : KM.mapped k j p) (hX : FilX X k.sheets) (hl : held.length <= 1) (hH : Held w S ah held) :
  Calls Tryz.prog 97 #[.pointer (some ⟨mb,0,none⟩),.int .i64 (j : Int),.int .i64 p,.int .i64 way,.slice ah held.length ch] w (OutM lo mb tt X w S (.int .i64 ((KM.bringK k j p way held).1 : Int)) (KM.bringK k j p way held).2):=by
 have HPR:=hideC (present_any k S w j p held ah ch h hR hj hp hX (by omega) hH)
 have hB:=(KM.bring_had hR hj hp way hl).1
 have hPB:=KM.present_had hR hj hp (held:=held) (by omega)
 have hcc:=hR.c
 have HLAST : Hid (∀ V S' K i,KM.twoK k j p way held = (i,K) -> Km lo mb tt X V S' K -> ∃ fb cF,V.cell? ⟨mb,1,none⟩ = some (.slice (some ⟨fb,0,none⟩) k.frames.length cF) /\ ¬ mb = fb /\ i < k.frames.length /\ V.cell? ⟨fb,i * 4 + 2,none⟩ = some (.bool (KM.frAt K.frames i).dirty) /\ V.cell? ⟨fb,i * 4 + 3,none⟩ = some (.bool (KM.frAt K.frames i).seen) /\ V.frozen? ⟨fb,i * 4 + 2,none⟩ = false /\ V.frozen? ⟨fb,i * 4 + 3,none⟩ = false /\
   (way ≠ 1 -> Km lo mb tt X (V.setCell ⟨fb,i * 4 + 3,none⟩ (.bool true)) S' (KM.bringK k j p way held).2 /\ Ch S' V S' (V.setCell ⟨fb,i * 4 + 3,none⟩ (.bool true))) /\
   (way = 1 -> Km lo mb tt X ((V.setCell ⟨fb,i * 4 + 2,none⟩ (.bool true)).setCell ⟨fb,i * 4 + 3,none⟩ (.bool true)) S' (KM.bringK k j p way held).2 /\ Ch S' V S' ((V.setCell ⟨fb,i * 4 + 2,none⟩ (.bool true)).setCell ⟨fb,i * 4 + 3,none⟩ (.bool true)))):=fun V S' K i e hV=>by
  have hnf : K.frames.length = k.frames.length:=by
   have:=hB.kept.nf
   unfold KM.bringK at this
   rw [e] at this
   have this : (K.frames.set i _).length = _:=this
   rw [List.length_set] at this
   exact this
  have hi : i < k.frames.length:=by
   have:=hB.lt
   unfold KM.bringK at this
   rw [e] at this
   exact this
  have hbr : (KM.bringK k j p way held).2 = { K with frames:=K.frames.set i (KM.mark way (KM.frAt K.frames i)) }:=by
   unfold KM.bringK
   rw [e]
   rfl
  obtain ⟨fb,cF,A⟩:=hV.toKr.fr (by omega)
  have c1:=hV.c1
  rw [A.v,hnf] at c1
  have hiK : i < K.frames.length:=by omega
  refine ⟨fb,cF,c1,fun e=>by have:=A.lab;rw [<- e,hV.lH] at this;simp at this,hi,A.x2 i hiK,A.x3 i hiK,A.fz _,A.fz _,fun hw=>?_,fun hw=>?_⟩
  · refine ⟨?_,chF hV.toKr A.v⟩
    rw [hbr]
    refine hV.setF A.v hiK (j:=3) (by omega) ?_
    unfold KM.mark
    rw [decide_eq_false hw,Bool.or_false]
    rfl
  · have m1:=hV.setF A.v hiK (j:=2) (by omega) (f:=⟨(KM.frAt K.frames i).data,(KM.frAt K.frames i).refs,true,(KM.frAt K.frames i).seen⟩) (u:=.bool true) rfl
    have m2:=m1.setF A.v (i:=i) (by simpa using hiK) (j:=3) (by omega) (f:=KM.mark way (KM.frAt K.frames i)) (u:=.bool true) (by
     simp only [KM.frAt,KM.getD_set_self _ _ _ _ hiK]
     unfold KM.mark
     rw [decide_eq_true hw,Bool.or_true]
     rfl)
    simp only [List.set_set] at m2
    rw [hbr]
    exact ⟨m2,(chF hV.toKr A.v).trans (chF hV.toKr A.v)⟩
 have hb1 : (KM.bringK k j p way held).1 = (KM.twoK k j p way held).1:=rfl
 rw [hb1]
 have HFIN : Hid (∀ V S' i,i = (KM.twoK k j p way held).1 -> Km lo mb tt X V S' (KM.bringK k j p way held).2 -> Ch S w S' V -> OutM lo mb tt X w S (.int .i64 ((KM.twoK k j p way held).1 : Int)) (KM.bringK k j p way held).2 (.returned (.int .i64 (i : Int))) V):=fun V S' i hi h1 h2=>⟨by rw [hi],S',h1,h2⟩
 obtain ⟨P,hP⟩ : ∃ P,P = OutM lo mb tt X w S (.int .i64 ((KM.twoK k j p way held).1 : Int)) (KM.bringK k j p way held).2:=⟨_,rfl⟩
 rw [<- hP] at HFIN ⊢
 obtain ⟨KB,hKB⟩ : ∃ KB,KB = (KM.bringK k j p way held).2:=⟨_,rfl⟩
 rw [<- hKB] at HFIN HLAST
 by_cases c : way = 1
 · have e2 : KM.twoK k j p way held = KM.aloneK (KM.presentK k j p held).2 j p (KM.presentK k j p held).1 held:=by unfold KM.twoK;rw [if_pos c]
   have HAL : Hid (∀ V S',Km lo mb tt X V S' (KM.presentK k j p held).2 -> Ch S w S' V -> Calls Tryz.prog 142 #[.pointer (some ⟨mb,0,none⟩),.int .i64 (j : Int),.int .i64 p,.int .i64 ((KM.presentK k j p held).1 : Int),.slice ah held.length ch] V (OutM lo mb tt X V S' (.int .i64 ((KM.twoK k j p way held).1 : Int)) (KM.twoK k j p way held).2)):=fun V S' hV hc=>by
    rw [e2]
    exact alone_any (KM.presentK k j p held).2 S' V j p (KM.presentK k j p held).1 held ah ch hV hPB.right (by rw [hPB.kept.np];exact hj) hPB.here hl (hH.ch hc)
   obtain ⟨TK,hTK⟩ : ∃ TK,TK = KM.twoK k j p way held:=⟨_,rfl⟩
   rw [<- hTK] at HAL HFIN HLAST
   obtain ⟨PR,hPR⟩ : ∃ PR,PR = KM.presentK k j p held:=⟨_,rfl⟩
   rw [<- hPR] at HPR HAL
   obtain ⟨i,K⟩:=TK
   obtain ⟨ip,Kp⟩:=PR
   have HLA:=hideC (fun V S' hV=>HLAST.out V S' K i rfl hV)
   have HFI:=hideC (fun V S'=>HFIN.out V S' i rfl)
   simp only at HPR HAL
   have HW:=hideC c
   have wb : (way == 1) = true:=by simpa using c
   obtain ⟨FR,hFR⟩ : ∃ FR,FR = KM.frAt K.frames i:=⟨_,rfl⟩
   rw [<- hFR] at HLA
   obtain ⟨nf,hnf⟩ : ∃ nf,nf = k.frames.length:=⟨_,rfl⟩
   rw [<- hnf] at HLA
   clear HLAST HFIN hP h hR hj hp hX hl hH hB hPB hcc hKB hTK hPR e2 hb1 hFR hnf c
   go_enter Tryz.func97,Tryz.ntmps97
   go_upto_region 4 with (first
    | (go_at_call 141;refine HPR.out.mono ?_;rintro e w1 ⟨rfl,S1,hk1,hc1⟩;have HK1:=hideC hk1;have HC1:=hideC hc1;clear hk1 hc1)
    | (go_at_call 142;refine (HAL.out _ _ HK1.out HC1.out).mono ?_;rintro e w2 ⟨rfl,S2,hk2,hc2⟩;have HK2:=hideC hk2;have HC2:=hideC (HC1.out.trans hc2);clear hk2 hc2))
   obtain ⟨fb,cF,g1,gne,gi,g2,g3,g4,g5,_,hfin⟩:=HLA.out w2 S2 HK2.out
   obtain ⟨hk3,hc3⟩:=hfin HW.out
   have HK3:=hideC hk3
   have HC3:=hideC (HC2.out.trans hc3)
   have hii : (i : Int) < (nf : Int):=by omega
   clear hfin hk3 hc3
   go_wp2
   exact HFI.out _ _ HK3.out HC3.out
 · have e2 : KM.twoK k j p way held = KM.presentK k j p held:=by unfold KM.twoK;rw [if_neg c]
   rw [<- e2] at HPR
   obtain ⟨TK,hTK⟩ : ∃ TK,TK = KM.twoK k j p way held:=⟨_,rfl⟩
   rw [<- hTK] at HPR HFIN HLAST
   obtain ⟨i,K⟩:=TK
   have HLA:=hideC (fun V S' hV=>HLAST.out V S' K i rfl hV)
   have HFI:=hideC (fun V S'=>HFIN.out V S' i rfl)
   simp only at HPR
   have HW:=hideC c
   have wb : (way == 1) = false:=by simpa using c
   obtain ⟨FR,hFR⟩ : ∃ FR,FR = KM.frAt K.frames i:=⟨_,rfl⟩
   rw [<- hFR] at HLA
   obtain ⟨nf,hnf⟩ : ∃ nf,nf = k.frames.length:=⟨_,rfl⟩
   rw [<- hnf] at HLA
   clear HLAST HFIN hP h hR hj hp hX hl hH hB hPB hcc hKB hTK e2 hb1 hFR hnf c
   go_enter Tryz.func97,Tryz.ntmps97
   go_upto_region 5 with (go_at_call 141;refine HPR.out.mono ?_;rintro e w1 ⟨rfl,S1,hk1,hc1⟩;have HK1:=hideC hk1;have HC1:=hideC hc1;clear hk1 hc1)
   obtain ⟨fb,cF,g1,gne,gi,g2,g3,g4,g5,hfin,_⟩:=HLA.out w1 S1 HK1.out
   obtain ⟨hk3,hc3⟩:=hfin HW.out
   have HK3:=hideC hk3
   have HC3:=hideC (HC1.out.trans hc3)
   have hii : (i : Int) < (nf : Int):=by omega
   clear hfin hk3 hc3
   go_wp2
   exact HFI.out _ _ HK3.out HC3.out
end KX
end Go.Proofs.YtpgifpeohlllfaaGreat
