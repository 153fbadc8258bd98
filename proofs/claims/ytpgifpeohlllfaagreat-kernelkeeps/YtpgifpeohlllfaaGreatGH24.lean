import Derived.Test.YtpgifpeohlllfaaGreatGH23
import Derived.Deep.RegionHeld3
import Derived.Test.YtpgifpeohlllfaaGreatGH03
import Derived.Test.YtpgifpeohlllfaaGreatGH18
set_option maxHeartbeats 20000000
set_option linter.unusedVariables false
set_option maxRecDepth 100000
set_option linter.unusedSimpArgs false
namespace Go.Proofs.YtpgifpeohlllfaaGreat
namespace KX
open Go.RowKit GK KO
open FW (hideC add_below)
open KW (cellFr cellSl cellEn HasRow KAt HasK cellsK aggEn cellI entryN)
open KS (Lc cellLc lc0 lcAt blk SpOwn)
theorem undrew {lo mb : Nat} {tt : TypeId} {X : List Value} {U : World} {S : St} {k : KM.Kn} (h : Km lo mb tt X U.drew S k) : Km lo mb tt X U S k:=h.kp (E:=fun _=>False) ⟨rfl,rfl,rfl,Nat.le_refl _,fun _ _ _=>rfl⟩ (fun _ _ g=>g)
theorem ch_undrew {S S' : St} {w U : World} (h : Ch S w S' U.drew) : Ch S w S' U:=⟨⟨h.kp.os,h.kp.tape,h.kp.output,h.kp.size,h.kp.block⟩,h.no,h.eS,h.eF,h.eL,h.eP⟩
set_option maxHeartbeats 16000000 in
theorem present_none {lo mb : Nat} {tt : TypeId} {X : List Value} (k : KM.Kn) (S : St) (w : World) (j : Nat) (p : Int) (held : List Int) (ah : Option Addr) (ch : Nat) (h : Km lo mb tt X w S k) (hR : KM.RightK k) (hj : j < k.spaces.length) (he : KM.entOf (KM.spAt k.spaces j).ents p = none) (hp : KM.mapped k j p) (hX : FilX X k.sheets) (hl : held.length <= 2) (hH : Held w S ah held) :
  Calls Tryz.prog 141 #[.pointer (some ⟨mb,0,none⟩),.int .i64 (j : Int),.int .i64 p,.slice ah held.length ch] w (OutM lo mb tt X w S (.int .i64 ((KM.presentK k j p held).1 : Int)) (KM.presentK k j p held).2):=by
 have HEN:=hideC (ent_own k S w j p h hR hj)
 have e1 : entryN (KM.spAt k.spaces j).ents p = (KM.en0,false):=by unfold KW.entryN;rw [he]
 rw [e1] at HEN
 have G:=KM.get_got hR hl
 have hP : KM.presentK k j p held = ((KM.getK k held).1,KM.moveTo (KM.getK k held).2 j p (KM.getK k held).1 (KM.fillK (KM.getK k held).2.sheets p (KM.zeroAt (KM.getK k held).2 j p)) false):=by
  unfold KM.presentK
  rw [he]
 have hent : KM.entOf (KM.spAt (KM.getK k held).2.spaces j).ents p = none:=by rw [G.ent j hj p (fun x hx=>by rw [he] at hx;cases hx),he]
 have hmv : KM.moveTo (KM.getK k held).2 j p (KM.getK k held).1 (KM.fillK (KM.getK k held).2.sheets p (KM.zeroAt (KM.getK k held).2 j p)) false = KM.enterK (KM.layK (KM.getK k held).2 (KM.getK k held).1 (KM.fillK (KM.getK k held).2.sheets p (KM.zeroAt (KM.getK k held).2 j p)) false) j ⟨p,1,(KM.getK k held).1⟩:=by
  unfold KM.moveTo
  rw [hent]
 rw [hP,hmv]
 have hpp:=KM.mapped_pos hp
 have hsh:=G.kept.sheets
 have hfit1 : AW.AllFit (KM.spAt (KM.getK k held).2.spaces j).areas:=by
  have:=(G.right.sp (by rw [G.kept.np];exact hj)).areas
  exact AM.fits_of_check _ this
 have hcc:=hR.c
 have hj1 : j < (KM.getK k held).2.spaces.length:=by rw [G.kept.np];exact hj
 have hi1 : (KM.getK k held).1 < (KM.getK k held).2.frames.length:=by rw [G.kept.nf];exact G.lt
 have hen1:=ents_few G.right hj1
 have hnp1:=G.kept.np
 have HGT : Hid (∀ V,Below w.heap.size w V -> Calls Tryz.prog 165 #[.pointer (some ⟨mb,0,none⟩),.slice ah held.length ch] V (OutM lo mb tt X V S (.int .i64 ((KM.getK k held).1 : Int)) (KM.getK k held).2)):=fun V hV=>get_any k S V held ah ch (h.below hV) hR hl (hH.ch (Ch.below hV))
 obtain ⟨k1,hk1⟩ : ∃ k1,k1 = (KM.getK k held).2:=⟨_,rfl⟩
 obtain ⟨i,hi⟩ : ∃ i,i = (KM.getK k held).1:=⟨_,rfl⟩
 rw [<- hk1,<- hi] at HGT hi1
 rw [<- hk1] at hj1 hen1 hnp1 hsh hfit1
 rw [<- hk1,<- hi]
 obtain ⟨D,hD⟩ : ∃ D,D = KM.fillK k1.sheets p (KM.zeroAt k1 j p):=⟨_,rfl⟩
 rw [<- hD]
 have HRD : Hid (∀ V S',Km lo mb tt X V S' k1 -> ∃ fb cF pb cP va,¬ mb = fb /\ V.cell? ⟨mb,1,none⟩ = some (.slice (some ⟨fb,0,none⟩) k1.frames.length cF) /\ V.cell? ⟨mb,3,none⟩ = some (.slice (some ⟨pb,0,none⟩) k1.spaces.length cP) /\ V.cell? ⟨pb,j * 3 + 1,none⟩ = some va /\ (∃ ax nx cx,va = .slice ax nx cx) /\ (∀ V',Below V.heap.size V V' -> Calls Tryz.prog 70 #[va,.int .i64 p] V' fun e w'=>e = .returned (.tuple #[.agg (AW.cellsOf (AM.findN (KM.spAt k1.spaces j).areas p).1),.bool (AM.findN (KM.spAt k1.spaces j).areas p).2]) /\ Below V'.heap.size V' w') /\ (∀ V',Below V.heap.size V V' -> Calls Tryz.prog 119 #[.pointer (some ⟨mb,0,none⟩),.int .i64 p,.bool (AM.findN (KM.spAt k1.spaces j).areas p).1.zero] V' fun e w'=>e = .returned (.string D) /\ Below V'.heap.size V' w') /\ V.cell? ⟨fb,i * 4,none⟩ = some (.string (KM.frAt k1.frames i).data) /\ V.cell? ⟨fb,i * 4 + 1,none⟩ = some (.int .i64 (KM.frAt k1.frames i).refs) /\ V.cell? ⟨fb,i * 4 + 2,none⟩ = some (.bool (KM.frAt k1.frames i).dirty) /\ V.cell? ⟨fb,i * 4 + 3,none⟩ = some (.bool (KM.frAt k1.frames i).seen) /\ V.frozen? ⟨fb,i * 4,none⟩ = false /\ V.frozen? ⟨fb,i * 4 + 1,none⟩ = false /\ V.frozen? ⟨fb,i * 4 + 2,none⟩ = false /\ V.frozen? ⟨fb,i * 4 + 3,none⟩ = false /\
   (∀ U,U = ((((V.setCell ⟨fb,i * 4,none⟩ (.string D)).setCell ⟨fb,i * 4 + 1,none⟩ (.int .i64 1)).setCell ⟨fb,i * 4 + 2,none⟩ (.bool false)).setCell ⟨fb,i * 4 + 3,none⟩ (.bool false)).drew -> Km lo mb tt X U S' (KM.layK k1 i D false) /\ Ch S' V S' U)):=fun V S' hV=>by
  obtain ⟨fb,cF,A⟩:=hV.toKr.fr (by omega)
  obtain ⟨pb,cP,AL⟩:=hV.toKr.sp (by omega)
  have c1:=hV.c1
  have c2:=hV.c3
  rw [A.v] at c1
  rw [AL.v] at c2
  refine ⟨fb,cF,pb,cP,(lcAt S'.L j).va,fun e=>by have:=A.lab;rw [<- e,hV.lH] at this;simp at this,c1,c2,AL.x1 j hj1,?_,fun V' hb=>AW.find_any _ _ p V' (AW.Has.below (hV.toKr.areas hj1) hb) hfit1,fun V' hb=>?_,A.x0 i hi1,A.x1 i hi1,A.x2 i hi1,A.x3 i hi1,A.fz _,A.fz _,A.fz _,A.fz _,fun U hU=>?_⟩
  · obtain ⟨ax,cx,hva,_,_⟩:=row_form (hV.each j hj1).areas
    exact ⟨_,_,_,hva⟩
  · rw [hD,hsh]
    have hm':=hV.below hb
    exact KW.fill_any k.sheets p _ mb V' (fun n hn=>hm'.cx n (hX n hn)) (by omega)
  have m:=hV.layF A.v hi1 ⟨D,1,false,false⟩
  subst hU
  exact ⟨m.1.below (Below.refl _ _).drew,m.2.trans (Ch.below (Below.refl _ _).drew)⟩
 have HET : Hid (∀ V S',Km lo mb tt X V S' (KM.layK k1 i D false) -> Calls Tryz.prog 166 #[.pointer (some ⟨mb,0,none⟩),.int .i64 (j : Int),.agg #[.int .i64 p,.int .i64 1,.int .i64 (i : Int)]] V (OutM lo mb tt X V S' (.tuple #[]) (KM.enterK (KM.layK k1 i D false) j ⟨p,1,i⟩))):=fun V S' hV=>by
  have hsp : (KM.layK k1 i D false).spaces = k1.spaces:=rfl
  exact enter_any _ S' V j ⟨p,1,i⟩ hV (by rw [hsp];exact hj1) (by rw [hsp];omega) (by rw [hsp];omega)
 have HFIN : Hid (∀ V S',Km lo mb tt X V S' (KM.enterK (KM.layK k1 i D false) j ⟨p,1,i⟩) -> Ch S w S' V -> OutM lo mb tt X w S (.int .i64 (i : Int)) (KM.enterK (KM.layK k1 i D false) j ⟨p,1,i⟩) (.returned (.int .i64 (i : Int))) V):=fun V S' h1 h2=>⟨rfl,S',h1,h2⟩
 obtain ⟨K3,hK3⟩ : ∃ K3,K3 = KM.enterK (KM.layK k1 i D false) j ⟨p,1,i⟩:=⟨_,rfl⟩
 rw [<- hK3] at HET HFIN ⊢
 obtain ⟨K1,hK1⟩ : ∃ K1,K1 = KM.layK k1 i D false:=⟨_,rfl⟩
 rw [<- hK1] at HRD HET
 obtain ⟨P,hP2⟩ : ∃ P,P = OutM lo mb tt X w S (.int .i64 (i : Int)) K3:=⟨_,rfl⟩
 rw [<- hP2] at HFIN ⊢
 have HNO : Hid (∀ V : World,w.heap.size <= V.heap.size -> S.lab V.heap.size = .no):=fun V hV=>h.toKr.new hV
 obtain ⟨FR,hFR⟩ : ∃ FR,FR = KM.frAt k1.frames i:=⟨_,rfl⟩
 rw [<- hFR] at HRD
 obtain ⟨nf,hnf⟩ : ∃ nf,nf = k1.frames.length:=⟨_,rfl⟩
 obtain ⟨np,hnp⟩ : ∃ np,np = k1.spaces.length:=⟨_,rfl⟩
 rw [<- hnf,<- hnp] at HRD
 have hji : (j : Int) < (np : Int):=by omega
 have hii : (i : Int) < (nf : Int):=by omega
 obtain ⟨AR,hAR⟩ : ∃ AR,AR = AM.findN (KM.spAt k1.spaces j).areas p:=⟨_,rfl⟩
 rw [<- hAR] at HRD
 obtain ⟨⟨q0,q1,q2,q3⟩,q4⟩:=AR
 unfold aggEn at HEN
 unfold AW.cellsOf at HRD
 simp only [KM.en0] at HEN HRD
 clear hP hP2 e1 he h hR hj G hent hmv hcc hj1 hi1 hen1 hnp1 hk1 hi hD hK3 hK1 hH hl hFR hnf hnp hAR hX hsh hfit1
 go_enter Tryz.func141,Tryz.ntmps141
 go_upto_region 8 with (first
  | (go_at_call 118;refine HEN.out.mono ?_;rintro r w1 ⟨rfl,hb1⟩;have HB1:=hideC hb1;have HBA:=hideC (HB1.out.alloc HB1.out.size (.cells #[.int .i64 0,.int .i64 0,.int .i64 0] 45));have BX:=hideC (B.new w1 #[.int .i64 0,.int .i64 0,.int .i64 0] 45);obtain ⟨d0,d1,d2⟩:=B.c3 BX.out;clear hb1)
  | (go_at_call 165;refine (HGT.out _ HBA.out).mono ?_;rintro r w2 ⟨rfl,S2,hk2,hc2⟩;have HK2:=hideC hk2;have HC2:=hideC ((Ch.below HBA.out).trans hc2);clear hk2 hc2 d0 d1 d2))
 obtain ⟨fb,cF,pb,cP,va,hmf,g1,g2,g3,⟨ax,nx,cx,hva⟩,hfind,hfill,g4,g5,g6,g7,g8,g9,g10,g11,hfin⟩:=HRD.out w2 S2 HK2.out
 subst hva
 have HFD:=hideC (hfind w2 (Below.refl _ _))
 have HFL:=hideC hfill
 have HSN:=hideC (fun V (hb : Below w2.heap.size w2 V)=>HRD.out V S2 (HK2.out.below hb))
 have hwl:=World.block_lt_of_cell? w2 _ g4
 have hml:=World.block_lt_of_cell? w2 _ g1
 have hwl : fb < w2.heap.size:=hwl
 have hml : mb < w2.heap.size:=hml
 clear hfind hfill g4 g5 g6 g7 g8 g9 g10 g11 hfin
 have HFBE : Hid (∀ V,Below w2.heap.size w2 V -> V.cell? ⟨fb,i * 4,none⟩ = some (.string FR.data) /\ V.cell? ⟨fb,i * 4 + 1,none⟩ = some (.int .i64 FR.refs) /\ V.cell? ⟨fb,i * 4 + 2,none⟩ = some (.bool FR.dirty) /\ V.cell? ⟨fb,i * 4 + 3,none⟩ = some (.bool FR.seen) /\ V.frozen? ⟨fb,i * 4,none⟩ = false /\ V.frozen? ⟨fb,i * 4 + 1,none⟩ = false /\ V.frozen? ⟨fb,i * 4 + 2,none⟩ = false /\ V.frozen? ⟨fb,i * 4 + 3,none⟩ = false /\ (∀ U,U = ((((V.setCell ⟨fb,i * 4,none⟩ (.string D)).setCell ⟨fb,i * 4 + 1,none⟩ (.int .i64 1)).setCell ⟨fb,i * 4 + 2,none⟩ (.bool false)).setCell ⟨fb,i * 4 + 3,none⟩ (.bool false)) -> Km lo mb tt X U S2 K1 /\ Ch S w S2 U)):=fun V hb=>by
  obtain ⟨fb',cF',pb',cP',va',_,z1,_,_,_,_,_,z4,z5,z6,z7,z8,z9,z10,z11,zfin⟩:=HSN.out V hb
  have e : fb' = fb:=by
   rw [(hb.cell (p:=⟨mb,1,none⟩) hml).trans g1] at z1
   injection z1 with z1
   injection z1 with e1 _ _
   injection e1 with e1
   injection e1 with e1 _ _
   exact e1.symm
  subst e
  refine ⟨z4,z5,z6,z7,z8,z9,z10,z11,fun U hU=>?_⟩
  obtain ⟨q1,q2⟩:=zfin U.drew (by rw [hU])
  have dr : Below U.heap.size U U.drew:=(Below.refl _ _).drew
  exact ⟨undrew q1,(HC2.out.trans (Ch.below hb)).trans (ch_undrew q2)⟩
 clear HSN HRD
 go_upto_region 9 with (go_at_call 70;refine HFD.out.mono ?_;rintro r w3 ⟨rfl,hb3⟩;have HB3:=hideC hb3;clear hb3)
 have HBW:=hideC (HB3.out.alloc HB3.out.size (.cells #[.int .i64 q0,.int .i64 q1,.int .i64 q2,.bool q3] 47))
 have AX:=hideC (B.new w3 #[.int .i64 q0,.int .i64 q1,.int .i64 q2,.bool q3] 47)
 have hl3:=HB3.out.size
 obtain ⟨W,hW⟩ : ∃ W,W = w3.alloc (.cells #[.int .i64 q0,.int .i64 q1,.int .i64 q2,.bool q3] 47):=⟨_,rfl⟩
 obtain ⟨xb,hxb⟩ : ∃ xb,xb = w3.heap.size:=⟨_,rfl⟩
 rw [<- hW] at HBW AX ⊢
 rw [<- hxb] at AX ⊢
 have hxf : ¬ xb = fb:=by omega
 clear hW hxb
 have HS : Hid (∀ V,Below W.heap.size W V -> V.cell? ⟨mb,1,none⟩ = some (.slice (some ⟨fb,0,none⟩) nf cF) /\ V.cell? ⟨xb,3,none⟩ = some (.bool q3)):=fun V hb=>⟨((HBW.out.trans (hb.mono HBW.out.size)).cell (p:=⟨mb,1,none⟩) hml).trans g1,B.cell (B.below AX.out hb (B.isLt AX.out)) 3 rfl⟩
 have HK0:=hideC (Below.refl W.heap.size W).drew
 have HS0:=hideC (HS.out _ HK0.out)
 have HFL2 : Hid (∀ V,Below W.heap.size W V -> Calls Tryz.prog 119 #[.pointer (some ⟨mb,0,none⟩),.int .i64 p,.bool q3] V fun e w'=>e = .returned (.string D) /\ Below V.heap.size V w'):=fun V hb=>HFL.out V (HBW.out.trans (hb.mono HBW.out.size))
 have HSY : Hid (∀ V : World,(V.cell? ⟨mb,1,none⟩ = some (.slice (some ⟨fb,0,none⟩) nf cF) /\ V.cell? ⟨xb,3,none⟩ = some (.bool q3)) -> ∀ v0 v1 v2 v3,((((V.setCell ⟨fb,i * 4,none⟩ v0).setCell ⟨fb,i * 4 + 1,none⟩ v1).setCell ⟨fb,i * 4 + 2,none⟩ v2).setCell ⟨fb,i * 4 + 3,none⟩ v3).cell? ⟨mb,1,none⟩ = some (.slice (some ⟨fb,0,none⟩) nf cF) /\ ((((V.setCell ⟨fb,i * 4,none⟩ v0).setCell ⟨fb,i * 4 + 1,none⟩ v1).setCell ⟨fb,i * 4 + 2,none⟩ v2).setCell ⟨fb,i * 4 + 3,none⟩ v3).cell? ⟨xb,3,none⟩ = some (.bool q3)):=fun V ⟨h0,h1⟩ v0 v1 v2 v3=>by
  rw [cell_other _ _ _ _ _ _ hmf,cell_other _ _ _ _ _ _ hmf,cell_other _ _ _ _ _ _ hmf,cell_other _ _ _ _ _ _ hmf,cell_other _ _ _ _ _ _ hxf,cell_other _ _ _ _ _ _ hxf,cell_other _ _ _ _ _ _ hxf,cell_other _ _ _ _ _ _ hxf]
  exact ⟨h0,h1⟩
 go_region_held3 (fun V=>V.cell? ⟨mb,1,none⟩ = some (.slice (some ⟨fb,0,none⟩) nf cF) /\ V.cell? ⟨xb,3,none⟩ = some (.bool q3)) (first | exact HS3.out | exact HS0.out | exact HSX.out _ _ _ _)
  ((go_at_call 119;refine (HFL2.out _ HK0.out).mono ?_;rintro r w5 ⟨rfl,hb5⟩;have HK5:=hideC (HK0.out.trans (hb5.mono HK0.out.size));have HS3:=hideC (HS.out _ HK5.out);have HSX:=hideC (fun v0 v1 v2 v3=>HSY.out w5 HS3.out v0 v1 v2 v3);have HZZ:=hideC (HFBE.out w5 (HBW.out.trans (HK5.out.mono HBW.out.size)));obtain ⟨z4,z5,z6,z7,z8,z9,z10,z11⟩ : w5.cell? ⟨fb,i * 4,none⟩ = some (.string FR.data) /\ w5.cell? ⟨fb,i * 4 + 1,none⟩ = some (.int .i64 FR.refs) /\ w5.cell? ⟨fb,i * 4 + 2,none⟩ = some (.bool FR.dirty) /\ w5.cell? ⟨fb,i * 4 + 3,none⟩ = some (.bool FR.seen) /\ w5.frozen? ⟨fb,i * 4,none⟩ = false /\ w5.frozen? ⟨fb,i * 4 + 1,none⟩ = false /\ w5.frozen? ⟨fb,i * 4 + 2,none⟩ = false /\ w5.frozen? ⟨fb,i * 4 + 3,none⟩ = false:=(by obtain ⟨a1,a2,a3,a4,a5,a6,a7,a8,_⟩:=HZZ.out;exact ⟨a1,a2,a3,a4,a5,a6,a7,a8⟩);clear hb5))
 all_goals clear HSX HSY HS HS0 HS3 HFL HFL2
 obtain ⟨U,hU⟩ : ∃ U,U = ((((w5.setCell ⟨fb,i * 4,none⟩ (.string D)).setCell ⟨fb,i * 4 + 1,none⟩ (.int .i64 1)).setCell ⟨fb,i * 4 + 2,none⟩ (.bool false)).setCell ⟨fb,i * 4 + 3,none⟩ (.bool false)):=⟨_,rfl⟩
 obtain ⟨_,_,_,_,_,_,_,_,zf⟩:=HZZ.out
 obtain ⟨hk6,hc6⟩:=zf U hU
 have HK6:=hideC hk6
 have HC6:=hideC hc6
 rw [<- hU]
 clear hU hk6 hc6 zf HZZ z4 z5 z6 z7 z8 z9 z10 z11 HFBE
 go_wp2_with (go_at_call 166;refine (HET.out _ _ HK6.out).mono ?_;rintro r w7 ⟨rfl,S7,hk7,hc7⟩;have HK7:=hideC hk7;have HC7:=hideC (HC6.out.trans hc7);clear hk7 hc7)
 exact HFIN.out _ _ HK7.out HC7.out
end KX
namespace KB
open Go.RowKit
theorem over_get (s : ByteArray) (q : Nat) (t : ByteArray) (x : Nat) (h : q + t.size <= s.size) : (CL.over s q t).data.toList[x]? = if q <= x /\ x < q + t.size then t.data.toList[x - q]? else s.data.toList[x]?:=by
 have hts : t.size = t.data.toList.length:=Lib.size_eq t
 have hss : s.size = s.data.toList.length:=Lib.size_eq s
 have hl : (s.data.toList.take q).length = q:=by rw [List.length_take];omega
 simp only [CL.over,List.toList_toArray]
 by_cases h1 : x < q
 · rw [if_neg (by omega),List.append_assoc,List.getElem?_append_left (by omega),List.getElem?_take,if_pos h1]
 · by_cases h2 : x < q + t.size
   · rw [if_pos ⟨by omega,h2⟩,List.append_assoc,List.getElem?_append_right (by omega),hl,List.getElem?_append_left (by omega)]
   · rw [if_neg (by omega),List.getElem?_append_right (by rw [List.length_append];omega),List.getElem?_drop]
     congr 1
     rw [List.length_append]
     omega
theorem ext_get (s : ByteArray) (a b i : Nat) : (s.extract a b).data.toList[i]? = if i < b - a then s.data.toList[a + i]? else none:=by
 rw [Lib.extract_data,List.getElem?_take]
 split
 · rw [List.getElem?_drop]
 · rfl
theorem bytes_ext {s t : ByteArray} (h : ∀ i : Nat,s.data.toList[i]? = t.data.toList[i]?) : s = t:=by
 apply ByteArray.ext
 exact Array.toList_inj.1 (List.ext_getElem? h)
end KB
namespace KM
open Go.RowKit
theorem apart_frames {k : Kn} (h : RightK k) {j j0 : Nat} (hj : j < k.spaces.length) (hj0 : j0 < k.spaces.length) {p q : Int} {a b : Nat} (h1 : entOf (spAt k.spaces j).ents p = some ⟨p,1,a⟩) (h2 : entOf (spAt k.spaces j0).ents q = some ⟨q,1,b⟩) (hpq : q ≠ p) : a ≠ b:=fun e=>by
 subst e
 have m1:=name_of hj (ent_mem h1)
 have m2:=name_of hj0 (ent_mem h2)
 have hb:=loc_bd h hj (ent_mem h1)
 have hlt : a < k.frames.length:=by
  rcases hb with b | b
  · have:=b.2.2;simpa using this
  · have:=b.1;simp at this
 have:=(h.frm a hlt).one _ m1 _ m2
 injection this with e _
 exact hpq e.symm
theorem held_ne {k : Kn} (h : RightK k) {j0 : Nat} (hj0 : j0 < k.spaces.length) {q : Int} {b : Nat} (h2 : entOf (spAt k.spaces j0).ents q = some ⟨q,1,b⟩) : b < k.frames.length /\ (frAt k.frames b).refs ≠ 0:=by
 have m2:=name_of hj0 (ent_mem h2)
 have hb:=loc_bd h hj0 (ent_mem h2)
 have hlt : b < k.frames.length:=by
  rcases hb with b | b
  · have:=b.2.2;simpa using this
  · have:=b.1;simp at this
 refine ⟨hlt,fun z=>?_⟩
 have:=(h.frm b hlt).nil z
 rw [this] at m2
 cases m2
theorem present_held {k : Kn} (h : RightK k) {j : Nat} (hj : j < k.spaces.length) {p : Int} (hp : mapped k j p) {held : List Int} (hl : held.length <= 2) {j0 : Nat} (hj0 : j0 < k.spaces.length) {q : Int} {b : Nat} (h2 : entOf (spAt k.spaces j0).ents q = some ⟨q,1,b⟩) (hin : (b : Int) ∈ held) (hpq : q ≠ p) : frAt (presentK k j p held).2.frames b = frAt k.frames b:=by
 have hsp:=h.sp hj
 have G:=get_got h hl
 have hH:=G.heldF b hin (held_ne h hj0 h2).2
 unfold presentK
 cases g : entOf (spAt k.spaces j).ents p with
 | none =>
  dsimp only
  have hent : entOf (spAt (getK k held).2.spaces j).ents p = none:=by rw [G.ent j hj p (fun e he=>by rw [g] at he;cases he),g]
  have hj' : j < (getK k held).2.spaces.length:=by rw [G.kept.np];exact hj
  have m : Movable (getK k held).2 j p (getK k held).1 (fillK (getK k held).2.sheets p (zeroAt (getK k held).2 j p)) false:=⟨G.right,hj',G.mapped hj hp,by rw [G.kept.nf];exact G.lt,G.free,fill_size G.right hj' (G.mapped hj hp),fun _=>rfl⟩
  rw [(move_frames _ _ _ _ _ _ m).2.2.2.2.2.1 b,if_neg hH.1,hent]
  exact hH.2
 | some e =>
  have he:=(ent_iff hsp.rise).1 g
  dsimp only
  by_cases c : e.kind = 1
  · rw [if_pos c]
  · rw [if_neg c]
    have hb:=(loc_bd h hj he.1).resolve_left (fun y=>c y.1)
    have hent : entOf (spAt (getK k held).2.spaces j).ents p = some e:=by rw [G.ent j hj p (fun x hx=>by rw [g] at hx;injection hx with hx;subst hx;exact fun y=>c y.1),g]
    have hj' : j < (getK k held).2.spaces.length:=by rw [G.kept.np];exact hj
    have he':=(ent_iff (G.right.sp hj').rise).1 hent
    have hsz : (slAt (getK k held).2.slots e.loc.toNat).data.size = 16:=(G.right.slt e.loc.toNat (by rw [G.kept.ns];exact hb.2.2)).size (fun z=>by
     have:=name_of hj' he'.1
     rw [hb.1,<- hb.2.1,z] at this
     cases this)
    have m : Movable (getK k held).2 j p (getK k held).1 (slAt (getK k held).2.slots e.loc.toNat).data true:=⟨G.right,hj',G.mapped hj hp,by rw [G.kept.nf];exact G.lt,G.free,hsz,fun y=>by cases y⟩
    rw [(move_frames _ _ _ _ _ _ m).2.2.2.2.2.1 b,if_neg hH.1,hent]
    show (if e.kind = 1 /\ e.loc = (b : Int) then _ else _) = _
    rw [if_neg (fun x=>c x.1)]
    exact hH.2
theorem alone_held {k : Kn} (h : RightK k) {j : Nat} (hj : j < k.spaces.length) {p : Int} (hp : mapped k j p) {a : Nat} (ha : entOf (spAt k.spaces j).ents p = some ⟨p,1,a⟩) {held : List Int} (hl : held.length <= 1) {j0 : Nat} (hj0 : j0 < k.spaces.length) {q : Int} {b : Nat} (h2 : entOf (spAt k.spaces j0).ents q = some ⟨q,1,b⟩) (hin : (b : Int) ∈ held) (hpq : q ≠ p) : frAt (aloneK k j p a held).2.frames b = frAt k.frames b:=by
 have hab:=apart_frames h hj hj0 ha h2 hpq
 have hat:=(held_ne h hj ha).1
 unfold aloneK
 by_cases c : (frAt k.frames a).refs = 1
 · rw [if_pos c]
 · rw [if_neg c]
   have G:=get_got h (held:=held ++ [(a : Int)]) (by rw [List.length_append,List.length_singleton];omega)
   have hH:=G.heldF b (List.mem_append.2 (.inl hin)) (held_ne h hj0 h2).2
   obtain ⟨g,hg⟩ : ∃ g,g = getK k (held ++ [(a : Int)]):=⟨_,rfl⟩
   rw [<- hg] at G hH ⊢
   have hent : entOf (spAt g.2.spaces j).ents p = some ⟨p,1,a⟩:=G.stay h hj ha (fun _=>List.mem_append.2 (.inr (by simp)))
   have hj' : j < g.2.spaces.length:=by rw [G.kept.np];exact hj
   have he':=(ent_iff (G.right.sp hj').rise).1 hent
   have hsz : (frAt g.2.frames a).data.size = 16:=(G.right.frm a (by rw [G.kept.nf];exact hat)).size (fun z=>by
    have:=name_of hj' he'.1
    rw [z] at this
    cases this)
   have m : Movable g.2 j p g.1 (frAt g.2.frames a).data true:=⟨G.right,hj',G.mapped hj hp,by rw [G.kept.nf];exact G.lt,G.free,hsz,fun y=>by cases y⟩
   show frAt (moveTo g.2 j p g.1 _ true).frames b = _
   rw [(move_frames _ _ _ _ _ _ m).2.2.2.2.2.1 b,if_neg hH.1,hent]
   show (if (1 : Int) = 1 /\ (a : Int) = (b : Int) then _ else _) = _
   rw [if_neg (fun x=>hab (by omega))]
   exact hH.2
theorem bring_held {k : Kn} (h : RightK k) {j : Nat} (hj : j < k.spaces.length) {p : Int} (hp : mapped k j p) (way : Int) {held : List Int} (hl : held.length <= 1) {j0 : Nat} (hj0 : j0 < k.spaces.length) {q : Int} {b : Nat} (h2 : entOf (spAt k.spaces j0).ents q = some ⟨q,1,b⟩) (hin : (b : Int) ∈ held) (hpq : q ≠ p) : frAt (bringK k j p way held).2.frames b = frAt k.frames b:=by
 have P:=present_had h hj hp (held:=held) (by omega)
 have PH:=present_held h hj hp (held:=held) (by omega) hj0 h2 hin hpq
 have hT : Brought k j p held (twoK k j p way held) /\ frAt (twoK k j p way held).2.frames b = frAt k.frames b:=by
  unfold twoK
  by_cases c : way = 1
  · rw [if_pos c]
    have A:=alone_had P.right (by rw [P.kept.np];exact hj) (P.kept.mapped hj hp) P.here hl
    refine ⟨P.trans A.1,?_⟩
    rw [alone_held P.right (by rw [P.kept.np];exact hj) (P.kept.mapped hj hp) P.here hl (by rw [P.kept.np];exact hj0) (P.stay j0 hj0 q _ h2 rfl hin (fun x=>hpq x.2)) hin hpq]
    exact PH
  · rw [if_neg c];exact ⟨P,PH⟩
 have T:=hT.1
 have hne:=apart_frames T.right (by rw [T.kept.np];exact hj) (by rw [T.kept.np];exact hj0) T.here (T.stay j0 hj0 q _ h2 rfl hin (fun x=>hpq x.2)) hpq
 show frAt ((twoK k j p way held).2.frames.set _ _) b = _
 rw [frAt_set _ _ _ _ (by rw [T.kept.nf];exact T.lt),if_neg hne]
 exact hT.2
structure Alone (k : Kn) (j : Nat) (p : Int) (i : Nat) : Prop where
 here : entOf (spAt k.spaces j).ents p = some ⟨p,1,i⟩
 lt : i < k.frames.length
 refs : (frAt k.frames i).refs = 1
 dirty : (frAt k.frames i).dirty = true
theorem reach_alone {k : Kn} (h : RightK k) {j : Nat} (hj : j < k.spaces.length) (a n : Int) (h1 : mapped k j (a / 16)) (h2 : mapped k j (lastPg a n)) : Alone (reachK k j a n 1).2 j (a / 16) (oneK k j a 1).1 /\ (lastPg a n ≠ a / 16 -> Alone (reachK k j a n 1).2 j (lastPg a n) (twoB k j a n 1).1):=by
 have R:=reach_had h hj a n 1 h1 h2
 obtain ⟨A,A2⟩:=bring_had h hj h1 1 (held:=[]) (by simp)
 have A2:=A2 rfl
 by_cases c : lastPg a n = a / 16
 · have e : reachK k j a n 1 = ([(oneK k j a 1).1],(oneK k j a 1).2):=by unfold reachK;rw [if_pos c]
   refine ⟨?_,fun x=>absurd c x⟩
   rw [e]
   exact ⟨A.here,by have:=A.kept.nf;have:=A.lt;show (bringK k j (a / 16) 1 []).1 < (bringK k j (a / 16) 1 []).2.frames.length;omega,A2.1,A2.2⟩
 · have hj' : j < (oneK k j a 1).2.spaces.length:=by have:=A.kept.np;unfold oneK;omega
   have hm':=A.kept.mapped hj h2
   obtain ⟨B,B2⟩:=bring_had (k:=(oneK k j a 1).2) A.right hj' hm' 1 (held:=[((oneK k j a 1).1 : Int)]) (by simp)
   have B2:=B2 rfl
   have hh:=bring_held (k:=(oneK k j a 1).2) A.right hj' hm' 1 (held:=[((oneK k j a 1).1 : Int)]) (by simp) hj' A.here (by simp [oneK]) (fun x=>c x.symm)
   have e : reachK k j a n 1 = ([(oneK k j a 1).1,(twoB k j a n 1).1],(twoB k j a n 1).2):=by unfold reachK;rw [if_neg c]
   have hB : twoB k j a n 1 = bringK (oneK k j a 1).2 j (lastPg a n) 1 [((oneK k j a 1).1 : Int)]:=rfl
   have hlen : (twoB k j a n 1).2.frames.length = k.frames.length:=by rw [hB,B.kept.nf];exact A.kept.nf
   rw [e]
   refine ⟨⟨?_,?_,?_,?_⟩,fun _=>⟨?_,?_,?_,?_⟩⟩
   · exact B.stay j hj' (a / 16) _ A.here rfl (by simp [oneK]) (fun x=>c x.2.symm)
   · show (oneK k j a 1).1 < (twoB k j a n 1).2.frames.length
     rw [hlen];exact A.lt
   · show (frAt (twoB k j a n 1).2.frames (oneK k j a 1).1).refs = 1
     rw [hB]
     have : frAt (bringK (oneK k j a 1).2 j (lastPg a n) 1 [((oneK k j a 1).1 : Int)]).2.frames (oneK k j a 1).1 = frAt (oneK k j a 1).2.frames (oneK k j a 1).1:=hh
     rw [this];exact A2.1
   · show (frAt (twoB k j a n 1).2.frames (oneK k j a 1).1).dirty = true
     rw [hB]
     have : frAt (bringK (oneK k j a 1).2 j (lastPg a n) 1 [((oneK k j a 1).1 : Int)]).2.frames (oneK k j a 1).1 = frAt (oneK k j a 1).2.frames (oneK k j a 1).1:=hh
     rw [this];exact A2.2
   · exact B.here
   · show (twoB k j a n 1).1 < (twoB k j a n 1).2.frames.length
     rw [hlen]
     have:=B.lt
     have:=A.kept.nf
     show (bringK (oneK k j a 1).2 j (lastPg a n) 1 [((oneK k j a 1).1 : Int)]).1 < _
     unfold oneK at *
     omega
   · exact B2.1
   · exact B2.2
def layD (k : Kn) (i : Nat) (d : ByteArray) : Kn:={ k with frames:=k.frames.set i ⟨d,(frAt k.frames i).refs,(frAt k.frames i).dirty,(frAt k.frames i).seen⟩ }
theorem layD_right {k : Kn} (h : RightK k) {j : Nat} (hj : j < k.spaces.length) {p : Int} {i : Nat} (a : Alone k j p i) {d : ByteArray} (hd : d.size = 16) : RightK (layD k i d):=by
 have hf:=h.frm i a.lt
 refine h.frame ⟨hf.refs,fun e=>?_,hf.one,fun _=>hd,fun x=>?_⟩
 · have:=hf.refs
   rw [e,a.refs] at this
   cases this
 · have x : (frAt k.frames i).dirty = false:=x
   rw [a.dirty] at x;cases x
theorem layD_peek {k : Kn} (h : RightK k) {j : Nat} (hj : j < k.spaces.length) {p : Int} {i : Nat} (a : Alone k j p i) (d : ByteArray) {m : Nat} (hm : m < k.spaces.length) (q : Int) : peekK (layD k i d) m q = if m = j /\ q = p then d else peekK k m q:=by
 have at_ : ∀ n,frAt (layD k i d).frames n = if i = n then ⟨d,(frAt k.frames i).refs,(frAt k.frames i).dirty,(frAt k.frames i).seen⟩ else frAt k.frames n:=fun n=>frAt_set _ _ _ _ a.lt
 by_cases c : m = j /\ q = p
 · rw [if_pos c,c.1,c.2]
   unfold peekK
   show (match entOf (spAt k.spaces j).ents p with
    | some e=>if e.kind = 1 then (frAt (layD k i d).frames e.loc.toNat).data else _
    | none=>_) = d
   rw [a.here]
   show (if (1 : Int) = 1 then (frAt (layD k i d).frames (i : Int).toNat).data else _) = d
   rw [if_pos rfl,Int.toNat_natCast,at_,if_pos rfl]
 · rw [if_neg c]
   refine peek_eq rfl (fun x hx=>⟨fun hk=>?_,fun _=>rfl⟩) (fun _=>rfl)
   have hx : entOf (spAt k.spaces m).ents q = some x:=hx
   rw [at_]
   by_cases e : i = x.loc.toNat
   · exfalso
     have m1 : x ∈ (spAt k.spaces m).ents:=ent_mem hx
     have hb:=(loc_bd h hm m1).resolve_right (fun y=>by omega)
     have hxl : x.loc = (i : Int):=by omega
     have e2 : x = ⟨q,1,i⟩:=by
      have:=ent_page hx
      obtain ⟨a1,a2,a3⟩:=x
      simp only at this hk hxl
      rw [this,hk,hxl]
     rw [e2] at hx
     have hpq : q = p:=by
      by_cases z : q = p
      · exact z
      · exact absurd rfl (apart_frames h hj hm a.here hx z)
     have hmj : m ≠ j:=fun z=>c ⟨z,hpq⟩
     have hr:=(h.frm i a.lt).refs
     rw [a.refs] at hr
     have two : 2 <= (names k.spaces 1 i).length:=by
      have key : ∀ (l : List Sp) (a b : Nat),a < b -> b < l.length -> (nameIn (spAt l a) 1 i) ≠ [] -> (nameIn (spAt l b) 1 i) ≠ [] -> 2 <= (names l 1 i).length:=fun l=>by
       induction l with
       | nil=>intro a b _ hb;simp at hb
       | cons s r ih =>
        intro a b hab hb h1 h2
        rw [names_cons,List.length_append]
        cases a with
        | zero =>
         have h1' : 1 <= (nameIn s 1 i).length:=List.length_pos_iff.2 h1
         obtain ⟨b',rfl⟩ : ∃ b',b = b' + 1:=⟨b - 1,by omega⟩
         have h2' : nameIn (spAt r b') 1 i ≠ []:=h2
         have : 1 <= (names r 1 i).length:=by
          obtain ⟨y,hy⟩:=List.exists_mem_of_ne_nil _ h2'
          refine List.length_pos_iff.2 fun z=>?_
          have : y ∈ names r 1 i:=List.mem_flatMap.2 ⟨_,spAt_mem (by simpa using hb),hy⟩
          rw [z] at this;cases this
         omega
        | succ a =>
         obtain ⟨b',rfl⟩ : ∃ b',b = b' + 1:=⟨b - 1,by omega⟩
         have:=ih a b' (by omega) (by simpa using hb) h1 h2
         omega
      have n1 : nameIn (spAt k.spaces j) 1 i ≠ []:=fun z=>by
       have : (_ : Int × Bool) ∈ nameIn (spAt k.spaces j) 1 i:=mem_nameIn.2 ⟨_,ent_mem a.here,rfl,rfl,rfl⟩
       rw [z] at this;cases this
      have n2 : nameIn (spAt k.spaces m) 1 i ≠ []:=fun z=>by
       have : (_ : Int × Bool) ∈ nameIn (spAt k.spaces m) 1 i:=mem_nameIn.2 ⟨_,ent_mem hx,rfl,rfl,rfl⟩
       rw [z] at this;cases this
      rcases Nat.lt_or_gt_of_ne hmj with g | g
      · exact key k.spaces m j g hj n2 n1
      · exact key k.spaces j m g hm n1 n2
     omega
   · rw [if_neg e]
def joinB (f : Int -> ByteArray) (a n : Int) : ByteArray:=if lastPg a n = a / 16 then f (a / 16) else f (a / 16) ++ f (lastPg a n)
def loadB (f : Int -> ByteArray) (a n : Int) : ByteArray:=(joinB f a n).extract (a % 16).toNat ((a % 16).toNat + n.toNat)
def laidB (f : Int -> ByteArray) (a : Int) (d : ByteArray) : ByteArray:=CL.over (joinB f a d.size) (a % 16).toNat d
def storeB (f : Int -> ByteArray) (a : Int) (d : ByteArray) (p : Int) : ByteArray:=if p = a / 16 then (laidB f a d).extract 0 16 else if p = lastPg a d.size then (laidB f a d).extract 16 32 else f p
def joinTo (fs : List Fr) (ids : List Nat) : Nat -> ByteArray
 | 0=>⟨#[]⟩
 | n + 1=>joinTo fs ids n ++ (frAt fs (ids.getD n 0)).data
def partTo (k : Kn) (ids : List Nat) (s : ByteArray) : Nat -> Kn
 | 0=>k
 | n + 1=>layD (partTo k ids s n) (ids.getD n 0) (s.extract (n * 16) (n * 16 + 16))
def loadK (k : Kn) (j : Nat) (a n way : Int) : ByteArray:=(joinTo (reachK k j a n way).2.frames (reachK k j a n way).1 (reachK k j a n way).1.length).extract (a % 16).toNat ((a % 16).toNat + n.toNat)
def storeK (k : Kn) (j : Nat) (a : Int) (d : ByteArray) : Kn:=partTo (reachK k j a d.size 1).2 (reachK k j a d.size 1).1 (CL.over (joinTo (reachK k j a d.size 1).2.frames (reachK k j a d.size 1).1 (reachK k j a d.size 1).1.length) (a % 16).toNat d) (reachK k j a d.size 1).1.length
theorem empty_append (d : ByteArray) : (⟨#[]⟩ : ByteArray) ++ d = d:=by
 apply KB.bytes_ext
 intro i
 simp
theorem here_data {k : Kn} {j : Nat} {p : Int} {i : Nat} (h : entOf (spAt k.spaces j).ents p = some ⟨p,1,i⟩) : peekK k j p = (frAt k.frames i).data:=by
 unfold peekK
 rw [h]
 show (if (1 : Int) = 1 then (frAt k.frames (i : Int).toNat).data else _) = _
 rw [if_pos rfl,Int.toNat_natCast]
theorem reach_join {k : Kn} (h : RightK k) {j : Nat} (hj : j < k.spaces.length) (a n way : Int) (h1 : mapped k j (a / 16)) (h2 : mapped k j (lastPg a n)) : joinTo (reachK k j a n way).2.frames (reachK k j a n way).1 (reachK k j a n way).1.length = joinB (peekK k j) a n:=by
 have R:=reach_had h hj a n way h1 h2
 have p1:=R.kept.peek j hj (a / 16)
 have p2:=R.kept.peek j hj (lastPg a n)
 rw [here_data R.one.1] at p1
 unfold joinB
 rw [<- p1,<- p2]
 by_cases c : lastPg a n = a / 16
 · rw [if_pos c]
   have e : (reachK k j a n way).1 = [(oneK k j a way).1]:=by unfold reachK;rw [if_pos c]
   rw [e]
   exact empty_append _
 · rw [if_neg c,here_data (R.two c).1]
   have e : (reachK k j a n way).1 = [(oneK k j a way).1,(twoB k j a n way).1]:=by unfold reachK;rw [if_neg c]
   rw [e]
   show ((⟨#[]⟩ : ByteArray) ++ _) ++ _ = _
   rw [empty_append]
   rfl
theorem load_eq {k : Kn} (h : RightK k) {j : Nat} (hj : j < k.spaces.length) (a n way : Int) (h1 : mapped k j (a / 16)) (h2 : mapped k j (lastPg a n)) : loadK k j a n way = loadB (peekK k j) a n:=by
 unfold loadK loadB
 rw [reach_join h hj a n way h1 h2]
theorem peek_size {k : Kn} (h : RightK k) {j : Nat} (hj : j < k.spaces.length) {p : Int} (hp : mapped k j p) : (peekK k j p).size = 16:=by
 unfold peekK
 cases g : entOf (spAt k.spaces j).ents p with
 | none=>exact fill_size h hj hp
 | some e =>
  have hb:=loc_bd h hj (ent_mem g)
  have hn:=name_of hj (ent_mem g)
  dsimp only
  rcases hb with b | b
  · rw [if_pos b.1]
    exact (h.frm _ b.2.2).size (fun z=>by rw [b.1,<- b.2.1,z] at hn;cases hn)
  · rw [if_neg (by omega)]
    exact (h.slt _ b.2.2).size (fun z=>by rw [b.1,<- b.2.1,z] at hn;cases hn)
theorem over_size (s : ByteArray) (q : Nat) (t : ByteArray) (h : q + t.size <= s.size) : (CL.over s q t).size = s.size:=by
 have h1 : (CL.over s q t).size = (CL.over s q t).data.toList.length:=by simp
 have h2 : s.size = s.data.toList.length:=by simp
 have h3 : t.size = t.data.toList.length:=by simp
 rw [h1]
 unfold CL.over
 simp only [List.length_append,List.length_take,List.length_drop]
 simp at h2 h3 ⊢
 omega
theorem ext_size (s : ByteArray) (a b : Nat) (h : b <= s.size) (hab : a <= b) : (s.extract a b).size = b - a:=by
 simp [ByteArray.size_extract];omega
theorem app_get (s t : ByteArray) (x : Nat) : (s ++ t).data.toList[x]? = if x < s.size then s.data.toList[x]? else t.data.toList[x - s.size]?:=by
 simp only [ByteArray.data_append,Array.toList_append]
 have h2 : s.data.toList.length = s.size:=by simp
 by_cases c : x < s.size
 · rw [if_pos c,List.getElem?_append_left (by omega)]
 · rw [if_neg c,List.getElem?_append_right (by omega),h2]
theorem pg_two {a n : Int} (h1 : 1 <= n) (h8 : n <= 8) : (lastPg a n = a / 16 /\ a % 16 + n <= 16) ∨ (lastPg a n = a / 16 + 1 /\ 16 < a % 16 + n):=by
 unfold lastPg;omega
structure Pgs (f : Int -> ByteArray) (a n : Int) : Prop where
 one : (f (a / 16)).size = 16
 two : (f (lastPg a n)).size = 16
theorem join_size {f : Int -> ByteArray} {a n : Int} (h : Pgs f a n) (h1 : 1 <= n) (h8 : n <= 8) : ((joinB f a n).size : Int) = if lastPg a n = a / 16 then 16 else 32:=by
 unfold joinB
 split
 · rw [h.one];rfl
 · rw [ByteArray.size_append,h.one,h.two];rfl
theorem join_fit {f : Int -> ByteArray} {a n : Int} (h : Pgs f a n) (h1 : 1 <= n) (h8 : n <= 8) : (a % 16).toNat + n.toNat <= (joinB f a n).size:=by
 have:=join_size h h1 h8
 rcases pg_two (a:=a) h1 h8 with g | g
 · rw [if_pos g.1] at this;omega
 · rw [if_neg (by omega)] at this;omega
theorem join_get {f : Int -> ByteArray} {a n : Int} (h : Pgs f a n) (x : Nat) : (joinB f a n).data.toList[x]? = if x < 16 then (f (a / 16)).data.toList[x]? else if lastPg a n = a / 16 then none else (f (lastPg a n)).data.toList[x - 16]?:=by
 unfold joinB
 by_cases c : lastPg a n = a / 16
 · rw [if_pos c]
   by_cases d : x < 16
   · rw [if_pos d]
   · rw [if_neg d,if_pos c]
     have : (f (a / 16)).data.toList.length = 16:=by rw [<- h.one];simp
     exact List.getElem?_eq_none (by omega)
 · rw [if_neg c,app_get,h.one,if_neg c]
theorem load_size {f : Int -> ByteArray} {a n : Int} (h : Pgs f a n) (h1 : 1 <= n) (h8 : n <= 8) : (loadB f a n).size = n.toNat:=by
 unfold loadB
 rw [ext_size _ _ _ (join_fit h h1 h8) (by omega)]
 omega
theorem laid_size {f : Int -> ByteArray} {a : Int} {d : ByteArray} (h : Pgs f a d.size) (h1 : 1 <= (d.size : Int)) (h8 : (d.size : Int) <= 8) : ((laidB f a d).size : Int) = if lastPg a d.size = a / 16 then 16 else 32:=by
 unfold laidB
 rw [over_size _ _ _ (by have:=join_fit h h1 h8;omega)]
 exact join_size h h1 h8
theorem store_size {f : Int -> ByteArray} {a : Int} {d : ByteArray} (h : Pgs f a d.size) (h1 : 1 <= (d.size : Int)) (h8 : (d.size : Int) <= 8) (p : Int) (hp : (f p).size = 16) : (storeB f a d p).size = 16:=by
 have hs:=laid_size h h1 h8
 unfold storeB
 by_cases c : p = a / 16
 · rw [if_pos c,ext_size]
   · rcases pg_two (a:=a) h1 h8 with g | g
     · rw [if_pos g.1] at hs;omega
     · rw [if_neg (by omega)] at hs;omega
   · omega
 · rw [if_neg c]
   by_cases e : p = lastPg a d.size
   · rw [if_pos e]
     rw [if_neg (by omega)] at hs
     rw [ext_size _ _ _ (by omega) (by omega)]
   · rw [if_neg e];exact hp
theorem store_get {f : Int -> ByteArray} {a : Int} {d : ByteArray} (h : Pgs f a d.size) (h1 : 1 <= (d.size : Int)) (h8 : (d.size : Int) <= 8) (p : Int) (i : Nat) (hi : i < 16) : (storeB f a d p).data.toList[i]? = if a <= p * 16 + i /\ p * 16 + i < a + d.size then d.data.toList[(p * 16 + i - a).toNat]? else (f p).data.toList[i]?:=by
 have hs:=laid_size h h1 h8
 have hfit:=join_fit h h1 h8
 have hpg:=pg_two (a:=a) h1 h8
 have ho : ∀ x,(laidB f a d).data.toList[x]? = if (a % 16).toNat <= x /\ x < (a % 16).toNat + d.size then d.data.toList[x - (a % 16).toNat]? else (joinB f a d.size).data.toList[x]?:=fun x=>KB.over_get _ _ _ _ (by omega)
 unfold storeB
 by_cases c : p = a / 16
 · rw [if_pos c,KB.ext_get,if_pos (by omega),ho,Nat.zero_add,join_get h]
   by_cases e : (a % 16).toNat <= i /\ i < (a % 16).toNat + d.size
   · rw [if_pos e,if_pos (show a <= p * 16 + i /\ p * 16 + i < a + d.size by omega),show i - (a % 16).toNat = (p * 16 + i - a).toNat by omega]
   · rw [if_neg e,if_neg (show ¬ (a <= p * 16 + i /\ p * 16 + i < a + d.size) by omega),if_pos hi,c]
 · rw [if_neg c]
   by_cases g : p = lastPg a d.size
   · rw [if_pos g,KB.ext_get,if_pos (by omega),ho,join_get h]
     have hne : ¬ lastPg a d.size = a / 16:=by omega
     by_cases e : (a % 16).toNat <= 16 + i /\ 16 + i < (a % 16).toNat + d.size
     · rw [if_pos e,if_pos (show a <= p * 16 + i /\ p * 16 + i < a + d.size by omega),show 16 + i - (a % 16).toNat = (p * 16 + i - a).toNat by omega]
     · rw [if_neg e,if_neg (show ¬ (a <= p * 16 + i /\ p * 16 + i < a + d.size) by omega),if_neg (show ¬ 16 + i < 16 by omega),if_neg hne,g,show 16 + i - 16 = i by omega]
   · rw [if_neg g,if_neg (by omega)]
theorem load_get {f : Int -> ByteArray} {a n : Int} (h : Pgs f a n) (h1 : 1 <= n) (h8 : n <= 8) (i : Nat) (hi : (i : Int) < n) : (loadB f a n).data.toList[i]? = (f ((a + i) / 16)).data.toList[((a + i) % 16).toNat]?:=by
 have hpg:=pg_two (a:=a) h1 h8
 unfold loadB
 rw [KB.ext_get,if_pos (by omega),join_get h]
 by_cases c : (a % 16).toNat + i < 16
 · rw [if_pos c,show (a + i) / 16 = a / 16 by omega,show ((a + i) % 16).toNat = (a % 16).toNat + i by omega]
 · rw [if_neg c,if_neg (by omega),show (a + i) / 16 = lastPg a n by omega,show ((a + i) % 16).toNat = (a % 16).toNat + i - 16 by omega]
theorem load_store {f : Int -> ByteArray} {a : Int} {d : ByteArray} (h : Pgs f a d.size) (h1 : 1 <= (d.size : Int)) (h8 : (d.size : Int) <= 8) : loadB (storeB f a d) a d.size = d:=by
 have hP : Pgs (storeB f a d) a d.size:=⟨store_size h h1 h8 _ h.one,store_size h h1 h8 _ h.two⟩
 apply KB.bytes_ext
 intro i
 by_cases c : (i : Int) < d.size
 · rw [load_get hP h1 h8 i c,store_get h h1 h8 _ _ (by omega),if_pos (by omega),show (((a + i) / 16 * 16 + (((a + i) % 16).toNat : Nat)) - a).toNat = i by omega]
 · have e1 : (loadB (storeB f a d) a d.size).data.toList.length = d.size:=by
    have:=load_size hP h1 h8
    simp at this ⊢
    exact this
   have e2 : d.data.toList.length = d.size:=by simp
   rw [List.getElem?_eq_none (by omega),List.getElem?_eq_none (by omega)]
structure Stored (k : Kn) (j : Nat) (a : Int) (d : ByteArray) (r : Kn) : Prop where
 right : RightK r
 sheets : r.sheets = k.sheets
 nf : r.frames.length = k.frames.length
 ns : r.slots.length = k.slots.length
 np : r.spaces.length = k.spaces.length
 live : ∀ m,m < k.spaces.length -> (spAt r.spaces m).live = (spAt k.spaces m).live
 areas : ∀ m,m < k.spaces.length -> (spAt r.spaces m).areas = (spAt k.spaces m).areas
 peek : ∀ m,m < k.spaces.length -> ∀ p,peekK r m p = if m = j then storeB (peekK k j) a d p else peekK k m p
theorem store_had {k : Kn} (h : RightK k) {j : Nat} (hj : j < k.spaces.length) (a : Int) (d : ByteArray) (hd1 : 1 <= (d.size : Int)) (hd8 : (d.size : Int) <= 8) (h1 : mapped k j (a / 16)) (h2 : mapped k j (lastPg a d.size)) : Stored k j a d (storeK k j a d):=by
 have R:=reach_had h hj a d.size 1 h1 h2
 have A:=reach_alone h hj a d.size h1 h2
 have hP : Pgs (peekK k j) a d.size:=⟨peek_size h hj h1,peek_size h hj h2⟩
 have hL:=laid_size hP hd1 hd8
 have hpg:=pg_two (a:=a) hd1 hd8
 unfold storeK
 rw [reach_join h hj a d.size 1 h1 h2]
 obtain ⟨s,hs⟩ : ∃ s,s = laidB (peekK k j) a d:=⟨_,rfl⟩
 have hs' : CL.over (joinB (peekK k j) a d.size) (a % 16).toNat d = s:=hs.symm
 rw [hs']
 rw [<- hs] at hL
 obtain ⟨K,hK⟩ : ∃ K,K = (reachK k j a d.size 1).2:=⟨_,rfl⟩
 have hr:=R.right
 have hkept:=R.kept
 rw [<- hK] at hr hkept A ⊢
 have hjK : j < K.spaces.length:=by rw [hkept.np];exact hj
 by_cases c : lastPg a d.size = a / 16
 · have e : (reachK k j a d.size 1).1 = [(oneK k j a 1).1]:=by unfold reachK;rw [if_pos c]
   rw [e]
   show Stored k j a d (layD K (oneK k j a 1).1 (s.extract (0 * 16) (0 * 16 + 16)))
   rw [if_pos c] at hL
   have hz : (s.extract (0 * 16) (0 * 16 + 16)).size = 16:=ext_size _ _ _ (by omega) (by omega)
   refine ⟨layD_right hr hjK A.1 hz,hkept.sheets,by show (List.set _ _ _).length = _;rw [List.length_set];exact hkept.nf,hkept.ns,hkept.np,hkept.live,hkept.areas,fun m hm p=>?_⟩
   rw [layD_peek hr hjK A.1 _ (by rw [hkept.np];exact hm)]
   by_cases q : m = j
   · subst q
     rw [if_pos rfl]
     unfold storeB
     by_cases z : p = a / 16
     · rw [if_pos ⟨rfl,z⟩,if_pos z,hs]
     · rw [if_neg (fun x=>z x.2),if_neg z,if_neg (by omega)]
       exact hkept.peek m hm p
   · rw [if_neg (fun x=>q x.1),if_neg q]
     exact hkept.peek m hm p
 · have e : (reachK k j a d.size 1).1 = [(oneK k j a 1).1,(twoB k j a d.size 1).1]:=by unfold reachK;rw [if_neg c]
   rw [e]
   show Stored k j a d (layD (layD K (oneK k j a 1).1 (s.extract (0 * 16) (0 * 16 + 16))) (twoB k j a d.size 1).1 (s.extract (1 * 16) (1 * 16 + 16)))
   rw [if_neg c] at hL
   have hz : (s.extract (0 * 16) (0 * 16 + 16)).size = 16:=ext_size _ _ _ (by omega) (by omega)
   have hy : (s.extract (1 * 16) (1 * 16 + 16)).size = 16:=ext_size _ _ _ (by omega) (by omega)
   have A2:=A.2 c
   have hne:=apart_frames hr hjK hjK A.1.here A2.here c
   have r1:=layD_right hr hjK A.1 hz
   have B : Alone (layD K (oneK k j a 1).1 (s.extract (0 * 16) (0 * 16 + 16))) j (lastPg a d.size) (twoB k j a d.size 1).1:=by
    have at_ : frAt (layD K (oneK k j a 1).1 (s.extract (0 * 16) (0 * 16 + 16))).frames (twoB k j a d.size 1).1 = frAt K.frames (twoB k j a d.size 1).1:=by
     show frAt (List.set _ _ _) _ = _
     rw [frAt_set _ _ _ _ A.1.lt,if_neg hne]
    exact ⟨A2.here,by show _ < (List.set _ _ _).length;rw [List.length_set];exact A2.lt,by rw [at_];exact A2.refs,by rw [at_];exact A2.dirty⟩
   refine ⟨layD_right r1 hjK B hy,hkept.sheets,by show (List.set (List.set _ _ _) _ _).length = _;rw [List.length_set,List.length_set];exact hkept.nf,hkept.ns,hkept.np,hkept.live,hkept.areas,fun m hm p=>?_⟩
   have hmK : m < K.spaces.length:=by rw [hkept.np];exact hm
   rw [layD_peek r1 hjK B _ (m:=m) hmK,layD_peek hr hjK A.1 _ hmK]
   by_cases q : m = j
   · subst q
     rw [if_pos rfl]
     unfold storeB
     by_cases z : p = a / 16
     · rw [if_neg (fun x=>c (x.2.symm.trans z)),if_pos ⟨rfl,z⟩,if_pos z,hs]
     · rw [if_neg z]
       by_cases y : p = lastPg a d.size
       · rw [if_pos ⟨rfl,y⟩,if_pos y,hs]
       · rw [if_neg (fun x=>y x.2),if_neg (fun x=>z x.2),if_neg y]
         exact hkept.peek m hm p
   · rw [if_neg (fun x=>q x.1),if_neg (fun x=>q x.1),if_neg q]
     exact hkept.peek m hm p
end KM
end Go.Proofs.YtpgifpeohlllfaaGreat
