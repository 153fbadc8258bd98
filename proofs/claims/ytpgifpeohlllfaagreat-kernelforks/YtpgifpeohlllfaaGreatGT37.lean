import Derived.Test.YtpgifpeohlllfaaGreatGT36
set_option maxHeartbeats 20000000
set_option linter.unusedVariables false
set_option maxRecDepth 100000
set_option linter.unusedSimpArgs false
namespace Go.Proofs.YtpgifpeohlllfaaGreat
namespace KL
open Go.RowKit GK KO
open FW (ai aD)
open KW (fh cK aI eB cu)
open KY (km)
open KZ (fe fJ gK b6)
theorem zq {K:KM.Kn} (h:K=gK∨KM.aQ K):∀hs1,KM.Same K.ak hs1->eB (KM.aT K hs1):=fun hs1 s=>by
 rcases h with rfl | h
 · exact P4 s
 · exact KG.oL (h.aT s)
theorem xJ {w w':World} {K:KM.Kn} {vs:List Value} {e:Ending} (h:b6 w K vs e w'):∃s1 n1 q1 s2 n2 q2 s3 n3 q3 s4 n4 q4 hd,e=.returned (.tuple (Value.agg #[.slice s1 n1 q1,.slice s2 n2 q2,.slice s3 n3 q3,.slice s4 n4 q4,I hd]::vs).toArray)/\Kept w.heap.size K #[.slice s1 n1 q1,.slice s2 n2 q2,.slice s3 n3 q3,.slice s4 n4 q4,I hd] w'/\Below w.heap.size w w':=by
 obtain⟨hs1,a1,h1,h2,h3,h4⟩:=KG.N8 h;exact⟨_,_,_,_,_,_,_,_,_,_,_,_,_,h2,⟨hs1,a1,h1,rfl,h3⟩,h4⟩
theorem PY (k:KM.Kn) (sp:Int):(fe k sp).1=gK∨KM.aQ (fe k sp).1:=by
 by_cases c:(fe k sp).2.2=0
 · rcases Io k sp with g | ⟨j,_,_,_,_,g,e⟩
   · exact absurd c g
   · rw[e];exact .inr g
 · refine .inl ?_;unfold KZ.fe at c ⊢;split
   · rfl
   · split
     · rfl
     · split
       · rfl
       · rename_i h1 h2 h3
         rw[if_neg h1,if_neg h2,if_neg h3] at c;exact absurd rfl c
theorem Qg (k:KM.Kn) (sp:Int):(fJ k sp).1=gK∨KM.aQ (fJ k sp).1:=by
 unfold KZ.fJ;split
 · exact .inl rfl
 · rename_i h
   obtain⟨hR,hs0,hj,hl⟩:=KY.gJ (Classical.not_not.1 h);exact .inr (KM.IE hR hj)
theorem Mc (uW:km) (k:KM.Kn) (a:fh) (sp:Int) (w:World) (hK:cK w a k) (hF:eB k) (hsp:M.gu sp)
  (hbg:∀V,Calls Tryz.prog 15 #[] V fun e w'=>e=.returned (.bool true)/\Below V.heap.size V w') :
  Calls Tryz.prog 9 #[.agg (aI a k),I sp] w fun e w'=>e=.returned (.bool true)/\Below w.heap.size w w':=by
 obtain⟨WA,di⟩:=ex (w.alloc (.cells (aI a k) 27));have hb0:Below w.heap.size w WA:=by rw[di];exact(Below.refl _ _).alloc (Nat.le_refl _) _
 have kb:WA.heap[w.heap.size]?=some (.cells (aI a k) 27 (0,0)):=by rw[di];exact B.new w _ _
 have KB:Hid (∀V,Below WA.heap.size WA V->V.heap[w.heap.size]?=some (.cells #[.slice a.aS k.ak.length a.cS,.slice a.aF k.frames.length a.cF,.slice a.aL k.slots.length a.cL,.slice a.aP k.aj.length a.cP,I k.hand] 27 (0,0))):=fun V hb=>B.below kb hb (B.isLt kb)
 have ek:∀{V:World},Below WA.heap.size WA V->Below w.heap.size w V:=fun hV=>hb0.trans (hV.mono hb0.size)
 have eZ:=ai di;have bR:=ai hb0;have HBG:=ai hbg;have hff:=zq (PY k sp);have hdf:=zq (Qg k sp);obtain⟨K1,Gl⟩:=ex ((fe k sp).1);obtain⟨nn,hnn⟩:=ex ((fe k sp).2.1);obtain⟨e1,ZZ⟩:=ex ((fe k sp).2.2);obtain⟨K2,hK2⟩:=ex ((fJ k sp).1);obtain⟨e2,he2⟩:=ex ((fJ k sp).2);rw[<- Gl] at hff;rw[<- hK2] at hdf;have HFF:=ai hff;have QN:=ai hdf;have HF1:Hid (∀V,Below WA.heap.size WA V->Calls Tryz.prog 39 #[.agg (aI a k),I sp] V fun e w'=>∃Q7 n11 Rq s12 RD Rp Q6 n13 Ro Q5 n14 Rn hd1,e=.returned (.tuple #[.agg #[.slice Q7 n11 Rq,.slice s12 RD Rp,.slice Q6 n13 Ro,.slice Q5 n14 Rn,I hd1],I nn,I e1])/\Kept V.heap.size K1 #[.slice Q7 n11 Rq,.slice s12 RD Rp,.slice Q6 n13 Ro,.slice Q5 n14 Rn,I hd1] w'/\Below V.heap.size V w'):=fun V hV=>by
  rw[Gl,hnn,ZZ];exact(KZ.Fi uW k a sp V (hK.below (ek hV)) hF hsp).mono fun e w' h=>xJ h
 have D3:Hid (∀V,Below WA.heap.size WA V->Calls Tryz.prog 40 #[.agg (aI a k),I sp] V fun e w'=>∃Q4 n21 Rm Q3 n22 Rk Jl n23 Rj Q0 RA Ri hd2,e=.returned (.tuple #[.agg #[.slice Q4 n21 Rm,.slice Q3 n22 Rk,.slice Jl n23 Rj,.slice Q0 RA Ri,I hd2],I e2])/\Kept V.heap.size K2 #[.slice Q4 n21 Rm,.slice Q3 n22 Rk,.slice Jl n23 Rj,.slice Q0 RA Ri,I hd2] w'/\Below V.heap.size V w'):=fun V hV=>by
  rw[hK2,he2];exact(KZ.Qh uW k a sp V (hK.below (ek hV)) hF hsp).mono fun e w' h=>xJ h
 have HF3:Hid (∀V,Below WA.heap.size WA V->Calls Tryz.prog 41 #[.agg (aI a k),I sp] V fun e w'=>∃QZ Rz Rh QY n32 Rf QX Ry Re NT Rx Rc hd3,e=.returned (.tuple #[.agg #[.slice QZ Rz Rh,.slice QY n32 Rf,.slice QX Ry Re,.slice NT Rx Rc,I hd3],I nn,I e1])/\Kept V.heap.size K1 #[.slice QZ Rz Rh,.slice QY n32 Rf,.slice QX Ry Re,.slice NT Rx Rc,I hd3] w'/\Below V.heap.size V w'):=fun V hV=>by
  rw[Gl,hnn,ZZ];exact(KR.Ip k a sp V (hK.below (ek hV)) hF hsp).mono fun e w' h=>xJ h
 have HF4:Hid (∀V,Below WA.heap.size WA V->Calls Tryz.prog 42 #[.agg (aI a k),I sp] V fun e w'=>∃QW Rw Rb QV Ru Ra QU n43 Q9 QT Rt Q8 JQ,e=.returned (.tuple #[.agg #[.slice QW Rw Rb,.slice QV Ru Ra,.slice QU n43 Q9,.slice QT Rt Q8,I JQ],I e2])/\Kept V.heap.size K2 #[.slice QW Rw Rb,.slice QV Ru Ra,.slice QU n43 Q9,.slice QT Rt Q8,I JQ] w'/\Below V.heap.size V w'):=fun V hV=>by
  rw[hK2,he2];exact(KR.IG k a sp V (hK.below (ek hV)) hF hsp).mono fun e w' h=>xJ h
 obtain⟨k0,k1,k2,k3,k4⟩:=B.c5 (KB.o WA (Below.refl _ _));unfold aI at eZ HF1 D3 HF3 HF4 ⊢;clear hb0 kb di hbg hK hF ek uW Gl hnn ZZ hK2 he2 hff hdf hsp;go_enter Tryz.func9,Tryz.ntmps9;go_upto_region 1 with fail;rw[<- eZ.o];have HX0:Hid (Below WA.heap.size WA WA):=Below.refl _ _;go_upto_region 2 with(go_at_call 39;refine(HF1.o _ HX0.o).mono ?_;rintro e w1 ⟨Q7,n11,Rq,s12,RD,Rp,Q6,n13,Ro,Q5,n14,Rn,hd1,rfl,hk1,hb1⟩;have afB:=ai hk1;have bE:=ai hb1;clear hk1 hb1)
 have I5:=ai ((HX0.o.trans (bE.o.mono HX0.o.size)).alloc (HX0.o.trans (bE.o.mono HX0.o.size)).size (.cells #[.slice Q7 n11 Rq,.slice s12 RD Rp,.slice Q6 n13 Ro,.slice Q5 n14 Rn,I hd1] 27));have NB1:=ai (B.new w1 #[.slice Q7 n11 Rq,.slice s12 RD Rp,.slice Q6 n13 Ro,.slice Q5 n14 Rn,I hd1] 27);have HY1:Hid (Below w1.heap.size w1 (w1.alloc (.cells #[.slice Q7 n11 Rq,.slice s12 RD Rp,.slice Q6 n13 Ro,.slice Q5 n14 Rn,I hd1] 27))):=(Below.refl _ _).alloc (Nat.le_refl _) _;have QE:Hid (Below WA.heap.size WA (w1.alloc (.cells #[.slice Q7 n11 Rq,.slice s12 RD Rp,.slice Q6 n13 Ro,.slice Q5 n14 Rn,I hd1] 27))):=bE.o.alloc bE.o.size _;obtain⟨W1,hW1⟩:=ex (w1.alloc (.cells #[.slice Q7 n11 Rq,.slice s12 RD Rp,.slice Q6 n13 Ro,.slice Q5 n14 Rn,I hd1] 27));obtain⟨b1,aaf⟩:=ex w1.heap.size;rw[<- hW1] at I5 NB1 HY1 QE ⊢;rw[<- aaf] at NB1 ⊢;clear hW1 aaf;obtain⟨k0,k1,k2,k3,k4⟩:=B.c5 (KB.o _ I5.o);go_upto_region 3 with(go_at_call 40;refine(D3.o _ I5.o).mono ?_;rintro e w2 ⟨Q4,n21,Rm,Q3,n22,Rk,Jl,n23,Rj,Q0,RA,Ri,hd2,rfl,hk2,hb2⟩;have UJ:=ai hk2;have cM:=ai hb2;clear hk2 hb2)
 have Gm:=ai ((I5.o.trans (cM.o.mono I5.o.size)).alloc (I5.o.trans (cM.o.mono I5.o.size)).size (.cells #[.slice Q4 n21 Rm,.slice Q3 n22 Rk,.slice Jl n23 Rj,.slice Q0 RA Ri,I hd2] 27));have NB2:=ai (B.new w2 #[.slice Q4 n21 Rm,.slice Q3 n22 Rk,.slice Jl n23 Rj,.slice Q0 RA Ri,I hd2] 27);have Xk:Hid (Below w2.heap.size w2 (w2.alloc (.cells #[.slice Q4 n21 Rm,.slice Q3 n22 Rk,.slice Jl n23 Rj,.slice Q0 RA Ri,I hd2] 27))):=(Below.refl _ _).alloc (Nat.le_refl _) _;have Kc:Hid (Below W1.heap.size W1 (w2.alloc (.cells #[.slice Q4 n21 Rm,.slice Q3 n22 Rk,.slice Jl n23 Rj,.slice Q0 RA Ri,I hd2] 27))):=cM.o.alloc cM.o.size _;obtain⟨W2,hW2⟩:=ex (w2.alloc (.cells #[.slice Q4 n21 Rm,.slice Q3 n22 Rk,.slice Jl n23 Rj,.slice Q0 RA Ri,I hd2] 27));obtain⟨b2,aae⟩:=ex w2.heap.size;rw[<- hW2] at Gm NB2 Xk Kc ⊢;rw[<- aae] at NB2 ⊢;clear hW2 aae;obtain⟨k0,k1,k2,k3,k4⟩:=B.c5 (KB.o _ Gm.o);go_upto_region 4 with(go_at_call 41;refine(HF3.o _ Gm.o).mono ?_;rintro e w3 ⟨QZ,Rz,Rh,QY,n32,Rf,QX,Ry,Re,NT,Rx,Rc,hd3,rfl,hk3,hb3⟩;have afA:=ai hk3;have ed:=ai hb3;clear hk3 hb3)
 have xC:=ai ((Gm.o.trans (ed.o.mono Gm.o.size)).alloc (Gm.o.trans (ed.o.mono Gm.o.size)).size (.cells #[.slice QZ Rz Rh,.slice QY n32 Rf,.slice QX Ry Re,.slice NT Rx Rc,I hd3] 27));have NB3:=ai (B.new w3 #[.slice QZ Rz Rh,.slice QY n32 Rf,.slice QX Ry Re,.slice NT Rx Rc,I hd3] 27);have HY3:Hid (Below w3.heap.size w3 (w3.alloc (.cells #[.slice QZ Rz Rh,.slice QY n32 Rf,.slice QX Ry Re,.slice NT Rx Rc,I hd3] 27))):=(Below.refl _ _).alloc (Nat.le_refl _) _;have HU3:Hid (Below W2.heap.size W2 (w3.alloc (.cells #[.slice QZ Rz Rh,.slice QY n32 Rf,.slice QX Ry Re,.slice NT Rx Rc,I hd3] 27))):=ed.o.alloc ed.o.size _;obtain⟨W3,hW3⟩:=ex (w3.alloc (.cells #[.slice QZ Rz Rh,.slice QY n32 Rf,.slice QX Ry Re,.slice NT Rx Rc,I hd3] 27));obtain⟨b3,aad⟩:=ex w3.heap.size;rw[<- hW3] at xC NB3 HY3 HU3 ⊢;rw[<- aad] at NB3 ⊢;clear hW3 aad;obtain⟨k0,k1,k2,k3,k4⟩:=B.c5 (KB.o _ xC.o);go_upto_region 5 with(go_at_call 42;refine(HF4.o _ xC.o).mono ?_;rintro e w4 ⟨QW,Rw,Rb,QV,Ru,Ra,QU,n43,Q9,QT,Rt,Q8,JQ,rfl,hk4,hb4⟩;have afz:=ai hk4;have gw:=ai hb4;clear hk4 hb4)
 have HX4:=ai ((xC.o.trans (gw.o.mono xC.o.size)).alloc (xC.o.trans (gw.o.mono xC.o.size)).size (.cells #[.slice QW Rw Rb,.slice QV Ru Ra,.slice QU n43 Q9,.slice QT Rt Q8,I JQ] 27));have NB4:=ai (B.new w4 #[.slice QW Rw Rb,.slice QV Ru Ra,.slice QU n43 Q9,.slice QT Rt Q8,I JQ] 27);have HY4:Hid (Below w4.heap.size w4 (w4.alloc (.cells #[.slice QW Rw Rb,.slice QV Ru Ra,.slice QU n43 Q9,.slice QT Rt Q8,I JQ] 27))):=(Below.refl _ _).alloc (Nat.le_refl _) _;have HU4:Hid (Below W3.heap.size W3 (w4.alloc (.cells #[.slice QW Rw Rb,.slice QV Ru Ra,.slice QU n43 Q9,.slice QT Rt Q8,I JQ] 27))):=gw.o.alloc gw.o.size _;obtain⟨W4,PF⟩:=ex (w4.alloc (.cells #[.slice QW Rw Rb,.slice QV Ru Ra,.slice QU n43 Q9,.slice QT Rt Q8,I JQ] 27));obtain⟨b4,aac⟩:=ex w4.heap.size;rw[<- PF] at HX4 NB4 HY4 HU4 ⊢;rw[<- aac] at NB4 ⊢;clear PF aac;obtain⟨k0,k1,k2,k3,k4⟩:=B.c5 (KB.o _ HX4.o);have Ke:Hid (∀V,Below W4.heap.size W4 V->Below W3.heap.size W3 V):=fun V h=>HU4.o.trans (h.mono HU4.o.size)
 have VC:Hid (∀V,Below W4.heap.size W4 V->Below W2.heap.size W2 V):=fun V h=>HU3.o.trans ((Ke.o V h).mono HU3.o.size)
 have M7:Hid (∀V,Below W4.heap.size W4 V->Below W1.heap.size W1 V):=fun V h=>Kc.o.trans ((VC.o V h).mono Kc.o.size)
 have HSA:Hid (∀V,Below W4.heap.size W4 V->Calls Tryz.prog 20 #[.agg #[.slice Q7 n11 Rq,.slice s12 RD Rp,.slice Q6 n13 Ro,.slice Q5 n14 Rn,I hd1],.agg #[.slice QZ Rz Rh,.slice QY n32 Rf,.slice QX Ry Re,.slice NT Rx Rc,I hd3]] V fun e w'=>e=.returned (.bool true)/\Below V.heap.size V w'):=fun V hV=>BB afB.o afA.o HFF.o (Kp.bc (HY1.o.trans ((M7.o V hV).mono HY1.o.size))) (Kp.bc (HY3.o.trans ((Ke.o V hV).mono HY3.o.size)))
 have DW:Hid (∀V,Below W4.heap.size W4 V->Calls Tryz.prog 20 #[.agg #[.slice Q4 n21 Rm,.slice Q3 n22 Rk,.slice Jl n23 Rj,.slice Q0 RA Ri,I hd2],.agg #[.slice QW Rw Rb,.slice QV Ru Ra,.slice QU n43 Q9,.slice QT Rt Q8,I JQ]] V fun e w'=>e=.returned (.bool true)/\Below V.heap.size V w'):=fun V hV=>BB UJ.o afz.o QN.o (Kp.bc (Xk.o.trans ((VC.o V hV).mono Xk.o.size))) (Kp.bc (HY4.o.trans (hV.mono HY4.o.size)))
 have xU:Hid (∀V,Below W4.heap.size W4 V->V.heap[b1]?=some (.cells #[.slice Q7 n11 Rq,.slice s12 RD Rp,.slice Q6 n13 Ro,.slice Q5 n14 Rn,I hd1] 27 (0,0))):=fun V hV=>B.below NB1.o (M7.o V hV) (B.isLt NB1.o)
 have Dy:Hid (∀V,Below W4.heap.size W4 V->V.heap[b2]?=some (.cells #[.slice Q4 n21 Rm,.slice Q3 n22 Rk,.slice Jl n23 Rj,.slice Q0 RA Ri,I hd2] 27 (0,0))):=fun V hV=>B.below NB2.o (VC.o V hV) (B.isLt NB2.o)
 have HN3:Hid (∀V,Below W4.heap.size W4 V->V.heap[b3]?=some (.cells #[.slice QZ Rz Rh,.slice QY n32 Rf,.slice QX Ry Re,.slice NT Rx Rc,I hd3] 27 (0,0))):=fun V hV=>B.below NB3.o (Ke.o V hV) (B.isLt NB3.o)
 have HN4:Hid (∀V,Below W4.heap.size W4 V->V.heap[b4]?=some (.cells #[.slice QW Rw Rb,.slice QV Ru Ra,.slice QU n43 Q9,.slice QT Rt Q8,I JQ] 27 (0,0))):=fun V hV=>B.below NB4.o hV (B.isLt NB4.o)
 have F8:Hid (∀V,Below W4.heap.size W4 V->Below w.heap.size w V):=fun V hV=>bR.o.trans ((HX4.o.trans (hV.mono HX4.o.size)).mono bR.o.size)
 clear k0 k1 k2 k3 k4;go_wp2_with (first
  | (go_at_call 15;refine(HBG.o _).mono ?_;rintro e w6 ⟨rfl,uw⟩;have Gc:=ai uw;obtain⟨x0,x1,x2,x3,x4⟩:=B.c5 (xU.o _ uw);obtain⟨y0,y1,y2,y3,y4⟩:=B.c5 (HN3.o _ uw);clear uw)
  | (have _:=FIRST;go_at_call 20;refine(DW.o _ A6.o).mono ?_;rintro e w8 ⟨rfl,hb8⟩;have HB8:=ai (A6.o.trans (hb8.mono A6.o.size));clear hb8)
  | (go_at_call 20;refine(HSA.o _ Gc.o).mono ?_;rintro e w7 ⟨rfl,hb7⟩;have A6:=ai (Gc.o.trans (hb7.mono Gc.o.size));clear hb7;obtain⟨x0,x1,x2,x3,x4⟩:=B.c5 (Dy.o _ A6.o);obtain⟨y0,y1,y2,y3,y4⟩:=B.c5 (HN4.o _ A6.o);have FIRST:=trivial))
 go_ret;exact⟨rfl,F8.o _ HB8.o⟩
end KL
namespace LM
open Go.RowKit
def Hg (o:Ob) (L:List AM.Ar) (s:M.Sg):List AM.Ar:=(AW.o5 L (o.base+s.page) s.aJ (tE s)).1
def Vx (o:Ob) (L:List AM.Ar):Nat->List AM.Ar
 | 0=>L
 | k+1=>Hg o (Vx o L k) (M.dN o.i.dw k)
def RR (l:List Ob):Nat->List AM.Ar
 | 0=>[]
 | k+1=>Vx (eu l k) (RR l k) (eu l k).i.dw.length
def clr (a:AM.Ar):AM.Ar:=⟨a.page,a.aJ,a.bV,false⟩
def l7 (L:List AM.Ar):Nat->List AM.Ar
 | 0=>L
 | k+1=>(l7 L k).set k (clr (AM.at_ (l7 L k) k))
def oa (l:List Ob):List AM.Ar:=(RR l l.length).map clr
theorem J0 (o:Ob) (L:List AM.Ar) (h:AW.ft L):∀k,AW.ft (Vx o L k)
 | 0=>h
 | k+1=>AW.TP _ _ _ _
theorem Dj (l:List Ob):∀k,AW.ft (RR l k)
 | 0=>AW.JZ
 | k+1=>J0 _ _ (Dj l k) _
theorem mj (L:List AM.Ar):∀k,(l7 L k).length=L.length
 | 0=>rfl
 | k+1=>by simp only[l7,List.length_set,mj L k]
theorem Cm (L:List AM.Ar):∀k,k<=L.length->∀j,(l7 L k)[j]?=if j<k then L[j]?.map clr else L[j]?
 | 0,_,j=>by simp[l7]
 | k+1,hk,j=>by
  have ih:=Cm L k (by omega);have hl:=mj L k;have e:AM.at_ (l7 L k) k=AM.at_ L k:=by
   unfold AM.at_;rw[List.getD_eq_getElem?_getD,List.getD_eq_getElem?_getD,ih k,if_neg (Nat.lt_irrefl _)]
  simp only[l7];rw[e,List.getElem?_set];by_cases hjk:k=j
  · subst hjk;rw[if_pos rfl,if_pos (by omega),if_pos (by omega)];unfold AM.at_;rw[List.getD_eq_getElem?_getD,List.getElem?_eq_getElem (by omega)];rfl
  · rw[if_neg hjk,ih j];by_cases h1:j<k
    · rw[if_pos h1,if_pos (by omega)]
    · rw[if_neg h1,if_neg (by omega)]
theorem Mq (L:List AM.Ar):l7 L L.length=L.map clr:=by
 apply List.ext_getElem?;intro j;rw[Cm L _ (Nat.le_refl _) j,List.getElem?_map];by_cases h:j<L.length
 · rw[if_pos h]
 · rw[if_neg h,List.getElem?_eq_none (by omega)];rfl
theorem gX (b:Bool):∀(L:List AM.Ar) (k:Nat),k<L.length->(AM.bk L).set (k*4+3) (.bool b)=AM.bk (L.set k ⟨(AM.at_ L k).page,(AM.at_ L k).aJ,(AM.at_ L k).bV,b⟩)
 | [],k,h=>by simp at h
 | a::r,0,h=>rfl
 | a::r,k+1,h=>by
  have ih:=gX b r k (by simpa using h);show(AM.four a++AM.bk r).set _ _=AM.four a++AM.bk (r.set k _);rw[List.set_append_right _ _ (by simp[AM.four];omega)];congr 1;have e:(k+1)*4+3-(AM.four a).length=k*4+3:=by simp[AM.four];omega
  rw[e,ih];rfl
def bU (x:Li):List Value:=(M.fK x.a x.i).toList
def il (all:List Li):Int :=
 if 7<all.length then 2
 else if mX all=0 then
  match YB all all.length 0 [0] with
  | none=>6
  | some ix=>if 256<fY all 1 ix then 3 else
   match ma (cT all 1 ix) with
   | none=>7
   | some _=>0
 else mX all
theorem IM {l:List Li} (h:mX l=0):(∀k,k<l.length->M.kq (cO l k).i=0)/\M.qg (gh l)=true:=by
 unfold mX at h;by_cases e:lZ l l.length=0
 · rw[if_pos e] at h;refine⟨zB l l.length e,?_⟩;by_cases g:M.qg (gh l)=true
   · exact g
   · rw[if_neg g] at h;cases h
 · rw[if_neg e] at h;exact(e h).elim
theorem Og {all:List Li} (hc:∀j,j<all.length->M.kq (cO all j).i=0) (h7:all.length<=7) {ix:List Nat} (ho:Uq all ix) (k:Nat) (hk:k<(cT all 1 ix).length):1<=(eu (cT all 1 ix) k).base/\(eu (cT all 1 ix) k).base<=2000:=by
 rw[eU] at hk;rw[(mJ all ix 1 k hk).2.2];have h:=qu all hc (ix.take k) 1 (fun j hj=>ho.lt j (List.mem_of_mem_take hj));have h2:=ho.le;rw[List.length_take] at h;omega
end LM
namespace KG
open Go.RowKit
def LP:ByteArray:=⟨#[12,0,0,0,0,0,0,0]⟩
theorem LO:(⟨12,0,0,0,0⟩:PM.M0).bytes=LP:=by kernel_rfl
def aaM:ByteArray:=⟨#[97,98,99]⟩
def p1:ByteArray:=⟨#[12,0,0,0,0,0,0,0,0,0,0,0,0,0,0,0]⟩
def p2:ByteArray:=⟨#[97,98,99,0,0,0,0,0,0,0,0,0,0,0,0,0]⟩
def p3:ByteArray:=⟨#[0,0,0,0,0,0,0,0,0,0,0,0,0,0,0,0]⟩
def uq:M.Im:=⟨⟨#[116]⟩,[],[⟨0,1,LP,false,true⟩,⟨1,2,aaM,true,false⟩],[],[],0⟩
theorem NC:M.Fit uq:=by
 refine⟨by unfold M.bD uq;decide,by unfold M.bD uq;decide,fun k hk=>absurd hk (by unfold uq;simp),by unfold M.bD uq;decide,fun k hk=>?_,by unfold M.bD uq;decide,fun k hk=>absurd hk (by unfold uq;simp),by unfold M.bD uq;decide,fun k hk=>absurd hk (by unfold uq;simp),by unfold M.gu uq;decide⟩;have:k=0∨k=1:=by unfold uq at hk;simp at hk;omega
 rcases this with rfl | rfl
 · exact⟨by unfold M.gu uq M.dN;decide,by unfold M.gu uq M.dN;decide,by unfold M.bD;show(8:Nat)<=_;decide⟩
 · exact⟨by unfold M.gu uq M.dN;decide,by unfold M.gu uq M.dN;decide,by unfold M.bD;show(3:Nat)<=_;decide⟩
theorem VV (a:M.At):LM.il [⟨uq,a⟩]=0:=by kernel_rfl
theorem NB (a:M.At):LM.YB [⟨uq,a⟩] [(⟨uq,a⟩:LM.Li)].length 0 [0]=some [0]:=by kernel_rfl
theorem VT (a:M.At):LM.cT [⟨uq,a⟩] 1 [0]=[⟨uq,a,1⟩]:=by kernel_rfl
def Yo:List LM.Sp:=[⟨1,p1,[]⟩,⟨2,p2,[]⟩,⟨3,p3,[]⟩]
theorem Kz (a:M.At):LM.ma [⟨uq,a,1⟩]=some Yo:=by kernel_rfl
def Gz:List AM.Ar:=[⟨1,1,2,false⟩,⟨2,2,1,false⟩]
theorem NG (a:M.At):LM.oa [⟨uq,a,1⟩]=Gz:=by kernel_rfl
theorem ND (a:M.At):LM.wV (LM.eu [⟨uq,a,1⟩] 0) (LM.cO [⟨uq,a⟩] 0).i.entry=16:=by kernel_rfl
def pI (a1 a2 a3:Option Addr) (c1 c2 c3:Nat):List LM.Sh:=[⟨1,p1,[],a1,c1⟩,⟨2,p2,[],a2,c2⟩,⟨3,p3,[],a3,c3⟩]
theorem U3 {hs:List LM.Sh} (h:hs.map LM.plain=Yo):∃a1 a2 a3 c1 c2 c3,hs=pI a1 a2 a3 c1 c2 c3:=by
 match hs,h with
 | [⟨g1,d1,f1,a1,c1⟩,⟨g2,d2,f2,a2,c2⟩,⟨g3,d3,f3,a3,c3⟩],h =>
  simp only[List.map_cons,List.map_nil,LM.plain,Yo,List.cons.injEq,LM.Sp.mk.injEq,and_true] at h;obtain⟨⟨rfl,rfl,rfl⟩,⟨rfl,rfl,rfl⟩,rfl,rfl,rfl⟩:=h;exact⟨a1,a2,a3,c1,c2,c3,rfl⟩
 | [],h=>cases congrArg List.length h
 | [_],h=>cases congrArg List.length h
 | [_,_],h=>cases congrArg List.length h
 | _::_::_::_::_,h =>
  have:=congrArg List.length h;simp[Yo] at this
theorem SD:AW.ft Gz:=AM.gU _ (by kernel_rfl)
theorem SC (a1 a2 a3:Option Addr) (c1 c2 c3:Nat):LM.pH (pI a1 a2 a3 c1 c2 c3):=x9 (by kernel_rfl) (by show(3:Nat)<=255;decide)
def wxD:ByteArray:=⟨#[119,120,121,122]⟩
def qD:ByteArray:=⟨#[113]⟩
def abD:ByteArray:=⟨#[97,98]⟩
def Yp:ByteArray:=⟨#[113,98,99,0,0,0,0,0,0,0,0,0,0,0,119,120]⟩
def JH (H:List LM.Sh):KM.Kn:=⟨H,[⟨⟨#[]⟩,0,false,false⟩,⟨⟨#[]⟩,0,false,false⟩,⟨⟨#[]⟩,0,false,false⟩],[⟨⟨#[]⟩,0⟩,⟨⟨#[]⟩,0⟩,⟨⟨#[]⟩,0⟩,⟨⟨#[]⟩,0⟩,⟨⟨#[]⟩,0⟩,⟨⟨#[]⟩,0⟩,⟨⟨#[]⟩,0⟩,⟨⟨#[]⟩,0⟩],[⟨true,Gz,[]⟩],0⟩
def JG (H:List LM.Sh):KM.Kn:=⟨H,[⟨⟨#[97,98,99,0,0,0,0,0,0,0,0,0,0,0,119,120]⟩,1,true,true⟩,⟨⟨#[121,122,0,0,0,0,0,0,0,0,0,0,0,0,0,0]⟩,1,true,true⟩,⟨⟨#[]⟩,0,false,false⟩],[⟨⟨#[]⟩,0⟩,⟨⟨#[]⟩,0⟩,⟨⟨#[]⟩,0⟩,⟨⟨#[]⟩,0⟩,⟨⟨#[]⟩,0⟩,⟨⟨#[]⟩,0⟩,⟨⟨#[]⟩,0⟩,⟨⟨#[]⟩,0⟩],[⟨true,Gz,[⟨2,1,0⟩,⟨3,1,1⟩]⟩],0⟩
def MQ (H:List LM.Sh):KM.Kn:=⟨H,[⟨⟨#[97,98,99,0,0,0,0,0,0,0,0,0,0,0,119,120]⟩,2,true,true⟩,⟨⟨#[121,122,0,0,0,0,0,0,0,0,0,0,0,0,0,0]⟩,2,true,true⟩,⟨⟨#[]⟩,0,false,false⟩],[⟨⟨#[]⟩,0⟩,⟨⟨#[]⟩,0⟩,⟨⟨#[]⟩,0⟩,⟨⟨#[]⟩,0⟩,⟨⟨#[]⟩,0⟩,⟨⟨#[]⟩,0⟩,⟨⟨#[]⟩,0⟩,⟨⟨#[]⟩,0⟩],[⟨true,Gz,[⟨2,1,0⟩,⟨3,1,1⟩]⟩,⟨true,Gz,[⟨2,1,0⟩,⟨3,1,1⟩]⟩],0⟩
def JF (H:List LM.Sh):KM.Kn:=⟨H,[⟨⟨#[97,98,99,0,0,0,0,0,0,0,0,0,0,0,119,120]⟩,1,true,true⟩,⟨⟨#[121,122,0,0,0,0,0,0,0,0,0,0,0,0,0,0]⟩,2,true,true⟩,⟨⟨#[113,98,99,0,0,0,0,0,0,0,0,0,0,0,119,120]⟩,1,true,true⟩],[⟨⟨#[]⟩,0⟩,⟨⟨#[]⟩,0⟩,⟨⟨#[]⟩,0⟩,⟨⟨#[]⟩,0⟩,⟨⟨#[]⟩,0⟩,⟨⟨#[]⟩,0⟩,⟨⟨#[]⟩,0⟩,⟨⟨#[]⟩,0⟩],[⟨true,Gz,[⟨2,1,0⟩,⟨3,1,1⟩]⟩,⟨true,Gz,[⟨2,1,2⟩,⟨3,1,1⟩]⟩],0⟩
theorem LK (a1 a2 a3:Option Addr) (c1 c2 c3:Nat):KM.dR (JH (pI a1 a2 a3 c1 c2 c3))=0:=by kernel_rfl
theorem LJ (a1 a2 a3:Option Addr) (c1 c2 c3:Nat):KM.aQ (JH (pI a1 a2 a3 c1 c2 c3)):=(KM.kR _).1 (LK a1 a2 a3 c1 c2 c3)
theorem Tk (a1 a2 a3:Option Addr) (c1 c2 c3:Nat):KW.eB (JH (pI a1 a2 a3 c1 c2 c3)):=oL (LJ a1 a2 a3 c1 c2 c3)
theorem LI (a1 a2 a3:Option Addr) (c1 c2 c3:Nat):KM.dR (JG (pI a1 a2 a3 c1 c2 c3))=0:=by kernel_rfl
theorem LH (a1 a2 a3:Option Addr) (c1 c2 c3:Nat):KM.aQ (JG (pI a1 a2 a3 c1 c2 c3)):=(KM.kR _).1 (LI a1 a2 a3 c1 c2 c3)
theorem Tj (a1 a2 a3:Option Addr) (c1 c2 c3:Nat):KW.eB (JG (pI a1 a2 a3 c1 c2 c3)):=oL (LH a1 a2 a3 c1 c2 c3)
theorem LF (a1 a2 a3:Option Addr) (c1 c2 c3:Nat):KM.dR (MQ (pI a1 a2 a3 c1 c2 c3))=0:=by kernel_rfl
theorem LC (a1 a2 a3:Option Addr) (c1 c2 c3:Nat):KM.aQ (MQ (pI a1 a2 a3 c1 c2 c3)):=(KM.kR _).1 (LF a1 a2 a3 c1 c2 c3)
theorem Ti (a1 a2 a3:Option Addr) (c1 c2 c3:Nat):KW.eB (MQ (pI a1 a2 a3 c1 c2 c3)):=oL (LC a1 a2 a3 c1 c2 c3)
theorem LB (a1 a2 a3:Option Addr) (c1 c2 c3:Nat):KM.dR (JF (pI a1 a2 a3 c1 c2 c3))=0:=by kernel_rfl
theorem LA (a1 a2 a3:Option Addr) (c1 c2 c3:Nat):KM.aQ (JF (pI a1 a2 a3 c1 c2 c3)):=(KM.kR _).1 (LB a1 a2 a3 c1 c2 c3)
theorem JE (a1 a2 a3:Option Addr) (c1 c2 c3:Nat):KW.eB (JF (pI a1 a2 a3 c1 c2 c3)):=oL (LA a1 a2 a3 c1 c2 c3)
theorem LG (a1 a2 a3:Option Addr) (c1 c2 c3:Nat):KZ.kE (JH (pI a1 a2 a3 c1 c2 c3)) 0 46 wxD=(JG (pI a1 a2 a3 c1 c2 c3),(0,0),0):=by kernel_rfl
theorem Lz (a1 a2 a3:Option Addr) (c1 c2 c3:Nat):KZ.kE (MQ (pI a1 a2 a3 c1 c2 c3)) 1 32 qD=(JF (pI a1 a2 a3 c1 c2 c3),(0,0),0):=by kernel_rfl
theorem OP (a1 a2 a3:Option Addr) (c1 c2 c3:Nat):(KZ.oH (JF (pI a1 a2 a3 c1 c2 c3)) 0 32 2 0).2=(abD,(0,0),0):=by kernel_rfl
theorem OO (a1 a2 a3:Option Addr) (c1 c2 c3:Nat):KW.qc (JF (pI a1 a2 a3 c1 c2 c3)) 1 2=(Yp,0):=by kernel_rfl
end KG
namespace PW
open Go.RowKit
theorem ai {p:Prop} (h:p):Hid p:=h
theorem LR (i:PM.M0) (w:World):Calls Tryz.prog 94 #[.agg i.cells] w fun e w'=>e=.returned (.string i.bytes)/\Below w.heap.size w w':=by
 obtain⟨o,a,b,c,m⟩:=i;unfold PM.M0.cells PM.M0.bytes;simp only;have bR:=ai ((Below.refl w.heap.size w).alloc (Nat.le_refl _) (.cells #[I o,I a,I b,I c,I m] 143));have BX:=ai (B.new w #[I o,I a,I b,I c,I m] 143);obtain⟨W,hW⟩:=ex (w.alloc (.cells #[I o,I a,I b,I c,I m] 143));have HW:=ai hW;rw[<- hW] at bR BX;have j3:=Q.dE W;have pN:=B.isLt BX.o;have k0:∀x:Q.ez W.heap.size W,x.world.cell? (Ad w.heap.size 0)=some (I o):=fun x=>by rw[Q.cV x _ _ pN];exact B.cell BX.o 0 rfl
 have k1:∀x:Q.ez W.heap.size W,x.world.cell? (Ad w.heap.size 1)=some (I a):=fun x=>by rw[Q.cV x _ _ pN];exact B.cell BX.o 1 rfl
 have k2:∀x:Q.ez W.heap.size W,x.world.cell? (Ad w.heap.size 2)=some (I b):=fun x=>by rw[Q.cV x _ _ pN];exact B.cell BX.o 2 rfl
 have k3:∀x:Q.ez W.heap.size W,x.world.cell? (Ad w.heap.size 3)=some (I c):=fun x=>by rw[Q.cV x _ _ pN];exact B.cell BX.o 3 rfl
 have k4:∀x:Q.ez W.heap.size W,x.world.cell? (Ad w.heap.size 4)=some (I m):=fun x=>by rw[Q.cV x _ _ pN];exact B.cell BX.o 4 rfl
 have HA:Hid (∀n V,Calls Tryz.prog 138 #[I n,I 1] V fun e w'=>e=.returned (.string (PM.le 1 n))/\Below V.heap.size V w'):=fun n U=>CW.Co n 1 U (by omega)
 have HM:Hid (∀V,Calls Tryz.prog 138 #[I m,I 4] V fun e w'=>e=.returned (.string (PM.le 4 m))/\Below V.heap.size V w'):=fun U=>CW.Co m 4 U (by omega)
 have s1:=PM.le_size 1 o;have s2:=PM.le_size 1 a;have s3:=PM.le_size 1 b;have s4:=PM.le_size 1 c;have s5:=PM.le_size 4 m;have t1:(PM.le 1 o++PM.le 1 a).size=2:=by rw[ByteArray.size_append,s1,s2]
 have t2:(PM.le 1 o++PM.le 1 a++PM.le 1 b).size=3:=by rw[ByteArray.size_append,t1,s3]
 have t3:(PM.le 1 o++PM.le 1 a++PM.le 1 b++PM.le 1 c).size=4:=by rw[ByteArray.size_append,t2,s4]
 clear hW;go_enter Tryz.func94,Tryz.ntmps94;go_wp2;rw[<- HW.o];refine Q.bu (by kernel_rfl) (by kernel_rfl) ?_
 repeat (first | go_big_quiet_step ((go_at_call 138;first | with_reducible exact Q.bM (HA.o _) _ | with_reducible exact Q.bM HM.o _)) | quiet_step ((go_at_call 138;first | with_reducible exact Q.bM (HA.o _) _ | with_reducible exact Q.bM HM.o _)))
 refine wpQuiet_nil ?_;intro _ hw';obtain⟨x,hw''⟩:=hw';subst hw'';go_wp2;go_ret;exact⟨rfl,bR.o.trans (x.keeps.mono bR.o.size)⟩
end PW
namespace W
open Go.RowKit
theorem YW (nm:ByteArray) (an ag ay ar:Option Addr) (cn gl cg cy cr:Nat) (en:Int) (w:World):Calls Tryz.prog 181 #[.agg #[.string nm,.slice an 0 cn,.slice ag gl cg,.slice ay 0 cy,.slice ar 0 cr,I en]] w fun e w'=>e=.returned (.bool true)/\Below w.heap.size w w':=by
 have HB:=ai ((Below.refl w.heap.size w).alloc (Nat.le_refl _) (.cells #[.string nm,.slice an 0 cn,.slice ag gl cg,.slice ay 0 cy,.slice ar 0 cr,I en] 151));go_enter Tryz.func181,Tryz.ntmps181;go_wp2;go_loopw [10] (fun iv wr=>iv=I 0/\Below w.heap.size w wr) (fun _ _=>0)
 case atStart=>exact⟨rfl,HB.o⟩
 case round =>
  obtain⟨rfl,hb⟩:=hrel;have cM:=ai hb;clear hb;go_wp2;go_ret;exact⟨rfl,cM.o⟩
theorem Y1 (nm:ByteArray) (an ag ay ar:Option Addr) (cn gl cg cy cr:Nat) (en:Int) (w:World):Calls Tryz.prog 182 #[.agg #[.string nm,.slice an 0 cn,.slice ag gl cg,.slice ay 0 cy,.slice ar 0 cr,I en]] w fun e w'=>e=.returned (.bool true)/\Below w.heap.size w w':=by
 have HB:=ai ((Below.refl w.heap.size w).alloc (Nat.le_refl _) (.cells #[.string nm,.slice an 0 cn,.slice ag gl cg,.slice ay 0 cy,.slice ar 0 cr,I en] 151));go_enter Tryz.func182,Tryz.ntmps182;go_wp2;go_loopw [11] (fun iv wr=>iv=I 0/\Below w.heap.size w wr) (fun _ _=>0)
 case atStart=>exact⟨rfl,HB.o⟩
 case round =>
  obtain⟨rfl,hb⟩:=hrel;have cM:=ai hb;clear hb;go_wp2;go_ret;exact⟨rfl,cM.o⟩
theorem KD (ay:Option Addr) (cy:Nat) (w:World):Calls Tryz.prog 180 #[.slice ay 0 cy] w fun e w'=>e=.returned Nl/\Below w.heap.size w w':=by
 go_enter Tryz.func180,Tryz.ntmps180;go_wp2;go_loopw [3,8] (fun sv iv wr=>sv=Nl/\iv=I 0/\Below w.heap.size w wr) (fun _ _ _=>0)
 case atStart=>exact⟨rfl,rfl,Below.refl _ _⟩
 case round =>
  obtain⟨rfl,rfl,hb⟩:=hrel;have cM:=ai hb;clear hb;go_wp2;go_ret;exact⟨rfl,cM.o⟩
theorem Wh (nm:ByteArray) (an ag ay ar:Option Addr) (cn gl cg cy cr:Nat) (en:Int) (w:World) (hn:∀V,Calls Tryz.prog 198 #[.string nm] V fun e w'=>e=.returned (.bool true)/\Below V.heap.size V w'):Calls Tryz.prog 175 #[.agg #[.string nm,.slice an 0 cn,.slice ag gl cg,.slice ay 0 cy,.slice ar 0 cr,I en]] w fun e w'=>e=.returned (.bool true)/\Below w.heap.size w w':=by
 have HN:=ai hn;clear hn;have HB:=ai ((Below.refl w.heap.size w).alloc (Nat.le_refl _) (.cells #[.string nm,.slice an 0 cn,.slice ag gl cg,.slice ay 0 cy,.slice ar 0 cr,I en] 151));have X0:=ai (B.new w #[.string nm,.slice an 0 cn,.slice ag gl cg,.slice ay 0 cy,.slice ar 0 cr,I en] 151);go_enter Tryz.func175,Tryz.ntmps175;go_wp2_with (go_at_call 198;refine(HN.o _).mono ?_;rintro e w1 ⟨rfl,hb1⟩;have bE:=ai (HB.o.trans (hb1.mono HB.o.size));have X1:=ai (B.below X0.o hb1 (B.isLt X0.o));have x1:w1.cell? (Ad w.heap.size 1)=some (.slice an 0 cn):=B.cell X1.o 1 rfl;clear hb1)
 go_loopw [16] (fun iv wr=>iv=I 0/\wr.heap[w.heap.size]?=some (.cells #[.string nm,.slice an 0 cn,.slice ag gl cg,.slice ay 0 cy,.slice ar 0 cr,I en] 151 (0,0))/\Below w.heap.size w wr) (fun _ _=>0)
 case atStart=>exact⟨rfl,X1.o,bE.o⟩
 case round =>
  obtain⟨rfl,hx,hb⟩:=hrel;have HX:=ai hx;have cM:=ai hb;have y3:wr.cell? (Ad w.heap.size 3)=some (.slice ay 0 cy):=B.cell hx 3 rfl;clear hb hx bE X1 x1;go_wp2;clear y3;go_loopw [27] (fun iv wi=>iv=I 0/\wi.heap[w.heap.size]?=some (.cells #[.string nm,.slice an 0 cn,.slice ag gl cg,.slice ay 0 cy,.slice ar 0 cr,I en] 151 (0,0))/\Below w.heap.size w wi) (fun _ _=>0)
  case atStart=>exact⟨rfl,HX.o,cM.o⟩
  case round =>
   clear HX cM;obtain⟨rfl,hx,hb⟩:=hrel;have HX:=ai hx;have ed:=ai hb;have y4:wr.cell? (Ad w.heap.size 4)=some (.slice ar 0 cr):=B.cell hx 4 rfl;clear hb hx;go_wp2;clear y4;go_loopw [39] (fun iv wi=>iv=I 0/\Below w.heap.size w wi) (fun _ _=>0)
   case atStart=>exact⟨rfl,ed.o⟩
   case round =>
    obtain⟨rfl,hb⟩:=hrel;have gw:=ai hb;clear hb;go_wp2;go_ret;exact⟨rfl,gw.o⟩
theorem Xe (nm:ByteArray) (gs:List M.Sg) (en:Int) (an ag ay ar:Option Addr) (cn cg cy cr:Nat) (w:World) (h:M.nX w ⟨an,cn,ag,cg,ay,cy,ar,cr⟩ ⟨nm,[],gs,[],[],en⟩) (hf:M.Fit ⟨nm,[],gs,[],[],en⟩) (h1:M.pB nm=true) (h2:M.qY ⟨nm,[],gs,[],[],en⟩=true) (h3:gs.all M.fZ=true) (h4:M.vg gs=true) (h5:M.u6 ⟨nm,[],gs,[],[],en⟩=true) :
  Calls Tryz.prog 158 #[.agg #[.string nm,.slice an 0 cn,.slice ag gs.length cg,.slice ay 0 cy,.slice ar 0 cr,I en]] w fun e w'=>e=.returned (I 0)/\Below w.heap.size w w':=by
 have ry:Hid (∀V,Calls Tryz.prog 198 #[.string nm] V fun e w'=>e=.returned (.bool true)/\Below V.heap.size V w'):=fun V=>(Hq nm V hf.name).mono fun e w' ⟨e1,e2⟩=>⟨by rw[e1,h1],by rw[<- e2];exact Below.refl _ _⟩
 have RZ:=ai (fun V=>Wh nm an ag ay ar cn gs.length cg cy cr en V ry.o);have Sd:Hid (∀V,Calls Tryz.prog 176 #[.agg #[.string nm,.slice an 0 cn,.slice ag gs.length cg,.slice ay 0 cy,.slice ar 0 cr,I en]] V fun e w'=>e=.returned (.bool true)/\Below V.heap.size V w'):=fun V=>(xm ⟨nm,[],gs,[],[],en⟩ ⟨an,cn,ag,cg,ay,cy,ar,cr⟩ V hf).mono fun e w' ⟨e1,e2⟩=>⟨by rw[e1,h2],e2⟩
 have HRG:Hid (∀V,Below w.heap.size w V->Calls Tryz.prog 177 #[.slice ag gs.length cg] V fun e w'=>e=.returned (.bool true)/\Below V.heap.size V w'):=fun V hV=>(xj gs ag cg V (h.below hV).dw hf.dw hf.seg).mono fun e w' ⟨e1,e2⟩=>⟨by rw[e1,h3],e2⟩
 have XD:Hid (∀V,Below w.heap.size w V->Calls Tryz.prog 178 #[.slice ag gs.length cg] V fun e w'=>e=.returned (.bool false)/\Below V.heap.size V w'):=fun V hV=>(EI gs ag cg V (h.below hV).dw hf.dw h3).mono fun e w' ⟨e1,e2⟩=>⟨by rw[e1,h4];rfl,e2⟩
 have HTW:Hid (∀ao c V,Calls Tryz.prog 179 #[.slice ao 0 c] V fun e w'=>e=.returned (.bool false)/\Below V.heap.size V w'):=fun ao c V=>(Ks [] ao c V (fun h=>absurd h (Nat.not_lt_zero _)) (Nat.zero_le _) (fun k hk=>absurd hk (Nat.not_lt_zero _))).mono fun e w' ⟨e1,e2⟩=>⟨by rw[e1];rfl,e2⟩
 have vq:=ai (fun V=>KD ay cy V);have VD:=ai (fun V=>YW nm an ag ay ar cn gs.length cg cy cr en V);have DX:=ai (fun V=>Y1 nm an ag ay ar cn gs.length cg cy cr en V);have iy:Hid (∀V,Below w.heap.size w V->Calls Tryz.prog 183 #[.agg #[.string nm,.slice an 0 cn,.slice ag gs.length cg,.slice ay 0 cy,.slice ar 0 cr,I en]] V fun e w'=>e=.returned (.bool true)/\Below V.heap.size V w'):=fun V hV=>(xz ⟨nm,[],gs,[],[],en⟩ ⟨an,cn,ag,cg,ay,cy,ar,cr⟩ V (h.below hV) hf h3).mono fun e w' ⟨e1,e2⟩=>⟨by rw[e1,h5],e2⟩
 obtain⟨gl,hgl⟩:=ex gs.length;rw[<- hgl] at RZ Sd HRG XD VD DX iy ⊢;clear h hf h1 h2 h3 h4 h5 hgl ry;have HB:=ai ((Below.refl w.heap.size w).alloc (Nat.le_refl _) (.cells #[.string nm,.slice an 0 cn,.slice ag gl cg,.slice ay 0 cy,.slice ar 0 cr,I en] 151));have X:=ai (B.new w #[.string nm,.slice an 0 cn,.slice ag gl cg,.slice ay 0 cy,.slice ar 0 cr,I en] 151);go_enter Tryz.func158,Tryz.ntmps158;go_wp2_with (first
  | (go_at_call 175;refine(RZ.o _).mono ?_;rintro e w1 ⟨rfl,hb⟩;have bE:=ai (HB.o.trans (hb.mono HB.o.size));have X1:=ai (B.below X.o hb (B.isLt X.o));clear hb;have k10:w1.cell? (Ad w.heap.size 0)=some (.string nm):=B.cell X1.o 0 rfl;have k11:w1.cell? (Ad w.heap.size 1)=some (.slice an 0 cn):=B.cell X1.o 1 rfl;have k12:w1.cell? (Ad w.heap.size 2)=some (.slice ag gl cg):=B.cell X1.o 2 rfl;have k13:w1.cell? (Ad w.heap.size 3)=some (.slice ay 0 cy):=B.cell X1.o 3 rfl;have k14:w1.cell? (Ad w.heap.size 4)=some (.slice ar 0 cr):=B.cell X1.o 4 rfl;have k15:w1.cell? (Ad w.heap.size 5)=some (I en):=B.cell X1.o 5 rfl)
  | (go_at_call 176;refine(Sd.o _).mono ?_;rintro e w2 ⟨rfl,hb⟩;have cM:=ai (bE.o.trans (hb.mono bE.o.size));have X2:=ai (B.below X1.o hb (B.isLt X1.o));clear hb;have k22:w2.cell? (Ad w.heap.size 2)=some (.slice ag gl cg):=B.cell X2.o 2 rfl)
  | (go_at_call 177;refine(HRG.o _ cM.o).mono ?_;rintro e w3 ⟨rfl,hb⟩;have ed:=ai (cM.o.trans (hb.mono cM.o.size));have X3:=ai (B.below X2.o hb (B.isLt X2.o));clear hb;have k32:w3.cell? (Ad w.heap.size 2)=some (.slice ag gl cg):=B.cell X3.o 2 rfl)
  | (go_at_call 178;refine(XD.o _ ed.o).mono ?_;rintro e w4 ⟨rfl,hb⟩;have gw:=ai (ed.o.trans (hb.mono ed.o.size));have X4:=ai (B.below X3.o hb (B.isLt X3.o));clear hb;have k41:w4.cell? (Ad w.heap.size 1)=some (.slice an 0 cn):=B.cell X4.o 1 rfl)
  | (have _:=X6;go_at_call 179;refine(HTW.o _ _ _).mono ?_;rintro e w7 ⟨rfl,hb⟩;have A6:=ai (Gc.o.trans (hb.mono Gc.o.size));have X7:=ai (B.below X6.o hb (B.isLt X6.o));clear hb;have k70:w7.cell? (Ad w.heap.size 0)=some (.string nm):=B.cell X7.o 0 rfl;have k71:w7.cell? (Ad w.heap.size 1)=some (.slice an 0 cn):=B.cell X7.o 1 rfl;have k72:w7.cell? (Ad w.heap.size 2)=some (.slice ag gl cg):=B.cell X7.o 2 rfl;have k73:w7.cell? (Ad w.heap.size 3)=some (.slice ay 0 cy):=B.cell X7.o 3 rfl;have k74:w7.cell? (Ad w.heap.size 4)=some (.slice ar 0 cr):=B.cell X7.o 4 rfl;have k75:w7.cell? (Ad w.heap.size 5)=some (I en):=B.cell X7.o 5 rfl)
  | (go_at_call 179;refine(HTW.o _ _ _).mono ?_;rintro e w5 ⟨rfl,hb⟩;have pM:=ai (gw.o.trans (hb.mono gw.o.size));have X5:=ai (B.below X4.o hb (B.isLt X4.o));clear hb;have k53:w5.cell? (Ad w.heap.size 3)=some (.slice ay 0 cy):=B.cell X5.o 3 rfl)
  | (go_at_call 180;refine(vq.o _).mono ?_;rintro e w6 ⟨rfl,hb⟩;have Gc:=ai (pM.o.trans (hb.mono pM.o.size));have X6:=ai (B.below X5.o hb (B.isLt X5.o));clear hb)
  | (go_at_call 181;refine(VD.o _).mono ?_;rintro e w8 ⟨rfl,hb⟩;have HB8:=ai (A6.o.trans (hb.mono A6.o.size));have X8:=ai (B.below X7.o hb (B.isLt X7.o));clear hb;have k80:w8.cell? (Ad w.heap.size 0)=some (.string nm):=B.cell X8.o 0 rfl;have k81:w8.cell? (Ad w.heap.size 1)=some (.slice an 0 cn):=B.cell X8.o 1 rfl;have k82:w8.cell? (Ad w.heap.size 2)=some (.slice ag gl cg):=B.cell X8.o 2 rfl;have k83:w8.cell? (Ad w.heap.size 3)=some (.slice ay 0 cy):=B.cell X8.o 3 rfl;have k84:w8.cell? (Ad w.heap.size 4)=some (.slice ar 0 cr):=B.cell X8.o 4 rfl;have k85:w8.cell? (Ad w.heap.size 5)=some (I en):=B.cell X8.o 5 rfl)
  | (go_at_call 182;refine(DX.o _).mono ?_;rintro e w9 ⟨rfl,hb⟩;have HB9:=ai (HB8.o.trans (hb.mono HB8.o.size));have X9:=ai (B.below X8.o hb (B.isLt X8.o));clear hb;have k90:w9.cell? (Ad w.heap.size 0)=some (.string nm):=B.cell X9.o 0 rfl;have k91:w9.cell? (Ad w.heap.size 1)=some (.slice an 0 cn):=B.cell X9.o 1 rfl;have k92:w9.cell? (Ad w.heap.size 2)=some (.slice ag gl cg):=B.cell X9.o 2 rfl;have k93:w9.cell? (Ad w.heap.size 3)=some (.slice ay 0 cy):=B.cell X9.o 3 rfl;have k94:w9.cell? (Ad w.heap.size 4)=some (.slice ar 0 cr):=B.cell X9.o 4 rfl;have k95:w9.cell? (Ad w.heap.size 5)=some (I en):=B.cell X9.o 5 rfl)
  | (go_at_call 183;refine(iy.o _ HB9.o).mono ?_;rintro e w10 ⟨rfl,hb⟩;have agm:=ai (HB9.o.trans (hb.mono HB9.o.size));have X10:=ai (B.below X9.o hb (B.isLt X9.o));clear hb))
 go_ret;exact⟨rfl,agm.o⟩
end W
namespace LW
open Go.RowKit
open W (ai)
def Cr (R:Option (List LM.Pt)) (w:World) (e:Ending) (w':World):Prop:=Below w.heap.size w w'/\match R with
 | none=>e=.returned (.tuple #[Nl,.bool false])
 | some ps=>∃v,e=.returned (.tuple #[v,.bool true])/\w'.ownsRow w.heap.size 259 2 v ps.length (ps.flatMap LM.J3)
theorem y8:(Tryz.prog.info? 50).map (fun i=>(i.zero,i.size,i.bytes))=some (some (.agg #[I 0,.string ⟨#[]⟩,Nl]),3,48):=by kernel_rfl
structure Rs (lo:Nat) (w:World) (v:Value) (hs:List LM.Sh):Prop where
 row:w.ownsRow lo 50 3 v hs.length (hs.flatMap LM.FC)
 fix:LM.abM v.ownBlock w hs
theorem Rs.below {lo:Nat} {w w':World} {v:Value} {hs:List LM.Sh} (h:Rs lo w v hs) (hb:Below w.heap.size w w'):Rs lo w' v hs:=⟨uK h.row hb,fun k hk=>(h.fix k hk).below hb⟩
theorem Rs.nil (lo:Nat) (w:World):Rs lo w Nl []:=⟨World.ownsRow_nil _ _ _ _,fun k hk=>by simp at hk⟩
theorem Rs.has {lo:Nat} {w:World} {v:Value} {hs:List LM.Sh} (h:Rs lo w v hs):∃ao cap,v=.slice ao hs.length cap/\LM.jb w ao hs/\hs.length<=cap:=by
 have hr:=h.row;rcases hr.2 with⟨hv,h0⟩ | ⟨g,cap,cur,hv,hbg,hg,hnc,hcm,hcs,htake⟩
 · exact⟨none,0,by rw[hv,h0],fun hl=>by omega,by omega⟩
 · rw[hv] at hr;refine⟨some (Ad g 0),cap,hv,fun _=>⟨g,0,rfl,B.isLt hg,fun k hk=>?_⟩,hnc⟩;rw[Nat.zero_add];have hh:∀j,j<3->w.cell? (Ad g (k*3+j))=(LM.FC (LM.aY hs k))[j]?:=fun j hj=>(hr.cellAt _ (by omega)).trans (flat_get LM.FC 3 (fun _=>rfl) LM.MP hs k j hk hj)
   exact⟨hh 0 (by omega),hh 1 (by omega),hh 2 (by omega),(h.fix k hk).has⟩
theorem V5 {w:World} {base:Nat} {v:Value} {l:List LM.Fx} (h:w.ownsRow base 52 2 v l.length (l.flatMap LM.Cn)) (rb:Option Nat) (Gg:∀q,rb=some q->q<base):∃ao cap,v=.slice ao l.length cap/\LM.qA rb w ao l:=by
 rcases h.2 with⟨hv,h0⟩ | ⟨g,cap,cur,hv,hbg,hg,hnc,hcm,hcs,htake⟩
 · exact⟨none,0,by rw[hv,h0],fun hl=>by omega⟩
 · subst hv;refine⟨some (Ad g 0),cap,rfl,fun hl=>⟨g,0,rfl,B.isLt hg,fun e=>by have:=Gg g e.symm;omega,fun k hk=>?_⟩⟩;rw[Nat.zero_add];have hh:∀j,j<2->w.cell? (Ad g (k*2+j))=(LM.Cn (LM.mi l k))[j]?:=fun j hj=>(h.cellAt _ (by omega)).trans (flat_get LM.Cn 2 (fun _=>rfl) LM.fx0 l k j hk hj)
   exact⟨hh 0 (by omega),hh 1 (by omega)⟩
theorem Rs.more {lo:Nat} {w w':World} {v:Value} {hs:List LM.Sh} {x:LM.Sh} {g cap:Nat} (h:LM.abM v.ownBlock w hs) (hx:LM.qA v.ownBlock w x.ao x.bg) (hown:w'.ownsRow lo 50 3 (.slice (some (Ad g 0)) (hs.length+1) cap) (hs.length+1) (hs.flatMap LM.FC++LM.FC x)) (hg:w.grownBy w' v.ownBlock) (hs':w.heap.size<=w'.heap.size) (hat:v.ownBlock=some g∨g=w.heap.size) :
  Rs lo w' (.slice (some (Ad g 0)) (hs.length+1) cap) (hs++[x]):=by
 refine⟨by rw[List.length_append,List.flatMap_append];simpa using hown,fun k hk=>?_⟩;have e:(Value.slice (some (Ad g 0)) (hs.length+1) cap).ownBlock=some g:=rfl;rw[e];rw[List.length_append] at hk;by_cases hkl:k<hs.length
 · rw[LM.KV hs x k hkl];exact(h k hkl).grown hg hs' hat
 · obtain rfl:k=hs.length:=by simp at hk;omega
   rw[LM.K0];exact hx.grown hg hs' hat
def J9 (R:Option (List LM.Sp)) (w:World) (e:Ending) (w':World):Prop:=Below w.heap.size w w'/\match R with
 | none=>e=.returned (.tuple #[Nl,.bool false])
 | some E=>∃(hs:List LM.Sh) (ao:Option Addr) (cap:Nat),hs.map LM.plain=E/\e=.returned (.tuple #[.slice ao hs.length cap,.bool true])/\LM.jb w' ao hs/\hs.length<=cap
structure Fr (w:World) (r:Option Nat) (w':World) (r':Option Nat):Prop where
 size:w.heap.size<=w'.heap.size
 block:∀b,b<w.heap.size->some b≠r->w'.heap[b]?=w.heap[b]?
 row:r'=r∨∃g,r'=some g/\w.heap.size<=g
theorem Fr.refl (w:World) (r:Option Nat):Fr w r w r:=⟨Nat.le_refl _,fun _ _ _=>rfl,.inl rfl⟩
theorem Fr.trans {w w1 w2:World} {r r1 r2:Option Nat} (h:Fr w r w1 r1) (g:Fr w1 r1 w2 r2):Fr w r w2 r2:=by
 have hs:=h.size;refine⟨Nat.le_trans h.size g.size,fun b hb hr=>?_,?_⟩
 · rw[g.block b (by omega) (fun e=>?_),h.block b hb hr];rcases h.row with e1 | ⟨x,e1,e2⟩
   · exact hr (by rw[e,e1])
   · rw[e1] at e;injection e with e;omega
 · rcases g.row with e | ⟨x,e1,e2⟩
   · rw[e];exact h.row
   · exact .inr ⟨x,e1,by omega⟩
theorem Fr.bc {w w':World} (h:Below w.heap.size w w') (r:Option Nat):Fr w r w' r:=⟨h.size,fun b hb _=>h.block b hb,.inl rfl⟩
theorem Fr.SX {w w':World} {r:Option Nat} {g:Nat} (h:w.grownBy w' r) (hs:w.heap.size<=w'.heap.size) (hat:r=some g∨g=w.heap.size):Fr w r w' (some g) :=
 ⟨hs,fun b hb hr=>h.block b hb hr,by
  rcases hat with e | e
  · exact .inl e.symm
  · exact .inr ⟨g,rfl,by omega⟩⟩
theorem Fr.keep {w w':World} {r r':Option Nat} {b:Nat} {o:Obj} (h:Fr w r w' r') (hb:w.heap[b]?=some o) (hr:some b≠r):w'.heap[b]?=some o:=(h.block b (B.isLt hb) hr).trans hb
def QB (rb:Option Nat) (w:World) (ao:Option Addr) (l:List LM.Pt):Prop:=0<l.length->∃b off,ao=some (Ad b off)/\b<w.heap.size/\some b≠rb/\LM.Qy w b off l
theorem QB.fr {rb rb':Option Nat} {w w':World} {ao:Option Addr} {l:List LM.Pt} (h:QB rb w ao l) (hf:Fr w rb w' rb'):LM.QC w' ao l:=fun hl=>by
 obtain⟨b,off,h1,h2,h3,h4⟩:=h hl;exact⟨b,off,h1,Nat.lt_of_lt_of_le h2 hf.size,fun i hi=>by
  obtain⟨c0,c1⟩:=h4 i hi;exact⟨(World.cell?_of_block (hf.block b h2 h3)).trans c0,(World.cell?_of_block (hf.block b h2 h3)).trans c1⟩⟩
theorem SJ {w:World} {base:Nat} {v:Value} {l:List LM.Pt} (h:w.ownsRow base 259 2 v l.length (l.flatMap LM.J3)) (rb:Option Nat) (Gg:∀q,rb=some q->q<base):∃ao cap,v=.slice ao l.length cap/\QB rb w ao l:=by
 rcases h.2 with⟨hv,h0⟩ | ⟨g,cap,cur,hv,hbg,hg,hnc,hcm,hcs,htake⟩
 · exact⟨none,0,by rw[hv,h0],fun hl=>by omega⟩
 · subst hv;refine⟨some (Ad g 0),cap,rfl,fun hl=>⟨g,0,rfl,B.isLt hg,fun e=>by have:=Gg g e.symm;omega,fun k hk=>?_⟩⟩;rw[Nat.zero_add];have hh:∀j,j<2->w.cell? (Ad g (k*2+j))=(LM.J3 (LM.Ay l k))[j]?:=fun j hj=>(h.cellAt _ (by omega)).trans (flat_get LM.J3 2 (fun _=>rfl) LM.pt0 l k j hk hj)
   exact⟨hh 0 (by omega),hh 1 (by omega)⟩
end LW
end Go.Proofs.YtpgifpeohlllfaaGreat
