import Derived.Test.YtpgifpeohlllfaaGreatGP00
import Derived.Test.YtpgifpeohlllfaaGreatGP23
import Derived.Deep.RegionHeld3
import Derived.Test.YtpgifpeohlllfaaGreatGP20
import Derived.Test.YtpgifpeohlllfaaGreatGP09
set_option maxHeartbeats 20000000
set_option linter.unusedVariables false
set_option maxRecDepth 100000
set_option linter.unusedSimpArgs false
namespace Go.Proofs.YtpgifpeohlllfaaGreat
namespace KX
open Go.RowKit GK KO
open FW (ai aC)
open KW (bE bD aI aU fe cO aH dH bQ dG)
open KS (Lc bO oD dm blk cT)
theorem RR {lo mb:Nat} {tt:TypeId} {X:List Value} {U:World} {S:St} {k:KM.Kn} (h:Km lo mb tt X U.drew S k):Km lo mb tt X U S k:=h.kp (E:=fun _=>False) ⟨rfl,rfl,rfl,Nat.le_refl _,fun _ _ _=>rfl⟩ (fun _ _ g=>g)
theorem Jy {S S':St} {w U:World} (h:Ch S w S' U.drew):Ch S w S' U:=⟨⟨h.kp.os,h.kp.tape,h.kp.output,h.kp.size,h.kp.block⟩,h.no,h.eS,h.eF,h.eL,h.eP⟩
theorem Aj {lo mb:Nat} {tt:TypeId} {X:List Value} (k:KM.Kn) (S:St) (w:World) (j:Nat) (p:Int) (held:List Int) (ah:Option Addr) (ch:Nat) (h:Km lo mb tt X w S k) (hR:KM.aQ k) (hj:j<k.aj.length) (he:KM.aT (KM.aq k.aj j).au p=none) (hp:KM.mapped k j p) (hX:tN X k.ak) (hl:held.length<=2) (hH:Held w S ah held) :
  Calls Tryz.prog 141 #[.pointer (some (Ad mb 0)),I (j:Int),I p,.slice ah held.length ch] w (fH lo mb tt X w S (I ((KM.bR k j p held).1:Int)) (KM.bR k j p held).2):=by
 have fX:=ai (Bb k S w j p h hR hj)
 have e1:dG (KM.aq k.aj j).au p=(KM.jz,false):=by unfold KW.dG;rw[he]
 rw[e1] at fX
 have G:=KM.mA hR hl
 have hP:KM.bR k j p held=((KM.bM k held).1,KM.cJ (KM.bM k held).2 j p (KM.bM k held).1 (KM.dh (KM.bM k held).2.ak p (KM.zeroAt (KM.bM k held).2 j p)) false):=by
  unfold KM.bR
  rw[he]
 have hent:KM.aT (KM.aq (KM.bM k held).2.aj j).au p=none:=by rw[G.tH j hj p (fun x hx=>by rw[he] at hx;cases hx),he]
 have hmv:KM.cJ (KM.bM k held).2 j p (KM.bM k held).1 (KM.dh (KM.bM k held).2.ak p (KM.zeroAt (KM.bM k held).2 j p)) false=KM.dJ (KM.iF (KM.bM k held).2 (KM.bM k held).1 (KM.dh (KM.bM k held).2.ak p (KM.zeroAt (KM.bM k held).2 j p)) false) j ⟨p,1,(KM.bM k held).1⟩:=by
  unfold KM.cJ
  rw[hent]
 rw[hP,hmv]
 have u6:=KM.iY hp
 have hsh:=G.kept.ak
 have Mj:AW.eH (KM.aq (KM.bM k held).2.aj j).aA:=by
  have:=(G.right.sp (by rw[G.kept.np];exact hj)).aA
  exact AM.gu _ this
 have hcc:=hR.c
 have zn:j<(KM.bM k held).2.aj.length:=by rw[G.kept.np];exact hj
 have hi1:(KM.bM k held).1<(KM.bM k held).2.frames.length:=by rw[G.kept.nf];exact G.lt
 have E7:=iI G.right zn
 have Mc:=G.kept.np
 have T3:Hid (∀V,Below w.heap.size w V->Calls Tryz.prog 165 #[.pointer (some (Ad mb 0)),.slice ah held.length ch] V (fH lo mb tt X V S (I ((KM.bM k held).1:Int)) (KM.bM k held).2)):=fun V hV=>A5 k S V held ah ch (h.below hV) hR hl (hH.ch (Ch.below hV))
 obtain⟨k1,hk1⟩:=ex ((KM.bM k held).2)
 obtain⟨i,hi⟩:=ex ((KM.bM k held).1)
 rw[<- hk1,<- hi] at T3 hi1
 rw[<- hk1] at zn E7 Mc hsh Mj
 rw[<- hk1,<- hi]
 obtain⟨D,hD⟩:=ex (KM.dh k1.ak p (KM.zeroAt k1 j p))
 rw[<- hD]
 have vr:Hid (∀V S',Km lo mb tt X V S' k1->∃fb cF pb cP va,¬mb=fb/\V.cell? (Ad mb 1)=some (.slice (some (Ad fb 0)) k1.frames.length cF)/\V.cell? (Ad mb 3)=some (.slice (some (Ad pb 0)) k1.aj.length cP)/\V.cell? (Ad pb (j*3+1))=some va/\(∃ax nx cx,va=.slice ax nx cx)/\(∀V',Below V.heap.size V V'->Calls Tryz.prog 70 #[va,I p] V' fun e w'=>e=.returned (.tuple #[.agg (AW.cellsOf (AM.aK (KM.aq k1.aj j).aA p).1),.bool (AM.aK (KM.aq k1.aj j).aA p).2])/\Below V'.heap.size V' w')/\(∀V',Below V.heap.size V V'->Calls Tryz.prog 119 #[.pointer (some (Ad mb 0)),I p,.bool (AM.aK (KM.aq k1.aj j).aA p).1.zero] V' fun e w'=>e=.returned (.string D)/\Below V'.heap.size V' w')/\V.cell? (Ad fb (i*4))=some (.string (KM.aD k1.frames i).data)/\V.cell? (Ad fb (i*4+1))=some (I (KM.aD k1.frames i).refs)/\V.cell? (Ad fb (i*4+2))=some (.bool (KM.aD k1.frames i).bW)/\V.cell? (Ad fb (i*4+3))=some (.bool (KM.aD k1.frames i).seen)/\V.frozen? (Ad fb (i*4))=false/\V.frozen? (Ad fb (i*4+1))=false/\V.frozen? (Ad fb (i*4+2))=false/\V.frozen? (Ad fb (i*4+3))=false /\
   (∀U,U=((((V.setCell (Ad fb (i*4)) (.string D)).setCell (Ad fb (i*4+1)) (I 1)).setCell (Ad fb (i*4+2)) (.bool false)).setCell (Ad fb (i*4+3)) (.bool false)).drew->Km lo mb tt X U S' (KM.iF k1 i D false)/\Ch S' V S' U)):=fun V S' hV=>by
  obtain⟨fb,cF,A⟩:=hV.toKr.fr (by omega)
  obtain⟨pb,cP,AL⟩:=hV.toKr.sp (by omega)
  have c1:=hV.c1
  have c2:=hV.c3
  rw[A.v] at c1
  rw[AL.v] at c2
  refine⟨fb,cF,pb,cP,(dm S'.L j).va,fun e=>by have:=A.lab;rw[<- e,hV.lH] at this;simp at this,c1,c2,AL.x1 j zn,?_,fun V' hb=>AW.oY _ _ p V' (AW.Has.below (hV.toKr.aA zn) hb) Mj,fun V' hb=>?_,A.x0 i hi1,A.x1 i hi1,A.x2 i hi1,A.x3 i hi1,A.fz _,A.fz _,A.fz _,A.fz _,fun U hU=>?_⟩
  · obtain⟨ax,cx,rU,_,_⟩:=aR (hV.each j zn).aA
    exact⟨_,_,_,rU⟩
  · rw[hD,hsh]
    have hm':=hV.below hb
    exact KW.oZ k.ak p _ mb V' (fun n hn=>hm'.cx n (hX n hn)) (by omega)
  have m:=hV.LP A.v hi1 ⟨D,1,false,false⟩
  subst hU
  exact⟨m.1.below (Below.refl _ _).drew,m.2.trans (Ch.below (Below.refl _ _).drew)⟩
 have N8:Hid (∀V S',Km lo mb tt X V S' (KM.iF k1 i D false)->Calls Tryz.prog 166 #[.pointer (some (Ad mb 0)),I (j:Int),.agg #[I p,I 1,I (i:Int)]] V (fH lo mb tt X V S' (.tuple #[]) (KM.dJ (KM.iF k1 i D false) j ⟨p,1,i⟩))):=fun V S' hV=>by
  have hsp:(KM.iF k1 i D false).aj=k1.aj:=rfl
  exact tG _ S' V j ⟨p,1,i⟩ hV (by rw[hsp];exact zn) (by rw[hsp];omega) (by rw[hsp];omega)
 have bh:Hid (∀V S',Km lo mb tt X V S' (KM.dJ (KM.iF k1 i D false) j ⟨p,1,i⟩)->Ch S w S' V->fH lo mb tt X w S (I (i:Int)) (KM.dJ (KM.iF k1 i D false) j ⟨p,1,i⟩) (.returned (I (i:Int))) V):=fun V S' h1 h2=>⟨rfl,S',h1,h2⟩
 obtain⟨K3,hK3⟩:=ex (KM.dJ (KM.iF k1 i D false) j ⟨p,1,i⟩)
 rw[<- hK3] at N8 bh ⊢
 obtain⟨K1,Mx⟩:=ex (KM.iF k1 i D false)
 rw[<- Mx] at vr N8
 obtain⟨P,G1⟩:=ex (fH lo mb tt X w S (I (i:Int)) K3)
 rw[<- G1] at bh ⊢
 have gP:Hid (∀V:World,w.heap.size<=V.heap.size->S.lab V.heap.size=.no):=fun V hV=>h.toKr.new hV
 obtain⟨FR,zt⟩:=ex (KM.aD k1.frames i)
 rw[<- zt] at vr
 obtain⟨nf,lJ⟩:=ex k1.frames.length
 obtain⟨np,rV⟩:=ex k1.aj.length
 rw[<- lJ,<- rV] at vr
 have AU:(j:Int)<(np:Int):=by omega
 have J0:(i:Int)<(nf:Int):=by omega
 obtain⟨AR,hAR⟩:=ex (AM.aK (KM.aq k1.aj j).aA p)
 rw[<- hAR] at vr
 obtain⟨⟨q0,q1,q2,q3⟩,q4⟩:=AR
 unfold dH at fX
 unfold AW.cellsOf at vr
 simp only[KM.jz] at fX vr
 clear hP G1 e1 he h hR hj G hent hmv hcc zn hi1 E7 Mc hk1 hi hD hK3 Mx hH hl zt lJ rV hAR hX hsh Mj
 go_enter Tryz.func141,Tryz.ntmps141
 go_upto_region 8 with(first
  | (go_at_call 118;refine fX.o.mono ?_;rintro r w1 ⟨rfl,hb1⟩;have aZ:=ai hb1;have cj:=ai (aZ.o.alloc aZ.o.size (.cells #[I 0,I 0,I 0] 45));have BX:=ai (B.new w1 #[I 0,I 0,I 0] 45);obtain⟨d0,d1,d2⟩:=B.c3 BX.o;clear hb1)
  | (go_at_call 165;refine(T3.o _ cj.o).mono ?_;rintro r w2 ⟨rfl,S2,hk2,hc2⟩;have jh:=ai hk2;have kv:=ai ((Ch.below cj.o).trans hc2);clear hk2 hc2 d0 d1 d2))
 obtain⟨fb,cF,pb,cP,va,Uc,g1,g2,g3,⟨ax,nx,cx,rU⟩,Q6,Q7,g4,g5,g6,g7,g8,g9,g10,g11,hfin⟩:=vr.o w2 S2 jh.o
 subst rU
 have su:=ai (Q6 w2 (Below.refl _ _))
 have QD:=ai Q7
 have xS:=ai (fun V (hb:Below w2.heap.size w2 V)=>vr.o V S2 (jh.o.below hb))
 have GQ:=World.block_lt_of_cell? w2 _ g4
 have mU:=World.block_lt_of_cell? w2 _ g1
 have GQ:fb<w2.heap.size:=GQ
 have mU:mb<w2.heap.size:=mU
 clear Q6 Q7 g4 g5 g6 g7 g8 g9 g10 g11 hfin
 have Xe:Hid (∀V,Below w2.heap.size w2 V->V.cell? (Ad fb (i*4))=some (.string FR.data)/\V.cell? (Ad fb (i*4+1))=some (I FR.refs)/\V.cell? (Ad fb (i*4+2))=some (.bool FR.bW)/\V.cell? (Ad fb (i*4+3))=some (.bool FR.seen)/\V.frozen? (Ad fb (i*4))=false/\V.frozen? (Ad fb (i*4+1))=false/\V.frozen? (Ad fb (i*4+2))=false/\V.frozen? (Ad fb (i*4+3))=false/\(∀U,U=((((V.setCell (Ad fb (i*4)) (.string D)).setCell (Ad fb (i*4+1)) (I 1)).setCell (Ad fb (i*4+2)) (.bool false)).setCell (Ad fb (i*4+3)) (.bool false))->Km lo mb tt X U S2 K1/\Ch S w S2 U)):=fun V hb=>by
  obtain⟨Tj,Ye,OD,Yd,va',_,z1,_,_,_,_,_,z4,z5,z6,z7,z8,z9,YM,YL,YJ⟩:=xS.o V hb
  have e:Tj=fb:=by
   rw[(hb.cell (p:=(Ad mb 1)) mU).trans g1] at z1
   injection z1 with z1
   injection z1 with e1 _ _
   injection e1 with e1
   injection e1 with e1 _ _
   exact e1.symm
  subst e
  refine⟨z4,z5,z6,z7,z8,z9,YM,YL,fun U hU=>?_⟩
  obtain⟨q1,q2⟩:=YJ U.drew (by rw[hU])
  have dr:Below U.heap.size U U.drew:=(Below.refl _ _).drew
  exact⟨RR q1,(kv.o.trans (Ch.below hb)).trans (Jy q2)⟩
 clear xS vr
 go_upto_region 9 with(go_at_call 70;refine su.o.mono ?_;rintro r w3 ⟨rfl,hb3⟩;have dC:=ai hb3;clear hb3)
 have Gf:=ai (dC.o.alloc dC.o.size (.cells #[I q0,I q1,I q2,.bool q3] 47))
 have AX:=ai (B.new w3 #[I q0,I q1,I q2,.bool q3] 47)
 have ZA:=dC.o.size
 obtain⟨W,hW⟩:=ex (w3.alloc (.cells #[I q0,I q1,I q2,.bool q3] 47))
 obtain⟨xb,Br⟩:=ex w3.heap.size
 rw[<- hW] at Gf AX ⊢
 rw[<- Br] at AX ⊢
 have XG:¬xb=fb:=by omega
 clear hW Br
 have HS:Hid (∀V,Below W.heap.size W V->V.cell? (Ad mb 1)=some (.slice (some (Ad fb 0)) nf cF)/\V.cell? (Ad xb 3)=some (.bool q3)):=fun V hb=>⟨((Gf.o.trans (hb.mono Gf.o.size)).cell (p:=(Ad mb 1)) mU).trans g1,B.cell (B.below AX.o hb (B.isLt AX.o)) 3 rfl⟩
 have iz:=ai (Below.refl W.heap.size W).drew
 have gL:=ai (HS.o _ iz.o)
 have Gc:Hid (∀V,Below W.heap.size W V->Calls Tryz.prog 119 #[.pointer (some (Ad mb 0)),I p,.bool q3] V fun e w'=>e=.returned (.string D)/\Below V.heap.size V w'):=fun V hb=>QD.o V (Gf.o.trans (hb.mono Gf.o.size))
 have Rq:Hid (∀V:World,(V.cell? (Ad mb 1)=some (.slice (some (Ad fb 0)) nf cF)/\V.cell? (Ad xb 3)=some (.bool q3))->∀v0 v1 v2 v3,((((V.setCell (Ad fb (i*4)) v0).setCell (Ad fb (i*4+1)) v1).setCell (Ad fb (i*4+2)) v2).setCell (Ad fb (i*4+3)) v3).cell? (Ad mb 1)=some (.slice (some (Ad fb 0)) nf cF)/\((((V.setCell (Ad fb (i*4)) v0).setCell (Ad fb (i*4+1)) v1).setCell (Ad fb (i*4+2)) v2).setCell (Ad fb (i*4+3)) v3).cell? (Ad xb 3)=some (.bool q3)):=fun V ⟨h0,h1⟩ v0 v1 v2 v3=>by
  rw[bZ _ _ _ _ _ _ Uc,bZ _ _ _ _ _ _ Uc,bZ _ _ _ _ _ _ Uc,bZ _ _ _ _ _ _ Uc,bZ _ _ _ _ _ _ XG,bZ _ _ _ _ _ _ XG,bZ _ _ _ _ _ _ XG,bZ _ _ _ _ _ _ XG]
  exact⟨h0,h1⟩
 go_region_held3 (fun V=>V.cell? (Ad mb 1)=some (.slice (some (Ad fb 0)) nf cF)/\V.cell? (Ad xb 3)=some (.bool q3)) (first | exact jF.o | exact gL.o | exact TF.o _ _ _ _)
  ((go_at_call 119;refine(Gc.o _ iz.o).mono ?_;rintro r w5 ⟨rfl,rW⟩;have NA:=ai (iz.o.trans (rW.mono iz.o.size));have jF:=ai (HS.o _ NA.o);have TF:=ai (fun v0 v1 v2 v3=>Rq.o w5 jF.o v0 v1 v2 v3);have Wu:=ai (Xe.o w5 (Gf.o.trans (NA.o.mono Gf.o.size)));obtain⟨z4,z5,z6,z7,z8,z9,YM,YL⟩:w5.cell? (Ad fb (i*4))=some (.string FR.data)/\w5.cell? (Ad fb (i*4+1))=some (I FR.refs)/\w5.cell? (Ad fb (i*4+2))=some (.bool FR.bW)/\w5.cell? (Ad fb (i*4+3))=some (.bool FR.seen)/\w5.frozen? (Ad fb (i*4))=false/\w5.frozen? (Ad fb (i*4+1))=false/\w5.frozen? (Ad fb (i*4+2))=false/\w5.frozen? (Ad fb (i*4+3))=false:=(by obtain⟨a1,a2,a3,a4,a5,a6,a7,a8,_⟩:=Wu.o;exact⟨a1,a2,a3,a4,a5,a6,a7,a8⟩);clear rW))
 all_goals clear TF Rq HS gL jF QD Gc
 obtain⟨U,hU⟩:=ex (((((w5.setCell (Ad fb (i*4)) (.string D)).setCell (Ad fb (i*4+1)) (I 1)).setCell (Ad fb (i*4+2)) (.bool false)).setCell (Ad fb (i*4+3)) (.bool false)))
 obtain⟨_,_,_,_,_,_,_,_,zf⟩:=Wu.o
 obtain⟨hk6,hc6⟩:=zf U hU
 have W7:=ai hk6
 have HC6:=ai hc6
 rw[<- hU]
 clear hU hk6 hc6 zf Wu z4 z5 z6 z7 z8 z9 YM YL Xe
 go_wp2_with (go_at_call 166;refine(N8.o _ _ W7.o).mono ?_;rintro r w7 ⟨rfl,S7,hk7,hc7⟩;have Uo:=ai hk7;have HC7:=ai (HC6.o.trans hc7);clear hk7 hc7)
 exact bh.o _ _ Uo.o HC7.o
end KX
namespace KB
open Go.RowKit
theorem Jz {s t:ByteArray} (h:∀i:Nat,s.data.toList[i]?=t.data.toList[i]?):s=t:=by
 apply ByteArray.ext
 exact Array.toList_inj.1 (List.ext_getElem? h)
end KB
namespace KM
open Go.RowKit
theorem kU {k:Kn} (h:aQ k) {j j0:Nat} (hj:j<k.aj.length) (C3:j0<k.aj.length) {p q:Int} {a b:Nat} (h1:aT (aq k.aj j).au p=some ⟨p,1,a⟩) (h2:aT (aq k.aj j0).au q=some ⟨q,1,b⟩) (JY:q≠p):a≠b:=fun e=>by
 subst e
 have m1:=fw hj (ik h1)
 have m2:=fw C3 (ik h2)
 have hb:=fE h hj (ik h1)
 have hlt:a<k.frames.length:=by
  rcases hb with b | b
  · have:=b.2.2;simpa using this
  · have:=b.1;simp at this
 have:=(h.mO a hlt).one _ m1 _ m2
 injection this with e _
 exact JY e.symm
theorem vC {k:Kn} (h:aQ k) {j0:Nat} (C3:j0<k.aj.length) {q:Int} {b:Nat} (h2:aT (aq k.aj j0).au q=some ⟨q,1,b⟩):b<k.frames.length/\(aD k.frames b).refs≠0:=by
 have m2:=fw C3 (ik h2)
 have hb:=fE h C3 (ik h2)
 have hlt:b<k.frames.length:=by
  rcases hb with b | b
  · have:=b.2.2;simpa using this
  · have:=b.1;simp at this
 refine⟨hlt,fun z=>?_⟩
 have:=(h.mO b hlt).nil z
 rw[this] at m2
 cases m2
theorem Al {k:Kn} (h:aQ k) {j:Nat} (hj:j<k.aj.length) {p:Int} (hp:mapped k j p) {held:List Int} (hl:held.length<=2) {j0:Nat} (C3:j0<k.aj.length) {q:Int} {b:Nat} (h2:aT (aq k.aj j0).au q=some ⟨q,1,b⟩) (hin:(b:Int)∈held) (JY:q≠p):aD (bR k j p held).2.frames b=aD k.frames b:=by
 have hsp:=h.sp hj
 have G:=mA h hl
 have hH:=G.xj b hin (vC h C3 h2).2
 unfold bR
 cases g:aT (aq k.aj j).au p with
 | none =>
  dsimp only
  have hent:aT (aq (bM k held).2.aj j).au p=none:=by rw[G.tH j hj p (fun e he=>by rw[g] at he;cases he),g]
  have hj':j<(bM k held).2.aj.length:=by rw[G.kept.np];exact hj
  have m:j6 (bM k held).2 j p (bM k held).1 (dh (bM k held).2.ak p (zeroAt (bM k held).2 j p)) false:=⟨G.right,hj',G.mapped hj hp,by rw[G.kept.nf];exact G.lt,G.free,tE G.right hj' (G.mapped hj hp),fun _=>rfl⟩
  rw[(gV _ _ _ _ _ _ m).2.2.2.2.2.1 b,if_neg hH.1,hent]
  exact hH.2
 | some e =>
  have he:=(di hsp.dU).1 g
  dsimp only
  by_cases c:e.kind=1
  · rw[if_pos c]
  · rw[if_neg c]
    have hb:=(fE h hj he.1).resolve_left (fun y=>c y.1)
    have hent:aT (aq (bM k held).2.aj j).au p=some e:=by rw[G.tH j hj p (fun x hx=>by rw[g] at hx;injection hx with hx;subst hx;exact fun y=>c y.1),g]
    have hj':j<(bM k held).2.aj.length:=by rw[G.kept.np];exact hj
    have he':=(di (G.right.sp hj').dU).1 hent
    have hsz:(bk (bM k held).2.slots e.loc.toNat).data.size=16:=(G.right.slt e.loc.toNat (by rw[G.kept.ns];exact hb.2.2)).size (fun z=>by
     have:=fw hj' he'.1
     rw[hb.1,<- hb.2.1,z] at this
     cases this)
    have m:j6 (bM k held).2 j p (bM k held).1 (bk (bM k held).2.slots e.loc.toNat).data true:=⟨G.right,hj',G.mapped hj hp,by rw[G.kept.nf];exact G.lt,G.free,hsz,fun y=>by cases y⟩
    rw[(gV _ _ _ _ _ _ m).2.2.2.2.2.1 b,if_neg hH.1,hent]
    show(if e.kind=1/\e.loc=(b:Int) then _ else _)=_
    rw[if_neg (fun x=>c x.1)]
    exact hH.2
theorem FO {k:Kn} (h:aQ k) {j:Nat} (hj:j<k.aj.length) {p:Int} (hp:mapped k j p) {a:Nat} (ha:aT (aq k.aj j).au p=some ⟨p,1,a⟩) {held:List Int} (hl:held.length<=1) {j0:Nat} (C3:j0<k.aj.length) {q:Int} {b:Nat} (h2:aT (aq k.aj j0).au q=some ⟨q,1,b⟩) (hin:(b:Int)∈held) (JY:q≠p):aD (gB k j p a held).2.frames b=aD k.frames b:=by
 have hab:=kU h hj C3 ha h2 JY
 have hat:=(vC h hj ha).1
 unfold gB
 by_cases c:(aD k.frames a).refs=1
 · rw[if_pos c]
 · rw[if_neg c]
   have G:=mA h (held:=held++[(a:Int)]) (by rw[List.length_append,List.length_singleton];omega)
   have hH:=G.xj b (List.mem_append.2 (.inl hin)) (vC h C3 h2).2
   obtain⟨g,hg⟩:=ex (bM k (held++[(a:Int)]))
   rw[<- hg] at G hH ⊢
   have hent:aT (aq g.2.aj j).au p=some ⟨p,1,a⟩:=G.stay h hj ha (fun _=>List.mem_append.2 (.inr (by simp)))
   have hj':j<g.2.aj.length:=by rw[G.kept.np];exact hj
   have he':=(di (G.right.sp hj').dU).1 hent
   have hsz:(aD g.2.frames a).data.size=16:=(G.right.mO a (by rw[G.kept.nf];exact hat)).size (fun z=>by
    have:=fw hj' he'.1
    rw[z] at this
    cases this)
   have m:j6 g.2 j p g.1 (aD g.2.frames a).data true:=⟨G.right,hj',G.mapped hj hp,by rw[G.kept.nf];exact G.lt,G.free,hsz,fun y=>by cases y⟩
   show aD (cJ g.2 j p g.1 _ true).frames b=_
   rw[(gV _ _ _ _ _ _ m).2.2.2.2.2.1 b,if_neg hH.1,hent]
   show(if (1:Int)=1/\(a:Int)=(b:Int) then _ else _)=_
   rw[if_neg (fun x=>hab (by omega))]
   exact hH.2
theorem Fz {k:Kn} (h:aQ k) {j:Nat} (hj:j<k.aj.length) {p:Int} (hp:mapped k j p) (way:Int) {held:List Int} (hl:held.length<=1) {j0:Nat} (C3:j0<k.aj.length) {q:Int} {b:Nat} (h2:aT (aq k.aj j0).au q=some ⟨q,1,b⟩) (hin:(b:Int)∈held) (JY:q≠p):aD (bV k j p way held).2.frames b=aD k.frames b:=by
 have P:=oO h hj hp (held:=held) (by omega)
 have PH:=Al h hj hp (held:=held) (by omega) C3 h2 hin JY
 have hT:jy k j p held (gZ k j p way held)/\aD (gZ k j p way held).2.frames b=aD k.frames b:=by
  unfold gZ
  by_cases c:way=1
  · rw[if_pos c]
    have A:=zN P.right (by rw[P.kept.np];exact hj) (P.kept.mapped hj hp) P.here hl
    refine⟨P.trans A.1,?_⟩
    rw[FO P.right (by rw[P.kept.np];exact hj) (P.kept.mapped hj hp) P.here hl (by rw[P.kept.np];exact C3) (P.stay j0 C3 q _ h2 rfl hin (fun x=>JY x.2)) hin JY]
    exact PH
  · rw[if_neg c];exact⟨P,PH⟩
 have T:=hT.1
 have hne:=kU T.right (by rw[T.kept.np];exact hj) (by rw[T.kept.np];exact C3) T.here (T.stay j0 C3 q _ h2 rfl hin (fun x=>JY x.2)) JY
 show aD ((gZ k j p way held).2.frames.set _ _) b=_
 rw[dZ _ _ _ _ (by rw[T.kept.nf];exact T.lt),if_neg hne]
 exact hT.2
structure Alone (k:Kn) (j:Nat) (p:Int) (i:Nat):Prop where
 here:aT (aq k.aj j).au p=some ⟨p,1,i⟩
 lt:i<k.frames.length
 refs:(aD k.frames i).refs=1
 bW:(aD k.frames i).bW=true
theorem Cs {k:Kn} (h:aQ k) {j:Nat} (hj:j<k.aj.length) (a n:Int) (h1:mapped k j (a/16)) (h2:mapped k j (bT a n)):Alone (aM k j a n 1).2 j (a/16) (cX k j a 1).1/\(bT a n≠a/16->Alone (aM k j a n 1).2 j (bT a n) (ia k j a n 1).1):=by
 have R:=m8 h hj a n 1 h1 h2
 obtain⟨A,A2⟩:=jS h hj h1 1 (held:=[]) (by simp)
 have A2:=A2 rfl
 by_cases c:bT a n=a/16
 · have e:aM k j a n 1=([(cX k j a 1).1],(cX k j a 1).2):=by unfold aM;rw[if_pos c]
   refine⟨?_,fun x=>absurd c x⟩
   rw[e]
   exact⟨A.here,by have:=A.kept.nf;have:=A.lt;show(bV k j (a/16) 1 []).1<(bV k j (a/16) 1 []).2.frames.length;omega,A2.1,A2.2⟩
 · have hj':j<(cX k j a 1).2.aj.length:=by have:=A.kept.np;unfold cX;omega
   have hm':=A.kept.mapped hj h2
   obtain⟨B,B2⟩:=jS (k:=(cX k j a 1).2) A.right hj' hm' 1 (held:=[((cX k j a 1).1:Int)]) (by simp)
   have B2:=B2 rfl
   have hh:=Fz (k:=(cX k j a 1).2) A.right hj' hm' 1 (held:=[((cX k j a 1).1:Int)]) (by simp) hj' A.here (by simp[cX]) (fun x=>c x.symm)
   have e:aM k j a n 1=([(cX k j a 1).1,(ia k j a n 1).1],(ia k j a n 1).2):=by unfold aM;rw[if_neg c]
   have hB:ia k j a n 1=bV (cX k j a 1).2 j (bT a n) 1 [((cX k j a 1).1:Int)]:=rfl
   have hlen:(ia k j a n 1).2.frames.length=k.frames.length:=by rw[hB,B.kept.nf];exact A.kept.nf
   rw[e]
   refine⟨⟨?_,?_,?_,?_⟩,fun _=>⟨?_,?_,?_,?_⟩⟩
   · exact B.stay j hj' (a/16) _ A.here rfl (by simp[cX]) (fun x=>c x.2.symm)
   · show(cX k j a 1).1<(ia k j a n 1).2.frames.length
     rw[hlen];exact A.lt
   · show(aD (ia k j a n 1).2.frames (cX k j a 1).1).refs=1
     rw[hB]
     have:aD (bV (cX k j a 1).2 j (bT a n) 1 [((cX k j a 1).1:Int)]).2.frames (cX k j a 1).1=aD (cX k j a 1).2.frames (cX k j a 1).1:=hh
     rw[this];exact A2.1
   · show(aD (ia k j a n 1).2.frames (cX k j a 1).1).bW=true
     rw[hB]
     have:aD (bV (cX k j a 1).2 j (bT a n) 1 [((cX k j a 1).1:Int)]).2.frames (cX k j a 1).1=aD (cX k j a 1).2.frames (cX k j a 1).1:=hh
     rw[this];exact A2.2
   · exact B.here
   · show(ia k j a n 1).1<(ia k j a n 1).2.frames.length
     rw[hlen]
     have:=B.lt
     have:=A.kept.nf
     show(bV (cX k j a 1).2 j (bT a n) 1 [((cX k j a 1).1:Int)]).1<_
     unfold cX at *
     omega
   · exact B2.1
   · exact B2.2
def uZ (k:Kn) (i:Nat) (d:ByteArray):Kn:={ k with frames:=k.frames.set i ⟨d,(aD k.frames i).refs,(aD k.frames i).bW,(aD k.frames i).seen⟩ }
theorem qI {k:Kn} (h:aQ k) {j:Nat} (hj:j<k.aj.length) {p:Int} {i:Nat} (a:Alone k j p i) {d:ByteArray} (hd:d.size=16):aQ (uZ k i d):=by
 have hf:=h.mO i a.lt
 refine h.frame ⟨hf.refs,fun e=>?_,hf.one,fun _=>hd,fun x=>?_⟩
 · have:=hf.refs
   rw[e,a.refs] at this
   cases this
 · have x:(aD k.frames i).bW=false:=x
   rw[a.bW] at x;cases x
theorem tj {k:Kn} (h:aQ k) {j:Nat} (hj:j<k.aj.length) {p:Int} {i:Nat} (a:Alone k j p i) (d:ByteArray) {m:Nat} (hm:m<k.aj.length) (q:Int):cK (uZ k i d) m q=if m=j/\q=p then d else cK k m q:=by
 have at_:∀n,aD (uZ k i d).frames n=if i=n then ⟨d,(aD k.frames i).refs,(aD k.frames i).bW,(aD k.frames i).seen⟩ else aD k.frames n:=fun n=>dZ _ _ _ _ a.lt
 by_cases c:m=j/\q=p
 · rw[if_pos c,c.1,c.2]
   unfold cK
   show(match aT (aq k.aj j).au p with
    | some e=>if e.kind=1 then (aD (uZ k i d).frames e.loc.toNat).data else _
    | none=>_)=d
   rw[a.here]
   show(if (1:Int)=1 then (aD (uZ k i d).frames (i:Int).toNat).data else _)=d
   rw[if_pos rfl,Int.toNat_natCast,at_,if_pos rfl]
 · rw[if_neg c]
   refine OC rfl (fun x hx=>⟨fun hk=>?_,fun _=>rfl⟩) (fun _=>rfl)
   have hx:aT (aq k.aj m).au q=some x:=hx
   rw[at_]
   by_cases e:i=x.loc.toNat
   · exfalso
     have m1:x∈(aq k.aj m).au:=ik hx
     have hb:=(fE h hm m1).resolve_right (fun y=>by omega)
     have hxl:x.loc=(i:Int):=by omega
     have e2:x=⟨q,1,i⟩:=by
      have:=MO hx
      obtain⟨a1,a2,a3⟩:=x
      simp only at this hk hxl
      rw[this,hk,hxl]
     rw[e2] at hx
     have JY:q=p:=by
      by_cases z:q=p
      · exact z
      · exact absurd rfl (kU h hj hm a.here hx z)
     have hmj:m≠j:=fun z=>c ⟨z,JY⟩
     have hr:=(h.mO i a.lt).refs
     rw[a.refs] at hr
     have two:2<=(names k.aj 1 i).length:=by
      have key:∀(l:List Sp) (a b:Nat),a<b->b<l.length->(eG (aq l a) 1 i)≠[]->(eG (aq l b) 1 i)≠[]->2<=(names l 1 i).length:=fun l=>by
       induction l with
       | nil=>intro a b _ hb;simp at hb
       | cons s r ih =>
        intro a b hab hb h1 h2
        rw[fC,List.length_append]
        cases a with
        | zero =>
         have h1':1<=(eG s 1 i).length:=List.length_pos_iff.2 h1
         obtain⟨b',rfl⟩:∃b',b=b'+1:=⟨b-1,by omega⟩
         have h2':eG (aq r b') 1 i≠[]:=h2
         have:1<=(names r 1 i).length:=by
          obtain⟨y,hy⟩:=List.exists_mem_of_ne_nil _ h2'
          refine List.length_pos_iff.2 fun z=>?_
          have:y∈names r 1 i:=List.mem_flatMap.2 ⟨_,vO (by simpa using hb),hy⟩
          rw[z] at this;cases this
         omega
        | succ a =>
         obtain⟨b',rfl⟩:∃b',b=b'+1:=⟨b-1,by omega⟩
         have:=ih a b' (by omega) (by simpa using hb) h1 h2
         omega
      have n1:eG (aq k.aj j) 1 i≠[]:=fun z=>by
       have:(_:Int×Bool)∈eG (aq k.aj j) 1 i:=lG.2 ⟨_,ik a.here,rfl,rfl,rfl⟩
       rw[z] at this;cases this
      have n2:eG (aq k.aj m) 1 i≠[]:=fun z=>by
       have:(_:Int×Bool)∈eG (aq k.aj m) 1 i:=lG.2 ⟨_,ik hx,rfl,rfl,rfl⟩
       rw[z] at this;cases this
      rcases Nat.lt_or_gt_of_ne hmj with g | g
      · exact key k.aj m j g hj n2 n1
      · exact key k.aj j m g hm n1 n2
     omega
   · rw[if_neg e]
def p8 (f:Int->ByteArray) (a n:Int):ByteArray:=if bT a n=a/16 then f (a/16) else f (a/16)++f (bT a n)
def laidB (f:Int->ByteArray) (a:Int) (d:ByteArray):ByteArray:=CL.over (p8 f a d.size) (a%16).toNat d
def Ee (f:Int->ByteArray) (a:Int) (d:ByteArray) (p:Int):ByteArray:=if p=a/16 then (laidB f a d).extract 0 16 else if p=bT a d.size then (laidB f a d).extract 16 32 else f p
def eK (fs:List Fr) (ids:List Nat):Nat->ByteArray
 | 0=>⟨#[]⟩
 | n+1=>eK fs ids n++(aD fs (ids.getD n 0)).data
def gT (k:Kn) (ids:List Nat) (s:ByteArray):Nat->Kn
 | 0=>k
 | n+1=>uZ (gT k ids s n) (ids.getD n 0) (s.extract (n*16) (n*16+16))
def ud (k:Kn) (j:Nat) (a n way:Int):ByteArray:=(eK (aM k j a n way).2.frames (aM k j a n way).1 (aM k j a n way).1.length).extract (a%16).toNat ((a%16).toNat+n.toNat)
def oK (k:Kn) (j:Nat) (a:Int) (d:ByteArray):Kn:=gT (aM k j a d.size 1).2 (aM k j a d.size 1).1 (CL.over (eK (aM k j a d.size 1).2.frames (aM k j a d.size 1).1 (aM k j a d.size 1).1.length) (a%16).toNat d) (aM k j a d.size 1).1.length
theorem empty_append (d:ByteArray):(⟨#[]⟩:ByteArray)++d=d:=by
 apply KB.Jz
 intro i
 simp
theorem zo {k:Kn} {j:Nat} {p:Int} {i:Nat} (h:aT (aq k.aj j).au p=some ⟨p,1,i⟩):cK k j p=(aD k.frames i).data:=by
 unfold cK
 rw[h]
 show(if (1:Int)=1 then (aD k.frames (i:Int).toNat).data else _)=_
 rw[if_pos rfl,Int.toNat_natCast]
theorem qC {k:Kn} (h:aQ k) {j:Nat} (hj:j<k.aj.length) (a n way:Int) (h1:mapped k j (a/16)) (h2:mapped k j (bT a n)):eK (aM k j a n way).2.frames (aM k j a n way).1 (aM k j a n way).1.length=p8 (cK k j) a n:=by
 have R:=m8 h hj a n way h1 h2
 have p1:=R.kept.Am j hj (a/16)
 have p2:=R.kept.Am j hj (bT a n)
 rw[zo R.one.1] at p1
 unfold p8
 rw[<- p1,<- p2]
 by_cases c:bT a n=a/16
 · rw[if_pos c]
   have e:(aM k j a n way).1=[(cX k j a way).1]:=by unfold aM;rw[if_pos c]
   rw[e]
   exact empty_append _
 · rw[if_neg c,zo (R.two c).1]
   have e:(aM k j a n way).1=[(cX k j a way).1,(ia k j a n way).1]:=by unfold aM;rw[if_neg c]
   rw[e]
   show((⟨#[]⟩:ByteArray)++_)++_=_
   rw[empty_append]
   rfl
theorem kV {k:Kn} (h:aQ k) {j:Nat} (hj:j<k.aj.length) {p:Int} (hp:mapped k j p):(cK k j p).size=16:=by
 unfold cK
 cases g:aT (aq k.aj j).au p with
 | none=>exact tE h hj hp
 | some e =>
  have hb:=fE h hj (ik g)
  have hn:=fw hj (ik g)
  dsimp only
  rcases hb with b | b
  · rw[if_pos b.1]
    exact(h.mO _ b.2.2).size (fun z=>by rw[b.1,<- b.2.1,z] at hn;cases hn)
  · rw[if_neg (by omega)]
    exact(h.slt _ b.2.2).size (fun z=>by rw[b.1,<- b.2.1,z] at hn;cases hn)
theorem nb (s:ByteArray) (q:Nat) (t:ByteArray) (h:q+t.size<=s.size):(CL.over s q t).size=s.size:=by
 have h1:(CL.over s q t).size=(CL.over s q t).data.toList.length:=by simp
 have h2:s.size=s.data.toList.length:=by simp
 have h3:t.size=t.data.toList.length:=by simp
 rw[h1]
 unfold CL.over
 simp only[List.length_append,List.length_take,List.length_drop]
 simp at h2 h3 ⊢
 omega
theorem xu (s:ByteArray) (a b:Nat) (h:b<=s.size) (hab:a<=b):(s.extract a b).size=b-a:=by
 simp[ByteArray.size_extract];omega
theorem Es {a n:Int} (h1:1<=n) (h8:n<=8):(bT a n=a/16/\a%16+n<=16)∨(bT a n=a/16+1/\16<a%16+n):=by
 unfold bT;omega
structure Uh (f:Int->ByteArray) (a n:Int):Prop where
 one:(f (a/16)).size=16
 two:(f (bT a n)).size=16
theorem pF {f:Int->ByteArray} {a n:Int} (h:Uh f a n) (h1:1<=n) (h8:n<=8):((p8 f a n).size:Int)=if bT a n=a/16 then 16 else 32:=by
 unfold p8
 split
 · rw[h.one];rfl
 · rw[ByteArray.size_append,h.one,h.two];rfl
theorem wY {f:Int->ByteArray} {a n:Int} (h:Uh f a n) (h1:1<=n) (h8:n<=8):(a%16).toNat+n.toNat<=(p8 f a n).size:=by
 have:=pF h h1 h8
 rcases Es (a:=a) h1 h8 with g | g
 · rw[if_pos g.1] at this;omega
 · rw[if_neg (by omega)] at this;omega
theorem IM {f:Int->ByteArray} {a:Int} {d:ByteArray} (h:Uh f a d.size) (h1:1<=(d.size:Int)) (h8:(d.size:Int)<=8):((laidB f a d).size:Int)=if bT a d.size=a/16 then 16 else 32:=by
 unfold laidB
 rw[nb _ _ _ (by have:=wY h h1 h8;omega)]
 exact pF h h1 h8
structure FP (k:Kn) (j:Nat) (a:Int) (d:ByteArray) (r:Kn):Prop where
 right:aQ r
 ak:r.ak=k.ak
 nf:r.frames.length=k.frames.length
 ns:r.slots.length=k.slots.length
 np:r.aj.length=k.aj.length
 live:∀m,m<k.aj.length->(aq r.aj m).live=(aq k.aj m).live
 aA:∀m,m<k.aj.length->(aq r.aj m).aA=(aq k.aj m).aA
 Am:∀m,m<k.aj.length->∀p,cK r m p=if m=j then Ee (cK k j) a d p else cK k m p
theorem Ia {k:Kn} (h:aQ k) {j:Nat} (hj:j<k.aj.length) (a:Int) (d:ByteArray) (hd1:1<=(d.size:Int)) (hd8:(d.size:Int)<=8) (h1:mapped k j (a/16)) (h2:mapped k j (bT a d.size)):FP k j a d (oK k j a d):=by
 have R:=m8 h hj a d.size 1 h1 h2
 have A:=Cs h hj a d.size h1 h2
 have hP:Uh (cK k j) a d.size:=⟨kV h hj h1,kV h hj h2⟩
 have hL:=IM hP hd1 hd8
 have DU:=Es (a:=a) hd1 hd8
 unfold oK
 rw[qC h hj a d.size 1 h1 h2]
 obtain⟨s,hs⟩:=ex (laidB (cK k j) a d)
 have hs':CL.over (p8 (cK k j) a d.size) (a%16).toNat d=s:=hs.symm
 rw[hs']
 rw[<- hs] at hL
 obtain⟨K,hK⟩:=ex ((aM k j a d.size 1).2)
 have hr:=R.right
 have jb:=R.kept
 rw[<- hK] at hr jb A ⊢
 have Q4:j<K.aj.length:=by rw[jb.np];exact hj
 by_cases c:bT a d.size=a/16
 · have e:(aM k j a d.size 1).1=[(cX k j a 1).1]:=by unfold aM;rw[if_pos c]
   rw[e]
   show FP k j a d (uZ K (cX k j a 1).1 (s.extract (0*16) (0*16+16)))
   rw[if_pos c] at hL
   have hz:(s.extract (0*16) (0*16+16)).size=16:=xu _ _ _ (by omega) (by omega)
   refine⟨qI hr Q4 A.1 hz,jb.ak,by show(List.set _ _ _).length=_;rw[List.length_set];exact jb.nf,jb.ns,jb.np,jb.live,jb.aA,fun m hm p=>?_⟩
   rw[tj hr Q4 A.1 _ (by rw[jb.np];exact hm)]
   by_cases q:m=j
   · subst q
     rw[if_pos rfl]
     unfold Ee
     by_cases z:p=a/16
     · rw[if_pos ⟨rfl,z⟩,if_pos z,hs]
     · rw[if_neg (fun x=>z x.2),if_neg z,if_neg (by omega)]
       exact jb.Am m hm p
   · rw[if_neg (fun x=>q x.1),if_neg q]
     exact jb.Am m hm p
 · have e:(aM k j a d.size 1).1=[(cX k j a 1).1,(ia k j a d.size 1).1]:=by unfold aM;rw[if_neg c]
   rw[e]
   show FP k j a d (uZ (uZ K (cX k j a 1).1 (s.extract (0*16) (0*16+16))) (ia k j a d.size 1).1 (s.extract (1*16) (1*16+16)))
   rw[if_neg c] at hL
   have hz:(s.extract (0*16) (0*16+16)).size=16:=xu _ _ _ (by omega) (by omega)
   have hy:(s.extract (1*16) (1*16+16)).size=16:=xu _ _ _ (by omega) (by omega)
   have A2:=A.2 c
   have hne:=kU hr Q4 Q4 A.1.here A2.here c
   have r1:=qI hr Q4 A.1 hz
   have B:Alone (uZ K (cX k j a 1).1 (s.extract (0*16) (0*16+16))) j (bT a d.size) (ia k j a d.size 1).1:=by
    have at_:aD (uZ K (cX k j a 1).1 (s.extract (0*16) (0*16+16))).frames (ia k j a d.size 1).1=aD K.frames (ia k j a d.size 1).1:=by
     show aD (List.set _ _ _) _=_
     rw[dZ _ _ _ _ A.1.lt,if_neg hne]
    exact⟨A2.here,by show _<(List.set _ _ _).length;rw[List.length_set];exact A2.lt,by rw[at_];exact A2.refs,by rw[at_];exact A2.bW⟩
   refine⟨qI r1 Q4 B hy,jb.ak,by show(List.set (List.set _ _ _) _ _).length=_;rw[List.length_set,List.length_set];exact jb.nf,jb.ns,jb.np,jb.live,jb.aA,fun m hm p=>?_⟩
   have hmK:m<K.aj.length:=by rw[jb.np];exact hm
   rw[tj r1 Q4 B _ (m:=m) hmK,tj hr Q4 A.1 _ hmK]
   by_cases q:m=j
   · subst q
     rw[if_pos rfl]
     unfold Ee
     by_cases z:p=a/16
     · rw[if_neg (fun x=>c (x.2.symm.trans z)),if_pos ⟨rfl,z⟩,if_pos z,hs]
     · rw[if_neg z]
       by_cases y:p=bT a d.size
       · rw[if_pos ⟨rfl,y⟩,if_pos y,hs]
       · rw[if_neg (fun x=>y x.2),if_neg (fun x=>z x.2),if_neg y]
         exact jb.Am m hm p
   · rw[if_neg (fun x=>q x.1),if_neg (fun x=>q x.1),if_neg q]
     exact jb.Am m hm p
end KM
namespace LM
open Go.RowKit
def UD (l:List M.Sy) (s:ByteArray):Option Nat:=l.findIdx? (fun y=>decide (y.name=s))
def YN (o:Ob) (s:ByteArray):Option Int:=match UD o.i.syms s with
 | none=>none
 | some k=>some (uN o (M.Ov o.i.syms k).pos)
def QQ (l:List Ob) (s:ByteArray):Nat->Option Int
 | 0=>none
 | k+1=>match QQ l s k with
  | some t=>some t
  | none=>YN (dK l k) s
def RY (l:List Ob) (o:Ob) (s:ByteArray):Option Int:=if s=⟨#[]⟩ then some (uN o 0) else QQ l s l.length
theorem yY {i:M.Im} (hc:M.jB i=0):M.vv i=true:=by
 unfold M.jB at hc
 split at hc
 · simp at hc
 · split at hc
   · simp at hc
   · split at hc
     · simp at hc
     · split at hc
       · simp at hc
       · split at hc
         · simp at hc
         · rename_i h
           simpa using h
theorem yQ:∀{l:List M.Sg} {a:Int} {s:M.Sg},M.lj l a=some s->(∃k,k<l.length/\M.dn l k=s)/\M.mr s a=true
 | [],a,s,h=>by cases h
 | x::r,a,s,h=>by
  simp only[M.lj] at h
  split at h
  · rename_i hi
    injection h with h
    subst h
    exact⟨⟨0,by simp,rfl⟩,hi⟩
  · obtain⟨⟨k,hk,e⟩,hi⟩:=yQ h
    exact⟨⟨k+1,by simpa using hk,by simpa [M.dn] using e⟩,hi⟩
theorem iD {i:M.Im} (hc:M.jB i=0) {a:Int} (h:M.dM i.cU a=true):0<=a/\a<4080:=by
 unfold M.dM at h
 obtain⟨s,hs⟩:=Option.isSome_iff_exists.1 h
 obtain⟨⟨k,hk,e⟩,hi⟩:=yQ hs
 have hb:=nH hc k hk
 rw[e] at hb
 unfold M.mr at hi
 have:=of_decide_eq_true hi
 omega
theorem yV (i:M.Im):∀n,M.Ae i n=true->∀k,k<n->M.Gp i k=true
 | 0,_,k,hk=>by omega
 | n+1,h,k,hk=>by
  simp only[M.Ae,Bool.and_eq_true] at h
  by_cases e:k=n
  · subst e;exact h.2
  · exact yV i n h.1 k (by omega)
theorem Sc {i:M.Im} (hc:M.jB i=0) (k:Nat) (hk:k<i.fu.length):M.Gp i k=true:=by
 have h:=yY hc
 unfold M.vv at h
 simp only[Bool.and_eq_true] at h
 exact yV i i.fu.length h.2.1 k hk
theorem Eo {i:M.Im} (hc:M.jB i=0) (k:Nat) (hk:k<i.fu.length):0<=(M.pT i.fu k).pos/\(M.pT i.fu k).pos+7<4080:=by
 have h:=Sc hc k hk
 unfold M.Gp M.Ku at h
 simp only[Bool.and_eq_true] at h
 have h0:=iD hc h.2.1
 have h7:=iD hc h.2.2.2.2.2.2.2.2
 omega
theorem Ba {i:M.Im} (hc:M.jB i=0):0<=i.entry/\i.entry<4080:=by
 have h:=yY hc
 unfold M.vv at h
 simp only[Bool.and_eq_true] at h
 have he:=h.2.2
 unfold M.tF at he
 refine iD hc ?_
 unfold M.dM
 cases e:M.lj i.cU i.entry with
 | none=>rw[e] at he;cases he
 | some s=>rfl
def YQ (o:Ob) (r:M.Rl) (t:Int):Pt:=⟨uN o r.pos,⟨(Lib.leBytes 8 (CM.low (t+r.add))).toArray⟩⟩
def pX (l:List Ob) (o:Ob):Nat->Option (List Pt)
 | 0=>some []
 | k+1=>match pX l o k with
  | none=>none
  | some ps=>match RY l o (M.pT o.i.fu k).name with
   | none=>none
   | some t=>some (ps++[YQ o (M.pT o.i.fu k) t])
def wK (l:List Ob) (o:Ob):Option (List Pt):=pX l o o.i.fu.length
theorem yZ {l:List Ob} {o:Ob}:∀{k:Nat} {ps:List Pt},pX l o k=some ps->ps.length=k
 | 0,ps,h=>by simp only[pX] at h;injection h with h;subst h;rfl
 | k+1,ps,h=>by
  simp only[pX] at h
  cases e:pX l o k with
  | none=>rw[e] at h;cases h
  | some qs =>
   rw[e] at h
   simp only at h
   cases g:RY l o (M.pT o.i.fu k).name with
   | none=>rw[g] at h;cases h
   | some t =>
    rw[g] at h
    simp only at h
    injection h with h
    subst h
    rw[List.length_append,yZ e]
    rfl
structure Sp where
 page:Int
 data:ByteArray
 bq:List Fx
def plain (s:Sh):Sp:=⟨s.page,s.data,s.bq⟩
def YS (o:Ob) (ps:List Pt) (s:M.Sg) (m:Nat):Sp:=⟨o.base+s.page+(m:Int),rG s m,gA (o.base+s.page+(m:Int)) ps⟩
def wJ (o:Ob) (ps:List Pt) (s:M.Sg) (n:Nat):List Sp:=(List.range n).map (YS o ps s)
def tT (o:Ob) (ps:List Pt):Nat->List Sp
 | 0=>[]
 | k+1=>tT o ps k++wJ o ps (M.dn o.i.cU k) (M.dn o.i.cU k).aB.toNat
def pZ (l:List Ob):Nat->Option (List Sp)
 | 0=>some []
 | k+1=>match pZ l k with
  | none=>none
  | some E=>match wK l (dK l k) with
   | none=>none
   | some ps=>some (E++tT (dK l k) ps (dK l k).i.cU.length)
def kQ (l:List Ob):Option (List Sp):=pZ l l.length
theorem Er (o:Ob) (ps:List Pt) (s:M.Sg) (n:Nat):wJ o ps s (n+1)=wJ o ps s n++[YS o ps s n]:=by
 unfold wJ
 rw[List.range_succ,List.map_append]
 rfl
theorem wP {l:List Ob} {k:Nat} (h:pZ l k=none):∀n,k<=n->pZ l n=none
 | 0, hn => by obtain rfl:k=0 := by omega
               exact h
 | n+1,hn=>by
  by_cases e:k=n+1
  · subst e;exact h
  · simp only[pZ]
    rw[wP h n (by omega)]
theorem Gr {l:List Ob} {o:Ob} (hc:M.jB o.i=0) (h0:1<=o.base) (h1:o.base<=2000):∀(k:Nat) (ps:List Pt),k<=o.i.fu.length->pX l o k=some ps->∀j,j<ps.length->T7 (yl ps j)
 | 0,ps,_,h,j,hj=>by simp only[pX] at h;injection h with h;subst h;simp at hj
 | k+1,ps,hk,h,j,hj=>by
  simp only[pX] at h
  cases e:pX l o k with
  | none=>rw[e] at h;cases h
  | some qs =>
   rw[e] at h
   simp only at h
   cases g:RY l o (M.pT o.i.fu k).name with
   | none=>rw[g] at h;cases h
   | some t =>
    rw[g] at h
    simp only at h
    injection h with h
    subst h
    rw[List.length_append] at hj
    by_cases hjq:j<qs.length
    · have:=Gr hc h0 h1 k qs (by omega) e j hjq
      unfold yl at this ⊢
      rw[List.getD_eq_getElem?_getD,List.getElem?_append_left hjq,<- List.getD_eq_getElem?_getD]
      exact this
    · have Pj:j=qs.length:=by simp at hj;omega
      subst Pj
      unfold yl
      rw[List.getD_eq_getElem?_getD,List.getElem?_append_right (Nat.le_refl _),Nat.sub_self]
      have hb:=Eo hc k (by omega)
      refine⟨?_,?_,?_⟩
      · show 0<=o.base*16+(M.pT o.i.fu k).pos
        omega
      · show o.base*16+(M.pT o.i.fu k).pos<=1000000
        omega
      · show(⟨(Lib.leBytes 8 (CM.low (t+(M.pT o.i.fu k).add))).toArray⟩:ByteArray).size=8
        rw[Lib.size_eq]
        simp[Lib.leBytes]
def pd (rb:Option Nat) (w:World) (ao:Option Addr) (l:List Fx):Prop:=0<l.length->∃b off,ao=some (Ad b off)/\b<w.heap.size/\some b≠rb/\FQ w b off l
theorem pd.has {rb:Option Nat} {w:World} {ao:Option Addr} {l:List Fx} (h:pd rb w ao l):ou w ao l:=fun hl=>by
 obtain⟨b,off,h1,h2,_,h3⟩:=h hl
 exact⟨b,off,h1,h2,h3⟩
theorem pd.below {rb:Option Nat} {w w':World} {ao:Option Addr} {l:List Fx} (h:pd rb w ao l) (hb:Below w.heap.size w w'):pd rb w' ao l:=fun hl=>by
 obtain⟨b,off,h1,h2,h3,h4⟩:=h hl
 exact⟨b,off,h1,Nat.lt_of_lt_of_le h2 hb.size,h3,UR hb h2 h4⟩
theorem EK {w w':World} {b off:Nat} {l:List Fx} (h:FQ w b off l) (hb:w'.heap[b]?=w.heap[b]?):FQ w' b off l:=fun i hi=>by
 obtain⟨c0,c1⟩:=h i hi
 exact⟨(World.cell?_of_block hb).trans c0,(World.cell?_of_block hb).trans c1⟩
theorem pd.grown {rb:Option Nat} {w w':World} {ao:Option Addr} {l:List Fx} {g:Nat} (h:pd rb w ao l) (hg:w.grownBy w' rb) (hs:w.heap.size<=w'.heap.size) (hat:rb=some g∨g=w.heap.size):pd (some g) w' ao l:=fun hl=>by
 obtain⟨b,off,h1,h2,h3,h4⟩:=h hl
 refine⟨b,off,h1,Nat.lt_of_lt_of_le h2 hs,fun e=>?_,EK h4 (hg.block b h2 h3)⟩
 injection e with e
 rcases hat with hat | hat
 · exact h3 (by rw[hat,e])
 · omega
def Xz (rb:Option Nat) (w:World) (hs:List Sh):Prop:=∀k,k<hs.length->pd rb w (aY hs k).ao (aY hs k).bq
def Dr (s:Sh):List Value:=[I s.page,.string s.data,.slice s.ao s.bq.length s.cap]
theorem Ii (l:List Sh) (x:Sh) (k:Nat) (h:k<l.length):aY (l++[x]) k=aY l k:=by
 unfold aY
 rw[List.getD_eq_getElem?_getD,List.getElem?_append_left h,<- List.getD_eq_getElem?_getD]
theorem Ij (l:List Sh) (x:Sh):aY (l++[x]) l.length=x:=by
 unfold aY
 rw[List.getD_eq_getElem?_getD,List.getElem?_append_right (Nat.le_refl _)]
 simp
end LM
end Go.Proofs.YtpgifpeohlllfaaGreat
