import Derived.Test.YtpgifpeohlllfaaGreatGS00
import Derived.Test.YtpgifpeohlllfaaGreatGS24
import Derived.Deep.RegionHeld3
import Derived.Test.YtpgifpeohlllfaaGreatGS18
set_option maxHeartbeats 20000000
set_option linter.unusedVariables false
set_option maxRecDepth 100000
set_option linter.unusedSimpArgs false
namespace Go.Proofs.YtpgifpeohlllfaaGreat
namespace KX
open Go.RowKit GK KO
open FW (ai aB)
open KW (bE bD aK aZ fu cI aJ dN bT dU)
open KS (Lc bJ oY dC blk cU)
theorem Un {lo mb:Nat} {tt:TypeId} {X:List Value} {U:World} {S:St} {k:KM.Kn} (h:Km lo mb tt X U.drew S k):Km lo mb tt X U S k:=h.kp (E:=fun _=>False) ⟨rfl,rfl,rfl,Nat.le_refl _,fun _ _ _=>rfl⟩ (fun _ _ g=>g)
theorem LC {S S':St} {w U:World} (h:Ch S w S' U.drew):Ch S w S' U:=⟨⟨h.kp.os,h.kp.tape,h.kp.output,h.kp.size,h.kp.block⟩,h.no,h.eS,h.eF,h.eL,h.eP⟩
theorem Ck {lo mb:Nat} {tt:TypeId} {X:List Value} (k:KM.Kn) (S:St) (w:World) (j:Nat) (p:Int) (held:List Int) (ah:Option Addr) (ch:Nat) (h:Km lo mb tt X w S k) (hR:KM.aU k) (hj:j<k.aj.length) (he:KM.bc (KM.au k.aj j).aA p=none) (hp:KM.mapped k j p) (hX:uS X k.ak) (hl:held.length<=2) (hH:Held w S ah held) :
  Calls Tryz.prog 141 #[.pointer (some (Ad mb 0)),I (j:Int),I p,.slice ah held.length ch] w (gh lo mb tt X w S (I ((KM.bY k j p held).1:Int)) (KM.bY k j p held).2):=by
 have iG:=ai (CV k S w j p h hR hj)
 have e1:dU (KM.au k.aj j).aA p=(KM.jI,false):=by unfold KW.dU;rw[he]
 rw[e1] at iG
 have G:=KM.m6 hR hl
 have hP:KM.bY k j p held=((KM.bR k held).1,KM.cW (KM.bR k held).2 j p (KM.bR k held).1 (KM.dY (KM.bR k held).2.ak p (KM.zeroAt (KM.bR k held).2 j p)) false):=by
  unfold KM.bY
  rw[he]
 have hent:KM.bc (KM.au (KM.bR k held).2.aj j).aA p=none:=by rw[G.vW j hj p (fun x hx=>by rw[he] at hx;cases hx),he]
 have hmv:KM.cW (KM.bR k held).2 j p (KM.bR k held).1 (KM.dY (KM.bR k held).2.ak p (KM.zeroAt (KM.bR k held).2 j p)) false=KM.dZ (KM.jb (KM.bR k held).2 (KM.bR k held).1 (KM.dY (KM.bR k held).2.ak p (KM.zeroAt (KM.bR k held).2 j p)) false) j ⟨p,1,(KM.bR k held).1⟩:=by
  unfold KM.cW
  rw[hent]
 rw[hP,hmv]
 have wK:=KM.jw hp
 have hsh:=G.kept.ak
 have Oo:AW.ed (KM.au (KM.bR k held).2.aj j).aD:=by
  have:=(G.right.sp (by rw[G.kept.np];exact hj)).aD
  exact AM.fX _ this
 have hcc:=hR.c
 have Bb:j<(KM.bR k held).2.aj.length:=by rw[G.kept.np];exact hj
 have hi1:(KM.bR k held).1<(KM.bR k held).2.frames.length:=by rw[G.kept.nf];exact G.lt
 have Hb:=je G.right Bb
 have Oa:=G.kept.np
 have Wt:Hid (∀V,Below w.heap.size w V->Calls Tryz.prog 165 #[.pointer (some (Ad mb 0)),.slice ah held.length ch] V (gh lo mb tt X V S (I ((KM.bR k held).1:Int)) (KM.bR k held).2)):=fun V hV=>CP k S V held ah ch (h.below hV) hR hl (hH.ch (Ch.below hV))
 obtain⟨k1,hk1⟩:=ex ((KM.bR k held).2)
 obtain⟨i,hi⟩:=ex ((KM.bR k held).1)
 rw[<- hk1,<- hi] at Wt hi1
 rw[<- hk1] at Bb Hb Oa hsh Oo
 rw[<- hk1,<- hi]
 obtain⟨D,hD⟩:=ex (KM.dY k1.ak p (KM.zeroAt k1 j p))
 rw[<- hD]
 have wW:Hid (∀V S',Km lo mb tt X V S' k1->∃fb cF pb cP va,¬mb=fb/\V.cell? (Ad mb 1)=some (.slice (some (Ad fb 0)) k1.frames.length cF)/\V.cell? (Ad mb 3)=some (.slice (some (Ad pb 0)) k1.aj.length cP)/\V.cell? (Ad pb (j*3+1))=some va/\(∃ax nx cx,va=.slice ax nx cx)/\(∀V',Below V.heap.size V V'->Calls Tryz.prog 70 #[va,I p] V' fun e w'=>e=.returned (.tuple #[.agg (AW.cellsOf (AM.aT (KM.au k1.aj j).aD p).1),.bool (AM.aT (KM.au k1.aj j).aD p).2])/\Below V'.heap.size V' w')/\(∀V',Below V.heap.size V V'->Calls Tryz.prog 119 #[.pointer (some (Ad mb 0)),I p,.bool (AM.aT (KM.au k1.aj j).aD p).1.zero] V' fun e w'=>e=.returned (.string D)/\Below V'.heap.size V' w')/\V.cell? (Ad fb (i*4))=some (.string (KM.aI k1.frames i).data)/\V.cell? (Ad fb (i*4+1))=some (I (KM.aI k1.frames i).refs)/\V.cell? (Ad fb (i*4+2))=some (.bool (KM.aI k1.frames i).b9)/\V.cell? (Ad fb (i*4+3))=some (.bool (KM.aI k1.frames i).seen)/\V.frozen? (Ad fb (i*4))=false/\V.frozen? (Ad fb (i*4+1))=false/\V.frozen? (Ad fb (i*4+2))=false/\V.frozen? (Ad fb (i*4+3))=false /\
   (∀U,U=((((V.setCell (Ad fb (i*4)) (.string D)).setCell (Ad fb (i*4+1)) (I 1)).setCell (Ad fb (i*4+2)) (.bool false)).setCell (Ad fb (i*4+3)) (.bool false)).drew->Km lo mb tt X U S' (KM.jb k1 i D false)/\Ch S' V S' U)):=fun V S' hV=>by
  obtain⟨fb,cF,A⟩:=hV.toKr.fr (by omega)
  obtain⟨pb,cP,AL⟩:=hV.toKr.sp (by omega)
  have c1:=hV.c1
  have c2:=hV.c3
  rw[A.v] at c1
  rw[AL.v] at c2
  refine⟨fb,cF,pb,cP,(dC S'.L j).va,fun e=>by have:=A.lab;rw[<- e,hV.lH] at this;simp at this,c1,c2,AL.x1 j Bb,?_,fun V' hb=>AW.pW _ _ p V' (AW.Has.below (hV.toKr.aD Bb) hb) Oo,fun V' hb=>?_,A.x0 i hi1,A.x1 i hi1,A.x2 i hi1,A.x3 i hi1,A.fz _,A.fz _,A.fz _,A.fz _,fun U hU=>?_⟩
  · obtain⟨ax,cx,qP,_,_⟩:=aQ (hV.each j Bb).aD
    exact⟨_,_,_,qP⟩
  · rw[hD,hsh]
    have hm':=hV.below hb
    exact KW.pX k.ak p _ mb V' (fun n hn=>hm'.cx n (hX n hn)) (by omega)
  have m:=hV.NI A.v hi1 ⟨D,1,false,false⟩
  subst hU
  exact⟨m.1.below (Below.refl _ _).drew,m.2.trans (Ch.below (Below.refl _ _).drew)⟩
 have Qn:Hid (∀V S',Km lo mb tt X V S' (KM.jb k1 i D false)->Calls Tryz.prog 166 #[.pointer (some (Ad mb 0)),I (j:Int),.agg #[I p,I 1,I (i:Int)]] V (gh lo mb tt X V S' (.tuple #[]) (KM.dZ (KM.jb k1 i D false) j ⟨p,1,i⟩))):=fun V S' hV=>by
  have hsp:(KM.jb k1 i D false).aj=k1.aj:=rfl
  exact uK _ S' V j ⟨p,1,i⟩ hV (by rw[hsp];exact Bb) (by rw[hsp];omega) (by rw[hsp];omega)
 have bw:Hid (∀V S',Km lo mb tt X V S' (KM.dZ (KM.jb k1 i D false) j ⟨p,1,i⟩)->Ch S w S' V->gh lo mb tt X w S (I (i:Int)) (KM.dZ (KM.jb k1 i D false) j ⟨p,1,i⟩) (.returned (I (i:Int))) V):=fun V S' h1 h2=>⟨rfl,S',h1,h2⟩
 obtain⟨K3,hK3⟩:=ex (KM.dZ (KM.jb k1 i D false) j ⟨p,1,i⟩)
 rw[<- hK3] at Qn bw ⊢
 obtain⟨K1,OL⟩:=ex (KM.jb k1 i D false)
 rw[<- OL] at wW Qn
 obtain⟨P,Jf⟩:=ex (gh lo mb tt X w S (I (i:Int)) K3)
 rw[<- Jf] at bw ⊢
 have iV:Hid (∀V:World,w.heap.size<=V.heap.size->S.lab V.heap.size=.no):=fun V hV=>h.toKr.new hV
 obtain⟨FR,Bd⟩:=ex (KM.aI k1.frames i)
 rw[<- Bd] at wW
 obtain⟨nf,l6⟩:=ex k1.frames.length
 obtain⟨np,rX⟩:=ex k1.aj.length
 rw[<- l6,<- rX] at wW
 have La:(j:Int)<(np:Int):=by omega
 have G9:(i:Int)<(nf:Int):=by omega
 obtain⟨AR,hAR⟩:=ex (AM.aT (KM.au k1.aj j).aD p)
 rw[<- hAR] at wW
 obtain⟨⟨q0,q1,q2,q3⟩,q4⟩:=AR
 unfold dN at iG
 unfold AW.cellsOf at wW
 simp only[KM.jI] at iG wW
 clear hP Jf e1 he h hR hj G hent hmv hcc Bb hi1 Hb Oa hk1 hi hD hK3 OL hH hl Bd l6 rX hAR hX hsh Oo
 go_enter Tryz.func141,Tryz.ntmps141
 go_upto_region 8 with(first
  | (go_at_call 118;refine iG.o.mono ?_;rintro r w1 ⟨rfl,hb1⟩;have bI:=ai hb1;have cJ:=ai (bI.o.alloc bI.o.size (.cells #[I 0,I 0,I 0] 45));have BX:=ai (B.new w1 #[I 0,I 0,I 0] 45);obtain⟨d0,d1,d2⟩:=B.c3 BX.o;clear hb1)
  | (go_at_call 165;refine(Wt.o _ cJ.o).mono ?_;rintro r w2 ⟨rfl,S2,hk2,hc2⟩;have jJ:=ai hk2;have j6:=ai ((Ch.below cJ.o).trans hc2);clear hk2 hc2 d0 d1 d2))
 obtain⟨fb,cF,pb,cP,va,WO,g1,g2,g3,⟨ax,nx,cx,qP⟩,TL,TM,g4,g5,g6,g7,g8,g9,g10,g11,hfin⟩:=wW.o w2 S2 jJ.o
 subst qP
 have tR:=ai (TL w2 (Below.refl _ _))
 have Ml:=ai TM
 have uP:=ai (fun V (hb:Below w2.heap.size w2 V)=>wW.o V S2 (jJ.o.below hb))
 have pD:=World.block_lt_of_cell? w2 _ g4
 have oa:=World.block_lt_of_cell? w2 _ g1
 have pD:fb<w2.heap.size:=pD
 have oa:mb<w2.heap.size:=oa
 clear TL TM g4 g5 g6 g7 g8 g9 g10 g11 hfin
 have ZY:Hid (∀V,Below w2.heap.size w2 V->V.cell? (Ad fb (i*4))=some (.string FR.data)/\V.cell? (Ad fb (i*4+1))=some (I FR.refs)/\V.cell? (Ad fb (i*4+2))=some (.bool FR.b9)/\V.cell? (Ad fb (i*4+3))=some (.bool FR.seen)/\V.frozen? (Ad fb (i*4))=false/\V.frozen? (Ad fb (i*4+1))=false/\V.frozen? (Ad fb (i*4+2))=false/\V.frozen? (Ad fb (i*4+3))=false/\(∀U,U=((((V.setCell (Ad fb (i*4)) (.string D)).setCell (Ad fb (i*4+1)) (I 1)).setCell (Ad fb (i*4+2)) (.bool false)).setCell (Ad fb (i*4+3)) (.bool false))->Km lo mb tt X U S2 K1/\Ch S w S2 U)):=fun V hb=>by
  obtain⟨Vu,cF',QK,cP',va',_,z1,_,_,_,_,_,z4,z5,z6,z7,z8,z9,z10,z11,abm⟩:=uP.o V hb
  have e:Vu=fb:=by
   rw[(hb.cell (p:=(Ad mb 1)) oa).trans g1] at z1
   injection z1 with z1
   injection z1 with e1 _ _
   injection e1 with e1
   injection e1 with e1 _ _
   exact e1.symm
  subst e
  refine⟨z4,z5,z6,z7,z8,z9,z10,z11,fun U hU=>?_⟩
  obtain⟨q1,q2⟩:=abm U.drew (by rw[hU])
  have dr:Below U.heap.size U U.drew:=(Below.refl _ _).drew
  exact⟨Un q1,(j6.o.trans (Ch.below hb)).trans (LC q2)⟩
 clear uP wW
 go_upto_region 9 with(go_at_call 70;refine tR.o.mono ?_;rintro r w3 ⟨rfl,hb3⟩;have cZ:=ai hb3;clear hb3)
 have Db:=ai (cZ.o.alloc cZ.o.size (.cells #[I q0,I q1,I q2,.bool q3] 47))
 have AX:=ai (B.new w3 #[I q0,I q1,I q2,.bool q3] 47)
 have hl3:=cZ.o.size
 obtain⟨W,hW⟩:=ex (w3.alloc (.cells #[I q0,I q1,I q2,.bool q3] 47))
 obtain⟨xb,Df⟩:=ex w3.heap.size
 rw[<- hW] at Db AX ⊢
 rw[<- Df] at AX ⊢
 have hxf:¬xb=fb:=by omega
 clear hW Df
 have HS:Hid (∀V,Below W.heap.size W V->V.cell? (Ad mb 1)=some (.slice (some (Ad fb 0)) nf cF)/\V.cell? (Ad xb 3)=some (.bool q3)):=fun V hb=>⟨((Db.o.trans (hb.mono Db.o.size)).cell (p:=(Ad mb 1)) oa).trans g1,B.cell (B.below AX.o hb (B.isLt AX.o)) 3 rfl⟩
 have iW:=ai (Below.refl W.heap.size W).drew
 have eX:=ai (HS.o _ iW.o)
 have Ip:Hid (∀V,Below W.heap.size W V->Calls Tryz.prog 119 #[.pointer (some (Ad mb 0)),I p,.bool q3] V fun e w'=>e=.returned (.string D)/\Below V.heap.size V w'):=fun V hb=>Ml.o V (Db.o.trans (hb.mono Db.o.size))
 have T6:Hid (∀V:World,(V.cell? (Ad mb 1)=some (.slice (some (Ad fb 0)) nf cF)/\V.cell? (Ad xb 3)=some (.bool q3))->∀v0 v1 v2 v3,((((V.setCell (Ad fb (i*4)) v0).setCell (Ad fb (i*4+1)) v1).setCell (Ad fb (i*4+2)) v2).setCell (Ad fb (i*4+3)) v3).cell? (Ad mb 1)=some (.slice (some (Ad fb 0)) nf cF)/\((((V.setCell (Ad fb (i*4)) v0).setCell (Ad fb (i*4+1)) v1).setCell (Ad fb (i*4+2)) v2).setCell (Ad fb (i*4+3)) v3).cell? (Ad xb 3)=some (.bool q3)):=fun V ⟨h0,h1⟩ v0 v1 v2 v3=>by
  rw[cu _ _ _ _ _ _ WO,cu _ _ _ _ _ _ WO,cu _ _ _ _ _ _ WO,cu _ _ _ _ _ _ WO,cu _ _ _ _ _ _ hxf,cu _ _ _ _ _ _ hxf,cu _ _ _ _ _ _ hxf,cu _ _ _ _ _ _ hxf]
  exact⟨h0,h1⟩
 go_region_held3 (fun V=>V.cell? (Ad mb 1)=some (.slice (some (Ad fb 0)) nf cF)/\V.cell? (Ad xb 3)=some (.bool q3)) (first | exact gH.o | exact eX.o | exact VM.o _ _ _ _)
  ((go_at_call 119;refine(Ip.o _ iW.o).mono ?_;rintro r w5 ⟨rfl,vA⟩;have Jz:=ai (iW.o.trans (vA.mono iW.o.size));have gH:=ai (HS.o _ Jz.o);have VM:=ai (fun v0 v1 v2 v3=>T6.o w5 gH.o v0 v1 v2 v3);have Zo:=ai (ZY.o w5 (Db.o.trans (Jz.o.mono Db.o.size)));obtain⟨z4,z5,z6,z7,z8,z9,z10,z11⟩:w5.cell? (Ad fb (i*4))=some (.string FR.data)/\w5.cell? (Ad fb (i*4+1))=some (I FR.refs)/\w5.cell? (Ad fb (i*4+2))=some (.bool FR.b9)/\w5.cell? (Ad fb (i*4+3))=some (.bool FR.seen)/\w5.frozen? (Ad fb (i*4))=false/\w5.frozen? (Ad fb (i*4+1))=false/\w5.frozen? (Ad fb (i*4+2))=false/\w5.frozen? (Ad fb (i*4+3))=false:=(by obtain⟨a1,a2,a3,a4,a5,a6,a7,a8,_⟩:=Zo.o;exact⟨a1,a2,a3,a4,a5,a6,a7,a8⟩);clear vA))
 all_goals clear VM T6 HS eX gH Ml Ip
 obtain⟨U,hU⟩:=ex (((((w5.setCell (Ad fb (i*4)) (.string D)).setCell (Ad fb (i*4+1)) (I 1)).setCell (Ad fb (i*4+2)) (.bool false)).setCell (Ad fb (i*4+3)) (.bool false)))
 obtain⟨_,_,_,_,_,_,_,_,zf⟩:=Zo.o
 obtain⟨hk6,hc6⟩:=zf U hU
 have ZQ:=ai hk6
 have HC6:=ai hc6
 rw[<- hU]
 clear hU hk6 hc6 zf Zo z4 z5 z6 z7 z8 z9 z10 z11 ZY
 go_wp2_with (go_at_call 166;refine(Qn.o _ _ ZQ.o).mono ?_;rintro r w7 ⟨rfl,S7,hk7,hc7⟩;have Xi:=ai hk7;have HC7:=ai (HC6.o.trans hc7);clear hk7 hc7)
 exact bw.o _ _ Xi.o HC7.o
theorem D6 {lo mb:Nat} {tt:TypeId} {X:List Value} (k:KM.Kn) (S:St) (w:World) (j:Nat) (p:Int) (held:List Int) (ah:Option Addr) (ch:Nat) (h:Km lo mb tt X w S k) (hR:KM.aU k) (hj:j<k.aj.length) (hp:KM.mapped k j p) (hX:uS X k.ak) (hl:held.length<=2) (hH:Held w S ah held) :
  Calls Tryz.prog 141 #[.pointer (some (Ad mb 0)),I (j:Int),I p,.slice ah held.length ch] w (gh lo mb tt X w S (I ((KM.bY k j p held).1:Int)) (KM.bY k j p held).2):=by
 cases he:KM.bc (KM.au k.aj j).aA p with
 | none=>exact Ck k S w j p held ah ch h hR hj he hp hX hl hH
 | some e =>
  by_cases hk:e.kind=1
  · exact Cl k S w j p held ah ch e h hR hj he hk
  · exact wH k S w j p held ah ch e h hR hj he hk hl hH
theorem NV:∀l:List Int,∀u∈l.flatMap bT,u.oneCell'=true:=fun l u hu=>by
 obtain⟨y,_,hy⟩:=List.mem_flatMap.1 hu
 simp[bT] at hy
 rw[hy];rfl
theorem KP {w:World} {ah:Option Addr} {l:List Int} (h:aZ bT 1 0 w ah l):From w ah l.length (l.flatMap bT):=fun hm=>by
 obtain⟨b,off,rfl,hb,hl⟩:=h hm
 exact KS.qA (w:=w) bT 1 (fun _=>rfl) 0 l b off (fun i hi j hj=>hl i hi j hj) hm
theorem yM {w:World} {base:Nat} {S:St} {ao:Option Addr} {n c:Nat} {l:List Int} (hr:w.ownsRow base 3 1 (.slice ao n c) l.length (l.flatMap bT)) (hno:∀b,blk (.slice ao n c) b->S.lab b=.no):n=l.length/\Held w S ao l:=by
 obtain⟨a,cap,e,_,hrow⟩:=jN bT (fun _=>rfl) 0 hr
 injection e with e1 e2 e3
 subst e1 e2
 refine⟨rfl,hrow,fun b off e=>?_,fun b off e=>?_⟩
 · subst e
   refine hno b ?_
   rcases hr.2 with⟨h0,_⟩ | ⟨g,cap',cur,hv,_⟩
   · cases h0
   · injection hv with e1 _ _
     injection e1 with e1
     injection e1 with e1 e2 _
     subst e1 e2
     rfl
 · subst e
   rcases hr.2 with⟨h0,_⟩ | ⟨g,cap',cur,hv,_,hg,_⟩
   · cases h0
   · injection hv with e1 _ _
     injection e1 with e1
     injection e1 with e1 _ _
     subst e1
     exact B.isLt hg
theorem LL {lo mb:Nat} {tt:TypeId} {X:List Value} (k:KM.Kn) (S:St) (w:World) (j:Nat) (p:Int) (a:Nat) (held:List Int) (ah:Option Addr) (ch:Nat) (h:Km lo mb tt X w S k) (hR:KM.aU k) (hj:j<k.aj.length) (ha:KM.bc (KM.au k.aj j).aA p=some ⟨p,1,a⟩) (hl:held.length<=1) (hH:Held w S ah held) :
  Calls Tryz.prog 142 #[.pointer (some (Ad mb 0)),I (j:Int),I p,I (a:Int),.slice ah held.length ch] w (gh lo mb tt X w S (I ((KM.ic k j p a held).1:Int)) (KM.ic k j p a held).2):=by
 have hcc:=hR.c
 have hne:=KM.xj hR hj ha
 obtain⟨fb,cF,A⟩:=h.toKr.fr (by omega)
 have c1:=h.c1
 rw[A.v] at c1
 have x1:=A.x1 a hne.1
 have hai:(a:Int)<(k.frames.length:Int):=by omega
 by_cases c:(KM.aI k.frames a).refs=1
 · have hP:KM.ic k j p a held=(a,k):=by unfold KM.ic;rw[if_pos c]
   rw[hP]
   have bw:Hid (gh lo mb tt X w S (I (a:Int)) k (.returned (I (a:Int))) w):=⟨rfl,S,h,Ch.refl _ _⟩
   obtain⟨P,Jf⟩:=ex (gh lo mb tt X w S (I (a:Int)) k)
   rw[<- Jf] at bw ⊢
   rw[c] at x1
   obtain⟨nf,l6⟩:=ex k.frames.length
   rw[<- l6] at c1 hai
   clear hP Jf c h hR hj ha hH hl A hne hcc l6
   go_enter Tryz.func142,Tryz.ntmps142
   go_wp2
   exact bw.o
 · have hl2:(held++[(a:Int)]).length<=2:=by rw[List.length_append,List.length_singleton];omega
   have G:=KM.m6 hR hl2
   have Y9:=G.yN a (List.mem_append.2 (.inr (by simp))) hne.2
   have hent:KM.bc (KM.au (KM.bR k (held++[(a:Int)])).2.aj j).aA p=some ⟨p,1,a⟩:=G.stay hR hj ha (fun _=>List.mem_append.2 (.inr (by simp)))
   obtain⟨k1,hk1⟩:=ex ((KM.bR k (held++[(a:Int)])).2)
   obtain⟨i,hi⟩:=ex ((KM.bR k (held++[(a:Int)])).1)
   have hP:KM.ic k j p a held=(i,KM.cW k1 j p i (KM.aI k1.frames a).data true):=by
    unfold KM.ic
    rw[if_neg c,hk1,hi]
   have hGT:∀V S',Km lo mb tt X V S' k->∀ah' ch',Held V S' ah' (held++[(a:Int)])->Calls Tryz.prog 165 #[.pointer (some (Ad mb 0)),.slice ah' (held++[(a:Int)]).length ch'] V (gh lo mb tt X V S' (I (i:Int)) k1):=fun V S' hV ah' ch' hh=>by
    have:=CP k S' V (held++[(a:Int)]) ah' ch' hV hR hl2 hh
    rw[<- hk1,<- hi] at this
    exact this
   rw[<- hk1] at hent Y9
   rw[<- hi] at Y9
   have Bb:j<k1.aj.length:=by have:=G.kept.np;rw[<- hk1] at this;rw[this];exact hj
   have Rb:k1.frames.length=k.frames.length:=by have:=G.kept.nf;rw[<- hk1] at this;exact this
   have hi1:i<k1.frames.length:=by rw[Rb,hi];exact G.lt
   have ha1:a<k1.frames.length:=by rw[Rb];exact hne.1
   have tX:KM.aU k1:=by have:=G.right;rw[<- hk1] at this;exact this
   have Hb:=je tX Bb
   have acA:=tX.c
   have hrf:=(nR tX).1 a ha1
   obtain⟨D,hD⟩:=ex ((KM.aI k1.frames a).data)
   have YW:i≠a:=fun e=>Y9.1 e.symm
   have Vb:KM.aI (KM.jb k1 i D true).frames a=KM.aI k1.frames a:=by
    show KM.aI (k1.frames.set i _) a=_
    rw[KM.eU _ _ _ _ hi1,if_neg YW]
   have hra:¬(KM.aI k1.frames a).refs-1=0:=by rw[Y9.2];omega
   obtain⟨K2,hK2⟩:∃K2:KM.Kn,K2={ KM.jb k1 i D true with frames:=(KM.jb k1 i D true).frames.set a ⟨(KM.aI k1.frames a).data,(KM.aI k1.frames a).refs-1,(KM.aI k1.frames a).b9,(KM.aI k1.frames a).seen⟩ }:=⟨_,rfl⟩
   have hmv:KM.cW k1 j p i D true=KM.dZ K2 j ⟨p,1,i⟩:=by
    unfold KM.cW
    rw[hent]
    show KM.cN _ _=_
    rw[<- vV]
    congr 1
    unfold KM.cN
    rw[if_pos rfl,hK2]
    show({ KM.jb k1 i D true with frames:=(KM.jb k1 i D true).frames.set (a:Int).toNat (KM.lq (KM.aI (KM.jb k1 i D true).frames (a:Int).toNat)) }:KM.Kn)=_
    rw[Int.toNat_natCast,Vb]
    unfold KM.lq
    rw[if_neg hra]
   rw[hP,<- hD,hmv]
   have wW:Hid (∀V S',Km lo mb tt X V S' k1->∃fb cF,V.cell? (Ad mb 1)=some (.slice (some (Ad fb 0)) k1.frames.length cF)/\¬mb=fb/\V.cell? (Ad fb (a*4))=some (.string D)/\V.cell? (Ad fb (i*4))=some (.string (KM.aI k1.frames i).data)/\V.cell? (Ad fb (i*4+1))=some (I (KM.aI k1.frames i).refs)/\V.cell? (Ad fb (i*4+2))=some (.bool (KM.aI k1.frames i).b9)/\V.cell? (Ad fb (i*4+3))=some (.bool (KM.aI k1.frames i).seen)/\V.frozen? (Ad fb (i*4))=false/\V.frozen? (Ad fb (i*4+1))=false/\V.frozen? (Ad fb (i*4+2))=false/\V.frozen? (Ad fb (i*4+3))=false /\
     (∀U,U=((((V.setCell (Ad fb (i*4)) (.string D)).setCell (Ad fb (i*4+1)) (I 1)).setCell (Ad fb (i*4+2)) (.bool true)).setCell (Ad fb (i*4+3)) (.bool false)).drew->U.cell? (Ad mb 1)=some (.slice (some (Ad fb 0)) k1.frames.length cF)/\U.cell? (Ad fb (a*4+1))=some (I (KM.aI k1.frames a).refs)/\U.frozen? (Ad fb (a*4+1))=false/\Km lo mb tt X (U.setCell (Ad fb (a*4+1)) (I ((KM.aI k1.frames a).refs-1))) S' K2/\Ch S' V S' (U.setCell (Ad fb (a*4+1)) (I ((KM.aI k1.frames a).refs-1))))):=fun V S' hV=>by
    obtain⟨fb,cF,A⟩:=hV.toKr.fr (by omega)
    have c1:=hV.c1
    rw[A.v] at c1
    refine⟨fb,cF,c1,fun e=>by have:=A.lab;rw[<- e,hV.lH] at this;simp at this,by rw[hD];exact A.x0 a ha1,A.x0 i hi1,A.x1 i hi1,A.x2 i hi1,A.x3 i hi1,A.fz _,A.fz _,A.fz _,A.fz _,fun U hU=>?_⟩
    have m:=hV.NI A.v hi1 ⟨D,1,true,false⟩
    have m1:Km lo mb tt X U S' (KM.jb k1 i D true):=by subst hU;exact m.1.below (Below.refl _ _).drew
    have Vy:Ch S' V S' U:=by subst hU;exact m.2.trans (Ch.below (Below.refl _ _).drew)
    have FC:(KM.jb k1 i D true).frames.length=k1.frames.length:=List.length_set
    obtain⟨Vu,cF',A'⟩:=m1.toKr.fr (by rw[FC];omega)
    have e:Vu=fb:=by
     have:=A'.v
     rw[A.v] at this
     injection this with e1 _ _
     injection e1 with e1
     injection e1 with e1 _ _
     exact e1.symm
    subst e
    have c1':=m1.c1
    rw[A.v] at c1'
    have y1:=A'.x1 a (by rw[FC];exact ha1)
    rw[Vb] at y1
    refine⟨c1',y1,A'.fz _,?_,Vy.trans (Pe m1.toKr A'.v)⟩
    rw[hK2]
    exact m1.uh A'.v (i:=a) (by rw[FC];exact ha1) (j:=1) (by omega) (by rw[Vb];rfl)
   have Qn:Hid (∀V S',Km lo mb tt X V S' K2->Calls Tryz.prog 166 #[.pointer (some (Ad mb 0)),I (j:Int),.agg #[I p,I 1,I (i:Int)]] V (gh lo mb tt X V S' (.tuple #[]) (KM.dZ K2 j ⟨p,1,i⟩))):=fun V S' hV=>by
    have hsp:K2.aj=k1.aj:=by rw[hK2];rfl
    exact uK _ S' V j ⟨p,1,i⟩ hV (by rw[hsp];exact Bb) (by rw[hsp];omega) (by rw[hsp];omega)
   have bw:Hid (∀V S',Km lo mb tt X V S' (KM.dZ K2 j ⟨p,1,i⟩)->Ch S w S' V->gh lo mb tt X w S (I (i:Int)) (KM.dZ K2 j ⟨p,1,i⟩) (.returned (I (i:Int))) V):=fun V S' h1 h2=>⟨rfl,S',h1,h2⟩
   obtain⟨K3,hK3⟩:=ex (KM.dZ K2 j ⟨p,1,i⟩)
   rw[<- hK3] at Qn bw ⊢
   obtain⟨P,Jf⟩:=ex (gh lo mb tt X w S (I (i:Int)) K3)
   rw[<- Jf] at bw ⊢
   have Am:Hid (Calls Tryz.prog 167 #[.slice ah held.length ch] w fun e w'=>∃av cv,e=.returned (.slice av held.length cv)/\w'.ownsRow w.heap.size 3 1 (.slice av held.length cv) held.length (held.flatMap bT)/\Below w.heap.size w w'):=(RU ah held.length ch (held.flatMap bT) w (bH bT 1 (fun _=>rfl) held) (KP hH.has) (NV held) (by omega)).mono fun e w' ⟨v,h1,h2,h3⟩=>by
    obtain⟨av,cv,rfl,_⟩:=aQ h2
    exact⟨av,cv,h1,h2,h3⟩
   have Wt:Hid (∀V U av nv cv,Below w.heap.size w V->U=V->V.ownsRow w.heap.size 3 1 (.slice av nv cv) (held.length+1) (held.flatMap bT++[I (a:Int)])->Calls Tryz.prog 165 #[.pointer (some (Ad mb 0)),.slice av nv cv] V (gh lo mb tt X V S (I (i:Int)) k1)):=fun V U av nv cv hb _ hr=>by
    have e1:(held++[(a:Int)]).length=held.length+1:=by simp
    have e2:(held++[(a:Int)]).flatMap bT=held.flatMap bT++[I (a:Int)]:=by simp[bT]
    rw[<- e1,<- e2] at hr
    obtain⟨q1,q2⟩:=yM (S:=S) hr (fun b hb2=>h.toKr.new (hr.lt b hb2).1)
    rw[q1]
    exact hGT V S (h.below hb) av cv q2
   obtain⟨i0,hin,hz0,hz1,hz2⟩:=info_parts GY
   have qI:=ai hin
   have wS:=ai hz0
   have wR:=ai hz1
   have uO:=ai hz2
   have xb:((KM.aI k.frames a).refs==1)=false:=by simpa using c
   obtain⟨R0,Y4⟩:=ex ((KM.aI k.frames a).refs)
   rw[<- Y4] at x1 xb
   obtain⟨R1,Y3⟩:=ex ((KM.aI k1.frames a).refs)
   rw[<- Y3] at wW hrf
   have hw1:IntKind.i64.wrap (R1-1)=R1-1:=IntWalk.i64_in _ (by omega)
   obtain⟨FR,Bd⟩:=ex (KM.aI k1.frames i)
   rw[<- Bd] at wW
   obtain⟨nf,l6⟩:=ex k.frames.length
   rw[Rb,<- l6] at wW
   rw[<- l6] at c1 hai
   have G9:(i:Int)<(nf:Int):=by omega
   have hhl:held.length<=1:=hl
   clear hP Jf c h hR hj ha hH hl A hne hcc l6 hin hz0 hz1 hz2 Bd Y3 Y4 hK3 hGT hmv hK2 hra Vb YW hD hrf acA Hb tX ha1 hi1 Rb Bb Y9 hent hi G hl2 hk1
   go_enter Tryz.func142,Tryz.ntmps142
   go_upto_region 4 with(first
    | (at_builtin;refine bQ (P:=Tryz.prog) rfl _ _ 99 rfl w.heap.size 3 i0 (I 0) 1 8 Tryz.underlying99 qI.o wS.o wR.o uO.o rfl (by decide) _ held.length (held.flatMap bT) rfl SU.o (some (Ad w1.heap.size 0)) 1 1 [I (a:Int)] rfl rfl (fun _=>⟨_,rfl,B.news (B.new w1 _ _)⟩) (by intro u hu;simp at hu;rw[hu];rfl) (by unfold maxLen;omega) (by omega) (by have:=bI.o.size;simp;omega) ?_;intro v' w' hown hgr hat;obtain⟨aG,cG,Er,_,_⟩:=aQ hown;subst Er;have pj:=ai hown;have ck:=ai ((bI.o.alloc bI.o.size (.cells #[I (a:Int)] 3)).grown hgr (by have:=bI.o.size;simp;omega) (fun q hq=>(SU.o.lt q hq).1));clear hown hgr hat)
    | (go_at_call 167;refine Am.o.mono ?_;rintro e w1 ⟨av,cv,rfl,hr1,hb1⟩;have bI:=ai hb1;have SU:=ai (hr1.alloc (.cells #[I (a:Int)] 3));clear hr1 hb1)
    | (go_at_call 165;refine(Wt.o _ _ _ _ _ ck.o rfl pj.o).mono ?_;rintro e w3 ⟨rfl,S3,hk3,hc3⟩;have l8:=ai hk3;have og:=ai ((Ch.below ck.o).trans hc3);clear hk3 hc3))
   obtain⟨Zf,cF3,g1,gne,g2,g3,g4,g5,g6,g7,g8,g9,g10,hfin⟩:=wW.o w3 S3 l8.o
   obtain⟨U,hU⟩:=ex (((((w3.setCell (Ad Zf (i*4)) (.string D)).setCell (Ad Zf (i*4+1)) (I 1)).setCell (Ad Zf (i*4+2)) (.bool true)).setCell (Ad Zf (i*4+3)) (.bool false)).drew)
   obtain⟨y1,y2,y3,hk4,Hc⟩:=hfin U hU
   have HU:=ai hU
   have Ua:=ai hk4
   have Z4:=ai (og.o.trans Hc)
   clear hfin hU hk4 Hc
   go_region
   rw[<- HU.o]
   clear g1 g2 g3 g4 g5 g6 g7 g8 g9 g10 HU
   go_wp2_with (go_at_call 166;refine(Qn.o _ _ Ua.o).mono ?_;rintro r w5 ⟨rfl,S5,U6,YM⟩;have Jz:=ai U6;have HC5:=ai (Z4.o.trans YM);clear U6 YM)
   exact bw.o _ _ Jz.o HC5.o
theorem LH {lo mb:Nat} {tt:TypeId} {X:List Value} (k:KM.Kn) (S:St) (w:World) (j:Nat) (p way:Int) (held:List Int) (ah:Option Addr) (ch:Nat) (h:Km lo mb tt X w S k) (hR:KM.aU k) (hj:j<k.aj.length) (hp:KM.mapped k j p) (hX:uS X k.ak) (hl:held.length<=1) (hH:Held w S ah held) :
  Calls Tryz.prog 97 #[.pointer (some (Ad mb 0)),I (j:Int),I p,I way,.slice ah held.length ch] w (gh lo mb tt X w S (I ((KM.cj k j p way held).1:Int)) (KM.cj k j p way held).2):=by
 have qH:=ai (D6 k S w j p held ah ch h hR hj hp hX (by omega) hH)
 have hB:=(KM.kF hR hj hp way hl).1
 have Y6:=KM.pP hR hj hp (held:=held) (by omega)
 have hcc:=hR.c
 have zG:Hid (∀V S' K i,KM.iH k j p way held=(i,K)->Km lo mb tt X V S' K->∃fb cF,V.cell? (Ad mb 1)=some (.slice (some (Ad fb 0)) k.frames.length cF)/\¬mb=fb/\i<k.frames.length/\V.cell? (Ad fb (i*4+2))=some (.bool (KM.aI K.frames i).b9)/\V.cell? (Ad fb (i*4+3))=some (.bool (KM.aI K.frames i).seen)/\V.frozen? (Ad fb (i*4+2))=false/\V.frozen? (Ad fb (i*4+3))=false /\
   (way≠1->Km lo mb tt X (V.setCell (Ad fb (i*4+3)) (.bool true)) S' (KM.cj k j p way held).2/\Ch S' V S' (V.setCell (Ad fb (i*4+3)) (.bool true))) /\
   (way=1->Km lo mb tt X ((V.setCell (Ad fb (i*4+2)) (.bool true)).setCell (Ad fb (i*4+3)) (.bool true)) S' (KM.cj k j p way held).2/\Ch S' V S' ((V.setCell (Ad fb (i*4+2)) (.bool true)).setCell (Ad fb (i*4+3)) (.bool true)))):=fun V S' K i e hV=>by
  have l6:K.frames.length=k.frames.length:=by
   have:=hB.kept.nf
   unfold KM.cj at this
   rw[e] at this
   have this:(K.frames.set i _).length=_:=this
   rw[List.length_set] at this
   exact this
  have hi:i<k.frames.length:=by
   have:=hB.lt
   unfold KM.cj at this
   rw[e] at this
   exact this
  have hbr:(KM.cj k j p way held).2={ K with frames:=K.frames.set i (KM.mark way (KM.aI K.frames i)) }:=by
   unfold KM.cj
   rw[e]
   rfl
  obtain⟨fb,cF,A⟩:=hV.toKr.fr (by omega)
  have c1:=hV.c1
  rw[A.v,l6] at c1
  have WT:i<K.frames.length:=by omega
  refine⟨fb,cF,c1,fun e=>by have:=A.lab;rw[<- e,hV.lH] at this;simp at this,hi,A.x2 i WT,A.x3 i WT,A.fz _,A.fz _,fun hw=>?_,fun hw=>?_⟩
  · refine⟨?_,Pe hV.toKr A.v⟩
    rw[hbr]
    refine hV.uh A.v WT (j:=3) (by omega) ?_
    unfold KM.mark
    rw[decide_eq_false hw,Bool.or_false]
    rfl
  · have m1:=hV.uh A.v WT (j:=2) (by omega) (f:=⟨(KM.aI K.frames i).data,(KM.aI K.frames i).refs,true,(KM.aI K.frames i).seen⟩) (u:=.bool true) rfl
    have m2:=m1.uh A.v (i:=i) (by simpa using WT) (j:=3) (by omega) (f:=KM.mark way (KM.aI K.frames i)) (u:=.bool true) (by
     simp only[KM.aI,KM.bK _ _ _ _ WT]
     unfold KM.mark
     rw[decide_eq_true hw,Bool.or_true]
     rfl)
    simp only[List.set_set] at m2
    rw[hbr]
    exact⟨m2,(Pe hV.toKr A.v).trans (Pe hV.toKr A.v)⟩
 have hb1:(KM.cj k j p way held).1=(KM.iH k j p way held).1:=rfl
 rw[hb1]
 have bw:Hid (∀V S' i,i=(KM.iH k j p way held).1->Km lo mb tt X V S' (KM.cj k j p way held).2->Ch S w S' V->gh lo mb tt X w S (I ((KM.iH k j p way held).1:Int)) (KM.cj k j p way held).2 (.returned (I (i:Int))) V):=fun V S' i hi h1 h2=>⟨by rw[hi],S',h1,h2⟩
 obtain⟨P,hP⟩:=ex (gh lo mb tt X w S (I ((KM.iH k j p way held).1:Int)) (KM.cj k j p way held).2)
 rw[<- hP] at bw ⊢
 obtain⟨KB,hKB⟩:=ex ((KM.cj k j p way held).2)
 rw[<- hKB] at bw zG
 by_cases c:way=1
 · have e2:KM.iH k j p way held=KM.ic (KM.bY k j p held).2 j p (KM.bY k j p held).1 held:=by unfold KM.iH;rw[if_pos c]
   have Ui:Hid (∀V S',Km lo mb tt X V S' (KM.bY k j p held).2->Ch S w S' V->Calls Tryz.prog 142 #[.pointer (some (Ad mb 0)),I (j:Int),I p,I ((KM.bY k j p held).1:Int),.slice ah held.length ch] V (gh lo mb tt X V S' (I ((KM.iH k j p way held).1:Int)) (KM.iH k j p way held).2)):=fun V S' hV hc=>by
    rw[e2]
    exact LL (KM.bY k j p held).2 S' V j p (KM.bY k j p held).1 held ah ch hV Y6.right (by rw[Y6.kept.np];exact hj) Y6.here hl (hH.ch hc)
   obtain⟨TK,YZ⟩:=ex (KM.iH k j p way held)
   rw[<- YZ] at Ui bw zG
   obtain⟨PR,OJ⟩:=ex (KM.bY k j p held)
   rw[<- OJ] at qH Ui
   obtain⟨i,K⟩:=TK
   obtain⟨ip,Kp⟩:=PR
   have Ij:=ai (fun V S' hV=>zG.o V S' K i rfl hV)
   have jZ:=ai (fun V S'=>bw.o V S' i rfl)
   simp only at qH Ui
   have HW:=ai c
   have wb:(way==1)=true:=by simpa using c
   obtain⟨FR,Bd⟩:=ex (KM.aI K.frames i)
   rw[<- Bd] at Ij
   obtain⟨nf,l6⟩:=ex k.frames.length
   rw[<- l6] at Ij
   clear zG bw hP h hR hj hp hX hl hH hB Y6 hcc hKB YZ OJ e2 hb1 Bd l6 c
   go_enter Tryz.func97,Tryz.ntmps97
   go_upto_region 4 with(first
    | (go_at_call 141;refine qH.o.mono ?_;rintro e w1 ⟨rfl,S1,hk1,hc1⟩;have pC:=ai hk1;have Mn:=ai hc1;clear hk1 hc1)
    | (go_at_call 142;refine(Ui.o _ _ pC.o Mn.o).mono ?_;rintro e w2 ⟨rfl,S2,hk2,hc2⟩;have jJ:=ai hk2;have j6:=ai (Mn.o.trans hc2);clear hk2 hc2))
   obtain⟨fb,cF,g1,gne,gi,g2,g3,g4,g5,_,hfin⟩:=Ij.o w2 S2 jJ.o
   obtain⟨hk3,hc3⟩:=hfin HW.o
   have l8:=ai hk3
   have og:=ai (j6.o.trans hc3)
   have G9:(i:Int)<(nf:Int):=by omega
   clear hfin hk3 hc3
   go_wp2
   exact jZ.o _ _ l8.o og.o
 · have e2:KM.iH k j p way held=KM.bY k j p held:=by unfold KM.iH;rw[if_neg c]
   rw[<- e2] at qH
   obtain⟨TK,YZ⟩:=ex (KM.iH k j p way held)
   rw[<- YZ] at qH bw zG
   obtain⟨i,K⟩:=TK
   have Ij:=ai (fun V S' hV=>zG.o V S' K i rfl hV)
   have jZ:=ai (fun V S'=>bw.o V S' i rfl)
   simp only at qH
   have HW:=ai c
   have wb:(way==1)=false:=by simpa using c
   obtain⟨FR,Bd⟩:=ex (KM.aI K.frames i)
   rw[<- Bd] at Ij
   obtain⟨nf,l6⟩:=ex k.frames.length
   rw[<- l6] at Ij
   clear zG bw hP h hR hj hp hX hl hH hB Y6 hcc hKB YZ e2 hb1 Bd l6 c
   go_enter Tryz.func97,Tryz.ntmps97
   go_upto_region 5 with(go_at_call 141;refine qH.o.mono ?_;rintro e w1 ⟨rfl,S1,hk1,hc1⟩;have pC:=ai hk1;have Mn:=ai hc1;clear hk1 hc1)
   obtain⟨fb,cF,g1,gne,gi,g2,g3,g4,g5,hfin,_⟩:=Ij.o w1 S1 pC.o
   obtain⟨hk3,hc3⟩:=hfin HW.o
   have l8:=ai hk3
   have og:=ai (Mn.o.trans hc3)
   have G9:(i:Int)<(nf:Int):=by omega
   clear hfin hk3 hc3
   go_wp2
   exact jZ.o _ _ l8.o og.o
end KX
end Go.Proofs.YtpgifpeohlllfaaGreat
