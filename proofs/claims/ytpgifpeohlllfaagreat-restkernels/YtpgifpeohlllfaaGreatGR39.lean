import Derived.Test.YtpgifpeohlllfaaGreatGR38
import Derived.OpenShut
set_option maxHeartbeats 20000000
set_option linter.unusedVariables false
set_option maxRecDepth 100000
set_option linter.unusedSimpArgs false
namespace Go.Proofs.YtpgifpeohlllfaaGreat
open Go.RowKit
def x8 (V:World) (K:List bR->aN) (a:fR):Prop:=∃b1 b2 b3 d1 d2 d3,gD V a (K (iN b1 b2 b3 d1 d2 d3))
theorem Dh {w:World} {K:List bR->aN} {H:List bR} {vs:List Value} {e:Ending} {w':World} (hH:H.map dB=Im) (hS:∀H,(K H).aD=H) (hW:∀H H',bN (K H) H'=K H') (h:dg w (K H) vs e w'):∃a b1 b2 b3 d1 d2 d3,e=.returned (.tuple (Value.agg (bg a (K (iN b1 b2 b3 d1 d2 d3)))::vs).toArray)/\(∀U,aM (fun b=>b<w.heap.size) w' U->x8 U K a)/\Below w.heap.size w w':=by
 obtain⟨hs,a,h1,h2,h3,h4⟩:=Uy h;rw[hS] at h1;obtain⟨b1,b2,b3,d1,d2,d3,rfl⟩:=Uv (Eq.trans h1 hH);rw[hW] at h2 h3;exact⟨a,b1,b2,b3,d1,d2,d3,h2,fun U hU=>⟨b1,b2,b3,d1,d2,d3,h3 U hU⟩,h4⟩
theorem xZ (b1 b2 b3:Option Addr) (d1 d2 d3:Nat):(iN b1 b2 b3 d1 d2 d3).map dB=Im:=rfl
theorem Zr {V:World} {ar ah:Option Addr} {cr ch:Nat} {a1 a2 a3:Option Addr} {c1 c2 c3:Nat} (h1:fu V (.slice ar 2 cr) rK) (h2:fX V ah (iN a1 a2 a3 c1 c2 c3)) (h3:3<=ch):Calls Tryz.prog 18 #[.agg #[.slice ar 2 cr,.slice ah 3 ch,I 16],I 3,I 8] V fun e w'=>∃a,e=.returned (.tuple #[.agg #[.slice a.aS 3 a.cS,.slice a.aF 3 a.cF,.slice a.aL 8 a.cL,.slice a.aP 1 a.cP,I 0],I 0])/\(∀U,aM (fun b=>b<V.heap.size) w' U->x8 U EF a)/\Below V.heap.size V w':=by
 refine(Lx ze rK (iN a1 a2 a3 c1 c2 c3) 16 3 8 (.slice ar 2 cr) ah ch V h1 WT h2 (WQ a1 a2 a3 c1 c2 c3) h3 (by grind [eY])).mono fun e w' h=>?_
 have e0:uk rK (iN a1 a2 a3 c1 c2 c3) 16 3 8=(EF (iN a1 a2 a3 c1 c2 c3),0):=by rfl
 rw[e0] at h;obtain⟨a,b1,b2,b3,d1,d2,d3,g1,g2,g3⟩:=Dh (xZ _ _ _ _ _ _) (fun _=>rfl) (fun _ _=>rfl) h;exact⟨a,g1,g2,g3⟩
theorem Rw {V:World} {a:fR} (h:x8 V EF a):Calls Tryz.prog 28 #[.agg #[.slice a.aS 3 a.cS,.slice a.aF 3 a.cF,.slice a.aL 8 a.cL,.slice a.aP 1 a.cP,I 0],I 0,I 46,.string ⟨#[119,120,121,122]⟩] V fun e w'=>∃a,e=.returned (.tuple #[.agg #[.slice a.aS 3 a.cS,.slice a.aF 3 a.cF,.slice a.aL 8 a.cL,.slice a.aP 1 a.cP,I 0],.agg #[I 0,I 0],I 0])/\(∀U,aM (fun b=>b<V.heap.size) w' U->x8 U EE a)/\Below V.heap.size V w':=by
 obtain⟨b1,b2,b3,d1,d2,d3,hk⟩:=h;refine(Gc ze _ a 0 46 abd V hk (WY b1 b2 b3 d1 d2 d3) (by grind [eY]) (by grind [eY])).mono fun e w' h=>?_
 rw[RJ] at h;obtain⟨a,b1,b2,b3,d1,d2,d3,g1,g2,g3⟩:=Dh (xZ _ _ _ _ _ _) (fun _=>rfl) (fun _ _=>rfl) h;exact⟨a,g1,g2,g3⟩
theorem WO {V:World} {a:fR} (h:x8 V EE a):Calls Tryz.prog 39 #[.agg #[.slice a.aS 3 a.cS,.slice a.aF 3 a.cF,.slice a.aL 8 a.cL,.slice a.aP 1 a.cP,I 0],I 0] V fun e w'=>∃a,e=.returned (.tuple #[.agg #[.slice a.aS 3 a.cS,.slice a.aF 3 a.cF,.slice a.aL 8 a.cL,.slice a.aP 2 a.cP,I 0],I 1,I 0])/\(∀U,aM (fun b=>b<V.heap.size) w' U->x8 U ED a)/\Below V.heap.size V w':=by
 obtain⟨b1,b2,b3,d1,d2,d3,hk⟩:=h;refine(TD ze _ a 0 V hk (WW b1 b2 b3 d1 d2 d3) (by grind [eY])).mono fun e w' h=>?_
 have e0:uG (EE (iN b1 b2 b3 d1 d2 d3)) 0=(ED (iN b1 b2 b3 d1 d2 d3),1,0):=by rfl
 rw[e0] at h;obtain⟨a,b1,b2,b3,d1,d2,d3,g1,g2,g3⟩:=Dh (xZ _ _ _ _ _ _) (fun _=>rfl) (fun _ _=>rfl) h;exact⟨a,g1,g2,g3⟩
theorem Rv {V:World} {a:fR} (h:x8 V ED a):Calls Tryz.prog 28 #[.agg #[.slice a.aS 3 a.cS,.slice a.aF 3 a.cF,.slice a.aL 8 a.cL,.slice a.aP 2 a.cP,I 0],I 1,I 32,.string ⟨#[113]⟩] V fun e w'=>∃a,e=.returned (.tuple #[.agg #[.slice a.aS 3 a.cS,.slice a.aF 3 a.cF,.slice a.aL 8 a.cL,.slice a.aP 2 a.cP,I 0],.agg #[I 0,I 0],I 0])/\(∀U,aM (fun b=>b<V.heap.size) w' U->x8 U Ai a)/\Below V.heap.size V w':=by
 obtain⟨b1,b2,b3,d1,d2,d3,hk⟩:=h;refine(Gc ze _ a 1 32 aee V hk (WV b1 b2 b3 d1 d2 d3) (by grind [eY]) (by grind [eY])).mono fun e w' h=>?_
 rw[Ry] at h;obtain⟨a,b1,b2,b3,d1,d2,d3,g1,g2,g3⟩:=Dh (xZ _ _ _ _ _ _) (fun _=>rfl) (fun _ _=>rfl) h;exact⟨a,g1,g2,g3⟩
theorem WN {V:World} {a:fR} (h:x8 V Ai a):Calls Tryz.prog 25 #[.agg #[.slice a.aS 3 a.cS,.slice a.aF 3 a.cF,.slice a.aL 8 a.cL,.slice a.aP 2 a.cP,I 0],I 0,I 32,I 2,I 0] V fun e w'=>∃(a:fR) (hd:Int) (n1 n2 n3 n4:Nat),e=.returned (.tuple #[.agg #[.slice a.aS n1 a.cS,.slice a.aF n2 a.cF,.slice a.aL n3 a.cL,.slice a.aP n4 a.cP,I hd],.string ⟨#[97,98]⟩,.agg #[I 0,I 0],I 0])/\Below V.heap.size V w':=by
 obtain⟨b1,b2,b3,d1,d2,d3,hk⟩:=h;refine(TC ze _ a 0 32 2 0 V hk (Mp b1 b2 b3 d1 d2 d3) (by grind [eY]) (by grind [eY])).mono fun e w' h=>?_
 rw[UA] at h;obtain⟨hs,a,h1,h2,h3,h4⟩:=Uy h;exact⟨a,_,_,_,_,_,h2,h4⟩
theorem WM {V:World} {a:fR} (h:x8 V Ai a):Calls Tryz.prog 30 #[.agg #[.slice a.aS 3 a.cS,.slice a.aF 3 a.cF,.slice a.aL 8 a.cL,.slice a.aP 2 a.cP,I 0],I 1,I 2] V fun e w'=>e=.returned (.tuple #[.string Io,I 0])/\Below V.heap.size V w':=by
 obtain⟨b1,b2,b3,d1,d2,d3,hk⟩:=h;have:=TL _ a 1 2 V hk (Mp b1 b2 b3 d1 d2 d3) (by grind [eY]);rw[Uz] at this;exact this
theorem CE {V U:World} {K:List bR->aN} {a:fR} (h:x8 V K a) (hb:Below V.heap.size V U):x8 U K a:=by
 obtain⟨b1,b2,b3,d1,d2,d3,hk⟩:=h;exact⟨b1,b2,b3,d1,d2,d3,hk.below hb⟩
theorem Mo {w W w3:World} {kb n:Nat} {b:fR} {c0 c1 c2 c3 c4:Value} {K:List bR->aN} (hB:Below w.heap.size w W) (hkw:w.heap.size<=kb) (hkb:kb<W.heap.size) (hb:Below W.heap.size W w3) (hk:w3.heap[kb]?=some (.cells #[c0,c1,c2,c3,c4] 27 (0,0))) (ht:∀U,aM (fun x=>x<W.heap.size) w3 U->x8 U K b) {V:World} (hV:V=(((((w3.setCell (Ad kb 0) (.slice b.aS 3 b.cS)).setCell (Ad kb 1) (.slice b.aF 3 b.cF)).setCell (Ad kb 2) (.slice b.aL 8 b.cL)).setCell (Ad kb 3) (.slice b.aP n b.cP)).setCell (Ad kb 4) (I 0))) :
  V.heap[kb]?=some (.cells #[.slice b.aS 3 b.cS,.slice b.aF 3 b.cF,.slice b.aL 8 b.cL,.slice b.aP n b.cP,I 0] 27 (0,0))/\x8 V K b/\Below w.heap.size w V/\aM (fun x=>x=kb) w3 V:=by
 have hk2:V.heap[kb]?=some (.cells #[.slice b.aS 3 b.cS,.slice b.aF 3 b.cF,.slice b.aL 8 b.cL,.slice b.aP n b.cP,I 0] 27 (0,0)):=by rw[hV];exact dD (dD (dD (dD (dD hk 0 _) 1 _) 2 _) 3 _) 4 _
 have kp:aM (fun x=>x=kb) w3 V:=by
  rw[hV];have k:∀(A:World) (j:Nat) (v:Value),aM (fun x=>x=kb) A (A.setCell (Ad kb j) v):=fun A j v=>aM.set _ A (Ad kb j) v rfl
  exact((((k _ _ _).trans (k _ _ _) (fun _ _ g=>g)).trans (k _ _ _) (fun _ _ g=>g)).trans (k _ _ _) (fun _ _ g=>g)).trans (k _ _ _) (fun _ _ g=>g)
 have jQ:Below w.heap.size w w3:=hB.trans (hb.mono hB.size);exact⟨hk2,ht V (kp.mono (fun x _ e=>by rw[e];exact hkb)),aM.below jQ kp jQ.size (fun x e=>by rw[e];exact hkw),kp⟩
theorem RU (w:World):Calls Tryz.prog 15 #[] w fun e w'=>e=.returned (.bool true)/\Below w.heap.size w w':=by
 go_enter Tryz.func15,Tryz.ntmps15;go_upto_region 2 with(first
  | (go_at_call 50;refine(Ru _).mono ?_;rintro e w1 ⟨ar,cr,ah,ch,a1,a2,a3,c1,c2,c3,rfl,h1,h2,h3,h4⟩;have dz:=ai h4;have HN:=ai (Zr h1 h2 h3);clear h1 h2 h3 h4)
  | (go_at_call 18;refine HN.o.mono ?_;rintro e w2 ⟨a,rfl,hth,hb⟩;have HT2:=ai hth;have gj:=ai (dz.o.trans (hb.mono dz.o.size));clear hth hb))
 have HB:=ai (gj.o.alloc gj.o.size (.cells #[.slice a.aS 3 a.cS,.slice a.aF 3 a.cF,.slice a.aL 8 a.cL,.slice a.aP 1 a.cP,I 0] 27));have KB:=ai (bO w2 #[.slice a.aS 3 a.cS,.slice a.aF 3 a.cF,.slice a.aL 8 a.cL,.slice a.aP 1 a.cP,I 0] 27);have HT:=ai (HT2.o _ (aM.alloc _ w2 (.cells #[.slice a.aS 3 a.cS,.slice a.aF 3 a.cF,.slice a.aL 8 a.cL,.slice a.aP 1 a.cP,I 0] 27)));obtain⟨W,hW⟩:=ex (w2.alloc (.cells #[.slice a.aS 3 a.cS,.slice a.aF 3 a.cF,.slice a.aL 8 a.cL,.slice a.aP 1 a.cP,I 0] 27));obtain⟨kb,hkb⟩:=ex w2.heap.size;have hkw:w.heap.size<=kb:=by rw[hkb];exact gj.o.size
 rw[<- hW] at HB KB HT ⊢;rw[<- hkb] at KB ⊢;clear hW hkb HT2 gj dz HN;obtain⟨k0,k1,k2,k3,k4⟩:=fy KB.o;have jP:=ai (Rw HT.o);go_upto_region 3 with(go_at_call 28;refine jP.o.mono ?_;rintro e v1 ⟨b1,rfl,hth,hb⟩;have HT3:=ai hth;have tP:=ai hb;have K3:=aQ KB.o hb (aT KB.o);have p9:=ai K3;obtain⟨k0,k1,k2,k3,k4⟩:=fy K3;have f0:=aO K3 0;have f1:=aO K3 1;have f2:=aO K3 2;have f3:=aO K3 3;have f4:=aO K3 4;have hkl:=aT K3;clear hth hb K3)
 have HL:=ai (Mo (n:=1) HB.o hkw (aT KB.o) tP.o p9.o HT3.o rfl);have HX:=ai (HL.o.2.2.1.alloc HL.o.2.2.1.size (.cells #[I 0,I 0] 36));have KX:=ai (bM HL.o.1 (.cells #[I 0,I 0] 36));have HTX:=ai (CE HL.o.2.1 ((aK _ _).alloc (aI _) (.cells #[I 0,I 0] 36)));have F1:=ai (bO (((((v1.setCell (Ad kb 0) (.slice b1.aS 3 b1.cS)).setCell (Ad kb 1) (.slice b1.aF 3 b1.cF)).setCell (Ad kb 2) (.slice b1.aL 8 b1.cL)).setCell (Ad kb 3) (.slice b1.aP 1 b1.cP)).setCell (Ad kb 4) (I 0)) #[I 0,I 0] 36);have hsz:(((((v1.setCell (Ad kb 0) (.slice b1.aS 3 b1.cS)).setCell (Ad kb 1) (.slice b1.aF 3 b1.cF)).setCell (Ad kb 2) (.slice b1.aL 8 b1.cL)).setCell (Ad kb 3) (.slice b1.aP 1 b1.cP)).setCell (Ad kb 4) (I 0)).heap.size=v1.heap.size:=by simp
 rw[hsz] at F1;obtain⟨fb1,Ef⟩:=ex v1.heap.size;have Pq:Hid (¬fb1=kb):=(show ¬fb1=kb from fun e=>by omega);obtain⟨W1,hW⟩:=ex ((((((v1.setCell (Ad kb 0) (.slice b1.aS 3 b1.cS)).setCell (Ad kb 1) (.slice b1.aF 3 b1.cF)).setCell (Ad kb 2) (.slice b1.aL 8 b1.cL)).setCell (Ad kb 3) (.slice b1.aP 1 b1.cP)).setCell (Ad kb 4) (I 0)).alloc (.cells #[I 0,I 0] 36));rw[<- hW] at HX KX HTX F1 ⊢;rw[<- Ef] at F1 ⊢;clear hW Ef hsz;clear k0 k1 k2 k3 k4 f0 f1 f2 f3 f4 hkl HL p9 HT3 tP jP HB KB HT;have HB:=HX;have KB:=KX;have HT:=HTX;clear HX KX HTX;obtain⟨k0,k1,k2,k3,k4⟩:=fy KB.o;have jP:=ai (WO HT.o);go_upto_region 4 with(go_at_call 39;refine jP.o.mono ?_;rintro e v2 ⟨b2,rfl,hth,hb⟩;have HT3:=ai hth;have tP:=ai hb;have K3:=aQ KB.o hb (aT KB.o);have p9:=ai K3;obtain⟨k0,k1,k2,k3,k4⟩:=fy K3;have f0:=aO K3 0;have f1:=aO K3 1;have f2:=aO K3 2;have f3:=aO K3 3;have f4:=aO K3 4;clear hth hb K3)
 have HL:=ai (Mo (n:=2) HB.o hkw (aT KB.o) tP.o p9.o HT3.o rfl);have F1:=ai (HL.o.2.2.2.keep (aQ F1.o tP.o (aT F1.o)) Pq.o);have HX:=ai HL.o.2.2.1;have KX:=ai HL.o.1;have HTX:=ai HL.o.2.1;obtain⟨W2,hW⟩:=ex ((((((v2.setCell (Ad kb 0) (.slice b2.aS 3 b2.cS)).setCell (Ad kb 1) (.slice b2.aF 3 b2.cF)).setCell (Ad kb 2) (.slice b2.aL 8 b2.cL)).setCell (Ad kb 3) (.slice b2.aP 2 b2.cP)).setCell (Ad kb 4) (I 0)));rw[<- hW] at HX KX HTX F1 ⊢;clear hW;clear k0 k1 k2 k3 k4 f0 f1 f2 f3 f4 HL p9 HT3 tP jP HB KB HT;have HB:=HX;have KB:=KX;have HT:=HTX;clear HX KX HTX;obtain⟨k0,k1,k2,k3,k4⟩:=fy KB.o;have jP:=ai (Rv HT.o);go_upto_region 5 with(go_at_call 28;refine jP.o.mono ?_;rintro e v3 ⟨b3,rfl,hth,hb⟩;have HT3:=ai hth;have tP:=ai hb;have K3:=aQ KB.o hb (aT KB.o);have p9:=ai K3;obtain⟨k0,k1,k2,k3,k4⟩:=fy K3;have f0:=aO K3 0;have f1:=aO K3 1;have f2:=aO K3 2;have f3:=aO K3 3;have f4:=aO K3 4;have hkl:=aT K3;clear hth hb K3)
 have HL:=ai (Mo (n:=2) HB.o hkw (aT KB.o) tP.o p9.o HT3.o rfl);have F1:=ai (HL.o.2.2.2.keep (aQ F1.o tP.o (aT F1.o)) Pq.o);have HX:=ai (HL.o.2.2.1.alloc HL.o.2.2.1.size (.cells #[I 0,I 0] 36));have KX:=ai (bM HL.o.1 (.cells #[I 0,I 0] 36));have HTX:=ai (CE HL.o.2.1 ((aK _ _).alloc (aI _) (.cells #[I 0,I 0] 36)));have F1:=ai (bM F1.o (.cells #[I 0,I 0] 36));have F2:=ai (bO (((((v3.setCell (Ad kb 0) (.slice b3.aS 3 b3.cS)).setCell (Ad kb 1) (.slice b3.aF 3 b3.cF)).setCell (Ad kb 2) (.slice b3.aL 8 b3.cL)).setCell (Ad kb 3) (.slice b3.aP 2 b3.cP)).setCell (Ad kb 4) (I 0)) #[I 0,I 0] 36);have hsz:(((((v3.setCell (Ad kb 0) (.slice b3.aS 3 b3.cS)).setCell (Ad kb 1) (.slice b3.aF 3 b3.cF)).setCell (Ad kb 2) (.slice b3.aL 8 b3.cL)).setCell (Ad kb 3) (.slice b3.aP 2 b3.cP)).setCell (Ad kb 4) (I 0)).heap.size=v3.heap.size:=by simp
 rw[hsz] at F2;obtain⟨fb2,Ef⟩:=ex v3.heap.size;obtain⟨W3,hW⟩:=ex ((((((v3.setCell (Ad kb 0) (.slice b3.aS 3 b3.cS)).setCell (Ad kb 1) (.slice b3.aF 3 b3.cF)).setCell (Ad kb 2) (.slice b3.aL 8 b3.cL)).setCell (Ad kb 3) (.slice b3.aP 2 b3.cP)).setCell (Ad kb 4) (I 0)).alloc (.cells #[I 0,I 0] 36));rw[<- hW] at HX KX HTX F1 F2 ⊢;rw[<- Ef] at F2 ⊢;clear hW Ef hsz;clear k0 k1 k2 k3 k4 f0 f1 f2 f3 f4 hkl HL p9 HT3 tP jP HB KB HT;have HB:=HX;have KB:=KX;have HT:=HTX;clear HX KX HTX;obtain⟨k0,k1,k2,k3,k4⟩:=fy KB.o;have jP:=ai (WN HT.o);go_upto_region 6 with(go_at_call 25;refine jP.o.mono ?_;rintro e v4 ⟨b4,hd4,m1,m2,m3,m4,rfl,hb⟩;have tP:=ai hb;clear hb)
 have uO:=ai (tP.o.alloc tP.o.size (.cells #[.slice b4.aS m1 b4.cS,.slice b4.aF m2 b4.cF,.slice b4.aL m3 b4.cL,.slice b4.aP m4 b4.cP,I hd4] 27));have Xx:=ai (uO.o.alloc uO.o.size (.cells #[I 0,I 0] 36));have F3:=ai (kX v4 (.cells #[.slice b4.aS m1 b4.cS,.slice b4.aF m2 b4.cF,.slice b4.aL m3 b4.cL,.slice b4.aP m4 b4.cP,I hd4] 27) #[I 0,I 0] 36);obtain⟨W4,hW⟩:=ex ((v4.alloc (.cells #[.slice b4.aS m1 b4.cS,.slice b4.aF m2 b4.cF,.slice b4.aL m3 b4.cL,.slice b4.aP m4 b4.cP,I hd4] 27)).alloc (.cells #[I 0,I 0] 36));obtain⟨fb3,Ef⟩:=ex (v4.heap.size+1);rw[<- hW] at Xx F3 ⊢;rw[<- Ef] at F3 ⊢;clear hW Ef uO tP k0 k1 k2 k3 k4;have KY:=ai (aQ KB.o Xx.o (aT KB.o));have HTY:=ai (CE HT.o Xx.o);have F1:=ai (aQ F1.o Xx.o (aT F1.o));have F2:=ai (aQ F2.o Xx.o (aT F2.o));have pZ:=ai (HB.o.trans (Xx.o.mono HB.o.size));obtain⟨k0,k1,k2,k3,k4⟩:=fy KY.o;have lR:=ai (WM HTY.o);have hp1:Io.size=16:=rfl;have hp2:Io.extract 0 3=⟨#[113,98,99]⟩:=by kernel_rfl
 have Yb:Io.extract 14 16=⟨#[119,120]⟩:=by kernel_rfl
 obtain⟨D,hD⟩:=ex Io;rw[<- hD] at lR hp1 hp2 Yb;clear hD;go_upto_region 7 with(go_at_call 30;refine lR.o.mono ?_;rintro e v5 ⟨rfl,hb⟩;have EJ:=ai (pZ.o.trans (hb.mono pZ.o.size));obtain⟨x1,y1⟩:=nM (aQ F1.o hb (aT F1.o));obtain⟨x2,y2⟩:=nM (aQ F2.o hb (aT F2.o));obtain⟨x3,y3⟩:=nM (aQ F3.o hb (aT F3.o));clear hb)
 go_wp2;go_ret;exact⟨by simp,EJ.o⟩
open Go.RowKit Go.Deep
theorem Xg:Tryz.prog.cellsOf 40=4:=by rfl
theorem UE:Tryz.prog.cellsOf 23=1:=by rfl
theorem Xk:0<Tryz.prog.bytesOf 40:=kr (by rfl)
instance:Inhabited jm:=⟨eW⟩
theorem Xe:Tryz.prog.cellsOf 86=2:=by rfl
theorem UD:Tryz.prog.cellsOf 24=1:=by rfl
theorem Xj:0<Tryz.prog.bytesOf 86:=kr (by rfl)
instance:Inhabited lD:=⟨jS⟩
theorem Xh:Tryz.prog.cellsOf 45=3:=by rfl
theorem UF:Tryz.prog.cellsOf 41=1:=by rfl
theorem Xl:0<Tryz.prog.bytesOf 45:=kr (by rfl)
instance:Inhabited bG:=⟨dW⟩
theorem Xd:Tryz.prog.cellsOf 43=3:=by rfl
theorem UC:Tryz.prog.cellsOf 25=1:=by rfl
theorem Xi:0<Tryz.prog.bytesOf 43:=kr (by rfl)
instance:Inhabited cO:=⟨sM⟩
theorem Xf:Tryz.prog.cellsOf 27=5:=by rfl
section
variable {H:Type} {enc:TypeId×Value->H} {w:World} {base:Nat} {spare:Nat->Bool} {held:Bool}
theorem vW {α:Type} [Inhabited α] {ts te:TypeId} {sz:Nat} (p:List Value->α->Prop) (hu:Tryz.prog.underlying ts=some (.slice te)) (hc:Tryz.prog.cellsOf te=sz) (Vh:0<Tryz.prog.bytesOf te) (hs0:0<sz)
  (elem:∀(n:Nat) (cs:List Value) (x:DataW H×List MemPlace),cs.length=sz->DataW.trod enc Tryz.prog w base spare held n te cs=some x->qM te x.1->∃y,p cs y)
  {fuel:Nat} {a0:Option Addr} {len cap:Nat} {x:DataW H×List MemPlace} (h:DataW.trod enc Tryz.prog w base spare held fuel ts [.slice a0 len cap]=some x) (hw:qM ts x.1) :
  len<=cap/\len<=140737488351232/\∃l:List α,l.length=len/\(0<len->∃b off,a0=some (Ad b off)/\b<w.heap.size/\∀i,i<len->∃cs:List Value,cs.length=sz/\p cs (l.getD i default)/\∀j,j<sz->w.cell? (Ad b (off+i*sz+j))=cs[j]?)/\∀i,i<len->∃cs,p cs (l.getD i default):=by
 rcases open_slice hu h with⟨hcs,_⟩ | ⟨a,len',cap',m,n,D,Pl,hcs,hb,hl,hm,hmm,rfl,hx⟩
 · simp_all
 · simp at hcs;obtain⟨rfl,rfl,rfl⟩:=hcs;have hlm:len<=m:=by grind
   obtain⟨hb1,hb2⟩:=uC hu hw;unfold reachBytes at hb1;have hlen:len<=140737488351232:=by
    simp only[ub,List.length_range] at hb1;have:=Nat.le_mul_of_pos_right (len+(m-len)) Vh;omega
   have each:∀i,i<len->∃y:α,∃cs:List Value,cs.length=sz/\p cs y/\∀j,j<sz->w.cell? (a.add (i*sz+j))=cs[j]?:=by
    intro i hi;obtain⟨cs',h1,h2⟩:=hx i (by omega);have hd:D i∈(List.range len).map D:=xz.2 ⟨i,vk.2 hi,rfl⟩;rw[hc] at h1;obtain⟨_,hcl,hcell⟩:=Kq h1;obtain⟨y,hy⟩:=elem n cs' _ hcl h2 (hb2 _ hd);refine⟨y,cs',hcl,hy,fun j hj=>?_⟩;have:=hcell j (by omega);simp only[add_add] at this;omega
   obtain⟨g,hg⟩:=choose_lt each;have hat:∀i,i<len->((List.range len).map g).getD i default=g i:=by
    grind
   refine⟨hl,hlen,(List.range len).map g,by simp,fun h0=>?_,fun i hi=>?_⟩
   · obtain⟨b,off,spot⟩:=a;obtain⟨cs,e1,e2,e3⟩:=hg 0 h0;have hc0:=e3 0 hs0;rw[q9 (by omega)] at hc0;have hspot:spot=none:=by simpa [Addr.add] using Km hc0
     subst hspot;rw[rY] at hc0;refine⟨b,off,rfl,Hn hc0,fun i hi=>?_⟩;rw[hat i hi];obtain⟨cs,e1,e2,e3⟩:=hg i hi;refine⟨cs,e1,e2,fun j hj=>?_⟩;have:=e3 j hj;rw[rY,<- Kb] at this;omega
   grind
theorem tO {fuel:Nat} {v:Value} {y:DataW H×List MemPlace} (h:DataW.trod enc Tryz.prog w base spare held fuel 3 [v]=some y):∃n:Int,v=I n/\eY n:=by
 grind [DataW.trod_int,Tryz.underlying3,uD]
def Yx (cs:List Value) (y:jm):Prop:=cs=[.string y.data,I y.refs,.bool y.eX,.bool y.seen]/\bT y.data.size/\eY y.refs
theorem abg (n:Nat) (cs:List Value) (x:DataW H×List MemPlace) (hl:cs.length=4) (h:DataW.trod enc Tryz.prog w base spare held n 40 cs=some x) (hw:qM 40 x.1):∃y,Yx cs y:=by
 obtain⟨xs,k,hk,hxy,_,hxl,hf⟩:=vr Tryz.underlying40 h;rw[hxy] at hw
 match cs,hl with
 | [v0,v1,v2,v3],_ =>
  have g0:DataW.trod enc Tryz.prog w base spare held k 9 (([v0,v1,v2,v3].drop 0).take (Tryz.prog.cellsOf 9))=xs[0]?:=hf 0 _ rfl;have g1:DataW.trod enc Tryz.prog w base spare held k 3 (([v0,v1,v2,v3].drop 1).take (Tryz.prog.cellsOf 3))=xs[1]?:=hf 1 _ rfl;have g2:DataW.trod enc Tryz.prog w base spare held k 4 (([v0,v1,v2,v3].drop 2).take (Tryz.prog.cellsOf 4))=xs[2]?:=hf 2 _ rfl;have g3:DataW.trod enc Tryz.prog w base spare held k 4 (([v0,v1,v2,v3].drop 3).take (Tryz.prog.cellsOf 4))=xs[3]?:=hf 3 _ rfl;simp only[wy,Ti,Fp] at g0 g1 g2 g3
  match xs,hxl with
  | [y0,y1,y2,y3],_ =>
   obtain⟨m0,c0,hx0,_⟩:=Ko Tryz.underlying9 (show DataW.trod enc Tryz.prog w base spare held k 9 [v0]=some y0 from g0);have u0:=mz Tryz.underlying40 hw (j:=0) (u:=9) (d:=y0.1) rfl rfl;rw[hx0] at u0;have w0:bT m0.size:=by have:=vw u0;unfold bT;unfold reachBytes at this;rw[Lib.size_eq];omega
   simp only[tY,qZ] at c0;subst c0;obtain⟨m1,rfl,w1⟩:=tO (show DataW.trod enc Tryz.prog w base spare held k 3 [v1]=some y1 from g1);obtain⟨m2,c2,_⟩:=Kf Tryz.underlying4 (show DataW.trod enc Tryz.prog w base spare held k 4 [v2]=some y2 from g2);simp only[tY,qZ] at c2;subst c2;obtain⟨m3,c3,_⟩:=Kf Tryz.underlying4 (show DataW.trod enc Tryz.prog w base spare held k 4 [v3]=some y3 from g3);simp only[tY,qZ] at c3;subst c3;exact⟨⟨m0,m1,m2,m3⟩,rfl,w0,w1⟩
theorem Xb {fuel:Nat} {a0:Option Addr} {len cap:Nat} {x:DataW H×List MemPlace} (h:DataW.trod enc Tryz.prog w base spare held fuel 23 [.slice a0 len cap]=some x) (hw:qM 23 x.1) :
  ∃l:List jm,l.length=len/\cJ fB 4 eW w a0 l/\bT l.length/\(∀k,k<l.length->bT (au l k).data.size/\eY (au l k).refs)/\len<=cap:=by
 obtain⟨h1,h2,l,h3,h4,h5⟩:=vW Yx Tryz.underlying23 Xg Xk (by decide) abg h hw;subst h3;refine⟨l,rfl,fun h0=>?_,h2,fun k hk=>?_,h1⟩
 · obtain⟨b,off,e1,e2,e3⟩:=h4 h0;refine⟨b,off,e1,e2,fun i hi=>?_⟩;obtain⟨cs,_,⟨rfl,_⟩,q⟩:=e3 i hi;exact q
 · obtain⟨cs,_,q⟩:=h5 k hk;exact q
def Yw (cs:List Value) (y:lD):Prop:=cs=[.string y.data,I y.refs]/\bT y.data.size/\eY y.refs
theorem abf (n:Nat) (cs:List Value) (x:DataW H×List MemPlace) (hl:cs.length=2) (h:DataW.trod enc Tryz.prog w base spare held n 86 cs=some x) (hw:qM 86 x.1):∃y,Yw cs y:=by
 obtain⟨xs,k,hk,hxy,_,hxl,hf⟩:=vr Tryz.underlying86 h;rw[hxy] at hw
 match cs,hl with
 | [v0,v1],_ =>
  have g0:DataW.trod enc Tryz.prog w base spare held k 9 (([v0,v1].drop 0).take (Tryz.prog.cellsOf 9))=xs[0]?:=hf 0 _ rfl;have g1:DataW.trod enc Tryz.prog w base spare held k 3 (([v0,v1].drop 1).take (Tryz.prog.cellsOf 3))=xs[1]?:=hf 1 _ rfl;simp only[wy,Fp] at g0 g1
  match xs,hxl with
  | [y0,y1],_ =>
   obtain⟨m0,c0,hx0,_⟩:=Ko Tryz.underlying9 (show DataW.trod enc Tryz.prog w base spare held k 9 [v0]=some y0 from g0);have u0:=mz Tryz.underlying86 hw (j:=0) (u:=9) (d:=y0.1) rfl rfl;rw[hx0] at u0;have w0:bT m0.size:=by grind [vw,bT,reachBytes,Lib.size_eq]
   simp only[tY,qZ] at c0;subst c0;obtain⟨m1,rfl,w1⟩:=tO (show DataW.trod enc Tryz.prog w base spare held k 3 [v1]=some y1 from g1);exact⟨⟨m0,m1⟩,rfl,w0,w1⟩
theorem Xa {fuel:Nat} {a0:Option Addr} {len cap:Nat} {x:DataW H×List MemPlace} (h:DataW.trod enc Tryz.prog w base spare held fuel 24 [.slice a0 len cap]=some x) (hw:qM 24 x.1) :
  ∃l:List lD,l.length=len/\cJ fA 2 jS w a0 l/\bT l.length/\(∀k,k<l.length->bT (br l k).data.size/\eY (br l k).refs)/\len<=cap:=by
 obtain⟨h1,h2,l,h3,h4,h5⟩:=vW Yw Tryz.underlying24 Xe Xj (by decide) abf h hw;subst h3;refine⟨l,rfl,fun h0=>?_,h2,fun k hk=>?_,h1⟩
 · obtain⟨b,off,e1,e2,e3⟩:=h4 h0;refine⟨b,off,e1,e2,fun i hi=>?_⟩;obtain⟨cs,_,⟨rfl,_⟩,q⟩:=e3 i hi;exact q
 · obtain⟨cs,_,q⟩:=h5 k hk;exact q
def Yy (cs:List Value) (y:bG):Prop:=cs=[I y.page,I y.kind,I y.loc]/\eY y.page/\eY y.kind/\eY y.loc
theorem abh (n:Nat) (cs:List Value) (x:DataW H×List MemPlace) (hl:cs.length=3) (h:DataW.trod enc Tryz.prog w base spare held n 45 cs=some x) (hw:qM 45 x.1):∃y,Yy cs y:=by
 obtain⟨xs,k,hk,hxy,_,hxl,hf⟩:=vr Tryz.underlying45 h;rw[hxy] at hw
 match cs,hl with
 | [v0,v1,v2],_ =>
  have g0:DataW.trod enc Tryz.prog w base spare held k 3 (([v0,v1,v2].drop 0).take (Tryz.prog.cellsOf 3))=xs[0]?:=hf 0 _ rfl;have g1:DataW.trod enc Tryz.prog w base spare held k 3 (([v0,v1,v2].drop 1).take (Tryz.prog.cellsOf 3))=xs[1]?:=hf 1 _ rfl;have g2:DataW.trod enc Tryz.prog w base spare held k 3 (([v0,v1,v2].drop 2).take (Tryz.prog.cellsOf 3))=xs[2]?:=hf 2 _ rfl;simp only[wy] at g0 g1 g2
  match xs,hxl with
  | [y0,y1,y2],_ =>
   obtain⟨m0,rfl,w0⟩:=tO (show DataW.trod enc Tryz.prog w base spare held k 3 [v0]=some y0 from g0);obtain⟨m1,rfl,w1⟩:=tO (show DataW.trod enc Tryz.prog w base spare held k 3 [v1]=some y1 from g1);obtain⟨m2,rfl,w2⟩:=tO (show DataW.trod enc Tryz.prog w base spare held k 3 [v2]=some y2 from g2);exact⟨⟨m0,m1,m2⟩,rfl,w0,w1,w2⟩
theorem Xc {fuel:Nat} {a0:Option Addr} {len cap:Nat} {x:DataW H×List MemPlace} (h:DataW.trod enc Tryz.prog w base spare held fuel 41 [.slice a0 len cap]=some x) (hw:qM 41 x.1) :
  ∃l:List bG,l.length=len/\cJ bj 3 dW w a0 l/\bT l.length/\(∀k,k<l.length->eY (aH l k).page/\eY (aH l k).kind/\eY (aH l k).loc)/\len<=cap:=by
 obtain⟨h1,h2,l,h3,h4,h5⟩:=vW Yy Tryz.underlying41 Xh Xl (by decide) abh h hw;subst h3;refine⟨l,rfl,fun h0=>?_,h2,fun k hk=>?_,h1⟩
 · obtain⟨b,off,e1,e2,e3⟩:=h4 h0;refine⟨b,off,e1,e2,fun i hi=>?_⟩;obtain⟨cs,_,⟨rfl,_⟩,q⟩:=e3 i hi;exact q
 · obtain⟨cs,_,q⟩:=h5 k hk;exact q
def Yv (w:World) (cs:List Value) (y:cO):Prop:=∃va ap cp,cs=[.bool y.live,va,.slice ap y.aU.length cp]/\fu w va y.bk/\cJ bj 3 dW w ap y.aU/\y.aU.length<=cp/\BW y
theorem abe (n:Nat) (cs:List Value) (x:DataW H×List MemPlace) (hl:cs.length=3) (h:DataW.trod enc Tryz.prog w base spare held n 43 cs=some x) (hw:qM 43 x.1):∃y,Yv w cs y:=by
 obtain⟨xs,k,hk,hxy,_,hxl,hf⟩:=vr Tryz.underlying43 h;rw[hxy] at hw
 match cs,hl with
 | [v0,v1,v2],_ =>
  have g0:DataW.trod enc Tryz.prog w base spare held k 4 (([v0,v1,v2].drop 0).take (Tryz.prog.cellsOf 4))=xs[0]?:=hf 0 _ rfl;have g1:DataW.trod enc Tryz.prog w base spare held k 28 (([v0,v1,v2].drop 1).take (Tryz.prog.cellsOf 28))=xs[1]?:=hf 1 _ rfl;have g2:DataW.trod enc Tryz.prog w base spare held k 41 (([v0,v1,v2].drop 2).take (Tryz.prog.cellsOf 41))=xs[2]?:=hf 2 _ rfl;simp only[Ti,IQ,UF] at g0 g1 g2
  match xs,hxl with
  | [y0,y1,y2],_ =>
   obtain⟨lv,c0,_⟩:=Kf Tryz.underlying4 (show DataW.trod enc Tryz.prog w base spare held k 4 [v0]=some y0 from g0);have u1:=mz Tryz.underlying43 hw (j:=1) (u:=28) (d:=y1.1) rfl rfl;have u2:=mz Tryz.underlying43 hw (j:=2) (u:=41) (d:=y2.1) rfl rfl;have t1:DataW.trod enc Tryz.prog w base spare held k 28 [v1]=some y1:=g1;have t2:DataW.trod enc Tryz.prog w base spare held k 41 [v2]=some y2:=g2;obtain⟨av,lvn,cv,d1⟩:=oQ Tryz.underlying28 t1;obtain⟨ap,lp,cp,d2⟩:=oQ Tryz.underlying41 t2;subst d1;subst d2;obtain⟨l,n1,n2,n3,n4⟩:=D3 t1;obtain⟨ps,s1,s2,s3,s4,s5⟩:=Xc t2 u2;simp only[tY,qZ] at c0;subst c0;subst s1;refine⟨⟨lv,l,ps⟩,_,ap,cp,rfl,n2,s2,s5,⟨n3,?_⟩,s3,s4⟩;rw[n1];rcases n4 with e | ⟨el,sp,e1,e2⟩
   · omega
   · rw[e1] at u1;have hb:=(uC Tryz.underlying28 u1).1;rw[Lb,e2] at hb;unfold reachBytes at hb;omega
theorem WZ {fuel:Nat} {a0:Option Addr} {len cap:Nat} {x:DataW H×List MemPlace} (h:DataW.trod enc Tryz.prog w base spare held fuel 25 [.slice a0 len cap]=some x) (hw:qM 25 x.1) :
  ∃l:List cO,l.length=len/\qQ w a0 l/\bT l.length/\∀k,k<l.length->BW (ak l k):=by
 obtain⟨h1,h2,l,h3,h4,h5⟩:=vW (Yv w) Tryz.underlying25 Xd Xi (by decide) abe h hw;subst h3;refine⟨l,rfl,fun h0=>?_,h2,fun k hk=>?_⟩
 · obtain⟨b,off,e1,e2,e3⟩:=h4 h0;refine⟨b,off,e1,e2,fun i hi=>?_⟩;obtain⟨cs,_,⟨va,ap,cp,rfl,r1,r2,r3,_⟩,q⟩:=e3 i hi;exact⟨va,ap,cp,q 0 (by decide),q 1 (by decide),q 2 (by decide),r1,r2,r3⟩
 · obtain⟨cs,_,_,_,_,_,_,_,q⟩:=h5 k hk;exact q
theorem Ms {fuel:Nat} {cs:List Value} {x:DataW H×List MemPlace} (h:DataW.trod enc Tryz.prog w base spare held fuel 27 cs=some x) (hw:qM 27 x.1) :
  ∃(k:aN) (a:fR),cs=(bg a k).toList/\gD w a k/\iI k:=by
 obtain⟨xs,k,hk,hxy,hcl,hxl,hf⟩:=vr Tryz.underlying27 h;rw[hxy] at hw;rw[Xf] at hcl
 match cs,hcl with
 | [v0,v1,v2,v3,v4],_ =>
  have g0:DataW.trod enc Tryz.prog w base spare held k 22 (([v0,v1,v2,v3,v4].drop 0).take (Tryz.prog.cellsOf 22))=xs[0]?:=hf 0 _ rfl;have g1:DataW.trod enc Tryz.prog w base spare held k 23 (([v0,v1,v2,v3,v4].drop 1).take (Tryz.prog.cellsOf 23))=xs[1]?:=hf 1 _ rfl;have g2:DataW.trod enc Tryz.prog w base spare held k 24 (([v0,v1,v2,v3,v4].drop 2).take (Tryz.prog.cellsOf 24))=xs[2]?:=hf 2 _ rfl;have g3:DataW.trod enc Tryz.prog w base spare held k 25 (([v0,v1,v2,v3,v4].drop 3).take (Tryz.prog.cellsOf 25))=xs[3]?:=hf 3 _ rfl;have g4:DataW.trod enc Tryz.prog w base spare held k 3 (([v0,v1,v2,v3,v4].drop 4).take (Tryz.prog.cellsOf 3))=xs[4]?:=hf 4 _ rfl;simp only[wy,IP,UE,UD,UC] at g0 g1 g2 g3 g4
  match xs,hxl with
  | [y0,y1,y2,y3,y4],_ =>
   obtain⟨hd,rfl,i4⟩:=tO (show DataW.trod enc Tryz.prog w base spare held k 3 [v4]=some y4 from g4);have u0:=mz Tryz.underlying27 hw (j:=0) (u:=22) (d:=y0.1) rfl rfl;have t0:DataW.trod enc Tryz.prog w base spare held k 22 [v0]=some y0:=g0;obtain⟨a0,l0,c0,d0⟩:=oQ Tryz.underlying22 t0;have u1:=mz Tryz.underlying27 hw (j:=1) (u:=23) (d:=y1.1) rfl rfl;have t1:DataW.trod enc Tryz.prog w base spare held k 23 [v1]=some y1:=g1;obtain⟨a1,l1,c1,d1⟩:=oQ Tryz.underlying23 t1;have u2:=mz Tryz.underlying27 hw (j:=2) (u:=24) (d:=y2.1) rfl rfl;have t2:DataW.trod enc Tryz.prog w base spare held k 24 [v2]=some y2:=g2;obtain⟨a2,l2,c2,d2⟩:=oQ Tryz.underlying24 t2;have u3:=mz Tryz.underlying27 hw (j:=3) (u:=25) (d:=y3.1) rfl rfl;have t3:DataW.trod enc Tryz.prog w base spare held k 25 [v3]=some y3:=g3;obtain⟨a3,l3,c3,d3⟩:=oQ Tryz.underlying25 t3;subst d0;subst d1;subst d2;subst d3;obtain⟨hs,rfl,s2,s3,s4⟩:=OQ t0 u0;obtain⟨fs,rfl,f2,f3,f4,f5⟩:=Xb t1 u1;obtain⟨ls,rfl,m2,m3,m4,m5⟩:=Xa t2 u2;obtain⟨ss,rfl,p2,p3,p4⟩:=WZ t3 u3;exact⟨⟨hs,fs,ls,ss,hd⟩,⟨a0,c0,a1,c1,a2,c2,a3,c3⟩,rfl,⟨s2,f2,m2,p2⟩,⟨s3,f3,f4,m3,m4,p3,p4,i4⟩⟩
end
end Go.Proofs.YtpgifpeohlllfaaGreat
