import Derived.Test.YtpgifpeohlllfaaGreatGP00
import Derived.Test.YtpgifpeohlllfaaGreatGP31
import Derived.Test.YtpgifpeohlllfaaGreatGP34
import Derived.Test.YtpgifpeohlllfaaGreatGP35
import Derived.Test.YtpgifpeohlllfaaGreatGP09
import Derived.Test.YtpgifpeohlllfaaGreatChecked
import Derived.Deep.Slices
import Derived.ProofKit
import Derived.SizedLaws
import Derived.Test.YtpgifpeohlllfaaGreatGP10
import Derived.Test.YtpgifpeohlllfaaGreatGP01
import Derived.Test.YtpgifpeohlllfaaGreatGP06
import Derived.OpenShut
set_option maxHeartbeats 20000000
set_option linter.unusedVariables false
set_option maxRecDepth 100000
set_option linter.unusedSimpArgs false
namespace Go.Proofs.YtpgifpeohlllfaaGreat
namespace KG
open Go.RowKit GK KO
open FW (ai aC)
open KW (fe cO aH eY)
def Th (V:World) (K:List LM.Sh->KM.Kn) (a:fe):Prop:=∃b1 b2 b3 d1 d2 d3,cO V a (K (ot b1 b2 b3 d1 d2 d3))
theorem Ap {w:World} {K:List LM.Sh->KM.Kn} {H:List LM.Sh} {vs:List Value} {e:Ending} {w':World} (hH:H.map LM.plain=T9) (hS:∀H,(K H).ak=H) (hW:∀H H',KM.bl (K H) H'=K H') (h:KZ.dw w (K H) vs e w'):∃a b1 b2 b3 d1 d2 d3,e=.returned (.tuple (Value.agg (aH a (K (ot b1 b2 b3 d1 d2 d3)))::vs).toArray)/\(∀U,Kp (fun b=>b<w.heap.size) w' U->Th U K a)/\Below w.heap.size w w':=by
 obtain⟨hs,a,h1,h2,h3,h4⟩:=QR h
 rw[hS] at h1
 obtain⟨b1,b2,b3,d1,d2,d3,rfl⟩:=QP (Eq.trans h1 hH)
 rw[hW] at h2 h3
 exact⟨a,b1,b2,b3,d1,d2,d3,h2,fun U hU=>⟨b1,b2,b3,d1,d2,d3,h3 U hU⟩,h4⟩
theorem rh (b1 b2 b3:Option Addr) (d1 d2 d3:Nat):(ot b1 b2 b3 d1 d2 d3).map LM.plain=T9:=rfl
theorem RV {V:World} {ar ah:Option Addr} {cr ch:Nat} {a1 a2 a3:Option Addr} {c1 c2 c3:Nat} (h1:AW.Has V (.slice ar 2 cr) Eb) (h2:LM.jg V ah (ot a1 a2 a3 c1 c2 c3)) (h3:3<=ch):Calls Tryz.prog 18 #[.agg #[.slice ar 2 cr,.slice ah 3 ch,I 16],I 3,I 8] V fun e w'=>∃a,e=.returned (.tuple #[.agg #[.slice a.aS 3 a.cS,.slice a.aF 3 a.cF,.slice a.aL 8 a.cL,.slice a.aP 1 a.cP,I 0],I 0])/\(∀U,Kp (fun b=>b<V.heap.size) w' U->Th U GJ a)/\Below V.heap.size V w':=by
 refine(KZ.OQ KY.Dm Eb (ot a1 a2 a3 c1 c2 c3) 16 3 8 (.slice ar 2 cr) ah ch V h1 Ot h2 (Oq a1 a2 a3 c1 c2 c3) h3 (by unfold M.fR;decide)).mono fun e w' h=>?_
 have e0:KZ.OT Eb (ot a1 a2 a3 c1 c2 c3) 16 3 8=(GJ (ot a1 a2 a3 c1 c2 c3),0):=by kernel_rfl
 rw[e0] at h
 obtain⟨a,b1,b2,b3,d1,d2,d3,g1,g2,g3⟩:=Ap (rh _ _ _ _ _ _) (fun _=>rfl) (fun _ _=>rfl) h
 exact⟨a,g1,g2,g3⟩
theorem H0 {V:World} {a:fe} (h:Th V GJ a):Calls Tryz.prog 28 #[.agg #[.slice a.aS 3 a.cS,.slice a.aF 3 a.cF,.slice a.aL 8 a.cL,.slice a.aP 1 a.cP,I 0],I 0,I 46,.string ⟨#[119,120,121,122]⟩] V fun e w'=>∃a,e=.returned (.tuple #[.agg #[.slice a.aS 3 a.cS,.slice a.aF 3 a.cF,.slice a.aL 8 a.cL,.slice a.aP 1 a.cP,I 0],.agg #[I 0,I 0],I 0])/\(∀U,Kp (fun b=>b<V.heap.size) w' U->Th U GI a)/\Below V.heap.size V w':=by
 obtain⟨b1,b2,b3,d1,d2,d3,hk⟩:=h
 refine(KZ.yN KY.Dm _ a 0 46 wxD V hk (O4 b1 b2 b3 d1 d2 d3) (by unfold M.fR;decide) (by unfold M.fR;decide)).mono fun e w' h=>?_
 rw[IY] at h
 obtain⟨a,b1,b2,b3,d1,d2,d3,g1,g2,g3⟩:=Ap (rh _ _ _ _ _ _) (fun _=>rfl) (fun _ _=>rfl) h
 exact⟨a,g1,g2,g3⟩
theorem Oo {V:World} {a:fe} (h:Th V GI a):Calls Tryz.prog 39 #[.agg #[.slice a.aS 3 a.cS,.slice a.aF 3 a.cF,.slice a.aL 8 a.cL,.slice a.aP 1 a.cP,I 0],I 0] V fun e w'=>∃a,e=.returned (.tuple #[.agg #[.slice a.aS 3 a.cS,.slice a.aF 3 a.cF,.slice a.aL 8 a.cL,.slice a.aP 2 a.cP,I 0],I 1,I 0])/\(∀U,Kp (fun b=>b<V.heap.size) w' U->Th U JW a)/\Below V.heap.size V w':=by
 obtain⟨b1,b2,b3,d1,d2,d3,hk⟩:=h
 refine(KZ.MF KY.Dm _ a 0 V hk (O0 b1 b2 b3 d1 d2 d3) (by unfold M.fR;decide)).mono fun e w' h=>?_
 have e0:KZ.uy (GI (ot b1 b2 b3 d1 d2 d3)) 0=(JW (ot b1 b2 b3 d1 d2 d3),1,0):=by kernel_rfl
 rw[e0] at h
 obtain⟨a,b1,b2,b3,d1,d2,d3,g1,g2,g3⟩:=Ap (rh _ _ _ _ _ _) (fun _=>rfl) (fun _ _=>rfl) h
 exact⟨a,g1,g2,g3⟩
theorem Hz {V:World} {a:fe} (h:Th V JW a):Calls Tryz.prog 28 #[.agg #[.slice a.aS 3 a.cS,.slice a.aF 3 a.cF,.slice a.aL 8 a.cL,.slice a.aP 2 a.cP,I 0],I 1,I 32,.string ⟨#[113]⟩] V fun e w'=>∃a,e=.returned (.tuple #[.agg #[.slice a.aS 3 a.cS,.slice a.aF 3 a.cF,.slice a.aL 8 a.cL,.slice a.aP 2 a.cP,I 0],.agg #[I 0,I 0],I 0])/\(∀U,Kp (fun b=>b<V.heap.size) w' U->Th U GH a)/\Below V.heap.size V w':=by
 obtain⟨b1,b2,b3,d1,d2,d3,hk⟩:=h
 refine(KZ.yN KY.Dm _ a 1 32 qD V hk (OZ b1 b2 b3 d1 d2 d3) (by unfold M.fR;decide) (by unfold M.fR;decide)).mono fun e w' h=>?_
 rw[IP] at h
 obtain⟨a,b1,b2,b3,d1,d2,d3,g1,g2,g3⟩:=Ap (rh _ _ _ _ _ _) (fun _=>rfl) (fun _ _=>rfl) h
 exact⟨a,g1,g2,g3⟩
theorem Om {V:World} {a:fe} (h:Th V GH a):Calls Tryz.prog 25 #[.agg #[.slice a.aS 3 a.cS,.slice a.aF 3 a.cF,.slice a.aL 8 a.cL,.slice a.aP 2 a.cP,I 0],I 0,I 32,I 2,I 0] V fun e w'=>∃(a:fe) (hd:Int) (n1 n2 n3 n4:Nat),e=.returned (.tuple #[.agg #[.slice a.aS n1 a.cS,.slice a.aF n2 a.cF,.slice a.aL n3 a.cL,.slice a.aP n4 a.cP,I hd],.string ⟨#[97,98]⟩,.agg #[I 0,I 0],I 0])/\Below V.heap.size V w':=by
 obtain⟨b1,b2,b3,d1,d2,d3,hk⟩:=h
 refine(KZ.LL KY.Dm _ a 0 32 2 0 V hk (GG b1 b2 b3 d1 d2 d3) (by unfold M.fR;decide) (by unfold M.fR;decide)).mono fun e w' h=>?_
 rw[LS] at h
 obtain⟨hs,a,h1,h2,h3,h4⟩:=QR h
 exact⟨a,_,_,_,_,_,h2,h4⟩
theorem Ol {V:World} {a:fe} (h:Th V GH a):Calls Tryz.prog 30 #[.agg #[.slice a.aS 3 a.cS,.slice a.aF 3 a.cF,.slice a.aL 8 a.cL,.slice a.aP 2 a.cP,I 0],I 1,I 2] V fun e w'=>e=.returned (.tuple #[.string Ua,I 0])/\Below V.heap.size V w':=by
 obtain⟨b1,b2,b3,d1,d2,d3,hk⟩:=h
 have:=KW.Cy _ a 1 2 V hk (GG b1 b2 b3 d1 d2 d3) (by unfold M.fR;decide)
 rw[LR] at this
 exact this
theorem vK {V U:World} {K:List LM.Sh->KM.Kn} {a:fe} (h:Th V K a) (hb:Below V.heap.size V U):Th U K a:=by
 obtain⟨b1,b2,b3,d1,d2,d3,hk⟩:=h
 exact⟨b1,b2,b3,d1,d2,d3,hk.below hb⟩
theorem LQ {w W w3:World} {kb n:Nat} {b:fe} {c0 c1 c2 c3 c4:Value} {K:List LM.Sh->KM.Kn} (hB:Below w.heap.size w W) (Vv:w.heap.size<=kb) (hkb:kb<W.heap.size) (hb:Below W.heap.size W w3) (hk:w3.heap[kb]?=some (.cells #[c0,c1,c2,c3,c4] 27 (0,0))) (ht:∀U,Kp (fun x=>x<W.heap.size) w3 U->Th U K b) {V:World} (hV:V=(((((w3.setCell (Ad kb 0) (.slice b.aS 3 b.cS)).setCell (Ad kb 1) (.slice b.aF 3 b.cF)).setCell (Ad kb 2) (.slice b.aL 8 b.cL)).setCell (Ad kb 3) (.slice b.aP n b.cP)).setCell (Ad kb 4) (I 0))) :
  V.heap[kb]?=some (.cells #[.slice b.aS 3 b.cS,.slice b.aF 3 b.cF,.slice b.aL 8 b.cL,.slice b.aP n b.cP,I 0] 27 (0,0))/\Th V K b/\Below w.heap.size w V/\Kp (fun x=>x=kb) w3 V:=by
 have hk2:V.heap[kb]?=some (.cells #[.slice b.aS 3 b.cS,.slice b.aF 3 b.cF,.slice b.aL 8 b.cL,.slice b.aP n b.cP,I 0] 27 (0,0)):=by rw[hV];exact B.set (B.set (B.set (B.set (B.set hk 0 _) 1 _) 2 _) 3 _) 4 _
 have kp:Kp (fun x=>x=kb) w3 V:=by
  rw[hV]
  have k:∀(A:World) (j:Nat) (v:Value),Kp (fun x=>x=kb) A (A.setCell (Ad kb j) v):=fun A j v=>Kp.set _ A (Ad kb j) v rfl
  exact((((k _ _ _).trans (k _ _ _) (fun _ _ g=>g)).trans (k _ _ _) (fun _ _ g=>g)).trans (k _ _ _) (fun _ _ g=>g)).trans (k _ _ _) (fun _ _ g=>g)
 have eW:Below w.heap.size w w3:=hB.trans (hb.mono hB.size)
 exact⟨hk2,ht V (kp.mono (fun x _ e=>by rw[e];exact hkb)),Kp.below eW kp eW.size (fun x e=>by rw[e];exact Vv),kp⟩
theorem JH (w:World):Calls Tryz.prog 15 #[] w fun e w'=>e=.returned (.bool true)/\Below w.heap.size w w':=by
 go_enter Tryz.func15,Tryz.ntmps15
 go_upto_region 2 with(first
  | (go_at_call 50;refine(Hy _).mono ?_;rintro e w1 ⟨ar,cr,ah,ch,a1,a2,a3,c1,c2,c3,rfl,h1,h2,h3,h4⟩;have aZ:=ai h4;have HN:=ai (RV h1 h2 h3);clear h1 h2 h3 h4)
  | (go_at_call 18;refine HN.o.mono ?_;rintro e w2 ⟨a,rfl,L5,hb⟩;have HT2:=ai L5;have kv:=ai hb;have bY:=ai (aZ.o.trans (hb.mono aZ.o.size));clear L5 hb))
 have HB:=ai (bY.o.alloc bY.o.size (.cells #[.slice a.aS 3 a.cS,.slice a.aF 3 a.cF,.slice a.aL 8 a.cL,.slice a.aP 1 a.cP,I 0] 27))
 have KB:=ai (B.new w2 #[.slice a.aS 3 a.cS,.slice a.aF 3 a.cF,.slice a.aL 8 a.cL,.slice a.aP 1 a.cP,I 0] 27)
 have HT:=ai (HT2.o _ (Kp.alloc _ w2 (.cells #[.slice a.aS 3 a.cS,.slice a.aF 3 a.cF,.slice a.aL 8 a.cL,.slice a.aP 1 a.cP,I 0] 27)))
 obtain⟨W,hW⟩:=ex (w2.alloc (.cells #[.slice a.aS 3 a.cS,.slice a.aF 3 a.cF,.slice a.aL 8 a.cL,.slice a.aP 1 a.cP,I 0] 27))
 obtain⟨kb,hkb⟩:=ex w2.heap.size
 have Vv:w.heap.size<=kb:=by rw[hkb];exact bY.o.size
 rw[<- hW] at HB KB HT ⊢
 rw[<- hkb] at KB ⊢
 clear hW hkb HT2 kv bY aZ HN
 obtain⟨k0,k1,k2,k3,k4⟩:=B.c5 KB.o
 have jC:=ai (H0 HT.o)
 go_upto_region 3 with(go_at_call 28;refine jC.o.mono ?_;rintro e v1 ⟨b1,rfl,L5,hb⟩;have Rp:=ai L5;have nB:=ai hb;have K3:=B.below KB.o hb (B.isLt KB.o);have ld:=ai K3;obtain⟨k0,k1,k2,k3,k4⟩:=B.c5 K3;have f0:=B.free K3 0;have f1:=B.free K3 1;have f2:=B.free K3 2;have f3:=B.free K3 3;have f4:=B.free K3 4;have hkl:=B.isLt K3;clear L5 hb K3)
 have HL:=ai (LQ (n:=1) HB.o Vv (B.isLt KB.o) nB.o ld.o Rp.o rfl)
 have HX:=ai (HL.o.2.2.1.alloc HL.o.2.2.1.size (.cells #[I 0,I 0] 36))
 have KX:=ai (B.alloc HL.o.1 (.cells #[I 0,I 0] 36))
 have Ns:=ai (vK HL.o.2.1 ((Below.refl _ _).alloc (Nat.le_refl _) (.cells #[I 0,I 0] 36)))
 have F1:=ai (B.new (((((v1.setCell (Ad kb 0) (.slice b1.aS 3 b1.cS)).setCell (Ad kb 1) (.slice b1.aF 3 b1.cF)).setCell (Ad kb 2) (.slice b1.aL 8 b1.cL)).setCell (Ad kb 3) (.slice b1.aP 1 b1.cP)).setCell (Ad kb 4) (I 0)) #[I 0,I 0] 36)
 have hsz:(((((v1.setCell (Ad kb 0) (.slice b1.aS 3 b1.cS)).setCell (Ad kb 1) (.slice b1.aF 3 b1.cF)).setCell (Ad kb 2) (.slice b1.aL 8 b1.cL)).setCell (Ad kb 3) (.slice b1.aP 1 b1.cP)).setCell (Ad kb 4) (I 0)).heap.size=v1.heap.size:=by simp
 rw[hsz] at F1
 obtain⟨fb1,qY⟩:=ex v1.heap.size
 have x4:Hid (¬fb1=kb):=(show ¬fb1=kb from fun e=>by omega)
 obtain⟨W1,hW⟩:=ex ((((((v1.setCell (Ad kb 0) (.slice b1.aS 3 b1.cS)).setCell (Ad kb 1) (.slice b1.aF 3 b1.cF)).setCell (Ad kb 2) (.slice b1.aL 8 b1.cL)).setCell (Ad kb 3) (.slice b1.aP 1 b1.cP)).setCell (Ad kb 4) (I 0)).alloc (.cells #[I 0,I 0] 36))
 rw[<- hW] at HX KX Ns F1 ⊢
 rw[<- qY] at F1 ⊢
 clear hW qY hsz
 clear k0 k1 k2 k3 k4 f0 f1 f2 f3 f4 hkl HL ld Rp nB jC HB KB HT
 have HB:=HX
 have KB:=KX
 have HT:=Ns
 clear HX KX Ns
 obtain⟨k0,k1,k2,k3,k4⟩:=B.c5 KB.o
 have jC:=ai (Oo HT.o)
 go_upto_region 4 with(go_at_call 39;refine jC.o.mono ?_;rintro e v2 ⟨b2,rfl,L5,hb⟩;have Rp:=ai L5;have nB:=ai hb;have K3:=B.below KB.o hb (B.isLt KB.o);have ld:=ai K3;obtain⟨k0,k1,k2,k3,k4⟩:=B.c5 K3;have f0:=B.free K3 0;have f1:=B.free K3 1;have f2:=B.free K3 2;have f3:=B.free K3 3;have f4:=B.free K3 4;have hkl:=B.isLt K3;clear L5 hb K3)
 have HL:=ai (LQ (n:=2) HB.o Vv (B.isLt KB.o) nB.o ld.o Rp.o rfl)
 have F1:=ai (HL.o.2.2.2.keep (B.below F1.o nB.o (B.isLt F1.o)) x4.o)
 have HX:=ai HL.o.2.2.1
 have KX:=ai HL.o.1
 have Ns:=ai HL.o.2.1
 obtain⟨W2,hW⟩:=ex ((((((v2.setCell (Ad kb 0) (.slice b2.aS 3 b2.cS)).setCell (Ad kb 1) (.slice b2.aF 3 b2.cF)).setCell (Ad kb 2) (.slice b2.aL 8 b2.cL)).setCell (Ad kb 3) (.slice b2.aP 2 b2.cP)).setCell (Ad kb 4) (I 0)))
 rw[<- hW] at HX KX Ns F1 ⊢
 clear hW
 clear k0 k1 k2 k3 k4 f0 f1 f2 f3 f4 hkl HL ld Rp nB jC HB KB HT
 have HB:=HX
 have KB:=KX
 have HT:=Ns
 clear HX KX Ns
 obtain⟨k0,k1,k2,k3,k4⟩:=B.c5 KB.o
 have jC:=ai (Hz HT.o)
 go_upto_region 5 with(go_at_call 28;refine jC.o.mono ?_;rintro e v3 ⟨b3,rfl,L5,hb⟩;have Rp:=ai L5;have nB:=ai hb;have K3:=B.below KB.o hb (B.isLt KB.o);have ld:=ai K3;obtain⟨k0,k1,k2,k3,k4⟩:=B.c5 K3;have f0:=B.free K3 0;have f1:=B.free K3 1;have f2:=B.free K3 2;have f3:=B.free K3 3;have f4:=B.free K3 4;have hkl:=B.isLt K3;clear L5 hb K3)
 have HL:=ai (LQ (n:=2) HB.o Vv (B.isLt KB.o) nB.o ld.o Rp.o rfl)
 have F1:=ai (HL.o.2.2.2.keep (B.below F1.o nB.o (B.isLt F1.o)) x4.o)
 have HX:=ai (HL.o.2.2.1.alloc HL.o.2.2.1.size (.cells #[I 0,I 0] 36))
 have KX:=ai (B.alloc HL.o.1 (.cells #[I 0,I 0] 36))
 have Ns:=ai (vK HL.o.2.1 ((Below.refl _ _).alloc (Nat.le_refl _) (.cells #[I 0,I 0] 36)))
 have F1:=ai (B.alloc F1.o (.cells #[I 0,I 0] 36))
 have F2:=ai (B.new (((((v3.setCell (Ad kb 0) (.slice b3.aS 3 b3.cS)).setCell (Ad kb 1) (.slice b3.aF 3 b3.cF)).setCell (Ad kb 2) (.slice b3.aL 8 b3.cL)).setCell (Ad kb 3) (.slice b3.aP 2 b3.cP)).setCell (Ad kb 4) (I 0)) #[I 0,I 0] 36)
 have hsz:(((((v3.setCell (Ad kb 0) (.slice b3.aS 3 b3.cS)).setCell (Ad kb 1) (.slice b3.aF 3 b3.cF)).setCell (Ad kb 2) (.slice b3.aL 8 b3.cL)).setCell (Ad kb 3) (.slice b3.aP 2 b3.cP)).setCell (Ad kb 4) (I 0)).heap.size=v3.heap.size:=by simp
 rw[hsz] at F2
 obtain⟨fb2,qY⟩:=ex v3.heap.size
 have DG:Hid (¬fb2=kb):=(show ¬fb2=kb from fun e=>by omega)
 obtain⟨W3,hW⟩:=ex ((((((v3.setCell (Ad kb 0) (.slice b3.aS 3 b3.cS)).setCell (Ad kb 1) (.slice b3.aF 3 b3.cF)).setCell (Ad kb 2) (.slice b3.aL 8 b3.cL)).setCell (Ad kb 3) (.slice b3.aP 2 b3.cP)).setCell (Ad kb 4) (I 0)).alloc (.cells #[I 0,I 0] 36))
 rw[<- hW] at HX KX Ns F1 F2 ⊢
 rw[<- qY] at F2 ⊢
 clear hW qY hsz
 clear k0 k1 k2 k3 k4 f0 f1 f2 f3 f4 hkl HL ld Rp nB jC HB KB HT
 have HB:=HX
 have KB:=KX
 have HT:=Ns
 clear HX KX Ns
 obtain⟨k0,k1,k2,k3,k4⟩:=B.c5 KB.o
 have jC:=ai (Om HT.o)
 go_upto_region 6 with(go_at_call 25;refine jC.o.mono ?_;rintro e v4 ⟨b4,ZQ,m1,m2,m3,m4,rfl,hb⟩;have nB:=ai hb;clear hb)
 have n7:=ai (nB.o.alloc nB.o.size (.cells #[.slice b4.aS m1 b4.cS,.slice b4.aF m2 b4.cF,.slice b4.aL m3 b4.cL,.slice b4.aP m4 b4.cP,I ZQ] 27))
 have DL:=ai (n7.o.alloc n7.o.size (.cells #[I 0,I 0] 36))
 have F3:=ai (KZ.n1 v4 (.cells #[.slice b4.aS m1 b4.cS,.slice b4.aF m2 b4.cF,.slice b4.aL m3 b4.cL,.slice b4.aP m4 b4.cP,I ZQ] 27) #[I 0,I 0] 36)
 obtain⟨W4,hW⟩:=ex ((v4.alloc (.cells #[.slice b4.aS m1 b4.cS,.slice b4.aF m2 b4.cF,.slice b4.aL m3 b4.cL,.slice b4.aP m4 b4.cP,I ZQ] 27)).alloc (.cells #[I 0,I 0] 36))
 obtain⟨Wk,qY⟩:=ex (v4.heap.size+1)
 rw[<- hW] at DL F3 ⊢
 rw[<- qY] at F3 ⊢
 clear hW qY n7 nB k0 k1 k2 k3 k4
 have KY:=ai (B.below KB.o DL.o (B.isLt KB.o))
 have HTY:=ai (vK HT.o DL.o)
 have F1:=ai (B.below F1.o DL.o (B.isLt F1.o))
 have F2:=ai (B.below F2.o DL.o (B.isLt F2.o))
 have gN:=ai (HB.o.trans (DL.o.mono HB.o.size))
 obtain⟨k0,k1,k2,k3,k4⟩:=B.c5 KY.o
 have iy:=ai (Ol HTY.o)
 have hp1:Ua.size=16:=rfl
 have hp2:Ua.extract 0 3=⟨#[113,98,99]⟩:=by kernel_rfl
 have hp3:Ua.extract 14 16=⟨#[119,120]⟩:=by kernel_rfl
 obtain⟨D,hD⟩:=ex Ua
 rw[<- hD] at iy hp1 hp2 hp3
 clear hD
 go_upto_region 7 with(go_at_call 30;refine iy.o.mono ?_;rintro e v5 ⟨rfl,hb⟩;have ql:=ai (gN.o.trans (hb.mono gN.o.size));obtain⟨x1,y1⟩:=B.c2 (B.below F1.o hb (B.isLt F1.o));obtain⟨x2,y2⟩:=B.c2 (B.below F2.o hb (B.isLt F2.o));obtain⟨x3,y3⟩:=B.c2 (B.below F3.o hb (B.isLt F3.o));clear hb)
 go_wp2
 go_ret
 exact⟨by simp,ql.o⟩
end KG
namespace W
open Go.RowKit Go.Deep
theorem qU:Tryz.prog.cellsOf 9=1:=by kernel_rfl
theorem cells3:Tryz.prog.cellsOf 3=1:=by kernel_rfl
theorem xL:Tryz.prog.cellsOf 4=1:=by kernel_rfl
theorem kG (n:Int) (h:(Lit.int .i64 n).wf=true):M.fR n:=CM.bounds n h
theorem pO {w:World} {b o:Nat} {v:Value} (h:w.cell? (Ad b o)=some v):b<w.heap.size:=by
 rcases Nat.lt_or_ge b w.heap.size with g | g
 · exact g
 · have e:w.heap[b]?=none:=Array.getElem?_eq_none g
   simp[World.cell?,e] at h
instance:Inhabited M.Sg:=⟨M.NJ⟩
instance:Inhabited M.Sy:=⟨M.sy0⟩
instance:Inhabited M.Rl:=⟨M.rl0⟩
def OkW {H:Type} (t:TypeId) (d:DataW H):Prop:=∀n∈d.weights Tryz.prog t,n<=reachBytes
theorem oI {H:Type} {e:TypeId}:∀{l:List (DataW H)} {d:DataW H},d∈l->∀n∈d.weights Tryz.prog e,n∈DataW.weightsAll Tryz.prog e l
 | y::r,d,h,n,hn=>by
  simp only[DataW.weightsAll,List.mem_append]
  rcases List.mem_cons.1 h with h | h
  · subst h;exact .inl hn
  · exact .inr (oI h n hn)
theorem iV {H:Type} {t:TypeId} {b:List UInt8} (h:OkW (H:=H) t (.lit (.string b))):b.length<=reachBytes:=h _ (by simp[DataW.weights])
theorem jK {H:Type} {t e:TypeId} {el sp:List (DataW H)} (hu:Tryz.prog.underlying t=some (.slice e)) (h:OkW t (.slice el sp)):(el.length+sp.length)*Tryz.prog.bytesOf e<=reachBytes/\∀d∈el,OkW e d:=by
 refine⟨h _ (by simp[DataW.weights,hu]),fun d hd n hn=>h n ?_⟩
 simp only[DataW.weights,hu,List.mem_cons,List.mem_append]
 exact .inr (.inl (oI hd n hn))
theorem gG {H:Type} {t:TypeId} {fs:Array Field} {ps:List (DataW H)} (hu:Tryz.prog.underlying t=some (.struct fs)) (h:OkW t (.agg ps)) {j:Nat} {u:TypeId} {d:DataW H} (ht:(fs.toList.map (·.type))[j]?=some u) (hd:ps[j]?=some d):OkW u d:=fun n hn=>h n (by
 simp only[DataW.weights,hu]
 exact DataW.weights_mem_each ht hd n hn)
section
variable {H:Type} {enc:TypeId×Value->H} {w:World} {base:Nat} {spare:Nat->Bool} {held:Bool}
theorem iB {t e:TypeId} {fuel:Nat} {v:Value} {x:DataW H×List MemPlace} (ht:Tryz.prog.underlying t=some (.slice e)) (h:DataW.trod enc Tryz.prog w base spare held fuel t [v]=some x):∃a len cap,v=.slice a len cap:=by
 rcases open_slice ht h with⟨hcs,_⟩ | ⟨a,len',cap',m,n,D,Pl,hcs,_⟩
 · simp at hcs;exact⟨_,_,_,hcs⟩
 · simp at hcs;exact⟨_,_,_,hcs⟩
end
end W
namespace LW
open Go.RowKit Go.Deep
open W (OkW iV jK gG iB pO kG qU cells3)
theorem P7:Tryz.prog.cellsOf 52=2:=by kernel_rfl
theorem P5:Tryz.prog.cellsOf 50=3:=by kernel_rfl
theorem M6:Tryz.prog.cellsOf 48=1:=by kernel_rfl
theorem M5:Tryz.prog.cellsOf 22=1:=by kernel_rfl
theorem M9:Tryz.prog.cellsOf 28=1:=by kernel_rfl
theorem Qe:Tryz.prog.bytesOf 52=24:=by kernel_rfl
theorem Qd:Tryz.prog.bytesOf 50=48:=by kernel_rfl
theorem Qh:Tryz.prog.bytesOf 47=32:=by kernel_rfl
instance:Inhabited LM.Fx:=⟨LM.Wj⟩
instance:Inhabited LM.Sh:=⟨LM.JV⟩
section
variable {H:Type} {enc:TypeId×Value->H} {w:World} {base:Nat} {spare:Nat->Bool} {held:Bool}
theorem OL {n:Nat} {a:Addr} {cs:List Value} {x:DataW H×List MemPlace} (hc:w.cells? base a 2=some cs) (h:DataW.trod enc Tryz.prog w base spare held n 52 cs=some x) (hw:OkW 52 x.1) :
  ∃(x0:Int) (x1:ByteArray),(w.cell? (a.add 0)=some (I x0)/\M.fR x0)/\(w.cell? (a.add 1)=some (.string x1)/\M.br x1.size):=by
 obtain⟨_,hlen,hcell⟩:=World.cells?_some hc
 obtain⟨xs,k,hk,hxy,_,hxl,hf⟩:=DataW.trod_struct Tryz.underlying52 h
 rw[hxy] at hw
 match cs,hlen with
 | [v0,v1],_ =>
  have g0:DataW.trod enc Tryz.prog w base spare held k 3 (([v0,v1].drop 0).take (Tryz.prog.cellsOf 3))=xs[0]?:=hf 0 _ rfl
  have g1:DataW.trod enc Tryz.prog w base spare held k 9 (([v0,v1].drop 1).take (Tryz.prog.cellsOf 9))=xs[1]?:=hf 1 _ rfl
  simp only[cells3,qU] at g0 g1
  have e0:=hcell 0 (by omega)
  have e1:=hcell 1 (by omega)
  match xs,hxl with
  | [y0,y1],_ =>
   obtain⟨m0,c0,_,w0⟩:=DataW.trod_int Tryz.underlying3 (show DataW.trod enc Tryz.prog w base spare held k 3 [v0]=some y0 from g0)
   obtain⟨m1,c1,hx1,_⟩:=DataW.trod_string Tryz.underlying9 (show DataW.trod enc Tryz.prog w base spare held k 9 [v1]=some y1 from g1)
   have u1:=gG Tryz.underlying52 hw (j:=1) (u:=9) (d:=y1.1) rfl rfl
   rw[hx1] at u1
   have w1:M.br m1.size:=by have:=iV u1;unfold M.br;unfold reachBytes at this;rw[Lib.size_eq];exact this
   simp only[List.cons.injEq,and_true] at c0 c1
   subst c0;subst c1
   exact⟨m0,m1,⟨e0,kG _ w0⟩,⟨e1,w1⟩⟩
theorem Sj {fuel:Nat} {a0:Option Addr} {len cap:Nat} {x:DataW H×List MemPlace} (h:DataW.trod enc Tryz.prog w base spare held fuel 48 [.slice a0 len cap]=some x) (hw:OkW 48 x.1) :
  ∃l:List LM.Fx,l.length=len/\LM.ou w a0 l/\M.br l.length/\∀k,k<l.length->LM.T8 (LM.lM l k):=by
 rcases open_slice Tryz.underlying48 h with⟨hcs,_⟩ | ⟨a,len',cap',m,n,D,Pl,hcs,hb,hl,hm,hmm,rfl,hx⟩
 · simp at hcs
   obtain⟨rfl,rfl,rfl⟩:=hcs
   exact⟨[],rfl,fun h=>absurd h (by simp),by unfold M.br;simp,fun k hk=>absurd hk (by simp)⟩
 · simp at hcs
   obtain⟨rfl,rfl,rfl⟩:=hcs
   have hlm:len<=m:=by rw[hmm];split <;> omega
   obtain⟨hb1,hb2⟩:=jK Tryz.underlying48 hw
   rw[Qe] at hb1
   unfold reachBytes at hb1
   have hlen:len<=140737488351232:=by simp at hb1;omega
   have each:∀i,i<len->∃y:LM.Fx,w.cell? (a.add (i*2+0))=some (I y.off)/\w.cell? (a.add (i*2+1))=some (.string y.bytes)/\LM.T8 y:=by
    intro i hi
    obtain⟨cs',h1,h2⟩:=hx i (by omega)
    have hd:D i∈(List.range len).map D:=List.mem_map.2 ⟨i,List.mem_range.2 hi,rfl⟩
    rw[P7] at h1
    obtain⟨x0,x1,⟨e0,z0⟩,⟨e1,z1⟩⟩:=OL h1 h2 (hb2 _ hd)
    simp only[add_add] at e0 e1
    exact⟨⟨x0,x1⟩,e0,e1,⟨z0,z1⟩⟩
   obtain⟨g,hg⟩:=choose_lt each
   have hat:∀i,i<len->LM.lM ((List.range len).map g) i=g i:=by
    intro i hi
    simp[LM.lM,hi]
   refine⟨(List.range len).map g,by simp,fun h0=>?_,by unfold M.br;simp;exact hlen,fun k hk=>?_⟩
   · have h0':0<len:=by simpa using h0
     obtain⟨b,off,spot⟩:=a
     have hc:=(hg 0 h0').1
     have hspot:spot=none:=by simpa [Addr.add] using World.cell?_spot hc
     subst hspot
     rw[Addr.add_lit] at hc
     refine⟨b,off,rfl,pO hc,fun i hi=>?_⟩
     have hi':i<len:=by simpa using hi
     rw[hat i hi']
     obtain⟨e0,e1,_⟩:=hg i hi'
     simp only[Addr.add_lit] at e0 e1
     exact⟨e0,by rw[Nat.add_assoc];exact e1⟩
   · have hi':k<len:=by simpa using hk
     rw[hat k hi']
     obtain⟨_,_,f⟩:=hg k hi'
     exact f
theorem D7 {n:Nat} {v0 v1 v2:Value} {x:DataW H×List MemPlace} (h:DataW.trod enc Tryz.prog w base spare held n 50 [v0,v1,v2]=some x) (hw:OkW 50 x.1) :
  ∃s:LM.Sh,v0=I s.page/\v1=.string s.data/\v2=.slice s.ao s.bq.length s.cap/\LM.ou w s.ao s.bq/\LM.Bq s:=by
 obtain⟨xs,k,hk,hxy,_,hxl,hf⟩:=DataW.trod_struct Tryz.underlying50 h
 rw[hxy] at hw
 have g0:DataW.trod enc Tryz.prog w base spare held k 3 (([v0,v1,v2].drop 0).take (Tryz.prog.cellsOf 3))=xs[0]?:=hf 0 _ rfl
 have g1:DataW.trod enc Tryz.prog w base spare held k 9 (([v0,v1,v2].drop 1).take (Tryz.prog.cellsOf 9))=xs[1]?:=hf 1 _ rfl
 have g2:DataW.trod enc Tryz.prog w base spare held k 48 (([v0,v1,v2].drop 2).take (Tryz.prog.cellsOf 48))=xs[2]?:=hf 2 _ rfl
 simp only[cells3,qU,M6] at g0 g1 g2
 match xs,hxl with
 | [y0,y1,y2],_ =>
  obtain⟨m0,c0,_,w0⟩:=DataW.trod_int Tryz.underlying3 (show DataW.trod enc Tryz.prog w base spare held k 3 [v0]=some y0 from g0)
  obtain⟨m1,c1,hx1,_⟩:=DataW.trod_string Tryz.underlying9 (show DataW.trod enc Tryz.prog w base spare held k 9 [v1]=some y1 from g1)
  have u1:=gG Tryz.underlying50 hw (j:=1) (u:=9) (d:=y1.1) rfl rfl
  have u2:=gG Tryz.underlying50 hw (j:=2) (u:=48) (d:=y2.1) rfl rfl
  rw[hx1] at u1
  have w1:M.br m1.size:=by have:=iV u1;unfold M.br;unfold reachBytes at this;rw[Lib.size_eq];exact this
  have t2:DataW.trod enc Tryz.prog w base spare held k 48 [v2]=some y2:=g2
  obtain⟨ao,ln,cp,d2⟩:=iB Tryz.underlying48 t2
  subst d2
  obtain⟨fs,n1,n2,n3,n4⟩:=Sj t2 u2
  simp only[List.cons.injEq,and_true] at c0 c1
  subst c0;subst c1;subst n1
  exact⟨⟨m0,m1,fs,ao,cp⟩,rfl,rfl,rfl,n2,⟨kG _ w0,w1,n3,n4⟩⟩
end
section
variable {H:Type} {enc:TypeId×Value->H} {w:World} {base:Nat} {spare:Nat->Bool} {held:Bool}
theorem Si {fuel:Nat} {a0:Option Addr} {len cap:Nat} {x:DataW H×List MemPlace} (h:DataW.trod enc Tryz.prog w base spare held fuel 22 [.slice a0 len cap]=some x) (hw:OkW 22 x.1) :
  ∃l:List LM.Sh,l.length=len/\LM.jg w a0 l/\LM.oq l/\len<=cap:=by
 rcases open_slice Tryz.underlying22 h with⟨hcs,_⟩ | ⟨a,len',cap',m,n,D,Pl,hcs,hb,hl,hm,hmm,rfl,hx⟩
 · simp at hcs
   obtain⟨rfl,rfl,rfl⟩:=hcs
   exact⟨[],rfl,fun h=>absurd h (by simp),⟨by unfold M.br;simp,fun k hk=>absurd hk (by simp)⟩,Nat.le_refl _⟩
 · simp at hcs
   obtain⟨rfl,rfl,rfl⟩:=hcs
   have hlm:len<=m:=by rw[hmm];split <;> omega
   obtain⟨hb1,hb2⟩:=jK Tryz.underlying22 hw
   rw[Qd] at hb1
   unfold reachBytes at hb1
   have hlen:len<=140737488351232:=by simp at hb1;omega
   have each:∀i,i<len->∃y:LM.Sh,w.cell? (a.add (i*3+0))=some (I y.page)/\w.cell? (a.add (i*3+1))=some (.string y.data)/\w.cell? (a.add (i*3+2))=some (.slice y.ao y.bq.length y.cap)/\LM.ou w y.ao y.bq/\LM.Bq y:=by
    intro i hi
    obtain⟨cs',h1,h2⟩:=hx i (by omega)
    have hd:D i∈(List.range len).map D:=List.mem_map.2 ⟨i,List.mem_range.2 hi,rfl⟩
    rw[P5] at h1
    obtain⟨_,hcl,hcell⟩:=World.cells?_some h1
    match cs',hcl with
    | [v0,v1,v2],_ =>
     obtain⟨s,e0,e1,e2,f1,f2⟩:=D7 h2 (hb2 _ hd)
     have q0:=hcell 0 (by omega)
     have q1:=hcell 1 (by omega)
     have q2:=hcell 2 (by omega)
     simp only[add_add] at q0 q1 q2
     subst e0;subst e1;subst e2
     exact⟨s,q0,q1,q2,f1,f2⟩
   obtain⟨g,hg⟩:=choose_lt each
   have hat:∀i,i<len->LM.aY ((List.range len).map g) i=g i:=by
    intro i hi
    simp[LM.aY,hi]
   refine⟨(List.range len).map g,by simp,fun h0=>?_,⟨by unfold M.br;simp;exact hlen,fun k hk=>?_⟩,hl⟩
   · have h0':0<len:=by simpa using h0
     obtain⟨b,off,spot⟩:=a
     have hc:=(hg 0 h0').1
     have hspot:spot=none:=by simpa [Addr.add] using World.cell?_spot hc
     subst hspot
     rw[Addr.add_lit] at hc
     refine⟨b,off,rfl,pO hc,fun i hi=>?_⟩
     have hi':i<len:=by simpa using hi
     rw[hat i hi']
     obtain⟨e0,e1,e2,e3,_⟩:=hg i hi'
     simp only[Addr.add_lit] at e0 e1 e2
     exact⟨e0,by rw[Nat.add_assoc];exact e1,by rw[Nat.add_assoc];exact e2,e3⟩
   · have hi':k<len:=by simpa using hk
     rw[hat k hi']
     obtain⟨_,_,_,_,f⟩:=hg k hi'
     exact f
end
end LW
namespace KA
open Go.RowKit Go.Deep
open W (OkW iV jK gG iB pO kG qU cells3 xL)
open KW (aU fe cO aH eY lZ)
theorem P8:Tryz.prog.cellsOf 40=4:=by kernel_rfl
theorem M7:Tryz.prog.cellsOf 23=1:=by kernel_rfl
theorem Qf:0<Tryz.prog.bytesOf 40:=of_decide_eq_true (by kernel_rfl)
instance:Inhabited KM.Fr:=⟨KM.l9⟩
theorem P4:Tryz.prog.cellsOf 86=2:=by kernel_rfl
theorem M0:Tryz.prog.cellsOf 24=1:=by kernel_rfl
theorem Qc:0<Tryz.prog.bytesOf 86:=of_decide_eq_true (by kernel_rfl)
instance:Inhabited KM.Sl:=⟨KM.xY⟩
theorem P9:Tryz.prog.cellsOf 45=3:=by kernel_rfl
theorem M8:Tryz.prog.cellsOf 41=1:=by kernel_rfl
theorem Qg:0<Tryz.prog.bytesOf 45:=of_decide_eq_true (by kernel_rfl)
instance:Inhabited KM.En:=⟨KM.jz⟩
theorem PZ:Tryz.prog.cellsOf 43=3:=by kernel_rfl
theorem MZ:Tryz.prog.cellsOf 25=1:=by kernel_rfl
theorem Qb:0<Tryz.prog.bytesOf 43:=of_decide_eq_true (by kernel_rfl)
instance:Inhabited KM.Sp:=⟨KM.DN⟩
theorem P6:Tryz.prog.cellsOf 27=5:=by kernel_rfl
section
variable {H:Type} {enc:TypeId×Value->H} {w:World} {base:Nat} {spare:Nat->Bool} {held:Bool}
theorem pB {α:Type} [Inhabited α] {ts te:TypeId} {sz:Nat} (p:List Value->α->Prop) (hu:Tryz.prog.underlying ts=some (.slice te)) (hc:Tryz.prog.cellsOf te=sz) (hb8:0<Tryz.prog.bytesOf te) (hs0:0<sz)
  (elem:∀(n:Nat) (cs:List Value) (x:DataW H×List MemPlace),cs.length=sz->DataW.trod enc Tryz.prog w base spare held n te cs=some x->OkW te x.1->∃y,p cs y)
  {fuel:Nat} {a0:Option Addr} {len cap:Nat} {x:DataW H×List MemPlace} (h:DataW.trod enc Tryz.prog w base spare held fuel ts [.slice a0 len cap]=some x) (hw:OkW ts x.1) :
  len<=cap/\len<=140737488351232/\∃l:List α,l.length=len/\(0<len->∃b off,a0=some (Ad b off)/\b<w.heap.size/\∀i,i<len->∃cs:List Value,cs.length=sz/\p cs (l.getD i default)/\∀j,j<sz->w.cell? (Ad b (off+i*sz+j))=cs[j]?)/\∀i,i<len->∃cs,p cs (l.getD i default):=by
 rcases open_slice hu h with⟨hcs,_⟩ | ⟨a,len',cap',m,n,D,Pl,hcs,hb,hl,hm,hmm,rfl,hx⟩
 · simp at hcs
   obtain⟨rfl,rfl,rfl⟩:=hcs
   exact⟨Nat.le_refl _,by omega,[],rfl,fun h=>absurd h (by omega),fun i hi=>absurd hi (by omega)⟩
 · simp at hcs
   obtain⟨rfl,rfl,rfl⟩:=hcs
   have hlm:len<=m:=by rw[hmm];split <;> omega
   obtain⟨hb1,hb2⟩:=jK hu hw
   unfold reachBytes at hb1
   have hlen:len<=140737488351232:=by
    simp only[List.length_map,List.length_range] at hb1
    have:=Nat.le_mul_of_pos_right (len+(m-len)) hb8
    omega
   have each:∀i,i<len->∃y:α,∃cs:List Value,cs.length=sz/\p cs y/\∀j,j<sz->w.cell? (a.add (i*sz+j))=cs[j]?:=by
    intro i hi
    obtain⟨cs',h1,h2⟩:=hx i (by omega)
    have hd:D i∈(List.range len).map D:=List.mem_map.2 ⟨i,List.mem_range.2 hi,rfl⟩
    rw[hc] at h1
    obtain⟨_,hcl,hcell⟩:=World.cells?_some h1
    obtain⟨y,hy⟩:=elem n cs' _ hcl h2 (hb2 _ hd)
    refine⟨y,cs',hcl,hy,fun j hj=>?_⟩
    have:=hcell j (by omega)
    simp only[add_add] at this
    exact this
   obtain⟨g,hg⟩:=choose_lt each
   have hat:∀i,i<len->((List.range len).map g).getD i default=g i:=by
    intro i hi
    simp[hi]
   refine⟨hl,hlen,(List.range len).map g,by simp,fun h0=>?_,fun i hi=>?_⟩
   · obtain⟨b,off,spot⟩:=a
     obtain⟨cs,e1,e2,e3⟩:=hg 0 h0
     have hc0:=e3 0 hs0
     rw[List.getElem?_eq_getElem (by omega)] at hc0
     have hspot:spot=none:=by simpa [Addr.add] using World.cell?_spot hc0
     subst hspot
     rw[Addr.add_lit] at hc0
     refine⟨b,off,rfl,pO hc0,fun i hi=>?_⟩
     rw[hat i hi]
     obtain⟨cs,e1,e2,e3⟩:=hg i hi
     refine⟨cs,e1,e2,fun j hj=>?_⟩
     have:=e3 j hj
     rw[Addr.add_lit,<- Nat.add_assoc] at this
     exact this
   · rw[hat i hi]
     obtain⟨cs,_,e2,_⟩:=hg i hi
     exact⟨cs,e2⟩
theorem pC {fuel:Nat} {v:Value} {y:DataW H×List MemPlace} (h:DataW.trod enc Tryz.prog w base spare held fuel 3 [v]=some y):∃n:Int,v=I n/\M.fR n:=by
 obtain⟨n,c,_,wf⟩:=DataW.trod_int Tryz.underlying3 h
 simp only[List.cons.injEq,and_true] at c
 exact⟨n,c,kG _ wf⟩
def U0 (cs:List Value) (y:KM.Fr):Prop:=cs=[.string y.data,I y.refs,.bool y.bW,.bool y.seen]/\M.br y.data.size/\M.fR y.refs
theorem UJ (n:Nat) (cs:List Value) (x:DataW H×List MemPlace) (hl:cs.length=4) (h:DataW.trod enc Tryz.prog w base spare held n 40 cs=some x) (hw:OkW 40 x.1):∃y,U0 cs y:=by
 obtain⟨xs,k,hk,hxy,_,hxl,hf⟩:=DataW.trod_struct Tryz.underlying40 h
 rw[hxy] at hw
 match cs,hl with
 | [v0,v1,v2,v3],_ =>
  have g0:DataW.trod enc Tryz.prog w base spare held k 9 (([v0,v1,v2,v3].drop 0).take (Tryz.prog.cellsOf 9))=xs[0]?:=hf 0 _ rfl
  have g1:DataW.trod enc Tryz.prog w base spare held k 3 (([v0,v1,v2,v3].drop 1).take (Tryz.prog.cellsOf 3))=xs[1]?:=hf 1 _ rfl
  have g2:DataW.trod enc Tryz.prog w base spare held k 4 (([v0,v1,v2,v3].drop 2).take (Tryz.prog.cellsOf 4))=xs[2]?:=hf 2 _ rfl
  have g3:DataW.trod enc Tryz.prog w base spare held k 4 (([v0,v1,v2,v3].drop 3).take (Tryz.prog.cellsOf 4))=xs[3]?:=hf 3 _ rfl
  simp only[cells3,xL,qU] at g0 g1 g2 g3
  match xs,hxl with
  | [y0,y1,y2,y3],_ =>
   obtain⟨m0,c0,hx0,_⟩:=DataW.trod_string Tryz.underlying9 (show DataW.trod enc Tryz.prog w base spare held k 9 [v0]=some y0 from g0)
   have u0:=gG Tryz.underlying40 hw (j:=0) (u:=9) (d:=y0.1) rfl rfl
   rw[hx0] at u0
   have w0:M.br m0.size:=by have:=iV u0;unfold M.br;unfold reachBytes at this;rw[Lib.size_eq];exact this
   simp only[List.cons.injEq,and_true] at c0
   subst c0
   obtain⟨m1,rfl,w1⟩:=pC (show DataW.trod enc Tryz.prog w base spare held k 3 [v1]=some y1 from g1)
   obtain⟨m2,c2,_⟩:=DataW.trod_bool Tryz.underlying4 (show DataW.trod enc Tryz.prog w base spare held k 4 [v2]=some y2 from g2)
   simp only[List.cons.injEq,and_true] at c2
   subst c2
   obtain⟨m3,c3,_⟩:=DataW.trod_bool Tryz.underlying4 (show DataW.trod enc Tryz.prog w base spare held k 4 [v3]=some y3 from g3)
   simp only[List.cons.injEq,and_true] at c3
   subst c3
   exact⟨⟨m0,m1,m2,m3⟩,rfl,w0,w1⟩
theorem OI {fuel:Nat} {a0:Option Addr} {len cap:Nat} {x:DataW H×List MemPlace} (h:DataW.trod enc Tryz.prog w base spare held fuel 23 [.slice a0 len cap]=some x) (hw:OkW 23 x.1) :
  ∃l:List KM.Fr,l.length=len/\aU KW.bE 4 KM.l9 w a0 l/\M.br l.length/\(∀k,k<l.length->M.br (KM.aD l k).data.size/\M.fR (KM.aD l k).refs)/\len<=cap:=by
 obtain⟨h1,h2,l,h3,h4,h5⟩:=pB U0 Tryz.underlying23 P8 Qf (by decide) UJ h hw
 subst h3
 refine⟨l,rfl,fun h0=>?_,h2,fun k hk=>?_,h1⟩
 · obtain⟨b,off,e1,e2,e3⟩:=h4 h0
   refine⟨b,off,e1,e2,fun i hi=>?_⟩
   obtain⟨cs,_,⟨rfl,_⟩,q⟩:=e3 i hi
   exact q
 · obtain⟨cs,_,q⟩:=h5 k hk
   exact q
def UZ (cs:List Value) (y:KM.Sl):Prop:=cs=[.string y.data,I y.refs]/\M.br y.data.size/\M.fR y.refs
theorem UI (n:Nat) (cs:List Value) (x:DataW H×List MemPlace) (hl:cs.length=2) (h:DataW.trod enc Tryz.prog w base spare held n 86 cs=some x) (hw:OkW 86 x.1):∃y,UZ cs y:=by
 obtain⟨xs,k,hk,hxy,_,hxl,hf⟩:=DataW.trod_struct Tryz.underlying86 h
 rw[hxy] at hw
 match cs,hl with
 | [v0,v1],_ =>
  have g0:DataW.trod enc Tryz.prog w base spare held k 9 (([v0,v1].drop 0).take (Tryz.prog.cellsOf 9))=xs[0]?:=hf 0 _ rfl
  have g1:DataW.trod enc Tryz.prog w base spare held k 3 (([v0,v1].drop 1).take (Tryz.prog.cellsOf 3))=xs[1]?:=hf 1 _ rfl
  simp only[cells3,qU] at g0 g1
  match xs,hxl with
  | [y0,y1],_ =>
   obtain⟨m0,c0,hx0,_⟩:=DataW.trod_string Tryz.underlying9 (show DataW.trod enc Tryz.prog w base spare held k 9 [v0]=some y0 from g0)
   have u0:=gG Tryz.underlying86 hw (j:=0) (u:=9) (d:=y0.1) rfl rfl
   rw[hx0] at u0
   have w0:M.br m0.size:=by have:=iV u0;unfold M.br;unfold reachBytes at this;rw[Lib.size_eq];exact this
   simp only[List.cons.injEq,and_true] at c0
   subst c0
   obtain⟨m1,rfl,w1⟩:=pC (show DataW.trod enc Tryz.prog w base spare held k 3 [v1]=some y1 from g1)
   exact⟨⟨m0,m1⟩,rfl,w0,w1⟩
theorem OH {fuel:Nat} {a0:Option Addr} {len cap:Nat} {x:DataW H×List MemPlace} (h:DataW.trod enc Tryz.prog w base spare held fuel 24 [.slice a0 len cap]=some x) (hw:OkW 24 x.1) :
  ∃l:List KM.Sl,l.length=len/\aU KW.bD 2 KM.xY w a0 l/\M.br l.length/\(∀k,k<l.length->M.br (KM.bk l k).data.size/\M.fR (KM.bk l k).refs)/\len<=cap:=by
 obtain⟨h1,h2,l,h3,h4,h5⟩:=pB UZ Tryz.underlying24 P4 Qc (by decide) UI h hw
 subst h3
 refine⟨l,rfl,fun h0=>?_,h2,fun k hk=>?_,h1⟩
 · obtain⟨b,off,e1,e2,e3⟩:=h4 h0
   refine⟨b,off,e1,e2,fun i hi=>?_⟩
   obtain⟨cs,_,⟨rfl,_⟩,q⟩:=e3 i hi
   exact q
 · obtain⟨cs,_,q⟩:=h5 k hk
   exact q
def U3 (cs:List Value) (y:KM.En):Prop:=cs=[I y.page,I y.kind,I y.loc]/\M.fR y.page/\M.fR y.kind/\M.fR y.loc
theorem UK (n:Nat) (cs:List Value) (x:DataW H×List MemPlace) (hl:cs.length=3) (h:DataW.trod enc Tryz.prog w base spare held n 45 cs=some x) (hw:OkW 45 x.1):∃y,U3 cs y:=by
 obtain⟨xs,k,hk,hxy,_,hxl,hf⟩:=DataW.trod_struct Tryz.underlying45 h
 rw[hxy] at hw
 match cs,hl with
 | [v0,v1,v2],_ =>
  have g0:DataW.trod enc Tryz.prog w base spare held k 3 (([v0,v1,v2].drop 0).take (Tryz.prog.cellsOf 3))=xs[0]?:=hf 0 _ rfl
  have g1:DataW.trod enc Tryz.prog w base spare held k 3 (([v0,v1,v2].drop 1).take (Tryz.prog.cellsOf 3))=xs[1]?:=hf 1 _ rfl
  have g2:DataW.trod enc Tryz.prog w base spare held k 3 (([v0,v1,v2].drop 2).take (Tryz.prog.cellsOf 3))=xs[2]?:=hf 2 _ rfl
  simp only[cells3] at g0 g1 g2
  match xs,hxl with
  | [y0,y1,y2],_ =>
   obtain⟨m0,rfl,w0⟩:=pC (show DataW.trod enc Tryz.prog w base spare held k 3 [v0]=some y0 from g0)
   obtain⟨m1,rfl,w1⟩:=pC (show DataW.trod enc Tryz.prog w base spare held k 3 [v1]=some y1 from g1)
   obtain⟨m2,rfl,w2⟩:=pC (show DataW.trod enc Tryz.prog w base spare held k 3 [v2]=some y2 from g2)
   exact⟨⟨m0,m1,m2⟩,rfl,w0,w1,w2⟩
theorem OJ {fuel:Nat} {a0:Option Addr} {len cap:Nat} {x:DataW H×List MemPlace} (h:DataW.trod enc Tryz.prog w base spare held fuel 41 [.slice a0 len cap]=some x) (hw:OkW 41 x.1) :
  ∃l:List KM.En,l.length=len/\aU KW.aI 3 KM.jz w a0 l/\M.br l.length/\(∀k,k<l.length->M.fR (KM.aJ l k).page/\M.fR (KM.aJ l k).kind/\M.fR (KM.aJ l k).loc)/\len<=cap:=by
 obtain⟨h1,h2,l,h3,h4,h5⟩:=pB U3 Tryz.underlying41 P9 Qg (by decide) UK h hw
 subst h3
 refine⟨l,rfl,fun h0=>?_,h2,fun k hk=>?_,h1⟩
 · obtain⟨b,off,e1,e2,e3⟩:=h4 h0
   refine⟨b,off,e1,e2,fun i hi=>?_⟩
   obtain⟨cs,_,⟨rfl,_⟩,q⟩:=e3 i hi
   exact q
 · obtain⟨cs,_,q⟩:=h5 k hk
   exact q
def UY (w:World) (cs:List Value) (y:KM.Sp):Prop:=∃va ap cp,cs=[.bool y.live,va,.slice ap y.au.length cp]/\AW.Has w va y.aA/\aU KW.aI 3 KM.jz w ap y.au/\y.au.length<=cp/\lZ y
theorem UH (n:Nat) (cs:List Value) (x:DataW H×List MemPlace) (hl:cs.length=3) (h:DataW.trod enc Tryz.prog w base spare held n 43 cs=some x) (hw:OkW 43 x.1):∃y,UY w cs y:=by
 obtain⟨xs,k,hk,hxy,_,hxl,hf⟩:=DataW.trod_struct Tryz.underlying43 h
 rw[hxy] at hw
 match cs,hl with
 | [v0,v1,v2],_ =>
  have g0:DataW.trod enc Tryz.prog w base spare held k 4 (([v0,v1,v2].drop 0).take (Tryz.prog.cellsOf 4))=xs[0]?:=hf 0 _ rfl
  have g1:DataW.trod enc Tryz.prog w base spare held k 28 (([v0,v1,v2].drop 1).take (Tryz.prog.cellsOf 28))=xs[1]?:=hf 1 _ rfl
  have g2:DataW.trod enc Tryz.prog w base spare held k 41 (([v0,v1,v2].drop 2).take (Tryz.prog.cellsOf 41))=xs[2]?:=hf 2 _ rfl
  simp only[xL,LW.M9,M8] at g0 g1 g2
  match xs,hxl with
  | [y0,y1,y2],_ =>
   obtain⟨lv,c0,_⟩:=DataW.trod_bool Tryz.underlying4 (show DataW.trod enc Tryz.prog w base spare held k 4 [v0]=some y0 from g0)
   have u1:=gG Tryz.underlying43 hw (j:=1) (u:=28) (d:=y1.1) rfl rfl
   have u2:=gG Tryz.underlying43 hw (j:=2) (u:=41) (d:=y2.1) rfl rfl
   have t1:DataW.trod enc Tryz.prog w base spare held k 28 [v1]=some y1:=g1
   have t2:DataW.trod enc Tryz.prog w base spare held k 41 [v2]=some y2:=g2
   obtain⟨av,lvn,cv,d1⟩:=iB Tryz.underlying28 t1
   obtain⟨ap,lp,cp,d2⟩:=iB Tryz.underlying41 t2
   subst d1;subst d2
   obtain⟨l,n1,n2,n3,n4⟩:=AW.ED t1
   obtain⟨ps,s1,s2,s3,s4,s5⟩:=OJ t2 u2
   simp only[List.cons.injEq,and_true] at c0
   subst c0;subst s1
   refine⟨⟨lv,l,ps⟩,_,ap,cp,rfl,n2,s2,s5,⟨n3,?_⟩,s3,s4⟩
   rw[n1]
   rcases n4 with e | ⟨el,sp,e1,e2⟩
   · omega
   · rw[e1] at u1
     have hb:=(jK Tryz.underlying28 u1).1
     rw[LW.Qh,e2] at hb
     unfold reachBytes at hb
     omega
theorem OG {fuel:Nat} {a0:Option Addr} {len cap:Nat} {x:DataW H×List MemPlace} (h:DataW.trod enc Tryz.prog w base spare held fuel 25 [.slice a0 len cap]=some x) (hw:OkW 25 x.1) :
  ∃l:List KM.Sp,l.length=len/\KW.ku w a0 l/\M.br l.length/\∀k,k<l.length->lZ (KM.aq l k):=by
 obtain⟨h1,h2,l,h3,h4,h5⟩:=pB (UY w) Tryz.underlying25 PZ Qb (by decide) UH h hw
 subst h3
 refine⟨l,rfl,fun h0=>?_,h2,fun k hk=>?_⟩
 · obtain⟨b,off,e1,e2,e3⟩:=h4 h0
   refine⟨b,off,e1,e2,fun i hi=>?_⟩
   obtain⟨cs,_,⟨va,ap,cp,rfl,r1,r2,r3,_⟩,q⟩:=e3 i hi
   exact⟨va,ap,cp,q 0 (by decide),q 1 (by decide),q 2 (by decide),r1,r2,r3⟩
 · obtain⟨cs,_,_,_,_,_,_,_,q⟩:=h5 k hk
   exact q
theorem CC {fuel:Nat} {cs:List Value} {x:DataW H×List MemPlace} (h:DataW.trod enc Tryz.prog w base spare held fuel 27 cs=some x) (hw:OkW 27 x.1) :
  ∃(k:KM.Kn) (a:fe),cs=(aH a k).toList/\cO w a k/\eY k:=by
 obtain⟨xs,k,hk,hxy,hcl,hxl,hf⟩:=DataW.trod_struct Tryz.underlying27 h
 rw[hxy] at hw
 rw[P6] at hcl
 match cs,hcl with
 | [v0,v1,v2,v3,v4],_ =>
  have g0:DataW.trod enc Tryz.prog w base spare held k 22 (([v0,v1,v2,v3,v4].drop 0).take (Tryz.prog.cellsOf 22))=xs[0]?:=hf 0 _ rfl
  have g1:DataW.trod enc Tryz.prog w base spare held k 23 (([v0,v1,v2,v3,v4].drop 1).take (Tryz.prog.cellsOf 23))=xs[1]?:=hf 1 _ rfl
  have g2:DataW.trod enc Tryz.prog w base spare held k 24 (([v0,v1,v2,v3,v4].drop 2).take (Tryz.prog.cellsOf 24))=xs[2]?:=hf 2 _ rfl
  have g3:DataW.trod enc Tryz.prog w base spare held k 25 (([v0,v1,v2,v3,v4].drop 3).take (Tryz.prog.cellsOf 25))=xs[3]?:=hf 3 _ rfl
  have g4:DataW.trod enc Tryz.prog w base spare held k 3 (([v0,v1,v2,v3,v4].drop 4).take (Tryz.prog.cellsOf 3))=xs[4]?:=hf 4 _ rfl
  simp only[cells3,LW.M5,M7,M0,MZ] at g0 g1 g2 g3 g4
  match xs,hxl with
  | [y0,y1,y2,y3,y4],_ =>
   obtain⟨hd,rfl,i4⟩:=pC (show DataW.trod enc Tryz.prog w base spare held k 3 [v4]=some y4 from g4)
   have u0:=gG Tryz.underlying27 hw (j:=0) (u:=22) (d:=y0.1) rfl rfl
   have t0:DataW.trod enc Tryz.prog w base spare held k 22 [v0]=some y0:=g0
   obtain⟨a0,l0,c0,d0⟩:=iB Tryz.underlying22 t0
   have u1:=gG Tryz.underlying27 hw (j:=1) (u:=23) (d:=y1.1) rfl rfl
   have t1:DataW.trod enc Tryz.prog w base spare held k 23 [v1]=some y1:=g1
   obtain⟨a1,l1,c1,d1⟩:=iB Tryz.underlying23 t1
   have u2:=gG Tryz.underlying27 hw (j:=2) (u:=24) (d:=y2.1) rfl rfl
   have t2:DataW.trod enc Tryz.prog w base spare held k 24 [v2]=some y2:=g2
   obtain⟨a2,l2,c2,d2⟩:=iB Tryz.underlying24 t2
   have u3:=gG Tryz.underlying27 hw (j:=3) (u:=25) (d:=y3.1) rfl rfl
   have t3:DataW.trod enc Tryz.prog w base spare held k 25 [v3]=some y3:=g3
   obtain⟨a3,l3,c3,d3⟩:=iB Tryz.underlying25 t3
   subst d0;subst d1;subst d2;subst d3
   obtain⟨hs,rfl,s2,s3,s4⟩:=LW.Si t0 u0
   obtain⟨fs,rfl,f2,f3,f4,f5⟩:=OI t1 u1
   obtain⟨ls,rfl,m2,m3,m4,m5⟩:=OH t2 u2
   obtain⟨ss,rfl,p2,p3,p4⟩:=OG t3 u3
   exact⟨⟨hs,fs,ls,ss,hd⟩,⟨a0,c0,a1,c1,a2,c2,a3,c3⟩,rfl,⟨s2,f2,m2,p2⟩,⟨s3,f3,f4,m3,m4,p3,p4,i4⟩⟩
end
end KA
end Go.Proofs.YtpgifpeohlllfaaGreat
