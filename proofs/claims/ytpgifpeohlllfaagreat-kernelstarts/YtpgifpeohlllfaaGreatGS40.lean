import Derived.Test.YtpgifpeohlllfaaGreatGS39
import Derived.OpenShut
set_option maxHeartbeats 20000000
set_option linter.unusedVariables false
set_option maxRecDepth 100000
set_option linter.unusedSimpArgs false
namespace Go.Proofs.YtpgifpeohlllfaaGreat
namespace KG
open Go.RowKit GK KO
open FW (ai aB)
open KW (fu cI aJ eW)
def Th (V:World) (K:List LM.Sh->KM.Kn) (a:fu):Prop:=∃b1 b2 b3 d1 d2 d3,cI V a (K (pq b1 b2 b3 d1 d2 d3))
theorem Cq {w:World} {K:List LM.Sh->KM.Kn} {H:List LM.Sh} {vs:List Value} {e:Ending} {w':World} (hH:H.map LM.plain=WH) (hS:∀H,(K H).ak=H) (hW:∀H H',KM.bu (K H) H'=K H') (h:KZ.dJ w (K H) vs e w'):∃a b1 b2 b3 d1 d2 d3,e=.returned (.tuple (Value.agg (aJ a (K (pq b1 b2 b3 d1 d2 d3)))::vs).toArray)/\(∀U,Kp (fun b=>b<w.heap.size) w' U->Th U K a)/\Below w.heap.size w w':=by
 obtain⟨hs,a,h1,h2,h3,h4⟩:=Ng h
 rw[hS] at h1
 obtain⟨b1,b2,b3,d1,d2,d3,rfl⟩:=Tq (Eq.trans h1 hH)
 rw[hW] at h2 h3
 exact⟨a,b1,b2,b3,d1,d2,d3,h2,fun U hU=>⟨b1,b2,b3,d1,d2,d3,h3 U hU⟩,h4⟩
theorem sM (b1 b2 b3:Option Addr) (d1 d2 d3:Nat):(pq b1 b2 b3 d1 d2 d3).map LM.plain=WH:=rfl
theorem Ur {V:World} {ar ah:Option Addr} {cr ch:Nat} {a1 a2 a3:Option Addr} {c1 c2 c3:Nat} (h1:AW.Has V (.slice ar 2 cr) FZ) (h2:LM.gT V ah (pq a1 a2 a3 c1 c2 c3)) (h3:3<=ch):Calls Tryz.prog 18 #[.agg #[.slice ar 2 cr,.slice ah 3 ch,I 16],I 3,I 8] V fun e w'=>∃a,e=.returned (.tuple #[.agg #[.slice a.aS 3 a.cS,.slice a.aF 3 a.cF,.slice a.aL 8 a.cL,.slice a.aP 1 a.cP,I 0],I 0])/\(∀U,Kp (fun b=>b<V.heap.size) w' U->Th U I5 a)/\Below V.heap.size V w':=by
 refine(KZ.IP KY.Bq FZ (pq a1 a2 a3 c1 c2 c3) 16 3 8 (.slice ar 2 cr) ah ch V h1 QC h2 (QB a1 a2 a3 c1 c2 c3) h3 (by unfold M.gj;decide)).mono fun e w' h=>?_
 have e0:KZ.qO FZ (pq a1 a2 a3 c1 c2 c3) 16 3 8=(I5 (pq a1 a2 a3 c1 c2 c3),0):=by kernel_rfl
 rw[e0] at h
 obtain⟨a,b1,b2,b3,d1,d2,d3,g1,g2,g3⟩:=Cq (sM _ _ _ _ _ _) (fun _=>rfl) (fun _ _=>rfl) h
 exact⟨a,g1,g2,g3⟩
theorem JM {V:World} {a:fu} (h:Th V I5 a):Calls Tryz.prog 28 #[.agg #[.slice a.aS 3 a.cS,.slice a.aF 3 a.cF,.slice a.aL 8 a.cL,.slice a.aP 1 a.cP,I 0],I 0,I 46,.string ⟨#[119,120,121,122]⟩] V fun e w'=>∃a,e=.returned (.tuple #[.agg #[.slice a.aS 3 a.cS,.slice a.aF 3 a.cF,.slice a.aL 8 a.cL,.slice a.aP 1 a.cP,I 0],.agg #[I 0,I 0],I 0])/\(∀U,Kp (fun b=>b<V.heap.size) w' U->Th U I4 a)/\Below V.heap.size V w':=by
 obtain⟨b1,b2,b3,d1,d2,d3,hk⟩:=h
 refine(KZ.Au KY.Bq _ a 0 46 wxD V hk (Q3 b1 b2 b3 d1 d2 d3) (by unfold M.gj;decide) (by unfold M.gj;decide)).mono fun e w' h=>?_
 rw[Kw] at h
 obtain⟨a,b1,b2,b3,d1,d2,d3,g1,g2,g3⟩:=Cq (sM _ _ _ _ _ _) (fun _=>rfl) (fun _ _=>rfl) h
 exact⟨a,g1,g2,g3⟩
theorem QA {V:World} {a:fu} (h:Th V I4 a):Calls Tryz.prog 39 #[.agg #[.slice a.aS 3 a.cS,.slice a.aF 3 a.cF,.slice a.aL 8 a.cL,.slice a.aP 1 a.cP,I 0],I 0] V fun e w'=>∃a,e=.returned (.tuple #[.agg #[.slice a.aS 3 a.cS,.slice a.aF 3 a.cF,.slice a.aL 8 a.cL,.slice a.aP 2 a.cP,I 0],I 1,I 0])/\(∀U,Kp (fun b=>b<V.heap.size) w' U->Th U L6 a)/\Below V.heap.size V w':=by
 obtain⟨b1,b2,b3,d1,d2,d3,hk⟩:=h
 refine(KZ.OU KY.Bq _ a 0 V hk (Q0 b1 b2 b3 d1 d2 d3) (by unfold M.gj;decide)).mono fun e w' h=>?_
 have e0:KZ.vK (I4 (pq b1 b2 b3 d1 d2 d3)) 0=(L6 (pq b1 b2 b3 d1 d2 d3),1,0):=by kernel_rfl
 rw[e0] at h
 obtain⟨a,b1,b2,b3,d1,d2,d3,g1,g2,g3⟩:=Cq (sM _ _ _ _ _ _) (fun _=>rfl) (fun _ _=>rfl) h
 exact⟨a,g1,g2,g3⟩
theorem JL {V:World} {a:fu} (h:Th V L6 a):Calls Tryz.prog 28 #[.agg #[.slice a.aS 3 a.cS,.slice a.aF 3 a.cF,.slice a.aL 8 a.cL,.slice a.aP 2 a.cP,I 0],I 1,I 32,.string ⟨#[113]⟩] V fun e w'=>∃a,e=.returned (.tuple #[.agg #[.slice a.aS 3 a.cS,.slice a.aF 3 a.cF,.slice a.aL 8 a.cL,.slice a.aP 2 a.cP,I 0],.agg #[I 0,I 0],I 0])/\(∀U,Kp (fun b=>b<V.heap.size) w' U->Th U I3 a)/\Below V.heap.size V w':=by
 obtain⟨b1,b2,b3,d1,d2,d3,hk⟩:=h
 refine(KZ.Au KY.Bq _ a 1 32 qD V hk (QZ b1 b2 b3 d1 d2 d3) (by unfold M.gj;decide) (by unfold M.gj;decide)).mono fun e w' h=>?_
 rw[Kq] at h
 obtain⟨a,b1,b2,b3,d1,d2,d3,g1,g2,g3⟩:=Cq (sM _ _ _ _ _ _) (fun _=>rfl) (fun _ _=>rfl) h
 exact⟨a,g1,g2,g3⟩
theorem Qz {V:World} {a:fu} (h:Th V I3 a):Calls Tryz.prog 25 #[.agg #[.slice a.aS 3 a.cS,.slice a.aF 3 a.cF,.slice a.aL 8 a.cL,.slice a.aP 2 a.cP,I 0],I 0,I 32,I 2,I 0] V fun e w'=>∃(a:fu) (hd:Int) (n1 n2 n3 n4:Nat),e=.returned (.tuple #[.agg #[.slice a.aS n1 a.cS,.slice a.aF n2 a.cF,.slice a.aL n3 a.cL,.slice a.aP n4 a.cP,I hd],.string ⟨#[97,98]⟩,.agg #[I 0,I 0],I 0])/\Below V.heap.size V w':=by
 obtain⟨b1,b2,b3,d1,d2,d3,hk⟩:=h
 refine(KZ.NG KY.Bq _ a 0 32 2 0 V hk (I2 b1 b2 b3 d1 d2 d3) (by unfold M.gj;decide) (by unfold M.gj;decide)).mono fun e w' h=>?_
 rw[NP] at h
 obtain⟨hs,a,h1,h2,h3,h4⟩:=Ng h
 exact⟨a,_,_,_,_,_,h2,h4⟩
theorem Qy {V:World} {a:fu} (h:Th V I3 a):Calls Tryz.prog 30 #[.agg #[.slice a.aS 3 a.cS,.slice a.aF 3 a.cF,.slice a.aL 8 a.cL,.slice a.aP 2 a.cP,I 0],I 1,I 2] V fun e w'=>e=.returned (.tuple #[.string WI,I 0])/\Below V.heap.size V w':=by
 obtain⟨b1,b2,b3,d1,d2,d3,hk⟩:=h
 have:=KW.M6 _ a 1 2 V hk (I2 b1 b2 b3 d1 d2 d3) (by unfold M.gj;decide)
 rw[NN] at this
 exact this
theorem xz {V U:World} {K:List LM.Sh->KM.Kn} {a:fu} (h:Th V K a) (hb:Below V.heap.size V U):Th U K a:=by
 obtain⟨b1,b2,b3,d1,d2,d3,hk⟩:=h
 exact⟨b1,b2,b3,d1,d2,d3,hk.below hb⟩
theorem NJ {w W w3:World} {kb n:Nat} {b:fu} {c0 c1 c2 c3 c4:Value} {K:List LM.Sh->KM.Kn} (hB:Below w.heap.size w W) (Yw:w.heap.size<=kb) (hkb:kb<W.heap.size) (hb:Below W.heap.size W w3) (hk:w3.heap[kb]?=some (.cells #[c0,c1,c2,c3,c4] 27 (0,0))) (ht:∀U,Kp (fun x=>x<W.heap.size) w3 U->Th U K b) {V:World} (hV:V=(((((w3.setCell (Ad kb 0) (.slice b.aS 3 b.cS)).setCell (Ad kb 1) (.slice b.aF 3 b.cF)).setCell (Ad kb 2) (.slice b.aL 8 b.cL)).setCell (Ad kb 3) (.slice b.aP n b.cP)).setCell (Ad kb 4) (I 0))) :
  V.heap[kb]?=some (.cells #[.slice b.aS 3 b.cS,.slice b.aF 3 b.cF,.slice b.aL 8 b.cL,.slice b.aP n b.cP,I 0] 27 (0,0))/\Th V K b/\Below w.heap.size w V/\Kp (fun x=>x=kb) w3 V:=by
 have hk2:V.heap[kb]?=some (.cells #[.slice b.aS 3 b.cS,.slice b.aF 3 b.cF,.slice b.aL 8 b.cL,.slice b.aP n b.cP,I 0] 27 (0,0)):=by rw[hV];exact B.set (B.set (B.set (B.set (B.set hk 0 _) 1 _) 2 _) 3 _) 4 _
 have kp:Kp (fun x=>x=kb) w3 V:=by
  rw[hV]
  have k:∀(A:World) (j:Nat) (v:Value),Kp (fun x=>x=kb) A (A.setCell (Ad kb j) v):=fun A j v=>Kp.set _ A (Ad kb j) v rfl
  exact((((k _ _ _).trans (k _ _ _) (fun _ _ g=>g)).trans (k _ _ _) (fun _ _ g=>g)).trans (k _ _ _) (fun _ _ g=>g)).trans (k _ _ _) (fun _ _ g=>g)
 have eK:Below w.heap.size w w3:=hB.trans (hb.mono hB.size)
 exact⟨hk2,ht V (kp.mono (fun x _ e=>by rw[e];exact hkb)),Kp.below eK kp eK.size (fun x e=>by rw[e];exact Yw),kp⟩
theorem LJ (w:World):Calls Tryz.prog 15 #[] w fun e w'=>e=.returned (.bool true)/\Below w.heap.size w w':=by
 go_enter Tryz.func15,Tryz.ntmps15
 go_upto_region 2 with(first
  | (go_at_call 50;refine(JK _).mono ?_;rintro e w1 ⟨ar,cr,ah,ch,a1,a2,a3,c1,c2,c3,rfl,h1,h2,h3,h4⟩;have bI:=ai h4;have HN:=ai (Ur h1 h2 h3);clear h1 h2 h3 h4)
  | (go_at_call 18;refine HN.o.mono ?_;rintro e w2 ⟨a,rfl,N4,hb⟩;have HT2:=ai N4;have j6:=ai hb;have ck:=ai (bI.o.trans (hb.mono bI.o.size));clear N4 hb))
 have HB:=ai (ck.o.alloc ck.o.size (.cells #[.slice a.aS 3 a.cS,.slice a.aF 3 a.cF,.slice a.aL 8 a.cL,.slice a.aP 1 a.cP,I 0] 27))
 have KB:=ai (B.new w2 #[.slice a.aS 3 a.cS,.slice a.aF 3 a.cF,.slice a.aL 8 a.cL,.slice a.aP 1 a.cP,I 0] 27)
 have HT:=ai (HT2.o _ (Kp.alloc _ w2 (.cells #[.slice a.aS 3 a.cS,.slice a.aF 3 a.cF,.slice a.aL 8 a.cL,.slice a.aP 1 a.cP,I 0] 27)))
 obtain⟨W,hW⟩:=ex (w2.alloc (.cells #[.slice a.aS 3 a.cS,.slice a.aF 3 a.cF,.slice a.aL 8 a.cL,.slice a.aP 1 a.cP,I 0] 27))
 obtain⟨kb,hkb⟩:=ex w2.heap.size
 have Yw:w.heap.size<=kb:=by rw[hkb];exact ck.o.size
 rw[<- hW] at HB KB HT ⊢
 rw[<- hkb] at KB ⊢
 clear hW hkb HT2 j6 ck bI HN
 obtain⟨k0,k1,k2,k3,k4⟩:=B.c5 KB.o
 have gm:=ai (JM HT.o)
 go_upto_region 3 with(go_at_call 28;refine gm.o.mono ?_;rintro e v1 ⟨b1,rfl,N4,hb⟩;have Qe:=ai N4;have og:=ai hb;have K3:=B.below KB.o hb (B.isLt KB.o);have l8:=ai K3;obtain⟨k0,k1,k2,k3,k4⟩:=B.c5 K3;have f0:=B.free K3 0;have f1:=B.free K3 1;have f2:=B.free K3 2;have f3:=B.free K3 3;have f4:=B.free K3 4;have hkl:=B.isLt K3;clear N4 hb K3)
 have HL:=ai (NJ (n:=1) HB.o Yw (B.isLt KB.o) og.o l8.o Qe.o rfl)
 have HX:=ai (HL.o.2.2.1.alloc HL.o.2.2.1.size (.cells #[I 0,I 0] 36))
 have KX:=ai (B.alloc HL.o.1 (.cells #[I 0,I 0] 36))
 have PC:=ai (xz HL.o.2.1 ((Below.refl _ _).alloc (Nat.le_refl _) (.cells #[I 0,I 0] 36)))
 have F1:=ai (B.new (((((v1.setCell (Ad kb 0) (.slice b1.aS 3 b1.cS)).setCell (Ad kb 1) (.slice b1.aF 3 b1.cF)).setCell (Ad kb 2) (.slice b1.aL 8 b1.cL)).setCell (Ad kb 3) (.slice b1.aP 1 b1.cP)).setCell (Ad kb 4) (I 0)) #[I 0,I 0] 36)
 have hsz:(((((v1.setCell (Ad kb 0) (.slice b1.aS 3 b1.cS)).setCell (Ad kb 1) (.slice b1.aF 3 b1.cF)).setCell (Ad kb 2) (.slice b1.aL 8 b1.cL)).setCell (Ad kb 3) (.slice b1.aP 1 b1.cP)).setCell (Ad kb 4) (I 0)).heap.size=v1.heap.size:=by simp
 rw[hsz] at F1
 obtain⟨fb1,rY⟩:=ex v1.heap.size
 have zM:Hid (¬fb1=kb):=(show ¬fb1=kb from fun e=>by omega)
 obtain⟨W1,hW⟩:=ex ((((((v1.setCell (Ad kb 0) (.slice b1.aS 3 b1.cS)).setCell (Ad kb 1) (.slice b1.aF 3 b1.cF)).setCell (Ad kb 2) (.slice b1.aL 8 b1.cL)).setCell (Ad kb 3) (.slice b1.aP 1 b1.cP)).setCell (Ad kb 4) (I 0)).alloc (.cells #[I 0,I 0] 36))
 rw[<- hW] at HX KX PC F1 ⊢
 rw[<- rY] at F1 ⊢
 clear hW rY hsz
 clear k0 k1 k2 k3 k4 f0 f1 f2 f3 f4 hkl HL l8 Qe og gm HB KB HT
 have HB:=HX
 have KB:=KX
 have HT:=PC
 clear HX KX PC
 obtain⟨k0,k1,k2,k3,k4⟩:=B.c5 KB.o
 have gm:=ai (QA HT.o)
 go_upto_region 4 with(go_at_call 39;refine gm.o.mono ?_;rintro e v2 ⟨b2,rfl,N4,hb⟩;have Qe:=ai N4;have og:=ai hb;have K3:=B.below KB.o hb (B.isLt KB.o);have l8:=ai K3;obtain⟨k0,k1,k2,k3,k4⟩:=B.c5 K3;have f0:=B.free K3 0;have f1:=B.free K3 1;have f2:=B.free K3 2;have f3:=B.free K3 3;have f4:=B.free K3 4;have hkl:=B.isLt K3;clear N4 hb K3)
 have HL:=ai (NJ (n:=2) HB.o Yw (B.isLt KB.o) og.o l8.o Qe.o rfl)
 have F1:=ai (HL.o.2.2.2.keep (B.below F1.o og.o (B.isLt F1.o)) zM.o)
 have HX:=ai HL.o.2.2.1
 have KX:=ai HL.o.1
 have PC:=ai HL.o.2.1
 obtain⟨W2,hW⟩:=ex ((((((v2.setCell (Ad kb 0) (.slice b2.aS 3 b2.cS)).setCell (Ad kb 1) (.slice b2.aF 3 b2.cF)).setCell (Ad kb 2) (.slice b2.aL 8 b2.cL)).setCell (Ad kb 3) (.slice b2.aP 2 b2.cP)).setCell (Ad kb 4) (I 0)))
 rw[<- hW] at HX KX PC F1 ⊢
 clear hW
 clear k0 k1 k2 k3 k4 f0 f1 f2 f3 f4 hkl HL l8 Qe og gm HB KB HT
 have HB:=HX
 have KB:=KX
 have HT:=PC
 clear HX KX PC
 obtain⟨k0,k1,k2,k3,k4⟩:=B.c5 KB.o
 have gm:=ai (JL HT.o)
 go_upto_region 5 with(go_at_call 28;refine gm.o.mono ?_;rintro e v3 ⟨b3,rfl,N4,hb⟩;have Qe:=ai N4;have og:=ai hb;have K3:=B.below KB.o hb (B.isLt KB.o);have l8:=ai K3;obtain⟨k0,k1,k2,k3,k4⟩:=B.c5 K3;have f0:=B.free K3 0;have f1:=B.free K3 1;have f2:=B.free K3 2;have f3:=B.free K3 3;have f4:=B.free K3 4;have hkl:=B.isLt K3;clear N4 hb K3)
 have HL:=ai (NJ (n:=2) HB.o Yw (B.isLt KB.o) og.o l8.o Qe.o rfl)
 have F1:=ai (HL.o.2.2.2.keep (B.below F1.o og.o (B.isLt F1.o)) zM.o)
 have HX:=ai (HL.o.2.2.1.alloc HL.o.2.2.1.size (.cells #[I 0,I 0] 36))
 have KX:=ai (B.alloc HL.o.1 (.cells #[I 0,I 0] 36))
 have PC:=ai (xz HL.o.2.1 ((Below.refl _ _).alloc (Nat.le_refl _) (.cells #[I 0,I 0] 36)))
 have F1:=ai (B.alloc F1.o (.cells #[I 0,I 0] 36))
 have F2:=ai (B.new (((((v3.setCell (Ad kb 0) (.slice b3.aS 3 b3.cS)).setCell (Ad kb 1) (.slice b3.aF 3 b3.cF)).setCell (Ad kb 2) (.slice b3.aL 8 b3.cL)).setCell (Ad kb 3) (.slice b3.aP 2 b3.cP)).setCell (Ad kb 4) (I 0)) #[I 0,I 0] 36)
 have hsz:(((((v3.setCell (Ad kb 0) (.slice b3.aS 3 b3.cS)).setCell (Ad kb 1) (.slice b3.aF 3 b3.cF)).setCell (Ad kb 2) (.slice b3.aL 8 b3.cL)).setCell (Ad kb 3) (.slice b3.aP 2 b3.cP)).setCell (Ad kb 4) (I 0)).heap.size=v3.heap.size:=by simp
 rw[hsz] at F2
 obtain⟨fb2,rY⟩:=ex v3.heap.size
 have Fk:Hid (¬fb2=kb):=(show ¬fb2=kb from fun e=>by omega)
 obtain⟨W3,hW⟩:=ex ((((((v3.setCell (Ad kb 0) (.slice b3.aS 3 b3.cS)).setCell (Ad kb 1) (.slice b3.aF 3 b3.cF)).setCell (Ad kb 2) (.slice b3.aL 8 b3.cL)).setCell (Ad kb 3) (.slice b3.aP 2 b3.cP)).setCell (Ad kb 4) (I 0)).alloc (.cells #[I 0,I 0] 36))
 rw[<- hW] at HX KX PC F1 F2 ⊢
 rw[<- rY] at F2 ⊢
 clear hW rY hsz
 clear k0 k1 k2 k3 k4 f0 f1 f2 f3 f4 hkl HL l8 Qe og gm HB KB HT
 have HB:=HX
 have KB:=KX
 have HT:=PC
 clear HX KX PC
 obtain⟨k0,k1,k2,k3,k4⟩:=B.c5 KB.o
 have gm:=ai (Qz HT.o)
 go_upto_region 6 with(go_at_call 25;refine gm.o.mono ?_;rintro e v4 ⟨b4,hd4,m1,m2,m3,m4,rfl,hb⟩;have og:=ai hb;clear hb)
 have nK:=ai (og.o.alloc og.o.size (.cells #[.slice b4.aS m1 b4.cS,.slice b4.aF m2 b4.cF,.slice b4.aL m3 b4.cL,.slice b4.aP m4 b4.cP,I hd4] 27))
 have Fu:=ai (nK.o.alloc nK.o.size (.cells #[I 0,I 0] 36))
 have F3:=ai (KZ.n1 v4 (.cells #[.slice b4.aS m1 b4.cS,.slice b4.aF m2 b4.cF,.slice b4.aL m3 b4.cL,.slice b4.aP m4 b4.cP,I hd4] 27) #[I 0,I 0] 36)
 obtain⟨W4,hW⟩:=ex ((v4.alloc (.cells #[.slice b4.aS m1 b4.cS,.slice b4.aF m2 b4.cF,.slice b4.aL m3 b4.cL,.slice b4.aP m4 b4.cP,I hd4] 27)).alloc (.cells #[I 0,I 0] 36))
 obtain⟨Zf,rY⟩:=ex (v4.heap.size+1)
 rw[<- hW] at Fu F3 ⊢
 rw[<- rY] at F3 ⊢
 clear hW rY nK og k0 k1 k2 k3 k4
 have KY:=ai (B.below KB.o Fu.o (B.isLt KB.o))
 have HTY:=ai (xz HT.o Fu.o)
 have F1:=ai (B.below F1.o Fu.o (B.isLt F1.o))
 have F2:=ai (B.below F2.o Fu.o (B.isLt F2.o))
 have iF:=ai (HB.o.trans (Fu.o.mono HB.o.size))
 obtain⟨k0,k1,k2,k3,k4⟩:=B.c5 KY.o
 have eD:=ai (Qy HTY.o)
 have hp1:WI.size=16:=rfl
 have hp2:WI.extract 0 3=⟨#[113,98,99]⟩:=by kernel_rfl
 have N8:WI.extract 14 16=⟨#[119,120]⟩:=by kernel_rfl
 obtain⟨D,hD⟩:=ex WI
 rw[<- hD] at eD hp1 hp2 N8
 clear hD
 go_upto_region 7 with(go_at_call 30;refine eD.o.mono ?_;rintro e v5 ⟨rfl,hb⟩;have tS:=ai (iF.o.trans (hb.mono iF.o.size));obtain⟨x1,y1⟩:=B.c2 (B.below F1.o hb (B.isLt F1.o));obtain⟨x2,y2⟩:=B.c2 (B.below F2.o hb (B.isLt F2.o));obtain⟨x3,y3⟩:=B.c2 (B.below F3.o hb (B.isLt F3.o));clear hb)
 go_wp2
 go_ret
 exact⟨by simp,tS.o⟩
end KG
namespace KA
open Go.RowKit Go.Deep
open W (OkW jt jB gu gM qG ku su cells3 zk)
open KW (aZ fu cI aJ eW lI)
theorem Si:Tryz.prog.cellsOf 40=4:=by kernel_rfl
theorem Pk:Tryz.prog.cellsOf 23=1:=by kernel_rfl
theorem Ss:0<Tryz.prog.bytesOf 40:=of_decide_eq_true (by kernel_rfl)
instance:Inhabited KM.Fr:=⟨KM.kY⟩
theorem R9:Tryz.prog.cellsOf 86=2:=by kernel_rfl
theorem Ph:Tryz.prog.cellsOf 24=1:=by kernel_rfl
theorem Sn:0<Tryz.prog.bytesOf 86:=of_decide_eq_true (by kernel_rfl)
instance:Inhabited KM.Sl:=⟨KM.sS⟩
theorem Sj:Tryz.prog.cellsOf 45=3:=by kernel_rfl
theorem Pm:Tryz.prog.cellsOf 41=1:=by kernel_rfl
theorem Su:0<Tryz.prog.bytesOf 45:=of_decide_eq_true (by kernel_rfl)
instance:Inhabited KM.En:=⟨KM.jI⟩
theorem R8:Tryz.prog.cellsOf 43=3:=by kernel_rfl
theorem Pf:Tryz.prog.cellsOf 25=1:=by kernel_rfl
theorem Sm:0<Tryz.prog.bytesOf 43:=of_decide_eq_true (by kernel_rfl)
instance:Inhabited KM.Sp:=⟨KM.Fw⟩
theorem Sc:Tryz.prog.cellsOf 27=5:=by kernel_rfl
section
variable {H:Type} {enc:TypeId×Value->H} {w:World} {base:Nat} {spare:Nat->Bool} {held:Bool}
theorem qj {α:Type} [Inhabited α] {ts te:TypeId} {sz:Nat} (p:List Value->α->Prop) (hu:Tryz.prog.underlying ts=some (.slice te)) (hc:Tryz.prog.cellsOf te=sz) (hb8:0<Tryz.prog.bytesOf te) (hs0:0<sz)
  (elem:∀(n:Nat) (cs:List Value) (x:DataW H×List MemPlace),cs.length=sz->DataW.trod enc Tryz.prog w base spare held n te cs=some x->OkW te x.1->∃y,p cs y)
  {fuel:Nat} {a0:Option Addr} {len cap:Nat} {x:DataW H×List MemPlace} (h:DataW.trod enc Tryz.prog w base spare held fuel ts [.slice a0 len cap]=some x) (hw:OkW ts x.1) :
  len<=cap/\len<=140737488351232/\∃l:List α,l.length=len/\(0<len->∃b off,a0=some (Ad b off)/\b<w.heap.size/\∀i,i<len->∃cs:List Value,cs.length=sz/\p cs (l.getD i default)/\∀j,j<sz->w.cell? (Ad b (off+i*sz+j))=cs[j]?)/\∀i,i<len->∃cs,p cs (l.getD i default):=by
 rcases open_slice hu h with⟨hcs,_⟩ | ⟨a,len',cap',m,n,D,Pl,hcs,hb,hl,hm,hmm,rfl,hx⟩
 · simp at hcs
   obtain⟨rfl,rfl,rfl⟩:=hcs
   exact⟨Nat.le_refl _,by omega,[],rfl,fun h=>absurd h (by omega),fun i hi=>absurd hi (by omega)⟩
 · simp at hcs
   obtain⟨rfl,rfl,rfl⟩:=hcs
   have hlm:len<=m:=by rw[hmm];split <;> omega
   obtain⟨hb1,hb2⟩:=jB hu hw
   unfold reachBytes at hb1
   have hlen:len<=140737488351232:=by
    simp only[List.length_map,List.length_range] at hb1
    have:=Nat.le_mul_of_pos_right (len+(m-len)) hb8
    omega
   have each:∀i,i<len->∃y:α,∃cs:List Value,cs.length=sz/\p cs y/\∀j,j<sz->w.cell? (a.add (i*sz+j))=cs[j]?:=by
    intro i hi
    obtain⟨cs',h1,h2⟩:=hx i (by omega)
    have hd:D i∈(List.range len).map D:=List.mem_map.2 ⟨i,List.mem_range.2 hi,rfl⟩
    rw[hc] at h1
    obtain⟨_,hcl,hcell⟩:=World.cells?_some h1
    obtain⟨y,hy⟩:=elem n cs' _ hcl h2 (hb2 _ hd)
    refine⟨y,cs',hcl,hy,fun j hj=>?_⟩
    have:=hcell j (by omega)
    simp only[add_add] at this
    exact this
   obtain⟨g,hg⟩:=choose_lt each
   have hat:∀i,i<len->((List.range len).map g).getD i default=g i:=by
    intro i hi
    simp[hi]
   refine⟨hl,hlen,(List.range len).map g,by simp,fun h0=>?_,fun i hi=>?_⟩
   · obtain⟨b,off,spot⟩:=a
     obtain⟨cs,e1,e2,e3⟩:=hg 0 h0
     have hc0:=e3 0 hs0
     rw[List.getElem?_eq_getElem (by omega)] at hc0
     have hspot:spot=none:=by simpa [Addr.add] using World.cell?_spot hc0
     subst hspot
     rw[Addr.add_lit] at hc0
     refine⟨b,off,rfl,qG hc0,fun i hi=>?_⟩
     rw[hat i hi]
     obtain⟨cs,e1,e2,e3⟩:=hg i hi
     refine⟨cs,e1,e2,fun j hj=>?_⟩
     have:=e3 j hj
     rw[Addr.add_lit,<- Nat.add_assoc] at this
     exact this
   · rw[hat i hi]
     obtain⟨cs,_,e2,_⟩:=hg i hi
     exact⟨cs,e2⟩
theorem ql {fuel:Nat} {v:Value} {y:DataW H×List MemPlace} (h:DataW.trod enc Tryz.prog w base spare held fuel 3 [v]=some y):∃n:Int,v=I n/\M.gj n:=by
 obtain⟨n,c,_,wf⟩:=DataW.trod_int Tryz.underlying3 h
 simp only[List.cons.injEq,and_true] at c
 exact⟨n,c,ku _ wf⟩
def XR (cs:List Value) (y:KM.Fr):Prop:=cs=[.string y.data,I y.refs,.bool y.b9,.bool y.seen]/\M.bf y.data.size/\M.gj y.refs
theorem XE (n:Nat) (cs:List Value) (x:DataW H×List MemPlace) (hl:cs.length=4) (h:DataW.trod enc Tryz.prog w base spare held n 40 cs=some x) (hw:OkW 40 x.1):∃y,XR cs y:=by
 obtain⟨xs,k,hk,hxy,_,hxl,hf⟩:=DataW.trod_struct Tryz.underlying40 h
 rw[hxy] at hw
 match cs,hl with
 | [v0,v1,v2,v3],_ =>
  have g0:DataW.trod enc Tryz.prog w base spare held k 9 (([v0,v1,v2,v3].drop 0).take (Tryz.prog.cellsOf 9))=xs[0]?:=hf 0 _ rfl
  have g1:DataW.trod enc Tryz.prog w base spare held k 3 (([v0,v1,v2,v3].drop 1).take (Tryz.prog.cellsOf 3))=xs[1]?:=hf 1 _ rfl
  have g2:DataW.trod enc Tryz.prog w base spare held k 4 (([v0,v1,v2,v3].drop 2).take (Tryz.prog.cellsOf 4))=xs[2]?:=hf 2 _ rfl
  have g3:DataW.trod enc Tryz.prog w base spare held k 4 (([v0,v1,v2,v3].drop 3).take (Tryz.prog.cellsOf 4))=xs[3]?:=hf 3 _ rfl
  simp only[cells3,zk,su] at g0 g1 g2 g3
  match xs,hxl with
  | [y0,y1,y2,y3],_ =>
   obtain⟨m0,c0,hx0,_⟩:=DataW.trod_string Tryz.underlying9 (show DataW.trod enc Tryz.prog w base spare held k 9 [v0]=some y0 from g0)
   have u0:=gu Tryz.underlying40 hw (j:=0) (u:=9) (d:=y0.1) rfl rfl
   rw[hx0] at u0
   have w0:M.bf m0.size:=by have:=jt u0;unfold M.bf;unfold reachBytes at this;rw[Lib.size_eq];exact this
   simp only[List.cons.injEq,and_true] at c0
   subst c0
   obtain⟨m1,rfl,w1⟩:=ql (show DataW.trod enc Tryz.prog w base spare held k 3 [v1]=some y1 from g1)
   obtain⟨m2,c2,_⟩:=DataW.trod_bool Tryz.underlying4 (show DataW.trod enc Tryz.prog w base spare held k 4 [v2]=some y2 from g2)
   simp only[List.cons.injEq,and_true] at c2
   subst c2
   obtain⟨m3,c3,_⟩:=DataW.trod_bool Tryz.underlying4 (show DataW.trod enc Tryz.prog w base spare held k 4 [v3]=some y3 from g3)
   simp only[List.cons.injEq,and_true] at c3
   subst c3
   exact⟨⟨m0,m1,m2,m3⟩,rfl,w0,w1⟩
theorem QO {fuel:Nat} {a0:Option Addr} {len cap:Nat} {x:DataW H×List MemPlace} (h:DataW.trod enc Tryz.prog w base spare held fuel 23 [.slice a0 len cap]=some x) (hw:OkW 23 x.1) :
  ∃l:List KM.Fr,l.length=len/\aZ KW.bE 4 KM.kY w a0 l/\M.bf l.length/\(∀k,k<l.length->M.bf (KM.aI l k).data.size/\M.gj (KM.aI l k).refs)/\len<=cap:=by
 obtain⟨h1,h2,l,h3,h4,h5⟩:=qj XR Tryz.underlying23 Si Ss (by decide) XE h hw
 subst h3
 refine⟨l,rfl,fun h0=>?_,h2,fun k hk=>?_,h1⟩
 · obtain⟨b,off,e1,e2,e3⟩:=h4 h0
   refine⟨b,off,e1,e2,fun i hi=>?_⟩
   obtain⟨cs,_,⟨rfl,_⟩,q⟩:=e3 i hi
   exact q
 · obtain⟨cs,_,q⟩:=h5 k hk
   exact q
def KN (cs:List Value) (y:KM.Sl):Prop:=cs=[.string y.data,I y.refs]/\M.bf y.data.size/\M.gj y.refs
theorem XD (n:Nat) (cs:List Value) (x:DataW H×List MemPlace) (hl:cs.length=2) (h:DataW.trod enc Tryz.prog w base spare held n 86 cs=some x) (hw:OkW 86 x.1):∃y,KN cs y:=by
 obtain⟨xs,k,hk,hxy,_,hxl,hf⟩:=DataW.trod_struct Tryz.underlying86 h
 rw[hxy] at hw
 match cs,hl with
 | [v0,v1],_ =>
  have g0:DataW.trod enc Tryz.prog w base spare held k 9 (([v0,v1].drop 0).take (Tryz.prog.cellsOf 9))=xs[0]?:=hf 0 _ rfl
  have g1:DataW.trod enc Tryz.prog w base spare held k 3 (([v0,v1].drop 1).take (Tryz.prog.cellsOf 3))=xs[1]?:=hf 1 _ rfl
  simp only[cells3,su] at g0 g1
  match xs,hxl with
  | [y0,y1],_ =>
   obtain⟨m0,c0,hx0,_⟩:=DataW.trod_string Tryz.underlying9 (show DataW.trod enc Tryz.prog w base spare held k 9 [v0]=some y0 from g0)
   have u0:=gu Tryz.underlying86 hw (j:=0) (u:=9) (d:=y0.1) rfl rfl
   rw[hx0] at u0
   have w0:M.bf m0.size:=by have:=jt u0;unfold M.bf;unfold reachBytes at this;rw[Lib.size_eq];exact this
   simp only[List.cons.injEq,and_true] at c0
   subst c0
   obtain⟨m1,rfl,w1⟩:=ql (show DataW.trod enc Tryz.prog w base spare held k 3 [v1]=some y1 from g1)
   exact⟨⟨m0,m1⟩,rfl,w0,w1⟩
theorem QN {fuel:Nat} {a0:Option Addr} {len cap:Nat} {x:DataW H×List MemPlace} (h:DataW.trod enc Tryz.prog w base spare held fuel 24 [.slice a0 len cap]=some x) (hw:OkW 24 x.1) :
  ∃l:List KM.Sl,l.length=len/\aZ KW.bD 2 KM.sS w a0 l/\M.bf l.length/\(∀k,k<l.length->M.bf (KM.bG l k).data.size/\M.gj (KM.bG l k).refs)/\len<=cap:=by
 obtain⟨h1,h2,l,h3,h4,h5⟩:=qj KN Tryz.underlying24 R9 Sn (by decide) XD h hw
 subst h3
 refine⟨l,rfl,fun h0=>?_,h2,fun k hk=>?_,h1⟩
 · obtain⟨b,off,e1,e2,e3⟩:=h4 h0
   refine⟨b,off,e1,e2,fun i hi=>?_⟩
   obtain⟨cs,_,⟨rfl,_⟩,q⟩:=e3 i hi
   exact q
 · obtain⟨cs,_,q⟩:=h5 k hk
   exact q
def XT (cs:List Value) (y:KM.En):Prop:=cs=[I y.page,I y.kind,I y.loc]/\M.gj y.page/\M.gj y.kind/\M.gj y.loc
theorem XF (n:Nat) (cs:List Value) (x:DataW H×List MemPlace) (hl:cs.length=3) (h:DataW.trod enc Tryz.prog w base spare held n 45 cs=some x) (hw:OkW 45 x.1):∃y,XT cs y:=by
 obtain⟨xs,k,hk,hxy,_,hxl,hf⟩:=DataW.trod_struct Tryz.underlying45 h
 rw[hxy] at hw
 match cs,hl with
 | [v0,v1,v2],_ =>
  have g0:DataW.trod enc Tryz.prog w base spare held k 3 (([v0,v1,v2].drop 0).take (Tryz.prog.cellsOf 3))=xs[0]?:=hf 0 _ rfl
  have g1:DataW.trod enc Tryz.prog w base spare held k 3 (([v0,v1,v2].drop 1).take (Tryz.prog.cellsOf 3))=xs[1]?:=hf 1 _ rfl
  have g2:DataW.trod enc Tryz.prog w base spare held k 3 (([v0,v1,v2].drop 2).take (Tryz.prog.cellsOf 3))=xs[2]?:=hf 2 _ rfl
  simp only[cells3] at g0 g1 g2
  match xs,hxl with
  | [y0,y1,y2],_ =>
   obtain⟨m0,rfl,w0⟩:=ql (show DataW.trod enc Tryz.prog w base spare held k 3 [v0]=some y0 from g0)
   obtain⟨m1,rfl,w1⟩:=ql (show DataW.trod enc Tryz.prog w base spare held k 3 [v1]=some y1 from g1)
   obtain⟨m2,rfl,w2⟩:=ql (show DataW.trod enc Tryz.prog w base spare held k 3 [v2]=some y2 from g2)
   exact⟨⟨m0,m1,m2⟩,rfl,w0,w1,w2⟩
theorem QP {fuel:Nat} {a0:Option Addr} {len cap:Nat} {x:DataW H×List MemPlace} (h:DataW.trod enc Tryz.prog w base spare held fuel 41 [.slice a0 len cap]=some x) (hw:OkW 41 x.1) :
  ∃l:List KM.En,l.length=len/\aZ KW.aK 3 KM.jI w a0 l/\M.bf l.length/\(∀k,k<l.length->M.gj (KM.aN l k).page/\M.gj (KM.aN l k).kind/\M.gj (KM.aN l k).loc)/\len<=cap:=by
 obtain⟨h1,h2,l,h3,h4,h5⟩:=qj XT Tryz.underlying41 Sj Su (by decide) XF h hw
 subst h3
 refine⟨l,rfl,fun h0=>?_,h2,fun k hk=>?_,h1⟩
 · obtain⟨b,off,e1,e2,e3⟩:=h4 h0
   refine⟨b,off,e1,e2,fun i hi=>?_⟩
   obtain⟨cs,_,⟨rfl,_⟩,q⟩:=e3 i hi
   exact q
 · obtain⟨cs,_,q⟩:=h5 k hk
   exact q
def XQ (w:World) (cs:List Value) (y:KM.Sp):Prop:=∃va ap cp,cs=[.bool y.live,va,.slice ap y.aA.length cp]/\AW.Has w va y.aD/\aZ KW.aK 3 KM.jI w ap y.aA/\y.aA.length<=cp/\lI y
theorem XC (n:Nat) (cs:List Value) (x:DataW H×List MemPlace) (hl:cs.length=3) (h:DataW.trod enc Tryz.prog w base spare held n 43 cs=some x) (hw:OkW 43 x.1):∃y,XQ w cs y:=by
 obtain⟨xs,k,hk,hxy,_,hxl,hf⟩:=DataW.trod_struct Tryz.underlying43 h
 rw[hxy] at hw
 match cs,hl with
 | [v0,v1,v2],_ =>
  have g0:DataW.trod enc Tryz.prog w base spare held k 4 (([v0,v1,v2].drop 0).take (Tryz.prog.cellsOf 4))=xs[0]?:=hf 0 _ rfl
  have g1:DataW.trod enc Tryz.prog w base spare held k 28 (([v0,v1,v2].drop 1).take (Tryz.prog.cellsOf 28))=xs[1]?:=hf 1 _ rfl
  have g2:DataW.trod enc Tryz.prog w base spare held k 41 (([v0,v1,v2].drop 2).take (Tryz.prog.cellsOf 41))=xs[2]?:=hf 2 _ rfl
  simp only[zk,LW.E3,Pm] at g0 g1 g2
  match xs,hxl with
  | [y0,y1,y2],_ =>
   obtain⟨lv,c0,_⟩:=DataW.trod_bool Tryz.underlying4 (show DataW.trod enc Tryz.prog w base spare held k 4 [v0]=some y0 from g0)
   have u1:=gu Tryz.underlying43 hw (j:=1) (u:=28) (d:=y1.1) rfl rfl
   have u2:=gu Tryz.underlying43 hw (j:=2) (u:=41) (d:=y2.1) rfl rfl
   have t1:DataW.trod enc Tryz.prog w base spare held k 28 [v1]=some y1:=g1
   have t2:DataW.trod enc Tryz.prog w base spare held k 41 [v2]=some y2:=g2
   obtain⟨av,lvn,cv,d1⟩:=gM Tryz.underlying28 t1
   obtain⟨ap,lp,cp,d2⟩:=gM Tryz.underlying41 t2
   subst d1;subst d2
   obtain⟨l,n1,n2,n3,n4⟩:=AW.yl t1
   obtain⟨ps,s1,s2,s3,s4,s5⟩:=QP t2 u2
   simp only[List.cons.injEq,and_true] at c0
   subst c0;subst s1
   refine⟨⟨lv,l,ps⟩,_,ap,cp,rfl,n2,s2,s5,⟨n3,?_⟩,s3,s4⟩
   rw[n1]
   rcases n4 with e | ⟨el,sp,e1,e2⟩
   · omega
   · rw[e1] at u1
     have hb:=(jB Tryz.underlying28 u1).1
     rw[LW.Jo,e2] at hb
     unfold reachBytes at hb
     omega
theorem QM {fuel:Nat} {a0:Option Addr} {len cap:Nat} {x:DataW H×List MemPlace} (h:DataW.trod enc Tryz.prog w base spare held fuel 25 [.slice a0 len cap]=some x) (hw:OkW 25 x.1) :
  ∃l:List KM.Sp,l.length=len/\KW.jY w a0 l/\M.bf l.length/\∀k,k<l.length->lI (KM.au l k):=by
 obtain⟨h1,h2,l,h3,h4,h5⟩:=qj (XQ w) Tryz.underlying25 R8 Sm (by decide) XC h hw
 subst h3
 refine⟨l,rfl,fun h0=>?_,h2,fun k hk=>?_⟩
 · obtain⟨b,off,e1,e2,e3⟩:=h4 h0
   refine⟨b,off,e1,e2,fun i hi=>?_⟩
   obtain⟨cs,_,⟨va,ap,cp,rfl,r1,r2,r3,_⟩,q⟩:=e3 i hi
   exact⟨va,ap,cp,q 0 (by decide),q 1 (by decide),q 2 (by decide),r1,r2,r3⟩
 · obtain⟨cs,_,_,_,_,_,_,_,q⟩:=h5 k hk
   exact q
theorem Eb {fuel:Nat} {cs:List Value} {x:DataW H×List MemPlace} (h:DataW.trod enc Tryz.prog w base spare held fuel 27 cs=some x) (hw:OkW 27 x.1) :
  ∃(k:KM.Kn) (a:fu),cs=(aJ a k).toList/\cI w a k/\eW k:=by
 obtain⟨xs,k,hk,hxy,hcl,hxl,hf⟩:=DataW.trod_struct Tryz.underlying27 h
 rw[hxy] at hw
 rw[Sc] at hcl
 match cs,hcl with
 | [v0,v1,v2,v3,v4],_ =>
  have g0:DataW.trod enc Tryz.prog w base spare held k 22 (([v0,v1,v2,v3,v4].drop 0).take (Tryz.prog.cellsOf 22))=xs[0]?:=hf 0 _ rfl
  have g1:DataW.trod enc Tryz.prog w base spare held k 23 (([v0,v1,v2,v3,v4].drop 1).take (Tryz.prog.cellsOf 23))=xs[1]?:=hf 1 _ rfl
  have g2:DataW.trod enc Tryz.prog w base spare held k 24 (([v0,v1,v2,v3,v4].drop 2).take (Tryz.prog.cellsOf 24))=xs[2]?:=hf 2 _ rfl
  have g3:DataW.trod enc Tryz.prog w base spare held k 25 (([v0,v1,v2,v3,v4].drop 3).take (Tryz.prog.cellsOf 25))=xs[3]?:=hf 3 _ rfl
  have g4:DataW.trod enc Tryz.prog w base spare held k 3 (([v0,v1,v2,v3,v4].drop 4).take (Tryz.prog.cellsOf 3))=xs[4]?:=hf 4 _ rfl
  simp only[cells3,LW.E1,Pk,Ph,Pf] at g0 g1 g2 g3 g4
  match xs,hxl with
  | [y0,y1,y2,y3,y4],_ =>
   obtain⟨hd,rfl,i4⟩:=ql (show DataW.trod enc Tryz.prog w base spare held k 3 [v4]=some y4 from g4)
   have u0:=gu Tryz.underlying27 hw (j:=0) (u:=22) (d:=y0.1) rfl rfl
   have t0:DataW.trod enc Tryz.prog w base spare held k 22 [v0]=some y0:=g0
   obtain⟨a0,l0,c0,d0⟩:=gM Tryz.underlying22 t0
   have u1:=gu Tryz.underlying27 hw (j:=1) (u:=23) (d:=y1.1) rfl rfl
   have t1:DataW.trod enc Tryz.prog w base spare held k 23 [v1]=some y1:=g1
   obtain⟨a1,l1,c1,d1⟩:=gM Tryz.underlying23 t1
   have u2:=gu Tryz.underlying27 hw (j:=2) (u:=24) (d:=y2.1) rfl rfl
   have t2:DataW.trod enc Tryz.prog w base spare held k 24 [v2]=some y2:=g2
   obtain⟨a2,l2,c2,d2⟩:=gM Tryz.underlying24 t2
   have u3:=gu Tryz.underlying27 hw (j:=3) (u:=25) (d:=y3.1) rfl rfl
   have t3:DataW.trod enc Tryz.prog w base spare held k 25 [v3]=some y3:=g3
   obtain⟨a3,l3,c3,d3⟩:=gM Tryz.underlying25 t3
   subst d0;subst d1;subst d2;subst d3
   obtain⟨hs,rfl,s2,s3,s4⟩:=LW.Ni t0 u0
   obtain⟨fs,rfl,f2,f3,f4,f5⟩:=QO t1 u1
   obtain⟨ls,rfl,m2,m3,m4,m5⟩:=QN t2 u2
   obtain⟨ss,rfl,p2,p3,p4⟩:=QM t3 u3
   exact⟨⟨hs,fs,ls,ss,hd⟩,⟨a0,c0,a1,c1,a2,c2,a3,c3⟩,rfl,⟨s2,f2,m2,p2⟩,⟨s3,f3,f4,m3,m4,p3,p4,i4⟩⟩
end
end KA
end Go.Proofs.YtpgifpeohlllfaaGreat
