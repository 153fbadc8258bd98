import Derived.Test.YtpgifpeohlllfaaGreatGI38
import Derived.Test.YtpgifpeohlllfaaGreatGI41
import Derived.Test.YtpgifpeohlllfaaGreatGI42
import Derived.Test.YtpgifpeohlllfaaGreatGI11
import Derived.Test.YtpgifpeohlllfaaGreatGI00
import Derived.Test.YtpgifpeohlllfaaGreatChecked
import Derived.Deep.Slices
import Derived.ProofKit
import Derived.SizedLaws
import Derived.Test.YtpgifpeohlllfaaGreatGI12
import Derived.Test.YtpgifpeohlllfaaGreatGI01
set_option maxHeartbeats 20000000
set_option linter.unusedVariables false
set_option maxRecDepth 100000
set_option linter.unusedSimpArgs false
namespace Go.Proofs.YtpgifpeohlllfaaGreat
namespace KG
open Go.RowKit GK KO
open FW (hideC add_below)
open KW (KAt HasK cellsK FitK)
def Th (V : World) (K : List LM.Sh -> KM.Kn) (a : KAt) : Prop:=∃ b1 b2 b3 d1 d2 d3,HasK V a (K (thH b1 b2 b3 d1 d2 d3))
theorem out_th {w : World} {K : List LM.Sh -> KM.Kn} {H : List LM.Sh} {vs : List Value} {e : Ending} {w' : World} (hH : H.map LM.plain = thE) (hS : ∀ H,(K H).sheets = H) (hW : ∀ H H',KM.withS (K H) H' = K H') (h : KZ.OutKn w (K H) vs e w') : ∃ a b1 b2 b3 d1 d2 d3,e = .returned (.tuple (Value.agg (cellsK a (K (thH b1 b2 b3 d1 d2 d3))) :: vs).toArray) /\ (∀ U,Kp (fun b=>b < w.heap.size) w' U -> Th U K a) /\ Below w.heap.size w w':=by
 obtain ⟨hs,a,h1,h2,h3,h4⟩:=out_r h
 rw [hS] at h1
 obtain ⟨b1,b2,b3,d1,d2,d3,rfl⟩:=th_of (Eq.trans h1 hH)
 rw [hW] at h2 h3
 exact ⟨a,b1,b2,b3,d1,d2,d3,h2,fun U hU=>⟨b1,b2,b3,d1,d2,d3,h3 U hU⟩,h4⟩
theorem th_plain (b1 b2 b3 : Option Addr) (d1 d2 d3 : Nat) : (thH b1 b2 b3 d1 d2 d3).map LM.plain = thE:=rfl
theorem th_new {V : World} {ar ah : Option Addr} {cr ch : Nat} {a1 a2 a3 : Option Addr} {c1 c2 c3 : Nat} (h1 : AW.Has V (.slice ar 2 cr) thA) (h2 : LM.HasH V ah (thH a1 a2 a3 c1 c2 c3)) (h3 : 3 <= ch) : Calls Tryz.prog 18 #[.agg #[.slice ar 2 cr,.slice ah 3 ch,.int .i64 16],.int .i64 3,.int .i64 8] V fun e w'=>∃ a,e = .returned (.tuple #[.agg #[.slice a.aS 3 a.cS,.slice a.aF 3 a.cF,.slice a.aL 8 a.cL,.slice a.aP 1 a.cP,.int .i64 0],.int .i64 0]) /\ (∀ U,Kp (fun b=>b < V.heap.size) w' U -> Th U kk0 a) /\ Below V.heap.size V w':=by
 refine (KZ.new_any KY.copyK thA (thH a1 a2 a3 c1 c2 c3) 16 3 8 (.slice ar 2 cr) ah ch V h1 th_fitA h2 (th_fitH a1 a2 a3 c1 c2 c3) h3 (by unfold M.I64;decide)).mono fun e w' h=>?_
 have e0 : KZ.newA thA (thH a1 a2 a3 c1 c2 c3) 16 3 8 = (kk0 (thH a1 a2 a3 c1 c2 c3),0):=by kernel_rfl
 rw [e0] at h
 obtain ⟨a,b1,b2,b3,d1,d2,d3,g1,g2,g3⟩:=out_th (th_plain _ _ _ _ _ _) (fun _=>rfl) (fun _ _=>rfl) h
 exact ⟨a,g1,g2,g3⟩
theorem th_store1 {V : World} {a : KAt} (h : Th V kk0 a) : Calls Tryz.prog 28 #[.agg #[.slice a.aS 3 a.cS,.slice a.aF 3 a.cF,.slice a.aL 8 a.cL,.slice a.aP 1 a.cP,.int .i64 0],.int .i64 0,.int .i64 46,.string ⟨#[119,120,121,122]⟩] V fun e w'=>∃ a,e = .returned (.tuple #[.agg #[.slice a.aS 3 a.cS,.slice a.aF 3 a.cF,.slice a.aL 8 a.cL,.slice a.aP 1 a.cP,.int .i64 0],.agg #[.int .i64 0,.int .i64 0],.int .i64 0]) /\ (∀ U,Kp (fun b=>b < V.heap.size) w' U -> Th U kk1 a) /\ Below V.heap.size V w':=by
 obtain ⟨b1,b2,b3,d1,d2,d3,hk⟩:=h
 refine (KZ.store_any KY.copyK _ a 0 46 wxD V hk (kk0_fit b1 b2 b3 d1 d2 d3) (by unfold M.I64;decide) (by unfold M.I64;decide)).mono fun e w' h=>?_
 rw [kk1_store] at h
 obtain ⟨a,b1,b2,b3,d1,d2,d3,g1,g2,g3⟩:=out_th (th_plain _ _ _ _ _ _) (fun _=>rfl) (fun _ _=>rfl) h
 exact ⟨a,g1,g2,g3⟩
theorem th_fork {V : World} {a : KAt} (h : Th V kk1 a) : Calls Tryz.prog 39 #[.agg #[.slice a.aS 3 a.cS,.slice a.aF 3 a.cF,.slice a.aL 8 a.cL,.slice a.aP 1 a.cP,.int .i64 0],.int .i64 0] V fun e w'=>∃ a,e = .returned (.tuple #[.agg #[.slice a.aS 3 a.cS,.slice a.aF 3 a.cF,.slice a.aL 8 a.cL,.slice a.aP 2 a.cP,.int .i64 0],.int .i64 1,.int .i64 0]) /\ (∀ U,Kp (fun b=>b < V.heap.size) w' U -> Th U kk2 a) /\ Below V.heap.size V w':=by
 obtain ⟨b1,b2,b3,d1,d2,d3,hk⟩:=h
 refine (KZ.fork_any KY.copyK _ a 0 V hk (kk1_fit b1 b2 b3 d1 d2 d3) (by unfold M.I64;decide)).mono fun e w' h=>?_
 have e0 : KZ.forkA (kk1 (thH b1 b2 b3 d1 d2 d3)) 0 = (kk2 (thH b1 b2 b3 d1 d2 d3),1,0):=by kernel_rfl
 rw [e0] at h
 obtain ⟨a,b1,b2,b3,d1,d2,d3,g1,g2,g3⟩:=out_th (th_plain _ _ _ _ _ _) (fun _=>rfl) (fun _ _=>rfl) h
 exact ⟨a,g1,g2,g3⟩
theorem th_store2 {V : World} {a : KAt} (h : Th V kk2 a) : Calls Tryz.prog 28 #[.agg #[.slice a.aS 3 a.cS,.slice a.aF 3 a.cF,.slice a.aL 8 a.cL,.slice a.aP 2 a.cP,.int .i64 0],.int .i64 1,.int .i64 32,.string ⟨#[113]⟩] V fun e w'=>∃ a,e = .returned (.tuple #[.agg #[.slice a.aS 3 a.cS,.slice a.aF 3 a.cF,.slice a.aL 8 a.cL,.slice a.aP 2 a.cP,.int .i64 0],.agg #[.int .i64 0,.int .i64 0],.int .i64 0]) /\ (∀ U,Kp (fun b=>b < V.heap.size) w' U -> Th U kk3 a) /\ Below V.heap.size V w':=by
 obtain ⟨b1,b2,b3,d1,d2,d3,hk⟩:=h
 refine (KZ.store_any KY.copyK _ a 1 32 qD V hk (kk2_fit b1 b2 b3 d1 d2 d3) (by unfold M.I64;decide) (by unfold M.I64;decide)).mono fun e w' h=>?_
 rw [kk3_store] at h
 obtain ⟨a,b1,b2,b3,d1,d2,d3,g1,g2,g3⟩:=out_th (th_plain _ _ _ _ _ _) (fun _=>rfl) (fun _ _=>rfl) h
 exact ⟨a,g1,g2,g3⟩
theorem th_load {V : World} {a : KAt} (h : Th V kk3 a) : Calls Tryz.prog 25 #[.agg #[.slice a.aS 3 a.cS,.slice a.aF 3 a.cF,.slice a.aL 8 a.cL,.slice a.aP 2 a.cP,.int .i64 0],.int .i64 0,.int .i64 32,.int .i64 2,.int .i64 0] V fun e w'=>∃ (a : KAt) (hd : Int) (n1 n2 n3 n4 : Nat),e = .returned (.tuple #[.agg #[.slice a.aS n1 a.cS,.slice a.aF n2 a.cF,.slice a.aL n3 a.cL,.slice a.aP n4 a.cP,.int .i64 hd],.string ⟨#[97,98]⟩,.agg #[.int .i64 0,.int .i64 0],.int .i64 0]) /\ Below V.heap.size V w':=by
 obtain ⟨b1,b2,b3,d1,d2,d3,hk⟩:=h
 refine (KZ.load_any KY.copyK _ a 0 32 2 0 V hk (kk3_fit b1 b2 b3 d1 d2 d3) (by unfold M.I64;decide) (by unfold M.I64;decide)).mono fun e w' h=>?_
 rw [kk3_load] at h
 obtain ⟨hs,a,h1,h2,h3,h4⟩:=out_r h
 exact ⟨a,_,_,_,_,_,h2,h4⟩
theorem th_peek {V : World} {a : KAt} (h : Th V kk3 a) : Calls Tryz.prog 30 #[.agg #[.slice a.aS 3 a.cS,.slice a.aF 3 a.cF,.slice a.aL 8 a.cL,.slice a.aP 2 a.cP,.int .i64 0],.int .i64 1,.int .i64 2] V fun e w'=>e = .returned (.tuple #[.string pkD,.int .i64 0]) /\ Below V.heap.size V w':=by
 obtain ⟨b1,b2,b3,d1,d2,d3,hk⟩:=h
 have:=KW.peek_any _ a 1 2 V hk (kk3_fit b1 b2 b3 d1 d2 d3) (by unfold M.I64;decide)
 rw [kk3_peek] at this
 exact this
theorem th_below {V U : World} {K : List LM.Sh -> KM.Kn} {a : KAt} (h : Th V K a) (hb : Below V.heap.size V U) : Th U K a:=by
 obtain ⟨b1,b2,b3,d1,d2,d3,hk⟩:=h
 exact ⟨b1,b2,b3,d1,d2,d3,hk.below hb⟩
theorem laid5 {w W w3 : World} {kb n : Nat} {b : KAt} {c0 c1 c2 c3 c4 : Value} {K : List LM.Sh -> KM.Kn} (hB : Below w.heap.size w W) (hkw : w.heap.size <= kb) (hkb : kb < W.heap.size) (hb : Below W.heap.size W w3) (hk : w3.heap[kb]? = some (.cells #[c0,c1,c2,c3,c4] 27 (0,0))) (ht : ∀ U,Kp (fun x=>x < W.heap.size) w3 U -> Th U K b) {V : World} (hV : V = (((((w3.setCell ⟨kb,0,none⟩ (.slice b.aS 3 b.cS)).setCell ⟨kb,1,none⟩ (.slice b.aF 3 b.cF)).setCell ⟨kb,2,none⟩ (.slice b.aL 8 b.cL)).setCell ⟨kb,3,none⟩ (.slice b.aP n b.cP)).setCell ⟨kb,4,none⟩ (.int .i64 0))) :
  V.heap[kb]? = some (.cells #[.slice b.aS 3 b.cS,.slice b.aF 3 b.cF,.slice b.aL 8 b.cL,.slice b.aP n b.cP,.int .i64 0] 27 (0,0)) /\ Th V K b /\ Below w.heap.size w V /\ Kp (fun x=>x = kb) w3 V:=by
 have hk2 : V.heap[kb]? = some (.cells #[.slice b.aS 3 b.cS,.slice b.aF 3 b.cF,.slice b.aL 8 b.cL,.slice b.aP n b.cP,.int .i64 0] 27 (0,0)):=by rw [hV];exact B.set (B.set (B.set (B.set (B.set hk 0 _) 1 _) 2 _) 3 _) 4 _
 have kp : Kp (fun x=>x = kb) w3 V:=by
  rw [hV]
  have k : ∀ (A : World) (j : Nat) (v : Value),Kp (fun x=>x = kb) A (A.setCell ⟨kb,j,none⟩ v):=fun A j v=>Kp.set _ A ⟨kb,j,none⟩ v rfl
  exact ((((k _ _ _).trans (k _ _ _) (fun _ _ g=>g)).trans (k _ _ _) (fun _ _ g=>g)).trans (k _ _ _) (fun _ _ g=>g)).trans (k _ _ _) (fun _ _ g=>g)
 have hbw : Below w.heap.size w w3:=hB.trans (hb.mono hB.size)
 exact ⟨hk2,ht V (kp.mono (fun x _ e=>by rw [e];exact hkb)),Kp.below hbw kp hbw.size (fun x e=>by rw [e];exact hkw),kp⟩
set_option maxHeartbeats 8000000 in
theorem begun_any (w : World) : Calls Tryz.prog 15 #[] w fun e w'=>e = .returned (.bool true) /\ Below w.heap.size w w':=by
 go_enter Tryz.func15,Tryz.ntmps15
 go_upto_region 2 with (first
  | (go_at_call 50;refine (three_any _).mono ?_;rintro e w1 ⟨ar,cr,ah,ch,a1,a2,a3,c1,c2,c3,rfl,h1,h2,h3,h4⟩;have HB1:=hideC h4;have HN:=hideC (th_new h1 h2 h3);clear h1 h2 h3 h4)
  | (go_at_call 18;refine HN.out.mono ?_;rintro e w2 ⟨a,rfl,hth,hb⟩;have HT2:=hideC hth;have HC2:=hideC hb;have HB2:=hideC (HB1.out.trans (hb.mono HB1.out.size));clear hth hb))
 have HB:=hideC (HB2.out.alloc HB2.out.size (.cells #[.slice a.aS 3 a.cS,.slice a.aF 3 a.cF,.slice a.aL 8 a.cL,.slice a.aP 1 a.cP,.int .i64 0] 27))
 have KB:=hideC (B.new w2 #[.slice a.aS 3 a.cS,.slice a.aF 3 a.cF,.slice a.aL 8 a.cL,.slice a.aP 1 a.cP,.int .i64 0] 27)
 have HT:=hideC (HT2.out _ (Kp.alloc _ w2 (.cells #[.slice a.aS 3 a.cS,.slice a.aF 3 a.cF,.slice a.aL 8 a.cL,.slice a.aP 1 a.cP,.int .i64 0] 27)))
 obtain ⟨W,hW⟩ : ∃ W,W = w2.alloc (.cells #[.slice a.aS 3 a.cS,.slice a.aF 3 a.cF,.slice a.aL 8 a.cL,.slice a.aP 1 a.cP,.int .i64 0] 27):=⟨_,rfl⟩
 obtain ⟨kb,hkb⟩ : ∃ kb,kb = w2.heap.size:=⟨_,rfl⟩
 have hkw : w.heap.size <= kb:=by rw [hkb];exact HB2.out.size
 rw [<- hW] at HB KB HT ⊢
 rw [<- hkb] at KB ⊢
 clear hW hkb HT2 HC2 HB2 HB1 HN
 obtain ⟨k0,k1,k2,k3,k4⟩:=B.c5 KB.out
 have HS1:=hideC (th_store1 HT.out)
 go_upto_region 3 with (go_at_call 28;refine HS1.out.mono ?_;rintro e v1 ⟨b1,rfl,hth,hb⟩;have HT3:=hideC hth;have HC3:=hideC hb;have K3:=B.below KB.out hb (B.isLt KB.out);have HK3:=hideC K3;obtain ⟨k0,k1,k2,k3,k4⟩:=B.c5 K3;have f0:=B.free K3 0;have f1:=B.free K3 1;have f2:=B.free K3 2;have f3:=B.free K3 3;have f4:=B.free K3 4;have hkl:=B.isLt K3;clear hth hb K3)
 have HL:=hideC (laid5 (n:=1) HB.out hkw (B.isLt KB.out) HC3.out HK3.out HT3.out rfl)
 have HX:=hideC (HL.out.2.2.1.alloc HL.out.2.2.1.size (.cells #[.int .i64 0,.int .i64 0] 36))
 have KX:=hideC (B.alloc HL.out.1 (.cells #[.int .i64 0,.int .i64 0] 36))
 have HTX:=hideC (th_below HL.out.2.1 ((Below.refl _ _).alloc (Nat.le_refl _) (.cells #[.int .i64 0,.int .i64 0] 36)))
 have F1:=hideC (B.new (((((v1.setCell ⟨kb,0,none⟩ (.slice b1.aS 3 b1.cS)).setCell ⟨kb,1,none⟩ (.slice b1.aF 3 b1.cF)).setCell ⟨kb,2,none⟩ (.slice b1.aL 8 b1.cL)).setCell ⟨kb,3,none⟩ (.slice b1.aP 1 b1.cP)).setCell ⟨kb,4,none⟩ (.int .i64 0)) #[.int .i64 0,.int .i64 0] 36)
 have hsz : (((((v1.setCell ⟨kb,0,none⟩ (.slice b1.aS 3 b1.cS)).setCell ⟨kb,1,none⟩ (.slice b1.aF 3 b1.cF)).setCell ⟨kb,2,none⟩ (.slice b1.aL 8 b1.cL)).setCell ⟨kb,3,none⟩ (.slice b1.aP 1 b1.cP)).setCell ⟨kb,4,none⟩ (.int .i64 0)).heap.size = v1.heap.size:=by simp
 rw [hsz] at F1
 obtain ⟨fb1,hfb⟩ : ∃ fb1,fb1 = v1.heap.size:=⟨_,rfl⟩
 have HN1 : Hid (¬ fb1 = kb):=(show ¬ fb1 = kb from fun e=>by omega)
 obtain ⟨W1,hW⟩ : ∃ W1,W1 = (((((v1.setCell ⟨kb,0,none⟩ (.slice b1.aS 3 b1.cS)).setCell ⟨kb,1,none⟩ (.slice b1.aF 3 b1.cF)).setCell ⟨kb,2,none⟩ (.slice b1.aL 8 b1.cL)).setCell ⟨kb,3,none⟩ (.slice b1.aP 1 b1.cP)).setCell ⟨kb,4,none⟩ (.int .i64 0)).alloc (.cells #[.int .i64 0,.int .i64 0] 36):=⟨_,rfl⟩
 rw [<- hW] at HX KX HTX F1 ⊢
 rw [<- hfb] at F1 ⊢
 clear hW hfb hsz
 clear k0 k1 k2 k3 k4 f0 f1 f2 f3 f4 hkl HL HK3 HT3 HC3 HS1 HB KB HT
 have HB:=HX
 have KB:=KX
 have HT:=HTX
 clear HX KX HTX
 obtain ⟨k0,k1,k2,k3,k4⟩:=B.c5 KB.out
 have HS1:=hideC (th_fork HT.out)
 go_upto_region 4 with (go_at_call 39;refine HS1.out.mono ?_;rintro e v2 ⟨b2,rfl,hth,hb⟩;have HT3:=hideC hth;have HC3:=hideC hb;have K3:=B.below KB.out hb (B.isLt KB.out);have HK3:=hideC K3;obtain ⟨k0,k1,k2,k3,k4⟩:=B.c5 K3;have f0:=B.free K3 0;have f1:=B.free K3 1;have f2:=B.free K3 2;have f3:=B.free K3 3;have f4:=B.free K3 4;have hkl:=B.isLt K3;clear hth hb K3)
 have HL:=hideC (laid5 (n:=2) HB.out hkw (B.isLt KB.out) HC3.out HK3.out HT3.out rfl)
 have F1:=hideC (HL.out.2.2.2.keep (B.below F1.out HC3.out (B.isLt F1.out)) HN1.out)
 have HX:=hideC HL.out.2.2.1
 have KX:=hideC HL.out.1
 have HTX:=hideC HL.out.2.1
 obtain ⟨W2,hW⟩ : ∃ W2,W2 = (((((v2.setCell ⟨kb,0,none⟩ (.slice b2.aS 3 b2.cS)).setCell ⟨kb,1,none⟩ (.slice b2.aF 3 b2.cF)).setCell ⟨kb,2,none⟩ (.slice b2.aL 8 b2.cL)).setCell ⟨kb,3,none⟩ (.slice b2.aP 2 b2.cP)).setCell ⟨kb,4,none⟩ (.int .i64 0)):=⟨_,rfl⟩
 rw [<- hW] at HX KX HTX F1 ⊢
 clear hW
 clear k0 k1 k2 k3 k4 f0 f1 f2 f3 f4 hkl HL HK3 HT3 HC3 HS1 HB KB HT
 have HB:=HX
 have KB:=KX
 have HT:=HTX
 clear HX KX HTX
 obtain ⟨k0,k1,k2,k3,k4⟩:=B.c5 KB.out
 have HS1:=hideC (th_store2 HT.out)
 go_upto_region 5 with (go_at_call 28;refine HS1.out.mono ?_;rintro e v3 ⟨b3,rfl,hth,hb⟩;have HT3:=hideC hth;have HC3:=hideC hb;have K3:=B.below KB.out hb (B.isLt KB.out);have HK3:=hideC K3;obtain ⟨k0,k1,k2,k3,k4⟩:=B.c5 K3;have f0:=B.free K3 0;have f1:=B.free K3 1;have f2:=B.free K3 2;have f3:=B.free K3 3;have f4:=B.free K3 4;have hkl:=B.isLt K3;clear hth hb K3)
 have HL:=hideC (laid5 (n:=2) HB.out hkw (B.isLt KB.out) HC3.out HK3.out HT3.out rfl)
 have F1:=hideC (HL.out.2.2.2.keep (B.below F1.out HC3.out (B.isLt F1.out)) HN1.out)
 have HX:=hideC (HL.out.2.2.1.alloc HL.out.2.2.1.size (.cells #[.int .i64 0,.int .i64 0] 36))
 have KX:=hideC (B.alloc HL.out.1 (.cells #[.int .i64 0,.int .i64 0] 36))
 have HTX:=hideC (th_below HL.out.2.1 ((Below.refl _ _).alloc (Nat.le_refl _) (.cells #[.int .i64 0,.int .i64 0] 36)))
 have F1:=hideC (B.alloc F1.out (.cells #[.int .i64 0,.int .i64 0] 36))
 have F2:=hideC (B.new (((((v3.setCell ⟨kb,0,none⟩ (.slice b3.aS 3 b3.cS)).setCell ⟨kb,1,none⟩ (.slice b3.aF 3 b3.cF)).setCell ⟨kb,2,none⟩ (.slice b3.aL 8 b3.cL)).setCell ⟨kb,3,none⟩ (.slice b3.aP 2 b3.cP)).setCell ⟨kb,4,none⟩ (.int .i64 0)) #[.int .i64 0,.int .i64 0] 36)
 have hsz : (((((v3.setCell ⟨kb,0,none⟩ (.slice b3.aS 3 b3.cS)).setCell ⟨kb,1,none⟩ (.slice b3.aF 3 b3.cF)).setCell ⟨kb,2,none⟩ (.slice b3.aL 8 b3.cL)).setCell ⟨kb,3,none⟩ (.slice b3.aP 2 b3.cP)).setCell ⟨kb,4,none⟩ (.int .i64 0)).heap.size = v3.heap.size:=by simp
 rw [hsz] at F2
 obtain ⟨fb2,hfb⟩ : ∃ fb2,fb2 = v3.heap.size:=⟨_,rfl⟩
 have HN2 : Hid (¬ fb2 = kb):=(show ¬ fb2 = kb from fun e=>by omega)
 obtain ⟨W3,hW⟩ : ∃ W3,W3 = (((((v3.setCell ⟨kb,0,none⟩ (.slice b3.aS 3 b3.cS)).setCell ⟨kb,1,none⟩ (.slice b3.aF 3 b3.cF)).setCell ⟨kb,2,none⟩ (.slice b3.aL 8 b3.cL)).setCell ⟨kb,3,none⟩ (.slice b3.aP 2 b3.cP)).setCell ⟨kb,4,none⟩ (.int .i64 0)).alloc (.cells #[.int .i64 0,.int .i64 0] 36):=⟨_,rfl⟩
 rw [<- hW] at HX KX HTX F1 F2 ⊢
 rw [<- hfb] at F2 ⊢
 clear hW hfb hsz
 clear k0 k1 k2 k3 k4 f0 f1 f2 f3 f4 hkl HL HK3 HT3 HC3 HS1 HB KB HT
 have HB:=HX
 have KB:=KX
 have HT:=HTX
 clear HX KX HTX
 obtain ⟨k0,k1,k2,k3,k4⟩:=B.c5 KB.out
 have HS1:=hideC (th_load HT.out)
 go_upto_region 6 with (go_at_call 25;refine HS1.out.mono ?_;rintro e v4 ⟨b4,hd4,m1,m2,m3,m4,rfl,hb⟩;have HC3:=hideC hb;clear hb)
 have HBX:=hideC (HC3.out.alloc HC3.out.size (.cells #[.slice b4.aS m1 b4.cS,.slice b4.aF m2 b4.cF,.slice b4.aL m3 b4.cL,.slice b4.aP m4 b4.cP,.int .i64 hd4] 27))
 have HBY:=hideC (HBX.out.alloc HBX.out.size (.cells #[.int .i64 0,.int .i64 0] 36))
 have F3:=hideC (KZ.n1 v4 (.cells #[.slice b4.aS m1 b4.cS,.slice b4.aF m2 b4.cF,.slice b4.aL m3 b4.cL,.slice b4.aP m4 b4.cP,.int .i64 hd4] 27) #[.int .i64 0,.int .i64 0] 36)
 obtain ⟨W4,hW⟩ : ∃ W4,W4 = (v4.alloc (.cells #[.slice b4.aS m1 b4.cS,.slice b4.aF m2 b4.cF,.slice b4.aL m3 b4.cL,.slice b4.aP m4 b4.cP,.int .i64 hd4] 27)).alloc (.cells #[.int .i64 0,.int .i64 0] 36):=⟨_,rfl⟩
 obtain ⟨fb3,hfb⟩ : ∃ fb3,fb3 = v4.heap.size + 1:=⟨_,rfl⟩
 rw [<- hW] at HBY F3 ⊢
 rw [<- hfb] at F3 ⊢
 clear hW hfb HBX HC3 k0 k1 k2 k3 k4
 have KY:=hideC (B.below KB.out HBY.out (B.isLt KB.out))
 have HTY:=hideC (th_below HT.out HBY.out)
 have F1:=hideC (B.below F1.out HBY.out (B.isLt F1.out))
 have F2:=hideC (B.below F2.out HBY.out (B.isLt F2.out))
 have HB4:=hideC (HB.out.trans (HBY.out.mono HB.out.size))
 obtain ⟨k0,k1,k2,k3,k4⟩:=B.c5 KY.out
 have HS2:=hideC (th_peek HTY.out)
 have hp1 : pkD.size = 16:=rfl
 have hp2 : pkD.extract 0 3 = ⟨#[113,98,99]⟩:=by kernel_rfl
 have hp3 : pkD.extract 14 16 = ⟨#[119,120]⟩:=by kernel_rfl
 obtain ⟨D,hD⟩ : ∃ D,D = pkD:=⟨_,rfl⟩
 rw [<- hD] at HS2 hp1 hp2 hp3
 clear hD
 go_upto_region 7 with (go_at_call 30;refine HS2.out.mono ?_;rintro e v5 ⟨rfl,hb⟩;have HB5:=hideC (HB4.out.trans (hb.mono HB4.out.size));obtain ⟨x1,y1⟩:=B.c2 (B.below F1.out hb (B.isLt F1.out));obtain ⟨x2,y2⟩:=B.c2 (B.below F2.out hb (B.isLt F2.out));obtain ⟨x3,y3⟩:=B.c2 (B.below F3.out hb (B.isLt F3.out));clear hb)
 go_wp2
 go_ret
 exact ⟨by simp,HB5.out⟩
end KG
namespace W
open Go.RowKit Go.Deep
theorem cells9 : Tryz.prog.cellsOf 9 = 1:=by kernel_rfl
theorem cells3 : Tryz.prog.cellsOf 3 = 1:=by kernel_rfl
theorem cells4 : Tryz.prog.cellsOf 4 = 1:=by kernel_rfl
theorem i64_of (n : Int) (h : (Lit.int .i64 n).wf = true) : M.I64 n:=CM.bounds n h
theorem cell_lt {w : World} {b o : Nat} {v : Value} (h : w.cell? ⟨b,o,none⟩ = some v) : b < w.heap.size:=by
 rcases Nat.lt_or_ge b w.heap.size with g | g
 · exact g
 · have e : w.heap[b]? = none:=Array.getElem?_eq_none g
   simp [World.cell?,e] at h
instance : Inhabited M.Sg:=⟨M.sg0⟩
instance : Inhabited M.Sy:=⟨M.sy0⟩
instance : Inhabited M.Rl:=⟨M.rl0⟩
def OkW {H : Type} (t : TypeId) (d : DataW H) : Prop:=∀ n ∈ d.weights Tryz.prog t,n <= reachBytes
theorem weightsAll_mem {H : Type} {e : TypeId} : ∀ {l : List (DataW H)} {d : DataW H},d ∈ l -> ∀ n ∈ d.weights Tryz.prog e,n ∈ DataW.weightsAll Tryz.prog e l
 | y :: r,d,h,n,hn=>by
  simp only [DataW.weightsAll,List.mem_append]
  rcases List.mem_cons.1 h with h | h
  · subst h;exact .inl hn
  · exact .inr (weightsAll_mem h n hn)
theorem okw_string {H : Type} {t : TypeId} {b : List UInt8} (h : OkW (H:=H) t (.lit (.string b))) : b.length <= reachBytes:=h _ (by simp [DataW.weights])
theorem okw_slice {H : Type} {t e : TypeId} {el sp : List (DataW H)} (hu : Tryz.prog.underlying t = some (.slice e)) (h : OkW t (.slice el sp)) : (el.length + sp.length) * Tryz.prog.bytesOf e <= reachBytes /\ ∀ d ∈ el,OkW e d:=by
 refine ⟨h _ (by simp [DataW.weights,hu]),fun d hd n hn=>h n ?_⟩
 simp only [DataW.weights,hu,List.mem_cons,List.mem_append]
 exact .inr (.inl (weightsAll_mem hd n hn))
theorem okw_agg {H : Type} {t : TypeId} {fs : Array Field} {ps : List (DataW H)} (hu : Tryz.prog.underlying t = some (.struct fs)) (h : OkW t (.agg ps)) {j : Nat} {u : TypeId} {d : DataW H} (ht : (fs.toList.map (·.type))[j]? = some u) (hd : ps[j]? = some d) : OkW u d:=fun n hn=>h n (by
 simp only [DataW.weights,hu]
 exact DataW.weights_mem_each ht hd n hn)
section
variable {H : Type} {enc : TypeId × Value -> H} {w : World} {base : Nat} {spare : Nat -> Bool} {held : Bool}
theorem slice_of {t e : TypeId} {fuel : Nat} {v : Value} {x : DataW H × List MemPlace} (ht : Tryz.prog.underlying t = some (.slice e)) (h : DataW.trod enc Tryz.prog w base spare held fuel t [v] = some x) : ∃ a len cap,v = .slice a len cap:=by
 rcases open_slice ht h with ⟨hcs,_⟩ | ⟨a,len',cap',m,n,D,Pl,hcs,_⟩
 · simp at hcs;exact ⟨_,_,_,hcs⟩
 · simp at hcs;exact ⟨_,_,_,hcs⟩
end
end W
namespace LW
open Go.RowKit Go.Deep
open W (OkW okw_string okw_slice okw_agg slice_of cell_lt i64_of cells9 cells3)
theorem cellsFx : Tryz.prog.cellsOf 52 = 2:=by kernel_rfl
theorem cellsSh : Tryz.prog.cellsOf 50 = 3:=by kernel_rfl
theorem cellsFxs : Tryz.prog.cellsOf 48 = 1:=by kernel_rfl
theorem cellsShs : Tryz.prog.cellsOf 22 = 1:=by kernel_rfl
theorem cellsArs : Tryz.prog.cellsOf 28 = 1:=by kernel_rfl
theorem bytesFx : Tryz.prog.bytesOf 52 = 24:=by kernel_rfl
theorem bytesSh : Tryz.prog.bytesOf 50 = 48:=by kernel_rfl
theorem bytesAr : Tryz.prog.bytesOf 47 = 32:=by kernel_rfl
instance : Inhabited LM.Fx:=⟨LM.fx0⟩
instance : Inhabited LM.Sh:=⟨LM.sh0⟩
section
variable {H : Type} {enc : TypeId × Value -> H} {w : World} {base : Nat} {spare : Nat -> Bool} {held : Bool}
theorem one_fix {n : Nat} {a : Addr} {cs : List Value} {x : DataW H × List MemPlace} (hc : w.cells? base a 2 = some cs) (h : DataW.trod enc Tryz.prog w base spare held n 52 cs = some x) (hw : OkW 52 x.1) :
  ∃ (x0 : Int) (x1 : ByteArray),(w.cell? (a.add 0) = some (.int .i64 x0) /\ M.I64 x0) /\ (w.cell? (a.add 1) = some (.string x1) /\ M.Short x1.size):=by
 obtain ⟨_,hlen,hcell⟩:=World.cells?_some hc
 obtain ⟨xs,k,hk,hxy,_,hxl,hf⟩:=DataW.trod_struct Tryz.underlying52 h
 rw [hxy] at hw
 match cs,hlen with
 | [v0,v1],_ =>
  have g0 : DataW.trod enc Tryz.prog w base spare held k 3 (([v0,v1].drop 0).take (Tryz.prog.cellsOf 3)) = xs[0]?:=hf 0 _ rfl
  have g1 : DataW.trod enc Tryz.prog w base spare held k 9 (([v0,v1].drop 1).take (Tryz.prog.cellsOf 9)) = xs[1]?:=hf 1 _ rfl
  simp only [cells3,cells9] at g0 g1
  have e0:=hcell 0 (by omega)
  have e1:=hcell 1 (by omega)
  match xs,hxl with
  | [y0,y1],_ =>
   obtain ⟨m0,c0,_,w0⟩:=DataW.trod_int Tryz.underlying3 (show DataW.trod enc Tryz.prog w base spare held k 3 [v0] = some y0 from g0)
   obtain ⟨m1,c1,hx1,_⟩:=DataW.trod_string Tryz.underlying9 (show DataW.trod enc Tryz.prog w base spare held k 9 [v1] = some y1 from g1)
   have u1:=okw_agg Tryz.underlying52 hw (j:=1) (u:=9) (d:=y1.1) rfl rfl
   rw [hx1] at u1
   have w1 : M.Short m1.size:=by have:=okw_string u1;unfold M.Short;unfold reachBytes at this;rw [Lib.size_eq];exact this
   simp only [List.cons.injEq,and_true] at c0 c1
   subst c0;subst c1
   exact ⟨m0,m1,⟨e0,i64_of _ w0⟩,⟨e1,w1⟩⟩
theorem open_F {fuel : Nat} {a0 : Option Addr} {len cap : Nat} {x : DataW H × List MemPlace} (h : DataW.trod enc Tryz.prog w base spare held fuel 48 [.slice a0 len cap] = some x) (hw : OkW 48 x.1) :
  ∃ l : List LM.Fx,l.length = len /\ LM.HasF w a0 l /\ M.Short l.length /\ ∀ k,k < l.length -> LM.FitF (LM.fxAt l k):=by
 rcases open_slice Tryz.underlying48 h with ⟨hcs,_⟩ | ⟨a,len',cap',m,n,D,Pl,hcs,hb,hl,hm,hmm,rfl,hx⟩
 · simp at hcs
   obtain ⟨rfl,rfl,rfl⟩:=hcs
   exact ⟨[],rfl,fun h=>absurd h (by simp),by unfold M.Short;simp,fun k hk=>absurd hk (by simp)⟩
 · simp at hcs
   obtain ⟨rfl,rfl,rfl⟩:=hcs
   have hlm : len <= m:=by rw [hmm];split <;> omega
   obtain ⟨hb1,hb2⟩:=okw_slice Tryz.underlying48 hw
   rw [bytesFx] at hb1
   unfold reachBytes at hb1
   have hlen : len <= 140737488351232:=by simp at hb1;omega
   have each : ∀ i,i < len -> ∃ y : LM.Fx,w.cell? (a.add (i * 2 + 0)) = some (.int .i64 y.off) /\ w.cell? (a.add (i * 2 + 1)) = some (.string y.bytes) /\ LM.FitF y:=by
    intro i hi
    obtain ⟨cs',h1,h2⟩:=hx i (by omega)
    have hd : D i ∈ (List.range len).map D:=List.mem_map.2 ⟨i,List.mem_range.2 hi,rfl⟩
    rw [cellsFx] at h1
    obtain ⟨x0,x1,⟨e0,z0⟩,⟨e1,z1⟩⟩:=one_fix h1 h2 (hb2 _ hd)
    simp only [add_add] at e0 e1
    exact ⟨⟨x0,x1⟩,e0,e1,⟨z0,z1⟩⟩
   obtain ⟨g,hg⟩:=choose_lt each
   have hat : ∀ i,i < len -> LM.fxAt ((List.range len).map g) i = g i:=by
    intro i hi
    simp [LM.fxAt,hi]
   refine ⟨(List.range len).map g,by simp,fun h0=>?_,by unfold M.Short;simp;exact hlen,fun k hk=>?_⟩
   · have h0' : 0 < len:=by simpa using h0
     obtain ⟨b,off,spot⟩:=a
     have hc:=(hg 0 h0').1
     have hspot : spot = none:=by simpa [Addr.add] using World.cell?_spot hc
     subst hspot
     rw [Addr.add_lit] at hc
     refine ⟨b,off,rfl,cell_lt hc,fun i hi=>?_⟩
     have hi' : i < len:=by simpa using hi
     rw [hat i hi']
     obtain ⟨e0,e1,_⟩:=hg i hi'
     simp only [Addr.add_lit] at e0 e1
     exact ⟨e0,by rw [Nat.add_assoc];exact e1⟩
   · have hi' : k < len:=by simpa using hk
     rw [hat k hi']
     obtain ⟨_,_,f⟩:=hg k hi'
     exact f
theorem vals_sheet {n : Nat} {v0 v1 v2 : Value} {x : DataW H × List MemPlace} (h : DataW.trod enc Tryz.prog w base spare held n 50 [v0,v1,v2] = some x) (hw : OkW 50 x.1) :
  ∃ s : LM.Sh,v0 = .int .i64 s.page /\ v1 = .string s.data /\ v2 = .slice s.ao s.fixes.length s.cap /\ LM.HasF w s.ao s.fixes /\ LM.FitH s:=by
 obtain ⟨xs,k,hk,hxy,_,hxl,hf⟩:=DataW.trod_struct Tryz.underlying50 h
 rw [hxy] at hw
 have g0 : DataW.trod enc Tryz.prog w base spare held k 3 (([v0,v1,v2].drop 0).take (Tryz.prog.cellsOf 3)) = xs[0]?:=hf 0 _ rfl
 have g1 : DataW.trod enc Tryz.prog w base spare held k 9 (([v0,v1,v2].drop 1).take (Tryz.prog.cellsOf 9)) = xs[1]?:=hf 1 _ rfl
 have g2 : DataW.trod enc Tryz.prog w base spare held k 48 (([v0,v1,v2].drop 2).take (Tryz.prog.cellsOf 48)) = xs[2]?:=hf 2 _ rfl
 simp only [cells3,cells9,cellsFxs] at g0 g1 g2
 match xs,hxl with
 | [y0,y1,y2],_ =>
  obtain ⟨m0,c0,_,w0⟩:=DataW.trod_int Tryz.underlying3 (show DataW.trod enc Tryz.prog w base spare held k 3 [v0] = some y0 from g0)
  obtain ⟨m1,c1,hx1,_⟩:=DataW.trod_string Tryz.underlying9 (show DataW.trod enc Tryz.prog w base spare held k 9 [v1] = some y1 from g1)
  have u1:=okw_agg Tryz.underlying50 hw (j:=1) (u:=9) (d:=y1.1) rfl rfl
  have u2:=okw_agg Tryz.underlying50 hw (j:=2) (u:=48) (d:=y2.1) rfl rfl
  rw [hx1] at u1
  have w1 : M.Short m1.size:=by have:=okw_string u1;unfold M.Short;unfold reachBytes at this;rw [Lib.size_eq];exact this
  have t2 : DataW.trod enc Tryz.prog w base spare held k 48 [v2] = some y2:=g2
  obtain ⟨ao,ln,cp,d2⟩:=slice_of Tryz.underlying48 t2
  subst d2
  obtain ⟨fs,n1,n2,n3,n4⟩:=open_F t2 u2
  simp only [List.cons.injEq,and_true] at c0 c1
  subst c0;subst c1;subst n1
  exact ⟨⟨m0,m1,fs,ao,cp⟩,rfl,rfl,rfl,n2,⟨i64_of _ w0,w1,n3,n4⟩⟩
end
section
variable {H : Type} {enc : TypeId × Value -> H} {w : World} {base : Nat} {spare : Nat -> Bool} {held : Bool}
theorem open_H {fuel : Nat} {a0 : Option Addr} {len cap : Nat} {x : DataW H × List MemPlace} (h : DataW.trod enc Tryz.prog w base spare held fuel 22 [.slice a0 len cap] = some x) (hw : OkW 22 x.1) :
  ∃ l : List LM.Sh,l.length = len /\ LM.HasH w a0 l /\ LM.FitHs l /\ len <= cap:=by
 rcases open_slice Tryz.underlying22 h with ⟨hcs,_⟩ | ⟨a,len',cap',m,n,D,Pl,hcs,hb,hl,hm,hmm,rfl,hx⟩
 · simp at hcs
   obtain ⟨rfl,rfl,rfl⟩:=hcs
   exact ⟨[],rfl,fun h=>absurd h (by simp),⟨by unfold M.Short;simp,fun k hk=>absurd hk (by simp)⟩,Nat.le_refl _⟩
 · simp at hcs
   obtain ⟨rfl,rfl,rfl⟩:=hcs
   have hlm : len <= m:=by rw [hmm];split <;> omega
   obtain ⟨hb1,hb2⟩:=okw_slice Tryz.underlying22 hw
   rw [bytesSh] at hb1
   unfold reachBytes at hb1
   have hlen : len <= 140737488351232:=by simp at hb1;omega
   have each : ∀ i,i < len -> ∃ y : LM.Sh,w.cell? (a.add (i * 3 + 0)) = some (.int .i64 y.page) /\ w.cell? (a.add (i * 3 + 1)) = some (.string y.data) /\ w.cell? (a.add (i * 3 + 2)) = some (.slice y.ao y.fixes.length y.cap) /\ LM.HasF w y.ao y.fixes /\ LM.FitH y:=by
    intro i hi
    obtain ⟨cs',h1,h2⟩:=hx i (by omega)
    have hd : D i ∈ (List.range len).map D:=List.mem_map.2 ⟨i,List.mem_range.2 hi,rfl⟩
    rw [cellsSh] at h1
    obtain ⟨_,hcl,hcell⟩:=World.cells?_some h1
    match cs',hcl with
    | [v0,v1,v2],_ =>
     obtain ⟨s,e0,e1,e2,f1,f2⟩:=vals_sheet h2 (hb2 _ hd)
     have q0:=hcell 0 (by omega)
     have q1:=hcell 1 (by omega)
     have q2:=hcell 2 (by omega)
     simp only [add_add] at q0 q1 q2
     subst e0;subst e1;subst e2
     exact ⟨s,q0,q1,q2,f1,f2⟩
   obtain ⟨g,hg⟩:=choose_lt each
   have hat : ∀ i,i < len -> LM.shAt ((List.range len).map g) i = g i:=by
    intro i hi
    simp [LM.shAt,hi]
   refine ⟨(List.range len).map g,by simp,fun h0=>?_,⟨by unfold M.Short;simp;exact hlen,fun k hk=>?_⟩,hl⟩
   · have h0' : 0 < len:=by simpa using h0
     obtain ⟨b,off,spot⟩:=a
     have hc:=(hg 0 h0').1
     have hspot : spot = none:=by simpa [Addr.add] using World.cell?_spot hc
     subst hspot
     rw [Addr.add_lit] at hc
     refine ⟨b,off,rfl,cell_lt hc,fun i hi=>?_⟩
     have hi' : i < len:=by simpa using hi
     rw [hat i hi']
     obtain ⟨e0,e1,e2,e3,_⟩:=hg i hi'
     simp only [Addr.add_lit] at e0 e1 e2
     exact ⟨e0,by rw [Nat.add_assoc];exact e1,by rw [Nat.add_assoc];exact e2,e3⟩
   · have hi' : k < len:=by simpa using hk
     rw [hat k hi']
     obtain ⟨_,_,_,_,f⟩:=hg k hi'
     exact f
end
end LW
end Go.Proofs.YtpgifpeohlllfaaGreat
