import Derived.Test.YtpgifpeohlllfaaGreatGJ44
import Derived.Test.YtpgifpeohlllfaaGreatGJ45
import Derived.Test.YtpgifpeohlllfaaGreatGJ31
import Derived.Test.YtpgifpeohlllfaaGreatGJ42
import Derived.Test.YtpgifpeohlllfaaGreatGJ08
import Derived.OpenShut
set_option maxHeartbeats 20000000
set_option linter.unusedVariables false
set_option maxRecDepth 100000
set_option linter.unusedSimpArgs false
namespace Go.Proofs.YtpgifpeohlllfaaGreat
namespace KG
open Go.RowKit GK KO
open FW (hideC add_below)
open KW (KAt HasK cellsK FitK)
def Th (V : World) (K : List LM.Sh -> KM.Kn) (a : KAt) : Prop:=∃ b1 b2 b3 d1 d2 d3,HasK V a (K (thH b1 b2 b3 d1 d2 d3))
theorem out_th {w : World} {K : List LM.Sh -> KM.Kn} {H : List LM.Sh} {vs : List Value} {e : Ending} {w' : World} (hH : H.map LM.plain = thE) (hS : ∀ H,(K H).sheets = H) (hW : ∀ H H',KM.withS (K H) H' = K H') (h : KZ.OutKn w (K H) vs e w') : ∃ a b1 b2 b3 d1 d2 d3,e = .returned (.tuple (Value.agg (cellsK a (K (thH b1 b2 b3 d1 d2 d3))) :: vs).toArray) /\ (∀ U,Kp (fun b=>b < w.heap.size) w' U -> Th U K a) /\ Below w.heap.size w w':=by
 obtain ⟨hs,a,h1,h2,h3,h4⟩:=out_r h
 rw [hS] at h1
 obtain ⟨b1,b2,b3,d1,d2,d3,rfl⟩:=th_of (Eq.trans h1 hH)
 rw [hW] at h2 h3
 exact ⟨a,b1,b2,b3,d1,d2,d3,h2,fun U hU=>⟨b1,b2,b3,d1,d2,d3,h3 U hU⟩,h4⟩
theorem th_plain (b1 b2 b3 : Option Addr) (d1 d2 d3 : Nat) : (thH b1 b2 b3 d1 d2 d3).map LM.plain = thE:=rfl
theorem th_new {V : World} {ar ah : Option Addr} {cr ch : Nat} {a1 a2 a3 : Option Addr} {c1 c2 c3 : Nat} (h1 : AW.Has V (.slice ar 2 cr) thA) (h2 : LM.HasH V ah (thH a1 a2 a3 c1 c2 c3)) (h3 : 3 <= ch) : Calls Tryz.prog 18 #[.agg #[.slice ar 2 cr,.slice ah 3 ch,.int .i64 16],.int .i64 3,.int .i64 8] V fun e w'=>∃ a,e = .returned (.tuple #[.agg #[.slice a.aS 3 a.cS,.slice a.aF 3 a.cF,.slice a.aL 8 a.cL,.slice a.aP 1 a.cP,.int .i64 0],.int .i64 0]) /\ (∀ U,Kp (fun b=>b < V.heap.size) w' U -> Th U kk0 a) /\ Below V.heap.size V w':=by
 refine (KZ.new_any KY.copyK thA (thH a1 a2 a3 c1 c2 c3) 16 3 8 (.slice ar 2 cr) ah ch V h1 th_fitA h2 (th_fitH a1 a2 a3 c1 c2 c3) h3 (by unfold M.I64;decide)).mono fun e w' h=>?_
 have e0 : KZ.newA thA (thH a1 a2 a3 c1 c2 c3) 16 3 8 = (kk0 (thH a1 a2 a3 c1 c2 c3),0):=by kernel_rfl
 rw [e0] at h
 obtain ⟨a,b1,b2,b3,d1,d2,d3,g1,g2,g3⟩:=out_th (th_plain _ _ _ _ _ _) (fun _=>rfl) (fun _ _=>rfl) h
 exact ⟨a,g1,g2,g3⟩
theorem th_store1 {V : World} {a : KAt} (h : Th V kk0 a) : Calls Tryz.prog 28 #[.agg #[.slice a.aS 3 a.cS,.slice a.aF 3 a.cF,.slice a.aL 8 a.cL,.slice a.aP 1 a.cP,.int .i64 0],.int .i64 0,.int .i64 46,.string ⟨#[119,120,121,122]⟩] V fun e w'=>∃ a,e = .returned (.tuple #[.agg #[.slice a.aS 3 a.cS,.slice a.aF 3 a.cF,.slice a.aL 8 a.cL,.slice a.aP 1 a.cP,.int .i64 0],.agg #[.int .i64 0,.int .i64 0],.int .i64 0]) /\ (∀ U,Kp (fun b=>b < V.heap.size) w' U -> Th U kk1 a) /\ Below V.heap.size V w':=by
 obtain ⟨b1,b2,b3,d1,d2,d3,hk⟩:=h
 refine (KZ.store_any KY.copyK _ a 0 46 wxD V hk (kk0_fit b1 b2 b3 d1 d2 d3) (by unfold M.I64;decide) (by unfold M.I64;decide)).mono fun e w' h=>?_
 rw [kk1_store] at h
 obtain ⟨a,b1,b2,b3,d1,d2,d3,g1,g2,g3⟩:=out_th (th_plain _ _ _ _ _ _) (fun _=>rfl) (fun _ _=>rfl) h
 exact ⟨a,g1,g2,g3⟩
theorem th_fork {V : World} {a : KAt} (h : Th V kk1 a) : Calls Tryz.prog 39 #[.agg #[.slice a.aS 3 a.cS,.slice a.aF 3 a.cF,.slice a.aL 8 a.cL,.slice a.aP 1 a.cP,.int .i64 0],.int .i64 0] V fun e w'=>∃ a,e = .returned (.tuple #[.agg #[.slice a.aS 3 a.cS,.slice a.aF 3 a.cF,.slice a.aL 8 a.cL,.slice a.aP 2 a.cP,.int .i64 0],.int .i64 1,.int .i64 0]) /\ (∀ U,Kp (fun b=>b < V.heap.size) w' U -> Th U kk2 a) /\ Below V.heap.size V w':=by
 obtain ⟨b1,b2,b3,d1,d2,d3,hk⟩:=h
 refine (KZ.fork_any KY.copyK _ a 0 V hk (kk1_fit b1 b2 b3 d1 d2 d3) (by unfold M.I64;decide)).mono fun e w' h=>?_
 have e0 : KZ.forkA (kk1 (thH b1 b2 b3 d1 d2 d3)) 0 = (kk2 (thH b1 b2 b3 d1 d2 d3),1,0):=by kernel_rfl
 rw [e0] at h
 obtain ⟨a,b1,b2,b3,d1,d2,d3,g1,g2,g3⟩:=out_th (th_plain _ _ _ _ _ _) (fun _=>rfl) (fun _ _=>rfl) h
 exact ⟨a,g1,g2,g3⟩
theorem th_store2 {V : World} {a : KAt} (h : Th V kk2 a) : Calls Tryz.prog 28 #[.agg #[.slice a.aS 3 a.cS,.slice a.aF 3 a.cF,.slice a.aL 8 a.cL,.slice a.aP 2 a.cP,.int .i64 0],.int .i64 1,.int .i64 32,.string ⟨#[113]⟩] V fun e w'=>∃ a,e = .returned (.tuple #[.agg #[.slice a.aS 3 a.cS,.slice a.aF 3 a.cF,.slice a.aL 8 a.cL,.slice a.aP 2 a.cP,.int .i64 0],.agg #[.int .i64 0,.int .i64 0],.int .i64 0]) /\ (∀ U,Kp (fun b=>b < V.heap.size) w' U -> Th U kk3 a) /\ Below V.heap.size V w':=by
 obtain ⟨b1,b2,b3,d1,d2,d3,hk⟩:=h
 refine (KZ.store_any KY.copyK _ a 1 32 qD V hk (kk2_fit b1 b2 b3 d1 d2 d3) (by unfold M.I64;decide) (by unfold M.I64;decide)).mono fun e w' h=>?_
 rw [kk3_store] at h
 obtain ⟨a,b1,b2,b3,d1,d2,d3,g1,g2,g3⟩:=out_th (th_plain _ _ _ _ _ _) (fun _=>rfl) (fun _ _=>rfl) h
 exact ⟨a,g1,g2,g3⟩
theorem th_load {V : World} {a : KAt} (h : Th V kk3 a) : Calls Tryz.prog 25 #[.agg #[.slice a.aS 3 a.cS,.slice a.aF 3 a.cF,.slice a.aL 8 a.cL,.slice a.aP 2 a.cP,.int .i64 0],.int .i64 0,.int .i64 32,.int .i64 2,.int .i64 0] V fun e w'=>∃ (a : KAt) (hd : Int) (n1 n2 n3 n4 : Nat),e = .returned (.tuple #[.agg #[.slice a.aS n1 a.cS,.slice a.aF n2 a.cF,.slice a.aL n3 a.cL,.slice a.aP n4 a.cP,.int .i64 hd],.string ⟨#[97,98]⟩,.agg #[.int .i64 0,.int .i64 0],.int .i64 0]) /\ Below V.heap.size V w':=by
 obtain ⟨b1,b2,b3,d1,d2,d3,hk⟩:=h
 refine (KZ.load_any KY.copyK _ a 0 32 2 0 V hk (kk3_fit b1 b2 b3 d1 d2 d3) (by unfold M.I64;decide) (by unfold M.I64;decide)).mono fun e w' h=>?_
 rw [kk3_load] at h
 obtain ⟨hs,a,h1,h2,h3,h4⟩:=out_r h
 exact ⟨a,_,_,_,_,_,h2,h4⟩
theorem th_peek {V : World} {a : KAt} (h : Th V kk3 a) : Calls Tryz.prog 30 #[.agg #[.slice a.aS 3 a.cS,.slice a.aF 3 a.cF,.slice a.aL 8 a.cL,.slice a.aP 2 a.cP,.int .i64 0],.int .i64 1,.int .i64 2] V fun e w'=>e = .returned (.tuple #[.string pkD,.int .i64 0]) /\ Below V.heap.size V w':=by
 obtain ⟨b1,b2,b3,d1,d2,d3,hk⟩:=h
 have:=KW.peek_any _ a 1 2 V hk (kk3_fit b1 b2 b3 d1 d2 d3) (by unfold M.I64;decide)
 rw [kk3_peek] at this
 exact this
theorem th_below {V U : World} {K : List LM.Sh -> KM.Kn} {a : KAt} (h : Th V K a) (hb : Below V.heap.size V U) : Th U K a:=by
 obtain ⟨b1,b2,b3,d1,d2,d3,hk⟩:=h
 exact ⟨b1,b2,b3,d1,d2,d3,hk.below hb⟩
theorem laid5 {w W w3 : World} {kb n : Nat} {b : KAt} {c0 c1 c2 c3 c4 : Value} {K : List LM.Sh -> KM.Kn} (hB : Below w.heap.size w W) (hkw : w.heap.size <= kb) (hkb : kb < W.heap.size) (hb : Below W.heap.size W w3) (hk : w3.heap[kb]? = some (.cells #[c0,c1,c2,c3,c4] 27 (0,0))) (ht : ∀ U,Kp (fun x=>x < W.heap.size) w3 U -> Th U K b) {V : World} (hV : V = (((((w3.setCell ⟨kb,0,none⟩ (.slice b.aS 3 b.cS)).setCell ⟨kb,1,none⟩ (.slice b.aF 3 b.cF)).setCell ⟨kb,2,none⟩ (.slice b.aL 8 b.cL)).setCell ⟨kb,3,none⟩ (.slice b.aP n b.cP)).setCell ⟨kb,4,none⟩ (.int .i64 0))) :
  V.heap[kb]? = some (.cells #[.slice b.aS 3 b.cS,.slice b.aF 3 b.cF,.slice b.aL 8 b.cL,.slice b.aP n b.cP,.int .i64 0] 27 (0,0)) /\ Th V K b /\ Below w.heap.size w V /\ Kp (fun x=>x = kb) w3 V:=by
 have hk2 : V.heap[kb]? = some (.cells #[.slice b.aS 3 b.cS,.slice b.aF 3 b.cF,.slice b.aL 8 b.cL,.slice b.aP n b.cP,.int .i64 0] 27 (0,0)):=by rw [hV];exact B.set (B.set (B.set (B.set (B.set hk 0 _) 1 _) 2 _) 3 _) 4 _
 have kp : Kp (fun x=>x = kb) w3 V:=by
  rw [hV]
  have k : ∀ (A : World) (j : Nat) (v : Value),Kp (fun x=>x = kb) A (A.setCell ⟨kb,j,none⟩ v):=fun A j v=>Kp.set _ A ⟨kb,j,none⟩ v rfl
  exact ((((k _ _ _).trans (k _ _ _) (fun _ _ g=>g)).trans (k _ _ _) (fun _ _ g=>g)).trans (k _ _ _) (fun _ _ g=>g)).trans (k _ _ _) (fun _ _ g=>g)
 have hbw : Below w.heap.size w w3:=hB.trans (hb.mono hB.size)
 exact ⟨hk2,ht V (kp.mono (fun x _ e=>by rw [e];exact hkb)),Kp.below hbw kp hbw.size (fun x e=>by rw [e];exact hkw),kp⟩
set_option maxHeartbeats 8000000 in
theorem begun_any (w : World) : Calls Tryz.prog 15 #[] w fun e w'=>e = .returned (.bool true) /\ Below w.heap.size w w':=by
 go_enter Tryz.func15,Tryz.ntmps15
 go_upto_region 2 with (first
  | (go_at_call 50;refine (three_any _).mono ?_;rintro e w1 ⟨ar,cr,ah,ch,a1,a2,a3,c1,c2,c3,rfl,h1,h2,h3,h4⟩;have HB1:=hideC h4;have HN:=hideC (th_new h1 h2 h3);clear h1 h2 h3 h4)
  | (go_at_call 18;refine HN.out.mono ?_;rintro e w2 ⟨a,rfl,hth,hb⟩;have HT2:=hideC hth;have HC2:=hideC hb;have HB2:=hideC (HB1.out.trans (hb.mono HB1.out.size));clear hth hb))
 have HB:=hideC (HB2.out.alloc HB2.out.size (.cells #[.slice a.aS 3 a.cS,.slice a.aF 3 a.cF,.slice a.aL 8 a.cL,.slice a.aP 1 a.cP,.int .i64 0] 27))
 have KB:=hideC (B.new w2 #[.slice a.aS 3 a.cS,.slice a.aF 3 a.cF,.slice a.aL 8 a.cL,.slice a.aP 1 a.cP,.int .i64 0] 27)
 have HT:=hideC (HT2.out _ (Kp.alloc _ w2 (.cells #[.slice a.aS 3 a.cS,.slice a.aF 3 a.cF,.slice a.aL 8 a.cL,.slice a.aP 1 a.cP,.int .i64 0] 27)))
 obtain ⟨W,hW⟩ : ∃ W,W = w2.alloc (.cells #[.slice a.aS 3 a.cS,.slice a.aF 3 a.cF,.slice a.aL 8 a.cL,.slice a.aP 1 a.cP,.int .i64 0] 27):=⟨_,rfl⟩
 obtain ⟨kb,hkb⟩ : ∃ kb,kb = w2.heap.size:=⟨_,rfl⟩
 have hkw : w.heap.size <= kb:=by rw [hkb];exact HB2.out.size
 rw [<- hW] at HB KB HT ⊢
 rw [<- hkb] at KB ⊢
 clear hW hkb HT2 HC2 HB2 HB1 HN
 obtain ⟨k0,k1,k2,k3,k4⟩:=B.c5 KB.out
 have HS1:=hideC (th_store1 HT.out)
 go_upto_region 3 with (go_at_call 28;refine HS1.out.mono ?_;rintro e v1 ⟨b1,rfl,hth,hb⟩;have HT3:=hideC hth;have HC3:=hideC hb;have K3:=B.below KB.out hb (B.isLt KB.out);have HK3:=hideC K3;obtain ⟨k0,k1,k2,k3,k4⟩:=B.c5 K3;have f0:=B.free K3 0;have f1:=B.free K3 1;have f2:=B.free K3 2;have f3:=B.free K3 3;have f4:=B.free K3 4;have hkl:=B.isLt K3;clear hth hb K3)
 have HL:=hideC (laid5 (n:=1) HB.out hkw (B.isLt KB.out) HC3.out HK3.out HT3.out rfl)
 have HX:=hideC (HL.out.2.2.1.alloc HL.out.2.2.1.size (.cells #[.int .i64 0,.int .i64 0] 36))
 have KX:=hideC (B.alloc HL.out.1 (.cells #[.int .i64 0,.int .i64 0] 36))
 have HTX:=hideC (th_below HL.out.2.1 ((Below.refl _ _).alloc (Nat.le_refl _) (.cells #[.int .i64 0,.int .i64 0] 36)))
 have F1:=hideC (B.new (((((v1.setCell ⟨kb,0,none⟩ (.slice b1.aS 3 b1.cS)).setCell ⟨kb,1,none⟩ (.slice b1.aF 3 b1.cF)).setCell ⟨kb,2,none⟩ (.slice b1.aL 8 b1.cL)).setCell ⟨kb,3,none⟩ (.slice b1.aP 1 b1.cP)).setCell ⟨kb,4,none⟩ (.int .i64 0)) #[.int .i64 0,.int .i64 0] 36)
 have hsz : (((((v1.setCell ⟨kb,0,none⟩ (.slice b1.aS 3 b1.cS)).setCell ⟨kb,1,none⟩ (.slice b1.aF 3 b1.cF)).setCell ⟨kb,2,none⟩ (.slice b1.aL 8 b1.cL)).setCell ⟨kb,3,none⟩ (.slice b1.aP 1 b1.cP)).setCell ⟨kb,4,none⟩ (.int .i64 0)).heap.size = v1.heap.size:=by simp
 rw [hsz] at F1
 obtain ⟨fb1,hfb⟩ : ∃ fb1,fb1 = v1.heap.size:=⟨_,rfl⟩
 have HN1 : Hid (¬ fb1 = kb):=(show ¬ fb1 = kb from fun e=>by omega)
 obtain ⟨W1,hW⟩ : ∃ W1,W1 = (((((v1.setCell ⟨kb,0,none⟩ (.slice b1.aS 3 b1.cS)).setCell ⟨kb,1,none⟩ (.slice b1.aF 3 b1.cF)).setCell ⟨kb,2,none⟩ (.slice b1.aL 8 b1.cL)).setCell ⟨kb,3,none⟩ (.slice b1.aP 1 b1.cP)).setCell ⟨kb,4,none⟩ (.int .i64 0)).alloc (.cells #[.int .i64 0,.int .i64 0] 36):=⟨_,rfl⟩
 rw [<- hW] at HX KX HTX F1 ⊢
 rw [<- hfb] at F1 ⊢
 clear hW hfb hsz
 clear k0 k1 k2 k3 k4 f0 f1 f2 f3 f4 hkl HL HK3 HT3 HC3 HS1 HB KB HT
 have HB:=HX
 have KB:=KX
 have HT:=HTX
 clear HX KX HTX
 obtain ⟨k0,k1,k2,k3,k4⟩:=B.c5 KB.out
 have HS1:=hideC (th_fork HT.out)
 go_upto_region 4 with (go_at_call 39;refine HS1.out.mono ?_;rintro e v2 ⟨b2,rfl,hth,hb⟩;have HT3:=hideC hth;have HC3:=hideC hb;have K3:=B.below KB.out hb (B.isLt KB.out);have HK3:=hideC K3;obtain ⟨k0,k1,k2,k3,k4⟩:=B.c5 K3;have f0:=B.free K3 0;have f1:=B.free K3 1;have f2:=B.free K3 2;have f3:=B.free K3 3;have f4:=B.free K3 4;have hkl:=B.isLt K3;clear hth hb K3)
 have HL:=hideC (laid5 (n:=2) HB.out hkw (B.isLt KB.out) HC3.out HK3.out HT3.out rfl)
 have F1:=hideC (HL.out.2.2.2.keep (B.below F1.out HC3.out (B.isLt F1.out)) HN1.out)
 have HX:=hideC HL.out.2.2.1
 have KX:=hideC HL.out.1
 have HTX:=hideC HL.out.2.1
 obtain ⟨W2,hW⟩ : ∃ W2,W2 = (((((v2.setCell ⟨kb,0,none⟩ (.slice b2.aS 3 b2.cS)).setCell ⟨kb,1,none⟩ (.slice b2.aF 3 b2.cF)).setCell ⟨kb,2,none⟩ (.slice b2.aL 8 b2.cL)).setCell ⟨kb,3,none⟩ (.slice b2.aP 2 b2.cP)).setCell ⟨kb,4,none⟩ (.int .i64 0)):=⟨_,rfl⟩
 rw [<- hW] at HX KX HTX F1 ⊢
 clear hW
 clear k0 k1 k2 k3 k4 f0 f1 f2 f3 f4 hkl HL HK3 HT3 HC3 HS1 HB KB HT
 have HB:=HX
 have KB:=KX
 have HT:=HTX
 clear HX KX HTX
 obtain ⟨k0,k1,k2,k3,k4⟩:=B.c5 KB.out
 have HS1:=hideC (th_store2 HT.out)
 go_upto_region 5 with (go_at_call 28;refine HS1.out.mono ?_;rintro e v3 ⟨b3,rfl,hth,hb⟩;have HT3:=hideC hth;have HC3:=hideC hb;have K3:=B.below KB.out hb (B.isLt KB.out);have HK3:=hideC K3;obtain ⟨k0,k1,k2,k3,k4⟩:=B.c5 K3;have f0:=B.free K3 0;have f1:=B.free K3 1;have f2:=B.free K3 2;have f3:=B.free K3 3;have f4:=B.free K3 4;have hkl:=B.isLt K3;clear hth hb K3)
 have HL:=hideC (laid5 (n:=2) HB.out hkw (B.isLt KB.out) HC3.out HK3.out HT3.out rfl)
 have F1:=hideC (HL.out.2.2.2.keep (B.below F1.out HC3.out (B.isLt F1.out)) HN1.out)
 have HX:=hideC (HL.out.2.2.1.alloc HL.out.2.2.1.size (.cells #[.int .i64 0,.int .i64 0] 36))
 have KX:=hideC (B.alloc HL.out.1 (.cells #[.int .i64 0,.int .i64 0] 36))
 have HTX:=hideC (th_below HL.out.2.1 ((Below.refl _ _).alloc (Nat.le_refl _) (.cells #[.int .i64 0,.int .i64 0] 36)))
 have F1:=hideC (B.alloc F1.out (.cells #[.int .i64 0,.int .i64 0] 36))
 have F2:=hideC (B.new (((((v3.setCell ⟨kb,0,none⟩ (.slice b3.aS 3 b3.cS)).setCell ⟨kb,1,none⟩ (.slice b3.aF 3 b3.cF)).setCell ⟨kb,2,none⟩ (.slice b3.aL 8 b3.cL)).setCell ⟨kb,3,none⟩ (.slice b3.aP 2 b3.cP)).setCell ⟨kb,4,none⟩ (.int .i64 0)) #[.int .i64 0,.int .i64 0] 36)
 have hsz : (((((v3.setCell ⟨kb,0,none⟩ (.slice b3.aS 3 b3.cS)).setCell ⟨kb,1,none⟩ (.slice b3.aF 3 b3.cF)).setCell ⟨kb,2,none⟩ (.slice b3.aL 8 b3.cL)).setCell ⟨kb,3,none⟩ (.slice b3.aP 2 b3.cP)).setCell ⟨kb,4,none⟩ (.int .i64 0)).heap.size = v3.heap.size:=by simp
 rw [hsz] at F2
 obtain ⟨fb2,hfb⟩ : ∃ fb2,fb2 = v3.heap.size:=⟨_,rfl⟩
 have HN2 : Hid (¬ fb2 = kb):=(show ¬ fb2 = kb from fun e=>by omega)
 obtain ⟨W3,hW⟩ : ∃ W3,W3 = (((((v3.setCell ⟨kb,0,none⟩ (.slice b3.aS 3 b3.cS)).setCell ⟨kb,1,none⟩ (.slice b3.aF 3 b3.cF)).setCell ⟨kb,2,none⟩ (.slice b3.aL 8 b3.cL)).setCell ⟨kb,3,none⟩ (.slice b3.aP 2 b3.cP)).setCell ⟨kb,4,none⟩ (.int .i64 0)).alloc (.cells #[.int .i64 0,.int .i64 0] 36):=⟨_,rfl⟩
 rw [<- hW] at HX KX HTX F1 F2 ⊢
 rw [<- hfb] at F2 ⊢
 clear hW hfb hsz
 clear k0 k1 k2 k3 k4 f0 f1 f2 f3 f4 hkl HL HK3 HT3 HC3 HS1 HB KB HT
 have HB:=HX
 have KB:=KX
 have HT:=HTX
 clear HX KX HTX
 obtain ⟨k0,k1,k2,k3,k4⟩:=B.c5 KB.out
 have HS1:=hideC (th_load HT.out)
 go_upto_region 6 with (go_at_call 25;refine HS1.out.mono ?_;rintro e v4 ⟨b4,hd4,m1,m2,m3,m4,rfl,hb⟩;have HC3:=hideC hb;clear hb)
 have HBX:=hideC (HC3.out.alloc HC3.out.size (.cells #[.slice b4.aS m1 b4.cS,.slice b4.aF m2 b4.cF,.slice b4.aL m3 b4.cL,.slice b4.aP m4 b4.cP,.int .i64 hd4] 27))
 have HBY:=hideC (HBX.out.alloc HBX.out.size (.cells #[.int .i64 0,.int .i64 0] 36))
 have F3:=hideC (KZ.n1 v4 (.cells #[.slice b4.aS m1 b4.cS,.slice b4.aF m2 b4.cF,.slice b4.aL m3 b4.cL,.slice b4.aP m4 b4.cP,.int .i64 hd4] 27) #[.int .i64 0,.int .i64 0] 36)
 obtain ⟨W4,hW⟩ : ∃ W4,W4 = (v4.alloc (.cells #[.slice b4.aS m1 b4.cS,.slice b4.aF m2 b4.cF,.slice b4.aL m3 b4.cL,.slice b4.aP m4 b4.cP,.int .i64 hd4] 27)).alloc (.cells #[.int .i64 0,.int .i64 0] 36):=⟨_,rfl⟩
 obtain ⟨fb3,hfb⟩ : ∃ fb3,fb3 = v4.heap.size + 1:=⟨_,rfl⟩
 rw [<- hW] at HBY F3 ⊢
 rw [<- hfb] at F3 ⊢
 clear hW hfb HBX HC3 k0 k1 k2 k3 k4
 have KY:=hideC (B.below KB.out HBY.out (B.isLt KB.out))
 have HTY:=hideC (th_below HT.out HBY.out)
 have F1:=hideC (B.below F1.out HBY.out (B.isLt F1.out))
 have F2:=hideC (B.below F2.out HBY.out (B.isLt F2.out))
 have HB4:=hideC (HB.out.trans (HBY.out.mono HB.out.size))
 obtain ⟨k0,k1,k2,k3,k4⟩:=B.c5 KY.out
 have HS2:=hideC (th_peek HTY.out)
 have hp1 : pkD.size = 16:=rfl
 have hp2 : pkD.extract 0 3 = ⟨#[113,98,99]⟩:=by kernel_rfl
 have hp3 : pkD.extract 14 16 = ⟨#[119,120]⟩:=by kernel_rfl
 obtain ⟨D,hD⟩ : ∃ D,D = pkD:=⟨_,rfl⟩
 rw [<- hD] at HS2 hp1 hp2 hp3
 clear hD
 go_upto_region 7 with (go_at_call 30;refine HS2.out.mono ?_;rintro e v5 ⟨rfl,hb⟩;have HB5:=hideC (HB4.out.trans (hb.mono HB4.out.size));obtain ⟨x1,y1⟩:=B.c2 (B.below F1.out hb (B.isLt F1.out));obtain ⟨x2,y2⟩:=B.c2 (B.below F2.out hb (B.isLt F2.out));obtain ⟨x3,y3⟩:=B.c2 (B.below F3.out hb (B.isLt F3.out));clear hb)
 go_wp2
 go_ret
 exact ⟨by simp,HB5.out⟩
end KG
namespace KA
open Go.RowKit Go.Deep
open W (OkW okw_string okw_slice okw_agg slice_of cell_lt i64_of cells9 cells3 cells4)
open KW (HasRow KAt HasK cellsK FitK FitSp)
theorem cellsFr : Tryz.prog.cellsOf 40 = 4:=by kernel_rfl
theorem cellsFrs : Tryz.prog.cellsOf 23 = 1:=by kernel_rfl
theorem bytesFr : 0 < Tryz.prog.bytesOf 40:=of_decide_eq_true (by kernel_rfl)
instance : Inhabited KM.Fr:=⟨KM.fr0⟩
theorem cellsSl : Tryz.prog.cellsOf 86 = 2:=by kernel_rfl
theorem cellsSls : Tryz.prog.cellsOf 24 = 1:=by kernel_rfl
theorem bytesSl : 0 < Tryz.prog.bytesOf 86:=of_decide_eq_true (by kernel_rfl)
instance : Inhabited KM.Sl:=⟨KM.sl0⟩
theorem cellsEn : Tryz.prog.cellsOf 45 = 3:=by kernel_rfl
theorem cellsEns : Tryz.prog.cellsOf 41 = 1:=by kernel_rfl
theorem bytesEn : 0 < Tryz.prog.bytesOf 45:=of_decide_eq_true (by kernel_rfl)
instance : Inhabited KM.En:=⟨KM.en0⟩
theorem cellsSp : Tryz.prog.cellsOf 43 = 3:=by kernel_rfl
theorem cellsSps : Tryz.prog.cellsOf 25 = 1:=by kernel_rfl
theorem bytesSp : 0 < Tryz.prog.bytesOf 43:=of_decide_eq_true (by kernel_rfl)
instance : Inhabited KM.Sp:=⟨KM.sp0⟩
theorem cellsKn : Tryz.prog.cellsOf 27 = 5:=by kernel_rfl
section
variable {H : Type} {enc : TypeId × Value -> H} {w : World} {base : Nat} {spare : Nat -> Bool} {held : Bool}
theorem open_rows {α : Type} [Inhabited α] {ts te : TypeId} {sz : Nat} (p : List Value -> α -> Prop) (hu : Tryz.prog.underlying ts = some (.slice te)) (hc : Tryz.prog.cellsOf te = sz) (hb8 : 0 < Tryz.prog.bytesOf te) (hs0 : 0 < sz)
  (elem : ∀ (n : Nat) (cs : List Value) (x : DataW H × List MemPlace),cs.length = sz -> DataW.trod enc Tryz.prog w base spare held n te cs = some x -> OkW te x.1 -> ∃ y,p cs y)
  {fuel : Nat} {a0 : Option Addr} {len cap : Nat} {x : DataW H × List MemPlace} (h : DataW.trod enc Tryz.prog w base spare held fuel ts [.slice a0 len cap] = some x) (hw : OkW ts x.1) :
  len <= cap /\ len <= 140737488351232 /\ ∃ l : List α,l.length = len /\ (0 < len -> ∃ b off,a0 = some ⟨b,off,none⟩ /\ b < w.heap.size /\ ∀ i,i < len -> ∃ cs : List Value,cs.length = sz /\ p cs (l.getD i default) /\ ∀ j,j < sz -> w.cell? ⟨b,off + i * sz + j,none⟩ = cs[j]?) /\ ∀ i,i < len -> ∃ cs,p cs (l.getD i default):=by
 rcases open_slice hu h with ⟨hcs,_⟩ | ⟨a,len',cap',m,n,D,Pl,hcs,hb,hl,hm,hmm,rfl,hx⟩
 · simp at hcs
   obtain ⟨rfl,rfl,rfl⟩:=hcs
   exact ⟨Nat.le_refl _,by omega,[],rfl,fun h=>absurd h (by omega),fun i hi=>absurd hi (by omega)⟩
 · simp at hcs
   obtain ⟨rfl,rfl,rfl⟩:=hcs
   have hlm : len <= m:=by rw [hmm];split <;> omega
   obtain ⟨hb1,hb2⟩:=okw_slice hu hw
   unfold reachBytes at hb1
   have hlen : len <= 140737488351232:=by
    simp only [List.length_map,List.length_range] at hb1
    have:=Nat.le_mul_of_pos_right (len + (m - len)) hb8
    omega
   have each : ∀ i,i < len -> ∃ y : α,∃ cs : List Value,cs.length = sz /\ p cs y /\ ∀ j,j < sz -> w.cell? (a.add (i * sz + j)) = cs[j]?:=by
    intro i hi
    obtain ⟨cs',h1,h2⟩:=hx i (by omega)
    have hd : D i ∈ (List.range len).map D:=List.mem_map.2 ⟨i,List.mem_range.2 hi,rfl⟩
    rw [hc] at h1
    obtain ⟨_,hcl,hcell⟩:=World.cells?_some h1
    obtain ⟨y,hy⟩:=elem n cs' _ hcl h2 (hb2 _ hd)
    refine ⟨y,cs',hcl,hy,fun j hj=>?_⟩
    have:=hcell j (by omega)
    simp only [add_add] at this
    exact this
   obtain ⟨g,hg⟩:=choose_lt each
   have hat : ∀ i,i < len -> ((List.range len).map g).getD i default = g i:=by
    intro i hi
    simp [hi]
   refine ⟨hl,hlen,(List.range len).map g,by simp,fun h0=>?_,fun i hi=>?_⟩
   · obtain ⟨b,off,spot⟩:=a
     obtain ⟨cs,e1,e2,e3⟩:=hg 0 h0
     have hc0:=e3 0 hs0
     rw [List.getElem?_eq_getElem (by omega)] at hc0
     have hspot : spot = none:=by simpa [Addr.add] using World.cell?_spot hc0
     subst hspot
     rw [Addr.add_lit] at hc0
     refine ⟨b,off,rfl,cell_lt hc0,fun i hi=>?_⟩
     rw [hat i hi]
     obtain ⟨cs,e1,e2,e3⟩:=hg i hi
     refine ⟨cs,e1,e2,fun j hj=>?_⟩
     have:=e3 j hj
     rw [Addr.add_lit,<- Nat.add_assoc] at this
     exact this
   · rw [hat i hi]
     obtain ⟨cs,_,e2,_⟩:=hg i hi
     exact ⟨cs,e2⟩
theorem one_int {fuel : Nat} {v : Value} {y : DataW H × List MemPlace} (h : DataW.trod enc Tryz.prog w base spare held fuel 3 [v] = some y) : ∃ n : Int,v = .int .i64 n /\ M.I64 n:=by
 obtain ⟨n,c,_,wf⟩:=DataW.trod_int Tryz.underlying3 h
 simp only [List.cons.injEq,and_true] at c
 exact ⟨n,c,i64_of _ wf⟩
def isFr (cs : List Value) (y : KM.Fr) : Prop:=cs = [.string y.data,.int .i64 y.refs,.bool y.dirty,.bool y.seen] /\ M.Short y.data.size /\ M.I64 y.refs
theorem oneFr (n : Nat) (cs : List Value) (x : DataW H × List MemPlace) (hl : cs.length = 4) (h : DataW.trod enc Tryz.prog w base spare held n 40 cs = some x) (hw : OkW 40 x.1) : ∃ y,isFr cs y:=by
 obtain ⟨xs,k,hk,hxy,_,hxl,hf⟩:=DataW.trod_struct Tryz.underlying40 h
 rw [hxy] at hw
 match cs,hl with
 | [v0,v1,v2,v3],_ =>
  have g0 : DataW.trod enc Tryz.prog w base spare held k 9 (([v0,v1,v2,v3].drop 0).take (Tryz.prog.cellsOf 9)) = xs[0]?:=hf 0 _ rfl
  have g1 : DataW.trod enc Tryz.prog w base spare held k 3 (([v0,v1,v2,v3].drop 1).take (Tryz.prog.cellsOf 3)) = xs[1]?:=hf 1 _ rfl
  have g2 : DataW.trod enc Tryz.prog w base spare held k 4 (([v0,v1,v2,v3].drop 2).take (Tryz.prog.cellsOf 4)) = xs[2]?:=hf 2 _ rfl
  have g3 : DataW.trod enc Tryz.prog w base spare held k 4 (([v0,v1,v2,v3].drop 3).take (Tryz.prog.cellsOf 4)) = xs[3]?:=hf 3 _ rfl
  simp only [cells3,cells4,cells9] at g0 g1 g2 g3
  match xs,hxl with
  | [y0,y1,y2,y3],_ =>
   obtain ⟨m0,c0,hx0,_⟩:=DataW.trod_string Tryz.underlying9 (show DataW.trod enc Tryz.prog w base spare held k 9 [v0] = some y0 from g0)
   have u0:=okw_agg Tryz.underlying40 hw (j:=0) (u:=9) (d:=y0.1) rfl rfl
   rw [hx0] at u0
   have w0 : M.Short m0.size:=by have:=okw_string u0;unfold M.Short;unfold reachBytes at this;rw [Lib.size_eq];exact this
   simp only [List.cons.injEq,and_true] at c0
   subst c0
   obtain ⟨m1,rfl,w1⟩:=one_int (show DataW.trod enc Tryz.prog w base spare held k 3 [v1] = some y1 from g1)
   obtain ⟨m2,c2,_⟩:=DataW.trod_bool Tryz.underlying4 (show DataW.trod enc Tryz.prog w base spare held k 4 [v2] = some y2 from g2)
   simp only [List.cons.injEq,and_true] at c2
   subst c2
   obtain ⟨m3,c3,_⟩:=DataW.trod_bool Tryz.underlying4 (show DataW.trod enc Tryz.prog w base spare held k 4 [v3] = some y3 from g3)
   simp only [List.cons.injEq,and_true] at c3
   subst c3
   exact ⟨⟨m0,m1,m2,m3⟩,rfl,w0,w1⟩
theorem opensFr {fuel : Nat} {a0 : Option Addr} {len cap : Nat} {x : DataW H × List MemPlace} (h : DataW.trod enc Tryz.prog w base spare held fuel 23 [.slice a0 len cap] = some x) (hw : OkW 23 x.1) :
  ∃ l : List KM.Fr,l.length = len /\ HasRow KW.cellFr 4 KM.fr0 w a0 l /\ M.Short l.length /\ (∀ k,k < l.length -> M.Short (KM.frAt l k).data.size /\ M.I64 (KM.frAt l k).refs) /\ len <= cap:=by
 obtain ⟨h1,h2,l,h3,h4,h5⟩:=open_rows isFr Tryz.underlying23 cellsFr bytesFr (by decide) oneFr h hw
 subst h3
 refine ⟨l,rfl,fun h0=>?_,h2,fun k hk=>?_,h1⟩
 · obtain ⟨b,off,e1,e2,e3⟩:=h4 h0
   refine ⟨b,off,e1,e2,fun i hi=>?_⟩
   obtain ⟨cs,_,⟨rfl,_⟩,q⟩:=e3 i hi
   exact q
 · obtain ⟨cs,_,q⟩:=h5 k hk
   exact q
def isSl (cs : List Value) (y : KM.Sl) : Prop:=cs = [.string y.data,.int .i64 y.refs] /\ M.Short y.data.size /\ M.I64 y.refs
theorem oneSl (n : Nat) (cs : List Value) (x : DataW H × List MemPlace) (hl : cs.length = 2) (h : DataW.trod enc Tryz.prog w base spare held n 86 cs = some x) (hw : OkW 86 x.1) : ∃ y,isSl cs y:=by
 obtain ⟨xs,k,hk,hxy,_,hxl,hf⟩:=DataW.trod_struct Tryz.underlying86 h
 rw [hxy] at hw
 match cs,hl with
 | [v0,v1],_ =>
  have g0 : DataW.trod enc Tryz.prog w base spare held k 9 (([v0,v1].drop 0).take (Tryz.prog.cellsOf 9)) = xs[0]?:=hf 0 _ rfl
  have g1 : DataW.trod enc Tryz.prog w base spare held k 3 (([v0,v1].drop 1).take (Tryz.prog.cellsOf 3)) = xs[1]?:=hf 1 _ rfl
  simp only [cells3,cells9] at g0 g1
  match xs,hxl with
  | [y0,y1],_ =>
   obtain ⟨m0,c0,hx0,_⟩:=DataW.trod_string Tryz.underlying9 (show DataW.trod enc Tryz.prog w base spare held k 9 [v0] = some y0 from g0)
   have u0:=okw_agg Tryz.underlying86 hw (j:=0) (u:=9) (d:=y0.1) rfl rfl
   rw [hx0] at u0
   have w0 : M.Short m0.size:=by have:=okw_string u0;unfold M.Short;unfold reachBytes at this;rw [Lib.size_eq];exact this
   simp only [List.cons.injEq,and_true] at c0
   subst c0
   obtain ⟨m1,rfl,w1⟩:=one_int (show DataW.trod enc Tryz.prog w base spare held k 3 [v1] = some y1 from g1)
   exact ⟨⟨m0,m1⟩,rfl,w0,w1⟩
theorem opensSl {fuel : Nat} {a0 : Option Addr} {len cap : Nat} {x : DataW H × List MemPlace} (h : DataW.trod enc Tryz.prog w base spare held fuel 24 [.slice a0 len cap] = some x) (hw : OkW 24 x.1) :
  ∃ l : List KM.Sl,l.length = len /\ HasRow KW.cellSl 2 KM.sl0 w a0 l /\ M.Short l.length /\ (∀ k,k < l.length -> M.Short (KM.slAt l k).data.size /\ M.I64 (KM.slAt l k).refs) /\ len <= cap:=by
 obtain ⟨h1,h2,l,h3,h4,h5⟩:=open_rows isSl Tryz.underlying24 cellsSl bytesSl (by decide) oneSl h hw
 subst h3
 refine ⟨l,rfl,fun h0=>?_,h2,fun k hk=>?_,h1⟩
 · obtain ⟨b,off,e1,e2,e3⟩:=h4 h0
   refine ⟨b,off,e1,e2,fun i hi=>?_⟩
   obtain ⟨cs,_,⟨rfl,_⟩,q⟩:=e3 i hi
   exact q
 · obtain ⟨cs,_,q⟩:=h5 k hk
   exact q
def isEn (cs : List Value) (y : KM.En) : Prop:=cs = [.int .i64 y.page,.int .i64 y.kind,.int .i64 y.loc] /\ M.I64 y.page /\ M.I64 y.kind /\ M.I64 y.loc
theorem oneEn (n : Nat) (cs : List Value) (x : DataW H × List MemPlace) (hl : cs.length = 3) (h : DataW.trod enc Tryz.prog w base spare held n 45 cs = some x) (hw : OkW 45 x.1) : ∃ y,isEn cs y:=by
 obtain ⟨xs,k,hk,hxy,_,hxl,hf⟩:=DataW.trod_struct Tryz.underlying45 h
 rw [hxy] at hw
 match cs,hl with
 | [v0,v1,v2],_ =>
  have g0 : DataW.trod enc Tryz.prog w base spare held k 3 (([v0,v1,v2].drop 0).take (Tryz.prog.cellsOf 3)) = xs[0]?:=hf 0 _ rfl
  have g1 : DataW.trod enc Tryz.prog w base spare held k 3 (([v0,v1,v2].drop 1).take (Tryz.prog.cellsOf 3)) = xs[1]?:=hf 1 _ rfl
  have g2 : DataW.trod enc Tryz.prog w base spare held k 3 (([v0,v1,v2].drop 2).take (Tryz.prog.cellsOf 3)) = xs[2]?:=hf 2 _ rfl
  simp only [cells3] at g0 g1 g2
  match xs,hxl with
  | [y0,y1,y2],_ =>
   obtain ⟨m0,rfl,w0⟩:=one_int (show DataW.trod enc Tryz.prog w base spare held k 3 [v0] = some y0 from g0)
   obtain ⟨m1,rfl,w1⟩:=one_int (show DataW.trod enc Tryz.prog w base spare held k 3 [v1] = some y1 from g1)
   obtain ⟨m2,rfl,w2⟩:=one_int (show DataW.trod enc Tryz.prog w base spare held k 3 [v2] = some y2 from g2)
   exact ⟨⟨m0,m1,m2⟩,rfl,w0,w1,w2⟩
theorem opensEn {fuel : Nat} {a0 : Option Addr} {len cap : Nat} {x : DataW H × List MemPlace} (h : DataW.trod enc Tryz.prog w base spare held fuel 41 [.slice a0 len cap] = some x) (hw : OkW 41 x.1) :
  ∃ l : List KM.En,l.length = len /\ HasRow KW.cellEn 3 KM.en0 w a0 l /\ M.Short l.length /\ (∀ k,k < l.length -> M.I64 (KM.enAt l k).page /\ M.I64 (KM.enAt l k).kind /\ M.I64 (KM.enAt l k).loc) /\ len <= cap:=by
 obtain ⟨h1,h2,l,h3,h4,h5⟩:=open_rows isEn Tryz.underlying41 cellsEn bytesEn (by decide) oneEn h hw
 subst h3
 refine ⟨l,rfl,fun h0=>?_,h2,fun k hk=>?_,h1⟩
 · obtain ⟨b,off,e1,e2,e3⟩:=h4 h0
   refine ⟨b,off,e1,e2,fun i hi=>?_⟩
   obtain ⟨cs,_,⟨rfl,_⟩,q⟩:=e3 i hi
   exact q
 · obtain ⟨cs,_,q⟩:=h5 k hk
   exact q
def isSp (w : World) (cs : List Value) (y : KM.Sp) : Prop:=∃ va ap cp,cs = [.bool y.live,va,.slice ap y.ents.length cp] /\ AW.Has w va y.areas /\ HasRow KW.cellEn 3 KM.en0 w ap y.ents /\ y.ents.length <= cp /\ FitSp y
theorem oneSp (n : Nat) (cs : List Value) (x : DataW H × List MemPlace) (hl : cs.length = 3) (h : DataW.trod enc Tryz.prog w base spare held n 43 cs = some x) (hw : OkW 43 x.1) : ∃ y,isSp w cs y:=by
 obtain ⟨xs,k,hk,hxy,_,hxl,hf⟩:=DataW.trod_struct Tryz.underlying43 h
 rw [hxy] at hw
 match cs,hl with
 | [v0,v1,v2],_ =>
  have g0 : DataW.trod enc Tryz.prog w base spare held k 4 (([v0,v1,v2].drop 0).take (Tryz.prog.cellsOf 4)) = xs[0]?:=hf 0 _ rfl
  have g1 : DataW.trod enc Tryz.prog w base spare held k 28 (([v0,v1,v2].drop 1).take (Tryz.prog.cellsOf 28)) = xs[1]?:=hf 1 _ rfl
  have g2 : DataW.trod enc Tryz.prog w base spare held k 41 (([v0,v1,v2].drop 2).take (Tryz.prog.cellsOf 41)) = xs[2]?:=hf 2 _ rfl
  simp only [cells4,LW.cellsArs,cellsEns] at g0 g1 g2
  match xs,hxl with
  | [y0,y1,y2],_ =>
   obtain ⟨lv,c0,_⟩:=DataW.trod_bool Tryz.underlying4 (show DataW.trod enc Tryz.prog w base spare held k 4 [v0] = some y0 from g0)
   have u1:=okw_agg Tryz.underlying43 hw (j:=1) (u:=28) (d:=y1.1) rfl rfl
   have u2:=okw_agg Tryz.underlying43 hw (j:=2) (u:=41) (d:=y2.1) rfl rfl
   have t1 : DataW.trod enc Tryz.prog w base spare held k 28 [v1] = some y1:=g1
   have t2 : DataW.trod enc Tryz.prog w base spare held k 41 [v2] = some y2:=g2
   obtain ⟨av,lvn,cv,d1⟩:=slice_of Tryz.underlying28 t1
   obtain ⟨ap,lp,cp,d2⟩:=slice_of Tryz.underlying41 t2
   subst d1;subst d2
   obtain ⟨l,n1,n2,n3,n4⟩:=AW.open_areas t1
   obtain ⟨ps,s1,s2,s3,s4,s5⟩:=opensEn t2 u2
   simp only [List.cons.injEq,and_true] at c0
   subst c0;subst s1
   refine ⟨⟨lv,l,ps⟩,_,ap,cp,rfl,n2,s2,s5,⟨n3,?_⟩,s3,s4⟩
   rw [n1]
   rcases n4 with e | ⟨el,sp,e1,e2⟩
   · omega
   · rw [e1] at u1
     have hb:=(okw_slice Tryz.underlying28 u1).1
     rw [LW.bytesAr,e2] at hb
     unfold reachBytes at hb
     omega
theorem opensSp {fuel : Nat} {a0 : Option Addr} {len cap : Nat} {x : DataW H × List MemPlace} (h : DataW.trod enc Tryz.prog w base spare held fuel 25 [.slice a0 len cap] = some x) (hw : OkW 25 x.1) :
  ∃ l : List KM.Sp,l.length = len /\ KW.HasSp w a0 l /\ M.Short l.length /\ ∀ k,k < l.length -> FitSp (KM.spAt l k):=by
 obtain ⟨h1,h2,l,h3,h4,h5⟩:=open_rows (isSp w) Tryz.underlying25 cellsSp bytesSp (by decide) oneSp h hw
 subst h3
 refine ⟨l,rfl,fun h0=>?_,h2,fun k hk=>?_⟩
 · obtain ⟨b,off,e1,e2,e3⟩:=h4 h0
   refine ⟨b,off,e1,e2,fun i hi=>?_⟩
   obtain ⟨cs,_,⟨va,ap,cp,rfl,r1,r2,r3,_⟩,q⟩:=e3 i hi
   exact ⟨va,ap,cp,q 0 (by decide),q 1 (by decide),q 2 (by decide),r1,r2,r3⟩
 · obtain ⟨cs,_,_,_,_,_,_,_,q⟩:=h5 k hk
   exact q
theorem open_kernel {fuel : Nat} {cs : List Value} {x : DataW H × List MemPlace} (h : DataW.trod enc Tryz.prog w base spare held fuel 27 cs = some x) (hw : OkW 27 x.1) :
  ∃ (k : KM.Kn) (a : KAt),cs = (cellsK a k).toList /\ HasK w a k /\ FitK k:=by
 obtain ⟨xs,k,hk,hxy,hcl,hxl,hf⟩:=DataW.trod_struct Tryz.underlying27 h
 rw [hxy] at hw
 rw [cellsKn] at hcl
 match cs,hcl with
 | [v0,v1,v2,v3,v4],_ =>
  have g0 : DataW.trod enc Tryz.prog w base spare held k 22 (([v0,v1,v2,v3,v4].drop 0).take (Tryz.prog.cellsOf 22)) = xs[0]?:=hf 0 _ rfl
  have g1 : DataW.trod enc Tryz.prog w base spare held k 23 (([v0,v1,v2,v3,v4].drop 1).take (Tryz.prog.cellsOf 23)) = xs[1]?:=hf 1 _ rfl
  have g2 : DataW.trod enc Tryz.prog w base spare held k 24 (([v0,v1,v2,v3,v4].drop 2).take (Tryz.prog.cellsOf 24)) = xs[2]?:=hf 2 _ rfl
  have g3 : DataW.trod enc Tryz.prog w base spare held k 25 (([v0,v1,v2,v3,v4].drop 3).take (Tryz.prog.cellsOf 25)) = xs[3]?:=hf 3 _ rfl
  have g4 : DataW.trod enc Tryz.prog w base spare held k 3 (([v0,v1,v2,v3,v4].drop 4).take (Tryz.prog.cellsOf 3)) = xs[4]?:=hf 4 _ rfl
  simp only [cells3,LW.cellsShs,cellsFrs,cellsSls,cellsSps] at g0 g1 g2 g3 g4
  match xs,hxl with
  | [y0,y1,y2,y3,y4],_ =>
   obtain ⟨hd,rfl,i4⟩:=one_int (show DataW.trod enc Tryz.prog w base spare held k 3 [v4] = some y4 from g4)
   have u0:=okw_agg Tryz.underlying27 hw (j:=0) (u:=22) (d:=y0.1) rfl rfl
   have t0 : DataW.trod enc Tryz.prog w base spare held k 22 [v0] = some y0:=g0
   obtain ⟨a0,l0,c0,d0⟩:=slice_of Tryz.underlying22 t0
   have u1:=okw_agg Tryz.underlying27 hw (j:=1) (u:=23) (d:=y1.1) rfl rfl
   have t1 : DataW.trod enc Tryz.prog w base spare held k 23 [v1] = some y1:=g1
   obtain ⟨a1,l1,c1,d1⟩:=slice_of Tryz.underlying23 t1
   have u2:=okw_agg Tryz.underlying27 hw (j:=2) (u:=24) (d:=y2.1) rfl rfl
   have t2 : DataW.trod enc Tryz.prog w base spare held k 24 [v2] = some y2:=g2
   obtain ⟨a2,l2,c2,d2⟩:=slice_of Tryz.underlying24 t2
   have u3:=okw_agg Tryz.underlying27 hw (j:=3) (u:=25) (d:=y3.1) rfl rfl
   have t3 : DataW.trod enc Tryz.prog w base spare held k 25 [v3] = some y3:=g3
   obtain ⟨a3,l3,c3,d3⟩:=slice_of Tryz.underlying25 t3
   subst d0;subst d1;subst d2;subst d3
   obtain ⟨hs,rfl,s2,s3,s4⟩:=LW.open_H t0 u0
   obtain ⟨fs,rfl,f2,f3,f4,f5⟩:=opensFr t1 u1
   obtain ⟨ls,rfl,m2,m3,m4,m5⟩:=opensSl t2 u2
   obtain ⟨ss,rfl,p2,p3,p4⟩:=opensSp t3 u3
   exact ⟨⟨hs,fs,ls,ss,hd⟩,⟨a0,c0,a1,c1,a2,c2,a3,c3⟩,rfl,⟨s2,f2,m2,p2⟩,⟨s3,f3,f4,m3,m4,p3,p4,i4⟩⟩
end
end KA
end Go.Proofs.YtpgifpeohlllfaaGreat
