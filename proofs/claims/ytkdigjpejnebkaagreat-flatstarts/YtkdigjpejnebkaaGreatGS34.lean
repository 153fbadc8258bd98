import Derived.Test.YtkdigjpejnebkaaGreatGS28
import Derived.Test.YtkdigjpejnebkaaGreatGS33
import Derived.Test.YtkdigjpejnebkaaGreatGS16
import Derived.Test.YtkdigjpejnebkaaGreatGS27
set_option linter.unusedVariables false
set_option maxRecDepth 100000
set_option linter.unusedSimpArgs false
namespace Go.Proofs.YtkdigjpejnebkaaGreat
namespace GW
open Go.RowKit GK GG
open FW (hideC add_below)
variable {σ : Type} {Hd : World -> (Nat -> Prop) -> σ -> Prop} {Ok : σ -> List Bool -> Prop} {o : Ops σ} {lo mb gb : Nat} {D : Nat -> Prop} {vr vo : Value} {st : St σ}
set_option maxHeartbeats 4000000 in
theorem answer0 (C : MemC lo mb Hd Ok o) (k : Nat) (w : World) (h : Grp Hd lo mb gb w D vr vo st) (hok : GOk Ok st) (hk : k < st.ps.length) (h1 : (FM.prAt st.ps k).st = 1) (R : (Int × (Int × Int)) × St σ) (hR : R = ((0,(0,0)),st)) :
  Calls Tryz.prog 109 #[.pointer (some ⟨gb,0,none⟩),.int .i64 (k : Int),.agg #[.int .i64 0,.int .i64 0,.int .i64 0,.int .i64 0,.int .i64 0]] w fun e w'=>e = .returned (.tuple #[.int .i64 R.1.1,.agg (FW.fcells R.1.2)]) /\ Left Hd lo mb gb w D vr vo R.2 w':=by
 have HG:=hideC h
 have HC:=hideC C
 have HOK:=hideC hok
 have HLV:=hideC (live_at k hk h1)
 have HK1:=hideC hk
 have HH1:=hideC h1
 have HR:=hideC hR
 have hn4 : st.ps.length <= 4:=by have:=C.ok.few _ _ hok.mem;unfold running at this;rw [List.length_map] at this;exact this
 have HFT:=hideC (hok.fit k hk)
 have hgb:=B.isLt h.head
 have g0 : w.cell? ⟨gb,0,none⟩ = some (.iface 144 (.pointer (some ⟨mb,0,none⟩))):=B.cell h.head 0 rfl
 have g1 : w.cell? ⟨gb,1,none⟩ = some vr:=B.cell h.head 1 rfl
 have HBX:=hideC (((Below.refl w.heap.size w).alloc (Nat.le_refl _) (.cells #[.int .i64 0,.int .i64 0,.int .i64 0,.int .i64 0,.int .i64 0] 101)).alloc (by simp) (.cells #[.int .i64 0,.int .i64 0] 68))
 have BX:=hideC (B.alloc (B.new w #[.int .i64 0,.int .i64 0,.int .i64 0,.int .i64 0,.int .i64 0] 101) (.cells #[.int .i64 0,.int .i64 0] 68))
 have BY : Hid (((w.alloc (.cells #[.int .i64 0,.int .i64 0,.int .i64 0,.int .i64 0,.int .i64 0] 101)).alloc (.cells #[.int .i64 0,.int .i64 0] 68)).heap[w.heap.size + 1]? = some (.cells #[.int .i64 0,.int .i64 0] 68 (0,0))):=by
  have:=B.new (w.alloc (.cells #[.int .i64 0,.int .i64 0,.int .i64 0,.int .i64 0,.int .i64 0] 101)) #[.int .i64 0,.int .i64 0] 68
  rw [World.size_alloc] at this
  exact this
 clear hR hok
 clear h C hk h1
 go_enter Tryz.func109,Tryz.ntmps109
 go_wp2
 refine bodyPost_ret (v:=.tuple #[.int .i64 0,.agg #[.int .i64 0,.int .i64 0]]) (by simp [results,Tryz.results109,go_sem]) rfl ?_
 rw [HR.out]
 exact ⟨rfl,Left.after HBX.out (Left.refl (HG.out.below HC.out HBX.out))⟩
set_option maxHeartbeats 4000000 in
theorem answer4 (C : MemC lo mb Hd Ok o) (k : Nat) (w : World) (h : Grp Hd lo mb gb w D vr vo st) (hok : GOk Ok st) (hk : k < st.ps.length) (h1 : (FM.prAt st.ps k).st = 1) (R : (Int × (Int × Int)) × St σ) (hR : R = ((0,(4,(FM.prAt st.ps k).pc)),st)) :
  Calls Tryz.prog 109 #[.pointer (some ⟨gb,0,none⟩),.int .i64 (k : Int),.agg #[.int .i64 4,.int .i64 0,.int .i64 0,.int .i64 0,.int .i64 0]] w fun e w'=>e = .returned (.tuple #[.int .i64 R.1.1,.agg (FW.fcells R.1.2)]) /\ Left Hd lo mb gb w D vr vo R.2 w':=by
 have HG:=hideC h
 have HC:=hideC C
 have HOK:=hideC hok
 have HLV:=hideC (live_at k hk h1)
 have HK1:=hideC hk
 have HH1:=hideC h1
 have HR:=hideC hR
 have hn4 : st.ps.length <= 4:=by have:=C.ok.few _ _ hok.mem;unfold running at this;rw [List.length_map] at this;exact this
 have HFT:=hideC (hok.fit k hk)
 have hgb:=B.isLt h.head
 have g0 : w.cell? ⟨gb,0,none⟩ = some (.iface 144 (.pointer (some ⟨mb,0,none⟩))):=B.cell h.head 0 rfl
 have g1 : w.cell? ⟨gb,1,none⟩ = some vr:=B.cell h.head 1 rfl
 have HBX:=hideC (((Below.refl w.heap.size w).alloc (Nat.le_refl _) (.cells #[.int .i64 4,.int .i64 0,.int .i64 0,.int .i64 0,.int .i64 0] 101)).alloc (by simp) (.cells #[.int .i64 0,.int .i64 0] 68))
 have BX:=hideC (B.alloc (B.new w #[.int .i64 4,.int .i64 0,.int .i64 0,.int .i64 0,.int .i64 0] 101) (.cells #[.int .i64 0,.int .i64 0] 68))
 have BY : Hid (((w.alloc (.cells #[.int .i64 4,.int .i64 0,.int .i64 0,.int .i64 0,.int .i64 0] 101)).alloc (.cells #[.int .i64 0,.int .i64 0] 68)).heap[w.heap.size + 1]? = some (.cells #[.int .i64 0,.int .i64 0] 68 (0,0))):=by
  have:=B.new (w.alloc (.cells #[.int .i64 4,.int .i64 0,.int .i64 0,.int .i64 0,.int .i64 0] 101)) #[.int .i64 0,.int .i64 0] 68
  rw [World.size_alloc] at this
  exact this
 clear hR hok
 obtain ⟨pb,cap,hvr,hpb,hpc,hpf⟩:=h.proc k hk
 obtain ⟨pc,hpce⟩ : ∃ pc,pc = (FM.prAt st.ps k).pc:=⟨_,rfl⟩
 rw [<- hpce] at HR
 have c8 : w.cell? ⟨pb,k * 13 + 8,none⟩ = some (.int .i64 pc):=by rw [hpce];exact hpc 8 (by omega)
 obtain ⟨n,hn⟩ : ∃ n,n = st.ps.length:=⟨_,rfl⟩
 rw [<- hn] at hvr hk hn4
 subst hvr
 have hki : (k : Int) < (n : Int):=by omega
 have hpb2 : ¬ pb = w.heap.size:=by omega
 have hgb2 : ¬ gb = w.heap.size:=by omega
 clear h C h1 hpc hpf hpce hn
 go_enter Tryz.func109,Tryz.ntmps109
 go_wp2
 go_region
 go_wp2
 refine bodyPost_ret (v:=.tuple #[.int .i64 0,.agg #[.int .i64 4,.int .i64 pc]]) (by simp [results,Tryz.results109,go_sem]) rfl ?_
 rw [HR.out]
 have hb : Below w.heap.size w ((w.alloc (.cells #[.int .i64 4,.int .i64 0,.int .i64 0,.int .i64 0,.int .i64 0] 101)).alloc (.cells #[.int .i64 4,.int .i64 pc] 68)).drew:=(((Below.refl w.heap.size w).alloc (Nat.le_refl _) _).alloc (by simp) _).drew
 exact ⟨rfl,Left.after hb (Left.refl (HG.out.below HC.out hb))⟩
set_option maxHeartbeats 4000000 in
theorem answer3 (C : MemC lo mb Hd Ok o) (k : Nat) (c : Int) (w : World) (h : Grp Hd lo mb gb w D vr vo st) (hok : GOk Ok st) (hk : k < st.ps.length) (h1 : (FM.prAt st.ps k).st = 1) (R : (Int × (Int × Int)) × St σ) (hc : 1 <= c /\ c <= 6) (hR : R = (((callG o st k c).1,(0,0)),(callG o st k c).2)) :
  Calls Tryz.prog 109 #[.pointer (some ⟨gb,0,none⟩),.int .i64 (k : Int),.agg #[.int .i64 3,.int .i64 0,.int .i64 0,.int .i64 0,.int .i64 c]] w fun e w'=>e = .returned (.tuple #[.int .i64 R.1.1,.agg (FW.fcells R.1.2)]) /\ Left Hd lo mb gb w D vr vo R.2 w':=by
 have HG:=hideC h
 have HC:=hideC C
 have HOK:=hideC hok
 have HLV:=hideC (live_at k hk h1)
 have HK1:=hideC hk
 have HH1:=hideC h1
 have HR:=hideC hR
 have hn4 : st.ps.length <= 4:=by have:=C.ok.few _ _ hok.mem;unfold running at this;rw [List.length_map] at this;exact this
 have HFT:=hideC (hok.fit k hk)
 have hgb:=B.isLt h.head
 have g0 : w.cell? ⟨gb,0,none⟩ = some (.iface 144 (.pointer (some ⟨mb,0,none⟩))):=B.cell h.head 0 rfl
 have g1 : w.cell? ⟨gb,1,none⟩ = some vr:=B.cell h.head 1 rfl
 have HBX:=hideC (((Below.refl w.heap.size w).alloc (Nat.le_refl _) (.cells #[.int .i64 3,.int .i64 0,.int .i64 0,.int .i64 0,.int .i64 c] 101)).alloc (by simp) (.cells #[.int .i64 0,.int .i64 0] 68))
 have BX:=hideC (B.alloc (B.new w #[.int .i64 3,.int .i64 0,.int .i64 0,.int .i64 0,.int .i64 c] 101) (.cells #[.int .i64 0,.int .i64 0] 68))
 have BY : Hid (((w.alloc (.cells #[.int .i64 3,.int .i64 0,.int .i64 0,.int .i64 0,.int .i64 c] 101)).alloc (.cells #[.int .i64 0,.int .i64 0] 68)).heap[w.heap.size + 1]? = some (.cells #[.int .i64 0,.int .i64 0] 68 (0,0))):=by
  have:=B.new (w.alloc (.cells #[.int .i64 3,.int .i64 0,.int .i64 0,.int .i64 0,.int .i64 c] 101)) #[.int .i64 0,.int .i64 0] 68
  rw [World.size_alloc] at this
  exact this
 clear hR hok
 have HCL:=hideC (fun V (hV : Below w.heap.size w V)=>call_any C k c V (h.below C hV) HOK.out hk h1 hc)
 obtain ⟨X,hX⟩ : ∃ X,X = callG o st k c:=⟨_,rfl⟩
 rw [<- hX] at HCL HR
 clear h C hX h1
 go_enter Tryz.func109,Tryz.ntmps109
 go_wp2_with (go_at_call 128;refine (HCL.out _ HBX.out).mono ?_;rintro e w1 ⟨rfl,hl1⟩;have HL1:=hideC (LeftN.behind HC.out HG.out HBX.out hl1);obtain ⟨_,_,_,_,hkk,_⟩:=hl1;have BY1:=hideC (HG.out.aside HC.out hkk (by omega) BY.out);have y0:=B.cell (v:=.int .i64 0) BY1.out 0 rfl;have y1:=B.cell (v:=.int .i64 0) BY1.out 1 rfl;have z0:=B.free BY1.out 0;have z1:=B.free BY1.out 1;clear hkk)
 refine bodyPost_ret (v:=.tuple #[.int .i64 X.1,.agg #[.int .i64 0,.int .i64 0]]) (by simp [results,Tryz.results109,go_sem,y0,y1]) rfl ?_
 rw [HR.out]
 have hy : w.heap.size <= w.heap.size + 1 /\ w.heap.size + 1 < ((w.alloc (.cells #[.int .i64 3,.int .i64 0,.int .i64 0,.int .i64 0,.int .i64 c] 101)).alloc (.cells #[.int .i64 0,.int .i64 0] 68)).heap.size:=⟨by omega,B.isLt BY.out⟩
 exact ⟨rfl,((HL1.out.set HC.out ⟨w.heap.size + 1,0,none⟩ _ hy hy.1).set HC.out ⟨w.heap.size + 1,1,none⟩ _ hy hy.1).left⟩
variable {σ : Type} {Hd : World -> (Nat -> Prop) -> σ -> Prop} {Ok : σ -> List Bool -> Prop} {o : Ops σ} {lo mb gb : Nat} {D : Nat -> Prop} {vr vo : Value} {st : St σ}
set_option maxHeartbeats 4000000 in
theorem answer2 (C : MemC lo mb Hd Ok o) (k : Nat) (a v : Int) (m : Nat) (w : World) (h : Grp Hd lo mb gb w D vr vo st) (hok : GOk Ok st) (hk : k < st.ps.length) (h1 : (FM.prAt st.ps k).st = 1) (R : (Int × (Int × Int)) × St σ) (ha : M.I64 a) (hm1 : 1 <= m) (hm8 : m <= 8) (hR : R = ((0,(o.store st.mem k a (putN v m)).1),{ st with mem:=(o.store st.mem k a (putN v m)).2 })) :
  Calls Tryz.prog 109 #[.pointer (some ⟨gb,0,none⟩),.int .i64 (k : Int),.agg #[.int .i64 2,.int .i64 a,.int .i64 (m : Int),.int .i64 v,.int .i64 0]] w fun e w'=>e = .returned (.tuple #[.int .i64 R.1.1,.agg (FW.fcells R.1.2)]) /\ Left Hd lo mb gb w D vr vo R.2 w':=by
 have HG:=hideC h
 have HC:=hideC C
 have HOK:=hideC hok
 have HLV:=hideC (live_at k hk h1)
 have HK1:=hideC hk
 have HH1:=hideC h1
 have HR:=hideC hR
 have hn4 : st.ps.length <= 4:=by have:=C.ok.few _ _ hok.mem;unfold running at this;rw [List.length_map] at this;exact this
 have HFT:=hideC (hok.fit k hk)
 have hgb:=B.isLt h.head
 have g0 : w.cell? ⟨gb,0,none⟩ = some (.iface 144 (.pointer (some ⟨mb,0,none⟩))):=B.cell h.head 0 rfl
 have g1 : w.cell? ⟨gb,1,none⟩ = some vr:=B.cell h.head 1 rfl
 have HBX:=hideC (((Below.refl w.heap.size w).alloc (Nat.le_refl _) (.cells #[.int .i64 2,.int .i64 a,.int .i64 (m : Int),.int .i64 v,.int .i64 0] 101)).alloc (by simp) (.cells #[.int .i64 0,.int .i64 0] 68))
 have BX:=hideC (B.alloc (B.new w #[.int .i64 2,.int .i64 a,.int .i64 (m : Int),.int .i64 v,.int .i64 0] 101) (.cells #[.int .i64 0,.int .i64 0] 68))
 have BY : Hid (((w.alloc (.cells #[.int .i64 2,.int .i64 a,.int .i64 (m : Int),.int .i64 v,.int .i64 0] 101)).alloc (.cells #[.int .i64 0,.int .i64 0] 68)).heap[w.heap.size + 1]? = some (.cells #[.int .i64 0,.int .i64 0] 68 (0,0))):=by
  have:=B.new (w.alloc (.cells #[.int .i64 2,.int .i64 a,.int .i64 (m : Int),.int .i64 v,.int .i64 0] 101)) #[.int .i64 0,.int .i64 0] 68
  rw [World.size_alloc] at this
  exact this
 clear hR hok
 have HPU : Hid (∀ V,Calls Tryz.prog 127 #[.int .i64 v,.int .i64 (m : Int)] V fun e w'=>e = .returned (.tuple #[.string (putN v m),.int .i64 0]) /\ Below V.heap.size V w'):=fun V=>by
  have:=CW.put_yes v m V hm1 hm8
  unfold putN
  rw [Int.toNat_natCast]
  exact this
 have hds : (putN v m).size = m:=by
  unfold putN
  rw [Int.toNat_natCast]
  show (Lib.leBytes m (CM.low v)).toArray.size = m
  simp [Lib.leBytes_length]
 have HST : Hid (∀ V,Below w.heap.size w V -> Calls Tryz.prog 195 #[.pointer (some ⟨mb,0,none⟩),.int .i64 (k : Int),.int .i64 a,.string (putN v m)] V (Out Hd V D (.agg (FW.fcells (o.store st.mem k a (putN v m)).1)) (o.store st.mem k a (putN v m)).2)):=fun V hV=>C.store V D st.mem _ k a (putN v m) (h.below C hV).mem HOK.out.mem HLV.out ha (by omega) (by omega)
 obtain ⟨X,hX⟩ : ∃ X,X = o.store st.mem k a (putN v m):=⟨_,rfl⟩
 rw [<- hX] at HST HR
 obtain ⟨d,hd⟩ : ∃ d,d = putN v m:=⟨_,rfl⟩
 rw [<- hd] at HPU HST
 obtain ⟨⟨X1,X2⟩,X3⟩:=X
 unfold FW.fcells at HST
 simp only at HST HR
 have hm:=methodStore ⟨mb,0,none⟩
 have hah:=aheadStore ⟨mb,0,none⟩
 clear h C hX h1 hd hds
 go_enter Tryz.func109,Tryz.ntmps109
 go_wp2_with (go_at_call 127;refine (HPU.out _).mono ?_;rintro e w1 ⟨rfl,hb1⟩;have HB1:=hideC (HBX.out.trans (hb1.mono HBX.out.size));have BX1:=hideC (B.below BX.out hb1 (B.isLt BX.out));have BY1:=hideC (B.below BY.out hb1 (B.isLt BY.out));clear hb1)
 have HGA:=hideC (HG.out.below HC.out HB1.out)
 obtain ⟨xb,hxb⟩ : ∃ xb,xb = w.heap.size:=⟨_,rfl⟩
 rw [<- hxb] at BX1 BY1 ⊢
 have HXB:=hideC hxb
 have HS : Hid (∀ V,Kp D w1 V -> V.cell? ⟨gb,0,none⟩ = some (.iface 144 (.pointer (some ⟨mb,0,none⟩))) /\ V.cell? ⟨xb,1,none⟩ = some (.int .i64 a)):=fun V hb=>by
  have h1:=hb.keep BX1.out (fun g=>by have:=HC.out.dom _ _ _ HG.out.mem _ g;have:=HXB.out;omega)
  have h2:=hb.keep HGA.out.head HGA.out.n1
  exact ⟨B.cell h2 0 rfl,B.cell h1 1 rfl⟩
 have HS0:=hideC (HS.out _ (Kp.drew _ _))
 have HSY : Hid (∀ V : World,(V.cell? ⟨gb,0,none⟩ = some (.iface 144 (.pointer (some ⟨mb,0,none⟩))) /\ V.cell? ⟨xb,1,none⟩ = some (.int .i64 a)) -> ∀ v0 v1,(((V.setCell ⟨xb + 1,0,none⟩ v0).setCell ⟨xb + 1,1,none⟩ v1).cell? ⟨gb,0,none⟩ = some (.iface 144 (.pointer (some ⟨mb,0,none⟩))) /\ ((V.setCell ⟨xb + 1,0,none⟩ v0).setCell ⟨xb + 1,1,none⟩ v1).cell? ⟨xb,1,none⟩ = some (.int .i64 a))):=fun V ⟨h0,h1⟩ v0 v1=>by
  have hne : xb ≠ xb + 1:=by omega
  have hne2 : gb ≠ xb + 1:=by have:=HXB.out;omega
  rw [cell_other _ _ _ _ _ _ hne,cell_other _ _ _ _ _ _ hne,cell_other _ _ _ _ _ _ hne2,cell_other _ _ _ _ _ _ hne2]
  exact ⟨h0,h1⟩
 clear hxb HPU g0 g1
 go_region_held3 (fun V=>V.cell? ⟨gb,0,none⟩ = some (.iface 144 (.pointer (some ⟨mb,0,none⟩))) /\ V.cell? ⟨xb,1,none⟩ = some (.int .i64 a)) (first | exact HSX.out _ _ | exact HS2.out | exact HS0.out)
  (first | (go_at_call 195;refine (HST.out _ HB1.out.drew).mono ?_;rintro e w2 ⟨D2,rfl,hm2,hk2,hd2⟩;have HS2:=hideC (HS.out _ ((Kp.drew D w1).trans hk2 (fun _ _ g=>g)));have HSX:=hideC (HSY.out w2 HS2.out);have HL2:=hideC (LeftN.behind HC.out HG.out HB1.out.drew (Left.ofTurn HC.out (HG.out.below HC.out HB1.out.drew) hm2 hk2 hd2));have BY2:=hideC (hk2.keep (w:=w1.drew) BY1.out (fun g=>(by have:=HC.out.dom _ _ _ HG.out.mem _ g;have:=HXB.out;omega)));have y0:=B.cell (v:=.int .i64 0) BY2.out 0 rfl;have y1:=B.cell (v:=.int .i64 0) BY2.out 1 rfl;have z0:=B.free BY2.out 0;have z1:=B.free BY2.out 1;clear hm2 hk2 hd2))
 clear HSX HSY HS HS0 HS2
 go_wp2
 refine bodyPost_ret (v:=.tuple #[.int .i64 0,.agg #[.int .i64 X1,.int .i64 X2]]) (by simp [results,Tryz.results109,go_sem,y0,y1]) rfl ?_
 rw [HR.out]
 have hy : w.heap.size <= xb + 1 /\ xb + 1 < w1.drew.heap.size:=⟨by have:=HXB.out;omega,B.isLt BY1.out⟩
 exact ⟨rfl,((HL2.out.set HC.out ⟨xb + 1,0,none⟩ _ hy hy.1).set HC.out ⟨xb + 1,1,none⟩ _ hy hy.1).left⟩
variable {σ : Type} {Hd : World -> (Nat -> Prop) -> σ -> Prop} {Ok : σ -> List Bool -> Prop} {o : Ops σ} {lo mb gb : Nat} {D : Nat -> Prop} {vr vo : Value} {st : St σ}
set_option maxHeartbeats 8000000 in
theorem answer1 (C : MemC lo mb Hd Ok o) (k : Nat) (a n : Int) (w : World) (h : Grp Hd lo mb gb w D vr vo st) (hok : GOk Ok st) (hk : k < st.ps.length) (h1 : (FM.prAt st.ps k).st = 1) (R : (Int × (Int × Int)) × St σ) (ha : M.I64 a) (hm1 : 1 <= n) (hm8 : n <= 8) (hR : R = ((getN (o.load st.mem k a n 0).1.1,(o.load st.mem k a n 0).1.2),{ st with mem:=(o.load st.mem k a n 0).2 })) :
  Calls Tryz.prog 109 #[.pointer (some ⟨gb,0,none⟩),.int .i64 (k : Int),.agg #[.int .i64 1,.int .i64 a,.int .i64 n,.int .i64 0,.int .i64 0]] w fun e w'=>e = .returned (.tuple #[.int .i64 R.1.1,.agg (FW.fcells R.1.2)]) /\ Left Hd lo mb gb w D vr vo R.2 w':=by
 have HG:=hideC h
 have HC:=hideC C
 have HOK:=hideC hok
 have HLV:=hideC (live_at k hk h1)
 have HK1:=hideC hk
 have HH1:=hideC h1
 have HR:=hideC hR
 have hn4 : st.ps.length <= 4:=by have:=C.ok.few _ _ hok.mem;unfold running at this;rw [List.length_map] at this;exact this
 have HFT:=hideC (hok.fit k hk)
 have hgb:=B.isLt h.head
 have g0 : w.cell? ⟨gb,0,none⟩ = some (.iface 144 (.pointer (some ⟨mb,0,none⟩))):=B.cell h.head 0 rfl
 have g1 : w.cell? ⟨gb,1,none⟩ = some vr:=B.cell h.head 1 rfl
 have HBX:=hideC (((Below.refl w.heap.size w).alloc (Nat.le_refl _) (.cells #[.int .i64 1,.int .i64 a,.int .i64 n,.int .i64 0,.int .i64 0] 101)).alloc (by simp) (.cells #[.int .i64 0,.int .i64 0] 68))
 have BX:=hideC (B.alloc (B.new w #[.int .i64 1,.int .i64 a,.int .i64 n,.int .i64 0,.int .i64 0] 101) (.cells #[.int .i64 0,.int .i64 0] 68))
 have BY : Hid (((w.alloc (.cells #[.int .i64 1,.int .i64 a,.int .i64 n,.int .i64 0,.int .i64 0] 101)).alloc (.cells #[.int .i64 0,.int .i64 0] 68)).heap[w.heap.size + 1]? = some (.cells #[.int .i64 0,.int .i64 0] 68 (0,0))):=by
  have:=B.new (w.alloc (.cells #[.int .i64 1,.int .i64 a,.int .i64 n,.int .i64 0,.int .i64 0] 101)) #[.int .i64 0,.int .i64 0] 68
  rw [World.size_alloc] at this
  exact this
 clear hR hok
 have HGT : Hid (∀ V,Calls Tryz.prog 126 #[.string (o.load st.mem k a n 0).1.1] V fun e w'=>∃ x,e = .returned (.tuple #[.int .i64 (getN (o.load st.mem k a n 0).1.1),.int .i64 x]) /\ V = w'):=fun V=>by
  have h1:=C.ok.size st.mem _ k a n 0 HOK.out.mem HLV.out hm1 hm8
  have h2:=C.ok.none st.mem _ k a n 0 HOK.out.mem HLV.out
  unfold getN
  by_cases c : (o.load st.mem k a n 0).1.2.1 = 0
  · have:=h1 c
    rw [if_pos (by omega)]
    exact (CW.get_yes _ V (by omega) (by omega)).mono fun e w' ⟨g1,g2⟩=>⟨0,g1,g2⟩
  · rw [h2 c,if_neg (by decide)]
    exact (CW.get_no _ V (by unfold maxLen;decide) (by decide)).mono fun e w' ⟨g1,g2⟩=>⟨3,g1,g2⟩
 have HLD : Hid (∀ V,Below w.heap.size w V -> Calls Tryz.prog 192 #[.pointer (some ⟨mb,0,none⟩),.int .i64 (k : Int),.int .i64 a,.int .i64 n,.int .i64 0] V (Out Hd V D (.tuple #[.string (o.load st.mem k a n 0).1.1,.agg (FW.fcells (o.load st.mem k a n 0).1.2)]) (o.load st.mem k a n 0).2)):=fun V hV=>C.load V D st.mem _ k a n 0 (h.below C hV).mem HOK.out.mem HLV.out ha hm1 hm8 (.inl rfl)
 obtain ⟨X,hX⟩ : ∃ X,X = o.load st.mem k a n 0:=⟨_,rfl⟩
 rw [<- hX] at HLD HR HGT
 obtain ⟨⟨d,X1,X2⟩,X3⟩:=X
 unfold FW.fcells at HLD
 simp only at HLD HR HGT
 obtain ⟨G,hGe⟩ : ∃ G,G = getN d:=⟨_,rfl⟩
 rw [<- hGe] at HGT HR
 have hm:=methodLoad ⟨mb,0,none⟩
 have hah:=aheadLoad ⟨mb,0,none⟩
 clear h C hX h1 hGe
 go_enter Tryz.func109,Tryz.ntmps109
 go_wp2_with fail
 obtain ⟨WA,hWA⟩ : ∃ WA,WA = (w.alloc (.cells #[.int .i64 1,.int .i64 a,.int .i64 n,.int .i64 0,.int .i64 0] 101)).alloc (.cells #[.int .i64 0,.int .i64 0] 68):=⟨_,rfl⟩
 rw [<- hWA] at HBX BX BY ⊢
 obtain ⟨xb,hxb⟩ : ∃ xb,xb = w.heap.size:=⟨_,rfl⟩
 rw [<- hxb] at BX BY ⊢
 have HXB:=hideC hxb
 have HGA:=hideC (HG.out.below HC.out HBX.out)
 have HS : Hid (∀ V,Kp D WA V -> V.cell? ⟨gb,0,none⟩ = some (.iface 144 (.pointer (some ⟨mb,0,none⟩))) /\ V.cell? ⟨xb,1,none⟩ = some (.int .i64 a) /\ V.cell? ⟨xb,2,none⟩ = some (.int .i64 n)):=fun V hb=>by
  have h1:=hb.keep BX.out (fun g=>by have:=HC.out.dom _ _ _ HG.out.mem _ g;have:=HXB.out;omega)
  have h2:=hb.keep HGA.out.head HGA.out.n1
  exact ⟨B.cell h2 0 rfl,B.cell h1 1 rfl,B.cell h1 2 rfl⟩
 have HS0:=hideC (HS.out _ (Kp.drew _ _))
 have HS1:=hideC (HS.out (WA.alloc (.cells #[.int .i64 0,.int .i64 0] 68)).drew ((Kp.alloc _ _ _).trans (Kp.drew _ _) (fun _ _ g=>g)))
 have HB0:=hideC HBX.out.drew
 have HB1:=hideC (HBX.out.alloc HBX.out.size (.cells #[.int .i64 0,.int .i64 0] 68)).drew
 have hlx:=B.isLt BY.out
 have HNY : Hid (¬ D (xb + 1)):=fun g=>by have:=HC.out.dom _ _ _ HG.out.mem _ g;have:=HXB.out;omega
 have HNZ : Hid (¬ D WA.heap.size):=fun g=>by have:=HC.out.dom _ _ _ HG.out.mem _ g;have:=HBX.out.size;omega
 clear hxb hWA g0 g1
 go_cut [8,9] (fun x8 x9 wx=>∃ zb,x8 = .string d /\ x9 = .pointer (some ⟨zb,0,none⟩) /\ wx.heap[zb]? = some (.cells #[.int .i64 X1,.int .i64 X2] 68 (0,0)) /\ wx.heap[xb + 1]? = some (.cells #[.int .i64 0,.int .i64 0] 68 (0,0)) /\ LeftN (fun b=>b = xb + 1) Hd lo mb gb w D vr vo { st with mem:=X3 } wx)
 case first =>
  have HSY : Hid (∀ (V : World) (g : Nat),xb + 1 < g -> (V.cell? ⟨gb,0,none⟩ = some (.iface 144 (.pointer (some ⟨mb,0,none⟩))) /\ V.cell? ⟨xb,1,none⟩ = some (.int .i64 a) /\ V.cell? ⟨xb,2,none⟩ = some (.int .i64 n)) -> ∀ v0 v1,((V.setCell ⟨g,0,none⟩ v0).setCell ⟨g,1,none⟩ v1).cell? ⟨gb,0,none⟩ = some (.iface 144 (.pointer (some ⟨mb,0,none⟩))) /\ ((V.setCell ⟨g,0,none⟩ v0).setCell ⟨g,1,none⟩ v1).cell? ⟨xb,1,none⟩ = some (.int .i64 a) /\ ((V.setCell ⟨g,0,none⟩ v0).setCell ⟨g,1,none⟩ v1).cell? ⟨xb,2,none⟩ = some (.int .i64 n)):=fun V g hg ⟨h0,h1,h2⟩ v0 v1=>by
   have hne : xb ≠ g:=by omega
   have hne2 : gb ≠ g:=by have:=HXB.out;omega
   rw [cell_other _ _ _ _ _ _ hne,cell_other _ _ _ _ _ _ hne,cell_other _ _ _ _ _ _ hne,cell_other _ _ _ _ _ _ hne,cell_other _ _ _ _ _ _ hne2,cell_other _ _ _ _ _ _ hne2]
   exact ⟨h0,h1,h2⟩
  go_region_held3 (fun V=>V.cell? ⟨gb,0,none⟩ = some (.iface 144 (.pointer (some ⟨mb,0,none⟩))) /\ V.cell? ⟨xb,1,none⟩ = some (.int .i64 a) /\ V.cell? ⟨xb,2,none⟩ = some (.int .i64 n)) (first | exact HS0.out | exact HS1.out | exact HS2.out | exact HS3.out _ | exact HSX.out _ _ | exact HSZ.out _ _ _)
   (first | (go_at_call 192;refine (HLD.out _ (by first | exact HB0.out | exact HB1.out)).mono ?_;rintro e w2 ⟨D2,rfl,hm2,hk2,hd2⟩;have HKW : Hid (Kp D WA w2):=(by first | exact (Kp.drew D WA).trans hk2 (fun _ _ g=>g) | exact ((Kp.alloc D WA (.cells #[.int .i64 0,.int .i64 0] 68)).trans (Kp.drew D _) (fun _ _ g=>g)).trans hk2 (fun _ _ g=>g));have HS2:=hideC (HS.out _ HKW.out);have HS3:=hideC (fun ob=>HS.out _ (HKW.out.trans (Kp.alloc D w2 ob) (fun _ _ g=>g)));have HSX:=hideC (HSY.out w2 WA.heap.size hlx HS2.out);have HSZ:=hideC (fun ob=>HSY.out (w2.alloc ob) w2.heap.size (Nat.lt_of_lt_of_le hlx HKW.out.size) (HS3.out ob));have HL2:=hideC (LeftN.behind HC.out HG.out (by first | exact HB0.out | exact HB1.out) (Left.ofTurn HC.out (HG.out.below HC.out (by first | exact HB0.out | exact HB1.out)) hm2 hk2 hd2));have BY2 : Hid (w2.heap[xb + 1]? = some (.cells #[.int .i64 0,.int .i64 0] 68 (0,0))):=HKW.out.keep BY.out HNY.out;(try (have HZ2:=hideC (hk2.keep (w:=(WA.alloc (.cells #[.int .i64 0,.int .i64 0] 68)).drew) (B.new WA #[.int .i64 0,.int .i64 0] 68) HNZ.out);have z0:=B.cell (v:=.int .i64 0) HZ2.out 0 rfl;have z1:=B.cell (v:=.int .i64 0) HZ2.out 1 rfl;have z2:=B.free HZ2.out 0;have z3:=B.free HZ2.out 1));clear hm2 hk2 hd2))
  all_goals
   go_wp2_with fail
   go_meet
   case rel =>
    first
    | exact ⟨_,rfl,rfl,B.new w2 _ _,B.alloc BY2.out _,(HL2.out.more HC.out ((Below.refl _ _).alloc (Nat.le_refl _) _)).sub (fun b e=>by subst e;exact ⟨by have:=HXB.out;omega,hlx⟩)⟩
    | exact ⟨_,rfl,rfl,B.set (B.set HZ2.out 0 _) 1 _,B.other (B.other BY2.out WA.heap.size 0 _ (by omega)) WA.heap.size 1 _ (by omega),((HL2.out.set HC.out ⟨WA.heap.size,0,none⟩ _ ⟨HBX.out.size,by show WA.heap.size < (WA.alloc _).heap.size;rw [World.size_alloc];omega⟩ HBX.out.size).set HC.out ⟨WA.heap.size,1,none⟩ _ ⟨HBX.out.size,by show WA.heap.size < (WA.alloc _).heap.size;rw [World.size_alloc];omega⟩ HBX.out.size).sub (fun b e=>by subst e;exact ⟨by have:=HXB.out;omega,by show _ < (WA.alloc _).heap.size;rw [World.size_alloc];omega⟩)⟩
 case rest =>
  obtain ⟨zb,rfl,rfl,hz,hy,hl⟩:=hcut
  have HZ:=hideC hz
  have HY:=hideC hy
  have HL:=hideC hl
  have z0:=B.cell (v:=.int .i64 X1) hz 0 rfl
  have z1:=B.cell (v:=.int .i64 X2) hz 1 rfl
  have y0:=B.cell (v:=.int .i64 0) hy 0 rfl
  have y1:=B.cell (v:=.int .i64 0) hy 1 rfl
  have f0:=B.free hy 0
  have f1:=B.free hy 1
  clear hz hy hl HS HS0 HS1 HB0 HB1
  go_wp2_with (go_at_call 126;refine (HGT.out _).mono ?_;rintro e w3 ⟨x,rfl,rfl⟩)
  go_region
  all_goals
   go_wp2
   refine bodyPost_ret (v:=.tuple #[.int .i64 G,.agg #[.int .i64 X1,.int .i64 X2]]) (by simp [results,Tryz.results109,go_sem,y0,y1]) rfl ?_
   rw [HR.out]
   exact ⟨rfl,(((HL.out.more HC.out (Below.refl _ _).drew).set HC.out ⟨xb + 1,0,none⟩ _ rfl (by show w.heap.size <= xb + 1;have:=HXB.out;omega)).set HC.out ⟨xb + 1,1,none⟩ _ rfl (by show w.heap.size <= xb + 1;have:=HXB.out;omega)).left⟩
theorem bad_size {i : PM.Ins} (hb : i.bad = false) (h : i.op = 9 ∨ i.op = 10) : 1 <= i.c /\ i.c <= 8:=by
 unfold PM.Ins.bad at hb
 rw [if_neg (by omega),if_neg (by omega),if_neg (by omega),if_neg (by omega),if_neg (by omega),if_pos h] at hb
 unfold PM.isSize at hb
 simp at hb
 omega
theorem bad_call {i : PM.Ins} (hb : i.bad = false) (h : i.op = 16) : 1 <= i.m /\ i.m <= 6:=by
 unfold PM.Ins.bad at hb
 rw [if_neg (by omega),if_pos h] at hb
 simpa using hb
theorem answer_any (C : MemC lo mb Hd Ok o) (k : Nat) (i : PM.Ins) (w : World) (h : Grp Hd lo mb gb w D vr vo st) (hok : GOk Ok st) (hk : k < st.ps.length) (h1 : (FM.prAt st.ps k).st = 1) :
  Calls Tryz.prog 109 #[.pointer (some ⟨gb,0,none⟩),.int .i64 (k : Int),.agg (PM.askN (FM.prAt st.ps k) i)] w fun e w'=>e = .returned (.tuple #[.int .i64 (answerG o st k i).1.1,.agg (FW.fcells (answerG o st k i).1.2)]) /\ Left Hd lo mb gb w D vr vo (answerG o st k i).2 w':=by
 by_cases hb : i.bad = true
 · have e1 : PM.askN (FM.prAt st.ps k) i = #[.int .i64 4,.int .i64 0,.int .i64 0,.int .i64 0,.int .i64 0]:=by unfold PM.askN;rw [if_pos hb]
   rw [e1]
   exact answer4 C k w h hok hk h1 _ (by unfold answerG;rw [if_pos hb])
 · have hb' : i.bad = false:=by simpa using hb
   by_cases c9 : i.op = 9
   · have hsz:=bad_size hb' (.inl c9)
     have e1 : PM.askN (FM.prAt st.ps k) i = #[.int .i64 1,.int .i64 (wrap64 ((FM.prAt st.ps k).r i.b.toNat + i.m)),.int .i64 i.c,.int .i64 0,.int .i64 0]:=by unfold PM.askN;rw [if_neg hb,if_pos c9]
     rw [e1]
     exact answer1 C k _ _ w h hok hk h1 _ (wrap64_fit _) hsz.1 hsz.2 (by unfold answerG;rw [if_neg hb,if_pos c9])
   · by_cases c10 : i.op = 10
     · have hsz:=bad_size hb' (.inr c10)
       obtain ⟨m,hm⟩ : ∃ m : Nat,i.c = (m : Int):=⟨i.c.toNat,by omega⟩
       have e1 : PM.askN (FM.prAt st.ps k) i = #[.int .i64 2,.int .i64 (wrap64 ((FM.prAt st.ps k).r i.b.toNat + i.m)),.int .i64 (m : Int),.int .i64 ((FM.prAt st.ps k).r i.a.toNat),.int .i64 0]:=by unfold PM.askN;rw [if_neg hb,if_neg c9,if_pos c10,hm]
       rw [e1]
       exact answer2 C k _ _ m w h hok hk h1 _ (wrap64_fit _) (by omega) (by omega) (by unfold answerG;rw [if_neg hb,if_neg c9,if_pos c10,hm])
     · by_cases c16 : i.op = 16
       · have e1 : PM.askN (FM.prAt st.ps k) i = #[.int .i64 3,.int .i64 0,.int .i64 0,.int .i64 0,.int .i64 i.m]:=by unfold PM.askN;rw [if_neg hb,if_neg c9,if_neg c10,if_pos c16]
         rw [e1]
         exact answer3 C k i.m w h hok hk h1 _ (bad_call hb' c16) (by unfold answerG;rw [if_neg hb,if_neg c9,if_neg c10,if_pos c16])
       · have e1 : PM.askN (FM.prAt st.ps k) i = #[.int .i64 0,.int .i64 0,.int .i64 0,.int .i64 0,.int .i64 0]:=by unfold PM.askN;rw [if_neg hb,if_neg c9,if_neg c10,if_neg c16]
         rw [e1]
         exact answer0 C k w h hok hk h1 _ (by unfold answerG;rw [if_neg hb,if_neg c9,if_neg c10,if_neg c16])
variable {σ : Type} {Hd : World -> (Nat -> Prop) -> σ -> Prop} {Ok : σ -> List Bool -> Prop} {o : Ops σ} {lo mb gb : Nat} {D : Nat -> Prop} {vr vo : Value} {st : St σ}
set_option maxHeartbeats 8000000 in
theorem done_any (C : MemC lo mb Hd Ok o) (k : Nat) (s : ByteArray) (v : Int) (w : World) (h : Grp Hd lo mb gb w D vr vo st) (hn4 : st.ps.length <= 1000) (hk : k < st.ps.length) (h8 : s.size = 8) (hbad : (PM.ins s).bad = false) :
  Calls Tryz.prog 110 #[.pointer (some ⟨gb,0,none⟩),.int .i64 (k : Int),.string s,.int .i64 v] w fun e w'=>e = .returned (.tuple #[]) /\ Left Hd lo mb gb w D vr vo { st with ps:=st.ps.set k (PM.doneN (FM.prAt st.ps k) (PM.ins s) v) } w':=by
 have HG:=hideC h
 have HC:=hideC C
 obtain ⟨pb,cap,hvr,hpb,hpc,hpf⟩:=h.proc k hk
 have HPC:=hideC hpc
 have HPF:=hideC hpf
 have HDN:=hideC (fun V=>PW.done_yes (FM.prAt st.ps k) s v V h8 hbad)
 obtain ⟨q,hq⟩ : ∃ q,q = FM.prAt st.ps k:=⟨_,rfl⟩
 rw [<- hq] at HPC HDN ⊢
 obtain ⟨N,hN⟩ : ∃ N,N = PM.doneN q (PM.ins s) v:=⟨_,rfl⟩
 rw [<- hN] at HDN ⊢
 obtain ⟨n,hn⟩ : ∃ n,n = st.ps.length:=⟨_,rfl⟩
 rw [<- hn] at hvr hk hn4
 have HN:=hideC hn
 subst hvr
 have hki : (k : Int) < (n : Int):=by omega
 have HD2 : Hid (∀ V,Calls Tryz.prog 129 #[.agg #[.int .i64 (q.r 0),.int .i64 (q.r 1),.int .i64 (q.r 2),.int .i64 (q.r 3),.int .i64 (q.r 4),.int .i64 (q.r 5),.int .i64 (q.r 6),.int .i64 (q.r 7),.int .i64 q.pc,.int .i64 q.st,.int .i64 q.cd,.int .i64 q.fk,.int .i64 q.fa],.string s,.int .i64 v] V fun e w'=>e = .returned (.tuple #[.agg #[.int .i64 (N.r 0),.int .i64 (N.r 1),.int .i64 (N.r 2),.int .i64 (N.r 3),.int .i64 (N.r 4),.int .i64 (N.r 5),.int .i64 (N.r 6),.int .i64 (N.r 7),.int .i64 N.pc,.int .i64 N.st,.int .i64 N.cd,.int .i64 N.fk,.int .i64 N.fa],.int .i64 0]) /\ Below V.heap.size V w'):=HDN
 have g1 : w.cell? ⟨gb,1,none⟩ = some (.slice (some ⟨pb,0,none⟩) n cap):=B.cell HG.out.head 1 rfl
 have hgb:=B.isLt HG.out.head
 have c0 : w.cell? ⟨pb,k * 13,none⟩ = some (.int .i64 (q.r 0)):=HPC.out 0 (by omega)
 have c1 : w.cell? ⟨pb,k * 13 + 1,none⟩ = some (.int .i64 (q.r 1)):=HPC.out 1 (by omega)
 have c2 : w.cell? ⟨pb,k * 13 + 2,none⟩ = some (.int .i64 (q.r 2)):=HPC.out 2 (by omega)
 have c3 : w.cell? ⟨pb,k * 13 + 3,none⟩ = some (.int .i64 (q.r 3)):=HPC.out 3 (by omega)
 have c4 : w.cell? ⟨pb,k * 13 + 4,none⟩ = some (.int .i64 (q.r 4)):=HPC.out 4 (by omega)
 have c5 : w.cell? ⟨pb,k * 13 + 5,none⟩ = some (.int .i64 (q.r 5)):=HPC.out 5 (by omega)
 have c6 : w.cell? ⟨pb,k * 13 + 6,none⟩ = some (.int .i64 (q.r 6)):=HPC.out 6 (by omega)
 have c7 : w.cell? ⟨pb,k * 13 + 7,none⟩ = some (.int .i64 (q.r 7)):=HPC.out 7 (by omega)
 have c8 : w.cell? ⟨pb,k * 13 + 8,none⟩ = some (.int .i64 q.pc):=HPC.out 8 (by omega)
 have c9 : w.cell? ⟨pb,k * 13 + 9,none⟩ = some (.int .i64 q.st):=HPC.out 9 (by omega)
 have c10 : w.cell? ⟨pb,k * 13 + 10,none⟩ = some (.int .i64 q.cd):=HPC.out 10 (by omega)
 have c11 : w.cell? ⟨pb,k * 13 + 11,none⟩ = some (.int .i64 q.fk):=HPC.out 11 (by omega)
 have c12 : w.cell? ⟨pb,k * 13 + 12,none⟩ = some (.int .i64 q.fa):=HPC.out 12 (by omega)
 have HK0:=hideC (Below.refl w.heap.size w).drew
 clear hq hN hn hpc hpf h C HDN HPC h8 hbad
 go_enter Tryz.func110,Tryz.ntmps110
 go_wp2_with fail
 go_region_law (go_simp;go_at_call 129;refine (HD2.out _).mono ?_;rintro e w1 ⟨rfl,hb1'⟩;have hb1:=HK0.out.trans hb1';have HB1:=hideC hb1;have d0 : w1.cell? ⟨pb,k * 13,none⟩ = some (.int .i64 (q.r 0)):=(hb1.cell (p:=⟨pb,k * 13,none⟩) hpb).trans c0;have d1 : w1.cell? ⟨pb,k * 13 + 1,none⟩ = some (.int .i64 (q.r 1)):=(hb1.cell (p:=⟨pb,k * 13 + 1,none⟩) hpb).trans c1;have d2 : w1.cell? ⟨pb,k * 13 + 2,none⟩ = some (.int .i64 (q.r 2)):=(hb1.cell (p:=⟨pb,k * 13 + 2,none⟩) hpb).trans c2;have d3 : w1.cell? ⟨pb,k * 13 + 3,none⟩ = some (.int .i64 (q.r 3)):=(hb1.cell (p:=⟨pb,k * 13 + 3,none⟩) hpb).trans c3;have d4 : w1.cell? ⟨pb,k * 13 + 4,none⟩ = some (.int .i64 (q.r 4)):=(hb1.cell (p:=⟨pb,k * 13 + 4,none⟩) hpb).trans c4;have d5 : w1.cell? ⟨pb,k * 13 + 5,none⟩ = some (.int .i64 (q.r 5)):=(hb1.cell (p:=⟨pb,k * 13 + 5,none⟩) hpb).trans c5;have d6 : w1.cell? ⟨pb,k * 13 + 6,none⟩ = some (.int .i64 (q.r 6)):=(hb1.cell (p:=⟨pb,k * 13 + 6,none⟩) hpb).trans c6;have d7 : w1.cell? ⟨pb,k * 13 + 7,none⟩ = some (.int .i64 (q.r 7)):=(hb1.cell (p:=⟨pb,k * 13 + 7,none⟩) hpb).trans c7;have d8 : w1.cell? ⟨pb,k * 13 + 8,none⟩ = some (.int .i64 q.pc):=(hb1.cell (p:=⟨pb,k * 13 + 8,none⟩) hpb).trans c8;have d9 : w1.cell? ⟨pb,k * 13 + 9,none⟩ = some (.int .i64 q.st):=(hb1.cell (p:=⟨pb,k * 13 + 9,none⟩) hpb).trans c9;have d10 : w1.cell? ⟨pb,k * 13 + 10,none⟩ = some (.int .i64 q.cd):=(hb1.cell (p:=⟨pb,k * 13 + 10,none⟩) hpb).trans c10;have d11 : w1.cell? ⟨pb,k * 13 + 11,none⟩ = some (.int .i64 q.fk):=(hb1.cell (p:=⟨pb,k * 13 + 11,none⟩) hpb).trans c11;have d12 : w1.cell? ⟨pb,k * 13 + 12,none⟩ = some (.int .i64 q.fa):=(hb1.cell (p:=⟨pb,k * 13 + 12,none⟩) hpb).trans c12;have f1 : ∀ j,w1.frozen? ⟨pb,j,none⟩ = false:=(fun j=>(hb1.frozen (p:=⟨pb,j,none⟩) hpb).trans (HPF.out j));have x1 : w1.cell? ⟨gb,1,none⟩ = some (.slice (some ⟨pb,0,none⟩) n cap):=(hb1.cell (p:=⟨gb,1,none⟩) hgb).trans g1;clear hb1 hb1';go_simp)
 all_goals
  clear HD2 HPF
  go_wp2
  go_end0
  exact ⟨rfl,Left.after HB1.out ((HG.out.below HC.out HB1.out).setP HC.out k (by rw [<- HN.out];exact hk) HN.out N)⟩
end GW
end Go.Proofs.YtkdigjpejnebkaaGreat
