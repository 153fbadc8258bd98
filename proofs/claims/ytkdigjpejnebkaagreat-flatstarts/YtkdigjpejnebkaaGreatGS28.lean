import Derived.Test.YtkdigjpejnebkaaGreatGS27
import Derived.Test.YtkdigjpejnebkaaGreatGS03
import Derived.Test.YtkdigjpejnebkaaGreatGS15
import Derived.Test.YtkdigjpejnebkaaGreatGS00
import Derived.Lib.Hide
import Derived.WalkSpells
import Derived.Deep.RegionHeld3
set_option linter.unusedVariables false
set_option maxRecDepth 100000
set_option linter.unusedSimpArgs false
namespace Go.Proofs.YtkdigjpejnebkaaGreat
namespace GW
open Go.RowKit GK GG
open FW (hideC add_below)
variable {σ : Type} {Hd : World -> (Nat -> Prop) -> σ -> Prop} {Ok : σ -> List Bool -> Prop} {o : Ops σ} {lo mb gb : Nat} {D : Nat -> Prop} {vr vo : Value} {st : St σ}
set_option maxHeartbeats 4000000 in
theorem call5 (C : MemC lo mb Hd Ok o) (k : Nat) (w : World) (h : Grp Hd lo mb gb w D vr vo st) (hok : GOk Ok st) (hk : k < st.ps.length) (h1 : (FM.prAt st.ps k).st = 1) :
  Calls Tryz.prog 128 #[.pointer (some ⟨gb,0,none⟩),.int .i64 (k : Int),.int .i64 5] w fun e w'=>e = .returned (.int .i64 (callG o st k 5).1) /\ Left Hd lo mb gb w D vr vo (callG o st k 5).2 w':=by
 have HG:=hideC h
 have HC:=hideC C
 obtain ⟨pb,cap,hvr,hpb,hpc,hpf⟩:=h.proc k hk
 have HPC:=hideC hpc
 have hlv:=live_at k hk h1
 have hfit:=hok.fit k hk
 have HOK:=hideC hok
 have HLV:=hideC hlv
 have HFT:=hideC hfit
 have hn4 : st.ps.length <= 4:=by have:=C.ok.few _ _ hok.mem;unfold running at this;rw [List.length_map] at this;exact this
 have HK1:=hideC hk
 have HH1:=hideC h1
 have HFK:=hideC (fun V (hV : Below w.heap.size w V)=>fork_any C k V (h.below C hV) hok hk h1)
 obtain ⟨q,hq⟩ : ∃ q,q = FM.prAt st.ps k:=⟨_,rfl⟩
 rw [<- hq] at HPC HFT
 have HQ:=hideC hq
 obtain ⟨n,hn⟩ : ∃ n,n = st.ps.length:=⟨_,rfl⟩
 rw [<- hn] at hvr hk hn4
 subst hvr
 have HN:=hideC hn
 have hki : (k : Int) < (n : Int):=by omega
 have g0 : w.cell? ⟨gb,0,none⟩ = some (.iface 144 (.pointer (some ⟨mb,0,none⟩))):=B.cell HG.out.head 0 rfl
 have g1 : w.cell? ⟨gb,1,none⟩ = some (.slice (some ⟨pb,0,none⟩) n cap):=B.cell HG.out.head 1 rfl
 have hgb:=B.isLt HG.out.head
 have c0 : w.cell? ⟨pb,k * 13,none⟩ = some (.int .i64 (q.r 0)):=HPC.out 0 (by omega)
 have c1 : w.cell? ⟨pb,k * 13 + 1,none⟩ = some (.int .i64 (q.r 1)):=HPC.out 1 (by omega)
 have c2 : w.cell? ⟨pb,k * 13 + 2,none⟩ = some (.int .i64 (q.r 2)):=HPC.out 2 (by omega)
 have c3 : w.cell? ⟨pb,k * 13 + 3,none⟩ = some (.int .i64 (q.r 3)):=HPC.out 3 (by omega)
 have c4 : w.cell? ⟨pb,k * 13 + 4,none⟩ = some (.int .i64 (q.r 4)):=HPC.out 4 (by omega)
 have c5 : w.cell? ⟨pb,k * 13 + 5,none⟩ = some (.int .i64 (q.r 5)):=HPC.out 5 (by omega)
 have c6 : w.cell? ⟨pb,k * 13 + 6,none⟩ = some (.int .i64 (q.r 6)):=HPC.out 6 (by omega)
 have c7 : w.cell? ⟨pb,k * 13 + 7,none⟩ = some (.int .i64 (q.r 7)):=HPC.out 7 (by omega)
 have HBX:=hideC ((Below.refl w.heap.size w).alloc (Nat.le_refl _) (.cells #[.int .i64 (q.r 0),.int .i64 (q.r 1),.int .i64 (q.r 2),.int .i64 (q.r 3),.int .i64 (q.r 4),.int .i64 (q.r 5),.int .i64 (q.r 6),.int .i64 (q.r 7)] 66))
 have BX:=hideC (B.new w #[.int .i64 (q.r 0),.int .i64 (q.r 1),.int .i64 (q.r 2),.int .i64 (q.r 3),.int .i64 (q.r 4),.int .i64 (q.r 5),.int .i64 (q.r 6),.int .i64 (q.r 7)] 66)
 clear hq hn hpc hpf h C HPC hok hlv hfit
 obtain ⟨RR,hRR⟩ : ∃ RR,RR = callG o st k 5:=⟨_,rfl⟩
 rw [<- hRR] at HFK ⊢
 clear hRR
 go_enter Tryz.func128,Tryz.ntmps128
 go_wp2_with (go_at_call 147;refine (HFK.out _ HBX.out).mono ?_;rintro e w1 ⟨rfl,hl1⟩;have HL1:=hideC hl1;clear hl1)
 go_ret
 exact ⟨rfl,Left.after HBX.out HL1.out⟩
set_option maxHeartbeats 4000000 in
theorem call6 (C : MemC lo mb Hd Ok o) (k : Nat) (w : World) (h : Grp Hd lo mb gb w D vr vo st) (hok : GOk Ok st) (hk : k < st.ps.length) (h1 : (FM.prAt st.ps k).st = 1) :
  Calls Tryz.prog 128 #[.pointer (some ⟨gb,0,none⟩),.int .i64 (k : Int),.int .i64 6] w fun e w'=>e = .returned (.int .i64 (callG o st k 6).1) /\ Left Hd lo mb gb w D vr vo (callG o st k 6).2 w':=by
 have HG:=hideC h
 have HC:=hideC C
 obtain ⟨pb,cap,hvr,hpb,hpc,hpf⟩:=h.proc k hk
 have HPC:=hideC hpc
 have hlv:=live_at k hk h1
 have hfit:=hok.fit k hk
 have HOK:=hideC hok
 have HLV:=hideC hlv
 have HFT:=hideC hfit
 have hn4 : st.ps.length <= 4:=by have:=C.ok.few _ _ hok.mem;unfold running at this;rw [List.length_map] at this;exact this
 have HK1:=hideC hk
 have HH1:=hideC h1
 have HR : Hid (callG o st k 6 = (0,{ st with mem:=o.drop st.mem k })):=rfl
 have HMC:=hideC (fun V (hV : Below w.heap.size w V)=>C.drop V D st.mem _ k (h.below C hV).mem hok.mem (live_at k hk h1))
 obtain ⟨q,hq⟩ : ∃ q,q = FM.prAt st.ps k:=⟨_,rfl⟩
 rw [<- hq] at HPC HFT
 have HQ:=hideC hq
 obtain ⟨n,hn⟩ : ∃ n,n = st.ps.length:=⟨_,rfl⟩
 rw [<- hn] at hvr hk hn4
 subst hvr
 have HN:=hideC hn
 have hki : (k : Int) < (n : Int):=by omega
 have g0 : w.cell? ⟨gb,0,none⟩ = some (.iface 144 (.pointer (some ⟨mb,0,none⟩))):=B.cell HG.out.head 0 rfl
 have g1 : w.cell? ⟨gb,1,none⟩ = some (.slice (some ⟨pb,0,none⟩) n cap):=B.cell HG.out.head 1 rfl
 have hgb:=B.isLt HG.out.head
 have c0 : w.cell? ⟨pb,k * 13,none⟩ = some (.int .i64 (q.r 0)):=HPC.out 0 (by omega)
 have c1 : w.cell? ⟨pb,k * 13 + 1,none⟩ = some (.int .i64 (q.r 1)):=HPC.out 1 (by omega)
 have c2 : w.cell? ⟨pb,k * 13 + 2,none⟩ = some (.int .i64 (q.r 2)):=HPC.out 2 (by omega)
 have c3 : w.cell? ⟨pb,k * 13 + 3,none⟩ = some (.int .i64 (q.r 3)):=HPC.out 3 (by omega)
 have c4 : w.cell? ⟨pb,k * 13 + 4,none⟩ = some (.int .i64 (q.r 4)):=HPC.out 4 (by omega)
 have c5 : w.cell? ⟨pb,k * 13 + 5,none⟩ = some (.int .i64 (q.r 5)):=HPC.out 5 (by omega)
 have c6 : w.cell? ⟨pb,k * 13 + 6,none⟩ = some (.int .i64 (q.r 6)):=HPC.out 6 (by omega)
 have c7 : w.cell? ⟨pb,k * 13 + 7,none⟩ = some (.int .i64 (q.r 7)):=HPC.out 7 (by omega)
 have HBX:=hideC ((Below.refl w.heap.size w).alloc (Nat.le_refl _) (.cells #[.int .i64 (q.r 0),.int .i64 (q.r 1),.int .i64 (q.r 2),.int .i64 (q.r 3),.int .i64 (q.r 4),.int .i64 (q.r 5),.int .i64 (q.r 6),.int .i64 (q.r 7)] 66))
 have BX:=hideC (B.new w #[.int .i64 (q.r 0),.int .i64 (q.r 1),.int .i64 (q.r 2),.int .i64 (q.r 3),.int .i64 (q.r 4),.int .i64 (q.r 5),.int .i64 (q.r 6),.int .i64 (q.r 7)] 66)
 clear hq hn hpc hpf h C HPC hok hlv hfit
 obtain ⟨RR,hRR⟩ : ∃ RR,RR = callG o st k 6:=⟨_,rfl⟩
 rw [<- hRR] at HR ⊢
 clear hRR
 have hm:=methodDrop ⟨mb,0,none⟩
 have ha:=aheadDrop ⟨mb,0,none⟩
 go_enter Tryz.func128,Tryz.ntmps128
 go_wp2_with (go_at_call 190;refine (HMC.out _ HBX.out).mono ?_;rintro e w2 ⟨D2,rfl,hm2,hk2,hd2⟩;have HL2:=hideC (Left.ofTurn HC.out (HG.out.below HC.out HBX.out) hm2 hk2 hd2);clear hm2 hk2 hd2)
 go_ret
 rw [HR.out]
 exact ⟨rfl,Left.after HBX.out HL2.out⟩
set_option maxHeartbeats 4000000 in
theorem call1 (C : MemC lo mb Hd Ok o) (k : Nat) (w : World) (h : Grp Hd lo mb gb w D vr vo st) (hok : GOk Ok st) (hk : k < st.ps.length) (h1 : (FM.prAt st.ps k).st = 1) :
  Calls Tryz.prog 128 #[.pointer (some ⟨gb,0,none⟩),.int .i64 (k : Int),.int .i64 1] w fun e w'=>e = .returned (.int .i64 (callG o st k 1).1) /\ Left Hd lo mb gb w D vr vo (callG o st k 1).2 w':=by
 have HG:=hideC h
 have HC:=hideC C
 obtain ⟨pb,cap,hvr,hpb,hpc,hpf⟩:=h.proc k hk
 have HPC:=hideC hpc
 have hlv:=live_at k hk h1
 have hfit:=hok.fit k hk
 have HOK:=hideC hok
 have HLV:=hideC hlv
 have HFT:=hideC hfit
 have hn4 : st.ps.length <= 4:=by have:=C.ok.few _ _ hok.mem;unfold running at this;rw [List.length_map] at this;exact this
 have HK1:=hideC hk
 have HH1:=hideC h1
 have HR : Hid (callG o st k 1 = (0,{ st with out:=st.out ++ [⟨(k : Int),(FM.prAt st.ps k).r 0⟩] })):=rfl
 obtain ⟨q,hq⟩ : ∃ q,q = FM.prAt st.ps k:=⟨_,rfl⟩
 rw [<- hq] at HPC HFT
 have HQ:=hideC hq
 obtain ⟨n,hn⟩ : ∃ n,n = st.ps.length:=⟨_,rfl⟩
 rw [<- hn] at hvr hk hn4
 subst hvr
 have HN:=hideC hn
 have hki : (k : Int) < (n : Int):=by omega
 have g0 : w.cell? ⟨gb,0,none⟩ = some (.iface 144 (.pointer (some ⟨mb,0,none⟩))):=B.cell HG.out.head 0 rfl
 have g1 : w.cell? ⟨gb,1,none⟩ = some (.slice (some ⟨pb,0,none⟩) n cap):=B.cell HG.out.head 1 rfl
 have hgb:=B.isLt HG.out.head
 have c0 : w.cell? ⟨pb,k * 13,none⟩ = some (.int .i64 (q.r 0)):=HPC.out 0 (by omega)
 have c1 : w.cell? ⟨pb,k * 13 + 1,none⟩ = some (.int .i64 (q.r 1)):=HPC.out 1 (by omega)
 have c2 : w.cell? ⟨pb,k * 13 + 2,none⟩ = some (.int .i64 (q.r 2)):=HPC.out 2 (by omega)
 have c3 : w.cell? ⟨pb,k * 13 + 3,none⟩ = some (.int .i64 (q.r 3)):=HPC.out 3 (by omega)
 have c4 : w.cell? ⟨pb,k * 13 + 4,none⟩ = some (.int .i64 (q.r 4)):=HPC.out 4 (by omega)
 have c5 : w.cell? ⟨pb,k * 13 + 5,none⟩ = some (.int .i64 (q.r 5)):=HPC.out 5 (by omega)
 have c6 : w.cell? ⟨pb,k * 13 + 6,none⟩ = some (.int .i64 (q.r 6)):=HPC.out 6 (by omega)
 have c7 : w.cell? ⟨pb,k * 13 + 7,none⟩ = some (.int .i64 (q.r 7)):=HPC.out 7 (by omega)
 have HBX:=hideC ((Below.refl w.heap.size w).alloc (Nat.le_refl _) (.cells #[.int .i64 (q.r 0),.int .i64 (q.r 1),.int .i64 (q.r 2),.int .i64 (q.r 3),.int .i64 (q.r 4),.int .i64 (q.r 5),.int .i64 (q.r 6),.int .i64 (q.r 7)] 66))
 have BX:=hideC (B.new w #[.int .i64 (q.r 0),.int .i64 (q.r 1),.int .i64 (q.r 2),.int .i64 (q.r 3),.int .i64 (q.r 4),.int .i64 (q.r 5),.int .i64 (q.r 6),.int .i64 (q.r 7)] 66)
 clear hq hn hpc hpf h C HPC hok hlv hfit
 rw [<- HQ.out] at HR
 obtain ⟨RR,hRR⟩ : ∃ RR,RR = callG o st k 1:=⟨_,rfl⟩
 rw [<- hRR] at HR ⊢
 clear hRR
 have ho2:=HOK.out.out
 obtain ⟨no,hno⟩ : ∃ no,no = st.out.length:=⟨_,rfl⟩
 rw [<- hno] at ho2
 have HNO:=hideC hno
 clear hno
 go_enter Tryz.func128,Tryz.ntmps128
 go_wp2_with fail
 obtain ⟨WA,hWA⟩ : ∃ WA,WA = w.alloc (.cells #[.int .i64 (q.r 0),.int .i64 (q.r 1),.int .i64 (q.r 2),.int .i64 (q.r 3),.int .i64 (q.r 4),.int .i64 (q.r 5),.int .i64 (q.r 6),.int .i64 (q.r 7)] 66):=⟨_,rfl⟩
 rw [<- hWA] at HBX BX ⊢
 obtain ⟨rb,hrb⟩ : ∃ rb,rb = w.heap.size:=⟨_,rfl⟩
 rw [<- hrb] at BX ⊢
 have HGA:=hideC (HG.out.below HC.out HBX.out)
 obtain ⟨ao,co,hvo,_,_⟩:=row_form HGA.out.outs
 rw [<- HNO.out] at hvo
 have HVO:=hideC hvo
 have e2 : WA.cell? ⟨gb,2,none⟩ = some vo:=B.cell HGA.out.head 2 rfl
 have e2a : ∀ ob,(WA.alloc ob).cell? ⟨gb,2,none⟩ = some vo:=fun ob=>B.cell (B.alloc HGA.out.head ob) 2 rfl
 have x0 : WA.cell? ⟨rb,0,none⟩ = some (.int .i64 (q.r 0)):=B.cell BX.out 0 rfl
 clear hvo hWA hrb c0 c1 c2 c3 c4 c5 c6 c7 g0 g1
 obtain ⟨i0,hin,hz0,hz1,hz2⟩:=info_parts infoWd
 have HIN:=hideC hin
 have HZ0:=hideC hz0
 have HZ1:=hideC hz1
 have HZ2:=hideC hz2
 have HOW : Hid ((WA.alloc (.cells #[.int .i64 (k : Int),.int .i64 (q.r 0)] 78)).drew.ownsRow lo 78 2 vo no (st.out.flatMap cellWd)):=by
  have:=HGA.out.outs.alloc (.cells #[.int .i64 (k : Int),.int .i64 (q.r 0)] 78)
  rw [<- HNO.out] at this
  exact this
 have HLO : Hid (lo <= (WA.alloc (.cells #[.int .i64 (k : Int),.int .i64 (q.r 0)] 78)).drew.heap.size):=by show lo <= (WA.alloc _).heap.size;rw [World.size_alloc];have:=HGA.out.base;have:=B.isLt HGA.out.head;omega
 have HNW : Hid (0 < 1 -> ∃ ad,some (⟨WA.heap.size,0,none⟩ : Addr) = some ad /\ ∀ j u,([.int .i64 (k : Int),.int .i64 (q.r 0)] : List Value)[j]? = some u -> ((WA.alloc (.cells #[.int .i64 (k : Int),.int .i64 (q.r 0)] 78)).drew).cell? (ad.add j) = some u):=fun _=>⟨_,rfl,B.news (w:=(WA.alloc (.cells #[.int .i64 (k : Int),.int .i64 (q.r 0)] 78)).drew) (B.new WA #[.int .i64 (k : Int),.int .i64 (q.r 0)] 78)⟩
 clear hin hz0 hz1 hz2
 go_region_law (refine step_append_src (P:=Tryz.prog) rfl _ _ 28 rfl lo 78 i0 (.agg #[.int .i64 0,.int .i64 0]) 2 16 Tryz.underlying28 HIN.out HZ0.out HZ1.out HZ2.out rfl (by decide) vo no (st.out.flatMap cellWd) rfl HOW.out (some ⟨WA.heap.size,0,none⟩) 1 1 [.int .i64 (k : Int),.int .i64 (q.r 0)] rfl rfl HNW.out (by intro u hu;simp at hu;rcases hu with rfl | rfl <;> rfl) (by unfold maxLen;omega) (by omega) HLO.out ?_;intro v3 w4 hown hgr hat;obtain ⟨a4,c4,rfl,_⟩:=row_form hown;have HOW4:=hideC hown;have HGR4 : Hid ((WA.alloc _).grownBy w4 _):=⟨hgr.os,hgr.tape,hgr.output,hgr.size,hgr.block⟩;have HAT4:=hideC hat;have hM4:=B.grown (B.alloc HGA.out.head (.cells #[.int .i64 (k : Int),.int .i64 (q.r 0)] 78)) HGR4.out (fun e=>HGA.out.n3 e.symm);have y1 : w4.cell? ⟨gb,2,none⟩ = some vo:=B.cell hM4 2 rfl;have y2 : w4.frozen? ⟨gb,2,none⟩ = false:=B.free hM4 2;clear hown hgr hat hM4)
 all_goals
  go_wp2
  go_ret
  have hp:=HGA.out.pushW HC.out (x:=⟨(k : Int),q.r 0⟩) HGR4.out (by rw [<- HNO.out];exact HOW4.out) HAT4.out
  rw [HR.out]
  exact ⟨rfl,Left.after HBX.out hp⟩
theorem call_any (C : MemC lo mb Hd Ok o) (k : Nat) (c : Int) (w : World) (h : Grp Hd lo mb gb w D vr vo st) (hok : GOk Ok st) (hk : k < st.ps.length) (h1 : (FM.prAt st.ps k).st = 1) (hc : 1 <= c /\ c <= 6) :
  Calls Tryz.prog 128 #[.pointer (some ⟨gb,0,none⟩),.int .i64 (k : Int),.int .i64 c] w fun e w'=>e = .returned (.int .i64 (callG o st k c).1) /\ Left Hd lo mb gb w D vr vo (callG o st k c).2 w':=by
 rcases (show c = 1 ∨ c = 2 ∨ c = 3 ∨ c = 4 ∨ c = 5 ∨ c = 6 by omega) with rfl | rfl | rfl | rfl | rfl | rfl
 · exact call1 C k w h hok hk h1
 · exact call2 C k w h hok hk h1
 · exact call3 C k w h hok hk h1
 · exact call4 C k w h hok hk h1
 · exact call5 C k w h hok hk h1
 · exact call6 C k w h hok hk h1
end GW
namespace PW
open Go.RowKit
theorem hideC {p : Prop} (h : p) : Hid p:=h
set_option maxHeartbeats 400000 in
theorem decode_yes (s : ByteArray) (w : World) (h : s.size = 8) :
  Calls Tryz.prog 124 #[.string s] w fun e w'=>e = .returned (.tuple #[.agg (PM.Ins.cells (PM.ins s)),.int .i64 0]) /\ Below w.heap.size w w':=by
 have hG : ∀ V,Calls Tryz.prog 126 #[.string (s.extract 4 8)] V fun e w'=>e = .returned (.tuple #[.int .i64 (wrap64 (Lib.leNat (s.data.toList.drop 4))),.int .i64 0]) /\ V = w':=fun V=>by
  have h1 : (s.extract 4 8).size = 4:=by simp;omega
  have h2:=CW.get_yes (s.extract 4 8) V (by omega) (by omega)
  rw [PM.extract_data s h] at h2
  exact h2
 have h4:=PM.drop_lt s h
 have hv : PM.Ins.cells (PM.ins s) = #[.int .i64 (PM.at_ s 0),.int .i64 (PM.at_ s 1),.int .i64 (PM.at_ s 2),.int .i64 (PM.at_ s 3),.int .i64 (PM.sign32 ((Lib.leNat (s.data.toList.drop 4) : Nat) : Int))]:=rfl
 have hw32:=PM.wrap32 ((Lib.leNat (s.data.toList.drop 4) : Nat) : Int) (by omega) (by omega)
 have hsr:=PM.sign_range ((Lib.leNat (s.data.toList.drop 4) : Nat) : Int) (by omega) (by omega)
 rw [hv]
 have he : wrap64 ((Lib.leNat (s.data.toList.drop 4) : Nat) : Int) = ((Lib.leNat (s.data.toList.drop 4) : Nat) : Int):=by unfold wrap64;omega
 rw [he] at hG
 obtain ⟨L,hL⟩ : ∃ L : Int,L = ((Lib.leNat (s.data.toList.drop 4) : Nat) : Int):=⟨_,rfl⟩
 rw [<- hL] at hG hw32 hsr
 rw [<- hL]
 obtain ⟨R,hR⟩ : ∃ R : Int,R = PM.sign32 L:=⟨_,rfl⟩
 rw [<- hR] at hw32 hsr
 rw [<- hR]
 have HG:=hideC hG
 have g0:=PM.get_at s 0 (by omega)
 have g1:=PM.get_at s 1 (by omega)
 have g2:=PM.get_at s 2 (by omega)
 have g3:=PM.get_at s 3 (by omega)
 have hr : IntKind.i64.wrap R = R:=IntWalk.i64_in _ (by omega)
 have u0:=PM.at_wrap s 0
 have u1:=PM.at_wrap s 1
 have u2:=PM.at_wrap s 2
 have u3:=PM.at_wrap s 3
 clear hG hL hR hv he h4
 go_enter Tryz.func124,Tryz.ntmps124
 go_wp2_with fail
 refine (HG.out _).mono ?_
 rintro e w1 ⟨rfl,rfl⟩
 go_wp2_with fail
 go_region
 go_wp2
 refine bodyPost_ret (v:=.tuple #[.agg #[.int .i64 (PM.at_ s 0),.int .i64 (PM.at_ s 1),.int .i64 (PM.at_ s 2),.int .i64 (PM.at_ s 3),.int .i64 R],.int .i64 0]) (by simp [results,Tryz.results124,go_sem]) rfl ?_
 exact ⟨rfl,((Below.refl _ _).alloc (Nat.le_refl _) _).drew⟩
def ints (l : List Int) : Array Value:=(l.map fun x=>Value.int .i64 x).toArray
theorem ints_get (l : List Int) (k : Nat) (h : k < l.length) : (ints l)[k]? = some (.int .i64 (l.getD k 0)):=by
 simp [ints,h]
set_option maxHeartbeats 400000 in
theorem areRegs_any (l : List Int) (b : Nat) (w : World) (hl : l.length <= 4) (hx : w.heap[b]? = some (.cells (ints l) 3 (0,0))) :
  Calls Tryz.prog 160 #[.slice (some ⟨b,0,none⟩) l.length l.length] w fun e w'=>e = .returned (.bool (PM.areRegs l)) /\ w = w':=by
 have HX:=hideC hx
 have HN:=hideC (PM.areRegs_no l)
 have HY:=hideC (PM.areRegs_yes l)
 obtain ⟨R,hR⟩ : ∃ R,R = PM.areRegs l:=⟨_,rfl⟩
 rw [<- hR] at HN HY
 rw [<- hR]
 clear hR hx
 go_enter Tryz.func160,Tryz.ntmps160
 go_wp2
 go_loop [7] (fun i=>∃ k : Nat,k <= l.length /\ i = .int .i64 k /\ ∀ j,j < k -> 0 <= l.getD j 0 /\ l.getD j 0 < 8) (fun i=>l.length - (intOf i).toNat)
 case atStart=>exact ⟨0,by omega,rfl,fun j hj=>absurd hj (by omega)⟩
 case round =>
  obtain ⟨k,hk,rfl,hj⟩:=hrel
  have HJ:=hideC hj
  clear hj
  by_cases hlt : k < l.length
  · have hc:=B.cell HX.out k (ints_get l k hlt)
    have HG:=hideC (show l[k]? = some (l.getD k 0) from by simp [hlt])
    have HJ2 : Hid (0 <= l.getD k 0 /\ l.getD k 0 < 8 -> ∀ j,j < k + 1 -> 0 <= l.getD j 0 /\ l.getD j 0 < 8):=fun h j hjj=>by
     rcases Nat.lt_or_ge j k with g | g
     · exact HJ.out j g
     · obtain rfl : j = k:=by omega
       exact h
    obtain ⟨x,hx⟩ : ∃ x,x = l.getD k 0:=⟨_,rfl⟩
    rw [<- hx] at hc HG HJ2
    clear hx
    by_cases h0 : 0 <= x
    · by_cases h1 : x < 8
      · go_wp2
        go_round
        case rel=>exact ⟨k + 1,by omega,by go_num,HJ2.out ⟨h0,h1⟩⟩
        case measure=>simp [intOf];omega
      · obtain rfl:=HN.out k x HG.out (fun h=>h1 h.2)
        go_wp2
        go_ret
        exact ⟨rfl,rfl⟩
    · obtain rfl:=HN.out k x HG.out (fun h=>h0 h.1)
      go_wp2
      go_ret
      exact ⟨rfl,rfl⟩
  · obtain rfl : k = l.length:=by omega
    obtain rfl:=HY.out (fun j x hx=>by
     have hlt2 : j < l.length:=(List.getElem?_eq_some_iff.1 hx).1
     have e : l.getD j 0 = x:=by simp [hx]
     rw [<- e]
     exact HJ.out j hlt2)
    go_wp2
    go_ret
    exact ⟨rfl,rfl⟩
theorem isSize_any (n : Int) (w : World) : Calls Tryz.prog 161 #[.int .i64 n] w fun e w'=>e = .returned (.bool (PM.isSize n)) /\ w = w':=by
 by_cases h1 : n = 1
 · subst h1
   go_enter Tryz.func161,Tryz.ntmps161
   go_wp2
   go_ret
   exact ⟨rfl,rfl⟩
 · by_cases h2 : n = 2
   · subst h2
     go_enter Tryz.func161,Tryz.ntmps161
     go_wp2
     go_ret
     exact ⟨rfl,rfl⟩
   · by_cases h3 : n = 4
     · subst h3
       go_enter Tryz.func161,Tryz.ntmps161
       go_wp2
       go_ret
       exact ⟨rfl,rfl⟩
     · rw [show PM.isSize n = decide (n = 8) from by unfold PM.isSize;simp [h1,h2,h3]]
       go_enter Tryz.func161,Tryz.ntmps161
       go_wp2
       go_ret
       have b1 : (n == 1) = false:=by simpa using h1
       have b2 : (n == 2) = false:=by simpa using h2
       have b3 : (n == 4) = false:=by simpa using h3
       have b4 : (n == 8) = decide (n = 8):=by by_cases h : n = 8 <;> simp [h]
       exact ⟨by simp only [b1,b2,b3,b4,Bool.false_or];rfl,rfl⟩
set_option maxHeartbeats 400000 in
theorem isBad1 (a b c m : Int) (w : World) : Calls Tryz.prog 145 #[.agg #[.int .i64 1,.int .i64 a,.int .i64 b,.int .i64 c,.int .i64 m]] w fun e w'=>e = .returned (.bool (!PM.areRegs [a])) /\ Below w.heap.size w w':=by
 have HA : Hid (∀ V : World,Calls Tryz.prog 160 #[.slice (some ⟨w.heap.size + 1,0,none⟩) 1 1] ((w.alloc (.cells #[.int .i64 1,.int .i64 a,.int .i64 b,.int .i64 c,.int .i64 m] 99)).alloc (.cells (ints [a]) 3)) fun e w'=>e = .returned (.bool (PM.areRegs [a])) /\ ((w.alloc (.cells #[.int .i64 1,.int .i64 a,.int .i64 b,.int .i64 c,.int .i64 m] 99)).alloc (.cells (ints [a]) 3)) = w'):=fun V=>areRegs_any [a] (w.heap.size + 1) _ (by simp) (by have e:=B.new (w.alloc (.cells #[.int .i64 1,.int .i64 a,.int .i64 b,.int .i64 c,.int .i64 m] 99)) (ints [a]) 3;rw [World.size_alloc] at e;exact e)
 obtain ⟨R,hR⟩ : ∃ R,R = PM.areRegs [a]:=⟨_,rfl⟩
 rw [<- hR] at HA
 rw [<- hR]
 clear hR
 go_enter Tryz.func145,Tryz.ntmps145
 go_wp2_with fail
 refine (HA.out w).mono ?_
 rintro e w' ⟨rfl,rfl⟩
 go_wp2
 go_ret
 exact ⟨by simp,((Below.refl _ _).alloc (Nat.le_refl _) _).alloc (by simp) _⟩
set_option maxHeartbeats 400000 in
theorem isBad2 (a b c m : Int) (w : World) : Calls Tryz.prog 145 #[.agg #[.int .i64 2,.int .i64 a,.int .i64 b,.int .i64 c,.int .i64 m]] w fun e w'=>e = .returned (.bool (!PM.areRegs [a,b,c])) /\ Below w.heap.size w w':=by
 have HA : Hid (∀ V : World,Calls Tryz.prog 160 #[.slice (some ⟨w.heap.size + 1,0,none⟩) 3 3] ((w.alloc (.cells #[.int .i64 2,.int .i64 a,.int .i64 b,.int .i64 c,.int .i64 m] 99)).alloc (.cells (ints [a,b,c]) 3)) fun e w'=>e = .returned (.bool (PM.areRegs [a,b,c])) /\ ((w.alloc (.cells #[.int .i64 2,.int .i64 a,.int .i64 b,.int .i64 c,.int .i64 m] 99)).alloc (.cells (ints [a,b,c]) 3)) = w'):=fun V=>areRegs_any [a,b,c] (w.heap.size + 1) _ (by simp) (by have e:=B.new (w.alloc (.cells #[.int .i64 2,.int .i64 a,.int .i64 b,.int .i64 c,.int .i64 m] 99)) (ints [a,b,c]) 3;rw [World.size_alloc] at e;exact e)
 obtain ⟨R,hR⟩ : ∃ R,R = PM.areRegs [a,b,c]:=⟨_,rfl⟩
 rw [<- hR] at HA
 rw [<- hR]
 clear hR
 go_enter Tryz.func145,Tryz.ntmps145
 go_wp2_with fail
 refine (HA.out w).mono ?_
 rintro e w' ⟨rfl,rfl⟩
 go_wp2
 go_ret
 exact ⟨by simp,((Below.refl _ _).alloc (Nat.le_refl _) _).alloc (by simp) _⟩
set_option maxHeartbeats 400000 in
theorem isBad3 (a b c m : Int) (w : World) : Calls Tryz.prog 145 #[.agg #[.int .i64 3,.int .i64 a,.int .i64 b,.int .i64 c,.int .i64 m]] w fun e w'=>e = .returned (.bool (!PM.areRegs [a,b,c])) /\ Below w.heap.size w w':=by
 have HA : Hid (∀ V : World,Calls Tryz.prog 160 #[.slice (some ⟨w.heap.size + 1,0,none⟩) 3 3] ((w.alloc (.cells #[.int .i64 3,.int .i64 a,.int .i64 b,.int .i64 c,.int .i64 m] 99)).alloc (.cells (ints [a,b,c]) 3)) fun e w'=>e = .returned (.bool (PM.areRegs [a,b,c])) /\ ((w.alloc (.cells #[.int .i64 3,.int .i64 a,.int .i64 b,.int .i64 c,.int .i64 m] 99)).alloc (.cells (ints [a,b,c]) 3)) = w'):=fun V=>areRegs_any [a,b,c] (w.heap.size + 1) _ (by simp) (by have e:=B.new (w.alloc (.cells #[.int .i64 3,.int .i64 a,.int .i64 b,.int .i64 c,.int .i64 m] 99)) (ints [a,b,c]) 3;rw [World.size_alloc] at e;exact e)
 obtain ⟨R,hR⟩ : ∃ R,R = PM.areRegs [a,b,c]:=⟨_,rfl⟩
 rw [<- hR] at HA
 rw [<- hR]
 clear hR
 go_enter Tryz.func145,Tryz.ntmps145
 go_wp2_with fail
 refine (HA.out w).mono ?_
 rintro e w' ⟨rfl,rfl⟩
 go_wp2
 go_ret
 exact ⟨by simp,((Below.refl _ _).alloc (Nat.le_refl _) _).alloc (by simp) _⟩
set_option maxHeartbeats 400000 in
theorem isBad4 (a b c m : Int) (w : World) : Calls Tryz.prog 145 #[.agg #[.int .i64 4,.int .i64 a,.int .i64 b,.int .i64 c,.int .i64 m]] w fun e w'=>e = .returned (.bool (!PM.areRegs [a,b,c])) /\ Below w.heap.size w w':=by
 have HA : Hid (∀ V : World,Calls Tryz.prog 160 #[.slice (some ⟨w.heap.size + 1,0,none⟩) 3 3] ((w.alloc (.cells #[.int .i64 4,.int .i64 a,.int .i64 b,.int .i64 c,.int .i64 m] 99)).alloc (.cells (ints [a,b,c]) 3)) fun e w'=>e = .returned (.bool (PM.areRegs [a,b,c])) /\ ((w.alloc (.cells #[.int .i64 4,.int .i64 a,.int .i64 b,.int .i64 c,.int .i64 m] 99)).alloc (.cells (ints [a,b,c]) 3)) = w'):=fun V=>areRegs_any [a,b,c] (w.heap.size + 1) _ (by simp) (by have e:=B.new (w.alloc (.cells #[.int .i64 4,.int .i64 a,.int .i64 b,.int .i64 c,.int .i64 m] 99)) (ints [a,b,c]) 3;rw [World.size_alloc] at e;exact e)
 obtain ⟨R,hR⟩ : ∃ R,R = PM.areRegs [a,b,c]:=⟨_,rfl⟩
 rw [<- hR] at HA
 rw [<- hR]
 clear hR
 go_enter Tryz.func145,Tryz.ntmps145
 go_wp2_with fail
 refine (HA.out w).mono ?_
 rintro e w' ⟨rfl,rfl⟩
 go_wp2
 go_ret
 exact ⟨by simp,((Below.refl _ _).alloc (Nat.le_refl _) _).alloc (by simp) _⟩
set_option maxHeartbeats 400000 in
theorem isBad5 (a b c m : Int) (w : World) : Calls Tryz.prog 145 #[.agg #[.int .i64 5,.int .i64 a,.int .i64 b,.int .i64 c,.int .i64 m]] w fun e w'=>e = .returned (.bool (!PM.areRegs [a,b,c])) /\ Below w.heap.size w w':=by
 have HA : Hid (∀ V : World,Calls Tryz.prog 160 #[.slice (some ⟨w.heap.size + 1,0,none⟩) 3 3] ((w.alloc (.cells #[.int .i64 5,.int .i64 a,.int .i64 b,.int .i64 c,.int .i64 m] 99)).alloc (.cells (ints [a,b,c]) 3)) fun e w'=>e = .returned (.bool (PM.areRegs [a,b,c])) /\ ((w.alloc (.cells #[.int .i64 5,.int .i64 a,.int .i64 b,.int .i64 c,.int .i64 m] 99)).alloc (.cells (ints [a,b,c]) 3)) = w'):=fun V=>areRegs_any [a,b,c] (w.heap.size + 1) _ (by simp) (by have e:=B.new (w.alloc (.cells #[.int .i64 5,.int .i64 a,.int .i64 b,.int .i64 c,.int .i64 m] 99)) (ints [a,b,c]) 3;rw [World.size_alloc] at e;exact e)
 obtain ⟨R,hR⟩ : ∃ R,R = PM.areRegs [a,b,c]:=⟨_,rfl⟩
 rw [<- hR] at HA
 rw [<- hR]
 clear hR
 go_enter Tryz.func145,Tryz.ntmps145
 go_wp2_with fail
 refine (HA.out w).mono ?_
 rintro e w' ⟨rfl,rfl⟩
 go_wp2
 go_ret
 exact ⟨by simp,((Below.refl _ _).alloc (Nat.le_refl _) _).alloc (by simp) _⟩
set_option maxHeartbeats 400000 in
theorem isBad6 (a b c m : Int) (w : World) : Calls Tryz.prog 145 #[.agg #[.int .i64 6,.int .i64 a,.int .i64 b,.int .i64 c,.int .i64 m]] w fun e w'=>e = .returned (.bool (!PM.areRegs [a,b,c])) /\ Below w.heap.size w w':=by
 have HA : Hid (∀ V : World,Calls Tryz.prog 160 #[.slice (some ⟨w.heap.size + 1,0,none⟩) 3 3] ((w.alloc (.cells #[.int .i64 6,.int .i64 a,.int .i64 b,.int .i64 c,.int .i64 m] 99)).alloc (.cells (ints [a,b,c]) 3)) fun e w'=>e = .returned (.bool (PM.areRegs [a,b,c])) /\ ((w.alloc (.cells #[.int .i64 6,.int .i64 a,.int .i64 b,.int .i64 c,.int .i64 m] 99)).alloc (.cells (ints [a,b,c]) 3)) = w'):=fun V=>areRegs_any [a,b,c] (w.heap.size + 1) _ (by simp) (by have e:=B.new (w.alloc (.cells #[.int .i64 6,.int .i64 a,.int .i64 b,.int .i64 c,.int .i64 m] 99)) (ints [a,b,c]) 3;rw [World.size_alloc] at e;exact e)
 obtain ⟨R,hR⟩ : ∃ R,R = PM.areRegs [a,b,c]:=⟨_,rfl⟩
 rw [<- hR] at HA
 rw [<- hR]
 clear hR
 go_enter Tryz.func145,Tryz.ntmps145
 go_wp2_with fail
 refine (HA.out w).mono ?_
 rintro e w' ⟨rfl,rfl⟩
 go_wp2
 go_ret
 exact ⟨by simp,((Below.refl _ _).alloc (Nat.le_refl _) _).alloc (by simp) _⟩
set_option maxHeartbeats 400000 in
theorem isBad7 (a b c m : Int) (w : World) : Calls Tryz.prog 145 #[.agg #[.int .i64 7,.int .i64 a,.int .i64 b,.int .i64 c,.int .i64 m]] w fun e w'=>e = .returned (.bool (!PM.areRegs [a,b,c])) /\ Below w.heap.size w w':=by
 have HA : Hid (∀ V : World,Calls Tryz.prog 160 #[.slice (some ⟨w.heap.size + 1,0,none⟩) 3 3] ((w.alloc (.cells #[.int .i64 7,.int .i64 a,.int .i64 b,.int .i64 c,.int .i64 m] 99)).alloc (.cells (ints [a,b,c]) 3)) fun e w'=>e = .returned (.bool (PM.areRegs [a,b,c])) /\ ((w.alloc (.cells #[.int .i64 7,.int .i64 a,.int .i64 b,.int .i64 c,.int .i64 m] 99)).alloc (.cells (ints [a,b,c]) 3)) = w'):=fun V=>areRegs_any [a,b,c] (w.heap.size + 1) _ (by simp) (by have e:=B.new (w.alloc (.cells #[.int .i64 7,.int .i64 a,.int .i64 b,.int .i64 c,.int .i64 m] 99)) (ints [a,b,c]) 3;rw [World.size_alloc] at e;exact e)
 obtain ⟨R,hR⟩ : ∃ R,R = PM.areRegs [a,b,c]:=⟨_,rfl⟩
 rw [<- hR] at HA
 rw [<- hR]
 clear hR
 go_enter Tryz.func145,Tryz.ntmps145
 go_wp2_with fail
 refine (HA.out w).mono ?_
 rintro e w' ⟨rfl,rfl⟩
 go_wp2
 go_ret
 exact ⟨by simp,((Below.refl _ _).alloc (Nat.le_refl _) _).alloc (by simp) _⟩
set_option maxHeartbeats 400000 in
theorem isBad8 (a b c m : Int) (w : World) : Calls Tryz.prog 145 #[.agg #[.int .i64 8,.int .i64 a,.int .i64 b,.int .i64 c,.int .i64 m]] w fun e w'=>e = .returned (.bool (!PM.areRegs [a,b])) /\ Below w.heap.size w w':=by
 have HA : Hid (∀ V : World,Calls Tryz.prog 160 #[.slice (some ⟨w.heap.size + 1,0,none⟩) 2 2] ((w.alloc (.cells #[.int .i64 8,.int .i64 a,.int .i64 b,.int .i64 c,.int .i64 m] 99)).alloc (.cells (ints [a,b]) 3)) fun e w'=>e = .returned (.bool (PM.areRegs [a,b])) /\ ((w.alloc (.cells #[.int .i64 8,.int .i64 a,.int .i64 b,.int .i64 c,.int .i64 m] 99)).alloc (.cells (ints [a,b]) 3)) = w'):=fun V=>areRegs_any [a,b] (w.heap.size + 1) _ (by simp) (by have e:=B.new (w.alloc (.cells #[.int .i64 8,.int .i64 a,.int .i64 b,.int .i64 c,.int .i64 m] 99)) (ints [a,b]) 3;rw [World.size_alloc] at e;exact e)
 obtain ⟨R,hR⟩ : ∃ R,R = PM.areRegs [a,b]:=⟨_,rfl⟩
 rw [<- hR] at HA
 rw [<- hR]
 clear hR
 go_enter Tryz.func145,Tryz.ntmps145
 go_wp2_with fail
 refine (HA.out w).mono ?_
 rintro e w' ⟨rfl,rfl⟩
 go_wp2
 go_ret
 exact ⟨by simp,((Below.refl _ _).alloc (Nat.le_refl _) _).alloc (by simp) _⟩
set_option maxHeartbeats 400000 in
theorem isBad11 (a b c m : Int) (w : World) : Calls Tryz.prog 145 #[.agg #[.int .i64 11,.int .i64 a,.int .i64 b,.int .i64 c,.int .i64 m]] w fun e w'=>e = .returned (.bool (!PM.areRegs [a])) /\ Below w.heap.size w w':=by
 have HA : Hid (∀ V : World,Calls Tryz.prog 160 #[.slice (some ⟨w.heap.size + 1,0,none⟩) 1 1] ((w.alloc (.cells #[.int .i64 11,.int .i64 a,.int .i64 b,.int .i64 c,.int .i64 m] 99)).alloc (.cells (ints [a]) 3)) fun e w'=>e = .returned (.bool (PM.areRegs [a])) /\ ((w.alloc (.cells #[.int .i64 11,.int .i64 a,.int .i64 b,.int .i64 c,.int .i64 m] 99)).alloc (.cells (ints [a]) 3)) = w'):=fun V=>areRegs_any [a] (w.heap.size + 1) _ (by simp) (by have e:=B.new (w.alloc (.cells #[.int .i64 11,.int .i64 a,.int .i64 b,.int .i64 c,.int .i64 m] 99)) (ints [a]) 3;rw [World.size_alloc] at e;exact e)
 obtain ⟨R,hR⟩ : ∃ R,R = PM.areRegs [a]:=⟨_,rfl⟩
 rw [<- hR] at HA
 rw [<- hR]
 clear hR
 go_enter Tryz.func145,Tryz.ntmps145
 go_wp2_with fail
 refine (HA.out w).mono ?_
 rintro e w' ⟨rfl,rfl⟩
 go_wp2
 go_ret
 exact ⟨by simp,((Below.refl _ _).alloc (Nat.le_refl _) _).alloc (by simp) _⟩
set_option maxHeartbeats 400000 in
theorem isBad13 (a b c m : Int) (w : World) : Calls Tryz.prog 145 #[.agg #[.int .i64 13,.int .i64 a,.int .i64 b,.int .i64 c,.int .i64 m]] w fun e w'=>e = .returned (.bool (!PM.areRegs [a,b])) /\ Below w.heap.size w w':=by
 have HA : Hid (∀ V : World,Calls Tryz.prog 160 #[.slice (some ⟨w.heap.size + 1,0,none⟩) 2 2] ((w.alloc (.cells #[.int .i64 13,.int .i64 a,.int .i64 b,.int .i64 c,.int .i64 m] 99)).alloc (.cells (ints [a,b]) 3)) fun e w'=>e = .returned (.bool (PM.areRegs [a,b])) /\ ((w.alloc (.cells #[.int .i64 13,.int .i64 a,.int .i64 b,.int .i64 c,.int .i64 m] 99)).alloc (.cells (ints [a,b]) 3)) = w'):=fun V=>areRegs_any [a,b] (w.heap.size + 1) _ (by simp) (by have e:=B.new (w.alloc (.cells #[.int .i64 13,.int .i64 a,.int .i64 b,.int .i64 c,.int .i64 m] 99)) (ints [a,b]) 3;rw [World.size_alloc] at e;exact e)
 obtain ⟨R,hR⟩ : ∃ R,R = PM.areRegs [a,b]:=⟨_,rfl⟩
 rw [<- hR] at HA
 rw [<- hR]
 clear hR
 go_enter Tryz.func145,Tryz.ntmps145
 go_wp2_with fail
 refine (HA.out w).mono ?_
 rintro e w' ⟨rfl,rfl⟩
 go_wp2
 go_ret
 exact ⟨by simp,((Below.refl _ _).alloc (Nat.le_refl _) _).alloc (by simp) _⟩
set_option maxHeartbeats 400000 in
theorem isBad14 (a b c m : Int) (w : World) : Calls Tryz.prog 145 #[.agg #[.int .i64 14,.int .i64 a,.int .i64 b,.int .i64 c,.int .i64 m]] w fun e w'=>e = .returned (.bool (!PM.areRegs [a,b])) /\ Below w.heap.size w w':=by
 have HA : Hid (∀ V : World,Calls Tryz.prog 160 #[.slice (some ⟨w.heap.size + 1,0,none⟩) 2 2] ((w.alloc (.cells #[.int .i64 14,.int .i64 a,.int .i64 b,.int .i64 c,.int .i64 m] 99)).alloc (.cells (ints [a,b]) 3)) fun e w'=>e = .returned (.bool (PM.areRegs [a,b])) /\ ((w.alloc (.cells #[.int .i64 14,.int .i64 a,.int .i64 b,.int .i64 c,.int .i64 m] 99)).alloc (.cells (ints [a,b]) 3)) = w'):=fun V=>areRegs_any [a,b] (w.heap.size + 1) _ (by simp) (by have e:=B.new (w.alloc (.cells #[.int .i64 14,.int .i64 a,.int .i64 b,.int .i64 c,.int .i64 m] 99)) (ints [a,b]) 3;rw [World.size_alloc] at e;exact e)
 obtain ⟨R,hR⟩ : ∃ R,R = PM.areRegs [a,b]:=⟨_,rfl⟩
 rw [<- hR] at HA
 rw [<- hR]
 clear hR
 go_enter Tryz.func145,Tryz.ntmps145
 go_wp2_with fail
 refine (HA.out w).mono ?_
 rintro e w' ⟨rfl,rfl⟩
 go_wp2
 go_ret
 exact ⟨by simp,((Below.refl _ _).alloc (Nat.le_refl _) _).alloc (by simp) _⟩
set_option maxHeartbeats 400000 in
theorem isBad15 (a b c m : Int) (w : World) : Calls Tryz.prog 145 #[.agg #[.int .i64 15,.int .i64 a,.int .i64 b,.int .i64 c,.int .i64 m]] w fun e w'=>e = .returned (.bool (!PM.areRegs [a])) /\ Below w.heap.size w w':=by
 have HA : Hid (∀ V : World,Calls Tryz.prog 160 #[.slice (some ⟨w.heap.size + 1,0,none⟩) 1 1] ((w.alloc (.cells #[.int .i64 15,.int .i64 a,.int .i64 b,.int .i64 c,.int .i64 m] 99)).alloc (.cells (ints [a]) 3)) fun e w'=>e = .returned (.bool (PM.areRegs [a])) /\ ((w.alloc (.cells #[.int .i64 15,.int .i64 a,.int .i64 b,.int .i64 c,.int .i64 m] 99)).alloc (.cells (ints [a]) 3)) = w'):=fun V=>areRegs_any [a] (w.heap.size + 1) _ (by simp) (by have e:=B.new (w.alloc (.cells #[.int .i64 15,.int .i64 a,.int .i64 b,.int .i64 c,.int .i64 m] 99)) (ints [a]) 3;rw [World.size_alloc] at e;exact e)
 obtain ⟨R,hR⟩ : ∃ R,R = PM.areRegs [a]:=⟨_,rfl⟩
 rw [<- hR] at HA
 rw [<- hR]
 clear hR
 go_enter Tryz.func145,Tryz.ntmps145
 go_wp2_with fail
 refine (HA.out w).mono ?_
 rintro e w' ⟨rfl,rfl⟩
 go_wp2
 go_ret
 exact ⟨by simp,((Below.refl _ _).alloc (Nat.le_refl _) _).alloc (by simp) _⟩
end PW
end Go.Proofs.YtkdigjpejnebkaaGreat
