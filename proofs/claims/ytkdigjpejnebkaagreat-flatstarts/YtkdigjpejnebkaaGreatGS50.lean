import Derived.Test.YtkdigjpejnebkaaGreatGS49
import Derived.Test.YtkdigjpejnebkaaGreatGS39
import Derived.Deep.RegionLaw
import Derived.Deep.RegionHeld3
import Derived.Deep.DeepCutAuto
set_option linter.unusedVariables false
set_option maxRecDepth 100000
set_option linter.unusedSimpArgs false
namespace Go.Proofs.YtkdigjpejnebkaaGreat
namespace GH
open Go.RowKit GK
open GW (cellPr cellWd cellPr_len cellWd_len)
open FW (hideC add_below)
open GF (blk)
theorem HasN.below {w w' : World} {ao : Option Addr} {l : List Int} (h : GW.HasN w ao l) (hb : Below w.heap.size w w') : GW.HasN w' ao l:=fun hl=>by
 obtain ⟨b,off,e,hlt,hc⟩:=h hl
 exact ⟨b,off,e,Nat.lt_of_lt_of_le hlt hb.size,fun i hi=>(hb.cell (p:=⟨b,off + i,none⟩) hlt).trans (hc i hi)⟩
theorem run_some (st : GG.St GM.Mf) (picks : List Int) (h : (GG.runG GM.flatOps st picks).1 = 0) : ∃ s,(GG.runG GM.flatOps st picks).2 = some s:=by
 unfold GG.runG at h ⊢
 by_cases c : 2000 < picks.length
 · rw [if_pos c] at h;cases h
 · rw [if_neg c] at h ⊢
   cases e : GG.runTo GM.flatOps picks picks.length (some st) with
   | none=>rw [e] at h;cases h
   | some s=>exact ⟨s,rfl⟩
set_option maxHeartbeats 1000000 in
theorem run1_any {f : FM.Fl} {lo mb gb : Nat} {D : Nat -> Prop} {vr vo : Value} (picks : List Int) (ap : Option Addr) (cp q : Nat) (V : World) (hk : FM.checkF f = 0) (hp : FitPs f.procs) (hg : GW.Grp (GF.HdF lo mb) lo mb gb V D vr vo (ofFl f)) (hq : V.cell? ⟨q,0,none⟩ = some (.slice ap picks.length cp)) (hn : GW.HasN V ap picks) (hps : ∀ b,ap = some b -> b.block < lo) (hpl : picks.length <= 140737488351232) :
  Calls Tryz.prog 58 #[.pointer (some ⟨gb,0,none⟩),.pointer (some ⟨q,0,none⟩)] V (GW.OutRun (GF.HdF lo mb) lo mb gb V D vr vo (GG.runG GM.flatOps (ofFl f) picks)):=by
 have HS:=hideC (GW.run_any (GF.memC lo mb) picks ap cp V hg (gok_of hk hp) hn (fun b e g=>by have:=(hg.lt (GF.memC lo mb) _ g).1;have:=hps b e;omega) hpl)
 obtain ⟨X,hX⟩ : ∃ X,X = GG.runG GM.flatOps (ofFl f) picks:=⟨_,rfl⟩
 rw [<- hX] at HS ⊢
 obtain ⟨P,hP⟩ : ∃ P,P = GW.OutRun (GF.HdF lo mb) lo mb gb V D vr vo X:=⟨_,rfl⟩
 have HP : Hid (∀ w',(Kp (GW.grpD gb D vr vo) V w' /\ ∀ s,X.2 = some s -> GW.Left (GF.HdF lo mb) lo mb gb V D vr vo s w') -> P (.returned (.int .i64 X.1)) w'):=fun w' h=>by
  rw [hP]
  exact ⟨rfl,h.1,h.2⟩
 rw [<- hP]
 obtain ⟨X1,hX1⟩ : ∃ X1,X1 = X.1:=⟨_,rfl⟩
 have HS2 : Hid (Calls Tryz.prog 59 #[.pointer (some ⟨gb,0,none⟩),.slice ap picks.length cp] V fun e w'=>e = .returned (.int .i64 X1) /\ Kp (GW.grpD gb D vr vo) V w' /\ ∀ s,X.2 = some s -> GW.Left (GF.HdF lo mb) lo mb gb V D vr vo s w'):=by rw [hX1];exact HS.out
 rw [<- hX1] at HP
 clear hX hP hg HS hX1 hn hps
 go_enter Tryz.func58,Tryz.ntmps58
 go_wp2_with (go_at_call 59;refine HS2.out.mono ?_;rintro e w1 ⟨rfl,hl⟩;have HL:=hideC hl;clear hl)
 exact HP.out _ HL.out
set_option maxHeartbeats 4000000 in
theorem run_any (f : FM.Fl) (picks : List Int) (ap : Option Addr) (cp : Nat) (az ar ao : Option Addr) (cs cr co : Nat) (w : World) (h : FW.HasFl w f az ar ao) (hf : FW.FitFl f) (hp : FitPs f.procs) (hn : GW.HasN w ap picks) (hps : ∀ b,ap = some b -> b.block < w.heap.size) (hpl : picks.length <= 140737488351232) :
  Calls Tryz.prog 17 #[.agg (FW.flCells f az ar ao cs cr co),.slice ap picks.length cp] w (OutFl w (runF f picks)):=by
 obtain ⟨r,hr⟩ : ∃ r,r = runF f picks:=⟨_,rfl⟩
 have HCH : Hid (∀ V q,Below w.heap.size w V -> V.cell? ⟨q,0,none⟩ = some (.slice ap picks.length cp) -> Calls Tryz.prog 44 #[.agg (FW.flCells f az ar ao cs cr co),.func (.func 58) #[] #[.pointer (some ⟨q,0,none⟩)]] V fun e w'=>∃ s0 a1 s1 c1 a2 s2 c2 a3 s3 c3 er,e = .returned (.tuple #[.agg #[.int .i64 s0,.slice a1 s1 c1,.slice a2 s2 c2,.slice a3 s3 c3],.int .i64 er]) /\ Below V.heap.size V w' /\ ∀ U,Kp (fun b=>b < V.heap.size) w' U -> Below w.heap.size w U -> OutFl w r (.returned (.tuple #[.agg #[.int .i64 s0,.slice a1 s1 c1,.slice a2 s2 c2,.slice a3 s3 c3],.int .i64 er])) U):=fun V q hV hq=>by
  rw [hr]
  refine (changedR_any f (GG.runG GM.flatOps (ofFl f) picks) q az ar ao cs cr co V (h.below hV) hf (run_some _ _) (fun hk U lo mb gb D vr vo hU hlo hg=>run1_any picks ap cp q U hk hp hg ((hU.cell (p:=⟨q,0,none⟩) (World.block_lt_of_cell? _ _ hq)).trans hq) (HasN.below (HasN.below hn hV) hU) (fun b e=>Nat.lt_of_lt_of_le (hps b e) (Nat.le_trans hV.size hlo)) hpl)).mono ?_
  rintro e w' ⟨a1,c1,a2,c2,a3,c3,rfl,h1,h2⟩
  exact ⟨_,a1,_,c1,a2,_,c2,a3,_,c3,_,rfl,h2,fun U hU hb=>⟨a1,c1,a2,c2,a3,c3,rfl,fun V2 h3=>h1 _ (hU.trans h3 (fun b _ g=>Nat.lt_of_lt_of_le g hV.size)),hb⟩⟩
 rw [<- hr]
 obtain ⟨P,hP⟩ : ∃ P,P = OutFl w r:=⟨_,rfl⟩
 rw [<- hP] at HCH ⊢
 clear h hf hp hr hP hn hps
 unfold FW.flCells at HCH ⊢
 obtain ⟨ns,hns⟩ : ∃ ns,ns = f.spaces.length:=⟨_,rfl⟩
 obtain ⟨np,hnp⟩ : ∃ np,np = f.procs.length:=⟨_,rfl⟩
 obtain ⟨no,hno⟩ : ∃ no,no = f.out.length:=⟨_,rfl⟩
 obtain ⟨sl,hsl⟩ : ∃ sl,sl = f.slots:=⟨_,rfl⟩
 rw [<- hns,<- hnp,<- hno,<- hsl] at HCH ⊢
 clear hns hnp hno hsl
 obtain ⟨pl,hpe⟩ : ∃ pl,pl = picks.length:=⟨_,rfl⟩
 rw [<- hpe] at HCH ⊢
 clear hpe hpl
 obtain ⟨WQ,hWQ⟩ : ∃ WQ,WQ = (w.alloc (.cells #[.int .i64 sl,.slice az ns cs,.slice ar np cr,.slice ao no co] 30)).alloc (.cells #[.slice ap pl cp] 44):=⟨_,rfl⟩
 have hwq : WQ.heap.size = w.heap.size + 1 + 1:=by rw [hWQ];simp
 have BQ : WQ.heap[w.heap.size + 1]? = some (.cells #[.slice ap pl cp] 44 (0,0)):=by
  rw [hWQ]
  have:=B.new (w.alloc (.cells #[.int .i64 sl,.slice az ns cs,.slice ar np cr,.slice ao no co] 30)) #[.slice ap pl cp] 44
  simpa using this
 have HBQ : Below w.heap.size w WQ:=by rw [hWQ];exact ((Below.refl w.heap.size w).alloc (Nat.le_refl _) _).alloc (by simp) _
 have HBX:=hideC (HBQ.alloc HBQ.size (.cells #[.int .i64 0,.slice none 0 0,.slice none 0 0,.slice none 0 0] 30))
 have hq : (WQ.alloc (.cells #[.int .i64 0,.slice none 0 0,.slice none 0 0,.slice none 0 0] 30)).cell? ⟨w.heap.size + 1,0,none⟩ = some (.slice ap pl cp):=B.cell (B.alloc BQ _) 0 rfl
 have BZ:=B.new WQ #[.int .i64 0,.slice none 0 0,.slice none 0 0,.slice none 0 0] 30
 rw [hwq] at BZ
 obtain ⟨WA,hWA⟩ : ∃ WA,WA = WQ.alloc (.cells #[.int .i64 0,.slice none 0 0,.slice none 0 0,.slice none 0 0] 30):=⟨_,rfl⟩
 rw [<- hWA] at HBX hq BZ
 have HCH2:=hideC (HCH.out WA (w.heap.size + 1) HBX.out hq)
 have HZB:=hideC BZ
 rw [hWQ] at hWA
 rw [hWA] at HCH2
 have HWA:=hideC hWA
 clear hWA hWQ hwq BQ HBQ hq BZ HCH
 go_enter Tryz.func17,Tryz.ntmps17
 go_wp2_with (go_at_call 44;refine HCH2.out.mono ?_;rintro e w1 ⟨s0,a1,s1,c1,a2,s2,c2,a3,s3,c3,er,rfl,hb,ho⟩;rw [<- HWA.out] at hb ho;have HB1:=hideC hb;have HO1:=hideC ho;have hz1:=B.below HZB.out hb (B.isLt HZB.out);have z0 : w1.cell? ⟨w.heap.size + 1 + 1,0,none⟩ = some (.int .i64 0):=B.cell hz1 0 rfl;have z1 : w1.cell? ⟨w.heap.size + 1 + 1,1,none⟩ = some (.slice none 0 0):=B.cell hz1 1 rfl;have z2 : w1.cell? ⟨w.heap.size + 1 + 1,2,none⟩ = some (.slice none 0 0):=B.cell hz1 2 rfl;have z3 : w1.cell? ⟨w.heap.size + 1 + 1,3,none⟩ = some (.slice none 0 0):=B.cell hz1 3 rfl;have f0:=B.free hz1 0;have f1:=B.free hz1 1;have f2:=B.free hz1 2;have f3:=B.free hz1 3;clear hb ho hz1)
 refine bodyPost_ret (v:=.tuple #[.agg #[.int .i64 s0,.slice a1 s1 c1,.slice a2 s2 c2,.slice a3 s3 c3],.int .i64 er]) (by simp [results,Tryz.results17,go_sem,z0,z1,z2,z3]) rfl ?_
 have hk4:=kp_set4 w1 (w.heap.size + 1 + 1) (.int .i64 s0) (.slice a1 s1 c1) (.slice a2 s2 c2) (.slice a3 s3 c3)
 have hzl:=B.isLt HZB.out
 exact HO1.out _ (hk4.mono (fun b _ e=>by rw [e];exact hzl)) (Kp.below (HBX.out.trans (HB1.out.mono HBX.out.size)) hk4 (Nat.le_trans HBX.out.size HB1.out.size) (fun b e=>by omega))
end GH
namespace GB
open Go.RowKit GK
open FW (hideC add_below)
set_option maxHeartbeats 1000000 in
theorem rounds_any (w : World) : Calls Tryz.prog 32 #[] w fun e w'=>(∃ pb,e = .returned (.slice (some ⟨pb,0,none⟩) 14 14) /\ GW.HasN w' (some ⟨pb,0,none⟩) picks /\ pb < w'.heap.size) /\ Below w.heap.size w w':=by
 have HN : Hid (∀ (V : World),V.heap[w.heap.size]? = some (.cells #[.int .i64 0,.int .i64 1,.int .i64 0,.int .i64 1,.int .i64 0,.int .i64 1,.int .i64 0,.int .i64 1,.int .i64 0,.int .i64 1,.int .i64 0,.int .i64 1,.int .i64 0,.int .i64 1] 3 (0,0)) -> GW.HasN V (some ⟨w.heap.size,0,none⟩) picks):=fun V h _=>by
  refine ⟨w.heap.size,0,rfl,B.isLt h,fun i hi=>?_⟩
  match i,hi with
  | 0,_=>exact B.cell h 0 rfl
  | 1,_=>exact B.cell h 1 rfl
  | 2,_=>exact B.cell h 2 rfl
  | 3,_=>exact B.cell h 3 rfl
  | 4,_=>exact B.cell h 4 rfl
  | 5,_=>exact B.cell h 5 rfl
  | 6,_=>exact B.cell h 6 rfl
  | 7,_=>exact B.cell h 7 rfl
  | 8,_=>exact B.cell h 8 rfl
  | 9,_=>exact B.cell h 9 rfl
  | 10,_=>exact B.cell h 10 rfl
  | 11,_=>exact B.cell h 11 rfl
  | 12,_=>exact B.cell h 12 rfl
  | 13,_=>exact B.cell h 13 rfl
  | k + 14,h=>exact absurd h (by show ¬ k + 14 < 14;omega)
 have HB:=hideC ((Below.refl w.heap.size w).alloc (Nat.le_refl _) (.cells #[.int .i64 0,.int .i64 1,.int .i64 0,.int .i64 1,.int .i64 0,.int .i64 1,.int .i64 0,.int .i64 1,.int .i64 0,.int .i64 1,.int .i64 0,.int .i64 1,.int .i64 0,.int .i64 1] 3))
 have HX:=hideC (HN.out _ (B.new w #[.int .i64 0,.int .i64 1,.int .i64 0,.int .i64 1,.int .i64 0,.int .i64 1,.int .i64 0,.int .i64 1,.int .i64 0,.int .i64 1,.int .i64 0,.int .i64 1,.int .i64 0,.int .i64 1] 3))
 go_enter Tryz.func32,Tryz.ntmps32
 go_wp2
 go_ret
 exact ⟨⟨w.heap.size,rfl,HX.out,by simp⟩,HB.out⟩
set_option maxHeartbeats 8000000 in
theorem begun_any (w : World) : Calls Tryz.prog 10 #[] w fun e w'=>e = .returned (.bool true) /\ Below w.heap.size w w':=by
 have HCT:=hideC count_any
 have HRD:=hideC rounds_any
 have HNW : Hid (∀ V ar cr ah ch a1 a2 a3 a4 c1 c2 c3 c4,AW.Has V (.slice ar 1 cr) cntA -> LM.HasH V ah (cntH a1 a2 a3 a4 c1 c2 c3 c4) -> 4 <= ch -> Calls Tryz.prog 7 #[.agg #[.slice ar 1 cr,.slice ah 4 ch,.int .i64 16],.int .i64 8] V fun e w'=>∃ az cs af cf ao co,e = .returned (.tuple #[.agg #[.int .i64 8,.slice az 1 cs,.slice af 1 cf,.slice ao 0 co],.int .i64 0]) /\ (∀ U,Kp (fun b=>b < V.heap.size) w' U -> FW.HasFl U cntF az af ao) /\ Below V.heap.size V w'):=fun V ar cr ah ch a1 a2 a3 a4 c1 c2 c3 c4 h1 h2 h3=>by
  have h:=GH.new_any cntA (cntH a1 a2 a3 a4 c1 c2 c3 c4) 16 8 ar ah 1 cr ch V h1 cnt_fitA h2 (cnt_fitH a1 a2 a3 a4 c1 c2 c3 c4) h3 (by unfold M.I64;decide)
  rw [cnt_new] at h
  refine h.mono ?_
  rintro e w' ⟨az,cs,af,cf,ao,co,g1,g2,g3⟩
  exact ⟨az,cs,af,cf,ao,co,g1,g2,g3⟩
 obtain ⟨R,hR⟩ : ∃ R,R = (GH.runF cntF picks).1:=⟨_,rfl⟩
 have hr1 : R.procs.length = 2:=by rw [hR];exact run_procs
 have hr2 : R.out.length = 2:=by rw [hR];exact run_out
 have hr3 : (FM.wdAt R.out 0).value = 0:=by rw [hR];exact run_v0
 have hr4 : (FM.wdAt R.out 1).value = 1:=by rw [hR];exact run_v1
 have hr5 : (FM.prAt R.procs 0).st = 2:=by rw [hR];exact run_st
 have hr6 : (FM.prAt R.procs 0).cd = 1:=by rw [hR];exact run_cd
 have HRU : Hid (∀ V az cs af cf ao co ap cp,FW.HasFl V cntF az af ao -> GW.HasN V ap picks -> (∀ b,ap = some b -> b.block < V.heap.size) -> Calls Tryz.prog 17 #[.agg #[.int .i64 8,.slice az 1 cs,.slice af 1 cf,.slice ao 0 co],.slice ap 14 cp] V fun e w'=>∃ az cs cf co b1 o1 b2 o2 s0 ns,e = .returned (.tuple #[.agg #[.int .i64 s0,.slice az ns cs,.slice (some ⟨b1,o1,none⟩) 2 cf,.slice (some ⟨b2,o2,none⟩) 2 co],.int .i64 0]) /\ (∀ U,Kp (fun b=>b < V.heap.size) w' U -> U.cell? ⟨b1,o1 + 9,none⟩ = some (.int .i64 2) /\ U.cell? ⟨b1,o1 + 10,none⟩ = some (.int .i64 1) /\ U.cell? ⟨b2,o2 + 1,none⟩ = some (.int .i64 0) /\ U.cell? ⟨b2,o2 + 2 + 1,none⟩ = some (.int .i64 1)) /\ Below V.heap.size V w'):=fun V az cs af cf ao co ap cp h1 h2 h3=>by
  refine (GH.run_any cntF picks ap cp az af ao cs cf co V h1 cnt_fitS cnt_fitP h2 h3 (by show (14 : Nat) <= _;decide)).mono ?_
  rintro e w' ⟨bz,ds,bf,df,bo,d_o,g1,g2,g3⟩
  rw [run_err,<- hR] at g1
  rw [<- hR] at g2
  have hk:=g2 w' (Kp.refl _ _)
  obtain ⟨b1,o1,e1,_,_⟩:=hk.procs (by rw [hr1];decide)
  obtain ⟨b2,o2,e2,_,_⟩:=hk.out (by rw [hr2];decide)
  subst e1 e2
  unfold FW.flCells at g1
  rw [hr1,hr2] at g1
  refine ⟨bz,ds,df,d_o,b1,o1,b2,o2,_,_,g1,fun U hU=>?_,g3⟩
  have hu:=g2 U hU
  obtain ⟨b3,o3,e3,_,l3⟩:=hu.procs (by rw [hr1];decide)
  obtain ⟨b4,o4,e4,_,l4⟩:=hu.out (by rw [hr2];decide)
  injection e3 with e3
  injection e4 with e4
  injection e3 with q1 q2
  injection e4 with q3 q4
  subst q1 q2 q3 q4
  obtain ⟨_,_,_,_,_,_,_,_,_,k9,k10,_,_⟩:=l3 0 (by rw [hr1];decide)
  obtain ⟨_,k1⟩:=l4 0 (by rw [hr2];decide)
  obtain ⟨_,k2⟩:=l4 1 (by rw [hr2];decide)
  rw [hr5] at k9
  rw [hr6] at k10
  rw [hr3] at k1
  rw [hr4] at k2
  simp only [Nat.zero_mul,Nat.add_zero,Nat.one_mul] at k9 k10 k1 k2
  exact ⟨k9,k10,k1,k2⟩
 clear hr1 hr2 hr3 hr4 hr5 hr6 hR R
 go_enter Tryz.func10,Tryz.ntmps10
 go_wp2_with fail
 go_at_call 31
 refine (HCT.out _).mono ?_
 rintro e w1 ⟨ar,cr,ah,ch,a1,a2,a3,a4,c1,c2,c3,c4,rfl,h1,h2,h3,h4⟩
 have HB1:=hideC h4
 have HN1:=hideC (HNW.out w1 ar cr ah ch a1 a2 a3 a4 c1 c2 c3 c4 h1 h2 h3)
 clear h1 h2 h3 h4 HCT HNW
 go_wp2_with fail
 go_at_call 7
 refine HN1.out.mono ?_
 rintro e w2 ⟨az,cs,af,cf,ao,co,rfl,h1,h2⟩
 have HF2:=hideC h1
 have HB2:=hideC (HB1.out.trans (h2.mono HB1.out.size))
 have hsz:=h2.size
 clear h1 h2 HN1
 go_wp2_with fail
 have HBA:=hideC (HB2.out.alloc HB2.out.size (.cells #[.int .i64 8,.slice az 1 cs,.slice af 1 cf,.slice ao 0 co] 30))
 have X0:=hideC (B.new w2 #[.int .i64 8,.slice az 1 cs,.slice af 1 cf,.slice ao 0 co] 30)
 have HKA : Hid (Below w2.heap.size w2 (w2.alloc (.cells #[.int .i64 8,.slice az 1 cs,.slice af 1 cf,.slice ao 0 co] 30))):=(Below.refl w2.heap.size w2).alloc (Nat.le_refl _) _
 obtain ⟨W,hW⟩ : ∃ W,W = w2.alloc (.cells #[.int .i64 8,.slice az 1 cs,.slice af 1 cf,.slice ao 0 co] 30):=⟨_,rfl⟩
 rw [<- hW] at HBA X0 HKA ⊢
 obtain ⟨fb,hfb⟩ : ∃ fb,fb = w2.heap.size:=⟨_,rfl⟩
 have hfw : w.heap.size <= fb:=by rw [hfb];exact HB2.out.size
 rw [<- hfb] at X0 ⊢
 clear hfb hW
 have HK0:=hideC (Below.refl W.heap.size W).drew
 have X00 : Hid (W.drew.heap[fb]? = some (.cells #[.int .i64 8,.slice az 1 cs,.slice af 1 cf,.slice ao 0 co] 30 (0,0))):=X0.out
 have t0:=B.cell X0.out 0 rfl
 have t1:=B.cell X0.out 1 rfl
 have t2:=B.cell X0.out 2 rfl
 have t3:=B.cell X0.out 3 rfl
 go_cut [3] (fun x3 wx=>∃ az' cs' cf' co' b1 o1 b2 o2 s0 ns,x3 = .int .i64 0 /\ wx.heap[fb]? = some (.cells #[.int .i64 s0,.slice az' ns cs',.slice (some ⟨b1,o1,none⟩) 2 cf',.slice (some ⟨b2,o2,none⟩) 2 co'] 30 (0,0)) /\ (wx.cell? ⟨b1,o1 + 9,none⟩ = some (.int .i64 2) /\ wx.cell? ⟨b1,o1 + 10,none⟩ = some (.int .i64 1) /\ wx.cell? ⟨b2,o2 + 1,none⟩ = some (.int .i64 0) /\ wx.cell? ⟨b2,o2 + 2 + 1,none⟩ = some (.int .i64 1)) /\ Below w.heap.size w wx)
 case first =>
  go_region_law (first
   | (go_simp;go_at_call 32;refine (HRD.out _).mono ?_;rintro e w3 ⟨⟨pb,rfl,hn,hpl⟩,hb3⟩;have HK3:=hideC (HK0.out.trans (hb3.mono HK0.out.size));have X3:=hideC (B.below X00.out hb3 (B.isLt X00.out));have y0 : w3.cell? ⟨fb,0,none⟩ = some (.int .i64 8):=B.cell X3.out 0 rfl;have y1 : w3.cell? ⟨fb,1,none⟩ = some (.slice az 1 cs):=B.cell X3.out 1 rfl;have y2 : w3.cell? ⟨fb,2,none⟩ = some (.slice af 1 cf):=B.cell X3.out 2 rfl;have y3 : w3.cell? ⟨fb,3,none⟩ = some (.slice ao 0 co):=B.cell X3.out 3 rfl;have HRU3:=hideC (HRU.out w3 az cs af cf ao co (some ⟨pb,0,none⟩) 14 (HF2.out w3 (Kp.ofBelow (HKA.out.trans (HK3.out.mono HKA.out.size)))) hn (fun b hb=>by injection hb with hb;subst hb;exact hpl));clear hn hpl hb3;go_simp)
   | (go_simp;go_at_call 17;refine HRU3.out.mono ?_;rintro e w4 ⟨az',cs',cf',co',b1,o1,b2,o2,s0,ns,rfl,hc4,hb4⟩;have HC4:=hideC hc4;have HB4:=hideC hb4;have X4:=hideC (B.below X3.out hb4 (B.isLt X3.out));have z0 : w4.cell? ⟨fb,0,none⟩ = some (.int .i64 8):=B.cell X4.out 0 rfl;have z1 : w4.cell? ⟨fb,1,none⟩ = some (.slice az 1 cs):=B.cell X4.out 1 rfl;have z2 : w4.cell? ⟨fb,2,none⟩ = some (.slice af 1 cf):=B.cell X4.out 2 rfl;have z3 : w4.cell? ⟨fb,3,none⟩ = some (.slice ao 0 co):=B.cell X4.out 3 rfl;have zf:=B.free X4.out;clear hc4 hb4;go_simp))
  all_goals
   go_wp2_with fail
   go_meet
   case rel =>
    have hf3:=B.isLt X3.out
    have kU:=GH.kp_set4 w4 fb (.int .i64 s0) (.slice az' ns cs') (.slice (some ⟨b1,o1,none⟩) 2 cf') (.slice (some ⟨b2,o2,none⟩) 2 co')
    refine ⟨az',cs',cf',co',b1,o1,b2,o2,s0,ns,rfl,B.set (B.set (B.set (B.set X4.out 0 _) 1 _) 2 _) 3 _,HC4.out _ (kU.mono (fun b _ e=>by rw [e];exact hf3)),?_⟩
    have hb : Below w.heap.size w w4:=(HBA.out.trans (HK3.out.mono HBA.out.size)).trans (HB4.out.mono (HBA.out.trans (HK3.out.mono HBA.out.size)).size)
    exact Kp.below hb kU hb.size (fun b e=>by rw [e];exact hfw)
 case rest =>
  obtain ⟨az',cs',cf',co',b1,o1,b2,o2,s0,ns,rfl,hx,⟨k1,k2,k3,k4⟩,hb⟩:=hcut
  have HB:=hideC hb
  have hkin:=Q.kin_some wc
  have hkc:=@Q.cell_kin wc
  have l0:=B.isLt hx
  have l1:=World.block_lt_of_cell? _ _ k1
  have l2:=World.block_lt_of_cell? _ _ k3
  have e2 : ∀ x : Q.Kin wc.heap.size wc,x.world.cell? ⟨fb,2,none⟩ = some (.slice (some ⟨b1,o1,none⟩) 2 cf'):=fun x=>(hkc x _ _ l0).trans (B.cell hx 2 rfl)
  have e3 : ∀ x : Q.Kin wc.heap.size wc,x.world.cell? ⟨fb,3,none⟩ = some (.slice (some ⟨b2,o2,none⟩) 2 co'):=fun x=>(hkc x _ _ l0).trans (B.cell hx 3 rfl)
  have e4 : ∀ x : Q.Kin wc.heap.size wc,x.world.cell? ⟨b1,o1 + 9,none⟩ = some (.int .i64 2):=fun x=>(hkc x _ _ l1).trans k1
  have e5 : ∀ x : Q.Kin wc.heap.size wc,x.world.cell? ⟨b1,o1 + 10,none⟩ = some (.int .i64 1):=fun x=>(hkc x _ _ l1).trans k2
  have e6 : ∀ x : Q.Kin wc.heap.size wc,x.world.cell? ⟨b2,o2 + 1,none⟩ = some (.int .i64 0):=fun x=>(hkc x _ _ l2).trans k3
  have e7 : ∀ x : Q.Kin wc.heap.size wc,x.world.cell? ⟨b2,o2 + 2 + 1,none⟩ = some (.int .i64 1):=fun x=>(hkc x _ _ l2).trans k4
  have e8 : ∀ x : Q.Kin wc.heap.size wc,x.world.cell? ⟨b2,o2 + 3,none⟩ = some (.int .i64 1):=fun x=>(hkc x _ _ l2).trans k4
  clear hkc hx k1 k2 k3 k4 hb HRD HRU HF2 HKA HK0 X00 X0 t0 t1 t2 t3 l0 l1 l2
  go_wp2_with fail
  refine Q.region_kin (by kernel_rfl) (by kernel_rfl) ?_
  repeat (first | go_big_quiet_step (fail) | quiet_step (fail))
  refine wpQuiet_nil ?_
  intro _ hw'
  obtain ⟨x,hw''⟩:=hw'
  subst hw''
  go_wp2
  go_ret
  exact ⟨by simp,HB.out.trans (x.keeps.mono HB.out.size)⟩
end GB
end Go.Proofs.YtkdigjpejnebkaaGreat
