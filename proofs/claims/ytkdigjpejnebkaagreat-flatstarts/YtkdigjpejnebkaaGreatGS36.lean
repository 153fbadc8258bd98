import Derived.Test.YtkdigjpejnebkaaGreatGS35
import Derived.Test.YtkdigjpejnebkaaGreatGS26
import Derived.Test.YtkdigjpejnebkaaGreatGS20
set_option linter.unusedVariables false
set_option maxRecDepth 100000
set_option linter.unusedSimpArgs false
namespace Go.Proofs.YtkdigjpejnebkaaGreat
namespace GW
open Go.RowKit GK GG
open FW (hideC add_below)
section
variable {σ : Type} {Hd : World -> (Nat -> Prop) -> σ -> Prop} {Ok : σ -> List Bool -> Prop} {o : Ops σ} {lo mb gb : Nat} {w w' : World} {D : Nat -> Prop} {vo : Value} {st : St σ}
theorem Grp.setK (C : MemC lo mb Hd Ok o) {pb n cap : Nat} (h : Grp Hd lo mb gb w D (.slice (some ⟨pb,0,none⟩) n cap) vo st) (k : Nat) (hk : k < st.ps.length) (hn : n = st.ps.length) (x : Int × Int) :
  GW.Left Hd lo mb gb w D (.slice (some ⟨pb,0,none⟩) n cap) vo { st with ps:=st.ps.set k (FW.killN (FM.prAt st.ps k) x) } (((w.setCell ⟨pb,k * 13 + 9,none⟩ (.int .i64 3)).setCell ⟨pb,k * 13 + 11,none⟩ (.int .i64 x.1)).setCell ⟨pb,k * 13 + 12,none⟩ (.int .i64 x.2)):=by
 have hb : blk (.slice (some ⟨pb,0,none⟩) n cap) pb:=rfl
 have kS : Kp (fun b=>b = pb) w (((w.setCell ⟨pb,k * 13 + 9,none⟩ (.int .i64 3)).setCell ⟨pb,k * 13 + 11,none⟩ (.int .i64 x.1)).setCell ⟨pb,k * 13 + 12,none⟩ (.int .i64 x.2)):=kp_set3 w pb _ _ _ _ _ _ rfl
 refine ⟨D,.slice (some ⟨pb,0,none⟩) n cap,vo,⟨kS.keep h.head (fun e=>h.n2 (e ▸ hb)),C.kp _ _ _ _ _ h.mem kS (fun b hd e=>h.n4 pb hb (e ▸ hd)),?_,kS.row h.outs (fun g hg e=>h.n6 pb hb (e ▸ hg)),h.base,h.n1,h.n2,h.n3,h.n4,h.n5,h.n6⟩,kS.mono (fun b _ e=>.inr (.inr (.inl (e ▸ hb)))),fun b hb=>.inl hb⟩
 have hp:=h.procs
 rw [<- hn] at hp
 show World.ownsRow _ lo _ 13 _ (st.ps.set k _).length _
 rw [List.length_set,<- hn]
 obtain ⟨q,hq⟩ : ∃ q,q = FM.prAt st.ps k:=⟨_,rfl⟩
 rw [<- hq]
 have h0 : (st.ps.set k q).flatMap cellPr = st.ps.flatMap cellPr:=flat_same cellPr FM.pr0 st.ps k q hk (by rw [hq];rfl)
 rw [<- h0] at hp
 have r1:=row_set hp (k * 13 + 9) (.int .i64 3)
 rw [<- flat_next st.ps k hk q { q with st:=3 } 9 (by omega) _ rfl] at r1
 have r2:=row_set r1 (k * 13 + 11) (.int .i64 x.1)
 rw [<- flat_next st.ps k hk { q with st:=3 } { q with st:=3,fk:=x.1 } 11 (by omega) _ rfl] at r2
 have r3:=row_set r2 (k * 13 + 12) (.int .i64 x.2)
 rw [<- flat_next st.ps k hk { q with st:=3,fk:=x.1 } { q with st:=3,fk:=x.1,fa:=x.2 } 12 (by omega) _ rfl] at r3
 exact r3
end
variable {σ : Type} {Hd : World -> (Nat -> Prop) -> σ -> Prop} {Ok : σ -> List Bool -> Prop} {o : Ops σ} {lo mb gb : Nat} {D : Nat -> Prop} {vr vo : Value} {st : St σ}
set_option maxHeartbeats 8000000 in
theorem step_any (C : MemC lo mb Hd Ok o) (pick : Int) (w : World) (h : Grp Hd lo mb gb w D vr vo st) (hok : GOk Ok st) :
  Calls Tryz.prog 46 #[.pointer (some ⟨gb,0,none⟩),.int .i64 pick] w fun e w'=>e = .returned (.int .i64 (GG.stepG o st pick).1) /\ GW.Left Hd lo mb gb w D vr vo (GG.stepG o st pick).2 w':=by
 have HG:=hideC h
 have HC:=hideC C
 have HOK:=hideC hok
 have hn4 : st.ps.length <= 4:=by have:=C.ok.few _ _ hok.mem;unfold running at this;rw [List.length_map] at this;exact this
 obtain ⟨ar,cr,hvr,_,_⟩:=row_form h.procs
 obtain ⟨ao,co,hvo,_,_⟩:=row_form h.outs
 have HVR:=hideC hvr
 have HVO:=hideC hvo
 have HSE : Hid (GG.stepG o st pick = if ¬ (0 <= pick /\ pick < (st.ps.length : Int)) then (6,st) else if ¬ (FM.prAt st.ps pick.toNat).st = 1 then (0,st) else if 2000 <= st.out.length then (2,st) else if (doG o st pick.toNat).1.1 = 0 then (0,(doG o st pick.toNat).2) else (0,{ (doG o st pick.toNat).2 with mem:=o.drop (doG o st pick.toNat).2.mem pick.toNat,ps:=(doG o st pick.toNat).2.ps.set pick.toNat (FW.killN (FM.prAt (doG o st pick.toNat).2.ps pick.toNat) (doG o st pick.toNat).1) })):=rfl
 obtain ⟨RR,hRR⟩ : ∃ RR,RR = GG.stepG o st pick:=⟨_,rfl⟩
 rw [<- hRR] at HSE ⊢
 obtain ⟨n,hn⟩ : ∃ n,n = st.ps.length:=⟨_,rfl⟩
 obtain ⟨no,hno⟩ : ∃ no,no = st.out.length:=⟨_,rfl⟩
 rw [<- hn] at hvr hn4 HSE
 rw [<- hno] at hvo HSE
 have HN:=hideC hn
 have HNO:=hideC hno
 have hno2 : no <= 2000:=by rw [hno];exact hok.out
 subst hvr hvo
 have g0 : w.cell? ⟨gb,0,none⟩ = some (.iface 144 (.pointer (some ⟨mb,0,none⟩))):=B.cell h.head 0 rfl
 have g1 : w.cell? ⟨gb,1,none⟩ = some (.slice ar n cr):=B.cell h.head 1 rfl
 have g2 : w.cell? ⟨gb,2,none⟩ = some (.slice ao no co):=B.cell h.head 2 rfl
 clear hRR hn hno HVR HVO
 by_cases hp0 : pick < 0
 · have HR : Hid (RR = (6,st)):=by rw [HSE.out,if_pos (by omega)];exact rfl
   clear HSE h C hok
   go_enter Tryz.func46,Tryz.ntmps46
   go_wp2
   go_ret
   rw [HR.out]
   exact ⟨rfl,Left.refl HG.out⟩
 · by_cases hp1 : (n : Int) <= pick
   · have HR : Hid (RR = (6,st)):=by rw [HSE.out,if_pos (by omega)];exact rfl
     clear HSE h C hok
     go_enter Tryz.func46,Tryz.ntmps46
     go_wp2
     go_ret
     rw [HR.out]
     exact ⟨rfl,Left.refl HG.out⟩
   · obtain ⟨k,rfl⟩ : ∃ k : Nat,pick = (k : Int):=⟨pick.toNat,by omega⟩
     have hk : k < n:=by omega
     have hks : k < st.ps.length:=by rw [<- HN.out];exact hk
     obtain ⟨pb,cap,hvr,hpb,hpc,hpf⟩:=h.proc k hks
     injection hvr with e1 e2 e3
     subst e1 e3
     clear e2
     have HPC:=hideC hpc
     have HPF:=hideC hpf
     have hki : (k : Int) < (n : Int):=by omega
     have HSE2:=HSE.out
     rw [if_neg (by omega),Int.toNat_natCast] at HSE2
     have HS3:=hideC HSE2
     obtain ⟨s9,hs9⟩ : ∃ s9,s9 = (FM.prAt st.ps k).st:=⟨_,rfl⟩
     have c9 : w.cell? ⟨pb,k * 13 + 9,none⟩ = some (.int .i64 s9):=by rw [hs9];exact hpc 9 (by omega)
     rw [<- hs9] at HS3
     have HS9:=hideC hs9
     clear HSE HSE2 hpc hpf hs9
     by_cases hs1 : s9 = 1
     · subst hs1
       have h1 : (FM.prAt st.ps k).st = 1:=HS9.out.symm
       by_cases ho2 : 2000 <= no
       · have HR : Hid (RR = (2,st)):=by rw [HS3.out,if_neg (fun g=>g rfl),if_pos ho2];exact rfl
         have ho2i : (2000 : Int) <= (no : Int):=by omega
         clear HS3 h C hok ho2
         go_enter Tryz.func46,Tryz.ntmps46
         go_wp2
         go_ret
         rw [HR.out]
         exact ⟨rfl,Left.refl HG.out⟩
       · have ho2i : ¬ (2000 : Int) <= (no : Int):=by omega
         have HDO:=hideC (do_any C k w h hok hks h1)
         have HDL:=hideC (do_left C.ok hok (by rw [<- HNO.out];omega) k hks h1)
         have HS4 : Hid (RR = if (doG o st k).1.1 = 0 then (0,(doG o st k).2) else (0,{ (doG o st k).2 with mem:=o.drop (doG o st k).2.mem k,ps:=(doG o st k).2.ps.set k (FW.killN (FM.prAt (doG o st k).2.ps k) (doG o st k).1) })):=by rw [HS3.out,if_neg (fun g=>g rfl),if_neg ho2];exact rfl
         obtain ⟨X,hX⟩ : ∃ X,X = doG o st k:=⟨_,rfl⟩
         rw [<- hX] at HDO HDL HS4
         obtain ⟨⟨X1,X2⟩,s2⟩:=X
         unfold FW.fcells at HDO
         simp only at HDO HDL HS4
         clear HS3 hX h C hok ho2
         by_cases hX1 : X1 = 0
         · subst hX1
           have HR : Hid (RR = (0,s2)):=by rw [HS4.out,if_pos rfl];exact rfl
           clear HS4
           go_enter Tryz.func46,Tryz.ntmps46
           go_wp2_with (go_at_call 81;refine HDO.out.mono ?_;rintro e w1 ⟨rfl,hl1⟩;have HL1:=hideC hl1;clear hl1)
           go_ret
           rw [HR.out]
           exact ⟨rfl,HL1.out.more HC.out ((Below.refl _ _).alloc (Nat.le_refl _) _)⟩
         · have HR : Hid (RR = (0,{ s2 with mem:=o.drop s2.mem k,ps:=s2.ps.set k (FW.killN (FM.prAt s2.ps k) (X1,X2)) })):=by rw [HS4.out,if_neg hX1];exact rfl
           have hXi : (X1 == 0) = false:=by rw [beq_eq_false_iff_ne];exact hX1
           have hsame : s2.ps = st.ps:=HDL.out.same hX1
           have hok2 : GOk Ok s2:=HDL.out.ok
           have hlv2 : (running s2.ps).getD k false = true:=by rw [hsame];exact live_at k hks h1
           have HOK2:=hideC hok2
           have HLV2:=hideC hlv2
           have HSM:=hideC hsame
           have hm:=methodDrop ⟨mb,0,none⟩
           have ha:=aheadDrop ⟨mb,0,none⟩
           clear HS4 hsame hok2 hlv2 hX1 HDL
           go_enter Tryz.func46,Tryz.ntmps46
           go_wp2_with (first
            | (go_at_call 81;refine HDO.out.mono ?_;rintro e w1 ⟨rfl,hl1⟩;obtain ⟨D1,r1,o1,hg1,hk1,hd1⟩:=hl1;have HG1:=hideC hg1;have HK1:=hideC hk1;have HD1:=hideC hd1;have HBF:=hideC ((Below.refl w1.heap.size w1).alloc (Nat.le_refl _) (.cells #[.int .i64 X1,.int .i64 X2] 68));have x0:=B.cell (v:=.iface 144 (.pointer (some ⟨mb,0,none⟩))) hg1.head 0 rfl;have x0a : (w1.alloc (.cells #[.int .i64 X1,.int .i64 X2] 68)).cell? ⟨gb,0,none⟩ = some (.iface 144 (.pointer (some ⟨mb,0,none⟩))):=B.cell (B.alloc hg1.head _) 0 rfl;clear hg1 hk1 hd1)
            | (go_at_call 190;refine (HC.out.drop _ D1 s2.mem _ k (HG1.out.below HC.out HBF.out).mem HOK2.out.mem HLV2.out).mono ?_;rintro e w2 ⟨D2,rfl,hm2,hk2,hd2⟩;have HG2:=hideC ((HG1.out.below HC.out HBF.out).turn HC.out hm2 hk2 hd2);have HK2:=hideC hk2;have HD2:=hideC hd2;have HZ2:=hideC (hk2.keep (B.new w1 #[.int .i64 X1,.int .i64 X2] 68) (fun g=>(by have:=HC.out.dom _ _ _ HG1.out.mem _ g;omega)));clear hm2 hk2 hd2))
           obtain ⟨pb2,cap2,hv2,hpb2,hpc2,hpf2⟩:=HG2.out.proc k (by show k < s2.ps.length;rw [HSM.out];exact hks)
           have hl2 : s2.ps.length = n:=by rw [HSM.out];exact HN.out.symm
           have hv2' : r1 = .slice (some ⟨pb2,0,none⟩) n cap2:=by rw [hv2];show Value.slice _ s2.ps.length _ = _;rw [hl2]
           subst hv2'
           have x1 : w2.cell? ⟨gb,1,none⟩ = some (.slice (some ⟨pb2,0,none⟩) n cap2):=B.cell HG2.out.head 1 rfl
           have z0:=B.cell (v:=.int .i64 X1) HZ2.out 0 rfl
           have z1:=B.cell (v:=.int .i64 X2) HZ2.out 1 rfl
           have d9 : w2.cell? ⟨pb2,k * 13 + 9,none⟩ = some (.int .i64 (FM.prAt s2.ps k).st):=hpc2 9 (by omega)
           have d11 : w2.cell? ⟨pb2,k * 13 + 11,none⟩ = some (.int .i64 (FM.prAt s2.ps k).fk):=hpc2 11 (by omega)
           have d12 : w2.cell? ⟨pb2,k * 13 + 12,none⟩ = some (.int .i64 (FM.prAt s2.ps k).fa):=hpc2 12 (by omega)
           have f9:=hpf2 (k * 13 + 9)
           have f11:=hpf2 (k * 13 + 11)
           have f12:=hpf2 (k * 13 + 12)
           have HL2:=hideC hl2
           clear hv2 hpc2 hpf2 hl2
           go_region
           all_goals
            go_wp2
            go_ret
            rw [HR.out]
            have hs:=(HG2.out.setK HC.out k (by show k < s2.ps.length;rw [HSM.out];exact hks) (by show n = s2.ps.length;rw [HL2.out]) (X1,X2)).more HC.out (Below.refl _ _).drew
            refine ⟨rfl,Left.trans HK1.out HD1.out (Left.after HBF.out (Left.trans (HK2.out.mono (fun b _ g=>.inr (.inl g))) (fun b hb=>?_) hs))⟩
            rcases hb with g | g | g | g
            · exact .inl (.inl g)
            · rcases HD2.out b g with x | x
              · exact .inl (.inr (.inl x))
              · exact .inr x
            · exact .inl (.inr (.inr (.inl g)))
            · exact .inl (.inr (.inr (.inr g)))
     · have HR : Hid (RR = (0,st)):=by rw [HS3.out,if_pos hs1];exact rfl
       have hsi : (s9 == 1) = false:=by rw [beq_eq_false_iff_ne];exact hs1
       clear HS3 h C hok hs1
       go_enter Tryz.func46,Tryz.ntmps46
       go_wp2
       go_ret
       rw [HR.out]
       exact ⟨rfl,Left.refl HG.out⟩
def HasN (w : World) (ao : Option Addr) (l : List Int) : Prop:=0 < l.length -> ∃ b off,ao = some ⟨b,off,none⟩ /\ b < w.heap.size /\ ∀ i,i < l.length -> w.cell? ⟨b,off + i,none⟩ = some (.int .i64 (l.getD i 0))
def OutRun (Hd : World -> (Nat -> Prop) -> σ -> Prop) (lo mb gb : Nat) (w : World) (D : Nat -> Prop) (vr vo : Value) (r : Int × Option (St σ)) (e : Ending) (w' : World) : Prop:=e = .returned (.int .i64 r.1) /\ Kp (grpD gb D vr vo) w w' /\ ∀ s,r.2 = some s -> GW.Left Hd lo mb gb w D vr vo s w'
set_option maxHeartbeats 4000000 in
theorem run_any (C : MemC lo mb Hd Ok o) (picks : List Int) (ap : Option Addr) (cp : Nat) (w : World) (h : Grp Hd lo mb gb w D vr vo st) (hok : GOk Ok st) (hp : HasN w ap picks) (hps : ∀ b,ap = some b -> ¬ grpD gb D vr vo b.block) (hpn : picks.length <= 140737488351232) :
  Calls Tryz.prog 59 #[.pointer (some ⟨gb,0,none⟩),.slice ap picks.length cp] w (OutRun Hd lo mb gb w D vr vo (runG o st picks)):=by
 have HG:=hideC h
 have HC:=hideC C
 have HOK:=hideC hok
 have HP:=hideC hp
 have HPS:=hideC hps
 have HRG : Hid (runG o st picks = if 2000 < picks.length then ((2 : Int),none) else match runTo o picks picks.length (some st) with | none=>(2,none) | some s=>(0,some s)):=rfl
 have HRS : Hid (∀ n s,runTo o picks n (some st) = some s -> runTo o picks (n + 1) (some st) = if (GG.stepG o s (picks.getD n 0)).1 = 2 then none else some (GG.stepG o s (picks.getD n 0)).2):=fun n s e=>by
  show (match runTo o picks n (some st) with | none=>none | some s=>if (GG.stepG o s (picks.getD n 0)).1 = 2 then none else some (GG.stepG o s (picks.getD n 0)).2) = _
  rw [e]
 have HRN : Hid (∀ n,runTo o picks n (some st) = none -> ∀ m,n <= m -> runTo o picks m (some st) = none):=fun n e m hm=>by
  induction m with
  | zero => obtain rfl : n = 0 := by omega
            exact e
  | succ m ih =>
   by_cases c : n = m + 1
   · subst c;exact e
   · show (match runTo o picks m (some st) with | none=>none | some s=>if (GG.stepG o s (picks.getD m 0)).1 = 2 then none else some (GG.stepG o s (picks.getD m 0)).2) = _
     rw [ih (by omega)]
 have HRO:=hideC (runTo_ok C.ok hok picks)
 have HR0 : Hid (runTo o picks 0 (some st) = some st):=rfl
 obtain ⟨RR,hRR⟩ : ∃ RR,RR = runG o st picks:=⟨_,rfl⟩
 rw [<- hRR] at HRG ⊢
 obtain ⟨np,hnp⟩ : ∃ np,np = picks.length:=⟨_,rfl⟩
 rw [<- hnp] at HRG hpn ⊢
 have HNP:=hideC hnp
 have HFIN : Hid (∀ e w',OutRun Hd lo mb gb w D vr vo RR e w' ↔ (e = .returned (.int .i64 RR.1) /\ Kp (grpD gb D vr vo) w w' /\ ∀ s,RR.2 = some s -> GW.Left Hd lo mb gb w D vr vo s w')):=fun e w'=>Iff.rfl
 obtain ⟨P,hP⟩ : ∃ P,P = OutRun Hd lo mb gb w D vr vo RR:=⟨_,rfl⟩
 rw [<- hP] at HFIN ⊢
 clear hRR hnp h C hok hp hps hP
 by_cases hbig : 2000 < np
 · have HR : Hid (RR = (2,none)):=by rw [HRG.out,if_pos hbig];exact rfl
   have hbi : (2000 : Int) < (np : Int):=by omega
   clear HRG HRS HRN HRO HR0 hbig
   go_enter Tryz.func59,Tryz.ntmps59
   go_wp2
   refine (HFIN.out _ _).2 ?_
   rw [HR.out]
   exact ⟨rfl,Kp.refl _ _,fun s e=>by cases e⟩
 · have hbi : ¬ (2000 : Int) < (np : Int):=by omega
   have HR2 : Hid (RR = match runTo o picks np (some st) with | none=>((2 : Int),none) | some s=>(0,some s)):=by have:=HRG.out;rw [if_neg hbig] at this;exact this
   clear HRG
   go_enter Tryz.func59,Tryz.ntmps59
   go_wp2
   go_loopw [12] (fun iv wr=>∃ (j : Nat) (s : St σ),j <= np /\ iv = .int .i64 (j : Int) /\ runTo o picks j (some st) = some s /\ GW.Left Hd lo mb gb w D vr vo s wr) (fun iv _=>np - (intOf iv).toNat)
   case atStart=>exact ⟨0,st,by omega,rfl,HR0.out,Left.refl HG.out⟩
   case round =>
    obtain ⟨j,s,hj,rfl,hrun,hl⟩:=hrel
    have HRU:=hideC hrun
    have HL:=hideC hl
    have HOS:=hideC (HRO.out j s hrun)
    obtain ⟨D1,r1,o1,hg1,hk1,hd1⟩:=hl
    have HG1:=hideC hg1
    have HK1:=hideC hk1
    have HD1:=hideC hd1
    clear hrun hg1 hk1 hd1
    by_cases hlt : j < np
    · obtain ⟨b,off,hao,hbl,hcell⟩:=HP.out (by rw [<- HNP.out];omega)
      subst hao
      have hc0 : wr.cell? ⟨b,off + j,none⟩ = some (.int .i64 (picks.getD j 0)):=HK1.out.cell (hcell j (by rw [<- HNP.out];exact hlt)) (HPS.out ⟨b,off,none⟩ rfl)
      have HST:=hideC (HRS.out j s HRU.out)
      obtain ⟨pk,hpk⟩ : ∃ pk,pk = picks.getD j 0:=⟨_,rfl⟩
      rw [<- hpk] at hc0 HST
      have HSA:=hideC (step_any HC.out pk wr HG1.out HOS.out)
      obtain ⟨X,hX⟩ : ∃ X,X = GG.stepG o s pk:=⟨_,rfl⟩
      rw [<- hX] at HST HSA
      obtain ⟨x1,s2⟩:=X
      simp only at HST HSA
      have hji : (j : Int) < (np : Int):=by omega
      clear hpk hX hcell
      by_cases hx : x1 = 2
      · subst hx
        have HNO:=hideC (HRN.out (j + 1) (by rw [HST.out,if_pos rfl]) np (by omega))
        have HR : Hid (RR = (2,none)):=by have:=HR2.out;rw [HNO.out] at this;exact this
        clear HST HR2 HNO
        go_wp2_with (go_at_call 46;refine HSA.out.mono ?_;rintro e w2 ⟨rfl,hl2⟩;have HL2:=hideC (Left.trans HK1.out HD1.out hl2);clear hl2)
        refine (HFIN.out _ _).2 ?_
        rw [HR.out]
        obtain ⟨_,_,_,_,hkk,_⟩:=HL2.out
        exact ⟨rfl,hkk,fun s e=>by cases e⟩
      · have hxi : (x1 == 2) = false:=by rw [beq_eq_false_iff_ne];exact hx
        have HNX : Hid (runTo o picks (j + 1) (some st) = some s2):=by rw [HST.out,if_neg hx];exact rfl
        clear HST hx
        go_wp2_with (go_at_call 46;refine HSA.out.mono ?_;rintro e w2 ⟨rfl,hl2⟩;have HL2:=hideC (Left.trans HK1.out HD1.out hl2);clear hl2)
        go_roundw
        case rel=>exact ⟨j + 1,s2,by omega,by go_num,HNX.out,HL2.out⟩
        case measure=>simp [intOf];omega
    · obtain rfl : j = np:=by omega
      have HR : Hid (RR = (0,some s)):=by have:=HR2.out;rw [HRU.out] at this;exact this
      clear HR2
      go_wp2
      refine (HFIN.out _ _).2 ?_
      rw [HR.out]
      obtain ⟨_,_,_,_,hkk,_⟩:=HL.out
      exact ⟨rfl,hkk,fun s' e=>by injection e with e;rw [<- e];exact HL.out⟩
end GW
namespace GH
open Go.RowKit GK
open GW (cellPr cellWd cellPr_len cellWd_len)
def ofFl (f : FM.Fl) : GG.St GM.Mf:=⟨⟨f.slots,f.spaces⟩,f.procs,f.out⟩
def toFl (s : GG.St GM.Mf) : FM.Fl:=⟨s.mem.slots,s.mem.spaces,s.ps,s.out⟩
def fl0 : FM.Fl:=⟨0,[],[],[]⟩
def changeF (f : FM.Fl) (r : Int × Option (GG.St GM.Mf)) : FM.Fl × Int :=
 if ¬ FM.checkF f = 0 then (fl0,FM.checkF f) else if ¬ r.1 = 0 then (fl0,r.1) else match r.2 with
  | none=>(fl0,r.1)
  | some s=>(toFl s,0)
def runF (f : FM.Fl) (picks : List Int) : FM.Fl × Int:=changeF f (GG.runG GM.flatOps (ofFl f) picks)
def FitPs (ps : List PM.Pr) : Prop:=∀ k,k < ps.length -> GG.FitP (FM.prAt ps k)
theorem counts_of {f : FM.Fl} (h : FM.checkF f = 0) : (1 <= f.spaces.length /\ f.spaces.length <= 4) /\ f.procs.length = f.spaces.length /\ (0 <= f.slots /\ f.slots <= 512) /\ f.out.length <= 2000:=by
 unfold FM.checkF at h
 by_cases c : FM.rightCounts f = false
 · rw [if_pos c] at h;cases h
 · have c : FM.rightCounts f = true:=by cases e : FM.rightCounts f;exact (c e).elim;rfl
   unfold FM.rightCounts at c
   simp only [Bool.and_eq_true,decide_eq_true_eq] at c
   exact c
theorem right_of {f : FM.Fl} (h : FM.checkF f = 0) : FM.rightSpaces f = true /\ FM.rightProcs f = true:=by
 unfold FM.checkF at h
 by_cases c : FM.rightCounts f = false
 · rw [if_pos c] at h;cases h
 · rw [if_neg c] at h
   by_cases d : (FM.rightSpaces f && FM.rightProcs f) = true
   · simpa using d
   · rw [if_neg d] at h;cases h
theorem gok_of {f : FM.Fl} (h : FM.checkF f = 0) (hf : FitPs f.procs) : GG.GOk GM.OkF (ofFl f):=by
 obtain ⟨c1,c2,c3,c4⟩:=counts_of h
 obtain ⟨h1,h2⟩:=right_of h
 unfold FM.rightSpaces at h1
 unfold FM.rightProcs at h2
 simp only [Bool.and_eq_true,decide_eq_true_eq,List.all_eq_true,List.mem_range] at h1 h2
 obtain ⟨h1,hroom⟩:=h1
 obtain ⟨h2,h3⟩:=h2
 have hsp : ∀ k,k < f.spaces.length -> FM.spAt f.spaces k ∈ f.spaces:=fun k hk=>by
  unfold FM.spAt
  rw [List.getD_eq_getElem?_getD,List.getElem?_eq_getElem hk]
  exact List.getElem_mem hk
 refine ⟨⟨?_,fun k hk=>h1 _ (hsp k hk),hroom,c3,c1⟩,hf,fun k hk=>(h2 k hk).1,h3,c4⟩
 show GG.running f.procs = f.spaces.map (·.live)
 unfold GG.running
 apply List.ext_getElem
 · rw [List.length_map,List.length_map,c2]
 · intro k hk1 hk2
   rw [List.length_map] at hk1 hk2
   rw [List.getElem_map,List.getElem_map]
   have:=(h2 k hk1).2
   unfold FM.liveB FM.spAt FM.prAt at this
   rw [List.getD_eq_getElem?_getD,List.getElem?_eq_getElem hk2,List.getD_eq_getElem?_getD,List.getElem?_eq_getElem hk1] at this
   have e:=eq_of_beq this
   exact e.symm
theorem pr_from {w : World} {ao : Option Addr} {l : List PM.Pr} (h : FW.HasR w ao l) : From w ao l.length (l.flatMap cellPr):=fun hm=>by
 obtain ⟨b,off,rfl,hb,hl⟩:=h hm
 refine ⟨_,rfl,fun j u hu=>?_⟩
 have hlen:=rows_length cellPr 13 cellPr_len l
 have hj : j < l.length * 13:=by rw [<- hlen];exact (List.getElem?_eq_some_iff.1 hu).1
 have hi : j / 13 < l.length:=by omega
 have hr : j % 13 < 13:=Nat.mod_lt _ (by omega)
 have he : j = j / 13 * 13 + j % 13:=by omega
 obtain ⟨i,hi0⟩ : ∃ i,i = j / 13:=⟨_,rfl⟩
 obtain ⟨r,hr0⟩ : ∃ r,r = j % 13:=⟨_,rfl⟩
 rw [<- hi0,<- hr0] at he
 rw [<- hi0] at hi
 rw [<- hr0] at hr
 subst he
 rw [rows_get cellPr 13 cellPr_len FM.pr0 l i r hi hr] at hu
 obtain ⟨c0,c1,c2,c3,c4,c5,c6,c7,c8,c9,c10,c11,c12⟩:=hl i hi
 rw [Addr.add_lit]
 have hx : ∀ n v,(cellPr (FM.prAt l i))[r]? = some u -> r = n -> (cellPr (FM.prAt l i))[n]? = some v -> w.cell? ⟨b,off + i * 13 + n,none⟩ = some v -> w.cell? ⟨b,off + (i * 13 + r),none⟩ = some u:=fun n v h1 h2 h3 h4=>by
  subst h2
  rw [h1] at h3
  injection h3 with h3
  subst h3
  rw [<- Nat.add_assoc]
  exact h4
 have hu' : (cellPr (FM.prAt l i))[r]? = some u:=hu
 rcases (show r = 0 ∨ r = 1 ∨ r = 2 ∨ r = 3 ∨ r = 4 ∨ r = 5 ∨ r = 6 ∨ r = 7 ∨ r = 8 ∨ r = 9 ∨ r = 10 ∨ r = 11 ∨ r = 12 by omega) with e | e | e | e | e | e | e | e | e | e | e | e | e
 · exact hx 0 _ hu' e rfl c0
 · exact hx 1 _ hu' e rfl c1
 · exact hx 2 _ hu' e rfl c2
 · exact hx 3 _ hu' e rfl c3
 · exact hx 4 _ hu' e rfl c4
 · exact hx 5 _ hu' e rfl c5
 · exact hx 6 _ hu' e rfl c6
 · exact hx 7 _ hu' e rfl c7
 · exact hx 8 _ hu' e rfl c8
 · exact hx 9 _ hu' e rfl c9
 · exact hx 10 _ hu' e rfl c10
 · exact hx 11 _ hu' e rfl c11
 · exact hx 12 _ hu' e rfl c12
theorem wd_from {w : World} {ao : Option Addr} {l : List FM.Wd} (h : FW.HasW w ao l) : From w ao l.length (l.flatMap cellWd):=fun hm=>by
 obtain ⟨b,off,rfl,hb,hl⟩:=h hm
 refine ⟨_,rfl,fun j u hu=>?_⟩
 have hlen:=rows_length cellWd 2 cellWd_len l
 have hj : j < l.length * 2:=by rw [<- hlen];exact (List.getElem?_eq_some_iff.1 hu).1
 have hi : j / 2 < l.length:=by omega
 have hr : j % 2 < 2:=Nat.mod_lt _ (by omega)
 have he : j = j / 2 * 2 + j % 2:=by omega
 obtain ⟨i,hi0⟩ : ∃ i,i = j / 2:=⟨_,rfl⟩
 obtain ⟨r,hr0⟩ : ∃ r,r = j % 2:=⟨_,rfl⟩
 rw [<- hi0,<- hr0] at he
 rw [<- hi0] at hi
 rw [<- hr0] at hr
 subst he
 rw [rows_get cellWd 2 cellWd_len FM.wd0 l i r hi hr] at hu
 obtain ⟨c0,c1⟩:=hl i hi
 rw [Addr.add_lit]
 have hu' : (cellWd (FM.wdAt l i))[r]? = some u:=hu
 rcases (show r = 0 ∨ r = 1 by omega) with e | e
 · subst e
   have h3 : some (Value.int .i64 (FM.wdAt l i).proc) = some u:=hu'
   rw [<- h3];exact c0
 · subst e
   have h3 : some (Value.int .i64 (FM.wdAt l i).value) = some u:=hu'
   rw [<- h3,<- Nat.add_assoc];exact c1
theorem pr_has {w : World} {lo : Nat} {ao : Option Addr} {cap : Nat} {l : List PM.Pr} (h : w.ownsRow lo 70 13 (.slice ao l.length cap) l.length (l.flatMap cellPr)) : FW.HasR w ao l:=fun hm=>by
 obtain ⟨ao',cap',e,_,hg⟩:=row_form h
 injection e with ea _ _
 subst ea
 obtain ⟨g,rfl,_,hlt⟩:=hg hm
 refine ⟨g,0,rfl,hlt,fun i hi=>?_⟩
 have hc : ∀ j,j < 13 -> w.cell? ⟨g,i * 13 + j,none⟩ = (cellPr (FM.prAt l i))[j]?:=fun j hj=>row_at cellPr cellPr_len FM.pr0 h i j hi hj
 rw [Nat.zero_add]
 exact ⟨hc 0 (by omega),hc 1 (by omega),hc 2 (by omega),hc 3 (by omega),hc 4 (by omega),hc 5 (by omega),hc 6 (by omega),hc 7 (by omega),hc 8 (by omega),hc 9 (by omega),hc 10 (by omega),hc 11 (by omega),hc 12 (by omega)⟩
theorem wd_has {w : World} {lo : Nat} {ao : Option Addr} {cap : Nat} {l : List FM.Wd} (h : w.ownsRow lo 78 2 (.slice ao l.length cap) l.length (l.flatMap cellWd)) : FW.HasW w ao l:=fun hm=>by
 obtain ⟨ao',cap',e,_,hg⟩:=row_form h
 injection e with ea _ _
 subst ea
 obtain ⟨g,rfl,_,hlt⟩:=hg hm
 refine ⟨g,0,rfl,hlt,fun i hi=>?_⟩
 have hc : ∀ j,j < 2 -> w.cell? ⟨g,i * 2 + j,none⟩ = (cellWd (FM.wdAt l i))[j]?:=fun j hj=>row_at cellWd cellWd_len FM.wd0 h i j hi hj
 rw [Nat.zero_add]
 exact ⟨hc 0 (by omega),hc 1 (by omega)⟩
theorem pr_one (l : List PM.Pr) : ∀ u ∈ l.flatMap cellPr,u.oneCell' = true:=fun u hu=>by
 obtain ⟨p,_,h⟩:=List.mem_flatMap.1 hu
 simp only [cellPr,List.mem_cons,List.not_mem_nil,or_false] at h
 rcases h with rfl | rfl | rfl | rfl | rfl | rfl | rfl | rfl | rfl | rfl | rfl | rfl | rfl <;> rfl
theorem wd_one (l : List FM.Wd) : ∀ u ∈ l.flatMap cellWd,u.oneCell' = true:=fun u hu=>by
 obtain ⟨p,_,h⟩:=List.mem_flatMap.1 hu
 simp only [cellWd,List.mem_cons,List.not_mem_nil,or_false] at h
 rcases h with rfl | rfl <;> rfl
end GH
namespace GH
open Go.RowKit GK
def pgOf (s : LM.Sh) : FM.Pg:=⟨s.page,(LM.fillN s).1⟩
def newF (l : List AM.Ar) (hs : List LM.Sh) (en slots : Int) : FM.Fl × Int :=
 if ¬ LM.checkL l hs en = 0 then (fl0,LM.checkL l hs en) else if ¬ (0 <= slots /\ slots <= 512) then (fl0,3) else if slots < AM.totalN l then (fl0,8)
 else (⟨slots,[⟨true,l,hs.map pgOf⟩],[FW.beginN en],[]⟩,0)
theorem run_range (p : Int) : ∀ n,FM.run p n = (List.range n).map (fun m : Nat=>p + (m : Int)):=fun n=>by
 induction n with
 | zero=>rfl
 | succ n ih=>rw [FM.run_succ,ih,List.range_succ,List.map_append];rfl
theorem pages_eq (l : List AM.Ar) : LM.pagesOf l = FM.pagesOf l:=by
 have : ∀ n,n <= l.length -> LM.pagesTo l n = FM.pagesTo l n:=fun n=>by
  induction n with
  | zero=>intro _;unfold FM.pagesTo;rfl
  | succ n ih =>
   intro h
   rw [FM.pagesTo_succ l n (by omega),<- ih (by omega),run_range]
   rfl
 unfold LM.pagesOf
 rw [this l.length (Nat.le_refl _)]
 unfold FM.pagesTo
 rw [List.take_length]
theorem check_parts {l : List AM.Ar} {hs : List LM.Sh} {en : Int} (h : LM.checkL l hs en = 0) : AM.checkN l = 0 /\ hs.map (·.page) = LM.pagesOf l /\ (∀ i,i < hs.length -> LM.sheetB (LM.shAt hs i) = true):=by
 unfold LM.checkL at h
 by_cases c : AM.checkN l = 0
 · rw [if_pos c] at h
   by_cases d : (!LM.anyZeroB l && (LM.forEachB l hs && (LM.sheetsB hs && LM.entB l en))) = true
   · simp only [Bool.and_eq_true] at d
     refine ⟨c,?_,?_⟩
     · have:=d.2.1
       unfold LM.forEachB at this
       exact of_decide_eq_true this
     · exact LM.sheetsTo_ok hs hs.length d.2.2.1
   · rw [if_neg d] at h;cases h
 · rw [if_neg c] at h;exact (c h).elim
theorem sheets_len {l : List AM.Ar} {hs : List LM.Sh} {en : Int} (h : LM.checkL l hs en = 0) : (hs.length : Int) = AM.totalN l /\ hs.length <= 65025:=by
 obtain ⟨h1,h2,_⟩:=check_parts h
 have e : hs.length = (FM.pagesOf l).length:=by rw [<- pages_eq,<- h2,List.length_map]
 have t:=FM.total_pages h1
 have b:=FW.total_bd l
 omega
theorem fill_size {s : LM.Sh} (h : LM.sheetB s = true) : (LM.fillN s).1.size = 16:=by
 unfold LM.fillN
 rw [if_pos h]
 unfold LM.sheetB LM.headB at h
 simp only [Bool.and_eq_true,decide_eq_true_eq] at h
 exact LM.laidTo_size s.data s.fixes h.1.2.2 s.fixes.length h.2
theorem fit_begin {en : Int} (he : M.I64 en) : FitPs [FW.beginN en]:=fun k hk=>by
 have hk' : k < 1:=hk
 obtain rfl : k = 0:=by omega
 exact ⟨fun j _=>by show M.I64 0;unfold M.I64;omega,he⟩
end GH
namespace GR
open Go.RowKit GK GH
open FW (hideC add_below)
set_option maxHeartbeats 1000000 in
theorem first_any (va vs : Value) (en : Int) (w : World) (hva : ∃ ao n c,va = .slice ao n c) (hvs : ∃ ao n c,vs = .slice ao n c) :
  Calls Tryz.prog 30 #[.agg #[va,vs,.int .i64 en]] w fun e w'=>∃ b,e = .returned (.slice (some ⟨b,0,none⟩) 1 1) /\ w.heap.size <= b /\ w'.heap[b]? = some (.cells #[.int .i64 0,.int .i64 0,.int .i64 0,.int .i64 0,.int .i64 0,.int .i64 0,.int .i64 0,.int .i64 0,.int .i64 en,.int .i64 1,.int .i64 0,.int .i64 0,.int .i64 0] 70 (0,0)) /\ Below w.heap.size w w':=by
 obtain ⟨a1,n1,c1,rfl⟩:=hva
 obtain ⟨a2,n2,c2,rfl⟩:=hvs
 have HB:=hideC (((Below.refl w.heap.size w).alloc (Nat.le_refl _) (.cells #[.slice a1 n1 c1,.slice a2 n2 c2,.int .i64 en] 25)).alloc (by simp) (.cells #[.int .i64 0,.int .i64 0,.int .i64 0,.int .i64 0,.int .i64 0,.int .i64 0,.int .i64 0,.int .i64 0,.int .i64 en,.int .i64 1,.int .i64 0,.int .i64 0,.int .i64 0] 70))
 have HN : Hid (((w.alloc (.cells #[.slice a1 n1 c1,.slice a2 n2 c2,.int .i64 en] 25)).alloc (.cells #[.int .i64 0,.int .i64 0,.int .i64 0,.int .i64 0,.int .i64 0,.int .i64 0,.int .i64 0,.int .i64 0,.int .i64 en,.int .i64 1,.int .i64 0,.int .i64 0,.int .i64 0] 70)).heap[w.heap.size + 1]? = some (.cells #[.int .i64 0,.int .i64 0,.int .i64 0,.int .i64 0,.int .i64 0,.int .i64 0,.int .i64 0,.int .i64 0,.int .i64 en,.int .i64 1,.int .i64 0,.int .i64 0,.int .i64 0] 70 (0,0))):=by
  have:=B.new (w.alloc (.cells #[.slice a1 n1 c1,.slice a2 n2 c2,.int .i64 en] 25)) #[.int .i64 0,.int .i64 0,.int .i64 0,.int .i64 0,.int .i64 0,.int .i64 0,.int .i64 0,.int .i64 0,.int .i64 en,.int .i64 1,.int .i64 0,.int .i64 0,.int .i64 0] 70
  show _ = _
  simpa using this
 go_enter Tryz.func30,Tryz.ntmps30
 go_wp2
 go_ret
 exact ⟨w.heap.size + 1,rfl,by omega,HN.out,HB.out⟩
end GR
end Go.Proofs.YtkdigjpejnebkaaGreat
