import Derived.Test.YtkdigjpejnebkaaGreatGS15
set_option linter.unusedVariables false
set_option maxRecDepth 100000
set_option linter.unusedSimpArgs false
namespace Go.Proofs.YtkdigjpejnebkaaGreat
namespace GW
open Go.RowKit GK GG
open FW (hideC add_below)
variable {σ : Type} {Hd : World -> (Nat -> Prop) -> σ -> Prop} {Ok : σ -> List Bool -> Prop} {o : Ops σ} {lo mb gb : Nat} {D : Nat -> Prop} {vr vo : Value} {st : St σ}
set_option maxHeartbeats 4000000 in
theorem fork_any (C : MemC lo mb Hd Ok o) (k : Nat) (w : World) (h : Grp Hd lo mb gb w D vr vo st) (hok : GOk Ok st) (hk : k < st.ps.length) (h1 : (FM.prAt st.ps k).st = 1) :
  Calls Tryz.prog 147 #[.pointer (some ⟨gb,0,none⟩),.int .i64 (k : Int)] w fun e w'=>e = .returned (.int .i64 (callG o st k 5).1) /\ Left Hd lo mb gb w D vr vo (callG o st k 5).2 w':=by
 have HG:=hideC h
 have HC:=hideC C
 have HFK:=hideC (C.fork w D st.mem _ k h.mem hok.mem (live_at k hk h1))
 have g0 : w.cell? ⟨gb,0,none⟩ = some (.iface 144 (.pointer (some ⟨mb,0,none⟩))):=B.cell h.head 0 rfl
 have hmF:=methodFork ⟨mb,0,none⟩
 have haF:=aheadFork ⟨mb,0,none⟩
 have hkl : k < 9223372036854775807:=by have:=C.ok.few _ _ hok.mem;unfold running at this;rw [List.length_map] at this;omega
 obtain ⟨fv,hfv⟩ : ∃ fv,fv = (o.fork st.mem k).1:=⟨_,rfl⟩
 have HCA : Hid (callG o st k 5 = if fv = 0 then ((st.ps.length : Int),{ st with mem:=(o.fork st.mem k).2,ps:=st.ps ++ [FM.prAt st.ps k] }) else (-1,{ st with mem:=(o.fork st.mem k).2 })):=by rw [hfv];exact rfl
 rw [<- hfv] at HFK
 obtain ⟨fm,hfm⟩ : ∃ fm,fm = (o.fork st.mem k).2:=⟨_,rfl⟩
 rw [<- hfm] at HFK HCA
 obtain ⟨R,hR⟩ : ∃ R,R = callG o st k 5:=⟨_,rfl⟩
 rw [<- hR] at HCA ⊢
 clear h C hfv hfm hR
 by_cases hf0 : fv = 0
 · subst hf0
   have HR : Hid (R = ((st.ps.length : Int),{ st with mem:=fm,ps:=st.ps ++ [FM.prAt st.ps k] })):=by rw [HCA.out,if_pos rfl];exact rfl
   clear HCA
   go_enter Tryz.func147,Tryz.ntmps147
   go_wp2_with (go_at_call 191;refine HFK.out.mono ?_;rintro e w1 ⟨D1,rfl,hm1,hk1,hd1⟩;have HG1:=hideC (HG.out.turn HC.out hm1 hk1 hd1);have HK1:=hideC hk1;have HD1:=hideC hd1;clear hm1 hk1 hd1;have e1:=B.cell (v:=vr) HG1.out.head 1 rfl)
   obtain ⟨pb,cap,hvr,hpb,hpc,hpf⟩:=HG1.out.proc k hk
   have HVR:=hideC hvr
   have HPC:=hideC hpc
   have HST:=hideC HR.out
   obtain ⟨q,hq⟩ : ∃ q,q = FM.prAt st.ps k:=⟨_,rfl⟩
   simp only at HPC
   rw [<- hq] at HPC HST
   have hn4 : st.ps.length <= 4:=by have:=HC.out.ok.few _ _ hok.mem;unfold running at this;rw [List.length_map] at this;exact this
   obtain ⟨n,hn⟩ : ∃ n,n = st.ps.length:=⟨_,rfl⟩
   simp only at HVR hvr
   rw [<- hn] at HVR hvr hn4 hk
   have HN:=hideC hn
   subst hvr
   have hki : (k : Int) < (n : Int):=by omega
   clear hq hn hpc hpf HR hok h1
   have c0 : w1.cell? ⟨pb,k * 13,none⟩ = some (.int .i64 (q.r 0)):=HPC.out 0 (by omega)
   have c1 : w1.cell? ⟨pb,k * 13 + 1,none⟩ = some (.int .i64 (q.r 1)):=HPC.out 1 (by omega)
   have c2 : w1.cell? ⟨pb,k * 13 + 2,none⟩ = some (.int .i64 (q.r 2)):=HPC.out 2 (by omega)
   have c3 : w1.cell? ⟨pb,k * 13 + 3,none⟩ = some (.int .i64 (q.r 3)):=HPC.out 3 (by omega)
   have c4 : w1.cell? ⟨pb,k * 13 + 4,none⟩ = some (.int .i64 (q.r 4)):=HPC.out 4 (by omega)
   have c5 : w1.cell? ⟨pb,k * 13 + 5,none⟩ = some (.int .i64 (q.r 5)):=HPC.out 5 (by omega)
   have c6 : w1.cell? ⟨pb,k * 13 + 6,none⟩ = some (.int .i64 (q.r 6)):=HPC.out 6 (by omega)
   have c7 : w1.cell? ⟨pb,k * 13 + 7,none⟩ = some (.int .i64 (q.r 7)):=HPC.out 7 (by omega)
   have c8 : w1.cell? ⟨pb,k * 13 + 8,none⟩ = some (.int .i64 q.pc):=HPC.out 8 (by omega)
   have c9 : w1.cell? ⟨pb,k * 13 + 9,none⟩ = some (.int .i64 q.st):=HPC.out 9 (by omega)
   have c10 : w1.cell? ⟨pb,k * 13 + 10,none⟩ = some (.int .i64 q.cd):=HPC.out 10 (by omega)
   have c11 : w1.cell? ⟨pb,k * 13 + 11,none⟩ = some (.int .i64 q.fk):=HPC.out 11 (by omega)
   have c12 : w1.cell? ⟨pb,k * 13 + 12,none⟩ = some (.int .i64 q.fa):=HPC.out 12 (by omega)
   have e1a : ∀ ob,(w1.alloc ob).cell? ⟨gb,1,none⟩ = some (.slice (some ⟨pb,0,none⟩) n cap):=fun ob=>B.cell (B.alloc HG1.out.head ob) 1 rfl
   obtain ⟨i0,hin,hz0,hz1,hz2⟩:=info_parts infoPr
   have HIN:=hideC hin
   have HZ0:=hideC hz0
   have HZ1:=hideC hz1
   have HZ2:=hideC hz2
   have HOW : Hid ((w1.alloc (.cells #[.int .i64 (q.r 0),.int .i64 (q.r 1),.int .i64 (q.r 2),.int .i64 (q.r 3),.int .i64 (q.r 4),.int .i64 (q.r 5),.int .i64 (q.r 6),.int .i64 (q.r 7),.int .i64 q.pc,.int .i64 q.st,.int .i64 q.cd,.int .i64 q.fk,.int .i64 q.fa] 70)).ownsRow lo 70 13 (.slice (some ⟨pb,0,none⟩) n cap) n (st.ps.flatMap cellPr)):=by
    have:=HG1.out.procs.alloc (.cells #[.int .i64 (q.r 0),.int .i64 (q.r 1),.int .i64 (q.r 2),.int .i64 (q.r 3),.int .i64 (q.r 4),.int .i64 (q.r 5),.int .i64 (q.r 6),.int .i64 (q.r 7),.int .i64 q.pc,.int .i64 q.st,.int .i64 q.cd,.int .i64 q.fk,.int .i64 q.fa] 70)
    simp only at this
    rw [<- HN.out] at this
    exact this
   have HLO : Hid (lo <= (w1.alloc (.cells #[.int .i64 (q.r 0),.int .i64 (q.r 1),.int .i64 (q.r 2),.int .i64 (q.r 3),.int .i64 (q.r 4),.int .i64 (q.r 5),.int .i64 (q.r 6),.int .i64 (q.r 7),.int .i64 q.pc,.int .i64 q.st,.int .i64 q.cd,.int .i64 q.fk,.int .i64 q.fa] 70)).heap.size):=by show _ <= _;rw [World.size_alloc];have:=HG1.out.base;have:=B.isLt HG1.out.head;omega
   have HNW : Hid (0 < 1 -> ∃ ad,some (⟨w1.heap.size,0,none⟩ : Addr) = some ad /\ ∀ j u,(cellPr q)[j]? = some u -> ((w1.alloc (.cells #[.int .i64 (q.r 0),.int .i64 (q.r 1),.int .i64 (q.r 2),.int .i64 (q.r 3),.int .i64 (q.r 4),.int .i64 (q.r 5),.int .i64 (q.r 6),.int .i64 (q.r 7),.int .i64 q.pc,.int .i64 q.st,.int .i64 q.cd,.int .i64 q.fk,.int .i64 q.fa] 70)).drew).cell? (ad.add j) = some u):=fun _=>⟨_,rfl,B.news (w:=(w1.alloc (.cells #[.int .i64 (q.r 0),.int .i64 (q.r 1),.int .i64 (q.r 2),.int .i64 (q.r 3),.int .i64 (q.r 4),.int .i64 (q.r 5),.int .i64 (q.r 6),.int .i64 (q.r 7),.int .i64 q.pc,.int .i64 q.st,.int .i64 q.cd,.int .i64 q.fk,.int .i64 q.fa] 70)).drew) (B.new w1 #[.int .i64 (q.r 0),.int .i64 (q.r 1),.int .i64 (q.r 2),.int .i64 (q.r 3),.int .i64 (q.r 4),.int .i64 (q.r 5),.int .i64 (q.r 6),.int .i64 (q.r 7),.int .i64 q.pc,.int .i64 q.st,.int .i64 q.cd,.int .i64 q.fk,.int .i64 q.fa] 70)⟩
   clear hin hz0 hz1 hz2 HPC
   go_region_law (refine step_append_src (P:=Tryz.prog) rfl _ _ 27 rfl lo 70 i0 (.agg #[.int .i64 0,.int .i64 0,.int .i64 0,.int .i64 0,.int .i64 0,.int .i64 0,.int .i64 0,.int .i64 0,.int .i64 0,.int .i64 0,.int .i64 0,.int .i64 0,.int .i64 0]) 13 104 Tryz.underlying27 HIN.out HZ0.out HZ1.out HZ2.out rfl (by decide) (.slice (some ⟨pb,0,none⟩) n cap) n (st.ps.flatMap cellPr) rfl HOW.out.drew (some ⟨w1.heap.size,0,none⟩) 1 1 (cellPr q) rfl rfl HNW.out (by intro u hu;simp [cellPr] at hu;rcases hu with rfl | rfl | rfl | rfl | rfl | rfl | rfl | rfl | rfl | rfl | rfl | rfl | rfl <;> rfl) (by unfold maxLen;omega) (by omega) HLO.out ?_;intro v3 w4 hown hgr hat;obtain ⟨a4,c4,rfl,_⟩:=row_form hown;have HOW4:=hideC hown;have HGR4 : Hid ((w1.alloc _).grownBy w4 _):=⟨hgr.os,hgr.tape,hgr.output,hgr.size,hgr.block⟩;have HAT4:=hideC hat;have hM4:=B.grown (B.alloc HG1.out.head (.cells #[.int .i64 (q.r 0),.int .i64 (q.r 1),.int .i64 (q.r 2),.int .i64 (q.r 3),.int .i64 (q.r 4),.int .i64 (q.r 5),.int .i64 (q.r 6),.int .i64 (q.r 7),.int .i64 q.pc,.int .i64 q.st,.int .i64 q.cd,.int .i64 q.fk,.int .i64 q.fa] 70)) HGR4.out (fun e=>HG1.out.n2 e.symm);have y1 : w4.cell? ⟨gb,1,none⟩ = some (.slice (some ⟨pb,0,none⟩) n cap):=B.cell hM4 1 rfl;have y2 : w4.frozen? ⟨gb,1,none⟩ = false:=B.free hM4 1;clear hown hgr hat hM4)
   all_goals
    go_wp2
    go_ret
    have hp:=HG1.out.pushP HC.out (p:=q) HGR4.out (by show w4.ownsRow lo _ 13 _ (st.ps.length + 1) (st.ps.flatMap cellPr ++ cellPr q);rw [<- HN.out];exact HOW4.out) HAT4.out
    rw [HST.out]
    refine ⟨by rw [<- HN.out];go_num,?_⟩
    obtain ⟨hA,hB⟩ : Kp (grpD gb D (.slice (some ⟨pb,0,none⟩) n cap) vo) w w1 /\ ∀ b,grpD gb D1 (.slice (some ⟨pb,0,none⟩) n cap) vo b -> grpD gb D (.slice (some ⟨pb,0,none⟩) n cap) vo b ∨ w.heap.size <= b:=⟨HK1.out.mono (fun b _ g=>.inr (.inl g)),fun b hb=>by
     rcases hb with g | g | g | g
     · exact .inl (.inl g)
     · rcases HD1.out b g with x | x
       · exact .inl (.inr (.inl x))
       · exact .inr x
     · exact .inl (.inr (.inr (.inl g)))
     · exact .inl (.inr (.inr (.inr g)))⟩
    exact Left.trans hA hB hp
 · have HR : Hid (R = (-1,{ st with mem:=fm })):=by rw [HCA.out,if_neg hf0];exact rfl
   have hfi : (fv == 0) = false:=by rw [beq_eq_false_iff_ne];exact hf0
   clear HCA hf0
   go_enter Tryz.func147,Tryz.ntmps147
   go_wp2_with (go_at_call 191;refine HFK.out.mono ?_;rintro e w1 ⟨D1,rfl,hm1,hk1,hd1⟩;have HL1:=hideC (Left.ofTurn HC.out HG.out hm1 hk1 hd1);clear hm1 hk1 hd1)
   go_ret
   rw [HR.out]
   exact ⟨rfl,HL1.out⟩
def mixP (N q : PM.Pr) (j : Nat) : PM.Pr:=⟨fun i=>if i < j then N.r i else q.r i,if 8 < j then N.pc else q.pc,if 9 < j then N.st else q.st,if 10 < j then N.cd else q.cd,if 11 < j then N.fk else q.fk,if 12 < j then N.fa else q.fa⟩
theorem mix0 (N q : PM.Pr) : cellPr (mixP N q 0) = cellPr q:=rfl
theorem mix13 (N q : PM.Pr) : cellPr (mixP N q 13) = cellPr N:=rfl
theorem mix_0 (N q : PM.Pr) : cellPr (mixP N q 1) = (cellPr (mixP N q 0)).set 0 (.int .i64 (N.r 0)):=rfl
theorem mix_1 (N q : PM.Pr) : cellPr (mixP N q 2) = (cellPr (mixP N q 1)).set 1 (.int .i64 (N.r 1)):=rfl
theorem mix_2 (N q : PM.Pr) : cellPr (mixP N q 3) = (cellPr (mixP N q 2)).set 2 (.int .i64 (N.r 2)):=rfl
theorem mix_3 (N q : PM.Pr) : cellPr (mixP N q 4) = (cellPr (mixP N q 3)).set 3 (.int .i64 (N.r 3)):=rfl
theorem mix_4 (N q : PM.Pr) : cellPr (mixP N q 5) = (cellPr (mixP N q 4)).set 4 (.int .i64 (N.r 4)):=rfl
theorem mix_5 (N q : PM.Pr) : cellPr (mixP N q 6) = (cellPr (mixP N q 5)).set 5 (.int .i64 (N.r 5)):=rfl
theorem mix_6 (N q : PM.Pr) : cellPr (mixP N q 7) = (cellPr (mixP N q 6)).set 6 (.int .i64 (N.r 6)):=rfl
theorem mix_7 (N q : PM.Pr) : cellPr (mixP N q 8) = (cellPr (mixP N q 7)).set 7 (.int .i64 (N.r 7)):=rfl
theorem mix_8 (N q : PM.Pr) : cellPr (mixP N q 9) = (cellPr (mixP N q 8)).set 8 (.int .i64 N.pc):=rfl
theorem mix_9 (N q : PM.Pr) : cellPr (mixP N q 10) = (cellPr (mixP N q 9)).set 9 (.int .i64 N.st):=rfl
theorem mix_10 (N q : PM.Pr) : cellPr (mixP N q 11) = (cellPr (mixP N q 10)).set 10 (.int .i64 N.cd):=rfl
theorem mix_11 (N q : PM.Pr) : cellPr (mixP N q 12) = (cellPr (mixP N q 11)).set 11 (.int .i64 N.fk):=rfl
theorem mix_12 (N q : PM.Pr) : cellPr (mixP N q 13) = (cellPr (mixP N q 12)).set 12 (.int .i64 N.fa):=rfl
theorem flat_same {α : Type} (f : α -> List Value) (d : α) : ∀ (l : List α) (k : Nat) (x : α),k < l.length -> f x = f (l.getD k d) -> (l.set k x).flatMap f = l.flatMap f
 | [],k,x,h,_=>by simp at h
 | a :: r,0,x,h,e=>by
  have e' : f x = f a:=e
  rw [List.set_cons_zero,List.flatMap_cons,List.flatMap_cons,e']
 | a :: r,k + 1,x,h,e=>by
  rw [List.set_cons_succ,List.flatMap_cons,List.flatMap_cons,flat_same f d r k x (by simpa using h) e]
theorem flat_next (ps : List PM.Pr) (k : Nat) (hk : k < ps.length) (a b : PM.Pr) (j : Nat) (hj : j < 13) (v : Value) (e : cellPr b = (cellPr a).set j v) : (ps.set k b).flatMap cellPr = ((ps.set k a).flatMap cellPr).set (k * 13 + j) v:=by
 have:=rows_set cellPr 13 cellPr_len FM.pr0 b j v hj (ps.set k a) k (by rw [List.length_set];exact hk) (by
  rw [e,List.getD_eq_getElem?_getD,List.getElem?_set_self hk];rfl)
 rw [List.set_set] at this
 exact this
theorem row_set13 {w : World} {lo pb n cap : Nat} {ps : List PM.Pr} (hr : w.ownsRow lo 70 13 (.slice (some ⟨pb,0,none⟩) n cap) n (ps.flatMap cellPr)) (k : Nat) (hk : k < ps.length) (N : PM.Pr) :
  (((((((((((((w.setCell ⟨pb,k * 13,none⟩ (.int .i64 (N.r 0))).setCell ⟨pb,k * 13 + 1,none⟩ (.int .i64 (N.r 1))).setCell ⟨pb,k * 13 + 2,none⟩ (.int .i64 (N.r 2))).setCell ⟨pb,k * 13 + 3,none⟩ (.int .i64 (N.r 3))).setCell ⟨pb,k * 13 + 4,none⟩ (.int .i64 (N.r 4))).setCell ⟨pb,k * 13 + 5,none⟩ (.int .i64 (N.r 5))).setCell ⟨pb,k * 13 + 6,none⟩ (.int .i64 (N.r 6))).setCell ⟨pb,k * 13 + 7,none⟩ (.int .i64 (N.r 7))).setCell ⟨pb,k * 13 + 8,none⟩ (.int .i64 N.pc)).setCell ⟨pb,k * 13 + 9,none⟩ (.int .i64 N.st)).setCell ⟨pb,k * 13 + 10,none⟩ (.int .i64 N.cd)).setCell ⟨pb,k * 13 + 11,none⟩ (.int .i64 N.fk)).setCell ⟨pb,k * 13 + 12,none⟩ (.int .i64 N.fa)).ownsRow lo 70 13 (.slice (some ⟨pb,0,none⟩) n cap) n ((ps.set k N).flatMap cellPr):=by
 have h0 : (ps.set k (mixP N (FM.prAt ps k) 0)).flatMap cellPr = ps.flatMap cellPr:=flat_same cellPr FM.pr0 ps k _ hk (mix0 N (FM.prAt ps k))
 have h13 : (ps.set k N).flatMap cellPr = (ps.set k (mixP N (FM.prAt ps k) 13)).flatMap cellPr:=by
  have:=flat_same cellPr FM.pr0 (ps.set k (mixP N (FM.prAt ps k) 13)) k N (by rw [List.length_set];exact hk) (by rw [List.getD_eq_getElem?_getD,List.getElem?_set_self hk];exact (mix13 N (FM.prAt ps k)).symm)
  rw [List.set_set] at this
  exact this
 rw [<- h0] at hr
 rw [h13]
 have r0:=row_set hr (k * 13 + 0) (.int .i64 (N.r 0))
 rw [<- flat_next ps k hk _ _ 0 (by omega) _ (mix_0 N (FM.prAt ps k))] at r0
 have r1:=row_set r0 (k * 13 + 1) (.int .i64 (N.r 1))
 rw [<- flat_next ps k hk _ _ 1 (by omega) _ (mix_1 N (FM.prAt ps k))] at r1
 have r2:=row_set r1 (k * 13 + 2) (.int .i64 (N.r 2))
 rw [<- flat_next ps k hk _ _ 2 (by omega) _ (mix_2 N (FM.prAt ps k))] at r2
 have r3:=row_set r2 (k * 13 + 3) (.int .i64 (N.r 3))
 rw [<- flat_next ps k hk _ _ 3 (by omega) _ (mix_3 N (FM.prAt ps k))] at r3
 have r4:=row_set r3 (k * 13 + 4) (.int .i64 (N.r 4))
 rw [<- flat_next ps k hk _ _ 4 (by omega) _ (mix_4 N (FM.prAt ps k))] at r4
 have r5:=row_set r4 (k * 13 + 5) (.int .i64 (N.r 5))
 rw [<- flat_next ps k hk _ _ 5 (by omega) _ (mix_5 N (FM.prAt ps k))] at r5
 have r6:=row_set r5 (k * 13 + 6) (.int .i64 (N.r 6))
 rw [<- flat_next ps k hk _ _ 6 (by omega) _ (mix_6 N (FM.prAt ps k))] at r6
 have r7:=row_set r6 (k * 13 + 7) (.int .i64 (N.r 7))
 rw [<- flat_next ps k hk _ _ 7 (by omega) _ (mix_7 N (FM.prAt ps k))] at r7
 have r8:=row_set r7 (k * 13 + 8) (.int .i64 N.pc)
 rw [<- flat_next ps k hk _ _ 8 (by omega) _ (mix_8 N (FM.prAt ps k))] at r8
 have r9:=row_set r8 (k * 13 + 9) (.int .i64 N.st)
 rw [<- flat_next ps k hk _ _ 9 (by omega) _ (mix_9 N (FM.prAt ps k))] at r9
 have r10:=row_set r9 (k * 13 + 10) (.int .i64 N.cd)
 rw [<- flat_next ps k hk _ _ 10 (by omega) _ (mix_10 N (FM.prAt ps k))] at r10
 have r11:=row_set r10 (k * 13 + 11) (.int .i64 N.fk)
 rw [<- flat_next ps k hk _ _ 11 (by omega) _ (mix_11 N (FM.prAt ps k))] at r11
 have r12:=row_set r11 (k * 13 + 12) (.int .i64 N.fa)
 rw [<- flat_next ps k hk _ _ 12 (by omega) _ (mix_12 N (FM.prAt ps k))] at r12
 exact r12
theorem kp_set13 {D : Nat -> Prop} (w : World) (pb k : Nat) (N : PM.Pr) (h : D pb) : Kp D w (((((((((((((w.setCell ⟨pb,k * 13,none⟩ (.int .i64 (N.r 0))).setCell ⟨pb,k * 13 + 1,none⟩ (.int .i64 (N.r 1))).setCell ⟨pb,k * 13 + 2,none⟩ (.int .i64 (N.r 2))).setCell ⟨pb,k * 13 + 3,none⟩ (.int .i64 (N.r 3))).setCell ⟨pb,k * 13 + 4,none⟩ (.int .i64 (N.r 4))).setCell ⟨pb,k * 13 + 5,none⟩ (.int .i64 (N.r 5))).setCell ⟨pb,k * 13 + 6,none⟩ (.int .i64 (N.r 6))).setCell ⟨pb,k * 13 + 7,none⟩ (.int .i64 (N.r 7))).setCell ⟨pb,k * 13 + 8,none⟩ (.int .i64 N.pc)).setCell ⟨pb,k * 13 + 9,none⟩ (.int .i64 N.st)).setCell ⟨pb,k * 13 + 10,none⟩ (.int .i64 N.cd)).setCell ⟨pb,k * 13 + 11,none⟩ (.int .i64 N.fk)).setCell ⟨pb,k * 13 + 12,none⟩ (.int .i64 N.fa)) :=
 (((((((((((((Kp.refl D w).trans (Kp.set D _ ⟨pb,k * 13,none⟩ _ h) (fun _ _ g=>g)).trans (Kp.set D _ ⟨pb,k * 13 + 1,none⟩ _ h) (fun _ _ g=>g)).trans (Kp.set D _ ⟨pb,k * 13 + 2,none⟩ _ h) (fun _ _ g=>g)).trans (Kp.set D _ ⟨pb,k * 13 + 3,none⟩ _ h) (fun _ _ g=>g)).trans (Kp.set D _ ⟨pb,k * 13 + 4,none⟩ _ h) (fun _ _ g=>g)).trans (Kp.set D _ ⟨pb,k * 13 + 5,none⟩ _ h) (fun _ _ g=>g)).trans (Kp.set D _ ⟨pb,k * 13 + 6,none⟩ _ h) (fun _ _ g=>g)).trans (Kp.set D _ ⟨pb,k * 13 + 7,none⟩ _ h) (fun _ _ g=>g)).trans (Kp.set D _ ⟨pb,k * 13 + 8,none⟩ _ h) (fun _ _ g=>g)).trans (Kp.set D _ ⟨pb,k * 13 + 9,none⟩ _ h) (fun _ _ g=>g)).trans (Kp.set D _ ⟨pb,k * 13 + 10,none⟩ _ h) (fun _ _ g=>g)).trans (Kp.set D _ ⟨pb,k * 13 + 11,none⟩ _ h) (fun _ _ g=>g)).trans (Kp.set D _ ⟨pb,k * 13 + 12,none⟩ _ h) (fun _ _ g=>g)
section
variable {σ : Type} {Hd : World -> (Nat -> Prop) -> σ -> Prop} {Ok : σ -> List Bool -> Prop} {o : Ops σ} {lo mb gb : Nat} {w w' : World} {D : Nat -> Prop} {vo : Value} {st : St σ}
theorem Grp.setP (C : MemC lo mb Hd Ok o) {pb n cap : Nat} (h : Grp Hd lo mb gb w D (.slice (some ⟨pb,0,none⟩) n cap) vo st) (k : Nat) (hk : k < st.ps.length) (hn : n = st.ps.length) (N : PM.Pr) :
  Left Hd lo mb gb w D (.slice (some ⟨pb,0,none⟩) n cap) vo { st with ps:=st.ps.set k N } (((((((((((((w.setCell ⟨pb,k * 13,none⟩ (.int .i64 (N.r 0))).setCell ⟨pb,k * 13 + 1,none⟩ (.int .i64 (N.r 1))).setCell ⟨pb,k * 13 + 2,none⟩ (.int .i64 (N.r 2))).setCell ⟨pb,k * 13 + 3,none⟩ (.int .i64 (N.r 3))).setCell ⟨pb,k * 13 + 4,none⟩ (.int .i64 (N.r 4))).setCell ⟨pb,k * 13 + 5,none⟩ (.int .i64 (N.r 5))).setCell ⟨pb,k * 13 + 6,none⟩ (.int .i64 (N.r 6))).setCell ⟨pb,k * 13 + 7,none⟩ (.int .i64 (N.r 7))).setCell ⟨pb,k * 13 + 8,none⟩ (.int .i64 N.pc)).setCell ⟨pb,k * 13 + 9,none⟩ (.int .i64 N.st)).setCell ⟨pb,k * 13 + 10,none⟩ (.int .i64 N.cd)).setCell ⟨pb,k * 13 + 11,none⟩ (.int .i64 N.fk)).setCell ⟨pb,k * 13 + 12,none⟩ (.int .i64 N.fa)):=by
 have hb : blk (.slice (some ⟨pb,0,none⟩) n cap) pb:=rfl
 have kS : Kp (fun b=>b = pb) w _:=kp_set13 w pb k N rfl
 refine ⟨D,.slice (some ⟨pb,0,none⟩) n cap,vo,⟨kS.keep h.head (fun e=>h.n2 (e ▸ hb)),C.kp _ _ _ _ _ h.mem kS (fun b hd e=>h.n4 pb hb (e ▸ hd)),?_,kS.row h.outs (fun g hg e=>h.n6 pb hb (e ▸ hg)),h.base,h.n1,h.n2,h.n3,h.n4,h.n5,h.n6⟩,kS.mono (fun b _ e=>.inr (.inr (.inl (e ▸ hb)))),fun b hb=>.inl hb⟩
 have hp:=h.procs
 rw [<- hn] at hp
 show World.ownsRow _ lo _ 13 _ (st.ps.set k N).length _
 rw [List.length_set,<- hn]
 exact row_set13 hp k hk N
end
variable {σ : Type} {Hd : World -> (Nat -> Prop) -> σ -> Prop} {Ok : σ -> List Bool -> Prop} {o : Ops σ} {lo mb gb : Nat} {D : Nat -> Prop} {vr vo : Value} {st : St σ}
set_option maxHeartbeats 4000000 in
theorem call2 (C : MemC lo mb Hd Ok o) (k : Nat) (w : World) (h : Grp Hd lo mb gb w D vr vo st) (hok : GOk Ok st) (hk : k < st.ps.length) (h1 : (FM.prAt st.ps k).st = 1) :
  Calls Tryz.prog 128 #[.pointer (some ⟨gb,0,none⟩),.int .i64 (k : Int),.int .i64 2] w fun e w'=>e = .returned (.int .i64 (callG o st k 2).1) /\ Left Hd lo mb gb w D vr vo (callG o st k 2).2 w':=by
 have HG:=hideC h
 have HC:=hideC C
 obtain ⟨pb,cap,hvr,hpb,hpc,hpf⟩:=h.proc k hk
 have HPC:=hideC hpc
 have hlv:=live_at k hk h1
 have hfit:=hok.fit k hk
 have HOK:=hideC hok
 have HLV:=hideC hlv
 have HFT:=hideC hfit
 have hn4 : st.ps.length <= 4:=by have:=C.ok.few _ _ hok.mem;unfold running at this;rw [List.length_map] at this;exact this
 have HK1:=hideC hk
 have HH1:=hideC h1
 have HR : Hid (callG o st k 2 = ((o.map st.mem k ((FM.prAt st.ps k).r 0) ((FM.prAt st.ps k).r 1) ((FM.prAt st.ps k).r 2)).1,{ st with mem:=(o.map st.mem k ((FM.prAt st.ps k).r 0) ((FM.prAt st.ps k).r 1) ((FM.prAt st.ps k).r 2)).2 })):=rfl
 obtain ⟨q,hq⟩ : ∃ q,q = FM.prAt st.ps k:=⟨_,rfl⟩
 rw [<- hq] at HPC HFT
 have HQ:=hideC hq
 obtain ⟨n,hn⟩ : ∃ n,n = st.ps.length:=⟨_,rfl⟩
 rw [<- hn] at hvr hk hn4
 subst hvr
 have HN:=hideC hn
 have hki : (k : Int) < (n : Int):=by omega
 have g0 : w.cell? ⟨gb,0,none⟩ = some (.iface 144 (.pointer (some ⟨mb,0,none⟩))):=B.cell HG.out.head 0 rfl
 have g1 : w.cell? ⟨gb,1,none⟩ = some (.slice (some ⟨pb,0,none⟩) n cap):=B.cell HG.out.head 1 rfl
 have hgb:=B.isLt HG.out.head
 have c0 : w.cell? ⟨pb,k * 13,none⟩ = some (.int .i64 (q.r 0)):=HPC.out 0 (by omega)
 have c1 : w.cell? ⟨pb,k * 13 + 1,none⟩ = some (.int .i64 (q.r 1)):=HPC.out 1 (by omega)
 have c2 : w.cell? ⟨pb,k * 13 + 2,none⟩ = some (.int .i64 (q.r 2)):=HPC.out 2 (by omega)
 have c3 : w.cell? ⟨pb,k * 13 + 3,none⟩ = some (.int .i64 (q.r 3)):=HPC.out 3 (by omega)
 have c4 : w.cell? ⟨pb,k * 13 + 4,none⟩ = some (.int .i64 (q.r 4)):=HPC.out 4 (by omega)
 have c5 : w.cell? ⟨pb,k * 13 + 5,none⟩ = some (.int .i64 (q.r 5)):=HPC.out 5 (by omega)
 have c6 : w.cell? ⟨pb,k * 13 + 6,none⟩ = some (.int .i64 (q.r 6)):=HPC.out 6 (by omega)
 have c7 : w.cell? ⟨pb,k * 13 + 7,none⟩ = some (.int .i64 (q.r 7)):=HPC.out 7 (by omega)
 have HBX:=hideC ((Below.refl w.heap.size w).alloc (Nat.le_refl _) (.cells #[.int .i64 (q.r 0),.int .i64 (q.r 1),.int .i64 (q.r 2),.int .i64 (q.r 3),.int .i64 (q.r 4),.int .i64 (q.r 5),.int .i64 (q.r 6),.int .i64 (q.r 7)] 66))
 have BX:=hideC (B.new w #[.int .i64 (q.r 0),.int .i64 (q.r 1),.int .i64 (q.r 2),.int .i64 (q.r 3),.int .i64 (q.r 4),.int .i64 (q.r 5),.int .i64 (q.r 6),.int .i64 (q.r 7)] 66)
 clear hq hn hpc hpf h C HPC hok hlv hfit
 rw [<- HQ.out] at HR
 obtain ⟨RR,hRR⟩ : ∃ RR,RR = callG o st k 2:=⟨_,rfl⟩
 rw [<- hRR] at HR ⊢
 clear hRR
 have hm:=methodMap ⟨mb,0,none⟩
 have ha:=aheadMap ⟨mb,0,none⟩
 go_enter Tryz.func128,Tryz.ntmps128
 go_wp2_with fail
 obtain ⟨WA,hWA⟩ : ∃ WA,WA = w.alloc (.cells #[.int .i64 (q.r 0),.int .i64 (q.r 1),.int .i64 (q.r 2),.int .i64 (q.r 3),.int .i64 (q.r 4),.int .i64 (q.r 5),.int .i64 (q.r 6),.int .i64 (q.r 7)] 66):=⟨_,rfl⟩
 rw [<- hWA] at HBX BX ⊢
 obtain ⟨rb,hrb⟩ : ∃ rb,rb = w.heap.size:=⟨_,rfl⟩
 rw [<- hrb] at BX ⊢
 have HRB:=hideC hrb
 have HGA:=hideC (HG.out.below HC.out HBX.out)
 clear hWA hrb c0 c1 c2 c3 c4 c5 c6 c7
 have HMC:=hideC (HC.out.map WA.drew D st.mem _ k (q.r 0) (q.r 1) (q.r 2) (HC.out.kp _ _ _ (fun _=>False) _ HGA.out.mem (Kp.drew _ _) (fun _ _ g=>g)) HOK.out.mem HLV.out (HFT.out.1 0 (by omega)) (HFT.out.1 1 (by omega)))
 have HS : Hid (∀ V,Kp D WA V -> V.cell? ⟨gb,0,none⟩ = some (.iface 144 (.pointer (some ⟨mb,0,none⟩))) /\ V.cell? ⟨rb,0,none⟩ = some (.int .i64 (q.r 0)) /\ V.cell? ⟨rb,1,none⟩ = some (.int .i64 (q.r 1)) /\ V.cell? ⟨rb,2,none⟩ = some (.int .i64 (q.r 2))):=fun V hb=>by
  have h1:=hb.keep BX.out (fun g=>by have:=HC.out.dom _ _ _ HG.out.mem _ g;have:=HRB.out;omega)
  have h2:=hb.keep HGA.out.head HGA.out.n1
  exact ⟨B.cell h2 0 rfl,B.cell h1 0 rfl,B.cell h1 1 rfl,B.cell h1 2 rfl⟩
 have HS0:=hideC (HS.out _ (Kp.drew _ _))
 obtain ⟨X,hX⟩ : ∃ X,X = o.map st.mem k (q.r 0) (q.r 1) (q.r 2):=⟨_,rfl⟩
 rw [<- hX] at HMC HR
 clear hX
 go_region_held3 (fun V=>V.cell? ⟨gb,0,none⟩ = some (.iface 144 (.pointer (some ⟨mb,0,none⟩))) /\ V.cell? ⟨rb,0,none⟩ = some (.int .i64 (q.r 0)) /\ V.cell? ⟨rb,1,none⟩ = some (.int .i64 (q.r 1)) /\ V.cell? ⟨rb,2,none⟩ = some (.int .i64 (q.r 2))) (first | exact HS2.out | exact HS0.out)
  (first | (go_at_call 193;refine HMC.out.mono ?_;rintro e w2 ⟨D2,rfl,hm2,hk2,hd2⟩;have HK2 : Hid (Kp D WA w2):=(Kp.drew D WA).trans hk2 (fun _ _ g=>g);have HS2:=hideC (HS.out _ HK2.out);have HM2:=hideC hm2;have HD2:=hideC hd2;clear hm2 hk2 hd2))
 go_wp2
 go_ret
 rw [HR.out]
 exact ⟨rfl,Left.after HBX.out (Left.ofTurn HC.out HGA.out HM2.out HK2.out HD2.out)⟩
set_option maxHeartbeats 4000000 in
theorem call3 (C : MemC lo mb Hd Ok o) (k : Nat) (w : World) (h : Grp Hd lo mb gb w D vr vo st) (hok : GOk Ok st) (hk : k < st.ps.length) (h1 : (FM.prAt st.ps k).st = 1) :
  Calls Tryz.prog 128 #[.pointer (some ⟨gb,0,none⟩),.int .i64 (k : Int),.int .i64 3] w fun e w'=>e = .returned (.int .i64 (callG o st k 3).1) /\ Left Hd lo mb gb w D vr vo (callG o st k 3).2 w':=by
 have HG:=hideC h
 have HC:=hideC C
 obtain ⟨pb,cap,hvr,hpb,hpc,hpf⟩:=h.proc k hk
 have HPC:=hideC hpc
 have hlv:=live_at k hk h1
 have hfit:=hok.fit k hk
 have HOK:=hideC hok
 have HLV:=hideC hlv
 have HFT:=hideC hfit
 have hn4 : st.ps.length <= 4:=by have:=C.ok.few _ _ hok.mem;unfold running at this;rw [List.length_map] at this;exact this
 have HK1:=hideC hk
 have HH1:=hideC h1
 have HR : Hid (callG o st k 3 = ((o.unmap st.mem k ((FM.prAt st.ps k).r 0) ((FM.prAt st.ps k).r 1)).1,{ st with mem:=(o.unmap st.mem k ((FM.prAt st.ps k).r 0) ((FM.prAt st.ps k).r 1)).2 })):=rfl
 obtain ⟨q,hq⟩ : ∃ q,q = FM.prAt st.ps k:=⟨_,rfl⟩
 rw [<- hq] at HPC HFT
 have HQ:=hideC hq
 obtain ⟨n,hn⟩ : ∃ n,n = st.ps.length:=⟨_,rfl⟩
 rw [<- hn] at hvr hk hn4
 subst hvr
 have HN:=hideC hn
 have hki : (k : Int) < (n : Int):=by omega
 have g0 : w.cell? ⟨gb,0,none⟩ = some (.iface 144 (.pointer (some ⟨mb,0,none⟩))):=B.cell HG.out.head 0 rfl
 have g1 : w.cell? ⟨gb,1,none⟩ = some (.slice (some ⟨pb,0,none⟩) n cap):=B.cell HG.out.head 1 rfl
 have hgb:=B.isLt HG.out.head
 have c0 : w.cell? ⟨pb,k * 13,none⟩ = some (.int .i64 (q.r 0)):=HPC.out 0 (by omega)
 have c1 : w.cell? ⟨pb,k * 13 + 1,none⟩ = some (.int .i64 (q.r 1)):=HPC.out 1 (by omega)
 have c2 : w.cell? ⟨pb,k * 13 + 2,none⟩ = some (.int .i64 (q.r 2)):=HPC.out 2 (by omega)
 have c3 : w.cell? ⟨pb,k * 13 + 3,none⟩ = some (.int .i64 (q.r 3)):=HPC.out 3 (by omega)
 have c4 : w.cell? ⟨pb,k * 13 + 4,none⟩ = some (.int .i64 (q.r 4)):=HPC.out 4 (by omega)
 have c5 : w.cell? ⟨pb,k * 13 + 5,none⟩ = some (.int .i64 (q.r 5)):=HPC.out 5 (by omega)
 have c6 : w.cell? ⟨pb,k * 13 + 6,none⟩ = some (.int .i64 (q.r 6)):=HPC.out 6 (by omega)
 have c7 : w.cell? ⟨pb,k * 13 + 7,none⟩ = some (.int .i64 (q.r 7)):=HPC.out 7 (by omega)
 have HBX:=hideC ((Below.refl w.heap.size w).alloc (Nat.le_refl _) (.cells #[.int .i64 (q.r 0),.int .i64 (q.r 1),.int .i64 (q.r 2),.int .i64 (q.r 3),.int .i64 (q.r 4),.int .i64 (q.r 5),.int .i64 (q.r 6),.int .i64 (q.r 7)] 66))
 have BX:=hideC (B.new w #[.int .i64 (q.r 0),.int .i64 (q.r 1),.int .i64 (q.r 2),.int .i64 (q.r 3),.int .i64 (q.r 4),.int .i64 (q.r 5),.int .i64 (q.r 6),.int .i64 (q.r 7)] 66)
 clear hq hn hpc hpf h C HPC hok hlv hfit
 rw [<- HQ.out] at HR
 obtain ⟨RR,hRR⟩ : ∃ RR,RR = callG o st k 3:=⟨_,rfl⟩
 rw [<- hRR] at HR ⊢
 clear hRR
 have hm:=methodUnmap ⟨mb,0,none⟩
 have ha:=aheadUnmap ⟨mb,0,none⟩
 go_enter Tryz.func128,Tryz.ntmps128
 go_wp2_with fail
 obtain ⟨WA,hWA⟩ : ∃ WA,WA = w.alloc (.cells #[.int .i64 (q.r 0),.int .i64 (q.r 1),.int .i64 (q.r 2),.int .i64 (q.r 3),.int .i64 (q.r 4),.int .i64 (q.r 5),.int .i64 (q.r 6),.int .i64 (q.r 7)] 66):=⟨_,rfl⟩
 rw [<- hWA] at HBX BX ⊢
 obtain ⟨rb,hrb⟩ : ∃ rb,rb = w.heap.size:=⟨_,rfl⟩
 rw [<- hrb] at BX ⊢
 have HRB:=hideC hrb
 have HGA:=hideC (HG.out.below HC.out HBX.out)
 clear hWA hrb c0 c1 c2 c3 c4 c5 c6 c7
 have HMC:=hideC (HC.out.unmap WA.drew D st.mem _ k (q.r 0) (q.r 1) (HC.out.kp _ _ _ (fun _=>False) _ HGA.out.mem (Kp.drew _ _) (fun _ _ g=>g)) HOK.out.mem HLV.out (HFT.out.1 0 (by omega)) (HFT.out.1 1 (by omega)))
 have HS : Hid (∀ V,Kp D WA V -> V.cell? ⟨gb,0,none⟩ = some (.iface 144 (.pointer (some ⟨mb,0,none⟩))) /\ V.cell? ⟨rb,0,none⟩ = some (.int .i64 (q.r 0)) /\ V.cell? ⟨rb,1,none⟩ = some (.int .i64 (q.r 1))):=fun V hb=>by
  have h1:=hb.keep BX.out (fun g=>by have:=HC.out.dom _ _ _ HG.out.mem _ g;have:=HRB.out;omega)
  have h2:=hb.keep HGA.out.head HGA.out.n1
  exact ⟨B.cell h2 0 rfl,B.cell h1 0 rfl,B.cell h1 1 rfl⟩
 have HS0:=hideC (HS.out _ (Kp.drew _ _))
 obtain ⟨X,hX⟩ : ∃ X,X = o.unmap st.mem k (q.r 0) (q.r 1):=⟨_,rfl⟩
 rw [<- hX] at HMC HR
 clear hX
 go_region_held3 (fun V=>V.cell? ⟨gb,0,none⟩ = some (.iface 144 (.pointer (some ⟨mb,0,none⟩))) /\ V.cell? ⟨rb,0,none⟩ = some (.int .i64 (q.r 0)) /\ V.cell? ⟨rb,1,none⟩ = some (.int .i64 (q.r 1))) (first | exact HS2.out | exact HS0.out)
  (first | (go_at_call 196;refine HMC.out.mono ?_;rintro e w2 ⟨D2,rfl,hm2,hk2,hd2⟩;have HK2 : Hid (Kp D WA w2):=(Kp.drew D WA).trans hk2 (fun _ _ g=>g);have HS2:=hideC (HS.out _ HK2.out);have HM2:=hideC hm2;have HD2:=hideC hd2;clear hm2 hk2 hd2))
 go_wp2
 go_ret
 rw [HR.out]
 exact ⟨rfl,Left.after HBX.out (Left.ofTurn HC.out HGA.out HM2.out HK2.out HD2.out)⟩
set_option maxHeartbeats 4000000 in
theorem call4 (C : MemC lo mb Hd Ok o) (k : Nat) (w : World) (h : Grp Hd lo mb gb w D vr vo st) (hok : GOk Ok st) (hk : k < st.ps.length) (h1 : (FM.prAt st.ps k).st = 1) :
  Calls Tryz.prog 128 #[.pointer (some ⟨gb,0,none⟩),.int .i64 (k : Int),.int .i64 4] w fun e w'=>e = .returned (.int .i64 (callG o st k 4).1) /\ Left Hd lo mb gb w D vr vo (callG o st k 4).2 w':=by
 have HG:=hideC h
 have HC:=hideC C
 obtain ⟨pb,cap,hvr,hpb,hpc,hpf⟩:=h.proc k hk
 have HPC:=hideC hpc
 have hlv:=live_at k hk h1
 have hfit:=hok.fit k hk
 have HOK:=hideC hok
 have HLV:=hideC hlv
 have HFT:=hideC hfit
 have hn4 : st.ps.length <= 4:=by have:=C.ok.few _ _ hok.mem;unfold running at this;rw [List.length_map] at this;exact this
 have HK1:=hideC hk
 have HH1:=hideC h1
 have HR : Hid (callG o st k 4 = ((o.protect st.mem k ((FM.prAt st.ps k).r 0) ((FM.prAt st.ps k).r 1) ((FM.prAt st.ps k).r 2)).1,{ st with mem:=(o.protect st.mem k ((FM.prAt st.ps k).r 0) ((FM.prAt st.ps k).r 1) ((FM.prAt st.ps k).r 2)).2 })):=rfl
 obtain ⟨q,hq⟩ : ∃ q,q = FM.prAt st.ps k:=⟨_,rfl⟩
 rw [<- hq] at HPC HFT
 have HQ:=hideC hq
 obtain ⟨n,hn⟩ : ∃ n,n = st.ps.length:=⟨_,rfl⟩
 rw [<- hn] at hvr hk hn4
 subst hvr
 have HN:=hideC hn
 have hki : (k : Int) < (n : Int):=by omega
 have g0 : w.cell? ⟨gb,0,none⟩ = some (.iface 144 (.pointer (some ⟨mb,0,none⟩))):=B.cell HG.out.head 0 rfl
 have g1 : w.cell? ⟨gb,1,none⟩ = some (.slice (some ⟨pb,0,none⟩) n cap):=B.cell HG.out.head 1 rfl
 have hgb:=B.isLt HG.out.head
 have c0 : w.cell? ⟨pb,k * 13,none⟩ = some (.int .i64 (q.r 0)):=HPC.out 0 (by omega)
 have c1 : w.cell? ⟨pb,k * 13 + 1,none⟩ = some (.int .i64 (q.r 1)):=HPC.out 1 (by omega)
 have c2 : w.cell? ⟨pb,k * 13 + 2,none⟩ = some (.int .i64 (q.r 2)):=HPC.out 2 (by omega)
 have c3 : w.cell? ⟨pb,k * 13 + 3,none⟩ = some (.int .i64 (q.r 3)):=HPC.out 3 (by omega)
 have c4 : w.cell? ⟨pb,k * 13 + 4,none⟩ = some (.int .i64 (q.r 4)):=HPC.out 4 (by omega)
 have c5 : w.cell? ⟨pb,k * 13 + 5,none⟩ = some (.int .i64 (q.r 5)):=HPC.out 5 (by omega)
 have c6 : w.cell? ⟨pb,k * 13 + 6,none⟩ = some (.int .i64 (q.r 6)):=HPC.out 6 (by omega)
 have c7 : w.cell? ⟨pb,k * 13 + 7,none⟩ = some (.int .i64 (q.r 7)):=HPC.out 7 (by omega)
 have HBX:=hideC ((Below.refl w.heap.size w).alloc (Nat.le_refl _) (.cells #[.int .i64 (q.r 0),.int .i64 (q.r 1),.int .i64 (q.r 2),.int .i64 (q.r 3),.int .i64 (q.r 4),.int .i64 (q.r 5),.int .i64 (q.r 6),.int .i64 (q.r 7)] 66))
 have BX:=hideC (B.new w #[.int .i64 (q.r 0),.int .i64 (q.r 1),.int .i64 (q.r 2),.int .i64 (q.r 3),.int .i64 (q.r 4),.int .i64 (q.r 5),.int .i64 (q.r 6),.int .i64 (q.r 7)] 66)
 clear hq hn hpc hpf h C HPC hok hlv hfit
 rw [<- HQ.out] at HR
 obtain ⟨RR,hRR⟩ : ∃ RR,RR = callG o st k 4:=⟨_,rfl⟩
 rw [<- hRR] at HR ⊢
 clear hRR
 have hm:=methodProtect ⟨mb,0,none⟩
 have ha:=aheadProtect ⟨mb,0,none⟩
 go_enter Tryz.func128,Tryz.ntmps128
 go_wp2_with fail
 obtain ⟨WA,hWA⟩ : ∃ WA,WA = w.alloc (.cells #[.int .i64 (q.r 0),.int .i64 (q.r 1),.int .i64 (q.r 2),.int .i64 (q.r 3),.int .i64 (q.r 4),.int .i64 (q.r 5),.int .i64 (q.r 6),.int .i64 (q.r 7)] 66):=⟨_,rfl⟩
 rw [<- hWA] at HBX BX ⊢
 obtain ⟨rb,hrb⟩ : ∃ rb,rb = w.heap.size:=⟨_,rfl⟩
 rw [<- hrb] at BX ⊢
 have HRB:=hideC hrb
 have HGA:=hideC (HG.out.below HC.out HBX.out)
 clear hWA hrb c0 c1 c2 c3 c4 c5 c6 c7
 have HMC:=hideC (HC.out.protect WA.drew D st.mem _ k (q.r 0) (q.r 1) (q.r 2) (HC.out.kp _ _ _ (fun _=>False) _ HGA.out.mem (Kp.drew _ _) (fun _ _ g=>g)) HOK.out.mem HLV.out (HFT.out.1 0 (by omega)) (HFT.out.1 1 (by omega)))
 have HS : Hid (∀ V,Kp D WA V -> V.cell? ⟨gb,0,none⟩ = some (.iface 144 (.pointer (some ⟨mb,0,none⟩))) /\ V.cell? ⟨rb,0,none⟩ = some (.int .i64 (q.r 0)) /\ V.cell? ⟨rb,1,none⟩ = some (.int .i64 (q.r 1)) /\ V.cell? ⟨rb,2,none⟩ = some (.int .i64 (q.r 2))):=fun V hb=>by
  have h1:=hb.keep BX.out (fun g=>by have:=HC.out.dom _ _ _ HG.out.mem _ g;have:=HRB.out;omega)
  have h2:=hb.keep HGA.out.head HGA.out.n1
  exact ⟨B.cell h2 0 rfl,B.cell h1 0 rfl,B.cell h1 1 rfl,B.cell h1 2 rfl⟩
 have HS0:=hideC (HS.out _ (Kp.drew _ _))
 obtain ⟨X,hX⟩ : ∃ X,X = o.protect st.mem k (q.r 0) (q.r 1) (q.r 2):=⟨_,rfl⟩
 rw [<- hX] at HMC HR
 clear hX
 go_region_held3 (fun V=>V.cell? ⟨gb,0,none⟩ = some (.iface 144 (.pointer (some ⟨mb,0,none⟩))) /\ V.cell? ⟨rb,0,none⟩ = some (.int .i64 (q.r 0)) /\ V.cell? ⟨rb,1,none⟩ = some (.int .i64 (q.r 1)) /\ V.cell? ⟨rb,2,none⟩ = some (.int .i64 (q.r 2))) (first | exact HS2.out | exact HS0.out)
  (first | (go_at_call 194;refine HMC.out.mono ?_;rintro e w2 ⟨D2,rfl,hm2,hk2,hd2⟩;have HK2 : Hid (Kp D WA w2):=(Kp.drew D WA).trans hk2 (fun _ _ g=>g);have HS2:=hideC (HS.out _ HK2.out);have HM2:=hideC hm2;have HD2:=hideC hd2;clear hm2 hk2 hd2))
 go_wp2
 go_ret
 rw [HR.out]
 exact ⟨rfl,Left.after HBX.out (Left.ofTurn HC.out HGA.out HM2.out HK2.out HD2.out)⟩
end GW
end Go.Proofs.YtkdigjpejnebkaaGreat
