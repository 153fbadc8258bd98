import Derived.Test.YtkdigjpejnebkaaGreatGS11
import Derived.Test.YtkdigjpejnebkaaGreatGS34
set_option linter.unusedVariables false
set_option maxRecDepth 100000
set_option linter.unusedSimpArgs false
namespace Go.Proofs.YtkdigjpejnebkaaGreat
namespace GG
open Go.RowKit
def childTo (i : PM.Ins) (n : Nat) (ps : List PM.Pr) : Nat -> List PM.Pr
 | 0=>ps
 | j + 1=>(childTo i n ps j).set (n + j) (PM.doneN (FM.prAt (childTo i n ps j) (n + j)) i 0)
theorem childTo_length (i : PM.Ins) (n : Nat) (ps : List PM.Pr) : ∀ j,(childTo i n ps j).length = ps.length
 | 0=>rfl
 | j + 1=>by show ((childTo i n ps j).set _ _).length = _;rw [List.length_set];exact childTo_length i n ps j
theorem childTo_get (i : PM.Ins) (n : Nat) (ps : List PM.Pr) : ∀ j m,n + j <= ps.length -> (childTo i n ps j)[m]? = if n <= m /\ m < n + j then ps[m]?.map (fun p=>PM.doneN p i 0) else ps[m]?
 | 0,m,_=>by rw [if_neg (by omega)];rfl
 | j + 1,m,h=>by
  show ((childTo i n ps j).set (n + j) (PM.doneN (FM.prAt (childTo i n ps j) (n + j)) i 0))[m]? = _
  have ih:=childTo_get i n ps j
  have hl:=childTo_length i n ps j
  rw [List.getElem?_set]
  by_cases e : n + j = m
  · subst e
    have hlt : n + j < ps.length:=by omega
    rw [if_pos rfl,if_pos (by omega),if_pos (by omega),List.getElem?_eq_getElem hlt]
    have hq : FM.prAt (childTo i n ps j) (n + j) = ps[n + j]:=by
     unfold FM.prAt
     rw [List.getD_eq_getElem?_getD,ih (n + j) (by omega),if_neg (by omega),List.getElem?_eq_getElem hlt]
     rfl
    rw [hq]
    rfl
  · rw [if_neg e,ih m (by omega)]
    by_cases c : n <= m /\ m < n + j
    · rw [if_pos c,if_pos (by omega)]
    · rw [if_neg c,if_neg (by omega)]
theorem childTo_all (i : PM.Ins) (n : Nat) (ps : List PM.Pr) (h : n <= ps.length) : childTo i n ps (ps.length - n) = childN i n ps:=by
 apply List.ext_getElem?
 intro m
 rw [childTo_get i n ps _ m (by omega)]
 unfold childN
 by_cases c : m < n
 · rw [if_neg (by omega),List.getElem?_append_left (by rw [List.length_take];omega),List.getElem?_take_of_lt c]
 · rw [List.getElem?_append_right (by rw [List.length_take];omega),List.length_take,Nat.min_eq_left h,List.getElem?_map,List.getElem?_drop,show n + (m - n) = m by omega]
   by_cases c2 : m < ps.length
   · rw [if_pos (by omega)]
   · rw [if_neg (by omega),List.getElem?_eq_none (by omega)];rfl
end GG
namespace GW
open Go.RowKit GK GG
open FW (hideC add_below)
variable {σ : Type} {Hd : World -> (Nat -> Prop) -> σ -> Prop} {Ok : σ -> List Bool -> Prop} {o : Ops σ} {lo mb gb : Nat} {D : Nat -> Prop} {vr vo : Value} {st : St σ}
theorem ask_form (p : PM.Pr) (i : PM.Ins) : ∃ k0 k1 k2 k3 k4,PM.askN p i = #[.int .i64 k0,.int .i64 k1,.int .i64 k2,.int .i64 k3,.int .i64 k4]:=by
 unfold PM.askN
 repeat' split
 all_goals exact ⟨_,_,_,_,_,rfl⟩
set_option maxHeartbeats 8000000 in
theorem do_any (C : MemC lo mb Hd Ok o) (k : Nat) (w : World) (h : Grp Hd lo mb gb w D vr vo st) (hok : GOk Ok st) (hk : k < st.ps.length) (h1 : (FM.prAt st.ps k).st = 1) :
  Calls Tryz.prog 81 #[.pointer (some ⟨gb,0,none⟩),.int .i64 (k : Int)] w fun e w'=>e = .returned (.agg (FW.fcells (doG o st k).1)) /\ GW.Left Hd lo mb gb w D vr vo (doG o st k).2 w':=by
 have HG:=hideC h
 have HC:=hideC C
 have HOK:=hideC hok
 have hlv:=live_at k hk h1
 have HLV:=hideC hlv
 have HK1:=hideC hk
 have HH1:=hideC h1
 have hn4 : st.ps.length <= 4:=by have:=C.ok.few _ _ hok.mem;unfold running at this;rw [List.length_map] at this;exact this
 have HFT:=hideC (hok.fit k hk)
 have hgb:=B.isLt h.head
 obtain ⟨pb,cap,hvr,hpb,hpc,hpf⟩:=h.proc k hk
 have HPC:=hideC hpc
 have HLD : Hid (∀ V,Below w.heap.size w V -> Calls Tryz.prog 192 #[.pointer (some ⟨mb,0,none⟩),.int .i64 (k : Int),.int .i64 (FM.prAt st.ps k).pc,.int .i64 8,.int .i64 2] V (Out Hd V D (.tuple #[.string (o.load st.mem k (FM.prAt st.ps k).pc 8 2).1.1,.agg (FW.fcells (o.load st.mem k (FM.prAt st.ps k).pc 8 2).1.2)]) (o.load st.mem k (FM.prAt st.ps k).pc 8 2).2)):=fun V hV=>C.load V D st.mem _ k _ 8 2 (h.below C hV).mem hok.mem hlv (hok.fit k hk).2 (by omega) (by omega) (.inr rfl)
 have HSZ:=hideC (C.ok.size st.mem _ k (FM.prAt st.ps k).pc 8 2 hok.mem hlv (by omega) (by omega))
 have HM1:=hideC (C.ok.load st.mem _ k (FM.prAt st.ps k).pc 8 2 hok.mem hlv)
 have HDO : Hid (doG o st k = (if ¬ (o.load st.mem k (FM.prAt st.ps k).pc 8 2).1.2.1 = 0 then ((o.load st.mem k (FM.prAt st.ps k).pc 8 2).1.2,{ st with mem:=(o.load st.mem k (FM.prAt st.ps k).pc 8 2).2 }) else if ¬ (answerG o { st with mem:=(o.load st.mem k (FM.prAt st.ps k).pc 8 2).2 } k (PM.ins (o.load st.mem k (FM.prAt st.ps k).pc 8 2).1.1)).1.2.1 = 0 then ((answerG o { st with mem:=(o.load st.mem k (FM.prAt st.ps k).pc 8 2).2 } k (PM.ins (o.load st.mem k (FM.prAt st.ps k).pc 8 2).1.1)).1.2,(answerG o { st with mem:=(o.load st.mem k (FM.prAt st.ps k).pc 8 2).2 } k (PM.ins (o.load st.mem k (FM.prAt st.ps k).pc 8 2).1.1)).2) else ((0,0),{ (answerG o { st with mem:=(o.load st.mem k (FM.prAt st.ps k).pc 8 2).2 } k (PM.ins (o.load st.mem k (FM.prAt st.ps k).pc 8 2).1.1)).2 with ps:=childN (PM.ins (o.load st.mem k (FM.prAt st.ps k).pc 8 2).1.1) st.ps.length ((answerG o { st with mem:=(o.load st.mem k (FM.prAt st.ps k).pc 8 2).2 } k (PM.ins (o.load st.mem k (FM.prAt st.ps k).pc 8 2).1.1)).2.ps.set k (PM.doneN (FM.prAt (answerG o { st with mem:=(o.load st.mem k (FM.prAt st.ps k).pc 8 2).2 } k (PM.ins (o.load st.mem k (FM.prAt st.ps k).pc 8 2).1.1)).2.ps k) (PM.ins (o.load st.mem k (FM.prAt st.ps k).pc 8 2).1.1) (answerG o { st with mem:=(o.load st.mem k (FM.prAt st.ps k).pc 8 2).2 } k (PM.ins (o.load st.mem k (FM.prAt st.ps k).pc 8 2).1.1)).1.1)) }))):=rfl
 obtain ⟨q,hq⟩ : ∃ q,q = FM.prAt st.ps k:=⟨_,rfl⟩
 rw [<- hq] at HPC HLD HSZ HM1 HDO
 have HQ:=hideC hq
 obtain ⟨X,hX⟩ : ∃ X,X = o.load st.mem k q.pc 8 2:=⟨_,rfl⟩
 rw [<- hX] at HLD HSZ HM1 HDO
 obtain ⟨⟨d,X1,X2⟩,X3⟩:=X
 unfold FW.fcells at HLD
 simp only at HLD HSZ HM1 HDO
 obtain ⟨Y,hY⟩ : ∃ Y,Y = answerG o { st with mem:=X3 } k (PM.ins d):=⟨_,rfl⟩
 have HY:=hideC hY
 rw [<- hY] at HDO
 obtain ⟨RR,hRR⟩ : ∃ RR,RR = doG o st k:=⟨_,rfl⟩
 rw [<- hRR] at HDO ⊢
 obtain ⟨n,hn⟩ : ∃ n,n = st.ps.length:=⟨_,rfl⟩
 rw [<- hn] at hvr hk hn4 HDO
 subst hvr
 have HN:=hideC hn
 have hki : (k : Int) < (n : Int):=by omega
 have g0 : w.cell? ⟨gb,0,none⟩ = some (.iface 144 (.pointer (some ⟨mb,0,none⟩))):=B.cell h.head 0 rfl
 have g1 : w.cell? ⟨gb,1,none⟩ = some (.slice (some ⟨pb,0,none⟩) n cap):=B.cell h.head 1 rfl
 have c0 : w.cell? ⟨pb,k * 13,none⟩ = some (.int .i64 (q.r 0)):=HPC.out 0 (by omega)
 have c1 : w.cell? ⟨pb,k * 13 + 1,none⟩ = some (.int .i64 (q.r 1)):=HPC.out 1 (by omega)
 have c2 : w.cell? ⟨pb,k * 13 + 2,none⟩ = some (.int .i64 (q.r 2)):=HPC.out 2 (by omega)
 have c3 : w.cell? ⟨pb,k * 13 + 3,none⟩ = some (.int .i64 (q.r 3)):=HPC.out 3 (by omega)
 have c4 : w.cell? ⟨pb,k * 13 + 4,none⟩ = some (.int .i64 (q.r 4)):=HPC.out 4 (by omega)
 have c5 : w.cell? ⟨pb,k * 13 + 5,none⟩ = some (.int .i64 (q.r 5)):=HPC.out 5 (by omega)
 have c6 : w.cell? ⟨pb,k * 13 + 6,none⟩ = some (.int .i64 (q.r 6)):=HPC.out 6 (by omega)
 have c7 : w.cell? ⟨pb,k * 13 + 7,none⟩ = some (.int .i64 (q.r 7)):=HPC.out 7 (by omega)
 have c8 : w.cell? ⟨pb,k * 13 + 8,none⟩ = some (.int .i64 q.pc):=HPC.out 8 (by omega)
 have c9 : w.cell? ⟨pb,k * 13 + 9,none⟩ = some (.int .i64 q.st):=HPC.out 9 (by omega)
 have c10 : w.cell? ⟨pb,k * 13 + 10,none⟩ = some (.int .i64 q.cd):=HPC.out 10 (by omega)
 have c11 : w.cell? ⟨pb,k * 13 + 11,none⟩ = some (.int .i64 q.fk):=HPC.out 11 (by omega)
 have c12 : w.cell? ⟨pb,k * 13 + 12,none⟩ = some (.int .i64 q.fa):=HPC.out 12 (by omega)
 have HBX:=hideC (((Below.refl w.heap.size w).alloc (Nat.le_refl _) (.cells #[.int .i64 0,.int .i64 0] 68)).alloc (by simp) (.cells #[.int .i64 (q.r 0),.int .i64 (q.r 1),.int .i64 (q.r 2),.int .i64 (q.r 3),.int .i64 (q.r 4),.int .i64 (q.r 5),.int .i64 (q.r 6),.int .i64 (q.r 7),.int .i64 q.pc,.int .i64 q.st,.int .i64 q.cd,.int .i64 q.fk,.int .i64 q.fa] 70))
 have BF:=hideC (B.alloc (B.new w #[.int .i64 0,.int .i64 0] 68) (.cells #[.int .i64 (q.r 0),.int .i64 (q.r 1),.int .i64 (q.r 2),.int .i64 (q.r 3),.int .i64 (q.r 4),.int .i64 (q.r 5),.int .i64 (q.r 6),.int .i64 (q.r 7),.int .i64 q.pc,.int .i64 q.st,.int .i64 q.cd,.int .i64 q.fk,.int .i64 q.fa] 70))
 have BX : Hid (((w.alloc (.cells #[.int .i64 0,.int .i64 0] 68)).alloc (.cells #[.int .i64 (q.r 0),.int .i64 (q.r 1),.int .i64 (q.r 2),.int .i64 (q.r 3),.int .i64 (q.r 4),.int .i64 (q.r 5),.int .i64 (q.r 6),.int .i64 (q.r 7),.int .i64 q.pc,.int .i64 q.st,.int .i64 q.cd,.int .i64 q.fk,.int .i64 q.fa] 70)).heap[w.heap.size + 1]? = some (.cells #[.int .i64 (q.r 0),.int .i64 (q.r 1),.int .i64 (q.r 2),.int .i64 (q.r 3),.int .i64 (q.r 4),.int .i64 (q.r 5),.int .i64 (q.r 6),.int .i64 (q.r 7),.int .i64 q.pc,.int .i64 q.st,.int .i64 q.cd,.int .i64 q.fk,.int .i64 q.fa] 70 (0,0))):=by
  have:=B.new (w.alloc (.cells #[.int .i64 0,.int .i64 0] 68)) #[.int .i64 (q.r 0),.int .i64 (q.r 1),.int .i64 (q.r 2),.int .i64 (q.r 3),.int .i64 (q.r 4),.int .i64 (q.r 5),.int .i64 (q.r 6),.int .i64 (q.r 7),.int .i64 q.pc,.int .i64 q.st,.int .i64 q.cd,.int .i64 q.fk,.int .i64 q.fa] 70
  rw [World.size_alloc] at this
  exact this
 have hpb2 : ¬ pb = w.heap.size:=by omega
 have hgb2 : ¬ gb = w.heap.size:=by omega
 have hm:=methodLoad ⟨mb,0,none⟩
 have hah:=aheadLoad ⟨mb,0,none⟩
 clear h C hX hY hRR hn hq hpc hpf hok hlv h1 HPC
 go_enter Tryz.func81,Tryz.ntmps81
 go_wp2_with fail
 obtain ⟨WA,hWA⟩ : ∃ WA,WA = (w.alloc (.cells #[.int .i64 0,.int .i64 0] 68)).alloc (.cells #[.int .i64 (q.r 0),.int .i64 (q.r 1),.int .i64 (q.r 2),.int .i64 (q.r 3),.int .i64 (q.r 4),.int .i64 (q.r 5),.int .i64 (q.r 6),.int .i64 (q.r 7),.int .i64 q.pc,.int .i64 q.st,.int .i64 q.cd,.int .i64 q.fk,.int .i64 q.fa] 70):=⟨_,rfl⟩
 rw [<- hWA] at HBX BF BX ⊢
 obtain ⟨xb,hxb⟩ : ∃ xb,xb = w.heap.size + 1:=⟨_,rfl⟩
 rw [<- hxb] at BX ⊢
 obtain ⟨fb,hfb⟩ : ∃ fb,fb = w.heap.size:=⟨_,rfl⟩
 rw [<- hfb] at BF hxb ⊢
 have HXB:=hideC hxb
 have HFB:=hideC hfb
 have HGA:=hideC (HG.out.below HC.out HBX.out)
 have HNX : Hid (¬ D xb):=fun g=>by have:=HC.out.dom _ _ _ HG.out.mem _ g;have:=HXB.out;have:=HFB.out;omega
 have HNF : Hid (¬ D fb):=fun g=>by have:=HC.out.dom _ _ _ HG.out.mem _ g;have:=HFB.out;omega
 have HNZ : Hid (¬ D WA.heap.size):=fun g=>by have:=HC.out.dom _ _ _ HG.out.mem _ g;have:=HBX.out.size;omega
 have HS : Hid (∀ V,Kp D WA V -> V.cell? ⟨gb,0,none⟩ = some (.iface 144 (.pointer (some ⟨mb,0,none⟩))) /\ V.cell? ⟨xb,8,none⟩ = some (.int .i64 q.pc)):=fun V hb=>by
  have h1:=hb.keep BX.out HNX.out
  have h2:=hb.keep HGA.out.head HGA.out.n1
  exact ⟨B.cell h2 0 rfl,B.cell h1 8 rfl⟩
 have HS0:=hideC (HS.out _ (Kp.drew _ _))
 have HS1:=hideC (HS.out (WA.alloc (.cells #[.int .i64 0,.int .i64 0] 68)).drew ((Kp.alloc _ _ _).trans (Kp.drew _ _) (fun _ _ g=>g)))
 have HB0:=hideC HBX.out.drew
 have HB1:=hideC (HBX.out.alloc HBX.out.size (.cells #[.int .i64 0,.int .i64 0] 68)).drew
 have hlx:=B.isLt BX.out
 clear hxb hfb hWA g0 g1 c0 c1 c2 c3 c4 c5 c6 c7 c8 c9 c10 c11 c12 hpb2 hgb2
 go_cut [6,7] (fun x6 x7 wx=>∃ zb,x6 = .string d /\ x7 = .pointer (some ⟨zb,0,none⟩) /\ xb < zb /\ wx.heap[zb]? = some (.cells #[.int .i64 X1,.int .i64 X2] 68 (0,0)) /\ wx.heap[fb]? = some (.cells #[.int .i64 0,.int .i64 0] 68 (0,0)) /\ wx.heap[xb]? = some (.cells #[.int .i64 (q.r 0),.int .i64 (q.r 1),.int .i64 (q.r 2),.int .i64 (q.r 3),.int .i64 (q.r 4),.int .i64 (q.r 5),.int .i64 (q.r 6),.int .i64 (q.r 7),.int .i64 q.pc,.int .i64 q.st,.int .i64 q.cd,.int .i64 q.fk,.int .i64 q.fa] 70 (0,0)) /\ LeftN (fun b=>b = fb ∨ b = xb ∨ b = zb) Hd lo mb gb w D (.slice (some ⟨pb,0,none⟩) n cap) vo { st with mem:=X3 } wx)
 case first =>
  have HSY : Hid (∀ (V : World) (g : Nat),xb < g -> (V.cell? ⟨gb,0,none⟩ = some (.iface 144 (.pointer (some ⟨mb,0,none⟩))) /\ V.cell? ⟨xb,8,none⟩ = some (.int .i64 q.pc)) -> ∀ v0 v1,((V.setCell ⟨g,0,none⟩ v0).setCell ⟨g,1,none⟩ v1).cell? ⟨gb,0,none⟩ = some (.iface 144 (.pointer (some ⟨mb,0,none⟩))) /\ ((V.setCell ⟨g,0,none⟩ v0).setCell ⟨g,1,none⟩ v1).cell? ⟨xb,8,none⟩ = some (.int .i64 q.pc)):=fun V g hg ⟨h0,h1⟩ v0 v1=>by
   have hne : xb ≠ g:=by omega
   have hne2 : gb ≠ g:=by have:=HXB.out;have:=HFB.out;omega
   rw [cell_other _ _ _ _ _ _ hne,cell_other _ _ _ _ _ _ hne,cell_other _ _ _ _ _ _ hne2,cell_other _ _ _ _ _ _ hne2]
   exact ⟨h0,h1⟩
  go_region_held3 (fun V=>V.cell? ⟨gb,0,none⟩ = some (.iface 144 (.pointer (some ⟨mb,0,none⟩))) /\ V.cell? ⟨xb,8,none⟩ = some (.int .i64 q.pc)) (first | exact HS0.out | exact HS1.out | exact HS2.out | exact HS3.out _ | exact HSX.out _ _ | exact HSZ2.out _ _ _)
   (first | (go_at_call 192;refine (HLD.out _ (by first | exact HB0.out | exact HB1.out)).mono ?_;rintro e w2 ⟨D2,rfl,hm2,hk2,hd2⟩;have HKW : Hid (Kp D WA w2):=(by first | exact (Kp.drew D WA).trans hk2 (fun _ _ g=>g) | exact ((Kp.alloc D WA (.cells #[.int .i64 0,.int .i64 0] 68)).trans (Kp.drew D _) (fun _ _ g=>g)).trans hk2 (fun _ _ g=>g));have HS2:=hideC (HS.out _ HKW.out);have HS3:=hideC (fun ob=>HS.out _ (HKW.out.trans (Kp.alloc D w2 ob) (fun _ _ g=>g)));have HSX:=hideC (HSY.out w2 WA.heap.size hlx HS2.out);have HSZ2:=hideC (fun ob=>HSY.out (w2.alloc ob) w2.heap.size (Nat.lt_of_lt_of_le hlx HKW.out.size) (HS3.out ob));have HL2:=hideC (LeftN.behind HC.out HG.out (by first | exact HB0.out | exact HB1.out) (Left.ofTurn HC.out (HG.out.below HC.out (by first | exact HB0.out | exact HB1.out)) hm2 hk2 hd2));have BF2:=hideC (HKW.out.keep BF.out HNF.out);have BX2:=hideC (HKW.out.keep BX.out HNX.out);(try (have HZ2:=hideC (hk2.keep (w:=(WA.alloc (.cells #[.int .i64 0,.int .i64 0] 68)).drew) (B.new WA #[.int .i64 0,.int .i64 0] 68) HNZ.out);have z0:=B.cell (v:=.int .i64 0) HZ2.out 0 rfl;have z1:=B.cell (v:=.int .i64 0) HZ2.out 1 rfl;have z2:=B.free HZ2.out 0;have z3:=B.free HZ2.out 1));clear hm2 hk2 hd2))
  all_goals
   go_wp2_with fail
   go_meet
   case rel =>
    have e1:=HXB.out
    have e2:=HFB.out
    have e3:=HKW.out.size
    first
    | exact ⟨_,rfl,rfl,by omega,B.new w2 _ _,B.alloc BF2.out _,B.alloc BX2.out _,(HL2.out.alloc HC.out _).sub (fun b e=>by rcases e with rfl | rfl | rfl;exact .inl ⟨by omega,by show _ < WA.heap.size;omega⟩;exact .inl ⟨by omega,by show _ < WA.heap.size;omega⟩;exact .inr rfl)⟩
    | exact ⟨_,rfl,rfl,hlx,B.set (B.set HZ2.out 0 _) 1 _,B.other (B.other BF2.out WA.heap.size 0 _ (by omega)) WA.heap.size 1 _ (by omega),B.other (B.other BX2.out WA.heap.size 0 _ (by omega)) WA.heap.size 1 _ (by omega),((HL2.out.set HC.out ⟨WA.heap.size,0,none⟩ _ ⟨HBX.out.size,by show WA.heap.size < (WA.alloc _).heap.size;rw [World.size_alloc];omega⟩ HBX.out.size).set HC.out ⟨WA.heap.size,1,none⟩ _ ⟨HBX.out.size,by show WA.heap.size < (WA.alloc _).heap.size;rw [World.size_alloc];omega⟩ HBX.out.size).sub (fun b e=>by rcases e with rfl | rfl | rfl <;> exact ⟨by omega,by show _ < (WA.alloc _).heap.size;rw [World.size_alloc];omega⟩)⟩
 case rest =>
  obtain ⟨zb,rfl,rfl,hxz,hz,hf,hx,hl⟩:=hcut
  have HZ:=hideC hz
  have HF:=hideC hf
  have HX:=hideC hx
  have HL:=hideC hl
  have z0:=B.cell (v:=.int .i64 X1) hz 0 rfl
  have z1:=B.cell (v:=.int .i64 X2) hz 1 rfl
  have f0:=B.cell (v:=.int .i64 0) hf 0 rfl
  have f1:=B.cell (v:=.int .i64 0) hf 1 rfl
  have e0:=B.free hf 0
  have e1:=B.free hf 1
  have hfw : w.heap.size <= fb:=by have:=HFB.out;omega
  clear HS HS0 HS1 HB0 HB1 HLD hz hf hx hl HGA HNZ HBX BF BX hlx
  by_cases hX1 : X1 = 0
  · subst hX1
    have h8 : d.size = 8:=by have:=HSZ.out rfl;omega
    have HG1 : Hid (GOk Ok { st with mem:=X3 }):=mem_only HOK.out HM1.out
    have HAS:=hideC (fun V=>PW.ask_yes q d V h8)
    have HAL:=hideC (GG.answer_left HC.out.ok HG1.out k HK1.out HH1.out (PM.ins d) (PM.ins_fits d h8))
    rw [<- HY.out] at HAL
    obtain ⟨D1,r1,o1,hg1,hk1,hd1,hn1⟩:=HL.out
    have HGX:=hideC hg1
    have HKX:=hideC hk1
    have HDX:=hideC hd1
    have HNX1:=hideC hn1
    have HAN : Hid (∀ V,Below wc.heap.size wc V -> Calls Tryz.prog 109 #[.pointer (some ⟨gb,0,none⟩),.int .i64 (k : Int),.agg (PM.askN q (PM.ins d))] V fun e w'=>e = .returned (.tuple #[.int .i64 Y.1.1,.agg (FW.fcells Y.1.2)]) /\ GW.Left Hd lo mb gb V D1 r1 o1 Y.2 w'):=fun V hV=>by
     have:=answer_any HC.out k (PM.ins d) V (hg1.below HC.out hV) HG1.out HK1.out HH1.out
     rw [<- HY.out] at this
     have hqe : FM.prAt (St.ps { st with mem:=X3 }) k = q:=HQ.out.symm
     rw [hqe] at this
     exact this
    obtain ⟨k0,k1,k2,k3,k4,hask⟩:=ask_form q (PM.ins d)
    rw [hask] at HAS HAN
    obtain ⟨⟨v,F1,F2⟩,s2⟩:=Y
    unfold FW.fcells at HAN
    simp only at HAN HAL HDO
    have HD2 : Hid (RR = if ¬ F1 = 0 then ((F1,F2),s2) else ((0,0),{ s2 with ps:=childN (PM.ins d) n (s2.ps.set k (PM.doneN (FM.prAt s2.ps k) (PM.ins d) v)) })):=by rw [HDO.out,if_neg (fun g=>g trivial)];exact rfl
    clear hg1 hk1 hd1 hn1 hask HDO HSZ HM1
    have g1:=B.cell (v:=r1) HGX.out.head 1 rfl
    obtain ⟨a1,cap1,hr1,_,_⟩:=row_form HGX.out.procs
    simp only at hr1
    rw [<- HN.out] at hr1
    subst hr1
    have HXB2 : Hid (wc.heap[xb]? = some (.cells #[.int .i64 (q.r 0),.int .i64 (q.r 1),.int .i64 (q.r 2),.int .i64 (q.r 3),.int .i64 (q.r 4),.int .i64 (q.r 5),.int .i64 (q.r 6),.int .i64 (q.r 7),.int .i64 q.pc,.int .i64 q.st,.int .i64 q.cd,.int .i64 q.fk,.int .i64 q.fa] 70 (0,0))):=HX
    have p0:=B.cell (v:=.int .i64 (q.r 0)) HX.out 0 rfl
    have p1:=B.cell (v:=.int .i64 (q.r 1)) HX.out 1 rfl
    have p2:=B.cell (v:=.int .i64 (q.r 2)) HX.out 2 rfl
    have p3:=B.cell (v:=.int .i64 (q.r 3)) HX.out 3 rfl
    have p4:=B.cell (v:=.int .i64 (q.r 4)) HX.out 4 rfl
    have p5:=B.cell (v:=.int .i64 (q.r 5)) HX.out 5 rfl
    have p6:=B.cell (v:=.int .i64 (q.r 6)) HX.out 6 rfl
    have p7:=B.cell (v:=.int .i64 (q.r 7)) HX.out 7 rfl
    have p8:=B.cell (v:=.int .i64 q.pc) HX.out 8 rfl
    have p9:=B.cell (v:=.int .i64 q.st) HX.out 9 rfl
    have p10:=B.cell (v:=.int .i64 q.cd) HX.out 10 rfl
    have p11:=B.cell (v:=.int .i64 q.fk) HX.out 11 rfl
    have p12:=B.cell (v:=.int .i64 q.fa) HX.out 12 rfl
    have HA2 : Hid (∀ V,Calls Tryz.prog 108 #[.agg #[.int .i64 (q.r 0),.int .i64 (q.r 1),.int .i64 (q.r 2),.int .i64 (q.r 3),.int .i64 (q.r 4),.int .i64 (q.r 5),.int .i64 (q.r 6),.int .i64 (q.r 7),.int .i64 q.pc,.int .i64 q.st,.int .i64 q.cd,.int .i64 q.fk,.int .i64 q.fa],.string d] V fun e w'=>e = .returned (.tuple #[.agg #[.int .i64 k0,.int .i64 k1,.int .i64 k2,.int .i64 k3,.int .i64 k4],.int .i64 0]) /\ Below V.heap.size V w'):=HAS
    have hzl:=B.isLt HZ.out
    have hzf : fb ≠ zb:=by have:=HXB.out;omega
    by_cases hF1 : F1 = 0
    · subst hF1
      have HD3 : Hid (RR = ((0,0),{ s2 with ps:=childN (PM.ins d) n (s2.ps.set k (PM.doneN (FM.prAt s2.ps k) (PM.ins d) v)) })):=by rw [HD2.out,if_neg (fun g=>g rfl)];exact rfl
      clear HD2
      go_wp2_with (first
       | (go_at_call 108;refine (HA2.out _).mono ?_;rintro e w3 ⟨rfl,hb3⟩;have HB3:=hideC hb3;have HB4:=hideC (hb3.alloc hb3.size (.cells #[.int .i64 k0,.int .i64 k1,.int .i64 k2,.int .i64 k3,.int .i64 k4] 101));have BA:=hideC (B.new w3 #[.int .i64 k0,.int .i64 k1,.int .i64 k2,.int .i64 k3,.int .i64 k4] 101);have g2 : (w3.alloc (.cells #[.int .i64 k0,.int .i64 k1,.int .i64 k2,.int .i64 k3,.int .i64 k4] 101)).cell? ⟨gb,1,none⟩ = some (.slice a1 n cap1):=(HB4.out.cell (p:=⟨gb,1,none⟩) (B.isLt HGX.out.head)).trans g1;clear hb3)
       | (go_at_call 109;refine (HAN.out _ HB4.out).mono ?_;rintro e w5 ⟨rfl,hl5⟩;have HL5:=hideC hl5;have BZ5:=hideC (hl5.keep (B.alloc (B.below HZ.out HB3.out (B.isLt HZ.out)) _) (HNX1.out zb (.inr (.inr rfl))));have BF5:=hideC (hl5.keep (B.alloc (B.below HF.out HB3.out (B.isLt HF.out)) _) (HNX1.out fb (.inl rfl)));have y0:=B.cell (v:=.int .i64 0) BZ5.out 0 rfl;have y1:=B.cell (v:=.int .i64 X2) BZ5.out 1 rfl;have y2:=B.free BZ5.out 0;have y3:=B.free BZ5.out 1;have t0:=B.cell (v:=.int .i64 0) BF5.out 0 rfl;have t1:=B.cell (v:=.int .i64 0) BF5.out 1 rfl;have t2:=B.free BF5.out 0;have t3:=B.free BF5.out 1;clear hl5))
      obtain ⟨hplain,hv64,hbad⟩:=HAL.out.plain rfl
      have hlen : n <= s2.ps.length /\ s2.ps.length <= n + 1:=by
       have hn:=HN.out
       rcases hplain with ⟨e,_⟩ | ⟨_,e,_⟩
       · rw [show s2.ps = st.ps from e];omega
       · rw [show s2.ps = st.ps ++ [FM.prAt st.ps k] from e,List.length_append,List.length_singleton];omega
      have hzw : w.heap.size <= zb:=by have:=HXB.out;omega
      have hLN:=LeftN.step (ys:=(fun b=>b = fb ∨ b = xb ∨ b = zb)) (fun b hb=>by have s4:=HB4.out.size;have l1:=B.isLt HF.out;have l2:=B.isLt HX.out;have l3:=B.isLt HZ.out;rcases hb with e | e | e <;> rw [e] <;> omega) (HKX.out.trans (Kp.ofBelow HB4.out) (fun _ _ g=>g)) HDX.out HNX1.out HL5.out
      have hL6:=(hLN.set HC.out ⟨zb,0,none⟩ (.int .i64 0) (.inr (.inr rfl)) hzw).set HC.out ⟨zb,1,none⟩ (.int .i64 F2) (.inr (.inr rfl)) hzw
      have BF6:=B.other (B.other BF5.out zb 0 (.int .i64 0) hzf) zb 1 (.int .i64 F2) hzf
      obtain ⟨W6,hW6⟩ : ∃ W6,W6 = (w5.setCell ⟨zb,0,none⟩ (.int .i64 0)).setCell ⟨zb,1,none⟩ (.int .i64 F2):=⟨_,rfl⟩
      rw [<- hW6] at hL6 BF6 ⊢
      obtain ⟨D6,r6,o6,hg6,hk6,hd6,hn6⟩:=hL6
      have hfl6:=B.isLt BF6
      refine (done_any HC.out k d v W6 hg6 (by omega) (by omega) h8 hbad).mono ?_
      rintro e w7 ⟨rfl,hl7⟩
      have BF7:=hl7.keep BF6 (hn6 fb (.inl rfl))
      have hL7:=LeftN.step (ys:=fun b=>b = fb) (fun b e=>by rw [e];exact hfl6) hk6 hd6 (fun b e=>hn6 b (.inl e)) hl7
      have HL7:=hideC hL7
      have HF7:=hideC BF7
      have HBD:=hideC hbad
      have HHL:=hideC hlen
      obtain ⟨PS,hPS⟩ : ∃ PS,PS = s2.ps.set k (PM.doneN (FM.prAt s2.ps k) (PM.ins d) v):=⟨_,rfl⟩
      rw [<- hPS] at HL7 HD3
      have hPL : PS.length = s2.ps.length:=by rw [hPS,List.length_set]
      obtain ⟨m,hm⟩ : ∃ m,m = s2.ps.length:=⟨_,rfl⟩
      rw [<- hm] at hPL hlen
      have HPL:=hideC hPL
      clear hl7 hL7 BF7 BF6 hn6 hd6 hk6 hg6 hW6 hLN hbad hPS hm hplain hv64 HL5 BZ5 BF5 y0 y1 y2 y3 t0 t1 t2 t3 g2 BA HB3 HB4 HA2 HAN HAS HXB2 p0 p1 p2 p3 p4 p5 p6 p7 p8 p9 p10 p11 p12 g1 HGX HKX HDX HNX1 z0 z1 f0 f1 e0 e1 hPL
      go_wp2
      go_loopw [12] (fun x12 wr=>∃ j : Nat,n + j <= m /\ x12 = .int .i64 ((n + j : Nat) : Int) /\ LeftN (fun b=>b = fb) Hd lo mb gb w D (.slice (some ⟨pb,0,none⟩) n cap) vo { s2 with ps:=childTo (PM.ins d) n PS j } wr /\ wr.heap[fb]? = some (.cells #[.int .i64 0,.int .i64 0] 68 (0,0))) (fun x12 _=>m - (intOf x12).toNat)
      case atStart=>exact ⟨0,by omega,rfl,HL7.out,HF7.out⟩
      case round =>
       obtain ⟨j,hj,rfl,hl,hf⟩:=hrel
       have HFR:=hideC hf
       obtain ⟨Dr,rr,orr,hgr,hkr,hdr,hnr⟩:=hl
       have HGR:=hideC hgr
       have HKR:=hideC hkr
       have HDR:=hideC hdr
       have HNR:=hideC hnr
       obtain ⟨a7,c7,hr7,_,_⟩:=row_form hgr.procs
       have hr7' : rr = .slice a7 m c7:=by
        rw [hr7]
        show Value.slice a7 (childTo (PM.ins d) n PS j).length c7 = _
        rw [childTo_length,HPL.out]
       subst hr7'
       have x1:=B.cell (v:=.slice a7 m c7) HGR.out.head 1 rfl
       clear hf hgr hkr hdr hnr hr7
       by_cases hlt : n + j < m
       · have HDN : Hid (Calls Tryz.prog 110 #[.pointer (some ⟨gb,0,none⟩),.int .i64 ((n + j : Nat) : Int),.string d,.int .i64 0] wr fun e w'=>e = .returned (.tuple #[]) /\ GW.Left Hd lo mb gb wr Dr (.slice a7 m c7) orr { s2 with ps:=childTo (PM.ins d) n PS (j + 1) } w'):=done_any HC.out (n + j) d 0 wr HGR.out (by show (childTo (PM.ins d) n PS j).length <= 1000;rw [childTo_length,HPL.out];omega) (by show n + j < (childTo (PM.ins d) n PS j).length;rw [childTo_length,HPL.out];omega) h8 HBD.out
         have hcast : ((n + j : Nat) : Int) < (m : Int):=by omega
         go_wp2_with (go_at_call 110;refine HDN.out.mono ?_;rintro e w8 ⟨rfl,hl8⟩;have HL8:=hideC (LeftN.step (ys:=fun b=>b = fb) (fun b e=>(by rw [e];exact B.isLt HFR.out)) HKR.out HDR.out HNR.out hl8);have HF8:=hideC (hl8.keep HFR.out (HNR.out fb rfl));clear hl8)
         go_roundw
         case rel=>exact ⟨j + 1,by omega,by go_num,HL8.out,HF8.out⟩
         case measure=>simp [intOf];omega
       · have hje : j = PS.length - n:=by have:=HPL.out;omega
         have HFN : Hid (LeftN (fun b=>b = fb) Hd lo mb gb w D (.slice (some ⟨pb,0,none⟩) n cap) vo { s2 with ps:=childN (PM.ins d) n PS } wr):=by
          show LeftN _ _ _ _ _ _ _ _ _ _ _
          rw [<- childTo_all (PM.ins d) n PS (by have:=HPL.out;omega),<- hje]
          exact ⟨Dr,_,orr,HGR.out,HKR.out,HDR.out,HNR.out⟩
         have t0:=B.cell (v:=.int .i64 0) HFR.out 0 rfl
         have t1:=B.cell (v:=.int .i64 0) HFR.out 1 rfl
         have t2:=B.free HFR.out 0
         have t3:=B.free HFR.out 1
         have hcast : ¬ ((n + j : Nat) : Int) < (m : Int):=by omega
         clear hje
         go_wp2
         refine bodyPost_ret (v:=.agg #[.int .i64 0,.int .i64 0]) (by simp [results,Tryz.results81,go_sem,t0,t1]) rfl ?_
         rw [HD3.out]
         exact ⟨rfl,((HFN.out.set HC.out ⟨fb,0,none⟩ _ rfl hfw).set HC.out ⟨fb,1,none⟩ _ rfl hfw).left⟩
    · have hFi : (F1 == 0) = false:=by rw [beq_eq_false_iff_ne];exact hF1
      have HD3 : Hid (RR = ((F1,F2),s2)):=by rw [HD2.out,if_pos hF1];exact rfl
      clear HD2 hF1
      go_wp2_with (first
       | (go_at_call 108;refine (HA2.out _).mono ?_;rintro e w3 ⟨rfl,hb3⟩;have HB3:=hideC hb3;have HB4:=hideC (hb3.alloc hb3.size (.cells #[.int .i64 k0,.int .i64 k1,.int .i64 k2,.int .i64 k3,.int .i64 k4] 101));have BA:=hideC (B.new w3 #[.int .i64 k0,.int .i64 k1,.int .i64 k2,.int .i64 k3,.int .i64 k4] 101);have g2 : (w3.alloc (.cells #[.int .i64 k0,.int .i64 k1,.int .i64 k2,.int .i64 k3,.int .i64 k4] 101)).cell? ⟨gb,1,none⟩ = some (.slice a1 n cap1):=(HB4.out.cell (p:=⟨gb,1,none⟩) (B.isLt HGX.out.head)).trans g1;clear hb3)
       | (go_at_call 109;refine (HAN.out _ HB4.out).mono ?_;rintro e w5 ⟨rfl,hl5⟩;have HL5:=hideC hl5;have BZ5:=hideC (hl5.keep (B.alloc (B.below HZ.out HB3.out (B.isLt HZ.out)) _) (HNX1.out zb (.inr (.inr rfl))));have BF5:=hideC (hl5.keep (B.alloc (B.below HF.out HB3.out (B.isLt HF.out)) _) (HNX1.out fb (.inl rfl)));have y0:=B.cell (v:=.int .i64 0) BZ5.out 0 rfl;have y1:=B.cell (v:=.int .i64 X2) BZ5.out 1 rfl;have y2:=B.free BZ5.out 0;have y3:=B.free BZ5.out 1;have t0:=B.cell (v:=.int .i64 0) BF5.out 0 rfl;have t1:=B.cell (v:=.int .i64 0) BF5.out 1 rfl;have t2:=B.free BF5.out 0;have t3:=B.free BF5.out 1;clear hl5))
      refine bodyPost_ret (v:=.agg #[.int .i64 F1,.int .i64 F2]) (by simp [results,Tryz.results81,go_sem,t0,t1]) rfl ?_
      rw [HD3.out]
      have hLN:=LeftN.step (ys:=(fun b=>b = fb ∨ b = xb ∨ b = zb)) (fun b hb=>by have s4:=HB4.out.size;have l1:=B.isLt HF.out;have l2:=B.isLt HX.out;have l3:=B.isLt HZ.out;rcases hb with e | e | e <;> rw [e] <;> omega) (HKX.out.trans (Kp.ofBelow HB4.out) (fun _ _ g=>g)) HDX.out HNX1.out HL5.out
      have hzw : w.heap.size <= zb:=by have:=HXB.out;omega
      exact ⟨rfl,((((hLN.set HC.out ⟨zb,0,none⟩ _ (.inr (.inr rfl)) hzw).set HC.out ⟨zb,1,none⟩ _ (.inr (.inr rfl)) hzw).set HC.out ⟨fb,0,none⟩ _ (.inl rfl) hfw).set HC.out ⟨fb,1,none⟩ _ (.inl rfl) hfw).left⟩
  · have hXi : (X1 == 0) = false:=by rw [beq_eq_false_iff_ne];exact hX1
    have HD2 : Hid (RR = ((X1,X2),{ st with mem:=X3 })):=by rw [HDO.out,if_pos hX1];exact rfl
    clear HDO hX1
    go_wp2
    refine bodyPost_ret (v:=.agg #[.int .i64 X1,.int .i64 X2]) (by simp [results,Tryz.results81,go_sem,f0,f1]) rfl ?_
    rw [HD2.out]
    exact ⟨rfl,((HL.out.set HC.out ⟨fb,0,none⟩ _ (.inl rfl) hfw).set HC.out ⟨fb,1,none⟩ _ (.inl rfl) hfw).left⟩
end GW
end Go.Proofs.YtkdigjpejnebkaaGreat
