import Derived.Test.YtkdigjpejnebkaaGreatGS04
import Derived.Test.YtkdigjpejnebkaaGreatGS10
import Derived.Test.YtkdigjpejnebkaaGreatGS08
import Derived.Test.YtkdigjpejnebkaaGreatGS03
import Derived.Test.YtkdigjpejnebkaaGreatGS09
set_option linter.unusedVariables false
set_option maxRecDepth 100000
set_option linter.unusedSimpArgs false
namespace Go.Proofs.YtkdigjpejnebkaaGreat
namespace GG
open Go.RowKit
structure Ops (σ : Type) where
 load : σ -> Nat -> Int -> Int -> Int -> (ByteArray × (Int × Int)) × σ
 store : σ -> Nat -> Int -> ByteArray -> (Int × Int) × σ
 map : σ -> Nat -> Int -> Int -> Int -> Int × σ
 unmap : σ -> Nat -> Int -> Int -> Int × σ
 protect : σ -> Nat -> Int -> Int -> Int -> Int × σ
 fork : σ -> Nat -> Int × σ
 drop : σ -> Nat -> σ
structure St (σ : Type) where
 mem : σ
 ps : List PM.Pr
 out : List FM.Wd
variable {σ : Type}
def getN (s : ByteArray) : Int:=if 1 <= s.size /\ s.size <= 8 then wrap64 (Lib.leNat s.data.toList : Nat) else 0
def putN (v n : Int) : ByteArray:=⟨(Lib.leBytes n.toNat (CM.low v)).toArray⟩
def callG (o : Ops σ) (st : St σ) (k : Nat) (c : Int) : Int × St σ :=
 if c = 1 then (0,{ st with out:=st.out ++ [⟨(k : Int),(FM.prAt st.ps k).r 0⟩] })
 else if c = 2 then ((o.map st.mem k ((FM.prAt st.ps k).r 0) ((FM.prAt st.ps k).r 1) ((FM.prAt st.ps k).r 2)).1,{ st with mem:=(o.map st.mem k ((FM.prAt st.ps k).r 0) ((FM.prAt st.ps k).r 1) ((FM.prAt st.ps k).r 2)).2 })
 else if c = 3 then ((o.unmap st.mem k ((FM.prAt st.ps k).r 0) ((FM.prAt st.ps k).r 1)).1,{ st with mem:=(o.unmap st.mem k ((FM.prAt st.ps k).r 0) ((FM.prAt st.ps k).r 1)).2 })
 else if c = 4 then ((o.protect st.mem k ((FM.prAt st.ps k).r 0) ((FM.prAt st.ps k).r 1) ((FM.prAt st.ps k).r 2)).1,{ st with mem:=(o.protect st.mem k ((FM.prAt st.ps k).r 0) ((FM.prAt st.ps k).r 1) ((FM.prAt st.ps k).r 2)).2 })
 else if c = 5 then (if (o.fork st.mem k).1 = 0 then ((st.ps.length : Int),{ st with mem:=(o.fork st.mem k).2,ps:=st.ps ++ [FM.prAt st.ps k] }) else (-1,{ st with mem:=(o.fork st.mem k).2 }))
 else if c = 6 then (0,{ st with mem:=o.drop st.mem k })
 else (0,st)
def answerG (o : Ops σ) (st : St σ) (k : Nat) (i : PM.Ins) : (Int × (Int × Int)) × St σ :=
 if i.bad then ((0,(4,(FM.prAt st.ps k).pc)),st)
 else if i.op = 9 then
  ((getN (o.load st.mem k (wrap64 ((FM.prAt st.ps k).r i.b.toNat + i.m)) i.c 0).1.1,(o.load st.mem k (wrap64 ((FM.prAt st.ps k).r i.b.toNat + i.m)) i.c 0).1.2),{ st with mem:=(o.load st.mem k (wrap64 ((FM.prAt st.ps k).r i.b.toNat + i.m)) i.c 0).2 })
 else if i.op = 10 then
  ((0,(o.store st.mem k (wrap64 ((FM.prAt st.ps k).r i.b.toNat + i.m)) (putN ((FM.prAt st.ps k).r i.a.toNat) i.c)).1),{ st with mem:=(o.store st.mem k (wrap64 ((FM.prAt st.ps k).r i.b.toNat + i.m)) (putN ((FM.prAt st.ps k).r i.a.toNat) i.c)).2 })
 else if i.op = 16 then (((callG o st k i.m).1,(0,0)),(callG o st k i.m).2)
 else ((0,(0,0)),st)
def childN (i : PM.Ins) (n : Nat) (ps : List PM.Pr) : List PM.Pr:=ps.take n ++ (ps.drop n).map (fun p=>PM.doneN p i 0)
def doG (o : Ops σ) (st : St σ) (k : Nat) : (Int × Int) × St σ :=
 let x:=o.load st.mem k (FM.prAt st.ps k).pc 8 2
 let s1 : St σ:={ st with mem:=x.2 }
 if ¬ x.1.2.1 = 0 then (x.1.2,s1) else
 let i:=PM.ins x.1.1
 let y:=answerG o s1 k i
 if ¬ y.1.2.1 = 0 then (y.1.2,y.2) else
 ((0,0),{ y.2 with ps:=childN i st.ps.length (y.2.ps.set k (PM.doneN (FM.prAt y.2.ps k) i y.1.1)) })
def stepG (o : Ops σ) (st : St σ) (pick : Int) : Int × St σ :=
 if ¬ (0 <= pick /\ pick < (st.ps.length : Int)) then (6,st)
 else if ¬ (FM.prAt st.ps pick.toNat).st = 1 then (0,st)
 else if 2000 <= st.out.length then (2,st)
 else
  let r:=doG o st pick.toNat
  if r.1.1 = 0 then (0,r.2) else (0,{ r.2 with mem:=o.drop r.2.mem pick.toNat,ps:=r.2.ps.set pick.toNat (FW.killN (FM.prAt r.2.ps pick.toNat) r.1) })
def runTo (o : Ops σ) (picks : List Int) : Nat -> Option (St σ) -> Option (St σ)
 | 0,st=>st
 | n + 1,st=>match runTo o picks n st with
  | none=>none
  | some s=>if (stepG o s (picks.getD n 0)).1 = 2 then none else some (stepG o s (picks.getD n 0)).2
def runG (o : Ops σ) (st : St σ) (picks : List Int) : Int × Option (St σ) :=
 if 2000 < picks.length then (2,none) else match runTo o picks picks.length (some st) with
  | none=>(2,none)
  | some s=>(0,some s)
structure OpsOk (o : Ops σ) (Ok : σ -> List Bool -> Prop) : Prop where
 load : ∀ s fl k a n way,Ok s fl -> fl.getD k false = true -> Ok (o.load s k a n way).2 fl
 size : ∀ s fl k a n way,Ok s fl -> fl.getD k false = true -> 1 <= n -> n <= 8 -> (o.load s k a n way).1.2.1 = 0 -> ((o.load s k a n way).1.1.size : Int) = n
 fault : ∀ s fl k a n way,Ok s fl -> fl.getD k false = true -> 0 <= (o.load s k a n way).1.2.1 /\ (o.load s k a n way).1.2.1 <= 4 /\ ((o.load s k a n way).1.2.1 = 0 -> (o.load s k a n way).1.2 = (0,0))
 none : ∀ s fl k a n way,Ok s fl -> fl.getD k false = true -> ¬ (o.load s k a n way).1.2.1 = 0 -> (o.load s k a n way).1.1 = ⟨#[]⟩
 store : ∀ s fl k a d,Ok s fl -> fl.getD k false = true -> 1 <= d.size -> d.size <= 8 -> Ok (o.store s k a d).2 fl
 faultS : ∀ s fl k a d,Ok s fl -> fl.getD k false = true -> 0 <= (o.store s k a d).1.1 /\ (o.store s k a d).1.1 <= 4 /\ ((o.store s k a d).1.1 = 0 -> (o.store s k a d).1 = (0,0))
 map : ∀ s fl k p n q,Ok s fl -> fl.getD k false = true -> Ok (o.map s k p n q).2 fl
 unmap : ∀ s fl k p n,Ok s fl -> fl.getD k false = true -> Ok (o.unmap s k p n).2 fl
 protect : ∀ s fl k p n q,Ok s fl -> fl.getD k false = true -> Ok (o.protect s k p n q).2 fl
 forkNo : ∀ s fl k,Ok s fl -> fl.getD k false = true -> ¬ (o.fork s k).1 = 0 -> Ok (o.fork s k).2 fl
 forkYes : ∀ s fl k,Ok s fl -> fl.getD k false = true -> (o.fork s k).1 = 0 -> Ok (o.fork s k).2 (fl ++ [true])
 mapV : ∀ s fl k p n q,Ok s fl -> fl.getD k false = true -> 0 <= (o.map s k p n q).1 /\ (o.map s k p n q).1 <= 10
 unmapV : ∀ s fl k p n,Ok s fl -> fl.getD k false = true -> 0 <= (o.unmap s k p n).1 /\ (o.unmap s k p n).1 <= 10
 protectV : ∀ s fl k p n q,Ok s fl -> fl.getD k false = true -> 0 <= (o.protect s k p n q).1 /\ (o.protect s k p n q).1 <= 10
 few : ∀ s fl,Ok s fl -> fl.length <= 4
 drop : ∀ s fl k,Ok s fl -> fl.getD k false = true -> Ok (o.drop s k) (fl.set k false)
def running (ps : List PM.Pr) : List Bool:=ps.map (fun p=>decide (p.st = 1))
theorem running_at (ps : List PM.Pr) (k : Nat) : (running ps).getD k false = (decide (k < ps.length) && decide ((FM.prAt ps k).st = 1)):=by
 unfold running FM.prAt
 rw [List.getD_eq_getElem?_getD,List.getD_eq_getElem?_getD,List.getElem?_map]
 by_cases h : k < ps.length
 · rw [List.getElem?_eq_getElem h,decide_eq_true h];simp
 · rw [List.getElem?_eq_none (by omega),decide_eq_false h];rfl
theorem running_set (ps : List PM.Pr) (k : Nat) (p : PM.Pr) : running (ps.set k p) = (running ps).set k (decide (p.st = 1)):=by
 unfold running
 rw [List.map_set]
theorem running_snoc (ps : List PM.Pr) (p : PM.Pr) : running (ps ++ [p]) = running ps ++ [decide (p.st = 1)]:=by
 unfold running
 rw [List.map_append];rfl
variable {σ : Type}
theorem wrap64_fit (n : Int) : M.I64 (wrap64 n):=by
 unfold M.I64 wrap64
 have:=IntKind.wrap_i64 n
 omega
theorem wrap_fit (n : Int) : M.I64 (IntKind.i64.wrap n):=by
 unfold M.I64
 have:=IntKind.wrap_i64 n
 omega
def FitP (p : PM.Pr) : Prop:=(∀ j,j < 8 -> M.I64 (p.r j)) /\ M.I64 p.pc
theorem fit_set {p : PM.Pr} (h : FitP p) (j : Nat) {v : Int} (hv : M.I64 v) : FitP (p.set j v):=by
 refine ⟨fun q hq=>?_,h.2⟩
 show M.I64 (if q = j then v else p.r q)
 split
 · exact hv
 · exact h.1 q hq
theorem fit_pc {p : PM.Pr} (h : FitP p) {v : Int} (hv : M.I64 v) : FitP { p with pc:=v }:=⟨h.1,hv⟩
theorem ite_ok {α : Type} (P : α -> Prop) {c : Prop} [Decidable c] {a b : α} (h1 : c -> P a) (h2 : ¬ c -> P b) : P (if c then a else b):=by
 by_cases h : c
 · rw [if_pos h];exact h1 h
 · rw [if_neg h];exact h2 h
theorem bad_range {i : PM.Ins} (hb : i.bad = false) : 1 <= i.op /\ i.op <= 16:=by
 unfold PM.Ins.bad at hb
 by_cases h12 : i.op = 12
 · omega
 · by_cases h16 : i.op = 16
   · omega
   · rw [if_neg h12,if_neg h16] at hb
     by_cases c1 : i.op = 1 ∨ i.op = 11 ∨ i.op = 15
     · omega
     · rw [if_neg c1] at hb
       by_cases c2 : 2 <= i.op /\ i.op <= 7
       · omega
       · rw [if_neg c2] at hb
         by_cases c3 : i.op = 8 ∨ i.op = 13 ∨ i.op = 14
         · omega
         · rw [if_neg c3] at hb
           by_cases c4 : i.op = 9 ∨ i.op = 10
           · omega
           · rw [if_neg c4] at hb
             cases hb
theorem bad_regs {i : PM.Ins} (hb : i.bad = false) (hf : i.fits) : (i.op = 15 -> i.a.toNat < 8) /\ (2 <= i.op /\ i.op <= 7 -> i.b.toNat < 8):=by
 obtain ⟨_,⟨a0,a1⟩,⟨b0,b1⟩,_⟩:=hf
 unfold PM.Ins.bad at hb
 constructor
 · intro h
   simp [h] at hb
   omega
 · intro h
   rw [if_neg (by omega),if_neg (by omega),if_neg (by omega),if_pos h,decide_eq_false_iff_not] at hb
   omega
theorem done_ind (P : PM.Pr -> Prop) (p : PM.Pr) (i : PM.Ins) (v : Int) (hb : i.bad = false)
  (h0 : P { p with pc:=wrap64 (p.pc + 8) }) (hs : ∀ j x,(x = i.m ∨ x = v ∨ (∃ y,x = wrap64 y) ∨ (2 <= i.op /\ i.op <= 7 /\ x = PM.rk i.op (p.r i.b.toNat) (p.r i.c.toNat))) -> P (({ p with pc:=wrap64 (p.pc + 8) } : PM.Pr).set j x))
  (hp : ∀ y,P { p with pc:=wrap64 y }) (hg : i.op = 15 -> P { p with pc:=p.r i.a.toNat }) (he : i.op = 16 -> i.m = 6 -> P { p with pc:=wrap64 (p.pc + 8),st:=2,cd:=p.r 0 }) : P (PM.doneN p i v):=by
 have hr:=bad_range hb
 unfold PM.doneN
 simp only
 refine ite_ok P (fun _=>hs _ _ (.inl rfl)) (fun n1=>?_)
 refine ite_ok P (fun g=>hs _ _ (.inr (.inr (.inr ⟨g.1,g.2,rfl⟩)))) (fun n2=>?_)
 refine ite_ok P (fun _=>hs _ _ (.inr (.inr (.inl ⟨_,rfl⟩)))) (fun n3=>?_)
 refine ite_ok P (fun _=>hs _ _ (.inr (.inl rfl))) (fun n4=>?_)
 refine ite_ok P (fun _=>h0) (fun n5=>?_)
 refine ite_ok P (fun _=>hs _ _ (.inr (.inr (.inl ⟨_,rfl⟩)))) (fun n6=>?_)
 refine ite_ok P (fun _=>hp _) (fun n7=>?_)
 refine ite_ok P (fun _=>ite_ok P (fun _=>hp _) (fun _=>h0)) (fun n8=>?_)
 refine ite_ok P (fun _=>ite_ok P (fun _=>hp _) (fun _=>h0)) (fun n9=>?_)
 refine ite_ok P (fun g=>hg g) (fun n10=>?_)
 refine ite_ok P (fun g=>he (by omega) g) (fun n11=>?_)
 refine ite_ok P (fun _=>h0) (fun n12=>?_)
 exact hs _ _ (.inr (.inl rfl))
theorem done_exit {p : PM.Pr} {i : PM.Ins} {v : Int} (h : i.op = 16) (h6 : i.m = 6) : PM.doneN p i v = { p with pc:=wrap64 (p.pc + 8),st:=2,cd:=p.r 0 }:=by
 unfold PM.doneN
 simp [h,h6]
theorem done_st {p : PM.Pr} {i : PM.Ins} {v : Int} (hb : i.bad = false) (h : ¬ (i.op = 16 /\ i.m = 6)) : (PM.doneN p i v).st = p.st :=
 done_ind (fun q=>q.st = p.st) p i v hb rfl (fun _ _ _=>rfl) (fun _=>rfl) (fun _=>rfl) (fun g1 g2=>(h ⟨g1,g2⟩).elim)
theorem done_right {p : PM.Pr} {i : PM.Ins} {v : Int} (hb : i.bad = false) (h : p.st = 1) (hr : FM.rightProc p = true) : FM.rightProc (PM.doneN p i v) = true:=by
 have h2 : p.cd = 0 /\ p.fk = 0 /\ p.fa = 0:=by
  unfold FM.rightProc FM.noFault at hr
  rw [if_pos h] at hr
  simp only [Bool.and_eq_true,decide_eq_true_eq] at hr
  exact hr
 have key : ∀ q : PM.Pr,q.st = 1 -> q.cd = 0 -> q.fk = 0 -> q.fa = 0 -> FM.rightProc q = true:=fun q e1 e2 e3 e4=>by
  unfold FM.rightProc FM.noFault
  rw [if_pos e1,e2,e3,e4];rfl
 refine done_ind (fun q=>FM.rightProc q = true) p i v hb (key _ h h2.1 h2.2.1 h2.2.2) (fun _ _ _=>key _ h h2.1 h2.2.1 h2.2.2) (fun _=>key _ h h2.1 h2.2.1 h2.2.2) (fun _=>key _ h h2.1 h2.2.1 h2.2.2) (fun _ _=>?_)
 unfold FM.rightProc FM.noFault
 simp [h2]
theorem rk_fit (op b c : Int) (hb : M.I64 b) : M.I64 (PM.rk op b c):=by
 have hbits : ∀ o,M.I64 (bits o .i64 b c):=fun o=>by
  unfold bits
  exact wrap_fit _
 unfold PM.rk
 repeat' split
 all_goals first | exact wrap64_fit _ | exact hbits _
theorem done_fit {p : PM.Pr} {i : PM.Ins} {v : Int} (h : FitP p) (hv : M.I64 v) (hb : i.bad = false) (hf : i.fits) : FitP (PM.doneN p i v):=by
 have hn : FitP { p with pc:=wrap64 (p.pc + 8) }:=fit_pc h (wrap64_fit _)
 have hm : M.I64 i.m:=by obtain ⟨_,_,_,_,m0,m1⟩:=hf;unfold M.I64;omega
 have hreg:=bad_regs hb hf
 refine done_ind FitP p i v hb hn (fun j x hx=>fit_set hn j ?_) (fun _=>fit_pc h (wrap64_fit _)) (fun g=>fit_pc h (h.1 _ (hreg.1 g))) (fun _ _=>⟨hn.1,hn.2⟩)
 rcases hx with e | e | ⟨y,e⟩ | ⟨g1,g2,e⟩
 · rw [e];exact hm
 · rw [e];exact hv
 · rw [e];exact wrap64_fit _
 · rw [e];exact rk_fit _ _ _ (h.1 _ (hreg.2 ⟨g1,g2⟩))
end GG
namespace PM
open Go.RowKit
end PM
namespace GG
open Go.RowKit
variable {σ : Type}
structure GOk (Ok : σ -> List Bool -> Prop) (st : St σ) : Prop where
 mem : Ok st.mem (running st.ps)
 fit : ∀ k,k < st.ps.length -> FitP (FM.prAt st.ps k)
 right : ∀ k,k < st.ps.length -> FM.rightProc (FM.prAt st.ps k) = true
 words : ∀ x ∈ st.out,0 <= x.proc /\ x.proc < (st.ps.length : Int)
 out : st.out.length <= 2000
theorem prAt_set (ps : List PM.Pr) (k j : Nat) (p : PM.Pr) (hk : k < ps.length) : FM.prAt (ps.set k p) j = if j = k then p else FM.prAt ps j:=by
 unfold FM.prAt
 rw [List.getD_eq_getElem?_getD,List.getD_eq_getElem?_getD,List.getElem?_set]
 by_cases h : j = k
 · rw [if_pos h,if_pos h.symm]
   subst h
   rw [if_pos hk];rfl
 · rw [if_neg h,if_neg (fun g=>h g.symm)]
theorem prAt_snoc (ps : List PM.Pr) (p : PM.Pr) (j : Nat) : FM.prAt (ps ++ [p]) j = if j < ps.length then FM.prAt ps j else if j = ps.length then p else FM.pr0:=by
 unfold FM.prAt
 rw [List.getD_eq_getElem?_getD,List.getD_eq_getElem?_getD]
 by_cases h : j < ps.length
 · rw [if_pos h,List.getElem?_append_left h]
 · rw [if_neg h,List.getElem?_append_right (by omega)]
   by_cases h2 : j = ps.length
   · rw [if_pos h2,h2,Nat.sub_self];rfl
   · rw [if_neg h2]
     obtain ⟨d,hd⟩ : ∃ d,j - ps.length = d + 1:=⟨j - ps.length - 1,by omega⟩
     rw [hd];rfl
theorem child_none (i : PM.Ins) (ps : List PM.Pr) : childN i ps.length ps = ps:=by
 unfold childN
 rw [List.take_length,List.drop_length];simp
theorem child_len (i : PM.Ins) (ps : List PM.Pr) (n : Nat) (h : n = ps.length) : childN i n ps = ps:=by rw [h];exact child_none i ps
theorem child_one (i : PM.Ins) (ps : List PM.Pr) (p : PM.Pr) (n : Nat) (h : n = ps.length) : childN i n (ps ++ [p]) = ps ++ [PM.doneN p i 0]:=by
 subst h
 unfold childN
 rw [List.take_left,List.drop_left];rfl
theorem set_snoc (ps : List PM.Pr) (p q : PM.Pr) (k : Nat) (h : k < ps.length) : (ps ++ [p]).set k q = ps.set k q ++ [p]:=by
 rw [List.set_append_left _ _ h]
section
variable {Ok : σ -> List Bool -> Prop}
theorem mem_only {st : St σ} {m : σ} (h : GOk Ok st) (hm : Ok m (running st.ps)) : GOk Ok { st with mem:=m }:=⟨hm,h.fit,h.right,h.words,h.out⟩
theorem live_at {st : St σ} (k : Nat) (hk : k < st.ps.length) (h1 : (FM.prAt st.ps k).st = 1) : (running st.ps).getD k false = true:=by
 rw [running_at,decide_eq_true hk,decide_eq_true h1];rfl
theorem done_ok {st : St σ} (h : GOk Ok st) (k : Nat) (hk : k < st.ps.length) (h1 : (FM.prAt st.ps k).st = 1) {i : PM.Ins} {v : Int} (hv : M.I64 v) (hb : i.bad = false) (hf : i.fits) {m : σ} (hm : Ok m (if i.op = 16 /\ i.m = 6 then (running st.ps).set k false else running st.ps)) :
  GOk Ok { st with mem:=m,ps:=st.ps.set k (PM.doneN (FM.prAt st.ps k) i v) }:=by
 have hlen : (st.ps.set k (PM.doneN (FM.prAt st.ps k) i v)).length = st.ps.length:=List.length_set
 refine ⟨?_,fun j hj=>?_,fun j hj=>?_,fun x hx=>?_,h.out⟩
 · show Ok m (running (st.ps.set k (PM.doneN (FM.prAt st.ps k) i v)))
   rw [running_set]
   by_cases c : i.op = 16 /\ i.m = 6
   · rw [if_pos c] at hm
     rw [done_exit c.1 c.2]
     exact hm
   · rw [if_neg c] at hm
     rw [done_st hb c,decide_eq_true h1]
     have e : (running st.ps).set k true = running st.ps:=by
      apply List.ext_getElem?
      intro j
      rw [List.getElem?_set]
      by_cases e : k = j
      · subst e
        have hk' : k < (running st.ps).length:=by unfold running;rw [List.length_map];exact hk
        have hg:=live_at k hk h1
        rw [List.getD_eq_getElem?_getD,List.getElem?_eq_getElem hk'] at hg
        rw [if_pos rfl,if_pos hk',List.getElem?_eq_getElem hk']
        exact congrArg some hg.symm
      · rw [if_neg e]
     rw [e];exact hm
 · have hj' : j < st.ps.length:=hlen ▸ hj
   show FitP (FM.prAt (st.ps.set k _) j)
   rw [prAt_set _ _ _ _ hk]
   split
   · exact done_fit (h.fit k hk) hv hb hf
   · exact h.fit j hj'
 · have hj' : j < st.ps.length:=hlen ▸ hj
   show FM.rightProc (FM.prAt (st.ps.set k _) j) = true
   rw [prAt_set _ _ _ _ hk]
   split
   · exact done_right hb h1 (h.right k hk)
   · exact h.right j hj'
 · have:=h.words x hx
   show 0 <= x.proc /\ x.proc < ((st.ps.set k _).length : Int)
   rw [hlen];exact this
theorem snoc_ok {st : St σ} (h : GOk Ok st) {p : PM.Pr} (hf : FitP p) (hr : FM.rightProc p = true) {m : σ} (hm : Ok m (running st.ps ++ [decide (p.st = 1)])) : GOk Ok { st with mem:=m,ps:=st.ps ++ [p] }:=by
 have hlen : (st.ps ++ [p]).length = st.ps.length + 1:=by simp
 refine ⟨?_,fun j hj=>?_,fun j hj=>?_,fun x hx=>?_,h.out⟩
 · show Ok m (running (st.ps ++ [p]))
   rw [running_snoc];exact hm
 · have hj' : j < st.ps.length + 1:=hlen ▸ hj
   show FitP (FM.prAt (st.ps ++ [p]) j)
   rw [prAt_snoc]
   by_cases c : j < st.ps.length
   · rw [if_pos c];exact h.fit j c
   · rw [if_neg c,if_pos (by omega)];exact hf
 · have hj' : j < st.ps.length + 1:=hlen ▸ hj
   show FM.rightProc (FM.prAt (st.ps ++ [p]) j) = true
   rw [prAt_snoc]
   by_cases c : j < st.ps.length
   · rw [if_pos c];exact h.right j c
   · rw [if_neg c,if_pos (by omega)];exact hr
 · have:=h.words x hx
   show 0 <= x.proc /\ x.proc < ((st.ps ++ [p]).length : Int)
   rw [hlen];omega
theorem getN_fit (s : ByteArray) : M.I64 (getN s):=by
 unfold getN
 split
 · exact wrap64_fit _
 · unfold M.I64;omega
theorem bad_size {i : PM.Ins} (hb : i.bad = false) (h : i.op = 9 ∨ i.op = 10) : 1 <= i.c /\ i.c <= 8:=by
 unfold PM.Ins.bad at hb
 rw [if_neg (by omega),if_neg (by omega),if_neg (by omega),if_neg (by omega),if_neg (by omega),if_pos h] at hb
 unfold PM.isSize at hb
 simp at hb
 omega
theorem putN_size (v n : Int) : (putN v n).size = n.toNat:=by
 unfold putN
 show (Lib.leBytes n.toNat (CM.low v)).toArray.size = n.toNat
 simp [Lib.leBytes_length]
structure Left (Ok : σ -> List Bool -> Prop) (st : St σ) (k : Nat) (i : PM.Ins) (y : (Int × (Int × Int)) × St σ) : Prop where
 fault : ¬ y.1.2.1 = 0 -> y.2.ps = st.ps /\ GOk Ok y.2
 plain : y.1.2.1 = 0 -> (y.2.ps = st.ps /\ Ok y.2.mem (if i.op = 16 /\ i.m = 6 then (running st.ps).set k false else running st.ps) ∨ (¬ (i.op = 16 /\ i.m = 6)) /\ y.2.ps = st.ps ++ [FM.prAt st.ps k] /\ Ok y.2.mem (running st.ps ++ [true])) /\ M.I64 y.1.1 /\ i.bad = false
 words : ∀ x ∈ y.2.out,0 <= x.proc /\ x.proc < (st.ps.length : Int)
 out : y.2.out.length <= st.out.length + 1
 kind : ¬ y.1.2.1 = 0 -> 1 <= y.1.2.1 /\ y.1.2.1 <= 4
theorem answer_left {o : Ops σ} (ho : OpsOk o Ok) {st : St σ} (h : GOk Ok st) (k : Nat) (hk : k < st.ps.length) (h1 : (FM.prAt st.ps k).st = 1) (i : PM.Ins) (hf : i.fits) : Left Ok st k i (answerG o st k i):=by
 have hl:=live_at k hk h1
 have hi0 : M.I64 0:=by unfold M.I64;omega
 have h4:=ho.few _ _ h.mem
 have hps : st.ps.length <= 4:=by unfold running at h4;rw [List.length_map] at h4;exact h4
 unfold answerG
 by_cases hb : i.bad = true
 · rw [if_pos hb]
   exact ⟨fun _=>⟨rfl,h⟩,fun g=>by simp at g,h.words,Nat.le_succ _,fun _=>by simp⟩
 · have hbf : i.bad = false:=by simpa using hb
   rw [if_neg hb]
   by_cases c9 : i.op = 9
   · rw [if_pos c9]
     have hm:=ho.load st.mem _ k (wrap64 ((FM.prAt st.ps k).r i.b.toNat + i.m)) i.c 0 h.mem hl
     have hft:=ho.fault st.mem _ k (wrap64 ((FM.prAt st.ps k).r i.b.toNat + i.m)) i.c 0 h.mem hl
     exact ⟨fun _=>⟨rfl,mem_only h hm⟩,fun g=>⟨.inl ⟨rfl,by rw [if_neg (by omega)];exact hm⟩,getN_fit _,hbf⟩,h.words,Nat.le_succ _,fun g=>⟨by have : ¬ (o.load st.mem k (wrap64 ((FM.prAt st.ps k).r i.b.toNat + i.m)) i.c 0).1.2.1 = 0:=g;show 1 <= (o.load st.mem k (wrap64 ((FM.prAt st.ps k).r i.b.toNat + i.m)) i.c 0).1.2.1;omega,hft.2.1⟩⟩
   · rw [if_neg c9]
     by_cases c10 : i.op = 10
     · rw [if_pos c10]
       have hm:=ho.store st.mem _ k (wrap64 ((FM.prAt st.ps k).r i.b.toNat + i.m)) (putN ((FM.prAt st.ps k).r i.a.toNat) i.c) h.mem hl (by rw [putN_size];have:=bad_size hbf (.inr c10);omega) (by rw [putN_size];have:=bad_size hbf (.inr c10);omega)
       have hft:=ho.faultS st.mem _ k (wrap64 ((FM.prAt st.ps k).r i.b.toNat + i.m)) (putN ((FM.prAt st.ps k).r i.a.toNat) i.c) h.mem hl
       exact ⟨fun _=>⟨rfl,mem_only h hm⟩,fun g=>⟨.inl ⟨rfl,by rw [if_neg (by omega)];exact hm⟩,hi0,hbf⟩,h.words,Nat.le_succ _,fun g=>⟨by have : ¬ (o.store st.mem k (wrap64 ((FM.prAt st.ps k).r i.b.toNat + i.m)) (putN ((FM.prAt st.ps k).r i.a.toNat) i.c)).1.1 = 0:=g;show 1 <= (o.store st.mem k (wrap64 ((FM.prAt st.ps k).r i.b.toNat + i.m)) (putN ((FM.prAt st.ps k).r i.a.toNat) i.c)).1.1;omega,hft.2.1⟩⟩
     · rw [if_neg c10]
       by_cases c16 : i.op = 16
       · rw [if_pos c16]
         unfold callG
         by_cases d1 : i.m = 1
         · rw [if_pos d1]
           refine ⟨fun g=>(g rfl).elim,fun _=>⟨.inl ⟨rfl,by rw [if_neg (by omega)];exact h.mem⟩,hi0,hbf⟩,fun x hx=>?_,by simp,fun g=>(g rfl).elim⟩
           rcases List.mem_append.1 hx with g | g
           · exact h.words x g
           · rw [List.mem_singleton.1 g]
             show 0 <= (k : Int) /\ (k : Int) < _
             omega
         · rw [if_neg d1]
           by_cases d2 : i.m = 2
           · rw [if_pos d2]
             have hm:=ho.map st.mem _ k ((FM.prAt st.ps k).r 0) ((FM.prAt st.ps k).r 1) ((FM.prAt st.ps k).r 2) h.mem hl
             have hv:=ho.mapV st.mem _ k ((FM.prAt st.ps k).r 0) ((FM.prAt st.ps k).r 1) ((FM.prAt st.ps k).r 2) h.mem hl
             exact ⟨fun g=>(g rfl).elim,fun _=>⟨.inl ⟨rfl,by rw [if_neg (by omega)];exact hm⟩,by unfold M.I64;show -9223372036854775808 <= (o.map st.mem k ((FM.prAt st.ps k).r 0) ((FM.prAt st.ps k).r 1) ((FM.prAt st.ps k).r 2)).1 /\ (o.map st.mem k ((FM.prAt st.ps k).r 0) ((FM.prAt st.ps k).r 1) ((FM.prAt st.ps k).r 2)).1 <= _;omega,hbf⟩,h.words,Nat.le_succ _,fun g=>(g rfl).elim⟩
           · rw [if_neg d2]
             by_cases d3 : i.m = 3
             · rw [if_pos d3]
               have hm:=ho.unmap st.mem _ k ((FM.prAt st.ps k).r 0) ((FM.prAt st.ps k).r 1) h.mem hl
               have hv:=ho.unmapV st.mem _ k ((FM.prAt st.ps k).r 0) ((FM.prAt st.ps k).r 1) h.mem hl
               exact ⟨fun g=>(g rfl).elim,fun _=>⟨.inl ⟨rfl,by rw [if_neg (by omega)];exact hm⟩,by unfold M.I64;show -9223372036854775808 <= (o.unmap st.mem k ((FM.prAt st.ps k).r 0) ((FM.prAt st.ps k).r 1)).1 /\ (o.unmap st.mem k ((FM.prAt st.ps k).r 0) ((FM.prAt st.ps k).r 1)).1 <= _;omega,hbf⟩,h.words,Nat.le_succ _,fun g=>(g rfl).elim⟩
             · rw [if_neg d3]
               by_cases d4 : i.m = 4
               · rw [if_pos d4]
                 have hm:=ho.protect st.mem _ k ((FM.prAt st.ps k).r 0) ((FM.prAt st.ps k).r 1) ((FM.prAt st.ps k).r 2) h.mem hl
                 have hv:=ho.protectV st.mem _ k ((FM.prAt st.ps k).r 0) ((FM.prAt st.ps k).r 1) ((FM.prAt st.ps k).r 2) h.mem hl
                 exact ⟨fun g=>(g rfl).elim,fun _=>⟨.inl ⟨rfl,by rw [if_neg (by omega)];exact hm⟩,by unfold M.I64;show -9223372036854775808 <= (o.protect st.mem k ((FM.prAt st.ps k).r 0) ((FM.prAt st.ps k).r 1) ((FM.prAt st.ps k).r 2)).1 /\ (o.protect st.mem k ((FM.prAt st.ps k).r 0) ((FM.prAt st.ps k).r 1) ((FM.prAt st.ps k).r 2)).1 <= _;omega,hbf⟩,h.words,Nat.le_succ _,fun g=>(g rfl).elim⟩
               · rw [if_neg d4]
                 by_cases d5 : i.m = 5
                 · rw [if_pos d5]
                   by_cases f0 : (o.fork st.mem k).1 = 0
                   · rw [if_pos f0]
                     have hm:=ho.forkYes st.mem _ k h.mem hl f0
                     exact ⟨fun g=>(g rfl).elim,fun _=>⟨.inr ⟨by omega,rfl,hm⟩,by unfold M.I64;show -9223372036854775808 <= (st.ps.length : Int) /\ (st.ps.length : Int) <= _;omega,hbf⟩,h.words,Nat.le_succ _,fun g=>(g rfl).elim⟩
                   · rw [if_neg f0]
                     have hm:=ho.forkNo st.mem _ k h.mem hl f0
                     exact ⟨fun g=>(g rfl).elim,fun _=>⟨.inl ⟨rfl,by rw [if_neg (by omega)];exact hm⟩,by unfold M.I64;show -9223372036854775808 <= (-1 : Int) /\ (-1 : Int) <= _;omega,hbf⟩,h.words,Nat.le_succ _,fun g=>(g rfl).elim⟩
                 · rw [if_neg d5]
                   by_cases d6 : i.m = 6
                   · rw [if_pos d6]
                     have hm:=ho.drop st.mem _ k h.mem hl
                     exact ⟨fun g=>(g rfl).elim,fun _=>⟨.inl ⟨rfl,by rw [if_pos ⟨c16,d6⟩];exact hm⟩,hi0,hbf⟩,h.words,Nat.le_succ _,fun g=>(g rfl).elim⟩
                   · rw [if_neg d6]
                     exact ⟨fun g=>(g rfl).elim,fun _=>⟨.inl ⟨rfl,by rw [if_neg (by omega)];exact h.mem⟩,hi0,hbf⟩,h.words,Nat.le_succ _,fun g=>(g rfl).elim⟩
       · rw [if_neg c16]
         exact ⟨fun g=>(g rfl).elim,fun _=>⟨.inl ⟨rfl,by rw [if_neg (by omega)];exact h.mem⟩,hi0,hbf⟩,h.words,Nat.le_succ _,fun g=>(g rfl).elim⟩
end
variable {σ : Type} {Ok : σ -> List Bool -> Prop}
structure DoLeft (Ok : σ -> List Bool -> Prop) (st : St σ) (r : (Int × Int) × St σ) : Prop where
 ok : GOk Ok r.2
 same : ¬ r.1.1 = 0 -> r.2.ps = st.ps
 kind : ¬ r.1.1 = 0 -> 1 <= r.1.1 /\ r.1.1 <= 4
theorem do_left {o : Ops σ} (ho : OpsOk o Ok) {st : St σ} (h : GOk Ok st) (hout : st.out.length < 2000) (k : Nat) (hk : k < st.ps.length) (h1 : (FM.prAt st.ps k).st = 1) : DoLeft Ok st (doG o st k):=by
 have hl:=live_at k hk h1
 have hm:=ho.load st.mem _ k (FM.prAt st.ps k).pc 8 2 h.mem hl
 have hft:=ho.fault st.mem _ k (FM.prAt st.ps k).pc 8 2 h.mem hl
 have hsz:=ho.size st.mem _ k (FM.prAt st.ps k).pc 8 2 h.mem hl (by omega) (by omega)
 unfold doG
 simp only
 obtain ⟨x,hx⟩ : ∃ x,x = o.load st.mem k (FM.prAt st.ps k).pc 8 2:=⟨_,rfl⟩
 rw [<- hx] at hm hft hsz ⊢
 clear hx
 have g1 : GOk Ok { st with mem:=x.2 }:=mem_only h hm
 by_cases c : x.1.2.1 = 0
 · rw [if_neg (fun g=>g c)]
   have hfits : (PM.ins x.1.1).fits:=PM.ins_fits _ (by have:=hsz c;omega)
   obtain ⟨i,hi⟩ : ∃ i,i = PM.ins x.1.1:=⟨_,rfl⟩
   rw [<- hi] at hfits ⊢
   have hL:=answer_left ho g1 k hk h1 i hfits
   obtain ⟨y,hy⟩ : ∃ y,y = answerG o { st with mem:=x.2 } k i:=⟨_,rfl⟩
   rw [<- hy] at hL ⊢
   clear hi hy
   by_cases d : y.1.2.1 = 0
   · rw [if_neg (fun g=>g d)]
     obtain ⟨hp,hv,hb⟩:=hL.plain d
     have hw : ∀ z ∈ y.2.out,0 <= z.proc /\ z.proc < (st.ps.length : Int):=hL.words
     have ho2 : y.2.out.length <= 2000:=by have:=hL.out;simp only at this;omega
     refine ⟨?_,fun g=>(g rfl).elim,fun g=>(g rfl).elim⟩
     rcases hp with ⟨e,hm2⟩ | ⟨hne,e,hm2⟩
     · have e' : y.2.ps = st.ps:=e
       have hlen : st.ps.length = (y.2.ps.set k (PM.doneN (FM.prAt y.2.ps k) i y.1.1)).length:=by rw [List.length_set,e']
       rw [child_len _ _ _ hlen,e']
       have base : GOk Ok { st with out:=y.2.out }:=⟨h.mem,h.fit,h.right,hw,ho2⟩
       exact done_ok base k hk h1 hv hb hfits (m:=y.2.mem) hm2
     · have e' : y.2.ps = st.ps ++ [FM.prAt st.ps k]:=e
       have hlen : st.ps.length = (st.ps.set k (PM.doneN (FM.prAt st.ps k) i y.1.1)).length:=by rw [List.length_set]
       have hpk : FM.prAt (st.ps ++ [FM.prAt st.ps k]) k = FM.prAt st.ps k:=by rw [prAt_snoc,if_pos hk]
       rw [e',hpk,set_snoc _ _ _ _ hk,child_one _ _ _ _ hlen]
       have hcs : (PM.doneN (FM.prAt st.ps k) i 0).st = 1:=by rw [done_st hb hne];exact h1
       have base : GOk Ok { st with out:=y.2.out }:=⟨h.mem,h.fit,h.right,hw,ho2⟩
       have hz : M.I64 0:=by unfold M.I64;omega
       have d1:=done_ok base k hk h1 hv hb hfits (m:=st.mem) (by rw [if_neg hne];exact h.mem)
       have hr : running (st.ps.set k (PM.doneN (FM.prAt st.ps k) i y.1.1)) = running st.ps:=by
        rw [running_set,done_st hb hne,decide_eq_true h1]
        apply List.ext_getElem?
        intro j
        rw [List.getElem?_set]
        by_cases e : k = j
        · subst e
          have hk' : k < (running st.ps).length:=by unfold running;rw [List.length_map];exact hk
          have hg:=live_at k hk h1
          rw [List.getD_eq_getElem?_getD,List.getElem?_eq_getElem hk'] at hg
          rw [if_pos rfl,if_pos hk',List.getElem?_eq_getElem hk']
          exact congrArg some hg.symm
        · rw [if_neg e]
       exact snoc_ok d1 (done_fit (h.fit k hk) hz hb hfits) (done_right hb h1 (h.right k hk)) (m:=y.2.mem) (by
        show Ok y.2.mem (running (st.ps.set k (PM.doneN (FM.prAt st.ps k) i y.1.1)) ++ _)
        rw [hr,hcs]
        exact hm2)
   · rw [if_pos d]
     obtain ⟨e,g2⟩:=hL.fault d
     exact ⟨g2,fun _=>e,fun _=>hL.kind d⟩
 · rw [if_pos c]
   exact ⟨g1,fun _=>rfl,fun _=>⟨by show 1 <= x.1.2.1;omega,hft.2.1⟩⟩
theorem kill_right {p : PM.Pr} {x : Int × Int} (h : p.st = 1) (hr : FM.rightProc p = true) (h1 : 1 <= x.1) (h4 : x.1 <= 4) : FM.rightProc (FW.killN p x) = true:=by
 have h2 : p.cd = 0:=by
  unfold FM.rightProc at hr
  rw [if_pos h] at hr
  simp only [Bool.and_eq_true,decide_eq_true_eq] at hr
  exact hr.1
 unfold FM.rightProc FW.killN
 simp only
 rw [if_neg (by decide),if_neg (by decide),if_pos trivial,h2,decide_eq_true (show 1 <= x.1 /\ x.1 <= 4 from ⟨h1,h4⟩)]
 rfl
theorem step_ok {o : Ops σ} (ho : OpsOk o Ok) {st : St σ} (h : GOk Ok st) (pick : Int) : GOk Ok (stepG o st pick).2:=by
 unfold stepG
 by_cases c : 0 <= pick /\ pick < (st.ps.length : Int)
 · rw [if_neg (fun g=>g c)]
   by_cases c1 : (FM.prAt st.ps pick.toNat).st = 1
   · rw [if_neg (fun g=>g c1)]
     by_cases c2 : 2000 <= st.out.length
     · rw [if_pos c2];exact h
     · rw [if_neg c2]
       have hk : pick.toNat < st.ps.length:=by omega
       have hd:=do_left ho h (by omega) pick.toNat hk c1
       simp only
       obtain ⟨r,hr⟩ : ∃ r,r = doG o st pick.toNat:=⟨_,rfl⟩
       rw [<- hr] at hd ⊢
       clear hr
       by_cases c3 : r.1.1 = 0
       · rw [if_pos c3];exact hd.ok
       · rw [if_neg c3]
         have e:=hd.same c3
         have hk2 : pick.toNat < r.2.ps.length:=by rw [e];exact hk
         have c4 : (FM.prAt r.2.ps pick.toNat).st = 1:=by rw [e];exact c1
         have hlen : (r.2.ps.set pick.toNat (FW.killN (FM.prAt r.2.ps pick.toNat) r.1)).length = r.2.ps.length:=List.length_set
         refine ⟨?_,fun j hj=>?_,fun j hj=>?_,fun x hx=>?_,hd.ok.out⟩
         · show Ok _ (running (r.2.ps.set _ _))
           rw [running_set]
           exact ho.drop _ _ _ hd.ok.mem (live_at _ hk2 c4)
         · have hj' : j < r.2.ps.length:=hlen ▸ hj
           show FitP (FM.prAt (r.2.ps.set _ _) j)
           rw [prAt_set _ _ _ _ hk2]
           split
           · exact hd.ok.fit _ hk2
           · exact hd.ok.fit j hj'
         · have hj' : j < r.2.ps.length:=hlen ▸ hj
           show FM.rightProc (FM.prAt (r.2.ps.set _ _) j) = true
           rw [prAt_set _ _ _ _ hk2]
           split
           · exact kill_right c4 (hd.ok.right _ hk2) (hd.kind c3).1 (hd.kind c3).2
           · exact hd.ok.right j hj'
         · have:=hd.ok.words x hx
           show 0 <= x.proc /\ x.proc < ((r.2.ps.set _ _).length : Int)
           rw [hlen];exact this
   · rw [if_pos c1];exact h
 · rw [if_pos c];exact h
theorem runTo_ok {o : Ops σ} (ho : OpsOk o Ok) {st : St σ} (h : GOk Ok st) (picks : List Int) : ∀ n s,runTo o picks n (some st) = some s -> GOk Ok s
 | 0,s,e=>by injection e with e;rw [<- e];exact h
 | n + 1,s,e=>by
  unfold runTo at e
  cases hq : runTo o picks n (some st) with
  | none=>rw [hq] at e;cases e
  | some q =>
   rw [hq] at e
   have hq':=runTo_ok ho h picks n q hq
   simp only at e
   by_cases c : (stepG o q (picks.getD n 0)).1 = 2
   · rw [if_pos c] at e;cases e
   · rw [if_neg c] at e
     injection e with e
     rw [<- e]
     exact step_ok ho hq' _
end GG
namespace FW
open Go.RowKit
def cmpN (a b : Int) : Int:=if a < b then -1 else if b < a then 1 else 0
theorem nan_any (a : Int) (w : World) : Calls Tryz.prog 113 #[.int .i64 a] w fun e w'=>e = .returned (.bool false) /\ w = w':=by
 go_enter Tryz.func113,Tryz.ntmps113
 go_wp2
 go_ret
 exact ⟨by simp,rfl⟩
set_option maxHeartbeats 1000000 in
theorem compare_any (a b : Int) (w : World) : Calls Tryz.prog 91 #[.int .i64 a,.int .i64 b] w fun e w'=>e = .returned (.int .i64 (cmpN a b)) /\ w = w':=by
 have HN:=hideC (fun x V=>nan_any x V)
 obtain ⟨A,hA⟩ : ∃ A,A = cmpN a b:=⟨_,rfl⟩
 rw [<- hA]
 unfold cmpN at hA
 have HA:=hideC hA
 clear hA
 by_cases h1 : a < b
 · have HA2 : Hid (A = -1):=by show _ = _;rw [HA.out,if_pos h1]
   clear HA
   go_enter Tryz.func91,Tryz.ntmps91
   go_wp2_with (go_at_call 113;refine (HN.out _ _).mono ?_;rintro e w1 ⟨rfl,rfl⟩)
   go_ret
   exact ⟨by rw [HA2.out];rfl,rfl⟩
 · by_cases h2 : b < a
   · have HA2 : Hid (A = 1):=by show _ = _;rw [HA.out,if_neg h1,if_pos h2]
     clear HA
     go_enter Tryz.func91,Tryz.ntmps91
     go_wp2_with (go_at_call 113;refine (HN.out _ _).mono ?_;rintro e w1 ⟨rfl,rfl⟩)
     go_ret
     exact ⟨by rw [HA2.out];rfl,rfl⟩
   · have HA2 : Hid (A = 0):=by show _ = _;rw [HA.out,if_neg h1,if_neg h2]
     clear HA
     go_enter Tryz.func91,Tryz.ntmps91
     go_wp2_with (go_at_call 113;refine (HN.out _ _).mono ?_;rintro e w1 ⟨rfl,rfl⟩)
     go_ret
     exact ⟨by rw [HA2.out];rfl,rfl⟩
set_option maxHeartbeats 1000000 in
theorem place1_any (p : Int) (d : ByteArray) (q : Int) (w : World) : Calls Tryz.prog 90 #[.agg #[.int .i64 p,.string d],.int .i64 q] w fun e w'=>e = .returned (.int .i64 (cmpN p q)) /\ Below w.heap.size w w':=by
 have HC:=hideC (compare_any p q)
 go_enter Tryz.func90,Tryz.ntmps90
 go_wp2_with (go_at_call 91;refine (HC.out _).mono ?_;rintro e w1 ⟨rfl,rfl⟩)
 go_ret
 exact ⟨rfl,(Below.refl _ _).alloc (Nat.le_refl _) _⟩
end FW
end Go.Proofs.YtkdigjpejnebkaaGreat
