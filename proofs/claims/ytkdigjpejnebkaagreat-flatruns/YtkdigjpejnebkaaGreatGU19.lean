import Derived.Test.YtkdigjpejnebkaaGreatGU00
import Derived.Test.YtkdigjpejnebkaaGreatGU10
import Derived.Test.YtkdigjpejnebkaaGreatGU02
import Derived.Test.YtkdigjpejnebkaaGreatGU11
import Derived.Lib.Hide
import Derived.WalkSpells
import Derived.Deep.RegionHeld3
set_option maxHeartbeats 20000000
set_option linter.unusedVariables false
set_option maxRecDepth 100000
set_option linter.unusedSimpArgs false
namespace Go.Proofs.YtkdigjpejnebkaaGreat
namespace GW
open Go.RowKit GK GG
open FW (ai aB)
variable {σ:Type} {Hd:World->(Nat->Prop)->σ->Prop} {Ok:σ->List Bool->Prop} {o:vM σ} {lo mb gb:Nat} {D:Nat->Prop} {vr vo:Value} {st:St σ}
theorem xM (C:gP lo mb Hd Ok o) (k:Nat) (w:World) (h:km Hd lo mb gb w D vr vo st) (hok:lZ Ok st) (hk:k<st.ps.length) (h1:(FM.au st.ps k).st=1) :
  Calls Tryz.prog 147 #[.pointer (some (Ad gb 0)),I (k:Int)] w fun e w'=>e=.returned (I (cu o st k 5).1)/\Left Hd lo mb gb w D vr vo (cu o st k 5).2 w':=by
 have HG:=ai h
 have HC:=ai C
 have rY:=ai (C.fork w D st.mem _ k h.mem hok.mem (ek k hk h1))
 have g0:w.cell? (Ad gb 0)=some (.iface 144 (.pointer (some (Ad mb 0)))):=B.cell h.head 0 rfl
 have hmF:=FC (Ad mb 0)
 have haF:=KM (Ad mb 0)
 have hkl:k<9223372036854775807:=by have:=C.ok.few _ _ hok.mem;unfold running at this;rw[List.length_map] at this;omega
 obtain⟨fv,hfv⟩:=ex ((o.fork st.mem k).1)
 have Sq:Hid (cu o st k 5=if fv=0 then ((st.ps.length:Int),{ st with mem:=(o.fork st.mem k).2,ps:=st.ps++[FM.au st.ps k] }) else (-1,{ st with mem:=(o.fork st.mem k).2 })):=by rw[hfv];exact rfl
 rw[<- hfv] at rY
 obtain⟨fm,hfm⟩:=ex ((o.fork st.mem k).2)
 rw[<- hfm] at rY Sq
 obtain⟨R,hR⟩:=ex (cu o st k 5)
 rw[<- hR] at Sq ⊢
 clear h C hfv hfm hR
 by_cases Wc:fv=0
 · subst Wc
   have HR:Hid (R=((st.ps.length:Int),{ st with mem:=fm,ps:=st.ps++[FM.au st.ps k] })):=by rw[Sq.o,if_pos rfl];exact rfl
   clear Sq
   go_enter Tryz.func147,Tryz.ntmps147
   go_wp2_with (go_at_call 191;refine rY.o.mono ?_;rintro e w1 ⟨D1,rfl,z6,hk1,hd1⟩;have vk:=ai (HG.o.turn HC.o z6 hk1 hd1);have qp:=ai hk1;have WD:=ai hd1;clear z6 hk1 hd1;have e1:=B.cell (v:=vr) vk.o.head 1 rfl)
   obtain⟨pb,cap,nu,hpb,hpc,uN⟩:=vk.o.proc k hk
   have HVR:=ai nu
   have dI:=ai hpc
   have HST:=ai HR.o
   obtain⟨q,hq⟩:=ex (FM.au st.ps k)
   simp only at dI
   rw[<- hq] at dI HST
   have vH:st.ps.length<=4:=by have:=HC.o.ok.few _ _ hok.mem;unfold running at this;rw[List.length_map] at this;exact this
   obtain⟨n,hn⟩:=ex st.ps.length
   simp only at HVR nu
   rw[<- hn] at HVR nu vH hk
   have HN:=ai hn
   subst nu
   have jd:(k:Int)<(n:Int):=by omega
   clear hq hn hpc uN HR hok h1
   have c0:w1.cell? (Ad pb (k*13))=some (I (q.r 0)):=dI.o 0 (by omega)
   have c1:w1.cell? (Ad pb (k*13+1))=some (I (q.r 1)):=dI.o 1 (by omega)
   have c2:w1.cell? (Ad pb (k*13+2))=some (I (q.r 2)):=dI.o 2 (by omega)
   have c3:w1.cell? (Ad pb (k*13+3))=some (I (q.r 3)):=dI.o 3 (by omega)
   have c4:w1.cell? (Ad pb (k*13+4))=some (I (q.r 4)):=dI.o 4 (by omega)
   have c5:w1.cell? (Ad pb (k*13+5))=some (I (q.r 5)):=dI.o 5 (by omega)
   have c6:w1.cell? (Ad pb (k*13+6))=some (I (q.r 6)):=dI.o 6 (by omega)
   have c7:w1.cell? (Ad pb (k*13+7))=some (I (q.r 7)):=dI.o 7 (by omega)
   have c8:w1.cell? (Ad pb (k*13+8))=some (I q.pc):=dI.o 8 (by omega)
   have c9:w1.cell? (Ad pb (k*13+9))=some (I q.st):=dI.o 9 (by omega)
   have c10:w1.cell? (Ad pb (k*13+10))=some (I q.cd):=dI.o 10 (by omega)
   have c11:w1.cell? (Ad pb (k*13+11))=some (I q.fk):=dI.o 11 (by omega)
   have c12:w1.cell? (Ad pb (k*13+12))=some (I q.fa):=dI.o 12 (by omega)
   have e1a:∀ob,(w1.alloc ob).cell? (Ad gb 1)=some (.slice (some (Ad pb 0)) n cap):=fun ob=>B.cell (B.alloc vk.o.head ob) 1 rfl
   obtain⟨i0,hin,hz0,hz1,hz2⟩:=info_parts Bg
   have nB:=ai hin
   have vP:=ai hz0
   have rT:=ai hz1
   have mQ:=ai hz2
   have HOW:Hid ((w1.alloc (.cells #[I (q.r 0),I (q.r 1),I (q.r 2),I (q.r 3),I (q.r 4),I (q.r 5),I (q.r 6),I (q.r 7),I q.pc,I q.st,I q.cd,I q.fk,I q.fa] 70)).ownsRow lo 70 13 (.slice (some (Ad pb 0)) n cap) n (st.ps.flatMap aI)):=by
    have:=vk.o.procs.alloc (.cells #[I (q.r 0),I (q.r 1),I (q.r 2),I (q.r 3),I (q.r 4),I (q.r 5),I (q.r 6),I (q.r 7),I q.pc,I q.st,I q.cd,I q.fk,I q.fa] 70)
    simp only at this
    rw[<- HN.o] at this
    exact this
   have Lp:Hid (lo<=(w1.alloc (.cells #[I (q.r 0),I (q.r 1),I (q.r 2),I (q.r 3),I (q.r 4),I (q.r 5),I (q.r 6),I (q.r 7),I q.pc,I q.st,I q.cd,I q.fk,I q.fa] 70)).heap.size):=by show _<=_;rw[World.size_alloc];have:=vk.o.base;have:=B.isLt vk.o.head;omega
   have Pj:Hid (0<1->∃ad,some ((Ad w1.heap.size 0):Addr)=some ad/\∀j u,(aI q)[j]?=some u->((w1.alloc (.cells #[I (q.r 0),I (q.r 1),I (q.r 2),I (q.r 3),I (q.r 4),I (q.r 5),I (q.r 6),I (q.r 7),I q.pc,I q.st,I q.cd,I q.fk,I q.fa] 70)).drew).cell? (ad.add j)=some u):=fun _=>⟨_,rfl,B.news (w:=(w1.alloc (.cells #[I (q.r 0),I (q.r 1),I (q.r 2),I (q.r 3),I (q.r 4),I (q.r 5),I (q.r 6),I (q.r 7),I q.pc,I q.st,I q.cd,I q.fk,I q.fa] 70)).drew) (B.new w1 #[I (q.r 0),I (q.r 1),I (q.r 2),I (q.r 3),I (q.r 4),I (q.r 5),I (q.r 6),I (q.r 7),I q.pc,I q.st,I q.cd,I q.fk,I q.fa] 70)⟩
   clear hin hz0 hz1 hz2 dI
   go_region_law (refine iy (P:=Tryz.prog) rfl _ _ 27 rfl lo 70 i0 (.agg #[I 0,I 0,I 0,I 0,I 0,I 0,I 0,I 0,I 0,I 0,I 0,I 0,I 0]) 13 104 Tryz.underlying27 nB.o vP.o rT.o mQ.o rfl (by decide) (.slice (some (Ad pb 0)) n cap) n (st.ps.flatMap aI) rfl HOW.o.drew (some (Ad w1.heap.size 0)) 1 1 (aI q) rfl rfl Pj.o (by intro u hu;simp[aI] at hu;rcases hu with rfl | rfl | rfl | rfl | rfl | rfl | rfl | rfl | rfl | rfl | rfl | rfl | rfl <;> rfl) (by unfold maxLen;omega) (by omega) Lp.o ?_;intro v3 w4 hown hgr hat;obtain⟨a4,c4,rfl,_⟩:=aL hown;have Ch:=ai hown;have zx:Hid ((w1.alloc _).grownBy w4 _):=⟨hgr.os,hgr.tape,hgr.output,hgr.size,hgr.block⟩;have Hp:=ai hat;have Gj:=B.grown (B.alloc vk.o.head (.cells #[I (q.r 0),I (q.r 1),I (q.r 2),I (q.r 3),I (q.r 4),I (q.r 5),I (q.r 6),I (q.r 7),I q.pc,I q.st,I q.cd,I q.fk,I q.fa] 70)) zx.o (fun e=>vk.o.n2 e.symm);have y1:w4.cell? (Ad gb 1)=some (.slice (some (Ad pb 0)) n cap):=B.cell Gj 1 rfl;have y2:w4.frozen? (Ad gb 1)=false:=B.free Gj 1;clear hown hgr hat Gj)
   all_goals
    go_wp2
    go_ret
    have hp:=vk.o.WV HC.o (p:=q) zx.o (by show w4.ownsRow lo _ 13 _ (st.ps.length+1) (st.ps.flatMap aI++aI q);rw[<- HN.o];exact Ch.o) Hp.o
    rw[HST.o]
    refine⟨by rw[<- HN.o];go_num,?_⟩
    obtain⟨hA,hB⟩:Kp (jY gb D (.slice (some (Ad pb 0)) n cap) vo) w w1/\∀b,jY gb D1 (.slice (some (Ad pb 0)) n cap) vo b->jY gb D (.slice (some (Ad pb 0)) n cap) vo b∨w.heap.size<=b:=⟨qp.o.mono (fun b _ g=>.inr (.inl g)),fun b hb=>by
     rcases hb with g | g | g | g
     · exact .inl (.inl g)
     · rcases WD.o b g with x | x
       · exact .inl (.inr (.inl x))
       · exact .inr x
     · exact .inl (.inr (.inr (.inl g)))
     · exact .inl (.inr (.inr (.inr g)))⟩
    exact Left.trans hA hB hp
 · have HR:Hid (R=(-1,{ st with mem:=fm })):=by rw[Sq.o,if_neg Wc];exact rfl
   have hfi:(fv==0)=false:=by rw[beq_eq_false_iff_ne];exact Wc
   clear Sq Wc
   go_enter Tryz.func147,Tryz.ntmps147
   go_wp2_with (go_at_call 191;refine rY.o.mono ?_;rintro e w1 ⟨D1,rfl,z6,hk1,hd1⟩;have R5:=ai (Left.pd HC.o HG.o z6 hk1 hd1);clear z6 hk1 hd1)
   go_ret
   rw[HR.o]
   exact⟨rfl,R5.o⟩
def iH (N q:PM.Pr) (j:Nat):PM.Pr:=⟨fun i=>if i<j then N.r i else q.r i,if 8<j then N.pc else q.pc,if 9<j then N.st else q.st,if 10<j then N.cd else q.cd,if 11<j then N.fk else q.fk,if 12<j then N.fa else q.fa⟩
theorem abD (N q:PM.Pr):aI (iH N q 0)=aI q:=rfl
theorem Xf (N q:PM.Pr):aI (iH N q 13)=aI N:=rfl
theorem Xe (N q:PM.Pr):aI (iH N q 1)=(aI (iH N q 0)).set 0 (I (N.r 0)):=rfl
theorem Xd (N q:PM.Pr):aI (iH N q 2)=(aI (iH N q 1)).set 1 (I (N.r 1)):=rfl
theorem Xc (N q:PM.Pr):aI (iH N q 3)=(aI (iH N q 2)).set 2 (I (N.r 2)):=rfl
theorem Xb (N q:PM.Pr):aI (iH N q 4)=(aI (iH N q 3)).set 3 (I (N.r 3)):=rfl
theorem Xa (N q:PM.Pr):aI (iH N q 5)=(aI (iH N q 4)).set 4 (I (N.r 4)):=rfl
theorem W9 (N q:PM.Pr):aI (iH N q 6)=(aI (iH N q 5)).set 5 (I (N.r 5)):=rfl
theorem W7 (N q:PM.Pr):aI (iH N q 7)=(aI (iH N q 6)).set 6 (I (N.r 6)):=rfl
theorem W5 (N q:PM.Pr):aI (iH N q 8)=(aI (iH N q 7)).set 7 (I (N.r 7)):=rfl
theorem WZ (N q:PM.Pr):aI (iH N q 9)=(aI (iH N q 8)).set 8 (I N.pc):=rfl
theorem WY (N q:PM.Pr):aI (iH N q 10)=(aI (iH N q 9)).set 9 (I N.st):=rfl
theorem Ub (N q:PM.Pr):aI (iH N q 11)=(aI (iH N q 10)).set 10 (I N.cd):=rfl
theorem Ua (N q:PM.Pr):aI (iH N q 12)=(aI (iH N q 11)).set 11 (I N.fk):=rfl
theorem T9 (N q:PM.Pr):aI (iH N q 13)=(aI (iH N q 12)).set 12 (I N.fa):=rfl
theorem qc {α:Type} (f:α->List Value) (d:α):∀(l:List α) (k:Nat) (x:α),k<l.length->f x=f (l.getD k d)->(l.set k x).flatMap f=l.flatMap f
 | [],k,x,h,_=>by simp at h
 | a::r,0,x,h,e=>by
  have e':f x=f a:=e
  rw[List.set_cons_zero,List.flatMap_cons,List.flatMap_cons,e']
 | a::r,k+1,x,h,e=>by
  rw[List.set_cons_succ,List.flatMap_cons,List.flatMap_cons,qc f d r k x (by simpa using h) e]
theorem dM (ps:List PM.Pr) (k:Nat) (hk:k<ps.length) (a b:PM.Pr) (j:Nat) (hj:j<13) (v:Value) (e:aI b=(aI a).set j v):(ps.set k b).flatMap aI=((ps.set k a).flatMap aI).set (k*13+j) v:=by
 have:=gX aI 13 bg FM.vV b j v hj (ps.set k a) k (by rw[List.length_set];exact hk) (by
  rw[e,List.getD_eq_getElem?_getD,List.getElem?_set_self hk];rfl)
 rw[List.set_set] at this
 exact this
theorem zF {w:World} {lo pb n cap:Nat} {ps:List PM.Pr} (hr:w.ownsRow lo 70 13 (.slice (some (Ad pb 0)) n cap) n (ps.flatMap aI)) (k:Nat) (hk:k<ps.length) (N:PM.Pr) :
  (((((((((((((w.setCell (Ad pb (k*13)) (I (N.r 0))).setCell (Ad pb (k*13+1)) (I (N.r 1))).setCell (Ad pb (k*13+2)) (I (N.r 2))).setCell (Ad pb (k*13+3)) (I (N.r 3))).setCell (Ad pb (k*13+4)) (I (N.r 4))).setCell (Ad pb (k*13+5)) (I (N.r 5))).setCell (Ad pb (k*13+6)) (I (N.r 6))).setCell (Ad pb (k*13+7)) (I (N.r 7))).setCell (Ad pb (k*13+8)) (I N.pc)).setCell (Ad pb (k*13+9)) (I N.st)).setCell (Ad pb (k*13+10)) (I N.cd)).setCell (Ad pb (k*13+11)) (I N.fk)).setCell (Ad pb (k*13+12)) (I N.fa)).ownsRow lo 70 13 (.slice (some (Ad pb 0)) n cap) n ((ps.set k N).flatMap aI):=by
 have h0:(ps.set k (iH N (FM.au ps k) 0)).flatMap aI=ps.flatMap aI:=qc aI FM.vV ps k _ hk (abD N (FM.au ps k))
 have h13:(ps.set k N).flatMap aI=(ps.set k (iH N (FM.au ps k) 13)).flatMap aI:=by
  have:=qc aI FM.vV (ps.set k (iH N (FM.au ps k) 13)) k N (by rw[List.length_set];exact hk) (by rw[List.getD_eq_getElem?_getD,List.getElem?_set_self hk];exact(Xf N (FM.au ps k)).symm)
  rw[List.set_set] at this
  exact this
 rw[<- h0] at hr
 rw[h13]
 have r0:=bY hr (k*13+0) (I (N.r 0))
 rw[<- dM ps k hk _ _ 0 (by omega) _ (Xe N (FM.au ps k))] at r0
 have r1:=bY r0 (k*13+1) (I (N.r 1))
 rw[<- dM ps k hk _ _ 1 (by omega) _ (Xd N (FM.au ps k))] at r1
 have r2:=bY r1 (k*13+2) (I (N.r 2))
 rw[<- dM ps k hk _ _ 2 (by omega) _ (Xc N (FM.au ps k))] at r2
 have r3:=bY r2 (k*13+3) (I (N.r 3))
 rw[<- dM ps k hk _ _ 3 (by omega) _ (Xb N (FM.au ps k))] at r3
 have r4:=bY r3 (k*13+4) (I (N.r 4))
 rw[<- dM ps k hk _ _ 4 (by omega) _ (Xa N (FM.au ps k))] at r4
 have r5:=bY r4 (k*13+5) (I (N.r 5))
 rw[<- dM ps k hk _ _ 5 (by omega) _ (W9 N (FM.au ps k))] at r5
 have r6:=bY r5 (k*13+6) (I (N.r 6))
 rw[<- dM ps k hk _ _ 6 (by omega) _ (W7 N (FM.au ps k))] at r6
 have r7:=bY r6 (k*13+7) (I (N.r 7))
 rw[<- dM ps k hk _ _ 7 (by omega) _ (W5 N (FM.au ps k))] at r7
 have r8:=bY r7 (k*13+8) (I N.pc)
 rw[<- dM ps k hk _ _ 8 (by omega) _ (WZ N (FM.au ps k))] at r8
 have r9:=bY r8 (k*13+9) (I N.st)
 rw[<- dM ps k hk _ _ 9 (by omega) _ (WY N (FM.au ps k))] at r9
 have Ey:=bY r9 (k*13+10) (I N.cd)
 rw[<- dM ps k hk _ _ 10 (by omega) _ (Ub N (FM.au ps k))] at Ey
 have Ex:=bY Ey (k*13+11) (I N.fk)
 rw[<- dM ps k hk _ _ 11 (by omega) _ (Ua N (FM.au ps k))] at Ex
 have Ew:=bY Ex (k*13+12) (I N.fa)
 rw[<- dM ps k hk _ _ 12 (by omega) _ (T9 N (FM.au ps k))] at Ew
 exact Ew
theorem Di {D:Nat->Prop} (w:World) (pb k:Nat) (N:PM.Pr) (h:D pb):Kp D w (((((((((((((w.setCell (Ad pb (k*13)) (I (N.r 0))).setCell (Ad pb (k*13+1)) (I (N.r 1))).setCell (Ad pb (k*13+2)) (I (N.r 2))).setCell (Ad pb (k*13+3)) (I (N.r 3))).setCell (Ad pb (k*13+4)) (I (N.r 4))).setCell (Ad pb (k*13+5)) (I (N.r 5))).setCell (Ad pb (k*13+6)) (I (N.r 6))).setCell (Ad pb (k*13+7)) (I (N.r 7))).setCell (Ad pb (k*13+8)) (I N.pc)).setCell (Ad pb (k*13+9)) (I N.st)).setCell (Ad pb (k*13+10)) (I N.cd)).setCell (Ad pb (k*13+11)) (I N.fk)).setCell (Ad pb (k*13+12)) (I N.fa)) :=
 (((((((((((((Kp.refl D w).trans (Kp.set D _ (Ad pb (k*13)) _ h) (fun _ _ g=>g)).trans (Kp.set D _ (Ad pb (k*13+1)) _ h) (fun _ _ g=>g)).trans (Kp.set D _ (Ad pb (k*13+2)) _ h) (fun _ _ g=>g)).trans (Kp.set D _ (Ad pb (k*13+3)) _ h) (fun _ _ g=>g)).trans (Kp.set D _ (Ad pb (k*13+4)) _ h) (fun _ _ g=>g)).trans (Kp.set D _ (Ad pb (k*13+5)) _ h) (fun _ _ g=>g)).trans (Kp.set D _ (Ad pb (k*13+6)) _ h) (fun _ _ g=>g)).trans (Kp.set D _ (Ad pb (k*13+7)) _ h) (fun _ _ g=>g)).trans (Kp.set D _ (Ad pb (k*13+8)) _ h) (fun _ _ g=>g)).trans (Kp.set D _ (Ad pb (k*13+9)) _ h) (fun _ _ g=>g)).trans (Kp.set D _ (Ad pb (k*13+10)) _ h) (fun _ _ g=>g)).trans (Kp.set D _ (Ad pb (k*13+11)) _ h) (fun _ _ g=>g)).trans (Kp.set D _ (Ad pb (k*13+12)) _ h) (fun _ _ g=>g)
section
variable {σ:Type} {Hd:World->(Nat->Prop)->σ->Prop} {Ok:σ->List Bool->Prop} {o:vM σ} {lo mb gb:Nat} {w w':World} {D:Nat->Prop} {vo:Value} {st:St σ}
theorem km.E5 (C:gP lo mb Hd Ok o) {pb n cap:Nat} (h:km Hd lo mb gb w D (.slice (some (Ad pb 0)) n cap) vo st) (k:Nat) (hk:k<st.ps.length) (hn:n=st.ps.length) (N:PM.Pr) :
  Left Hd lo mb gb w D (.slice (some (Ad pb 0)) n cap) vo { st with ps:=st.ps.set k N } (((((((((((((w.setCell (Ad pb (k*13)) (I (N.r 0))).setCell (Ad pb (k*13+1)) (I (N.r 1))).setCell (Ad pb (k*13+2)) (I (N.r 2))).setCell (Ad pb (k*13+3)) (I (N.r 3))).setCell (Ad pb (k*13+4)) (I (N.r 4))).setCell (Ad pb (k*13+5)) (I (N.r 5))).setCell (Ad pb (k*13+6)) (I (N.r 6))).setCell (Ad pb (k*13+7)) (I (N.r 7))).setCell (Ad pb (k*13+8)) (I N.pc)).setCell (Ad pb (k*13+9)) (I N.st)).setCell (Ad pb (k*13+10)) (I N.cd)).setCell (Ad pb (k*13+11)) (I N.fk)).setCell (Ad pb (k*13+12)) (I N.fa)):=by
 have hb:blk (.slice (some (Ad pb 0)) n cap) pb:=rfl
 have kS:Kp (fun b=>b=pb) w _:=Di w pb k N rfl
 refine⟨D,.slice (some (Ad pb 0)) n cap,vo,⟨kS.keep h.head (fun e=>h.n2 (e ▸ hb)),C.kp _ _ _ _ _ h.mem kS (fun b hd e=>h.n4 pb hb (e ▸ hd)),?_,kS.row h.outs (fun g hg e=>h.n6 pb hb (e ▸ hg)),h.base,h.n1,h.n2,h.n3,h.n4,h.n5,h.n6⟩,kS.mono (fun b _ e=>.inr (.inr (.inl (e ▸ hb)))),fun b hb=>.inl hb⟩
 have hp:=h.procs
 rw[<- hn] at hp
 show World.ownsRow _ lo _ 13 _ (st.ps.set k N).length _
 rw[List.length_set,<- hn]
 exact zF hp k hk N
end
variable {σ:Type} {Hd:World->(Nat->Prop)->σ->Prop} {Ok:σ->List Bool->Prop} {o:vM σ} {lo mb gb:Nat} {D:Nat->Prop} {vr vo:Value} {st:St σ}
theorem call2 (C:gP lo mb Hd Ok o) (k:Nat) (w:World) (h:km Hd lo mb gb w D vr vo st) (hok:lZ Ok st) (hk:k<st.ps.length) (h1:(FM.au st.ps k).st=1) :
  Calls Tryz.prog 128 #[.pointer (some (Ad gb 0)),I (k:Int),I 2] w fun e w'=>e=.returned (I (cu o st k 2).1)/\Left Hd lo mb gb w D vr vo (cu o st k 2).2 w':=by
 have HG:=ai h
 have HC:=ai C
 obtain⟨pb,cap,nu,hpb,hpc,uN⟩:=h.proc k hk
 have dI:=ai hpc
 have hlv:=ek k hk h1
 have hfit:=hok.fit k hk
 have tH:=ai hok
 have qA:=ai hlv
 have oC:=ai hfit
 have vH:st.ps.length<=4:=by have:=C.ok.few _ _ hok.mem;unfold running at this;rw[List.length_map] at this;exact this
 have qp:=ai hk
 have KX:=ai h1
 have HR:Hid (cu o st k 2=((o.map st.mem k ((FM.au st.ps k).r 0) ((FM.au st.ps k).r 1) ((FM.au st.ps k).r 2)).1,{ st with mem:=(o.map st.mem k ((FM.au st.ps k).r 0) ((FM.au st.ps k).r 1) ((FM.au st.ps k).r 2)).2 })):=rfl
 obtain⟨q,hq⟩:=ex (FM.au st.ps k)
 rw[<- hq] at dI oC
 have HQ:=ai hq
 obtain⟨n,hn⟩:=ex st.ps.length
 rw[<- hn] at nu hk vH
 subst nu
 have HN:=ai hn
 have jd:(k:Int)<(n:Int):=by omega
 have g0:w.cell? (Ad gb 0)=some (.iface 144 (.pointer (some (Ad mb 0)))):=B.cell HG.o.head 0 rfl
 have g1:w.cell? (Ad gb 1)=some (.slice (some (Ad pb 0)) n cap):=B.cell HG.o.head 1 rfl
 have hgb:=B.isLt HG.o.head
 have c0:w.cell? (Ad pb (k*13))=some (I (q.r 0)):=dI.o 0 (by omega)
 have c1:w.cell? (Ad pb (k*13+1))=some (I (q.r 1)):=dI.o 1 (by omega)
 have c2:w.cell? (Ad pb (k*13+2))=some (I (q.r 2)):=dI.o 2 (by omega)
 have c3:w.cell? (Ad pb (k*13+3))=some (I (q.r 3)):=dI.o 3 (by omega)
 have c4:w.cell? (Ad pb (k*13+4))=some (I (q.r 4)):=dI.o 4 (by omega)
 have c5:w.cell? (Ad pb (k*13+5))=some (I (q.r 5)):=dI.o 5 (by omega)
 have c6:w.cell? (Ad pb (k*13+6))=some (I (q.r 6)):=dI.o 6 (by omega)
 have c7:w.cell? (Ad pb (k*13+7))=some (I (q.r 7)):=dI.o 7 (by omega)
 have cY:=ai ((Below.refl w.heap.size w).alloc (Nat.le_refl _) (.cells #[I (q.r 0),I (q.r 1),I (q.r 2),I (q.r 3),I (q.r 4),I (q.r 5),I (q.r 6),I (q.r 7)] 66))
 have BX:=ai (B.new w #[I (q.r 0),I (q.r 1),I (q.r 2),I (q.r 3),I (q.r 4),I (q.r 5),I (q.r 6),I (q.r 7)] 66)
 clear hq hn hpc uN h C dI hok hlv hfit
 rw[<- HQ.o] at HR
 obtain⟨RR,uS⟩:=ex (cu o st k 2)
 rw[<- uS] at HR ⊢
 clear uS
 have hm:=JW (Ad mb 0)
 have ha:=Ot (Ad mb 0)
 go_enter Tryz.func128,Tryz.ntmps128
 go_wp2_with fail
 obtain⟨WA,gw⟩:=ex (w.alloc (.cells #[I (q.r 0),I (q.r 1),I (q.r 2),I (q.r 3),I (q.r 4),I (q.r 5),I (q.r 6),I (q.r 7)] 66))
 rw[<- gw] at cY BX ⊢
 obtain⟨rb,oD⟩:=ex w.heap.size
 rw[<- oD] at BX ⊢
 have OB:=ai oD
 have ow:=ai (HG.o.below HC.o cY.o)
 clear gw oD c0 c1 c2 c3 c4 c5 c6 c7
 have EJ:=ai (HC.o.map WA.drew D st.mem _ k (q.r 0) (q.r 1) (q.r 2) (HC.o.kp _ _ _ (fun _=>False) _ ow.o.mem (Kp.drew _ _) (fun _ _ g=>g)) tH.o.mem qA.o (oC.o.1 0 (by omega)) (oC.o.1 1 (by omega)))
 have HS:Hid (∀V,Kp D WA V->V.cell? (Ad gb 0)=some (.iface 144 (.pointer (some (Ad mb 0))))/\V.cell? (Ad rb 0)=some (I (q.r 0))/\V.cell? (Ad rb 1)=some (I (q.r 1))/\V.cell? (Ad rb 2)=some (I (q.r 2))):=fun V hb=>by
  have h1:=hb.keep BX.o (fun g=>by have:=HC.o.dom _ _ _ HG.o.mem _ g;have:=OB.o;omega)
  have h2:=hb.keep ow.o.head ow.o.n1
  exact⟨B.cell h2 0 rfl,B.cell h1 0 rfl,B.cell h1 1 rfl,B.cell h1 2 rfl⟩
 have cw:=ai (HS.o _ (Kp.drew _ _))
 obtain⟨X,hX⟩:=ex (o.map st.mem k (q.r 0) (q.r 1) (q.r 2))
 rw[<- hX] at EJ HR
 clear hX
 go_region_held3 (fun V=>V.cell? (Ad gb 0)=some (.iface 144 (.pointer (some (Ad mb 0))))/\V.cell? (Ad rb 0)=some (I (q.r 0))/\V.cell? (Ad rb 1)=some (I (q.r 1))/\V.cell? (Ad rb 2)=some (I (q.r 2))) (first | exact ql.o | exact cw.o)
  (first | (go_at_call 193;refine EJ.o.mono ?_;rintro e w2 ⟨D2,rfl,hm2,hk2,hd2⟩;have je:Hid (Kp D WA w2):=(Kp.drew D WA).trans hk2 (fun _ _ g=>g);have ql:=ai (HS.o _ je.o);have I8:=ai hm2;have Cq:=ai hd2;clear hm2 hk2 hd2))
 go_wp2
 go_ret
 rw[HR.o]
 exact⟨rfl,Left.after cY.o (Left.pd HC.o ow.o I8.o je.o Cq.o)⟩
theorem call3 (C:gP lo mb Hd Ok o) (k:Nat) (w:World) (h:km Hd lo mb gb w D vr vo st) (hok:lZ Ok st) (hk:k<st.ps.length) (h1:(FM.au st.ps k).st=1) :
  Calls Tryz.prog 128 #[.pointer (some (Ad gb 0)),I (k:Int),I 3] w fun e w'=>e=.returned (I (cu o st k 3).1)/\Left Hd lo mb gb w D vr vo (cu o st k 3).2 w':=by
 have HG:=ai h
 have HC:=ai C
 obtain⟨pb,cap,nu,hpb,hpc,uN⟩:=h.proc k hk
 have dI:=ai hpc
 have hlv:=ek k hk h1
 have hfit:=hok.fit k hk
 have tH:=ai hok
 have qA:=ai hlv
 have oC:=ai hfit
 have vH:st.ps.length<=4:=by have:=C.ok.few _ _ hok.mem;unfold running at this;rw[List.length_map] at this;exact this
 have qp:=ai hk
 have KX:=ai h1
 have HR:Hid (cu o st k 3=((o.jT st.mem k ((FM.au st.ps k).r 0) ((FM.au st.ps k).r 1)).1,{ st with mem:=(o.jT st.mem k ((FM.au st.ps k).r 0) ((FM.au st.ps k).r 1)).2 })):=rfl
 obtain⟨q,hq⟩:=ex (FM.au st.ps k)
 rw[<- hq] at dI oC
 have HQ:=ai hq
 obtain⟨n,hn⟩:=ex st.ps.length
 rw[<- hn] at nu hk vH
 subst nu
 have HN:=ai hn
 have jd:(k:Int)<(n:Int):=by omega
 have g0:w.cell? (Ad gb 0)=some (.iface 144 (.pointer (some (Ad mb 0)))):=B.cell HG.o.head 0 rfl
 have g1:w.cell? (Ad gb 1)=some (.slice (some (Ad pb 0)) n cap):=B.cell HG.o.head 1 rfl
 have hgb:=B.isLt HG.o.head
 have c0:w.cell? (Ad pb (k*13))=some (I (q.r 0)):=dI.o 0 (by omega)
 have c1:w.cell? (Ad pb (k*13+1))=some (I (q.r 1)):=dI.o 1 (by omega)
 have c2:w.cell? (Ad pb (k*13+2))=some (I (q.r 2)):=dI.o 2 (by omega)
 have c3:w.cell? (Ad pb (k*13+3))=some (I (q.r 3)):=dI.o 3 (by omega)
 have c4:w.cell? (Ad pb (k*13+4))=some (I (q.r 4)):=dI.o 4 (by omega)
 have c5:w.cell? (Ad pb (k*13+5))=some (I (q.r 5)):=dI.o 5 (by omega)
 have c6:w.cell? (Ad pb (k*13+6))=some (I (q.r 6)):=dI.o 6 (by omega)
 have c7:w.cell? (Ad pb (k*13+7))=some (I (q.r 7)):=dI.o 7 (by omega)
 have cY:=ai ((Below.refl w.heap.size w).alloc (Nat.le_refl _) (.cells #[I (q.r 0),I (q.r 1),I (q.r 2),I (q.r 3),I (q.r 4),I (q.r 5),I (q.r 6),I (q.r 7)] 66))
 have BX:=ai (B.new w #[I (q.r 0),I (q.r 1),I (q.r 2),I (q.r 3),I (q.r 4),I (q.r 5),I (q.r 6),I (q.r 7)] 66)
 clear hq hn hpc uN h C dI hok hlv hfit
 rw[<- HQ.o] at HR
 obtain⟨RR,uS⟩:=ex (cu o st k 3)
 rw[<- uS] at HR ⊢
 clear uS
 have hm:=Dd (Ad mb 0)
 have ha:=G1 (Ad mb 0)
 go_enter Tryz.func128,Tryz.ntmps128
 go_wp2_with fail
 obtain⟨WA,gw⟩:=ex (w.alloc (.cells #[I (q.r 0),I (q.r 1),I (q.r 2),I (q.r 3),I (q.r 4),I (q.r 5),I (q.r 6),I (q.r 7)] 66))
 rw[<- gw] at cY BX ⊢
 obtain⟨rb,oD⟩:=ex w.heap.size
 rw[<- oD] at BX ⊢
 have OB:=ai oD
 have ow:=ai (HG.o.below HC.o cY.o)
 clear gw oD c0 c1 c2 c3 c4 c5 c6 c7
 have EJ:=ai (HC.o.jT WA.drew D st.mem _ k (q.r 0) (q.r 1) (HC.o.kp _ _ _ (fun _=>False) _ ow.o.mem (Kp.drew _ _) (fun _ _ g=>g)) tH.o.mem qA.o (oC.o.1 0 (by omega)) (oC.o.1 1 (by omega)))
 have HS:Hid (∀V,Kp D WA V->V.cell? (Ad gb 0)=some (.iface 144 (.pointer (some (Ad mb 0))))/\V.cell? (Ad rb 0)=some (I (q.r 0))/\V.cell? (Ad rb 1)=some (I (q.r 1))):=fun V hb=>by
  have h1:=hb.keep BX.o (fun g=>by have:=HC.o.dom _ _ _ HG.o.mem _ g;have:=OB.o;omega)
  have h2:=hb.keep ow.o.head ow.o.n1
  exact⟨B.cell h2 0 rfl,B.cell h1 0 rfl,B.cell h1 1 rfl⟩
 have cw:=ai (HS.o _ (Kp.drew _ _))
 obtain⟨X,hX⟩:=ex (o.jT st.mem k (q.r 0) (q.r 1))
 rw[<- hX] at EJ HR
 clear hX
 go_region_held3 (fun V=>V.cell? (Ad gb 0)=some (.iface 144 (.pointer (some (Ad mb 0))))/\V.cell? (Ad rb 0)=some (I (q.r 0))/\V.cell? (Ad rb 1)=some (I (q.r 1))) (first | exact ql.o | exact cw.o)
  (first | (go_at_call 196;refine EJ.o.mono ?_;rintro e w2 ⟨D2,rfl,hm2,hk2,hd2⟩;have je:Hid (Kp D WA w2):=(Kp.drew D WA).trans hk2 (fun _ _ g=>g);have ql:=ai (HS.o _ je.o);have I8:=ai hm2;have Cq:=ai hd2;clear hm2 hk2 hd2))
 go_wp2
 go_ret
 rw[HR.o]
 exact⟨rfl,Left.after cY.o (Left.pd HC.o ow.o I8.o je.o Cq.o)⟩
theorem call4 (C:gP lo mb Hd Ok o) (k:Nat) (w:World) (h:km Hd lo mb gb w D vr vo st) (hok:lZ Ok st) (hk:k<st.ps.length) (h1:(FM.au st.ps k).st=1) :
  Calls Tryz.prog 128 #[.pointer (some (Ad gb 0)),I (k:Int),I 4] w fun e w'=>e=.returned (I (cu o st k 4).1)/\Left Hd lo mb gb w D vr vo (cu o st k 4).2 w':=by
 have HG:=ai h
 have HC:=ai C
 obtain⟨pb,cap,nu,hpb,hpc,uN⟩:=h.proc k hk
 have dI:=ai hpc
 have hlv:=ek k hk h1
 have hfit:=hok.fit k hk
 have tH:=ai hok
 have qA:=ai hlv
 have oC:=ai hfit
 have vH:st.ps.length<=4:=by have:=C.ok.few _ _ hok.mem;unfold running at this;rw[List.length_map] at this;exact this
 have qp:=ai hk
 have KX:=ai h1
 have HR:Hid (cu o st k 4=((o.fw st.mem k ((FM.au st.ps k).r 0) ((FM.au st.ps k).r 1) ((FM.au st.ps k).r 2)).1,{ st with mem:=(o.fw st.mem k ((FM.au st.ps k).r 0) ((FM.au st.ps k).r 1) ((FM.au st.ps k).r 2)).2 })):=rfl
 obtain⟨q,hq⟩:=ex (FM.au st.ps k)
 rw[<- hq] at dI oC
 have HQ:=ai hq
 obtain⟨n,hn⟩:=ex st.ps.length
 rw[<- hn] at nu hk vH
 subst nu
 have HN:=ai hn
 have jd:(k:Int)<(n:Int):=by omega
 have g0:w.cell? (Ad gb 0)=some (.iface 144 (.pointer (some (Ad mb 0)))):=B.cell HG.o.head 0 rfl
 have g1:w.cell? (Ad gb 1)=some (.slice (some (Ad pb 0)) n cap):=B.cell HG.o.head 1 rfl
 have hgb:=B.isLt HG.o.head
 have c0:w.cell? (Ad pb (k*13))=some (I (q.r 0)):=dI.o 0 (by omega)
 have c1:w.cell? (Ad pb (k*13+1))=some (I (q.r 1)):=dI.o 1 (by omega)
 have c2:w.cell? (Ad pb (k*13+2))=some (I (q.r 2)):=dI.o 2 (by omega)
 have c3:w.cell? (Ad pb (k*13+3))=some (I (q.r 3)):=dI.o 3 (by omega)
 have c4:w.cell? (Ad pb (k*13+4))=some (I (q.r 4)):=dI.o 4 (by omega)
 have c5:w.cell? (Ad pb (k*13+5))=some (I (q.r 5)):=dI.o 5 (by omega)
 have c6:w.cell? (Ad pb (k*13+6))=some (I (q.r 6)):=dI.o 6 (by omega)
 have c7:w.cell? (Ad pb (k*13+7))=some (I (q.r 7)):=dI.o 7 (by omega)
 have cY:=ai ((Below.refl w.heap.size w).alloc (Nat.le_refl _) (.cells #[I (q.r 0),I (q.r 1),I (q.r 2),I (q.r 3),I (q.r 4),I (q.r 5),I (q.r 6),I (q.r 7)] 66))
 have BX:=ai (B.new w #[I (q.r 0),I (q.r 1),I (q.r 2),I (q.r 3),I (q.r 4),I (q.r 5),I (q.r 6),I (q.r 7)] 66)
 clear hq hn hpc uN h C dI hok hlv hfit
 rw[<- HQ.o] at HR
 obtain⟨RR,uS⟩:=ex (cu o st k 4)
 rw[<- uS] at HR ⊢
 clear uS
 have hm:=yU (Ad mb 0)
 have ha:=B6 (Ad mb 0)
 go_enter Tryz.func128,Tryz.ntmps128
 go_wp2_with fail
 obtain⟨WA,gw⟩:=ex (w.alloc (.cells #[I (q.r 0),I (q.r 1),I (q.r 2),I (q.r 3),I (q.r 4),I (q.r 5),I (q.r 6),I (q.r 7)] 66))
 rw[<- gw] at cY BX ⊢
 obtain⟨rb,oD⟩:=ex w.heap.size
 rw[<- oD] at BX ⊢
 have OB:=ai oD
 have ow:=ai (HG.o.below HC.o cY.o)
 clear gw oD c0 c1 c2 c3 c4 c5 c6 c7
 have EJ:=ai (HC.o.fw WA.drew D st.mem _ k (q.r 0) (q.r 1) (q.r 2) (HC.o.kp _ _ _ (fun _=>False) _ ow.o.mem (Kp.drew _ _) (fun _ _ g=>g)) tH.o.mem qA.o (oC.o.1 0 (by omega)) (oC.o.1 1 (by omega)))
 have HS:Hid (∀V,Kp D WA V->V.cell? (Ad gb 0)=some (.iface 144 (.pointer (some (Ad mb 0))))/\V.cell? (Ad rb 0)=some (I (q.r 0))/\V.cell? (Ad rb 1)=some (I (q.r 1))/\V.cell? (Ad rb 2)=some (I (q.r 2))):=fun V hb=>by
  have h1:=hb.keep BX.o (fun g=>by have:=HC.o.dom _ _ _ HG.o.mem _ g;have:=OB.o;omega)
  have h2:=hb.keep ow.o.head ow.o.n1
  exact⟨B.cell h2 0 rfl,B.cell h1 0 rfl,B.cell h1 1 rfl,B.cell h1 2 rfl⟩
 have cw:=ai (HS.o _ (Kp.drew _ _))
 obtain⟨X,hX⟩:=ex (o.fw st.mem k (q.r 0) (q.r 1) (q.r 2))
 rw[<- hX] at EJ HR
 clear hX
 go_region_held3 (fun V=>V.cell? (Ad gb 0)=some (.iface 144 (.pointer (some (Ad mb 0))))/\V.cell? (Ad rb 0)=some (I (q.r 0))/\V.cell? (Ad rb 1)=some (I (q.r 1))/\V.cell? (Ad rb 2)=some (I (q.r 2))) (first | exact ql.o | exact cw.o)
  (first | (go_at_call 194;refine EJ.o.mono ?_;rintro e w2 ⟨D2,rfl,hm2,hk2,hd2⟩;have je:Hid (Kp D WA w2):=(Kp.drew D WA).trans hk2 (fun _ _ g=>g);have ql:=ai (HS.o _ je.o);have I8:=ai hm2;have Cq:=ai hd2;clear hm2 hk2 hd2))
 go_wp2
 go_ret
 rw[HR.o]
 exact⟨rfl,Left.after cY.o (Left.pd HC.o ow.o I8.o je.o Cq.o)⟩
variable {σ:Type} {Hd:World->(Nat->Prop)->σ->Prop} {Ok:σ->List Bool->Prop} {o:vM σ} {lo mb gb:Nat} {D:Nat->Prop} {vr vo:Value} {st:St σ}
theorem call5 (C:gP lo mb Hd Ok o) (k:Nat) (w:World) (h:km Hd lo mb gb w D vr vo st) (hok:lZ Ok st) (hk:k<st.ps.length) (h1:(FM.au st.ps k).st=1) :
  Calls Tryz.prog 128 #[.pointer (some (Ad gb 0)),I (k:Int),I 5] w fun e w'=>e=.returned (I (cu o st k 5).1)/\Left Hd lo mb gb w D vr vo (cu o st k 5).2 w':=by
 have HG:=ai h
 have HC:=ai C
 obtain⟨pb,cap,nu,hpb,hpc,uN⟩:=h.proc k hk
 have dI:=ai hpc
 have hlv:=ek k hk h1
 have hfit:=hok.fit k hk
 have tH:=ai hok
 have qA:=ai hlv
 have oC:=ai hfit
 have vH:st.ps.length<=4:=by have:=C.ok.few _ _ hok.mem;unfold running at this;rw[List.length_map] at this;exact this
 have qp:=ai hk
 have KX:=ai h1
 have rY:=ai (fun V (hV:Below w.heap.size w V)=>xM C k V (h.below C hV) hok hk h1)
 obtain⟨q,hq⟩:=ex (FM.au st.ps k)
 rw[<- hq] at dI oC
 have HQ:=ai hq
 obtain⟨n,hn⟩:=ex st.ps.length
 rw[<- hn] at nu hk vH
 subst nu
 have HN:=ai hn
 have jd:(k:Int)<(n:Int):=by omega
 have g0:w.cell? (Ad gb 0)=some (.iface 144 (.pointer (some (Ad mb 0)))):=B.cell HG.o.head 0 rfl
 have g1:w.cell? (Ad gb 1)=some (.slice (some (Ad pb 0)) n cap):=B.cell HG.o.head 1 rfl
 have hgb:=B.isLt HG.o.head
 have c0:w.cell? (Ad pb (k*13))=some (I (q.r 0)):=dI.o 0 (by omega)
 have c1:w.cell? (Ad pb (k*13+1))=some (I (q.r 1)):=dI.o 1 (by omega)
 have c2:w.cell? (Ad pb (k*13+2))=some (I (q.r 2)):=dI.o 2 (by omega)
 have c3:w.cell? (Ad pb (k*13+3))=some (I (q.r 3)):=dI.o 3 (by omega)
 have c4:w.cell? (Ad pb (k*13+4))=some (I (q.r 4)):=dI.o 4 (by omega)
 have c5:w.cell? (Ad pb (k*13+5))=some (I (q.r 5)):=dI.o 5 (by omega)
 have c6:w.cell? (Ad pb (k*13+6))=some (I (q.r 6)):=dI.o 6 (by omega)
 have c7:w.cell? (Ad pb (k*13+7))=some (I (q.r 7)):=dI.o 7 (by omega)
 have cY:=ai ((Below.refl w.heap.size w).alloc (Nat.le_refl _) (.cells #[I (q.r 0),I (q.r 1),I (q.r 2),I (q.r 3),I (q.r 4),I (q.r 5),I (q.r 6),I (q.r 7)] 66))
 have BX:=ai (B.new w #[I (q.r 0),I (q.r 1),I (q.r 2),I (q.r 3),I (q.r 4),I (q.r 5),I (q.r 6),I (q.r 7)] 66)
 clear hq hn hpc uN h C dI hok hlv hfit
 obtain⟨RR,uS⟩:=ex (cu o st k 5)
 rw[<- uS] at rY ⊢
 clear uS
 go_enter Tryz.func128,Tryz.ntmps128
 go_wp2_with (go_at_call 147;refine(rY.o _ cY.o).mono ?_;rintro e w1 ⟨rfl,mK⟩;have R5:=ai mK;clear mK)
 go_ret
 exact⟨rfl,Left.after cY.o R5.o⟩
theorem call6 (C:gP lo mb Hd Ok o) (k:Nat) (w:World) (h:km Hd lo mb gb w D vr vo st) (hok:lZ Ok st) (hk:k<st.ps.length) (h1:(FM.au st.ps k).st=1) :
  Calls Tryz.prog 128 #[.pointer (some (Ad gb 0)),I (k:Int),I 6] w fun e w'=>e=.returned (I (cu o st k 6).1)/\Left Hd lo mb gb w D vr vo (cu o st k 6).2 w':=by
 have HG:=ai h
 have HC:=ai C
 obtain⟨pb,cap,nu,hpb,hpc,uN⟩:=h.proc k hk
 have dI:=ai hpc
 have hlv:=ek k hk h1
 have hfit:=hok.fit k hk
 have tH:=ai hok
 have qA:=ai hlv
 have oC:=ai hfit
 have vH:st.ps.length<=4:=by have:=C.ok.few _ _ hok.mem;unfold running at this;rw[List.length_map] at this;exact this
 have qp:=ai hk
 have KX:=ai h1
 have HR:Hid (cu o st k 6=(0,{ st with mem:=o.drop st.mem k })):=rfl
 have EJ:=ai (fun V (hV:Below w.heap.size w V)=>C.drop V D st.mem _ k (h.below C hV).mem hok.mem (ek k hk h1))
 obtain⟨q,hq⟩:=ex (FM.au st.ps k)
 rw[<- hq] at dI oC
 have HQ:=ai hq
 obtain⟨n,hn⟩:=ex st.ps.length
 rw[<- hn] at nu hk vH
 subst nu
 have HN:=ai hn
 have jd:(k:Int)<(n:Int):=by omega
 have g0:w.cell? (Ad gb 0)=some (.iface 144 (.pointer (some (Ad mb 0)))):=B.cell HG.o.head 0 rfl
 have g1:w.cell? (Ad gb 1)=some (.slice (some (Ad pb 0)) n cap):=B.cell HG.o.head 1 rfl
 have hgb:=B.isLt HG.o.head
 have c0:w.cell? (Ad pb (k*13))=some (I (q.r 0)):=dI.o 0 (by omega)
 have c1:w.cell? (Ad pb (k*13+1))=some (I (q.r 1)):=dI.o 1 (by omega)
 have c2:w.cell? (Ad pb (k*13+2))=some (I (q.r 2)):=dI.o 2 (by omega)
 have c3:w.cell? (Ad pb (k*13+3))=some (I (q.r 3)):=dI.o 3 (by omega)
 have c4:w.cell? (Ad pb (k*13+4))=some (I (q.r 4)):=dI.o 4 (by omega)
 have c5:w.cell? (Ad pb (k*13+5))=some (I (q.r 5)):=dI.o 5 (by omega)
 have c6:w.cell? (Ad pb (k*13+6))=some (I (q.r 6)):=dI.o 6 (by omega)
 have c7:w.cell? (Ad pb (k*13+7))=some (I (q.r 7)):=dI.o 7 (by omega)
 have cY:=ai ((Below.refl w.heap.size w).alloc (Nat.le_refl _) (.cells #[I (q.r 0),I (q.r 1),I (q.r 2),I (q.r 3),I (q.r 4),I (q.r 5),I (q.r 6),I (q.r 7)] 66))
 have BX:=ai (B.new w #[I (q.r 0),I (q.r 1),I (q.r 2),I (q.r 3),I (q.r 4),I (q.r 5),I (q.r 6),I (q.r 7)] 66)
 clear hq hn hpc uN h C dI hok hlv hfit
 obtain⟨RR,uS⟩:=ex (cu o st k 6)
 rw[<- uS] at HR ⊢
 clear uS
 have hm:=xn (Ad mb 0)
 have ha:=Al (Ad mb 0)
 go_enter Tryz.func128,Tryz.ntmps128
 go_wp2_with (go_at_call 190;refine(EJ.o _ cY.o).mono ?_;rintro e w2 ⟨D2,rfl,hm2,hk2,hd2⟩;have oa:=ai (Left.pd HC.o (HG.o.below HC.o cY.o) hm2 hk2 hd2);clear hm2 hk2 hd2)
 go_ret
 rw[HR.o]
 exact⟨rfl,Left.after cY.o oa.o⟩
theorem YW (C:gP lo mb Hd Ok o) (k:Nat) (w:World) (h:km Hd lo mb gb w D vr vo st) (hok:lZ Ok st) (hk:k<st.ps.length) (h1:(FM.au st.ps k).st=1) :
  Calls Tryz.prog 128 #[.pointer (some (Ad gb 0)),I (k:Int),I 1] w fun e w'=>e=.returned (I (cu o st k 1).1)/\Left Hd lo mb gb w D vr vo (cu o st k 1).2 w':=by
 have HG:=ai h
 have HC:=ai C
 obtain⟨pb,cap,nu,hpb,hpc,uN⟩:=h.proc k hk
 have dI:=ai hpc
 have hlv:=ek k hk h1
 have hfit:=hok.fit k hk
 have tH:=ai hok
 have qA:=ai hlv
 have oC:=ai hfit
 have vH:st.ps.length<=4:=by have:=C.ok.few _ _ hok.mem;unfold running at this;rw[List.length_map] at this;exact this
 have qp:=ai hk
 have KX:=ai h1
 have HR:Hid (cu o st k 1=(0,{ st with out:=st.out++[⟨(k:Int),(FM.au st.ps k).r 0⟩] })):=rfl
 obtain⟨q,hq⟩:=ex (FM.au st.ps k)
 rw[<- hq] at dI oC
 have HQ:=ai hq
 obtain⟨n,hn⟩:=ex st.ps.length
 rw[<- hn] at nu hk vH
 subst nu
 have HN:=ai hn
 have jd:(k:Int)<(n:Int):=by omega
 have g0:w.cell? (Ad gb 0)=some (.iface 144 (.pointer (some (Ad mb 0)))):=B.cell HG.o.head 0 rfl
 have g1:w.cell? (Ad gb 1)=some (.slice (some (Ad pb 0)) n cap):=B.cell HG.o.head 1 rfl
 have hgb:=B.isLt HG.o.head
 have c0:w.cell? (Ad pb (k*13))=some (I (q.r 0)):=dI.o 0 (by omega)
 have c1:w.cell? (Ad pb (k*13+1))=some (I (q.r 1)):=dI.o 1 (by omega)
 have c2:w.cell? (Ad pb (k*13+2))=some (I (q.r 2)):=dI.o 2 (by omega)
 have c3:w.cell? (Ad pb (k*13+3))=some (I (q.r 3)):=dI.o 3 (by omega)
 have c4:w.cell? (Ad pb (k*13+4))=some (I (q.r 4)):=dI.o 4 (by omega)
 have c5:w.cell? (Ad pb (k*13+5))=some (I (q.r 5)):=dI.o 5 (by omega)
 have c6:w.cell? (Ad pb (k*13+6))=some (I (q.r 6)):=dI.o 6 (by omega)
 have c7:w.cell? (Ad pb (k*13+7))=some (I (q.r 7)):=dI.o 7 (by omega)
 have cY:=ai ((Below.refl w.heap.size w).alloc (Nat.le_refl _) (.cells #[I (q.r 0),I (q.r 1),I (q.r 2),I (q.r 3),I (q.r 4),I (q.r 5),I (q.r 6),I (q.r 7)] 66))
 have BX:=ai (B.new w #[I (q.r 0),I (q.r 1),I (q.r 2),I (q.r 3),I (q.r 4),I (q.r 5),I (q.r 6),I (q.r 7)] 66)
 clear hq hn hpc uN h C dI hok hlv hfit
 rw[<- HQ.o] at HR
 obtain⟨RR,uS⟩:=ex (cu o st k 1)
 rw[<- uS] at HR ⊢
 clear uS
 have QE:=tH.o.out
 obtain⟨no,hno⟩:=ex st.out.length
 rw[<- hno] at QE
 have mS:=ai hno
 clear hno
 go_enter Tryz.func128,Tryz.ntmps128
 go_wp2_with fail
 obtain⟨WA,gw⟩:=ex (w.alloc (.cells #[I (q.r 0),I (q.r 1),I (q.r 2),I (q.r 3),I (q.r 4),I (q.r 5),I (q.r 6),I (q.r 7)] 66))
 rw[<- gw] at cY BX ⊢
 obtain⟨rb,oD⟩:=ex w.heap.size
 rw[<- oD] at BX ⊢
 have ow:=ai (HG.o.below HC.o cY.o)
 obtain⟨ao,co,MZ,_,_⟩:=aL ow.o.outs
 rw[<- mS.o] at MZ
 have HVO:=ai MZ
 have e2:WA.cell? (Ad gb 2)=some vo:=B.cell ow.o.head 2 rfl
 have e2a:∀ob,(WA.alloc ob).cell? (Ad gb 2)=some vo:=fun ob=>B.cell (B.alloc ow.o.head ob) 2 rfl
 have x0:WA.cell? (Ad rb 0)=some (I (q.r 0)):=B.cell BX.o 0 rfl
 clear MZ gw oD c0 c1 c2 c3 c4 c5 c6 c7 g0 g1
 obtain⟨i0,hin,hz0,hz1,hz2⟩:=info_parts Bf
 have nB:=ai hin
 have vP:=ai hz0
 have rT:=ai hz1
 have mQ:=ai hz2
 have HOW:Hid ((WA.alloc (.cells #[I (k:Int),I (q.r 0)] 78)).drew.ownsRow lo 78 2 vo no (st.out.flatMap bR)):=by
  have:=ow.o.outs.alloc (.cells #[I (k:Int),I (q.r 0)] 78)
  rw[<- mS.o] at this
  exact this
 have Lp:Hid (lo<=(WA.alloc (.cells #[I (k:Int),I (q.r 0)] 78)).drew.heap.size):=by show lo<=(WA.alloc _).heap.size;rw[World.size_alloc];have:=ow.o.base;have:=B.isLt ow.o.head;omega
 have Pj:Hid (0<1->∃ad,some ((Ad WA.heap.size 0):Addr)=some ad/\∀j u,([I (k:Int),I (q.r 0)]:List Value)[j]?=some u->((WA.alloc (.cells #[I (k:Int),I (q.r 0)] 78)).drew).cell? (ad.add j)=some u):=fun _=>⟨_,rfl,B.news (w:=(WA.alloc (.cells #[I (k:Int),I (q.r 0)] 78)).drew) (B.new WA #[I (k:Int),I (q.r 0)] 78)⟩
 clear hin hz0 hz1 hz2
 go_region_law (refine iy (P:=Tryz.prog) rfl _ _ 28 rfl lo 78 i0 (.agg #[I 0,I 0]) 2 16 Tryz.underlying28 nB.o vP.o rT.o mQ.o rfl (by decide) vo no (st.out.flatMap bR) rfl HOW.o (some (Ad WA.heap.size 0)) 1 1 [I (k:Int),I (q.r 0)] rfl rfl Pj.o (by intro u hu;simp at hu;rcases hu with rfl | rfl <;> rfl) (by unfold maxLen;omega) (by omega) Lp.o ?_;intro v3 w4 hown hgr hat;obtain⟨a4,c4,rfl,_⟩:=aL hown;have Ch:=ai hown;have zx:Hid ((WA.alloc _).grownBy w4 _):=⟨hgr.os,hgr.tape,hgr.output,hgr.size,hgr.block⟩;have Hp:=ai hat;have Gj:=B.grown (B.alloc ow.o.head (.cells #[I (k:Int),I (q.r 0)] 78)) zx.o (fun e=>ow.o.n3 e.symm);have y1:w4.cell? (Ad gb 2)=some vo:=B.cell Gj 2 rfl;have y2:w4.frozen? (Ad gb 2)=false:=B.free Gj 2;clear hown hgr hat Gj)
 all_goals
  go_wp2
  go_ret
  have hp:=ow.o.WU HC.o (x:=⟨(k:Int),q.r 0⟩) zx.o (by rw[<- mS.o];exact Ch.o) Hp.o
  rw[HR.o]
  exact⟨rfl,Left.after cY.o hp⟩
theorem ye (C:gP lo mb Hd Ok o) (k:Nat) (c:Int) (w:World) (h:km Hd lo mb gb w D vr vo st) (hok:lZ Ok st) (hk:k<st.ps.length) (h1:(FM.au st.ps k).st=1) (hc:1<=c/\c<=6) :
  Calls Tryz.prog 128 #[.pointer (some (Ad gb 0)),I (k:Int),I c] w fun e w'=>e=.returned (I (cu o st k c).1)/\Left Hd lo mb gb w D vr vo (cu o st k c).2 w':=by
 rcases(show c=1∨c=2∨c=3∨c=4∨c=5∨c=6 by omega) with rfl | rfl | rfl | rfl | rfl | rfl
 · exact YW C k w h hok hk h1
 · exact call2 C k w h hok hk h1
 · exact call3 C k w h hok hk h1
 · exact call4 C k w h hok hk h1
 · exact call5 C k w h hok hk h1
 · exact call6 C k w h hok hk h1
end GW
namespace PW
open Go.RowKit
theorem ai {p:Prop} (h:p):Hid p:=h
theorem xW (s:ByteArray) (w:World) (h:s.size=8) :
  Calls Tryz.prog 124 #[.string s] w fun e w'=>e=.returned (.tuple #[.agg (PM.ey.cells (PM.ins s)),I 0])/\Below w.heap.size w w':=by
 have hG:∀V,Calls Tryz.prog 126 #[.string (s.extract 4 8)] V fun e w'=>e=.returned (.tuple #[I (wrap64 (Lib.leNat (s.data.toList.drop 4))),I 0])/\V=w':=fun V=>by
  have h1:(s.extract 4 8).size=4:=by simp;omega
  have h2:=CW.IE (s.extract 4 8) V (by omega) (by omega)
  rw[PM.extract_data s h] at h2
  exact h2
 have h4:=PM.BB s h
 have hv:PM.ey.cells (PM.ins s)=#[I (PM.at_ s 0),I (PM.at_ s 1),I (PM.at_ s 2),I (PM.at_ s 3),I (PM.jt ((Lib.leNat (s.data.toList.drop 4):Nat):Int))]:=rfl
 have Xw:=PM.wrap32 ((Lib.leNat (s.data.toList.drop 4):Nat):Int) (by omega) (by omega)
 have hsr:=PM.wD ((Lib.leNat (s.data.toList.drop 4):Nat):Int) (by omega) (by omega)
 rw[hv]
 have he:wrap64 ((Lib.leNat (s.data.toList.drop 4):Nat):Int)=((Lib.leNat (s.data.toList.drop 4):Nat):Int):=by unfold wrap64;omega
 rw[he] at hG
 obtain⟨L,hL⟩:∃L:Int,L=((Lib.leNat (s.data.toList.drop 4):Nat):Int):=⟨_,rfl⟩
 rw[<- hL] at hG Xw hsr
 rw[<- hL]
 obtain⟨R,hR⟩:∃R:Int,R=PM.jt L:=⟨_,rfl⟩
 rw[<- hR] at Xw hsr
 rw[<- hR]
 have HG:=ai hG
 have g0:=PM.get_at s 0 (by omega)
 have g1:=PM.get_at s 1 (by omega)
 have g2:=PM.get_at s 2 (by omega)
 have g3:=PM.get_at s 3 (by omega)
 have hr:IntKind.i64.wrap R=R:=IntWalk.i64_in _ (by omega)
 have u0:=PM.mF s 0
 have u1:=PM.mF s 1
 have u2:=PM.mF s 2
 have u3:=PM.mF s 3
 clear hG hL hR hv he h4
 go_enter Tryz.func124,Tryz.ntmps124
 go_wp2_with fail
 refine(HG.o _).mono ?_
 rintro e w1 ⟨rfl,rfl⟩
 go_wp2_with fail
 go_region
 go_wp2
 refine bodyPost_ret (v:=.tuple #[.agg #[I (PM.at_ s 0),I (PM.at_ s 1),I (PM.at_ s 2),I (PM.at_ s 3),I R],I 0]) (by simp[results,Tryz.results124,go_sem]) rfl ?_
 exact⟨rfl,((Below.refl _ _).alloc (Nat.le_refl _) _).drew⟩
theorem Nz (s:ByteArray) (w:World) (h:s.size=8) :
  Calls Tryz.prog 49 #[.string s] w fun e w'=>e=.returned (.agg (PM.ey.cells (PM.ins s)))/\Below w.heap.size w w':=by
 have hG:∀V,Calls Tryz.prog 53 #[.string (s.extract 4 8)] V fun e w'=>e=.returned (I (wrap64 (Lib.leNat (s.data.toList.drop 4))))/\V=w':=fun V=>by
  have h1:(s.extract 4 8).size=4:=by simp;omega
  have h2:=CW.xj (s.extract 4 8) V (by omega) (by omega)
  rw[PM.extract_data s h] at h2
  exact h2
 have h4:=PM.BB s h
 have hv:PM.ey.cells (PM.ins s)=#[I (PM.at_ s 0),I (PM.at_ s 1),I (PM.at_ s 2),I (PM.at_ s 3),I (PM.jt ((Lib.leNat (s.data.toList.drop 4):Nat):Int))]:=rfl
 rw[hv]
 have he:wrap64 ((Lib.leNat (s.data.toList.drop 4):Nat):Int)=((Lib.leNat (s.data.toList.drop 4):Nat):Int):=by unfold wrap64;omega
 rw[he] at hG
 have hl0:(0:Int)<=((Lib.leNat (s.data.toList.drop 4):Nat):Int):=by omega
 have mK:((Lib.leNat (s.data.toList.drop 4):Nat):Int)<4294967296:=by omega
 obtain⟨L,hL⟩:∃L:Int,L=((Lib.leNat (s.data.toList.drop 4):Nat):Int):=⟨_,rfl⟩
 rw[<- hL] at hG hl0 mK
 rw[<- hL]
 have HG:=ai hG
 have g0:=PM.get_at s 0 (by omega)
 have g1:=PM.get_at s 1 (by omega)
 have g2:=PM.get_at s 2 (by omega)
 have g3:=PM.get_at s 3 (by omega)
 have u0:=PM.mF s 0
 have u1:=PM.mF s 1
 have u2:=PM.mF s 2
 have u3:=PM.mF s 3
 clear hG hL hv he h4
 by_cases hc:2147483648<=L
 · have Ur:Hid (PM.jt L=L-4294967296):=PM.PJ L hc
   rw[Ur.out]
   go_enter Tryz.func49,Tryz.ntmps49
   go_wp2_with fail
   refine(HG.o _).mono ?_
   rintro e w1 ⟨rfl,rfl⟩
   go_wp2_with fail
   go_region
   go_wp2
   refine bodyPost_ret (v:=.agg #[I (PM.at_ s 0),I (PM.at_ s 1),I (PM.at_ s 2),I (PM.at_ s 3),I (L-4294967296)]) (by simp[results,Tryz.results49,go_sem]) rfl ?_
   exact⟨rfl,((Below.refl _ _).alloc (Nat.le_refl _) _).drew⟩
 · have Ur:Hid (PM.jt L=L):=PM.PI L hc
   rw[Ur.out]
   go_enter Tryz.func49,Tryz.ntmps49
   go_wp2_with fail
   refine(HG.o _).mono ?_
   rintro e w1 ⟨rfl,rfl⟩
   go_wp2_with fail
   go_region
   go_wp2
   refine bodyPost_ret (v:=.agg #[I (PM.at_ s 0),I (PM.at_ s 1),I (PM.at_ s 2),I (PM.at_ s 3),I L]) (by simp[results,Tryz.results49,go_sem]) rfl ?_
   exact⟨rfl,((Below.refl _ _).alloc (Nat.le_refl _) _).drew⟩
theorem jo (n lo hi:Int) (w:World) (h1:lo<=n) (h2:n<=hi) :
  Calls Tryz.prog 27 #[I n,I lo,I hi] w fun e w'=>e=.returned (.bool true)/\w=w':=by
 go_enter Tryz.func27,Tryz.ntmps27
 go_wp2
 go_ret
 exact⟨rfl,rfl⟩
theorem jq (n lo hi:Int) (w:World) (h:n<lo∨hi<n) :
  Calls Tryz.prog 27 #[I n,I lo,I hi] w fun e w'=>e=.returned (.bool false)/\w=w':=by
 by_cases h1:lo<=n
 · have h2:decide (n<=hi)=false:=by simp;omega
   clear h
   go_enter Tryz.func27,Tryz.ntmps27
   go_wp2
   go_ret
   exact⟨rfl,rfl⟩
 · clear h
   go_enter Tryz.func27,Tryz.ntmps27
   go_wp2
   go_ret
   exact⟨rfl,rfl⟩
end PW
end Go.Proofs.YtkdigjpejnebkaaGreat
