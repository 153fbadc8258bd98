/- MachineStarts: for every linked program, numbers of frames and slots, and machine the call returns true (New and Check answer what the document says, errors too), and the arguments read as they did; no condition beyond the form's own reach. -/
import Derived.Test.YtlgoihmkgaaemaaGreatRows
import Derived.ShutString
import Derived.Test.YtlgoihmkgaaemaaGreatGP44
namespace Go.Proofs.YtlgoihmkgaaemaaGreat
open Go.ChangeShapes Go.WideShapes Go.ChangeAt Go.RowKit Go.Proofs.Tryz
open Go.ChangeMaps (open_string shut_string)
set_option linter.unusedVariables false
set_option maxRecDepth 100000
theorem Ki:ownKnob prog.godebug=none:=by kernel_rfl
theorem xC:laidOutB prog=true:=by kernel_rfl
theorem FJ (os:Os) (started:os.Started) (H:Type) (enc:TypeId×Value->H) :
  ReturnsInHanded {} checked os 3 .any (Rows.machineStartsSpec.pre6 enc prog Tryz.f3 Rows.machineStartsRow.domain false) (Rows.machineStartsSpec.post enc prog Tryz.f3 false true false false):=by
 refine returnsInHanded_of_change_sized (C:=checked) Ki started κ func3
  (ChangeSpec.witness6 (enc:=enc) (C:=checked) false ⟨#[],#[.agg #[Nl,Nl,I 0],I 0,I 0,.agg #[Nl,Nl,Nl,Nl,I 0,Nl,Nl]],[]⟩ 8 κ κ κ κ) ?_
 intro W base args ds gs T R hW aa a7 _;have b:∀(j:Nat) t v,Tryz.f3.params[j]?=some t->args[j]?=some v->Value.okWide prog W .any base t v:=R;have r:(DataW.weightsEach prog (Tryz.f3.params.toList++Rows.machineStartsSpec.plain.varTypes prog) (ds++gs)).all (·<=reachBytes)=true:=a7;have Y:=hW;obtain⟨p,q,Q,hV,rfl,ad,ar⟩:=hW;have hA:DataW.TrodAll enc prog W 0 (λ_=>true) true Tryz.f3.params.toList args.toList ds p:=Q;rw[params3] at hA b r;obtain⟨v0,ah,d0,au,p0,q0,a2,rfl,rfl,h0,r0⟩:=trodAll_cons hA;obtain⟨v1,am,d1,ag,p1,q1,rfl,rfl,rfl,h1,r1⟩:=trodAll_cons r0;obtain⟨v2,an,d2,ao,p2,q2,rfl,rfl,rfl,h2,r2⟩:=trodAll_cons r1;obtain⟨v3,af,d3,aq,p3,q3,rfl,rfl,rfl,h3,r3⟩:=trodAll_cons r2;obtain⟨rfl,rfl,rfl⟩:=trodAll_nil r3;obtain rfl:args=#[v0,v1,v2,v3]:=by cases args;simp_all
 obtain⟨rfl,rfl⟩:=trodVars_none hV;obtain⟨a9,rfl,ab⟩:=okWide_struct underlying25 (b 0 25 v0 rfl rfl);have g0:=h0;have X:∀x∈p0,x.block<W.heap.size:=by obtain⟨m,hm⟩:=g0;exact DataW.trod_lt m _ _ _ hm
 obtain⟨ae,a4⟩:=h0;obtain⟨l0,A,y,ap,J,M,a6,b1,b2,b3,b4,b5,b6⟩:=QV a4 (λn hn=>by simpa using sV.1 r _ (ae2 (j:=0) (t:=25) rfl rfl n hn));obtain⟨K,G,B,rfl⟩:=Zc b1;obtain rfl:a9=#[.slice K G B,.slice J A.length M,I y]:=Wh.1 a6;obtain⟨n1,rfl,rfl,rfl,w1⟩:=open_int underlying3 (b 1 3 v1 rfl rfl) h1;have i1:=Ap _ w1;obtain⟨n2,rfl,rfl,rfl,w2⟩:=open_int underlying3 (b 2 3 v2 rfl rfl) h2;have i2:=Ap _ w2;obtain⟨U,rfl,aj⟩:=okWide_struct underlying34 (b 3 34 v3 rfl rfl);have g3:=h3;have a8:∀x∈p3,x.block<W.heap.size:=by obtain⟨m,hm⟩:=g3;exact DataW.trod_lt m _ _ _ hm
 obtain⟨ac,a0⟩:=h3;obtain⟨m3,a3,O,F,N,L,a1,Z,a5,al⟩:=PI a0 (λn hn=>by simpa using sV.1 r _ (ae2 (j:=3) (t:=34) rfl rfl n hn));obtain rfl:U=eU m3 a3 O F N L:=Wh.1 a1;clear Q R;refine(UA l0 A y n1 n2 K J G B M m3 a3 O F N L W b1 b2 b3 b4 b5 b6 Z a5 YO).mono λe W' ⟨he,Tq⟩=>?_
 subst he;exact⟨_,rfl,_,_,_,[],_,[],Y,trodAll_mk1 (shut_bool underlying4 _),(trodAll_cons_mk (Below.trod xC κ (kr κ) g0 Tq X) (trodAll_cons_mk (shut_int underlying3 w1) (trodAll_cons_mk (shut_int underlying3 w2) (trodAll_cons_mk (Below.trod xC κ (kr κ) g3 Tq a8) trodAll_mk0)))),rfl,Tq.frame _,λh=>by cases h⟩
set_option maxHeartbeats 8000000 in
theorem FL:joinedFacts Tryz.pinned.checked.prog 3 Tryz.f3 Rows.machineStartsSpec Rows.machineStartsRow=true:=by
 unfold joinedFacts
 repeat' (with_reducible refine(Bool.and_eq_true_iff.2 ⟨?_,?_⟩))
 all_goals (as_aux_lemma=>kernel_rfl)
theorem Jr:Rows.machineStartsRow.holds Tryz.pinned (OpenSpec.ofChange Rows.machineStartsSpec) :=
 OpenClaim.holds_of_wide 3 Tryz.f3 rfl rfl rfl rfl rfl rfl rfl ⟨rfl,rfl,rfl,rfl,rfl⟩ rfl rfl rfl rfl rfl κ func3 FL
  (kr κ) (by unfold Func.isWrapper;first | (rw[aQ (by decide +kernel)];kernel_rfl) | (rw[aH (by decide +kernel)];exact⟨rfl,rfl⟩))
  (λos started H enc _=>FJ os started H enc)
end Go.Proofs.YtlgoihmkgaaemaaGreat
namespace Go.Proofs.YtlgoihmkgaaemaaGreat
theorem machineStarts_holds:Rows.MachineStartsSaid:=Jr
#print axioms machineStarts_holds
end Go.Proofs.YtlgoihmkgaaemaaGreat
