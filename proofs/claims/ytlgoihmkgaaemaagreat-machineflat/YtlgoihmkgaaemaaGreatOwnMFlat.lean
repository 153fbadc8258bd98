/- MachineFlat: for every program and list of libraries, numbers of frames and slots, and picks the call returns true (the machine on few frames and the one that copies come to the same), and the arguments read as they did; no condition beyond the form's own reach. -/
import Derived.Test.YtlgoihmkgaaemaaGreatRows
import Derived.OpenShut
import Derived.ShutString
import Derived.Test.YtlgoihmkgaaemaaGreatGQ42
namespace Go.Proofs.YtlgoihmkgaaemaaGreat
open Go.ChangeShapes Go.WideShapes Go.ChangeAt Go.RowKit Go.Proofs.Tryz
open Go.ChangeMaps (open_string shut_string)
set_option linter.unusedVariables false
set_option maxRecDepth 100000
theorem SZ:ownKnob prog.godebug=none:=by kernel_rfl
theorem wR:laidOutB prog=true:=by kernel_rfl
theorem Mz (os:Os) (started:os.Started) (H:Type) (enc:TypeId×Value->H) :
  ReturnsInHanded {} checked os 6 .any (Rows.machineFlatSpec.pre6 enc prog Tryz.f6 Rows.machineFlatRow.domain false) (Rows.machineFlatSpec.post enc prog Tryz.f6 false true false false):=by
 refine returnsInHanded_of_change_sized (C:=checked) SZ started κ func6
  (ChangeSpec.witness6 (enc:=enc) (C:=checked) false ⟨#[],#[.agg #[.string ⟨#[]⟩,Nl,Nl,Nl,Nl,I 0],Nl,I 0,I 0,Nl],[]⟩ 8 κ κ κ κ) ?_
 intro W base args ds gs J B hW a8 R _;have b:∀(j:Nat) t v,Tryz.f6.params[j]?=some t->args[j]?=some v->Value.okWide prog W .any base t v:=B;have y:(DataW.weightsEach prog (Tryz.f6.params.toList++Rows.machineFlatSpec.plain.varTypes prog) (ds++gs)).all (·<=reachBytes)=true:=R;have a4:=hW;obtain⟨p,q,G,hV,rfl,ac,ae⟩:=hW;have hA:DataW.TrodAll enc prog W 0 (λ_=>true) true Tryz.f6.params.toList args.toList ds p:=G;rw[params6] at hA b y;obtain⟨v0,a9,d0,au,p0,q0,a3,rfl,rfl,h0,r0⟩:=trodAll_cons hA;obtain⟨v1,ao,d1,ah,p1,q1,rfl,rfl,rfl,h1,r1⟩:=trodAll_cons r0;obtain⟨v2,am,d2,av,p2,q2,rfl,rfl,rfl,h2,r2⟩:=trodAll_cons r1;obtain⟨v3,ad,d3,aw,p3,q3,rfl,rfl,rfl,h3,r3⟩:=trodAll_cons r2;obtain⟨v4,ap,d4,al,p4,q4,rfl,rfl,rfl,h4,r4⟩:=trodAll_cons r3;obtain⟨rfl,rfl,rfl⟩:=trodAll_nil r4;obtain rfl:args=#[v0,v1,v2,v3,v4]:=by cases args;simp_all
 obtain⟨rfl,rfl⟩:=trodVars_none hV;obtain⟨T,rfl,aa⟩:=okWide_struct underlying56 (b 0 56 v0 rfl rfl);have g0:=h0;have Y:∀x∈p0,x.block<W.heap.size:=by obtain⟨m,hm⟩:=g0;exact DataW.trod_lt m _ _ _ hm
 obtain⟨af,Q⟩:=h0;obtain⟨A,F,K,c0,e0⟩:=NZ Q (λn hn=>by simpa using nB.1 y _ (aa3 (j:=0) (t:=56) rfl rfl n hn));obtain rfl:T=gI F A:=Array.toList_inj.1 K;obtain⟨a7,an,a1,rfl⟩:=okWide_slice underlying57 (b 1 57 v1 rfl rfl);have g1:=h1;have M:∀x∈p1,x.block<W.heap.size:=by obtain⟨m,hm⟩:=g1;exact DataW.trod_lt m _ _ _ hm
 obtain⟨ab,L⟩:=h1;obtain⟨U,a0,c1,e1,_⟩:=aku L (λn hn=>by simpa using nB.1 y _ (aa3 (j:=1) (t:=57) rfl rfl n hn));subst a0;obtain⟨n2,rfl,rfl,rfl,w2⟩:=open_int underlying3 (b 2 3 v2 rfl rfl) h2;have i2:=UZ _ w2;obtain⟨n3,rfl,rfl,rfl,w3⟩:=open_int underlying3 (b 3 3 v3 rfl rfl) h3;have i3:=UZ _ w3;obtain⟨O,aj,N,rfl⟩:=okWide_slice underlying48 (b 4 48 v4 rfl rfl);have g4:=h4;have Z:∀x∈p4,x.block<W.heap.size:=by obtain⟨m,hm⟩:=g4;exact DataW.trod_lt m _ _ _ hm
 obtain⟨ag,a5⟩:=h4;obtain⟨a6,X,Lm,a2,ay⟩:=acS a5 (λn hn=>by simpa using nB.1 y _ (aa3 (j:=4) (t:=48) rfl rfl n hn));subst X;clear G B;refine(afr ⟨A,F⟩ U a7 a1 n2 n3 a6 O N W c0 c1 e0 e1 Lm (ail Lm) a2 YT).mono λe W' ⟨he,bel⟩=>?_
 subst he;exact⟨_,rfl,_,_,_,[],_,[],a4,trodAll_mk1 (shut_bool underlying4 _),(trodAll_cons_mk (Below.trod wR κ (jY κ) g0 bel Y) (trodAll_cons_mk (Below.trod wR κ (jY κ) g1 bel M) (trodAll_cons_mk (shut_int underlying3 w2) (trodAll_cons_mk (shut_int underlying3 w3) (trodAll_cons_mk (Below.trod wR κ (jY κ) g4 bel Z) trodAll_mk0))))),rfl,bel.frame _,λh=>by cases h⟩
set_option maxHeartbeats 8000000 in
theorem MB:joinedFacts Tryz.pinned.checked.prog 6 Tryz.f6 Rows.machineFlatSpec Rows.machineFlatRow=true:=by
 unfold joinedFacts
 repeat' (with_reducible refine(Bool.and_eq_true_iff.2 ⟨?_,?_⟩))
 all_goals (as_aux_lemma=>kernel_rfl)
theorem Qp:Rows.machineFlatRow.holds Tryz.pinned (OpenSpec.ofChange Rows.machineFlatSpec) :=
 OpenClaim.holds_of_wide 6 Tryz.f6 rfl rfl rfl rfl rfl rfl rfl ⟨rfl,rfl,rfl,rfl,rfl⟩ rfl rfl rfl rfl rfl κ func6 MB
  (jY κ) (by unfold Func.isWrapper;first | (rw[aC (by decide +kernel)];kernel_rfl) | (rw[aB (by decide +kernel)];exact⟨rfl,rfl⟩))
  (λos started H enc _=>Mz os started H enc)
end Go.Proofs.YtlgoihmkgaaemaaGreat
namespace Go.Proofs.YtlgoihmkgaaemaaGreat
theorem machineFlat_holds:Rows.MachineFlatSaid:=Qp
#print axioms machineFlat_holds
end Go.Proofs.YtlgoihmkgaaemaaGreat
