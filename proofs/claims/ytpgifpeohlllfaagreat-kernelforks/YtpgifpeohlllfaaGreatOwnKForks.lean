/- KernelForks: for every kernel and space the call returns true (Fork and Drop answer what the document says, errors too), and the arguments read as they did; no condition beyond the form's own reach. -/
import Derived.Test.YtpgifpeohlllfaaGreatRows
import Derived.ShutString
import Derived.Test.YtpgifpeohlllfaaGreatGT39
import Derived.Test.YtpgifpeohlllfaaGreatGT40
namespace Go.Proofs.YtpgifpeohlllfaaGreat.vZ
open Go.ChangeShapes Go.WideShapes Go.ChangeAt Go.RowKit
open Go.ChangeMaps (open_string shut_string)
set_option linter.unusedVariables false
set_option maxRecDepth 100000
theorem own:ownKnob Tryz.prog.godebug=none:=by kernel_rfl
theorem laidOut:laidOutB Tryz.prog=true:=by kernel_rfl
theorem lifted (os:Os) (started:os.Started) (H:Type) (enc:TypeId×Value->H) :
  ReturnsInHanded {} Tryz.checked os 9 .any (Rows.kernelForksSpec.pre6 enc Tryz.prog Tryz.f9 Rows.kernelForksRow.domain false) (Rows.kernelForksSpec.post enc Tryz.prog Tryz.f9 false true false false):=by
 refine returnsInHanded_of_change_sized (C:=Tryz.checked) own started (by kernel_rfl) Tryz.func9
  (ChangeSpec.witness6 (enc:=enc) (C:=Tryz.checked) false ⟨#[],#[.agg #[Nl,Nl,Nl,Nl,I 0],I 0],[]⟩ 8 (by kernel_rfl) (by kernel_rfl) (by kernel_rfl) (by kernel_rfl)) ?_
 intro W base args ds gs before Vb hW hcnd adB _;have hval:∀(j:Nat) t v,Tryz.f9.params[j]?=some t->args[j]?=some v->Value.okWide Tryz.prog W .any base t v:=Vb;have hsz:(DataW.weightsEach Tryz.prog (Tryz.f9.params.toList++Rows.kernelForksSpec.plain.varTypes Tryz.prog) (ds++gs)).all (·<=reachBytes)=true:=adB;have hW':=hW;obtain⟨p,q,MW,hV,rfl,hfz,hnd⟩:=hW;have hA:DataW.TrodAll enc Tryz.prog W 0 (fun _=>true) true Tryz.f9.params.toList args.toList ds p:=MW;rw[Tryz.params9] at hA hval hsz;obtain⟨v0,vs0,d0,ds0,p0,q0,hargs,rfl,rfl,h0,r0⟩:=trodAll_cons hA;obtain⟨v1,vs1,d1,ds1,p1,q1,rfl,rfl,rfl,h1,r1⟩:=trodAll_cons r0;obtain⟨rfl,rfl,rfl⟩:=trodAll_nil r1;obtain rfl:args=#[v0,v1]:=by cases args;simp_all
 obtain⟨rfl,rfl⟩:=trodVars_none hV;obtain⟨cs0,rfl,akv⟩:=okWide_struct Tryz.underlying27 (hval 0 27 v0 rfl rfl);have g0:=h0;have lt0:∀x∈p0,x.block<W.heap.size:=by obtain⟨m,hm⟩:=g0;exact DataW.trod_lt m _ _ _ hm
 obtain⟨aib,ad1⟩:=h0;obtain⟨k0,a0,aec,L3,Vn⟩:=Go.Proofs.YtpgifpeohlllfaaGreat.KA.EK ad1 (fun n hn=>by simpa using List.all_eq_true.1 hsz _ (DataW.weights_mem_each (j:=0) (t:=27) rfl rfl n hn));obtain rfl:cs0=Go.Proofs.YtpgifpeohlllfaaGreat.KW.aI a0 k0:=Array.toList_inj.1 aec;obtain⟨n1,rfl,rfl,rfl,w1⟩:=open_int Tryz.underlying3 (hval 1 3 v1 rfl rfl) h1;have i1:=Go.Proofs.YtpgifpeohlllfaaGreat.W.mN _ w1;clear MW Vb;refine(Go.Proofs.YtpgifpeohlllfaaGreat.KL.Mc Go.Proofs.YtpgifpeohlllfaaGreat.KY.Cl k0 a0 n1 W L3 Vn i1 Go.Proofs.YtpgifpeohlllfaaGreat.KG.Mx).mono fun e W' ⟨he,Ak⟩=>?_
 subst he;exact⟨_,rfl,_,_,_,[],_,[],hW',trodAll_mk1 (shut_bool Tryz.underlying4 _),(trodAll_cons_mk (Below.trod laidOut (by kernel_rfl) (of_decide_eq_true (by kernel_rfl)) g0 Ak lt0) (trodAll_cons_mk (shut_int Tryz.underlying3 w1) trodAll_mk0)),rfl,Ak.frame _,fun h=>by cases h⟩
theorem over:Rows.kernelForksRow.holds Tryz.pinned (OpenSpec.ofChange Rows.kernelForksSpec) :=
 OpenClaim.holds_of_wide 9 Tryz.f9 rfl rfl rfl rfl rfl rfl rfl ⟨rfl,rfl,rfl,rfl,rfl⟩ rfl rfl rfl rfl rfl (by kernel_rfl) Tryz.func9 (by kernel_rfl)
  (of_decide_eq_true (by kernel_rfl)) (by unfold Func.isWrapper;first | (rw[if_pos (by decide +kernel)];kernel_rfl) | (rw[if_neg (by decide +kernel)];exact⟨rfl,rfl⟩))
  (fun os started H enc _=>lifted os started H enc)
end Go.Proofs.YtpgifpeohlllfaaGreat.vZ
namespace Go.Proofs.YtpgifpeohlllfaaGreat
theorem kernelForks_holds:Rows.KernelForksSaid:=vZ.over
#print axioms kernelForks_holds
end Go.Proofs.YtpgifpeohlllfaaGreat
