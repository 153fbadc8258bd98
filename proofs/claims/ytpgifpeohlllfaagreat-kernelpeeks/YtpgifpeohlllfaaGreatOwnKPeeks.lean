/- KernelPeeks: for every kernel, space and page the call returns true (Peek answers what the document says, errors too), and the arguments read as they did; no condition beyond the form's own reach. -/
import Derived.Test.YtpgifpeohlllfaaGreatGP00
import Derived.Test.YtpgifpeohlllfaaGreatRows
import Derived.WalkKit
import Derived.ProofKit
import Derived.OpenShut
import Derived.ShutString
import Derived.ChangeOld
import Derived.SizedLaws
import Derived.Below
import Derived.Test.YtpgifpeohlllfaaGreatGP29
import Derived.Test.YtpgifpeohlllfaaGreatGP36
import Derived.Test.YtpgifpeohlllfaaGreatGP35
namespace Go.Proofs.YtpgifpeohlllfaaGreat.uh
open Go.ChangeShapes Go.WideShapes Go.ChangeAt Go.RowKit
open Go.ChangeMaps (open_string shut_string)
set_option linter.unusedVariables false
set_option maxRecDepth 100000
theorem own:ownKnob Tryz.prog.godebug=none:=by kernel_rfl
theorem laidOut:laidOutB Tryz.prog=true:=by kernel_rfl
theorem lifted (os:Os) (started:os.Started) (H:Type) (enc:TypeId×Value->H) :
  ReturnsInHanded {} Tryz.checked os 7 .any (Rows.kernelPeeksSpec.pre6 enc Tryz.prog Tryz.f7 Rows.kernelPeeksRow.domain false) (Rows.kernelPeeksSpec.post enc Tryz.prog Tryz.f7 false true false false):=by
 refine returnsInHanded_of_change_sized (C:=Tryz.checked) own started (by kernel_rfl) Tryz.func7
  (ChangeSpec.witness6 (enc:=enc) (C:=Tryz.checked) false ⟨#[],#[.agg #[Nl,Nl,Nl,Nl,I 0],I 0,I 0],[]⟩ 8 (by kernel_rfl) (by kernel_rfl) (by kernel_rfl) (by kernel_rfl)) ?_
 intro W base args ds gs before QV hW hcnd Zf _
 have hval:∀(j:Nat) t v,Tryz.f7.params[j]?=some t->args[j]?=some v->Value.okWide Tryz.prog W .any base t v:=QV
 have hsz:(DataW.weightsEach Tryz.prog (Tryz.f7.params.toList++Rows.kernelPeeksSpec.plain.varTypes Tryz.prog) (ds++gs)).all (·<=reachBytes)=true:=Zf
 have hW':=hW
 obtain⟨p,q,Td,hV,rfl,hfz,hnd⟩:=hW
 have hA:DataW.TrodAll enc Tryz.prog W 0 (fun _=>true) true Tryz.f7.params.toList args.toList ds p:=Td
 rw[Tryz.params7] at hA hval hsz
 obtain⟨v0,vs0,d0,ds0,p0,q0,hargs,rfl,rfl,h0,r0⟩:=trodAll_cons hA
 obtain⟨v1,vs1,d1,ds1,p1,q1,rfl,rfl,rfl,h1,r1⟩:=trodAll_cons r0
 obtain⟨v2,vs2,d2,ds2,p2,q2,rfl,rfl,rfl,h2,r2⟩:=trodAll_cons r1
 obtain⟨rfl,rfl,rfl⟩:=trodAll_nil r2
 obtain rfl:args=#[v0,v1,v2]:=by cases args;simp_all
 obtain⟨rfl,rfl⟩:=trodVars_none hV
 obtain⟨cs0,rfl,ae4⟩:=okWide_struct Tryz.underlying27 (hval 0 27 v0 rfl rfl)
 have g0:=h0
 have lt0:∀x∈p0,x.block<W.heap.size:=by obtain⟨m,hm⟩:=g0;exact DataW.trod_lt m _ _ _ hm
 obtain⟨acS,ZI⟩:=h0
 obtain⟨k0,a0,ZR,JZ,Q8⟩:=Go.Proofs.YtpgifpeohlllfaaGreat.KA.CC ZI (fun n hn=>by simpa using List.all_eq_true.1 hsz _ (DataW.weights_mem_each (j:=0) (t:=27) rfl rfl n hn))
 obtain rfl:cs0=Go.Proofs.YtpgifpeohlllfaaGreat.KW.aH a0 k0:=Array.toList_inj.1 ZR
 obtain⟨n1,rfl,rfl,rfl,w1⟩:=open_int Tryz.underlying3 (hval 1 3 v1 rfl rfl) h1
 have i1:=Go.Proofs.YtpgifpeohlllfaaGreat.W.kG _ w1
 obtain⟨n2,rfl,rfl,rfl,w2⟩:=open_int Tryz.underlying3 (hval 2 3 v2 rfl rfl) h2
 have i2:=Go.Proofs.YtpgifpeohlllfaaGreat.W.kG _ w2
 clear Td QV
 refine(Go.Proofs.YtpgifpeohlllfaaGreat.KL.Ir k0 a0 n1 n2 W JZ Q8 i1 Go.Proofs.YtpgifpeohlllfaaGreat.KG.JH).mono fun e W' ⟨he,JG⟩=>?_
 subst he
 exact⟨_,rfl,_,_,_,[],_,[],hW',trodAll_mk1 (shut_bool Tryz.underlying4 _),(trodAll_cons_mk (Below.trod laidOut (by kernel_rfl) (of_decide_eq_true (by kernel_rfl)) g0 JG lt0) (trodAll_cons_mk (shut_int Tryz.underlying3 w1) (trodAll_cons_mk (shut_int Tryz.underlying3 w2) trodAll_mk0))),rfl,JG.frame _,fun h=>by cases h⟩
theorem over:Rows.kernelPeeksRow.holds Tryz.pinned (OpenSpec.ofChange Rows.kernelPeeksSpec) :=
 OpenClaim.holds_of_wide 7 Tryz.f7 rfl rfl rfl rfl rfl rfl rfl ⟨rfl,rfl,rfl,rfl,rfl⟩ rfl rfl rfl rfl rfl (by kernel_rfl) Tryz.func7 (by kernel_rfl)
  (of_decide_eq_true (by kernel_rfl)) (by unfold Func.isWrapper;first | (rw[if_pos (by decide +kernel)];kernel_rfl) | (rw[if_neg (by decide +kernel)];exact⟨rfl,rfl⟩))
  (fun os started H enc _=>lifted os started H enc)
end Go.Proofs.YtpgifpeohlllfaaGreat.uh
namespace Go.Proofs.YtpgifpeohlllfaaGreat
theorem kernelPeeks_holds:Rows.KernelPeeksSaid:=uh.over
#print axioms kernelPeeks_holds
end Go.Proofs.YtpgifpeohlllfaaGreat
