/- KernelStarts: for every linked program, numbers of frames and slots, and kernel the call returns true (New and Check answer what the document says, errors too), and the arguments read as they did; no condition beyond the form's own reach. -/
import Derived.Test.YtpgifpeohlllfaaGreatRows
import Derived.ShutString
import Derived.Test.YtpgifpeohlllfaaGreatGS40
namespace Go.Proofs.YtpgifpeohlllfaaGreat.tC
open Go.ChangeShapes Go.WideShapes Go.ChangeAt Go.RowKit
open Go.ChangeMaps (open_string shut_string)
set_option linter.unusedVariables false
set_option maxRecDepth 100000
theorem own:ownKnob Tryz.prog.godebug=none:=by kernel_rfl
theorem laidOut:laidOutB Tryz.prog=true:=by kernel_rfl
theorem lifted (os:Os) (started:os.Started) (H:Type) (enc:TypeId×Value->H) :
  ReturnsInHanded {} Tryz.checked os 4 .any (Rows.kernelStartsSpec.pre6 enc Tryz.prog Tryz.f4 Rows.kernelStartsRow.domain false) (Rows.kernelStartsSpec.post enc Tryz.prog Tryz.f4 false true false false):=by
 refine returnsInHanded_of_change_sized (C:=Tryz.checked) own started (by kernel_rfl) Tryz.func4
  (ChangeSpec.witness6 (enc:=enc) (C:=Tryz.checked) false ⟨#[],#[.agg #[Nl,Nl,I 0],I 0,I 0,.agg #[Nl,Nl,Nl,Nl,I 0]],[]⟩ 8 (by kernel_rfl) (by kernel_rfl) (by kernel_rfl) (by kernel_rfl)) ?_
 intro W base args ds gs before Ty hW hcnd abV _
 have hval:∀(j:Nat) t v,Tryz.f4.params[j]?=some t->args[j]?=some v->Value.okWide Tryz.prog W .any base t v:=Ty
 have hsz:(DataW.weightsEach Tryz.prog (Tryz.f4.params.toList++Rows.kernelStartsSpec.plain.varTypes Tryz.prog) (ds++gs)).all (·<=reachBytes)=true:=abV
 have hW':=hW
 obtain⟨p,q,Vs,hV,rfl,hfz,hnd⟩:=hW
 have hA:DataW.TrodAll enc Tryz.prog W 0 (fun _=>true) true Tryz.f4.params.toList args.toList ds p:=Vs
 rw[Tryz.params4] at hA hval hsz
 obtain⟨v0,vs0,d0,ds0,p0,q0,hargs,rfl,rfl,h0,r0⟩:=trodAll_cons hA
 obtain⟨v1,vs1,d1,ds1,p1,q1,rfl,rfl,rfl,h1,r1⟩:=trodAll_cons r0
 obtain⟨v2,vs2,d2,ds2,p2,q2,rfl,rfl,rfl,h2,r2⟩:=trodAll_cons r1
 obtain⟨v3,vs3,d3,ds3,p3,q3,rfl,rfl,rfl,h3,r3⟩:=trodAll_cons r2
 obtain⟨rfl,rfl,rfl⟩:=trodAll_nil r3
 obtain rfl:args=#[v0,v1,v2,v3]:=by cases args;simp_all
 obtain⟨rfl,rfl⟩:=trodVars_none hV
 obtain⟨cs0,rfl,aiK⟩:=okWide_struct Tryz.underlying30 (hval 0 30 v0 rfl rfl)
 have g0:=h0
 have lt0:∀x∈p0,x.block<W.heap.size:=by obtain⟨m,hm⟩:=g0;exact DataW.trod_lt m _ _ _ hm
 obtain⟨agd,aco⟩:=h0
 obtain⟨l0,hs0,jI,va0,ah0,ch0,acz,b1,b2,b3,b4,b5,b6⟩:=Go.Proofs.YtpgifpeohlllfaaGreat.LW.Ea aco (fun n hn=>by simpa using List.all_eq_true.1 hsz _ (DataW.weights_mem_each (j:=0) (t:=30) rfl rfl n hn))
 obtain⟨aa0,UI,ca0,rfl⟩:=Go.Proofs.YtpgifpeohlllfaaGreat.FW.KN b1
 obtain rfl:cs0=#[.slice aa0 UI ca0,.slice ah0 hs0.length ch0,I jI]:=Array.toList_inj.1 acz
 obtain⟨n1,rfl,rfl,rfl,w1⟩:=open_int Tryz.underlying3 (hval 1 3 v1 rfl rfl) h1
 have i1:=Go.Proofs.YtpgifpeohlllfaaGreat.W.ku _ w1
 obtain⟨n2,rfl,rfl,rfl,w2⟩:=open_int Tryz.underlying3 (hval 2 3 v2 rfl rfl) h2
 have i2:=Go.Proofs.YtpgifpeohlllfaaGreat.W.ku _ w2
 obtain⟨cs3,rfl,aiJ⟩:=okWide_struct Tryz.underlying27 (hval 3 27 v3 rfl rfl)
 have g3:=h3
 have lt3:∀x∈p3,x.block<W.heap.size:=by obtain⟨m,hm⟩:=g3;exact DataW.trod_lt m _ _ _ hm
 obtain⟨agc,acn⟩:=h3
 obtain⟨k3,a3,acy,hk3,hf3⟩:=Go.Proofs.YtpgifpeohlllfaaGreat.KA.Eb acn (fun n hn=>by simpa using List.all_eq_true.1 hsz _ (DataW.weights_mem_each (j:=3) (t:=27) rfl rfl n hn))
 obtain rfl:cs3=Go.Proofs.YtpgifpeohlllfaaGreat.KW.aJ a3 k3:=Array.toList_inj.1 acy
 clear Vs Ty
 refine(Go.Proofs.YtpgifpeohlllfaaGreat.KL.Gd Go.Proofs.YtpgifpeohlllfaaGreat.KY.Bq l0 hs0 jI n1 n2 aa0 ah0 UI ca0 ch0 k3 a3 W b1 b2 b3 b4 b5 b6 hk3 hf3 Go.Proofs.YtpgifpeohlllfaaGreat.KG.LJ).mono fun e W' ⟨he,zq⟩=>?_
 subst he
 exact⟨_,rfl,_,_,_,[],_,[],hW',trodAll_mk1 (shut_bool Tryz.underlying4 _),(trodAll_cons_mk (Below.trod laidOut (by kernel_rfl) (of_decide_eq_true (by kernel_rfl)) g0 zq lt0) (trodAll_cons_mk (shut_int Tryz.underlying3 w1) (trodAll_cons_mk (shut_int Tryz.underlying3 w2) (trodAll_cons_mk (Below.trod laidOut (by kernel_rfl) (of_decide_eq_true (by kernel_rfl)) g3 zq lt3) trodAll_mk0)))),rfl,zq.frame _,fun h=>by cases h⟩
theorem over:Rows.kernelStartsRow.holds Tryz.pinned (OpenSpec.ofChange Rows.kernelStartsSpec) :=
 OpenClaim.holds_of_wide 4 Tryz.f4 rfl rfl rfl rfl rfl rfl rfl ⟨rfl,rfl,rfl,rfl,rfl⟩ rfl rfl rfl rfl rfl (by kernel_rfl) Tryz.func4 (by kernel_rfl)
  (of_decide_eq_true (by kernel_rfl)) (by unfold Func.isWrapper;first | (rw[if_pos (by decide +kernel)];kernel_rfl) | (rw[if_neg (by decide +kernel)];exact⟨rfl,rfl⟩))
  (fun os started H enc _=>lifted os started H enc)
end Go.Proofs.YtpgifpeohlllfaaGreat.tC
namespace Go.Proofs.YtpgifpeohlllfaaGreat
theorem kernelStarts_holds:Rows.KernelStartsSaid:=tC.over
#print axioms kernelStarts_holds
end Go.Proofs.YtpgifpeohlllfaaGreat
