/- KernelStores: for every kernel, space, address and string the call returns true (Store answers what the document says, faults and errors too), and the arguments read as they did; no condition beyond the form's own reach. -/
import Derived.Test.YtpgifpeohlllfaaGreatRows
import Derived.ShutString
import Derived.Test.YtpgifpeohlllfaaGreatGV40
import Derived.Test.YtpgifpeohlllfaaGreatGV34
import Derived.Test.YtpgifpeohlllfaaGreatGV35
namespace Go.Proofs.YtpgifpeohlllfaaGreat
open Go.ChangeShapes Go.WideShapes Go.ChangeAt Go.RowKit Go.Proofs.YtpgifpeohlllfaaGreat.Go.Proofs.YtpgifpeohlllfaaGreat
open Go.ChangeMaps (open_string shut_string)
set_option linter.unusedVariables false
set_option maxRecDepth 100000
theorem KR:ownKnob Tryz.prog.godebug=none:=by kernel_rfl
theorem DZ:laidOutB Tryz.prog=true:=by kernel_rfl
theorem Ga (os:Os) (started:os.Started) (H:Type) (enc:TypeId×Value->H) :
  ReturnsInHanded {} Tryz.checked os 6 .any (Rows.kernelStoresSpec.pre6 enc Tryz.prog Tryz.f6 Rows.kernelStoresRow.domain false) (Rows.kernelStoresSpec.post enc Tryz.prog Tryz.f6 false true false false):=by
 refine Uc (C:=Tryz.checked) KR started (by kernel_rfl) Tryz.func6
  (T3 (enc:=enc) (C:=Tryz.checked) false ⟨#[],#[.agg #[Nl,Nl,Nl,Nl,I 0],I 0,I 0,.string ⟨#[]⟩],[]⟩ 8 (by kernel_rfl) (by kernel_rfl) (by kernel_rfl) (by kernel_rfl)) ?_
 intro W base args ds gs before LX hW hcnd ad7 _;have hval:∀(j:Nat) t v,Tryz.f6.params[j]?=some t->args[j]?=some v->Value.okWide Tryz.prog W .any base t v:=LX;have hsz:(DataW.weightsEach Tryz.prog (Tryz.f6.params.toList++Rows.kernelStoresSpec.plain.varTypes Tryz.prog) (ds++gs)).all (·<=reachBytes)=true:=ad7;have hW':=hW;obtain⟨p,q,WJ,hV,rfl,hfz,hnd⟩:=hW;have hA:DataW.TrodAll enc Tryz.prog W 0 (fun _=>true) true Tryz.f6.params.toList args.toList ds p:=WJ;rw[Tryz.params6] at hA hval hsz;obtain⟨v0,vs0,d0,ds0,p0,q0,hargs,rfl,rfl,h0,r0⟩:=trodAll_cons hA;obtain⟨v1,vs1,d1,ds1,p1,q1,rfl,rfl,rfl,h1,r1⟩:=trodAll_cons r0;obtain⟨v2,vs2,d2,ds2,p2,q2,rfl,rfl,rfl,h2,r2⟩:=trodAll_cons r1;obtain⟨v3,vs3,d3,ds3,p3,q3,rfl,rfl,rfl,h3,r3⟩:=trodAll_cons r2;obtain⟨rfl,rfl,rfl⟩:=trodAll_nil r3;obtain rfl:args=#[v0,v1,v2,v3]:=by cases args;simp_all
 obtain⟨rfl,rfl⟩:=trodVars_none hV;obtain⟨cs0,rfl,alR⟩:=okWide_struct Tryz.underlying27 (hval 0 27 v0 rfl rfl);have g0:=h0;have lt0:∀x∈p0,x.block<W.heap.size:=by obtain⟨m,hm⟩:=g0;exact DataW.trod_lt m _ _ _ hm
 obtain⟨aib,ael⟩:=h0;obtain⟨k0,a0,aeq,Xg,Ov⟩:=y8 ael (fun n hn=>by simpa using uw.1 hsz _ (Ub (j:=0) (t:=27) rfl rfl n hn));obtain rfl:cs0=aT a0 k0:=Im.1 aeq;obtain⟨n1,rfl,rfl,rfl,w1⟩:=open_int Tryz.underlying3 (hval 1 3 v1 rfl rfl) h1;have i1:=pO _ w1;obtain⟨n2,rfl,rfl,rfl,w2⟩:=open_int Tryz.underlying3 (hval 2 3 v2 rfl rfl) h2;have i2:=pO _ w2;obtain⟨s3,rfl,rfl,rfl,w3⟩:=open_string Tryz.underlying9 (hval 3 9 v3 rfl rfl) h3;clear WJ LX;refine(R9 wW k0 a0 n1 n2 s3 W Xg Ov i1 i2 De).mono fun e W' ⟨he,L9⟩=>?_
 subst he;exact⟨_,rfl,_,_,_,[],_,[],hW',trodAll_mk1 (shut_bool Tryz.underlying4 _),(trodAll_cons_mk (Below.trod DZ (by kernel_rfl) (jH (by kernel_rfl)) g0 L9 lt0) (trodAll_cons_mk (shut_int Tryz.underlying3 w1) (trodAll_cons_mk (shut_int Tryz.underlying3 w2) (trodAll_cons_mk (shut_string Tryz.underlying9 w3) trodAll_mk0)))),rfl,L9.frame _,fun h=>by cases h⟩
theorem Iy:Rows.kernelStoresRow.holds Tryz.pinned (OpenSpec.ofChange Rows.kernelStoresSpec) :=
 OpenClaim.holds_of_wide 6 Tryz.f6 rfl rfl rfl rfl rfl rfl rfl ⟨rfl,rfl,rfl,rfl,rfl⟩ rfl rfl rfl rfl rfl (by kernel_rfl) Tryz.func6 (by kernel_rfl)
  (jH (by kernel_rfl)) (by unfold Func.isWrapper;first | (rw[bf (by decide +kernel)];kernel_rfl) | (rw[bl (by decide +kernel)];exact⟨rfl,rfl⟩))
  (fun os started H enc _=>Ga os started H enc)
end Go.Proofs.YtpgifpeohlllfaaGreat
namespace Go.Proofs.YtpgifpeohlllfaaGreat
theorem kernelStores_holds:Rows.KernelStoresSaid:=Iy
#print axioms kernelStores_holds
end Go.Proofs.YtpgifpeohlllfaaGreat
