/- RestKernels: for every kernel, space, address, size, way and linked program the call returns true (what came, and was changed, changes nothing that was handed in, nor what comes next), and the arguments read as they did; no condition beyond the form's own reach. -/
import Derived.Test.YtpgifpeohlllfaaGreatRows
import Derived.ShutString
import Derived.Test.YtpgifpeohlllfaaGreatGR39
namespace Go.Proofs.YtpgifpeohlllfaaGreat
open Go.ChangeShapes Go.WideShapes Go.ChangeAt Go.RowKit
open Go.ChangeMaps (open_string shut_string)
set_option linter.unusedVariables false
set_option maxRecDepth 100000
theorem Jx:ownKnob Tryz.prog.godebug=none:=by kernel_rfl
theorem uZ:laidOutB Tryz.prog=true:=by kernel_rfl
theorem Ed (os:Os) (started:os.Started) (H:Type) (enc:TypeId×Value->H) :
  ReturnsInHanded {} Tryz.checked os 3 .any (Rows.restKernelsSpec.pre6 enc Tryz.prog Tryz.f3 Rows.restKernelsRow.domain false) (Rows.restKernelsSpec.post enc Tryz.prog Tryz.f3 false true false false):=by
 refine returnsInHanded_of_change_sized (C:=Tryz.checked) Jx started (by kernel_rfl) Tryz.func3
  (ChangeSpec.witness6 (enc:=enc) (C:=Tryz.checked) false ⟨#[],#[.agg #[Nl,Nl,Nl,Nl,I 0],I 0,I 0,I 0,I 0,.agg #[Nl,Nl,I 0]],[]⟩ 8 (by kernel_rfl) (by kernel_rfl) (by kernel_rfl) (by kernel_rfl)) ?_
 intro W base args ds gs before adI hW hcnd alm _;have hval:∀(j:Nat) t v,Tryz.f3.params[j]?=some t->args[j]?=some v->Value.okWide Tryz.prog W .any base t v:=adI;have hsz:(DataW.weightsEach Tryz.prog (Tryz.f3.params.toList++Rows.restKernelsSpec.plain.varTypes Tryz.prog) (ds++gs)).all (·<=reachBytes)=true:=alm;have hW':=hW;obtain⟨p,q,hA0,hV,rfl,hfz,hnd⟩:=hW;have hA:DataW.TrodAll enc Tryz.prog W 0 (fun _=>true) true Tryz.f3.params.toList args.toList ds p:=hA0;rw[Tryz.params3] at hA hval hsz;obtain⟨v0,vs0,d0,ds0,p0,q0,hargs,rfl,rfl,h0,r0⟩:=trodAll_cons hA;obtain⟨v1,vs1,d1,ds1,p1,q1,rfl,rfl,rfl,h1,r1⟩:=trodAll_cons r0;obtain⟨v2,vs2,d2,ds2,p2,q2,rfl,rfl,rfl,h2,r2⟩:=trodAll_cons r1;obtain⟨v3,vs3,d3,ds3,p3,q3,rfl,rfl,rfl,h3,r3⟩:=trodAll_cons r2;obtain⟨v4,vs4,d4,ds4,p4,q4,rfl,rfl,rfl,h4,r4⟩:=trodAll_cons r3;obtain⟨v5,vs5,d5,ds5,p5,q5,rfl,rfl,rfl,h5,r5⟩:=trodAll_cons r4;obtain⟨rfl,rfl,rfl⟩:=trodAll_nil r5;obtain rfl:args=#[v0,v1,v2,v3,v4,v5]:=by cases args;simp_all
 obtain⟨rfl,rfl⟩:=trodVars_none hV;obtain⟨cs0,rfl,asD⟩:=okWide_struct Tryz.underlying27 (hval 0 27 v0 rfl rfl);have g0:=h0;have lt0:∀x∈p0,x.block<W.heap.size:=by obtain⟨m,hm⟩:=g0;exact DataW.trod_lt m _ _ _ hm
 obtain⟨apU,alT⟩:=h0;obtain⟨k0,a0,al1,YU,Vw⟩:=Ms alT (fun n hn=>by simpa using tZ.1 hsz _ (XX (j:=0) (t:=27) rfl rfl n hn));obtain rfl:cs0=bg a0 k0:=PT.1 al1;obtain⟨n1,rfl,rfl,rfl,w1⟩:=open_int Tryz.underlying3 (hval 1 3 v1 rfl rfl) h1;have i1:=uD _ w1;obtain⟨n2,rfl,rfl,rfl,w2⟩:=open_int Tryz.underlying3 (hval 2 3 v2 rfl rfl) h2;have i2:=uD _ w2;obtain⟨n3,rfl,rfl,rfl,w3⟩:=open_int Tryz.underlying3 (hval 3 3 v3 rfl rfl) h3;have i3:=uD _ w3;obtain⟨n4,rfl,rfl,rfl,w4⟩:=open_int Tryz.underlying3 (hval 4 3 v4 rfl rfl) h4;have i4:=uD _ w4;obtain⟨cs5,rfl,asC⟩:=okWide_struct Tryz.underlying30 (hval 5 30 v5 rfl rfl);have g5:=h5;have lt5:∀x∈p5,x.block<W.heap.size:=by obtain⟨m,hm⟩:=g5;exact DataW.trod_lt m _ _ _ hm
 obtain⟨apT,alS⟩:=h5;obtain⟨l5,hs5,en5,va5,ah5,ch5,al0,b1,b2,b3,b4,b5,b6⟩:=K7 alS (fun n hn=>by simpa using tZ.1 hsz _ (XX (j:=5) (t:=30) rfl rfl n hn));obtain⟨aa5,na5,ca5,rfl⟩:=Sb b1;obtain rfl:cs5=#[.slice aa5 na5 ca5,.slice ah5 hs5.length ch5,I en5]:=PT.1 al0;clear hA0 adI;refine(Ul ze k0 a0 n1 n2 n3 n4 l5 hs5 en5 aa5 ah5 na5 ca5 ch5 W YU Vw i1 i2 b1 b2 b3 b4 b5 b6 RU).mono fun e W' ⟨he,Nf⟩=>?_
 subst he;exact⟨_,rfl,_,_,_,[],_,[],hW',trodAll_mk1 (shut_bool Tryz.underlying4 _),(trodAll_cons_mk (Below.trod uZ (by kernel_rfl) (kr (by kernel_rfl)) g0 Nf lt0) (trodAll_cons_mk (shut_int Tryz.underlying3 w1) (trodAll_cons_mk (shut_int Tryz.underlying3 w2) (trodAll_cons_mk (shut_int Tryz.underlying3 w3) (trodAll_cons_mk (shut_int Tryz.underlying3 w4) (trodAll_cons_mk (Below.trod uZ (by kernel_rfl) (kr (by kernel_rfl)) g5 Nf lt5) trodAll_mk0)))))),rfl,Nf.frame _,fun h=>by cases h⟩
theorem Hj:Rows.restKernelsRow.holds Tryz.pinned (OpenSpec.ofChange Rows.restKernelsSpec) :=
 OpenClaim.holds_of_wide 3 Tryz.f3 rfl rfl rfl rfl rfl rfl rfl ⟨rfl,rfl,rfl,rfl,rfl⟩ rfl rfl rfl rfl rfl (by kernel_rfl) Tryz.func3 (by kernel_rfl)
  (kr (by kernel_rfl)) (by unfold Func.isWrapper;first | (rw[aR (by decide +kernel)];kernel_rfl) | (rw[bf (by decide +kernel)];exact⟨rfl,rfl⟩))
  (fun os started H enc _=>Ed os started H enc)
end Go.Proofs.YtpgifpeohlllfaaGreat
namespace Go.Proofs.YtpgifpeohlllfaaGreat
theorem restKernels_holds:Rows.RestKernelsSaid:=Hj
#print axioms restKernels_holds
end Go.Proofs.YtpgifpeohlllfaaGreat
