/- MachineRight: for every linked program, numbers of frames and slots, picks and place of a cut the call returns true (what comes of a run is right, and a run in two parts comes to what the whole comes to), and the arguments read as they did; no condition beyond the form's own reach. -/
import Derived.Test.YtlgoihmkgaaemaaGreatRows
import Derived.ShutString
import Derived.Test.YtlgoihmkgaaemaaGreatGN40
namespace Go.Proofs.YtlgoihmkgaaemaaGreat
open Go.ChangeShapes Go.WideShapes Go.ChangeAt Go.RowKit
open Go.ChangeMaps (open_string shut_string)
set_option linter.unusedVariables false
set_option maxRecDepth 100000
theorem L8:ownKnob Tryz.prog.godebug=none:=by kernel_rfl
theorem yl:laidOutB Tryz.prog=true:=by kernel_rfl
theorem Hs (os:Os) (started:os.Started) (H:Type) (enc:TypeId×Value->H) :
  ReturnsInHanded {} Tryz.checked os 8 .any (Rows.machineRightSpec.pre6 enc Tryz.prog Tryz.f8 Rows.machineRightRow.domain false) (Rows.machineRightSpec.post enc Tryz.prog Tryz.f8 false true false false):=by
 refine returnsInHanded_of_change_sized (C:=Tryz.checked) L8 started (by kernel_rfl) Tryz.func8
  (ChangeSpec.witness6 (enc:=enc) (C:=Tryz.checked) false ⟨#[],#[.agg #[Nl,Nl,I 0],I 0,I 0,Nl,I 0],[]⟩ 8 (by kernel_rfl) (by kernel_rfl) (by kernel_rfl) (by kernel_rfl)) ?_
 intro W base args ds gs before ai6 hW hcnd apT _;have hval:∀(j:Nat) t v,Tryz.f8.params[j]?=some t->args[j]?=some v->Value.okWide Tryz.prog W .any base t v:=ai6;have hsz:(DataW.weightsEach Tryz.prog (Tryz.f8.params.toList++Rows.machineRightSpec.plain.varTypes Tryz.prog) (ds++gs)).all (·<=reachBytes)=true:=apT;have hW':=hW;obtain⟨p,q,hA0,hV,rfl,hfz,hnd⟩:=hW;have hA:DataW.TrodAll enc Tryz.prog W 0 (fun _=>true) true Tryz.f8.params.toList args.toList ds p:=hA0;rw[Tryz.params8] at hA hval hsz;obtain⟨v0,vs0,d0,ds0,p0,q0,hargs,rfl,rfl,h0,r0⟩:=trodAll_cons hA;obtain⟨v1,vs1,d1,ds1,p1,q1,rfl,rfl,rfl,h1,r1⟩:=trodAll_cons r0;obtain⟨v2,vs2,d2,ds2,p2,q2,rfl,rfl,rfl,h2,r2⟩:=trodAll_cons r1;obtain⟨v3,vs3,d3,ds3,p3,q3,rfl,rfl,rfl,h3,r3⟩:=trodAll_cons r2;obtain⟨v4,vs4,d4,ds4,p4,q4,rfl,rfl,rfl,h4,r4⟩:=trodAll_cons r3;obtain⟨rfl,rfl,rfl⟩:=trodAll_nil r4;obtain rfl:args=#[v0,v1,v2,v3,v4]:=by cases args;simp_all
 obtain⟨rfl,rfl⟩:=trodVars_none hV;obtain⟨cs0,rfl,av3⟩:=okWide_struct Tryz.underlying25 (hval 0 25 v0 rfl rfl);have g0:=h0;have lt0:∀x∈p0,x.block<W.heap.size:=by obtain⟨m,hm⟩:=g0;exact DataW.trod_lt m _ _ _ hm
 obtain⟨atP,aqs⟩:=h0;obtain⟨l0,hs0,en0,va0,ah0,ch0,aqz,b1,b2,b3,b4,b5,b6⟩:=Qf aqs (fun n hn=>by simpa using qa.1 hsz _ (acW (j:=0) (t:=25) rfl rfl n hn));obtain⟨aa0,na0,ca0,rfl⟩:=Xt b1;obtain rfl:cs0=#[.slice aa0 na0 ca0,.slice ah0 hs0.length ch0,I en0]:=Array.toList_inj.1 aqz;obtain⟨n1,rfl,rfl,rfl,w1⟩:=open_int Tryz.underlying3 (hval 1 3 v1 rfl rfl) h1;have i1:=zM _ w1;obtain⟨n2,rfl,rfl,rfl,w2⟩:=open_int Tryz.underlying3 (hval 2 3 v2 rfl rfl) h2;have i2:=zM _ w2;obtain⟨ap3,au5,cp3,rfl⟩:=okWide_slice Tryz.underlying48 (hval 3 48 v3 rfl rfl);have g3:=h3;have lt3:∀x∈p3,x.block<W.heap.size:=by obtain⟨m,hm⟩:=g3;exact DataW.trod_lt m _ _ _ hm
 obtain⟨atO,aqr⟩:=h3;obtain⟨pk3,ap8,hn3,hl3,hc3⟩:=Xd aqr (fun n hn=>by simpa using qa.1 hsz _ (acW (j:=3) (t:=48) rfl rfl n hn));subst ap8;obtain⟨n4,rfl,rfl,rfl,w4⟩:=open_int Tryz.underlying3 (hval 4 3 v4 rfl rfl) h4;have i4:=zM _ w4;clear hA0 ai6;refine(WY l0 hs0 en0 n1 n2 n4 aa0 ah0 na0 ca0 ch0 pk3 ap3 cp3 W b1 b2 b3 b4 b5 b6 hn3 (aci hn3) hl3 hc3 i4 W9).mono fun e W' ⟨he,bel⟩=>?_
 subst he;exact⟨_,rfl,_,_,_,[],_,[],hW',trodAll_mk1 (shut_bool Tryz.underlying4 _),(trodAll_cons_mk (Below.trod yl (by kernel_rfl) (oP (by kernel_rfl)) g0 bel lt0) (trodAll_cons_mk (shut_int Tryz.underlying3 w1) (trodAll_cons_mk (shut_int Tryz.underlying3 w2) (trodAll_cons_mk (Below.trod yl (by kernel_rfl) (oP (by kernel_rfl)) g3 bel lt3) (trodAll_cons_mk (shut_int Tryz.underlying3 w4) trodAll_mk0))))),rfl,bel.frame _,fun h=>by cases h⟩
theorem JN:Rows.machineRightRow.holds Tryz.pinned (OpenSpec.ofChange Rows.machineRightSpec) :=
 OpenClaim.holds_of_wide 8 Tryz.f8 rfl rfl rfl rfl rfl rfl rfl ⟨rfl,rfl,rfl,rfl,rfl⟩ rfl rfl rfl rfl rfl (by kernel_rfl) Tryz.func8 (by kernel_rfl)
  (oP (by kernel_rfl)) (by unfold Func.isWrapper;first | (rw[aC (by decide +kernel)];kernel_rfl) | (rw[aA (by decide +kernel)];exact⟨rfl,rfl⟩))
  (fun os started H enc _=>Hs os started H enc)
end Go.Proofs.YtlgoihmkgaaemaaGreat
namespace Go.Proofs.YtlgoihmkgaaemaaGreat
theorem machineRight_holds:Rows.MachineRightSaid:=JN
#print axioms machineRight_holds
end Go.Proofs.YtlgoihmkgaaemaaGreat
