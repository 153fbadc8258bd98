/- MachineFrames: for every linked program, two numbers of frames, number of slots and picks the call returns true (how many frames there are changes nothing of what processes come to), and the arguments read as they did; no condition beyond the form's own reach. -/
import Derived.Test.YtlgoihmkgaaemaaGreatRows
import Derived.ShutString
import Derived.Test.YtlgoihmkgaaemaaGreatGM39
namespace Go.Proofs.YtlgoihmkgaaemaaGreat
open Go.ChangeShapes Go.WideShapes Go.ChangeAt Go.RowKit
open Go.ChangeMaps (open_string shut_string)
set_option linter.unusedVariables false
set_option maxRecDepth 100000
theorem Jw:ownKnob Tryz.prog.godebug=none:=by kernel_rfl
theorem wF:laidOutB Tryz.prog=true:=by kernel_rfl
theorem EZ (os:Os) (started:os.Started) (H:Type) (enc:TypeId×Value->H) :
  ReturnsInHanded {} Tryz.checked os 7 .any (Rows.machineFramesSpec.pre6 enc Tryz.prog Tryz.f7 Rows.machineFramesRow.domain false) (Rows.machineFramesSpec.post enc Tryz.prog Tryz.f7 false true false false):=by
 refine returnsInHanded_of_change_sized (C:=Tryz.checked) Jw started (by kernel_rfl) Tryz.func7
  (ChangeSpec.witness6 (enc:=enc) (C:=Tryz.checked) false ⟨#[],#[.agg #[Nl,Nl,I 0],I 0,I 0,I 0,Nl],[]⟩ 8 (by kernel_rfl) (by kernel_rfl) (by kernel_rfl) (by kernel_rfl)) ?_
 intro W base args ds gs before ahZ hW hcnd an0 _;have hval:∀(j:Nat) t v,Tryz.f7.params[j]?=some t->args[j]?=some v->Value.okWide Tryz.prog W .any base t v:=ahZ;have hsz:(DataW.weightsEach Tryz.prog (Tryz.f7.params.toList++Rows.machineFramesSpec.plain.varTypes Tryz.prog) (ds++gs)).all (·<=reachBytes)=true:=an0;have hW':=hW;obtain⟨p,q,hA0,hV,rfl,hfz,hnd⟩:=hW;have hA:DataW.TrodAll enc Tryz.prog W 0 (fun _=>true) true Tryz.f7.params.toList args.toList ds p:=hA0;rw[Tryz.params7] at hA hval hsz;obtain⟨v0,vs0,d0,ds0,p0,q0,hargs,rfl,rfl,h0,r0⟩:=trodAll_cons hA;obtain⟨v1,vs1,d1,ds1,p1,q1,rfl,rfl,rfl,h1,r1⟩:=trodAll_cons r0;obtain⟨v2,vs2,d2,ds2,p2,q2,rfl,rfl,rfl,h2,r2⟩:=trodAll_cons r1;obtain⟨v3,vs3,d3,ds3,p3,q3,rfl,rfl,rfl,h3,r3⟩:=trodAll_cons r2;obtain⟨v4,vs4,d4,ds4,p4,q4,rfl,rfl,rfl,h4,r4⟩:=trodAll_cons r3;obtain⟨rfl,rfl,rfl⟩:=trodAll_nil r4;obtain rfl:args=#[v0,v1,v2,v3,v4]:=by cases args;simp_all
 obtain⟨rfl,rfl⟩:=trodVars_none hV;obtain⟨cs0,rfl,au0⟩:=okWide_struct Tryz.underlying25 (hval 0 25 v0 rfl rfl);have g0:=h0;have lt0:∀x∈p0,x.block<W.heap.size:=by obtain⟨m,hm⟩:=g0;exact DataW.trod_lt m _ _ _ hm
 obtain⟨asO,aoy⟩:=h0;obtain⟨l0,hs0,en0,va0,ah0,ch0,aoE,b1,b2,b3,b4,b5,b6⟩:=PW aoy (fun n hn=>by simpa using pS.1 hsz _ (ack (j:=0) (t:=25) rfl rfl n hn));obtain⟨aa0,na0,ca0,rfl⟩:=ahR b1;obtain rfl:cs0=#[.slice aa0 na0 ca0,.slice ah0 hs0.length ch0,I en0]:=Array.toList_inj.1 aoE;obtain⟨n1,rfl,rfl,rfl,w1⟩:=open_int Tryz.underlying3 (hval 1 3 v1 rfl rfl) h1;have i1:=zu _ w1;obtain⟨n2,rfl,rfl,rfl,w2⟩:=open_int Tryz.underlying3 (hval 2 3 v2 rfl rfl) h2;have i2:=zu _ w2;obtain⟨n3,rfl,rfl,rfl,w3⟩:=open_int Tryz.underlying3 (hval 3 3 v3 rfl rfl) h3;have i3:=zu _ w3;obtain⟨ap4,atX,cp4,rfl⟩:=okWide_slice Tryz.underlying48 (hval 4 48 v4 rfl rfl);have g4:=h4;have lt4:∀x∈p4,x.block<W.heap.size:=by obtain⟨m,hm⟩:=g4;exact DataW.trod_lt m _ _ _ hm
 obtain⟨asN,aox⟩:=h4;obtain⟨pk4,aod,EM,hl4,hc4⟩:=WG aox (fun n hn=>by simpa using pS.1 hsz _ (ack (j:=4) (t:=48) rfl rfl n hn));subst aod;clear hA0 ahZ;refine(Tg l0 hs0 en0 n1 n2 n3 aa0 ah0 na0 ca0 ch0 pk4 ap4 cp4 W b1 b2 b3 b4 b5 b6 EM (abH EM) hl4 Wy).mono fun e W' ⟨he,bel⟩=>?_
 subst he;exact⟨_,rfl,_,_,_,[],_,[],hW',trodAll_mk1 (shut_bool Tryz.underlying4 _),(trodAll_cons_mk (Below.trod wF (by kernel_rfl) (oI (by kernel_rfl)) g0 bel lt0) (trodAll_cons_mk (shut_int Tryz.underlying3 w1) (trodAll_cons_mk (shut_int Tryz.underlying3 w2) (trodAll_cons_mk (shut_int Tryz.underlying3 w3) (trodAll_cons_mk (Below.trod wF (by kernel_rfl) (oI (by kernel_rfl)) g4 bel lt4) trodAll_mk0))))),rfl,bel.frame _,fun h=>by cases h⟩
theorem IM:Rows.machineFramesRow.holds Tryz.pinned (OpenSpec.ofChange Rows.machineFramesSpec) :=
 OpenClaim.holds_of_wide 7 Tryz.f7 rfl rfl rfl rfl rfl rfl rfl ⟨rfl,rfl,rfl,rfl,rfl⟩ rfl rfl rfl rfl rfl (by kernel_rfl) Tryz.func7 (by kernel_rfl)
  (oI (by kernel_rfl)) (by unfold Func.isWrapper;first | (rw[aB (by decide +kernel)];kernel_rfl) | (rw[au (by decide +kernel)];exact⟨rfl,rfl⟩))
  (fun os started H enc _=>EZ os started H enc)
end Go.Proofs.YtlgoihmkgaaemaaGreat
namespace Go.Proofs.YtlgoihmkgaaemaaGreat
theorem machineFrames_holds:Rows.MachineFramesSaid:=IM
#print axioms machineFrames_holds
end Go.Proofs.YtlgoihmkgaaemaaGreat
