/- MachineApart: for every linked program, numbers of frames and slots, picks and pick the call returns true (what a process does is never seen in another space: behind a run one more step leaves all pages of all other spaces, and all other processes, as they were), and the arguments read as they did; no condition beyond the form's own reach. -/
import Derived.Test.YtlgoihmkgaaemaaGreatRows
import Derived.ShutString
import Derived.Test.YtlgoihmkgaaemaaGreatGO41
namespace Go.Proofs.YtlgoihmkgaaemaaGreat
open Go.ChangeShapes Go.WideShapes Go.ChangeAt Go.RowKit
open Go.ChangeMaps (open_string shut_string)
set_option linter.unusedVariables false
set_option maxRecDepth 100000
theorem Ml:ownKnob Tryz.prog.godebug=none:=by kernel_rfl
theorem ym:laidOutB Tryz.prog=true:=by kernel_rfl
theorem H7 (os:Os) (started:os.Started) (H:Type) (enc:TypeId×Value->H) :
  ReturnsInHanded {} Tryz.checked os 9 .any (Rows.machineApartSpec.pre6 enc Tryz.prog Tryz.f9 Rows.machineApartRow.domain false) (Rows.machineApartSpec.post enc Tryz.prog Tryz.f9 false true false false):=by
 refine returnsInHanded_of_change_sized (C:=Tryz.checked) Ml started (by kernel_rfl) Tryz.func9
  (ChangeSpec.witness6 (enc:=enc) (C:=Tryz.checked) false ⟨#[],#[.agg #[Nl,Nl,I 0],I 0,I 0,Nl,I 0],[]⟩ 8 (by kernel_rfl) (by kernel_rfl) (by kernel_rfl) (by kernel_rfl)) ?_
 intro W base args ds gs before aiT hW hcnd ao9 _;have hval:∀(j:Nat) t v,Tryz.f9.params[j]?=some t->args[j]?=some v->Value.okWide Tryz.prog W .any base t v:=aiT;have hsz:(DataW.weightsEach Tryz.prog (Tryz.f9.params.toList++Rows.machineApartSpec.plain.varTypes Tryz.prog) (ds++gs)).all (·<=reachBytes)=true:=ao9;have hW':=hW;obtain⟨p,q,hA0,hV,rfl,hfz,hnd⟩:=hW;have hA:DataW.TrodAll enc Tryz.prog W 0 (fun _=>true) true Tryz.f9.params.toList args.toList ds p:=hA0;rw[Tryz.params9] at hA hval hsz;obtain⟨v0,vs0,d0,ds0,p0,q0,hargs,rfl,rfl,h0,r0⟩:=trodAll_cons hA;obtain⟨v1,vs1,d1,ds1,p1,q1,rfl,rfl,rfl,h1,r1⟩:=trodAll_cons r0;obtain⟨v2,vs2,d2,ds2,p2,q2,rfl,rfl,rfl,h2,r2⟩:=trodAll_cons r1;obtain⟨v3,vs3,d3,ds3,p3,q3,rfl,rfl,rfl,h3,r3⟩:=trodAll_cons r2;obtain⟨v4,vs4,d4,ds4,p4,q4,rfl,rfl,rfl,h4,r4⟩:=trodAll_cons r3;obtain⟨rfl,rfl,rfl⟩:=trodAll_nil r4;obtain rfl:args=#[v0,v1,v2,v3,v4]:=by cases args;simp_all
 obtain⟨rfl,rfl⟩:=trodVars_none hV;obtain⟨cs0,rfl,avl⟩:=okWide_struct Tryz.underlying25 (hval 0 25 v0 rfl rfl);have g0:=h0;have lt0:∀x∈p0,x.block<W.heap.size:=by obtain⟨m,hm⟩:=g0;exact DataW.trod_lt m _ _ _ hm
 obtain⟨as8,apH⟩:=h0;obtain⟨l0,hs0,en0,va0,ah0,ch0,apN,b1,b2,b3,b4,b5,b6⟩:=Qr apH (fun n hn=>by simpa using ql.1 hsz _ (ac0 (j:=0) (t:=25) rfl rfl n hn));obtain⟨aa0,na0,ca0,rfl⟩:=aiL b1;obtain rfl:cs0=#[.slice aa0 na0 ca0,.slice ah0 hs0.length ch0,I en0]:=Array.toList_inj.1 apN;obtain⟨n1,rfl,rfl,rfl,w1⟩:=open_int Tryz.underlying3 (hval 1 3 v1 rfl rfl) h1;have i1:=zQ _ w1;obtain⟨n2,rfl,rfl,rfl,w2⟩:=open_int Tryz.underlying3 (hval 2 3 v2 rfl rfl) h2;have i2:=zQ _ w2;obtain⟨ap3,aum,cp3,rfl⟩:=okWide_slice Tryz.underlying48 (hval 3 48 v3 rfl rfl);have g3:=h3;have lt3:∀x∈p3,x.block<W.heap.size:=by obtain⟨m,hm⟩:=g3;exact DataW.trod_lt m _ _ _ hm
 obtain⟨as7,apG⟩:=h3;obtain⟨pk3,apm,hn3,hl3,hc3⟩:=XC apG (fun n hn=>by simpa using ql.1 hsz _ (ac0 (j:=3) (t:=48) rfl rfl n hn));subst apm;obtain⟨n4,rfl,rfl,rfl,w4⟩:=open_int Tryz.underlying3 (hval 4 3 v4 rfl rfl) h4;have i4:=zQ _ w4;clear hA0 aiT;refine(Xr l0 hs0 en0 n1 n2 n4 aa0 ah0 na0 ca0 ch0 pk3 ap3 cp3 W b1 b2 b3 b4 b5 b6 hn3 (acp hn3) hl3 Xx).mono fun e W' ⟨he,bel⟩=>?_
 subst he;exact⟨_,rfl,_,_,_,[],_,[],hW',trodAll_mk1 (shut_bool Tryz.underlying4 _),(trodAll_cons_mk (Below.trod ym (by kernel_rfl) (o5 (by kernel_rfl)) g0 bel lt0) (trodAll_cons_mk (shut_int Tryz.underlying3 w1) (trodAll_cons_mk (shut_int Tryz.underlying3 w2) (trodAll_cons_mk (Below.trod ym (by kernel_rfl) (o5 (by kernel_rfl)) g3 bel lt3) (trodAll_cons_mk (shut_int Tryz.underlying3 w4) trodAll_mk0))))),rfl,bel.frame _,fun h=>by cases h⟩
theorem JT:Rows.machineApartRow.holds Tryz.pinned (OpenSpec.ofChange Rows.machineApartSpec) :=
 OpenClaim.holds_of_wide 9 Tryz.f9 rfl rfl rfl rfl rfl rfl rfl ⟨rfl,rfl,rfl,rfl,rfl⟩ rfl rfl rfl rfl rfl (by kernel_rfl) Tryz.func9 (by kernel_rfl)
  (o5 (by kernel_rfl)) (by unfold Func.isWrapper;first | (rw[aB (by decide +kernel)];kernel_rfl) | (rw[au (by decide +kernel)];exact⟨rfl,rfl⟩))
  (fun os started H enc _=>H7 os started H enc)
end Go.Proofs.YtlgoihmkgaaemaaGreat
namespace Go.Proofs.YtlgoihmkgaaemaaGreat
theorem machineApart_holds:Rows.MachineApartSaid:=JT
#print axioms machineApart_holds
end Go.Proofs.YtlgoihmkgaaemaaGreat
