/- FlatRuns: for every flat machine and every row of picks the call returns true (Run answers what the document says, errors too), and the arguments read as they did; no condition beyond the form's own reach. -/
import Derived.Test.YtkdigjpejnebkaaGreatGU00
import Derived.Test.YtkdigjpejnebkaaGreatRows
import Derived.WalkKit
import Derived.ProofKit
import Derived.OpenShut
import Derived.ShutString
import Derived.ChangeOld
import Derived.SizedLaws
import Derived.Below
import Derived.Test.YtkdigjpejnebkaaGreatGU34
import Derived.Test.YtkdigjpejnebkaaGreatGU35
import Derived.Test.YtkdigjpejnebkaaGreatGU39
import Derived.Test.YtkdigjpejnebkaaGreatGU40
namespace Go.Proofs.YtkdigjpejnebkaaGreat.DF
open Go.ChangeShapes Go.WideShapes Go.ChangeAt Go.RowKit
open Go.ChangeMaps (open_string shut_string)
set_option linter.unusedVariables false
set_option maxRecDepth 100000
theorem own:ownKnob Tryz.prog.godebug=none:=by kernel_rfl
theorem laidOut:laidOutB Tryz.prog=true:=by kernel_rfl
theorem lifted (os:Os) (started:os.Started) (H:Type) (enc:TypeId×Value->H) :
  ReturnsInHanded {} Tryz.checked os 5 .any (Rows.flatRunsSpec.pre6 enc Tryz.prog Tryz.f5 Rows.flatRunsRow.domain false) (Rows.flatRunsSpec.post enc Tryz.prog Tryz.f5 false true false false):=by
 refine returnsInHanded_of_change_sized (C:=Tryz.checked) own started (by kernel_rfl) Tryz.func5
  (ChangeSpec.witness6 (enc:=enc) (C:=Tryz.checked) false ⟨#[],#[.agg #[I 0,Nl,Nl,Nl],Nl],[]⟩ 8 (by kernel_rfl) (by kernel_rfl) (by kernel_rfl) (by kernel_rfl)) ?_
 intro W base args ds gs before SS hW hcnd abV _
 have hval:∀(j:Nat) t v,Tryz.f5.params[j]?=some t->args[j]?=some v->Value.okWide Tryz.prog W .any base t v:=SS
 have hsz:(DataW.weightsEach Tryz.prog (Tryz.f5.params.toList++Rows.flatRunsSpec.plain.varTypes Tryz.prog) (ds++gs)).all (·<=reachBytes)=true:=abV
 have hW':=hW
 obtain⟨p,q,hA0,hV,rfl,hfz,hnd⟩:=hW
 have hA:DataW.TrodAll enc Tryz.prog W 0 (fun _=>true) true Tryz.f5.params.toList args.toList ds p:=hA0
 rw[Tryz.params5] at hA hval hsz
 obtain⟨v0,vs0,d0,ds0,p0,q0,hargs,rfl,rfl,h0,r0⟩:=trodAll_cons hA
 obtain⟨v1,vs1,d1,ds1,p1,q1,rfl,rfl,rfl,h1,r1⟩:=trodAll_cons r0
 obtain⟨rfl,rfl,rfl⟩:=trodAll_nil r1
 obtain rfl:args=#[v0,v1]:=by cases args;simp_all
 obtain⟨rfl,rfl⟩:=trodVars_none hV
 obtain⟨cs0,rfl,aid⟩:=okWide_struct Tryz.underlying30 (hval 0 30 v0 rfl rfl)
 obtain⟨ap,len,cap,rfl⟩:=okWide_slice Tryz.underlying44 (hval 1 44 v1 rfl rfl)
 have k1:=h1
 have lt1:∀x∈p1,x.block<W.heap.size:=by obtain⟨m,hm⟩:=k1;exact DataW.trod_lt m _ _ _ hm
 obtain⟨af5,xI⟩:=h1
 obtain⟨picks,e1,e2,e3⟩:=Go.Proofs.YtkdigjpejnebkaaGreat.GA.open_ints xI (fun n hn=>by simpa using List.all_eq_true.1 hsz _ (DataW.weights_mem_each (j:=1) (t:=44) rfl rfl n hn))
 subst e1
 have k0:=h0
 have lt0:∀x∈p0,x.block<W.heap.size:=by obtain⟨m,hm⟩:=k0;exact DataW.trod_lt m _ _ _ hm
 obtain⟨af6,Wc⟩:=h0
 obtain⟨f,az,ar,ao,c1,c2,c3,acG,a1,a2,a3⟩:=Go.Proofs.YtkdigjpejnebkaaGreat.GA.JP Wc (fun n hn=>by simpa using List.all_eq_true.1 hsz _ (DataW.weights_mem_each (j:=0) (t:=30) rfl rfl n hn))
 obtain rfl:cs0=Go.Proofs.YtkdigjpejnebkaaGreat.FW.bw f az ar ao c1 c2 c3:=Array.toList_inj.1 acG
 clear hA0 SS
 refine(Go.Proofs.YtkdigjpejnebkaaGreat.GT.L4 f picks ap cap az ar ao c1 c2 c3 W a1 a2 a3 e2 e3 (fun V hV=>Go.Proofs.YtkdigjpejnebkaaGreat.GR.Gy f az ar ao c1 c2 c3 V (a1.below hV) a2) Go.Proofs.YtkdigjpejnebkaaGreat.GB.KG).mono fun e W' ⟨he,bel⟩=>?_
 subst he
 exact⟨_,rfl,_,_,_,[],_,[],hW',trodAll_mk1 (shut_bool Tryz.underlying4 _),(trodAll_cons_mk (Below.trod laidOut (by kernel_rfl) (of_decide_eq_true (by kernel_rfl)) k0 bel lt0) (trodAll_cons_mk (Below.trod laidOut (by kernel_rfl) (of_decide_eq_true (by kernel_rfl)) k1 bel lt1) trodAll_mk0)),rfl,bel.frame _,fun h=>by cases h⟩
theorem over:Rows.flatRunsRow.holds Tryz.pinned (OpenSpec.ofChange Rows.flatRunsSpec) :=
 OpenClaim.holds_of_wide 5 Tryz.f5 rfl rfl rfl rfl rfl rfl rfl ⟨rfl,rfl,rfl,rfl,rfl⟩ rfl rfl rfl rfl rfl (by kernel_rfl) Tryz.func5 (by kernel_rfl)
  (of_decide_eq_true (by kernel_rfl)) (by unfold Func.isWrapper;first | (rw[if_pos (by decide +kernel)];kernel_rfl) | (rw[if_neg (by decide +kernel)];exact⟨rfl,rfl⟩))
  (fun os started H enc _=>lifted os started H enc)
end Go.Proofs.YtkdigjpejnebkaaGreat.DF
namespace Go.Proofs.YtkdigjpejnebkaaGreat
theorem flatRuns_holds:Rows.FlatRunsSaid:=DF.over
#print axioms flatRuns_holds
end Go.Proofs.YtkdigjpejnebkaaGreat
