/- FlatStarts: for every linked program, every number of slots and every flat machine the call returns true (New and Check answer what the document says, errors too), and the arguments read as they did; no condition beyond the form's own reach. -/
import Derived.Test.YtkdigjpejnebkaaGreatRows
import Derived.WalkKit
import Derived.ProofKit
import Derived.OpenShut
import Derived.ShutString
import Derived.ChangeOld
import Derived.SizedLaws
import Derived.Below
import Derived.Test.YtkdigjpejnebkaaGreatGS42
import Derived.Test.YtkdigjpejnebkaaGreatGS43
import Derived.Test.YtkdigjpejnebkaaGreatGS44
import Derived.Test.YtkdigjpejnebkaaGreatGS50
import Derived.Test.YtkdigjpejnebkaaGreatGS51
namespace Go.Proofs.YtkdigjpejnebkaaGreat.flatStarts
open Go.ChangeShapes Go.WideShapes Go.ChangeAt Go.RowKit
open Go.ChangeMaps (open_string shut_string)
set_option linter.unusedVariables false
set_option maxRecDepth 100000
theorem own : ownKnob Tryz.prog.godebug = none:=by kernel_rfl
theorem laidOut : laidOutB Tryz.prog = true:=by kernel_rfl
theorem lifted (os : Os) (started : os.Started) (H : Type) (enc : TypeId × Value -> H) :
  ReturnsInHanded {} Tryz.checked os 3 .any (Rows.flatStartsSpec.pre6 enc Tryz.prog Tryz.f3 Rows.flatStartsRow.domain false) (Rows.flatStartsSpec.post enc Tryz.prog Tryz.f3 false true false false):=by
 refine returnsInHanded_of_change_sized (C:=Tryz.checked) own started (by kernel_rfl) Tryz.func3
  (ChangeSpec.witness6 (enc:=enc) (C:=Tryz.checked) false ⟨#[],#[.agg #[.slice none 0 0,.slice none 0 0,.int .i64 0],.int .i64 0,.agg #[.int .i64 0,.slice none 0 0,.slice none 0 0,.slice none 0 0]],[]⟩ 8 (by kernel_rfl) (by kernel_rfl) (by kernel_rfl) (by kernel_rfl)) ?_
 intro W base args ds gs before hval0 hW hcnd hsz0 _
 have hval : ∀ (j : Nat) t v,Tryz.f3.params[j]? = some t -> args[j]? = some v -> Value.okWide Tryz.prog W .any base t v:=hval0
 have hsz : (DataW.weightsEach Tryz.prog (Tryz.f3.params.toList ++ Rows.flatStartsSpec.plain.varTypes Tryz.prog) (ds ++ gs)).all (· <= reachBytes) = true:=hsz0
 have hW':=hW
 obtain ⟨p,q,hA0,hV,rfl,hfz,hnd⟩:=hW
 have hA : DataW.TrodAll enc Tryz.prog W 0 (fun _=>true) true Tryz.f3.params.toList args.toList ds p:=hA0
 rw [Tryz.params3] at hA hval hsz
 obtain ⟨v0,vs0,d0,ds0,p0,q0,hargs,rfl,rfl,h0,r0⟩:=trodAll_cons hA
 obtain ⟨v1,vs1,d1,ds1,p1,q1,rfl,rfl,rfl,h1,r1⟩:=trodAll_cons r0
 obtain ⟨v2,vs2,d2,ds2,p2,q2,rfl,rfl,rfl,h2,r2⟩:=trodAll_cons r1
 obtain ⟨rfl,rfl,rfl⟩:=trodAll_nil r2
 obtain rfl : args = #[v0,v1,v2]:=by cases args;simp_all
 obtain ⟨rfl,rfl⟩:=trodVars_none hV
 obtain ⟨cs0,rfl,hcs0⟩:=okWide_struct Tryz.underlying25 (hval 0 25 v0 rfl rfl)
 obtain ⟨n1,rfl,rfl,rfl,w1⟩:=open_int Tryz.underlying3 (hval 1 3 v1 rfl rfl) h1
 obtain ⟨cs2,rfl,hcs2⟩:=okWide_struct Tryz.underlying30 (hval 2 30 v2 rfl rfl)
 have k0:=h0
 have k2:=h2
 have lt0 : ∀ x ∈ p0,x.block < W.heap.size:=by obtain ⟨m,hm⟩:=k0;exact DataW.trod_lt m _ _ _ hm
 have lt2 : ∀ x ∈ p2,x.block < W.heap.size:=by obtain ⟨m,hm⟩:=k2;exact DataW.trod_lt m _ _ _ hm
 obtain ⟨fuel0,hf0⟩:=h0
 obtain ⟨fuel2,hf2⟩:=h2
 obtain ⟨l,hs,en,va,ah,ch,hce0,b1,b2,b3,b4,b5,b6⟩:=Go.Proofs.YtkdigjpejnebkaaGreat.LW.open_linked hf0 (fun n hn=>by simpa using List.all_eq_true.1 hsz _ (DataW.weights_mem_each (j:=0) (t:=25) rfl rfl n hn))
 obtain ⟨f,az,ar,ao,c1,c2,c3,hce2,a1,a2,a3⟩:=Go.Proofs.YtkdigjpejnebkaaGreat.GA.open_flat hf2 (fun n hn=>by simpa using List.all_eq_true.1 hsz _ (DataW.weights_mem_each (j:=2) (t:=30) rfl rfl n hn))
 obtain ⟨aa,na,ca,rfl⟩:=Go.Proofs.YtkdigjpejnebkaaGreat.FW.isSl b1
 obtain rfl : cs0 = #[.slice aa na ca,.slice ah hs.length ch,.int .i64 en]:=Array.toList_inj.1 hce0
 obtain rfl : cs2 = Go.Proofs.YtkdigjpejnebkaaGreat.FW.flCells f az ar ao c1 c2 c3:=Array.toList_inj.1 hce2
 clear hA0 hval0
 refine (Go.Proofs.YtkdigjpejnebkaaGreat.GT.starts_any l hs en n1 aa ah na ca ch f az ar ao c1 c2 c3 W b1 b2 b3 b4 b5 b6 (Go.Proofs.YtkdigjpejnebkaaGreat.W.i64_of _ w1) a1 a2 (fun V hV=>Go.Proofs.YtkdigjpejnebkaaGreat.GR.checkR_any f az ar ao c1 c2 c3 V (a1.below hV) a2) Go.Proofs.YtkdigjpejnebkaaGreat.GB.begun_any).mono fun e W' ⟨he,bel⟩=>?_
 subst he
 exact ⟨_,rfl,_,_,_,[],_,[],hW',trodAll_mk1 (shut_bool Tryz.underlying4 _),(trodAll_cons_mk (Below.trod laidOut (by kernel_rfl) (of_decide_eq_true (by kernel_rfl)) k0 bel lt0) (trodAll_cons_mk (shut_int Tryz.underlying3 w1) (trodAll_cons_mk (Below.trod laidOut (by kernel_rfl) (of_decide_eq_true (by kernel_rfl)) k2 bel lt2) trodAll_mk0))),rfl,bel.frame _,fun h=>by cases h⟩
theorem over : Rows.flatStartsRow.holds Tryz.pinned (OpenSpec.ofChange Rows.flatStartsSpec) :=
 OpenClaim.holds_of_wide 3 Tryz.f3 rfl rfl rfl rfl rfl rfl rfl ⟨rfl,rfl,rfl,rfl,rfl⟩ rfl rfl rfl rfl rfl (by kernel_rfl) Tryz.func3 (by kernel_rfl)
  (of_decide_eq_true (by kernel_rfl)) (by unfold Func.isWrapper;first | (rw [if_pos (by decide +kernel)];kernel_rfl) | (rw [if_neg (by decide +kernel)];exact ⟨rfl,rfl⟩))
  (fun os started H enc _=>lifted os started H enc)
end Go.Proofs.YtkdigjpejnebkaaGreat.flatStarts
namespace Go.Proofs.YtkdigjpejnebkaaGreat
theorem flatStarts_holds : Rows.FlatStartsSaid:=flatStarts.over
#print axioms flatStarts_holds
end Go.Proofs.YtkdigjpejnebkaaGreat
