import Derived.Test.YtkdigjpejnebkaaGreatGS29
import Derived.StillTailTactics
import Derived.Test.YtkdigjpejnebkaaGreatGS30
import Derived.Test.YtkdigjpejnebkaaGreatGS31
import Derived.Test.YtkdigjpejnebkaaGreatGS32
set_option linter.unusedVariables false
set_option maxRecDepth 100000
set_option linter.unusedSimpArgs false
namespace Go.Proofs.YtkdigjpejnebkaaGreat
namespace PW
open Go.RowKit
def calledN (p : PM.Pr) (m v : Int) : PM.Pr:=if m = 6 then { p with st:=2,cd:=p.r 0 } else if m = 1 then p else p.set 0 v
set_option maxHeartbeats 1000000 in
theorem called1 (p : PM.Pr) (v : Int) (w : World) : Calls Tryz.prog 164 #[.agg p.row,.int .i64 1,.int .i64 v] w fun e w'=>e = .returned (.agg (calledN p 1 v).row) /\ Below w.heap.size w w':=by
 have HR:=hideC (show calledN p 1 v = p from rfl)
 rw [HR.out]
 clear HR
 have r0 : ∀ (q : PM.Pr) (h : 0 < q.row.size),q.row[0] = .int .i64 (q.r 0):=fun q h=>rfl
 have r1 : ∀ (q : PM.Pr) (h : 1 < q.row.size),q.row[1] = .int .i64 (q.r 1):=fun q h=>rfl
 have r2 : ∀ (q : PM.Pr) (h : 2 < q.row.size),q.row[2] = .int .i64 (q.r 2):=fun q h=>rfl
 have r3 : ∀ (q : PM.Pr) (h : 3 < q.row.size),q.row[3] = .int .i64 (q.r 3):=fun q h=>rfl
 have r4 : ∀ (q : PM.Pr) (h : 4 < q.row.size),q.row[4] = .int .i64 (q.r 4):=fun q h=>rfl
 have r5 : ∀ (q : PM.Pr) (h : 5 < q.row.size),q.row[5] = .int .i64 (q.r 5):=fun q h=>rfl
 have r6 : ∀ (q : PM.Pr) (h : 6 < q.row.size),q.row[6] = .int .i64 (q.r 6):=fun q h=>rfl
 have r7 : ∀ (q : PM.Pr) (h : 7 < q.row.size),q.row[7] = .int .i64 (q.r 7):=fun q h=>rfl
 have r8 : ∀ (q : PM.Pr) (h : 8 < q.row.size),q.row[8] = .int .i64 q.pc:=fun q h=>rfl
 have r9 : ∀ (q : PM.Pr) (h : 9 < q.row.size),q.row[9] = .int .i64 q.st:=fun q h=>rfl
 have r10 : ∀ (q : PM.Pr) (h : 10 < q.row.size),q.row[10] = .int .i64 q.cd:=fun q h=>rfl
 have r11 : ∀ (q : PM.Pr) (h : 11 < q.row.size),q.row[11] = .int .i64 q.fk:=fun q h=>rfl
 have r12 : ∀ (q : PM.Pr) (h : 12 < q.row.size),q.row[12] = .int .i64 q.fa:=fun q h=>rfl
 have rs:=PM.row_size
 have e8:=PM.row_pc
 have e9:=PM.row_st
 have e10:=PM.row_cd
 have s0 : ∀ (q : PM.Pr) (v : Int),q.row.setIfInBounds 0 (.int .i64 v) = (q.set 0 v).row:=fun q v=>PM.row_set q 0 v (by omega)
 go_enter Tryz.func164,Tryz.ntmps164
 go_wp2
 refine bodyPost_ret (v:=.agg (p).row) (by simp [results,Tryz.results164,go_sem];rfl) rfl ?_
 exact ⟨rfl,((Below.refl _ _).alloc (Nat.le_refl _) _).alloc (by simp) _⟩
set_option maxHeartbeats 1000000 in
theorem called2 (p : PM.Pr) (v : Int) (w : World) : Calls Tryz.prog 164 #[.agg p.row,.int .i64 2,.int .i64 v] w fun e w'=>e = .returned (.agg (calledN p 2 v).row) /\ Below w.heap.size w w':=by
 have HR:=hideC (show calledN p 2 v = p.set 0 v from rfl)
 rw [HR.out]
 clear HR
 have r0 : ∀ (q : PM.Pr) (h : 0 < q.row.size),q.row[0] = .int .i64 (q.r 0):=fun q h=>rfl
 have r1 : ∀ (q : PM.Pr) (h : 1 < q.row.size),q.row[1] = .int .i64 (q.r 1):=fun q h=>rfl
 have r2 : ∀ (q : PM.Pr) (h : 2 < q.row.size),q.row[2] = .int .i64 (q.r 2):=fun q h=>rfl
 have r3 : ∀ (q : PM.Pr) (h : 3 < q.row.size),q.row[3] = .int .i64 (q.r 3):=fun q h=>rfl
 have r4 : ∀ (q : PM.Pr) (h : 4 < q.row.size),q.row[4] = .int .i64 (q.r 4):=fun q h=>rfl
 have r5 : ∀ (q : PM.Pr) (h : 5 < q.row.size),q.row[5] = .int .i64 (q.r 5):=fun q h=>rfl
 have r6 : ∀ (q : PM.Pr) (h : 6 < q.row.size),q.row[6] = .int .i64 (q.r 6):=fun q h=>rfl
 have r7 : ∀ (q : PM.Pr) (h : 7 < q.row.size),q.row[7] = .int .i64 (q.r 7):=fun q h=>rfl
 have r8 : ∀ (q : PM.Pr) (h : 8 < q.row.size),q.row[8] = .int .i64 q.pc:=fun q h=>rfl
 have r9 : ∀ (q : PM.Pr) (h : 9 < q.row.size),q.row[9] = .int .i64 q.st:=fun q h=>rfl
 have r10 : ∀ (q : PM.Pr) (h : 10 < q.row.size),q.row[10] = .int .i64 q.cd:=fun q h=>rfl
 have r11 : ∀ (q : PM.Pr) (h : 11 < q.row.size),q.row[11] = .int .i64 q.fk:=fun q h=>rfl
 have r12 : ∀ (q : PM.Pr) (h : 12 < q.row.size),q.row[12] = .int .i64 q.fa:=fun q h=>rfl
 have rs:=PM.row_size
 have e8:=PM.row_pc
 have e9:=PM.row_st
 have e10:=PM.row_cd
 have s0 : ∀ (q : PM.Pr) (v : Int),q.row.setIfInBounds 0 (.int .i64 v) = (q.set 0 v).row:=fun q v=>PM.row_set q 0 v (by omega)
 go_enter Tryz.func164,Tryz.ntmps164
 go_wp2
 refine bodyPost_ret (v:=.agg (p.set 0 v).row) (by simp [results,Tryz.results164,go_sem];rfl) rfl ?_
 exact ⟨rfl,((Below.refl _ _).alloc (Nat.le_refl _) _).alloc (by simp) _⟩
set_option maxHeartbeats 1000000 in
theorem called3 (p : PM.Pr) (v : Int) (w : World) : Calls Tryz.prog 164 #[.agg p.row,.int .i64 3,.int .i64 v] w fun e w'=>e = .returned (.agg (calledN p 3 v).row) /\ Below w.heap.size w w':=by
 have HR:=hideC (show calledN p 3 v = p.set 0 v from rfl)
 rw [HR.out]
 clear HR
 have r0 : ∀ (q : PM.Pr) (h : 0 < q.row.size),q.row[0] = .int .i64 (q.r 0):=fun q h=>rfl
 have r1 : ∀ (q : PM.Pr) (h : 1 < q.row.size),q.row[1] = .int .i64 (q.r 1):=fun q h=>rfl
 have r2 : ∀ (q : PM.Pr) (h : 2 < q.row.size),q.row[2] = .int .i64 (q.r 2):=fun q h=>rfl
 have r3 : ∀ (q : PM.Pr) (h : 3 < q.row.size),q.row[3] = .int .i64 (q.r 3):=fun q h=>rfl
 have r4 : ∀ (q : PM.Pr) (h : 4 < q.row.size),q.row[4] = .int .i64 (q.r 4):=fun q h=>rfl
 have r5 : ∀ (q : PM.Pr) (h : 5 < q.row.size),q.row[5] = .int .i64 (q.r 5):=fun q h=>rfl
 have r6 : ∀ (q : PM.Pr) (h : 6 < q.row.size),q.row[6] = .int .i64 (q.r 6):=fun q h=>rfl
 have r7 : ∀ (q : PM.Pr) (h : 7 < q.row.size),q.row[7] = .int .i64 (q.r 7):=fun q h=>rfl
 have r8 : ∀ (q : PM.Pr) (h : 8 < q.row.size),q.row[8] = .int .i64 q.pc:=fun q h=>rfl
 have r9 : ∀ (q : PM.Pr) (h : 9 < q.row.size),q.row[9] = .int .i64 q.st:=fun q h=>rfl
 have r10 : ∀ (q : PM.Pr) (h : 10 < q.row.size),q.row[10] = .int .i64 q.cd:=fun q h=>rfl
 have r11 : ∀ (q : PM.Pr) (h : 11 < q.row.size),q.row[11] = .int .i64 q.fk:=fun q h=>rfl
 have r12 : ∀ (q : PM.Pr) (h : 12 < q.row.size),q.row[12] = .int .i64 q.fa:=fun q h=>rfl
 have rs:=PM.row_size
 have e8:=PM.row_pc
 have e9:=PM.row_st
 have e10:=PM.row_cd
 have s0 : ∀ (q : PM.Pr) (v : Int),q.row.setIfInBounds 0 (.int .i64 v) = (q.set 0 v).row:=fun q v=>PM.row_set q 0 v (by omega)
 go_enter Tryz.func164,Tryz.ntmps164
 go_wp2
 refine bodyPost_ret (v:=.agg (p.set 0 v).row) (by simp [results,Tryz.results164,go_sem];rfl) rfl ?_
 exact ⟨rfl,((Below.refl _ _).alloc (Nat.le_refl _) _).alloc (by simp) _⟩
set_option maxHeartbeats 1000000 in
theorem called4 (p : PM.Pr) (v : Int) (w : World) : Calls Tryz.prog 164 #[.agg p.row,.int .i64 4,.int .i64 v] w fun e w'=>e = .returned (.agg (calledN p 4 v).row) /\ Below w.heap.size w w':=by
 have HR:=hideC (show calledN p 4 v = p.set 0 v from rfl)
 rw [HR.out]
 clear HR
 have r0 : ∀ (q : PM.Pr) (h : 0 < q.row.size),q.row[0] = .int .i64 (q.r 0):=fun q h=>rfl
 have r1 : ∀ (q : PM.Pr) (h : 1 < q.row.size),q.row[1] = .int .i64 (q.r 1):=fun q h=>rfl
 have r2 : ∀ (q : PM.Pr) (h : 2 < q.row.size),q.row[2] = .int .i64 (q.r 2):=fun q h=>rfl
 have r3 : ∀ (q : PM.Pr) (h : 3 < q.row.size),q.row[3] = .int .i64 (q.r 3):=fun q h=>rfl
 have r4 : ∀ (q : PM.Pr) (h : 4 < q.row.size),q.row[4] = .int .i64 (q.r 4):=fun q h=>rfl
 have r5 : ∀ (q : PM.Pr) (h : 5 < q.row.size),q.row[5] = .int .i64 (q.r 5):=fun q h=>rfl
 have r6 : ∀ (q : PM.Pr) (h : 6 < q.row.size),q.row[6] = .int .i64 (q.r 6):=fun q h=>rfl
 have r7 : ∀ (q : PM.Pr) (h : 7 < q.row.size),q.row[7] = .int .i64 (q.r 7):=fun q h=>rfl
 have r8 : ∀ (q : PM.Pr) (h : 8 < q.row.size),q.row[8] = .int .i64 q.pc:=fun q h=>rfl
 have r9 : ∀ (q : PM.Pr) (h : 9 < q.row.size),q.row[9] = .int .i64 q.st:=fun q h=>rfl
 have r10 : ∀ (q : PM.Pr) (h : 10 < q.row.size),q.row[10] = .int .i64 q.cd:=fun q h=>rfl
 have r11 : ∀ (q : PM.Pr) (h : 11 < q.row.size),q.row[11] = .int .i64 q.fk:=fun q h=>rfl
 have r12 : ∀ (q : PM.Pr) (h : 12 < q.row.size),q.row[12] = .int .i64 q.fa:=fun q h=>rfl
 have rs:=PM.row_size
 have e8:=PM.row_pc
 have e9:=PM.row_st
 have e10:=PM.row_cd
 have s0 : ∀ (q : PM.Pr) (v : Int),q.row.setIfInBounds 0 (.int .i64 v) = (q.set 0 v).row:=fun q v=>PM.row_set q 0 v (by omega)
 go_enter Tryz.func164,Tryz.ntmps164
 go_wp2
 refine bodyPost_ret (v:=.agg (p.set 0 v).row) (by simp [results,Tryz.results164,go_sem];rfl) rfl ?_
 exact ⟨rfl,((Below.refl _ _).alloc (Nat.le_refl _) _).alloc (by simp) _⟩
set_option maxHeartbeats 1000000 in
theorem called5 (p : PM.Pr) (v : Int) (w : World) : Calls Tryz.prog 164 #[.agg p.row,.int .i64 5,.int .i64 v] w fun e w'=>e = .returned (.agg (calledN p 5 v).row) /\ Below w.heap.size w w':=by
 have HR:=hideC (show calledN p 5 v = p.set 0 v from rfl)
 rw [HR.out]
 clear HR
 have r0 : ∀ (q : PM.Pr) (h : 0 < q.row.size),q.row[0] = .int .i64 (q.r 0):=fun q h=>rfl
 have r1 : ∀ (q : PM.Pr) (h : 1 < q.row.size),q.row[1] = .int .i64 (q.r 1):=fun q h=>rfl
 have r2 : ∀ (q : PM.Pr) (h : 2 < q.row.size),q.row[2] = .int .i64 (q.r 2):=fun q h=>rfl
 have r3 : ∀ (q : PM.Pr) (h : 3 < q.row.size),q.row[3] = .int .i64 (q.r 3):=fun q h=>rfl
 have r4 : ∀ (q : PM.Pr) (h : 4 < q.row.size),q.row[4] = .int .i64 (q.r 4):=fun q h=>rfl
 have r5 : ∀ (q : PM.Pr) (h : 5 < q.row.size),q.row[5] = .int .i64 (q.r 5):=fun q h=>rfl
 have r6 : ∀ (q : PM.Pr) (h : 6 < q.row.size),q.row[6] = .int .i64 (q.r 6):=fun q h=>rfl
 have r7 : ∀ (q : PM.Pr) (h : 7 < q.row.size),q.row[7] = .int .i64 (q.r 7):=fun q h=>rfl
 have r8 : ∀ (q : PM.Pr) (h : 8 < q.row.size),q.row[8] = .int .i64 q.pc:=fun q h=>rfl
 have r9 : ∀ (q : PM.Pr) (h : 9 < q.row.size),q.row[9] = .int .i64 q.st:=fun q h=>rfl
 have r10 : ∀ (q : PM.Pr) (h : 10 < q.row.size),q.row[10] = .int .i64 q.cd:=fun q h=>rfl
 have r11 : ∀ (q : PM.Pr) (h : 11 < q.row.size),q.row[11] = .int .i64 q.fk:=fun q h=>rfl
 have r12 : ∀ (q : PM.Pr) (h : 12 < q.row.size),q.row[12] = .int .i64 q.fa:=fun q h=>rfl
 have rs:=PM.row_size
 have e8:=PM.row_pc
 have e9:=PM.row_st
 have e10:=PM.row_cd
 have s0 : ∀ (q : PM.Pr) (v : Int),q.row.setIfInBounds 0 (.int .i64 v) = (q.set 0 v).row:=fun q v=>PM.row_set q 0 v (by omega)
 go_enter Tryz.func164,Tryz.ntmps164
 go_wp2
 refine bodyPost_ret (v:=.agg (p.set 0 v).row) (by simp [results,Tryz.results164,go_sem];rfl) rfl ?_
 exact ⟨rfl,((Below.refl _ _).alloc (Nat.le_refl _) _).alloc (by simp) _⟩
set_option maxHeartbeats 1000000 in
theorem called6 (p : PM.Pr) (v : Int) (w : World) : Calls Tryz.prog 164 #[.agg p.row,.int .i64 6,.int .i64 v] w fun e w'=>e = .returned (.agg (calledN p 6 v).row) /\ Below w.heap.size w w':=by
 have HR:=hideC (show calledN p 6 v = ({ p with st:=2,cd:=p.r 0 } : PM.Pr) from rfl)
 rw [HR.out]
 clear HR
 have r0 : ∀ (q : PM.Pr) (h : 0 < q.row.size),q.row[0] = .int .i64 (q.r 0):=fun q h=>rfl
 have r1 : ∀ (q : PM.Pr) (h : 1 < q.row.size),q.row[1] = .int .i64 (q.r 1):=fun q h=>rfl
 have r2 : ∀ (q : PM.Pr) (h : 2 < q.row.size),q.row[2] = .int .i64 (q.r 2):=fun q h=>rfl
 have r3 : ∀ (q : PM.Pr) (h : 3 < q.row.size),q.row[3] = .int .i64 (q.r 3):=fun q h=>rfl
 have r4 : ∀ (q : PM.Pr) (h : 4 < q.row.size),q.row[4] = .int .i64 (q.r 4):=fun q h=>rfl
 have r5 : ∀ (q : PM.Pr) (h : 5 < q.row.size),q.row[5] = .int .i64 (q.r 5):=fun q h=>rfl
 have r6 : ∀ (q : PM.Pr) (h : 6 < q.row.size),q.row[6] = .int .i64 (q.r 6):=fun q h=>rfl
 have r7 : ∀ (q : PM.Pr) (h : 7 < q.row.size),q.row[7] = .int .i64 (q.r 7):=fun q h=>rfl
 have r8 : ∀ (q : PM.Pr) (h : 8 < q.row.size),q.row[8] = .int .i64 q.pc:=fun q h=>rfl
 have r9 : ∀ (q : PM.Pr) (h : 9 < q.row.size),q.row[9] = .int .i64 q.st:=fun q h=>rfl
 have r10 : ∀ (q : PM.Pr) (h : 10 < q.row.size),q.row[10] = .int .i64 q.cd:=fun q h=>rfl
 have r11 : ∀ (q : PM.Pr) (h : 11 < q.row.size),q.row[11] = .int .i64 q.fk:=fun q h=>rfl
 have r12 : ∀ (q : PM.Pr) (h : 12 < q.row.size),q.row[12] = .int .i64 q.fa:=fun q h=>rfl
 have rs:=PM.row_size
 have e8:=PM.row_pc
 have e9:=PM.row_st
 have e10:=PM.row_cd
 have s0 : ∀ (q : PM.Pr) (v : Int),q.row.setIfInBounds 0 (.int .i64 v) = (q.set 0 v).row:=fun q v=>PM.row_set q 0 v (by omega)
 go_enter Tryz.func164,Tryz.ntmps164
 go_wp2
 refine bodyPost_ret (v:=.agg (({ p with st:=2,cd:=p.r 0 } : PM.Pr)).row) (by simp [results,Tryz.results164,go_sem];rfl) rfl ?_
 exact ⟨rfl,((Below.refl _ _).alloc (Nat.le_refl _) _).alloc (by simp) _⟩
theorem called_any (p : PM.Pr) (m v : Int) (w : World) (h : 1 <= m /\ m <= 6) : Calls Tryz.prog 164 #[.agg p.row,.int .i64 m,.int .i64 v] w fun e w'=>e = .returned (.agg (calledN p m v).row) /\ Below w.heap.size w w':=by
 obtain h | h | h | h | h | h : m = 1 ∨ m = 2 ∨ m = 3 ∨ m = 4 ∨ m = 5 ∨ m = 6:=by omega
 · subst h;exact called1 p v w
 · subst h;exact called2 p v w
 · subst h;exact called3 p v w
 · subst h;exact called4 p v w
 · subst h;exact called5 p v w
 · subst h;exact called6 p v w
set_option maxHeartbeats 1000000 in
theorem behind16 (p : PM.Pr) (a b c m v : Int) (w : World) (h : 1 <= m /\ m <= 6) : Calls Tryz.prog 148 #[.agg p.row,.agg #[.int .i64 16,.int .i64 a,.int .i64 b,.int .i64 c,.int .i64 m],.int .i64 v] w fun e w'=>e = .returned (.agg (PM.doneN p ⟨16,a,b,c,m⟩ v).row) /\ Below w.heap.size w w':=by
 have HR:=hideC (show PM.doneN p ⟨16,a,b,c,m⟩ v = calledN ({ p with pc:=wrap64 (p.pc + 8) } : PM.Pr) m v from rfl)
 rw [HR.out]
 have HC : Hid (∀ V,Calls Tryz.prog 164 #[.agg (({ p with pc:=wrap64 (p.pc + 8) } : PM.Pr)).row,.int .i64 m,.int .i64 v] V fun e w'=>e = .returned (.agg (calledN ({ p with pc:=wrap64 (p.pc + 8) } : PM.Pr) m v).row) /\ Below V.heap.size V w'):=fun V=>called_any ({ p with pc:=wrap64 (p.pc + 8) } : PM.Pr) m v V h
 clear HR
 obtain ⟨R,hR⟩ : ∃ R,R = calledN ({ p with pc:=wrap64 (p.pc + 8) } : PM.Pr) m v:=⟨_,rfl⟩
 rw [<- hR] at HC ⊢
 clear hR h
 have r0 : ∀ (q : PM.Pr) (h : 0 < q.row.size),q.row[0] = .int .i64 (q.r 0):=fun q h=>rfl
 have r1 : ∀ (q : PM.Pr) (h : 1 < q.row.size),q.row[1] = .int .i64 (q.r 1):=fun q h=>rfl
 have r2 : ∀ (q : PM.Pr) (h : 2 < q.row.size),q.row[2] = .int .i64 (q.r 2):=fun q h=>rfl
 have r3 : ∀ (q : PM.Pr) (h : 3 < q.row.size),q.row[3] = .int .i64 (q.r 3):=fun q h=>rfl
 have r4 : ∀ (q : PM.Pr) (h : 4 < q.row.size),q.row[4] = .int .i64 (q.r 4):=fun q h=>rfl
 have r5 : ∀ (q : PM.Pr) (h : 5 < q.row.size),q.row[5] = .int .i64 (q.r 5):=fun q h=>rfl
 have r6 : ∀ (q : PM.Pr) (h : 6 < q.row.size),q.row[6] = .int .i64 (q.r 6):=fun q h=>rfl
 have r7 : ∀ (q : PM.Pr) (h : 7 < q.row.size),q.row[7] = .int .i64 (q.r 7):=fun q h=>rfl
 have r8 : ∀ (q : PM.Pr) (h : 8 < q.row.size),q.row[8] = .int .i64 q.pc:=fun q h=>rfl
 have r9 : ∀ (q : PM.Pr) (h : 9 < q.row.size),q.row[9] = .int .i64 q.st:=fun q h=>rfl
 have r10 : ∀ (q : PM.Pr) (h : 10 < q.row.size),q.row[10] = .int .i64 q.cd:=fun q h=>rfl
 have r11 : ∀ (q : PM.Pr) (h : 11 < q.row.size),q.row[11] = .int .i64 q.fk:=fun q h=>rfl
 have r12 : ∀ (q : PM.Pr) (h : 12 < q.row.size),q.row[12] = .int .i64 q.fa:=fun q h=>rfl
 have rs:=PM.row_size
 have e8:=PM.row_pc
 have e9:=PM.row_st
 have e10:=PM.row_cd
 have HB0:=hideC ((((Below.refl w.heap.size w).alloc (Nat.le_refl _) (.cells (({ p with pc:=wrap64 (p.pc + 8) } : PM.Pr)).row 70)).alloc (by simp) (.cells #[.int .i64 16,.int .i64 a,.int .i64 b,.int .i64 c,.int .i64 m] 99)).alloc (by simp;omega) (.cells #[.int .i64 0,.int .i64 0,.int .i64 0,.int .i64 0,.int .i64 0,.int .i64 0,.int .i64 0,.int .i64 0,.int .i64 0,.int .i64 0,.int .i64 0,.int .i64 0,.int .i64 0] 70))
 have BR:=hideC (B.new ((w.alloc (.cells (({ p with pc:=wrap64 (p.pc + 8) } : PM.Pr)).row 70)).alloc (.cells #[.int .i64 16,.int .i64 a,.int .i64 b,.int .i64 c,.int .i64 m] 99)) #[.int .i64 0,.int .i64 0,.int .i64 0,.int .i64 0,.int .i64 0,.int .i64 0,.int .i64 0,.int .i64 0,.int .i64 0,.int .i64 0,.int .i64 0,.int .i64 0,.int .i64 0] 70)
 rw [World.size_alloc,World.size_alloc] at BR
 go_enter Tryz.func148,Tryz.ntmps148
 go_wp2_with fail
 refine (HC.out _).mono ?_
 rintro e w1 ⟨rfl,hb1⟩
 have HB1:=hideC (HB0.out.trans (hb1.mono HB0.out.size))
 have BR1:=hideC (B.below BR.out hb1 (B.isLt BR.out))
 clear hb1 HB0 BR HC
 have u0 : ∀ j,w1.frozen? ⟨w.heap.size + 1 + 1,j,none⟩ = false:=fun j=>B.free BR1.out j
 have t0 : w1.cell? ⟨w.heap.size + 1 + 1,0,none⟩ = some (.int .i64 0):=B.cell BR1.out 0 rfl
 have t1 : w1.cell? ⟨w.heap.size + 1 + 1,1,none⟩ = some (.int .i64 0):=B.cell BR1.out 1 rfl
 have t2 : w1.cell? ⟨w.heap.size + 1 + 1,2,none⟩ = some (.int .i64 0):=B.cell BR1.out 2 rfl
 have t3 : w1.cell? ⟨w.heap.size + 1 + 1,3,none⟩ = some (.int .i64 0):=B.cell BR1.out 3 rfl
 have t4 : w1.cell? ⟨w.heap.size + 1 + 1,4,none⟩ = some (.int .i64 0):=B.cell BR1.out 4 rfl
 have t5 : w1.cell? ⟨w.heap.size + 1 + 1,5,none⟩ = some (.int .i64 0):=B.cell BR1.out 5 rfl
 have t6 : w1.cell? ⟨w.heap.size + 1 + 1,6,none⟩ = some (.int .i64 0):=B.cell BR1.out 6 rfl
 have t7 : w1.cell? ⟨w.heap.size + 1 + 1,7,none⟩ = some (.int .i64 0):=B.cell BR1.out 7 rfl
 have t8 : w1.cell? ⟨w.heap.size + 1 + 1,8,none⟩ = some (.int .i64 0):=B.cell BR1.out 8 rfl
 have t9 : w1.cell? ⟨w.heap.size + 1 + 1,9,none⟩ = some (.int .i64 0):=B.cell BR1.out 9 rfl
 have t10 : w1.cell? ⟨w.heap.size + 1 + 1,10,none⟩ = some (.int .i64 0):=B.cell BR1.out 10 rfl
 have t11 : w1.cell? ⟨w.heap.size + 1 + 1,11,none⟩ = some (.int .i64 0):=B.cell BR1.out 11 rfl
 have t12 : w1.cell? ⟨w.heap.size + 1 + 1,12,none⟩ = some (.int .i64 0):=B.cell BR1.out 12 rfl
 unfold PM.Pr.row
 go_wp2
 refine bodyPost_ret (v:=.agg (R).row) (by simp [results,Tryz.results148,go_sem,t0,t1,t2,t3,t4,t5,t6,t7,t8,t9,t10,t11,t12];rfl) rfl ?_
 exact ⟨rfl,((((((((((((HB1.out.setCell (by simp;omega) _).setCell (by simp;omega) _).setCell (by simp;omega) _).setCell (by simp;omega) _).setCell (by simp;omega) _).setCell (by simp;omega) _).setCell (by simp;omega) _).setCell (by simp;omega) _).setCell (by simp;omega) _).setCell (by simp;omega) _).setCell (by simp;omega) _).setCell (by simp;omega) _).setCell (by simp;omega) _⟩
theorem behind_any (p : PM.Pr) (i : PM.Ins) (v : Int) (w : World) (hf : i.fits) (hb : i.bad = false) : Calls Tryz.prog 148 #[.agg p.row,.agg i.cells,.int .i64 v] w fun e w'=>e = .returned (.agg (PM.doneN p i v).row) /\ Below w.heap.size w w':=by
 obtain ⟨op,a,b,c,m⟩:=i
 obtain ⟨-,ha,hb',hc,-⟩:=hf
 rcases op_cases op with h | h | h | h | h | h | h | h | h | h | h | h | h | h | h | h | h
 · rw [bad_else _ h] at hb;cases hb
 · subst h
   obtain ⟨na,rfl,hna⟩:=nb_lt ha (of_decide_eq_false hb)
   exact behind1 p na b c m v w hna
 · subst h
   have hb2 : ¬ (8 <= a ∨ 8 <= b ∨ 8 <= c):=of_decide_eq_false hb
   obtain ⟨na,rfl,hna⟩:=nb_lt ha (fun h=>hb2 (.inl h))
   obtain ⟨nb,rfl,hnb⟩:=nb_lt hb' (fun h=>hb2 (.inr (.inl h)))
   obtain ⟨nc,rfl,hnc⟩:=nb_lt hc (fun h=>hb2 (.inr (.inr h)))
   exact behind2 p na nb nc m v w hna hnb hnc
 · subst h
   have hb2 : ¬ (8 <= a ∨ 8 <= b ∨ 8 <= c):=of_decide_eq_false hb
   obtain ⟨na,rfl,hna⟩:=nb_lt ha (fun h=>hb2 (.inl h))
   obtain ⟨nb,rfl,hnb⟩:=nb_lt hb' (fun h=>hb2 (.inr (.inl h)))
   obtain ⟨nc,rfl,hnc⟩:=nb_lt hc (fun h=>hb2 (.inr (.inr h)))
   exact behind3 p na nb nc m v w hna hnb hnc
 · subst h
   have hb2 : ¬ (8 <= a ∨ 8 <= b ∨ 8 <= c):=of_decide_eq_false hb
   obtain ⟨na,rfl,hna⟩:=nb_lt ha (fun h=>hb2 (.inl h))
   obtain ⟨nb,rfl,hnb⟩:=nb_lt hb' (fun h=>hb2 (.inr (.inl h)))
   obtain ⟨nc,rfl,hnc⟩:=nb_lt hc (fun h=>hb2 (.inr (.inr h)))
   exact behind4 p na nb nc m v w hna hnb hnc
 · subst h
   have hb2 : ¬ (8 <= a ∨ 8 <= b ∨ 8 <= c):=of_decide_eq_false hb
   obtain ⟨na,rfl,hna⟩:=nb_lt ha (fun h=>hb2 (.inl h))
   obtain ⟨nb,rfl,hnb⟩:=nb_lt hb' (fun h=>hb2 (.inr (.inl h)))
   obtain ⟨nc,rfl,hnc⟩:=nb_lt hc (fun h=>hb2 (.inr (.inr h)))
   exact behind5 p na nb nc m v w hna hnb hnc
 · subst h
   have hb2 : ¬ (8 <= a ∨ 8 <= b ∨ 8 <= c):=of_decide_eq_false hb
   obtain ⟨na,rfl,hna⟩:=nb_lt ha (fun h=>hb2 (.inl h))
   obtain ⟨nb,rfl,hnb⟩:=nb_lt hb' (fun h=>hb2 (.inr (.inl h)))
   obtain ⟨nc,rfl,hnc⟩:=nb_lt hc (fun h=>hb2 (.inr (.inr h)))
   exact behind6 p na nb nc m v w hna hnb hnc
 · subst h
   have hb2 : ¬ (8 <= a ∨ 8 <= b ∨ 8 <= c):=of_decide_eq_false hb
   obtain ⟨na,rfl,hna⟩:=nb_lt ha (fun h=>hb2 (.inl h))
   obtain ⟨nb,rfl,hnb⟩:=nb_lt hb' (fun h=>hb2 (.inr (.inl h)))
   obtain ⟨nc,rfl,hnc⟩:=nb_lt hc (fun h=>hb2 (.inr (.inr h)))
   exact behind7 p na nb nc m v w hna hnb hnc
 · subst h
   have hb2 : ¬ (8 <= a ∨ 8 <= b):=of_decide_eq_false hb
   obtain ⟨na,rfl,hna⟩:=nb_lt ha (fun h=>hb2 (.inl h))
   obtain ⟨nb,rfl,hnb⟩:=nb_lt hb' (fun h=>hb2 (.inr h))
   exact behind8 p na nb c m v w hna hnb
 · subst h
   have hb3 : (decide (8 <= a ∨ 8 <= b) || !(PM.isSize c)) = false:=hb
   have hb2 : ¬ (8 <= a ∨ 8 <= b):=of_decide_eq_false (Bool.or_eq_false_iff.1 hb3).1
   obtain ⟨na,rfl,hna⟩:=nb_lt ha (fun h=>hb2 (.inl h))
   obtain ⟨nb,rfl,hnb⟩:=nb_lt hb' (fun h=>hb2 (.inr h))
   exact behind9 p na nb c m v w hna hnb
 · subst h
   have hb3 : (decide (8 <= a ∨ 8 <= b) || !(PM.isSize c)) = false:=hb
   have hb2 : ¬ (8 <= a ∨ 8 <= b):=of_decide_eq_false (Bool.or_eq_false_iff.1 hb3).1
   obtain ⟨na,rfl,hna⟩:=nb_lt ha (fun h=>hb2 (.inl h))
   obtain ⟨nb,rfl,hnb⟩:=nb_lt hb' (fun h=>hb2 (.inr h))
   exact behind10 p na nb c m v w hna hnb
 · subst h
   obtain ⟨na,rfl,hna⟩:=nb_lt ha (of_decide_eq_false hb)
   exact behind11 p na b c m v w hna
 · subst h
   exact behind12 p a b c m v w
 · subst h
   have hb2 : ¬ (8 <= a ∨ 8 <= b):=of_decide_eq_false hb
   obtain ⟨na,rfl,hna⟩:=nb_lt ha (fun h=>hb2 (.inl h))
   obtain ⟨nb,rfl,hnb⟩:=nb_lt hb' (fun h=>hb2 (.inr h))
   exact behind13 p na nb c m v w hna hnb
 · subst h
   have hb2 : ¬ (8 <= a ∨ 8 <= b):=of_decide_eq_false hb
   obtain ⟨na,rfl,hna⟩:=nb_lt ha (fun h=>hb2 (.inl h))
   obtain ⟨nb,rfl,hnb⟩:=nb_lt hb' (fun h=>hb2 (.inr h))
   exact behind14 p na nb c m v w hna hnb
 · subst h
   obtain ⟨na,rfl,hna⟩:=nb_lt ha (of_decide_eq_false hb)
   exact behind15 p na b c m v w hna
 · subst h
   have hb3 : (!(decide (1 <= m /\ m <= 6))) = false:=hb
   exact behind16 p a b c m v w (by simpa using hb3)
theorem set13_below {N g : Nat} {w W : World} (h : Below N w W) (hg : N <= g) (v0 v1 v2 v3 v4 v5 v6 v7 v8 v9 v10 v11 v12 : Value) : Below N w (((((((((((((W.setCell ⟨g,0,none⟩ v0).setCell ⟨g,1,none⟩ v1).setCell ⟨g,2,none⟩ v2).setCell ⟨g,3,none⟩ v3).setCell ⟨g,4,none⟩ v4).setCell ⟨g,5,none⟩ v5).setCell ⟨g,6,none⟩ v6).setCell ⟨g,7,none⟩ v7).setCell ⟨g,8,none⟩ v8).setCell ⟨g,9,none⟩ v9).setCell ⟨g,10,none⟩ v10).setCell ⟨g,11,none⟩ v11).setCell ⟨g,12,none⟩ v12) :=
 (((((((((((((h.setCell (p:=⟨g,0,none⟩) hg v0).setCell (p:=⟨g,1,none⟩) hg v1).setCell (p:=⟨g,2,none⟩) hg v2).setCell (p:=⟨g,3,none⟩) hg v3).setCell (p:=⟨g,4,none⟩) hg v4).setCell (p:=⟨g,5,none⟩) hg v5).setCell (p:=⟨g,6,none⟩) hg v6).setCell (p:=⟨g,7,none⟩) hg v7).setCell (p:=⟨g,8,none⟩) hg v8).setCell (p:=⟨g,9,none⟩) hg v9).setCell (p:=⟨g,10,none⟩) hg v10).setCell (p:=⟨g,11,none⟩) hg v11).setCell (p:=⟨g,12,none⟩) hg v12)
set_option maxHeartbeats 1000000 in
theorem done_yes (p : PM.Pr) (s : ByteArray) (v : Int) (w : World) (h : s.size = 8) (bad : (PM.ins s).bad = false) : Calls Tryz.prog 129 #[p.val,.string s,.int .i64 v] w fun e w'=>e = .returned (.tuple #[.agg (PM.doneN p (PM.ins s) v).row,.int .i64 0]) /\ Below w.heap.size w w':=by
 have HD:=hideC (fun V=>decode_yes s V h)
 have hfit:=PM.ins_fits s h
 obtain ⟨i,hi⟩ : ∃ i,i = PM.ins s:=⟨_,rfl⟩
 rw [<- hi] at HD hfit bad ⊢
 have HK:=hideC (fun V=>isBad_any i V hfit)
 have HBad:=hideC bad
 clear hi h
 have HN:=hideC (fun V=>behind_any p i v V hfit bad)
 rw [bad] at HK
 obtain ⟨R,hR⟩ : ∃ R,R = PM.doneN p i v:=⟨_,rfl⟩
 rw [<- hR] at HN ⊢
 obtain ⟨op,a,b,c,m⟩:=i
 unfold PM.Ins.cells at HD HK HN
 simp only at HD HK HN
 clear hfit bad HBad hR
 have HB0:=hideC (((Below.refl w.heap.size w).alloc (Nat.le_refl _) (.cells p.row 70)).alloc (by simp) (.cells #[.int .i64 0,.int .i64 0,.int .i64 0,.int .i64 0,.int .i64 0,.int .i64 0,.int .i64 0,.int .i64 0,.int .i64 0,.int .i64 0,.int .i64 0,.int .i64 0,.int .i64 0] 70))
 have BP:=hideC (B.alloc (B.new w p.row 70) (.cells #[.int .i64 0,.int .i64 0,.int .i64 0,.int .i64 0,.int .i64 0,.int .i64 0,.int .i64 0,.int .i64 0,.int .i64 0,.int .i64 0,.int .i64 0,.int .i64 0,.int .i64 0] 70))
 have BR:=hideC (B.new (w.alloc (.cells p.row 70)) #[.int .i64 0,.int .i64 0,.int .i64 0,.int .i64 0,.int .i64 0,.int .i64 0,.int .i64 0,.int .i64 0,.int .i64 0,.int .i64 0,.int .i64 0,.int .i64 0,.int .i64 0] 70)
 rw [World.size_alloc] at BR
 unfold PM.Pr.val
 go_enter Tryz.func129,Tryz.ntmps129
 go_wp2_with fail
 refine (HD.out _).mono ?_
 rintro e w1 ⟨rfl,hb1⟩
 have HB1:=hideC (HB0.out.trans (hb1.mono HB0.out.size))
 have BP1:=hideC (B.below BP.out hb1 (B.isLt BP.out))
 have BR1:=hideC (B.below BR.out hb1 (B.isLt BR.out))
 have HA1:=hideC ((Below.refl w1.heap.size w1).alloc (Nat.le_refl _) (.cells #[.int .i64 op,.int .i64 a,.int .i64 b,.int .i64 c,.int .i64 m] 99))
 have BI1:=hideC (B.new w1 #[.int .i64 op,.int .i64 a,.int .i64 b,.int .i64 c,.int .i64 m] 99)
 clear hb1
 go_wp2_with fail
 refine (HK.out _).mono ?_
 rintro e w2 ⟨rfl,hb2⟩
 have HB2:=hideC (HB1.out.trans ((HA1.out.trans (hb2.mono HA1.out.size)).mono HB1.out.size))
 have BP2:=hideC (B.below (B.alloc BP1.out _) hb2 (B.isLt (B.alloc BP1.out _)))
 have BR2:=hideC (B.below (B.alloc BR1.out _) hb2 (B.isLt (B.alloc BR1.out _)))
 have BI2:=hideC (B.below BI1.out hb2 (B.isLt BI1.out))
 clear hb2 HA1 BR1 BP1 HB0 BP BR HD HK HB1 BI1
 have p0 : w2.cell? ⟨w.heap.size,0,none⟩ = some (.int .i64 (p.r 0)):=B.cell BP2.out 0 rfl
 have p1 : w2.cell? ⟨w.heap.size,1,none⟩ = some (.int .i64 (p.r 1)):=B.cell BP2.out 1 rfl
 have p2 : w2.cell? ⟨w.heap.size,2,none⟩ = some (.int .i64 (p.r 2)):=B.cell BP2.out 2 rfl
 have p3 : w2.cell? ⟨w.heap.size,3,none⟩ = some (.int .i64 (p.r 3)):=B.cell BP2.out 3 rfl
 have p4 : w2.cell? ⟨w.heap.size,4,none⟩ = some (.int .i64 (p.r 4)):=B.cell BP2.out 4 rfl
 have p5 : w2.cell? ⟨w.heap.size,5,none⟩ = some (.int .i64 (p.r 5)):=B.cell BP2.out 5 rfl
 have p6 : w2.cell? ⟨w.heap.size,6,none⟩ = some (.int .i64 (p.r 6)):=B.cell BP2.out 6 rfl
 have p7 : w2.cell? ⟨w.heap.size,7,none⟩ = some (.int .i64 (p.r 7)):=B.cell BP2.out 7 rfl
 have p8 : w2.cell? ⟨w.heap.size,8,none⟩ = some (.int .i64 p.pc):=B.cell BP2.out 8 rfl
 have p9 : w2.cell? ⟨w.heap.size,9,none⟩ = some (.int .i64 p.st):=B.cell BP2.out 9 rfl
 have p10 : w2.cell? ⟨w.heap.size,10,none⟩ = some (.int .i64 p.cd):=B.cell BP2.out 10 rfl
 have p11 : w2.cell? ⟨w.heap.size,11,none⟩ = some (.int .i64 p.fk):=B.cell BP2.out 11 rfl
 have p12 : w2.cell? ⟨w.heap.size,12,none⟩ = some (.int .i64 p.fa):=B.cell BP2.out 12 rfl
 have i0 : w2.cell? ⟨w1.heap.size,0,none⟩ = some (.int .i64 op):=B.cell BI2.out 0 rfl
 have i1 : w2.cell? ⟨w1.heap.size,1,none⟩ = some (.int .i64 a):=B.cell BI2.out 1 rfl
 have i2 : w2.cell? ⟨w1.heap.size,2,none⟩ = some (.int .i64 b):=B.cell BI2.out 2 rfl
 have i3 : w2.cell? ⟨w1.heap.size,3,none⟩ = some (.int .i64 c):=B.cell BI2.out 3 rfl
 have i4 : w2.cell? ⟨w1.heap.size,4,none⟩ = some (.int .i64 m):=B.cell BI2.out 4 rfl
 unfold PM.Pr.row at HN
 go_wp2_with fail
 refine (HN.out _).mono ?_
 rintro e w3 ⟨rfl,hb3⟩
 have HB3:=hideC (HB2.out.trans (hb3.mono HB2.out.size))
 have BR3:=hideC (B.below BR2.out hb3 (B.isLt BR2.out))
 have t0 : w3.cell? ⟨w.heap.size + 1,0,none⟩ = some (.int .i64 0):=B.cell BR3.out 0 rfl
 have t1 : w3.cell? ⟨w.heap.size + 1,1,none⟩ = some (.int .i64 0):=B.cell BR3.out 1 rfl
 have t2 : w3.cell? ⟨w.heap.size + 1,2,none⟩ = some (.int .i64 0):=B.cell BR3.out 2 rfl
 have t3 : w3.cell? ⟨w.heap.size + 1,3,none⟩ = some (.int .i64 0):=B.cell BR3.out 3 rfl
 have t4 : w3.cell? ⟨w.heap.size + 1,4,none⟩ = some (.int .i64 0):=B.cell BR3.out 4 rfl
 have t5 : w3.cell? ⟨w.heap.size + 1,5,none⟩ = some (.int .i64 0):=B.cell BR3.out 5 rfl
 have t6 : w3.cell? ⟨w.heap.size + 1,6,none⟩ = some (.int .i64 0):=B.cell BR3.out 6 rfl
 have t7 : w3.cell? ⟨w.heap.size + 1,7,none⟩ = some (.int .i64 0):=B.cell BR3.out 7 rfl
 have t8 : w3.cell? ⟨w.heap.size + 1,8,none⟩ = some (.int .i64 0):=B.cell BR3.out 8 rfl
 have t9 : w3.cell? ⟨w.heap.size + 1,9,none⟩ = some (.int .i64 0):=B.cell BR3.out 9 rfl
 have t10 : w3.cell? ⟨w.heap.size + 1,10,none⟩ = some (.int .i64 0):=B.cell BR3.out 10 rfl
 have t11 : w3.cell? ⟨w.heap.size + 1,11,none⟩ = some (.int .i64 0):=B.cell BR3.out 11 rfl
 have t12 : w3.cell? ⟨w.heap.size + 1,12,none⟩ = some (.int .i64 0):=B.cell BR3.out 12 rfl
 have u0 : ∀ j,w3.frozen? ⟨w.heap.size + 1,j,none⟩ = false:=fun j=>B.free BR3.out j
 clear hb3 HN
 go_wp2
 refine bodyPost_ret (v:=.tuple #[.agg R.row,.int .i64 0]) (by simp [results,Tryz.results129,go_sem,t0,t1,t2,t3,t4,t5,t6,t7,t8,t9,t10,t11,t12];rfl) rfl ?_
 exact ⟨rfl,set13_below HB3.out (Nat.le_succ _) _ _ _ _ _ _ _ _ _ _ _ _ _⟩
end PW
end Go.Proofs.YtkdigjpejnebkaaGreat
