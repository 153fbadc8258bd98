import Derived.Test.YtkdigjpejnebkaaGreatGS29
import Derived.StillTailTactics
set_option linter.unusedVariables false
set_option maxRecDepth 100000
set_option linter.unusedSimpArgs false
namespace Go.Proofs.YtkdigjpejnebkaaGreat
namespace PW
open Go.RowKit
set_option maxHeartbeats 2000000 in
theorem behind5 (p : PM.Pr) (na : Nat) (nb : Nat) (nc : Nat) (m v : Int) (w : World) (hna : na < 8) (hnb : nb < 8) (hnc : nc < 8) : Calls Tryz.prog 148 #[.agg p.row,.agg #[.int .i64 5,.int .i64 na,.int .i64 nb,.int .i64 nc,.int .i64 m],.int .i64 v] w fun e w'=>e = .returned (.agg (PM.doneN p ⟨5,na,nb,nc,m⟩ v).row) /\ Below w.heap.size w w':=by
 have HR:=hideC (show PM.doneN p ⟨5,na,nb,nc,m⟩ v = ({ p with pc:=wrap64 (p.pc + 8) } : PM.Pr).set na (PM.rk 5 (p.r nb) (p.r nc)) from rfl)
 rw [HR.out]
 clear HR
 have r0 : ∀ (q : PM.Pr) (h : 0 < q.row.size),q.row[0] = .int .i64 (q.r 0):=fun q h=>rfl
 have r1 : ∀ (q : PM.Pr) (h : 1 < q.row.size),q.row[1] = .int .i64 (q.r 1):=fun q h=>rfl
 have r2 : ∀ (q : PM.Pr) (h : 2 < q.row.size),q.row[2] = .int .i64 (q.r 2):=fun q h=>rfl
 have r3 : ∀ (q : PM.Pr) (h : 3 < q.row.size),q.row[3] = .int .i64 (q.r 3):=fun q h=>rfl
 have r4 : ∀ (q : PM.Pr) (h : 4 < q.row.size),q.row[4] = .int .i64 (q.r 4):=fun q h=>rfl
 have r5 : ∀ (q : PM.Pr) (h : 5 < q.row.size),q.row[5] = .int .i64 (q.r 5):=fun q h=>rfl
 have r6 : ∀ (q : PM.Pr) (h : 6 < q.row.size),q.row[6] = .int .i64 (q.r 6):=fun q h=>rfl
 have r7 : ∀ (q : PM.Pr) (h : 7 < q.row.size),q.row[7] = .int .i64 (q.r 7):=fun q h=>rfl
 have r8 : ∀ (q : PM.Pr) (h : 8 < q.row.size),q.row[8] = .int .i64 q.pc:=fun q h=>rfl
 have r9 : ∀ (q : PM.Pr) (h : 9 < q.row.size),q.row[9] = .int .i64 q.st:=fun q h=>rfl
 have r10 : ∀ (q : PM.Pr) (h : 10 < q.row.size),q.row[10] = .int .i64 q.cd:=fun q h=>rfl
 have r11 : ∀ (q : PM.Pr) (h : 11 < q.row.size),q.row[11] = .int .i64 q.fk:=fun q h=>rfl
 have r12 : ∀ (q : PM.Pr) (h : 12 < q.row.size),q.row[12] = .int .i64 q.fa:=fun q h=>rfl
 have rs:=PM.row_size
 have e8:=PM.row_pc
 have e9:=PM.row_st
 have e10:=PM.row_cd
 have sa : ∀ (q : PM.Pr) (v : Int),q.row.setIfInBounds na (.int .i64 v) = (q.set na v).row:=fun q v=>PM.row_set q na v hna
 have ga1 : ∀ (q : PM.Pr),q.row[na]? = some (.int .i64 (q.r na)):=fun q=>PM.row_get q na hna
 have ga : ∀ (q : PM.Pr) (h : na < q.row.size),q.row[na] = .int .i64 (q.r na):=fun q h=>PM.row_at q na hna h
 have ba0 : (0 : Int) <= (na : Int):=by omega
 have ba1 : (na : Int) < 8:=by omega
 have sb : ∀ (q : PM.Pr) (v : Int),q.row.setIfInBounds nb (.int .i64 v) = (q.set nb v).row:=fun q v=>PM.row_set q nb v hnb
 have gb1 : ∀ (q : PM.Pr),q.row[nb]? = some (.int .i64 (q.r nb)):=fun q=>PM.row_get q nb hnb
 have gb : ∀ (q : PM.Pr) (h : nb < q.row.size),q.row[nb] = .int .i64 (q.r nb):=fun q h=>PM.row_at q nb hnb h
 have bb0 : (0 : Int) <= (nb : Int):=by omega
 have bb1 : (nb : Int) < 8:=by omega
 have sc : ∀ (q : PM.Pr) (v : Int),q.row.setIfInBounds nc (.int .i64 v) = (q.set nc v).row:=fun q v=>PM.row_set q nc v hnc
 have gc1 : ∀ (q : PM.Pr),q.row[nc]? = some (.int .i64 (q.r nc)):=fun q=>PM.row_get q nc hnc
 have gc : ∀ (q : PM.Pr) (h : nc < q.row.size),q.row[nc] = .int .i64 (q.r nc):=fun q h=>PM.row_at q nc hnc h
 have bc0 : (0 : Int) <= (nc : Int):=by omega
 have bc1 : (nc : Int) < 8:=by omega
 have BP:=hideC (B.alloc (B.alloc (B.new w (({ p with pc:=wrap64 (p.pc + 8) } : PM.Pr)).row 70) (.cells #[.int .i64 5,.int .i64 na,.int .i64 nb,.int .i64 nc,.int .i64 m] 99)) (.cells #[.int .i64 0,.int .i64 0,.int .i64 0,.int .i64 0,.int .i64 0,.int .i64 0,.int .i64 0,.int .i64 0,.int .i64 0,.int .i64 0,.int .i64 0,.int .i64 0,.int .i64 0] 70))
 have BI:=hideC (B.alloc (B.new (w.alloc (.cells (({ p with pc:=wrap64 (p.pc + 8) } : PM.Pr)).row 70)) #[.int .i64 5,.int .i64 na,.int .i64 nb,.int .i64 nc,.int .i64 m] 99) (.cells #[.int .i64 0,.int .i64 0,.int .i64 0,.int .i64 0,.int .i64 0,.int .i64 0,.int .i64 0,.int .i64 0,.int .i64 0,.int .i64 0,.int .i64 0,.int .i64 0,.int .i64 0] 70))
 rw [World.size_alloc] at BI
 obtain ⟨W,hW⟩ : ∃ W,W = (((w.alloc (.cells (({ p with pc:=wrap64 (p.pc + 8) } : PM.Pr)).row 70)).alloc (.cells #[.int .i64 5,.int .i64 na,.int .i64 nb,.int .i64 nc,.int .i64 m] 99)).alloc (.cells #[.int .i64 0,.int .i64 0,.int .i64 0,.int .i64 0,.int .i64 0,.int .i64 0,.int .i64 0,.int .i64 0,.int .i64 0,.int .i64 0,.int .i64 0,.int .i64 0,.int .i64 0] 70)):=⟨_,rfl⟩
 have HW:=hideC hW
 rw [<- hW] at BP BI
 clear hW
 have k0 : W.cell? ⟨w.heap.size + 1,0,none⟩ = some (.int .i64 (5)):=B.cell BI.out 0 rfl
 have k1 : W.cell? ⟨w.heap.size + 1,1,none⟩ = some (.int .i64 (na)):=B.cell BI.out 1 rfl
 have k2 : W.cell? ⟨w.heap.size + 1,2,none⟩ = some (.int .i64 (nb)):=B.cell BI.out 2 rfl
 have k3 : W.cell? ⟨w.heap.size + 1,3,none⟩ = some (.int .i64 (nc)):=B.cell BI.out 3 rfl
 have k4 : W.cell? ⟨w.heap.size,nb,none⟩ = some (.int .i64 (p.r nb)):=B.cell BP.out nb (gb1 _)
 have k5 : W.cell? ⟨w.heap.size,nc,none⟩ = some (.int .i64 (p.r nc)):=B.cell BP.out nc (gc1 _)
 go_enter Tryz.func148,Tryz.ntmps148
 go_wp2_with fail
 rw [<- HW.out]
 refine wp_region_still_tail 17 (by kernel_rfl) (by kernel_rfl) ?_
 simp only [List.take_succ_cons,List.take_zero,List.drop_succ_cons,List.drop_zero]
 show wpStill _ _ W.drew _ _ _
 repeat (first | still_step | still_call ((reckon5 _ _ _).mono fun e w' h=>⟨h.1,h.2.symm⟩))
 refine wpStill_nil ?_
 show wpList _ _ _ _ _ W.drew
 rw [HW.out]
 clear HW BP BI k0 k1 k2 k3 k4 k5
 go_wp2
 refine bodyPost_ret (v:=.agg (({ p with pc:=wrap64 (p.pc + 8) } : PM.Pr).set na (PM.rk 5 (p.r nb) (p.r nc))).row) (by simp [results,Tryz.results148,go_sem];rfl) rfl ?_
 exact ⟨rfl,(by first | exact (((Below.refl _ _).alloc (Nat.le_refl _) _).alloc (by simp) _).alloc (by simp;omega) _ | exact ((((Below.refl _ _).alloc (Nat.le_refl _) _).alloc (by simp) _).alloc (by simp;omega) _).drew)⟩
set_option maxHeartbeats 2000000 in
theorem behind6 (p : PM.Pr) (na : Nat) (nb : Nat) (nc : Nat) (m v : Int) (w : World) (hna : na < 8) (hnb : nb < 8) (hnc : nc < 8) : Calls Tryz.prog 148 #[.agg p.row,.agg #[.int .i64 6,.int .i64 na,.int .i64 nb,.int .i64 nc,.int .i64 m],.int .i64 v] w fun e w'=>e = .returned (.agg (PM.doneN p ⟨6,na,nb,nc,m⟩ v).row) /\ Below w.heap.size w w':=by
 have HR:=hideC (show PM.doneN p ⟨6,na,nb,nc,m⟩ v = ({ p with pc:=wrap64 (p.pc + 8) } : PM.Pr).set na (PM.rk 6 (p.r nb) (p.r nc)) from rfl)
 rw [HR.out]
 clear HR
 have r0 : ∀ (q : PM.Pr) (h : 0 < q.row.size),q.row[0] = .int .i64 (q.r 0):=fun q h=>rfl
 have r1 : ∀ (q : PM.Pr) (h : 1 < q.row.size),q.row[1] = .int .i64 (q.r 1):=fun q h=>rfl
 have r2 : ∀ (q : PM.Pr) (h : 2 < q.row.size),q.row[2] = .int .i64 (q.r 2):=fun q h=>rfl
 have r3 : ∀ (q : PM.Pr) (h : 3 < q.row.size),q.row[3] = .int .i64 (q.r 3):=fun q h=>rfl
 have r4 : ∀ (q : PM.Pr) (h : 4 < q.row.size),q.row[4] = .int .i64 (q.r 4):=fun q h=>rfl
 have r5 : ∀ (q : PM.Pr) (h : 5 < q.row.size),q.row[5] = .int .i64 (q.r 5):=fun q h=>rfl
 have r6 : ∀ (q : PM.Pr) (h : 6 < q.row.size),q.row[6] = .int .i64 (q.r 6):=fun q h=>rfl
 have r7 : ∀ (q : PM.Pr) (h : 7 < q.row.size),q.row[7] = .int .i64 (q.r 7):=fun q h=>rfl
 have r8 : ∀ (q : PM.Pr) (h : 8 < q.row.size),q.row[8] = .int .i64 q.pc:=fun q h=>rfl
 have r9 : ∀ (q : PM.Pr) (h : 9 < q.row.size),q.row[9] = .int .i64 q.st:=fun q h=>rfl
 have r10 : ∀ (q : PM.Pr) (h : 10 < q.row.size),q.row[10] = .int .i64 q.cd:=fun q h=>rfl
 have r11 : ∀ (q : PM.Pr) (h : 11 < q.row.size),q.row[11] = .int .i64 q.fk:=fun q h=>rfl
 have r12 : ∀ (q : PM.Pr) (h : 12 < q.row.size),q.row[12] = .int .i64 q.fa:=fun q h=>rfl
 have rs:=PM.row_size
 have e8:=PM.row_pc
 have e9:=PM.row_st
 have e10:=PM.row_cd
 have sa : ∀ (q : PM.Pr) (v : Int),q.row.setIfInBounds na (.int .i64 v) = (q.set na v).row:=fun q v=>PM.row_set q na v hna
 have ga1 : ∀ (q : PM.Pr),q.row[na]? = some (.int .i64 (q.r na)):=fun q=>PM.row_get q na hna
 have ga : ∀ (q : PM.Pr) (h : na < q.row.size),q.row[na] = .int .i64 (q.r na):=fun q h=>PM.row_at q na hna h
 have ba0 : (0 : Int) <= (na : Int):=by omega
 have ba1 : (na : Int) < 8:=by omega
 have sb : ∀ (q : PM.Pr) (v : Int),q.row.setIfInBounds nb (.int .i64 v) = (q.set nb v).row:=fun q v=>PM.row_set q nb v hnb
 have gb1 : ∀ (q : PM.Pr),q.row[nb]? = some (.int .i64 (q.r nb)):=fun q=>PM.row_get q nb hnb
 have gb : ∀ (q : PM.Pr) (h : nb < q.row.size),q.row[nb] = .int .i64 (q.r nb):=fun q h=>PM.row_at q nb hnb h
 have bb0 : (0 : Int) <= (nb : Int):=by omega
 have bb1 : (nb : Int) < 8:=by omega
 have sc : ∀ (q : PM.Pr) (v : Int),q.row.setIfInBounds nc (.int .i64 v) = (q.set nc v).row:=fun q v=>PM.row_set q nc v hnc
 have gc1 : ∀ (q : PM.Pr),q.row[nc]? = some (.int .i64 (q.r nc)):=fun q=>PM.row_get q nc hnc
 have gc : ∀ (q : PM.Pr) (h : nc < q.row.size),q.row[nc] = .int .i64 (q.r nc):=fun q h=>PM.row_at q nc hnc h
 have bc0 : (0 : Int) <= (nc : Int):=by omega
 have bc1 : (nc : Int) < 8:=by omega
 have BP:=hideC (B.alloc (B.alloc (B.new w (({ p with pc:=wrap64 (p.pc + 8) } : PM.Pr)).row 70) (.cells #[.int .i64 6,.int .i64 na,.int .i64 nb,.int .i64 nc,.int .i64 m] 99)) (.cells #[.int .i64 0,.int .i64 0,.int .i64 0,.int .i64 0,.int .i64 0,.int .i64 0,.int .i64 0,.int .i64 0,.int .i64 0,.int .i64 0,.int .i64 0,.int .i64 0,.int .i64 0] 70))
 have BI:=hideC (B.alloc (B.new (w.alloc (.cells (({ p with pc:=wrap64 (p.pc + 8) } : PM.Pr)).row 70)) #[.int .i64 6,.int .i64 na,.int .i64 nb,.int .i64 nc,.int .i64 m] 99) (.cells #[.int .i64 0,.int .i64 0,.int .i64 0,.int .i64 0,.int .i64 0,.int .i64 0,.int .i64 0,.int .i64 0,.int .i64 0,.int .i64 0,.int .i64 0,.int .i64 0,.int .i64 0] 70))
 rw [World.size_alloc] at BI
 obtain ⟨W,hW⟩ : ∃ W,W = (((w.alloc (.cells (({ p with pc:=wrap64 (p.pc + 8) } : PM.Pr)).row 70)).alloc (.cells #[.int .i64 6,.int .i64 na,.int .i64 nb,.int .i64 nc,.int .i64 m] 99)).alloc (.cells #[.int .i64 0,.int .i64 0,.int .i64 0,.int .i64 0,.int .i64 0,.int .i64 0,.int .i64 0,.int .i64 0,.int .i64 0,.int .i64 0,.int .i64 0,.int .i64 0,.int .i64 0] 70)):=⟨_,rfl⟩
 have HW:=hideC hW
 rw [<- hW] at BP BI
 clear hW
 have k0 : W.cell? ⟨w.heap.size + 1,0,none⟩ = some (.int .i64 (6)):=B.cell BI.out 0 rfl
 have k1 : W.cell? ⟨w.heap.size + 1,1,none⟩ = some (.int .i64 (na)):=B.cell BI.out 1 rfl
 have k2 : W.cell? ⟨w.heap.size + 1,2,none⟩ = some (.int .i64 (nb)):=B.cell BI.out 2 rfl
 have k3 : W.cell? ⟨w.heap.size + 1,3,none⟩ = some (.int .i64 (nc)):=B.cell BI.out 3 rfl
 have k4 : W.cell? ⟨w.heap.size,nb,none⟩ = some (.int .i64 (p.r nb)):=B.cell BP.out nb (gb1 _)
 have k5 : W.cell? ⟨w.heap.size,nc,none⟩ = some (.int .i64 (p.r nc)):=B.cell BP.out nc (gc1 _)
 go_enter Tryz.func148,Tryz.ntmps148
 go_wp2_with fail
 rw [<- HW.out]
 refine wp_region_still_tail 17 (by kernel_rfl) (by kernel_rfl) ?_
 simp only [List.take_succ_cons,List.take_zero,List.drop_succ_cons,List.drop_zero]
 show wpStill _ _ W.drew _ _ _
 repeat (first | still_step | still_call ((reckon6 _ _ _).mono fun e w' h=>⟨h.1,h.2.symm⟩))
 refine wpStill_nil ?_
 show wpList _ _ _ _ _ W.drew
 rw [HW.out]
 clear HW BP BI k0 k1 k2 k3 k4 k5
 go_wp2
 refine bodyPost_ret (v:=.agg (({ p with pc:=wrap64 (p.pc + 8) } : PM.Pr).set na (PM.rk 6 (p.r nb) (p.r nc))).row) (by simp [results,Tryz.results148,go_sem];rfl) rfl ?_
 exact ⟨rfl,(by first | exact (((Below.refl _ _).alloc (Nat.le_refl _) _).alloc (by simp) _).alloc (by simp;omega) _ | exact ((((Below.refl _ _).alloc (Nat.le_refl _) _).alloc (by simp) _).alloc (by simp;omega) _).drew)⟩
set_option maxHeartbeats 2000000 in
theorem behind7 (p : PM.Pr) (na : Nat) (nb : Nat) (nc : Nat) (m v : Int) (w : World) (hna : na < 8) (hnb : nb < 8) (hnc : nc < 8) : Calls Tryz.prog 148 #[.agg p.row,.agg #[.int .i64 7,.int .i64 na,.int .i64 nb,.int .i64 nc,.int .i64 m],.int .i64 v] w fun e w'=>e = .returned (.agg (PM.doneN p ⟨7,na,nb,nc,m⟩ v).row) /\ Below w.heap.size w w':=by
 have HR:=hideC (show PM.doneN p ⟨7,na,nb,nc,m⟩ v = ({ p with pc:=wrap64 (p.pc + 8) } : PM.Pr).set na (PM.rk 7 (p.r nb) (p.r nc)) from rfl)
 rw [HR.out]
 clear HR
 have r0 : ∀ (q : PM.Pr) (h : 0 < q.row.size),q.row[0] = .int .i64 (q.r 0):=fun q h=>rfl
 have r1 : ∀ (q : PM.Pr) (h : 1 < q.row.size),q.row[1] = .int .i64 (q.r 1):=fun q h=>rfl
 have r2 : ∀ (q : PM.Pr) (h : 2 < q.row.size),q.row[2] = .int .i64 (q.r 2):=fun q h=>rfl
 have r3 : ∀ (q : PM.Pr) (h : 3 < q.row.size),q.row[3] = .int .i64 (q.r 3):=fun q h=>rfl
 have r4 : ∀ (q : PM.Pr) (h : 4 < q.row.size),q.row[4] = .int .i64 (q.r 4):=fun q h=>rfl
 have r5 : ∀ (q : PM.Pr) (h : 5 < q.row.size),q.row[5] = .int .i64 (q.r 5):=fun q h=>rfl
 have r6 : ∀ (q : PM.Pr) (h : 6 < q.row.size),q.row[6] = .int .i64 (q.r 6):=fun q h=>rfl
 have r7 : ∀ (q : PM.Pr) (h : 7 < q.row.size),q.row[7] = .int .i64 (q.r 7):=fun q h=>rfl
 have r8 : ∀ (q : PM.Pr) (h : 8 < q.row.size),q.row[8] = .int .i64 q.pc:=fun q h=>rfl
 have r9 : ∀ (q : PM.Pr) (h : 9 < q.row.size),q.row[9] = .int .i64 q.st:=fun q h=>rfl
 have r10 : ∀ (q : PM.Pr) (h : 10 < q.row.size),q.row[10] = .int .i64 q.cd:=fun q h=>rfl
 have r11 : ∀ (q : PM.Pr) (h : 11 < q.row.size),q.row[11] = .int .i64 q.fk:=fun q h=>rfl
 have r12 : ∀ (q : PM.Pr) (h : 12 < q.row.size),q.row[12] = .int .i64 q.fa:=fun q h=>rfl
 have rs:=PM.row_size
 have e8:=PM.row_pc
 have e9:=PM.row_st
 have e10:=PM.row_cd
 have sa : ∀ (q : PM.Pr) (v : Int),q.row.setIfInBounds na (.int .i64 v) = (q.set na v).row:=fun q v=>PM.row_set q na v hna
 have ga1 : ∀ (q : PM.Pr),q.row[na]? = some (.int .i64 (q.r na)):=fun q=>PM.row_get q na hna
 have ga : ∀ (q : PM.Pr) (h : na < q.row.size),q.row[na] = .int .i64 (q.r na):=fun q h=>PM.row_at q na hna h
 have ba0 : (0 : Int) <= (na : Int):=by omega
 have ba1 : (na : Int) < 8:=by omega
 have sb : ∀ (q : PM.Pr) (v : Int),q.row.setIfInBounds nb (.int .i64 v) = (q.set nb v).row:=fun q v=>PM.row_set q nb v hnb
 have gb1 : ∀ (q : PM.Pr),q.row[nb]? = some (.int .i64 (q.r nb)):=fun q=>PM.row_get q nb hnb
 have gb : ∀ (q : PM.Pr) (h : nb < q.row.size),q.row[nb] = .int .i64 (q.r nb):=fun q h=>PM.row_at q nb hnb h
 have bb0 : (0 : Int) <= (nb : Int):=by omega
 have bb1 : (nb : Int) < 8:=by omega
 have sc : ∀ (q : PM.Pr) (v : Int),q.row.setIfInBounds nc (.int .i64 v) = (q.set nc v).row:=fun q v=>PM.row_set q nc v hnc
 have gc1 : ∀ (q : PM.Pr),q.row[nc]? = some (.int .i64 (q.r nc)):=fun q=>PM.row_get q nc hnc
 have gc : ∀ (q : PM.Pr) (h : nc < q.row.size),q.row[nc] = .int .i64 (q.r nc):=fun q h=>PM.row_at q nc hnc h
 have bc0 : (0 : Int) <= (nc : Int):=by omega
 have bc1 : (nc : Int) < 8:=by omega
 have BP:=hideC (B.alloc (B.alloc (B.new w (({ p with pc:=wrap64 (p.pc + 8) } : PM.Pr)).row 70) (.cells #[.int .i64 7,.int .i64 na,.int .i64 nb,.int .i64 nc,.int .i64 m] 99)) (.cells #[.int .i64 0,.int .i64 0,.int .i64 0,.int .i64 0,.int .i64 0,.int .i64 0,.int .i64 0,.int .i64 0,.int .i64 0,.int .i64 0,.int .i64 0,.int .i64 0,.int .i64 0] 70))
 have BI:=hideC (B.alloc (B.new (w.alloc (.cells (({ p with pc:=wrap64 (p.pc + 8) } : PM.Pr)).row 70)) #[.int .i64 7,.int .i64 na,.int .i64 nb,.int .i64 nc,.int .i64 m] 99) (.cells #[.int .i64 0,.int .i64 0,.int .i64 0,.int .i64 0,.int .i64 0,.int .i64 0,.int .i64 0,.int .i64 0,.int .i64 0,.int .i64 0,.int .i64 0,.int .i64 0,.int .i64 0] 70))
 rw [World.size_alloc] at BI
 obtain ⟨W,hW⟩ : ∃ W,W = (((w.alloc (.cells (({ p with pc:=wrap64 (p.pc + 8) } : PM.Pr)).row 70)).alloc (.cells #[.int .i64 7,.int .i64 na,.int .i64 nb,.int .i64 nc,.int .i64 m] 99)).alloc (.cells #[.int .i64 0,.int .i64 0,.int .i64 0,.int .i64 0,.int .i64 0,.int .i64 0,.int .i64 0,.int .i64 0,.int .i64 0,.int .i64 0,.int .i64 0,.int .i64 0,.int .i64 0] 70)):=⟨_,rfl⟩
 have HW:=hideC hW
 rw [<- hW] at BP BI
 clear hW
 have k0 : W.cell? ⟨w.heap.size + 1,0,none⟩ = some (.int .i64 (7)):=B.cell BI.out 0 rfl
 have k1 : W.cell? ⟨w.heap.size + 1,1,none⟩ = some (.int .i64 (na)):=B.cell BI.out 1 rfl
 have k2 : W.cell? ⟨w.heap.size + 1,2,none⟩ = some (.int .i64 (nb)):=B.cell BI.out 2 rfl
 have k3 : W.cell? ⟨w.heap.size + 1,3,none⟩ = some (.int .i64 (nc)):=B.cell BI.out 3 rfl
 have k4 : W.cell? ⟨w.heap.size,nb,none⟩ = some (.int .i64 (p.r nb)):=B.cell BP.out nb (gb1 _)
 have k5 : W.cell? ⟨w.heap.size,nc,none⟩ = some (.int .i64 (p.r nc)):=B.cell BP.out nc (gc1 _)
 go_enter Tryz.func148,Tryz.ntmps148
 go_wp2_with fail
 rw [<- HW.out]
 refine wp_region_still_tail 17 (by kernel_rfl) (by kernel_rfl) ?_
 simp only [List.take_succ_cons,List.take_zero,List.drop_succ_cons,List.drop_zero]
 show wpStill _ _ W.drew _ _ _
 repeat (first | still_step | still_call ((reckon7 _ _ _).mono fun e w' h=>⟨h.1,h.2.symm⟩))
 refine wpStill_nil ?_
 show wpList _ _ _ _ _ W.drew
 rw [HW.out]
 clear HW BP BI k0 k1 k2 k3 k4 k5
 go_wp2
 refine bodyPost_ret (v:=.agg (({ p with pc:=wrap64 (p.pc + 8) } : PM.Pr).set na (PM.rk 7 (p.r nb) (p.r nc))).row) (by simp [results,Tryz.results148,go_sem];rfl) rfl ?_
 exact ⟨rfl,(by first | exact (((Below.refl _ _).alloc (Nat.le_refl _) _).alloc (by simp) _).alloc (by simp;omega) _ | exact ((((Below.refl _ _).alloc (Nat.le_refl _) _).alloc (by simp) _).alloc (by simp;omega) _).drew)⟩
end PW
end Go.Proofs.YtkdigjpejnebkaaGreat
