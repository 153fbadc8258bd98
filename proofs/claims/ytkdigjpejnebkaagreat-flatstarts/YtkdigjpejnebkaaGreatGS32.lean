import Derived.Test.YtkdigjpejnebkaaGreatGS29
import Derived.StillTailTactics
set_option linter.unusedVariables false
set_option maxRecDepth 100000
set_option linter.unusedSimpArgs false
namespace Go.Proofs.YtkdigjpejnebkaaGreat
namespace PW
open Go.RowKit
set_option maxHeartbeats 2000000 in
theorem behind13 (p : PM.Pr) (na : Nat) (nb : Nat) (c : Int) (m v : Int) (w : World) (hna : na < 8) (hnb : nb < 8) : Calls Tryz.prog 148 #[.agg p.row,.agg #[.int .i64 13,.int .i64 na,.int .i64 nb,.int .i64 c,.int .i64 m],.int .i64 v] w fun e w'=>e = .returned (.agg (PM.doneN p ⟨13,na,nb,c,m⟩ v).row) /\ Below w.heap.size w w':=by
 by_cases hc : p.r na = p.r nb
 · have HR:=hideC (show PM.doneN p ⟨13,na,nb,c,m⟩ v = ({ p with pc:=wrap64 (p.pc + m) } : PM.Pr) from by show (if p.r na = p.r nb then _ else _) = _;rw [if_pos hc])
   rw [HR.out]
   clear HR
   have r0 : ∀ (q : PM.Pr) (h : 0 < q.row.size),q.row[0] = .int .i64 (q.r 0):=fun q h=>rfl
   have r1 : ∀ (q : PM.Pr) (h : 1 < q.row.size),q.row[1] = .int .i64 (q.r 1):=fun q h=>rfl
   have r2 : ∀ (q : PM.Pr) (h : 2 < q.row.size),q.row[2] = .int .i64 (q.r 2):=fun q h=>rfl
   have r3 : ∀ (q : PM.Pr) (h : 3 < q.row.size),q.row[3] = .int .i64 (q.r 3):=fun q h=>rfl
   have r4 : ∀ (q : PM.Pr) (h : 4 < q.row.size),q.row[4] = .int .i64 (q.r 4):=fun q h=>rfl
   have r5 : ∀ (q : PM.Pr) (h : 5 < q.row.size),q.row[5] = .int .i64 (q.r 5):=fun q h=>rfl
   have r6 : ∀ (q : PM.Pr) (h : 6 < q.row.size),q.row[6] = .int .i64 (q.r 6):=fun q h=>rfl
   have r7 : ∀ (q : PM.Pr) (h : 7 < q.row.size),q.row[7] = .int .i64 (q.r 7):=fun q h=>rfl
   have r8 : ∀ (q : PM.Pr) (h : 8 < q.row.size),q.row[8] = .int .i64 q.pc:=fun q h=>rfl
   have r9 : ∀ (q : PM.Pr) (h : 9 < q.row.size),q.row[9] = .int .i64 q.st:=fun q h=>rfl
   have r10 : ∀ (q : PM.Pr) (h : 10 < q.row.size),q.row[10] = .int .i64 q.cd:=fun q h=>rfl
   have r11 : ∀ (q : PM.Pr) (h : 11 < q.row.size),q.row[11] = .int .i64 q.fk:=fun q h=>rfl
   have r12 : ∀ (q : PM.Pr) (h : 12 < q.row.size),q.row[12] = .int .i64 q.fa:=fun q h=>rfl
   have rs:=PM.row_size
   have e8:=PM.row_pc
   have e9:=PM.row_st
   have e10:=PM.row_cd
   have sa : ∀ (q : PM.Pr) (v : Int),q.row.setIfInBounds na (.int .i64 v) = (q.set na v).row:=fun q v=>PM.row_set q na v hna
   have ga1 : ∀ (q : PM.Pr),q.row[na]? = some (.int .i64 (q.r na)):=fun q=>PM.row_get q na hna
   have ga : ∀ (q : PM.Pr) (h : na < q.row.size),q.row[na] = .int .i64 (q.r na):=fun q h=>PM.row_at q na hna h
   have ba0 : (0 : Int) <= (na : Int):=by omega
   have ba1 : (na : Int) < 8:=by omega
   have sb : ∀ (q : PM.Pr) (v : Int),q.row.setIfInBounds nb (.int .i64 v) = (q.set nb v).row:=fun q v=>PM.row_set q nb v hnb
   have gb1 : ∀ (q : PM.Pr),q.row[nb]? = some (.int .i64 (q.r nb)):=fun q=>PM.row_get q nb hnb
   have gb : ∀ (q : PM.Pr) (h : nb < q.row.size),q.row[nb] = .int .i64 (q.r nb):=fun q h=>PM.row_at q nb hnb h
   have bb0 : (0 : Int) <= (nb : Int):=by omega
   have bb1 : (nb : Int) < 8:=by omega
   have BP:=hideC (B.alloc (B.alloc (B.new w (({ p with pc:=wrap64 (p.pc + 8) } : PM.Pr)).row 70) (.cells #[.int .i64 13,.int .i64 na,.int .i64 nb,.int .i64 c,.int .i64 m] 99)) (.cells #[.int .i64 0,.int .i64 0,.int .i64 0,.int .i64 0,.int .i64 0,.int .i64 0,.int .i64 0,.int .i64 0,.int .i64 0,.int .i64 0,.int .i64 0,.int .i64 0,.int .i64 0] 70))
   have BI:=hideC (B.alloc (B.new (w.alloc (.cells (({ p with pc:=wrap64 (p.pc + 8) } : PM.Pr)).row 70)) #[.int .i64 13,.int .i64 na,.int .i64 nb,.int .i64 c,.int .i64 m] 99) (.cells #[.int .i64 0,.int .i64 0,.int .i64 0,.int .i64 0,.int .i64 0,.int .i64 0,.int .i64 0,.int .i64 0,.int .i64 0,.int .i64 0,.int .i64 0,.int .i64 0,.int .i64 0] 70))
   rw [World.size_alloc] at BI
   obtain ⟨W,hW⟩ : ∃ W,W = (((w.alloc (.cells (({ p with pc:=wrap64 (p.pc + 8) } : PM.Pr)).row 70)).alloc (.cells #[.int .i64 13,.int .i64 na,.int .i64 nb,.int .i64 c,.int .i64 m] 99)).alloc (.cells #[.int .i64 0,.int .i64 0,.int .i64 0,.int .i64 0,.int .i64 0,.int .i64 0,.int .i64 0,.int .i64 0,.int .i64 0,.int .i64 0,.int .i64 0,.int .i64 0,.int .i64 0] 70)):=⟨_,rfl⟩
   have HW:=hideC hW
   rw [<- hW] at BP BI
   clear hW
   have k0 : W.cell? ⟨w.heap.size + 1,0,none⟩ = some (.int .i64 (13)):=B.cell BI.out 0 rfl
   have k1 : W.cell? ⟨w.heap.size + 1,1,none⟩ = some (.int .i64 (na)):=B.cell BI.out 1 rfl
   have k2 : W.cell? ⟨w.heap.size + 1,2,none⟩ = some (.int .i64 (nb)):=B.cell BI.out 2 rfl
   have k3 : W.cell? ⟨w.heap.size,na,none⟩ = some (.int .i64 (p.r na)):=B.cell BP.out na (ga1 _)
   have k4 : W.cell? ⟨w.heap.size,nb,none⟩ = some (.int .i64 (p.r nb)):=B.cell BP.out nb (gb1 _)
   have HH : Hid (∀ V,Calls Tryz.prog 163 #[.int .i64 13,.int .i64 (p.r na),.int .i64 (p.r nb)] V fun e w'=>e = .returned (.bool true) /\ w' = V):=fun V=>(holds13 (p.r na) (p.r nb) V).mono fun e w' h=>⟨by rw [h.1,decide_eq_true hc],h.2.symm⟩
   clear hc
   go_enter Tryz.func148,Tryz.ntmps148
   go_wp2_with fail
   rw [<- HW.out]
   refine wp_region_still_lit (by kernel_rfl) (by kernel_rfl) ?_
   show wpStill _ _ W.drew _ _ _
   repeat (first | still_step | still_call (HH.out _))
   refine wpStill_nil ?_
   show Exit.then _ _ _ _ W.drew
   rw [HW.out]
   clear HW BP BI k0 k1 k2 k3 k4
   go_wp2
   refine bodyPost_ret (v:=.agg (({ p with pc:=wrap64 (p.pc + m) } : PM.Pr)).row) (by simp [results,Tryz.results148,go_sem];rfl) rfl ?_
   exact ⟨rfl,(by first | exact (((Below.refl _ _).alloc (Nat.le_refl _) _).alloc (by simp) _).alloc (by simp;omega) _ | exact ((((Below.refl _ _).alloc (Nat.le_refl _) _).alloc (by simp) _).alloc (by simp;omega) _).drew)⟩
 · have HR:=hideC (show PM.doneN p ⟨13,na,nb,c,m⟩ v = ({ p with pc:=wrap64 (p.pc + 8) } : PM.Pr) from by show (if p.r na = p.r nb then _ else _) = _;rw [if_neg hc])
   rw [HR.out]
   clear HR
   have r0 : ∀ (q : PM.Pr) (h : 0 < q.row.size),q.row[0] = .int .i64 (q.r 0):=fun q h=>rfl
   have r1 : ∀ (q : PM.Pr) (h : 1 < q.row.size),q.row[1] = .int .i64 (q.r 1):=fun q h=>rfl
   have r2 : ∀ (q : PM.Pr) (h : 2 < q.row.size),q.row[2] = .int .i64 (q.r 2):=fun q h=>rfl
   have r3 : ∀ (q : PM.Pr) (h : 3 < q.row.size),q.row[3] = .int .i64 (q.r 3):=fun q h=>rfl
   have r4 : ∀ (q : PM.Pr) (h : 4 < q.row.size),q.row[4] = .int .i64 (q.r 4):=fun q h=>rfl
   have r5 : ∀ (q : PM.Pr) (h : 5 < q.row.size),q.row[5] = .int .i64 (q.r 5):=fun q h=>rfl
   have r6 : ∀ (q : PM.Pr) (h : 6 < q.row.size),q.row[6] = .int .i64 (q.r 6):=fun q h=>rfl
   have r7 : ∀ (q : PM.Pr) (h : 7 < q.row.size),q.row[7] = .int .i64 (q.r 7):=fun q h=>rfl
   have r8 : ∀ (q : PM.Pr) (h : 8 < q.row.size),q.row[8] = .int .i64 q.pc:=fun q h=>rfl
   have r9 : ∀ (q : PM.Pr) (h : 9 < q.row.size),q.row[9] = .int .i64 q.st:=fun q h=>rfl
   have r10 : ∀ (q : PM.Pr) (h : 10 < q.row.size),q.row[10] = .int .i64 q.cd:=fun q h=>rfl
   have r11 : ∀ (q : PM.Pr) (h : 11 < q.row.size),q.row[11] = .int .i64 q.fk:=fun q h=>rfl
   have r12 : ∀ (q : PM.Pr) (h : 12 < q.row.size),q.row[12] = .int .i64 q.fa:=fun q h=>rfl
   have rs:=PM.row_size
   have e8:=PM.row_pc
   have e9:=PM.row_st
   have e10:=PM.row_cd
   have sa : ∀ (q : PM.Pr) (v : Int),q.row.setIfInBounds na (.int .i64 v) = (q.set na v).row:=fun q v=>PM.row_set q na v hna
   have ga1 : ∀ (q : PM.Pr),q.row[na]? = some (.int .i64 (q.r na)):=fun q=>PM.row_get q na hna
   have ga : ∀ (q : PM.Pr) (h : na < q.row.size),q.row[na] = .int .i64 (q.r na):=fun q h=>PM.row_at q na hna h
   have ba0 : (0 : Int) <= (na : Int):=by omega
   have ba1 : (na : Int) < 8:=by omega
   have sb : ∀ (q : PM.Pr) (v : Int),q.row.setIfInBounds nb (.int .i64 v) = (q.set nb v).row:=fun q v=>PM.row_set q nb v hnb
   have gb1 : ∀ (q : PM.Pr),q.row[nb]? = some (.int .i64 (q.r nb)):=fun q=>PM.row_get q nb hnb
   have gb : ∀ (q : PM.Pr) (h : nb < q.row.size),q.row[nb] = .int .i64 (q.r nb):=fun q h=>PM.row_at q nb hnb h
   have bb0 : (0 : Int) <= (nb : Int):=by omega
   have bb1 : (nb : Int) < 8:=by omega
   have BP:=hideC (B.alloc (B.alloc (B.new w (({ p with pc:=wrap64 (p.pc + 8) } : PM.Pr)).row 70) (.cells #[.int .i64 13,.int .i64 na,.int .i64 nb,.int .i64 c,.int .i64 m] 99)) (.cells #[.int .i64 0,.int .i64 0,.int .i64 0,.int .i64 0,.int .i64 0,.int .i64 0,.int .i64 0,.int .i64 0,.int .i64 0,.int .i64 0,.int .i64 0,.int .i64 0,.int .i64 0] 70))
   have BI:=hideC (B.alloc (B.new (w.alloc (.cells (({ p with pc:=wrap64 (p.pc + 8) } : PM.Pr)).row 70)) #[.int .i64 13,.int .i64 na,.int .i64 nb,.int .i64 c,.int .i64 m] 99) (.cells #[.int .i64 0,.int .i64 0,.int .i64 0,.int .i64 0,.int .i64 0,.int .i64 0,.int .i64 0,.int .i64 0,.int .i64 0,.int .i64 0,.int .i64 0,.int .i64 0,.int .i64 0] 70))
   rw [World.size_alloc] at BI
   obtain ⟨W,hW⟩ : ∃ W,W = (((w.alloc (.cells (({ p with pc:=wrap64 (p.pc + 8) } : PM.Pr)).row 70)).alloc (.cells #[.int .i64 13,.int .i64 na,.int .i64 nb,.int .i64 c,.int .i64 m] 99)).alloc (.cells #[.int .i64 0,.int .i64 0,.int .i64 0,.int .i64 0,.int .i64 0,.int .i64 0,.int .i64 0,.int .i64 0,.int .i64 0,.int .i64 0,.int .i64 0,.int .i64 0,.int .i64 0] 70)):=⟨_,rfl⟩
   have HW:=hideC hW
   rw [<- hW] at BP BI
   clear hW
   have k0 : W.cell? ⟨w.heap.size + 1,0,none⟩ = some (.int .i64 (13)):=B.cell BI.out 0 rfl
   have k1 : W.cell? ⟨w.heap.size + 1,1,none⟩ = some (.int .i64 (na)):=B.cell BI.out 1 rfl
   have k2 : W.cell? ⟨w.heap.size + 1,2,none⟩ = some (.int .i64 (nb)):=B.cell BI.out 2 rfl
   have k3 : W.cell? ⟨w.heap.size,na,none⟩ = some (.int .i64 (p.r na)):=B.cell BP.out na (ga1 _)
   have k4 : W.cell? ⟨w.heap.size,nb,none⟩ = some (.int .i64 (p.r nb)):=B.cell BP.out nb (gb1 _)
   have HH : Hid (∀ V,Calls Tryz.prog 163 #[.int .i64 13,.int .i64 (p.r na),.int .i64 (p.r nb)] V fun e w'=>e = .returned (.bool false) /\ w' = V):=fun V=>(holds13 (p.r na) (p.r nb) V).mono fun e w' h=>⟨by rw [h.1,decide_eq_false hc],h.2.symm⟩
   clear hc
   go_enter Tryz.func148,Tryz.ntmps148
   go_wp2_with fail
   rw [<- HW.out]
   refine wp_region_still_lit (by kernel_rfl) (by kernel_rfl) ?_
   show wpStill _ _ W.drew _ _ _
   repeat (first | still_step | still_call (HH.out _))
   refine wpStill_nil ?_
   show Exit.then _ _ _ _ W.drew
   rw [HW.out]
   clear HW BP BI k0 k1 k2 k3 k4
   go_wp2
   refine bodyPost_ret (v:=.agg (({ p with pc:=wrap64 (p.pc + 8) } : PM.Pr)).row) (by simp [results,Tryz.results148,go_sem];rfl) rfl ?_
   exact ⟨rfl,(by first | exact (((Below.refl _ _).alloc (Nat.le_refl _) _).alloc (by simp) _).alloc (by simp;omega) _ | exact ((((Below.refl _ _).alloc (Nat.le_refl _) _).alloc (by simp) _).alloc (by simp;omega) _).drew)⟩
set_option maxHeartbeats 2000000 in
theorem behind14 (p : PM.Pr) (na : Nat) (nb : Nat) (c : Int) (m v : Int) (w : World) (hna : na < 8) (hnb : nb < 8) : Calls Tryz.prog 148 #[.agg p.row,.agg #[.int .i64 14,.int .i64 na,.int .i64 nb,.int .i64 c,.int .i64 m],.int .i64 v] w fun e w'=>e = .returned (.agg (PM.doneN p ⟨14,na,nb,c,m⟩ v).row) /\ Below w.heap.size w w':=by
 by_cases hc : p.r na < p.r nb
 · have HR:=hideC (show PM.doneN p ⟨14,na,nb,c,m⟩ v = ({ p with pc:=wrap64 (p.pc + m) } : PM.Pr) from by show (if p.r na < p.r nb then _ else _) = _;rw [if_pos hc])
   rw [HR.out]
   clear HR
   have r0 : ∀ (q : PM.Pr) (h : 0 < q.row.size),q.row[0] = .int .i64 (q.r 0):=fun q h=>rfl
   have r1 : ∀ (q : PM.Pr) (h : 1 < q.row.size),q.row[1] = .int .i64 (q.r 1):=fun q h=>rfl
   have r2 : ∀ (q : PM.Pr) (h : 2 < q.row.size),q.row[2] = .int .i64 (q.r 2):=fun q h=>rfl
   have r3 : ∀ (q : PM.Pr) (h : 3 < q.row.size),q.row[3] = .int .i64 (q.r 3):=fun q h=>rfl
   have r4 : ∀ (q : PM.Pr) (h : 4 < q.row.size),q.row[4] = .int .i64 (q.r 4):=fun q h=>rfl
   have r5 : ∀ (q : PM.Pr) (h : 5 < q.row.size),q.row[5] = .int .i64 (q.r 5):=fun q h=>rfl
   have r6 : ∀ (q : PM.Pr) (h : 6 < q.row.size),q.row[6] = .int .i64 (q.r 6):=fun q h=>rfl
   have r7 : ∀ (q : PM.Pr) (h : 7 < q.row.size),q.row[7] = .int .i64 (q.r 7):=fun q h=>rfl
   have r8 : ∀ (q : PM.Pr) (h : 8 < q.row.size),q.row[8] = .int .i64 q.pc:=fun q h=>rfl
   have r9 : ∀ (q : PM.Pr) (h : 9 < q.row.size),q.row[9] = .int .i64 q.st:=fun q h=>rfl
   have r10 : ∀ (q : PM.Pr) (h : 10 < q.row.size),q.row[10] = .int .i64 q.cd:=fun q h=>rfl
   have r11 : ∀ (q : PM.Pr) (h : 11 < q.row.size),q.row[11] = .int .i64 q.fk:=fun q h=>rfl
   have r12 : ∀ (q : PM.Pr) (h : 12 < q.row.size),q.row[12] = .int .i64 q.fa:=fun q h=>rfl
   have rs:=PM.row_size
   have e8:=PM.row_pc
   have e9:=PM.row_st
   have e10:=PM.row_cd
   have sa : ∀ (q : PM.Pr) (v : Int),q.row.setIfInBounds na (.int .i64 v) = (q.set na v).row:=fun q v=>PM.row_set q na v hna
   have ga1 : ∀ (q : PM.Pr),q.row[na]? = some (.int .i64 (q.r na)):=fun q=>PM.row_get q na hna
   have ga : ∀ (q : PM.Pr) (h : na < q.row.size),q.row[na] = .int .i64 (q.r na):=fun q h=>PM.row_at q na hna h
   have ba0 : (0 : Int) <= (na : Int):=by omega
   have ba1 : (na : Int) < 8:=by omega
   have sb : ∀ (q : PM.Pr) (v : Int),q.row.setIfInBounds nb (.int .i64 v) = (q.set nb v).row:=fun q v=>PM.row_set q nb v hnb
   have gb1 : ∀ (q : PM.Pr),q.row[nb]? = some (.int .i64 (q.r nb)):=fun q=>PM.row_get q nb hnb
   have gb : ∀ (q : PM.Pr) (h : nb < q.row.size),q.row[nb] = .int .i64 (q.r nb):=fun q h=>PM.row_at q nb hnb h
   have bb0 : (0 : Int) <= (nb : Int):=by omega
   have bb1 : (nb : Int) < 8:=by omega
   have BP:=hideC (B.alloc (B.alloc (B.new w (({ p with pc:=wrap64 (p.pc + 8) } : PM.Pr)).row 70) (.cells #[.int .i64 14,.int .i64 na,.int .i64 nb,.int .i64 c,.int .i64 m] 99)) (.cells #[.int .i64 0,.int .i64 0,.int .i64 0,.int .i64 0,.int .i64 0,.int .i64 0,.int .i64 0,.int .i64 0,.int .i64 0,.int .i64 0,.int .i64 0,.int .i64 0,.int .i64 0] 70))
   have BI:=hideC (B.alloc (B.new (w.alloc (.cells (({ p with pc:=wrap64 (p.pc + 8) } : PM.Pr)).row 70)) #[.int .i64 14,.int .i64 na,.int .i64 nb,.int .i64 c,.int .i64 m] 99) (.cells #[.int .i64 0,.int .i64 0,.int .i64 0,.int .i64 0,.int .i64 0,.int .i64 0,.int .i64 0,.int .i64 0,.int .i64 0,.int .i64 0,.int .i64 0,.int .i64 0,.int .i64 0] 70))
   rw [World.size_alloc] at BI
   obtain ⟨W,hW⟩ : ∃ W,W = (((w.alloc (.cells (({ p with pc:=wrap64 (p.pc + 8) } : PM.Pr)).row 70)).alloc (.cells #[.int .i64 14,.int .i64 na,.int .i64 nb,.int .i64 c,.int .i64 m] 99)).alloc (.cells #[.int .i64 0,.int .i64 0,.int .i64 0,.int .i64 0,.int .i64 0,.int .i64 0,.int .i64 0,.int .i64 0,.int .i64 0,.int .i64 0,.int .i64 0,.int .i64 0,.int .i64 0] 70)):=⟨_,rfl⟩
   have HW:=hideC hW
   rw [<- hW] at BP BI
   clear hW
   have k0 : W.cell? ⟨w.heap.size + 1,0,none⟩ = some (.int .i64 (14)):=B.cell BI.out 0 rfl
   have k1 : W.cell? ⟨w.heap.size + 1,1,none⟩ = some (.int .i64 (na)):=B.cell BI.out 1 rfl
   have k2 : W.cell? ⟨w.heap.size + 1,2,none⟩ = some (.int .i64 (nb)):=B.cell BI.out 2 rfl
   have k3 : W.cell? ⟨w.heap.size,na,none⟩ = some (.int .i64 (p.r na)):=B.cell BP.out na (ga1 _)
   have k4 : W.cell? ⟨w.heap.size,nb,none⟩ = some (.int .i64 (p.r nb)):=B.cell BP.out nb (gb1 _)
   have HH : Hid (∀ V,Calls Tryz.prog 163 #[.int .i64 14,.int .i64 (p.r na),.int .i64 (p.r nb)] V fun e w'=>e = .returned (.bool true) /\ w' = V):=fun V=>(holds14 (p.r na) (p.r nb) V).mono fun e w' h=>⟨by rw [h.1,decide_eq_true hc],h.2.symm⟩
   clear hc
   go_enter Tryz.func148,Tryz.ntmps148
   go_wp2_with fail
   rw [<- HW.out]
   refine wp_region_still_lit (by kernel_rfl) (by kernel_rfl) ?_
   show wpStill _ _ W.drew _ _ _
   repeat (first | still_step | still_call (HH.out _))
   refine wpStill_nil ?_
   show Exit.then _ _ _ _ W.drew
   rw [HW.out]
   clear HW BP BI k0 k1 k2 k3 k4
   go_wp2
   refine bodyPost_ret (v:=.agg (({ p with pc:=wrap64 (p.pc + m) } : PM.Pr)).row) (by simp [results,Tryz.results148,go_sem];rfl) rfl ?_
   exact ⟨rfl,(by first | exact (((Below.refl _ _).alloc (Nat.le_refl _) _).alloc (by simp) _).alloc (by simp;omega) _ | exact ((((Below.refl _ _).alloc (Nat.le_refl _) _).alloc (by simp) _).alloc (by simp;omega) _).drew)⟩
 · have HR:=hideC (show PM.doneN p ⟨14,na,nb,c,m⟩ v = ({ p with pc:=wrap64 (p.pc + 8) } : PM.Pr) from by show (if p.r na < p.r nb then _ else _) = _;rw [if_neg hc])
   rw [HR.out]
   clear HR
   have r0 : ∀ (q : PM.Pr) (h : 0 < q.row.size),q.row[0] = .int .i64 (q.r 0):=fun q h=>rfl
   have r1 : ∀ (q : PM.Pr) (h : 1 < q.row.size),q.row[1] = .int .i64 (q.r 1):=fun q h=>rfl
   have r2 : ∀ (q : PM.Pr) (h : 2 < q.row.size),q.row[2] = .int .i64 (q.r 2):=fun q h=>rfl
   have r3 : ∀ (q : PM.Pr) (h : 3 < q.row.size),q.row[3] = .int .i64 (q.r 3):=fun q h=>rfl
   have r4 : ∀ (q : PM.Pr) (h : 4 < q.row.size),q.row[4] = .int .i64 (q.r 4):=fun q h=>rfl
   have r5 : ∀ (q : PM.Pr) (h : 5 < q.row.size),q.row[5] = .int .i64 (q.r 5):=fun q h=>rfl
   have r6 : ∀ (q : PM.Pr) (h : 6 < q.row.size),q.row[6] = .int .i64 (q.r 6):=fun q h=>rfl
   have r7 : ∀ (q : PM.Pr) (h : 7 < q.row.size),q.row[7] = .int .i64 (q.r 7):=fun q h=>rfl
   have r8 : ∀ (q : PM.Pr) (h : 8 < q.row.size),q.row[8] = .int .i64 q.pc:=fun q h=>rfl
   have r9 : ∀ (q : PM.Pr) (h : 9 < q.row.size),q.row[9] = .int .i64 q.st:=fun q h=>rfl
   have r10 : ∀ (q : PM.Pr) (h : 10 < q.row.size),q.row[10] = .int .i64 q.cd:=fun q h=>rfl
   have r11 : ∀ (q : PM.Pr) (h : 11 < q.row.size),q.row[11] = .int .i64 q.fk:=fun q h=>rfl
   have r12 : ∀ (q : PM.Pr) (h : 12 < q.row.size),q.row[12] = .int .i64 q.fa:=fun q h=>rfl
   have rs:=PM.row_size
   have e8:=PM.row_pc
   have e9:=PM.row_st
   have e10:=PM.row_cd
   have sa : ∀ (q : PM.Pr) (v : Int),q.row.setIfInBounds na (.int .i64 v) = (q.set na v).row:=fun q v=>PM.row_set q na v hna
   have ga1 : ∀ (q : PM.Pr),q.row[na]? = some (.int .i64 (q.r na)):=fun q=>PM.row_get q na hna
   have ga : ∀ (q : PM.Pr) (h : na < q.row.size),q.row[na] = .int .i64 (q.r na):=fun q h=>PM.row_at q na hna h
   have ba0 : (0 : Int) <= (na : Int):=by omega
   have ba1 : (na : Int) < 8:=by omega
   have sb : ∀ (q : PM.Pr) (v : Int),q.row.setIfInBounds nb (.int .i64 v) = (q.set nb v).row:=fun q v=>PM.row_set q nb v hnb
   have gb1 : ∀ (q : PM.Pr),q.row[nb]? = some (.int .i64 (q.r nb)):=fun q=>PM.row_get q nb hnb
   have gb : ∀ (q : PM.Pr) (h : nb < q.row.size),q.row[nb] = .int .i64 (q.r nb):=fun q h=>PM.row_at q nb hnb h
   have bb0 : (0 : Int) <= (nb : Int):=by omega
   have bb1 : (nb : Int) < 8:=by omega
   have BP:=hideC (B.alloc (B.alloc (B.new w (({ p with pc:=wrap64 (p.pc + 8) } : PM.Pr)).row 70) (.cells #[.int .i64 14,.int .i64 na,.int .i64 nb,.int .i64 c,.int .i64 m] 99)) (.cells #[.int .i64 0,.int .i64 0,.int .i64 0,.int .i64 0,.int .i64 0,.int .i64 0,.int .i64 0,.int .i64 0,.int .i64 0,.int .i64 0,.int .i64 0,.int .i64 0,.int .i64 0] 70))
   have BI:=hideC (B.alloc (B.new (w.alloc (.cells (({ p with pc:=wrap64 (p.pc + 8) } : PM.Pr)).row 70)) #[.int .i64 14,.int .i64 na,.int .i64 nb,.int .i64 c,.int .i64 m] 99) (.cells #[.int .i64 0,.int .i64 0,.int .i64 0,.int .i64 0,.int .i64 0,.int .i64 0,.int .i64 0,.int .i64 0,.int .i64 0,.int .i64 0,.int .i64 0,.int .i64 0,.int .i64 0] 70))
   rw [World.size_alloc] at BI
   obtain ⟨W,hW⟩ : ∃ W,W = (((w.alloc (.cells (({ p with pc:=wrap64 (p.pc + 8) } : PM.Pr)).row 70)).alloc (.cells #[.int .i64 14,.int .i64 na,.int .i64 nb,.int .i64 c,.int .i64 m] 99)).alloc (.cells #[.int .i64 0,.int .i64 0,.int .i64 0,.int .i64 0,.int .i64 0,.int .i64 0,.int .i64 0,.int .i64 0,.int .i64 0,.int .i64 0,.int .i64 0,.int .i64 0,.int .i64 0] 70)):=⟨_,rfl⟩
   have HW:=hideC hW
   rw [<- hW] at BP BI
   clear hW
   have k0 : W.cell? ⟨w.heap.size + 1,0,none⟩ = some (.int .i64 (14)):=B.cell BI.out 0 rfl
   have k1 : W.cell? ⟨w.heap.size + 1,1,none⟩ = some (.int .i64 (na)):=B.cell BI.out 1 rfl
   have k2 : W.cell? ⟨w.heap.size + 1,2,none⟩ = some (.int .i64 (nb)):=B.cell BI.out 2 rfl
   have k3 : W.cell? ⟨w.heap.size,na,none⟩ = some (.int .i64 (p.r na)):=B.cell BP.out na (ga1 _)
   have k4 : W.cell? ⟨w.heap.size,nb,none⟩ = some (.int .i64 (p.r nb)):=B.cell BP.out nb (gb1 _)
   have HH : Hid (∀ V,Calls Tryz.prog 163 #[.int .i64 14,.int .i64 (p.r na),.int .i64 (p.r nb)] V fun e w'=>e = .returned (.bool false) /\ w' = V):=fun V=>(holds14 (p.r na) (p.r nb) V).mono fun e w' h=>⟨by rw [h.1,decide_eq_false hc],h.2.symm⟩
   clear hc
   go_enter Tryz.func148,Tryz.ntmps148
   go_wp2_with fail
   rw [<- HW.out]
   refine wp_region_still_lit (by kernel_rfl) (by kernel_rfl) ?_
   show wpStill _ _ W.drew _ _ _
   repeat (first | still_step | still_call (HH.out _))
   refine wpStill_nil ?_
   show Exit.then _ _ _ _ W.drew
   rw [HW.out]
   clear HW BP BI k0 k1 k2 k3 k4
   go_wp2
   refine bodyPost_ret (v:=.agg (({ p with pc:=wrap64 (p.pc + 8) } : PM.Pr)).row) (by simp [results,Tryz.results148,go_sem];rfl) rfl ?_
   exact ⟨rfl,(by first | exact (((Below.refl _ _).alloc (Nat.le_refl _) _).alloc (by simp) _).alloc (by simp;omega) _ | exact ((((Below.refl _ _).alloc (Nat.le_refl _) _).alloc (by simp) _).alloc (by simp;omega) _).drew)⟩
end PW
end Go.Proofs.YtkdigjpejnebkaaGreat
