import Derived.Test.YtkdigjpejnebkaaGreatGU00
import Derived.Test.YtkdigjpejnebkaaGreatGU19
import Derived.Test.YtkdigjpejnebkaaGreatGU02
import Derived.StillTailTactics
import Derived.Test.YtkdigjpejnebkaaGreatGU20
set_option maxHeartbeats 20000000
set_option linter.unusedVariables false
set_option maxRecDepth 100000
set_option linter.unusedSimpArgs false
namespace Go.Proofs.YtkdigjpejnebkaaGreat
namespace PW
open Go.RowKit
theorem Fb (F:FuncId) (op b c:Int) (w:World) (hF:F=162∨F=88) (h:op=2∨op=3∨op=4∨op=5∨op=6∨op=7):Calls Tryz.prog F #[I op,I b,I c] w fun e w'=>e=.returned (I (PM.rk op b c))/\w'=w:=by
 by_cases g:op=7
 · subst g
   have h1:=PM.Jq c
   have h2:=PM.J4 c
   have h3:IntKind.u64.wrap (c%64)=c%64:=by rw[IntKind.wrap_u64];omega
   have HR:=ai (show PM.rk 7 b c=wrap64 (IntKind.u64.wrap b/2 ^ min (c%64).toNat 64) from rfl)
   rw[HR.o]
   have h4:0<=c%64:=by omega
   obtain⟨E,hE⟩:=ex (c%64)
   rw[<- hE] at h1 h2 h3 h4 ⊢
   clear hE h
   rcases hF with rfl | rfl <;> ((first | go_enter Tryz.func162,Tryz.ntmps162 | go_enter Tryz.func88,Tryz.ntmps88);go_wp2;go_ret;exact⟨rfl,rfl⟩)
 · rcases h with rfl | rfl | rfl | rfl | rfl | h
   all_goals try rcases hF with rfl | rfl <;> ((first | go_enter Tryz.func162,Tryz.ntmps162 | go_enter Tryz.func88,Tryz.ntmps88);go_wp2;go_ret;exact⟨rfl,rfl⟩)
   exact absurd h g
theorem QD (a b:Int) (w:World):Calls Tryz.prog 163 #[I 13,I a,I b] w fun e w'=>e=.returned (.bool (decide (a=b)))/\w=w':=by
 go_enter Tryz.func163,Tryz.ntmps163
 go_wp2
 go_ret
 exact⟨by first | rfl | simp[beq_eq_decide],rfl⟩
theorem QC (a b:Int) (w:World):Calls Tryz.prog 163 #[I 14,I a,I b] w fun e w'=>e=.returned (.bool (decide (a<b)))/\w=w':=by
 go_enter Tryz.func163,Tryz.ntmps163
 go_wp2
 go_ret
 exact⟨by first | rfl | simp[beq_eq_decide],rfl⟩
theorem bd1 (p:PM.Pr) (na:Nat) (b:Int) (c:Int) (m v:Int) (w:World) (F:FuncId) (hF:F=148∨F=57) (eF:na<8):Calls Tryz.prog F #[.agg p.row,.agg #[I 1,I na,I b,I c,I m],I v] w fun e w'=>e=.returned (.agg (PM.doneN p ⟨1,na,b,c,m⟩ v).row)/\Below w.heap.size w w':=by
 have HR:=ai (show PM.doneN p ⟨1,na,b,c,m⟩ v=({ p with pc:=wrap64 (p.pc+8) }:PM.Pr).set na m from rfl)
 rw[HR.o]
 clear HR
 obtain⟨r0,r1,r2,r3,r4,r5,r6,r7,r8,r9,Ey,Ex,Ew⟩:=PM.kr
 have rs:=PM.fY
 have e8:=PM.kv
 have e9:=PM.ku
 have e10:=PM.kx
 obtain⟨sa,Ta,ga⟩:=PM.H7 na eF
 rcases hF with rfl | rfl
 all_goals
  (first | go_enter Tryz.func148,Tryz.ntmps148 | go_enter Tryz.func57,Tryz.ntmps57)
  go_wp2
  refine bodyPost_ret (v:=.agg (({ p with pc:=wrap64 (p.pc+8) }:PM.Pr).set na m).row) (by simp[results,Tryz.results148,Tryz.results57,go_sem];rfl) rfl ?_
  exact⟨rfl,(by first | exact(((Below.refl _ _).alloc (Nat.le_refl _) _).alloc (by simp) _).alloc (by simp;omega) _ | exact((((Below.refl _ _).alloc (Nat.le_refl _) _).alloc (by simp) _).alloc (by simp;omega) _).drew)⟩
theorem bd8 (p:PM.Pr) (na:Nat) (nb:Nat) (c:Int) (m v:Int) (w:World) (F:FuncId) (hF:F=148∨F=57) (eF:na<8) (hnb:nb<8):Calls Tryz.prog F #[.agg p.row,.agg #[I 8,I na,I nb,I c,I m],I v] w fun e w'=>e=.returned (.agg (PM.doneN p ⟨8,na,nb,c,m⟩ v).row)/\Below w.heap.size w w':=by
 have HR:=ai (show PM.doneN p ⟨8,na,nb,c,m⟩ v=({ p with pc:=wrap64 (p.pc+8) }:PM.Pr).set na (wrap64 (p.r nb+m)) from rfl)
 rw[HR.o]
 clear HR
 obtain⟨r0,r1,r2,r3,r4,r5,r6,r7,r8,r9,Ey,Ex,Ew⟩:=PM.kr
 have rs:=PM.fY
 have e8:=PM.kv
 have e9:=PM.ku
 have e10:=PM.kx
 obtain⟨sa,Ta,ga⟩:=PM.H7 na eF
 obtain⟨sb,Wi,gb⟩:=PM.H7 nb hnb
 rcases hF with rfl | rfl
 all_goals
  (first | go_enter Tryz.func148,Tryz.ntmps148 | go_enter Tryz.func57,Tryz.ntmps57)
  go_wp2_with fail
  go_region
  go_wp2
  refine bodyPost_ret (v:=.agg (({ p with pc:=wrap64 (p.pc+8) }:PM.Pr).set na (wrap64 (p.r nb+m))).row) (by simp[results,Tryz.results148,Tryz.results57,go_sem];rfl) rfl ?_
  exact⟨rfl,(by first | exact(((Below.refl _ _).alloc (Nat.le_refl _) _).alloc (by simp) _).alloc (by simp;omega) _ | exact((((Below.refl _ _).alloc (Nat.le_refl _) _).alloc (by simp) _).alloc (by simp;omega) _).drew)⟩
theorem bd9 (p:PM.Pr) (na:Nat) (nb:Nat) (c:Int) (m v:Int) (w:World) (F:FuncId) (hF:F=148∨F=57) (eF:na<8) (hnb:nb<8):Calls Tryz.prog F #[.agg p.row,.agg #[I 9,I na,I nb,I c,I m],I v] w fun e w'=>e=.returned (.agg (PM.doneN p ⟨9,na,nb,c,m⟩ v).row)/\Below w.heap.size w w':=by
 have HR:=ai (show PM.doneN p ⟨9,na,nb,c,m⟩ v=({ p with pc:=wrap64 (p.pc+8) }:PM.Pr).set na v from rfl)
 rw[HR.o]
 clear HR
 obtain⟨r0,r1,r2,r3,r4,r5,r6,r7,r8,r9,Ey,Ex,Ew⟩:=PM.kr
 have rs:=PM.fY
 have e8:=PM.kv
 have e9:=PM.ku
 have e10:=PM.kx
 obtain⟨sa,Ta,ga⟩:=PM.H7 na eF
 obtain⟨sb,Wi,gb⟩:=PM.H7 nb hnb
 rcases hF with rfl | rfl
 all_goals
  (first | go_enter Tryz.func148,Tryz.ntmps148 | go_enter Tryz.func57,Tryz.ntmps57)
  go_wp2
  refine bodyPost_ret (v:=.agg (({ p with pc:=wrap64 (p.pc+8) }:PM.Pr).set na v).row) (by simp[results,Tryz.results148,Tryz.results57,go_sem];rfl) rfl ?_
  exact⟨rfl,(by first | exact(((Below.refl _ _).alloc (Nat.le_refl _) _).alloc (by simp) _).alloc (by simp;omega) _ | exact((((Below.refl _ _).alloc (Nat.le_refl _) _).alloc (by simp) _).alloc (by simp;omega) _).drew)⟩
theorem Y3 (p:PM.Pr) (na:Nat) (nb:Nat) (c:Int) (m v:Int) (w:World) (F:FuncId) (hF:F=148∨F=57) (eF:na<8) (hnb:nb<8):Calls Tryz.prog F #[.agg p.row,.agg #[I 10,I na,I nb,I c,I m],I v] w fun e w'=>e=.returned (.agg (PM.doneN p ⟨10,na,nb,c,m⟩ v).row)/\Below w.heap.size w w':=by
 have HR:=ai (show PM.doneN p ⟨10,na,nb,c,m⟩ v=({ p with pc:=wrap64 (p.pc+8) }:PM.Pr) from rfl)
 rw[HR.o]
 clear HR
 obtain⟨r0,r1,r2,r3,r4,r5,r6,r7,r8,r9,Ey,Ex,Ew⟩:=PM.kr
 have rs:=PM.fY
 have e8:=PM.kv
 have e9:=PM.ku
 have e10:=PM.kx
 obtain⟨sa,Ta,ga⟩:=PM.H7 na eF
 obtain⟨sb,Wi,gb⟩:=PM.H7 nb hnb
 rcases hF with rfl | rfl
 all_goals
  (first | go_enter Tryz.func148,Tryz.ntmps148 | go_enter Tryz.func57,Tryz.ntmps57)
  go_wp2
  refine bodyPost_ret (v:=.agg (({ p with pc:=wrap64 (p.pc+8) }:PM.Pr)).row) (by simp[results,Tryz.results148,Tryz.results57,go_sem];rfl) rfl ?_
  exact⟨rfl,(by first | exact(((Below.refl _ _).alloc (Nat.le_refl _) _).alloc (by simp) _).alloc (by simp;omega) _ | exact((((Below.refl _ _).alloc (Nat.le_refl _) _).alloc (by simp) _).alloc (by simp;omega) _).drew)⟩
theorem YZ (p:PM.Pr) (na:Nat) (b:Int) (c:Int) (m v:Int) (w:World) (F:FuncId) (hF:F=148∨F=57) (eF:na<8):Calls Tryz.prog F #[.agg p.row,.agg #[I 11,I na,I b,I c,I m],I v] w fun e w'=>e=.returned (.agg (PM.doneN p ⟨11,na,b,c,m⟩ v).row)/\Below w.heap.size w w':=by
 have HR:=ai (show PM.doneN p ⟨11,na,b,c,m⟩ v=({ p with pc:=wrap64 (p.pc+8) }:PM.Pr).set na (wrap64 (p.pc+m)) from rfl)
 rw[HR.o]
 clear HR
 obtain⟨r0,r1,r2,r3,r4,r5,r6,r7,r8,r9,Ey,Ex,Ew⟩:=PM.kr
 have rs:=PM.fY
 have e8:=PM.kv
 have e9:=PM.ku
 have e10:=PM.kx
 obtain⟨sa,Ta,ga⟩:=PM.H7 na eF
 rcases hF with rfl | rfl
 all_goals
  (first | go_enter Tryz.func148,Tryz.ntmps148 | go_enter Tryz.func57,Tryz.ntmps57)
  go_wp2
  refine bodyPost_ret (v:=.agg (({ p with pc:=wrap64 (p.pc+8) }:PM.Pr).set na (wrap64 (p.pc+m))).row) (by simp[results,Tryz.results148,Tryz.results57,go_sem];rfl) rfl ?_
  exact⟨rfl,(by first | exact(((Below.refl _ _).alloc (Nat.le_refl _) _).alloc (by simp) _).alloc (by simp;omega) _ | exact((((Below.refl _ _).alloc (Nat.le_refl _) _).alloc (by simp) _).alloc (by simp;omega) _).drew)⟩
theorem YY (p:PM.Pr) (a:Int) (b:Int) (c:Int) (m v:Int) (w:World) (F:FuncId) (hF:F=148∨F=57):Calls Tryz.prog F #[.agg p.row,.agg #[I 12,I a,I b,I c,I m],I v] w fun e w'=>e=.returned (.agg (PM.doneN p ⟨12,a,b,c,m⟩ v).row)/\Below w.heap.size w w':=by
 have HR:=ai (show PM.doneN p ⟨12,a,b,c,m⟩ v=({ p with pc:=wrap64 (p.pc+m) }:PM.Pr) from rfl)
 rw[HR.o]
 clear HR
 obtain⟨r0,r1,r2,r3,r4,r5,r6,r7,r8,r9,Ey,Ex,Ew⟩:=PM.kr
 have rs:=PM.fY
 have e8:=PM.kv
 have e9:=PM.ku
 have e10:=PM.kx
 rcases hF with rfl | rfl
 all_goals
  (first | go_enter Tryz.func148,Tryz.ntmps148 | go_enter Tryz.func57,Tryz.ntmps57)
  go_wp2
  refine bodyPost_ret (v:=.agg (({ p with pc:=wrap64 (p.pc+m) }:PM.Pr)).row) (by simp[results,Tryz.results148,Tryz.results57,go_sem];rfl) rfl ?_
  exact⟨rfl,(by first | exact(((Below.refl _ _).alloc (Nat.le_refl _) _).alloc (by simp) _).alloc (by simp;omega) _ | exact((((Below.refl _ _).alloc (Nat.le_refl _) _).alloc (by simp) _).alloc (by simp;omega) _).drew)⟩
theorem YX (p:PM.Pr) (na:Nat) (b:Int) (c:Int) (m v:Int) (w:World) (F:FuncId) (hF:F=148∨F=57) (eF:na<8):Calls Tryz.prog F #[.agg p.row,.agg #[I 15,I na,I b,I c,I m],I v] w fun e w'=>e=.returned (.agg (PM.doneN p ⟨15,na,b,c,m⟩ v).row)/\Below w.heap.size w w':=by
 have HR:=ai (show PM.doneN p ⟨15,na,b,c,m⟩ v=({ p with pc:=p.r na }:PM.Pr) from rfl)
 rw[HR.o]
 clear HR
 obtain⟨r0,r1,r2,r3,r4,r5,r6,r7,r8,r9,Ey,Ex,Ew⟩:=PM.kr
 have rs:=PM.fY
 have e8:=PM.kv
 have e9:=PM.ku
 have e10:=PM.kx
 obtain⟨sa,Ta,ga⟩:=PM.H7 na eF
 rcases hF with rfl | rfl
 all_goals
  (first | go_enter Tryz.func148,Tryz.ntmps148 | go_enter Tryz.func57,Tryz.ntmps57)
  go_wp2
  refine bodyPost_ret (v:=.agg (({ p with pc:=p.r na }:PM.Pr)).row) (by simp[results,Tryz.results148,Tryz.results57,go_sem];rfl) rfl ?_
  exact⟨rfl,(by first | exact(((Below.refl _ _).alloc (Nat.le_refl _) _).alloc (by simp) _).alloc (by simp;omega) _ | exact((((Below.refl _ _).alloc (Nat.le_refl _) _).alloc (by simp) _).alloc (by simp;omega) _).drew)⟩
theorem Lf (op:Int) (F G:FuncId) (q p:PM.Pr) (na:Nat) (nb:Nat) (nc:Nat) (m v:Int) (w:World) (h:op=2∨op=3∨op=4∨op=5∨op=6∨op=7) (hF:(F=148/\q={ p with pc:=wrap64 (p.pc+8) }/\G=162)∨(F=57/\p=q/\G=88)) (eF:na<8) (hnb:nb<8) (hnc:nc<8):Calls Tryz.prog F #[.agg p.row,.agg #[I op,I na,I nb,I nc,I m],I v] w fun e w'=>e=.returned (.agg (PM.doneN p ⟨op,na,nb,nc,m⟩ v).row)/\Below w.heap.size w w':=by
 have HR:=ai (show PM.doneN p ⟨op,na,nb,nc,m⟩ v=({ p with pc:=wrap64 (p.pc+8) }:PM.Pr).set na (PM.rk op (p.r nb) (p.r nc)) from by rcases h with rfl | rfl | rfl | rfl | rfl | rfl <;> rfl)
 rw[HR.o]
 clear HR
 have HRK:=ai (fun w=>Fb G op (p.r nb) (p.r nc) w (by rcases hF with⟨_,_,rfl⟩ | ⟨_,_,rfl⟩ <;> simp) h)
 obtain⟨Y,hY⟩:=ex ((PM.rk op (p.r nb) (p.r nc)))
 rw[<- hY] at HRK ⊢
 clear hY
 have Us:∀n,q.r n=p.r n:=fun n=>by rcases hF with⟨_,rfl,_⟩ | ⟨_,rfl,_⟩ <;> rfl
 obtain⟨r0,r1,r2,r3,r4,r5,r6,r7,r8,r9,Ey,Ex,Ew⟩:=PM.kr
 have rs:=PM.fY
 have e8:=PM.kv
 have e9:=PM.ku
 have e10:=PM.kx
 obtain⟨sa,Ta,ga⟩:=PM.H7 na eF
 have ba0:(0:Int)<=(na:Int):=by omega
 have ba1:(na:Int)<8:=by omega
 obtain⟨sb,Wi,gb⟩:=PM.H7 nb hnb
 have bb0:(0:Int)<=(nb:Int):=by omega
 have bb1:(nb:Int)<8:=by omega
 obtain⟨sc,gc1,gc⟩:=PM.H7 nc hnc
 have bc0:(0:Int)<=(nc:Int):=by omega
 have bc1:(nc:Int)<8:=by omega
 have BP:=ai (B.alloc (B.alloc (B.new w q.row 70) (.cells #[I op,I na,I nb,I nc,I m] 99)) (.cells #[I 0,I 0,I 0,I 0,I 0,I 0,I 0,I 0,I 0,I 0,I 0,I 0,I 0] 70))
 have BI:=ai (B.alloc (B.new (w.alloc (.cells q.row 70)) #[I op,I na,I nb,I nc,I m] 99) (.cells #[I 0,I 0,I 0,I 0,I 0,I 0,I 0,I 0,I 0,I 0,I 0,I 0,I 0] 70))
 rw[World.size_alloc] at BI
 obtain⟨W,hW⟩:=ex ((((w.alloc (.cells q.row 70)).alloc (.cells #[I op,I na,I nb,I nc,I m] 99)).alloc (.cells #[I 0,I 0,I 0,I 0,I 0,I 0,I 0,I 0,I 0,I 0,I 0,I 0,I 0] 70)))
 have HW:=ai hW
 rw[<- hW] at BP BI
 clear hW
 have k0:W.cell? (Ad (w.heap.size+1) 0)=some (I op):=B.cell BI.o 0 rfl
 have k1:W.cell? (Ad (w.heap.size+1) 1)=some (I (na)):=B.cell BI.o 1 rfl
 have k2:W.cell? (Ad (w.heap.size+1) 2)=some (I (nb)):=B.cell BI.o 2 rfl
 have k3:W.cell? (Ad (w.heap.size+1) 3)=some (I (nc)):=B.cell BI.o 3 rfl
 have k4:W.cell? (Ad w.heap.size nb)=some (I (p.r nb)):=(B.cell BP.o nb (Wi _)).trans (by rw[Us])
 have k5:W.cell? (Ad w.heap.size nc)=some (I (p.r nc)):=(B.cell BP.o nc (gc1 _)).trans (by rw[Us])
 clear Us
 rcases hF with⟨rfl,rfl,rfl⟩ | ⟨rfl,rfl,rfl⟩ <;> rcases h with rfl | rfl | rfl | rfl | rfl | rfl
 all_goals
  as_aux_lemma =>
   (first | go_enter Tryz.func148,Tryz.ntmps148 | go_enter Tryz.func57,Tryz.ntmps57)
   go_wp2_with fail
   rw[<- HW.o]
   refine wp_region_still_tail 17 (by kernel_rfl) (by kernel_rfl) ?_
   simp only[List.take_succ_cons,List.take_zero,List.drop_succ_cons,List.drop_zero]
   show wpStill _ _ W.drew _ _ _
   repeat (first | still_step | still_call (HRK.o _))
   refine wpStill_nil ?_
   show wpList _ _ _ _ _ W.drew
   rw[HW.o]
   clear HW BP BI k0 k1 k2 k3 k4 k5
   go_wp2
   refine bodyPost_ret (v:=.agg (({ p with pc:=wrap64 (p.pc+8) }:PM.Pr).set na Y).row) (by simp[results,Tryz.results148,Tryz.results57,go_sem];rfl) rfl ?_
   exact⟨rfl,(by first | exact(((Below.refl _ _).alloc (Nat.le_refl _) _).alloc (by simp) _).alloc (by simp;omega) _ | exact((((Below.refl _ _).alloc (Nat.le_refl _) _).alloc (by simp) _).alloc (by simp;omega) _).drew)⟩
theorem bdJ (op:Int) (F:FuncId) (q p:PM.Pr) (na nb:Nat) (c m v d:Int) (t:Bool) (w:World) (eF:na<8) (hnb:nb<8) (hO:(op=13/\(p.r na==p.r nb)=t)∨(op=14/\decide (p.r na<p.r nb)=t)) (hT:(t=true/\d=m)∨(t=false/\d=8)) (hF:(F=148/\q={ p with pc:=wrap64 (p.pc+8) })∨(F=57/\p=q)) :
  Calls Tryz.prog F #[.agg p.row,.agg #[I op,I na,I nb,I c,I m],I v] w fun e w'=>e=.returned (.agg ({ p with pc:=wrap64 (p.pc+d) }:PM.Pr).row)/\Below w.heap.size w w':=by
 have Us:∀n,q.r n=p.r n:=fun n=>by rcases hF with⟨_,rfl⟩ | ⟨_,rfl⟩ <;> rfl
 obtain⟨Y,hY⟩:=ex (Value.agg ({ p with pc:=wrap64 (p.pc+d) }:PM.Pr).row)
 have HY:=ai hY
 rw[<- hY]
 clear hY
 obtain⟨r0,r1,r2,r3,r4,r5,r6,r7,r8,r9,Ey,Ex,Ew⟩:=PM.kr
 have rs:=PM.fY
 have e8:=PM.kv
 have e9:=PM.ku
 have e10:=PM.kx
 obtain⟨sa,Ta,ga⟩:=PM.H7 na eF
 have ba0:(0:Int)<=(na:Int):=by omega
 have ba1:(na:Int)<8:=by omega
 obtain⟨sb,Wi,gb⟩:=PM.H7 nb hnb
 have bb0:(0:Int)<=(nb:Int):=by omega
 have bb1:(nb:Int)<8:=by omega
 have BP:=ai (B.alloc (B.alloc (B.new w q.row 70) (.cells #[I op,I na,I nb,I c,I m] 99)) (.cells #[I 0,I 0,I 0,I 0,I 0,I 0,I 0,I 0,I 0,I 0,I 0,I 0,I 0] 70))
 have BI:=ai (B.alloc (B.new (w.alloc (.cells q.row 70)) #[I op,I na,I nb,I c,I m] 99) (.cells #[I 0,I 0,I 0,I 0,I 0,I 0,I 0,I 0,I 0,I 0,I 0,I 0,I 0] 70))
 rw[World.size_alloc] at BI
 obtain⟨W,hW⟩:=ex ((((w.alloc (.cells q.row 70)).alloc (.cells #[I op,I na,I nb,I c,I m] 99)).alloc (.cells #[I 0,I 0,I 0,I 0,I 0,I 0,I 0,I 0,I 0,I 0,I 0,I 0,I 0] 70)))
 have HW:=ai hW
 rw[<- hW] at BP BI
 clear hW
 have k0:W.cell? (Ad (w.heap.size+1) 0)=some (I op):=B.cell BI.o 0 rfl
 have k1:W.cell? (Ad (w.heap.size+1) 1)=some (I (na)):=B.cell BI.o 1 rfl
 have k2:W.cell? (Ad (w.heap.size+1) 2)=some (I (nb)):=B.cell BI.o 2 rfl
 have k3:W.cell? (Ad w.heap.size na)=some (I (p.r na)):=(B.cell BP.o na (Ta _)).trans (by rw[Us])
 have k4:W.cell? (Ad w.heap.size nb)=some (I (p.r nb)):=(B.cell BP.o nb (Wi _)).trans (by rw[Us])
 have HH:Hid (∀V,Calls Tryz.prog 163 #[I op,I (p.r na),I (p.r nb)] V fun e w'=>e=.returned (.bool t)/\w'=V):=fun V=>by
  rcases hO with⟨rfl,h⟩ | ⟨rfl,h⟩
  · exact(QD (p.r na) (p.r nb) V).mono fun e w' g=>⟨by rw[g.1,<- h];rfl,g.2.symm⟩
  · exact(QC (p.r na) (p.r nb) V).mono fun e w' g=>⟨by rw[g.1,<- h],g.2.symm⟩
 clear Us
 rcases hF with⟨rfl,rfl⟩ | ⟨rfl,rfl⟩ <;> rcases hT with⟨rfl,rfl⟩ | ⟨rfl,rfl⟩ <;> rcases hO with⟨rfl,hq⟩ | ⟨rfl,hq⟩
 all_goals
  (first | go_enter Tryz.func148,Tryz.ntmps148 | go_enter Tryz.func57,Tryz.ntmps57)
  go_wp2_with fail
  rw[<- HW.o]
  refine wp_region_still_lit (by kernel_rfl) (by kernel_rfl) ?_
  show wpStill _ _ W.drew _ _ _
  repeat (first | still_step | still_call (HH.o _))
  refine wpStill_nil ?_
  show Exit.then _ _ _ _ W.drew
  rw[HW.o]
  clear HW BP BI k0 k1 k2 k3 k4
  go_wp2
  refine bodyPost_ret (v:=Y) (by rw[HY.o];simp[results,Tryz.results148,Tryz.results57,go_sem];rfl) rfl ?_
  exact⟨rfl,(by first | exact(((Below.refl _ _).alloc (Nat.le_refl _) _).alloc (by simp) _).alloc (by simp;omega) _ | exact((((Below.refl _ _).alloc (Nat.le_refl _) _).alloc (by simp) _).alloc (by simp;omega) _).drew)⟩
theorem Ro (op:Int) (F:FuncId) (q p:PM.Pr) (na nb:Nat) (c m v:Int) (w:World) (eF:na<8) (hnb:nb<8) (h:op=13∨op=14) (hF:(F=148/\q={ p with pc:=wrap64 (p.pc+8) })∨(F=57/\p=q)) :
  Calls Tryz.prog F #[.agg p.row,.agg #[I op,I na,I nb,I c,I m],I v] w fun e w'=>e=.returned (.agg (PM.doneN p ⟨op,na,nb,c,m⟩ v).row)/\Below w.heap.size w w':=by
 rcases h with rfl | rfl
 · by_cases g:p.r na=p.r nb
   · rw[show PM.doneN p ⟨13,na,nb,c,m⟩ v={ p with pc:=wrap64 (p.pc+m) } from if_pos g]
     exact bdJ 13 F q p na nb c m v m true w eF hnb (.inl ⟨rfl,by simpa using g⟩) (.inl ⟨rfl,rfl⟩) hF
   · rw[show PM.doneN p ⟨13,na,nb,c,m⟩ v={ p with pc:=wrap64 (p.pc+8) } from if_neg g]
     exact bdJ 13 F q p na nb c m v 8 false w eF hnb (.inl ⟨rfl,by simpa using g⟩) (.inr ⟨rfl,rfl⟩) hF
 · by_cases g:p.r na<p.r nb
   · rw[show PM.doneN p ⟨14,na,nb,c,m⟩ v={ p with pc:=wrap64 (p.pc+m) } from if_pos g]
     exact bdJ 14 F q p na nb c m v m true w eF hnb (.inr ⟨rfl,by simpa using g⟩) (.inl ⟨rfl,rfl⟩) hF
   · rw[show PM.doneN p ⟨14,na,nb,c,m⟩ v={ p with pc:=wrap64 (p.pc+8) } from if_neg g]
     exact bdJ 14 F q p na nb c m v 8 false w eF hnb (.inr ⟨rfl,by simpa using g⟩) (.inr ⟨rfl,rfl⟩) hF
def tu (p:PM.Pr) (m v:Int):PM.Pr:=if m=6 then { p with st:=2,cd:=p.r 0 } else if m=1 then p else p.set 0 v
theorem GI (p:PM.Pr) (m v:Int) (w:World) (h:1<=m/\m<=6):Calls Tryz.prog 164 #[.agg p.row,I m,I v] w fun e w'=>e=.returned (.agg (tu p m v).row)/\Below w.heap.size w w':=by
 obtain⟨Y,hY⟩:=ex (Value.agg (tu p m v).row)
 have HY:=ai hY
 rw[<- hY]
 clear hY
 obtain⟨r0,r1,r2,r3,r4,r5,r6,r7,r8,r9,Ey,Ex,Ew⟩:=PM.kr
 have rs:=PM.fY
 have e8:=PM.kv
 have e9:=PM.ku
 have e10:=PM.kx
 have s0:∀(q:PM.Pr) (v:Int),q.row.setIfInBounds 0 (I v)=(q.set 0 v).row:=fun q v=>PM.bY q 0 v (by omega)
 obtain rfl | rfl | rfl | rfl | rfl | rfl:m=1∨m=2∨m=3∨m=4∨m=5∨m=6:=by omega
 all_goals
  go_enter Tryz.func164,Tryz.ntmps164
  go_wp2
  refine bodyPost_ret (v:=Y) (by rw[HY.o];simp[results,Tryz.results164,go_sem];rfl) rfl ?_
  exact⟨rfl,((Below.refl _ _).alloc (Nat.le_refl _) _).alloc (by simp) _⟩
theorem Od (p:PM.Pr) (a b c m v:Int) (w:World) (h:1<=m/\m<=6):Calls Tryz.prog 148 #[.agg p.row,.agg #[I 16,I a,I b,I c,I m],I v] w fun e w'=>e=.returned (.agg (PM.doneN p ⟨16,a,b,c,m⟩ v).row)/\Below w.heap.size w w':=by
 have HR:=ai (show PM.doneN p ⟨16,a,b,c,m⟩ v=tu ({ p with pc:=wrap64 (p.pc+8) }:PM.Pr) m v from rfl)
 rw[HR.o]
 have HC:Hid (∀V,Calls Tryz.prog 164 #[.agg (({ p with pc:=wrap64 (p.pc+8) }:PM.Pr)).row,I m,I v] V fun e w'=>e=.returned (.agg (tu ({ p with pc:=wrap64 (p.pc+8) }:PM.Pr) m v).row)/\Below V.heap.size V w'):=fun V=>GI ({ p with pc:=wrap64 (p.pc+8) }:PM.Pr) m v V h
 clear HR
 obtain⟨R,hR⟩:=ex (tu ({ p with pc:=wrap64 (p.pc+8) }:PM.Pr) m v)
 rw[<- hR] at HC ⊢
 clear hR h
 obtain⟨r0,r1,r2,r3,r4,r5,r6,r7,r8,r9,Ey,Ex,Ew⟩:=PM.kr
 have rs:=PM.fY
 have e8:=PM.kv
 have e9:=PM.ku
 have e10:=PM.kx
 have cM:=ai ((((Below.refl w.heap.size w).alloc (Nat.le_refl _) (.cells (({ p with pc:=wrap64 (p.pc+8) }:PM.Pr)).row 70)).alloc (by simp) (.cells #[I 16,I a,I b,I c,I m] 99)).alloc (by simp;omega) (.cells #[I 0,I 0,I 0,I 0,I 0,I 0,I 0,I 0,I 0,I 0,I 0,I 0,I 0] 70))
 have BR:=ai (B.new ((w.alloc (.cells (({ p with pc:=wrap64 (p.pc+8) }:PM.Pr)).row 70)).alloc (.cells #[I 16,I a,I b,I c,I m] 99)) #[I 0,I 0,I 0,I 0,I 0,I 0,I 0,I 0,I 0,I 0,I 0,I 0,I 0] 70)
 rw[World.size_alloc,World.size_alloc] at BR
 go_enter Tryz.func148,Tryz.ntmps148
 go_wp2_with fail
 refine(HC.o _).mono ?_
 rintro e w1 ⟨rfl,hb1⟩
 have bj:=ai (cM.o.trans (hb1.mono cM.o.size))
 have iU:=ai (B.below BR.o hb1 (B.isLt BR.o))
 clear hb1 cM BR HC
 have u0:∀j,w1.frozen? (Ad (w.heap.size+1+1) j)=false:=fun j=>B.free iU.o j
 have t0:w1.cell? (Ad (w.heap.size+1+1) 0)=some (I 0):=B.cell iU.o 0 rfl
 have t1:w1.cell? (Ad (w.heap.size+1+1) 1)=some (I 0):=B.cell iU.o 1 rfl
 have t2:w1.cell? (Ad (w.heap.size+1+1) 2)=some (I 0):=B.cell iU.o 2 rfl
 have t3:w1.cell? (Ad (w.heap.size+1+1) 3)=some (I 0):=B.cell iU.o 3 rfl
 have t4:w1.cell? (Ad (w.heap.size+1+1) 4)=some (I 0):=B.cell iU.o 4 rfl
 have t5:w1.cell? (Ad (w.heap.size+1+1) 5)=some (I 0):=B.cell iU.o 5 rfl
 have t6:w1.cell? (Ad (w.heap.size+1+1) 6)=some (I 0):=B.cell iU.o 6 rfl
 have t7:w1.cell? (Ad (w.heap.size+1+1) 7)=some (I 0):=B.cell iU.o 7 rfl
 have t8:w1.cell? (Ad (w.heap.size+1+1) 8)=some (I 0):=B.cell iU.o 8 rfl
 have t9:w1.cell? (Ad (w.heap.size+1+1) 9)=some (I 0):=B.cell iU.o 9 rfl
 have t10:w1.cell? (Ad (w.heap.size+1+1) 10)=some (I 0):=B.cell iU.o 10 rfl
 have t11:w1.cell? (Ad (w.heap.size+1+1) 11)=some (I 0):=B.cell iU.o 11 rfl
 have t12:w1.cell? (Ad (w.heap.size+1+1) 12)=some (I 0):=B.cell iU.o 12 rfl
 unfold PM.Pr.row
 go_wp2
 refine bodyPost_ret (v:=.agg (R).row) (by simp[results,Tryz.results148,go_sem,t0,t1,t2,t3,t4,t5,t6,t7,t8,t9,t10,t11,t12];rfl) rfl ?_
 exact⟨rfl,((((((((((((bj.o.setCell (by simp;omega) _).setCell (by simp;omega) _).setCell (by simp;omega) _).setCell (by simp;omega) _).setCell (by simp;omega) _).setCell (by simp;omega) _).setCell (by simp;omega) _).setCell (by simp;omega) _).setCell (by simp;omega) _).setCell (by simp;omega) _).setCell (by simp;omega) _).setCell (by simp;omega) _).setCell (by simp;omega) _⟩
theorem QS (p:PM.Pr) (a b c m v:Int) (w:World) (h:1<=m/\m<=6):Calls Tryz.prog 57 #[.agg p.row,.agg #[I 16,I a,I b,I c,I m],I v] w fun e w'=>e=.returned (.agg (PM.doneN p ⟨16,a,b,c,m⟩ v).row)/\Below w.heap.size w w':=by
 obtain⟨Y,hY⟩:=ex (Value.agg (PM.doneN p ⟨16,a,b,c,m⟩ v).row)
 have HY:=ai hY
 rw[<- hY]
 clear hY
 obtain⟨r0,r1,r2,r3,r4,r5,r6,r7,r8,r9,Ey,Ex,Ew⟩:=PM.kr
 have rs:=PM.fY
 have e8:=PM.kv
 have e9:=PM.ku
 have e10:=PM.kx
 have s0:∀(q:PM.Pr) (v:Int),q.row.setIfInBounds 0 (I v)=(q.set 0 v).row:=fun q v=>PM.bY q 0 v (by omega)
 obtain rfl | rfl | rfl | rfl | rfl | rfl:m=1∨m=2∨m=3∨m=4∨m=5∨m=6:=by omega
 all_goals
  go_enter Tryz.func57,Tryz.ntmps57
  go_wp2
  refine bodyPost_ret (v:=Y) (by rw[HY.o];simp[results,Tryz.results57,go_sem];rfl) rfl ?_
  exact⟨rfl,(by first | exact(((Below.refl _ _).alloc (Nat.le_refl _) _).alloc (by simp) _).alloc (by simp;omega) _ | exact((((Below.refl _ _).alloc (Nat.le_refl _) _).alloc (by simp) _).alloc (by simp;omega) _).drew)⟩
theorem GQ (p:PM.Pr) (i:PM.ey) (v:Int) (w:World) (hf:i.fits) (hb:i.bad=false):Calls Tryz.prog 148 #[.agg p.row,.agg i.cells,I v] w fun e w'=>e=.returned (.agg (PM.doneN p i v).row)/\Below w.heap.size w w':=by
 obtain⟨op,a,b,c,m⟩:=i
 obtain⟨-,ha,hb',hc,-⟩:=hf
 rcases sI op with h | h | h | h | h | h | h | h | h | h | h | h | h | h | h | h | h
 · rw[tD _ h] at hb;cases hb
 · subst h
   obtain⟨na,rfl,eF⟩:=bU ha (of_decide_eq_false hb)
   exact bd1 p na b c m v w _ (.inl rfl) eF
 · subst h
   have hb2:¬(8<=a∨8<=b∨8<=c):=of_decide_eq_false hb
   obtain⟨na,rfl,eF⟩:=bU ha (fun h=>hb2 (.inl h))
   obtain⟨nb,rfl,hnb⟩:=bU hb' (fun h=>hb2 (.inr (.inl h)))
   obtain⟨nc,rfl,hnc⟩:=bU hc (fun h=>hb2 (.inr (.inr h)))
   exact Lf 2 _ _ _ p na nb nc m v w (by simp) (.inl ⟨rfl,rfl,rfl⟩) eF hnb hnc
 · subst h
   have hb2:¬(8<=a∨8<=b∨8<=c):=of_decide_eq_false hb
   obtain⟨na,rfl,eF⟩:=bU ha (fun h=>hb2 (.inl h))
   obtain⟨nb,rfl,hnb⟩:=bU hb' (fun h=>hb2 (.inr (.inl h)))
   obtain⟨nc,rfl,hnc⟩:=bU hc (fun h=>hb2 (.inr (.inr h)))
   exact Lf 3 _ _ _ p na nb nc m v w (by simp) (.inl ⟨rfl,rfl,rfl⟩) eF hnb hnc
 · subst h
   have hb2:¬(8<=a∨8<=b∨8<=c):=of_decide_eq_false hb
   obtain⟨na,rfl,eF⟩:=bU ha (fun h=>hb2 (.inl h))
   obtain⟨nb,rfl,hnb⟩:=bU hb' (fun h=>hb2 (.inr (.inl h)))
   obtain⟨nc,rfl,hnc⟩:=bU hc (fun h=>hb2 (.inr (.inr h)))
   exact Lf 4 _ _ _ p na nb nc m v w (by simp) (.inl ⟨rfl,rfl,rfl⟩) eF hnb hnc
 · subst h
   have hb2:¬(8<=a∨8<=b∨8<=c):=of_decide_eq_false hb
   obtain⟨na,rfl,eF⟩:=bU ha (fun h=>hb2 (.inl h))
   obtain⟨nb,rfl,hnb⟩:=bU hb' (fun h=>hb2 (.inr (.inl h)))
   obtain⟨nc,rfl,hnc⟩:=bU hc (fun h=>hb2 (.inr (.inr h)))
   exact Lf 5 _ _ _ p na nb nc m v w (by simp) (.inl ⟨rfl,rfl,rfl⟩) eF hnb hnc
 · subst h
   have hb2:¬(8<=a∨8<=b∨8<=c):=of_decide_eq_false hb
   obtain⟨na,rfl,eF⟩:=bU ha (fun h=>hb2 (.inl h))
   obtain⟨nb,rfl,hnb⟩:=bU hb' (fun h=>hb2 (.inr (.inl h)))
   obtain⟨nc,rfl,hnc⟩:=bU hc (fun h=>hb2 (.inr (.inr h)))
   exact Lf 6 _ _ _ p na nb nc m v w (by simp) (.inl ⟨rfl,rfl,rfl⟩) eF hnb hnc
 · subst h
   have hb2:¬(8<=a∨8<=b∨8<=c):=of_decide_eq_false hb
   obtain⟨na,rfl,eF⟩:=bU ha (fun h=>hb2 (.inl h))
   obtain⟨nb,rfl,hnb⟩:=bU hb' (fun h=>hb2 (.inr (.inl h)))
   obtain⟨nc,rfl,hnc⟩:=bU hc (fun h=>hb2 (.inr (.inr h)))
   exact Lf 7 _ _ _ p na nb nc m v w (by simp) (.inl ⟨rfl,rfl,rfl⟩) eF hnb hnc
 · subst h
   have hb2:¬(8<=a∨8<=b):=of_decide_eq_false hb
   obtain⟨na,rfl,eF⟩:=bU ha (fun h=>hb2 (.inl h))
   obtain⟨nb,rfl,hnb⟩:=bU hb' (fun h=>hb2 (.inr h))
   exact bd8 p na nb c m v w _ (.inl rfl) eF hnb
 · subst h
   have hb3:(decide (8<=a∨8<=b) || !(PM.dL c))=false:=hb
   have hb2:¬(8<=a∨8<=b):=of_decide_eq_false (Bool.or_eq_false_iff.1 hb3).1
   obtain⟨na,rfl,eF⟩:=bU ha (fun h=>hb2 (.inl h))
   obtain⟨nb,rfl,hnb⟩:=bU hb' (fun h=>hb2 (.inr h))
   exact bd9 p na nb c m v w _ (.inl rfl) eF hnb
 · subst h
   have hb3:(decide (8<=a∨8<=b) || !(PM.dL c))=false:=hb
   have hb2:¬(8<=a∨8<=b):=of_decide_eq_false (Bool.or_eq_false_iff.1 hb3).1
   obtain⟨na,rfl,eF⟩:=bU ha (fun h=>hb2 (.inl h))
   obtain⟨nb,rfl,hnb⟩:=bU hb' (fun h=>hb2 (.inr h))
   exact Y3 p na nb c m v w _ (.inl rfl) eF hnb
 · subst h
   obtain⟨na,rfl,eF⟩:=bU ha (of_decide_eq_false hb)
   exact YZ p na b c m v w _ (.inl rfl) eF
 · subst h
   exact YY p a b c m v w _ (.inl rfl)
 · subst h
   have hb2:¬(8<=a∨8<=b):=of_decide_eq_false hb
   obtain⟨na,rfl,eF⟩:=bU ha (fun h=>hb2 (.inl h))
   obtain⟨nb,rfl,hnb⟩:=bU hb' (fun h=>hb2 (.inr h))
   exact Ro 13 _ _ p na nb c m v w eF hnb (by simp) (.inl ⟨rfl,rfl⟩)
 · subst h
   have hb2:¬(8<=a∨8<=b):=of_decide_eq_false hb
   obtain⟨na,rfl,eF⟩:=bU ha (fun h=>hb2 (.inl h))
   obtain⟨nb,rfl,hnb⟩:=bU hb' (fun h=>hb2 (.inr h))
   exact Ro 14 _ _ p na nb c m v w eF hnb (by simp) (.inl ⟨rfl,rfl⟩)
 · subst h
   obtain⟨na,rfl,eF⟩:=bU ha (of_decide_eq_false hb)
   exact YX p na b c m v w _ (.inl rfl) eF
 · subst h
   have hb3:(!(decide (1<=m/\m<=6)))=false:=hb
   exact Od p a b c m v w (by simpa using hb3)
theorem Ag (p:PM.Pr) (i:PM.ey) (v:Int) (w:World) (hf:i.fits) (hb:i.bad=false):Calls Tryz.prog 57 #[.agg p.row,.agg i.cells,I v] w fun e w'=>e=.returned (.agg (PM.doneN p i v).row)/\Below w.heap.size w w':=by
 obtain⟨op,a,b,c,m⟩:=i
 obtain⟨-,ha,hb',hc,-⟩:=hf
 rcases sI op with h | h | h | h | h | h | h | h | h | h | h | h | h | h | h | h | h
 · rw[tD _ h] at hb;cases hb
 · subst h
   obtain⟨na,rfl,eF⟩:=bU ha (of_decide_eq_false hb)
   exact bd1 p na b c m v w _ (.inr rfl) eF
 · subst h
   have hb2:¬(8<=a∨8<=b∨8<=c):=of_decide_eq_false hb
   obtain⟨na,rfl,eF⟩:=bU ha (fun h=>hb2 (.inl h))
   obtain⟨nb,rfl,hnb⟩:=bU hb' (fun h=>hb2 (.inr (.inl h)))
   obtain⟨nc,rfl,hnc⟩:=bU hc (fun h=>hb2 (.inr (.inr h)))
   exact Lf 2 _ _ _ p na nb nc m v w (by simp) (.inr ⟨rfl,rfl,rfl⟩) eF hnb hnc
 · subst h
   have hb2:¬(8<=a∨8<=b∨8<=c):=of_decide_eq_false hb
   obtain⟨na,rfl,eF⟩:=bU ha (fun h=>hb2 (.inl h))
   obtain⟨nb,rfl,hnb⟩:=bU hb' (fun h=>hb2 (.inr (.inl h)))
   obtain⟨nc,rfl,hnc⟩:=bU hc (fun h=>hb2 (.inr (.inr h)))
   exact Lf 3 _ _ _ p na nb nc m v w (by simp) (.inr ⟨rfl,rfl,rfl⟩) eF hnb hnc
 · subst h
   have hb2:¬(8<=a∨8<=b∨8<=c):=of_decide_eq_false hb
   obtain⟨na,rfl,eF⟩:=bU ha (fun h=>hb2 (.inl h))
   obtain⟨nb,rfl,hnb⟩:=bU hb' (fun h=>hb2 (.inr (.inl h)))
   obtain⟨nc,rfl,hnc⟩:=bU hc (fun h=>hb2 (.inr (.inr h)))
   exact Lf 4 _ _ _ p na nb nc m v w (by simp) (.inr ⟨rfl,rfl,rfl⟩) eF hnb hnc
 · subst h
   have hb2:¬(8<=a∨8<=b∨8<=c):=of_decide_eq_false hb
   obtain⟨na,rfl,eF⟩:=bU ha (fun h=>hb2 (.inl h))
   obtain⟨nb,rfl,hnb⟩:=bU hb' (fun h=>hb2 (.inr (.inl h)))
   obtain⟨nc,rfl,hnc⟩:=bU hc (fun h=>hb2 (.inr (.inr h)))
   exact Lf 5 _ _ _ p na nb nc m v w (by simp) (.inr ⟨rfl,rfl,rfl⟩) eF hnb hnc
 · subst h
   have hb2:¬(8<=a∨8<=b∨8<=c):=of_decide_eq_false hb
   obtain⟨na,rfl,eF⟩:=bU ha (fun h=>hb2 (.inl h))
   obtain⟨nb,rfl,hnb⟩:=bU hb' (fun h=>hb2 (.inr (.inl h)))
   obtain⟨nc,rfl,hnc⟩:=bU hc (fun h=>hb2 (.inr (.inr h)))
   exact Lf 6 _ _ _ p na nb nc m v w (by simp) (.inr ⟨rfl,rfl,rfl⟩) eF hnb hnc
 · subst h
   have hb2:¬(8<=a∨8<=b∨8<=c):=of_decide_eq_false hb
   obtain⟨na,rfl,eF⟩:=bU ha (fun h=>hb2 (.inl h))
   obtain⟨nb,rfl,hnb⟩:=bU hb' (fun h=>hb2 (.inr (.inl h)))
   obtain⟨nc,rfl,hnc⟩:=bU hc (fun h=>hb2 (.inr (.inr h)))
   exact Lf 7 _ _ _ p na nb nc m v w (by simp) (.inr ⟨rfl,rfl,rfl⟩) eF hnb hnc
 · subst h
   have hb2:¬(8<=a∨8<=b):=of_decide_eq_false hb
   obtain⟨na,rfl,eF⟩:=bU ha (fun h=>hb2 (.inl h))
   obtain⟨nb,rfl,hnb⟩:=bU hb' (fun h=>hb2 (.inr h))
   exact bd8 p na nb c m v w _ (.inr rfl) eF hnb
 · subst h
   have hb3:(decide (8<=a∨8<=b) || !(PM.dL c))=false:=hb
   have hb2:¬(8<=a∨8<=b):=of_decide_eq_false (Bool.or_eq_false_iff.1 hb3).1
   obtain⟨na,rfl,eF⟩:=bU ha (fun h=>hb2 (.inl h))
   obtain⟨nb,rfl,hnb⟩:=bU hb' (fun h=>hb2 (.inr h))
   exact bd9 p na nb c m v w _ (.inr rfl) eF hnb
 · subst h
   have hb3:(decide (8<=a∨8<=b) || !(PM.dL c))=false:=hb
   have hb2:¬(8<=a∨8<=b):=of_decide_eq_false (Bool.or_eq_false_iff.1 hb3).1
   obtain⟨na,rfl,eF⟩:=bU ha (fun h=>hb2 (.inl h))
   obtain⟨nb,rfl,hnb⟩:=bU hb' (fun h=>hb2 (.inr h))
   exact Y3 p na nb c m v w _ (.inr rfl) eF hnb
 · subst h
   obtain⟨na,rfl,eF⟩:=bU ha (of_decide_eq_false hb)
   exact YZ p na b c m v w _ (.inr rfl) eF
 · subst h
   exact YY p a b c m v w _ (.inr rfl)
 · subst h
   have hb2:¬(8<=a∨8<=b):=of_decide_eq_false hb
   obtain⟨na,rfl,eF⟩:=bU ha (fun h=>hb2 (.inl h))
   obtain⟨nb,rfl,hnb⟩:=bU hb' (fun h=>hb2 (.inr h))
   exact Ro 13 _ _ p na nb c m v w eF hnb (by simp) (.inr ⟨rfl,rfl⟩)
 · subst h
   have hb2:¬(8<=a∨8<=b):=of_decide_eq_false hb
   obtain⟨na,rfl,eF⟩:=bU ha (fun h=>hb2 (.inl h))
   obtain⟨nb,rfl,hnb⟩:=bU hb' (fun h=>hb2 (.inr h))
   exact Ro 14 _ _ p na nb c m v w eF hnb (by simp) (.inr ⟨rfl,rfl⟩)
 · subst h
   obtain⟨na,rfl,eF⟩:=bU ha (of_decide_eq_false hb)
   exact YX p na b c m v w _ (.inr rfl) eF
 · subst h
   have hb3:(!(decide (1<=m/\m<=6)))=false:=hb
   exact QS p a b c m v w (by simpa using hb3)
theorem CN {N g:Nat} {w W:World} (h:Below N w W) (hg:N<=g) (v0 v1 v2 v3 v4 v5 v6 v7 v8 v9 v10 v11 v12:Value):Below N w (((((((((((((W.setCell (Ad g 0) v0).setCell (Ad g 1) v1).setCell (Ad g 2) v2).setCell (Ad g 3) v3).setCell (Ad g 4) v4).setCell (Ad g 5) v5).setCell (Ad g 6) v6).setCell (Ad g 7) v7).setCell (Ad g 8) v8).setCell (Ad g 9) v9).setCell (Ad g 10) v10).setCell (Ad g 11) v11).setCell (Ad g 12) v12) :=
 (((((((((((((h.setCell (p:=(Ad g 0)) hg v0).setCell (p:=(Ad g 1)) hg v1).setCell (p:=(Ad g 2)) hg v2).setCell (p:=(Ad g 3)) hg v3).setCell (p:=(Ad g 4)) hg v4).setCell (p:=(Ad g 5)) hg v5).setCell (p:=(Ad g 6)) hg v6).setCell (p:=(Ad g 7)) hg v7).setCell (p:=(Ad g 8)) hg v8).setCell (p:=(Ad g 9)) hg v9).setCell (p:=(Ad g 10)) hg v10).setCell (p:=(Ad g 11)) hg v11).setCell (p:=(Ad g 12)) hg v12)
theorem NQ (p:PM.Pr) (s:ByteArray) (v:Int) (w:World) (h:s.size=8) (bad:(PM.ins s).bad=false):Calls Tryz.prog 129 #[p.val,.string s,I v] w fun e w'=>e=.returned (.tuple #[.agg (PM.doneN p (PM.ins s) v).row,I 0])/\Below w.heap.size w w':=by
 have HD:=ai (fun V=>xW s V h)
 have hfit:=PM.pj s h
 obtain⟨i,hi⟩:=ex (PM.ins s)
 rw[<- hi] at HD hfit bad ⊢
 have HK:=ai (fun V=>zZ i V hfit)
 have aec:=ai bad
 clear hi h
 have HN:=ai (fun V=>GQ p i v V hfit bad)
 rw[bad] at HK
 obtain⟨R,hR⟩:=ex (PM.doneN p i v)
 rw[<- hR] at HN ⊢
 obtain⟨op,a,b,c,m⟩:=i
 unfold PM.ey.cells at HD HK HN
 simp only at HD HK HN
 clear hfit bad aec hR
 have cM:=ai (((Below.refl w.heap.size w).alloc (Nat.le_refl _) (.cells p.row 70)).alloc (by simp) (.cells #[I 0,I 0,I 0,I 0,I 0,I 0,I 0,I 0,I 0,I 0,I 0,I 0,I 0] 70))
 have BP:=ai (B.alloc (B.new w p.row 70) (.cells #[I 0,I 0,I 0,I 0,I 0,I 0,I 0,I 0,I 0,I 0,I 0,I 0,I 0] 70))
 have BR:=ai (B.new (w.alloc (.cells p.row 70)) #[I 0,I 0,I 0,I 0,I 0,I 0,I 0,I 0,I 0,I 0,I 0,I 0,I 0] 70)
 rw[World.size_alloc] at BR
 unfold PM.Pr.val
 go_enter Tryz.func129,Tryz.ntmps129
 go_wp2_with fail
 refine(HD.o _).mono ?_
 rintro e w1 ⟨rfl,hb1⟩
 have bj:=ai (cM.o.trans (hb1.mono cM.o.size))
 have vS:=ai (B.below BP.o hb1 (B.isLt BP.o))
 have iU:=ai (B.below BR.o hb1 (B.isLt BR.o))
 have tI:=ai ((Below.refl w1.heap.size w1).alloc (Nat.le_refl _) (.cells #[I op,I a,I b,I c,I m] 99))
 have og:=ai (B.new w1 #[I op,I a,I b,I c,I m] 99)
 clear hb1
 go_wp2_with fail
 refine(HK.o _).mono ?_
 rintro e w2 ⟨rfl,hb2⟩
 have bW:=ai (bj.o.trans ((tI.o.trans (hb2.mono tI.o.size)).mono bj.o.size))
 have vq:=ai (B.below (B.alloc vS.o _) hb2 (B.isLt (B.alloc vS.o _)))
 have oJ:=ai (B.below (B.alloc iU.o _) hb2 (B.isLt (B.alloc iU.o _)))
 have zA:=ai (B.below og.o hb2 (B.isLt og.o))
 clear hb2 tI iU vS cM BP BR HD HK bj og
 have p0:w2.cell? (Ad w.heap.size 0)=some (I (p.r 0)):=B.cell vq.o 0 rfl
 have p1:w2.cell? (Ad w.heap.size 1)=some (I (p.r 1)):=B.cell vq.o 1 rfl
 have p2:w2.cell? (Ad w.heap.size 2)=some (I (p.r 2)):=B.cell vq.o 2 rfl
 have p3:w2.cell? (Ad w.heap.size 3)=some (I (p.r 3)):=B.cell vq.o 3 rfl
 have p4:w2.cell? (Ad w.heap.size 4)=some (I (p.r 4)):=B.cell vq.o 4 rfl
 have p5:w2.cell? (Ad w.heap.size 5)=some (I (p.r 5)):=B.cell vq.o 5 rfl
 have p6:w2.cell? (Ad w.heap.size 6)=some (I (p.r 6)):=B.cell vq.o 6 rfl
 have p7:w2.cell? (Ad w.heap.size 7)=some (I (p.r 7)):=B.cell vq.o 7 rfl
 have p8:w2.cell? (Ad w.heap.size 8)=some (I p.pc):=B.cell vq.o 8 rfl
 have p9:w2.cell? (Ad w.heap.size 9)=some (I p.st):=B.cell vq.o 9 rfl
 have TX:w2.cell? (Ad w.heap.size 10)=some (I p.cd):=B.cell vq.o 10 rfl
 have TW:w2.cell? (Ad w.heap.size 11)=some (I p.fk):=B.cell vq.o 11 rfl
 have TV:w2.cell? (Ad w.heap.size 12)=some (I p.fa):=B.cell vq.o 12 rfl
 obtain⟨i0,i1,i2,i3,i4⟩:=B.c5 zA.o
 unfold PM.Pr.row at HN
 go_wp2_with fail
 refine(HN.o _).mono ?_
 rintro e w3 ⟨rfl,hb3⟩
 have fH:=ai (bW.o.trans (hb3.mono bW.o.size))
 have rW:=ai (B.below oJ.o hb3 (B.isLt oJ.o))
 have t0:w3.cell? (Ad (w.heap.size+1) 0)=some (I 0):=B.cell rW.o 0 rfl
 have t1:w3.cell? (Ad (w.heap.size+1) 1)=some (I 0):=B.cell rW.o 1 rfl
 have t2:w3.cell? (Ad (w.heap.size+1) 2)=some (I 0):=B.cell rW.o 2 rfl
 have t3:w3.cell? (Ad (w.heap.size+1) 3)=some (I 0):=B.cell rW.o 3 rfl
 have t4:w3.cell? (Ad (w.heap.size+1) 4)=some (I 0):=B.cell rW.o 4 rfl
 have t5:w3.cell? (Ad (w.heap.size+1) 5)=some (I 0):=B.cell rW.o 5 rfl
 have t6:w3.cell? (Ad (w.heap.size+1) 6)=some (I 0):=B.cell rW.o 6 rfl
 have t7:w3.cell? (Ad (w.heap.size+1) 7)=some (I 0):=B.cell rW.o 7 rfl
 have t8:w3.cell? (Ad (w.heap.size+1) 8)=some (I 0):=B.cell rW.o 8 rfl
 have t9:w3.cell? (Ad (w.heap.size+1) 9)=some (I 0):=B.cell rW.o 9 rfl
 have t10:w3.cell? (Ad (w.heap.size+1) 10)=some (I 0):=B.cell rW.o 10 rfl
 have t11:w3.cell? (Ad (w.heap.size+1) 11)=some (I 0):=B.cell rW.o 11 rfl
 have t12:w3.cell? (Ad (w.heap.size+1) 12)=some (I 0):=B.cell rW.o 12 rfl
 have u0:∀j,w3.frozen? (Ad (w.heap.size+1) j)=false:=fun j=>B.free rW.o j
 clear hb3 HN
 go_wp2
 refine bodyPost_ret (v:=.tuple #[.agg R.row,I 0]) (by simp[results,Tryz.results129,go_sem,t0,t1,t2,t3,t4,t5,t6,t7,t8,t9,t10,t11,t12];rfl) rfl ?_
 exact⟨rfl,CN fH.o (Nat.le_succ _) _ _ _ _ _ _ _ _ _ _ _ _ _⟩
end PW
namespace GW
open Go.RowKit GK GG
open FW (ai aB)
variable {σ:Type} {Hd:World->(Nat->Prop)->σ->Prop} {Ok:σ->List Bool->Prop} {o:vM σ} {lo mb gb:Nat} {D:Nat->Prop} {vr vo:Value} {st:St σ}
theorem RA (C:gP lo mb Hd Ok o) (k:Nat) (w:World) (h:km Hd lo mb gb w D vr vo st) (hok:lZ Ok st) (hk:k<st.ps.length) (h1:(FM.au st.ps k).st=1) (R:(Int×(Int×Int))×St σ) (hR:R=((0,(0,0)),st)) :
  Calls Tryz.prog 109 #[.pointer (some (Ad gb 0)),I (k:Int),.agg #[I 0,I 0,I 0,I 0,I 0]] w fun e w'=>e=.returned (.tuple #[I R.1.1,.agg (FW.dm R.1.2)])/\Left Hd lo mb gb w D vr vo R.2 w':=by
 have HG:=ai h
 have HC:=ai C
 have tH:=ai hok
 have qA:=ai (ek k hk h1)
 have qp:=ai hk
 have KX:=ai h1
 have HR:=ai hR
 have vH:st.ps.length<=4:=by have:=C.ok.few _ _ hok.mem;unfold running at this;rw[List.length_map] at this;exact this
 have oC:=ai (hok.fit k hk)
 have hgb:=B.isLt h.head
 have g0:w.cell? (Ad gb 0)=some (.iface 144 (.pointer (some (Ad mb 0)))):=B.cell h.head 0 rfl
 have g1:w.cell? (Ad gb 1)=some vr:=B.cell h.head 1 rfl
 have cY:=ai (((Below.refl w.heap.size w).alloc (Nat.le_refl _) (.cells #[I 0,I 0,I 0,I 0,I 0] 101)).alloc (by simp) (.cells #[I 0,I 0] 68))
 have BX:=ai (B.alloc (B.new w #[I 0,I 0,I 0,I 0,I 0] 101) (.cells #[I 0,I 0] 68))
 have BY:Hid (((w.alloc (.cells #[I 0,I 0,I 0,I 0,I 0] 101)).alloc (.cells #[I 0,I 0] 68)).heap[w.heap.size+1]?=some (.cells #[I 0,I 0] 68 (0,0))):=by
  have:=B.new (w.alloc (.cells #[I 0,I 0,I 0,I 0,I 0] 101)) #[I 0,I 0] 68
  rw[World.size_alloc] at this
  exact this
 clear hR hok
 clear h C hk h1
 go_enter Tryz.func109,Tryz.ntmps109
 go_wp2
 refine bodyPost_ret (v:=.tuple #[I 0,.agg #[I 0,I 0]]) (by simp[results,Tryz.results109,go_sem]) rfl ?_
 rw[HR.o]
 exact⟨rfl,Left.after cY.o (Left.refl (HG.o.below HC.o cY.o))⟩
theorem Rw (C:gP lo mb Hd Ok o) (k:Nat) (w:World) (h:km Hd lo mb gb w D vr vo st) (hok:lZ Ok st) (hk:k<st.ps.length) (h1:(FM.au st.ps k).st=1) (R:(Int×(Int×Int))×St σ) (hR:R=((0,(4,(FM.au st.ps k).pc)),st)) :
  Calls Tryz.prog 109 #[.pointer (some (Ad gb 0)),I (k:Int),.agg #[I 4,I 0,I 0,I 0,I 0]] w fun e w'=>e=.returned (.tuple #[I R.1.1,.agg (FW.dm R.1.2)])/\Left Hd lo mb gb w D vr vo R.2 w':=by
 have HG:=ai h
 have HC:=ai C
 have tH:=ai hok
 have qA:=ai (ek k hk h1)
 have qp:=ai hk
 have KX:=ai h1
 have HR:=ai hR
 have vH:st.ps.length<=4:=by have:=C.ok.few _ _ hok.mem;unfold running at this;rw[List.length_map] at this;exact this
 have oC:=ai (hok.fit k hk)
 have hgb:=B.isLt h.head
 have g0:w.cell? (Ad gb 0)=some (.iface 144 (.pointer (some (Ad mb 0)))):=B.cell h.head 0 rfl
 have g1:w.cell? (Ad gb 1)=some vr:=B.cell h.head 1 rfl
 have cY:=ai (((Below.refl w.heap.size w).alloc (Nat.le_refl _) (.cells #[I 4,I 0,I 0,I 0,I 0] 101)).alloc (by simp) (.cells #[I 0,I 0] 68))
 have BX:=ai (B.alloc (B.new w #[I 4,I 0,I 0,I 0,I 0] 101) (.cells #[I 0,I 0] 68))
 have BY:Hid (((w.alloc (.cells #[I 4,I 0,I 0,I 0,I 0] 101)).alloc (.cells #[I 0,I 0] 68)).heap[w.heap.size+1]?=some (.cells #[I 0,I 0] 68 (0,0))):=by
  have:=B.new (w.alloc (.cells #[I 4,I 0,I 0,I 0,I 0] 101)) #[I 0,I 0] 68
  rw[World.size_alloc] at this
  exact this
 clear hR hok
 obtain⟨pb,cap,nu,hpb,hpc,uN⟩:=h.proc k hk
 obtain⟨pc,Ut⟩:=ex ((FM.au st.ps k).pc)
 rw[<- Ut] at HR
 have c8:w.cell? (Ad pb (k*13+8))=some (I pc):=by rw[Ut];exact hpc 8 (by omega)
 obtain⟨n,hn⟩:=ex st.ps.length
 rw[<- hn] at nu hk vH
 subst nu
 have jd:(k:Int)<(n:Int):=by omega
 have Uu:¬pb=w.heap.size:=by omega
 have Yj:¬gb=w.heap.size:=by omega
 clear h C h1 hpc uN Ut hn
 go_enter Tryz.func109,Tryz.ntmps109
 go_wp2
 go_region
 go_wp2
 refine bodyPost_ret (v:=.tuple #[I 0,.agg #[I 4,I pc]]) (by simp[results,Tryz.results109,go_sem]) rfl ?_
 rw[HR.o]
 have hb:Below w.heap.size w ((w.alloc (.cells #[I 4,I 0,I 0,I 0,I 0] 101)).alloc (.cells #[I 4,I pc] 68)).drew:=(((Below.refl w.heap.size w).alloc (Nat.le_refl _) _).alloc (by simp) _).drew
 exact⟨rfl,Left.after hb (Left.refl (HG.o.below HC.o hb))⟩
theorem Rx (C:gP lo mb Hd Ok o) (k:Nat) (c:Int) (w:World) (h:km Hd lo mb gb w D vr vo st) (hok:lZ Ok st) (hk:k<st.ps.length) (h1:(FM.au st.ps k).st=1) (R:(Int×(Int×Int))×St σ) (hc:1<=c/\c<=6) (hR:R=(((cu o st k c).1,(0,0)),(cu o st k c).2)) :
  Calls Tryz.prog 109 #[.pointer (some (Ad gb 0)),I (k:Int),.agg #[I 3,I 0,I 0,I 0,I c]] w fun e w'=>e=.returned (.tuple #[I R.1.1,.agg (FW.dm R.1.2)])/\Left Hd lo mb gb w D vr vo R.2 w':=by
 have HG:=ai h
 have HC:=ai C
 have tH:=ai hok
 have qA:=ai (ek k hk h1)
 have qp:=ai hk
 have KX:=ai h1
 have HR:=ai hR
 have vH:st.ps.length<=4:=by have:=C.ok.few _ _ hok.mem;unfold running at this;rw[List.length_map] at this;exact this
 have oC:=ai (hok.fit k hk)
 have hgb:=B.isLt h.head
 have g0:w.cell? (Ad gb 0)=some (.iface 144 (.pointer (some (Ad mb 0)))):=B.cell h.head 0 rfl
 have g1:w.cell? (Ad gb 1)=some vr:=B.cell h.head 1 rfl
 have cY:=ai (((Below.refl w.heap.size w).alloc (Nat.le_refl _) (.cells #[I 3,I 0,I 0,I 0,I c] 101)).alloc (by simp) (.cells #[I 0,I 0] 68))
 have BX:=ai (B.alloc (B.new w #[I 3,I 0,I 0,I 0,I c] 101) (.cells #[I 0,I 0] 68))
 have BY:Hid (((w.alloc (.cells #[I 3,I 0,I 0,I 0,I c] 101)).alloc (.cells #[I 0,I 0] 68)).heap[w.heap.size+1]?=some (.cells #[I 0,I 0] 68 (0,0))):=by
  have:=B.new (w.alloc (.cells #[I 3,I 0,I 0,I 0,I c] 101)) #[I 0,I 0] 68
  rw[World.size_alloc] at this
  exact this
 clear hR hok
 have Lr:=ai (fun V (hV:Below w.heap.size w V)=>ye C k c V (h.below C hV) tH.o hk h1 hc)
 obtain⟨X,hX⟩:=ex (cu o st k c)
 rw[<- hX] at Lr HR
 clear h C hX h1
 go_enter Tryz.func109,Tryz.ntmps109
 go_wp2_with (go_at_call 128;refine(Lr.o _ cY.o).mono ?_;rintro e w1 ⟨rfl,mK⟩;have R5:=ai (fc.behind HC.o HG.o cY.o mK);obtain⟨_,_,_,_,hkk,_⟩:=mK;have tO:=ai (HG.o.aside HC.o hkk (by omega) BY.o);have y0:=B.cell (v:=I 0) tO.o 0 rfl;have y1:=B.cell (v:=I 0) tO.o 1 rfl;have z0:=B.free tO.o 0;have z1:=B.free tO.o 1;clear hkk)
 refine bodyPost_ret (v:=.tuple #[I X.1,.agg #[I 0,I 0]]) (by simp[results,Tryz.results109,go_sem,y0,y1]) rfl ?_
 rw[HR.o]
 have hy:w.heap.size<=w.heap.size+1/\w.heap.size+1<((w.alloc (.cells #[I 3,I 0,I 0,I 0,I c] 101)).alloc (.cells #[I 0,I 0] 68)).heap.size:=⟨by omega,B.isLt BY.o⟩
 exact⟨rfl,((R5.o.set HC.o (Ad (w.heap.size+1) 0) _ hy hy.1).set HC.o (Ad (w.heap.size+1) 1) _ hy hy.1).left⟩
end GW
end Go.Proofs.YtkdigjpejnebkaaGreat
