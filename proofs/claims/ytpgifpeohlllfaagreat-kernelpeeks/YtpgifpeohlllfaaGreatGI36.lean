import Derived.Test.YtpgifpeohlllfaaGreatGI35
import Derived.Test.YtpgifpeohlllfaaGreatGI34
import Derived.Test.YtpgifpeohlllfaaGreatGI33
import Derived.Test.YtpgifpeohlllfaaGreatGI22
import Derived.Test.YtpgifpeohlllfaaGreatGI04
import Derived.Test.YtpgifpeohlllfaaGreatGI07
import Derived.Test.YtpgifpeohlllfaaGreatGI05
import Derived.Lib.Hide
import Derived.WalkSpells
import Derived.Deep.RegionHeld3
import Derived.Test.YtpgifpeohlllfaaGreatGI11
import Derived.Test.YtpgifpeohlllfaaGreatGI15
import Derived.Test.YtpgifpeohlllfaaGreatGI30
set_option maxHeartbeats 20000000
set_option linter.unusedVariables false
set_option maxRecDepth 100000
set_option linter.unusedSimpArgs false
namespace Go.Proofs.YtpgifpeohlllfaaGreat
namespace KG
open Go.RowKit
def jmpD : ByteArray:=⟨#[12,0,0,0,0,0,0,0]⟩
theorem jmp_bytes : (⟨12,0,0,0,0⟩ : PM.Ins).bytes = jmpD:=by kernel_rfl
def abcD : ByteArray:=⟨#[97,98,99]⟩
def p1 : ByteArray:=⟨#[12,0,0,0,0,0,0,0,0,0,0,0,0,0,0,0]⟩
def p2 : ByteArray:=⟨#[97,98,99,0,0,0,0,0,0,0,0,0,0,0,0,0]⟩
def p3 : ByteArray:=⟨#[0,0,0,0,0,0,0,0,0,0,0,0,0,0,0,0]⟩
def thI : M.Im:=⟨⟨#[116]⟩,[],[⟨0,1,jmpD,false,true⟩,⟨1,2,abcD,true,false⟩],[],[],0⟩
theorem th_fit : M.Fit thI:=by
 refine ⟨by unfold M.Short thI;decide,by unfold M.Short thI;decide,fun k hk=>absurd hk (by unfold thI;simp),by unfold M.Short thI;decide,fun k hk=>?_,by unfold M.Short thI;decide,fun k hk=>absurd hk (by unfold thI;simp),by unfold M.Short thI;decide,fun k hk=>absurd hk (by unfold thI;simp),by unfold M.I64 thI;decide⟩
 have : k = 0 ∨ k = 1:=by unfold thI at hk;simp at hk;omega
 rcases this with rfl | rfl
 · exact ⟨by unfold M.I64 thI M.sgAt;decide,by unfold M.I64 thI M.sgAt;decide,by unfold M.Short;show (8 : Nat) <= _;decide⟩
 · exact ⟨by unfold M.I64 thI M.sgAt;decide,by unfold M.I64 thI M.sgAt;decide,by unfold M.Short;show (3 : Nat) <= _;decide⟩
theorem th_err (a : M.At) : LM.linkErr [⟨thI,a⟩] = 0:=by kernel_rfl
theorem th_gat (a : M.At) : LM.gat [⟨thI,a⟩] [(⟨thI,a⟩ : LM.Li)].length 0 [0] = some [0]:=by kernel_rfl
theorem th_obs (a : M.At) : LM.obsFrom [⟨thI,a⟩] 1 [0] = [⟨thI,a,1⟩]:=by kernel_rfl
def thE : List LM.Sp:=[⟨1,p1,[]⟩,⟨2,p2,[]⟩,⟨3,p3,[]⟩]
theorem th_sheets (a : M.At) : LM.sheetsN [⟨thI,a,1⟩] = some thE:=by kernel_rfl
def thA : List AM.Ar:=[⟨1,1,2,false⟩,⟨2,2,1,false⟩]
theorem th_areas (a : M.At) : LM.areasN [⟨thI,a,1⟩] = thA:=by kernel_rfl
theorem th_entry (a : M.At) : LM.addrO (LM.obAt [⟨thI,a,1⟩] 0) (LM.liAt [⟨thI,a⟩] 0).i.entry = 16:=by kernel_rfl
def thH (a1 a2 a3 : Option Addr) (c1 c2 c3 : Nat) : List LM.Sh:=[⟨1,p1,[],a1,c1⟩,⟨2,p2,[],a2,c2⟩,⟨3,p3,[],a3,c3⟩]
theorem th_of {hs : List LM.Sh} (h : hs.map LM.plain = thE) : ∃ a1 a2 a3 c1 c2 c3,hs = thH a1 a2 a3 c1 c2 c3:=by
 match hs,h with
 | [⟨g1,d1,f1,a1,c1⟩,⟨g2,d2,f2,a2,c2⟩,⟨g3,d3,f3,a3,c3⟩],h =>
  simp only [List.map_cons,List.map_nil,LM.plain,thE,List.cons.injEq,LM.Sp.mk.injEq,and_true] at h
  obtain ⟨⟨rfl,rfl,rfl⟩,⟨rfl,rfl,rfl⟩,rfl,rfl,rfl⟩:=h
  exact ⟨a1,a2,a3,c1,c2,c3,rfl⟩
 | [],h=>cases congrArg List.length h
 | [_],h=>cases congrArg List.length h
 | [_,_],h=>cases congrArg List.length h
 | _ :: _ :: _ :: _ :: _,h =>
  have:=congrArg List.length h
  simp [thE] at this
theorem th_fitA : AW.AllFit thA:=AM.fits_of_check _ (by kernel_rfl)
theorem th_fitH (a1 a2 a3 : Option Addr) (c1 c2 c3 : Nat) : LM.FitHs (thH a1 a2 a3 c1 c2 c3):=sheets_fit (by kernel_rfl) (by show (3 : Nat) <= 255;decide)
def wxD : ByteArray:=⟨#[119,120,121,122]⟩
def qD : ByteArray:=⟨#[113]⟩
def abD : ByteArray:=⟨#[97,98]⟩
def pkD : ByteArray:=⟨#[113,98,99,0,0,0,0,0,0,0,0,0,0,0,119,120]⟩
def kk0 (H : List LM.Sh) : KM.Kn:=⟨H,[⟨⟨#[]⟩,0,false,false⟩,⟨⟨#[]⟩,0,false,false⟩,⟨⟨#[]⟩,0,false,false⟩],[⟨⟨#[]⟩,0⟩,⟨⟨#[]⟩,0⟩,⟨⟨#[]⟩,0⟩,⟨⟨#[]⟩,0⟩,⟨⟨#[]⟩,0⟩,⟨⟨#[]⟩,0⟩,⟨⟨#[]⟩,0⟩,⟨⟨#[]⟩,0⟩],[⟨true,thA,[]⟩],0⟩
def kk1 (H : List LM.Sh) : KM.Kn:=⟨H,[⟨⟨#[97,98,99,0,0,0,0,0,0,0,0,0,0,0,119,120]⟩,1,true,true⟩,⟨⟨#[121,122,0,0,0,0,0,0,0,0,0,0,0,0,0,0]⟩,1,true,true⟩,⟨⟨#[]⟩,0,false,false⟩],[⟨⟨#[]⟩,0⟩,⟨⟨#[]⟩,0⟩,⟨⟨#[]⟩,0⟩,⟨⟨#[]⟩,0⟩,⟨⟨#[]⟩,0⟩,⟨⟨#[]⟩,0⟩,⟨⟨#[]⟩,0⟩,⟨⟨#[]⟩,0⟩],[⟨true,thA,[⟨2,1,0⟩,⟨3,1,1⟩]⟩],0⟩
def kk2 (H : List LM.Sh) : KM.Kn:=⟨H,[⟨⟨#[97,98,99,0,0,0,0,0,0,0,0,0,0,0,119,120]⟩,2,true,true⟩,⟨⟨#[121,122,0,0,0,0,0,0,0,0,0,0,0,0,0,0]⟩,2,true,true⟩,⟨⟨#[]⟩,0,false,false⟩],[⟨⟨#[]⟩,0⟩,⟨⟨#[]⟩,0⟩,⟨⟨#[]⟩,0⟩,⟨⟨#[]⟩,0⟩,⟨⟨#[]⟩,0⟩,⟨⟨#[]⟩,0⟩,⟨⟨#[]⟩,0⟩,⟨⟨#[]⟩,0⟩],[⟨true,thA,[⟨2,1,0⟩,⟨3,1,1⟩]⟩,⟨true,thA,[⟨2,1,0⟩,⟨3,1,1⟩]⟩],0⟩
def kk3 (H : List LM.Sh) : KM.Kn:=⟨H,[⟨⟨#[97,98,99,0,0,0,0,0,0,0,0,0,0,0,119,120]⟩,1,true,true⟩,⟨⟨#[121,122,0,0,0,0,0,0,0,0,0,0,0,0,0,0]⟩,2,true,true⟩,⟨⟨#[113,98,99,0,0,0,0,0,0,0,0,0,0,0,119,120]⟩,1,true,true⟩],[⟨⟨#[]⟩,0⟩,⟨⟨#[]⟩,0⟩,⟨⟨#[]⟩,0⟩,⟨⟨#[]⟩,0⟩,⟨⟨#[]⟩,0⟩,⟨⟨#[]⟩,0⟩,⟨⟨#[]⟩,0⟩,⟨⟨#[]⟩,0⟩],[⟨true,thA,[⟨2,1,0⟩,⟨3,1,1⟩]⟩,⟨true,thA,[⟨2,1,2⟩,⟨3,1,1⟩]⟩],0⟩
theorem kk0_check (a1 a2 a3 : Option Addr) (c1 c2 c3 : Nat) : KM.checkK (kk0 (thH a1 a2 a3 c1 c2 c3)) = 0:=by kernel_rfl
theorem kk0_right (a1 a2 a3 : Option Addr) (c1 c2 c3 : Nat) : KM.RightK (kk0 (thH a1 a2 a3 c1 c2 c3)):=(KM.check_iff _).1 (kk0_check a1 a2 a3 c1 c2 c3)
theorem kk0_fit (a1 a2 a3 : Option Addr) (c1 c2 c3 : Nat) : KW.FitK (kk0 (thH a1 a2 a3 c1 c2 c3)):=fit_right (kk0_right a1 a2 a3 c1 c2 c3)
theorem kk1_check (a1 a2 a3 : Option Addr) (c1 c2 c3 : Nat) : KM.checkK (kk1 (thH a1 a2 a3 c1 c2 c3)) = 0:=by kernel_rfl
theorem kk1_right (a1 a2 a3 : Option Addr) (c1 c2 c3 : Nat) : KM.RightK (kk1 (thH a1 a2 a3 c1 c2 c3)):=(KM.check_iff _).1 (kk1_check a1 a2 a3 c1 c2 c3)
theorem kk1_fit (a1 a2 a3 : Option Addr) (c1 c2 c3 : Nat) : KW.FitK (kk1 (thH a1 a2 a3 c1 c2 c3)):=fit_right (kk1_right a1 a2 a3 c1 c2 c3)
theorem kk2_check (a1 a2 a3 : Option Addr) (c1 c2 c3 : Nat) : KM.checkK (kk2 (thH a1 a2 a3 c1 c2 c3)) = 0:=by kernel_rfl
theorem kk2_right (a1 a2 a3 : Option Addr) (c1 c2 c3 : Nat) : KM.RightK (kk2 (thH a1 a2 a3 c1 c2 c3)):=(KM.check_iff _).1 (kk2_check a1 a2 a3 c1 c2 c3)
theorem kk2_fit (a1 a2 a3 : Option Addr) (c1 c2 c3 : Nat) : KW.FitK (kk2 (thH a1 a2 a3 c1 c2 c3)):=fit_right (kk2_right a1 a2 a3 c1 c2 c3)
theorem kk3_check (a1 a2 a3 : Option Addr) (c1 c2 c3 : Nat) : KM.checkK (kk3 (thH a1 a2 a3 c1 c2 c3)) = 0:=by kernel_rfl
theorem kk3_right (a1 a2 a3 : Option Addr) (c1 c2 c3 : Nat) : KM.RightK (kk3 (thH a1 a2 a3 c1 c2 c3)):=(KM.check_iff _).1 (kk3_check a1 a2 a3 c1 c2 c3)
theorem kk3_fit (a1 a2 a3 : Option Addr) (c1 c2 c3 : Nat) : KW.FitK (kk3 (thH a1 a2 a3 c1 c2 c3)):=fit_right (kk3_right a1 a2 a3 c1 c2 c3)
theorem kk1_store (a1 a2 a3 : Option Addr) (c1 c2 c3 : Nat) : KZ.storeA (kk0 (thH a1 a2 a3 c1 c2 c3)) 0 46 wxD = (kk1 (thH a1 a2 a3 c1 c2 c3),(0,0),0):=by kernel_rfl
theorem kk3_store (a1 a2 a3 : Option Addr) (c1 c2 c3 : Nat) : KZ.storeA (kk2 (thH a1 a2 a3 c1 c2 c3)) 1 32 qD = (kk3 (thH a1 a2 a3 c1 c2 c3),(0,0),0):=by kernel_rfl
theorem kk3_load (a1 a2 a3 : Option Addr) (c1 c2 c3 : Nat) : (KZ.loadA (kk3 (thH a1 a2 a3 c1 c2 c3)) 0 32 2 0).2 = (abD,(0,0),0):=by kernel_rfl
theorem kk3_peek (a1 a2 a3 : Option Addr) (c1 c2 c3 : Nat) : KW.peekR (kk3 (thH a1 a2 a3 c1 c2 c3)) 1 2 = (pkD,0):=by kernel_rfl
end KG
namespace PW
open Go.RowKit
theorem hideC {p : Prop} (h : p) : Hid p:=h
set_option maxHeartbeats 1500000 in
theorem instr_any (i : PM.Ins) (w : World) : Calls Tryz.prog 94 #[.agg i.cells] w fun e w'=>e = .returned (.string i.bytes) /\ Below w.heap.size w w':=by
 obtain ⟨o,a,b,c,m⟩:=i
 unfold PM.Ins.cells PM.Ins.bytes
 simp only
 have HB0:=hideC ((Below.refl w.heap.size w).alloc (Nat.le_refl _) (.cells #[.int .i64 o,.int .i64 a,.int .i64 b,.int .i64 c,.int .i64 m] 143))
 have BX:=hideC (B.new w #[.int .i64 o,.int .i64 a,.int .i64 b,.int .i64 c,.int .i64 m] 143)
 obtain ⟨W,hW⟩ : ∃ W,W = w.alloc (.cells #[.int .i64 o,.int .i64 a,.int .i64 b,.int .i64 c,.int .i64 m] 143):=⟨_,rfl⟩
 have HW:=hideC hW
 rw [<- hW] at HB0 BX
 have hkin:=Q.kin_some W
 have hwl:=B.isLt BX.out
 have k0 : ∀ x : Q.Kin W.heap.size W,x.world.cell? ⟨w.heap.size,0,none⟩ = some (.int .i64 o):=fun x=>by rw [Q.cell_kin x _ _ hwl];exact B.cell BX.out 0 rfl
 have k1 : ∀ x : Q.Kin W.heap.size W,x.world.cell? ⟨w.heap.size,1,none⟩ = some (.int .i64 a):=fun x=>by rw [Q.cell_kin x _ _ hwl];exact B.cell BX.out 1 rfl
 have k2 : ∀ x : Q.Kin W.heap.size W,x.world.cell? ⟨w.heap.size,2,none⟩ = some (.int .i64 b):=fun x=>by rw [Q.cell_kin x _ _ hwl];exact B.cell BX.out 2 rfl
 have k3 : ∀ x : Q.Kin W.heap.size W,x.world.cell? ⟨w.heap.size,3,none⟩ = some (.int .i64 c):=fun x=>by rw [Q.cell_kin x _ _ hwl];exact B.cell BX.out 3 rfl
 have k4 : ∀ x : Q.Kin W.heap.size W,x.world.cell? ⟨w.heap.size,4,none⟩ = some (.int .i64 m):=fun x=>by rw [Q.cell_kin x _ _ hwl];exact B.cell BX.out 4 rfl
 have HA : Hid (∀ n V,Calls Tryz.prog 138 #[.int .i64 n,.int .i64 1] V fun e w'=>e = .returned (.string (PM.le 1 n)) /\ Below V.heap.size V w'):=fun n U=>CW.bytes_any n 1 U (by omega)
 have HM : Hid (∀ V,Calls Tryz.prog 138 #[.int .i64 m,.int .i64 4] V fun e w'=>e = .returned (.string (PM.le 4 m)) /\ Below V.heap.size V w'):=fun U=>CW.bytes_any m 4 U (by omega)
 have s1:=PM.le_size 1 o
 have s2:=PM.le_size 1 a
 have s3:=PM.le_size 1 b
 have s4:=PM.le_size 1 c
 have s5:=PM.le_size 4 m
 have t1 : (PM.le 1 o ++ PM.le 1 a).size = 2:=by rw [ByteArray.size_append,s1,s2]
 have t2 : (PM.le 1 o ++ PM.le 1 a ++ PM.le 1 b).size = 3:=by rw [ByteArray.size_append,t1,s3]
 have t3 : (PM.le 1 o ++ PM.le 1 a ++ PM.le 1 b ++ PM.le 1 c).size = 4:=by rw [ByteArray.size_append,t2,s4]
 clear hW
 go_enter Tryz.func94,Tryz.ntmps94
 go_wp2
 rw [<- HW.out]
 refine Q.region_kin (by kernel_rfl) (by kernel_rfl) ?_
 repeat (first | go_big_quiet_step ((go_at_call 138;first | with_reducible exact Q.calls_kin (HA.out _) _ | with_reducible exact Q.calls_kin HM.out _)) | quiet_step ((go_at_call 138;first | with_reducible exact Q.calls_kin (HA.out _) _ | with_reducible exact Q.calls_kin HM.out _)))
 refine wpQuiet_nil ?_
 intro _ hw'
 obtain ⟨x,hw''⟩:=hw'
 subst hw''
 go_wp2
 go_ret
 exact ⟨rfl,HB0.out.trans (x.keeps.mono HB0.out.size)⟩
end PW
namespace W
open Go.RowKit
set_option maxHeartbeats 1000000 in
theorem syms0 (nm : ByteArray) (an ag ay ar : Option Addr) (cn gl cg cy cr : Nat) (en : Int) (w : World) : Calls Tryz.prog 181 #[.agg #[.string nm,.slice an 0 cn,.slice ag gl cg,.slice ay 0 cy,.slice ar 0 cr,.int .i64 en]] w fun e w'=>e = .returned (.bool true) /\ Below w.heap.size w w':=by
 have HB:=hideC ((Below.refl w.heap.size w).alloc (Nat.le_refl _) (.cells #[.string nm,.slice an 0 cn,.slice ag gl cg,.slice ay 0 cy,.slice ar 0 cr,.int .i64 en] 151))
 go_enter Tryz.func181,Tryz.ntmps181
 go_wp2
 go_loopw [10] (fun iv wr=>iv = .int .i64 0 /\ Below w.heap.size w wr) (fun _ _=>0)
 case atStart=>exact ⟨rfl,HB.out⟩
 case round =>
  obtain ⟨rfl,hb⟩:=hrel
  have HB2:=hideC hb
  clear hb
  go_wp2
  go_ret
  exact ⟨rfl,HB2.out⟩
set_option maxHeartbeats 1000000 in
theorem rels0 (nm : ByteArray) (an ag ay ar : Option Addr) (cn gl cg cy cr : Nat) (en : Int) (w : World) : Calls Tryz.prog 182 #[.agg #[.string nm,.slice an 0 cn,.slice ag gl cg,.slice ay 0 cy,.slice ar 0 cr,.int .i64 en]] w fun e w'=>e = .returned (.bool true) /\ Below w.heap.size w w':=by
 have HB:=hideC ((Below.refl w.heap.size w).alloc (Nat.le_refl _) (.cells #[.string nm,.slice an 0 cn,.slice ag gl cg,.slice ay 0 cy,.slice ar 0 cr,.int .i64 en] 151))
 go_enter Tryz.func182,Tryz.ntmps182
 go_wp2
 go_loopw [11] (fun iv wr=>iv = .int .i64 0 /\ Below w.heap.size w wr) (fun _ _=>0)
 case atStart=>exact ⟨rfl,HB.out⟩
 case round =>
  obtain ⟨rfl,hb⟩:=hrel
  have HB2:=hideC hb
  clear hb
  go_wp2
  go_ret
  exact ⟨rfl,HB2.out⟩
set_option maxHeartbeats 1000000 in
theorem symNames0 (ay : Option Addr) (cy : Nat) (w : World) : Calls Tryz.prog 180 #[.slice ay 0 cy] w fun e w'=>e = .returned (.slice none 0 0) /\ Below w.heap.size w w':=by
 go_enter Tryz.func180,Tryz.ntmps180
 go_wp2
 go_loopw [3,8] (fun sv iv wr=>sv = .slice none 0 0 /\ iv = .int .i64 0 /\ Below w.heap.size w wr) (fun _ _ _=>0)
 case atStart=>exact ⟨rfl,rfl,Below.refl _ _⟩
 case round =>
  obtain ⟨rfl,rfl,hb⟩:=hrel
  have HB2:=hideC hb
  clear hb
  go_wp2
  go_ret
  exact ⟨rfl,HB2.out⟩
set_option maxHeartbeats 2000000 in
theorem names0 (nm : ByteArray) (an ag ay ar : Option Addr) (cn gl cg cy cr : Nat) (en : Int) (w : World) (hn : ∀ V,Calls Tryz.prog 198 #[.string nm] V fun e w'=>e = .returned (.bool true) /\ Below V.heap.size V w') : Calls Tryz.prog 175 #[.agg #[.string nm,.slice an 0 cn,.slice ag gl cg,.slice ay 0 cy,.slice ar 0 cr,.int .i64 en]] w fun e w'=>e = .returned (.bool true) /\ Below w.heap.size w w':=by
 have HN:=hideC hn
 clear hn
 have HB:=hideC ((Below.refl w.heap.size w).alloc (Nat.le_refl _) (.cells #[.string nm,.slice an 0 cn,.slice ag gl cg,.slice ay 0 cy,.slice ar 0 cr,.int .i64 en] 151))
 have X0:=hideC (B.new w #[.string nm,.slice an 0 cn,.slice ag gl cg,.slice ay 0 cy,.slice ar 0 cr,.int .i64 en] 151)
 go_enter Tryz.func175,Tryz.ntmps175
 go_wp2_with (go_at_call 198;refine (HN.out _).mono ?_;rintro e w1 ⟨rfl,hb1⟩;have HB1:=hideC (HB.out.trans (hb1.mono HB.out.size));have X1:=hideC (B.below X0.out hb1 (B.isLt X0.out));have x1 : w1.cell? ⟨w.heap.size,1,none⟩ = some (.slice an 0 cn):=B.cell X1.out 1 rfl;clear hb1)
 go_loopw [16] (fun iv wr=>iv = .int .i64 0 /\ wr.heap[w.heap.size]? = some (.cells #[.string nm,.slice an 0 cn,.slice ag gl cg,.slice ay 0 cy,.slice ar 0 cr,.int .i64 en] 151 (0,0)) /\ Below w.heap.size w wr) (fun _ _=>0)
 case atStart=>exact ⟨rfl,X1.out,HB1.out⟩
 case round =>
  obtain ⟨rfl,hx,hb⟩:=hrel
  have HX:=hideC hx
  have HB2:=hideC hb
  have y3 : wr.cell? ⟨w.heap.size,3,none⟩ = some (.slice ay 0 cy):=B.cell hx 3 rfl
  clear hb hx HB1 X1 x1
  go_wp2
  clear y3
  go_loopw [27] (fun iv wi=>iv = .int .i64 0 /\ wi.heap[w.heap.size]? = some (.cells #[.string nm,.slice an 0 cn,.slice ag gl cg,.slice ay 0 cy,.slice ar 0 cr,.int .i64 en] 151 (0,0)) /\ Below w.heap.size w wi) (fun _ _=>0)
  case atStart=>exact ⟨rfl,HX.out,HB2.out⟩
  case round =>
   clear HX HB2
   obtain ⟨rfl,hx,hb⟩:=hrel
   have HX:=hideC hx
   have HB3:=hideC hb
   have y4 : wr.cell? ⟨w.heap.size,4,none⟩ = some (.slice ar 0 cr):=B.cell hx 4 rfl
   clear hb hx
   go_wp2
   clear y4
   go_loopw [39] (fun iv wi=>iv = .int .i64 0 /\ Below w.heap.size w wi) (fun _ _=>0)
   case atStart=>exact ⟨rfl,HB3.out⟩
   case round =>
    obtain ⟨rfl,hb⟩:=hrel
    have HB4:=hideC hb
    clear hb
    go_wp2
    go_ret
    exact ⟨rfl,HB4.out⟩
set_option maxHeartbeats 4000000 in
theorem check0 (nm : ByteArray) (gs : List M.Sg) (en : Int) (an ag ay ar : Option Addr) (cn cg cy cr : Nat) (w : World) (h : M.HasIm w ⟨an,cn,ag,cg,ay,cy,ar,cr⟩ ⟨nm,[],gs,[],[],en⟩) (hf : M.Fit ⟨nm,[],gs,[],[],en⟩) (h1 : M.nameB nm = true) (h2 : M.countsB ⟨nm,[],gs,[],[],en⟩ = true) (h3 : gs.all M.rangeB = true) (h4 : M.apartB gs = true) (h5 : M.entryB ⟨nm,[],gs,[],[],en⟩ = true) :
  Calls Tryz.prog 158 #[.agg #[.string nm,.slice an 0 cn,.slice ag gs.length cg,.slice ay 0 cy,.slice ar 0 cr,.int .i64 en]] w fun e w'=>e = .returned (.int .i64 0) /\ Below w.heap.size w w':=by
 have HIN : Hid (∀ V,Calls Tryz.prog 198 #[.string nm] V fun e w'=>e = .returned (.bool true) /\ Below V.heap.size V w'):=fun V=>(isName_any nm V hf.name).mono fun e w' ⟨e1,e2⟩=>⟨by rw [e1,h1],by rw [<- e2];exact Below.refl _ _⟩
 have HNM:=hideC (fun V=>names0 nm an ag ay ar cn gs.length cg cy cr en V HIN.out)
 have HCN : Hid (∀ V,Calls Tryz.prog 176 #[.agg #[.string nm,.slice an 0 cn,.slice ag gs.length cg,.slice ay 0 cy,.slice ar 0 cr,.int .i64 en]] V fun e w'=>e = .returned (.bool true) /\ Below V.heap.size V w'):=fun V=>(rightCounts_any ⟨nm,[],gs,[],[],en⟩ ⟨an,cn,ag,cg,ay,cy,ar,cr⟩ V hf).mono fun e w' ⟨e1,e2⟩=>⟨by rw [e1,h2],e2⟩
 have HRG : Hid (∀ V,Below w.heap.size w V -> Calls Tryz.prog 177 #[.slice ag gs.length cg] V fun e w'=>e = .returned (.bool true) /\ Below V.heap.size V w'):=fun V hV=>(rightRanges_any gs ag cg V (h.below hV).segs hf.segs hf.seg).mono fun e w' ⟨e1,e2⟩=>⟨by rw [e1,h3],e2⟩
 have HOV : Hid (∀ V,Below w.heap.size w V -> Calls Tryz.prog 178 #[.slice ag gs.length cg] V fun e w'=>e = .returned (.bool false) /\ Below V.heap.size V w'):=fun V hV=>(overlap_any gs ag cg V (h.below hV).segs hf.segs h3).mono fun e w' ⟨e1,e2⟩=>⟨by rw [e1,h4];rfl,e2⟩
 have HTW : Hid (∀ ao c V,Calls Tryz.prog 179 #[.slice ao 0 c] V fun e w'=>e = .returned (.bool false) /\ Below V.heap.size V w'):=fun ao c V=>(twice_any [] ao c V (fun h=>absurd h (Nat.not_lt_zero _)) (Nat.zero_le _) (fun k hk=>absurd hk (Nat.not_lt_zero _))).mono fun e w' ⟨e1,e2⟩=>⟨by rw [e1];rfl,e2⟩
 have HSN:=hideC (fun V=>symNames0 ay cy V)
 have HSY:=hideC (fun V=>syms0 nm an ag ay ar cn gs.length cg cy cr en V)
 have HRL:=hideC (fun V=>rels0 nm an ag ay ar cn gs.length cg cy cr en V)
 have HEN : Hid (∀ V,Below w.heap.size w V -> Calls Tryz.prog 183 #[.agg #[.string nm,.slice an 0 cn,.slice ag gs.length cg,.slice ay 0 cy,.slice ar 0 cr,.int .i64 en]] V fun e w'=>e = .returned (.bool true) /\ Below V.heap.size V w'):=fun V hV=>(entryPlaced_any ⟨nm,[],gs,[],[],en⟩ ⟨an,cn,ag,cg,ay,cy,ar,cr⟩ V (h.below hV) hf h3).mono fun e w' ⟨e1,e2⟩=>⟨by rw [e1,h5],e2⟩
 obtain ⟨gl,hgl⟩ : ∃ gl,gl = gs.length:=⟨_,rfl⟩
 rw [<- hgl] at HNM HCN HRG HOV HSY HRL HEN ⊢
 clear h hf h1 h2 h3 h4 h5 hgl HIN
 have HB:=hideC ((Below.refl w.heap.size w).alloc (Nat.le_refl _) (.cells #[.string nm,.slice an 0 cn,.slice ag gl cg,.slice ay 0 cy,.slice ar 0 cr,.int .i64 en] 151))
 have X:=hideC (B.new w #[.string nm,.slice an 0 cn,.slice ag gl cg,.slice ay 0 cy,.slice ar 0 cr,.int .i64 en] 151)
 go_enter Tryz.func158,Tryz.ntmps158
 go_wp2_with (first
  | (go_at_call 175;refine (HNM.out _).mono ?_;rintro e w1 ⟨rfl,hb⟩;have HB1:=hideC (HB.out.trans (hb.mono HB.out.size));have X1:=hideC (B.below X.out hb (B.isLt X.out));clear hb;have k10 : w1.cell? ⟨w.heap.size,0,none⟩ = some (.string nm):=B.cell X1.out 0 rfl;have k11 : w1.cell? ⟨w.heap.size,1,none⟩ = some (.slice an 0 cn):=B.cell X1.out 1 rfl;have k12 : w1.cell? ⟨w.heap.size,2,none⟩ = some (.slice ag gl cg):=B.cell X1.out 2 rfl;have k13 : w1.cell? ⟨w.heap.size,3,none⟩ = some (.slice ay 0 cy):=B.cell X1.out 3 rfl;have k14 : w1.cell? ⟨w.heap.size,4,none⟩ = some (.slice ar 0 cr):=B.cell X1.out 4 rfl;have k15 : w1.cell? ⟨w.heap.size,5,none⟩ = some (.int .i64 en):=B.cell X1.out 5 rfl)
  | (go_at_call 176;refine (HCN.out _).mono ?_;rintro e w2 ⟨rfl,hb⟩;have HB2:=hideC (HB1.out.trans (hb.mono HB1.out.size));have X2:=hideC (B.below X1.out hb (B.isLt X1.out));clear hb;have k22 : w2.cell? ⟨w.heap.size,2,none⟩ = some (.slice ag gl cg):=B.cell X2.out 2 rfl)
  | (go_at_call 177;refine (HRG.out _ HB2.out).mono ?_;rintro e w3 ⟨rfl,hb⟩;have HB3:=hideC (HB2.out.trans (hb.mono HB2.out.size));have X3:=hideC (B.below X2.out hb (B.isLt X2.out));clear hb;have k32 : w3.cell? ⟨w.heap.size,2,none⟩ = some (.slice ag gl cg):=B.cell X3.out 2 rfl)
  | (go_at_call 178;refine (HOV.out _ HB3.out).mono ?_;rintro e w4 ⟨rfl,hb⟩;have HB4:=hideC (HB3.out.trans (hb.mono HB3.out.size));have X4:=hideC (B.below X3.out hb (B.isLt X3.out));clear hb;have k41 : w4.cell? ⟨w.heap.size,1,none⟩ = some (.slice an 0 cn):=B.cell X4.out 1 rfl)
  | (have _:=X6;go_at_call 179;refine (HTW.out _ _ _).mono ?_;rintro e w7 ⟨rfl,hb⟩;have HB7:=hideC (HB6.out.trans (hb.mono HB6.out.size));have X7:=hideC (B.below X6.out hb (B.isLt X6.out));clear hb;have k70 : w7.cell? ⟨w.heap.size,0,none⟩ = some (.string nm):=B.cell X7.out 0 rfl;have k71 : w7.cell? ⟨w.heap.size,1,none⟩ = some (.slice an 0 cn):=B.cell X7.out 1 rfl;have k72 : w7.cell? ⟨w.heap.size,2,none⟩ = some (.slice ag gl cg):=B.cell X7.out 2 rfl;have k73 : w7.cell? ⟨w.heap.size,3,none⟩ = some (.slice ay 0 cy):=B.cell X7.out 3 rfl;have k74 : w7.cell? ⟨w.heap.size,4,none⟩ = some (.slice ar 0 cr):=B.cell X7.out 4 rfl;have k75 : w7.cell? ⟨w.heap.size,5,none⟩ = some (.int .i64 en):=B.cell X7.out 5 rfl)
  | (go_at_call 179;refine (HTW.out _ _ _).mono ?_;rintro e w5 ⟨rfl,hb⟩;have HB5:=hideC (HB4.out.trans (hb.mono HB4.out.size));have X5:=hideC (B.below X4.out hb (B.isLt X4.out));clear hb;have k53 : w5.cell? ⟨w.heap.size,3,none⟩ = some (.slice ay 0 cy):=B.cell X5.out 3 rfl)
  | (go_at_call 180;refine (HSN.out _).mono ?_;rintro e w6 ⟨rfl,hb⟩;have HB6:=hideC (HB5.out.trans (hb.mono HB5.out.size));have X6:=hideC (B.below X5.out hb (B.isLt X5.out));clear hb)
  | (go_at_call 181;refine (HSY.out _).mono ?_;rintro e w8 ⟨rfl,hb⟩;have HB8:=hideC (HB7.out.trans (hb.mono HB7.out.size));have X8:=hideC (B.below X7.out hb (B.isLt X7.out));clear hb;have k80 : w8.cell? ⟨w.heap.size,0,none⟩ = some (.string nm):=B.cell X8.out 0 rfl;have k81 : w8.cell? ⟨w.heap.size,1,none⟩ = some (.slice an 0 cn):=B.cell X8.out 1 rfl;have k82 : w8.cell? ⟨w.heap.size,2,none⟩ = some (.slice ag gl cg):=B.cell X8.out 2 rfl;have k83 : w8.cell? ⟨w.heap.size,3,none⟩ = some (.slice ay 0 cy):=B.cell X8.out 3 rfl;have k84 : w8.cell? ⟨w.heap.size,4,none⟩ = some (.slice ar 0 cr):=B.cell X8.out 4 rfl;have k85 : w8.cell? ⟨w.heap.size,5,none⟩ = some (.int .i64 en):=B.cell X8.out 5 rfl)
  | (go_at_call 182;refine (HRL.out _).mono ?_;rintro e w9 ⟨rfl,hb⟩;have HB9:=hideC (HB8.out.trans (hb.mono HB8.out.size));have X9:=hideC (B.below X8.out hb (B.isLt X8.out));clear hb;have k90 : w9.cell? ⟨w.heap.size,0,none⟩ = some (.string nm):=B.cell X9.out 0 rfl;have k91 : w9.cell? ⟨w.heap.size,1,none⟩ = some (.slice an 0 cn):=B.cell X9.out 1 rfl;have k92 : w9.cell? ⟨w.heap.size,2,none⟩ = some (.slice ag gl cg):=B.cell X9.out 2 rfl;have k93 : w9.cell? ⟨w.heap.size,3,none⟩ = some (.slice ay 0 cy):=B.cell X9.out 3 rfl;have k94 : w9.cell? ⟨w.heap.size,4,none⟩ = some (.slice ar 0 cr):=B.cell X9.out 4 rfl;have k95 : w9.cell? ⟨w.heap.size,5,none⟩ = some (.int .i64 en):=B.cell X9.out 5 rfl)
  | (go_at_call 183;refine (HEN.out _ HB9.out).mono ?_;rintro e w10 ⟨rfl,hb⟩;have HB10:=hideC (HB9.out.trans (hb.mono HB9.out.size));have X10:=hideC (B.below X9.out hb (B.isLt X9.out));clear hb))
 go_ret
 exact ⟨rfl,HB10.out⟩
end W
namespace LW
open Go.RowKit
open W (hideC)
structure Oi (l : List LM.Ob) (ao : Option Addr) (w : World) : Prop where
 has : LM.HasO w ao l
 few : l.length <= 1000
 chk : ∀ k,k < l.length -> M.chkN (LM.obAt l k).i = 0
 fit : ∀ k,k < l.length -> M.Fit (LM.obAt l k).i
 base : ∀ k,k < l.length -> 1 <= (LM.obAt l k).base /\ (LM.obAt l k).base <= 2000
theorem Oi.below {l : List LM.Ob} {ao : Option Addr} {w w' : World} (h : Oi l ao w) (hb : Below w.heap.size w w') : Oi l ao w':=⟨h.has.below hb,h.few,h.chk,h.fit,h.base⟩
def OutPt (R : Option (List LM.Pt)) (w : World) (e : Ending) (w' : World) : Prop:=Below w.heap.size w w' /\ match R with
 | none=>e = .returned (.tuple #[.slice none 0 0,.bool false])
 | some ps=>∃ v,e = .returned (.tuple #[v,.bool true]) /\ w'.ownsRow w.heap.size 259 2 v ps.length (ps.flatMap LM.cellP)
theorem infoSh : (Tryz.prog.info? 50).map (fun i=>(i.zero,i.size,i.bytes)) = some (some (.agg #[.int .i64 0,.string ⟨#[]⟩,.slice none 0 0]),3,48):=by kernel_rfl
structure Rs (lo : Nat) (w : World) (v : Value) (hs : List LM.Sh) : Prop where
 row : w.ownsRow lo 50 3 v hs.length (hs.flatMap LM.cellH)
 fix : LM.AllF v.ownBlock w hs
theorem Rs.below {lo : Nat} {w w' : World} {v : Value} {hs : List LM.Sh} (h : Rs lo w v hs) (hb : Below w.heap.size w w') : Rs lo w' v hs:=⟨row_grown h.row hb,fun k hk=>(h.fix k hk).below hb⟩
theorem Rs.nil (lo : Nat) (w : World) : Rs lo w (.slice none 0 0) []:=⟨World.ownsRow_nil _ _ _ _,fun k hk=>by simp at hk⟩
theorem Rs.has {lo : Nat} {w : World} {v : Value} {hs : List LM.Sh} (h : Rs lo w v hs) : ∃ ao cap,v = .slice ao hs.length cap /\ LM.HasH w ao hs /\ hs.length <= cap:=by
 have hr:=h.row
 rcases hr.2 with ⟨hv,h0⟩ | ⟨g,cap,cur,hv,hbg,hg,hnc,hcm,hcs,htake⟩
 · exact ⟨none,0,by rw [hv,h0],fun hl=>by omega,by omega⟩
 · rw [hv] at hr
   refine ⟨some ⟨g,0,none⟩,cap,hv,fun _=>⟨g,0,rfl,B.isLt hg,fun k hk=>?_⟩,hnc⟩
   rw [Nat.zero_add]
   have hh : ∀ j,j < 3 -> w.cell? ⟨g,k * 3 + j,none⟩ = (LM.cellH (LM.shAt hs k))[j]?:=fun j hj=>(hr.cellAt _ (by omega)).trans (flat_get LM.cellH 3 (fun _=>rfl) LM.sh0 hs k j hk hj)
   exact ⟨hh 0 (by omega),hh 1 (by omega),hh 2 (by omega),(h.fix k hk).has⟩
theorem row_fx {w : World} {base : Nat} {v : Value} {l : List LM.Fx} (h : w.ownsRow base 52 2 v l.length (l.flatMap LM.cellF)) (rb : Option Nat) (hrb : ∀ q,rb = some q -> q < base) : ∃ ao cap,v = .slice ao l.length cap /\ LM.HasFN rb w ao l:=by
 rcases h.2 with ⟨hv,h0⟩ | ⟨g,cap,cur,hv,hbg,hg,hnc,hcm,hcs,htake⟩
 · exact ⟨none,0,by rw [hv,h0],fun hl=>by omega⟩
 · subst hv
   refine ⟨some ⟨g,0,none⟩,cap,rfl,fun hl=>⟨g,0,rfl,B.isLt hg,fun e=>by have:=hrb g e.symm;omega,fun k hk=>?_⟩⟩
   rw [Nat.zero_add]
   have hh : ∀ j,j < 2 -> w.cell? ⟨g,k * 2 + j,none⟩ = (LM.cellF (LM.fxAt l k))[j]?:=fun j hj=>(h.cellAt _ (by omega)).trans (flat_get LM.cellF 2 (fun _=>rfl) LM.fx0 l k j hk hj)
   exact ⟨hh 0 (by omega),hh 1 (by omega)⟩
theorem Rs.more {lo : Nat} {w w' : World} {v : Value} {hs : List LM.Sh} {x : LM.Sh} {g cap : Nat} (h : LM.AllF v.ownBlock w hs) (hx : LM.HasFN v.ownBlock w x.ao x.fixes) (hown : w'.ownsRow lo 50 3 (.slice (some ⟨g,0,none⟩) (hs.length + 1) cap) (hs.length + 1) (hs.flatMap LM.cellH ++ LM.cellH x)) (hg : w.grownBy w' v.ownBlock) (hs' : w.heap.size <= w'.heap.size) (hat : v.ownBlock = some g ∨ g = w.heap.size) :
  Rs lo w' (.slice (some ⟨g,0,none⟩) (hs.length + 1) cap) (hs ++ [x]):=by
 refine ⟨by rw [List.length_append,List.flatMap_append];simpa using hown,fun k hk=>?_⟩
 have e : (Value.slice (some ⟨g,0,none⟩) (hs.length + 1) cap).ownBlock = some g:=rfl
 rw [e]
 rw [List.length_append] at hk
 by_cases hkl : k < hs.length
 · rw [LM.shAt_left hs x k hkl]
   exact (h k hkl).grown hg hs' hat
 · obtain rfl : k = hs.length:=by simp at hk;omega
   rw [LM.shAt_last]
   exact hx.grown hg hs' hat
def OutSh (R : Option (List LM.Sp)) (w : World) (e : Ending) (w' : World) : Prop:=Below w.heap.size w w' /\ match R with
 | none=>e = .returned (.tuple #[.slice none 0 0,.bool false])
 | some E=>∃ (hs : List LM.Sh) (ao : Option Addr) (cap : Nat),hs.map LM.plain = E /\ e = .returned (.tuple #[.slice ao hs.length cap,.bool true]) /\ LM.HasH w' ao hs /\ hs.length <= cap
structure Fr (w : World) (r : Option Nat) (w' : World) (r' : Option Nat) : Prop where
 size : w.heap.size <= w'.heap.size
 block : ∀ b,b < w.heap.size -> some b ≠ r -> w'.heap[b]? = w.heap[b]?
 row : r' = r ∨ ∃ g,r' = some g /\ w.heap.size <= g
theorem Fr.refl (w : World) (r : Option Nat) : Fr w r w r:=⟨Nat.le_refl _,fun _ _ _=>rfl,.inl rfl⟩
theorem Fr.trans {w w1 w2 : World} {r r1 r2 : Option Nat} (h : Fr w r w1 r1) (g : Fr w1 r1 w2 r2) : Fr w r w2 r2:=by
 have hs:=h.size
 refine ⟨Nat.le_trans h.size g.size,fun b hb hr=>?_,?_⟩
 · rw [g.block b (by omega) (fun e=>?_),h.block b hb hr]
   rcases h.row with e1 | ⟨x,e1,e2⟩
   · exact hr (by rw [e,e1])
   · rw [e1] at e
     injection e with e
     omega
 · rcases g.row with e | ⟨x,e1,e2⟩
   · rw [e]
     exact h.row
   · exact .inr ⟨x,e1,by omega⟩
theorem Fr.ofBelow {w w' : World} (h : Below w.heap.size w w') (r : Option Nat) : Fr w r w' r:=⟨h.size,fun b hb _=>h.block b hb,.inl rfl⟩
theorem Fr.ofGrown {w w' : World} {r : Option Nat} {g : Nat} (h : w.grownBy w' r) (hs : w.heap.size <= w'.heap.size) (hat : r = some g ∨ g = w.heap.size) : Fr w r w' (some g) :=
 ⟨hs,fun b hb hr=>h.block b hb hr,by
  rcases hat with e | e
  · exact .inl e.symm
  · exact .inr ⟨g,rfl,by omega⟩⟩
theorem Fr.keep {w w' : World} {r r' : Option Nat} {b : Nat} {o : Obj} (h : Fr w r w' r') (hb : w.heap[b]? = some o) (hr : some b ≠ r) : w'.heap[b]? = some o:=(h.block b (B.isLt hb) hr).trans hb
def HasPN (rb : Option Nat) (w : World) (ao : Option Addr) (l : List LM.Pt) : Prop:=0 < l.length -> ∃ b off,ao = some ⟨b,off,none⟩ /\ b < w.heap.size /\ some b ≠ rb /\ LM.LieP w b off l
theorem HasPN.fr {rb rb' : Option Nat} {w w' : World} {ao : Option Addr} {l : List LM.Pt} (h : HasPN rb w ao l) (hf : Fr w rb w' rb') : LM.HasP w' ao l:=fun hl=>by
 obtain ⟨b,off,h1,h2,h3,h4⟩:=h hl
 exact ⟨b,off,h1,Nat.lt_of_lt_of_le h2 hf.size,fun i hi=>by
  obtain ⟨c0,c1⟩:=h4 i hi
  exact ⟨(World.cell?_of_block (hf.block b h2 h3)).trans c0,(World.cell?_of_block (hf.block b h2 h3)).trans c1⟩⟩
theorem row_ptN {w : World} {base : Nat} {v : Value} {l : List LM.Pt} (h : w.ownsRow base 259 2 v l.length (l.flatMap LM.cellP)) (rb : Option Nat) (hrb : ∀ q,rb = some q -> q < base) : ∃ ao cap,v = .slice ao l.length cap /\ HasPN rb w ao l:=by
 rcases h.2 with ⟨hv,h0⟩ | ⟨g,cap,cur,hv,hbg,hg,hnc,hcm,hcs,htake⟩
 · exact ⟨none,0,by rw [hv,h0],fun hl=>by omega⟩
 · subst hv
   refine ⟨some ⟨g,0,none⟩,cap,rfl,fun hl=>⟨g,0,rfl,B.isLt hg,fun e=>by have:=hrb g e.symm;omega,fun k hk=>?_⟩⟩
   rw [Nat.zero_add]
   have hh : ∀ j,j < 2 -> w.cell? ⟨g,k * 2 + j,none⟩ = (LM.cellP (LM.ptAt l k))[j]?:=fun j hj=>(h.cellAt _ (by omega)).trans (flat_get LM.cellP 2 (fun _=>rfl) LM.pt0 l k j hk hj)
   exact ⟨hh 0 (by omega),hh 1 (by omega)⟩
theorem own_below {lo : Nat} {w w' : World} {v : Value} {l : List AM.Ar} (h : AW.Own lo w v l) (hb : Below w.heap.size w w') : AW.Own lo w' v l:=row_grown h hb
theorem own_slice {lo : Nat} {w : World} {v : Value} {l : List AM.Ar} (h : AW.Own lo w v l) : ∃ ao cap,v = .slice ao l.length cap /\ (0 < l.length -> ∃ g,ao = some ⟨g,0,none⟩):=by
 rcases h.2 with ⟨hv,h0⟩ | ⟨g,cap,cur,hv,_⟩
 · exact ⟨none,0,by rw [hv,h0],fun hl=>by omega⟩
 · exact ⟨_,cap,hv,fun _=>⟨g,rfl⟩⟩
set_option maxHeartbeats 6000000 in
theorem areasOf_any (l : List LM.Ob) (ao : Option Addr) (cap : Nat) (w : World) (h : Oi l ao w) (hl7 : l.length <= 7) :
  Calls Tryz.prog 136 #[.slice ao l.length cap] w fun e w'=>∃ r,e = .returned r /\ AW.Own w.heap.size w' r (LM.areasN l) /\ Below w.heap.size w w':=by
 have HO:=hideC h
 clear h
 go_enter Tryz.func136,Tryz.ntmps136
 go_wp2
 go_loopw [11,3] (fun i v wr=>∃ (a : Nat),a <= l.length /\ i = .int .i64 a /\ AW.Own w.heap.size wr v (LM.aob l a) /\ Below w.heap.size w wr) (fun i _ _=>l.length - (intOf i).toNat)
 case atStart=>exact ⟨0,by omega,rfl,AW.Own.nil _ _,Below.refl _ _⟩
 case round =>
  obtain ⟨a,hal,rfl,hown,hb⟩:=hrel
  have HOW:=hideC hown
  have HBr:=hideC hb
  by_cases hlt : a < l.length
  · have HOr:=hideC (HO.out.below hb)
    obtain ⟨b,off,hao,hbl,hlie⟩:=HOr.out.has (by omega)
    obtain ⟨⟨c0,c1,c2,c3,c4,c5,c6⟩,him⟩:=hlie a hlt
    have hbs:=HO.out.base a hlt
    have hck:=HO.out.chk a hlt
    obtain ⟨b2,off2,hao2,hbl2,hlie2⟩:=HO.out.has (by omega)
    have him2:=(hlie2 a hlt).2
    have HNX : Hid (LM.aob l (a + 1) = LM.asg (LM.obAt l a) (LM.aob l a) (LM.obAt l a).i.segs.length):=rfl
    obtain ⟨o,ho⟩ : ∃ o,o = LM.obAt l a:=⟨_,rfl⟩
    rw [<- ho] at c0 c1 c2 c3 c4 c5 c6 him2 hbs hck HNX
    have HFA:=hideC (LM.fit_aob l a)
    obtain ⟨L,hL⟩ : ∃ L,L = LM.aob l a:=⟨_,rfl⟩
    rw [<- hL] at HOW HNX HFA
    have hcn:=LM.counts_of hck
    have HSB:=hideC (LM.seg_bounds hck)
    obtain ⟨bs,offs,hag,hbls,hlg⟩:=him2.segs (by omega)
    have HLG:=hideC hlg
    rw [hag] at c2
    clear ho hL hlie hb hown him hlg hag him2 hlie2 hao2 hbl2 hck
    subst hao
    have HBA:=hideC (HBr.out.alloc HBr.out.size (.cells #[.string o.i.name,.slice o.a.an o.i.needs.length o.a.cn,.slice (some ⟨bs,offs,none⟩) o.i.segs.length o.a.cg,.slice o.a.ay o.i.syms.length o.a.cy,.slice o.a.ar o.i.rels.length o.a.cr,.int .i64 o.i.entry,.int .i64 o.base] 195))
    have HRA:=hideC ((Below.refl wr.heap.size wr).alloc (Nat.le_refl _) (.cells #[.string o.i.name,.slice o.a.an o.i.needs.length o.a.cn,.slice (some ⟨bs,offs,none⟩) o.i.segs.length o.a.cg,.slice o.a.ay o.i.syms.length o.a.cy,.slice o.a.ar o.i.rels.length o.a.cr,.int .i64 o.i.entry,.int .i64 o.base] 195))
    have BO:=hideC (B.new wr #[.string o.i.name,.slice o.a.an o.i.needs.length o.a.cn,.slice (some ⟨bs,offs,none⟩) o.i.segs.length o.a.cg,.slice o.a.ay o.i.syms.length o.a.cy,.slice o.a.ar o.i.rels.length o.a.cr,.int .i64 o.i.entry,.int .i64 o.base] 195)
    have HOA:=hideC (own_below HOW.out HRA.out)
    go_wp2
    obtain ⟨W1,hW1⟩ : ∃ W1,W1 = wr.alloc (.cells #[.string o.i.name,.slice o.a.an o.i.needs.length o.a.cn,.slice (some ⟨bs,offs,none⟩) o.i.segs.length o.a.cg,.slice o.a.ay o.i.syms.length o.a.cy,.slice o.a.ar o.i.rels.length o.a.cr,.int .i64 o.i.entry,.int .i64 o.base] 195):=⟨_,rfl⟩
    rw [<- hW1] at HBA HRA BO HOA
    rw [<- hW1]
    obtain ⟨ob,hob⟩ : ∃ ob,ob = wr.heap.size:=⟨_,rfl⟩
    rw [<- hob] at BO
    rw [<- hob]
    clear hW1 hob HRA HOW HBr HOr c0 c1 c2 c3 c4 c5 c6 hbl
    go_loopw [19,3] (fun i v wm=>∃ (k : Nat),k <= o.i.segs.length /\ i = .int .i64 k /\ AW.Own w.heap.size wm v (LM.asg o L k) /\ Below w.heap.size w wm /\ Below W1.heap.size W1 wm) (fun i _ _=>o.i.segs.length - (intOf i).toNat)
    case atStart=>exact ⟨0,by omega,rfl,HOA.out,HBA.out,Below.refl _ _⟩
    case round =>
     obtain ⟨k,hk,rfl,hown,hb,hb1⟩:=hrel
     have HOW:=hideC hown
     have HBm:=hideC hb
     have HB1:=hideC hb1
     clear HOA HBA
     by_cases hlk : k < o.i.segs.length
     · obtain ⟨c0,c1,c2,c3,c4⟩:=M.lieG hb hbls HLG.out k hlk
       have hsb:=HSB.out k hlk
       have hbls' : bs < wr.heap.size:=Nat.lt_of_lt_of_le hbls hb.size
       have HFK:=hideC (LM.fit_asg o L HFA.out k)
       have HKX : Hid (LM.asg o L (k + 1) = LM.mapSeg o (LM.asg o L k) (M.sgAt o.i.segs k)):=rfl
       obtain ⟨s,hse⟩ : ∃ s,s = M.sgAt o.i.segs k:=⟨_,rfl⟩
       rw [<- hse] at c0 c1 c2 c3 c4 hsb HKX
       clear hse
       obtain ⟨L2,hL2⟩ : ∃ L2,L2 = LM.asg o L k:=⟨_,rfl⟩
       rw [<- hL2] at HOW HFK HKX
       clear hL2
       obtain ⟨pg,pn,dt,wb,ex⟩:=s
       simp only at c0 c1 c2 c3 c4 hsb
       have HBA:=hideC (HBm.out.alloc HBm.out.size (.cells #[.int .i64 pg,.int .i64 pn,.string dt,.bool wb,.bool ex] 145))
       have HRA:=hideC ((Below.refl wr.heap.size wr).alloc (Nat.le_refl _) (.cells #[.int .i64 pg,.int .i64 pn,.string dt,.bool wb,.bool ex] 145))
       have BS:=hideC (B.new wr #[.int .i64 pg,.int .i64 pn,.string dt,.bool wb,.bool ex] 145)
       have BOA:=hideC (B.alloc (B.below BO.out HB1.out (B.isLt BO.out)) (.cells #[.int .i64 pg,.int .i64 pn,.string dt,.bool wb,.bool ex] 145))
       have HB1A:=hideC (HB1.out.alloc HB1.out.size (.cells #[.int .i64 pg,.int .i64 pn,.string dt,.bool wb,.bool ex] 145))
       have HOWA:=hideC (own_below HOW.out HRA.out)
       clear hown hb hb1
       go_wp2
       obtain ⟨WA,hWA⟩ : ∃ WA,WA = wr.alloc (.cells #[.int .i64 pg,.int .i64 pn,.string dt,.bool wb,.bool ex] 145):=⟨_,rfl⟩
       rw [<- hWA] at HBA BS BOA HB1A HOWA
       rw [<- hWA]
       obtain ⟨sb,hsbe⟩ : ∃ sb,sb = wr.heap.size:=⟨_,rfl⟩
       rw [<- hsbe] at BS
       rw [<- hsbe]
       clear hWA hsbe HRA HOW HBm HB1 c0 c1 c2 c3 c4 hbls'
       have HS : Hid (∀ V,Below WA.heap.size WA V -> V.cell? ⟨ob,6,none⟩ = some (.int .i64 o.base) /\ V.cell? ⟨sb,0,none⟩ = some (.int .i64 pg) /\ V.cell? ⟨sb,1,none⟩ = some (.int .i64 pn) /\ V.cell? ⟨sb,2,none⟩ = some (.string dt) /\ V.cell? ⟨sb,3,none⟩ = some (.bool wb) /\ V.cell? ⟨sb,4,none⟩ = some (.bool ex)):=fun V hb=>by
        have h1:=B.below BOA.out hb (B.isLt BOA.out)
        have h2:=B.below BS.out hb (B.isLt BS.out)
        exact ⟨B.cell h1 6 rfl,B.cell h2 0 rfl,B.cell h2 1 rfl,B.cell h2 2 rfl,B.cell h2 3 rfl,B.cell h2 4 rfl⟩
       have HPR : Hid (∀ V,Calls Tryz.prog 164 #[.agg #[.int .i64 pg,.int .i64 pn,.string dt,.bool wb,.bool ex]] V fun e w'=>e = .returned (.int .i64 (LM.protN ⟨pg,pn,dt,wb,ex⟩)) /\ Below V.heap.size V w'):=fun V=>prot_any ⟨pg,pn,dt,wb,ex⟩ V
       have HMP : Hid (∀ V,Below WA.heap.size WA V -> Calls Tryz.prog 74 #[u3,.int .i64 (o.base + pg),.int .i64 pn,.int .i64 (LM.protN ⟨pg,pn,dt,wb,ex⟩)] V fun e w'=>∃ r,e = .returned (.tuple #[r,.int .i64 (AW.mapN L2 (o.base + pg) pn (LM.protN ⟨pg,pn,dt,wb,ex⟩)).2]) /\ AW.Own V.heap.size w' r (AW.mapN L2 (o.base + pg) pn (LM.protN ⟨pg,pn,dt,wb,ex⟩)).1 /\ Below V.heap.size V w'):=fun V hb=>AW.map_own L2 u3 (o.base + pg) pn _ V (own_below HOWA.out hb).has HFK.out (by unfold AW.I64;omega) (by unfold AW.I64;omega)
       have HMS : Hid (LM.mapSeg o L2 ⟨pg,pn,dt,wb,ex⟩ = (AW.mapN L2 (o.base + pg) pn (LM.protN ⟨pg,pn,dt,wb,ex⟩)).1):=rfl
       obtain ⟨PR,hPR⟩ : ∃ PR,PR = LM.protN ⟨pg,pn,dt,wb,ex⟩:=⟨_,rfl⟩
       rw [<- hPR] at HPR HMP HMS
       obtain ⟨MN,hMN⟩ : ∃ MN,MN = AW.mapN L2 (o.base + pg) pn PR:=⟨_,rfl⟩
       rw [<- hMN] at HMP HMS
       clear hPR hMN
       have hwr : IntKind.i64.wrap (o.base + pg) = o.base + pg:=IntWalk.i64_in _ (by omega)
       have HK0:=hideC (Below.refl WA.heap.size WA).drew
       have HS0:=hideC (HS.out _ HK0.out)
       go_region_held3 (fun V=>V.cell? ⟨ob,6,none⟩ = some (.int .i64 o.base) /\ V.cell? ⟨sb,0,none⟩ = some (.int .i64 pg) /\ V.cell? ⟨sb,1,none⟩ = some (.int .i64 pn) /\ V.cell? ⟨sb,2,none⟩ = some (.string dt) /\ V.cell? ⟨sb,3,none⟩ = some (.bool wb) /\ V.cell? ⟨sb,4,none⟩ = some (.bool ex)) (first | exact HS3.out | exact HS2.out | exact HS0.out)
        (first
         | (go_at_call 164;refine (HPR.out _).mono ?_;rintro e w2 ⟨rfl,hb⟩;have HK2:=hideC (HK0.out.trans (hb.mono HK0.out.size));have HS2:=hideC (HS.out _ HK2.out);clear hb)
         | (go_at_call 74;refine (HMP.out _ HK2.out).mono ?_;rintro e w3 ⟨v8,rfl,hrw,hb⟩;have HK3:=hideC (HK2.out.trans (hb.mono HK2.out.size));have HS3:=hideC (HS.out _ HK3.out);have HR3:=hideC hrw;clear hb hrw))
       go_wp2
       go_roundw
       case rel=>exact ⟨k + 1,by omega,by go_num,by rw [HKX.out,HMS.out];exact HR3.out.mono (Nat.le_trans HBA.out.size HK2.out.size),HBA.out.trans (HK3.out.mono HBA.out.size),HB1A.out.trans (HK3.out.mono HB1A.out.size)⟩
       case measure=>simp [intOf];omega
     · obtain rfl : k = o.i.segs.length:=by omega
       clear hown hb hb1
       go_wp2
       go_roundw
       case rel=>exact ⟨a + 1,by omega,by go_num,by rw [HNX.out];exact HOW.out,HBm.out⟩
       case measure=>simp [intOf];omega
  · obtain rfl : a = l.length:=by omega
    have HAN : Hid (LM.areasN l = LM.clrTo (LM.aob l l.length) (LM.aob l l.length).length):=(LM.clrTo_all _).symm
    have HFA:=hideC (LM.fit_aob l l.length)
    obtain ⟨L,hL⟩ : ∃ L,L = LM.aob l l.length:=⟨_,rfl⟩
    rw [<- hL] at HOW HAN HFA
    have hll:=HFA.out.2
    obtain ⟨ar,cr,hv,hg⟩:=own_slice HOW.out
    subst hv
    have HG:=hideC hg
    clear hown hb hL hg HFA
    go_wp2
    go_loopw [41] (fun i wr=>∃ (k : Nat),k <= L.length /\ i = .int .i64 k /\ AW.Own w.heap.size wr (.slice ar L.length cr) (LM.clrTo L k) /\ Below w.heap.size w wr) (fun i _=>L.length - (intOf i).toNat)
    case atStart=>exact ⟨0,by omega,rfl,HOW.out,HBr.out⟩
    case round =>
     obtain ⟨k,hk,rfl,hown,hb⟩:=hrel
     have HOW2:=hideC hown
     have HBr2:=hideC hb
     clear HOW HBr hown hb
     by_cases hlt : k < L.length
     · obtain ⟨g,hg⟩:=HG.out (by omega)
       subst hg
       have hln:=LM.clrTo_length L k
       have HO4 : Hid (wr.ownsRow w.heap.size 47 4 (.slice (some ⟨g,0,none⟩) L.length cr) L.length (AM.areaCells (LM.clrTo L k))):=by
        have h:=HOW2.out
        unfold AW.Own at h
        rw [hln] at h
        exact h
       have HST:=hideC (HO4.out.stored (k * 4 + 3) (.bool false))
       have HNX : Hid (AM.areaCells (LM.clrTo L (k + 1)) = (AM.areaCells (LM.clrTo L k)).set (k * 4 + 3) (.bool false)):=(LM.areaCells_set false (LM.clrTo L k) k (by omega)).symm
       have hlx:=LM.clrTo_length L (k + 1)
       have HLX:=hideC hlx
       have hgl:=HO4.out.lt g rfl
       have q3:=(HO4.out.cellAt (k * 4 + 3) (by omega)).trans (AM.areaCells_get (LM.clrTo L k) k 3 (by omega) (by omega))
       have qf:=HO4.out.frozenAt (k * 4 + 3)
       clear hln hlx
       go_wp2
       go_roundw
       case rel=>exact ⟨k + 1,by omega,by go_num,by unfold AW.Own;rw [HLX.out,HNX.out];exact HST.out.1,HBr2.out.setCell (by simp;omega) _⟩
       case measure=>simp [intOf];omega
     · obtain rfl : k = L.length:=by omega
       go_wp2
       go_ret
       exact ⟨_,rfl,by rw [HAN.out];exact HOW2.out,HBr2.out⟩
end LW
end Go.Proofs.YtpgifpeohlllfaaGreat
