import Derived.Test.YtpgifpeohlllfaaGreatGI07
import Derived.Lib.SliceRun
import Derived.Test.YtpgifpeohlllfaaGreatGI06
set_option maxHeartbeats 20000000
set_option linter.unusedVariables false
set_option maxRecDepth 100000
set_option linter.unusedSimpArgs false
namespace Go.Proofs.YtpgifpeohlllfaaGreat
namespace GK
open Go.RowKit
open FW (hideC add_below)
def From (w : World) (ao : Option Addr) (m : Nat) (news : List Value) : Prop:=0 < m -> ∃ ad,ao = some ad /\ ∀ j u,news[j]? = some u -> w.cell? (ad.add j) = some u
theorem From.below {w w' : World} {ao : Option Addr} {m : Nat} {news : List Value} (h : From w ao m news) (hb : Below w.heap.size w w') : From w' ao m news:=fun hm=>by
 obtain ⟨ad,e,hc⟩:=h hm
 refine ⟨ad,e,fun j u hu=>?_⟩
 have:=hc j u hu
 exact (hb.cell (World.block_lt_of_cell? w _ this)).trans this
theorem infoAr : (Tryz.prog.info? 47).map (fun i=>(i.zero,i.size,i.bytes)) = some (some (.agg #[.int .i64 0,.int .i64 0,.int .i64 0,.bool false]),4,32):=by kernel_rfl
set_option maxHeartbeats 1000000 in
theorem cloneAr (ao : Option Addr) (n c : Nat) (xs : List Value) (w : World) (hl : xs.length = n * 4) (h : From w ao n xs) (h1 : ∀ u ∈ xs,u.oneCell' = true) (hn : n <= 1000000) :
  Calls Tryz.prog 129 #[.slice ao n c] w fun e w'=>∃ v,e = .returned v /\ w'.ownsRow w.heap.size 47 4 v n xs /\ Below w.heap.size w w':=by
 have HH:=hideC h
 have HL:=hideC hl
 have H1:=hideC h1
 clear h hl h1
 have q : ∀ (w : World) (a : Option Addr) (n c n' c' : Nat),(binOp .eql 28 (.slice a n c) (.slice none n' c')).run Tryz.prog w = .ok (.bool a.isNone) w:=fun w a n c n' c'=>Lib.run_eql_slice_nil w _ _ a n c n' c' Tryz.underlying28
 obtain ⟨i0,hin,hz0,hz1,hz2⟩:=info_parts infoAr
 cases ao with
 | none =>
  have h0 : n = 0:=by
   by_cases g : 0 < n
   · obtain ⟨ad,e,_⟩:=HH.out g
     cases e
   · omega
  subst h0
  have hx : xs = []:=List.eq_nil_of_length_eq_zero (by rw [HL.out])
  subst hx
  clear HH HL H1 hin hz0 hz1 hz2
  go_enter Tryz.func129,Tryz.ntmps129
  go_wp2
  go_ret
  exact ⟨_,rfl,World.ownsRow_nil _ _ _ _,Below.refl _ _⟩
 | some ad =>
  have HIN:=hideC hin
  have HZ0:=hideC hz0
  have HZ1:=hideC hz1
  have HZ2:=hideC hz2
  clear hin hz0 hz1 hz2
  go_enter Tryz.func129,Tryz.ntmps129
  go_wp2_with (at_builtin;refine wpList_append_src (P:=Tryz.prog) rfl _ _ 28 rfl w.heap.size 47 i0 (.agg #[.int .i64 0,.int .i64 0,.int .i64 0,.bool false]) 4 32 Tryz.underlying28 HIN.out HZ0.out HZ1.out HZ2.out rfl (by decide) (.slice (some ⟨w.heap.size,0,none⟩) 0 0) 0 [] (by rfl) (World.ownsRow_made w #[] 0 (Nat.le_refl _) (by unfold maxLen;omega) (by simp)) (some ad) n c xs (by rfl) HL.out ((HH.out.below ((Below.refl _ _).alloc (Nat.le_refl _) _))) H1.out (by unfold maxLen;omega) (by omega) (by simp) ?_;intro v' w' hown hgr hat;have HOWN:=hideC hown;have HGR:=hideC hgr;clear hown hgr hat)
  go_ret
  have hown:=HOWN.out
  have hgr:=HGR.out
  rw [Nat.zero_add] at hown
  exact ⟨_,rfl,hown,((Below.refl _ _).alloc (Nat.le_refl _) _).grown hgr (by simp) (fun k hk=>by simp [Value.ownBlock] at hk;omega)⟩
theorem infoEn : (Tryz.prog.info? 45).map (fun i=>(i.zero,i.size,i.bytes)) = some (some (.agg #[.int .i64 0,.int .i64 0,.int .i64 0]),3,24):=by kernel_rfl
set_option maxHeartbeats 1000000 in
theorem cloneEn (ao : Option Addr) (n c : Nat) (xs : List Value) (w : World) (hl : xs.length = n * 3) (h : From w ao n xs) (h1 : ∀ u ∈ xs,u.oneCell' = true) (hn : n <= 1000000) :
  Calls Tryz.prog 130 #[.slice ao n c] w fun e w'=>∃ v,e = .returned v /\ w'.ownsRow w.heap.size 45 3 v n xs /\ Below w.heap.size w w':=by
 have HH:=hideC h
 have HL:=hideC hl
 have H1:=hideC h1
 clear h hl h1
 have q : ∀ (w : World) (a : Option Addr) (n c n' c' : Nat),(binOp .eql 41 (.slice a n c) (.slice none n' c')).run Tryz.prog w = .ok (.bool a.isNone) w:=fun w a n c n' c'=>Lib.run_eql_slice_nil w _ _ a n c n' c' Tryz.underlying41
 obtain ⟨i0,hin,hz0,hz1,hz2⟩:=info_parts infoEn
 cases ao with
 | none =>
  have h0 : n = 0:=by
   by_cases g : 0 < n
   · obtain ⟨ad,e,_⟩:=HH.out g
     cases e
   · omega
  subst h0
  have hx : xs = []:=List.eq_nil_of_length_eq_zero (by rw [HL.out])
  subst hx
  clear HH HL H1 hin hz0 hz1 hz2
  go_enter Tryz.func130,Tryz.ntmps130
  go_wp2
  go_ret
  exact ⟨_,rfl,World.ownsRow_nil _ _ _ _,Below.refl _ _⟩
 | some ad =>
  have HIN:=hideC hin
  have HZ0:=hideC hz0
  have HZ1:=hideC hz1
  have HZ2:=hideC hz2
  clear hin hz0 hz1 hz2
  go_enter Tryz.func130,Tryz.ntmps130
  go_wp2_with (at_builtin;refine wpList_append_src (P:=Tryz.prog) rfl _ _ 41 rfl w.heap.size 45 i0 (.agg #[.int .i64 0,.int .i64 0,.int .i64 0]) 3 24 Tryz.underlying41 HIN.out HZ0.out HZ1.out HZ2.out rfl (by decide) (.slice (some ⟨w.heap.size,0,none⟩) 0 0) 0 [] (by rfl) (World.ownsRow_made w #[] 0 (Nat.le_refl _) (by unfold maxLen;omega) (by simp)) (some ad) n c xs (by rfl) HL.out ((HH.out.below ((Below.refl _ _).alloc (Nat.le_refl _) _))) H1.out (by unfold maxLen;omega) (by omega) (by simp) ?_;intro v' w' hown hgr hat;have HOWN:=hideC hown;have HGR:=hideC hgr;clear hown hgr hat)
  go_ret
  have hown:=HOWN.out
  have hgr:=HGR.out
  rw [Nat.zero_add] at hown
  exact ⟨_,rfl,hown,((Below.refl _ _).alloc (Nat.le_refl _) _).grown hgr (by simp) (fun k hk=>by simp [Value.ownBlock] at hk;omega)⟩
theorem infoFr : (Tryz.prog.info? 40).map (fun i=>(i.zero,i.size,i.bytes)) = some (some (.agg #[.string ⟨#[]⟩,.int .i64 0,.bool false,.bool false]),4,32):=by kernel_rfl
set_option maxHeartbeats 1000000 in
theorem cloneFr (ao : Option Addr) (n c : Nat) (xs : List Value) (w : World) (hl : xs.length = n * 4) (h : From w ao n xs) (h1 : ∀ u ∈ xs,u.oneCell' = true) (hn : n <= 1000000) :
  Calls Tryz.prog 104 #[.slice ao n c] w fun e w'=>∃ v,e = .returned v /\ w'.ownsRow w.heap.size 40 4 v n xs /\ Below w.heap.size w w':=by
 have HH:=hideC h
 have HL:=hideC hl
 have H1:=hideC h1
 clear h hl h1
 have q : ∀ (w : World) (a : Option Addr) (n c n' c' : Nat),(binOp .eql 23 (.slice a n c) (.slice none n' c')).run Tryz.prog w = .ok (.bool a.isNone) w:=fun w a n c n' c'=>Lib.run_eql_slice_nil w _ _ a n c n' c' Tryz.underlying23
 obtain ⟨i0,hin,hz0,hz1,hz2⟩:=info_parts infoFr
 cases ao with
 | none =>
  have h0 : n = 0:=by
   by_cases g : 0 < n
   · obtain ⟨ad,e,_⟩:=HH.out g
     cases e
   · omega
  subst h0
  have hx : xs = []:=List.eq_nil_of_length_eq_zero (by rw [HL.out])
  subst hx
  clear HH HL H1 hin hz0 hz1 hz2
  go_enter Tryz.func104,Tryz.ntmps104
  go_wp2
  go_ret
  exact ⟨_,rfl,World.ownsRow_nil _ _ _ _,Below.refl _ _⟩
 | some ad =>
  have HIN:=hideC hin
  have HZ0:=hideC hz0
  have HZ1:=hideC hz1
  have HZ2:=hideC hz2
  clear hin hz0 hz1 hz2
  go_enter Tryz.func104,Tryz.ntmps104
  go_wp2_with (at_builtin;refine wpList_append_src (P:=Tryz.prog) rfl _ _ 23 rfl w.heap.size 40 i0 (.agg #[.string ⟨#[]⟩,.int .i64 0,.bool false,.bool false]) 4 32 Tryz.underlying23 HIN.out HZ0.out HZ1.out HZ2.out rfl (by decide) (.slice (some ⟨w.heap.size,0,none⟩) 0 0) 0 [] (by rfl) (World.ownsRow_made w #[] 0 (Nat.le_refl _) (by unfold maxLen;omega) (by simp)) (some ad) n c xs (by rfl) HL.out ((HH.out.below ((Below.refl _ _).alloc (Nat.le_refl _) _))) H1.out (by unfold maxLen;omega) (by omega) (by simp) ?_;intro v' w' hown hgr hat;have HOWN:=hideC hown;have HGR:=hideC hgr;clear hown hgr hat)
  go_ret
  have hown:=HOWN.out
  have hgr:=HGR.out
  rw [Nat.zero_add] at hown
  exact ⟨_,rfl,hown,((Below.refl _ _).alloc (Nat.le_refl _) _).grown hgr (by simp) (fun k hk=>by simp [Value.ownBlock] at hk;omega)⟩
theorem infoSl : (Tryz.prog.info? 86).map (fun i=>(i.zero,i.size,i.bytes)) = some (some (.agg #[.string ⟨#[]⟩,.int .i64 0]),2,24):=by kernel_rfl
set_option maxHeartbeats 1000000 in
theorem cloneSl (ao : Option Addr) (n c : Nat) (xs : List Value) (w : World) (hl : xs.length = n * 2) (h : From w ao n xs) (h1 : ∀ u ∈ xs,u.oneCell' = true) (hn : n <= 1000000) :
  Calls Tryz.prog 105 #[.slice ao n c] w fun e w'=>∃ v,e = .returned v /\ w'.ownsRow w.heap.size 86 2 v n xs /\ Below w.heap.size w w':=by
 have HH:=hideC h
 have HL:=hideC hl
 have H1:=hideC h1
 clear h hl h1
 have q : ∀ (w : World) (a : Option Addr) (n c n' c' : Nat),(binOp .eql 24 (.slice a n c) (.slice none n' c')).run Tryz.prog w = .ok (.bool a.isNone) w:=fun w a n c n' c'=>Lib.run_eql_slice_nil w _ _ a n c n' c' Tryz.underlying24
 obtain ⟨i0,hin,hz0,hz1,hz2⟩:=info_parts infoSl
 cases ao with
 | none =>
  have h0 : n = 0:=by
   by_cases g : 0 < n
   · obtain ⟨ad,e,_⟩:=HH.out g
     cases e
   · omega
  subst h0
  have hx : xs = []:=List.eq_nil_of_length_eq_zero (by rw [HL.out])
  subst hx
  clear HH HL H1 hin hz0 hz1 hz2
  go_enter Tryz.func105,Tryz.ntmps105
  go_wp2
  go_ret
  exact ⟨_,rfl,World.ownsRow_nil _ _ _ _,Below.refl _ _⟩
 | some ad =>
  have HIN:=hideC hin
  have HZ0:=hideC hz0
  have HZ1:=hideC hz1
  have HZ2:=hideC hz2
  clear hin hz0 hz1 hz2
  go_enter Tryz.func105,Tryz.ntmps105
  go_wp2_with (at_builtin;refine wpList_append_src (P:=Tryz.prog) rfl _ _ 24 rfl w.heap.size 86 i0 (.agg #[.string ⟨#[]⟩,.int .i64 0]) 2 24 Tryz.underlying24 HIN.out HZ0.out HZ1.out HZ2.out rfl (by decide) (.slice (some ⟨w.heap.size,0,none⟩) 0 0) 0 [] (by rfl) (World.ownsRow_made w #[] 0 (Nat.le_refl _) (by unfold maxLen;omega) (by simp)) (some ad) n c xs (by rfl) HL.out ((HH.out.below ((Below.refl _ _).alloc (Nat.le_refl _) _))) H1.out (by unfold maxLen;omega) (by omega) (by simp) ?_;intro v' w' hown hgr hat;have HOWN:=hideC hown;have HGR:=hideC hgr;clear hown hgr hat)
  go_ret
  have hown:=HOWN.out
  have hgr:=HGR.out
  rw [Nat.zero_add] at hown
  exact ⟨_,rfl,hown,((Below.refl _ _).alloc (Nat.le_refl _) _).grown hgr (by simp) (fun k hk=>by simp [Value.ownBlock] at hk;omega)⟩
theorem infoSh : (Tryz.prog.info? 50).map (fun i=>(i.zero,i.size,i.bytes)) = some (some (.agg #[.int .i64 0,.string ⟨#[]⟩,.slice none 0 0]),3,48):=by kernel_rfl
set_option maxHeartbeats 1000000 in
theorem cloneSh (ao : Option Addr) (n c : Nat) (xs : List Value) (w : World) (hl : xs.length = n * 3) (h : From w ao n xs) (h1 : ∀ u ∈ xs,u.oneCell' = true) (hn : n <= 1000000) :
  Calls Tryz.prog 103 #[.slice ao n c] w fun e w'=>∃ v,e = .returned v /\ w'.ownsRow w.heap.size 50 3 v n xs /\ Below w.heap.size w w':=by
 have HH:=hideC h
 have HL:=hideC hl
 have H1:=hideC h1
 clear h hl h1
 have q : ∀ (w : World) (a : Option Addr) (n c n' c' : Nat),(binOp .eql 22 (.slice a n c) (.slice none n' c')).run Tryz.prog w = .ok (.bool a.isNone) w:=fun w a n c n' c'=>Lib.run_eql_slice_nil w _ _ a n c n' c' Tryz.underlying22
 obtain ⟨i0,hin,hz0,hz1,hz2⟩:=info_parts infoSh
 cases ao with
 | none =>
  have h0 : n = 0:=by
   by_cases g : 0 < n
   · obtain ⟨ad,e,_⟩:=HH.out g
     cases e
   · omega
  subst h0
  have hx : xs = []:=List.eq_nil_of_length_eq_zero (by rw [HL.out])
  subst hx
  clear HH HL H1 hin hz0 hz1 hz2
  go_enter Tryz.func103,Tryz.ntmps103
  go_wp2
  go_ret
  exact ⟨_,rfl,World.ownsRow_nil _ _ _ _,Below.refl _ _⟩
 | some ad =>
  have HIN:=hideC hin
  have HZ0:=hideC hz0
  have HZ1:=hideC hz1
  have HZ2:=hideC hz2
  clear hin hz0 hz1 hz2
  go_enter Tryz.func103,Tryz.ntmps103
  go_wp2_with (at_builtin;refine wpList_append_src (P:=Tryz.prog) rfl _ _ 22 rfl w.heap.size 50 i0 (.agg #[.int .i64 0,.string ⟨#[]⟩,.slice none 0 0]) 3 48 Tryz.underlying22 HIN.out HZ0.out HZ1.out HZ2.out rfl (by decide) (.slice (some ⟨w.heap.size,0,none⟩) 0 0) 0 [] (by rfl) (World.ownsRow_made w #[] 0 (Nat.le_refl _) (by unfold maxLen;omega) (by simp)) (some ad) n c xs (by rfl) HL.out ((HH.out.below ((Below.refl _ _).alloc (Nat.le_refl _) _))) H1.out (by unfold maxLen;omega) (by omega) (by simp) ?_;intro v' w' hown hgr hat;have HOWN:=hideC hown;have HGR:=hideC hgr;clear hown hgr hat)
  go_ret
  have hown:=HOWN.out
  have hgr:=HGR.out
  rw [Nat.zero_add] at hown
  exact ⟨_,rfl,hown,((Below.refl _ _).alloc (Nat.le_refl _) _).grown hgr (by simp) (fun k hk=>by simp [Value.ownBlock] at hk;omega)⟩
theorem infoFx : (Tryz.prog.info? 52).map (fun i=>(i.zero,i.size,i.bytes)) = some (some (.agg #[.int .i64 0,.string ⟨#[]⟩]),2,24):=by kernel_rfl
set_option maxHeartbeats 1000000 in
theorem cloneFx (ao : Option Addr) (n c : Nat) (xs : List Value) (w : World) (hl : xs.length = n * 2) (h : From w ao n xs) (h1 : ∀ u ∈ xs,u.oneCell' = true) (hn : n <= 1000000) :
  Calls Tryz.prog 106 #[.slice ao n c] w fun e w'=>∃ v,e = .returned v /\ w'.ownsRow w.heap.size 52 2 v n xs /\ Below w.heap.size w w':=by
 have HH:=hideC h
 have HL:=hideC hl
 have H1:=hideC h1
 clear h hl h1
 have q : ∀ (w : World) (a : Option Addr) (n c n' c' : Nat),(binOp .eql 48 (.slice a n c) (.slice none n' c')).run Tryz.prog w = .ok (.bool a.isNone) w:=fun w a n c n' c'=>Lib.run_eql_slice_nil w _ _ a n c n' c' Tryz.underlying48
 obtain ⟨i0,hin,hz0,hz1,hz2⟩:=info_parts infoFx
 cases ao with
 | none =>
  have h0 : n = 0:=by
   by_cases g : 0 < n
   · obtain ⟨ad,e,_⟩:=HH.out g
     cases e
   · omega
  subst h0
  have hx : xs = []:=List.eq_nil_of_length_eq_zero (by rw [HL.out])
  subst hx
  clear HH HL H1 hin hz0 hz1 hz2
  go_enter Tryz.func106,Tryz.ntmps106
  go_wp2
  go_ret
  exact ⟨_,rfl,World.ownsRow_nil _ _ _ _,Below.refl _ _⟩
 | some ad =>
  have HIN:=hideC hin
  have HZ0:=hideC hz0
  have HZ1:=hideC hz1
  have HZ2:=hideC hz2
  clear hin hz0 hz1 hz2
  go_enter Tryz.func106,Tryz.ntmps106
  go_wp2_with (at_builtin;refine wpList_append_src (P:=Tryz.prog) rfl _ _ 48 rfl w.heap.size 52 i0 (.agg #[.int .i64 0,.string ⟨#[]⟩]) 2 24 Tryz.underlying48 HIN.out HZ0.out HZ1.out HZ2.out rfl (by decide) (.slice (some ⟨w.heap.size,0,none⟩) 0 0) 0 [] (by rfl) (World.ownsRow_made w #[] 0 (Nat.le_refl _) (by unfold maxLen;omega) (by simp)) (some ad) n c xs (by rfl) HL.out ((HH.out.below ((Below.refl _ _).alloc (Nat.le_refl _) _))) H1.out (by unfold maxLen;omega) (by omega) (by simp) ?_;intro v' w' hown hgr hat;have HOWN:=hideC hown;have HGR:=hideC hgr;clear hown hgr hat)
  go_ret
  have hown:=HOWN.out
  have hgr:=HGR.out
  rw [Nat.zero_add] at hown
  exact ⟨_,rfl,hown,((Below.refl _ _).alloc (Nat.le_refl _) _).grown hgr (by simp) (fun k hk=>by simp [Value.ownBlock] at hk;omega)⟩
theorem infoIn : (Tryz.prog.info? 3).map (fun i=>(i.zero,i.size,i.bytes)) = some (some (.int .i64 0),1,8):=by kernel_rfl
set_option maxHeartbeats 1000000 in
theorem cloneIn (ao : Option Addr) (n c : Nat) (xs : List Value) (w : World) (hl : xs.length = n * 1) (h : From w ao n xs) (h1 : ∀ u ∈ xs,u.oneCell' = true) (hn : n <= 1000000) :
  Calls Tryz.prog 167 #[.slice ao n c] w fun e w'=>∃ v,e = .returned v /\ w'.ownsRow w.heap.size 3 1 v n xs /\ Below w.heap.size w w':=by
 have HH:=hideC h
 have HL:=hideC hl
 have H1:=hideC h1
 clear h hl h1
 have q : ∀ (w : World) (a : Option Addr) (n c n' c' : Nat),(binOp .eql 99 (.slice a n c) (.slice none n' c')).run Tryz.prog w = .ok (.bool a.isNone) w:=fun w a n c n' c'=>Lib.run_eql_slice_nil w _ _ a n c n' c' Tryz.underlying99
 obtain ⟨i0,hin,hz0,hz1,hz2⟩:=info_parts infoIn
 cases ao with
 | none =>
  have h0 : n = 0:=by
   by_cases g : 0 < n
   · obtain ⟨ad,e,_⟩:=HH.out g
     cases e
   · omega
  subst h0
  have hx : xs = []:=List.eq_nil_of_length_eq_zero (by rw [HL.out])
  subst hx
  clear HH HL H1 hin hz0 hz1 hz2
  go_enter Tryz.func167,Tryz.ntmps167
  go_wp2
  go_ret
  exact ⟨_,rfl,World.ownsRow_nil _ _ _ _,Below.refl _ _⟩
 | some ad =>
  have HIN:=hideC hin
  have HZ0:=hideC hz0
  have HZ1:=hideC hz1
  have HZ2:=hideC hz2
  clear hin hz0 hz1 hz2
  go_enter Tryz.func167,Tryz.ntmps167
  go_wp2_with (at_builtin;refine wpList_append_src (P:=Tryz.prog) rfl _ _ 99 rfl w.heap.size 3 i0 (.int .i64 0) 1 8 Tryz.underlying99 HIN.out HZ0.out HZ1.out HZ2.out rfl (by decide) (.slice (some ⟨w.heap.size,0,none⟩) 0 0) 0 [] (by rfl) (World.ownsRow_made w #[] 0 (Nat.le_refl _) (by unfold maxLen;omega) (by simp)) (some ad) n c xs (by rfl) HL.out ((HH.out.below ((Below.refl _ _).alloc (Nat.le_refl _) _))) H1.out (by unfold maxLen;omega) (by omega) (by simp) ?_;intro v' w' hown hgr hat;have HOWN:=hideC hown;have HGR:=hideC hgr;clear hown hgr hat)
  go_ret
  have hown:=HOWN.out
  have hgr:=HGR.out
  rw [Nat.zero_add] at hown
  exact ⟨_,rfl,hown,((Below.refl _ _).alloc (Nat.le_refl _) _).grown hgr (by simp) (fun k hk=>by simp [Value.ownBlock] at hk;omega)⟩
end GK
end Go.Proofs.YtpgifpeohlllfaaGreat
