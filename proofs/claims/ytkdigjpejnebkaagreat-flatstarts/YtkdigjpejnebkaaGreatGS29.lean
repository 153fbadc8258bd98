import Derived.Test.YtkdigjpejnebkaaGreatGS28
import Derived.Test.YtkdigjpejnebkaaGreatGS03
set_option linter.unusedVariables false
set_option maxRecDepth 100000
set_option linter.unusedSimpArgs false
namespace Go.Proofs.YtkdigjpejnebkaaGreat
namespace PW
open Go.RowKit
set_option maxHeartbeats 400000 in
theorem isBad9 (a b c m : Int) (w : World) : Calls Tryz.prog 145 #[.agg #[.int .i64 9,.int .i64 a,.int .i64 b,.int .i64 c,.int .i64 m]] w fun e w'=>e = .returned (.bool (!PM.areRegs [a,b] || !PM.isSize c)) /\ Below w.heap.size w w':=by
 have HA : Hid (∀ V : World,Calls Tryz.prog 160 #[.slice (some ⟨w.heap.size + 1,0,none⟩) 2 2] ((w.alloc (.cells #[.int .i64 9,.int .i64 a,.int .i64 b,.int .i64 c,.int .i64 m] 99)).alloc (.cells (ints [a,b]) 3)) fun e w'=>e = .returned (.bool (PM.areRegs [a,b])) /\ ((w.alloc (.cells #[.int .i64 9,.int .i64 a,.int .i64 b,.int .i64 c,.int .i64 m] 99)).alloc (.cells (ints [a,b]) 3)) = w'):=fun V=>areRegs_any [a,b] (w.heap.size + 1) _ (by simp) (by have e:=B.new (w.alloc (.cells #[.int .i64 9,.int .i64 a,.int .i64 b,.int .i64 c,.int .i64 m] 99)) (ints [a,b]) 3;rw [World.size_alloc] at e;exact e)
 have HS:=hideC (isSize_any c)
 obtain ⟨R,hR⟩ : ∃ R,R = PM.areRegs [a,b]:=⟨_,rfl⟩
 rw [<- hR] at HA
 rw [<- hR]
 obtain ⟨S,hS⟩ : ∃ S,S = PM.isSize c:=⟨_,rfl⟩
 rw [<- hS] at HS
 rw [<- hS]
 clear hR hS
 cases R
 · go_enter Tryz.func145,Tryz.ntmps145
   go_wp2_with fail
   refine (HA.out w).mono ?_
   rintro e w' ⟨rfl,rfl⟩
   go_wp2
   go_ret
   exact ⟨by simp,((Below.refl _ _).alloc (Nat.le_refl _) _).alloc (by simp) _⟩
 · go_enter Tryz.func145,Tryz.ntmps145
   go_wp2_with fail
   refine (HA.out w).mono ?_
   rintro e w' ⟨rfl,rfl⟩
   go_wp2_with fail
   refine (HS.out _).mono ?_
   rintro e w' ⟨rfl,rfl⟩
   go_wp2
   go_ret
   exact ⟨by simp,((Below.refl _ _).alloc (Nat.le_refl _) _).alloc (by simp) _⟩
set_option maxHeartbeats 400000 in
theorem isBad10 (a b c m : Int) (w : World) : Calls Tryz.prog 145 #[.agg #[.int .i64 10,.int .i64 a,.int .i64 b,.int .i64 c,.int .i64 m]] w fun e w'=>e = .returned (.bool (!PM.areRegs [a,b] || !PM.isSize c)) /\ Below w.heap.size w w':=by
 have HA : Hid (∀ V : World,Calls Tryz.prog 160 #[.slice (some ⟨w.heap.size + 1,0,none⟩) 2 2] ((w.alloc (.cells #[.int .i64 10,.int .i64 a,.int .i64 b,.int .i64 c,.int .i64 m] 99)).alloc (.cells (ints [a,b]) 3)) fun e w'=>e = .returned (.bool (PM.areRegs [a,b])) /\ ((w.alloc (.cells #[.int .i64 10,.int .i64 a,.int .i64 b,.int .i64 c,.int .i64 m] 99)).alloc (.cells (ints [a,b]) 3)) = w'):=fun V=>areRegs_any [a,b] (w.heap.size + 1) _ (by simp) (by have e:=B.new (w.alloc (.cells #[.int .i64 10,.int .i64 a,.int .i64 b,.int .i64 c,.int .i64 m] 99)) (ints [a,b]) 3;rw [World.size_alloc] at e;exact e)
 have HS:=hideC (isSize_any c)
 obtain ⟨R,hR⟩ : ∃ R,R = PM.areRegs [a,b]:=⟨_,rfl⟩
 rw [<- hR] at HA
 rw [<- hR]
 obtain ⟨S,hS⟩ : ∃ S,S = PM.isSize c:=⟨_,rfl⟩
 rw [<- hS] at HS
 rw [<- hS]
 clear hR hS
 cases R
 · go_enter Tryz.func145,Tryz.ntmps145
   go_wp2_with fail
   refine (HA.out w).mono ?_
   rintro e w' ⟨rfl,rfl⟩
   go_wp2
   go_ret
   exact ⟨by simp,((Below.refl _ _).alloc (Nat.le_refl _) _).alloc (by simp) _⟩
 · go_enter Tryz.func145,Tryz.ntmps145
   go_wp2_with fail
   refine (HA.out w).mono ?_
   rintro e w' ⟨rfl,rfl⟩
   go_wp2_with fail
   refine (HS.out _).mono ?_
   rintro e w' ⟨rfl,rfl⟩
   go_wp2
   go_ret
   exact ⟨by simp,((Below.refl _ _).alloc (Nat.le_refl _) _).alloc (by simp) _⟩
set_option maxHeartbeats 400000 in
theorem isBad12 (a b c m : Int) (w : World) : Calls Tryz.prog 145 #[.agg #[.int .i64 12,.int .i64 a,.int .i64 b,.int .i64 c,.int .i64 m]] w fun e w'=>e = .returned (.bool false) /\ Below w.heap.size w w':=by
 go_enter Tryz.func145,Tryz.ntmps145
 go_wp2
 go_ret
 exact ⟨by simp,(Below.refl _ _).alloc (Nat.le_refl _) _⟩
set_option maxHeartbeats 400000 in
theorem isBad16 (a b c m : Int) (w : World) : Calls Tryz.prog 145 #[.agg #[.int .i64 16,.int .i64 a,.int .i64 b,.int .i64 c,.int .i64 m]] w fun e w'=>e = .returned (.bool (!decide (1 <= m /\ m <= 6))) /\ Below w.heap.size w w':=by
 by_cases h1 : 1 <= m
 · by_cases h2 : m <= 6
   · have HR:=hideC (show (!decide (1 <= m /\ m <= 6)) = false from by simp [h1,h2])
     rw [HR.out]
     go_enter Tryz.func145,Tryz.ntmps145
     go_wp2
     go_ret
     exact ⟨by first | (simp;done) | (simp;omega),(Below.refl _ _).alloc (Nat.le_refl _) _⟩
   · have HR:=hideC (show (!decide (1 <= m /\ m <= 6)) = true from by simp [h1,h2])
     rw [HR.out]
     go_enter Tryz.func145,Tryz.ntmps145
     go_wp2
     go_ret
     exact ⟨by first | (simp;done) | (simp;omega),(Below.refl _ _).alloc (Nat.le_refl _) _⟩
 · have HR:=hideC (show (!decide (1 <= m /\ m <= 6)) = true from by simp [h1])
   rw [HR.out]
   go_enter Tryz.func145,Tryz.ntmps145
   go_wp2
   go_ret
   exact ⟨by simp,(Below.refl _ _).alloc (Nat.le_refl _) _⟩
set_option maxHeartbeats 1000000 in
theorem isBadX (op a b c m : Int) (w : World) (h : op < 1 ∨ 16 < op) : Calls Tryz.prog 145 #[.agg #[.int .i64 op,.int .i64 a,.int .i64 b,.int .i64 c,.int .i64 m]] w fun e w'=>e = .returned (.bool true) /\ Below w.heap.size w w':=by
 have n1 : ¬ op = 1:=by omega
 have n2 : ¬ op = 2:=by omega
 have n3 : ¬ op = 3:=by omega
 have n4 : ¬ op = 4:=by omega
 have n5 : ¬ op = 5:=by omega
 have n6 : ¬ op = 6:=by omega
 have n7 : ¬ op = 7:=by omega
 have n8 : ¬ op = 8:=by omega
 have n9 : ¬ op = 9:=by omega
 have n10 : ¬ op = 10:=by omega
 have n11 : ¬ op = 11:=by omega
 have n12 : ¬ op = 12:=by omega
 have n13 : ¬ op = 13:=by omega
 have n14 : ¬ op = 14:=by omega
 have n15 : ¬ op = 15:=by omega
 have n16 : ¬ op = 16:=by omega
 clear h
 go_enter Tryz.func145,Tryz.ntmps145
 go_wp2
 go_ret
 exact ⟨by simp [n12],(Below.refl _ _).alloc (Nat.le_refl _) _⟩
theorem op_cases (op : Int) : (op < 1 ∨ 16 < op) ∨ op = 1 ∨ op = 2 ∨ op = 3 ∨ op = 4 ∨ op = 5 ∨ op = 6 ∨ op = 7 ∨ op = 8 ∨ op = 9 ∨ op = 10 ∨ op = 11 ∨ op = 12 ∨ op = 13 ∨ op = 14 ∨ op = 15 ∨ op = 16:=by omega
theorem bad_else (i : PM.Ins) (h : i.op < 1 ∨ 16 < i.op) : i.bad = true:=by
 unfold PM.Ins.bad
 rw [if_neg (by omega),if_neg (by omega),if_neg (by omega),if_neg (by omega),if_neg (by omega),if_neg (by omega)]
theorem isBad_any (i : PM.Ins) (w : World) (hi : i.fits) : Calls Tryz.prog 145 #[.agg i.cells] w fun e w'=>e = .returned (.bool i.bad) /\ Below w.heap.size w w':=by
 obtain ⟨op,a,b,c,m⟩:=i
 obtain ⟨-,ha,hb,hc,-⟩:=hi
 have e1:=PM.regs1 a ha
 have e2:=PM.regs2 a b ha hb
 have e3:=PM.regs3 a b c ha hb hc
 rcases op_cases op with h | h | h | h | h | h | h | h | h | h | h | h | h | h | h | h | h
 · rw [bad_else _ h];exact isBadX op a b c m w h
 · subst h
   have g:=isBad1 a b c m w
   rw [e1] at g
   exact g
 · subst h
   have g:=isBad2 a b c m w
   rw [e3] at g
   exact g
 · subst h
   have g:=isBad3 a b c m w
   rw [e3] at g
   exact g
 · subst h
   have g:=isBad4 a b c m w
   rw [e3] at g
   exact g
 · subst h
   have g:=isBad5 a b c m w
   rw [e3] at g
   exact g
 · subst h
   have g:=isBad6 a b c m w
   rw [e3] at g
   exact g
 · subst h
   have g:=isBad7 a b c m w
   rw [e3] at g
   exact g
 · subst h
   have g:=isBad8 a b c m w
   rw [e2] at g
   exact g
 · subst h
   have g:=isBad9 a b c m w
   rw [e2] at g
   exact g
 · subst h
   have g:=isBad10 a b c m w
   rw [e2] at g
   exact g
 · subst h
   have g:=isBad11 a b c m w
   rw [e1] at g
   exact g
 · subst h
   have g:=isBad12 a b c m w
   exact g
 · subst h
   have g:=isBad13 a b c m w
   rw [e2] at g
   exact g
 · subst h
   have g:=isBad14 a b c m w
   rw [e2] at g
   exact g
 · subst h
   have g:=isBad15 a b c m w
   rw [e1] at g
   exact g
 · subst h
   have g:=isBad16 a b c m w
   exact g
def kindN (i : PM.Ins) : Int:=if i.bad then 4 else if i.op = 9 then 1 else if i.op = 10 then 2 else if i.op = 16 then 3 else 0
set_option maxHeartbeats 400000 in
theorem kindOf_any (i : PM.Ins) (w : World) (hi : i.fits) : Calls Tryz.prog 125 #[.agg i.cells] w fun e w'=>e = .returned (.int .i64 (kindN i)) /\ Below w.heap.size w w':=by
 have HB:=hideC (fun V=>isBad_any i V hi)
 have HK : Hid (kindN i = if i.bad then 4 else if i.op = 9 then 1 else if i.op = 10 then 2 else if i.op = 16 then 3 else 0):=rfl
 obtain ⟨op,a,b,c,m⟩:=i
 unfold PM.Ins.cells at HB ⊢
 simp only at HB HK ⊢
 obtain ⟨K,hK⟩ : ∃ K,K = kindN ⟨op,a,b,c,m⟩:=⟨_,rfl⟩
 obtain ⟨D,hD⟩ : ∃ D,D = PM.Ins.bad ⟨op,a,b,c,m⟩:=⟨_,rfl⟩
 rw [<- hK] at HK ⊢
 rw [<- hD] at HK HB
 clear hK hD hi
 have HB0:=hideC ((Below.refl w.heap.size w).alloc (Nat.le_refl _) (.cells #[.int .i64 op,.int .i64 a,.int .i64 b,.int .i64 c,.int .i64 m] 99))
 have BX:=hideC (B.new w #[.int .i64 op,.int .i64 a,.int .i64 b,.int .i64 c,.int .i64 m] 99)
 cases D
 · simp only [Bool.false_eq_true,if_false] at HK
   by_cases h1 : op = 9
   · subst h1
     obtain rfl : K = 1:=by rw [HK.out];rfl
     go_enter Tryz.func125,Tryz.ntmps125
     go_wp2_with fail
     refine (HB.out _).mono ?_
     rintro e w1 ⟨rfl,hb1⟩
     have HB1:=hideC (HB0.out.trans (hb1.mono HB0.out.size))
     have c0:=B.cell (B.below BX.out hb1 (B.isLt BX.out)) 0 rfl
     clear hb1
     go_wp2
     go_ret
     exact ⟨rfl,HB1.out⟩
   · by_cases h2 : op = 10
     · subst h2
       obtain rfl : K = 2:=by rw [HK.out];rfl
       go_enter Tryz.func125,Tryz.ntmps125
       go_wp2_with fail
       refine (HB.out _).mono ?_
       rintro e w1 ⟨rfl,hb1⟩
       have HB1:=hideC (HB0.out.trans (hb1.mono HB0.out.size))
       have c0:=B.cell (B.below BX.out hb1 (B.isLt BX.out)) 0 rfl
       clear hb1
       go_wp2
       go_ret
       exact ⟨rfl,HB1.out⟩
     · by_cases h3 : op = 16
       · subst h3
         obtain rfl : K = 3:=by rw [HK.out];rfl
         go_enter Tryz.func125,Tryz.ntmps125
         go_wp2_with fail
         refine (HB.out _).mono ?_
         rintro e w1 ⟨rfl,hb1⟩
         have HB1:=hideC (HB0.out.trans (hb1.mono HB0.out.size))
         have c0:=B.cell (B.below BX.out hb1 (B.isLt BX.out)) 0 rfl
         clear hb1
         go_wp2
         go_ret
         exact ⟨rfl,HB1.out⟩
       · obtain rfl : K = 0:=by rw [HK.out,if_neg h1,if_neg h2,if_neg h3]
         go_enter Tryz.func125,Tryz.ntmps125
         go_wp2_with fail
         refine (HB.out _).mono ?_
         rintro e w1 ⟨rfl,hb1⟩
         have HB1:=hideC (HB0.out.trans (hb1.mono HB0.out.size))
         have c0:=B.cell (B.below BX.out hb1 (B.isLt BX.out)) 0 rfl
         clear hb1
         go_wp2
         go_ret
         exact ⟨rfl,HB1.out⟩
 · simp only [if_true] at HK
   obtain rfl : K = 4:=HK.out
   go_enter Tryz.func125,Tryz.ntmps125
   go_wp2_with fail
   refine (HB.out _).mono ?_
   rintro e w1 ⟨rfl,hb1⟩
   have HB1:=hideC (HB0.out.trans (hb1.mono HB0.out.size))
   clear hb1
   go_wp2
   go_ret
   exact ⟨rfl,HB1.out⟩
theorem nb_lt {x : Int} (h : PM.Byt x) (h8 : ¬ 8 <= x) : ∃ n : Nat,x = (n : Int) /\ n < 8:=by
 obtain ⟨h0,-⟩:=h
 exact ⟨x.toNat,by omega,by omega⟩
theorem set5_below {N g : Nat} {w W : World} (h : Below N w W) (hg : N <= g) (v0 v1 v2 v3 v4 : Value) : Below N w (((((W.setCell ⟨g,0,none⟩ v0).setCell ⟨g,1,none⟩ v1).setCell ⟨g,2,none⟩ v2).setCell ⟨g,3,none⟩ v3).setCell ⟨g,4,none⟩ v4) :=
 ((((h.setCell (p:=⟨g,0,none⟩) hg v0).setCell (p:=⟨g,1,none⟩) hg v1).setCell (p:=⟨g,2,none⟩) hg v2).setCell (p:=⟨g,3,none⟩) hg v3).setCell (p:=⟨g,4,none⟩) hg v4
theorem regs_of (op a b c m : Int) (hi : PM.Ins.fits ⟨op,a,b,c,m⟩) (h : op = 9 ∨ op = 10) (hd : PM.Ins.bad ⟨op,a,b,c,m⟩ = false) : ∃ na nb : Nat,a = (na : Int) /\ b = (nb : Int) /\ na < 8 /\ nb < 8:=by
 obtain ⟨-,ha,hb,-⟩:=hi
 have e : (decide (8 <= a ∨ 8 <= b) || !(PM.isSize c)) = false:=by
  rcases h with h | h <;> subst h <;> exact hd
 simp only [Bool.or_eq_false_iff,decide_eq_false_iff_not] at e
 obtain ⟨na,h1,h2⟩:=nb_lt ha (fun h=>e.1 (.inl h))
 obtain ⟨nb,h3,h4⟩:=nb_lt hb (fun h=>e.1 (.inr h))
 exact ⟨na,nb,h1,h3,h2,h4⟩
set_option maxHeartbeats 2000000 in
theorem ask_yes (p : PM.Pr) (s : ByteArray) (w : World) (h : s.size = 8) : Calls Tryz.prog 108 #[p.val,.string s] w fun e w'=>e = .returned (.tuple #[.agg (PM.askN p (PM.ins s)),.int .i64 0]) /\ Below w.heap.size w w':=by
 have HD:=hideC (fun V=>decode_yes s V h)
 have hfit:=PM.ins_fits s h
 obtain ⟨i,hi⟩ : ∃ i,i = PM.ins s:=⟨_,rfl⟩
 rw [<- hi] at HD hfit ⊢
 have HK:=hideC (fun V=>kindOf_any i V hfit)
 clear hi h
 obtain ⟨op,a,b,c,m⟩:=i
 have HAsk : Hid (PM.askN p ⟨op,a,b,c,m⟩ = if PM.Ins.bad ⟨op,a,b,c,m⟩ then #[.int .i64 4,.int .i64 0,.int .i64 0,.int .i64 0,.int .i64 0] else if op = 9 then #[.int .i64 1,.int .i64 (wrap64 (p.r b.toNat + m)),.int .i64 c,.int .i64 0,.int .i64 0] else if op = 10 then #[.int .i64 2,.int .i64 (wrap64 (p.r b.toNat + m)),.int .i64 c,.int .i64 (p.r a.toNat),.int .i64 0] else if op = 16 then #[.int .i64 3,.int .i64 0,.int .i64 0,.int .i64 0,.int .i64 m] else #[.int .i64 0,.int .i64 0,.int .i64 0,.int .i64 0,.int .i64 0]):=rfl
 have HRg:=hideC (regs_of op a b c m hfit)
 have HKN : Hid (kindN ⟨op,a,b,c,m⟩ = if PM.Ins.bad ⟨op,a,b,c,m⟩ then 4 else if op = 9 then 1 else if op = 10 then 2 else if op = 16 then 3 else 0):=rfl
 obtain ⟨K,hK⟩ : ∃ K,K = kindN ⟨op,a,b,c,m⟩:=⟨_,rfl⟩
 obtain ⟨D,hD⟩ : ∃ D,D = PM.Ins.bad ⟨op,a,b,c,m⟩:=⟨_,rfl⟩
 obtain ⟨Q,hQ⟩ : ∃ Q,Q = PM.askN p ⟨op,a,b,c,m⟩:=⟨_,rfl⟩
 rw [<- hQ] at HAsk ⊢
 rw [<- hK] at HKN HK
 rw [<- hD] at HKN HAsk HRg
 clear hK hD hQ hfit
 unfold PM.Ins.cells at HD HK
 simp only at HD HK
 have HB0:=hideC (((Below.refl w.heap.size w).alloc (Nat.le_refl _) (.cells p.row 70)).alloc (by simp) (.cells #[.int .i64 0,.int .i64 0,.int .i64 0,.int .i64 0,.int .i64 0] 101))
 have BP:=hideC (B.alloc (B.new w p.row 70) (.cells #[.int .i64 0,.int .i64 0,.int .i64 0,.int .i64 0,.int .i64 0] 101))
 have BR:=hideC (B.new (w.alloc (.cells p.row 70)) #[.int .i64 0,.int .i64 0,.int .i64 0,.int .i64 0,.int .i64 0] 101)
 rw [World.size_alloc] at BR
 unfold PM.Pr.val
 cases D
 · simp only [Bool.false_eq_true,if_false] at HKN HAsk
   by_cases h1 : op = 9
   · obtain ⟨na,nb,rfl,rfl,hna,hnb⟩:=HRg.out (.inl h1) rfl
     subst h1
     obtain rfl : K = 1:=HKN.out
     obtain rfl:=HAsk.out
     clear HRg HKN HAsk
     rw [Int.toNat_natCast]
     go_enter Tryz.func108,Tryz.ntmps108
     go_wp2_with fail
     refine (HD.out _).mono ?_
     rintro e w1 ⟨rfl,hb1⟩
     have HB1:=hideC (HB0.out.trans (hb1.mono HB0.out.size))
     have BP1:=hideC (B.below BP.out hb1 (B.isLt BP.out))
     have BR1:=hideC (B.below BR.out hb1 (B.isLt BR.out))
     have HA1:=hideC ((Below.refl w1.heap.size w1).alloc (Nat.le_refl _) (.cells #[.int .i64 9,.int .i64 na,.int .i64 nb,.int .i64 c,.int .i64 m] 99))
     have BI1:=hideC (B.new w1 #[.int .i64 9,.int .i64 na,.int .i64 nb,.int .i64 c,.int .i64 m] 99)
     clear hb1
     go_wp2_with fail
     refine (HK.out _).mono ?_
     rintro e w2 ⟨rfl,hb2⟩
     have HB2:=hideC (HB1.out.trans ((HA1.out.trans (hb2.mono HA1.out.size)).mono HB1.out.size))
     have BP2:=hideC (B.below (B.alloc BP1.out _) hb2 (B.isLt (B.alloc BP1.out _)))
     have BR2:=hideC (B.below (B.alloc BR1.out _) hb2 (B.isLt (B.alloc BR1.out _)))
     have BI2:=hideC (B.below BI1.out hb2 (B.isLt BI1.out))
     have sz2:=HB2.out.size
     have l0:=B.isLt BP2.out
     have l1:=B.isLt BR2.out
     have l2:=B.isLt BI2.out
     have ne1 : ¬ w1.heap.size = w.heap.size + 1:=fun h=>by have:=B.isLt BR1.out;omega
     clear hb2 HA1 BI1
     have t0 : w2.cell? ⟨w.heap.size + 1,0,none⟩ = some (.int .i64 0):=B.cell BR2.out 0 rfl
     have t1 : w2.cell? ⟨w.heap.size + 1,1,none⟩ = some (.int .i64 0):=B.cell BR2.out 1 rfl
     have t2 : w2.cell? ⟨w.heap.size + 1,2,none⟩ = some (.int .i64 0):=B.cell BR2.out 2 rfl
     have t3 : w2.cell? ⟨w.heap.size + 1,3,none⟩ = some (.int .i64 0):=B.cell BR2.out 3 rfl
     have t4 : w2.cell? ⟨w.heap.size + 1,4,none⟩ = some (.int .i64 0):=B.cell BR2.out 4 rfl
     have u0 : ∀ j,w2.frozen? ⟨w.heap.size + 1,j,none⟩ = false:=fun j=>B.free BR2.out j
     have cb : w2.cell? ⟨w.heap.size,nb,none⟩ = some (.int .i64 (p.r nb)):=B.cell BP2.out nb (PM.row_get p nb hnb)
     have i2 : w2.cell? ⟨w1.heap.size,2,none⟩ = some (.int .i64 nb):=B.cell BI2.out 2 rfl
     have i3 : w2.cell? ⟨w1.heap.size,3,none⟩ = some (.int .i64 c):=B.cell BI2.out 3 rfl
     have i4 : w2.cell? ⟨w1.heap.size,4,none⟩ = some (.int .i64 m):=B.cell BI2.out 4 rfl
     go_wp2_with fail
     go_region
     go_wp2
     refine bodyPost_ret (v:=.tuple #[.agg #[.int .i64 1,.int .i64 (wrap64 (p.r nb + m)),.int .i64 c,.int .i64 0,.int .i64 0],.int .i64 0]) (by simp [results,Tryz.results108,go_sem,t0,t1,t2,t3,t4,l1]) rfl ?_
     exact ⟨rfl,(by first | exact (set5_below HB2.out (Nat.le_succ _) _ _ _ _ _).alloc (by simp;omega) _ | exact ((set5_below HB2.out (Nat.le_succ _) _ _ _ _ _).alloc (by simp;omega) _).drew)⟩
   · by_cases h2 : op = 10
     · obtain ⟨na,nb,rfl,rfl,hna,hnb⟩:=HRg.out (.inr h2) rfl
       subst h2
       obtain rfl : K = 2:=HKN.out
       obtain rfl:=HAsk.out
       clear HRg HKN HAsk h1
       rw [if_neg (by decide),if_pos rfl,Int.toNat_natCast,Int.toNat_natCast]
       go_enter Tryz.func108,Tryz.ntmps108
       go_wp2_with fail
       refine (HD.out _).mono ?_
       rintro e w1 ⟨rfl,hb1⟩
       have HB1:=hideC (HB0.out.trans (hb1.mono HB0.out.size))
       have BP1:=hideC (B.below BP.out hb1 (B.isLt BP.out))
       have BR1:=hideC (B.below BR.out hb1 (B.isLt BR.out))
       have HA1:=hideC ((Below.refl w1.heap.size w1).alloc (Nat.le_refl _) (.cells #[.int .i64 10,.int .i64 na,.int .i64 nb,.int .i64 c,.int .i64 m] 99))
       have BI1:=hideC (B.new w1 #[.int .i64 10,.int .i64 na,.int .i64 nb,.int .i64 c,.int .i64 m] 99)
       clear hb1
       go_wp2_with fail
       refine (HK.out _).mono ?_
       rintro e w2 ⟨rfl,hb2⟩
       have HB2:=hideC (HB1.out.trans ((HA1.out.trans (hb2.mono HA1.out.size)).mono HB1.out.size))
       have BP2:=hideC (B.below (B.alloc BP1.out _) hb2 (B.isLt (B.alloc BP1.out _)))
       have BR2:=hideC (B.below (B.alloc BR1.out _) hb2 (B.isLt (B.alloc BR1.out _)))
       have BI2:=hideC (B.below BI1.out hb2 (B.isLt BI1.out))
       have sz2:=HB2.out.size
       have l0:=B.isLt BP2.out
       have l1:=B.isLt BR2.out
       have l2:=B.isLt BI2.out
       have ne1 : ¬ w1.heap.size = w.heap.size + 1:=fun h=>by have:=B.isLt BR1.out;omega
       clear hb2 HA1 BI1
       have t0 : w2.cell? ⟨w.heap.size + 1,0,none⟩ = some (.int .i64 0):=B.cell BR2.out 0 rfl
       have t1 : w2.cell? ⟨w.heap.size + 1,1,none⟩ = some (.int .i64 0):=B.cell BR2.out 1 rfl
       have t2 : w2.cell? ⟨w.heap.size + 1,2,none⟩ = some (.int .i64 0):=B.cell BR2.out 2 rfl
       have t3 : w2.cell? ⟨w.heap.size + 1,3,none⟩ = some (.int .i64 0):=B.cell BR2.out 3 rfl
       have t4 : w2.cell? ⟨w.heap.size + 1,4,none⟩ = some (.int .i64 0):=B.cell BR2.out 4 rfl
       have u0 : ∀ j,w2.frozen? ⟨w.heap.size + 1,j,none⟩ = false:=fun j=>B.free BR2.out j
       have ca : w2.cell? ⟨w.heap.size,na,none⟩ = some (.int .i64 (p.r na)):=B.cell BP2.out na (PM.row_get p na hna)
       have i1 : w2.cell? ⟨w1.heap.size,1,none⟩ = some (.int .i64 na):=B.cell BI2.out 1 rfl
       have cb : w2.cell? ⟨w.heap.size,nb,none⟩ = some (.int .i64 (p.r nb)):=B.cell BP2.out nb (PM.row_get p nb hnb)
       have i2 : w2.cell? ⟨w1.heap.size,2,none⟩ = some (.int .i64 nb):=B.cell BI2.out 2 rfl
       have i3 : w2.cell? ⟨w1.heap.size,3,none⟩ = some (.int .i64 c):=B.cell BI2.out 3 rfl
       have i4 : w2.cell? ⟨w1.heap.size,4,none⟩ = some (.int .i64 m):=B.cell BI2.out 4 rfl
       go_wp2_with fail
       go_region
       go_wp2
       refine bodyPost_ret (v:=.tuple #[.agg #[.int .i64 2,.int .i64 (wrap64 (p.r nb + m)),.int .i64 c,.int .i64 (p.r na),.int .i64 0],.int .i64 0]) (by simp [results,Tryz.results108,go_sem,t0,t1,t2,t3,t4,l1]) rfl ?_
       exact ⟨rfl,(by first | exact (set5_below HB2.out (Nat.le_succ _) _ _ _ _ _).alloc (by simp;omega) _ | exact ((set5_below HB2.out (Nat.le_succ _) _ _ _ _ _).alloc (by simp;omega) _).drew)⟩
     · by_cases h3 : op = 16
       · subst h3
         obtain rfl : K = 3:=HKN.out
         obtain rfl:=HAsk.out
         clear HRg HKN HAsk h1 h2
         rw [if_neg (by decide),if_neg (by decide),if_pos rfl]
         go_enter Tryz.func108,Tryz.ntmps108
         go_wp2_with fail
         refine (HD.out _).mono ?_
         rintro e w1 ⟨rfl,hb1⟩
         have HB1:=hideC (HB0.out.trans (hb1.mono HB0.out.size))
         have BP1:=hideC (B.below BP.out hb1 (B.isLt BP.out))
         have BR1:=hideC (B.below BR.out hb1 (B.isLt BR.out))
         have HA1:=hideC ((Below.refl w1.heap.size w1).alloc (Nat.le_refl _) (.cells #[.int .i64 16,.int .i64 a,.int .i64 b,.int .i64 c,.int .i64 m] 99))
         have BI1:=hideC (B.new w1 #[.int .i64 16,.int .i64 a,.int .i64 b,.int .i64 c,.int .i64 m] 99)
         clear hb1
         go_wp2_with fail
         refine (HK.out _).mono ?_
         rintro e w2 ⟨rfl,hb2⟩
         have HB2:=hideC (HB1.out.trans ((HA1.out.trans (hb2.mono HA1.out.size)).mono HB1.out.size))
         have BP2:=hideC (B.below (B.alloc BP1.out _) hb2 (B.isLt (B.alloc BP1.out _)))
         have BR2:=hideC (B.below (B.alloc BR1.out _) hb2 (B.isLt (B.alloc BR1.out _)))
         have BI2:=hideC (B.below BI1.out hb2 (B.isLt BI1.out))
         have sz2:=HB2.out.size
         have l0:=B.isLt BP2.out
         have l1:=B.isLt BR2.out
         have l2:=B.isLt BI2.out
         have ne1 : ¬ w1.heap.size = w.heap.size + 1:=fun h=>by have:=B.isLt BR1.out;omega
         clear hb2 HA1 BI1
         have t0 : w2.cell? ⟨w.heap.size + 1,0,none⟩ = some (.int .i64 0):=B.cell BR2.out 0 rfl
         have t1 : w2.cell? ⟨w.heap.size + 1,1,none⟩ = some (.int .i64 0):=B.cell BR2.out 1 rfl
         have t2 : w2.cell? ⟨w.heap.size + 1,2,none⟩ = some (.int .i64 0):=B.cell BR2.out 2 rfl
         have t3 : w2.cell? ⟨w.heap.size + 1,3,none⟩ = some (.int .i64 0):=B.cell BR2.out 3 rfl
         have t4 : w2.cell? ⟨w.heap.size + 1,4,none⟩ = some (.int .i64 0):=B.cell BR2.out 4 rfl
         have u0 : ∀ j,w2.frozen? ⟨w.heap.size + 1,j,none⟩ = false:=fun j=>B.free BR2.out j
         have i4 : w2.cell? ⟨w1.heap.size,4,none⟩ = some (.int .i64 m):=B.cell BI2.out 4 rfl
         go_wp2
         refine bodyPost_ret (v:=.tuple #[.agg #[.int .i64 3,.int .i64 0,.int .i64 0,.int .i64 0,.int .i64 m],.int .i64 0]) (by simp [results,Tryz.results108,go_sem,t0,t1,t2,t3,t4,l1]) rfl ?_
         exact ⟨rfl,(by first | exact (set5_below HB2.out (Nat.le_succ _) _ _ _ _ _).alloc (by simp;omega) _ | exact ((set5_below HB2.out (Nat.le_succ _) _ _ _ _ _).alloc (by simp;omega) _).drew)⟩
       · obtain rfl : K = 0:=by rw [HKN.out,if_neg h1,if_neg h2,if_neg h3]
         obtain rfl : Q = #[.int .i64 0,.int .i64 0,.int .i64 0,.int .i64 0,.int .i64 0]:=by rw [HAsk.out,if_neg h1,if_neg h2,if_neg h3]
         clear HRg HKN HAsk h1 h2 h3
         go_enter Tryz.func108,Tryz.ntmps108
         go_wp2_with fail
         refine (HD.out _).mono ?_
         rintro e w1 ⟨rfl,hb1⟩
         have HB1:=hideC (HB0.out.trans (hb1.mono HB0.out.size))
         have BP1:=hideC (B.below BP.out hb1 (B.isLt BP.out))
         have BR1:=hideC (B.below BR.out hb1 (B.isLt BR.out))
         have HA1:=hideC ((Below.refl w1.heap.size w1).alloc (Nat.le_refl _) (.cells #[.int .i64 op,.int .i64 a,.int .i64 b,.int .i64 c,.int .i64 m] 99))
         have BI1:=hideC (B.new w1 #[.int .i64 op,.int .i64 a,.int .i64 b,.int .i64 c,.int .i64 m] 99)
         clear hb1
         go_wp2_with fail
         refine (HK.out _).mono ?_
         rintro e w2 ⟨rfl,hb2⟩
         have HB2:=hideC (HB1.out.trans ((HA1.out.trans (hb2.mono HA1.out.size)).mono HB1.out.size))
         have BP2:=hideC (B.below (B.alloc BP1.out _) hb2 (B.isLt (B.alloc BP1.out _)))
         have BR2:=hideC (B.below (B.alloc BR1.out _) hb2 (B.isLt (B.alloc BR1.out _)))
         have BI2:=hideC (B.below BI1.out hb2 (B.isLt BI1.out))
         have sz2:=HB2.out.size
         have l0:=B.isLt BP2.out
         have l1:=B.isLt BR2.out
         have l2:=B.isLt BI2.out
         have ne1 : ¬ w1.heap.size = w.heap.size + 1:=fun h=>by have:=B.isLt BR1.out;omega
         clear hb2 HA1 BI1
         have t0 : w2.cell? ⟨w.heap.size + 1,0,none⟩ = some (.int .i64 0):=B.cell BR2.out 0 rfl
         have t1 : w2.cell? ⟨w.heap.size + 1,1,none⟩ = some (.int .i64 0):=B.cell BR2.out 1 rfl
         have t2 : w2.cell? ⟨w.heap.size + 1,2,none⟩ = some (.int .i64 0):=B.cell BR2.out 2 rfl
         have t3 : w2.cell? ⟨w.heap.size + 1,3,none⟩ = some (.int .i64 0):=B.cell BR2.out 3 rfl
         have t4 : w2.cell? ⟨w.heap.size + 1,4,none⟩ = some (.int .i64 0):=B.cell BR2.out 4 rfl
         have u0 : ∀ j,w2.frozen? ⟨w.heap.size + 1,j,none⟩ = false:=fun j=>B.free BR2.out j
         go_wp2
         refine bodyPost_ret (v:=.tuple #[.agg #[.int .i64 0,.int .i64 0,.int .i64 0,.int .i64 0,.int .i64 0],.int .i64 0]) (by simp [results,Tryz.results108,go_sem,t0,t1,t2,t3,t4,l1]) rfl ?_
         exact ⟨rfl,(by first | exact (set5_below HB2.out (Nat.le_succ _) _ _ _ _ _).alloc (by simp;omega) _ | exact ((set5_below HB2.out (Nat.le_succ _) _ _ _ _ _).alloc (by simp;omega) _).drew)⟩
 · simp only [if_true] at HKN HAsk
   obtain rfl : K = 4:=HKN.out
   obtain rfl:=HAsk.out
   clear HRg HKN HAsk
   go_enter Tryz.func108,Tryz.ntmps108
   go_wp2_with fail
   refine (HD.out _).mono ?_
   rintro e w1 ⟨rfl,hb1⟩
   have HB1:=hideC (HB0.out.trans (hb1.mono HB0.out.size))
   have BP1:=hideC (B.below BP.out hb1 (B.isLt BP.out))
   have BR1:=hideC (B.below BR.out hb1 (B.isLt BR.out))
   have HA1:=hideC ((Below.refl w1.heap.size w1).alloc (Nat.le_refl _) (.cells #[.int .i64 op,.int .i64 a,.int .i64 b,.int .i64 c,.int .i64 m] 99))
   have BI1:=hideC (B.new w1 #[.int .i64 op,.int .i64 a,.int .i64 b,.int .i64 c,.int .i64 m] 99)
   clear hb1
   go_wp2_with fail
   refine (HK.out _).mono ?_
   rintro e w2 ⟨rfl,hb2⟩
   have HB2:=hideC (HB1.out.trans ((HA1.out.trans (hb2.mono HA1.out.size)).mono HB1.out.size))
   have BP2:=hideC (B.below (B.alloc BP1.out _) hb2 (B.isLt (B.alloc BP1.out _)))
   have BR2:=hideC (B.below (B.alloc BR1.out _) hb2 (B.isLt (B.alloc BR1.out _)))
   have BI2:=hideC (B.below BI1.out hb2 (B.isLt BI1.out))
   have sz2:=HB2.out.size
   have l0:=B.isLt BP2.out
   have l1:=B.isLt BR2.out
   have l2:=B.isLt BI2.out
   have ne1 : ¬ w1.heap.size = w.heap.size + 1:=fun h=>by have:=B.isLt BR1.out;omega
   clear hb2 HA1 BI1
   have t0 : w2.cell? ⟨w.heap.size + 1,0,none⟩ = some (.int .i64 0):=B.cell BR2.out 0 rfl
   have t1 : w2.cell? ⟨w.heap.size + 1,1,none⟩ = some (.int .i64 0):=B.cell BR2.out 1 rfl
   have t2 : w2.cell? ⟨w.heap.size + 1,2,none⟩ = some (.int .i64 0):=B.cell BR2.out 2 rfl
   have t3 : w2.cell? ⟨w.heap.size + 1,3,none⟩ = some (.int .i64 0):=B.cell BR2.out 3 rfl
   have t4 : w2.cell? ⟨w.heap.size + 1,4,none⟩ = some (.int .i64 0):=B.cell BR2.out 4 rfl
   have u0 : ∀ j,w2.frozen? ⟨w.heap.size + 1,j,none⟩ = false:=fun j=>B.free BR2.out j
   go_wp2
   refine bodyPost_ret (v:=.tuple #[.agg #[.int .i64 4,.int .i64 0,.int .i64 0,.int .i64 0,.int .i64 0],.int .i64 0]) (by simp [results,Tryz.results108,go_sem,t0,t1,t2,t3,t4,l1]) rfl ?_
   exact ⟨rfl,(by first | exact (set5_below HB2.out (Nat.le_succ _) _ _ _ _ _).alloc (by simp;omega) _ | exact ((set5_below HB2.out (Nat.le_succ _) _ _ _ _ _).alloc (by simp;omega) _).drew)⟩
theorem reckon2 (b c : Int) (w : World) : Calls Tryz.prog 162 #[.int .i64 2,.int .i64 b,.int .i64 c] w fun e w'=>e = .returned (.int .i64 (PM.rk 2 b c)) /\ w = w':=by
 go_enter Tryz.func162,Tryz.ntmps162
 go_wp2
 go_ret
 exact ⟨rfl,rfl⟩
theorem reckon3 (b c : Int) (w : World) : Calls Tryz.prog 162 #[.int .i64 3,.int .i64 b,.int .i64 c] w fun e w'=>e = .returned (.int .i64 (PM.rk 3 b c)) /\ w = w':=by
 go_enter Tryz.func162,Tryz.ntmps162
 go_wp2
 go_ret
 exact ⟨rfl,rfl⟩
theorem reckon4 (b c : Int) (w : World) : Calls Tryz.prog 162 #[.int .i64 4,.int .i64 b,.int .i64 c] w fun e w'=>e = .returned (.int .i64 (PM.rk 4 b c)) /\ w = w':=by
 go_enter Tryz.func162,Tryz.ntmps162
 go_wp2
 go_ret
 exact ⟨rfl,rfl⟩
theorem reckon5 (b c : Int) (w : World) : Calls Tryz.prog 162 #[.int .i64 5,.int .i64 b,.int .i64 c] w fun e w'=>e = .returned (.int .i64 (PM.rk 5 b c)) /\ w = w':=by
 go_enter Tryz.func162,Tryz.ntmps162
 go_wp2
 go_ret
 exact ⟨rfl,rfl⟩
theorem reckon6 (b c : Int) (w : World) : Calls Tryz.prog 162 #[.int .i64 6,.int .i64 b,.int .i64 c] w fun e w'=>e = .returned (.int .i64 (PM.rk 6 b c)) /\ w = w':=by
 go_enter Tryz.func162,Tryz.ntmps162
 go_wp2
 go_ret
 exact ⟨rfl,rfl⟩
theorem reckon7 (b c : Int) (w : World) : Calls Tryz.prog 162 #[.int .i64 7,.int .i64 b,.int .i64 c] w fun e w'=>e = .returned (.int .i64 (PM.rk 7 b c)) /\ w = w':=by
 have h1:=PM.u64_and63 c
 have h2:=PM.i64_and63 c
 have h3 : IntKind.u64.wrap (c % 64) = c % 64:=by rw [IntKind.wrap_u64];omega
 have HR:=hideC (show PM.rk 7 b c = wrap64 (IntKind.u64.wrap b / 2 ^ min (c % 64).toNat 64) from rfl)
 rw [HR.out]
 have h4 : 0 <= c % 64:=by omega
 obtain ⟨E,hE⟩ : ∃ E,E = c % 64:=⟨_,rfl⟩
 rw [<- hE] at h1 h2 h3 h4 ⊢
 clear hE
 go_enter Tryz.func162,Tryz.ntmps162
 go_wp2
 go_ret
 exact ⟨rfl,rfl⟩
theorem holds13 (a b : Int) (w : World) : Calls Tryz.prog 163 #[.int .i64 13,.int .i64 a,.int .i64 b] w fun e w'=>e = .returned (.bool (decide (a = b))) /\ w = w':=by
 go_enter Tryz.func163,Tryz.ntmps163
 go_wp2
 go_ret
 exact ⟨by first | rfl | simp [beq_eq_decide],rfl⟩
theorem holds14 (a b : Int) (w : World) : Calls Tryz.prog 163 #[.int .i64 14,.int .i64 a,.int .i64 b] w fun e w'=>e = .returned (.bool (decide (a < b))) /\ w = w':=by
 go_enter Tryz.func163,Tryz.ntmps163
 go_wp2
 go_ret
 exact ⟨by first | rfl | simp [beq_eq_decide],rfl⟩
theorem _root_.Go.Proofs.YtkdigjpejnebkaaGreat.PM.row_at (p : PM.Pr) (j : Nat) (h : j < 8) (hs : j < p.row.size) : p.row[j] = .int .i64 (p.r j):=by
 have e:=PM.row_get p j h
 rw [Array.getElem?_eq_getElem hs] at e
 exact Option.some.inj e
end PW
end Go.Proofs.YtkdigjpejnebkaaGreat
