import Derived.Test.YtkdigjpejnebkaaGreatGU00
import Derived.Test.YtkdigjpejnebkaaGreatGU19
import Derived.Test.YtkdigjpejnebkaaGreatGU02
set_option maxHeartbeats 20000000
set_option linter.unusedVariables false
set_option maxRecDepth 100000
set_option linter.unusedSimpArgs false
namespace Go.Proofs.YtkdigjpejnebkaaGreat
namespace PW
open Go.RowKit
def ints (l:List Int):Array Value:=(l.map fun x=>I x).toArray
theorem MR (l:List Int) (k:Nat) (h:k<l.length):(ints l)[k]?=some (I (l.getD k 0)):=by
 simp[ints,h]
theorem kg (l:List Int) (b:Nat) (w:World) (hl:l.length<=4) (hx:w.heap[b]?=some (.cells (ints l) 3 (0,0))) :
  Calls Tryz.prog 160 #[.slice (some (Ad b 0)) l.length l.length] w fun e w'=>e=.returned (.bool (PM.dn l))/\w=w':=by
 have HX:=ai hx
 have HN:=ai (PM.GY l)
 have HY:=ai (PM.Ed l)
 obtain⟨R,hR⟩:=ex (PM.dn l)
 rw[<- hR] at HN HY
 rw[<- hR]
 clear hR hx
 go_enter Tryz.func160,Tryz.ntmps160
 go_wp2
 go_loop [7] (fun i=>∃k:Nat,k<=l.length/\i=I k/\∀j,j<k->0<=l.getD j 0/\l.getD j 0<8) (fun i=>l.length-(intOf i).toNat)
 case atStart=>exact⟨0,by omega,rfl,fun j hj=>absurd hj (by omega)⟩
 case round =>
  obtain⟨k,hk,rfl,hj⟩:=hrel
  have HJ:=ai hj
  clear hj
  by_cases hlt:k<l.length
  · have hc:=B.cell HX.o k (MR l k hlt)
    have HG:=ai (show l[k]?=some (l.getD k 0) from by simp[hlt])
    have HJ2:Hid (0<=l.getD k 0/\l.getD k 0<8->∀j,j<k+1->0<=l.getD j 0/\l.getD j 0<8):=fun h j hjj=>by
     rcases Nat.lt_or_ge j k with g | g
     · exact HJ.o j g
     · obtain rfl:j=k:=by omega
       exact h
    obtain⟨x,hx⟩:=ex (l.getD k 0)
    rw[<- hx] at hc HG HJ2
    clear hx
    by_cases h0:0<=x
    · by_cases h1:x<8
      · go_wp2
        go_round
        case rel=>exact⟨k+1,by omega,by go_num,HJ2.o ⟨h0,h1⟩⟩
        case measure=>simp[intOf];omega
      · obtain rfl:=HN.o k x HG.o (fun h=>h1 h.2)
        go_wp2
        go_ret
        exact⟨rfl,rfl⟩
    · obtain rfl:=HN.o k x HG.o (fun h=>h0 h.1)
      go_wp2
      go_ret
      exact⟨rfl,rfl⟩
  · obtain rfl:k=l.length:=by omega
    obtain rfl:=HY.o (fun j x hx=>by
     have yZ:j<l.length:=(List.getElem?_eq_some_iff.1 hx).1
     have e:l.getD j 0=x:=by simp[hx]
     rw[<- e]
     exact HJ.o j yZ)
    go_wp2
    go_ret
    exact⟨rfl,rfl⟩
theorem xx (n:Int) (w:World):Calls Tryz.prog 161 #[I n] w fun e w'=>e=.returned (.bool (PM.dL n))/\w=w':=by
 by_cases h1:n=1
 · subst h1
   go_enter Tryz.func161,Tryz.ntmps161
   go_wp2
   go_ret
   exact⟨rfl,rfl⟩
 · by_cases h2:n=2
   · subst h2
     go_enter Tryz.func161,Tryz.ntmps161
     go_wp2
     go_ret
     exact⟨rfl,rfl⟩
   · by_cases h3:n=4
     · subst h3
       go_enter Tryz.func161,Tryz.ntmps161
       go_wp2
       go_ret
       exact⟨rfl,rfl⟩
     · rw[show PM.dL n=decide (n=8) from by unfold PM.dL;simp[h1,h2,h3]]
       go_enter Tryz.func161,Tryz.ntmps161
       go_wp2
       go_ret
       have b1:(n==1)=false:=by simpa using h1
       have b2:(n==2)=false:=by simpa using h2
       have b3:(n==4)=false:=by simpa using h3
       have b4:(n==8)=decide (n=8):=by by_cases h:n=8 <;> simp[h]
       exact⟨by simp only[b1,b2,b3,b4,Bool.false_or];rfl,rfl⟩
theorem FQ (op a b c m:Int) (w:World) (h:op=1∨op=11∨op=15):Calls Tryz.prog 145 #[.agg #[I op,I a,I b,I c,I m]] w fun e w'=>e=.returned (.bool (!PM.dn [a]))/\Below w.heap.size w w':=by
 have HA:Hid (∀V:World,Calls Tryz.prog 160 #[.slice (some (Ad (w.heap.size+1) 0)) 1 1] ((w.alloc (.cells #[I op,I a,I b,I c,I m] 99)).alloc (.cells (ints [a]) 3)) fun e w'=>e=.returned (.bool (PM.dn [a]))/\((w.alloc (.cells #[I op,I a,I b,I c,I m] 99)).alloc (.cells (ints [a]) 3))=w'):=fun V=>kg [a] (w.heap.size+1) _ (by simp) (by have e:=B.new (w.alloc (.cells #[I op,I a,I b,I c,I m] 99)) (ints [a]) 3;rw[World.size_alloc] at e;exact e)
 obtain⟨R,hR⟩:=ex (PM.dn [a])
 rw[<- hR] at HA
 rw[<- hR]
 clear hR
 rcases h with rfl | rfl | rfl
 all_goals
  go_enter Tryz.func145,Tryz.ntmps145
  go_wp2_with fail
  refine(HA.o w).mono ?_
  rintro e w' ⟨rfl,rfl⟩
  go_wp2
  go_ret
  exact⟨by simp,((Below.refl _ _).alloc (Nat.le_refl _) _).alloc (by simp) _⟩
theorem ud (op a b c m:Int) (w:World) (h:op=2∨op=3∨op=4∨op=5∨op=6∨op=7):Calls Tryz.prog 145 #[.agg #[I op,I a,I b,I c,I m]] w fun e w'=>e=.returned (.bool (!PM.dn [a,b,c]))/\Below w.heap.size w w':=by
 have HA:Hid (∀V:World,Calls Tryz.prog 160 #[.slice (some (Ad (w.heap.size+1) 0)) 3 3] ((w.alloc (.cells #[I op,I a,I b,I c,I m] 99)).alloc (.cells (ints [a,b,c]) 3)) fun e w'=>e=.returned (.bool (PM.dn [a,b,c]))/\((w.alloc (.cells #[I op,I a,I b,I c,I m] 99)).alloc (.cells (ints [a,b,c]) 3))=w'):=fun V=>kg [a,b,c] (w.heap.size+1) _ (by simp) (by have e:=B.new (w.alloc (.cells #[I op,I a,I b,I c,I m] 99)) (ints [a,b,c]) 3;rw[World.size_alloc] at e;exact e)
 obtain⟨R,hR⟩:=ex (PM.dn [a,b,c])
 rw[<- hR] at HA
 rw[<- hR]
 clear hR
 rcases h with rfl | rfl | rfl | rfl | rfl | rfl
 all_goals
  go_enter Tryz.func145,Tryz.ntmps145
  go_wp2_with fail
  refine(HA.o w).mono ?_
  rintro e w' ⟨rfl,rfl⟩
  go_wp2
  go_ret
  exact⟨by simp,((Below.refl _ _).alloc (Nat.le_refl _) _).alloc (by simp) _⟩
theorem FP (op a b c m:Int) (w:World) (h:op=8∨op=13∨op=14):Calls Tryz.prog 145 #[.agg #[I op,I a,I b,I c,I m]] w fun e w'=>e=.returned (.bool (!PM.dn [a,b]))/\Below w.heap.size w w':=by
 have HA:Hid (∀V:World,Calls Tryz.prog 160 #[.slice (some (Ad (w.heap.size+1) 0)) 2 2] ((w.alloc (.cells #[I op,I a,I b,I c,I m] 99)).alloc (.cells (ints [a,b]) 3)) fun e w'=>e=.returned (.bool (PM.dn [a,b]))/\((w.alloc (.cells #[I op,I a,I b,I c,I m] 99)).alloc (.cells (ints [a,b]) 3))=w'):=fun V=>kg [a,b] (w.heap.size+1) _ (by simp) (by have e:=B.new (w.alloc (.cells #[I op,I a,I b,I c,I m] 99)) (ints [a,b]) 3;rw[World.size_alloc] at e;exact e)
 obtain⟨R,hR⟩:=ex (PM.dn [a,b])
 rw[<- hR] at HA
 rw[<- hR]
 clear hR
 rcases h with rfl | rfl | rfl
 all_goals
  go_enter Tryz.func145,Tryz.ntmps145
  go_wp2_with fail
  refine(HA.o w).mono ?_
  rintro e w' ⟨rfl,rfl⟩
  go_wp2
  go_ret
  exact⟨by simp,((Below.refl _ _).alloc (Nat.le_refl _) _).alloc (by simp) _⟩
theorem Uj (a b c m:Int) (w:World):Calls Tryz.prog 145 #[.agg #[I 9,I a,I b,I c,I m]] w fun e w'=>e=.returned (.bool (!PM.dn [a,b] || !PM.dL c))/\Below w.heap.size w w':=by
 have HA:Hid (∀V:World,Calls Tryz.prog 160 #[.slice (some (Ad (w.heap.size+1) 0)) 2 2] ((w.alloc (.cells #[I 9,I a,I b,I c,I m] 99)).alloc (.cells (ints [a,b]) 3)) fun e w'=>e=.returned (.bool (PM.dn [a,b]))/\((w.alloc (.cells #[I 9,I a,I b,I c,I m] 99)).alloc (.cells (ints [a,b]) 3))=w'):=fun V=>kg [a,b] (w.heap.size+1) _ (by simp) (by have e:=B.new (w.alloc (.cells #[I 9,I a,I b,I c,I m] 99)) (ints [a,b]) 3;rw[World.size_alloc] at e;exact e)
 have HS:=ai (xx c)
 obtain⟨R,hR⟩:=ex (PM.dn [a,b])
 rw[<- hR] at HA
 rw[<- hR]
 obtain⟨S,hS⟩:=ex (PM.dL c)
 rw[<- hS] at HS
 rw[<- hS]
 clear hR hS
 cases R
 · go_enter Tryz.func145,Tryz.ntmps145
   go_wp2_with fail
   refine(HA.o w).mono ?_
   rintro e w' ⟨rfl,rfl⟩
   go_wp2
   go_ret
   exact⟨by simp,((Below.refl _ _).alloc (Nat.le_refl _) _).alloc (by simp) _⟩
 · go_enter Tryz.func145,Tryz.ntmps145
   go_wp2_with fail
   refine(HA.o w).mono ?_
   rintro e w' ⟨rfl,rfl⟩
   go_wp2_with fail
   refine(HS.o _).mono ?_
   rintro e w' ⟨rfl,rfl⟩
   go_wp2
   go_ret
   exact⟨by simp,((Below.refl _ _).alloc (Nat.le_refl _) _).alloc (by simp) _⟩
theorem Qt (a b c m:Int) (w:World):Calls Tryz.prog 145 #[.agg #[I 10,I a,I b,I c,I m]] w fun e w'=>e=.returned (.bool (!PM.dn [a,b] || !PM.dL c))/\Below w.heap.size w w':=by
 have HA:Hid (∀V:World,Calls Tryz.prog 160 #[.slice (some (Ad (w.heap.size+1) 0)) 2 2] ((w.alloc (.cells #[I 10,I a,I b,I c,I m] 99)).alloc (.cells (ints [a,b]) 3)) fun e w'=>e=.returned (.bool (PM.dn [a,b]))/\((w.alloc (.cells #[I 10,I a,I b,I c,I m] 99)).alloc (.cells (ints [a,b]) 3))=w'):=fun V=>kg [a,b] (w.heap.size+1) _ (by simp) (by have e:=B.new (w.alloc (.cells #[I 10,I a,I b,I c,I m] 99)) (ints [a,b]) 3;rw[World.size_alloc] at e;exact e)
 have HS:=ai (xx c)
 obtain⟨R,hR⟩:=ex (PM.dn [a,b])
 rw[<- hR] at HA
 rw[<- hR]
 obtain⟨S,hS⟩:=ex (PM.dL c)
 rw[<- hS] at HS
 rw[<- hS]
 clear hR hS
 cases R
 · go_enter Tryz.func145,Tryz.ntmps145
   go_wp2_with fail
   refine(HA.o w).mono ?_
   rintro e w' ⟨rfl,rfl⟩
   go_wp2
   go_ret
   exact⟨by simp,((Below.refl _ _).alloc (Nat.le_refl _) _).alloc (by simp) _⟩
 · go_enter Tryz.func145,Tryz.ntmps145
   go_wp2_with fail
   refine(HA.o w).mono ?_
   rintro e w' ⟨rfl,rfl⟩
   go_wp2_with fail
   refine(HS.o _).mono ?_
   rintro e w' ⟨rfl,rfl⟩
   go_wp2
   go_ret
   exact⟨by simp,((Below.refl _ _).alloc (Nat.le_refl _) _).alloc (by simp) _⟩
theorem Qs (a b c m:Int) (w:World):Calls Tryz.prog 145 #[.agg #[I 12,I a,I b,I c,I m]] w fun e w'=>e=.returned (.bool false)/\Below w.heap.size w w':=by
 go_enter Tryz.func145,Tryz.ntmps145
 go_wp2
 go_ret
 exact⟨by simp,(Below.refl _ _).alloc (Nat.le_refl _) _⟩
theorem Qr (a b c m:Int) (w:World):Calls Tryz.prog 145 #[.agg #[I 16,I a,I b,I c,I m]] w fun e w'=>e=.returned (.bool (!decide (1<=m/\m<=6)))/\Below w.heap.size w w':=by
 by_cases h1:1<=m
 · by_cases h2:m<=6
   · have HR:=ai (show(!decide (1<=m/\m<=6))=false from by simp[h1,h2])
     rw[HR.o]
     go_enter Tryz.func145,Tryz.ntmps145
     go_wp2
     go_ret
     exact⟨by first | (simp;done) | (simp;omega),(Below.refl _ _).alloc (Nat.le_refl _) _⟩
   · have HR:=ai (show(!decide (1<=m/\m<=6))=true from by simp[h1,h2])
     rw[HR.o]
     go_enter Tryz.func145,Tryz.ntmps145
     go_wp2
     go_ret
     exact⟨by first | (simp;done) | (simp;omega),(Below.refl _ _).alloc (Nat.le_refl _) _⟩
 · have HR:=ai (show(!decide (1<=m/\m<=6))=true from by simp[h1])
   rw[HR.o]
   go_enter Tryz.func145,Tryz.ntmps145
   go_wp2
   go_ret
   exact⟨by simp,(Below.refl _ _).alloc (Nat.le_refl _) _⟩
theorem Ui (op a b c m:Int) (w:World) (h:op<1∨16<op):Calls Tryz.prog 145 #[.agg #[I op,I a,I b,I c,I m]] w fun e w'=>e=.returned (.bool true)/\Below w.heap.size w w':=by
 have n1:¬op=1:=by omega
 have n2:¬op=2:=by omega
 have n3:¬op=3:=by omega
 have n4:¬op=4:=by omega
 have n5:¬op=5:=by omega
 have n6:¬op=6:=by omega
 have n7:¬op=7:=by omega
 have n8:¬op=8:=by omega
 have n9:¬op=9:=by omega
 have n10:¬op=10:=by omega
 have n11:¬op=11:=by omega
 have n12:¬op=12:=by omega
 have n13:¬op=13:=by omega
 have n14:¬op=14:=by omega
 have n15:¬op=15:=by omega
 have n16:¬op=16:=by omega
 clear h
 go_enter Tryz.func145,Tryz.ntmps145
 go_wp2
 go_ret
 exact⟨by simp[n12],(Below.refl _ _).alloc (Nat.le_refl _) _⟩
theorem sI (op:Int):(op<1∨16<op)∨op=1∨op=2∨op=3∨op=4∨op=5∨op=6∨op=7∨op=8∨op=9∨op=10∨op=11∨op=12∨op=13∨op=14∨op=15∨op=16:=by omega
theorem tD (i:PM.ey) (h:i.op<1∨16<i.op):i.bad=true:=by
 unfold PM.ey.bad
 rw[if_neg (by omega),if_neg (by omega),if_neg (by omega),if_neg (by omega),if_neg (by omega),if_neg (by omega)]
theorem zZ (i:PM.ey) (w:World) (hi:i.fits):Calls Tryz.prog 145 #[.agg i.cells] w fun e w'=>e=.returned (.bool i.bad)/\Below w.heap.size w w':=by
 obtain⟨op,a,b,c,m⟩:=i
 obtain⟨-,ha,hb,hc,-⟩:=hi
 have e1:=PM.WT a ha
 have e2:=PM.WS a b ha hb
 have e3:=PM.WN a b c ha hb hc
 rcases sI op with h | h | h | h | h | h | h | h | h | h | h | h | h | h | h | h | h
 · rw[tD _ h];exact Ui op a b c m w h
 · subst h
   have g:=FQ 1 a b c m w (by simp)
   rw[e1] at g
   exact g
 · subst h
   have g:=ud 2 a b c m w (by simp)
   rw[e3] at g
   exact g
 · subst h
   have g:=ud 3 a b c m w (by simp)
   rw[e3] at g
   exact g
 · subst h
   have g:=ud 4 a b c m w (by simp)
   rw[e3] at g
   exact g
 · subst h
   have g:=ud 5 a b c m w (by simp)
   rw[e3] at g
   exact g
 · subst h
   have g:=ud 6 a b c m w (by simp)
   rw[e3] at g
   exact g
 · subst h
   have g:=ud 7 a b c m w (by simp)
   rw[e3] at g
   exact g
 · subst h
   have g:=FP 8 a b c m w (by simp)
   rw[e2] at g
   exact g
 · subst h
   have g:=Uj a b c m w
   rw[e2] at g
   exact g
 · subst h
   have g:=Qt a b c m w
   rw[e2] at g
   exact g
 · subst h
   have g:=FQ 11 a b c m w (by simp)
   rw[e1] at g
   exact g
 · subst h
   have g:=Qs a b c m w
   exact g
 · subst h
   have g:=FP 13 a b c m w (by simp)
   rw[e2] at g
   exact g
 · subst h
   have g:=FP 14 a b c m w (by simp)
   rw[e2] at g
   exact g
 · subst h
   have g:=FQ 15 a b c m w (by simp)
   rw[e1] at g
   exact g
 · subst h
   have g:=Qr a b c m w
   exact g
theorem mX (k:Int) (x y z:Bool) (w:World) (h:(k,x,y,z)∈[(1,true,false,false),(2,true,true,true),(3,true,true,true),(4,true,true,true),(5,true,true,true),(6,true,true,true),(7,true,true,true),(8,true,true,false),(9,true,true,false),(10,true,true,false),(11,true,false,false),(12,false,false,false),(13,true,true,false),(14,true,true,false),(15,true,false,false),(16,false,false,false)]):Calls Tryz.prog 111 #[I k] w fun e w'=>e=.returned (.tuple #[.bool x,.bool y,.bool z])/\w=w':=by
 simp only[List.mem_cons,Prod.mk.injEq,List.not_mem_nil,or_false] at h
 rcases h with⟨rfl,rfl,rfl,rfl⟩ | ⟨rfl,rfl,rfl,rfl⟩ | ⟨rfl,rfl,rfl,rfl⟩ | ⟨rfl,rfl,rfl,rfl⟩ | ⟨rfl,rfl,rfl,rfl⟩ | ⟨rfl,rfl,rfl,rfl⟩ | ⟨rfl,rfl,rfl,rfl⟩ | ⟨rfl,rfl,rfl,rfl⟩ | ⟨rfl,rfl,rfl,rfl⟩ | ⟨rfl,rfl,rfl,rfl⟩ | ⟨rfl,rfl,rfl,rfl⟩ | ⟨rfl,rfl,rfl,rfl⟩ | ⟨rfl,rfl,rfl,rfl⟩ | ⟨rfl,rfl,rfl,rfl⟩ | ⟨rfl,rfl,rfl,rfl⟩ | ⟨rfl,rfl,rfl,rfl⟩ <;> (go_enter Tryz.func111,Tryz.ntmps111;go_wp2;go_ret3;exact⟨rfl,rfl⟩)
theorem Bd (op a b c m:Int) (w:World) (h:op=1∨op=11∨op=15):Calls Tryz.prog 82 #[.agg #[I op,I a,I b,I c,I m]] w fun e w'=>e=.returned (.bool (decide (8<=a)))/\Below w.heap.size w w':=by
 have U:=fun w=>mX op true false false w (by rcases h with rfl | rfl | rfl <;> simp)
 rcases h with rfl | rfl | rfl <;> rcases(show 8<=a∨a<8 by omega) with g | g <;> (obtain⟨r,hr⟩:=ex ((decide (8<=a)));rw[<- hr];have HR:=ai hr;clear hr;go_enter Tryz.func82,Tryz.ntmps82;go_wp2_with (first | (go_at_call 27;(first | refine(jo _ _ _ _ (by omega) (by omega)).mono ?_ | refine(jq _ _ _ _ (by omega)).mono ?_);rintro e w' ⟨rfl,rfl⟩) | (go_at_call 111;refine(U _).mono ?_;rintro e w' ⟨rfl,rfl⟩));go_ret;exact⟨by rw[HR.o];first | rfl | (simp[*,PM.dL];done) | (simp[PM.dL];omega),(Below.refl _ _).alloc (Nat.le_refl _) _⟩)
theorem pY (op a b c m:Int) (w:World) (h:op=2∨op=3∨op=4∨op=5∨op=6∨op=7):Calls Tryz.prog 82 #[.agg #[I op,I a,I b,I c,I m]] w fun e w'=>e=.returned (.bool (decide (8<=a∨8<=b∨8<=c)))/\Below w.heap.size w w':=by
 have U:=fun w=>mX op true true true w (by rcases h with rfl | rfl | rfl | rfl | rfl | rfl <;> simp)
 rcases h with rfl | rfl | rfl | rfl | rfl | rfl <;> rcases(show 8<=a∨(a<8/\8<=b)∨(a<8/\b<8/\8<=c)∨a<8/\b<8/\c<8 by omega) with g | g | g | g <;> (obtain⟨r,hr⟩:=ex ((decide (8<=a∨8<=b∨8<=c)));rw[<- hr];have HR:=ai hr;clear hr;go_enter Tryz.func82,Tryz.ntmps82;go_wp2_with (first | (go_at_call 27;(first | refine(jo _ _ _ _ (by omega) (by omega)).mono ?_ | refine(jq _ _ _ _ (by omega)).mono ?_);rintro e w' ⟨rfl,rfl⟩) | (go_at_call 111;refine(U _).mono ?_;rintro e w' ⟨rfl,rfl⟩));go_ret;exact⟨by rw[HR.o];first | rfl | (simp[*,PM.dL];done) | (simp[PM.dL];omega),(Below.refl _ _).alloc (Nat.le_refl _) _⟩)
theorem Bc (op a b c m:Int) (w:World) (h:op=8∨op=13∨op=14):Calls Tryz.prog 82 #[.agg #[I op,I a,I b,I c,I m]] w fun e w'=>e=.returned (.bool (decide (8<=a∨8<=b)))/\Below w.heap.size w w':=by
 have U:=fun w=>mX op true true false w (by rcases h with rfl | rfl | rfl <;> simp)
 rcases h with rfl | rfl | rfl <;> rcases(show 8<=a∨(a<8/\8<=b)∨a<8/\b<8 by omega) with g | g | g <;> (obtain⟨r,hr⟩:=ex ((decide (8<=a∨8<=b)));rw[<- hr];have HR:=ai hr;clear hr;go_enter Tryz.func82,Tryz.ntmps82;go_wp2_with (first | (go_at_call 27;(first | refine(jo _ _ _ _ (by omega) (by omega)).mono ?_ | refine(jq _ _ _ _ (by omega)).mono ?_);rintro e w' ⟨rfl,rfl⟩) | (go_at_call 111;refine(U _).mono ?_;rintro e w' ⟨rfl,rfl⟩));go_ret;exact⟨by rw[HR.o];first | rfl | (simp[*,PM.dL];done) | (simp[PM.dL];omega),(Below.refl _ _).alloc (Nat.le_refl _) _⟩)
theorem Io (op a b c m:Int) (w:World) (h:op=9∨op=10):Calls Tryz.prog 82 #[.agg #[I op,I a,I b,I c,I m]] w fun e w'=>e=.returned (.bool (decide (8<=a∨8<=b) || !PM.dL c))/\Below w.heap.size w w':=by
 have U:=fun w=>mX op true true false w (by rcases h with rfl | rfl <;> simp)
 obtain⟨r,hr⟩:=ex ((decide (8<=a∨8<=b) || !PM.dL c))
 rw[<- hr]
 have HR:=ai hr
 clear hr
 rcases h with rfl | rfl <;> rcases(show 8<=a∨(a<8/\8<=b)∨(a<8/\b<8/\(c=1∨c=2∨c=4∨c=8))∨a<8/\b<8/\¬c=1/\¬c=2/\¬c=4/\¬c=8 by omega) with g | g | ⟨g,k,rfl | rfl | rfl | rfl⟩ | ⟨g,k,z1,z2,z4,z8⟩ <;> (try (have y1:(c != 1)=true:=(by simpa using z1);have y2:(c != 2)=true:=(by simpa using z2);have y4:(c != 4)=true:=(by simpa using z4);have y8:(c != 8)=true:=(by simpa using z8))) <;> (go_enter Tryz.func82,Tryz.ntmps82;go_wp2_with (first | (go_at_call 27;(first | refine(jo _ _ _ _ (by omega) (by omega)).mono ?_ | refine(jq _ _ _ _ (by omega)).mono ?_);rintro e w' ⟨rfl,rfl⟩) | (go_at_call 111;refine(U _).mono ?_;rintro e w' ⟨rfl,rfl⟩));go_ret;exact⟨by rw[HR.o];first | rfl | (simp[*,PM.dL];done) | (simp[PM.dL];omega),(Below.refl _ _).alloc (Nat.le_refl _) _⟩)
theorem MQ (op a b c m:Int) (w:World) (h:op=12):Calls Tryz.prog 82 #[.agg #[I op,I a,I b,I c,I m]] w fun e w'=>e=.returned (.bool (false))/\Below w.heap.size w w':=by
 have U:=fun w=>mX op false false false w (by rcases h with rfl <;> simp)
 subst h
 go_enter Tryz.func82,Tryz.ntmps82
 go_wp2_with (first | (go_at_call 27;(first | refine(jo _ _ _ _ (by omega) (by omega)).mono ?_ | refine(jq _ _ _ _ (by omega)).mono ?_);rintro e w' ⟨rfl,rfl⟩) | (go_at_call 111;refine(U _).mono ?_;rintro e w' ⟨rfl,rfl⟩))
 go_ret
 exact⟨rfl,(Below.refl _ _).alloc (Nat.le_refl _) _⟩
theorem MP (op a b c m:Int) (w:World) (h:op=16):Calls Tryz.prog 82 #[.agg #[I op,I a,I b,I c,I m]] w fun e w'=>e=.returned (.bool (!decide (1<=m/\m<=6)))/\Below w.heap.size w w':=by
 have U:=fun w=>mX op false false false w (by rcases h with rfl <;> simp)
 rcases h with rfl <;> rcases(show(1<=m/\m<=6)∨m<1∨1<=m/\6<m by omega) with g | g | g <;> (obtain⟨r,hr⟩:=ex ((!decide (1<=m/\m<=6)));rw[<- hr];have HR:=ai hr;clear hr;go_enter Tryz.func82,Tryz.ntmps82;go_wp2_with (first | (go_at_call 27;(first | refine(jo _ _ _ _ (by omega) (by omega)).mono ?_ | refine(jq _ _ _ _ (by omega)).mono ?_);rintro e w' ⟨rfl,rfl⟩) | (go_at_call 111;refine(U _).mono ?_;rintro e w' ⟨rfl,rfl⟩));go_ret;exact⟨by rw[HR.o];first | rfl | (simp[*,PM.dL];done) | (simp[PM.dL];omega),(Below.refl _ _).alloc (Nat.le_refl _) _⟩)
theorem Qq (op a b c m:Int) (w:World) (h:op<1∨16<op):Calls Tryz.prog 82 #[.agg #[I op,I a,I b,I c,I m]] w fun e w'=>e=.returned (.bool true)/\Below w.heap.size w w':=by
 go_enter Tryz.func82,Tryz.ntmps82
 go_wp2_with (go_at_call 27;refine(jq _ _ _ _ (by omega)).mono ?_;rintro e w' ⟨rfl,rfl⟩)
 go_ret
 exact⟨rfl,(Below.refl _ _).alloc (Nat.le_refl _) _⟩
theorem xy (i:PM.ey) (w:World):Calls Tryz.prog 82 #[.agg i.cells] w fun e w'=>e=.returned (.bool i.bad)/\Below w.heap.size w w':=by
 obtain⟨op,a,b,c,m⟩:=i
 rcases sI op with h | h | h | h | h | h | h | h | h | h | h | h | h | h | h | h | h
 · rw[tD _ h];exact Qq op a b c m w h
 · subst h;exact Bd 1 a b c m w (by simp)
 · subst h;exact pY 2 a b c m w (by simp)
 · subst h;exact pY 3 a b c m w (by simp)
 · subst h;exact pY 4 a b c m w (by simp)
 · subst h;exact pY 5 a b c m w (by simp)
 · subst h;exact pY 6 a b c m w (by simp)
 · subst h;exact pY 7 a b c m w (by simp)
 · subst h;exact Bc 8 a b c m w (by simp)
 · subst h;exact Io 9 a b c m w (by simp)
 · subst h;exact Io 10 a b c m w (by simp)
 · subst h;exact Bd 11 a b c m w (by simp)
 · subst h;exact MQ 12 a b c m w (by simp)
 · subst h;exact Bc 13 a b c m w (by simp)
 · subst h;exact Bc 14 a b c m w (by simp)
 · subst h;exact Bd 15 a b c m w (by simp)
 · subst h;exact MP 16 a b c m w (by simp)
def Dj (i:PM.ey):Int:=if i.bad then 4 else if i.op=9 then 1 else if i.op=10 then 2 else if i.op=16 then 3 else 0
theorem FK (i:PM.ey) (w:World) (hi:i.fits):Calls Tryz.prog 125 #[.agg i.cells] w fun e w'=>e=.returned (I (Dj i))/\Below w.heap.size w w':=by
 have HB:=ai (fun V=>zZ i V hi)
 have HK:Hid (Dj i=if i.bad then 4 else if i.op=9 then 1 else if i.op=10 then 2 else if i.op=16 then 3 else 0):=rfl
 obtain⟨op,a,b,c,m⟩:=i
 unfold PM.ey.cells at HB ⊢
 simp only at HB HK ⊢
 obtain⟨K,hK⟩:=ex (Dj ⟨op,a,b,c,m⟩)
 obtain⟨D,hD⟩:=ex (PM.ey.bad ⟨op,a,b,c,m⟩)
 rw[<- hK] at HK ⊢
 rw[<- hD] at HK HB
 clear hK hD hi
 have cM:=ai ((Below.refl w.heap.size w).alloc (Nat.le_refl _) (.cells #[I op,I a,I b,I c,I m] 99))
 have BX:=ai (B.new w #[I op,I a,I b,I c,I m] 99)
 cases D
 · simp only[Bool.false_eq_true,if_false] at HK
   by_cases h1:op=9
   · subst h1
     obtain rfl:K=1:=by rw[HK.o];rfl
     go_enter Tryz.func125,Tryz.ntmps125
     go_wp2_with fail
     refine(HB.o _).mono ?_
     rintro e w1 ⟨rfl,hb1⟩
     have bj:=ai (cM.o.trans (hb1.mono cM.o.size))
     have c0:=B.cell (B.below BX.o hb1 (B.isLt BX.o)) 0 rfl
     clear hb1
     go_wp2
     go_ret
     exact⟨rfl,bj.o⟩
   · by_cases h2:op=10
     · subst h2
       obtain rfl:K=2:=by rw[HK.o];rfl
       go_enter Tryz.func125,Tryz.ntmps125
       go_wp2_with fail
       refine(HB.o _).mono ?_
       rintro e w1 ⟨rfl,hb1⟩
       have bj:=ai (cM.o.trans (hb1.mono cM.o.size))
       have c0:=B.cell (B.below BX.o hb1 (B.isLt BX.o)) 0 rfl
       clear hb1
       go_wp2
       go_ret
       exact⟨rfl,bj.o⟩
     · by_cases h3:op=16
       · subst h3
         obtain rfl:K=3:=by rw[HK.o];rfl
         go_enter Tryz.func125,Tryz.ntmps125
         go_wp2_with fail
         refine(HB.o _).mono ?_
         rintro e w1 ⟨rfl,hb1⟩
         have bj:=ai (cM.o.trans (hb1.mono cM.o.size))
         have c0:=B.cell (B.below BX.o hb1 (B.isLt BX.o)) 0 rfl
         clear hb1
         go_wp2
         go_ret
         exact⟨rfl,bj.o⟩
       · obtain rfl:K=0:=by rw[HK.o,if_neg h1,if_neg h2,if_neg h3]
         go_enter Tryz.func125,Tryz.ntmps125
         go_wp2_with fail
         refine(HB.o _).mono ?_
         rintro e w1 ⟨rfl,hb1⟩
         have bj:=ai (cM.o.trans (hb1.mono cM.o.size))
         have c0:=B.cell (B.below BX.o hb1 (B.isLt BX.o)) 0 rfl
         clear hb1
         go_wp2
         go_ret
         exact⟨rfl,bj.o⟩
 · simp only[if_true] at HK
   obtain rfl:K=4:=HK.o
   go_enter Tryz.func125,Tryz.ntmps125
   go_wp2_with fail
   refine(HB.o _).mono ?_
   rintro e w1 ⟨rfl,hb1⟩
   have bj:=ai (cM.o.trans (hb1.mono cM.o.size))
   clear hb1
   go_wp2
   go_ret
   exact⟨rfl,bj.o⟩
theorem bU {x:Int} (h:PM.Cs x) (h8:¬8<=x):∃n:Nat,x=(n:Int)/\n<8:=by
 obtain⟨h0,-⟩:=h
 exact⟨x.toNat,by omega,by omega⟩
theorem cN {N g:Nat} {w W:World} (h:Below N w W) (hg:N<=g) (v0 v1 v2 v3 v4:Value):Below N w (((((W.setCell (Ad g 0) v0).setCell (Ad g 1) v1).setCell (Ad g 2) v2).setCell (Ad g 3) v3).setCell (Ad g 4) v4) :=
 ((((h.setCell (p:=(Ad g 0)) hg v0).setCell (p:=(Ad g 1)) hg v1).setCell (p:=(Ad g 2)) hg v2).setCell (p:=(Ad g 3)) hg v3).setCell (p:=(Ad g 4)) hg v4
theorem H6 (op a b c m:Int) (hi:PM.ey.fits ⟨op,a,b,c,m⟩) (h:op=9∨op=10) (hd:PM.ey.bad ⟨op,a,b,c,m⟩=false):∃na nb:Nat,a=(na:Int)/\b=(nb:Int)/\na<8/\nb<8:=by
 obtain⟨-,ha,hb,-⟩:=hi
 have e:(decide (8<=a∨8<=b) || !(PM.dL c))=false:=by
  rcases h with h | h <;> subst h <;> exact hd
 simp only[Bool.or_eq_false_iff,decide_eq_false_iff_not] at e
 obtain⟨na,h1,h2⟩:=bU ha (fun h=>e.1 (.inl h))
 obtain⟨nb,h3,h4⟩:=bU hb (fun h=>e.1 (.inr h))
 exact⟨na,nb,h1,h3,h2,h4⟩
theorem Rq (p:PM.Pr) (s:ByteArray) (w:World) (h:s.size=8):Calls Tryz.prog 108 #[p.val,.string s] w fun e w'=>e=.returned (.tuple #[.agg (PM.j6 p (PM.ins s)),I 0])/\Below w.heap.size w w':=by
 have HD:=ai (fun V=>xW s V h)
 have hfit:=PM.pj s h
 obtain⟨i,hi⟩:=ex (PM.ins s)
 rw[<- hi] at HD hfit ⊢
 have HK:=ai (fun V=>FK i V hfit)
 clear hi h
 obtain⟨op,a,b,c,m⟩:=i
 have kW:Hid (PM.j6 p ⟨op,a,b,c,m⟩=if PM.ey.bad ⟨op,a,b,c,m⟩ then #[I 4,I 0,I 0,I 0,I 0] else if op=9 then #[I 1,I (wrap64 (p.r b.toNat+m)),I c,I 0,I 0] else if op=10 then #[I 2,I (wrap64 (p.r b.toNat+m)),I c,I (p.r a.toNat),I 0] else if op=16 then #[I 3,I 0,I 0,I 0,I m] else #[I 0,I 0,I 0,I 0,I 0]):=rfl
 have G9:=ai (H6 op a b c m hfit)
 have Cy:Hid (Dj ⟨op,a,b,c,m⟩=if PM.ey.bad ⟨op,a,b,c,m⟩ then 4 else if op=9 then 1 else if op=10 then 2 else if op=16 then 3 else 0):=rfl
 obtain⟨K,hK⟩:=ex (Dj ⟨op,a,b,c,m⟩)
 obtain⟨D,hD⟩:=ex (PM.ey.bad ⟨op,a,b,c,m⟩)
 obtain⟨Q,hQ⟩:=ex (PM.j6 p ⟨op,a,b,c,m⟩)
 rw[<- hQ] at kW ⊢
 rw[<- hK] at Cy HK
 rw[<- hD] at Cy kW G9
 clear hK hD hQ hfit
 unfold PM.ey.cells at HD HK
 simp only at HD HK
 have cM:=ai (((Below.refl w.heap.size w).alloc (Nat.le_refl _) (.cells p.row 70)).alloc (by simp) (.cells #[I 0,I 0,I 0,I 0,I 0] 101))
 have BP:=ai (B.alloc (B.new w p.row 70) (.cells #[I 0,I 0,I 0,I 0,I 0] 101))
 have BR:=ai (B.new (w.alloc (.cells p.row 70)) #[I 0,I 0,I 0,I 0,I 0] 101)
 rw[World.size_alloc] at BR
 unfold PM.Pr.val
 cases D
 · simp only[Bool.false_eq_true,if_false] at Cy kW
   by_cases h1:op=9
   · obtain⟨na,nb,rfl,rfl,eF,hnb⟩:=G9.o (.inl h1) rfl
     subst h1
     obtain rfl:K=1:=Cy.o
     obtain rfl:=kW.o
     clear G9 Cy kW
     rw[Int.toNat_natCast]
     go_enter Tryz.func108,Tryz.ntmps108
     go_wp2_with fail
     refine(HD.o _).mono ?_
     rintro e w1 ⟨rfl,hb1⟩
     have bj:=ai (cM.o.trans (hb1.mono cM.o.size))
     have vS:=ai (B.below BP.o hb1 (B.isLt BP.o))
     have iU:=ai (B.below BR.o hb1 (B.isLt BR.o))
     have tI:=ai ((Below.refl w1.heap.size w1).alloc (Nat.le_refl _) (.cells #[I 9,I na,I nb,I c,I m] 99))
     have og:=ai (B.new w1 #[I 9,I na,I nb,I c,I m] 99)
     clear hb1
     go_wp2_with fail
     refine(HK.o _).mono ?_
     rintro e w2 ⟨rfl,hb2⟩
     have bW:=ai (bj.o.trans ((tI.o.trans (hb2.mono tI.o.size)).mono bj.o.size))
     have vq:=ai (B.below (B.alloc vS.o _) hb2 (B.isLt (B.alloc vS.o _)))
     have oJ:=ai (B.below (B.alloc iU.o _) hb2 (B.isLt (B.alloc iU.o _)))
     have zA:=ai (B.below og.o hb2 (B.isLt og.o))
     have Z8:=bW.o.size
     have l0:=B.isLt vq.o
     have l1:=B.isLt oJ.o
     have l2:=B.isLt zA.o
     have ne1:¬w1.heap.size=w.heap.size+1:=fun h=>by have:=B.isLt iU.o;omega
     clear hb2 tI og
     obtain⟨t0,t1,t2,t3,t4⟩:=B.c5 oJ.o
     have u0:∀j,w2.frozen? (Ad (w.heap.size+1) j)=false:=fun j=>B.free oJ.o j
     have cb:w2.cell? (Ad w.heap.size nb)=some (I (p.r nb)):=B.cell vq.o nb (PM.jL p nb hnb)
     have i2:w2.cell? (Ad w1.heap.size 2)=some (I nb):=B.cell zA.o 2 rfl
     have i3:w2.cell? (Ad w1.heap.size 3)=some (I c):=B.cell zA.o 3 rfl
     have i4:w2.cell? (Ad w1.heap.size 4)=some (I m):=B.cell zA.o 4 rfl
     go_wp2_with fail
     go_region
     go_wp2
     refine bodyPost_ret (v:=.tuple #[.agg #[I 1,I (wrap64 (p.r nb+m)),I c,I 0,I 0],I 0]) (by simp[results,Tryz.results108,go_sem,t0,t1,t2,t3,t4,l1]) rfl ?_
     exact⟨rfl,(by first | exact(cN bW.o (Nat.le_succ _) _ _ _ _ _).alloc (by simp;omega) _ | exact((cN bW.o (Nat.le_succ _) _ _ _ _ _).alloc (by simp;omega) _).drew)⟩
   · by_cases h2:op=10
     · obtain⟨na,nb,rfl,rfl,eF,hnb⟩:=G9.o (.inr h2) rfl
       subst h2
       obtain rfl:K=2:=Cy.o
       obtain rfl:=kW.o
       clear G9 Cy kW h1
       rw[if_neg (by decide),if_pos rfl,Int.toNat_natCast,Int.toNat_natCast]
       go_enter Tryz.func108,Tryz.ntmps108
       go_wp2_with fail
       refine(HD.o _).mono ?_
       rintro e w1 ⟨rfl,hb1⟩
       have bj:=ai (cM.o.trans (hb1.mono cM.o.size))
       have vS:=ai (B.below BP.o hb1 (B.isLt BP.o))
       have iU:=ai (B.below BR.o hb1 (B.isLt BR.o))
       have tI:=ai ((Below.refl w1.heap.size w1).alloc (Nat.le_refl _) (.cells #[I 10,I na,I nb,I c,I m] 99))
       have og:=ai (B.new w1 #[I 10,I na,I nb,I c,I m] 99)
       clear hb1
       go_wp2_with fail
       refine(HK.o _).mono ?_
       rintro e w2 ⟨rfl,hb2⟩
       have bW:=ai (bj.o.trans ((tI.o.trans (hb2.mono tI.o.size)).mono bj.o.size))
       have vq:=ai (B.below (B.alloc vS.o _) hb2 (B.isLt (B.alloc vS.o _)))
       have oJ:=ai (B.below (B.alloc iU.o _) hb2 (B.isLt (B.alloc iU.o _)))
       have zA:=ai (B.below og.o hb2 (B.isLt og.o))
       have Z8:=bW.o.size
       have l0:=B.isLt vq.o
       have l1:=B.isLt oJ.o
       have l2:=B.isLt zA.o
       have ne1:¬w1.heap.size=w.heap.size+1:=fun h=>by have:=B.isLt iU.o;omega
       clear hb2 tI og
       obtain⟨t0,t1,t2,t3,t4⟩:=B.c5 oJ.o
       have u0:∀j,w2.frozen? (Ad (w.heap.size+1) j)=false:=fun j=>B.free oJ.o j
       have ca:w2.cell? (Ad w.heap.size na)=some (I (p.r na)):=B.cell vq.o na (PM.jL p na eF)
       have i1:w2.cell? (Ad w1.heap.size 1)=some (I na):=B.cell zA.o 1 rfl
       have cb:w2.cell? (Ad w.heap.size nb)=some (I (p.r nb)):=B.cell vq.o nb (PM.jL p nb hnb)
       have i2:w2.cell? (Ad w1.heap.size 2)=some (I nb):=B.cell zA.o 2 rfl
       have i3:w2.cell? (Ad w1.heap.size 3)=some (I c):=B.cell zA.o 3 rfl
       have i4:w2.cell? (Ad w1.heap.size 4)=some (I m):=B.cell zA.o 4 rfl
       go_wp2_with fail
       go_region
       go_wp2
       refine bodyPost_ret (v:=.tuple #[.agg #[I 2,I (wrap64 (p.r nb+m)),I c,I (p.r na),I 0],I 0]) (by simp[results,Tryz.results108,go_sem,t0,t1,t2,t3,t4,l1]) rfl ?_
       exact⟨rfl,(by first | exact(cN bW.o (Nat.le_succ _) _ _ _ _ _).alloc (by simp;omega) _ | exact((cN bW.o (Nat.le_succ _) _ _ _ _ _).alloc (by simp;omega) _).drew)⟩
     · by_cases h3:op=16
       · subst h3
         obtain rfl:K=3:=Cy.o
         obtain rfl:=kW.o
         clear G9 Cy kW h1 h2
         rw[if_neg (by decide),if_neg (by decide),if_pos rfl]
         go_enter Tryz.func108,Tryz.ntmps108
         go_wp2_with fail
         refine(HD.o _).mono ?_
         rintro e w1 ⟨rfl,hb1⟩
         have bj:=ai (cM.o.trans (hb1.mono cM.o.size))
         have vS:=ai (B.below BP.o hb1 (B.isLt BP.o))
         have iU:=ai (B.below BR.o hb1 (B.isLt BR.o))
         have tI:=ai ((Below.refl w1.heap.size w1).alloc (Nat.le_refl _) (.cells #[I 16,I a,I b,I c,I m] 99))
         have og:=ai (B.new w1 #[I 16,I a,I b,I c,I m] 99)
         clear hb1
         go_wp2_with fail
         refine(HK.o _).mono ?_
         rintro e w2 ⟨rfl,hb2⟩
         have bW:=ai (bj.o.trans ((tI.o.trans (hb2.mono tI.o.size)).mono bj.o.size))
         have vq:=ai (B.below (B.alloc vS.o _) hb2 (B.isLt (B.alloc vS.o _)))
         have oJ:=ai (B.below (B.alloc iU.o _) hb2 (B.isLt (B.alloc iU.o _)))
         have zA:=ai (B.below og.o hb2 (B.isLt og.o))
         have Z8:=bW.o.size
         have l0:=B.isLt vq.o
         have l1:=B.isLt oJ.o
         have l2:=B.isLt zA.o
         have ne1:¬w1.heap.size=w.heap.size+1:=fun h=>by have:=B.isLt iU.o;omega
         clear hb2 tI og
         obtain⟨t0,t1,t2,t3,t4⟩:=B.c5 oJ.o
         have u0:∀j,w2.frozen? (Ad (w.heap.size+1) j)=false:=fun j=>B.free oJ.o j
         have i4:w2.cell? (Ad w1.heap.size 4)=some (I m):=B.cell zA.o 4 rfl
         go_wp2
         refine bodyPost_ret (v:=.tuple #[.agg #[I 3,I 0,I 0,I 0,I m],I 0]) (by simp[results,Tryz.results108,go_sem,t0,t1,t2,t3,t4,l1]) rfl ?_
         exact⟨rfl,(by first | exact(cN bW.o (Nat.le_succ _) _ _ _ _ _).alloc (by simp;omega) _ | exact((cN bW.o (Nat.le_succ _) _ _ _ _ _).alloc (by simp;omega) _).drew)⟩
       · obtain rfl:K=0:=by rw[Cy.o,if_neg h1,if_neg h2,if_neg h3]
         obtain rfl:Q=#[I 0,I 0,I 0,I 0,I 0]:=by rw[kW.o,if_neg h1,if_neg h2,if_neg h3]
         clear G9 Cy kW h1 h2 h3
         go_enter Tryz.func108,Tryz.ntmps108
         go_wp2_with fail
         refine(HD.o _).mono ?_
         rintro e w1 ⟨rfl,hb1⟩
         have bj:=ai (cM.o.trans (hb1.mono cM.o.size))
         have vS:=ai (B.below BP.o hb1 (B.isLt BP.o))
         have iU:=ai (B.below BR.o hb1 (B.isLt BR.o))
         have tI:=ai ((Below.refl w1.heap.size w1).alloc (Nat.le_refl _) (.cells #[I op,I a,I b,I c,I m] 99))
         have og:=ai (B.new w1 #[I op,I a,I b,I c,I m] 99)
         clear hb1
         go_wp2_with fail
         refine(HK.o _).mono ?_
         rintro e w2 ⟨rfl,hb2⟩
         have bW:=ai (bj.o.trans ((tI.o.trans (hb2.mono tI.o.size)).mono bj.o.size))
         have vq:=ai (B.below (B.alloc vS.o _) hb2 (B.isLt (B.alloc vS.o _)))
         have oJ:=ai (B.below (B.alloc iU.o _) hb2 (B.isLt (B.alloc iU.o _)))
         have zA:=ai (B.below og.o hb2 (B.isLt og.o))
         have Z8:=bW.o.size
         have l0:=B.isLt vq.o
         have l1:=B.isLt oJ.o
         have l2:=B.isLt zA.o
         have ne1:¬w1.heap.size=w.heap.size+1:=fun h=>by have:=B.isLt iU.o;omega
         clear hb2 tI og
         obtain⟨t0,t1,t2,t3,t4⟩:=B.c5 oJ.o
         have u0:∀j,w2.frozen? (Ad (w.heap.size+1) j)=false:=fun j=>B.free oJ.o j
         go_wp2
         refine bodyPost_ret (v:=.tuple #[.agg #[I 0,I 0,I 0,I 0,I 0],I 0]) (by simp[results,Tryz.results108,go_sem,t0,t1,t2,t3,t4,l1]) rfl ?_
         exact⟨rfl,(by first | exact(cN bW.o (Nat.le_succ _) _ _ _ _ _).alloc (by simp;omega) _ | exact((cN bW.o (Nat.le_succ _) _ _ _ _ _).alloc (by simp;omega) _).drew)⟩
 · simp only[if_true] at Cy kW
   obtain rfl:K=4:=Cy.o
   obtain rfl:=kW.o
   clear G9 Cy kW
   go_enter Tryz.func108,Tryz.ntmps108
   go_wp2_with fail
   refine(HD.o _).mono ?_
   rintro e w1 ⟨rfl,hb1⟩
   have bj:=ai (cM.o.trans (hb1.mono cM.o.size))
   have vS:=ai (B.below BP.o hb1 (B.isLt BP.o))
   have iU:=ai (B.below BR.o hb1 (B.isLt BR.o))
   have tI:=ai ((Below.refl w1.heap.size w1).alloc (Nat.le_refl _) (.cells #[I op,I a,I b,I c,I m] 99))
   have og:=ai (B.new w1 #[I op,I a,I b,I c,I m] 99)
   clear hb1
   go_wp2_with fail
   refine(HK.o _).mono ?_
   rintro e w2 ⟨rfl,hb2⟩
   have bW:=ai (bj.o.trans ((tI.o.trans (hb2.mono tI.o.size)).mono bj.o.size))
   have vq:=ai (B.below (B.alloc vS.o _) hb2 (B.isLt (B.alloc vS.o _)))
   have oJ:=ai (B.below (B.alloc iU.o _) hb2 (B.isLt (B.alloc iU.o _)))
   have zA:=ai (B.below og.o hb2 (B.isLt og.o))
   have Z8:=bW.o.size
   have l0:=B.isLt vq.o
   have l1:=B.isLt oJ.o
   have l2:=B.isLt zA.o
   have ne1:¬w1.heap.size=w.heap.size+1:=fun h=>by have:=B.isLt iU.o;omega
   clear hb2 tI og
   obtain⟨t0,t1,t2,t3,t4⟩:=B.c5 oJ.o
   have u0:∀j,w2.frozen? (Ad (w.heap.size+1) j)=false:=fun j=>B.free oJ.o j
   go_wp2
   refine bodyPost_ret (v:=.tuple #[.agg #[I 4,I 0,I 0,I 0,I 0],I 0]) (by simp[results,Tryz.results108,go_sem,t0,t1,t2,t3,t4,l1]) rfl ?_
   exact⟨rfl,(by first | exact(cN bW.o (Nat.le_succ _) _ _ _ _ _).alloc (by simp;omega) _ | exact((cN bW.o (Nat.le_succ _) _ _ _ _ _).alloc (by simp;omega) _).drew)⟩
theorem Oj (p:PM.Pr) (i:PM.ey) (w:World) (hfit:i.fits) (hbad:i.bad=false):Calls Tryz.prog 51 #[p.val,.agg i.cells] w fun e w'=>e=.returned (.agg (PM.j6 p i))/\Below w.heap.size w w':=by
 have HD:=ai (xy i)
 rw[hbad] at HD
 obtain⟨op,a,b,c,m⟩:=i
 have G9:=ai (fun h=>H6 op a b c m hfit h hbad)
 have kW:Hid (PM.j6 p ⟨op,a,b,c,m⟩=if op=9 then #[I 1,I (wrap64 (p.r b.toNat+m)),I c,I 0,I 0] else if op=10 then #[I 2,I (wrap64 (p.r b.toNat+m)),I c,I (p.r a.toNat),I 0] else if op=16 then #[I 3,I 0,I 0,I 0,I m] else #[I 0,I 0,I 0,I 0,I 0]):=ai (by unfold PM.j6;rw[hbad];rfl)
 obtain⟨Q,hQ⟩:=ex (PM.j6 p ⟨op,a,b,c,m⟩)
 rw[<- hQ] at kW ⊢
 clear hQ hfit hbad
 unfold PM.ey.cells at HD ⊢
 simp only at HD ⊢
 unfold PM.Pr.val
 by_cases h1:op=9
 · obtain⟨na,nb,rfl,rfl,eF,hnb⟩:=G9.o (.inl h1)
   subst h1
   obtain rfl:=kW.o
   clear G9 kW
   rw[if_pos rfl,Int.toNat_natCast]
   have cM:=ai ((((Below.refl w.heap.size w).alloc (Nat.le_refl _) (.cells p.row 70)).alloc (by simp) (.cells #[I 9,I na,I nb,I c,I m] 99)).alloc (by simp;omega) (.cells #[I 0,I 0,I 0,I 0,I 0] 101))
   have BP:=ai (B.alloc (B.alloc (B.new w p.row 70) (.cells #[I 9,I na,I nb,I c,I m] 99)) (.cells #[I 0,I 0,I 0,I 0,I 0] 101))
   have BI:=ai (B.alloc (B.new (w.alloc (.cells p.row 70)) #[I 9,I na,I nb,I c,I m] 99) (.cells #[I 0,I 0,I 0,I 0,I 0] 101))
   have BR:=ai (B.new ((w.alloc (.cells p.row 70)).alloc (.cells #[I 9,I na,I nb,I c,I m] 99)) #[I 0,I 0,I 0,I 0,I 0] 101)
   rw[World.size_alloc] at BI
   rw[World.size_alloc,World.size_alloc] at BR
   go_enter Tryz.func51,Tryz.ntmps51
   go_wp2_with fail
   refine(HD.o _).mono ?_
   rintro e w1 ⟨rfl,hb1⟩
   have bj:=ai (cM.o.trans (hb1.mono cM.o.size))
   have vS:=ai (B.below BP.o hb1 (B.isLt BP.o))
   have og:=ai (B.below BI.o hb1 (B.isLt BI.o))
   have iU:=ai (B.below BR.o hb1 (B.isLt BR.o))
   clear hb1 cM BP BI BR HD
   have Z9:=bj.o.size
   have l1:=B.isLt iU.o
   have i0:w1.cell? (Ad (w.heap.size+1) 0)=some (I 9):=B.cell og.o 0 rfl
   obtain⟨t0,t1,t2,t3,t4⟩:=B.c5 iU.o
   have u0:∀j,w1.frozen? (Ad (w.heap.size+1+1) j)=false:=fun j=>B.free iU.o j
   have cb:w1.cell? (Ad w.heap.size nb)=some (I (p.r nb)):=B.cell vS.o nb (PM.jL p nb hnb)
   have i2:w1.cell? (Ad (w.heap.size+1) 2)=some (I nb):=B.cell og.o 2 rfl
   have i3:w1.cell? (Ad (w.heap.size+1) 3)=some (I c):=B.cell og.o 3 rfl
   have i4:w1.cell? (Ad (w.heap.size+1) 4)=some (I m):=B.cell og.o 4 rfl
   go_wp2_with fail
   go_region
   go_wp2
   refine bodyPost_ret (v:=.agg #[I 1,I (wrap64 (p.r nb+m)),I c,I 0,I 0]) (by simp[results,Tryz.results51,go_sem,t0,t1,t2,t3,t4]) rfl ?_
   exact⟨rfl,(by first | exact cN bj.o (by omega) _ _ _ _ _ | exact(cN bj.o (by omega) _ _ _ _ _).drew)⟩
 · by_cases h2:op=10
   · obtain⟨na,nb,rfl,rfl,eF,hnb⟩:=G9.o (.inr h2)
     subst h2
     obtain rfl:=kW.o
     clear G9 kW h1
     rw[if_neg (by decide),if_pos rfl,Int.toNat_natCast,Int.toNat_natCast]
     have cM:=ai ((((Below.refl w.heap.size w).alloc (Nat.le_refl _) (.cells p.row 70)).alloc (by simp) (.cells #[I 10,I na,I nb,I c,I m] 99)).alloc (by simp;omega) (.cells #[I 0,I 0,I 0,I 0,I 0] 101))
     have BP:=ai (B.alloc (B.alloc (B.new w p.row 70) (.cells #[I 10,I na,I nb,I c,I m] 99)) (.cells #[I 0,I 0,I 0,I 0,I 0] 101))
     have BI:=ai (B.alloc (B.new (w.alloc (.cells p.row 70)) #[I 10,I na,I nb,I c,I m] 99) (.cells #[I 0,I 0,I 0,I 0,I 0] 101))
     have BR:=ai (B.new ((w.alloc (.cells p.row 70)).alloc (.cells #[I 10,I na,I nb,I c,I m] 99)) #[I 0,I 0,I 0,I 0,I 0] 101)
     rw[World.size_alloc] at BI
     rw[World.size_alloc,World.size_alloc] at BR
     go_enter Tryz.func51,Tryz.ntmps51
     go_wp2_with fail
     refine(HD.o _).mono ?_
     rintro e w1 ⟨rfl,hb1⟩
     have bj:=ai (cM.o.trans (hb1.mono cM.o.size))
     have vS:=ai (B.below BP.o hb1 (B.isLt BP.o))
     have og:=ai (B.below BI.o hb1 (B.isLt BI.o))
     have iU:=ai (B.below BR.o hb1 (B.isLt BR.o))
     clear hb1 cM BP BI BR HD
     have Z9:=bj.o.size
     have l1:=B.isLt iU.o
     have i0:w1.cell? (Ad (w.heap.size+1) 0)=some (I 10):=B.cell og.o 0 rfl
     obtain⟨t0,t1,t2,t3,t4⟩:=B.c5 iU.o
     have u0:∀j,w1.frozen? (Ad (w.heap.size+1+1) j)=false:=fun j=>B.free iU.o j
     have ca:w1.cell? (Ad w.heap.size na)=some (I (p.r na)):=B.cell vS.o na (PM.jL p na eF)
     have i1:w1.cell? (Ad (w.heap.size+1) 1)=some (I na):=B.cell og.o 1 rfl
     have cb:w1.cell? (Ad w.heap.size nb)=some (I (p.r nb)):=B.cell vS.o nb (PM.jL p nb hnb)
     have i2:w1.cell? (Ad (w.heap.size+1) 2)=some (I nb):=B.cell og.o 2 rfl
     have i3:w1.cell? (Ad (w.heap.size+1) 3)=some (I c):=B.cell og.o 3 rfl
     have i4:w1.cell? (Ad (w.heap.size+1) 4)=some (I m):=B.cell og.o 4 rfl
     go_wp2_with fail
     go_region
     go_wp2
     refine bodyPost_ret (v:=.agg #[I 2,I (wrap64 (p.r nb+m)),I c,I (p.r na),I 0]) (by simp[results,Tryz.results51,go_sem,t0,t1,t2,t3,t4]) rfl ?_
     exact⟨rfl,(by first | exact cN bj.o (by omega) _ _ _ _ _ | exact(cN bj.o (by omega) _ _ _ _ _).drew)⟩
   · by_cases h3:op=16
     · subst h3
       obtain rfl:=kW.o
       clear G9 kW h1 h2
       rw[if_neg (by decide),if_neg (by decide),if_pos rfl]
       have cM:=ai ((((Below.refl w.heap.size w).alloc (Nat.le_refl _) (.cells p.row 70)).alloc (by simp) (.cells #[I 16,I a,I b,I c,I m] 99)).alloc (by simp;omega) (.cells #[I 0,I 0,I 0,I 0,I 0] 101))
       have BP:=ai (B.alloc (B.alloc (B.new w p.row 70) (.cells #[I 16,I a,I b,I c,I m] 99)) (.cells #[I 0,I 0,I 0,I 0,I 0] 101))
       have BI:=ai (B.alloc (B.new (w.alloc (.cells p.row 70)) #[I 16,I a,I b,I c,I m] 99) (.cells #[I 0,I 0,I 0,I 0,I 0] 101))
       have BR:=ai (B.new ((w.alloc (.cells p.row 70)).alloc (.cells #[I 16,I a,I b,I c,I m] 99)) #[I 0,I 0,I 0,I 0,I 0] 101)
       rw[World.size_alloc] at BI
       rw[World.size_alloc,World.size_alloc] at BR
       go_enter Tryz.func51,Tryz.ntmps51
       go_wp2_with fail
       refine(HD.o _).mono ?_
       rintro e w1 ⟨rfl,hb1⟩
       have bj:=ai (cM.o.trans (hb1.mono cM.o.size))
       have vS:=ai (B.below BP.o hb1 (B.isLt BP.o))
       have og:=ai (B.below BI.o hb1 (B.isLt BI.o))
       have iU:=ai (B.below BR.o hb1 (B.isLt BR.o))
       clear hb1 cM BP BI BR HD
       have Z9:=bj.o.size
       have l1:=B.isLt iU.o
       have i0:w1.cell? (Ad (w.heap.size+1) 0)=some (I 16):=B.cell og.o 0 rfl
       obtain⟨t0,t1,t2,t3,t4⟩:=B.c5 iU.o
       have u0:∀j,w1.frozen? (Ad (w.heap.size+1+1) j)=false:=fun j=>B.free iU.o j
       have i4:w1.cell? (Ad (w.heap.size+1) 4)=some (I m):=B.cell og.o 4 rfl
       go_wp2
       refine bodyPost_ret (v:=.agg #[I 3,I 0,I 0,I 0,I m]) (by simp[results,Tryz.results51,go_sem,t0,t1,t2,t3,t4]) rfl ?_
       exact⟨rfl,(by first | exact cN bj.o (by omega) _ _ _ _ _ | exact(cN bj.o (by omega) _ _ _ _ _).drew)⟩
     · obtain rfl:Q=#[I 0,I 0,I 0,I 0,I 0]:=by rw[kW.o,if_neg h1,if_neg h2,if_neg h3]
       clear G9 kW
       have cM:=ai ((((Below.refl w.heap.size w).alloc (Nat.le_refl _) (.cells p.row 70)).alloc (by simp) (.cells #[I op,I a,I b,I c,I m] 99)).alloc (by simp;omega) (.cells #[I 0,I 0,I 0,I 0,I 0] 101))
       have BP:=ai (B.alloc (B.alloc (B.new w p.row 70) (.cells #[I op,I a,I b,I c,I m] 99)) (.cells #[I 0,I 0,I 0,I 0,I 0] 101))
       have BI:=ai (B.alloc (B.new (w.alloc (.cells p.row 70)) #[I op,I a,I b,I c,I m] 99) (.cells #[I 0,I 0,I 0,I 0,I 0] 101))
       have BR:=ai (B.new ((w.alloc (.cells p.row 70)).alloc (.cells #[I op,I a,I b,I c,I m] 99)) #[I 0,I 0,I 0,I 0,I 0] 101)
       rw[World.size_alloc] at BI
       rw[World.size_alloc,World.size_alloc] at BR
       go_enter Tryz.func51,Tryz.ntmps51
       go_wp2_with fail
       refine(HD.o _).mono ?_
       rintro e w1 ⟨rfl,hb1⟩
       have bj:=ai (cM.o.trans (hb1.mono cM.o.size))
       have vS:=ai (B.below BP.o hb1 (B.isLt BP.o))
       have og:=ai (B.below BI.o hb1 (B.isLt BI.o))
       have iU:=ai (B.below BR.o hb1 (B.isLt BR.o))
       clear hb1 cM BP BI BR HD
       have Z9:=bj.o.size
       have l1:=B.isLt iU.o
       have i0:w1.cell? (Ad (w.heap.size+1) 0)=some (I op):=B.cell og.o 0 rfl
       obtain⟨t0,t1,t2,t3,t4⟩:=B.c5 iU.o
       have u0:∀j,w1.frozen? (Ad (w.heap.size+1+1) j)=false:=fun j=>B.free iU.o j
       go_wp2
       refine bodyPost_ret (v:=.agg #[I 0,I 0,I 0,I 0,I 0]) (by simp[results,Tryz.results51,go_sem,t0,t1,t2,t3,t4]) rfl ?_
       exact⟨rfl,(by first | exact cN bj.o (by omega) _ _ _ _ _ | exact(cN bj.o (by omega) _ _ _ _ _).drew)⟩
end PW
end Go.Proofs.YtkdigjpejnebkaaGreat
