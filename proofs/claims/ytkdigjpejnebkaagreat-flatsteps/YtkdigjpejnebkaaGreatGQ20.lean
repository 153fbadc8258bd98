import Derived.Test.YtkdigjpejnebkaaGreatGQ00
import Derived.Test.YtkdigjpejnebkaaGreatGQ19
import Derived.Test.YtkdigjpejnebkaaGreatGQ02
set_option maxHeartbeats 20000000
set_option linter.unusedVariables false
set_option maxRecDepth 100000
set_option linter.unusedSimpArgs false
namespace Go.Proofs.YtkdigjpejnebkaaGreat
namespace PW
open Go.RowKit
def ints (l:List Int):Array Value:=(l.map fun x=>I x).toArray
theorem MO (l:List Int) (k:Nat) (h:k<l.length):(ints l)[k]?=some (I (l.getD k 0)):=by
 simp[ints,h]
theorem ko (l:List Int) (b:Nat) (w:World) (hl:l.length<=4) (hx:w.heap[b]?=some (.cells (ints l) 3 (0,0))) :
  Calls Tryz.prog 160 #[.slice (some (Ad b 0)) l.length l.length] w fun e w'=>e=.returned (.bool (PM.dn l))/\w=w':=by
 have HX:=ai hx
 have HN:=ai (PM.G8 l)
 have HY:=ai (PM.Eh l)
 obtain⟨R,hR⟩:=ex (PM.dn l)
 rw[<- hR] at HN HY
 rw[<- hR]
 clear hR hx
 go_enter Tryz.func160,Tryz.ntmps160
 go_wp2
 go_loop [7] (fun i=>∃k:Nat,k<=l.length/\i=I k/\∀j,j<k->0<=l.getD j 0/\l.getD j 0<8) (fun i=>l.length-(intOf i).toNat)
 case atStart=>exact⟨0,by omega,rfl,fun j hj=>absurd hj (by omega)⟩
 case round =>
  obtain⟨k,hk,rfl,hj⟩:=hrel
  have HJ:=ai hj
  clear hj
  by_cases hlt:k<l.length
  · have hc:=B.cell HX.o k (MO l k hlt)
    have HG:=ai (show l[k]?=some (l.getD k 0) from by simp[hlt])
    have HJ2:Hid (0<=l.getD k 0/\l.getD k 0<8->∀j,j<k+1->0<=l.getD j 0/\l.getD j 0<8):=fun h j hjj=>by
     rcases Nat.lt_or_ge j k with g | g
     · exact HJ.o j g
     · obtain rfl:j=k:=by omega
       exact h
    obtain⟨x,hx⟩:=ex (l.getD k 0)
    rw[<- hx] at hc HG HJ2
    clear hx
    by_cases h0:0<=x
    · by_cases h1:x<8
      · go_wp2
        go_round
        case rel=>exact⟨k+1,by omega,by go_num,HJ2.o ⟨h0,h1⟩⟩
        case measure=>simp[intOf];omega
      · obtain rfl:=HN.o k x HG.o (fun h=>h1 h.2)
        go_wp2
        go_ret
        exact⟨rfl,rfl⟩
    · obtain rfl:=HN.o k x HG.o (fun h=>h0 h.1)
      go_wp2
      go_ret
      exact⟨rfl,rfl⟩
  · obtain rfl:k=l.length:=by omega
    obtain rfl:=HY.o (fun j x hx=>by
     have yZ:j<l.length:=(List.getElem?_eq_some_iff.1 hx).1
     have e:l.getD j 0=x:=by simp[hx]
     rw[<- e]
     exact HJ.o j yZ)
    go_wp2
    go_ret
    exact⟨rfl,rfl⟩
theorem xw (n:Int) (w:World):Calls Tryz.prog 161 #[I n] w fun e w'=>e=.returned (.bool (PM.dK n))/\w=w':=by
 by_cases h1:n=1
 · subst h1
   go_enter Tryz.func161,Tryz.ntmps161
   go_wp2
   go_ret
   exact⟨rfl,rfl⟩
 · by_cases h2:n=2
   · subst h2
     go_enter Tryz.func161,Tryz.ntmps161
     go_wp2
     go_ret
     exact⟨rfl,rfl⟩
   · by_cases h3:n=4
     · subst h3
       go_enter Tryz.func161,Tryz.ntmps161
       go_wp2
       go_ret
       exact⟨rfl,rfl⟩
     · rw[show PM.dK n=decide (n=8) from by unfold PM.dK;simp[h1,h2,h3]]
       go_enter Tryz.func161,Tryz.ntmps161
       go_wp2
       go_ret
       have b1:(n==1)=false:=by simpa using h1
       have b2:(n==2)=false:=by simpa using h2
       have b3:(n==4)=false:=by simpa using h3
       have b4:(n==8)=decide (n=8):=by by_cases h:n=8 <;> simp[h]
       exact⟨by simp only[b1,b2,b3,b4,Bool.false_or];rfl,rfl⟩
theorem FZ (op a b c m:Int) (w:World) (h:op=1∨op=11∨op=15):Calls Tryz.prog 145 #[.agg #[I op,I a,I b,I c,I m]] w fun e w'=>e=.returned (.bool (!PM.dn [a]))/\Below w.heap.size w w':=by
 have HA:Hid (∀V:World,Calls Tryz.prog 160 #[.slice (some (Ad (w.heap.size+1) 0)) 1 1] ((w.alloc (.cells #[I op,I a,I b,I c,I m] 99)).alloc (.cells (ints [a]) 3)) fun e w'=>e=.returned (.bool (PM.dn [a]))/\((w.alloc (.cells #[I op,I a,I b,I c,I m] 99)).alloc (.cells (ints [a]) 3))=w'):=fun V=>ko [a] (w.heap.size+1) _ (by simp) (by have e:=B.new (w.alloc (.cells #[I op,I a,I b,I c,I m] 99)) (ints [a]) 3;rw[World.size_alloc] at e;exact e)
 obtain⟨R,hR⟩:=ex (PM.dn [a])
 rw[<- hR] at HA
 rw[<- hR]
 clear hR
 rcases h with rfl | rfl | rfl
 all_goals
  go_enter Tryz.func145,Tryz.ntmps145
  go_wp2_with fail
  refine(HA.o w).mono ?_
  rintro e w' ⟨rfl,rfl⟩
  go_wp2
  go_ret
  exact⟨by simp,((Below.refl _ _).alloc (Nat.le_refl _) _).alloc (by simp) _⟩
theorem ud (op a b c m:Int) (w:World) (h:op=2∨op=3∨op=4∨op=5∨op=6∨op=7):Calls Tryz.prog 145 #[.agg #[I op,I a,I b,I c,I m]] w fun e w'=>e=.returned (.bool (!PM.dn [a,b,c]))/\Below w.heap.size w w':=by
 have HA:Hid (∀V:World,Calls Tryz.prog 160 #[.slice (some (Ad (w.heap.size+1) 0)) 3 3] ((w.alloc (.cells #[I op,I a,I b,I c,I m] 99)).alloc (.cells (ints [a,b,c]) 3)) fun e w'=>e=.returned (.bool (PM.dn [a,b,c]))/\((w.alloc (.cells #[I op,I a,I b,I c,I m] 99)).alloc (.cells (ints [a,b,c]) 3))=w'):=fun V=>ko [a,b,c] (w.heap.size+1) _ (by simp) (by have e:=B.new (w.alloc (.cells #[I op,I a,I b,I c,I m] 99)) (ints [a,b,c]) 3;rw[World.size_alloc] at e;exact e)
 obtain⟨R,hR⟩:=ex (PM.dn [a,b,c])
 rw[<- hR] at HA
 rw[<- hR]
 clear hR
 rcases h with rfl | rfl | rfl | rfl | rfl | rfl
 all_goals
  go_enter Tryz.func145,Tryz.ntmps145
  go_wp2_with fail
  refine(HA.o w).mono ?_
  rintro e w' ⟨rfl,rfl⟩
  go_wp2
  go_ret
  exact⟨by simp,((Below.refl _ _).alloc (Nat.le_refl _) _).alloc (by simp) _⟩
theorem FY (op a b c m:Int) (w:World) (h:op=8∨op=13∨op=14):Calls Tryz.prog 145 #[.agg #[I op,I a,I b,I c,I m]] w fun e w'=>e=.returned (.bool (!PM.dn [a,b]))/\Below w.heap.size w w':=by
 have HA:Hid (∀V:World,Calls Tryz.prog 160 #[.slice (some (Ad (w.heap.size+1) 0)) 2 2] ((w.alloc (.cells #[I op,I a,I b,I c,I m] 99)).alloc (.cells (ints [a,b]) 3)) fun e w'=>e=.returned (.bool (PM.dn [a,b]))/\((w.alloc (.cells #[I op,I a,I b,I c,I m] 99)).alloc (.cells (ints [a,b]) 3))=w'):=fun V=>ko [a,b] (w.heap.size+1) _ (by simp) (by have e:=B.new (w.alloc (.cells #[I op,I a,I b,I c,I m] 99)) (ints [a,b]) 3;rw[World.size_alloc] at e;exact e)
 obtain⟨R,hR⟩:=ex (PM.dn [a,b])
 rw[<- hR] at HA
 rw[<- hR]
 clear hR
 rcases h with rfl | rfl | rfl
 all_goals
  go_enter Tryz.func145,Tryz.ntmps145
  go_wp2_with fail
  refine(HA.o w).mono ?_
  rintro e w' ⟨rfl,rfl⟩
  go_wp2
  go_ret
  exact⟨by simp,((Below.refl _ _).alloc (Nat.le_refl _) _).alloc (by simp) _⟩
theorem Ug (a b c m:Int) (w:World):Calls Tryz.prog 145 #[.agg #[I 9,I a,I b,I c,I m]] w fun e w'=>e=.returned (.bool (!PM.dn [a,b] || !PM.dK c))/\Below w.heap.size w w':=by
 have HA:Hid (∀V:World,Calls Tryz.prog 160 #[.slice (some (Ad (w.heap.size+1) 0)) 2 2] ((w.alloc (.cells #[I 9,I a,I b,I c,I m] 99)).alloc (.cells (ints [a,b]) 3)) fun e w'=>e=.returned (.bool (PM.dn [a,b]))/\((w.alloc (.cells #[I 9,I a,I b,I c,I m] 99)).alloc (.cells (ints [a,b]) 3))=w'):=fun V=>ko [a,b] (w.heap.size+1) _ (by simp) (by have e:=B.new (w.alloc (.cells #[I 9,I a,I b,I c,I m] 99)) (ints [a,b]) 3;rw[World.size_alloc] at e;exact e)
 have HS:=ai (xw c)
 obtain⟨R,hR⟩:=ex (PM.dn [a,b])
 rw[<- hR] at HA
 rw[<- hR]
 obtain⟨S,hS⟩:=ex (PM.dK c)
 rw[<- hS] at HS
 rw[<- hS]
 clear hR hS
 cases R
 · go_enter Tryz.func145,Tryz.ntmps145
   go_wp2_with fail
   refine(HA.o w).mono ?_
   rintro e w' ⟨rfl,rfl⟩
   go_wp2
   go_ret
   exact⟨by simp,((Below.refl _ _).alloc (Nat.le_refl _) _).alloc (by simp) _⟩
 · go_enter Tryz.func145,Tryz.ntmps145
   go_wp2_with fail
   refine(HA.o w).mono ?_
   rintro e w' ⟨rfl,rfl⟩
   go_wp2_with fail
   refine(HS.o _).mono ?_
   rintro e w' ⟨rfl,rfl⟩
   go_wp2
   go_ret
   exact⟨by simp,((Below.refl _ _).alloc (Nat.le_refl _) _).alloc (by simp) _⟩
theorem QC (a b c m:Int) (w:World):Calls Tryz.prog 145 #[.agg #[I 10,I a,I b,I c,I m]] w fun e w'=>e=.returned (.bool (!PM.dn [a,b] || !PM.dK c))/\Below w.heap.size w w':=by
 have HA:Hid (∀V:World,Calls Tryz.prog 160 #[.slice (some (Ad (w.heap.size+1) 0)) 2 2] ((w.alloc (.cells #[I 10,I a,I b,I c,I m] 99)).alloc (.cells (ints [a,b]) 3)) fun e w'=>e=.returned (.bool (PM.dn [a,b]))/\((w.alloc (.cells #[I 10,I a,I b,I c,I m] 99)).alloc (.cells (ints [a,b]) 3))=w'):=fun V=>ko [a,b] (w.heap.size+1) _ (by simp) (by have e:=B.new (w.alloc (.cells #[I 10,I a,I b,I c,I m] 99)) (ints [a,b]) 3;rw[World.size_alloc] at e;exact e)
 have HS:=ai (xw c)
 obtain⟨R,hR⟩:=ex (PM.dn [a,b])
 rw[<- hR] at HA
 rw[<- hR]
 obtain⟨S,hS⟩:=ex (PM.dK c)
 rw[<- hS] at HS
 rw[<- hS]
 clear hR hS
 cases R
 · go_enter Tryz.func145,Tryz.ntmps145
   go_wp2_with fail
   refine(HA.o w).mono ?_
   rintro e w' ⟨rfl,rfl⟩
   go_wp2
   go_ret
   exact⟨by simp,((Below.refl _ _).alloc (Nat.le_refl _) _).alloc (by simp) _⟩
 · go_enter Tryz.func145,Tryz.ntmps145
   go_wp2_with fail
   refine(HA.o w).mono ?_
   rintro e w' ⟨rfl,rfl⟩
   go_wp2_with fail
   refine(HS.o _).mono ?_
   rintro e w' ⟨rfl,rfl⟩
   go_wp2
   go_ret
   exact⟨by simp,((Below.refl _ _).alloc (Nat.le_refl _) _).alloc (by simp) _⟩
theorem QB (a b c m:Int) (w:World):Calls Tryz.prog 145 #[.agg #[I 12,I a,I b,I c,I m]] w fun e w'=>e=.returned (.bool false)/\Below w.heap.size w w':=by
 go_enter Tryz.func145,Tryz.ntmps145
 go_wp2
 go_ret
 exact⟨by simp,(Below.refl _ _).alloc (Nat.le_refl _) _⟩
theorem QA (a b c m:Int) (w:World):Calls Tryz.prog 145 #[.agg #[I 16,I a,I b,I c,I m]] w fun e w'=>e=.returned (.bool (!decide (1<=m/\m<=6)))/\Below w.heap.size w w':=by
 by_cases h1:1<=m
 · by_cases h2:m<=6
   · have HR:=ai (show(!decide (1<=m/\m<=6))=false from by simp[h1,h2])
     rw[HR.o]
     go_enter Tryz.func145,Tryz.ntmps145
     go_wp2
     go_ret
     exact⟨by first | (simp;done) | (simp;omega),(Below.refl _ _).alloc (Nat.le_refl _) _⟩
   · have HR:=ai (show(!decide (1<=m/\m<=6))=true from by simp[h1,h2])
     rw[HR.o]
     go_enter Tryz.func145,Tryz.ntmps145
     go_wp2
     go_ret
     exact⟨by first | (simp;done) | (simp;omega),(Below.refl _ _).alloc (Nat.le_refl _) _⟩
 · have HR:=ai (show(!decide (1<=m/\m<=6))=true from by simp[h1])
   rw[HR.o]
   go_enter Tryz.func145,Tryz.ntmps145
   go_wp2
   go_ret
   exact⟨by simp,(Below.refl _ _).alloc (Nat.le_refl _) _⟩
theorem Uf (op a b c m:Int) (w:World) (h:op<1∨16<op):Calls Tryz.prog 145 #[.agg #[I op,I a,I b,I c,I m]] w fun e w'=>e=.returned (.bool true)/\Below w.heap.size w w':=by
 have n1:¬op=1:=by omega
 have n2:¬op=2:=by omega
 have n3:¬op=3:=by omega
 have n4:¬op=4:=by omega
 have n5:¬op=5:=by omega
 have n6:¬op=6:=by omega
 have n7:¬op=7:=by omega
 have n8:¬op=8:=by omega
 have n9:¬op=9:=by omega
 have n10:¬op=10:=by omega
 have n11:¬op=11:=by omega
 have Z1:¬op=12:=by omega
 have n13:¬op=13:=by omega
 have n14:¬op=14:=by omega
 have n15:¬op=15:=by omega
 have n16:¬op=16:=by omega
 clear h
 go_enter Tryz.func145,Tryz.ntmps145
 go_wp2
 go_ret
 exact⟨by simp[Z1],(Below.refl _ _).alloc (Nat.le_refl _) _⟩
theorem sM (op:Int):(op<1∨16<op)∨op=1∨op=2∨op=3∨op=4∨op=5∨op=6∨op=7∨op=8∨op=9∨op=10∨op=11∨op=12∨op=13∨op=14∨op=15∨op=16:=by omega
theorem tG (i:PM.ey) (h:i.op<1∨16<i.op):i.bad=true:=by
 unfold PM.ey.bad
 rw[if_neg (by omega),if_neg (by omega),if_neg (by omega),if_neg (by omega),if_neg (by omega),if_neg (by omega)]
theorem z6 (i:PM.ey) (w:World) (hi:i.fits):Calls Tryz.prog 145 #[.agg i.cells] w fun e w'=>e=.returned (.bool i.bad)/\Below w.heap.size w w':=by
 obtain⟨op,a,b,c,m⟩:=i
 obtain⟨-,ha,hb,hc,-⟩:=hi
 have e1:=PM.WG a ha
 have e2:=PM.WE a b ha hb
 have e3:=PM.WD a b c ha hb hc
 rcases sM op with h | h | h | h | h | h | h | h | h | h | h | h | h | h | h | h | h
 · rw[tG _ h];exact Uf op a b c m w h
 · subst h
   have g:=FZ 1 a b c m w (by simp)
   rw[e1] at g
   exact g
 · subst h
   have g:=ud 2 a b c m w (by simp)
   rw[e3] at g
   exact g
 · subst h
   have g:=ud 3 a b c m w (by simp)
   rw[e3] at g
   exact g
 · subst h
   have g:=ud 4 a b c m w (by simp)
   rw[e3] at g
   exact g
 · subst h
   have g:=ud 5 a b c m w (by simp)
   rw[e3] at g
   exact g
 · subst h
   have g:=ud 6 a b c m w (by simp)
   rw[e3] at g
   exact g
 · subst h
   have g:=ud 7 a b c m w (by simp)
   rw[e3] at g
   exact g
 · subst h
   have g:=FY 8 a b c m w (by simp)
   rw[e2] at g
   exact g
 · subst h
   have g:=Ug a b c m w
   rw[e2] at g
   exact g
 · subst h
   have g:=QC a b c m w
   rw[e2] at g
   exact g
 · subst h
   have g:=FZ 11 a b c m w (by simp)
   rw[e1] at g
   exact g
 · subst h
   have g:=QB a b c m w
   exact g
 · subst h
   have g:=FY 13 a b c m w (by simp)
   rw[e2] at g
   exact g
 · subst h
   have g:=FY 14 a b c m w (by simp)
   rw[e2] at g
   exact g
 · subst h
   have g:=FZ 15 a b c m w (by simp)
   rw[e1] at g
   exact g
 · subst h
   have g:=QA a b c m w
   exact g
theorem mY (k:Int) (x y z:Bool) (w:World) (h:(k,x,y,z)∈[(1,true,false,false),(2,true,true,true),(3,true,true,true),(4,true,true,true),(5,true,true,true),(6,true,true,true),(7,true,true,true),(8,true,true,false),(9,true,true,false),(10,true,true,false),(11,true,false,false),(12,false,false,false),(13,true,true,false),(14,true,true,false),(15,true,false,false),(16,false,false,false)]):Calls Tryz.prog 111 #[I k] w fun e w'=>e=.returned (.tuple #[.bool x,.bool y,.bool z])/\w=w':=by
 simp only[List.mem_cons,Prod.mk.injEq,List.not_mem_nil,or_false] at h
 rcases h with⟨rfl,rfl,rfl,rfl⟩ | ⟨rfl,rfl,rfl,rfl⟩ | ⟨rfl,rfl,rfl,rfl⟩ | ⟨rfl,rfl,rfl,rfl⟩ | ⟨rfl,rfl,rfl,rfl⟩ | ⟨rfl,rfl,rfl,rfl⟩ | ⟨rfl,rfl,rfl,rfl⟩ | ⟨rfl,rfl,rfl,rfl⟩ | ⟨rfl,rfl,rfl,rfl⟩ | ⟨rfl,rfl,rfl,rfl⟩ | ⟨rfl,rfl,rfl,rfl⟩ | ⟨rfl,rfl,rfl,rfl⟩ | ⟨rfl,rfl,rfl,rfl⟩ | ⟨rfl,rfl,rfl,rfl⟩ | ⟨rfl,rfl,rfl,rfl⟩ | ⟨rfl,rfl,rfl,rfl⟩ <;> (go_enter Tryz.func111,Tryz.ntmps111;go_wp2;go_ret3;exact⟨rfl,rfl⟩)
theorem Bj (op a b c m:Int) (w:World) (h:op=1∨op=11∨op=15):Calls Tryz.prog 82 #[.agg #[I op,I a,I b,I c,I m]] w fun e w'=>e=.returned (.bool (decide (8<=a)))/\Below w.heap.size w w':=by
 have U:=fun w=>mY op true false false w (by rcases h with rfl | rfl | rfl <;> simp)
 rcases h with rfl | rfl | rfl <;> rcases(show 8<=a∨a<8 by omega) with g | g <;> (obtain⟨r,hr⟩:=ex ((decide (8<=a)));rw[<- hr];have HR:=ai hr;clear hr;go_enter Tryz.func82,Tryz.ntmps82;go_wp2_with (first | (go_at_call 27;(first | refine(js _ _ _ _ (by omega) (by omega)).mono ?_ | refine(jt _ _ _ _ (by omega)).mono ?_);rintro e w' ⟨rfl,rfl⟩) | (go_at_call 111;refine(U _).mono ?_;rintro e w' ⟨rfl,rfl⟩));go_ret;exact⟨by rw[HR.o];first | rfl | (simp[*,PM.dK];done) | (simp[PM.dK];omega),(Below.refl _ _).alloc (Nat.le_refl _) _⟩)
theorem qb (op a b c m:Int) (w:World) (h:op=2∨op=3∨op=4∨op=5∨op=6∨op=7):Calls Tryz.prog 82 #[.agg #[I op,I a,I b,I c,I m]] w fun e w'=>e=.returned (.bool (decide (8<=a∨8<=b∨8<=c)))/\Below w.heap.size w w':=by
 have U:=fun w=>mY op true true true w (by rcases h with rfl | rfl | rfl | rfl | rfl | rfl <;> simp)
 rcases h with rfl | rfl | rfl | rfl | rfl | rfl <;> rcases(show 8<=a∨(a<8/\8<=b)∨(a<8/\b<8/\8<=c)∨a<8/\b<8/\c<8 by omega) with g | g | g | g <;> (obtain⟨r,hr⟩:=ex ((decide (8<=a∨8<=b∨8<=c)));rw[<- hr];have HR:=ai hr;clear hr;go_enter Tryz.func82,Tryz.ntmps82;go_wp2_with (first | (go_at_call 27;(first | refine(js _ _ _ _ (by omega) (by omega)).mono ?_ | refine(jt _ _ _ _ (by omega)).mono ?_);rintro e w' ⟨rfl,rfl⟩) | (go_at_call 111;refine(U _).mono ?_;rintro e w' ⟨rfl,rfl⟩));go_ret;exact⟨by rw[HR.o];first | rfl | (simp[*,PM.dK];done) | (simp[PM.dK];omega),(Below.refl _ _).alloc (Nat.le_refl _) _⟩)
theorem Bi (op a b c m:Int) (w:World) (h:op=8∨op=13∨op=14):Calls Tryz.prog 82 #[.agg #[I op,I a,I b,I c,I m]] w fun e w'=>e=.returned (.bool (decide (8<=a∨8<=b)))/\Below w.heap.size w w':=by
 have U:=fun w=>mY op true true false w (by rcases h with rfl | rfl | rfl <;> simp)
 rcases h with rfl | rfl | rfl <;> rcases(show 8<=a∨(a<8/\8<=b)∨a<8/\b<8 by omega) with g | g | g <;> (obtain⟨r,hr⟩:=ex ((decide (8<=a∨8<=b)));rw[<- hr];have HR:=ai hr;clear hr;go_enter Tryz.func82,Tryz.ntmps82;go_wp2_with (first | (go_at_call 27;(first | refine(js _ _ _ _ (by omega) (by omega)).mono ?_ | refine(jt _ _ _ _ (by omega)).mono ?_);rintro e w' ⟨rfl,rfl⟩) | (go_at_call 111;refine(U _).mono ?_;rintro e w' ⟨rfl,rfl⟩));go_ret;exact⟨by rw[HR.o];first | rfl | (simp[*,PM.dK];done) | (simp[PM.dK];omega),(Below.refl _ _).alloc (Nat.le_refl _) _⟩)
theorem Iu (op a b c m:Int) (w:World) (h:op=9∨op=10):Calls Tryz.prog 82 #[.agg #[I op,I a,I b,I c,I m]] w fun e w'=>e=.returned (.bool (decide (8<=a∨8<=b) || !PM.dK c))/\Below w.heap.size w w':=by
 have U:=fun w=>mY op true true false w (by rcases h with rfl | rfl <;> simp)
 obtain⟨r,hr⟩:=ex ((decide (8<=a∨8<=b) || !PM.dK c))
 rw[<- hr]
 have HR:=ai hr
 clear hr
 rcases h with rfl | rfl <;> rcases(show 8<=a∨(a<8/\8<=b)∨(a<8/\b<8/\(c=1∨c=2∨c=4∨c=8))∨a<8/\b<8/\¬c=1/\¬c=2/\¬c=4/\¬c=8 by omega) with g | g | ⟨g,k,rfl | rfl | rfl | rfl⟩ | ⟨g,k,z1,z2,z4,z8⟩ <;> (try (have y1:(c != 1)=true:=(by simpa using z1);have y2:(c != 2)=true:=(by simpa using z2);have y4:(c != 4)=true:=(by simpa using z4);have y8:(c != 8)=true:=(by simpa using z8))) <;> (go_enter Tryz.func82,Tryz.ntmps82;go_wp2_with (first | (go_at_call 27;(first | refine(js _ _ _ _ (by omega) (by omega)).mono ?_ | refine(jt _ _ _ _ (by omega)).mono ?_);rintro e w' ⟨rfl,rfl⟩) | (go_at_call 111;refine(U _).mono ?_;rintro e w' ⟨rfl,rfl⟩));go_ret;exact⟨by rw[HR.o];first | rfl | (simp[*,PM.dK];done) | (simp[PM.dK];omega),(Below.refl _ _).alloc (Nat.le_refl _) _⟩)
theorem ML (op a b c m:Int) (w:World) (h:op=12):Calls Tryz.prog 82 #[.agg #[I op,I a,I b,I c,I m]] w fun e w'=>e=.returned (.bool (false))/\Below w.heap.size w w':=by
 have U:=fun w=>mY op false false false w (by rcases h with rfl <;> simp)
 subst h
 go_enter Tryz.func82,Tryz.ntmps82
 go_wp2_with (first | (go_at_call 27;(first | refine(js _ _ _ _ (by omega) (by omega)).mono ?_ | refine(jt _ _ _ _ (by omega)).mono ?_);rintro e w' ⟨rfl,rfl⟩) | (go_at_call 111;refine(U _).mono ?_;rintro e w' ⟨rfl,rfl⟩))
 go_ret
 exact⟨rfl,(Below.refl _ _).alloc (Nat.le_refl _) _⟩
theorem MK (op a b c m:Int) (w:World) (h:op=16):Calls Tryz.prog 82 #[.agg #[I op,I a,I b,I c,I m]] w fun e w'=>e=.returned (.bool (!decide (1<=m/\m<=6)))/\Below w.heap.size w w':=by
 have U:=fun w=>mY op false false false w (by rcases h with rfl <;> simp)
 rcases h with rfl <;> rcases(show(1<=m/\m<=6)∨m<1∨1<=m/\6<m by omega) with g | g | g <;> (obtain⟨r,hr⟩:=ex ((!decide (1<=m/\m<=6)));rw[<- hr];have HR:=ai hr;clear hr;go_enter Tryz.func82,Tryz.ntmps82;go_wp2_with (first | (go_at_call 27;(first | refine(js _ _ _ _ (by omega) (by omega)).mono ?_ | refine(jt _ _ _ _ (by omega)).mono ?_);rintro e w' ⟨rfl,rfl⟩) | (go_at_call 111;refine(U _).mono ?_;rintro e w' ⟨rfl,rfl⟩));go_ret;exact⟨by rw[HR.o];first | rfl | (simp[*,PM.dK];done) | (simp[PM.dK];omega),(Below.refl _ _).alloc (Nat.le_refl _) _⟩)
theorem Qz (op a b c m:Int) (w:World) (h:op<1∨16<op):Calls Tryz.prog 82 #[.agg #[I op,I a,I b,I c,I m]] w fun e w'=>e=.returned (.bool true)/\Below w.heap.size w w':=by
 go_enter Tryz.func82,Tryz.ntmps82
 go_wp2_with (go_at_call 27;refine(jt _ _ _ _ (by omega)).mono ?_;rintro e w' ⟨rfl,rfl⟩)
 go_ret
 exact⟨rfl,(Below.refl _ _).alloc (Nat.le_refl _) _⟩
theorem xx (i:PM.ey) (w:World):Calls Tryz.prog 82 #[.agg i.cells] w fun e w'=>e=.returned (.bool i.bad)/\Below w.heap.size w w':=by
 obtain⟨op,a,b,c,m⟩:=i
 rcases sM op with h | h | h | h | h | h | h | h | h | h | h | h | h | h | h | h | h
 · rw[tG _ h];exact Qz op a b c m w h
 · subst h;exact Bj 1 a b c m w (by simp)
 · subst h;exact qb 2 a b c m w (by simp)
 · subst h;exact qb 3 a b c m w (by simp)
 · subst h;exact qb 4 a b c m w (by simp)
 · subst h;exact qb 5 a b c m w (by simp)
 · subst h;exact qb 6 a b c m w (by simp)
 · subst h;exact qb 7 a b c m w (by simp)
 · subst h;exact Bi 8 a b c m w (by simp)
 · subst h;exact Iu 9 a b c m w (by simp)
 · subst h;exact Iu 10 a b c m w (by simp)
 · subst h;exact Bj 11 a b c m w (by simp)
 · subst h;exact ML 12 a b c m w (by simp)
 · subst h;exact Bi 13 a b c m w (by simp)
 · subst h;exact Bi 14 a b c m w (by simp)
 · subst h;exact Bj 15 a b c m w (by simp)
 · subst h;exact MK 16 a b c m w (by simp)
def Dm (i:PM.ey):Int:=if i.bad then 4 else if i.op=9 then 1 else if i.op=10 then 2 else if i.op=16 then 3 else 0
theorem FT (i:PM.ey) (w:World) (hi:i.fits):Calls Tryz.prog 125 #[.agg i.cells] w fun e w'=>e=.returned (I (Dm i))/\Below w.heap.size w w':=by
 have HB:=ai (fun V=>z6 i V hi)
 have HK:Hid (Dm i=if i.bad then 4 else if i.op=9 then 1 else if i.op=10 then 2 else if i.op=16 then 3 else 0):=rfl
 obtain⟨op,a,b,c,m⟩:=i
 unfold PM.ey.cells at HB ⊢
 simp only at HB HK ⊢
 obtain⟨K,hK⟩:=ex (Dm ⟨op,a,b,c,m⟩)
 obtain⟨D,hD⟩:=ex (PM.ey.bad ⟨op,a,b,c,m⟩)
 rw[<- hK] at HK ⊢
 rw[<- hD] at HK HB
 clear hK hD hi
 have cP:=ai ((Below.refl w.heap.size w).alloc (Nat.le_refl _) (.cells #[I op,I a,I b,I c,I m] 99))
 have BX:=ai (B.new w #[I op,I a,I b,I c,I m] 99)
 cases D
 · simp only[Bool.false_eq_true,if_false] at HK
   by_cases h1:op=9
   · subst h1
     obtain rfl:K=1:=by rw[HK.o];rfl
     go_enter Tryz.func125,Tryz.ntmps125
     go_wp2_with fail
     refine(HB.o _).mono ?_
     rintro e w1 ⟨rfl,hb1⟩
     have bh:=ai (cP.o.trans (hb1.mono cP.o.size))
     have c0:=B.cell (B.below BX.o hb1 (B.isLt BX.o)) 0 rfl
     clear hb1
     go_wp2
     go_ret
     exact⟨rfl,bh.o⟩
   · by_cases h2:op=10
     · subst h2
       obtain rfl:K=2:=by rw[HK.o];rfl
       go_enter Tryz.func125,Tryz.ntmps125
       go_wp2_with fail
       refine(HB.o _).mono ?_
       rintro e w1 ⟨rfl,hb1⟩
       have bh:=ai (cP.o.trans (hb1.mono cP.o.size))
       have c0:=B.cell (B.below BX.o hb1 (B.isLt BX.o)) 0 rfl
       clear hb1
       go_wp2
       go_ret
       exact⟨rfl,bh.o⟩
     · by_cases h3:op=16
       · subst h3
         obtain rfl:K=3:=by rw[HK.o];rfl
         go_enter Tryz.func125,Tryz.ntmps125
         go_wp2_with fail
         refine(HB.o _).mono ?_
         rintro e w1 ⟨rfl,hb1⟩
         have bh:=ai (cP.o.trans (hb1.mono cP.o.size))
         have c0:=B.cell (B.below BX.o hb1 (B.isLt BX.o)) 0 rfl
         clear hb1
         go_wp2
         go_ret
         exact⟨rfl,bh.o⟩
       · obtain rfl:K=0:=by rw[HK.o,if_neg h1,if_neg h2,if_neg h3]
         go_enter Tryz.func125,Tryz.ntmps125
         go_wp2_with fail
         refine(HB.o _).mono ?_
         rintro e w1 ⟨rfl,hb1⟩
         have bh:=ai (cP.o.trans (hb1.mono cP.o.size))
         have c0:=B.cell (B.below BX.o hb1 (B.isLt BX.o)) 0 rfl
         clear hb1
         go_wp2
         go_ret
         exact⟨rfl,bh.o⟩
 · simp only[if_true] at HK
   obtain rfl:K=4:=HK.o
   go_enter Tryz.func125,Tryz.ntmps125
   go_wp2_with fail
   refine(HB.o _).mono ?_
   rintro e w1 ⟨rfl,hb1⟩
   have bh:=ai (cP.o.trans (hb1.mono cP.o.size))
   clear hb1
   go_wp2
   go_ret
   exact⟨rfl,bh.o⟩
theorem bU {x:Int} (h:PM.Cv x) (h8:¬8<=x):∃n:Nat,x=(n:Int)/\n<8:=by
 obtain⟨h0,-⟩:=h
 exact⟨x.toNat,by omega,by omega⟩
theorem cQ {N g:Nat} {w W:World} (h:Below N w W) (hg:N<=g) (v0 v1 v2 v3 v4:Value):Below N w (((((W.setCell (Ad g 0) v0).setCell (Ad g 1) v1).setCell (Ad g 2) v2).setCell (Ad g 3) v3).setCell (Ad g 4) v4) :=
 ((((h.setCell (p:=(Ad g 0)) hg v0).setCell (p:=(Ad g 1)) hg v1).setCell (p:=(Ad g 2)) hg v2).setCell (p:=(Ad g 3)) hg v3).setCell (p:=(Ad g 4)) hg v4
theorem Ic (op a b c m:Int) (hi:PM.ey.fits ⟨op,a,b,c,m⟩) (h:op=9∨op=10) (hd:PM.ey.bad ⟨op,a,b,c,m⟩=false):∃na nb:Nat,a=(na:Int)/\b=(nb:Int)/\na<8/\nb<8:=by
 obtain⟨-,ha,hb,-⟩:=hi
 have e:(decide (8<=a∨8<=b) || !(PM.dK c))=false:=by
  rcases h with h | h <;> subst h <;> exact hd
 simp only[Bool.or_eq_false_iff,decide_eq_false_iff_not] at e
 obtain⟨na,h1,h2⟩:=bU ha (fun h=>e.1 (.inl h))
 obtain⟨nb,h3,h4⟩:=bU hb (fun h=>e.1 (.inr h))
 exact⟨na,nb,h1,h3,h2,h4⟩
theorem RB (p:PM.Pr) (s:ByteArray) (w:World) (h:s.size=8):Calls Tryz.prog 108 #[p.val,.string s] w fun e w'=>e=.returned (.tuple #[.agg (PM.km p (PM.ins s)),I 0])/\Below w.heap.size w w':=by
 have HD:=ai (fun V=>xU s V h)
 have hfit:=PM.po s h
 obtain⟨i,hi⟩:=ex (PM.ins s)
 rw[<- hi] at HD hfit ⊢
 have HK:=ai (fun V=>FT i V hfit)
 clear hi h
 obtain⟨op,a,b,c,m⟩:=i
 have kZ:Hid (PM.km p ⟨op,a,b,c,m⟩=if PM.ey.bad ⟨op,a,b,c,m⟩ then #[I 4,I 0,I 0,I 0,I 0] else if op=9 then #[I 1,I (wrap64 (p.r b.toNat+m)),I c,I 0,I 0] else if op=10 then #[I 2,I (wrap64 (p.r b.toNat+m)),I c,I (p.r a.toNat),I 0] else if op=16 then #[I 3,I 0,I 0,I 0,I m] else #[I 0,I 0,I 0,I 0,I 0]):=rfl
 have Hh:=ai (Ic op a b c m hfit)
 have CD:Hid (Dm ⟨op,a,b,c,m⟩=if PM.ey.bad ⟨op,a,b,c,m⟩ then 4 else if op=9 then 1 else if op=10 then 2 else if op=16 then 3 else 0):=rfl
 obtain⟨K,hK⟩:=ex (Dm ⟨op,a,b,c,m⟩)
 obtain⟨D,hD⟩:=ex (PM.ey.bad ⟨op,a,b,c,m⟩)
 obtain⟨Q,hQ⟩:=ex (PM.km p ⟨op,a,b,c,m⟩)
 rw[<- hQ] at kZ ⊢
 rw[<- hK] at CD HK
 rw[<- hD] at CD kZ Hh
 clear hK hD hQ hfit
 unfold PM.ey.cells at HD HK
 simp only at HD HK
 have cP:=ai (((Below.refl w.heap.size w).alloc (Nat.le_refl _) (.cells p.row 70)).alloc (by simp) (.cells #[I 0,I 0,I 0,I 0,I 0] 101))
 have BP:=ai (B.alloc (B.new w p.row 70) (.cells #[I 0,I 0,I 0,I 0,I 0] 101))
 have BR:=ai (B.new (w.alloc (.cells p.row 70)) #[I 0,I 0,I 0,I 0,I 0] 101)
 rw[World.size_alloc] at BR
 unfold PM.Pr.val
 cases D
 · simp only[Bool.false_eq_true,if_false] at CD kZ
   by_cases h1:op=9
   · obtain⟨na,nb,rfl,rfl,eD,hnb⟩:=Hh.o (.inl h1) rfl
     subst h1
     obtain rfl:K=1:=CD.o
     obtain rfl:=kZ.o
     clear Hh CD kZ
     rw[Int.toNat_natCast]
     go_enter Tryz.func108,Tryz.ntmps108
     go_wp2_with fail
     refine(HD.o _).mono ?_
     rintro e w1 ⟨rfl,hb1⟩
     have bh:=ai (cP.o.trans (hb1.mono cP.o.size))
     have vP:=ai (B.below BP.o hb1 (B.isLt BP.o))
     have iY:=ai (B.below BR.o hb1 (B.isLt BR.o))
     have tJ:=ai ((Below.refl w1.heap.size w1).alloc (Nat.le_refl _) (.cells #[I 9,I na,I nb,I c,I m] 99))
     have ou:=ai (B.new w1 #[I 9,I na,I nb,I c,I m] 99)
     clear hb1
     go_wp2_with fail
     refine(HK.o _).mono ?_
     rintro e w2 ⟨rfl,hb2⟩
     have bY:=ai (bh.o.trans ((tJ.o.trans (hb2.mono tJ.o.size)).mono bh.o.size))
     have vk:=ai (B.below (B.alloc vP.o _) hb2 (B.isLt (B.alloc vP.o _)))
     have rX:=ai (B.below (B.alloc iY.o _) hb2 (B.isLt (B.alloc iY.o _)))
     have zB:=ai (B.below ou.o hb2 (B.isLt ou.o))
     have ZW:=bY.o.size
     have l0:=B.isLt vk.o
     have l1:=B.isLt rX.o
     have l2:=B.isLt zB.o
     have ZY:¬w1.heap.size=w.heap.size+1:=fun h=>by have:=B.isLt iY.o;omega
     clear hb2 tJ ou
     obtain⟨t0,t1,t2,t3,t4⟩:=B.c5 rX.o
     have u0:∀j,w2.frozen? (Ad (w.heap.size+1) j)=false:=fun j=>B.free rX.o j
     have cb:w2.cell? (Ad w.heap.size nb)=some (I (p.r nb)):=B.cell vk.o nb (PM.jO p nb hnb)
     have i2:w2.cell? (Ad w1.heap.size 2)=some (I nb):=B.cell zB.o 2 rfl
     have i3:w2.cell? (Ad w1.heap.size 3)=some (I c):=B.cell zB.o 3 rfl
     have i4:w2.cell? (Ad w1.heap.size 4)=some (I m):=B.cell zB.o 4 rfl
     go_wp2_with fail
     go_region
     go_wp2
     refine bodyPost_ret (v:=.tuple #[.agg #[I 1,I (wrap64 (p.r nb+m)),I c,I 0,I 0],I 0]) (by simp[results,Tryz.results108,go_sem,t0,t1,t2,t3,t4,l1]) rfl ?_
     exact⟨rfl,(by first | exact(cQ bY.o (Nat.le_succ _) _ _ _ _ _).alloc (by simp;omega) _ | exact((cQ bY.o (Nat.le_succ _) _ _ _ _ _).alloc (by simp;omega) _).drew)⟩
   · by_cases h2:op=10
     · obtain⟨na,nb,rfl,rfl,eD,hnb⟩:=Hh.o (.inr h2) rfl
       subst h2
       obtain rfl:K=2:=CD.o
       obtain rfl:=kZ.o
       clear Hh CD kZ h1
       rw[if_neg (by decide),if_pos rfl,Int.toNat_natCast,Int.toNat_natCast]
       go_enter Tryz.func108,Tryz.ntmps108
       go_wp2_with fail
       refine(HD.o _).mono ?_
       rintro e w1 ⟨rfl,hb1⟩
       have bh:=ai (cP.o.trans (hb1.mono cP.o.size))
       have vP:=ai (B.below BP.o hb1 (B.isLt BP.o))
       have iY:=ai (B.below BR.o hb1 (B.isLt BR.o))
       have tJ:=ai ((Below.refl w1.heap.size w1).alloc (Nat.le_refl _) (.cells #[I 10,I na,I nb,I c,I m] 99))
       have ou:=ai (B.new w1 #[I 10,I na,I nb,I c,I m] 99)
       clear hb1
       go_wp2_with fail
       refine(HK.o _).mono ?_
       rintro e w2 ⟨rfl,hb2⟩
       have bY:=ai (bh.o.trans ((tJ.o.trans (hb2.mono tJ.o.size)).mono bh.o.size))
       have vk:=ai (B.below (B.alloc vP.o _) hb2 (B.isLt (B.alloc vP.o _)))
       have rX:=ai (B.below (B.alloc iY.o _) hb2 (B.isLt (B.alloc iY.o _)))
       have zB:=ai (B.below ou.o hb2 (B.isLt ou.o))
       have ZW:=bY.o.size
       have l0:=B.isLt vk.o
       have l1:=B.isLt rX.o
       have l2:=B.isLt zB.o
       have ZY:¬w1.heap.size=w.heap.size+1:=fun h=>by have:=B.isLt iY.o;omega
       clear hb2 tJ ou
       obtain⟨t0,t1,t2,t3,t4⟩:=B.c5 rX.o
       have u0:∀j,w2.frozen? (Ad (w.heap.size+1) j)=false:=fun j=>B.free rX.o j
       have ca:w2.cell? (Ad w.heap.size na)=some (I (p.r na)):=B.cell vk.o na (PM.jO p na eD)
       have i1:w2.cell? (Ad w1.heap.size 1)=some (I na):=B.cell zB.o 1 rfl
       have cb:w2.cell? (Ad w.heap.size nb)=some (I (p.r nb)):=B.cell vk.o nb (PM.jO p nb hnb)
       have i2:w2.cell? (Ad w1.heap.size 2)=some (I nb):=B.cell zB.o 2 rfl
       have i3:w2.cell? (Ad w1.heap.size 3)=some (I c):=B.cell zB.o 3 rfl
       have i4:w2.cell? (Ad w1.heap.size 4)=some (I m):=B.cell zB.o 4 rfl
       go_wp2_with fail
       go_region
       go_wp2
       refine bodyPost_ret (v:=.tuple #[.agg #[I 2,I (wrap64 (p.r nb+m)),I c,I (p.r na),I 0],I 0]) (by simp[results,Tryz.results108,go_sem,t0,t1,t2,t3,t4,l1]) rfl ?_
       exact⟨rfl,(by first | exact(cQ bY.o (Nat.le_succ _) _ _ _ _ _).alloc (by simp;omega) _ | exact((cQ bY.o (Nat.le_succ _) _ _ _ _ _).alloc (by simp;omega) _).drew)⟩
     · by_cases h3:op=16
       · subst h3
         obtain rfl:K=3:=CD.o
         obtain rfl:=kZ.o
         clear Hh CD kZ h1 h2
         rw[if_neg (by decide),if_neg (by decide),if_pos rfl]
         go_enter Tryz.func108,Tryz.ntmps108
         go_wp2_with fail
         refine(HD.o _).mono ?_
         rintro e w1 ⟨rfl,hb1⟩
         have bh:=ai (cP.o.trans (hb1.mono cP.o.size))
         have vP:=ai (B.below BP.o hb1 (B.isLt BP.o))
         have iY:=ai (B.below BR.o hb1 (B.isLt BR.o))
         have tJ:=ai ((Below.refl w1.heap.size w1).alloc (Nat.le_refl _) (.cells #[I 16,I a,I b,I c,I m] 99))
         have ou:=ai (B.new w1 #[I 16,I a,I b,I c,I m] 99)
         clear hb1
         go_wp2_with fail
         refine(HK.o _).mono ?_
         rintro e w2 ⟨rfl,hb2⟩
         have bY:=ai (bh.o.trans ((tJ.o.trans (hb2.mono tJ.o.size)).mono bh.o.size))
         have vk:=ai (B.below (B.alloc vP.o _) hb2 (B.isLt (B.alloc vP.o _)))
         have rX:=ai (B.below (B.alloc iY.o _) hb2 (B.isLt (B.alloc iY.o _)))
         have zB:=ai (B.below ou.o hb2 (B.isLt ou.o))
         have ZW:=bY.o.size
         have l0:=B.isLt vk.o
         have l1:=B.isLt rX.o
         have l2:=B.isLt zB.o
         have ZY:¬w1.heap.size=w.heap.size+1:=fun h=>by have:=B.isLt iY.o;omega
         clear hb2 tJ ou
         obtain⟨t0,t1,t2,t3,t4⟩:=B.c5 rX.o
         have u0:∀j,w2.frozen? (Ad (w.heap.size+1) j)=false:=fun j=>B.free rX.o j
         have i4:w2.cell? (Ad w1.heap.size 4)=some (I m):=B.cell zB.o 4 rfl
         go_wp2
         refine bodyPost_ret (v:=.tuple #[.agg #[I 3,I 0,I 0,I 0,I m],I 0]) (by simp[results,Tryz.results108,go_sem,t0,t1,t2,t3,t4,l1]) rfl ?_
         exact⟨rfl,(by first | exact(cQ bY.o (Nat.le_succ _) _ _ _ _ _).alloc (by simp;omega) _ | exact((cQ bY.o (Nat.le_succ _) _ _ _ _ _).alloc (by simp;omega) _).drew)⟩
       · obtain rfl:K=0:=by rw[CD.o,if_neg h1,if_neg h2,if_neg h3]
         obtain rfl:Q=#[I 0,I 0,I 0,I 0,I 0]:=by rw[kZ.o,if_neg h1,if_neg h2,if_neg h3]
         clear Hh CD kZ h1 h2 h3
         go_enter Tryz.func108,Tryz.ntmps108
         go_wp2_with fail
         refine(HD.o _).mono ?_
         rintro e w1 ⟨rfl,hb1⟩
         have bh:=ai (cP.o.trans (hb1.mono cP.o.size))
         have vP:=ai (B.below BP.o hb1 (B.isLt BP.o))
         have iY:=ai (B.below BR.o hb1 (B.isLt BR.o))
         have tJ:=ai ((Below.refl w1.heap.size w1).alloc (Nat.le_refl _) (.cells #[I op,I a,I b,I c,I m] 99))
         have ou:=ai (B.new w1 #[I op,I a,I b,I c,I m] 99)
         clear hb1
         go_wp2_with fail
         refine(HK.o _).mono ?_
         rintro e w2 ⟨rfl,hb2⟩
         have bY:=ai (bh.o.trans ((tJ.o.trans (hb2.mono tJ.o.size)).mono bh.o.size))
         have vk:=ai (B.below (B.alloc vP.o _) hb2 (B.isLt (B.alloc vP.o _)))
         have rX:=ai (B.below (B.alloc iY.o _) hb2 (B.isLt (B.alloc iY.o _)))
         have zB:=ai (B.below ou.o hb2 (B.isLt ou.o))
         have ZW:=bY.o.size
         have l0:=B.isLt vk.o
         have l1:=B.isLt rX.o
         have l2:=B.isLt zB.o
         have ZY:¬w1.heap.size=w.heap.size+1:=fun h=>by have:=B.isLt iY.o;omega
         clear hb2 tJ ou
         obtain⟨t0,t1,t2,t3,t4⟩:=B.c5 rX.o
         have u0:∀j,w2.frozen? (Ad (w.heap.size+1) j)=false:=fun j=>B.free rX.o j
         go_wp2
         refine bodyPost_ret (v:=.tuple #[.agg #[I 0,I 0,I 0,I 0,I 0],I 0]) (by simp[results,Tryz.results108,go_sem,t0,t1,t2,t3,t4,l1]) rfl ?_
         exact⟨rfl,(by first | exact(cQ bY.o (Nat.le_succ _) _ _ _ _ _).alloc (by simp;omega) _ | exact((cQ bY.o (Nat.le_succ _) _ _ _ _ _).alloc (by simp;omega) _).drew)⟩
 · simp only[if_true] at CD kZ
   obtain rfl:K=4:=CD.o
   obtain rfl:=kZ.o
   clear Hh CD kZ
   go_enter Tryz.func108,Tryz.ntmps108
   go_wp2_with fail
   refine(HD.o _).mono ?_
   rintro e w1 ⟨rfl,hb1⟩
   have bh:=ai (cP.o.trans (hb1.mono cP.o.size))
   have vP:=ai (B.below BP.o hb1 (B.isLt BP.o))
   have iY:=ai (B.below BR.o hb1 (B.isLt BR.o))
   have tJ:=ai ((Below.refl w1.heap.size w1).alloc (Nat.le_refl _) (.cells #[I op,I a,I b,I c,I m] 99))
   have ou:=ai (B.new w1 #[I op,I a,I b,I c,I m] 99)
   clear hb1
   go_wp2_with fail
   refine(HK.o _).mono ?_
   rintro e w2 ⟨rfl,hb2⟩
   have bY:=ai (bh.o.trans ((tJ.o.trans (hb2.mono tJ.o.size)).mono bh.o.size))
   have vk:=ai (B.below (B.alloc vP.o _) hb2 (B.isLt (B.alloc vP.o _)))
   have rX:=ai (B.below (B.alloc iY.o _) hb2 (B.isLt (B.alloc iY.o _)))
   have zB:=ai (B.below ou.o hb2 (B.isLt ou.o))
   have ZW:=bY.o.size
   have l0:=B.isLt vk.o
   have l1:=B.isLt rX.o
   have l2:=B.isLt zB.o
   have ZY:¬w1.heap.size=w.heap.size+1:=fun h=>by have:=B.isLt iY.o;omega
   clear hb2 tJ ou
   obtain⟨t0,t1,t2,t3,t4⟩:=B.c5 rX.o
   have u0:∀j,w2.frozen? (Ad (w.heap.size+1) j)=false:=fun j=>B.free rX.o j
   go_wp2
   refine bodyPost_ret (v:=.tuple #[.agg #[I 4,I 0,I 0,I 0,I 0],I 0]) (by simp[results,Tryz.results108,go_sem,t0,t1,t2,t3,t4,l1]) rfl ?_
   exact⟨rfl,(by first | exact(cQ bY.o (Nat.le_succ _) _ _ _ _ _).alloc (by simp;omega) _ | exact((cQ bY.o (Nat.le_succ _) _ _ _ _ _).alloc (by simp;omega) _).drew)⟩
theorem Oj (p:PM.Pr) (i:PM.ey) (w:World) (hfit:i.fits) (hbad:i.bad=false):Calls Tryz.prog 51 #[p.val,.agg i.cells] w fun e w'=>e=.returned (.agg (PM.km p i))/\Below w.heap.size w w':=by
 have HD:=ai (xx i)
 rw[hbad] at HD
 obtain⟨op,a,b,c,m⟩:=i
 have Hh:=ai (fun h=>Ic op a b c m hfit h hbad)
 have kZ:Hid (PM.km p ⟨op,a,b,c,m⟩=if op=9 then #[I 1,I (wrap64 (p.r b.toNat+m)),I c,I 0,I 0] else if op=10 then #[I 2,I (wrap64 (p.r b.toNat+m)),I c,I (p.r a.toNat),I 0] else if op=16 then #[I 3,I 0,I 0,I 0,I m] else #[I 0,I 0,I 0,I 0,I 0]):=ai (by unfold PM.km;rw[hbad];rfl)
 obtain⟨Q,hQ⟩:=ex (PM.km p ⟨op,a,b,c,m⟩)
 rw[<- hQ] at kZ ⊢
 clear hQ hfit hbad
 unfold PM.ey.cells at HD ⊢
 simp only at HD ⊢
 unfold PM.Pr.val
 by_cases h1:op=9
 · obtain⟨na,nb,rfl,rfl,eD,hnb⟩:=Hh.o (.inl h1)
   subst h1
   obtain rfl:=kZ.o
   clear Hh kZ
   rw[if_pos rfl,Int.toNat_natCast]
   have cP:=ai ((((Below.refl w.heap.size w).alloc (Nat.le_refl _) (.cells p.row 70)).alloc (by simp) (.cells #[I 9,I na,I nb,I c,I m] 99)).alloc (by simp;omega) (.cells #[I 0,I 0,I 0,I 0,I 0] 101))
   have BP:=ai (B.alloc (B.alloc (B.new w p.row 70) (.cells #[I 9,I na,I nb,I c,I m] 99)) (.cells #[I 0,I 0,I 0,I 0,I 0] 101))
   have BI:=ai (B.alloc (B.new (w.alloc (.cells p.row 70)) #[I 9,I na,I nb,I c,I m] 99) (.cells #[I 0,I 0,I 0,I 0,I 0] 101))
   have BR:=ai (B.new ((w.alloc (.cells p.row 70)).alloc (.cells #[I 9,I na,I nb,I c,I m] 99)) #[I 0,I 0,I 0,I 0,I 0] 101)
   rw[World.size_alloc] at BI
   rw[World.size_alloc,World.size_alloc] at BR
   go_enter Tryz.func51,Tryz.ntmps51
   go_wp2_with fail
   refine(HD.o _).mono ?_
   rintro e w1 ⟨rfl,hb1⟩
   have bh:=ai (cP.o.trans (hb1.mono cP.o.size))
   have vP:=ai (B.below BP.o hb1 (B.isLt BP.o))
   have ou:=ai (B.below BI.o hb1 (B.isLt BI.o))
   have iY:=ai (B.below BR.o hb1 (B.isLt BR.o))
   clear hb1 cP BP BI BR HD
   have ZX:=bh.o.size
   have l1:=B.isLt iY.o
   have i0:w1.cell? (Ad (w.heap.size+1) 0)=some (I 9):=B.cell ou.o 0 rfl
   obtain⟨t0,t1,t2,t3,t4⟩:=B.c5 iY.o
   have u0:∀j,w1.frozen? (Ad (w.heap.size+1+1) j)=false:=fun j=>B.free iY.o j
   have cb:w1.cell? (Ad w.heap.size nb)=some (I (p.r nb)):=B.cell vP.o nb (PM.jO p nb hnb)
   have i2:w1.cell? (Ad (w.heap.size+1) 2)=some (I nb):=B.cell ou.o 2 rfl
   have i3:w1.cell? (Ad (w.heap.size+1) 3)=some (I c):=B.cell ou.o 3 rfl
   have i4:w1.cell? (Ad (w.heap.size+1) 4)=some (I m):=B.cell ou.o 4 rfl
   go_wp2_with fail
   go_region
   go_wp2
   refine bodyPost_ret (v:=.agg #[I 1,I (wrap64 (p.r nb+m)),I c,I 0,I 0]) (by simp[results,Tryz.results51,go_sem,t0,t1,t2,t3,t4]) rfl ?_
   exact⟨rfl,(by first | exact cQ bh.o (by omega) _ _ _ _ _ | exact(cQ bh.o (by omega) _ _ _ _ _).drew)⟩
 · by_cases h2:op=10
   · obtain⟨na,nb,rfl,rfl,eD,hnb⟩:=Hh.o (.inr h2)
     subst h2
     obtain rfl:=kZ.o
     clear Hh kZ h1
     rw[if_neg (by decide),if_pos rfl,Int.toNat_natCast,Int.toNat_natCast]
     have cP:=ai ((((Below.refl w.heap.size w).alloc (Nat.le_refl _) (.cells p.row 70)).alloc (by simp) (.cells #[I 10,I na,I nb,I c,I m] 99)).alloc (by simp;omega) (.cells #[I 0,I 0,I 0,I 0,I 0] 101))
     have BP:=ai (B.alloc (B.alloc (B.new w p.row 70) (.cells #[I 10,I na,I nb,I c,I m] 99)) (.cells #[I 0,I 0,I 0,I 0,I 0] 101))
     have BI:=ai (B.alloc (B.new (w.alloc (.cells p.row 70)) #[I 10,I na,I nb,I c,I m] 99) (.cells #[I 0,I 0,I 0,I 0,I 0] 101))
     have BR:=ai (B.new ((w.alloc (.cells p.row 70)).alloc (.cells #[I 10,I na,I nb,I c,I m] 99)) #[I 0,I 0,I 0,I 0,I 0] 101)
     rw[World.size_alloc] at BI
     rw[World.size_alloc,World.size_alloc] at BR
     go_enter Tryz.func51,Tryz.ntmps51
     go_wp2_with fail
     refine(HD.o _).mono ?_
     rintro e w1 ⟨rfl,hb1⟩
     have bh:=ai (cP.o.trans (hb1.mono cP.o.size))
     have vP:=ai (B.below BP.o hb1 (B.isLt BP.o))
     have ou:=ai (B.below BI.o hb1 (B.isLt BI.o))
     have iY:=ai (B.below BR.o hb1 (B.isLt BR.o))
     clear hb1 cP BP BI BR HD
     have ZX:=bh.o.size
     have l1:=B.isLt iY.o
     have i0:w1.cell? (Ad (w.heap.size+1) 0)=some (I 10):=B.cell ou.o 0 rfl
     obtain⟨t0,t1,t2,t3,t4⟩:=B.c5 iY.o
     have u0:∀j,w1.frozen? (Ad (w.heap.size+1+1) j)=false:=fun j=>B.free iY.o j
     have ca:w1.cell? (Ad w.heap.size na)=some (I (p.r na)):=B.cell vP.o na (PM.jO p na eD)
     have i1:w1.cell? (Ad (w.heap.size+1) 1)=some (I na):=B.cell ou.o 1 rfl
     have cb:w1.cell? (Ad w.heap.size nb)=some (I (p.r nb)):=B.cell vP.o nb (PM.jO p nb hnb)
     have i2:w1.cell? (Ad (w.heap.size+1) 2)=some (I nb):=B.cell ou.o 2 rfl
     have i3:w1.cell? (Ad (w.heap.size+1) 3)=some (I c):=B.cell ou.o 3 rfl
     have i4:w1.cell? (Ad (w.heap.size+1) 4)=some (I m):=B.cell ou.o 4 rfl
     go_wp2_with fail
     go_region
     go_wp2
     refine bodyPost_ret (v:=.agg #[I 2,I (wrap64 (p.r nb+m)),I c,I (p.r na),I 0]) (by simp[results,Tryz.results51,go_sem,t0,t1,t2,t3,t4]) rfl ?_
     exact⟨rfl,(by first | exact cQ bh.o (by omega) _ _ _ _ _ | exact(cQ bh.o (by omega) _ _ _ _ _).drew)⟩
   · by_cases h3:op=16
     · subst h3
       obtain rfl:=kZ.o
       clear Hh kZ h1 h2
       rw[if_neg (by decide),if_neg (by decide),if_pos rfl]
       have cP:=ai ((((Below.refl w.heap.size w).alloc (Nat.le_refl _) (.cells p.row 70)).alloc (by simp) (.cells #[I 16,I a,I b,I c,I m] 99)).alloc (by simp;omega) (.cells #[I 0,I 0,I 0,I 0,I 0] 101))
       have BP:=ai (B.alloc (B.alloc (B.new w p.row 70) (.cells #[I 16,I a,I b,I c,I m] 99)) (.cells #[I 0,I 0,I 0,I 0,I 0] 101))
       have BI:=ai (B.alloc (B.new (w.alloc (.cells p.row 70)) #[I 16,I a,I b,I c,I m] 99) (.cells #[I 0,I 0,I 0,I 0,I 0] 101))
       have BR:=ai (B.new ((w.alloc (.cells p.row 70)).alloc (.cells #[I 16,I a,I b,I c,I m] 99)) #[I 0,I 0,I 0,I 0,I 0] 101)
       rw[World.size_alloc] at BI
       rw[World.size_alloc,World.size_alloc] at BR
       go_enter Tryz.func51,Tryz.ntmps51
       go_wp2_with fail
       refine(HD.o _).mono ?_
       rintro e w1 ⟨rfl,hb1⟩
       have bh:=ai (cP.o.trans (hb1.mono cP.o.size))
       have vP:=ai (B.below BP.o hb1 (B.isLt BP.o))
       have ou:=ai (B.below BI.o hb1 (B.isLt BI.o))
       have iY:=ai (B.below BR.o hb1 (B.isLt BR.o))
       clear hb1 cP BP BI BR HD
       have ZX:=bh.o.size
       have l1:=B.isLt iY.o
       have i0:w1.cell? (Ad (w.heap.size+1) 0)=some (I 16):=B.cell ou.o 0 rfl
       obtain⟨t0,t1,t2,t3,t4⟩:=B.c5 iY.o
       have u0:∀j,w1.frozen? (Ad (w.heap.size+1+1) j)=false:=fun j=>B.free iY.o j
       have i4:w1.cell? (Ad (w.heap.size+1) 4)=some (I m):=B.cell ou.o 4 rfl
       go_wp2
       refine bodyPost_ret (v:=.agg #[I 3,I 0,I 0,I 0,I m]) (by simp[results,Tryz.results51,go_sem,t0,t1,t2,t3,t4]) rfl ?_
       exact⟨rfl,(by first | exact cQ bh.o (by omega) _ _ _ _ _ | exact(cQ bh.o (by omega) _ _ _ _ _).drew)⟩
     · obtain rfl:Q=#[I 0,I 0,I 0,I 0,I 0]:=by rw[kZ.o,if_neg h1,if_neg h2,if_neg h3]
       clear Hh kZ
       have cP:=ai ((((Below.refl w.heap.size w).alloc (Nat.le_refl _) (.cells p.row 70)).alloc (by simp) (.cells #[I op,I a,I b,I c,I m] 99)).alloc (by simp;omega) (.cells #[I 0,I 0,I 0,I 0,I 0] 101))
       have BP:=ai (B.alloc (B.alloc (B.new w p.row 70) (.cells #[I op,I a,I b,I c,I m] 99)) (.cells #[I 0,I 0,I 0,I 0,I 0] 101))
       have BI:=ai (B.alloc (B.new (w.alloc (.cells p.row 70)) #[I op,I a,I b,I c,I m] 99) (.cells #[I 0,I 0,I 0,I 0,I 0] 101))
       have BR:=ai (B.new ((w.alloc (.cells p.row 70)).alloc (.cells #[I op,I a,I b,I c,I m] 99)) #[I 0,I 0,I 0,I 0,I 0] 101)
       rw[World.size_alloc] at BI
       rw[World.size_alloc,World.size_alloc] at BR
       go_enter Tryz.func51,Tryz.ntmps51
       go_wp2_with fail
       refine(HD.o _).mono ?_
       rintro e w1 ⟨rfl,hb1⟩
       have bh:=ai (cP.o.trans (hb1.mono cP.o.size))
       have vP:=ai (B.below BP.o hb1 (B.isLt BP.o))
       have ou:=ai (B.below BI.o hb1 (B.isLt BI.o))
       have iY:=ai (B.below BR.o hb1 (B.isLt BR.o))
       clear hb1 cP BP BI BR HD
       have ZX:=bh.o.size
       have l1:=B.isLt iY.o
       have i0:w1.cell? (Ad (w.heap.size+1) 0)=some (I op):=B.cell ou.o 0 rfl
       obtain⟨t0,t1,t2,t3,t4⟩:=B.c5 iY.o
       have u0:∀j,w1.frozen? (Ad (w.heap.size+1+1) j)=false:=fun j=>B.free iY.o j
       go_wp2
       refine bodyPost_ret (v:=.agg #[I 0,I 0,I 0,I 0,I 0]) (by simp[results,Tryz.results51,go_sem,t0,t1,t2,t3,t4]) rfl ?_
       exact⟨rfl,(by first | exact cQ bh.o (by omega) _ _ _ _ _ | exact(cQ bh.o (by omega) _ _ _ _ _).drew)⟩
end PW
end Go.Proofs.YtkdigjpejnebkaaGreat
