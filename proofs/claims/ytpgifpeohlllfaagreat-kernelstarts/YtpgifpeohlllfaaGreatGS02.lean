import Derived.Test.YtpgifpeohlllfaaGreatGS00
import Derived.Lib.SliceRun
import Derived.Test.YtpgifpeohlllfaaGreatGS01
import Derived.WalkKit
import Derived.Below
import Derived.Lib.Strings
import Derived.Lib.Endian
import Derived.Lib.EndianBits
import Derived.Laws.BytesArg
import Derived.Lib.UnsafeStr
import Derived.Lib.Walk
import Derived.Lib.BufferWrite
import Derived.Laws.IdiomStrings
set_option maxHeartbeats 20000000
set_option linter.unusedVariables false
set_option maxRecDepth 100000
set_option linter.unusedSimpArgs false
namespace Go.Proofs.YtpgifpeohlllfaaGreat
namespace GK
open Go.RowKit
open FW (ai aB)
def From (w:World) (ao:Option Addr) (m:Nat) (news:List Value):Prop:=0<m->∃ad,ao=some ad/\∀j u,news[j]?=some u->w.cell? (ad.add j)=some u
theorem From.below {w w':World} {ao:Option Addr} {m:Nat} {news:List Value} (h:From w ao m news) (hb:Below w.heap.size w w'):From w' ao m news:=fun hm=>by
 obtain⟨ad,e,hc⟩:=h hm
 refine⟨ad,e,fun j u hu=>?_⟩
 have:=hc j u hu
 exact(hb.cell (World.block_lt_of_cell? w _ this)).trans this
theorem NZ:(Tryz.prog.info? 47).map (fun i=>(i.zero,i.size,i.bytes))=some (some (.agg #[I 0,I 0,I 0,.bool false]),4,32):=by kernel_rfl
theorem RZ (ao:Option Addr) (n c:Nat) (xs:List Value) (w:World) (hl:xs.length=n*4) (h:From w ao n xs) (h1:∀u∈xs,u.oneCell'=true) (hn:n<=1000000) :
  Calls Tryz.prog 129 #[.slice ao n c] w fun e w'=>∃v,e=.returned v/\w'.ownsRow w.heap.size 47 4 v n xs/\Below w.heap.size w w':=by
 have HH:=ai h
 have HL:=ai hl
 have H1:=ai h1
 clear h hl h1
 have q:∀(w:World) (a:Option Addr) (n c n' c':Nat),(binOp .eql 28 (.slice a n c) (.slice none n' c')).run Tryz.prog w=.ok (.bool a.isNone) w:=fun w a n c n' c'=>Lib.run_eql_slice_nil w _ _ a n c n' c' Tryz.underlying28
 obtain⟨i0,hin,hz0,hz1,hz2⟩:=info_parts NZ
 cases ao with
 | none =>
  have h0:n=0:=by
   by_cases g:0<n
   · obtain⟨ad,e,_⟩:=HH.o g
     cases e
   · omega
  subst h0
  have hx:xs=[]:=List.eq_nil_of_length_eq_zero (by rw[HL.o])
  subst hx
  clear HH HL H1 hin hz0 hz1 hz2
  go_enter Tryz.func129,Tryz.ntmps129
  go_wp2
  go_ret
  exact⟨_,rfl,World.ownsRow_nil _ _ _ _,Below.refl _ _⟩
 | some ad =>
  have qI:=ai hin
  have wS:=ai hz0
  have wR:=ai hz1
  have uO:=ai hz2
  clear hin hz0 hz1 hz2
  go_enter Tryz.func129,Tryz.ntmps129
  go_wp2_with (at_builtin;refine bQ (P:=Tryz.prog) rfl _ _ 28 rfl w.heap.size 47 i0 (.agg #[I 0,I 0,I 0,.bool false]) 4 32 Tryz.underlying28 qI.o wS.o wR.o uO.o rfl (by decide) (.slice (some (Ad w.heap.size 0)) 0 0) 0 [] (by rfl) (World.ownsRow_made w #[] 0 (Nat.le_refl _) (by unfold maxLen;omega) (by simp)) (some ad) n c xs (by rfl) HL.o ((HH.o.below ((Below.refl _ _).alloc (Nat.le_refl _) _))) H1.o (by unfold maxLen;omega) (by omega) (by simp) ?_;intro v' w' hown hgr hat;have HOWN:=ai hown;have C8:=ai hgr;clear hown hgr hat)
  go_ret
  have hown:=HOWN.o
  have hgr:=C8.o
  rw[Nat.zero_add] at hown
  exact⟨_,rfl,hown,((Below.refl _ _).alloc (Nat.le_refl _) _).grown hgr (by simp) (fun k hk=>by simp[Value.ownBlock] at hk;omega)⟩
theorem yF:(Tryz.prog.info? 45).map (fun i=>(i.zero,i.size,i.bytes))=some (some (.agg #[I 0,I 0,I 0]),3,24):=by kernel_rfl
theorem RY (ao:Option Addr) (n c:Nat) (xs:List Value) (w:World) (hl:xs.length=n*3) (h:From w ao n xs) (h1:∀u∈xs,u.oneCell'=true) (hn:n<=1000000) :
  Calls Tryz.prog 130 #[.slice ao n c] w fun e w'=>∃v,e=.returned v/\w'.ownsRow w.heap.size 45 3 v n xs/\Below w.heap.size w w':=by
 have HH:=ai h
 have HL:=ai hl
 have H1:=ai h1
 clear h hl h1
 have q:∀(w:World) (a:Option Addr) (n c n' c':Nat),(binOp .eql 41 (.slice a n c) (.slice none n' c')).run Tryz.prog w=.ok (.bool a.isNone) w:=fun w a n c n' c'=>Lib.run_eql_slice_nil w _ _ a n c n' c' Tryz.underlying41
 obtain⟨i0,hin,hz0,hz1,hz2⟩:=info_parts yF
 cases ao with
 | none =>
  have h0:n=0:=by
   by_cases g:0<n
   · obtain⟨ad,e,_⟩:=HH.o g
     cases e
   · omega
  subst h0
  have hx:xs=[]:=List.eq_nil_of_length_eq_zero (by rw[HL.o])
  subst hx
  clear HH HL H1 hin hz0 hz1 hz2
  go_enter Tryz.func130,Tryz.ntmps130
  go_wp2
  go_ret
  exact⟨_,rfl,World.ownsRow_nil _ _ _ _,Below.refl _ _⟩
 | some ad =>
  have qI:=ai hin
  have wS:=ai hz0
  have wR:=ai hz1
  have uO:=ai hz2
  clear hin hz0 hz1 hz2
  go_enter Tryz.func130,Tryz.ntmps130
  go_wp2_with (at_builtin;refine bQ (P:=Tryz.prog) rfl _ _ 41 rfl w.heap.size 45 i0 (.agg #[I 0,I 0,I 0]) 3 24 Tryz.underlying41 qI.o wS.o wR.o uO.o rfl (by decide) (.slice (some (Ad w.heap.size 0)) 0 0) 0 [] (by rfl) (World.ownsRow_made w #[] 0 (Nat.le_refl _) (by unfold maxLen;omega) (by simp)) (some ad) n c xs (by rfl) HL.o ((HH.o.below ((Below.refl _ _).alloc (Nat.le_refl _) _))) H1.o (by unfold maxLen;omega) (by omega) (by simp) ?_;intro v' w' hown hgr hat;have HOWN:=ai hown;have C8:=ai hgr;clear hown hgr hat)
  go_ret
  have hown:=HOWN.o
  have hgr:=C8.o
  rw[Nat.zero_add] at hown
  exact⟨_,rfl,hown,((Below.refl _ _).alloc (Nat.le_refl _) _).grown hgr (by simp) (fun k hk=>by simp[Value.ownBlock] at hk;omega)⟩
theorem NY:(Tryz.prog.info? 40).map (fun i=>(i.zero,i.size,i.bytes))=some (some (.agg #[.string ⟨#[]⟩,I 0,.bool false,.bool false]),4,32):=by kernel_rfl
theorem RX (ao:Option Addr) (n c:Nat) (xs:List Value) (w:World) (hl:xs.length=n*4) (h:From w ao n xs) (h1:∀u∈xs,u.oneCell'=true) (hn:n<=1000000) :
  Calls Tryz.prog 104 #[.slice ao n c] w fun e w'=>∃v,e=.returned v/\w'.ownsRow w.heap.size 40 4 v n xs/\Below w.heap.size w w':=by
 have HH:=ai h
 have HL:=ai hl
 have H1:=ai h1
 clear h hl h1
 have q:∀(w:World) (a:Option Addr) (n c n' c':Nat),(binOp .eql 23 (.slice a n c) (.slice none n' c')).run Tryz.prog w=.ok (.bool a.isNone) w:=fun w a n c n' c'=>Lib.run_eql_slice_nil w _ _ a n c n' c' Tryz.underlying23
 obtain⟨i0,hin,hz0,hz1,hz2⟩:=info_parts NY
 cases ao with
 | none =>
  have h0:n=0:=by
   by_cases g:0<n
   · obtain⟨ad,e,_⟩:=HH.o g
     cases e
   · omega
  subst h0
  have hx:xs=[]:=List.eq_nil_of_length_eq_zero (by rw[HL.o])
  subst hx
  clear HH HL H1 hin hz0 hz1 hz2
  go_enter Tryz.func104,Tryz.ntmps104
  go_wp2
  go_ret
  exact⟨_,rfl,World.ownsRow_nil _ _ _ _,Below.refl _ _⟩
 | some ad =>
  have qI:=ai hin
  have wS:=ai hz0
  have wR:=ai hz1
  have uO:=ai hz2
  clear hin hz0 hz1 hz2
  go_enter Tryz.func104,Tryz.ntmps104
  go_wp2_with (at_builtin;refine bQ (P:=Tryz.prog) rfl _ _ 23 rfl w.heap.size 40 i0 (.agg #[.string ⟨#[]⟩,I 0,.bool false,.bool false]) 4 32 Tryz.underlying23 qI.o wS.o wR.o uO.o rfl (by decide) (.slice (some (Ad w.heap.size 0)) 0 0) 0 [] (by rfl) (World.ownsRow_made w #[] 0 (Nat.le_refl _) (by unfold maxLen;omega) (by simp)) (some ad) n c xs (by rfl) HL.o ((HH.o.below ((Below.refl _ _).alloc (Nat.le_refl _) _))) H1.o (by unfold maxLen;omega) (by omega) (by simp) ?_;intro v' w' hown hgr hat;have HOWN:=ai hown;have C8:=ai hgr;clear hown hgr hat)
  go_ret
  have hown:=HOWN.o
  have hgr:=C8.o
  rw[Nat.zero_add] at hown
  exact⟨_,rfl,hown,((Below.refl _ _).alloc (Nat.le_refl _) _).grown hgr (by simp) (fun k hk=>by simp[Value.ownBlock] at hk;omega)⟩
theorem NW:(Tryz.prog.info? 86).map (fun i=>(i.zero,i.size,i.bytes))=some (some (.agg #[.string ⟨#[]⟩,I 0]),2,24):=by kernel_rfl
theorem RR (ao:Option Addr) (n c:Nat) (xs:List Value) (w:World) (hl:xs.length=n*2) (h:From w ao n xs) (h1:∀u∈xs,u.oneCell'=true) (hn:n<=1000000) :
  Calls Tryz.prog 105 #[.slice ao n c] w fun e w'=>∃v,e=.returned v/\w'.ownsRow w.heap.size 86 2 v n xs/\Below w.heap.size w w':=by
 have HH:=ai h
 have HL:=ai hl
 have H1:=ai h1
 clear h hl h1
 have q:∀(w:World) (a:Option Addr) (n c n' c':Nat),(binOp .eql 24 (.slice a n c) (.slice none n' c')).run Tryz.prog w=.ok (.bool a.isNone) w:=fun w a n c n' c'=>Lib.run_eql_slice_nil w _ _ a n c n' c' Tryz.underlying24
 obtain⟨i0,hin,hz0,hz1,hz2⟩:=info_parts NW
 cases ao with
 | none =>
  have h0:n=0:=by
   by_cases g:0<n
   · obtain⟨ad,e,_⟩:=HH.o g
     cases e
   · omega
  subst h0
  have hx:xs=[]:=List.eq_nil_of_length_eq_zero (by rw[HL.o])
  subst hx
  clear HH HL H1 hin hz0 hz1 hz2
  go_enter Tryz.func105,Tryz.ntmps105
  go_wp2
  go_ret
  exact⟨_,rfl,World.ownsRow_nil _ _ _ _,Below.refl _ _⟩
 | some ad =>
  have qI:=ai hin
  have wS:=ai hz0
  have wR:=ai hz1
  have uO:=ai hz2
  clear hin hz0 hz1 hz2
  go_enter Tryz.func105,Tryz.ntmps105
  go_wp2_with (at_builtin;refine bQ (P:=Tryz.prog) rfl _ _ 24 rfl w.heap.size 86 i0 (.agg #[.string ⟨#[]⟩,I 0]) 2 24 Tryz.underlying24 qI.o wS.o wR.o uO.o rfl (by decide) (.slice (some (Ad w.heap.size 0)) 0 0) 0 [] (by rfl) (World.ownsRow_made w #[] 0 (Nat.le_refl _) (by unfold maxLen;omega) (by simp)) (some ad) n c xs (by rfl) HL.o ((HH.o.below ((Below.refl _ _).alloc (Nat.le_refl _) _))) H1.o (by unfold maxLen;omega) (by omega) (by simp) ?_;intro v' w' hown hgr hat;have HOWN:=ai hown;have C8:=ai hgr;clear hown hgr hat)
  go_ret
  have hown:=HOWN.o
  have hgr:=C8.o
  rw[Nat.zero_add] at hown
  exact⟨_,rfl,hown,((Below.refl _ _).alloc (Nat.le_refl _) _).grown hgr (by simp) (fun k hk=>by simp[Value.ownBlock] at hk;omega)⟩
theorem yE:(Tryz.prog.info? 50).map (fun i=>(i.zero,i.size,i.bytes))=some (some (.agg #[I 0,.string ⟨#[]⟩,Nl]),3,48):=by kernel_rfl
theorem RT (ao:Option Addr) (n c:Nat) (xs:List Value) (w:World) (hl:xs.length=n*3) (h:From w ao n xs) (h1:∀u∈xs,u.oneCell'=true) (hn:n<=1000000) :
  Calls Tryz.prog 103 #[.slice ao n c] w fun e w'=>∃v,e=.returned v/\w'.ownsRow w.heap.size 50 3 v n xs/\Below w.heap.size w w':=by
 have HH:=ai h
 have HL:=ai hl
 have H1:=ai h1
 clear h hl h1
 have q:∀(w:World) (a:Option Addr) (n c n' c':Nat),(binOp .eql 22 (.slice a n c) (.slice none n' c')).run Tryz.prog w=.ok (.bool a.isNone) w:=fun w a n c n' c'=>Lib.run_eql_slice_nil w _ _ a n c n' c' Tryz.underlying22
 obtain⟨i0,hin,hz0,hz1,hz2⟩:=info_parts yE
 cases ao with
 | none =>
  have h0:n=0:=by
   by_cases g:0<n
   · obtain⟨ad,e,_⟩:=HH.o g
     cases e
   · omega
  subst h0
  have hx:xs=[]:=List.eq_nil_of_length_eq_zero (by rw[HL.o])
  subst hx
  clear HH HL H1 hin hz0 hz1 hz2
  go_enter Tryz.func103,Tryz.ntmps103
  go_wp2
  go_ret
  exact⟨_,rfl,World.ownsRow_nil _ _ _ _,Below.refl _ _⟩
 | some ad =>
  have qI:=ai hin
  have wS:=ai hz0
  have wR:=ai hz1
  have uO:=ai hz2
  clear hin hz0 hz1 hz2
  go_enter Tryz.func103,Tryz.ntmps103
  go_wp2_with (at_builtin;refine bQ (P:=Tryz.prog) rfl _ _ 22 rfl w.heap.size 50 i0 (.agg #[I 0,.string ⟨#[]⟩,Nl]) 3 48 Tryz.underlying22 qI.o wS.o wR.o uO.o rfl (by decide) (.slice (some (Ad w.heap.size 0)) 0 0) 0 [] (by rfl) (World.ownsRow_made w #[] 0 (Nat.le_refl _) (by unfold maxLen;omega) (by simp)) (some ad) n c xs (by rfl) HL.o ((HH.o.below ((Below.refl _ _).alloc (Nat.le_refl _) _))) H1.o (by unfold maxLen;omega) (by omega) (by simp) ?_;intro v' w' hown hgr hat;have HOWN:=ai hown;have C8:=ai hgr;clear hown hgr hat)
  go_ret
  have hown:=HOWN.o
  have hgr:=C8.o
  rw[Nat.zero_add] at hown
  exact⟨_,rfl,hown,((Below.refl _ _).alloc (Nat.le_refl _) _).grown hgr (by simp) (fun k hk=>by simp[Value.ownBlock] at hk;omega)⟩
theorem CE:(Tryz.prog.info? 52).map (fun i=>(i.zero,i.size,i.bytes))=some (some (.agg #[I 0,.string ⟨#[]⟩]),2,24):=by kernel_rfl
theorem RV (ao:Option Addr) (n c:Nat) (xs:List Value) (w:World) (hl:xs.length=n*2) (h:From w ao n xs) (h1:∀u∈xs,u.oneCell'=true) (hn:n<=1000000) :
  Calls Tryz.prog 106 #[.slice ao n c] w fun e w'=>∃v,e=.returned v/\w'.ownsRow w.heap.size 52 2 v n xs/\Below w.heap.size w w':=by
 have HH:=ai h
 have HL:=ai hl
 have H1:=ai h1
 clear h hl h1
 have q:∀(w:World) (a:Option Addr) (n c n' c':Nat),(binOp .eql 48 (.slice a n c) (.slice none n' c')).run Tryz.prog w=.ok (.bool a.isNone) w:=fun w a n c n' c'=>Lib.run_eql_slice_nil w _ _ a n c n' c' Tryz.underlying48
 obtain⟨i0,hin,hz0,hz1,hz2⟩:=info_parts CE
 cases ao with
 | none =>
  have h0:n=0:=by
   by_cases g:0<n
   · obtain⟨ad,e,_⟩:=HH.o g
     cases e
   · omega
  subst h0
  have hx:xs=[]:=List.eq_nil_of_length_eq_zero (by rw[HL.o])
  subst hx
  clear HH HL H1 hin hz0 hz1 hz2
  go_enter Tryz.func106,Tryz.ntmps106
  go_wp2
  go_ret
  exact⟨_,rfl,World.ownsRow_nil _ _ _ _,Below.refl _ _⟩
 | some ad =>
  have qI:=ai hin
  have wS:=ai hz0
  have wR:=ai hz1
  have uO:=ai hz2
  clear hin hz0 hz1 hz2
  go_enter Tryz.func106,Tryz.ntmps106
  go_wp2_with (at_builtin;refine bQ (P:=Tryz.prog) rfl _ _ 48 rfl w.heap.size 52 i0 (.agg #[I 0,.string ⟨#[]⟩]) 2 24 Tryz.underlying48 qI.o wS.o wR.o uO.o rfl (by decide) (.slice (some (Ad w.heap.size 0)) 0 0) 0 [] (by rfl) (World.ownsRow_made w #[] 0 (Nat.le_refl _) (by unfold maxLen;omega) (by simp)) (some ad) n c xs (by rfl) HL.o ((HH.o.below ((Below.refl _ _).alloc (Nat.le_refl _) _))) H1.o (by unfold maxLen;omega) (by omega) (by simp) ?_;intro v' w' hown hgr hat;have HOWN:=ai hown;have C8:=ai hgr;clear hown hgr hat)
  go_ret
  have hown:=HOWN.o
  have hgr:=C8.o
  rw[Nat.zero_add] at hown
  exact⟨_,rfl,hown,((Below.refl _ _).alloc (Nat.le_refl _) _).grown hgr (by simp) (fun k hk=>by simp[Value.ownBlock] at hk;omega)⟩
theorem GY:(Tryz.prog.info? 3).map (fun i=>(i.zero,i.size,i.bytes))=some (some (I 0),1,8):=by kernel_rfl
theorem RU (ao:Option Addr) (n c:Nat) (xs:List Value) (w:World) (hl:xs.length=n*1) (h:From w ao n xs) (h1:∀u∈xs,u.oneCell'=true) (hn:n<=1000000) :
  Calls Tryz.prog 167 #[.slice ao n c] w fun e w'=>∃v,e=.returned v/\w'.ownsRow w.heap.size 3 1 v n xs/\Below w.heap.size w w':=by
 have HH:=ai h
 have HL:=ai hl
 have H1:=ai h1
 clear h hl h1
 have q:∀(w:World) (a:Option Addr) (n c n' c':Nat),(binOp .eql 99 (.slice a n c) (.slice none n' c')).run Tryz.prog w=.ok (.bool a.isNone) w:=fun w a n c n' c'=>Lib.run_eql_slice_nil w _ _ a n c n' c' Tryz.underlying99
 obtain⟨i0,hin,hz0,hz1,hz2⟩:=info_parts GY
 cases ao with
 | none =>
  have h0:n=0:=by
   by_cases g:0<n
   · obtain⟨ad,e,_⟩:=HH.o g
     cases e
   · omega
  subst h0
  have hx:xs=[]:=List.eq_nil_of_length_eq_zero (by rw[HL.o])
  subst hx
  clear HH HL H1 hin hz0 hz1 hz2
  go_enter Tryz.func167,Tryz.ntmps167
  go_wp2
  go_ret
  exact⟨_,rfl,World.ownsRow_nil _ _ _ _,Below.refl _ _⟩
 | some ad =>
  have qI:=ai hin
  have wS:=ai hz0
  have wR:=ai hz1
  have uO:=ai hz2
  clear hin hz0 hz1 hz2
  go_enter Tryz.func167,Tryz.ntmps167
  go_wp2_with (at_builtin;refine bQ (P:=Tryz.prog) rfl _ _ 99 rfl w.heap.size 3 i0 (I 0) 1 8 Tryz.underlying99 qI.o wS.o wR.o uO.o rfl (by decide) (.slice (some (Ad w.heap.size 0)) 0 0) 0 [] (by rfl) (World.ownsRow_made w #[] 0 (Nat.le_refl _) (by unfold maxLen;omega) (by simp)) (some ad) n c xs (by rfl) HL.o ((HH.o.below ((Below.refl _ _).alloc (Nat.le_refl _) _))) H1.o (by unfold maxLen;omega) (by omega) (by simp) ?_;intro v' w' hown hgr hat;have HOWN:=ai hown;have C8:=ai hgr;clear hown hgr hat)
  go_ret
  have hown:=HOWN.o
  have hgr:=C8.o
  rw[Nat.zero_add] at hown
  exact⟨_,rfl,hown,((Below.refl _ _).alloc (Nat.le_refl _) _).grown hgr (by simp) (fun k hk=>by simp[Value.ownBlock] at hk;omega)⟩
end GK
namespace M
open Go.RowKit
structure Sg where
 page:Int
 aH:Int
 data:ByteArray
 wr:Bool
 ex:Bool
structure Sy where
 name:ByteArray
 pos:Int
structure Rl where
 pos:Int
 name:ByteArray
 add:Int
structure Im where
 name:ByteArray
 needs:List ByteArray
 dm:List Sg
 syms:List Sy
 fN:List Rl
 entry:Int
def nil:ByteArray:=⟨#[]⟩
def PX:Sg:=⟨0,0,nil,false,false⟩
def sy0:Sy:=⟨nil,0⟩
def rl0:Rl:=⟨0,nil,0⟩
def kR (l:List ByteArray) (i:Nat):ByteArray:=l.getD i nil
def dI (l:List Sg) (i:Nat):Sg:=l.getD i PX
def QE (l:List Sy) (i:Nat):Sy:=l.getD i sy0
def qM (l:List Rl) (i:Nat):Rl:=l.getD i rl0
theorem all_true {α:Type} (p:α->Bool) (d:α):∀l:List α,(∀i,i<l.length->p (l.getD i d)=true)->l.all p=true
 | [],_=>rfl
 | a::r,h=>by
  have h0:p a=true:=h 0 (by simp)
  have hr:=all_true p d r (fun i hi=>h (i+1) (by simpa using hi))
  simp[h0,hr]
theorem zx {α:Type} (p:α->Bool) (d:α):∀(l:List α) (i:Nat),i<l.length->l.all p=true->p (l.getD i d)=true
 | a::r,0,_,h=>by simp at h;simpa using h.1
 | a::r,i+1,hi,h=>by
  simp at h
  have:=zx p d r i (by simpa using hi) (by simpa using h.2)
  simpa using this
theorem all_false {α:Type} (p:α->Bool) (d:α) (l:List α) (i:Nat) (hi:i<l.length) (h:p (l.getD i d)=false):l.all p=false:=by
 cases e:l.all p
 · rfl
 · rw[zx p d l i hi e] at h;cases h
def oW (n:Int):Bool:=decide (97<=n/\n<=122) || (decide (48<=n/\n<=57) || decide (n=95))
def oX (s:ByteArray):Bool:=decide (1<=s.size/\s.size<=12)&&s.data.toList.all (fun c=>oW c.toNat)
theorem IU (s:ByteArray) (k:Nat) (h:k<s.size):s.data.toList.getD k 0=s[k]:=by
 have h':k<s.data.toList.length:=by rw[<- Lib.size_eq];exact h
 rw[List.getD_eq_getElem?_getD,List.getElem?_eq_getElem h']
 rfl
theorem Ns (s:ByteArray) (h1:1<=s.size) (h2:s.size<=12) (h:∀k (hk:k<s.size),oW s[k].toNat=true):oX s=true:=by
 unfold oX
 rw[decide_eq_true ⟨h1,h2⟩,Bool.true_and]
 refine all_true _ 0 _ (fun i hi=>?_)
 have hi':i<s.size:=by rw[Lib.size_eq];exact hi
 rw[IU s i hi']
 exact h i hi'
theorem QU (s:ByteArray) (k:Nat) (hk:k<s.size) (h:oW s[k].toNat=false):oX s=false:=by
 unfold oX
 rw[all_false _ 0 s.data.toList k (by rw[<- Lib.size_eq];exact hk) (by rw[IU s k hk];exact h),Bool.and_false]
theorem Ef (s:ByteArray) (h:¬(1<=s.size/\s.size<=12)):oX s=false:=by
 unfold oX
 rw[decide_eq_false h,Bool.false_and]
def MZ (r:Rl):Bool:=decide (r.name.size=0) || oX r.name
def UG (i:Im):Bool:=oX i.name&&(i.needs.all oX&&(i.syms.all (fun y=>oX y.name)&&i.fN.all MZ))
def qF (i:Im):Bool:=decide (1<=i.dm.length/\i.dm.length<=6/\i.needs.length<=4/\i.syms.length<=12/\i.fN.length<=16)
def fR (s:Sg):Bool:=decide (0<=s.page/\1<=s.aH/\s.page+s.aH<=255/\(s.data.size:Int)<=s.aH*16)
def Ci (i:Im):Bool:=i.dm.all fR
def Nf (l:List Sg) (k:Nat):Bool:=k==0 || decide ((dI l (k-1)).page+(dI l (k-1)).aH<=(dI l k).page)
def mj (l:List Sg):Nat->Bool
 | 0=>true
 | k+1=>mj l k&&Nf l k
def uN (l:List Sg):Bool:=mj l l.length
def js (l:List ByteArray):Nat->Bool
 | 0=>true
 | k+1=>js l k&&!(l.take k).contains (kR l k)
def pQ (l:List ByteArray):Bool:=js l l.length
def Uo (i:Im):Bool:=uN i.dm&&(pQ i.needs&&pQ (i.syms.map (·.name)))
def mW (s:Sg) (a:Int):Bool:=decide (s.page*16<=a/\a<(s.page+s.aH)*16)
def ma:List Sg->Int->Option Sg
 | [],_=>none
 | s::r,a=>if mW s a then some s else ma r a
def eu (l:List Sg) (a:Int):Bool:=(ma l a).isSome
def Mx (l:List Sg) (a:Int):Bool:=eu l a&&(eu l (a+1)&&(eu l (a+2)&&(eu l (a+3)&&(eu l (a+4)&&(eu l (a+5)&&(eu l (a+6)&&eu l (a+7)))))))
def IE (i:Im) (k:Nat):Bool:=(k==0 || decide ((qM i.fN (k-1)).pos+8<=(qM i.fN k).pos))&&Mx i.dm (qM i.fN k).pos
def Cf (i:Im):Nat->Bool
 | 0=>true
 | k+1=>Cf i k&&IE i k
def uJ (i:Im):Bool:=match ma i.dm i.entry with
 | some s=>s.ex&&decide (i.entry%8=0)
 | none=>false
def xc (i:Im):Bool:=i.syms.all (fun y=>eu i.dm y.pos)&&(Cf i i.fN.length&&uJ i)
def j5 (i:Im):Int:=if !UG i then 4 else if !qF i then 2 else if !Ci i then 3 else if !Uo i then 5 else if !xc i then 6 else 0
def Pv (w:World) (b off:Nat) (l:List ByteArray):Prop:=∀i,i<l.length->w.cell? (Ad b (off+i))=some (.string (kR l i))
def zy (w:World) (b off:Nat) (l:List Sg):Prop:=∀i,i<l.length ->
 w.cell? (Ad b (off+i*5))=some (I (dI l i).page)/\w.cell? (Ad b (off+i*5+1))=some (I (dI l i).aH) /\
 w.cell? (Ad b (off+i*5+2))=some (.string (dI l i).data)/\w.cell? (Ad b (off+i*5+3))=some (.bool (dI l i).wr)/\w.cell? (Ad b (off+i*5+4))=some (.bool (dI l i).ex)
def SD (w:World) (b off:Nat) (l:List Sy):Prop:=∀i,i<l.length ->
 w.cell? (Ad b (off+i*2))=some (.string (QE l i).name)/\w.cell? (Ad b (off+i*2+1))=some (I (QE l i).pos)
def SE (w:World) (b off:Nat) (l:List Rl):Prop:=∀i,i<l.length ->
 w.cell? (Ad b (off+i*3))=some (I (qM l i).pos)/\w.cell? (Ad b (off+i*3+1))=some (.string (qM l i).name)/\w.cell? (Ad b (off+i*3+2))=some (I (qM l i).add)
def gj (n:Int):Prop:=-9223372036854775808<=n/\n<=9223372036854775807
def bf (n:Nat):Prop:=n<=140737488351232
def aab (s:Sg):Prop:=gj s.page/\gj s.aH/\bf s.data.size
def aeA (s:Sy):Prop:=bf s.name.size/\gj s.pos
def aeB (s:Rl):Prop:=gj s.pos/\bf s.name.size/\gj s.add
structure Fit (i:Im):Prop where
 name:bf i.name.size
 needs:bf i.needs.length
 need:∀k,k<i.needs.length->bf (kR i.needs k).size
 dm:bf i.dm.length
 seg:∀k,k<i.dm.length->aab (dI i.dm k)
 syms:bf i.syms.length
 sym:∀k,k<i.syms.length->aeA (QE i.syms k)
 fN:bf i.fN.length
 rel:∀k,k<i.fN.length->aeB (qM i.fN k)
 entry:gj i.entry
def fh {α:Type} (lie:World->Nat->Nat->List α->Prop) (w:World) (ao:Option Addr) (l:List α):Prop:=0<l.length->∃b off,ao=some (Ad b off)/\b<w.heap.size/\lie w b off l
structure At where
 an:Option Addr
 cn:Nat
 ag:Option Addr
 cg:Nat
 ay:Option Addr
 cy:Nat
 ar:Option Addr
 cr:Nat
structure nt (w:World) (a:At) (i:Im):Prop where
 needs:fh Pv w a.an i.needs
 dm:fh zy w a.ag i.dm
 syms:fh SD w a.ay i.syms
 fN:fh SE w a.ar i.fN
def fD (a:At) (i:Im):Array Value:=#[.string i.name,.slice a.an i.needs.length a.cn,.slice a.ag i.dm.length a.cg,.slice a.ay i.syms.length a.cy,.slice a.ar i.fN.length a.cr,I i.entry]
theorem bk {w w':World} (hb:Below w.heap.size w w') {b o:Nat} (h:b<w.heap.size):w'.cell? (Ad b o)=w.cell? (Ad b o):=hb.cell (p:=(Ad b o)) h
theorem fh.below {α:Type} {lie:World->Nat->Nat->List α->Prop} (bM:∀{w w':World} {b off:Nat} {l:List α},Below w.heap.size w w'->b<w.heap.size->lie w b off l->lie w' b off l)
  {w w':World} {ao:Option Addr} {l:List α} (h:fh lie w ao l) (hb:Below w.heap.size w w'):fh lie w' ao l:=fun hl=>by
 obtain⟨b,off,e,hlt,hh⟩:=h hl
 exact⟨b,off,e,Nat.lt_of_lt_of_le hlt hb.size,bM hb hlt hh⟩
theorem XK {w w':World} {b off:Nat} {l:List ByteArray} (hb:Below w.heap.size w w') (hlt:b<w.heap.size) (h:Pv w b off l):Pv w' b off l:=fun i hi=>(bk hb hlt).trans (h i hi)
theorem yx {w w':World} {b off:Nat} {l:List Sg} (hb:Below w.heap.size w w') (hlt:b<w.heap.size) (h:zy w b off l):zy w' b off l:=fun i hi=>by
 obtain⟨c0,c1,c2,c3,c4⟩:=h i hi
 exact⟨(bk hb hlt).trans c0,(bk hb hlt).trans c1,(bk hb hlt).trans c2,(bk hb hlt).trans c3,(bk hb hlt).trans c4⟩
theorem abA {w w':World} {b off:Nat} {l:List Sy} (hb:Below w.heap.size w w') (hlt:b<w.heap.size) (h:SD w b off l):SD w' b off l:=fun i hi=>by
 obtain⟨c0,c1⟩:=h i hi
 exact⟨(bk hb hlt).trans c0,(bk hb hlt).trans c1⟩
theorem abB {w w':World} {b off:Nat} {l:List Rl} (hb:Below w.heap.size w w') (hlt:b<w.heap.size) (h:SE w b off l):SE w' b off l:=fun i hi=>by
 obtain⟨c0,c1,c2⟩:=h i hi
 exact⟨(bk hb hlt).trans c0,(bk hb hlt).trans c1,(bk hb hlt).trans c2⟩
theorem nt.below {w w':World} {a:At} {i:Im} (h:nt w a i) (hb:Below w.heap.size w w'):nt w' a i :=
 ⟨fh.below (lie:=Pv) (fun hb hlt h=>XK hb hlt h) h.needs hb,fh.below (lie:=zy) (fun hb hlt h=>yx hb hlt h) h.dm hb,fh.below (lie:=SD) (fun hb hlt h=>abA hb hlt h) h.syms hb,fh.below (lie:=SE) (fun hb hlt h=>abB hb hlt h) h.fN hb⟩
end M
namespace CM
open Go.RowKit
def shr (n:Int) (k:Nat):Int:=n/256 ^ k
def low (n:Int):Nat:=(n%18446744073709551616).toNat
theorem ML (n:Int):shr n 0=n:=by simp[shr]
theorem MM (n:Int) (k:Nat):shr n k/256=shr n (k+1):=by
 simp only[shr,Int.pow_succ]
 rw[Int.ediv_ediv_of_nonneg (Int.pow_nonneg (by decide))]
theorem tA:∀(k v:Nat),Lib.leBytes (k+1) v=Lib.leBytes k v++[(v/256 ^ k%256).toUInt8]
 | 0,v=>by simp[Lib.leBytes]
 | k+1,v=>by
  rw[Lib.leBytes,tA k (v/256)]
  simp only[Lib.leBytes,List.cons_append]
  rw[Nat.div_div_eq_div_mul,<- Nat.pow_succ']
theorem MO (n:Int) (k:Nat) (h:k<8):shr n k%256=((low n/256 ^ k%256:Nat):Int):=by
 unfold shr low
 match k,h with
 | 0,_=>simp;omega
 | 1,_=>omega
 | 2,_=>omega
 | 3,_=>omega
 | 4,_=>omega
 | 5,_=>omega
 | 6,_=>omega
 | 7,_=>omega
theorem xC (n:Int) (k:Nat) (h:k<8):strOfNums [shr n k%256]=⟨#[(low n/256 ^ k%256).toUInt8]⟩:=by
 rw[MO n k h]
 simp[strOfNums]
 rfl
theorem Ke (a b:List UInt8):(⟨a.toArray⟩:ByteArray)++⟨b.toArray⟩=⟨(a++b).toArray⟩:=ByteArray.mk_append_mk a b
theorem oV (l:List UInt8):strOfNums (l.map fun b=>(b.toNat:Int))=⟨l.toArray⟩:=by
 simp only[strOfNums,List.map_map]
 congr 1
 congr 1
 induction l with
 | nil=>rfl
 | cons b r ih=>simp[ih]
theorem Ag (l:List UInt8) (i:Nat) (h:i<l.length):(Lib.byteCells l)[i]?=some (.int .u8 ((l.map fun b=>(b.toNat:Int)).getD i 0)):=by
 simp[Lib.byteCells,h]
theorem bounds (n:Int) (h:(Lit.int .i64 n).wf=true):-9223372036854775808<=n/\n<=9223372036854775807:=by
 simp only[Lit.wf,IntKind.min,IntKind.max,IntKind.signed,IntKind.bits,Bool.and_eq_true,decide_eq_true_eq,if_true] at h
 omega
end CM
namespace CL
open Go.RowKit Go.Lib
theorem mM (P:Program) (g o:Nat) (t:TypeId) (m1 m2:Nat):∀(vs:List Value) (i:Nat) (cur:Array Value) (w:World),w.heap[g]?=some (.cells cur t (m1,m2))->cur.size<=m1->o+i+vs.length<=cur.size->(∀v∈vs,v.oneCell'=true) ->
  (storeCells (Ad g o) vs i).run P w=.ok () (w.setRow g (cur.toList.take (o+i)++vs++cur.toList.drop (o+i+vs.length)).toArray)
 | [],i,cur,w,hg,_,_,_=>by
  simp only[storeCells,List.append_nil,List.length_nil,Nat.add_zero,List.take_append_drop,Array.toArray_toList]
  rw[setRow_self w g cur t (m1,m2) hg]
  rfl
 | v::rest,i,cur,w,hg,hm,hl,h1=>by
  have hi:o+i<cur.size:=by simp at hl;omega
  have hadd:((Ad g o):Addr).add i=(Ad g (o+i)):=by unfold Addr.add;split <;> simp_all
  have hcell:w.cell? (Ad g (o+i))=some cur[o+i]:=by simp[World.cell?,hg,hi]
  have hfro:w.frozen? (Ad g (o+i))=false:=by simp[World.frozen?,hg];omega
  have hst:(store (((Ad g o):Addr).add i) v).run P w=.ok () (w.setRow g (cur.setIfInBounds (o+i) v)):=by
   rw[hadd,run_store P w _ v _ (h1 v (by simp)),hcell]
   simp[hfro,setCell_eq_setRow w g (o+i) cur t (m1,m2) v hg]
  have ih:=mM P g o t m1 m2 rest (i+1) (cur.setIfInBounds (o+i) v) (w.setRow g (cur.setIfInBounds (o+i) v)) (setRow_heap w g cur _ t _ hg) (by simpa using hm) (by simp at hl ⊢;omega) (fun x hx=>h1 x (by simp[hx]))
  simp only[storeCells,Sem.run_bind,hst,Result.andThen_ok,ih,setRow_setRow]
  congr 3
  have e:=list_seg_step cur.toList (o+i) v rest (by simp at hl ⊢;omega)
  simpa [Array.toList_setIfInBounds,Nat.add_assoc] using e
theorem EY {P:Program} (w:World) (dT sT ty elem:TypeId) (g o dLen dCap:Nat) (s:ByteArray) (cur:Array Value) (t:TypeId) (m1 m2:Nat)
  (hu:P.underlying dT=some (.slice elem)) (hs:(P.info? elem).map (·.size)=some 1) (hg:w.heap[g]?=some (.cells cur t (m1,m2))) (hm:cur.size<=m1) (hle:s.size<=dLen) (hfit:o+s.size<=cur.size) :
  (Builtin.copy_ #[dT,sT] ty #[.slice (some (Ad g o)) dLen dCap,.string s]).run P w =
   .ok (goInt s.size) (w.setRow g (cur.toList.take o++Lib.byteCells s.data.toList++cur.toList.drop (o+s.size)).toArray):=by
 have hlen:(Lib.byteCells s.data.toList).length=s.size:=by rw[Lib.byteCells_length,<- size_eq]
 have hst:=mM P g o t m1 m2 (Lib.byteCells s.data.toList) 0 cur w hg hm (by rw[hlen];simpa using hfit) (Lib.byteCells_one _)
 have hmin:Nat.min s.size dLen=s.size:=Nat.min_eq_left hle
 have htk:List.take s.size (List.map (fun b:UInt8=>Value.int IntKind.u8 (b.toNat:Int)) s.data.toList)=Lib.byteCells s.data.toList:=by
  rw[List.take_of_length_le (by rw[List.length_map,<- size_eq];exact Nat.le_refl _)]
  rfl
 rw[hlen] at hst
 simp only[Nat.add_zero] at hst
 cases hq:P.info? elem with
 | none=>simp[hq] at hs
 | some i =>
  simp[Builtin.copy_,run_underlying hu,Builtin.lenOf,Builtin.firstCells,sizeOf,typeInfo,hq,hmin]
  rw[htk,hst]
  simp[Result.andThen]
theorem Af (s:ByteArray) (c:Nat):(bytesRow s c).size=s.size+(c-s.size):=by
 simp[bytesRow]
def over (s:ByteArray) (o:Nat) (t:ByteArray):ByteArray:=⟨(s.data.toList.take o++t.data.toList++s.data.toList.drop (o+t.size)).toArray⟩
theorem Gz (s:ByteArray) (o:Nat) (t:ByteArray) (c:Nat) (h:o+t.size<=s.size) (i:Nat) (hi:i<s.size) :
  ((bytesRow s c).toList.take o++Lib.byteCells t.data.toList++(bytesRow s c).toList.drop (o+t.size))[i]?=some (.int .u8 (((over s o t).data.toList.map fun b=>(b.toNat:Int)).getD i 0)):=by
 have hts:t.size=t.data.toList.length:=size_eq t
 have Yc:s.size=s.data.toList.length:=size_eq s
 have hr:(bytesRow s c).toList=Lib.byteCells s.data.toList++List.replicate (c-s.size) (.int .u8 0):=by
  simp[bytesRow,Lib.byteCells]
 have e:(bytesRow s c).toList.take o++Lib.byteCells t.data.toList++(bytesRow s c).toList.drop (o+t.size)=Lib.byteCells (over s o t).data.toList++List.replicate (c-s.size) (.int .u8 0):=by
  rw[hr,List.take_append_of_le_length (by rw[Lib.byteCells_length];omega),List.drop_append_of_le_length (by rw[Lib.byteCells_length];omega)]
  simp[over,Lib.byteCells,List.map_append,List.map_take,List.map_drop]
 have hol:(over s o t).data.toList.length=s.size:=by
  simp only[over,List.length_append,List.length_take,List.length_drop];omega
 rw[e,List.getElem?_append_left (by rw[Lib.byteCells_length,hol];exact hi)]
 exact CM.Ag _ i (by rw[hol];exact hi)
theorem nV (s:ByteArray) (o:Nat) (t:ByteArray) (h:o+t.size<=s.size):(over s o t).data.toList.length=s.size:=by
 have hts:t.size=t.data.toList.length:=size_eq t
 have Yc:s.size=s.data.toList.length:=size_eq s
 simp only[over,List.length_append,List.length_take,List.length_drop];omega
theorem Gy (s:ByteArray) (o:Nat) (t:ByteArray):s.extract 0 o++t++s.extract (o+t.size) s.size=over s o t:=by
 have Yc:s.size=s.data.toList.length:=size_eq s
 apply ByteArray.ext
 apply Array.toList_inj.1
 simp only[ByteArray.data_append,Array.toList_append,extract_data,over]
 have e:List.take (s.size-(o+t.size)) (List.drop (o+t.size) s.data.toList)=List.drop (o+t.size) s.data.toList:=List.take_of_length_le (by rw[List.length_drop];omega)
 rw[List.drop_zero,Nat.sub_zero,e]
theorem Nb (s:ByteArray) (o:Nat) (t:ByteArray) (h:t.size=0):over s o t=s:=by
 have hts:t.data.toList=[]:=List.eq_nil_of_length_eq_zero (by rw[<- size_eq];exact h)
 apply ByteArray.ext
 simp[over,hts,h]
theorem Gx (s:ByteArray) (o:Nat) (t:ByteArray) (h:o+t.size<=s.size):(over s o t).size=s.size:=by
 rw[size_eq,nV s o t h]
end CL
namespace LM
open Go.RowKit
structure Fx where
 off:Int
 bytes:ByteArray
structure Sh where
 page:Int
 data:ByteArray
 bh:List Fx
 ao:Option Addr
 cap:Nat
def Ze:Fx:=⟨0,⟨#[]⟩⟩
def lQ (l:List Fx) (i:Nat):Fx:=l.getD i Ze
def L5:Sh:=⟨0,⟨#[]⟩,[],none,0⟩
def aW (l:List Sh) (i:Nat):Sh:=l.getD i L5
def Ib (w:World) (b off:Nat) (l:List Fx):Prop:=∀i,i<l.length->w.cell? (Ad b (off+i*2))=some (I (lQ l i).off)/\w.cell? (Ad b (off+i*2+1))=some (.string (lQ l i).bytes)
theorem XL {w w':World} {b off:Nat} {l:List Fx} (hb:Below w.heap.size w w') (hlt:b<w.heap.size) (h:Ib w b off l):Ib w' b off l:=fun i hi=>by
 obtain⟨c0,c1⟩:=h i hi
 exact⟨(M.bk hb hlt).trans c0,(M.bk hb hlt).trans c1⟩
def nE (w:World) (ao:Option Addr) (l:List Fx):Prop:=M.fh Ib w ao l
theorem nE.below {w w':World} {ao:Option Addr} {l:List Fx} (h:nE w ao l) (hb:Below w.heap.size w w'):nE w' ao l:=M.fh.below (lie:=Ib) (fun hb hlt h=>XL hb hlt h) h hb
def WG (f:Fx):Prop:=M.gj f.off/\M.bf f.bytes.size
structure De (s:Sh):Prop where
 page:M.gj s.page
 data:M.bf s.data.size
 bh:M.bf s.bh.length
 fix:∀k,k<s.bh.length->WG (lQ s.bh k)
def ll (s:Sh):Array Value:=#[I s.page,.string s.data,.slice s.ao s.bh.length s.cap]
def lD (l:List Fx):Nat->Int
 | 0=>0
 | k+1=>(lQ l k).off+((lQ l k).bytes.size:Int)
def CR (e:Int) (f:Fx):Bool:=decide (e<=f.off/\f.off<=16/\1<=(f.bytes.size:Int)/\(f.bytes.size:Int)<=16-f.off)
def b7 (l:List Fx):Nat->Bool
 | 0=>true
 | k+1=>b7 l k&&CR (lD l k) (lQ l k)
def jE (s:Sh):Bool:=decide (1<=s.page/\s.page<=255/\s.data.size=16)
def bN (s:Sh):Bool:=jE s&&b7 s.bh s.bh.length
def jT (d:ByteArray) (l:List Fx):Nat->ByteArray
 | 0=>d
 | k+1=>CL.over (jT d l k) (lQ l k).off.toNat (lQ l k).bytes
def mA (s:Sh):ByteArray:=jT s.data s.bh s.bh.length
def o8 (s:Sh):ByteArray×Int:=if bN s then (mA s,0) else (⟨#[]⟩,1)
theorem kO (l:List Fx):∀(k n:Nat),k<=n->b7 l k=false->b7 l n=false
 | k, 0, h, hk => by obtain rfl:k=0 := by omega
                     exact hk
 | k,n+1,h,hk=>by
  by_cases e:k=n+1
  · subst e;exact hk
  · simp[b7,kO l k n (by omega) hk]
theorem l7 (l:List Fx) (k:Nat) (hk:k<l.length) (h:CR (lD l k) (lQ l k)=false):b7 l l.length=false :=
 kO l (k+1) l.length (by omega) (by simp[b7,h])
theorem r7 (l:List Fx):∀(n:Nat),b7 l n=true->∀i,i<n->CR (lD l i) (lQ l i)=true
 | 0,_,i,hi=>by omega
 | n+1,h,i,hi=>by
  simp only[b7,Bool.and_eq_true] at h
  by_cases e:i=n
  · subst e;exact h.2
  · exact r7 l n h.1 i (by omega)
theorem oc (e:Int) (f:Fx):CR e f=true↔(e<=f.off/\f.off<=16/\1<=(f.bytes.size:Int)/\(f.bytes.size:Int)<=16-f.off):=by simp[CR]
theorem qB {e:Int} {f:Fx} (h:¬(e<=f.off/\f.off<=16/\1<=(f.bytes.size:Int)/\(f.bytes.size:Int)<=16-f.off)):CR e f=false:=by simpa [CR] using h
theorem jg (l:List Fx):∀k,b7 l k=true->(k:Int)<=lD l k/\lD l k<=16
 | 0,_=>by simp[lD]
 | k+1,h=>by
  simp only[b7,Bool.and_eq_true] at h
  have ih:=jg l k h.1
  have hf:=(oc _ _).1 h.2
  simp only[lD]
  omega
theorem mU (d:ByteArray) (l:List Fx) (hd:d.size=16):∀k,b7 l k=true->(jT d l k).size=16
 | 0,_=>hd
 | k+1,h=>by
  simp only[b7,Bool.and_eq_true] at h
  have ih:=mU d l hd k h.1
  have hf:=(oc _ _).1 h.2
  have he:=jg l k h.1
  simp only[jT]
  rw[CL.Gx _ _ _ (by omega),ih]
end LM
namespace AM
open Go.RowKit
def turned (F:Nat->St) (how:St->St×Int) (page t:Int):Nat->St:=fun k=>if page<=(k:Int)/\(k:Int)<t then (how (F k)).1 else F k
def ik (F:Nat->St) (how:St->St×Int):Nat->Nat->Int
 | _,0=>0
 | n,c+1=>if (how (F n)).2=0 then ik F how (n+1) c else (how (F n)).2
def jK (l:List Ar) (page aH bO:Int) (how:St->St×Int):List Ar×Int :=
 if aR l=0 then
  if dQ page aH&&iO bO then
   if ik (cK l) how page.toNat aH.toNat=0 then (eJ (turned (cK l) how page (page+aH)),0)
   else ([],ik (cK l) how page.toNat aH.toNat)
  else ([],3)
 else ([],aR l)
theorem BV (F:Nat->St) (how:St->St×Int) (page:Int):turned F how page page=F:=by
 funext k;simp only[turned];rw[if_neg (by omega)]
theorem JI (F:Nat->St) (how:St->St×Int) (page:Int) (n:Nat):turned F how page n n=F n:=by
 simp only[turned];rw[if_neg (by omega)]
theorem Dw (F:Nat->St) (how:St->St×Int) (page:Int) (n:Nat) (h:page<=(n:Int)):upd (turned F how page n) n (how (F n)).1=turned F how page ((n:Int)+1):=by
 funext k
 simp only[upd,turned]
 by_cases e:k=n
 · subst e;rw[if_pos rfl,if_pos ⟨h,by omega⟩]
 · rw[if_neg e]
   by_cases c:page<=(k:Int)/\(k:Int)<n
   · rw[if_pos c,if_pos ⟨c.1,by omega⟩]
   · rw[if_neg c,if_neg (by omega)]
theorem tM (F:Nat->St) (how:St->St×Int):∀(c n:Nat),(∀k,n<=k->k<n+c->(how (F k)).2=0)->ik F how n c=0
 | 0,_,_=>rfl
 | c+1,n,h=>by
  simp only[ik]
  rw[if_pos (h n (by omega) (by omega))]
  exact tM F how c (n+1) (fun k h1 h2=>h k (by omega) (by omega))
theorem yV (F:Nat->St) (how:St->St×Int):∀(c n m:Nat),n<=m->m<n+c->(∀k,n<=k->k<m->(how (F k)).2=0)->(how (F m)).2≠0->ik F how n c=(how (F m)).2
 | 0,n,m,h1,h2,_,_=>by omega
 | c+1,n,m,h1,h2,h,hm=>by
  simp only[ik]
  by_cases e:n=m
  · subst e;rw[if_neg hm]
  · rw[if_pos (h n (by omega) (by omega))]
    exact yV F how c (n+1) m (by omega) (by omega) (fun k h1 h2=>h k (by omega) h2) hm
theorem jr (p n:Int):dQ p n=true↔1<=p/\1<=n/\n<=256-p:=by simp[dQ]
end AM
end Go.Proofs.YtpgifpeohlllfaaGreat
