import Derived.Test.YtpgifpeohlllfaaGreatGT01
import Derived.Lib.Endian
import Derived.Lib.EndianBits
import Derived.Lib.Walk
import Derived.Lib.BufferWrite
set_option maxHeartbeats 20000000
set_option linter.unusedVariables false
set_option maxRecDepth 100000
set_option linter.unusedSimpArgs false
namespace Go.Proofs.YtpgifpeohlllfaaGreat
namespace GK
open Go.RowKit
open FW (ai aD)
def From (w:World) (ao:Option Addr) (m:Nat) (news:List Value):Prop:=0<m->∃ad,ao=some ad/\∀j u,news[j]?=some u->w.cell? (ad.add j)=some u
theorem From.below {w w':World} {ao:Option Addr} {m:Nat} {news:List Value} (h:From w ao m news) (hb:Below w.heap.size w w'):From w' ao m news:=fun hm=>by
 obtain⟨ad,e,hc⟩:=h hm;refine⟨ad,e,fun j u hu=>?_⟩;have:=hc j u hu;exact(hb.cell (World.block_lt_of_cell? w _ this)).trans this
theorem OY:(Tryz.prog.info? 47).map (fun i=>(i.zero,i.size,i.bytes))=some (some (.agg #[I 0,I 0,I 0,.bool false]),4,32):=by kernel_rfl
theorem T5 (ao:Option Addr) (n c:Nat) (xs:List Value) (w:World) (hl:xs.length=n*4) (h:From w ao n xs) (h1:∀u∈xs,u.oneCell'=true) (hn:n<=1000000) :
  Calls Tryz.prog 129 #[.slice ao n c] w fun e w'=>∃v,e=.returned v/\w'.ownsRow w.heap.size 47 4 v n xs/\Below w.heap.size w w':=by
 have HH:=ai h;have HL:=ai hl;have H1:=ai h1;clear h hl h1;have q:∀(w:World) (a:Option Addr) (n c n' c':Nat),(binOp .eql 28 (.slice a n c) (.slice none n' c')).run Tryz.prog w=.ok (.bool a.isNone) w:=fun w a n c n' c'=>Lib.run_eql_slice_nil w _ _ a n c n' c' Tryz.underlying28
 obtain⟨i0,hin,hz0,hz1,hz2⟩:=info_parts OY;cases ao with
 | none =>
  have h0:n=0:=by
   by_cases g:0<n
   · obtain⟨ad,e,_⟩:=HH.o g;cases e
   · omega
  subst h0;have hx:xs=[]:=List.eq_nil_of_length_eq_zero (by rw[HL.o]);subst hx;clear HH HL H1 hin hz0 hz1 hz2;go_enter Tryz.func129,Tryz.ntmps129;go_wp2;go_ret;exact⟨_,rfl,World.ownsRow_nil _ _ _ _,Below.refl _ _⟩
 | some ad =>
  have ry:=ai hin;have vo:=ai hz0;have vk:=ai hz1;have uj:=ai hz2;clear hin hz0 hz1 hz2;go_enter Tryz.func129,Tryz.ntmps129;go_wp2_with (at_builtin;refine bO (P:=Tryz.prog) rfl _ _ 28 rfl w.heap.size 47 i0 (.agg #[I 0,I 0,I 0,.bool false]) 4 32 Tryz.underlying28 ry.o vo.o vk.o uj.o rfl (by decide) (.slice (some (Ad w.heap.size 0)) 0 0) 0 [] (by rfl) (World.ownsRow_made w #[] 0 (Nat.le_refl _) (by unfold maxLen;omega) (by simp)) (some ad) n c xs (by rfl) HL.o ((HH.o.below ((Below.refl _ _).alloc (Nat.le_refl _) _))) H1.o (by unfold maxLen;omega) (by omega) (by simp) ?_;intro v' w' hown hgr hat;have HOWN:=ai hown;have Dz:=ai hgr;clear hown hgr hat)
  go_ret;have hown:=HOWN.o;have hgr:=Dz.o;rw[Nat.zero_add] at hown;exact⟨_,rfl,hown,((Below.refl _ _).alloc (Nat.le_refl _) _).grown hgr (by simp) (fun k hk=>by simp[Value.ownBlock] at hk;omega)⟩
theorem y9:(Tryz.prog.info? 45).map (fun i=>(i.zero,i.size,i.bytes))=some (some (.agg #[I 0,I 0,I 0]),3,24):=by kernel_rfl
theorem T4 (ao:Option Addr) (n c:Nat) (xs:List Value) (w:World) (hl:xs.length=n*3) (h:From w ao n xs) (h1:∀u∈xs,u.oneCell'=true) (hn:n<=1000000) :
  Calls Tryz.prog 130 #[.slice ao n c] w fun e w'=>∃v,e=.returned v/\w'.ownsRow w.heap.size 45 3 v n xs/\Below w.heap.size w w':=by
 have HH:=ai h;have HL:=ai hl;have H1:=ai h1;clear h hl h1;have q:∀(w:World) (a:Option Addr) (n c n' c':Nat),(binOp .eql 41 (.slice a n c) (.slice none n' c')).run Tryz.prog w=.ok (.bool a.isNone) w:=fun w a n c n' c'=>Lib.run_eql_slice_nil w _ _ a n c n' c' Tryz.underlying41
 obtain⟨i0,hin,hz0,hz1,hz2⟩:=info_parts y9;cases ao with
 | none =>
  have h0:n=0:=by
   by_cases g:0<n
   · obtain⟨ad,e,_⟩:=HH.o g;cases e
   · omega
  subst h0;have hx:xs=[]:=List.eq_nil_of_length_eq_zero (by rw[HL.o]);subst hx;clear HH HL H1 hin hz0 hz1 hz2;go_enter Tryz.func130,Tryz.ntmps130;go_wp2;go_ret;exact⟨_,rfl,World.ownsRow_nil _ _ _ _,Below.refl _ _⟩
 | some ad =>
  have ry:=ai hin;have vo:=ai hz0;have vk:=ai hz1;have uj:=ai hz2;clear hin hz0 hz1 hz2;go_enter Tryz.func130,Tryz.ntmps130;go_wp2_with (at_builtin;refine bO (P:=Tryz.prog) rfl _ _ 41 rfl w.heap.size 45 i0 (.agg #[I 0,I 0,I 0]) 3 24 Tryz.underlying41 ry.o vo.o vk.o uj.o rfl (by decide) (.slice (some (Ad w.heap.size 0)) 0 0) 0 [] (by rfl) (World.ownsRow_made w #[] 0 (Nat.le_refl _) (by unfold maxLen;omega) (by simp)) (some ad) n c xs (by rfl) HL.o ((HH.o.below ((Below.refl _ _).alloc (Nat.le_refl _) _))) H1.o (by unfold maxLen;omega) (by omega) (by simp) ?_;intro v' w' hown hgr hat;have HOWN:=ai hown;have Dz:=ai hgr;clear hown hgr hat)
  go_ret;have hown:=HOWN.o;have hgr:=Dz.o;rw[Nat.zero_add] at hown;exact⟨_,rfl,hown,((Below.refl _ _).alloc (Nat.le_refl _) _).grown hgr (by simp) (fun k hk=>by simp[Value.ownBlock] at hk;omega)⟩
theorem OX:(Tryz.prog.info? 40).map (fun i=>(i.zero,i.size,i.bytes))=some (some (.agg #[.string ⟨#[]⟩,I 0,.bool false,.bool false]),4,32):=by kernel_rfl
theorem T3 (ao:Option Addr) (n c:Nat) (xs:List Value) (w:World) (hl:xs.length=n*4) (h:From w ao n xs) (h1:∀u∈xs,u.oneCell'=true) (hn:n<=1000000) :
  Calls Tryz.prog 104 #[.slice ao n c] w fun e w'=>∃v,e=.returned v/\w'.ownsRow w.heap.size 40 4 v n xs/\Below w.heap.size w w':=by
 have HH:=ai h;have HL:=ai hl;have H1:=ai h1;clear h hl h1;have q:∀(w:World) (a:Option Addr) (n c n' c':Nat),(binOp .eql 23 (.slice a n c) (.slice none n' c')).run Tryz.prog w=.ok (.bool a.isNone) w:=fun w a n c n' c'=>Lib.run_eql_slice_nil w _ _ a n c n' c' Tryz.underlying23
 obtain⟨i0,hin,hz0,hz1,hz2⟩:=info_parts OX;cases ao with
 | none =>
  have h0:n=0:=by
   by_cases g:0<n
   · obtain⟨ad,e,_⟩:=HH.o g;cases e
   · omega
  subst h0;have hx:xs=[]:=List.eq_nil_of_length_eq_zero (by rw[HL.o]);subst hx;clear HH HL H1 hin hz0 hz1 hz2;go_enter Tryz.func104,Tryz.ntmps104;go_wp2;go_ret;exact⟨_,rfl,World.ownsRow_nil _ _ _ _,Below.refl _ _⟩
 | some ad =>
  have ry:=ai hin;have vo:=ai hz0;have vk:=ai hz1;have uj:=ai hz2;clear hin hz0 hz1 hz2;go_enter Tryz.func104,Tryz.ntmps104;go_wp2_with (at_builtin;refine bO (P:=Tryz.prog) rfl _ _ 23 rfl w.heap.size 40 i0 (.agg #[.string ⟨#[]⟩,I 0,.bool false,.bool false]) 4 32 Tryz.underlying23 ry.o vo.o vk.o uj.o rfl (by decide) (.slice (some (Ad w.heap.size 0)) 0 0) 0 [] (by rfl) (World.ownsRow_made w #[] 0 (Nat.le_refl _) (by unfold maxLen;omega) (by simp)) (some ad) n c xs (by rfl) HL.o ((HH.o.below ((Below.refl _ _).alloc (Nat.le_refl _) _))) H1.o (by unfold maxLen;omega) (by omega) (by simp) ?_;intro v' w' hown hgr hat;have HOWN:=ai hown;have Dz:=ai hgr;clear hown hgr hat)
  go_ret;have hown:=HOWN.o;have hgr:=Dz.o;rw[Nat.zero_add] at hown;exact⟨_,rfl,hown,((Below.refl _ _).alloc (Nat.le_refl _) _).grown hgr (by simp) (fun k hk=>by simp[Value.ownBlock] at hk;omega)⟩
theorem OW:(Tryz.prog.info? 86).map (fun i=>(i.zero,i.size,i.bytes))=some (some (.agg #[.string ⟨#[]⟩,I 0]),2,24):=by kernel_rfl
theorem TW (ao:Option Addr) (n c:Nat) (xs:List Value) (w:World) (hl:xs.length=n*2) (h:From w ao n xs) (h1:∀u∈xs,u.oneCell'=true) (hn:n<=1000000) :
  Calls Tryz.prog 105 #[.slice ao n c] w fun e w'=>∃v,e=.returned v/\w'.ownsRow w.heap.size 86 2 v n xs/\Below w.heap.size w w':=by
 have HH:=ai h;have HL:=ai hl;have H1:=ai h1;clear h hl h1;have q:∀(w:World) (a:Option Addr) (n c n' c':Nat),(binOp .eql 24 (.slice a n c) (.slice none n' c')).run Tryz.prog w=.ok (.bool a.isNone) w:=fun w a n c n' c'=>Lib.run_eql_slice_nil w _ _ a n c n' c' Tryz.underlying24
 obtain⟨i0,hin,hz0,hz1,hz2⟩:=info_parts OW;cases ao with
 | none =>
  have h0:n=0:=by
   by_cases g:0<n
   · obtain⟨ad,e,_⟩:=HH.o g;cases e
   · omega
  subst h0;have hx:xs=[]:=List.eq_nil_of_length_eq_zero (by rw[HL.o]);subst hx;clear HH HL H1 hin hz0 hz1 hz2;go_enter Tryz.func105,Tryz.ntmps105;go_wp2;go_ret;exact⟨_,rfl,World.ownsRow_nil _ _ _ _,Below.refl _ _⟩
 | some ad =>
  have ry:=ai hin;have vo:=ai hz0;have vk:=ai hz1;have uj:=ai hz2;clear hin hz0 hz1 hz2;go_enter Tryz.func105,Tryz.ntmps105;go_wp2_with (at_builtin;refine bO (P:=Tryz.prog) rfl _ _ 24 rfl w.heap.size 86 i0 (.agg #[.string ⟨#[]⟩,I 0]) 2 24 Tryz.underlying24 ry.o vo.o vk.o uj.o rfl (by decide) (.slice (some (Ad w.heap.size 0)) 0 0) 0 [] (by rfl) (World.ownsRow_made w #[] 0 (Nat.le_refl _) (by unfold maxLen;omega) (by simp)) (some ad) n c xs (by rfl) HL.o ((HH.o.below ((Below.refl _ _).alloc (Nat.le_refl _) _))) H1.o (by unfold maxLen;omega) (by omega) (by simp) ?_;intro v' w' hown hgr hat;have HOWN:=ai hown;have Dz:=ai hgr;clear hown hgr hat)
  go_ret;have hown:=HOWN.o;have hgr:=Dz.o;rw[Nat.zero_add] at hown;exact⟨_,rfl,hown,((Below.refl _ _).alloc (Nat.le_refl _) _).grown hgr (by simp) (fun k hk=>by simp[Value.ownBlock] at hk;omega)⟩
theorem y8:(Tryz.prog.info? 50).map (fun i=>(i.zero,i.size,i.bytes))=some (some (.agg #[I 0,.string ⟨#[]⟩,Nl]),3,48):=by kernel_rfl
theorem TX (ao:Option Addr) (n c:Nat) (xs:List Value) (w:World) (hl:xs.length=n*3) (h:From w ao n xs) (h1:∀u∈xs,u.oneCell'=true) (hn:n<=1000000) :
  Calls Tryz.prog 103 #[.slice ao n c] w fun e w'=>∃v,e=.returned v/\w'.ownsRow w.heap.size 50 3 v n xs/\Below w.heap.size w w':=by
 have HH:=ai h;have HL:=ai hl;have H1:=ai h1;clear h hl h1;have q:∀(w:World) (a:Option Addr) (n c n' c':Nat),(binOp .eql 22 (.slice a n c) (.slice none n' c')).run Tryz.prog w=.ok (.bool a.isNone) w:=fun w a n c n' c'=>Lib.run_eql_slice_nil w _ _ a n c n' c' Tryz.underlying22
 obtain⟨i0,hin,hz0,hz1,hz2⟩:=info_parts y8;cases ao with
 | none =>
  have h0:n=0:=by
   by_cases g:0<n
   · obtain⟨ad,e,_⟩:=HH.o g;cases e
   · omega
  subst h0;have hx:xs=[]:=List.eq_nil_of_length_eq_zero (by rw[HL.o]);subst hx;clear HH HL H1 hin hz0 hz1 hz2;go_enter Tryz.func103,Tryz.ntmps103;go_wp2;go_ret;exact⟨_,rfl,World.ownsRow_nil _ _ _ _,Below.refl _ _⟩
 | some ad =>
  have ry:=ai hin;have vo:=ai hz0;have vk:=ai hz1;have uj:=ai hz2;clear hin hz0 hz1 hz2;go_enter Tryz.func103,Tryz.ntmps103;go_wp2_with (at_builtin;refine bO (P:=Tryz.prog) rfl _ _ 22 rfl w.heap.size 50 i0 (.agg #[I 0,.string ⟨#[]⟩,Nl]) 3 48 Tryz.underlying22 ry.o vo.o vk.o uj.o rfl (by decide) (.slice (some (Ad w.heap.size 0)) 0 0) 0 [] (by rfl) (World.ownsRow_made w #[] 0 (Nat.le_refl _) (by unfold maxLen;omega) (by simp)) (some ad) n c xs (by rfl) HL.o ((HH.o.below ((Below.refl _ _).alloc (Nat.le_refl _) _))) H1.o (by unfold maxLen;omega) (by omega) (by simp) ?_;intro v' w' hown hgr hat;have HOWN:=ai hown;have Dz:=ai hgr;clear hown hgr hat)
  go_ret;have hown:=HOWN.o;have hgr:=Dz.o;rw[Nat.zero_add] at hown;exact⟨_,rfl,hown,((Below.refl _ _).alloc (Nat.le_refl _) _).grown hgr (by simp) (fun k hk=>by simp[Value.ownBlock] at hk;omega)⟩
theorem C7:(Tryz.prog.info? 52).map (fun i=>(i.zero,i.size,i.bytes))=some (some (.agg #[I 0,.string ⟨#[]⟩]),2,24):=by kernel_rfl
theorem TZ (ao:Option Addr) (n c:Nat) (xs:List Value) (w:World) (hl:xs.length=n*2) (h:From w ao n xs) (h1:∀u∈xs,u.oneCell'=true) (hn:n<=1000000) :
  Calls Tryz.prog 106 #[.slice ao n c] w fun e w'=>∃v,e=.returned v/\w'.ownsRow w.heap.size 52 2 v n xs/\Below w.heap.size w w':=by
 have HH:=ai h;have HL:=ai hl;have H1:=ai h1;clear h hl h1;have q:∀(w:World) (a:Option Addr) (n c n' c':Nat),(binOp .eql 48 (.slice a n c) (.slice none n' c')).run Tryz.prog w=.ok (.bool a.isNone) w:=fun w a n c n' c'=>Lib.run_eql_slice_nil w _ _ a n c n' c' Tryz.underlying48
 obtain⟨i0,hin,hz0,hz1,hz2⟩:=info_parts C7;cases ao with
 | none =>
  have h0:n=0:=by
   by_cases g:0<n
   · obtain⟨ad,e,_⟩:=HH.o g;cases e
   · omega
  subst h0;have hx:xs=[]:=List.eq_nil_of_length_eq_zero (by rw[HL.o]);subst hx;clear HH HL H1 hin hz0 hz1 hz2;go_enter Tryz.func106,Tryz.ntmps106;go_wp2;go_ret;exact⟨_,rfl,World.ownsRow_nil _ _ _ _,Below.refl _ _⟩
 | some ad =>
  have ry:=ai hin;have vo:=ai hz0;have vk:=ai hz1;have uj:=ai hz2;clear hin hz0 hz1 hz2;go_enter Tryz.func106,Tryz.ntmps106;go_wp2_with (at_builtin;refine bO (P:=Tryz.prog) rfl _ _ 48 rfl w.heap.size 52 i0 (.agg #[I 0,.string ⟨#[]⟩]) 2 24 Tryz.underlying48 ry.o vo.o vk.o uj.o rfl (by decide) (.slice (some (Ad w.heap.size 0)) 0 0) 0 [] (by rfl) (World.ownsRow_made w #[] 0 (Nat.le_refl _) (by unfold maxLen;omega) (by simp)) (some ad) n c xs (by rfl) HL.o ((HH.o.below ((Below.refl _ _).alloc (Nat.le_refl _) _))) H1.o (by unfold maxLen;omega) (by omega) (by simp) ?_;intro v' w' hown hgr hat;have HOWN:=ai hown;have Dz:=ai hgr;clear hown hgr hat)
  go_ret;have hown:=HOWN.o;have hgr:=Dz.o;rw[Nat.zero_add] at hown;exact⟨_,rfl,hown,((Below.refl _ _).alloc (Nat.le_refl _) _).grown hgr (by simp) (fun k hk=>by simp[Value.ownBlock] at hk;omega)⟩
theorem Ht:(Tryz.prog.info? 3).map (fun i=>(i.zero,i.size,i.bytes))=some (some (I 0),1,8):=by kernel_rfl
theorem TY (ao:Option Addr) (n c:Nat) (xs:List Value) (w:World) (hl:xs.length=n*1) (h:From w ao n xs) (h1:∀u∈xs,u.oneCell'=true) (hn:n<=1000000) :
  Calls Tryz.prog 167 #[.slice ao n c] w fun e w'=>∃v,e=.returned v/\w'.ownsRow w.heap.size 3 1 v n xs/\Below w.heap.size w w':=by
 have HH:=ai h;have HL:=ai hl;have H1:=ai h1;clear h hl h1;have q:∀(w:World) (a:Option Addr) (n c n' c':Nat),(binOp .eql 99 (.slice a n c) (.slice none n' c')).run Tryz.prog w=.ok (.bool a.isNone) w:=fun w a n c n' c'=>Lib.run_eql_slice_nil w _ _ a n c n' c' Tryz.underlying99
 obtain⟨i0,hin,hz0,hz1,hz2⟩:=info_parts Ht;cases ao with
 | none =>
  have h0:n=0:=by
   by_cases g:0<n
   · obtain⟨ad,e,_⟩:=HH.o g;cases e
   · omega
  subst h0;have hx:xs=[]:=List.eq_nil_of_length_eq_zero (by rw[HL.o]);subst hx;clear HH HL H1 hin hz0 hz1 hz2;go_enter Tryz.func167,Tryz.ntmps167;go_wp2;go_ret;exact⟨_,rfl,World.ownsRow_nil _ _ _ _,Below.refl _ _⟩
 | some ad =>
  have ry:=ai hin;have vo:=ai hz0;have vk:=ai hz1;have uj:=ai hz2;clear hin hz0 hz1 hz2;go_enter Tryz.func167,Tryz.ntmps167;go_wp2_with (at_builtin;refine bO (P:=Tryz.prog) rfl _ _ 99 rfl w.heap.size 3 i0 (I 0) 1 8 Tryz.underlying99 ry.o vo.o vk.o uj.o rfl (by decide) (.slice (some (Ad w.heap.size 0)) 0 0) 0 [] (by rfl) (World.ownsRow_made w #[] 0 (Nat.le_refl _) (by unfold maxLen;omega) (by simp)) (some ad) n c xs (by rfl) HL.o ((HH.o.below ((Below.refl _ _).alloc (Nat.le_refl _) _))) H1.o (by unfold maxLen;omega) (by omega) (by simp) ?_;intro v' w' hown hgr hat;have HOWN:=ai hown;have Dz:=ai hgr;clear hown hgr hat)
  go_ret;have hown:=HOWN.o;have hgr:=Dz.o;rw[Nat.zero_add] at hown;exact⟨_,rfl,hown,((Below.refl _ _).alloc (Nat.le_refl _) _).grown hgr (by simp) (fun k hk=>by simp[Value.ownBlock] at hk;omega)⟩
end GK
namespace M
open Go.RowKit
structure Sg where
 page:Int
 aJ:Int
 data:ByteArray
 wr:Bool
 ex:Bool
structure Sy where
 name:ByteArray
 pos:Int
structure Rl where
 pos:Int
 name:ByteArray
 add:Int
structure Im where
 name:ByteArray
 needs:List ByteArray
 dw:List Sg
 syms:List Sy
 fV:List Rl
 entry:Int
def nil:ByteArray:=⟨#[]⟩
def QS:Sg:=⟨0,0,nil,false,false⟩
def sy0:Sy:=⟨nil,0⟩
def rl0:Rl:=⟨0,nil,0⟩
def lC (l:List ByteArray) (i:Nat):ByteArray:=l.getD i nil
def dN (l:List Sg) (i:Nat):Sg:=l.getD i QS
def SF (l:List Sy) (i:Nat):Sy:=l.getD i sy0
def rh (l:List Rl) (i:Nat):Rl:=l.getD i rl0
theorem all_true {α:Type} (p:α->Bool) (d:α):∀l:List α,(∀i,i<l.length->p (l.getD i d)=true)->l.all p=true
 | [],_=>rfl
 | a::r,h=>by
  have h0:p a=true:=h 0 (by simp);have hr:=all_true p d r (fun i hi=>h (i+1) (by simpa using hi));simp[h0,hr]
theorem zX {α:Type} (p:α->Bool) (d:α):∀(l:List α) (i:Nat),i<l.length->l.all p=true->p (l.getD i d)=true
 | a::r,0,_,h=>by simp at h;simpa using h.1
 | a::r,i+1,hi,h=>by
  simp at h;have:=zX p d r i (by simpa using hi) (by simpa using h.2);simpa using this
theorem all_false {α:Type} (p:α->Bool) (d:α) (l:List α) (i:Nat) (hi:i<l.length) (h:p (l.getD i d)=false):l.all p=false:=by
 cases e:l.all p
 · rfl
 · rw[zX p d l i hi e] at h;cases h
def pA (n:Int):Bool:=decide (97<=n/\n<=122) || (decide (48<=n/\n<=57) || decide (n=95))
def pB (s:ByteArray):Bool:=decide (1<=s.size/\s.size<=12)&&s.data.toList.all (fun c=>pA c.toNat)
theorem Jv (s:ByteArray) (k:Nat) (h:k<s.size):s.data.toList.getD k 0=s[k]:=by
 have h':k<s.data.toList.length:=by rw[<- Lib.size_eq];exact h
 rw[List.getD_eq_getElem?_getD,List.getElem?_eq_getElem h'];rfl
theorem Ol (s:ByteArray) (h1:1<=s.size) (h2:s.size<=12) (h:∀k (hk:k<s.size),pA s[k].toNat=true):pB s=true:=by
 unfold pB;rw[decide_eq_true ⟨h1,h2⟩,Bool.true_and];refine all_true _ 0 _ (fun i hi=>?_);have hi':i<s.size:=by rw[Lib.size_eq];exact hi
 rw[Jv s i hi'];exact h i hi'
theorem S8 (s:ByteArray) (k:Nat) (hk:k<s.size) (h:pA s[k].toNat=false):pB s=false:=by
 unfold pB;rw[all_false _ 0 s.data.toList k (by rw[<- Lib.size_eq];exact hk) (by rw[Jv s k hk];exact h),Bool.and_false]
theorem EO (s:ByteArray) (h:¬(1<=s.size/\s.size<=12)):pB s=false:=by
 unfold pB;rw[decide_eq_false h,Bool.false_and]
def NW (r:Rl):Bool:=decide (r.name.size=0) || pB r.name
def Wf (i:Im):Bool:=pB i.name&&(i.needs.all pB&&(i.syms.all (fun y=>pB y.name)&&i.fV.all NW))
def qY (i:Im):Bool:=decide (1<=i.dw.length/\i.dw.length<=6/\i.needs.length<=4/\i.syms.length<=12/\i.fV.length<=16)
def fZ (s:Sg):Bool:=decide (0<=s.page/\1<=s.aJ/\s.page+s.aJ<=255/\(s.data.size:Int)<=s.aJ*16)
def CN (i:Im):Bool:=i.dw.all fZ
def N7 (l:List Sg) (k:Nat):Bool:=k==0 || decide ((dN l (k-1)).page+(dN l (k-1)).aJ<=(dN l k).page)
def mI (l:List Sg):Nat->Bool
 | 0=>true
 | k+1=>mI l k&&N7 l k
def vg (l:List Sg):Bool:=mI l l.length
def jE (l:List ByteArray):Nat->Bool
 | 0=>true
 | k+1=>jE l k&&!(l.take k).contains (lC l k)
def qg (l:List ByteArray):Bool:=jE l l.length
def VS (i:Im):Bool:=vg i.dw&&(qg i.needs&&qg (i.syms.map (·.name)))
def nD (s:Sg) (a:Int):Bool:=decide (s.page*16<=a/\a<(s.page+s.aJ)*16)
def mE:List Sg->Int->Option Sg
 | [],_=>none
 | s::r,a=>if nD s a then some s else mE r a
def eD (l:List Sg) (a:Int):Bool:=(mE l a).isSome
def Nt (l:List Sg) (a:Int):Bool:=eD l a&&(eD l (a+1)&&(eD l (a+2)&&(eD l (a+3)&&(eD l (a+4)&&(eD l (a+5)&&(eD l (a+6)&&eD l (a+7)))))))
def Jm (i:Im) (k:Nat):Bool:=(k==0 || decide ((rh i.fV (k-1)).pos+8<=(rh i.fV k).pos))&&Nt i.dw (rh i.fV k).pos
def CI (i:Im):Nat->Bool
 | 0=>true
 | k+1=>CI i k&&Jm i k
def u6 (i:Im):Bool:=match mE i.dw i.entry with
 | some s=>s.ex&&decide (i.entry%8=0)
 | none=>false
def xI (i:Im):Bool:=i.syms.all (fun y=>eD i.dw y.pos)&&(CI i i.fV.length&&u6 i)
def kq (i:Im):Int:=if !Wf i then 4 else if !qY i then 2 else if !CN i then 3 else if !VS i then 5 else if !xI i then 6 else 0
def Qx (w:World) (b off:Nat) (l:List ByteArray):Prop:=∀i,i<l.length->w.cell? (Ad b (off+i))=some (.string (lC l i))
def zY (w:World) (b off:Nat) (l:List Sg):Prop:=∀i,i<l.length ->
 w.cell? (Ad b (off+i*5))=some (I (dN l i).page)/\w.cell? (Ad b (off+i*5+1))=some (I (dN l i).aJ) /\
 w.cell? (Ad b (off+i*5+2))=some (.string (dN l i).data)/\w.cell? (Ad b (off+i*5+3))=some (.bool (dN l i).wr)/\w.cell? (Ad b (off+i*5+4))=some (.bool (dN l i).ex)
def Ur (w:World) (b off:Nat) (l:List Sy):Prop:=∀i,i<l.length ->
 w.cell? (Ad b (off+i*2))=some (.string (SF l i).name)/\w.cell? (Ad b (off+i*2+1))=some (I (SF l i).pos)
def Ut (w:World) (b off:Nat) (l:List Rl):Prop:=∀i,i<l.length ->
 w.cell? (Ad b (off+i*3))=some (I (rh l i).pos)/\w.cell? (Ad b (off+i*3+1))=some (.string (rh l i).name)/\w.cell? (Ad b (off+i*3+2))=some (I (rh l i).add)
def gu (n:Int):Prop:=-9223372036854775808<=n/\n<=9223372036854775807
def bD (n:Nat):Prop:=n<=140737488351232
def abF (s:Sg):Prop:=gu s.page/\gu s.aJ/\bD s.data.size
def agr (s:Sy):Prop:=bD s.name.size/\gu s.pos
def ags (s:Rl):Prop:=gu s.pos/\bD s.name.size/\gu s.add
structure Fit (i:Im):Prop where
 name:bD i.name.size
 needs:bD i.needs.length
 need:∀k,k<i.needs.length->bD (lC i.needs k).size
 dw:bD i.dw.length
 seg:∀k,k<i.dw.length->abF (dN i.dw k)
 syms:bD i.syms.length
 sym:∀k,k<i.syms.length->agr (SF i.syms k)
 fV:bD i.fV.length
 rel:∀k,k<i.fV.length->ags (rh i.fV k)
 entry:gu i.entry
def fy {α:Type} (lie:World->Nat->Nat->List α->Prop) (w:World) (ao:Option Addr) (l:List α):Prop:=0<l.length->∃b off,ao=some (Ad b off)/\b<w.heap.size/\lie w b off l
structure At where
 an:Option Addr
 cn:Nat
 ag:Option Addr
 cg:Nat
 ay:Option Addr
 cy:Nat
 ar:Option Addr
 cr:Nat
structure nX (w:World) (a:At) (i:Im):Prop where
 needs:fy Qx w a.an i.needs
 dw:fy zY w a.ag i.dw
 syms:fy Ur w a.ay i.syms
 fV:fy Ut w a.ar i.fV
def fK (a:At) (i:Im):Array Value:=#[.string i.name,.slice a.an i.needs.length a.cn,.slice a.ag i.dw.length a.cg,.slice a.ay i.syms.length a.cy,.slice a.ar i.fV.length a.cr,I i.entry]
theorem br {w w':World} (hb:Below w.heap.size w w') {b o:Nat} (h:b<w.heap.size):w'.cell? (Ad b o)=w.cell? (Ad b o):=hb.cell (p:=(Ad b o)) h
theorem fy.below {α:Type} {lie:World->Nat->Nat->List α->Prop} (bN:∀{w w':World} {b off:Nat} {l:List α},Below w.heap.size w w'->b<w.heap.size->lie w b off l->lie w' b off l)
  {w w':World} {ao:Option Addr} {l:List α} (h:fy lie w ao l) (hb:Below w.heap.size w w'):fy lie w' ao l:=fun hl=>by
 obtain⟨b,off,e,hlt,hh⟩:=h hl;exact⟨b,off,e,Nat.lt_of_lt_of_le hlt hb.size,bN hb hlt hh⟩
theorem Zc {w w':World} {b off:Nat} {l:List ByteArray} (hb:Below w.heap.size w w') (hlt:b<w.heap.size) (h:Qx w b off l):Qx w' b off l:=fun i hi=>(br hb hlt).trans (h i hi)
theorem yV {w w':World} {b off:Nat} {l:List Sg} (hb:Below w.heap.size w w') (hlt:b<w.heap.size) (h:zY w b off l):zY w' b off l:=fun i hi=>by
 obtain⟨c0,c1,c2,c3,c4⟩:=h i hi;exact⟨(br hb hlt).trans c0,(br hb hlt).trans c1,(br hb hlt).trans c2,(br hb hlt).trans c3,(br hb hlt).trans c4⟩
theorem adg {w w':World} {b off:Nat} {l:List Sy} (hb:Below w.heap.size w w') (hlt:b<w.heap.size) (h:Ur w b off l):Ur w' b off l:=fun i hi=>by
 obtain⟨c0,c1⟩:=h i hi;exact⟨(br hb hlt).trans c0,(br hb hlt).trans c1⟩
theorem adh {w w':World} {b off:Nat} {l:List Rl} (hb:Below w.heap.size w w') (hlt:b<w.heap.size) (h:Ut w b off l):Ut w' b off l:=fun i hi=>by
 obtain⟨c0,c1,c2⟩:=h i hi;exact⟨(br hb hlt).trans c0,(br hb hlt).trans c1,(br hb hlt).trans c2⟩
theorem nX.below {w w':World} {a:At} {i:Im} (h:nX w a i) (hb:Below w.heap.size w w'):nX w' a i :=
 ⟨fy.below (lie:=Qx) (fun hb hlt h=>Zc hb hlt h) h.needs hb,fy.below (lie:=zY) (fun hb hlt h=>yV hb hlt h) h.dw hb,fy.below (lie:=Ur) (fun hb hlt h=>adg hb hlt h) h.syms hb,fy.below (lie:=Ut) (fun hb hlt h=>adh hb hlt h) h.fV hb⟩
end M
namespace CM
open Go.RowKit
def shr (n:Int) (k:Nat):Int:=n/256 ^ k
def low (n:Int):Nat:=(n%18446744073709551616).toNat
theorem NK (n:Int):shr n 0=n:=by simp[shr]
theorem NL (n:Int) (k:Nat):shr n k/256=shr n (k+1):=by
 simp only[shr,Int.pow_succ];rw[Int.ediv_ediv_of_nonneg (Int.pow_nonneg (by decide))]
theorem tR:∀(k v:Nat),Lib.leBytes (k+1) v=Lib.leBytes k v++[(v/256 ^ k%256).toUInt8]
 | 0,v=>by simp[Lib.leBytes]
 | k+1,v=>by
  rw[Lib.leBytes,tR k (v/256)];simp only[Lib.leBytes,List.cons_append];rw[Nat.div_div_eq_div_mul,<- Nat.pow_succ']
theorem NM (n:Int) (k:Nat) (h:k<8):shr n k%256=((low n/256 ^ k%256:Nat):Int):=by
 unfold shr low
 match k,h with
 | 0,_=>simp;omega
 | 1,_=>omega
 | 2,_=>omega
 | 3,_=>omega
 | 4,_=>omega
 | 5,_=>omega
 | 6,_=>omega
 | 7,_=>omega
theorem x8 (n:Int) (k:Nat) (h:k<8):strOfNums [shr n k%256]=⟨#[(low n/256 ^ k%256).toUInt8]⟩:=by
 rw[NM n k h];simp[strOfNums];rfl
theorem Lj (a b:List UInt8):(⟨a.toArray⟩:ByteArray)++⟨b.toArray⟩=⟨(a++b).toArray⟩:=ByteArray.mk_append_mk a b
theorem py (l:List UInt8):strOfNums (l.map fun b=>(b.toNat:Int))=⟨l.toArray⟩:=by
 simp only[strOfNums,List.map_map];congr 1;congr 1;induction l with
 | nil=>rfl
 | cons b r ih=>simp[ih]
theorem AU (l:List UInt8) (i:Nat) (h:i<l.length):(Lib.byteCells l)[i]?=some (.int .u8 ((l.map fun b=>(b.toNat:Int)).getD i 0)):=by
 simp[Lib.byteCells,h]
theorem bounds (n:Int) (h:(Lit.int .i64 n).wf=true):-9223372036854775808<=n/\n<=9223372036854775807:=by
 simp only[Lit.wf,IntKind.min,IntKind.max,IntKind.signed,IntKind.bits,Bool.and_eq_true,decide_eq_true_eq,if_true] at h;omega
end CM
namespace CL
open Go.RowKit Go.Lib
theorem nj (P:Program) (g o:Nat) (t:TypeId) (m1 m2:Nat):∀(vs:List Value) (i:Nat) (cur:Array Value) (w:World),w.heap[g]?=some (.cells cur t (m1,m2))->cur.size<=m1->o+i+vs.length<=cur.size->(∀v∈vs,v.oneCell'=true) ->
  (storeCells (Ad g o) vs i).run P w=.ok () (w.setRow g (cur.toList.take (o+i)++vs++cur.toList.drop (o+i+vs.length)).toArray)
 | [],i,cur,w,hg,_,_,_=>by
  simp only[storeCells,List.append_nil,List.length_nil,Nat.add_zero,List.take_append_drop,Array.toArray_toList];rw[setRow_self w g cur t (m1,m2) hg];rfl
 | v::rest,i,cur,w,hg,hm,hl,h1=>by
  have hi:o+i<cur.size:=by simp at hl;omega
  have hadd:((Ad g o):Addr).add i=(Ad g (o+i)):=by unfold Addr.add;split <;> simp_all
  have hcell:w.cell? (Ad g (o+i))=some cur[o+i]:=by simp[World.cell?,hg,hi]
  have hfro:w.frozen? (Ad g (o+i))=false:=by simp[World.frozen?,hg];omega
  have hst:(store (((Ad g o):Addr).add i) v).run P w=.ok () (w.setRow g (cur.setIfInBounds (o+i) v)):=by
   rw[hadd,run_store P w _ v _ (h1 v (by simp)),hcell];simp[hfro,setCell_eq_setRow w g (o+i) cur t (m1,m2) v hg]
  have ih:=nj P g o t m1 m2 rest (i+1) (cur.setIfInBounds (o+i) v) (w.setRow g (cur.setIfInBounds (o+i) v)) (setRow_heap w g cur _ t _ hg) (by simpa using hm) (by simp at hl ⊢;omega) (fun x hx=>h1 x (by simp[hx]));simp only[storeCells,Sem.run_bind,hst,Result.andThen_ok,ih,setRow_setRow];congr 3;have e:=list_seg_step cur.toList (o+i) v rest (by simp at hl ⊢;omega);simpa [Array.toList_setIfInBounds,Nat.add_assoc] using e
theorem Fy {P:Program} (w:World) (dT sT ty elem:TypeId) (g o dLen dCap:Nat) (s:ByteArray) (cur:Array Value) (t:TypeId) (m1 m2:Nat)
  (hu:P.underlying dT=some (.slice elem)) (hs:(P.info? elem).map (·.size)=some 1) (hg:w.heap[g]?=some (.cells cur t (m1,m2))) (hm:cur.size<=m1) (hle:s.size<=dLen) (hfit:o+s.size<=cur.size) :
  (Builtin.copy_ #[dT,sT] ty #[.slice (some (Ad g o)) dLen dCap,.string s]).run P w =
   .ok (goInt s.size) (w.setRow g (cur.toList.take o++Lib.byteCells s.data.toList++cur.toList.drop (o+s.size)).toArray):=by
 have hlen:(Lib.byteCells s.data.toList).length=s.size:=by rw[Lib.byteCells_length,<- size_eq]
 have hst:=nj P g o t m1 m2 (Lib.byteCells s.data.toList) 0 cur w hg hm (by rw[hlen];simpa using hfit) (Lib.byteCells_one _);have hmin:Nat.min s.size dLen=s.size:=Nat.min_eq_left hle;have htk:List.take s.size (List.map (fun b:UInt8=>Value.int IntKind.u8 (b.toNat:Int)) s.data.toList)=Lib.byteCells s.data.toList:=by
  rw[List.take_of_length_le (by rw[List.length_map,<- size_eq];exact Nat.le_refl _)];rfl
 rw[hlen] at hst;simp only[Nat.add_zero] at hst;cases hq:P.info? elem with
 | none=>simp[hq] at hs
 | some i =>
  simp[Builtin.copy_,run_underlying hu,Builtin.lenOf,Builtin.firstCells,sizeOf,typeInfo,hq,hmin];rw[htk,hst];simp[Result.andThen]
theorem AQ (s:ByteArray) (c:Nat):(bytesRow s c).size=s.size+(c-s.size):=by
 simp[bytesRow]
def over (s:ByteArray) (o:Nat) (t:ByteArray):ByteArray:=⟨(s.data.toList.take o++t.data.toList++s.data.toList.drop (o+t.size)).toArray⟩
theorem Hb (s:ByteArray) (o:Nat) (t:ByteArray) (c:Nat) (h:o+t.size<=s.size) (i:Nat) (hi:i<s.size) :
  ((bytesRow s c).toList.take o++Lib.byteCells t.data.toList++(bytesRow s c).toList.drop (o+t.size))[i]?=some (.int .u8 (((over s o t).data.toList.map fun b=>(b.toNat:Int)).getD i 0)):=by
 have hts:t.size=t.data.toList.length:=size_eq t;have Zr:s.size=s.data.toList.length:=size_eq s;have hr:(bytesRow s c).toList=Lib.byteCells s.data.toList++List.replicate (c-s.size) (.int .u8 0):=by
  simp[bytesRow,Lib.byteCells]
 have e:(bytesRow s c).toList.take o++Lib.byteCells t.data.toList++(bytesRow s c).toList.drop (o+t.size)=Lib.byteCells (over s o t).data.toList++List.replicate (c-s.size) (.int .u8 0):=by
  rw[hr,List.take_append_of_le_length (by rw[Lib.byteCells_length];omega),List.drop_append_of_le_length (by rw[Lib.byteCells_length];omega)];simp[over,Lib.byteCells,List.map_append,List.map_take,List.map_drop]
 have hol:(over s o t).data.toList.length=s.size:=by
  simp only[over,List.length_append,List.length_take,List.length_drop];omega
 rw[e,List.getElem?_append_left (by rw[Lib.byteCells_length,hol];exact hi)];exact CM.AU _ i (by rw[hol];exact hi)
theorem oD (s:ByteArray) (o:Nat) (t:ByteArray) (h:o+t.size<=s.size):(over s o t).data.toList.length=s.size:=by
 have hts:t.size=t.data.toList.length:=size_eq t;have Zr:s.size=s.data.toList.length:=size_eq s;simp only[over,List.length_append,List.length_take,List.length_drop];omega
theorem Ha (s:ByteArray) (o:Nat) (t:ByteArray):s.extract 0 o++t++s.extract (o+t.size) s.size=over s o t:=by
 have Zr:s.size=s.data.toList.length:=size_eq s;apply ByteArray.ext;apply Array.toList_inj.1;simp only[ByteArray.data_append,Array.toList_append,extract_data,over];have e:List.take (s.size-(o+t.size)) (List.drop (o+t.size) s.data.toList)=List.drop (o+t.size) s.data.toList:=List.take_of_length_le (by rw[List.length_drop];omega);rw[List.drop_zero,Nat.sub_zero,e]
theorem N5 (s:ByteArray) (o:Nat) (t:ByteArray) (h:t.size=0):over s o t=s:=by
 have hts:t.data.toList=[]:=List.eq_nil_of_length_eq_zero (by rw[<- size_eq];exact h);apply ByteArray.ext;simp[over,hts,h]
theorem G9 (s:ByteArray) (o:Nat) (t:ByteArray) (h:o+t.size<=s.size):(over s o t).size=s.size:=by
 rw[size_eq,oD s o t h]
end CL
namespace LM
open Go.RowKit
structure Fx where
 off:Int
 bytes:ByteArray
structure Sh where
 page:Int
 data:ByteArray
 bg:List Fx
 ao:Option Addr
 cap:Nat
def fx0:Fx:=⟨0,⟨#[]⟩⟩
def mi (l:List Fx) (i:Nat):Fx:=l.getD i fx0
def MP:Sh:=⟨0,⟨#[]⟩,[],none,0⟩
def aY (l:List Sh) (i:Nat):Sh:=l.getD i MP
def I3 (w:World) (b off:Nat) (l:List Fx):Prop:=∀i,i<l.length->w.cell? (Ad b (off+i*2))=some (I (mi l i).off)/\w.cell? (Ad b (off+i*2+1))=some (.string (mi l i).bytes)
theorem Zd {w w':World} {b off:Nat} {l:List Fx} (hb:Below w.heap.size w w') (hlt:b<w.heap.size) (h:I3 w b off l):I3 w' b off l:=fun i hi=>by
 obtain⟨c0,c1⟩:=h i hi;exact⟨(M.br hb hlt).trans c0,(M.br hb hlt).trans c1⟩
def oc (w:World) (ao:Option Addr) (l:List Fx):Prop:=M.fy I3 w ao l
theorem oc.below {w w':World} {ao:Option Addr} {l:List Fx} (h:oc w ao l) (hb:Below w.heap.size w w'):oc w' ao l:=M.fy.below (lie:=I3) (fun hb hlt h=>Zd hb hlt h) h hb
def Ym (f:Fx):Prop:=M.gu f.off/\M.bD f.bytes.size
structure DF (s:Sh):Prop where
 page:M.gu s.page
 data:M.bD s.data.size
 bg:M.bD s.bg.length
 fix:∀k,k<s.bg.length->Ym (mi s.bg k)
def lW (s:Sh):Array Value:=#[I s.page,.string s.data,.slice s.ao s.bg.length s.cap]
def l6 (l:List Fx):Nat->Int
 | 0=>0
 | k+1=>(mi l k).off+((mi l k).bytes.size:Int)
def Di (e:Int) (f:Fx):Bool:=decide (e<=f.off/\f.off<=16/\1<=(f.bytes.size:Int)/\(f.bytes.size:Int)<=16-f.off)
def cH (l:List Fx):Nat->Bool
 | 0=>true
 | k+1=>cH l k&&Di (l6 l k) (mi l k)
def jK (s:Sh):Bool:=decide (1<=s.page/\s.page<=255/\s.data.size=16)
def bQ (s:Sh):Bool:=jK s&&cH s.bg s.bg.length
def jZ (d:ByteArray) (l:List Fx):Nat->ByteArray
 | 0=>d
 | k+1=>CL.over (jZ d l k) (mi l k).off.toNat (mi l k).bytes
def mQ (s:Sh):ByteArray:=jZ s.data s.bg s.bg.length
def pF (s:Sh):ByteArray×Int:=if bQ s then (mQ s,0) else (⟨#[]⟩,1)
theorem lq (l:List Fx):∀(k n:Nat),k<=n->cH l k=false->cH l n=false
 | k, 0, h, hk => by obtain rfl:k=0 := by omega
                     exact hk
 | k,n+1,h,hk=>by
  by_cases e:k=n+1
  · subst e;exact hk
  · simp[cH,lq l k n (by omega) hk]
theorem mA (l:List Fx) (k:Nat) (hk:k<l.length) (h:Di (l6 l k) (mi l k)=false):cH l l.length=false :=
 lq l (k+1) l.length (by omega) (by simp[cH,h])
theorem sL (l:List Fx):∀(n:Nat),cH l n=true->∀i,i<n->Di (l6 l i) (mi l i)=true
 | 0,_,i,hi=>by omega
 | n+1,h,i,hi=>by
  simp only[cH,Bool.and_eq_true] at h;by_cases e:i=n
  · subst e;exact h.2
  · exact sL l n h.1 i (by omega)
theorem oK (e:Int) (f:Fx):Di e f=true↔(e<=f.off/\f.off<=16/\1<=(f.bytes.size:Int)/\(f.bytes.size:Int)<=16-f.off):=by simp[Di]
theorem qW {e:Int} {f:Fx} (h:¬(e<=f.off/\f.off<=16/\1<=(f.bytes.size:Int)/\(f.bytes.size:Int)<=16-f.off)):Di e f=false:=by simpa [Di] using h
theorem jr (l:List Fx):∀k,cH l k=true->(k:Int)<=l6 l k/\l6 l k<=16
 | 0,_=>by simp[l6]
 | k+1,h=>by
  simp only[cH,Bool.and_eq_true] at h;have ih:=jr l k h.1;have hf:=(oK _ _).1 h.2;simp only[l6];omega
theorem nB (d:ByteArray) (l:List Fx) (hd:d.size=16):∀k,cH l k=true->(jZ d l k).size=16
 | 0,_=>hd
 | k+1,h=>by
  simp only[cH,Bool.and_eq_true] at h;have ih:=nB d l hd k h.1;have hf:=(oK _ _).1 h.2;have he:=jr l k h.1;simp only[jZ];rw[CL.G9 _ _ _ (by omega),ih]
end LM
namespace AM
open Go.RowKit
def turned (F:Nat->St) (how:St->St×Int) (page t:Int):Nat->St:=fun k=>if page<=(k:Int)/\(k:Int)<t then (how (F k)).1 else F k
def iq (F:Nat->St) (how:St->St×Int):Nat->Nat->Int
 | _,0=>0
 | n,c+1=>if (how (F n)).2=0 then iq F how (n+1) c else (how (F n)).2
def jQ (l:List Ar) (page aJ bV:Int) (how:St->St×Int):List Ar×Int :=
 if aW l=0 then
  if dW page aJ&&iV bV then
   if iq (cR l) how page.toNat aJ.toNat=0 then (eO (turned (cR l) how page (page+aJ)),0)
   else ([],iq (cR l) how page.toNat aJ.toNat)
  else ([],3)
 else ([],aW l)
theorem CA (F:Nat->St) (how:St->St×Int) (page:Int):turned F how page page=F:=by
 funext k;simp only[turned];rw[if_neg (by omega)]
theorem Kt (F:Nat->St) (how:St->St×Int) (page:Int) (n:Nat):turned F how page n n=F n:=by
 simp only[turned];rw[if_neg (by omega)]
theorem Ea (F:Nat->St) (how:St->St×Int) (page:Int) (n:Nat) (h:page<=(n:Int)):upd (turned F how page n) n (how (F n)).1=turned F how page ((n:Int)+1):=by
 funext k;simp only[upd,turned];by_cases e:k=n
 · subst e;rw[if_pos rfl,if_pos ⟨h,by omega⟩]
 · rw[if_neg e];by_cases c:page<=(k:Int)/\(k:Int)<n
   · rw[if_pos c,if_pos ⟨c.1,by omega⟩]
   · rw[if_neg c,if_neg (by omega)]
theorem ue (F:Nat->St) (how:St->St×Int):∀(c n:Nat),(∀k,n<=k->k<n+c->(how (F k)).2=0)->iq F how n c=0
 | 0,_,_=>rfl
 | c+1,n,h=>by
  simp only[iq];rw[if_pos (h n (by omega) (by omega))];exact ue F how c (n+1) (fun k h1 h2=>h k (by omega) (by omega))
theorem zC (F:Nat->St) (how:St->St×Int):∀(c n m:Nat),n<=m->m<n+c->(∀k,n<=k->k<m->(how (F k)).2=0)->(how (F m)).2≠0->iq F how n c=(how (F m)).2
 | 0,n,m,h1,h2,_,_=>by omega
 | c+1,n,m,h1,h2,h,hm=>by
  simp only[iq];by_cases e:n=m
  · subst e;rw[if_neg hm]
  · rw[if_pos (h n (by omega) (by omega))];exact zC F how c (n+1) m (by omega) (by omega) (fun k h1 h2=>h k (by omega) h2) hm
theorem jD (p n:Int):dW p n=true↔1<=p/\1<=n/\n<=256-p:=by simp[dW]
end AM
end Go.Proofs.YtpgifpeohlllfaaGreat
