import Derived.Test.YtpgifpeohlllfaaGreatGV01
import Derived.Lib.Endian
import Derived.Lib.EndianBits
import Derived.Lib.Walk
import Derived.Lib.BufferWrite
set_option maxHeartbeats 20000000
set_option linter.unusedVariables false
set_option maxRecDepth 100000
set_option linter.unusedSimpArgs false
namespace Go.Proofs.YtpgifpeohlllfaaGreat
namespace Go.Proofs.YtpgifpeohlllfaaGreat
open Go.RowKit
def lJ (w:World) (ao:Option Addr) (m:Nat) (news:List Value):Prop:=0<m->∃ad,ao=some ad/\∀j u,news[j]?=some u->w.cell? (ad.add j)=some u
theorem lJ.below {w w':World} {ao:Option Addr} {m:Nat} {news:List Value} (h:lJ w ao m news) (hb:Below w.heap.size w w'):lJ w' ao m news:=fun hm=>by
 obtain⟨ad,e,hc⟩:=h hm
 grind [World.block_lt_of_cell?,Below.cell]
theorem TM:(Tryz.prog.info? 47).map (fun i=>(i.zero,i.size,i.bytes))=some (some (.agg #[I 0,I 0,I 0,.bool false]),4,32):=by rfl
theorem abG (ao:Option Addr) (n c:Nat) (xs:List Value) (w:World) (hl:xs.length=n*4) (h:lJ w ao n xs) (h1:∀u∈xs,u.oneCell'=true) (hn:n<=1000000) :
  Calls Tryz.prog 129 #[.slice ao n c] w fun e w'=>∃v,e=.returned v/\w'.ownsRow w.heap.size 47 4 v n xs/\Below w.heap.size w w':=by
 have HH:=ai h;have HL:=ai hl;have H1:=ai h1;clear h hl h1;have q:∀(w:World) (a:Option Addr) (n c n' c':Nat),(binOp .eql 28 (.slice a n c) (.slice none n' c')).run Tryz.prog w=.ok (.bool a.isNone) w:=fun w a n c n' c'=>Cq w _ _ a n c n' c' Tryz.underlying28
 obtain⟨i0,hin,hz0,hz1,hz2⟩:=iq TM;cases ao with
 | none =>
  have h0:n=0:=by
   by_cases g:0<n
   · obtain⟨ad,e,_⟩:=HH.o g;cases e
   · omega
  subst h0;have hx:xs=[]:=jS (by rw[HL.o]);subst hx;clear HH HL H1 hin hz0 hz1 hz2;go_enter Tryz.func129,Tryz.ntmps129;go_wp2;go_ret;exact⟨_,rfl,km _ _ _ _,aK _ _⟩
 | some ad =>
  have tP:=ai hin;have Dg:=ai hz0;have Df:=ai hz1;have BI:=ai hz2;clear hin hz0 hz1 hz2;go_enter Tryz.func129,Tryz.ntmps129;go_wp2_with (at_builtin;refine dU (P:=Tryz.prog) rfl _ _ 28 rfl w.heap.size 47 i0 (.agg #[I 0,I 0,I 0,.bool false]) 4 32 Tryz.underlying28 tP.o Dg.o Df.o BI.o rfl (by decide) (.slice (some (Ad w.heap.size 0)) 0 0) 0 [] (by rfl) (zM w #[] 0 (aM _) (by omega) (by simp)) (some ad) n c xs (by rfl) HL.o ((HH.o.below ((aK _ _).alloc (aM _) _))) H1.o (by grind [maxLen]) (by omega) (by simp) ?_;intro v' w' hown hgr hat;have HOWN:=ai hown;have Wi:=ai hgr;clear hown hgr hat)
  go_ret;have hown:=HOWN.o;have hgr:=Wi.o;rw[iI] at hown;exact⟨_,rfl,hown,((aK _ _).alloc (aM _) _).grown hgr (by simp) (fun k hk=>by grind [Value.ownBlock])⟩
theorem uk:(Tryz.prog.info? 45).map (fun i=>(i.zero,i.size,i.bytes))=some (some (.agg #[I 0,I 0,I 0]),3,24):=by rfl
theorem abF (ao:Option Addr) (n c:Nat) (xs:List Value) (w:World) (hl:xs.length=n*3) (h:lJ w ao n xs) (h1:∀u∈xs,u.oneCell'=true) (hn:n<=1000000) :
  Calls Tryz.prog 130 #[.slice ao n c] w fun e w'=>∃v,e=.returned v/\w'.ownsRow w.heap.size 45 3 v n xs/\Below w.heap.size w w':=by
 have HH:=ai h;have HL:=ai hl;have H1:=ai h1;clear h hl h1;have q:∀(w:World) (a:Option Addr) (n c n' c':Nat),(binOp .eql 41 (.slice a n c) (.slice none n' c')).run Tryz.prog w=.ok (.bool a.isNone) w:=fun w a n c n' c'=>Cq w _ _ a n c n' c' Tryz.underlying41
 obtain⟨i0,hin,hz0,hz1,hz2⟩:=iq uk;cases ao with
 | none =>
  have h0:n=0:=by
   by_cases g:0<n
   · obtain⟨ad,e,_⟩:=HH.o g;cases e
   · omega
  subst h0;have hx:xs=[]:=jS (by rw[HL.o]);subst hx;clear HH HL H1 hin hz0 hz1 hz2;go_enter Tryz.func130,Tryz.ntmps130;go_wp2;go_ret;exact⟨_,rfl,km _ _ _ _,aK _ _⟩
 | some ad =>
  have tP:=ai hin;have Dg:=ai hz0;have Df:=ai hz1;have BI:=ai hz2;clear hin hz0 hz1 hz2;go_enter Tryz.func130,Tryz.ntmps130;go_wp2_with (at_builtin;refine dU (P:=Tryz.prog) rfl _ _ 41 rfl w.heap.size 45 i0 (.agg #[I 0,I 0,I 0]) 3 24 Tryz.underlying41 tP.o Dg.o Df.o BI.o rfl (by decide) (.slice (some (Ad w.heap.size 0)) 0 0) 0 [] (by rfl) (zM w #[] 0 (aM _) (by omega) (by simp)) (some ad) n c xs (by rfl) HL.o ((HH.o.below ((aK _ _).alloc (aM _) _))) H1.o (by grind [maxLen]) (by omega) (by simp) ?_;intro v' w' hown hgr hat;have HOWN:=ai hown;have Wi:=ai hgr;clear hown hgr hat)
  go_ret;have hown:=HOWN.o;have hgr:=Wi.o;rw[iI] at hown;exact⟨_,rfl,hown,((aK _ _).alloc (aM _) _).grown hgr (by simp) (fun k hk=>by grind [Value.ownBlock])⟩
theorem TL:(Tryz.prog.info? 40).map (fun i=>(i.zero,i.size,i.bytes))=some (some (.agg #[.string ⟨#[]⟩,I 0,.bool false,.bool false]),4,32):=by rfl
theorem abE (ao:Option Addr) (n c:Nat) (xs:List Value) (w:World) (hl:xs.length=n*4) (h:lJ w ao n xs) (h1:∀u∈xs,u.oneCell'=true) (hn:n<=1000000) :
  Calls Tryz.prog 104 #[.slice ao n c] w fun e w'=>∃v,e=.returned v/\w'.ownsRow w.heap.size 40 4 v n xs/\Below w.heap.size w w':=by
 have HH:=ai h;have HL:=ai hl;have H1:=ai h1;clear h hl h1;have q:∀(w:World) (a:Option Addr) (n c n' c':Nat),(binOp .eql 23 (.slice a n c) (.slice none n' c')).run Tryz.prog w=.ok (.bool a.isNone) w:=fun w a n c n' c'=>Cq w _ _ a n c n' c' Tryz.underlying23
 obtain⟨i0,hin,hz0,hz1,hz2⟩:=iq TL;cases ao with
 | none =>
  have h0:n=0:=by
   by_cases g:0<n
   · obtain⟨ad,e,_⟩:=HH.o g;cases e
   · omega
  subst h0;have hx:xs=[]:=jS (by rw[HL.o]);subst hx;clear HH HL H1 hin hz0 hz1 hz2;go_enter Tryz.func104,Tryz.ntmps104;go_wp2;go_ret;exact⟨_,rfl,km _ _ _ _,aK _ _⟩
 | some ad =>
  have tP:=ai hin;have Dg:=ai hz0;have Df:=ai hz1;have BI:=ai hz2;clear hin hz0 hz1 hz2;go_enter Tryz.func104,Tryz.ntmps104;go_wp2_with (at_builtin;refine dU (P:=Tryz.prog) rfl _ _ 23 rfl w.heap.size 40 i0 (.agg #[.string ⟨#[]⟩,I 0,.bool false,.bool false]) 4 32 Tryz.underlying23 tP.o Dg.o Df.o BI.o rfl (by decide) (.slice (some (Ad w.heap.size 0)) 0 0) 0 [] (by rfl) (zM w #[] 0 (aM _) (by omega) (by simp)) (some ad) n c xs (by rfl) HL.o ((HH.o.below ((aK _ _).alloc (aM _) _))) H1.o (by grind [maxLen]) (by omega) (by simp) ?_;intro v' w' hown hgr hat;have HOWN:=ai hown;have Wi:=ai hgr;clear hown hgr hat)
  go_ret;have hown:=HOWN.o;have hgr:=Wi.o;rw[iI] at hown;exact⟨_,rfl,hown,((aK _ _).alloc (aM _) _).grown hgr (by simp) (fun k hk=>by grind [Value.ownBlock])⟩
theorem TH:(Tryz.prog.info? 86).map (fun i=>(i.zero,i.size,i.bytes))=some (some (.agg #[.string ⟨#[]⟩,I 0]),2,24):=by rfl
theorem abA (ao:Option Addr) (n c:Nat) (xs:List Value) (w:World) (hl:xs.length=n*2) (h:lJ w ao n xs) (h1:∀u∈xs,u.oneCell'=true) (hn:n<=1000000) :
  Calls Tryz.prog 105 #[.slice ao n c] w fun e w'=>∃v,e=.returned v/\w'.ownsRow w.heap.size 86 2 v n xs/\Below w.heap.size w w':=by
 have HH:=ai h;have HL:=ai hl;have H1:=ai h1;clear h hl h1;have q:∀(w:World) (a:Option Addr) (n c n' c':Nat),(binOp .eql 24 (.slice a n c) (.slice none n' c')).run Tryz.prog w=.ok (.bool a.isNone) w:=fun w a n c n' c'=>Cq w _ _ a n c n' c' Tryz.underlying24
 obtain⟨i0,hin,hz0,hz1,hz2⟩:=iq TH;cases ao with
 | none =>
  have h0:n=0:=by
   by_cases g:0<n
   · obtain⟨ad,e,_⟩:=HH.o g;cases e
   · omega
  subst h0;have hx:xs=[]:=jS (by rw[HL.o]);subst hx;clear HH HL H1 hin hz0 hz1 hz2;go_enter Tryz.func105,Tryz.ntmps105;go_wp2;go_ret;exact⟨_,rfl,km _ _ _ _,aK _ _⟩
 | some ad =>
  have tP:=ai hin;have Dg:=ai hz0;have Df:=ai hz1;have BI:=ai hz2;clear hin hz0 hz1 hz2;go_enter Tryz.func105,Tryz.ntmps105;go_wp2_with (at_builtin;refine dU (P:=Tryz.prog) rfl _ _ 24 rfl w.heap.size 86 i0 (.agg #[.string ⟨#[]⟩,I 0]) 2 24 Tryz.underlying24 tP.o Dg.o Df.o BI.o rfl (by decide) (.slice (some (Ad w.heap.size 0)) 0 0) 0 [] (by rfl) (zM w #[] 0 (aM _) (by omega) (by simp)) (some ad) n c xs (by rfl) HL.o ((HH.o.below ((aK _ _).alloc (aM _) _))) H1.o (by grind [maxLen]) (by omega) (by simp) ?_;intro v' w' hown hgr hat;have HOWN:=ai hown;have Wi:=ai hgr;clear hown hgr hat)
  go_ret;have hown:=HOWN.o;have hgr:=Wi.o;rw[iI] at hown;exact⟨_,rfl,hown,((aK _ _).alloc (aM _) _).grown hgr (by simp) (fun k hk=>by grind [Value.ownBlock])⟩
theorem TI:(Tryz.prog.info? 50).map (fun i=>(i.zero,i.size,i.bytes))=some (some (.agg #[I 0,.string ⟨#[]⟩,Nl]),3,48):=by rfl
theorem abB (ao:Option Addr) (n c:Nat) (xs:List Value) (w:World) (hl:xs.length=n*3) (h:lJ w ao n xs) (h1:∀u∈xs,u.oneCell'=true) (hn:n<=1000000) :
  Calls Tryz.prog 103 #[.slice ao n c] w fun e w'=>∃v,e=.returned v/\w'.ownsRow w.heap.size 50 3 v n xs/\Below w.heap.size w w':=by
 have HH:=ai h;have HL:=ai hl;have H1:=ai h1;clear h hl h1;have q:∀(w:World) (a:Option Addr) (n c n' c':Nat),(binOp .eql 22 (.slice a n c) (.slice none n' c')).run Tryz.prog w=.ok (.bool a.isNone) w:=fun w a n c n' c'=>Cq w _ _ a n c n' c' Tryz.underlying22
 obtain⟨i0,hin,hz0,hz1,hz2⟩:=iq TI;cases ao with
 | none =>
  have h0:n=0:=by
   by_cases g:0<n
   · obtain⟨ad,e,_⟩:=HH.o g;cases e
   · omega
  subst h0;have hx:xs=[]:=jS (by rw[HL.o]);subst hx;clear HH HL H1 hin hz0 hz1 hz2;go_enter Tryz.func103,Tryz.ntmps103;go_wp2;go_ret;exact⟨_,rfl,km _ _ _ _,aK _ _⟩
 | some ad =>
  have tP:=ai hin;have Dg:=ai hz0;have Df:=ai hz1;have BI:=ai hz2;clear hin hz0 hz1 hz2;go_enter Tryz.func103,Tryz.ntmps103;go_wp2_with (at_builtin;refine dU (P:=Tryz.prog) rfl _ _ 22 rfl w.heap.size 50 i0 (.agg #[I 0,.string ⟨#[]⟩,Nl]) 3 48 Tryz.underlying22 tP.o Dg.o Df.o BI.o rfl (by decide) (.slice (some (Ad w.heap.size 0)) 0 0) 0 [] (by rfl) (zM w #[] 0 (aM _) (by omega) (by simp)) (some ad) n c xs (by rfl) HL.o ((HH.o.below ((aK _ _).alloc (aM _) _))) H1.o (by grind [maxLen]) (by omega) (by simp) ?_;intro v' w' hown hgr hat;have HOWN:=ai hown;have Wi:=ai hgr;clear hown hgr hat)
  go_ret;have hown:=HOWN.o;have hgr:=Wi.o;rw[iI] at hown;exact⟨_,rfl,hown,((aK _ _).alloc (aM _) _).grown hgr (by simp) (fun k hk=>by grind [Value.ownBlock])⟩
theorem TJ:(Tryz.prog.info? 52).map (fun i=>(i.zero,i.size,i.bytes))=some (some (.agg #[I 0,.string ⟨#[]⟩]),2,24):=by rfl
theorem abD (ao:Option Addr) (n c:Nat) (xs:List Value) (w:World) (hl:xs.length=n*2) (h:lJ w ao n xs) (h1:∀u∈xs,u.oneCell'=true) (hn:n<=1000000) :
  Calls Tryz.prog 106 #[.slice ao n c] w fun e w'=>∃v,e=.returned v/\w'.ownsRow w.heap.size 52 2 v n xs/\Below w.heap.size w w':=by
 have HH:=ai h;have HL:=ai hl;have H1:=ai h1;clear h hl h1;have q:∀(w:World) (a:Option Addr) (n c n' c':Nat),(binOp .eql 48 (.slice a n c) (.slice none n' c')).run Tryz.prog w=.ok (.bool a.isNone) w:=fun w a n c n' c'=>Cq w _ _ a n c n' c' Tryz.underlying48
 obtain⟨i0,hin,hz0,hz1,hz2⟩:=iq TJ;cases ao with
 | none =>
  have h0:n=0:=by
   by_cases g:0<n
   · obtain⟨ad,e,_⟩:=HH.o g;cases e
   · omega
  subst h0;have hx:xs=[]:=jS (by rw[HL.o]);subst hx;clear HH HL H1 hin hz0 hz1 hz2;go_enter Tryz.func106,Tryz.ntmps106;go_wp2;go_ret;exact⟨_,rfl,km _ _ _ _,aK _ _⟩
 | some ad =>
  have tP:=ai hin;have Dg:=ai hz0;have Df:=ai hz1;have BI:=ai hz2;clear hin hz0 hz1 hz2;go_enter Tryz.func106,Tryz.ntmps106;go_wp2_with (at_builtin;refine dU (P:=Tryz.prog) rfl _ _ 48 rfl w.heap.size 52 i0 (.agg #[I 0,.string ⟨#[]⟩]) 2 24 Tryz.underlying48 tP.o Dg.o Df.o BI.o rfl (by decide) (.slice (some (Ad w.heap.size 0)) 0 0) 0 [] (by rfl) (zM w #[] 0 (aM _) (by omega) (by simp)) (some ad) n c xs (by rfl) HL.o ((HH.o.below ((aK _ _).alloc (aM _) _))) H1.o (by grind [maxLen]) (by omega) (by simp) ?_;intro v' w' hown hgr hat;have HOWN:=ai hown;have Wi:=ai hgr;clear hown hgr hat)
  go_ret;have hown:=HOWN.o;have hgr:=Wi.o;rw[iI] at hown;exact⟨_,rfl,hown,((aK _ _).alloc (aM _) _).grown hgr (by simp) (fun k hk=>by grind [Value.ownBlock])⟩
theorem F7:(Tryz.prog.info? 3).map (fun i=>(i.zero,i.size,i.bytes))=some (some (I 0),1,8):=by rfl
theorem abC (ao:Option Addr) (n c:Nat) (xs:List Value) (w:World) (hl:xs.length=n*1) (h:lJ w ao n xs) (h1:∀u∈xs,u.oneCell'=true) (hn:n<=1000000) :
  Calls Tryz.prog 167 #[.slice ao n c] w fun e w'=>∃v,e=.returned v/\w'.ownsRow w.heap.size 3 1 v n xs/\Below w.heap.size w w':=by
 have HH:=ai h;have HL:=ai hl;have H1:=ai h1;clear h hl h1;have q:∀(w:World) (a:Option Addr) (n c n' c':Nat),(binOp .eql 99 (.slice a n c) (.slice none n' c')).run Tryz.prog w=.ok (.bool a.isNone) w:=fun w a n c n' c'=>Cq w _ _ a n c n' c' Tryz.underlying99
 obtain⟨i0,hin,hz0,hz1,hz2⟩:=iq F7;cases ao with
 | none =>
  have h0:n=0:=by
   by_cases g:0<n
   · obtain⟨ad,e,_⟩:=HH.o g;cases e
   · omega
  subst h0;have hx:xs=[]:=jS (by rw[HL.o]);subst hx;clear HH HL H1 hin hz0 hz1 hz2;go_enter Tryz.func167,Tryz.ntmps167;go_wp2;go_ret;exact⟨_,rfl,km _ _ _ _,aK _ _⟩
 | some ad =>
  have tP:=ai hin;have Dg:=ai hz0;have Df:=ai hz1;have BI:=ai hz2;clear hin hz0 hz1 hz2;go_enter Tryz.func167,Tryz.ntmps167;go_wp2_with (at_builtin;refine dU (P:=Tryz.prog) rfl _ _ 99 rfl w.heap.size 3 i0 (I 0) 1 8 Tryz.underlying99 tP.o Dg.o Df.o BI.o rfl (by decide) (.slice (some (Ad w.heap.size 0)) 0 0) 0 [] (by rfl) (zM w #[] 0 (aM _) (by omega) (by simp)) (some ad) n c xs (by rfl) HL.o ((HH.o.below ((aK _ _).alloc (aM _) _))) H1.o (by grind [maxLen]) (by omega) (by simp) ?_;intro v' w' hown hgr hat;have HOWN:=ai hown;have Wi:=ai hgr;clear hown hgr hat)
  go_ret;have hown:=HOWN.o;have hgr:=Wi.o;rw[iI] at hown;exact⟨_,rfl,hown,((aK _ _).alloc (aM _) _).grown hgr (by simp) (fun k hk=>by grind [Value.ownBlock])⟩
structure pA where
 page:Int
 aR:Int
 data:ByteArray
 wr:Bool
 ex:Bool
structure Un where
 name:ByteArray
 pos:Int
structure QV where
 pos:Int
 name:ByteArray
 add:Int
structure vg where
 name:ByteArray
 needs:List ByteArray
 jU:List pA
 syms:List Un
 pI:List QV
 entry:Int
def ab4:ByteArray:=⟨#[]⟩
def Gp:pA:=⟨0,0,ab4,false,false⟩
def aij:Un:=⟨ab4,0⟩
def aik:QV:=⟨0,ab4,0⟩
def qm (l:List ByteArray) (i:Nat):ByteArray:=l.getD i ab4
def fu (l:List pA) (i:Nat):pA:=l.getD i Gp
def Um (l:List Un) (i:Nat):Un:=l.getD i aij
def tS (l:List QV) (i:Nat):QV:=l.getD i aik
theorem G6 {α:Type} (p:α->Bool) (d:α):∀l:List α,(∀i,i<l.length->p (l.getD i d)=true)->l.all p=true
 | [],_=>rfl
 | a::r,h=>by
  have h0:p a=true:=h 0 (by simp);have hr:=G6 p d r (fun i hi=>h (i+1) (by grind))
  grind
theorem OJ {α:Type} (p:α->Bool) (d:α):∀(l:List α) (i:Nat),i<l.length->l.all p=true->p (l.getD i d)=true
 | a::r,0,_,h=>by grind
 | a::r,i+1,hi,h=>by
  grind
theorem Ma {α:Type} (p:α->Bool) (d:α) (l:List α) (i:Nat) (hi:i<l.length) (h:p (l.getD i d)=false):l.all p=false:=by
 grind
def tH (n:Int):Bool:=decide (97<=n/\n<=122) || (decide (48<=n/\n<=57) || decide (n=95))
def tI (s:ByteArray):Bool:=decide (1<=s.size/\s.size<=12)&&s.data.toList.all (fun c=>tH c.toNat)
theorem SQ (s:ByteArray) (k:Nat) (h:k<s.size):s.data.toList.getD k 0=s[k]:=by
 have h':k<s.data.toList.length:=by simp_all
 rw[zQ,List.getElem?_eq_getElem h'];rfl
theorem Z2 (s:ByteArray) (h1:1<=s.size) (h2:s.size<=12) (h:∀k (hk:k<s.size),tH s[k].toNat=true):tI s=true:=by
 unfold tI;rw[dh ⟨h1,h2⟩,ni];refine G6 _ 0 _ (fun i hi=>?_)
 grind [Lib.size_eq,SQ]
theorem acW (s:ByteArray) (k:Nat) (hk:k<s.size) (h:tH s[k].toNat=false):tI s=false:=by
 unfold tI;rw[Ma _ 0 s.data.toList k (by simp_all) (by grind [SQ]),Bool.and_false]
theorem OI (s:ByteArray) (h:¬(1<=s.size/\s.size<=12)):tI s=false:=by
 grind [tI]
def Z1 (r:QV):Bool:=decide (r.name.size=0) || tI r.name
def aeF (i:vg):Bool:=tI i.name&&(i.needs.all tI&&(i.syms.all (fun y=>tI y.name)&&i.pI.all Z1))
def Bt (i:vg):Bool:=decide (1<=i.jU.length/\i.jU.length<=6/\i.needs.length<=4/\i.syms.length<=12/\i.pI.length<=16)
def kZ (s:pA):Bool:=decide (0<=s.page/\1<=s.aR/\s.page+s.aR<=255/\(s.data.size:Int)<=s.aR*16)
def K0 (i:vg):Bool:=i.jU.all kZ
def Xx (l:List pA) (k:Nat):Bool:=k==0 || decide ((fu l (k-1)).page+(fu l (k-1)).aR<=(fu l k).page)
def rC (l:List pA):Nat->Bool
 | 0=>true
 | k+1=>rC l k&&Xx l k
def Bu (l:List pA):Bool:=rC l l.length
def oq (l:List ByteArray):Nat->Bool
 | 0=>true
 | k+1=>oq l k&&!(l.take k).contains (qm l k)
def wj (l:List ByteArray):Bool:=oq l l.length
def aeE (i:vg):Bool:=Bu i.jU&&(wj i.needs&&wj (i.syms.map (·.name)))
def rp (s:pA) (a:Int):Bool:=decide (s.page*16<=a/\a<(s.page+s.aR)*16)
def rX:List pA->Int->Option pA
 | [],_=>none
 | s::r,a=>if rp s a then some s else rX r a
def je (l:List pA) (a:Int):Bool:=(rX l a).isSome
def Xw (l:List pA) (a:Int):Bool:=je l a&&(je l (a+1)&&(je l (a+2)&&(je l (a+3)&&(je l (a+4)&&(je l (a+5)&&(je l (a+6)&&je l (a+7)))))))
def Ob (i:vg) (k:Nat):Bool:=(k==0 || decide ((tS i.pI (k-1)).pos+8<=(tS i.pI k).pos))&&Xw i.jU (tS i.pI k).pos
def IU (i:vg):Nat->Bool
 | 0=>true
 | k+1=>IU i k&&Ob i k
def Br (i:vg):Bool:=match rX i.jU i.entry with
 | some s=>s.ex&&decide (i.entry%8=0)
 | none=>false
def FE (i:vg):Bool:=i.syms.all (fun y=>je i.jU y.pos)&&(IU i i.pI.length&&Br i)
def mG (i:vg):Int:=if !aeF i then 4 else if !Bt i then 2 else if !K0 i then 3 else if !aeE i then 5 else if !FE i then 6 else 0
def OL (w:World) (b off:Nat) (l:List ByteArray):Prop:=∀i,i<l.length->w.cell? (Ad b (off+i))=some (.string (qm l i))
def yE (w:World) (b off:Nat) (l:List pA):Prop:=∀i,i<l.length ->
 w.cell? (Ad b (off+i*5))=some (I (fu l i).page)/\w.cell? (Ad b (off+i*5+1))=some (I (fu l i).aR) /\
 w.cell? (Ad b (off+i*5+2))=some (.string (fu l i).data)/\w.cell? (Ad b (off+i*5+3))=some (.bool (fu l i).wr)/\w.cell? (Ad b (off+i*5+4))=some (.bool (fu l i).ex)
def Uo (w:World) (b off:Nat) (l:List Un):Prop:=∀i,i<l.length ->
 w.cell? (Ad b (off+i*2))=some (.string (Um l i).name)/\w.cell? (Ad b (off+i*2+1))=some (I (Um l i).pos)
def Uq (w:World) (b off:Nat) (l:List QV):Prop:=∀i,i<l.length ->
 w.cell? (Ad b (off+i*3))=some (I (tS l i).pos)/\w.cell? (Ad b (off+i*3+1))=some (.string (tS l i).name)/\w.cell? (Ad b (off+i*3+2))=some (I (tS l i).add)
def dY (n:Int):Prop:=-9223372036854775808<=n/\n<=9223372036854775807
def bY (n:Nat):Prop:=n<=140737488351232
def aeH (s:pA):Prop:=dY s.page/\dY s.aR/\bY s.data.size
def ajq (s:Un):Prop:=bY s.name.size/\dY s.pos
def ajr (s:QV):Prop:=dY s.pos/\bY s.name.size/\dY s.add
structure IV (i:vg):Prop where
 name:bY i.name.size
 needs:bY i.needs.length
 need:∀k,k<i.needs.length->bY (qm i.needs k).size
 jU:bY i.jU.length
 seg:∀k,k<i.jU.length->aeH (fu i.jU k)
 syms:bY i.syms.length
 sym:∀k,k<i.syms.length->ajq (Um i.syms k)
 pI:bY i.pI.length
 rel:∀k,k<i.pI.length->ajr (tS i.pI k)
 entry:dY i.entry
def iL {α:Type} (lie:World->Nat->Nat->List α->Prop) (w:World) (ao:Option Addr) (l:List α):Prop:=0<l.length->∃b off,ao=some (Ad b off)/\b<w.heap.size/\lie w b off l
structure IW where
 an:Option Addr
 cn:Nat
 ag:Option Addr
 cg:Nat
 ay:Option Addr
 cy:Nat
 ar:Option Addr
 cr:Nat
structure pL (w:World) (a:IW) (i:vg):Prop where
 needs:iL OL w a.an i.needs
 jU:iL yE w a.ag i.jU
 syms:iL Uo w a.ay i.syms
 pI:iL Uq w a.ar i.pI
def jV (a:IW) (i:vg):Array Value:=#[.string i.name,.slice a.an i.needs.length a.cn,.slice a.ag i.jU.length a.cg,.slice a.ay i.syms.length a.cy,.slice a.ar i.pI.length a.cr,I i.entry]
theorem gF {w w':World} (hb:Below w.heap.size w w') {b o:Nat} (h:b<w.heap.size):w'.cell? (Ad b o)=w.cell? (Ad b o):=hb.cell (p:=(Ad b o)) h
theorem iL.below {α:Type} {lie:World->Nat->Nat->List α->Prop} (fG:∀{w w':World} {b off:Nat} {l:List α},Below w.heap.size w w'->b<w.heap.size->lie w b off l->lie w' b off l)
  {w w':World} {ao:Option Addr} {l:List α} (h:iL lie w ao l) (hb:Below w.heap.size w w'):iL lie w' ao l:=fun hl=>by
 obtain⟨b,off,e,hlt,hh⟩:=h hl
 grind [Nat.lt_of_lt_of_le,Below.size]
theorem aeG {w w':World} {b off:Nat} {l:List ByteArray} (hb:Below w.heap.size w w') (hlt:b<w.heap.size) (h:OL w b off l):OL w' b off l:=fun i hi=>(gF hb hlt).trans (h i hi)
theorem yD {w w':World} {b off:Nat} {l:List pA} (hb:Below w.heap.size w w') (hlt:b<w.heap.size) (h:yE w b off l):yE w' b off l:=fun i hi=>by
 obtain⟨c0,c1,c2,c3,c4⟩:=h i hi
 grind [gF]
theorem ajo {w w':World} {b off:Nat} {l:List Un} (hb:Below w.heap.size w w') (hlt:b<w.heap.size) (h:Uo w b off l):Uo w' b off l:=fun i hi=>by
 obtain⟨c0,c1⟩:=h i hi
 grind [gF]
theorem ajp {w w':World} {b off:Nat} {l:List QV} (hb:Below w.heap.size w w') (hlt:b<w.heap.size) (h:Uq w b off l):Uq w' b off l:=fun i hi=>by
 obtain⟨c0,c1,c2⟩:=h i hi
 grind [gF]
theorem pL.below {w w':World} {a:IW} {i:vg} (h:pL w a i) (hb:Below w.heap.size w w'):pL w' a i :=
 ⟨iL.below (lie:=OL) (fun hb hlt h=>aeG hb hlt h) h.needs hb,iL.below (lie:=yE) (fun hb hlt h=>yD hb hlt h) h.jU hb,iL.below (lie:=Uo) (fun hb hlt h=>ajo hb hlt h) h.syms hb,iL.below (lie:=Uq) (fun hb hlt h=>ajp hb hlt h) h.pI hb⟩
def xE (n:Int) (k:Nat):Int:=n/256 ^ k
def xG (n:Int):Nat:=(n%18446744073709551616).toNat
theorem Zc (n:Int):xE n 0=n:=by simp[xE]
theorem Zd (n:Int) (k:Nat):xE n k/256=xE n (k+1):=by
 grind [xE,Int.ediv_ediv_of_nonneg]
theorem DI:∀(k v:Nat),Lib.leBytes (k+1) v=Lib.leBytes k v++[(v/256 ^ k%256).toUInt8]
 | 0,v=>by simp[Lib.leBytes]
 | k+1,v=>by
  rw[Lib.leBytes,DI k (v/256)]
  grind [Lib.leBytes,Nat.div_div_eq_div_mul]
theorem Ze (n:Int) (k:Nat) (h:k<8):xE n k%256=((xG n/256 ^ k%256:Nat):Int):=by
 unfold xE xG
 match k,h with
 | 0,_=>omega
 | 1,_=>omega
 | 2,_=>omega
 | 3,_=>omega
 | 4,_=>omega
 | 5,_=>omega
 | 6,_=>omega
 | 7,_=>omega
theorem J7 (n:Int) (k:Nat) (h:k<8):strOfNums [xE n k%256]=⟨#[(xG n/256 ^ k%256).toUInt8]⟩:=by
 grind [Ze,strOfNums]
theorem Wo (a b:List UInt8):(⟨a.toArray⟩:ByteArray)++⟨b.toArray⟩=⟨(a++b).toArray⟩:=ByteArray.mk_append_mk a b
theorem zj (l:List UInt8):strOfNums (l.map fun b=>(b.toNat:Int))=⟨l.toArray⟩:=by
 simp only[strOfNums,List.map_map];congr 1;congr 1;induction l with
 | nil=>rfl
 | cons b r ih=>simp[ih]
theorem LM (l:List UInt8) (i:Nat) (h:i<l.length):(Lib.byteCells l)[i]?=some (.int .u8 ((l.map fun b=>(b.toNat:Int)).getD i 0)):=by
 simp[Lib.byteCells,h]
theorem adG (n:Int) (h:(Lit.int .i64 n).wf=true):-9223372036854775808<=n/\n<=9223372036854775807:=by
 grind [Lit.wf,IntKind.min,IntKind.max,IntKind.signed,IntKind.bits]
end Go.Proofs.YtpgifpeohlllfaaGreat
namespace Go.Proofs.YtpgifpeohlllfaaGreat
open Go.RowKit Go.Lib
theorem xq (P:Program) (g o:Nat) (t:TypeId) (m1 m2:Nat):∀(vs:List Value) (i:Nat) (cur:Array Value) (w:World),w.heap[g]?=some (.cells cur t (m1,m2))->cur.size<=m1->o+i+vs.length<=cur.size->(∀v∈vs,v.oneCell'=true) ->
  (storeCells (Ad g o) vs i).run P w=.ok () (w.setRow g (cur.toList.take (o+i)++vs++cur.toList.drop (o+i+vs.length)).toArray)
 | [],i,cur,w,hg,_,_,_=>by
  simp only[storeCells,Il,TV,gV,List.take_append_drop,Array.toArray_toList];rw[setRow_self w g cur t (m1,m2) hg];rfl
 | v::rest,i,cur,w,hg,hm,hl,h1=>by
  have hi:o+i<cur.size:=by grind
  have hadd:((Ad g o):Addr).add i=(Ad g (o+i)):=by grind [Addr.add]
  have hcell:w.cell? (Ad g (o+i))=some cur[o+i]:=by grind [World.cell?]
  have hfro:w.frozen? (Ad g (o+i))=false:=by grind [World.frozen?]
  have hst:(store (((Ad g o):Addr).add i) v).run P w=.ok () (w.setRow g (cur.setIfInBounds (o+i) v)):=by
   grind [run_store,setCell_eq_setRow]
  have ih:=xq P g o t m1 m2 rest (i+1) (cur.setIfInBounds (o+i) v) (w.setRow g (cur.setIfInBounds (o+i) v)) (ng w g cur _ t _ hg) (by grind) (by grind) (fun x hx=>h1 x (by simp[hx]));simp only[storeCells,Sem.run_bind,hst,TZ,ih,setRow_setRow];congr 3;have e:=list_seg_step cur.toList (o+i) v rest (by omega)
  simp_all [Cj]
theorem Qt {P:Program} (w:World) (dT sT ty elem:TypeId) (g o dLen dCap:Nat) (s:ByteArray) (cur:Array Value) (t:TypeId) (m1 m2:Nat)
  (hu:P.underlying dT=some (.slice elem)) (hs:(P.info? elem).map (·.size)=some 1) (hg:w.heap[g]?=some (.cells cur t (m1,m2))) (hm:cur.size<=m1) (hle:s.size<=dLen) (hfit:o+s.size<=cur.size) :
  (Builtin.copy_ #[dT,sT] ty #[.slice (some (Ad g o)) dLen dCap,.string s]).run P w =
   .ok (goInt s.size) (w.setRow g (cur.toList.take o++Lib.byteCells s.data.toList++cur.toList.drop (o+s.size)).toArray):=by
 have hlen:(Lib.byteCells s.data.toList).length=s.size:=by rw[agp,<- size_eq]
 have hst:=xq P g o t m1 m2 (Lib.byteCells s.data.toList) 0 cur w hg hm (by omega) (Lib.byteCells_one _);have hmin:Nat.min s.size dLen=s.size:=Nat.min_eq_left hle;have htk:List.take s.size (List.map (fun b:UInt8=>Value.int IntKind.u8 (b.toNat:Int)) s.data.toList)=Lib.byteCells s.data.toList:=by
  rw[List.take_of_length_le (by simp_all)];rfl
 rw[hlen] at hst;simp only[gV] at hst;cases hq:P.info? elem with
 | none=>grind
 | some i =>
  simp_all [Builtin.copy_,Ik,Builtin.lenOf,Builtin.firstCells,sizeOf,typeInfo]
theorem LO (s:ByteArray) (c:Nat):(bytesRow s c).size=s.size+(c-s.size):=by
 simp[bytesRow]
def fU (s:ByteArray) (o:Nat) (t:ByteArray):ByteArray:=⟨(s.data.toList.take o++t.data.toList++s.data.toList.drop (o+t.size)).toArray⟩
theorem Su (s:ByteArray) (o:Nat) (t:ByteArray) (c:Nat) (h:o+t.size<=s.size) (i:Nat) (hi:i<s.size) :
  ((bytesRow s c).toList.take o++Lib.byteCells t.data.toList++(bytesRow s c).toList.drop (o+t.size))[i]?=some (.int .u8 (((fU s o t).data.toList.map fun b=>(b.toNat:Int)).getD i 0)):=by
 have hts:t.size=t.data.toList.length:=size_eq t;have hss:s.size=s.data.toList.length:=size_eq s;have hr:(bytesRow s c).toList=Lib.byteCells s.data.toList++List.replicate (c-s.size) (.int .u8 0):=by
  simp[bytesRow,Lib.byteCells]
 have e:(bytesRow s c).toList.take o++Lib.byteCells t.data.toList++(bytesRow s c).toList.drop (o+t.size)=Lib.byteCells (fU s o t).data.toList++List.replicate (c-s.size) (.int .u8 0):=by
  grind [fU,Lib.byteCells,List.map_take,List.map_drop]
 have hol:(fU s o t).data.toList.length=s.size:=by
  grind [fU]
 grind [Lib.byteCells_length,LM]
theorem J8 (s:ByteArray) (o:Nat) (t:ByteArray) (h:o+t.size<=s.size):(fU s o t).data.toList.length=s.size:=by
 grind [size_eq,fU]
theorem Ss (s:ByteArray) (o:Nat) (t:ByteArray):s.extract 0 o++t++s.extract (o+t.size) s.size=fU s o t:=by
 have hss:s.size=s.data.toList.length:=size_eq s;apply ByteArray.ext;simp[fU,List.take_of_length_le]
theorem Zf (s:ByteArray) (o:Nat) (t:ByteArray) (h:t.size=0):fU s o t=s:=by
 have hts:t.data.toList=[]:=jS (by simp_all)
 simp_all [fU]
theorem Sr (s:ByteArray) (o:Nat) (t:ByteArray) (h:o+t.size<=s.size):(fU s o t).size=s.size:=by
 grind [size_eq,J8]
end Go.Proofs.YtpgifpeohlllfaaGreat
namespace Go.Proofs.YtpgifpeohlllfaaGreat
open Go.RowKit
structure mF where
 off:Int
 bytes:ByteArray
structure bM where
 page:Int
 data:ByteArray
 dn:List mF
 ao:Option Addr
 cap:Nat
def O9:mF:=⟨0,⟨#[]⟩⟩
def lI (l:List mF) (i:Nat):mF:=l.getD i O9
def xy:bM:=⟨0,⟨#[]⟩,[],none,0⟩
def bj (l:List bM) (i:Nat):bM:=l.getD i xy
def CG (w:World) (b off:Nat) (l:List mF):Prop:=∀i,i<l.length->w.cell? (Ad b (off+i*2))=some (I (lI l i).off)/\w.cell? (Ad b (off+i*2+1))=some (.string (lI l i).bytes)
theorem ab6 {w w':World} {b off:Nat} {l:List mF} (hb:Below w.heap.size w w') (hlt:b<w.heap.size) (h:CG w b off l):CG w' b off l:=fun i hi=>by
 obtain⟨c0,c1⟩:=h i hi
 grind [gF]
def mr (w:World) (ao:Option Addr) (l:List mF):Prop:=iL CG w ao l
theorem mr.below {w w':World} {ao:Option Addr} {l:List mF} (h:mr w ao l) (hb:Below w.heap.size w w'):mr w' ao l:=iL.below (lie:=CG) (fun hb hlt h=>ab6 hb hlt h) h hb
def UF (f:mF):Prop:=dY f.off/\bY f.bytes.size
structure xU (s:bM):Prop where
 page:dY s.page
 data:bY s.data.size
 dn:bY s.dn.length
 fix:∀k,k<s.dn.length->UF (lI s.dn k)
def oY (s:bM):Array Value:=#[I s.page,.string s.data,.slice s.ao s.dn.length s.cap]
def nM (l:List mF):Nat->Int
 | 0=>0
 | k+1=>(lI l k).off+((lI l k).bytes.size:Int)
def xS (e:Int) (f:mF):Bool:=decide (e<=f.off/\f.off<=16/\1<=(f.bytes.size:Int)/\(f.bytes.size:Int)<=16-f.off)
def ez (l:List mF):Nat->Bool
 | 0=>true
 | k+1=>ez l k&&xS (nM l k) (lI l k)
def lh (s:bM):Bool:=decide (1<=s.page/\s.page<=255/\s.data.size=16)
def cR (s:bM):Bool:=lh s&&ez s.dn s.dn.length
def nk (d:ByteArray) (l:List mF):Nat->ByteArray
 | 0=>d
 | k+1=>fU (nk d l k) (lI l k).off.toNat (lI l k).bytes
def ou (s:bM):ByteArray:=nk s.data s.dn s.dn.length
def qG (s:bM):ByteArray×Int:=if cR s then (ou s,0) else (⟨#[]⟩,1)
theorem r8 (l:List mF):∀(k n:Nat),k<=n->ez l k=false->ez l n=false
 | k,0,h,hk=>by grind
 | k,n+1,h,hk=>by
  by_cases e:k=n+1
  · grind
  · simp[ez,r8 l k n (by omega) hk]
theorem r7 (l:List mF) (k:Nat) (hk:k<l.length) (h:xS (nM l k) (lI l k)=false):ez l l.length=false :=
 r8 l (k+1) l.length (by omega) (by simp[ez,h])
theorem AA (l:List mF):∀(n:Nat),ez l n=true->∀i,i<n->xS (nM l i) (lI l i)=true
 | 0,_,i,hi=>by omega
 | n+1,h,i,hi=>by
  simp only[ez,dR] at h;by_cases e:i=n
  · grind
  · exact AA l n h.1 i (by omega)
theorem ud (e:Int) (f:mF):xS e f=true↔(e<=f.off/\f.off<=16/\1<=(f.bytes.size:Int)/\(f.bytes.size:Int)<=16-f.off):=by simp[xS]
theorem vB {e:Int} {f:mF} (h:¬(e<=f.off/\f.off<=16/\1<=(f.bytes.size:Int)/\(f.bytes.size:Int)<=16-f.off)):xS e f=false:=by grind [xS]
theorem nY (l:List mF):∀k,ez l k=true->(k:Int)<=nM l k/\nM l k<=16
 | 0,_=>by simp[nM]
 | k+1,h=>by
  simp only[ez,dR] at h;have ih:=nY l k h.1
  grind [ud,nM]
theorem uH (d:ByteArray) (l:List mF) (hd:d.size=16):∀k,ez l k=true->(nk d l k).size=16
 | 0,_=>hd
 | k+1,h=>by
  simp only[ez,dR] at h;have ih:=uH d l hd k h.1;have hf:=(ud _ _).1 h.2;have he:=nY l k h.1
  grind [nk,Sr]
def cM (F:Nat->dH) (how:dH->dH×Int) (page t:Int):Nat->dH:=fun k=>if page<=(k:Int)/\(k:Int)<t then (how (F k)).1 else F k
def fh (F:Nat->dH) (how:dH->dH×Int):Nat->Nat->Int
 | _,0=>0
 | n,c+1=>if (how (F n)).2=0 then fh F how (n+1) c else (how (F n)).2
def dV (l:List bc) (page aR fV:Int) (how:dH->dH×Int):List bc×Int :=
 if br l=0 then
  if eu page aR&&gQ fV then
   if fh (cu l) how page.toNat aR.toNat=0 then (fB (cM (cu l) how page (page+aR)),0)
   else ([],fh (cu l) how page.toNat aR.toNat)
  else ([],3)
 else ([],br l)
theorem oZ (F:Nat->dH) (how:dH->dH×Int) (page:Int):cM F how page page=F:=by
 grind [cM]
theorem sM (F:Nat->dH) (how:dH->dH×Int) (page:Int) (n:Nat):cM F how page n n=F n:=by
 grind [cM]
theorem pZ (F:Nat->dH) (how:dH->dH×Int) (page:Int) (n:Nat) (h:page<=(n:Int)):Be (cM F how page n) n (how (F n)).1=cM F how page ((n:Int)+1):=by
 grind [Be,cM]
theorem nK (F:Nat->dH) (how:dH->dH×Int):∀(c n:Nat),(∀k,n<=k->k<n+c->(how (F k)).2=0)->fh F how n c=0
 | 0,_,_=>rfl
 | c+1,n,h=>by
  simp only[fh];rw[bf (h n (by omega) (by omega))];exact nK F how c (n+1) (fun k h1 h2=>h k (by omega) (by omega))
theorem qY (F:Nat->dH) (how:dH->dH×Int):∀(c n m:Nat),n<=m->m<n+c->(∀k,n<=k->k<m->(how (F k)).2=0)->(how (F m)).2≠0->fh F how n c=(how (F m)).2
 | 0,n,m,h1,h2,_,_=>by omega
 | c+1,n,m,h1,h2,h,hm=>by
  simp only[fh];by_cases e:n=m
  · grind
  · rw[bf (h n (by omega) (by omega))];exact qY F how c (n+1) m (by omega) (by omega) (fun k h1 h2=>h k (by omega) h2) hm
theorem iW (p n:Int):eu p n=true↔1<=p/\1<=n/\n<=256-p:=by simp[eu]
def jx (l:List bc) (n:Nat):dH:=let r:=bT l n;if r.2 then ⟨true,r.1.fV,r.1.zero⟩ else gS
def om (G:List bc):bc:=bB G (G.length-1)
def lC (G:List bc) (a:bc):Bool:=eu a.page a.aR&&gQ a.fV&&(G.length==0 || jF (om G) a)
theorem LU (p n q:Int) (z:Bool) (x:Int):gU ⟨p,n,q,z⟩ x=decide (p<=x/\x<p+n):=rfl
theorem zm (a:bc) (x:Int):gU a x=true↔a.page<=x/\x<a.page+a.aR:=⟨fun h=>jH h,fun h=>dh h⟩
theorem kU (G:List bc) (a:bc):om (G++[a])=a:=by simp[om,bB]
theorem Cb (G H:List bc):∀k,k<=G.length->jP (G++H) k=jP G k
 | 0,_=>rfl
 | k+1,h=>by
  simp only[jP,Cb G H k (by omega)]
  grind [mQ,rA]
theorem nX (G:List bc) (a:bc):mR (G++[a])=(mR G&&lC G a):=by
 unfold mR;rw[gh];show jP (G++[a]) (G.length+1)=_
 grind [jP,Cb,mQ,lC,om,ve,rA]
theorem vW:∀(G:List bc) (a:bc) (p:Int),bT (G++[a]) p=if (bT G p).2 then bT G p else if gU a p then (a,true) else (tZ,false)
 | [],a,p=>by rfl
 | b::r,a,p=>by
  simp only[NK,bT];by_cases h:gU b p=true
  · simp[h]
  · simp[h,vW r a p]
theorem Cc:∀(G:List bc) (p:Int),(bT G p).2=false->bT G p=(tZ,false)
 | [],p,_=>rfl
 | b::r,p,h=>by
  simp only[bT] at h ⊢;by_cases c:gU b p=true
  · grind
  · simp only[c] at h ⊢;exact Cc r p h
theorem vd (G:List bc) (a:bc) (n:Nat):jx (G++[a]) n=if (bT G n).2 then jx G n else if gU a n then ⟨true,a.fV,a.zero⟩ else gS:=by
 grind [jx,vW]
theorem pG:∀(m:Nat) (G:List bc),G.length=m->mR G=true->∀p:Int,(bT G p).2=true->1<=p/\p<(om G).oV
 | 0,G,hm,_,p,h=>by
  grind [bT]
 | m+1,G,hm,hg,p,h=>by
  rcases Cs G with rfl | ⟨H,a,rfl⟩
  · grind
  · rw[Cr] at *;rw[nX,dR] at hg;obtain⟨hgH,hok⟩:=hg;rw[kU];simp only[lC,dR,eu,iV] at hok;obtain⟨⟨hpa,_⟩,hfo⟩:=hok;rw[vW] at h;by_cases c:(bT H p).2=true
    · have ih:=pG m H (by grind) hgH p c
      grind [bT,jF,bc.oV]
    grind [gU]
structure kE (F:Nat->dH):Prop where
 zero:(F 0).m=false
 none:∀n,(F n).m=false->F n=gS
 fV:∀n,0<=(F n).p/\(F n).p<=3
theorem Wz (H:List bc) (a:bc):wQ (H++[a])=H++[⟨a.page,a.aR+1,a.fV,a.zero⟩]:=by
 grind [wQ,bB]
structure WG (F:Nat->dH) (k:Nat) (G:List bc):Prop where
 good:mR G=true
 look:∀n:Nat,jx G n=if n<k then F n else gS
 yes:(gT F k).m=true->0<G.length/\(om G).oV=k/\(om G).fV=(gT F k).p/\(om G).zero=(gT F k).z
 no:(gT F k).m=false->G.length=0∨(om G).oV<k∨k=0
theorem Zl (G:List bc) (n:Nat) (h:jx G n=gS):(bT G n).2=false:=by
 grind [jx,gS]
theorem wN (F:Nat->dH) (hF:kE F):∀k,k<=256->WG F k (b9 F k)
 | 0,_=>⟨rfl,fun n=>rfl,fun h=>by grind [gT,gS],fun _=>.inl rfl⟩
 | k+1,hk=>by
  have ih:=wN F hF k (by omega);obtain⟨G,hG⟩:=ex (b9 F k);rw[<- hG] at ih;simp only[b9];rw[<- hG];by_cases hm:(F k).m=false
  · rw[bf hm];refine⟨ih.good,fun n=>?_,fun h=>?_,fun _=>?_⟩
    · rw[ih.look n];by_cases h1:n<k
      · grind
      · rw[bl h1];by_cases h2:n<k+1
        · obtain rfl:n=k:=by omega
          rw[bf h2,hF.none n hm]
        grind
    · have:(F k).m=true:=h
      grind
    · by_cases hl:(gT F k).m=true
      · grind [WG.yes]
      · rcases ih.no (by grind) with h | h | h
        · omega
        · omega
        · subst h;have:G=[]:=hG
          grind
  · have hm':(F k).m=true:=by grind
    rw[bl hm];have hk1:1<=k:=by
     grind [kE.zero]
    have Dp:=Zl G k (by rw[ih.look k,bl (by omega)]);by_cases he:pM (F k) (gT F k)=true
    · rw[bf he];have hst:=Hw _ _ he;obtain⟨h0,h1,h2,h3⟩:=ih.yes (by grind);rcases Cs G with hnil | ⟨H,a,hH⟩
      · grind
      · rw[Cr] at hH;rw[hH,kU] at h1 h2 h3;have hg:=ih.good;rw[hH,nX,dR] at hg;obtain⟨hgH,hok⟩:=hg;have als:=hok;simp only[lC,dR,eu,iV] at als;obtain⟨⟨hpa,ZA⟩,hfo⟩:=als;rw[hH,Wz];unfold bc.oV at h1;refine⟨?_,fun n=>?_,fun _=>⟨by simp,?_,?_,?_⟩,fun h=>?_⟩
        · rw[nX,hgH,ni];simp only[lC,dR,eu,iV];exact⟨⟨⟨hpa.1,by omega,by omega⟩,ZA⟩,hfo⟩
        · have hl:=ih.look n;rw[hH] at hl;rw[vd] at hl ⊢;by_cases c:(bT H n).2=true
          · rw[bf c] at hl ⊢;rw[hl];have hb:=pG _ H rfl hgH n c
            grind [bT,jF]
          · rw[bl c] at hl ⊢;by_cases d:n=k
            · subst d;rw[bf (by grind [LU]),bf (by omega)];show dH.mk true a.fV a.zero=F n;rw[h2,h3,<- hst,<- hm']
            grind [zm]
        · rw[kU];show a.page+(a.aR+1)=_;omega
        · rw[kU];show a.fV=(F k).p;grind
        · rw[kU];show a.zero=(F k).z;grind
        · have:(F k).m=false:=h
          grind
    · have he':pM (F k) (gT F k)=false:=by grind
      rw[bl he];refine⟨?_,fun n=>?_,fun _=>⟨by simp,?_,?_,?_⟩,fun h=>?_⟩
      · rw[nX,ih.good,ni];simp only[lC,dR,eu,gQ,iV];refine⟨⟨⟨by omega,by omega,by omega⟩,hF.fV k⟩,?_⟩;by_cases h0:G.length=0
        · simp[h0]
        · simp only[Ck,Ie,h0,false_or];by_cases hl:(gT F k).m=true
          · grind [jF,QD,WG.yes]
          · rcases ih.no (by grind) with h | h | h
            · omega
            · grind [jF]
            · omega
      · rw[vd];by_cases c:(bT G n).2=true
        · rw[bf c,ih.look n]
          grind
        · rw[bl c];by_cases d:n=k
          · subst d;rw[bf (by grind [LU]),bf (by omega)];show dH.mk true (F n).p (F n).z=F n;rw[<- hm']
          · rw[bl (by grind [LU])];have hl:=ih.look n
            grind [jx]
      · rw[kU];rfl
      · rw[kU];rfl
      · rw[kU];rfl
      · have:(F k).m=false:=h
        grind
theorem Fk (F:Nat->dH) (hF:kE F):mR (fB F)=true:=(wN F hF 256 (aM _)).good
theorem Fi (F:Nat->dH) (hF:kE F) (n:Nat) (hn:n<256):jx (fB F) n=F n:=by
 have:=(wN F hF 256 (aM _)).look n;rw[bf hn] at this;exact this
theorem u9 (l:List bc):∀(m:Nat) (G:List bc),G.length=m->mR G=true->∀n:Nat,jx G n=cN G G.length n
 | 0,G,hm,_,n=>by
  have e:G=[]:=jS hm;subst e;rfl
 | m+1,G,hm,hg,n=>by
  rcases Cs G with rfl | ⟨H,a,rfl⟩
  · rfl
  · rw[Cr] at *;rw[nX,dR] at hg;have ih:=u9 l m H (by grind) hg.1 n;have hs:∀k,k<=H.length->cN (H++[a]) k=cN H k:=by
     intro k;induction k with
     | zero=>intro _;rfl
     | succ k ihk=>grind [cN,rA]
    rw[gh];show _=cN (H++[a]) (H.length+1) n;simp only[cN];rw[hs H.length (aM _),ve,vd];simp only[js];by_cases c:(bT H n).2=true
    · rw[bf c,ih];have hb:=pG _ H rfl hg.1 n c
      grind [lC,bT,jF]
    grind [jx,gU]
theorem p7 (l:List bc) (h:br l=0):mR l=true:=by
 grind [br]
theorem Ca (l:List bc) (hc:br l=0):∀k,k<=l.length->(cN l k 0).m=false/\(∀n,(cN l k n).m=false->cN l k n=gS)/\(∀n,0<=(cN l k n).p/\(cN l k n).p<=3)
 | 0,_=>⟨rfl,fun n _=>rfl,fun n=>by simp[cN,gS]⟩
 | k+1,hk=>by
  have ih:=Ca l hc k (by omega);have ho:=gH l k (gm l hc k (by omega));refine⟨?_,fun n=>?_,fun n=>?_⟩
  · simp only[cN,js];grind
  · simp only[cN,js]
    grind
  · simp only[cN,js]
    grind
theorem oO (l:List bc) (hc:br l=0):kE (cu l):=by
 have h:=Ca l hc l.length (aM _);exact⟨h.1,h.2.1,h.2.2⟩
theorem zo (F:Nat->dH) (hF:kE F) (how:dH->dH×Int) (page t:Int) (hp:1<=page)
  (hn:∀s,(s.m=false->s=gS)->((how s).1.m=false->(how s).1=gS)) (hq:∀s,0<=s.p/\s.p<=3->0<=(how s).1.p/\(how s).1.p<=3):kE (cM F how page t):=by
 refine⟨?_,fun n=>?_,fun n=>?_⟩
 · grind [cM,kE.zero]
 · simp only[cM];split
   · simp_all [kE.none]
   · exact hF.none n
 · simp only[cM];split
   · simp_all [kE.fV]
   · exact hF.fV n
theorem Fj (F:Nat->dH) (h0:(F 0).m=false):∀k,(b9 F (k+1)).length<=k
 | 0=>by grind [b9]
 | k+1=>by
  have ih:=Fj F h0 k
  grind [b9,rT]
theorem qO (F:Nat->dH) (hF:kE F):br (fB F)=0:=by
 grind [fB,Fj,Fk,br,kE.zero]
theorem DM (l:List bc) (hc:br l=0) (F:Nat->dH) (p:Nat) (h:jx l p=F p):(aV l p).2=(F p).m/\(aV l p).1.fV=(F p).p/\(aV l p).1.zero=(F p).z:=by
 grind [aV,jx,Cc,tZ,gS]
theorem zt (F:Nat->dH) (hF:kE F) (p:Nat) (hp:p<256):(aV (fB F) p).2=(F p).m/\(aV (fB F) p).1.fV=(F p).p/\(aV (fB F) p).1.zero=(F p).z :=
 DM _ (qO F hF) F p (Fi F hF p hp)
theorem zq (l:List bc) (hc:br l=0) (p:Nat):(aV l p).2=(cu l p).m/\(aV l p).1.fV=(cu l p).p/\(aV l p).1.zero=(cu l p).z :=
 DM l hc (cu l) p (u9 l _ l rfl (p7 l hc) p)
theorem lD (l:List bc) (hc:br l=0):(∀i,i<l.length->yr (bB l i))/\l.length<=140737488351232:=by
 refine⟨fun i hi=>?_,by grind [kg]⟩;have ho:=gH l i (gm l hc i hi)
 grind [yr]
theorem Fm (F:Nat->dH) (how:dH->dH×Int):∀(c n:Nat),fh F how n c=0->∀k,n<=k->k<n+c->(how (F k)).2=0
 | 0,n,_,k,h1,h2=>by omega
 | c+1,n,h,k,h1,h2=>by
  simp only[fh] at h;split at h
  · rename_i h0
    by_cases e:k=n
    · grind
    · exact Fm F how c (n+1) h k (by omega) (by omega)
  omega
end Go.Proofs.YtpgifpeohlllfaaGreat
end Go.Proofs.YtpgifpeohlllfaaGreat
