import Derived.Test.YtpgifpeohlllfaaGreatGR01
import Derived.Lib.Endian
import Derived.Lib.EndianBits
import Derived.Lib.Walk
import Derived.Lib.BufferWrite
set_option maxHeartbeats 20000000
set_option linter.unusedVariables false
set_option maxRecDepth 100000
set_option linter.unusedSimpArgs false
namespace Go.Proofs.YtpgifpeohlllfaaGreat
open Go.RowKit
def kj (w:World) (ao:Option Addr) (m:Nat) (news:List Value):Prop:=0<m->∃ad,ao=some ad/\∀j u,news[j]?=some u->w.cell? (ad.add j)=some u
theorem kj.below {w w':World} {ao:Option Addr} {m:Nat} {news:List Value} (h:kj w ao m news) (hb:Below w.heap.size w w'):kj w' ao m news:=fun hm=>by
 obtain⟨ad,e,hc⟩:=h hm
 grind [World.block_lt_of_cell?,Below.cell]
theorem PC:(Tryz.prog.info? 47).map (fun i=>(i.zero,i.size,i.bytes))=some (some (.agg #[I 0,I 0,I 0,.bool false]),4,32):=by rfl
theorem XH (ao:Option Addr) (n c:Nat) (xs:List Value) (w:World) (hl:xs.length=n*4) (h:kj w ao n xs) (h1:∀u∈xs,u.oneCell'=true) (hn:n<=1000000) :
  Calls Tryz.prog 129 #[.slice ao n c] w fun e w'=>∃v,e=.returned v/\w'.ownsRow w.heap.size 47 4 v n xs/\Below w.heap.size w w':=by
 have HH:=ai h;have HL:=ai hl;have H1:=ai h1;clear h hl h1;have q:∀(w:World) (a:Option Addr) (n c n' c':Nat),(binOp .eql 28 (.slice a n c) (.slice none n' c')).run Tryz.prog w=.ok (.bool a.isNone) w:=fun w a n c n' c'=>zx w _ _ a n c n' c' Tryz.underlying28
 obtain⟨i0,hin,hz0,hz1,hz2⟩:=gm PC;cases ao with
 | none =>
  have h0:n=0:=by
   by_cases g:0<n
   · obtain⟨ad,e,_⟩:=HH.o g;cases e
   · omega
  subst h0;have hx:xs=[]:=iT (by rw[HL.o]);subst hx;clear HH HL H1 hin hz0 hz1 hz2;go_enter Tryz.func129,Tryz.ntmps129;go_wp2;go_ret;exact⟨_,rfl,jz _ _ _ _,aK _ _⟩
 | some ad =>
  have yG:=ai hin;have Bg:=ai hz0;have Bf:=ai hz1;have Aj:=ai hz2;clear hin hz0 hz1 hz2;go_enter Tryz.func129,Tryz.ntmps129;go_wp2_with (at_builtin;refine cZ (P:=Tryz.prog) rfl _ _ 28 rfl w.heap.size 47 i0 (.agg #[I 0,I 0,I 0,.bool false]) 4 32 Tryz.underlying28 yG.o Bg.o Bf.o Aj.o rfl (by decide) (.slice (some (Ad w.heap.size 0)) 0 0) 0 [] (by rfl) (xG w #[] 0 (aI _) (by omega) (by simp)) (some ad) n c xs (by rfl) HL.o ((HH.o.below ((aK _ _).alloc (aI _) _))) H1.o (by grind [maxLen]) (by omega) (by simp) ?_;intro v' w' hown hgr hat;have HOWN:=ai hown;have R4:=ai hgr;clear hown hgr hat)
  go_ret;have hown:=HOWN.o;have hgr:=R4.o;rw[gM] at hown;exact⟨_,rfl,hown,((aK _ _).alloc (aI _) _).grown hgr (by simp) (fun k hk=>by grind [Value.ownBlock])⟩
theorem tS:(Tryz.prog.info? 45).map (fun i=>(i.zero,i.size,i.bytes))=some (some (.agg #[I 0,I 0,I 0]),3,24):=by rfl
theorem XG (ao:Option Addr) (n c:Nat) (xs:List Value) (w:World) (hl:xs.length=n*3) (h:kj w ao n xs) (h1:∀u∈xs,u.oneCell'=true) (hn:n<=1000000) :
  Calls Tryz.prog 130 #[.slice ao n c] w fun e w'=>∃v,e=.returned v/\w'.ownsRow w.heap.size 45 3 v n xs/\Below w.heap.size w w':=by
 have HH:=ai h;have HL:=ai hl;have H1:=ai h1;clear h hl h1;have q:∀(w:World) (a:Option Addr) (n c n' c':Nat),(binOp .eql 41 (.slice a n c) (.slice none n' c')).run Tryz.prog w=.ok (.bool a.isNone) w:=fun w a n c n' c'=>zx w _ _ a n c n' c' Tryz.underlying41
 obtain⟨i0,hin,hz0,hz1,hz2⟩:=gm tS;cases ao with
 | none =>
  have h0:n=0:=by
   by_cases g:0<n
   · obtain⟨ad,e,_⟩:=HH.o g;cases e
   · omega
  subst h0;have hx:xs=[]:=iT (by rw[HL.o]);subst hx;clear HH HL H1 hin hz0 hz1 hz2;go_enter Tryz.func130,Tryz.ntmps130;go_wp2;go_ret;exact⟨_,rfl,jz _ _ _ _,aK _ _⟩
 | some ad =>
  have yG:=ai hin;have Bg:=ai hz0;have Bf:=ai hz1;have Aj:=ai hz2;clear hin hz0 hz1 hz2;go_enter Tryz.func130,Tryz.ntmps130;go_wp2_with (at_builtin;refine cZ (P:=Tryz.prog) rfl _ _ 41 rfl w.heap.size 45 i0 (.agg #[I 0,I 0,I 0]) 3 24 Tryz.underlying41 yG.o Bg.o Bf.o Aj.o rfl (by decide) (.slice (some (Ad w.heap.size 0)) 0 0) 0 [] (by rfl) (xG w #[] 0 (aI _) (by omega) (by simp)) (some ad) n c xs (by rfl) HL.o ((HH.o.below ((aK _ _).alloc (aI _) _))) H1.o (by grind [maxLen]) (by omega) (by simp) ?_;intro v' w' hown hgr hat;have HOWN:=ai hown;have R4:=ai hgr;clear hown hgr hat)
  go_ret;have hown:=HOWN.o;have hgr:=R4.o;rw[gM] at hown;exact⟨_,rfl,hown,((aK _ _).alloc (aI _) _).grown hgr (by simp) (fun k hk=>by grind [Value.ownBlock])⟩
theorem PB:(Tryz.prog.info? 40).map (fun i=>(i.zero,i.size,i.bytes))=some (some (.agg #[.string ⟨#[]⟩,I 0,.bool false,.bool false]),4,32):=by rfl
theorem XF (ao:Option Addr) (n c:Nat) (xs:List Value) (w:World) (hl:xs.length=n*4) (h:kj w ao n xs) (h1:∀u∈xs,u.oneCell'=true) (hn:n<=1000000) :
  Calls Tryz.prog 104 #[.slice ao n c] w fun e w'=>∃v,e=.returned v/\w'.ownsRow w.heap.size 40 4 v n xs/\Below w.heap.size w w':=by
 have HH:=ai h;have HL:=ai hl;have H1:=ai h1;clear h hl h1;have q:∀(w:World) (a:Option Addr) (n c n' c':Nat),(binOp .eql 23 (.slice a n c) (.slice none n' c')).run Tryz.prog w=.ok (.bool a.isNone) w:=fun w a n c n' c'=>zx w _ _ a n c n' c' Tryz.underlying23
 obtain⟨i0,hin,hz0,hz1,hz2⟩:=gm PB;cases ao with
 | none =>
  have h0:n=0:=by
   by_cases g:0<n
   · obtain⟨ad,e,_⟩:=HH.o g;cases e
   · omega
  subst h0;have hx:xs=[]:=iT (by rw[HL.o]);subst hx;clear HH HL H1 hin hz0 hz1 hz2;go_enter Tryz.func104,Tryz.ntmps104;go_wp2;go_ret;exact⟨_,rfl,jz _ _ _ _,aK _ _⟩
 | some ad =>
  have yG:=ai hin;have Bg:=ai hz0;have Bf:=ai hz1;have Aj:=ai hz2;clear hin hz0 hz1 hz2;go_enter Tryz.func104,Tryz.ntmps104;go_wp2_with (at_builtin;refine cZ (P:=Tryz.prog) rfl _ _ 23 rfl w.heap.size 40 i0 (.agg #[.string ⟨#[]⟩,I 0,.bool false,.bool false]) 4 32 Tryz.underlying23 yG.o Bg.o Bf.o Aj.o rfl (by decide) (.slice (some (Ad w.heap.size 0)) 0 0) 0 [] (by rfl) (xG w #[] 0 (aI _) (by omega) (by simp)) (some ad) n c xs (by rfl) HL.o ((HH.o.below ((aK _ _).alloc (aI _) _))) H1.o (by grind [maxLen]) (by omega) (by simp) ?_;intro v' w' hown hgr hat;have HOWN:=ai hown;have R4:=ai hgr;clear hown hgr hat)
  go_ret;have hown:=HOWN.o;have hgr:=R4.o;rw[gM] at hown;exact⟨_,rfl,hown,((aK _ _).alloc (aI _) _).grown hgr (by simp) (fun k hk=>by grind [Value.ownBlock])⟩
theorem Py:(Tryz.prog.info? 86).map (fun i=>(i.zero,i.size,i.bytes))=some (some (.agg #[.string ⟨#[]⟩,I 0]),2,24):=by rfl
theorem XB (ao:Option Addr) (n c:Nat) (xs:List Value) (w:World) (hl:xs.length=n*2) (h:kj w ao n xs) (h1:∀u∈xs,u.oneCell'=true) (hn:n<=1000000) :
  Calls Tryz.prog 105 #[.slice ao n c] w fun e w'=>∃v,e=.returned v/\w'.ownsRow w.heap.size 86 2 v n xs/\Below w.heap.size w w':=by
 have HH:=ai h;have HL:=ai hl;have H1:=ai h1;clear h hl h1;have q:∀(w:World) (a:Option Addr) (n c n' c':Nat),(binOp .eql 24 (.slice a n c) (.slice none n' c')).run Tryz.prog w=.ok (.bool a.isNone) w:=fun w a n c n' c'=>zx w _ _ a n c n' c' Tryz.underlying24
 obtain⟨i0,hin,hz0,hz1,hz2⟩:=gm Py;cases ao with
 | none =>
  have h0:n=0:=by
   by_cases g:0<n
   · obtain⟨ad,e,_⟩:=HH.o g;cases e
   · omega
  subst h0;have hx:xs=[]:=iT (by rw[HL.o]);subst hx;clear HH HL H1 hin hz0 hz1 hz2;go_enter Tryz.func105,Tryz.ntmps105;go_wp2;go_ret;exact⟨_,rfl,jz _ _ _ _,aK _ _⟩
 | some ad =>
  have yG:=ai hin;have Bg:=ai hz0;have Bf:=ai hz1;have Aj:=ai hz2;clear hin hz0 hz1 hz2;go_enter Tryz.func105,Tryz.ntmps105;go_wp2_with (at_builtin;refine cZ (P:=Tryz.prog) rfl _ _ 24 rfl w.heap.size 86 i0 (.agg #[.string ⟨#[]⟩,I 0]) 2 24 Tryz.underlying24 yG.o Bg.o Bf.o Aj.o rfl (by decide) (.slice (some (Ad w.heap.size 0)) 0 0) 0 [] (by rfl) (xG w #[] 0 (aI _) (by omega) (by simp)) (some ad) n c xs (by rfl) HL.o ((HH.o.below ((aK _ _).alloc (aI _) _))) H1.o (by grind [maxLen]) (by omega) (by simp) ?_;intro v' w' hown hgr hat;have HOWN:=ai hown;have R4:=ai hgr;clear hown hgr hat)
  go_ret;have hown:=HOWN.o;have hgr:=R4.o;rw[gM] at hown;exact⟨_,rfl,hown,((aK _ _).alloc (aI _) _).grown hgr (by simp) (fun k hk=>by grind [Value.ownBlock])⟩
theorem Pz:(Tryz.prog.info? 50).map (fun i=>(i.zero,i.size,i.bytes))=some (some (.agg #[I 0,.string ⟨#[]⟩,Nl]),3,48):=by rfl
theorem XC (ao:Option Addr) (n c:Nat) (xs:List Value) (w:World) (hl:xs.length=n*3) (h:kj w ao n xs) (h1:∀u∈xs,u.oneCell'=true) (hn:n<=1000000) :
  Calls Tryz.prog 103 #[.slice ao n c] w fun e w'=>∃v,e=.returned v/\w'.ownsRow w.heap.size 50 3 v n xs/\Below w.heap.size w w':=by
 have HH:=ai h;have HL:=ai hl;have H1:=ai h1;clear h hl h1;have q:∀(w:World) (a:Option Addr) (n c n' c':Nat),(binOp .eql 22 (.slice a n c) (.slice none n' c')).run Tryz.prog w=.ok (.bool a.isNone) w:=fun w a n c n' c'=>zx w _ _ a n c n' c' Tryz.underlying22
 obtain⟨i0,hin,hz0,hz1,hz2⟩:=gm Pz;cases ao with
 | none =>
  have h0:n=0:=by
   by_cases g:0<n
   · obtain⟨ad,e,_⟩:=HH.o g;cases e
   · omega
  subst h0;have hx:xs=[]:=iT (by rw[HL.o]);subst hx;clear HH HL H1 hin hz0 hz1 hz2;go_enter Tryz.func103,Tryz.ntmps103;go_wp2;go_ret;exact⟨_,rfl,jz _ _ _ _,aK _ _⟩
 | some ad =>
  have yG:=ai hin;have Bg:=ai hz0;have Bf:=ai hz1;have Aj:=ai hz2;clear hin hz0 hz1 hz2;go_enter Tryz.func103,Tryz.ntmps103;go_wp2_with (at_builtin;refine cZ (P:=Tryz.prog) rfl _ _ 22 rfl w.heap.size 50 i0 (.agg #[I 0,.string ⟨#[]⟩,Nl]) 3 48 Tryz.underlying22 yG.o Bg.o Bf.o Aj.o rfl (by decide) (.slice (some (Ad w.heap.size 0)) 0 0) 0 [] (by rfl) (xG w #[] 0 (aI _) (by omega) (by simp)) (some ad) n c xs (by rfl) HL.o ((HH.o.below ((aK _ _).alloc (aI _) _))) H1.o (by grind [maxLen]) (by omega) (by simp) ?_;intro v' w' hown hgr hat;have HOWN:=ai hown;have R4:=ai hgr;clear hown hgr hat)
  go_ret;have hown:=HOWN.o;have hgr:=R4.o;rw[gM] at hown;exact⟨_,rfl,hown,((aK _ _).alloc (aI _) _).grown hgr (by simp) (fun k hk=>by grind [Value.ownBlock])⟩
theorem PA:(Tryz.prog.info? 52).map (fun i=>(i.zero,i.size,i.bytes))=some (some (.agg #[I 0,.string ⟨#[]⟩]),2,24):=by rfl
theorem XE (ao:Option Addr) (n c:Nat) (xs:List Value) (w:World) (hl:xs.length=n*2) (h:kj w ao n xs) (h1:∀u∈xs,u.oneCell'=true) (hn:n<=1000000) :
  Calls Tryz.prog 106 #[.slice ao n c] w fun e w'=>∃v,e=.returned v/\w'.ownsRow w.heap.size 52 2 v n xs/\Below w.heap.size w w':=by
 have HH:=ai h;have HL:=ai hl;have H1:=ai h1;clear h hl h1;have q:∀(w:World) (a:Option Addr) (n c n' c':Nat),(binOp .eql 48 (.slice a n c) (.slice none n' c')).run Tryz.prog w=.ok (.bool a.isNone) w:=fun w a n c n' c'=>zx w _ _ a n c n' c' Tryz.underlying48
 obtain⟨i0,hin,hz0,hz1,hz2⟩:=gm PA;cases ao with
 | none =>
  have h0:n=0:=by
   by_cases g:0<n
   · obtain⟨ad,e,_⟩:=HH.o g;cases e
   · omega
  subst h0;have hx:xs=[]:=iT (by rw[HL.o]);subst hx;clear HH HL H1 hin hz0 hz1 hz2;go_enter Tryz.func106,Tryz.ntmps106;go_wp2;go_ret;exact⟨_,rfl,jz _ _ _ _,aK _ _⟩
 | some ad =>
  have yG:=ai hin;have Bg:=ai hz0;have Bf:=ai hz1;have Aj:=ai hz2;clear hin hz0 hz1 hz2;go_enter Tryz.func106,Tryz.ntmps106;go_wp2_with (at_builtin;refine cZ (P:=Tryz.prog) rfl _ _ 48 rfl w.heap.size 52 i0 (.agg #[I 0,.string ⟨#[]⟩]) 2 24 Tryz.underlying48 yG.o Bg.o Bf.o Aj.o rfl (by decide) (.slice (some (Ad w.heap.size 0)) 0 0) 0 [] (by rfl) (xG w #[] 0 (aI _) (by omega) (by simp)) (some ad) n c xs (by rfl) HL.o ((HH.o.below ((aK _ _).alloc (aI _) _))) H1.o (by grind [maxLen]) (by omega) (by simp) ?_;intro v' w' hown hgr hat;have HOWN:=ai hown;have R4:=ai hgr;clear hown hgr hat)
  go_ret;have hown:=HOWN.o;have hgr:=R4.o;rw[gM] at hown;exact⟨_,rfl,hown,((aK _ _).alloc (aI _) _).grown hgr (by simp) (fun k hk=>by grind [Value.ownBlock])⟩
theorem Dn:(Tryz.prog.info? 3).map (fun i=>(i.zero,i.size,i.bytes))=some (some (I 0),1,8):=by rfl
theorem XD (ao:Option Addr) (n c:Nat) (xs:List Value) (w:World) (hl:xs.length=n*1) (h:kj w ao n xs) (h1:∀u∈xs,u.oneCell'=true) (hn:n<=1000000) :
  Calls Tryz.prog 167 #[.slice ao n c] w fun e w'=>∃v,e=.returned v/\w'.ownsRow w.heap.size 3 1 v n xs/\Below w.heap.size w w':=by
 have HH:=ai h;have HL:=ai hl;have H1:=ai h1;clear h hl h1;have q:∀(w:World) (a:Option Addr) (n c n' c':Nat),(binOp .eql 99 (.slice a n c) (.slice none n' c')).run Tryz.prog w=.ok (.bool a.isNone) w:=fun w a n c n' c'=>zx w _ _ a n c n' c' Tryz.underlying99
 obtain⟨i0,hin,hz0,hz1,hz2⟩:=gm Dn;cases ao with
 | none =>
  have h0:n=0:=by
   by_cases g:0<n
   · obtain⟨ad,e,_⟩:=HH.o g;cases e
   · omega
  subst h0;have hx:xs=[]:=iT (by rw[HL.o]);subst hx;clear HH HL H1 hin hz0 hz1 hz2;go_enter Tryz.func167,Tryz.ntmps167;go_wp2;go_ret;exact⟨_,rfl,jz _ _ _ _,aK _ _⟩
 | some ad =>
  have yG:=ai hin;have Bg:=ai hz0;have Bf:=ai hz1;have Aj:=ai hz2;clear hin hz0 hz1 hz2;go_enter Tryz.func167,Tryz.ntmps167;go_wp2_with (at_builtin;refine cZ (P:=Tryz.prog) rfl _ _ 99 rfl w.heap.size 3 i0 (I 0) 1 8 Tryz.underlying99 yG.o Bg.o Bf.o Aj.o rfl (by decide) (.slice (some (Ad w.heap.size 0)) 0 0) 0 [] (by rfl) (xG w #[] 0 (aI _) (by omega) (by simp)) (some ad) n c xs (by rfl) HL.o ((HH.o.below ((aK _ _).alloc (aI _) _))) H1.o (by grind [maxLen]) (by omega) (by simp) ?_;intro v' w' hown hgr hat;have HOWN:=ai hown;have R4:=ai hgr;clear hown hgr hat)
  go_ret;have hown:=HOWN.o;have hgr:=R4.o;rw[gM] at hown;exact⟨_,rfl,hown,((aK _ _).alloc (aI _) _).grown hgr (by simp) (fun k hk=>by grind [Value.ownBlock])⟩
open Go.RowKit
structure nO where
 page:Int
 bC:Int
 data:ByteArray
 wr:Bool
 ex:Bool
structure Qh where
 name:ByteArray
 pos:Int
structure Nh where
 pos:Int
 name:ByteArray
 add:Int
structure tu where
 name:ByteArray
 needs:List ByteArray
 iV:List nO
 syms:List Qh
 n7:List Nh
 entry:Int
def Yk:ByteArray:=⟨#[]⟩
def Dz:nO:=⟨0,0,Yk,false,false⟩
def aea:Qh:=⟨Yk,0⟩
def aeb:Nh:=⟨0,Yk,0⟩
def oU (l:List ByteArray) (i:Nat):ByteArray:=l.getD i Yk
def dX (l:List nO) (i:Nat):nO:=l.getD i Dz
def Qg (l:List Qh) (i:Nat):Qh:=l.getD i aea
def rG (l:List Nh) (i:Nat):Nh:=l.getD i aeb
theorem Ei {α:Type} (p:α->Bool) (d:α):∀l:List α,(∀i,i<l.length->p (l.getD i d)=true)->l.all p=true
 | [],_=>rfl
 | a::r,h=>by
  have h0:p a=true:=h 0 (by simp);have hr:=Ei p d r (fun i hi=>h (i+1) (by grind))
  grind
theorem K5 {α:Type} (p:α->Bool) (d:α):∀(l:List α) (i:Nat),i<l.length->l.all p=true->p (l.getD i d)=true
 | a::r,0,_,h=>by grind
 | a::r,i+1,hi,h=>by
  grind
theorem IL {α:Type} (p:α->Bool) (d:α) (l:List α) (i:Nat) (hi:i<l.length) (h:p (l.getD i d)=false):l.all p=false:=by
 grind
def ra (n:Int):Bool:=decide (97<=n/\n<=122) || (decide (48<=n/\n<=57) || decide (n=95))
def rh (s:ByteArray):Bool:=decide (1<=s.size/\s.size<=12)&&s.data.toList.all (fun c=>ra c.toNat)
theorem OP (s:ByteArray) (k:Nat) (h:k<s.size):s.data.toList.getD k 0=s[k]:=by
 have h':k<s.data.toList.length:=by simp_all
 rw[lU,q9 h'];rfl
theorem VD (s:ByteArray) (h1:1<=s.size) (h2:s.size<=12) (h:∀k (hk:k<s.size),ra s[k].toNat=true):rh s=true:=by
 unfold rh;rw[dI ⟨h1,h2⟩,lT];refine Ei _ 0 _ (fun i hi=>?_)
 grind [Lib.size_eq,OP]
theorem Y2 (s:ByteArray) (k:Nat) (hk:k<s.size) (h:ra s[k].toNat=false):rh s=false:=by
 unfold rh;rw[IL _ 0 s.data.toList k (by simp_all) (by grind [OP]),Bool.and_false]
theorem K4 (s:ByteArray) (h:¬(1<=s.size/\s.size<=12)):rh s=false:=by
 grind [rh]
def VC (r:Nh):Bool:=decide (r.name.size=0) || rh r.name
def aaL (i:tu):Bool:=rh i.name&&(i.needs.all rh&&(i.syms.all (fun y=>rh y.name)&&i.n7.all VC))
def yX (i:tu):Bool:=decide (1<=i.iV.length/\i.iV.length<=6/\i.needs.length<=4/\i.syms.length<=12/\i.n7.length<=16)
def jV (s:nO):Bool:=decide (0<=s.page/\1<=s.bC/\s.page+s.bC<=255/\(s.data.size:Int)<=s.bC*16)
def Hp (i:tu):Bool:=i.iV.all jV
def Tk (l:List nO) (k:Nat):Bool:=k==0 || decide ((dX l (k-1)).page+(dX l (k-1)).bC<=(dX l k).page)
def pO (l:List nO):Nat->Bool
 | 0=>true
 | k+1=>pO l k&&Tk l k
def yY (l:List nO):Bool:=pO l l.length
def mG (l:List ByteArray):Nat->Bool
 | 0=>true
 | k+1=>mG l k&&!(l.take k).contains (oU l k)
def ud (l:List ByteArray):Bool:=mG l l.length
def aaK (i:tu):Bool:=yY i.iV&&(ud i.needs&&ud (i.syms.map (·.name)))
def pI (s:nO) (a:Int):Bool:=decide (s.page*16<=a/\a<(s.page+s.bC)*16)
def qh:List nO->Int->Option nO
 | [],_=>none
 | s::r,a=>if pI s a then some s else qh r a
def gW (l:List nO) (a:Int):Bool:=(qh l a).isSome
def Tj (l:List nO) (a:Int):Bool:=gW l a&&(gW l (a+1)&&(gW l (a+2)&&(gW l (a+3)&&(gW l (a+4)&&(gW l (a+5)&&(gW l (a+6)&&gW l (a+7)))))))
def KG (i:tu) (k:Nat):Bool:=(k==0 || decide ((rG i.n7 (k-1)).pos+8<=(rG i.n7 k).pos))&&Tj i.iV (rG i.n7 k).pos
def Fq (i:tu):Nat->Bool
 | 0=>true
 | k+1=>Fq i k&&KG i k
def yV (i:tu):Bool:=match qh i.iV i.entry with
 | some s=>s.ex&&decide (i.entry%8=0)
 | none=>false
def C8 (i:tu):Bool:=i.syms.all (fun y=>gW i.iV y.pos)&&(Fq i i.n7.length&&yV i)
def kY (i:tu):Int:=if !aaL i then 4 else if !yX i then 2 else if !Hp i then 3 else if !aaK i then 5 else if !C8 i then 6 else 0
def K6 (w:World) (b off:Nat) (l:List ByteArray):Prop:=∀i,i<l.length->w.cell? (Ad b (off+i))=some (.string (oU l i))
def wI (w:World) (b off:Nat) (l:List nO):Prop:=∀i,i<l.length ->
 w.cell? (Ad b (off+i*5))=some (I (dX l i).page)/\w.cell? (Ad b (off+i*5+1))=some (I (dX l i).bC) /\
 w.cell? (Ad b (off+i*5+2))=some (.string (dX l i).data)/\w.cell? (Ad b (off+i*5+3))=some (.bool (dX l i).wr)/\w.cell? (Ad b (off+i*5+4))=some (.bool (dX l i).ex)
def Qi (w:World) (b off:Nat) (l:List Qh):Prop:=∀i,i<l.length ->
 w.cell? (Ad b (off+i*2))=some (.string (Qg l i).name)/\w.cell? (Ad b (off+i*2+1))=some (I (Qg l i).pos)
def Qj (w:World) (b off:Nat) (l:List Nh):Prop:=∀i,i<l.length ->
 w.cell? (Ad b (off+i*3))=some (I (rG l i).pos)/\w.cell? (Ad b (off+i*3+1))=some (.string (rG l i).name)/\w.cell? (Ad b (off+i*3+2))=some (I (rG l i).add)
def eY (n:Int):Prop:=-9223372036854775808<=n/\n<=9223372036854775807
def bT (n:Nat):Prop:=n<=140737488351232
def aaN (s:nO):Prop:=eY s.page/\eY s.bC/\bT s.data.size
def afm (s:Qh):Prop:=bT s.name.size/\eY s.pos
def afn (s:Nh):Prop:=eY s.pos/\bT s.name.size/\eY s.add
structure Fs (i:tu):Prop where
 name:bT i.name.size
 needs:bT i.needs.length
 need:∀k,k<i.needs.length->bT (oU i.needs k).size
 iV:bT i.iV.length
 seg:∀k,k<i.iV.length->aaN (dX i.iV k)
 syms:bT i.syms.length
 sym:∀k,k<i.syms.length->afm (Qg i.syms k)
 n7:bT i.n7.length
 rel:∀k,k<i.n7.length->afn (rG i.n7 k)
 entry:eY i.entry
def gB {α:Type} (lie:World->Nat->Nat->List α->Prop) (w:World) (ao:Option Addr) (l:List α):Prop:=0<l.length->∃b off,ao=some (Ad b off)/\b<w.heap.size/\lie w b off l
structure Fu where
 an:Option Addr
 cn:Nat
 ag:Option Addr
 cg:Nat
 ay:Option Addr
 cy:Nat
 ar:Option Addr
 cr:Nat
structure od (w:World) (a:Fu) (i:tu):Prop where
 needs:gB K6 w a.an i.needs
 iV:gB wI w a.ag i.iV
 syms:gB Qi w a.ay i.syms
 n7:gB Qj w a.ar i.n7
def iW (a:Fu) (i:tu):Array Value:=#[.string i.name,.slice a.an i.needs.length a.cn,.slice a.ag i.iV.length a.cg,.slice a.ay i.syms.length a.cy,.slice a.ar i.n7.length a.cr,I i.entry]
theorem fF {w w':World} (hb:Below w.heap.size w w') {b o:Nat} (h:b<w.heap.size):w'.cell? (Ad b o)=w.cell? (Ad b o):=hb.cell (p:=(Ad b o)) h
theorem gB.below {α:Type} {lie:World->Nat->Nat->List α->Prop} (eI:∀{w w':World} {b off:Nat} {l:List α},Below w.heap.size w w'->b<w.heap.size->lie w b off l->lie w' b off l)
  {w w':World} {ao:Option Addr} {l:List α} (h:gB lie w ao l) (hb:Below w.heap.size w w'):gB lie w' ao l:=fun hl=>by
 obtain⟨b,off,e,hlt,hh⟩:=h hl
 grind [Nat.lt_of_lt_of_le,Below.size]
theorem aaM {w w':World} {b off:Nat} {l:List ByteArray} (hb:Below w.heap.size w w') (hlt:b<w.heap.size) (h:K6 w b off l):K6 w' b off l:=fun i hi=>(fF hb hlt).trans (h i hi)
theorem wH {w w':World} {b off:Nat} {l:List nO} (hb:Below w.heap.size w w') (hlt:b<w.heap.size) (h:wI w b off l):wI w' b off l:=fun i hi=>by
 obtain⟨c0,c1,c2,c3,c4⟩:=h i hi
 grind [fF]
theorem afk {w w':World} {b off:Nat} {l:List Qh} (hb:Below w.heap.size w w') (hlt:b<w.heap.size) (h:Qi w b off l):Qi w' b off l:=fun i hi=>by
 obtain⟨c0,c1⟩:=h i hi
 grind [fF]
theorem afl {w w':World} {b off:Nat} {l:List Nh} (hb:Below w.heap.size w w') (hlt:b<w.heap.size) (h:Qj w b off l):Qj w' b off l:=fun i hi=>by
 obtain⟨c0,c1,c2⟩:=h i hi
 grind [fF]
theorem od.below {w w':World} {a:Fu} {i:tu} (h:od w a i) (hb:Below w.heap.size w w'):od w' a i :=
 ⟨gB.below (lie:=K6) (fun hb hlt h=>aaM hb hlt h) h.needs hb,gB.below (lie:=wI) (fun hb hlt h=>wH hb hlt h) h.iV hb,gB.below (lie:=Qi) (fun hb hlt h=>afk hb hlt h) h.syms hb,gB.below (lie:=Qj) (fun hb hlt h=>afl hb hlt h) h.n7 hb⟩
open Go.RowKit
def uU (n:Int) (k:Nat):Int:=n/256 ^ k
def uV (n:Int):Nat:=(n%18446744073709551616).toNat
theorem UR (n:Int):uU n 0=n:=by simp[uU]
theorem UT (n:Int) (k:Nat):uU n k/256=uU n (k+1):=by
 grind [uU,Int.ediv_ediv_of_nonneg]
theorem A6:∀(k v:Nat),Lib.leBytes (k+1) v=Lib.leBytes k v++[(v/256 ^ k%256).toUInt8]
 | 0,v=>by simp[Lib.leBytes]
 | k+1,v=>by
  rw[Lib.leBytes,A6 k (v/256)]
  grind [Lib.leBytes,Nat.div_div_eq_div_mul]
theorem UW (n:Int) (k:Nat) (h:k<8):uU n k%256=((uV n/256 ^ k%256:Nat):Int):=by
 unfold uU uV
 match k,h with
 | 0,_=>omega
 | 1,_=>omega
 | 2,_=>omega
 | 3,_=>omega
 | 4,_=>omega
 | 5,_=>omega
 | 6,_=>omega
 | 7,_=>omega
theorem G5 (n:Int) (k:Nat) (h:k<8):strOfNums [uU n k%256]=⟨#[(uV n/256 ^ k%256).toUInt8]⟩:=by
 grind [UW,strOfNums]
theorem Sd (a b:List UInt8):(⟨a.toArray⟩:ByteArray)++⟨b.toArray⟩=⟨(a++b).toArray⟩:=ByteArray.mk_append_mk a b
theorem xt (l:List UInt8):strOfNums (l.map fun b=>(b.toNat:Int))=⟨l.toArray⟩:=by
 simp only[strOfNums,List.map_map];congr 1;congr 1;induction l with
 | nil=>rfl
 | cons b r ih=>simp[ih]
theorem Iu (l:List UInt8) (i:Nat) (h:i<l.length):(Lib.byteCells l)[i]?=some (.int .u8 ((l.map fun b=>(b.toNat:Int)).getD i 0)):=by
 simp[Lib.byteCells,h]
theorem ZL (n:Int) (h:(Lit.int .i64 n).wf=true):-9223372036854775808<=n/\n<=9223372036854775807:=by
 grind [Lit.wf,IntKind.min,IntKind.max,IntKind.signed,IntKind.bits]
open Go.RowKit Go.Lib
theorem uM (P:Program) (g o:Nat) (t:TypeId) (m1 m2:Nat):∀(vs:List Value) (i:Nat) (cur:Array Value) (w:World),w.heap[g]?=some (.cells cur t (m1,m2))->cur.size<=m1->o+i+vs.length<=cur.size->(∀v∈vs,v.oneCell'=true) ->
  (storeCells (Ad g o) vs i).run P w=.ok () (w.setRow g (cur.toList.take (o+i)++vs++cur.toList.drop (o+i+vs.length)).toArray)
 | [],i,cur,w,hg,_,_,_=>by
  simp only[storeCells,E2,PQ,fW,List.take_append_drop,Array.toArray_toList];rw[setRow_self w g cur t (m1,m2) hg];rfl
 | v::rest,i,cur,w,hg,hm,hl,h1=>by
  have hi:o+i<cur.size:=by grind
  have hadd:((Ad g o):Addr).add i=(Ad g (o+i)):=by grind [Addr.add]
  have hcell:w.cell? (Ad g (o+i))=some cur[o+i]:=by grind [World.cell?]
  have hfro:w.frozen? (Ad g (o+i))=false:=by grind [World.frozen?]
  have hst:(store (((Ad g o):Addr).add i) v).run P w=.ok () (w.setRow g (cur.setIfInBounds (o+i) v)):=by
   grind [run_store,setCell_eq_setRow]
  have ih:=uM P g o t m1 m2 rest (i+1) (cur.setIfInBounds (o+i) v) (w.setRow g (cur.setIfInBounds (o+i) v)) (oP w g cur _ t _ hg) (by grind) (by grind) (fun x hx=>h1 x (by simp[hx]));simp only[storeCells,Sem.run_bind,hst,PV,ih,setRow_setRow];congr 3;have e:=list_seg_step cur.toList (o+i) v rest (by omega)
  simp_all [Kb]
theorem MD {P:Program} (w:World) (dT sT ty elem:TypeId) (g o dLen dCap:Nat) (s:ByteArray) (cur:Array Value) (t:TypeId) (m1 m2:Nat)
  (hu:P.underlying dT=some (.slice elem)) (hs:(P.info? elem).map (·.size)=some 1) (hg:w.heap[g]?=some (.cells cur t (m1,m2))) (hm:cur.size<=m1) (hle:s.size<=dLen) (hfit:o+s.size<=cur.size) :
  (Builtin.copy_ #[dT,sT] ty #[.slice (some (Ad g o)) dLen dCap,.string s]).run P w =
   .ok (goInt s.size) (w.setRow g (cur.toList.take o++Lib.byteCells s.data.toList++cur.toList.drop (o+s.size)).toArray):=by
 have hlen:(Lib.byteCells s.data.toList).length=s.size:=by rw[acb,<- size_eq]
 have hst:=uM P g o t m1 m2 (Lib.byteCells s.data.toList) 0 cur w hg hm (by omega) (Lib.byteCells_one _);have hmin:Nat.min s.size dLen=s.size:=Nat.min_eq_left hle;have htk:List.take s.size (List.map (fun b:UInt8=>Value.int IntKind.u8 (b.toNat:Int)) s.data.toList)=Lib.byteCells s.data.toList:=by
  rw[List.take_of_length_le (by simp_all)];rfl
 rw[hlen] at hst;simp only[fW] at hst;cases hq:P.info? elem with
 | none=>grind
 | some i =>
  simp_all [Builtin.copy_,E1,Builtin.lenOf,Builtin.firstCells,sizeOf,typeInfo]
theorem Iw (s:ByteArray) (c:Nat):(bytesRow s c).size=s.size+(c-s.size):=by
 simp[bytesRow]
def gF (s:ByteArray) (o:Nat) (t:ByteArray):ByteArray:=⟨(s.data.toList.take o++t.data.toList++s.data.toList.drop (o+t.size)).toArray⟩
theorem Ov (s:ByteArray) (o:Nat) (t:ByteArray) (c:Nat) (h:o+t.size<=s.size) (i:Nat) (hi:i<s.size) :
  ((bytesRow s c).toList.take o++Lib.byteCells t.data.toList++(bytesRow s c).toList.drop (o+t.size))[i]?=some (.int .u8 (((gF s o t).data.toList.map fun b=>(b.toNat:Int)).getD i 0)):=by
 have hts:t.size=t.data.toList.length:=size_eq t;have hss:s.size=s.data.toList.length:=size_eq s;have hr:(bytesRow s c).toList=Lib.byteCells s.data.toList++List.replicate (c-s.size) (.int .u8 0):=by
  simp[bytesRow,Lib.byteCells]
 have e:(bytesRow s c).toList.take o++Lib.byteCells t.data.toList++(bytesRow s c).toList.drop (o+t.size)=Lib.byteCells (gF s o t).data.toList++List.replicate (c-s.size) (.int .u8 0):=by
  grind [gF,Lib.byteCells,List.map_take,List.map_drop]
 have hol:(gF s o t).data.toList.length=s.size:=by
  grind [gF]
 grind [Lib.byteCells_length,Iu]
theorem G6 (s:ByteArray) (o:Nat) (t:ByteArray) (h:o+t.size<=s.size):(gF s o t).data.toList.length=s.size:=by
 grind [size_eq,gF]
theorem Ou (s:ByteArray) (o:Nat) (t:ByteArray):s.extract 0 o++t++s.extract (o+t.size) s.size=gF s o t:=by
 have hss:s.size=s.data.toList.length:=size_eq s;apply ByteArray.ext;simp[gF,List.take_of_length_le]
theorem UX (s:ByteArray) (o:Nat) (t:ByteArray) (h:t.size=0):gF s o t=s:=by
 have hts:t.data.toList=[]:=iT (by simp_all)
 simp_all [gF]
theorem Ot (s:ByteArray) (o:Nat) (t:ByteArray) (h:o+t.size<=s.size):(gF s o t).size=s.size:=by
 grind [size_eq,G6]
open Go.RowKit
structure kW where
 off:Int
 bytes:ByteArray
structure bR where
 page:Int
 data:ByteArray
 cM:List kW
 ao:Option Addr
 cap:Nat
def Lt:kW:=⟨0,⟨#[]⟩⟩
def ki (l:List kW) (i:Nat):kW:=l.getD i Lt
def tE:bR:=⟨0,⟨#[]⟩,[],none,0⟩
def aV (l:List bR) (i:Nat):bR:=l.getD i tE
def zN (w:World) (b off:Nat) (l:List kW):Prop:=∀i,i<l.length->w.cell? (Ad b (off+i*2))=some (I (ki l i).off)/\w.cell? (Ad b (off+i*2+1))=some (.string (ki l i).bytes)
theorem Ym {w w':World} {b off:Nat} {l:List kW} (hb:Below w.heap.size w w') (hlt:b<w.heap.size) (h:zN w b off l):zN w' b off l:=fun i hi=>by
 obtain⟨c0,c1⟩:=h i hi
 grind [fF]
def kQ (w:World) (ao:Option Addr) (l:List kW):Prop:=gB zN w ao l
theorem kQ.below {w w':World} {ao:Option Addr} {l:List kW} (h:kQ w ao l) (hb:Below w.heap.size w w'):kQ w' ao l:=gB.below (lie:=zN) (fun hb hlt h=>Ym hb hlt h) h hb
def Qy (f:kW):Prop:=eY f.off/\bT f.bytes.size
structure vD (s:bR):Prop where
 page:eY s.page
 data:bT s.data.size
 cM:bT s.cM.length
 fix:∀k,k<s.cM.length->Qy (ki s.cM k)
def mZ (s:bR):Array Value:=#[I s.page,.string s.data,.slice s.ao s.cM.length s.cap]
def l9 (l:List kW):Nat->Int
 | 0=>0
 | k+1=>(ki l k).off+((ki l k).bytes.size:Int)
def vB (e:Int) (f:kW):Bool:=decide (e<=f.off/\f.off<=16/\1<=(f.bytes.size:Int)/\(f.bytes.size:Int)<=16-f.off)
def dn (l:List kW):Nat->Bool
 | 0=>true
 | k+1=>dn l k&&vB (l9 l k) (ki l k)
def jY (s:bR):Bool:=decide (1<=s.page/\s.page<=255/\s.data.size=16)
def cu (s:bR):Bool:=jY s&&dn s.cM s.cM.length
def lV (d:ByteArray) (l:List kW):Nat->ByteArray
 | 0=>d
 | k+1=>gF (lV d l k) (ki l k).off.toNat (ki l k).bytes
def mI (s:bR):ByteArray:=lV s.data s.cM s.cM.length
def pc (s:bR):ByteArray×Int:=if cu s then (mI s,0) else (⟨#[]⟩,1)
theorem qm (l:List kW):∀(k n:Nat),k<=n->dn l k=false->dn l n=false
 | k,0,h,hk=>by grind
 | k,n+1,h,hk=>by
  by_cases e:k=n+1
  · grind
  · simp[dn,qm l k n (by omega) hk]
theorem ql (l:List kW) (k:Nat) (hk:k<l.length) (h:vB (l9 l k) (ki l k)=false):dn l l.length=false :=
 qm l (k+1) l.length (by omega) (by simp[dn,h])
theorem yo (l:List kW):∀(n:Nat),dn l n=true->∀i,i<n->vB (l9 l i) (ki l i)=true
 | 0,_,i,hi=>by omega
 | n+1,h,i,hi=>by
  simp only[dn,cR] at h;by_cases e:i=n
  · grind
  · exact yo l n h.1 i (by omega)
theorem rO (e:Int) (f:kW):vB e f=true↔(e<=f.off/\f.off<=16/\1<=(f.bytes.size:Int)/\(f.bytes.size:Int)<=16-f.off):=by simp[vB]
theorem tH {e:Int} {f:kW} (h:¬(e<=f.off/\f.off<=16/\1<=(f.bytes.size:Int)/\(f.bytes.size:Int)<=16-f.off)):vB e f=false:=by grind [vB]
theorem mq (l:List kW):∀k,dn l k=true->(k:Int)<=l9 l k/\l9 l k<=16
 | 0,_=>by simp[l9]
 | k+1,h=>by
  simp only[dn,cR] at h;have ih:=mq l k h.1
  grind [rO,l9]
theorem sA (d:ByteArray) (l:List kW) (hd:d.size=16):∀k,dn l k=true->(lV d l k).size=16
 | 0,_=>hd
 | k+1,h=>by
  simp only[dn,cR] at h;have ih:=sA d l hd k h.1;have hf:=(rO _ _).1 h.2;have he:=mq l k h.1
  grind [lV,Ot]
open Go.RowKit
def ie (F:Nat->di) (how:di->di×Int) (page t:Int):Nat->di:=fun k=>if page<=(k:Int)/\(k:Int)<t then (how (F k)).1 else F k
def kM (F:Nat->di) (how:di->di×Int):Nat->Nat->Int
 | _,0=>0
 | n,c+1=>if (how (F n)).2=0 then kM F how (n+1) c else (how (F n)).2
def kL (l:List aZ) (page bC fI:Int) (how:di->di×Int):List aZ×Int :=
 if bB l=0 then
  if fC page bC&&jx fI then
   if kM (eK l) how page.toNat bC.toNat=0 then (gw (ie (eK l) how page (page+bC)),0)
   else ([],kM (eK l) how page.toNat bC.toNat)
  else ([],3)
 else ([],bB l)
theorem J7 (F:Nat->di) (how:di->di×Int) (page:Int):ie F how page page=F:=by
 grind [ie]
theorem Sq (F:Nat->di) (how:di->di×Int) (page:Int) (n:Nat):ie F how page n n=F n:=by
 grind [ie]
theorem MM (F:Nat->di) (how:di->di×Int) (page:Int) (n:Nat) (h:page<=(n:Int)):yM (ie F how page n) n (how (F n)).1=ie F how page ((n:Int)+1):=by
 grind [yM,ie]
theorem Ba (F:Nat->di) (how:di->di×Int):∀(c n:Nat),(∀k,n<=k->k<n+c->(how (F k)).2=0)->kM F how n c=0
 | 0,_,_=>rfl
 | c+1,n,h=>by
  simp only[kM];rw[aR (h n (by omega) (by omega))];exact Ba F how c (n+1) (fun k h1 h2=>h k (by omega) (by omega))
theorem Ea (F:Nat->di) (how:di->di×Int):∀(c n m:Nat),n<=m->m<n+c->(∀k,n<=k->k<m->(how (F k)).2=0)->(how (F m)).2≠0->kM F how n c=(how (F m)).2
 | 0,n,m,h1,h2,_,_=>by omega
 | c+1,n,m,h1,h2,h,hm=>by
  simp only[kM];by_cases e:n=m
  · grind
  · rw[aR (h n (by omega) (by omega))];exact Ea F how c (n+1) m (by omega) (by omega) (fun k h1 h2=>h k (by omega) h2) hm
theorem nX (p n:Int):fC p n=true↔1<=p/\1<=n/\n<=256-p:=by simp[fC]
open Go.RowKit
def iy (l:List aZ) (n:Nat):di:=let r:=bV l n;if r.2 then ⟨true,r.1.fI,r.1.zero⟩ else gS
def mF (G:List aZ):aZ:=bl G (G.length-1)
def j6 (G:List aZ) (a:aZ):Bool:=fC a.page a.bC&&jx a.fI&&(G.length==0 || iF (mF G) a)
theorem IC (p n q:Int) (z:Bool) (x:Int):fP ⟨p,n,q,z⟩ x=decide (p<=x/\x<p+n):=rfl
theorem xu (a:aZ) (x:Int):fP a x=true↔a.page<=x/\x<a.page+a.bC:=⟨fun h=>kr h,fun h=>dI h⟩
theorem jL (G:List aZ) (a:aZ):mF (G++[a])=a:=by simp[mF,bl]
theorem zo (G H:List aZ):∀k,k<=G.length->iQ (G++H) k=iQ G k
 | 0,_=>rfl
 | k+1,h=>by
  simp only[iQ,zo G H k (by omega)]
  grind [lJ,pM]
theorem mn (G:List aZ) (a:aZ):lK (G++[a])=(lK G&&j6 G a):=by
 unfold lK;rw[fk];show iQ (G++[a]) (G.length+1)=_
 grind [iQ,zo,lJ,j6,mF,tj,pM]
theorem tV:∀(G:List aZ) (a:aZ) (p:Int),bV (G++[a]) p=if (bV G p).2 then bV G p else if fP a p then (a,true) else (rM,false)
 | [],a,p=>by rfl
 | b::r,a,p=>by
  simp only[Kj,bV];by_cases h:fP b p=true
  · simp[h]
  · simp[h,tV r a p]
theorem zq:∀(G:List aZ) (p:Int),(bV G p).2=false->bV G p=(rM,false)
 | [],p,_=>rfl
 | b::r,p,h=>by
  simp only[bV] at h ⊢;by_cases c:fP b p=true
  · grind
  · simp only[c] at h ⊢;exact zq r p h
theorem sZ (G:List aZ) (a:aZ) (n:Nat):iy (G++[a]) n=if (bV G n).2 then iy G n else if fP a n then ⟨true,a.fI,a.zero⟩ else gS:=by
 grind [iy,tV]
theorem nY:∀(m:Nat) (G:List aZ),G.length=m->lK G=true->∀p:Int,(bV G p).2=true->1<=p/\p<(mF G).mW
 | 0,G,hm,_,p,h=>by
  grind [bV]
 | m+1,G,hm,hg,p,h=>by
  rcases zB G with rfl | ⟨H,a,rfl⟩
  · grind
  · rw[zy] at *;rw[mn,cR] at hg;obtain⟨hgH,hok⟩:=hg;rw[jL];simp only[j6,cR,fC,gP] at hok;obtain⟨⟨hpa,_⟩,hfo⟩:=hok;rw[tV] at h;by_cases c:(bV H p).2=true
    · have ih:=nY m H (by grind) hgH p c
      grind [bV,iF,aZ.mW]
    grind [fP]
structure mo (F:Nat->di):Prop where
 zero:(F 0).m=false
 none:∀n,(F n).m=false->F n=gS
 fI:∀n,0<=(F n).p/\(F n).p<=3
theorem Sr (H:List aZ) (a:aZ):uB (H++[a])=H++[⟨a.page,a.bC+1,a.fI,a.zero⟩]:=by
 grind [uB,bl]
structure Ss (F:Nat->di) (k:Nat) (G:List aZ):Prop where
 good:lK G=true
 look:∀n:Nat,iy G n=if n<k then F n else gS
 yes:(fO F k).m=true->0<G.length/\(mF G).mW=k/\(mF G).fI=(fO F k).p/\(mF G).zero=(fO F k).z
 no:(fO F k).m=false->G.length=0∨(mF G).mW<k∨k=0
theorem Va (G:List aZ) (n:Nat) (h:iy G n=gS):(bV G n).2=false:=by
 grind [iy,gS]
theorem uA (F:Nat->di) (hF:mo F):∀k,k<=256->Ss F k (bY F k)
 | 0,_=>⟨rfl,fun n=>rfl,fun h=>by grind [fO,gS],fun _=>.inl rfl⟩
 | k+1,hk=>by
  have ih:=uA F hF k (by omega);obtain⟨G,hG⟩:=ex (bY F k);rw[<- hG] at ih;simp only[bY];rw[<- hG];by_cases hm:(F k).m=false
  · rw[aR hm];refine⟨ih.good,fun n=>?_,fun h=>?_,fun _=>?_⟩
    · rw[ih.look n];by_cases h1:n<k
      · grind
      · rw[bf h1];by_cases h2:n<k+1
        · obtain rfl:n=k:=by omega
          rw[aR h2,hF.none n hm]
        grind
    · have:(F k).m=true:=h
      grind
    · by_cases hl:(fO F k).m=true
      · grind [Ss.yes]
      · rcases ih.no (by grind) with h | h | h
        · omega
        · omega
        · subst h;have:G=[]:=hG
          grind
  · have hm':(F k).m=true:=by grind
    rw[bf hm];have hk1:1<=k:=by
     grind [mo.zero]
    have Ay:=Va G k (by rw[ih.look k,bf (by omega)]);by_cases he:oh (F k) (fO F k)=true
    · rw[aR he];have hst:=EO _ _ he;obtain⟨h0,h1,h2,h3⟩:=ih.yes (by grind);rcases zB G with hnil | ⟨H,a,hH⟩
      · grind
      · rw[zy] at hH;rw[hH,jL] at h1 h2 h3;have hg:=ih.good;rw[hH,mn,cR] at hg;obtain⟨hgH,hok⟩:=hg;have ahg:=hok;simp only[j6,cR,fC,gP] at ahg;obtain⟨⟨hpa,Ve⟩,hfo⟩:=ahg;rw[hH,Sr];unfold aZ.mW at h1;refine⟨?_,fun n=>?_,fun _=>⟨by simp,?_,?_,?_⟩,fun h=>?_⟩
        · rw[mn,hgH,lT];simp only[j6,cR,fC,gP];exact⟨⟨⟨hpa.1,by omega,by omega⟩,Ve⟩,hfo⟩
        · have hl:=ih.look n;rw[hH] at hl;rw[sZ] at hl ⊢;by_cases c:(bV H n).2=true
          · rw[aR c] at hl ⊢;rw[hl];have hb:=nY _ H rfl hgH n c
            grind [bV,iF]
          · rw[bf c] at hl ⊢;by_cases d:n=k
            · subst d;rw[aR (by grind [IC]),aR (by omega)];show di.mk true a.fI a.zero=F n;rw[h2,h3,<- hst,<- hm']
            grind [xu]
        · rw[jL];show a.page+(a.bC+1)=_;omega
        · rw[jL];show a.fI=(F k).p;grind
        · rw[jL];show a.zero=(F k).z;grind
        · have:(F k).m=false:=h
          grind
    · have he':oh (F k) (fO F k)=false:=by grind
      rw[bf he];refine⟨?_,fun n=>?_,fun _=>⟨by simp,?_,?_,?_⟩,fun h=>?_⟩
      · rw[mn,ih.good,lT];simp only[j6,cR,fC,jx,gP];refine⟨⟨⟨by omega,by omega,by omega⟩,hF.fI k⟩,?_⟩;by_cases h0:G.length=0
        · simp[h0]
        · simp only[zu,EU,h0,false_or];by_cases hl:(fO F k).m=true
          · grind [iF,MO,Ss.yes]
          · rcases ih.no (by grind) with h | h | h
            · omega
            · grind [iF]
            · omega
      · rw[sZ];by_cases c:(bV G n).2=true
        · rw[aR c,ih.look n]
          grind
        · rw[bf c];have c':(bV G n).2=false:=by grind
          by_cases d:n=k
          · subst d;rw[aR (by grind [IC]),aR (by omega)];show di.mk true (F n).p (F n).z=F n;rw[<- hm']
          · rw[bf (by grind [IC])];have hl:=ih.look n
            grind [iy]
      · rw[jL];rfl
      · rw[jL];rfl
      · rw[jL];rfl
      · have:(F k).m=false:=h
        grind
theorem CR (F:Nat->di) (hF:mo F):lK (gw F)=true:=(uA F hF 256 (aI _)).good
theorem CP (F:Nat->di) (hF:mo F) (n:Nat) (hn:n<256):iy (gw F) n=F n:=by
 have:=(uA F hF 256 (aI _)).look n;rw[aR hn] at this;exact this
theorem sY (l:List aZ):∀(m:Nat) (G:List aZ),G.length=m->lK G=true->∀n:Nat,iy G n=b9 G G.length n
 | 0,G,hm,_,n=>by
  have e:G=[]:=iT hm;subst e;rfl
 | m+1,G,hm,hg,n=>by
  rcases zB G with rfl | ⟨H,a,rfl⟩
  · rfl
  · rw[zy] at *;rw[mn,cR] at hg;have ih:=sY l m H (by grind) hg.1 n;have hs:∀k,k<=H.length->b9 (H++[a]) k=b9 H k:=by
     intro k;induction k with
     | zero=>intro _;rfl
     | succ k ihk=>grind [b9,pM]
    rw[fk];show _=b9 (H++[a]) (H.length+1) n;simp only[b9];rw[hs H.length (aI _),tj,sZ];simp only[iq];by_cases c:(bV H n).2=true
    · rw[aR c,ih];have hb:=nY _ H rfl hg.1 n c
      grind [j6,bV,iF]
    grind [iy,fP]
open Go.RowKit
theorem zn (l:List aZ) (h:bB l=0):lK l=true:=by
 grind [bB]
theorem zm (l:List aZ) (hc:bB l=0):∀k,k<=l.length->(b9 l k 0).m=false/\(∀n,(b9 l k n).m=false->b9 l k n=gS)/\(∀n,0<=(b9 l k n).p/\(b9 l k n).p<=3)
 | 0,_=>⟨rfl,fun n _=>rfl,fun n=>by simp[b9,gS]⟩
 | k+1,hk=>by
  have ih:=zm l hc k (by omega);have ho:=fG l k (fw l hc k (by omega));refine⟨?_,fun n=>?_,fun n=>?_⟩
  · simp only[b9,iq];grind
  · simp only[b9,iq]
    grind
  · simp only[b9,iq]
    grind
theorem CT (l:List aZ) (hc:bB l=0):mo (eK l):=by
 have h:=zm l hc l.length (aI _);exact⟨h.1,h.2.1,h.2.2⟩
theorem MQ (F:Nat->di) (hF:mo F) (how:di->di×Int) (page t:Int) (hp:1<=page)
  (hn:∀s,(s.m=false->s=gS)->((how s).1.m=false->(how s).1=gS)) (hq:∀s,0<=s.p/\s.p<=3->0<=(how s).1.p/\(how s).1.p<=3):mo (ie F how page t):=by
 refine⟨?_,fun n=>?_,fun n=>?_⟩
 · grind [ie,mo.zero]
 · simp only[ie];split
   · simp_all [mo.none]
   · exact hF.none n
 · simp only[ie];split
   · simp_all [mo.fI]
   · exact hF.fI n
theorem CQ (F:Nat->di) (h0:(F 0).m=false):∀k,(bY F (k+1)).length<=k
 | 0=>by grind [bY]
 | k+1=>by
  have ih:=CQ F h0 k
  grind [bY,p8]
theorem uY (F:Nat->di) (hF:mo F):bB (gw F)=0:=by
 grind [gw,CQ,CR,bB,mo.zero]
theorem A9 (l:List aZ) (hc:bB l=0) (F:Nat->di) (p:Nat) (h:iy l p=F p):(bh l p).2=(F p).m/\(bh l p).1.fI=(F p).p/\(bh l p).1.zero=(F p).z:=by
 grind [bh,iy,zq,rM,gS]
theorem MS (F:Nat->di) (hF:mo F) (p:Nat) (hp:p<256):(bh (gw F) p).2=(F p).m/\(bh (gw F) p).1.fI=(F p).p/\(bh (gw F) p).1.zero=(F p).z :=
 A9 _ (uY F hF) F p (CP F hF p hp)
theorem MR (l:List aZ) (hc:bB l=0) (p:Nat):(bh l p).2=(eK l p).m/\(bh l p).1.fI=(eK l p).p/\(bh l p).1.zero=(eK l p).z :=
 A9 l hc (eK l) p (sY l _ l rfl (zn l hc) p)
theorem lC (l:List aZ) (hc:bB l=0):(∀i,i<l.length->wa (bl l i))/\l.length<=140737488351232:=by
 refine⟨fun i hi=>?_,by grind [kO]⟩;have ho:=fG l i (fw l hc i hi)
 grind [wa]
theorem Jv (F:Nat->di) (how:di->di×Int):∀(c n:Nat),kM F how n c=0->∀k,n<=k->k<n+c->(how (F k)).2=0
 | 0,n,_,k,h1,h2=>by omega
 | c+1,n,h,k,h1,h2=>by
  simp only[kM] at h;split at h
  · rename_i h0
    by_cases e:k=n
    · grind
    · exact Jv F how c (n+1) h k (by omega) (by omega)
  omega
end Go.Proofs.YtpgifpeohlllfaaGreat
