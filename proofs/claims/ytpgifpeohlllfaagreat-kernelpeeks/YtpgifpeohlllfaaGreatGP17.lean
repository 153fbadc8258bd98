import Derived.Test.YtpgifpeohlllfaaGreatGP00
import Derived.Test.YtpgifpeohlllfaaGreatGP06
import Derived.Lib.SliceRun
import Derived.Test.YtpgifpeohlllfaaGreatGP05
import Derived.Test.YtpgifpeohlllfaaGreatGP13
import Derived.Great.Ranges
import Derived.Deep.DeepCutAuto
import Derived.Deep.RegionLaw
set_option maxHeartbeats 20000000
set_option linter.unusedVariables false
set_option maxRecDepth 100000
set_option linter.unusedSimpArgs false
namespace Go.Proofs.YtpgifpeohlllfaaGreat
namespace GK
open Go.RowKit
open FW (ai aC)
def From (w:World) (ao:Option Addr) (m:Nat) (news:List Value):Prop:=0<m->∃ad,ao=some ad/\∀j u,news[j]?=some u->w.cell? (ad.add j)=some u
theorem From.below {w w':World} {ao:Option Addr} {m:Nat} {news:List Value} (h:From w ao m news) (hb:Below w.heap.size w w'):From w' ao m news:=fun hm=>by
 obtain⟨ad,e,hc⟩:=h hm
 refine⟨ad,e,fun j u hu=>?_⟩
 have:=hc j u hu
 exact(hb.cell (World.block_lt_of_cell? w _ this)).trans this
theorem Sz:(Tryz.prog.info? 47).map (fun i=>(i.zero,i.size,i.bytes))=some (some (.agg #[I 0,I 0,I 0,.bool false]),4,32):=by kernel_rfl
theorem PX (ao:Option Addr) (n c:Nat) (xs:List Value) (w:World) (hl:xs.length=n*4) (h:From w ao n xs) (h1:∀u∈xs,u.oneCell'=true) (hn:n<=1000000) :
  Calls Tryz.prog 129 #[.slice ao n c] w fun e w'=>∃v,e=.returned v/\w'.ownsRow w.heap.size 47 4 v n xs/\Below w.heap.size w w':=by
 have HH:=ai h
 have HL:=ai hl
 have H1:=ai h1
 clear h hl h1
 have q:∀(w:World) (a:Option Addr) (n c n' c':Nat),(binOp .eql 28 (.slice a n c) (.slice none n' c')).run Tryz.prog w=.ok (.bool a.isNone) w:=fun w a n c n' c'=>Lib.run_eql_slice_nil w _ _ a n c n' c' Tryz.underlying28
 obtain⟨i0,hin,hz0,hz1,hz2⟩:=info_parts Sz
 cases ao with
 | none =>
  have h0:n=0:=by
   by_cases g:0<n
   · obtain⟨ad,e,_⟩:=HH.o g
     cases e
   · omega
  subst h0
  have hx:xs=[]:=List.eq_nil_of_length_eq_zero (by rw[HL.o])
  subst hx
  clear HH HL H1 hin hz0 hz1 hz2
  go_enter Tryz.func129,Tryz.ntmps129
  go_wp2
  go_ret
  exact⟨_,rfl,World.ownsRow_nil _ _ _ _,Below.refl _ _⟩
 | some ad =>
  have qX:=ai hin
  have vh:=ai hz0
  have vg:=ai hz1
  have tM:=ai hz2
  clear hin hz0 hz1 hz2
  go_enter Tryz.func129,Tryz.ntmps129
  go_wp2_with (at_builtin;refine ck (P:=Tryz.prog) rfl _ _ 28 rfl w.heap.size 47 i0 (.agg #[I 0,I 0,I 0,.bool false]) 4 32 Tryz.underlying28 qX.o vh.o vg.o tM.o rfl (by decide) (.slice (some (Ad w.heap.size 0)) 0 0) 0 [] (by rfl) (World.ownsRow_made w #[] 0 (Nat.le_refl _) (by unfold maxLen;omega) (by simp)) (some ad) n c xs (by rfl) HL.o ((HH.o.below ((Below.refl _ _).alloc (Nat.le_refl _) _))) H1.o (by unfold maxLen;omega) (by omega) (by simp) ?_;intro v' w' hown hgr hat;have HOWN:=ai hown;have Bl:=ai hgr;clear hown hgr hat)
  go_ret
  have hown:=HOWN.o
  have hgr:=Bl.o
  rw[Nat.zero_add] at hown
  exact⟨_,rfl,hown,((Below.refl _ _).alloc (Nat.le_refl _) _).grown hgr (by simp) (fun k hk=>by simp[Value.ownBlock] at hk;omega)⟩
theorem AJ:(Tryz.prog.info? 45).map (fun i=>(i.zero,i.size,i.bytes))=some (some (.agg #[I 0,I 0,I 0]),3,24):=by kernel_rfl
theorem PV (ao:Option Addr) (n c:Nat) (xs:List Value) (w:World) (hl:xs.length=n*3) (h:From w ao n xs) (h1:∀u∈xs,u.oneCell'=true) (hn:n<=1000000) :
  Calls Tryz.prog 130 #[.slice ao n c] w fun e w'=>∃v,e=.returned v/\w'.ownsRow w.heap.size 45 3 v n xs/\Below w.heap.size w w':=by
 have HH:=ai h
 have HL:=ai hl
 have H1:=ai h1
 clear h hl h1
 have q:∀(w:World) (a:Option Addr) (n c n' c':Nat),(binOp .eql 41 (.slice a n c) (.slice none n' c')).run Tryz.prog w=.ok (.bool a.isNone) w:=fun w a n c n' c'=>Lib.run_eql_slice_nil w _ _ a n c n' c' Tryz.underlying41
 obtain⟨i0,hin,hz0,hz1,hz2⟩:=info_parts AJ
 cases ao with
 | none =>
  have h0:n=0:=by
   by_cases g:0<n
   · obtain⟨ad,e,_⟩:=HH.o g
     cases e
   · omega
  subst h0
  have hx:xs=[]:=List.eq_nil_of_length_eq_zero (by rw[HL.o])
  subst hx
  clear HH HL H1 hin hz0 hz1 hz2
  go_enter Tryz.func130,Tryz.ntmps130
  go_wp2
  go_ret
  exact⟨_,rfl,World.ownsRow_nil _ _ _ _,Below.refl _ _⟩
 | some ad =>
  have qX:=ai hin
  have vh:=ai hz0
  have vg:=ai hz1
  have tM:=ai hz2
  clear hin hz0 hz1 hz2
  go_enter Tryz.func130,Tryz.ntmps130
  go_wp2_with (at_builtin;refine ck (P:=Tryz.prog) rfl _ _ 41 rfl w.heap.size 45 i0 (.agg #[I 0,I 0,I 0]) 3 24 Tryz.underlying41 qX.o vh.o vg.o tM.o rfl (by decide) (.slice (some (Ad w.heap.size 0)) 0 0) 0 [] (by rfl) (World.ownsRow_made w #[] 0 (Nat.le_refl _) (by unfold maxLen;omega) (by simp)) (some ad) n c xs (by rfl) HL.o ((HH.o.below ((Below.refl _ _).alloc (Nat.le_refl _) _))) H1.o (by unfold maxLen;omega) (by omega) (by simp) ?_;intro v' w' hown hgr hat;have HOWN:=ai hown;have Bl:=ai hgr;clear hown hgr hat)
  go_ret
  have hown:=HOWN.o
  have hgr:=Bl.o
  rw[Nat.zero_add] at hown
  exact⟨_,rfl,hown,((Below.refl _ _).alloc (Nat.le_refl _) _).grown hgr (by simp) (fun k hk=>by simp[Value.ownBlock] at hk;omega)⟩
theorem Sw:(Tryz.prog.info? 40).map (fun i=>(i.zero,i.size,i.bytes))=some (some (.agg #[.string ⟨#[]⟩,I 0,.bool false,.bool false]),4,32):=by kernel_rfl
theorem PU (ao:Option Addr) (n c:Nat) (xs:List Value) (w:World) (hl:xs.length=n*4) (h:From w ao n xs) (h1:∀u∈xs,u.oneCell'=true) (hn:n<=1000000) :
  Calls Tryz.prog 104 #[.slice ao n c] w fun e w'=>∃v,e=.returned v/\w'.ownsRow w.heap.size 40 4 v n xs/\Below w.heap.size w w':=by
 have HH:=ai h
 have HL:=ai hl
 have H1:=ai h1
 clear h hl h1
 have q:∀(w:World) (a:Option Addr) (n c n' c':Nat),(binOp .eql 23 (.slice a n c) (.slice none n' c')).run Tryz.prog w=.ok (.bool a.isNone) w:=fun w a n c n' c'=>Lib.run_eql_slice_nil w _ _ a n c n' c' Tryz.underlying23
 obtain⟨i0,hin,hz0,hz1,hz2⟩:=info_parts Sw
 cases ao with
 | none =>
  have h0:n=0:=by
   by_cases g:0<n
   · obtain⟨ad,e,_⟩:=HH.o g
     cases e
   · omega
  subst h0
  have hx:xs=[]:=List.eq_nil_of_length_eq_zero (by rw[HL.o])
  subst hx
  clear HH HL H1 hin hz0 hz1 hz2
  go_enter Tryz.func104,Tryz.ntmps104
  go_wp2
  go_ret
  exact⟨_,rfl,World.ownsRow_nil _ _ _ _,Below.refl _ _⟩
 | some ad =>
  have qX:=ai hin
  have vh:=ai hz0
  have vg:=ai hz1
  have tM:=ai hz2
  clear hin hz0 hz1 hz2
  go_enter Tryz.func104,Tryz.ntmps104
  go_wp2_with (at_builtin;refine ck (P:=Tryz.prog) rfl _ _ 23 rfl w.heap.size 40 i0 (.agg #[.string ⟨#[]⟩,I 0,.bool false,.bool false]) 4 32 Tryz.underlying23 qX.o vh.o vg.o tM.o rfl (by decide) (.slice (some (Ad w.heap.size 0)) 0 0) 0 [] (by rfl) (World.ownsRow_made w #[] 0 (Nat.le_refl _) (by unfold maxLen;omega) (by simp)) (some ad) n c xs (by rfl) HL.o ((HH.o.below ((Below.refl _ _).alloc (Nat.le_refl _) _))) H1.o (by unfold maxLen;omega) (by omega) (by simp) ?_;intro v' w' hown hgr hat;have HOWN:=ai hown;have Bl:=ai hgr;clear hown hgr hat)
  go_ret
  have hown:=HOWN.o
  have hgr:=Bl.o
  rw[Nat.zero_add] at hown
  exact⟨_,rfl,hown,((Below.refl _ _).alloc (Nat.le_refl _) _).grown hgr (by simp) (fun k hk=>by simp[Value.ownBlock] at hk;omega)⟩
theorem Su:(Tryz.prog.info? 86).map (fun i=>(i.zero,i.size,i.bytes))=some (some (.agg #[.string ⟨#[]⟩,I 0]),2,24):=by kernel_rfl
theorem PO (ao:Option Addr) (n c:Nat) (xs:List Value) (w:World) (hl:xs.length=n*2) (h:From w ao n xs) (h1:∀u∈xs,u.oneCell'=true) (hn:n<=1000000) :
  Calls Tryz.prog 105 #[.slice ao n c] w fun e w'=>∃v,e=.returned v/\w'.ownsRow w.heap.size 86 2 v n xs/\Below w.heap.size w w':=by
 have HH:=ai h
 have HL:=ai hl
 have H1:=ai h1
 clear h hl h1
 have q:∀(w:World) (a:Option Addr) (n c n' c':Nat),(binOp .eql 24 (.slice a n c) (.slice none n' c')).run Tryz.prog w=.ok (.bool a.isNone) w:=fun w a n c n' c'=>Lib.run_eql_slice_nil w _ _ a n c n' c' Tryz.underlying24
 obtain⟨i0,hin,hz0,hz1,hz2⟩:=info_parts Su
 cases ao with
 | none =>
  have h0:n=0:=by
   by_cases g:0<n
   · obtain⟨ad,e,_⟩:=HH.o g
     cases e
   · omega
  subst h0
  have hx:xs=[]:=List.eq_nil_of_length_eq_zero (by rw[HL.o])
  subst hx
  clear HH HL H1 hin hz0 hz1 hz2
  go_enter Tryz.func105,Tryz.ntmps105
  go_wp2
  go_ret
  exact⟨_,rfl,World.ownsRow_nil _ _ _ _,Below.refl _ _⟩
 | some ad =>
  have qX:=ai hin
  have vh:=ai hz0
  have vg:=ai hz1
  have tM:=ai hz2
  clear hin hz0 hz1 hz2
  go_enter Tryz.func105,Tryz.ntmps105
  go_wp2_with (at_builtin;refine ck (P:=Tryz.prog) rfl _ _ 24 rfl w.heap.size 86 i0 (.agg #[.string ⟨#[]⟩,I 0]) 2 24 Tryz.underlying24 qX.o vh.o vg.o tM.o rfl (by decide) (.slice (some (Ad w.heap.size 0)) 0 0) 0 [] (by rfl) (World.ownsRow_made w #[] 0 (Nat.le_refl _) (by unfold maxLen;omega) (by simp)) (some ad) n c xs (by rfl) HL.o ((HH.o.below ((Below.refl _ _).alloc (Nat.le_refl _) _))) H1.o (by unfold maxLen;omega) (by omega) (by simp) ?_;intro v' w' hown hgr hat;have HOWN:=ai hown;have Bl:=ai hgr;clear hown hgr hat)
  go_ret
  have hown:=HOWN.o
  have hgr:=Bl.o
  rw[Nat.zero_add] at hown
  exact⟨_,rfl,hown,((Below.refl _ _).alloc (Nat.le_refl _) _).grown hgr (by simp) (fun k hk=>by simp[Value.ownBlock] at hk;omega)⟩
theorem AH:(Tryz.prog.info? 50).map (fun i=>(i.zero,i.size,i.bytes))=some (some (.agg #[I 0,.string ⟨#[]⟩,Nl]),3,48):=by kernel_rfl
theorem PQ (ao:Option Addr) (n c:Nat) (xs:List Value) (w:World) (hl:xs.length=n*3) (h:From w ao n xs) (h1:∀u∈xs,u.oneCell'=true) (hn:n<=1000000) :
  Calls Tryz.prog 103 #[.slice ao n c] w fun e w'=>∃v,e=.returned v/\w'.ownsRow w.heap.size 50 3 v n xs/\Below w.heap.size w w':=by
 have HH:=ai h
 have HL:=ai hl
 have H1:=ai h1
 clear h hl h1
 have q:∀(w:World) (a:Option Addr) (n c n' c':Nat),(binOp .eql 22 (.slice a n c) (.slice none n' c')).run Tryz.prog w=.ok (.bool a.isNone) w:=fun w a n c n' c'=>Lib.run_eql_slice_nil w _ _ a n c n' c' Tryz.underlying22
 obtain⟨i0,hin,hz0,hz1,hz2⟩:=info_parts AH
 cases ao with
 | none =>
  have h0:n=0:=by
   by_cases g:0<n
   · obtain⟨ad,e,_⟩:=HH.o g
     cases e
   · omega
  subst h0
  have hx:xs=[]:=List.eq_nil_of_length_eq_zero (by rw[HL.o])
  subst hx
  clear HH HL H1 hin hz0 hz1 hz2
  go_enter Tryz.func103,Tryz.ntmps103
  go_wp2
  go_ret
  exact⟨_,rfl,World.ownsRow_nil _ _ _ _,Below.refl _ _⟩
 | some ad =>
  have qX:=ai hin
  have vh:=ai hz0
  have vg:=ai hz1
  have tM:=ai hz2
  clear hin hz0 hz1 hz2
  go_enter Tryz.func103,Tryz.ntmps103
  go_wp2_with (at_builtin;refine ck (P:=Tryz.prog) rfl _ _ 22 rfl w.heap.size 50 i0 (.agg #[I 0,.string ⟨#[]⟩,Nl]) 3 48 Tryz.underlying22 qX.o vh.o vg.o tM.o rfl (by decide) (.slice (some (Ad w.heap.size 0)) 0 0) 0 [] (by rfl) (World.ownsRow_made w #[] 0 (Nat.le_refl _) (by unfold maxLen;omega) (by simp)) (some ad) n c xs (by rfl) HL.o ((HH.o.below ((Below.refl _ _).alloc (Nat.le_refl _) _))) H1.o (by unfold maxLen;omega) (by omega) (by simp) ?_;intro v' w' hown hgr hat;have HOWN:=ai hown;have Bl:=ai hgr;clear hown hgr hat)
  go_ret
  have hown:=HOWN.o
  have hgr:=Bl.o
  rw[Nat.zero_add] at hown
  exact⟨_,rfl,hown,((Below.refl _ _).alloc (Nat.le_refl _) _).grown hgr (by simp) (fun k hk=>by simp[Value.ownBlock] at hk;omega)⟩
theorem EZ:(Tryz.prog.info? 52).map (fun i=>(i.zero,i.size,i.bytes))=some (some (.agg #[I 0,.string ⟨#[]⟩]),2,24):=by kernel_rfl
theorem PT (ao:Option Addr) (n c:Nat) (xs:List Value) (w:World) (hl:xs.length=n*2) (h:From w ao n xs) (h1:∀u∈xs,u.oneCell'=true) (hn:n<=1000000) :
  Calls Tryz.prog 106 #[.slice ao n c] w fun e w'=>∃v,e=.returned v/\w'.ownsRow w.heap.size 52 2 v n xs/\Below w.heap.size w w':=by
 have HH:=ai h
 have HL:=ai hl
 have H1:=ai h1
 clear h hl h1
 have q:∀(w:World) (a:Option Addr) (n c n' c':Nat),(binOp .eql 48 (.slice a n c) (.slice none n' c')).run Tryz.prog w=.ok (.bool a.isNone) w:=fun w a n c n' c'=>Lib.run_eql_slice_nil w _ _ a n c n' c' Tryz.underlying48
 obtain⟨i0,hin,hz0,hz1,hz2⟩:=info_parts EZ
 cases ao with
 | none =>
  have h0:n=0:=by
   by_cases g:0<n
   · obtain⟨ad,e,_⟩:=HH.o g
     cases e
   · omega
  subst h0
  have hx:xs=[]:=List.eq_nil_of_length_eq_zero (by rw[HL.o])
  subst hx
  clear HH HL H1 hin hz0 hz1 hz2
  go_enter Tryz.func106,Tryz.ntmps106
  go_wp2
  go_ret
  exact⟨_,rfl,World.ownsRow_nil _ _ _ _,Below.refl _ _⟩
 | some ad =>
  have qX:=ai hin
  have vh:=ai hz0
  have vg:=ai hz1
  have tM:=ai hz2
  clear hin hz0 hz1 hz2
  go_enter Tryz.func106,Tryz.ntmps106
  go_wp2_with (at_builtin;refine ck (P:=Tryz.prog) rfl _ _ 48 rfl w.heap.size 52 i0 (.agg #[I 0,.string ⟨#[]⟩]) 2 24 Tryz.underlying48 qX.o vh.o vg.o tM.o rfl (by decide) (.slice (some (Ad w.heap.size 0)) 0 0) 0 [] (by rfl) (World.ownsRow_made w #[] 0 (Nat.le_refl _) (by unfold maxLen;omega) (by simp)) (some ad) n c xs (by rfl) HL.o ((HH.o.below ((Below.refl _ _).alloc (Nat.le_refl _) _))) H1.o (by unfold maxLen;omega) (by omega) (by simp) ?_;intro v' w' hown hgr hat;have HOWN:=ai hown;have Bl:=ai hgr;clear hown hgr hat)
  go_ret
  have hown:=HOWN.o
  have hgr:=Bl.o
  rw[Nat.zero_add] at hown
  exact⟨_,rfl,hown,((Below.refl _ _).alloc (Nat.le_refl _) _).grown hgr (by simp) (fun k hk=>by simp[Value.ownBlock] at hk;omega)⟩
theorem EY:(Tryz.prog.info? 3).map (fun i=>(i.zero,i.size,i.bytes))=some (some (I 0),1,8):=by kernel_rfl
theorem PS (ao:Option Addr) (n c:Nat) (xs:List Value) (w:World) (hl:xs.length=n*1) (h:From w ao n xs) (h1:∀u∈xs,u.oneCell'=true) (hn:n<=1000000) :
  Calls Tryz.prog 167 #[.slice ao n c] w fun e w'=>∃v,e=.returned v/\w'.ownsRow w.heap.size 3 1 v n xs/\Below w.heap.size w w':=by
 have HH:=ai h
 have HL:=ai hl
 have H1:=ai h1
 clear h hl h1
 have q:∀(w:World) (a:Option Addr) (n c n' c':Nat),(binOp .eql 99 (.slice a n c) (.slice none n' c')).run Tryz.prog w=.ok (.bool a.isNone) w:=fun w a n c n' c'=>Lib.run_eql_slice_nil w _ _ a n c n' c' Tryz.underlying99
 obtain⟨i0,hin,hz0,hz1,hz2⟩:=info_parts EY
 cases ao with
 | none =>
  have h0:n=0:=by
   by_cases g:0<n
   · obtain⟨ad,e,_⟩:=HH.o g
     cases e
   · omega
  subst h0
  have hx:xs=[]:=List.eq_nil_of_length_eq_zero (by rw[HL.o])
  subst hx
  clear HH HL H1 hin hz0 hz1 hz2
  go_enter Tryz.func167,Tryz.ntmps167
  go_wp2
  go_ret
  exact⟨_,rfl,World.ownsRow_nil _ _ _ _,Below.refl _ _⟩
 | some ad =>
  have qX:=ai hin
  have vh:=ai hz0
  have vg:=ai hz1
  have tM:=ai hz2
  clear hin hz0 hz1 hz2
  go_enter Tryz.func167,Tryz.ntmps167
  go_wp2_with (at_builtin;refine ck (P:=Tryz.prog) rfl _ _ 99 rfl w.heap.size 3 i0 (I 0) 1 8 Tryz.underlying99 qX.o vh.o vg.o tM.o rfl (by decide) (.slice (some (Ad w.heap.size 0)) 0 0) 0 [] (by rfl) (World.ownsRow_made w #[] 0 (Nat.le_refl _) (by unfold maxLen;omega) (by simp)) (some ad) n c xs (by rfl) HL.o ((HH.o.below ((Below.refl _ _).alloc (Nat.le_refl _) _))) H1.o (by unfold maxLen;omega) (by omega) (by simp) ?_;intro v' w' hown hgr hat;have HOWN:=ai hown;have Bl:=ai hgr;clear hown hgr hat)
  go_ret
  have hown:=HOWN.o
  have hgr:=Bl.o
  rw[Nat.zero_add] at hown
  exact⟨_,rfl,hown,((Below.refl _ _).alloc (Nat.le_refl _) _).grown hgr (by simp) (fun k hk=>by simp[Value.ownBlock] at hk;omega)⟩
end GK
namespace KW
open Go.RowKit GK
open FW (ai aC)
def mJ (w:World) (a:fe) (k:KM.Kn) (e:Ending) (w':World):Prop:=Below w.heap.size w w'/\((KM.dA k=0/\∃mb,e=.returned (.tuple #[.pointer (some (Ad mb 0)),I 0])/\w.heap.size<=mb/\w'.heap[mb]?=some (.cells (l7 (.slice a.aS k.ak.length a.cS) (.slice a.aF k.frames.length a.cF) (.slice a.aL k.slots.length a.cL) (.slice a.aP k.aj.length a.cP) (I k.hand) (js k.ak k.ak.length)) 104 (0,0)))∨(KM.dA k≠0/\e=.returned (.tuple #[.pointer none,I (KM.dA k)])))
theorem wU {w:World} {mb:Nat} {hs:List LM.Sh} {a b c d e:Value} (h:w.heap[mb]?=some (.cells (l7 a b c d e (js hs hs.length)) 104 (0,0))) (hr:LM.cZ hs=true):∀n:Nat,n<256->w.cell? (Ad mb (5+n))=some (.string (KM.filled hs n)):=fun n hn=>(B.cell h (5+n) (GC a b c d e _ n hn)).trans (by rw[uG hs hr n])
theorem IJ (k:KM.Kn) (a:fe) (w:World) (hK:cO w a k) (hF:eY k) (hc:KM.counts k=true):Calls Tryz.prog 62 #[.agg (aH a k)] w (mJ w a k):=by
 have hcc:=of_decide_eq_true hc
 have gP:Hid (∀w',Below w.heap.size w w'->KM.rZ k=false->mJ w a k (.returned (.tuple #[.pointer none,I 1])) w'):=fun w' hb hf=>by
  have e:KM.dA k=1:=by unfold KM.dA;rw[if_neg (by rw[hc];simp),hf];rfl
  exact⟨hb,.inr ⟨by rw[e];decide,by rw[e]⟩⟩
 have ov:Hid (∀w' mb,Below w.heap.size w w'->KM.rZ k=true->w.heap.size<=mb->w'.heap[mb]?=some (.cells (l7 (.slice a.aS k.ak.length a.cS) (.slice a.aF k.frames.length a.cF) (.slice a.aL k.slots.length a.cL) (.slice a.aP k.aj.length a.cP) (I k.hand) (js k.ak k.ak.length)) 104 (0,0))->mJ w a k (.returned (.tuple #[.pointer (some (Ad mb 0)),I 0])) w'):=fun w' mb hb hf hm hh=>by
  have e:KM.dA k=0:=by unfold KM.dA;rw[if_neg (by rw[hc];simp),hf];rfl
  exact⟨hb,.inl ⟨e,mb,rfl,hm,hh⟩⟩
 obtain⟨P,hP⟩:=ex (mJ w a k)
 rw[<- hP] at gP ov ⊢
 clear hP
 unfold aH
 have HC:Hid (∀V,Calls Tryz.prog 109 #[.agg #[.slice a.aS k.ak.length a.cS,.slice a.aF k.frames.length a.cF,.slice a.aL k.slots.length a.cL,.slice a.aP k.aj.length a.cP,I k.hand]] V fun e w'=>e=.returned (.bool true)/\Below V.heap.size V w'):=fun V=>by
  have:=xE a.aS a.aF a.aL a.aP k.ak.length a.cS k.frames.length a.cF k.slots.length a.cL k.aj.length a.cP (I k.hand) V
  rw[decide_eq_true hcc] at this
  exact this
 have Yo:=ai (@KM.D8 k)
 have DY:=ai (KM.KJ k.ak k.aj (List.replicate k.frames.length KM.gz,List.replicate k.slots.length KM.gz) k.frames.length k.slots.length (KM.Kv _) (KM.Kv _))
 have Qr:=ai (KM.yO k.ak k.aj (List.replicate k.frames.length KM.gz,List.replicate k.slots.length KM.gz))
 obtain⟨hKS,hKF,hKL,hKP⟩:=hK
 obtain⟨fS,fnF,ffr,fnS,fsl,fnP,fsp,fhd⟩:=hF
 have Um:=ai hKS
 have QA:=ai hKF
 have Yw:=ai hKL
 have DJ:=ai hKP
 have Rx:=ai fS
 have FZ:=ai ffr
 have FV:=ai fsl
 have pQ:=ai fsp
 clear hKS hKF hKL hKP fS ffr fsl fsp hc fnF fnS fnP
 obtain⟨aS,cS,aF,cF,aL,cL,aP,cP⟩:=a
 obtain⟨hs,fs,ls,ss,hd⟩:=k
 unfold KM.rZ KM.vI at *
 simp only at HC hcc gP ov Yo DY Qr Um QA Yw DJ Rx FZ FV pQ fhd ⊢
 have BK:=ai (B.new w #[.slice aS hs.length cS,.slice aF fs.length cF,.slice aL ls.length cL,.slice aP ss.length cP,I hd] 27)
 have yJ:=ai ((Below.refl w.heap.size w).alloc (Nat.le_refl _) (.cells #[.slice aS hs.length cS,.slice aF fs.length cF,.slice aL ls.length cL,.slice aP ss.length cP,I hd] 27))
 go_enter Tryz.func62,Tryz.ntmps62
 go_upto_region 3 with(go_at_call 109;refine(HC.o _).mono ?_;rintro e w1 ⟨rfl,hb1⟩;have NG:=ai (aC yJ.o hb1);have YI:=ai (B.below BK.o hb1 (by simp));clear hb1)
 refine wp_region_lit ?_
 refine wpList_load_row rfl 27 _ rfl w.heap.size rfl 27 _ (0,0) _ YI.o Tryz.underlying27 rfl (by kernel_rfl) ?_
 refine zW rfl 104 _ rfl (.agg #[.slice aS hs.length cS,.slice aF fs.length cF,.slice aL ls.length cL,.slice aP ss.length cP,I hd]) (by rfl) _ (Tq _ _ _ _ _) ?_
 have HM:=ai (B.new w1 (l7 (.slice aS hs.length cS) (.slice aF fs.length cF) (.slice aL ls.length cL) (.slice aP ss.length cP) (I hd) ml) 104)
 have QN:=ai (B.alloc YI.o (.cells (l7 (.slice aS hs.length cS) (.slice aF fs.length cF) (.slice aL ls.length cL) (.slice aP ss.length cP) (I hd) ml) 104))
 have QK:=ai (NG.o.alloc NG.o.size (.cells (l7 (.slice aS hs.length cS) (.slice aF fs.length cF) (.slice aL ls.length cL) (.slice aP ss.length cP) (I hd) ml) 104))
 have fQ:w.heap.size<w1.heap.size:=B.isLt YI.o
 refine Go.Great.wpList_boxTo rfl 104 _ rfl _ rfl w1.heap.size rfl (l7 (.slice aS hs.length cS) (.slice aF fs.length cF) (.slice aL ls.length cL) (.slice aP ss.length cP) (I hd) ml) (by rfl) ?_
 obtain⟨W,hW⟩:=ex (w1.alloc (.cells (l7 (.slice aS hs.length cS) (.slice aF fs.length cF) (.slice aL ls.length cL) (.slice aP ss.length cP) (I hd) ml) 104))
 rw[<- hW] at HM QN QK ⊢
 obtain⟨mb,hmb⟩:=ex w1.heap.size
 rw[<- hmb] at HM fQ ⊢
 obtain⟨kb,hkb⟩:=ex w.heap.size
 have U8:w.heap.size<=mb:=by omega
 have aeh:w.heap.size<=kb:=by omega
 have Pf:¬kb=mb:=by omega
 rw[<- hkb] at QN ⊢
 have d1:W.cell? (Ad kb 1)=some (.slice aF fs.length cF):=B.cell QN.o 1 rfl
 have d2:W.cell? (Ad kb 2)=some (.slice aL ls.length cL):=B.cell QN.o 2 rfl
 clear hW hmb hkb BK YI HC yJ NG
 have qK:fs.length<=1000:=by omega
 have Vq:ls.length<=1000:=by omega
 have e2:∀V:World,(Instr.makeSlice 162 (I (fs.length:Int)) (I (fs.length:Int))).run Tryz.prog V=.ok (.slice (some (Ad V.heap.size 0)) fs.length fs.length) (V.alloc (.cells (zu fs.length) 211)):=fun V=>UM V fs.length qK
 have e3:∀V:World,(Instr.makeSlice 162 (I (ls.length:Int)) (I (ls.length:Int))).run Tryz.prog V=.ok (.slice (some (Ad V.heap.size 0)) ls.length ls.length) (V.alloc (.cells (zu ls.length) 211)):=fun V=>UM V ls.length Vq
 have d1A:(W.alloc (.cells (zu ls.length) 211)).cell? (Ad kb 1)=some (.slice aF fs.length cF):=B.cell (B.alloc QN.o _) 1 rfl
 have d2A:(W.alloc (.cells (zu fs.length) 211)).cell? (Ad kb 2)=some (.slice aL ls.length cL):=B.cell (B.alloc QN.o _) 2 rfl
 have q1:=ai (zV W.heap.size W fs.length (Nat.le_refl _) qK)
 have q2:=ai (zV W.heap.size (W.alloc (.cells (zu fs.length) 211)) ls.length (by simp) Vq)
 have q3:=ai (zV W.heap.size W ls.length (Nat.le_refl _) Vq)
 have q4:=ai (zV W.heap.size (W.alloc (.cells (zu ls.length) 211)) fs.length (by simp) qK)
 rw[World.size_alloc] at q2 q4
 have q5:=ai (((Below.refl W.heap.size W).alloc (Nat.le_refl _) (.cells (zu fs.length) 211)).alloc (by simp) (.cells (zu ls.length) 211))
 have q6:=ai (((Below.refl W.heap.size W).alloc (Nat.le_refl _) (.cells (zu ls.length) 211)).alloc (by simp) (.cells (zu fs.length) 211))
 go_upto_region 4 with fail
 go_cut [5,6] (fun x5 x6 wx=>∃gf gs:Nat,x5=.slice (some (Ad gf 0)) fs.length fs.length/\x6=.slice (some (Ad gs 0)) ls.length ls.length/\¬gf=gs/\gM W.heap.size wx gf fs.length fs.length (List.replicate fs.length KM.gz)/\gM W.heap.size wx gs ls.length ls.length (List.replicate ls.length KM.gz)/\Below W.heap.size W wx)
 case first =>
  go_region
  all_goals
   go_wp2_with fail
   go_meet
   case rel=>first | exact⟨_,_,rfl,rfl,by simp,(q1.out.kp (Kp.alloc (fun _=>False) _ _) (fun x=>x)).d,q2.out.d,q5.out.drew⟩ | exact⟨_,_,rfl,rfl,by simp,q4.out.d,(q3.out.kp (Kp.alloc (fun _=>False) _ _) (fun x=>x)).d,q6.out.drew⟩
 case rest =>
  obtain⟨gf,gs,rfl,rfl,hne,hof,hos,zq⟩:=hcut
  clear q1 q2 q3 q4 q5 q6 e2 e3 d1A d2A d1 d2
  have hgf:=hof.lt
  have hgs:=hos.lt
  have Hm:=ai hof
  have Hl:=ai hos
  have hmW:=B.isLt HM.o
  have hkW:=B.isLt QN.o
  have N3:=ai (B.below HM.o zq hmW)
  have UA:=ai (B.below QN.o zq hkW)
  have n7:=ai (QK.o.trans (zq.mono QK.o.size))
  have JP:=ai (xt hs aS cS mb (.slice aF fs.length cF) (.slice aL ls.length cL) (.slice aP ss.length cP) (I hd) w wc Um.o Rx.o n7.o U8 N3.o (by omega))
  have k4:wc.cell? (Ad kb 4)=some (I hd):=B.cell UA.o 4 rfl
  clear hof hos zq HM QN QK
  have nZ:Hid (∀V,Below w.heap.size w V->(LM.cZ hs=false∨hd<0∨(fs.length:Int)<=hd)->P (.returned (.tuple #[.pointer none,I 1])) V):=fun V hV g=>gP.o V hV (by
   rcases g with g | g | g
   · rw[g];rfl
   · rw[decide_eq_false (by omega)];simp
   · rw[decide_eq_false (by omega)];simp)
  obtain⟨RB,V6⟩:=ex (LM.cZ hs)
  have vt:=ai V6
  rw[<- V6] at JP nZ
  clear V6
  cases RB with
  | false =>
   go_wp2_with (go_at_call 110;refine JP.o.mono ?_;rintro e w2 ⟨rfl,hk2,G,hG,hg⟩;have bY:=ai (hk2.below n7.o n7.o.size (fun b hb=>(by omega)));have BH:=ai (hk2.keep UA.o Pf);have HG:=ai hG;have Xa:=ai hg;have Uj:=ai (Hm.o.kp hk2 (by omega));have Ui:=ai (Hl.o.kp hk2 (by omega));have m1:w2.cell? (Ad kb 1)=some (.slice aF fs.length cF):=B.cell BH.o 1 rfl;have m3:w2.cell? (Ad kb 3)=some (.slice aP ss.length cP):=B.cell BH.o 3 rfl;have m4:w2.cell? (Ad kb 4)=some (I hd):=B.cell BH.o 4 rfl;clear hk2 hG hg)
   exact nZ.o _ bY.o (.inl trivial)
  | true =>
   rcases(show hd<0∨(0<=hd/\(fs.length:Int)<=hd)∨(0<=hd/\hd<(fs.length:Int)) by omega) with g | ⟨g1,g2⟩ | ⟨g1,g2⟩
   · go_wp2_with (go_at_call 110;refine JP.o.mono ?_;rintro e w2 ⟨rfl,hk2,G,hG,hg⟩;have bY:=ai (hk2.below n7.o n7.o.size (fun b hb=>(by omega)));have BH:=ai (hk2.keep UA.o Pf);have HG:=ai hG;have Xa:=ai hg;have Uj:=ai (Hm.o.kp hk2 (by omega));have Ui:=ai (Hl.o.kp hk2 (by omega));have m1:w2.cell? (Ad kb 1)=some (.slice aF fs.length cF):=B.cell BH.o 1 rfl;have m3:w2.cell? (Ad kb 3)=some (.slice aP ss.length cP):=B.cell BH.o 3 rfl;have m4:w2.cell? (Ad kb 4)=some (I hd):=B.cell BH.o 4 rfl;clear hk2 hG hg)
     exact nZ.o _ bY.o (.inr (.inl g))
   · go_wp2_with (go_at_call 110;refine JP.o.mono ?_;rintro e w2 ⟨rfl,hk2,G,hG,hg⟩;have bY:=ai (hk2.below n7.o n7.o.size (fun b hb=>(by omega)));have BH:=ai (hk2.keep UA.o Pf);have HG:=ai hG;have Xa:=ai hg;have Uj:=ai (Hm.o.kp hk2 (by omega));have Ui:=ai (Hl.o.kp hk2 (by omega));have m1:w2.cell? (Ad kb 1)=some (.slice aF fs.length cF):=B.cell BH.o 1 rfl;have m3:w2.cell? (Ad kb 3)=some (.slice aP ss.length cP):=B.cell BH.o 3 rfl;have m4:w2.cell? (Ad kb 4)=some (I hd):=B.cell BH.o 4 rfl;clear hk2 hG hg)
     exact nZ.o _ bY.o (.inr (.inr g2))
   · go_wp2_with (go_at_call 110;refine JP.o.mono ?_;rintro e w2 ⟨rfl,hk2,G,hG,hg⟩;have bY:=ai (hk2.below n7.o n7.o.size (fun b hb=>(by omega)));have BH:=ai (hk2.keep UA.o Pf);have HG:=ai hG;have Xa:=ai hg;have Uj:=ai (Hm.o.kp hk2 (by omega));have Ui:=ai (Hl.o.kp hk2 (by omega));have m1:w2.cell? (Ad kb 1)=some (.slice aF fs.length cF):=B.cell BH.o 1 rfl;have m3:w2.cell? (Ad kb 3)=some (.slice aP ss.length cP):=B.cell BH.o 3 rfl;have m4:w2.cell? (Ad kb 4)=some (I hd):=B.cell BH.o 4 rfl;clear hk2 hG hg)
     have HG2:Hid (w2.heap[mb]?=some (.cells (l7 (.slice aS hs.length cS) (.slice aF fs.length cF) (.slice aL ls.length cL) (.slice aP ss.length cP) (I hd) (js hs hs.length)) 104 (0,0))):=by
      have:=HG.o
      rw[Xa.o trivial] at this
      exact this
     clear JP nZ HG Xa N3 UA n7 Hm Hl k4 m4
     go_loopw [42] (fun iv wr=>∃k:Nat,k<=ss.length/\iv=I (k:Int)/\KM.nC hs ss (List.replicate fs.length KM.gz,List.replicate ls.length KM.gz) k=true/\Below w.heap.size w wr/\wr.heap[mb]?=some (.cells (l7 (.slice aS hs.length cS) (.slice aF fs.length cF) (.slice aL ls.length cL) (.slice aP ss.length cP) (I hd) (js hs hs.length)) 104 (0,0))/\wr.heap[kb]?=some (.cells #[.slice aS hs.length cS,.slice aF fs.length cF,.slice aL ls.length cL,.slice aP ss.length cP,I hd] 27 (0,0))/\gM W.heap.size wr gf fs.length fs.length (KM.kj ss (List.replicate fs.length KM.gz,List.replicate ls.length KM.gz) k).1/\gM W.heap.size wr gs ls.length ls.length (KM.kj ss (List.replicate fs.length KM.gz,List.replicate ls.length KM.gz) k).2) (fun iv _=>ss.length-(intOf iv).toNat)
     case atStart=>exact⟨0,by omega,rfl,rfl,bY.o,HG2.o,BH.o,Uj.o,Ui.o⟩
     case round =>
      obtain⟨k,hk,rfl,oU,hb,hmm,hkk,hof,hos⟩:=hrel
      have TG:=ai oU
      have HB:=ai hb
      have BB:=ai hmm
      have HKK:=ai hkk
      have Hm:=ai hof
      have Hl:=ai hos
      have m2:wr.cell? (Ad kb 2)=some (.slice aL ls.length cL):=B.cell hkk 2 rfl
      by_cases hlt:k<ss.length
      · obtain⟨pb,po,hao,hbl,bC⟩:=DJ.o (by omega)
        subst hao
        obtain⟨va,ap,cp,c0,c1,c2,c3,c4,c5⟩:=bC k hlt
        obtain⟨aa,ca,rU,_⟩:=id c3
        subst rU
        have hfit:=pQ.o k hlt
        have x0:=(hb.cell (p:=(Ad pb (po+k*3))) hbl).trans c0
        have x1:=(hb.cell (p:=(Ad pb (po+k*3+1))) hbl).trans c1
        have x2:=(hb.cell (p:=(Ad pb (po+k*3+2))) hbl).trans c2
        have hbs:=hb.size
        have Bu:=DY.o k (by omega) oU
        have TU:Hid (∀V,Below w.heap.size w V->KM.nC hs ss (List.replicate fs.length KM.gz,List.replicate ls.length KM.gz) (k+1)=false->P (.returned (.tuple #[.pointer none,I 1])) V):=fun V hV g=>gP.o V hV (by rw[Qr.o (k+1) ss.length hlt g];simp)
        have xS:Hid (KM.nC hs ss (List.replicate fs.length KM.gz,List.replicate ls.length KM.gz) (k+1)=(KM.jZ hs (KM.aq ss k)&&KM.gJ (KM.aq ss k).aA (KM.aq ss k).au (KM.kj ss (List.replicate fs.length KM.gz,List.replicate ls.length KM.gz) k) (KM.aq ss k).au.length)):=by show _=_;rw[KM.nC,TG.o,Bool.true_and]
        have TB:Hid (KM.kj ss (List.replicate fs.length KM.gz,List.replicate ls.length KM.gz) (k+1)=KM.gp (KM.aq ss k).aA (KM.aq ss k).au (KM.kj ss (List.replicate fs.length KM.gz,List.replicate ls.length KM.gz) k) (KM.aq ss k).au.length):=rfl
        have Jf:=B.isLt hmm
        have vo:=ai (wC hs (KM.aq ss k) (.slice aa (KM.aq ss k).aA.length ca) ap cp mb (wr.alloc (.cells #[.bool (KM.aq ss k).live,.slice aa (KM.aq ss k).aA.length ca,.slice ap (KM.aq ss k).au.length cp] 43)) (c3.below (hb.alloc hb.size _)) hfit (by simp;omega) (wU (B.alloc hmm _) vt.o.symm))
        have l5:Hid (∀V,Below w.heap.size w V->gM W.heap.size V gf fs.length fs.length (KM.kj ss (List.replicate fs.length KM.gz,List.replicate ls.length KM.gz) k).1->gM W.heap.size V gs ls.length ls.length (KM.kj ss (List.replicate fs.length KM.gz,List.replicate ls.length KM.gz) k).2->Calls Tryz.prog 112 #[.agg #[.bool (KM.aq ss k).live,.slice aa (KM.aq ss k).aA.length ca,.slice ap (KM.aq ss k).au.length cp],.slice (some (Ad gf 0)) fs.length fs.length,.slice (some (Ad gs 0)) ls.length ls.length] V fun x w'=>x=.returned (.bool (KM.gJ (KM.aq ss k).aA (KM.aq ss k).au (KM.kj ss (List.replicate fs.length KM.gz,List.replicate ls.length KM.gz) k) (KM.aq ss k).au.length))/\Kp (fun b=>b=gf∨b=gs) V w'/\(KM.gJ (KM.aq ss k).aA (KM.aq ss k).au (KM.kj ss (List.replicate fs.length KM.gz,List.replicate ls.length KM.gz) k) (KM.aq ss k).au.length=true->gM W.heap.size w' gf fs.length fs.length (KM.gp (KM.aq ss k).aA (KM.aq ss k).au (KM.kj ss (List.replicate fs.length KM.gz,List.replicate ls.length KM.gz) k) (KM.aq ss k).au.length).1/\gM W.heap.size w' gs ls.length ls.length (KM.gp (KM.aq ss k).aA (KM.aq ss k).au (KM.kj ss (List.replicate fs.length KM.gz,List.replicate ls.length KM.gz) k) (KM.aq ss k).au.length).2)):=fun V hV h1 h2=>sV (KM.aq ss k) (.slice aa (KM.aq ss k).aA.length ca) ap cp (KM.kj ss (List.replicate fs.length KM.gz,List.replicate ls.length KM.gz) k).1 (KM.kj ss (List.replicate fs.length KM.gz,List.replicate ls.length KM.gz) k).2 W.heap.size gf fs.length fs.length gs ls.length ls.length (255*k) w V c3 c4 hfit hV (by omega) h1 h2 hne Bu.1 Bu.2 (by omega) qK Vq
        obtain⟨RS,hRS⟩:=ex (KM.jZ hs (KM.aq ss k))
        obtain⟨EB,hEB⟩:=ex (KM.gJ (KM.aq ss k).aA (KM.aq ss k).au (KM.kj ss (List.replicate fs.length KM.gz,List.replicate ls.length KM.gz) k) (KM.aq ss k).au.length)
        rw[<- hRS] at vo xS
        rw[<- hEB] at l5 xS
        obtain⟨lv,hlv⟩:=ex ((KM.aq ss k).live)
        obtain⟨na,p9⟩:=ex ((KM.aq ss k).aA.length)
        obtain⟨ne,XN⟩:=ex ((KM.aq ss k).au.length)
        rw[<- hlv,<- p9,<- XN] at vo
        rw[<- hlv,<- p9] at l5
        rw[<- hlv] at x0
        rw[<- p9] at x1
        rw[<- XN] at x2
        rw[<- XN] at l5 TB
        have cj:=ai (hb.alloc hb.size (.cells #[.bool lv,.slice aa na ca,.slice ap ne cp] 43))
        have MA:=ai (B.alloc hmm (.cells #[.bool lv,.slice aa na ca,.slice ap ne cp] 43))
        have KA:=ai (B.alloc hkk (.cells #[.bool lv,.slice aa na ca,.slice ap ne cp] 43))
        have OA:=ai (hof.kp (Kp.alloc (fun _=>False) wr (.cells #[.bool lv,.slice aa na ca,.slice ap ne cp] 43)) (fun x=>x))
        have OB:=ai (hos.kp (Kp.alloc (fun _=>False) wr (.cells #[.bool lv,.slice aa na ca,.slice ap ne cp] 43)) (fun x=>x))
        have SB:=ai (B.new wr #[.bool lv,.slice aa na ca,.slice ap ne cp] 43)
        have aer:¬pb=wr.heap.size:=by omega
        clear hRS hEB hlv p9 XN c0 c1 c2 c3 c4 c5 bC hfit Bu oU hb hmm hkk hof hos DY Qr gP ov Yo Um QA Yw DJ Rx FZ FV pQ BB HKK Hm Hl bY HG2 BH Uj Ui m1 m3 m2
        cases RS with
        | false =>
         have HX:=ai (TU.o)
         have Nt:Hid (KM.nC hs ss (List.replicate fs.length KM.gz,List.replicate ls.length KM.gz) (k+1)=false):=xS
         clear xS l5
         go_wp2_with (go_at_call 111;refine vo.o.mono ?_;rintro e w3 ⟨rfl,hb3⟩;have dC:=ai (aC cj.o hb3);have M3:=ai (B.below MA.o hb3 (B.isLt MA.o));have Yj:=ai (B.below KA.o hb3 (B.isLt KA.o));have O3:=ai (OA.o.kp (Kp.aW (D:=fun _=>False) hb3) (fun x=>x));have S3:=ai (OB.o.kp (Kp.aW (D:=fun _=>False) hb3) (fun x=>x));have Ng:=ai (B.below SB.o hb3 (B.isLt SB.o));have v0:w3.cell? (Ad wr.heap.size 0)=some (.bool lv):=B.cell Ng.o 0 rfl;have v1:w3.cell? (Ad wr.heap.size 1)=some (.slice aa na ca):=B.cell Ng.o 1 rfl;have v2:w3.cell? (Ad wr.heap.size 2)=some (.slice ap ne cp):=B.cell Ng.o 2 rfl;clear hb3)
         exact HX.o _ dC.o Nt.o
        | true =>
         cases EB with
         | false =>
          have HX:=ai (TU.o)
          have Nt:Hid (KM.nC hs ss (List.replicate fs.length KM.gz,List.replicate ls.length KM.gz) (k+1)=false):=xS
          clear xS
          go_wp2_with (first | (go_at_call 111;refine vo.o.mono ?_;rintro e w3 ⟨rfl,hb3⟩;have dC:=ai (aC cj.o hb3);have M3:=ai (B.below MA.o hb3 (B.isLt MA.o));have Yj:=ai (B.below KA.o hb3 (B.isLt KA.o));have O3:=ai (OA.o.kp (Kp.aW (D:=fun _=>False) hb3) (fun x=>x));have S3:=ai (OB.o.kp (Kp.aW (D:=fun _=>False) hb3) (fun x=>x));have Ng:=ai (B.below SB.o hb3 (B.isLt SB.o));have v0:w3.cell? (Ad wr.heap.size 0)=some (.bool lv):=B.cell Ng.o 0 rfl;have v1:w3.cell? (Ad wr.heap.size 1)=some (.slice aa na ca):=B.cell Ng.o 1 rfl;have v2:w3.cell? (Ad wr.heap.size 2)=some (.slice ap ne cp):=B.cell Ng.o 2 rfl;clear hb3) | (go_at_call 112;refine(l5.o _ dC.o O3.o S3.o).mono ?_;rintro e w4 ⟨rfl,hk4,Vk⟩;have gN:=ai (hk4.below dC.o dC.o.size (fun b hb=>(by omega)));have M4:=ai (hk4.keep M3.o (by omega));have KB4:=ai (hk4.keep Yj.o (by omega));have TT:=ai Vk;clear hk4 Vk))
          exact HX.o _ gN.o Nt.o
         | true =>
          have Nt:Hid (KM.nC hs ss (List.replicate fs.length KM.gz,List.replicate ls.length KM.gz) (k+1)=true):=xS
          clear xS TU
          go_wp2_with (first | (go_at_call 111;refine vo.o.mono ?_;rintro e w3 ⟨rfl,hb3⟩;have dC:=ai (aC cj.o hb3);have M3:=ai (B.below MA.o hb3 (B.isLt MA.o));have Yj:=ai (B.below KA.o hb3 (B.isLt KA.o));have O3:=ai (OA.o.kp (Kp.aW (D:=fun _=>False) hb3) (fun x=>x));have S3:=ai (OB.o.kp (Kp.aW (D:=fun _=>False) hb3) (fun x=>x));have Ng:=ai (B.below SB.o hb3 (B.isLt SB.o));have v0:w3.cell? (Ad wr.heap.size 0)=some (.bool lv):=B.cell Ng.o 0 rfl;have v1:w3.cell? (Ad wr.heap.size 1)=some (.slice aa na ca):=B.cell Ng.o 1 rfl;have v2:w3.cell? (Ad wr.heap.size 2)=some (.slice ap ne cp):=B.cell Ng.o 2 rfl;clear hb3) | (go_at_call 112;refine(l5.o _ dC.o O3.o S3.o).mono ?_;rintro e w4 ⟨rfl,hk4,Vk⟩;have gN:=ai (hk4.below dC.o dC.o.size (fun b hb=>(by omega)));have M4:=ai (hk4.keep M3.o (by omega));have KB4:=ai (hk4.keep Yj.o (by omega));have TT:=ai Vk;clear hk4 Vk))
          have HO5:=ai (TT.o trivial)
          rw[<- TB.o] at HO5
          go_roundw
          case rel=>exact⟨k+1,by omega,by go_num,Nt.o,gN.o,M4.o,KB4.o,HO5.o.1,HO5.o.2⟩
          case measure=>simp[intOf];omega
      · obtain rfl:k=ss.length:=by omega
        have Vs:ss.length<=4:=by omega
        have mB:=hmm
        have p1:wr.cell? (Ad mb 1)=some (.slice aF fs.length cF):=B.cell mB 1 rfl
        have p2:wr.cell? (Ad mb 2)=some (.slice aL ls.length cL):=B.cell mB 2 rfl
        have p3:wr.cell? (Ad mb 3)=some (.slice aP ss.length cP):=B.cell mB 3 rfl
        have Jf:=B.isLt hmm
        have ZB:=B.isLt hkk
        have Bu:=DY.o ss.length (Nat.le_refl _) oU
        have yG:Hid (∀V,Below wr.heap.size wr V->Calls Tryz.prog 83 #[.pointer (some (Ad mb 0))] V fun e w'=>e=.returned (I (KM.room ss))/\Below V.heap.size V w'):=fun V hV=>px ss aP cP mb V (DJ.o.below (hb.trans (hV.mono hb.size))) (fun j hj=>(pQ.o j hj).aA) (by omega) ((hV.cell (p:=(Ad mb 3)) Jf).trans p3)
        have sk:Hid (∀V,Below wr.heap.size wr V->Calls Tryz.prog 113 #[.pointer (some (Ad mb 0)),.slice (some (Ad gf 0)) fs.length fs.length] V fun e w'=>e=.returned (.bool ((List.range fs.length).all fun i=>KM.fq hs (KM.aD fs i) (KM.cQ (KM.kj ss (List.replicate fs.length KM.gz,List.replicate ls.length KM.gz) ss.length).1 i)))/\Below V.heap.size V w'):=fun V hV=>uV hs fs _ aF cF mb W.heap.size gf fs.length V (QA.o.below (hb.trans (hV.mono hb.size))) (hof.kp (Kp.aW (D:=fun _=>False) hV) (fun x=>x)) (Nat.lt_of_lt_of_le Jf hV.size) ((hV.cell (p:=(Ad mb 1)) Jf).trans p1) (wU (B.below mB hV Jf) vt.o.symm) (fun i hi=>Yo.o vt.o.symm oU i hi) (fun i hi=>(FZ.o i hi).1) (by omega)
        have Hk:Hid (∀V,Below wr.heap.size wr V->Calls Tryz.prog 114 #[.pointer (some (Ad mb 0)),.slice (some (Ad gs 0)) ls.length ls.length] V fun e w'=>e=.returned (.bool ((List.range ls.length).all fun i=>KM.gF (KM.bk ls i) (KM.cQ (KM.kj ss (List.replicate fs.length KM.gz,List.replicate ls.length KM.gz) ss.length).2 i)))/\Below V.heap.size V w'):=fun V hV=>wD ls _ aL cL mb W.heap.size gs ls.length V (Yw.o.below (hb.trans (hV.mono hb.size))) (hos.kp (Kp.aW (D:=fun _=>False) hV) (fun x=>x)) ((hV.cell (p:=(Ad mb 2)) Jf).trans p2) (fun i hi=>(Bu.2.2 i hi).1) (fun i hi=>(FV.o i hi).1) (by omega)
        have Bk:=gP
        have zQ:=ov
        rw[vt.o.symm,TG.o,decide_eq_true (show 0<=hd/\hd<(fs.length:Int) from⟨g1,g2⟩)] at Bk zQ
        obtain⟨RF,hRF⟩:=ex ((List.range fs.length).all fun i=>KM.fq hs (KM.aD fs i) (KM.cQ (KM.kj ss (List.replicate fs.length KM.gz,List.replicate ls.length KM.gz) ss.length).1 i))
        obtain⟨RL,hRL⟩:=ex ((List.range ls.length).all fun i=>KM.gF (KM.bk ls i) (KM.cQ (KM.kj ss (List.replicate fs.length KM.gz,List.replicate ls.length KM.gz) ss.length).2 i))
        obtain⟨RM,G0⟩:=ex (KM.room ss)
        rw[<- hRF] at sk Bk zQ
        rw[<- hRL] at Hk Bk zQ
        rw[<- G0] at yG Bk zQ
        have mN:=Q.dO wr
        have k2:∀x:Q.eU wr.heap.size wr,x.world.cell? (Ad kb 2)=some (.slice aL ls.length cL):=fun x=>by rw[Q.cC x _ _ ZB];exact m2
        clear hRF hRL G0 Bu oU hb hmm hkk hof hos DY Qr gP ov Yo Um QA Yw DJ Rx FZ FV pQ HKK Hm Hl bY HG2 BH Uj Ui m1 m3 m2 p1 p2 p3 mB TG
        go_upto_region 13 with fail
        by_cases c:RM<=(ls.length:Int)
        · have c2:decide ((ls.length:Int)<RM)=false:=decide_eq_false (by omega)
          rw[decide_eq_true c] at Bk zQ
          cases RF with
          | false =>
           refine Q.bc (by kernel_rfl) (by kernel_rfl) ?_
           repeat (first | go_big_quiet_step ((first | (go_at_call 83;exact fF _ yG.o) | (go_at_call 113;exact fF _ sk.o))) | quiet_step ((first | (go_at_call 83;exact fF _ yG.o) | (go_at_call 113;exact fF _ sk.o))))
           refine wpQuiet_nil ?_
           rintro _ ⟨x,rfl⟩
           have n7:=ai (HB.o.trans (x.keeps.mono HB.o.size))
           have MX:=ai (B.below BB.o x.keeps (B.isLt BB.o))
           clear yG sk Hk k2
           go_wp2
           exact Bk.o _ n7.o (by simp)
          | true =>
           cases RL with
           | false =>
            refine Q.bc (by kernel_rfl) (by kernel_rfl) ?_
            repeat (first | go_big_quiet_step ((first | (go_at_call 83;exact fF _ yG.o) | (go_at_call 113;exact fF _ sk.o) | (go_at_call 114;exact fF _ Hk.o))) | quiet_step ((first | (go_at_call 83;exact fF _ yG.o) | (go_at_call 113;exact fF _ sk.o) | (go_at_call 114;exact fF _ Hk.o))))
            refine wpQuiet_nil ?_
            rintro _ ⟨x,rfl⟩
            have n7:=ai (HB.o.trans (x.keeps.mono HB.o.size))
            have MX:=ai (B.below BB.o x.keeps (B.isLt BB.o))
            clear yG sk Hk k2
            go_wp2
            exact Bk.o _ n7.o (by simp)
           | true =>
            refine Q.bc (by kernel_rfl) (by kernel_rfl) ?_
            repeat (first | go_big_quiet_step ((first | (go_at_call 83;exact fF _ yG.o) | (go_at_call 113;exact fF _ sk.o) | (go_at_call 114;exact fF _ Hk.o))) | quiet_step ((first | (go_at_call 83;exact fF _ yG.o) | (go_at_call 113;exact fF _ sk.o) | (go_at_call 114;exact fF _ Hk.o))))
            refine wpQuiet_nil ?_
            rintro _ ⟨x,rfl⟩
            have n7:=ai (HB.o.trans (x.keeps.mono HB.o.size))
            have MX:=ai (B.below BB.o x.keeps (B.isLt BB.o))
            clear yG sk Hk k2
            go_wp2
            exact zQ.o _ mb n7.o (by simp) U8 MX.o
        · have c2:decide ((ls.length:Int)<RM)=true:=decide_eq_true (by omega)
          rw[decide_eq_false c] at Bk
          refine Q.bc (by kernel_rfl) (by kernel_rfl) ?_
          repeat (first | go_big_quiet_step ((go_at_call 83;exact fF _ yG.o)) | quiet_step ((go_at_call 83;exact fF _ yG.o)))
          refine wpQuiet_nil ?_
          rintro _ ⟨x,rfl⟩
          have n7:=ai (HB.o.trans (x.keeps.mono HB.o.size))
          have MX:=ai (B.below BB.o x.keeps (B.isLt BB.o))
          clear yG sk Hk k2
          go_wp2
          exact Bk.o _ n7.o (by simp)
theorem LJ (k:KM.Kn) (a:fe) (w:World) (hc:KM.counts k=false):Calls Tryz.prog 62 #[.agg (aH a k)] w (mJ w a k):=by
 have hcc:=of_decide_eq_false hc
 have gP:Hid (∀w',Below w.heap.size w w'->mJ w a k (.returned (.tuple #[.pointer none,I 2])) w'):=fun w' hb=>by
  have e:KM.dA k=2:=by unfold KM.dA;rw[if_pos hc]
  exact⟨hb,.inr ⟨by rw[e];decide,by rw[e]⟩⟩
 obtain⟨P,hP⟩:=ex (mJ w a k)
 rw[<- hP] at gP ⊢
 clear hP
 unfold aH
 have HC:Hid (∀V,Calls Tryz.prog 109 #[.agg #[.slice a.aS k.ak.length a.cS,.slice a.aF k.frames.length a.cF,.slice a.aL k.slots.length a.cL,.slice a.aP k.aj.length a.cP,I k.hand]] V fun e w'=>e=.returned (.bool false)/\Below V.heap.size V w'):=fun V=>by
  have:=xE a.aS a.aF a.aL a.aP k.ak.length a.cS k.frames.length a.cF k.slots.length a.cL k.aj.length a.cP (I k.hand) V
  rw[decide_eq_false hcc] at this
  exact this
 obtain⟨aS,cS,aF,cF,aL,cL,aP,cP⟩:=a
 obtain⟨hs,fs,ls,ss,hd⟩:=k
 simp only at HC ⊢
 have yJ:=ai ((Below.refl w.heap.size w).alloc (Nat.le_refl _) (.cells #[.slice aS hs.length cS,.slice aF fs.length cF,.slice aL ls.length cL,.slice aP ss.length cP,I hd] 27))
 clear hc hcc
 go_enter Tryz.func62,Tryz.ntmps62
 go_wp2_with (go_at_call 109;refine(HC.o _).mono ?_;rintro e w1 ⟨rfl,hb1⟩;have NG:=ai (aC yJ.o hb1);clear hb1)
 exact gP.o _ NG.o
theorem LK (k:KM.Kn) (a:fe) (w:World) (hK:cO w a k) (hF:eY k):Calls Tryz.prog 62 #[.agg (aH a k)] w (mJ w a k):=by
 cases hc:KM.counts k with
 | true=>exact IJ k a w hK hF hc
 | false=>exact LJ k a w hc
end KW
end Go.Proofs.YtpgifpeohlllfaaGreat
