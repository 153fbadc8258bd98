import Derived.Test.YtlgoihmkgaaemaaGreatGN15
set_option maxHeartbeats 20000000
set_option linter.unusedVariables false
set_option maxRecDepth 100000
set_option linter.unusedSimpArgs false
namespace Go.Proofs.YtlgoihmkgaaemaaGreat
open Go.RowKit
def fU (lo mb:Nat) (tt:TypeId) (X:List Value) (w:World) (S:gI) (v:Value) (k':aT) (e:Ending) (w':World):Prop:=e=.returned v/\∃S',bK lo mb tt X w' S' k'/\cM S w S' w'
def mP (lo mb:Nat) (tt:TypeId) (X:List Value) (w:World) (S:gI) (v:Value) (k':aT) (e:Ending) (w':World):Prop:=e=.returned v/\bK lo mb tt X w' S k'/\cM S w S w'
theorem DT {lo mb:Nat} {tt:TypeId} {X:List Value} (k:aT) (S:gI) (w:World) (e:bI) (d:Int) (h:bK lo mb tt X w S k) (h1:e.kind=1->0<=e.loc/\e.loc<(k.frames.length:Int)) (h2:e.kind≠1->0<=e.loc/\e.loc<(k.slots.length:Int)) (hd:d=1∨d=-1)
  (hr:(e.kind=1->-1000000<=(aH k.frames e.loc.toNat).refs/\(aH k.frames e.loc.toNat).refs<=1000000)/\(e.kind≠1->-1000000<=(bH k.slots e.loc.toNat).refs/\(bH k.slots e.loc.toNat).refs<=1000000)) :
  Calls Tryz.prog 270 #[.pointer (some (Ad mb 0)),sW e,I d] w (mP lo mb tt X w S (.tuple #[]) (ki k e d)):=by
 obtain⟨pg,kd,lc⟩:=e;unfold sW;simp only at h1 h2 hr ⊢;have gK:=ai ((aK w.heap.size w).alloc (aI _) (.cells #[I pg,I kd,I lc] 174));have EB:=ai (bE w #[I pg,I kd,I lc] 174);have HM:=ai (h.below gK.o);have HC0:Hid (cM S w S (w.alloc (.cells #[I pg,I kd,I lc] 174))):=cM.below gK.o;by_cases c:kd=1
 · obtain⟨i,rfl⟩:∃i:Nat,lc=(i:Int):=⟨lc.toNat,by omega⟩;have hi:i<k.frames.length:=by omega
   obtain⟨fb,cF,A⟩:=HM.o.toKr.fr (by omega);have hrr:=hr.1 c;rw[lM] at hrr;have x1:=A.x1 i hi;have x0:=A.x0 i hi;have x2:=A.x2 i hi;have x3:=A.x3 i hi;have f0:=A.fz (i*4);have f1:=A.fz (i*4+1);have f2:=A.fz (i*4+2);have f3:=A.fz (i*4+3);have c1:=HM.o.c1;rw[A.v] at c1;have e0:(w.alloc (.cells #[I pg,I kd,I (i:Int)] 174)).cell? (Ad w.heap.size 1)=some (I kd):=au EB.o 1 rfl;have e2:(w.alloc (.cells #[I pg,I kd,I (i:Int)] 174)).cell? (Ad w.heap.size 2)=some (I (i:Int)):=au EB.o 2 rfl;have JI:(i:Int)<(k.frames.length:Int):=by omega
   have dz:Hid (∀V,(∃f,V=((w.alloc (.cells #[I pg,I kd,I (i:Int)] 174)).setCell (Ad fb (i*4+1)) (I ((aH k.frames i).refs+d))).drew/\f=aH k.frames i/\¬f.refs+d=0)∨(∃f,f=aH k.frames i/\f.refs+d=0/\V=((((((w.alloc (.cells #[I pg,I kd,I (i:Int)] 174)).setCell (Ad fb (i*4+1)) (I ((aH k.frames i).refs+d))).setCell (Ad fb (i*4)) (.string ⟨#[]⟩)).setCell (Ad fb (i*4+1)) (I 0)).setCell (Ad fb (i*4+2)) (.bool false)).setCell (Ad fb (i*4+3)) (.bool false)).drew)->mP lo mb tt X w S (.tuple #[]) (ki k ⟨pg,kd,(i:Int)⟩ d) (.returned (.tuple #[])) V):=fun V hV=>by
    have hk:ki k ⟨pg,kd,(i:Int)⟩ d={ k with frames:=k.frames.set i (Hl (aH k.frames i) d) }:=by
     grind [ki]
    rw[hk];have HD:=HM.o;have CD:=HC0.o;have hDr:∀V:World,Below V.heap.size V V.drew:=fun V=>(aK _ _).drew
    have m1:=HD.L6 A.v hi (j:=1) (by omega) (f:=⟨(aH k.frames i).data,(aH k.frames i).refs+d,(aH k.frames i).jo,(aH k.frames i).seen⟩) (u:=I ((aH k.frames i).refs+d)) rfl;have ch1:=CD.trans (zX HD.toKr A.v (i:=i*4+1) (u:=I ((aH k.frames i).refs+d)));rcases hV with⟨f,rfl,rfl,hz⟩ | ⟨f,rfl,hz,rfl⟩
    · unfold Hl;rw[aA hz];exact⟨rfl,m1.below (hDr _),ch1.trans (cM.below (hDr _))⟩
    · unfold Hl;rw[aC hz];have m2:=m1.afk A.v (i:=i) (by grind) gM;simp only[pY] at m2;exact⟨rfl,m2.1.below (hDr _),(ch1.trans m2.2).trans (cM.below (hDr _))⟩
   obtain⟨P,hP⟩:=ex (mP lo mb tt X w S (.tuple #[]) (ki k ⟨pg,kd,(i:Int)⟩ d));rw[<- hP] at dz ⊢;obtain⟨F,hF⟩:=ex (aH k.frames i);rw[<- hF] at x0 x1 x2 x3 hrr dz;obtain⟨n,hn⟩:=ex k.frames.length;rw[<- hn] at c1 JI;have kb:(kd==1)=true:=by grind
   have hw:IntKind.i64.wrap (F.refs+d)=F.refs+d:=vI _ (by omega);clear h1 h2 hr h hP hF hn HM HC0 A EB gK c hd hrr hi;by_cases z:F.refs+d=0
   · have zb:(F.refs+d==0)=true:=by grind
     have HZ:=ai z;clear z;go_enter Tryz.func270,Tryz.ntmps270;go_upto_region 2 with fail;go_region;go_wp2;refine bO (v:=.tuple #[]) (by simp[results]) rfl ?_
     grind [Hid.o]
   · have zb:(F.refs+d==0)=false:=by grind
     have HZ:=ai z;clear z;go_enter Tryz.func270,Tryz.ntmps270;go_upto_region 2 with fail;go_region;go_wp2;refine bO (v:=.tuple #[]) (by simp[results]) rfl ?_
     grind [Hid.o]
 · obtain⟨i,rfl⟩:∃i:Nat,lc=(i:Int):=⟨lc.toNat,by omega⟩;have hi:i<k.slots.length:=by omega
   obtain⟨fb,cF,A⟩:=HM.o.toKr.sl (by omega);have hrr:=hr.2 c;rw[lM] at hrr;have x1:=A.x1 i hi;have x0:=A.x0 i hi;have f0:=A.fz (i*2);have f1:=A.fz (i*2+1);have c1:=HM.o.c2;rw[A.v] at c1;have e0:(w.alloc (.cells #[I pg,I kd,I (i:Int)] 174)).cell? (Ad w.heap.size 1)=some (I kd):=au EB.o 1 rfl;have e2:(w.alloc (.cells #[I pg,I kd,I (i:Int)] 174)).cell? (Ad w.heap.size 2)=some (I (i:Int)):=au EB.o 2 rfl;have JI:(i:Int)<(k.slots.length:Int):=by omega
   have dz:Hid (∀V,(∃f,V=((w.alloc (.cells #[I pg,I kd,I (i:Int)] 174)).setCell (Ad fb (i*2+1)) (I ((bH k.slots i).refs+d))).drew/\f=bH k.slots i/\¬f.refs+d=0)∨(∃f,f=bH k.slots i/\f.refs+d=0/\V=((((w.alloc (.cells #[I pg,I kd,I (i:Int)] 174)).setCell (Ad fb (i*2+1)) (I ((bH k.slots i).refs+d))).setCell (Ad fb (i*2)) (.string ⟨#[]⟩)).setCell (Ad fb (i*2+1)) (I 0)).drew)->mP lo mb tt X w S (.tuple #[]) (ki k ⟨pg,kd,(i:Int)⟩ d) (.returned (.tuple #[])) V):=fun V hV=>by
    have hk:ki k ⟨pg,kd,(i:Int)⟩ d={ k with slots:=k.slots.set i (Hk (bH k.slots i) d) }:=by
     grind [ki]
    rw[hk];have HD:=HM.o;have CD:=HC0.o;have hDr:∀V:World,Below V.heap.size V V.drew:=fun V=>(aK _ _).drew
    have m1:=HD.afh A.v hi (j:=1) (by omega) (f:=⟨(bH k.slots i).data,(bH k.slots i).refs+d⟩) (u:=I ((bH k.slots i).refs+d)) rfl;have ch1:=CD.trans (abH HD.toKr A.v (i:=i*2+1) (u:=I ((bH k.slots i).refs+d)));rcases hV with⟨f,rfl,rfl,hz⟩ | ⟨f,rfl,hz,rfl⟩
    · unfold Hk;rw[aA hz];exact⟨rfl,m1.below (hDr _),ch1.trans (cM.below (hDr _))⟩
    · unfold Hk;rw[aC hz];have m2:=m1.alZ A.v (i:=i) (by grind) nK;simp only[pY] at m2;exact⟨rfl,m2.1.below (hDr _),(ch1.trans m2.2).trans (cM.below (hDr _))⟩
   obtain⟨P,hP⟩:=ex (mP lo mb tt X w S (.tuple #[]) (ki k ⟨pg,kd,(i:Int)⟩ d));rw[<- hP] at dz ⊢;obtain⟨F,hF⟩:=ex (bH k.slots i);rw[<- hF] at x0 x1 hrr dz;obtain⟨n,hn⟩:=ex k.slots.length;rw[<- hn] at c1 JI;have kb:(kd==1)=false:=by grind
   have hw:IntKind.i64.wrap (F.refs+d)=F.refs+d:=vI _ (by omega);clear h1 h2 hr h hP hF hn HM HC0 A EB gK c hd hrr hi;by_cases z:F.refs+d=0
   · have zb:(F.refs+d==0)=true:=by grind
     have HZ:=ai z;clear z;go_enter Tryz.func270,Tryz.ntmps270;go_upto_region 6 with fail;go_region;go_wp2;refine vE (v:=.tuple #[]) (by simp[results]) rfl ?_
     grind [Hid.o]
   · have zb:(F.refs+d==0)=false:=by grind
     have HZ:=ai z;clear z;go_enter Tryz.func270,Tryz.ntmps270;go_upto_region 6 with fail;go_region;go_wp2;refine vE (v:=.tuple #[]) (by simp[results]) rfl ?_
     grind [Hid.o]
open Go.RowKit
def l7 (held:List Int) (k:aT) (i:Nat):aT:=if held.contains (i:Int) then k else { k with frames:=k.frames.set i (CX (aH k.frames i)) }
theorem SK {lo mb:Nat} {tt:TypeId} {X:List Value} (k:aT) (S:gI) (w:World) (i:Nat) (held:List Int) (ah:Option Addr) (ch:Nat) (h:bK lo mb tt X w S k) (hi:i<k.frames.length) (hh:dW iE 1 0 w ah held) (hl:held.length<=1000000) :
  Calls Tryz.prog 296 #[.pointer (some (Ad mb 0)),I (i:Int),.slice ah held.length ch] w (mP lo mb tt X w S (.bool (held.contains (i:Int) || (aH k.frames i).seen)) (l7 held k i)):=by
 obtain⟨fb,cF,A⟩:=h.toKr.fr (by omega);have HCO:=ai (xh held (i:Int) ah ch w hh hl);have x3:=A.x3 i hi;have f3:=A.fz (i*4+3);have c1:=h.c1;rw[A.v] at c1;have JI:(i:Int)<(k.frames.length:Int):=by omega
 rw[<- List.contains_eq_mem] at HCO;cases hc:held.contains (i:Int) with
 | true =>
  have dz:Hid (mP lo mb tt X w S (.bool (true || (aH k.frames i).seen)) (l7 held k i) (.returned (.bool true)) w):=⟨by simp,by grind [l7],cM.refl _ _⟩;rw[hc] at HCO;obtain⟨P,hP⟩:=ex (mP lo mb tt X w S (.bool (true || (aH k.frames i).seen)) (l7 held k i));rw[<- hP] at dz ⊢;clear hP hc hh h A hi hl x3 f3 c1 JI;go_enter Tryz.func296,Tryz.ntmps296;go_wp2_with (go_at_call 282;refine HCO.o.mono ?_;rintro e w1 ⟨rfl,rfl⟩)
  exact dz.o
 | false =>
  have dz:Hid (mP lo mb tt X w S (.bool (false || (aH k.frames i).seen)) (l7 held k i) (.returned (.bool (aH k.frames i).seen)) (w.setCell (Ad fb (i*4+3)) (.bool false))):=⟨by simp,by
   unfold l7;rw[aA (by grind)];exact h.L6 A.v hi (j:=3) (by omega) rfl,zX h.toKr A.v⟩
  rw[hc] at HCO;obtain⟨P,hP⟩:=ex (mP lo mb tt X w S (.bool (false || (aH k.frames i).seen)) (l7 held k i));rw[<- hP] at dz ⊢;obtain⟨F,hF⟩:=ex (aH k.frames i);rw[<- hF] at x3 dz;obtain⟨n,hn⟩:=ex k.frames.length;rw[<- hn] at c1 JI;clear hP hc hh h A hi hl hF hn;go_enter Tryz.func296,Tryz.ntmps296;go_wp2_with (go_at_call 282;refine HCO.o.mono ?_;rintro e w1 ⟨rfl,rfl⟩)
  exact dz.o
theorem EM {lo mb:Nat} {tt:TypeId} {X:List Value} (k:aT) (S:gI) (w:World) (h:bK lo mb tt X w S k) (hh:0<=k.hand/\k.hand<k.frames.length) (hn:k.frames.length<=1000000) :
  Calls Tryz.prog 251 #[.pointer (some (Ad mb 0))] w (mP lo mb tt X w S (.tuple #[]) { k with hand:=jh k }):=by
 obtain⟨fb,cF,A⟩:=h.toKr.fr (by omega);have dz:Hid (∀x,x=jh k->mP lo mb tt X w S (.tuple #[]) { k with hand:=jh k } (.returned (.tuple #[])) (w.setCell (Ad mb 4) (I x)).drew):=fun x hx=>by
  rw[hx];have:=h.ahi (jh k);exact⟨rfl,this.1.below (aK _ _).drew,this.2.trans (cM.below (aK _ _).drew)⟩
 have hm:(k.hand+1).tmod (k.frames.length:Int)=jh k:=by
  grind [jh]
 have c1:=h.c1;rw[A.v] at c1;have c4:=h.c4;have f4:=h.free 4;obtain⟨P,hP⟩:=ex (mP lo mb tt X w S (.tuple #[]) { k with hand:=jh k });rw[<- hP] at dz ⊢;obtain⟨NX,hNX⟩:=ex (jh k);rw[<- hNX] at dz hm;obtain⟨hd,hhd⟩:=ex k.hand;rw[<- hhd] at c4 hh hm;obtain⟨n,hne⟩:=ex k.frames.length;rw[<- hne] at c1 hh hm hn;have hw:IntKind.i64.wrap (hd+1)=hd+1:=vI _ (by omega);have hn0:¬(n:Int)=0:=by omega
 have hNb:-9223372036854775808<=NX/\NX<=9223372036854775807:=by
  have h1:0<=(hd+1).tmod (n:Int):=Int.tmod_nonneg _ (by omega);have h2:(hd+1).tmod (n:Int)<(n:Int):=Int.tmod_lt_of_pos _ (by omega);omega
 clear hP hNX hhd hne h A;go_enter Tryz.func251,Tryz.ntmps251;go_region
 all_goals go_wp2
 all_goals refine vE (v:=.tuple #[]) (by simp[results]) rfl ?_
 grind [Hid.o]
open Go.RowKit
theorem kR (l:bI):(bG l).length=3:=rfl
theorem Ge (w:World):(sizeOf 174).run Tryz.prog w=.ok 3 w:=by rfl
theorem af7 (w:World):(zeroValue 174).run Tryz.prog w=.ok (.agg #[I 0,I 0,I 0]) w:=by rfl
def ov (lo:Nat) (vp:Value) (l:List bI) (w:World) (e:Ending) (w':World):Prop:=∃v',e=.returned v'/\w'.ownsRow lo 174 3 v' l.length (l.flatMap bG)/\aD (bZ vp) w w'/\(∀b,bZ v' b->bZ vp b∨w.heap.size<=b)
theorem yD {α:Type} {w:World} {lo:Nat} {e:TypeId} {k n:Nat} {ao:Option Addr} {cap:Nat} {xs:List Value} (h:w.ownsRow lo e k (.slice ao n cap) n xs):mR w ao n xs:=fun hm=>by
 rcases h.2 with⟨h0,h1⟩ | ⟨g,cap',cur,hv,_,hg,_,_,_,ht⟩
 · omega
 grind [Addr.add_lit,cell_of_row]
theorem Tg (lo:Nat) (ps zs:List bI) (ao az:Option Addr) (cap cz wz:Nat) (w:World) (h:w.ownsRow lo 174 3 (.slice ao ps.length cap) ps.length (ps.flatMap bG)) (hz:w.ownsRow wz 174 3 (.slice az zs.length cz) zs.length (zs.flatMap bG)) (hlo:lo<=w.heap.size) (hm:1<=zs.length) (hn:ps.length<=100000) (E3:zs.length<=100000) :
  Calls Tryz.prog 299 #[.slice ao ps.length cap,I (ps.length:Int),.slice az zs.length cz] w (ov lo (.slice ao ps.length cap) (ps++zs) w):=by
 have HH:=ai h;have HF:=ai (yD (α:=Unit) hz);have HL:=ai (fY bG 3 kR zs);have H1:=ai (tP zs);obtain⟨_,_,e0,E8,_⟩:=bj h;injection e0 with e1 e2 e3;subst e3;obtain⟨n,hne⟩:=ex ps.length;obtain⟨m,hme⟩:=ex zs.length;have dz:Hid (∀v' (w':World),w'.ownsRow lo 174 3 v' (n+m) (ps.flatMap bG++zs.flatMap bG)->aD (bZ (.slice ao n cap)) w w'->(∀b,bZ v' b->bZ (.slice ao n cap) b∨w.heap.size<=b)->ov lo (.slice ao n cap) (ps++zs) w (.returned v') w'):=fun v' w' h1 h2 h3=>⟨v',rfl,by grind,h2,h3⟩
 rw[<- hne] at HH hn E8 ⊢;rw[<- hme] at HF HL hm E3 ⊢;obtain⟨P,hP⟩:=ex (ov lo (.slice ao n cap) (ps++zs) w);rw[<- hP] at dz ⊢;obtain⟨XS,hXS⟩:=ex (ps.flatMap bG);obtain⟨ZS,hZS⟩:=ex (zs.flatMap bG);rw[<- hXS] at HH dz;rw[<- hZS] at HF HL H1 dz;obtain⟨i0,hin,hz0,hz1,hz2⟩:=ju Hp;have Eo:=ai hin;have Hu:=ai hz0;have Gf:=ai hz1;have yV:=ai hz2;have hm0:((m:Int)==0)=false:=by grind
 clear h hz hne hme hP hXS hZS hin hz0 hz1 hz2 e1 e2;go_enter Tryz.func299,Tryz.ntmps299;go_wp2_with (at_builtin;refine fB (P:=Tryz.prog) rfl _ _ 97 rfl lo 174 i0 (.agg #[I 0,I 0,I 0]) 3 24 Tryz.underlying97 Eo.o Hu.o Gf.o yV.o rfl (by decide) (.slice ao n cap) n XS rfl HH.o az m cz ZS rfl HL.o HF.o H1.o (by unfold maxLen;omega) (by omega) hlo ?_;intro v' w' hown hgr hat;have Hx:=ai hown;have HG2:=ai hgr;have EU:=ai hat;clear hown hgr hat)
 all_goals
  refine dz.o _ _ Hx.o (aD.grown HG2.o (fun _ e=>e)) (fun b hb=>?_);unfold bZ at hb ⊢;rcases EU.o with e | e
  · grind
  grind
open Go.RowKit
theorem Cq {α:Type} (a b:List α) (n:Nat) (h:a.length=n):(a++b).take n=a:=by grind
theorem Wm {α:Type} (R Y X:List α) (a b:Nat) (hb:b=a+Y.length) (h:b+X.length<=R.length):(splice (splice R a Y) b X).take (b+X.length)=R.take a++(Y++X):=by
 subst hb;have h1:(splice R a Y).take (a+Y.length)=R.take a++Y:=by
  unfold splice;rw[<- vM];exact Cq _ _ _ (by grind)
 unfold splice at h1 ⊢;rw[h1,<- vM,vM (R.take a) Y X];exact Cq _ _ _ (by rw[fK,qM,fK];omega)
theorem Q0 {α:Type} (R Y X:List α) (a b:Nat) (hb:b=a+Y.length) (h:b+X.length<=R.length):(splice (splice R b X) a Y).take (b+X.length)=R.take a++(Y++X):=by
 subst hb;have h1:(splice R (a+Y.length) X).take a=R.take a:=by
  grind [splice]
 have h2:(splice R (a+Y.length) X).drop (a+Y.length)=X++R.drop (a+Y.length+X.length):=by
  grind [splice]
 have h3:splice (splice R (a+Y.length) X) a Y=R.take a++(Y++(X++R.drop (a+Y.length+X.length))):=by
  rw[<- h2,<- h1];rfl
 rw[h3,<- vM,<- vM,vM (R.take a) Y X];exact Cq _ _ _ (by grind)
theorem Lj (ps:List bI) (i:Nat):(ps.flatMap bG).drop (i*3)=(ps.drop i).flatMap bG:=by
 induction ps generalizing i with
 | nil=>simp
 | cons a r ih =>
  cases i with
  | zero=>simp
  | succ i =>
   rw[nW,UW,<- ih i,show(i+1)*3=i*3+3 by omega];rfl
theorem Ec (ps:List bI) (i:Nat):(ps.flatMap bG).take (i*3)=(ps.take i).flatMap bG:=by
 induction ps generalizing i with
 | nil=>simp
 | cons a r ih =>
  cases i with
  | zero=>simp
  | succ i =>
   rw[nW,UT,nW,<- ih i,show(i+1)*3=i*3+3 by omega];rfl
theorem Ed (w:World) (g:Nat) (cs:Array Value):aD (fun b=>b=g) w (w.setRow g cs):=⟨rfl,rfl,rfl,by simp_all,fun b _ hn=>setRow_other w g b cs hn⟩
theorem Oy (lo:Nat) (ps zs:List bI) (pb zb cap cz wz i:Nat) (w:World) (h:w.ownsRow lo 174 3 (.slice (some (Ad pb 0)) ps.length cap) ps.length (ps.flatMap bG)) (hz:w.ownsRow wz 174 3 (.slice (some (Ad zb 0)) zs.length cz) zs.length (zs.flatMap bG)) (hne:zb≠pb) (hi:i<ps.length) (hm:1<=zs.length) (hn:ps.length<=100000) (E3:zs.length<=100000) (hroom:ps.length+zs.length<=cap) :
  Calls Tryz.prog 299 #[.slice (some (Ad pb 0)) ps.length cap,I (i:Int),.slice (some (Ad zb 0)) zs.length cz] w (ov lo (.slice (some (Ad pb 0)) ps.length cap) (ps.take i++(zs++ps.drop i)) w):=by
 have HFZ:=ai (yD (α:=Unit) hz);have Hn:=ai (yD (α:=Unit) h);have H1:=ai (tP zs);have H1P:=ai (tP ps);obtain⟨cur,hcz,hgc,hcs,hct,hlo,hcm⟩:∃cur:Array Value,cur.size=cap*3/\w.heap[pb]?=some (.cells cur 174 (0,0))/\cap<=maxLen/\cur.toList.take (ps.length*3)=ps.flatMap bG/\lo<=pb/\ps.length<=cap:=by
  rcases h.2 with⟨h0,_⟩ | ⟨g,cap',cur,hv,hb,hg,h1,h2,h3,h4⟩
  · cases h0
  grind
 obtain⟨afg,hzg,apL⟩:∃afg:Array Value,w.heap[zb]?=some (.cells afg 174 (0,0))/\0<afg.size:=by
  rcases hz.2 with⟨h0,_⟩ | ⟨g,cap',zc,hv,hb,hg,h1,h2,h3,h4⟩
  · cases h0
  grind
 have hlx:=fY bG 3 kR ps;have hlz:=fY bG 3 kR zs;obtain⟨R,hR⟩:=ex cur.toList;have hRl:R.length=cap*3:=by grind
 have hRg:w.heap[pb]?=some (.cells R.toArray 174 (0,0)):=by rw[hR];omega
 rw[<- hR] at hct;obtain⟨n,Yi⟩:=ex ps.length;obtain⟨m,hme⟩:=ex zs.length;obtain⟨XS,hXS⟩:=ex (ps.flatMap bG);obtain⟨ZS,hZS⟩:=ex (zs.flatMap bG);rw[<- hZS] at HFZ H1 hlz;rw[<- hXS] at Hn hlx hct H1P;rw[<- hme] at HFZ hlz hm E3 hroom ⊢;rw[<- Yi] at Hn hlx hct hi hn hroom hcm ⊢;obtain⟨DS,hDS⟩:=ex (XS.drop (i*3));have hDl:DS.length=(n-i)*3:=by grind
 obtain⟨R1,JK⟩:=ex (splice R ((i+m)*3) DS);have aku:R1.length=cap*3:=by rw[JK,length_splice _ _ _ (by omega)];exact hRl
 obtain⟨R2,hR2⟩:=ex (splice R1 (i*3) ZS);have afH:R2.length=cap*3:=by rw[hR2,length_splice _ _ _ (by omega)];omega
 have afG:R2.take ((n+m)*3)=XS.take (i*3)++(ZS++DS):=by
  have:=Q0 R ZS DS (i*3) ((i+m)*3) (by omega) (by omega)
  grind
 have afA:∀ty dc sc,(Builtin.copy_ #[97,97] ty #[.slice (some (Ad pb ((i+m)*3))) (n+m-(i+m)) dc,.slice (some (Ad pb (i*3))) (n+m-i) sc]).run Tryz.prog w.drew=.ok (goInt (n-i)) (w.drew.setRow pb R1.toArray):=fun ty dc sc=>by
  have:=tZ (P:=Tryz.prog) w.drew 97 97 ty 174 3 Tryz.underlying97 Ge pb ((i+m)*3) (n+m-(i+m)) dc (some (Ad pb (i*3))) (n+m-i) sc R 174 hRg DS (by grind) (fun _=>⟨_,rfl,fun j u hu=>by
   obtain⟨ad,e,hc⟩:=Hn.o (by omega);injection e with e;subst e;have:=hc (i*3+j) u (by rw[hDS,Pe] at hu;exact hu);rw[si] at this ⊢;rw[lU] at this;exact this⟩) (by omega) (fun u hu=>H1P.o u (by rw[hDS] at hu;exact UY hu))
  rw[this,<- JK];congr 2;simp only[Di];split <;> omega
 have hg1:(w.drew.setRow pb R1.toArray).heap[pb]?=some (.cells R1.toArray 174 (0,0)):=tJ w.drew pb _ _ _ _ hRg;obtain⟨W1,hW1⟩:=ex (w.drew.setRow pb R1.toArray);rw[<- hW1] at afA hg1;have kp1:aD (fun b=>b=pb) w W1:=by rw[hW1];exact(aD.drew _ w).trans (Ed w.drew pb R1.toArray) (fun _ _ g=>g)
 have akn:∀ty dc,(Builtin.copy_ #[97,97] ty #[.slice (some (Ad pb (i*3))) (n+m-i) dc,.slice (some (Ad zb 0)) m cz]).run Tryz.prog W1=.ok (goInt m) (W1.setRow pb R2.toArray):=fun ty dc=>by
  have:=tZ (P:=Tryz.prog) W1 97 97 ty 174 3 Tryz.underlying97 Ge pb (i*3) (n+m-i) dc (some (Ad zb 0)) m cz R1 174 hg1 ZS (by rw[hlz];simp only[Di];split <;> omega) (fun _=>⟨_,rfl,fun j u hu=>by
   obtain⟨ad,e,hc⟩:=HFZ.o (by omega);injection e with e;subst e;have:=hc j u hu;exact kp1.cell this (by rw[si];exact hne)⟩) (by omega) H1.o
  rw[this,<- hR2];congr 2;simp only[Di];split <;> omega
 have hg2:(W1.setRow pb R2.toArray).heap[pb]?=some (.cells R2.toArray 174 (0,0)):=tJ W1 pb _ _ _ _ hg1;have dz:Hid (ov lo (.slice (some (Ad pb 0)) n cap) (ps.take i++(zs++ps.drop i)) w (.returned (.slice (some (Ad pb 0)) (n+m) cap)) (W1.setRow pb R2.toArray)):=by
  have hl:(ps.take i++(zs++ps.drop i)).length=n+m:=by rw[fK,fK,qM,y8,<- Yi,<- hme];omega
  refine⟨_,rfl,?_,(kp1.trans (Ed W1 pb _) (fun _ _ g=>g)).mono (fun b _ e=>by rw[e];rfl),fun b hb=>.inl hb⟩;rw[hl];have hx:(ps.take i++(zs++ps.drop i)).flatMap bG=R2.take ((n+m)*3):=by
   rw[afG,hXS,hZS,hDS,hXS,Ec,Lj,xN,xN]
  rw[hx];exact⟨by rw[qM,afH];omega,.inr ⟨pb,cap,R2.toArray,rfl,hlo,hg2,hroom,hcs,by omega,by simp⟩⟩
 obtain⟨P,hP⟩:=ex (ov lo (.slice (some (Ad pb 0)) n cap) (ps.take i++(zs++ps.drop i)) w);rw[<- hP] at dz ⊢;have hov:∀lb cb,(callFunc 303 #[.slice (some (Ad zb 0)) m cz,.slice (some (Ad pb ((i+m)*3))) lb cb]).run Tryz.prog w=.ok (.value (.bool false)) w:=fun lb cb=>by
  rw[run_callFunc_extern Tryz.func303 (by kernel_rfl) (by kernel_rfl) (by kernel_rfl) (e:=Extern.SlicesOverlaps.overlaps #[97,97] #[4]) (by kernel_rfl),
   Lib.run_overlaps_apart w 97 4 174 Tryz.underlying97 3 Ge (Ad zb 0) (Ad pb ((i+m)*3)) m cz lb cb hne 174 174 afg.size cur.size (by simp[World.shape?,hzg]) (by simp[World.shape?,hgc]) (by omega) (aR hzg 0) (aR hzg afg.size)]
  rfl
 have hm0:((m:Int)==0)=false:=by rw[mF];omega
 have hi0:((i:Int)==(n:Int))=false:=by rw[mF];omega
 have hw1:IntKind.i64.wrap ((i:Int)+(m:Int))=(i:Int)+(m:Int):=vI _ (by omega);have hb1:(0:Int)<=(i:Int)+(m:Int):=by omega
 have hin:i<=n:=by omega
 have htn:((i:Int)+(m:Int)).toNat=i+m:=by omega
 have hb2:¬(cap=i+m):=by omega
 have hb3:(i:Int)<=(n:Int)+(m:Int):=by omega
 have hb4:¬(cap=i):=by omega
 have hr2:¬((cap:Int)<(n:Int)+(m:Int)):=by omega
 have aqB:cap<=9223372036854775807:=by unfold maxLen at hcs;omega
 clear h hz Yi hme hXS hZS hDS hDl JK hR2 hW1 hR hRl hRg aku afH afG hlx hlz hct hgc hcz hzg apL hP hg1 hg2 kp1 HFZ Hn H1 H1P hcs;go_enter Tryz.func299,Tryz.ntmps299;go_wp2_with (simp only[hov])
 go_region_law (refine Sh rfl _ _ 97 97 rfl _ _ (by simp[Act.eval,Act.put]) (by simp[Act.eval,Act.put]) (afA _ _ _) ?_)
 go_wp2_with (at_builtin;refine Oa _ rfl _ _ 97 97 rfl _ _ rfl rfl (akn _ _) ?_)
 exact dz.o
open Go.RowKit
theorem Q3 (lo:Nat) (ps zs:List bI) (pb zb cap cz wz i:Nat) (w:World) (h:w.ownsRow lo 174 3 (.slice (some (Ad pb 0)) ps.length cap) ps.length (ps.flatMap bG)) (hz:w.ownsRow wz 174 3 (.slice (some (Ad zb 0)) zs.length cz) zs.length (zs.flatMap bG)) (hlo:lo<=w.heap.size) (hi:i<ps.length) (hm:1<=zs.length) (hn:ps.length<=100000) (E3:zs.length<=100000) (hroom:cap<ps.length+zs.length) :
  Calls Tryz.prog 299 #[.slice (some (Ad pb 0)) ps.length cap,I (i:Int),.slice (some (Ad zb 0)) zs.length cz] w (ov lo (.slice (some (Ad pb 0)) ps.length cap) (ps.take i++(zs++ps.drop i)) w):=by
 have HFZ:=ai (yD (α:=Unit) hz);have Hn:=ai (yD (α:=Unit) h);have H1:=ai (tP zs);have H1P:=ai (tP ps);have hpb:pb<w.heap.size:=(h.lt pb rfl).2;have hzb:zb<w.heap.size:=(hz.lt zb rfl).2;have hcm:ps.length<=cap:=by
  grind [bj]
 have hlx:=fY bG 3 kR ps;have hlz:=fY bG 3 kR zs;obtain⟨n,Yi⟩:=ex ps.length;obtain⟨m,hme⟩:=ex zs.length;obtain⟨XS,hXS⟩:=ex (ps.flatMap bG);obtain⟨ZS,hZS⟩:=ex (zs.flatMap bG);rw[<- hZS] at HFZ H1 hlz;rw[<- hXS] at Hn hlx H1P;rw[<- hme] at HFZ hlz hm E3 hroom ⊢;rw[<- Yi] at Hn hlx hi hn hroom hcm ⊢;obtain⟨i0,hin,hz0,hz1,hz2⟩:=ju Hp;have hold:(Builtin.firstCells i0.size i (.slice (some (Ad pb 0)) i cap)).run Tryz.prog w.drew=.ok (XS.take (i*3)).toArray w.drew:=by
  rw[hz1];exact ahp w.drew 3 i (Ad pb 0) i cap (XS.take (i*3)) (by grind) (fun j u hu=>by
   rw[UQ] at hu;split at hu
   · obtain⟨ad,e,hc⟩:=Hn.o (by omega);injection e with e;subst e;exact hc j u hu
   grind)
 have hik:i+(n+m-i)=n+m:=by omega
 have hkk:(n:Int)+(m:Int)-(i:Int)=((n+m-i:Nat):Int):=by omega
 obtain⟨G,hG⟩:=ex (grownCap w (n+m) cap 174);obtain⟨R,hR⟩:∃R:List Value,R=XS.take (i*3)++js [I 0,I 0,I 0] (n+m-i)++js [I 0,I 0,I 0] (G-(n+m)):=⟨_,rfl⟩;have hGn:n+m<=G:=by rw[hG];exact grownCap_ge w _ _ _
 have akx:G<=maxLen:=by rw[hG];exact grownCap_le_maxLen w (n+m) cap _ (by unfold maxLen;omega)
 have hRl:R.length=G*3:=by
  rw[hR,fK,fK,mj,mj,qM,hlx]
  grind
 have hRt:R.take (i*3)=XS.take (i*3):=by
  grind
 have hrz:∀ty,(Builtin.append_ #[97,3] ty #[.slice (some (Ad pb 0)) i cap,I ((n:Int)+(m:Int)-(i:Int))]).run Tryz.prog w=.ok (.slice (some (Ad w.heap.size 0)) (n+m) G) (w.drew.alloc (.cells R.toArray 174)):=fun ty=>by
  have h:=Lib.run_append_grow_zeros (P:=Tryz.prog) w 97 3 ty 174 i0 _ .i64 .i64 Tryz.underlying97 Tryz.underlying3 hin hz0 (some (Ad pb 0)) i cap (XS.take (i*3)) hold (n+m-i) (by omega) (by omega) (by omega) (by omega) (by grind) (by rw[hz2,hik];exact growslice_fits hroom (by omega));rw[hik,<- hG] at h;rw[hkk,h];congr 3;rw[hR];have e1:=Cw (Value.cells (.agg #[I 0,I 0,I 0])) (n+m-i) (by decide);have e2:=Cw (Value.cells (.agg #[I 0,I 0,I 0])) (G-(n+m)) (by decide);apply Array.toList_inj.1;rw[Array.toList_append,Array.toList_append,e1,e2];rfl
 have hg0:(w.drew.alloc (.cells R.toArray 174)).heap[w.heap.size]?=some (.cells R.toArray 174 (0,0)):=bE w.drew _ _;obtain⟨W0,hW0⟩:=ex (w.drew.alloc (.cells R.toArray 174));rw[<- hW0] at hrz hg0;have kp0:Below w.heap.size w W0:=by rw[hW0];exact(aK _ _).drew.alloc (aI _) _
 obtain⟨H,hH⟩:=ex w.heap.size;rw[<- hH] at hrz hg0 hlo;obtain⟨DS,hDS⟩:=ex (XS.drop (i*3));have hDl:DS.length=(n-i)*3:=by rw[hDS,y8,hlx];omega
 obtain⟨R1,JK⟩:=ex (splice R (i*3) ZS);have aku:R1.length=G*3:=by rw[JK,length_splice _ _ _ (by omega)];exact hRl
 obtain⟨R2,hR2⟩:=ex (splice R1 ((i+m)*3) DS);have afH:R2.length=G*3:=by rw[hR2,length_splice _ _ _ (by omega)];omega
 have afG:R2.take ((n+m)*3)=XS.take (i*3)++(ZS++DS):=by
  have:=Wm R ZS DS (i*3) ((i+m)*3) (by omega) (by omega);rw[<- JK,<- hR2,hDl,show(i+m)*3+(n-i)*3=(n+m)*3 by omega] at this;rw[this,hRt]
 have afA:∀ty dc,(Builtin.copy_ #[97,97] ty #[.slice (some (Ad H (i*3))) (n+m-i) dc,.slice (some (Ad zb 0)) m cz]).run Tryz.prog W0=.ok (goInt m) (W0.setRow H R1.toArray):=fun ty dc=>by
  have:=tZ (P:=Tryz.prog) W0 97 97 ty 174 3 Tryz.underlying97 Ge H (i*3) (n+m-i) dc (some (Ad zb 0)) m cz R 174 hg0 ZS (by rw[hlz];simp only[Di];split <;> omega) (fun _=>⟨_,rfl,fun j u hu=>by
   obtain⟨ad,e,hc⟩:=HFZ.o (by omega);injection e with e;subst e;have:=hc j u hu;rw[si] at this ⊢;exact(kp0.cell (p:=(Ad zb (0+j))) hzb).trans this⟩) (by omega) H1.o
  rw[this,<- JK];congr 2;simp only[Di];split <;> omega
 have hg1:(W0.setRow H R1.toArray).heap[H]?=some (.cells R1.toArray 174 (0,0)):=tJ W0 H _ _ _ _ hg0;obtain⟨W1,hW1⟩:=ex (W0.setRow H R1.toArray);rw[<- hW1] at afA hg1;have kp1:Below w.heap.size w W1:=by rw[hW1];exact below_setRow kp0 (by omega) _
 have akn:∀ty dc sc,(Builtin.copy_ #[97,97] ty #[.slice (some (Ad H ((i+m)*3))) (n+m-(i+m)) dc,.slice (some (Ad pb (i*3))) (n-i) sc]).run Tryz.prog W1.drew=.ok (goInt (n-i)) (W1.drew.setRow H R2.toArray):=fun ty dc sc=>by
  have:=tZ (P:=Tryz.prog) W1.drew 97 97 ty 174 3 Tryz.underlying97 Ge H ((i+m)*3) (n+m-(i+m)) dc (some (Ad pb (i*3))) (n-i) sc R1 174 hg1 DS (by rw[hDl];simp only[Di];split <;> omega) (fun _=>⟨_,rfl,fun j u hu=>by
   obtain⟨ad,e,hc⟩:=Hn.o (by omega);injection e with e;subst e;have:=hc (i*3+j) u (by rw[hDS,Pe] at hu;exact hu);rw[si] at this ⊢;rw[lU] at this;exact(kp1.cell (p:=(Ad pb (i*3+j))) hpb).trans this⟩) (by omega) (fun u hu=>H1P.o u (by rw[hDS] at hu;exact UY hu))
  rw[this,<- hR2];congr 2;simp only[Di];split <;> omega
 have hg2:(W1.drew.setRow H R2.toArray).heap[H]?=some (.cells R2.toArray 174 (0,0)):=tJ W1.drew H _ _ _ _ hg1;have kp2:Below w.heap.size w (W1.drew.setRow H R2.toArray):=below_setRow kp1.drew (by omega) _;have dz:Hid (ov lo (.slice (some (Ad pb 0)) n cap) (ps.take i++(zs++ps.drop i)) w (.returned (.slice (some (Ad H 0)) (n+m) G)) (W1.drew.setRow H R2.toArray)):=by
  have hl:(ps.take i++(zs++ps.drop i)).length=n+m:=by rw[fK,fK,qM,y8,<- Yi,<- hme];omega
  refine⟨_,rfl,?_,aD.b9 kp2,fun b hb=>.inr (by have:some H=some b:=hb;injection this;omega)⟩;rw[hl];have hx:(ps.take i++(zs++ps.drop i)).flatMap bG=R2.take ((n+m)*3):=by
   rw[afG,hXS,hZS,hDS,hXS,Ec,Lj,xN,xN]
  rw[hx];exact⟨by rw[qM,afH];omega,.inr ⟨H,G,R2.toArray,rfl,hlo,hg2,hGn,akx,by omega,by simp⟩⟩
 obtain⟨P,hP⟩:=ex (ov lo (.slice (some (Ad pb 0)) n cap) (ps.take i++(zs++ps.drop i)) w);rw[<- hP] at dz ⊢;have hm0:((m:Int)==0)=false:=by rw[mF];omega
 have avP:((i:Int)==(n:Int))=false:=by rw[mF];omega
 have hw1:IntKind.i64.wrap ((i:Int)+(m:Int))=(i:Int)+(m:Int):=vI _ (by omega);have hb1:(0:Int)<=(i:Int)+(m:Int):=by omega
 have htn:((i:Int)+(m:Int)).toNat=i+m:=by omega
 have hb2:¬(G=i+m):=by omega
 have hb3:(i:Int)<=(n:Int):=by omega
 have hb4:¬(cap=i):=by omega
 have Mb:¬(G=i):=by omega
 have hr2:(cap:Int)<(n:Int)+(m:Int):=by omega
 have aqB:G<=9223372036854775807:=by unfold maxLen at akx;omega
 clear h hz Yi hme hXS hZS hDS hDl JK hR2 hW1 hW0 hR hRl hRt aku afH afG hlx hlz hP hg0 hg1 hg2 kp0 kp1 kp2 HFZ Hn H1 H1P akx hG hH hold hin hz0 hz1 hz2 hik hkk;go_enter Tryz.func299,Tryz.ntmps299;go_wp2_with (first
  | (at_builtin;refine Lib.wpList_append_run _ rfl _ _ _ _ rfl _ _ rfl rfl _ _ (hrz _) ?_)
  | (at_builtin;refine Oa _ rfl _ _ 97 97 rfl _ _ rfl rfl (afA _ _) ?_))
 go_region_law (refine Sh rfl _ _ 97 97 rfl _ _ (by simp[Act.eval,Act.put]) (by simp[Act.eval,Act.put]) (akn _ _ _) ?_)
 go_wp2;exact dz.o
theorem Th (lo:Nat) (ps zs:List bI) (vp vz:Value) (wz i:Nat) (w:World) (h:w.ownsRow lo 174 3 vp ps.length (ps.flatMap bG)) (hz:w.ownsRow wz 174 3 vz zs.length (zs.flatMap bG)) (hlo:lo<=w.heap.size) (hne:∀b,bZ vz b->¬bZ vp b) (hi:i<=ps.length) (hm:1<=zs.length) (hn:ps.length<=100000) (E3:zs.length<=100000) :
  Calls Tryz.prog 299 #[vp,I (i:Int),vz] w (ov lo vp (ps.take i++(zs++ps.drop i)) w):=by
 obtain⟨ao,cap,rfl,E8,hg⟩:=bj h;obtain⟨az,cz,rfl,_,hgz⟩:=bj hz;by_cases c:i=ps.length
 · subst c;have e:ps.take ps.length++(zs++ps.drop ps.length)=ps++zs:=by grind
   rw[e];exact Tg lo ps zs ao az cap cz wz w h hz hlo hm hn E3
 · obtain⟨pb,rfl,_,_⟩:=hg (by omega);obtain⟨zb,rfl,_,_⟩:=hgz (by omega);by_cases d:ps.length+zs.length<=cap
   · exact Oy lo ps zs pb zb cap cz wz i w h hz (fun e=>hne zb rfl (by rw[e];rfl)) (by omega) hm hn E3 d
   · exact Q3 lo ps zs pb zb cap cz wz i w h hz hlo (by omega) hm hn E3 (by omega)
open Go.RowKit
theorem Ur (l:List bI) (i:Nat) (h:i<l.length):l[i]?=some (aW l i):=by
 grind [aW]
structure uY (p:bI->Bool) (ps q:List bI) (i j:Nat):Prop where
 len:q.length=ps.length
 lt:i<j
 le:j<=ps.length
 front:q.take i=(ps.take j).filter (fun g=>!p g)
 back:q.drop j=ps.drop j
theorem zw (l:List bI) (j:Nat) (h:j<l.length):l.take (j+1)=l.take j++[aW l j]:=by
 grind [List.take_add_one,Ur]
theorem uY.start {p:bI->Bool} {ps:List bI} {i:Nat} (hi:i<ps.length) (hg:p (aW ps i)=true) (hno:∀j,j<i->p (aW ps j)=false):uY p ps ps i (i+1):=by
 refine⟨rfl,by omega,hi,?_,rfl⟩;have:∀k,k<=i->(ps.take k).filter (fun g=>!p g)=ps.take k:=fun k=>by
  induction k with
  | zero=>grind
  | succ k ih =>
   grind [zw]
 grind [zw]
theorem uY.at {p:bI->Bool} {ps q:List bI} {i j:Nat} (h:uY p ps q i j) (hj:j<ps.length):aW q j=aW ps j:=by
 have e:(q.drop j)[0]?=(ps.drop j)[0]?:=by rw[h.back]
 grind [Ur]
theorem uY.skip {p:bI->Bool} {ps q:List bI} {i j:Nat} (h:uY p ps q i j) (hj:j<ps.length) (hg:p (aW ps j)=true):uY p ps q i (j+1):=by
 refine⟨h.len,by have:=h.lt;omega,hj,?_,?_⟩
 · grind [zw,front]
 · rw[<- O0,<- O0,h.back]
theorem uY.keep {p:bI->Bool} {ps q:List bI} {i j:Nat} (h:uY p ps q i j) (hj:j<ps.length) (hg:p (aW ps j)=false):uY p ps (q.set i (aW ps j)) (i+1) (j+1):=by
 have hlt:=h.lt;have hln:=h.len;refine⟨by grind,by omega,hj,?_,?_⟩
 · grind [zw,List.take_set,List.set_eq_of_length_le,List.length_take,front]
 · rw[List.drop_set_of_lt (by omega),<- O0,<- O0,h.back]
theorem uY.done {p:bI->Bool} {ps q:List bI} {i:Nat} (h:uY p ps q i ps.length):q.take i=eZ ps p:=by
 rw[h.front,vK];rfl
theorem Wn (q:List bI) (i:Nat) (g:bI) (hi:i<q.length):(q.set i g).flatMap bG=(((q.flatMap bG).set (i*3) (I g.page)).set (i*3+1) (I g.kind)).set (i*3+2) (I g.loc):=by
 have h1:=kI bG 3 kR gV ⟨g.page,(aW q i).kind,(aW q i).loc⟩ 0 (I g.page) (by omega) q i hi rfl;have h2:=kI bG 3 kR gV ⟨g.page,g.kind,(aW q i).loc⟩ 1 (I g.kind) (by omega) (q.set i ⟨g.page,(aW q i).kind,(aW q i).loc⟩) i (by grind) (by
  rw[fG,Pp hi];rfl)
 rw[pY,h1] at h2;have h3:=kI bG 3 kR gV g 2 (I g.loc) (by omega) (q.set i ⟨g.page,g.kind,(aW q i).loc⟩) i (by grind) (by
  rw[fG,Pp hi];rfl)
 simp_all
theorem Zk {ps:List bI} {p:bI->Bool} (h:∀j,j<ps.length->p (aW ps j)=false):eZ ps p=ps:=by
 unfold eZ;rw[List.filter_eq_self];intro g hg;obtain⟨k,hk,rfl⟩:=lG gV hg
 grind [aW]
theorem abN (F:FuncId) (E:List Value) (x:Nat) (hFE:(F=300/\E=[.pointer (some (Ad x 0))])∨(F=285/\E=[.pointer (some (Ad x 0))])∨(F=269/\E=[])) (P:bI->Bool) (es:List bI) (ao:Option Addr) (cap:Nat) (w:World) (h:dW bG 3 gV w ao es) (hl:es.length<=1000000)
  (hC:∀V e,Below w.heap.size w V->Calls Tryz.prog F (Value.agg #[I e.page,I e.kind,I e.loc]::E).toArray V fun r w'=>r=.returned (.bool (P e))/\Below V.heap.size V w') :
  Calls Tryz.prog 186 #[.slice ao es.length cap,.func (.func F) #[] E.toArray] w fun e w' =>
   Below w.heap.size w w'/\((e=.returned (I (-1))/\∀j,j<es.length->P (aW es j)=false)∨∃i:Nat,i<es.length/\e=.returned (I (i:Int))/\P (aW es i)=true/\∀j,j<i->P (aW es j)=false):=by
 have HH:=ai h;have HC:=ai hC;clear h hC;rcases hFE with⟨rfl,rfl⟩ | ⟨rfl,rfl⟩ | ⟨rfl,rfl⟩
 all_goals
  go_enter Tryz.func186,Tryz.ntmps186;go_wp2;go_loopw [8] (fun iv wr=>∃k:Nat,k<=es.length/\iv=I (k:Int)/\(∀j,j<k->P (aW es j)=false)/\Below w.heap.size w wr) (fun iv _=>es.length-(intOf iv).toNat)
  case atStart=>grind [Below.refl]
  case round =>
   obtain⟨k,hk,rfl,hno,hb⟩:=hrel;have uZ:=ai hno;have HB:=ai hb;clear hno;by_cases hlt:k<es.length
   · have JI:(k:Int)<(es.length:Int):=by omega
     obtain⟨eb,eo,hao,hbl,eY⟩:=HH.o (by omega);subst hao;have y0:=(hb.cell (p:=(Ad eb (eo+k*3+0))) hbl).trans (eY k hlt 0 (by omega));have y1:=(hb.cell (p:=(Ad eb (eo+k*3+1))) hbl).trans (eY k hlt 1 (by omega));have y2:=(hb.cell (p:=(Ad eb (eo+k*3+2))) hbl).trans (eY k hlt 2 (by omega));rw[kW] at y0;have yP:=ai (HC.o wr (aW es k) hb);obtain⟨G,hG⟩:=ex (P (aW es k));rw[<- hG] at yP;have HG:=ai hG;obtain⟨E,hE⟩:=ex (aW es k);have x0:wr.cell? (Ad eb (eo+k*3))=some (I E.page):=by rw[hE];exact y0
     have x1:wr.cell? (Ad eb (eo+k*3+1))=some (I E.kind):=by rw[hE];exact y1
     have x2:wr.cell? (Ad eb (eo+k*3+2))=some (I E.loc):=by rw[hE];exact y2
     rw[<- hE] at yP;clear hG hE hb y0 y1 y2 eY;cases G with
     | true =>
      go_wp2_with ((first | go_at_call 300 | go_at_call 285 | go_at_call 269);refine yP.o.mono ?_;rintro e w1 ⟨rfl,hb1⟩;have cN:=ai (HB.o.trans (hb1.mono HB.o.size));clear hb1)
      go_ret;exact⟨cN.o,.inr ⟨k,hlt,rfl,HG.o.symm,uZ.o⟩⟩
     | false =>
      go_wp2_with ((first | go_at_call 300 | go_at_call 285 | go_at_call 269);refine yP.o.mono ?_;rintro e w1 ⟨rfl,hb1⟩;have cN:=ai (HB.o.trans (hb1.mono HB.o.size));clear hb1)
      grind [intOf,Hid.o]
   · obtain rfl:k=es.length:=by omega
     clear hb;go_wp2;go_ret;exact⟨HB.o,.inl ⟨rfl,uZ.o⟩⟩
theorem Zl {lo:Nat} {es:List bI} {ao:Option Addr} {cap:Nat} {w:World} (h:w.ownsRow lo 174 3 (.slice ao es.length cap) es.length (es.flatMap bG)):dW bG 3 gV w ao es:=by
 obtain⟨a,c,e,_,hr⟩:=oI bG (fun _=>rfl) gV h
 grind
theorem Ti (F:FuncId) (E:List Value) (x:Nat) (hFE:(F=300/\E=[.pointer (some (Ad x 0))])∨(F=285/\E=[.pointer (some (Ad x 0))])∨(F=269/\E=[])) (lo:Nat) (ps:List bI) (p:bI->Bool) (vp:Value) (w:World) (h:w.ownsRow lo 174 3 vp ps.length (ps.flatMap bG)) (hC:∀V e,aD (bZ vp) w V->Calls Tryz.prog F (Value.agg #[I e.page,I e.kind,I e.loc]::E).toArray V fun r w'=>r=.returned (.bool (p e))/\Below V.heap.size V w') (hl:ps.length<=100000) :
  Calls Tryz.prog 281 #[vp,.func (.func F) #[] E.toArray] w (ov lo vp (eZ ps p) w):=by
 obtain⟨ao,cap,rfl,hcm,hgo⟩:=bj h;have Uy:=ai (abN F E x hFE p ps ao cap w (Zl h) (by omega) (fun V e hV=>hC V e (aD.b9 hV)));have HH:=ai h;have HC:=ai hC;obtain⟨P,hP⟩:=ex (ov lo (.slice ao ps.length cap) (eZ ps p) w);have HP:Hid (∀e w',ov lo (.slice ao ps.length cap) (eZ ps p) w e w'->P e w'):=fun e w' h=>by simp_all
 rw[<- hP];have HGO:=ai hgo;clear h hC hP hgo;by_cases hall:∀j,j<ps.length->p (aW ps j)=false
 · have HI2:Hid (Calls Tryz.prog 186 #[.slice ao ps.length cap,.func (.func F) #[] E.toArray] w fun e w'=>e=.returned (I (-1))/\Below w.heap.size w w'):=Uy.o.mono fun e w' ⟨hb,hh⟩=>by
    grind
   have XX:=ai (Zk hall);clear hall Uy;rcases hFE with⟨rfl,rfl⟩ | ⟨rfl,rfl⟩ | ⟨rfl,rfl⟩
   all_goals
    go_enter Tryz.func281,Tryz.ntmps281;go_wp2_with (go_at_call 186;refine HI2.o.mono ?_;rintro e w1 ⟨rfl,hb1⟩;have cN:=ai hb1;clear hb1)
    exact HP.o _ _ ⟨_,rfl,by rw[XX.o];exact aD.row (aD.b9 (D:=fun _=>False) cN.o) HH.o (fun _ _ g=>g),aD.b9 cN.o,fun b hb=>.inl hb⟩
 · have HI2:Hid (Calls Tryz.prog 186 #[.slice ao ps.length cap,.func (.func F) #[] E.toArray] w fun e w'=>∃i:Nat,e=.returned (I (i:Int))/\uY p ps ps i (i+1)/\Below w.heap.size w w'):=Uy.o.mono fun e w' ⟨hb,hh⟩=>by
    grind [uY.start]
   have hpos:0<ps.length:=by
    grind
   obtain⟨pb,rfl,hlo,hpb⟩:=HGO.o hpos;clear hall Uy HGO;rcases hFE with⟨rfl,rfl⟩ | ⟨rfl,rfl⟩ | ⟨rfl,rfl⟩
   all_goals
    go_enter Tryz.func281,Tryz.ntmps281;go_wp2_with (go_at_call 186;refine HI2.o.mono ?_;rintro e w1 ⟨i1,rfl,akj,hb1⟩;have cN:=ai hb1;have Ay:=ai akj;have hi1:=akj.le;have hi2:((i1:Int)==-1)=false:=(by rfl);clear hb1 akj)
    go_loopw [5,6] (fun iv jv wr=>∃(i j:Nat) (q:List bI),iv=I (i:Int)/\jv=I (j:Int)/\uY p ps q i j/\wr.ownsRow lo 174 3 (.slice (some (Ad pb 0)) ps.length cap) ps.length (q.flatMap bG)/\aD (fun b=>b=pb) w wr) (fun _ jv _=>ps.length-(intOf jv).toNat)
    case atStart=>exact⟨i1,i1+1,ps,rfl,by go_num,Ay.o,aD.row (aD.b9 (D:=fun _=>False) cN.o) HH.o (fun _ _ g=>g),aD.b9 cN.o⟩
    case round =>
     obtain⟨i,j,q,rfl,rfl,hf,hrow,Px⟩:=hrel;have hij:=hf.lt;have hjl:=hf.le;have HF:=ai hf;have HR:=ai hrow;have HK:=ai Px;clear Ay cN hi1;by_cases hlt:j<ps.length
     · have hji:(j:Int)<(ps.length:Int):=by omega
       have hii:(i:Int)<(ps.length:Int):=by omega
       have hql:=hf.len;have hrw:∀V:World,V.ownsRow lo 174 3 (.slice (some (Ad pb 0)) ps.length cap) ps.length (q.flatMap bG)->∀k,k<ps.length->V.cell? (Ad pb (k*3))=some (I (aW q k).page)/\V.cell? (Ad pb (k*3+1))=some (I (aW q k).kind)/\V.cell? (Ad pb (k*3+2))=some (I (aW q k).loc):=fun V hV k hk=>by
        rw[<- hql] at hV;exact⟨kj bG kR gV hV k 0 (by omega) (by omega),kj bG kR gV hV k 1 (by omega) (by omega),kj bG kR gV hV k 2 (by omega) (by omega)⟩
       have HRW:=ai hrw;obtain⟨c0,c1,c2⟩:=hrw wr hrow j hlt;rw[hf.at hlt] at c0 c1 c2;have avu:pb<wr.heap.size:=(hrow.lt pb rfl).2;have avv:¬pb=wr.heap.size:=by omega
       have HA:=ai ((aK wr.heap.size wr).alloc (aI _) (.cells #[I (aW ps j).page,I (aW ps j).kind,I (aW ps j).loc] 174));have yP:=ai (HC.o (wr.alloc (.cells #[I (aW ps j).page,I (aW ps j).kind,I (aW ps j).loc] 174)) (aW ps j) ((Px.trans (aD.b9 (D:=fun b=>b=pb) HA.o) (fun _ _ g=>g)).mono (fun b _ e=>by subst e;rfl)));have BX:=ai (bE wr #[I (aW ps j).page,I (aW ps j).kind,I (aW ps j).loc] 174);have HSK:=ai (hf.skip hlt);have HKE:=ai (hf.keep hlt);obtain⟨G,hG⟩:=ex (p (aW ps j));rw[<- hG] at yP HSK HKE;obtain⟨g,hg⟩:=ex (aW ps j);rw[<- hg] at c0 c1 c2 yP HKE HA BX;clear hG hg hrow Px hrw hf;cases G with
       | true =>
        go_wp2_with ((first | go_at_call 300 | go_at_call 285 | go_at_call 269);refine yP.o.mono ?_;rintro e w2 ⟨rfl,hb2⟩;have gQ:=ai (HA.o.trans (hb2.mono HA.o.size));clear hb2)
        go_roundw
        case rel=>exact⟨i,j+1,q,rfl,by go_num,HSK.o (by trivial),aD.row (aD.b9 (D:=fun _=>False) gQ.o) HR.o (fun _ _ g=>g),HK.o.trans (aD.b9 (D:=fun b=>b=pb) gQ.o) (fun _ _ g=>g)⟩
        grind [intOf]
       | false =>
        go_wp2_with ((first | go_at_call 300 | go_at_call 285 | go_at_call 269);refine yP.o.mono ?_;rintro e w2 ⟨rfl,hb2⟩;have gQ:=ai (HA.o.trans (hb2.mono HA.o.size));have Cr:=ai (aD.row (aD.b9 (D:=fun _=>False) gQ.o) HR.o (fun _ _ g=>g));have hc2:=HRW.o _ Cr.o i (by omega);obtain⟨d0,d1,d1b⟩:=hc2;have d2:=iL Cr.o (i*3);have d3:=iL Cr.o (i*3+1);have d3b:=iL Cr.o (i*3+2);have hx2:=aO BX.o hb2 (aJ BX.o);obtain⟨d4,d5,d6⟩:=Ez hx2;clear hb2 hx2)
        go_roundw
        case rel =>
         refine⟨i+1,j+1,q.set i g,by go_num,by go_num,HKE.o (by trivial),?_,?_⟩
         · grind [Wn,fw,Hid.o]
         · exact(((HK.o.trans (aD.b9 (D:=fun b=>b=pb) gQ.o) (fun _ _ g=>g)).trans (aD.set (fun b=>b=pb) w2 (Ad pb (i*3)) _ rfl) (fun _ _ g=>g)).trans (aD.set (fun b=>b=pb) _ (Ad pb (i*3+1)) _ rfl) (fun _ _ g=>g)).trans (aD.set (fun b=>b=pb) _ (Ad pb (i*3+2)) _ rfl) (fun _ _ g=>g)
        grind [intOf]
     · obtain rfl:j=ps.length:=by omega
       have hql:=hf.len;have hdn:=hf.done;obtain⟨cur,hcz,hgc,hcs,hct⟩:∃cur:Array Value,cur.size=cap*3/\wr.heap[pb]?=some (.cells cur 174 (0,0))/\cap<=maxLen/\cur.toList.take (ps.length*3)=q.flatMap bG:=by
        rcases hrow.2 with⟨h0,_⟩ | ⟨g,cap',cur,hv,hb,hg,h1,h2,h3,h4⟩
        · omega
        grind
       have hcl:cur.toList.length=cap*3:=hcz;have amH:∀ty c,(Builtin.clear_ #[97] ty #[.slice (some (Ad pb (i*3))) (ps.length-i) c]).run Tryz.prog wr=.ok (.tuple #[]) (wr.setRow pb (splice cur.toList (i*3) (js [I 0,I 0,I 0] (ps.length-i))).toArray):=fun ty c=>LL (P:=Tryz.prog) wr 97 ty 174 (.agg #[I 0,I 0,I 0]) Tryz.underlying97 af7 (by decide) (by decide) pb (i*3) (ps.length-i) c cur.toList 174 (by omega) (by
        grind [Value.cells])
       obtain⟨S,hS⟩:=ex (splice cur.toList (i*3) (js [I 0,I 0,I 0] (ps.length-i)));rw[<- hS] at amH;have hSl:S.length=cap*3:=by
        grind [length_splice,mj]
       have hSt:S.take (i*3)=(eZ ps p).flatMap bG:=by
        rw[<- hdn,<- Ec,<- hct,List.take_take,UI (by omega),hS]
        grind [splice]
       have hol:(eZ ps p).length=i:=by grind
       have hg2:(wr.setRow pb S.toArray).heap[pb]?=some (.cells S.toArray 174 (0,0)):=tJ wr pb _ _ _ _ hgc;have dz:Hid (P (.returned (.slice (some (Ad pb 0)) i cap)) (wr.setRow pb S.toArray)):=HP.o _ _ ⟨_,rfl,by
        rw[hol,<- hSt];exact⟨by grind,.inr ⟨pb,cap,S.toArray,rfl,hlo,hg2,by omega,hcs,by omega,by simp⟩⟩,(Px.mono (fun b _ e=>by subst e;rfl)).trans (Ed wr pb S.toArray) (fun b _ e=>by subst e;rfl),fun b hb=>.inl hb⟩
       have hic:¬cap=i:=by omega
       have hin:(i:Int)<=(ps.length:Int):=by omega
       have avN:i<=cap:=by omega
       clear hf hrow Px HF HR HK hgc hct hdn hS hSl hSt hol hg2 hql hcz hcl HI2 HP HH HC;go_wp2_with (at_builtin;refine adv _ rfl _ 97 rfl _ rfl (amH _ _) ?_)
       exact dz.o
end Go.Proofs.YtlgoihmkgaaemaaGreat
