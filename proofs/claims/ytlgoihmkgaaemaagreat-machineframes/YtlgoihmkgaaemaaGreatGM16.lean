import Derived.Test.YtlgoihmkgaaemaaGreatGM15
set_option maxHeartbeats 20000000
set_option linter.unusedVariables false
set_option maxRecDepth 100000
set_option linter.unusedSimpArgs false
namespace Go.Proofs.YtlgoihmkgaaemaaGreat
open Go.RowKit
def fN (lo mb:Nat) (tt:TypeId) (X:List Value) (w:World) (S:gB) (v:Value) (k':aR) (e:Ending) (w':World):Prop:=e=.returned v/\∃S',bH lo mb tt X w' S' k'/\cI S w S' w'
def mM (lo mb:Nat) (tt:TypeId) (X:List Value) (w:World) (S:gB) (v:Value) (k':aR) (e:Ending) (w':World):Prop:=e=.returned v/\bH lo mb tt X w' S k'/\cI S w S w'
theorem DD {lo mb:Nat} {tt:TypeId} {X:List Value} (k:aR) (S:gB) (w:World) (e:bC) (d:Int) (h:bH lo mb tt X w S k) (h1:e.kind=1->0<=e.loc/\e.loc<(k.frames.length:Int)) (h2:e.kind≠1->0<=e.loc/\e.loc<(k.slots.length:Int)) (hd:d=1∨d=-1)
  (hr:(e.kind=1->-1000000<=(aD k.frames e.loc.toNat).refs/\(aD k.frames e.loc.toNat).refs<=1000000)/\(e.kind≠1->-1000000<=(bE k.slots e.loc.toNat).refs/\(bE k.slots e.loc.toNat).refs<=1000000)) :
  Calls Tryz.prog 270 #[.pointer (some (Ad mb 0)),sJ e,I d] w (mM lo mb tt X w S (.tuple #[]) (jW k e d)):=by
 obtain⟨pg,kd,lc⟩:=e;unfold sJ;simp only at h1 h2 hr ⊢;have gG:=ai ((aJ w.heap.size w).alloc (aH _) (.cells #[I pg,I kd,I lc] 174));have EB:=ai (bD w #[I pg,I kd,I lc] 174);have HM:=ai (h.below gG.o);have HC0:Hid (cI S w S (w.alloc (.cells #[I pg,I kd,I lc] 174))):=cI.below gG.o;by_cases c:kd=1
 · obtain⟨i,rfl⟩:∃i:Nat,lc=(i:Int):=⟨lc.toNat,by omega⟩;have hi:i<k.frames.length:=by omega
   obtain⟨fb,cF,A⟩:=HM.o.toKr.fr (by omega);have hrr:=hr.1 c;rw[lD] at hrr;have x1:=A.x1 i hi;have x0:=A.x0 i hi;have x2:=A.x2 i hi;have x3:=A.x3 i hi;have f0:=A.fz (i*4);have f1:=A.fz (i*4+1);have f2:=A.fz (i*4+2);have f3:=A.fz (i*4+3);have c1:=HM.o.c1;rw[A.v] at c1;have e0:(w.alloc (.cells #[I pg,I kd,I (i:Int)] 174)).cell? (Ad w.heap.size 1)=some (I kd):=aq EB.o 1 rfl;have e2:(w.alloc (.cells #[I pg,I kd,I (i:Int)] 174)).cell? (Ad w.heap.size 2)=some (I (i:Int)):=aq EB.o 2 rfl;have JL:(i:Int)<(k.frames.length:Int):=by omega
   have dm:Hid (∀V,(∃f,V=((w.alloc (.cells #[I pg,I kd,I (i:Int)] 174)).setCell (Ad fb (i*4+1)) (I ((aD k.frames i).refs+d))).drew/\f=aD k.frames i/\¬f.refs+d=0)∨(∃f,f=aD k.frames i/\f.refs+d=0/\V=((((((w.alloc (.cells #[I pg,I kd,I (i:Int)] 174)).setCell (Ad fb (i*4+1)) (I ((aD k.frames i).refs+d))).setCell (Ad fb (i*4)) (.string ⟨#[]⟩)).setCell (Ad fb (i*4+1)) (I 0)).setCell (Ad fb (i*4+2)) (.bool false)).setCell (Ad fb (i*4+3)) (.bool false)).drew)->mM lo mb tt X w S (.tuple #[]) (jW k ⟨pg,kd,(i:Int)⟩ d) (.returned (.tuple #[])) V):=fun V hV=>by
    have hk:jW k ⟨pg,kd,(i:Int)⟩ d={ k with frames:=k.frames.set i (G6 (aD k.frames i) d) }:=by
     grind [jW]
    rw[hk];have HD:=HM.o;have CD:=HC0.o;have hDr:∀V:World,Below V.heap.size V V.drew:=fun V=>(aJ _ _).drew
    have m1:=HD.LQ A.v hi (j:=1) (by omega) (f:=⟨(aD k.frames i).data,(aD k.frames i).refs+d,(aD k.frames i).jw,(aD k.frames i).seen⟩) (u:=I ((aD k.frames i).refs+d)) rfl;have ch1:=CD.trans (zK HD.toKr A.v (i:=i*4+1) (u:=I ((aD k.frames i).refs+d)));rcases hV with⟨f,rfl,rfl,hz⟩ | ⟨f,rfl,hz,rfl⟩
    · unfold G6;rw[au hz];exact⟨rfl,m1.below (hDr _),ch1.trans (cI.below (hDr _))⟩
    · unfold G6;rw[aB hz];have m2:=m1.aeC A.v (i:=i) (by grind) gM;simp only[pQ] at m2;exact⟨rfl,m2.1.below (hDr _),(ch1.trans m2.2).trans (cI.below (hDr _))⟩
   obtain⟨P,hP⟩:=ex (mM lo mb tt X w S (.tuple #[]) (jW k ⟨pg,kd,(i:Int)⟩ d));rw[<- hP] at dm ⊢;obtain⟨F,hF⟩:=ex (aD k.frames i);rw[<- hF] at x0 x1 x2 x3 hrr dm;obtain⟨n,hn⟩:=ex k.frames.length;rw[<- hn] at c1 JL;have kb:(kd==1)=true:=by grind
   have hw:IntKind.i64.wrap (F.refs+d)=F.refs+d:=ve _ (by omega);clear h1 h2 hr h hP hF hn HM HC0 A EB gG c hd hrr hi;by_cases z:F.refs+d=0
   · have zb:(F.refs+d==0)=true:=by grind
     have HZ:=ai z;clear z;go_enter Tryz.func270,Tryz.ntmps270;go_upto_region 2 with fail;go_region;go_wp2;refine bK (v:=.tuple #[]) (by simp[results]) rfl ?_
     grind [Hid.o]
   · have zb:(F.refs+d==0)=false:=by grind
     have HZ:=ai z;clear z;go_enter Tryz.func270,Tryz.ntmps270;go_upto_region 2 with fail;go_region;go_wp2;refine bK (v:=.tuple #[]) (by simp[results]) rfl ?_
     grind [Hid.o]
 · obtain⟨i,rfl⟩:∃i:Nat,lc=(i:Int):=⟨lc.toNat,by omega⟩;have hi:i<k.slots.length:=by omega
   obtain⟨fb,cF,A⟩:=HM.o.toKr.sl (by omega);have hrr:=hr.2 c;rw[lD] at hrr;have x1:=A.x1 i hi;have x0:=A.x0 i hi;have f0:=A.fz (i*2);have f1:=A.fz (i*2+1);have c1:=HM.o.c2;rw[A.v] at c1;have e0:(w.alloc (.cells #[I pg,I kd,I (i:Int)] 174)).cell? (Ad w.heap.size 1)=some (I kd):=aq EB.o 1 rfl;have e2:(w.alloc (.cells #[I pg,I kd,I (i:Int)] 174)).cell? (Ad w.heap.size 2)=some (I (i:Int)):=aq EB.o 2 rfl;have JL:(i:Int)<(k.slots.length:Int):=by omega
   have dm:Hid (∀V,(∃f,V=((w.alloc (.cells #[I pg,I kd,I (i:Int)] 174)).setCell (Ad fb (i*2+1)) (I ((bE k.slots i).refs+d))).drew/\f=bE k.slots i/\¬f.refs+d=0)∨(∃f,f=bE k.slots i/\f.refs+d=0/\V=((((w.alloc (.cells #[I pg,I kd,I (i:Int)] 174)).setCell (Ad fb (i*2+1)) (I ((bE k.slots i).refs+d))).setCell (Ad fb (i*2)) (.string ⟨#[]⟩)).setCell (Ad fb (i*2+1)) (I 0)).drew)->mM lo mb tt X w S (.tuple #[]) (jW k ⟨pg,kd,(i:Int)⟩ d) (.returned (.tuple #[])) V):=fun V hV=>by
    have hk:jW k ⟨pg,kd,(i:Int)⟩ d={ k with slots:=k.slots.set i (G5 (bE k.slots i) d) }:=by
     grind [jW]
    rw[hk];have HD:=HM.o;have CD:=HC0.o;have hDr:∀V:World,Below V.heap.size V V.drew:=fun V=>(aJ _ _).drew
    have m1:=HD.aez A.v hi (j:=1) (by omega) (f:=⟨(bE k.slots i).data,(bE k.slots i).refs+d⟩) (u:=I ((bE k.slots i).refs+d)) rfl;have ch1:=CD.trans (aa5 HD.toKr A.v (i:=i*2+1) (u:=I ((bE k.slots i).refs+d)));rcases hV with⟨f,rfl,rfl,hz⟩ | ⟨f,rfl,hz,rfl⟩
    · unfold G5;rw[au hz];exact⟨rfl,m1.below (hDr _),ch1.trans (cI.below (hDr _))⟩
    · unfold G5;rw[aB hz];have m2:=m1.akx A.v (i:=i) (by grind) nR;simp only[pQ] at m2;exact⟨rfl,m2.1.below (hDr _),(ch1.trans m2.2).trans (cI.below (hDr _))⟩
   obtain⟨P,hP⟩:=ex (mM lo mb tt X w S (.tuple #[]) (jW k ⟨pg,kd,(i:Int)⟩ d));rw[<- hP] at dm ⊢;obtain⟨F,hF⟩:=ex (bE k.slots i);rw[<- hF] at x0 x1 hrr dm;obtain⟨n,hn⟩:=ex k.slots.length;rw[<- hn] at c1 JL;have kb:(kd==1)=false:=by grind
   have hw:IntKind.i64.wrap (F.refs+d)=F.refs+d:=ve _ (by omega);clear h1 h2 hr h hP hF hn HM HC0 A EB gG c hd hrr hi;by_cases z:F.refs+d=0
   · have zb:(F.refs+d==0)=true:=by grind
     have HZ:=ai z;clear z;go_enter Tryz.func270,Tryz.ntmps270;go_upto_region 6 with fail;go_region;go_wp2;refine uZ (v:=.tuple #[]) (by simp[results]) rfl ?_
     grind [Hid.o]
   · have zb:(F.refs+d==0)=false:=by grind
     have HZ:=ai z;clear z;go_enter Tryz.func270,Tryz.ntmps270;go_upto_region 6 with fail;go_region;go_wp2;refine uZ (v:=.tuple #[]) (by simp[results]) rfl ?_
     grind [Hid.o]
open Go.RowKit
def lW (held:List Int) (k:aR) (i:Nat):aR:=if held.contains (i:Int) then k else { k with frames:=k.frames.set i (CI (aD k.frames i)) }
theorem Sn {lo mb:Nat} {tt:TypeId} {X:List Value} (k:aR) (S:gB) (w:World) (i:Nat) (held:List Int) (ah:Option Addr) (ch:Nat) (h:bH lo mb tt X w S k) (hi:i<k.frames.length) (hh:dW iz 1 0 w ah held) (hl:held.length<=1000000) :
  Calls Tryz.prog 296 #[.pointer (some (Ad mb 0)),I (i:Int),.slice ah held.length ch] w (mM lo mb tt X w S (.bool (held.contains (i:Int) || (aD k.frames i).seen)) (lW held k i)):=by
 obtain⟨fb,cF,A⟩:=h.toKr.fr (by omega);have HCO:=ai (wQ held (i:Int) ah ch w hh hl);have x3:=A.x3 i hi;have f3:=A.fz (i*4+3);have c1:=h.c1;rw[A.v] at c1;have JL:(i:Int)<(k.frames.length:Int):=by omega
 rw[<- List.contains_eq_mem] at HCO;cases hc:held.contains (i:Int) with
 | true =>
  have dm:Hid (mM lo mb tt X w S (.bool (true || (aD k.frames i).seen)) (lW held k i) (.returned (.bool true)) w):=⟨by simp,by grind [lW],cI.refl _ _⟩;rw[hc] at HCO;obtain⟨P,hP⟩:=ex (mM lo mb tt X w S (.bool (true || (aD k.frames i).seen)) (lW held k i));rw[<- hP] at dm ⊢;clear hP hc hh h A hi hl x3 f3 c1 JL;go_enter Tryz.func296,Tryz.ntmps296;go_wp2_with (go_at_call 282;refine HCO.o.mono ?_;rintro e w1 ⟨rfl,rfl⟩)
  exact dm.o
 | false =>
  have dm:Hid (mM lo mb tt X w S (.bool (false || (aD k.frames i).seen)) (lW held k i) (.returned (.bool (aD k.frames i).seen)) (w.setCell (Ad fb (i*4+3)) (.bool false))):=⟨by simp,by
   unfold lW;rw[au (by grind)];exact h.LQ A.v hi (j:=3) (by omega) rfl,zK h.toKr A.v⟩
  rw[hc] at HCO;obtain⟨P,hP⟩:=ex (mM lo mb tt X w S (.bool (false || (aD k.frames i).seen)) (lW held k i));rw[<- hP] at dm ⊢;obtain⟨F,hF⟩:=ex (aD k.frames i);rw[<- hF] at x3 dm;obtain⟨n,hn⟩:=ex k.frames.length;rw[<- hn] at c1 JL;clear hP hc hh h A hi hl hF hn;go_enter Tryz.func296,Tryz.ntmps296;go_wp2_with (go_at_call 282;refine HCO.o.mono ?_;rintro e w1 ⟨rfl,rfl⟩)
  exact dm.o
theorem Ez {lo mb:Nat} {tt:TypeId} {X:List Value} (k:aR) (S:gB) (w:World) (h:bH lo mb tt X w S k) (hh:0<=k.hand/\k.hand<k.frames.length) (hn:k.frames.length<=1000000) :
  Calls Tryz.prog 251 #[.pointer (some (Ad mb 0))] w (mM lo mb tt X w S (.tuple #[]) { k with hand:=jb k }):=by
 obtain⟨fb,cF,A⟩:=h.toKr.fr (by omega);have dm:Hid (∀x,x=jb k->mM lo mb tt X w S (.tuple #[]) { k with hand:=jb k } (.returned (.tuple #[])) (w.setCell (Ad mb 4) (I x)).drew):=fun x hx=>by
  rw[hx];have:=h.agD (jb k);exact⟨rfl,this.1.below (aJ _ _).drew,this.2.trans (cI.below (aJ _ _).drew)⟩
 have hm:(k.hand+1).tmod (k.frames.length:Int)=jb k:=by
  grind [jb]
 have c1:=h.c1;rw[A.v] at c1;have c4:=h.c4;have f4:=h.free 4;obtain⟨P,hP⟩:=ex (mM lo mb tt X w S (.tuple #[]) { k with hand:=jb k });rw[<- hP] at dm ⊢;obtain⟨NX,hNX⟩:=ex (jb k);rw[<- hNX] at dm hm;obtain⟨hd,hhd⟩:=ex k.hand;rw[<- hhd] at c4 hh hm;obtain⟨n,hne⟩:=ex k.frames.length;rw[<- hne] at c1 hh hm hn;have hw:IntKind.i64.wrap (hd+1)=hd+1:=ve _ (by omega);have hn0:¬(n:Int)=0:=by omega
 have hNb:-9223372036854775808<=NX/\NX<=9223372036854775807:=by
  have h1:0<=(hd+1).tmod (n:Int):=Int.tmod_nonneg _ (by omega);have h2:(hd+1).tmod (n:Int)<(n:Int):=Int.tmod_lt_of_pos _ (by omega);omega
 clear hP hNX hhd hne h A;go_enter Tryz.func251,Tryz.ntmps251;go_region
 all_goals go_wp2
 all_goals refine uZ (v:=.tuple #[]) (by simp[results]) rfl ?_
 grind [Hid.o]
open Go.RowKit
theorem kO (l:bC):(bw l).length=3:=rfl
theorem FT (w:World):(sizeOf 174).run Tryz.prog w=.ok 3 w:=by rfl
theorem afn (w:World):(zeroValue 174).run Tryz.prog w=.ok (.agg #[I 0,I 0,I 0]) w:=by rfl
def og (lo:Nat) (vp:Value) (l:List bC) (w:World) (e:Ending) (w':World):Prop:=∃v',e=.returned v'/\w'.ownsRow lo 174 3 v' l.length (l.flatMap bw)/\aC (bW vp) w w'/\(∀b,bW v' b->bW vp b∨w.heap.size<=b)
theorem yi {α:Type} {w:World} {lo:Nat} {e:TypeId} {k n:Nat} {ao:Option Addr} {cap:Nat} {xs:List Value} (h:w.ownsRow lo e k (.slice ao n cap) n xs):mO w ao n xs:=fun hm=>by
 rcases h.2 with⟨h0,h1⟩ | ⟨g,cap',cur,hv,_,hg,_,_,_,ht⟩
 · omega
 grind [Addr.add_lit,cell_of_row]
theorem SQ (lo:Nat) (ps zs:List bC) (ao az:Option Addr) (cap cz wz:Nat) (w:World) (h:w.ownsRow lo 174 3 (.slice ao ps.length cap) ps.length (ps.flatMap bw)) (hz:w.ownsRow wz 174 3 (.slice az zs.length cz) zs.length (zs.flatMap bw)) (hlo:lo<=w.heap.size) (hm:1<=zs.length) (hn:ps.length<=100000) (GU:zs.length<=100000) :
  Calls Tryz.prog 299 #[.slice ao ps.length cap,I (ps.length:Int),.slice az zs.length cz] w (og lo (.slice ao ps.length cap) (ps++zs) w):=by
 have HH:=ai h;have HF:=ai (yi (α:=Unit) hz);have HL:=ai (fT bw 3 kO zs);have H1:=ai (tF zs);obtain⟨_,_,e0,GV,_⟩:=bh h;injection e0 with e1 e2 e3;subst e3;obtain⟨n,hne⟩:=ex ps.length;obtain⟨m,hme⟩:=ex zs.length;have dm:Hid (∀v' (w':World),w'.ownsRow lo 174 3 v' (n+m) (ps.flatMap bw++zs.flatMap bw)->aC (bW (.slice ao n cap)) w w'->(∀b,bW v' b->bW (.slice ao n cap) b∨w.heap.size<=b)->og lo (.slice ao n cap) (ps++zs) w (.returned v') w'):=fun v' w' h1 h2 h3=>⟨v',rfl,by grind,h2,h3⟩
 rw[<- hne] at HH hn GV ⊢;rw[<- hme] at HF HL hm GU ⊢;obtain⟨P,hP⟩:=ex (og lo (.slice ao n cap) (ps++zs) w);rw[<- hP] at dm ⊢;obtain⟨XS,hXS⟩:=ex (ps.flatMap bw);obtain⟨ZS,hZS⟩:=ex (zs.flatMap bw);rw[<- hXS] at HH dm;rw[<- hZS] at HF HL H1 dm;obtain⟨i0,hin,hz0,hz1,hz2⟩:=jm Hc;have Ed:=ai hin;have Hh:=ai hz0;have FU:=ai hz1;have yH:=ai hz2;have hm0:((m:Int)==0)=false:=by grind
 clear h hz hne hme hP hXS hZS hin hz0 hz1 hz2 e1 e2;go_enter Tryz.func299,Tryz.ntmps299;go_wp2_with (at_builtin;refine fq (P:=Tryz.prog) rfl _ _ 97 rfl lo 174 i0 (.agg #[I 0,I 0,I 0]) 3 24 Tryz.underlying97 Ed.o Hh.o FU.o yH.o rfl (by decide) (.slice ao n cap) n XS rfl HH.o az m cz ZS rfl HL.o HF.o H1.o (by unfold maxLen;omega) (by omega) hlo ?_;intro v' w' hown hgr hat;have Hj:=ai hown;have HG2:=ai hgr;have EG:=ai hat;clear hown hgr hat)
 all_goals
  refine dm.o _ _ Hj.o (aC.grown HG2.o (fun _ e=>e)) (fun b hb=>?_);unfold bW at hb ⊢;rcases EG.o with e | e
  · grind
  grind
open Go.RowKit
theorem Ca {α:Type} (a b:List α) (n:Nat) (h:a.length=n):(a++b).take n=a:=by grind
theorem VS {α:Type} (R Y X:List α) (a b:Nat) (hb:b=a+Y.length) (h:b+X.length<=R.length):(splice (splice R a Y) b X).take (b+X.length)=R.take a++(Y++X):=by
 subst hb;have h1:(splice R a Y).take (a+Y.length)=R.take a++Y:=by
  unfold splice;rw[<- vk];exact Ca _ _ _ (by grind)
 unfold splice at h1 ⊢;rw[h1,<- vk,vk (R.take a) Y X];exact Ca _ _ _ (by rw[fD,vq,fD];omega)
theorem QL {α:Type} (R Y X:List α) (a b:Nat) (hb:b=a+Y.length) (h:b+X.length<=R.length):(splice (splice R b X) a Y).take (b+X.length)=R.take a++(Y++X):=by
 subst hb;have h1:(splice R (a+Y.length) X).take a=R.take a:=by
  grind [splice]
 have h2:(splice R (a+Y.length) X).drop (a+Y.length)=X++R.drop (a+Y.length+X.length):=by
  grind [splice]
 have h3:splice (splice R (a+Y.length) X) a Y=R.take a++(Y++(X++R.drop (a+Y.length+X.length))):=by
  rw[<- h2,<- h1];rfl
 rw[h3,<- vk,<- vk,vk (R.take a) Y X];exact Ca _ _ _ (by grind)
theorem K5 (ps:List bC) (i:Nat):(ps.flatMap bw).drop (i*3)=(ps.drop i).flatMap bw:=by
 induction ps generalizing i with
 | nil=>simp
 | cons a r ih =>
  cases i with
  | zero=>simp
  | succ i =>
   rw[nM,Ux,<- ih i,show(i+1)*3=i*3+3 by omega];rfl
theorem DY (ps:List bC) (i:Nat):(ps.flatMap bw).take (i*3)=(ps.take i).flatMap bw:=by
 induction ps generalizing i with
 | nil=>simp
 | cons a r ih =>
  cases i with
  | zero=>simp
  | succ i =>
   rw[nM,Uw,nM,<- ih i,show(i+1)*3=i*3+3 by omega];rfl
theorem DZ (w:World) (g:Nat) (cs:Array Value):aC (fun b=>b=g) w (w.setRow g cs):=⟨rfl,rfl,rfl,by simp_all,fun b _ hn=>setRow_other w g b cs hn⟩
theorem Oc (lo:Nat) (ps zs:List bC) (pb zb cap cz wz i:Nat) (w:World) (h:w.ownsRow lo 174 3 (.slice (some (Ad pb 0)) ps.length cap) ps.length (ps.flatMap bw)) (hz:w.ownsRow wz 174 3 (.slice (some (Ad zb 0)) zs.length cz) zs.length (zs.flatMap bw)) (hne:zb≠pb) (hi:i<ps.length) (hm:1<=zs.length) (hn:ps.length<=100000) (GU:zs.length<=100000) (hroom:ps.length+zs.length<=cap) :
  Calls Tryz.prog 299 #[.slice (some (Ad pb 0)) ps.length cap,I (i:Int),.slice (some (Ad zb 0)) zs.length cz] w (og lo (.slice (some (Ad pb 0)) ps.length cap) (ps.take i++(zs++ps.drop i)) w):=by
 have HFZ:=ai (yi (α:=Unit) hz);have Ha:=ai (yi (α:=Unit) h);have H1:=ai (tF zs);have H1P:=ai (tF ps);obtain⟨cur,hcz,hgc,hcs,hct,hlo,hcm⟩:∃cur:Array Value,cur.size=cap*3/\w.heap[pb]?=some (.cells cur 174 (0,0))/\cap<=maxLen/\cur.toList.take (ps.length*3)=ps.flatMap bw/\lo<=pb/\ps.length<=cap:=by
  rcases h.2 with⟨h0,_⟩ | ⟨g,cap',cur,hv,hb,hg,h1,h2,h3,h4⟩
  · cases h0
  grind
 obtain⟨aey,hzg,anS⟩:∃aey:Array Value,w.heap[zb]?=some (.cells aey 174 (0,0))/\0<aey.size:=by
  rcases hz.2 with⟨h0,_⟩ | ⟨g,cap',zc,hv,hb,hg,h1,h2,h3,h4⟩
  · cases h0
  grind
 have hlx:=fT bw 3 kO ps;have hlz:=fT bw 3 kO zs;obtain⟨R,hR⟩:=ex cur.toList;have hRl:R.length=cap*3:=by grind
 have hRg:w.heap[pb]?=some (.cells R.toArray 174 (0,0)):=by rw[hR];omega
 rw[<- hR] at hct;obtain⟨n,XE⟩:=ex ps.length;obtain⟨m,hme⟩:=ex zs.length;obtain⟨XS,hXS⟩:=ex (ps.flatMap bw);obtain⟨ZS,hZS⟩:=ex (zs.flatMap bw);rw[<- hZS] at HFZ H1 hlz;rw[<- hXS] at Ha hlx hct H1P;rw[<- hme] at HFZ hlz hm GU hroom ⊢;rw[<- XE] at Ha hlx hct hi hn hroom hcm ⊢;obtain⟨DS,hDS⟩:=ex (XS.drop (i*3));have hDl:DS.length=(n-i)*3:=by grind
 obtain⟨R1,IV⟩:=ex (splice R ((i+m)*3) DS);have ai8:R1.length=cap*3:=by rw[IV,length_splice _ _ _ (by omega)];exact hRl
 obtain⟨R2,UJ⟩:=ex (splice R1 (i*3) ZS);have aeX:R2.length=cap*3:=by rw[UJ,length_splice _ _ _ (by omega)];omega
 have aeW:R2.take ((n+m)*3)=XS.take (i*3)++(ZS++DS):=by
  have:=QL R ZS DS (i*3) ((i+m)*3) (by omega) (by omega)
  grind
 have aeR:∀ty dc sc,(Builtin.copy_ #[97,97] ty #[.slice (some (Ad pb ((i+m)*3))) (n+m-(i+m)) dc,.slice (some (Ad pb (i*3))) (n+m-i) sc]).run Tryz.prog w.drew=.ok (goInt (n-i)) (w.drew.setRow pb R1.toArray):=fun ty dc sc=>by
  have:=tQ (P:=Tryz.prog) w.drew 97 97 ty 174 3 Tryz.underlying97 FT pb ((i+m)*3) (n+m-(i+m)) dc (some (Ad pb (i*3))) (n+m-i) sc R 174 hRg DS (by grind) (fun _=>⟨_,rfl,fun j u hu=>by
   obtain⟨ad,e,hc⟩:=Ha.o (by omega);injection e with e;subst e;have:=hc (i*3+j) u (by rw[hDS,Uv] at hu;exact hu);rw[tA] at this ⊢;rw[lO] at this;exact this⟩) (by omega) (fun u hu=>H1P.o u (by rw[hDS] at hu;exact Uz hu))
  rw[this,<- IV];congr 2;simp only[C2];split <;> omega
 have hg1:(w.drew.setRow pb R1.toArray).heap[pb]?=some (.cells R1.toArray 174 (0,0)):=tu w.drew pb _ _ _ _ hRg;obtain⟨W1,hW1⟩:=ex (w.drew.setRow pb R1.toArray);rw[<- hW1] at aeR hg1;have kp1:aC (fun b=>b=pb) w W1:=by rw[hW1];exact(aC.drew _ w).trans (DZ w.drew pb R1.toArray) (fun _ _ g=>g)
 have ai0:∀ty dc,(Builtin.copy_ #[97,97] ty #[.slice (some (Ad pb (i*3))) (n+m-i) dc,.slice (some (Ad zb 0)) m cz]).run Tryz.prog W1=.ok (goInt m) (W1.setRow pb R2.toArray):=fun ty dc=>by
  have:=tQ (P:=Tryz.prog) W1 97 97 ty 174 3 Tryz.underlying97 FT pb (i*3) (n+m-i) dc (some (Ad zb 0)) m cz R1 174 hg1 ZS (by rw[hlz];simp only[C2];split <;> omega) (fun _=>⟨_,rfl,fun j u hu=>by
   obtain⟨ad,e,hc⟩:=HFZ.o (by omega);injection e with e;subst e;have:=hc j u hu;exact kp1.cell this (by rw[tA];exact hne)⟩) (by omega) H1.o
  rw[this,<- UJ];congr 2;simp only[C2];split <;> omega
 have hg2:(W1.setRow pb R2.toArray).heap[pb]?=some (.cells R2.toArray 174 (0,0)):=tu W1 pb _ _ _ _ hg1;have dm:Hid (og lo (.slice (some (Ad pb 0)) n cap) (ps.take i++(zs++ps.drop i)) w (.returned (.slice (some (Ad pb 0)) (n+m) cap)) (W1.setRow pb R2.toArray)):=by
  have hl:(ps.take i++(zs++ps.drop i)).length=n+m:=by rw[fD,fD,vq,JE,<- XE,<- hme];omega
  refine⟨_,rfl,?_,(kp1.trans (DZ W1 pb _) (fun _ _ g=>g)).mono (fun b _ e=>by rw[e];rfl),fun b hb=>.inl hb⟩;rw[hl];have hx:(ps.take i++(zs++ps.drop i)).flatMap bw=R2.take ((n+m)*3):=by
   rw[aeW,hXS,hZS,hDS,hXS,DY,K5,xw,xw]
  rw[hx];exact⟨by rw[vq,aeX];omega,.inr ⟨pb,cap,R2.toArray,rfl,hlo,hg2,hroom,hcs,by omega,by simp⟩⟩
 obtain⟨P,hP⟩:=ex (og lo (.slice (some (Ad pb 0)) n cap) (ps.take i++(zs++ps.drop i)) w);rw[<- hP] at dm ⊢;have hov:∀lb cb,(callFunc 303 #[.slice (some (Ad zb 0)) m cz,.slice (some (Ad pb ((i+m)*3))) lb cb]).run Tryz.prog w=.ok (.value (.bool false)) w:=fun lb cb=>by
  rw[run_callFunc_extern Tryz.func303 (by kernel_rfl) (by kernel_rfl) (by kernel_rfl) (e:=Extern.SlicesOverlaps.overlaps #[97,97] #[4]) (by kernel_rfl),
   Lib.run_overlaps_apart w 97 4 174 Tryz.underlying97 3 FT (Ad zb 0) (Ad pb ((i+m)*3)) m cz lb cb hne 174 174 aey.size cur.size (by simp[World.shape?,hzg]) (by simp[World.shape?,hgc]) (by omega) (aQ hzg 0) (aQ hzg aey.size)]
  rfl
 have hm0:((m:Int)==0)=false:=by rw[lG];omega
 have hi0:((i:Int)==(n:Int))=false:=by rw[lG];omega
 have hw1:IntKind.i64.wrap ((i:Int)+(m:Int))=(i:Int)+(m:Int):=ve _ (by omega);have hb1:(0:Int)<=(i:Int)+(m:Int):=by omega
 have hin:i<=n:=by omega
 have htn:((i:Int)+(m:Int)).toNat=i+m:=by omega
 have hb2:¬(cap=i+m):=by omega
 have hb3:(i:Int)<=(n:Int)+(m:Int):=by omega
 have hb4:¬(cap=i):=by omega
 have hr2:¬((cap:Int)<(n:Int)+(m:Int)):=by omega
 have aoG:cap<=9223372036854775807:=by unfold maxLen at hcs;omega
 clear h hz XE hme hXS hZS hDS hDl IV UJ hW1 hR hRl hRg ai8 aeX aeW hlx hlz hct hgc hcz hzg anS hP hg1 hg2 kp1 HFZ Ha H1 H1P hcs;go_enter Tryz.func299,Tryz.ntmps299;go_wp2_with (simp only[hov])
 go_region_law (refine RP rfl _ _ 97 97 rfl _ _ (by simp[Act.eval,Act.put]) (by simp[Act.eval,Act.put]) (aeR _ _ _) ?_)
 go_wp2_with (at_builtin;refine NT _ rfl _ _ 97 97 rfl _ _ rfl rfl (ai0 _ _) ?_)
 exact dm.o
open Go.RowKit
theorem QM (lo:Nat) (ps zs:List bC) (pb zb cap cz wz i:Nat) (w:World) (h:w.ownsRow lo 174 3 (.slice (some (Ad pb 0)) ps.length cap) ps.length (ps.flatMap bw)) (hz:w.ownsRow wz 174 3 (.slice (some (Ad zb 0)) zs.length cz) zs.length (zs.flatMap bw)) (hlo:lo<=w.heap.size) (hi:i<ps.length) (hm:1<=zs.length) (hn:ps.length<=100000) (GU:zs.length<=100000) (hroom:cap<ps.length+zs.length) :
  Calls Tryz.prog 299 #[.slice (some (Ad pb 0)) ps.length cap,I (i:Int),.slice (some (Ad zb 0)) zs.length cz] w (og lo (.slice (some (Ad pb 0)) ps.length cap) (ps.take i++(zs++ps.drop i)) w):=by
 have HFZ:=ai (yi (α:=Unit) hz);have Ha:=ai (yi (α:=Unit) h);have H1:=ai (tF zs);have H1P:=ai (tF ps);have hpb:pb<w.heap.size:=(h.lt pb rfl).2;have hzb:zb<w.heap.size:=(hz.lt zb rfl).2;have hcm:ps.length<=cap:=by
  grind [bh]
 have hlx:=fT bw 3 kO ps;have hlz:=fT bw 3 kO zs;obtain⟨n,XE⟩:=ex ps.length;obtain⟨m,hme⟩:=ex zs.length;obtain⟨XS,hXS⟩:=ex (ps.flatMap bw);obtain⟨ZS,hZS⟩:=ex (zs.flatMap bw);rw[<- hZS] at HFZ H1 hlz;rw[<- hXS] at Ha hlx H1P;rw[<- hme] at HFZ hlz hm GU hroom ⊢;rw[<- XE] at Ha hlx hi hn hroom hcm ⊢;obtain⟨i0,hin,hz0,hz1,hz2⟩:=jm Hc;have hold:(Builtin.firstCells i0.size i (.slice (some (Ad pb 0)) i cap)).run Tryz.prog w.drew=.ok (XS.take (i*3)).toArray w.drew:=by
  rw[hz1];exact agK w.drew 3 i (Ad pb 0) i cap (XS.take (i*3)) (by grind) (fun j u hu=>by
   rw[List.getElem?_take] at hu;split at hu
   · obtain⟨ad,e,hc⟩:=Ha.o (by omega);injection e with e;subst e;exact hc j u hu
   grind)
 have hik:i+(n+m-i)=n+m:=by omega
 have hkk:(n:Int)+(m:Int)-(i:Int)=((n+m-i:Nat):Int):=by omega
 obtain⟨G,hG⟩:=ex (grownCap w (n+m) cap 174);obtain⟨R,hR⟩:∃R:List Value,R=XS.take (i*3)++jk [I 0,I 0,I 0] (n+m-i)++jk [I 0,I 0,I 0] (G-(n+m)):=⟨_,rfl⟩;have hGn:n+m<=G:=by rw[hG];exact grownCap_ge w _ _ _
 have ajb:G<=maxLen:=by rw[hG];exact grownCap_le_maxLen w (n+m) cap _ (by unfold maxLen;omega)
 have hRl:R.length=G*3:=by
  rw[hR,fD,fD,l9,l9,vq,hlx]
  grind
 have hRt:R.take (i*3)=XS.take (i*3):=by
  grind
 have hrz:∀ty,(Builtin.append_ #[97,3] ty #[.slice (some (Ad pb 0)) i cap,I ((n:Int)+(m:Int)-(i:Int))]).run Tryz.prog w=.ok (.slice (some (Ad w.heap.size 0)) (n+m) G) (w.drew.alloc (.cells R.toArray 174)):=fun ty=>by
  have h:=Lib.run_append_grow_zeros (P:=Tryz.prog) w 97 3 ty 174 i0 _ .i64 .i64 Tryz.underlying97 Tryz.underlying3 hin hz0 (some (Ad pb 0)) i cap (XS.take (i*3)) hold (n+m-i) (by omega) (by omega) (by omega) (by omega) (by grind) (by rw[hz2,hik];exact growslice_fits hroom (by omega));rw[hik,<- hG] at h;rw[hkk,h];congr 3;rw[hR];have e1:=Cg (Value.cells (.agg #[I 0,I 0,I 0])) (n+m-i) (by decide);have e2:=Cg (Value.cells (.agg #[I 0,I 0,I 0])) (G-(n+m)) (by decide);apply Array.toList_inj.1;rw[Array.toList_append,Array.toList_append,e1,e2];rfl
 have hg0:(w.drew.alloc (.cells R.toArray 174)).heap[w.heap.size]?=some (.cells R.toArray 174 (0,0)):=bD w.drew _ _;obtain⟨W0,hW0⟩:=ex (w.drew.alloc (.cells R.toArray 174));rw[<- hW0] at hrz hg0;have kp0:Below w.heap.size w W0:=by rw[hW0];exact(aJ _ _).drew.alloc (aH _) _
 obtain⟨H,hH⟩:=ex w.heap.size;rw[<- hH] at hrz hg0 hlo;obtain⟨DS,hDS⟩:=ex (XS.drop (i*3));have hDl:DS.length=(n-i)*3:=by rw[hDS,JE,hlx];omega
 obtain⟨R1,IV⟩:=ex (splice R (i*3) ZS);have ai8:R1.length=G*3:=by rw[IV,length_splice _ _ _ (by omega)];exact hRl
 obtain⟨R2,UJ⟩:=ex (splice R1 ((i+m)*3) DS);have aeX:R2.length=G*3:=by rw[UJ,length_splice _ _ _ (by omega)];omega
 have aeW:R2.take ((n+m)*3)=XS.take (i*3)++(ZS++DS):=by
  have:=VS R ZS DS (i*3) ((i+m)*3) (by omega) (by omega);rw[<- IV,<- UJ,hDl,show(i+m)*3+(n-i)*3=(n+m)*3 by omega] at this;rw[this,hRt]
 have aeR:∀ty dc,(Builtin.copy_ #[97,97] ty #[.slice (some (Ad H (i*3))) (n+m-i) dc,.slice (some (Ad zb 0)) m cz]).run Tryz.prog W0=.ok (goInt m) (W0.setRow H R1.toArray):=fun ty dc=>by
  have:=tQ (P:=Tryz.prog) W0 97 97 ty 174 3 Tryz.underlying97 FT H (i*3) (n+m-i) dc (some (Ad zb 0)) m cz R 174 hg0 ZS (by rw[hlz];simp only[C2];split <;> omega) (fun _=>⟨_,rfl,fun j u hu=>by
   obtain⟨ad,e,hc⟩:=HFZ.o (by omega);injection e with e;subst e;have:=hc j u hu;rw[tA] at this ⊢;exact(kp0.cell (p:=(Ad zb (0+j))) hzb).trans this⟩) (by omega) H1.o
  rw[this,<- IV];congr 2;simp only[C2];split <;> omega
 have hg1:(W0.setRow H R1.toArray).heap[H]?=some (.cells R1.toArray 174 (0,0)):=tu W0 H _ _ _ _ hg0;obtain⟨W1,hW1⟩:=ex (W0.setRow H R1.toArray);rw[<- hW1] at aeR hg1;have kp1:Below w.heap.size w W1:=by rw[hW1];exact below_setRow kp0 (by omega) _
 have ai0:∀ty dc sc,(Builtin.copy_ #[97,97] ty #[.slice (some (Ad H ((i+m)*3))) (n+m-(i+m)) dc,.slice (some (Ad pb (i*3))) (n-i) sc]).run Tryz.prog W1.drew=.ok (goInt (n-i)) (W1.drew.setRow H R2.toArray):=fun ty dc sc=>by
  have:=tQ (P:=Tryz.prog) W1.drew 97 97 ty 174 3 Tryz.underlying97 FT H ((i+m)*3) (n+m-(i+m)) dc (some (Ad pb (i*3))) (n-i) sc R1 174 hg1 DS (by rw[hDl];simp only[C2];split <;> omega) (fun _=>⟨_,rfl,fun j u hu=>by
   obtain⟨ad,e,hc⟩:=Ha.o (by omega);injection e with e;subst e;have:=hc (i*3+j) u (by rw[hDS,Uv] at hu;exact hu);rw[tA] at this ⊢;rw[lO] at this;exact(kp1.cell (p:=(Ad pb (i*3+j))) hpb).trans this⟩) (by omega) (fun u hu=>H1P.o u (by rw[hDS] at hu;exact Uz hu))
  rw[this,<- UJ];congr 2;simp only[C2];split <;> omega
 have hg2:(W1.drew.setRow H R2.toArray).heap[H]?=some (.cells R2.toArray 174 (0,0)):=tu W1.drew H _ _ _ _ hg1;have kp2:Below w.heap.size w (W1.drew.setRow H R2.toArray):=below_setRow kp1.drew (by omega) _;have dm:Hid (og lo (.slice (some (Ad pb 0)) n cap) (ps.take i++(zs++ps.drop i)) w (.returned (.slice (some (Ad H 0)) (n+m) G)) (W1.drew.setRow H R2.toArray)):=by
  have hl:(ps.take i++(zs++ps.drop i)).length=n+m:=by rw[fD,fD,vq,JE,<- XE,<- hme];omega
  refine⟨_,rfl,?_,aC.bY kp2,fun b hb=>.inr (by have:some H=some b:=hb;injection this;omega)⟩;rw[hl];have hx:(ps.take i++(zs++ps.drop i)).flatMap bw=R2.take ((n+m)*3):=by
   rw[aeW,hXS,hZS,hDS,hXS,DY,K5,xw,xw]
  rw[hx];exact⟨by rw[vq,aeX];omega,.inr ⟨H,G,R2.toArray,rfl,hlo,hg2,hGn,ajb,by omega,by simp⟩⟩
 obtain⟨P,hP⟩:=ex (og lo (.slice (some (Ad pb 0)) n cap) (ps.take i++(zs++ps.drop i)) w);rw[<- hP] at dm ⊢;have hm0:((m:Int)==0)=false:=by rw[lG];omega
 have auM:((i:Int)==(n:Int))=false:=by rw[lG];omega
 have hw1:IntKind.i64.wrap ((i:Int)+(m:Int))=(i:Int)+(m:Int):=ve _ (by omega);have hb1:(0:Int)<=(i:Int)+(m:Int):=by omega
 have htn:((i:Int)+(m:Int)).toNat=i+m:=by omega
 have hb2:¬(G=i+m):=by omega
 have hb3:(i:Int)<=(n:Int):=by omega
 have hb4:¬(cap=i):=by omega
 have LV:¬(G=i):=by omega
 have hr2:(cap:Int)<(n:Int)+(m:Int):=by omega
 have aoG:G<=9223372036854775807:=by unfold maxLen at ajb;omega
 clear h hz XE hme hXS hZS hDS hDl IV UJ hW1 hW0 hR hRl hRt ai8 aeX aeW hlx hlz hP hg0 hg1 hg2 kp0 kp1 kp2 HFZ Ha H1 H1P ajb hG hH hold hin hz0 hz1 hz2 hik hkk;go_enter Tryz.func299,Tryz.ntmps299;go_wp2_with (first
  | (at_builtin;refine Lib.wpList_append_run _ rfl _ _ _ _ rfl _ _ rfl rfl _ _ (hrz _) ?_)
  | (at_builtin;refine NT _ rfl _ _ 97 97 rfl _ _ rfl rfl (aeR _ _) ?_))
 go_region_law (refine RP rfl _ _ 97 97 rfl _ _ (by simp[Act.eval,Act.put]) (by simp[Act.eval,Act.put]) (ai0 _ _ _) ?_)
 go_wp2;exact dm.o
theorem SS (lo:Nat) (ps zs:List bC) (vp vz:Value) (wz i:Nat) (w:World) (h:w.ownsRow lo 174 3 vp ps.length (ps.flatMap bw)) (hz:w.ownsRow wz 174 3 vz zs.length (zs.flatMap bw)) (hlo:lo<=w.heap.size) (hne:∀b,bW vz b->¬bW vp b) (hi:i<=ps.length) (hm:1<=zs.length) (hn:ps.length<=100000) (GU:zs.length<=100000) :
  Calls Tryz.prog 299 #[vp,I (i:Int),vz] w (og lo vp (ps.take i++(zs++ps.drop i)) w):=by
 obtain⟨ao,cap,rfl,GV,hg⟩:=bh h;obtain⟨az,cz,rfl,_,hgz⟩:=bh hz;by_cases c:i=ps.length
 · subst c;have e:ps.take ps.length++(zs++ps.drop ps.length)=ps++zs:=by grind
   rw[e];exact SQ lo ps zs ao az cap cz wz w h hz hlo hm hn GU
 · obtain⟨pb,rfl,_,_⟩:=hg (by omega);obtain⟨zb,rfl,_,_⟩:=hgz (by omega);by_cases d:ps.length+zs.length<=cap
   · exact Oc lo ps zs pb zb cap cz wz i w h hz (fun e=>hne zb rfl (by rw[e];rfl)) (by omega) hm hn GU d
   · exact QM lo ps zs pb zb cap cz wz i w h hz hlo (by omega) hm hn GU (by omega)
open Go.RowKit
theorem T8 (l:List bC) (i:Nat) (h:i<l.length):l[i]?=some (aV l i):=by
 grind [aV]
structure uO (p:bC->Bool) (ps q:List bC) (i j:Nat):Prop where
 len:q.length=ps.length
 lt:i<j
 le:j<=ps.length
 front:q.take i=(ps.take j).filter (fun g=>!p g)
 back:q.drop j=ps.drop j
theorem za (l:List bC) (j:Nat) (h:j<l.length):l.take (j+1)=l.take j++[aV l j]:=by
 grind [List.take_add_one,T8]
theorem uO.start {p:bC->Bool} {ps:List bC} {i:Nat} (hi:i<ps.length) (hg:p (aV ps i)=true) (hno:∀j,j<i->p (aV ps j)=false):uO p ps ps i (i+1):=by
 refine⟨rfl,by omega,hi,?_,rfl⟩;have:∀k,k<=i->(ps.take k).filter (fun g=>!p g)=ps.take k:=fun k=>by
  induction k with
  | zero=>grind
  | succ k ih =>
   grind [za]
 grind [za]
theorem uO.at {p:bC->Bool} {ps q:List bC} {i j:Nat} (h:uO p ps q i j) (hj:j<ps.length):aV q j=aV ps j:=by
 have e:(q.drop j)[0]?=(ps.drop j)[0]?:=by rw[h.back]
 grind [T8]
theorem uO.skip {p:bC->Bool} {ps q:List bC} {i j:Nat} (h:uO p ps q i j) (hj:j<ps.length) (hg:p (aV ps j)=true):uO p ps q i (j+1):=by
 refine⟨h.len,by have:=h.lt;omega,hj,?_,?_⟩
 · grind [za,front]
 · rw[<- OH,<- OH,h.back]
theorem uO.keep {p:bC->Bool} {ps q:List bC} {i j:Nat} (h:uO p ps q i j) (hj:j<ps.length) (hg:p (aV ps j)=false):uO p ps (q.set i (aV ps j)) (i+1) (j+1):=by
 have hlt:=h.lt;have hln:=h.len;refine⟨by grind,by omega,hj,?_,?_⟩
 · grind [za,List.take_set,List.set_eq_of_length_le,List.length_take,front]
 · rw[List.drop_set_of_lt (by omega),<- OH,<- OH,h.back]
theorem uO.done {p:bC->Bool} {ps q:List bC} {i:Nat} (h:uO p ps q i ps.length):q.take i=eQ ps p:=by
 rw[h.front,vh];rfl
theorem VT (q:List bC) (i:Nat) (g:bC) (hi:i<q.length):(q.set i g).flatMap bw=(((q.flatMap bw).set (i*3) (I g.page)).set (i*3+1) (I g.kind)).set (i*3+2) (I g.loc):=by
 have h1:=kE bw 3 kO gY ⟨g.page,(aV q i).kind,(aV q i).loc⟩ 0 (I g.page) (by omega) q i hi rfl;have h2:=kE bw 3 kO gY ⟨g.page,g.kind,(aV q i).loc⟩ 1 (I g.kind) (by omega) (q.set i ⟨g.page,(aV q i).kind,(aV q i).loc⟩) i (by grind) (by
  rw[fy,O6 hi];rfl)
 rw[pQ,h1] at h2;have h3:=kE bw 3 kO gY g 2 (I g.loc) (by omega) (q.set i ⟨g.page,g.kind,(aV q i).loc⟩) i (by grind) (by
  rw[fy,O6 hi];rfl)
 simp_all
theorem YR {ps:List bC} {p:bC->Bool} (h:∀j,j<ps.length->p (aV ps j)=false):eQ ps p=ps:=by
 unfold eQ;rw[List.filter_eq_self];intro g hg;obtain⟨k,hk,rfl⟩:=lu gY hg
 grind [aV]
theorem abb (F:FuncId) (E:List Value) (x:Nat) (hFE:(F=300/\E=[.pointer (some (Ad x 0))])∨(F=285/\E=[.pointer (some (Ad x 0))])∨(F=269/\E=[])) (P:bC->Bool) (es:List bC) (ao:Option Addr) (cap:Nat) (w:World) (h:dW bw 3 gY w ao es) (hl:es.length<=1000000)
  (hC:∀V e,Below w.heap.size w V->Calls Tryz.prog F (Value.agg #[I e.page,I e.kind,I e.loc]::E).toArray V fun r w'=>r=.returned (.bool (P e))/\Below V.heap.size V w') :
  Calls Tryz.prog 186 #[.slice ao es.length cap,.func (.func F) #[] E.toArray] w fun e w' =>
   Below w.heap.size w w'/\((e=.returned (I (-1))/\∀j,j<es.length->P (aV es j)=false)∨∃i:Nat,i<es.length/\e=.returned (I (i:Int))/\P (aV es i)=true/\∀j,j<i->P (aV es j)=false):=by
 have HH:=ai h;have HC:=ai hC;clear h hC;rcases hFE with⟨rfl,rfl⟩ | ⟨rfl,rfl⟩ | ⟨rfl,rfl⟩
 all_goals
  go_enter Tryz.func186,Tryz.ntmps186;go_wp2;go_loopw [8] (fun iv wr=>∃k:Nat,k<=es.length/\iv=I (k:Int)/\(∀j,j<k->P (aV es j)=false)/\Below w.heap.size w wr) (fun iv _=>es.length-(intOf iv).toNat)
  case atStart=>grind [Below.refl]
  case round =>
   obtain⟨k,hk,rfl,hno,hb⟩:=hrel;have uP:=ai hno;have HB:=ai hb;clear hno;by_cases hlt:k<es.length
   · have JL:(k:Int)<(es.length:Int):=by omega
     obtain⟨eb,eo,hao,hbl,eX⟩:=HH.o (by omega);subst hao;have y0:=(hb.cell (p:=(Ad eb (eo+k*3+0))) hbl).trans (eX k hlt 0 (by omega));have y1:=(hb.cell (p:=(Ad eb (eo+k*3+1))) hbl).trans (eX k hlt 1 (by omega));have y2:=(hb.cell (p:=(Ad eb (eo+k*3+2))) hbl).trans (eX k hlt 2 (by omega));rw[mA] at y0;have yA:=ai (HC.o wr (aV es k) hb);obtain⟨G,hG⟩:=ex (P (aV es k));rw[<- hG] at yA;have HG:=ai hG;obtain⟨E,hE⟩:=ex (aV es k);have x0:wr.cell? (Ad eb (eo+k*3))=some (I E.page):=by rw[hE];exact y0
     have x1:wr.cell? (Ad eb (eo+k*3+1))=some (I E.kind):=by rw[hE];exact y1
     have x2:wr.cell? (Ad eb (eo+k*3+2))=some (I E.loc):=by rw[hE];exact y2
     rw[<- hE] at yA;clear hG hE hb y0 y1 y2 eX;cases G with
     | true =>
      go_wp2_with ((first | go_at_call 300 | go_at_call 285 | go_at_call 269);refine yA.o.mono ?_;rintro e w1 ⟨rfl,hb1⟩;have cM:=ai (HB.o.trans (hb1.mono HB.o.size));clear hb1)
      go_ret;exact⟨cM.o,.inr ⟨k,hlt,rfl,HG.o.symm,uP.o⟩⟩
     | false =>
      go_wp2_with ((first | go_at_call 300 | go_at_call 285 | go_at_call 269);refine yA.o.mono ?_;rintro e w1 ⟨rfl,hb1⟩;have cM:=ai (HB.o.trans (hb1.mono HB.o.size));clear hb1)
      grind [intOf,Hid.o]
   · obtain rfl:k=es.length:=by omega
     clear hb;go_wp2;go_ret;exact⟨HB.o,.inl ⟨rfl,uP.o⟩⟩
theorem YS {lo:Nat} {es:List bC} {ao:Option Addr} {cap:Nat} {w:World} (h:w.ownsRow lo 174 3 (.slice ao es.length cap) es.length (es.flatMap bw)):dW bw 3 gY w ao es:=by
 obtain⟨a,c,e,_,hr⟩:=ov bw (fun _=>rfl) gY h
 grind
theorem SU (F:FuncId) (E:List Value) (x:Nat) (hFE:(F=300/\E=[.pointer (some (Ad x 0))])∨(F=285/\E=[.pointer (some (Ad x 0))])∨(F=269/\E=[])) (lo:Nat) (ps:List bC) (p:bC->Bool) (vp:Value) (w:World) (h:w.ownsRow lo 174 3 vp ps.length (ps.flatMap bw)) (hC:∀V e,aC (bW vp) w V->Calls Tryz.prog F (Value.agg #[I e.page,I e.kind,I e.loc]::E).toArray V fun r w'=>r=.returned (.bool (p e))/\Below V.heap.size V w') (hl:ps.length<=100000) :
  Calls Tryz.prog 281 #[vp,.func (.func F) #[] E.toArray] w (og lo vp (eQ ps p) w):=by
 obtain⟨ao,cap,rfl,hcm,hgo⟩:=bh h;have Uc:=ai (abb F E x hFE p ps ao cap w (YS h) (by omega) (fun V e hV=>hC V e (aC.bY hV)));have HH:=ai h;have HC:=ai hC;obtain⟨P,hP⟩:=ex (og lo (.slice ao ps.length cap) (eQ ps p) w);have HP:Hid (∀e w',og lo (.slice ao ps.length cap) (eQ ps p) w e w'->P e w'):=fun e w' h=>by simp_all
 rw[<- hP];have HGO:=ai hgo;clear h hC hP hgo;by_cases hall:∀j,j<ps.length->p (aV ps j)=false
 · have Z9:Hid (Calls Tryz.prog 186 #[.slice ao ps.length cap,.func (.func F) #[] E.toArray] w fun e w'=>e=.returned (I (-1))/\Below w.heap.size w w'):=Uc.o.mono fun e w' ⟨hb,hh⟩=>by
    grind
   have Xr:=ai (YR hall);clear hall Uc;rcases hFE with⟨rfl,rfl⟩ | ⟨rfl,rfl⟩ | ⟨rfl,rfl⟩
   all_goals
    go_enter Tryz.func281,Tryz.ntmps281;go_wp2_with (go_at_call 186;refine Z9.o.mono ?_;rintro e w1 ⟨rfl,hb1⟩;have cM:=ai hb1;clear hb1)
    exact HP.o _ _ ⟨_,rfl,by rw[Xr.o];exact aC.row (aC.bY (D:=fun _=>False) cM.o) HH.o (fun _ _ g=>g),aC.bY cM.o,fun b hb=>.inl hb⟩
 · have Z9:Hid (Calls Tryz.prog 186 #[.slice ao ps.length cap,.func (.func F) #[] E.toArray] w fun e w'=>∃i:Nat,e=.returned (I (i:Int))/\uO p ps ps i (i+1)/\Below w.heap.size w w'):=Uc.o.mono fun e w' ⟨hb,hh⟩=>by
    grind [uO.start]
   have hpos:0<ps.length:=by
    grind
   obtain⟨pb,rfl,hlo,hpb⟩:=HGO.o hpos;clear hall Uc HGO;rcases hFE with⟨rfl,rfl⟩ | ⟨rfl,rfl⟩ | ⟨rfl,rfl⟩
   all_goals
    go_enter Tryz.func281,Tryz.ntmps281;go_wp2_with (go_at_call 186;refine Z9.o.mono ?_;rintro e w1 ⟨i1,rfl,aiX,hb1⟩;have cM:=ai hb1;have Ai:=ai aiX;have hi1:=aiX.le;have hi2:((i1:Int)==-1)=false:=(by rfl);clear hb1 aiX)
    go_loopw [5,6] (fun iv jv wr=>∃(i j:Nat) (q:List bC),iv=I (i:Int)/\jv=I (j:Int)/\uO p ps q i j/\wr.ownsRow lo 174 3 (.slice (some (Ad pb 0)) ps.length cap) ps.length (q.flatMap bw)/\aC (fun b=>b=pb) w wr) (fun _ jv _=>ps.length-(intOf jv).toNat)
    case atStart=>exact⟨i1,i1+1,ps,rfl,by go_num,Ai.o,aC.row (aC.bY (D:=fun _=>False) cM.o) HH.o (fun _ _ g=>g),aC.bY cM.o⟩
    case round =>
     obtain⟨i,j,q,rfl,rfl,hf,hrow,Pe⟩:=hrel;have hij:=hf.lt;have hjl:=hf.le;have HF:=ai hf;have HR:=ai hrow;have HK:=ai Pe;clear Ai cM hi1;by_cases hlt:j<ps.length
     · have hji:(j:Int)<(ps.length:Int):=by omega
       have hii:(i:Int)<(ps.length:Int):=by omega
       have hql:=hf.len;have hrw:∀V:World,V.ownsRow lo 174 3 (.slice (some (Ad pb 0)) ps.length cap) ps.length (q.flatMap bw)->∀k,k<ps.length->V.cell? (Ad pb (k*3))=some (I (aV q k).page)/\V.cell? (Ad pb (k*3+1))=some (I (aV q k).kind)/\V.cell? (Ad pb (k*3+2))=some (I (aV q k).loc):=fun V hV k hk=>by
        rw[<- hql] at hV;exact⟨jY bw kO gY hV k 0 (by omega) (by omega),jY bw kO gY hV k 1 (by omega) (by omega),jY bw kO gY hV k 2 (by omega) (by omega)⟩
       have HRW:=ai hrw;obtain⟨c0,c1,c2⟩:=hrw wr hrow j hlt;rw[hf.at hlt] at c0 c1 c2;have auq:pb<wr.heap.size:=(hrow.lt pb rfl).2;have aur:¬pb=wr.heap.size:=by omega
       have HA:=ai ((aJ wr.heap.size wr).alloc (aH _) (.cells #[I (aV ps j).page,I (aV ps j).kind,I (aV ps j).loc] 174));have yA:=ai (HC.o (wr.alloc (.cells #[I (aV ps j).page,I (aV ps j).kind,I (aV ps j).loc] 174)) (aV ps j) ((Pe.trans (aC.bY (D:=fun b=>b=pb) HA.o) (fun _ _ g=>g)).mono (fun b _ e=>by subst e;rfl)));have BX:=ai (bD wr #[I (aV ps j).page,I (aV ps j).kind,I (aV ps j).loc] 174);have HSK:=ai (hf.skip hlt);have HKE:=ai (hf.keep hlt);obtain⟨G,hG⟩:=ex (p (aV ps j));rw[<- hG] at yA HSK HKE;obtain⟨g,hg⟩:=ex (aV ps j);rw[<- hg] at c0 c1 c2 yA HKE HA BX;clear hG hg hrow Pe hrw hf;cases G with
       | true =>
        go_wp2_with ((first | go_at_call 300 | go_at_call 285 | go_at_call 269);refine yA.o.mono ?_;rintro e w2 ⟨rfl,hb2⟩;have gP:=ai (HA.o.trans (hb2.mono HA.o.size));clear hb2)
        go_roundw
        case rel=>exact⟨i,j+1,q,rfl,by go_num,HSK.o (by trivial),aC.row (aC.bY (D:=fun _=>False) gP.o) HR.o (fun _ _ g=>g),HK.o.trans (aC.bY (D:=fun b=>b=pb) gP.o) (fun _ _ g=>g)⟩
        grind [intOf]
       | false =>
        go_wp2_with ((first | go_at_call 300 | go_at_call 285 | go_at_call 269);refine yA.o.mono ?_;rintro e w2 ⟨rfl,hb2⟩;have gP:=ai (HA.o.trans (hb2.mono HA.o.size));have CK:=ai (aC.row (aC.bY (D:=fun _=>False) gP.o) HR.o (fun _ _ g=>g));have hc2:=HRW.o _ CK.o i (by omega);obtain⟨d0,d1,d1b⟩:=hc2;have d2:=iF CK.o (i*3);have d3:=iF CK.o (i*3+1);have d3b:=iF CK.o (i*3+2);have hx2:=aN BX.o hb2 (aI BX.o);obtain⟨d4,d5,d6⟩:=ET hx2;clear hb2 hx2)
        go_roundw
        case rel =>
         refine⟨i+1,j+1,q.set i g,by go_num,by go_num,HKE.o (by trivial),?_,?_⟩
         · grind [VT,eZ,Hid.o]
         · exact(((HK.o.trans (aC.bY (D:=fun b=>b=pb) gP.o) (fun _ _ g=>g)).trans (aC.set (fun b=>b=pb) w2 (Ad pb (i*3)) _ rfl) (fun _ _ g=>g)).trans (aC.set (fun b=>b=pb) _ (Ad pb (i*3+1)) _ rfl) (fun _ _ g=>g)).trans (aC.set (fun b=>b=pb) _ (Ad pb (i*3+2)) _ rfl) (fun _ _ g=>g)
        grind [intOf]
     · obtain rfl:j=ps.length:=by omega
       have hql:=hf.len;have hdn:=hf.done;obtain⟨cur,hcz,hgc,hcs,hct⟩:∃cur:Array Value,cur.size=cap*3/\wr.heap[pb]?=some (.cells cur 174 (0,0))/\cap<=maxLen/\cur.toList.take (ps.length*3)=q.flatMap bw:=by
        rcases hrow.2 with⟨h0,_⟩ | ⟨g,cap',cur,hv,hb,hg,h1,h2,h3,h4⟩
        · omega
        grind
       have hcl:cur.toList.length=cap*3:=hcz;have alc:∀ty c,(Builtin.clear_ #[97] ty #[.slice (some (Ad pb (i*3))) (ps.length-i) c]).run Tryz.prog wr=.ok (.tuple #[]) (wr.setRow pb (splice cur.toList (i*3) (jk [I 0,I 0,I 0] (ps.length-i))).toArray):=fun ty c=>Lv (P:=Tryz.prog) wr 97 ty 174 (.agg #[I 0,I 0,I 0]) Tryz.underlying97 afn (by decide) (by decide) pb (i*3) (ps.length-i) c cur.toList 174 (by omega) (by
        grind [Value.cells])
       obtain⟨S,hS⟩:=ex (splice cur.toList (i*3) (jk [I 0,I 0,I 0] (ps.length-i)));rw[<- hS] at alc;have hSl:S.length=cap*3:=by
        grind [length_splice,l9]
       have hSt:S.take (i*3)=(eQ ps p).flatMap bw:=by
        rw[<- hdn,<- DY,<- hct,List.take_take,Um (by omega),hS]
        grind [splice]
       have hol:(eQ ps p).length=i:=by grind
       have hg2:(wr.setRow pb S.toArray).heap[pb]?=some (.cells S.toArray 174 (0,0)):=tu wr pb _ _ _ _ hgc;have dm:Hid (P (.returned (.slice (some (Ad pb 0)) i cap)) (wr.setRow pb S.toArray)):=HP.o _ _ ⟨_,rfl,by
        rw[hol,<- hSt];exact⟨by grind,.inr ⟨pb,cap,S.toArray,rfl,hlo,hg2,by omega,hcs,by omega,by simp⟩⟩,(Pe.mono (fun b _ e=>by subst e;rfl)).trans (DZ wr pb S.toArray) (fun b _ e=>by subst e;rfl),fun b hb=>.inl hb⟩
       have hic:¬cap=i:=by omega
       have hin:(i:Int)<=(ps.length:Int):=by omega
       have auK:i<=cap:=by omega
       clear hf hrow Pe HF HR HK hgc hct hdn hS hSl hSt hol hg2 hql hcz hcl Z9 HP HH HC;go_wp2_with (at_builtin;refine acW _ rfl _ 97 rfl _ rfl (alc _ _) ?_)
       exact dm.o
end Go.Proofs.YtlgoihmkgaaemaaGreat
