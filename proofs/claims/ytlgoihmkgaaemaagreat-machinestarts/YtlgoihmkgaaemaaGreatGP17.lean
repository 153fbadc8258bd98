import Derived.Test.YtlgoihmkgaaemaaGreatGP16
set_option maxHeartbeats 20000000
set_option linter.unusedVariables false
set_option maxRecDepth 100000
set_option linter.unusedSimpArgs false
namespace Go.Proofs.YtlgoihmkgaaemaaGreat
open Go.RowKit Tryz
def fP (lo mb:Nat) (tt:TypeId) (X:List Value) (w:World) (S:gv) (v:Value) (k':aT) (e:Ending) (w':World):Prop:=e=.returned v/\∃S',bO lo mb tt X w' S' k'/\cU S w S' w'
def mU (lo mb:Nat) (tt:TypeId) (X:List Value) (w:World) (S:gv) (v:Value) (k':aT) (e:Ending) (w':World):Prop:=e=.returned v/\bO lo mb tt X w' S k'/\cU S w S w'
variable {lo mb:Nat} {tt:TypeId} {p:bK->Bool} {q:List bK}
theorem Et {X:List Value} (k:aT) (S:gv) (w:World) (e:bK) (d:Int) (h:bO lo mb tt X w S k) (h1:e.kind=1->0<=e.loc/\e.loc<(k.frames.length:Int)) (h2:e.kind≠1->0<=e.loc/\e.loc<(k.slots.length:Int)) (hd:d=1\/d=-1)
  (hr:(e.kind=1->-1000000<=(aK k.frames e.loc.toNat).refs/\(aK k.frames e.loc.toNat).refs<=1000000)/\(e.kind≠1->-1000000<=(bI k.slots e.loc.toNat).refs/\(bI k.slots e.loc.toNat).refs<=1000000)) :
  Calls prog 270 #[.pointer (some (Ad mb 0)),tC e,I d] w (mU lo mb tt X w S (.tuple #[]) (kv k e d)):=by
 obtain⟨pg,kd,lc⟩:=e;unfold tC;simp only at h1 h2 hr ⊢;have eB:=ai ((aN w.heap.size w).alloc (aJ _) (.cells #[I pg,I kd,I lc] 174));have EB:=ai (bG w #[I pg,I kd,I lc] 174);have HM:=ai (h.below eB.o);have y:Hid (cU S w S (w.alloc (.cells #[I pg,I kd,I lc] 174))):=cU.below eB.o;by_cases c:kd=1
 . obtain⟨i,rfl⟩:∃i:Nat,lc=(i:Int):=⟨lc.toNat,ω⟩;have hi:i<k.frames.length:=by omega
   obtain⟨fb,cF,A⟩:=HM.o.toKr.fr ω;have q:=hr.1 c;rw[kq] at q;have x1:=A.x1 i hi;have x0:=A.x0 i hi;have x2:=A.x2 i hi;have x3:=A.x3 i hi;have f0:=A.fz (i*4);have f1:=A.fz (i*4+1);have f2:=A.fz (i*4+2);have f3:=A.fz (i*4+3);have c1:=HM.o.c1;rw[A.v] at c1;have e0:(w.alloc (.cells #[I pg,I kd,I (i:Int)] 174)).cell? (Ad w.heap.size 1)=some (I kd):=aA EB.o 1 rfl;have e2:(w.alloc (.cells #[I pg,I kd,I (i:Int)] 174)).cell? (Ad w.heap.size 2)=some (I (i:Int)):=aA EB.o 2 rfl;have Il:(i:Int)<(k.frames.length:Int):=by omega
   have eW:Hid (∀V,(∃f,V=((w.alloc (.cells #[I pg,I kd,I (i:Int)] 174)).setCell (Ad fb (i*4+1)) (I ((aK k.frames i).refs+d))).drew/\f=aK k.frames i/\¬f.refs+d=0)\/(∃f,f=aK k.frames i/\f.refs+d=0/\V=((((((w.alloc (.cells #[I pg,I kd,I (i:Int)] 174)).setCell (Ad fb (i*4+1)) (I ((aK k.frames i).refs+d))).setCell (Ad fb (i*4)) (.string ⟨#[]⟩)).setCell (Ad fb (i*4+1)) (I 0)).setCell (Ad fb (i*4+2)) (.bool false)).setCell (Ad fb (i*4+3)) (.bool false)).drew)->mU lo mb tt X w S (.tuple #[]) (kv k ⟨pg,kd,(i:Int)⟩ d) (.returned (.tuple #[])) V):=λV hV=>by
    have hk:kv k ⟨pg,kd,(i:Int)⟩ d={ k with frames:=k.frames.set i (Hy (aK k.frames i) d) }:=by
     grind [kv]
    rw[hk];have HD:=HM.o;have CD:=y.o;have b:∀V:World,Below V.heap.size V V.drew:=λV=>(aN _ _).drew
    have m1:=HD.MK A.v hi (j:=1) ω (f:=⟨(aK k.frames i).data,(aK k.frames i).refs+d,(aK k.frames i).ja,(aK k.frames i).seen⟩) (u:=I ((aK k.frames i).refs+d)) rfl;have r:=CD.trans (AJ HD.toKr A.v (i:=i*4+1) (u:=I ((aK k.frames i).refs+d)));rcases hV with⟨f,rfl,rfl,hz⟩ | ⟨f,rfl,hz,rfl⟩
    . unfold Hy;rw[aH hz];exact⟨rfl,m1.below (b _),r.trans (cU.below (b _))⟩
    unfold Hy;rw[aQ hz];have m2:=m1.ahg A.v (i:=i) Γ eG;simp only[rD] at m2;exact⟨rfl,m2.1.below (b _),(r.trans m2.2).trans (cU.below (b _))⟩
   generalize mU lo mb tt X w S (.tuple #[]) (kv k ⟨pg,kd,(i:Int)⟩ d)=P at eW ⊢;generalize aK k.frames i=F at x0 x1 x2 x3 q eW;generalize k.frames.length=n at c1 Il;have kb:(kd==1)=true:=by grind
   have hw:IntKind.i64.wrap (F.refs+d)=F.refs+d:=wh _ ω;clear h1 h2 hr h HM y A EB eB c hd q hi;by_cases z:F.refs+d=0
   . have zb:(F.refs+d==0)=true:=by grind
     have HZ:=ai z;clear z;go_enter func270,ntmps270;go_upto_region 2 with fail;go_region;go_wp2;refine bW (v:=.tuple #[]) (by simp[results]) rfl ?_
     grind [Hid.o]
   have zb:(F.refs+d==0)=false:=by grind
   have HZ:=ai z;clear z;go_enter func270,ntmps270;go_upto_region 2 with fail;go_region;go_wp2;refine bW (v:=.tuple #[]) (by simp[results]) rfl ?_
   grind [Hid.o]
 obtain⟨i,rfl⟩:∃i:Nat,lc=(i:Int):=⟨lc.toNat,ω⟩;have hi:i<k.slots.length:=by omega
 obtain⟨fb,cF,A⟩:=HM.o.toKr.sl ω;have q:=hr.2 c;rw[kq] at q;have x1:=A.x1 i hi;have x0:=A.x0 i hi;have f0:=A.fz (i*2);have f1:=A.fz (i*2+1);have c1:=HM.o.c2;rw[A.v] at c1;have e0:(w.alloc (.cells #[I pg,I kd,I (i:Int)] 174)).cell? (Ad w.heap.size 1)=some (I kd):=aA EB.o 1 rfl;have e2:(w.alloc (.cells #[I pg,I kd,I (i:Int)] 174)).cell? (Ad w.heap.size 2)=some (I (i:Int)):=aA EB.o 2 rfl;have Il:(i:Int)<(k.slots.length:Int):=by omega
 have eW:Hid (∀V,(∃f,V=((w.alloc (.cells #[I pg,I kd,I (i:Int)] 174)).setCell (Ad fb (i*2+1)) (I ((bI k.slots i).refs+d))).drew/\f=bI k.slots i/\¬f.refs+d=0)\/(∃f,f=bI k.slots i/\f.refs+d=0/\V=((((w.alloc (.cells #[I pg,I kd,I (i:Int)] 174)).setCell (Ad fb (i*2+1)) (I ((bI k.slots i).refs+d))).setCell (Ad fb (i*2)) (.string ⟨#[]⟩)).setCell (Ad fb (i*2+1)) (I 0)).drew)->mU lo mb tt X w S (.tuple #[]) (kv k ⟨pg,kd,(i:Int)⟩ d) (.returned (.tuple #[])) V):=λV hV=>by
  have hk:kv k ⟨pg,kd,(i:Int)⟩ d={ k with slots:=k.slots.set i (Hx (bI k.slots i) d) }:=by
   grind [kv]
  rw[hk];have HD:=HM.o;have CD:=y.o;have b:∀V:World,Below V.heap.size V V.drew:=λV=>(aN _ _).drew
  have m1:=HD.ahd A.v hi (j:=1) ω (f:=⟨(bI k.slots i).data,(bI k.slots i).refs+d⟩) (u:=I ((bI k.slots i).refs+d)) rfl;have r:=CD.trans (adr HD.toKr A.v (i:=i*2+1) (u:=I ((bI k.slots i).refs+d)));rcases hV with⟨f,rfl,rfl,hz⟩ | ⟨f,rfl,hz,rfl⟩
  . unfold Hx;rw[aH hz];exact⟨rfl,m1.below (b _),r.trans (cU.below (b _))⟩
  unfold Hx;rw[aQ hz];have m2:=m1.aps A.v (i:=i) Γ gP;simp only[rD] at m2;exact⟨rfl,m2.1.below (b _),(r.trans m2.2).trans (cU.below (b _))⟩
 generalize mU lo mb tt X w S (.tuple #[]) (kv k ⟨pg,kd,(i:Int)⟩ d)=P at eW ⊢;generalize bI k.slots i=F at x0 x1 q eW;generalize k.slots.length=n at c1 Il;have kb:(kd==1)=false:=by grind
 have hw:IntKind.i64.wrap (F.refs+d)=F.refs+d:=wh _ ω;clear h1 h2 hr h HM y A EB eB c hd q hi;by_cases z:F.refs+d=0
 . have zb:(F.refs+d==0)=true:=by grind
   have HZ:=ai z;clear z;go_enter func270,ntmps270;go_upto_region 6 with fail;go_region;go_wp2;refine vY (v:=.tuple #[]) (by simp[results]) rfl ?_
   grind [Hid.o]
 have zb:(F.refs+d==0)=false:=by grind
 have HZ:=ai z;clear z;go_enter func270,ntmps270;go_upto_region 6 with fail;go_region;go_wp2;refine vY (v:=.tuple #[]) (by simp[results]) rfl ?_
 grind [Hid.o]
def mo (held:List Int) (k:aT) (i:Nat):aT:=if held.contains (i:Int) then k else { k with frames:=k.frames.set i (Dy (aK k.frames i)) }
theorem TN {X:List Value} (k:aT) (S:gv) (w:World) (i:Nat) (held:List Int) (ah:Option Addr) (ch:Nat) (h:bO lo mb tt X w S k) (hi:i<k.frames.length) (hh:dE iL 1 0 w ah held) (hl:held.length<=1000000) :
  Calls prog 296 #[.pointer (some (Ad mb 0)),I (i:Int),.slice ah held.length ch] w (mU lo mb tt X w S (.bool (held.contains (i:Int) || (aK k.frames i).seen)) (mo held k i)):=by
 obtain⟨fb,cF,A⟩:=h.toKr.fr ω;have b:=ai (xM held (i:Int) ah ch w hh hl);have x3:=A.x3 i hi;have f3:=A.fz (i*4+3);have c1:=h.c1;rw[A.v] at c1;have Il:(i:Int)<(k.frames.length:Int):=by omega
 rw[<- List.contains_eq_mem] at b;cases hc:held.contains (i:Int) with
 | true =>
  have eW:Hid (mU lo mb tt X w S (.bool (true || (aK k.frames i).seen)) (mo held k i) (.returned (.bool true)) w):=⟨ξ,by grind [mo],cU.refl _ _⟩;rw[hc] at b;generalize mU lo mb tt X w S (.bool (true || (aK k.frames i).seen)) (mo held k i)=P at eW ⊢;clear hc hh h A hi hl x3 f3 c1 Il;go_enter func296,ntmps296;go_wp2_with (go_at_call 282;refine b.o.mono ?_;rintro e w1 ⟨rfl,rfl⟩);exact eW.o
 | false =>
  have eW:Hid (mU lo mb tt X w S (.bool (false || (aK k.frames i).seen)) (mo held k i) (.returned (.bool (aK k.frames i).seen)) (w.setCell (Ad fb (i*4+3)) (.bool false))):=⟨ξ,by
   unfold mo;rw[aH Γ];exact h.MK A.v hi (j:=3) ω rfl,AJ h.toKr A.v⟩
  rw[hc] at b;generalize mU lo mb tt X w S (.bool (false || (aK k.frames i).seen)) (mo held k i)=P at eW ⊢;generalize aK k.frames i=F at x3 eW;generalize k.frames.length=n at c1 Il;clear hc hh h A hi hl;go_enter func296,ntmps296;go_wp2_with (go_at_call 282;refine b.o.mono ?_;rintro e w1 ⟨rfl,rfl⟩);exact eW.o
theorem Fi {X:List Value} (k:aT) (S:gv) (w:World) (h:bO lo mb tt X w S k) (hh:0<=k.hand/\k.hand<k.frames.length) (hn:k.frames.length<=1000000) :
  Calls prog 251 #[.pointer (some (Ad mb 0))] w (mU lo mb tt X w S (.tuple #[]) { k with hand:=jr k }):=by
 obtain⟨fb,cF,A⟩:=h.toKr.fr ω;have eW:Hid (∀x,x=jr k->mU lo mb tt X w S (.tuple #[]) { k with hand:=jr k } (.returned (.tuple #[])) (w.setCell (Ad mb 4) (I x)).drew):=λx hx=>by
  rw[hx];have:=h.aj0 (jr k);exact⟨rfl,this.1.below (aN _ _).drew,this.2.trans (cU.below (aN _ _).drew)⟩
 have hm:(k.hand+1).tmod (k.frames.length:Int)=jr k:=by
  grind [jr]
 have c1:=h.c1;rw[A.v] at c1;have c4:=h.c4;have f4:=h.free 4;generalize mU lo mb tt X w S (.tuple #[]) { k with hand:=jr k }=P at eW ⊢;generalize jr k=NX at eW hm;generalize k.hand=hd at c4 hh hm;generalize k.frames.length=n at c1 hh hm hn;have hw:IntKind.i64.wrap (hd+1)=hd+1:=wh _ ω;have b:¬(n:Int)=0:=by omega
 have q:-9223372036854775808<=NX/\NX<=9223372036854775807:=by
  have h1:0<=(hd+1).tmod (n:Int):=Int.tmod_nonneg _ ω;have h2:(hd+1).tmod (n:Int)<(n:Int):=Int.tmod_lt_of_pos _ ω;omega
 clear h A;go_enter func251,ntmps251;go_region
 all_goals go_wp2
 all_goals refine vY (v:=.tuple #[]) (by simp[results]) rfl ?_
 grind [Hid.o]
theorem lC (l:bK):(bC l).length=3:=rfl
theorem GJ (w:World):(sizeOf 174).run prog w=.ok 3 w:=by rfl
theorem aib (w:World):(zeroValue 174).run prog w=.ok (.agg #[I 0,I 0,I 0]) w:=by rfl
def oW (lo:Nat) (vp:Value) (l:List bK) (w:World) (e:Ending) (w':World):Prop:=∃v',e=.returned v'/\w'.ownsRow lo 174 3 v' l.length (l.flatMap bC)/\aI (bN vp) w w'/\(∀b,bN v' b->bN vp b\/w.heap.size<=b)
theorem yX {α:Type} {w:World} {e:TypeId} {k n:Nat} {ao:Option Addr} {cap:Nat} {xs:List Value} (h:w.ownsRow lo e k (.slice ao n cap) n xs):oh w ao n xs:=λhm=>by
 rcases h.2 with⟨h0,h1⟩ | ⟨g,cap',cur,hv,_,hg,_,_,_,ht⟩
 . omega
 grind [Addr.add_lit,cell_of_row]
theorem Uh (lo:Nat) (ps zs:List bK) (ao az:Option Addr) (cap cz wz:Nat) (w:World) (h:w.ownsRow lo 174 3 (.slice ao ps.length cap) ps.length (ps.flatMap bC)) (hz:w.ownsRow wz 174 3 (.slice az zs.length cz) zs.length (zs.flatMap bC)) (hlo:lo<=w.heap.size) (hm:1<=zs.length) (hn:ps.length<=100000) (Br:zs.length<=100000) :
  Calls prog 299 #[.slice ao ps.length cap,I (ps.length:Int),.slice az zs.length cz] w (oW lo (.slice ao ps.length cap) (ps++zs) w):=by
 have HH:=ai h;have HF:=ai (yX (α:=Unit) hz);have HL:=ai (eV bC 3 lC zs);have H1:=ai (tZ zs);obtain⟨_,_,e0,FE,_⟩:=bh h;injection e0 with e1 e2 e3;subst e3;obtain⟨n,r⟩:=ex ps.length;obtain⟨m,G⟩:=ex zs.length;have eW:Hid (∀v' (w':World),w'.ownsRow lo 174 3 v' (n+m) (ps.flatMap bC++zs.flatMap bC)->aI (bN (.slice ao n cap)) w w'->(∀b,bN v' b->bN (.slice ao n cap) b\/w.heap.size<=b)->oW lo (.slice ao n cap) (ps++zs) w (.returned v') w'):=λv' w' h1 h2 h3=>⟨v',rfl,Γ,h2,h3⟩
 rw[<- r] at HH hn FE ⊢;rw[<- G] at HF HL hm Br ⊢;generalize oW lo (.slice ao n cap) (ps++zs) w=P at eW ⊢;obtain⟨ZS,K⟩:=ex (zs.flatMap bC);generalize ps.flatMap bC=XS at HH eW;rw[<- K] at HF HL H1 eW;obtain⟨i0,A,F,B,y⟩:=mQ DJ;have PE:=ai A;have N:=ai F;have ZA:=ai B;have Ih:=ai y;have O:((m:Int)==0)=false:=by grind
 clear h hz r G K A F B y e1 e2;go_enter func299,ntmps299;go_wp2_with (at_builtin;refine qm (P:=prog) rfl _ _ 97 rfl lo 174 i0 (.agg #[I 0,I 0,I 0]) 3 24 underlying97 PE.o N.o ZA.o Ih.o rfl Δ (.slice ao n cap) n XS rfl HH.o az m cz ZS rfl HL.o HF.o H1.o (by unfold maxLen;omega) ω hlo ?_;intro v' w' q J L;have Kf:=ai q;have M:=ai J;have vv:=ai L;clear q J L)
 all_goals
  refine eW.o _ _ Kf.o (aI.grown M.o (λ_ e=>e)) (λb hb=>?_);unfold bN at hb ⊢;rcases vv.o with e | e
  . grind
  grind
theorem CY {α:Type} (a b:List α) (n:Nat) (h:a.length=n):(a++b).take n=a:=by grind
theorem Yj {α:Type} (R Y X:List α) (a b:Nat) (hb:b=a+Y.length) (h:b+X.length<=R.length):(splice (splice R a Y) b X).take (b+X.length)=R.take a++(Y++X):=by
 subst hb;have h1:(splice R a Y).take (a+Y.length)=R.take a++Y:=by
  unfold splice;rw[<- wj];exact CY _ _ _ Γ
 unfold splice at h1 ⊢;rw[h1,<- wj,wj (R.take a) Y X];exact CY _ _ _ (by rw[gM,ye,gM];omega)
theorem Sb {α:Type} (R Y X:List α) (a b:Nat) (hb:b=a+Y.length) (h:b+X.length<=R.length):(splice (splice R b X) a Y).take (b+X.length)=R.take a++(Y++X):=by
 subst hb;have h1:(splice R (a+Y.length) X).take a=R.take a:=by
  grind [splice]
 have h2:(splice R (a+Y.length) X).drop (a+Y.length)=X++R.drop (a+Y.length+X.length):=by
  grind [splice]
 have h3:splice (splice R (a+Y.length) X) a Y=R.take a++(Y++(X++R.drop (a+Y.length+X.length))):=by
  rw[<- h2,<- h1];rfl
 rw[h3,<- wj,<- wj,wj (R.take a) Y X];exact CY _ _ _ Γ
theorem LY (ps:List bK) (i:Nat):(ps.flatMap bC).drop (i*3)=(ps.drop i).flatMap bC:=by
 induction ps generalizing i with
 | nil=>simp
 | cons a r ih =>
  cases i with
  | zero=>simp
  | succ i =>
   rw[oF,List.drop_succ_cons,<- ih i,show(i+1)*3=i*3+3 by omega];rfl
theorem EG (ps:List bK) (i:Nat):(ps.flatMap bC).take (i*3)=(ps.take i).flatMap bC:=by
 induction ps generalizing i with
 | nil=>simp
 | cons a r ih =>
  cases i with
  | zero=>simp
  | succ i =>
   rw[oF,List.take_succ_cons,oF,<- ih i,show(i+1)*3=i*3+3 by omega];rfl
theorem EH (w:World) (g:Nat) (cs:Array Value):aI (λb=>b=g) w (w.setRow g cs):=⟨rfl,rfl,rfl,by simp_all,λb _ hn=>setRow_other w g b cs hn⟩
theorem Pv (lo:Nat) (ps zs:List bK) (pb zb cap cz wz i:Nat) (w:World) (h:w.ownsRow lo 174 3 (.slice (some (Ad pb 0)) ps.length cap) ps.length (ps.flatMap bC)) (hz:w.ownsRow wz 174 3 (.slice (some (Ad zb 0)) zs.length cz) zs.length (zs.flatMap bC)) (hne:zb≠pb) (hi:i<ps.length) (hm:1<=zs.length) (hn:ps.length<=100000) (Br:zs.length<=100000) (hroom:ps.length+zs.length<=cap) :
  Calls prog 299 #[.slice (some (Ad pb 0)) ps.length cap,I (i:Int),.slice (some (Ad zb 0)) zs.length cz] w (oW lo (.slice (some (Ad pb 0)) ps.length cap) (ps.take i++(zs++ps.drop i)) w):=by
 have B:=ai (yX (α:=Unit) hz);have I9:=ai (yX (α:=Unit) h);have H1:=ai (tZ zs);have O:=ai (tZ ps);obtain⟨q,a6,Z,N,K,hlo,a5⟩:∃q:Array Value,q.size=cap*3/\w.heap[pb]?=some (.cells q 174 (0,0))/\cap<=maxLen/\q.toList.take (ps.length*3)=ps.flatMap bC/\lo<=pb/\ps.length<=cap:=by
  rcases h.2 with⟨h0,_⟩ | ⟨g,a3,q,hv,hb,hg,h1,h2,h3,h4⟩
  . cases h0
  grind
 obtain⟨r,A,a7⟩:∃r:Array Value,w.heap[zb]?=some (.cells r 174 (0,0))/\0<r.size:=by
  rcases hz.2 with⟨h0,_⟩ | ⟨g,a3,zc,hv,hb,hg,h1,h2,h3,h4⟩
  . cases h0
  grind
 have W:=eV bC 3 lC ps;have J:=eV bC 3 lC zs;obtain⟨R,hR⟩:=ex q.toList;have a2:R.length=cap*3:=by grind
 have U:w.heap[pb]?=some (.cells R.toArray 174 (0,0)):=by rw[hR];omega
 rw[<- hR] at K;obtain⟨n,ZR⟩:=ex ps.length;obtain⟨m,L⟩:=ex zs.length;obtain⟨XS,F⟩:=ex (ps.flatMap bC);obtain⟨ZS,Q⟩:=ex (zs.flatMap bC);rw[<- Q] at B H1 J;rw[<- F] at I9 W K O;rw[<- L] at B J hm Br hroom ⊢;rw[<- ZR] at I9 W K hi hn hroom a5 ⊢;obtain⟨DS,G⟩:=ex (XS.drop (i*3));have a9:DS.length=(n-i)*3:=by grind
 obtain⟨R1,Kb⟩:=ex (splice R ((i+m)*3) DS);have a8:R1.length=cap*3:=by rw[Kb,length_splice _ _ _ ω];exact a2
 obtain⟨R2,Zw⟩:=ex (splice R1 (i*3) ZS);have a1:R2.length=cap*3:=by rw[Zw,length_splice _ _ _ ω];omega
 have a0:R2.take ((n+m)*3)=XS.take (i*3)++(ZS++DS):=by
  have:=Sb R ZS DS (i*3) ((i+m)*3) ω ω
  grind
 have X:∀ty dc sc,(Builtin.copy_ #[97,97] ty #[.slice (some (Ad pb ((i+m)*3))) (n+m-(i+m)) dc,.slice (some (Ad pb (i*3))) (n+m-i) sc]).run prog w.drew=.ok (goInt (n-i)) (w.drew.setRow pb R1.toArray):=λty dc sc=>by
  have:=uk (P:=prog) w.drew 97 97 ty 174 3 underlying97 GJ pb ((i+m)*3) (n+m-(i+m)) dc (some (Ad pb (i*3))) (n+m-i) sc R 174 U DS Γ (λ_=>⟨_,rfl,λj u hu=>by
   obtain⟨ad,e,hc⟩:=I9.o ω;injection e with e;subst e;have:=hc (i*3+j) u (by rw[G,Wk] at hu;exact hu);rw[rG] at this ⊢;rw[mi] at this;exact this⟩) ω (λu hu=>O.o u (by rw[G] at hu;exact List.mem_of_mem_drop hu))
  rw[this,<- Kb];congr 2;simp only[DZ];split <;> omega
 have y:(w.drew.setRow pb R1.toArray).heap[pb]?=some (.cells R1.toArray 174 (0,0)):=pW w.drew pb _ _ _ _ U;obtain⟨W1,T⟩:=ex (w.drew.setRow pb R1.toArray);rw[<- T] at X y;have M:aI (λb=>b=pb) w W1:=by rw[T];exact(aI.drew _ w).trans (EH w.drew pb R1.toArray) (λ_ _ g=>g)
 have a4:∀ty dc,(Builtin.copy_ #[97,97] ty #[.slice (some (Ad pb (i*3))) (n+m-i) dc,.slice (some (Ad zb 0)) m cz]).run prog W1=.ok (goInt m) (W1.setRow pb R2.toArray):=λty dc=>by
  have:=uk (P:=prog) W1 97 97 ty 174 3 underlying97 GJ pb (i*3) (n+m-i) dc (some (Ad zb 0)) m cz R1 174 y ZS (by rw[J];simp only[DZ];split <;> omega) (λ_=>⟨_,rfl,λj u hu=>by
   obtain⟨ad,e,hc⟩:=B.o ω;injection e with e;subst e;have:=hc j u hu;exact M.cell this (by rw[rG];exact hne)⟩) ω H1.o
  rw[this,<- Zw];congr 2;simp only[DZ];split <;> omega
 have Y:(W1.setRow pb R2.toArray).heap[pb]?=some (.cells R2.toArray 174 (0,0)):=pW W1 pb _ _ _ _ y;have eW:Hid (oW lo (.slice (some (Ad pb 0)) n cap) (ps.take i++(zs++ps.drop i)) w (.returned (.slice (some (Ad pb 0)) (n+m) cap)) (W1.setRow pb R2.toArray)):=by
  have hl:(ps.take i++(zs++ps.drop i)).length=n+m:=by rw[gM,gM,ye,Qm,<- ZR,<- L];omega
  refine⟨_,rfl,?_,(M.trans (EH W1 pb _) (λ_ _ g=>g)).mono (λb _ e=>by rw[e];rfl),λb hb=>.inl hb⟩;rw[hl];have hx:(ps.take i++(zs++ps.drop i)).flatMap bC=R2.take ((n+m)*3):=by
   rw[a0,F,Q,G,F,EG,LY,wk,wk]
  rw[hx];exact⟨by rw[ye,a1];omega,.inr ⟨pb,cap,R2.toArray,rfl,hlo,Y,hroom,N,ω,ξ⟩⟩
 generalize oW lo (.slice (some (Ad pb 0)) n cap) (ps.take i++(zs++ps.drop i)) w=P at eW ⊢;have aa:∀lb cb,(callFunc 303 #[.slice (some (Ad zb 0)) m cz,.slice (some (Ad pb ((i+m)*3))) lb cb]).run prog w=.ok (.value (.bool false)) w:=λlb cb=>by
  rw[run_callFunc_extern func303 κ κ κ (e:=Extern.SlicesOverlaps.overlaps #[97,97] #[4]) κ,
   Lib.run_overlaps_apart w 97 4 174 underlying97 3 GJ (Ad zb 0) (Ad pb ((i+m)*3)) m cz lb cb hne 174 174 r.size q.size (by simp[World.shape?,A]) (by simp[World.shape?,Z]) ω (br A 0) (br A r.size)]
  rfl
 have af:((m:Int)==0)=false:=by rw[jx];omega
 have al:((i:Int)==(n:Int))=false:=by rw[jx];omega
 have ah:IntKind.i64.wrap ((i:Int)+(m:Int))=(i:Int)+(m:Int):=wh _ ω;have ae:(0:Int)<=(i:Int)+(m:Int):=by omega
 have ab:i<=n:=by omega
 have am:((i:Int)+(m:Int)).toNat=i+m:=by omega
 have an:¬(cap=i+m):=by omega
 have aj:(i:Int)<=(n:Int)+(m:Int):=by omega
 have ao:¬(cap=i):=by omega
 have ac:¬((cap:Int)<(n:Int)+(m:Int)):=by omega
 have ag:cap<=9223372036854775807:=by unfold maxLen at N;omega
 clear h hz ZR L F Q G a9 Kb Zw T hR a2 U a8 a1 a0 W J K Z a6 A a7 y Y M B I9 H1 O N;go_enter func299,ntmps299;go_wp2_with (simp only[aa])
 go_region_law (refine Tm rfl _ _ 97 97 rfl _ _ (by simp[Act.eval,Act.put]) (by simp[Act.eval,Act.put]) (X _ _ _) ?_)
 go_wp2_with (at_builtin;refine O4 _ rfl _ _ 97 97 rfl _ _ rfl rfl (a4 _ _) ?_)
 exact eW.o
theorem Sc (lo:Nat) (ps zs:List bK) (pb zb cap cz wz i:Nat) (w:World) (h:w.ownsRow lo 174 3 (.slice (some (Ad pb 0)) ps.length cap) ps.length (ps.flatMap bC)) (hz:w.ownsRow wz 174 3 (.slice (some (Ad zb 0)) zs.length cz) zs.length (zs.flatMap bC)) (hlo:lo<=w.heap.size) (hi:i<ps.length) (hm:1<=zs.length) (hn:ps.length<=100000) (Br:zs.length<=100000) (hroom:cap<ps.length+zs.length) :
  Calls prog 299 #[.slice (some (Ad pb 0)) ps.length cap,I (i:Int),.slice (some (Ad zb 0)) zs.length cz] w (oW lo (.slice (some (Ad pb 0)) ps.length cap) (ps.take i++(zs++ps.drop i)) w):=by
 have B:=ai (yX (α:=Unit) hz);have I9:=ai (yX (α:=Unit) h);have H1:=ai (tZ zs);have Q:=ai (tZ ps);have ah:pb<w.heap.size:=(h.lt pb rfl).2;have af:zb<w.heap.size:=(hz.lt zb rfl).2;have ae:ps.length<=cap:=by
  grind [bh]
 have y:=eV bC 3 lC ps;have J:=eV bC 3 lC zs;obtain⟨n,ZR⟩:=ex ps.length;obtain⟨m,L⟩:=ex zs.length;obtain⟨XS,F⟩:=ex (ps.flatMap bC);obtain⟨ZS,W⟩:=ex (zs.flatMap bC);rw[<- W] at B H1 J;rw[<- F] at I9 y Q;rw[<- L] at B J hm Br hroom ⊢;rw[<- ZR] at I9 y hi hn hroom ae ⊢;obtain⟨i0,a0,a7,a8,a4⟩:=mQ DJ;have K:(Builtin.firstCells i0.size i (.slice (some (Ad pb 0)) i cap)).run prog w.drew=.ok (XS.take (i*3)).toArray w.drew:=by
  rw[a8];exact aj7 w.drew 3 i (Ad pb 0) i cap (XS.take (i*3)) Γ (λj u hu=>by
   rw[List.getElem?_take] at hu;split at hu
   . obtain⟨ad,e,hc⟩:=I9.o ω;injection e with e;subst e;exact hc j u hu
   grind)
 have O:i+(n+m-i)=n+m:=by omega
 have aa:(n:Int)+(m:Int)-(i:Int)=((n+m-i:Nat):Int):=by omega
 obtain⟨G,hG⟩:=ex (grownCap w (n+m) cap 174);obtain⟨R,hR⟩:∃R:List Value,R=XS.take (i*3)++jG [I 0,I 0,I 0] (n+m-i)++jG [I 0,I 0,I 0] (G-(n+m)):=⟨_,rfl⟩;have aj:n+m<=G:=by rw[hG];exact grownCap_ge w _ _ _
 have N:G<=maxLen:=by rw[hG];exact grownCap_le_maxLen w (n+m) cap _ (by unfold maxLen;omega)
 have ab:R.length=G*3:=by
  rw[hR,gM,gM,mA,mA,ye,y]
  grind
 have a3:R.take (i*3)=XS.take (i*3):=by
  grind
 have T:∀ty,(Builtin.append_ #[97,3] ty #[.slice (some (Ad pb 0)) i cap,I ((n:Int)+(m:Int)-(i:Int))]).run prog w=.ok (.slice (some (Ad w.heap.size 0)) (n+m) G) (w.drew.alloc (.cells R.toArray 174)):=λty=>by
  have h:=Lib.run_append_grow_zeros (P:=prog) w 97 3 ty 174 i0 _ .i64 .i64 underlying97 underlying3 a0 a7 (some (Ad pb 0)) i cap (XS.take (i*3)) K (n+m-i) ω ω ω ω Γ (by rw[a4,O];exact growslice_fits hroom ω);rw[O,<- hG] at h;rw[aa,h];congr 3;rw[hR];have e1:=C3 (Value.cells (.agg #[I 0,I 0,I 0])) (n+m-i) Δ;have e2:=C3 (Value.cells (.agg #[I 0,I 0,I 0])) (G-(n+m)) Δ;apply Wh.1;rw[Array.toList_append,Array.toList_append,e1,e2];rfl
 have q:(w.drew.alloc (.cells R.toArray 174)).heap[w.heap.size]?=some (.cells R.toArray 174 (0,0)):=bG w.drew _ _;obtain⟨W0,Y⟩:=ex (w.drew.alloc (.cells R.toArray 174));rw[<- Y] at T q;have U:Below w.heap.size w W0:=by rw[Y];exact(aN _ _).drew.alloc (aJ _) _
 obtain⟨H,hH⟩:=ex w.heap.size;rw[<- hH] at T q hlo;obtain⟨DS,r⟩:=ex (XS.drop (i*3));have Z:DS.length=(n-i)*3:=by rw[r,Qm,y];omega
 obtain⟨R1,Kb⟩:=ex (splice R (i*3) ZS);have ag:R1.length=G*3:=by rw[Kb,length_splice _ _ _ ω];exact ab
 obtain⟨R2,Zw⟩:=ex (splice R1 ((i+m)*3) DS);have a9:R2.length=G*3:=by rw[Zw,length_splice _ _ _ ω];omega
 have a5:R2.take ((n+m)*3)=XS.take (i*3)++(ZS++DS):=by
  have:=Yj R ZS DS (i*3) ((i+m)*3) ω ω;rw[<- Kb,<- Zw,Z,show(i+m)*3+(n-i)*3=(n+m)*3 by omega] at this;rw[this,a3]
 have a1:∀ty dc,(Builtin.copy_ #[97,97] ty #[.slice (some (Ad H (i*3))) (n+m-i) dc,.slice (some (Ad zb 0)) m cz]).run prog W0=.ok (goInt m) (W0.setRow H R1.toArray):=λty dc=>by
  have:=uk (P:=prog) W0 97 97 ty 174 3 underlying97 GJ H (i*3) (n+m-i) dc (some (Ad zb 0)) m cz R 174 q ZS (by rw[J];simp only[DZ];split <;> omega) (λ_=>⟨_,rfl,λj u hu=>by
   obtain⟨ad,e,hc⟩:=B.o ω;injection e with e;subst e;have:=hc j u hu;rw[rG] at this ⊢;exact(U.cell (p:=(Ad zb (0+j))) af).trans this⟩) ω H1.o
  rw[this,<- Kb];congr 2;simp only[DZ];split <;> omega
 have A:(W0.setRow H R1.toArray).heap[H]?=some (.cells R1.toArray 174 (0,0)):=pW W0 H _ _ _ _ q;obtain⟨W1,X⟩:=ex (W0.setRow H R1.toArray);rw[<- X] at a1 A;have M:Below w.heap.size w W1:=by rw[X];exact below_setRow U ω _
 have ac:∀ty dc sc,(Builtin.copy_ #[97,97] ty #[.slice (some (Ad H ((i+m)*3))) (n+m-(i+m)) dc,.slice (some (Ad pb (i*3))) (n-i) sc]).run prog W1.drew=.ok (goInt (n-i)) (W1.drew.setRow H R2.toArray):=λty dc sc=>by
  have:=uk (P:=prog) W1.drew 97 97 ty 174 3 underlying97 GJ H ((i+m)*3) (n+m-(i+m)) dc (some (Ad pb (i*3))) (n-i) sc R1 174 A DS (by rw[Z];simp only[DZ];split <;> omega) (λ_=>⟨_,rfl,λj u hu=>by
   obtain⟨ad,e,hc⟩:=I9.o ω;injection e with e;subst e;have:=hc (i*3+j) u (by rw[r,Wk] at hu;exact hu);rw[rG] at this ⊢;rw[mi] at this;exact(M.cell (p:=(Ad pb (i*3+j))) ah).trans this⟩) ω (λu hu=>Q.o u (by rw[r] at hu;exact List.mem_of_mem_drop hu))
  rw[this,<- Zw];congr 2;simp only[DZ];split <;> omega
 have a2:(W1.drew.setRow H R2.toArray).heap[H]?=some (.cells R2.toArray 174 (0,0)):=pW W1.drew H _ _ _ _ A;have a6:Below w.heap.size w (W1.drew.setRow H R2.toArray):=below_setRow M.drew ω _;have eW:Hid (oW lo (.slice (some (Ad pb 0)) n cap) (ps.take i++(zs++ps.drop i)) w (.returned (.slice (some (Ad H 0)) (n+m) G)) (W1.drew.setRow H R2.toArray)):=by
  have hl:(ps.take i++(zs++ps.drop i)).length=n+m:=by rw[gM,gM,ye,Qm,<- ZR,<- L];omega
  refine⟨_,rfl,?_,aI.cA a6,λb hb=>.inr (by have:some H=some b:=hb;injection this;omega)⟩;rw[hl];have hx:(ps.take i++(zs++ps.drop i)).flatMap bC=R2.take ((n+m)*3):=by
   rw[a5,F,W,r,F,EG,LY,wk,wk]
  rw[hx];exact⟨by rw[ye,a9];omega,.inr ⟨H,G,R2.toArray,rfl,hlo,a2,aj,N,ω,ξ⟩⟩
 obtain⟨P,hP⟩:=ex (oW lo (.slice (some (Ad pb 0)) n cap) (ps.take i++(zs++ps.drop i)) w);rw[<- hP] at eW ⊢;have am:((m:Int)==0)=false:=by rw[jx];omega
 have ar:((i:Int)==(n:Int))=false:=by rw[jx];omega
 have ap:IntKind.i64.wrap ((i:Int)+(m:Int))=(i:Int)+(m:Int):=wh _ ω;have an:(0:Int)<=(i:Int)+(m:Int):=by omega
 have au:((i:Int)+(m:Int)).toNat=i+m:=by omega
 have aw:¬(G=i+m):=by omega
 have aq:(i:Int)<=(n:Int):=by omega
 have av:¬(cap=i):=by omega
 have Hp:¬(G=i):=by omega
 have al:(cap:Int)<(n:Int)+(m:Int):=by omega
 have ao:G<=9223372036854775807:=by unfold maxLen at N;omega
 clear h hz ZR L F W r Z Kb Zw X Y hR ab a3 ag a9 a5 y J hP q A a2 U M a6 B I9 H1 Q N hG hH K a0 a7 a8 a4 O aa;go_enter func299,ntmps299;go_wp2_with (first
  | (at_builtin;refine Lib.wpList_append_run _ rfl _ _ _ _ rfl _ _ rfl rfl _ _ (T _) ?_)
  | (at_builtin;refine O4 _ rfl _ _ 97 97 rfl _ _ rfl rfl (a1 _ _) ?_))
 go_region_law (refine Tm rfl _ _ 97 97 rfl _ _ (by simp[Act.eval,Act.put]) (by simp[Act.eval,Act.put]) (ac _ _ _) ?_)
 go_wp2;exact eW.o
theorem Ui (lo:Nat) (ps zs:List bK) (vp vz:Value) (wz i:Nat) (w:World) (h:w.ownsRow lo 174 3 vp ps.length (ps.flatMap bC)) (hz:w.ownsRow wz 174 3 vz zs.length (zs.flatMap bC)) (hlo:lo<=w.heap.size) (hne:∀b,bN vz b->¬bN vp b) (hi:i<=ps.length) (hm:1<=zs.length) (hn:ps.length<=100000) (Br:zs.length<=100000) :
  Calls prog 299 #[vp,I (i:Int),vz] w (oW lo vp (ps.take i++(zs++ps.drop i)) w):=by
 obtain⟨ao,cap,rfl,FE,hg⟩:=bh h;obtain⟨az,cz,rfl,_,q⟩:=bh hz;by_cases c:i=ps.length
 . subst c;have e:ps.take ps.length++(zs++ps.drop ps.length)=ps++zs:=by grind
   rw[e];exact Uh lo ps zs ao az cap cz wz w h hz hlo hm hn Br
 obtain⟨pb,rfl,_,_⟩:=hg ω;obtain⟨zb,rfl,_,_⟩:=q ω;by_cases d:ps.length+zs.length<=cap
 . exact Pv lo ps zs pb zb cap cz wz i w h hz (λe=>hne zb rfl (by rw[e];rfl)) ω hm hn Br d
 exact Sc lo ps zs pb zb cap cz wz i w h hz hlo ω hm hn Br ω
theorem VC (l:List bK) (i:Nat) (h:i<l.length):l[i]?=some (aW l i):=by
 grind [aW]
structure vk (p:bK->Bool) (ps q:List bK) (i j:Nat):Prop where
 len:q.length=ps.length
 lt:i<j
 le:j<=ps.length
 front:q.take i=(ps.take j).filter (λg=>!p g)
 back:q.drop j=ps.drop j
theorem zX (l:List bK) (j:Nat) (h:j<l.length):l.take (j+1)=l.take j++[aW l j]:=by
 grind [List.take_add_one,VC]
theorem vk.start {ps:List bK} {i:Nat} (hi:i<ps.length) (hg:p (aW ps i)=true) (hno:∀j,j<i->p (aW ps j)=false):vk p ps ps i (i+1):=by
 refine⟨rfl,ω,hi,?_,rfl⟩;have:∀k,k<=i->(ps.take k).filter (λg=>!p g)=ps.take k:=λk=>by
  induction k with
  | zero=>grind
  | succ k ih =>
   grind [zX]
 grind [zX]
theorem vk.at {ps:List bK} {i j:Nat} (h:vk p ps q i j) (hj:j<ps.length):aW q j=aW ps j:=by
 have e:(q.drop j)[0]?=(ps.drop j)[0]?:=by rw[h.back]
 grind [VC]
theorem vk.skip {ps:List bK} {i j:Nat} (h:vk p ps q i j) (hj:j<ps.length) (hg:p (aW ps j)=true):vk p ps q i (j+1):=by
 refine⟨h.len,by have:=h.lt;omega,hj,?_,?_⟩
 . grind [zX,front]
 rw[<- P5,<- P5,h.back]
theorem vk.keep {ps:List bK} {i j:Nat} (h:vk p ps q i j) (hj:j<ps.length) (hg:p (aW ps j)=false):vk p ps (q.set i (aW ps j)) (i+1) (j+1):=by
 have b:=h.lt;have r:=h.len;refine⟨Γ,ω,hj,?_,?_⟩
 . grind [zX,List.take_set,List.set_eq_of_length_le,List.length_take,front]
 rw[List.drop_set_of_lt ω,<- P5,<- P5,h.back]
theorem vk.done {ps:List bK} {i:Nat} (h:vk p ps q i ps.length):q.take i=iu ps p:=by
 rw[h.front,sW];rfl
theorem Yk (q:List bK) (i:Nat) (g:bK) (hi:i<q.length):(q.set i g).flatMap bC=(((q.flatMap bC).set (i*3) (I g.page)).set (i*3+1) (I g.kind)).set (i*3+2) (I g.loc):=by
 have h1:=kW bC 3 lC gJ ⟨g.page,(aW q i).kind,(aW q i).loc⟩ 0 (I g.page) ω q i hi rfl;have h2:=kW bC 3 lC gJ ⟨g.page,g.kind,(aW q i).loc⟩ 1 (I g.kind) ω (q.set i ⟨g.page,(aW q i).kind,(aW q i).loc⟩) i Γ (by
  rw[jI,Qp hi];rfl)
 rw[rD,h1] at h2;have h3:=kW bC 3 lC gJ g 2 (I g.loc) ω (q.set i ⟨g.page,g.kind,(aW q i).loc⟩) i Γ (by
  rw[jI,Qp hi];rfl)
 simp_all
theorem aaT {ps:List bK} (h:∀j,j<ps.length->p (aW ps j)=false):iu ps p=ps:=by
 unfold iu;rw[List.filter_eq_self];intro g hg;obtain⟨k,hk,rfl⟩:=jE gJ hg
 grind [aW]
theorem adA (F:FuncId) (E:List Value) (x:Nat) (hFE:(F=300/\E=[.pointer (some (Ad x 0))])\/(F=285/\E=[.pointer (some (Ad x 0))])\/(F=269/\E=[])) (P:bK->Bool) (es:List bK) (ao:Option Addr) (cap:Nat) (w:World) (h:dE bC 3 gJ w ao es) (hl:es.length<=1000000)
  (hC:∀V e,Below w.heap.size w V->Calls prog F (Value.agg #[I e.page,I e.kind,I e.loc]::E).toArray V λr w'=>r=.returned (.bool (P e))/\Below V.heap.size V w') :
  Calls prog 186 #[.slice ao es.length cap,.func (.func F) #[] E.toArray] w λe w' =>
   Below w.heap.size w w'/\((e=.returned (I (-1))/\∀j,j<es.length->P (aW es j)=false)\/∃i:Nat,i<es.length/\e=.returned (I (i:Int))/\P (aW es i)=true/\∀j,j<i->P (aW es j)=false):=by
 have HH:=ai h;have HC:=ai hC;clear h hC;rcases hFE with⟨rfl,rfl⟩ | ⟨rfl,rfl⟩ | ⟨rfl,rfl⟩
 all_goals
  go_enter func186,ntmps186;go_wp2;go_loopw [8] (λiv wr=>∃k:Nat,k<=es.length/\iv=I (k:Int)/\(∀j,j<k->P (aW es j)=false)/\Below w.heap.size w wr) (λiv _=>es.length-(intOf iv).toNat)
  case atStart=>grind [Below.refl]
  case round =>
   obtain⟨k,hk,rfl,y,hb⟩:=hrel;have sS:=ai y;have HB:=ai hb;clear y;by_cases hlt:k<es.length
   . have Il:(k:Int)<(es.length:Int):=by omega
     obtain⟨eb,eo,A,q,dZ⟩:=HH.o ω;subst A;have y0:=(hb.cell (p:=(Ad eb (eo+k*3+0))) q).trans (dZ k hlt 0 ω);have y1:=(hb.cell (p:=(Ad eb (eo+k*3+1))) q).trans (dZ k hlt 1 ω);have y2:=(hb.cell (p:=(Ad eb (eo+k*3+2))) q).trans (dZ k hlt 2 ω);rw[jt] at y0;have vd:=ai (HC.o wr (aW es k) hb);obtain⟨G,hG⟩:=ex (P (aW es k));rw[<- hG] at vd;have HG:=ai hG;obtain⟨E,hE⟩:=ex (aW es k);have x0:wr.cell? (Ad eb (eo+k*3))=some (I E.page):=by rw[hE];exact y0
     have x1:wr.cell? (Ad eb (eo+k*3+1))=some (I E.kind):=by rw[hE];exact y1
     have x2:wr.cell? (Ad eb (eo+k*3+2))=some (I E.loc):=by rw[hE];exact y2
     rw[<- hE] at vd;clear hG hE hb y0 y1 y2 dZ;cases G with
     | true =>
      go_wp2_with ((first | go_at_call 300 | go_at_call 285 | go_at_call 269);refine vd.o.mono ?_;rintro e w1 ⟨rfl,b⟩;have dz:=ai (HB.o.trans (b.mono HB.o.size));clear b)
      go_ret;exact⟨dz.o,.inr ⟨k,hlt,rfl,HG.o.symm,sS.o⟩⟩
     | false =>
      go_wp2_with ((first | go_at_call 300 | go_at_call 285 | go_at_call 269);refine vd.o.mono ?_;rintro e w1 ⟨rfl,b⟩;have dz:=ai (HB.o.trans (b.mono HB.o.size));clear b)
      grind [intOf,Hid.o]
   obtain rfl:k=es.length:=by omega
   clear hb;go_wp2;go_ret;exact⟨HB.o,.inl ⟨rfl,sS.o⟩⟩
theorem aaU {es:List bK} {ao:Option Addr} {cap:Nat} {w:World} (h:w.ownsRow lo 174 3 (.slice ao es.length cap) es.length (es.flatMap bC)):dE bC 3 gJ w ao es:=by
 obtain⟨a,c,e,_,hr⟩:=pq bC (λ_=>rfl) gJ h
 grind
theorem Uj (F:FuncId) (E:List Value) (x:Nat) (hFE:(F=300/\E=[.pointer (some (Ad x 0))])\/(F=285/\E=[.pointer (some (Ad x 0))])\/(F=269/\E=[])) (lo:Nat) (ps:List bK) (p:bK->Bool) (vp:Value) (w:World) (h:w.ownsRow lo 174 3 vp ps.length (ps.flatMap bC)) (hC:∀V e,aI (bN vp) w V->Calls prog F (Value.agg #[I e.page,I e.kind,I e.loc]::E).toArray V λr w'=>r=.returned (.bool (p e))/\Below V.heap.size V w') (hl:ps.length<=100000) :
  Calls prog 281 #[vp,.func (.func F) #[] E.toArray] w (oW lo vp (iu ps p) w):=by
 obtain⟨ao,cap,rfl,ad,T⟩:=bh h;have VK:=ai (adA F E x hFE p ps ao cap w (aaU h) ω (λV e hV=>hC V e (aI.cA hV)));have HH:=ai h;have HC:=ai hC;obtain⟨P,hP⟩:=ex (oW lo (.slice ao ps.length cap) (iu ps p) w);have HP:Hid (∀e w',oW lo (.slice ao ps.length cap) (iu ps p) w e w'->P e w'):=λe w' h=>by simp_all
 rw[<- hP];have Q:=ai T;clear h hC hP T;by_cases hall:∀j,j<ps.length->p (aW ps j)=false
 . have Su:Hid (Calls prog 186 #[.slice ao ps.length cap,.func (.func F) #[] E.toArray] w λe w'=>e=.returned (I (-1))/\Below w.heap.size w w'):=VK.o.mono λe w' ⟨hb,hh⟩=>by
    grind
   have UG:=ai (aaT hall);clear hall VK;rcases hFE with⟨rfl,rfl⟩ | ⟨rfl,rfl⟩ | ⟨rfl,rfl⟩
   all_goals
    go_enter func281,ntmps281;go_wp2_with (go_at_call 186;refine Su.o.mono ?_;rintro e w1 ⟨rfl,J⟩;have dz:=ai J;clear J);exact HP.o _ _ ⟨_,rfl,by rw[UG.o];exact aI.row (aI.cA (D:=λ_=>False) dz.o) HH.o (λ_ _ g=>g),aI.cA dz.o,λb hb=>.inl hb⟩
 have Su:Hid (Calls prog 186 #[.slice ao ps.length cap,.func (.func F) #[] E.toArray] w λe w'=>∃i:Nat,e=.returned (I (i:Int))/\vk p ps ps i (i+1)/\Below w.heap.size w w'):=VK.o.mono λe w' ⟨hb,hh⟩=>by
  grind [vk.start]
 have Y:0<ps.length:=by
  grind
 obtain⟨pb,rfl,hlo,al⟩:=Q.o Y;clear hall VK Q;rcases hFE with⟨rfl,rfl⟩ | ⟨rfl,rfl⟩ | ⟨rfl,rfl⟩
 all_goals
  go_enter func281,ntmps281;go_wp2_with (go_at_call 186;refine Su.o.mono ?_;rintro e w1 ⟨i1,rfl,M,J⟩;have dz:=ai J;have Dh:=ai M;have a7:=M.le;have ah:((i1:Int)==-1)=false:=ρ;clear J M);go_loopw [5,6] (λiv jv wr=>∃(i j:Nat) (q:List bK),iv=I (i:Int)/\jv=I (j:Int)/\vk p ps q i j/\wr.ownsRow lo 174 3 (.slice (some (Ad pb 0)) ps.length cap) ps.length (q.flatMap bC)/\aI (λb=>b=pb) w wr) (λ_ jv _=>ps.length-(intOf jv).toNat)
  case atStart=>exact⟨i1,i1+1,ps,rfl,by go_num,Dh.o,aI.row (aI.cA (D:=λ_=>False) dz.o) HH.o (λ_ _ g=>g),aI.cA dz.o⟩
  case round =>
   obtain⟨i,j,q,rfl,rfl,hf,y,J9⟩:=hrel;have ap:=hf.lt;have ar:=hf.le;have HF:=ai hf;have HR:=ai y;have HK:=ai J9;clear Dh dz a7;by_cases hlt:j<ps.length
   . have ae:(j:Int)<(ps.length:Int):=by omega
     have an:(i:Int)<(ps.length:Int):=by omega
     have K:=hf.len;have L:∀V:World,V.ownsRow lo 174 3 (.slice (some (Ad pb 0)) ps.length cap) ps.length (q.flatMap bC)->∀k,k<ps.length->V.cell? (Ad pb (k*3))=some (I (aW q k).page)/\V.cell? (Ad pb (k*3+1))=some (I (aW q k).kind)/\V.cell? (Ad pb (k*3+2))=some (I (aW q k).loc):=λV hV k hk=>by
      rw[<- K] at hV;exact⟨kF bC lC gJ hV k 0 ω ω,kF bC lC gJ hV k 1 ω ω,kF bC lC gJ hV k 2 ω ω⟩
     have a8:=ai L;obtain⟨c0,c1,c2⟩:=L wr y j hlt;rw[hf.at hlt] at c0 c1 c2;have aj:pb<wr.heap.size:=(y.lt pb rfl).2;have ag:¬pb=wr.heap.size:=by omega
     have HA:=ai ((aN wr.heap.size wr).alloc (aJ _) (.cells #[I (aW ps j).page,I (aW ps j).kind,I (aW ps j).loc] 174));have vd:=ai (HC.o (wr.alloc (.cells #[I (aW ps j).page,I (aW ps j).kind,I (aW ps j).loc] 174)) (aW ps j) ((J9.trans (aI.cA (D:=λb=>b=pb) HA.o) (λ_ _ g=>g)).mono (λb _ e=>by subst e;rfl)));have BX:=ai (bG wr #[I (aW ps j).page,I (aW ps j).kind,I (aW ps j).loc] 174);have W:=ai (hf.skip hlt);have N:=ai (hf.keep hlt);generalize p (aW ps j)=G at vd W N;generalize aW ps j=g at c0 c1 c2 vd N HA BX;clear y J9 L hf;cases G with
     | true =>
      go_wp2_with ((first | go_at_call 300 | go_at_call 285 | go_at_call 269);refine vd.o.mono ?_;rintro e w2 ⟨rfl,B⟩;have iI:=ai (HA.o.trans (B.mono HA.o.size));clear B)
      go_roundw
      case rel=>exact⟨i,j+1,q,rfl,by go_num,W.o (by trivial),aI.row (aI.cA (D:=λ_=>False) iI.o) HR.o (λ_ _ g=>g),HK.o.trans (aI.cA (D:=λb=>b=pb) iI.o) (λ_ _ g=>g)⟩
      grind [intOf]
     | false =>
      go_wp2_with ((first | go_at_call 300 | go_at_call 285 | go_at_call 269);refine vd.o.mono ?_;rintro e w2 ⟨rfl,B⟩;have iI:=ai (HA.o.trans (B.mono HA.o.size));have Ii:=ai (aI.row (aI.cA (D:=λ_=>False) iI.o) HR.o (λ_ _ g=>g));have a9:=a8.o _ Ii.o i ω;obtain⟨d0,d1,aq⟩:=a9;have d2:=iN Ii.o (i*3);have d3:=iN Ii.o (i*3+1);have ab:=iN Ii.o (i*3+2);have a0:=aO BX.o B (aM BX.o);obtain⟨d4,d5,d6⟩:=uo a0;clear B a0)
      go_roundw
      case rel =>
       refine⟨i+1,j+1,q.set i g,by go_num,by go_num,N.o (by trivial),?_,?_⟩
       . grind [Yk,fI,Hid.o]
       exact(((HK.o.trans (aI.cA (D:=λb=>b=pb) iI.o) (λ_ _ g=>g)).trans (aI.set (λb=>b=pb) w2 (Ad pb (i*3)) _ rfl) (λ_ _ g=>g)).trans (aI.set (λb=>b=pb) _ (Ad pb (i*3+1)) _ rfl) (λ_ _ g=>g)).trans (aI.set (λb=>b=pb) _ (Ad pb (i*3+2)) _ rfl) (λ_ _ g=>g)
      grind [intOf]
   obtain rfl:j=ps.length:=by omega
   have K:=hf.len;have a1:=hf.done;obtain⟨A,R,Z,a5,a3⟩:∃A:Array Value,A.size=cap*3/\wr.heap[pb]?=some (.cells A 174 (0,0))/\cap<=maxLen/\A.toList.take (ps.length*3)=q.flatMap bC:=by
    rcases y.2 with⟨h0,_⟩ | ⟨g,aa,A,hv,hb,hg,h1,h2,h3,h4⟩
    . omega
    grind
   have a4:A.toList.length=cap*3:=R;have a2:∀ty c,(Builtin.clear_ #[97] ty #[.slice (some (Ad pb (i*3))) (ps.length-i) c]).run prog wr=.ok (.tuple #[]) (wr.setRow pb (splice A.toList (i*3) (jG [I 0,I 0,I 0] (ps.length-i))).toArray):=λty c=>Mn (P:=prog) wr 97 ty 174 (.agg #[I 0,I 0,I 0]) underlying97 aib Δ Δ pb (i*3) (ps.length-i) c A.toList 174 ω (by
    grind [Value.cells])
   obtain⟨S,hS⟩:=ex (splice A.toList (i*3) (jG [I 0,I 0,I 0] (ps.length-i)));rw[<- hS] at a2;have a6:S.length=cap*3:=by
    grind [length_splice,mA]
   have O:S.take (i*3)=(iu ps p).flatMap bC:=by
    rw[<- a1,<- EG,<- a3,List.take_take,We ω,hS]
    grind [splice]
   have X:(iu ps p).length=i:=by grind
   have U:(wr.setRow pb S.toArray).heap[pb]?=some (.cells S.toArray 174 (0,0)):=pW wr pb _ _ _ _ Z;have eW:Hid (P (.returned (.slice (some (Ad pb 0)) i cap)) (wr.setRow pb S.toArray)):=HP.o _ _ ⟨_,rfl,by
    rw[X,<- O];exact⟨Γ,.inr ⟨pb,cap,S.toArray,rfl,hlo,U,ω,a5,ω,ξ⟩⟩,(J9.mono (λb _ e=>by subst e;rfl)).trans (EH wr pb S.toArray) (λb _ e=>by subst e;rfl),λb hb=>.inl hb⟩
   have af:¬cap=i:=by omega
   have ac:(i:Int)<=(ps.length:Int):=by omega
   have am:i<=cap:=by omega
   clear hf y J9 HF HR HK Z a3 a1 hS a6 O X U K R a4 Su HP HH HC;go_wp2_with (at_builtin;refine afH _ rfl _ 97 rfl _ rfl (a2 _ _) ?_);exact eW.o
end Go.Proofs.YtlgoihmkgaaemaaGreat
