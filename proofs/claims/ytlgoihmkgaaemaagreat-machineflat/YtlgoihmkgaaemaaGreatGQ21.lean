import Derived.Test.YtlgoihmkgaaemaaGreatGQ20
set_option maxHeartbeats 20000000
set_option linter.unusedVariables false
set_option maxRecDepth 100000
set_option linter.unusedSimpArgs false
namespace Go.Proofs.YtlgoihmkgaaemaaGreat
open Go.RowKit Tryz
variable {α:Type} {cell:α->List Value} {k t ts F O:Nat} {Z:Value}
theorem xe {α:Type} (a b:List α) (n:Nat) (h:a.length=n):(a++b).take n=a:=by grind
theorem YM {α:Type} (a b:List α) (n:Nat) (h:a.length=n):(a++b).drop n=b:=by grind
theorem acf {α:Type} (R Y X:List α) (a b:Nat) (hb:b=a+Y.length) (h:b+X.length<=R.length):(splice (splice R a Y) b X).take (b+X.length)=R.take a++(Y++X):=by
 subst hb;have h1:(splice R a Y).take (a+Y.length)=R.take a++Y:=by
  unfold splice;rw[<- uH];exact xe _ _ _ Γ
 unfold splice at h1 ⊢;rw[h1,<- uH,uH (R.take a) Y X];exact xe _ _ _ (by rw[ft,o7,ft];omega)
theorem Wn {α:Type} (R Y X:List α) (a b:Nat) (hb:b=a+Y.length) (h:b+X.length<=R.length):(splice (splice R b X) a Y).take (b+X.length)=R.take a++(Y++X):=by
 subst hb;have h1:(splice R (a+Y.length) X).take a=R.take a:=by
  grind [splice]
 have h2:(splice R (a+Y.length) X).drop (a+Y.length)=X++R.drop (a+Y.length+X.length):=by
  grind [splice]
 have h3:splice (splice R (a+Y.length) X) a Y=R.take a++(Y++(X++R.drop (a+Y.length+X.length))):=by
  rw[<- h2,<- h1];rfl
 rw[h3,<- uH,<- uH,uH (R.take a) Y X];exact xe _ _ _ Γ
theorem Po (hl:∀l,(cell l).length=k) (ps:List α) (i:Nat):(ps.flatMap cell).drop (i*k)=(ps.drop i).flatMap cell:=by
 induction ps generalizing i with
 | nil=>simp
 | cons a r ih =>
  cases i with
  | zero=>simp
  | succ i=>rw[o8,aaS,<- ih i,TP,TN,<- ND,YM _ _ _ (hl a)]
theorem CA (hl:∀l,(cell l).length=k) (ps:List α) (i:Nat):(ps.flatMap cell).take (i*k)=(ps.take i).flatMap cell:=by
 induction ps generalizing i with
 | nil=>simp
 | cons a r ih =>
  cases i with
  | zero=>simp
  | succ i=>rw[o8,aaR,o8,<- ih i,TP];grind
theorem CB (w:World) (g:Nat) (cs:Array Value):aH (λb=>b=g) w (w.setRow g cs):=⟨rfl,rfl,rfl,by simp_all,λb _ hn=>setRow_other w g b cs hn⟩
theorem Tm (he:BW cell k t ts F O Z) (lo:Nat) (ps zs:List α) (pb zb cap cz wz i:Nat) (w:World) (h:w.ownsRow lo t k (.slice (some (Ad pb 0)) ps.length cap) ps.length (ps.flatMap cell)) (hz:w.ownsRow wz t k (.slice (some (Ad zb 0)) zs.length cz) zs.length (zs.flatMap cell)) (hne:zb≠pb) (hi:i<ps.length) (hm:1<=zs.length) (hn:ps.length<=100000) (KI:zs.length<=100000) (hroom:ps.length+zs.length<=cap) :
  Calls prog F #[.slice (some (Ad pb 0)) ps.length cap,I (i:Int),.slice (some (Ad zb 0)) zs.length cz] w (xI cell k t lo (.slice (some (Ad pb 0)) ps.length cap) (ps.take i++(zs++ps.drop i)) w):=by
 have B:=ai (A7 (α:=Unit) hz);have QU:=ai (A7 (α:=Unit) h);have H1:=ai (he.cells zs);have a0:=ai (he.cells ps);obtain⟨q,af,a4,X,y,hlo,ag⟩:∃q:Array Value,q.size=cap*k/\w.heap[pb]?=some (.cells q t (0,0))/\cap<=maxLen/\q.toList.take (ps.length*k)=ps.flatMap cell/\lo<=pb/\ps.length<=cap:=by
  rcases h.2 with⟨h0,_⟩ | ⟨g,a8,q,hv,hb,hg,h1,h2,h3,h4⟩
  . cases h0
  grind
 obtain⟨L,M⟩:∃L:Array Value,w.heap[zb]?=some (.cells L t (0,0))  :=by
  rcases hz.2 with⟨h0,_⟩ | ⟨g,a8,zc,hv,hb,hg,h1,h2,h3,h4⟩
  . cases h0
  grind
 have N:=fp cell k he.len ps;have G:=fp cell k he.len zs;obtain⟨R,hR⟩:=ex q.toList;have a7:R.length=cap*k:=by grind
 have W:w.heap[pb]?=some (.cells R.toArray t (0,0)):=by rw[hR];omega
 rw[<- hR] at y;obtain⟨n,a1⟩:=ex ps.length;obtain⟨m,a2⟩:=ex zs.length;obtain⟨XS,K⟩:=ex (ps.flatMap cell);obtain⟨ZS,T⟩:=ex (zs.flatMap cell);rw[<- T] at B H1 G;rw[<- K] at QU N y a0;rw[<- a2] at B G hm KI hroom ⊢;rw[<- a1] at QU N y hi hn hroom ag ⊢;have e1:(i+m)*k=i*k+m*k:=uG _ _ _;have e2:(n-i)*k+i*k=n*k:=by rw[<- uG,T7 ω]
 have e3:(n+m)*k=n*k+m*k:=uG _ _ _;have e4:(n+m)*k<=cap*k:=aaW _ hroom;have e5:0<cap*k:=Nat.mul_pos ω he.zc.2;obtain⟨DS,A⟩:=ex (XS.drop (i*k));have a9:DS.length=(n-i)*k:=by rw[A,Gn,N];omega
 obtain⟨R1,Qg⟩:=ex (splice R ((i+m)*k) DS);have ab:R1.length=cap*k:=by rw[Qg,length_splice _ _ _ ω];exact a7
 obtain⟨R2,Q⟩:=ex (splice R1 (i*k) ZS);have aa:R2.length=cap*k:=by rw[Q,length_splice _ _ _ ω];omega
 have a5:R2.take ((n+m)*k)=XS.take (i*k)++(ZS++DS):=by
  have:=Wn R ZS DS (i*k) ((i+m)*k) ω ω;rw[<- Qg,<- Q,show(i+m)*k+DS.length=(n+m)*k by omega] at this;rw[this,<- y,TR,Kw ω]
 have a6:∀ty dc sc,(Builtin.copy_ #[ts,ts] ty #[.slice (some (Ad pb ((i+m)*k))) (n+m-(i+m)) dc,.slice (some (Ad pb (i*k))) (n+m-i) sc]).run prog w.drew=.ok (goInt (n-i)) (w.drew.setRow pb R1.toArray):=λty dc sc=>by
  have:=wE (P:=prog) w.drew ts ts ty t k he.und he.size pb ((i+m)*k) (n+m-(i+m)) dc (some (Ad pb (i*k))) (n+m-i) sc R t W DS (by rw[a9];congr 1;simp only[D3];split <;> omega) (λ_=>⟨_,rfl,λj u hu=>by
   obtain⟨ad,e,hc⟩:=QU.o ω;injection e with e;subst e;have:=hc (i*k+j) u (by rw[A,T8] at hu;exact hu);rw[Cj] at this ⊢;rw[nj] at this;exact this⟩) ω (λu hu=>a0.o u (by rw[A] at hu;exact aaV hu))
  rw[this,<- Qg];congr 2;simp only[D3];split <;> omega
 have J:(w.drew.setRow pb R1.toArray).heap[pb]?=some (.cells R1.toArray t (0,0)):=xo w.drew pb _ _ _ _ W;obtain⟨W1,Y⟩:=ex (w.drew.setRow pb R1.toArray);rw[<- Y] at a6 J;have U:aH (λb=>b=pb) w W1:=by rw[Y];exact(aH.drew _ w).trans (CB w.drew pb R1.toArray) (λ_ _ g=>g)
 have ae:∀ty dc,(Builtin.copy_ #[ts,ts] ty #[.slice (some (Ad pb (i*k))) (n+m-i) dc,.slice (some (Ad zb 0)) m cz]).run prog W1=.ok (goInt m) (W1.setRow pb R2.toArray):=λty dc=>by
  have:=wE (P:=prog) W1 ts ts ty t k he.und he.size pb (i*k) (n+m-i) dc (some (Ad zb 0)) m cz R1 t J ZS (by rw[G];congr 1;simp only[D3];split <;> omega) (λ_=>⟨_,rfl,λj u hu=>by
   obtain⟨ad,e,hc⟩:=B.o ω;injection e with e;subst e;have:=hc j u hu;exact U.cell this (by rw[Cj];exact hne)⟩) ω H1.o
  rw[this,<- Q];congr 2;simp only[D3];split <;> omega
 have a3:(W1.setRow pb R2.toArray).heap[pb]?=some (.cells R2.toArray t (0,0)):=xo W1 pb _ _ _ _ J;have fV:Hid (xI cell k t lo (.slice (some (Ad pb 0)) n cap) (ps.take i++(zs++ps.drop i)) w (.returned (.slice (some (Ad pb 0)) (n+m) cap)) (W1.setRow pb R2.toArray)):=by
  have hl:(ps.take i++(zs++ps.drop i)).length=n+m:=by rw[ft,ft,o7,Gn,<- a1,<- a2];omega
  refine⟨_,rfl,?_,(U.trans (CB W1 pb _) (λ_ _ g=>g)).mono (λb _ e=>by rw[e];rfl),λb hb=>.inl hb⟩;rw[hl];have hx:(ps.take i++(zs++ps.drop i)).flatMap cell=R2.take ((n+m)*k):=by
   rw[a5,K,T,A,K,CA he.len,Po he.len,tH,tH]
  rw[hx];exact⟨by rw[o7,aa];omega,.inr ⟨pb,cap,R2.toArray,rfl,hlo,a3,hroom,X,ω,ξ⟩⟩
 generalize xI cell k t lo (.slice (some (Ad pb 0)) n cap) (ps.take i++(zs++ps.drop i)) w=P at fV ⊢;have ac:∀lb cb,(callFunc O #[.slice (some (Ad zb 0)) m cz,.slice (some (Ad pb ((i+m)*k))) lb cb]).run prog w=.ok (.value (.bool false)) w:=λlb cb=>by
  have hr:=Lib.run_overlaps_apart w ts 4 t he.und k he.size (Ad zb 0) (Ad pb ((i+m)*k)) m cz lb cb hne t t L.size q.size (by simp[World.shape?,M]) (by simp[World.shape?,a4]) ω (bG M 0) (bG M L.size);rcases he.way with⟨rfl,rfl,rfl,rfl,rfl,rfl⟩ | ⟨rfl,rfl,rfl,rfl,rfl,rfl⟩
  . rw[run_callFunc_extern func303 κ κ κ (e:=Extern.SlicesOverlaps.overlaps #[97,97] #[4]) κ,hr];rfl
  rw[run_callFunc_extern func320 κ κ κ (e:=Extern.SlicesOverlaps.overlaps #[140,140] #[4]) κ,hr];rfl
 have al:((m:Int)==0)=false:=by rw[gT];omega
 have am:((i:Int)==(n:Int))=false:=by rw[gT];omega
 have au:IntKind.i64.wrap ((i:Int)+(m:Int))=(i:Int)+(m:Int):=sJ _ ω;have ap:(0:Int)<=(i:Int)+(m:Int):=by omega
 have an:i<=n:=by omega
 have aw:((i:Int)+(m:Int)).toNat=i+m:=by omega
 have aj:¬(cap=i+m):=by omega
 have ao:(i:Int)<=(n:Int)+(m:Int):=by omega
 have av:¬(cap=i):=by omega
 have ah:¬((cap:Int)<(n:Int)+(m:Int)):=by omega
 have ay:cap<=9223372036854775807:=by unfold maxLen at X;omega
 clear e1 e2 e3 e4 e5 h hz a1 a2 K T A a9 Qg Q Y hR a7 W ab aa a5 N G y a4 af M J a3 U B QU H1 a0 X;rcases he.way with⟨rfl,rfl,rfl,rfl,rfl,rfl⟩ | ⟨rfl,rfl,rfl,rfl,rfl,rfl⟩
 all_goals
  (first | go_enter func299,ntmps299 | go_enter func316,ntmps316)
  go_wp2_with (simp only[ac])
  go_region_law (refine XJ rfl _ _ _ _ rfl _ _ (by simp[Act.eval,Act.put]) (by simp[Act.eval,Act.put]) (a6 _ _ _) ?_)
  go_wp2_with (at_builtin;refine SY _ rfl _ _ _ _ rfl _ _ rfl rfl (ae _ _) ?_)
  exact fV.o
open Go.RowKit
variable {α:Type} {cell:α->List Value} {k t ts F O:Nat} {Z:Value}
theorem Wo (he:BW cell k t ts F O Z) (lo:Nat) (ps zs:List α) (pb zb cap cz wz i:Nat) (w:World) (h:w.ownsRow lo t k (.slice (some (Ad pb 0)) ps.length cap) ps.length (ps.flatMap cell)) (hz:w.ownsRow wz t k (.slice (some (Ad zb 0)) zs.length cz) zs.length (zs.flatMap cell)) (hlo:lo<=w.heap.size) (hi:i<ps.length) (hm:1<=zs.length) (hn:ps.length<=100000) (KI:zs.length<=100000) (hroom:cap<ps.length+zs.length) :
  Calls prog F #[.slice (some (Ad pb 0)) ps.length cap,I (i:Int),.slice (some (Ad zb 0)) zs.length cz] w (xI cell k t lo (.slice (some (Ad pb 0)) ps.length cap) (ps.take i++(zs++ps.drop i)) w):=by
 have B:=ai (A7 (α:=Unit) hz);have QU:=ai (A7 (α:=Unit) h);have H1:=ai (he.cells zs);have a3:=ai (he.cells ps);have am:pb<w.heap.size:=(h.lt pb rfl).2;have an:zb<w.heap.size:=(hz.lt zb rfl).2;have av:ps.length<=cap:=by
  grind [aZ]
 have q:=fp cell k he.len ps;have J:=fp cell k he.len zs;obtain⟨n,a5⟩:=ex ps.length;obtain⟨m,a6⟩:=ex zs.length;obtain⟨XS,L⟩:=ex (ps.flatMap cell);obtain⟨ZS,T⟩:=ex (zs.flatMap cell);rw[<- T] at B H1 J;rw[<- L] at QU q a3;rw[<- a6] at B J hm KI hroom ⊢;rw[<- a5] at QU q hi hn hroom av ⊢;obtain⟨i0,a9,ag,Y,X⟩:=kI he.info;have e1:(i+m)*k=i*k+m*k:=uG _ _ _;have e2:(n-i)*k+i*k=n*k:=by rw[<- uG,T7 ω]
 have e3:(n+m)*k=n*k+m*k:=uG _ _ _;have e4:(n+m-i)*k+i*k=(n+m)*k:=by rw[<- uG,T7 ω]
 have ao:Z.cells.toList.length=k:=he.zc.1;have N:(Builtin.firstCells i0.size i (.slice (some (Ad pb 0)) i cap)).run prog w.drew=.ok (XS.take (i*k)).toArray w.drew:=by
  rw[Y];exact aoi w.drew k i (Ad pb 0) i cap (XS.take (i*k)) (by rw[o7,q];omega) (λj u hu=>by
   rw[List.getElem?_take] at hu;split at hu
   . obtain⟨ad,e,hc⟩:=QU.o ω;injection e with e;subst e;exact hc j u hu
   grind)
 have a4:i+(n+m-i)=n+m:=by omega
 have af:(n:Int)+(m:Int)-(i:Int)=((n+m-i:Nat):Int):=by omega
 obtain⟨G,hG⟩:=ex (grownCap w (n+m) cap t);obtain⟨R,hR⟩:∃R:List Value,R=XS.take (i*k)++js Z.cells.toList (n+m-i)++js Z.cells.toList (G-(n+m)):=⟨_,rfl⟩;have al:n+m<=G:=by rw[hG];exact grownCap_ge w _ _ _
 have U:G<=maxLen:=by rw[hG];exact grownCap_le_maxLen w (n+m) cap _ (by unfold maxLen;omega)
 have e5:(G-(n+m))*k+(n+m)*k=G*k:=by rw[<- uG,T7 ω]
 have ac:R.length=G*k:=by
  rw[hR,ft,ft,mj,mj,o7,q,ao];omega
 have a8:R.take (i*k)=XS.take (i*k):=by
  rw[hR,uH];exact xe _ _ _ (by rw[o7,q];omega)
 have a2:∀ty,(Builtin.append_ #[ts,3] ty #[.slice (some (Ad pb 0)) i cap,I ((n:Int)+(m:Int)-(i:Int))]).run prog w=.ok (.slice (some (Ad w.heap.size 0)) (n+m) G) (w.drew.alloc (.cells R.toArray t)):=λty=>by
  have h:=Lib.run_append_grow_zeros (P:=prog) w ts 3 ty t i0 _ .i64 .i64 he.und underlying3 a9 ag (some (Ad pb 0)) i cap (XS.take (i*k)) N (n+m-i) ω (by rw[Y];exact he.zc.2) ω ω (by rw[X];omega) (by rw[X,a4];exact growslice_fits hroom ω);rw[a4,<- hG] at h;rw[af,h];congr 3;rw[hR];have e1:=Fa Z.cells (n+m-i) (by rw[he.zc.1];exact he.zc.2);have e2:=Fa Z.cells (G-(n+m)) (by rw[he.zc.1];exact he.zc.2);apply Array.toList_inj.1;rw[Array.toList_append,Array.toList_append,e1,e2]
 have A:(w.drew.alloc (.cells R.toArray t)).heap[w.heap.size]?=some (.cells R.toArray t (0,0)):=bH w.drew _ _;obtain⟨W0,a0⟩:=ex (w.drew.alloc (.cells R.toArray t));rw[<- a0] at a2 A;have Q:Below w.heap.size w W0:=by rw[a0];exact(aN _ _).drew.alloc (aK _) _
 obtain⟨H,hH⟩:=ex w.heap.size;rw[<- hH] at a2 A hlo;obtain⟨DS,y⟩:=ex (XS.drop (i*k));have ae:DS.length=(n-i)*k:=by rw[y,Gn,q];omega
 obtain⟨R1,Qg⟩:=ex (splice R (i*k) ZS);have ap:R1.length=G*k:=by rw[Qg,length_splice _ _ _ ω];exact ac
 obtain⟨R2,M⟩:=ex (splice R1 ((i+m)*k) DS);have aj:R2.length=G*k:=by rw[M,length_splice _ _ _ ω];omega
 have aa:R2.take ((n+m)*k)=XS.take (i*k)++(ZS++DS):=by
  have:=acf R ZS DS (i*k) ((i+m)*k) ω ω;rw[<- Qg,<- M,show(i+m)*k+DS.length=(n+m)*k by omega] at this;rw[this,a8]
 have ab:∀ty dc,(Builtin.copy_ #[ts,ts] ty #[.slice (some (Ad H (i*k))) (n+m-i) dc,.slice (some (Ad zb 0)) m cz]).run prog W0=.ok (goInt m) (W0.setRow H R1.toArray):=λty dc=>by
  have:=wE (P:=prog) W0 ts ts ty t k he.und he.size H (i*k) (n+m-i) dc (some (Ad zb 0)) m cz R t A ZS (by rw[J];congr 1;simp only[D3];split <;> omega) (λ_=>⟨_,rfl,λj u hu=>by
   obtain⟨ad,e,hc⟩:=B.o ω;injection e with e;subst e;have:=hc j u hu;rw[Cj] at this ⊢;exact(Q.cell (p:=(Ad zb (0+j))) an).trans this⟩) ω H1.o
  rw[this,<- Qg];congr 2;simp only[D3];split <;> omega
 have K:(W0.setRow H R1.toArray).heap[H]?=some (.cells R1.toArray t (0,0)):=xo W0 H _ _ _ _ A;obtain⟨W1,a1⟩:=ex (W0.setRow H R1.toArray);rw[<- a1] at ab K;have W:Below w.heap.size w W1:=by rw[a1];exact below_setRow Q ω _
 have au:∀ty dc sc,(Builtin.copy_ #[ts,ts] ty #[.slice (some (Ad H ((i+m)*k))) (n+m-(i+m)) dc,.slice (some (Ad pb (i*k))) (n-i) sc]).run prog W1.drew=.ok (goInt (n-i)) (W1.drew.setRow H R2.toArray):=λty dc sc=>by
  have:=wE (P:=prog) W1.drew ts ts ty t k he.und he.size H ((i+m)*k) (n+m-(i+m)) dc (some (Ad pb (i*k))) (n-i) sc R1 t K DS (by rw[ae];congr 1;simp only[D3];split <;> omega) (λ_=>⟨_,rfl,λj u hu=>by
   obtain⟨ad,e,hc⟩:=QU.o ω;injection e with e;subst e;have:=hc (i*k+j) u (by rw[y,T8] at hu;exact hu);rw[Cj] at this ⊢;rw[nj] at this;exact(W.cell (p:=(Ad pb (i*k+j))) am).trans this⟩) ω (λu hu=>a3.o u (by rw[y] at hu;exact aaV hu))
  rw[this,<- M];congr 2;simp only[D3];split <;> omega
 have a7:(W1.drew.setRow H R2.toArray).heap[H]?=some (.cells R2.toArray t (0,0)):=xo W1.drew H _ _ _ _ K;have ah:Below w.heap.size w (W1.drew.setRow H R2.toArray):=below_setRow W.drew ω _;have fV:Hid (xI cell k t lo (.slice (some (Ad pb 0)) n cap) (ps.take i++(zs++ps.drop i)) w (.returned (.slice (some (Ad H 0)) (n+m) G)) (W1.drew.setRow H R2.toArray)):=by
  have hl:(ps.take i++(zs++ps.drop i)).length=n+m:=by rw[ft,ft,o7,Gn,<- a5,<- a6];omega
  refine⟨_,rfl,?_,aH.bQ ah,λb hb=>.inr (by have:some H=some b:=hb;injection this;omega)⟩;rw[hl];have hx:(ps.take i++(zs++ps.drop i)).flatMap cell=R2.take ((n+m)*k):=by
   rw[aa,L,T,y,L,CA he.len,Po he.len,tH,tH]
  rw[hx];exact⟨by rw[o7,aj];omega,.inr ⟨H,G,R2.toArray,rfl,hlo,a7,al,U,ω,ξ⟩⟩
 obtain⟨P,hP⟩:=ex (xI cell k t lo (.slice (some (Ad pb 0)) n cap) (ps.take i++(zs++ps.drop i)) w);rw[<- hP] at fV ⊢;have az:((m:Int)==0)=false:=by rw[gT];omega
 have aP:((i:Int)==(n:Int))=false:=by rw[gT];omega
 have aE:IntKind.i64.wrap ((i:Int)+(m:Int))=(i:Int)+(m:Int):=sJ _ ω;have aC:(0:Int)<=(i:Int)+(m:Int):=by omega
 have aG:((i:Int)+(m:Int)).toNat=i+m:=by omega
 have ay:¬(G=i+m):=by omega
 have aB:(i:Int)<=(n:Int):=by omega
 have aF:¬(cap=i):=by omega
 have Fu:¬(G=i):=by omega
 have aw:(cap:Int)<(n:Int)+(m:Int):=by omega
 have aL:G<=9223372036854775807:=by unfold maxLen at U;omega
 clear e1 e2 e3 e4 e5 h hz a5 a6 L T y ae Qg M a1 a0 hR ac a8 ap aj aa q J hP A K a7 Q W ah B QU H1 a3 U hG hH N a9 ag Y X a4 af;rcases he.way with⟨rfl,rfl,rfl,rfl,rfl,rfl⟩ | ⟨rfl,rfl,rfl,rfl,rfl,rfl⟩
 all_goals
  (first | go_enter func299,ntmps299 | go_enter func316,ntmps316)
  go_wp2_with (first
   | (at_builtin;refine Lib.wpList_append_run _ rfl _ _ _ _ rfl _ _ rfl rfl _ _ (a2 _) ?_)
   | (at_builtin;refine SY _ rfl _ _ _ _ rfl _ _ rfl rfl (ab _ _) ?_))
  go_region_law (refine XJ rfl _ _ _ _ rfl _ _ (by simp[Act.eval,Act.put]) (by simp[Act.eval,Act.put]) (au _ _ _) ?_)
  go_wp2;exact fV.o
theorem Me (he:BW cell k t ts F O Z) (lo:Nat) (ps zs:List α) (vp vz:Value) (wz i:Nat) (w:World) (h:w.ownsRow lo t k vp ps.length (ps.flatMap cell)) (hz:w.ownsRow wz t k vz zs.length (zs.flatMap cell)) (hlo:lo<=w.heap.size) (hne:∀b,cA vz b->¬cA vp b) (hi:i<=ps.length) (hm:1<=zs.length) (hn:ps.length<=100000) (KI:zs.length<=100000) :
  Calls prog F #[vp,I (i:Int),vz] w (xI cell k t lo vp (ps.take i++(zs++ps.drop i)) w):=by
 obtain⟨ao,cap,rfl,C4,hg⟩:=aZ h;obtain⟨az,cz,rfl,_,q⟩:=aZ hz;by_cases c:i=ps.length
 . subst c;have e:ps.take ps.length++(zs++ps.drop ps.length)=ps++zs:=by grind
   rw[e];exact YL he lo ps zs ao az cap cz wz w h hz hlo hm hn KI
 obtain⟨pb,rfl,_,_⟩:=hg ω;obtain⟨zb,rfl,_,_⟩:=q ω;by_cases d:ps.length+zs.length<=cap
 . exact Tm he lo ps zs pb zb cap cz wz i w h hz (λe=>hne zb rfl (by rw[e];rfl)) ω hm hn KI d
 exact Wo he lo ps zs pb zb cap cz wz i w h hz hlo ω hm hn KI ω
abbrev QM (lo:Nat) (vp:Value) (l:List bJ) (w:World):Ending->World->Prop:=xI bZ 3 174 lo vp l w
theorem aoK:BW bZ 3 174 97 299 303 (.agg #[I 0,I 0,I 0]):=⟨qi,λl u hy=>by
 simp[bZ] at hy;rcases hy with rfl | rfl | rfl <;> rfl,.inl ⟨rfl,rfl,rfl,rfl,rfl,rfl⟩⟩
theorem amK (w:World):(zeroValue 174).run prog w=.ok (.agg #[I 0,I 0,I 0]) w:=by rfl
variable {α:Type} {p:α->Bool} {ps q:List α} {i j:Nat} (d:α)
structure sZ (p:α->Bool) (ps q:List α) (i j:Nat):Prop where
 len:q.length=ps.length
 lt:i<j
 le:j<=ps.length
 front:q.take i=(ps.take j).filter (λg=>!p g)
 back:q.drop j=ps.drop j
theorem yZ (l:List α) (j:Nat) (h:j<l.length):l.take (j+1)=l.take j++[l.getD j d]:=by
 grind [List.take_add_one]
theorem sZ.start (hi:i<ps.length) (hg:p (ps.getD i d)=true) (hno:∀j,j<i->p (ps.getD j d)=false):sZ p ps ps i (i+1):=by
 refine⟨rfl,ω,hi,?_,rfl⟩;have:∀k,k<=i->(ps.take k).filter (λg=>!p g)=ps.take k:=λk=>by
  induction k with
  | zero=>grind
  | succ k ih =>
   intro hk;rw[yZ d ps k ω,T6,ih ω];simp only[List.filter,hno k ω,aaD]
 rw[yZ d ps i hi,T6,this i (aK _)];simp only[List.filter,hg,Bool.not_true,Ch]
theorem sZ.at (h:sZ p ps q i j) (hj:j<ps.length):q.getD j d=ps.getD j d:=by
 have e:(q.drop j)[0]?=(ps.drop j)[0]?:=by rw[h.back]
 grind
theorem sZ.skip (h:sZ p ps q i j) (hj:j<ps.length) (hg:p (ps.getD j d)=true):sZ p ps q i (j+1):=by
 refine⟨h.len,by have:=h.lt;omega,hj,?_,?_⟩
 . rw[yZ d ps j hj,T6,h.front];simp only[List.filter,hg,Bool.not_true,Ch]
 rw[<- ND,<- ND,h.back]
theorem sZ.keep (h:sZ p ps q i j) (hj:j<ps.length) (hg:p (ps.getD j d)=false):sZ p ps (q.set i (ps.getD j d)) (i+1) (j+1):=by
 have b:=h.lt;have y:=h.len;refine⟨Γ,ω,hj,?_,?_⟩
 . rw[yZ d ps j hj,T6,<- h.front,yZ d _ i (by rw[dE];omega),List.take_set,List.set_eq_of_length_le (by rw[o7];omega)];simp only[List.filter,hg,aaD]
   grind
 rw[List.drop_set_of_lt ω,<- ND,<- ND,h.back]
theorem acg (q:List bJ) (i:Nat) (g:bJ) (hi:i<q.length):(q.set i g).flatMap bZ=(((q.flatMap bZ).set (i*3) (I g.page)).set (i*3+1) (I g.kind)).set (i*3+2) (I g.loc):=by
 have h1:=jf bZ 3 qi iD ⟨g.page,(bc q i).kind,(bc q i).loc⟩ 0 (I g.page) ω q i hi rfl;have h2:=jf bZ 3 qi iD ⟨g.page,g.kind,(bc q i).loc⟩ 1 (I g.kind) ω (q.set i ⟨g.page,(bc q i).kind,(bc q i).loc⟩) i Γ (by
  rw[cB,KG hi];rfl)
 rw[pS,h1] at h2;have h3:=jf bZ 3 qi iD g 2 (I g.loc) ω (q.set i ⟨g.page,g.kind,(bc q i).loc⟩) i Γ (by
  rw[cB,KG hi];rfl)
 simp_all
theorem aeY {ps:List bJ} {p:bJ->Bool} (h:∀j,j<ps.length->p (bc ps j)=false):fB ps p=ps:=by
 unfold fB;rw[List.filter_eq_self];intro g hg;obtain⟨k,hk,rfl⟩:=mZ iD hg
 grind [bc]
theorem ahQ (F:FuncId) (E:List Value) (x:Nat) (hFE:(F=300/\E=[.pointer (some (Ad x 0))])\/(F=285/\E=[.pointer (some (Ad x 0))])\/(F=269/\E=[])) (P:bJ->Bool) (es:List bJ) (ao:Option Addr) (cap:Nat) (w:World) (h:eX bZ 3 iD w ao es) (hl:es.length<=1000000)
  (hC:∀V e,Below w.heap.size w V->Calls prog F (Value.agg #[I e.page,I e.kind,I e.loc]::E).toArray V λr w'=>r=.returned (.bool (P e))/\Below V.heap.size V w') :
  Calls prog 186 #[.slice ao es.length cap,.func (.func F) #[] E.toArray] w λe w' =>
   Below w.heap.size w w'/\((e=.returned (I (-1))/\∀j,j<es.length->P (bc es j)=false)\/∃i:Nat,i<es.length/\e=.returned (I (i:Int))/\P (bc es i)=true/\∀j,j<i->P (bc es j)=false):=by
 have HH:=ai h;have HC:=ai hC;clear h hC;rcases hFE with⟨rfl,rfl⟩ | ⟨rfl,rfl⟩ | ⟨rfl,rfl⟩
 all_goals
  go_enter func186,ntmps186;go_wp2;go_loopw [8] (λiv wr=>∃k:Nat,k<=es.length/\iv=I (k:Int)/\(∀j,j<k->P (bc es j)=false)/\Below w.heap.size w wr) (λiv _=>es.length-(intOf iv).toNat)
  case atStart=>grind [Below.refl]
  case round =>
   obtain⟨k,hk,rfl,y,hb⟩:=hrel;have sk:=ai y;have HB:=ai hb;clear y;by_cases hlt:k<es.length
   . have C2:(k:Int)<(es.length:Int):=by omega
     obtain⟨eb,eo,A,q,di⟩:=HH.o ω;subst A;have y0:=(hb.cell (p:=(Ad eb (eo+k*3+0))) q).trans (di k hlt 0 ω);have y1:=(hb.cell (p:=(Ad eb (eo+k*3+1))) q).trans (di k hlt 1 ω);have y2:=(hb.cell (p:=(Ad eb (eo+k*3+2))) q).trans (di k hlt 2 ω);rw[lB] at y0;have uM:=ai (HC.o wr (bc es k) hb);obtain⟨G,hG⟩:=ex (P (bc es k));rw[<- hG] at uM;have HG:=ai hG;obtain⟨E,hE⟩:=ex (bc es k);have x0:wr.cell? (Ad eb (eo+k*3))=some (I E.page):=by rw[hE];exact y0
     have x1:wr.cell? (Ad eb (eo+k*3+1))=some (I E.kind):=by rw[hE];exact y1
     have x2:wr.cell? (Ad eb (eo+k*3+2))=some (I E.loc):=by rw[hE];exact y2
     rw[<- hE] at uM;clear hG hE hb y0 y1 y2 di;cases G with
     | true =>
      go_wp2_with ((first | go_at_call 300 | go_at_call 285 | go_at_call 269);refine uM.o.mono ?_;rintro e w1 ⟨rfl,b⟩;have cD:=ai (HB.o.trans (b.mono HB.o.size));clear b)
      go_ret;exact⟨cD.o,.inr ⟨k,hlt,rfl,HG.o.symm,sk.o⟩⟩
     | false =>
      go_wp2_with ((first | go_at_call 300 | go_at_call 285 | go_at_call 269);refine uM.o.mono ?_;rintro e w1 ⟨rfl,b⟩;have cD:=ai (HB.o.trans (b.mono HB.o.size));clear b)
      grind [intOf,Hid.o]
   obtain rfl:k=es.length:=by omega
   clear hb;go_wp2;go_ret;exact⟨HB.o,.inl ⟨rfl,sk.o⟩⟩
theorem aeZ {lo:Nat} {es:List bJ} {ao:Option Addr} {cap:Nat} {w:World} (h:w.ownsRow lo 174 3 (.slice ao es.length cap) es.length (es.flatMap bZ)):eX bZ 3 iD w ao es:=by
 obtain⟨a,c,e,_,hr⟩:=qy bZ (λ_=>rfl) iD h
 grind
theorem YN (F:FuncId) (E:List Value) (x:Nat) (hFE:(F=300/\E=[.pointer (some (Ad x 0))])\/(F=285/\E=[.pointer (some (Ad x 0))])\/(F=269/\E=[])) (lo:Nat) (ps:List bJ) (p:bJ->Bool) (vp:Value) (w:World) (h:w.ownsRow lo 174 3 vp ps.length (ps.flatMap bZ)) (hC:∀V e,aH (cA vp) w V->Calls prog F (Value.agg #[I e.page,I e.kind,I e.loc]::E).toArray V λr w'=>r=.returned (.bool (p e))/\Below V.heap.size V w') (hl:ps.length<=100000) :
  Calls prog 281 #[vp,.func (.func F) #[] E.toArray] w (QM lo vp (fB ps p) w):=by
 obtain⟨ao,cap,rfl,au,a3⟩:=aZ h;have Mj:=ai (ahQ F E x hFE p ps ao cap w (aeZ h) ω (λV e hV=>hC V e (aH.bQ hV)));have HH:=ai h;have HC:=ai hC;obtain⟨P,hP⟩:=ex (QM lo (.slice ao ps.length cap) (fB ps p) w);have HP:Hid (∀e w',QM lo (.slice ao ps.length cap) (fB ps p) w e w'->P e w'):=λe w' h=>by simp_all
 rw[<- hP];have W:=ai a3;clear h hC hP a3;by_cases hall:∀j,j<ps.length->p (bc ps j)=false
 . have Y2:Hid (Calls prog 186 #[.slice ao ps.length cap,.func (.func F) #[] E.toArray] w λe w'=>e=.returned (I (-1))/\Below w.heap.size w w'):=Mj.o.mono λe w' ⟨hb,hh⟩=>by
    grind
   have QW:=ai (aeY hall);clear hall Mj;rcases hFE with⟨rfl,rfl⟩ | ⟨rfl,rfl⟩ | ⟨rfl,rfl⟩
   all_goals
    go_enter func281,ntmps281;go_wp2_with (go_at_call 186;refine Y2.o.mono ?_;rintro e w1 ⟨rfl,J⟩;have cD:=ai J;clear J);exact HP.o _ _ ⟨_,rfl,by rw[QW.o];exact aH.row (aH.bQ (D:=λ_=>False) cD.o) HH.o (λ_ _ g=>g),aH.bQ cD.o,λb hb=>.inl hb⟩
 have Y2:Hid (Calls prog 186 #[.slice ao ps.length cap,.func (.func F) #[] E.toArray] w λe w'=>∃i:Nat,e=.returned (I (i:Int))/\sZ p ps ps i (i+1)/\Below w.heap.size w w'):=Mj.o.mono λe w' ⟨hb,hh⟩=>by
  rcases hh with⟨_,g⟩ | ⟨i,hi,rfl,hg,a5⟩
  . exact(hall g).elim
  exact⟨i,rfl,sZ.start _ hi hg a5,hb⟩
 have a0:0<ps.length:=by
  grind
 obtain⟨pb,rfl,hlo,ag⟩:=W.o a0;clear hall Mj W;rcases hFE with⟨rfl,rfl⟩ | ⟨rfl,rfl⟩ | ⟨rfl,rfl⟩
 all_goals
  go_enter func281,ntmps281;go_wp2_with (go_at_call 186;refine Y2.o.mono ?_;rintro e w1 ⟨i1,rfl,M,J⟩;have cD:=ai J;have Aw:=ai M;have a9:=M.le;have an:((i1:Int)==-1)=false:=ρ;clear J M);go_loopw [5,6] (λiv jv wr=>∃(i j:Nat) (q:List bJ),iv=I (i:Int)/\jv=I (j:Int)/\sZ p ps q i j/\wr.ownsRow lo 174 3 (.slice (some (Ad pb 0)) ps.length cap) ps.length (q.flatMap bZ)/\aH (λb=>b=pb) w wr) (λ_ jv _=>ps.length-(intOf jv).toNat)
  case atStart=>exact⟨i1,i1+1,ps,rfl,by go_num,Aw.o,aH.row (aH.bQ (D:=λ_=>False) cD.o) HH.o (λ_ _ g=>g),aH.bQ cD.o⟩
  case round =>
   obtain⟨i,j,q,rfl,rfl,hf,y,yz⟩:=hrel;have am:=hf.lt;have ap:=hf.le;have HF:=ai hf;have HR:=ai y;have HK:=ai yz;clear Aw cD a9;by_cases hlt:j<ps.length
   . have al:(j:Int)<(ps.length:Int):=by omega
     have af:(i:Int)<(ps.length:Int):=by omega
     have N:=hf.len;have K:∀V:World,V.ownsRow lo 174 3 (.slice (some (Ad pb 0)) ps.length cap) ps.length (q.flatMap bZ)->∀k,k<ps.length->V.cell? (Ad pb (k*3))=some (I (bc q k).page)/\V.cell? (Ad pb (k*3+1))=some (I (bc q k).kind)/\V.cell? (Ad pb (k*3+2))=some (I (bc q k).loc):=λV hV k hk=>by
      rw[<- N] at hV;exact⟨gw bZ qi iD hV k 0 ω ω,gw bZ qi iD hV k 1 ω ω,gw bZ qi iD hV k 2 ω ω⟩
     have a4:=ai K;obtain⟨c0,c1,c2⟩:=K wr y j hlt;rw[show bc q j=bc ps j from hf.at _ hlt] at c0 c1 c2;have aj:pb<wr.heap.size:=(y.lt pb rfl).2;have aw:¬pb=wr.heap.size:=by omega
     have HA:=ai ((aN wr.heap.size wr).alloc (aK _) (.cells #[I (bc ps j).page,I (bc ps j).kind,I (bc ps j).loc] 174));have uM:=ai (HC.o (wr.alloc (.cells #[I (bc ps j).page,I (bc ps j).kind,I (bc ps j).loc] 174)) (bc ps j) ((yz.trans (aH.bQ (D:=λb=>b=pb) HA.o) (λ_ _ g=>g)).mono (λb _ e=>by subst e;rfl)));have BX:=ai (bH wr #[I (bc ps j).page,I (bc ps j).kind,I (bc ps j).loc] 174);have Y:Hid (p (bc ps j)=true->sZ p ps q i (j+1)):=hf.skip _ hlt;have L:Hid (p (bc ps j)=false->sZ p ps (q.set i (bc ps j)) (i+1) (j+1)):=hf.keep _ hlt;generalize p (bc ps j)=G at uM Y L;generalize bc ps j=g at c0 c1 c2 uM L HA BX;clear y yz K hf;cases G with
     | true =>
      go_wp2_with ((first | go_at_call 300 | go_at_call 285 | go_at_call 269);refine uM.o.mono ?_;rintro e w2 ⟨rfl,B⟩;have iJ:=ai (HA.o.trans (B.mono HA.o.size));clear B)
      go_roundw
      case rel=>exact⟨i,j+1,q,rfl,by go_num,Y.o (by trivial),aH.row (aH.bQ (D:=λ_=>False) iJ.o) HR.o (λ_ _ g=>g),HK.o.trans (aH.bQ (D:=λb=>b=pb) iJ.o) (λ_ _ g=>g)⟩
      grind [intOf]
     | false =>
      go_wp2_with ((first | go_at_call 300 | go_at_call 285 | go_at_call 269);refine uM.o.mono ?_;rintro e w2 ⟨rfl,B⟩;have iJ:=ai (HA.o.trans (B.mono HA.o.size));have Fm:=ai (aH.row (aH.bQ (D:=λ_=>False) iJ.o) HR.o (λ_ _ g=>g));have a7:=a4.o _ Fm.o i ω;obtain⟨d0,d1,ac⟩:=a7;have d2:=ie Fm.o (i*3);have d3:=ie Fm.o (i*3+1);have ad:=ie Fm.o (i*3+2);have O:=aU BX.o B (aQ BX.o);obtain⟨d4,d5,d6⟩:=zn O;clear B O)
      go_roundw
      case rel =>
       refine⟨i+1,j+1,q.set i g,by go_num,by go_num,L.o (by trivial),?_,?_⟩
       . grind [acg,dJ,Hid.o]
       exact(((HK.o.trans (aH.bQ (D:=λb=>b=pb) iJ.o) (λ_ _ g=>g)).trans (aH.set (λb=>b=pb) w2 (Ad pb (i*3)) _ rfl) (λ_ _ g=>g)).trans (aH.set (λb=>b=pb) _ (Ad pb (i*3+1)) _ rfl) (λ_ _ g=>g)).trans (aH.set (λb=>b=pb) _ (Ad pb (i*3+2)) _ rfl) (λ_ _ g=>g)
      grind [intOf]
   obtain rfl:j=ps.length:=by omega
   have N:=hf.len;have R:q.take i=fB ps p:=by rw[hf.front,qJ];rfl
   obtain⟨A,a1,U,a6,X⟩:∃A:Array Value,A.size=cap*3/\wr.heap[pb]?=some (.cells A 174 (0,0))/\cap<=maxLen/\A.toList.take (ps.length*3)=q.flatMap bZ:=by
    rcases y.2 with⟨h0,_⟩ | ⟨g,ab,A,hv,hb,hg,h1,h2,h3,h4⟩
    . omega
    grind
   have a8:A.toList.length=cap*3:=a1;have Q:∀ty c,(Builtin.clear_ #[97] ty #[.slice (some (Ad pb (i*3))) (ps.length-i) c]).run prog wr=.ok (.tuple #[]) (wr.setRow pb (splice A.toList (i*3) (js [I 0,I 0,I 0] (ps.length-i))).toArray):=λty c=>ED (P:=prog) wr 97 ty 174 (.agg #[I 0,I 0,I 0]) underlying97 amK Δ Δ pb (i*3) (ps.length-i) c A.toList 174 ω (by
    grind [Value.cells])
   obtain⟨S,hS⟩:=ex (splice A.toList (i*3) (js [I 0,I 0,I 0] (ps.length-i)));rw[<- hS] at Q;have aa:S.length=cap*3:=by
    grind [length_splice,mj]
   have a2:S.take (i*3)=(fB ps p).flatMap bZ:=by
    rw[<- R,<- CA qi,<- X,TR,Kw ω,hS]
    grind [splice]
   have Z:(fB ps p).length=i:=by grind
   have T:(wr.setRow pb S.toArray).heap[pb]?=some (.cells S.toArray 174 (0,0)):=xo wr pb _ _ _ _ U;have fV:Hid (P (.returned (.slice (some (Ad pb 0)) i cap)) (wr.setRow pb S.toArray)):=HP.o _ _ ⟨_,rfl,by
    rw[Z,<- a2];exact⟨Γ,.inr ⟨pb,cap,S.toArray,rfl,hlo,T,ω,a6,ω,ξ⟩⟩,(yz.mono (λb _ e=>by subst e;rfl)).trans (CB wr pb S.toArray) (λb _ e=>by subst e;rfl),λb hb=>.inl hb⟩
   have ae:¬cap=i:=by omega
   have ah:(i:Int)<=(ps.length:Int):=by omega
   have av:i<=cap:=by omega
   clear hf y yz HF HR HK U X R hS aa a2 Z T N a1 a8 Y2 HP HH HC;go_wp2_with (at_builtin;refine Qm _ rfl _ 97 rfl _ rfl (Q _ _) ?_);exact fV.o
theorem Je (kd a:Int):∀ss:List dA,(bU ss kd a).length<=(Ap ss).length
 | []=>yt _
 | s::r=>by
  have ih:=Je kd a r
  grind [fW,Ap,mD]
theorem VP {k:aT} (h:aW k):(Ap k.aj).length<=512:=by
 have h1:=JH k.aj.length k.aj rfl (λs hs=>Am (h.each s hs));have h2:=h.room;have h3:=h.c;omega
theorem AV {k:aT} (h:aW k):(∀i,i<k.frames.length->0<=(aM k.frames i).refs/\(aM k.frames i).refs<=512)/\(∀i,i<k.slots.length->0<=(bI k.slots i).refs/\(bI k.slots i).refs<=512):=by
 have h1:=VP h;refine⟨λi hi=>?_,λi hi=>?_⟩
 . have:=(h.EK i hi).refs
   grind [Je]
 have:=(h.slt i hi).refs
 grind [Je]
theorem qg {k:aT} (h:aW k) {j:Nat} (hj:j<k.aj.length):(ak k.aj j).bh.length<=512:=by
 have h4:=VP h;have:∀(l:List dA) (j:Nat),j<l.length->(ak l j).bh.length<=(Ap l).length:=λl=>by
  induction l with
  | nil=>grind
  | cons s r ih =>
   grind [Ap,ak]
 grind
theorem Z6.kp {α:Type} {f:α->List Value} {k:Nat} {d:α} {w w':World} {ao:Option Addr} {l:List α} {D:Nat->Prop} (h:eX f k d w ao l) (hk:aH D w w') (hn:∀b off,ao=some (Ad b off)->¬D b):eX f k d w' ao l:=λhl=>by
 obtain⟨b,off,e,hb,hi⟩:=h hl;refine⟨b,off,e,dV hb hk.size,λi hi' j hj=>?_⟩;exact(KH (hk.block b hb (hn b off e))).trans (hi i hi' j hj)
theorem ET {lo mb:Nat} {tt:TypeId} {X:List Value} (F:FuncId) (E:List Value) (x:Nat) (hFE:(F=300/\E=[.pointer (some (Ad x 0))])\/(F=285/\E=[.pointer (some (Ad x 0))])\/(F=269/\E=[]))
  (k:aT) (S:gJ) (w:World) (j:Nat) (p:bJ->Bool) (h:bR lo mb tt X w S k) (hR:aW k) (hj:j<k.aj.length) (hC:∀V e,aH (λb=>S.lab b≠.no) w V->Calls prog F (Value.agg #[I e.page,I e.kind,I e.loc]::E).toArray V λr w'=>r=.returned (.bool (p e))/\Below V.heap.size V w') :
  Calls prog 268 #[.pointer (some (Ad mb 0)),I (j:Int),.func (.func F) #[] E.toArray] w (fZ lo mb tt X w S (.tuple #[]) (df k j p)):=by
 have hlo:lo<=w.heap.size:=eJ h.lo_le (Nw h.lt);have a9:=hR.c;have aa:=qg hR hj;obtain⟨pb,cP,A⟩:=h.toKr.sp ω;obtain⟨ae,ce,XL,a6⟩:=h.toKr.bh hj;have c3:=h.c3;rw[A.v] at c3;have a2:=A.x2 j hj;rw[XL] at a2;have af:(j:Int)<(k.aj.length:Int):=by omega
 obtain⟨es,B⟩:=ex ((ak k.aj j).bh);rw[<- B] at a2 aa a6 XL;have Z:Hid (∀V n,n<es.length->bR lo mb tt X V S (dx k es p n)->V.cell? (Ad pb (j*3+2))=some (.slice ae es.length ce)/\eX bZ 3 iD V ae es):=λV n hn hV=>by
  have q:j<(dx k es p n).aj.length:=by rw[mF];exact hj
  obtain⟨J,a4,A'⟩:=hV.toKr.sp ω;have e:J=pb:=by
   have:=A'.v;rw[A.v] at this
   grind
  subst e;have x2:=A'.x2 j q;rw[XL] at x2;obtain⟨aw,ay,a8,al⟩:=hV.toKr.bh q;rw[mF,<- B] at a8 al
  grind
 have Y6:Hid (∀V n,n<es.length->bR lo mb tt X V S (dx k es p n)->Calls prog 270 #[.pointer (some (Ad mb 0)),.agg #[I (bc es n).page,I (bc es n).kind,I (bc es n).loc],I (-1)] V (nH lo mb tt X V S (.tuple #[]) (dN (dx k es p n) (bc es n)))):=λV n hn hV=>by
  have ab:bc es n∈(ak k.aj j).bh:=by rw[<- B];exact kT hn
  have hb:=jn hR hj ab;have hr:=Jz k es p n;have hp:=yY hR hj p n Γ;rw[<- B] at hp;have hf:=AV hp;have az:∀i,i<(dx k es p n).frames.length->0<=(aM (dx k es p n).frames i).refs/\(aM (dx k es p n).frames i).refs<=512:=hf.1;have au:∀i,i<(dx k es p n).slots.length->0<=(bI (dx k es p n).slots i).refs/\(bI (dx k es p n).slots i).refs<=512:=hf.2;rw[<- JE];refine GV _ S V (bc es n) (-1) hV (λc=>?_) (λc=>?_) (.inr rfl) ⟨λc=>?_,λc=>?_⟩
  . omega
  . omega
  . grind
  grind
 have WI:=ai hC;have Y:Hid (∀V,bR lo mb tt X V S (dx k es p es.length)->cO S w S V->Calls prog 281 #[.slice ae es.length ce,.func (.func F) #[] E.toArray] V λe w'=>∃av nv cv,e=.returned (.slice av nv cv)/\∃S',bR lo mb tt X (w'.setCell (Ad pb (j*3+2)) (.slice av nv cv)) S' (df k j p)/\cO S w S' (w'.setCell (Ad pb (j*3+2)) (.slice av nv cv))/\w'.frozen? (Ad pb (j*3+2))=false/\(∃u,w'.cell? (Ad pb (j*3+2))=some u)):=λV hV y=>by
  have q:j<(dx k es p es.length).aj.length:=by rw[mF];exact hj
  have Q:=(hV.each j q).aD;rw[mF,<- B,XL] at Q;have M:∀b,cA (.slice ae es.length ce) b->S.lab b=.bh j:=λb hb=>hV.lE j q b Γ
  refine(YN F E x hFE lo es p (.slice ae es.length ce) V Q (λU e hU=>WI.o U e ?_) ω).mono λe w' ⟨v',h1,h2,h3,h4⟩=>?_
  . exact((y.kp.mono (λb _ g=>g)).trans hU (λb hb hx=>Γ))
  obtain⟨av,cv,rfl,_,_⟩:=aZ h2;obtain⟨J,a4,A'⟩:=hV.toKr.sp ω;have hP:S.vP=.slice (some (Ad pb 0)) k.aj.length cP:=A.v;have k1:aH (λb=>S.lab b=.bh j) V w':=h3.mono (λb _ hx=>M b hx);have sw:=hV.apq q hP k1 h2 (λb hb=>by
   rcases h4 b hb with g | g
   . exact .inl (M b g)
   exact .inr (hV.toKr.new g))
  have e1:({ dx k es p es.length with aj:=(dx k es p es.length).aj.set j (eD (ak (dx k es p es.length).aj j) (fB es p)) }:aT)=df k j p:=by
   unfold df lD
   grind
  refine⟨av,_,cv,h1,_,e1 ▸ sw.1,y.trans (sw.2 (λb hb hx=>?_)),?_,?_⟩
  . rcases h4 b hx with g | g
    . exact M b g
    omega
  . have a0:=hV.aj;rw[hP] at a0;have ag:=h.len;have:=k1.row a0 (λb hb e=>by
     have:S.lab b=.aj:=hV.lP b (by rw[hP];exact hb);rw[this] at e;simp at e)
    have ac:S.L.length=k.aj.length:=ag;rw[<- ac] at this;exact ie this _
  have ad:S.lab pb=.aj:=A.lab;have c2:=A'.x2 j q;have e:J=pb:=by
   have:=A'.v;rw[A.v] at this;injection this with e1 _ _;injection e1 with e1;injection e1 with e1 _ _;omega
  subst e;exact⟨_,k1.cell c2 (λe=>by have e:S.lab J=.bh j:=e;rw[ad] at e;simp at e)⟩
 have fV:Hid (∀V S',bR lo mb tt X V S' (df k j p)->cO S w S' V->fZ lo mb tt X w S (.tuple #[]) (df k j p) (.returned (.tuple #[])) V):=λV S' h1 h2=>⟨rfl,S',h1,h2⟩
 have a1:=ai (λV (hV:bR lo mb tt X V S (dx k es p es.length))=>(show V.cell? (Ad pb (j*3+2))=some (.slice ae es.length ce) from by
  have q:j<(dx k es p es.length).aj.length:=by rw[mF];exact hj
  obtain⟨J,a4,A'⟩:=hV.toKr.sp ω;have e:J=pb:=by
   have:=A'.v;rw[A.v] at this
   grind
  subst e;have x2:=A'.x2 j q
  grind))
 have tV:=ai h;have W:Hid (∀V n,bR lo mb tt X V S (dx k es p n)->∀V',Below V.heap.size V V'->bR lo mb tt X V' S (dx k es p n)):=λV n hV V' hb=>hV.below hb
 have He:Hid (∀n,p (bc es n)=true->dN (dx k es p n) (bc es n)=dx k es p (n+1)):=λn hn=>by
  show _=if p (bc es n)=true then _ else _
  grind
 have sk:Hid (∀n,p (bc es n)=false->dx k es p n=dx k es p (n+1)):=λn hn=>by
  show _=if p (bc es n)=true then _ else _
  grind
 generalize fZ lo mb tt X w S (.tuple #[]) (df k j p)=P at fV ⊢;generalize k.aj.length=np at c3 af;clear h hR a9 A XL a6 B hC hj hlo;rcases hFE with⟨rfl,rfl⟩ | ⟨rfl,rfl⟩ | ⟨rfl,rfl⟩
 all_goals
  go_enter func268,ntmps268;go_wp2;go_loopw [21] (λiv wr=>∃n:Nat,n<=es.length/\iv=I (n:Int)/\bR lo mb tt X wr S (dx k es p n)/\cO S w S wr) (λiv _=>es.length-(intOf iv).toNat)
  case atStart=>exact⟨0,ω,rfl,tV.o,cO.refl _ _⟩
  case round =>
   obtain⟨n,hn,rfl,uR,y⟩:=hrel;have T:=ai uR;have Nt:=ai y;by_cases hlt:n<es.length
   . have ap:(n:Int)<(es.length:Int):=by omega
     obtain⟨y2,a7⟩:=Z.o wr n hlt uR;obtain⟨eb,eo,ah,aB,di⟩:=a7 ω;subst ah;have x0:=di n hlt 0 ω;have x1:=di n hlt 1 ω;have x2:=di n hlt 2 ω;rw[lB] at x0;have HA:=ai ((aN wr.heap.size wr).alloc (aK _) (.cells #[I (bc es n).page,I (bc es n).kind,I (bc es n).loc] 174));have BX:=ai (bH wr #[I (bc es n).page,I (bc es n).kind,I (bc es n).loc] 174);have uM:=ai (WI.o (wr.alloc (.cells #[I (bc es n).page,I (bc es n).kind,I (bc es n).loc] 174)) (bc es n) ((y.trans (cO.below (S:=S) HA.o)).kp));have a5:=ai (λV=>Y6.o V n hlt);have R:=ai (He.o n);have a3:=ai (sk.o n);generalize p (bc es n)=G at uM R a3;obtain⟨e,he⟩:=ex (bc es n);have y0:wr.cell? (Ad eb (eo+n*3))=some (I e.page):=by rw[he];exact x0
     have y1:wr.cell? (Ad eb (eo+n*3+1))=some (I e.kind):=by rw[he];exact x1
     have y3:wr.cell? (Ad eb (eo+n*3+2))=some (I e.loc):=by rw[he];exact x2
     rw[<- he] at uM HA BX a5 R;clear he uR y a7 di x0 x1 x2 tV;cases G with
     | true =>
      go_wp2_with (first
       | ((first | go_at_call 300 | go_at_call 285 | go_at_call 269);refine uM.o.mono ?_;rintro r w1 ⟨rfl,K⟩;have cD:=ai (HA.o.trans (K.mono HA.o.size));have SQ:=aU BX.o K (aQ BX.o);obtain⟨d0,d1,d2⟩:=zn SQ;clear K SQ)
       | (go_at_call 270;refine(a5.o _ (W.o _ n T.o _ cD.o)).mono ?_;rintro r w2 ⟨rfl,N,O⟩;have uD:=ai N;have XI:=ai ((Nt.o.trans (cO.below (S:=S) cD.o)).trans O);clear N O))
      go_roundw
      case rel=>exact⟨n+1,ω,by go_num,R.o (by trivial) ▸ uD.o,XI.o⟩
      case measure=>simp[intOf];omega
     | false =>
      go_wp2_with ((first | go_at_call 300 | go_at_call 285 | go_at_call 269);refine uM.o.mono ?_;rintro r w1 ⟨rfl,K⟩;have cD:=ai (HA.o.trans (K.mono HA.o.size));clear K)
      go_roundw
      case rel=>exact⟨n+1,ω,by go_num,a3.o (by trivial) ▸ W.o _ n T.o _ cD.o,Nt.o.trans (cO.below (S:=S) cD.o)⟩
      case measure=>simp[intOf];omega
   obtain rfl:n=es.length:=by omega
   have y2:=a1.o wr uR;have am:=ai (Y.o wr uR y);clear uR y T Nt Y Z a1 Y6 WI tV W He sk;go_wp2_with (go_at_call 281;refine am.o.mono ?_;rintro r w2 ⟨av,nv,cv,rfl,S',N,O,ao,u2,an⟩;have uD:=ai N;have XI:=ai O;clear N O);refine yu (v:=.tuple #[]) (by simp[results,results268,go_sem]) rfl ?_;exact fV.o _ S' uD.o XI.o
end Go.Proofs.YtlgoihmkgaaemaaGreat
