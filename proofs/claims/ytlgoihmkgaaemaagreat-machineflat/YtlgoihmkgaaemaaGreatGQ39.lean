import Derived.Test.YtlgoihmkgaaemaaGreatGQ38
set_option maxHeartbeats 20000000
set_option linter.unusedVariables false
set_option maxRecDepth 100000
set_option linter.unusedSimpArgs false
namespace Go.Proofs.YtlgoihmkgaaemaaGreat
open Go.RowKit Tryz
def tZ (p n:Int) (g:dK):Bool:=decide (p<=g.page/\g.page<p+n)
theorem Mo (p n:Int) (g:dK) (x y:Nat) (w:World) (hx:w.cell? (Ad x 0)=some (I p)) (hy:w.cell? (Ad y 0)=some (I n)) (hp:0<=p) (hn:0<=n) (hpn:p+n<=1000) :
  Calls prog 319 #[.agg #[I g.page,.string g.data],.pointer (some (Ad x 0)),.pointer (some (Ad y 0))] w λe w'=>e=.returned (.bool (tZ p n g))/\Below w.heap.size w w':=by
 have A:x<w.heap.size:=jL w _ hx;have B:y<w.heap.size:=jL w _ hy;have b:¬x=w.heap.size:=by omega
 have q:¬y=w.heap.size:=by omega
 obtain⟨pg,d⟩:=g;have hw:IntKind.i64.wrap (p+n)=p+n:=sJ _ ω;have HB:=ai ((aN w.heap.size w).alloc (aK _) (.cells #[I pg,.string d] 148));unfold tZ;simp only;by_cases c1:p<=pg
 . by_cases c2:pg<p+n
   . rw[fD (show p<=pg/\pg<p+n from⟨c1,c2⟩)];go_enter func319,ntmps319;go_wp2;go_ret;exact⟨rfl,HB.o⟩
   rw[fE (show ¬(p<=pg/\pg<p+n) from λe=>c2 e.2)];go_enter func319,ntmps319;go_wp2;go_ret;exact⟨rfl,HB.o⟩
 rw[fE (show ¬(p<=pg/\pg<p+n) from λe=>c1 e.1)];go_enter func319,ntmps319;go_wp2;go_ret;exact⟨rfl,HB.o⟩
variable {f:ky} {hs:List bC} {en:Int} (lo:Nat)
theorem Q5 (ps:List dK) (p n:Int) (ao:Option Addr) (cap x y:Nat) (w:World) (h:w.ownsRow lo 148 2 (.slice ao ps.length cap) ps.length (ps.flatMap dg)) (hx:w.cell? (Ad x 0)=some (I p)) (hy:w.cell? (Ad y 0)=some (I n)) (hp:0<=p) (hn:0<=n) (hpn:p+n<=1000) (hl:ps.length<=100000) :
  Calls prog 322 #[.slice ao ps.length cap,.func (.func 319) #[] #[.pointer (some (Ad x 0)),.pointer (some (Ad y 0))]] w λe w' =>
   Below w.heap.size w w'/\((e=.returned (I (-1))/\∀j,j<ps.length->tZ p n (bo ps j)=false)\/∃i:Nat,i<ps.length/\e=.returned (I (i:Int))/\tZ p n (bo ps i)=true/\∀j,j<i->tZ p n (bo ps j)=false):=by
 have HH:=ai h;have HC:Hid (∀V g,Below w.heap.size w V->Calls prog 319 #[.agg #[I g.page,.string g.data],.pointer (some (Ad x 0)),.pointer (some (Ad y 0))] V λe w'=>e=.returned (.bool (tZ p n g))/\Below V.heap.size V w'):=λV g hV=>Mo p n g x y V ((hV.cell (p:=(Ad x 0)) (jL w _ hx)).trans hx) ((hV.cell (p:=(Ad y 0)) (jL w _ hy)).trans hy) hp hn hpn
 clear h hx hy;go_enter func322,ntmps322;go_wp2;go_loopw [8] (λiv wr=>∃k:Nat,k<=ps.length/\iv=I (k:Int)/\(∀j,j<k->tZ p n (bo ps j)=false)/\Below w.heap.size w wr) (λiv _=>ps.length-(intOf iv).toNat)
 case atStart=>exact⟨0,ω,rfl,λj hj=>ω,aN _ _⟩
 case round =>
  obtain⟨k,hk,rfl,B,hb⟩:=hrel;have sk:=ai B;have HB:=ai hb;clear B;by_cases hlt:k<ps.length
  . have C2:(k:Int)<(ps.length:Int):=by omega
    obtain⟨Fl,K,e0,_,hg⟩:=aZ HH.o;injection e0 with ea _ ec;obtain⟨g,F,_,_⟩:=hg ω;have J:ao=some (Ad g 0):=ea.trans F;clear ea ec hg F;subst J;have b:=aH.row (aH.bQ (D:=λ_=>False) hb) HH.o (λ_ _ q=>q);have c0:wr.cell? (Ad g (k*2))=some (I (bo ps k).page):=gw dg jz zk b k 0 hlt ω;have c1:wr.cell? (Ad g (k*2+1))=some (.string (bo ps k).data):=gw dg jz zk b k 1 hlt ω;have uM:=ai (HC.o wr (bo ps k) hb);obtain⟨G,hG⟩:=ex (tZ p n (bo ps k));rw[<- hG] at uM;have HG:=ai hG;generalize bo ps k=pg at c0 c1 uM;clear hG hb b;cases G with
    | true =>
     go_wp2_with (go_at_call 319;refine uM.o.mono ?_;rintro e w1 ⟨rfl,A⟩;have cD:=ai (HB.o.trans (A.mono HB.o.size));clear A)
     go_ret;exact⟨cD.o,.inr ⟨k,hlt,rfl,HG.o.symm,sk.o⟩⟩
    | false =>
     go_wp2_with (go_at_call 319;refine uM.o.mono ?_;rintro e w1 ⟨rfl,A⟩;have cD:=ai (HB.o.trans (A.mono HB.o.size));clear A)
     go_roundw
     case rel=>exact⟨k+1,ω,by go_num,λj hj=>by
      by_cases q:j=k
      . subst q;exact HG.o.symm
      exact sk.o j ω,cD.o⟩
     case measure=>simp[intOf];omega
  obtain rfl:k=ps.length:=by omega
  clear hb;go_wp2;go_ret;exact⟨HB.o,.inl ⟨rfl,sk.o⟩⟩
open Go.RowKit
theorem adb (q:List dK) (i:Nat) (g:dK) (hi:i<q.length):(q.set i g).flatMap dg=((q.flatMap dg).set (i*2) (I g.page)).set (i*2+1) (.string g.data):=by
 have h1:=jf dg 2 jz zk ⟨g.page,(bo q i).data⟩ 0 (I g.page) ω q i hi rfl;have h2:=jf dg 2 jz zk g 1 (.string g.data) ω (q.set i ⟨g.page,(bo q i).data⟩) i (by rw[dE];exact hi) (by
  rw[cB,KG hi];rfl)
 rw[pS,h1] at h2;exact h2
theorem af8 {ps:List dK} {p n:Int} (h:∀j,j<ps.length->tZ p n (bo ps j)=false):jy ps p n=ps:=by
 unfold jy;rw[List.filter_eq_self];intro g hg;obtain⟨k,hk,rfl⟩:=vI hg;have:=h k hk;unfold tZ at this;simp[this]
theorem Zg (ps:List dK) (p n:Int) (vp:Value) (x y:Nat) (w:World) (h:w.ownsRow lo 148 2 vp ps.length (ps.flatMap dg)) (hx:w.cell? (Ad x 0)=some (I p)) (hy:w.cell? (Ad y 0)=some (I n)) (hnx:¬dh vp x) (hny:¬dh vp y) (hp:0<=p) (hn:0<=n) (hpn:p+n<=1000) (hl:ps.length<=100000) :
  Calls prog 318 #[vp,.func (.func 319) #[] #[.pointer (some (Ad x 0)),.pointer (some (Ad y 0))]] w (Q6 lo vp (jy ps p n) w):=by
 obtain⟨ao,cap,rfl,av,a8⟩:=aZ h;have Mj:=ai (Q5 lo ps p n ao cap x y w h hx hy hp hn hpn hl);have HH:=ai h;have HX:=ai hx;have HY:=ai hy;have zB:=ai hnx;have a2:=ai hny;obtain⟨P,hP⟩:=ex (Q6 lo (.slice ao ps.length cap) (jy ps p n) w);have HP:Hid (∀e w',Q6 lo (.slice ao ps.length cap) (jy ps p n) w e w'->P e w'):=λe w' h=>by rw[hP];exact h
 rw[<- hP];have Y:=ai a8;clear h hx hy hP hnx hny a8;by_cases hall:∀j,j<ps.length->tZ p n (bo ps j)=false
 . have Y2:Hid (Calls prog 322 #[.slice ao ps.length cap,.func (.func 319) #[] #[.pointer (some (Ad x 0)),.pointer (some (Ad y 0))]] w λe w'=>e=.returned (I (-1))/\Below w.heap.size w w'):=Mj.o.mono λe w' ⟨hb,hh⟩=>by
    rcases hh with⟨rfl,_⟩ | ⟨i,hi,_,hg,_⟩
    . exact⟨rfl,hb⟩
    rw[hall i hi] at hg;cases hg
   have QW:=ai (af8 hall);clear hall Mj;go_enter func318,ntmps318;go_wp2_with (go_at_call 322;refine Y2.o.mono ?_;rintro e w1 ⟨rfl,J⟩;have cD:=ai J;clear J);exact HP.o _ _ ⟨_,rfl,by rw[QW.o];exact aH.row (aH.bQ (D:=λ_=>False) cD.o) HH.o (λ_ _ g=>g),aH.bQ cD.o,λb hb=>.inl hb⟩
 have Y2:Hid (Calls prog 322 #[.slice ao ps.length cap,.func (.func 319) #[] #[.pointer (some (Ad x 0)),.pointer (some (Ad y 0))]] w λe w'=>∃i:Nat,e=.returned (I (i:Int))/\sZ (tZ p n) ps ps i (i+1)/\Below w.heap.size w w'):=Mj.o.mono λe w' ⟨hb,hh⟩=>by
  rcases hh with⟨_,g⟩ | ⟨i,hi,rfl,hg,aa⟩
  . exact(hall g).elim
  exact⟨i,rfl,sZ.start _ hi hg aa,hb⟩
 have a3:0<ps.length:=by
  rcases Nat.eq_zero_or_pos ps.length with g | g
  . exact(hall (λj hj=>ω)).elim
  exact g
 obtain⟨pb,rfl,hlo,ah⟩:=Y.o a3;clear hall Mj Y;go_enter func318,ntmps318;go_wp2_with (go_at_call 322;refine Y2.o.mono ?_;rintro e w1 ⟨i1,rfl,R,J⟩;have cD:=ai J;have Aw:=ai R;have ac:=R.le;have ap:((i1:Int)==-1)=false:=(by rw[gT];omega);clear J R);go_loopw [5,6] (λiv jv wr=>∃(i j:Nat) (q:List dK),iv=I (i:Int)/\jv=I (j:Int)/\sZ (tZ p n) ps q i j/\wr.ownsRow lo 148 2 (.slice (some (Ad pb 0)) ps.length cap) ps.length (q.flatMap dg)/\aH (λb=>b=pb) w wr) (λ_ jv _=>ps.length-(intOf jv).toNat)
 case atStart=>exact⟨i1,i1+1,ps,rfl,by go_num,Aw.o,aH.row (aH.bQ (D:=λ_=>False) cD.o) HH.o (λ_ _ g=>g),aH.bQ cD.o⟩
 case round =>
  obtain⟨i,j,q,rfl,rfl,hf,B,yz⟩:=hrel;have an:=hf.lt;have au:=hf.le;have HF:=ai hf;have HR:=ai B;have HK:=ai yz;clear Aw cD ac;by_cases hlt:j<ps.length
  . have am:(j:Int)<(ps.length:Int):=by omega
    have ag:(i:Int)<(ps.length:Int):=by omega
    have T:=hf.len;have L:∀V:World,V.ownsRow lo 148 2 (.slice (some (Ad pb 0)) ps.length cap) ps.length (q.flatMap dg)->∀k,k<ps.length->V.cell? (Ad pb (k*2))=some (I (bo q k).page)/\V.cell? (Ad pb (k*2+1))=some (.string (bo q k).data):=λV hV k hk=>by
     rw[<- T] at hV;exact⟨gw dg jz zk hV k 0 ω ω,gw dg jz zk hV k 1 ω ω⟩
    have a9:=ai L;obtain⟨c0,c1⟩:=L wr B j hlt;rw[show bo q j=bo ps j from hf.at _ hlt] at c0 c1;have al:pb<wr.heap.size:=(B.lt pb rfl).2;have az:¬pb=wr.heap.size:=by omega
    have HA:=ai ((aN wr.heap.size wr).alloc (aK _) (.cells #[I (bo ps j).page,.string (bo ps j).data] 148));have uM:Hid (Calls prog 319 #[.agg #[I (bo ps j).page,.string (bo ps j).data],.pointer (some (Ad x 0)),.pointer (some (Ad y 0))] (wr.alloc (.cells #[I (bo ps j).page,.string (bo ps j).data] 148)) λe w'=>e=.returned (.bool (tZ p n (bo ps j)))/\Below (wr.alloc (.cells #[I (bo ps j).page,.string (bo ps j).data] 148)).heap.size (wr.alloc (.cells #[I (bo ps j).page,.string (bo ps j).data] 148)) w'):=by
     have a5:=yz.trans (aH.bQ (D:=λb=>b=pb) HA.o) (λ_ _ g=>g);exact Mo p n (bo ps j) x y _ (a5.cell HX.o (λe=>zB.o (by subst e;rfl))) (a5.cell HY.o (λe=>a2.o (by subst e;rfl))) hp hn hpn
    have BX:=ai (bH wr #[I (bo ps j).page,.string (bo ps j).data] 148);have a0:Hid (tZ p n (bo ps j)=true->sZ (tZ p n) ps q i (j+1)):=hf.skip _ hlt;have O:Hid (tZ p n (bo ps j)=false->sZ (tZ p n) ps (q.set i (bo ps j)) (i+1) (j+1)):=hf.keep _ hlt;generalize tZ p n (bo ps j)=G at uM a0 O;generalize bo ps j=g at c0 c1 uM O HA BX;clear B yz L hf;cases G with
    | true =>
     go_wp2_with (go_at_call 319;refine uM.o.mono ?_;rintro e w2 ⟨rfl,F⟩;have iJ:=ai (HA.o.trans (F.mono HA.o.size));clear F)
     go_roundw
     case rel=>exact⟨i,j+1,q,rfl,by go_num,a0.o (by trivial),aH.row (aH.bQ (D:=λ_=>False) iJ.o) HR.o (λ_ _ g=>g),HK.o.trans (aH.bQ (D:=λb=>b=pb) iJ.o) (λ_ _ g=>g)⟩
     case measure=>simp[intOf];omega
    | false =>
     go_wp2_with (go_at_call 319;refine uM.o.mono ?_;rintro e w2 ⟨rfl,F⟩;have iJ:=ai (HA.o.trans (F.mono HA.o.size));have Fm:=ai (aH.row (aH.bQ (D:=λ_=>False) iJ.o) HR.o (λ_ _ g=>g));have ab:=a9.o _ Fm.o i ω;obtain⟨d0,d1⟩:=ab;have d2:=ie Fm.o (i*2);have d3:=ie Fm.o (i*2+1);have U:=aU BX.o F (aQ BX.o);obtain⟨d4,d5⟩:=xZ U;clear F U)
     go_roundw
     case rel =>
      refine⟨i+1,j+1,q.set i g,by go_num,by go_num,O.o (by trivial),?_,?_⟩
      . rw[adb q i g ω];exact dJ (dJ Fm.o (i*2) _) (i*2+1) _
      exact((HK.o.trans (aH.bQ (D:=λb=>b=pb) iJ.o) (λ_ _ g=>g)).trans (aH.set (λb=>b=pb) w2 (Ad pb (i*2)) _ rfl) (λ_ _ g=>g)).trans (aH.set (λb=>b=pb) _ (Ad pb (i*2+1)) _ rfl) (λ_ _ g=>g)
     case measure=>simp[intOf];omega
  obtain rfl:j=ps.length:=by omega
  have T:=hf.len;have M:q.take i=jy ps p n:=by rw[hf.front,qJ];rfl
  obtain⟨A,a6,N,a4,Z⟩:∃A:Array Value,A.size=cap*2/\wr.heap[pb]?=some (.cells A 148 (0,0))/\cap<=maxLen/\A.toList.take (ps.length*2)=q.flatMap dg:=by
   rcases B.2 with⟨h0,_⟩ | ⟨g,ad,A,hv,hb,hg,h1,h2,h3,h4⟩
   . omega
   injection hv with e1 e2 e3;injection e1 with e1;injection e1 with e1;subst e1 e3;exact⟨A,h3,hg,h2,h4⟩
  have K:A.toList.length=cap*2:=a6;have W:∀ty c,(Builtin.clear_ #[140] ty #[.slice (some (Ad pb (i*2))) (ps.length-i) c]).run prog wr=.ok (.tuple #[]) (wr.setRow pb (splice A.toList (i*2) (js [I 0,.string ⟨#[]⟩] (ps.length-i))).toArray):=λty c=>ED (P:=prog) wr 140 ty 148 (.agg #[I 0,.string ⟨#[]⟩]) underlying140 anC Δ Δ pb (i*2) (ps.length-i) c A.toList 148 (by simpa using N) (by
   have e:(Value.cells (.agg #[I 0,.string ⟨#[]⟩])).size=2:=rfl;rw[e,K];omega)
  obtain⟨S,hS⟩:=ex (splice A.toList (i*2) (js [I 0,.string ⟨#[]⟩] (ps.length-i)));rw[<- hS] at W;have Q:S.length=cap*2:=by
   rw[hS,length_splice _ _ _ (by rw[mj,K];simp only[tG,NJ];omega),K]
  have a7:S.take (i*2)=(jy ps p n).flatMap dg:=by
   rw[<- M,<- CA jz,<- Z,TR,Kw ω,hS];unfold splice;exact xe _ _ _ (by rw[o7,K];omega)
  have a1:(jy ps p n).length=i:=by rw[<- M,o7];omega
  have X:(wr.setRow pb S.toArray).heap[pb]?=some (.cells S.toArray 148 (0,0)):=xo wr pb _ _ _ _ N;have fV:Hid (P (.returned (.slice (some (Ad pb 0)) i cap)) (wr.setRow pb S.toArray)):=HP.o _ _ ⟨_,rfl,by
   rw[a1,<- a7];exact⟨by rw[o7,Q];omega,.inr ⟨pb,cap,S.toArray,rfl,hlo,X,ω,a4,by simpa using Q,ξ⟩⟩,(yz.mono (λb _ e=>by subst e;rfl)).trans (CB wr pb S.toArray) (λb _ e=>by subst e;rfl),λb hb=>.inl hb⟩
  have af:¬cap=i:=by omega
  have aj:(i:Int)<=(ps.length:Int):=by omega
  have ae:i<=ps.length:=by omega
  have aw:i<=cap:=by omega
  have ay:cap<=9223372036854775807:=by unfold maxLen at a4;omega
  clear hf B yz HF HR HK N Z M hS Q a7 a1 X T a6 K Y2 HP HH HX HY zB a2;go_wp2_with (at_builtin;refine Qm _ rfl _ 140 rfl _ rfl (W _ _) ?_);exact fV.o
theorem ac9 {lo mb:Nat} (w:World) (D:Nat->Prop) (m:m7) (fl:List Bool) (k:Nat) (p n:Int) (h:gG lo mb w D m) (hok:kY m fl) (hf:fl.getD k false=true) (hp:cH p) (hn:cH n) :
  Calls prog 313 #[.pointer (some (Ad mb 0)),I (k:Int),I p,I n] w (kj (gG lo mb) w D (I (qp m k p n).1) (qp m k p n).2):=by
 obtain⟨⟨v,L,hM⟩,hD⟩:=h;obtain⟨hk,a8⟩:=hok.live hf;have hL:=lJ (hok.each k hk) a8;have h4:=hok.few.2;have F:=ai (λ(g:(cU (aI m.aj k).aJ p n).2=0)=>(DA hL.check g).2.1);have ah:(aI m.aj k).aD.length<=70000:=by have:=lI hL;have:=oW (aI m.aj k).aJ;omega
 obtain⟨sb,cap,aa,na,ca,ap,cp,hv,Bl,ab,c0,c1,c2,ac,_,_,a3,_⟩:=hM.space k hk;subst hv;have J:=gy _ hL.check;have QT:Hid (∀V,Below w.heap.size w V->Calls prog 280 #[.slice aa na ca,I p,I n] V λe w'=>∃r,e=.returned (.tuple #[r,I (cU (aI m.aj k).aJ p n).2])/\eB V.heap.size w' r (cU (aI m.aj k).aJ p n).1/\Below V.heap.size V w'):=λV hV=>Qc (aI m.aj k).aJ (.slice aa na ca) p n V (ac.below hV) J hp hn
 have m1:w.cell? (Ad mb 1)=some (.slice (some (Ad sb 0)) m.aj.length cap):=aA hM.head 1 rfl;have b2:=aQ hM.head;have C2:(k:Int)<(m.aj.length:Int):=by omega
 have zK:Hid (qp m k p n=if ¬(cU (aI m.aj k).aJ p n).2=0 then ((cU (aI m.aj k).aJ p n).2,m) else (0,kv m k { aI m.aj k with aJ:=(cU (aI m.aj k).aJ p n).1,aD:=jy (aI m.aj k).aD p n })):=rfl;generalize cU (aI m.aj k).aJ p n=X at QT zK F;have HM:=ai hM;have HD:=ai hD;have av:=ai a3;have XF:=ai hk;have B:=ai ab;generalize qp m k p n=R at zK ⊢;obtain⟨P,hP⟩:=ex (kj (gG lo mb) w D (I R.1) R.2);have HP:Hid (∀w',(∃D',gG lo mb w' D' R.2/\aH D w w'/\∀b,D' b->D b\/w.heap.size<=b)->P (.returned (I R.1)) w'):=λw' ⟨D',h1,h2,h3⟩=>by rw[hP];exact⟨D',rfl,h1,h2,h3⟩
 rw[<- hP];obtain⟨X1,X2⟩:=X;simp only at QT zK F;obtain⟨ns,W⟩:=ex m.aj.length;rw[<- W] at m1 C2 hk h4;have b4:=ai W;obtain⟨s,hs⟩:=ex (aI m.aj k);rw[<- hs] at zK c2 B ah;have an:=ai hs;have uM:=ai c2;have aF:¬mb=w.heap.size:=by omega
 have aP:¬mb=w.heap.size+1:=by omega
 have ag:¬sb=w.heap.size:=by omega
 have a4:¬sb=w.heap.size+1:=by omega
 have jc:=ai (((aN w.heap.size w).alloc (aK _) (.cells #[I p] 3)).alloc ξ (.cells #[I n] 3));have BP:=ai (bu (bH w #[I p] 3) (.cells #[I n] 3));have BN:=ai (bH (w.alloc (.cells #[I p] 3)) #[I n] 3);clear hM hD hok hf a8 hP hL ac J ab a3 W c0 c2 hs;go_enter func313,ntmps313;go_wp2_with fail;obtain⟨WA,pU⟩:=ex ((w.alloc (.cells #[I p] 3)).alloc (.cells #[I n] 3));have G:(w.alloc (.cells #[I p] 3)).heap.size=w.heap.size+1:=by simp
 rw[G] at BN;rw[<- pU] at jc BP BN ⊢;obtain⟨x,O⟩:=ex w.heap.size;obtain⟨y,K⟩:=ex (w.heap.size+1);rw[<- K] at BN aP a4 ⊢;rw[<- O] at BP aF ag ⊢;have aS:=ai O;have aw:=ai K;have HS:Hid (∀V,Below WA.heap.size WA V->V.cell? (Ad sb (k*3+1))=some (.slice aa na ca)/\V.cell? (Ad x 0)=some (I p)/\V.cell? (Ad y 0)=some (I n)):=λV hb=>by
  have h1:=aU BP.o hb (aQ BP.o);have h2:=aU BN.o hb (aQ BN.o);exact⟨((jc.o.trans (hb.mono jc.o.size)).cell (p:=(Ad sb (k*3+1))) Bl).trans c1,aA h1 0 rfl,aA h2 0 rfl⟩
 have tV:=ai (aN WA.heap.size WA).drew;have pK:=ai (HS.o _ tV.o);clear pU O K m1 G;go_cut [10,11] (λx10 x11 wx=>∃ra rc,x10=.slice ra X1.length rc/\x11=I X2/\wx.ownsRow w.heap.size 139 4 (.slice ra X1.length rc) X1.length (cW X1)/\Below WA.heap.size WA wx)
 case first =>
  go_region_held3 (λV=>V.cell? (Ad sb (k*3+1))=some (.slice aa na ca)/\V.cell? (Ad x 0)=some (I p)/\V.cell? (Ad y 0)=some (I n)) (first | exact az.o | exact pK.o)
   (first
    | (go_at_call 280;refine(QT.o _ (jc.o.trans (tV.o.mono jc.o.size))).mono ?_;rintro e w1 ⟨r,rfl,hr,hb⟩;obtain⟨ra,rc,aR,_,_⟩:=aZ (show w1.ownsRow _ 139 4 r _ _ from hr);subst aR;have b0:=ai (eB.mono hr (jc.o.trans (tV.o.mono jc.o.size)).size);have Nc:=ai (tV.o.trans (hb.mono tV.o.size));have az:=ai (HS.o _ Nc.o);clear hr hb))
  all_goals
   go_wp2_with fail
   go_meet
   case rel=>exact⟨ra,rc,rfl,rfl,b0.o,Nc.o⟩
 case rest =>
  obtain⟨ra,rc,rfl,rfl,a2,U⟩:=hcut;have QV:=ai (jc.o.trans (U.mono jc.o.size));have a0:=ai a2;obtain⟨z0,z1,z2⟩:=HS.o _ U;have Nr:=ai z1;have DY:=ai z2;clear U pK tV QT HS a2 BP BN c1 z1 z2;by_cases hX2:X2=0
  . subst hX2;have b3:=F.o rfl;have HR:Hid (R=(0,kv m k { s with aJ:=X1,aD:=jy s.aD p n })):=by rw[zK.o,aB (λg=>g rfl)];exact rfl
    clear zK F;have MC:k<L.length:=by rw[HM.o.len];exact XF.o
    have hlo:=HM.o.base;obtain⟨hA,hK⟩:=HM.o.alO (D':=λb=>D b\/(w.heap.size<=b/\b<wc.heap.size)) MC QV.o (eB.mono (show eB w.heap.size wc _ _ from a0.o) ω) (λb hb=>(a0.o.lt b hb).1) (λb hb=>.inl hb) (λb g1 g2=>.inr ⟨g1,g2⟩);have M:cM (L.set k { cM L k with va:=.slice ra X1.length rc }) k={ cM L k with va:=.slice ra X1.length rc }:=by rw[J7 _ _ _ _ MC,aC rfl]
    have a1:aI (m.aj.set k { aI m.aj k with aJ:=X1 }) k={ aI m.aj k with aJ:=X1 }:=tq _ _ _ XF.o;have s3:wc.frozen? (Ad sb (k*3+1))=false:=(QV.o.frozen (p:=(Ad sb (k*3+1))) Bl).trans (av.o _);have s4:wc.cell? (Ad sb (k*3+2))=some (.slice ap s.aD.length cp):=(QV.o.cell (p:=(Ad sb (k*3+2))) Bl).trans uM.o;have HA:=ai hA;have ad:=ai hK;obtain⟨W3,A⟩:=ex (wc.setCell (Ad sb (k*3+1)) (.slice ra X1.length rc));have Z:Hid (W3.heap.size=wc.heap.size):=by show _=_;rw[A];simp
    rw[<- A] at HA ad;have UK:k<(L.set k { cM L k with va:=.slice ra X1.length rc }).length:=by rw[dE];exact MC
    have am:(cM (L.set k { cM L k with va:=.slice ra X1.length rc }) k).vp=.slice ap s.aD.length cp:=by rw[M,B.o]
    have Ll:=ai am;have T:aH (λb=>b=sb) wc W3:=by rw[A];exact aH.set _ _ _ _ rfl
    have y0:W3.cell? (Ad x 0)=some (I p):=T.cell Nr.o (λe=>ag e.symm);have y1:W3.cell? (Ad y 0)=some (I n):=T.cell DY.o (λe=>a4 e.symm);have y2:W3.cell? (Ad sb (k*3+2))=some (.slice ap s.aD.length cp):=by
     have:=gw j6 Ay Ht (by
      have hr:=HA.o.row;rw[show m.aj.length=(L.set k { cM L k with va:=.slice ra X1.length rc }).length by rw[dE];exact HM.o.len.symm] at hr;exact hr) k 2 UK ω
     rw[this];show(j6 (cM _ k))[2]?=_;rw[M,B.o];rfl
    have a5:W3.ownsRow lo 148 2 (.slice ap s.aD.length cp) s.aD.length (s.aD.flatMap dg):=by
     have:=(HA.o.each k UK).aD;rw[Ll.o,a1] at this;simp only at this;rw[<- an.o] at this;exact this
    have q:∀b,dh (.slice ap s.aD.length cp) b->b<w.heap.size:=λb hb=>(HM.o.lt k MC b (.inr (by rw[B.o];exact hb))).2
    have Q:Hid (Calls prog 318 #[.slice ap s.aD.length cp,.func (.func 319) #[] #[.pointer (some (Ad x 0)),.pointer (some (Ad y 0))]] (wc.setCell (Ad sb (k*3+1)) (.slice ra X1.length rc)) λe w'=>∃a6 c6,e=.returned (.slice a6 (jy s.aD p n).length c6)/\w'.ownsRow lo 148 2 (.slice a6 (jy s.aD p n).length c6) (jy s.aD p n).length ((jy s.aD p n).flatMap dg)/\aH (dh (.slice ap s.aD.length cp)) W3 w'/\(∀b,dh (.slice a6 (jy s.aD p n).length c6) b->dh (.slice ap s.aD.length cp) b\/W3.heap.size<=b)):=by
     show Calls _ _ _ _ _;rw[<- A];refine(Zg lo s.aD p n _ x y W3 a5 y0 y1 (λe=>by have:=q _ e;have:=aS.o;omega) (λe=>by have:=q _ e;have:=aw.o;omega) ω ω ω ω).mono ?_;rintro e w' ⟨v',rfl,h1,h2,h3⟩;obtain⟨a6,c6,rfl,_,_⟩:=aZ h1;exact⟨a6,c6,rfl,h1,h2,h3⟩
    have a9:Hid (¬dh (.slice ap s.aD.length cp) sb):=by
     have:=(HA.o.n3 k UK sb rfl).2;rw[Ll.o] at this;exact this
    have al:Hid (∀b,dh (.slice ap s.aD.length cp) b->D b):=λb hb=>HM.o.d3 k MC b (.inr (by rw[B.o];exact hb))
    have Tu:Hid (∀V,aH (dh (.slice ap s.aD.length cp)) W3 V->V.frozen? (Ad sb (k*3+2))=false/\V.cell? (Ad sb (k*3+2))=some (.slice ap s.aD.length cp)):=λV hV=>by
     refine⟨?_,hV.cell y2 a9.o⟩;have hr:=hV.row HA.o.row (λb hb e=>(HA.o.n3 k UK b hb).2 (by rw[Ll.o];exact e));have au:m.aj.length=(L.set k { cM L k with va:=.slice ra X1.length rc }).length:=by rw[dE];exact HM.o.len.symm
     rw[<- au] at hr;exact ie hr _
    obtain⟨IL,Y⟩:=ex ((jy s.aD p n).length);generalize s.aD.length=PL at Q a9 al Tu Ll s4 ah;rw[<- Y] at Q;have aL:=ai Y;clear hA hK y0 y1 y2 Y A a5 q M a1 am T Nr DY uM;go_wp2_with (go_at_call 318;refine Q.o.mono ?_;rintro e w6 ⟨a6,c6,rfl,ho,N,q⟩;have aG:=ai ho;have a7:=ai N;have aE:=ai q;obtain⟨x6,x7⟩:=Tu.o _ N;clear ho N q);obtain⟨af,ao⟩:=HA.o.an8 (D':=λb=>D b\/(w.heap.size<=b/\b<w6.heap.size)) UK (vp:=.slice a6 IL c6) (l:=jy s.aD p n) (w1:=w6) (by rw[Ll.o];exact a7.o) (by rw[<- aL.o];exact aG.o) (by rw[Ll.o];exact aE.o) (λb hb=>by
     have z1:=a7.o.size;have z2:=Z.o;rcases hb with g | g
     . exact .inl g
     exact .inr ⟨g.1,ω⟩) (λb g1 g2=>.inr ⟨by have:=Z.o;have:=QV.o.size;omega,g2⟩)
    have ay:(w6.setCell (Ad sb (k*3+2)) (.slice a6 IL c6)).heap.size=w6.heap.size:=by simp
    rw[Ll.o] at ao;have ae:aH D w (w6.setCell (Ad sb (k*3+2)) (.slice a6 IL c6)):=(ad.o.mono (D1:=D) (λb _ e=>HM.o.d2 b (by rw[e];rfl))).trans ao (λb _ e=>by
     rcases e with e | e
     . exact HM.o.d2 b (by rw[e];rfl)
     exact al.o b e)
    have b1:(m.aj.set k { aI m.aj k with aJ:=X1 }).set k { aI (m.aj.set k { aI m.aj k with aJ:=X1 }) k with aD:=jy s.aD p n }=m.aj.set k { s with aJ:=X1,aD:=jy s.aD p n }:=by
     rw[Hs,tq _ _ _ XF.o,an.o]
    rw[b1] at af;have:=HP.o _ ⟨_,by rw[HR.o];exact⟨⟨_,_,af⟩,λb hb=>by
     have z1:=ae.size;have z2:=HD.o;rw[ay] at z1 ⊢;rcases hb with g | g
     . have:=z2 b g;omega
     . omega⟩,ae,λb hb=>by
     rcases hb with g | g
     . exact .inl g
     exact .inr g.1⟩
    rw[HR.o] at this;exact this
  have HR:Hid (R=(X2,m)):=by rw[zK.o,aC hX2];exact rfl
  have b5:(X2==0)=false:=by rw[gT];exact hX2
  clear zK hX2 F;go_wp2;have:=HP.o _ ⟨D,by rw[HR.o];exact gG.below ⟨⟨_,L,HM.o⟩,HD.o⟩ QV.o,aH.bQ QV.o,λb hb=>.inl hb⟩;rw[HR.o] at this;exact this
theorem Uv (mb:Nat):ja xf lo mb (gG lo mb) kY nR :=
 ⟨λw w' D E s h hk hd=>gG.kp h hk hd,λw D s h=>h.2,Nf,λw D s fl k a n way h hok hf ha UJ hn8 hw=>af9 w D s fl k a n way h hok hf ha UJ hn8,λw D s fl k a d h hok hf ha h1 h8=>ada w D s fl k a d h hok hf ha h1 h8,λw D s fl k p n q h hok hf hp hn=>aiG w D s fl k p n q h hok hf hp hn,λw D s fl k p n h hok hf hp hn=>ac9 w D s fl k p n h hok hf hp hn,λw D s fl k p n q h hok hf hp hn=>WW w D s fl k p n q h hok hf hp hn,λw D s fl k h hok hf=>aga w D s fl k h hok hf,λw D s fl k h hok hf=>agb w D s fl k h hok hf⟩
def qb (f:ky):dB m7:=⟨⟨f.slots,f.aj⟩,f.procs,f.out⟩
def wF (s:dB m7):ky:=⟨s.mem.slots,s.mem.aj,s.ps,s.out⟩
def uF:ky:=⟨0,[],[],[]⟩
def DD (f:ky) (r:Int×Option (dB m7)):ky×Int :=
 if ¬fQ f=0 then (uF,fQ f) else if ¬r.1=0 then (uF,r.1) else match r.2 with
  | none=>(uF,r.1)
  | some s=>(wF s,0)
def CJ (f:ky) (picks:List Int):ky×Int:=DD f (qc nR (qb f) picks)
def PN (ps:List bT):Prop:=∀k,k<ps.length->tY (aO ps k)
theorem ze (h:fQ f=0):(1<=f.aj.length/\f.aj.length<=4)/\f.procs.length=f.aj.length/\(0<=f.slots/\f.slots<=512)/\f.out.length<=2000:=by
 unfold fQ at h;by_cases c:mJ f=false
 . rw[aC c] at h;cases h
 have c:mJ f=true:=by cases e:mJ f;exact(c e).elim;rfl
 unfold mJ at c;simp only[cK,fX] at c;exact c
theorem SF (h:fQ f=0):mI f=true/\qj f=true:=by
 unfold fQ at h;by_cases c:mJ f=false
 . rw[aC c] at h;cases h
 rw[aB c] at h;by_cases d:(mI f&&qj f)=true
 . simpa using d
 rw[aB d] at h;cases h
theorem aay (h:fQ f=0) (hf:PN f.procs):ez kY (qb f):=by
 obtain⟨c1,c2,c3,c4⟩:=ze h;obtain⟨h1,h2⟩:=SF h;unfold mI at h1;unfold qj at h2;simp only[cK,fX,nB,vN] at h1 h2;obtain⟨h1,b⟩:=h1;obtain⟨h2,h3⟩:=h2;have A:∀k,k<f.aj.length->aI f.aj k∈f.aj:=λk hk=>by
  unfold aI;rw[cB,fF hk];exact Gk hk
 refine⟨⟨?_,λk hk=>h1 _ (A k hk),b,c3,c1⟩,hf,λk hk=>(h2 k hk).1,h3,c4⟩;show bY f.procs=f.aj.map (·.live);unfold bY;apply TZ
 . rw[fI,fI,c2]
 intro k q y;rw[fI] at q y;rw[TY,TY];have:=(h2 k q).2;unfold Xb aI aO at this;rw[cB,fF y,cB,fF q] at this;have e:=eq_of_beq this;exact e.symm
def nT (s:bC):dK:=⟨s.page,(jE s).1⟩
def qL (l:List aX) (hs:List bC) (en slots:Int):ky×Int :=
 if ¬gU l hs en=0 then (uF,gU l hs en) else if ¬(0<=slots/\slots<=512) then (uF,3) else if slots<bf l then (uF,8)
 else (⟨slots,[⟨true,l,hs.map nT⟩],[jK en],[]⟩,0)
theorem acZ (p:Int):∀n,jT p n=(List.range n).map (λm:Nat=>p+(m:Int)):=λn=>by
 induction n with
 | zero=>rfl
 | succ n ih=>rw[vE,ih,NM,tF];rfl
theorem SG (l:List aX):lW l=cI l:=by
 have:∀n,n<=l.length->fK l n=iV l n:=λn=>by
  induction n with
  | zero=>intro _;unfold iV;rfl
  | succ n ih =>
   intro h;rw[xL l n ω,<- ih ω,acZ];rfl
 unfold lW;rw[this l.length (aK _)];unfold iV;rw[qJ]
theorem DC {l:List aX} (h:gU l hs en=0):bj l=0/\hs.map (·.page)=lW l/\(∀i,i<hs.length->cY (bk hs i)=true):=by
 unfold gU at h;by_cases c:bj l=0
 . rw[aC c] at h;by_cases d:(!mW l&&(jD l hs&&(tM hs&&Ct l en)))=true
   . simp only[cK] at d;refine⟨c,?_,?_⟩
     . have:=d.2.1;unfold jD at this;exact jY this
     exact De hs hs.length d.2.2.1
   rw[aB d] at h;cases h
 rw[aB c] at h;exact(c h).elim
theorem Zb {l:List aX} (h:gU l hs en=0):(hs.length:Int)=bf l/\hs.length<=65025:=by
 obtain⟨h1,h2,_⟩:=DC h;have e:hs.length=(cI l).length:=by rw[<- SG,<- h2,fI]
 have t:=oX h1;have b:=oW l;omega
theorem Ty {st:dB m7} (h:ez kY st):fQ (wF st)=0:=by
 have hm:=h.mem;have b:=hm.flags;have q:st.ps.length=st.mem.aj.length:=by
  have:=dC List.length b;unfold bY at this;rw[fI,fI] at this;exact this
 have c1:mJ (wF st)=true:=by
  unfold mJ wF;simp only[cK,fX];exact⟨hm.few,q,hm.slots,h.out⟩
 have c2:mI (wF st)=true:=by
  unfold mI wF;simp only[cK,fX,nB];refine⟨λs hs=>?_,hm.room⟩;obtain⟨k,hk,rfl⟩:=aa4 hs;have:=hm.each k hk;unfold aI at this;rw[cB,fF hk] at this;exact this
 have c3:qj (wF st)=true:=by
  unfold qj wF;simp only[cK,fX,nB,vN];refine⟨λk hk=>⟨h.right k hk,?_⟩,h.words⟩;unfold Xb aI aO;simp only;have y:k<st.mem.aj.length:=by omega
  have e:(bY st.ps)[k]?=(st.mem.aj.map (·.live))[k]?:=by rw[b]
  unfold bY at e;rw[vQ,vQ,fF hk,fF y] at e;injection e with e;rw[cB,fF y,cB,fF hk];show(st.mem.aj[k].live==decide (st.ps[k].st=1))=true;have e':decide (st.ps[k].st=1)=st.mem.aj[k].live:=e;rw[<- e'];exact beq_self_eq_true _
 unfold fQ;rw[c1,c2,c3];rfl
theorem ac2 {s:bC} (h:cY s=true):(jE s).1.size=16:=by
 unfold jE;rw[aC h];unfold cY pM at h;simp only[cK,fX] at h;exact yK s.data s.dR h.1.2.2 s.dR.length h.2
theorem ac0 {l:List aX} {slots:Int} (h:gU l hs en=0) (h0:0<=slots) (h5:slots<=512) (ht:bf l<=slots):fQ ⟨slots,[⟨true,l,hs.map nT⟩],[jK en],[]⟩=0:=by
 obtain⟨hc,hp,hb⟩:=DC h;have hl:oU ⟨true,l,hs.map nT⟩:=by
  refine⟨hc,?_,λk hk=>?_⟩
  . show bX (hs.map nT)=cI l;unfold bX;rw[TQ,<- SG,<- hp];rfl
  have q:k<hs.length:=by
   have:k<(hs.map nT).length:=hk;rw[fI] at this;exact this
  have e:bo (hs.map nT) k=nT (bk hs k):=by
   unfold bo bk;rw[cB,vQ,cB,fF q];rfl
  show(bo (hs.map nT) k).data.size=16;rw[e];exact ac2 (hb k q)
 have hr:=Bg hl rfl;have b:fu [⟨true,l,hs.map nT⟩]=bf l:=by
  show(0:Int)+bf l=bf l;omega
 have c1:mJ ⟨slots,[⟨true,l,hs.map nT⟩],[jK en],[]⟩=true:=by
  unfold mJ;simp only[cK,fX,tG,NJ];exact⟨⟨ω,ω⟩,by trivial,⟨h0,h5⟩,ω⟩
 have c2:mI ⟨slots,[⟨true,l,hs.map nT⟩],[jK en],[]⟩=true:=by
  unfold mI;simp only[cK,fX,b,List.all_cons,List.all_nil,hr];simp only[Bool.and_true,true_and];exact ht
 have c3:qj ⟨slots,[⟨true,l,hs.map nT⟩],[jK en],[]⟩=true:=rfl;unfold fQ;rw[c1,c2,c3];rfl
theorem ac1 (he:cH en):PN [jK en]:=λk hk=>by
 have hk':k<1:=hk;obtain rfl:k=0:=by omega
 exact⟨λj _=>by show cH 0;unfold cH;omega,he⟩
def xh (w:World) (r:ky×Int) (e:Ending) (w':World):Prop:=∃az cs ar cr ao co,e=.returned (.tuple #[.agg (kZ r.1 az ar ao cs cr co),I r.2])/\(∀V,aH (λb=>b<w.heap.size) w' V->qF V r.1 az ar ao)/\Below w.heap.size w w'
theorem Ng (w:World):qF w uF none none none:=⟨λh=>absurd h (iW _),λh=>absurd h (iW _),λh=>absurd h (iW _)⟩
theorem xU (w:World) (g:Nat) (v0 v1 v2 v3:Value):aH (λb=>b=g) w ((((w.setCell ⟨g,0,none⟩ v0).setCell ⟨g,1,none⟩ v1).setCell ⟨g,2,none⟩ v2).setCell ⟨g,3,none⟩ v3) :=
 (xS (D:=λb=>b=g) w g 0 1 2 v0 v1 v2 rfl).trans (aH.set (λb=>b=g) _ ⟨g,3,none⟩ v3 rfl) (λ_ _ h=>h)
theorem af3 {lo mb:Nat} {w2 w3 w4:World} {v:Value} {L:List oV} {vr vo:Value} (hm:iE lo mb w2 (λb=>lo<=b/\b<w2.heap.size) f.slots v L f.aj) (h23:Below w2.heap.size w2 w3) (hr:w3.ownsRow w2.heap.size 77 13 vr f.procs.length (f.procs.flatMap bO)) (h34:Below w3.heap.size w3 w4) (ho:w4.ownsRow w3.heap.size 91 2 vo f.out.length (f.out.flatMap kH)) :
  fR xf (gG lo mb) lo mb w4.heap.size (w4.alloc (.cells #[.iface 229 (.pointer (some ⟨mb,0,none⟩)),vr,vo] 191)) (λb=>lo<=b/\b<w2.heap.size) vr vo (qb f):=by
 have hlo:lo<=w2.heap.size:=by have:=hm.base;have:=aQ hm.head;omega
 have y:=h23.size;have B:=h34.size;have hA:Below w4.heap.size w4 (w4.alloc (.cells #[.iface 229 (.pointer (some ⟨mb,0,none⟩)),vr,vo] 191)):=(aN _ _).alloc (aK _) _;have q:Below w2.heap.size w2 (w4.alloc (.cells #[.iface 229 (.pointer (some ⟨mb,0,none⟩)),vr,vo] 191)):=(h23.trans (h34.mono y)).trans (hA.mono ω);have A:=aH.row (aH.bQ (D:=λ_=>False) h34) hr (λ_ _ g=>g);have lr:∀b,dh vr b->w2.heap.size<=b/\b<w3.heap.size:=λb hb=>hr.lt b hb
 have lw:∀b,dh vo b->w3.heap.size<=b/\b<w4.heap.size:=λb hb=>ho.lt b hb
 refine⟨bH w4 _ _,⟨⟨v,L,hm.below q⟩,λb hb=>⟨hb.1,dV hb.2 q.size⟩⟩,?_,?_,ω,λg=>by have:=g.2;omega,λg=>by have:=lr _ g;omega,λg=>by have:=lw _ g;omega,λb hb g=>by have:=lr b hb;have:=g.2;omega,λb hb g=>by have:=lw b hb;have:=g.2;omega,λb hb g=>by have:=lr b hb;have:=lw b g;omega⟩
 . exact m9 (aH.row (aH.bQ (D:=λ_=>False) hA) A (λ_ _ g=>g)) (λg hg=>by have:=lr g hg;omega)
 exact m9 (aH.row (aH.bQ (D:=λ_=>False) hA) ho (λ_ _ g=>g)) (λg hg=>by have:=lw g hg;omega)
theorem Tz (f:ky) (r:Int×Option (dB m7)) (q:Nat) (az ar ao:Option Addr) (cs cr co:Nat) (w:World) (h:qF w f az ar ao) (hf:F8 f) (hr:r.1=0->∃s,r.2=some s)
  (hc:fQ f=0->∀(V:World) (lo mb gb:Nat) (D:Nat->Prop) (vr vo:Value),Below w.heap.size w V->w.heap.size<=lo->fR xf (gG lo mb) lo mb gb V D vr vo (qb f)->Calls prog 74 #[.pointer (some ⟨gb,0,none⟩),.pointer (some ⟨q,0,none⟩)] V (wA xf (gG lo mb) lo mb gb V D vr vo r)) :
  Calls prog 73 #[.agg (kZ f az ar ao cs cr co),.func (.func 74) #[] #[.pointer (some ⟨q,0,none⟩)]] w (xh w (DD f r)):=by
 have ym:=ai λV (hV:Below w.heap.size w V)=>PW f az ar ao cs cr co V (h.below hV) hf
 have y:Hid (fQ f=0->∀V,Below w.heap.size w V->Calls prog 126 #[.agg (kZ f az ar ao cs cr co)] V (K9 V f.slots f.aj)):=λhk V hV=>by
  obtain⟨c1,c2,c3,c4⟩:=ze hk;obtain⟨h1,h2⟩:=SF hk;unfold mI at h1;simp only[cK,fX,nB] at h1;refine Q4 f az ar ao cs cr co V (h.aj.below hV) hf.aj ω (λk hk=>?_);have hm:aI f.aj k∈f.aj:=by
   unfold aI;rw[cB,fF hk];exact Gk hk
  have N:=h1.1 _ hm;cases hl:(aI f.aj k).live with
  | true =>
   have hL:=lJ N hl;have:=jF _ hL.check;have:=lI hL;have:=oW (aI f.aj k).aJ;omega
  | false =>
   unfold bW at N;rw[hl] at N;simp only[Ky,qY,cK,fX] at N;omega
 have Fp:=ai λ(hk:fQ f=0) V (hV:Below w.heap.size w V)=>J2 (c:=cr) (fp bO 13 se _) ((Ws h.procs).below hV) (aah _) (by have:=ze hk;omega)
 have B:=ai λ(hk:fQ f=0) V (hV:Below w.heap.size w V)=>J1 (c:=co) (fp kH 2 xg _) ((Wp h.out).below hV) (aaf _) (by have:=ze hk;omega)
 have HC:=ai hc;have HR:=ai hr;have A:Hid (DD f r=if ¬fQ f=0 then (uF,fQ f) else if ¬r.1=0 then (uF,r.1) else match r.2 with | none=>(uF,r.1) | some s=>(wF s,0)):=rfl;generalize DD f r=R at A ⊢;generalize fQ f=ck at ym y Fp B HC A;generalize hP:xh w R=P;have HP:Hid (∀e w',xh w R e w'->P e w'):=λe w' h=>by rw[<- hP];exact h
 unfold kZ at ym y ⊢;generalize hns:f.aj.length=ns,C0:f.procs.length=np,ac:f.out.length=no,av:f.slots=sl at ym y Fp B ⊢;have O:=ai (And.intro C0 (And.intro ac av));obtain⟨WA,x,z,pU,hx,hz,b3,b1,ad,aP,hV⟩:=Hp w #[I sl,.slice az ns cs,.slice ar np cr,.slice ao no co] #[I 0,Nl,Nl,Nl] 62 62;have jc:Hid (Below w.heap.size w WA):=by rw[hx];exact ad
 have IK:=ai λV hb=>TD (hV V hb).1
 have G:=ai λV hb=>And.intro (TD (hV V hb).2) (bG (hV V hb).2)
 have F:Hid (w.heap.size<=z):=by show _<=_;omega
 obtain⟨x0,x1,x2,x3⟩:=IK.o _ (aN _ _);obtain⟨⟨z0,z1,z2,z3⟩,f0⟩:=G.o _ (aN _ _);clear h hf hc hr hP hns C0 ac av ad hV;go_enter func73,ntmps73;go_wp2_with fail;clear pU hx hz x0 x1 x2 x3 z0 z1 z2 z3 f0;refine(ym.o _ jc.o).mono ?_;rintro e w1 ⟨rfl,J⟩;have cD:=ai J;obtain⟨⟨z0,z1,z2,z3⟩,f0⟩:=G.o _ J;obtain⟨x0,x1,x2,x3⟩:=IK.o _ J;clear J ym;by_cases ZL:ck=0
 . subst ZL;have al:=ai (HC.o rfl);have a1:=ai (y.o rfl);have ap:=ai (Fp.o rfl);have ah:=ai (B.o rfl);have M:=ai (A.o.trans (aB (λg=>g rfl)));clear HC y Fp B A;go_wp2_with (go_at_call 126;refine(a1.o _ (jc.o.trans (cD.o.mono jc.o.size))).mono ?_;rintro e w2 ⟨mb,v,L,rfl,hm,aa⟩;have XE:=ai hm;have iJ:=ai aa;clear hm aa);have a2:=ai (cD.o.trans (iJ.o.mono cD.o.size));have uD:=ai a2.o.drew;have pK:=ai ((IK.o _ uD.o).2.2);clear x0 x1 x2 x3 z0 z1 z2 z3 f0;go_cut [8] (λx8 wx=>∃gb D vr vo,x8=.pointer (some ⟨gb,0,none⟩)/\fR xf (gG w1.heap.size mb) w1.heap.size mb gb wx D vr vo (qb f)/\Below WA.heap.size WA wx)
   case first =>
    go_region_held3 (λV=>V.cell? ⟨x,2,none⟩=some (.slice ar np cr)/\V.cell? ⟨x,3,none⟩=some (.slice ao no co)) (first | exact aE.o | exact Gh.o | exact pK.o | exact(IK.o _ (WG.o.alloc WG.o.size _)).2.2)
     (first
      | (go_at_call 94;refine(ap.o _ (jc.o.trans (uD.o.mono jc.o.size))).mono ?_;rintro e w3 ⟨a3,c3,rfl,an,W⟩;have b0:=ai an;have ou:=ai W;have Ez:=ai (uD.o.trans (W.mono uD.o.size));have Gh:=ai ((IK.o _ Ez.o).2.2);clear an W)
      | (go_at_call 95;refine(ah.o _ (jc.o.trans (Ez.o.mono jc.o.size))).mono ?_;rintro e w4 ⟨a4,c4,rfl,af,X⟩;have aG:=ai af;have Cc:=ai X;have WG:=ai (Ez.o.trans (X.mono Ez.o.size));have aE:=ai ((IK.o _ WG.o).2.2);clear af X))
    all_goals
     go_wp2_with fail
     go_meet
     case rel =>
      refine⟨_,_,_,_,rfl,af3 (by rw[O.o.2.2];exact XE.o) ((aN _ _).drew.trans ou.o) ?_ Cc.o ?_,WG.o.alloc WG.o.size _⟩
      . rw[O.o.1];exact b0.o
      rw[O.o.2.1];exact aG.o
   case rest =>
    obtain⟨gb,D,vr,vo,rfl,hg,Y⟩:=hcut;have QV:=ai Y;have aR:=ai (jc.o.trans (Y.mono jc.o.size));have aS:Hid (w.heap.size<=w1.heap.size):=(by have:=jc.o.size;have:=cD.o.size;omega:w.heap.size<=w1.heap.size);have E7:=ai (al.o wc w1.heap.size mb gb D vr vo aR.o aS.o hg);have a0:=ai (λb=>fR.lt (Uv w1.heap.size mb) hg b);clear hg Y al a1 ap ah XE iJ a2 uD pK;by_cases S4:r.1=0
    . obtain⟨s,hs⟩:=HR.o S4;have uP:Hid (R=(wF s,0)):=by rw[M.o,aB (λg=>g S4),hs];exact rfl
      have XI:Hid (Calls prog 74 #[.pointer (some ⟨gb,0,none⟩),.pointer (some ⟨q,0,none⟩)] wc λe w'=>∃a5 c5 a6 c6 a7 c7,e=.returned (I 0)/\Below WA.heap.size WA w'/\(w'.cell? ⟨mb,0,none⟩=some (I s.mem.slots)/\w'.cell? ⟨mb,1,none⟩=some (.slice a7 s.mem.aj.length c7)/\w'.cell? ⟨gb,1,none⟩=some (.slice a5 s.ps.length c5)/\w'.cell? ⟨gb,2,none⟩=some (.slice a6 s.out.length c6))/\(¬mb=z/\¬gb=z)/\∀V,aH (λb=>b<=z) w' V->qF V (wF s) a7 a5 a6):=E7.o.mono λe w' ⟨h1,h2,h3⟩=>by
       obtain⟨D',Rh,Ri,hg,_,_⟩:=h3 s hs;rw[S4] at h1;have h2:=aH.below QV.o h2 QV.o.size (λb hb=>eJ cD.o.size (a0.o b hb).1);obtain⟨a5,c5,rfl,_,_⟩:=aZ hg.procs;obtain⟨a6,c6,rfl,_,_⟩:=aZ hg.outs;obtain⟨⟨v7,L7,hM⟩,hD⟩:=hg.mem;obtain⟨a7,c7,rfl,_⟩:=hM.has;have b2:z<w1.heap.size:=dV aP cD.o.size;have am:=fR.lt (Uv w1.heap.size mb) hg;refine⟨a5,c5,a6,c6,a7,c7,h1,h2,⟨aA hM.head 0 rfl,aA hM.head 1 rfl,aA hg.head 1 rfl,aA hg.head 2 rfl⟩,⟨λe=>by have:=hM.base;omega,λe=>by have:=hg.base;omega⟩,λV hV=>?_⟩;have aw:=hM.kp hV (λb hb e=>by have:=(hD b hb).1;omega);obtain⟨a8,c8,e8,h8⟩:=aw.has;injection e8 with e9 _ _;subst e9;exact⟨h8,aai (hV.row hg.procs (λb hb e=>by have:=(am b (.inr (.inr (.inl hb)))).1;omega)),aag (hV.row hg.outs (λb hb e=>by have:=(am b (.inr (.inr (.inr hb)))).1;omega))⟩
      obtain⟨s0,Z⟩:=ex s.mem.slots;obtain⟨s1,Q⟩:=ex s.mem.aj.length;obtain⟨s2,T⟩:=ex s.ps.length;obtain⟨s3,U⟩:=ex s.out.length;rw[<- Z,<- Q,<- T,<- U] at XI;have ay:Hid (∀a7 c7 a5 c5 a6 c6,kZ (wF s) a7 a5 a6 c7 c5 c6=#[I s0,.slice a7 s1 c7,.slice a5 s2 c5,.slice a6 s3 c6]):=λa7 c7 a5 c5 a6 c6=>by rw[Z,Q,T,U];rfl
      clear M E7 hs S4 HR Z Q T U a0;go_wp2_with (go_at_call 74;refine XI.o.mono ?_;rintro e w5 ⟨a5,c5,a6,c6,a7,c7,rfl,Fu,ag,aF,ab⟩;have Nu:=ai Fu;have WI:=ai ag;have aK:=ai ab;obtain⟨⟨z0,z1,z2,z3⟩,f0⟩:=G.o _ Fu;obtain⟨ae,a9⟩:=aF;clear Fu ag ab);have aL:Hid (∀V,aH (λb=>b=z) w5 V->V.cell? ⟨mb,0,none⟩=some (I s0)/\V.cell? ⟨mb,1,none⟩=some (.slice a7 s1 c7)/\V.cell? ⟨gb,1,none⟩=some (.slice a5 s2 c5)/\V.cell? ⟨gb,2,none⟩=some (.slice a6 s3 c6)):=λV hV=>by
       obtain⟨q0,q1,q2,q3⟩:=WI.o;exact⟨hV.cell q0 ae,hV.cell q1 ae,hV.cell q2 a9,hV.cell q3 a9⟩
      go_region_held3 (λV=>V.cell? ⟨mb,0,none⟩=some (I s0)/\V.cell? ⟨mb,1,none⟩=some (.slice a7 s1 c7)/\V.cell? ⟨gb,1,none⟩=some (.slice a5 s2 c5)/\V.cell? ⟨gb,2,none⟩=some (.slice a6 s3 c6)) (first | exact WI.o | exact aL.o _ ((xU w5 z _ _ _ _).trans (aH.drew (λb=>b=z) _) (λ_ _ g=>g))) (fail)
      all_goals
       go_wp2;refine b9 (v:=.tuple #[.agg #[I s0,.slice a7 s1 c7,.slice a5 s2 c5,.slice a6 s3 c6],I 0]) (by simp[results,results73,go_sem,z0,z1,z2,z3]) rfl ?_;refine HP.o _ _ ?_;rw[uP.o];have au:=(xU w5 z (I s0) (.slice a7 s1 c7) (.slice a5 s2 c5) (.slice a6 s3 c6)).trans (aH.drew (λb=>b=z) _) (λ_ _ g=>g);refine⟨a7,c7,a5,c5,a6,c6,by rw[ay.o],λV hV=>aK.o _ ((au.mono (λb _ e=>NA e)).trans hV (λb _ g=>Nw (dV g F.o))),aH.below (jc.o.trans (Nu.o.mono jc.o.size)) au (eJ jc.o.size Nu.o.size) (λb e=>by rw[e];exact F.o)⟩
    have uP:Hid (R=(uF,r.1)):=by rw[M.o,aC S4];exact rfl
    obtain⟨rc,K⟩:=ex r.1;have uM:Hid (Calls prog 74 #[.pointer (some ⟨gb,0,none⟩),.pointer (some ⟨q,0,none⟩)] wc λe w'=>e=.returned (I rc)/\Below WA.heap.size WA w'):=E7.o.mono λe w' ⟨h1,h2,h3⟩=>by
     rw[<- K] at h1;exact⟨h1,aH.below QV.o h2 QV.o.size (λb hb=>eJ cD.o.size (a0.o b hb).1)⟩
    have C2:(rc==0)=false:=by rw[gT,K];exact S4
    rw[<- K] at uP;clear M E7 S4 HR K;go_wp2_with (go_at_call 74;refine uM.o.mono ?_;rintro e w5 ⟨rfl,Fu⟩;have Nu:=ai Fu;obtain⟨⟨z0,z1,z2,z3⟩,f0⟩:=G.o _ Fu;clear Fu);refine b9 (v:=.tuple #[.agg #[I 0,Nl,Nl,Nl],I rc]) (by simp[results,results73,go_sem,z0,z1,z2,z3]) rfl ?_;refine HP.o _ _ ?_;rw[uP.o];exact⟨none,0,none,0,none,0,rfl,λV _=>Ng V,aH.below (jc.o.trans (Nu.o.mono jc.o.size)) (xU w5 z _ _ _ _) (eJ jc.o.size Nu.o.size) (λb e=>by rw[e];exact F.o)⟩
 have uP:Hid (R=(uF,ck)):=by rw[A.o,aC ZL];exact rfl
 have C2:(ck==0)=false:=by rw[gT];exact ZL
 clear A ZL HC y Fp B;go_wp2;refine b9 (v:=.tuple #[.agg #[I 0,Nl,Nl,Nl],I ck]) (by simp[results,results73,go_sem,z0,z1,z2,z3]) rfl ?_;refine HP.o _ _ ?_;rw[uP.o];exact⟨none,0,none,0,none,0,rfl,λV _=>Ng V,aH.below (jc.o.trans (cD.o.mono jc.o.size)) (xU w1 z _ _ _ _) (eJ jc.o.size cD.o.size) (λb e=>by rw[e];exact F.o)⟩
end Go.Proofs.YtlgoihmkgaaemaaGreat
