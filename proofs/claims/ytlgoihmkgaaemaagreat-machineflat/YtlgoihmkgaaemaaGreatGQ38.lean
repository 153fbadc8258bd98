import Derived.Test.YtlgoihmkgaaemaaGreatGQ37
set_option maxHeartbeats 20000000
set_option linter.unusedVariables false
set_option maxRecDepth 100000
set_option linter.unusedSimpArgs false
namespace Go.Proofs.YtlgoihmkgaaemaaGreat
open Go.RowKit Tryz
theorem J7 (L:List oV) (k j:Nat) (l:oV) (hk:k<L.length):cM (L.set k l) j=if j=k then l else cM L j:=by
 unfold cM;rw[cB,cB,xt];by_cases h:j=k
 . rw[aC h,aC h.symm];subst h;rw[aC hk];rfl
 rw[aB h,aB (λg=>h g.symm)]
variable {lo mb:Nat} {D':Nat->Prop} {sl:Int} {ss:List ek} (w:World) (D:Nat->Prop) (m:m7) (fl:List Bool) (k:Nat) (p:Int)
theorem iE.turn {w w2:World} {D:Nat->Prop} {v:Value} {L:List oV} (h:iE lo mb w D sl v L ss) {k:Nat} (hk:k<L.length) {l:oV} {s:ek}
  (yz:aH (λb=>dh v b\/dh (cM L k).vp b) w w2) (hrow:w2.ownsRow lo 142 3 v L.length ((L.set k l).flatMap j6)) (hs:rR lo w2 l s)
  (Ie:∀b,dh l.va b->dh (cM L k).va b\/w.heap.size<=b) (hvp:∀b,dh l.vp b->dh (cM L k).vp b\/w.heap.size<=b) (hne:∀b,dh l.vp b->¬dh l.va b) (hd:∀b,D b->D' b) (hd2:∀b,w.heap.size<=b->b<w2.heap.size->D' b) :
  iE lo mb w2 D' sl v (L.set k l) (ss.set k s):=by
 have A:=aQ h.head;have q:=h.len;have hL:(L.set k l).length=L.length:=dE;have new:∀b,(dh l.va b->dh (cM L k).va b\/w.heap.size<=b):=Ie;have at_:∀j,cM (L.set k l) j=if j=k then l else cM L j:=λj=>J7 L k j l hk
 refine⟨by rw[hL,dE];exact q,yz.keep h.head (λe=>by rcases e with e | e;exact h.n1 e;exact(h.n2 k hk).2 e),by rw[hL];exact hrow,λj hj=>?_,h.base,h.n1,λj hj=>?_,λj hj b hb=>?_,λi j hi hj b hb=>?_,hd _ h.d1,λb hb=>hd _ (h.d2 b hb),λj hj b hb=>?_⟩
 . rw[hL] at hj;rw[at_,Bf _ _ _ _ ω];by_cases c:j=k
   . rw[aC c,aC c];exact hs
   rw[aB c,aB c];refine(h.each j hj).kp yz (λb hb e=>?_) (λb hb e=>?_)
   . rcases e with e | e
     . exact(h.n3 j hj b e).1 hb
     exact(h.n4 k j hk hj b e).1 hb
   rcases e with e | e
   . exact(h.n3 j hj b e).2 hb
   exact(h.n4 k j hk hj b e).2 (λg=>c g.symm) hb
 . rw[hL] at hj;rw[at_];by_cases c:j=k
   . rw[aC c];exact⟨λg=>by rcases Ie _ g with e | e;exact(h.n2 k hk).1 e;omega,λg=>by rcases hvp _ g with e | e;exact(h.n2 k hk).2 e;omega⟩
   rw[aB c];exact h.n2 j hj
 . rw[hL] at hj;rw[at_];by_cases c:j=k
   . rw[aC c];have:=(h.row.lt b hb).2;exact⟨λg=>by rcases Ie _ g with e | e;exact(h.n3 k hk b hb).1 e;omega,λg=>by rcases hvp _ g with e | e;exact(h.n3 k hk b hb).2 e;omega⟩
   rw[aB c];exact h.n3 j hj b hb
 . rw[hL] at hi hj;rw[at_] at hb ⊢;by_cases ci:i=k
   . rw[aC ci] at hb;by_cases cj:j=k
     . rw[aC cj];exact⟨hne b hb,λg=>(g ω).elim⟩
     rw[aB cj];rcases hvp b hb with e | e
     . exact⟨(h.n4 k j hk hj b e).1,λ_=>(h.n4 k j hk hj b e).2 (λg=>cj g.symm)⟩
     exact⟨λg=>by have:=h.lt j hj b (.inl g);omega,λ_ g=>by have:=h.lt j hj b (.inr g);omega⟩
   rw[aB ci] at hb;have y:=h.lt i hi b (.inr hb);by_cases cj:j=k
   . rw[aC cj];refine⟨λg=>?_,λ_ g=>?_⟩
     . rcases Ie b g with e | e
       . exact(h.n4 i k hi hk b hb).1 e
       omega
     rcases hvp b g with e | e
     . exact(h.n4 i k hi hk b hb).2 ci e
     omega
   rw[aB cj];exact h.n4 i j hi hj b hb
 rw[hL] at hj;rw[at_] at hb;by_cases c:j=k
 . rw[aC c] at hb;rcases hb with g | g
   . rcases Ie b g with e | e
     . exact hd _ (h.d3 k hk b (.inl e))
     exact hd2 b e (hs.aJ.lt b g).2
   rcases hvp b g with e | e
   . exact hd _ (h.d3 k hk b (.inr e))
   exact hd2 b e (hs.aD.lt b g).2
 rw[aB c] at hb;exact hd _ (h.d3 j hj b hb)
theorem xj (L:List oV) (k:Nat) (hk:k<L.length) (a b:oV) (j:Nat) (hj:j<3) (x:Value) (e:j6 b=(j6 a).set j x):(L.set k b).flatMap j6=((L.set k a).flatMap j6).set (k*3+j) x:=by
 have:=jf j6 3 Ay Ht b j x hj (L.set k a) k (by rw[dE];exact hk) (by
  rw[e,cB,KG hk];rfl)
 rw[pS] at this;exact this
theorem WY (L:List oV) (k:Nat) (hk:k<L.length):L.set k (cM L k)=L:=by
 apply Af;intro j;rw[xt];by_cases e:k=j
 . subst e;rw[aC rfl,aC hk];unfold cM;rw[cB,fF hk];rfl
 rw[aB e]
theorem iE.alO {w w1:World} {D:Nat->Prop} {sb n cap:Nat} {L:List oV} (h:iE lo mb w D sl (.slice (some (Ad sb 0)) n cap) L ss) {k:Nat} (hk:k<L.length) {va:Value} {l:List aX}
  (hb:Below w.heap.size w w1) (ho:eB lo w1 va l) (Ie:∀b,dh va b->w.heap.size<=b) (hd:∀b,D b->D' b) (hd2:∀b,w.heap.size<=b->b<w1.heap.size->D' b) :
  iE lo mb (w1.setCell (Ad sb (k*3+1)) va) D' sl (.slice (some (Ad sb 0)) n cap) (L.set k { cM L k with va:=va }) (ss.set k { aI ss k with aJ:=l })/\aH (λb=>b=sb) w (w1.setCell (Ad sb (k*3+1)) va):=by
 have y:dh (.slice (some (Ad sb 0)) n cap) sb:=rfl;have q:aH (λb=>b=sb) w1 (w1.setCell (Ad sb (k*3+1)) va):=aH.set _ _ _ _ rfl;have yz:aH (λb=>b=sb) w (w1.setCell (Ad sb (k*3+1)) va):=(aH.bQ hb).trans q (λ_ _ g=>g);have B:n=L.length:=by
  obtain⟨ao,c,e,_,_⟩:=aZ h.row;injection e
 have F:(w1.setCell (Ad sb (k*3+1)) va).heap.size=w1.heap.size:=by simp
 refine⟨h.turn hk (yz.mono (λb _ e=>.inl (e ▸ y))) ?_ ?_ (λb g=>.inr (Ie b g)) (λb g=>.inl g) (λb g1 g2=>?_) hd (λb g1 g2=>hd2 b g1 (by rw[F] at g2;exact g2)),yz⟩
 . have hr:=(h.below hb).row;rw[<- B] at hr;rw[<- WY L k hk] at hr;have:=dJ hr (k*3+1) va;rw[<- xj L k hk (cM L k) { cM L k with va:=va } 1 ω va rfl] at this;rw[<- B];exact this
 . have A:=(h.below hb).each k hk;refine⟨A.live,q.row ho (λb hb' e=>?_),q.row A.aD (λb hb' e=>?_)⟩
   . have h1:=Ie b hb';have h2:=(h.row.lt sb y).2;omega
   exact(h.n3 k hk sb y).2 (e ▸ hb')
 have h1:=Ie b g2;have h2:=(h.lt k hk b (.inr g1)).2;omega
theorem agb (h:gG lo mb w D m) (hok:kY m fl) (hf:fl.getD k false=true) :
  Calls prog 307 #[.pointer (some (Ad mb 0)),I (k:Int)] w (kj (gG lo mb) w D (.tuple #[]) (PJ m k)):=by
 obtain⟨⟨v,L,hM⟩,hD⟩:=h;obtain⟨hk,F⟩:=hok.live hf;have h4:=hok.few.2;obtain⟨sb,cap,aa,na,ca,ap,cp,hv,Bl,A,c0,c1,c2,_,_,_,q,_⟩:=hM.space k hk;subst hv;have HM:=ai hM;have HD:=ai hD;have m1:w.cell? (Ad mb 1)=some (.slice (some (Ad sb 0)) m.aj.length cap):=aA hM.head 1 rfl;have C2:(k:Int)<(m.aj.length:Int):=by omega
 have f0:=q (k*3);have f1:=q (k*3+1);have f2:=q (k*3+2);have fV:Hid (kj (gG lo mb) w D (.tuple #[]) (PJ m k) (.returned (.tuple #[])) (((w.setCell (Ad sb (k*3)) (.bool false)).setCell (Ad sb (k*3+1)) Nl).setCell (Ad sb (k*3+2)) Nl)):=by
  have MC:k<L.length:=by rw[hM.len];exact hk
  have y:dh (.slice (some (Ad sb 0)) m.aj.length cap) sb:=rfl;have yz:aH (λb=>b=sb) w (((w.setCell (Ad sb (k*3)) (.bool false)).setCell (Ad sb (k*3+1)) Nl).setCell (Ad sb (k*3+2)) Nl):=xS w sb _ _ _ _ _ _ rfl;refine⟨D,rfl,⟨⟨_,L.set k Ht,hM.turn MC (l:=Ht) (s:=Kh) (yz.mono (λb _ e=>.inl (e ▸ y))) ?_ ⟨rfl,eB.nil _ _,pT _ _ _ _⟩ (λb g=>by cases g) (λb g=>by cases g) (λb g=>by cases g) (λb g=>g) (λb g1 g2=>?_)⟩,λb hb=>⟨(hD b hb).1,dV (hD b hb).2 yz.size⟩⟩,yz.mono (λb _ e=>hM.d2 b (e ▸ y)),λb hb=>.inl hb⟩
  . have B:m.aj.length=L.length:=hM.len.symm;have hr:=hM.row;rw[<- B] at hr ⊢;rw[<- WY L k MC] at hr;have r0:=dJ hr (k*3+0) (.bool false);rw[<- xj L k MC (cM L k) ⟨false,(cM L k).va,(cM L k).vp⟩ 0 ω (.bool false) rfl] at r0;have r1:=dJ r0 (k*3+1) Nl;rw[<- xj L k MC ⟨false,(cM L k).va,(cM L k).vp⟩ ⟨false,Nl,(cM L k).vp⟩ 1 ω Nl rfl] at r1;have r2:=dJ r1 (k*3+2) Nl;rw[<- xj L k MC ⟨false,Nl,(cM L k).vp⟩ Ht 2 ω Nl rfl] at r2;exact r2
  simp at g2;omega
 generalize kj (gG lo mb) w D (.tuple #[]) (PJ m k)=P at fV ⊢;generalize m.aj.length=ns at m1 C2 hk h4;obtain⟨np,C0⟩:=ex ((aI m.aj k).aD.length);generalize (aI m.aj k).live=lv at c0;rw[<- C0] at c2;clear hM hD hok hf F C0 A q;go_enter func307,ntmps307;go_wp2
 go_end0
 exact fV.o
theorem WW (n q:Int) (h:gG lo mb w D m) (hok:kY m fl) (hf:fl.getD k false=true) (hp:cH p) (hn:cH n) :
  Calls prog 311 #[.pointer (some (Ad mb 0)),I (k:Int),I p,I n,I q] w (kj (gG lo mb) w D (I (m6 m k p n q).1) (m6 m k p n q).2):=by
 obtain⟨⟨v,L,hM⟩,hD⟩:=h;obtain⟨hk,J⟩:=hok.live hf;have hL:=lJ (hok.each k hk) J;have h4:=hok.few.2;obtain⟨sb,cap,aa,na,ca,ap,cp,hv,Bl,N,c0,c1,c2,F,_,_,G,_⟩:=hM.space k hk;subst hv;have y:=gy _ hL.check;have QT:=ai (Km (aI m.aj k).aJ (.slice aa na ca) p n q w F y hp hn);have m1:w.cell? (Ad mb 1)=some (.slice (some (Ad sb 0)) m.aj.length cap):=aA hM.head 1 rfl;have M:=aQ hM.head;have C2:(k:Int)<(m.aj.length:Int):=by omega
 have zK:Hid (m6 m k p n q=if ¬(cu (aI m.aj k).aJ p n q).2=0 then ((cu (aI m.aj k).aJ p n q).2,m) else (0,kv m k { aI m.aj k with aJ:=(cu (aI m.aj k).aJ p n q).1 })):=rfl;generalize cu (aI m.aj k).aJ p n q=X at QT zK;have HM:=ai hM;have HD:=ai hD;have O:=ai G;have XF:=ai hk;generalize m6 m k p n q=R at zK ⊢;obtain⟨P,hP⟩:=ex (kj (gG lo mb) w D (I R.1) R.2);have HP:Hid (∀w',(∃D',gG lo mb w' D' R.2/\aH D w w'/\∀b,D' b->D b\/w.heap.size<=b)->P (.returned (I R.1)) w'):=λw' ⟨D',h1,h2,h3⟩=>by rw[hP];exact⟨D',rfl,h1,h2,h3⟩
 rw[<- hP];obtain⟨X1,X2⟩:=X;simp only at QT zK;obtain⟨ns,B⟩:=ex m.aj.length;rw[<- B] at m1 C2 hk h4;have Q:=ai B;clear hM hD hok hf J hP hL F y N G B c0 c2;by_cases hX2:X2=0
 . subst hX2;have HR:Hid (R=(0,kv m k { aI m.aj k with aJ:=X1 })):=by rw[zK.o,aB (λg=>g rfl)];exact rfl
   clear zK;go_enter func311,ntmps311;go_wp2_with (go_at_call 277;refine QT.o.mono ?_;rintro e w1 ⟨r,rfl,hr,hb⟩;obtain⟨ra,rc,A,_,_⟩:=aZ (show w1.ownsRow w.heap.size 139 4 r _ _ from hr);subst A;have K:=ai hr;have cD:=ai hb;have x1:w1.cell? (Ad mb 1)=some (.slice (some (Ad sb 0)) ns cap):=(hb.cell (p:=(Ad mb 1)) M).trans m1;have x2:w1.cell? (Ad sb (k*3+1))=some (.slice aa na ca):=(hb.cell (p:=(Ad sb (k*3+1))) Bl).trans c1;have x3:w1.frozen? (Ad sb (k*3+1))=false:=(hb.frozen (p:=(Ad sb (k*3+1))) Bl).trans (O.o _);clear hr hb);have MC:k<L.length:=by rw[HM.o.len];exact XF.o
   have hlo:=HM.o.base;obtain⟨hA,hK⟩:=HM.o.alO (D':=λb=>D b\/(w.heap.size<=b/\b<w1.heap.size)) MC cD.o (eB.mono K.o ω) (λb hb=>(World.ownsRow.lt (show w1.ownsRow w.heap.size _ 4 _ _ _ from K.o) b hb).1) (λb hb=>.inl hb) (λb g1 g2=>.inr ⟨g1,g2⟩);have:=HP.o _ ⟨_,by rw[HR.o];exact⟨⟨_,_,hA⟩,λb hb=>by
    have hs:=cD.o.size;have hz:(w1.setCell (Ad sb (k*3+1)) (.slice ra X1.length rc)).heap.size=w1.heap.size:=by simp
    rw[hz];rcases hb with g | g
    . have:=HD.o b g;omega
    . omega⟩,hK.mono (λb _ e=>HM.o.d2 b (by rw[e];rfl)),λb hb=>by
    rcases hb with g | g
    . exact .inl g
    exact .inr g.1⟩
   rw[HR.o] at this;exact this
 have HR:Hid (R=(X2,m)):=by rw[zK.o,aC hX2];exact rfl
 have T:(X2==0)=false:=by rw[gT];exact hX2
 clear zK hX2;go_enter func311,ntmps311;go_wp2_with (go_at_call 277;refine QT.o.mono ?_;rintro e w1 ⟨r,rfl,hr,hb⟩;obtain⟨ra,rc,A,_,_⟩:=aZ (show w1.ownsRow w.heap.size 139 4 r _ _ from hr);subst A;have cD:=ai hb;clear hr hb);have:=HP.o w1 ⟨D,by rw[HR.o];exact gG.below ⟨⟨_,L,HM.o⟩,HD.o⟩ cD.o,aH.bQ cD.o,λb hb=>.inl hb⟩;rw[HR.o] at this;exact this
open Go.RowKit
theorem aiH {s:ek} (h:oU s):UB s:=by
 have h1:=lI h;have h2:=oW s.aJ;refine⟨gy _ h.check,by unfold bD;omega,λk hk=>⟨?_,?_⟩⟩
 . have hm:(bo s.aD k).page∈cI s.aJ:=by
    rw[<- h.nums];exact aaT (vH hk)
   have:=E9 h.check hm;unfold cH;omega
 rw[h.size k hk];unfold bD;omega
theorem adf {s:ek} (h:bW s=true):UB s:=by
 cases hl:s.live with
 | true=>exact aiH (lJ h hl)
 | false =>
  unfold bW at h;rw[hl] at h;simp only[Ky,qY,cK,fX] at h;have ha:s.aJ=[]:=NP.1 h.1;have hp:s.aD=[]:=NP.1 h.2;refine⟨by rw[ha];exact DL,by rw[hp];unfold bD;simp,λk hk=>by rw[hp] at hk;simp at hk⟩
theorem WZ {m:m7} {fl:List Bool} (h:kY m fl):Kf m.aj:=⟨by unfold bD;have:=h.few.2;omega,λk hk=>adf (h.each k hk)⟩
theorem aga (h:gG lo mb w D m) (hok:kY m fl) (hf:fl.getD k false=true) :
  Calls prog 308 #[.pointer (some (Ad mb 0)),I (k:Int)] w (kj (gG lo mb) w D (I (rP m k).1) (rP m k).2):=by
 obtain⟨⟨v,L,hM⟩,hD⟩:=h;obtain⟨hk,a6⟩:=hok.live hf;have hL:=lJ (hok.each k hk) a6;have h4:=hok.few.2;have aL:=hok.slots;have X:=hok.room;obtain⟨sb,cap,aa,na,ca,ap,cp,hv,Bl,ay,c0,c1,c2,N,Y,_,ah,_⟩:=hM.space k hk;obtain⟨Fl,aP,af,a5⟩:=hM.has;rw[hv] at af;injection af with e1 e2 e3;subst e1 e3;subst hv;have XM:=oW (aI m.aj k).aJ;have Lg:=Hv m.aj m.aj.length;have a0:(aI m.aj k).aJ.length<=1000000:=by have:=jF _ hL.check;omega
 have ac:(aI m.aj k).aD.length<=1000000:=by have:=lI hL;omega
 have G:Hid (∀V,Below w.heap.size w V->Calls prog 213 #[.slice (some (Ad sb 0)) m.aj.length cap] V λe w'=>e=.returned (I (fu m.aj))/\Below V.heap.size V w'):=λV hV=>Hu m.aj (some (Ad sb 0)) cap V (a5.below hV) (WZ hok) ω
 have F:Hid (∀V,Below w.heap.size w V->Calls prog 70 #[.slice aa na ca] V λe w'=>e=.returned (I (bf (aI m.aj k).aJ))/\Below V.heap.size V w'):=λV hV=>rW _ _ _ (N.below hV) (gy _ hL.check)
 have A:Hid (∀V,Below w.heap.size w V->Calls prog 182 #[.agg #[.bool (aI m.aj k).live,.slice aa na ca,.slice ap (aI m.aj k).aD.length cp]] V (W4 V (aI m.aj k))):=λV hV=>Mq (aI m.aj k) aa ap na ca cp V (N.below hV) (Y.below hV) a0 ac
 have zK:Hid (rP m k=if 4<=m.aj.length then (2,m) else if m.slots<fu m.aj+bf (aI m.aj k).aJ then (8,m) else (0,{ m with aj:=m.aj++[aI m.aj k] })):=rfl;obtain⟨m0,m1⟩:=xZ hM.head;have aR:=aQ hM.head;have an:¬mb=w.heap.size:=by omega
 have C2:(k:Int)<(m.aj.length:Int):=by omega
 have HM:=ai hM;have HD:=ai hD;have XF:=ai hk;generalize rP m k=R at zK ⊢;obtain⟨P,hP⟩:=ex (kj (gG lo mb) w D (I R.1) R.2);have HP:Hid (∀w',(∃D',gG lo mb w' D' R.2/\aH D w w'/\∀b,D' b->D b\/w.heap.size<=b)->P (.returned (I R.1)) w'):=λw' ⟨D',h1,h2,h3⟩=>by rw[hP];exact⟨D',rfl,h1,h2,h3⟩
 rw[<- hP];generalize aI m.aj k=s at F A zK c0 c2 XM;obtain⟨lv,B⟩:=ex s.live;rw[<- B] at c0;generalize s.aD.length=np at c2 A;rw[<- B] at A;have aG:=ai B;obtain⟨sl,J⟩:=ex m.slots;rw[<- J] at zK m0 aL X;obtain⟨rm,UG⟩:=ex (fu m.aj);rw[<- UG] at G zK X;have b0:0<=rm:=by rw[UG];exact Lg.1
 generalize bf s.aJ=tt at F zK XM;obtain⟨ns,Q⟩:=ex m.aj.length;rw[<- Q] at m1 C2 hk h4 G zK;have K:=ai Q;have Xx:=ai J;have jc:=ai ((aN w.heap.size w).alloc (aK _) (.cells #[.bool lv,.slice aa na ca,.slice ap np cp] 142));have BX:=ai (bH w #[.bool lv,.slice aa na ca,.slice ap np cp] 142);clear hM hD hok hf a6 hP hL N Y ay ah Q B J UG Lg a5 e2 a0 ac;by_cases h4n:4<=ns
 . have HR:Hid (R=(2,m)):=by rw[zK.o,aC h4n];exact rfl
   have aw:(4:Int)<=(ns:Int):=by omega
   clear zK;go_enter func308,ntmps308;go_wp2;have:=HP.o _ ⟨D,by rw[HR.o];exact gG.below ⟨⟨_,L,HM.o⟩,HD.o⟩ jc.o,aH.bQ jc.o,λb hb=>.inl hb⟩;rw[HR.o] at this;exact this
 have aw:¬(4:Int)<=(ns:Int):=by omega
 have DW:Hid (R=if sl<rm+tt then (8,m) else (0,{ m with aj:=m.aj++[s] })):=by rw[zK.o,aB h4n,Xx.o];exact rfl
 clear zK;have aS:IntKind.i64.wrap (rm+tt)=rm+tt:=sJ _ ω;go_enter func308,ntmps308;go_wp2_with fail;generalize w.alloc (.cells #[.bool lv,.slice aa na ca,.slice ap np cp] 142)=WA at jc BX ⊢;obtain⟨xb,UF⟩:=ex w.heap.size;rw[<- UF] at BX ⊢;have QP:=ai UF;have U:=ai (HM.o.below jc.o);have HS:Hid (∀V,Below WA.heap.size WA V->V.cell? (Ad mb 0)=some (I sl)/\V.cell? (Ad mb 1)=some (.slice (some (Ad sb 0)) ns cap)/\V.cell? (Ad xb 0)=some (.bool lv)/\V.cell? (Ad xb 1)=some (.slice aa na ca)/\V.cell? (Ad xb 2)=some (.slice ap np cp)):=λV hb=>by
  have h1:=aU BX.o hb (aQ BX.o);have h2:=aU U.o.head hb (aQ U.o.head);exact⟨by rw[Xx.o];exact aA h2 0 rfl,by rw[K.o];exact aA h2 1 rfl,aA h1 0 rfl,aA h1 1 rfl,aA h1 2 rfl⟩
 have tV:=ai (aN WA.heap.size WA).drew;have pK:=ai (HS.o _ tV.o);clear UF m0 m1 c0 c1 c2 an;go_cut [20] (λx20 wx=>x20=.bool (decide (sl<rm+tt))/\Below WA.heap.size WA wx)
 case first =>
  go_region_held3 (λV=>V.cell? (Ad mb 0)=some (I sl)/\V.cell? (Ad mb 1)=some (.slice (some (Ad sb 0)) ns cap)/\V.cell? (Ad xb 0)=some (.bool lv)/\V.cell? (Ad xb 1)=some (.slice aa na ca)/\V.cell? (Ad xb 2)=some (.slice ap np cp)) (first | exact Gh.o | exact Mf.o | exact pK.o)
   (first
    | (go_at_call 213;refine(G.o _ (jc.o.trans (tV.o.mono jc.o.size))).mono ?_;rintro e w2 ⟨rfl,q⟩;have uD:=ai (tV.o.trans (q.mono tV.o.size));have Mf:=ai (HS.o _ uD.o);clear q)
    | (go_at_call 70;refine(F.o _ (jc.o.trans (uD.o.mono jc.o.size))).mono ?_;rintro e w3 ⟨rfl,a9⟩;have Ez:=ai (uD.o.trans (a9.mono uD.o.size));have Gh:=ai (HS.o _ Ez.o);clear a9))
  all_goals
   go_wp2_with fail
   go_meet
   case rel=>exact⟨by first | rfl | simp,Ez.o⟩
 case rest =>
  obtain⟨rfl,O⟩:=hcut;have QV:=ai O;have aE:=HS.o _ O;obtain⟨s0,s1,s2,s3,s4⟩:=aE;clear O pK tV G F;by_cases hroom:sl<rm+tt
  . have HR:Hid (R=(8,m)):=by rw[DW.o,aC hroom];exact rfl
    clear DW;go_wp2;have hb:=jc.o.trans (QV.o.mono jc.o.size);have:=HP.o _ ⟨D,by rw[HR.o];exact gG.below ⟨⟨_,L,HM.o⟩,HD.o⟩ hb,aH.bQ hb,λb hb=>.inl hb⟩;rw[HR.o] at this;exact this
  have HR:Hid (R=(0,{ m with aj:=m.aj++[s] })):=by rw[DW.o,aB hroom];exact rfl
  clear DW;have EC:=ai (jc.o.trans (QV.o.mono jc.o.size));have Nb:Hid (iE lo mb wc D m.slots (.slice (some (Ad sb 0)) ns cap) L m.aj):=by have:=HM.o.below EC.o;rw[<- K.o] at this;exact this
  have a8:L.length=ns:=by rw[K.o];exact HM.o.len
  have uM:Hid (∀V,Below wc.heap.size wc V->Calls prog 182 #[.agg #[.bool lv,.slice aa na ca,.slice ap np cp]] V λe w'=>∃a1 n1 c1 a2 n2 c2,e=.returned (.agg #[.bool lv,.slice a1 n1 c1,.slice a2 n2 c2])/\rR V.heap.size w' ⟨lv,.slice a1 n1 c1,.slice a2 n2 c2⟩ s/\(∀b,dh (.slice a2 n2 c2) b->¬dh (.slice a1 n1 c1) b)/\Below V.heap.size V w'):=λV hV=>(A.o V (EC.o.trans (hV.mono EC.o.size))).mono λe w' ⟨va,vp,h1,h2,h3,h4⟩=>by
   rw[<- aG.o] at h1 h2;obtain⟨a1,c1,e1,_⟩:=aZ h2.aJ;obtain⟨a2,c2,e2,_⟩:=aZ h2.aD;have am:va=_:=e1;have az:vp=_:=e2;subst am az;exact⟨_,_,_,_,_,_,h1,h2,h3,h4⟩
  have tV:=ai (aN wc.heap.size wc).drew;have Ck:lo<=wc.heap.size:=by have:=Nb.o.base;have:=aQ Nb.o.head;omega
  obtain⟨i0,Z,ae,ab,a7⟩:=kI aaA;have Mk:=ai Z;have Tn:=ai ae;have Nr:=ai ab;have DY:=ai a7;clear Z ae ab a7;go_wp2
  go_region_law (first
   | (refine tX (P:=prog) rfl _ _ 60 rfl lo 142 i0 (.agg #[.bool false,Nl,Nl]) 3 56 underlying60 Mk.o Tn.o Nr.o DY.o rfl Δ (.slice (some (Ad sb 0)) ns cap) ns (L.flatMap j6) rfl au.o (some (Ad w2.heap.size 0)) 1 1 [.bool lv,.slice a1 n1 c1,.slice a2 n2 c2] rfl rfl (λ_=>⟨_,rfl,xY (bH w2 _ _)⟩) (by intro u hu;simp at hu;rcases hu with rfl | rfl | rfl <;> rfl) (by unfold maxLen;omega) ω ag.o ?_;intro v3 w4 y T a3;obtain⟨a4,c4,rfl,_⟩:=aZ y;have M7:=ai y;have Y4:=ai T;have aF:=ai a3;have M:=AK (bu (Nb.o.below uD.o).head (.cells #[.bool lv,.slice a1 n1 c1,.slice a2 n2 c2] 142)) T (λe=>Nb.o.n1 e.symm);have y1:w4.cell? (Ad mb 1)=some (.slice (some (Ad sb 0)) ns cap):=aA M 1 rfl;have y2:w4.frozen? (Ad mb 1)=false:=bG M 1;clear y T a3 M)
   | (go_simp;go_at_call 182;refine(uM.o _ tV.o).mono ?_;rintro e w2 ⟨a1,n1,c1,a2,n2,c2,rfl,W,KI,q⟩;have uD:=ai (tV.o.trans (q.mono tV.o.size));have ao:=ai W;have al:=ai KI;have iJ:=ai q;have m3:w2.cell? (Ad mb 1)=some (.slice (some (Ad sb 0)) ns cap):=aA (Nb.o.below uD.o).head 1 rfl;have m4:(w2.alloc (.cells #[.bool lv,.slice a1 n1 c1,.slice a2 n2 c2] 142)).cell? (Ad mb 1)=some (.slice (some (Ad sb 0)) ns cap):=aA (bu (Nb.o.below uD.o).head _) 1 rfl;have au:Hid ((w2.alloc (.cells #[.bool lv,.slice a1 n1 c1,.slice a2 n2 c2] 142)).ownsRow lo 142 3 (.slice (some (Ad sb 0)) ns cap) ns (L.flatMap j6)):=a8 ▸ ((Nb.o.below uD.o).row.alloc _);have ag:Hid (lo<=(w2.alloc (.cells #[.bool lv,.slice a1 n1 c1,.slice a2 n2 c2] 142)).heap.size):=(by show _<=_;have:=uD.o.size;simp;omega);clear q W KI;go_simp))
  all_goals
   go_wp2;have hp:=Nb.o.push (D':=λb=>D b\/(w.heap.size<=b/\b<w4.heap.size)) Ck uD.o ao.o al.o Y4.o (a8 ▸ M7.o) aF.o (λb hb=>.inl hb) (λb h1 h2=>.inr ⟨by have:=EC.o.size;omega,h2⟩);have av:(w4.setCell (Ad mb 1) (.slice a4 (ns+1) c4)).heap.size=w4.heap.size:=by simp
   have ad:aH D wc (w4.setCell (Ad mb 1) (.slice a4 (ns+1) c4)):=hp.2.mono (λb _ hb=>by
    rcases hb with g | g
    . rw[g];exact Nb.o.d1
    exact Nb.o.d2 b g)
   have:=HP.o _ ⟨_,by rw[HR.o];exact⟨⟨_,_,hp.1⟩,λb hb=>by
    have z1:=ad.size;have z2:=EC.o.size;have z3:=HM.o.base;have z4:=aQ HM.o.head;rw[av] at z1 ⊢;rcases hb with g | g
    . have:=HD.o b g;omega
    . omega⟩,(aH.bQ EC.o).trans ad (λ_ _ g=>g),λb hb=>by
    rcases hb with g | g
    . exact .inl g
    exact .inr g.1⟩
   rw[HR.o] at this;exact this
theorem ac8:rX=zU:=by decide
theorem WT (n:Nat):mo p (n+1)=mo p n++[⟨p+(n:Int),zU⟩]:=by
 unfold mo;rw[vE,tF];rfl
theorem Fb (n:Nat):(mo p n).length=n:=by
 unfold mo;rw[fI,AE]
theorem ac7 (n:Nat) (w:World) (hp:0<=p) (hp2:p<=1000) (hn:n<=1000) :
  Calls prog 317 #[I p,I (n:Int)] w λe w'=>∃v,e=.returned v/\w'.ownsRow w.heap.size 148 2 v n ((mo p n).flatMap dg)/\Below w.heap.size w w':=by
 have HZ:Hid (∀V,Calls prog 170 #[.string ⟨#[0]⟩,I 16] V λe w'=>e=.returned (.string zU)/\Below V.heap.size V w'):=λV=>by rw[<- ac8];exact Gz V
 have Tt:=ai (WT p);obtain⟨i0,A,B,G,J⟩:=kI QX;have Mk:=ai A;have Tn:=ai B;have Nr:=ai G;have DY:=ai J;generalize zU=Z at HZ Tt;clear A B G J;go_enter func317,ntmps317;go_wp2;go_loopw [5,8] (λv iv wr=>∃k:Nat,k<=n/\iv=I (k:Int)/\wr.ownsRow w.heap.size 148 2 v k ((mo p k).flatMap dg)/\Below w.heap.size w wr) (λ_ iv _=>n-(intOf iv).toNat)
 case atStart=>exact⟨0,ω,rfl,pT _ _ _ _,aN _ _⟩
 case round =>
  obtain⟨k,hk,rfl,b,hb⟩:=hrel;have HO:=ai b;have HB:=ai hb;by_cases hlt:k<n
  . have C2:(k:Int)<(n:Int):=by omega
    clear b hb;go_wp2_with (first
     | (at_builtin;refine m8 (P:=prog) rfl _ _ 140 rfl w.heap.size 148 i0 (.agg #[I 0,.string ⟨#[]⟩]) 2 24 underlying140 Mk.o Tn.o Nr.o DY.o rfl Δ _ k ((mo p k).flatMap dg) rfl F.o (some (Ad w1.heap.size 0)) 1 1 [I (p+(k:Int)),.string Z] rfl rfl (λ_=>⟨_,rfl,xY (bH w1 _ _)⟩) (by intro u hu;simp at hu;rcases hu with rfl | rfl <;> rfl) (by unfold maxLen;omega) ω (by have:=cD.o.size;simp;omega) ?_;intro v' w' b K L;have K6:=ai b;have iJ:=ai ((cD.o.alloc cD.o.size (.cells #[I (p+(k:Int)),.string Z] 148)).grown K (by have:=cD.o.size;simp;omega) (λq hq=>(F.o.lt q hq).1));clear b K L)
     | (go_at_call 170;refine(HZ.o _).mono ?_;rintro e w1 ⟨rfl,y⟩;have cD:=ai (HB.o.trans (y.mono HB.o.size));have F:=ai (((aH.bQ (D:=λ_=>False) y).row HO.o (λ_ _ g=>g)).alloc (.cells #[I (p+(k:Int)),.string Z] 148));clear y))
    go_roundw
    case rel=>exact⟨k+1,ω,by go_num,by rw[Tt.o k,tH];simpa [dg] using K6.o,iJ.o⟩
    case measure=>simp[intOf];omega
  obtain rfl:k=n:=by omega
  clear b hb;go_wp2;go_ret;exact⟨_,rfl,HO.o,HB.o⟩
theorem anC:(zeroValue 148).run prog w=.ok (.agg #[I 0,.string ⟨#[]⟩]) w:=by kernel_rfl
abbrev Q6 (lo:Nat) (vp:Value) (l:List dK) (w:World):Ending->World->Prop:=xI dg 2 148 lo vp l w
theorem api:BW dg 2 148 140 316 320 (.agg #[I 0,.string ⟨#[]⟩]):=⟨jz,λl u hy=>by
 simp[dg] at hy;rcases hy with rfl | rfl <;> rfl,.inr ⟨rfl,rfl,rfl,rfl,rfl,rfl⟩⟩
theorem aaz:∀{ps:List dK} {p:Int} {i:Nat},Fe ps p i->i=rO ps p
 | [],p,i,h=>by
  have:=h.le;simp only[NJ] at this;show i=0;omega
 | g::ps,p,i,h=>by
  unfold rO;rw[List.takeWhile_cons];cases i with
  | zero =>
   have:=h.high 0 ω ξ;have hd:(decide (g.page<p))=false:=fE (by show ¬g.page<p;have e:(bo (g::ps) 0).page=g.page:=rfl;omega);rw[hd];rfl
  | succ i =>
   have h0:=h.low 0 ω;have hd:(decide (g.page<p))=true:=fD (by have e:(bo (g::ps) 0).page=g.page:=rfl;omega);rw[hd];have hl:Fe ps p i:=⟨by have:=h.le;simp only[tG] at this;omega,λj hj=>h.low (j+1) ω,λj h1 h2=>h.high (j+1) ω (by simp only[tG];omega)⟩;have:=aaz hl;unfold rO at this;simp only[vK,tG];omega
theorem iE.an8 {w w1:World} {D:Nat->Prop} {sb n cap:Nat} {L:List oV} (h:iE lo mb w D sl (.slice (some (Ad sb 0)) n cap) L ss) {k:Nat} (hk:k<L.length) {vp:Value} {l:List dK}
  (yz:aH (dh (cM L k).vp) w w1) (ho:w1.ownsRow lo 148 2 vp l.length (l.flatMap dg)) (hvp:∀b,dh vp b->dh (cM L k).vp b\/w.heap.size<=b) (hd:∀b,D b->D' b) (hd2:∀b,w.heap.size<=b->b<w1.heap.size->D' b) :
  iE lo mb (w1.setCell (Ad sb (k*3+2)) vp) D' sl (.slice (some (Ad sb 0)) n cap) (L.set k { cM L k with vp:=vp }) (ss.set k { aI ss k with aD:=l })/\aH (λb=>b=sb\/dh (cM L k).vp b) w (w1.setCell (Ad sb (k*3+2)) vp):=by
 have q:dh (.slice (some (Ad sb 0)) n cap) sb:=rfl;have y:aH (λb=>b=sb) w1 (w1.setCell (Ad sb (k*3+2)) vp):=aH.set _ _ _ _ rfl;have F:aH (λb=>b=sb\/dh (cM L k).vp b) w (w1.setCell (Ad sb (k*3+2)) vp):=(yz.mono (λ_ _ g=>Or.inr g)).trans y (λ_ _ g=>.inl g);have B:n=L.length:=by
  obtain⟨ao,c,e,_,_⟩:=aZ h.row;injection e
 have G:(w1.setCell (Ad sb (k*3+2)) vp).heap.size=w1.heap.size:=by simp
 have J:=(h.row.lt sb q).2;refine⟨h.turn hk (F.mono (λb _ e=>e.elim (λg=>.inl (g ▸ q)) .inr)) ?_ ?_ (λb g=>.inl g) hvp (λb g1 g2=>?_) hd (λb g1 g2=>hd2 b g1 (by rw[G] at g2;exact g2)),F⟩
 . have hr:=yz.row h.row (λb hb e=>(h.n3 k hk b hb).2 e);rw[<- B] at hr;rw[<- WY L k hk] at hr;have:=dJ hr (k*3+2) vp;rw[<- xj L k hk (cM L k) { cM L k with vp:=vp } 2 ω vp rfl] at this;rw[<- B];exact this
 . have A:=h.each k hk;refine⟨A.live,y.row (yz.row A.aJ (λb hb e=>(h.n4 k k hk hk b e).1 hb)) (λb hb' e=>?_),y.row ho (λb hb' e=>?_)⟩
   . exact(h.n3 k hk sb q).1 (e ▸ hb')
   rcases hvp b hb' with g | g
   . exact(h.n3 k hk sb q).2 (e ▸ g)
   omega
 rcases hvp b g1 with g | g
 . exact(h.n4 k k hk hk b g).1 g2
 have:=(h.lt k hk b (.inl g2)).2;omega
theorem aiG (n q:Int) (h:gG lo mb w D m) (hok:kY m fl) (hf:fl.getD k false=true) (hp:cH p) (hn:cH n) :
  Calls prog 310 #[.pointer (some (Ad mb 0)),I (k:Int),I p,I n,I q] w (kj (gG lo mb) w D (I (wC m k p n q).1) (wC m k p n q).2):=by
 obtain⟨⟨v,L,hM⟩,hD⟩:=h;obtain⟨hk,ab⟩:=hok.live hf;have hL:=lJ (hok.each k hk) ab;have h4:=hok.few.2;have bb:=hok.slots;have aF:=hok.room;have Lg:=(Hv m.aj m.aj.length).1;have F:=WZ hok;have G:=ai (λ(g:(dZ (aI m.aj k).aJ p n q).2=0)=>(CH hL.check g).2.1);have y:=hL.lq;have ao:(aI m.aj k).aD.length<=70000:=by have:=lI hL;have:=oW (aI m.aj k).aJ;omega
 obtain⟨sb,cap,aa,na,ca,ap,cp,hv,Bl,ay,c0,c1,c2,ad,b5,_,au,_⟩:=hM.space k hk;obtain⟨Fl,aG,ae,av⟩:=hM.has;rw[hv] at ae;injection ae with e1 e2 e3;subst e1 e3;subst hv;have U:=gy _ hL.check;have QT:=ai (Np (aI m.aj k).aJ (.slice aa na ca) p n q w ad U hp hn);have M:Hid (∀V,Below w.heap.size w V->Calls prog 213 #[.slice (some (Ad sb 0)) m.aj.length cap] V λe w'=>e=.returned (I (fu m.aj))/\Below V.heap.size V w'):=λV hV=>Hu m.aj (some (Ad sb 0)) cap V (av.below hV) F ω
 obtain⟨m0,m1⟩:=xZ hM.head;have bx:=aQ hM.head;have C2:(k:Int)<(m.aj.length:Int):=by omega
 have zK:Hid (wC m k p n q=if ¬(dZ (aI m.aj k).aJ p n q).2=0 then ((dZ (aI m.aj k).aJ p n q).2,m) else if m.slots<fu m.aj+n then (8,m) else (0,kv m k { aI m.aj k with aJ:=(dZ (aI m.aj k).aJ p n q).1,aD:=kN (aI m.aj k).aD p n.toNat })):=rfl;generalize dZ (aI m.aj k).aJ p n q=X at QT zK G;have HM:=ai hM;have HD:=ai hD;have b4:=ai au;have XF:=ai hk;have Q:=ai ay;generalize wC m k p n q=R at zK ⊢;obtain⟨P,hP⟩:=ex (kj (gG lo mb) w D (I R.1) R.2);have HP:Hid (∀w',(∃D',gG lo mb w' D' R.2/\aH D w w'/\∀b,D' b->D b\/w.heap.size<=b)->P (.returned (I R.1)) w'):=λw' ⟨D',h1,h2,h3⟩=>by rw[hP];exact⟨D',rfl,h1,h2,h3⟩
 rw[<- hP];obtain⟨X1,X2⟩:=X;simp only at QT zK G;obtain⟨ns,a1⟩:=ex m.aj.length;rw[<- a1] at m1 C2 hk h4 M;have aR:=ai a1;obtain⟨rm,UG⟩:=ex (fu m.aj);rw[<- UG] at M zK aF;have c5:0<=rm:=by rw[UG];exact Lg
 obtain⟨sl,a0⟩:=ex m.slots;rw[<- a0] at zK m0 bb aF;have Xx:=ai a0;obtain⟨s,hs⟩:=ex (aI m.aj k);rw[<- hs] at zK c2 Q y ao;have a5:=ai hs;have bp:=ai y;clear hM hD hok hf ab hP hL ad b5 U ay au a1 c0 hs UG a0 Lg av e2 y F;by_cases hX2:X2=0
 . subst hX2;have bz:=G.o rfl;have DW:Hid (R=if sl<rm+n then (8,m) else (0,kv m k { s with aJ:=X1,aD:=kN s.aD p n.toNat })):=by rw[zK.o,aB (λg=>g rfl)];exact rfl
   clear zK G;have bP:IntKind.i64.wrap (rm+n)=rm+n:=sJ _ ω;go_enter func310,ntmps310;go_wp2_with (go_at_call 115;refine QT.o.mono ?_;rintro e w1 ⟨r,rfl,hr,hb⟩;obtain⟨ra,rc,a7,_,_⟩:=aZ (show w1.ownsRow w.heap.size 139 4 r _ _ from hr);subst a7;have aP:=ai hr;have cD:=ai hb;clear hr hb);have HS:Hid (∀V,Below w1.heap.size w1 V->V.cell? (Ad mb 0)=some (I sl)/\V.cell? (Ad mb 1)=some (.slice (some (Ad sb 0)) ns cap)):=λV hb=>by
    have h2:=(HM.o.below (cD.o.trans (hb.mono cD.o.size))).head;exact⟨by rw[Xx.o];exact aA h2 0 rfl,by rw[aR.o];exact aA h2 1 rfl⟩
   have tV:=ai (aN w1.heap.size w1).drew;have pK:=ai (HS.o _ tV.o);clear m0 m1;go_cut [37] (λx wx=>x=.bool (decide (sl<rm+n))/\Below w1.heap.size w1 wx)
   case first =>
    go_region_held3 (λV=>V.cell? (Ad mb 0)=some (I sl)/\V.cell? (Ad mb 1)=some (.slice (some (Ad sb 0)) ns cap)) (first | exact Mf.o | exact pK.o)
     (first
      | (go_at_call 213;refine(M.o _ (cD.o.trans (tV.o.mono cD.o.size))).mono ?_;rintro e w2 ⟨rfl,a9⟩;have uD:=ai (tV.o.trans (a9.mono tV.o.size));have Mf:=ai (HS.o _ uD.o);clear a9))
    all_goals
     go_wp2_with fail
     go_meet
     case rel=>exact⟨by first | rfl | simp,uD.o⟩
   case rest =>
    obtain⟨rfl,N⟩:=hcut;have QV:=ai (cD.o.trans (N.mono cD.o.size));have a8:=ai (aH.row (aH.bQ (D:=λ_=>False) N) (show w1.ownsRow w.heap.size 139 4 _ _ _ from aP.o) (λ_ _ g=>g));have b2:=HS.o _ N;obtain⟨s0,s1⟩:=b2;clear N pK tV M aP cD HS QT;by_cases hroom:sl<rm+n
    . have HR:Hid (R=(8,m)):=by rw[DW.o,aC hroom];exact rfl
      clear DW;go_wp2;have:=HP.o _ ⟨D,by rw[HR.o];exact gG.below ⟨⟨_,L,HM.o⟩,HD.o⟩ QV.o,aH.bQ QV.o,λb hb=>.inl hb⟩;rw[HR.o] at this;exact this
    have HR:Hid (R=(0,kv m k { s with aJ:=X1,aD:=kN s.aD p n.toNat })):=by rw[DW.o,aB hroom];exact rfl
    clear DW;have MC:k<L.length:=by rw[HM.o.len];exact XF.o
    have hlo:=HM.o.base;obtain⟨hA,hK⟩:=HM.o.alO (D':=λb=>D b\/(w.heap.size<=b/\b<wc.heap.size)) MC QV.o (eB.mono (show eB w.heap.size wc _ _ from a8.o) ω) (λb hb=>(a8.o.lt b hb).1) (λb hb=>.inl hb) (λb g1 g2=>.inr ⟨g1,g2⟩);have bn:k<(m.aj.set k { aI m.aj k with aJ:=X1 }).length:=by rw[dE];exact XF.o
    have W:cM (L.set k { cM L k with va:=.slice ra X1.length rc }) k={ cM L k with va:=.slice ra X1.length rc }:=by rw[J7 _ _ _ _ MC,aC rfl]
    have J:aI (m.aj.set k { aI m.aj k with aJ:=X1 }) k={ aI m.aj k with aJ:=X1 }:=tq _ _ _ XF.o;obtain⟨cb,aG,c9,bF,bS,bA,bL,bi,_,an,_,y1,y2,_,A,_,T,_⟩:=hA.space k bn;rw[W,J,Q.o] at an;injection an with g1 g2 g3;injection g3 with g4 g5 g6;subst g4 g6;injection bi with v1 v2 v3;injection v1 with v1;injection v1 with v1;subst v1;rw[J] at A y2;simp only at A y2;rw[<- a5.o] at A y2;have s2:wc.cell? (Ad sb (k*3+1))=some (.slice aa na ca):=(QV.o.cell (p:=(Ad sb (k*3+1))) Bl).trans c1;have s3:wc.frozen? (Ad sb (k*3+1))=false:=(QV.o.frozen (p:=(Ad sb (k*3+1))) Bl).trans (b4.o _);have s4:wc.cell? (Ad sb (k*3+2))=some (.slice ap s.aD.length cp):=(QV.o.cell (p:=(Ad sb (k*3+2))) Bl).trans c2;have HA:=ai hA;have aE:=ai hK;obtain⟨W3,B⟩:=ex (wc.setCell (Ad sb (k*3+1)) (.slice ra X1.length rc));have al:Hid (W3.heap.size=wc.heap.size):=by show _=_;rw[B];simp
    have cc:=ai B;rw[<- B] at HA aE A y2 T;have O:Hid (∀V,Below W3.heap.size W3 V->V.cell? (Ad sb (k*3+2))=some (.slice ap s.aD.length cp)):=λV hV=>(hV.cell (p:=(Ad sb (k*3+2))) (jL _ _ y2)).trans y2
    have aK:Hid (Calls prog 127 #[.slice ap s.aD.length cp,I p] (wc.setCell (Ad sb (k*3+1)) (.slice ra X1.length rc)) λe w'=>∃i,Fe s.aD p i/\e=.returned (.tuple #[I (i:Int),.bool (pH s.aD p i)])/\Below W3.heap.size W3 w'):=by
     show Calls _ _ _ _ _;rw[<- B];exact Hw _ _ _ _ _ A bp.o ω
    have b6:Hid (∀V,Calls prog 317 #[I p,I n] V λe w'=>∃za zc,e=.returned (.slice za n.toNat zc)/\w'.ownsRow V.heap.size 148 2 (.slice za n.toNat zc) n.toNat ((mo p n.toNat).flatMap dg)/\Below V.heap.size V w'):=λV=>by
     have:=ac7 p n.toNat V ω ω ω;rw[show((n.toNat:Nat):Int)=n by omega] at this;refine this.mono ?_;rintro e w' ⟨v,rfl,h1,h2⟩;obtain⟨za,zc,rfl,_,_⟩:=aZ h1;exact⟨za,zc,rfl,h1,h2⟩
    have UK:k<(L.set k { cM L k with va:=.slice ra X1.length rc }).length:=by rw[dE];exact MC
    have az:(cM (L.set k { cM L k with va:=.slice ra X1.length rc }) k).vp=.slice ap s.aD.length cp:=by rw[W,Q.o]
    have Ll:=ai az;have a3:Hid (∀V,Below W3.heap.size W3 V->V.ownsRow lo 148 2 (.slice ap s.aD.length cp) s.aD.length (s.aD.flatMap dg)):=λV hV=>by
     have:=((HA.o.below hV).each k UK).aD;rw[Ll.o,J] at this;simp only at this;rw[<- a5.o] at this;exact this
    have c7:lo<=W3.heap.size:=by have:=HA.o.base;have:=aQ HA.o.head;omega
    have Mk:Hid (∀V i za zc H0,Below W3.heap.size W3 V->Fe s.aD p i->W3.heap.size<=H0->V.ownsRow H0 148 2 (.slice za n.toNat zc) n.toNat ((mo p n.toNat).flatMap dg)->Calls prog 316 #[.slice ap s.aD.length cp,I (i:Int),.slice za n.toNat zc] V λe w'=>∃a6 c6,e=.returned (.slice a6 (kN s.aD p n.toNat).length c6)/\w'.ownsRow lo 148 2 (.slice a6 (kN s.aD p n.toNat).length c6) (kN s.aD p n.toNat).length ((kN s.aD p n.toNat).flatMap dg)/\aH (dh (.slice ap s.aD.length cp)) V w'/\(∀b,dh (.slice a6 (kN s.aD p n.toNat).length c6) b->dh (.slice ap s.aD.length cp) b\/V.heap.size<=b)):=λV i za zc H0 hV Ck hH hz=>by
     have hr:=a3.o V hV;have bm:=a3.o W3 (aN _ _);have cd:=hV.size;have bv:=Ck.le;have b9:=aaz Ck;subst b9;have:=Me api lo s.aD (mo p n.toNat) (.slice ap s.aD.length cp) (.slice za n.toNat zc) H0 (rO s.aD p) V hr (by rw[Fb];exact hz) ω (λb h1 h2=>by
      have g1:=(hz.lt b h1).1;have g2:=(bm.lt b h2).2;omega) bv (by rw[Fb];omega) ω (by rw[Fb];omega)
     refine this.mono ?_;rintro e w' ⟨v',rfl,h1,h2,h3⟩;change w'.ownsRow lo _ 2 v' (kN s.aD p n.toNat).length ((kN s.aD p n.toNat).flatMap dg) at h1;obtain⟨a6,c6,rfl,_,_⟩:=aZ h1;exact⟨a6,c6,rfl,h1,h2,h3⟩
    have aw:Hid (¬dh (.slice ap s.aD.length cp) sb):=by
     have:=(HA.o.n3 k UK sb rfl).2;rw[Ll.o] at this;exact this
    have b1:Hid (¬dh (.slice ap s.aD.length cp) mb):=by
     have:=(HA.o.n2 k UK).2;rw[Ll.o] at this;exact this
    have ag:Hid (∀b,dh (.slice ap s.aD.length cp) b->D b):=λb hb=>HM.o.d3 k MC b (.inr (by rw[Q.o];exact hb))
    have Tu:Hid (∀V,aH (dh (.slice ap s.aD.length cp)) W3 V->V.frozen? (Ad sb (k*3+2))=false/\V.cell? (Ad sb (k*3+2))=some (.slice ap s.aD.length cp)):=λV hV=>by
     refine⟨?_,hV.cell (O.o _ (aN _ _)) aw.o⟩;have hr:=hV.row HA.o.row (λb hb e=>(HA.o.n3 k UK b hb).2 (by rw[Ll.o];exact e));have b3:m.aj.length=(L.set k { cM L k with va:=.slice ra X1.length rc }).length:=by rw[dE];exact HM.o.len.symm
     rw[<- b3] at hr;exact ie hr _
    obtain⟨IL,a2⟩:=ex ((kN s.aD p n.toNat).length);generalize s.aD.length=PL at aK Mk aw b1 ag Tu O Ll s4 ao;rw[<- a2] at Mk;have ba:=ai a2;clear hA hK A y1 y2 T a2 B a3 c2 c1 W J az s0 s1;go_wp2_with (go_at_call 127;refine aK.o.mono ?_;rintro e w4 ⟨i,Ck,rfl,Z⟩;have b8:=ai Ck;have WG:=ai Z;have x4:=O.o _ Z;clear Ck Z);have a4:=ai WG.o.drew
    go_region_law (first
     | (go_simp;go_at_call 317;refine(b6.o _).mono ?_;rintro e w5 ⟨za,zc,rfl,hz,Fu⟩;have b0:=ai hz;have K:=ai (a4.o.trans (Fu.mono a4.o.size));have x5:=O.o _ K.o;clear hz Fu;go_simp)
     | (go_simp;go_at_call 316;refine(Mk.o _ _ _ _ _ K.o b8.o a4.o.size b0.o).mono ?_;rintro e w6 ⟨a6,c6,rfl,ho,ac,af⟩;have bt:=ai ho;have Y:=ai ((aH.bQ K.o).trans ac (λ_ _ g=>g));have bs:=ai (λb hb=>(af b hb).imp id (λg=>eJ K.o.size g));obtain⟨x6,x7⟩:=Tu.o _ Y.o;clear ho ac af;go_simp))
    all_goals
     go_wp2;obtain⟨am,ah⟩:=HA.o.an8 (D':=λb=>D b\/(w.heap.size<=b/\b<w6.heap.size)) UK (vp:=.slice a6 IL c6) (l:=kN s.aD p n.toNat) (w1:=w6) (by rw[Ll.o];exact Y.o) (by rw[<- ba.o];exact bt.o) (by rw[Ll.o];exact bs.o) (λb hb=>by
      have z1:=Y.o.size;have z2:=al.o;rcases hb with g | g
      . exact .inl g
      exact .inr ⟨g.1,ω⟩) (λb g1 g2=>.inr ⟨by have:=al.o;have:=QV.o.size;omega,g2⟩)
     have aS:(w6.setCell (Ad sb (k*3+2)) (.slice a6 IL c6)).heap.size=w6.heap.size:=by simp
     rw[Ll.o] at ah;have aL:aH D w (w6.setCell (Ad sb (k*3+2)) (.slice a6 IL c6)):=(aE.o.mono (D1:=D) (λb _ e=>HM.o.d2 b (by rw[e];rfl))).trans ah (λb _ e=>by
      rcases e with e | e
      . exact HM.o.d2 b (by rw[e];rfl)
      exact ag.o b e)
     have bd:(m.aj.set k { aI m.aj k with aJ:=X1 }).set k { aI (m.aj.set k { aI m.aj k with aJ:=X1 }) k with aD:=kN s.aD p n.toNat }=m.aj.set k { s with aJ:=X1,aD:=kN s.aD p n.toNat }:=by
      rw[Hs,tq _ _ _ XF.o,a5.o]
     rw[bd] at am;have:=HP.o _ ⟨_,by rw[HR.o];exact⟨⟨_,_,am⟩,λb hb=>by
      have z1:=aL.size;have z2:=HD.o;rw[aS] at z1 ⊢;rcases hb with g | g
      . have:=z2 b g;omega
      . omega⟩,aL,λb hb=>by
      rcases hb with g | g
      . exact .inl g
      exact .inr g.1⟩
     rw[HR.o] at this;exact this
 have HR:Hid (R=(X2,m)):=by rw[zK.o,aC hX2];exact rfl
 have c8:(X2==0)=false:=by rw[gT];exact hX2
 clear zK hX2 G;go_enter func310,ntmps310;go_wp2_with (go_at_call 115;refine QT.o.mono ?_;rintro e w1 ⟨r,rfl,hr,hb⟩;obtain⟨ra,rc,a7,_,_⟩:=aZ (show w1.ownsRow w.heap.size 139 4 r _ _ from hr);subst a7;have cD:=ai hb;clear hr hb);have:=HP.o w1 ⟨D,by rw[HR.o];exact gG.below ⟨⟨_,L,HM.o⟩,HD.o⟩ cD.o,aH.bQ cD.o,λb hb=>.inl hb⟩;rw[HR.o] at this;exact this
end Go.Proofs.YtlgoihmkgaaemaaGreat
