import Derived.Test.YtlgoihmkgaaemaaGreatGQ36
set_option maxHeartbeats 20000000
set_option linter.unusedVariables false
set_option maxRecDepth 100000
set_option linter.unusedSimpArgs false
namespace Go.Proofs.YtlgoihmkgaaemaaGreat
open Go.RowKit Tryz
variable {lo mb:Nat} {w:World} {D:Nat->Prop} {sl:Int} {v:Value} {L:List oV} {ss:List ek} {ps:List dK} {i:Nat} {a:Int} {m pb:Nat} {w':World}
theorem iE.space (h:iE lo mb w D sl v L ss) (k:Nat) (hk:k<ss.length) :
  ∃sb cap aa na ca ap cp,v=.slice (some (Ad sb 0)) ss.length cap/\sb<w.heap.size/\cM L k=⟨(aI ss k).live,.slice aa na ca,.slice ap (aI ss k).aD.length cp⟩ /\
   w.cell? (Ad sb (k*3))=some (.bool (aI ss k).live)/\w.cell? (Ad sb (k*3+1))=some (.slice aa na ca)/\w.cell? (Ad sb (k*3+2))=some (.slice ap (aI ss k).aD.length cp) /\
   gD w (.slice aa na ca) (aI ss k).aJ/\rU w ap (aI ss k).aD/\(aI ss k).aD.length<=cp/\(∀j,w.frozen? (Ad sb j)=false)/\(0<(aI ss k).aD.length->∃pb,ap=some (Ad pb 0)/\pb<w.heap.size):=by
 obtain⟨ao,cap,e,_,hg⟩:=aZ h.row;have A:=h.len;have B:k<L.length:=by omega
 obtain⟨sb,rfl,_,F⟩:=hg ω;have hr:=h.row;rw[e] at hr;have hs:=h.each k B;obtain⟨aa,ca,ea,_,_⟩:=aZ (show w.ownsRow lo _ 4 _ _ _ from hs.aJ);obtain⟨ap,cp,ep,C4,b⟩:=aZ hs.aD;have hc:∀j,j<3->w.cell? (Ad sb (k*3+j))=(j6 (cM L k))[j]?:=λj hj=>gw j6 Ay Ht hr k j B hj
 have hl:cM L k=⟨(aI ss k).live,.slice aa (aI ss k).aJ.length ca,.slice ap (aI ss k).aD.length cp⟩:=by
  rw[<- ea,<- ep,<- hs.live]
 refine⟨sb,cap,aa,_,ca,ap,cp,by rw[<- A];exact e,F,hl,?_,?_,?_,?_,?_,C4,λj=>ie hr j,λhp=>by
  obtain⟨q,e1,_,e3⟩:=b hp;exact⟨q,e1,e3⟩⟩
 . have:=hc 0 ω;rw[hl] at this;exact this
 . have:=hc 1 ω;rw[hl] at this;exact this
 . have:=hc 2 ω;rw[hl] at this;exact this
 . rw[<- ea];exact hs.aJ.has
 intro hp;obtain⟨q,rfl,J,G⟩:=b hp;refine⟨q,0,rfl,G,λi hi=>?_⟩;have hr:=hs.aD;rw[ep] at hr;have y:∀j,j<2->w.cell? (Ad q (i*2+j))=(dg (bo (aI ss k).aD i))[j]?:=λj hj=>gw dg jz zk hr i j hi hj
 rw[nj];exact⟨y 0 ω,y 1 ω⟩
theorem Zf {p:Int} {j:Nat} (h:Fe ps p j) (hi:i<ps.length) (hp:(bo ps i).page=p) (hr:AA ps):j=i:=by
 rcases Nat.lt_trichotomy j i with g | g | g
 . have h1:=h.high j (aK _) ω;have h2:=hr j i g hi;omega
 . exact g
 have:=h.low i g;omega
def J8 (ps:List dK) (vp:Value) (a n:Int) (f:Int×Int) (w:World) (e:Ending) (w':World):Prop :=
 Below w.heap.size w w'/\((¬f.1=0/\e=.returned (.tuple #[Nl,.agg (eI f)]))\/(f.1=0/\∃i pb cp,mH ps a n i/\vp=.slice (some (Ad pb 0)) ps.length cp/\e=.returned (.tuple #[.slice (some (Ad pb (i*2))) (eG a n-a/16+1).toNat (cp-i),.agg #[I 0,I 0]])))
theorem PQ (k:Nat) (a n way:Int) (w:World) (h:iE lo mb w D sl v L ss) (hk:k<ss.length) (hn:ss.length<=1000) (hL:oU (aI ss k)) (ha:cH a) (UJ:1<=n) (hn8:n<=8) :
  Calls prog 314 #[.pointer (some (Ad mb 0)),I (k:Int),I a,I n,I way] w (J8 (aI ss k).aD (cM L k).vp a n (bB (aI ss k).aJ a n way) w):=by
 obtain⟨sb,cap,aa,na,ca,ap,cp,hv,Bl,X,c0,c1,c2,Y,O,C4,_,a0⟩:=h.space k hk;have K:=ai a0;have HM:=ai h;have M:=gy _ hL.check;have B:(aI ss k).aD.length<=65025:=by
  have h1:=lI hL;have h2:=oW (aI ss k).aJ;omega
 have y:=ai (λV (hV:Below w.heap.size w V)=>Ra (aI ss k).aJ (.slice aa na ca) a n way V (Y.below hV) M ha ω);have A:=ai (λp V (hV:Below w.heap.size w V)=>Hw (aI ss k).aD p ap cp V (O.below hV) hL.lq ω);have uP:=ai (λg=>JW hL (a:=a) (way:=way) UJ ω g);have Q:=ai hL.lq;have Z:=ai O;have G:=ai (λg=>(JZ (l:=(aI ss k).aJ) (a:=a) (n:=n) (way:=way) g).1);rw[X];generalize aI ss k=s at c0 c2 y A uP Q Z G K C4 B ⊢;generalize bB s.aJ a n way=f at y uP G ⊢;generalize s.live=lv at c0;generalize s.aD=ps at c2 A uP Q Z K C4 B ⊢;obtain⟨np,C0⟩:=ex ps.length;have U:=ai C0;rw[<- C0] at c2 A C4 B K;generalize ss.length=ns at hv hk hn;subst hv;have m1:w.cell? (Ad mb 1)=some (.slice (some (Ad sb 0)) ns cap):=aA h.head 1 rfl;have C2:(k:Int)<(ns:Int):=by omega
 have a6:=aQ h.head;have ab:¬mb=w.heap.size:=by omega
 have ad:¬sb=w.heap.size:=by omega
 simp only;obtain⟨f1,f2⟩:=f;unfold eI at y;simp only at y;have jc:=ai (((aN w.heap.size w).alloc (aK _) (.cells #[I 0,I 0] 75)).alloc ξ (.cells #[.bool lv,.slice aa na ca,.slice ap np cp] 142));have BY:=ai (bu (bH w #[I 0,I 0] 75) (.cells #[.bool lv,.slice aa na ca,.slice ap np cp] 142));have BS:Hid (((w.alloc (.cells #[I 0,I 0] 75)).alloc (.cells #[.bool lv,.slice aa na ca,.slice ap np cp] 142)).heap[w.heap.size+1]?=some (.cells #[.bool lv,.slice aa na ca,.slice ap np cp] 142 (0,0))):=by
  have:=bH (w.alloc (.cells #[I 0,I 0] 75)) #[.bool lv,.slice aa na ca,.slice ap np cp] 142;rw[fY] at this;exact this
 clear h C0 hL Y O M X a0;by_cases hf1:f1=0
 . subst hf1;obtain⟨i,q⟩:=uP.o rfl;have Xw:=q.low;have ae:=q.high;have a4:eG a n-a/16=0\/eG a n-a/16=1:=by rcases q.last with e | ⟨e,_⟩ <;> omega
   have T:=ai (show eG a n=(a+n-1)/16 from rfl);have a1:=q.lt;have a8:i+(eG a n-a/16+1).toNat<=np:=by rw[U.o];rcases q.last with e | ⟨e,e2,_⟩ <;> omega
   have N:=ai q;rw[<- U.o] at a1;obtain⟨pb,a2,ac⟩:=K.o ω;subst a2;have l0:0<=(a+n-1)/16-a/16:=by have:=T.o;omega
   have l1:(i:Int)+(a+n-1)/16-a/16+1<=(np:Int):=by have:=T.o;omega
   have l2:(np:Int)<=(cp:Int):=by omega
   clear q uP G;go_enter func314,ntmps314;go_wp2_with (first
    | (go_at_call 283;refine(y.o _ jc.o).mono ?_;rintro e w1 ⟨rfl,b⟩;have cD:=ai (jc.o.trans (b.mono jc.o.size));have iJ:=ai (cD.o.alloc cD.o.size (.cells #[I 0,I f2] 75));have R:=ai (bu (aU BS.o b (aQ BS.o)) (.cells #[I 0,I f2] 75));have W:=ai (bu (aU BY.o b (aQ BY.o)) (.cells #[I 0,I f2] 75));have s2:=aA (v:=.slice (some (Ad pb 0)) np cp) R.o 2 rfl;clear b)
    | (go_at_call 127;refine(A.o _ _ iJ.o).mono ?_;rintro e w2 ⟨j,hj,rfl,F⟩;obtain rfl:=Zf hj N.o.lt N.o.first Q.o;have ou:=ai (iJ.o.trans (F.mono iJ.o.size));have a5:=ai (aU R.o F (aQ R.o));have J:=ai (aU W.o F (aQ W.o));have s3:=aA (v:=.slice (some (Ad pb 0)) np cp) a5.o 2 rfl;have y0:=aA (v:=I 0) J.o 0 rfl;have y1:=aA (v:=I 0) J.o 1 rfl;have y2:=bG J.o 0;have y3:=bG J.o 1;clear F hj))
   refine b9 (v:=.tuple #[.slice (some (Ad pb (j*2))) (((j:Int)+(a+n-1)/16-a/16+1).toNat-j) (cp-j),.agg #[I 0,I 0]]) (by simp[results,results314,go_sem,y0,y1]) rfl ?_;refine⟨(ou.o.setCell (p:=(Ad w.heap.size 0)) (aK _) _).setCell (p:=(Ad w.heap.size 1)) (aK _) _,.inr ⟨rfl,j,pb,cp,N.o,rfl,?_⟩⟩;have e:((j:Int)+(a+n-1)/16-a/16+1).toNat-j=(eG a n-a/16+1).toNat:=by have:=T.o;omega
   rw[e]
 have a9:(f1==0)=false:=by rw[gT];exact hf1
 have a3:=ai hf1;clear uP G A hf1;go_enter func314,ntmps314;go_wp2_with (go_at_call 283;refine(y.o _ jc.o).mono ?_;rintro e w1 ⟨rfl,b⟩;have cD:=ai (jc.o.trans (b.mono jc.o.size));have Ql:=ai (aU BY.o b (aQ BY.o));have y0:∀ob,(w1.alloc ob).cell? (Ad w.heap.size 0)=some (I 0):=(λob=>aA (bu Ql.o ob) 0 rfl);have y1:∀ob,(w1.alloc ob).cell? (Ad w.heap.size 1)=some (I 0):=(λob=>aA (bu Ql.o ob) 1 rfl);have y2:∀ob,(w1.alloc ob).frozen? (Ad w.heap.size 0)=false:=(λob=>bG (bu Ql.o ob) 0);have y3:∀ob,(w1.alloc ob).frozen? (Ad w.heap.size 1)=false:=(λob=>bG (bu Ql.o ob) 1);have a7:¬w.heap.size=w1.heap.size:=(by have:=aQ Ql.o;omega);clear b);go_region
 all_goals
  go_wp2;refine b9 (v:=.tuple #[Nl,.agg #[I f1,I f2]]) (by simp[results,results314,go_sem,y0,y1]) rfl ?_;exact⟨((cD.o.alloc cD.o.size _).drew.setCell (p:=(Ad w.heap.size 0)) (aK _) _).setCell (p:=(Ad w.heap.size 1)) (aK _) _,.inl ⟨a3.o,rfl⟩⟩
open Go.RowKit
def zV (ps:List dK) (i m:Nat):List dK:=(ps.drop i).take m
theorem xV (h:i+m<=ps.length):(zV ps i m).length=m:=by
 unfold zV;rw[o7,Gn];omega
theorem F5 {j:Nat} (hj:j<m):bo (zV ps i m) j=bo ps (i+j):=by
 unfold zV bo;rw[cB,cB,List.getElem?_take_of_lt hj,T8]
theorem WU (h:rU w (some (Ad pb 0)) ps) (hi:i+m<=ps.length):rU w (some (Ad pb (i*2))) (zV ps i m):=λhm=>by
 rw[xV hi] at hm;obtain⟨b,off,e,hb,hl⟩:=h ω;injection e with e;injection e with e1 e2 _;subst e1 e2;refine⟨pb,i*2,rfl,hb,λj hj=>?_⟩;rw[xV hi] at hj;obtain⟨c0,c1⟩:=hl (i+j) ω;rw[F5 hj];rw[nj,uG] at c0 c1;exact⟨c0,c1⟩
theorem tu {n:Int} (h:mH ps a n i):((eG a n-a/16+1).toNat=1/\eG a n=a/16)\/((eG a n-a/16+1).toNat=2/\eG a n=a/16+1/\i+1<ps.length/\(bo ps (i+1)).page=eG a n):=by
 rcases h.last with e | ⟨e,e2,e3⟩
 . exact .inl ⟨ω,e⟩
 exact .inr ⟨ω,e,e2,e3⟩
theorem J6 {n:Int} (h:mH ps a n i):i+(eG a n-a/16+1).toNat<=ps.length:=by
 have:=h.lt;rcases tu h with⟨e,_⟩ | ⟨e,_,e2,_⟩ <;> omega
theorem WV {s:ek} (hL:oU s) {n:Int} (h:mH s.aD a n i):zi (zV s.aD i (eG a n-a/16+1).toNat) (eG a n-a/16+1).toNat=iw s.aD a n:=by
 unfold iw;rcases tu h with⟨e,e1⟩ | ⟨e,e1,e2,e3⟩
 . rw[aC e1,e];show(⟨#[]⟩:ByteArray)++(bo (zV s.aD i 1) 0).data=_;rw[F5 ω,FV hL.lq h.lt h.first,lB];exact ByteArray.empty_append
 rw[aB ω,e];show((⟨#[]⟩:ByteArray)++(bo (zV s.aD i 2) 0).data)++(bo (zV s.aD i 2) 1).data=_;rw[F5 ω,F5 ω,FV hL.lq h.lt h.first,FV hL.lq e2 e3,lB];rw[show(⟨#[]⟩:ByteArray)++(bo s.aD i).data=(bo s.aD i).data from ByteArray.empty_append]
theorem SI {s:ek} (hL:oU s) (h:i+m<=s.aD.length):∀k,k<(zV s.aD i m).length->(bo (zV s.aD i m) k).data.size=16:=λk hk=>by
 rw[xV h] at hk;rw[F5 hk];exact hL.size _ ω
def gG (lo mb:Nat) (w:World) (D:Nat->Prop) (m:m7):Prop:=(∃v L,iE lo mb w D m.slots v L m.aj)/\∀b,D b->lo<=b/\b<w.heap.size
theorem gG.kp {E:Nat->Prop} {m:m7} (h:gG lo mb w D m) (hk:aH E w w') (hd:∀b,D b->¬E b):gG lo mb w' D m:=by
 obtain⟨⟨v,L,h1⟩,h2⟩:=h;exact⟨⟨v,L,h1.kp hk hd⟩,λb hb=>⟨(h2 b hb).1,dV (h2 b hb).2 hk.size⟩⟩
theorem gG.below {m:m7} (h:gG lo mb w D m) (hb:Below w.heap.size w w'):gG lo mb w' D m:=h.kp (aH.bQ (D:=λ_=>False) hb) (λ_ _ g=>g)
theorem af9 (w:World) (D:Nat->Prop) (m:m7) (fl:List Bool) (k:Nat) (a n way:Int) (h:gG lo mb w D m) (hok:kY m fl) (hf:fl.getD k false=true) (ha:cH a) (UJ:1<=n) (hn8:n<=8) :
  Calls prog 309 #[.pointer (some (Ad mb 0)),I (k:Int),I a,I n,I way] w (kj (gG lo mb) w D (.tuple #[.string (gF m k a n way).1.1,.agg (eI (gF m k a n way).1.2)]) (gF m k a n way).2):=by
 obtain⟨⟨v,L,hM⟩,hD⟩:=h;obtain⟨hk,W⟩:=hok.live hf;have hL:=lJ (hok.each k hk) W;have h4:=hok.few.2;have uP:=ai (λV (hV:Below w.heap.size w V)=>PQ k a n way V (hM.below hV) hk ω hL ha UJ hn8);have zK:Hid (gF m k a n way=if (bB (aI m.aj k).aJ a n way).1=0 then ((y9 (aI m.aj k).aD a n,(0,0)),m) else ((⟨#[]⟩,bB (aI m.aj k).aJ a n way),m)):=rfl;have fV:Hid (∀w',Below w.heap.size w w'->kj (gG lo mb) w D (.tuple #[.string (gF m k a n way).1.1,.agg (eI (gF m k a n way).1.2)]) (gF m k a n way).2 (.returned (.tuple #[.string (gF m k a n way).1.1,.agg (eI (gF m k a n way).1.2)])) w'):=λw' hb=>by
  refine⟨D,rfl,?_,aH.bQ hb,λb hb=>.inl hb⟩;have:(gF m k a n way).2=m:=by unfold gF;split <;> rfl
  rw[this];exact gG.below ⟨⟨v,L,hM⟩,hD⟩ hb
 have N:Hid (∀V,Below w.heap.size w V->∀pb cp,(cM L k).vp=.slice (some (Ad pb 0)) (aI m.aj k).aD.length cp->rU V (some (Ad pb 0)) (aI m.aj k).aD):=λV hV pb cp e=>by
  obtain⟨sb,cap,aa,na,ca,ap,a3,_,_,a0,_,_,_,_,Z,_,_,_⟩:=(hM.below hV).space k hk;rw[a0] at e;injection e with e1 e2 e3;subst e1;exact Z
 have HL:=ai hL;generalize kj (gG lo mb) w D (.tuple #[.string (gF m k a n way).1.1,.agg (eI (gF m k a n way).1.2)]) (gF m k a n way).2=P at fV ⊢;generalize gF m k a n way=X at fV zK;generalize aI m.aj k=s at uP zK N HL;obtain⟨vp,y⟩:=ex ((cM L k).vp);rw[<- y] at uP N;generalize bB s.aJ a n way=f at uP zK;obtain⟨f1,f2⟩:=f;have fU:=ai ((aN w.heap.size w).alloc (aK _) (.cells #[I 0,I 0] 75));have BY:=ai (bH w #[I 0,I 0] 75);have C2:k<9223372036854775807:=by omega
 clear hM hD hok hf hL W y;unfold J8 eI at uP;simp only at uP zK;by_cases hf1:f1=0
 . subst hf1;have HX:Hid (X=((y9 s.aD a n,(0,0)),m)):=by rw[zK.o,aC rfl];exact rfl
   clear zK;have Fm:Hid (∀V,Below w.heap.size w V->Calls prog 314 #[.pointer (some (Ad mb 0)),I (k:Int),I a,I n,I way] V λe w'=>∃i pb cp,Below V.heap.size V w'/\mH s.aD a n i/\vp=.slice (some (Ad pb 0)) s.aD.length cp/\e=.returned (.tuple #[.slice (some (Ad pb (i*2))) (eG a n-a/16+1).toNat (cp-i),.agg #[I 0,I 0]])):=λV hV=>(uP.o V hV).mono λe w' ⟨hb,hh⟩=>by
    rcases hh with⟨g,_⟩ | ⟨_,i,pb,cp,h1,h2,h3⟩
    . exact(g rfl).elim
    exact⟨i,pb,cp,hb,h1,h2,h3⟩
   have HJ:Hid (∀V,Below w.heap.size w V->∀i pb cp c,mH s.aD a n i->vp=.slice (some (Ad pb 0)) s.aD.length cp->Calls prog 315 #[.slice (some (Ad pb (i*2))) (eG a n-a/16+1).toNat c] V λe w'=>e=.returned (.string (iw s.aD a n))/\Below V.heap.size V w'):=λV hV i pb cp c hr hv=>by
    have B:=J6 hr;have:=SK (zV s.aD i (eG a n-a/16+1).toNat) (some (Ad pb (i*2))) c V (WU (N.o V hV pb cp hv) B) (SI HL.o B) (by rw[xV B];rcases tu hr with⟨g,_⟩ | ⟨g,_⟩ <;> omega);rw[xV B,WV HL.o hr] at this;exact this
   have F:Hid (∀V i,mH s.aD a n i->Calls prog 171 #[.string (iw s.aD a n),I (a%16),I n] V λe w'=>e=.returned (.tuple #[.string (y9 s.aD a n),I 0])/\Below V.heap.size V w'):=λV i hr=>by
    have h1:=hr.low;have U:=wD HL.o hr;have:=Bj (iw s.aD a n) (a%16).toNat n.toNat V (by rcases U with⟨g,_⟩ | ⟨g,_⟩ <;> omega) (by rcases U with⟨g,g2⟩ | ⟨g,g2⟩ <;> (unfold eG at g2;omega));rw[show(((a%16).toNat:Nat):Int)=a%16 by omega,show((n.toNat:Nat):Int)=n by omega] at this;exact this
   have Y:=ai (λi (hr:mH s.aD a n i)=>hr.low);generalize (eG a n-a/16+1).toNat=MM at Fm HJ;generalize iw s.aD a n=J at HJ F;generalize y9 s.aD a n=Q at F HX;clear uP;go_enter func309,ntmps309;go_wp2_with (first
    | (go_at_call 314;refine(Fm.o _ fU.o).mono ?_;rintro e w1 ⟨i,pb,cp,q,M,y,rfl⟩;have O:=ai M;have a1:=ai y;have cD:=ai (fU.o.trans (q.mono fU.o.size));have Ql:=ai (aU BY.o q (aQ BY.o));have Xw:=Y.o i M;have iJ:=ai (cD.o.alloc cD.o.size (.cells #[I 0,I 0] 75));have T:=ai (bu Ql.o (.cells #[I 0,I 0] 75));clear q M y)
    | (go_at_call 315;refine(HJ.o _ iJ.o i pb cp _ O.o a1.o).mono ?_;rintro e w3 ⟨rfl,G⟩;have ou:=ai (iJ.o.trans (G.mono iJ.o.size));have R:=ai (aU T.o G (aQ T.o));clear G)
    | (go_at_call 171;refine(F.o _ i O.o).mono ?_;rintro e w4 ⟨rfl,K⟩;have Cc:=ai (ou.o.trans (K.mono ou.o.size));have A:=ai (aU R.o K (aQ R.o));have y0:=aA (v:=I 0) A.o 0 rfl;have y1:=aA (v:=I 0) A.o 1 rfl;have y2:=bG A.o 0;have y3:=bG A.o 1;clear K))
   refine b9 (v:=.tuple #[.string Q,.agg #[I 0,I 0]]) (by simp[results,results309,go_sem,y0,y1]) rfl ?_;have:=fV.o _ ((Cc.o.setCell (p:=(Ad w.heap.size 0)) (aK _) (I 0)).setCell (p:=(Ad w.heap.size 1)) (aK _) (I 0));rw[HX.o] at this;exact this
 have HX:Hid (X=((⟨#[]⟩,(f1,f2)),m)):=by rw[zK.o,aB hf1];exact rfl
 have a2:(f1==0)=false:=by rw[gT];exact hf1
 have Fm:Hid (∀V,Below w.heap.size w V->Calls prog 314 #[.pointer (some (Ad mb 0)),I (k:Int),I a,I n,I way] V λe w'=>Below V.heap.size V w'/\e=.returned (.tuple #[Nl,.agg #[I f1,I f2]])):=λV hV=>(uP.o V hV).mono λe w' ⟨hb,hh⟩=>by
  rcases hh with⟨_,g⟩ | ⟨g,_⟩
  . exact⟨hb,g⟩
  exact(hf1 g).elim
 clear zK uP hf1;go_enter func309,ntmps309;go_wp2_with (go_at_call 314;refine(Fm.o _ fU.o).mono ?_;rintro e w1 ⟨q,rfl⟩;have cD:=ai (fU.o.trans (q.mono fU.o.size));have Ql:=ai (aU BY.o q (aQ BY.o));have y0:∀ob,(w1.alloc ob).cell? (Ad w.heap.size 0)=some (I 0):=(λob=>aA (bu Ql.o ob) 0 rfl);have y1:∀ob,(w1.alloc ob).cell? (Ad w.heap.size 1)=some (I 0):=(λob=>aA (bu Ql.o ob) 1 rfl);have y2:∀ob,(w1.alloc ob).frozen? (Ad w.heap.size 0)=false:=(λob=>bG (bu Ql.o ob) 0);have y3:∀ob,(w1.alloc ob).frozen? (Ad w.heap.size 1)=false:=(λob=>bG (bu Ql.o ob) 1);clear q);go_region
 all_goals
  go_wp2;refine b9 (v:=.tuple #[.string ⟨#[]⟩,.agg #[I f1,I f2]]) (by simp[results,results309,go_sem,y0,y1]) rfl ?_;have:=fV.o _ (((cD.o.alloc cD.o.size (.cells #[I f1,I f2] 75)).drew.setCell (p:=(Ad w.heap.size 0)) (aK _) (I f1)).setCell (p:=(Ad w.heap.size 1)) (aK _) (I f2));rw[HX.o] at this;exact this
theorem Q0 (hr:AA ps) (hi:i<ps.length) {p:Int} (hp:(bo ps i).page=p) (d:ByteArray):pQ p d ps=ps.set i ⟨p,d⟩:=by
 apply Af;intro j;unfold pQ;rw[vQ,xt];by_cases c:j<ps.length
 . rw[fF c];have hj:bo ps j=ps[j]:=by unfold bo;rw[cB,fF c];rfl
   by_cases e:i=j
   . subst e;rw[aC rfl,aC c,Option.map_some,<- hj,aC hp]
   rw[aB e,Option.map_some,<- hj,aB];intro g;rcases Nz i j with q | q
   . have:=hr i j q c;omega
   have:=hr j i ω hi;omega
 rw[Gr ω,aB ω];rfl
def ng (ps:List dK) (i:Nat) (dt:ByteArray):Nat->List dK
 | 0=>ps
 | t+1=>(ng ps i dt t).set (i+t) ⟨(bo ps (i+t)).page,dt.extract (t*16) (t*16+16)⟩
theorem CL (ps:List dK) (i:Nat) (dt:ByteArray):∀t,(ng ps i dt t).length=ps.length
 | 0=>rfl
 | t+1=>by show((ng ps i dt t).set _ _).length=_;rw[dE];exact CL ps i dt t
theorem Mp (ps:List dK) (i:Nat) (dt:ByteArray):∀t j,(bo (ng ps i dt t) j).page=(bo ps j).page
 | 0,j=>rfl
 | t+1,j=>by
  have ih:=Mp ps i dt t j;show(bo ((ng ps i dt t).set (i+t) _) j).page=_;unfold bo at ih ⊢;rw[cB,xt];by_cases e:i+t=j
  . rw[aC e];subst e;by_cases c:i+t<(ng ps i dt t).length
    . rw[aC c];rfl
    rw[aB c];rw[CL] at c;rw[cB,Gr ω]
  rw[aB e];rw[cB] at ih;exact ih
theorem ade {s:ek} (hL:oU s) {d:ByteArray} (h:mH s.aD a d.size i):ng s.aD i (gB (iw s.aD a d.size) (a%16).toNat d) (eG a d.size-a/16+1).toNat=nY s.aD a d:=by
 unfold nY;rcases tu h with⟨e,e1⟩ | ⟨e,e1,e2,e3⟩
 . rw[aC e1,e,Q0 hL.lq h.lt h.first];show s.aD.set (i+0) ⟨(bo s.aD (i+0)).page,_⟩=_;rw[lB,h.first]
 rw[aB ω,e,Q0 hL.lq h.lt h.first];have b:AA (s.aD.set i ⟨a/16,(gB (iw s.aD a d.size) (a%16).toNat d).extract 0 16⟩):=λx y hxy hy=>by
  have Gt:∀j,(bo (s.aD.set i ⟨a/16,(gB (iw s.aD a d.size) (a%16).toNat d).extract 0 16⟩) j).page=(bo s.aD j).page:=λj=>by
   unfold bo;rw[cB,xt];by_cases g:i=j
   . subst g;rw[aC rfl,aC h.lt];exact h.first.symm
   rw[aB g,cB]
  rw[dE] at hy;rw[Gt,Gt];exact hL.lq x y hxy hy
 have q:(bo (s.aD.set i ⟨a/16,(gB (iw s.aD a d.size) (a%16).toNat d).extract 0 16⟩) (i+1)).page=eG a d.size:=by
  rw[<- e3];unfold bo;rw[cB,cB,List.getElem?_set_ne ω]
 rw[Q0 b (by rw[dE];exact e2) q];show(s.aD.set (i+0) ⟨(bo s.aD (i+0)).page,_⟩).set (i+1) ⟨(bo s.aD (i+1)).page,_⟩=_;rw[lB,h.first,e3]
theorem iE.aD (h:iE lo mb w D sl v L ss) (k:Nat) (hk:k<ss.length) (yz:aH (λb=>dh (cM L k).vp b) w w') (hrow:w'.ownsRow lo 148 2 (cM L k).vp ps.length (ps.flatMap dg)) :
  iE lo mb w' D sl v L (ss.set k { aI ss k with aD:=ps }):=by
 have q:=h.len;have MC:k<L.length:=by omega
 refine⟨by rw[dE];exact q,yz.keep h.head (h.n2 k MC).2,yz.row h.row (λg hg e=>(h.n3 k MC g hg).2 e),λj hj=>?_,h.base,h.n1,h.n2,h.n3,h.n4,h.d1,h.d2,h.d3⟩;rw[Bf _ _ _ _ hk];by_cases c:j=k
 . subst c;rw[aC rfl];have:=h.each j hj;exact⟨this.live,yz.row this.aJ (λb hb e=>(h.n4 j j hj hj b e).1 hb),hrow⟩
 rw[aB c];exact(h.each j hj).kp yz (λb hb e=>(h.n4 k j MC hj b e).1 hb) (λb hb e=>(h.n4 k j MC hj b e).2 (λg=>c g.symm) hb)
theorem iE.data (h:iE lo mb w D sl v L ss) (k:Nat) (hk:k<ss.length) {n cp:Nat} (hvp:(cM L k).vp=.slice (some (Ad pb 0)) n cp) (j:Nat) (hj:j<(aI ss k).aD.length) (d:ByteArray) :
  iE lo mb (w.setCell (Ad pb (j*2+1)) (.string d)) D sl v L (ss.set k { aI ss k with aD:=(aI ss k).aD.set j ⟨(bo (aI ss k).aD j).page,d⟩ }):=by
 have MC:k<L.length:=by rw[h.len];exact hk
 have hr:=(h.each k MC).aD;rw[hvp] at hr;have hn:n=(aI ss k).aD.length:=by
  obtain⟨ao,cap,e,_,_⟩:=aZ hr;injection e
 rw[hn] at hr hvp;refine h.aD k hk (aH.set _ _ _ _ (by rw[hvp];rfl)) ?_;rw[hvp,dE];have:=dJ hr (j*2+1) (.string d);rw[<- jf dg 2 jz zk ⟨(bo (aI ss k).aD j).page,d⟩ 1 (.string d) ω _ j hj rfl] at this;exact this
theorem alk (ss:List ek) (k:Nat) (hk:k<ss.length):ss.set k (aI ss k)=ss:=by
 apply Af;intro j;rw[xt];by_cases e:k=j
 . subst e;rw[aC rfl,aC hk];unfold aI;rw[cB,fF hk];rfl
 rw[aB e]
theorem Hs (ss:List ek) (k:Nat) (a b:ek):(ss.set k a).set k b=ss.set k b:=pS a
theorem tq (ss:List ek) (k:Nat) (a:ek) (hk:k<ss.length):aI (ss.set k a) k=a:=by rw[Bf _ _ _ _ hk,aC rfl]
theorem iE.atX (h:iE lo mb w D sl v L ss) (k:Nat) (hk:k<ss.length) {n cp:Nat} (hvp:(cM L k).vp=.slice (some (Ad pb 0)) n cp) (j:Nat) (hj:j<(aI ss k).aD.length) :
  w.cell? (Ad pb (j*2+1))=some (.string (bo (aI ss k).aD j).data)/\w.frozen? (Ad pb (j*2+1))=false/\D pb:=by
 have MC:k<L.length:=by rw[h.len];exact hk
 have hr:=(h.each k MC).aD;have hd:=h.d3 k MC pb (.inr (by rw[hvp];rfl));rw[hvp] at hr;have hn:n=(aI ss k).aD.length:=by
  obtain⟨ao,cap,e,_,_⟩:=aZ hr;injection e
 rw[hn] at hr;exact⟨gw dg jz zk hr j 1 hj ω,ie hr _,hd⟩
theorem ada (w:World) (D:Nat->Prop) (m:m7) (fl:List Bool) (k:Nat) (a:Int) (d:ByteArray) (h:gG lo mb w D m) (hok:kY m fl) (hf:fl.getD k false=true) (ha:cH a) (UJ:1<=d.size) (hn8:d.size<=8) :
  Calls prog 312 #[.pointer (some (Ad mb 0)),I (k:Int),I a,.string d] w (kj (gG lo mb) w D (.agg (eI (mq m k a d).1)) (mq m k a d).2):=by
 obtain⟨⟨v,L,hM⟩,hD⟩:=h;obtain⟨hk,a3⟩:=hok.live hf;have hL:=lJ (hok.each k hk) a3;have h4:=hok.few.2;have HM:=ai hM;have HD:=ai hD;have uP:=ai (λV (hV:Below w.heap.size w V)=>PQ k a d.size 1 V (hM.below hV) hk ω hL ha ω ω);have zK:Hid (mq m k a d=if (bB (aI m.aj k).aJ a d.size 1).1=0 then ((0,0),kv m k { aI m.aj k with aD:=nY (aI m.aj k).aD a d }) else (bB (aI m.aj k).aJ a d.size 1,m)):=rfl;have Z:Hid (∀V,Below w.heap.size w V->∀pb cp,(cM L k).vp=.slice (some (Ad pb 0)) (aI m.aj k).aD.length cp->rU V (some (Ad pb 0)) (aI m.aj k).aD):=λV hV pb cp e=>by
  obtain⟨sb,cap,aa,na,ca,ap,az,_,_,al,_,_,_,_,ag,_,_,_⟩:=(hM.below hV).space k hk;rw[al] at e;injection e with e1 e2 e3;subst e1;exact ag
 have HL:=ai hL;have XF:=ai hk;generalize mq m k a d=X at zK ⊢;obtain⟨P,hP⟩:=ex (kj (gG lo mb) w D (.agg (eI X.1)) X.2);have HP:Hid (∀w',(∃D',gG lo mb w' D' X.2/\aH D w w'/\∀b,D' b->D b\/w.heap.size<=b)->P (.returned (.agg (eI X.1))) w'):=λw' ⟨D',h1,h2,h3⟩=>by rw[hP];exact⟨D',rfl,h1,h2,h3⟩
 rw[<- hP];obtain⟨s,hs⟩:=ex (aI m.aj k);rw[<- hs] at uP zK Z HL;have ao:=ai hs;obtain⟨vp,B⟩:=ex ((cM L k).vp);rw[<- B] at uP Z;have an:=ai B;generalize bB s.aJ a d.size 1=f at uP zK;obtain⟨f1,f2⟩:=f;have fU:=ai ((aN w.heap.size w).alloc (aK _) (.cells #[I 0,I 0] 75));have BY:=ai (bH w #[I 0,I 0] 75);have C2:k<9223372036854775807:=by omega
 clear hM hD hok hf hL a3 hP hs B hk;unfold J8 eI at uP;simp only at uP zK;by_cases hf1:f1=0
 . subst hf1;have HX:Hid (X=((0,0),kv m k { s with aD:=nY s.aD a d })):=by rw[zK.o,aC rfl];exact rfl
   clear zK;have Fm:Hid (∀V,Below w.heap.size w V->Calls prog 314 #[.pointer (some (Ad mb 0)),I (k:Int),I a,I (d.size:Int),I 1] V λe w'=>∃i pb cp,Below V.heap.size V w'/\mH s.aD a d.size i/\vp=.slice (some (Ad pb 0)) s.aD.length cp/\e=.returned (.tuple #[.slice (some (Ad pb (i*2))) (eG a d.size-a/16+1).toNat (cp-i),.agg #[I 0,I 0]])):=λV hV=>(uP.o V hV).mono λe w' ⟨hb,hh⟩=>by
    rcases hh with⟨g,_⟩ | ⟨_,i,pb,cp,h1,h2,h3⟩
    . exact(g rfl).elim
    exact⟨i,pb,cp,hb,h1,h2,h3⟩
   have HJ:Hid (∀V,Below w.heap.size w V->∀i pb cp c,mH s.aD a d.size i->vp=.slice (some (Ad pb 0)) s.aD.length cp->Calls prog 315 #[.slice (some (Ad pb (i*2))) (eG a d.size-a/16+1).toNat c] V λe w'=>e=.returned (.string (iw s.aD a d.size))/\Below V.heap.size V w'):=λV hV i pb cp c hr hv=>by
    have G:=J6 hr;have:=SK (zV s.aD i (eG a d.size-a/16+1).toNat) (some (Ad pb (i*2))) c V (WU (Z.o V hV pb cp hv) G) (SI HL.o G) (by rw[xV G];rcases tu hr with⟨g,_⟩ | ⟨g,_⟩ <;> omega);rw[xV G,WV HL.o hr] at this;exact this
   have R:Hid (∀V i,mH s.aD a d.size i->Calls prog 124 #[.string (iw s.aD a d.size),I (a%16),.string d] V λe w'=>e=.returned (.tuple #[.string (gB (iw s.aD a d.size) (a%16).toNat d),I 0])/\Below V.heap.size V w'):=λV i hr=>by
    have h1:=hr.low;have F:=wD HL.o hr;have:=H9 (iw s.aD a d.size) d (a%16).toNat V (by rcases F with⟨g,_⟩ | ⟨g,_⟩ <;> omega) (by rcases F with⟨g,g2⟩ | ⟨g,g2⟩ <;> (unfold eG at g2;omega));rw[show(((a%16).toNat:Nat):Int)=a%16 by omega] at this;exact this
   have O:Hid (∀V i,mH s.aD a d.size i->∀t:Nat,t<(eG a d.size-a/16+1).toNat->Calls prog 171 #[.string (gB (iw s.aD a d.size) (a%16).toNat d),I ((t:Int)*16),I 16] V λe w'=>e=.returned (.tuple #[.string ((gB (iw s.aD a d.size) (a%16).toNat d).extract (t*16) (t*16+16)),I 0])/\Below V.heap.size V w'):=λV i hr t ht=>by
    have h1:=hr.low;have F:=wD HL.o hr;have a5:(gB (iw s.aD a d.size) (a%16).toNat d).size=(iw s.aD a d.size).size:=AJ _ _ _ (by rcases F with⟨g,g2⟩ | ⟨g,g2⟩ <;> (unfold eG at g2;omega));have:=Bj (gB (iw s.aD a d.size) (a%16).toNat d) (t*16) 16 V (by rw[a5];rcases F with⟨g,_⟩ | ⟨g,_⟩ <;> omega) (by rw[a5];rcases F with⟨g,g2⟩ | ⟨g,g2⟩ <;> omega);rw[show((t*16:Nat):Int)=(t:Int)*16 by omega] at this;exact this
   have ad:=ai (λi (hr:mH s.aD a d.size i)=>hr.low);have Q:=ai (λi (hr:mH s.aD a d.size i)=>ade HL.o hr);have a6:=ai (λi (hr:mH s.aD a d.size i)=>J6 hr);have XH:=ai (λi (hr:mH s.aD a d.size i)=>tu hr);generalize gB (iw s.aD a d.size) (a%16).toNat d=DT at R O Q;generalize (eG a d.size-a/16+1).toNat=MM at Fm HJ O Q a6 XH;generalize iw s.aD a d.size=J at HJ R;clear uP;go_enter func312,ntmps312;go_wp2_with (first
    | (go_at_call 314;refine(Fm.o _ fU.o).mono ?_;rintro e w1 ⟨i,pb,cp,y,Y,B,rfl⟩;have A:=ai Y;have a7:=ai B;have cD:=ai (fU.o.trans (y.mono fU.o.size));have Ql:=ai (aU BY.o y (aQ BY.o));have Xw:=ad.o i Y;have iJ:=ai (cD.o.alloc cD.o.size (.cells #[I 0,I 0] 75));have a2:=ai (bu Ql.o (.cells #[I 0,I 0] 75));clear y Y B)
    | (go_at_call 315;refine(HJ.o _ iJ.o i pb cp _ A.o a7.o).mono ?_;rintro e w3 ⟨rfl,T⟩;have ou:=ai (iJ.o.trans (T.mono iJ.o.size));have a1:=ai (aU a2.o T (aQ a2.o));clear T)
    | (go_at_call 124;refine(R.o _ i A.o).mono ?_;rintro e w4 ⟨rfl,U⟩;have Cc:=ai (ou.o.trans (U.mono ou.o.size));have ae:=ai (aU a1.o U (aQ a1.o));clear U))
   have ay:MM<=2:=by rcases XH.o i A.o with⟨g,_⟩ | ⟨g,_⟩ <;> omega
   have av:=a6.o i A.o;have am:=ai (Q.o i A.o);have a0:Hid ((cM L k).vp=.slice (some (Ad pb 0)) s.aD.length cp):=by rw[<- an.o];exact a7.o
   go_loopw [38] (λiv wr=>∃t:Nat,t<=MM/\iv=I (t:Int)/\iE lo mb wr D m.slots v L (m.aj.set k { s with aD:=ng s.aD i DT t })/\aH D w wr/\wr.heap[w.heap.size]?=some (.cells #[I 0,I 0] 75 (0,0))) (λiv _=>MM-(intOf iv).toNat)
   case atStart =>
    refine⟨0,ω,rfl,?_,aH.bQ Cc.o,ae.o⟩;have e:m.aj.set k { s with aD:=ng s.aD i DT 0 }=m.aj:=by
     show m.aj.set k s=m.aj;rw[ao.o];exact alk _ _ XF.o
    rw[e];exact HM.o.below Cc.o
   case round =>
    obtain⟨t,ht,rfl,hm,yz,hy⟩:=hrel;have af:=ai hm;have M:=ai yz;have ac:=ai hy;by_cases hlt:t<MM
    . have W:k<(m.aj.set k { s with aD:=ng s.aD i DT t }).length:=by rw[dE];exact XF.o
      have K:=tq m.aj k { s with aD:=ng s.aD i DT t } XF.o;have a9:=hm.atX k W a0.o (i+t) (by rw[K];show i+t<(ng s.aD i DT t).length;rw[CL];omega);rw[uG] at a9;obtain⟨q0,q1,q2⟩:=a9;have ab:=ai q2;have a8:Hid (pb<wr.heap.size):=jL wr _ q0;have zB:Hid (∀V,Below wr.heap.size wr V->iE lo mb (V.setCell (Ad pb ((i+t)*2+1)) (.string (DT.extract (t*16) (t*16+16)))) D m.slots v L (m.aj.set k { s with aD:=ng s.aD i DT (t+1) })):=λV hV=>by
       have:=(hm.below hV).data k W a0.o (i+t) (by rw[K];show i+t<(ng s.aD i DT t).length;rw[CL];omega) (DT.extract (t*16) (t*16+16));rw[K,Hs] at this;have e:(ng s.aD i DT t).set (i+t) ⟨(bo (ng s.aD i DT t) (i+t)).page,DT.extract (t*16) (t*16+16)⟩=ng s.aD i DT (t+1):=by
        rw[Mp];rfl
       rw[show(ek.aD { s with aD:=ng s.aD i DT t })=ng s.aD i DT t from rfl,e] at this;exact this
      rw[uG] at zB;have ah:=ai (λV=>O.o V i A.o t hlt);generalize (bo (aI (m.aj.set k { s with aD:=ng s.aD i DT t }) k).aD (i+t)).data=od at q0;have aw:(t:Int)<(MM:Int):=by omega
      clear hm yz hy K W q2;go_wp2_with (go_at_call 171;refine(ah.o _).mono ?_;rintro e w5 ⟨rfl,Fu⟩;have Nu:=ai Fu;have r0:w5.cell? (Ad pb (i*2+t*2+1))=some (.string od):=(Fu.cell (p:=(Ad pb (i*2+t*2+1))) a8.o).trans q0;have r1:w5.frozen? (Ad pb (i*2+t*2+1))=false:=(Fu.frozen (p:=(Ad pb (i*2+t*2+1))) a8.o).trans q1;clear Fu);go_roundw
      case rel =>
       refine⟨t+1,ω,by go_num,zB.o _ Nu.o,(M.o.trans (aH.bQ Nu.o) (λ_ _ g=>g)).trans (aH.set D _ (Ad pb (i*2+t*2+1)) _ ab.o) (λ_ _ g=>g),?_⟩;exact nt (aU ac.o Nu.o (aQ ac.o)) _ _ _ (λe=>by have:=HD.o _ ab.o;omega)
      case measure=>simp[intOf];omega
    obtain rfl:t=MM:=by omega
    have y0:=aA (v:=I 0) hy 0 rfl;have y1:=aA (v:=I 0) hy 1 rfl;have y2:=bG hy 0;have y3:=bG hy 1;clear hm yz hy;go_wp2;refine b9 (v:=.agg #[I 0,I 0]) (by simp[results,results312,go_sem,y0,y1]) rfl ?_;have q:=HP.o ((wr.setCell (Ad w.heap.size 0) (I 0)).setCell (Ad w.heap.size 1) (I 0)) (by
     have N:aH (λb=>b=w.heap.size) wr ((wr.setCell (Ad w.heap.size 0) (I 0)).setCell (Ad w.heap.size 1) (I 0)):=(aH.set (λb=>b=w.heap.size) wr (Ad w.heap.size 0) _ rfl).trans (aH.set (λb=>b=w.heap.size) _ (Ad w.heap.size 1) _ rfl) (λ_ _ g=>g);refine⟨D,?_,M.o.trans N (λb hb e=>ω),λb hb=>.inl hb⟩;rw[HX.o];refine⟨⟨v,L,?_⟩,λb hb=>⟨(HD.o b hb).1,dV (HD.o b hb).2 (eJ M.o.size N.size)⟩⟩;have:=af.o.kp N (λb hb e=>by have:=HD.o b hb;omega);rw[am.o] at this;exact this)
    rw[HX.o] at q;exact q
 have HX:Hid (X=((f1,f2),m)):=by rw[zK.o,aB hf1];exact rfl
 have au:(f1==0)=false:=by rw[gT];exact hf1
 have Fm:Hid (∀V,Below w.heap.size w V->Calls prog 314 #[.pointer (some (Ad mb 0)),I (k:Int),I a,I (d.size:Int),I 1] V λe w'=>Below V.heap.size V w'/\e=.returned (.tuple #[Nl,.agg #[I f1,I f2]])):=λV hV=>(uP.o V hV).mono λe w' ⟨hb,hh⟩=>by
  rcases hh with⟨_,g⟩ | ⟨g,_⟩
  . exact⟨hb,g⟩
  exact(hf1 g).elim
 clear zK uP hf1;go_enter func312,ntmps312;go_wp2_with (go_at_call 314;refine(Fm.o _ fU.o).mono ?_;rintro e w1 ⟨y,rfl⟩;have cD:=ai (fU.o.trans (y.mono fU.o.size));have Ql:=ai (aU BY.o y (aQ BY.o));have y0:∀ob,(w1.alloc ob).cell? (Ad w.heap.size 0)=some (I 0):=(λob=>aA (bu Ql.o ob) 0 rfl);have y1:∀ob,(w1.alloc ob).cell? (Ad w.heap.size 1)=some (I 0):=(λob=>aA (bu Ql.o ob) 1 rfl);have y2:∀ob,(w1.alloc ob).frozen? (Ad w.heap.size 0)=false:=(λob=>bG (bu Ql.o ob) 0);have y3:∀ob,(w1.alloc ob).frozen? (Ad w.heap.size 1)=false:=(λob=>bG (bu Ql.o ob) 1);clear y);refine b9 (v:=.agg #[I f1,I f2]) (by simp[results,results312,go_sem,y0,y1]) rfl ?_;have a4:=(((cD.o.alloc cD.o.size (.cells #[I f1,I f2] 75)).setCell (p:=(Ad w.heap.size 0)) (aK _) (I f1)).setCell (p:=(Ad w.heap.size 1)) (aK _) (I f2));have q:=HP.o _ (by
  refine⟨D,?_,aH.bQ a4,λb hb=>.inl hb⟩;rw[HX.o];exact gG.below ⟨⟨v,L,HM.o⟩,HD.o⟩ a4)
 rw[HX.o] at q;exact q
end Go.Proofs.YtlgoihmkgaaemaaGreat
