import Derived.Test.YtlgoihmkgaaemaaGreatGP17
set_option maxHeartbeats 20000000
set_option linter.unusedVariables false
set_option maxRecDepth 100000
set_option linter.unusedSimpArgs false
namespace Go.Proofs.YtlgoihmkgaaemaaGreat
open Go.RowKit Tryz
theorem Gc (kd a:Int):∀ss:List cZ,(bY ss kd a).length<=(yA ss).length
 | []=>rB _
 | s::r=>by
  have ih:=Gc kd a r
  grind [fO,yA,lu]
variable {k:aT} (f:cZ->cZ) (l:List cZ)
theorem Rt (h:bg k):(yA k.aj).length<=512:=by
 have h1:=GI k.aj.length k.aj rfl (λs hs=>yx (h.each s hs));have h2:=h.room;have h3:=h.c;omega
theorem yO (h:bg k):(∀i,i<k.frames.length->0<=(aK k.frames i).refs/\(aK k.frames i).refs<=512)/\(∀i,i<k.slots.length->0<=(bI k.slots i).refs/\(bI k.slots i).refs<=512):=by
 have h1:=Rt h;refine⟨λi hi=>?_,λi hi=>?_⟩
 . have:=(h.Bt i hi).refs
   grind [Gc]
 have:=(h.slt i hi).refs
 grind [Gc]
theorem oP (h:bg k) {j:Nat} (hj:j<k.aj.length):(ak k.aj j).bl.length<=512:=by
 have h4:=Rt h;have:∀(l:List cZ) (j:Nat),j<l.length->(ak l j).bl.length<=(yA l).length:=λl=>by
  induction l with
  | nil=>grind
  | cons s r ih =>
   grind [yA,ak]
 grind
theorem Vr.kp {α:Type} {f:α->List Value} {k:Nat} {d:α} {w w':World} {ao:Option Addr} {l:List α} {D:Nat->Prop} (h:dE f k d w ao l) (hk:aI D w w') (hn:∀b off,ao=some (Ad b off)->¬D b):dE f k d w' ao l:=λhl=>by
 obtain⟨b,off,e,hb,hi⟩:=h hl;refine⟨b,off,e,gm hb hk.size,λi hi' j hj=>?_⟩;exact(Hm (hk.block b hb (hn b off e))).trans (hi i hi' j hj)
theorem CP {lo mb:Nat} {tt:TypeId} {X:List Value} (F:FuncId) (E:List Value) (x:Nat) (hFE:(F=300/\E=[.pointer (some (Ad x 0))])\/(F=285/\E=[.pointer (some (Ad x 0))])\/(F=269/\E=[]))
  (k:aT) (S:gv) (w:World) (j:Nat) (p:bK->Bool) (h:bO lo mb tt X w S k) (hR:bg k) (hj:j<k.aj.length) (hC:∀V e,aI (λb=>S.lab b≠.no) w V->Calls prog F (Value.agg #[I e.page,I e.kind,I e.loc]::E).toArray V λr w'=>r=.returned (.bool (p e))/\Below V.heap.size V w') :
  Calls prog 268 #[.pointer (some (Ad mb 0)),I (j:Int),.func (.func F) #[] E.toArray] w (fP lo mb tt X w S (.tuple #[]) (dn k j p)):=by
 have hlo:lo<=w.heap.size:=gj h.lo_le (uN h.lt);have ac:=hR.c;have ag:=oP hR hj;obtain⟨pb,cP,A⟩:=h.toKr.sp ω;obtain⟨ae,ce,Tn,a1⟩:=h.toKr.bl hj;have c3:=h.c3;rw[A.v] at c3;have a2:=A.x2 j hj;rw[Tn] at a2;have af:(j:Int)<(k.aj.length:Int):=by omega
 obtain⟨es,J⟩:=ex ((ak k.aj j).bl);rw[<- J] at a2 ag a1 Tn;have W:Hid (∀V n,n<es.length->bO lo mb tt X V S (dQ k es p n)->V.cell? (Ad pb (j*3+2))=some (.slice ae es.length ce)/\dE bC 3 gJ V ae es):=λV n hn hV=>by
  have q:j<(dQ k es p n).aj.length:=by rw[nB];exact hj
  obtain⟨K,Z,A'⟩:=hV.toKr.sp ω;have e:K=pb:=by
   have:=A'.v;rw[A.v] at this
   grind
  subst e;have x2:=A'.x2 j q;rw[Tn] at x2;obtain⟨aw,am,ab,ad⟩:=hV.toKr.bl q;rw[nB,<- J] at ab ad
  grind
 have a3:Hid (∀V n,n<es.length->bO lo mb tt X V S (dQ k es p n)->Calls prog 270 #[.pointer (some (Ad mb 0)),.agg #[I (aW es n).page,I (aW es n).kind,I (aW es n).loc],I (-1)] V (mU lo mb tt X V S (.tuple #[]) (ek (dQ k es p n) (aW es n)))):=λV n hn hV=>by
  have a9:aW es n∈(ak k.aj j).bl:=by rw[<- J];exact kT hn
  have hb:=jO hR hj a9;have hr:=GA k es p n;have hp:=A0 hR hj p n Γ;rw[<- J] at hp;have hf:=yO hp;have au:∀i,i<(dQ k es p n).frames.length->0<=(aK (dQ k es p n).frames i).refs/\(aK (dQ k es p n).frames i).refs<=512:=hf.1;have an:∀i,i<(dQ k es p n).slots.length->0<=(bI (dQ k es p n).slots i).refs/\(bI (dQ k es p n).slots i).refs<=512:=hf.2;rw[<- GF];refine Et _ S V (aW es n) (-1) hV (λc=>?_) (λc=>?_) (.inr rfl) ⟨λc=>?_,λc=>?_⟩
  . omega
  . omega
  . grind
  grind
 have VM:=ai hC;have a0:Hid (∀V,bO lo mb tt X V S (dQ k es p es.length)->cU S w S V->Calls prog 281 #[.slice ae es.length ce,.func (.func F) #[] E.toArray] V λe w'=>∃av nv cv,e=.returned (.slice av nv cv)/\∃S',bO lo mb tt X (w'.setCell (Ad pb (j*3+2)) (.slice av nv cv)) S' (dn k j p)/\cU S w S' (w'.setCell (Ad pb (j*3+2)) (.slice av nv cv))/\w'.frozen? (Ad pb (j*3+2))=false/\(∃u,w'.cell? (Ad pb (j*3+2))=some u)):=λV hV y=>by
  have q:j<(dQ k es p es.length).aj.length:=by rw[nB];exact hj
  have Q:=(hV.each j q).aY;rw[nB,<- J,Tn] at Q;have N:∀b,bN (.slice ae es.length ce) b->S.lab b=.bl j:=λb hb=>hV.lE j q b Γ
  refine(Uj F E x hFE lo es p (.slice ae es.length ce) V Q (λU e hU=>VM.o U e ?_) ω).mono λe w' ⟨v',h1,h2,h3,h4⟩=>?_
  . exact((y.kp.mono (λb _ g=>g)).trans hU (λb hb hx=>Γ))
  obtain⟨av,cv,rfl,_,_⟩:=bh h2;obtain⟨K,Z,A'⟩:=hV.toKr.sp ω;have hP:S.vP=.slice (some (Ad pb 0)) k.aj.length cP:=A.v;have k1:aI (λb=>S.lab b=.bl j) V w':=h3.mono (λb _ hx=>N b hx);have sw:=hV.alG q hP k1 h2 (λb hb=>by
   rcases h4 b hb with g | g
   . exact .inl (N b g)
   exact .inr (hV.toKr.new g))
  have e1:({ dQ k es p es.length with aj:=(dQ k es p es.length).aj.set j (eT (ak (dQ k es p es.length).aj j) (iu es p)) }:aT)=dn k j p:=by
   unfold dn nZ
   grind
  refine⟨av,_,cv,h1,_,e1 ▸ sw.1,y.trans (sw.2 (λb hb hx=>?_)),?_,?_⟩
  . rcases h4 b hx with g | g
    . exact N b g
    omega
  . have a4:=hV.aj;rw[hP] at a4;have ah:=h.len;have:=k1.row a4 (λb hb e=>by
     have:S.lab b=.aj:=hV.lP b (by rw[hP];exact hb);rw[this] at e;simp at e)
    have a7:S.L.length=k.aj.length:=ah;rw[<- a7] at this;exact iN this _
  have a8:S.lab pb=.aj:=A.lab;have c2:=A'.x2 j q;have e:K=pb:=by
   have:=A'.v;rw[A.v] at this;injection this with e1 _ _;injection e1 with e1;injection e1 with e1 _ _;omega
  subst e;exact⟨_,k1.cell c2 (λe=>by have e:S.lab K=.bl j:=e;rw[a8] at e;simp at e)⟩
 have eW:Hid (∀V S',bO lo mb tt X V S' (dn k j p)->cU S w S' V->fP lo mb tt X w S (.tuple #[]) (dn k j p) (.returned (.tuple #[])) V):=λV S' h1 h2=>⟨rfl,S',h1,h2⟩
 have PA:=ai (λV (hV:bO lo mb tt X V S (dQ k es p es.length))=>(show V.cell? (Ad pb (j*3+2))=some (.slice ae es.length ce) from by
  have q:j<(dQ k es p es.length).aj.length:=by rw[nB];exact hj
  obtain⟨K,Z,A'⟩:=hV.toKr.sp ω;have e:K=pb:=by
   have:=A'.v;rw[A.v] at this
   grind
  subst e;have x2:=A'.x2 j q
  grind))
 have xB:=ai h;have VJ:Hid (∀V n,bO lo mb tt X V S (dQ k es p n)->∀V',Below V.heap.size V V'->bO lo mb tt X V' S (dQ k es p n)):=λV n hV V' hb=>hV.below hb
 have FI:Hid (∀n,p (aW es n)=true->ek (dQ k es p n) (aW es n)=dQ k es p (n+1)):=λn hn=>by
  show _=if p (aW es n)=true then _ else _
  grind
 have sS:Hid (∀n,p (aW es n)=false->dQ k es p n=dQ k es p (n+1)):=λn hn=>by
  show _=if p (aW es n)=true then _ else _
  grind
 generalize fP lo mb tt X w S (.tuple #[]) (dn k j p)=P at eW ⊢;generalize k.aj.length=np at c3 af;clear h hR ac A Tn a1 J hC hj hlo;rcases hFE with⟨rfl,rfl⟩ | ⟨rfl,rfl⟩ | ⟨rfl,rfl⟩
 all_goals
  go_enter func268,ntmps268;go_wp2;go_loopw [21] (λiv wr=>∃n:Nat,n<=es.length/\iv=I (n:Int)/\bO lo mb tt X wr S (dQ k es p n)/\cU S w S wr) (λiv _=>es.length-(intOf iv).toNat)
  case atStart=>exact⟨0,ω,rfl,xB.o,cU.refl _ _⟩
  case round =>
   obtain⟨n,hn,rfl,mL,y⟩:=hrel;have R:=ai mL;have OJ:=ai y;by_cases hlt:n<es.length
   . have ao:(n:Int)<(es.length:Int):=by omega
     obtain⟨y2,Y⟩:=W.o wr n hlt mL;obtain⟨eb,eo,aa,ar,dZ⟩:=Y ω;subst aa;have x0:=dZ n hlt 0 ω;have x1:=dZ n hlt 1 ω;have x2:=dZ n hlt 2 ω;rw[jt] at x0;have HA:=ai ((aN wr.heap.size wr).alloc (aJ _) (.cells #[I (aW es n).page,I (aW es n).kind,I (aW es n).loc] 174));have BX:=ai (bG wr #[I (aW es n).page,I (aW es n).kind,I (aW es n).loc] 174);have vd:=ai (VM.o (wr.alloc (.cells #[I (aW es n).page,I (aW es n).kind,I (aW es n).loc] 174)) (aW es n) ((y.trans (cU.below (S:=S) HA.o)).kp));have a6:=ai (λV=>a3.o V n hlt);have T:=ai (FI.o n);have Nt:=ai (sS.o n);generalize p (aW es n)=G at vd T Nt;obtain⟨e,he⟩:=ex (aW es n);have y0:wr.cell? (Ad eb (eo+n*3))=some (I e.page):=by rw[he];exact x0
     have y1:wr.cell? (Ad eb (eo+n*3+1))=some (I e.kind):=by rw[he];exact x1
     have y3:wr.cell? (Ad eb (eo+n*3+2))=some (I e.loc):=by rw[he];exact x2
     rw[<- he] at vd HA BX a6 T;clear he mL y Y dZ x0 x1 x2 xB;cases G with
     | true =>
      go_wp2_with (first
       | ((first | go_at_call 300 | go_at_call 285 | go_at_call 269);refine vd.o.mono ?_;rintro r w1 ⟨rfl,B⟩;have dz:=ai (HA.o.trans (B.mono HA.o.size));have a5:=aO BX.o B (aM BX.o);obtain⟨d0,d1,d2⟩:=uo a5;clear B a5)
       | (go_at_call 270;refine(a6.o _ (VJ.o _ n R.o _ dz.o)).mono ?_;rintro r w2 ⟨rfl,M,O⟩;have Aa:=ai M;have DY:=ai ((OJ.o.trans (cU.below (S:=S) dz.o)).trans O);clear M O))
      go_roundw
      case rel=>exact⟨n+1,ω,by go_num,T.o (by trivial) ▸ Aa.o,DY.o⟩
      case measure=>simp[intOf];omega
     | false =>
      go_wp2_with ((first | go_at_call 300 | go_at_call 285 | go_at_call 269);refine vd.o.mono ?_;rintro r w1 ⟨rfl,B⟩;have dz:=ai (HA.o.trans (B.mono HA.o.size));clear B)
      go_roundw
      case rel=>exact⟨n+1,ω,by go_num,Nt.o (by trivial) ▸ VJ.o _ n R.o _ dz.o,OJ.o.trans (cU.below (S:=S) dz.o)⟩
      case measure=>simp[intOf];omega
   obtain rfl:n=es.length:=by omega
   have y2:=PA.o wr mL;have al:=ai (a0.o wr mL y);clear mL y R OJ a0 W PA a3 VM xB VJ FI sS;go_wp2_with (go_at_call 281;refine al.o.mono ?_;rintro r w2 ⟨av,nv,cv,rfl,S',M,O,ap,u2,aq⟩;have Aa:=ai M;have DY:=ai O;clear M O);refine vY (v:=.tuple #[]) (by simp[results,results268,go_sem]) rfl ?_;exact eW.o _ S' Aa.o DY.o
theorem Od (i:Int) (e:bK) (x:Nat) (w:World) (hx:w.cell? (Ad x 0)=some (I i)) :
  Calls prog 300 #[.agg #[I e.page,I e.kind,I e.loc],.pointer (some (Ad x 0))] w λr w'=>r=.returned (.bool (lM i e))/\Below w.heap.size w w':=by
 obtain⟨pg,kd,lc⟩:=e;unfold lM;simp only;have b:x<w.heap.size:=nu w _ hx;have xA:(w.alloc (.cells #[I pg,I kd,I lc] 174)).cell? (Ad x 0)=some (I i):=(Qd ((aN w.heap.size w).alloc (aJ _) _) (p:=(Ad x 0)) b).trans hx;obtain⟨A,hA⟩:=ex (decide (kd=1/\lc=i));rw[<- hA];have HA:=ai hA;clear hA;by_cases c:kd=1
 . have kb:(kd==1)=true:=by grind
   obtain⟨C,hC⟩:=ex ((lc==i));have HC:=ai hC;have h:=hC.symm;have uZ:=ai c;clear hC c;go_enter func300,ntmps300;go_wp2;go_ret;refine⟨?_,(aN _ _).alloc (aJ _) _⟩;congr 2;rw[HA.o,uZ.o]
   try rw[HC.o]
   by_cases d:lc=i <;> simp[d]
 have kb:(kd==1)=false:=by grind
 have uZ:=ai c;clear c;go_enter func300,ntmps300;go_wp2;go_ret
 simp_all [aN,pG,Hid.o]
theorem TP (f:mJ) (w:World):Calls prog 302 #[.agg #[.string f.data,I f.refs]] w λe w'=>e=.returned (.bool (oa f))/\Below w.heap.size w w':=by
 obtain⟨d,r⟩:=f;unfold oa;simp only;have hd:d.toList.isEmpty=decide (d.size=0):=aaC d;by_cases c1:d.size=0
 . by_cases c2:r=0
   . rw[dW (show d.size=0/\r=0 from⟨c1,c2⟩)];rw[dW c1] at hd;have h2:(r==0)=true:=by grind
     clear c1 c2;go_enter func302,ntmps302;go_wp2;go_ret;simp[aN,pG]
   rw[eH (show ¬(d.size=0/\r=0) from λx=>c2 x.2)];rw[dW c1] at hd;have h2:(r==0)=false:=by grind
   clear c1 c2;go_enter func302,ntmps302;go_wp2;go_ret;simp[aN,pG]
 rw[eH (show ¬(d.size=0/\r=0) from λx=>c1 x.1)];rw[eH c1] at hd;clear c1;go_enter func302,ntmps302;go_wp2;go_ret;simp[aN,pG]
theorem aat (l:List mJ) (ao:Option Addr) (cap:Nat) (w:World) (h:dE gq 2 gP w ao l) (hl:l.length<=1000000) :
  Calls prog 301 #[.slice ao l.length cap,.func (.func 302) #[] #[]] w λe w' =>
   Below w.heap.size w w'/\((e=.returned (I (-1))/\∀j,j<l.length->oa (bI l j)=false)\/∃i:Nat,i<l.length/\e=.returned (I (i:Int))/\oa (bI l i)=true/\∀j,j<i->oa (bI l j)=false):=by
 have HH:=ai h;clear h;go_enter func301,ntmps301;go_wp2;go_loopw [8] (λiv wr=>∃k:Nat,k<=l.length/\iv=I (k:Int)/\(∀j,j<k->oa (bI l j)=false)/\Below w.heap.size w wr) (λiv _=>l.length-(intOf iv).toNat)
 case atStart=>grind [Below.refl]
 case round =>
  obtain⟨k,hk,rfl,r,hb⟩:=hrel;have sS:=ai r;have HB:=ai hb;clear r;by_cases hlt:k<l.length
  . have Il:(k:Int)<(l.length:Int):=by omega
    obtain⟨eb,eo,A,y,dZ⟩:=HH.o ω;subst A;have y0:=(hb.cell (p:=(Ad eb (eo+k*2+0))) y).trans (dZ k hlt 0 ω);have y1:=(hb.cell (p:=(Ad eb (eo+k*2+1))) y).trans (dZ k hlt 1 ω);rw[jt] at y0;have vd:=ai (TP (bI l k) wr);obtain⟨G,hG⟩:=ex (oa (bI l k));rw[<- hG] at vd;have HG:=ai hG;obtain⟨E,hE⟩:=ex (bI l k);have x0:wr.cell? (Ad eb (eo+k*2))=some (.string E.data):=by rw[hE];exact y0
    have x1:wr.cell? (Ad eb (eo+k*2+1))=some (I E.refs):=by rw[hE];exact y1
    rw[<- hE] at vd;clear hG hE hb y0 y1 dZ;cases G with
    | true =>
     go_wp2_with (go_at_call 302;refine vd.o.mono ?_;rintro e w1 ⟨rfl,b⟩;have dz:=ai (HB.o.trans (b.mono HB.o.size));clear b)
     go_ret;exact⟨dz.o,.inr ⟨k,hlt,rfl,HG.o.symm,sS.o⟩⟩
    | false =>
     go_wp2_with (go_at_call 302;refine vd.o.mono ?_;rintro e w1 ⟨rfl,b⟩;have dz:=ai (HB.o.trans (b.mono HB.o.size));clear b)
     go_roundw
     case rel=>exact⟨k+1,ω,by go_num,λj hj=>by
      by_cases q:j=k
      . subst q;exact HG.o.symm
      exact sS.o j ω,dz.o⟩
     case measure=>simp[intOf];omega
  obtain rfl:k=l.length:=by omega
  clear hb;go_wp2;go_ret;exact⟨HB.o,.inl ⟨rfl,sS.o⟩⟩
theorem aau (l:List ko) (ao:Option Addr) (cap:Nat) (w:World) (h:dE gu 4 eG w ao l) (hl:l.length<=1000000) :
  Calls prog 295 #[.slice ao l.length cap,.func (.func 216) #[] #[]] w λe w' =>
   Below w.heap.size w w'/\((e=.returned (I (-1))/\∀j,j<l.length->nk (aK l j)=false)\/∃i:Nat,i<l.length/\e=.returned (I (i:Int))/\nk (aK l i)=true/\∀j,j<i->nk (aK l j)=false):=by
 have HH:=ai h;clear h;go_enter func295,ntmps295;go_wp2;go_loopw [8] (λiv wr=>∃k:Nat,k<=l.length/\iv=I (k:Int)/\(∀j,j<k->nk (aK l j)=false)/\Below w.heap.size w wr) (λiv _=>l.length-(intOf iv).toNat)
 case atStart=>grind [Below.refl]
 case round =>
  obtain⟨k,hk,rfl,y,hb⟩:=hrel;have sS:=ai y;have HB:=ai hb;clear y;by_cases hlt:k<l.length
  . have Il:(k:Int)<(l.length:Int):=by omega
    obtain⟨eb,eo,A,r,dZ⟩:=HH.o ω;subst A;have y0:=(hb.cell (p:=(Ad eb (eo+k*4+0))) r).trans (dZ k hlt 0 ω);have y1:=(hb.cell (p:=(Ad eb (eo+k*4+1))) r).trans (dZ k hlt 1 ω);have y2:=(hb.cell (p:=(Ad eb (eo+k*4+2))) r).trans (dZ k hlt 2 ω);have y3:=(hb.cell (p:=(Ad eb (eo+k*4+3))) r).trans (dZ k hlt 3 ω);rw[jt] at y0;have vd:=ai (IJ (aK l k) wr);obtain⟨G,hG⟩:=ex (nk (aK l k));rw[<- hG] at vd;have HG:=ai hG;obtain⟨E,hE⟩:=ex (aK l k);have x0:wr.cell? (Ad eb (eo+k*4))=some (.string E.data):=by rw[hE];exact y0
    have x1:wr.cell? (Ad eb (eo+k*4+1))=some (I E.refs):=by rw[hE];exact y1
    have x2:wr.cell? (Ad eb (eo+k*4+2))=some (.bool E.ja):=by rw[hE];exact y2
    have x3:wr.cell? (Ad eb (eo+k*4+3))=some (.bool E.seen):=by rw[hE];exact y3
    rw[<- hE] at vd;clear hG hE hb y0 y1 y2 y3 dZ;cases G with
    | true =>
     go_wp2_with (go_at_call 216;refine vd.o.mono ?_;rintro e w1 ⟨rfl,b⟩;have dz:=ai (HB.o.trans (b.mono HB.o.size));clear b)
     go_ret;exact⟨dz.o,.inr ⟨k,hlt,rfl,HG.o.symm,sS.o⟩⟩
    | false =>
     go_wp2_with (go_at_call 216;refine vd.o.mono ?_;rintro e w1 ⟨rfl,b⟩;have dz:=ai (HB.o.trans (b.mono HB.o.size));clear b)
     go_roundw
     case rel=>exact⟨k+1,ω,by go_num,λj hj=>by
      by_cases q:j=k
      . subst q;exact HG.o.symm
      exact sS.o j ω,dz.o⟩
     case measure=>simp[intOf];omega
  obtain rfl:k=l.length:=by omega
  clear hb;go_wp2;go_ret;exact⟨HB.o,.inl ⟨rfl,sS.o⟩⟩
theorem adi (hR:bg k) {i:Nat} (hi:i<k.slots.length) (h1:oa (bI k.slots i)=true) (h2:∀j,j<i->oa (bI k.slots j)=false):yU k.slots=some i:=by
 unfold yU;refine Qs.2 ⟨hi,?_,λj hj=>?_⟩
 . grind [Cn,bI,gP]
 have b:j<k.slots.length:=by omega
 have:=h2 j hj;have hz:¬(bI k.slots j).refs=0:=λz=>by
  have h3:=(hR.slt j b).zero ((hR.slt j b).nil z)
  grind [Cn]
 grind [bI]
theorem adj (hR:bg k) {i:Nat} (hi:i<k.frames.length) (h1:nk (aK k.frames i)=true) (h2:∀j,j<i->nk (aK k.frames j)=false):yV k.frames=some i:=by
 unfold yV;refine Qs.2 ⟨hi,?_,λj hj=>?_⟩
 . grind [AZ,aK,eG]
 have b:j<k.frames.length:=by omega
 have:=h2 j hj;have hz:¬(aK k.frames j).refs=0:=λz=>by
  have h3:=(hR.Bt j b).zero ((hR.Bt j b).nil z)
  grind [AZ]
 grind [aK]
theorem adh (hR:bg k) (h:∀j,j<k.frames.length->nk (aK k.frames j)=false):yV k.frames=none/\Cr k:=by
 have hF:Cr k:=λj hj z=>by
  have h3:=(hR.Bt j hj).zero ((hR.Bt j hj).nil z)
  grind [AZ]
 refine⟨?_,hF⟩;unfold yV;refine Wq.2 λx hx=>?_
 obtain⟨j,hj,rfl⟩:=jE eG hx;have:=hF j hj
 grind [aK]
def sk (f:cZ->cZ) (l:List cZ) (n:Nat):List cZ:=(l.take n).map f++l.drop n
theorem Ep (n:Nat):(sk f l n).length=l.length:=by
 grind [sk]
theorem Ob (n m:Nat) (hm:m<l.length):ak (sk f l n) m=if m<n then f (ak l m) else ak l m:=by
 grind [sk,ak]
theorem Ll (n:Nat) (hn:n<l.length):(sk f l n).set n (f (ak l n))=sk f l (n+1):=by
 refine qi rP _ _ (by grind [Ep]) (λm hm=>?_)
 grind [Ep,sk,ak]
theorem Xq:sk f l l.length=l.map f:=by
 grind [sk]
def eY (k:aT) (i s n:Nat):aT:={ k with frames:=k.frames.set i eG,slots:=k.slots.set s ⟨(aK k.frames i).data,(aK k.frames i).refs⟩,aj:=sk (kJ i s) k.aj n }
theorem Pn {lo mb:Nat} {tt:TypeId} {X:List Value} (k:aT) (S:gv) (w:World) (i:Nat) (h:bO lo mb tt X w S k) (hR:bg k) (hi:i<k.frames.length) (ZN:(aK k.frames i).refs≠0) :
  Calls prog 297 #[.pointer (some (Ad mb 0)),I (i:Int)] w (fP lo mb tt X w S (.tuple #[]) (fe k i)):=by
 have aq:=hR.c;obtain⟨fb,cF,A⟩:=h.toKr.fr ω;obtain⟨W,hW⟩:=ex (((w.alloc (.cells #[I (i:Int)] 3)).alloc (.cells #[.string (aK k.frames i).data,I (aK k.frames i).refs,.bool (aK k.frames i).ja,.bool (aK k.frames i).seen] 169)).drew);have eB:Hid (Below w.heap.size w W):=by rw[hW];exact(((aN w.heap.size w).alloc (aJ _) _).alloc ξ _).drew
 have X0:Hid (W.heap[w.heap.size]?=some (.cells #[I (i:Int)] 3 (0,0))):=by rw[hW];exact bB (bG w _ _) _
 have F0:Hid (W.heap[w.heap.size+1]?=some (.cells #[.string (aK k.frames i).data,I (aK k.frames i).refs,.bool (aK k.frames i).ja,.bool (aK k.frames i).seen] 169 (0,0))):=by
  have:=bG (w.alloc (.cells #[I (i:Int)] 3)) #[.string (aK k.frames i).data,I (aK k.frames i).refs,.bool (aK k.frames i).ja,.bool (aK k.frames i).seen] 169;rw[fp] at this;rw[hW];exact this
 have y:=ai (h.below eB.o);have aD:Hid (cU S w S W):=cU.below eB.o;have n0:S.lab w.heap.size=.no:=h.toKr.new (aJ _);have n1:S.lab (w.heap.size+1)=.no:=h.toKr.new (iO _);have J9:Hid (∀S' V,cU S W S' V->V.heap[w.heap.size]?=some (.cells #[I (i:Int)] 3 (0,0))/\V.heap[w.heap.size+1]?=some (.cells #[.string (aK k.frames i).data,I (aK k.frames i).refs,.bool (aK k.frames i).ja,.bool (aK k.frames i).seen] 169 (0,0))):=λS' V hV=>⟨hV.keep X0.o n0,hV.keep F0.o n1⟩
 have c1:=h.c1;rw[A.v] at c1;have x0:=A.x0 i hi;have x1:=A.x1 i hi;have x2:=A.x2 i hi;have x3:=A.x3 i hi;have Il:(i:Int)<(k.frames.length:Int):=by omega
 have NQ:=h.lt;have bE:=A.lt;have eW:Hid (∀V S' K,K=fe k i->bO lo mb tt X V S' K->cU S W S' V->fP lo mb tt X w S (.tuple #[]) (fe k i) (.returned (.tuple #[])) V):=λV S' K hK h1 h2=>⟨rfl,S',hK ▸ h1,aD.o.trans h2⟩
 obtain⟨P,hP⟩:=ex (fP lo mb tt X w S (.tuple #[]) (fe k i));rw[<- hP] at eW ⊢;have L:=ai hW;cases hd:(aK k.frames i).ja with
 | false =>
  have Q:fe k i=kK k i k.aj.length:=by
   grind [aaL,fe]
  have PF:=ai (λV S' h1 h2=>eW.o V S' _ Q.symm h1 h2);have aC:Hid (∀V S' n,n<k.aj.length->bO lo mb tt X V S' (kK k i n)->cU S W S' V->Calls prog 268 #[.pointer (some (Ad mb 0)),I (n:Int),.func (.func 300) #[] #[.pointer (some (Ad w.heap.size 0))]] V (fP lo mb tt X V S' (.tuple #[]) (kK k i (n+1)))):=λV S' n hn hV hc=>by
   have hp:=zS hR i n ω;refine CP 300 [.pointer (some (Ad w.heap.size 0))] w.heap.size (.inl ⟨rfl,rfl⟩) (kK k i n) S' V n (lM (i:Int)) hV hp.1 ω (λU e hU=>?_);have hx:=(J9.out S' V hc).1;have J:S'.lab w.heap.size=.no:=hc.no _ (aM X0.o) n0;exact Od (i:Int) e w.heap.size U (aA (hU.keep hx (λz=>z J)) 0 rfl)
  have VF:Hid (∀V S' n,bO lo mb tt X V S' (kK k i n)->n<=k.aj.length->∃av cv,V.cell? (Ad mb 3)=some (.slice av k.aj.length cv)):=λV S' n hV hn=>by
   have hp:=zS hR i n hn;obtain⟨pb,cP,A'⟩:=hV.toKr.sp ω;have:=hV.c3;rw[A'.v,hp.2.2.2.2.2.1] at this
   grind
  obtain⟨av,cv,d3⟩:=VF.o W S 0 y.o ω;obtain⟨np,FC⟩:=ex k.aj.length;rw[<- FC] at d3 aC PF;have bP:np<=4:=by omega
  obtain⟨FR,T⟩:=ex (aK k.frames i);rw[<- T] at x0 x1 x2 x3 L hd F0;obtain⟨fd,fr,bA,fs⟩:=FR;simp only at x0 x1 x2 x3 L hd F0;subst hd;have d2:W.cell? (Ad (w.heap.size+1) 2)=some (.bool false):=aA F0.o 2 rfl;clear hW hP hR aq A h ZN T FC VF eW J9 Q hi;go_enter func297,ntmps297;go_upto_region 1 with fail;go_region;rw[<- L.o];go_wp2;go_loopw [29] (λiv wr=>∃(n:Nat) (S':gv),n<=np/\iv=I (n:Int)/\bO lo mb tt X wr S' (kK k i n)/\cU S W S' wr) (λiv _=>np-(intOf iv).toNat)
  case atStart=>exact⟨0,S,ω,rfl,y.o,cU.refl _ _⟩
  case round =>
   obtain⟨n,S',hn,rfl,mL,b⟩:=hrel;by_cases hlt:n<np
   . have bp:(n:Int)<(np:Int):=by omega
     have bn:=ai (aC.o wr S' n hlt mL b);have OJ:=ai b;clear mL b y aD;go_wp2_with (go_at_call 268;refine bn.o.mono ?_;rintro r w2 ⟨rfl,S2,M,Y⟩;have Aa:=ai M;have vd:=ai (OJ.o.trans Y);clear M Y)
     grind [intOf,Hid.o]
   obtain rfl:n=np:=by omega
   have HX:=ai (PF.o wr S' mL b);clear mL b;go_wp2
   first
    | exact HX.o
    | (refine bW (v:=.tuple #[]) (by simp[results]) rfl ?_;exact HX.o)
 | true =>
  obtain⟨s,Jv,G,au⟩:=hR.slot hi ZN;have al:fe k i=eY k i s k.aj.length:=by
   unfold fe eY;rw[hd,Jv,Xq];rfl
  have PF:=ai (λV S' h1 h2=>eW.o V S' _ al.symm h1 h2);obtain⟨lb,cL,AL⟩:=y.o.toKr.sl ω;obtain⟨aL,aF,eL,_,am⟩:=pq gq (λ_=>rfl) gP y.o.slots;have c2:=y.o.c2;rw[AL.v] at c2;have bb:aL=some (Ad lb 0):=by
   grind [afl.v]
  subst bb;have VK:Hid (Calls prog 301 #[.slice (some (Ad lb 0)) k.slots.length cL,.func (.func 302) #[] #[]] W λe w'=>e=.returned (I (s:Int))/\Below W.heap.size W w'):=(aat k.slots (some (Ad lb 0)) cL W am ω).mono λe w' ⟨hb,hh⟩=>by
   rcases hh with⟨_,J⟩ | ⟨m,hm,he,hy,J⟩
   . have:=J s G;have hz:=(hR.slt s G).zero au;rw[hz] at this;cases this
   have:=adi hR hm hy J
   grind
  have dr:∀V:World,Below V.heap.size V V.drew:=λV=>(aN _ _).drew
  have a7:Hid (∀V U,Below W.heap.size W V->U=((V.setCell (Ad lb (s*2)) (.string (aK k.frames i).data)).setCell (Ad lb (s*2+1)) (I (aK k.frames i).refs)).drew->bO lo mb tt X U S { k with slots:=k.slots.set s ⟨(aK k.frames i).data,(aK k.frames i).refs⟩ }/\cU S W S U):=λV U hb hU=>by
   have m0:=y.o.below hb;have m1:=m0.aps AL.v G ⟨(aK k.frames i).data,(aK k.frames i).refs⟩;subst hU;exact⟨m1.1.below (dr _),((cU.below hb).trans m1.2).trans (cU.below (dr _))⟩
  have Cw:Hid (∀V U,bO lo mb tt X V S { k with slots:=k.slots.set s ⟨(aK k.frames i).data,(aK k.frames i).refs⟩ }->cU S W S V->U=((((V.setCell (Ad fb (i*4)) (.string ⟨#[]⟩)).setCell (Ad fb (i*4+1)) (I 0)).setCell (Ad fb (i*4+2)) (.bool false)).setCell (Ad fb (i*4+3)) (.bool false)).drew->bO lo mb tt X U S (eY k i s 0)/\cU S W S U):=λV U hV hc hU=>by
   have m2:=hV.ahg A.v (i:=i) hi eG;subst hU;exact⟨m2.1.below (dr _),(hc.trans m2.2).trans (cU.below (dr _))⟩
  have MI:Hid (∀V S' n,n<k.aj.length->bO lo mb tt X V S' (eY k i s n)->cU S W S' V->∃pb cP ae ce lv ax nx cx,V.cell? (Ad pb (n*3))=some (.bool lv)/\V.cell? (Ad pb (n*3+1))=some (.slice ax nx cx)/\V.cell? (Ad pb (n*3+2))=some (.slice ae (ak k.aj n).bl.length ce)/\S'.vP=.slice (some (Ad pb 0)) k.aj.length cP /\
    ((eY k i s n=eY k i s (n+1)/\∀V',Below V.heap.size V V'->Calls prog 186 #[.slice ae (ak k.aj n).bl.length ce,.func (.func 300) #[] #[.pointer (some (Ad w.heap.size 0))]] V' λe w'=>e=.returned (I (-1))/\Below V'.heap.size V' w') \/
    ∃(m eb:Nat),m<(ak k.aj n).bl.length/\ae=some (Ad eb 0)/\eb<V.heap.size/\∀V',Below V.heap.size V V'->Calls prog 186 #[.slice ae (ak k.aj n).bl.length ce,.func (.func 300) #[] #[.pointer (some (Ad w.heap.size 0))]] V' λe w'=>e=.returned (I (m:Int))/\Below V'.heap.size V' w'/\(∃u1 u2,w'.cell? (Ad eb (m*3+1))=some (I u1)/\w'.cell? (Ad eb (m*3+2))=some (I u2))/\w'.frozen? (Ad eb (m*3+1))=false/\w'.frozen? (Ad eb (m*3+2))=false/\(∀U,U=((w'.setCell (Ad eb (m*3+1)) (I 2)).setCell (Ad eb (m*3+2)) (I (s:Int))).drew->bO lo mb tt X U S' (eY k i s (n+1))/\cU S' V S' U))):=λV S' n hn hV hc=>by
   have ab:(eY k i s n).aj.length=k.aj.length:=Ep _ _ _;have B:n<(eY k i s n).aj.length:=by omega
   have a3:ak (eY k i s n).aj n=ak k.aj n:=by
    show ak (sk _ _ _) n=_
    grind [Ob]
   obtain⟨pb,cP,A'⟩:=hV.toKr.sp ω;obtain⟨ae,ce,Tn,ar⟩:=hV.toKr.bl B;rw[a3] at Tn ar;have a0:=A'.x0 n B;have a1:=A'.x1 n B;have a2:=A'.x2 n B;rw[Tn] at a2;have hv:=A'.v;rw[ab] at hv;obtain⟨ax,cx,Ec,_,_⟩:=bh (hV.each n B).bu;rw[Ec] at a1;refine⟨pb,cP,ae,ce,_,ax,_,cx,a0,a1,a2,hv,?_⟩;have hx:V.heap[w.heap.size]?=some (.cells #[I (i:Int)] 3 (0,0)):=(J9.out S' V hc).1;have aw:∀V',Below V.heap.size V V'->_:=λV' hb'=>JM 300 (.inr (.inr rfl)) (lM (i:Int)) (ak k.aj n).bl ae ce w.heap.size V' (ar.below hb') (by grind [oP]) (λU e hU=>Od (i:Int) e w.heap.size U (aA (aO (aO hx hb' (aM hx)) hU (gm (aM hx) hb'.size)) 0 rfl))
   by_cases hex:∃m,m<(ak k.aj n).bl.length/\lM (i:Int) (aW (ak k.aj n).bl m)=true
   . obtain⟨m,hm,hy⟩:=hex;obtain⟨eb,ba,az⟩:∃eb,ae=some (Ad eb 0)/\eb<V.heap.size:=by
      obtain⟨ao,cap,e,_,hg⟩:=bh (hV.each n B).aY
      grind
     subst ba;refine .inr ⟨m,eb,hm,rfl,az,λV' hb'=>(aw V' hb').mono λe w' ⟨hb,hh⟩=>?_⟩;have ah:Below V.heap.size V w':=hb'.trans (hb.mono hb'.size);have he:e=.returned (I (m:Int)):=by
      grind [Vy]
     have mw:=hV.below ah;have bd:m<(ak (eY k i s n).aj n).bl.length:=by grind
     have F:=(mw.each n B).aY;rw[a3,Tn] at F;have g1:=kF bC (λ_=>rfl) gJ F m 1 hm ω;have g2:=kF bC (λ_=>rfl) gJ F m 2 hm ω;refine⟨he,hb,⟨_,_,g1,g2⟩,iN F _,iN F _,λU hU=>?_⟩;have e1:=mw.ahe B Tn bd (c:=1) ω (e:=⟨(aW (ak k.aj n).bl m).page,2,(aW (ak k.aj n).bl m).loc⟩) (u:=I 2) (by rw[a3];rfl);have aE:n<({ eY k i s n with aj:=(eY k i s n).aj.set n (eT (ak (eY k i s n).aj n) ((ak (eY k i s n).aj n).bl.set m ⟨(aW (ak k.aj n).bl m).page,2,(aW (ak k.aj n).bl m).loc⟩)) }:aT).aj.length:=by
      grind
     have a8:ak ((eY k i s n).aj.set n (eT (ak (eY k i s n).aj n) ((ak (eY k i s n).aj n).bl.set m ⟨(aW (ak k.aj n).bl m).page,2,(aW (ak k.aj n).bl m).loc⟩))) n=eT (ak k.aj n) ((ak k.aj n).bl.set m ⟨(aW (ak k.aj n).bl m).page,2,(aW (ak k.aj n).bl m).loc⟩):=by
      grind [kQ]
     have e2:=e1.1.ahe aE Tn (i:=m) (by
      show m<(ak (List.set _ _ _) n).bl.length;rw[a8];show m<(List.set _ _ _).length
      grind) (c:=2) ω (e:=⟨(aW (ak k.aj n).bl m).page,2,(s:Int)⟩) (u:=I (s:Int)) (by
      show _=(bC (aW (ak (List.set _ _ _) n).bl m)).set 2 _;rw[a8];show _=(bC ((List.set _ _ _).getD m gJ)).set 2 _;rw[fu _ _ _ _ hm];rfl)
     have hK:({ ({ eY k i s n with aj:=(eY k i s n).aj.set n (eT (ak (eY k i s n).aj n) ((ak (eY k i s n).aj n).bl.set m ⟨(aW (ak k.aj n).bl m).page,2,(aW (ak k.aj n).bl m).loc⟩)) }:aT) with aj:=((eY k i s n).aj.set n (eT (ak (eY k i s n).aj n) ((ak (eY k i s n).aj n).bl.set m ⟨(aW (ak k.aj n).bl m).page,2,(aW (ak k.aj n).bl m).loc⟩))).set n (eT (ak ((eY k i s n).aj.set n (eT (ak (eY k i s n).aj n) ((ak (eY k i s n).aj n).bl.set m ⟨(aW (ak k.aj n).bl m).page,2,(aW (ak k.aj n).bl m).loc⟩))) n) ((ak ((eY k i s n).aj.set n (eT (ak (eY k i s n).aj n) ((ak (eY k i s n).aj n).bl.set m ⟨(aW (ak k.aj n).bl m).page,2,(aW (ak k.aj n).bl m).loc⟩))) n).bl.set m ⟨(aW (ak k.aj n).bl m).page,2,(s:Int)⟩)) }:aT)=eY k i s (n+1):=by
      grind [List.set_set,eY,Ll,eT,kJ,TZ,Vy]
     subst hU;have e3:=hK ▸ e2.1;exact⟨e3.below (dr _),(((cU.below ah).trans e1.2).trans e2.2).trans (cU.below (dr _))⟩
   have J:∀m,m<(ak k.aj n).bl.length->lM (i:Int) (aW (ak k.aj n).bl m)=false:=λm hm=>by
    grind
   refine .inl ⟨?_,λV' hb'=>(aw V' hb').mono λe w' ⟨hb,hh⟩=>?_⟩
   . unfold eY;congr 1;rw[<- Ll _ _ _ hn];have e1:kJ (i:Int) s (ak k.aj n)=ak (sk (kJ i s) k.aj n) n:=by
      simp_all [Ob,kJ,XL]
     rw[e1];refine(qi rP _ _ Γ (λq hq=>?_)).symm
     grind [ak]
   grind
  obtain⟨pb,cP,AP⟩:=y.o.toKr.sp ω;have aX:=AP.v;have b4:=ai AP.v;have bX:k.aj.length<=4:=by omega
  have an:=ai (λV K (hV:bO lo mb tt X V S K) (hK:K.frames=k.frames)=>(show(∀j,V.frozen? (Ad fb j)=false)/\V.cell? (Ad fb (i*4))=some (.string (aK k.frames i).data)/\V.cell? (Ad fb (i*4+1))=some (I (aK k.frames i).refs)/\V.cell? (Ad fb (i*4+2))=some (.bool (aK k.frames i).ja)/\V.cell? (Ad fb (i*4+3))=some (.bool (aK k.frames i).seen)/\V.cell? (Ad mb 1)=some (.slice (some (Ad fb 0)) k.frames.length cF)/\V.cell? (Ad mb 3)=some (.slice (some (Ad pb 0)) k.aj.length cP) from by
   obtain⟨bq,bF,A'⟩:=hV.toKr.fr Γ;have e:bq=fb:=by
    have:=A'.v
    grind [Ci.v]
   subst e;have c1:=hV.c1
   grind [bO.c3,Ci.v,Ci.x0,Ci.x1,Ci.x2,Ci.x3,Ci.fz]))
  have b5:=AL.x0 s G;have bi:=AL.x1 s G;have aQ:=AL.fz (s*2);have b6:=AL.fz (s*2+1);have bL:=AL.lt;have DY:=ai (λV (hV:bO lo mb tt X V S (eY k i s 0))=>(show V.cell? (Ad mb 3)=some (.slice (some (Ad pb 0)) k.aj.length cP) from by grind [bO.c3]));have q0:∀V,Below W.heap.size W V->V.cell? (Ad (w.heap.size+1) 0)=some (.string (aK k.frames i).data)/\V.cell? (Ad (w.heap.size+1) 1)=some (I (aK k.frames i).refs)/\V.cell? (Ad mb 2)=some (.slice (some (Ad lb 0)) k.slots.length cL)/\V.cell? (Ad lb (s*2))=some (.string (bI k.slots s).data)/\V.cell? (Ad lb (s*2+1))=some (I (bI k.slots s).refs)/\V.frozen? (Ad lb (s*2))=false/\V.frozen? (Ad lb (s*2+1))=false:=λV hb=>by
   have hF:=aO F0.o hb (aM F0.o);have mV:=y.o.below hb;obtain⟨bo,aF,A'⟩:=mV.toKr.sl ω;have e:bo=lb:=by
    have:=A'.v
    grind
   subst e;have c2:=mV.c2;rw[AL.v] at c2;exact⟨aA hF 0 rfl,aA hF 1 rfl,c2,A'.x0 s G,A'.x1 s G,A'.fz _,A'.fz _⟩
  have a5:=ai q0;have b0:=ai (λV (hc:cU S W S V)=>(show V.cell? (Ad w.heap.size 0)=some (I (i:Int)) from aA (J9.out S V hc).1 0 rfl));obtain⟨FR,T⟩:=ex (aK k.frames i);rw[<- T] at x0 x1 x2 x3 L hd F0 a7 Cw an a5;obtain⟨SR,ac⟩:=ex (bI k.slots s);rw[<- ac] at a5;rw[hd] at x2 L F0;have d2:W.cell? (Ad (w.heap.size+1) 2)=some (.bool true):=aA F0.o 2 rfl;have bv:(s:Int)<(k.slots.length:Int):=by omega
  have aG:Hid (∀S' V,cU S W S' V->S'.vP=S.vP):=λS' V hc=>hc.eP
  clear hW hP hR aq A h ZN T eW J9 hi Jv au AL AP am eL q0 al aX ac dr b5 bi aQ b6;go_enter func297,ntmps297;go_upto_region 1 with fail;go_region;rw[<- L.o];go_upto_region 10 with(go_at_call 301;refine VK.o.mono ?_;rintro e w1 ⟨rfl,ap⟩;have dz:=ai ap;clear ap);obtain⟨p0,p1,p2,p3,p4,p5,p6⟩:=a5.o w1 dz.o;obtain⟨U1,a6⟩:=ex (((w1.setCell (Ad lb (s*2)) (.string FR.data)).setCell (Ad lb (s*2+1)) (I FR.refs)).drew);have ad:=ai a6;obtain⟨af,a9⟩:=a7.o w1 U1 dz.o a6;have Dg:=ai af;have Sv:=ai a9;clear a6 af a9;go_region;rw[<- ad.o];obtain⟨g0,g1,g2,g3,g4,g5,g6⟩:=an.o U1 _ Dg.o rfl;have b2:=g0 (i*4);have bm:=g0 (i*4+1);have b9:=g0 (i*4+2);have aH:=g0 (i*4+3);have g7:=b0.o U1 Sv.o;obtain⟨U2,a4⟩:=ex (((((U1.setCell (Ad fb (i*4)) (.string ⟨#[]⟩)).setCell (Ad fb (i*4+1)) (I 0)).setCell (Ad fb (i*4+2)) (.bool false)).setCell (Ad fb (i*4+3)) (.bool false)).drew);have ay:=ai a4;obtain⟨M,Y⟩:=Cw.o U1 U2 Dg.o Sv.o a4;have Aa:=ai M;have vd:=ai Y;have k3:=DY.o U2 M;clear a4 M Y p0 p1 p2 p3 p4 p5 p6 g0;go_upto_region 11 with fail;go_region;rw[<- ay.o];clear ad ay Dg Sv dz b2 bm b9 aH g1 g2 g3 g4 g5 g6 g7;go_wp2;go_loopw [69] (λiv wr=>∃(n:Nat) (S':gv),n<=k.aj.length/\iv=I (n:Int)/\bO lo mb tt X wr S' (eY k i s n)/\cU S W S' wr) (λiv _=>k.aj.length-(intOf iv).toNat)
  case atStart=>grind [Hid.o]
  case round =>
   obtain⟨n,S',hn,rfl,mL,b⟩:=hrel;by_cases hlt:n<k.aj.length
   . have bp:(n:Int)<(k.aj.length:Int):=by omega
     obtain⟨bt,bx,ae,ce,lv,ax,nx,cx,a0,a1,a2,aa,b3⟩:=MI.o wr S' n hlt mL b;have aP:bt=pb:=by
      rw[aG.o S' wr b,b4.o] at aa
      grind
     subst aP;have aS:=ai mL;have OJ:=ai b;have HA:=ai ((aN wr.heap.size wr).alloc (aJ _) (.cells #[.bool lv,.slice ax nx cx,.slice ae (ak k.aj n).bl.length ce] 99));have BX:=ai (bG wr #[.bool lv,.slice ax nx cx,.slice ae (ak k.aj n).bl.length ce] 99);have bs:∀eb,eb<wr.heap.size->¬wr.heap.size=eb:=λeb h=>by omega
     clear mL b aa Aa vd;rcases b3 with⟨R,N⟩ | ⟨m,eb,hm,b8,az,N⟩
     . have b1:=ai R;have VM:=ai N;clear R N;go_wp2_with (go_at_call 186;refine(VM.o _ HA.o).mono ?_;rintro e w2 ⟨rfl,O⟩;have iI:=ai (HA.o.trans (O.mono HA.o.size));clear O);go_roundw
       case rel=>exact⟨n+1,S',ω,by go_num,b1.o ▸ aS.o.below iI.o,OJ.o.trans (cU.below iI.o)⟩
       grind [intOf]
     subst b8;have VM:=ai N;have bS:(m:Int)<((ak k.aj n).bl.length:Int):=by omega
     have bz:(0:Int)<=(m:Int):=by omega
     clear N bs;go_upto_region 17 with(go_at_call 186;refine(VM.o _ HA.o).mono ?_;rintro e w2 ⟨rfl,O,⟨u1,u2,t1,t2⟩,t3,t4,Z⟩;have ag:=aO BX.o O (aM BX.o);obtain⟨r0,r1,r2⟩:=uo ag;have Dh:=ai Z;clear O Z ag);go_region;go_wp2;go_roundw
     case rel =>
      obtain⟨z1,z2⟩:=Dh.o _ rfl;exact⟨n+1,S',ω,by go_num,z1,OJ.o.trans z2⟩
     grind [intOf]
   obtain rfl:n=k.aj.length:=by omega
   have HX:=ai (PF.o wr S' mL b);clear mL b;go_wp2
   first
    | exact HX.o
    | (refine vY (v:=.tuple #[]) (by simp[results]) rfl ?_;exact HX.o)
end Go.Proofs.YtlgoihmkgaaemaaGreat
