import Derived.Test.YtlgoihmkgaaemaaGreatGQ21
set_option maxHeartbeats 20000000
set_option linter.unusedVariables false
set_option maxRecDepth 100000
set_option linter.unusedSimpArgs false
namespace Go.Proofs.YtlgoihmkgaaemaaGreat
open Go.RowKit Tryz
theorem RZ (i:Int) (e:bJ) (x:Nat) (w:World) (hx:w.cell? (Ad x 0)=some (I i)) :
  Calls prog 300 #[.agg #[I e.page,I e.kind,I e.loc],.pointer (some (Ad x 0))] w λr w'=>r=.returned (.bool (mO i e))/\Below w.heap.size w w':=by
 obtain⟨pg,kd,lc⟩:=e;unfold mO;simp only;have b:x<w.heap.size:=jL w _ hx;have xA:(w.alloc (.cells #[I pg,I kd,I lc] 174)).cell? (Ad x 0)=some (I i):=(T4 ((aN w.heap.size w).alloc (aK _) _) (p:=(Ad x 0)) b).trans hx;obtain⟨A,hA⟩:=ex (decide (kd=1/\lc=i));rw[<- hA];have HA:=ai hA;clear hA;by_cases c:kd=1
 . have kb:(kd==1)=true:=by grind
   obtain⟨C,hC⟩:=ex ((lc==i));have HC:=ai hC;have q:=hC.symm;have E7:=ai c;clear hC c;go_enter func300,ntmps300;go_wp2;go_ret;refine⟨?_,(aN _ _).alloc (aK _) _⟩;congr 2;rw[HA.o,E7.o]
   try rw[HC.o]
   by_cases d:lc=i <;> simp[d]
 have kb:(kd==1)=false:=by grind
 have E7:=ai c;clear c;go_enter func300,ntmps300;go_wp2;go_ret
 simp_all [aN,sI,Hid.o]
theorem Yn (f:qh) (w:World):Calls prog 302 #[.agg #[.string f.data,I f.refs]] w λe w'=>e=.returned (.bool (wu f))/\Below w.heap.size w w':=by
 obtain⟨d,r⟩:=f;unfold wu;simp only;have hd:d.toList.isEmpty=decide (d.size=0):=aeM d;by_cases c1:d.size=0
 . by_cases c2:r=0
   . rw[fD (show d.size=0/\r=0 from⟨c1,c2⟩)];rw[fD c1] at hd;have h2:(r==0)=true:=by grind
     clear c1 c2;go_enter func302,ntmps302;go_wp2;go_ret;simp[aN,sI]
   rw[fE (show ¬(d.size=0/\r=0) from λx=>c2 x.2)];rw[fD c1] at hd;have h2:(r==0)=false:=by grind
   clear c1 c2;go_enter func302,ntmps302;go_wp2;go_ret;simp[aN,sI]
 rw[fE (show ¬(d.size=0/\r=0) from λx=>c1 x.1)];rw[fE c1] at hd;clear c1;go_enter func302,ntmps302;go_wp2;go_ret;simp[aN,sI]
theorem aeC (l:List qh) (ao:Option Addr) (cap:Nat) (w:World) (h:eX jH 2 jm w ao l) (hl:l.length<=1000000) :
  Calls prog 301 #[.slice ao l.length cap,.func (.func 302) #[] #[]] w λe w' =>
   Below w.heap.size w w'/\((e=.returned (I (-1))/\∀j,j<l.length->wu (bI l j)=false)\/∃i:Nat,i<l.length/\e=.returned (I (i:Int))/\wu (bI l i)=true/\∀j,j<i->wu (bI l j)=false):=by
 have HH:=ai h;clear h;go_enter func301,ntmps301;go_wp2;go_loopw [8] (λiv wr=>∃k:Nat,k<=l.length/\iv=I (k:Int)/\(∀j,j<k->wu (bI l j)=false)/\Below w.heap.size w wr) (λiv _=>l.length-(intOf iv).toNat)
 case atStart=>grind [Below.refl]
 case round =>
  obtain⟨k,hk,rfl,y,hb⟩:=hrel;have sk:=ai y;have HB:=ai hb;clear y;by_cases hlt:k<l.length
  . have C2:(k:Int)<(l.length:Int):=by omega
    obtain⟨eb,eo,B,A,di⟩:=HH.o ω;subst B;have y0:=(hb.cell (p:=(Ad eb (eo+k*2+0))) A).trans (di k hlt 0 ω);have y1:=(hb.cell (p:=(Ad eb (eo+k*2+1))) A).trans (di k hlt 1 ω);rw[lB] at y0;have uM:=ai (Yn (bI l k) wr);obtain⟨G,hG⟩:=ex (wu (bI l k));rw[<- hG] at uM;have HG:=ai hG;obtain⟨E,hE⟩:=ex (bI l k);have x0:wr.cell? (Ad eb (eo+k*2))=some (.string E.data):=by rw[hE];exact y0
    have x1:wr.cell? (Ad eb (eo+k*2+1))=some (I E.refs):=by rw[hE];exact y1
    rw[<- hE] at uM;clear hG hE hb y0 y1 di;cases G with
    | true =>
     go_wp2_with (go_at_call 302;refine uM.o.mono ?_;rintro e w1 ⟨rfl,b⟩;have cD:=ai (HB.o.trans (b.mono HB.o.size));clear b)
     go_ret;exact⟨cD.o,.inr ⟨k,hlt,rfl,HG.o.symm,sk.o⟩⟩
    | false =>
     go_wp2_with (go_at_call 302;refine uM.o.mono ?_;rintro e w1 ⟨rfl,b⟩;have cD:=ai (HB.o.trans (b.mono HB.o.size));clear b)
     go_roundw
     case rel=>exact⟨k+1,ω,by go_num,λj hj=>by
      by_cases q:j=k
      . subst q;exact HG.o.symm
      exact sk.o j ω,cD.o⟩
     case measure=>simp[intOf];omega
  obtain rfl:k=l.length:=by omega
  clear hb;go_wp2;go_ret;exact⟨HB.o,.inl ⟨rfl,sk.o⟩⟩
theorem aeD (l:List nA) (ao:Option Addr) (cap:Nat) (w:World) (h:eX jI 4 fN w ao l) (hl:l.length<=1000000) :
  Calls prog 295 #[.slice ao l.length cap,.func (.func 216) #[] #[]] w λe w' =>
   Below w.heap.size w w'/\((e=.returned (I (-1))/\∀j,j<l.length->ve (aM l j)=false)\/∃i:Nat,i<l.length/\e=.returned (I (i:Int))/\ve (aM l i)=true/\∀j,j<i->ve (aM l j)=false):=by
 have HH:=ai h;clear h;go_enter func295,ntmps295;go_wp2;go_loopw [8] (λiv wr=>∃k:Nat,k<=l.length/\iv=I (k:Int)/\(∀j,j<k->ve (aM l j)=false)/\Below w.heap.size w wr) (λiv _=>l.length-(intOf iv).toNat)
 case atStart=>grind [Below.refl]
 case round =>
  obtain⟨k,hk,rfl,A,hb⟩:=hrel;have sk:=ai A;have HB:=ai hb;clear A;by_cases hlt:k<l.length
  . have C2:(k:Int)<(l.length:Int):=by omega
    obtain⟨eb,eo,B,y,di⟩:=HH.o ω;subst B;have y0:=(hb.cell (p:=(Ad eb (eo+k*4+0))) y).trans (di k hlt 0 ω);have y1:=(hb.cell (p:=(Ad eb (eo+k*4+1))) y).trans (di k hlt 1 ω);have y2:=(hb.cell (p:=(Ad eb (eo+k*4+2))) y).trans (di k hlt 2 ω);have y3:=(hb.cell (p:=(Ad eb (eo+k*4+3))) y).trans (di k hlt 3 ω);rw[lB] at y0;have uM:=ai (LS (aM l k) wr);obtain⟨G,hG⟩:=ex (ve (aM l k));rw[<- hG] at uM;have HG:=ai hG;obtain⟨E,hE⟩:=ex (aM l k);have x0:wr.cell? (Ad eb (eo+k*4))=some (.string E.data):=by rw[hE];exact y0
    have x1:wr.cell? (Ad eb (eo+k*4+1))=some (I E.refs):=by rw[hE];exact y1
    have x2:wr.cell? (Ad eb (eo+k*4+2))=some (.bool E.kE):=by rw[hE];exact y2
    have x3:wr.cell? (Ad eb (eo+k*4+3))=some (.bool E.seen):=by rw[hE];exact y3
    rw[<- hE] at uM;clear hG hE hb y0 y1 y2 y3 di;cases G with
    | true =>
     go_wp2_with (go_at_call 216;refine uM.o.mono ?_;rintro e w1 ⟨rfl,b⟩;have cD:=ai (HB.o.trans (b.mono HB.o.size));clear b)
     go_ret;exact⟨cD.o,.inr ⟨k,hlt,rfl,HG.o.symm,sk.o⟩⟩
    | false =>
     go_wp2_with (go_at_call 216;refine uM.o.mono ?_;rintro e w1 ⟨rfl,b⟩;have cD:=ai (HB.o.trans (b.mono HB.o.size));clear b)
     go_roundw
     case rel=>exact⟨k+1,ω,by go_num,λj hj=>by
      by_cases q:j=k
      . subst q;exact HG.o.symm
      exact sk.o j ω,cD.o⟩
     case measure=>simp[intOf];omega
  obtain rfl:k=l.length:=by omega
  clear hb;go_wp2;go_ret;exact⟨HB.o,.inl ⟨rfl,sk.o⟩⟩
theorem ahG {k:aT} (hR:aW k) {i:Nat} (hi:i<k.slots.length) (h1:wu (bI k.slots i)=true) (h2:∀j,j<i->wu (bI k.slots j)=false):A4 k.slots=some i:=by
 unfold A4;refine Uj.2 ⟨hi,?_,λj hj=>?_⟩
 . grind [Jv,bI,jm]
 have b:j<k.slots.length:=by omega
 have:=h2 j hj;have hz:¬(bI k.slots j).refs=0:=λz=>by
  have h3:=(hR.slt j b).zero ((hR.slt j b).nil z)
  grind [Jv]
 grind [bI]
theorem ahH {k:aT} (hR:aW k) {i:Nat} (hi:i<k.frames.length) (h1:ve (aM k.frames i)=true) (h2:∀j,j<i->ve (aM k.frames j)=false):A5 k.frames=some i:=by
 unfold A5;refine Uj.2 ⟨hi,?_,λj hj=>?_⟩
 . grind [G8,aM,fN]
 have b:j<k.frames.length:=by omega
 have:=h2 j hj;have hz:¬(aM k.frames j).refs=0:=λz=>by
  have h3:=(hR.EK j b).zero ((hR.EK j b).nil z)
  grind [G8]
 grind [aM]
theorem ahF {k:aT} (hR:aW k) (h:∀j,j<k.frames.length->ve (aM k.frames j)=false):A5 k.frames=none/\Eu k:=by
 have hF:Eu k:=λj hj z=>by
  have h3:=(hR.EK j hj).zero ((hR.EK j hj).nil z)
  grind [G8]
 refine⟨?_,hF⟩;unfold A5;refine aa0.2 λx hx=>?_
 obtain⟨j,hj,rfl⟩:=mZ fN hx;have:=hF j hj
 grind [aM]
open Go.RowKit
def uk (f:dA->dA) (l:List dA) (n:Nat):List dA:=(l.take n).map f++l.drop n
theorem GQ (f:dA->dA) (l:List dA) (n:Nat):(uk f l n).length=l.length:=by
 grind [uk]
theorem RX (f:dA->dA) (l:List dA) (n m:Nat) (hm:m<l.length):ak (uk f l n) m=if m<n then f (ak l m) else ak l m:=by
 grind [uk,ak]
theorem OL (f:dA->dA) (l:List dA) (n:Nat) (hn:n<l.length):(uk f l n).set n (f (ak l n))=uk f l (n+1):=by
 refine rH tR _ _ (by grind [GQ]) (λm hm=>?_)
 grind [GQ,uk,ak]
theorem abM (f:dA->dA) (l:List dA):uk f l l.length=l.map f:=by
 grind [uk]
def eW (k:aT) (i s n:Nat):aT:={ k with frames:=k.frames.set i fN,slots:=k.slots.set s ⟨(aM k.frames i).data,(aM k.frames i).refs⟩,aj:=uk (lQ i s) k.aj n }
theorem Tg {lo mb:Nat} {tt:TypeId} {X:List Value} (k:aT) (S:gJ) (w:World) (i:Nat) (h:bR lo mb tt X w S k) (hR:aW k) (hi:i<k.frames.length) (S4:(aM k.frames i).refs≠0) :
  Calls prog 297 #[.pointer (some (Ad mb 0)),I (i:Int)] w (fZ lo mb tt X w S (.tuple #[]) (eY k i)):=by
 have a9:=hR.c;obtain⟨fb,cF,A⟩:=h.toKr.fr ω;obtain⟨W,hW⟩:=ex (((w.alloc (.cells #[I (i:Int)] 3)).alloc (.cells #[.string (aM k.frames i).data,I (aM k.frames i).refs,.bool (aM k.frames i).kE,.bool (aM k.frames i).seen] 169)).drew);have fU:Hid (Below w.heap.size w W):=by rw[hW];exact(((aN w.heap.size w).alloc (aK _) _).alloc ξ _).drew
 have X0:Hid (W.heap[w.heap.size]?=some (.cells #[I (i:Int)] 3 (0,0))):=by rw[hW];exact bu (bH w _ _) _
 have F0:Hid (W.heap[w.heap.size+1]?=some (.cells #[.string (aM k.frames i).data,I (aM k.frames i).refs,.bool (aM k.frames i).kE,.bool (aM k.frames i).seen] 169 (0,0))):=by
  have:=bH (w.alloc (.cells #[I (i:Int)] 3)) #[.string (aM k.frames i).data,I (aM k.frames i).refs,.bool (aM k.frames i).kE,.bool (aM k.frames i).seen] 169;rw[fY] at this;rw[hW];exact this
 have y:=ai (h.below fU.o);have aC:Hid (cO S w S W):=cO.below fU.o;have n0:S.lab w.heap.size=.no:=h.toKr.new (aK _);have n1:S.lab (w.heap.size+1)=.no:=h.toKr.new (qI _);have yz:Hid (∀S' V,cO S W S' V->V.heap[w.heap.size]?=some (.cells #[I (i:Int)] 3 (0,0))/\V.heap[w.heap.size+1]?=some (.cells #[.string (aM k.frames i).data,I (aM k.frames i).refs,.bool (aM k.frames i).kE,.bool (aM k.frames i).seen] 169 (0,0))):=λS' V hV=>⟨hV.keep X0.o n0,hV.keep F0.o n1⟩
 have c1:=h.c1;rw[A.v] at c1;have x0:=A.x0 i hi;have x1:=A.x1 i hi;have x2:=A.x2 i hi;have x3:=A.x3 i hi;have C2:(i:Int)<(k.frames.length:Int):=by omega
 have Uk:=h.lt;have c9:=A.lt;have fV:Hid (∀V S' K,K=eY k i->bR lo mb tt X V S' K->cO S W S' V->fZ lo mb tt X w S (.tuple #[]) (eY k i) (.returned (.tuple #[])) V):=λV S' K hK h1 h2=>⟨rfl,S',hK ▸ h1,aC.o.trans h2⟩
 obtain⟨P,hP⟩:=ex (fZ lo mb tt X w S (.tuple #[]) (eY k i));rw[<- hP] at fV ⊢;have J:=ai hW;cases hd:(aM k.frames i).kE with
 | false =>
  have R:eY k i=lR k i k.aj.length:=by
   grind [aeO,eY]
  have Z:=ai (λV S' h1 h2=>fV.o V S' _ R.symm h1 h2);have aE:Hid (∀V S' n,n<k.aj.length->bR lo mb tt X V S' (lR k i n)->cO S W S' V->Calls prog 268 #[.pointer (some (Ad mb 0)),I (n:Int),.func (.func 300) #[] #[.pointer (some (Ad w.heap.size 0))]] V (fZ lo mb tt X V S' (.tuple #[]) (lR k i (n+1)))):=λV S' n hn hV hc=>by
   have hp:=Cw hR i n ω;refine ET 300 [.pointer (some (Ad w.heap.size 0))] w.heap.size (.inl ⟨rfl,rfl⟩) (lR k i n) S' V n (mO (i:Int)) hV hp.1 ω (λU e hU=>?_);have hx:=(yz.out S' V hc).1;have L:S'.lab w.heap.size=.no:=hc.no _ (aQ X0.o) n0;exact RZ (i:Int) e w.heap.size U (aA (hU.keep hx (λz=>z L)) 0 rfl)
  have Xx:Hid (∀V S' n,bR lo mb tt X V S' (lR k i n)->n<=k.aj.length->∃av cv,V.cell? (Ad mb 3)=some (.slice av k.aj.length cv)):=λV S' n hV hn=>by
   have hp:=Cw hR i n hn;obtain⟨pb,cP,A'⟩:=hV.toKr.sp ω;have:=hV.c3;rw[A'.v,hp.2.2.2.2.2.1] at this
   grind
  obtain⟨av,cv,d3⟩:=Xx.o W S 0 y.o ω;obtain⟨np,C0⟩:=ex k.aj.length;rw[<- C0] at d3 aE Z;have ca:np<=4:=by omega
  obtain⟨FR,O⟩:=ex (aM k.frames i);rw[<- O] at x0 x1 x2 x3 J hd F0;obtain⟨fd,fr,c8,fs⟩:=FR;simp only at x0 x1 x2 x3 J hd F0;subst hd;have d2:W.cell? (Ad (w.heap.size+1) 2)=some (.bool false):=aA F0.o 2 rfl;clear hW hP hR a9 A h S4 O C0 Xx fV yz R hi;go_enter func297,ntmps297;go_upto_region 1 with fail;go_region;rw[<- J.o];go_wp2;go_loopw [29] (λiv wr=>∃(n:Nat) (S':gJ),n<=np/\iv=I (n:Int)/\bR lo mb tt X wr S' (lR k i n)/\cO S W S' wr) (λiv _=>np-(intOf iv).toNat)
  case atStart=>exact⟨0,S,ω,rfl,y.o,cO.refl _ _⟩
  case round =>
   obtain⟨n,S',hn,rfl,uR,b⟩:=hrel;by_cases hlt:n<np
   . have bF:(n:Int)<(np:Int):=by omega
     have b1:=ai (aE.o wr S' n hlt uR b);have Nt:=ai b;clear uR b y aC;go_wp2_with (go_at_call 268;refine b1.o.mono ?_;rintro r w2 ⟨rfl,S2,M,Q⟩;have uD:=ai M;have uM:=ai (Nt.o.trans Q);clear M Q)
     grind [intOf,Hid.o]
   obtain rfl:n=np:=by omega
   have HX:=ai (Z.o wr S' uR b);clear uR b;go_wp2
   first
    | exact HX.o
    | (refine b9 (v:=.tuple #[]) (by simp[results]) rfl ?_;exact HX.o)
 | true =>
  obtain⟨s,Lp,G,al⟩:=hR.slot hi S4;have an:eY k i=eW k i s k.aj.length:=by
   unfold eY eW;rw[hd,Lp,abM];rfl
  have Z:=ai (λV S' h1 h2=>fV.o V S' _ an.symm h1 h2);obtain⟨lb,cL,AL⟩:=y.o.toKr.sl ω;obtain⟨aL,b2,eL,_,ad⟩:=qy jH (λ_=>rfl) jm y.o.slots;have c2:=y.o.c2;rw[AL.v] at c2;have bP:aL=some (Ad lb 0):=by
   grind [ajD.v]
  subst bP;have Mj:Hid (Calls prog 301 #[.slice (some (Ad lb 0)) k.slots.length cL,.func (.func 302) #[] #[]] W λe w'=>e=.returned (I (s:Int))/\Below W.heap.size W w'):=(aeC k.slots (some (Ad lb 0)) cL W ad ω).mono λe w' ⟨hb,hh⟩=>by
   rcases hh with⟨_,L⟩ | ⟨m,hm,he,hy,L⟩
   . have:=L s G;have hz:=(hR.slt s G).zero al;rw[hz] at this;cases this
   have:=ahG hR hm hy L
   grind
  have dr:∀V:World,Below V.heap.size V V.drew:=λV=>(aN _ _).drew
  have ay:Hid (∀V U,Below W.heap.size W V->U=((V.setCell (Ad lb (s*2)) (.string (aM k.frames i).data)).setCell (Ad lb (s*2+1)) (I (aM k.frames i).refs)).drew->bR lo mb tt X U S { k with slots:=k.slots.set s ⟨(aM k.frames i).data,(aM k.frames i).refs⟩ }/\cO S W S U):=λV U hb hU=>by
   have m0:=y.o.below hb;have m1:=m0.asU AL.v G ⟨(aM k.frames i).data,(aM k.frames i).refs⟩;subst hU;exact⟨m1.1.below (dr _),((cO.below hb).trans m1.2).trans (cO.below (dr _))⟩
  have DW:Hid (∀V U,bR lo mb tt X V S { k with slots:=k.slots.set s ⟨(aM k.frames i).data,(aM k.frames i).refs⟩ }->cO S W S V->U=((((V.setCell (Ad fb (i*4)) (.string ⟨#[]⟩)).setCell (Ad fb (i*4+1)) (I 0)).setCell (Ad fb (i*4+2)) (.bool false)).setCell (Ad fb (i*4+3)) (.bool false)).drew->bR lo mb tt X U S (eW k i s 0)/\cO S W S U):=λV U hV hc hU=>by
   have m2:=hV.alR A.v (i:=i) hi fN;subst hU;exact⟨m2.1.below (dr _),(hc.trans m2.2).trans (cO.below (dr _))⟩
  have Qh:Hid (∀V S' n,n<k.aj.length->bR lo mb tt X V S' (eW k i s n)->cO S W S' V->∃pb cP ae ce lv ax nx cx,V.cell? (Ad pb (n*3))=some (.bool lv)/\V.cell? (Ad pb (n*3+1))=some (.slice ax nx cx)/\V.cell? (Ad pb (n*3+2))=some (.slice ae (ak k.aj n).bh.length ce)/\S'.vP=.slice (some (Ad pb 0)) k.aj.length cP /\
    ((eW k i s n=eW k i s (n+1)/\∀V',Below V.heap.size V V'->Calls prog 186 #[.slice ae (ak k.aj n).bh.length ce,.func (.func 300) #[] #[.pointer (some (Ad w.heap.size 0))]] V' λe w'=>e=.returned (I (-1))/\Below V'.heap.size V' w') \/
    ∃(m eb:Nat),m<(ak k.aj n).bh.length/\ae=some (Ad eb 0)/\eb<V.heap.size/\∀V',Below V.heap.size V V'->Calls prog 186 #[.slice ae (ak k.aj n).bh.length ce,.func (.func 300) #[] #[.pointer (some (Ad w.heap.size 0))]] V' λe w'=>e=.returned (I (m:Int))/\Below V'.heap.size V' w'/\(∃u1 u2,w'.cell? (Ad eb (m*3+1))=some (I u1)/\w'.cell? (Ad eb (m*3+2))=some (I u2))/\w'.frozen? (Ad eb (m*3+1))=false/\w'.frozen? (Ad eb (m*3+2))=false/\(∀U,U=((w'.setCell (Ad eb (m*3+1)) (I 2)).setCell (Ad eb (m*3+2)) (I (s:Int))).drew->bR lo mb tt X U S' (eW k i s (n+1))/\cO S' V S' U))):=λV S' n hn hV hc=>by
   have aG:(eW k i s n).aj.length=k.aj.length:=GQ _ _ _;have F:n<(eW k i s n).aj.length:=by omega
   have a6:ak (eW k i s n).aj n=ak k.aj n:=by
    show ak (uk _ _ _) n=_
    grind [RX]
   obtain⟨pb,cP,A'⟩:=hV.toKr.sp ω;obtain⟨ae,ce,XL,aF⟩:=hV.toKr.bh F;rw[a6] at XL aF;have a0:=A'.x0 n F;have a1:=A'.x1 n F;have a2:=A'.x2 n F;rw[XL] at a2;have hv:=A'.v;rw[aG] at hv;obtain⟨ax,cx,Ie,_,_⟩:=aZ (hV.each n F).aJ;rw[Ie] at a1;refine⟨pb,cP,ae,ce,_,ax,_,cx,a0,a1,a2,hv,?_⟩;have hx:V.heap[w.heap.size]?=some (.cells #[I (i:Int)] 3 (0,0)):=(yz.out S' V hc).1;have ah:∀V',Below V.heap.size V V'->_:=λV' hb'=>MV 300 (.inr (.inr rfl)) (mO (i:Int)) (ak k.aj n).bh ae ce w.heap.size V' (aF.below hb') (by grind [qg]) (λU e hU=>RZ (i:Int) e w.heap.size U (aA (aU (aU hx hb' (aQ hx)) hU (dV (aQ hx) hb'.size)) 0 rfl))
   by_cases hex:∃m,m<(ak k.aj n).bh.length/\mO (i:Int) (bc (ak k.aj n).bh m)=true
   . obtain⟨m,hm,hy⟩:=hex;obtain⟨eb,b0,aw⟩:∃eb,ae=some (Ad eb 0)/\eb<V.heap.size:=by
      obtain⟨ao,cap,e,_,hg⟩:=aZ (hV.each n F).aD
      grind
     subst b0;refine .inr ⟨m,eb,hm,rfl,aw,λV' hb'=>(ah V' hb').mono λe w' ⟨hb,hh⟩=>?_⟩;have ap:Below V.heap.size V w':=hb'.trans (hb.mono hb'.size);have he:e=.returned (I (m:Int)):=by
      grind [aac]
     have mw:=hV.below ap;have bb:m<(ak (eW k i s n).aj n).bh.length:=by grind
     have B:=(mw.each n F).aD;rw[a6,XL] at B;have g1:=gw bZ (λ_=>rfl) iD B m 1 hm ω;have g2:=gw bZ (λ_=>rfl) iD B m 2 hm ω;refine⟨he,hb,⟨_,_,g1,g2⟩,ie B _,ie B _,λU hU=>?_⟩;have e1:=mw.alN F XL bb (c:=1) ω (e:=⟨(bc (ak k.aj n).bh m).page,2,(bc (ak k.aj n).bh m).loc⟩) (u:=I 2) (by rw[a6];rfl);have b3:n<({ eW k i s n with aj:=(eW k i s n).aj.set n (eD (ak (eW k i s n).aj n) ((ak (eW k i s n).aj n).bh.set m ⟨(bc (ak k.aj n).bh m).page,2,(bc (ak k.aj n).bh m).loc⟩)) }:aT).aj.length:=by
      grind
     have ag:ak ((eW k i s n).aj.set n (eD (ak (eW k i s n).aj n) ((ak (eW k i s n).aj n).bh.set m ⟨(bc (ak k.aj n).bh m).page,2,(bc (ak k.aj n).bh m).loc⟩))) n=eD (ak k.aj n) ((ak k.aj n).bh.set m ⟨(bc (ak k.aj n).bh m).page,2,(bc (ak k.aj n).bh m).loc⟩):=by
      grind [jd]
     have e2:=e1.1.alN b3 XL (i:=m) (by
      show m<(ak (List.set _ _ _) n).bh.length;rw[ag];show m<(List.set _ _ _).length
      grind) (c:=2) ω (e:=⟨(bc (ak k.aj n).bh m).page,2,(s:Int)⟩) (u:=I (s:Int)) (by
      show _=(bZ (bc (ak (List.set _ _ _) n).bh m)).set 2 _;rw[ag];show _=(bZ ((List.set _ _ _).getD m iD)).set 2 _;rw[fh _ _ _ _ hm];rfl)
     have hK:({ ({ eW k i s n with aj:=(eW k i s n).aj.set n (eD (ak (eW k i s n).aj n) ((ak (eW k i s n).aj n).bh.set m ⟨(bc (ak k.aj n).bh m).page,2,(bc (ak k.aj n).bh m).loc⟩)) }:aT) with aj:=((eW k i s n).aj.set n (eD (ak (eW k i s n).aj n) ((ak (eW k i s n).aj n).bh.set m ⟨(bc (ak k.aj n).bh m).page,2,(bc (ak k.aj n).bh m).loc⟩))).set n (eD (ak ((eW k i s n).aj.set n (eD (ak (eW k i s n).aj n) ((ak (eW k i s n).aj n).bh.set m ⟨(bc (ak k.aj n).bh m).page,2,(bc (ak k.aj n).bh m).loc⟩))) n) ((ak ((eW k i s n).aj.set n (eD (ak (eW k i s n).aj n) ((ak (eW k i s n).aj n).bh.set m ⟨(bc (ak k.aj n).bh m).page,2,(bc (ak k.aj n).bh m).loc⟩))) n).bh.set m ⟨(bc (ak k.aj n).bh m).page,2,(s:Int)⟩)) }:aT)=eW k i s (n+1):=by
      grind [List.set_set,eW,OL,eD,lQ,Yy,aac]
     subst hU;have e3:=hK ▸ e2.1;exact⟨e3.below (dr _),(((cO.below ap).trans e1.2).trans e2.2).trans (cO.below (dr _))⟩
   have L:∀m,m<(ak k.aj n).bh.length->mO (i:Int) (bc (ak k.aj n).bh m)=false:=λm hm=>by
    grind
   refine .inl ⟨?_,λV' hb'=>(ah V' hb').mono λe w' ⟨hb,hh⟩=>?_⟩
   . unfold eW;congr 1;rw[<- OL _ _ _ hn];have e1:lQ (i:Int) s (ak k.aj n)=ak (uk (lQ i s) k.aj n) n:=by
      simp_all [RX,lQ,ab1]
     rw[e1];refine(rH tR _ _ Γ (λq hq=>?_)).symm
     grind [ak]
   grind
  obtain⟨pb,cP,AP⟩:=y.o.toKr.sp ω;have bz:=AP.v;have b8:=ai AP.v;have cb:k.aj.length<=4:=by omega
  have aa:=ai (λV K (hV:bR lo mb tt X V S K) (hK:K.frames=k.frames)=>(show(∀j,V.frozen? (Ad fb j)=false)/\V.cell? (Ad fb (i*4))=some (.string (aM k.frames i).data)/\V.cell? (Ad fb (i*4+1))=some (I (aM k.frames i).refs)/\V.cell? (Ad fb (i*4+2))=some (.bool (aM k.frames i).kE)/\V.cell? (Ad fb (i*4+3))=some (.bool (aM k.frames i).seen)/\V.cell? (Ad mb 1)=some (.slice (some (Ad fb 0)) k.frames.length cF)/\V.cell? (Ad mb 3)=some (.slice (some (Ad pb 0)) k.aj.length cP) from by
   obtain⟨bL,c5,A'⟩:=hV.toKr.fr Γ;have e:bL=fb:=by
    have:=A'.v
    grind [Em.v]
   subst e;have c1:=hV.c1
   grind [bR.c3,Em.v,Em.x0,Em.x1,Em.x2,Em.x3,Em.fz]))
  have bA:=AL.x0 s G;have aR:=AL.x1 s G;have ba:=AL.fz (s*2);have bS:=AL.fz (s*2+1);have cc:=AL.lt;have XI:=ai (λV (hV:bR lo mb tt X V S (eW k i s 0))=>(show V.cell? (Ad mb 3)=some (.slice (some (Ad pb 0)) k.aj.length cP) from by grind [bR.c3]));have q0:∀V,Below W.heap.size W V->V.cell? (Ad (w.heap.size+1) 0)=some (.string (aM k.frames i).data)/\V.cell? (Ad (w.heap.size+1) 1)=some (I (aM k.frames i).refs)/\V.cell? (Ad mb 2)=some (.slice (some (Ad lb 0)) k.slots.length cL)/\V.cell? (Ad lb (s*2))=some (.string (bI k.slots s).data)/\V.cell? (Ad lb (s*2+1))=some (I (bI k.slots s).refs)/\V.frozen? (Ad lb (s*2))=false/\V.frozen? (Ad lb (s*2+1))=false:=λV hb=>by
   have hF:=aU F0.o hb (aQ F0.o);have mV:=y.o.below hb;obtain⟨aP,b2,A'⟩:=mV.toKr.sl ω;have e:aP=lb:=by
    have:=A'.v
    grind
   subst e;have c2:=mV.c2;rw[AL.v] at c2;exact⟨aA hF 0 rfl,aA hF 1 rfl,c2,A'.x0 s G,A'.x1 s G,A'.fz _,A'.fz _⟩
  have a4:=ai q0;have bi:=ai (λV (hc:cO S W S V)=>(show V.cell? (Ad w.heap.size 0)=some (I (i:Int)) from aA (yz.out S V hc).1 0 rfl));obtain⟨FR,O⟩:=ex (aM k.frames i);rw[<- O] at x0 x1 x2 x3 J hd F0 ay DW aa a4;obtain⟨SR,af⟩:=ex (bI k.slots s);rw[<- af] at a4;rw[hd] at x2 J F0;have d2:W.cell? (Ad (w.heap.size+1) 2)=some (.bool true):=aA F0.o 2 rfl;have c7:(s:Int)<(k.slots.length:Int):=by omega
  have bt:Hid (∀S' V,cO S W S' V->S'.vP=S.vP):=λS' V hc=>hc.eP
  clear hW hP hR a9 A h S4 O fV yz hi Lp al AL AP ad eL q0 an bz af dr bA aR ba bS;go_enter func297,ntmps297;go_upto_region 1 with fail;go_region;rw[<- J.o];go_upto_region 10 with(go_at_call 301;refine Mj.o.mono ?_;rintro e w1 ⟨rfl,au⟩;have cD:=ai au;clear au);obtain⟨p0,p1,p2,p3,p4,p5,p6⟩:=a4.o w1 cD.o;obtain⟨U1,a8⟩:=ex (((w1.setCell (Ad lb (s*2)) (.string FR.data)).setCell (Ad lb (s*2+1)) (I FR.refs)).drew);have am:=ai a8;obtain⟨ac,aB⟩:=ay.o w1 U1 cD.o a8;have Nc:=ai ac;have a5:=ai aB;clear a8 ac aB;go_region;rw[<- am.o];obtain⟨g0,g1,g2,g3,g4,g5,g6⟩:=aa.o U1 _ Nc.o rfl;have bn:=g0 (i*4);have bs:=g0 (i*4+1);have bv:=g0 (i*4+2);have bp:=g0 (i*4+3);have g7:=bi.o U1 a5.o;obtain⟨U2,a7⟩:=ex (((((U1.setCell (Ad fb (i*4)) (.string ⟨#[]⟩)).setCell (Ad fb (i*4+1)) (I 0)).setCell (Ad fb (i*4+2)) (.bool false)).setCell (Ad fb (i*4+3)) (.bool false)).drew);have ab:=ai a7;obtain⟨M,Q⟩:=DW.o U1 U2 Nc.o a5.o a7;have uD:=ai M;have uM:=ai Q;have k3:=XI.o U2 M;clear a7 M Q p0 p1 p2 p3 p4 p5 p6 g0;go_upto_region 11 with fail;go_region;rw[<- ab.o];clear am ab Nc a5 cD bn bs bv bp g1 g2 g3 g4 g5 g6 g7;go_wp2;go_loopw [69] (λiv wr=>∃(n:Nat) (S':gJ),n<=k.aj.length/\iv=I (n:Int)/\bR lo mb tt X wr S' (eW k i s n)/\cO S W S' wr) (λiv _=>k.aj.length-(intOf iv).toNat)
  case atStart=>grind [Hid.o]
  case round =>
   obtain⟨n,S',hn,rfl,uR,b⟩:=hrel;by_cases hlt:n<k.aj.length
   . have bF:(n:Int)<(k.aj.length:Int):=by omega
     obtain⟨bm,cf,ae,ce,lv,ax,nx,cx,a0,a1,a2,az,aS⟩:=Qh.o wr S' n hlt uR b;have b4:bm=pb:=by
      rw[bt.o S' wr b,b8.o] at az
      grind
     subst b4;have bd:=ai uR;have Nt:=ai b;have HA:=ai ((aN wr.heap.size wr).alloc (aK _) (.cells #[.bool lv,.slice ax nx cx,.slice ae (ak k.aj n).bh.length ce] 99));have BX:=ai (bH wr #[.bool lv,.slice ax nx cx,.slice ae (ak k.aj n).bh.length ce] 99);have bx:∀eb,eb<wr.heap.size->¬wr.heap.size=eb:=λeb h=>by omega
     clear uR b az uD uM;rcases aS with⟨T,Y⟩ | ⟨m,eb,hm,b5,aw,Y⟩
     . have b6:=ai T;have WI:=ai Y;clear T Y;go_wp2_with (go_at_call 186;refine(WI.o _ HA.o).mono ?_;rintro e w2 ⟨rfl,N⟩;have iJ:=ai (HA.o.trans (N.mono HA.o.size));clear N);go_roundw
       case rel=>exact⟨n+1,S',ω,by go_num,b6.o ▸ bd.o.below iJ.o,Nt.o.trans (cO.below iJ.o)⟩
       grind [intOf]
     subst b5;have WI:=ai Y;have c6:(m:Int)<((ak k.aj n).bh.length:Int):=by omega
     have cd:(0:Int)<=(m:Int):=by omega
     clear Y bx;go_upto_region 17 with(go_at_call 186;refine(WI.o _ HA.o).mono ?_;rintro e w2 ⟨rfl,N,⟨u1,u2,t1,t2⟩,t3,t4,a3⟩;have Qb:=aU BX.o N (aQ BX.o);obtain⟨r0,r1,r2⟩:=zn Qb;have Aw:=ai a3;clear N a3 Qb);go_region;go_wp2;go_roundw
     case rel =>
      obtain⟨z1,z2⟩:=Aw.o _ rfl;exact⟨n+1,S',ω,by go_num,z1,Nt.o.trans z2⟩
     grind [intOf]
   obtain rfl:n=k.aj.length:=by omega
   have HX:=ai (Z.o wr S' uR b);clear uR b;go_wp2
   first
    | exact HX.o
    | (refine yu (v:=.tuple #[]) (by simp[results]) rfl ?_;exact HX.o)
open Go.RowKit
structure om (w:World) (S:gJ) (ah:Option Addr) (held:List Int):Prop where
 has:eX jb 1 0 w ah held
 no:∀b off,ah=some (Ad b off)->S.lab b=.no
 lt:∀b off,ah=some (Ad b off)->b<w.heap.size
theorem om.ch {w w':World} {S S':gJ} {ah:Option Addr} {held:List Int} (h:om w S ah held) (hc:cO S w S' w'):om w' S' ah held :=
 ⟨Z6.kp h.has hc.kp (λb off e z=>z (h.no b off e)),λb off e=>hc.no b (h.lt b off e) (h.no b off e),λb off e=>dV (h.lt b off e) hc.kp.size⟩
theorem ahD {held:List Int} {k:aT} {i:Nat} (h:(held.contains (i:Int) || (aM k.frames i).seen)=false) (hi:i<k.frames.length):nE held k i=k:=by
 rw[Ua] at h;unfold nE;rw[aB Γ];have:k.frames.set i (FJ (aM k.frames i))=k.frames:=by
  refine rH fN _ _ dE (λm hm=>?_);rw[dE] at hm;by_cases c:i=m
  . subst c;rw[fh _ _ _ _ hm];have e:=h.2;unfold FJ;show(⟨(aM k.frames i).data,(aM k.frames i).refs,(aM k.frames i).kE,false⟩:nA)=aM k.frames i;rw[<- e]
  grind
 rw[this]
theorem abL {held:List Int} {k:aT} (hh:0<=k.hand/\k.hand<k.frames.length):({ nE held k k.hand.toNat with hand:=jS (nE held k k.hand.toNat) }:aT)=kr held k:=by
 grind [nE,kr,jS]
theorem MQ {lo mb:Nat} {tt:TypeId} {X:List Value} (k:aT) (S:gJ) (w:World) (held:List Int) (ah:Option Addr) (ch:Nat) (h:bR lo mb tt X w S k) (hR:aW k) (hl:held.length<=2) (hH:om w S ah held) :
  Calls prog 292 #[.pointer (some (Ad mb 0)),.slice ah held.length ch] w (fZ lo mb tt X w S (I ((bK k held).1:Int)) (bK k held).2):=by
 have a1:=hR.c;obtain⟨fb,cF,A⟩:=h.toKr.fr ω;obtain⟨aF,aj,eF,_,N⟩:=qy jI (λ_=>rfl) fN h.frames;have ae:aF=some (Ad fb 0):=by
  have:=eF;rw[A.v] at this
  grind
 subst ae;have c1:=h.c1;rw[A.v] at c1;have K:=aeD k.frames (some (Ad fb 0)) cF w N ω;by_cases hex:∃i,i<k.frames.length/\ve (aM k.frames i)=true/\∀j,j<i->ve (aM k.frames j)=false
 . obtain⟨i,hi,hy,a3⟩:=hex;have hf:=ahH hR hi hy a3;have hg:bK k held=(i,k):=by grind [bK]
   have Mj:Hid (Calls prog 295 #[.slice (some (Ad fb 0)) k.frames.length cF,.func (.func 216) #[] #[]] w λe w'=>e=.returned (I (i:Int))/\Below w.heap.size w w'):=K.mono λe w' ⟨hb,hh⟩=>by
    grind
   have fV:Hid (∀V,Below w.heap.size w V->fZ lo mb tt X w S (I ((bK k held).1:Int)) (bK k held).2 (.returned (I (i:Int))) V):=λV hb=>by
    rw[hg];exact⟨rfl,S,h.below hb,cO.below hb⟩
   generalize fZ lo mb tt X w S (I ((bK k held).1:Int)) (bK k held).2=P at fV ⊢;have al:(0:Int)<=(i:Int):=by omega
   clear K hg hf a3 hy h hR a1 A eF N hH;go_enter func292,ntmps292;go_wp2_with (go_at_call 295;refine Mj.o.mono ?_;rintro e w1 ⟨rfl,y⟩;have cD:=ai y;clear y);exact fV.o _ cD.o
 have L:∀j,j<k.frames.length->ve (aM k.frames j)=false:=λj=>by
  induction j using Nat.strongRecOn with
  | _ j ih =>
   grind
 obtain⟨hf,U⟩:=ahF hR L;obtain⟨T,hT,O,J⟩:=Mc held hl hR U;have Lh:=Mb held T 69 k ω O J;have hg:bK k held=((bN held T k).hand.toNat,{ eY (bN held T k) (bN held T k).hand.toNat with hand:=jS (bN held T k) }):=by
  grind [bK]
 have Mj:Hid (Calls prog 295 #[.slice (some (Ad fb 0)) k.frames.length cF,.func (.func 216) #[] #[]] w λe w'=>e=.returned (I (-1))/\Below w.heap.size w w'):=K.mono λe w' ⟨hb,hh⟩=>by
  grind
 have TK:=KW held hR U;have Qe:∀n,(bN held n k).frames.length=k.frames.length:=λn=>(TK n).kept.nf
 have R:∀n,0<=(bN held n k).hand/\(bN held n k).hand<(bN held n k).frames.length:=λn=>(TK n).right.hand
 have Y:Hid (∀V S' n,bR lo mb tt X V S' (bN held n k)->cO S w S' V->Calls prog 296 #[.pointer (some (Ad mb 0)),I (bN held n k).hand,.slice ah held.length ch] V (nH lo mb tt X V S' (.bool (pO held (bN held n k))) (nE held (bN held n k) (bN held n k).hand.toNat))):=λV S' n hV hc=>by
  have e:(((bN held n k).hand.toNat:Nat):Int)=(bN held n k).hand:=by grind
  have:=Ym (bN held n k) S' V (bN held n k).hand.toNat held ah ch hV Γ (hH.ch hc).has ω;rw[e] at this;exact this
 have a9:Hid (∀V S' n,bR lo mb tt X V S' (nE held (bN held n k) (bN held n k).hand.toNat)->Calls prog 251 #[.pointer (some (Ad mb 0))] V (nH lo mb tt X V S' (.tuple #[]) (bN held (n+1) k))):=λV S' n hV=>by
  have am:(nE held (bN held n k) (bN held n k).hand.toNat).frames.length=(bN held n k).frames.length/\(nE held (bN held n k) (bN held n k).hand.toNat).hand=(bN held n k).hand:=by
   unfold nE
   grind
  have:=Il (nE held (bN held n k) (bN held n k).hand.toNat) S' V hV Γ Γ;rw[abL (R n)] at this;exact this
 have a2:Hid (∀V S',bR lo mb tt X V S' (nE held (bN held T k) (bN held T k).hand.toNat)->bR lo mb tt X V S' (bN held T k)):=λV S' hV=>by
  have e:(((bN held T k).hand.toNat:Nat):Int)=(bN held T k).hand:=by grind
  rw[ahD (by rw[e];exact J) Γ] at hV;exact hV
 have a0:Hid (∀V S',bR lo mb tt X V S' (bN held T k)->Calls prog 297 #[.pointer (some (Ad mb 0)),I (bN held T k).hand] V (fZ lo mb tt X V S' (.tuple #[]) (eY (bN held T k) (bN held T k).hand.toNat))):=λV S' hV=>by
  have e:(((bN held T k).hand.toNat:Nat):Int)=(bN held T k).hand:=by grind
  have:=Tg (bN held T k) S' V (bN held T k).hand.toNat hV (TK T).right Γ ((TK T).full _ Γ);rw[e] at this;exact this
 have aa:=Iq (bN held T k) (bN held T k).hand.toNat
 have XE:Hid (∀V S',bR lo mb tt X V S' (eY (bN held T k) (bN held T k).hand.toNat)->Calls prog 251 #[.pointer (some (Ad mb 0))] V (nH lo mb tt X V S' (.tuple #[]) { eY (bN held T k) (bN held T k).hand.toNat with hand:=jS (bN held T k) })):=λV S' hV=>by
  have ag:(eY (bN held T k) (bN held T k).hand.toNat).frames.length=(bN held T k).frames.length:=by grind
  have:=Il _ S' V hV Γ Γ;have e:jS (eY (bN held T k) (bN held T k).hand.toNat)=jS (bN held T k):=by
   unfold jS
   grind
  rw[e] at this;exact this
 have a4:Hid (∀V S' n,bR lo mb tt X V S' (bN held n k)->V.cell? (Ad mb 4)=some (I (bN held n k).hand)):=λV S' n hV=>hV.c4
 have ab:=ai (λn=>R n);have a6:=ai O;have a8:=ai J;have fV:Hid (∀V S',bR lo mb tt X V S' { eY (bN held T k) (bN held T k).hand.toNat with hand:=jS (bN held T k) }->cO S w S' V->fZ lo mb tt X w S (I ((bK k held).1:Int)) (bK k held).2 (.returned (I (bN held T k).hand)) V):=λV S' h1 h2=>by
  rw[hg];refine⟨?_,S',h1,h2⟩
  grind
 generalize fZ lo mb tt X w S (I ((bK k held).1:Int)) (bK k held).2=P at fV ⊢;have tV:=ai h;clear K hg hf L hex h hR a1 A eF N hH TK Qe R O J Lh U aa hl;go_enter func292,ntmps292;go_wp2_with (go_at_call 295;refine Mj.o.mono ?_;rintro e w1 ⟨rfl,y⟩;have cD:=ai y;clear y);go_loopg [23] T (λg _ wr=>∃(n:Nat) (S':gJ),n<=T/\g=T-n/\bR lo mb tt X wr S' (bN held n k)/\cO S w S' wr)
 case atStart=>exact⟨0,S,ω,ω,tV.o.below cD.o,cO.below cD.o⟩
 case round =>
  obtain⟨n,S',hn,Z,uR,Q⟩:=hrel;have d4:=a4.o wr S' n uR;have b:=ai (Y.o wr S' n uR Q);have W:=ai (λV=>a9.o V S' n);have Nt:=ai Q;have ac:=ai Z;clear uR Q Z tV;by_cases hlt:n<T
  . have hp:=a6.o n hlt;rw[hp] at b;generalize (bN held n k).hand=hd at d4 b W;clear hp;go_wp2_with (first
     | (go_at_call 296;refine b.o.mono ?_;rintro e w2 ⟨rfl,F,G⟩;have uD:=ai F;have uM:=ai (Nt.o.trans G);clear F G)
     | (go_at_call 251;refine(W.o _ uD.o).mono ?_;rintro e w3 ⟨rfl,q,B⟩;have Ez:=ai q;have XI:=ai (uM.o.trans B);clear q B))
    go_roundg (T-(n+1))
    case measure=>have:=ac.o;omega
    case rel=>exact⟨n+1,S',ω,ω,Ez.o,XI.o⟩
  obtain rfl:n=T:=by omega
  have hp:=a8.o;rw[hp] at b;generalize bN held n k=IT at d4 b a2 a0 XE fV;have ad:Hid (∀V S',bR lo mb tt X V S' IT->V.cell? (Ad mb 4)=some (I IT.hand)):=λV S' hV=>hV.c4
  clear hp a9 W Y a4 a6 a8 ab;go_wp2_with (first
   | (go_at_call 296;refine b.o.mono ?_;rintro e w2 ⟨rfl,F,G⟩;have M:=a2.o _ _ F;have uD:=ai M;have uM:=ai (Nt.o.trans G);have d5:=ad.o w2 S' M;clear F G M)
   | (go_at_call 297;refine(a0.o _ _ uD.o).mono ?_;rintro e w3 ⟨rfl,S3,q,B⟩;have Ez:=ai q;have XI:=ai (uM.o.trans B);clear q B)
   | (go_at_call 251;refine(XE.o _ _ Ez.o).mono ?_;rintro e w4 ⟨rfl,a7,a5⟩;have WG:=ai a7;have af:=ai (XI.o.trans a5);clear a7 a5))
  exact fV.o _ _ WG.o af.o
open Go.RowKit
section
variable {P:Program} {ops:Array Oper} {Q:Exit->Act->World->Prop} {md:Region.Mode} {S:World->Prop} {z:Nat}
def tW (P:Program) (md:Region.Mode) (ops:Array Oper) (Q:Exit->Act->World->Prop) (S:World->Prop) (z:Nat):Nat->Array Bool->Act->World->Prop
 | 0,l,a,w=>Region.ready md ops l=[]/\Q .normal a w
 | n+1,l,a,w=>(Region.ready md ops l=[]->Q .normal a w)/\∀i∈Region.ready md ops l,wpOp P ops Q i (λa' w'=>(i≠z->S w')/\tW P md ops Q S z n (l.setIfInBounds i true) a' w') a w
theorem aas:∀(n:Nat) (l:Array Bool) (a:Act) (w:World),tW P md ops Q S z n l a w->wpAny P md ops Q n l a w
 | 0,_,_,_,h=>h
 | n+1,_,_,_,h=>⟨h.1,λi hi=>wpOp_mono (λa' w' g=>aas n _ a' w' g.2) (h.2 i hi)⟩
theorem afW {l:Array Bool} {i:Nat} (h:l.getD i true=false):l.getD i false=false:=by
 grind
theorem anB {i:Nat} {oi:Oper} {v:Value} (hi:ops[i]?=some oi) (as6:∀(j:Nat) (o:Oper) cs b,ops[j]?=some o->o.op≠.select cs b)
  (hQ:∀c a w,Q (.panic c) (a.put oi.dst v) w->Q (.panic c) a w) (hz:∀oz,ops[z]?=some oz->∃e∈oz.after,Region.binds md e=true/\e.on=i) :
  ∀(n:Nat) (l:Array Bool) (a:Act) (w:World),(∀j oj,ops[j]?=some oj->j≠i->l.getD j true=false->(∀e∈oj.after,Region.binds md e=true->e.on≠i)->oi.apart ops oj=true) ->
   i∈Region.ready md ops l->YieldsIf P ops S oi v a->S w->tW P md ops Q S z n (l.setIfInBounds i true) (a.put oi.dst v) w->tW P md ops Q S z (n+1) l a w:=by
 intro n;induction n with
 | zero =>
  intro l a w _ hr hy hS H;refine⟨λg=>absurd hr Γ,λj hj=>?_⟩;by_cases c:j=i
  . subst c;exact hy.wpOp hi hS ⟨λ_=>hS,H⟩
  have g:=ready_mono hj c;rw[H.1] at g;exact absurd g Ci
 | succ n ih =>
  intro l a w hf hr hy hS H;refine⟨λg=>absurd hr Γ,λj hj=>?_⟩;by_cases c:j=i
  . subst c;exact hy.wpOp hi hS ⟨λ_=>hS,H⟩
  obtain⟨hu,oj,q,B⟩:=mem_ready.1 hj;have F:=afW (mem_ready.1 hr).1;have A:∀e∈oj.after,Region.binds md e=true->e.on≠i:=λe he hb g=>by
   grind
  have y:j≠z:=λg=>by
   grind
  have h2:=wpOp_putIf q (hf j oj q c hu A) (λcs b=>as6 i oi cs b hi) (λcs b=>as6 j oj cs b q) hQ hy (H.2 j (ready_mono hj c));refine wpOp_mono (λa' w' g=>⟨g.2.1,ih (l.setIfInBounds j true) a' w' (λk ok hk C2 hun hn=>hf k ok hk C2 ?_ hn) (ready_mono hr (Ne.symm c)) g.1 (g.2.1 y) ?_⟩) h2
  . by_cases d:j=k
    . grind
    rw[getD_set_ne true d] at hun;exact hun
  rw[Array.setIfInBounds_comm _ _ c];exact g.2.2
def FU (md:Region.Mode) (ops:Array Oper) (z i:Nat):Bool:=match ops[z]? with
 | none=>false
 | some o=>o.after.any (λe=>Region.binds md e&&e.on==i)
theorem Za {i:Nat} (h:FU md ops z i=true):∀oz,ops[z]?=some oz->∃e∈oz.after,Region.binds md e=true/\e.on=i:=λoz ho=>by
 grind [FU]
theorem acT {i:Nat} {oi:Oper} {v:Value} {n:Nat} {l:Array Bool} {a:Act} {w:World} (hi:ops[i]?=some oi)
  (hs:Region.noSelect ops=true) (hf:Region.free md ops l i=true) (hr:(Region.ready md ops l).contains i=true) (hw:FU md ops z i=true)
  (hQ:∀c a w,Q (.panic c) (a.put oi.dst v) w->Q (.panic c) a w) (hy:YieldsIf P ops S oi v a) (hS:S w)
  (h:tW P md ops Q S z n (l.setIfInBounds i true) (a.put oi.dst v) w):tW P md ops Q S z (n+1) l a w :=
 anB hi (Region.noSelect_spec hs) hQ (Za hw) n l a w (Region.free_spec hi hf) Γ hy hS h
theorem Dz (i:Nat) {oi:Oper} {n:Nat} {l:Array Bool} {a:Act} {w:World} (hS:S w) (v:Value) (hy:∀V,S V->(execOp a.eval oi).run P V=.ok (.value v) V)
  (h:tW P md ops Q S z n (l.setIfInBounds i true) (a.put oi.dst v) w) (hi:ops[i]?=some oi:=by rfl) (hs:Region.noSelect ops=true:=by kernel_rfl) (hf:Region.free md ops l i=true:=by kernel_rfl) (hr:(Region.ready md ops l).contains i=true:=by kernel_rfl) (hw:FU md ops z i=true:=by kernel_rfl)
  (hwt:Region.wanted oi (yielded ops a.tmps)=true:=by rfl) (hQ:∀c a w,Q (.panic c) (a.put oi.dst v) w->Q (.panic c) a w:=by exact fun _ _ _ h=>h):tW P md ops Q S z (n+1) l a w :=
 acT hi hs hf hr hw hQ (Or.inl ⟨hwt,hy⟩) hS h
theorem rN (i:Nat) {C:World->Prop} {oi:Oper} {v:Value} {n:Nat} {l:Array Bool} {a:Act} {w:World} (hS:S w) (h:tW P md ops Q S z n (l.setIfInBounds i true) (a.put oi.dst v) w)
  (hi:ops[i]?=some oi:=by rfl) (hc:∀V,S V->C V:=by exact fun _ h=>h) (hy:∀V,C V->(execOp a.eval oi).run P V=.ok (.value v) V:=by(intro V h;(repeat obtain⟨_,h⟩:=h);go_simp;try with_reducible rfl)) (hs:Region.noSelect ops=true:=by kernel_rfl) (hf:Region.free md ops l i=true:=by kernel_rfl) (hr:(Region.ready md ops l).contains i=true:=by kernel_rfl) (hw:FU md ops z i=true:=by kernel_rfl)
  (hwt:Region.wanted oi (yielded ops a.tmps)=true:=by rfl) (hQ:∀c a w,Q (.panic c) (a.put oi.dst v) w->Q (.panic c) a w:=by exact fun _ _ _ h=>h):tW P md ops Q S z (n+1) l a w :=
 acT hi hs hf hr hw hQ (Or.inl ⟨hwt,λV h=>hy V (hc V h)⟩) hS h
def dW (P:Program) (md:Region.Mode) (ops:Array Oper) (Q:Exit->Act->World->Prop) (S:World->Prop) (z n:Nat) (l:Array Bool) (a:Act) (w:World) (rs:List Nat):Prop:=∀i∈rs,wpOp P ops Q i (λa' w'=>(i≠z->S w')/\tW P md ops Q S z n (l.setIfInBounds i true) a' w') a w
theorem dW.nil {n:Nat} {l:Array Bool} {a:Act} {w:World}:dW P md ops Q S z n l a w []:=λ_ h=>absurd h Ci
theorem dW.cons {n:Nat} {l:Array Bool} {a:Act} {w:World} {i:Nat} {o:Oper} {rs:List Nat} (ho:ops[i]?=some o)
  (h:∀K':Act->World->Prop,Shut (∀a w,(i≠z->S w)->tW P md ops Q S z n (l.setIfInBounds i true) a w->K' a w)->if Region.wanted o (yielded ops a.tmps)=true then Oper.wp P o a w K' Q else K' (a.put o.dst undef) w)
  (hs:dW P md ops Q S z n l a w rs):dW P md ops Q S z n l a w (i::rs):=λj hj=>by
 rcases qZ.1 hj with g | g
 . subst g;exact wpOp_step ho (λK' hK=>h K' (λa w h1 h2=>hK a w ⟨h1,h2⟩))
 exact hs j g
theorem oQ {rs:List Nat} {n:Nat} {l:Array Bool} {a:Act} {w:World} (hr:Region.ready md ops l=rs) (hne:rs≠[]) (h:dW P md ops Q S z n l a w rs):tW P md ops Q S z (n+1) l a w:=⟨λg=>absurd (hr ▸ g) hne,hr ▸ h⟩
theorem Ho {l:Array Bool} {a:Act} {w:World} (hr:Region.ready md ops l=[]) (h:Q .normal a w):∀n,tW P md ops Q S z n l a w
 | 0=>⟨hr,h⟩
 | _+1=>⟨λ_=>h,by rw[hr];exact λ_ g=>absurd g Ci⟩
theorem zT {id:Nat} {a:Act} {w:World} (hm:P.follows .mixedOrders=true) (h:tW P .any ops Q S z ops.size (Array.replicate ops.size false) a w.drew):(Code.region id ops true).wp P Q a w:=wp_region_any hm (aas _ _ _ _ h)
end
end Go.Proofs.YtlgoihmkgaaemaaGreat
