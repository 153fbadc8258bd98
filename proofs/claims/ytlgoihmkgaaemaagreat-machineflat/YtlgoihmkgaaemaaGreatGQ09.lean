import Derived.Test.YtlgoihmkgaaemaaGreatGQ08
import Derived.Deep.RegionHeld3
set_option maxHeartbeats 20000000
set_option linter.unusedVariables false
set_option maxRecDepth 100000
set_option linter.unusedSimpArgs false
namespace Go.Proofs.YtlgoihmkgaaemaaGreat
open Go.RowKit Tryz
structure wP (w:World) (r:Option Nat) (w':World) (r':Option Nat):Prop where
 size:w.heap.size<=w'.heap.size
 block:∀b,b<w.heap.size->some b≠r->w'.heap[b]?=w.heap[b]?
 row:r'=r\/∃g,r'=some g/\w.heap.size<=g
theorem wP.refl (w:World) (r:Option Nat):wP w r w r:=⟨aK _,λ_ _ _=>rfl,.inl rfl⟩
variable {w w':World} {F:Nat->cX}
theorem wP.trans {w1 w2:World} {r r1 r2:Option Nat} (h:wP w r w1 r1) (g:wP w1 r1 w2 r2):wP w r w2 r2:=by
 have hs:=h.size;refine⟨eJ h.size g.size,λb hb hr=>?_,?_⟩
 . grind [block,row]
 grind [row]
theorem wP.bQ (h:Below w.heap.size w w') (r:Option Nat):wP w r w' r:=⟨h.size,λb hb _=>h.block b hb,.inl rfl⟩
theorem wP.aoe {r:Option Nat} {g:Nat} (h:w.grownBy w' r) (hs:w.heap.size<=w'.heap.size) (hat:r=some g\/g=w.heap.size):wP w r w' (some g) :=
 ⟨hs,λb hb hr=>h.block b hb hr,by
  grind⟩
theorem wP.keep {r r':Option Nat} {b:Nat} {o:Obj} (h:wP w r w' r') (hb:w.heap[b]?=some o) (hr:some b≠r):w'.heap[b]?=some o:=(h.block b (aQ hb) hr).trans hb
def Vq (rb:Option Nat) (w:World) (ao:Option Addr) (l:List lu):Prop:=0<l.length->∃b off,ao=some (Ad b off)/\b<w.heap.size/\some b≠rb/\OC w b off l
theorem Vq.fr {rb rb':Option Nat} {ao:Option Addr} {l:List lu} (h:Vq rb w ao l) (hf:wP w rb w' rb'):OH w' ao l:=λhl=>by
 obtain⟨b,off,h1,h2,h3,h4⟩:=h hl;exact⟨b,off,h1,dV h2 hf.size,λi hi=>by
  obtain⟨c0,c1⟩:=h4 i hi
  grind [World.cell?_of_block,wP.block]⟩
theorem ahl {base:Nat} {v:Value} {l:List lu} (h:w.ownsRow base 282 2 v l.length (l.flatMap I6)) (rb:Option Nat) (Lg:∀q,rb=some q->q<base):∃ao cap,v=.slice ao l.length cap/\Vq rb w ao l:=by
 rcases h.2 with⟨hv,h0⟩ | ⟨g,cap,A,hv,F,hg,G,B,y,b⟩
 . exact⟨none,0,Γ,λhl=>ω⟩
 subst hv;refine⟨some (Ad g 0),cap,rfl,λhl=>⟨g,0,rfl,aQ hg,λe=>Γ,λk hk=>?_⟩⟩;rw[nj];have hh:∀j,j<2->w.cell? (Ad g (k*2+j))=(I6 (Ah l k))[j]?:=λj hj=>(h.cellAt _ ω).trans (uT I6 2 (λ_=>rfl) ahr l k j hk hj)
 exact⟨hh 0 ω,hh 1 ω⟩
theorem Tb (l:List fw) (ao:Option Addr) (cap:Nat) (w:World) (h:Oi l ao w) (hl7:l.length<=7):Calls prog 66 #[.slice ao l.length cap] w (Og (oD l) w):=by
 have HO:=aq h;clear h;obtain⟨R,hR⟩:=ex (oD l);have HR:Hid (R=lN l l.length):=hR;rw[<- hR];clear hR;obtain⟨i0,aG,aE,aS,az⟩:=kI ZT;go_enter func66,ntmps66;go_wp2;go_loopw [15,4] (λi v wr=>∃(a:Nat) (E:List yM) (hs:List bC),a<=l.length/\i=I a/\lN l a=some E/\hs.map eZ=E/\hs.length<=a*1600/\Ee w.heap.size wr v hs/\Below w.heap.size w wr) (λi _ _=>l.length-(intOf i).toNat)
 case atStart=>exact⟨0,[],[],ω,rfl,rfl,rfl,ξ,Ee.nil _ _,aN _ _⟩
 case round =>
  obtain⟨a,E,hs,ck,rfl,hE,B,b5,y,hb⟩:=hrel;have HE:=aq hE;have a7:=aq B;have Tu:=aq y;have wQ:=aq hb;by_cases hlt:a<l.length
  . have a4:=aq (HO.o.below hb);obtain⟨b,off,bd,bp,di⟩:=a4.o.has ω;obtain⟨⟨c0,c1,c2,c3,c4,c5,c6⟩,a2⟩:=di a hlt;have J:=HO.o.base a hlt;have Lh:=HO.o.chk a hlt;have M:Hid (∀V,Below wr.heap.size wr V->Calls prog 112 #[.agg (iB (bE l a)),.slice ao l.length cap] V (Oh (uK l (bE l a)) V)):=λV hb=>Qz l ao cap (bE l a) V (a4.o.below hb) (a2.below hb) Lh (HO.o.fit a hlt) J.1 J.2
    have pK:Hid (uK l (bE l a)=none->R=none):=λg=>by
     rw[HR.o];refine wW (k:=a+1) ?_ l.length ω;simp only[lN,HE.o,g]
    have T:Hid (∀ps,uK l (bE l a)=some ps->lN l (a+1)=some (E++ov (bE l a) ps (bE l a).i.fA.length)):=λps g=>by simp only[lN,HE.o,g]
    have QU:Hid (∀ps,uK l (bE l a)=some ps->ps.length<=16/\∀j,j<ps.length->abD (Ah ps j)):=λps g=>by
     have h1:=yF g;have h2:=(pX Lh).2.2.2.2;exact⟨ω,Vu Lh J.1 J.2 _ ps (aK _) g⟩
    obtain⟨b2,cj,bn,ca,IQ⟩:=HO.o.has ω;have a5:=(IQ a hlt).2;generalize bE l a=o at a5 c0 c1 c2 c3 c4 c5 c6 a2 J Lh M pK T QU;have cd:=pX Lh;have YQ:=aq (mz Lh);simp only[iB] at M;obtain⟨bs,a1,ac,bi,b0⟩:=a5.fA ω;have bz:=aq b0;rw[ac] at M c2;clear di hb hE B y a2 b0 ac a5 IQ bn ca;subst bd;have iQ:=aq (wQ.o.alloc wQ.o.size (.cells #[.string o.i.name,.slice o.a.an o.i.needs.length o.a.cn,.slice (some (Ad bs a1)) o.i.fA.length o.a.cg,.slice o.a.ay o.i.syms.length o.a.cy,.slice o.a.ar o.i.lV.length o.a.cr,I o.i.entry,I o.base] 131));have Qi:=aq ((aN wr.heap.size wr).alloc (aK _) (.cells #[.string o.i.name,.slice o.a.an o.i.needs.length o.a.cn,.slice (some (Ad bs a1)) o.i.fA.length o.a.cg,.slice o.a.ay o.i.syms.length o.a.cy,.slice o.a.ar o.i.lV.length o.a.cr,I o.i.entry,I o.base] 131));have BO:=aq (bH wr #[.string o.i.name,.slice o.a.an o.i.needs.length o.a.cn,.slice (some (Ad bs a1)) o.i.fA.length o.a.cg,.slice o.a.ay o.i.syms.length o.a.cy,.slice o.a.ar o.i.lV.length o.a.cr,I o.i.entry,I o.base] 131);have Qj:=aq (M.o _ Qi.o);cases e:uK l o with
    | none =>
     have bt:=aq (pK.o e);rw[e] at Qj;clear e pK T QU;go_wp2_with (go_at_call 112;refine Qj.o.mono ?_;rintro e w1 ⟨hb,rfl⟩;have cD:=aq (iQ.o.trans (hb.mono iQ.o.size));clear hb)
     go_ret2
     show Og R w _ _;rw[bt.o];exact⟨cD.o,rfl⟩
    | some ps =>
     have c8:=aq (T.o ps e);obtain⟨ce,am⟩:=QU.o ps e;have cb:=aq am;rw[e] at Qj;clear e pK T QU am;have Lg:∀q,u4.ownBlock=some q->q<wr.heap.size:=λq hq=>(Tu.o.row.lt q hq).2
     have L:=aq Lg;clear Lg;go_wp2_with (go_at_call 112;refine Qj.o.mono ?_;rintro e w1 ⟨hb,v7,rfl,aR⟩;have cD:=aq (iQ.o.trans (hb.mono iQ.o.size));have aC:=aq (Qi.o.trans (hb.mono Qi.o.size));have Fp:=aq aR;have a8:=aq (aU BO.o hb (aQ BO.o));have g2:=aA a8.o 2 rfl;clear hb aR);obtain⟨ap,cp,bP,a9⟩:=ahl Fp.o u4.ownBlock (λq hq=>by have:=L.o q hq;simp;omega);subst bP;have ae:=aq a9;have b1:=aq (Tu.o.below aC.o);have bx:=wQ.o.size;obtain⟨rb,Lg⟩:=ex u4.ownBlock;have Pw:=aq Lg;rw[<- Lg] at ae L;clear a9 Fp Qj M Qi iQ Tu aC g2 BO c0 c1 c2 c3 c4 c5 c6 Lg a4 bp;generalize wr.heap.size=ob at a8 L bx ⊢;have bv:Hid (some ob≠rb):=λe=>by have:=L.o ob e.symm;omega
     clear wQ L;go_loopw [31,4] (λi v wm=>∃(k:Nat) (hs':List bC),k<=o.i.fA.length/\i=I k/\hs'.map eZ=E++ov o ps k/\hs'.length<=a*1600+k*255/\Ee w.heap.size wm v hs'/\Below w.heap.size w wm/\wP w1 rb wm v.ownBlock) (λi _ _=>o.i.fA.length-(intOf i).toNat)
     case atStart=>exact⟨0,hs,ω,rfl,by rw[a7.o];simp[ov],ω,b1.o,cD.o,by rw[Pw.o];exact wP.refl _ _⟩
     case round =>
      obtain⟨k,hs',hk,rfl,B,Z,y,hb,Rl⟩:=hrel;have XE:=aq B;have Fm:=aq y;have U:=aq hb;have b4:=aq Rl;clear b1 Pw b5 a7;by_cases hlk:k<o.i.fA.length
      . obtain⟨c0,c1,c2,c3,c4⟩:=yB hb bi bz.o k hlk;have Bl:=YQ.o k hlk;have zB:Hid (ov o ps (k+1)=ov o ps k++sQ o ps (cQ o.i.fA k) (cQ o.i.fA k).aD.toNat):=rfl;generalize cQ o.i.fA k=s at c0 c1 c2 c3 c4 Bl zB;obtain⟨P,hP⟩:∃P:Nat,s.aD=(P:Int):=⟨s.aD.toNat,ω⟩;obtain⟨pg,pn,dt,wb,xe⟩:=s;simp only at c0 c1 c2 c3 c4 Bl zB hP;subst hP;rw[jW] at zB;have G:∀q,u4.ownBlock=some q->q<wr.heap.size:=λq hq=>(Fm.o.row.lt q hq).2
        have X:=aq G;have iQ:=aq (U.o.alloc U.o.size (.cells #[I pg,I P,.string dt,.bool wb,.bool xe] 166));have Qi:=aq ((aN wr.heap.size wr).alloc (aK _) (.cells #[I pg,I P,.string dt,.bool wb,.bool xe] 166));have BS:=aq (bH wr #[I pg,I P,.string dt,.bool wb,.bool xe] 166);have IM:=aq (b4.o.trans (wP.bQ Qi.o u4.ownBlock));have a3:=aq (Fm.o.below Qi.o);clear G B y hb Rl;go_wp2;obtain⟨vb,G⟩:=ex u4.ownBlock;have b3:=aq G;rw[<- G] at X;generalize wr.alloc (.cells #[I pg,I P,.string dt,.bool wb,.bool xe] 166)=WA at iQ Qi BS IM a3 ⊢;generalize wr.heap.size=sb at BS X ⊢;have b9:Hid (some sb≠vb):=λe=>by have:=X.o sb e.symm;omega
        clear G Qi X Fm U b4 c0 c1 c2 c3 c4;have O:∀n:Nat,n<P->0<=o.base+pg+(n:Int)/\o.base+pg+(n:Int)<=3000:=λn hn=>by omega
        have bA:=aq O;have bb:Hid (∀n:Nat,n<P->∀V,Calls prog 113 #[.agg #[I pg,I (P:Int),.string dt,.bool wb,.bool xe],I n] V λe w'=>e=.returned (.string (pL ⟨pg,P,dt,wb,xe⟩ n))/\Below V.heap.size V w'):=λn hn V=>X5 ⟨pg,P,dt,wb,xe⟩ n V ω (by show dt.size<=100000;omega)
        clear O;go_loopw [37,4] (λi v wi=>∃(n:Nat) (A:List bC),n<=P/\i=I n/\A.map eZ=(E++ov o ps k)++sQ o ps ⟨pg,P,dt,wb,xe⟩ n/\A.length<=a*1600+k*255+n/\Ee w.heap.size wi v A/\Below w.heap.size w wi/\wP w1 rb wi v.ownBlock/\wP WA vb wi v.ownBlock) (λi _ _=>P-(intOf i).toNat)
        case atStart=>exact⟨0,hs',ω,rfl,by rw[XE.o];simp[sQ],ω,a3.o,iQ.o,IM.o,by rw[b3.o];exact wP.refl _ _⟩
        case round =>
         obtain⟨n,A,hn,rfl,aF,ci,y,hb,Rl,Lp⟩:=hrel;have av:=aq aF;have a0:=aq y;have Tw:=aq hb;have aL:=aq Rl;have c9:=aq Lp;have cc:=hb.size;clear a3 iQ IM b3 XE Z aF y hb;by_cases hnP:n<P
         . have b6:=aq (Rl.keep a8.o bv.o);have Q:=aq (Lp.keep BS.o b9.o);have y6:=aA b6.o 6 rfl;have z0:=aA Q.o 0 rfl;have z1:=aA Q.o 1 rfl;have z2:=aA Q.o 2 rfl;have z3:=aA Q.o 3 rfl;have z4:=aA Q.o 4 rfl;have bL:=aq (ae.o.fr Rl);have O:=bA.o n hnP;have bS:=aq (Ye o ps ⟨pg,P,dt,wb,xe⟩ n);have al:=aq (bb.o n hnP);have ad:Hid (∀V,Below wr.heap.size wr V->Calls prog 114 #[I (o.base+pg+(n:Int)),.slice ap ps.length cp] V λe w'=>(∃v,e=.returned v/\w'.ownsRow V.heap.size 226 2 v (iM (o.base+pg+(n:Int)) ps).length ((iM (o.base+pg+(n:Int)) ps).flatMap FH))/\Below V.heap.size V w'):=λV hb=>Vl _ ps ap cp V O.1 O.2 (bL.o.below hb) ω cb.o
           have Ir:Hid (abu o ps ⟨pg,P,dt,wb,xe⟩ n=⟨o.base+pg+(n:Int),pL ⟨pg,P,dt,wb,xe⟩ n,iM (o.base+pg+(n:Int)) ps⟩):=rfl;obtain⟨D,hD⟩:=ex (pL ⟨pg,P,dt,wb,xe⟩ n);generalize iM (o.base+pg+(n:Int)) ps=F at ad Ir;rw[<- hD] at al Ir;have cl:A.length<=100000:=by omega
           have Y:=a0.o.row.lt;have ab:=aq Y;clear hD Rl Lp Y;obtain⟨i0,aG,aE,aS,az⟩:=kI ZT;go_wp2_with (first
            | (go_at_call 113;refine(al.o _).mono ?_;rintro e w2 ⟨rfl,hb⟩;have W:=aq hb;clear hb)
            | (go_at_call 114;refine(ad.o _ W.o).mono ?_;rintro e w3 ⟨⟨v8,rfl,aj⟩,hb⟩;obtain⟨af,cf,b8,aB⟩:=aks aj u4.ownBlock (λq hq=>by have:=(ab.o q hq).2;have:=W.o.size;omega);subst b8;have Y5:=aq aB;have a6:=aq (W.o.trans (hb.mono W.o.size));have CF:=aq (a6.o.alloc a6.o.size (.cells #[I (o.base+pg+(n:Int)),.string D,.slice af F.length cf] 145));have aP:=aq (a0.o.below CF.o);have bF:=aq (Y5.o.below ((aN w3.heap.size w3).alloc (aK _) (.cells #[I (o.base+pg+(n:Int)),.string D,.slice af F.length cf] 145)));have c7:=aq (bH w3 #[I (o.base+pg+(n:Int)),.string D,.slice af F.length cf] 145);have co:w.heap.size<=w3.heap.size:=eJ cc a6.o.size;clear hb aj aB)
            | (at_builtin;refine Kz _ rfl _ _ 23 rfl w.heap.size 145 i0 (.agg #[I 0,.string ⟨#[]⟩,Nl]) 3 48 underlying23 aG aE aS az rfl Δ _ _ _ rfl aP.o.row (Ad w3.heap.size 0) 1 1 [I (o.base+pg+(n:Int)),.string D,.slice af F.length cf] rfl rfl (xY c7.o) (by intro u hu;simp at hu;rcases hu with rfl | rfl | rfl <;> rfl) Δ (by unfold maxLen;omega) ω (by simp;omega) (w3.heap.size+1) ξ ?_;intro gg cq w4 au K aa cm;have M7:=aq au;have N:=aq K;have bm:=aq aa;clear au K aa))
           have ag:u4.ownBlock=some gg\/gg=(w3.alloc (.cells #[I (o.base+pg+(n:Int)),.string D,.slice af F.length cf] 145)).heap.size:=by rw[fY];exact bm.o
           have aw:=aq ((wP.bQ CF.o u4.ownBlock).trans (wP.aoe N.o N.o.size ag));go_roundw
           case rel=>exact⟨n+1,A++[⟨o.base+pg+(n:Int),D,F,af,cf⟩],ω,by go_num,by rw[bS.o,Ir.o,tF,av.o,uH];rfl,by rw[ft];simp;omega,(Ee.more (x:=⟨o.base+pg+(n:Int),D,F,af,cf⟩) aP.o.fix bF.o M7.o N.o N.o.size ag),((Tw.o.trans (CF.o.mono Tw.o.size)).grown N.o (by simp;omega) (λq hq=>by have:=(ab.o q hq).1;omega)),aL.o.trans aw.o,c9.o.trans aw.o⟩
           case measure=>simp[intOf];omega
         obtain rfl:n=P:=by omega
         clear Rl Lp;go_wp2;go_roundw
         case rel=>exact⟨k+1,A,ω,by go_num,by rw[zB.o,av.o,uH],ω,a0.o,Tw.o,aL.o⟩
         case measure=>simp[intOf];omega
      obtain rfl:k=o.i.fA.length:=by omega
      clear B y hb Rl;go_wp2;go_roundw
      case rel=>exact⟨a+1,_,hs',ω,by go_num,c8.o,XE.o,ω,Fm.o,U.o⟩
      case measure=>simp[intOf];omega
  obtain rfl:a=l.length:=by omega
  have HX:Hid (R=some E):=by rw[HR.o];omega
  obtain⟨ah,ch,hv,hh,hc⟩:=Tu.o.has;subst hv;have ba:=aq hh;clear hE B y hb hh;go_wp2
  go_ret2
  show Og R w _ _;rw[HX.o];exact⟨wQ.o,hs,ah,ch,a7.o,rfl,ba.o,hc⟩
open Go.RowKit
def KP (o:fw) (L:List aX) (s:pV):List aX:=(dZ L (o.base+s.page) s.aD (sP s)).1
def Df (o:fw) (L:List aX):Nat->List aX
 | 0=>L
 | k+1=>KP o (Df o L k) (cQ o.i.fA k)
def Br (l:List fw):Nat->List aX
 | 0=>[]
 | k+1=>Df (bE l k) (Br l k) (bE l k).i.fA.length
def GL (a:aX):aX:=⟨a.page,a.aD,a.jP,false⟩
def rz (L:List aX):Nat->List aX
 | 0=>L
 | k+1=>(rz L k).set k (GL (bw (rz L k) k))
def qT (l:List fw):List aX:=(Br l l.length).map GL
theorem VF (o:fw) (L:List aX) (h:dQ L):∀k,dQ (Df o L k)
 | 0=>h
 | k+1=>Xl _ _ _ _
theorem ML (l:List fw):∀k,dQ (Br l k)
 | 0=>DL
 | k+1=>VF _ _ (ML l k) _
theorem Bq (L:List aX):∀k,(rz L k).length=L.length
 | 0=>rfl
 | k+1=>by simp only[rz,dE,Bq L k]
theorem Oy (L:List aX):∀k,k<=L.length->∀j,(rz L k)[j]?=if j<k then L[j]?.map GL else L[j]?
 | 0,_,j=>by rfl
 | k+1,hk,j=>by
  have ih:=Oy L k ω
  grind [bw,rz]
theorem abB (L:List aX):rz L L.length=L.map GL:=by
 apply Af
 grind [Oy]
theorem FI (b:Bool):∀(L:List aX) (k:Nat),k<L.length->(cW L).set (k*4+3) (.bool b)=cW (L.set k ⟨(bw L k).page,(bw L k).aD,(bw L k).jP,b⟩)
 | [],k,h=>by simp at h
 | a::r,0,h=>rfl
 | a::r,k+1,h=>by
  have ih:=FI b r k Γ;show(qN a++cW r).set _ _=qN a++cW (r.set k _);rw[Ea _ _ (by simp[qN];omega)];congr 1;have e:(k+1)*4+3-(qN a).length=k*4+3:=by grind [qN]
  rw[e,ih];rfl
theorem Cm {lo:Nat} {v:Value} {l:List aX} (h:eB lo w v l) (hb:Below w.heap.size w w'):eB lo w' v l:=tL h hb
theorem Cl {lo:Nat} {v:Value} {l:List aX} (h:eB lo w v l):∃ao cap,v=.slice ao l.length cap/\(0<l.length->∃g,ao=some (Ad g 0)):=by
 rcases h.2 with⟨hv,h0⟩ | ⟨g,cap,b,hv,_⟩
 . grind
 grind
theorem Vn (l:List fw) (ao:Option Addr) (cap:Nat) (w:World) (h:Oi l ao w) (hl7:l.length<=7) :
  Calls prog 67 #[.slice ao l.length cap] w λe w'=>∃r,e=.returned r/\eB w.heap.size w' r (qT l)/\Below w.heap.size w w':=by
 have HO:=aq h;clear h;go_enter func67,ntmps67;go_wp2;go_loopw [11,3] (λi v wr=>∃(a:Nat),a<=l.length/\i=I a/\eB w.heap.size wr v (Br l a)/\Below w.heap.size w wr) (λi _ _=>l.length-(intOf i).toNat)
 case atStart=>exact⟨0,ω,rfl,eB.nil _ _,aN _ _⟩
 case round =>
  obtain⟨a,am,rfl,y,hb⟩:=hrel;have A:=aq y;have wQ:=aq hb;by_cases hlt:a<l.length
  . have a1:=aq (HO.o.below hb);obtain⟨b,off,aa,ae,di⟩:=a1.o.has ω;obtain⟨⟨c0,c1,c2,c3,c4,c5,c6⟩,ad⟩:=di a hlt;have a4:=HO.o.base a hlt;have Lh:=HO.o.chk a hlt;obtain⟨b2,aj,ac,a9,IQ⟩:=HO.o.has ω;have N:=(IQ a hlt).2;have zB:Hid (Br l (a+1)=Df (bE l a) (Br l a) (bE l a).i.fA.length):=rfl;generalize bE l a=o at c0 c1 c2 c3 c4 c5 c6 N a4 Lh zB;have IM:=aq (ML l a);generalize Br l a=L at A zB IM;have ag:=pX Lh;have YQ:=aq (mz Lh);obtain⟨bs,B,a0,ab,Y⟩:=N.fA ω;have a5:=aq Y;rw[a0] at c2;clear di hb y ad Y a0 N IQ ac a9 Lh;subst aa;have iQ:=aq (wQ.o.alloc wQ.o.size (.cells #[.string o.i.name,.slice o.a.an o.i.needs.length o.a.cn,.slice (some (Ad bs B)) o.i.fA.length o.a.cg,.slice o.a.ay o.i.syms.length o.a.cy,.slice o.a.ar o.i.lV.length o.a.cr,I o.i.entry,I o.base] 131));have Qi:=aq ((aN wr.heap.size wr).alloc (aK _) (.cells #[.string o.i.name,.slice o.a.an o.i.needs.length o.a.cn,.slice (some (Ad bs B)) o.i.fA.length o.a.cg,.slice o.a.ay o.i.syms.length o.a.cy,.slice o.a.ar o.i.lV.length o.a.cr,I o.i.entry,I o.base] 131));have BO:=aq (bH wr #[.string o.i.name,.slice o.a.an o.i.needs.length o.a.cn,.slice (some (Ad bs B)) o.i.fA.length o.a.cg,.slice o.a.ay o.i.syms.length o.a.cy,.slice o.a.ar o.i.lV.length o.a.cr,I o.i.entry,I o.base] 131);have R:=aq (Cm A.o Qi.o);go_wp2;generalize wr.alloc (.cells #[.string o.i.name,.slice o.a.an o.i.needs.length o.a.cn,.slice (some (Ad bs B)) o.i.fA.length o.a.cg,.slice o.a.ay o.i.syms.length o.a.cy,.slice o.a.ar o.i.lV.length o.a.cr,I o.i.entry,I o.base] 131)=W1 at iQ Qi BO R ⊢;generalize wr.heap.size=ob at BO ⊢;clear Qi A wQ a1 c0 c1 c2 c3 c4 c5 c6 ae;go_loopw [19,3] (λi v wm=>∃(k:Nat),k<=o.i.fA.length/\i=I k/\eB w.heap.size wm v (Df o L k)/\Below w.heap.size w wm/\Below W1.heap.size W1 wm) (λi _ _=>o.i.fA.length-(intOf i).toNat)
    case atStart=>exact⟨0,ω,rfl,R.o,iQ.o,aN _ _⟩
    case round =>
     obtain⟨k,hk,rfl,y,hb,J⟩:=hrel;have A:=aq y;have F:=aq hb;have cD:=aq J;clear R iQ;by_cases hlk:k<o.i.fA.length
     . obtain⟨c0,c1,c2,c3,c4⟩:=yB hb ab a5.o k hlk;have Bl:=YQ.o k hlk;have XG:=aq (VF o L IM.o k);have K:Hid (Df o L (k+1)=KP o (Df o L k) (cQ o.i.fA k)):=rfl;generalize cQ o.i.fA k=s at c0 c1 c2 c3 c4 Bl K;generalize Df o L k=L2 at A XG K;obtain⟨pg,pn,dt,wb,q⟩:=s;simp only at c0 c1 c2 c3 c4 Bl;have iQ:=aq (F.o.alloc F.o.size (.cells #[I pg,I pn,.string dt,.bool wb,.bool q] 166));have Qi:=aq ((aN wr.heap.size wr).alloc (aK _) (.cells #[I pg,I pn,.string dt,.bool wb,.bool q] 166));have BS:=aq (bH wr #[I pg,I pn,.string dt,.bool wb,.bool q] 166);have M:=aq (bu (aU BO.o cD.o (aQ BO.o)) (.cells #[I pg,I pn,.string dt,.bool wb,.bool q] 166));have Q:=aq (cD.o.alloc cD.o.size (.cells #[I pg,I pn,.string dt,.bool wb,.bool q] 166));have a2:=aq (Cm A.o Qi.o);clear y hb J;go_wp2;generalize wr.alloc (.cells #[I pg,I pn,.string dt,.bool wb,.bool q] 166)=WA at iQ BS M Q a2 ⊢;generalize wr.heap.size=sb at BS ⊢;clear Qi A F cD c0 c1 c2 c3 c4;have HS:Hid (∀V,Below WA.heap.size WA V->V.cell? (Ad ob 6)=some (I o.base)/\V.cell? (Ad sb 0)=some (I pg)/\V.cell? (Ad sb 1)=some (I pn)/\V.cell? (Ad sb 2)=some (.string dt)/\V.cell? (Ad sb 3)=some (.bool wb)/\V.cell? (Ad sb 4)=some (.bool q)):=λV hb=>by
        have h1:=aU M.o hb (aQ M.o);have h2:=aU BS.o hb (aQ BS.o);exact⟨aA h1 6 rfl,aA h2 0 rfl,aA h2 1 rfl,aA h2 2 rfl,aA h2 3 rfl,aA h2 4 rfl⟩
       have Fp:Hid (∀V,Calls prog 116 #[.agg #[I pg,I pn,.string dt,.bool wb,.bool q]] V λe w'=>e=.returned (I (sP ⟨pg,pn,dt,wb,q⟩))/\Below V.heap.size V w'):=λV=>aec ⟨pg,pn,dt,wb,q⟩ V
       have QT:Hid (∀V,Below WA.heap.size WA V->Calls prog 115 #[u3,I (o.base+pg),I pn,I (sP ⟨pg,pn,dt,wb,q⟩)] V λe w'=>∃r,e=.returned (.tuple #[r,I (dZ L2 (o.base+pg) pn (sP ⟨pg,pn,dt,wb,q⟩)).2])/\eB V.heap.size w' r (dZ L2 (o.base+pg) pn (sP ⟨pg,pn,dt,wb,q⟩)).1/\Below V.heap.size V w'):=λV hb=>Np L2 u3 (o.base+pg) pn _ V (Cm a2.o hb).has XG.o (by unfold Ko;omega) (by unfold Ko;omega)
       have O:Hid (KP o L2 ⟨pg,pn,dt,wb,q⟩=(dZ L2 (o.base+pg) pn (sP ⟨pg,pn,dt,wb,q⟩)).1):=rfl;generalize sP ⟨pg,pn,dt,wb,q⟩=PR at Fp QT O;generalize dZ L2 (o.base+pg) pn PR=MN at QT O;have af:IntKind.i64.wrap (o.base+pg)=o.base+pg:=sJ _ ω;have tV:=aq (aN WA.heap.size WA).drew;have pK:=aq (HS.o _ tV.o)
       go_region_held3 (λV=>V.cell? (Ad ob 6)=some (I o.base)/\V.cell? (Ad sb 0)=some (I pg)/\V.cell? (Ad sb 1)=some (I pn)/\V.cell? (Ad sb 2)=some (.string dt)/\V.cell? (Ad sb 3)=some (.bool wb)/\V.cell? (Ad sb 4)=some (.bool q)) (first | exact Gh.o | exact Mf.o | exact pK.o)
        (first
         | (go_at_call 116;refine(Fp.o _).mono ?_;rintro e w2 ⟨rfl,hb⟩;have uD:=aq (tV.o.trans (hb.mono tV.o.size));have Mf:=aq (HS.o _ uD.o);clear hb)
         | (go_at_call 115;refine(QT.o _ uD.o).mono ?_;rintro e w3 ⟨v8,rfl,T,hb⟩;have Ez:=aq (uD.o.trans (hb.mono uD.o.size));have Gh:=aq (HS.o _ Ez.o);have a8:=aq T;clear hb T))
       go_wp2;go_roundw
       case rel=>exact⟨k+1,ω,by go_num,by rw[K.o,O.o];exact a8.o.mono (eJ iQ.o.size uD.o.size),iQ.o.trans (Ez.o.mono iQ.o.size),Q.o.trans (Ez.o.mono Q.o.size)⟩
       case measure=>simp[intOf];omega
     obtain rfl:k=o.i.fA.length:=by omega
     clear y hb J;go_wp2;go_roundw
     case rel=>exact⟨a+1,ω,by go_num,by rw[zB.o];exact A.o,F.o⟩
     case measure=>simp[intOf];omega
  obtain rfl:a=l.length:=by omega
  have Z:Hid (qT l=rz (Br l l.length) (Br l l.length).length):=(abB _).symm;have IM:=aq (ML l l.length);generalize Br l l.length=L at A Z IM;have al:=IM.o.2;obtain⟨ar,cr,hv,hg⟩:=Cl A.o;subst hv;have HG:=aq hg;clear y hb hg IM;go_wp2;go_loopw [41] (λi wr=>∃(k:Nat),k<=L.length/\i=I k/\eB w.heap.size wr (.slice ar L.length cr) (rz L k)/\Below w.heap.size w wr) (λi _=>L.length-(intOf i).toNat)
  case atStart=>exact⟨0,ω,rfl,A.o,wQ.o⟩
  case round =>
   obtain⟨k,hk,rfl,y,hb⟩:=hrel;have X:=aq y;have U:=aq hb;clear A wQ y hb;by_cases hlt:k<L.length
   . obtain⟨g,hg⟩:=HG.o ω;subst hg;have W:=Bq L k;have G:Hid (wr.ownsRow w.heap.size 139 4 (.slice (some (Ad g 0)) L.length cr) L.length (cW (rz L k))):=by
      have h:=X.o;unfold eB at h;rw[W] at h;exact h
     have a7:=aq (G.o.stored (k*4+3) (.bool false));have zB:Hid (cW (rz L (k+1))=(cW (rz L k)).set (k*4+3) (.bool false)):=(FI false (rz L k) k ω).symm;have a3:=Bq L (k+1);have a6:=aq a3;have ah:=G.o.lt g rfl;have q3:=(G.o.cellAt (k*4+3) ω).trans (oG (rz L k) k 3 ω ω);have qf:=G.o.frozenAt (k*4+3);clear W a3;go_wp2;go_roundw
     case rel=>exact⟨k+1,ω,by go_num,by unfold eB;rw[a6.o,zB.o];exact a7.o.1,U.o.setCell (by simp;omega) _⟩
     case measure=>simp[intOf];omega
   obtain rfl:k=L.length:=by omega
   go_wp2;go_ret;exact⟨_,rfl,by rw[Z.o];exact X.o,U.o⟩
def sU (x:fy):List Value:=(gI x.a x.i).toList
def jk (all:List fy):Int :=
 if 7<all.length then 2
 else if pN all=0 then
  match sS all all.length 0 [0] with
  | none=>6
  | some ix=>if 256<eQ all 1 ix then 3 else
   match oD (bM all 1 ix) with
   | none=>7
   | some _=>0
 else pN all
theorem LK {l:List fy} (h:pN l=0):(∀k,k<l.length->gQ (bV l k).i=0)/\ry (iz l)=true:=by
 grind [pN,LH]
theorem aeo {all:List fy} (hc:∀j,j<all.length->gQ (bV all j).i=0) (h7:all.length<=7) {ix:List Nat} (ho:nk all ix) (k:Nat) (hk:k<(bM all 1 ix).length):1<=(bE (bM all 1 ix) k).base/\(bE (bM all 1 ix) k).base<=2000:=by
 rw[cC] at hk;rw[(iU all ix 1 k hk).2.2];have h:=pd all hc (ix.take k) 1 (λj hj=>ho.lt j (KC hj));have h2:=ho.le
 grind
theorem akx:(prog.info? 56).map (λi=>(i.zero,i.size,i.bytes))=some (some (.agg #[.string ⟨#[]⟩,Nl,Nl,Nl,Nl,I 0]),6,120):=by rfl
theorem aeg {b off:Nat} {l:List fy} (h:OE w b off l):∀j u,(l.flatMap sU)[j]?=some u->w.cell? (((Ad b off):Addr).add j)=some u:=λj u hj=>by
 obtain⟨k,r,hr,rfl⟩:∃k r,r<6/\j=k*6+r:=⟨j/6,j%6,ω,ω⟩;have hlen:∀l:List fy,(l.flatMap sU).length=l.length*6:=λl=>by
  induction l with
  | nil=>rfl
  | cons a r ih=>rw[o8,ft,ih,tG];show 6+_=_;omega
 have hk:k<l.length:=by
  grind
 rw[uT sU 6 (λ_=>rfl) abw l k r hk hr] at hj;obtain⟨⟨c0,c1,c2,c3,c4,c5⟩,_⟩:=h k hk;rw[Cj,<- Cg]
 match r,hr with
 | 0,_=>exact c0.trans hj
 | 1,_=>exact c1.trans hj
 | 2,_=>exact c2.trans hj
 | 3,_=>exact c3.trans hj
 | 4,_=>exact c4.trans hj
 | 5,_=>exact c5.trans hj
theorem akr {base:Nat} {g cap:Nat} {l:List fy} (h:w.ownsRow base 56 6 (.slice (some (Ad g 0)) l.length cap) l.length (l.flatMap sU)) (hg:g<w.heap.size) (hi:∀k,k<l.length->l9 w (bV l k).a (bV l k).i) :
  Cu w (some (Ad g 0)) l:=λhl=>by
 refine⟨g,0,rfl,hg,λk hk=>?_⟩;rw[nj];have hh:∀j,j<6->w.cell? (Ad g (k*6+j))=(sU (bV l k))[j]?:=λj hj=>(h.cellAt _ ω).trans (uT sU 6 (λ_=>rfl) abw l k j hk hj)
 exact⟨⟨hh 0 ω,hh 1 ω,hh 2 ω,hh 3 ω,hh 4 ω,hh 5 ω⟩,hi k hk⟩
theorem IJ {ops:Array Oper} {rest:List Oper} {o:Oper} {a:Act} {Q:Exit->Act->World->Prop} (hgd:o.guard=none) (s x:Operand)
  (ho:o.op=.call { callee:=.builtin .append,args:=#[s,x],argTypes:=#[57,57] })
  (base:Nat) (p:fy) (g0:Nat) (hs:a.eval s=.slice (some (Ad g0 0)) 1 1) (hown:w.ownsRow base 56 6 (.slice (some (Ad g0 0)) 1 1) 1 (sU p))
  (ao:Option Addr) (c:Nat) (libs:List fy) (hx:a.eval x=.slice ao libs.length c) (di:Cu w ao libs) (h6:libs.length<=6) (hbase:base<=w.heap.size)
  (h:∀g cap w',w'.ownsRow base 56 6 (.slice (some (Ad g 0)) (libs.length+1) cap) (libs.length+1) ((p::libs).flatMap sU)->w.grownBy w' (some g0)->g<w'.heap.size->wpList prog ops Q rest (a.put o.dst (.slice (some (Ad g 0)) (libs.length+1) cap)) w'):wpList prog ops Q (o::rest) a w:=by
 obtain⟨i0,A,J,G,M⟩:=kI akx;by_cases h0:0<libs.length
 . obtain⟨b,off,rfl,hb,hl⟩:=di h0;have F:∀l:List fy,(l.flatMap sU).length=l.length*6:=λl=>by
    induction l with
    | nil=>rfl
    | cons a r ih=>rw[o8,ft,ih,tG];show 6+_=_;omega
   have q:∀u∈libs.flatMap sU,u.oneCell'=true:=λu hu=>by
    obtain⟨y,_,hy⟩:=vO.1 hu;simp only[sU,gI] at hy;simp at hy;rcases hy with rfl | rfl | rfl | rfl | rfl | rfl <;> rfl
   refine Kz w hgd s x 57 ho base 56 i0 (.agg #[.string ⟨#[]⟩,Nl,Nl,Nl,Nl,I 0]) 6 120 underlying57 A J G M rfl Δ _ 1 _ hs hown (Ad b off) libs.length c (libs.flatMap sU) hx (F _) (aeg hl) q h0 (by grind [maxLen]) ω hbase _ rfl ?_;intro g cap w' h2 h3 _ h5;have e:1+libs.length=libs.length+1:=TN _ _;rw[e] at h2 ⊢;exact h g cap w' h2 h3 h5
 have e0:libs=[]:=o9 ω;subst e0;have N:g0<w.heap.size:=(hown.lt g0 rfl).2;refine wpList_plain hgd λK hK=>?_
 have B:Src prog i0.size 57 (.slice ao 0 c) 0 [] w:=⟨.inl ⟨_,underlying57⟩,λw'=>ρ,by cases ao <;> simp[Builtin.firstCells,loadCells,loadCellsFrom],by cases ao <;> simp[Builtin.firstCells,loadCells,loadCellsFrom],ξ,ξ⟩;have hr:=run_append_nothing (P:=prog) w 57 57 o.type 56 i0 underlying57 A (some (Ad g0 0)) 1 1 (aK _) (.slice ao 0 c) B;have L:a.eval x=.slice ao 0 c:=hx;unfold Oper.wp execOp;simp only[ho,resolve,invoke,builtin,Sem.run_bind,Sem.run_pure,aaN,List.map_toArray,Cf,List.map_nil,hs,L,hr];refine hK _ _ (h g0 1 w ?_ ⟨rfl,rfl,rfl,aK _,λ_ _ _=>rfl⟩ N)
 grind
theorem Rx {l:List fw} {n:Nat} {E:List yM} (h:lN l n=some E) {ps:List lu} (hp:uK l (bE l n)=some ps):lN l (n+1)=some (E++ov (bE l n) ps (bE l n).i.fA.length):=by
 simp only[lN];rw[h];simp only;rw[hp]
theorem aed {l:List fw} {o:fw} {k:Nat} {ps:List lu} (h:jQ l o k=some ps) {t:Int} (ht:vW l o (ji o.i.lV k).name=some t):jQ l o (k+1)=some (ps++[KO o (ji o.i.lV k) t]):=by
 simp only[jQ];rw[h];simp only;rw[ht]
def amx (o:fw) (s:pV):aX:=⟨o.base+s.page,s.aD,sP s,false⟩
def abC (o:fw) (F:Nat->cX):Nat->Nat->cX
 | 0=>F
 | k+1=>jV (abC o F k) (amx o (cQ o.i.fA k)) (o.base+(cQ o.i.fA k).page+(cQ o.i.fA k).aD)
def I8 (l:List fw):Nat->Nat->cX
 | 0=>λ_=>iL
 | k+1=>abC (bE l k) (I8 l k) (bE l k).i.fA.length
theorem aem (s:pV):0<=sP s/\sP s<=3:=by
 unfold sP;split <;> split <;> omega
theorem aeh {i:sO} (hc:gQ i=0):C9 i.fA=true:=by
 unfold gQ at hc;split at hc
 . simp at hc
 split at hc
 . simp at hc
 split at hc
 . simp at hc
 split at hc
 . simp at hc
 rename_i h
 have h':N7 i=true:=by simpa using h
 unfold N7 at h';simp only[cK] at h';exact h'.1
theorem Vw (l:List pV):∀n,sN l n=true->∀k,k+1<n->(cQ l k).page+(cQ l k).aD<=(cQ l (k+1)).page
 | 0,_,k,hk=>by omega
 | n+1,h,k,hk=>by
  simp only[sN,cK] at h;by_cases e:k+1=n
  . subst e;have:=h.2;unfold U6 at this;simpa using this
  exact Vw l n h.1 k ω
theorem GF {i:sO} (hc:gQ i=0):∀(m k:Nat),k<m->m<i.fA.length->(cQ i.fA k).page+(cQ i.fA k).aD<=(cQ i.fA m).page
 | 0,k,h,_=>by omega
 | m+1,k,h,hm=>by
  have ho:=Vw i.fA i.fA.length (aeh hc) m hm;by_cases e:k=m
  . subst e;exact ho
  have ih:=GF hc m k ω ω;have hb:=mz hc m ω;omega
theorem Oo {i:sO} (hc:gQ i=0) (k:Nat) (hk:k<i.fA.length):(cQ i.fA k).page+(cQ i.fA k).aD<=(tO i).page+(tO i).aD:=by
 unfold tO;by_cases e:k=i.fA.length-1
 . subst e;exact vM _
 have h:=GF hc (i.fA.length-1) k ω ω;have hb:=mz hc (i.fA.length-1) ω;omega
def pW (F:Nat->cX):Nat->cX:=λn=>⟨(F n).m,(F n).p,(F n).m⟩
structure MO (F:Nat->cX) (B:Int):Prop where
 z:∀n,(F n).z=false
 fine:oL F
 past:∀n:Nat,B<=(n:Int)->F n=iL
theorem Om (h:oL F):oL (pW F):=by
 refine⟨h.zero,λn hn=>?_,h.jP⟩;have:=h.none n hn;unfold pW;rw[this];rfl
theorem QA (h:oL F) (hp:∀n:Nat,256<=(n:Int)->F n=iL):iK (ic F)=F:=by
 funext n;have h1:=DM (ic F) _ (ic F) rfl (Kt F h) n;have h2:=(AO F h 256 (aK _)).look n;unfold iK;rw[<- h1];have h3:wK (ic F) n=if n<256 then F n else iL:=h2
 rw[h3];by_cases c:n<256
 . rw[aC c]
 rw[aB c,hp n ω]
theorem ahv {B:Int} (h:MO F B) (a:aX) (hz:a.zero=false) (hp:1<=a.page) (hq:0<=a.jP/\a.jP<=3) (t:Int) (hB:B<=t):MO (jV F a t) t:=by
 refine⟨λn=>?_,⟨?_,λn hn=>?_,λn=>?_⟩,λn hn=>?_⟩
 . unfold jV;split
   . exact hz
   exact h.z n
 . unfold jV;rw[aB ω];exact h.fine.zero
 . unfold jV at hn ⊢;split at hn
   . cases hn
   rename_i c
   rw[aB c];exact h.fine.none n hn
 . unfold jV;split
   . exact hq
   exact h.fine.jP n
 unfold jV;rw[aB ω];exact h.past n ω
theorem aeq {B:Int} (h:MO F B) (hB6:B<=256) (page aD q:Int) (h1:1<=page) (h2:1<=aD) (h3:page+aD<=256) (hq:0<=q/\q<=3) (hB:B<=page) :
  (dZ (ic (pW F)) page aD q).1=ic (pW (jV F ⟨page,aD,q,false⟩ (page+aD))):=by
 have hf:=Om h.fine;have Fq:∀n:Nat,256<=(n:Int)->pW F n=iL:=λn hn=>by
  unfold pW;rw[h.past n ω];rfl
 have b:∀n:Nat,page<=(n:Int)->pW F n=iL:=λn hn=>by
  unfold pW;rw[h.past n ω];rfl
 have A:=QA hf Fq;have Lh:=pJ _ hf;have G:(gW page aD&&ni q)=true:=by
  rw[(sH page aD).2 ⟨h1,h2,ω⟩];unfold ni;rw[fD hq];rfl
 have y:km (pW F) (qW q) page.toNat aD.toNat=0:=by
  refine BG _ _ _ _ (λk hk1 hk2=>?_);rw[b k ω];rfl
 unfold dZ jU;rw[aC Lh,aC G,A,aC y];show ic _=ic _;congr 1;funext n;unfold gV pW jV;simp only;by_cases c:page<=(n:Int)/\(n:Int)<page+aD
 . rw[aC c,aC c];have:=h.past n ω;rw[this];rfl
 rw[aB c,aB c]
theorem akB (G:List aX) (i:Nat) (h:i<G.length):bw (G.map GL) i=GL (bw G i):=by
 unfold bw;rw[cB,cB,vQ,fF h];rfl
theorem aeu (G:List aX):(zy G).map GL=zy (G.map GL):=by
 unfold zy;rw[Ny,fI];by_cases h:0<G.length
 . rw[akB G _ ω];rfl
 have e:G=[]:=o9 ω;subst e;rfl
theorem LC {F:Nat->cX} (hz:∀n,(F n).z=false):∀k,(cT (pW F) k).map GL=cT F k
 | 0=>rfl
 | k+1=>by
  have ih:=LC hz k;have hl:sM (pW F k) (ik (pW F) k)=sM (F k) (ik F k):=by
   have e1:∀x y:cX,x.z=false->y.z=false->sM ⟨x.m,x.p,x.m⟩ ⟨y.m,y.p,y.m⟩=sM x y:=λx y hx hy=>by
    unfold sM;simp only;rw[hx,hy];cases x.m <;> cases y.m <;> simp
   cases k with
   | zero=>exact e1 (F 0) iL (hz 0) rfl
   | succ j=>exact e1 (F (j+1)) (F j) (hz _) (hz _)
  simp only[cT];rw[hl];have hm:(pW F k).m=(F k).m:=rfl;rw[hm];by_cases c:(F k).m=false
  . rw[aC c,aC c,ih]
  rw[aB c,aB c];by_cases d:sM (F k) (ik F k)=true
  . rw[aC d,aC d,aeu,ih]
  rw[aB d,aB d,tF,ih];show _++[(⟨(k:Int),1,(F k).p,false⟩:aX)]=_++[⟨(k:Int),1,(F k).p,(F k).z⟩];rw[hz k]
theorem ZX (o:fw) (hc:gQ o.i=0) (h1:1<=o.base) (he:kK o<=256) (F:Nat->cX) (B:Int) (hi:MO F B) (hB:B<=o.base) :
  ∀k,k<=o.i.fA.length->Df o (ic (pW F)) k=ic (pW (abC o F k))/\∃B',MO (abC o F k) B'/\B'<=kK o/\(k<o.i.fA.length->B'<=o.base+(cQ o.i.fA k).page)
 | 0,hk=>by
  refine⟨rfl,B,hi,?_,λh0=>?_⟩
  . have:=yJ hc;unfold kK;omega
  have:=mz hc 0 h0;omega
 | k+1,hk=>by
  obtain⟨ih,B',hi',hBe,hBs⟩:=ZX o hc h1 he F B hi hB k ω;have Bl:=mz hc k ω;have hsl:=Oo hc k ω;have hBk:=hBs ω;have hpq:=aem (cQ o.i.fA k);have hend:o.base+(cQ o.i.fA k).page+(cQ o.i.fA k).aD<=kK o:=by
   unfold kK;omega
  refine⟨?_,_,ahv hi' (amx o (cQ o.i.fA k)) rfl (by show 1<=o.base+_;omega) hpq _ ω,hend,λhk2=>?_⟩
  . show KP o (Df o _ k) _=_;rw[ih];exact aeq hi' ω _ _ _ ω ω ω hpq hBk
  have:=GF hc (k+1) k ω hk2;omega
theorem ZY {all:List fy} {ix:List Nat} (hc:∀j,j<all.length->gQ (bV all j).i=0) (hx:nk all ix) (he:eQ all 1 ix<=256) :
  ∀n,n<=ix.length->Br (bM all 1 ix) n=ic (pW (I8 (bM all 1 ix) n))/\MO (I8 (bM all 1 ix) n) (eQ all 1 (ix.take n))
 | 0,_=>by
  have h0:MO (I8 (bM all 1 ix) 0) (eQ all 1 (ix.take 0)):=⟨λ_=>rfl,⟨rfl,λ_ _=>rfl,λ_=>(by decide:0<=iL.p/\iL.p<=3)⟩,λ_ _=>rfl⟩;refine⟨?_,h0⟩;have hl:=pJ _ (Om h0.fine);have:∀k,cT (pW (I8 (bM all 1 ix) 0)) k=[]:=λk=>by
   induction k with
   | zero=>rfl
   | succ k ih=>simp only[cT];rw[aC (show(pW (I8 (bM all 1 ix) 0) k).m=false from rfl),ih]
  exact(this 256).symm
 | n+1,hn=>by
  obtain⟨ih,hi⟩:=ZY hc hx he n ω;have h2:=iU all ix 1 n ω;have hb:=pd all hc (ix.take n) 1 (λj hj=>hx.lt j (KC hj));have ht:=xy all hc ix 1 (n+1) hx.lt;have hsn:eQ all 1 (ix.take (n+1))=kK (bE (bM all 1 ix) n):=by
   rw[GA ix n ω,ue];unfold kK;rw[h2.1,h2.2.2]
  rw[hsn] at ht;have Lh:gQ (bE (bM all 1 ix) n).i=0:=by
   rw[h2.1];exact hc _ (hx.lt _ (uX ix n ω))
  obtain⟨h3,B',h4,h5,_⟩:=ZX (bE (bM all 1 ix) n) Lh (by rw[h2.2.2];omega) ω _ _ hi (by rw[h2.2.2];exact vM _) (bE (bM all 1 ix) n).i.fA.length (aK _);refine⟨?_,?_⟩
  . show Df _ (Br _ n) _=_;rw[ih,h3];rfl
  rw[hsn];exact⟨h4.z,h4.fine,λq hq=>h4.past q ω⟩
theorem aev {all:List fy} {ix:List Nat} (hc:∀j,j<all.length->gQ (bV all j).i=0) (hx:nk all ix) (he:eQ all 1 ix<=256) :
  qT (bM all 1 ix)=ic (I8 (bM all 1 ix) (bM all 1 ix).length)/\oL (I8 (bM all 1 ix) (bM all 1 ix).length):=by
 obtain⟨h1,h2⟩:=ZY hc hx he ix.length (aK _);rw[cC];refine⟨?_,h2.fine⟩;unfold qT;rw[cC,h1];exact LC h2.z 256
end Go.Proofs.YtlgoihmkgaaemaaGreat
