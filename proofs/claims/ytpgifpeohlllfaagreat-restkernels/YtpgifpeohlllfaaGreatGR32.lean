import Derived.Test.YtpgifpeohlllfaaGreatGR31
set_option maxHeartbeats 20000000
set_option linter.unusedVariables false
set_option maxRecDepth 100000
set_option linter.unusedSimpArgs false
namespace Go.Proofs.YtpgifpeohlllfaaGreat
open Go.RowKit
theorem NN (k:aN) (x:Int) (i:Nat):dh { k with hand:=x } i={ dh k i with hand:=x }:=by
 unfold dh;show(if (au k.frames i).eX then _ else _)=_;cases (au k.frames i).eX with
 | false=>rfl
 | true =>
  show(match qU k.slots with | some s=>_ | none=>_)=_;cases qU k.slots <;> rfl
theorem Wl {k:aN} {n:Nat} (hn:n<k.frames.length) (h0:(au k.frames n).refs=0) (hno:∀q,q<n->(au k.frames q).refs≠0):pk k.frames=some n:=by
 have at_:∀q (hq:q<k.frames.length),au k.frames q=k.frames[q]:=fun q hq=>by grind [au]
 grind [pk,List.findIdx?_eq_some_iff_getElem]
theorem Wm {k:aN} (hno:∀q,q<k.frames.length->(au k.frames q).refs≠0):pk k.frames=none:=by
 unfold pk;refine KC.2 fun x hx=>?_
 obtain⟨q,hq,rfl⟩:=gU eW hx
 grind [au]
structure Zn (lo mb:Nat) (tt:TypeId) (X:List Value) (V:World) (S:dE) (K:aN) (f fb cF:Nat):Prop where
 c1:V.cell? (Ad mb 1)=some (.slice (some (Ad fb 0)) K.frames.length cF)
 x3:V.cell? (Ad fb (f*4+3))=some (.bool (au K.frames f).seen)
 f3:V.frozen? (Ad fb (f*4+3))=false
 lay:bu lo mb tt X (V.setCell (Ad fb (f*4+3)) (.bool false)) S { K with frames:=K.frames.set f (tK (au K.frames f)) }/\bU S V S (V.setCell (Ad fb (f*4+3)) (.bool false))
theorem Wi {lo mb:Nat} {tt:TypeId} {X:List Value} {V:World} {S:dE} {K:aN} {f:Nat} (h:bu lo mb tt X V S K) (hf:f<K.frames.length):∃fb cF,Zn lo mb tt X V S K f fb cF:=by
 obtain⟨fb,cF,A⟩:=h.toKr.fr (by omega);have c1:=h.c1;rw[A.v] at c1;exact⟨fb,cF,c1,A.x3 f hf,A.fz _,h.Bb A.v hf (j:=3) (by omega) rfl,sL h.toKr A.v⟩
theorem Ia (held:List Int) (x:Int) (m:Nat) (hm:m<held.length):(held.take (m+1)).contains x=((held.take m).contains x || (held.getD m 0==x)):=by
 grind [List.take_add_one]
theorem LU {lo mb:Nat} {tt:TypeId} {X:List Value} (k:aN) (S:dE) (w:World) (held:List Int) (ah:Option Addr) (ch:Nat) (h:bu lo mb tt X w S k) (hR:bc k) (hl:held.length<=2) (hH:jD w S ah held) :
  Calls Tryz.prog 107 #[.pointer (some (Ad mb 0)),.slice ah held.length ch] w (cT lo mb tt X w S (I ((bE k held).1:Int)) (bE k held).2):=by
 have hcc:=hR.c;obtain⟨fb,cF,A⟩:=h.toKr.fr (by omega);have c1:=h.c1;rw[A.v] at c1;have HX1:Hid (∀q,q<k.frames.length->w.cell? (Ad fb (q*4+1))=some (I (au k.frames q).refs)):=A.x1;have xj:Hid (∀n,n<k.frames.length->(au k.frames n).refs=0->(∀q,q<n->(au k.frames q).refs≠0)->cT lo mb tt X w S (I ((bE k held).1:Int)) (bE k held).2 (.returned (I (n:Int))) w):=fun n hn h0 hno=>by
  have hg:bE k held=(n,k):=by unfold bE;rw[Wl hn h0 hno]
  rw[hg];exact⟨rfl,S,h,bU.refl _ _⟩
 have pK:Hid ((∀q,q<k.frames.length->(au k.frames q).refs≠0)->∃T,(∀m,m<T->ju held (bK held m k)=true)/\ju held (bK held T k)=false/\(∀n,(bK held n k).frames.length=k.frames.length/\0<=(bK held n k).hand/\(bK held n k).hand<(k.frames.length:Int)) /\
   (∀V,bu lo mb tt X V S { bK held T k with hand:=fM (bK held T k) }->bU S w S V->Calls Tryz.prog 147 #[.pointer (some (Ad mb 0)),I (bK held T k).hand] V fun e w'=>e=.returned (.tuple #[])/\cT lo mb tt X w S (I ((bE k held).1:Int)) (bE k held).2 (.returned (I (bK held T k).hand)) w')):=fun hall=>by
  have OL:vU k:=hall;obtain⟨T,hT,Fb,Dv⟩:=yE held hl hR OL;have C6:=yD held T 69 k (by omega) Fb Dv;have TK:=zh held hR OL;have tq:∀n,(bK held n k).frames.length=k.frames.length:=fun n=>(TK n).kept.nf
  have hhd:∀n,0<=(bK held n k).hand/\(bK held n k).hand<(bK held n k).frames.length:=fun n=>(TK n).right.hand
  refine⟨T,Fb,Dv,fun n=>⟨tq n,(hhd n).1,by grind⟩,fun V hV hc=>?_⟩;have hg:bE k held=((bK held T k).hand.toNat,{ dh (bK held T k) (bK held T k).hand.toNat with hand:=fM (bK held T k) }):=by
   grind [bE,Wm]
  have e:(((bK held T k).hand.toNat:Nat):Int)=(bK held T k).hand:=by grind
  have hnx:=Ez (k:=bK held T k) (by grind);have:=QV { bK held T k with hand:=fM (bK held T k) } S V (bK held T k).hand.toNat hV ((TK T).right.turn hnx) (by grind) ((TK T).full _ (by grind));rw[e,NN] at this;refine this.mono fun r w' ⟨g1,S',g2,g3⟩=>⟨g1,?_⟩
  rw[hg];exact⟨by rw[e],S',g2,hc.trans g3⟩
 have YE:Hid (∀V,bU S w S V->cJ dN 1 0 V ah held):=fun V hc=>(hH.ch hc).has
 obtain⟨P,hP⟩:=ex (cT lo mb tt X w S (I ((bE k held).1:Int)) (bE k held).2);rw[<- hP] at xj pK ⊢;have pL:=ai h;have aoG:k.frames.length<=64:=by omega
 have arY:3<=k.frames.length:=by omega
 clear hP h hR hcc A hH;go_enter Tryz.func107,Tryz.ntmps107;go_wp2;go_loopw [5] (fun iv wr=>∃n:Nat,n<=k.frames.length/\iv=I (n:Int)/\wr=w/\∀q,q<n->(au k.frames q).refs≠0) (fun iv _=>k.frames.length-(intOf iv).toNat)
 case atStart=>grind
 case round =>
  obtain⟨n,hn,rfl,hwr,hno⟩:=hrel;have hwr:=hwr.symm;subst hwr;have YB:=ai hno;clear hno;by_cases hlt:n<k.frames.length
  · have hni:(n:Int)<(k.frames.length:Int):=by omega
    have x1:=HX1.o n hlt;have HLT:=ai hlt;obtain⟨R,hRR⟩:=ex ((au k.frames n).refs);rw[<- hRR] at x1;have zk:=ai hRR;clear hRR hlt hn;by_cases hz:R=0
    · have HF:=ai (xj.o n HLT.o (by rw[<- zk.o];exact hz) YB.o);have zb:(R==0)=true:=by grind
      clear hz pK xj;go_wp2;exact HF.o
    · have zb:(R==0)=false:=by grind
      have HZ:=ai hz;clear hz;go_wp2;go_roundw
      case rel =>
       refine⟨n+1,HLT.o,by go_num,by grind,fun q hq=>?_⟩;by_cases c:q=n
       · rw[c,<- zk.o];grind
       · exact YB.o q (by omega)
      case measure=>simp[intOf];omega
  · obtain rfl:n=k.frames.length:=by omega
    obtain⟨T,Fb,Dv,KU,hlast⟩:=pK.o YB.o;have HPS:=ai Fb;have Vj:=ai Dv;have ET:=ai KU;have Pr:=ai hlast;clear Fb Dv KU hlast pK xj HX1 YB hlt hn;go_wp2;go_loopg [6,7,8] T (fun g _ _ _ wr=>∃n:Nat,n<=T/\g=T-n/\bu lo mb tt X wr S (bK held n k)/\bU S w S wr)
    case atStart=>exact⟨0,oO _,by omega,pL.o,bU.refl _ _⟩
    case round =>
     obtain⟨n,hn,YW,iU,hch⟩:=hrel;obtain⟨K,hK⟩:=ex (bK held n k);obtain⟨tq,hd0,hd1⟩:=ET.o n;have HST:Hid (bK held (n+1) k=gJ held K):=by rw[hK];rfl
     have HPN:Hid ((n<T->ju held K=true)/\(n=T->ju held K=false)):=by rw[hK];exact(show _ from⟨HPS.o n,fun e=>by rw[e];exact Vj.o⟩)
     have HLN:Hid (∀V,n=T->bu lo mb tt X V S { K with hand:=fM K }->bU S w S V->Calls Tryz.prog 147 #[.pointer (some (Ad mb 0)),I K.hand] V fun e w'=>e=.returned (.tuple #[])/\P (.returned (I K.hand)) w'):=fun V e h1 h2=>by
      rw[hK,e] at h1 ⊢;exact Pr.o V h1 h2
     rw[<- hK] at iU tq hd0 hd1;have HNT:=ai hn;have HGK:=ai YW;have c4:=iU.c4;have f4:=iU.free 4;obtain⟨fb1,cF1,A1⟩:=iU.toKr.fr (by omega);have c1:=iU.c1;rw[A1.v,tq] at c1;obtain⟨f,hf⟩:∃f:Nat,K.hand=(f:Int):=⟨K.hand.toNat,by omega⟩;rw[hf] at c4 HLN hd1;have hm:((f:Int)+1).tmod (k.frames.length:Int)=fM K:=by
      unfold fM;rw[P6 (by omega),hf,tq]
     obtain⟨NX,hNX⟩:=ex (fM K);rw[<- hNX] at hm;have hw1:IntKind.i64.wrap ((f:Int)+1)=(f:Int)+1:=m8 _ (by omega);have hNb:-9223372036854775808<=NX/\NX<=9223372036854775807:=by
      have h1:0<=((f:Int)+1).tmod (k.frames.length:Int):=Int.tmod_nonneg _ (by omega);have h2:((f:Int)+1).tmod (k.frames.length:Int)<(k.frames.length:Int):=Int.tmod_lt_of_pos _ (by omega);omega
     obtain⟨m1,m2⟩:=iU.XT NX;have Ji:=ai m1;have EI:=ai (hch.trans m2);have hff:f<K.frames.length:=by omega
     obtain⟨fb2,cF2,A2⟩:=Wi (f:=f) m1 hff;have wj:=ai A2;have Z0:Hid (∀(b:Bool),held.contains (f:Int)=b->ju held K=(b || (au K.frames f).seen)/\gJ held K={ K with hand:=NX,frames:=if b then K.frames else K.frames.set f (tK (au K.frames f)) }):=fun b hb=>by
      unfold ju gJ;rw[hf,hb,hNX,jn];exact⟨rfl,rfl⟩
     have qH:=ai hNX;have HNF:=ai tq;clear iU hch A1 tq hd0 m1 m2 A2 hK hn YW hf hNX hff HPS Vj ET Pr pL;go_upto_region 8 with fail;obtain⟨W1,hW1⟩:=ex (wr.setCell (Ad mb 4) (I NX));rw[<- hW1] at Ji EI wj ⊢;clear hW1 c1 c4 f4 hm hw1 hNb;have SG:=ai (YE.o W1 EI.o);go_wp2;go_loopw [7,8] (fun hv jv wq=>∃m:Nat,m<=held.length/\jv=I (m:Int)/\hv=.bool ((held.take m).contains (f:Int))/\wq=W1) (fun _ jv _=>held.length-(intOf jv).toNat)
     case atStart=>exact⟨0,oO _,rfl,rfl,rfl⟩
     case round =>
      obtain⟨m,hm,rfl,rfl,hwq⟩:=hrel;have hwq:=hwq.symm;subst hwq;by_cases hlt:m<held.length
      · have hmi:(m:Int)<(held.length:Int):=by omega
        have HLT:=ai hlt;have Vr:=ai (Ia held (f:Int) m hlt);obtain⟨hb,ho,e1,_,e3⟩:=SG.o (by omega);have z:=e3 m hlt 0 (by omega);rw[J9,fW] at z;obtain⟨q,hq⟩:=ex (held.getD m 0);rw[<- hq] at z Vr;replace z:W1.cell? (Ad hb (ho+m))=some (I q):=z;subst e1;obtain⟨b,hbb⟩:=ex ((held.take m).contains (f:Int));rw[<- hbb] at Vr ⊢;clear hq hbb hlt hm e3;cases b with
        | true =>
         go_wp2;go_roundw
         case rel=>exact⟨m+1,HLT.o,by go_num,by rw[Vr.o];rfl,by omega⟩
         case measure=>simp[intOf];omega
        | false =>
         go_wp2;go_roundw
         case rel=>exact⟨m+1,HLT.o,by go_num,by rw[Vr.o];rfl,by omega⟩
         case measure=>simp[intOf];omega
      · obtain rfl:m=held.length:=by omega
        rw[qd];obtain⟨b,hbb⟩:∃b,held.contains (f:Int)=b:=⟨_,rfl⟩;obtain⟨hpb,Bi⟩:=Z0.o b hbb;rw[hbb];clear hlt hm hbb SG;cases b with
        | true =>
         have hlt:n<T:=by
          rcases EW n T with g | g
          · exact g
          · have:=HPN.o.2 (by have:=HNT.o;omega);rw[hpb] at this;simp at this
         have Dj:=ai (HST.o.trans Bi);clear hpb Bi;go_wp2;go_roundg (T-(n+1))
         case measure=>have:=HGK.o;omega
         case rel=>exact⟨n+1,hlt,by omega,by rw[Dj.o];exact Ji.o,EI.o⟩
        | false =>
         obtain⟨b1,b3,a4,a5,a6⟩:=wj.o;have a1:W1.cell? (Ad mb 1)=some (.slice (some (Ad fb2 0)) K.frames.length cF2):=b1;have a3:W1.cell? (Ad fb2 (f*4+3))=some (.bool (au K.frames f).seen):=b3;rw[HNF.o] at a1;obtain⟨sn,hsn⟩:∃sn,(au K.frames f).seen=sn:=⟨_,rfl⟩;rw[hsn] at a3 hpb;have HA5:=ai a5;have HA6:=ai a6;have Dj:=ai (HST.o.trans Bi);clear Bi a5 a6 hsn b1 b3;cases sn with
         | true =>
          have hlt:n<T:=by
           rcases EW n T with g | g
           · exact g
           · have:=HPN.o.2 (by have:=HNT.o;omega);rw[hpb] at this;simp at this
          clear hpb;go_wp2;go_roundg (T-(n+1))
          case measure=>have:=HGK.o;omega
          case rel=>exact⟨n+1,hlt,by omega,by rw[Dj.o];exact HA5.o,EI.o.trans HA6.o⟩
         | false =>
          have hnT:n=T:=by
           rcases EW n T with g | g
           · have:=HPN.o.1 g;rw[hpb] at this;simp at this
           · have:=HNT.o;omega
          have Xw:=ai (HLN.o W1 hnT (by rw[<- qH.o];exact Ji.o) EI.o);clear hpb hnT;go_wp2_with (go_at_call 147;refine Xw.o.mono ?_;rintro e w3 ⟨rfl,Yb⟩;have Dl:=ai Yb;clear Yb)
          exact Dl.o
open Go.RowKit
theorem Gr {lo mb:Nat} {tt:TypeId} {X:List Value} (k:aN) (S:dE) (w:World) (e:bG) (h:bu lo mb tt X w S k) (h1:e.kind=1->0<=e.loc/\e.loc<(k.frames.length:Int)) (h2:e.kind≠1->0<=e.loc/\e.loc<(k.slots.length:Int))
  (hr:(e.kind=1->-1000000<=(au k.frames e.loc.toNat).refs/\(au k.frames e.loc.toNat).refs<=1000000)/\(e.kind≠1->-1000000<=(br k.slots e.loc.toNat).refs/\(br k.slots e.loc.toNat).refs<=1000000)) :
  Calls Tryz.prog 81 #[.pointer (some (Ad mb 0)),kE e] w (jN lo mb tt X w S (.tuple #[]) (cK k e)):=by
 obtain⟨pg,kd,lc⟩:=e;unfold kE;simp only at h1 h2 hr ⊢;have eU:=ai ((aK w.heap.size w).alloc (aI _) (.cells #[I pg,I kd,I lc] 45));have EB:=ai (bO w #[I pg,I kd,I lc] 45);have HM:=ai (h.below eU.o);have HC0:Hid (bU S w S (w.alloc (.cells #[I pg,I kd,I lc] 45))):=bU.below eU.o;have He:Hid (∀V:World,Below V.heap.size V V.drew):=fun V=>(aK _ _).drew
 obtain⟨WA,jG⟩:=ex (w.alloc (.cells #[I pg,I kd,I lc] 45));rw[<- jG] at eU EB HM HC0;obtain⟨eb,IK⟩:=ex w.heap.size;have nE:S.lab eb=.no:=by rw[IK];exact h.toKr.new (aI _)
 have lI:=ai jG;have YG:=ai IK;rw[<- IK] at EB;obtain⟨P,hP⟩:=ex (jN lo mb tt X w S (.tuple #[]) (cK k ⟨pg,kd,lc⟩));rw[<- hP];have HPP:=ai hP;clear hP jG IK;by_cases c:kd=1
 · obtain⟨i,rfl⟩:∃i:Nat,lc=(i:Int):=⟨lc.toNat,by omega⟩;have hi:i<k.frames.length:=by omega
   obtain⟨fb,cF,A⟩:=HM.o.toKr.fr (by omega);have Vd:=hr.1 c;rw[jn] at Vd;have hk:cK k ⟨pg,kd,(i:Int)⟩={ k with frames:=k.frames.set i (ma (au k.frames i)) }:=by
    grind [cK]
   rw[hk] at HPP;have nF:S.lab fb=.frames:=A.lab;have hne:¬fb=eb:=fun e=>by grind
   have x1:=A.x1 i hi;have c1:=HM.o.c1;rw[A.v] at c1;have e0:WA.cell? (Ad eb 1)=some (I kd):=aB EB.o 1 rfl;have e2:WA.cell? (Ad eb 2)=some (I (i:Int)):=aB EB.o 2 rfl;have JC:(i:Int)<(k.frames.length:Int):=by omega
   have f1:=A.fz (i*4+1);have m1:=HM.o.Bb A.v hi (j:=1) (by omega) (f:=⟨(au k.frames i).data,(au k.frames i).refs-1,(au k.frames i).eX,(au k.frames i).seen⟩) (u:=I ((au k.frames i).refs-1)) rfl;have Y1:=HC0.o.trans (sL HM.o.toKr A.v (i:=i*4+1) (u:=I ((au k.frames i).refs-1)));have Ji:=ai (m1.below (He.out _));have EI:=ai (Y1.trans (bU.below (He.out _)));have EB1:=ai (aQ (iM EB.o fb (i*4+1) (I ((au k.frames i).refs-1)) (fun e=>hne e.symm)) (He.out _) (by rw[World.size_setCell];exact aT EB.o));have HAV:=ai A.v;obtain⟨n,hn⟩:=ex k.frames.length;have YB:=ai hn;rw[<- hn] at c1 JC;have kb:(kd==1)=true:=by grind
   obtain⟨R,hR⟩:=ex ((au k.frames i).refs);have zk:=ai hR;rw[<- hR] at x1 Vd Ji EI EB1;have hw:IntKind.i64.wrap (R-1)=R-1:=m8 _ (by omega);have HI:=ai hi;clear h1 h2 hr h hk hn hR nE nF m1 Y1 A HM HC0 EB c;go_enter Tryz.func81,Tryz.ntmps81;go_upto_region 1 with fail;rw[<- lI.o,<- YG.o];go_upto_region 2 with fail;go_region;go_upto_region 3 with fail;obtain⟨W1,hW1⟩:=ex ((WA.setCell (Ad fb (i*4+1)) (I (R-1))).drew);rw[<- hW1] at Ji EI EB1 ⊢;clear hW1 x1 c1 e0 e2 f1;obtain⟨YZ,cF',A1⟩:=Ji.o.toKr.fr (by grind);obtain rfl:fb=YZ:=by have ev:=HAV.o.symm.trans A1.v;grind
   have hi':i<(k.frames.set i ⟨(au k.frames i).data,R-1,(au k.frames i).eX,(au k.frames i).seen⟩).length:=by grind
   have y1:W1.cell? (Ad fb (i*4+1))=some (I (R-1)):=by
    have:=A1.x1 i hi';rw[show au (k.frames.set i ⟨(au k.frames i).data,R-1,(au k.frames i).eX,(au k.frames i).seen⟩) i=⟨(au k.frames i).data,R-1,(au k.frames i).eX,(au k.frames i).seen⟩ from eD _ _ _ _ HI.o] at this;omega
   have y0:=A1.x0 i hi';have y2:=A1.x2 i hi';have y3:=A1.x3 i hi';have g0:=A1.fz (i*4);have g1:=A1.fz (i*4+1);have g2:=A1.fz (i*4+2);have g3:=A1.fz (i*4+3);have c1:=Ji.o.c1;rw[HAV.o,<- YB.o] at c1;have e2:W1.cell? (Ad eb 2)=some (I (i:Int)):=aB EB1.o 2 rfl;clear A1 hi';by_cases z:R-1=0
   · have zb:(R-1==0)=true:=by grind
     have HZ:=ai z;clear z;go_region;go_upto_region 4 with fail;go_region;go_wp2;refine cm (v:=.tuple #[]) (by simp[results,Tryz.results81,go_sem]) rfl ?_;rw[HPP.o];have l1:=Ji.o.SM HAV.o (i:=i) (by grind) eW;have l2:ma (au k.frames i)=eW:=by unfold ma;rw[<- zk.o,aR HZ.o]
     rw[l2];simp only[pF] at l1;exact⟨rfl,(l1.1.below (He.out _)).below (He.out _),((EI.o.trans l1.2).trans (bU.below (He.out _))).trans (bU.below (He.out _))⟩
   · have zb:(R-1==0)=false:=by grind
     have HZ:=ai z;clear z;go_region;go_wp2;refine cm (v:=.tuple #[]) (by simp[results,Tryz.results81,go_sem]) rfl ?_;rw[HPP.o];have l2:ma (au k.frames i)=⟨(au k.frames i).data,R-1,(au k.frames i).eX,(au k.frames i).seen⟩:=by unfold ma;rw[<- zk.o,bf HZ.o]
     rw[l2];exact⟨rfl,Ji.o.below (He.out _),EI.o.trans (bU.below (He.out _))⟩
 · obtain⟨i,rfl⟩:∃i:Nat,lc=(i:Int):=⟨lc.toNat,by omega⟩;have hi:i<k.slots.length:=by omega
   obtain⟨fb,cF,A⟩:=HM.o.toKr.sl (by omega);have Vd:=hr.2 c;rw[jn] at Vd;have hk:cK k ⟨pg,kd,(i:Int)⟩={ k with slots:=k.slots.set i (nB (br k.slots i)) }:=by
    grind [cK]
   rw[hk] at HPP;have nF:S.lab fb=.slots:=A.lab;have hne:¬fb=eb:=fun e=>by grind
   have x1:=A.x1 i hi;have c1:=HM.o.c2;rw[A.v] at c1;have e0:WA.cell? (Ad eb 1)=some (I kd):=aB EB.o 1 rfl;have e2:WA.cell? (Ad eb 2)=some (I (i:Int)):=aB EB.o 2 rfl;have JC:(i:Int)<(k.slots.length:Int):=by omega
   have f1:=A.fz (i*2+1);have m1:=HM.o.YK A.v hi (j:=1) (by omega) (f:=⟨(br k.slots i).data,(br k.slots i).refs-1⟩) (u:=I ((br k.slots i).refs-1)) rfl;have Y1:=HC0.o.trans (QZ HM.o.toKr A.v (i:=i*2+1) (u:=I ((br k.slots i).refs-1)));have Ji:=ai (m1.below (He.out _));have EI:=ai (Y1.trans (bU.below (He.out _)));have EB1:=ai (aQ (iM EB.o fb (i*2+1) (I ((br k.slots i).refs-1)) (fun e=>hne e.symm)) (He.out _) (by rw[World.size_setCell];exact aT EB.o));have HAV:=ai A.v;obtain⟨n,hn⟩:=ex k.slots.length;have YB:=ai hn;rw[<- hn] at c1 JC;have kb:(kd==1)=false:=by grind
   obtain⟨R,hR⟩:=ex ((br k.slots i).refs);have zk:=ai hR;rw[<- hR] at x1 Vd Ji EI EB1;have hw:IntKind.i64.wrap (R-1)=R-1:=m8 _ (by omega);have HI:=ai hi;clear h1 h2 hr h hk hn hR nE nF m1 Y1 A HM HC0 EB c;go_enter Tryz.func81,Tryz.ntmps81;go_upto_region 1 with fail;rw[<- lI.o,<- YG.o];go_upto_region 5 with fail;go_region;go_upto_region 6 with fail;obtain⟨W1,hW1⟩:=ex ((WA.setCell (Ad fb (i*2+1)) (I (R-1))).drew);rw[<- hW1] at Ji EI EB1 ⊢;clear hW1 x1 c1 e0 e2 f1;obtain⟨YZ,cF',A1⟩:=Ji.o.toKr.sl (by grind);obtain rfl:fb=YZ:=by have ev:=HAV.o.symm.trans A1.v;grind
   have hi':i<(k.slots.set i ⟨(br k.slots i).data,R-1⟩).length:=by grind
   have y1:W1.cell? (Ad fb (i*2+1))=some (I (R-1)):=by
    have:=A1.x1 i hi';rw[show br (k.slots.set i ⟨(br k.slots i).data,R-1⟩) i=⟨(br k.slots i).data,R-1⟩ from eD _ _ _ _ HI.o] at this;omega
   have y0:=A1.x0 i hi';have g0:=A1.fz (i*2);have g1:=A1.fz (i*2+1);have c1:=Ji.o.c2;rw[HAV.o,<- YB.o] at c1;have e2:W1.cell? (Ad eb 2)=some (I (i:Int)):=aB EB1.o 2 rfl;clear A1 hi';by_cases z:R-1=0
   · have zb:(R-1==0)=true:=by grind
     have HZ:=ai z;clear z;go_region;go_upto_region 7 with fail;go_region;go_wp2;refine cm (v:=.tuple #[]) (by simp[results,Tryz.results81,go_sem]) rfl ?_;rw[HPP.o];have l1:=Ji.o.ace HAV.o (i:=i) (by grind) jS;have l2:nB (br k.slots i)=jS:=by unfold nB;rw[<- zk.o,aR HZ.o]
     rw[l2];simp only[pF] at l1;exact⟨rfl,(l1.1.below (He.out _)).below (He.out _),((EI.o.trans l1.2).trans (bU.below (He.out _))).trans (bU.below (He.out _))⟩
   · have zb:(R-1==0)=false:=by grind
     have HZ:=ai z;clear z;go_region;go_wp2;refine cm (v:=.tuple #[]) (by simp[results,Tryz.results81,go_sem]) rfl ?_;rw[HPP.o];have l2:nB (br k.slots i)=⟨(br k.slots i).data,R-1⟩:=by unfold nB;rw[<- zk.o,bf HZ.o]
     rw[l2];exact⟨rfl,Ji.o.below (He.out _),EI.o.trans (bU.below (He.out _))⟩
open Go.RowKit
structure aaJ (V:World) (j:Nat) (p:Int) (pb:Nat) (lv:Bool) (ax:Option Addr) (nx cx:Nat) (ae:Option Addr) (ne ce:Nat) (r:Int):Prop where
 y0:V.cell? (Ad pb (j*3))=some (.bool lv)
 y1:V.cell? (Ad pb (j*3+1))=some (.slice ax nx cx)
 y2:V.cell? (Ad pb (j*3+2))=some (.slice ae ne ce)
 lt:pb<V.heap.size
 call:∀V',Below V.heap.size V V'->Calls Tryz.prog 67 #[.agg #[.bool lv,.slice ax nx cx,.slice ae ne ce],I p] V' fun e w'=>e=.returned (I r)/\Below V'.heap.size V' w'
theorem I3 {lo mb:Nat} {tt:TypeId} {X:List Value} {V:World} {S:dE} {K:aN} {j:Nat} {pb nP cP:Nat} (h:bu lo mb tt X V S K) (hen:(ak K.aj j).aU.length<=1000) (hj:j<K.aj.length) (hP:S.vP=.slice (some (Ad pb 0)) nP cP) (p:Int) (i:Nat) (hno:∀m,m<i->(aH (ak K.aj j).aU m).page≠p) (hi:i=(ak K.aj j).aU.length∨(i<(ak K.aj j).aU.length/\(aH (ak K.aj j).aU i).page=p)) :
  ∃ax nx cx ae ce,aaJ V j p pb (ak K.aj j).live ax nx cx ae (ak K.aj j).aU.length ce (if i<(ak K.aj j).aU.length then (i:Int) else -1)/\cJ bj 3 dW V ae (ak K.aj j).aU/\fu V (.slice ax nx cx) (ak K.aj j).bk:=by
 obtain⟨KO,cP',A⟩:=h.toKr.sp (by omega);obtain rfl:pb=KO:=by have ev:=hP.symm.trans A.v;grind
 obtain⟨ae,ce,zE,hre⟩:=h.toKr.aU hj;obtain⟨ax,cx,Av,_,_⟩:=aY (h.each j hj).bk;have a1:=A.x1 j hj;have a2:=A.x2 j hj;have har:=h.toKr.bk hj;rw[Av] at a1 har;rw[zE] at a2;exact⟨ax,_,cx,ae,ce,⟨A.x0 j hj,a1,a2,A.lt,fun V' hV=>wP _ _ _ ae ce p i V' (hre.below hV) (by omega) hno hi⟩,hre,har⟩
structure LZ (V:World) (j:Nat) (p:Int) (pb:Nat) (e:bG) (lv:Bool) (ax:Option Addr) (nx cx gb ne ce i:Nat):Prop extends aaJ V j p pb lv ax nx cx (some (Ad gb 0)) ne ce (i:Int) where
 il:(i:Int)<(ne:Int)
 gl:gb<V.heap.size
 z0:V.cell? (Ad gb (i*3))=some (I e.page)
 z1:V.cell? (Ad gb (i*3+1))=some (I e.kind)
 z2:V.cell? (Ad gb (i*3+2))=some (I e.loc)
theorem O8 {lo mb:Nat} {tt:TypeId} {X:List Value} {V:World} {S:dE} {K:aN} {j:Nat} {pb nP cP:Nat} (h:bu lo mb tt X V S K) (hen:(ak K.aj j).aU.length<=1000) (hj:j<K.aj.length) (hP:S.vP=.slice (some (Ad pb 0)) nP cP) {p:Int} {e:bG} (he:bD (ak K.aj j).aU p=some e):∃lv ax nx cx gb ne ce i,LZ V j p pb e lv ax nx cx gb ne ce i:=by
 obtain⟨i,h1,h2,h3,h4⟩:=xV he;obtain⟨ax,nx,cx,ae,ce,L,hre,_⟩:=I3 h hen hj hP p i h4 (.inr ⟨h1,h3⟩);rw[aR h1] at L;have zE:=L.y2;obtain⟨ao,cap,er,_,hg⟩:=aY (h.each j hj).bC;obtain⟨KO,cP',A⟩:=h.toKr.sp (by omega);obtain rfl:pb=KO:=by have ev:=hP.symm.trans A.v;grind
 obtain⟨g,rfl,_,hgl⟩:=hg (by omega);have a2:=A.x2 j hj;rw[er,zE] at a2;injection a2 with a2;injection a2 with a2 _ _;subst a2;obtain⟨b,off,e1,e2,e3⟩:=hre (by omega);injection e1 with e1;injection e1 with e1 e4 _;subst e1 e4;have z0:=e3 i h1 0 (by omega);have z1:=e3 i h1 1 (by omega);have z2:=e3 i h1 2 (by omega);have eE:(ak K.aj j).aU.getD i dW=e:=h2;rw[eE,gM] at z0 z1 z2;exact⟨_,ax,nx,cx,g,_,ce,i,⟨L,by omega,hgl,z0,z1,z2⟩⟩
structure Gu (lo mb:Nat) (tt:TypeId) (X:List Value) (V:World) (S:dE) (K:aN) (i fb cF:Nat):Prop where
 v:S.vF=.slice (some (Ad fb 0)) K.frames.length cF
 c1:V.cell? (Ad mb 1)=some (.slice (some (Ad fb 0)) K.frames.length cF)
 ne:¬mb=fb
 x0:V.cell? (Ad fb (i*4))=some (.string (au K.frames i).data)
 x1:V.cell? (Ad fb (i*4+1))=some (I (au K.frames i).refs)
 x2:V.cell? (Ad fb (i*4+2))=some (.bool (au K.frames i).eX)
 x3:V.cell? (Ad fb (i*4+3))=some (.bool (au K.frames i).seen)
 fz:∀o,V.frozen? (Ad fb o)=false
 lt:fb<V.heap.size
 at_:∀a,a<K.frames.length->V.cell? (Ad fb (a*4))=some (.string (au K.frames a).data)/\V.cell? (Ad fb (a*4+1))=some (I (au K.frames a).refs)
 lay:∀V',Below V.heap.size V V'->∀D dy,bu lo mb tt X ((((V'.setCell (Ad fb (i*4)) (.string D)).setCell (Ad fb (i*4+1)) (I 1)).setCell (Ad fb (i*4+2)) (.bool dy)).setCell (Ad fb (i*4+3)) (.bool false)) S (ez K i D dy)/\bU S V S ((((V'.setCell (Ad fb (i*4)) (.string D)).setCell (Ad fb (i*4+1)) (I 1)).setCell (Ad fb (i*4+2)) (.bool dy)).setCell (Ad fb (i*4+3)) (.bool false))
theorem H6 {lo mb:Nat} {tt:TypeId} {X:List Value} {V:World} {S:dE} {K:aN} {i:Nat} (h:bu lo mb tt X V S K) (hi:i<K.frames.length):∃fb cF,Gu lo mb tt X V S K i fb cF:=by
 obtain⟨fb,cF,A⟩:=h.toKr.fr (by omega);have c1:=h.c1;rw[A.v] at c1;refine⟨fb,cF,A.v,c1,fun e=>by have:=A.lab;grind [bu.lH],A.x0 i hi,A.x1 i hi,A.x2 i hi,A.x3 i hi,A.fz,A.lt,fun a ha=>⟨A.x0 a ha,A.x1 a ha⟩,fun V' hV D dy=>?_⟩;have m:=(h.below hV).SM A.v hi ⟨D,1,dy,false⟩;exact⟨m.1,(bU.below hV).trans m.2⟩
structure LY (mb:Nat) (V:World) (K:aN) (p:Int) (z:Bool) (vS:Option Addr) (nS cS fb cF:Nat) (vL:Option Addr) (nL cL pb nP cP:Nat):Prop where
 c0:V.cell? (Ad mb 0)=some (.slice vS nS cS)
 c2:V.cell? (Ad mb 2)=some (.slice vL nL cL)
 c3:V.cell? (Ad mb 3)=some (.slice (some (Ad pb 0)) nP cP)
 c4:V.cell? (Ad mb 4)=some (I K.hand)
 lt:mb<V.heap.size
 call:∀V',Below V.heap.size V V'->∀g1 g2 g3,Calls Tryz.prog 49 #[.agg #[.slice vS nS cS,.slice (some (Ad fb 0)) K.frames.length cF,.slice vL nL cL,.slice (some (Ad pb 0)) nP cP,I K.hand],.agg #[I g1,I g2,I g3,.bool z],I p] V' fun e w'=>e=.returned (.string (dY K.aD p z))/\Below V'.heap.size V' w'
theorem T8 {lo mb:Nat} {tt:TypeId} {X:List Value} {V:World} {S:dE} {K:aN} {p:Int} {z:Bool} {fb cF pb nP cP:Nat} (h:bu lo mb tt X V S K) (hR:bc K) (hz:z=false->(cY K.aD p).isSome=true) (hv:S.vF=.slice (some (Ad fb 0)) K.frames.length cF) (hP:S.vP=.slice (some (Ad pb 0)) nP cP):∃vS nS cS vL nL cL,LY mb V K p z vS nS cS fb cF vL nL cL pb nP cP:=by
 obtain⟨a,pl,hk⟩:=h.toKr.has;have c0:=h.c0;have c2:=h.c2;have c3:=h.c3;rw[pl.eS] at c0;rw[pl.eL] at c2;rw[hP] at c3;have eF:=pl.eF;rw[hv] at eF;injection eF with eF1 _ eF3;have eP:=pl.eP;rw[hP] at eP;injection eP with eP1 eP2 eP3;refine⟨a.aS,_,a.cS,a.aL,_,a.cL,c0,c2,c3,h.c4,h.lt,fun V' hV g1 g2 g3=>?_⟩;have:=Cb K a g1 g2 g3 z p V' (hk.aD.below hV) (o5 hR).aD hR.kP hz;unfold bg at this;rw[<- eF1,<- eF3,<- eP1,<- eP2,<- eP3] at this;exact this
theorem Wo {K:aN} (hR:bc K) {j:Nat} (hj:j<K.aj.length):(ak K.aj j).aU.length<=1000:=by grind [iZ]
theorem TV {k:aN} {held:List Int} {g:Nat×aN} (G:oC k held g) {j:Nat} (hj:j<k.aj.length) (p:Int):jq g.2 j p=jq k j p:=by
 unfold jq;rw[G.kept.bk j hj]
theorem QS {k:aN} (hR:bc k) {j:Nat} (hj:j<k.aj.length) {p:Int} {held:List Int} (hl:held.length<=2) (he:bD (ak k.aj j).aU p=none) :
  cI k j p held=((bE k held).1,df (ez (bE k held).2 (bE k held).1 (dY (bE k held).2.aD p (jq k j p)) false) j ⟨p,1,(bE k held).1⟩):=by
 grind [ll,cI,dR,TV,oC.Hf]
theorem QR {k:aN} (hR:bc k) {j:Nat} (hj:j<k.aj.length) {p:Int} {held:List Int} (hl:held.length<=2) {e:bG} (he:bD (ak k.aj j).aU p=some e) (hk:e.kind≠1) :
  bD (ak (bE k held).2.aj j).aU p=some e/\cI k j p held=((bE k held).1,cK (df (ez (bE k held).2 (bE k held).1 (br (bE k held).2.slots e.loc.toNat).data true) j ⟨p,1,(bE k held).1⟩) e):=by
 grind [ll,cI,dR,oC.Hf]
theorem QT {k:aN} {j:Nat} {p:Int} (held:List Int) {e:bG} (he:bD (ak k.aj j).aU p=some e) (hk:e.kind=1):cI k j p held=(e.loc.toNat,k):=by
 grind [cI]
theorem Wv {k:aN} (hR:bc k) {j:Nat} (hj:j<k.aj.length) {p:Int} {a:Nat} {held:List Int} (hl:held.length<=1) (ha:bD (ak k.aj j).aU p=some ⟨p,1,a⟩) (hr:(au k.frames a).refs≠1) :
  iB k j p a held=((bE k (held++[(a:Int)])).1,cK (df (ez (bE k (held++[(a:Int)])).2 (bE k (held++[(a:Int)])).1 (au (bE k (held++[(a:Int)])).2.frames a).data true) j ⟨p,1,(bE k (held++[(a:Int)])).1⟩) ⟨p,1,a⟩):=by
 grind [ll,iB,dR,oC.stay]
end Go.Proofs.YtpgifpeohlllfaaGreat
