import Derived.Test.YtpgifpeohlllfaaGreatGV17
set_option maxHeartbeats 20000000
set_option linter.unusedVariables false
set_option maxRecDepth 100000
set_option linter.unusedSimpArgs false
namespace Go.Proofs.YtpgifpeohlllfaaGreat
namespace Go.Proofs.YtpgifpeohlllfaaGreat
open Go.RowKit
def mS (f:dm->dm) (l:List dm) (n:Nat):List dm:=(l.take n).map f++l.drop n
theorem uJ (f:dm->dm) (l:List dm) (n:Nat):(mS f l n).length=l.length:=by
 grind [mS]
theorem Ab (f:dm->dm) (l:List dm) (n m:Nat) (hm:m<l.length):ak (mS f l n) m=if m<n then f (ak l m) else ak l m:=by
 grind [mS,ak]
theorem CK (f:dm->dm) (l:List dm) (n:Nat) (hn:n<l.length):(mS f l n).set n (f (ak l n))=mS f l (n+1):=by
 refine n7 uP _ _ (by grind [uJ]) (fun m hm=>?_)
 grind [uJ,mS,ak]
theorem CL (f:dm->dm) (l:List dm):mS f l l.length=l.map f:=by
 grind [mS]
def fy (k:aN) (i s n:Nat):aN:={ k with frames:=k.frames.set i gD,slots:=k.slots.set s ⟨(au k.frames i).data,(au k.frames i).refs⟩,aj:=mS (jq i s) k.aj n }
theorem Nf {lo mb:Nat} {tt:TypeId} {X:List Value} (k:aN) (S:dN) (w:World) (i:Nat) (h:bQ lo mb tt X w S k) (hR:bg k) (hi:i<k.frames.length) (ZQ:(au k.frames i).refs≠0) :
  Calls Tryz.prog 190 #[.pointer (some (Ad mb 0)),I (i:Int)] w (dK lo mb tt X w S (.tuple #[]) (dZ k i)):=by
 have hcc:=hR.c;obtain⟨fb,cF,A⟩:=h.toiZ.fr (by omega);obtain⟨W,hW⟩:=ex (((w.alloc (.cells #[I (i:Int)] 3)).alloc (.cells #[.string (au k.frames i).data,I (au k.frames i).refs,.bool (au k.frames i).fN,.bool (au k.frames i).seen] 40)).drew);have eO:Hid (Below w.heap.size w W):=by rw[hW];exact(((aK w.heap.size w).alloc (aM _) _).alloc (by simp) _).drew
 have X0:Hid (W.heap[w.heap.size]?=some (.cells #[I (i:Int)] 3 (0,0))):=by rw[hW];exact bE (bG w _ _) _
 have F0:Hid (W.heap[w.heap.size+1]?=some (.cells #[.string (au k.frames i).data,I (au k.frames i).refs,.bool (au k.frames i).fN,.bool (au k.frames i).seen] 40 (0,0))):=by
  have:=bG (w.alloc (.cells #[I (i:Int)] 3)) #[.string (au k.frames i).data,I (au k.frames i).refs,.bool (au k.frames i).fN,.bool (au k.frames i).seen] 40;rw[iJ] at this;rw[hW];exact this
 have HMW:=ai (h.below eO.o);have HCW:Hid (dI S w S W):=dI.below eO.o;have n0:S.lab w.heap.size=.no:=h.toiZ.new (aM _);have n1:S.lab (w.heap.size+1)=.no:=h.toiZ.new (xL _);have yu:Hid (∀S' V,dI S W S' V->V.heap[w.heap.size]?=some (.cells #[I (i:Int)] 3 (0,0))/\V.heap[w.heap.size+1]?=some (.cells #[.string (au k.frames i).data,I (au k.frames i).refs,.bool (au k.frames i).fN,.bool (au k.frames i).seen] 40 (0,0))):=fun S' V hV=>⟨hV.keep X0.o n0,hV.keep F0.o n1⟩
 have c1:=h.c1;rw[A.v] at c1;have x0:=A.x0 i hi;have x1:=A.x1 i hi;have x2:=A.x2 i hi;have x3:=A.x3 i hi;have MU:(i:Int)<(k.frames.length:Int):=by omega
 have Bk:=h.lt;have hfl:=A.lt;have cZ:Hid (∀V S' K,K=dZ k i->bQ lo mb tt X V S' K->dI S W S' V->dK lo mb tt X w S (.tuple #[]) (dZ k i) (.returned (.tuple #[])) V):=fun V S' K hK h1 h2=>⟨rfl,S',hK ▸ h1,HCW.o.trans h2⟩
 obtain⟨P,hP⟩:=ex (dK lo mb tt X w S (.tuple #[]) (dZ k i));rw[<- hP] at cZ ⊢;have HHW:=ai hW;cases hd:(au k.frames i).fN with
 | false =>
  have hdrop:dZ k i=kH k i k.aj.length:=by
   grind [YC,dZ]
  have E7:=ai (fun V S' h1 h2=>cZ.o V S' _ hdrop.symm h1 h2);have HFO:Hid (∀V S' n,n<k.aj.length->bQ lo mb tt X V S' (kH k i n)->dI S W S' V->Calls Tryz.prog 87 #[.pointer (some (Ad mb 0)),I (n:Int),.func (.func 202) #[] #[.pointer (some (Ad w.heap.size 0))]] V (dK lo mb tt X V S' (.tuple #[]) (kH k i (n+1)))):=fun V S' n hn hV hc=>by
   have hp:=xZ hR i n (by omega);refine Gt 202 [.pointer (some (Ad w.heap.size 0))] w.heap.size (.inl ⟨rfl,rfl⟩) (kH k i n) S' V n (kr (i:Int)) hV hp.1 (by omega) (fun U e hU=>?_);have hx:=(yu.out S' V hc).1;have hno:S'.lab w.heap.size=.no:=hc.no _ (aO X0.o) n0;exact Mg (i:Int) e w.heap.size U (aB (hU.keep hx (fun z=>z hno)) 0 rfl)
  have Qj:Hid (∀V S' n,bQ lo mb tt X V S' (kH k i n)->n<=k.aj.length->∃av cv,V.cell? (Ad mb 3)=some (.slice av k.aj.length cv)):=fun V S' n hV hn=>by
   have hp:=xZ hR i n hn;obtain⟨pb,cP,A'⟩:=hV.toiZ.sp (by omega);have:=hV.c3;rw[A'.v,hp.2.2.2.2.2.1] at this
   grind
  obtain⟨av,cv,d3⟩:=Qj.o W S 0 HMW.o (by omega);obtain⟨np,G0⟩:=ex k.aj.length;rw[<- G0] at d3 HFO E7;have apr:np<=4:=by omega
  obtain⟨FR,SM⟩:=ex (au k.frames i);rw[<- SM] at x0 x1 x2 x3 HHW hd F0;obtain⟨fd,fr,fdy,fs⟩:=FR;simp only at x0 x1 x2 x3 HHW hd F0;subst hd;have d2:W.cell? (Ad (w.heap.size+1) 2)=some (.bool false):=aB F0.o 2 rfl;clear hW hP hR hcc A h ZQ SM G0 Qj cZ yu hdrop hi;go_enter Tryz.func190,Tryz.ntmps190;go_upto_region 1 with fail;go_region;rw[<- HHW.o];go_wp2;go_loopw [29] (fun iv wr=>∃(n:Nat) (S':dN),n<=np/\iv=I (n:Int)/\bQ lo mb tt X wr S' (kH k i n)/\dI S W S' wr) (fun iv _=>np-(intOf iv).toNat)
  case atStart=>exact⟨0,S,by omega,rfl,HMW.o,dI.refl _ _⟩
  case round =>
   obtain⟨n,S',hn,rfl,jn,hch⟩:=hrel;by_cases hlt:n<np
   · have hni:(n:Int)<(np:Int):=by omega
     have arL:=ai (HFO.o wr S' n hlt jn hch);have TE:=ai hch;clear jn hch HMW HCW;go_wp2_with (go_at_call 87;refine arL.o.mono ?_;rintro r w2 ⟨rfl,S2,hk2,hc2⟩;have pH:=ai hk2;have vv:=ai (TE.o.trans hc2);clear hk2 hc2)
     grind [intOf,Hid.o]
   · obtain rfl:n=np:=by omega
     have HX:=ai (E7.o wr S' jn hch);clear jn hch;go_wp2
     first
      | exact HX.o
      | (refine bR (v:=.tuple #[]) (by simp[results]) rfl ?_;exact HX.o)
 | true =>
  obtain⟨s,Ks,hsl,hsn⟩:=hR.slot hi ZQ;have ahO:dZ k i=fy k i s k.aj.length:=by
   unfold dZ fy;rw[hd,Ks,CL];rfl
  have E7:=ai (fun V S' h1 h2=>cZ.o V S' _ ahO.symm h1 h2);obtain⟨lb,cL,AL⟩:=HMW.o.toiZ.sl (by omega);obtain⟨aL,cL',eL,_,hrL⟩:=nD gp (fun _=>rfl) nU HMW.o.slots;have c2:=HMW.o.c2;rw[AL.v] at c2;have eL2:aL=some (Ad lb 0):=by
   grind [ace.v]
  subst eL2;have TD:Hid (Calls Tryz.prog 203 #[.slice (some (Ad lb 0)) k.slots.length cL,.func (.func 204) #[] #[]] W fun e w'=>e=.returned (I (s:Int))/\Below W.heap.size W w'):=(XU k.slots (some (Ad lb 0)) cL W hrL (by omega)).mono fun e w' ⟨hb,hh⟩=>by
   rcases hh with⟨_,hno⟩ | ⟨m,hm,he,hy,hno⟩
   · have:=hno s hsl;have hz:=(hR.slt s hsl).zero hsn;rw[hz] at this;cases this
   · have:=aat hR hm hy hno
     grind
  have dr:∀V:World,Below V.heap.size V V.drew:=fun V=>(aK _ _).drew
  have Qn:Hid (∀V U,Below W.heap.size W V->U=((V.setCell (Ad lb (s*2)) (.string (au k.frames i).data)).setCell (Ad lb (s*2+1)) (I (au k.frames i).refs)).drew->bQ lo mb tt X U S { k with slots:=k.slots.set s ⟨(au k.frames i).data,(au k.frames i).refs⟩ }/\dI S W S U):=fun V U hb hU=>by
   have m0:=HMW.o.below hb;have m1:=m0.agq AL.v hsl ⟨(au k.frames i).data,(au k.frames i).refs⟩;subst hU;exact⟨m1.1.below (dr _),((dI.below hb).trans m1.2).trans (dI.below (dr _))⟩
  have GK:Hid (∀V U,bQ lo mb tt X V S { k with slots:=k.slots.set s ⟨(au k.frames i).data,(au k.frames i).refs⟩ }->dI S W S V->U=((((V.setCell (Ad fb (i*4)) (.string ⟨#[]⟩)).setCell (Ad fb (i*4+1)) (I 0)).setCell (Ad fb (i*4+2)) (.bool false)).setCell (Ad fb (i*4+3)) (.bool false)).drew->bQ lo mb tt X U S (fy k i s 0)/\dI S W S U):=fun V U hV hc hU=>by
   have m2:=hV.WW A.v (i:=i) hi gD;subst hU;exact⟨m2.1.below (dr _),(hc.trans m2.2).trans (dI.below (dr _))⟩
  have Kv:Hid (∀V S' n,n<k.aj.length->bQ lo mb tt X V S' (fy k i s n)->dI S W S' V->∃pb cP ae ce lv ax nx cx,V.cell? (Ad pb (n*3))=some (.bool lv)/\V.cell? (Ad pb (n*3+1))=some (.slice ax nx cx)/\V.cell? (Ad pb (n*3+2))=some (.slice ae (ak k.aj n).aW.length ce)/\S'.vP=.slice (some (Ad pb 0)) k.aj.length cP /\
    ((fy k i s n=fy k i s (n+1)/\∀V',Below V.heap.size V V'->Calls Tryz.prog 153 #[.slice ae (ak k.aj n).aW.length ce,.func (.func 202) #[] #[.pointer (some (Ad w.heap.size 0))]] V' fun e w'=>e=.returned (I (-1))/\Below V'.heap.size V' w') ∨
    ∃(m eb:Nat),m<(ak k.aj n).aW.length/\ae=some (Ad eb 0)/\eb<V.heap.size/\∀V',Below V.heap.size V V'->Calls Tryz.prog 153 #[.slice ae (ak k.aj n).aW.length ce,.func (.func 202) #[] #[.pointer (some (Ad w.heap.size 0))]] V' fun e w'=>e=.returned (I (m:Int))/\Below V'.heap.size V' w'/\(∃u1 u2,w'.cell? (Ad eb (m*3+1))=some (I u1)/\w'.cell? (Ad eb (m*3+2))=some (I u2))/\w'.frozen? (Ad eb (m*3+1))=false/\w'.frozen? (Ad eb (m*3+2))=false/\(∀U,U=((w'.setCell (Ad eb (m*3+1)) (I 2)).setCell (Ad eb (m*3+2)) (I (s:Int))).drew->bQ lo mb tt X U S' (fy k i s (n+1))/\dI S' V S' U))):=fun V S' n hn hV hc=>by
   have hlen:(fy k i s n).aj.length=k.aj.length:=uJ _ _ _;have hn':n<(fy k i s n).aj.length:=by omega
   have hat:ak (fy k i s n).aj n=ak k.aj n:=by
    show ak (mS _ _ _) n=_
    grind [Ab]
   obtain⟨pb,cP,A'⟩:=hV.toiZ.sp (by omega);obtain⟨ae,ce,Cv,hre⟩:=hV.toiZ.aW hn';rw[hat] at Cv hre;have a0:=A'.x0 n hn';have a1:=A'.x1 n hn';have a2:=A'.x2 n hn';rw[Cv] at a2;have hv:=A'.v;rw[hlen] at hv;obtain⟨ax,cx,yt,_,_⟩:=aY (hV.each n hn').aZ;rw[yt] at a1;refine⟨pb,cP,ae,ce,_,ax,_,cx,a0,a1,a2,hv,?_⟩;have hx:V.heap[w.heap.size]?=some (.cells #[I (i:Int)] 3 (0,0)):=(yu.out S' V hc).1;have hix:∀V',Below V.heap.size V V'->_:=fun V' hb'=>Hg 202 (.inr (.inr rfl)) (kr (i:Int)) (ak k.aj n).aW ae ce w.heap.size V' (hre.below hb') (by grind [jC]) (fun U e hU=>Mg (i:Int) e w.heap.size U (aB (aQ (aQ hx hb' (aO hx)) hU (jt (aO hx) hb'.size)) 0 rfl))
   by_cases hex:∃m,m<(ak k.aj n).aW.length/\kr (i:Int) (aI (ak k.aj n).aW m)=true
   · obtain⟨m,hm,hy⟩:=hex;obtain⟨eb,hao,ai0⟩:∃eb,ae=some (Ad eb 0)/\eb<V.heap.size:=by
      obtain⟨ao,cap,e,_,hg⟩:=aY (hV.each n hn').aR
      grind
     subst hao;refine .inr ⟨m,eb,hm,rfl,ai0,fun V' hb'=>(hix V' hb').mono fun e w' ⟨hb,hh⟩=>?_⟩;have hbb:Below V.heap.size V w':=hb'.trans (hb.mono hb'.size);have he:e=.returned (I (m:Int)):=by
      grind [Tp]
     have mw:=hV.below hbb;have hs1:m<(ak (fy k i s n).aj n).aW.length:=by grind
     have hrow:=(mw.each n hn').aR;rw[hat,Cv] at hrow;have g1:=lB bk (fun _=>rfl) eD hrow m 1 hm (by omega);have g2:=lB bk (fun _=>rfl) eD hrow m 2 hm (by omega);refine⟨he,hb,⟨_,_,g1,g2⟩,ig hrow _,ig hrow _,fun U hU=>?_⟩;have e1:=mw.ad0 hn' Cv hs1 (c:=1) (by omega) (e:=⟨(aI (ak k.aj n).aW m).page,2,(aI (ak k.aj n).aW m).loc⟩) (u:=I 2) (by rw[hat];rfl);have hl2:n<({ fy k i s n with aj:=(fy k i s n).aj.set n (dX (ak (fy k i s n).aj n) ((ak (fy k i s n).aj n).aW.set m ⟨(aI (ak k.aj n).aW m).page,2,(aI (ak k.aj n).aW m).loc⟩)) }:aN).aj.length:=by
      grind
     have al6:ak ((fy k i s n).aj.set n (dX (ak (fy k i s n).aj n) ((ak (fy k i s n).aj n).aW.set m ⟨(aI (ak k.aj n).aW m).page,2,(aI (ak k.aj n).aW m).loc⟩))) n=dX (ak k.aj n) ((ak k.aj n).aW.set m ⟨(aI (ak k.aj n).aW m).page,2,(aI (ak k.aj n).aW m).loc⟩):=by
      grind [ja]
     have e2:=e1.1.ad0 hl2 Cv (i:=m) (by
      show m<(ak (List.set _ _ _) n).aW.length;rw[al6];show m<(List.set _ _ _).length
      grind) (c:=2) (by omega) (e:=⟨(aI (ak k.aj n).aW m).page,2,(s:Int)⟩) (u:=I (s:Int)) (by
      show _=(bk (aI (ak (List.set _ _ _) n).aW m)).set 2 _;rw[al6];show _=(bk ((List.set _ _ _).getD m eD)).set 2 _;rw[eX _ _ _ _ hm];rfl)
     have hK:({ ({ fy k i s n with aj:=(fy k i s n).aj.set n (dX (ak (fy k i s n).aj n) ((ak (fy k i s n).aj n).aW.set m ⟨(aI (ak k.aj n).aW m).page,2,(aI (ak k.aj n).aW m).loc⟩)) }:aN) with aj:=((fy k i s n).aj.set n (dX (ak (fy k i s n).aj n) ((ak (fy k i s n).aj n).aW.set m ⟨(aI (ak k.aj n).aW m).page,2,(aI (ak k.aj n).aW m).loc⟩))).set n (dX (ak ((fy k i s n).aj.set n (dX (ak (fy k i s n).aj n) ((ak (fy k i s n).aj n).aW.set m ⟨(aI (ak k.aj n).aW m).page,2,(aI (ak k.aj n).aW m).loc⟩))) n) ((ak ((fy k i s n).aj.set n (dX (ak (fy k i s n).aj n) ((ak (fy k i s n).aj n).aW.set m ⟨(aI (ak k.aj n).aW m).page,2,(aI (ak k.aj n).aW m).loc⟩))) n).aW.set m ⟨(aI (ak k.aj n).aW m).page,2,(s:Int)⟩)) }:aN)=fy k i s (n+1):=by
      grind [List.set_set,fy,CK,dX,jq,Rz,Tp]
     subst hU;have e3:=hK ▸ e2.1;exact⟨e3.below (dr _),(((dI.below hbb).trans e1.2).trans e2.2).trans (dI.below (dr _))⟩
   · have hno:∀m,m<(ak k.aj n).aW.length->kr (i:Int) (aI (ak k.aj n).aW m)=false:=fun m hm=>by
      grind
     refine .inl ⟨?_,fun V' hb'=>(hix V' hb').mono fun e w' ⟨hb,hh⟩=>?_⟩
     · unfold fy;congr 1;rw[<- CK _ _ _ hn];have e1:jq (i:Int) s (ak k.aj n)=ak (mS (jq i s) k.aj n) n:=by
        simp_all [Ab,jq,Vn]
       rw[e1];refine(n7 uP _ _ (by grind) (fun q hq=>?_)).symm
       grind [ak]
     grind
  obtain⟨pb,cP,AP⟩:=HMW.o.toiZ.sp (by omega);have hvP:=AP.v;have HVP:=ai AP.v;have np4:k.aj.length<=4:=by omega
  have Y9:=ai (fun V K (hV:bQ lo mb tt X V S K) (hK:K.frames=k.frames)=>(show(∀j,V.frozen? (Ad fb j)=false)/\V.cell? (Ad fb (i*4))=some (.string (au k.frames i).data)/\V.cell? (Ad fb (i*4+1))=some (I (au k.frames i).refs)/\V.cell? (Ad fb (i*4+2))=some (.bool (au k.frames i).fN)/\V.cell? (Ad fb (i*4+3))=some (.bool (au k.frames i).seen)/\V.cell? (Ad mb 1)=some (.slice (some (Ad fb 0)) k.frames.length cF)/\V.cell? (Ad mb 3)=some (.slice (some (Ad pb 0)) k.aj.length cP) from by
   obtain⟨fb',cF',A'⟩:=hV.toiZ.fr (by grind);have e:fb'=fb:=by
    have:=A'.v
    grind [Ai.v]
   subst e;have c1:=hV.c1
   grind [bQ.c3,Ai.v,Ai.x0,Ai.x1,Ai.x2,Ai.x3,Ai.fz]))
  have hx0:=AL.x0 s hsl;have hx1:=AL.x1 s hsl;have hz0:=AL.fz (s*2);have hz1:=AL.fz (s*2+1);have hll:=AL.lt;have vO:=ai (fun V (hV:bQ lo mb tt X V S (fy k i s 0))=>(show V.cell? (Ad mb 3)=some (.slice (some (Ad pb 0)) k.aj.length cP) from by grind [bQ.c3]));have q0:∀V,Below W.heap.size W V->V.cell? (Ad (w.heap.size+1) 0)=some (.string (au k.frames i).data)/\V.cell? (Ad (w.heap.size+1) 1)=some (I (au k.frames i).refs)/\V.cell? (Ad mb 2)=some (.slice (some (Ad lb 0)) k.slots.length cL)/\V.cell? (Ad lb (s*2))=some (.string (bw k.slots s).data)/\V.cell? (Ad lb (s*2+1))=some (I (bw k.slots s).refs)/\V.frozen? (Ad lb (s*2))=false/\V.frozen? (Ad lb (s*2+1))=false:=fun V hb=>by
   have hF:=aQ F0.o hb (aO F0.o);have mV:=HMW.o.below hb;obtain⟨lb',cL',A'⟩:=mV.toiZ.sl (by omega);have e:lb'=lb:=by
    have:=A'.v
    grind
   subst e;have c2:=mV.c2;rw[AL.v] at c2;exact⟨aB hF 0 rfl,aB hF 1 rfl,c2,A'.x0 s hsl,A'.x1 s hsl,A'.fz _,A'.fz _⟩
  have HQ0:=ai q0;have HXA:=ai (fun V (hc:dI S W S V)=>(show V.cell? (Ad w.heap.size 0)=some (I (i:Int)) from aB (yu.out S V hc).1 0 rfl));obtain⟨FR,SM⟩:=ex (au k.frames i);rw[<- SM] at x0 x1 x2 x3 HHW hd F0 Qn GK Y9 HQ0;obtain⟨SR,hSR⟩:=ex (bw k.slots s);rw[<- hSR] at HQ0;rw[hd] at x2 HHW F0;have d2:W.cell? (Ad (w.heap.size+1) 2)=some (.bool true):=aB F0.o 2 rfl;have hsi:(s:Int)<(k.slots.length:Int):=by omega
  have HMF:Hid (∀S' V,dI S W S' V->S'.vP=S.vP):=fun S' V hc=>hc.eP
  clear hW hP hR hcc A h ZQ SM cZ yu hi Ks hsn AL AP hrL eL q0 ahO hvP hSR dr hx0 hx1 hz0 hz1;go_enter Tryz.func190,Tryz.ntmps190;go_upto_region 1 with fail;go_region;rw[<- HHW.o];go_upto_region 10 with(go_at_call 203;refine TD.o.mono ?_;rintro e w1 ⟨rfl,hb1⟩;have cT:=ai hb1;clear hb1)
  obtain⟨p0,p1,p2,p3,p4,p5,p6⟩:=HQ0.o w1 cT.o;obtain⟨U1,hU1⟩:=ex (((w1.setCell (Ad lb (s*2)) (.string FR.data)).setCell (Ad lb (s*2+1)) (I FR.refs)).drew);have Y1:=ai hU1;obtain⟨hk1,hc1⟩:=Qn.o w1 U1 cT.o hU1;have yj:=ai hk1;have Ht:=ai hc1;clear hU1 hk1 hc1;go_region;rw[<- Y1.o];obtain⟨g0,g1,g2,g3,g4,g5,g6⟩:=Y9.o U1 _ yj.o rfl;have g0a:=g0 (i*4);have g0b:=g0 (i*4+1);have g0c:=g0 (i*4+2);have g0d:=g0 (i*4+3);have g7:=HXA.o U1 Ht.o;obtain⟨U2,hU2⟩:=ex (((((U1.setCell (Ad fb (i*4)) (.string ⟨#[]⟩)).setCell (Ad fb (i*4+1)) (I 0)).setCell (Ad fb (i*4+2)) (.bool false)).setCell (Ad fb (i*4+3)) (.bool false)).drew);have TA:=ai hU2;obtain⟨hk2,hc2⟩:=GK.o U1 U2 yj.o Ht.o hU2;have pH:=ai hk2;have vv:=ai hc2;have k3:=vO.o U2 hk2;clear hU2 hk2 hc2 p0 p1 p2 p3 p4 p5 p6 g0;go_upto_region 11 with fail;go_region;rw[<- TA.o];clear Y1 TA yj Ht cT g0a g0b g0c g0d g1 g2 g3 g4 g5 g6 g7;go_wp2;go_loopw [69] (fun iv wr=>∃(n:Nat) (S':dN),n<=k.aj.length/\iv=I (n:Int)/\bQ lo mb tt X wr S' (fy k i s n)/\dI S W S' wr) (fun iv _=>k.aj.length-(intOf iv).toNat)
  case atStart=>grind [Hid.o]
  case round =>
   obtain⟨n,S',hn,rfl,jn,hch⟩:=hrel;by_cases hlt:n<k.aj.length
   · have hni:(n:Int)<(k.aj.length:Int):=by omega
     obtain⟨GV,ZX,ae,ce,lv,ax,nx,cx,a0,a1,a2,hvp,hcs⟩:=Kv.o wr S' n hlt jn hch;have epb:GV=pb:=by
      rw[HMF.o S' wr hch,HVP.o] at hvp
      grind
     subst epb;have E6:=ai jn;have TE:=ai hch;have HA:=ai ((aK wr.heap.size wr).alloc (aM _) (.cells #[.bool lv,.slice ax nx cx,.slice ae (ak k.aj n).aW.length ce] 43));have BX:=ai (bG wr #[.bool lv,.slice ax nx cx,.slice ae (ak k.aj n).aW.length ce] 43);have apL:∀eb,eb<wr.heap.size->¬wr.heap.size=eb:=fun eb h=>by omega
     clear jn hch hvp pH vv;rcases hcs with⟨hsame,hcl⟩ | ⟨m,eb,hm,hae,ai0,hcl⟩
     · have HSM:=ai hsame;have Oj:=ai hcl;clear hsame hcl;go_wp2_with (go_at_call 153;refine(Oj.o _ HA.o).mono ?_;rintro e w2 ⟨rfl,hb2⟩;have fq:=ai (HA.o.trans (hb2.mono HA.o.size));clear hb2)
       go_roundw
       case rel=>exact⟨n+1,S',by omega,by go_num,HSM.o ▸ E6.o.below fq.o,TE.o.trans (dI.below fq.o)⟩
       grind [intOf]
     · subst hae;have Oj:=ai hcl;have hmi:(m:Int)<((ak k.aj n).aW.length:Int):=by omega
       have hm0:(0:Int)<=(m:Int):=by omega
       clear hcl apL;go_upto_region 17 with(go_at_call 153;refine(Oj.o _ HA.o).mono ?_;rintro e w2 ⟨rfl,hb2,⟨u1,u2,t1,t2⟩,t3,t4,hfin⟩;have BX2:=aQ BX.o hb2 (aO BX.o);obtain⟨r0,r1,r2⟩:=og BX2;have qN:=ai hfin;clear hb2 hfin BX2)
       go_region;go_wp2;go_roundw
       case rel =>
        obtain⟨z1,z2⟩:=qN.o _ rfl;exact⟨n+1,S',by omega,by go_num,z1,TE.o.trans z2⟩
       grind [intOf]
   · obtain rfl:n=k.aj.length:=by omega
     have HX:=ai (E7.o wr S' jn hch);clear jn hch;go_wp2
     first
      | exact HX.o
      | (refine q9 (v:=.tuple #[]) (by simp[results]) rfl ?_;exact HX.o)
structure kL (w:World) (S:dN) (ah:Option Addr) (held:List Int):Prop where
 has:dz eZ 1 0 w ah held
 no:∀b off,ah=some (Ad b off)->S.lab b=.no
 lt:∀b off,ah=some (Ad b off)->b<w.heap.size
theorem kL.ch {w w':World} {S S':dN} {ah:Option Addr} {held:List Int} (h:kL w S ah held) (hc:dI S w S' w'):kL w' S' ah held :=
 ⟨qR.kp h.has hc.kp (fun b off e z=>z (h.no b off e)),fun b off e=>hc.no b (h.lt b off e) (h.no b off e),fun b off e=>jt (h.lt b off e) hc.kp.size⟩
theorem aaq {held:List Int} {k:aN} {i:Nat} (h:(held.contains (i:Int) || (au k.frames i).seen)=false) (hi:i<k.frames.length):lW held k i=k:=by
 rw[NY] at h;unfold lW;rw[bl (by grind)];have:k.frames.set i (vI (au k.frames i))=k.frames:=by
  refine n7 gD _ _ jk (fun m hm=>?_);rw[jk] at hm;by_cases c:i=m
  · subst c;rw[eX _ _ _ _ hm];have e:=h.2;unfold vI;show(⟨(au k.frames i).data,(au k.frames i).refs,(au k.frames i).fN,false⟩:kj)=au k.frames i;rw[<- e]
  grind
 rw[this]
theorem UL {held:List Int} {k:aN} (hh:0<=k.hand/\k.hand<k.frames.length):({ lW held k k.hand.toNat with hand:=gM (lW held k k.hand.toNat) }:aN)=iO held k:=by
 grind [lW,iO,gM]
theorem Hc {lo mb:Nat} {tt:TypeId} {X:List Value} (k:aN) (S:dN) (w:World) (held:List Int) (ah:Option Addr) (ch:Nat) (h:bQ lo mb tt X w S k) (hR:bg k) (hl:held.length<=2) (hH:kL w S ah held) :
  Calls Tryz.prog 165 #[.pointer (some (Ad mb 0)),.slice ah held.length ch] w (dK lo mb tt X w S (I ((bH k held).1:Int)) (bH k held).2):=by
 have hcc:=hR.c;obtain⟨fb,cF,A⟩:=h.toiZ.fr (by omega);obtain⟨aF,cF',eF,_,hrF⟩:=nD gq (fun _=>rfl) gD h.frames;have eF2:aF=some (Ad fb 0):=by
  have:=eF;rw[A.v] at this
  grind
 subst eF2;have c1:=h.c1;rw[A.v] at c1;have hix:=XV k.frames (some (Ad fb 0)) cF w hrF (by omega);by_cases hex:∃i,i<k.frames.length/\mJ (au k.frames i)=true/\∀j,j<i->mJ (au k.frames j)=false
 · obtain⟨i,hi,hy,hno⟩:=hex;have hf:=aau hR hi hy hno;have hg:bH k held=(i,k):=by grind [bH]
   have TD:Hid (Calls Tryz.prog 187 #[.slice (some (Ad fb 0)) k.frames.length cF,.func (.func 168) #[] #[]] w fun e w'=>e=.returned (I (i:Int))/\Below w.heap.size w w'):=hix.mono fun e w' ⟨hb,hh⟩=>by
    grind
   have cZ:Hid (∀V,Below w.heap.size w V->dK lo mb tt X w S (I ((bH k held).1:Int)) (bH k held).2 (.returned (I (i:Int))) V):=fun V hb=>by
    rw[hg];exact⟨rfl,S,h.below hb,dI.below hb⟩
   obtain⟨P,hP⟩:=ex (dK lo mb tt X w S (I ((bH k held).1:Int)) (bH k held).2);rw[<- hP] at cZ ⊢;have hi0:(0:Int)<=(i:Int):=by omega
   clear hP hix hg hf hno hy h hR hcc A eF hrF hH;go_enter Tryz.func165,Tryz.ntmps165;go_wp2_with (go_at_call 187;refine TD.o.mono ?_;rintro e w1 ⟨rfl,hb1⟩;have cT:=ai hb1;clear hb1)
   exact cZ.o _ cT.o
 · have hall:∀j,j<k.frames.length->mJ (au k.frames j)=false:=fun j=>by
    induction j using Nat.strongRecOn with
    | _ j ih =>
     grind
   obtain⟨hf,SL⟩:=aas hR hall;obtain⟨T,hT,IG,Gl⟩:=A5 held hl hR SL;have Fz:=A4 held T 69 k (by omega) IG Gl;have hg:bH k held=((bJ held T k).hand.toNat,{ dZ (bJ held T k) (bJ held T k).hand.toNat with hand:=gM (bJ held T k) }):=by
    grind [bH]
   have TD:Hid (Calls Tryz.prog 187 #[.slice (some (Ad fb 0)) k.frames.length cF,.func (.func 168) #[] #[]] w fun e w'=>e=.returned (I (-1))/\Below w.heap.size w w'):=hix.mono fun e w' ⟨hb,hh⟩=>by
    grind
   have TK:=BC held hR SL;have rU:∀n,(bJ held n k).frames.length=k.frames.length:=fun n=>(TK n).kept.nf
   have ZR:∀n,0<=(bJ held n k).hand/\(bJ held n k).hand<(bJ held n k).frames.length:=fun n=>(TK n).right.hand
   have HPS:Hid (∀V S' n,bQ lo mb tt X V S' (bJ held n k)->dI S w S' V->Calls Tryz.prog 188 #[.pointer (some (Ad mb 0)),I (bJ held n k).hand,.slice ah held.length ch] V (kW lo mb tt X V S' (.bool (kG held (bJ held n k))) (lW held (bJ held n k) (bJ held n k).hand.toNat))):=fun V S' n hV hc=>by
    have e:(((bJ held n k).hand.toNat:Nat):Int)=(bJ held n k).hand:=by grind
    have:=Rh (bJ held n k) S' V (bJ held n k).hand.toNat held ah ch hV (by grind) (hH.ch hc).has (by omega);rw[e] at this;exact this
   have HMV:Hid (∀V S' n,bQ lo mb tt X V S' (lW held (bJ held n k) (bJ held n k).hand.toNat)->Calls Tryz.prog 189 #[.pointer (some (Ad mb 0))] V (kW lo mb tt X V S' (.tuple #[]) (bJ held (n+1) k))):=fun V S' n hV=>by
    have hpk:(lW held (bJ held n k) (bJ held n k).hand.toNat).frames.length=(bJ held n k).frames.length/\(lW held (bJ held n k) (bJ held n k).hand.toNat).hand=(bJ held n k).hand:=by
     unfold lW
     grind
    have:=Dw (lW held (bJ held n k) (bJ held n k).hand.toNat) S' V hV (by grind) (by grind);rw[UL (ZR n)] at this;exact this
   have HST:Hid (∀V S',bQ lo mb tt X V S' (lW held (bJ held T k) (bJ held T k).hand.toNat)->bQ lo mb tt X V S' (bJ held T k)):=fun V S' hV=>by
    have e:(((bJ held T k).hand.toNat:Nat):Int)=(bJ held T k).hand:=by grind
    rw[aaq (by rw[e];exact Gl) (by grind)] at hV;exact hV
   have HPA:Hid (∀V S',bQ lo mb tt X V S' (bJ held T k)->Calls Tryz.prog 190 #[.pointer (some (Ad mb 0)),I (bJ held T k).hand] V (dK lo mb tt X V S' (.tuple #[]) (dZ (bJ held T k) (bJ held T k).hand.toNat))):=fun V S' hV=>by
    have e:(((bJ held T k).hand.toNat:Nat):Int)=(bJ held T k).hand:=by grind
    have:=Nf (bJ held T k) S' V (bJ held T k).hand.toNat hV (TK T).right (by grind) ((TK T).full _ (by grind));rw[e] at this;exact this
   have apT:=DC (bJ held T k) (bJ held T k).hand.toNat
   have Wd:Hid (∀V S',bQ lo mb tt X V S' (dZ (bJ held T k) (bJ held T k).hand.toNat)->Calls Tryz.prog 189 #[.pointer (some (Ad mb 0))] V (kW lo mb tt X V S' (.tuple #[]) { dZ (bJ held T k) (bJ held T k).hand.toNat with hand:=gM (bJ held T k) })):=fun V S' hV=>by
    have hlen:(dZ (bJ held T k) (bJ held T k).hand.toNat).frames.length=(bJ held T k).frames.length:=by grind
    have:=Dw _ S' V hV (by grind) (by grind);have e:gM (dZ (bJ held T k) (bJ held T k).hand.toNat)=gM (bJ held T k):=by
     unfold gM
     grind
    rw[e] at this;exact this
   have HHD:Hid (∀V S' n,bQ lo mb tt X V S' (bJ held n k)->V.cell? (Ad mb 4)=some (I (bJ held n k).hand)):=fun V S' n hV=>hV.c4
   have HHI:=ai (fun n=>ZR n);have HPP:=ai IG;have ZF:=ai Gl;have cZ:Hid (∀V S',bQ lo mb tt X V S' { dZ (bJ held T k) (bJ held T k).hand.toNat with hand:=gM (bJ held T k) }->dI S w S' V->dK lo mb tt X w S (I ((bH k held).1:Int)) (bH k held).2 (.returned (I (bJ held T k).hand)) V):=fun V S' h1 h2=>by
    rw[hg];refine⟨?_,S',h1,h2⟩
    grind
   obtain⟨P,hP⟩:=ex (dK lo mb tt X w S (I ((bH k held).1:Int)) (bH k held).2);rw[<- hP] at cZ ⊢;have rz:=ai h;clear hP hix hg hf hall hex h hR hcc A eF hrF hH TK rU ZR IG Gl Fz SL apT hl;go_enter Tryz.func165,Tryz.ntmps165;go_wp2_with (go_at_call 187;refine TD.o.mono ?_;rintro e w1 ⟨rfl,hb1⟩;have cT:=ai hb1;clear hb1)
   go_loopg [23] T (fun g _ wr=>∃(n:Nat) (S':dN),n<=T/\g=T-n/\bQ lo mb tt X wr S' (bJ held n k)/\dI S w S' wr)
   case atStart=>exact⟨0,S,by omega,by omega,rz.o.below cT.o,dI.below cT.o⟩
   case round =>
    obtain⟨n,S',hn,hgk,jn,hch⟩:=hrel;have d4:=HHD.o wr S' n jn;have adw:=ai (HPS.o wr S' n jn hch);have aj4:=ai (fun V=>HMV.o V S' n);have TE:=ai hch;have HGK:=ai hgk;clear jn hch hgk rz;by_cases hlt:n<T
    · have hp:=HPP.o n hlt;rw[hp] at adw;obtain⟨hd,ZR⟩:=ex ((bJ held n k).hand);rw[<- ZR] at d4 adw aj4;clear hp ZR;go_wp2_with (first
       | (go_at_call 188;refine adw.o.mono ?_;rintro e w2 ⟨rfl,hk2,hc2⟩;have pH:=ai hk2;have vv:=ai (TE.o.trans hc2);clear hk2 hc2)
       | (go_at_call 189;refine(aj4.o _ pH.o).mono ?_;rintro e w3 ⟨rfl,hk3,hc3⟩;have sX:=ai hk3;have vO:=ai (vv.o.trans hc3);clear hk3 hc3))
      go_roundg (T-(n+1))
      case measure=>have:=HGK.o;omega
      case rel=>exact⟨n+1,S',by omega,by omega,sX.o,vO.o⟩
    · obtain rfl:n=T:=by omega
      have hp:=ZF.o;rw[hp] at adw;obtain⟨IT,hIT⟩:=ex (bJ held n k);rw[<- hIT] at d4 adw HST HPA Wd cZ;have arF:Hid (∀V S',bQ lo mb tt X V S' IT->V.cell? (Ad mb 4)=some (I IT.hand)):=fun V S' hV=>hV.c4
      clear hp hIT HMV aj4 HPS HHD HPP ZF HHI;go_wp2_with (first
       | (go_at_call 188;refine adw.o.mono ?_;rintro e w2 ⟨rfl,hk2,hc2⟩;have aiU:=HST.o _ _ hk2;have pH:=ai aiU;have vv:=ai (TE.o.trans hc2);have d5:=arF.o w2 S' aiU;clear hk2 hc2 aiU)
       | (go_at_call 190;refine(HPA.o _ _ pH.o).mono ?_;rintro e w3 ⟨rfl,S3,hk3,hc3⟩;have sX:=ai hk3;have vO:=ai (vv.o.trans hc3);clear hk3 hc3)
       | (go_at_call 189;refine(Wd.o _ _ sX.o).mono ?_;rintro e w4 ⟨rfl,hk4,QQ⟩;have HK4:=ai hk4;have HC4:=ai (vO.o.trans QQ);clear hk4 QQ))
      exact cZ.o _ _ HK4.o HC4.o
end Go.Proofs.YtpgifpeohlllfaaGreat
end Go.Proofs.YtpgifpeohlllfaaGreat
