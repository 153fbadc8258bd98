import Derived.Test.YtpgifpeohlllfaaGreatGR17
set_option maxHeartbeats 20000000
set_option linter.unusedVariables false
set_option maxRecDepth 100000
set_option linter.unusedSimpArgs false
namespace Go.Proofs.YtpgifpeohlllfaaGreat
open Go.RowKit
def lM (f:cO->cO) (l:List cO) (n:Nat):List cO:=(l.take n).map f++l.drop n
theorem sH (f:cO->cO) (l:List cO) (n:Nat):(lM f l n).length=l.length:=by
 grind [lM]
theorem xR (f:cO->cO) (l:List cO) (n m:Nat) (hm:m<l.length):ak (lM f l n) m=if m<n then f (ak l m) else ak l m:=by
 grind [lM,ak]
theorem zQ (f:cO->cO) (l:List cO) (n:Nat) (hn:n<l.length):(lM f l n).set n (f (ak l n))=lM f l (n+1):=by
 refine nD sM _ _ (by grind [sH]) (fun m hm=>?_)
 grind [sH,lM,ak]
theorem zR (f:cO->cO) (l:List cO):lM f l l.length=l.map f:=by
 grind [lM]
def dZ (k:aN) (i s n:Nat):aN:={ k with frames:=k.frames.set i eW,slots:=k.slots.set s ⟨(au k.frames i).data,(au k.frames i).refs⟩,aj:=lM (ik i s) k.aj n }
theorem JM {lo mb:Nat} {tt:TypeId} {X:List Value} (k:aN) (S:dE) (w:World) (i:Nat) (h:bu lo mb tt X w S k) (hR:bc k) (hi:i<k.frames.length) (YN:(au k.frames i).refs≠0) :
  Calls Tryz.prog 190 #[.pointer (some (Ad mb 0)),I (i:Int)] w (cT lo mb tt X w S (.tuple #[]) (dh k i)):=by
 have hcc:=hR.c;obtain⟨fb,cF,A⟩:=h.toKr.fr (by omega);obtain⟨W,hW⟩:=ex (((w.alloc (.cells #[I (i:Int)] 3)).alloc (.cells #[.string (au k.frames i).data,I (au k.frames i).refs,.bool (au k.frames i).eX,.bool (au k.frames i).seen] 40)).drew);have eU:Hid (Below w.heap.size w W):=by rw[hW];exact(((aK w.heap.size w).alloc (aI _) _).alloc (by simp) _).drew
 have X0:Hid (W.heap[w.heap.size]?=some (.cells #[I (i:Int)] 3 (0,0))):=by rw[hW];exact bM (bO w _ _) _
 have F0:Hid (W.heap[w.heap.size+1]?=some (.cells #[.string (au k.frames i).data,I (au k.frames i).refs,.bool (au k.frames i).eX,.bool (au k.frames i).seen] 40 (0,0))):=by
  have:=bO (w.alloc (.cells #[I (i:Int)] 3)) #[.string (au k.frames i).data,I (au k.frames i).refs,.bool (au k.frames i).eX,.bool (au k.frames i).seen] 40;rw[ig] at this;rw[hW];exact this
 have HMW:=ai (h.below eU.o);have ZJ:Hid (bU S w S W):=bU.below eU.o;have n0:S.lab w.heap.size=.no:=h.toKr.new (aI _);have n1:S.lab (w.heap.size+1)=.no:=h.toKr.new (vh _);have KE:Hid (∀S' V,bU S W S' V->V.heap[w.heap.size]?=some (.cells #[I (i:Int)] 3 (0,0))/\V.heap[w.heap.size+1]?=some (.cells #[.string (au k.frames i).data,I (au k.frames i).refs,.bool (au k.frames i).eX,.bool (au k.frames i).seen] 40 (0,0))):=fun S' V hV=>⟨hV.keep X0.o n0,hV.keep F0.o n1⟩
 have c1:=h.c1;rw[A.v] at c1;have x0:=A.x0 i hi;have x1:=A.x1 i hi;have x2:=A.x2 i hi;have x3:=A.x3 i hi;have JC:(i:Int)<(k.frames.length:Int):=by omega
 have yT:=h.lt;have hfl:=A.lt;have cV:Hid (∀V S' K,K=dh k i->bu lo mb tt X V S' K->bU S W S' V->cT lo mb tt X w S (.tuple #[]) (dh k i) (.returned (.tuple #[])) V):=fun V S' K hK h1 h2=>⟨rfl,S',hK ▸ h1,ZJ.o.trans h2⟩
 obtain⟨P,hP⟩:=ex (cT lo mb tt X w S (.tuple #[]) (dh k i));rw[<- hP] at cV ⊢;have HHW:=ai hW;cases hd:(au k.frames i).eX with
 | false =>
  have hdrop:dh k i=jw k i k.aj.length:=by
   grind [Uf,dh]
  have UK:=ai (fun V S' h1 h2=>cV.o V S' _ hdrop.symm h1 h2);have Z2:Hid (∀V S' n,n<k.aj.length->bu lo mb tt X V S' (jw k i n)->bU S W S' V->Calls Tryz.prog 87 #[.pointer (some (Ad mb 0)),I (n:Int),.func (.func 202) #[] #[.pointer (some (Ad w.heap.size 0))]] V (cT lo mb tt X V S' (.tuple #[]) (jw k i (n+1)))):=fun V S' n hn hV hc=>by
   have hp:=vQ hR i n (by omega);refine NC 202 [.pointer (some (Ad w.heap.size 0))] w.heap.size (.inl ⟨rfl,rfl⟩) (jw k i n) S' V n (iu (i:Int)) hV hp.1 (by omega) (fun U e hU=>?_);have hx:=(KE.out S' V hc).1;have hno:S'.lab w.heap.size=.no:=hc.no _ (aT X0.o) n0;exact I0 (i:Int) e w.heap.size U (aB (hU.keep hx (fun z=>z hno)) 0 rfl)
  have Mu:Hid (∀V S' n,bu lo mb tt X V S' (jw k i n)->n<=k.aj.length->∃av cv,V.cell? (Ad mb 3)=some (.slice av k.aj.length cv)):=fun V S' n hV hn=>by
   have hp:=vQ hR i n hn;obtain⟨pb,cP,A'⟩:=hV.toKr.sp (by omega);have:=hV.c3;rw[A'.v,hp.2.2.2.2.2.1] at this
   grind
  obtain⟨av,cv,d3⟩:=Mu.o W S 0 HMW.o (by omega);obtain⟨np,Ee⟩:=ex k.aj.length;rw[<- Ee] at d3 Z2 UK;have ahi:np<=4:=by omega
  obtain⟨FR,OM⟩:=ex (au k.frames i);rw[<- OM] at x0 x1 x2 x3 HHW hd F0;obtain⟨fd,fr,fdy,fs⟩:=FR;simp only at x0 x1 x2 x3 HHW hd F0;subst hd;have d2:W.cell? (Ad (w.heap.size+1) 2)=some (.bool false):=aB F0.o 2 rfl;clear hW hP hR hcc A h YN OM Ee Mu cV KE hdrop hi;go_enter Tryz.func190,Tryz.ntmps190;go_upto_region 1 with fail;go_region;rw[<- HHW.o];go_wp2;go_loopw [29] (fun iv wr=>∃(n:Nat) (S':dE),n<=np/\iv=I (n:Int)/\bu lo mb tt X wr S' (jw k i n)/\bU S W S' wr) (fun iv _=>np-(intOf iv).toNat)
  case atStart=>exact⟨0,S,by omega,rfl,HMW.o,bU.refl _ _⟩
  case round =>
   obtain⟨n,S',hn,rfl,iU,hch⟩:=hrel;by_cases hlt:n<np
   · have hni:(n:Int)<(np:Int):=by omega
     have anL:=ai (Z2.o wr S' n hlt iU hch);have Pv:=ai hch;clear iU hch HMW ZJ;go_wp2_with (go_at_call 87;refine anL.o.mono ?_;rintro r w2 ⟨rfl,S2,hk2,hc2⟩;have qa:=ai hk2;have tD:=ai (Pv.o.trans hc2);clear hk2 hc2)
     grind [intOf,Hid.o]
   · obtain rfl:n=np:=by omega
     have HX:=ai (UK.o wr S' iU hch);clear iU hch;go_wp2
     first
      | exact HX.o
      | (refine cm (v:=.tuple #[]) (by simp[results]) rfl ?_;exact HX.o)
 | true =>
  obtain⟨s,Qc,hsl,hsn⟩:=hR.slot hi YN;have adJ:dh k i=dZ k i s k.aj.length:=by
   unfold dh dZ;rw[hd,Qc,zR];rfl
  have UK:=ai (fun V S' h1 h2=>cV.o V S' _ adJ.symm h1 h2);obtain⟨lb,cL,AL⟩:=HMW.o.toKr.sl (by omega);obtain⟨aL,cL',eL,_,hrL⟩:=mL fA (fun _=>rfl) jS HMW.o.slots;have c2:=HMW.o.c2;rw[AL.v] at c2;have eL2:aL=some (Ad lb 0):=by
   grind [Yt.v]
  subst eL2;have Pt:Hid (Calls Tryz.prog 203 #[.slice (some (Ad lb 0)) k.slots.length cL,.func (.func 204) #[] #[]] W fun e w'=>e=.returned (I (s:Int))/\Below W.heap.size W w'):=(TG k.slots (some (Ad lb 0)) cL W hrL (by omega)).mono fun e w' ⟨hb,hh⟩=>by
   rcases hh with⟨_,hno⟩ | ⟨m,hm,he,hy,hno⟩
   · have:=hno s hsl;have hz:=(hR.slt s hsl).zero hsn;rw[hz] at this;cases this
   · have:=V9 hR hm hy hno
     grind
  have dr:∀V:World,Below V.heap.size V V.drew:=fun V=>(aK _ _).drew
  have Xq:Hid (∀V U,Below W.heap.size W V->U=((V.setCell (Ad lb (s*2)) (.string (au k.frames i).data)).setCell (Ad lb (s*2+1)) (I (au k.frames i).refs)).drew->bu lo mb tt X U S { k with slots:=k.slots.set s ⟨(au k.frames i).data,(au k.frames i).refs⟩ }/\bU S W S U):=fun V U hb hU=>by
   have m0:=HMW.o.below hb;have m1:=m0.ace AL.v hsl ⟨(au k.frames i).data,(au k.frames i).refs⟩;subst hU;exact⟨m1.1.below (dr _),((bU.below hb).trans m1.2).trans (bU.below (dr _))⟩
  have Mx:Hid (∀V U,bu lo mb tt X V S { k with slots:=k.slots.set s ⟨(au k.frames i).data,(au k.frames i).refs⟩ }->bU S W S V->U=((((V.setCell (Ad fb (i*4)) (.string ⟨#[]⟩)).setCell (Ad fb (i*4+1)) (I 0)).setCell (Ad fb (i*4+2)) (.bool false)).setCell (Ad fb (i*4+3)) (.bool false)).drew->bu lo mb tt X U S (dZ k i s 0)/\bU S W S U):=fun V U hV hc hU=>by
   have m2:=hV.SM A.v (i:=i) hi eW;subst hU;exact⟨m2.1.below (dr _),(hc.trans m2.2).trans (bU.below (dr _))⟩
  have Hg:Hid (∀V S' n,n<k.aj.length->bu lo mb tt X V S' (dZ k i s n)->bU S W S' V->∃pb cP ae ce lv ax nx cx,V.cell? (Ad pb (n*3))=some (.bool lv)/\V.cell? (Ad pb (n*3+1))=some (.slice ax nx cx)/\V.cell? (Ad pb (n*3+2))=some (.slice ae (ak k.aj n).aU.length ce)/\S'.vP=.slice (some (Ad pb 0)) k.aj.length cP /\
    ((dZ k i s n=dZ k i s (n+1)/\∀V',Below V.heap.size V V'->Calls Tryz.prog 153 #[.slice ae (ak k.aj n).aU.length ce,.func (.func 202) #[] #[.pointer (some (Ad w.heap.size 0))]] V' fun e w'=>e=.returned (I (-1))/\Below V'.heap.size V' w') ∨
    ∃(m eb:Nat),m<(ak k.aj n).aU.length/\ae=some (Ad eb 0)/\eb<V.heap.size/\∀V',Below V.heap.size V V'->Calls Tryz.prog 153 #[.slice ae (ak k.aj n).aU.length ce,.func (.func 202) #[] #[.pointer (some (Ad w.heap.size 0))]] V' fun e w'=>e=.returned (I (m:Int))/\Below V'.heap.size V' w'/\(∃u1 u2,w'.cell? (Ad eb (m*3+1))=some (I u1)/\w'.cell? (Ad eb (m*3+2))=some (I u2))/\w'.frozen? (Ad eb (m*3+1))=false/\w'.frozen? (Ad eb (m*3+2))=false/\(∀U,U=((w'.setCell (Ad eb (m*3+1)) (I 2)).setCell (Ad eb (m*3+2)) (I (s:Int))).drew->bu lo mb tt X U S' (dZ k i s (n+1))/\bU S' V S' U))):=fun V S' n hn hV hc=>by
   have hlen:(dZ k i s n).aj.length=k.aj.length:=sH _ _ _;have hn':n<(dZ k i s n).aj.length:=by omega
   have hat:ak (dZ k i s n).aj n=ak k.aj n:=by
    show ak (lM _ _ _) n=_
    grind [xR]
   obtain⟨pb,cP,A'⟩:=hV.toKr.sp (by omega);obtain⟨ae,ce,zE,hre⟩:=hV.toKr.aU hn';rw[hat] at zE hre;have a0:=A'.x0 n hn';have a1:=A'.x1 n hn';have a2:=A'.x2 n hn';rw[zE] at a2;have hv:=A'.v;rw[hlen] at hv;obtain⟨ax,cx,Av,_,_⟩:=aY (hV.each n hn').bk;rw[Av] at a1;refine⟨pb,cP,ae,ce,_,ax,_,cx,a0,a1,a2,hv,?_⟩;have hx:V.heap[w.heap.size]?=some (.cells #[I (i:Int)] 3 (0,0)):=(KE.out S' V hc).1;have YV:∀V',Below V.heap.size V V'->_:=fun V' hb'=>Es 202 (.inr (.inr rfl)) (iu (i:Int)) (ak k.aj n).aU ae ce w.heap.size V' (hre.below hb') (by grind [iZ]) (fun U e hU=>I0 (i:Int) e w.heap.size U (aB (aQ (aQ hx hb' (aT hx)) hU (iH (aT hx) hb'.size)) 0 rfl))
   by_cases hex:∃m,m<(ak k.aj n).aU.length/\iu (i:Int) (aH (ak k.aj n).aU m)=true
   · obtain⟨m,hm,hy⟩:=hex;obtain⟨eb,hao,aeS⟩:∃eb,ae=some (Ad eb 0)/\eb<V.heap.size:=by
      obtain⟨ao,cap,e,_,hg⟩:=aY (hV.each n hn').bC
      grind
     subst hao;refine .inr ⟨m,eb,hm,rfl,aeS,fun V' hb'=>(YV V' hb').mono fun e w' ⟨hb,hh⟩=>?_⟩;have hbb:Below V.heap.size V w':=hb'.trans (hb.mono hb'.size);have he:e=.returned (I (m:Int)):=by
      grind [Pf]
     have mw:=hV.below hbb;have hs1:m<(ak (dZ k i s n).aj n).aU.length:=by grind
     have hrow:=(mw.each n hn').bC;rw[hat,zE] at hrow;have g1:=jJ bj (fun _=>rfl) dW hrow m 1 hm (by omega);have g2:=jJ bj (fun _=>rfl) dW hrow m 2 hm (by omega);refine⟨he,hb,⟨_,_,g1,g2⟩,gp hrow _,gp hrow _,fun U hU=>?_⟩;have e1:=mw.Z8 hn' zE hs1 (c:=1) (by omega) (e:=⟨(aH (ak k.aj n).aU m).page,2,(aH (ak k.aj n).aU m).loc⟩) (u:=I 2) (by rw[hat];rfl);have hl2:n<({ dZ k i s n with aj:=(dZ k i s n).aj.set n (dG (ak (dZ k i s n).aj n) ((ak (dZ k i s n).aj n).aU.set m ⟨(aH (ak k.aj n).aU m).page,2,(aH (ak k.aj n).aU m).loc⟩)) }:aN).aj.length:=by
      grind
     have ahQ:ak ((dZ k i s n).aj.set n (dG (ak (dZ k i s n).aj n) ((ak (dZ k i s n).aj n).aU.set m ⟨(aH (ak k.aj n).aU m).page,2,(aH (ak k.aj n).aU m).loc⟩))) n=dG (ak k.aj n) ((ak k.aj n).aU.set m ⟨(aH (ak k.aj n).aU m).page,2,(aH (ak k.aj n).aU m).loc⟩):=by
      grind [lO]
     have e2:=e1.1.Z8 hl2 zE (i:=m) (by
      show m<(ak (List.set _ _ _) n).aU.length;rw[ahQ];show m<(List.set _ _ _).length
      grind) (c:=2) (by omega) (e:=⟨(aH (ak k.aj n).aU m).page,2,(s:Int)⟩) (u:=I (s:Int)) (by
      show _=(bj (aH (ak (List.set _ _ _) n).aU m)).set 2 _;rw[ahQ];show _=(bj ((List.set _ _ _).getD m dW)).set 2 _;rw[eD _ _ _ _ hm];rfl)
     have hK:({ ({ dZ k i s n with aj:=(dZ k i s n).aj.set n (dG (ak (dZ k i s n).aj n) ((ak (dZ k i s n).aj n).aU.set m ⟨(aH (ak k.aj n).aU m).page,2,(aH (ak k.aj n).aU m).loc⟩)) }:aN) with aj:=((dZ k i s n).aj.set n (dG (ak (dZ k i s n).aj n) ((ak (dZ k i s n).aj n).aU.set m ⟨(aH (ak k.aj n).aU m).page,2,(aH (ak k.aj n).aU m).loc⟩))).set n (dG (ak ((dZ k i s n).aj.set n (dG (ak (dZ k i s n).aj n) ((ak (dZ k i s n).aj n).aU.set m ⟨(aH (ak k.aj n).aU m).page,2,(aH (ak k.aj n).aU m).loc⟩))) n) ((ak ((dZ k i s n).aj.set n (dG (ak (dZ k i s n).aj n) ((ak (dZ k i s n).aj n).aU.set m ⟨(aH (ak k.aj n).aU m).page,2,(aH (ak k.aj n).aU m).loc⟩))) n).aU.set m ⟨(aH (ak k.aj n).aU m).page,2,(s:Int)⟩)) }:aN)=dZ k i s (n+1):=by
      grind [List.set_set,dZ,zQ,dG,ik,NR,Pf]
     subst hU;have e3:=hK ▸ e2.1;exact⟨e3.below (dr _),(((bU.below hbb).trans e1.2).trans e2.2).trans (bU.below (dr _))⟩
   · have hno:∀m,m<(ak k.aj n).aU.length->iu (i:Int) (aH (ak k.aj n).aU m)=false:=fun m hm=>by
      grind
     refine .inl ⟨?_,fun V' hb'=>(YV V' hb').mono fun e w' ⟨hb,hh⟩=>?_⟩
     · unfold dZ;congr 1;rw[<- zQ _ _ _ hn];have e1:ik (i:Int) s (ak k.aj n)=ak (lM (ik i s) k.aj n) n:=by
        simp_all [xR,ik,Q0]
       rw[e1];refine(nD sM _ _ (by grind) (fun q hq=>?_)).symm
       grind [ak]
     grind
  obtain⟨pb,cP,AP⟩:=HMW.o.toKr.sp (by omega);have hvP:=AP.v;have HVP:=ai AP.v;have np4:k.aj.length<=4:=by omega
  have UM:=ai (fun V K (hV:bu lo mb tt X V S K) (hK:K.frames=k.frames)=>(show(∀j,V.frozen? (Ad fb j)=false)/\V.cell? (Ad fb (i*4))=some (.string (au k.frames i).data)/\V.cell? (Ad fb (i*4+1))=some (I (au k.frames i).refs)/\V.cell? (Ad fb (i*4+2))=some (.bool (au k.frames i).eX)/\V.cell? (Ad fb (i*4+3))=some (.bool (au k.frames i).seen)/\V.cell? (Ad mb 1)=some (.slice (some (Ad fb 0)) k.frames.length cF)/\V.cell? (Ad mb 3)=some (.slice (some (Ad pb 0)) k.aj.length cP) from by
   obtain⟨YZ,cF',A'⟩:=hV.toKr.fr (by grind);have e:YZ=fb:=by
    have:=A'.v
    grind [xW.v]
   subst e;have c1:=hV.c1
   grind [bu.c3,xW.v,xW.x0,xW.x1,xW.x2,xW.x3,xW.fz]))
  have hx0:=AL.x0 s hsl;have hx1:=AL.x1 s hsl;have hz0:=AL.fz (s*2);have hz1:=AL.fz (s*2+1);have hll:=AL.lt;have tP:=ai (fun V (hV:bu lo mb tt X V S (dZ k i s 0))=>(show V.cell? (Ad mb 3)=some (.slice (some (Ad pb 0)) k.aj.length cP) from by grind [bu.c3]));have q0:∀V,Below W.heap.size W V->V.cell? (Ad (w.heap.size+1) 0)=some (.string (au k.frames i).data)/\V.cell? (Ad (w.heap.size+1) 1)=some (I (au k.frames i).refs)/\V.cell? (Ad mb 2)=some (.slice (some (Ad lb 0)) k.slots.length cL)/\V.cell? (Ad lb (s*2))=some (.string (br k.slots s).data)/\V.cell? (Ad lb (s*2+1))=some (I (br k.slots s).refs)/\V.frozen? (Ad lb (s*2))=false/\V.frozen? (Ad lb (s*2+1))=false:=fun V hb=>by
   have hF:=aQ F0.o hb (aT F0.o);have mV:=HMW.o.below hb;obtain⟨lb',cL',A'⟩:=mV.toKr.sl (by omega);have e:lb'=lb:=by
    have:=A'.v
    grind
   subst e;have c2:=mV.c2;rw[AL.v] at c2;exact⟨aB hF 0 rfl,aB hF 1 rfl,c2,A'.x0 s hsl,A'.x1 s hsl,A'.fz _,A'.fz _⟩
  have HQ0:=ai q0;have HXA:=ai (fun V (hc:bU S W S V)=>(show V.cell? (Ad w.heap.size 0)=some (I (i:Int)) from aB (KE.out S V hc).1 0 rfl));obtain⟨FR,OM⟩:=ex (au k.frames i);rw[<- OM] at x0 x1 x2 x3 HHW hd F0 Xq Mx UM HQ0;obtain⟨SR,hSR⟩:=ex (br k.slots s);rw[<- hSR] at HQ0;rw[hd] at x2 HHW F0;have d2:W.cell? (Ad (w.heap.size+1) 2)=some (.bool true):=aB F0.o 2 rfl;have hsi:(s:Int)<(k.slots.length:Int):=by omega
  have HMF:Hid (∀S' V,bU S W S' V->S'.vP=S.vP):=fun S' V hc=>hc.eP
  clear hW hP hR hcc A h YN OM cV KE hi Qc hsn AL AP hrL eL q0 adJ hvP hSR dr hx0 hx1 hz0 hz1;go_enter Tryz.func190,Tryz.ntmps190;go_upto_region 1 with fail;go_region;rw[<- HHW.o];go_upto_region 10 with(go_at_call 203;refine Pt.o.mono ?_;rintro e w1 ⟨rfl,hb1⟩;have dz:=ai hb1;clear hb1)
  obtain⟨p0,p1,p2,p3,p4,p5,p6⟩:=HQ0.o w1 dz.o;obtain⟨U1,hU1⟩:=ex (((w1.setCell (Ad lb (s*2)) (.string FR.data)).setCell (Ad lb (s*2+1)) (I FR.refs)).drew);have HU1:=ai hU1;obtain⟨hk1,hc1⟩:=Xq.o w1 U1 dz.o hU1;have vZ:=ai hk1;have EI:=ai hc1;clear hU1 hk1 hc1;go_region;rw[<- HU1.o];obtain⟨g0,g1,g2,g3,g4,g5,g6⟩:=UM.o U1 _ vZ.o rfl;have g0a:=g0 (i*4);have g0b:=g0 (i*4+1);have g0c:=g0 (i*4+2);have g0d:=g0 (i*4+3);have g7:=HXA.o U1 EI.o;obtain⟨U2,hU2⟩:=ex (((((U1.setCell (Ad fb (i*4)) (.string ⟨#[]⟩)).setCell (Ad fb (i*4+1)) (I 0)).setCell (Ad fb (i*4+2)) (.bool false)).setCell (Ad fb (i*4+3)) (.bool false)).drew);have HU2:=ai hU2;obtain⟨hk2,hc2⟩:=Mx.o U1 U2 vZ.o EI.o hU2;have qa:=ai hk2;have tD:=ai hc2;have k3:=tP.o U2 hk2;clear hU2 hk2 hc2 p0 p1 p2 p3 p4 p5 p6 g0;go_upto_region 11 with fail;go_region;rw[<- HU2.o];clear HU1 HU2 vZ EI dz g0a g0b g0c g0d g1 g2 g3 g4 g5 g6 g7;go_wp2;go_loopw [69] (fun iv wr=>∃(n:Nat) (S':dE),n<=k.aj.length/\iv=I (n:Int)/\bu lo mb tt X wr S' (dZ k i s n)/\bU S W S' wr) (fun iv _=>k.aj.length-(intOf iv).toNat)
  case atStart=>grind [Hid.o]
  case round =>
   obtain⟨n,S',hn,rfl,iU,hch⟩:=hrel;by_cases hlt:n<k.aj.length
   · have hni:(n:Int)<(k.aj.length:Int):=by omega
     obtain⟨KO,cP',ae,ce,lv,ax,nx,cx,a0,a1,a2,hvp,hcs⟩:=Hg.o wr S' n hlt iU hch;have epb:KO=pb:=by
      rw[HMF.o S' wr hch,HVP.o] at hvp
      grind
     subst epb;have HKM:=ai iU;have Pv:=ai hch;have HA:=ai ((aK wr.heap.size wr).alloc (aI _) (.cells #[.bool lv,.slice ax nx cx,.slice ae (ak k.aj n).aU.length ce] 43));have BX:=ai (bO wr #[.bool lv,.slice ax nx cx,.slice ae (ak k.aj n).aU.length ce] 43);have alX:∀eb,eb<wr.heap.size->¬wr.heap.size=eb:=fun eb h=>by omega
     clear iU hch hvp qa tD;rcases hcs with⟨hsame,hcl⟩ | ⟨m,eb,hm,hae,aeS,hcl⟩
     · have HSM:=ai hsame;have Jj:=ai hcl;clear hsame hcl;go_wp2_with (go_at_call 153;refine(Jj.o _ HA.o).mono ?_;rintro e w2 ⟨rfl,hb2⟩;have gj:=ai (HA.o.trans (hb2.mono HA.o.size));clear hb2)
       go_roundw
       case rel=>exact⟨n+1,S',by omega,by go_num,HSM.o ▸ HKM.o.below gj.o,Pv.o.trans (bU.below gj.o)⟩
       grind [intOf]
     · subst hae;have Jj:=ai hcl;have hmi:(m:Int)<((ak k.aj n).aU.length:Int):=by omega
       have hm0:(0:Int)<=(m:Int):=by omega
       clear hcl alX;go_upto_region 17 with(go_at_call 153;refine(Jj.o _ HA.o).mono ?_;rintro e w2 ⟨rfl,hb2,⟨u1,u2,t1,t2⟩,t3,t4,hfin⟩;have ZN:=aQ BX.o hb2 (aT BX.o);obtain⟨r0,r1,r2⟩:=nV ZN;have qK:=ai hfin;clear hb2 hfin ZN)
       go_region;go_wp2;go_roundw
       case rel =>
        obtain⟨z1,z2⟩:=qK.o _ rfl;exact⟨n+1,S',by omega,by go_num,z1,Pv.o.trans z2⟩
       grind [intOf]
   · obtain rfl:n=k.aj.length:=by omega
     have HX:=ai (UK.o wr S' iU hch);clear iU hch;go_wp2
     first
      | exact HX.o
      | (refine pE (v:=.tuple #[]) (by simp[results]) rfl ?_;exact HX.o)
open Go.RowKit
structure jD (w:World) (S:dE) (ah:Option Addr) (held:List Int):Prop where
 has:cJ dN 1 0 w ah held
 no:∀b off,ah=some (Ad b off)->S.lab b=.no
 lt:∀b off,ah=some (Ad b off)->b<w.heap.size
theorem jD.ch {w w':World} {S S':dE} {ah:Option Addr} {held:List Int} (h:jD w S ah held) (hc:bU S w S' w'):jD w' S' ah held :=
 ⟨O5.kp h.has hc.kp (fun b off e z=>z (h.no b off e)),fun b off e=>hc.no b (h.lt b off e) (h.no b off e),fun b off e=>iH (h.lt b off e) hc.kp.size⟩
theorem VZ {held:List Int} {k:aN} {i:Nat} (h:(held.contains (i:Int) || (au k.frames i).seen)=false) (hi:i<k.frames.length):ky held k i=k:=by
 rw[Ku] at h;unfold ky;rw[bf (by grind)];have:k.frames.set i (tK (au k.frames i))=k.frames:=by
  refine nD eW _ _ iG (fun m hm=>?_);rw[iG] at hm;by_cases c:i=m
  · subst c;rw[eD _ _ _ _ hm];have e:=h.2;unfold tK;show(⟨(au k.frames i).data,(au k.frames i).refs,(au k.frames i).eX,false⟩:jm)=au k.frames i;rw[<- e]
  grind
 rw[this]
theorem QC {held:List Int} {k:aN} (hh:0<=k.hand/\k.hand<k.frames.length):({ ky held k k.hand.toNat with hand:=fM (ky held k k.hand.toNat) }:aN)=gJ held k:=by
 grind [ky,gJ,fM]
theorem En {lo mb:Nat} {tt:TypeId} {X:List Value} (k:aN) (S:dE) (w:World) (held:List Int) (ah:Option Addr) (ch:Nat) (h:bu lo mb tt X w S k) (hR:bc k) (hl:held.length<=2) (hH:jD w S ah held) :
  Calls Tryz.prog 165 #[.pointer (some (Ad mb 0)),.slice ah held.length ch] w (cT lo mb tt X w S (I ((bE k held).1:Int)) (bE k held).2):=by
 have hcc:=hR.c;obtain⟨fb,cF,A⟩:=h.toKr.fr (by omega);obtain⟨aF,cF',eF,_,hrF⟩:=mL fB (fun _=>rfl) eW h.frames;have eF2:aF=some (Ad fb 0):=by
  have:=eF;rw[A.v] at this
  grind
 subst eF2;have c1:=h.c1;rw[A.v] at c1;have YV:=TH k.frames (some (Ad fb 0)) cF w hrF (by omega);by_cases hex:∃i,i<k.frames.length/\lj (au k.frames i)=true/\∀j,j<i->lj (au k.frames j)=false
 · obtain⟨i,hi,hy,hno⟩:=hex;have hf:=Wa hR hi hy hno;have hg:bE k held=(i,k):=by grind [bE]
   have Pt:Hid (Calls Tryz.prog 187 #[.slice (some (Ad fb 0)) k.frames.length cF,.func (.func 168) #[] #[]] w fun e w'=>e=.returned (I (i:Int))/\Below w.heap.size w w'):=YV.mono fun e w' ⟨hb,hh⟩=>by
    grind
   have cV:Hid (∀V,Below w.heap.size w V->cT lo mb tt X w S (I ((bE k held).1:Int)) (bE k held).2 (.returned (I (i:Int))) V):=fun V hb=>by
    rw[hg];exact⟨rfl,S,h.below hb,bU.below hb⟩
   obtain⟨P,hP⟩:=ex (cT lo mb tt X w S (I ((bE k held).1:Int)) (bE k held).2);rw[<- hP] at cV ⊢;have hi0:(0:Int)<=(i:Int):=by omega
   clear hP YV hg hf hno hy h hR hcc A eF hrF hH;go_enter Tryz.func165,Tryz.ntmps165;go_wp2_with (go_at_call 187;refine Pt.o.mono ?_;rintro e w1 ⟨rfl,hb1⟩;have dz:=ai hb1;clear hb1)
   exact cV.o _ dz.o
 · have hall:∀j,j<k.frames.length->lj (au k.frames j)=false:=fun j=>by
    induction j using Nat.strongRecOn with
    | _ j ih =>
     grind
   obtain⟨hf,OL⟩:=V8 hR hall;obtain⟨T,hT,Fb,Dv⟩:=yE held hl hR OL;have C6:=yD held T 69 k (by omega) Fb Dv;have hg:bE k held=((bK held T k).hand.toNat,{ dh (bK held T k) (bK held T k).hand.toNat with hand:=fM (bK held T k) }):=by
    grind [bE]
   have Pt:Hid (Calls Tryz.prog 187 #[.slice (some (Ad fb 0)) k.frames.length cF,.func (.func 168) #[] #[]] w fun e w'=>e=.returned (I (-1))/\Below w.heap.size w w'):=YV.mono fun e w' ⟨hb,hh⟩=>by
    grind
   have TK:=zh held hR OL;have tq:∀n,(bK held n k).frames.length=k.frames.length:=fun n=>(TK n).kept.nf
   have hhd:∀n,0<=(bK held n k).hand/\(bK held n k).hand<(bK held n k).frames.length:=fun n=>(TK n).right.hand
   have HPS:Hid (∀V S' n,bu lo mb tt X V S' (bK held n k)->bU S w S' V->Calls Tryz.prog 188 #[.pointer (some (Ad mb 0)),I (bK held n k).hand,.slice ah held.length ch] V (jN lo mb tt X V S' (.bool (ju held (bK held n k))) (ky held (bK held n k) (bK held n k).hand.toNat))):=fun V S' n hV hc=>by
    have e:(((bK held n k).hand.toNat:Nat):Int)=(bK held n k).hand:=by grind
    have:=NA (bK held n k) S' V (bK held n k).hand.toNat held ah ch hV (by grind) (hH.ch hc).has (by omega);rw[e] at this;exact this
   have HMV:Hid (∀V S' n,bu lo mb tt X V S' (ky held (bK held n k) (bK held n k).hand.toNat)->Calls Tryz.prog 189 #[.pointer (some (Ad mb 0))] V (jN lo mb tt X V S' (.tuple #[]) (bK held (n+1) k))):=fun V S' n hV=>by
    have hpk:(ky held (bK held n k) (bK held n k).hand.toNat).frames.length=(bK held n k).frames.length/\(ky held (bK held n k) (bK held n k).hand.toNat).hand=(bK held n k).hand:=by
     unfold ky
     grind
    have:=AU (ky held (bK held n k) (bK held n k).hand.toNat) S' V hV (by grind) (by grind);rw[QC (hhd n)] at this;exact this
   have HST:Hid (∀V S',bu lo mb tt X V S' (ky held (bK held T k) (bK held T k).hand.toNat)->bu lo mb tt X V S' (bK held T k)):=fun V S' hV=>by
    have e:(((bK held T k).hand.toNat:Nat):Int)=(bK held T k).hand:=by grind
    rw[VZ (by rw[e];exact Dv) (by grind)] at hV;exact hV
   have YA:Hid (∀V S',bu lo mb tt X V S' (bK held T k)->Calls Tryz.prog 190 #[.pointer (some (Ad mb 0)),I (bK held T k).hand] V (cT lo mb tt X V S' (.tuple #[]) (dh (bK held T k) (bK held T k).hand.toNat))):=fun V S' hV=>by
    have e:(((bK held T k).hand.toNat:Nat):Int)=(bK held T k).hand:=by grind
    have:=JM (bK held T k) S' V (bK held T k).hand.toNat hV (TK T).right (by grind) ((TK T).full _ (by grind));rw[e] at this;exact this
   have al6:=AY (bK held T k) (bK held T k).hand.toNat
   have Vo:Hid (∀V S',bu lo mb tt X V S' (dh (bK held T k) (bK held T k).hand.toNat)->Calls Tryz.prog 189 #[.pointer (some (Ad mb 0))] V (jN lo mb tt X V S' (.tuple #[]) { dh (bK held T k) (bK held T k).hand.toNat with hand:=fM (bK held T k) })):=fun V S' hV=>by
    have hlen:(dh (bK held T k) (bK held T k).hand.toNat).frames.length=(bK held T k).frames.length:=by grind
    have:=AU _ S' V hV (by grind) (by grind);have e:fM (dh (bK held T k) (bK held T k).hand.toNat)=fM (bK held T k):=by
     unfold fM
     grind
    rw[e] at this;exact this
   have HHD:Hid (∀V S' n,bu lo mb tt X V S' (bK held n k)->V.cell? (Ad mb 4)=some (I (bK held n k).hand)):=fun V S' n hV=>hV.c4
   have HHI:=ai (fun n=>hhd n);have HPP:=ai Fb;have Vj:=ai Dv;have cV:Hid (∀V S',bu lo mb tt X V S' { dh (bK held T k) (bK held T k).hand.toNat with hand:=fM (bK held T k) }->bU S w S' V->cT lo mb tt X w S (I ((bE k held).1:Int)) (bE k held).2 (.returned (I (bK held T k).hand)) V):=fun V S' h1 h2=>by
    rw[hg];refine⟨?_,S',h1,h2⟩
    grind
   obtain⟨P,hP⟩:=ex (cT lo mb tt X w S (I ((bE k held).1:Int)) (bE k held).2);rw[<- hP] at cV ⊢;have pL:=ai h;clear hP YV hg hf hall hex h hR hcc A eF hrF hH TK tq hhd Fb Dv C6 OL al6 hl;go_enter Tryz.func165,Tryz.ntmps165;go_wp2_with (go_at_call 187;refine Pt.o.mono ?_;rintro e w1 ⟨rfl,hb1⟩;have dz:=ai hb1;clear hb1)
   go_loopg [23] T (fun g _ wr=>∃(n:Nat) (S':dE),n<=T/\g=T-n/\bu lo mb tt X wr S' (bK held n k)/\bU S w S' wr)
   case atStart=>exact⟨0,S,by omega,by omega,pL.o.below dz.o,bU.below dz.o⟩
   case round =>
    obtain⟨n,S',hn,YW,iU,hch⟩:=hrel;have d4:=HHD.o wr S' n iU;have Zy:=ai (HPS.o wr S' n iU hch);have afS:=ai (fun V=>HMV.o V S' n);have Pv:=ai hch;have HGK:=ai YW;clear iU hch YW pL;by_cases hlt:n<T
    · have hp:=HPP.o n hlt;rw[hp] at Zy;obtain⟨hd,hhd⟩:=ex ((bK held n k).hand);rw[<- hhd] at d4 Zy afS;clear hp hhd;go_wp2_with (first
       | (go_at_call 188;refine Zy.o.mono ?_;rintro e w2 ⟨rfl,hk2,hc2⟩;have qa:=ai hk2;have tD:=ai (Pv.o.trans hc2);clear hk2 hc2)
       | (go_at_call 189;refine(afS.o _ qa.o).mono ?_;rintro e w3 ⟨rfl,hk3,hc3⟩;have p9:=ai hk3;have tP:=ai (tD.o.trans hc3);clear hk3 hc3))
      go_roundg (T-(n+1))
      case measure=>have:=HGK.o;omega
      case rel=>exact⟨n+1,S',by omega,by omega,p9.o,tP.o⟩
    · obtain rfl:n=T:=by omega
      have hp:=Vj.o;rw[hp] at Zy;obtain⟨IT,hIT⟩:=ex (bK held n k);rw[<- hIT] at d4 Zy HST YA Vo cV;have anF:Hid (∀V S',bu lo mb tt X V S' IT->V.cell? (Ad mb 4)=some (I IT.hand)):=fun V S' hV=>hV.c4
      clear hp hIT HMV afS HPS HHD HPP Vj HHI;go_wp2_with (first
       | (go_at_call 188;refine Zy.o.mono ?_;rintro e w2 ⟨rfl,hk2,hc2⟩;have aeL:=HST.o _ _ hk2;have qa:=ai aeL;have tD:=ai (Pv.o.trans hc2);have d5:=anF.o w2 S' aeL;clear hk2 hc2 aeL)
       | (go_at_call 190;refine(YA.o _ _ qa.o).mono ?_;rintro e w3 ⟨rfl,S3,hk3,hc3⟩;have p9:=ai hk3;have tP:=ai (tD.o.trans hc3);clear hk3 hc3)
       | (go_at_call 189;refine(Vo.o _ _ p9.o).mono ?_;rintro e w4 ⟨rfl,hk4,Nc⟩;have HK4:=ai hk4;have HC4:=ai (tP.o.trans Nc);clear hk4 Nc))
      exact cV.o _ _ HK4.o HC4.o
end Go.Proofs.YtpgifpeohlllfaaGreat
