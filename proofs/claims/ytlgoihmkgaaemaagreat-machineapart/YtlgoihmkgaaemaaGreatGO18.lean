import Derived.Test.YtlgoihmkgaaemaaGreatGO17
set_option maxHeartbeats 20000000
set_option linter.unusedVariables false
set_option maxRecDepth 100000
set_option linter.unusedSimpArgs false
namespace Go.Proofs.YtlgoihmkgaaemaaGreat
open Go.RowKit
def rP (f:cZ->cZ) (l:List cZ) (n:Nat):List cZ:=(l.take n).map f++l.drop n
theorem DV (f:cZ->cZ) (l:List cZ) (n:Nat):(rP f l n).length=l.length:=by
 grind [rP]
theorem Nv (f:cZ->cZ) (l:List cZ) (n m:Nat) (hm:m<l.length):ak (rP f l n) m=if m<n then f (ak l m) else ak l m:=by
 grind [rP,ak]
theorem KP (f:cZ->cZ) (l:List cZ) (n:Nat) (hn:n<l.length):(rP f l n).set n (f (ak l n))=rP f l (n+1):=by
 refine pJ rp _ _ (by grind [DV]) (fun m hm=>?_)
 grind [DV,rP,ak]
theorem Wh (f:cZ->cZ) (l:List cZ):rP f l l.length=l.map f:=by
 grind [rP]
def eI (k:aR) (i s n:Nat):aR:={ k with frames:=k.frames.set i gX,slots:=k.slots.set s ⟨(aH k.frames i).data,(aH k.frames i).refs⟩,aj:=rP (ku i s) k.aj n }
theorem OJ {lo mb:Nat} {tt:TypeId} {X:List Value} (k:aR) (S:gL) (w:World) (i:Nat) (h:bJ lo mb tt X w S k) (hR:aW k) (hi:i<k.frames.length) (Ov:(aH k.frames i).refs≠0) :
  Calls Tryz.prog 297 #[.pointer (some (Ad mb 0)),I (i:Int)] w (gj lo mb tt X w S (.tuple #[]) (eJ k i)):=by
 have hcc:=hR.c;obtain⟨fb,cF,A⟩:=h.toKr.fr (by omega);obtain⟨W,hW⟩:=ex (((w.alloc (.cells #[I (i:Int)] 3)).alloc (.cells #[.string (aH k.frames i).data,I (aH k.frames i).refs,.bool (aH k.frames i).jG,.bool (aH k.frames i).seen] 169)).drew);have gB:Hid (Below w.heap.size w W):=by rw[hW];exact(((aK w.heap.size w).alloc (aD _) _).alloc (by simp) _).drew
 have X0:Hid (W.heap[w.heap.size]?=some (.cells #[I (i:Int)] 3 (0,0))):=by rw[hW];exact bk (bB w _ _) _
 have F0:Hid (W.heap[w.heap.size+1]?=some (.cells #[.string (aH k.frames i).data,I (aH k.frames i).refs,.bool (aH k.frames i).jG,.bool (aH k.frames i).seen] 169 (0,0))):=by
  have:=bB (w.alloc (.cells #[I (i:Int)] 3)) #[.string (aH k.frames i).data,I (aH k.frames i).refs,.bool (aH k.frames i).jG,.bool (aH k.frames i).seen] 169;rw[gh] at this;rw[hW];exact this
 have HMW:=ai (h.below gB.o);have HCW:Hid (cK S w S W):=cK.below gB.o;have n0:S.lab w.heap.size=.no:=h.toKr.new (aD _);have n1:S.lab (w.heap.size+1)=.no:=h.toKr.new (kZ _);have PM:Hid (∀S' V,cK S W S' V->V.heap[w.heap.size]?=some (.cells #[I (i:Int)] 3 (0,0))/\V.heap[w.heap.size+1]?=some (.cells #[.string (aH k.frames i).data,I (aH k.frames i).refs,.bool (aH k.frames i).jG,.bool (aH k.frames i).seen] 169 (0,0))):=fun S' V hV=>⟨hV.keep X0.o n0,hV.keep F0.o n1⟩
 have c1:=h.c1;rw[A.v] at c1;have x0:=A.x0 i hi;have x1:=A.x1 i hi;have x2:=A.x2 i hi;have x3:=A.x3 i hi;have Jj:(i:Int)<(k.frames.length:Int):=by omega
 have Ji:=h.lt;have hfl:=A.lt;have dB:Hid (∀V S' K,K=eJ k i->bJ lo mb tt X V S' K->cK S W S' V->gj lo mb tt X w S (.tuple #[]) (eJ k i) (.returned (.tuple #[])) V):=fun V S' K hK h1 h2=>⟨rfl,S',hK ▸ h1,HCW.o.trans h2⟩
 obtain⟨P,hP⟩:=ex (gj lo mb tt X w S (.tuple #[]) (eJ k i));rw[<- hP] at dB ⊢;have HHW:=ai hW;cases hd:(aH k.frames i).jG with
 | false =>
  have hdrop:eJ k i=kv k i k.aj.length:=by
   grind [Zo,eJ]
  have LQ:=ai (fun V S' h1 h2=>dB.o V S' _ hdrop.symm h1 h2);have HFO:Hid (∀V S' n,n<k.aj.length->bJ lo mb tt X V S' (kv k i n)->cK S W S' V->Calls Tryz.prog 268 #[.pointer (some (Ad mb 0)),I (n:Int),.func (.func 300) #[] #[.pointer (some (Ad w.heap.size 0))]] V (gj lo mb tt X V S' (.tuple #[]) (kv k i (n+1)))):=fun V S' n hn hV hc=>by
   have hp:=zu hR i n (by omega);refine Cj 300 [.pointer (some (Ad w.heap.size 0))] w.heap.size (.inl ⟨rfl,rfl⟩) (kv k i n) S' V n (ll (i:Int)) hV hp.1 (by omega) (fun U e hU=>?_);have hx:=(PM.out S' V hc).1;have hno:S'.lab w.heap.size=.no:=hc.no _ (aJ X0.o) n0;exact Ny (i:Int) e w.heap.size U (aq (hU.keep hx (fun z=>z hno)) 0 rfl)
  have HSL:Hid (∀V S' n,bJ lo mb tt X V S' (kv k i n)->n<=k.aj.length->∃av cv,V.cell? (Ad mb 3)=some (.slice av k.aj.length cv)):=fun V S' n hV hn=>by
   have hp:=zu hR i n hn;obtain⟨pb,cP,A'⟩:=hV.toKr.sp (by omega);have:=hV.c3;rw[A'.v,hp.2.2.2.2.2.1] at this
   grind
  obtain⟨av,cv,d3⟩:=HSL.o W S 0 HMW.o (by omega);obtain⟨np,yn⟩:=ex k.aj.length;rw[<- yn] at d3 HFO LQ;have auQ:np<=4:=by omega
  obtain⟨FR,Uu⟩:=ex (aH k.frames i);rw[<- Uu] at x0 x1 x2 x3 HHW hd F0;obtain⟨fd,fr,fdy,fs⟩:=FR;simp only at x0 x1 x2 x3 HHW hd F0;subst hd;have d2:W.cell? (Ad (w.heap.size+1) 2)=some (.bool false):=aq F0.o 2 rfl;clear hW hP hR hcc A h Ov Uu yn HSL dB PM hdrop hi;go_enter Tryz.func297,Tryz.ntmps297;go_upto_region 1 with fail;go_region;rw[<- HHW.o];go_wp2;go_loopw [29] (fun iv wr=>∃(n:Nat) (S':gL),n<=np/\iv=I (n:Int)/\bJ lo mb tt X wr S' (kv k i n)/\cK S W S' wr) (fun iv _=>np-(intOf iv).toNat)
  case atStart=>exact⟨0,S,by omega,rfl,HMW.o,cK.refl _ _⟩
  case round =>
   obtain⟨n,S',hn,rfl,rW,hch⟩:=hrel;by_cases hlt:n<np
   · have hni:(n:Int)<(np:Int):=by omega
     have aq5:=ai (HFO.o wr S' n hlt rW hch);have JF:=ai hch;clear rW hch HMW HCW;go_wp2_with (go_at_call 268;refine aq5.o.mono ?_;rintro r w2 ⟨rfl,S2,hk2,hc2⟩;have pq:=ai hk2;have yG:=ai (JF.o.trans hc2);clear hk2 hc2)
     grind [intOf,Hid.o]
   · obtain rfl:n=np:=by omega
     have HX:=ai (LQ.o wr S' rW hch);clear rW hch;go_wp2
     first
      | exact HX.o
      | (refine bI (v:=.tuple #[]) (by simp[results]) rfl ?_;exact HX.o)
 | true =>
  obtain⟨s,Qd,hsl,hsn⟩:=hR.slot hi Ov;have aiU:eJ k i=eI k i s k.aj.length:=by
   unfold eJ eI;rw[hd,Qd,Wh];rfl
  have LQ:=ai (fun V S' h1 h2=>dB.o V S' _ aiU.symm h1 h2);obtain⟨lb,cL,AL⟩:=HMW.o.toKr.sl (by omega);obtain⟨aL,cL',eL,_,hrL⟩:=oO jc (fun _=>rfl) oc HMW.o.slots;have c2:=HMW.o.c2;rw[AL.v] at c2;have eL2:aL=some (Ad lb 0):=by
   grind [adp.v]
  subst eL2;have UY:Hid (Calls Tryz.prog 301 #[.slice (some (Ad lb 0)) k.slots.length cL,.func (.func 302) #[] #[]] W fun e w'=>e=.returned (I (s:Int))/\Below W.heap.size W w'):=(Zb k.slots (some (Ad lb 0)) cL W hrL (by omega)).mono fun e w' ⟨hb,hh⟩=>by
   rcases hh with⟨_,hno⟩ | ⟨m,hm,he,hy,hno⟩
   · have:=hno s hsl;have hz:=(hR.slt s hsl).zero hsn;rw[hz] at this;cases this
   · have:=abO hR hm hy hno
     grind
  have dr:∀V:World,Below V.heap.size V V.drew:=fun V=>(aK _ _).drew
  have HL1:Hid (∀V U,Below W.heap.size W V->U=((V.setCell (Ad lb (s*2)) (.string (aH k.frames i).data)).setCell (Ad lb (s*2+1)) (I (aH k.frames i).refs)).drew->bJ lo mb tt X U S { k with slots:=k.slots.set s ⟨(aH k.frames i).data,(aH k.frames i).refs⟩ }/\cK S W S U):=fun V U hb hU=>by
   have m0:=HMW.o.below hb;have m1:=m0.alC AL.v hsl ⟨(aH k.frames i).data,(aH k.frames i).refs⟩;subst hU;exact⟨m1.1.below (dr _),((cK.below hb).trans m1.2).trans (cK.below (dr _))⟩
  have Bz:Hid (∀V U,bJ lo mb tt X V S { k with slots:=k.slots.set s ⟨(aH k.frames i).data,(aH k.frames i).refs⟩ }->cK S W S V->U=((((V.setCell (Ad fb (i*4)) (.string ⟨#[]⟩)).setCell (Ad fb (i*4+1)) (I 0)).setCell (Ad fb (i*4+2)) (.bool false)).setCell (Ad fb (i*4+3)) (.bool false)).drew->bJ lo mb tt X U S (eI k i s 0)/\cK S W S U):=fun V U hV hc hU=>by
   have m2:=hV.aff A.v (i:=i) hi gX;subst hU;exact⟨m2.1.below (dr _),(hc.trans m2.2).trans (cK.below (dr _))⟩
  have Mh:Hid (∀V S' n,n<k.aj.length->bJ lo mb tt X V S' (eI k i s n)->cK S W S' V->∃pb cP ae ce lv ax nx cx,V.cell? (Ad pb (n*3))=some (.bool lv)/\V.cell? (Ad pb (n*3+1))=some (.slice ax nx cx)/\V.cell? (Ad pb (n*3+2))=some (.slice ae (ak k.aj n).bf.length ce)/\S'.vP=.slice (some (Ad pb 0)) k.aj.length cP /\
    ((eI k i s n=eI k i s (n+1)/\∀V',Below V.heap.size V V'->Calls Tryz.prog 186 #[.slice ae (ak k.aj n).bf.length ce,.func (.func 300) #[] #[.pointer (some (Ad w.heap.size 0))]] V' fun e w'=>e=.returned (I (-1))/\Below V'.heap.size V' w') ∨
    ∃(m eb:Nat),m<(ak k.aj n).bf.length/\ae=some (Ad eb 0)/\eb<V.heap.size/\∀V',Below V.heap.size V V'->Calls Tryz.prog 186 #[.slice ae (ak k.aj n).bf.length ce,.func (.func 300) #[] #[.pointer (some (Ad w.heap.size 0))]] V' fun e w'=>e=.returned (I (m:Int))/\Below V'.heap.size V' w'/\(∃u1 u2,w'.cell? (Ad eb (m*3+1))=some (I u1)/\w'.cell? (Ad eb (m*3+2))=some (I u2))/\w'.frozen? (Ad eb (m*3+1))=false/\w'.frozen? (Ad eb (m*3+2))=false/\(∀U,U=((w'.setCell (Ad eb (m*3+1)) (I 2)).setCell (Ad eb (m*3+2)) (I (s:Int))).drew->bJ lo mb tt X U S' (eI k i s (n+1))/\cK S' V S' U))):=fun V S' n hn hV hc=>by
   have hlen:(eI k i s n).aj.length=k.aj.length:=DV _ _ _;have hn':n<(eI k i s n).aj.length:=by omega
   have hat:ak (eI k i s n).aj n=ak k.aj n:=by
    show ak (rP _ _ _) n=_
    grind [Nv]
   obtain⟨pb,cP,A'⟩:=hV.toKr.sp (by omega);obtain⟨ae,ce,SE,hre⟩:=hV.toKr.bf hn';rw[hat] at SE hre;have a0:=A'.x0 n hn';have a1:=A'.x1 n hn';have a2:=A'.x2 n hn';rw[SE] at a2;have hv:=A'.v;rw[hlen] at hv;obtain⟨ax,cx,H8,_,_⟩:=bg (hV.each n hn').aT;rw[H8] at a1;refine⟨pb,cP,ae,ce,_,ax,_,cx,a0,a1,a2,hv,?_⟩;have hx:V.heap[w.heap.size]?=some (.cells #[I (i:Int)] 3 (0,0)):=(PM.out S' V hc).1;have hix:∀V',Below V.heap.size V V'->_:=fun V' hb'=>Ju 300 (.inr (.inr rfl)) (ll (i:Int)) (ak k.aj n).bf ae ce w.heap.size V' (hre.below hb') (by grind [ot]) (fun U e hU=>Ny (i:Int) e w.heap.size U (aq (aN (aN hx hb' (aJ hx)) hU (fD (aJ hx) hb'.size)) 0 rfl))
   by_cases hex:∃m,m<(ak k.aj n).bf.length/\ll (i:Int) (aX (ak k.aj n).bf m)=true
   · obtain⟨m,hm,hy⟩:=hex;obtain⟨eb,hao,ajO⟩:∃eb,ae=some (Ad eb 0)/\eb<V.heap.size:=by
      obtain⟨ao,cap,e,_,hg⟩:=bg (hV.each n hn').aQ
      grind
     subst hao;refine .inr ⟨m,eb,hm,rfl,ajO,fun V' hb'=>(hix V' hb').mono fun e w' ⟨hb,hh⟩=>?_⟩;have hbb:Below V.heap.size V w':=hb'.trans (hb.mono hb'.size);have he:e=.returned (I (m:Int)):=by
      grind [UK]
     have mw:=hV.below hbb;have hs1:m<(ak (eI k i s n).aj n).bf.length:=by grind
     have hrow:=(mw.each n hn').aQ;rw[hat,SE] at hrow;have g1:=kq bw (fun _=>rfl) gY hrow m 1 hm (by omega);have g2:=kq bw (fun _=>rfl) gY hrow m 2 hm (by omega);refine⟨he,hb,⟨_,_,g1,g2⟩,iL hrow _,iL hrow _,fun U hU=>?_⟩;have e1:=mw.afd hn' SE hs1 (c:=1) (by omega) (e:=⟨(aX (ak k.aj n).bf m).page,2,(aX (ak k.aj n).bf m).loc⟩) (u:=I 2) (by rw[hat];rfl);have hl2:n<({ eI k i s n with aj:=(eI k i s n).aj.set n (ek (ak (eI k i s n).aj n) ((ak (eI k i s n).aj n).bf.set m ⟨(aX (ak k.aj n).bf m).page,2,(aX (ak k.aj n).bf m).loc⟩)) }:aR).aj.length:=by
      grind
     have amt:ak ((eI k i s n).aj.set n (ek (ak (eI k i s n).aj n) ((ak (eI k i s n).aj n).bf.set m ⟨(aX (ak k.aj n).bf m).page,2,(aX (ak k.aj n).bf m).loc⟩))) n=ek (ak k.aj n) ((ak k.aj n).bf.set m ⟨(aX (ak k.aj n).bf m).page,2,(aX (ak k.aj n).bf m).loc⟩):=by
      grind [iI]
     have e2:=e1.1.afd hl2 SE (i:=m) (by
      show m<(ak (List.set _ _ _) n).bf.length;rw[amt];show m<(List.set _ _ _).length
      grind) (c:=2) (by omega) (e:=⟨(aX (ak k.aj n).bf m).page,2,(s:Int)⟩) (u:=I (s:Int)) (by
      show _=(bw (aX (ak (List.set _ _ _) n).bf m)).set 2 _;rw[amt];show _=(bw ((List.set _ _ _).getD m gY)).set 2 _;rw[eT _ _ _ _ hm];rfl)
     have hK:({ ({ eI k i s n with aj:=(eI k i s n).aj.set n (ek (ak (eI k i s n).aj n) ((ak (eI k i s n).aj n).bf.set m ⟨(aX (ak k.aj n).bf m).page,2,(aX (ak k.aj n).bf m).loc⟩)) }:aR) with aj:=((eI k i s n).aj.set n (ek (ak (eI k i s n).aj n) ((ak (eI k i s n).aj n).bf.set m ⟨(aX (ak k.aj n).bf m).page,2,(aX (ak k.aj n).bf m).loc⟩))).set n (ek (ak ((eI k i s n).aj.set n (ek (ak (eI k i s n).aj n) ((ak (eI k i s n).aj n).bf.set m ⟨(aX (ak k.aj n).bf m).page,2,(aX (ak k.aj n).bf m).loc⟩))) n) ((ak ((eI k i s n).aj.set n (ek (ak (eI k i s n).aj n) ((ak (eI k i s n).aj n).bf.set m ⟨(aX (ak k.aj n).bf m).page,2,(aX (ak k.aj n).bf m).loc⟩))) n).bf.set m ⟨(aX (ak k.aj n).bf m).page,2,(s:Int)⟩)) }:aR)=eI k i s (n+1):=by
      grind [List.set_set,eI,KP,ek,ku,Tm,UK]
     subst hU;have e3:=hK ▸ e2.1;exact⟨e3.below (dr _),(((cK.below hbb).trans e1.2).trans e2.2).trans (cK.below (dr _))⟩
   · have hno:∀m,m<(ak k.aj n).bf.length->ll (i:Int) (aX (ak k.aj n).bf m)=false:=fun m hm=>by
      grind
     refine .inl ⟨?_,fun V' hb'=>(hix V' hb').mono fun e w' ⟨hb,hh⟩=>?_⟩
     · unfold eI;congr 1;rw[<- KP _ _ _ hn];have e1:ku (i:Int) s (ak k.aj n)=ak (rP (ku i s) k.aj n) n:=by
        simp_all [Nv,ku,Ww]
       rw[e1];refine(pJ rp _ _ (by grind) (fun q hq=>?_)).symm
       grind [ak]
     grind
  obtain⟨pb,cP,AP⟩:=HMW.o.toKr.sp (by omega);have hvP:=AP.v;have HVP:=ai AP.v;have np4:k.aj.length<=4:=by omega
  have HAF:=ai (fun V K (hV:bJ lo mb tt X V S K) (hK:K.frames=k.frames)=>(show(∀j,V.frozen? (Ad fb j)=false)/\V.cell? (Ad fb (i*4))=some (.string (aH k.frames i).data)/\V.cell? (Ad fb (i*4+1))=some (I (aH k.frames i).refs)/\V.cell? (Ad fb (i*4+2))=some (.bool (aH k.frames i).jG)/\V.cell? (Ad fb (i*4+3))=some (.bool (aH k.frames i).seen)/\V.cell? (Ad mb 1)=some (.slice (some (Ad fb 0)) k.frames.length cF)/\V.cell? (Ad mb 3)=some (.slice (some (Ad pb 0)) k.aj.length cP) from by
   obtain⟨fb',cF',A'⟩:=hV.toKr.fr (by grind);have e:fb'=fb:=by
    have:=A'.v
    grind [Bj.v]
   subst e;have c1:=hV.c1
   grind [bJ.c3,Bj.v,Bj.x0,Bj.x1,Bj.x2,Bj.x3,Bj.fz]))
  have hx0:=AL.x0 s hsl;have hx1:=AL.x1 s hsl;have hz0:=AL.fz (s*2);have hz1:=AL.fz (s*2+1);have hll:=AL.lt;have T5:=ai (fun V (hV:bJ lo mb tt X V S (eI k i s 0))=>(show V.cell? (Ad mb 3)=some (.slice (some (Ad pb 0)) k.aj.length cP) from by grind [bJ.c3]));have q0:∀V,Below W.heap.size W V->V.cell? (Ad (w.heap.size+1) 0)=some (.string (aH k.frames i).data)/\V.cell? (Ad (w.heap.size+1) 1)=some (I (aH k.frames i).refs)/\V.cell? (Ad mb 2)=some (.slice (some (Ad lb 0)) k.slots.length cL)/\V.cell? (Ad lb (s*2))=some (.string (bE k.slots s).data)/\V.cell? (Ad lb (s*2+1))=some (I (bE k.slots s).refs)/\V.frozen? (Ad lb (s*2))=false/\V.frozen? (Ad lb (s*2+1))=false:=fun V hb=>by
   have hF:=aN F0.o hb (aJ F0.o);have mV:=HMW.o.below hb;obtain⟨lb',cL',A'⟩:=mV.toKr.sl (by omega);have e:lb'=lb:=by
    have:=A'.v
    grind
   subst e;have c2:=mV.c2;rw[AL.v] at c2;exact⟨aq hF 0 rfl,aq hF 1 rfl,c2,A'.x0 s hsl,A'.x1 s hsl,A'.fz _,A'.fz _⟩
  have HQ0:=ai q0;have HXA:=ai (fun V (hc:cK S W S V)=>(show V.cell? (Ad w.heap.size 0)=some (I (i:Int)) from aq (PM.out S V hc).1 0 rfl));obtain⟨FR,Uu⟩:=ex (aH k.frames i);rw[<- Uu] at x0 x1 x2 x3 HHW hd F0 HL1 Bz HAF HQ0;obtain⟨SR,hSR⟩:=ex (bE k.slots s);rw[<- hSR] at HQ0;rw[hd] at x2 HHW F0;have d2:W.cell? (Ad (w.heap.size+1) 2)=some (.bool true):=aq F0.o 2 rfl;have hsi:(s:Int)<(k.slots.length:Int):=by omega
  have HMF:Hid (∀S' V,cK S W S' V->S'.vP=S.vP):=fun S' V hc=>hc.eP
  clear hW hP hR hcc A h Ov Uu dB PM hi Qd hsn AL AP hrL eL q0 aiU hvP hSR dr hx0 hx1 hz0 hz1;go_enter Tryz.func297,Tryz.ntmps297;go_upto_region 1 with fail;go_region;rw[<- HHW.o];go_upto_region 10 with(go_at_call 301;refine UY.o.mono ?_;rintro e w1 ⟨rfl,hb1⟩;have cH:=ai hb1;clear hb1)
  obtain⟨p0,p1,p2,p3,p4,p5,p6⟩:=HQ0.o w1 cH.o;obtain⟨U1,hU1⟩:=ex (((w1.setCell (Ad lb (s*2)) (.string FR.data)).setCell (Ad lb (s*2+1)) (I FR.refs)).drew);have HU1:=ai hU1;obtain⟨hk1,hc1⟩:=HL1.o w1 U1 cH.o hU1;have vI:=ai hk1;have HC1:=ai hc1;clear hU1 hk1 hc1;go_region;rw[<- HU1.o];obtain⟨g0,g1,g2,g3,g4,g5,g6⟩:=HAF.o U1 _ vI.o rfl;have g0a:=g0 (i*4);have g0b:=g0 (i*4+1);have g0c:=g0 (i*4+2);have g0d:=g0 (i*4+3);have g7:=HXA.o U1 HC1.o;obtain⟨U2,hU2⟩:=ex (((((U1.setCell (Ad fb (i*4)) (.string ⟨#[]⟩)).setCell (Ad fb (i*4+1)) (I 0)).setCell (Ad fb (i*4+2)) (.bool false)).setCell (Ad fb (i*4+3)) (.bool false)).drew);have HU2:=ai hU2;obtain⟨hk2,hc2⟩:=Bz.o U1 U2 vI.o HC1.o hU2;have pq:=ai hk2;have yG:=ai hc2;have k3:=T5.o U2 hk2;clear hU2 hk2 hc2 p0 p1 p2 p3 p4 p5 p6 g0;go_upto_region 11 with fail;go_region;rw[<- HU2.o];clear HU1 HU2 vI HC1 cH g0a g0b g0c g0d g1 g2 g3 g4 g5 g6 g7;go_wp2;go_loopw [69] (fun iv wr=>∃(n:Nat) (S':gL),n<=k.aj.length/\iv=I (n:Int)/\bJ lo mb tt X wr S' (eI k i s n)/\cK S W S' wr) (fun iv _=>k.aj.length-(intOf iv).toNat)
  case atStart=>grind [Hid.o]
  case round =>
   obtain⟨n,S',hn,rfl,rW,hch⟩:=hrel;by_cases hlt:n<k.aj.length
   · have hni:(n:Int)<(k.aj.length:Int):=by omega
     obtain⟨pb',cP',ae,ce,lv,ax,nx,cx,a0,a1,a2,hvp,hcs⟩:=Mh.o wr S' n hlt rW hch;have epb:pb'=pb:=by
      rw[HMF.o S' wr hch,HVP.o] at hvp
      grind
     subst epb;have HKM:=ai rW;have JF:=ai hch;have HA:=ai ((aK wr.heap.size wr).alloc (aD _) (.cells #[.bool lv,.slice ax nx cx,.slice ae (ak k.aj n).bf.length ce] 99));have BX:=ai (bB wr #[.bool lv,.slice ax nx cx,.slice ae (ak k.aj n).bf.length ce] 99);have apK:∀eb,eb<wr.heap.size->¬wr.heap.size=eb:=fun eb h=>by omega
     clear rW hch hvp pq yG;rcases hcs with⟨hsame,hcl⟩ | ⟨m,eb,hm,hae,ajO,hcl⟩
     · have HSM:=ai hsame;have I5:=ai hcl;clear hsame hcl;go_wp2_with (go_at_call 186;refine(I5.o _ HA.o).mono ?_;rintro e w2 ⟨rfl,hb2⟩;have gK:=ai (HA.o.trans (hb2.mono HA.o.size));clear hb2)
       go_roundw
       case rel=>exact⟨n+1,S',by omega,by go_num,HSM.o ▸ HKM.o.below gK.o,JF.o.trans (cK.below gK.o)⟩
       grind [intOf]
     · subst hae;have I5:=ai hcl;have hmi:(m:Int)<((ak k.aj n).bf.length:Int):=by omega
       have hm0:(0:Int)<=(m:Int):=by omega
       clear hcl apK;go_upto_region 17 with(go_at_call 186;refine(I5.o _ HA.o).mono ?_;rintro e w2 ⟨rfl,hb2,⟨u1,u2,t1,t2⟩,t3,t4,hfin⟩;have BX2:=aN BX.o hb2 (aJ BX.o);obtain⟨r0,r1,r2⟩:=GU BX2;have yg:=ai hfin;clear hb2 hfin BX2)
       go_region;go_wp2;go_roundw
       case rel =>
        obtain⟨z1,z2⟩:=yg.o _ rfl;exact⟨n+1,S',by omega,by go_num,z1,JF.o.trans z2⟩
       grind [intOf]
   · obtain rfl:n=k.aj.length:=by omega
     have HX:=ai (LQ.o wr S' rW hch);clear rW hch;go_wp2
     first
      | exact HX.o
      | (refine vK (v:=.tuple #[]) (by simp[results]) rfl ?_;exact HX.o)
open Go.RowKit
structure nk (w:World) (S:gL) (ah:Option Addr) (held:List Int):Prop where
 has:eB iF 1 0 w ah held
 no:∀b off,ah=some (Ad b off)->S.lab b=.no
 lt:∀b off,ah=some (Ad b off)->b<w.heap.size
theorem nk.ch {w w':World} {S S':gL} {ah:Option Addr} {held:List Int} (h:nk w S ah held) (hc:cK S w S' w'):nk w' S' ah held :=
 ⟨UE.kp h.has hc.kp (fun b off e z=>z (h.no b off e)),fun b off e=>hc.no b (h.lt b off e) (h.no b off e),fun b off e=>fD (h.lt b off e) hc.kp.size⟩
theorem abL {held:List Int} {k:aR} {i:Nat} (h:(held.contains (i:Int) || (aH k.frames i).seen)=false) (hi:i<k.frames.length):ma held k i=k:=by
 rw[J1] at h;unfold ma;rw[au (by grind)];have:k.frames.set i (CZ (aH k.frames i))=k.frames:=by
  refine pJ gX _ _ fC (fun m hm=>?_);rw[fC] at hm;by_cases c:i=m
  · subst c;rw[eT _ _ _ _ hm];have e:=h.2;unfold CZ;show(⟨(aH k.frames i).data,(aH k.frames i).refs,(aH k.frames i).jG,false⟩:lV)=aH k.frames i;rw[<- e]
  grind
 rw[this]
theorem Wf {held:List Int} {k:aR} (hh:0<=k.hand/\k.hand<k.frames.length):({ ma held k k.hand.toNat with hand:=jl (ma held k k.hand.toNat) }:aR)=jC held k:=by
 grind [ma,jC,jl]
theorem Jq {lo mb:Nat} {tt:TypeId} {X:List Value} (k:aR) (S:gL) (w:World) (held:List Int) (ah:Option Addr) (ch:Nat) (h:bJ lo mb tt X w S k) (hR:aW k) (hl:held.length<=2) (hH:nk w S ah held) :
  Calls Tryz.prog 292 #[.pointer (some (Ad mb 0)),.slice ah held.length ch] w (gj lo mb tt X w S (I ((bM k held).1:Int)) (bM k held).2):=by
 have hcc:=hR.c;obtain⟨fb,cF,A⟩:=h.toKr.fr (by omega);obtain⟨aF,cF',eF,_,hrF⟩:=oO jd (fun _=>rfl) gX h.frames;have eF2:aF=some (Ad fb 0):=by
  have:=eF;rw[A.v] at this
  grind
 subst eF2;have c1:=h.c1;rw[A.v] at c1;have hix:=Zc k.frames (some (Ad fb 0)) cF w hrF (by omega);by_cases hex:∃i,i<k.frames.length/\tj (aH k.frames i)=true/\∀j,j<i->tj (aH k.frames j)=false
 · obtain⟨i,hi,hy,hno⟩:=hex;have hf:=abP hR hi hy hno;have hg:bM k held=(i,k):=by grind [bM]
   have UY:Hid (Calls Tryz.prog 295 #[.slice (some (Ad fb 0)) k.frames.length cF,.func (.func 216) #[] #[]] w fun e w'=>e=.returned (I (i:Int))/\Below w.heap.size w w'):=hix.mono fun e w' ⟨hb,hh⟩=>by
    grind
   have dB:Hid (∀V,Below w.heap.size w V->gj lo mb tt X w S (I ((bM k held).1:Int)) (bM k held).2 (.returned (I (i:Int))) V):=fun V hb=>by
    rw[hg];exact⟨rfl,S,h.below hb,cK.below hb⟩
   obtain⟨P,hP⟩:=ex (gj lo mb tt X w S (I ((bM k held).1:Int)) (bM k held).2);rw[<- hP] at dB ⊢;have hi0:(0:Int)<=(i:Int):=by omega
   clear hP hix hg hf hno hy h hR hcc A eF hrF hH;go_enter Tryz.func292,Tryz.ntmps292;go_wp2_with (go_at_call 295;refine UY.o.mono ?_;rintro e w1 ⟨rfl,hb1⟩;have cH:=ai hb1;clear hb1)
   exact dB.o _ cH.o
 · have hall:∀j,j<k.frames.length->tj (aH k.frames j)=false:=fun j=>by
    induction j using Nat.strongRecOn with
    | _ j ih =>
     grind
   obtain⟨hf,afJ⟩:=abN hR hall;obtain⟨T,hT,afk,ac4⟩:=IQ held hl hR afJ;have Hj:=IP held T 69 k (by omega) afk ac4;have hg:bM k held=((bQ held T k).hand.toNat,{ eJ (bQ held T k) (bQ held T k).hand.toNat with hand:=jl (bQ held T k) }):=by
    grind [bM]
   have UY:Hid (Calls Tryz.prog 295 #[.slice (some (Ad fb 0)) k.frames.length cF,.func (.func 216) #[] #[]] w fun e w'=>e=.returned (I (-1))/\Below w.heap.size w w'):=hix.mono fun e w' ⟨hb,hh⟩=>by
    grind
   have TK:=Hp held hR afJ;have Cb:∀n,(bQ held n k).frames.length=k.frames.length:=fun n=>(TK n).kept.nf
   have hhd:∀n,0<=(bQ held n k).hand/\(bQ held n k).hand<(bQ held n k).frames.length:=fun n=>(TK n).right.hand
   have HPS:Hid (∀V S' n,bJ lo mb tt X V S' (bQ held n k)->cK S w S' V->Calls Tryz.prog 296 #[.pointer (some (Ad mb 0)),I (bQ held n k).hand,.slice ah held.length ch] V (mO lo mb tt X V S' (.bool (nM held (bQ held n k))) (ma held (bQ held n k) (bQ held n k).hand.toNat))):=fun V S' n hV hc=>by
    have e:(((bQ held n k).hand.toNat:Nat):Int)=(bQ held n k).hand:=by grind
    have:=S9 (bQ held n k) S' V (bQ held n k).hand.toNat held ah ch hV (by grind) (hH.ch hc).has (by omega);rw[e] at this;exact this
   have HMV:Hid (∀V S' n,bJ lo mb tt X V S' (ma held (bQ held n k) (bQ held n k).hand.toNat)->Calls Tryz.prog 251 #[.pointer (some (Ad mb 0))] V (mO lo mb tt X V S' (.tuple #[]) (bQ held (n+1) k))):=fun V S' n hV=>by
    have hpk:(ma held (bQ held n k) (bQ held n k).hand.toNat).frames.length=(bQ held n k).frames.length/\(ma held (bQ held n k) (bQ held n k).hand.toNat).hand=(bQ held n k).hand:=by
     unfold ma
     grind
    have:=ES (ma held (bQ held n k) (bQ held n k).hand.toNat) S' V hV (by grind) (by grind);rw[Wf (hhd n)] at this;exact this
   have HST:Hid (∀V S',bJ lo mb tt X V S' (ma held (bQ held T k) (bQ held T k).hand.toNat)->bJ lo mb tt X V S' (bQ held T k)):=fun V S' hV=>by
    have e:(((bQ held T k).hand.toNat:Nat):Int)=(bQ held T k).hand:=by grind
    rw[abL (by rw[e];exact ac4) (by grind)] at hV;exact hV
   have HPA:Hid (∀V S',bJ lo mb tt X V S' (bQ held T k)->Calls Tryz.prog 297 #[.pointer (some (Ad mb 0)),I (bQ held T k).hand] V (gj lo mb tt X V S' (.tuple #[]) (eJ (bQ held T k) (bQ held T k).hand.toNat))):=fun V S' hV=>by
    have e:(((bQ held T k).hand.toNat:Nat):Int)=(bQ held T k).hand:=by grind
    have:=OJ (bQ held T k) S' V (bQ held T k).hand.toNat hV (TK T).right (by grind) ((TK T).full _ (by grind));rw[e] at this;exact this
   have apW:=EY (bQ held T k) (bQ held T k).hand.toNat
   have Gx:Hid (∀V S',bJ lo mb tt X V S' (eJ (bQ held T k) (bQ held T k).hand.toNat)->Calls Tryz.prog 251 #[.pointer (some (Ad mb 0))] V (mO lo mb tt X V S' (.tuple #[]) { eJ (bQ held T k) (bQ held T k).hand.toNat with hand:=jl (bQ held T k) })):=fun V S' hV=>by
    have hlen:(eJ (bQ held T k) (bQ held T k).hand.toNat).frames.length=(bQ held T k).frames.length:=by grind
    have:=ES _ S' V hV (by grind) (by grind);have e:jl (eJ (bQ held T k) (bQ held T k).hand.toNat)=jl (bQ held T k):=by
     unfold jl
     grind
    rw[e] at this;exact this
   have HHD:Hid (∀V S' n,bJ lo mb tt X V S' (bQ held n k)->V.cell? (Ad mb 4)=some (I (bQ held n k).hand)):=fun V S' n hV=>hV.c4
   have HHI:=ai (fun n=>hhd n);have HPP:=ai afk;have HSS:=ai ac4;have dB:Hid (∀V S',bJ lo mb tt X V S' { eJ (bQ held T k) (bQ held T k).hand.toNat with hand:=jl (bQ held T k) }->cK S w S' V->gj lo mb tt X w S (I ((bM k held).1:Int)) (bM k held).2 (.returned (I (bQ held T k).hand)) V):=fun V S' h1 h2=>by
    rw[hg];refine⟨?_,S',h1,h2⟩
    grind
   obtain⟨P,hP⟩:=ex (gj lo mb tt X w S (I ((bM k held).1:Int)) (bM k held).2);rw[<- hP] at dB ⊢;have ub:=ai h;clear hP hix hg hf hall hex h hR hcc A eF hrF hH TK Cb hhd afk ac4 Hj afJ apW hl;go_enter Tryz.func292,Tryz.ntmps292;go_wp2_with (go_at_call 295;refine UY.o.mono ?_;rintro e w1 ⟨rfl,hb1⟩;have cH:=ai hb1;clear hb1)
   go_loopg [23] T (fun g _ wr=>∃(n:Nat) (S':gL),n<=T/\g=T-n/\bJ lo mb tt X wr S' (bQ held n k)/\cK S w S' wr)
   case atStart=>exact⟨0,S,by omega,by omega,ub.o.below cH.o,cK.below cH.o⟩
   case round =>
    obtain⟨n,S',hn,hgk,rW,hch⟩:=hrel;have d4:=HHD.o wr S' n rW;have aep:=ai (HPS.o wr S' n rW hch);have akC:=ai (fun V=>HMV.o V S' n);have JF:=ai hch;have HGK:=ai hgk;clear rW hch hgk ub;by_cases hlt:n<T
    · have hp:=HPP.o n hlt;rw[hp] at aep;obtain⟨hd,hhd⟩:=ex ((bQ held n k).hand);rw[<- hhd] at d4 aep akC;clear hp hhd;go_wp2_with (first
       | (go_at_call 296;refine aep.o.mono ?_;rintro e w2 ⟨rfl,hk2,hc2⟩;have pq:=ai hk2;have yG:=ai (JF.o.trans hc2);clear hk2 hc2)
       | (go_at_call 251;refine(akC.o _ pq.o).mono ?_;rintro e w3 ⟨rfl,hk3,hc3⟩;have zG:=ai hk3;have T5:=ai (yG.o.trans hc3);clear hk3 hc3))
      go_roundg (T-(n+1))
      case measure=>have:=HGK.o;omega
      case rel=>exact⟨n+1,S',by omega,by omega,zG.o,T5.o⟩
    · obtain rfl:n=T:=by omega
      have hp:=HSS.o;rw[hp] at aep;obtain⟨IT,hIT⟩:=ex (bQ held n k);rw[<- hIT] at d4 aep HST HPA Gx dB;have aq3:Hid (∀V S',bJ lo mb tt X V S' IT->V.cell? (Ad mb 4)=some (I IT.hand)):=fun V S' hV=>hV.c4
      clear hp hIT HMV akC HPS HHD HPP HSS HHI;go_wp2_with (first
       | (go_at_call 296;refine aep.o.mono ?_;rintro e w2 ⟨rfl,hk2,hc2⟩;have ajK:=HST.o _ _ hk2;have pq:=ai ajK;have yG:=ai (JF.o.trans hc2);have d5:=aq3.o w2 S' ajK;clear hk2 hc2 ajK)
       | (go_at_call 297;refine(HPA.o _ _ pq.o).mono ?_;rintro e w3 ⟨rfl,S3,hk3,hc3⟩;have zG:=ai hk3;have T5:=ai (yG.o.trans hc3);clear hk3 hc3)
       | (go_at_call 251;refine(Gx.o _ _ zG.o).mono ?_;rintro e w4 ⟨rfl,hk4,hc4⟩;have HK4:=ai hk4;have HC4:=ai (T5.o.trans hc4);clear hk4 hc4))
      exact dB.o _ _ HK4.o HC4.o
open Go.RowKit
section
variable {P:Program} {ops:Array Oper} {Q:Exit->Act->World->Prop} {md:Region.Mode} {S:World->Prop} {z:Nat}
def xy (P:Program) (md:Region.Mode) (ops:Array Oper) (Q:Exit->Act->World->Prop) (S:World->Prop) (z:Nat):Nat->Array Bool->Act->World->Prop
 | 0,l,a,w=>Region.ready md ops l=[]/\Q .normal a w
 | n+1,l,a,w=>(Region.ready md ops l=[]->Q .normal a w)/\∀i∈Region.ready md ops l,wpOp P ops Q i (fun a' w'=>(i≠z->S w')/\xy P md ops Q S z n (l.setIfInBounds i true) a' w') a w
theorem U0:∀(n:Nat) (l:Array Bool) (a:Act) (w:World),xy P md ops Q S z n l a w->wpAny P md ops Q n l a w
 | 0,_,_,_,h=>h
 | n+1,_,_,_,h=>⟨h.1,fun i hi=>wpOp_mono (fun a' w' g=>U0 n _ a' w' g.2) (h.2 i hi)⟩
theorem aao {l:Array Bool} {i:Nat} (h:l.getD i true=false):l.getD i false=false:=by
 grind
theorem agW {i:Nat} {oi:Oper} {v:Value} (hi:ops[i]?=some oi) (alJ:∀(j:Nat) (o:Oper) cs b,ops[j]?=some o->o.op≠.select cs b)
  (hQ:∀c a w,Q (.panic c) (a.put oi.dst v) w->Q (.panic c) a w) (hz:∀oz,ops[z]?=some oz->∃e∈oz.after,Region.binds md e=true/\e.on=i) :
  ∀(n:Nat) (l:Array Bool) (a:Act) (w:World),(∀j oj,ops[j]?=some oj->j≠i->l.getD j true=false->(∀e∈oj.after,Region.binds md e=true->e.on≠i)->oi.apart ops oj=true) ->
   i∈Region.ready md ops l->YieldsIf P ops S oi v a->S w->xy P md ops Q S z n (l.setIfInBounds i true) (a.put oi.dst v) w->xy P md ops Q S z (n+1) l a w:=by
 intro n;induction n with
 | zero =>
  intro l a w _ hr hy hS H;refine⟨fun g=>absurd hr (by grind),fun j hj=>?_⟩;by_cases c:j=i
  · subst c;exact hy.wpOp hi hS ⟨fun _=>hS,H⟩
  · have g:=ready_mono hj c;rw[H.1] at g;exact absurd g G9
 | succ n ih =>
  intro l a w hf hr hy hS H;refine⟨fun g=>absurd hr (by grind),fun j hj=>?_⟩;by_cases c:j=i
  · subst c;exact hy.wpOp hi hS ⟨fun _=>hS,H⟩
  · obtain⟨hu,oj,hoj,hall⟩:=mem_ready.1 hj;have hiu:=aao (mem_ready.1 hr).1;have hno:∀e∈oj.after,Region.binds md e=true->e.on≠i:=fun e he hb g=>by
     grind
    have hjz:j≠z:=fun g=>by
     grind
    have h2:=wpOp_putIf hoj (hf j oj hoj c hu hno) (fun cs b=>alJ i oi cs b hi) (fun cs b=>alJ j oj cs b hoj) hQ hy (H.2 j (ready_mono hj c));refine wpOp_mono (fun a' w' g=>⟨g.2.1,ih (l.setIfInBounds j true) a' w' (fun k ok hk Jj hun hn=>hf k ok hk Jj ?_ hn) (ready_mono hr (Ne.symm c)) g.1 (g.2.1 hjz) ?_⟩) h2
    · by_cases d:j=k
      · grind
      · rw[getD_set_ne true d] at hun;exact hun
    · rw[Array.setIfInBounds_comm _ _ c];exact g.2.2
def LS (md:Region.Mode) (ops:Array Oper) (z i:Nat):Bool:=match ops[z]? with
 | none=>false
 | some o=>o.after.any (fun e=>Region.binds md e&&e.on==i)
theorem T9 {i:Nat} (h:LS md ops z i=true):∀oz,ops[z]?=some oz->∃e∈oz.after,Region.binds md e=true/\e.on=i:=fun oz ho=>by
 grind [LS]
theorem aiH {i:Nat} {oi:Oper} {v:Value} {n:Nat} {l:Array Bool} {a:Act} {w:World} (hi:ops[i]?=some oi)
  (hs:Region.noSelect ops=true) (hf:Region.free md ops l i=true) (hr:(Region.ready md ops l).contains i=true) (hw:LS md ops z i=true)
  (hQ:∀c a w,Q (.panic c) (a.put oi.dst v) w->Q (.panic c) a w) (hy:YieldsIf P ops S oi v a) (hS:S w)
  (h:xy P md ops Q S z n (l.setIfInBounds i true) (a.put oi.dst v) w):xy P md ops Q S z (n+1) l a w :=
 agW hi (Region.noSelect_spec hs) hQ (T9 hw) n l a w (Region.free_spec hi hf) (by grind) hy hS h
theorem iK (i:Nat) {oi:Oper} {n:Nat} {l:Array Bool} {a:Act} {w:World} (hS:S w) (v:Value) (hy:∀V,S V->(execOp a.eval oi).run P V=.ok (.value v) V)
  (h:xy P md ops Q S z n (l.setIfInBounds i true) (a.put oi.dst v) w) (hi:ops[i]?=some oi:=by rfl) (hs:Region.noSelect ops=true:=by kernel_rfl) (hf:Region.free md ops l i=true:=by kernel_rfl) (hr:(Region.ready md ops l).contains i=true:=by kernel_rfl) (hw:LS md ops z i=true:=by kernel_rfl)
  (hwt:Region.wanted oi (yielded ops a.tmps)=true:=by rfl) (hQ:∀c a w,Q (.panic c) (a.put oi.dst v) w->Q (.panic c) a w:=by exact fun _ _ _ h=>h):xy P md ops Q S z (n+1) l a w :=
 aiH hi hs hf hr hw hQ (Or.inl ⟨hwt,hy⟩) hS h
def bo (P:Program) (md:Region.Mode) (ops:Array Oper) (Q:Exit->Act->World->Prop) (S:World->Prop) (z n:Nat) (l:Array Bool) (a:Act) (w:World) (rs:List Nat):Prop:=∀i∈rs,wpOp P ops Q i (fun a' w'=>(i≠z->S w')/\xy P md ops Q S z n (l.setIfInBounds i true) a' w') a w
theorem bo.nil {n:Nat} {l:Array Bool} {a:Act} {w:World}:bo P md ops Q S z n l a w []:=fun _ h=>absurd h G9
theorem bo.cons {n:Nat} {l:Array Bool} {a:Act} {w:World} {i:Nat} {o:Oper} {rs:List Nat} (ho:ops[i]?=some o)
  (h:∀K':Act->World->Prop,Shut (∀a w,(i≠z->S w)->xy P md ops Q S z n (l.setIfInBounds i true) a w->K' a w)->if Region.wanted o (yielded ops a.tmps)=true then Oper.wp P o a w K' Q else K' (a.put o.dst undef) w)
  (hs:bo P md ops Q S z n l a w rs):bo P md ops Q S z n l a w (i::rs):=fun j hj=>by
 rcases uQ.1 hj with g | g
 · subst g;exact wpOp_step ho (fun K' hK=>h K' (fun a w h1 h2=>hK a w ⟨h1,h2⟩))
 · exact hs j g
theorem eH {rs:List Nat} {n:Nat} {l:Array Bool} {a:Act} {w:World} (hr:Region.ready md ops l=rs) (hne:rs≠[]) (h:bo P md ops Q S z n l a w rs):xy P md ops Q S z (n+1) l a w:=⟨fun g=>absurd (hr ▸ g) hne,hr ▸ h⟩
theorem rB {l:Array Bool} {a:Act} {w:World} (hr:Region.ready md ops l=[]) (h:Q .normal a w):∀n,xy P md ops Q S z n l a w
 | 0=>⟨hr,h⟩
 | _+1=>⟨fun _=>h,by rw[hr];exact fun _ g=>absurd g G9⟩
theorem xz {id:Nat} {a:Act} {w:World} (hm:P.follows .mixedOrders=true) (h:xy P .any ops Q S z ops.size (Array.replicate ops.size false) a w.drew):(Code.region id ops true).wp P Q a w:=wp_region_any hm (U0 _ _ _ _ h)
end
open Go.RowKit
theorem Nu:∀(es:List bD) (e:bD),(∀j,j<es.length->(aX es j).page<e.page)->mI es e=es++[e]
 | [],e,_=>rfl
 | a::r,e,h=>by
  unfold mI;rw[aB (show a.page<e.page from h 0 (Pk _)),Nu r e (fun j hj=>h (j+1) (Pj hj))];rfl
theorem UB:∀(es:List bD) (e:bD) (n:Nat),n<es.length->(∀j,j<n->(aX es j).page<e.page)->¬(aX es n).page<e.page->mI es e=if (aX es n).page=e.page then es.set n e else es.take n++e::es.drop n
 | [],e,n,hn,_,_=>absurd hn (jf _)
 | a::r,e,0,hn,h,P8=>by
  unfold mI;have P8:¬a.page<e.page:=P8;rw[au P8];rfl
 | a::r,e,n+1,hn,h,P8=>by
  unfold mI;rw[aB (show a.page<e.page from h 0 (Pk _)),UB r e n (Dx hn) (fun j hj=>h (j+1) (Pj hj)) P8]
  grind [aX]
theorem Tb (e o:bD) (x:Nat) (w:World) (hx:w.cell? (Ad x 0)=some (I e.page)) :
  Calls Tryz.prog 298 #[.agg #[I o.page,I o.kind,I o.loc],.pointer (some (Ad x 0))] w fun r w'=>r=.returned (.bool (decide (e.page<=o.page)))/\Below w.heap.size w w':=by
 obtain⟨pg,kd,lc⟩:=o;obtain⟨epg,ekd,elc⟩:=e;simp only at hx ⊢;have hxl:x<w.heap.size:=nW w _ hx;have xA:(w.alloc (.cells #[I pg,I kd,I lc] 174)).cell? (Ad x 0)=some (I epg):=(Pn ((aK w.heap.size w).alloc (aD _) _) (p:=(Ad x 0)) hxl).trans hx;by_cases c:epg<=pg
 · rw[ic c];go_enter Tryz.func298,Tryz.ntmps298;go_wp2
   try go_region
   try go_wp2
   go_ret;simp[aK,qj]
 · rw[jq c];go_enter Tryz.func298,Tryz.ntmps298;go_wp2
   try go_region
   try go_wp2
   go_ret;simp[aK,qj]
theorem abM (V:World) (e:bD):(V.alloc (.cells #[I e.page,I e.kind,I e.loc] 174)).ownsRow V.heap.size 174 3 (.slice (some (Ad V.heap.size 0)) 1 1) 1 ([e].flatMap bw) :=
 ⟨rfl,.inr ⟨V.heap.size,1,_,rfl,aD _,bB V _ _,aD _,by grind [maxLen],rfl,rfl⟩⟩
theorem amQ.aoW {lo mb:Nat} {tt:TypeId} {X:List Value} {w:World} {S:gL} {k:aR} (h:bJ lo mb tt X w S k) {j:Nat} (hj:j<k.aj.length) {g n cap:Nat} (hv:(fL S.L j).vp=.slice (some (Ad g 0)) n cap) {i:Nat} (hi:i<(ak k.aj j).bf.length) (e:bD) :
  bJ lo mb tt X (((w.setCell (Ad g (i*3)) (I e.page)).setCell (Ad g (i*3+1)) (I e.kind)).setCell (Ad g (i*3+2)) (I e.loc)) S { k with aj:=k.aj.set j (ek (ak k.aj j) ((ak k.aj j).bf.set i e)) } /\
  cK S w S (((w.setCell (Ad g (i*3)) (I e.page)).setCell (Ad g (i*3+1)) (I e.kind)).setCell (Ad g (i*3+2)) (I e.loc)):=by
 have at1:∀(ss:List cZ) (es:List bD),j<ss.length->ak (ss.set j (ek (ak k.aj j) es)) j=ek (ak k.aj j) es:=fun ss es hl=>by grind [iI]
 have m1:=h.afd hj hv hi (c:=0) (by omega) (e:=⟨e.page,(aX (ak k.aj j).bf i).kind,(aX (ak k.aj j).bf i).loc⟩) (u:=I e.page) rfl;have m2:=m1.1.afd (j:=j) (by grind) hv (i:=i) (by
  show i<(ak (List.set _ _ _) j).bf.length;rw[at1 _ _ hj];show i<(List.set _ _ _).length
  grind) (c:=1) (by omega) (e:=⟨e.page,e.kind,(aX (ak k.aj j).bf i).loc⟩) (u:=I e.kind) (by
  show _=(bw (aX (ak (List.set _ _ _) j).bf i)).set 1 _;rw[at1 _ _ hj];show _=(bw ((List.set _ _ _).getD i gY)).set 1 _;rw[eT _ _ _ _ hi];rfl)
 simp only[qi,at1 _ _ hj] at m2;have m2a:bJ lo mb tt X ((w.setCell (Ad g (i*3)) (I e.page)).setCell (Ad g (i*3+1)) (I e.kind)) S { k with aj:=k.aj.set j (ek (ak k.aj j) ((ak k.aj j).bf.set i ⟨e.page,e.kind,(aX (ak k.aj j).bf i).loc⟩)) }:=by
  grind [ek,List.set_set]
 have m3:=m2a.afd (j:=j) (by grind) hv (i:=i) (by
  show i<(ak (List.set _ _ _) j).bf.length;rw[at1 _ _ hj];show i<(List.set _ _ _).length
  grind) (c:=2) (by omega) (e:=e) (u:=I e.loc) (by
  show _=(bw (aX (ak (List.set _ _ _) j).bf i)).set 2 _;rw[at1 _ _ hj];show _=(bw ((List.set _ _ _).getD i gY)).set 2 _;rw[eT _ _ _ _ hi];rfl)
 grind [List.set_set,ek,cK.trans]
theorem KQ {D:Nat->Prop} {N:Nat} {w0 w1 V:World} {b o:Nat} (hV:aC D w1 V) (hb:Below N w0 w1) (hl:b<N) (hl0:b<w0.heap.size) (hn:¬D b) (h:w0.frozen? (Ad b o)=false):V.frozen? (Ad b o)=false:=by
 have e1:=hb.block b hl
 grind [World.frozen?,aC.block]
theorem Wm (w1:World) (o:Obj):aC (fun _=>False) w1 ((w1.alloc o).drew):=(aC.alloc _ _ o).trans (aC.drew _ _) (fun _ _ g=>g)
theorem aec (w1:World) (e:bD):∀i u,(bw e)[i]?=some u->((w1.alloc (.cells #[I e.page,I e.kind,I e.loc] 174)).drew).cell? (((Ad w1.heap.size 0):Addr).add i)=some u:=fun i u hu=>GR (C:=#[I e.page,I e.kind,I e.loc]) (t:=174) (fr:=(0,0)) (bB w1 _ _) i u hu
end Go.Proofs.YtlgoihmkgaaemaaGreat
