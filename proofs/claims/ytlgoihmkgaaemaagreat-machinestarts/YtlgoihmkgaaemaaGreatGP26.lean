import Derived.Test.YtlgoihmkgaaemaaGreatGP25
set_option maxHeartbeats 20000000
set_option linter.unusedVariables false
set_option maxRecDepth 100000
set_option linter.unusedSimpArgs false
namespace Go.Proofs.YtlgoihmkgaaemaaGreat
open Go.RowKit Tryz
def se (k:aT) (sp:Int):aT×Int×Int:=if fR k sp≠0 then (gU,0,fR k sp) else if k.aj.length=4 then (gU,0,2) else if dJ k.aj+bR (ak k.aj sp.toNat).bu>(k.slots.length:Int) then (gU,0,8) else (oD k sp.toNat,(k.aj.length:Int),0)
theorem aan {k:aT} (hR:bg k) {j:Nat} (hj:j<k.aj.length) {s:cZ} (hs:s=ak k.aj j) (n:Nat) (hn:n<=s.bl.length):(∀i,i<k.frames.length->-1000000<=(aK (fH k s.bl n).frames i).refs/\(aK (fH k s.bl n).frames i).refs<=1000000)/\(∀i,i<k.slots.length->-1000000<=(bI (fH k s.bl n).slots i).refs/\(bI (fH k s.bl n).slots i).refs<=1000000):=by
 subst hs;obtain⟨_,_,_,_,_,h6,h7⟩:=wP hR hj n hn;obtain⟨r1,r2⟩:=yO hR;have b:=oP hR hj;have hl:∀(kd i:Int),(jN (ak k.aj j).bu kd i ((ak k.aj j).bl.take n)).length<=512:=λkd i=>by
  grind [jN]
 refine⟨λi hi=>?_,λi hi=>?_⟩
 . rw[h6 i hi];have:=r1 i hi;have:=hl 1 i;show _<=(aK k.frames i).refs+_/\(aK k.frames i).refs+_<=_;omega
 rw[h7 i hi];have:=r2 i hi;have:=hl 2 i;show _<=(bI k.slots i).refs+_/\(bI k.slots i).refs+_<=_;omega
theorem aaq (FE:si) (k:aT) (a:gN) (sp:Int) (w:World) (hK:iB w a k) (hF:kN k) (hsp:cR sp) :
  Calls prog 261 #[.agg (bj a k),I sp] w (dY w (se k sp).1 [I (se k sp).2.1,I (se k sp).2.2]):=by
 obtain⟨WA,lQ,r,kb,b9,rb⟩:=Xm w (bj a k) 30;obtain⟨k0,k1,k2,k3,k4⟩:=kj kb;have ot:=ai lQ;have eB:=ai r;have RB:=ai rb;have O:=yP k a sp WA (hK.below r) hF hsp;generalize hP:dY w (se k sp).1 [I (se k sp).2.1,I (se k sp).2.2]=P;by_cases c:fR k sp=0
 . obtain⟨hR,QF,hj,_⟩:=sH c;obtain⟨j,rfl⟩:∃j:Nat,sp=(j:Int):=⟨sp.toNat,ω⟩;rw[kq] at hj;have an:=ai (Rl FE hK hF hR r);have zu:=ai (AB O c);obtain⟨pb,po,a4,Q,Td⟩:=hK.aj ω;obtain⟨va,ap,cp,v0,v1,v2,ZV,ZU,_⟩:=Td j hj;obtain⟨aa,ca,rfl,_⟩:=id ZV;have ae:=xL k.aj k.aj.length;have am:=hR.c;have A:=(hF.sp j hj).bu;have ov:∀{V:World},Below WA.heap.size WA V->Below w.heap.size w V:=λhV=>r.trans (hV.mono r.size)
   have b4:(j:Int)<(k.aj.length:Int):=by omega
   have M:∀e∈(ak k.aj j).bl,(e.kind=1->0<=e.loc/\e.loc<(k.frames.length:Int))/\(e.kind≠1->0<=e.loc/\e.loc<(k.slots.length:Int)):=λe he=>by
    obtain⟨_,e2⟩:=(hR.sp hj).MQ _ he;omega
   have a8:=oP hR hj;have a7:=mK _ (hR.sp hj).bu;have B:=λn hn=>wP hR hj n hn
   have QN:=λn hn=>aan hR hj rfl n hn
   have HA:Hid (P=if k.aj.length=4 then dY w gU [I 0,I 2] else if (k.slots.length:Int)<dJ k.aj+bR (ak k.aj j).bu then dY w gU [I 0,I 8] else dY w (oD k j) [I (k.aj.length:Int),I 0]):=by
    rw[<- hP];unfold se;rw[aH (λg=>g c),kq];split
    . rfl
    split <;> rfl
   have ZG:Hid (∀hs,aV (oD k j) hs={ aV (fH k (ak k.aj j).bl (ak k.aj j).bl.length) hs with aj:=(aV (fH k (ak k.aj j).bl (ak k.aj j).bl.length) hs).aj++[ak k.aj j] }):=λhs=>rfl
   have a5:Hid ((oD k j).aD=k.aD/\(oD k j).aj.length=k.aj.length+1):=by
    have hp:=B _ (aJ _);refine⟨hp.1,?_⟩;show((fH k _ _).aj++[_]).length=_;rw[gM,hp.2.2.1];rfl
   generalize ak k.aj j=sj at v0 v1 v2 ZV ZU A M a8 a7 B QN HA ZG;obtain⟨lv,xy,xx⟩:=sj;simp only at v0 v1 v2 ZV ZU A M a8 a7 B QN HA ZG;have HV:Hid (∀V,Below WA.heap.size WA V->V.cell? (Ad pb (po+j*3))=some (.bool lv)/\V.cell? (Ad pb (po+j*3+1))=some (.slice aa xy.length ca)/\V.cell? (Ad pb (po+j*3+2))=some (.slice ap xx.length cp)):=λV hV=>⟨((ov hV).cell (p:=(Ad pb _)) Q).trans v0,((ov hV).cell (p:=(Ad pb _)) Q).trans v1,((ov hV).cell (p:=(Ad pb _)) Q).trans v2⟩
   have HM:Hid (∀(V:World) mb,V.heap[mb]?=some (.cells (tY a k) 158 (0,0))->V.cell? (Ad mb 3)=some (.slice (some (Ad pb po)) k.aj.length a.cP)/\V.cell? (Ad mb 2)=some (.slice a.aL k.slots.length a.cL)):=λV mb h=>⟨a4 ▸ aA h 3 rfl,aA h 2 rfl⟩
   have Nr:=ai (λV mb (hV:Below WA.heap.size WA V) (hm:V.heap[mb]?=some (.cells (tY a k) 158 (0,0)))=>Eu k.aj a.aP a.cP mb V (hK.aj.below (ov hV)) (λi hi=>(hF.sp i hi).bu) ω (aA hm 3 rfl));have a0:=ai (λV (hV:Below WA.heap.size WA V)=>xk xy _ V (ZV.below (ov hV)) A);have ah:=mI xy;have vt:Hid (∀V n,Below WA.heap.size WA V->n<xx.length->∃eb eo,ap=some (Ad eb eo)/\V.cell? (Ad eb (eo+n*3))=some (I (aW xx n).page)/\V.cell? (Ad eb (eo+n*3+1))=some (I (aW xx n).kind)/\V.cell? (Ad eb (eo+n*3+2))=some (I (aW xx n).loc)):=λV n hV hn=>by
    obtain⟨eb,eo,e1,e2,e3⟩:=(ZU.below (ov hV)) ω;exact⟨eb,eo,e1,e3 n hn 0 ω,e3 n hn 1 ω,e3 n hn 2 ω⟩
   have T:Hid (∀V S mb hs n,n<xx.length->bO WA.heap.size mb 158 (jq k) V S (aV (fH k xx n) hs)->Calls prog 270 #[.pointer (some (Ad mb 0)),.agg #[I (aW xx n).page,I (aW xx n).kind,I (aW xx n).loc],I 1] V (mU WA.heap.size mb 158 (jq k) V S (.tuple #[]) (aV (fH k xx (n+1)) hs))):=λV S mb hs n hn hV=>by
    have hp:=B n ω;have QN:=QN n (uN hn);obtain⟨q1,q2⟩:=M (aW xx n) (kT (d:=gJ) hn);have hc:=Et (aV (fH k xx n) hs) S V (aW xx n) 1 hV (λg=>?_) (λg=>?_) (.inl rfl) ⟨λg=>QN.1 _ (by have:=q1 g;omega),λg=>QN.2 _ (by have:=q2 g;omega)⟩
    . rw[GC] at hc;exact hc
    . show _/\_<((fH k xx n).frames.length:Int);rw[hp.2.2.2.1];exact q1 g
    show _/\_<((fH k xx n).slots.length:Int);rw[hp.2.2.2.2.1];exact q2 g
   have aq:Hid (∀n,n<=xx.length->(fH k xx n).aj.length=k.aj.length):=λn hn=>by rw[(B n hn).2.2.1]
   have aX:Hid (∀V,Below WA.heap.size WA V->eN V (.slice aa xy.length ca) xy/\dE bC 3 gJ V ap xx):=λV hV=>⟨ZV.below (ov hV),ZU.below (ov hV)⟩
   have b6:k.aj.length<=4:=by omega
   have ay:0<=dJ k.aj/\dJ k.aj<=65025*4:=by
    unfold dJ;omega
   generalize bR xy=T1 at a0 ah HA;generalize dJ k.aj=RM at Nr ay HA;unfold bj at zu ot ⊢;clear hK hF hsp c hP lQ r kb rb O hR QF hj Td v0 v1 v2 ZV ZU A a4 am ae M B QN ov FE;go_enter func261,ntmps261;go_upto_region 1 with fail;rw[ot.o];go_upto_region 5 with(go_at_call 76;refine zu.o.mono ?_;rintro e w1 ⟨mb,rfl,h⟩;have H1:=ai h;have m:=HM.o _ _ h.2.1;have u:=HV.o _ h.2.2;clear h);have a1:Hid (w1.heap.size≠mb):=(show w1.heap.size≠mb from λe=>by have:=aM H1.o.2.1;omega);have kE:=ai (H1.o.2.2.alloc H1.o.2.2.size (.cells #[.bool lv,.slice aa xy.length ca,.slice ap xx.length cp] 99));have B3:=ai (bG w1 #[.bool lv,.slice aa xy.length ca,.slice ap xx.length cp] 99);have M3:=ai (bB H1.o.2.1 (.cells #[.bool lv,.slice aa xy.length ca,.slice ap xx.length cp] 99));generalize w1.alloc (.cells #[.bool lv,.slice aa xy.length ca,.slice ap xx.length cp] 99)=W3 at kE B3 M3 ⊢;generalize w1.heap.size=fb at B3 a1 ⊢;clear m u;have m:=HM.o _ _ M3.out;have a3:=ai (λV (hV:Below W3.heap.size W3 V)=>And.intro (RB.o _ (kE.o.trans (hV.mono kE.o.size))) (eB.o.trans ((kE.o.trans (hV.mono kE.o.size)).mono eB.o.size)));by_cases c4:k.aj.length=4
   . have ad:(k.aj.length:Int)=4:=by omega
     have R1:=ai (a3.o _ (aN _ _));have y:=kj R1.o.1;have f:=br R1.o.1;go_wp2;obtain rfl:=HA.o.trans (aQ c4);exact Az R1.o.1 R1.o.2
   have ad:¬(k.aj.length:Int)=4:=by omega
   go_upto_region 7 with fail;have yL:=iH W3;have q1:∀x:cM W3.heap.size W3,x.world.cell? (Ad fb 1)=some (.slice aa xy.length ca):=λx=>aA (aO B3.o x.keeps (aM B3.o)) 1 rfl
   have q2:∀x:cM W3.heap.size W3,x.world.cell? (Ad mb 2)=some (.slice a.aL k.slots.length a.cL):=λx=>(HM.o _ _ (aO M3.out x.keeps (aM M3.out))).2
   have R:=ai (λV (hV:Below W3.heap.size W3 V)=>Nr.o V mb (kE.o.trans (hV.mono kE.o.size)) (aO M3.out hV (aM M3.out)));have Y:=ai (λV (hV:Below W3.heap.size W3 V)=>a0.o V (kE.o.trans (hV.mono kE.o.size)));clear m;refine cB κ κ ?_
   repeat (first | go_big_quiet_step ((first | (go_at_call 143;exact gZ _ R.o) | (go_at_call 70;exact gZ _ Y.o))) | quiet_step ((first | (go_at_call 143;exact gZ _ R.o) | (go_at_call 70;exact gZ _ Y.o))))
   refine fL ?_;rintro _ ⟨X,rfl⟩;clear yL q2 q1 R Y Nr a0;by_cases cr:(k.slots.length:Int)<RM+T1
   . have R1:=ai (a3.o _ X.keeps);have y:=kj R1.o.1;have f:=br R1.o.1;go_wp2;obtain rfl:=HA.o.trans ((aH c4).trans (aQ cr));exact Az R1.o.1 R1.o.2
   have mh:=ai (kE.o.trans (X.keeps.mono kE.o.size));have MX:=ai (aO M3.out X.keeps (aM M3.out));have BX:=ai (aO B3.o X.keeps (aM B3.o));generalize X.world=WX at mh MX BX ⊢;go_upto_region 10 with(go_at_call 267;refine(an.o _ _ mh.o H1.o.1 MX.o).mono ?_;rintro e w4 ⟨rfl,S,hs,h⟩;have H2:=ai h;clear h);obtain⟨_,al,a2,J9,az⟩:=H2.o;have ab:Hid (S.lab fb=.no):=BC.1 λg=>by
    rcases a2 fb g with e | e
    . exact a1.o e
    have:=aM BX.o;omega
   have B4:=ai (J9.keep BX.o a1.o);have x2:w4.cell? (Ad fb 2)=some (.slice ap xx.length cp):=aA B4.o 2 rfl;have av:Hid (∀V,aI (λb=>S.lab b≠.no) w4 V->V.heap[fb]?=some (.cells #[.bool lv,.slice aa xy.length ca,.slice ap xx.length cp] 99 (0,0))/\Below WA.heap.size WA V):=λV hV=>⟨hV.keep B4.o (λg=>g ab.o),aI.below H2.o.2.2.2.2 hV H2.o.2.2.2.2.size (λb hb=>(H2.o.2.1.vD b hb).1)⟩
   clear al a2 J9 az;go_wp2;go_loopw [59] (λiv wq=>∃n:Nat,n<=xx.length/\iv=I (n:Int)/\bO WA.heap.size mb 158 (jq k) wq S (aV (fH k xx n) hs)/\aI (λb=>S.lab b≠.no) w4 wq) (λiv _=>xx.length-(intOf iv).toNat)
   case atStart=>exact⟨0,ω,rfl,H2.o.2.1,aI.refl _ _⟩
   case round =>
    obtain⟨n,hn,rfl,mL,J⟩:=hrel;obtain⟨Zu,NV⟩:=av.o wr J;by_cases hlt:n<xx.length
    . have b3:(n:Int)<(xx.length:Int):=by omega
      obtain⟨eb,eo,af,z0,z1,z2⟩:=vt.o wr n NV hlt;have vd:=ai (T.o _ S mb hs n hlt (mL.below ((aN _ _).alloc (aJ _) (.cells #[I (aW xx n).page,I (aW xx n).kind,I (aW xx n).loc] 174))));have aw:=ai J;generalize aW xx n=en at z0 z1 z2 vd;obtain⟨g1,g2,g3⟩:=en;simp only at z0 z1 z2 vd;subst af;clear mL J Zu NV T vt;go_wp2_with (go_at_call 270;refine vd.o.mono ?_;rintro e w5 ⟨rfl,h⟩;have H5:=ai h;clear h);go_roundw
      case rel=>exact⟨n+1,ω,by go_num,H5.o.1,(aw.o.trans (aI.alloc _ _ _) (λ_ _ g=>g)).trans H5.o.2.kp (λ_ _ g=>g)⟩
      case measure=>simp[intOf];omega
    obtain rfl:n=xx.length:=by omega
    obtain⟨bP,dP,eP,_⟩:=bh mL.aj;have aC:Hid (S.L.length=k.aj.length):=mL.len.trans (aq.o _ (aJ _));have b5:S.L.length<=1000000:=by
     have:=aC.o;omega
    have ZX:Below wr.heap.size wr wr.drew:=(aN _ _).drew;have BD:=aO Zu ZX (aM Zu);have G:=mL.below ZX;have N:=NV.trans (ZX.mono NV.size);obtain⟨WD,W⟩:∃WD,wr.drew=WD:=⟨_,rfl⟩;rw[W] at ZX BD G N;have ar:=ai W;obtain⟨ac,a9⟩:=aX.o WD N;have ag:=ai (IL ⟨lv,xy,xx⟩ aa ap xy.length ca cp WD ac a9 (by show xy.length<=_;omega) (by show xx.length<=_;omega));have uZ:Hid (∀V,aI (λb=>bN S.vP b) WD V->V.cell? (Ad mb 3)=some (.slice bP S.L.length dP)/\V.cell? (Ad fb 0)=some (.bool lv)/\V.cell? (Ad fb 1)=some (.slice aa xy.length ca)/\V.cell? (Ad fb 2)=some (.slice ap xx.length cp)/\V.frozen? (Ad mb 3)=false):=λV hV=>by
     have b1:=hV.keep G.head (λg=>by have:=mL.lP _ g;rw[mL.lH] at this;simp at this);have b2:=hV.keep BD (λg=>by have:=mL.lP _ g;rw[ab.o] at this;simp at this);exact⟨eP ▸ aA b1 3 rfl,aA b2 0 rfl,aA b2 1 rfl,aA b2 2 rfl,br b1 3⟩
    have aE:Hid (∀w2 o,Below WD.heap.size WD w2->(w2.alloc o).ownsRow WA.heap.size 99 3 (.slice bP S.L.length dP) S.L.length (S.L.flatMap fX)):=λw2 o hb=>by
     have:=((aI.cA (D:=λ_=>False) hb).trans (aI.alloc _ w2 o) (λ_ _ g=>g)).row G.aj (λ_ _ g=>g);rw[eP] at this;exact this
    have a6:=ai G;have EO:=ai N;have Fq:Hid (∀w2,Below WD.heap.size WD w2->aI (λb=>bN S.vP b) WD w2):=λw2 h=>aI.cA h
    have ao:=ai eP;clear mL G J NV Zu ac a9 W ZX BD eP N T vt;go_upto_region 15 with fail;refine uj (S:=λV=>aI (λb=>bN S.vP b) WD V) (z:=13) κ ?_;rw[ar.o];have o5:Hid (aI (λb=>bN S.vP b) WD WD):=aI.refl _ _;refine lO 0 o5.o ?_ (hc:=uZ.o);refine lO 1 o5.o ?_ (hc:=uZ.o);refine lO 2 o5.o ?_ (hc:=uZ.o);refine lO 3 o5.o ?_ (hc:=uZ.o);refine lO 4 o5.o ?_ (hc:=uZ.o);refine lO 5 o5.o ?_ (hc:=uZ.o);refine lO 6 o5.o ?_ (hc:=uZ.o);refine A8 7 λK hK=>?_
    rw[aQ ρ];go_simp;go_at_call 135;refine ag.o.mono ?_;rintro e w6 ⟨va,vp,rfl,h⟩;have H6:=ai h;have U:=ai (Fq.o _ h.2.2);clear h;obtain⟨xa,cx,ex,_⟩:=bh H6.o.1.bu;obtain⟨ya,cy,ey,_⟩:=bh H6.o.1.aY;obtain rfl:va=_:=ex;obtain rfl:vp=_:=ey
    try go_simp
    refine hK.out _ _ (λ_=>U.o) ?_;clear hK K;refine A8 8 λK hK=>?_
    go_simp;refine hK.out _ _ (λ_=>U.o.trans (aI.alloc _ _ _) (λ_ _ g=>g)) ?_;clear hK K;have b0:=H6.o.2.2.size;refine A8 9 λK hK=>?_
    rw[aQ ρ];refine afD _ _ rfl WA.heap.size (.slice bP S.L.length dP) S.L.length (S.L.flatMap fX) rfl (aE.o _ _ H6.o.2.2) (some (Ad w6.heap.size 0)) 1 1 (fX ⟨lv,.slice xa _ cx,.slice ya _ cy⟩) rfl rfl (λ_=>⟨_,rfl,Vk w6 _ _⟩) (by intro u hu;simp[fX] at hu;rcases hu with rfl | rfl | rfl <;> rfl) (by unfold maxLen;omega) ω (by rw[fp];have:=EO.o.size;omega) ?_;intro vG wG Tc Wx Wy;obtain⟨aG,cG,rfl,_,_⟩:=bh Tc;rw[<- ao.o] at Wx Wy;have OE:Hid (aI (λb=>bN S.vP b) WD wG):=(U.o.trans (aI.alloc _ _ _) (λ_ _ g=>g)).trans (aI.grown Wx (λq hq=>hq)) (λ_ _ g=>g);have au:=ai (a6.o.push EO.o.size H6.o.2.2 H6.o.1 H6.o.2.1 Wx Tc Wy);clear Tc Wx Wy;refine hK.out _ _ (λ_=>OE.o) ?_;clear hK K;refine A8 10 λK hK=>?_
    go_simp;refine hK.out _ _ (λ_=>OE.o) ?_;clear hK K;refine A8 11 λK hK=>?_
    go_simp;refine hK.out _ _ (λ_=>OE.o) ?_;clear hK K;refine lO 12 OE.o ?_ (hc:=uZ.o);have k:=uZ.o _ OE.o;refine A8 13 λK hK=>?_
    go_simp;refine hK.out _ _ (λg=>absurd rfl g) ?_;refine Ab κ ?_ _;clear k;obtain⟨m1,_,m3⟩:=au.o;have Z:=aI.below EO.o m3 EO.o.size (λb hb=>(a6.o.vD b hb).1);rw[<- ZG.o hs] at m1;obtain⟨aS,nS,cS,aF,nF,cF,aL,nL,cL,aP,b8,hd,q,F⟩:=JG (D:=λb=>b=w.heap.size+1) m1 H2.o.1 a5.o.1 eB.o Z (λb e=>ω);rw[a5.o.2] at q F;have Dh:=ai F;have HQ:=ai q;have R3:=ai (RB.o _ Z);clear m1 m3 Z F q;generalize wG.setCell (Ad mb 3) (.slice aG (S.L.length+1) cG)=W5 at HQ R3 Dh ⊢;have q:=HQ.o;have y:=kj R3.o;have f:=br R3.o;have ZR:¬mb=w.heap.size+1:=by have:=H1.o.1;omega
    have QI:¬w.heap.size+1=mb:=by omega
    go_upto_region 16 with fail;go_region;go_wp2;obtain rfl:=HA.o.trans ((aH c4).trans (aH (Int.not_lt.2 cr)));exact Qz R3.o (Dh.o _)
 rw[show se k sp=(gU,0,fR k sp) by grind [se]] at hP;have HP:=ai hP;have zu:=ai (Cf O c);generalize fR k sp=C at zu HP c;have cb:(C != 0)=true:=by grind
 unfold bj at zu ot ⊢;clear hK hF hsp c hP lQ r kb rb O FE;go_enter func261,ntmps261;go_upto_region 1 with fail;rw[ot.o];go_upto_region 3 with(go_at_call 76;refine zu.o.mono ?_;rintro e w1 ⟨rfl,h⟩;have R1:=ai (RB.o _ h);have vX:=ai (eB.o.trans (h.mono eB.o.size));clear h);have y:=kj R1.o;have f:=br R1.o;go_wp2;obtain rfl:=HP.o;exact Az R1.o vX.o
open Go.RowKit Tryz
variable {k:aT} {fl:List Bool} {j:Nat} {hs:List bD}
theorem L8 (h:gQ k fl) (hk:fl.getD j false=true) (s:cD k.aD hs):fR (aV k hs) (j:Int)=0:=by
 obtain⟨hj,hl⟩:=h.at_ hk;unfold fR;rw[aQ (Sa h.right s),aQ];exact⟨ω,by show(j:Int)<(k.aj.length:Int);omega,hl⟩
theorem afq (h:gQ k fl) (hk:fl.getD j false=true) (s:cD k.aD hs) {n way:Int} {ways:List Int} (h1:1<=n) (h8:n<=8) (hw:way∈ways):jk (aV k hs) (j:Int) n way ways=0:=by
 unfold jk;rw[aH (λg=>g (L8 h hk s)),aH (λg=>g ⟨h1,h8⟩),aQ hw]
def Np (k K k':aT) (hs:List bD) (ok:Prop):Prop:=(ok->K=aV k' hs/\k'.aD=k.aD)/\(¬ok->k'=k)
theorem aa8 (h:gQ k fl) (hk:fl.getD j false=true) (s:cD k.aD hs) (a n way:Int) (h1:1<=n) (h8:n<=8) (hw:way=0\/way=2) :
  ∃K,qQ (aV k hs) (j:Int) a n way=(K,(iG k j a n way).1.1,(iG k j a n way).1.2,0)/\Np k K (iG k j a n way).2 hs ((iG k j a n way).1.2.1=0):=by
 obtain⟨hj,hl⟩:=h.at_ hk;unfold qQ;rw[aH (λg=>g (afq h hk s h1 h8 (by simpa using hw)))];show ∃K,(if (dh (iD k j) a n way).1≠0 then _ else _)=_/\_;by_cases g:(dh (iD k j) a n way).1=0
 . rw[aH (λx=>x g),tO h1 h8 g];obtain⟨m1,m2,_⟩:=oL h1 h8 g;have R:=qd h.right hj a n way m1 m2;have e:m7 (aV k hs) j a n way=m7 k j a n way:=by
    rw[AY h.right hj a n way m1 m2,AY (h.right.Al s) hj a n way m1 m2];congr 1;funext p;exact IQ s j p
   refine⟨(bk (aV k hs) j a n way).2,?_,λ_=>⟨?_,R.kept.aD⟩,λx=>absurd rfl x⟩
   . show(_,m7 (aV k hs) j a n way,_,_)=_;rw[e];rfl
   rw[tE h.right hj m1 s]
 rw[aQ g,vq h1 h8 g];exact⟨_,rfl,λx=>absurd x g,λ_=>rfl⟩
theorem Yn (h:gQ k fl) (hk:fl.getD j false=true) (s:cD k.aD hs) (a:Int) (d:ByteArray) (h1:1<=d.size) (h8:d.size<=8) :
  ∃K,pU (aV k hs) (j:Int) a d=(K,(jQ k j a d).1,0)/\Np k K (jQ k j a d).2 hs ((jQ k j a d).1.1=0):=by
 obtain⟨hj,hl⟩:=h.at_ hk;unfold pU;rw[aH (λg=>g (afq h hk s ω ω ξ))];show ∃K,(if (dh (iD k j) a d.size 1).1≠0 then _ else _)=_/\_;by_cases g:(dh (iD k j) a d.size 1).1=0
 . rw[aH (λx=>x g),ui g];obtain⟨m1,m2,_⟩:=oL ω ω g;have R:=zR h.right hj a d ω ω m1 m2;exact⟨nY (aV k hs) j a d,rfl,λ_=>⟨Gn h.right hj m1 s,R.aD⟩,λx=>absurd rfl x⟩
 rw[aQ g,vT g];exact⟨_,rfl,λx=>absurd x g,λ_=>rfl⟩
theorem aa6 (h:gQ k fl) (hk:fl.getD j false=true) (s:cD k.aD hs) (r:List aU×Int) :
  ∃K,jM (aV k hs) (j:Int) r=(K,(je k j r).1)/\Np k K (je k j r).2 hs ((je k j r).1=0):=by
 obtain⟨hj,hl⟩:=h.at_ hk;have eA:jM (aV k hs) (j:Int) r=if r.2≠0 then (gU,r.2) else if dJ k.aj-bR (iD k j)+bR r.1>(k.slots.length:Int) then (gU,8) else (lj (aV k hs) j r.1,0):=by
  unfold jM;rw[aH (λg=>g (L8 h hk s))];rfl
 rw[eA];by_cases c:r.2=0
 . rw[aH (λg=>g c)];by_cases c2:dJ k.aj-bR (iD k j)+bR r.1>(k.slots.length:Int)
   . have eM:je k j r=(8,k):=by unfold je;rw[aH (λg=>g c),aQ c2]
     rw[aQ c2,eM];exact⟨_,rfl,(λx=>by cases x),λ_=>rfl⟩
   have eM:je k j r=(0,lj k j r.1):=by unfold je;rw[aH (λg=>g c),aH c2]
   rw[aH c2,eM];exact⟨_,rfl,λ_=>⟨GH k hs j r.1,(wW k hj r.1).1⟩,λx=>absurd rfl x⟩
 have eM:je k j r=(r.2,k):=by unfold je;rw[aQ c]
 rw[aQ c,eM];exact⟨_,rfl,λx=>absurd x c,λ_=>rfl⟩
theorem aba (h:gQ k fl) (hk:fl.getD j false=true) (s:cD k.aD hs) :
  ∃K x,se (aV k hs) (j:Int)=(K,x,(jf k j).1)/\Np k K (jf k j).2 hs ((jf k j).1=0):=by
 obtain⟨hj,hl⟩:=h.at_ hk;have eA:se (aV k hs) (j:Int)=if k.aj.length=4 then (gU,0,2) else if dJ k.aj+bR (iD k j)>(k.slots.length:Int) then (gU,0,8) else (oD (aV k hs) j,(k.aj.length:Int),0):=by
  unfold se;rw[aH (λg=>g (L8 h hk s))];rfl
 rw[eA];by_cases c:k.aj.length=4
 . have eM:jf k j=(2,k):=by unfold jf;rw[aQ c]
   rw[aQ c,eM];exact⟨_,_,rfl,(λx=>by cases x),λ_=>rfl⟩
 rw[aH c];by_cases c2:dJ k.aj+bR (iD k j)>(k.slots.length:Int)
 . have eM:jf k j=(8,k):=by unfold jf;rw[aH c,aQ c2]
   rw[aQ c2,eM];exact⟨_,_,rfl,(λx=>by cases x),λ_=>rfl⟩
 have eM:jf k j=(0,oD k j):=by unfold jf;rw[aH c,aH c2]
 rw[aH c2,eM];exact⟨_,_,rfl,λ_=>⟨I0 k hs j,(Co h.right hj).aD⟩,λx=>absurd rfl x⟩
theorem abc (h:gQ k fl) (hk:fl.getD j false=true) (s:cD k.aD hs) :
  uH (aV k hs) (j:Int)=(aV (ql k j) hs,0)/\(ql k j).aD=k.aD:=by
 unfold uH;rw[aH (λg=>g (L8 h hk s))];refine⟨by rw[show((j:Int).toNat)=j from rfl,I2],?_⟩;exact(pB k j (λ_=>true)).1
open Go.RowKit Tryz
theorem wM:si:=λk a w hK hs=>Rq k a w hK hs
open Go.RowKit Tryz
def qz (v:Value) (b:Nat):Prop:=v.ownBlock=some b
theorem I6 (a : Addr) (w : World) : (method 513 183 (.pointer (some a)) "Load").run prog w = .ok (254, .pointer (some a)) w := by kernel_rfl
theorem Mb (a : Addr) (w : World) : (nilAhead 513 183 (.pointer (some a)) "Load").run prog w = .ok (some false) w := by kernel_rfl
theorem Sn (a : Addr) (w : World) : (method 513 183 (.pointer (some a)) "Store").run prog w = .ok (257, .pointer (some a)) w := by kernel_rfl
theorem Uo (a : Addr) (w : World) : (nilAhead 513 183 (.pointer (some a)) "Store").run prog w = .ok (some false) w := by kernel_rfl
theorem Yp (a : Addr) (w : World) : (method 513 183 (.pointer (some a)) "Map").run prog w = .ok (255, .pointer (some a)) w := by kernel_rfl
theorem abk (a : Addr) (w : World) : (nilAhead 513 183 (.pointer (some a)) "Map").run prog w = .ok (some false) w := by kernel_rfl
theorem Sm (a : Addr) (w : World) : (method 513 183 (.pointer (some a)) "Unmap").run prog w = .ok (258, .pointer (some a)) w := by kernel_rfl
theorem Un (a : Addr) (w : World) : (nilAhead 513 183 (.pointer (some a)) "Unmap").run prog w = .ok (some false) w := by kernel_rfl
theorem Nq (a : Addr) (w : World) : (method 513 183 (.pointer (some a)) "Protect").run prog w = .ok (256, .pointer (some a)) w := by kernel_rfl
theorem Py (a : Addr) (w : World) : (nilAhead 513 183 (.pointer (some a)) "Protect").run prog w = .ok (some false) w := by kernel_rfl
theorem Ul (a : Addr) (w : World) : (method 513 183 (.pointer (some a)) "Fork").run prog w = .ok (253, .pointer (some a)) w := by kernel_rfl
theorem Yq (a : Addr) (w : World) : (nilAhead 513 183 (.pointer (some a)) "Fork").run prog w = .ok (some false) w := by kernel_rfl
theorem I7 (a : Addr) (w : World) : (method 513 183 (.pointer (some a)) "Drop").run prog w = .ok (252, .pointer (some a)) w := by kernel_rfl
theorem Mc (a : Addr) (w : World) : (nilAhead 513 183 (.pointer (some a)) "Drop").run prog w = .ok (some false) w := by kernel_rfl
def qA {σ:Type} (Hd:World->(Nat->Prop)->σ->Prop) (w:World) (D:Nat->Prop) (v:Value) (s:σ) (e:Ending) (w':World):Prop:=∃D',e=.returned v/\Hd w' D' s/\aI D w w'/\∀b,D' b->D b\/w.heap.size<=b
structure jc {σ:Type} (lo mb:Nat) (Hd:World->(Nat->Prop)->σ->Prop) (Ok:σ->List Bool->Prop) (o:iZ σ):Prop where
 kp:∀(w w':World) (D E:Nat->Prop) (s:σ),Hd w D s->aI E w w'->(∀b,D b->¬E b)->Hd w' D s
 dom:∀(w:World) (D:Nat->Prop) (s:σ),Hd w D s->∀b,D b->lo<=b/\b<w.heap.size
 ok:uK o Ok
 load:∀(w:World) D s fl (k:Nat) (a n way:Int),Hd w D s->Ok s fl->fl.getD k false=true->cR a->1<=n->n<=8->(way=0\/way=2)->Calls prog 254 #[.pointer (some (Ad mb 0)),I (k:Int),I a,I n,I way] w (qA Hd w D (.tuple #[.string (o.load s k a n way).1.1,.agg (il (o.load s k a n way).1.2)]) (o.load s k a n way).2)
 store:∀(w:World) D s fl (k:Nat) (a:Int) (d:ByteArray),Hd w D s->Ok s fl->fl.getD k false=true->cR a->1<=d.size->d.size<=8->Calls prog 257 #[.pointer (some (Ad mb 0)),I (k:Int),I a,.string d] w (qA Hd w D (.agg (il (o.store s k a d).1)) (o.store s k a d).2)
 map:∀(w:World) D s fl (k:Nat) (p n q:Int),Hd w D s->Ok s fl->fl.getD k false=true->cR p->cR n->Calls prog 255 #[.pointer (some (Ad mb 0)),I (k:Int),I p,I n,I q] w (qA Hd w D (I (o.map s k p n q).1) (o.map s k p n q).2)
 ry:∀(w:World) D s fl (k:Nat) (p n:Int),Hd w D s->Ok s fl->fl.getD k false=true->cR p->cR n->Calls prog 258 #[.pointer (some (Ad mb 0)),I (k:Int),I p,I n] w (qA Hd w D (I (o.ry s k p n).1) (o.ry s k p n).2)
 kL:∀(w:World) D s fl (k:Nat) (p n q:Int),Hd w D s->Ok s fl->fl.getD k false=true->cR p->cR n->Calls prog 256 #[.pointer (some (Ad mb 0)),I (k:Int),I p,I n,I q] w (qA Hd w D (I (o.kL s k p n q).1) (o.kL s k p n q).2)
 fork:∀(w:World) D s fl (k:Nat),Hd w D s->Ok s fl->fl.getD k false=true->Calls prog 253 #[.pointer (some (Ad mb 0)),I (k:Int)] w (qA Hd w D (I (o.fork s k).1) (o.fork s k).2)
 drop:∀(w:World) D s fl (k:Nat),Hd w D s->Ok s fl->fl.getD k false=true->Calls prog 252 #[.pointer (some (Ad mb 0)),I (k:Int)] w (qA Hd w D (.tuple #[]) (o.drop s k))
def bV (p:bQ):List Value:=[I (p.r 0),I (p.r 1),I (p.r 2),I (p.r 3),I (p.r 4),I (p.r 5),I (p.r 6),I (p.r 7),I p.pc,I p.st,I p.cd,I p.fk,I p.fa]
def jP (x:ra):List Value:=[I x.proc,I x.value]
theorem sL (p:bQ):(bV p).length=13:=rfl
theorem yD (p:ra):(jP p).length=2:=rfl
structure gD {σ:Type} (Hd:World->(Nat->Prop)->σ->Prop) (lo mb gb:Nat) (w:World) (D:Nat->Prop) (vr vo:Value) (st:dC σ):Prop where
 head:w.heap[gb]?=some (.cells #[.iface 183 (.pointer (some (Ad mb 0))),vr,vo] 191 (0,0))
 mem:Hd w D st.mem
 procs:w.ownsRow lo 77 13 vr st.ps.length (st.ps.flatMap bV)
 outs:w.ownsRow lo 91 2 vo st.out.length (st.out.flatMap jP)
 base:lo<=gb
 n1:¬D gb
 n2:¬qz vr gb
 n3:¬qz vo gb
 n4:∀b,qz vr b->¬D b
 n5:∀b,qz vo b->¬D b
 n6:∀b,qz vr b->¬qz vo b
def kV (gb:Nat) (D:Nat->Prop) (vr vo:Value) (b:Nat):Prop:=b=gb\/D b\/qz vr b\/qz vo b
section
variable {σ:Type} {Hd:World->(Nat->Prop)->σ->Prop} {Ok:σ->List Bool->Prop} {o:iZ σ} {lo mb gb:Nat} {w w':World} {D:Nat->Prop} {vr vo:Value} {st:dC σ}
theorem gD.kp (C:jc lo mb Hd Ok o) {E:Nat->Prop} (h:gD Hd lo mb gb w D vr vo st) (hk:aI E w w') (hd:∀b,kV gb D vr vo b->¬E b):gD Hd lo mb gb w' D vr vo st :=
 ⟨hk.keep h.head (hd _ (.inl rfl)),C.kp _ _ _ _ _ h.mem hk (λb hb=>hd b (.inr (.inl hb))),hk.row h.procs (λg hg=>hd g (.inr (.inr (.inl hg)))),hk.row h.outs (λg hg=>hd g (.inr (.inr (.inr hg)))),h.base,h.n1,h.n2,h.n3,h.n4,h.n5,h.n6⟩
theorem gD.below (C:jc lo mb Hd Ok o) (h:gD Hd lo mb gb w D vr vo st) (hb:Below w.heap.size w w'):gD Hd lo mb gb w' D vr vo st:=h.kp C (aI.cA (D:=λ_=>False) hb) (λ_ _ g=>g)
theorem gD.lt (C:jc lo mb Hd Ok o) (h:gD Hd lo mb gb w D vr vo st) (b:Nat) (hb:kV gb D vr vo b):lo<=b/\b<w.heap.size:=by
 rcases hb with g | g | g | g
 . rw[g];exact⟨h.base,aM h.head⟩
 . exact C.dom _ _ _ h.mem b g
 . exact h.procs.lt b g
 exact h.outs.lt b g
theorem gD.turn (C:jc lo mb Hd Ok o) {D':Nat->Prop} {m:σ} (h:gD Hd lo mb gb w D vr vo st) (hm:Hd w' D' m) (hk:aI D w w') (hd:∀b,D' b->D b\/w.heap.size<=b):gD Hd lo mb gb w' D' vr vo { st with mem:=m }:=by
 have h1:∀b,b<w.heap.size->¬D b->¬D' b:=λb hb hn g=>by
  rcases hd b g with x | x
  . exact hn x
  omega
 exact⟨hk.keep h.head h.n1,hm,hk.row h.procs h.n4,hk.row h.outs h.n5,h.base,h1 _ (aM h.head) h.n1,h.n2,h.n3,λb hb=>h1 b (h.procs.lt b hb).2 (h.n4 b hb),λb hb=>h1 b (h.outs.lt b hb).2 (h.n5 b hb),h.n6⟩
def cY (Hd:World->(Nat->Prop)->σ->Prop) (lo mb gb:Nat) (w:World) (D:Nat->Prop) (vr vo:Value) (st':dC σ) (w':World):Prop:=∃D' O5 O6,gD Hd lo mb gb w' D' O5 O6 st'/\aI (kV gb D vr vo) w w'/\∀b,kV gb D' O5 O6 b->kV gb D vr vo b\/w.heap.size<=b
theorem cY.refl (h:gD Hd lo mb gb w D vr vo st):cY Hd lo mb gb w D vr vo st w:=⟨D,vr,vo,h,aI.refl _ _,λb hb=>.inl hb⟩
theorem cY.ML (C:jc lo mb Hd Ok o) {D':Nat->Prop} {m:σ} (h:gD Hd lo mb gb w D vr vo st) (hm:Hd w' D' m) (hk:aI D w w') (hd:∀b,D' b->D b\/w.heap.size<=b):cY Hd lo mb gb w D vr vo { st with mem:=m } w' :=
 ⟨D',vr,vo,h.turn C hm hk hd,hk.mono (λb _ g=>.inr (.inl g)),λb hb=>by
  rcases hb with g | g | g | g
  . exact .inl (.inl g)
  . rcases hd b g with x | x
    . exact .inl (.inr (.inl x))
    exact .inr x
  . exact .inl (.inr (.inr (.inl g)))
  exact .inl (.inr (.inr (.inr g)))⟩
theorem cY.trans {w2:World} {D1:Nat->Prop} {r1 o1:Value} {st2:dC σ} (hk:aI (kV gb D vr vo) w w') (hd:∀b,kV gb D1 r1 o1 b->kV gb D vr vo b\/w.heap.size<=b) (h2:cY Hd lo mb gb w' D1 r1 o1 st2 w2):cY Hd lo mb gb w D vr vo st2 w2:=by
 obtain⟨D',O5,O6,hg,h,q⟩:=h2;have hs:=hk.size;refine⟨D',O5,O6,hg,hk.trans h (λb hb g=>?_),λb hb=>?_⟩
 . rcases hd b g with x | x
   . exact x
   omega
 rcases q b hb with x | x
 . exact hd b x
 exact .inr ω
theorem cY.after {w2:World} {st2:dC σ} (hb:Below w.heap.size w w') (h2:cY Hd lo mb gb w' D vr vo st2 w2):cY Hd lo mb gb w D vr vo st2 w2:=cY.trans (aI.cA hb) (λb hb=>.inl hb) h2
theorem cY.more (C:jc lo mb Hd Ok o) {w2:World} {st2:dC σ} (h:cY Hd lo mb gb w D vr vo st2 w') (hb:Below w'.heap.size w' w2):cY Hd lo mb gb w D vr vo st2 w2:=by
 obtain⟨D',O5,O6,hg,b,q⟩:=h;exact⟨D',O5,O6,hg.below C hb,b.trans (aI.cA hb) (λ_ _ g=>g),q⟩
theorem Ma {v v':Value} {O:Obj} (hat:v'.ownBlock=v.ownBlock\/v'.ownBlock=some (w.alloc O).heap.size) (b:Nat) (hb:qz v' b):qz v b\/b=w.heap.size+1:=by
 unfold qz at hb ⊢;rcases hat with e | e
 . exact .inl (by rw[<- e];exact hb)
 right;rw[e,fp] at hb;injection hb with hb;exact hb.symm
theorem gD.apr (C:jc lo mb Hd Ok o) {w4:World} {O:Obj} {O5:Value} {p:bQ} (h:gD Hd lo mb gb w D vr vo st) (hgr:(w.alloc O).grownBy w4 vr.ownBlock) (hown:w4.ownsRow lo 77 13 O5 (st.ps.length+1) (st.ps.flatMap bV++bV p)) (hat:O5.ownBlock=vr.ownBlock\/O5.ownBlock=some (w.alloc O).heap.size) :
  cY Hd lo mb gb w D vr vo { st with ps:=st.ps++[p] } (w4.setCell (Ad gb 1) O5):=by
 have s2:=hgr.size;rw[fp] at s2;have q:=Ma hat
 have kA:aI (qz vr) w w4:=(aI.alloc (qz vr) w O).trans (aI.grown hgr (λ_ e=>e)) (λ_ _ g=>g);have kS:aI (λb=>b=gb) w4 (w4.setCell (Ad gb 1) O5):=aI.set _ _ _ _ rfl;have y:=aM h.head;have r:=h.lt C;have e1:¬qz O5 gb:=λg=>by
  rcases q _ g with x | x
  . exact h.n2 x
  omega
 refine⟨D,O5,vo,⟨dm (kA.keep h.head h.n2) 1 O5,?_,?_,?_,h.base,h.n1,e1,h.n3,?_,h.n5,?_⟩,?_,?_⟩
 . exact C.kp _ _ _ _ _ (C.kp _ _ _ _ _ h.mem kA (λb hb g=>h.n4 b g hb)) kS (λb hb g=>h.n1 (g ▸ hb))
 . show(w4.setCell _ _).ownsRow lo _ 13 O5 (st.ps++[p]).length ((st.ps++[p]).flatMap bV);rw[gM,wk];exact kS.row (by simpa using hown) (λg hg e=>e1 (e ▸ hg))
 . exact kS.row (kA.row h.outs (λg hg e=>h.n6 g e hg)) (λg hg e=>h.n3 (e ▸ hg))
 . intro b hb g;rcases q _ hb with x | x
   . exact h.n4 b x g
   have:=r b (.inr (.inl g));omega
 . intro b hb g;rcases q _ hb with x | x
   . exact h.n6 b x g
   have:=r b (.inr (.inr (.inr g)));omega
 . exact(kA.mono (λb _ g=>.inr (.inr (.inl g)))).trans (kS.mono (λb _ g=>.inl g)) (λ_ _ g=>g)
 intro b hb;rcases hb with g | g | g | g
 . exact .inl (.inl g)
 . exact .inl (.inr (.inl g))
 . rcases q _ g with x | x
   . exact .inl (.inr (.inr (.inl x)))
   exact .inr ω
 exact .inl (.inr (.inr (.inr g)))
theorem gD.apo (C:jc lo mb Hd Ok o) {w4:World} {O:Obj} {O6:Value} {x:ra} (h:gD Hd lo mb gb w D vr vo st) (hgr:(w.alloc O).grownBy w4 vo.ownBlock) (hown:w4.ownsRow lo 91 2 O6 (st.out.length+1) (st.out.flatMap jP++jP x)) (hat:O6.ownBlock=vo.ownBlock\/O6.ownBlock=some (w.alloc O).heap.size) :
  cY Hd lo mb gb w D vr vo { st with out:=st.out++[x] } (w4.setCell (Ad gb 2) O6):=by
 have s2:=hgr.size;rw[fp] at s2;have q:=Ma hat
 have kA:aI (qz vo) w w4:=(aI.alloc (qz vo) w O).trans (aI.grown hgr (λ_ e=>e)) (λ_ _ g=>g);have kS:aI (λb=>b=gb) w4 (w4.setCell (Ad gb 2) O6):=aI.set _ _ _ _ rfl;have y:=aM h.head;have r:=h.lt C;have e1:¬qz O6 gb:=λg=>by
  rcases q _ g with x | x
  . exact h.n3 x
  omega
 refine⟨D,vr,O6,⟨dm (kA.keep h.head h.n3) 2 O6,?_,?_,?_,h.base,h.n1,h.n2,e1,h.n4,?_,?_⟩,?_,?_⟩
 . exact C.kp _ _ _ _ _ (C.kp _ _ _ _ _ h.mem kA (λb hb g=>h.n5 b g hb)) kS (λb hb g=>h.n1 (g ▸ hb))
 . exact kS.row (kA.row h.procs (λg hg e=>h.n6 g hg e)) (λg hg e=>h.n2 (e ▸ hg))
 . show(w4.setCell _ _).ownsRow lo _ 2 O6 (st.out++[x]).length ((st.out++[x]).flatMap jP);rw[gM,wk];exact kS.row (by simpa using hown) (λg hg e=>e1 (e ▸ hg))
 . intro b hb g;rcases q _ hb with x | x
   . exact h.n5 b x g
   have:=r b (.inr (.inl g));omega
 . intro b hb g;rcases q _ g with x | x
   . exact h.n6 b hb x
   have:=r b (.inr (.inr (.inl hb)));omega
 . exact(kA.mono (λb _ g=>.inr (.inr (.inr g)))).trans (kS.mono (λb _ g=>.inl g)) (λ_ _ g=>g)
 intro b hb;rcases hb with g | g | g | g
 . exact .inl (.inl g)
 . exact .inl (.inr (.inl g))
 . exact .inl (.inr (.inr (.inl g)))
 rcases q _ g with x | x
 . exact .inl (.inr (.inr (.inr x)))
 exact .inr ω
def ia (ys:Nat->Prop) (Hd:World->(Nat->Prop)->σ->Prop) (lo mb gb:Nat) (w:World) (D:Nat->Prop) (vr vo:Value) (st':dC σ) (w':World):Prop:=∃D' O5 O6,gD Hd lo mb gb w' D' O5 O6 st'/\aI (kV gb D vr vo) w w'/\(∀b,kV gb D' O5 O6 b->kV gb D vr vo b\/w.heap.size<=b)/\∀b,ys b->¬kV gb D' O5 O6 b
theorem ia.left {ys:Nat->Prop} {st':dC σ} (h:ia ys Hd lo mb gb w D vr vo st' w'):cY Hd lo mb gb w D vr vo st' w':=by
 obtain⟨D',r,v,h1,h2,h3,_⟩:=h;exact⟨D',r,v,h1,h2,h3⟩
theorem ia.set (C:jc lo mb Hd Ok o) {ys:Nat->Prop} {st':dC σ} (h:ia ys Hd lo mb gb w D vr vo st' w') (a:Addr) (x:Value) (hy:ys a.block) (hw:w.heap.size<=a.block):ia ys Hd lo mb gb w D vr vo st' (w'.setCell a x):=by
 obtain⟨D',r,v,h1,h2,h3,h4⟩:=h;have kS:aI (λb=>b=a.block) w' (w'.setCell a x):=aI.set _ _ _ _ rfl;exact⟨D',r,v,h1.kp C kS (λb hb e=>h4 _ hy (e ▸ hb)),h2.trans kS (λb hb e=>ω),h3,h4⟩
theorem ia.more (C:jc lo mb Hd Ok o) {ys:Nat->Prop} {w2:World} {st':dC σ} (h:ia ys Hd lo mb gb w D vr vo st' w') (hb:Below w'.heap.size w' w2):ia ys Hd lo mb gb w D vr vo st' w2:=by
 obtain⟨D',r,v,h1,h2,h3,h4⟩:=h;exact⟨D',r,v,h1.below C hb,h2.trans (aI.cA hb) (λ_ _ g=>g),h3,h4⟩
theorem ia.alloc (C:jc lo mb Hd Ok o) {ys:Nat->Prop} {st':dC σ} (h:ia ys Hd lo mb gb w D vr vo st' w') (ob:Obj):ia (λb=>ys b\/b=w'.heap.size) Hd lo mb gb w D vr vo st' (w'.alloc ob):=by
 obtain⟨D',r,v,h1,h2,h3,h4⟩:=h;have hb:Below w'.heap.size w' (w'.alloc ob):=(aN _ _).alloc (aJ _) ob;exact⟨D',r,v,h1.below C hb,h2.trans (aI.cA hb) (λ_ _ g=>g),h3,λb hy g=>by
  rcases hy with e | e
  . exact h4 b e g
  have:=h1.lt C b g;omega⟩
theorem ia.sub {ys zs:Nat->Prop} {st':dC σ} (h:ia ys Hd lo mb gb w D vr vo st' w') (hs:∀b,zs b->ys b):ia zs Hd lo mb gb w D vr vo st' w':=by
 obtain⟨D',r,v,h1,h2,h3,h4⟩:=h;exact⟨D',r,v,h1,h2,h3,λb hb=>h4 b (hs b hb)⟩
theorem ia.behind (C:jc lo mb Hd Ok o) {w2:World} {st':dC σ} (h:gD Hd lo mb gb w D vr vo st) (hb:Below w.heap.size w w') (h2:cY Hd lo mb gb w' D vr vo st' w2):ia (λb=>w.heap.size<=b/\b<w'.heap.size) Hd lo mb gb w D vr vo st' w2:=by
 obtain⟨D',r,v,g1,g2,g3⟩:=h2;have hs:=hb.size;refine⟨D',r,v,g1,(aI.cA hb).trans g2 (λ_ _ g=>g),λb hb'=>?_,λb hy g=>?_⟩
 . rcases g3 b hb' with x | x
   . exact .inl x
   exact .inr ω
 rcases g3 b g with x | x
 . have:=h.lt C b x;omega
 omega
theorem gD.aside (C:jc lo mb Hd Ok o) {w2:World} {b:Nat} {ob:Obj} (h:gD Hd lo mb gb w D vr vo st) (hk:aI (kV gb D vr vo) w' w2) (hw:w.heap.size<=b) (hb:w'.heap[b]?=some ob):w2.heap[b]?=some ob :=
 hk.keep hb (λg=>by have:=h.lt C b g;omega)
theorem ia.step {ys:Nat->Prop} {w2:World} {D1:Nat->Prop} {r1 o1:Value} {st2:dC σ} (hys:∀b,ys b->b<w'.heap.size) (hk:aI (kV gb D vr vo) w w') (hd:∀b,kV gb D1 r1 o1 b->kV gb D vr vo b\/w.heap.size<=b) (hn:∀b,ys b->¬kV gb D1 r1 o1 b) (h2:cY Hd lo mb gb w' D1 r1 o1 st2 w2):ia ys Hd lo mb gb w D vr vo st2 w2:=by
 obtain⟨D',O5,O6,hg,q,h⟩:=h2;have hs:=hk.size;refine⟨D',O5,O6,hg,hk.trans q (λb hb g=>?_),λb hb=>?_,λb hy g=>?_⟩
 . rcases hd b g with x | x
   . exact x
   omega
 . rcases h b hb with x | x
   . exact hd b x
   exact .inr ω
 rcases h b g with x | x
 . exact hn b hy x
 have:=hys b hy;omega
theorem cY.keep {w2:World} {st2:dC σ} {b:Nat} {ob:Obj} (h2:cY Hd lo mb gb w D vr vo st2 w2) (hb:w.heap[b]?=some ob) (hn:¬kV gb D vr vo b):w2.heap[b]?=some ob:=by
 obtain⟨_,_,_,_,h,_⟩:=h2;exact h.keep hb hn
theorem gD.proc (h:gD Hd lo mb gb w D vr vo st) (k:Nat) (hk:k<st.ps.length):∃pb cap,vr=.slice (some (Ad pb 0)) st.ps.length cap/\pb<w.heap.size/\(∀j,j<13->w.cell? (Ad pb (k*13+j))=(bV (aR st.ps k))[j]?)/\∀j,w.frozen? (Ad pb j)=false:=by
 obtain⟨ao,cap,e,_,hg⟩:=bh h.procs;obtain⟨pb,rfl,_,b⟩:=hg ω;have hr:=h.procs;rw[e] at hr;exact⟨pb,cap,e,b,λj hj=>kF bV sL C5 hr k j hk hj,λj=>iN hr j⟩
end
open Go.RowKit Tryz
structure iC (lo mb:Nat) (w:World) (D:Nat->Prop) (k:aT):Prop where
 has:∃hs a n sz,cD k.aD hs/\w.heap[mb]?=some (.cells (bj a (aV k hs)) 185 (0,0))/\(∀U,aI (λb=>¬(n<=b/\b<sz)) w U->iB U a (aV k hs))/\lo<=n/\sz<=w.heap.size/\¬(n<=mb/\mb<sz)/\∀b,D b↔(b=mb\/(n<=b/\b<sz))
 base:lo<=mb
variable {lo mb:Nat} {w w':World} {D:Nat->Prop} {k:aT}
theorem iC.kp {E:Nat->Prop} (h:iC lo mb w D k) (hk:aI E w w') (hd:∀b,D b->¬E b):iC lo mb w' D k:=by
 obtain⟨⟨hs,a,n,sz,h1,h2,h3,h4,h5,h6,h7⟩,hb⟩:=h;refine⟨⟨hs,a,n,sz,h1,hk.keep h2 (hd mb ((h7 mb).2 (.inl rfl))),λU hU=>h3 U ?_,h4,gj h5 hk.size,h6,h7⟩,hb⟩;exact(hk.mono (λb _ g x=>hd b ((h7 b).2 (.inr x)) g)).trans hU (λ_ _ g=>g)
theorem iC.dom (h:iC lo mb w D k) (b:Nat) (hb:D b):lo<=b/\b<w.heap.size:=by
 obtain⟨⟨hs,a,n,sz,h1,h2,h3,h4,h5,h6,h7⟩,hm⟩:=h;have:=aM h2;rcases(h7 b).1 hb with e | e
 . subst e;exact⟨hm,this⟩
 omega
theorem iC.same (h:iC lo mb w D k) (hk:aI (λb=>b=mb) w w') (he:w'.heap[mb]?=w.heap[mb]?):iC lo mb w' D k:=by
 obtain⟨⟨hs,a,n,sz,h1,h2,h3,h4,h5,h6,h7⟩,hb⟩:=h;refine⟨⟨hs,a,n,sz,h1,he.trans h2,λU hU=>h3 U ?_,h4,gj h5 hk.size,h6,h7⟩,hb⟩;exact(hk.mono (λb _ g x=>h6 (g ▸ x))).trans hU (λ_ _ g=>g)
def tM (lo mb:Nat) (w:World) (D:Nat->Prop) (k':aT) (w2:World):Prop:=∃D',iC lo mb w2 D' k'/\aI D w w2/\∀b,D' b->D b\/w.heap.size<=b
theorem iC.inD (h:iC lo mb w D k):D mb:=by
 obtain⟨⟨hs,a,n,sz,h1,h2,h3,h4,h5,h6,h7⟩,hb⟩:=h;exact(h7 mb).2 (.inl rfl)
theorem iC.turn {w1 w2:World} {k':aT} {hs':List bD} {a':gN} (h:iC lo mb w D k) (s:cD k'.aD hs') (hK:∀U,aI (λb=>b<w.heap.size) w1 U->iB U a' (aV k' hs')) (b1:Below w.heap.size w w1) (hk:aI (λb=>b=mb) w1 w2) (hc:w2.heap[mb]?=some (.cells (bj a' (aV k' hs')) 185 (0,0))):tM lo mb w D k' w2:=by
 have hd:=h.dom mb h.inD;have hz:=hk.size;have q:=b1.size;refine⟨λb=>b=mb\/(w.heap.size<=b/\b<w1.heap.size),⟨⟨hs',a',w.heap.size,w1.heap.size,s,hc,λU hU=>hK U ?_,ω,hz,ω,λb=>Iff.rfl⟩,h.base⟩,?_,λb hb=>?_⟩
 . exact(hk.mono (λb _ g=>ω)).trans hU (λb hb g=>ω)
 . exact(aI.cA b1).trans (hk.mono (λb _ g=>g ▸ h.inD)) (λ_ _ g=>g)
 rcases hb with e | e
 . exact .inl (e ▸ h.inD)
 exact .inr e.1
theorem GM {K k':aT} {hs:List bD} {ok:Prop} [Decidable ok] {old:Array Value} (h:iC lo mb w D k) (hc:w.heap[mb]?=some (.cells old 185 (0,0))) (s:cD k.aD hs) (ha:Np k K k' hs ok) {vs:List Value} {e:Ending} {w1:World} (ho:dY w K vs e w1) :
  ∃s0 n0 q0 s1 n1 q1 s2 n2 q2 s3 n3 q3 hd,e=.returned (.tuple (Value.agg #[.slice s0 n0 q0,.slice s1 n1 q1,.slice s2 n2 q2,.slice s3 n3 q3,I hd]::vs).toArray)/\Below w.heap.size w w1/\∀w2,aI (λb=>b=mb) w1 w2->w2.heap[mb]?=some (.cells (if ok then #[.slice s0 n0 q0,.slice s1 n1 q1,.slice s2 n2 q2,.slice s3 n3 q3,I hd] else old) 185 (0,0))->tM lo mb w D k' w2:=by
 obtain⟨q,a1,s1,he,hU,hb⟩:=aaV ho;refine⟨a1.aS,_,a1.cS,a1.aF,_,a1.cF,a1.aL,_,a1.cL,a1.aP,_,a1.cP,_,he,hb,λw2 hk hm=>?_⟩;by_cases c:ok
 . rw[aQ c] at hm;obtain⟨e1,e2⟩:=ha.1 c;subst e1;exact h.turn (a':=a1) (hs':=q) (k':=k') (by unfold cD at *;rw[e2];exact s1.trans s) hU hb hk hm
 rw[aH c] at hm;rw[ha.2 c];have h1:iC lo mb w1 D k:=h.kp (aI.cA (D:=λ_=>False) hb) (λ_ _ g=>g);have vW:=aO hc hb (aM hc);exact⟨D,h1.same hk (hm.trans vW.symm),(aI.cA hb).trans (hk.mono (λb _ g=>g ▸ h.inD)) (λ_ _ g=>g),λb hb=>.inl hb⟩
theorem Sl (W:World) (b:Nat) (v0 v1 v2 v3 v4:Value):aI (λx=>x=b) W (((((W.setCell (Ad b 0) v0).setCell (Ad b 1) v1).setCell (Ad b 2) v2).setCell (Ad b 3) v3).setCell (Ad b 4) v4):=by
 have k:∀(A:World) (i:Nat) (v:Value),aI (λx=>x=b) A (A.setCell (Ad b i) v):=λA i v=>aI.set _ A (Ad b i) v rfl
 exact((((k _ _ _).trans (k _ _ _) (λ_ _ g=>g)).trans (k _ _ _) (λ_ _ g=>g)).trans (k _ _ _) (λ_ _ g=>g)).trans (k _ _ _) (λ_ _ g=>g)
theorem yY (mb:Nat) (s0 s1 s2 s3:Option Addr) (n0 q0 n1 q1 n2 q2 n3 q3:Nat) (hd er:Int) (x0 x1 x2 x3 x4:Value) (w:World) (hm:w.heap[mb]?=some (.cells #[x0,x1,x2,x3,x4] 185 (0,0))) :
  Calls prog 259 #[.pointer (some (Ad mb 0)),.agg #[.slice s0 n0 q0,.slice s1 n1 q1,.slice s2 n2 q2,.slice s3 n3 q3,I hd],I er] w λe w'=>e=.returned (I er)/\aI (λb=>b=mb) w w'/\w'.heap[mb]?=some (.cells (if er=0 then #[.slice s0 n0 q0,.slice s1 n1 q1,.slice s2 n2 q2,.slice s3 n3 q3,I hd] else #[x0,x1,x2,x3,x4]) 185 (0,0)):=by
 obtain⟨O,hO⟩:=ex (Obj.cells #[.slice s0 n0 q0,.slice s1 n1 q1,.slice s2 n2 q2,.slice s3 n3 q3,I hd] 30 (0,0));have vW:(w.alloc O).heap[mb]?=some (.cells #[x0,x1,x2,x3,x4] 185 (0,0)):=bB hm O;have q:=aM hm;have r:¬mb=w.heap.size:=by omega
 have f0:=br vW 0;have f1:=br vW 1;have f2:=br vW 2;have f3:=br vW 3;have f4:=br vW 4;obtain⟨c0,c1,c2,c3,c4⟩:=kj vW;rw[hO] at f0 f1 f2 f3 f4 c0 c1 c2 c3 c4;have hM:=ai vW;have HO:=ai hO;have UD:=ai (aI.alloc (λb=>b=mb) w O);clear hm vW hO q;by_cases c:er=0
 . subst c;go_enter func259,ntmps259;go_wp2;go_ret;rw[<- HO.o];exact⟨rfl,UD.o.trans (Sl _ mb _ _ _ _ _) (λ_ _ g=>g),dm (dm (dm (dm (dm hM.o 0 _) 1 _) 2 _) 3 _) 4 _⟩
 have cb:(er==0)=false:=by grind
 rw[aH c];clear c;go_enter func259,ntmps259;go_wp2;go_ret;rw[<- HO.o];exact⟨rfl,UD.o,hM.o⟩
end Go.Proofs.YtlgoihmkgaaemaaGreat
