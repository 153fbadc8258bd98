import Derived.Test.YtlgoihmkgaaemaaGreatGM37
set_option maxHeartbeats 20000000
set_option linter.unusedVariables false
set_option maxRecDepth 100000
set_option linter.unusedSimpArgs false
namespace Go.Proofs.YtlgoihmkgaaemaaGreat
open Go.RowKit
theorem L5 (l:List jZ) (ao:Option Addr) (cap:Nat) (w:World) (h:P9 l ao w) (hl7:l.length<=7) (hpx:∀k,k<l.length->∀V,Below w.heap.size w V->Calls Tryz.prog 112 #[.agg (oP (dJ l k)),.slice ao l.length cap] V (CC (vA l (dJ l k)) V)):Calls Tryz.prog 66 #[.slice ao l.length cap] w (J3 (sA l) w):=by
 have HO:=aA h;have HPX:=aA hpx;clear h hpx;obtain⟨R,hR⟩:=ex (sA l);have HR:Hid (R=ue l l.length):=hR;rw[<- hR];clear hR;obtain⟨i0,hin,hz0,hz1,hz2⟩:=jm TP;go_enter Tryz.func66,Tryz.ntmps66;go_wp2;go_loopw [15,4] (fun i v wr=>∃(a:Nat) (E:List Fb) (hs:List bG),a<=l.length/\i=I a/\ue l a=some E/\hs.map fP=E/\hs.length<=a*1600/\AB w.heap.size wr v hs/\Below w.heap.size w wr) (fun i _ _=>l.length-(intOf i).toNat)
 case atStart=>exact⟨0,[],[],by omega,rfl,rfl,rfl,by simp,AB.nil _ _,aJ _ _⟩
 case round =>
  obtain⟨a,E,hs,hal,rfl,hE,hmE,hlen,hrs,hb⟩:=hrel;have HE:=aA hE;have HME:=aA hmE;have Zf:=aA hrs;have Al:=aA hb;by_cases hlt:a<l.length
  · have HOr:=aA (HO.o.below hb);obtain⟨b,off,hao,hbl,eX⟩:=HOr.o.has (by omega);obtain⟨⟨c0,c1,c2,c3,c4,c5,c6⟩,him⟩:=eX a hlt;have hbs:=HO.o.base a hlt;have Ju:=HO.o.chk a hlt;have HPA:Hid (∀V,Below wr.heap.size wr V->Calls Tryz.prog 112 #[.agg (oP (dJ l a)),.slice ao l.length cap] V (CC (vA l (dJ l a)) V)):=fun V hb=>HPX.o a hlt V (Al.o.trans (hb.mono Al.o.size))
    have oh:Hid (vA l (dJ l a)=none->R=none):=fun g=>by
     rw[HR.o];refine Hq (k:=a+1) ?_ l.length (by omega);simp only[ue,HE.o,g]
    have yr:Hid (∀ps,vA l (dJ l a)=some ps->ue l (a+1)=some (E++xS (dJ l a) ps (dJ l a).i.jD.length)):=fun ps g=>by simp only[ue,HE.o,g]
    have Ha:Hid (∀ps,vA l (dJ l a)=some ps->ps.length<=16/\∀j,j<ps.length->Vi (xz ps j)):=fun ps g=>by
     have h1:=Ke g;have h2:=(vH Ju).2.2.2.2;exact⟨by omega,Qc Ju hbs.1 hbs.2 _ ps (aH _) g⟩
    obtain⟨b2,aiA,aeU,ac8,XF⟩:=HO.o.has (by omega);have aag:=(XF a hlt).2;obtain⟨o,ho⟩:=ex (dJ l a);rw[<- ho] at aag;rw[<- ho] at c0 c1 c2 c3 c4 c5 c6 him hbs Ju HPA oh yr Ha;have hcn:=vH Ju;have HSB:=aA (xy Ju);simp only[oP] at HPA;obtain⟨bs,Xu,hag,ai4,hlg⟩:=aag.jD (by omega);have HLG:=aA hlg;rw[hag] at HPA c2;clear ho eX hb hE hmE hrs him hlg hag aag XF aeU ac8;subst hao;have jQ:=aA (Al.o.alloc Al.o.size (.cells #[.string o.i.name,.slice o.a.an o.i.needs.length o.a.cn,.slice (some (Ad bs Xu)) o.i.jD.length o.a.cg,.slice o.a.ay o.i.syms.length o.a.cy,.slice o.a.ar o.i.pN.length o.a.cr,I o.i.entry,I o.base] 131));have Jg:=aA ((aJ wr.heap.size wr).alloc (aH _) (.cells #[.string o.i.name,.slice o.a.an o.i.needs.length o.a.cn,.slice (some (Ad bs Xu)) o.i.jD.length o.a.cg,.slice o.a.ay o.i.syms.length o.a.cy,.slice o.a.ar o.i.pN.length o.a.cr,I o.i.entry,I o.base] 131));have BO:=aA (bD wr #[.string o.i.name,.slice o.a.an o.i.needs.length o.a.cn,.slice (some (Ad bs Xu)) o.i.jD.length o.a.cg,.slice o.a.ay o.i.syms.length o.a.cy,.slice o.a.ar o.i.pN.length o.a.cr,I o.i.entry,I o.base] 131);have Xo:=aA (HPA.o _ Jg.o);cases e:vA l o with
    | none =>
     have Xn:=aA (oh.o e);rw[e] at Xo;clear e oh yr Ha;go_wp2_with (go_at_call 112;refine Xo.o.mono ?_;rintro e w1 ⟨hb,rfl⟩;have cM:=aA (jQ.o.trans (hb.mono jQ.o.size));clear hb)
     go_ret2
     show J3 R w _ _;rw[Xn.o];exact⟨cM.o,rfl⟩
    | some ps =>
     have apJ:=aA (yr.o ps e);obtain⟨hps,hfp⟩:=Ha.o ps e;have ap0:=aA hfp;rw[e] at Xo;clear e oh yr Ha hfp;have JJ:∀q,u4.ownBlock=some q->q<wr.heap.size:=fun q hq=>(Zf.o.row.lt q hq).2
     have afL:=aA JJ;clear JJ;go_wp2_with (go_at_call 112;refine Xo.o.mono ?_;rintro e w1 ⟨hb,v7,rfl,hpr⟩;have cM:=aA (jQ.o.trans (hb.mono jQ.o.size));have HW1:=aA (Jg.o.trans (hb.mono Jg.o.size));have Po:=aA hpr;have BO1:=aA (aN BO.o hb (aI BO.o));have g2:=aq BO1.o 2 rfl;clear hb hpr)
     obtain⟨ap,cp,hv7,hpn⟩:=aay Po.o u4.ownBlock (fun q hq=>by have:=afL.o q hq;simp;omega);subst hv7;have HPN:=aA hpn;have alT:=aA (Zf.o.below HW1.o);have aof:=Al.o.size;obtain⟨rb,JJ⟩:=ex u4.ownBlock;have Mp:=aA JJ;rw[<- JJ] at HPN afL;clear hpn Po Xo HPA Jg jQ Zf HW1 g2 BO c0 c1 c2 c3 c4 c5 c6 JJ HOr hbl;obtain⟨ob,hob⟩:=ex wr.heap.size;rw[<- hob] at BO1 afL aof;rw[<- hob];have HNE:Hid (some ob≠rb):=fun e=>by have:=afL.o ob e.symm;omega
     clear hob Al afL;go_loopw [31,4] (fun i v wm=>∃(k:Nat) (hs':List bG),k<=o.i.jD.length/\i=I k/\hs'.map fP=E++xS o ps k/\hs'.length<=a*1600+k*255/\AB w.heap.size wm v hs'/\Below w.heap.size w wm/\tY w1 rb wm v.ownBlock) (fun i _ _=>o.i.jD.length-(intOf i).toNat)
     case atStart=>exact⟨0,hs,by omega,rfl,by rw[HME.o];simp[xS],by omega,alT.o,cM.o,by rw[Mp.o];exact tY.refl _ _⟩
     case round =>
      obtain⟨k,hs',hk,rfl,hmE,hlen',hrs,hb,LN⟩:=hrel;have Jk:=aA hmE;have CK:=aA hrs;have HBm:=aA hb;have HFm:=aA LN;clear alT Mp hlen HME;by_cases hlk:k<o.i.jD.length
      · obtain⟨c0,c1,c2,c3,c4⟩:=zB hb ai4 HLG.o k hlk;have IU:=HSB.o k hlk;have wE:Hid (xS o ps (k+1)=xS o ps k++zE o ps (eD o.i.jD k) (eD o.i.jD k).aO.toNat):=rfl;obtain⟨s,hse⟩:=ex (eD o.i.jD k);rw[<- hse] at c0 c1 c2 c3 c4 IU wE;clear hse;obtain⟨P,hP⟩:∃P:Nat,s.aO=(P:Int):=⟨s.aO.toNat,by omega⟩;obtain⟨pg,pn,dt,wb,qZ0⟩:=s;simp only at c0 c1 c2 c3 c4 IU wE hP;subst hP;rw[lD] at wE;have hvb:∀q,u4.ownBlock=some q->q<wr.heap.size:=fun q hq=>(CK.o.row.lt q hq).2
        have HVB:=aA hvb;have jQ:=aA (HBm.o.alloc HBm.o.size (.cells #[I pg,I P,.string dt,.bool wb,.bool qZ0] 166));have Jg:=aA ((aJ wr.heap.size wr).alloc (aH _) (.cells #[I pg,I P,.string dt,.bool wb,.bool qZ0] 166));have BS:=aA (bD wr #[I pg,I P,.string dt,.bool wb,.bool qZ0] 166);have ES:=aA (HFm.o.trans (tY.bY Jg.o u4.ownBlock));have ajD:=aA (CK.o.below Jg.o);clear hvb hmE hrs hb LN;go_wp2;obtain⟨vb,hvb⟩:=ex u4.ownBlock;have HVE:=aA hvb;rw[<- hvb] at HVB;obtain⟨WA,mj⟩:=ex (wr.alloc (.cells #[I pg,I P,.string dt,.bool wb,.bool qZ0] 166));rw[<- mj] at jQ Jg BS ES ajD;rw[<- mj];obtain⟨sb,aad⟩:=ex wr.heap.size;rw[<- aad] at BS HVB;rw[<- aad];have HNS:Hid (some sb≠vb):=fun e=>by have:=HVB.o sb e.symm;omega
        clear hvb mj aad Jg HVB CK HBm HFm c0 c1 c2 c3 c4;have hpb:∀n:Nat,n<P->0<=o.base+pg+(n:Int)/\o.base+pg+(n:Int)<=3000:=fun n hn=>by omega
        have HPB:=aA hpb;have Nv:Hid (∀n:Nat,n<P->∀V,Calls Tryz.prog 113 #[.agg #[I pg,I (P:Int),.string dt,.bool wb,.bool qZ0],I n] V fun e w'=>e=.returned (.string (vE ⟨pg,P,dt,wb,qZ0⟩ n))/\Below V.heap.size V w'):=fun n hn V=>R9 ⟨pg,P,dt,wb,qZ0⟩ n V (by omega) (by show dt.size<=100000;omega)
        clear hpb;go_loopw [37,4] (fun i v wi=>∃(n:Nat) (hs2:List bG),n<=P/\i=I n/\hs2.map fP=(E++xS o ps k)++zE o ps ⟨pg,P,dt,wb,qZ0⟩ n/\hs2.length<=a*1600+k*255+n/\AB w.heap.size wi v hs2/\Below w.heap.size w wi/\tY w1 rb wi v.ownBlock/\tY WA vb wi v.ownBlock) (fun i _ _=>P-(intOf i).toNat)
        case atStart=>exact⟨0,hs',by omega,rfl,by rw[Jk.o];simp[zE],by omega,ajD.o,jQ.o,ES.o,by rw[HVE.o];exact tY.refl _ _⟩
        case round =>
         obtain⟨n,hs2,hn,rfl,PA,PB,hrs,hb,LN,Pf⟩:=hrel;have HM3:=aA PA;have Z8:=aA hrs;have HBi:=aA hb;have HFi:=aA LN;have HFs:=aA Pf;have agV:=hb.size;clear ajD jQ ES HVE Jk hlen' PA hrs hb;by_cases hnP:n<P
         · have BOi:=aA (LN.keep BO1.o HNE.o);have BSi:=aA (Pf.keep BS.o HNS.o);have y6:=aq BOi.o 6 rfl;have z0:=aq BSi.o 0 rfl;have z1:=aq BSi.o 1 rfl;have z2:=aq BSi.o 2 rfl;have z3:=aq BSi.o 3 rfl;have z4:=aq BSi.o 4 rfl;have HPi:=aA (HPN.o.fr LN);have hpb:=HPB.o n hnP;have HNP:=aA (Sd o ps ⟨pg,P,dt,wb,qZ0⟩ n);have HG2:=aA (Nv.o n hnP);have HFX:Hid (∀V,Below wr.heap.size wr V->Calls Tryz.prog 114 #[I (o.base+pg+(n:Int)),.slice ap ps.length cp] V fun e w'=>(∃v,e=.returned v/\w'.ownsRow V.heap.size 226 2 v (kH (o.base+pg+(n:Int)) ps).length ((kH (o.base+pg+(n:Int)) ps).flatMap CG))/\Below V.heap.size V w'):=fun V hb=>PZ _ ps ap cp V hpb.1 hpb.2 (HPi.o.below hb) (by omega) ap0.o
           have HSP:Hid (aaK o ps ⟨pg,P,dt,wb,qZ0⟩ n=⟨o.base+pg+(n:Int),vE ⟨pg,P,dt,wb,qZ0⟩ n,kH (o.base+pg+(n:Int)) ps⟩):=rfl;obtain⟨F,hF⟩:=ex (kH (o.base+pg+(n:Int)) ps);obtain⟨D,hD⟩:=ex (vE ⟨pg,P,dt,wb,qZ0⟩ n);rw[<- hF] at HFX HSP;rw[<- hD] at HG2 HSP;have hl3:hs2.length<=100000:=by omega
           have hrow:=Z8.o.row.lt;have We:=aA hrow;clear hF hD LN Pf hrow;obtain⟨i0,hin,hz0,hz1,hz2⟩:=jm TP;go_wp2_with (first
            | (go_at_call 113;refine(HG2.o _).mono ?_;rintro e w2 ⟨rfl,hb⟩;have HW2:=aA hb;clear hb)
            | (go_at_call 114;refine(HFX.o _ HW2.o).mono ?_;rintro e w3 ⟨⟨v8,rfl,hrw⟩,hb⟩;obtain⟨af,cf,hvf,hfn⟩:=adj hrw u4.ownBlock (fun q hq=>by have:=(We.o q hq).2;have:=HW2.o.size;omega);subst hvf;have Q4:=aA hfn;have HW3:=aA (HW2.o.trans (hb.mono HW2.o.size));have Ce:=aA (HW3.o.alloc HW3.o.size (.cells #[I (o.base+pg+(n:Int)),.string D,.slice af F.length cf] 145));have HR4:=aA (Z8.o.below Ce.o);have ap2:=aA (Q4.o.below ((aJ w3.heap.size w3).alloc (aH _) (.cells #[I (o.base+pg+(n:Int)),.string D,.slice af F.length cf] 145)));have HN3:=aA (bD w3 #[I (o.base+pg+(n:Int)),.string D,.slice af F.length cf] 145);have aiF:w.heap.size<=w3.heap.size:=gT agV HW3.o.size;clear hb hrw hfn)
            | (at_builtin;refine OU _ rfl _ _ 23 rfl w.heap.size 145 i0 (.agg #[I 0,.string ⟨#[]⟩,Nl]) 3 48 Tryz.underlying23 hin hz0 hz1 hz2 rfl (by decide) _ _ _ rfl HR4.o.row (Ad w3.heap.size 0) 1 1 [I (o.base+pg+(n:Int)),.string D,.slice af F.length cf] rfl rfl (Gv HN3.o) (by intro u hu;simp at hu;rcases hu with rfl | rfl | rfl <;> rfl) (by decide) (by unfold maxLen;omega) (by omega) (by simp;omega) (w3.heap.size+1) (by simp) ?_;intro gg alH w4 ah4 hgrow agY auz;have afN:=aA ah4;have Mt:=aA hgrow;have HAT:=aA agY;clear ah4 hgrow agY))
           have aln:u4.ownBlock=some gg∨gg=(w3.alloc (.cells #[I (o.base+pg+(n:Int)),.string D,.slice af F.length cf] 145)).heap.size:=by rw[fM];exact HAT.o
           have HF4:=aA ((tY.bY Ce.o u4.ownBlock).trans (tY.agG Mt.o Mt.o.size aln));go_roundw
           case rel=>exact⟨n+1,hs2++[⟨o.base+pg+(n:Int),D,F,af,cf⟩],by omega,by go_num,by rw[HNP.o,HSP.o,Ao,HM3.o,vk];rfl,by rw[fD];simp;omega,(AB.more (x:=⟨o.base+pg+(n:Int),D,F,af,cf⟩) HR4.o.fix ap2.o afN.o Mt.o Mt.o.size aln),((HBi.o.trans (Ce.o.mono HBi.o.size)).grown Mt.o (by simp;omega) (fun q hq=>by have:=(We.o q hq).1;omega)),HFi.o.trans HF4.o,HFs.o.trans HF4.o⟩
           case measure=>simp[intOf];omega
         · obtain rfl:n=P:=by omega
           clear LN Pf;go_wp2;go_roundw
           case rel=>exact⟨k+1,hs2,by omega,by go_num,by rw[wE.o,HM3.o,vk],by omega,Z8.o,HBi.o,HFi.o⟩
           case measure=>simp[intOf];omega
      · obtain rfl:k=o.i.jD.length:=by omega
        clear hmE hrs hb LN;go_wp2;go_roundw
        case rel=>exact⟨a+1,_,hs',by omega,by go_num,apJ.o,Jk.o,by omega,CK.o,HBm.o⟩
        case measure=>simp[intOf];omega
  · obtain rfl:a=l.length:=by omega
    have HX:Hid (R=some E):=by rw[HR.o];omega
    obtain⟨ah,ch,hv,hh,hc⟩:=Zf.o.has;subst hv;have HHH:=aA hh;clear hE hmE hrs hb hh;go_wp2
    go_ret2
    show J3 R w _ _;rw[HX.o];exact⟨Al.o,hs,ah,ch,HME.o,rfl,HHH.o,hc⟩
open Go.RowKit Go.WideMaps Go.Maps
theorem UZ (p:iL) (libs:List iL) (ao:Option Addr) (cap:Nat) (w:World) (hp:pT w p.a p.i) (h:Dv w ao libs) (hfp:JW p.i) (hf:acD libs)
  (Ju:∀k,k<(p::libs).length->∀V,Below w.heap.size w V->Calls Tryz.prog 109 #[.agg (jF (cB (p::libs) k).a (cB (p::libs) k).i)] V fun e w'=>e=.returned (I (mq (cB (p::libs) k).i))/\Below V.heap.size V w')
  (hga:∀m D V,ain (p::libs) m D V->Calls Tryz.prog 64 #[AG (cB (p::libs) 0),.map (some m)] V (Pj (p::libs) (Mb (p::libs) (p::libs).length 0 [0]) V))
  (hpx:∀ix ao cap k V,k<(eN (p::libs) 1 ix).length->Calls Tryz.prog 112 #[.agg (oP (dJ (eN (p::libs) 1 ix) k)),.slice ao (eN (p::libs) 1 ix).length cap] V (CC (vA (eN (p::libs) 1 ix) (dJ (eN (p::libs) 1 ix) k)) V)) :
  Calls Tryz.prog 22 #[AG p,.slice ao libs.length cap] w (acA (p::libs) w):=by
 have hsl:libs.length<=140737488351232:=hf.1;have amm:=aA Ju;have amd:=aA hga;have alU:=aA hpx;have HL:=aA h;have HIM:Hid (∀V,Below w.heap.size w V->∀k,k<(p::libs).length->pT V (cB (p::libs) k).a (cB (p::libs) k).i):=fun V hb k hk=>by
  cases k with
  | zero=>exact hp.below hb
  | succ k =>
   have hk':k<libs.length:=by grind
   obtain⟨b,off,_,_,hl⟩:=h (by omega);exact(hl k hk').2.below hb
 have ES:Hid (∀k,k<(p::libs).length->JW (cB (p::libs) k).i):=fun k hk=>by
  cases k with
  | zero=>exact hfp
  | succ k=>exact hf.2 k (by grind)
 clear hp h hfp hf Ju hga hpx;have HBB:=aA (((aJ w.heap.size w).alloc (aH _) (.cells (jF p.a p.i) 56)).alloc (by simp) (.cells #[Nl,Nl,I 0] 25));have BM:=aA (bl (bD w (jF p.a p.i) 56) (.cells #[Nl,Nl,I 0] 25));have BR0:=bD (w.alloc (.cells (jF p.a p.i) 56)) #[Nl,Nl,I 0] 25;rw[fM] at BR0;have BR:=aA BR0;clear BR0;unfold AG;go_enter Tryz.func22,Tryz.ntmps22;by_cases h6:6<libs.length
 · have HE:Hid (lU (p::libs)=2):=by
    show _=_
    grind [lU]
   clear BM BR;simp only[jF] at HBB ⊢;go_wp2;exact bK (v:=.tuple #[.agg #[Nl,Nl,I 0],I 2]) (by simp[results,Tryz.results22,go_sem]) rfl ⟨HBB.o,by rw[HE.o];simp⟩
 · have h7:(p::libs).length<=7:=by grind
   have ajI:Hid ((((w.alloc (.cells (jF p.a p.i) 56)).alloc (.cells #[Nl,Nl,I 0] 25)).alloc (.cells (jF p.a p.i) 56)).ownsRow (w.heap.size+2) 56 6 (.slice (some (Ad (w.heap.size+2) 0)) 1 1) 1 (pZ p)):=by
    have h:=World.ownsRow_lit (base:=w.heap.size+2) (e:=56) (size:=6) ((w.alloc (.cells (jF p.a p.i) 56)).alloc (.cells #[Nl,Nl,I 0] 25)) (jF p.a p.i) 1 (by simp) (by decide) rfl;have e:((w.alloc (.cells (jF p.a p.i) 56)).alloc (.cells #[Nl,Nl,I 0] 25)).heap.size=w.heap.size+2:=by simp
    rw[e] at h;exact h
   have m7:=aA (HBB.o.alloc (by simp;omega) (.cells (jF p.a p.i) 56));have BM3:=aA (bl BM.o (.cells (jF p.a p.i) 56));have Js:=aA (bl BR.o (.cells (jF p.a p.i) 56));clear BM BR HBB;simp only[jF] at ajI m7 BM3 Js ⊢;go_wp2_with (at_builtin;refine EP rfl _ _ rfl (w.heap.size+2) p (w.heap.size+2) (by rfl) ajI.o ao cap libs rfl (HL.o.below m7.o) (by omega) (by simp) ?_;intro gg alH w1 hown hgrow hlt;have cM:=aA (m7.o.grown hgrow (by simp;omega) (fun q hq=>by grind));have BM1:=aA (Hf BM3.o hgrow (by simp));have Cu:=aA (Hf Js.o hgrow (by simp));have HI1:=aA (adi (l:=p::libs) hown hlt (HIM.o _ cM.o));clear hown hgrow hlt)
   obtain⟨all,hall⟩:=ex (p::libs);have HLI:Hid (cB all 0=p):=by rw[hall];rfl
   have hlen:libs.length+1=all.length:=by grind
   rw[<- hall] at HI1 HIM ES h7 amm amd alU;rw[<- hall,hlen];clear ajI m7 BM3 Js HL;have aqk:=aA hall;clear hall;refine(P4 all _ _ _ HI1.o ⟨by grind [cu],ES.o⟩ (fun k hk V hV=>amm.o k hk V (cM.o.trans (hV.mono cM.o.size)))).mono ?_;rintro e w2 ⟨hb,hout⟩;have gP:=aA (cM.o.trans (hb.mono cM.o.size));have BM2:=aA (aN BM1.o hb (aI BM1.o));have Jv:=aA (aN Cu.o hb (aI Cu.o));clear hb BM1 Cu cM HI1;by_cases hby:ou all=0
   · rw[aB hby] at hout;obtain⟨m,D,rfl,hmap,hnm⟩:=hout;obtain⟨Ju,XB⟩:=Sk hby;have HGI:Hid (ain all m D w2):=⟨by omega,h7,Ju,ES.o,XB,HIM.o _ gP.o,hmap,hnm⟩;have EU:=aA Ju;clear hmap hnm XB Ju;have m0:=aq BM2.o 0 rfl;have m1:=aq BM2.o 1 rfl;have m2:=aq BM2.o 2 rfl;have m3:=aq BM2.o 3 rfl;have m4:=aq BM2.o 4 rfl;have m5:=aq BM2.o 5 rfl;have HBY:=aA hby;clear hby;go_wp2_with fail
     have EF:=aA (amd.o m D w2 HGI.o);rw[HLI.o] at EF;refine Calls.mono (P:=Tryz.prog) EF.o ?_;rintro e w3 ⟨hb,hout⟩;have m7:=aA (gP.o.trans (hb.mono gP.o.size));have BM3:=aA (aN BM2.o hb (aI BM2.o));have Js:=aA (aN Jv.o hb (aI Jv.o));clear hb BM2 Jv EF m0 m1 m2 m3 m4 m5;have r0:=aq Js.o 0 rfl;have r1:=aq Js.o 1 rfl;have r2:=aq Js.o 2 rfl;have rf:=aQ Js.o;have rl:=aI Js.o;cases eg:Mb all all.length 0 [0] with
     | none =>
      rw[eg] at hout;obtain rfl:=hout;have HE:Hid (lU all=6):=by
       grind [lU,Hid.o]
      clear eg;go_wp2;exact bK (v:=.tuple #[.agg #[Nl,Nl,I 0],I 6]) (by simp[results,Tryz.results22,go_sem,r0,r1,r2]) rfl ⟨((m7.o.setCell (by simp) _).setCell (by simp) _).setCell (by simp) _,by grind [Hid.o]⟩
     | some ix =>
      rw[eg] at hout;obtain⟨hok,ao2,cap2,rfl,hO⟩:=hout;have hpos:=hok.pos;have hle:=hok.le;have HLE:Hid (xC (dJ (eN all 1 ix) (ix.length-1))=jH all 1 ix):=N3 all ix 1 hpos;have HOI:Hid (P9 (eN all 1 ix) ao2 w3):=by
       refine⟨hO,by grind [kv],fun k hk=>?_,fun k hk=>?_,Yl EU.o h7 hok⟩
       · grind [kv,ug,Hid.o,G0.lt]
       grind [kv,ug,Hid.o,G0.lt]
      have hxl:ix.length=(eN all 1 ix).length:=(kv all ix 1).symm;have af2:Hid (lU all=if 256<jH all 1 ix then 3 else match sA (eN all 1 ix) with
        | none=>7
        | some _=>0):=by
       grind [lU,Hid.o]
      have HEG:=aA eg;obtain⟨EN,hEN⟩:=ex (jH all 1 ix);rw[<- hEN] at HLE af2;have alV:=aA (alU.o ix);obtain⟨TD,aiN⟩:=ex (eN all 1 ix);rw[<- aiN] at HOI af2 HLE hO hxl alV;have HOB:=aA aiN;rw[hxl] at HLE hpos hle;rw[hxl];clear hEN aiN eg hok hxl HGI HBY;obtain⟨b,off,aeU,hbl,eX⟩:=hO hpos;subst aeU;obtain⟨k1,hk1⟩:=ex (TD.length-1);have aeN:k1<TD.length:=by omega
      rw[<- hk1] at HLE;obtain⟨⟨c0,c1,c2,c3,c4,c5,c6⟩,him⟩:=eX k1 aeN;have Aj:=aA (fun V hb=>aaB (dJ TD k1) V (him.below hb) (HOI.o.chk k1 aeN) (by have:=HOI.o.base k1 aeN;omega) (by have:=HOI.o.base k1 aeN;omega));obtain⟨o,ho⟩:=ex (dJ TD k1);rw[<- ho] at c0 c1 c2 c3 c4 c5 c6 Aj HLE;simp only[oP] at Aj;rw[HLE.o] at Aj;have hwr:IntKind.i64.wrap ((TD.length:Int)-1)=(k1:Int):=by grind [IntWalk.i64_in]
      clear ho eX hO him HLE hk1 hlen HIM ES;by_cases avf:256<EN
      · have HE:Hid (lU all=3):=by
         grind
        clear af2;go_wp2_with (go_at_call 65;refine(Aj.o _ (aJ _ _)).mono ?_;rintro e w4 ⟨rfl,hb⟩;have sX:=aA (m7.o.trans (hb.mono m7.o.size));have BR4:=aA (aN Js.o hb (aI Js.o));have s0:=aq BR4.o 0 rfl;have s1:=aq BR4.o 1 rfl;have s2:=aq BR4.o 2 rfl;have sf:=aQ BR4.o;clear hb)
        exact bK (v:=.tuple #[.agg #[Nl,Nl,I 0],I 3]) (by simp[results,Tryz.results22,go_sem,s0,s1,s2]) rfl ⟨((sX.o.setCell (by simp) _).setCell (by simp) _).setCell (by simp) _,by grind [Hid.o]⟩
      · have HSH:Hid (∀V,P9 TD (some (Ad b off)) V->Calls Tryz.prog 66 #[.slice (some (Ad b off)) TD.length cap2] V (J3 (sA TD) V)):=fun V hV=>L5 TD _ cap2 V hV (by omega) (fun k hk V' hV'=>alV.o _ cap2 k V' hk)
        cases es:sA TD with
        | none =>
         have HE:Hid (lU all=7):=by
          grind
         rw[es] at HSH;clear af2 es;go_wp2_with (first
          | (go_at_call 65;refine(Aj.o _ (aJ _ _)).mono ?_;rintro e w4 ⟨rfl,hb⟩;have sX:=aA (m7.o.trans (hb.mono m7.o.size));have BR4:=aA (aN Js.o hb (aI Js.o));have afO:=aA (HOI.o.below hb);clear hb)
          | (go_at_call 66;refine(HSH.o _ afO.o).mono ?_;rintro e w5 ⟨hb,rfl⟩;have Xq:=aA (sX.o.trans (hb.mono sX.o.size));have BR5:=aA (aN BR4.o hb (aI BR4.o));have s0:=aq BR5.o 0 rfl;have s1:=aq BR5.o 1 rfl;have s2:=aq BR5.o 2 rfl;have sf:=aQ BR5.o;clear hb))
         exact bK (v:=.tuple #[.agg #[Nl,Nl,I 0],I 7]) (by simp[results,Tryz.results22,go_sem,s0,s1,s2]) rfl ⟨((Xq.o.setCell (by simp) _).setCell (by simp) _).setCell (by simp) _,by grind [Hid.o]⟩
        | some E =>
         have HE:Hid (lU all=0):=by
          grind
         have HES:=aA es;rw[es] at HSH;clear af2 es;go_wp2_with (first
          | (go_at_call 65;refine(Aj.o _ (aJ _ _)).mono ?_;rintro e w4 ⟨rfl,hb⟩;have sX:=aA (m7.o.trans (hb.mono m7.o.size));have BR4:=aA (aN Js.o hb (aI Js.o));have BM4:=aA (aN BM3.o hb (aI BM3.o));have afO:=aA (HOI.o.below hb);clear hb)
          | (go_at_call 66;refine(HSH.o _ afO.o).mono ?_;rintro e w5 ⟨hb,hs,ah,ch,hme,rfl,hhh,hcc⟩;have Xq:=aA (sX.o.trans (hb.mono sX.o.size));have BR5:=aA (aN BR4.o hb (aI BR4.o));have BM5:=aA (aN BM4.o hb (aI BM4.o));have ajJ:=aA (afO.o.below hb);have HME:=aA hme;have HHH:=aA hhh;clear hb hme hhh))
         clear HSH Aj HOI afO Js BR4 BM3 BM4 m7 r0 r1 r2 rf rl c0 c1 c2 c3 c4 c5 c6 hwr hbl aeN;obtain⟨b5,anM,hbe,XH,ah6⟩:=ajJ.o.has hpos;obtain⟨⟨d0,d1,d2,d3,d4,d5,d6⟩,dim⟩:=ah6 0 hpos;have ai5:b=b5:=by grind
         have ali:off=anM:=by grind
         rw[<- ai5,<- ali] at d0 d1 d2 d3 d4 d5 d6;rw[<- ai5] at XH;simp only[Nat.zero_mul,mA] at d0 d1 d2 d3 d4 d5 d6;have au3:=ajJ.o.base 0 hpos;have hen:0<=p.i.entry/\p.i.entry<4080:=by
          have h:=N5 (EU.o 0 (by omega))
          grind [Hid.o]
         have HEA:Hid ((cB all 0).i.entry=p.i.entry):=by rw[HLI.o];rfl
         have HAR:Hid (∀V,Below w5.heap.size w5 V->Calls Tryz.prog 67 #[.slice (some (Ad b off)) TD.length cap2] V fun e w'=>∃r,e=.returned r/\dV V.heap.size w' r (rB TD)/\Below V.heap.size V w'):=fun V hb=>P5 TD _ cap2 V (ajJ.o.below hb) (by omega)
         have HAD:=aA (fun V=>P8 (dJ TD 0) p.i.entry V (by omega) (by omega) hen.1 (by omega));obtain⟨o0,ho0⟩:=ex (dJ TD 0);have HO0:=aA ho0;rw[<- ho0] at d0 d1 d2 d3 d4 d5 d6 HAD;simp only[oP] at HAD;have hne:b≠w.heap.size+1:=fun e=>by
          rw[e] at d6;have h:=BR5.o
          grind [World.cell?]
         have HS:Hid (∀V,Below w5.heap.size w5 V->V.cell? (Ad b off)=some (.string o0.i.name)/\V.cell? (Ad b (off+1))=some (.slice o0.a.an o0.i.needs.length o0.a.cn)/\V.cell? (Ad b (off+2))=some (.slice o0.a.ag o0.i.jD.length o0.a.cg)/\V.cell? (Ad b (off+3))=some (.slice o0.a.ay o0.i.syms.length o0.a.cy)/\V.cell? (Ad b (off+4))=some (.slice o0.a.ar o0.i.pN.length o0.a.cr)/\V.cell? (Ad b (off+5))=some (I o0.i.entry)/\V.cell? (Ad b (off+6))=some (I o0.base)/\V.cell? (Ad w.heap.size 5)=some (I p.i.entry)):=fun V hb=>⟨(cJ hb XH).trans d0,(cJ hb XH).trans d1,(cJ hb XH).trans d2,(cJ hb XH).trans d3,(cJ hb XH).trans d4,(cJ hb XH).trans d5,(cJ hb XH).trans d6,aq (aN BM5.o hb (aI BM5.o)) 5 rfl⟩
         obtain⟨AD,hAD⟩:=ex (xU o0 p.i.entry);rw[<- hAD] at HAD;have awG:=aA hAD;clear ho0 hAD d0 d1 d2 d3 d4 d5 d6 dim ah6 hbe ai5 ali;have tM:=aA (aJ w5.heap.size w5).drew;have oh:=aA (HS.o _ tM.o)
         go_region_held3 (fun V=>V.cell? (Ad b off)=some (.string o0.i.name)/\V.cell? (Ad b (off+1))=some (.slice o0.a.an o0.i.needs.length o0.a.cn)/\V.cell? (Ad b (off+2))=some (.slice o0.a.ag o0.i.jD.length o0.a.cg)/\V.cell? (Ad b (off+3))=some (.slice o0.a.ay o0.i.syms.length o0.a.cy)/\V.cell? (Ad b (off+4))=some (.slice o0.a.ar o0.i.pN.length o0.a.cr)/\V.cell? (Ad b (off+5))=some (I o0.i.entry)/\V.cell? (Ad b (off+6))=some (I o0.base)/\V.cell? (Ad w.heap.size 5)=some (I p.i.entry)) (first | exact HS7.o | exact V9.o | exact oh.o | grind [Hid.o])
          (first
           | (go_at_call 67;refine(HAR.o _ tM.o).mono ?_;rintro e w6 ⟨v8,rfl,hrw,hb⟩;obtain⟨ar,cr,hrv,hrg⟩:=Dn hrw;subst hrv;have HRW:=aA hrw;have HK6:=aA (tM.o.trans (hb.mono tM.o.size));have V9:=aA (HS.o _ HK6.o);clear hb hrw hrg)
           | (go_at_call 68;refine(HAD.o _).mono ?_;rintro e w7 ⟨rfl,hb⟩;have HK7:=aA (HK6.o.trans (hb.mono HK6.o.size));have HS7:=aA (HS.o _ HK7.o);have apC:=aA (yQ HRW.o hb);have BR7:=aA (aN BR5.o HK7.o (aI BR5.o));have s0:=aq BR7.o 0 rfl;have s1:=aq BR7.o 1 rfl;have s2:=aq BR7.o 2 rfl;have sf:=aQ BR7.o;have S6:Hid (∀u0 u1 u2,(fun V:World=>V.cell? (Ad b off)=some (.string o0.i.name)/\V.cell? (Ad b (off+1))=some (.slice o0.a.an o0.i.needs.length o0.a.cn)/\V.cell? (Ad b (off+2))=some (.slice o0.a.ag o0.i.jD.length o0.a.cg)/\V.cell? (Ad b (off+3))=some (.slice o0.a.ay o0.i.syms.length o0.a.cy)/\V.cell? (Ad b (off+4))=some (.slice o0.a.ar o0.i.pN.length o0.a.cr)/\V.cell? (Ad b (off+5))=some (I o0.i.entry)/\V.cell? (Ad b (off+6))=some (I o0.base)/\V.cell? (Ad w.heap.size 5)=some (I p.i.entry)) (((w7.setCell (Ad (w.heap.size+1) 0) u0).setCell (Ad (w.heap.size+1) 1) u1).setCell (Ad (w.heap.size+1) 2) u2)):=(fun u0 u1 u2=>by grind [tC,Hid.o]);clear hb))
         have apW:=aA (U0 BR7.o (HHH.o.below HK7.o) (.slice ar (rB TD).length cr) (.slice ah hs.length ch) (I AD));have alY:=aA (Yb (rb:=w.heap.size+1) apC.o (fV (aI BR5.o) tM.o.size) (.slice ar (rB TD).length cr) (.slice ah hs.length ch) (I AD));have HB7:=aA ((((Xq.o.trans (HK7.o.mono Xq.o.size)).setCell (p:=(Ad (w.heap.size+1) 0)) (by simp) (.slice ar (rB TD).length cr)).setCell (p:=(Ad (w.heap.size+1) 1)) (by simp) (.slice ah hs.length ch)).setCell (p:=(Ad (w.heap.size+1) 2)) (by simp) (I AD));go_wp2;refine bK (v:=.tuple #[.agg #[.slice ar (rB TD).length cr,.slice ah hs.length ch,I AD],I 0]) (by simp[results,Tryz.results22,go_sem,s0,s1,s2]) rfl ⟨HB7.o,?_⟩;rw[<- aqk.o,HE.o,aB rfl];refine⟨ix,E,.slice ar (rB TD).length cr,hs,ah,ch,HEG.o,by grind [Hid.o],HME.o,?_,?_,apW.o,hcc⟩
         · grind [Hid.o]
         · rw[<- HOB.o];exact alY.o.mono (gT Xq.o.size tM.o.size)
   · rw[au hby] at hout;subst hout;have HE:Hid (lU all=ou all):=by
      show _=_
      grind [lU]
     obtain⟨er,her⟩:=ex (ou all);rw[<- her] at HE hby;rw[<- her];have hbz:(er==0)=false:=by grind
     have r0:=aq Jv.o 0 rfl;have r1:=aq Jv.o 1 rfl;have r2:=aq Jv.o 2 rfl;have rf:=aQ Jv.o;clear her;go_wp2;exact bK (v:=.tuple #[.agg #[Nl,Nl,I 0],I er]) (by simp[results,Tryz.results22,go_sem,r0,r1,r2]) rfl ⟨((gP.o.setCell (by simp) _).setCell (by simp) _).setCell (by simp) _,by grind [Hid.o]⟩
open Go.RowKit
theorem Ya (l:List jZ) (ao:Option Addr) (cap:Nat) (o:jZ) (w:World) (hr:o.i.pN=[]):Calls Tryz.prog 112 #[.agg (oP o),.slice ao l.length cap] w (CC (vA l o) w):=by
 have e:vA l o=some []:=by unfold vA;rw[hr];rfl
 rw[e];unfold oP;rw[hr];obtain⟨⟨nm,ns,gs,ys,rs,en⟩,⟨an,cn,ag,cg,ay,cy,ar,cr⟩,bs⟩:=o;simp only at hr ⊢;clear hr e;obtain⟨n1,h1⟩:∃n,n=ns.length:=⟨_,rfl⟩;obtain⟨n2,h2⟩:∃n,n=gs.length:=⟨_,rfl⟩;obtain⟨n3,h3⟩:∃n,n=ys.length:=⟨_,rfl⟩;rw[<- h1,<- h2,<- h3];clear h1 h2 h3;have HB:=aA ((aJ w.heap.size w).alloc (aH _) (.cells #[.string nm,.slice an n1 cn,.slice ag n2 cg,.slice ay n3 cy,.slice ar 0 cr,I en,I bs] 131));have dm:Hid (∀w',Below w.heap.size w w'->CC (some []) w (.returned (.tuple #[Nl,.bool true])) w'):=fun w' hb=>⟨hb,_,rfl,mC _ _ _ _⟩
 obtain⟨P,hP⟩:=ex (CC (some []) w);rw[<- hP] at dm ⊢;clear hP;simp only[OJ];go_enter Tryz.func112,Tryz.ntmps112;go_wp2;go_loopw [6,17] (fun sv iv wr=>sv=Nl/\iv=I 0/\Below w.heap.size w wr) (fun _ _ _=>0)
 case atStart=>grind [Hid.o]
 case round =>
  obtain⟨rfl,rfl,hb⟩:=hrel;have gP:=aA hb;clear hb;go_wp2;exact dm.o _ gP.o
theorem aaA (p:iL) (m:Nat) (w:World) (hn:p.i.needs=[]) (him:pT w p.a p.i):Calls Tryz.prog 64 #[AG p,.map (some m)] w (Pj [p] (some [0]) w):=by
 have dm:Hid (∀(w':World) g,w'.heap[g]?=some (.cells #[.string p.i.name,.slice p.a.an p.i.needs.length p.a.cn,.slice p.a.ag p.i.jD.length p.a.cg,.slice p.a.ay p.i.syms.length p.a.cy,.slice p.a.ar p.i.pN.length p.a.cr,I p.i.entry,I 1] 131 (0,0))->Below w.heap.size w w'->Pj [p] (some [0]) w (.returned (.tuple #[.slice (some (Ad g 0)) 1 1,.bool true])) w'):=fun w' g h1 h2=>by
  refine⟨h2,⟨by decide,by decide,fun j hj=>?_⟩,some (Ad g 0),1,rfl,fun _=>⟨g,0,rfl,aI h1,fun k hk=>?_⟩⟩
  · grind
  · obtain rfl:k=0:=by have:k<1:=hk;omega
    exact⟨⟨aq h1 0 rfl,aq h1 1 rfl,aq h1 2 rfl,aq h1 3 rfl,aq h1 4 rfl,aq h1 5 rfl,aq h1 6 rfl⟩,him.below h2⟩
 obtain⟨P,hP⟩:=ex (Pj [p] (some [0]) w);rw[<- hP] at dm ⊢;clear hP him;unfold AG jF;rw[hn] at dm ⊢;obtain⟨⟨nm,ns,gs,ys,rs,en⟩,⟨an,cn,ag,cg,ay,cy,ar,cr⟩⟩:=p;simp only at dm ⊢;clear hn;obtain⟨n2,h2⟩:∃n,n=gs.length:=⟨_,rfl⟩;obtain⟨n3,h3⟩:∃n,n=ys.length:=⟨_,rfl⟩;obtain⟨n4,h4⟩:∃n,n=rs.length:=⟨_,rfl⟩;rw[<- h2,<- h3,<- h4] at dm ⊢;simp only[OJ] at dm ⊢;clear h2 h3 h4;have HB:=aA (((aJ w.heap.size w).alloc (aH _) (.cells #[.string nm,.slice an 0 cn,.slice ag n2 cg,.slice ay n3 cy,.slice ar n4 cr,I en] 56)).alloc (by simp) (.cells #[.string nm,.slice an 0 cn,.slice ag n2 cg,.slice ay n3 cy,.slice ar n4 cr,I en,I 1] 131));have HX:Hid (((w.alloc (.cells #[.string nm,.slice an 0 cn,.slice ag n2 cg,.slice ay n3 cy,.slice ar n4 cr,I en] 56)).alloc (.cells #[.string nm,.slice an 0 cn,.slice ag n2 cg,.slice ay n3 cy,.slice ar n4 cr,I en,I 1] 131)).heap[w.heap.size+1]?=some (.cells #[.string nm,.slice an 0 cn,.slice ag n2 cg,.slice ay n3 cy,.slice ar n4 cr,I en,I 1] 131 (0,0))):=by
  have:=bD (w.alloc (.cells #[.string nm,.slice an 0 cn,.slice ag n2 cg,.slice ay n3 cy,.slice ar n4 cr,I en] 56)) #[.string nm,.slice an 0 cn,.slice ag n2 cg,.slice ay n3 cy,.slice ar n4 cr,I en,I 1] 131;rw[fM] at this;exact this
 go_enter Tryz.func64,Tryz.ntmps64;go_wp2;obtain⟨g,hg⟩:=ex (w.heap.size+1);rw[<- hg] at HX ⊢;clear hg;go_loopw [6,7] (fun sv iv wr=>sv=.slice (some (Ad g 0)) 1 1/\(∃k:Nat,k<=1/\iv=I (k:Int))/\wr.heap[g]?=some (.cells #[.string nm,.slice an 0 cn,.slice ag n2 cg,.slice ay n3 cy,.slice ar n4 cr,I en,I 1] 131 (0,0))/\Below w.heap.size w wr) (fun _ iv _=>1-(intOf iv).toNat)
 case atStart=>grind [Hid.o]
 case round =>
  obtain⟨rfl,⟨k,hk,rfl⟩,hx,hb⟩:=hrel;have HX2:=aA hx;have gP:=aA hb;have x1:wr.cell? (Ad g 1)=some (.slice an 0 cn):=aq hx 1 rfl;clear hx hb HX HB;by_cases h0:k=0
  · subst h0;go_wp2;clear x1;go_loopw [6,28] (fun sv iv wi=>sv=.slice (some (Ad g 0)) 1 1/\iv=I 0/\wi.heap[g]?=some (.cells #[.string nm,.slice an 0 cn,.slice ag n2 cg,.slice ay n3 cy,.slice ar n4 cr,I en,I 1] 131 (0,0))/\Below w.heap.size w wi) (fun _ _ _=>0)
    case atStart=>exact⟨rfl,rfl,HX2.o,gP.o⟩
    case round =>
     obtain⟨rfl,rfl,hx,hb⟩:=hrel;have HX3:=aA hx;have m7:=aA hb;clear hx hb HX2 gP;go_wp2;go_roundw
     case rel=>exact⟨rfl,⟨1,by omega,by first | rfl | go_num⟩,HX3.o,m7.o⟩
     case measure=>simp[intOf]
  · obtain rfl:k=1:=by omega
    go_wp2;exact dm.o _ _ HX2.o gP.o
open Go.RowKit
def zk:Array Value:=#[I 16,I 0,I 0,I 0,I 5,I 11,I 1,I 0,I 0,I 40,I 10,I 0,I 1,I 8,I 0,I 9,I 0,I 1,I 1,I 0,I 16,I 0,I 0,I 0,I 1,I 16,I 0,I 0,I 0,I 6]
theorem ZQ {V:World} {rb:Nat} (h:V.heap[rb]?=some (.cells zk 108 (0,0))) (k:Nat) (hk:k<6) :
  V.cell? (Ad rb (k*5))=some (I (zY.getD k Gp).op)/\V.cell? (Ad rb (k*5+1))=some (I (zY.getD k Gp).a)/\V.cell? (Ad rb (k*5+2))=some (I (zY.getD k Gp).b)/\V.cell? (Ad rb (k*5+3))=some (I (zY.getD k Gp).c)/\V.cell? (Ad rb (k*5+4))=some (I (zY.getD k Gp).m):=by
 match k,hk with
 | 0,_=>exact⟨aq h 0 rfl,aq h 1 rfl,aq h 2 rfl,aq h 3 rfl,aq h 4 rfl⟩
 | 1,_=>exact⟨aq h 5 rfl,aq h 6 rfl,aq h 7 rfl,aq h 8 rfl,aq h 9 rfl⟩
 | 2,_=>exact⟨aq h 10 rfl,aq h 11 rfl,aq h 12 rfl,aq h 13 rfl,aq h 14 rfl⟩
 | 3,_=>exact⟨aq h 15 rfl,aq h 16 rfl,aq h 17 rfl,aq h 18 rfl,aq h 19 rfl⟩
 | 4,_=>exact⟨aq h 20 rfl,aq h 21 rfl,aq h 22 rfl,aq h 23 rfl,aq h 24 rfl⟩
 | 5,_=>exact⟨aq h 25 rfl,aq h 26 rfl,aq h 27 rfl,aq h 28 rfl,aq h 29 rfl⟩
 | k+6,h=>exact absurd h (by omega)
def WY (w:World) (e:Ending) (w':World):Prop:=∃ar cr ah ch a1 a2 a3 a4 c1 c2 c3 c4,e=.returned (.agg #[.slice ar 1 cr,.slice ah 4 ch,I 16])/\gu w' (.slice ar 1 cr) vZ/\jn w' ah (pC a1 a2 a3 a4 c1 c2 c3 c4)/\4<=ch/\Below w.heap.size w w'
theorem ad8 {a:JY} {w w':World} {e:Ending} (h:acA [⟨kF,a⟩] w e w'):∃ar cr ah ch a1 a2 a3 a4 c1 c2 c3 c4,e=.returned (.tuple #[.agg #[.slice ar 1 cr,.slice ah 4 ch,I 16],I 0])/\dV w.heap.size w' (.slice ar 1 cr) vZ/\jn w' ah (pC a1 a2 a3 a4 c1 c2 c3 c4)/\4<=ch/\Below w.heap.size w w':=by
 obtain⟨hb,h2⟩:=h;rw[aB (abZ a)] at h2;obtain⟨ix,E,r,hs,ao,cap,h3,h4,h5,h6,h7,h8,h9⟩:=h2;rw[Re] at h3;injection h3 with h3;subst h3;rw[abY] at h4 h6 h7;rw[Tt] at h4;injection h4 with h4;subst h4;rw[WW] at h7;rw[WV] at h6;obtain⟨a1,a2,a3,a4,c1,c2,c3,c4,rfl⟩:=ad9 h5;obtain⟨ar,cr,hr,_⟩:=Dn h7;subst hr;exact⟨ar,cr,ao,cap,a1,a2,a3,a4,c1,c2,c3,c4,h6,h7,h8,h9,hb⟩
theorem ZR {V U:World} {g:Nat} {x y:Value} {n:Int} {ah:Option Addr} {a1 a2 a3 a4:Option Addr} {c1 c2 c3 c4:Nat} (h:jn V ah (pC a1 a2 a3 a4 c1 c2 c3 c4)) (hg:V.heap[g]?=some (.cells #[x,y,I n] 25 (0,0))) (hx:∀k i,x≠.int k i) (hy:∀k i,y≠.int k i) (hk:∀b j v,b≠g->V.cell? (Ad b j)=some v->U.cell? (Ad b j)=some v) (hs:V.heap.size<=U.heap.size):jn U ah (pC a1 a2 a3 a4 c1 c2 c3 c4):=fun hl=>by
 obtain⟨b,off,rfl,hb,eX⟩:=h hl;have hne:b≠g:=fun e=>by
  subst e;obtain⟨d0,d1,_,_⟩:=eX 0 (by unfold pC;simp);rw[Nat.zero_mul,mA] at d0 d1
  match off,d0,d1 with
  | 0,d0,_ =>
   rw[aq hg 0 (v:=x) rfl] at d0;injection d0 with d0;exact hx _ _ d0
  | 1,d0,_ =>
   rw[aq hg 1 (v:=y) rfl] at d0;injection d0 with d0;exact hy _ _ d0
  | 2,_,d1 =>
   have:V.cell? (Ad b 3)=none:=by simp[World.cell?,hg]
   rw[this] at d1;cases d1
  | k+3,d0,_ =>
   have:V.cell? (Ad b (k+3))=none:=by simp[World.cell?,hg]
   rw[this] at d0;cases d0
 refine⟨b,off,rfl,by omega,fun i hi=>?_⟩;obtain⟨d0,d1,d2,_⟩:=eX i hi;refine⟨hk _ _ _ hne d0,hk _ _ _ hne d1,hk _ _ _ hne d2,fun h0=>?_⟩;exfalso
 match i,hi,h0 with
 | 0,_,h0=>exact kr _ h0
 | 1,_,h0=>exact kr _ h0
 | 2,_,h0=>exact kr _ h0
 | 3,_,h0=>exact kr _ h0
 | i+4,h,_=>exact absurd h (by unfold pC;simp)
theorem WU (w:World):Calls Tryz.prog 37 #[] w (WY w):=by
 have dm:Hid (∀ar cr ah ch a1 a2 a3 a4 c1 c2 c3 c4 (w':World),gu w' (.slice ar 1 cr) vZ->jn w' ah (pC a1 a2 a3 a4 c1 c2 c3 c4)->4<=ch->Below w.heap.size w w'->WY w (.returned (.agg #[.slice ar 1 cr,.slice ah 4 ch,I 16])) w'):=fun ar cr ah ch a1 a2 a3 a4 c1 c2 c3 c4 w' h1 h2 h3 h4=>⟨ar,cr,ah,ch,a1,a2,a3,a4,c1,c2,c3,c4,rfl,h1,h2,h3,h4⟩
 obtain⟨P,hP⟩:=ex (WY w);rw[<- hP] at dm ⊢;clear hP;have Ed:Hid (∀(i:dR) V,Calls Tryz.prog 84 #[.agg #[I i.op,I i.a,I i.b,I i.c,I i.m]] V fun e w'=>e=.returned (.string i.bytes)/\Below V.heap.size V w'):=fun i V=>UN i V
 have HST:Hid (∀k,vY (k+1)=vY k++(zY.getD k Gp).bytes):=fun k=>rfl
 have HSZ:=ai IE;have HLK:Hid (∀wb V,V.heap[wb]?=some (.cells #[I 0,I 4,.string He,.bool true,.bool true] 166 (0,0))->Calls Tryz.prog 22 #[.agg #[.string ⟨#[116]⟩,Nl,.slice (some (Ad wb 0)) 1 1,Nl,Nl,I 0],Nl] V fun e w'=>∃ar cr ah ch a1 a2 a3 a4 c1 c2 c3 c4,e=.returned (.tuple #[.agg #[.slice ar 1 cr,.slice ah 4 ch,I 16],I 0])/\dV V.heap.size w' (.slice ar 1 cr) vZ/\jn w' ah (pC a1 a2 a3 a4 c1 c2 c3 c4)/\4<=ch/\Below V.heap.size V w'):=fun wb V hV=>by
  have him:pT V ⟨none,0,some (Ad wb 0),1,none,0,none,0⟩ kF:=⟨fun h=>absurd h (kr _),fun _=>⟨wb,0,rfl,aI hV,fun i hi=>by
   obtain rfl:i=0:=by
    have:i<1:=hi;omega
   exact⟨aq hV 0 rfl,aq hV 1 rfl,aq hV 2 rfl,aq hV 3 rfl,aq hV 4 rfl⟩⟩,fun h=>absurd h (kr _),fun h=>absurd h (kr _)⟩
  refine(UZ ⟨kF,⟨none,0,some (Ad wb 0),1,none,0,none,0⟩⟩ [] none 0 V him (fun h=>absurd h (by simp)) Rf ⟨by unfold cu;decide,fun k hk=>absurd hk (by simp)⟩ (fun k hk U hU=>?_) (fun m D U hG=>?_) (fun ix ao cap k U hk=>?_)).mono fun e w' h=>ad8 h
  · obtain rfl:k=0:=by
     have:k<1:=hk;omega
    refine(ae2 ⟨#[116]⟩ [⟨0,4,He,true,true⟩] 0 none (some (Ad wb 0)) none none 0 1 0 0 U (him.below hU) Rf (by kernel_rfl) (by kernel_rfl) (by kernel_rfl) (by kernel_rfl) (by kernel_rfl)).mono ?_;rintro e w' ⟨rfl,hb⟩;exact⟨by rw[show mq (cB [⟨kF,⟨none,0,some (Ad wb 0),1,none,0,none,0⟩⟩] 0).i=0 by kernel_rfl],hb⟩
  · rw[Re];exact aaA _ m U rfl (hG.im 0 hG.pos)
  · refine Ya _ ao cap _ U ?_;rw[kv] at hk;rw[(ug _ ix 1 k hk).1];cases ix.getD k 0 <;> rfl
 have HDD:Hid (vY 6=He):=WT;obtain⟨D,hD⟩:=ex He;rw[<- hD] at HLK HDD;clear hD;have gG:=ai (((aJ w.heap.size w).alloc (aH _) (.cells #[Nl,Nl,I 0] 25)).alloc (by simp) (.cells zk 108));have X0:=ai (bl (bD w #[Nl,Nl,I 0] 25) (.cells zk 108));have R0:Hid (((w.alloc (.cells #[Nl,Nl,I 0] 25)).alloc (.cells zk 108)).heap[w.heap.size+1]?=some (.cells zk 108 (0,0))):=by
  have:=bD (w.alloc (.cells #[Nl,Nl,I 0] 25)) zk 108;rw[fM] at this;exact this
 go_enter Tryz.func37,Tryz.ntmps37;go_wp2;obtain⟨WA,mj⟩:=ex ((w.alloc (.cells #[Nl,Nl,I 0] 25)).alloc (.cells zk 108));have ai6:=mj;unfold zk at ai6;rw[<- ai6];rw[<- mj] at gG X0 R0;clear mj ai6;obtain⟨rb,JJ⟩:=ex (w.heap.size+1);rw[<- JJ] at R0 ⊢;have Mp:=ai JJ;clear JJ;go_loopw [1,3] (fun sv iv wr=>∃k:Nat,k<=6/\iv=I (k:Int)/\sv=.string (vY k)/\wr.heap[rb]?=some (.cells zk 108 (0,0))/\wr.heap[w.heap.size]?=some (.cells #[Nl,Nl,I 0] 25 (0,0))/\Below w.heap.size w wr) (fun _ iv _=>6-(intOf iv).toNat)
 case atStart=>exact⟨0,by omega,rfl,rfl,R0.o,X0.o,gG.o⟩
 case round =>
  obtain⟨k,hk,rfl,rfl,hr,hx,hb⟩:=hrel;have HR:=ai hr;have HX:=ai hx;have HB:=ai hb;clear R0 X0 gG;by_cases hlt:k<6
  · obtain⟨c0,c1,c2,c3,c4⟩:=ZQ hr k hlt;have hs:=HSZ.o k;have HS:=ai (HST.o k);have hz:(zY.getD k Gp).bytes.size=8:=Ho _;have Z9:=ai (Ed.o (zY.getD k Gp));obtain⟨i,hi⟩:=ex (zY.getD k Gp);rw[<- hi] at c0 c1 c2 c3 c4 HS hz Z9;obtain⟨Z,hZ⟩:=ex (vY k);obtain⟨Y,hY⟩:=ex i.bytes;rw[<- hZ] at hs HS ⊢;rw[<- hY] at hz HS Z9;have JL:(k:Int)<6:=by omega
    clear hi hZ hY hr hx hb;go_wp2_with (go_at_call 84;refine(Z9.o _).mono ?_;rintro e w1 ⟨rfl,hb1⟩;have cM:=ai (HB.o.trans (hb1.mono HB.o.size));have HR1:=ai (aN HR.o hb1 (aI HR.o));have HX1:=ai (aN HX.o hb1 (aI HX.o));clear hb1)
    go_roundw
    case rel=>exact⟨k+1,by omega,by go_num,by rw[HS.o],HR1.o,HX1.o,cM.o⟩
    case measure=>simp[intOf];omega
  · obtain rfl:k=6:=by omega
    rw[HDD.o];have aua:=aI hx;clear hr hx hb HST HSZ Ed;go_wp2_with fail
    have HBS:=ai (HB.o.alloc HB.o.size (.cells #[I 0,I 4,.string D,.bool true,.bool true] 166));have HXS:=ai (bl HX.o (.cells #[I 0,I 4,.string D,.bool true,.bool true] 166));have HLS:=ai (HLK.o wr.heap.size _ (bD wr #[I 0,I 4,.string D,.bool true,.bool true] 166))
    go_at_call 22
    refine HLS.o.mono ?_;rintro e w2 ⟨ar,cr,ah,ch,a1,a2,a3,a4,c1,c2,c3,c4,rfl,h1,h2,h3,h4⟩;have HO:=ai h1;have HH:=ai h2;have HX2:=ai (aN HXS.o h4 (aI HXS.o));have gP:=ai (HBS.o.trans (h4.mono HBS.o.size));have hcl:=h4.size;clear h1 h2 h4 HLS HLK HDD HXS;have HX3:=ai (bl HX2.o (.cells #[.slice ar 1 cr,.slice ah 4 ch,I 16] 25));have y0:=aq HX3.o 0 rfl;have y1:=aq HX3.o 1 rfl;have y2:=aq HX3.o 2 rfl;have yf:=aQ HX3.o;have hwl:=aI HX3.o;have uY:Hid (aC (fun b=>b=w.heap.size) w2 (w2.alloc (.cells #[.slice ar 1 cr,.slice ah 4 ch,I 16] 25))):=aC.alloc _ w2 _;have HKU:=ai (uY.o.trans (xh (D:=fun b=>b=w.heap.size) _ w.heap.size 0 1 2 (.slice ar 1 cr) (.slice ah 4 ch) (I 16) rfl) (fun _ _ g=>g));go_wp2;refine bK (v:=.agg #[.slice ar 1 cr,.slice ah 4 ch,I 16]) (by simp[results,Tryz.results37,go_sem,y0,y1,y2,hwl]) rfl (dm.o _ _ _ _ a1 a2 a3 a4 c1 c2 c3 c4 _ ?_ ?_ h3 ?_)
    · exact dV.has (HKU.o.row HO.o (fun b hb e=>by have:=(HO.o.lt b hb).1;simp at this;omega))
    · exact ZR HH.o HX2.o (fun _ _ h=>nomatch h) (fun _ _ h=>nomatch h) (fun b j v hne hc=>HKU.o.cell hc hne) HKU.o.size
    · exact aC.below gP.o HKU.o gP.o.size (fun b hb=>by rw[hb];exact aH _)
end Go.Proofs.YtlgoihmkgaaemaaGreat
