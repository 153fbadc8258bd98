import Derived.Test.YtlgoihmkgaaemaaGreatGN38
set_option maxHeartbeats 20000000
set_option linter.unusedVariables false
set_option maxRecDepth 100000
set_option linter.unusedSimpArgs false
namespace Go.Proofs.YtlgoihmkgaaemaaGreat
open Go.RowKit
theorem Mj (l:List km) (ao:Option Addr) (cap:Nat) (w:World) (h:Qo l ao w) (hl7:l.length<=7) (hpx:∀k,k<l.length->∀V,Below w.heap.size w V->Calls Tryz.prog 112 #[.agg (o5 (dR l k)),.slice ao l.length cap] V (CS (vR l (dR l k)) V)):Calls Tryz.prog 66 #[.slice ao l.length cap] w (Kh (sN l) w):=by
 have HO:=aB h;have HPX:=aB hpx;clear h hpx;obtain⟨R,hR⟩:=ex (sN l);have HR:Hid (R=uu l l.length):=hR;rw[<- hR];clear hR;obtain⟨i0,hin,hz0,hz1,hz2⟩:=ju Ua;go_enter Tryz.func66,Tryz.ntmps66;go_wp2;go_loopw [15,4] (fun i v wr=>∃(a:Nat) (E:List Fs) (hs:List bJ),a<=l.length/\i=I a/\uu l a=some E/\hs.map eT=E/\hs.length<=a*1600/\A3 w.heap.size wr v hs/\Below w.heap.size w wr) (fun i _ _=>l.length-(intOf i).toNat)
 case atStart=>exact⟨0,[],[],by omega,rfl,rfl,rfl,by simp,A3.nil _ _,aK _ _⟩
 case round =>
  obtain⟨a,E,hs,hal,rfl,hE,hmE,hlen,hrs,hb⟩:=hrel;have HE:=aB hE;have HME:=aB hmE;have ZJ:=aB hrs;have zJ:=aB hb;by_cases hlt:a<l.length
  · have HOr:=aB (HO.o.below hb);obtain⟨b,off,hao,hbl,eY⟩:=HOr.o.has (by omega);obtain⟨⟨c0,c1,c2,c3,c4,c5,c6⟩,him⟩:=eY a hlt;have hbs:=HO.o.base a hlt;have JJ:=HO.o.chk a hlt;have HPA:Hid (∀V,Below wr.heap.size wr V->Calls Tryz.prog 112 #[.agg (o5 (dR l a)),.slice ao l.length cap] V (CS (vR l (dR l a)) V)):=fun V hb=>HPX.o a hlt V (zJ.o.trans (hb.mono zJ.o.size))
    have ow:Hid (vR l (dR l a)=none->R=none):=fun g=>by
     rw[HR.o];refine Ic (k:=a+1) ?_ l.length (by omega);simp only[uu,HE.o,g]
    have yK:Hid (∀ps,vR l (dR l a)=some ps->uu l (a+1)=some (E++ym (dR l a) ps (dR l a).i.jI.length)):=fun ps g=>by simp only[uu,HE.o,g]
    have Hn:Hid (∀ps,vR l (dR l a)=some ps->ps.length<=16/\∀j,j<ps.length->VD (xQ ps j)):=fun ps g=>by
     have h1:=Ko g;have h2:=(vX JJ).2.2.2.2;exact⟨by omega,Qr JJ hbs.1 hbs.2 _ ps (aI _) g⟩
    obtain⟨b2,Yb,afE,adK,Yj⟩:=HO.o.has (by omega);have aaP:=(Yj a hlt).2;obtain⟨o,ho⟩:=ex (dR l a);rw[<- ho] at aaP;rw[<- ho] at c0 c1 c2 c3 c4 c5 c6 him hbs JJ HPA ow yK Hn;have hcn:=vX JJ;have HSB:=aB (xP JJ);simp only[o5] at HPA;obtain⟨bs,Ya,hag,akq,hlg⟩:=aaP.jI (by omega);have HLG:=aB hlg;rw[hag] at HPA c2;clear ho eY hb hE hmE hrs him hlg hag aaP Yj afE adK;subst hao;have jV:=aB (zJ.o.alloc zJ.o.size (.cells #[.string o.i.name,.slice o.a.an o.i.needs.length o.a.cn,.slice (some (Ad bs Ya)) o.i.jI.length o.a.cg,.slice o.a.ay o.i.syms.length o.a.cy,.slice o.a.ar o.i.pV.length o.a.cr,I o.i.entry,I o.base] 131));have Js:=aB ((aK wr.heap.size wr).alloc (aI _) (.cells #[.string o.i.name,.slice o.a.an o.i.needs.length o.a.cn,.slice (some (Ad bs Ya)) o.i.jI.length o.a.cg,.slice o.a.ay o.i.syms.length o.a.cy,.slice o.a.ar o.i.pV.length o.a.cr,I o.i.entry,I o.base] 131));have BO:=aB (bE wr #[.string o.i.name,.slice o.a.an o.i.needs.length o.a.cn,.slice (some (Ad bs Ya)) o.i.jI.length o.a.cg,.slice o.a.ay o.i.syms.length o.a.cy,.slice o.a.ar o.i.pV.length o.a.cr,I o.i.entry,I o.base] 131);have XT:=aB (HPA.o _ Js.o);cases e:vR l o with
    | none =>
     have HRN:=aB (ow.o e);rw[e] at XT;clear e ow yK Hn;go_wp2_with (go_at_call 112;refine XT.o.mono ?_;rintro e w1 ⟨hb,rfl⟩;have cN:=aB (jV.o.trans (hb.mono jV.o.size));clear hb)
     go_ret2
     show Kh R w _ _;rw[HRN.o];exact⟨cN.o,rfl⟩
    | some ps =>
     have arF:=aB (yK.o ps e);obtain⟨hps,hfp⟩:=Hn.o ps e;have arZ:=aB hfp;rw[e] at XT;clear e ow yK Hn hfp;have Hz:∀q,u4.ownBlock=some q->q<wr.heap.size:=fun q hq=>(ZJ.o.row.lt q hq).2
     have agw:=aB Hz;clear Hz;go_wp2_with (go_at_call 112;refine XT.o.mono ?_;rintro e w1 ⟨hb,v7,rfl,hpr⟩;have cN:=aB (jV.o.trans (hb.mono jV.o.size));have HW1:=aB (Js.o.trans (hb.mono Js.o.size));have PF:=aB hpr;have BO1:=aB (aO BO.o hb (aJ BO.o));have g2:=au BO1.o 2 rfl;clear hb hpr)
     obtain⟨ap,cp,hv7,hpn⟩:=aa9 PF.o u4.ownBlock (fun q hq=>by have:=agw.o q hq;simp;omega);subst hv7;have HPN:=aB hpn;have anq:=aB (ZJ.o.below HW1.o);have aqa:=zJ.o.size;obtain⟨rb,Hz⟩:=ex u4.ownBlock;have MD:=aB Hz;rw[<- Hz] at HPN agw;clear hpn PF XT HPA Js jV ZJ HW1 g2 BO c0 c1 c2 c3 c4 c5 c6 Hz HOr hbl;obtain⟨ob,hob⟩:=ex wr.heap.size;rw[<- hob] at BO1 agw aqa;rw[<- hob];have HNE:Hid (some ob≠rb):=fun e=>by have:=agw.o ob e.symm;omega
     clear hob zJ agw;go_loopw [31,4] (fun i v wm=>∃(k:Nat) (hs':List bJ),k<=o.i.jI.length/\i=I k/\hs'.map eT=E++ym o ps k/\hs'.length<=a*1600+k*255/\A3 w.heap.size wm v hs'/\Below w.heap.size w wm/\uj w1 rb wm v.ownBlock) (fun i _ _=>o.i.jI.length-(intOf i).toNat)
     case atStart=>exact⟨0,hs,by omega,rfl,by rw[HME.o];simp[ym],by omega,anq.o,cN.o,by rw[MD.o];exact uj.refl _ _⟩
     case round =>
      obtain⟨k,hs',hk,rfl,hmE,hlen',hrs,hb,L1⟩:=hrel;have Jv:=aB hmE;have Cr:=aB hrs;have HBm:=aB hb;have HFm:=aB L1;clear anq MD hlen HME;by_cases hlk:k<o.i.jI.length
      · obtain⟨c0,c1,c2,c3,c4⟩:=zR hb akq HLG.o k hlk;have Jc:=HSB.o k hlk;have wS:Hid (ym o ps (k+1)=ym o ps k++zT o ps (eO o.i.jI k) (eO o.i.jI k).aQ.toNat):=rfl;obtain⟨s,hse⟩:=ex (eO o.i.jI k);rw[<- hse] at c0 c1 c2 c3 c4 Jc wS;clear hse;obtain⟨P,hP⟩:∃P:Nat,s.aQ=(P:Int):=⟨s.aQ.toNat,by omega⟩;obtain⟨pg,pn,dt,wb,qZ0⟩:=s;simp only at c0 c1 c2 c3 c4 Jc wS hP;subst hP;rw[lM] at wS;have hvb:∀q,u4.ownBlock=some q->q<wr.heap.size:=fun q hq=>(Cr.o.row.lt q hq).2
        have HVB:=aB hvb;have jV:=aB (HBm.o.alloc HBm.o.size (.cells #[I pg,I P,.string dt,.bool wb,.bool qZ0] 166));have Js:=aB ((aK wr.heap.size wr).alloc (aI _) (.cells #[I pg,I P,.string dt,.bool wb,.bool qZ0] 166));have BS:=aB (bE wr #[I pg,I P,.string dt,.bool wb,.bool qZ0] 166);have E7:=aB (HFm.o.trans (uj.b9 Js.o u4.ownBlock));have ak0:=aB (Cr.o.below Js.o);clear hvb hmE hrs hb L1;go_wp2;obtain⟨vb,hvb⟩:=ex u4.ownBlock;have HVE:=aB hvb;rw[<- hvb] at HVB;obtain⟨WA,lO⟩:=ex (wr.alloc (.cells #[I pg,I P,.string dt,.bool wb,.bool qZ0] 166));rw[<- lO] at jV Js BS E7 ak0;rw[<- lO];obtain⟨sb,aaM⟩:=ex wr.heap.size;rw[<- aaM] at BS HVB;rw[<- aaM];have HNS:Hid (some sb≠vb):=fun e=>by have:=HVB.o sb e.symm;omega
        clear hvb lO aaM Js HVB Cr HBm HFm c0 c1 c2 c3 c4;have hpb:∀n:Nat,n<P->0<=o.base+pg+(n:Int)/\o.base+pg+(n:Int)<=3000:=fun n hn=>by omega
        have HPB:=aB hpb;have NL:Hid (∀n:Nat,n<P->∀V,Calls Tryz.prog 113 #[.agg #[I pg,I (P:Int),.string dt,.bool wb,.bool qZ0],I n] V fun e w'=>e=.returned (.string (vW ⟨pg,P,dt,wb,qZ0⟩ n))/\Below V.heap.size V w'):=fun n hn V=>Sv ⟨pg,P,dt,wb,qZ0⟩ n V (by omega) (by show dt.size<=100000;omega)
        clear hpb;go_loopw [37,4] (fun i v wi=>∃(n:Nat) (hs2:List bJ),n<=P/\i=I n/\hs2.map eT=(E++ym o ps k)++zT o ps ⟨pg,P,dt,wb,qZ0⟩ n/\hs2.length<=a*1600+k*255+n/\A3 w.heap.size wi v hs2/\Below w.heap.size w wi/\uj w1 rb wi v.ownBlock/\uj WA vb wi v.ownBlock) (fun i _ _=>P-(intOf i).toNat)
        case atStart=>exact⟨0,hs',by omega,rfl,by rw[Jv.o];simp[zT],by omega,ak0.o,jV.o,E7.o,by rw[HVE.o];exact uj.refl _ _⟩
        case round =>
         obtain⟨n,hs2,hn,rfl,PU,PV,hrs,hb,L1,PX⟩:=hrel;have HM3:=aB PU;have Uv:=aB hrs;have HBi:=aB hb;have HFi:=aB L1;have HFs:=aB PX;have ahF:=hb.size;clear ak0 jV E7 HVE Jv hlen' PU hrs hb;by_cases hnP:n<P
         · have BOi:=aB (L1.keep BO1.o HNE.o);have BSi:=aB (PX.keep BS.o HNS.o);have y6:=au BOi.o 6 rfl;have z0:=au BSi.o 0 rfl;have z1:=au BSi.o 1 rfl;have z2:=au BSi.o 2 rfl;have z3:=au BSi.o 3 rfl;have z4:=au BSi.o 4 rfl;have HPi:=aB (HPN.o.fr L1);have hpb:=HPB.o n hnP;have HNP:=aB (SC o ps ⟨pg,P,dt,wb,qZ0⟩ n);have HG2:=aB (NL.o n hnP);have HFX:Hid (∀V,Below wr.heap.size wr V->Calls Tryz.prog 114 #[I (o.base+pg+(n:Int)),.slice ap ps.length cp] V fun e w'=>(∃v,e=.returned v/\w'.ownsRow V.heap.size 226 2 v (kL (o.base+pg+(n:Int)) ps).length ((kL (o.base+pg+(n:Int)) ps).flatMap CV))/\Below V.heap.size V w'):=fun V hb=>Qi _ ps ap cp V hpb.1 hpb.2 (HPi.o.below hb) (by omega) arZ.o
           have ZI:Hid (abm o ps ⟨pg,P,dt,wb,qZ0⟩ n=⟨o.base+pg+(n:Int),vW ⟨pg,P,dt,wb,qZ0⟩ n,kL (o.base+pg+(n:Int)) ps⟩):=rfl;obtain⟨F,hF⟩:=ex (kL (o.base+pg+(n:Int)) ps);obtain⟨D,hD⟩:=ex (vW ⟨pg,P,dt,wb,qZ0⟩ n);rw[<- hF] at HFX ZI;rw[<- hD] at HG2 ZI;have hl3:hs2.length<=100000:=by omega
           have hrow:=Uv.o.row.lt;have Wy:=aB hrow;clear hF hD L1 PX hrow;obtain⟨i0,hin,hz0,hz1,hz2⟩:=ju Ua;go_wp2_with (first
            | (go_at_call 113;refine(HG2.o _).mono ?_;rintro e w2 ⟨rfl,hb⟩;have HW2:=aB hb;clear hb)
            | (go_at_call 114;refine(HFX.o _ HW2.o).mono ?_;rintro e w3 ⟨⟨v8,rfl,hrw⟩,hb⟩;obtain⟨af,cf,hvf,hfn⟩:=adT hrw u4.ownBlock (fun q hq=>by have:=(Wy.o q hq).2;have:=HW2.o.size;omega);subst hvf;have OE:=aB hfn;have HW3:=aB (HW2.o.trans (hb.mono HW2.o.size));have Cu:=aB (HW3.o.alloc HW3.o.size (.cells #[I (o.base+pg+(n:Int)),.string D,.slice af F.length cf] 145));have HR4:=aB (Uv.o.below Cu.o);have ar1:=aB (OE.o.below ((aK w3.heap.size w3).alloc (aI _) (.cells #[I (o.base+pg+(n:Int)),.string D,.slice af F.length cf] 145)));have HN3:=aB (bE w3 #[I (o.base+pg+(n:Int)),.string D,.slice af F.length cf] 145);have aj0:w.heap.size<=w3.heap.size:=gY ahF HW3.o.size;clear hb hrw hfn)
            | (at_builtin;refine Pf _ rfl _ _ 23 rfl w.heap.size 145 i0 (.agg #[I 0,.string ⟨#[]⟩,Nl]) 3 48 Tryz.underlying23 hin hz0 hz1 hz2 rfl (by decide) _ _ _ rfl HR4.o.row (Ad w3.heap.size 0) 1 1 [I (o.base+pg+(n:Int)),.string D,.slice af F.length cf] rfl rfl (GJ HN3.o) (by intro u hu;simp at hu;rcases hu with rfl | rfl | rfl <;> rfl) (by decide) (by unfold maxLen;omega) (by omega) (by simp;omega) (w3.heap.size+1) (by simp) ?_;intro gg am9 w4 aja hgrow ahI avC;have agy:=aB aja;have MH:=aB hgrow;have HAT:=aB ahI;clear aja hgrow ahI))
           have amS:u4.ownBlock=some gg∨gg=(w3.alloc (.cells #[I (o.base+pg+(n:Int)),.string D,.slice af F.length cf] 145)).heap.size:=by rw[fF];exact HAT.o
           have HF4:=aB ((uj.b9 Cu.o u4.ownBlock).trans (uj.ahl MH.o MH.o.size amS));go_roundw
           case rel=>exact⟨n+1,hs2++[⟨o.base+pg+(n:Int),D,F,af,cf⟩],by omega,by go_num,by rw[HNP.o,ZI.o,AE,HM3.o,vM];rfl,by rw[fK];simp;omega,(A3.more (x:=⟨o.base+pg+(n:Int),D,F,af,cf⟩) HR4.o.fix ar1.o agy.o MH.o MH.o.size amS),((HBi.o.trans (Cu.o.mono HBi.o.size)).grown MH.o (by simp;omega) (fun q hq=>by have:=(Wy.o q hq).1;omega)),HFi.o.trans HF4.o,HFs.o.trans HF4.o⟩
           case measure=>simp[intOf];omega
         · obtain rfl:n=P:=by omega
           clear L1 PX;go_wp2;go_roundw
           case rel=>exact⟨k+1,hs2,by omega,by go_num,by rw[wS.o,HM3.o,vM],by omega,Uv.o,HBi.o,HFi.o⟩
           case measure=>simp[intOf];omega
      · obtain rfl:k=o.i.jI.length:=by omega
        clear hmE hrs hb L1;go_wp2;go_roundw
        case rel=>exact⟨a+1,_,hs',by omega,by go_num,arF.o,Jv.o,by omega,Cr.o,HBm.o⟩
        case measure=>simp[intOf];omega
  · obtain rfl:a=l.length:=by omega
    have HX:Hid (R=some E):=by rw[HR.o];omega
    obtain⟨ah,ch,hv,hh,hc⟩:=ZJ.o.has;subst hv;have HHH:=aB hh;clear hE hmE hrs hb hh;go_wp2
    go_ret2
    show Kh R w _ _;rw[HX.o];exact⟨zJ.o,hs,ah,ch,HME.o,rfl,HHH.o,hc⟩
open Go.RowKit Go.WideMaps Go.Maps
theorem Vq (p:iV) (libs:List iV) (ao:Option Addr) (cap:Nat) (w:World) (hp:qc w p.a p.i) (h:DG w ao libs) (hfp:J6 p.i) (hf:adb libs)
  (JJ:∀k,k<(p::libs).length->∀V,Below w.heap.size w V->Calls Tryz.prog 109 #[.agg (jJ (cH (p::libs) k).a (cH (p::libs) k).i)] V fun e w'=>e=.returned (I (mz (cH (p::libs) k).i))/\Below V.heap.size V w')
  (hga:∀m D V,ajs (p::libs) m D V->Calls Tryz.prog 64 #[A5 (cH (p::libs) 0),.map (some m)] V (Pz (p::libs) (Mo (p::libs) (p::libs).length 0 [0]) V))
  (hpx:∀ix ao cap k V,k<(eX (p::libs) 1 ix).length->Calls Tryz.prog 112 #[.agg (o5 (dR (eX (p::libs) 1 ix) k)),.slice ao (eX (p::libs) 1 ix).length cap] V (CS (vR (eX (p::libs) 1 ix) (dR (eX (p::libs) 1 ix) k)) V)) :
  Calls Tryz.prog 22 #[A5 p,.slice ao libs.length cap] w (ac9 (p::libs) w):=by
 have hsl:libs.length<=140737488351232:=hf.1;have anT:=aB JJ;have anK:=aB hga;have anr:=aB hpx;have HL:=aB h;have HIM:Hid (∀V,Below w.heap.size w V->∀k,k<(p::libs).length->qc V (cH (p::libs) k).a (cH (p::libs) k).i):=fun V hb k hk=>by
  cases k with
  | zero=>exact hp.below hb
  | succ k =>
   have hk':k<libs.length:=by grind
   obtain⟨b,off,_,_,hl⟩:=h (by omega);exact(hl k hk').2.below hb
 have E7:Hid (∀k,k<(p::libs).length->J6 (cH (p::libs) k).i):=fun k hk=>by
  cases k with
  | zero=>exact hfp
  | succ k=>exact hf.2 k (by grind)
 clear hp h hfp hf JJ hga hpx;have HBB:=aB (((aK w.heap.size w).alloc (aI _) (.cells (jJ p.a p.i) 56)).alloc (by simp) (.cells #[Nl,Nl,I 0] 25));have BM:=aB (br (bE w (jJ p.a p.i) 56) (.cells #[Nl,Nl,I 0] 25));have BR0:=bE (w.alloc (.cells (jJ p.a p.i) 56)) #[Nl,Nl,I 0] 25;rw[fF] at BR0;have BR:=aB BR0;clear BR0;unfold A5;go_enter Tryz.func22,Tryz.ntmps22;by_cases h6:6<libs.length
 · have HE:Hid (lZ (p::libs)=2):=by
    show _=_
    grind [lZ]
   clear BM BR;simp only[jJ] at HBB ⊢;go_wp2;exact bO (v:=.tuple #[.agg #[Nl,Nl,I 0],I 2]) (by simp[results,Tryz.results22,go_sem]) rfl ⟨HBB.o,by rw[HE.o];simp⟩
 · have h7:(p::libs).length<=7:=by grind
   have ak4:Hid ((((w.alloc (.cells (jJ p.a p.i) 56)).alloc (.cells #[Nl,Nl,I 0] 25)).alloc (.cells (jJ p.a p.i) 56)).ownsRow (w.heap.size+2) 56 6 (.slice (some (Ad (w.heap.size+2) 0)) 1 1) 1 (qm p)):=by
    have h:=World.ownsRow_lit (base:=w.heap.size+2) (e:=56) (size:=6) ((w.alloc (.cells (jJ p.a p.i) 56)).alloc (.cells #[Nl,Nl,I 0] 25)) (jJ p.a p.i) 1 (by simp) (by decide) rfl;have e:((w.alloc (.cells (jJ p.a p.i) 56)).alloc (.cells #[Nl,Nl,I 0] 25)).heap.size=w.heap.size+2:=by simp
    rw[e] at h;exact h
   have mO:=aB (HBB.o.alloc (by simp;omega) (.cells (jJ p.a p.i) 56));have BM3:=aB (br BM.o (.cells (jJ p.a p.i) 56));have JG:=aB (br BR.o (.cells (jJ p.a p.i) 56));clear BM BR HBB;simp only[jJ] at ak4 mO BM3 JG ⊢;go_wp2_with (at_builtin;refine E5 rfl _ _ rfl (w.heap.size+2) p (w.heap.size+2) (by rfl) ak4.o ao cap libs rfl (HL.o.below mO.o) (by omega) (by simp) ?_;intro gg am9 w1 hown hgrow hlt;have cN:=aB (mO.o.grown hgrow (by simp;omega) (fun q hq=>by grind));have BM1:=aB (Hr BM3.o hgrow (by simp));have CK:=aB (Hr JG.o hgrow (by simp));have HI1:=aB (adS (l:=p::libs) hown hlt (HIM.o _ cN.o));clear hown hgrow hlt)
   obtain⟨all,hall⟩:=ex (p::libs);have HLI:Hid (cH all 0=p):=by rw[hall];rfl
   have hlen:libs.length+1=all.length:=by grind
   rw[<- hall] at HI1 HIM E7 h7 anT anK anr;rw[<- hall,hlen];clear ak4 mO BM3 JG HL;have asj:=aB hall;clear hall;refine(Qj all _ _ _ HI1.o ⟨by grind [cB],E7.o⟩ (fun k hk V hV=>anT.o k hk V (cN.o.trans (hV.mono cN.o.size)))).mono ?_;rintro e w2 ⟨hb,hout⟩;have gQ:=aB (cN.o.trans (hb.mono cN.o.size));have BM2:=aB (aO BM1.o hb (aJ BM1.o));have JM:=aB (aO CK.o hb (aJ CK.o));clear hb BM1 CK cN HI1;by_cases hby:oH all=0
   · rw[aC hby] at hout;obtain⟨m,D,rfl,hmap,hnm⟩:=hout;obtain⟨JJ,Yh⟩:=SH hby;have HGI:Hid (ajs all m D w2):=⟨by omega,h7,JJ,E7.o,Yh,HIM.o _ gQ.o,hmap,hnm⟩;have E9:=aB JJ;clear hmap hnm Yh JJ;have m0:=au BM2.o 0 rfl;have m1:=au BM2.o 1 rfl;have m2:=au BM2.o 2 rfl;have m3:=au BM2.o 3 rfl;have m4:=au BM2.o 4 rfl;have m5:=au BM2.o 5 rfl;have HBY:=aB hby;clear hby;go_wp2_with fail
     have ET:=aB (anK.o m D w2 HGI.o);rw[HLI.o] at ET;refine Calls.mono (P:=Tryz.prog) ET.o ?_;rintro e w3 ⟨hb,hout⟩;have mO:=aB (gQ.o.trans (hb.mono gQ.o.size));have BM3:=aB (aO BM2.o hb (aJ BM2.o));have JG:=aB (aO JM.o hb (aJ JM.o));clear hb BM2 JM ET m0 m1 m2 m3 m4 m5;have r0:=au JG.o 0 rfl;have r1:=au JG.o 1 rfl;have r2:=au JG.o 2 rfl;have rf:=aR JG.o;have rl:=aJ JG.o;cases eg:Mo all all.length 0 [0] with
     | none =>
      rw[eg] at hout;obtain rfl:=hout;have HE:Hid (lZ all=6):=by
       grind [lZ,Hid.o]
      clear eg;go_wp2;exact bO (v:=.tuple #[.agg #[Nl,Nl,I 0],I 6]) (by simp[results,Tryz.results22,go_sem,r0,r1,r2]) rfl ⟨((mO.o.setCell (by simp) _).setCell (by simp) _).setCell (by simp) _,by grind [Hid.o]⟩
     | some ix =>
      rw[eg] at hout;obtain⟨hok,ao2,cap2,rfl,hO⟩:=hout;have hpos:=hok.pos;have hle:=hok.le;have HLE:Hid (xS (dR (eX all 1 ix) (ix.length-1))=jL all 1 ix):=Ol all ix 1 hpos;have HOI:Hid (Qo (eX all 1 ix) ao2 w3):=by
       refine⟨hO,by grind [kE],fun k hk=>?_,fun k hk=>?_,YM E9.o h7 hok⟩
       · grind [kE,uv,Hid.o,Hh.lt]
       grind [kE,uv,Hid.o,Hh.lt]
      have hxl:ix.length=(eX all 1 ix).length:=(kE all ix 1).symm;have agK:Hid (lZ all=if 256<jL all 1 ix then 3 else match sN (eX all 1 ix) with
        | none=>7
        | some _=>0):=by
       grind [lZ,Hid.o]
      have HEG:=aB eg;obtain⟨EN,hEN⟩:=ex (jL all 1 ix);rw[<- hEN] at HLE agK;have ans:=aB (anr.o ix);obtain⟨TY,aj8⟩:=ex (eX all 1 ix);rw[<- aj8] at HOI agK HLE hO hxl ans;have HOB:=aB aj8;rw[hxl] at HLE hpos hle;rw[hxl];clear hEN aj8 eg hok hxl HGI HBY;obtain⟨b,off,afE,hbl,eY⟩:=hO hpos;subst afE;obtain⟨k1,hk1⟩:=ex (TY.length-1);have afw:k1<TY.length:=by omega
      rw[<- hk1] at HLE;obtain⟨⟨c0,c1,c2,c3,c4,c5,c6⟩,him⟩:=eY k1 afw;have Az:=aB (fun V hb=>abc (dR TY k1) V (him.below hb) (HOI.o.chk k1 afw) (by have:=HOI.o.base k1 afw;omega) (by have:=HOI.o.base k1 afw;omega));obtain⟨o,ho⟩:=ex (dR TY k1);rw[<- ho] at c0 c1 c2 c3 c4 c5 c6 Az HLE;simp only[o5] at Az;rw[HLE.o] at Az;have hwr:IntKind.i64.wrap ((TY.length:Int)-1)=(k1:Int):=by grind [IntWalk.i64_in]
      clear ho eY hO him HLE hk1 hlen HIM E7;by_cases awn:256<EN
      · have HE:Hid (lZ all=3):=by
         grind
        clear agK;go_wp2_with (go_at_call 65;refine(Az.o _ (aK _ _)).mono ?_;rintro e w4 ⟨rfl,hb⟩;have tC:=aB (mO.o.trans (hb.mono mO.o.size));have BR4:=aB (aO JG.o hb (aJ JG.o));have s0:=au BR4.o 0 rfl;have s1:=au BR4.o 1 rfl;have s2:=au BR4.o 2 rfl;have sf:=aR BR4.o;clear hb)
        exact bO (v:=.tuple #[.agg #[Nl,Nl,I 0],I 3]) (by simp[results,Tryz.results22,go_sem,s0,s1,s2]) rfl ⟨((tC.o.setCell (by simp) _).setCell (by simp) _).setCell (by simp) _,by grind [Hid.o]⟩
      · have HSH:Hid (∀V,Qo TY (some (Ad b off)) V->Calls Tryz.prog 66 #[.slice (some (Ad b off)) TY.length cap2] V (Kh (sN TY) V)):=fun V hV=>Mj TY _ cap2 V hV (by omega) (fun k hk V' hV'=>ans.o _ cap2 k V' hk)
        cases es:sN TY with
        | none =>
         have HE:Hid (lZ all=7):=by
          grind
         rw[es] at HSH;clear agK es;go_wp2_with (first
          | (go_at_call 65;refine(Az.o _ (aK _ _)).mono ?_;rintro e w4 ⟨rfl,hb⟩;have tC:=aB (mO.o.trans (hb.mono mO.o.size));have BR4:=aB (aO JG.o hb (aJ JG.o));have agz:=aB (HOI.o.below hb);clear hb)
          | (go_at_call 66;refine(HSH.o _ agz.o).mono ?_;rintro e w5 ⟨hb,rfl⟩;have XV:=aB (tC.o.trans (hb.mono tC.o.size));have BR5:=aB (aO BR4.o hb (aJ BR4.o));have s0:=au BR5.o 0 rfl;have s1:=au BR5.o 1 rfl;have s2:=au BR5.o 2 rfl;have sf:=aR BR5.o;clear hb))
         exact bO (v:=.tuple #[.agg #[Nl,Nl,I 0],I 7]) (by simp[results,Tryz.results22,go_sem,s0,s1,s2]) rfl ⟨((XV.o.setCell (by simp) _).setCell (by simp) _).setCell (by simp) _,by grind [Hid.o]⟩
        | some E =>
         have HE:Hid (lZ all=0):=by
          grind
         have HES:=aB es;rw[es] at HSH;clear agK es;go_wp2_with (first
          | (go_at_call 65;refine(Az.o _ (aK _ _)).mono ?_;rintro e w4 ⟨rfl,hb⟩;have tC:=aB (mO.o.trans (hb.mono mO.o.size));have BR4:=aB (aO JG.o hb (aJ JG.o));have BM4:=aB (aO BM3.o hb (aJ BM3.o));have agz:=aB (HOI.o.below hb);clear hb)
          | (go_at_call 66;refine(HSH.o _ agz.o).mono ?_;rintro e w5 ⟨hb,hs,ah,ch,hme,rfl,hhh,hcc⟩;have XV:=aB (tC.o.trans (hb.mono tC.o.size));have BR5:=aB (aO BR4.o hb (aJ BR4.o));have BM5:=aB (aO BM4.o hb (aJ BM4.o));have ak5:=aB (agz.o.below hb);have HME:=aB hme;have HHH:=aB hhh;clear hb hme hhh))
         clear HSH Az HOI agz JG BR4 BM3 BM4 mO r0 r1 r2 rf rl c0 c1 c2 c3 c4 c5 c6 hwr hbl afw;obtain⟨b5,apB,hbe,Yk,ajb⟩:=ak5.o.has hpos;obtain⟨⟨d0,d1,d2,d3,d4,d5,d6⟩,dim⟩:=ajb 0 hpos;have akr:b=b5:=by grind
         have amO:off=apB:=by grind
         rw[<- akr,<- amO] at d0 d1 d2 d3 d4 d5 d6;rw[<- akr] at Yk;simp only[Nat.zero_mul,kW] at d0 d1 d2 d3 d4 d5 d6;have av6:=ak5.o.base 0 hpos;have hen:0<=p.i.entry/\p.i.entry<4080:=by
          have h:=Oo (E9.o 0 (by omega))
          grind [Hid.o]
         have HEA:Hid ((cH all 0).i.entry=p.i.entry):=by rw[HLI.o];rfl
         have HAR:Hid (∀V,Below w5.heap.size w5 V->Calls Tryz.prog 67 #[.slice (some (Ad b off)) TY.length cap2] V fun e w'=>∃r,e=.returned r/\eu V.heap.size w' r (rP TY)/\Below V.heap.size V w'):=fun V hb=>Qk TY _ cap2 V (ak5.o.below hb) (by omega)
         have HAD:=aB (fun V=>Qn (dR TY 0) p.i.entry V (by omega) (by omega) hen.1 (by omega));obtain⟨o0,ho0⟩:=ex (dR TY 0);have HO0:=aB ho0;rw[<- ho0] at d0 d1 d2 d3 d4 d5 d6 HAD;simp only[o5] at HAD;have hne:b≠w.heap.size+1:=fun e=>by
          rw[e] at d6;have h:=BR5.o
          grind [World.cell?]
         have HS:Hid (∀V,Below w5.heap.size w5 V->V.cell? (Ad b off)=some (.string o0.i.name)/\V.cell? (Ad b (off+1))=some (.slice o0.a.an o0.i.needs.length o0.a.cn)/\V.cell? (Ad b (off+2))=some (.slice o0.a.ag o0.i.jI.length o0.a.cg)/\V.cell? (Ad b (off+3))=some (.slice o0.a.ay o0.i.syms.length o0.a.cy)/\V.cell? (Ad b (off+4))=some (.slice o0.a.ar o0.i.pV.length o0.a.cr)/\V.cell? (Ad b (off+5))=some (I o0.i.entry)/\V.cell? (Ad b (off+6))=some (I o0.base)/\V.cell? (Ad w.heap.size 5)=some (I p.i.entry)):=fun V hb=>⟨(cQ hb Yk).trans d0,(cQ hb Yk).trans d1,(cQ hb Yk).trans d2,(cQ hb Yk).trans d3,(cQ hb Yk).trans d4,(cQ hb Yk).trans d5,(cQ hb Yk).trans d6,au (aO BM5.o hb (aJ BM5.o)) 5 rfl⟩
         obtain⟨AD,hAD⟩:=ex (yn o0 p.i.entry);rw[<- hAD] at HAD;have axR:=aB hAD;clear ho0 hAD d0 d1 d2 d3 d4 d5 d6 dim ajb hbe akr amO;have tV:=aB (aK w5.heap.size w5).drew;have ow:=aB (HS.o _ tV.o)
         go_region_held3 (fun V=>V.cell? (Ad b off)=some (.string o0.i.name)/\V.cell? (Ad b (off+1))=some (.slice o0.a.an o0.i.needs.length o0.a.cn)/\V.cell? (Ad b (off+2))=some (.slice o0.a.ag o0.i.jI.length o0.a.cg)/\V.cell? (Ad b (off+3))=some (.slice o0.a.ay o0.i.syms.length o0.a.cy)/\V.cell? (Ad b (off+4))=some (.slice o0.a.ar o0.i.pV.length o0.a.cr)/\V.cell? (Ad b (off+5))=some (I o0.i.entry)/\V.cell? (Ad b (off+6))=some (I o0.base)/\V.cell? (Ad w.heap.size 5)=some (I p.i.entry)) (first | exact HS7.o | exact Wx.o | exact ow.o | grind [Hid.o])
          (first
           | (go_at_call 67;refine(HAR.o _ tV.o).mono ?_;rintro e w6 ⟨v8,rfl,hrw,hb⟩;obtain⟨ar,cr,hrv,hrg⟩:=Dz hrw;subst hrv;have HRW:=aB hrw;have HK6:=aB (tV.o.trans (hb.mono tV.o.size));have Wx:=aB (HS.o _ HK6.o);clear hb hrw hrg)
           | (go_at_call 68;refine(HAD.o _).mono ?_;rintro e w7 ⟨rfl,hb⟩;have HK7:=aB (HK6.o.trans (hb.mono HK6.o.size));have HS7:=aB (HS.o _ HK7.o);have ary:=aB (zg HRW.o hb);have BR7:=aB (aO BR5.o HK7.o (aJ BR5.o));have s0:=au BR7.o 0 rfl;have s1:=au BR7.o 1 rfl;have s2:=au BR7.o 2 rfl;have sf:=aR BR7.o;have Tt:Hid (∀u0 u1 u2,(fun V:World=>V.cell? (Ad b off)=some (.string o0.i.name)/\V.cell? (Ad b (off+1))=some (.slice o0.a.an o0.i.needs.length o0.a.cn)/\V.cell? (Ad b (off+2))=some (.slice o0.a.ag o0.i.jI.length o0.a.cg)/\V.cell? (Ad b (off+3))=some (.slice o0.a.ay o0.i.syms.length o0.a.cy)/\V.cell? (Ad b (off+4))=some (.slice o0.a.ar o0.i.pV.length o0.a.cr)/\V.cell? (Ad b (off+5))=some (I o0.i.entry)/\V.cell? (Ad b (off+6))=some (I o0.base)/\V.cell? (Ad w.heap.size 5)=some (I p.i.entry)) (((w7.setCell (Ad (w.heap.size+1) 0) u0).setCell (Ad (w.heap.size+1) 1) u1).setCell (Ad (w.heap.size+1) 2) u2)):=(fun u0 u1 u2=>by grind [tM,Hid.o]);clear hb))
         have arT:=aB (Vr BR7.o (HHH.o.below HK7.o) (.slice ar (rP TY).length cr) (.slice ah hs.length ch) (I AD));have anv:=aB (YB (rb:=w.heap.size+1) ary.o (fL (aJ BR5.o) tV.o.size) (.slice ar (rP TY).length cr) (.slice ah hs.length ch) (I AD));have HB7:=aB ((((XV.o.trans (HK7.o.mono XV.o.size)).setCell (p:=(Ad (w.heap.size+1) 0)) (by simp) (.slice ar (rP TY).length cr)).setCell (p:=(Ad (w.heap.size+1) 1)) (by simp) (.slice ah hs.length ch)).setCell (p:=(Ad (w.heap.size+1) 2)) (by simp) (I AD));go_wp2;refine bO (v:=.tuple #[.agg #[.slice ar (rP TY).length cr,.slice ah hs.length ch,I AD],I 0]) (by simp[results,Tryz.results22,go_sem,s0,s1,s2]) rfl ⟨HB7.o,?_⟩;rw[<- asj.o,HE.o,aC rfl];refine⟨ix,E,.slice ar (rP TY).length cr,hs,ah,ch,HEG.o,by grind [Hid.o],HME.o,?_,?_,arT.o,hcc⟩
         · grind [Hid.o]
         · rw[<- HOB.o];exact anv.o.mono (gY XV.o.size tV.o.size)
   · rw[aA hby] at hout;subst hout;have HE:Hid (lZ all=oH all):=by
      show _=_
      grind [lZ]
     obtain⟨er,her⟩:=ex (oH all);rw[<- her] at HE hby;rw[<- her];have hbz:(er==0)=false:=by grind
     have r0:=au JM.o 0 rfl;have r1:=au JM.o 1 rfl;have r2:=au JM.o 2 rfl;have rf:=aR JM.o;clear her;go_wp2;exact bO (v:=.tuple #[.agg #[Nl,Nl,I 0],I er]) (by simp[results,Tryz.results22,go_sem,r0,r1,r2]) rfl ⟨((gQ.o.setCell (by simp) _).setCell (by simp) _).setCell (by simp) _,by grind [Hid.o]⟩
open Go.RowKit
theorem YA (l:List km) (ao:Option Addr) (cap:Nat) (o:km) (w:World) (hr:o.i.pV=[]):Calls Tryz.prog 112 #[.agg (o5 o),.slice ao l.length cap] w (CS (vR l o) w):=by
 have e:vR l o=some []:=by unfold vR;rw[hr];rfl
 rw[e];unfold o5;rw[hr];obtain⟨⟨nm,ns,gs,ys,rs,en⟩,⟨an,cn,ag,cg,ay,cy,ar,cr⟩,bs⟩:=o;simp only at hr ⊢;clear hr e;obtain⟨n1,h1⟩:∃n,n=ns.length:=⟨_,rfl⟩;obtain⟨n2,h2⟩:∃n,n=gs.length:=⟨_,rfl⟩;obtain⟨n3,h3⟩:∃n,n=ys.length:=⟨_,rfl⟩;rw[<- h1,<- h2,<- h3];clear h1 h2 h3;have HB:=aB ((aK w.heap.size w).alloc (aI _) (.cells #[.string nm,.slice an n1 cn,.slice ag n2 cg,.slice ay n3 cy,.slice ar 0 cr,I en,I bs] 131));have dz:Hid (∀w',Below w.heap.size w w'->CS (some []) w (.returned (.tuple #[Nl,.bool true])) w'):=fun w' hb=>⟨hb,_,rfl,mE _ _ _ _⟩
 obtain⟨P,hP⟩:=ex (CS (some []) w);rw[<- hP] at dz ⊢;clear hP;simp only[O5];go_enter Tryz.func112,Tryz.ntmps112;go_wp2;go_loopw [6,17] (fun sv iv wr=>sv=Nl/\iv=I 0/\Below w.heap.size w wr) (fun _ _ _=>0)
 case atStart=>grind [Hid.o]
 case round =>
  obtain⟨rfl,rfl,hb⟩:=hrel;have gQ:=aB hb;clear hb;go_wp2;exact dz.o _ gQ.o
theorem abb (p:iV) (m:Nat) (w:World) (hn:p.i.needs=[]) (him:qc w p.a p.i):Calls Tryz.prog 64 #[A5 p,.map (some m)] w (Pz [p] (some [0]) w):=by
 have dz:Hid (∀(w':World) g,w'.heap[g]?=some (.cells #[.string p.i.name,.slice p.a.an p.i.needs.length p.a.cn,.slice p.a.ag p.i.jI.length p.a.cg,.slice p.a.ay p.i.syms.length p.a.cy,.slice p.a.ar p.i.pV.length p.a.cr,I p.i.entry,I 1] 131 (0,0))->Below w.heap.size w w'->Pz [p] (some [0]) w (.returned (.tuple #[.slice (some (Ad g 0)) 1 1,.bool true])) w'):=fun w' g h1 h2=>by
  refine⟨h2,⟨by decide,by decide,fun j hj=>?_⟩,some (Ad g 0),1,rfl,fun _=>⟨g,0,rfl,aJ h1,fun k hk=>?_⟩⟩
  · grind
  · obtain rfl:k=0:=by have:k<1:=hk;omega
    exact⟨⟨au h1 0 rfl,au h1 1 rfl,au h1 2 rfl,au h1 3 rfl,au h1 4 rfl,au h1 5 rfl,au h1 6 rfl⟩,him.below h2⟩
 obtain⟨P,hP⟩:=ex (Pz [p] (some [0]) w);rw[<- hP] at dz ⊢;clear hP him;unfold A5 jJ;rw[hn] at dz ⊢;obtain⟨⟨nm,ns,gs,ys,rs,en⟩,⟨an,cn,ag,cg,ay,cy,ar,cr⟩⟩:=p;simp only at dz ⊢;clear hn;obtain⟨n2,h2⟩:∃n,n=gs.length:=⟨_,rfl⟩;obtain⟨n3,h3⟩:∃n,n=ys.length:=⟨_,rfl⟩;obtain⟨n4,h4⟩:∃n,n=rs.length:=⟨_,rfl⟩;rw[<- h2,<- h3,<- h4] at dz ⊢;simp only[O5] at dz ⊢;clear h2 h3 h4;have HB:=aB (((aK w.heap.size w).alloc (aI _) (.cells #[.string nm,.slice an 0 cn,.slice ag n2 cg,.slice ay n3 cy,.slice ar n4 cr,I en] 56)).alloc (by simp) (.cells #[.string nm,.slice an 0 cn,.slice ag n2 cg,.slice ay n3 cy,.slice ar n4 cr,I en,I 1] 131));have HX:Hid (((w.alloc (.cells #[.string nm,.slice an 0 cn,.slice ag n2 cg,.slice ay n3 cy,.slice ar n4 cr,I en] 56)).alloc (.cells #[.string nm,.slice an 0 cn,.slice ag n2 cg,.slice ay n3 cy,.slice ar n4 cr,I en,I 1] 131)).heap[w.heap.size+1]?=some (.cells #[.string nm,.slice an 0 cn,.slice ag n2 cg,.slice ay n3 cy,.slice ar n4 cr,I en,I 1] 131 (0,0))):=by
  have:=bE (w.alloc (.cells #[.string nm,.slice an 0 cn,.slice ag n2 cg,.slice ay n3 cy,.slice ar n4 cr,I en] 56)) #[.string nm,.slice an 0 cn,.slice ag n2 cg,.slice ay n3 cy,.slice ar n4 cr,I en,I 1] 131;rw[fF] at this;exact this
 go_enter Tryz.func64,Tryz.ntmps64;go_wp2;obtain⟨g,hg⟩:=ex (w.heap.size+1);rw[<- hg] at HX ⊢;clear hg;go_loopw [6,7] (fun sv iv wr=>sv=.slice (some (Ad g 0)) 1 1/\(∃k:Nat,k<=1/\iv=I (k:Int))/\wr.heap[g]?=some (.cells #[.string nm,.slice an 0 cn,.slice ag n2 cg,.slice ay n3 cy,.slice ar n4 cr,I en,I 1] 131 (0,0))/\Below w.heap.size w wr) (fun _ iv _=>1-(intOf iv).toNat)
 case atStart=>grind [Hid.o]
 case round =>
  obtain⟨rfl,⟨k,hk,rfl⟩,hx,hb⟩:=hrel;have HX2:=aB hx;have gQ:=aB hb;have x1:wr.cell? (Ad g 1)=some (.slice an 0 cn):=au hx 1 rfl;clear hx hb HX HB;by_cases h0:k=0
  · subst h0;go_wp2;clear x1;go_loopw [6,28] (fun sv iv wi=>sv=.slice (some (Ad g 0)) 1 1/\iv=I 0/\wi.heap[g]?=some (.cells #[.string nm,.slice an 0 cn,.slice ag n2 cg,.slice ay n3 cy,.slice ar n4 cr,I en,I 1] 131 (0,0))/\Below w.heap.size w wi) (fun _ _ _=>0)
    case atStart=>exact⟨rfl,rfl,HX2.o,gQ.o⟩
    case round =>
     obtain⟨rfl,rfl,hx,hb⟩:=hrel;have HX3:=aB hx;have mO:=aB hb;clear hx hb HX2 gQ;go_wp2;go_roundw
     case rel=>exact⟨rfl,⟨1,by omega,by first | rfl | go_num⟩,HX3.o,mO.o⟩
     case measure=>simp[intOf]
  · obtain rfl:k=1:=by omega
    go_wp2;exact dz.o _ _ HX2.o gQ.o
open Go.RowKit
def zE:Array Value:=#[I 16,I 0,I 0,I 0,I 5,I 11,I 1,I 0,I 0,I 40,I 10,I 0,I 1,I 8,I 0,I 9,I 0,I 1,I 1,I 0,I 16,I 0,I 0,I 0,I 1,I 16,I 0,I 0,I 0,I 6]
theorem aan {V:World} {rb:Nat} (h:V.heap[rb]?=some (.cells zE 108 (0,0))) (k:Nat) (hk:k<6) :
  V.cell? (Ad rb (k*5))=some (I (Am.getD k GC).op)/\V.cell? (Ad rb (k*5+1))=some (I (Am.getD k GC).a)/\V.cell? (Ad rb (k*5+2))=some (I (Am.getD k GC).b)/\V.cell? (Ad rb (k*5+3))=some (I (Am.getD k GC).c)/\V.cell? (Ad rb (k*5+4))=some (I (Am.getD k GC).m):=by
 match k,hk with
 | 0,_=>exact⟨au h 0 rfl,au h 1 rfl,au h 2 rfl,au h 3 rfl,au h 4 rfl⟩
 | 1,_=>exact⟨au h 5 rfl,au h 6 rfl,au h 7 rfl,au h 8 rfl,au h 9 rfl⟩
 | 2,_=>exact⟨au h 10 rfl,au h 11 rfl,au h 12 rfl,au h 13 rfl,au h 14 rfl⟩
 | 3,_=>exact⟨au h 15 rfl,au h 16 rfl,au h 17 rfl,au h 18 rfl,au h 19 rfl⟩
 | 4,_=>exact⟨au h 20 rfl,au h 21 rfl,au h 22 rfl,au h 23 rfl,au h 24 rfl⟩
 | 5,_=>exact⟨au h 25 rfl,au h 26 rfl,au h 27 rfl,au h 28 rfl,au h 29 rfl⟩
 | k+6,h=>exact absurd h (by omega)
def Xq (w:World) (e:Ending) (w':World):Prop:=∃ar cr ah ch a1 a2 a3 a4 c1 c2 c3 c4,e=.returned (.agg #[.slice ar 1 cr,.slice ah 4 ch,I 16])/\fZ w' (.slice ar 1 cr) wI/\iT w' ah (pJ a1 a2 a3 a4 c1 c2 c3 c4)/\4<=ch/\Below w.heap.size w w'
theorem aeM {a:J7} {w w':World} {e:Ending} (h:ac9 [⟨kJ,a⟩] w e w'):∃ar cr ah ch a1 a2 a3 a4 c1 c2 c3 c4,e=.returned (.tuple #[.agg #[.slice ar 1 cr,.slice ah 4 ch,I 16],I 0])/\eu w.heap.size w' (.slice ar 1 cr) wI/\iT w' ah (pJ a1 a2 a3 a4 c1 c2 c3 c4)/\4<=ch/\Below w.heap.size w w':=by
 obtain⟨hb,h2⟩:=h;rw[aC (acD a)] at h2;obtain⟨ix,E,r,hs,ao,cap,h3,h4,h5,h6,h7,h8,h9⟩:=h2;rw[Rw] at h3;injection h3 with h3;subst h3;rw[acC] at h4 h6 h7;rw[TN] at h4;injection h4 with h4;subst h4;rw[Xp] at h7;rw[Xo] at h6;obtain⟨a1,a2,a3,a4,c1,c2,c3,c4,rfl⟩:=aeN h5;obtain⟨ar,cr,hr,_⟩:=Dz h7;subst hr;exact⟨ar,cr,ao,cap,a1,a2,a3,a4,c1,c2,c3,c4,h6,h7,h8,h9,hb⟩
theorem aao {V U:World} {g:Nat} {x y:Value} {n:Int} {ah:Option Addr} {a1 a2 a3 a4:Option Addr} {c1 c2 c3 c4:Nat} (h:iT V ah (pJ a1 a2 a3 a4 c1 c2 c3 c4)) (hg:V.heap[g]?=some (.cells #[x,y,I n] 25 (0,0))) (hx:∀k i,x≠.int k i) (hy:∀k i,y≠.int k i) (hk:∀b j v,b≠g->V.cell? (Ad b j)=some v->U.cell? (Ad b j)=some v) (hs:V.heap.size<=U.heap.size):iT U ah (pJ a1 a2 a3 a4 c1 c2 c3 c4):=fun hl=>by
 obtain⟨b,off,rfl,hb,eY⟩:=h hl;have hne:b≠g:=fun e=>by
  subst e;obtain⟨d0,d1,_,_⟩:=eY 0 (by unfold pJ;simp);rw[Nat.zero_mul,kW] at d0 d1
  match off,d0,d1 with
  | 0,d0,_ =>
   rw[au hg 0 (v:=x) rfl] at d0;injection d0 with d0;exact hx _ _ d0
  | 1,d0,_ =>
   rw[au hg 1 (v:=y) rfl] at d0;injection d0 with d0;exact hy _ _ d0
  | 2,_,d1 =>
   have:V.cell? (Ad b 3)=none:=by simp[World.cell?,hg]
   rw[this] at d1;cases d1
  | k+3,d0,_ =>
   have:V.cell? (Ad b (k+3))=none:=by simp[World.cell?,hg]
   rw[this] at d0;cases d0
 refine⟨b,off,rfl,by omega,fun i hi=>?_⟩;obtain⟨d0,d1,d2,_⟩:=eY i hi;refine⟨hk _ _ _ hne d0,hk _ _ _ hne d1,hk _ _ _ hne d2,fun h0=>?_⟩;exfalso
 match i,hi,h0 with
 | 0,_,h0=>exact ky _ h0
 | 1,_,h0=>exact ky _ h0
 | 2,_,h0=>exact ky _ h0
 | 3,_,h0=>exact ky _ h0
 | i+4,h,_=>exact absurd h (by unfold pJ;simp)
theorem Xn (w:World):Calls Tryz.prog 37 #[] w (Xq w):=by
 have dz:Hid (∀ar cr ah ch a1 a2 a3 a4 c1 c2 c3 c4 (w':World),fZ w' (.slice ar 1 cr) wI->iT w' ah (pJ a1 a2 a3 a4 c1 c2 c3 c4)->4<=ch->Below w.heap.size w w'->Xq w (.returned (.agg #[.slice ar 1 cr,.slice ah 4 ch,I 16])) w'):=fun ar cr ah ch a1 a2 a3 a4 c1 c2 c3 c4 w' h1 h2 h3 h4=>⟨ar,cr,ah,ch,a1,a2,a3,a4,c1,c2,c3,c4,rfl,h1,h2,h3,h4⟩
 obtain⟨P,hP⟩:=ex (Xq w);rw[<- hP] at dz ⊢;clear hP;have Eo:Hid (∀(i:ed) V,Calls Tryz.prog 84 #[.agg #[I i.op,I i.a,I i.b,I i.c,I i.m]] V fun e w'=>e=.returned (.string i.bytes)/\Below V.heap.size V w'):=fun i V=>Vi i V
 have HST:Hid (∀k,wH (k+1)=wH k++(Am.getD k GC).bytes):=fun k=>rfl
 have HSZ:=ai I3;have HLK:Hid (∀wb V,V.heap[wb]?=some (.cells #[I 0,I 4,.string Hq,.bool true,.bool true] 166 (0,0))->Calls Tryz.prog 22 #[.agg #[.string ⟨#[116]⟩,Nl,.slice (some (Ad wb 0)) 1 1,Nl,Nl,I 0],Nl] V fun e w'=>∃ar cr ah ch a1 a2 a3 a4 c1 c2 c3 c4,e=.returned (.tuple #[.agg #[.slice ar 1 cr,.slice ah 4 ch,I 16],I 0])/\eu V.heap.size w' (.slice ar 1 cr) wI/\iT w' ah (pJ a1 a2 a3 a4 c1 c2 c3 c4)/\4<=ch/\Below V.heap.size V w'):=fun wb V hV=>by
  have him:qc V ⟨none,0,some (Ad wb 0),1,none,0,none,0⟩ kJ:=⟨fun h=>absurd h (ky _),fun _=>⟨wb,0,rfl,aJ hV,fun i hi=>by
   obtain rfl:i=0:=by
    have:i<1:=hi;omega
   exact⟨au hV 0 rfl,au hV 1 rfl,au hV 2 rfl,au hV 3 rfl,au hV 4 rfl⟩⟩,fun h=>absurd h (ky _),fun h=>absurd h (ky _)⟩
  refine(Vq ⟨kJ,⟨none,0,some (Ad wb 0),1,none,0,none,0⟩⟩ [] none 0 V him (fun h=>absurd h (by simp)) Rx ⟨by unfold cB;decide,fun k hk=>absurd hk (by simp)⟩ (fun k hk U hU=>?_) (fun m D U hG=>?_) (fun ix ao cap k U hk=>?_)).mono fun e w' h=>aeM h
  · obtain rfl:k=0:=by
     have:k<1:=hk;omega
    refine(afM ⟨#[116]⟩ [⟨0,4,Hq,true,true⟩] 0 none (some (Ad wb 0)) none none 0 1 0 0 U (him.below hU) Rx (by kernel_rfl) (by kernel_rfl) (by kernel_rfl) (by kernel_rfl) (by kernel_rfl)).mono ?_;rintro e w' ⟨rfl,hb⟩;exact⟨by rw[show mz (cH [⟨kJ,⟨none,0,some (Ad wb 0),1,none,0,none,0⟩⟩] 0).i=0 by kernel_rfl],hb⟩
  · rw[Rw];exact abb _ m U rfl (hG.im 0 hG.pos)
  · refine YA _ ao cap _ U ?_;rw[kE] at hk;rw[(uv _ ix 1 k hk).1];cases ix.getD k 0 <;> rfl
 have HDD:Hid (wH 6=Hq):=Xm;obtain⟨D,hD⟩:=ex Hq;rw[<- hD] at HLK HDD;clear hD;have gK:=ai (((aK w.heap.size w).alloc (aI _) (.cells #[Nl,Nl,I 0] 25)).alloc (by simp) (.cells zE 108));have X0:=ai (br (bE w #[Nl,Nl,I 0] 25) (.cells zE 108));have R0:Hid (((w.alloc (.cells #[Nl,Nl,I 0] 25)).alloc (.cells zE 108)).heap[w.heap.size+1]?=some (.cells zE 108 (0,0))):=by
  have:=bE (w.alloc (.cells #[Nl,Nl,I 0] 25)) zE 108;rw[fF] at this;exact this
 go_enter Tryz.func37,Tryz.ntmps37;go_wp2;obtain⟨WA,lO⟩:=ex ((w.alloc (.cells #[Nl,Nl,I 0] 25)).alloc (.cells zE 108));have aks:=lO;unfold zE at aks;rw[<- aks];rw[<- lO] at gK X0 R0;clear lO aks;obtain⟨rb,Hz⟩:=ex (w.heap.size+1);rw[<- Hz] at R0 ⊢;have MD:=ai Hz;clear Hz;go_loopw [1,3] (fun sv iv wr=>∃k:Nat,k<=6/\iv=I (k:Int)/\sv=.string (wH k)/\wr.heap[rb]?=some (.cells zE 108 (0,0))/\wr.heap[w.heap.size]?=some (.cells #[Nl,Nl,I 0] 25 (0,0))/\Below w.heap.size w wr) (fun _ iv _=>6-(intOf iv).toNat)
 case atStart=>exact⟨0,by omega,rfl,rfl,R0.o,X0.o,gK.o⟩
 case round =>
  obtain⟨k,hk,rfl,rfl,hr,hx,hb⟩:=hrel;have HR:=ai hr;have HX:=ai hx;have HB:=ai hb;clear R0 X0 gK;by_cases hlt:k<6
  · obtain⟨c0,c1,c2,c3,c4⟩:=aan hr k hlt;have hs:=HSZ.o k;have HS:=ai (HST.o k);have hz:(Am.getD k GC).bytes.size=8:=Ia _;have HI2:=ai (Eo.o (Am.getD k GC));obtain⟨i,hi⟩:=ex (Am.getD k GC);rw[<- hi] at c0 c1 c2 c3 c4 HS hz HI2;obtain⟨Z,hZ⟩:=ex (wH k);obtain⟨Y,hY⟩:=ex i.bytes;rw[<- hZ] at hs HS ⊢;rw[<- hY] at hz HS HI2;have JI:(k:Int)<6:=by omega
    clear hi hZ hY hr hx hb;go_wp2_with (go_at_call 84;refine(HI2.o _).mono ?_;rintro e w1 ⟨rfl,hb1⟩;have cN:=ai (HB.o.trans (hb1.mono HB.o.size));have HR1:=ai (aO HR.o hb1 (aJ HR.o));have HX1:=ai (aO HX.o hb1 (aJ HX.o));clear hb1)
    go_roundw
    case rel=>exact⟨k+1,by omega,by go_num,by rw[HS.o],HR1.o,HX1.o,cN.o⟩
    case measure=>simp[intOf];omega
  · obtain rfl:k=6:=by omega
    rw[HDD.o];have avf:=aJ hx;clear hr hx hb HST HSZ Eo;go_wp2_with fail
    have HBS:=ai (HB.o.alloc HB.o.size (.cells #[I 0,I 4,.string D,.bool true,.bool true] 166));have HXS:=ai (br HX.o (.cells #[I 0,I 4,.string D,.bool true,.bool true] 166));have HLS:=ai (HLK.o wr.heap.size _ (bE wr #[I 0,I 4,.string D,.bool true,.bool true] 166))
    go_at_call 22
    refine HLS.o.mono ?_;rintro e w2 ⟨ar,cr,ah,ch,a1,a2,a3,a4,c1,c2,c3,c4,rfl,h1,h2,h3,h4⟩;have HO:=ai h1;have HH:=ai h2;have HX2:=ai (aO HXS.o h4 (aJ HXS.o));have gQ:=ai (HBS.o.trans (h4.mono HBS.o.size));have hcl:=h4.size;clear h1 h2 h4 HLS HLK HDD HXS;have HX3:=ai (br HX2.o (.cells #[.slice ar 1 cr,.slice ah 4 ch,I 16] 25));have y0:=au HX3.o 0 rfl;have y1:=au HX3.o 1 rfl;have y2:=au HX3.o 2 rfl;have yf:=aR HX3.o;have hwl:=aJ HX3.o;have vD:Hid (aD (fun b=>b=w.heap.size) w2 (w2.alloc (.cells #[.slice ar 1 cr,.slice ah 4 ch,I 16] 25))):=aD.alloc _ w2 _;have HKU:=ai (vD.o.trans (xB (D:=fun b=>b=w.heap.size) _ w.heap.size 0 1 2 (.slice ar 1 cr) (.slice ah 4 ch) (I 16) rfl) (fun _ _ g=>g));go_wp2;refine bO (v:=.agg #[.slice ar 1 cr,.slice ah 4 ch,I 16]) (by simp[results,Tryz.results37,go_sem,y0,y1,y2,hwl]) rfl (dz.o _ _ _ _ a1 a2 a3 a4 c1 c2 c3 c4 _ ?_ ?_ h3 ?_)
    · exact eu.has (HKU.o.row HO.o (fun b hb e=>by have:=(HO.o.lt b hb).1;simp at this;omega))
    · exact aao HH.o HX2.o (fun _ _ h=>nomatch h) (fun _ _ h=>nomatch h) (fun b j v hne hc=>HKU.o.cell hc hne) HKU.o.size
    · exact aD.below gQ.o HKU.o gQ.o.size (fun b hb=>by rw[hb];exact aI _)
end Go.Proofs.YtlgoihmkgaaemaaGreat
