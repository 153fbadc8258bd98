import Derived.Test.YtpgifpeohlllfaaGreatGR32
set_option maxHeartbeats 20000000
set_option linter.unusedVariables false
set_option maxRecDepth 100000
set_option linter.unusedSimpArgs false
namespace Go.Proofs.YtpgifpeohlllfaaGreat
open Go.RowKit
theorem Gt {lo mb:Nat} (k:aN) (S:dE) (w:World) (j:Nat) (p way:Int) (held:List Int) (ah:Option Addr) (ch:Nat) (h:bu lo mb 27 [] w S k) (hR:bc k) (hj:j<k.aj.length) (hp:dx k j p) (hl:held.length<=1) (hH:jD w S ah held) :
  Calls Tryz.prog 59 #[.pointer (some (Ad mb 0)),I (j:Int),I p,I way,.slice ah held.length ch] w (cT lo mb 27 [] w S (I ((cQ k j p way held).1:Int)) (cQ k j p way held).2):=by
 have hcc:=hR.c;have hB:=(mj hR hj hp way hl).1;have ZV:=sP hR hj hp (held:=held) (by omega);have hl2:held.length<=2:=by omega
 have G:=ll hR hl2;obtain⟨pb,cP,AP⟩:=h.toKr.sp (by omega);have c3:=h.c3;rw[AP.v] at c3;have Sw:(j:Int)<(k.aj.length:Int):=by omega
 obtain⟨oi,hoi⟩:=ex (bD (ak k.aj j).aU p);obtain⟨i0,ahk,hi0⟩:∃i0,(∀m,m<i0->(aH (ak k.aj j).aU m).page≠p)/\(i0=(ak k.aj j).aU.length/\oi=none∨(i0<(ak k.aj j).aU.length/\(aH (ak k.aj j).aU i0).page=p/\oi=some (aH (ak k.aj j).aU i0))):=by
  cases ho:bD (ak k.aj j).aU p with
  | none=>exact⟨_,I4 ho,.inl ⟨rfl,by rw[hoi,ho]⟩⟩
  | some x =>
   obtain⟨i,h1,h2,h3,h4⟩:=xV ho;exact⟨i,h4,.inr ⟨h1,h3,by rw[hoi,ho,h2]⟩⟩
 obtain⟨ax,nx,cx,ae,ce,L0,hre,har⟩:=I3 h (Wo hR hj) hj AP.v p i0 ahk (hi0.imp (fun z=>z.1) (fun z=>⟨z.1,z.2.1⟩));obtain⟨r0,YN⟩:=ex ((if i0<(ak k.aj j).aU.length then (i0:Int) else -1));rw[<- YN] at L0;have Z4:Hid (∀V,Below w.heap.size w V->Calls Tryz.prog 31 #[.slice ax nx cx,I p] V fun e w'=>e=.returned (.tuple #[.agg #[I (bh (ak k.aj j).bk p).1.page,I (bh (ak k.aj j).bk p).1.bC,I (bh (ak k.aj j).bk p).1.fI,.bool (jq k j p)],.bool (bh (ak k.aj j).bk p).2])/\Below V.heap.size V w'):=fun V hV=>yL _ _ p V (har.below hV) (hR.sp hj).bk
 obtain⟨g1,hg1⟩:∃g,g=(bh (ak k.aj j).bk p).1.page:=⟨_,rfl⟩;obtain⟨g2,hg2⟩:∃g,g=(bh (ak k.aj j).bk p).1.bC:=⟨_,rfl⟩;obtain⟨g3,hg3⟩:∃g,g=(bh (ak k.aj j).bk p).1.fI:=⟨_,rfl⟩;obtain⟨g4,hg4⟩:∃g,g=(bh (ak k.aj j).bk p).2:=⟨_,rfl⟩;obtain⟨zz,hzz⟩:∃z,z=jq k j p:=⟨_,rfl⟩;rw[<- hg1,<- hg2,<- hg3,<- hg4,<- hzz] at Z4;have hzs:zz=false->(cY k.aD p).isSome=true:=fun e=>(hR.sp hj).aD p hp (by rw[hzz] at e;exact e)
 have YF:Hid (∀V,Below w.heap.size w V->Calls Tryz.prog 107 #[.pointer (some (Ad mb 0)),.slice ah held.length ch] V (cT lo mb 27 [] V S (I ((bE k held).1:Int)) (bE k held).2)):=fun V hV=>LU k S V held ah ch (h.below hV) hR hl2 (hH.ch (bU.below hV))
 have UH:Hid (∀V S' (K:aN) (i:Nat),bu lo mb 27 [] V S' K->S'.vP=S.vP->K.aj=(bE k held).2.aj->Calls Tryz.prog 108 #[.pointer (some (Ad pb (j*3))),.agg #[I p,I 1,I (i:Int)]] V (cT lo mb 27 [] V S' (.tuple #[]) (df K j ⟨p,1,i⟩))):=fun V S' K i h1 h2 h3=>by
  have hjj:j<(bE k held).2.aj.length:=by rw[G.kept.np];exact hj
  exact LR K S' V j ⟨p,1,i⟩ h1 (by rw[h3];exact hjj) (h2.trans AP.v) (by rw[h3];have:=iZ G.right hjj;omega) (by rw[h3];exact(G.right.sp hjj).kP)
 obtain⟨KF,hKF⟩:=ex ((cQ k j p way held));obtain⟨KP,hKP⟩:=ex (cI k j p held);rw[<- hKP] at ZV;have cV:Hid (∀V S',bu lo mb 27 [] V S' KF.2->bU S w S' V->cT lo mb 27 [] w S (I (KF.1:Int)) KF.2 (.returned (I (KF.1:Int))) V):=fun V S' h1 h2=>⟨rfl,S',h1,h2⟩
 rw[<- hKF];obtain⟨P,hP⟩:=ex (cT lo mb 27 [] w S (I (KF.1:Int)) KF.2);rw[<- hP] at cV ⊢;have HK:=ai h;have HNE:Hid (∀(V:World),w.heap.size<=V.heap.size->∀g,V.heap.size<=g->S.lab g=.no):=fun V hV g hg=>h.toKr.new (by omega)
 have y1:=L0.y1;have ZJ:Hid (∀V,Below w.heap.size w V->V.cell? (Ad pb (j*3))=some (.bool (ak k.aj j).live)/\V.cell? (Ad pb (j*3+1))=some (.slice ax nx cx)/\V.cell? (Ad pb (j*3+2))=some (.slice ae (ak k.aj j).aU.length ce)):=fun V hV=>⟨(hV.cell (p:=(Ad pb (j*3))) L0.lt).trans L0.y0,(hV.cell (p:=(Ad pb (j*3+1))) L0.lt).trans L0.y1,(hV.cell (p:=(Ad pb (j*3+2))) L0.lt).trans L0.y2⟩
 have SI:=ai L0.call;obtain⟨lv,hlv⟩:=ex ((ak k.aj j).live);obtain⟨es,hes⟩:=ex ((ak k.aj j).aU);rw[<- hlv,<- hes] at ZJ SI;have af9:=ai hre;rw[<- hes] at af9 YN hi0;have HNP:Hid (j<KP.2.aj.length):=by rw[ZV.kept.np];exact hj
 have ahi:k.aj.length<=4:=by omega
 have zk:=ai YN;have HI0:=ai hi0;obtain⟨K1,Eg⟩:=ex ((bE k held).2);obtain⟨i1,hi1⟩:=ex ((bE k held).1);have Bd:bc K1:=by rw[Eg];exact G.right
 have ahv:i1<K1.frames.length:=by rw[Eg,hi1,G.kept.nf];exact G.lt
 have MV:j<K1.aj.length:=by rw[Eg,G.kept.np];exact hj
 have hz1:zz=false->(cY K1.aD p).isSome=true:=by rw[Eg,G.kept.aD];exact hzs
 have aeU:=Bd.c;rw[<- Eg,<- hi1] at YF;rw[<- Eg] at UH;have Vp:Hid (∀V S',bu lo mb 27 [] V S' K1->∃fb cF,Gu lo mb 27 [] V S' K1 i1 fb cF):=fun V S' hV=>H6 hV ahv
 have Z2:Hid (∀V S' fb cF,bu lo mb 27 [] V S' K1->bU S w S' V->S'.vF=.slice (some (Ad fb 0)) K1.frames.length cF->∃vS nS cS vL nL cL,LY mb V K1 p zz vS nS cS fb cF vL nL cL pb k.aj.length cP):=fun V S' fb cF h1 h2 h3=>T8 h1 Bd hz1 h3 (h2.eP.trans AP.v)
 have UI:Hid (oi=none->KP.2=df (ez K1 i1 (dY K1.aD p zz) false) j ⟨p,1,i1⟩):=fun e=>by
  have:=QS hR hj hl2 (by rw[<- hoi];exact e);rw[hKP,this,<- Eg,<- hi1,<- hzz]
 have HSW:Hid (∀e,oi=some e->e.kind≠1->e.kind=2/\KP.2=cK (df (ez K1 i1 (br K1.slots e.loc.toNat).data true) j ⟨p,1,i1⟩) e/\(∃el:Nat,e.loc=(el:Int)/\(el:Int)<(K1.slots.length:Int)/\∀V S',bu lo mb 27 [] V S' K1->bU S w S' V->(∃lv ax nx cx gb ne ce i,LZ V j p pb e lv ax nx cx gb ne ce i)/\∃lb cL,V.cell? (Ad mb 2)=some (.slice (some (Ad lb 0)) K1.slots.length cL)/\V.cell? (Ad lb (el*2))=some (.string (br K1.slots e.loc.toNat).data)) /\
   (∀V S',bu lo mb 27 [] V S' (df (ez K1 i1 (br K1.slots e.loc.toNat).data true) j ⟨p,1,i1⟩)->Calls Tryz.prog 81 #[.pointer (some (Ad mb 0)),.agg #[I e.page,I e.kind,I e.loc]] V (jN lo mb 27 [] V S' (.tuple #[]) KP.2))):=fun e he hk=>by
  obtain⟨e1,e2⟩:=QR hR hj hl2 (e:=e) (by rw[<- hoi];exact he) hk;rw[<- Eg] at e1;rw[<- Eg,<- hi1] at e2;have hb:=(ic Bd MV (lq e1)).resolve_left (fun y=>hk y.1);have hrf:=(oL Bd).2 e.loc.toNat (by omega);have ah9:KP.2=cK (df (ez K1 i1 (br K1.slots e.loc.toNat).data true) j ⟨p,1,i1⟩) e:=by rw[hKP,e2]
  refine⟨hb.1,ah9,⟨e.loc.toNat,by omega,by omega,fun V S' h1 h2=>⟨O8 h1 (Wo Bd MV) MV (h2.eP.trans AP.v) e1,?_⟩⟩,fun V S' h1=>?_⟩
  · obtain⟨lb,cL,AL⟩:=h1.toKr.sl (by omega);have c2:=h1.c2;rw[AL.v] at c2;exact⟨lb,cL,c2,AL.x0 _ (by omega)⟩
  · rw[ah9];exact Gr _ S' V e h1 (fun c=>absurd c hk) (fun _=>by show 0<=e.loc/\e.loc<(K1.slots.length:Int);omega) ⟨fun c=>absurd c hk,fun _=>by show -1000000<=(br K1.slots e.loc.toNat).refs/\(br K1.slots e.loc.toNat).refs<=1000000;omega⟩
 have HHR:Hid (∀e,oi=some e->e.kind=1->KP.2=k):=fun e he hk=>by rw[hKP,QT held (e:=e) (by rw[<- hoi];exact he) hk]
 obtain⟨a,ha⟩:=ex KP.1;have hRP:=ZV.right;have hjP:=HNP.o;have S0:=ZV.here;rw[<- ha] at S0;have M6:Hid (∀V S',bu lo mb 27 [] V S' KP.2->bU S w S' V->∃lv ax nx cx gb ne ce i,LZ V j p pb ⟨p,1,(a:Int)⟩ lv ax nx cx gb ne ce i):=fun V S' h1 h2=>O8 h1 (Wo hRP hjP) hjP (h2.eP.trans AP.v) S0
 have alF:KP.2.frames.length=k.frames.length:=ZV.kept.nf;obtain⟨hal,ahS⟩:=xd hRP hjP S0;have xx:Hid (∀V S',bu lo mb 27 [] V S' KP.2->∃fb cF,Gu lo mb 27 [] V S' KP.2 a fb cF):=fun V S' hV=>H6 hV hal
 have alx:=(oL hRP).1 a hal;obtain⟨TK,ZU⟩:=ex (fQ k j p way held);obtain⟨CB,hCB⟩:=ex ((decide (way=1)&&decide (1<(au KP.2.frames a).refs)));have ahY:CB=false->TK=(a,KP.2):=fun e=>by
  rw[ZU];unfold fQ;rw[<- hKP];by_cases c:way=1
  · rw[aR c,<- ha];unfold iB;rw[aR (by rw[hCB,dI c,lT,P5] at e;omega)]
  · rw[bf c,ha]
 have OJ:=hl;have hl3:(held++[(a:Int)]).length<=2:=by rw[fk,vt];omega
 have GA:=ll hRP hl3;obtain⟨K2,hK2⟩:=ex ((bE KP.2 (held++[(a:Int)])).2);obtain⟨i2,hi2⟩:=ex ((bE KP.2 (held++[(a:Int)])).1);have KV:bc K2:=by rw[hK2];exact GA.right
 have aeN:i2<K2.frames.length:=by rw[hK2,hi2,GA.kept.nf];exact GA.lt
 have hj2:j<K2.aj.length:=by rw[hK2,GA.kept.np];exact hjP
 have aeY:a<K2.frames.length:=by rw[hK2,GA.kept.nf];exact hal
 have hhF:=GA.IJ a (kq.2 (.inr (by simp))) ahS;rw[<- hK2,<- hi2] at hhF;have HG2:Hid (∀V S' Yi n' ZW,bu lo mb 27 [] V S' KP.2->n'=(held++[(a:Int)]).length->jD V S' Yi (held++[(a:Int)])->Calls Tryz.prog 107 #[.pointer (some (Ad mb 0)),.slice Yi n' ZW] V (cT lo mb 27 [] V S' (I (i2:Int)) K2)):=fun V S' Yi n' ZW h1 hn h2=>by
  have:=LU KP.2 S' V (held++[(a:Int)]) Yi ZW h1 hRP hl3 h2;rw[<- hK2,<- hi2] at this;rw[hn];exact this
 have Om:Hid (∀V S',bu lo mb 27 [] V S' K2->∃fb cF,Gu lo mb 27 [] V S' K2 i2 fb cF/\V.cell? (Ad fb (a*4))=some (.string (au K2.frames a).data)):=fun V S' hV=>by
  obtain⟨fb,cF,L⟩:=H6 hV aeN;exact⟨fb,cF,L,(L.at_ a aeY).1⟩
 have ad1:CB=true->TK=(i2,cK (df (ez K2 i2 (au K2.frames a).data true) j ⟨p,1,i2⟩) ⟨p,1,a⟩):=fun e=>by
  rw[hCB,cR,gP,gP] at e;rw[ZU];unfold fQ;rw[aR e.1,<- hKP,<- ha,Wv hRP hjP hl S0 (by omega),<- hK2,<- hi2]
 have HTN:=ai ahY;have HTY:=ai ad1;have aiH:Hid (∀V S' (K:aN) (i:Nat),bu lo mb 27 [] V S' K->bU S w S' V->K.aj=K2.aj->Calls Tryz.prog 108 #[.pointer (some (Ad pb (j*3))),.agg #[I p,I 1,I (i:Int)]] V (cT lo mb 27 [] V S' (.tuple #[]) (df K j ⟨p,1,i⟩))):=fun V S' K i h1 h2 h3=>LR K S' V j ⟨p,1,i⟩ h1 (by rw[h3];exact hj2) (h2.eP.trans AP.v) (by rw[h3];have:=iZ KV hj2;omega) (by rw[h3];exact(KV.sp hj2).kP)
 have afU:Hid (∀V S',bu lo mb 27 [] V S' (df (ez K2 i2 (au K2.frames a).data true) j ⟨p,1,i2⟩)->Calls Tryz.prog 81 #[.pointer (some (Ad mb 0)),.agg #[I p,I 1,I (a:Int)]] V (jN lo mb 27 [] V S' (.tuple #[]) (cK (df (ez K2 i2 (au K2.frames a).data true) j ⟨p,1,i2⟩) ⟨p,1,a⟩))):=fun V S' h1=>by
  have hlf:(ez K2 i2 (au K2.frames a).data true).frames.length=K2.frames.length:=iG;have hfa:au (ez K2 i2 (au K2.frames a).data true).frames a=au K2.frames a:=by
   show au (K2.frames.set i2 _) a=_;rw[iD _ _ _ _ aeN,bf (fun e=>hhF.1 e.symm)]
  have arM:=(oL KV).1 a aeY;exact Gr _ S' V ⟨p,1,a⟩ h1 (fun _=>by show 0<=(a:Int)/\(a:Int)<((ez K2 i2 (au K2.frames a).data true).frames.length:Int);rw[hlf];omega) (fun c=>absurd rfl c) ⟨fun _=>by show -1000000<=(au (ez K2 i2 (au K2.frames a).data true).frames (a:Int).toNat).refs/\(au (ez K2 i2 (au K2.frames a).data true).frames (a:Int).toNat).refs<=1000000;rw[jn,hfa];omega,fun c=>absurd rfl c⟩
 have hTl:TK.1<TK.2.frames.length:=by
  have e1:=hB.lt;have e2:=hB.kept.nf;rw[ZU];show(cQ k j p way held).1<_;have e3:(cQ k j p way held).2.frames.length=(fQ k j p way held).2.frames.length:=iG;omega
 have aia:KF.1=TK.1:=by rw[hKF,ZU];rfl
 have afb:KF.2={ TK.2 with frames:=TK.2.frames.set TK.1 (qy way (au TK.2.frames TK.1)) }:=by rw[hKF,ZU];rfl
 have Iq:Hid (∀V S',bu lo mb 27 [] V S' TK.2->∃fb cF,V.cell? (Ad mb 1)=some (.slice (some (Ad fb 0)) TK.2.frames.length cF)/\¬mb=fb/\V.cell? (Ad fb (TK.1*4+2))=some (.bool (au TK.2.frames TK.1).eX)/\V.cell? (Ad fb (TK.1*4+3))=some (.bool (au TK.2.frames TK.1).seen)/\(∀o,V.frozen? (Ad fb o)=false)/\S'.lab fb=.frames /\
   (way≠1->bu lo mb 27 [] (V.setCell (Ad fb (TK.1*4+3)) (.bool true)) S' KF.2)/\(way=1->bu lo mb 27 [] ((V.setCell (Ad fb (TK.1*4+3)) (.bool true)).setCell (Ad fb (TK.1*4+2)) (.bool true)) S' KF.2)/\∀U o u,bU S' U S' (U.setCell (Ad fb o) u)):=fun V S' hV=>by
  obtain⟨fb,cF,A⟩:=hV.toKr.fr (by omega);have c1:=hV.c1;rw[A.v] at c1;refine⟨fb,cF,c1,fun e=>by have:=A.lab;rw[<- e,hV.lH] at this;simp at this,A.x2 _ hTl,A.x3 _ hTl,A.fz,A.lab,fun hw=>?_,fun hw=>?_,fun U o u=>sL hV.toKr A.v⟩
  · rw[afb];refine hV.Bb A.v hTl (j:=3) (by omega) ?_;unfold qy;rw[dJ hw,Bool.or_false];rfl
  · have m1:=hV.Bb A.v hTl (j:=3) (by omega) (f:=⟨(au TK.2.frames TK.1).data,(au TK.2.frames TK.1).refs,(au TK.2.frames TK.1).eX,true⟩) (u:=.bool true) rfl;have m2:=m1.Bb A.v (i:=TK.1) (by simpa using hTl) (j:=2) (by omega) (f:=qy way (au TK.2.frames TK.1)) (u:=.bool true) (by
     simp only[au,eD _ _ _ _ hTl];unfold qy;rw[dI hw,Bool.or_true];rfl)
    simp only[pF] at m2;rw[afb];exact m2
 have YE:=ai hH;have hlh:held.length<=1:=hl;obtain⟨nf,tq⟩:=ex KP.2.frames.length;obtain⟨nt,hnt⟩:=ex TK.2.frames.length;have amc:(TK.1:Int)<(nt:Int):=by omega
 rw[<- hnt] at Iq;have hai:(a:Int)<(nf:Int):=by omega
 obtain⟨RA,hRA⟩:=ex ((au KP.2.frames a).refs);rw[<- hRA] at hCB;have HCB:=ai hCB;have Dt:=ai hRA;have HNF:=ai tq;rw[aia] at cV;obtain⟨inx,hin,hz0,ag7,hz2⟩:=gm Dn;have yG:=ai hin;have Bg:=ai hz0;have Bf:=ai ag7;have Aj:=ai hz2;have asj:(i1:Int)<(K1.frames.length:Int):=by omega
 have asi:(i2:Int)<(K2.frames.length:Int):=by omega
 have aeZ:(a:Int)<(K2.frames.length:Int):=by omega
 have hel:es.length<=1000:=by rw[hes];have:=iZ hR hj;omega
 clear h hR hj hp hl hH hB ZV G AP L0 hre har ahk hi0 YN hg1 hg2 hg3 hg4 hzz hzs hKF hKP hP hoi hlv hes Eg hi1 Bd ahv MV hz1 aeU hcc ha hRP hjP S0 alF hal ahS alx ZU ahY ad1 OJ hl3 GA hK2 hi2 KV aeN hj2 aeY hhF hTl aia afb hCB hRA tq hnt hl2 HNP hin hz0 ag7 hz2 y1;go_enter Tryz.func59,Tryz.ntmps59;obtain⟨q0,q1,q2⟩:=ZJ.o w (aK _ _);go_upto_if 41 with(first
  | (go_at_call 31;refine(Z4.o _ (aK _ _)).mono ?_;rintro e w1 ⟨rfl,hb1⟩;have dz:=ai hb1;have AB:=ai (bO w1 #[I g1,I g2,I g3,.bool zz] 47);have fV:=ai (dz.o.alloc dz.o.size (.cells #[I g1,I g2,I g3,.bool zz] 47));clear q0 q1 q2;obtain⟨q0,q1,q2⟩:=ZJ.o _ fV.o;clear hb1)
  | (go_at_call 67;refine(SI.o _ fV.o).mono ?_;rintro e w2 ⟨rfl,hb2⟩;have gj:=ai (fV.o.trans (hb2.mono fV.o.size));have AB2:=ai (aQ AB.o hb2 (aT AB.o));have Pq:=ai (HNE.o w1 dz.o.size w1.heap.size (aI _));clear hb2))
 clear q0 q1 q2 AB fV SI;obtain⟨ab,hab⟩:=ex w1.heap.size;rw[<- hab] at AB2 Pq ⊢;clear hab dz;go_cut [11] (fun x11 wx=>x11=.pointer (some (Ad pb (j*3)))/\∃S1,bu lo mb 27 [] wx S1 KP.2/\bU S w S1 wx)
 case first =>
  rcases HI0.o with⟨Dw,hoo⟩ | ⟨Dw,Jz,hoo⟩
  · have hr:r0=-1:=by rw[zk.o,Dw,bf (EY _)]
    have Z0:=ai (UI.o hoo);subst hr;clear HSW HHR UI HI0 zk hoo Dw;go_upto_region 6 with(go_at_call 107;refine(YF.o _ gj.o).mono ?_;rintro e w3 ⟨rfl,S3,hk3,hc3⟩;have p9:=ai hk3;have tP:=ai ((bU.below gj.o).trans hc3);have AB3:=ai (hc3.keep AB2.o Pq.o);clear hk3 hc3)
    obtain⟨fb,cF,FL⟩:=Vp.o w3 S3 p9.o;obtain⟨vS,nS,cS,vL,nL,cL,FO⟩:=Z2.o w3 S3 fb cF p9.o tP.o FL.v;have gq:Hid (∀V,Below w3.heap.size w3 V->V.cell? (Ad mb 0)=some (.slice vS nS cS)/\V.cell? (Ad mb 1)=some (.slice (some (Ad fb 0)) K1.frames.length cF)/\V.cell? (Ad mb 2)=some (.slice vL nL cL)/\V.cell? (Ad mb 3)=some (.slice (some (Ad pb 0)) k.aj.length cP)/\V.cell? (Ad mb 4)=some (I K1.hand)/\V.cell? (Ad ab 0)=some (I g1)/\V.cell? (Ad ab 1)=some (I g2)/\V.cell? (Ad ab 2)=some (I g3)/\V.cell? (Ad ab 3)=some (.bool zz)):=fun V hV=>by
     have ABV:=aQ AB3.o hV (aT AB3.o);exact⟨(hV.cell (p:=(Ad mb 0)) FO.lt).trans FO.c0,(hV.cell (p:=(Ad mb 1)) FO.lt).trans FL.c1,(hV.cell (p:=(Ad mb 2)) FO.lt).trans FO.c2,(hV.cell (p:=(Ad mb 3)) FO.lt).trans FO.c3,(hV.cell (p:=(Ad mb 4)) FO.lt).trans FO.c4,aB ABV 0 rfl,aB ABV 1 rfl,aB ABV 2 rfl,aB ABV 3 rfl⟩
    have ZI:Hid (∀V,Below w3.heap.size w3 V->V.cell? (Ad fb (i1*4))=some (.string (au K1.frames i1).data)/\V.cell? (Ad fb (i1*4+1))=some (I (au K1.frames i1).refs)/\V.cell? (Ad fb (i1*4+2))=some (.bool (au K1.frames i1).eX)/\V.cell? (Ad fb (i1*4+3))=some (.bool (au K1.frames i1).seen)/\∀o,V.frozen? (Ad fb o)=false):=fun V hV=>⟨(hV.cell (p:=(Ad fb (i1*4))) FL.lt).trans FL.x0,(hV.cell (p:=(Ad fb (i1*4+1))) FL.lt).trans FL.x1,(hV.cell (p:=(Ad fb (i1*4+2))) FL.lt).trans FL.x2,(hV.cell (p:=(Ad fb (i1*4+3))) FL.lt).trans FL.x3,fun o=>(hV.frozen (p:=(Ad fb o)) FL.lt).trans (FL.fz o)⟩
    have HFC:=ai (fun V hV=>FO.call V hV g1 g2 g3);have YD:=ai FL.lay;clear FL FO;refine m7 (S:=fun V=>Below w3.heap.size w3 V) (z:=13) (by kernel_rfl) ?_;have gu:Hid (Below w3.heap.size w3 w3.drew):=(aK _ _).drew;obtain⟨WD,MZ⟩:=ex w3.drew;rw[<- MZ] at gu ⊢;clear MZ;refine cN 0 gu.o ?_ ?_ ?_;rotate_left 1
    · intro V h;obtain⟨k0,k1,k2,k3,k4,k5,k6,k7,k8⟩:=gq.o V h;go_simp;try with_reducible rfl
    refine cN 1 gu.o ?_ ?_ ?_;rotate_left 1
    · intro V h;obtain⟨k0,k1,k2,k3,k4,k5,k6,k7,k8⟩:=gq.o V h;go_simp;try with_reducible rfl
    refine cN 2 gu.o ?_ ?_ ?_;rotate_left 1
    · intro V h;obtain⟨k0,k1,k2,k3,k4,k5,k6,k7,k8⟩:=gq.o V h;go_simp;try with_reducible rfl
    refine cN 3 gu.o ?_ ?_ ?_;rotate_left 1
    · intro V h;obtain⟨k0,k1,k2,k3,k4,k5,k6,k7,k8⟩:=gq.o V h;go_simp;try with_reducible rfl
    refine cN 4 gu.o ?_ ?_ ?_;rotate_left 1
    · intro V h;obtain⟨k0,k1,k2,k3,k4,k5,k6,k7,k8⟩:=gq.o V h;go_simp;try with_reducible rfl
    refine cN 5 gu.o ?_ ?_ ?_;rotate_left 1
    · intro V h;obtain⟨k0,k1,k2,k3,k4,k5,k6,k7,k8⟩:=gq.o V h;go_simp;try with_reducible rfl
    refine cN 6 gu.o ?_ ?_ ?_;rotate_left 1
    · intro V h;obtain⟨k0,k1,k2,k3,k4,k5,k6,k7,k8⟩:=gq.o V h;go_simp;try with_reducible rfl
    refine cN 7 gu.o ?_ ?_ ?_;rotate_left 1
    · intro V h;obtain⟨k0,k1,k2,k3,k4,k5,k6,k7,k8⟩:=gq.o V h;go_simp;try with_reducible rfl
    refine cN 8 gu.o ?_ ?_ ?_;rotate_left 1
    · intro V h;obtain⟨k0,k1,k2,k3,k4,k5,k6,k7,k8⟩:=gq.o V h;go_simp;try with_reducible rfl
    refine cN 9 gu.o ?_ ?_ ?_;rotate_left 1
    · intro V h;obtain⟨k0,k1,k2,k3,k4,k5,k6,k7,k8⟩:=gq.o V h;go_simp;try with_reducible rfl
    refine bW (rs:=[10]) (by kernel_rfl) (by simp) ?_;refine aJ.cons rfl (fun K hK=>?_) aJ.nil;rw[aR (by rfl)];go_simp;go_at_call 49;refine(HFC.o _ gu.o).mono ?_;rintro e w4 ⟨rfl,hb4⟩;have jP:=ai (gu.o.trans (hb4.mono gu.o.size));clear hb4;try go_simp;refine hK.out _ _ (fun _=>?_) ?_
    · exact jP.o
    clear hK K
    try simp only[Act.put,bJ,bI,bH]
    obtain⟨DD,hDD⟩:=ex (dY K1.aD p zz);rw[<- hDD];have HDD:=ai hDD;clear hDD;refine cN 11 jP.o ?_ ?_ ?_;rotate_left 1
    · intro V h;obtain⟨k0,k1,k2,k3,k4,k5,k6,k7,k8⟩:=gq.o V h;go_simp;try with_reducible rfl
    refine cN 12 jP.o ?_ ?_ ?_;rotate_left 1
    · intro V h;obtain⟨k0,k1,k2,k3,k4,k5,k6,k7,k8⟩:=gq.o V h;go_simp;try with_reducible rfl
    obtain⟨x0,x1,x2,x3,xf⟩:=ZI.o _ jP.o;have f0:=xf (i1*4);have f1:=xf (i1*4+1);have f2:=xf (i1*4+2);have f3:=xf (i1*4+3);clear xf;refine bW (rs:=[13]) (by kernel_rfl) (by simp) ?_;refine aJ.cons rfl (fun K hK=>?_) aJ.nil;go_simp;refine hK.out _ _ (fun g=>absurd rfl g) ?_;refine ij (by kernel_rfl) ?_ _;obtain⟨U,hU⟩:=ex ((((w4.setCell (Ad fb (i1*4)) (.string DD)).setCell (Ad fb (i1*4+1)) (I 1)).setCell (Ad fb (i1*4+2)) (.bool false)).setCell (Ad fb (i1*4+3)) (.bool false));obtain⟨l1,l2⟩:=YD.o w4 jP.o DD false;rw[<- hU] at l1 l2 ⊢;have M5:=ai l1;have HC5:=ai (tP.o.trans l2);clear l1 l2 hU x0 x1 x2 x3 f0 f1 f2 f3;have HPC:=ai (UH.o U S3 _ i1 M5.o HC5.o.eP rfl);go_wp2_with (go_at_call 108;refine HPC.o.mono ?_;rintro e w6 ⟨rfl,S6,Yd,Ta⟩;have ZB:=ai Yd;have HC6:=ai (HC5.o.trans Ta);clear Yd Ta)
    go_meet
    case rel=>exact⟨rfl,S6,by rw[Z0.o,<- HDD.o];exact ZB.o,HC6.o⟩
  · have hr:r0=(i0:Int):=by rw[zk.o,aR Dw]
    subst hr;obtain⟨eb,eo,e1,_,e3⟩:=(af9.o.below gj.o) (by omega);have z1:=e3 i0 Dw 1 (by omega);obtain⟨E0,hE0⟩:=ex (aH es i0);rw[show es.getD i0 dW=E0 from hE0.symm] at z1;rw[<- hE0] at hoo;obtain⟨ep,ek,el0⟩:=E0;replace z1:w2.cell? (Ad eb (eo+i0*3+1))=some (I ek):=z1;obtain⟨q0,q1,q2⟩:=ZJ.o w2 gj.o;rw[e1] at q2;have asf:(i0:Int)<(es.length:Int):=by omega
    have ash:¬(i0:Int)<0:=by omega
    have asg:(0:Int)<=(i0:Int):=by omega
    by_cases hk:ek=1
    · have Z0:=ai (HHR.o _ hoo hk);have kb:(ek==2)=false:=by rw[hk];rfl
      clear HSW HHR UI HI0 zk hoo Dw hk Jz e1 e3 hE0;go_wp2;go_meet
      case rel=>exact⟨rfl,S,by rw[Z0.o];exact HK.o.below gj.o,bU.below gj.o⟩
    · obtain⟨hk2,hKE,⟨el,acw,asv,hrd⟩,hlv⟩:=HSW.o _ hoo hk;simp only at hk2 acw hrd hlv hKE;rw[acw,jn] at hrd hlv;have Hg:=ai hrd;have HLV:=ai hlv;have kb:(ek==2)=true:=by rw[hk2];rfl
      clear HSW HHR UI HI0 zk hoo Dw hk Jz e1 e3 hE0 hKE hk2 hrd hlv;subst acw;go_upto_region 10 with(go_at_call 107;refine(YF.o _ gj.o).mono ?_;rintro e w3 ⟨rfl,S3,hk3,hc3⟩;have p9:=ai hk3;have tP:=ai ((bU.below gj.o).trans hc3);clear hk3 hc3)
      clear q0 q1 q2 z1;obtain⟨⟨lv2,ax2,nx2,cx2,gb,ne,ce2,ei,E⟩,lb,cL,s2,s3⟩:=Hg.o w3 S3 p9.o tP.o;have yT:=p9.o.lt;have hll:=oc w3 _ s3;have gq:Hid (∀V,Below w3.heap.size w3 V->V.cell? (Ad pb (j*3))=some (.bool lv2)/\V.cell? (Ad pb (j*3+1))=some (.slice ax2 nx2 cx2)/\V.cell? (Ad pb (j*3+2))=some (.slice (some (Ad gb 0)) ne ce2)/\V.cell? (Ad gb (ei*3))=some (I ep)/\V.cell? (Ad gb (ei*3+1))=some (I ek)/\V.cell? (Ad gb (ei*3+2))=some (I (el:Int))):=fun V hV=>⟨(hV.cell (p:=(Ad pb (j*3))) E.lt).trans E.y0,(hV.cell (p:=(Ad pb (j*3+1))) E.lt).trans E.y1,(hV.cell (p:=(Ad pb (j*3+2))) E.lt).trans E.y2,(hV.cell (p:=(Ad gb (ei*3))) E.gl).trans E.z0,(hV.cell (p:=(Ad gb (ei*3+1))) E.gl).trans E.z1,(hV.cell (p:=(Ad gb (ei*3+2))) E.gl).trans E.z2⟩
      have HEC:=ai E.call;have hil:=E.il;have hi0:(0:Int)<=(ei:Int):=by omega
      clear E;go_cut [17] (fun x wx=>∃g,x=.pointer (some (Ad g 0))/\w3.heap.size<=g/\wx.heap[g]?=some (.cells #[I ep,I ek,I (el:Int)] 45 (0,0))/\Below w3.heap.size w3 wx)
      case first =>
       refine m7 (S:=fun V=>Below w3.heap.size w3 V) (z:=12) (by kernel_rfl) ?_;have gu:Hid (Below w3.heap.size w3 w3.drew):=(aK _ _).drew;obtain⟨WD,MZ⟩:=ex w3.drew;rw[<- MZ] at gu ⊢;clear MZ;refine cN 0 gu.o ?_ ?_ ?_;rotate_left 1
       · intro V h;obtain⟨k0,k1,k2,k3,k4,k5⟩:=gq.o V h;go_simp;try with_reducible rfl
       refine cN 1 gu.o ?_ ?_ ?_;rotate_left 1
       · intro V h;obtain⟨k0,k1,k2,k3,k4,k5⟩:=gq.o V h;go_simp;try with_reducible rfl
       refine cN 2 gu.o ?_ ?_ ?_;rotate_left 1
       · intro V h;obtain⟨k0,k1,k2,k3,k4,k5⟩:=gq.o V h;go_simp;try with_reducible rfl
       refine cN 3 gu.o ?_ ?_ ?_;rotate_left 1
       · intro V h;obtain⟨k0,k1,k2,k3,k4,k5⟩:=gq.o V h;go_simp;try with_reducible rfl
       refine cN 4 gu.o ?_ ?_ ?_;rotate_left 1
       · intro V h;obtain⟨k0,k1,k2,k3,k4,k5⟩:=gq.o V h;go_simp;try with_reducible rfl
       refine cN 5 gu.o ?_ ?_ ?_;rotate_left 1
       · intro V h;obtain⟨k0,k1,k2,k3,k4,k5⟩:=gq.o V h;go_simp;try with_reducible rfl
       refine cN 6 gu.o ?_ ?_ ?_;rotate_left 1
       · intro V h;obtain⟨k0,k1,k2,k3,k4,k5⟩:=gq.o V h;go_simp;try with_reducible rfl
       refine cN 7 gu.o ?_ ?_ ?_;rotate_left 1
       · intro V h;obtain⟨k0,k1,k2,k3,k4,k5⟩:=gq.o V h;go_simp;try with_reducible rfl
       refine bW (rs:=[8,11]) (by kernel_rfl) (by simp) ?_;refine aJ.cons rfl (fun K hK=>?_) (aJ.cons rfl (fun K hK=>?_) aJ.nil)
       · rw[aR (by rfl)];go_simp;go_at_call 67;refine(HEC.o _ (gu.o)).mono ?_;rintro e w1 ⟨rfl,hb1⟩;have jP:=ai ((gu.o).trans (hb1.mono (gu.o).size));clear hb1;try go_simp;refine hK.out _ _ (fun _=>?_) ?_
         · exact jP.o
         clear hK K
         try simp only[Act.put,bJ,bI,bH]
         refine cN 9 jP.o ?_ ?_ ?_;rotate_left 1
         · intro V h;obtain⟨k0,k1,k2,k3,k4,k5⟩:=gq.o V h;go_simp;try with_reducible rfl
         refine cN 10 jP.o ?_ ?_ ?_;rotate_left 1
         · intro V h;obtain⟨k0,k1,k2,k3,k4,k5⟩:=gq.o V h;go_simp;try with_reducible rfl
         refine bW (rs:=[11]) (by kernel_rfl) (by simp) ?_;refine aJ.cons rfl (fun K hK=>?_) aJ.nil;go_simp;refine hK.out _ _ (fun _=>?_) ?_
         · exact jP.o.alloc jP.o.size _
         clear hK K
         try simp only[Act.put,bJ,bI,bH]
         refine bW (rs:=[12]) (by kernel_rfl) (by simp) ?_;refine aJ.cons rfl (fun K hK=>?_) aJ.nil;go_simp;refine hK.out _ _ (fun g=>absurd rfl g) ?_;refine ij (by kernel_rfl) ?_ _;go_wp2_with fail
         go_meet
         case rel=>exact⟨_,rfl,jP.o.size,bO w1 _ _,jP.o.alloc jP.o.size _⟩
       · go_simp;refine hK.out _ _ (fun _=>?_) ?_
         · exact gu.o.alloc gu.o.size (.cells #[I 0,I 0,I 0] 45)
         clear hK K
         try simp only[Act.put,bJ,bI,bH]
         refine bW (rs:=[8]) (by kernel_rfl) (by simp) ?_;refine aJ.cons rfl (fun K hK=>?_) aJ.nil;rw[aR (by rfl)];go_simp;go_at_call 67;refine(HEC.o _ (gu.o.alloc gu.o.size (.cells #[I 0,I 0,I 0] 45))).mono ?_;rintro e w1 ⟨rfl,hb1⟩;have jP:=ai ((gu.o.alloc gu.o.size (.cells #[I 0,I 0,I 0] 45)).trans (hb1.mono (gu.o.alloc gu.o.size (.cells #[I 0,I 0,I 0] 45)).size));have BZ:=ai (aQ (bO WD #[I 0,I 0,I 0] 45) hb1 (by simp));clear hb1;try go_simp;refine hK.out _ _ (fun _=>?_) ?_
         · exact jP.o
         clear hK K
         try simp only[Act.put,bJ,bI,bH]
         refine cN 9 jP.o ?_ ?_ ?_;rotate_left 1
         · intro V h;obtain⟨k0,k1,k2,k3,k4,k5⟩:=gq.o V h;go_simp;try with_reducible rfl
         refine cN 10 jP.o ?_ ?_ ?_;rotate_left 1
         · intro V h;obtain⟨k0,k1,k2,k3,k4,k5⟩:=gq.o V h;go_simp;try with_reducible rfl
         obtain⟨t0,t1,t2⟩:=nV BZ.o;have f0:=aO BZ.o 0;have f1:=aO BZ.o 1;have f2:=aO BZ.o 2;refine bW (rs:=[12]) (by kernel_rfl) (by simp) ?_;refine aJ.cons rfl (fun K hK=>?_) aJ.nil;go_simp;refine hK.out _ _ (fun g=>absurd rfl g) ?_;refine ij (by kernel_rfl) ?_ _;go_wp2_with fail
         go_meet
         case rel=>exact⟨_,rfl,gu.o.size,dD (dD (dD BZ.o 0 _) 1 _) 2 _,((jP.o.setCell (p:=(Ad WD.heap.size 0)) gu.o.size _).setCell (p:=(Ad WD.heap.size 1)) gu.o.size _).setCell (p:=(Ad WD.heap.size 2)) gu.o.size _⟩
      case rest =>
      obtain⟨gE,rfl,hgl,hgb,hbc⟩:=hcut;have hk4:=p9.o.below hbc;have Nc:=tP.o.trans (bU.below hbc);have BE:=ai hgb;have HNG:Hid (S3.lab gE=.no):=p9.o.toKr.new hgl;have t2:=(hbc.cell (p:=(Ad mb 2)) yT).trans s2;have t3:=(hbc.cell (p:=(Ad lb (el*2))) hll).trans s3;obtain⟨fb,cF,FL⟩:=Vp.o wc S3 hk4;obtain⟨d0,d1,d2⟩:=nV hgb;have x1c:=FL.c1;have x0:=FL.x0;have x1:=FL.x1;have x2:=FL.x2;have x3:=FL.x3;have f0:=FL.fz (i1*4);have f1:=FL.fz (i1*4+1);have f2:=FL.fz (i1*4+2);have f3:=FL.fz (i1*4+3);obtain⟨DD,hDD⟩:=ex ((br K1.slots el).data);rw[<- hDD] at t3 HLV;obtain⟨l1,l2⟩:=FL.lay wc (aK _ _) DD true;have Xq:=ai l1;have Mx:=ai (Nc.trans l2);have hne:=FL.ne;have hge:¬gE=fb:=fun e=>by have h1:=HNG.o;have h2:=FL.v;have h3:=p9.o.lF fb (by rw[h2];rfl);rw[e,h3] at h1;cases h1
      have asw:(0:Int)<=(el:Int):=by omega
      clear FL l1 l2 hgb hbc hk4 Nc p9 tP hDD s2 s3 yT hll Hg;go_upto_region 11 with fail;go_region;obtain⟨U,hU⟩:=ex (((((wc.setCell (Ad fb (i1*4)) (.string DD)).setCell (Ad fb (i1*4+1)) (I 1)).setCell (Ad fb (i1*4+2)) (.bool true)).setCell (Ad fb (i1*4+3)) (.bool false)).drew);rw[<- hU];have HKU:Hid (bu lo mb 27 [] U S3 (ez K1 i1 DD true)):=by rw[hU];exact Xq.o.below (aK _ _).drew
      have HCU:Hid (bU S w S3 U):=by rw[hU];exact Mx.o.trans (bU.below (aK _ _).drew)
      have BU:Hid (U.heap[gE]?=some (.cells #[I ep,I ek,I (el:Int)] 45 (0,0))):=by rw[hU];exact iM (iM (iM (iM BE.o fb _ _ hge) fb _ _ hge) fb _ _ hge) fb _ _ hge
      clear hU Xq Mx x0 x1 x2 x3 f0 f1 f2 f3 t2 t3 d0 d1 d2 x1c BE;have HPC:=ai (UH.o U S3 _ i1 HKU.o HCU.o.eP rfl);go_upto_region 13 with(go_at_call 108;refine HPC.o.mono ?_;rintro e w6 ⟨rfl,S6,Yd,Ta⟩;have ZB:=ai Yd;have HC6:=ai (HCU.o.trans Ta);have B6:=ai (Ta.keep BU.o HNG.o);clear Yd Ta)
      obtain⟨d0,d1,d2⟩:=nV B6.o;have HLC:=ai (HLV.o w6 S6 ZB.o);go_wp2_with (go_at_call 81;refine HLC.o.mono ?_;rintro e w7 ⟨rfl,hk7,hc7⟩;have HK7:=ai hk7;have HC7:=ai (HC6.o.trans hc7);clear hk7 hc7)
      go_meet
      case rel=>exact⟨rfl,S6,HK7.o,HC7.o⟩
 case rest =>
 obtain⟨rfl,S1,hk1,hc1⟩:=hcut;obtain⟨W1,hW1⟩:=ex wc;subst hW1;have vZ:=ai hk1;have EI:=ai hc1;obtain⟨lv2,ax2,nx2,cx2,gb,ne,ce2,ei,E⟩:=M6.o W1 S1 hk1 hc1;clear hk1 hc1 UI HSW HHR HI0 zk Vp Z2 YF UH Z4 ZJ af9 M6 AB2 Pq gj;go_upto_region 14 with fail;have gq:Hid (∀V,Below W1.heap.size W1 V->V.cell? (Ad pb (j*3))=some (.bool lv2)/\V.cell? (Ad pb (j*3+1))=some (.slice ax2 nx2 cx2)/\V.cell? (Ad pb (j*3+2))=some (.slice (some (Ad gb 0)) ne ce2)/\V.cell? (Ad gb (ei*3))=some (I p)/\V.cell? (Ad gb (ei*3+1))=some (I 1)/\V.cell? (Ad gb (ei*3+2))=some (I (a:Int))):=fun V hV=>⟨(hV.cell (p:=(Ad pb (j*3))) E.lt).trans E.y0,(hV.cell (p:=(Ad pb (j*3+1))) E.lt).trans E.y1,(hV.cell (p:=(Ad pb (j*3+2))) E.lt).trans E.y2,(hV.cell (p:=(Ad gb (ei*3))) E.gl).trans E.z0,(hV.cell (p:=(Ad gb (ei*3+1))) E.gl).trans E.z1,(hV.cell (p:=(Ad gb (ei*3+2))) E.gl).trans E.z2⟩
 have HEC:=ai E.call;have hil:=E.il;have hi0:(0:Int)<=(ei:Int):=by omega
 clear E;go_cut [18] (fun x wx=>∃g,x=.pointer (some (Ad g 0))/\W1.heap.size<=g/\wx.heap[g]?=some (.cells #[I p,I 1,I (a:Int)] 45 (0,0))/\Below W1.heap.size W1 wx)
 case first =>
  refine m7 (S:=fun V=>Below W1.heap.size W1 V) (z:=12) (by kernel_rfl) ?_;have gu:Hid (Below W1.heap.size W1 W1.drew):=(aK _ _).drew;obtain⟨WD,MZ⟩:=ex W1.drew;rw[<- MZ] at gu ⊢;clear MZ;refine cN 0 gu.o ?_ ?_ ?_;rotate_left 1
  · intro V h;obtain⟨k0,k1,k2,k3,k4,k5⟩:=gq.o V h;go_simp;try with_reducible rfl
  refine cN 1 gu.o ?_ ?_ ?_;rotate_left 1
  · intro V h;obtain⟨k0,k1,k2,k3,k4,k5⟩:=gq.o V h;go_simp;try with_reducible rfl
  refine cN 2 gu.o ?_ ?_ ?_;rotate_left 1
  · intro V h;obtain⟨k0,k1,k2,k3,k4,k5⟩:=gq.o V h;go_simp;try with_reducible rfl
  refine cN 3 gu.o ?_ ?_ ?_;rotate_left 1
  · intro V h;obtain⟨k0,k1,k2,k3,k4,k5⟩:=gq.o V h;go_simp;try with_reducible rfl
  refine cN 4 gu.o ?_ ?_ ?_;rotate_left 1
  · intro V h;obtain⟨k0,k1,k2,k3,k4,k5⟩:=gq.o V h;go_simp;try with_reducible rfl
  refine cN 5 gu.o ?_ ?_ ?_;rotate_left 1
  · intro V h;obtain⟨k0,k1,k2,k3,k4,k5⟩:=gq.o V h;go_simp;try with_reducible rfl
  refine cN 6 gu.o ?_ ?_ ?_;rotate_left 1
  · intro V h;obtain⟨k0,k1,k2,k3,k4,k5⟩:=gq.o V h;go_simp;try with_reducible rfl
  refine cN 7 gu.o ?_ ?_ ?_;rotate_left 1
  · intro V h;obtain⟨k0,k1,k2,k3,k4,k5⟩:=gq.o V h;go_simp;try with_reducible rfl
  refine bW (rs:=[8,11]) (by kernel_rfl) (by simp) ?_;refine aJ.cons rfl (fun K hK=>?_) (aJ.cons rfl (fun K hK=>?_) aJ.nil)
  · rw[aR (by rfl)];go_simp;go_at_call 67;refine(HEC.o _ (gu.o)).mono ?_;rintro e w1 ⟨rfl,hb1⟩;have jP:=ai ((gu.o).trans (hb1.mono (gu.o).size));clear hb1;try go_simp;refine hK.out _ _ (fun _=>?_) ?_
    · exact jP.o
    clear hK K
    try simp only[Act.put,bJ,bI,bH]
    refine cN 9 jP.o ?_ ?_ ?_;rotate_left 1
    · intro V h;obtain⟨k0,k1,k2,k3,k4,k5⟩:=gq.o V h;go_simp;try with_reducible rfl
    refine cN 10 jP.o ?_ ?_ ?_;rotate_left 1
    · intro V h;obtain⟨k0,k1,k2,k3,k4,k5⟩:=gq.o V h;go_simp;try with_reducible rfl
    refine bW (rs:=[11]) (by kernel_rfl) (by simp) ?_;refine aJ.cons rfl (fun K hK=>?_) aJ.nil;go_simp;refine hK.out _ _ (fun _=>?_) ?_
    · exact jP.o.alloc jP.o.size _
    clear hK K
    try simp only[Act.put,bJ,bI,bH]
    refine bW (rs:=[12]) (by kernel_rfl) (by simp) ?_;refine aJ.cons rfl (fun K hK=>?_) aJ.nil;go_simp;refine hK.out _ _ (fun g=>absurd rfl g) ?_;refine ij (by kernel_rfl) ?_ _;go_wp2_with fail
    go_meet
    case rel=>exact⟨_,rfl,jP.o.size,bO w1 _ _,jP.o.alloc jP.o.size _⟩
  · go_simp;refine hK.out _ _ (fun _=>?_) ?_
    · exact gu.o.alloc gu.o.size (.cells #[I 0,I 0,I 0] 45)
    clear hK K
    try simp only[Act.put,bJ,bI,bH]
    refine bW (rs:=[8]) (by kernel_rfl) (by simp) ?_;refine aJ.cons rfl (fun K hK=>?_) aJ.nil;rw[aR (by rfl)];go_simp;go_at_call 67;refine(HEC.o _ (gu.o.alloc gu.o.size (.cells #[I 0,I 0,I 0] 45))).mono ?_;rintro e w1 ⟨rfl,hb1⟩;have jP:=ai ((gu.o.alloc gu.o.size (.cells #[I 0,I 0,I 0] 45)).trans (hb1.mono (gu.o.alloc gu.o.size (.cells #[I 0,I 0,I 0] 45)).size));have BZ:=ai (aQ (bO WD #[I 0,I 0,I 0] 45) hb1 (by simp));clear hb1;try go_simp;refine hK.out _ _ (fun _=>?_) ?_
    · exact jP.o
    clear hK K
    try simp only[Act.put,bJ,bI,bH]
    refine cN 9 jP.o ?_ ?_ ?_;rotate_left 1
    · intro V h;obtain⟨k0,k1,k2,k3,k4,k5⟩:=gq.o V h;go_simp;try with_reducible rfl
    refine cN 10 jP.o ?_ ?_ ?_;rotate_left 1
    · intro V h;obtain⟨k0,k1,k2,k3,k4,k5⟩:=gq.o V h;go_simp;try with_reducible rfl
    obtain⟨t0,t1,t2⟩:=nV BZ.o;have f0:=aO BZ.o 0;have f1:=aO BZ.o 1;have f2:=aO BZ.o 2;refine bW (rs:=[12]) (by kernel_rfl) (by simp) ?_;refine aJ.cons rfl (fun K hK=>?_) aJ.nil;go_simp;refine hK.out _ _ (fun g=>absurd rfl g) ?_;refine ij (by kernel_rfl) ?_ _;go_wp2_with fail
    go_meet
    case rel=>exact⟨_,rfl,gu.o.size,dD (dD (dD BZ.o 0 _) 1 _) 2 _,((jP.o.setCell (p:=(Ad WD.heap.size 0)) gu.o.size _).setCell (p:=(Ad WD.heap.size 1)) gu.o.size _).setCell (p:=(Ad WD.heap.size 2)) gu.o.size _⟩
 case rest =>
 obtain⟨gE,rfl,hgl,hgb,hbc⟩:=hcut;obtain⟨W2,hW2⟩:=ex wc;subst hW2;have qa:=ai (vZ.o.below hbc);have tD:=ai (EI.o.trans (bU.below hbc));have HNG:Hid (S1.lab gE=.no):=vZ.o.toKr.new hgl;have BE:=ai hgb;have HGL:Hid (w.heap.size<=gE):=gy EI.o.kp.size hgl;obtain⟨d0,d1,d2⟩:=nV hgb;obtain⟨fb,cF,FL⟩:=xx.o W2 S1 qa.o;have x1c:=FL.c1;have x1:=FL.x1;rw[<- HNF.o] at x1c;rw[<- Dt.o] at x1;clear FL hgb hbc hgl vZ EI;go_upto_region 15 with fail;go_cut [134] (fun c wx=>c=.bool CB/\wx=W2.drew)
 case first =>
  by_cases cw:way=1
  · have wb:(way==1)=true:=by simpa using cw
    by_cases cr:1<RA
    · have hc:CB=true:=by rw[HCB.o,dI cw,dI cr];rfl
      have HHC:=ai hc;clear cw hc;go_region;go_wp2_with fail
      go_meet
      case rel=>exact⟨by rw[HHC.o],rfl⟩
    · have hc:CB=false:=by rw[HCB.o,dI cw,dJ cr];rfl
      have HHC:=ai hc;clear cw hc;go_region;go_wp2_with fail
      go_meet
      case rel=>exact⟨by rw[HHC.o],rfl⟩
  · have wb:(way==1)=false:=by simpa using cw
    have hc:CB=false:=by rw[HCB.o,dJ cw];rfl
    have HHC:=ai hc;clear cw hc;go_region;go_wp2_with fail
    go_meet
    case rel=>exact⟨by rw[HHC.o],rfl⟩
 case rest =>
 obtain⟨rfl,hwc⟩:=hcut;subst hwc;have p9:Hid (bu lo mb 27 [] W2.drew S1 KP.2):=qa.o.below (aK _ _).drew;have tP:Hid (bU S w S1 W2.drew):=tD.o.trans (bU.below (aK _ _).drew);have BE3:Hid (W2.drew.heap[gE]?=some (.cells #[I p,I 1,I (a:Int)] 45 (0,0))):=BE.o;obtain⟨W3,hW3⟩:=ex W2.drew;rw[<- hW3] at p9 tP BE3 ⊢;clear hW3 d0 d1 d2 x1c x1 qa tD BE xx HCB;go_upto_if 134 with fail;go_cut [11] (fun x11 wx=>x11=.pointer (some (Ad pb (j*3)))/\∃S4,bu lo mb 27 [] wx S4 TK.2/\bU S w S4 wx/\wx.heap[gE]?=some (.cells #[I p,I 1,I (TK.1:Int)] 45 (0,0))/\S4.lab gE=.no)
 case first =>
  as_aux_lemma =>
  cases CB with
  | false =>
   have HE:=ai (HTN.o rfl);clear HTN HTY;go_wp2;go_meet
   case rel=>exact⟨rfl,S1,by rw[HE.o];exact p9.o,tP.o,by rw[HE.o];exact BE3.o,HNG.o⟩
  | true =>
   have HE:=ai (HTY.o rfl);clear HTN HTY;have Xr:Hid (∀V,Below W3.heap.size W3 V->cJ dN 1 0 V ah held):=fun V hb=>(YE.o.ch (tP.o.trans (bU.below hb))).has
   have Dj:Hid (∀V,Below W3.heap.size W3 V->V.heap[gE]?=some (.cells #[I p,I 1,I (a:Int)] 45 (0,0))):=fun V hb=>aQ BE3.o hb (aT BE3.o)
   have HG3:Hid (∀V Yi n' ZW,Below W3.heap.size W3 V->V.ownsRow W3.heap.size 3 1 (.slice Yi n' ZW) (held.length+1) (held.flatMap dN++[I (a:Int)])->Calls Tryz.prog 107 #[.pointer (some (Ad mb 0)),.slice Yi n' ZW] V fun e w'=>e=.returned (I (i2:Int))/\∃S5,bu lo mb 27 [] w' S5 K2/\bU S w S5 w'/\w'.heap[gE]?=some (.cells #[I p,I 1,I (a:Int)] 45 (0,0))/\S5.lab gE=.no):=fun V Yi n' ZW hb hr=>by
    have e1:(held++[(a:Int)]).length=held.length+1:=by simp
    have e2:(held++[(a:Int)]).flatMap dN=held.flatMap dN++[I (a:Int)]:=by simp[dN]
    rw[<- e1,<- e2] at hr;obtain⟨q1,q2⟩:=uH (S:=S1) hr (fun b hb2=>p9.o.toKr.new (hr.lt b hb2).1);refine(HG2.o V S1 Yi n' ZW (p9.o.below hb) q1 q2).mono fun e w' ⟨h1,S5,h2,h3⟩=>⟨h1,S5,h2,(tP.o.trans (bU.below hb)).trans h3,h3.keep (Dj.o V hb) HNG.o,h3.no _ (aT (Dj.o V hb)) HNG.o⟩
   have auh:=hlh;go_upto_region 16 with fail;go_cut [19] (fun x19 wx=>x19=I (i2:Int)/\∃S5,bu lo mb 27 [] wx S5 K2/\bU S w S5 wx/\wx.heap[gE]?=some (.cells #[I p,I 1,I (a:Int)] 45 (0,0))/\S5.lab gE=.no)
   case first =>
    refine m7 (S:=fun V=>V.heap[gE]?=some (.cells #[I p,I 1,I (a:Int)] 45 (0,0))) (z:=9) (by kernel_rfl) ?_;have gq:Hid (∀V:World,V.heap[gE]?=some (.cells #[I p,I 1,I (a:Int)] 45 (0,0))->V.cell? (Ad gE 0)=some (I p)/\V.cell? (Ad gE 1)=some (I 1)/\V.cell? (Ad gE 2)=some (I (a:Int))):=fun V hV=>nV hV
    have eU:Hid (Below W3.heap.size W3 W3.drew):=(aK _ _).drew;have hsz:W3.drew.heap.size=W3.heap.size:=rfl;obtain⟨WD,MZ⟩:=ex W3.drew;rw[<- MZ] at eU hsz ⊢;have ZX:=ai hsz;have gu:=ai (Dj.o WD eU.o);clear MZ hsz;refine cN 0 gu.o ?_ ?_ ?_;rotate_left 1
    · intro V h;obtain⟨k0,k1,k2⟩:=gq.o V h;go_simp;try with_reducible rfl
    refine cN 2 gu.o ?_ ?_ ?_;rotate_left 1
    · intro V h;obtain⟨k0,k1,k2⟩:=gq.o V h;go_simp;try with_reducible rfl
    refine cN 4 gu.o ?_ ?_ ?_;rotate_left 1
    · intro V h;obtain⟨k0,k1,k2⟩:=gq.o V h;go_simp;try with_reducible rfl
    refine cN 5 gu.o ?_ ?_ ?_;rotate_left 1
    · intro V h;obtain⟨k0,k1,k2⟩:=gq.o V h;go_simp;try with_reducible rfl
    refine bW (rs:=[1,6]) (by kernel_rfl) (by simp) ?_;refine aJ.cons rfl (fun K hK=>?_) (aJ.cons rfl (fun K hK=>?_) aJ.nil)
    · go_simp;refine hK.out _ _ (fun _=>?_) ?_
      · exact Dj.o _ (eU.o.alloc eU.o.size (.cells #[] 3))
      clear hK K
      try simp only[Act.put,bJ,bI,bH]
      have fV:=ai (eU.o.alloc eU.o.size (.cells #[] 3));refine bW (rs:=[3,6]) (by kernel_rfl) (by simp) ?_;refine aJ.cons rfl (fun K hK=>?_) (aJ.cons rfl (fun K hK=>?_) aJ.nil)
      · have JY:=ai (Ca eU.o.size 3 1);rw[aR (by rfl)];refine dM (P:=Tryz.prog) _ _ 99 rfl W3.heap.size 3 inx (I 0) 1 8 Tryz.underlying99 yG.o Bg.o Bf.o Aj.o rfl (by decide) (.slice (some (Ad WD.heap.size 0)) 0 0) 0 [] rfl JY.o ah held.length ch (held.flatMap dN) rfl (eG dN 1 (fun _=>rfl) held) (vI (Xr.o _ fV.o)) (xS held) (by unfold maxLen;omega) (by omega) fV.o.size ?_;intro vC wC Fe Qb YY;rw[gM,CW] at Fe;obtain⟨aC,cC,hvC,_,_⟩:=aY Fe;subst hvC;have RX:=ai Fe;have Dm:=ai (fV.o.grown Qb fV.o.size (fun q hq=>(JY.o.lt q hq).1));clear Fe Qb YY;refine hK.out _ _ (fun _=>?_) ?_
        · exact Dj.o _ Dm.o
        clear hK K
        try simp only[Act.put,bJ,bI,bH]
        refine bW (rs:=[6]) (by kernel_rfl) (by simp) ?_;refine aJ.cons rfl (fun K hK=>?_) aJ.nil;go_simp;refine hK.out _ _ (fun _=>?_) ?_
        · exact Dj.o _ (Dm.o.alloc Dm.o.size (.cells #[I (a:Int)] 3))
        clear hK K
        try simp only[Act.put,bJ,bI,bH]
        have Pw:=ai (Dm.o.alloc Dm.o.size (.cells #[I (a:Int)] 3));have HR7:=ai (RX.o.alloc (.cells #[I (a:Int)] 3));have BS7:=ai (bO wC #[I (a:Int)] 3);refine bW (rs:=[7]) (by kernel_rfl) (by simp) ?_;refine aJ.cons rfl (fun K hK=>?_) aJ.nil;rw[aR (by rfl)];refine dM (P:=Tryz.prog) _ _ 99 rfl W3.heap.size 3 inx (I 0) 1 8 Tryz.underlying99 yG.o Bg.o Bf.o Aj.o rfl (by decide) (.slice aC held.length cC) held.length (held.flatMap dN) rfl HR7.o (some (Ad wC.heap.size 0)) 1 1 [I (a:Int)] rfl rfl (fun _=>⟨_,rfl,tT BS7.o⟩) (by intro u hu;simp at hu;rw[hu];rfl) (by unfold maxLen;omega) (by omega) Pw.o.size ?_;intro vE wE IH S9 Yg;obtain⟨aE,cE,hvE,_,_⟩:=aY IH;subst hvE;have rD:=ai IH;have J0:=ai (Pw.o.grown S9 Pw.o.size (fun q hq=>(HR7.o.lt q hq).1));clear IH S9 Yg;refine hK.out _ _ (fun _=>?_) ?_
        · exact Dj.o _ J0.o
        clear hK K
        try simp only[Act.put,bJ,bI,bH]
        refine bW (rs:=[8]) (by kernel_rfl) (by simp) ?_;refine aJ.cons rfl (fun K hK=>?_) aJ.nil;rw[aR (by rfl)];go_simp;go_at_call 107;refine(HG3.o _ _ _ _ J0.o rD.o).mono ?_;rintro e w8 ⟨rfl,S8,hk8,hc8,Vh,hn8⟩;have HK8:=ai hk8;have HC8:=ai hc8;have Xy:=ai Vh;have HN8:=ai hn8;clear hk8 hc8 Vh hn8;try go_simp;refine hK.out _ _ (fun _=>?_) ?_
        · exact Xy.o
        clear hK K
        try simp only[Act.put,bJ,bI,bH]
        refine bW (rs:=[9]) (by kernel_rfl) (by simp) ?_;refine aJ.cons rfl (fun K hK=>?_) aJ.nil;go_simp;refine hK.out _ _ (fun g=>absurd rfl g) ?_;refine ij (by kernel_rfl) ?_ _;go_wp2_with fail
        go_meet
        case rel=>exact⟨rfl,S8,HK8.o,HC8.o,Xy.o,HN8.o⟩
      · go_simp;refine hK.out _ _ (fun _=>?_) ?_
        · exact Dj.o _ (fV.o.alloc fV.o.size (.cells #[I (a:Int)] 3))
        clear hK K
        try simp only[Act.put,bJ,bI,bH]
        have SJ:=ai (fV.o.alloc fV.o.size (.cells #[I (a:Int)] 3));have JY:=ai ((Ca eU.o.size 3 1).alloc (.cells #[I (a:Int)] 3));have BS3:Hid (((WD.alloc (.cells #[] 3)).alloc (.cells #[I (a:Int)] 3)).heap[WD.heap.size+1]?=some (.cells #[I (a:Int)] 3 (0,0))):=by have:=bO (WD.alloc (.cells #[] 3)) #[I (a:Int)] 3;rw[ig] at this;exact this
        refine bW (rs:=[3]) (by kernel_rfl) (by simp) ?_;refine aJ.cons rfl (fun K hK=>?_) aJ.nil;rw[aR (by rfl)];refine dM (P:=Tryz.prog) _ _ 99 rfl W3.heap.size 3 inx (I 0) 1 8 Tryz.underlying99 yG.o Bg.o Bf.o Aj.o rfl (by decide) (.slice (some (Ad WD.heap.size 0)) 0 0) 0 [] rfl JY.o ah held.length ch (held.flatMap dN) rfl (eG dN 1 (fun _=>rfl) held) (vI (Xr.o _ SJ.o)) (xS held) (by unfold maxLen;omega) (by omega) SJ.o.size ?_;intro vC wC Fe Qb YY;rw[gM,CW] at Fe;obtain⟨aC,cC,hvC,_,_⟩:=aY Fe;subst hvC;have RX:=ai Fe;have Dm:=ai (SJ.o.grown Qb SJ.o.size (fun q hq=>(JY.o.lt q hq).1));have BS7:=ai ((aM.grown (D:=fun b=>b=WD.heap.size) Qb (fun q hq=>by injection hq with hq;exact hq.symm)).keep BS3.o (by omega));clear Fe Qb YY;refine hK.out _ _ (fun _=>?_) ?_
        · exact Dj.o _ Dm.o
        clear hK K
        try simp only[Act.put,bJ,bI,bH]
        have Pw:=ai Dm.o;have HR7:=ai RX.o;refine bW (rs:=[7]) (by kernel_rfl) (by simp) ?_;refine aJ.cons rfl (fun K hK=>?_) aJ.nil;rw[aR (by rfl)];refine dM (P:=Tryz.prog) _ _ 99 rfl W3.heap.size 3 inx (I 0) 1 8 Tryz.underlying99 yG.o Bg.o Bf.o Aj.o rfl (by decide) (.slice aC held.length cC) held.length (held.flatMap dN) rfl HR7.o (some (Ad (WD.heap.size+1) 0)) 1 1 [I (a:Int)] rfl rfl (fun _=>⟨_,rfl,tT BS7.o⟩) (by intro u hu;simp at hu;rw[hu];rfl) (by unfold maxLen;omega) (by omega) Pw.o.size ?_;intro vE wE IH S9 Yg;obtain⟨aE,cE,hvE,_,_⟩:=aY IH;subst hvE;have rD:=ai IH;have J0:=ai (Pw.o.grown S9 Pw.o.size (fun q hq=>(HR7.o.lt q hq).1));clear IH S9 Yg;refine hK.out _ _ (fun _=>?_) ?_
        · exact Dj.o _ J0.o
        clear hK K
        try simp only[Act.put,bJ,bI,bH]
        refine bW (rs:=[8]) (by kernel_rfl) (by simp) ?_;refine aJ.cons rfl (fun K hK=>?_) aJ.nil;rw[aR (by rfl)];go_simp;go_at_call 107;refine(HG3.o _ _ _ _ J0.o rD.o).mono ?_;rintro e w8 ⟨rfl,S8,hk8,hc8,Vh,hn8⟩;have HK8:=ai hk8;have HC8:=ai hc8;have Xy:=ai Vh;have HN8:=ai hn8;clear hk8 hc8 Vh hn8;try go_simp;refine hK.out _ _ (fun _=>?_) ?_
        · exact Xy.o
        clear hK K
        try simp only[Act.put,bJ,bI,bH]
        refine bW (rs:=[9]) (by kernel_rfl) (by simp) ?_;refine aJ.cons rfl (fun K hK=>?_) aJ.nil;go_simp;refine hK.out _ _ (fun g=>absurd rfl g) ?_;refine ij (by kernel_rfl) ?_ _;go_wp2_with fail
        go_meet
        case rel=>exact⟨rfl,S8,HK8.o,HC8.o,Xy.o,HN8.o⟩
    · go_simp;refine hK.out _ _ (fun _=>?_) ?_
      · exact Dj.o _ (eU.o.alloc eU.o.size (.cells #[I (a:Int)] 3))
      clear hK K
      try simp only[Act.put,bJ,bI,bH]
      have fV:=ai (eU.o.alloc eU.o.size (.cells #[I (a:Int)] 3));refine bW (rs:=[1]) (by kernel_rfl) (by simp) ?_;refine aJ.cons rfl (fun K hK=>?_) aJ.nil;go_simp;refine hK.out _ _ (fun _=>?_) ?_
      · exact Dj.o _ (fV.o.alloc fV.o.size (.cells #[] 3))
      clear hK K
      try simp only[Act.put,bJ,bI,bH]
      have SJ:=ai (fV.o.alloc fV.o.size (.cells #[] 3));have JY:Hid (((WD.alloc (.cells #[I (a:Int)] 3)).alloc (.cells #[] 3)).ownsRow W3.heap.size 3 1 (.slice (some (Ad (WD.heap.size+1) 0)) 0 0) 0 []):=by have:=Ca fV.o.size 3 1;rw[ig] at this;exact this
      have BS3:=ai (bM (bO WD #[I (a:Int)] 3) (.cells #[] 3));refine bW (rs:=[3]) (by kernel_rfl) (by simp) ?_;refine aJ.cons rfl (fun K hK=>?_) aJ.nil;rw[aR (by rfl)];refine dM (P:=Tryz.prog) _ _ 99 rfl W3.heap.size 3 inx (I 0) 1 8 Tryz.underlying99 yG.o Bg.o Bf.o Aj.o rfl (by decide) (.slice (some (Ad (WD.heap.size+1) 0)) 0 0) 0 [] rfl JY.o ah held.length ch (held.flatMap dN) rfl (eG dN 1 (fun _=>rfl) held) (vI (Xr.o _ SJ.o)) (xS held) (by unfold maxLen;omega) (by omega) SJ.o.size ?_;intro vC wC Fe Qb YY;rw[gM,CW] at Fe;obtain⟨aC,cC,hvC,_,_⟩:=aY Fe;subst hvC;have RX:=ai Fe;have Dm:=ai (SJ.o.grown Qb SJ.o.size (fun q hq=>(JY.o.lt q hq).1));have BS7:=ai ((aM.grown (D:=fun b=>b=WD.heap.size+1) Qb (fun q hq=>by injection hq with hq;exact hq.symm)).keep BS3.o (by omega));clear Fe Qb YY;refine hK.out _ _ (fun _=>?_) ?_
      · exact Dj.o _ Dm.o
      clear hK K
      try simp only[Act.put,bJ,bI,bH]
      have Pw:=ai Dm.o;have HR7:=ai RX.o;refine bW (rs:=[7]) (by kernel_rfl) (by simp) ?_;refine aJ.cons rfl (fun K hK=>?_) aJ.nil;rw[aR (by rfl)];refine dM (P:=Tryz.prog) _ _ 99 rfl W3.heap.size 3 inx (I 0) 1 8 Tryz.underlying99 yG.o Bg.o Bf.o Aj.o rfl (by decide) (.slice aC held.length cC) held.length (held.flatMap dN) rfl HR7.o (some (Ad WD.heap.size 0)) 1 1 [I (a:Int)] rfl rfl (fun _=>⟨_,rfl,tT BS7.o⟩) (by intro u hu;simp at hu;rw[hu];rfl) (by unfold maxLen;omega) (by omega) Pw.o.size ?_;intro vE wE IH S9 Yg;obtain⟨aE,cE,hvE,_,_⟩:=aY IH;subst hvE;have rD:=ai IH;have J0:=ai (Pw.o.grown S9 Pw.o.size (fun q hq=>(HR7.o.lt q hq).1));clear IH S9 Yg;refine hK.out _ _ (fun _=>?_) ?_
      · exact Dj.o _ J0.o
      clear hK K
      try simp only[Act.put,bJ,bI,bH]
      refine bW (rs:=[8]) (by kernel_rfl) (by simp) ?_;refine aJ.cons rfl (fun K hK=>?_) aJ.nil;rw[aR (by rfl)];go_simp;go_at_call 107;refine(HG3.o _ _ _ _ J0.o rD.o).mono ?_;rintro e w8 ⟨rfl,S8,hk8,hc8,Vh,hn8⟩;have HK8:=ai hk8;have HC8:=ai hc8;have Xy:=ai Vh;have HN8:=ai hn8;clear hk8 hc8 Vh hn8;try go_simp;refine hK.out _ _ (fun _=>?_) ?_
      · exact Xy.o
      clear hK K
      try simp only[Act.put,bJ,bI,bH]
      refine bW (rs:=[9]) (by kernel_rfl) (by simp) ?_;refine aJ.cons rfl (fun K hK=>?_) aJ.nil;go_simp;refine hK.out _ _ (fun g=>absurd rfl g) ?_;refine ij (by kernel_rfl) ?_ _;go_wp2_with fail
      go_meet
      case rel=>exact⟨rfl,S8,HK8.o,HC8.o,Xy.o,HN8.o⟩
   case rest =>
   obtain⟨rfl,S5,P9,Yf,Bk,hn5⟩:=hcut;obtain⟨W5,ZT⟩:=ex wc;subst ZT;obtain⟨fb,cF,FL,xa⟩:=Om.o W5 S5 P9;obtain⟨d0,d1,d2⟩:=nV Bk;have BE5:=ai Bk;have HN5:=ai hn5;have x1c:=FL.c1;have x0:=FL.x0;have x1:=FL.x1;have x2:=FL.x2;have x3:=FL.x3;have f0:=FL.fz (i2*4);have f1:=FL.fz (i2*4+1);have f2:=FL.fz (i2*4+2);have f3:=FL.fz (i2*4+3);obtain⟨DD,hDD⟩:=ex ((au K2.frames a).data);rw[<- hDD] at xa afU HE;obtain⟨l1,l2⟩:=FL.lay W5 (aK _ _) DD true;have Xq:=ai l1;have Mx:=ai (Yf.trans l2);have hge:¬gE=fb:=fun e=>by have h1:=HN5.o;have h2:=FL.v;have h3:=P9.lF fb (by rw[h2];rfl);rw[e,h3] at h1;cases h1
   clear FL l1 l2 Bk hn5 P9 Yf hDD HG3 Xr Dj p9 tP BE3;go_upto_region 17 with fail;go_region;obtain⟨U,hU⟩:=ex (((((W5.setCell (Ad fb (i2*4)) (.string DD)).setCell (Ad fb (i2*4+1)) (I 1)).setCell (Ad fb (i2*4+2)) (.bool true)).setCell (Ad fb (i2*4+3)) (.bool false)).drew);rw[<- hU];have HKU:Hid (bu lo mb 27 [] U S5 (ez K2 i2 DD true)):=by rw[hU];exact Xq.o.below (aK _ _).drew
   have HCU:Hid (bU S w S5 U):=by rw[hU];exact Mx.o.trans (bU.below (aK _ _).drew)
   have BU:Hid (U.heap[gE]?=some (.cells #[I p,I 1,I (a:Int)] 45 (0,0))):=by rw[hU];exact iM (iM (iM (iM BE5.o fb _ _ hge) fb _ _ hge) fb _ _ hge) fb _ _ hge
   clear hU Xq Mx x0 x1 x2 x3 f0 f1 f2 f3 d0 d1 d2 x1c BE5 xa;have HPC:=ai (aiH.o U S5 _ i2 HKU.o HCU.o rfl);go_upto_region 19 with(go_at_call 108;refine HPC.o.mono ?_;rintro e w6 ⟨rfl,S6,Yd,Ta⟩;have ZB:=ai Yd;have HC6:=ai (HCU.o.trans Ta);have B6:=ai (Ta.keep BU.o HN5.o);have HN6:=ai (Ta.no _ (aT BU.o) HN5.o);clear Yd Ta)
   obtain⟨d0,d1,d2⟩:=nV B6.o;have HLC:=ai (afU.o w6 S6 ZB.o);go_upto_region 20 with(go_at_call 81;refine HLC.o.mono ?_;rintro e w7 ⟨rfl,hk7,hc7⟩;have HK7:=ai hk7;have HC7:=ai (HC6.o.trans hc7);have B7:=ai (hc7.keep B6.o HN6.o);have HN7:=ai (hc7.no _ (aT B6.o) HN6.o);clear hk7 hc7)
   clear d0 d1 d2;obtain⟨d0,d1,d2⟩:=nV B7.o;have f2:=aO B7.o 2;go_wp2;go_meet
   case rel =>
    have kp:aM (fun b=>b=gE) w7 (w7.setCell (Ad gE 2) (I (i2:Int))):=aM.set _ _ _ _ rfl;exact⟨rfl,S6,by rw[HE.o];exact HK7.o.kp kp (fun b hb e=>hb (by rw[e];exact HN7.o)),aaZ.local HC7.o kp (fun b e=>by rw[e];exact HGL.o),by rw[HE.o];exact dD B7.o 2 _,HN7.o⟩
 case rest =>
 obtain⟨rfl,S4,hk4,Nc,hb4,hn4⟩:=hcut;obtain⟨W4,hW4⟩:=ex wc;subst hW4;obtain⟨fb,cF,e1,e2,e3,e4,e5,e6,e7,e8,e9⟩:=Iq.o W4 S4 hk4;obtain⟨d0,d1,d2⟩:=nV hb4;have f3:=e5 (TK.1*4+3);have f2:=e5 (TK.1*4+2);have hge:¬gE=fb:=fun e=>by rw[e,e6] at hn4;cases hn4
 have H7:=ai e7;have H8:=ai e8;have H9:=ai e9;have HC4:=ai Nc;obtain⟨ti,hti⟩:=ex TK.1;rw[<- hti] at e3 e4 d2 f2 f3 H7 H8 amc cV;obtain⟨dt,hdt⟩:=ex ((au TK.2.frames ti).eX);obtain⟨sn,hsn⟩:=ex ((au TK.2.frames ti).seen);rw[<- hdt] at e3;rw[<- hsn] at e4;have arF:(0:Int)<=(ti:Int):=by omega
 clear e5 e6 e7 e8 e9 hk4 Nc hb4 hn4 hti hdt hsn Iq Om aiH afU HG2 HTN HTY p9 tP BE3 HNG;by_cases cw:way=1
 · have wb:(way==1)=true:=by simpa using cw
   have HK9:=ai (H8.o cw);clear cw H7 H8;go_upto_region 21 with fail;go_region;go_upto_region 23 with fail;go_region;go_wp2;exact cV.o _ S4 (HK9.o.below (aK _ _).drew.drew) (((HC4.o.trans (H9.o _ _ _)).trans (H9.o _ _ _)).trans (bU.below (aK _ _).drew.drew))
 · have wb:(way==1)=false:=by simpa using cw
   have HK9:=ai (H7.o cw);clear cw H7 H8;go_upto_region 21 with fail;go_region;go_wp2;exact cV.o _ S4 (HK9.o.below (aK _ _).drew) ((HC4.o.trans (H9.o _ _ _)).trans (bU.below (aK _ _).drew))
end Go.Proofs.YtpgifpeohlllfaaGreat
