import Derived.Test.YtpgifpeohlllfaaGreatGV37
set_option maxHeartbeats 20000000
set_option linter.unusedVariables false
set_option maxRecDepth 100000
set_option linter.unusedSimpArgs false
namespace Go.Proofs.YtpgifpeohlllfaaGreat
namespace Go.Proofs.YtpgifpeohlllfaaGreat
open Go.RowKit
theorem Jx {lo mb:Nat} (k:aN) (S:dN) (w:World) (j:Nat) (p way:Int) (held:List Int) (ah:Option Addr) (ch:Nat) (h:bQ lo mb 27 [] w S k) (hR:bg k) (hj:j<k.aj.length) (hp:cV k j p) (hl:held.length<=1) (hH:kL w S ah held) :
  Calls Tryz.prog 59 #[.pointer (some (Ad mb 0)),I (j:Int),I p,I way,.slice ah held.length ch] w (dK lo mb 27 [] w S (I ((dD k j p way held).1:Int)) (dD k j p way held).2):=by
 have hcc:=hR.c;have hB:=(nV hR hj hp way hl).1;have hPB:=uR hR hj hp (held:=held) (by omega);have hl2:held.length<=2:=by omega
 have G:=mK hR hl2;obtain⟨pb,cP,AP⟩:=h.toiZ.sp (by omega);have c3:=h.c3;rw[AP.v] at c3;have KT:(j:Int)<(k.aj.length:Int):=by omega
 obtain⟨oi,hoi⟩:=ex (bD (ak k.aj j).aW p);obtain⟨i0,alz,hi0⟩:∃i0,(∀m,m<i0->(aI (ak k.aj j).aW m).page≠p)/\(i0=(ak k.aj j).aW.length/\oi=none∨(i0<(ak k.aj j).aW.length/\(aI (ak k.aj j).aW i0).page=p/\oi=some (aI (ak k.aj j).aW i0))):=by
  cases ho:bD (ak k.aj j).aW p with
  | none=>exact⟨_,Ev ho,.inl ⟨rfl,by grind⟩⟩
  | some x =>
   grind [xd]
 obtain⟨ax,nx,cx,ae,ce,L0,hre,har⟩:=Ml h (aaK hR hj) hj AP.v p i0 alz (hi0.imp (fun z=>z.1) (fun z=>⟨z.1,z.2.1⟩));obtain⟨r0,ZQ⟩:=ex ((if i0<(ak k.aj j).aW.length then (i0:Int) else -1));rw[<- ZQ] at L0;have Kz:Hid (∀V,Below w.heap.size w V->Calls Tryz.prog 31 #[.slice ax nx cx,I p] V fun e w'=>e=.returned (.tuple #[.agg #[I (aV (ak k.aj j).aZ p).1.page,I (aV (ak k.aj j).aZ p).1.aR,I (aV (ak k.aj j).aZ p).1.fV,.bool (kq k j p)],.bool (aV (ak k.aj j).aZ p).2])/\Below V.heap.size V w'):=fun V hV=>tC _ _ p V (har.below hV) (hR.sp hj).aZ
 obtain⟨g1,hg1⟩:∃g,g=(aV (ak k.aj j).aZ p).1.page:=⟨_,rfl⟩;obtain⟨g2,hg2⟩:∃g,g=(aV (ak k.aj j).aZ p).1.aR:=⟨_,rfl⟩;obtain⟨g3,hg3⟩:∃g,g=(aV (ak k.aj j).aZ p).1.fV:=⟨_,rfl⟩;obtain⟨g4,hg4⟩:∃g,g=(aV (ak k.aj j).aZ p).2:=⟨_,rfl⟩;obtain⟨zz,hzz⟩:∃z,z=kq k j p:=⟨_,rfl⟩;rw[<- hg1,<- hg2,<- hg3,<- hg4,<- hzz] at Kz;have hzs:zz=false->(dJ k.aA p).isSome=true:=fun e=>(hR.sp hj).aA p hp (by rw[hzz] at e;exact e)
 have HGT:Hid (∀V,Below w.heap.size w V->Calls Tryz.prog 107 #[.pointer (some (Ad mb 0)),.slice ah held.length ch] V (dK lo mb 27 [] V S (I ((bH k held).1:Int)) (bH k held).2)):=fun V hV=>Py k S V held ah ch (h.below hV) hR hl2 (hH.ch (dI.below hV))
 have Wa:Hid (∀V S' (K:aN) (i:Nat),bQ lo mb 27 [] V S' K->S'.vP=S.vP->K.aj=(bH k held).2.aj->Calls Tryz.prog 108 #[.pointer (some (Ad pb (j*3))),.agg #[I p,I 1,I (i:Int)]] V (dK lo mb 27 [] V S' (.tuple #[]) (dW K j ⟨p,1,i⟩))):=fun V S' K i h1 h2 h3=>by
  have hjj:j<(bH k held).2.aj.length:=by rw[G.kept.np];exact hj
  exact Pw K S' V j ⟨p,1,i⟩ h1 (by rw[h3];exact hjj) (h2.trans AP.v) (by rw[h3];have:=jC G.right hjj;omega) (by rw[h3];exact(G.right.sp hjj).lQ)
 obtain⟨KF,hKF⟩:=ex ((dD k j p way held));obtain⟨KP,hKP⟩:=ex (di k j p held);rw[<- hKP] at hPB;have cZ:Hid (∀V S',bQ lo mb 27 [] V S' KF.2->dI S w S' V->dK lo mb 27 [] w S (I (KF.1:Int)) KF.2 (.returned (I (KF.1:Int))) V):=fun V S' h1 h2=>⟨rfl,S',h1,h2⟩
 rw[<- hKF];obtain⟨P,hP⟩:=ex (dK lo mb 27 [] w S (I (KF.1:Int)) KF.2);rw[<- hP] at cZ ⊢;have HK:=ai h;have HNE:Hid (∀(V:World),w.heap.size<=V.heap.size->∀g,V.heap.size<=g->S.lab g=.no):=fun V hV g hg=>h.toiZ.new (by omega)
 have HCW:Hid (∀V,Below w.heap.size w V->V.cell? (Ad pb (j*3))=some (.bool (ak k.aj j).live)/\V.cell? (Ad pb (j*3+1))=some (.slice ax nx cx)/\V.cell? (Ad pb (j*3+2))=some (.slice ae (ak k.aj j).aW.length ce)):=fun V hV=>⟨(hV.cell (p:=(Ad pb (j*3))) L0.lt).trans L0.y0,(hV.cell (p:=(Ad pb (j*3+1))) L0.lt).trans L0.y1,(hV.cell (p:=(Ad pb (j*3+2))) L0.lt).trans L0.y2⟩
 have Qp:=ai L0.call;obtain⟨lv,hlv⟩:=ex ((ak k.aj j).live);obtain⟨es,hes⟩:=ex ((ak k.aj j).aW);rw[<- hlv,<- hes] at HCW Qp;have akl:=ai hre;rw[<- hes] at akl ZQ hi0;have HNP:Hid (j<KP.2.aj.length):=by rw[hPB.kept.np];exact hj
 have qj:=ai ZQ;have HI0:=ai hi0;obtain⟨K1,Cg⟩:=ex ((bH k held).2);obtain⟨i1,hi1⟩:=ex ((bH k held).1);have DR:bg K1:=by rw[Cg];exact G.right
 have alH:i1<K1.frames.length:=by rw[Cg,hi1,G.kept.nf];exact G.lt
 have QI:j<K1.aj.length:=by rw[Cg,G.kept.np];exact hj
 have hz1:zz=false->(dJ K1.aA p).isSome=true:=by rw[Cg,G.kept.aA];exact hzs
 have ai2:=DR.c;rw[<- Cg,<- hi1] at HGT;rw[<- Cg] at Wa;have ZL:Hid (∀V S',bQ lo mb 27 [] V S' K1->∃fb cF,Jz lo mb 27 [] V S' K1 i1 fb cF):=fun V S' hV=>Lm hV alH
 have HFO:Hid (∀V S' fb cF,bQ lo mb 27 [] V S' K1->dI S w S' V->S'.vF=.slice (some (Ad fb 0)) K1.frames.length cF->∃vS nS cS vL nL cL,PI mb V K1 p zz vS nS cS fb cF vL nL cL pb k.aj.length cP):=fun V S' fb cF h1 h2 h3=>Yt h1 DR hz1 h3 (h2.eP.trans AP.v)
 have Y3:Hid (oi=none->KP.2=dW (fC K1 i1 (eH K1.aA p zz) false) j ⟨p,1,i1⟩):=fun e=>by
  have:=U7 hR hj hl2 (by rw[<- hoi];exact e);rw[hKP,this,<- Cg,<- hi1,<- hzz]
 have HSW:Hid (∀e,oi=some e->e.kind≠1->e.kind=2/\KP.2=df (dW (fC K1 i1 (bw K1.slots e.loc.toNat).data true) j ⟨p,1,i1⟩) e/\(∃el:Nat,e.loc=(el:Int)/\(el:Int)<(K1.slots.length:Int)/\∀V S',bQ lo mb 27 [] V S' K1->dI S w S' V->(∃lv ax nx cx gb ne ce i,EA V j p pb e lv ax nx cx gb ne ce i)/\∃lb cL,V.cell? (Ad mb 2)=some (.slice (some (Ad lb 0)) K1.slots.length cL)/\V.cell? (Ad lb (el*2))=some (.string (bw K1.slots e.loc.toNat).data)) /\
   (∀V S',bQ lo mb 27 [] V S' (dW (fC K1 i1 (bw K1.slots e.loc.toNat).data true) j ⟨p,1,i1⟩)->Calls Tryz.prog 81 #[.pointer (some (Ad mb 0)),.agg #[I e.page,I e.kind,I e.loc]] V (kW lo mb 27 [] V S' (.tuple #[]) KP.2))):=fun e he hk=>by
  obtain⟨e1,e2⟩:=U6 hR hj hl2 (e:=e) (by rw[<- hoi];exact he) hk;rw[<- Cg] at e1;rw[<- Cg,<- hi1] at e2;have hb:=(iQ DR QI (ma e1)).resolve_left (fun y=>hk y.1);have hrf:=(o7 DR).2 e.loc.toNat (by omega);have amk:KP.2=df (dW (fC K1 i1 (bw K1.slots e.loc.toNat).data true) j ⟨p,1,i1⟩) e:=by rw[hKP,e2]
  refine⟨hb.1,amk,⟨e.loc.toNat,by omega,by omega,fun V S' h1 h2=>⟨Lp h1 (aaK DR QI) QI (h2.eP.trans AP.v) e1,?_⟩⟩,fun V S' h1=>?_⟩
  · obtain⟨lb,cL,AL⟩:=h1.toiZ.sl (by omega);have c2:=h1.c2;rw[AL.v] at c2;exact⟨lb,cL,c2,AL.x0 _ (by omega)⟩
  · rw[amk];exact CT _ S' V e h1 (fun c=>absurd c hk) (fun _=>by show 0<=e.loc/\e.loc<(K1.slots.length:Int);omega) ⟨fun c=>absurd c hk,fun _=>by show -1000000<=(bw K1.slots e.loc.toNat).refs/\(bw K1.slots e.loc.toNat).refs<=1000000;omega⟩
 have HHR:Hid (∀e,oi=some e->e.kind=1->KP.2=k):=fun e he hk=>by rw[hKP,U8 held (e:=e) (by rw[<- hoi];exact he) hk]
 obtain⟨a,ha⟩:=ex KP.1;have hRP:=hPB.right;have hjP:=HNP.o;have Xi:=hPB.here;rw[<- ha] at Xi;have Ic:Hid (∀V S',bQ lo mb 27 [] V S' KP.2->dI S w S' V->∃lv ax nx cx gb ne ce i,EA V j p pb ⟨p,1,(a:Int)⟩ lv ax nx cx gb ne ce i):=fun V S' h1 h2=>Lp h1 (aaK hRP hjP) hjP (h2.eP.trans AP.v) Xi
 have aps:KP.2.frames.length=k.frames.length:=hPB.kept.nf;obtain⟨hal,al7⟩:=yX hRP hjP Xi;have zx:Hid (∀V S',bQ lo mb 27 [] V S' KP.2->∃fb cF,Jz lo mb 27 [] V S' KP.2 a fb cF):=fun V S' hV=>Lm hV hal
 have api:=(o7 hRP).1 a hal;obtain⟨TK,hTK⟩:=ex (gX k j p way held);obtain⟨CB,hCB⟩:=ex ((decide (way=1)&&decide (1<(au KP.2.frames a).refs)));have ama:CB=false->TK=(a,KP.2):=fun e=>by
  rw[hTK];unfold gX;rw[<- hKP];by_cases c:way=1
  · rw[bf c,<- ha];unfold jz;rw[bf (by rw[hCB,dh c,ni,T9] at e;omega)]
  · rw[bl c,ha]
 have G1:=hl;have hl3:(held++[(a:Int)]).length<=2:=by rw[gh,zN];omega
 have GA:=mK hRP hl3;obtain⟨K2,hK2⟩:=ex ((bH KP.2 (held++[(a:Int)])).2);obtain⟨i2,hi2⟩:=ex ((bH KP.2 (held++[(a:Int)])).1);have OC:bg K2:=by rw[hK2];exact GA.right
 have aiV:i2<K2.frames.length:=by rw[hK2,hi2,GA.kept.nf];exact GA.lt
 have hj2:j<K2.aj.length:=by rw[hK2,GA.kept.np];exact hjP
 have ai6:a<K2.frames.length:=by rw[hK2,GA.kept.nf];exact hal
 have hhF:=GA.L5 a (lT.2 (.inr (by simp))) al7;rw[<- hK2,<- hi2] at hhF;have HG2:Hid (∀V S' ah' n' ch',bQ lo mb 27 [] V S' KP.2->n'=(held++[(a:Int)]).length->kL V S' ah' (held++[(a:Int)])->Calls Tryz.prog 107 #[.pointer (some (Ad mb 0)),.slice ah' n' ch'] V (dK lo mb 27 [] V S' (I (i2:Int)) K2)):=fun V S' ah' n' ch' h1 hn h2=>by
  have:=Py KP.2 S' V (held++[(a:Int)]) ah' ch' h1 hRP hl3 h2;rw[<- hK2,<- hi2] at this;rw[hn];exact this
 have Sl:Hid (∀V S',bQ lo mb 27 [] V S' K2->∃fb cF,Jz lo mb 27 [] V S' K2 i2 fb cF/\V.cell? (Ad fb (a*4))=some (.string (au K2.frames a).data)):=fun V S' hV=>by
  obtain⟨fb,cF,L⟩:=Lm hV aiV;exact⟨fb,cF,L,(L.at_ a ai6).1⟩
 have ah7:CB=true->TK=(i2,df (dW (fC K2 i2 (au K2.frames a).data true) j ⟨p,1,i2⟩) ⟨p,1,a⟩):=fun e=>by
  rw[hCB,dR,iV,iV] at e;rw[hTK];unfold gX;rw[bf e.1,<- hKP,<- ha,aaQ hRP hjP hl Xi (by omega),<- hK2,<- hi2]
 have HTN:=ai ama;have HTY:=ai ah7;have am3:Hid (∀V S' (K:aN) (i:Nat),bQ lo mb 27 [] V S' K->dI S w S' V->K.aj=K2.aj->Calls Tryz.prog 108 #[.pointer (some (Ad pb (j*3))),.agg #[I p,I 1,I (i:Int)]] V (dK lo mb 27 [] V S' (.tuple #[]) (dW K j ⟨p,1,i⟩))):=fun V S' K i h1 h2 h3=>Pw K S' V j ⟨p,1,i⟩ h1 (by rw[h3];exact hj2) (h2.eP.trans AP.v) (by rw[h3];have:=jC OC hj2;omega) (by rw[h3];exact(OC.sp hj2).lQ)
 have aj6:Hid (∀V S',bQ lo mb 27 [] V S' (dW (fC K2 i2 (au K2.frames a).data true) j ⟨p,1,i2⟩)->Calls Tryz.prog 81 #[.pointer (some (Ad mb 0)),.agg #[I p,I 1,I (a:Int)]] V (kW lo mb 27 [] V S' (.tuple #[]) (df (dW (fC K2 i2 (au K2.frames a).data true) j ⟨p,1,i2⟩) ⟨p,1,a⟩))):=fun V S' h1=>by
  have hlf:(fC K2 i2 (au K2.frames a).data true).frames.length=K2.frames.length:=jk;have hfa:au (fC K2 i2 (au K2.frames a).data true).frames a=au K2.frames a:=by
   show au (K2.frames.set i2 _) a=_;rw[jc _ _ _ _ aiV,bl (fun e=>hhF.1 e.symm)]
  have avg:=(o7 OC).1 a ai6;exact CT _ S' V ⟨p,1,a⟩ h1 (fun _=>by show 0<=(a:Int)/\(a:Int)<((fC K2 i2 (au K2.frames a).data true).frames.length:Int);omega) (fun c=>absurd rfl c) ⟨fun _=>by show -1000000<=(au (fC K2 i2 (au K2.frames a).data true).frames (a:Int).toNat).refs/\(au (fC K2 i2 (au K2.frames a).data true).frames (a:Int).toNat).refs<=1000000;rw[iu,hfa];omega,fun c=>absurd rfl c⟩
 have hTl:TK.1<TK.2.frames.length:=by
  have e1:=hB.lt;have e2:=hB.kept.nf;rw[hTK];show(dD k j p way held).1<_;have e3:(dD k j p way held).2.frames.length=(gX k j p way held).2.frames.length:=jk;omega
 have aml:KF.1=TK.1:=by rw[hKF,hTK];rfl
 have ajg:KF.2={ TK.2 with frames:=TK.2.frames.set TK.1 (sD way (au TK.2.frames TK.1)) }:=by rw[hKF,hTK];rfl
 have Di:Hid (∀V S',bQ lo mb 27 [] V S' TK.2->∃fb cF,V.cell? (Ad mb 1)=some (.slice (some (Ad fb 0)) TK.2.frames.length cF)/\¬mb=fb/\V.cell? (Ad fb (TK.1*4+2))=some (.bool (au TK.2.frames TK.1).fN)/\V.cell? (Ad fb (TK.1*4+3))=some (.bool (au TK.2.frames TK.1).seen)/\(∀o,V.frozen? (Ad fb o)=false)/\S'.lab fb=.frames /\
   (way≠1->bQ lo mb 27 [] (V.setCell (Ad fb (TK.1*4+3)) (.bool true)) S' KF.2)/\(way=1->bQ lo mb 27 [] ((V.setCell (Ad fb (TK.1*4+3)) (.bool true)).setCell (Ad fb (TK.1*4+2)) (.bool true)) S' KF.2)/\∀U o u,dI S' U S' (U.setCell (Ad fb o) u)):=fun V S' hV=>by
  obtain⟨fb,cF,A⟩:=hV.toiZ.fr (by omega);have c1:=hV.c1;rw[A.v] at c1;refine⟨fb,cF,c1,fun e=>by have:=A.lab;rw[<- e,hV.lH] at this;simp at this,A.x2 _ hTl,A.x3 _ hTl,A.fz,A.lab,fun hw=>?_,fun hw=>?_,fun U o u=>tV hV.toiZ A.v⟩
  · rw[ajg];refine hV.Ch A.v hTl (j:=3) (by omega) ?_;unfold sD;rw[dE hw,Bool.or_false];rfl
  · have m1:=hV.Ch A.v hTl (j:=3) (by omega) (f:=⟨(au TK.2.frames TK.1).data,(au TK.2.frames TK.1).refs,(au TK.2.frames TK.1).fN,true⟩) (u:=.bool true) rfl;have m2:=m1.Ch A.v (i:=TK.1) (by simpa using hTl) (j:=2) (by omega) (f:=sD way (au TK.2.frames TK.1)) (u:=.bool true) (by
     simp only[au,eX _ _ _ _ hTl];unfold sD;rw[dh hw,Bool.or_true];rfl)
    simp only[rh] at m2;rw[ajg];exact m2
 have HHE:=ai hH;have hlh:held.length<=1:=hl;obtain⟨nf,rU⟩:=ex KP.2.frames.length;obtain⟨nt,hnt⟩:=ex TK.2.frames.length;have ap0:(TK.1:Int)<(nt:Int):=by omega
 rw[<- hnt] at Di;have hai:(a:Int)<(nf:Int):=by omega
 obtain⟨RA,hRA⟩:=ex ((au KP.2.frames a).refs);rw[<- hRA] at hCB;have HCB:=ai hCB;have Gg:=ai hRA;have Wc:=ai rU;rw[aml] at cZ;obtain⟨inx,hin,hz0,ala,hz2⟩:=iq F7;have tP:=ai hin;have Dg:=ai hz0;have Df:=ai ala;have BI:=ai hz2;have avM:(i1:Int)<(K1.frames.length:Int):=by omega
 have avL:(i2:Int)<(K2.frames.length:Int):=by omega
 have ai7:(a:Int)<(K2.frames.length:Int):=by omega
 have hel:es.length<=1000:=by rw[hes];have:=jC hR hj;omega
 clear h hR hj hp hl hH hB hPB G AP L0 hre har alz hi0 ZQ hg1 hg2 hg3 hg4 hzz hzs hKF hKP hP hoi hlv hes Cg hi1 DR alH QI hz1 ai2 hcc ha hRP hjP Xi aps hal al7 api hTK ama ah7 G1 hl3 GA hK2 hi2 OC aiV hj2 ai6 hhF hTl aml ajg hCB hRA rU hnt hl2 HNP hin hz0 ala hz2;go_enter Tryz.func59,Tryz.ntmps59;obtain⟨q0,q1,q2⟩:=HCW.o w (aK _ _);go_upto_if 41 with(first
  | (go_at_call 31;refine(Kz.o _ (aK _ _)).mono ?_;rintro e w1 ⟨rfl,hb1⟩;have cT:=ai hb1;have AB:=ai (bG w1 #[I g1,I g2,I g3,.bool zz] 47);have gK:=ai (cT.o.alloc cT.o.size (.cells #[I g1,I g2,I g3,.bool zz] 47));clear q0 q1 q2;obtain⟨q0,q1,q2⟩:=HCW.o _ gK.o;clear hb1)
  | (go_at_call 67;refine(Qp.o _ gK.o).mono ?_;rintro e w2 ⟨rfl,hb2⟩;have fq:=ai (gK.o.trans (hb2.mono gK.o.size));have AB2:=ai (aQ AB.o hb2 (aO AB.o));have QN:=ai (HNE.o w1 cT.o.size w1.heap.size (aM _));clear hb2))
 clear q0 q1 q2 AB gK Qp;obtain⟨ab,hab⟩:=ex w1.heap.size;rw[<- hab] at AB2 QN ⊢;clear hab cT;go_cut [11] (fun x11 wx=>x11=.pointer (some (Ad pb (j*3)))/\∃S1,bQ lo mb 27 [] wx S1 KP.2/\dI S w S1 wx)
 case first =>
  rcases HI0.o with⟨Gd,hoo⟩ | ⟨Gd,xw,hoo⟩
  · have hr:r0=-1:=by rw[qj.o,Gd,bl (Ih _)]
    have ZK:=ai (Y3.o hoo);subst hr;clear HSW HHR Y3 HI0 qj hoo Gd;go_upto_region 6 with(go_at_call 107;refine(HGT.o _ fq.o).mono ?_;rintro e w3 ⟨rfl,S3,hk3,hc3⟩;have sX:=ai hk3;have vO:=ai ((dI.below fq.o).trans hc3);have AB3:=ai (hc3.keep AB2.o QN.o);clear hk3 hc3)
    obtain⟨fb,cF,FL⟩:=ZL.o w3 S3 sX.o;obtain⟨vS,nS,cS,vL,nL,cL,FO⟩:=HFO.o w3 S3 fb cF sX.o vO.o FL.v;have ij:Hid (∀V,Below w3.heap.size w3 V->V.cell? (Ad mb 0)=some (.slice vS nS cS)/\V.cell? (Ad mb 1)=some (.slice (some (Ad fb 0)) K1.frames.length cF)/\V.cell? (Ad mb 2)=some (.slice vL nL cL)/\V.cell? (Ad mb 3)=some (.slice (some (Ad pb 0)) k.aj.length cP)/\V.cell? (Ad mb 4)=some (I K1.hand)/\V.cell? (Ad ab 0)=some (I g1)/\V.cell? (Ad ab 1)=some (I g2)/\V.cell? (Ad ab 2)=some (I g3)/\V.cell? (Ad ab 3)=some (.bool zz)):=fun V hV=>by
     have ABV:=aQ AB3.o hV (aO AB3.o);exact⟨(hV.cell (p:=(Ad mb 0)) FO.lt).trans FO.c0,(hV.cell (p:=(Ad mb 1)) FO.lt).trans FL.c1,(hV.cell (p:=(Ad mb 2)) FO.lt).trans FO.c2,(hV.cell (p:=(Ad mb 3)) FO.lt).trans FO.c3,(hV.cell (p:=(Ad mb 4)) FO.lt).trans FO.c4,aB ABV 0 rfl,aB ABV 1 rfl,aB ABV 2 rfl,aB ABV 3 rfl⟩
    have HCX:Hid (∀V,Below w3.heap.size w3 V->V.cell? (Ad fb (i1*4))=some (.string (au K1.frames i1).data)/\V.cell? (Ad fb (i1*4+1))=some (I (au K1.frames i1).refs)/\V.cell? (Ad fb (i1*4+2))=some (.bool (au K1.frames i1).fN)/\V.cell? (Ad fb (i1*4+3))=some (.bool (au K1.frames i1).seen)/\∀o,V.frozen? (Ad fb o)=false):=fun V hV=>⟨(hV.cell (p:=(Ad fb (i1*4))) FL.lt).trans FL.x0,(hV.cell (p:=(Ad fb (i1*4+1))) FL.lt).trans FL.x1,(hV.cell (p:=(Ad fb (i1*4+2))) FL.lt).trans FL.x2,(hV.cell (p:=(Ad fb (i1*4+3))) FL.lt).trans FL.x3,fun o=>(hV.frozen (p:=(Ad fb o)) FL.lt).trans (FL.fz o)⟩
    have HFC:=ai (fun V hV=>FO.call V hV g1 g2 g3);have HLY:=ai FL.lay;clear FL FO;refine nB (S:=fun V=>Below w3.heap.size w3 V) (z:=13) (by kernel_rfl) ?_;have gj:Hid (Below w3.heap.size w3 w3.drew):=(aK _ _).drew;obtain⟨WD,Gn⟩:=ex w3.drew;rw[<- Gn] at gj ⊢;clear Gn;refine cB 0 gj.o ?_ ?_ ?_;rotate_left 1
    · intro V h;obtain⟨k0,k1,k2,k3,k4,k5,k6,k7,k8⟩:=ij.o V h;go_simp;try with_reducible rfl
    refine cB 1 gj.o ?_ ?_ ?_;rotate_left 1
    · intro V h;obtain⟨k0,k1,k2,k3,k4,k5,k6,k7,k8⟩:=ij.o V h;go_simp;try with_reducible rfl
    refine cB 2 gj.o ?_ ?_ ?_;rotate_left 1
    · intro V h;obtain⟨k0,k1,k2,k3,k4,k5,k6,k7,k8⟩:=ij.o V h;go_simp;try with_reducible rfl
    refine cB 3 gj.o ?_ ?_ ?_;rotate_left 1
    · intro V h;obtain⟨k0,k1,k2,k3,k4,k5,k6,k7,k8⟩:=ij.o V h;go_simp;try with_reducible rfl
    refine cB 4 gj.o ?_ ?_ ?_;rotate_left 1
    · intro V h;obtain⟨k0,k1,k2,k3,k4,k5,k6,k7,k8⟩:=ij.o V h;go_simp;try with_reducible rfl
    refine cB 5 gj.o ?_ ?_ ?_;rotate_left 1
    · intro V h;obtain⟨k0,k1,k2,k3,k4,k5,k6,k7,k8⟩:=ij.o V h;go_simp;try with_reducible rfl
    refine cB 6 gj.o ?_ ?_ ?_;rotate_left 1
    · intro V h;obtain⟨k0,k1,k2,k3,k4,k5,k6,k7,k8⟩:=ij.o V h;go_simp;try with_reducible rfl
    refine cB 7 gj.o ?_ ?_ ?_;rotate_left 1
    · intro V h;obtain⟨k0,k1,k2,k3,k4,k5,k6,k7,k8⟩:=ij.o V h;go_simp;try with_reducible rfl
    refine cB 8 gj.o ?_ ?_ ?_;rotate_left 1
    · intro V h;obtain⟨k0,k1,k2,k3,k4,k5,k6,k7,k8⟩:=ij.o V h;go_simp;try with_reducible rfl
    refine cB 9 gj.o ?_ ?_ ?_;rotate_left 1
    · intro V h;obtain⟨k0,k1,k2,k3,k4,k5,k6,k7,k8⟩:=ij.o V h;go_simp;try with_reducible rfl
    refine ck (rs:=[10]) (by kernel_rfl) (by simp) ?_;refine aU.cons rfl (fun K hK=>?_) aU.nil;rw[bf (by rfl)];go_simp;go_at_call 49;refine(HFC.o _ gj.o).mono ?_;rintro e w4 ⟨rfl,hb4⟩;have mg:=ai (gj.o.trans (hb4.mono gj.o.size));clear hb4;try go_simp;refine hK.out _ _ (fun _=>?_) ?_
    · exact mg.o
    clear hK K
    try simp only[Act.put,bW,bV,bU]
    obtain⟨DD,hDD⟩:=ex (eH K1.aA p zz);rw[<- hDD];have HDD:=ai hDD;clear hDD;refine cB 11 mg.o ?_ ?_ ?_;rotate_left 1
    · intro V h;obtain⟨k0,k1,k2,k3,k4,k5,k6,k7,k8⟩:=ij.o V h;go_simp;try with_reducible rfl
    refine cB 12 mg.o ?_ ?_ ?_;rotate_left 1
    · intro V h;obtain⟨k0,k1,k2,k3,k4,k5,k6,k7,k8⟩:=ij.o V h;go_simp;try with_reducible rfl
    obtain⟨x0,x1,x2,x3,xf⟩:=HCX.o _ mg.o;have f0:=xf (i1*4);have f1:=xf (i1*4+1);have f2:=xf (i1*4+2);have f3:=xf (i1*4+3);clear xf;refine ck (rs:=[13]) (by kernel_rfl) (by simp) ?_;refine aU.cons rfl (fun K hK=>?_) aU.nil;go_simp;refine hK.out _ _ (fun g=>absurd rfl g) ?_;refine jL (by kernel_rfl) ?_ _;obtain⟨U,hU⟩:=ex ((((w4.setCell (Ad fb (i1*4)) (.string DD)).setCell (Ad fb (i1*4+1)) (I 1)).setCell (Ad fb (i1*4+2)) (.bool false)).setCell (Ad fb (i1*4+3)) (.bool false));obtain⟨l1,l2⟩:=HLY.o w4 mg.o DD false;rw[<- hU] at l1 l2 ⊢;have Bj:=ai l1;have HC5:=ai (vO.o.trans l2);clear l1 l2 hU x0 x1 x2 x3 f0 f1 f2 f3;have HPC:=ai (Wa.o U S3 _ i1 Bj.o HC5.o.eP rfl);go_wp2_with (go_at_call 108;refine HPC.o.mono ?_;rintro e w6 ⟨rfl,S6,Xf,Xk⟩;have HK6:=ai Xf;have HC6:=ai (HC5.o.trans Xk);clear Xf Xk)
    go_meet
    case rel=>exact⟨rfl,S6,by rw[ZK.o,<- HDD.o];exact HK6.o,HC6.o⟩
  · have hr:r0=(i0:Int):=by rw[qj.o,bf Gd]
    subst hr;obtain⟨eb,eo,e1,_,e3⟩:=(akl.o.below fq.o) (by omega);have z1:=e3 i0 Gd 1 (by omega);obtain⟨E0,hE0⟩:=ex (aI es i0);rw[show es.getD i0 eD=E0 from hE0.symm] at z1;rw[<- hE0] at hoo;obtain⟨ep,ek,el0⟩:=E0;replace z1:w2.cell? (Ad eb (eo+i0*3+1))=some (I ek):=z1;obtain⟨q0,q1,q2⟩:=HCW.o w2 fq.o;rw[e1] at q2;have avI:(i0:Int)<(es.length:Int):=by omega
    have avK:¬(i0:Int)<0:=by omega
    have avJ:(0:Int)<=(i0:Int):=by omega
    by_cases hk:ek=1
    · have ZK:=ai (HHR.o _ hoo hk);have kb:(ek==2)=false:=by rw[hk];rfl
      clear HSW HHR Y3 HI0 qj hoo Gd hk xw e1 e3 hE0;go_wp2;go_meet
      case rel=>exact⟨rfl,S,by rw[ZK.o];exact HK.o.below fq.o,dI.below fq.o⟩
    · obtain⟨hk2,hKE,⟨el,agF,avX,hrd⟩,hlv⟩:=HSW.o _ hoo hk;simp only at hk2 agF hrd hlv hKE;rw[agF,iu] at hrd hlv;have Kv:=ai hrd;have zE:=ai hlv;have kb:(ek==2)=true:=by rw[hk2];rfl
      clear HSW HHR Y3 HI0 qj hoo Gd hk xw e1 e3 hE0 hKE hk2 hrd hlv;subst agF;go_upto_region 10 with(go_at_call 107;refine(HGT.o _ fq.o).mono ?_;rintro e w3 ⟨rfl,S3,hk3,hc3⟩;have sX:=ai hk3;have vO:=ai ((dI.below fq.o).trans hc3);clear hk3 hc3)
      clear q0 q1 q2 z1;obtain⟨⟨lv2,ax2,nx2,cx2,gb,ne,ce2,ei,E⟩,lb,cL,s2,s3⟩:=Kv.o w3 S3 sX.o vO.o;have Bk:=sX.o.lt;have hll:=nQ w3 _ s3;have ij:Hid (∀V,Below w3.heap.size w3 V->V.cell? (Ad pb (j*3))=some (.bool lv2)/\V.cell? (Ad pb (j*3+1))=some (.slice ax2 nx2 cx2)/\V.cell? (Ad pb (j*3+2))=some (.slice (some (Ad gb 0)) ne ce2)/\V.cell? (Ad gb (ei*3))=some (I ep)/\V.cell? (Ad gb (ei*3+1))=some (I ek)/\V.cell? (Ad gb (ei*3+2))=some (I (el:Int))):=fun V hV=>⟨(hV.cell (p:=(Ad pb (j*3))) E.lt).trans E.y0,(hV.cell (p:=(Ad pb (j*3+1))) E.lt).trans E.y1,(hV.cell (p:=(Ad pb (j*3+2))) E.lt).trans E.y2,(hV.cell (p:=(Ad gb (ei*3))) E.gl).trans E.z0,(hV.cell (p:=(Ad gb (ei*3+1))) E.gl).trans E.z1,(hV.cell (p:=(Ad gb (ei*3+2))) E.gl).trans E.z2⟩
      have HEC:=ai E.call;have hil:=E.il;have hi0:(0:Int)<=(ei:Int):=by omega
      clear E;go_cut [17] (fun x wx=>∃g,x=.pointer (some (Ad g 0))/\w3.heap.size<=g/\wx.heap[g]?=some (.cells #[I ep,I ek,I (el:Int)] 45 (0,0))/\Below w3.heap.size w3 wx)
      case first =>
       refine nB (S:=fun V=>Below w3.heap.size w3 V) (z:=12) (by kernel_rfl) ?_;have gj:Hid (Below w3.heap.size w3 w3.drew):=(aK _ _).drew;obtain⟨WD,Gn⟩:=ex w3.drew;rw[<- Gn] at gj ⊢;clear Gn;refine cB 0 gj.o ?_ ?_ ?_;rotate_left 1
       · intro V h;obtain⟨k0,k1,k2,k3,k4,k5⟩:=ij.o V h;go_simp;try with_reducible rfl
       refine cB 1 gj.o ?_ ?_ ?_;rotate_left 1
       · intro V h;obtain⟨k0,k1,k2,k3,k4,k5⟩:=ij.o V h;go_simp;try with_reducible rfl
       refine cB 2 gj.o ?_ ?_ ?_;rotate_left 1
       · intro V h;obtain⟨k0,k1,k2,k3,k4,k5⟩:=ij.o V h;go_simp;try with_reducible rfl
       refine cB 3 gj.o ?_ ?_ ?_;rotate_left 1
       · intro V h;obtain⟨k0,k1,k2,k3,k4,k5⟩:=ij.o V h;go_simp;try with_reducible rfl
       refine cB 4 gj.o ?_ ?_ ?_;rotate_left 1
       · intro V h;obtain⟨k0,k1,k2,k3,k4,k5⟩:=ij.o V h;go_simp;try with_reducible rfl
       refine cB 5 gj.o ?_ ?_ ?_;rotate_left 1
       · intro V h;obtain⟨k0,k1,k2,k3,k4,k5⟩:=ij.o V h;go_simp;try with_reducible rfl
       refine cB 6 gj.o ?_ ?_ ?_;rotate_left 1
       · intro V h;obtain⟨k0,k1,k2,k3,k4,k5⟩:=ij.o V h;go_simp;try with_reducible rfl
       refine cB 7 gj.o ?_ ?_ ?_;rotate_left 1
       · intro V h;obtain⟨k0,k1,k2,k3,k4,k5⟩:=ij.o V h;go_simp;try with_reducible rfl
       refine ck (rs:=[8,11]) (by kernel_rfl) (by simp) ?_;refine aU.cons rfl (fun K hK=>?_) (aU.cons rfl (fun K hK=>?_) aU.nil)
       · rw[bf (by rfl)];go_simp;go_at_call 67;refine(HEC.o _ (gj.o)).mono ?_;rintro e w1 ⟨rfl,hb1⟩;have mg:=ai ((gj.o).trans (hb1.mono (gj.o).size));clear hb1;try go_simp;refine hK.out _ _ (fun _=>?_) ?_
         · exact mg.o
         clear hK K
         try simp only[Act.put,bW,bV,bU]
         refine cB 9 mg.o ?_ ?_ ?_;rotate_left 1
         · intro V h;obtain⟨k0,k1,k2,k3,k4,k5⟩:=ij.o V h;go_simp;try with_reducible rfl
         refine cB 10 mg.o ?_ ?_ ?_;rotate_left 1
         · intro V h;obtain⟨k0,k1,k2,k3,k4,k5⟩:=ij.o V h;go_simp;try with_reducible rfl
         refine ck (rs:=[11]) (by kernel_rfl) (by simp) ?_;refine aU.cons rfl (fun K hK=>?_) aU.nil;go_simp;refine hK.out _ _ (fun _=>?_) ?_
         · exact mg.o.alloc mg.o.size _
         clear hK K
         try simp only[Act.put,bW,bV,bU]
         refine ck (rs:=[12]) (by kernel_rfl) (by simp) ?_;refine aU.cons rfl (fun K hK=>?_) aU.nil;go_simp;refine hK.out _ _ (fun g=>absurd rfl g) ?_;refine jL (by kernel_rfl) ?_ _;go_wp2_with fail
         go_meet
         case rel=>exact⟨_,rfl,mg.o.size,bG w1 _ _,mg.o.alloc mg.o.size _⟩
       · go_simp;refine hK.out _ _ (fun _=>?_) ?_
         · exact gj.o.alloc gj.o.size (.cells #[I 0,I 0,I 0] 45)
         clear hK K
         try simp only[Act.put,bW,bV,bU]
         refine ck (rs:=[8]) (by kernel_rfl) (by simp) ?_;refine aU.cons rfl (fun K hK=>?_) aU.nil;rw[bf (by rfl)];go_simp;go_at_call 67;refine(HEC.o _ (gj.o.alloc gj.o.size (.cells #[I 0,I 0,I 0] 45))).mono ?_;rintro e w1 ⟨rfl,hb1⟩;have mg:=ai ((gj.o.alloc gj.o.size (.cells #[I 0,I 0,I 0] 45)).trans (hb1.mono (gj.o.alloc gj.o.size (.cells #[I 0,I 0,I 0] 45)).size));have BZ:=ai (aQ (bG WD #[I 0,I 0,I 0] 45) hb1 (by simp));clear hb1;try go_simp;refine hK.out _ _ (fun _=>?_) ?_
         · exact mg.o
         clear hK K
         try simp only[Act.put,bW,bV,bU]
         refine cB 9 mg.o ?_ ?_ ?_;rotate_left 1
         · intro V h;obtain⟨k0,k1,k2,k3,k4,k5⟩:=ij.o V h;go_simp;try with_reducible rfl
         refine cB 10 mg.o ?_ ?_ ?_;rotate_left 1
         · intro V h;obtain⟨k0,k1,k2,k3,k4,k5⟩:=ij.o V h;go_simp;try with_reducible rfl
         obtain⟨t0,t1,t2⟩:=og BZ.o;have f0:=aJ BZ.o 0;have f1:=aJ BZ.o 1;have f2:=aJ BZ.o 2;refine ck (rs:=[12]) (by kernel_rfl) (by simp) ?_;refine aU.cons rfl (fun K hK=>?_) aU.nil;go_simp;refine hK.out _ _ (fun g=>absurd rfl g) ?_;refine jL (by kernel_rfl) ?_ _;go_wp2_with fail
         go_meet
         case rel=>exact⟨_,rfl,gj.o.size,dG (dG (dG BZ.o 0 _) 1 _) 2 _,((mg.o.setCell (p:=(Ad WD.heap.size 0)) gj.o.size _).setCell (p:=(Ad WD.heap.size 1)) gj.o.size _).setCell (p:=(Ad WD.heap.size 2)) gj.o.size _⟩
      case rest =>
      obtain⟨gE,rfl,hgl,hgb,hbc⟩:=hcut;have hk4:=sX.o.below hbc;have QQ:=vO.o.trans (dI.below hbc);have BE:=ai hgb;have HNG:Hid (S3.lab gE=.no):=sX.o.toiZ.new hgl;have t2:=(hbc.cell (p:=(Ad mb 2)) Bk).trans s2;have t3:=(hbc.cell (p:=(Ad lb (el*2))) hll).trans s3;obtain⟨fb,cF,FL⟩:=ZL.o wc S3 hk4;obtain⟨d0,d1,d2⟩:=og hgb;have x1c:=FL.c1;have x0:=FL.x0;have x1:=FL.x1;have x2:=FL.x2;have x3:=FL.x3;have f0:=FL.fz (i1*4);have f1:=FL.fz (i1*4+1);have f2:=FL.fz (i1*4+2);have f3:=FL.fz (i1*4+3);obtain⟨DD,hDD⟩:=ex ((bw K1.slots el).data);rw[<- hDD] at t3 zE;obtain⟨l1,l2⟩:=FL.lay wc (aK _ _) DD true;have Qn:=ai l1;have GK:=ai (QQ.trans l2);have hge:¬gE=fb:=fun e=>by have h1:=HNG.o;have h2:=FL.v;have h3:=sX.o.lF fb (by rw[h2];rfl);rw[e,h3] at h1;cases h1
      have avY:(0:Int)<=(el:Int):=by omega
      clear FL l1 l2 hgb hbc hk4 QQ sX vO hDD s2 s3 Bk hll Kv;go_upto_region 11 with fail;go_region;obtain⟨U,hU⟩:=ex (((((wc.setCell (Ad fb (i1*4)) (.string DD)).setCell (Ad fb (i1*4+1)) (I 1)).setCell (Ad fb (i1*4+2)) (.bool true)).setCell (Ad fb (i1*4+3)) (.bool false)).drew);rw[<- hU];have HKU:Hid (bQ lo mb 27 [] U S3 (fC K1 i1 DD true)):=by rw[hU];exact Qn.o.below (aK _ _).drew
      have HCU:Hid (dI S w S3 U):=by rw[hU];exact GK.o.trans (dI.below (aK _ _).drew)
      have BU:Hid (U.heap[gE]?=some (.cells #[I ep,I ek,I (el:Int)] 45 (0,0))):=by rw[hU];exact jT (jT (jT (jT BE.o fb _ _ hge) fb _ _ hge) fb _ _ hge) fb _ _ hge
      clear hU Qn GK x0 x1 x2 x3 f0 f1 f2 f3 t2 t3 d0 d1 d2 x1c BE;have HPC:=ai (Wa.o U S3 _ i1 HKU.o HCU.o.eP rfl);go_upto_region 13 with(go_at_call 108;refine HPC.o.mono ?_;rintro e w6 ⟨rfl,S6,Xf,Xk⟩;have HK6:=ai Xf;have HC6:=ai (HCU.o.trans Xk);have B6:=ai (Xk.keep BU.o HNG.o);clear Xf Xk)
      obtain⟨d0,d1,d2⟩:=og B6.o;have HLC:=ai (zE.o w6 S6 HK6.o);go_wp2_with (go_at_call 81;refine HLC.o.mono ?_;rintro e w7 ⟨rfl,hk7,hc7⟩;have Wh:=ai hk7;have HC7:=ai (HC6.o.trans hc7);clear hk7 hc7)
      go_meet
      case rel=>exact⟨rfl,S6,Wh.o,HC7.o⟩
 case rest =>
 obtain⟨rfl,S1,hk1,hc1⟩:=hcut;obtain⟨W1,hW1⟩:=ex wc;subst hW1;have yj:=ai hk1;have Ht:=ai hc1;obtain⟨lv2,ax2,nx2,cx2,gb,ne,ce2,ei,E⟩:=Ic.o W1 S1 hk1 hc1;clear hk1 hc1 Y3 HSW HHR HI0 qj ZL HFO HGT Wa Kz HCW akl Ic AB2 QN fq;go_upto_region 14 with fail;have ij:Hid (∀V,Below W1.heap.size W1 V->V.cell? (Ad pb (j*3))=some (.bool lv2)/\V.cell? (Ad pb (j*3+1))=some (.slice ax2 nx2 cx2)/\V.cell? (Ad pb (j*3+2))=some (.slice (some (Ad gb 0)) ne ce2)/\V.cell? (Ad gb (ei*3))=some (I p)/\V.cell? (Ad gb (ei*3+1))=some (I 1)/\V.cell? (Ad gb (ei*3+2))=some (I (a:Int))):=fun V hV=>⟨(hV.cell (p:=(Ad pb (j*3))) E.lt).trans E.y0,(hV.cell (p:=(Ad pb (j*3+1))) E.lt).trans E.y1,(hV.cell (p:=(Ad pb (j*3+2))) E.lt).trans E.y2,(hV.cell (p:=(Ad gb (ei*3))) E.gl).trans E.z0,(hV.cell (p:=(Ad gb (ei*3+1))) E.gl).trans E.z1,(hV.cell (p:=(Ad gb (ei*3+2))) E.gl).trans E.z2⟩
 have HEC:=ai E.call;have hil:=E.il;have hi0:(0:Int)<=(ei:Int):=by omega
 clear E;go_cut [18] (fun x wx=>∃g,x=.pointer (some (Ad g 0))/\W1.heap.size<=g/\wx.heap[g]?=some (.cells #[I p,I 1,I (a:Int)] 45 (0,0))/\Below W1.heap.size W1 wx)
 case first =>
  refine nB (S:=fun V=>Below W1.heap.size W1 V) (z:=12) (by kernel_rfl) ?_;have gj:Hid (Below W1.heap.size W1 W1.drew):=(aK _ _).drew;obtain⟨WD,Gn⟩:=ex W1.drew;rw[<- Gn] at gj ⊢;clear Gn;refine cB 0 gj.o ?_ ?_ ?_;rotate_left 1
  · intro V h;obtain⟨k0,k1,k2,k3,k4,k5⟩:=ij.o V h;go_simp;try with_reducible rfl
  refine cB 1 gj.o ?_ ?_ ?_;rotate_left 1
  · intro V h;obtain⟨k0,k1,k2,k3,k4,k5⟩:=ij.o V h;go_simp;try with_reducible rfl
  refine cB 2 gj.o ?_ ?_ ?_;rotate_left 1
  · intro V h;obtain⟨k0,k1,k2,k3,k4,k5⟩:=ij.o V h;go_simp;try with_reducible rfl
  refine cB 3 gj.o ?_ ?_ ?_;rotate_left 1
  · intro V h;obtain⟨k0,k1,k2,k3,k4,k5⟩:=ij.o V h;go_simp;try with_reducible rfl
  refine cB 4 gj.o ?_ ?_ ?_;rotate_left 1
  · intro V h;obtain⟨k0,k1,k2,k3,k4,k5⟩:=ij.o V h;go_simp;try with_reducible rfl
  refine cB 5 gj.o ?_ ?_ ?_;rotate_left 1
  · intro V h;obtain⟨k0,k1,k2,k3,k4,k5⟩:=ij.o V h;go_simp;try with_reducible rfl
  refine cB 6 gj.o ?_ ?_ ?_;rotate_left 1
  · intro V h;obtain⟨k0,k1,k2,k3,k4,k5⟩:=ij.o V h;go_simp;try with_reducible rfl
  refine cB 7 gj.o ?_ ?_ ?_;rotate_left 1
  · intro V h;obtain⟨k0,k1,k2,k3,k4,k5⟩:=ij.o V h;go_simp;try with_reducible rfl
  refine ck (rs:=[8,11]) (by kernel_rfl) (by simp) ?_;refine aU.cons rfl (fun K hK=>?_) (aU.cons rfl (fun K hK=>?_) aU.nil)
  · rw[bf (by rfl)];go_simp;go_at_call 67;refine(HEC.o _ (gj.o)).mono ?_;rintro e w1 ⟨rfl,hb1⟩;have mg:=ai ((gj.o).trans (hb1.mono (gj.o).size));clear hb1;try go_simp;refine hK.out _ _ (fun _=>?_) ?_
    · exact mg.o
    clear hK K
    try simp only[Act.put,bW,bV,bU]
    refine cB 9 mg.o ?_ ?_ ?_;rotate_left 1
    · intro V h;obtain⟨k0,k1,k2,k3,k4,k5⟩:=ij.o V h;go_simp;try with_reducible rfl
    refine cB 10 mg.o ?_ ?_ ?_;rotate_left 1
    · intro V h;obtain⟨k0,k1,k2,k3,k4,k5⟩:=ij.o V h;go_simp;try with_reducible rfl
    refine ck (rs:=[11]) (by kernel_rfl) (by simp) ?_;refine aU.cons rfl (fun K hK=>?_) aU.nil;go_simp;refine hK.out _ _ (fun _=>?_) ?_
    · exact mg.o.alloc mg.o.size _
    clear hK K
    try simp only[Act.put,bW,bV,bU]
    refine ck (rs:=[12]) (by kernel_rfl) (by simp) ?_;refine aU.cons rfl (fun K hK=>?_) aU.nil;go_simp;refine hK.out _ _ (fun g=>absurd rfl g) ?_;refine jL (by kernel_rfl) ?_ _;go_wp2_with fail
    go_meet
    case rel=>exact⟨_,rfl,mg.o.size,bG w1 _ _,mg.o.alloc mg.o.size _⟩
  · go_simp;refine hK.out _ _ (fun _=>?_) ?_
    · exact gj.o.alloc gj.o.size (.cells #[I 0,I 0,I 0] 45)
    clear hK K
    try simp only[Act.put,bW,bV,bU]
    refine ck (rs:=[8]) (by kernel_rfl) (by simp) ?_;refine aU.cons rfl (fun K hK=>?_) aU.nil;rw[bf (by rfl)];go_simp;go_at_call 67;refine(HEC.o _ (gj.o.alloc gj.o.size (.cells #[I 0,I 0,I 0] 45))).mono ?_;rintro e w1 ⟨rfl,hb1⟩;have mg:=ai ((gj.o.alloc gj.o.size (.cells #[I 0,I 0,I 0] 45)).trans (hb1.mono (gj.o.alloc gj.o.size (.cells #[I 0,I 0,I 0] 45)).size));have BZ:=ai (aQ (bG WD #[I 0,I 0,I 0] 45) hb1 (by simp));clear hb1;try go_simp;refine hK.out _ _ (fun _=>?_) ?_
    · exact mg.o
    clear hK K
    try simp only[Act.put,bW,bV,bU]
    refine cB 9 mg.o ?_ ?_ ?_;rotate_left 1
    · intro V h;obtain⟨k0,k1,k2,k3,k4,k5⟩:=ij.o V h;go_simp;try with_reducible rfl
    refine cB 10 mg.o ?_ ?_ ?_;rotate_left 1
    · intro V h;obtain⟨k0,k1,k2,k3,k4,k5⟩:=ij.o V h;go_simp;try with_reducible rfl
    obtain⟨t0,t1,t2⟩:=og BZ.o;have f0:=aJ BZ.o 0;have f1:=aJ BZ.o 1;have f2:=aJ BZ.o 2;refine ck (rs:=[12]) (by kernel_rfl) (by simp) ?_;refine aU.cons rfl (fun K hK=>?_) aU.nil;go_simp;refine hK.out _ _ (fun g=>absurd rfl g) ?_;refine jL (by kernel_rfl) ?_ _;go_wp2_with fail
    go_meet
    case rel=>exact⟨_,rfl,gj.o.size,dG (dG (dG BZ.o 0 _) 1 _) 2 _,((mg.o.setCell (p:=(Ad WD.heap.size 0)) gj.o.size _).setCell (p:=(Ad WD.heap.size 1)) gj.o.size _).setCell (p:=(Ad WD.heap.size 2)) gj.o.size _⟩
 case rest =>
 obtain⟨gE,rfl,hgl,hgb,hbc⟩:=hcut;obtain⟨W2,hW2⟩:=ex wc;subst hW2;have pH:=ai (yj.o.below hbc);have vv:=ai (Ht.o.trans (dI.below hbc));have HNG:Hid (S1.lab gE=.no):=yj.o.toiZ.new hgl;have BE:=ai hgb;have HGL:Hid (w.heap.size<=gE):=gJ Ht.o.kp.size hgl;obtain⟨d0,d1,d2⟩:=og hgb;obtain⟨fb,cF,FL⟩:=zx.o W2 S1 pH.o;have x1c:=FL.c1;have x1:=FL.x1;rw[<- Wc.o] at x1c;rw[<- Gg.o] at x1;clear FL hgb hbc hgl yj Ht;go_upto_region 15 with fail;go_cut [134] (fun c wx=>c=.bool CB/\wx=W2.drew)
 case first =>
  by_cases cw:way=1
  · have wb:(way==1)=true:=by simpa using cw
    by_cases cr:1<RA
    · have hc:CB=true:=by rw[HCB.o,dh cw,dh cr];rfl
      have HHC:=ai hc;clear cw hc;go_region;go_wp2_with fail
      go_meet
      case rel=>exact⟨by rw[HHC.o],rfl⟩
    · have hc:CB=false:=by rw[HCB.o,dh cw,dE cr];rfl
      have HHC:=ai hc;clear cw hc;go_region;go_wp2_with fail
      go_meet
      case rel=>exact⟨by rw[HHC.o],rfl⟩
  · have wb:(way==1)=false:=by simpa using cw
    have hc:CB=false:=by rw[HCB.o,dE cw];rfl
    have HHC:=ai hc;clear cw hc;go_region;go_wp2_with fail
    go_meet
    case rel=>exact⟨by rw[HHC.o],rfl⟩
 case rest =>
 obtain⟨rfl,hwc⟩:=hcut;subst hwc;have sX:Hid (bQ lo mb 27 [] W2.drew S1 KP.2):=pH.o.below (aK _ _).drew;have vO:Hid (dI S w S1 W2.drew):=vv.o.trans (dI.below (aK _ _).drew);have BE3:Hid (W2.drew.heap[gE]?=some (.cells #[I p,I 1,I (a:Int)] 45 (0,0))):=BE.o;obtain⟨W3,hW3⟩:=ex W2.drew;rw[<- hW3] at sX vO BE3 ⊢;clear hW3 d0 d1 d2 x1c x1 pH vv BE zx HCB;go_upto_if 134 with fail;go_cut [11] (fun x11 wx=>x11=.pointer (some (Ad pb (j*3)))/\∃S4,bQ lo mb 27 [] wx S4 TK.2/\dI S w S4 wx/\wx.heap[gE]?=some (.cells #[I p,I 1,I (TK.1:Int)] 45 (0,0))/\S4.lab gE=.no)
 case first =>
  as_aux_lemma =>
  cases CB with
  | false =>
   have HE:=ai (HTN.o rfl);clear HTN HTY;go_wp2;go_meet
   case rel=>exact⟨rfl,S1,by rw[HE.o];exact sX.o,vO.o,by rw[HE.o];exact BE3.o,HNG.o⟩
  | true =>
   have HE:=ai (HTY.o rfl);clear HTN HTY;have HHB:Hid (∀V,Below W3.heap.size W3 V->dz eZ 1 0 V ah held):=fun V hb=>(HHE.o.ch (vO.o.trans (dI.below hb))).has
   have DF:Hid (∀V,Below W3.heap.size W3 V->V.heap[gE]?=some (.cells #[I p,I 1,I (a:Int)] 45 (0,0))):=fun V hb=>aQ BE3.o hb (aO BE3.o)
   have HG3:Hid (∀V ah' n' ch',Below W3.heap.size W3 V->V.ownsRow W3.heap.size 3 1 (.slice ah' n' ch') (held.length+1) (held.flatMap eZ++[I (a:Int)])->Calls Tryz.prog 107 #[.pointer (some (Ad mb 0)),.slice ah' n' ch'] V fun e w'=>e=.returned (I (i2:Int))/\∃S5,bQ lo mb 27 [] w' S5 K2/\dI S w S5 w'/\w'.heap[gE]?=some (.cells #[I p,I 1,I (a:Int)] 45 (0,0))/\S5.lab gE=.no):=fun V ah' n' ch' hb hr=>by
    have e1:(held++[(a:Int)]).length=held.length+1:=by simp
    have e2:(held++[(a:Int)]).flatMap eZ=held.flatMap eZ++[I (a:Int)]:=by simp[eZ]
    rw[<- e1,<- e2] at hr;obtain⟨q1,q2⟩:=wY (S:=S1) hr (fun b hb2=>sX.o.toiZ.new (hr.lt b hb2).1);refine(HG2.o V S1 ah' n' ch' (sX.o.below hb) q1 q2).mono fun e w' ⟨h1,S5,h2,h3⟩=>⟨h1,S5,h2,(vO.o.trans (dI.below hb)).trans h3,h3.keep (DF.o V hb) HNG.o,h3.no _ (aO (DF.o V hb)) HNG.o⟩
   go_upto_region 16 with fail;go_cut [19] (fun x19 wx=>x19=I (i2:Int)/\∃S5,bQ lo mb 27 [] wx S5 K2/\dI S w S5 wx/\wx.heap[gE]?=some (.cells #[I p,I 1,I (a:Int)] 45 (0,0))/\S5.lab gE=.no)
   case first =>
    refine nB (S:=fun V=>V.heap[gE]?=some (.cells #[I p,I 1,I (a:Int)] 45 (0,0))) (z:=9) (by kernel_rfl) ?_;have ij:Hid (∀V:World,V.heap[gE]?=some (.cells #[I p,I 1,I (a:Int)] 45 (0,0))->V.cell? (Ad gE 0)=some (I p)/\V.cell? (Ad gE 1)=some (I 1)/\V.cell? (Ad gE 2)=some (I (a:Int))):=fun V hV=>og hV
    have eO:Hid (Below W3.heap.size W3 W3.drew):=(aK _ _).drew;have hsz:W3.drew.heap.size=W3.heap.size:=rfl;obtain⟨WD,Gn⟩:=ex W3.drew;rw[<- Gn] at eO hsz ⊢;have gj:=ai (DF.o WD eO.o);clear Gn hsz;refine cB 0 gj.o ?_ ?_ ?_;rotate_left 1
    · intro V h;obtain⟨k0,k1,k2⟩:=ij.o V h;go_simp;try with_reducible rfl
    refine cB 2 gj.o ?_ ?_ ?_;rotate_left 1
    · intro V h;obtain⟨k0,k1,k2⟩:=ij.o V h;go_simp;try with_reducible rfl
    refine cB 4 gj.o ?_ ?_ ?_;rotate_left 1
    · intro V h;obtain⟨k0,k1,k2⟩:=ij.o V h;go_simp;try with_reducible rfl
    refine cB 5 gj.o ?_ ?_ ?_;rotate_left 1
    · intro V h;obtain⟨k0,k1,k2⟩:=ij.o V h;go_simp;try with_reducible rfl
    refine ck (rs:=[1,6]) (by kernel_rfl) (by simp) ?_;refine aU.cons rfl (fun K hK=>?_) (aU.cons rfl (fun K hK=>?_) aU.nil)
    · go_simp;refine hK.out _ _ (fun _=>?_) ?_
      · exact DF.o _ (eO.o.alloc eO.o.size (.cells #[] 3))
      clear hK K
      try simp only[Act.put,bW,bV,bU]
      have gK:=ai (eO.o.alloc eO.o.size (.cells #[] 3));refine ck (rs:=[3,6]) (by kernel_rfl) (by simp) ?_;refine aU.cons rfl (fun K hK=>?_) (aU.cons rfl (fun K hK=>?_) aU.nil)
      · have Kw:=ai (Eu eO.o.size 3 1);rw[bf (by rfl)];refine eK (P:=Tryz.prog) _ _ 99 rfl W3.heap.size 3 inx (I 0) 1 8 Tryz.underlying99 tP.o Dg.o Df.o BI.o rfl (by decide) (.slice (some (Ad WD.heap.size 0)) 0 0) 0 [] rfl Kw.o ah held.length ch (held.flatMap eZ) rfl (fF eZ 1 (fun _=>rfl) held) (xV (HHB.o _ gK.o)) (Ac held) (by unfold maxLen;omega) (by omega) gK.o.size ?_;intro vC wC IH Uh haC;rw[iI,Fq] at IH;obtain⟨aC,cC,hvC,_,_⟩:=aY IH;subst hvC;have HRC:=ai IH;have Gj:=ai (gK.o.grown Uh gK.o.size (fun q hq=>(Kw.o.lt q hq).1));clear IH Uh haC;refine hK.out _ _ (fun _=>?_) ?_
        · exact DF.o _ Gj.o
        clear hK K
        try simp only[Act.put,bW,bV,bU]
        refine ck (rs:=[6]) (by kernel_rfl) (by simp) ?_;refine aU.cons rfl (fun K hK=>?_) aU.nil;go_simp;refine hK.out _ _ (fun _=>?_) ?_
        · exact DF.o _ (Gj.o.alloc Gj.o.size (.cells #[I (a:Int)] 3))
        clear hK K
        try simp only[Act.put,bW,bV,bU]
        have Ns:=ai (Gj.o.alloc Gj.o.size (.cells #[I (a:Int)] 3));have HR7:=ai (HRC.o.alloc (.cells #[I (a:Int)] 3));have BS7:=ai (bG wC #[I (a:Int)] 3);refine ck (rs:=[7]) (by kernel_rfl) (by simp) ?_;refine aU.cons rfl (fun K hK=>?_) aU.nil;rw[bf (by rfl)];refine eK (P:=Tryz.prog) _ _ 99 rfl W3.heap.size 3 inx (I 0) 1 8 Tryz.underlying99 tP.o Dg.o Df.o BI.o rfl (by decide) (.slice aC held.length cC) held.length (held.flatMap eZ) rfl HR7.o (some (Ad wC.heap.size 0)) 1 1 [I (a:Int)] rfl rfl (fun _=>⟨_,rfl,vU BS7.o⟩) (by intro u hu;simp at hu;rw[hu];rfl) (by unfold maxLen;omega) (by omega) Ns.o.size ?_;intro vE wE LZ Xj haE;obtain⟨aE,cE,hvE,_,_⟩:=aY LZ;subst hvE;have sS:=ai LZ;have TF:=ai (Ns.o.grown Xj Ns.o.size (fun q hq=>(HR7.o.lt q hq).1));clear LZ Xj haE;refine hK.out _ _ (fun _=>?_) ?_
        · exact DF.o _ TF.o
        clear hK K
        try simp only[Act.put,bW,bV,bU]
        refine ck (rs:=[8]) (by kernel_rfl) (by simp) ?_;refine aU.cons rfl (fun K hK=>?_) aU.nil;rw[bf (by rfl)];go_simp;go_at_call 107;refine(HG3.o _ _ _ _ TF.o sS.o).mono ?_;rintro e w8 ⟨rfl,S8,hk8,hc8,Ui,hn8⟩;have HK8:=ai hk8;have HC8:=ai hc8;have HB8:=ai Ui;have HN8:=ai hn8;clear hk8 hc8 Ui hn8;try go_simp;refine hK.out _ _ (fun _=>?_) ?_
        · exact HB8.o
        clear hK K
        try simp only[Act.put,bW,bV,bU]
        refine ck (rs:=[9]) (by kernel_rfl) (by simp) ?_;refine aU.cons rfl (fun K hK=>?_) aU.nil;go_simp;refine hK.out _ _ (fun g=>absurd rfl g) ?_;refine jL (by kernel_rfl) ?_ _;go_wp2_with fail
        go_meet
        case rel=>exact⟨rfl,S8,HK8.o,HC8.o,HB8.o,HN8.o⟩
      · go_simp;refine hK.out _ _ (fun _=>?_) ?_
        · exact DF.o _ (gK.o.alloc gK.o.size (.cells #[I (a:Int)] 3))
        clear hK K
        try simp only[Act.put,bW,bV,bU]
        have MD:=ai (gK.o.alloc gK.o.size (.cells #[I (a:Int)] 3));have Kw:=ai ((Eu eO.o.size 3 1).alloc (.cells #[I (a:Int)] 3));have BS3:Hid (((WD.alloc (.cells #[] 3)).alloc (.cells #[I (a:Int)] 3)).heap[WD.heap.size+1]?=some (.cells #[I (a:Int)] 3 (0,0))):=by have:=bG (WD.alloc (.cells #[] 3)) #[I (a:Int)] 3;rw[iJ] at this;exact this
        refine ck (rs:=[3]) (by kernel_rfl) (by simp) ?_;refine aU.cons rfl (fun K hK=>?_) aU.nil;rw[bf (by rfl)];refine eK (P:=Tryz.prog) _ _ 99 rfl W3.heap.size 3 inx (I 0) 1 8 Tryz.underlying99 tP.o Dg.o Df.o BI.o rfl (by decide) (.slice (some (Ad WD.heap.size 0)) 0 0) 0 [] rfl Kw.o ah held.length ch (held.flatMap eZ) rfl (fF eZ 1 (fun _=>rfl) held) (xV (HHB.o _ MD.o)) (Ac held) (by unfold maxLen;omega) (by omega) MD.o.size ?_;intro vC wC IH Uh haC;rw[iI,Fq] at IH;obtain⟨aC,cC,hvC,_,_⟩:=aY IH;subst hvC;have HRC:=ai IH;have Gj:=ai (MD.o.grown Uh MD.o.size (fun q hq=>(Kw.o.lt q hq).1));have BS7:=ai ((aH.grown (D:=fun b=>b=WD.heap.size) Uh (fun q hq=>by injection hq with hq;exact hq.symm)).keep BS3.o (by omega));clear IH Uh haC;refine hK.out _ _ (fun _=>?_) ?_
        · exact DF.o _ Gj.o
        clear hK K
        try simp only[Act.put,bW,bV,bU]
        have Ns:=ai Gj.o;have HR7:=ai HRC.o;refine ck (rs:=[7]) (by kernel_rfl) (by simp) ?_;refine aU.cons rfl (fun K hK=>?_) aU.nil;rw[bf (by rfl)];refine eK (P:=Tryz.prog) _ _ 99 rfl W3.heap.size 3 inx (I 0) 1 8 Tryz.underlying99 tP.o Dg.o Df.o BI.o rfl (by decide) (.slice aC held.length cC) held.length (held.flatMap eZ) rfl HR7.o (some (Ad (WD.heap.size+1) 0)) 1 1 [I (a:Int)] rfl rfl (fun _=>⟨_,rfl,vU BS7.o⟩) (by intro u hu;simp at hu;rw[hu];rfl) (by unfold maxLen;omega) (by omega) Ns.o.size ?_;intro vE wE LZ Xj haE;obtain⟨aE,cE,hvE,_,_⟩:=aY LZ;subst hvE;have sS:=ai LZ;have TF:=ai (Ns.o.grown Xj Ns.o.size (fun q hq=>(HR7.o.lt q hq).1));clear LZ Xj haE;refine hK.out _ _ (fun _=>?_) ?_
        · exact DF.o _ TF.o
        clear hK K
        try simp only[Act.put,bW,bV,bU]
        refine ck (rs:=[8]) (by kernel_rfl) (by simp) ?_;refine aU.cons rfl (fun K hK=>?_) aU.nil;rw[bf (by rfl)];go_simp;go_at_call 107;refine(HG3.o _ _ _ _ TF.o sS.o).mono ?_;rintro e w8 ⟨rfl,S8,hk8,hc8,Ui,hn8⟩;have HK8:=ai hk8;have HC8:=ai hc8;have HB8:=ai Ui;have HN8:=ai hn8;clear hk8 hc8 Ui hn8;try go_simp;refine hK.out _ _ (fun _=>?_) ?_
        · exact HB8.o
        clear hK K
        try simp only[Act.put,bW,bV,bU]
        refine ck (rs:=[9]) (by kernel_rfl) (by simp) ?_;refine aU.cons rfl (fun K hK=>?_) aU.nil;go_simp;refine hK.out _ _ (fun g=>absurd rfl g) ?_;refine jL (by kernel_rfl) ?_ _;go_wp2_with fail
        go_meet
        case rel=>exact⟨rfl,S8,HK8.o,HC8.o,HB8.o,HN8.o⟩
    · go_simp;refine hK.out _ _ (fun _=>?_) ?_
      · exact DF.o _ (eO.o.alloc eO.o.size (.cells #[I (a:Int)] 3))
      clear hK K
      try simp only[Act.put,bW,bV,bU]
      have gK:=ai (eO.o.alloc eO.o.size (.cells #[I (a:Int)] 3));refine ck (rs:=[1]) (by kernel_rfl) (by simp) ?_;refine aU.cons rfl (fun K hK=>?_) aU.nil;go_simp;refine hK.out _ _ (fun _=>?_) ?_
      · exact DF.o _ (gK.o.alloc gK.o.size (.cells #[] 3))
      clear hK K
      try simp only[Act.put,bW,bV,bU]
      have MD:=ai (gK.o.alloc gK.o.size (.cells #[] 3));have Kw:Hid (((WD.alloc (.cells #[I (a:Int)] 3)).alloc (.cells #[] 3)).ownsRow W3.heap.size 3 1 (.slice (some (Ad (WD.heap.size+1) 0)) 0 0) 0 []):=by have:=Eu gK.o.size 3 1;rw[iJ] at this;exact this
      have BS3:=ai (bE (bG WD #[I (a:Int)] 3) (.cells #[] 3));refine ck (rs:=[3]) (by kernel_rfl) (by simp) ?_;refine aU.cons rfl (fun K hK=>?_) aU.nil;rw[bf (by rfl)];refine eK (P:=Tryz.prog) _ _ 99 rfl W3.heap.size 3 inx (I 0) 1 8 Tryz.underlying99 tP.o Dg.o Df.o BI.o rfl (by decide) (.slice (some (Ad (WD.heap.size+1) 0)) 0 0) 0 [] rfl Kw.o ah held.length ch (held.flatMap eZ) rfl (fF eZ 1 (fun _=>rfl) held) (xV (HHB.o _ MD.o)) (Ac held) (by unfold maxLen;omega) (by omega) MD.o.size ?_;intro vC wC IH Uh haC;rw[iI,Fq] at IH;obtain⟨aC,cC,hvC,_,_⟩:=aY IH;subst hvC;have HRC:=ai IH;have Gj:=ai (MD.o.grown Uh MD.o.size (fun q hq=>(Kw.o.lt q hq).1));have BS7:=ai ((aH.grown (D:=fun b=>b=WD.heap.size+1) Uh (fun q hq=>by injection hq with hq;exact hq.symm)).keep BS3.o (by omega));clear IH Uh haC;refine hK.out _ _ (fun _=>?_) ?_
      · exact DF.o _ Gj.o
      clear hK K
      try simp only[Act.put,bW,bV,bU]
      have Ns:=ai Gj.o;have HR7:=ai HRC.o;refine ck (rs:=[7]) (by kernel_rfl) (by simp) ?_;refine aU.cons rfl (fun K hK=>?_) aU.nil;rw[bf (by rfl)];refine eK (P:=Tryz.prog) _ _ 99 rfl W3.heap.size 3 inx (I 0) 1 8 Tryz.underlying99 tP.o Dg.o Df.o BI.o rfl (by decide) (.slice aC held.length cC) held.length (held.flatMap eZ) rfl HR7.o (some (Ad WD.heap.size 0)) 1 1 [I (a:Int)] rfl rfl (fun _=>⟨_,rfl,vU BS7.o⟩) (by intro u hu;simp at hu;rw[hu];rfl) (by unfold maxLen;omega) (by omega) Ns.o.size ?_;intro vE wE LZ Xj haE;obtain⟨aE,cE,hvE,_,_⟩:=aY LZ;subst hvE;have sS:=ai LZ;have TF:=ai (Ns.o.grown Xj Ns.o.size (fun q hq=>(HR7.o.lt q hq).1));clear LZ Xj haE;refine hK.out _ _ (fun _=>?_) ?_
      · exact DF.o _ TF.o
      clear hK K
      try simp only[Act.put,bW,bV,bU]
      refine ck (rs:=[8]) (by kernel_rfl) (by simp) ?_;refine aU.cons rfl (fun K hK=>?_) aU.nil;rw[bf (by rfl)];go_simp;go_at_call 107;refine(HG3.o _ _ _ _ TF.o sS.o).mono ?_;rintro e w8 ⟨rfl,S8,hk8,hc8,Ui,hn8⟩;have HK8:=ai hk8;have HC8:=ai hc8;have HB8:=ai Ui;have HN8:=ai hn8;clear hk8 hc8 Ui hn8;try go_simp;refine hK.out _ _ (fun _=>?_) ?_
      · exact HB8.o
      clear hK K
      try simp only[Act.put,bW,bV,bU]
      refine ck (rs:=[9]) (by kernel_rfl) (by simp) ?_;refine aU.cons rfl (fun K hK=>?_) aU.nil;go_simp;refine hK.out _ _ (fun g=>absurd rfl g) ?_;refine jL (by kernel_rfl) ?_ _;go_wp2_with fail
      go_meet
      case rel=>exact⟨rfl,S8,HK8.o,HC8.o,HB8.o,HN8.o⟩
   case rest =>
   obtain⟨rfl,S5,Ou,hc5,Cf,hn5⟩:=hcut;obtain⟨W5,Oz⟩:=ex wc;subst Oz;obtain⟨fb,cF,FL,xa⟩:=Sl.o W5 S5 Ou;obtain⟨d0,d1,d2⟩:=og Cf;have BE5:=ai Cf;have HN5:=ai hn5;have x1c:=FL.c1;have x0:=FL.x0;have x1:=FL.x1;have x2:=FL.x2;have x3:=FL.x3;have f0:=FL.fz (i2*4);have f1:=FL.fz (i2*4+1);have f2:=FL.fz (i2*4+2);have f3:=FL.fz (i2*4+3);obtain⟨DD,hDD⟩:=ex ((au K2.frames a).data);rw[<- hDD] at xa aj6 HE;obtain⟨l1,l2⟩:=FL.lay W5 (aK _ _) DD true;have Qn:=ai l1;have GK:=ai (hc5.trans l2);have hge:¬gE=fb:=fun e=>by have h1:=HN5.o;have h2:=FL.v;have h3:=Ou.lF fb (by rw[h2];rfl);rw[e,h3] at h1;cases h1
   clear FL l1 l2 Cf hn5 Ou hc5 hDD HG3 HHB DF sX vO BE3;go_upto_region 17 with fail;go_region;obtain⟨U,hU⟩:=ex (((((W5.setCell (Ad fb (i2*4)) (.string DD)).setCell (Ad fb (i2*4+1)) (I 1)).setCell (Ad fb (i2*4+2)) (.bool true)).setCell (Ad fb (i2*4+3)) (.bool false)).drew);rw[<- hU];have HKU:Hid (bQ lo mb 27 [] U S5 (fC K2 i2 DD true)):=by rw[hU];exact Qn.o.below (aK _ _).drew
   have HCU:Hid (dI S w S5 U):=by rw[hU];exact GK.o.trans (dI.below (aK _ _).drew)
   have BU:Hid (U.heap[gE]?=some (.cells #[I p,I 1,I (a:Int)] 45 (0,0))):=by rw[hU];exact jT (jT (jT (jT BE5.o fb _ _ hge) fb _ _ hge) fb _ _ hge) fb _ _ hge
   clear hU Qn GK x0 x1 x2 x3 f0 f1 f2 f3 d0 d1 d2 x1c BE5 xa;have HPC:=ai (am3.o U S5 _ i2 HKU.o HCU.o rfl);go_upto_region 19 with(go_at_call 108;refine HPC.o.mono ?_;rintro e w6 ⟨rfl,S6,Xf,Xk⟩;have HK6:=ai Xf;have HC6:=ai (HCU.o.trans Xk);have B6:=ai (Xk.keep BU.o HN5.o);have HN6:=ai (Xk.no _ (aO BU.o) HN5.o);clear Xf Xk)
   obtain⟨d0,d1,d2⟩:=og B6.o;have HLC:=ai (aj6.o w6 S6 HK6.o);go_upto_region 20 with(go_at_call 81;refine HLC.o.mono ?_;rintro e w7 ⟨rfl,hk7,hc7⟩;have Wh:=ai hk7;have HC7:=ai (HC6.o.trans hc7);have B7:=ai (hc7.keep B6.o HN6.o);have HN7:=ai (hc7.no _ (aO B6.o) HN6.o);clear hk7 hc7)
   clear d0 d1 d2;obtain⟨d0,d1,d2⟩:=og B7.o;have f2:=aJ B7.o 2;go_wp2;go_meet
   case rel =>
    have kp:aH (fun b=>b=gE) w7 (w7.setCell (Ad gE 2) (I (i2:Int))):=aH.set _ _ _ _ rfl;exact⟨rfl,S6,by rw[HE.o];exact Wh.o.kp kp (fun b hb e=>hb (by rw[e];exact HN7.o)),eJ.local HC7.o kp (fun b e=>by rw[e];exact HGL.o),by rw[HE.o];exact dG B7.o 2 _,HN7.o⟩
 case rest =>
 obtain⟨rfl,S4,hk4,QQ,hb4,hn4⟩:=hcut;obtain⟨W4,L8⟩:=ex wc;subst L8;obtain⟨fb,cF,e1,e2,e3,e4,e5,e6,e7,e8,e9⟩:=Di.o W4 S4 hk4;obtain⟨d0,d1,d2⟩:=og hb4;have f3:=e5 (TK.1*4+3);have f2:=e5 (TK.1*4+2);have hge:¬gE=fb:=fun e=>by rw[e,e6] at hn4;cases hn4
 have H7:=ai e7;have H8:=ai e8;have H9:=ai e9;have HC4:=ai QQ;obtain⟨ti,hti⟩:=ex TK.1;rw[<- hti] at e3 e4 d2 f2 f3 H7 H8 ap0 cZ;obtain⟨dt,hdt⟩:=ex ((au TK.2.frames ti).fN);obtain⟨sn,hsn⟩:=ex ((au TK.2.frames ti).seen);rw[<- hdt] at e3;rw[<- hsn] at e4;have au9:(0:Int)<=(ti:Int):=by omega
 clear e5 e6 e7 e8 e9 hk4 QQ hb4 hn4 hti hdt hsn Di Sl am3 aj6 HG2 HTN HTY sX vO BE3 HNG;by_cases cw:way=1
 · have wb:(way==1)=true:=by simpa using cw
   have HK9:=ai (H8.o cw);clear cw H7 H8;go_upto_region 21 with fail;go_region;go_upto_region 23 with fail;go_region;go_wp2;exact cZ.o _ S4 (HK9.o.below (aK _ _).drew.drew) (((HC4.o.trans (H9.o _ _ _)).trans (H9.o _ _ _)).trans (dI.below (aK _ _).drew.drew))
 · have wb:(way==1)=false:=by simpa using cw
   have HK9:=ai (H7.o cw);clear cw H7 H8;go_upto_region 21 with fail;go_region;go_wp2;exact cZ.o _ S4 (HK9.o.below (aK _ _).drew) ((HC4.o.trans (H9.o _ _ _)).trans (dI.below (aK _ _).drew))
end Go.Proofs.YtpgifpeohlllfaaGreat
end Go.Proofs.YtpgifpeohlllfaaGreat
