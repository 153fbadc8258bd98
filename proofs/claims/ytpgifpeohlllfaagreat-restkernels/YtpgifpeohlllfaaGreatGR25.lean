import Derived.Test.YtpgifpeohlllfaaGreatGR11
set_option maxHeartbeats 20000000
set_option linter.unusedVariables false
set_option maxRecDepth 100000
set_option linter.unusedSimpArgs false
namespace Go.Proofs.YtpgifpeohlllfaaGreat
open Go.RowKit
theorem Oz (l:List aZ) (b off cap:Nat) (w:World) (hl:oI w b off l) (hc:bB l=0) :
  Calls Tryz.prog 61 #[.slice (some (Ad b off)) l.length cap] w fun e w'=>e=.returned (I (gV l l.length))/\Below w.heap.size w w':=by
 have hlen:=kO l hc;have HK:Hid (bB l=0):=hc;clear hc;go_enter Tryz.func61,Tryz.ntmps61;go_wp2;go_loopw [3,4] (fun s i wr=>∃k:Nat,k<=l.length/\i=I k/\s=I (gV l k)/\Below w.heap.size w wr) (fun _ i _=>l.length-(intOf i).toNat)
 case atStart=>exact⟨0,by omega,rfl,rfl,aK _ _⟩
 case round =>
  obtain⟨k,hk,rfl,rfl,hb⟩:=hrel;have KU:=yg l HK.o k hk;by_cases hlt:k<l.length
  · obtain⟨c0,c1,c2,c3⟩:=(hl.below hb) k hlt;have hsu:Hid (gV l (k+1)=gV l k+(bl l k).bC):=rfl;have hbk:=fG l k (fw l HK.o k hlt);obtain⟨a,ha⟩:=ex (bl l k);rw[<- ha] at c0 c1 c2 c3 hsu hbk;clear ha;go_wp2;go_roundw
    case rel=>exact⟨k+1,by omega,by go_num,by rw[hsu.out],hb⟩
    case measure=>simp[intOf];omega
  · obtain rfl:k=l.length:=by omega
    go_wp2;go_ret
    simp_all
theorem Sk (ao:Option Addr) (cap:Nat) (w:World) :
  Calls Tryz.prog 61 #[.slice ao 0 cap] w fun e w'=>e=.returned (I 0)/\Below w.heap.size w w':=by
 go_enter Tryz.func61,Tryz.ntmps61;go_wp2;refine vo 1 ?_;rw[vg];go_wp2;go_ret;exact⟨rfl,aK _ _⟩
theorem Sl (l:List aZ) (v:Value) (w:World) (h:fu w v l) (hc:bB l=0) :
  Calls Tryz.prog 61 #[v] w fun e w'=>e=.returned (I (dU l))/\Below w.heap.size w w':=by
 have e:dU l=gV l l.length:=by grind [dU]
 rw[e];obtain⟨ao,cap,rfl,h⟩:=h;rcases h with rfl | ⟨b,off,rfl,hl⟩
 · exact Sk ao cap w
 · exact Oz l b off cap w hl hc
theorem ML (l:List aZ) (b off cap:Nat) (p:Int) (w:World) (hl:oI w b off l) (hc:bB l=0) :
  Calls Tryz.prog 31 #[.slice (some (Ad b off)) l.length cap,I p] w fun e w'=>e=.returned (.tuple #[.agg (jU (bh l p).1),.bool (bh l p).2])/\Below w.heap.size w w':=by
 have hbz:Below w.heap.size w (w.alloc (.cells #[I 0,I 0,I 0,.bool false] 47)):=(aK _ _).alloc (aI _) _;have hlen:=kO l hc;have HC:Hid (bh l p=bV l p):=by show _=_;grind [bh]
 have HK:Hid (bB l=0):=hc;clear hc;go_enter Tryz.func31,Tryz.ntmps31;go_wp2;go_loopw [6] (fun i wr=>∃k:Nat,k<=l.length/\i=I k/\(∀j,j<k->fP (bl l j) p=false)/\Below (w.heap.size+1) (w.alloc (.cells #[I 0,I 0,I 0,.bool false] 47)) wr) (fun i _=>l.length-(intOf i).toNat)
 case atStart=>grind [Below.refl]
 case round =>
  obtain⟨k,hk,rfl,hno,hb⟩:=hrel;have HN:Hid (∀j,j<k->fP (bl l j) p=false):=hno;have jQ:Hid (Below w.heap.size w wr):=hbz.trans (hb.mono (vh _));have hlr:=hl.below jQ.out;have hR:wr.heap[w.heap.size]?=some (.cells #[I 0,I 0,I 0,.bool false] 47 (0,0)):=aQ (bO w _ _) hb (E3 _);have HB:Hid (Below (w.heap.size+1) (w.alloc (.cells #[I 0,I 0,I 0,.bool false] 47)) wr):=hb;have t0:=aB hR 0 rfl;have t1:=aB hR 1 rfl;have t2:=aB hR 2 rfl;have t3:=aB hR 3 rfl;have u0:=aO hR;clear hno hR hb;by_cases hlt:k<l.length
  · obtain⟨c0,c1,c2,c3⟩:=hlr k hlt;have hbk:=fG l k (fw l HK.o k hlt);obtain⟨a,ha⟩:=ex (bl l k);rw[<- ha] at c0 c1 c2 c3 hbk;have HA:Hid (a=bl l k):=ha;clear ha;have JC:(k:Int)<(l.length:Int):=by omega
    by_cases h1:a.page<=p
    · by_cases h2:p<a.page+a.bC
      · have hres:Hid (bh l p=(a,true)):=by
         show _=_;rw[HC.o,oG l p k hlt HN.o (by rw[<- HA.o];simp[fP,aZ.mW,h1,h2]),<- HA.o]
        go_wp2
        go_quiet (fail)
        go_wp2;have KU:=ko jQ.out nq;exact cm (v:=.tuple #[.agg #[I a.page,I a.bC,I a.fI,.bool a.zero],.bool true]) (by simp[results,Tryz.results31,go_sem,t0,t1,t2,t3]) rfl ⟨by rw[hres.out];rfl,(((KU.setCell (aI _) _).setCell (aI _) _).setCell (aI _) _).setCell (aI _) _⟩
      · have Ay:Hid (fP (bl l k) p=false):=by show _=_;rw[<- HA.o];unfold fP aZ.mW;exact dJ (by omega)
        have d2:decide (p<a.page+a.bC)=false:=dJ h2;go_wp2
        go_quiet (fail)
        go_wp2;go_roundw
        case rel=>exact⟨k+1,by omega,by go_num,fun j hj=>if e:j=k then by rw[e];exact Ay.out else HN.o j (by omega),ko HB.o _⟩
        case measure=>simp[intOf];omega
    · have Ay:Hid (fP (bl l k) p=false):=by show _=_;rw[<- HA.o];unfold fP aZ.mW;exact dJ (by omega)
      have d1:decide (a.page<=p)=false:=dJ h1;go_wp2
      go_quiet (fail)
      go_wp2;go_roundw
      case rel=>exact⟨k+1,by omega,by go_num,fun j hj=>if e:j=k then by rw[e];exact Ay.out else HN.o j (by omega),ko HB.o _⟩
      case measure=>simp[intOf];omega
  · obtain rfl:k=l.length:=by omega
    have hres:Hid (bh l p=(rM,false)):=by show _=_;rw[HC.o,oF l p HN.o]
    go_wp2;exact cm (v:=.tuple #[.agg #[I 0,I 0,I 0,.bool false],.bool false]) (by simp[results,Tryz.results31,go_sem,t0,t1,t2,t3]) rfl ⟨by rw[hres.out];rfl,(((jQ.out.setCell (aI _) _).setCell (aI _) _).setCell (aI _) _).setCell (aI _) _⟩
theorem OG (ao:Option Addr) (cap:Nat) (p:Int) (w:World) :
  Calls Tryz.prog 31 #[.slice ao 0 cap,I p] w fun e w'=>e=.returned (.tuple #[.agg (jU (bh [] p).1),.bool (bh [] p).2])/\Below w.heap.size w w':=by
 have hbz:Below w.heap.size w (w.alloc (.cells #[I 0,I 0,I 0,.bool false] 47)):=(aK _ _).alloc (aI _) _;go_enter Tryz.func31,Tryz.ntmps31;go_wp2;refine vo 1 ?_;rw[vg];go_wp2;exact cm (v:=.tuple #[.agg #[I 0,I 0,I 0,.bool false],.bool false]) (by simp[results,Tryz.results31,go_sem]) rfl ⟨rfl,hbz⟩
theorem yL (l:List aZ) (v:Value) (p:Int) (w:World) (h:fu w v l) (hc:bB l=0) :
  Calls Tryz.prog 31 #[v,I p] w fun e w'=>e=.returned (.tuple #[.agg (jU (bh l p).1),.bool (bh l p).2])/\Below w.heap.size w w':=by
 obtain⟨ao,cap,rfl,h⟩:=h;rcases h with rfl | ⟨b,off,rfl,hl⟩
 · exact OG ao cap p w
 · exact ML l b off cap p w hl hc
open Go.RowKit
theorem DM (p:Int):∀(hs:List bR) (i:Nat),i<hs.length->(∀j,j<i->(aV hs j).page≠p)->(aV hs i).page=p->cY hs p=some (aV hs i)
 | s::r,0,_,_,h=>List.find?_cons_of_pos (dI h)
 | s::r,i+1,hi,hn,h=>by
  have ih:=DM p r i (xH hi) (fun j hj=>hn (j+1) (by omega)) h;unfold cY at ih ⊢;have hne:decide (s.page=p)=false:=dJ (hn 0 (by omega));rw[PO,hne];exact ih
theorem LW (p:Int):∀(hs:List bR),(∀j,j<hs.length->(aV hs j).page≠p)->cY hs p=none
 | [],_=>rfl
 | s::r,hn=>by
  have ih:=LW p r (fun j hj=>hn (j+1) (by grind));unfold cY at ih ⊢;have hne:decide (s.page=p)=false:=dJ (hn 0 (by simp))
  grind
def Et (hs:List bR) (p:Int):bR:=(cY hs p).getD tE
theorem B0 (hs:List bR) (ao:Option Addr) (cap:Nat) (p:Int) (w:World) (h:fX w ao hs) (hn:bT hs.length) :
  Calls Tryz.prog 91 #[.slice ao hs.length cap,I p] w fun e w'=>e=.returned (.tuple #[.agg #[I (Et hs p).page,.string (Et hs p).data,.slice (Et hs p).ao (Et hs p).cM.length (Et hs p).cap],.bool (cY hs p).isSome])/\Below w.heap.size w w':=by
 obtain⟨WA,jG⟩:=ex (w.alloc (.cells #[I 0,.string ⟨#[]⟩,Nl] 50));have hb0:Below w.heap.size w WA:=by grind [Below.refl,Below.alloc]
 have rb:WA.heap[w.heap.size]?=some (.cells #[I 0,.string ⟨#[]⟩,Nl] 50 (0,0)):=by grind [bO]
 have HH:Hid (∀i,i<hs.length->∃b off,ao=some (Ad b off)/\b≠w.heap.size/\WA.cell? (Ad b (off+i*3))=some (I (aV hs i).page)/\WA.cell? (Ad b (off+i*3+1))=some (.string (aV hs i).data)/\WA.cell? (Ad b (off+i*3+2))=some (.slice (aV hs i).ao (aV hs i).cM.length (aV hs i).cap)):=fun i hi=>by
  obtain⟨b,off,e1,e2,e3⟩:=(h.below hb0) (by omega);obtain⟨d0,d1,d2,_⟩:=e3 i hi;obtain⟨b',off',e1',e2',_⟩:=h (by omega)
  grind
 obtain⟨y0,y1,y2⟩:=nV rb;have f0:=aO rb 0;have f1:=aO rb 1;have f2:=aO rb 2;have Ip:=ai rb;have lI:=ai jG;have eU:=ai hb0;have UJ:Hid (∀(x:Value) (y:Value) (z:Value),(((WA.setCell (Ad w.heap.size 0) x).setCell (Ad w.heap.size 1) y).setCell (Ad w.heap.size 2) z).heap[w.heap.size]?=some (.cells #[x,y,z] 50 (0,0))/\Below w.heap.size w (((WA.setCell (Ad w.heap.size 0) x).setCell (Ad w.heap.size 1) y).setCell (Ad w.heap.size 2) z)):=fun x y z=>⟨dD (dD (dD rb 0 x) 1 y) 2 z,aM.below hb0 (tR (D:=fun b=>b=w.heap.size) _ w.heap.size 0 1 2 x y z rfl) hb0.size (fun b e=>by omega)⟩
 have Iq:Hid (∀i,i<hs.length->(∀j,j<i->(aV hs j).page≠p)->(aV hs i).page=p->cY hs p=some (aV hs i)):=fun i=>DM p hs i
 have adr:Hid ((∀j,j<hs.length->(aV hs j).page≠p)->cY hs p=none):=LW p hs;have hsl:hs.length<=140737488351232:=hn;unfold Et;obtain⟨o,ho⟩:=ex (cY hs p);rw[<- ho] at Iq adr ⊢;clear hb0 rb jG h hn ho;go_enter Tryz.func91,Tryz.ntmps91;go_upto_region 1 with fail;rw[<- lI.o];go_wp2;go_loopw [6] (fun iv wq=>∃i:Nat,i<=hs.length/\iv=I (i:Int)/\wq=WA/\∀j,j<i->(aV hs j).page≠p) (fun iv _=>hs.length-(intOf iv).toNat)
 case atStart=>grind
 case round =>
  obtain⟨i,hi,rfl,hwr,hno⟩:=hrel;subst hwr;have pK:=ai hno;clear hno;by_cases hlt:i<hs.length
  · have Dw:(i:Int)<(hs.length:Int):=by omega
    obtain⟨b,off,hao,hbn,d0,d1,d2⟩:=HH.o i hlt;have M6:=ai (fun g=>Iq.o i hlt pK.o g);have qH:Hid ((aV hs i).page≠p->∀j,j<i+1->(aV hs j).page≠p):=fun g j hj=>by
     by_cases e:j=i
     · grind
     · exact pK.o j (by omega)
    obtain⟨s,hs2⟩:=ex (aV hs i);rw[<- hs2] at d0 d1 d2 M6 qH;obtain⟨pg,dt,fx,ax,cx⟩:=s;simp only at d0 d1 d2 M6 qH;subst hao;clear HH Iq adr hs2;by_cases g:pg=p
    · have e:=M6.o g;subst e;subst g;clear M6 qH pK;go_wp2;obtain⟨q1,q2⟩:=UJ.o (I pg) (.string dt) (.slice ax fx.length cx);obtain⟨y0,y1,y2⟩:=nV q1;refine cm (v:=.tuple #[.agg #[I pg,.string dt,.slice ax fx.length cx],.bool true]) (by simp[results,Tryz.results91,go_sem,y0,y1,y2]) rfl ⟨rfl,q2⟩
    · have gb:(pg==p)=false:=by grind
      have Xp:=ai (qH.o g);clear M6 qH pK;go_wp2;go_roundw
      case rel=>exact⟨i+1,by omega,by go_num,by grind,Xp.o⟩
      case measure=>simp[intOf];omega
  · obtain rfl:i=hs.length:=by omega
    have e:=adr.o pK.o;subst e;clear HH Iq adr pK;go_wp2;obtain⟨q1,q2⟩:=UJ.o (I 0) (.string ⟨#[]⟩) Nl;obtain⟨y0,y1,y2⟩:=nV q1;refine cm (v:=.tuple #[.agg #[I 0,.string ⟨#[]⟩,Nl],.bool false]) (by simp[results,Tryz.results91,go_sem,y0,y1,y2]) rfl ⟨rfl,q2⟩
theorem TZ (k:aN) (a:fR) (w:World) (hP:qQ w a.aP k.aj) (hc:∀i,i<k.aj.length->bB (ak k.aj i).bk=0) (hn:k.aj.length<=1000000) :
  Calls Tryz.prog 47 #[.agg (bg a k)] w fun e w'=>e=.returned (I (fL k.aj))/\Below w.heap.size w w':=by
 obtain⟨WA,jG⟩:=ex (w.alloc (.cells (bg a k) 27));have hb0:Below w.heap.size w WA:=by grind [Below.refl,Below.alloc]
 have kb:WA.heap[w.heap.size]?=some (.cells (bg a k) 27 (0,0)):=by grind [bO]
 have tP:Hid (∀V,Below WA.heap.size WA V->V.cell? (Ad w.heap.size 3)=some (.slice a.aP k.aj.length a.cP)):=fun V hV=>aB (aQ kb hV (aT kb)) 3 rfl
 have HH:Hid (∀V i,Below WA.heap.size WA V->i<k.aj.length->∃b off aa ca,a.aP=some (Ad b off)/\V.cell? (Ad b (off+i*3+1))=some (.slice aa (ak k.aj i).bk.length ca)/\Calls Tryz.prog 61 #[.slice aa (ak k.aj i).bk.length ca] V fun e w'=>e=.returned (I (dU (ak k.aj i).bk))/\Below V.heap.size V w'):=fun V i hV hi=>by
  obtain⟨b,off,e1,e2,e3⟩:=(hP.below (hb0.trans (hV.mono hb0.size))) (by omega);obtain⟨va,ap,cp,c0,c1,c2,c3,_⟩:=e3 i hi;have c3':=c3;obtain⟨aa,ca,rfl,_⟩:=c3;exact⟨b,off,aa,ca,e1,c1,Sl _ _ V c3' (hc i hi)⟩
 have Ip:=ai (wN k.aj);have JW:Hid (∀i,iO k.aj (i+1)=iO k.aj i+dU (ak k.aj i).bk):=fun i=>rfl
 have lI:=ai jG;have eU:=ai hb0;obtain⟨n0,hn0⟩:=ex k.aj.length;unfold fL;unfold bg at lI ⊢;rw[<- hn0] at tP HH hn lI ⊢;clear hb0 kb jG hP hc hn0;go_enter Tryz.func47,Tryz.ntmps47;go_upto_region 1 with fail;rw[<- lI.o];go_wp2;go_loopw [3,4] (fun sv iv wq=>∃i:Nat,i<=n0/\iv=I (i:Int)/\sv=I (iO k.aj i)/\Below WA.heap.size WA wq) (fun _ iv _=>n0-(intOf iv).toNat)
 case atStart=>exact⟨0,by omega,rfl,rfl,aK _ _⟩
 case round =>
  obtain⟨i,hi,rfl,rfl,hb⟩:=hrel;have HB:=ai hb;have c3:=tP.o _ hb;have Ya:=Ip.o i;by_cases hlt:i<n0
  · have Dw:(i:Int)<(n0:Int):=by omega
    obtain⟨b,off,aa,ca,hao,c1,hcl⟩:=HH.o _ i hb hlt;have hst:=JW.o i;have htb:=nr (ak k.aj i).bk;have Jj:=ai hcl;obtain⟨T,hT⟩:=ex (dU (ak k.aj i).bk);obtain⟨R,hR⟩:=ex (iO k.aj i);obtain⟨na,Ax⟩:=ex ((ak k.aj i).bk.length);rw[<- Ax] at c1 Jj;rw[<- hT] at Jj hst htb;rw[<- hR] at hst Ya ⊢;have HST:=ai hst;rw[hao] at c3;clear hcl hT hR Ax hst hb hao HH Ip JW tP;go_wp2_with (go_at_call 61;refine Jj.o.mono ?_;rintro e w1 ⟨rfl,hb1⟩;have dz:=ai (HB.o.trans (hb1.mono HB.o.size));clear hb1)
    go_roundw
    case rel=>exact⟨i+1,by omega,by go_num,by rw[HST.o],dz.o⟩
    case measure=>simp[intOf];omega
  · obtain rfl:i=n0:=by omega
    clear HH Ip JW hb;go_wp2;go_ret;exact⟨rfl,eU.o.trans (HB.o.mono eU.o.size)⟩
open Go.RowKit
def TW (d:Nat):Array Value:=madeCells #[.int .u8 0] d
theorem Wf (V:World):(Instr.makeSlice 137 (I 16) (I 16)).run Tryz.prog V=.ok (.slice (some (Ad V.heap.size 0)) 16 16) (V.alloc (.cells (TW 16) 5)):=by
 rfl
theorem Wq (V:World):(convert 137 9 (.slice (some (Ad V.heap.size 0)) 16 16)).run Tryz.prog (V.alloc (.cells (TW 16) 5))=.ok (.string rR) (V.alloc (.cells (TW 16) 5)):=by
 have e:rR=strOfNums (List.replicate 16 0):=by rfl
 rw[e];refine Ky _ 137 5 Tryz.underlying137 Tryz.underlying5 _ 0 16 16 _ (by simp) ?_ 9 Tryz.underlying9;intro i hi;rw[gM];refine aB (bO V (TW 16) _) i ?_;rw[lU,P4,aR hi]
 simp_all [TW,madeCells,Nat.mod_one]
theorem QP {w:World} {ao:Option Addr} {hs:List bR} {p:Int} {s:bR} (h:fX w ao hs) (hf:nk hs) (hr:ed hs=true) (e:cY hs p=some s):kQ w s.ao s.cM/\vD s/\cu s=true:=by
 obtain⟨i,hi,e2⟩:=gU tE (Kz e);have e3:aV hs i=s:=e2;obtain⟨b,off,_,_,h3⟩:=h (by omega);have h4:kQ w (aV hs i).ao (aV hs i).cM:=(h3 i hi).2.2.2;rw[e3] at h4;have h5:=hf.2 i hi;have h6:=(ng hs hs.length hr i hi).1
 grind
theorem Cb (k:aN) (a:fR) (g1 g2 g3:Int) (z:Bool) (p:Int) (w:World) (hH:fX w a.aS k.aD) (hf:nk k.aD) (hr:ed k.aD=true) (hz:z=false->(cY k.aD p).isSome=true) :
  Calls Tryz.prog 49 #[.agg (bg a k),.agg #[I g1,I g2,I g3,.bool z],I p] w fun e w'=>e=.returned (.string (dY k.aD p z))/\Below w.heap.size w w':=by
 obtain⟨WA,jG⟩:=ex ((w.alloc (.cells (bg a k) 27)).alloc (.cells #[I g1,I g2,I g3,.bool z] 47));have hb0:Below w.heap.size w WA:=by simp_all [aK,m9]
 have kb:WA.heap[w.heap.size]?=some (.cells (bg a k) 27 (0,0)):=by grind [bM,bO]
 have ab:WA.heap[w.heap.size+1]?=some (.cells #[I g1,I g2,I g3,.bool z] 47 (0,0)):=by
  grind [bO,World.size_alloc]
 have k0:WA.cell? (Ad w.heap.size 0)=some (.slice a.aS k.aD.length a.cS):=aB kb 0 rfl;have x3:WA.cell? (Ad (w.heap.size+1) 3)=some (.bool z):=aB ab 3 rfl;have lI:=ai jG;have eU:=ai hb0;cases z with
 | true =>
  have e1:=Wf;have e2:=Wq;have ef:dY k.aD p true=rR:=rfl;rw[ef];unfold bg at lI ⊢;clear hH hf hr hz hb0 kb ab jG ef;go_enter Tryz.func49,Tryz.ntmps49;go_upto_region 1 with fail;rw[<- lI.o];go_wp2;go_ret;exact⟨rfl,eU.o.alloc eU.o.size _⟩
 | false =>
  obtain⟨s,hs⟩:=Option.isSome_iff_exists.1 (hz rfl);have ef:dY k.aD p false=mI s:=by
   grind [dY,eO]
  rw[ef];have Xo:=ai (B0 k.aD a.aS a.cS p WA (hH.below hb0) hf.1);unfold Et at Xo;rw[hs] at Xo;have qK:Hid (∀V,Below WA.heap.size WA V->Calls Tryz.prog 92 #[.agg #[I s.page,.string s.data,.slice s.ao s.cM.length s.cap]] V fun e w'=>e=.returned (.string (mI s))/\Below V.heap.size V w'):=fun V hV=>by
   obtain⟨h1,h2,h3⟩:=QP (hH.below (hb0.trans (hV.mono hb0.size))) hf hr hs;exact Nk s V h1 h2 h3
  obtain⟨D,hD⟩:=ex (mI s);rw[<- hD] at qK ⊢;obtain⟨pg,dt,fx,ax,cx⟩:=s;have amM:Hid (Calls Tryz.prog 91 #[.slice a.aS k.aD.length a.cS,I p] WA fun e w'=>e=.returned (.tuple #[.agg #[I pg,.string dt,.slice ax fx.length cx],.bool true])/\Below WA.heap.size WA w'):=Xo.o;simp only at qK;unfold bg at lI ⊢;clear hH hf hr hz hb0 kb ab jG ef Xo hs hD;go_enter Tryz.func49,Tryz.ntmps49;go_upto_region 1 with fail;rw[<- lI.o];go_wp2_with (first
   | (go_at_call 91;refine amM.o.mono ?_;rintro e w1 ⟨rfl,hb1⟩;have dz:=ai hb1;clear hb1)
   | (go_at_call 92;refine(qK.o _ (dz.o.alloc dz.o.size _)).mono ?_;rintro e w2 ⟨rfl,hb2⟩;have gj:=ai ((dz.o.alloc dz.o.size _).trans (hb2.mono (dz.o.alloc dz.o.size _).size));clear hb2))
  go_ret;exact⟨rfl,eU.o.trans (gj.o.mono eU.o.size)⟩
structure AV (w:World) (k0:Array Value) (x:qW) (W:World):Prop where
 kb:W.heap[w.heap.size]?=some (.cells k0 27 (0,0))
 rb:W.heap[w.heap.size+1]?=some (.cells #[I 0,I 0,I 0,.bool false] 47 (0,0))
 ab:W.heap[w.heap.size+2]?=some (.cells #[I x.Bp.page,I x.Bp.bC,I x.Bp.fI,.bool x.Bp.zero] 47 (0,0))
 Nf:Below w.heap.size w W
theorem AV.below {w W V:World} {k0:Array Value} {x:qW} (h:AV w k0 x W) (hb:Below W.heap.size W V):AV w k0 x V:=⟨aQ h.kb hb (aT h.kb),aQ h.rb hb (aT h.rb),aQ h.ab hb (aT h.ab),h.Nf.trans (hb.mono h.Nf.size)⟩
theorem AV.lay {w W V:World} {k0:Array Value} {x y:qW} (h:AV w k0 x W) (hV:V=(((W.setCell (Ad (w.heap.size+2) 0) (I y.Bp.page)).setCell (Ad (w.heap.size+2) 1) (I y.Bp.bC)).setCell (Ad (w.heap.size+2) 2) (I y.Bp.fI)).setCell (Ad (w.heap.size+2) 3) (.bool y.Bp.zero)):AV w k0 y V:=by
 have kp:aM (fun b=>b=w.heap.size+2) W V:=by
  rw[hV];have k:∀(A:World) (j:Nat) (v:Value),aM (fun b=>b=w.heap.size+2) A (A.setCell (Ad (w.heap.size+2) j) v):=fun A j v=>aM.set _ A (Ad (w.heap.size+2) j) v rfl
  exact(((k _ _ _).trans (k _ _ _) (fun _ _ g=>g)).trans (k _ _ _) (fun _ _ g=>g)).trans (k _ _ _) (fun _ _ g=>g)
 exact⟨kp.keep h.kb (by omega),kp.keep h.rb (by omega),by rw[hV];exact dD (dD (dD (dD h.ab 0 _) 1 _) 2 _) 3 _,aM.below h.Nf kp h.Nf.size (fun b e=>by omega)⟩
theorem NM (k:aN) (a:fR) (kd at_:Int) (w:World) (hP:qQ w a.aP k.aj) (hc:∀i,i<k.aj.length->bB (ak k.aj i).bk=0) (hn:k.aj.length<=4) (he:∀i,i<k.aj.length->(ak k.aj i).aU.length<=65025) :
  Calls Tryz.prog 48 #[.agg (bg a k),I kd,I at_] w fun e w'=>e=.returned (.tuple #[I (fE k.aj kd at_).n,I (fE k.aj kd at_).page,.bool (fE k.aj kd at_).fine,.agg #[I (fE k.aj kd at_).Bp.page,I (fE k.aj kd at_).Bp.bC,I (fE k.aj kd at_).Bp.fI,.bool (fE k.aj kd at_).Bp.zero]])/\Below w.heap.size w w':=by
 obtain⟨n0,hn0⟩:=ex k.aj.length;obtain⟨WA,jG⟩:=ex (((w.alloc (.cells #[.slice a.aS k.aD.length a.cS,.slice a.aF k.frames.length a.cF,.slice a.aL k.slots.length a.cL,.slice a.aP n0 a.cP,I k.hand] 27)).alloc (.cells #[I 0,I 0,I 0,.bool false] 47)).alloc (.cells #[I 0,I 0,I 0,.bool false] 47));have hb0:Below w.heap.size w WA:=by rw[jG];exact(((aK _ _).alloc (aI _) _).alloc (by simp) _).alloc (by simp;omega) _
 have HN0:Hid (AV w #[.slice a.aS k.aD.length a.cS,.slice a.aF k.frames.length a.cF,.slice a.aL k.slots.length a.cL,.slice a.aP n0 a.cP,I k.hand] Rc WA):=by
  rw[jG];refine⟨bM (bM (bO w _ _) _) _,bM ?_ _,?_,by grind⟩
  · grind [bO,World.size_alloc]
  · have:=bO ((w.alloc (.cells #[.slice a.aS k.aD.length a.cS,.slice a.aF k.frames.length a.cF,.slice a.aL k.slots.length a.cL,.slice a.aP n0 a.cP,I k.hand] 27)).alloc (.cells #[I 0,I 0,I 0,.bool false] 47)) #[I 0,I 0,I 0,.bool false] 47;rw[ig,ig] at this;exact this
 have uT:Hid (∀j,j<n0->∃b off aa ca ap cp,a.aP=some (Ad b off)/\(∀V,Below w.heap.size w V->V.cell? (Ad b (off+j*3+1))=some (.slice aa (ak k.aj j).bk.length ca)/\V.cell? (Ad b (off+j*3+2))=some (.slice ap (ak k.aj j).aU.length cp)/\∀m,m<(ak k.aj j).aU.length->∃eb eo,ap=some (Ad eb eo)/\V.cell? (Ad eb (eo+m*3))=some (I (aH (ak k.aj j).aU m).page)/\V.cell? (Ad eb (eo+m*3+1))=some (I (aH (ak k.aj j).aU m).kind)/\V.cell? (Ad eb (eo+m*3+2))=some (I (aH (ak k.aj j).aU m).loc))/\∀U p,Below w.heap.size w U->Calls Tryz.prog 31 #[.slice aa (ak k.aj j).bk.length ca,I p] U fun e w'=>e=.returned (.tuple #[.agg #[I (bh (ak k.aj j).bk p).1.page,I (bh (ak k.aj j).bk p).1.bC,I (bh (ak k.aj j).bk p).1.fI,.bool (bh (ak k.aj j).bk p).1.zero],.bool (bh (ak k.aj j).bk p).2])/\Below U.heap.size U w'):=fun j hj=>by
  have hj:j<k.aj.length:=by omega
  obtain⟨b,off,e1,e2,e3⟩:=hP (by omega);obtain⟨va,ap,cp,c0,c1,c2,c3,c4,_⟩:=e3 j hj;have c3':=c3;obtain⟨aa,ca,rfl,_⟩:=c3;refine⟨b,off,aa,ca,ap,cp,e1,fun V hV=>⟨(hV.cell (p:=(Ad b (off+j*3+1))) e2).trans c1,(hV.cell (p:=(Ad b (off+j*3+2))) e2).trans c2,fun m hm=>?_⟩,fun U p hU=>yL _ _ p U (c3'.below hU) (hc j hj)⟩;obtain⟨eb,eo,g1,_,g3⟩:=(c4.below hV) (by omega);have z0:=g3 m hm 0 (by omega);rw[fW] at z0;exact⟨eb,eo,g1,z0,g3 m hm 1 (by omega),g3 m hm 2 (by omega)⟩
 have HNS:Hid (∀j,wW k.aj kd at_ (j+1)=ov (ak k.aj j).bk (ak k.aj j).aU kd at_ (wW k.aj kd at_ j) (ak k.aj j).aU.length):=fun j=>rfl
 have HNE:Hid (∀ar es x m,ov ar es kd at_ x (m+1)=Co ar kd at_ (ov ar es kd at_ x m) (aH es m)):=fun ar es x m=>rfl
 have HEL:Hid (∀j,j<n0->(ak k.aj j).aU.length<=65025):=fun j hj=>he j (by omega)
 have lI:=ai jG;unfold fE;rw[<- hn0] at hn;unfold bg;rw[<- hn0];clear hP hc he hb0 jG hn0;obtain⟨C0,hC0⟩:∃C0:Array Value,C0=#[.slice a.aS k.aD.length a.cS,.slice a.aF k.frames.length a.cF,.slice a.aL k.slots.length a.cL,.slice a.aP n0 a.cP,I k.hand]:=⟨_,rfl⟩;have tP:Hid (∀(V:World) x,AV w C0 x V->V.cell? (Ad w.heap.size 3)=some (.slice a.aP n0 a.cP)):=fun V x h=>by grind [aB,AV.kb]
 rw[<- hC0] at HN0;clear hC0;go_enter Tryz.func48,Tryz.ntmps48;go_upto_region 3 with fail;rw[<- lI.o];go_wp2;go_loopw [10,11,12,14] (fun v1 v2 v3 iv wq=>∃j:Nat,∃x:qW,j<=n0/\iv=I (j:Int)/\x=wW k.aj kd at_ j/\v1=I x.n/\v2=I x.page/\v3=.bool x.fine/\(0<=x.n/\x.n<=65025*j)/\AV w C0 x wq) (fun _ _ _ iv _=>n0-(intOf iv).toNat)
 case atStart=>exact⟨0,Rc,by omega,rfl,rfl,rfl,rfl,rfl,by grind [Rc],HN0.o⟩
 case round =>
  obtain⟨j,x,hj,rfl,hx,rfl,rfl,rfl,hxn,Hd⟩:=hrel;have HNM:=ai Hd;have HX:=ai hx;have c3:=tP.o _ _ Hd;by_cases hlt:j<n0
  · have Sw:(j:Int)<(n0:Int):=by omega
    obtain⟨b,off,aa,ca,ap,cp,hao,hen,har⟩:=uT.o j hlt;have hel:=HEL.o j hlt;have HST:=ai (HNS.o j);rw[<- HX.o] at HST;obtain⟨es,hes⟩:=ex ((ak k.aj j).aU);obtain⟨pH,ahR⟩:=ex ((ak k.aj j).bk);rw[<- hes] at hen hel HST;rw[<- ahR] at hen har HST;rw[hao] at c3 tP;have oD:=ai hen;have HAR:=ai har;have Xp:=ai (HNE.o pH es x);have HZ:Hid (ov pH es kd at_ x 0=x):=rfl;clear hx Hd hao hen har hes ahR uT HNS HEL HN0 HNE HX;go_wp2;go_loopw [10,11,12,15] (fun v1 v2 v3 iv wq=>∃m:Nat,∃y:qW,m<=es.length/\iv=I (m:Int)/\y=ov pH es kd at_ x m/\v1=I y.n/\v2=I y.page/\v3=.bool y.fine/\(0<=y.n/\y.n<=65025*j+m)/\AV w C0 y wq) (fun _ _ _ iv _=>es.length-(intOf iv).toNat)
    case atStart=>exact⟨0,x,by omega,rfl,HZ.o.symm,rfl,rfl,rfl,by omega,HNM.o⟩
    case round =>
     obtain⟨m,y,hm,rfl,hy,rfl,rfl,rfl,hyn,Hd⟩:=hrel;have HY:=ai hy;have HNY:=ai Hd;have c3:=tP.o _ _ Hd;obtain⟨c1,c2,hee⟩:=oD.o _ Hd.Nf;clear HZ HNM hxn hy;by_cases hmt:m<es.length
     · have hmi:(m:Int)<(es.length:Int):=by omega
       obtain⟨eb,eo,hap,z0,z1,z2⟩:=hee m hmt;have lR:=ai (Xp.o m);rw[<- HY.o] at lR;obtain⟨en,aas⟩:=ex (aH es m);rw[<- aas] at z0 z1 z2 lR;obtain⟨pg,kx,lx⟩:=en;simp only at z0 z1 z2;subst hap;have wj:=ai (fun U hU=>HAR.o U pg hU);clear hee aas oD HAR tP Xp HY Hd;obtain⟨W1,hW1⟩:=ex (wr.alloc (.cells #[I pg,I kx,I lx] 45));have hb1:Below wr.heap.size wr W1:=by rw[hW1];exact(aK _ _).alloc (aI _) _
       have YI:W1.heap[wr.heap.size]?=some (.cells #[I pg,I kx,I lx] 45 (0,0)):=by rw[hW1];exact bO _ _ _
       have Pq:=ai (HNY.o.below hb1);have t1:∀{q:Nat} {o:Nat} {u:Value},wr.cell? (Ad q o)=some u->W1.cell? (Ad q o)=some u:=fun {q o u} h=>(hb1.cell (p:=(Ad q o)) (oc wr _ h)).trans h
       have d3:=t1 c3;have d1:=t1 c1;obtain⟨x0,x1,x2⟩:=nV YI;have HX1:=ai YI;have CG:=ai hW1;clear hW1 hb1 t1 YI;by_cases hk:kx=kd/\lx=at_
       · obtain⟨rfl,rfl⟩:=hk;have aae:ov pH es kx lx x (m+1)=ou y pg (bh pH pg).1:=by
          rw[lR.o];unfold Co;rw[aR ⟨rfl,rfl⟩]
         have JV:=ai aae;clear aae;obtain⟨F,hF⟩:=ex (bh pH pg);rw[<- hF] at JV wj;obtain⟨⟨g1,g2,g3,g4⟩,gf⟩:=F;simp only at wj JV;clear lR hF;go_upto_region 10 with fail;rw[<- CG.o];go_upto_region 11 with fail;clear c1 c2 c3 z0 z1 z2;have pL:=ai (Pq.o.below (aK W1.heap.size W1).drew).Nf;have vZ:=ai (Pq.o.below ((aK W1.heap.size W1).alloc (aI _) (.cells #[I 0,I 0,I 0,.bool false] 47)).drew).Nf;have ZA:=ai (aK W1.heap.size W1).drew;have Ps:=ai ((aK W1.heap.size W1).alloc (aI _) (.cells #[I 0,I 0,I 0,.bool false] 47)).drew;obtain⟨xb,Su⟩:=ex wr.heap.size;rw[<- Su] at HX1 x0 x1 x2 ⊢;clear Su;have x0b:(W1.alloc (.cells #[I 0,I 0,I 0,.bool false] 47)).cell? (Ad xb 0)=some (I pg):=aB (bM HX1.o _) 0 rfl;have tb:∀{q:Nat} {o:Nat} {u:Value},W1.cell? (Ad q o)=some u->(W1.alloc (.cells #[I 0,I 0,I 0,.bool false] 47)).cell? (Ad q o)=some u:=fun {q o u} h=>(((aK W1.heap.size W1).alloc (aI _) _).cell (p:=(Ad q o)) (oc W1 _ h)).trans h
         have d3b:=tb d3;have d1b:=tb d1;clear tb;have HNW:Hid (((W1.alloc (.cells #[I 0,I 0,I 0,.bool false] 47)).drew).heap[W1.heap.size]?=some (.cells #[I 0,I 0,I 0,.bool false] 47 (0,0))):=bO W1 #[I 0,I 0,I 0,.bool false] 47;go_cut [17,18] (fun x17 x18 wx=>∃g,x17=.pointer (some (Ad g 0))/\x18=.bool gf/\wx.heap[g]?=some (.cells #[I g1,I g2,I g3,.bool g4] 47 (0,0))/\Below W1.heap.size W1 wx)
         case first =>
          go_region_law (go_simp;go_at_call 31;first | (refine(wj.o _ pL.o).mono ?_;rintro e w1 ⟨rfl,hb1⟩;have dz:=ai (ZA.o.trans (hb1.mono ZA.o.size));clear hb1;go_simp) | (refine(wj.o _ vZ.o).mono ?_;rintro e w1 ⟨rfl,hb1⟩;have dz:=ai (Ps.o.trans (hb1.mono Ps.o.size));have hz:=aQ HNW.o hb1 (aT HNW.o);have HZZ:=ai hz;obtain⟨k0,k1,k2,k3⟩:=ZM hz;have kf:=aO hz;clear hz hb1;go_simp))
          all_goals
           go_wp2_with fail
           go_meet
           case rel=>exact⟨_,rfl,rfl,by first | exact dD (dD (dD (dD HZZ.o 0 _) 1 _) 2 _) 3 _ | exact bO w1 _ _,by first | exact dz.o.alloc dz.o.size _ | exact(((dz.o.setCell (p:=(Ad W1.heap.size 0)) (aI _) _).setCell (p:=(Ad W1.heap.size 1)) (aI _) _).setCell (p:=(Ad W1.heap.size 2)) (aI _) _).setCell (p:=(Ad W1.heap.size 3)) (aI _) _⟩
         case rest =>
          obtain⟨g,rfl,rfl,hgb,hbc⟩:=hcut;have hnc:=Pq.o.below hbc;obtain⟨x0,x1,x2⟩:=nV (aQ HX1.o hbc (aT HX1.o));obtain⟨y0,y1,y2,y3⟩:=ZM hgb;obtain⟨v0,v1,v2,v3⟩:=ZM hnc.ab;have f0:=aO hnc.ab 0;have f1:=aO hnc.ab 1;have f2:=aO hnc.ab 2;have f3:=aO hnc.ab 3;have YD:Hid (∀V,V=(((wc.setCell (Ad (w.heap.size+2) 0) (I g1)).setCell (Ad (w.heap.size+2) 1) (I g2)).setCell (Ad (w.heap.size+2) 2) (I g3)).setCell (Ad (w.heap.size+2) 3) (.bool g4)->AV w C0 (ou y pg ⟨g1,g2,g3,g4⟩) V):=fun V hV=>hnc.lay hV
          obtain⟨yn,yp,yf,⟨q1,q2,q3,q4⟩⟩:=y;simp only at v0 v1 v2 v3 hyn;clear hgb hbc hnc pL vZ ZA Ps HNW wj Pq HX1 HNY;rcases(show yf=false∨(yf=true/\yn=0)∨(yf=true/\¬yn=0/\¬pg=yp)∨(yf=true/\¬yn=0/\pg=yp) by cases yf <;> simp <;> omega) with h1 | ⟨h1,h2⟩ | ⟨h1,h2,h3⟩ | ⟨h1,h2,h3⟩
          · subst h1;go_wp2;go_roundw
            case rel=>exact⟨m+1,ou ⟨yn,yp,false,⟨q1,q2,q3,q4⟩⟩ pg ⟨g1,g2,g3,g4⟩,by omega,by go_num,JV.o.symm,rfl,rfl,rfl,by show 0<=yn+1/\yn+1<=65025*(j:Int)+((m+1:Nat):Int);omega,YD.o _ rfl⟩
            case measure=>simp[intOf];omega
          · subst h1;subst h2;go_wp2;go_roundw
            case rel=>exact⟨m+1,ou ⟨0,yp,true,⟨q1,q2,q3,q4⟩⟩ pg ⟨g1,g2,g3,g4⟩,by omega,by go_num,JV.o.symm,rfl,rfl,rfl,by show 0<=(0:Int)+1/\(0:Int)+1<=65025*(j:Int)+((m+1:Nat):Int);omega,YD.o _ rfl⟩
            case measure=>simp[intOf];omega
          · subst h1;have b2:(yn==0)=false:=by simpa using h2
            have b3:(pg==yp)=false:=by simpa using h3
            go_wp2;go_roundw
            case rel=>exact⟨m+1,ou ⟨yn,yp,true,⟨q1,q2,q3,q4⟩⟩ pg ⟨g1,g2,g3,g4⟩,by omega,by go_num,JV.o.symm,rfl,rfl,by unfold ou;simp[h2,h3],by show 0<=yn+1/\yn+1<=65025*(j:Int)+((m+1:Nat):Int);omega,YD.o _ rfl⟩
            case measure=>simp[intOf];omega
          · subst h1;subst h3;have b2:(yn==0)=false:=by simpa using h2
            go_wp2;go_roundw
            case rel=>exact⟨m+1,ou ⟨yn,pg,true,⟨q1,q2,q3,q4⟩⟩ pg ⟨g1,g2,g3,g4⟩,by omega,by go_num,JV.o.symm,rfl,rfl,by unfold ou;simp[h2],by show 0<=yn+1/\yn+1<=65025*(j:Int)+((m+1:Nat):Int);omega,YD.o _ rfl⟩
            case measure=>simp[intOf];omega
       · have aae:ov pH es kd at_ x (m+1)=y:=by
          rw[lR.o];unfold Co;rw[bf hk]
         have JV:=ai aae;clear lR wj aae;rcases(show ¬kx=kd∨(kx=kd/\¬lx=at_) by omega) with h1 | ⟨h1,h2⟩
         · have b1:(kx != kd)=true:=by simpa using h1
           go_upto_region 10 with fail;rw[<- CG.o];go_wp2;go_roundw
           case rel=>exact⟨m+1,y,by omega,by go_num,JV.o.symm,rfl,rfl,rfl,by omega,Pq.o⟩
           case measure=>simp[intOf];omega
         · subst h1;have b2:(lx != at_)=true:=by simpa using h2
           go_upto_region 10 with fail;rw[<- CG.o];go_wp2;go_roundw
           case rel=>exact⟨m+1,y,by omega,by go_num,JV.o.symm,rfl,rfl,rfl,by omega,Pq.o⟩
           case measure=>simp[intOf];omega
     · obtain rfl:m=es.length:=by omega
       have HEQ:Hid (y=wW k.aj kd at_ (j+1)):=HY.o.trans HST.o.symm;clear oD HAR Xp hee;go_wp2;go_roundw
       case rel=>exact⟨j+1,y,by omega,by go_num,HEQ.o,rfl,rfl,rfl,by omega,HNY.o⟩
       case measure=>simp[intOf];omega
  · obtain rfl:j=n0:=by omega
    have Na:=Hd.rb;obtain⟨y0,y1,y2,y3⟩:=ZM Hd.ab;obtain⟨v0,v1,v2,v3⟩:=ZM Na;have f0:=aO Na 0;have f1:=aO Na 1;have f2:=aO Na 2;have f3:=aO Na 3;have Iq:Hid (∀p q r s:Value,((((wr.setCell (Ad (w.heap.size+1) 0) p).setCell (Ad (w.heap.size+1) 1) q).setCell (Ad (w.heap.size+1) 2) r).setCell (Ad (w.heap.size+1) 3) s).heap[w.heap.size+1]?=some (.cells #[p,q,r,s] 47 (0,0))/\Below w.heap.size w ((((wr.setCell (Ad (w.heap.size+1) 0) p).setCell (Ad (w.heap.size+1) 1) q).setCell (Ad (w.heap.size+1) 2) r).setCell (Ad (w.heap.size+1) 3) s)):=fun p q r s=>⟨dD (dD (dD (dD Na 0 p) 1 q) 2 r) 3 s,by
     have hb:=Hd.Nf;exact(((hb.setCell (p:=(Ad (w.heap.size+1) 0)) (vh _) _).setCell (p:=(Ad (w.heap.size+1) 1)) (vh _) _).setCell (p:=(Ad (w.heap.size+1) 2)) (vh _) _).setCell (p:=(Ad (w.heap.size+1) 3)) (vh _) _⟩
    obtain⟨xn,xp,xf,⟨q1,q2,q3,q4⟩⟩:=x;simp only at y0 y1 y2 y3;clear hx Hd Na uT HNS HEL HN0 HNE HNM hxn;go_upto_region 16 with fail;go_region;go_wp2;obtain⟨r1,r2⟩:=Iq.o (I q1) (I q2) (I q3) (.bool q4);obtain⟨y0,y1,y2,y3⟩:=ZM (aQ r1 (aK _ _).drew (aT r1));refine cm (v:=.tuple #[I xn,I xp,.bool xf,.agg #[I q1,I q2,I q3,.bool q4]]) (by simp[results,Tryz.results48,go_sem,y0,y1,y2,y3]) rfl ⟨by rw[<- HX.o],r2.drew⟩
open Go.RowKit
theorem MJ (F:Nat->di) (hF:mo F) (w:World) :
  Calls Tryz.prog 128 #[.agg (iC (fun n=>nZ (F n)))] w fun e w'=>∃v,e=.returned v/\gQ w.heap.size w' v (gw F)/\Below w.heap.size w w':=by
 have HF:Hid (mo F):=hF;clear hF;obtain⟨C,hC⟩:=ex (iC (fun n=>nZ (F n)));have hCg:Hid (∀n,n<256->C[n]?=some (I (nZ (F n)))):=by show ∀n,_;grind [Ec]
 rw[<- hC];clear hC;obtain⟨i0,hi,hz0,hz1,hz2⟩:=gm PL;have HX:Hid ((w.alloc (.cells C 177)).heap[w.heap.size]?=some (.cells C 177 (0,0))):=bO w C 177;have eU:Hid (Below w.heap.size w (w.alloc (.cells C 177))):=(aK _ _).alloc (aI _) _;go_enter Tryz.func128,Tryz.ntmps128;go_wp2;go_loopw [3,4] (fun v i wr=>∃k:Nat,1<=k/\k<=256/\i=I k/\wr.ownsRow (w.heap.size+1) 47 4 v (bY F k).length (bZ (bY F k))/\wr.heap[w.heap.size]?=some (.cells C 177 (0,0))/\Below w.heap.size w wr) (fun _ i _=>256-(intOf i).toNat)
 case atStart =>
  have e:bY F 1=[]:=by grind [bY,Hid.o,mo.zero]
  refine⟨1,by omega,by omega,rfl,?_,HX.o,eU.o⟩;rw[e];exact jz _ _ _ _
 case round =>
  obtain⟨k,hk1,hk,rfl,hown,hx,hb⟩:=hrel;have HO:Hid (wr.ownsRow (w.heap.size+1) 47 4 u3 (bY F k).length (bZ (bY F k))):=hown;have HXr:Hid (wr.heap[w.heap.size]?=some (.cells C 177 (0,0))):=hx;have HB:Hid (Below w.heap.size w wr):=hb;by_cases hlt:k<256
  · have l0:=aB hx k (hCg.out k hlt);have l1:=aB hx (k-1) (hCg.out (k-1) (by omega));have JC:(k:Int)<=255:=by omega
    have ar9:(1:Int)<=(k:Int):=by omega
    have hkb:(k:Int)<256:=by omega
    clear hown hx hb;have hlast:fO F k=F (k-1):=by
     cases k with
     | zero=>omega
     | succ k=>rfl
    have hpk:=HF.o.fI k;have hpl:=HF.o.fI (k-1);obtain⟨s,hs⟩:=ex (F k);obtain⟨t,ht⟩:=ex (fO F k);rw[<- hlast,<- ht] at l1 hpl;rw[<- hs] at l0 hpk;have HS:Hid (s=F k):=hs;have HT:Hid (t=fO F k):=ht;clear hs ht hlast;by_cases hm:s.m=true
    · have hen:=Vc s hpk hm;have hinj:=XQ s t hpk hpl hm;obtain⟨x,hx⟩:=ex (nZ s);obtain⟨y,hy⟩:=ex (nZ t);rw[<- hx] at l0 hen hinj;rw[<- hy] at l1 hinj;obtain⟨hp1,hp2,Yb,hp4⟩:=hen;have HP1:Hid ((x-1)%8/2=s.p):=hp1;have ES:Hid (decide (8<=x-1)=s.z):=hp2;have HI:Hid (y=x↔oh s t=true):=hinj;have hx0:(x==0)=false:=zw.2 (by omega);clear hx hy hp1 hp2 hinj hpk hpl;by_cases hyx:y=x
      · have he:oh s t=true:=HI.o.1 hyx;have ale:(y==x)=true:=by simp[hyx]
        have HG:Hid (bY F (k+1)=uB (bY F k)):=by show _=_;simp only[bY];rw[<- HS.o,<- HT.o,hm,he];rfl
        have hpos:=xw F k (by rw[<- HT.o,<- EO s t he];exact hm);have hlen:=pD F k;have Vf:=uX F k ((bY F k).length-1) (by omega);obtain⟨G,hG⟩:=ex (bY F k);rw[<- hG] at HO HG hpos hlen Vf;clear hG he hm hyx;rcases HO.o.2 with⟨_,h0⟩ | ⟨g,cap,cur,hv,hbg,hg,hnc,hcm,hcs,htake⟩
        · omega
        · have AZ:=HO.o;rw[hv] at AZ;have p1:wr.cell? ⟨g,(G.length-1)*4+1,none⟩=some (I (bl G (G.length-1)).bC):=by
           rw[AZ.cellAt _ (by omega),kg G _ 1 (by omega) (by omega)];rfl
          have pf:=AZ.frozenAt;have HOv:Hid (wr.ownsRow (w.heap.size+1) 47 4 (.slice (some (Ad g 0)) G.length cap) G.length (bZ G)):=AZ;rw[hv];clear HO AZ hv hg htake hcs;obtain⟨pp,Jz⟩:=ex ((bl G (G.length-1)).bC);rw[<- Jz] at p1 Vf;have HP:Hid (pp=(bl G (G.length-1)).bC):=Jz;clear Jz;have hG2:(G.length:Int)<=256:=by omega
          go_wp2
          go_quiet (fail)
          obtain⟨V,hV⟩:∃V:World,V=wr.drewN nq:=⟨_,rfl⟩;rw[<- hV];have p1V:V.cell? ⟨g,(G.length-1)*4+1,none⟩=some (I pp):=by rw[hV];exact p1
          have pfV:∀j,V.frozen? (Ad g j)=false:=by rw[hV];exact pf
          have HXV:Hid (V.heap[w.heap.size]?=some (.cells C 177 (0,0))):=by show _=_;rw[hV];exact HXr.o
          have HOV:Hid (V.ownsRow (w.heap.size+1) 47 4 (.slice (some (Ad g 0)) G.length cap) G.length (bZ G)):=by show World.ownsRow _ _ _ _ _ _ _;rw[hV];exact HOv.o
          have HBV:Hid (Below w.heap.size w V):=by show Below _ _ _;rw[hV];exact ko HB.o _
          clear hV p1 pf l0 l1 HXr HOv HB;go_wp2;go_roundw
          case rel =>
           have ho:=(HOV.o.stored ((G.length-1)*4+1) (I (pp+1))).1;have e:(bZ G).set ((G.length-1)*4+1) (I (pp+1))=bZ (uB G):=by
            rw[HP.o];exact(tW G (G.length-1) _ (by omega)).symm
           rw[e] at ho;refine⟨k+1,by omega,by omega,by go_num,?_,iM HXV.o _ _ _ (by omega),HBV.o.setCell (by simp;omega) _⟩;rw[HG.o,p8];exact ho
          case measure=>simp[intOf];omega
      · have he:oh s t=false:=by
         cases e:oh s t
         · rfl
         · exact absurd (HI.o.2 e) hyx
        have ale:(y==x)=false:=zw.2 hyx;have HG:Hid (bY F (k+1)=bY F k++[⟨(k:Int),1,s.p,s.z⟩]):=by show _=_;simp only[bY];rw[<- HS.o,<- HT.o,hm,he];rfl
        have hlen:=pD F k;obtain⟨G,hG⟩:=ex (bY F k);rw[<- hG] at HO HG hlen;clear hG he hm hyx;go_wp2
        go_quiet (fail)
        obtain⟨V,hV⟩:∃V:World,V=wr.drewN nq:=⟨_,rfl⟩;rw[<- hV];have l0V:V.cell? (Ad w.heap.size k)=some (I x):=by rw[hV];exact l0
        have HXV:Hid (V.heap[w.heap.size]?=some (.cells C 177 (0,0))):=by show _=_;rw[hV];exact HXr.o
        have HOV:Hid (V.ownsRow (w.heap.size+1) 47 4 u3 G.length (bZ G)):=by show World.ownsRow _ _ _ _ _ _ _;rw[hV];exact HO.o
        have HBV:Hid (Below w.heap.size w V):=by show Below _ _ _;rw[hV];exact ko HB.o _
        have hrV:Hid (∀j,u3.ownBlock=some j->w.heap.size+1<=j/\j<V.heap.size):=HOV.o.lt;have arG:w.heap.size<V.heap.size:=aT HXV.o;clear hV l0 l1 HXr HO HB;have HN:Hid ((V.alloc (.cells #[I (k:Int),I 1,I ((x-1)%8/2),.bool (decide (8<=x-1))] 47)).heap[V.heap.size]?=some (.cells #[I (k:Int),I 1,I ((x-1)%8/2),.bool (decide (8<=x-1))] 47 (0,0))):=bO _ _ _;go_wp2_with (at_builtin;refine E4 _ rfl _ _ 28 rfl (w.heap.size+1) 47 i0 (.agg #[I 0,I 0,I 0,.bool false]) 4 32 Tryz.underlying28 hi hz0 hz1 hz2 rfl (by decide) _ _ _ rfl (HOV.o.alloc _) (Ad V.heap.size 0) 1 1 [I (k:Int),I 1,I ((x-1)%8/2),.bool (decide (8<=x-1))] rfl rfl (tT HN.o) (oH [⟨(k:Int),1,(x-1)%8/2,decide (8<=x-1)⟩]) (by decide) (by unfold maxLen;omega) (by omega) (by simp;omega) (V.heap.size+1) (by simp) ?_)
        intro g cap w1 hown1 hgrow hat alH;have bX:=G7 (bM HXV.o (.cells #[I (k:Int),I 1,I ((x-1)%8/2),.bool (decide (8<=x-1))] 47)) hgrow (fun e=>by have:=hrV.out _ e.symm;omega);have HO1:Hid (w1.ownsRow (w.heap.size+1) 47 4 (Value.slice (some (Ad g 0)) (G.length+1) cap) (G.length+1) (bZ G++[I (k:Int),I 1,I ((x-1)%8/2),.bool (decide (8<=x-1))])):=hown1;have HX1:Hid (w1.heap[w.heap.size]?=some (.cells C 177 (0,0))):=bX;have dz:Hid (Below w.heap.size w w1):=(HBV.o.alloc HBV.o.size _).grown hgrow (by simp;omega) (fun k' e=>by have:=hrV.out _ e;omega);clear bX hown1 hgrow hat
        go_wp2;go_roundw
        case rel =>
         refine⟨k+1,by omega,by omega,by go_num,?_,HX1.o,dz.o⟩;rw[HG.o,fk,qJ];have h:=HO1.o;rw[HP1.o,ES.o] at h;exact h
        case measure=>simp[intOf];omega
    · have hm':s.m=false:=by simpa using hm
      have hx0:=(Vb s hpk.1).2 hm';have HG:Hid (bY F (k+1)=bY F k):=by show _=_;simp only[bY];rw[<- HS.o,hm'];rfl
      rw[hx0] at l0;clear hm hx0;go_wp2;go_roundw
      case rel =>
       refine⟨k+1,by omega,by omega,by go_num,?_,HXr.o,HB.o⟩;rw[HG.o];exact HO.o
      case measure=>simp[intOf];omega
  · obtain rfl:k=256:=by omega
    clear hown hx hb;go_wp2;go_ret;refine⟨_,rfl,?_,HB.o⟩;exact gQ.mono (lo:=w.heap.size+1) HO.o (vh _)
theorem MK (F:Nat->di) (hF:mo F) (w:World) :
  Calls Tryz.prog 128 #[.agg (iC (fun n=>nZ (F n)))] w fun e w'=>∃v,e=.returned v/\fu w' v (gw F)/\Below w.heap.size w w':=(MJ F hF w).mono fun _ _ ⟨v,h1,h2,h3⟩=>⟨v,h1,h2.has,h3⟩
end Go.Proofs.YtpgifpeohlllfaaGreat
