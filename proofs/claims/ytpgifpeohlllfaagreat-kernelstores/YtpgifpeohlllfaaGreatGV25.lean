import Derived.Test.YtpgifpeohlllfaaGreatGV11
set_option maxHeartbeats 20000000
set_option linter.unusedVariables false
set_option maxRecDepth 100000
set_option linter.unusedSimpArgs false
namespace Go.Proofs.YtpgifpeohlllfaaGreat
namespace Go.Proofs.YtpgifpeohlllfaaGreat
open Go.RowKit
theorem Sz (l:List bc) (b off cap:Nat) (w:World) (hl:qc w b off l) (hc:br l=0) :
  Calls Tryz.prog 61 #[.slice (some (Ad b off)) l.length cap] w fun e w'=>e=.returned (I (jr l l.length))/\Below w.heap.size w w':=by
 have hlen:=kg l hc;have HK:Hid (br l=0):=hc;clear hc;go_enter Tryz.func61,Tryz.ntmps61;go_wp2;go_loopw [3,4] (fun s i wr=>∃k:Nat,k<=l.length/\i=I k/\s=I (jr l k)/\Below w.heap.size w wr) (fun _ i _=>l.length-(intOf i).toNat)
 case atStart=>exact⟨0,by omega,rfl,rfl,aK _ _⟩
 case round =>
  obtain⟨k,hk,rfl,rfl,hb⟩:=hrel;have Ox:=Au l HK.o k hk;by_cases hlt:k<l.length
  · obtain⟨c0,c1,c2,c3⟩:=(hl.below hb) k hlt;have hsu:Hid (jr l (k+1)=jr l k+(bB l k).aR):=rfl;have hbk:=gH l k (gm l HK.o k hlt);obtain⟨a,ha⟩:=ex (bB l k);rw[<- ha] at c0 c1 c2 c3 hsu hbk;clear ha;go_wp2;go_roundw
    case rel=>exact⟨k+1,by omega,by go_num,by rw[hsu.out],hb⟩
    case measure=>simp[intOf];omega
  · obtain rfl:k=l.length:=by omega
    go_wp2;go_ret
    simp_all
theorem Wu (ao:Option Addr) (cap:Nat) (w:World) :
  Calls Tryz.prog 61 #[.slice ao 0 cap] w fun e w'=>e=.returned (I 0)/\Below w.heap.size w w':=by
 go_enter Tryz.func61,Tryz.ntmps61;go_wp2;refine xO 1 ?_;rw[xK];go_wp2;go_ret;exact⟨rfl,aK _ _⟩
theorem Wv (l:List bc) (v:Value) (w:World) (h:eU w v l) (hc:br l=0) :
  Calls Tryz.prog 61 #[v] w fun e w'=>e=.returned (I (cI l))/\Below w.heap.size w w':=by
 have e:cI l=jr l l.length:=by grind [cI]
 rw[e];obtain⟨ao,cap,rfl,h⟩:=h;rcases h with rfl | ⟨b,off,rfl,hl⟩
 · exact Wu ao cap w
 · exact Sz l b off cap w hl hc
theorem QC (l:List bc) (b off cap:Nat) (p:Int) (w:World) (hl:qc w b off l) (hc:br l=0) :
  Calls Tryz.prog 31 #[.slice (some (Ad b off)) l.length cap,I p] w fun e w'=>e=.returned (.tuple #[.agg (kY (aV l p).1),.bool (aV l p).2])/\Below w.heap.size w w':=by
 have hbz:Below w.heap.size w (w.alloc (.cells #[I 0,I 0,I 0,.bool false] 47)):=(aK _ _).alloc (aM _) _;have hlen:=kg l hc;have HC:Hid (aV l p=bT l p):=by show _=_;grind [aV]
 have HK:Hid (br l=0):=hc;clear hc;go_enter Tryz.func31,Tryz.ntmps31;go_wp2;go_loopw [6] (fun i wr=>∃k:Nat,k<=l.length/\i=I k/\(∀j,j<k->gU (bB l j) p=false)/\Below (w.heap.size+1) (w.alloc (.cells #[I 0,I 0,I 0,.bool false] 47)) wr) (fun i _=>l.length-(intOf i).toNat)
 case atStart=>grind [Below.refl]
 case round =>
  obtain⟨k,hk,rfl,hno,hb⟩:=hrel;have HN:Hid (∀j,j<k->gU (bB l j) p=false):=hno;have iF:Hid (Below w.heap.size w wr):=hbz.trans (hb.mono (xL _));have hlr:=hl.below iF.out;have hR:wr.heap[w.heap.size]?=some (.cells #[I 0,I 0,I 0,.bool false] 47 (0,0)):=aQ (bG w _ _) hb (Fs _);have HB:Hid (Below (w.heap.size+1) (w.alloc (.cells #[I 0,I 0,I 0,.bool false] 47)) wr):=hb;have t0:=aB hR 0 rfl;have t1:=aB hR 1 rfl;have t2:=aB hR 2 rfl;have t3:=aB hR 3 rfl;have u0:=aJ hR;clear hno hR hb;by_cases hlt:k<l.length
  · obtain⟨c0,c1,c2,c3⟩:=hlr k hlt;have hbk:=gH l k (gm l HK.o k hlt);obtain⟨a,ha⟩:=ex (bB l k);rw[<- ha] at c0 c1 c2 c3 hbk;have HA:Hid (a=bB l k):=ha;clear ha;have MU:(k:Int)<(l.length:Int):=by omega
    by_cases h1:a.page<=p
    · by_cases h2:p<a.page+a.aR
      · have hres:Hid (aV l p=(a,true)):=by
         show _=_;rw[HC.o,p9 l p k hlt HN.o (by rw[<- HA.o];simp[gU,bc.oV,h1,h2]),<- HA.o]
        go_wp2
        go_quiet (fail)
        go_wp2;have Ox:=lR iF.out nq;exact bR (v:=.tuple #[.agg #[I a.page,I a.aR,I a.fV,.bool a.zero],.bool true]) (by simp[results,Tryz.results31,go_sem,t0,t1,t2,t3]) rfl ⟨by rw[hres.out];rfl,(((Ox.setCell (aM _) _).setCell (aM _) _).setCell (aM _) _).setCell (aM _) _⟩
      · have Dp:Hid (gU (bB l k) p=false):=by show _=_;rw[<- HA.o];unfold gU bc.oV;exact dE (by omega)
        have d2:decide (p<a.page+a.aR)=false:=dE h2;go_wp2
        go_quiet (fail)
        go_wp2;go_roundw
        case rel=>exact⟨k+1,by omega,by go_num,fun j hj=>if e:j=k then by rw[e];exact Dp.out else HN.o j (by omega),lR HB.o _⟩
        case measure=>simp[intOf];omega
    · have Dp:Hid (gU (bB l k) p=false):=by show _=_;rw[<- HA.o];unfold gU bc.oV;exact dE (by omega)
      have d1:decide (a.page<=p)=false:=dE h1;go_wp2
      go_quiet (fail)
      go_wp2;go_roundw
      case rel=>exact⟨k+1,by omega,by go_num,fun j hj=>if e:j=k then by rw[e];exact Dp.out else HN.o j (by omega),lR HB.o _⟩
      case measure=>simp[intOf];omega
  · obtain rfl:k=l.length:=by omega
    have hres:Hid (aV l p=(tZ,false)):=by show _=_;rw[HC.o,p8 l p HN.o]
    go_wp2;exact bR (v:=.tuple #[.agg #[I 0,I 0,I 0,.bool false],.bool false]) (by simp[results,Tryz.results31,go_sem,t0,t1,t2,t3]) rfl ⟨by rw[hres.out];rfl,(((iF.out.setCell (aM _) _).setCell (aM _) _).setCell (aM _) _).setCell (aM _) _⟩
theorem SF (ao:Option Addr) (cap:Nat) (p:Int) (w:World) :
  Calls Tryz.prog 31 #[.slice ao 0 cap,I p] w fun e w'=>e=.returned (.tuple #[.agg (kY (aV [] p).1),.bool (aV [] p).2])/\Below w.heap.size w w':=by
 have hbz:Below w.heap.size w (w.alloc (.cells #[I 0,I 0,I 0,.bool false] 47)):=(aK _ _).alloc (aM _) _;go_enter Tryz.func31,Tryz.ntmps31;go_wp2;refine xO 1 ?_;rw[xK];go_wp2;exact bR (v:=.tuple #[.agg #[I 0,I 0,I 0,.bool false],.bool false]) (by simp[results,Tryz.results31,go_sem]) rfl ⟨rfl,hbz⟩
theorem tC (l:List bc) (v:Value) (p:Int) (w:World) (h:eU w v l) (hc:br l=0) :
  Calls Tryz.prog 31 #[v,I p] w fun e w'=>e=.returned (.tuple #[.agg (kY (aV l p).1),.bool (aV l p).2])/\Below w.heap.size w w':=by
 obtain⟨ao,cap,rfl,h⟩:=h;rcases h with rfl | ⟨b,off,rfl,hl⟩
 · exact SF ao cap p w
 · exact QC l b off cap p w hl hc
theorem Gz (p:Int):∀(hs:List bM) (i:Nat),i<hs.length->(∀j,j<i->(bj hs j).page≠p)->(bj hs i).page=p->dJ hs p=some (bj hs i)
 | s::r,0,_,_,h=>List.find?_cons_of_pos (dh h)
 | s::r,i+1,hi,hn,h=>by
  have ih:=Gz p r i (zP hi) (fun j hj=>hn (j+1) (by omega)) h;unfold dJ at ih ⊢;have hne:decide (s.page=p)=false:=dE (hn 0 (by omega));rw[TU,hne];exact ih
theorem PA (p:Int):∀(hs:List bM),(∀j,j<hs.length->(bj hs j).page≠p)->dJ hs p=none
 | [],_=>rfl
 | s::r,hn=>by
  have ih:=PA p r (fun j hj=>hn (j+1) (by grind));unfold dJ at ih ⊢;have hne:decide (s.page=p)=false:=dE (hn 0 (by simp))
  grind
def Hh (hs:List bM) (p:Int):bM:=(dJ hs p).getD xy
theorem Es (hs:List bM) (ao:Option Addr) (cap:Nat) (p:Int) (w:World) (h:iM w ao hs) (hn:bY hs.length) :
  Calls Tryz.prog 91 #[.slice ao hs.length cap,I p] w fun e w'=>e=.returned (.tuple #[.agg #[I (Hh hs p).page,.string (Hh hs p).data,.slice (Hh hs p).ao (Hh hs p).dn.length (Hh hs p).cap],.bool (dJ hs p).isSome])/\Below w.heap.size w w':=by
 obtain⟨WA,iK⟩:=ex (w.alloc (.cells #[I 0,.string ⟨#[]⟩,Nl] 50));have hb0:Below w.heap.size w WA:=by grind [Below.refl,Below.alloc]
 have rb:WA.heap[w.heap.size]?=some (.cells #[I 0,.string ⟨#[]⟩,Nl] 50 (0,0)):=by grind [bG]
 have HH:Hid (∀i,i<hs.length->∃b off,ao=some (Ad b off)/\b≠w.heap.size/\WA.cell? (Ad b (off+i*3))=some (I (bj hs i).page)/\WA.cell? (Ad b (off+i*3+1))=some (.string (bj hs i).data)/\WA.cell? (Ad b (off+i*3+2))=some (.slice (bj hs i).ao (bj hs i).dn.length (bj hs i).cap)):=fun i hi=>by
  obtain⟨b,off,e1,e2,e3⟩:=(h.below hb0) (by omega);obtain⟨d0,d1,d2,_⟩:=e3 i hi;obtain⟨b',off',e1',e2',_⟩:=h (by omega)
  grind
 obtain⟨y0,y1,y2⟩:=og rb;have f0:=aJ rb 0;have f1:=aJ rb 1;have f2:=aJ rb 2;have LI:=ai rb;have iG:=ai iK;have eO:=ai hb0;have Y5:Hid (∀(x:Value) (y:Value) (z:Value),(((WA.setCell (Ad w.heap.size 0) x).setCell (Ad w.heap.size 1) y).setCell (Ad w.heap.size 2) z).heap[w.heap.size]?=some (.cells #[x,y,z] 50 (0,0))/\Below w.heap.size w (((WA.setCell (Ad w.heap.size 0) x).setCell (Ad w.heap.size 1) y).setCell (Ad w.heap.size 2) z)):=fun x y z=>⟨dG (dG (dG rb 0 x) 1 y) 2 z,aH.below hb0 (vR (D:=fun b=>b=w.heap.size) _ w.heap.size 0 1 2 x y z rfl) hb0.size (fun b e=>by omega)⟩
 have Di:Hid (∀i,i<hs.length->(∀j,j<i->(bj hs j).page≠p)->(bj hs i).page=p->dJ hs p=some (bj hs i)):=fun i=>Gz p hs i
 have ahw:Hid ((∀j,j<hs.length->(bj hs j).page≠p)->dJ hs p=none):=PA p hs;have hsl:hs.length<=140737488351232:=hn;unfold Hh;obtain⟨o,ho⟩:=ex (dJ hs p);rw[<- ho] at Di ahw ⊢;clear hb0 rb iK h hn ho;go_enter Tryz.func91,Tryz.ntmps91;go_upto_region 1 with fail;rw[<- iG.o];go_wp2;go_loopw [6] (fun iv wq=>∃i:Nat,i<=hs.length/\iv=I (i:Int)/\wq=WA/\∀j,j<i->(bj hs j).page≠p) (fun iv _=>hs.length-(intOf iv).toNat)
 case atStart=>grind
 case round =>
  obtain⟨i,hi,rfl,hwr,hno⟩:=hrel;subst hwr;have pq:=ai hno;clear hno;by_cases hlt:i<hs.length
  · have Gd:(i:Int)<(hs.length:Int):=by omega
    obtain⟨b,off,hao,hbn,d0,d1,d2⟩:=HH.o i hlt;have Ic:=ai (fun g=>Di.o i hlt pq.o g);have rR:Hid ((bj hs i).page≠p->∀j,j<i+1->(bj hs j).page≠p):=fun g j hj=>by
     by_cases e:j=i
     · grind
     · exact pq.o j (by omega)
    obtain⟨s,hs2⟩:=ex (bj hs i);rw[<- hs2] at d0 d1 d2 Ic rR;obtain⟨pg,dt,fx,ax,cx⟩:=s;simp only at d0 d1 d2 Ic rR;subst hao;clear HH Di ahw hs2;by_cases g:pg=p
    · have e:=Ic.o g;subst e;subst g;clear Ic rR pq;go_wp2;obtain⟨q1,q2⟩:=Y5.o (I pg) (.string dt) (.slice ax fx.length cx);obtain⟨y0,y1,y2⟩:=og q1;refine bR (v:=.tuple #[.agg #[I pg,.string dt,.slice ax fx.length cx],.bool true]) (by simp[results,Tryz.results91,go_sem,y0,y1,y2]) rfl ⟨rfl,q2⟩
    · have gb:(pg==p)=false:=by grind
      have QM:=ai (rR.o g);clear Ic rR pq;go_wp2;go_roundw
      case rel=>exact⟨i+1,by omega,by go_num,by grind,QM.o⟩
      case measure=>simp[intOf];omega
  · obtain rfl:i=hs.length:=by omega
    have e:=ahw.o pq.o;subst e;clear HH Di ahw pq;go_wp2;obtain⟨q1,q2⟩:=Y5.o (I 0) (.string ⟨#[]⟩) Nl;obtain⟨y0,y1,y2⟩:=og q1;refine bR (v:=.tuple #[.agg #[I 0,.string ⟨#[]⟩,Nl],.bool false]) (by simp[results,Tryz.results91,go_sem,y0,y1,y2]) rfl ⟨rfl,q2⟩
theorem Mj (k:aN) (a:fP) (w:World) (hP:s8 w a.aP k.aj) (hc:∀i,i<k.aj.length->br (ak k.aj i).aZ=0) (hn:k.aj.length<=1000000) :
  Calls Tryz.prog 47 #[.agg (aT a k)] w fun e w'=>e=.returned (I (eW k.aj))/\Below w.heap.size w w':=by
 obtain⟨WA,iK⟩:=ex (w.alloc (.cells (aT a k) 27));have hb0:Below w.heap.size w WA:=by grind [Below.refl,Below.alloc]
 have kb:WA.heap[w.heap.size]?=some (.cells (aT a k) 27 (0,0)):=by grind [bG]
 have vO:Hid (∀V,Below WA.heap.size WA V->V.cell? (Ad w.heap.size 3)=some (.slice a.aP k.aj.length a.cP)):=fun V hV=>aB (aQ kb hV (aO kb)) 3 rfl
 have HH:Hid (∀V i,Below WA.heap.size WA V->i<k.aj.length->∃b off aa ca,a.aP=some (Ad b off)/\V.cell? (Ad b (off+i*3+1))=some (.slice aa (ak k.aj i).aZ.length ca)/\Calls Tryz.prog 61 #[.slice aa (ak k.aj i).aZ.length ca] V fun e w'=>e=.returned (I (cI (ak k.aj i).aZ))/\Below V.heap.size V w'):=fun V i hV hi=>by
  obtain⟨b,off,e1,e2,e3⟩:=(hP.below (hb0.trans (hV.mono hb0.size))) (by omega);obtain⟨va,ap,cp,c0,c1,c2,c3,_⟩:=e3 i hi;have c3':=c3;obtain⟨aa,ca,rfl,_⟩:=c3;exact⟨b,off,aa,ca,e1,c1,Wv _ _ V c3' (hc i hi)⟩
 have LI:=ai (tT k.aj);have Nr:Hid (∀i,iP k.aj (i+1)=iP k.aj i+cI (ak k.aj i).aZ):=fun i=>rfl
 have iG:=ai iK;have eO:=ai hb0;obtain⟨n0,hn0⟩:=ex k.aj.length;unfold eW;unfold aT at iG ⊢;rw[<- hn0] at vO HH hn iG ⊢;clear hb0 kb iK hP hc hn0;go_enter Tryz.func47,Tryz.ntmps47;go_upto_region 1 with fail;rw[<- iG.o];go_wp2;go_loopw [3,4] (fun sv iv wq=>∃i:Nat,i<=n0/\iv=I (i:Int)/\sv=I (iP k.aj i)/\Below WA.heap.size WA wq) (fun _ iv _=>n0-(intOf iv).toNat)
 case atStart=>exact⟨0,by omega,rfl,rfl,aK _ _⟩
 case round =>
  obtain⟨i,hi,rfl,rfl,hb⟩:=hrel;have HB:=ai hb;have c3:=vO.o _ hb;have hrb:=LI.o i;by_cases hlt:i<n0
  · have Gd:(i:Int)<(n0:Int):=by omega
    obtain⟨b,off,aa,ca,hao,c1,hcl⟩:=HH.o _ i hb hlt;have hst:=Nr.o i;have htb:=nZ (ak k.aj i).aZ;have Oj:=ai hcl;obtain⟨T,hT⟩:=ex (cI (ak k.aj i).aZ);obtain⟨R,hR⟩:=ex (iP k.aj i);obtain⟨na,wh⟩:=ex ((ak k.aj i).aZ.length);rw[<- wh] at c1 Oj;rw[<- hT] at Oj hst htb;rw[<- hR] at hst hrb ⊢;have HST:=ai hst;rw[hao] at c3;clear hcl hT hR wh hst hb hao HH LI Nr vO;go_wp2_with (go_at_call 61;refine Oj.o.mono ?_;rintro e w1 ⟨rfl,hb1⟩;have cT:=ai (HB.o.trans (hb1.mono HB.o.size));clear hb1)
    go_roundw
    case rel=>exact⟨i+1,by omega,by go_num,by rw[HST.o],cT.o⟩
    case measure=>simp[intOf];omega
  · obtain rfl:i=n0:=by omega
    clear HH LI Nr hb;go_wp2;go_ret;exact⟨rfl,eO.o.trans (HB.o.mono eO.o.size)⟩
def Yj (d:Nat):Array Value:=madeCells #[.int .u8 0] d
theorem aaC (V:World):(Instr.makeSlice 137 (I 16) (I 16)).run Tryz.prog V=.ok (.slice (some (Ad V.heap.size 0)) 16 16) (V.alloc (.cells (Yj 16) 5)):=by
 rfl
theorem aaM (V:World):(convert 137 9 (.slice (some (Ad V.heap.size 0)) 16 16)).run Tryz.prog (V.alloc (.cells (Yj 16) 5))=.ok (.string uh) (V.alloc (.cells (Yj 16) 5)):=by
 have e:uh=strOfNums (List.replicate 16 0):=by rfl
 rw[e];refine N0 _ 137 5 Tryz.underlying137 Tryz.underlying5 _ 0 16 16 _ (by simp) ?_ 9 Tryz.underlying9;intro i hi;rw[iI];refine aB (bG V (Yj 16) _) i ?_;rw[zQ,List.getElem?_replicate,bf hi]
 simp_all [Yj,madeCells,Nat.mod_one]
theorem U4 {w:World} {ao:Option Addr} {hs:List bM} {p:Int} {s:bM} (h:iM w ao hs) (hf:qI hs) (hr:fJ hs=true) (e:dJ hs p=some s):mr w s.ao s.dn/\xU s/\cR s=true:=by
 obtain⟨i,hi,e2⟩:=jb xy (N1 e);have e3:bj hs i=s:=e2;obtain⟨b,off,_,_,h3⟩:=h (by omega);have h4:mr w (bj hs i).ao (bj hs i).dn:=(h3 i hi).2.2.2;rw[e3] at h4;have h5:=hf.2 i hi;have h6:=(qq hs hs.length hr i hi).1
 grind
theorem yK (k:aN) (a:fP) (g1 g2 g3:Int) (z:Bool) (p:Int) (w:World) (hH:iM w a.aS k.aA) (hf:qI k.aA) (hr:fJ k.aA=true) (hz:z=false->(dJ k.aA p).isSome=true) :
  Calls Tryz.prog 49 #[.agg (aT a k),.agg #[I g1,I g2,I g3,.bool z],I p] w fun e w'=>e=.returned (.string (eH k.aA p z))/\Below w.heap.size w w':=by
 obtain⟨WA,iK⟩:=ex ((w.alloc (.cells (aT a k) 27)).alloc (.cells #[I g1,I g2,I g3,.bool z] 47));have hb0:Below w.heap.size w WA:=by simp_all [aK,mq]
 have kb:WA.heap[w.heap.size]?=some (.cells (aT a k) 27 (0,0)):=by grind [bE,bG]
 have ab:WA.heap[w.heap.size+1]?=some (.cells #[I g1,I g2,I g3,.bool z] 47 (0,0)):=by
  grind [bG,World.size_alloc]
 have k0:WA.cell? (Ad w.heap.size 0)=some (.slice a.aS k.aA.length a.cS):=aB kb 0 rfl;have x3:WA.cell? (Ad (w.heap.size+1) 3)=some (.bool z):=aB ab 3 rfl;have iG:=ai iK;have eO:=ai hb0;cases z with
 | true =>
  have e1:=aaC;have e2:=aaM;have ef:eH k.aA p true=uh:=rfl;rw[ef];unfold aT at iG ⊢;clear hH hf hr hz hb0 kb ab iK ef;go_enter Tryz.func49,Tryz.ntmps49;go_upto_region 1 with fail;rw[<- iG.o];go_wp2;go_ret;exact⟨rfl,eO.o.alloc eO.o.size _⟩
 | false =>
  obtain⟨s,hs⟩:=Option.isSome_iff_exists.1 (hz rfl);have ef:eH k.aA p false=ou s:=by
   grind [eH,fM]
  rw[ef];have DY:=ai (Es k.aA a.aS a.cS p WA (hH.below hb0) hf.1);unfold Hh at DY;rw[hs] at DY;have qN:Hid (∀V,Below WA.heap.size WA V->Calls Tryz.prog 92 #[.agg #[I s.page,.string s.data,.slice s.ao s.dn.length s.cap]] V fun e w'=>e=.returned (.string (ou s))/\Below V.heap.size V w'):=fun V hV=>by
   obtain⟨h1,h2,h3⟩:=U4 (hH.below (hb0.trans (hV.mono hb0.size))) hf hr hs;exact QY s V h1 h2 h3
  obtain⟨D,hD⟩:=ex (ou s);rw[<- hD] at qN ⊢;obtain⟨pg,dt,fx,ax,cx⟩:=s;have aqN:Hid (Calls Tryz.prog 91 #[.slice a.aS k.aA.length a.cS,I p] WA fun e w'=>e=.returned (.tuple #[.agg #[I pg,.string dt,.slice ax fx.length cx],.bool true])/\Below WA.heap.size WA w'):=DY.o;simp only at qN;unfold aT at iG ⊢;clear hH hf hr hz hb0 kb ab iK ef DY hs hD;go_enter Tryz.func49,Tryz.ntmps49;go_upto_region 1 with fail;rw[<- iG.o];go_wp2_with (first
   | (go_at_call 91;refine aqN.o.mono ?_;rintro e w1 ⟨rfl,hb1⟩;have cT:=ai hb1;clear hb1)
   | (go_at_call 92;refine(qN.o _ (cT.o.alloc cT.o.size _)).mono ?_;rintro e w2 ⟨rfl,hb2⟩;have fq:=ai ((cT.o.alloc cT.o.size _).trans (hb2.mono (cT.o.alloc cT.o.size _).size));clear hb2))
  go_ret;exact⟨rfl,eO.o.trans (fq.o.mono eO.o.size)⟩
structure Dx (w:World) (k0:Array Value) (x:tv) (W:World):Prop where
 kb:W.heap[w.heap.size]?=some (.cells k0 27 (0,0))
 rb:W.heap[w.heap.size+1]?=some (.cells #[I 0,I 0,I 0,.bool false] 47 (0,0))
 ab:W.heap[w.heap.size+2]?=some (.cells #[I x.D6.page,I x.D6.aR,I x.D6.fV,.bool x.D6.zero] 47 (0,0))
 L9:Below w.heap.size w W
theorem Dx.below {w W V:World} {k0:Array Value} {x:tv} (h:Dx w k0 x W) (hb:Below W.heap.size W V):Dx w k0 x V:=⟨aQ h.kb hb (aO h.kb),aQ h.rb hb (aO h.rb),aQ h.ab hb (aO h.ab),h.L9.trans (hb.mono h.L9.size)⟩
theorem Dx.lay {w W V:World} {k0:Array Value} {x y:tv} (h:Dx w k0 x W) (hV:V=(((W.setCell (Ad (w.heap.size+2) 0) (I y.D6.page)).setCell (Ad (w.heap.size+2) 1) (I y.D6.aR)).setCell (Ad (w.heap.size+2) 2) (I y.D6.fV)).setCell (Ad (w.heap.size+2) 3) (.bool y.D6.zero)):Dx w k0 y V:=by
 have kp:aH (fun b=>b=w.heap.size+2) W V:=by
  rw[hV];have k:∀(A:World) (j:Nat) (v:Value),aH (fun b=>b=w.heap.size+2) A (A.setCell (Ad (w.heap.size+2) j) v):=fun A j v=>aH.set _ A (Ad (w.heap.size+2) j) v rfl
  exact(((k _ _ _).trans (k _ _ _) (fun _ _ g=>g)).trans (k _ _ _) (fun _ _ g=>g)).trans (k _ _ _) (fun _ _ g=>g)
 exact⟨kp.keep h.kb (by omega),kp.keep h.rb (by omega),by rw[hV];exact dG (dG (dG (dG h.ab 0 _) 1 _) 2 _) 3 _,aH.below h.L9 kp h.L9.size (fun b e=>by omega)⟩
theorem Rs (k:aN) (a:fP) (kd at_:Int) (w:World) (hP:s8 w a.aP k.aj) (hc:∀i,i<k.aj.length->br (ak k.aj i).aZ=0) (hn:k.aj.length<=4) (he:∀i,i<k.aj.length->(ak k.aj i).aW.length<=65025) :
  Calls Tryz.prog 48 #[.agg (aT a k),I kd,I at_] w fun e w'=>e=.returned (.tuple #[I (gz k.aj kd at_).n,I (gz k.aj kd at_).page,.bool (gz k.aj kd at_).fine,.agg #[I (gz k.aj kd at_).D6.page,I (gz k.aj kd at_).D6.aR,I (gz k.aj kd at_).D6.fV,.bool (gz k.aj kd at_).D6.zero]])/\Below w.heap.size w w':=by
 obtain⟨n0,hn0⟩:=ex k.aj.length;obtain⟨WA,iK⟩:=ex (((w.alloc (.cells #[.slice a.aS k.aA.length a.cS,.slice a.aF k.frames.length a.cF,.slice a.aL k.slots.length a.cL,.slice a.aP n0 a.cP,I k.hand] 27)).alloc (.cells #[I 0,I 0,I 0,.bool false] 47)).alloc (.cells #[I 0,I 0,I 0,.bool false] 47));have hb0:Below w.heap.size w WA:=by rw[iK];exact(((aK _ _).alloc (aM _) _).alloc (by simp) _).alloc (by simp;omega) _
 have HN0:Hid (Dx w #[.slice a.aS k.aA.length a.cS,.slice a.aF k.frames.length a.cF,.slice a.aL k.slots.length a.cL,.slice a.aP n0 a.cP,I k.hand] Vz WA):=by
  rw[iK];refine⟨bE (bE (bG w _ _) _) _,bE ?_ _,?_,by grind⟩
  · grind [bG,World.size_alloc]
  · have:=bG ((w.alloc (.cells #[.slice a.aS k.aA.length a.cS,.slice a.aF k.frames.length a.cF,.slice a.aL k.slots.length a.cL,.slice a.aP n0 a.cP,I k.hand] 27)).alloc (.cells #[I 0,I 0,I 0,.bool false] 47)) #[I 0,I 0,I 0,.bool false] 47;rw[iJ,iJ] at this;exact this
 have Ku:Hid (∀j,j<n0->∃b off aa ca ap cp,a.aP=some (Ad b off)/\(∀V,Below w.heap.size w V->V.cell? (Ad b (off+j*3+1))=some (.slice aa (ak k.aj j).aZ.length ca)/\V.cell? (Ad b (off+j*3+2))=some (.slice ap (ak k.aj j).aW.length cp)/\∀m,m<(ak k.aj j).aW.length->∃eb eo,ap=some (Ad eb eo)/\V.cell? (Ad eb (eo+m*3))=some (I (aI (ak k.aj j).aW m).page)/\V.cell? (Ad eb (eo+m*3+1))=some (I (aI (ak k.aj j).aW m).kind)/\V.cell? (Ad eb (eo+m*3+2))=some (I (aI (ak k.aj j).aW m).loc))/\∀U p,Below w.heap.size w U->Calls Tryz.prog 31 #[.slice aa (ak k.aj j).aZ.length ca,I p] U fun e w'=>e=.returned (.tuple #[.agg #[I (aV (ak k.aj j).aZ p).1.page,I (aV (ak k.aj j).aZ p).1.aR,I (aV (ak k.aj j).aZ p).1.fV,.bool (aV (ak k.aj j).aZ p).1.zero],.bool (aV (ak k.aj j).aZ p).2])/\Below U.heap.size U w'):=fun j hj=>by
  have hj:j<k.aj.length:=by omega
  obtain⟨b,off,e1,e2,e3⟩:=hP (by omega);obtain⟨va,ap,cp,c0,c1,c2,c3,c4,_⟩:=e3 j hj;have c3':=c3;obtain⟨aa,ca,rfl,_⟩:=c3;refine⟨b,off,aa,ca,ap,cp,e1,fun V hV=>⟨(hV.cell (p:=(Ad b (off+j*3+1))) e2).trans c1,(hV.cell (p:=(Ad b (off+j*3+2))) e2).trans c2,fun m hm=>?_⟩,fun U p hU=>tC _ _ p U (c3'.below hU) (hc j hj)⟩;obtain⟨eb,eo,g1,_,g3⟩:=(c4.below hV) (by omega);have z0:=g3 m hm 0 (by omega);rw[gV] at z0;exact⟨eb,eo,g1,z0,g3 m hm 1 (by omega),g3 m hm 2 (by omega)⟩
 have HNS:Hid (∀j,yT k.aj kd at_ (j+1)=pV (ak k.aj j).aZ (ak k.aj j).aW kd at_ (yT k.aj kd at_ j) (ak k.aj j).aW.length):=fun j=>rfl
 have HNE:Hid (∀ar es x m,pV ar es kd at_ x (m+1)=EM ar kd at_ (pV ar es kd at_ x m) (aI es m)):=fun ar es x m=>rfl
 have HEL:Hid (∀j,j<n0->(ak k.aj j).aW.length<=65025):=fun j hj=>he j (by omega)
 have iG:=ai iK;unfold gz;rw[<- hn0] at hn;unfold aT;rw[<- hn0];clear hP hc he hb0 iK hn0;obtain⟨C0,hC0⟩:∃C0:Array Value,C0=#[.slice a.aS k.aA.length a.cS,.slice a.aF k.frames.length a.cF,.slice a.aL k.slots.length a.cL,.slice a.aP n0 a.cP,I k.hand]:=⟨_,rfl⟩;have vO:Hid (∀(V:World) x,Dx w C0 x V->V.cell? (Ad w.heap.size 3)=some (.slice a.aP n0 a.cP)):=fun V x h=>by grind [aB,Dx.kb]
 rw[<- hC0] at HN0;clear hC0;go_enter Tryz.func48,Tryz.ntmps48;go_upto_region 3 with fail;rw[<- iG.o];go_wp2;go_loopw [10,11,12,14] (fun v1 v2 v3 iv wq=>∃j:Nat,∃x:tv,j<=n0/\iv=I (j:Int)/\x=yT k.aj kd at_ j/\v1=I x.n/\v2=I x.page/\v3=.bool x.fine/\(0<=x.n/\x.n<=65025*j)/\Dx w C0 x wq) (fun _ _ _ iv _=>n0-(intOf iv).toNat)
 case atStart=>exact⟨0,Vz,by omega,rfl,rfl,rfl,rfl,rfl,by grind [Vz],HN0.o⟩
 case round =>
  obtain⟨j,x,hj,rfl,hx,rfl,rfl,rfl,hxn,Kr⟩:=hrel;have Y4:=ai Kr;have HX:=ai hx;have c3:=vO.o _ _ Kr;by_cases hlt:j<n0
  · have KT:(j:Int)<(n0:Int):=by omega
    obtain⟨b,off,aa,ca,ap,cp,hao,hen,har⟩:=Ku.o j hlt;have hel:=HEL.o j hlt;have HST:=ai (HNS.o j);rw[<- HX.o] at HST;obtain⟨es,hes⟩:=ex ((ak k.aj j).aW);obtain⟨nj,QT⟩:=ex ((ak k.aj j).aZ);rw[<- hes] at hen hel HST;rw[<- QT] at hen har HST;rw[hao] at c3 vO;have px:=ai hen;have Y8:=ai har;have QM:=ai (HNE.o nj es x);have HZ:Hid (pV nj es kd at_ x 0=x):=rfl;clear hx Kr hao hen har hes QT Ku HNS HEL HN0 HNE HX;go_wp2;go_loopw [10,11,12,15] (fun v1 v2 v3 iv wq=>∃m:Nat,∃y:tv,m<=es.length/\iv=I (m:Int)/\y=pV nj es kd at_ x m/\v1=I y.n/\v2=I y.page/\v3=.bool y.fine/\(0<=y.n/\y.n<=65025*j+m)/\Dx w C0 y wq) (fun _ _ _ iv _=>es.length-(intOf iv).toNat)
    case atStart=>exact⟨0,x,by omega,rfl,HZ.o.symm,rfl,rfl,rfl,by omega,Y4.o⟩
    case round =>
     obtain⟨m,y,hm,rfl,hy,rfl,rfl,rfl,hyn,Kr⟩:=hrel;have HY:=ai hy;have HNY:=ai Kr;have c3:=vO.o _ _ Kr;obtain⟨c1,c2,hee⟩:=px.o _ Kr.L9;clear HZ Y4 hxn hy;by_cases hmt:m<es.length
     · have hmi:(m:Int)<(es.length:Int):=by omega
       obtain⟨eb,eo,hap,z0,z1,z2⟩:=hee m hmt;have qd:=ai (QM.o m);rw[<- HY.o] at qd;obtain⟨en,aen⟩:=ex (aI es m);rw[<- aen] at z0 z1 z2 qd;obtain⟨pg,kx,lx⟩:=en;simp only at z0 z1 z2;subst hap;have yo:=ai (fun U hU=>Y8.o U pg hU);clear hee aen px Y8 vO QM HY Kr;obtain⟨W1,hW1⟩:=ex (wr.alloc (.cells #[I pg,I kx,I lx] 45));have hb1:Below wr.heap.size wr W1:=by rw[hW1];exact(aK _ _).alloc (aM _) _
       have xb1:W1.heap[wr.heap.size]?=some (.cells #[I pg,I kx,I lx] 45 (0,0)):=by rw[hW1];exact bG _ _ _
       have QN:=ai (HNY.o.below hb1);have t1:∀{q:Nat} {o:Nat} {u:Value},wr.cell? (Ad q o)=some u->W1.cell? (Ad q o)=some u:=fun {q o u} h=>(hb1.cell (p:=(Ad q o)) (nQ wr _ h)).trans h
       have d3:=t1 c3;have d1:=t1 c1;obtain⟨x0,x1,x2⟩:=og xb1;have Ib:=ai xb1;have E4:=ai hW1;clear hW1 hb1 t1 xb1;by_cases hk:kx=kd/\lx=at_
       · obtain⟨rfl,rfl⟩:=hk;have ad8:pV nj es kx lx x (m+1)=pU y pg (aV nj pg).1:=by
          rw[qd.o];unfold EM;rw[bf ⟨rfl,rfl⟩]
         have Nq:=ai ad8;clear ad8;obtain⟨F,hF⟩:=ex (aV nj pg);rw[<- hF] at Nq yo;obtain⟨⟨g1,g2,g3,g4⟩,gf⟩:=F;simp only at yo Nq;clear qd hF;go_upto_region 10 with fail;rw[<- E4.o];go_upto_region 11 with fail;clear c1 c2 c3 z0 z1 z2;have rz:=ai (QN.o.below (aK W1.heap.size W1).drew).L9;have yj:=ai (QN.o.below ((aK W1.heap.size W1).alloc (aM _) (.cells #[I 0,I 0,I 0,.bool false] 47)).drew).L9;have DV:=ai (aK W1.heap.size W1).drew;have TC:=ai ((aK W1.heap.size W1).alloc (aM _) (.cells #[I 0,I 0,I 0,.bool false] 47)).drew;obtain⟨xb,KS⟩:=ex wr.heap.size;rw[<- KS] at Ib x0 x1 x2 ⊢;clear KS;have x0b:(W1.alloc (.cells #[I 0,I 0,I 0,.bool false] 47)).cell? (Ad xb 0)=some (I pg):=aB (bE Ib.o _) 0 rfl;have tb:∀{q:Nat} {o:Nat} {u:Value},W1.cell? (Ad q o)=some u->(W1.alloc (.cells #[I 0,I 0,I 0,.bool false] 47)).cell? (Ad q o)=some u:=fun {q o u} h=>(((aK W1.heap.size W1).alloc (aM _) _).cell (p:=(Ad q o)) (nQ W1 _ h)).trans h
         have d3b:=tb d3;have d1b:=tb d1;clear tb;have HNW:Hid (((W1.alloc (.cells #[I 0,I 0,I 0,.bool false] 47)).drew).heap[W1.heap.size]?=some (.cells #[I 0,I 0,I 0,.bool false] 47 (0,0))):=bG W1 #[I 0,I 0,I 0,.bool false] 47;go_cut [17,18] (fun x17 x18 wx=>∃g,x17=.pointer (some (Ad g 0))/\x18=.bool gf/\wx.heap[g]?=some (.cells #[I g1,I g2,I g3,.bool g4] 47 (0,0))/\Below W1.heap.size W1 wx)
         case first =>
          go_region_law (go_simp;go_at_call 31;first | (refine(yo.o _ rz.o).mono ?_;rintro e w1 ⟨rfl,hb1⟩;have cT:=ai (DV.o.trans (hb1.mono DV.o.size));clear hb1;go_simp) | (refine(yo.o _ yj.o).mono ?_;rintro e w1 ⟨rfl,hb1⟩;have cT:=ai (TC.o.trans (hb1.mono TC.o.size));have hz:=aQ HNW.o hb1 (aO HNW.o);have HZZ:=ai hz;obtain⟨k0,k1,k2,k3⟩:=abI hz;have kf:=aJ hz;clear hz hb1;go_simp))
          all_goals
           go_wp2_with fail
           go_meet
           case rel=>exact⟨_,rfl,rfl,by first | exact dG (dG (dG (dG HZZ.o 0 _) 1 _) 2 _) 3 _ | exact bG w1 _ _,by first | exact cT.o.alloc cT.o.size _ | exact(((cT.o.setCell (p:=(Ad W1.heap.size 0)) (aM _) _).setCell (p:=(Ad W1.heap.size 1)) (aM _) _).setCell (p:=(Ad W1.heap.size 2)) (aM _) _).setCell (p:=(Ad W1.heap.size 3)) (aM _) _⟩
         case rest =>
          obtain⟨g,rfl,rfl,hgb,hbc⟩:=hcut;have hnc:=QN.o.below hbc;obtain⟨x0,x1,x2⟩:=og (aQ Ib.o hbc (aO Ib.o));obtain⟨y0,y1,y2,y3⟩:=abI hgb;obtain⟨v0,v1,v2,v3⟩:=abI hnc.ab;have f0:=aJ hnc.ab 0;have f1:=aJ hnc.ab 1;have f2:=aJ hnc.ab 2;have f3:=aJ hnc.ab 3;have HLY:Hid (∀V,V=(((wc.setCell (Ad (w.heap.size+2) 0) (I g1)).setCell (Ad (w.heap.size+2) 1) (I g2)).setCell (Ad (w.heap.size+2) 2) (I g3)).setCell (Ad (w.heap.size+2) 3) (.bool g4)->Dx w C0 (pU y pg ⟨g1,g2,g3,g4⟩) V):=fun V hV=>hnc.lay hV
          obtain⟨yn,yp,yf,⟨q1,q2,q3,q4⟩⟩:=y;simp only at v0 v1 v2 v3 hyn;clear hgb hbc hnc rz yj DV TC HNW yo QN Ib HNY;rcases(show yf=false∨(yf=true/\yn=0)∨(yf=true/\¬yn=0/\¬pg=yp)∨(yf=true/\¬yn=0/\pg=yp) by cases yf <;> simp <;> omega) with h1 | ⟨h1,h2⟩ | ⟨h1,h2,h3⟩ | ⟨h1,h2,h3⟩
          · subst h1;go_wp2;go_roundw
            case rel=>exact⟨m+1,pU ⟨yn,yp,false,⟨q1,q2,q3,q4⟩⟩ pg ⟨g1,g2,g3,g4⟩,by omega,by go_num,Nq.o.symm,rfl,rfl,rfl,by show 0<=yn+1/\yn+1<=65025*(j:Int)+((m+1:Nat):Int);omega,HLY.o _ rfl⟩
            case measure=>simp[intOf];omega
          · subst h1;subst h2;go_wp2;go_roundw
            case rel=>exact⟨m+1,pU ⟨0,yp,true,⟨q1,q2,q3,q4⟩⟩ pg ⟨g1,g2,g3,g4⟩,by omega,by go_num,Nq.o.symm,rfl,rfl,rfl,by show 0<=(0:Int)+1/\(0:Int)+1<=65025*(j:Int)+((m+1:Nat):Int);omega,HLY.o _ rfl⟩
            case measure=>simp[intOf];omega
          · subst h1;have b2:(yn==0)=false:=by simpa using h2
            have b3:(pg==yp)=false:=by simpa using h3
            go_wp2;go_roundw
            case rel=>exact⟨m+1,pU ⟨yn,yp,true,⟨q1,q2,q3,q4⟩⟩ pg ⟨g1,g2,g3,g4⟩,by omega,by go_num,Nq.o.symm,rfl,rfl,by unfold pU;simp[h2,h3],by show 0<=yn+1/\yn+1<=65025*(j:Int)+((m+1:Nat):Int);omega,HLY.o _ rfl⟩
            case measure=>simp[intOf];omega
          · subst h1;subst h3;have b2:(yn==0)=false:=by simpa using h2
            go_wp2;go_roundw
            case rel=>exact⟨m+1,pU ⟨yn,pg,true,⟨q1,q2,q3,q4⟩⟩ pg ⟨g1,g2,g3,g4⟩,by omega,by go_num,Nq.o.symm,rfl,rfl,by unfold pU;simp[h2],by show 0<=yn+1/\yn+1<=65025*(j:Int)+((m+1:Nat):Int);omega,HLY.o _ rfl⟩
            case measure=>simp[intOf];omega
       · have ad8:pV nj es kd at_ x (m+1)=y:=by
          rw[qd.o];unfold EM;rw[bl hk]
         have Nq:=ai ad8;clear qd yo ad8;rcases(show ¬kx=kd∨(kx=kd/\¬lx=at_) by omega) with h1 | ⟨h1,h2⟩
         · have b1:(kx != kd)=true:=by simpa using h1
           go_upto_region 10 with fail;rw[<- E4.o];go_wp2;go_roundw
           case rel=>exact⟨m+1,y,by omega,by go_num,Nq.o.symm,rfl,rfl,rfl,by omega,QN.o⟩
           case measure=>simp[intOf];omega
         · subst h1;have b2:(lx != at_)=true:=by simpa using h2
           go_upto_region 10 with fail;rw[<- E4.o];go_wp2;go_roundw
           case rel=>exact⟨m+1,y,by omega,by go_num,Nq.o.symm,rfl,rfl,rfl,by omega,QN.o⟩
           case measure=>simp[intOf];omega
     · obtain rfl:m=es.length:=by omega
       have HEQ:Hid (y=yT k.aj kd at_ (j+1)):=HY.o.trans HST.o.symm;clear px Y8 QM hee;go_wp2;go_roundw
       case rel=>exact⟨j+1,y,by omega,by go_num,HEQ.o,rfl,rfl,rfl,by omega,HNY.o⟩
       case measure=>simp[intOf];omega
  · obtain rfl:j=n0:=by omega
    have Av:=Kr.rb;obtain⟨y0,y1,y2,y3⟩:=abI Kr.ab;obtain⟨v0,v1,v2,v3⟩:=abI Av;have f0:=aJ Av 0;have f1:=aJ Av 1;have f2:=aJ Av 2;have f3:=aJ Av 3;have Di:Hid (∀p q r s:Value,((((wr.setCell (Ad (w.heap.size+1) 0) p).setCell (Ad (w.heap.size+1) 1) q).setCell (Ad (w.heap.size+1) 2) r).setCell (Ad (w.heap.size+1) 3) s).heap[w.heap.size+1]?=some (.cells #[p,q,r,s] 47 (0,0))/\Below w.heap.size w ((((wr.setCell (Ad (w.heap.size+1) 0) p).setCell (Ad (w.heap.size+1) 1) q).setCell (Ad (w.heap.size+1) 2) r).setCell (Ad (w.heap.size+1) 3) s)):=fun p q r s=>⟨dG (dG (dG (dG Av 0 p) 1 q) 2 r) 3 s,by
     have hb:=Kr.L9;exact(((hb.setCell (p:=(Ad (w.heap.size+1) 0)) (xL _) _).setCell (p:=(Ad (w.heap.size+1) 1)) (xL _) _).setCell (p:=(Ad (w.heap.size+1) 2)) (xL _) _).setCell (p:=(Ad (w.heap.size+1) 3)) (xL _) _⟩
    obtain⟨xn,xp,xf,⟨q1,q2,q3,q4⟩⟩:=x;simp only at y0 y1 y2 y3;clear hx Kr Av Ku HNS HEL HN0 HNE Y4 hxn;go_upto_region 16 with fail;go_region;go_wp2;obtain⟨r1,r2⟩:=Di.o (I q1) (I q2) (I q3) (.bool q4);obtain⟨y0,y1,y2,y3⟩:=abI (aQ r1 (aK _ _).drew (aO r1));refine bR (v:=.tuple #[I xn,I xp,.bool xf,.agg #[I q1,I q2,I q3,.bool q4]]) (by simp[results,Tryz.results48,go_sem,y0,y1,y2,y3]) rfl ⟨by rw[<- HX.o],r2.drew⟩
theorem u7 (F:Nat->dH) (hF:kE F) (w:World) :
  Calls Tryz.prog 128 #[.agg (iE (fun n=>jG (F n)))] w fun e w'=>∃v,e=.returned v/\dC w.heap.size w' v (fB F)/\Below w.heap.size w w':=by
 have HF:Hid (kE F):=hF;clear hF;obtain⟨C,hC⟩:=ex (iE (fun n=>jG (F n)));have hCg:Hid (∀n,n<256->C[n]?=some (I (jG (F n)))):=by show ∀n,_;grind [tE]
 rw[<- hC];clear hC;obtain⟨i0,hi,hz0,hz1,hz2⟩:=iq TR;have HX:Hid ((w.alloc (.cells C 177)).heap[w.heap.size]?=some (.cells C 177 (0,0))):=bG w C 177;have eO:Hid (Below w.heap.size w (w.alloc (.cells C 177))):=(aK _ _).alloc (aM _) _;go_enter Tryz.func128,Tryz.ntmps128;go_wp2;go_loopw [3,4] (fun v i wr=>∃k:Nat,1<=k/\k<=256/\i=I k/\wr.ownsRow (w.heap.size+1) 47 4 v (b9 F k).length (cj (b9 F k))/\wr.heap[w.heap.size]?=some (.cells C 177 (0,0))/\Below w.heap.size w wr) (fun _ i _=>256-(intOf i).toNat)
 case atStart =>
  have e:b9 F 1=[]:=by grind [b9,Hid.o,kE.zero]
  refine⟨1,by omega,by omega,rfl,?_,HX.o,eO.o⟩;rw[e];exact km _ _ _ _
 case round =>
  obtain⟨k,hk1,hk,rfl,hown,hx,hb⟩:=hrel;have HO:Hid (wr.ownsRow (w.heap.size+1) 47 4 u3 (b9 F k).length (cj (b9 F k))):=hown;have HXr:Hid (wr.heap[w.heap.size]?=some (.cells C 177 (0,0))):=hx;have HB:Hid (Below w.heap.size w wr):=hb;by_cases hlt:k<256
  · have l0:=aB hx k (hCg.out k hlt);have l1:=aB hx (k-1) (hCg.out (k-1) (by omega));have MU:(k:Int)<=255:=by omega
    have avD:(1:Int)<=(k:Int):=by omega
    have hkb:(k:Int)<256:=by omega
    clear hown hx hb;have hlast:gT F k=F (k-1):=by
     cases k with
     | zero=>omega
     | succ k=>rfl
    have hpk:=HF.o.fV k;have hpl:=HF.o.fV (k-1);obtain⟨s,hs⟩:=ex (F k);obtain⟨t,ht⟩:=ex (gT F k);rw[<- hlast,<- ht] at l1 hpl;rw[<- hs] at l0 hpk;have HS:Hid (s=F k):=hs;have HT:Hid (t=gT F k):=ht;clear hs ht hlast;by_cases hm:s.m=true
    · have hen:=Zm s hpk hm;have hinj:=abN s t hpk hpl hm;obtain⟨x,hx⟩:=ex (jG s);obtain⟨y,hy⟩:=ex (jG t);rw[<- hx] at l0 hen hinj;rw[<- hy] at l1 hinj;obtain⟨hp1,hp2,hp3,hp4⟩:=hen;have HP1:Hid ((x-1)%8/2=s.p):=hp1;have Gh:Hid (decide (8<=x-1)=s.z):=hp2;have HI:Hid (y=x↔pM s t=true):=hinj;have hx0:(x==0)=false:=Cn.2 (by omega);clear hx hy hp1 hp2 hinj hpk hpl;by_cases hyx:y=x
      · have he:pM s t=true:=HI.o.1 hyx;have ao4:(y==x)=true:=by simp[hyx]
        have HG:Hid (b9 F (k+1)=wQ (b9 F k)):=by show _=_;simp only[b9];rw[<- HS.o,<- HT.o,hm,he];rfl
        have hpos:=zn F k (by rw[<- HT.o,<- Hw s t he];exact hm);have hlen:=qX F k;have wS:=xH F k ((b9 F k).length-1) (by omega);obtain⟨G,hG⟩:=ex (b9 F k);rw[<- hG] at HO HG hpos hlen wS;clear hG he hm hyx;rcases HO.o.2 with⟨_,h0⟩ | ⟨g,cap,cur,hv,hbg,hg,hnc,hcm,hcs,htake⟩
        · omega
        · have za:=HO.o;rw[hv] at za;have p1:wr.cell? ⟨g,(G.length-1)*4+1,none⟩=some (I (bB G (G.length-1)).aR):=by
           rw[za.cellAt _ (by omega),lG G _ 1 (by omega) (by omega)];rfl
          have pf:=za.frozenAt;have HOv:Hid (wr.ownsRow (w.heap.size+1) 47 4 (.slice (some (Ad g 0)) G.length cap) G.length (cj G)):=za;rw[hv];clear HO za hv hg htake hcs;obtain⟨pp,xw⟩:=ex ((bB G (G.length-1)).aR);rw[<- xw] at p1 wS;have HP:Hid (pp=(bB G (G.length-1)).aR):=xw;clear xw;have hG2:(G.length:Int)<=256:=by omega
          go_wp2
          go_quiet (fail)
          obtain⟨V,hV⟩:∃V:World,V=wr.drewN nq:=⟨_,rfl⟩;rw[<- hV];have p1V:V.cell? ⟨g,(G.length-1)*4+1,none⟩=some (I pp):=by rw[hV];exact p1
          have pfV:∀j,V.frozen? (Ad g j)=false:=by rw[hV];exact pf
          have HXV:Hid (V.heap[w.heap.size]?=some (.cells C 177 (0,0))):=by show _=_;rw[hV];exact HXr.o
          have HOV:Hid (V.ownsRow (w.heap.size+1) 47 4 (.slice (some (Ad g 0)) G.length cap) G.length (cj G)):=by show World.ownsRow _ _ _ _ _ _ _;rw[hV];exact HOv.o
          have HBV:Hid (Below w.heap.size w V):=by show Below _ _ _;rw[hV];exact lR HB.o _
          clear hV p1 pf l0 l1 HXr HOv HB;go_wp2;go_roundw
          case rel =>
           have ho:=(HOV.o.stored ((G.length-1)*4+1) (I (pp+1))).1;have e:(cj G).set ((G.length-1)*4+1) (I (pp+1))=cj (wQ G):=by
            rw[HP.o];exact(vX G (G.length-1) _ (by omega)).symm
           rw[e] at ho;refine⟨k+1,by omega,by omega,by go_num,?_,jT HXV.o _ _ _ (by omega),HBV.o.setCell (by simp;omega) _⟩;rw[HG.o,rT];exact ho
          case measure=>simp[intOf];omega
      · have he:pM s t=false:=by
         cases e:pM s t
         · rfl
         · exact absurd (HI.o.2 e) hyx
        have ao4:(y==x)=false:=Cn.2 hyx;have HG:Hid (b9 F (k+1)=b9 F k++[⟨(k:Int),1,s.p,s.z⟩]):=by show _=_;simp only[b9];rw[<- HS.o,<- HT.o,hm,he];rfl
        have hlen:=qX F k;obtain⟨G,hG⟩:=ex (b9 F k);rw[<- hG] at HO HG hlen;clear hG he hm hyx;go_wp2
        go_quiet (fail)
        obtain⟨V,hV⟩:∃V:World,V=wr.drewN nq:=⟨_,rfl⟩;rw[<- hV];have l0V:V.cell? (Ad w.heap.size k)=some (I x):=by rw[hV];exact l0
        have HXV:Hid (V.heap[w.heap.size]?=some (.cells C 177 (0,0))):=by show _=_;rw[hV];exact HXr.o
        have HOV:Hid (V.ownsRow (w.heap.size+1) 47 4 u3 G.length (cj G)):=by show World.ownsRow _ _ _ _ _ _ _;rw[hV];exact HO.o
        have HBV:Hid (Below w.heap.size w V):=by show Below _ _ _;rw[hV];exact lR HB.o _
        have hrV:Hid (∀j,u3.ownBlock=some j->w.heap.size+1<=j/\j<V.heap.size):=HOV.o.lt;have ava:w.heap.size<V.heap.size:=aO HXV.o;clear hV l0 l1 HXr HO HB;have HN:Hid ((V.alloc (.cells #[I (k:Int),I 1,I ((x-1)%8/2),.bool (decide (8<=x-1))] 47)).heap[V.heap.size]?=some (.cells #[I (k:Int),I 1,I ((x-1)%8/2),.bool (decide (8<=x-1))] 47 (0,0))):=bG _ _ _;go_wp2_with (at_builtin;refine Iq _ rfl _ _ 28 rfl (w.heap.size+1) 47 i0 (.agg #[I 0,I 0,I 0,.bool false]) 4 32 Tryz.underlying28 hi hz0 hz1 hz2 rfl (by decide) _ _ _ rfl (HOV.o.alloc _) (Ad V.heap.size 0) 1 1 [I (k:Int),I 1,I ((x-1)%8/2),.bool (decide (8<=x-1))] rfl rfl (vU HN.o) (qa [⟨(k:Int),1,(x-1)%8/2,decide (8<=x-1)⟩]) (by decide) (by unfold maxLen;omega) (by omega) (by simp;omega) (V.heap.size+1) (by simp) ?_)
        intro g cap w1 hown1 hgrow hat apu;have bX:=J9 (bE HXV.o (.cells #[I (k:Int),I 1,I ((x-1)%8/2),.bool (decide (8<=x-1))] 47)) hgrow (fun e=>by have:=hrV.out _ e.symm;omega);have Si:Hid (w1.ownsRow (w.heap.size+1) 47 4 (Value.slice (some (Ad g 0)) (G.length+1) cap) (G.length+1) (cj G++[I (k:Int),I 1,I ((x-1)%8/2),.bool (decide (8<=x-1))])):=hown1;have Ib:Hid (w1.heap[w.heap.size]?=some (.cells C 177 (0,0))):=bX;have cT:Hid (Below w.heap.size w w1):=(HBV.o.alloc HBV.o.size _).grown hgrow (by simp;omega) (fun k' e=>by have:=hrV.out _ e;omega);clear bX hown1 hgrow hat
        go_wp2;go_roundw
        case rel =>
         refine⟨k+1,by omega,by omega,by go_num,?_,Ib.o,cT.o⟩;rw[HG.o,gh,sW];have h:=Si.o;rw[HP1.o,Gh.o] at h;exact h
        case measure=>simp[intOf];omega
    · have hm':s.m=false:=by simpa using hm
      have hx0:=(xu s hpk.1).2 hm';have HG:Hid (b9 F (k+1)=b9 F k):=by show _=_;simp only[b9];rw[<- HS.o,hm'];rfl
      rw[hx0] at l0;clear hm hx0;go_wp2;go_roundw
      case rel =>
       refine⟨k+1,by omega,by omega,by go_num,?_,HXr.o,HB.o⟩;rw[HG.o];exact HO.o
      case measure=>simp[intOf];omega
  · obtain rfl:k=256:=by omega
    clear hown hx hb;go_wp2;go_ret;refine⟨_,rfl,?_,HB.o⟩;exact dC.mono (lo:=w.heap.size+1) HO.o (xL _)
theorem QB (F:Nat->dH) (hF:kE F) (w:World) :
  Calls Tryz.prog 128 #[.agg (iE (fun n=>jG (F n)))] w fun e w'=>∃v,e=.returned v/\eU w' v (fB F)/\Below w.heap.size w w':=(u7 F hF w).mono fun _ _ ⟨v,h1,h2,h3⟩=>⟨v,h1,h2.has,h3⟩
end Go.Proofs.YtpgifpeohlllfaaGreat
end Go.Proofs.YtpgifpeohlllfaaGreat
