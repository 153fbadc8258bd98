import Derived.Test.YtpgifpeohlllfaaGreatGV27
import Derived.Test.YtpgifpeohlllfaaGreatGV20
import Derived.Test.YtpgifpeohlllfaaGreatGV24
import Derived.StillTailTactics
set_option maxHeartbeats 20000000
set_option linter.unusedVariables false
set_option maxRecDepth 100000
set_option linter.unusedSimpArgs false
namespace Go.Proofs.YtpgifpeohlllfaaGreat
namespace Go.Proofs.YtpgifpeohlllfaaGreat
open Go.RowKit
theorem rK (es:List bC) (lv:Bool) (va:Value) (ap:Option Addr) (cp:Nat) (p:Int) (i:Nat) (w:World) (hE:dz bk 3 eD w ap es) (hn:es.length<=140737488351232) (hno:∀j,j<i->(aI es j).page≠p) (hi:i=es.length∨(i<es.length/\(aI es i).page=p)) :
  Calls Tryz.prog 67 #[.agg #[.bool lv,va,.slice ap es.length cp],I p] w fun e w'=>e=.returned (I (if i<es.length then (i:Int) else -1))/\Below w.heap.size w w':=by
 obtain⟨WA,iK⟩:=ex (w.alloc (.cells #[.bool lv,va,.slice ap es.length cp] 43));have hb0:Below w.heap.size w WA:=by grind [Below.refl,Below.alloc]
 have sb:WA.heap[w.heap.size]?=some (.cells #[.bool lv,va,.slice ap es.length cp] 43 (0,0)):=by grind [bG]
 have x2:WA.cell? (Ad w.heap.size 2)=some (.slice ap es.length cp):=aB sb 2 rfl;have px:Hid (∀m,m<es.length->∃eb eo,ap=some (Ad eb eo)/\WA.cell? (Ad eb (eo+m*3))=some (I (aI es m).page)):=fun m hm=>by
  obtain⟨eb,eo,g1,g2,g3⟩:=(hE.below hb0) (by omega);have z:=g3 m hm 0 (by omega);rw[gV] at z;exact⟨eb,eo,g1,z⟩
 have pq:=ai hno;have HI:=ai hi;have iG:=ai iK;have eO:=ai hb0;clear hE hno hi iK hb0 sb;go_enter Tryz.func67,Tryz.ntmps67;go_upto_region 1 with fail;rw[<- iG.o];go_wp2;go_loopw [5] (fun iv wq=>∃m:Nat,m<=i/\m<=es.length/\iv=I (m:Int)/\wq=WA) (fun iv _=>es.length-(intOf iv).toNat)
 case atStart=>grind
 case round =>
  obtain⟨m,hm,Bk,rfl,hwr⟩:=hrel;subst hwr;by_cases hlt:m<es.length
  · have hmi:(m:Int)<(es.length:Int):=by omega
    obtain⟨eb,eo,hap,z⟩:=px.o m hlt;rw[hap] at x2;by_cases c:m=i
    · subst c;have hp:(aI es m).page=p:=by
       rcases HI.o with h | h
       · omega
       omega
      rw[hp] at z;have HIL:=ai hlt;clear pq HI px hp hap;go_wp2;go_ret
      first | exact⟨rfl,eO.o⟩ | exact⟨by rw[bf HIL.o],eO.o⟩
    · have hp:(aI es m).page≠p:=pq.o m (by omega);obtain⟨q,hq⟩:=ex ((aI es m).page);rw[<- hq] at z hp;have b:(q==p)=false:=by grind
      clear pq HI px hap hq hp;go_wp2;go_roundw
      case rel=>exact⟨m+1,by omega,by omega,by go_num,by grind⟩
      case measure=>simp[intOf];omega
  · obtain rfl:es.length=m:=by omega
    have hil:¬i<es.length:=by
     omega
    have HIL:=ai hil;clear pq HI px hil;go_wp2;go_ret
    first | exact⟨rfl,eO.o⟩ | exact⟨by rw[bl HIL.o],eO.o⟩
theorem Ev {es:List bC} {p:Int} (h:bD es p=none):∀j,j<es.length->(aI es j).page≠p:=fun j hj e=>by
 have:=List.find?_eq_none.1 h (aI es j) (jD hj)
 grind
theorem xd {p:Int}:∀{es:List bC} {e:bC},bD es p=some e->∃i,i<es.length/\aI es i=e/\(aI es i).page=p/\∀j,j<i->(aI es j).page≠p
 | [],e,h=>by cases h
 | x::r,e,h=>by
  unfold bD at h;rw[TU] at h;by_cases c:x.page=p
  · rw[dh c] at h;injection h with h;exact⟨0,by simp,h,c,fun j hj=>absurd hj (jQ _)⟩
  · rw[dE c] at h;obtain⟨i,h1,h2,h3,h4⟩:=xd (es:=r) h;refine⟨i+1,by grind,h2,h3,fun j hj=>?_⟩;cases j with
    | zero=>exact c
    | succ j=>exact h4 j (by omega)
theorem Rq (k:aN) (a:fP) (j:Nat) (p:Int) (w:World) (hK:fT w a k) (hF:gW k) (hR:bg k) (hj:j<k.aj.length) (hm:cV k j p) :
  Calls Tryz.prog 32 #[.agg (aT a k),I (j:Int),I p] w fun e w'=>e=.returned (.string (cQ k j p))/\Below w.heap.size w w':=by
 obtain⟨pb,po,hpo,hpl,Aw⟩:=hK.aj (by omega);obtain⟨va,ap,cp,v0,v1,v2,L3,Bn,_⟩:=Aw j hj;have oU:=L3;obtain⟨aa,ca,yt,_⟩:=L3;subst yt;have hsj:=hR.sp hj;have hen:=(hF.sp j hj).aW;have hfS:=hF.aA;have hzz:(aV (ak k.aj j).aZ p).1.zero=false->(dJ k.aA p).isSome=true:=hsj.aA p hm;have hpk:cQ k j p=match bD (ak k.aj j).aW p with
  | some e=>if e.kind=1 then (au k.frames e.loc.toNat).data else (bw k.slots e.loc.toNat).data
  | none=>eH k.aA p (aV (ak k.aj j).aZ p).1.zero:=rfl
 have Ow:∀e∈(ak k.aj j).aW,(e.kind=1/\0<=e.loc/\e.loc<(k.frames.length:Int))∨(e.kind=2/\0<=e.loc/\e.loc<(k.slots.length:Int)):=fun e he=>(hsj.FC e he).2
 have hca:=hsj.aZ;have hrise:=hR.lQ;obtain⟨s,hs⟩:=ex (ak k.aj j);rw[<- hs] at v0 v1 v2 oU Bn hen hzz hpk Ow hca;rw[hpk];obtain⟨lv,nj,es⟩:=s;simp only at v0 v1 v2 oU Bn hen hzz Ow hca;show Calls _ _ _ _ fun e w'=>e=.returned (.string (match bD es p with
  | some e=>if e.kind=1 then (au k.frames e.loc.toNat).data else (bw k.slots e.loc.toNat).data
  | none=>eH k.aA p (aV nj p).1.zero))/\Below w.heap.size w w'
 obtain⟨WA,iK⟩:=ex ((w.alloc (.cells (aT a k) 27)).alloc (.cells #[.bool lv,.slice aa nj.length ca,.slice ap es.length cp] 43));have hb0:Below w.heap.size w WA:=by rw[iK];exact((aK _ _).alloc (aM _) _).alloc (by simp) _
 have kb:WA.heap[w.heap.size]?=some (.cells (aT a k) 27 (0,0)):=by rw[iK];exact bE (bG w _ _) _
 have sb:WA.heap[w.heap.size+1]?=some (.cells #[.bool lv,.slice aa nj.length ca,.slice ap es.length cp] 43 (0,0)):=by
  have:=bG (w.alloc (.cells (aT a k) 27)) #[.bool lv,.slice aa nj.length ca,.slice ap es.length cp] 43;rw[iJ] at this
  grind
 have KB:Hid (∀V,Below WA.heap.size WA V->V.heap[w.heap.size]?=some (.cells #[.slice a.aS k.aA.length a.cS,.slice a.aF k.frames.length a.cF,.slice a.aL k.slots.length a.cL,.slice a.aP k.aj.length a.cP,I k.hand] 27 (0,0))):=fun V hb=>aQ kb hb (aO kb)
 have SB:Hid (∀V,Below WA.heap.size WA V->V.heap[w.heap.size+1]?=some (.cells #[.bool lv,.slice aa nj.length ca,.slice ap es.length cp] 43 (0,0))):=fun V hb=>aQ sb hb (aO sb)
 have W0:(w.alloc (.cells #[.slice a.aS k.aA.length a.cS,.slice a.aF k.frames.length a.cF,.slice a.aL k.slots.length a.cL,.slice a.aP k.aj.length a.cP,I k.hand] 27)).heap[w.heap.size]?=some (.cells #[.slice a.aS k.aA.length a.cS,.slice a.aF k.frames.length a.cF,.slice a.aL k.slots.length a.cL,.slice a.aP k.aj.length a.cP,I k.hand] 27 (0,0)):=bG w _ _;have c3:(w.alloc (.cells #[.slice a.aS k.aA.length a.cS,.slice a.aF k.frames.length a.cF,.slice a.aL k.slots.length a.cL,.slice a.aP k.aj.length a.cP,I k.hand] 27)).cell? (Ad w.heap.size 3)=some (.slice (some (Ad pb po)) k.aj.length a.cP):=by
  have:=aB (v:=.slice a.aP k.aj.length a.cP) W0 3 rfl
  grind
 have D4:Below w.heap.size w (w.alloc (.cells #[.slice a.aS k.aA.length a.cS,.slice a.aF k.frames.length a.cF,.slice a.aL k.slots.length a.cL,.slice a.aP k.aj.length a.cP,I k.hand] 27)):=(aK _ _).alloc (aM _) _;have u0:=(D4.cell (p:=(Ad pb (po+j*3))) hpl).trans v0;have u1:=(D4.cell (p:=(Ad pb (po+j*3+1))) hpl).trans v1;have u2:=(D4.cell (p:=(Ad pb (po+j*3+2))) hpl).trans v2;have KT:(j:Int)<(k.aj.length:Int):=by omega
 have iF:∀{V:World},Below WA.heap.size WA V->Below w.heap.size w V:=fun hV=>hb0.trans (hV.mono hb0.size)
 have iG:=ai iK;have eO:=ai hb0;obtain⟨o,ho⟩:=ex (bD es p);rw[<- ho];cases o with
 | none =>
  have Qp:Hid (Calls Tryz.prog 67 #[.agg #[.bool lv,.slice aa nj.length ca,.slice ap es.length cp],I p] WA fun e w'=>e=.returned (I (-1))/\Below WA.heap.size WA w'):=by
   have:=rK es lv (.slice aa nj.length ca) ap cp p es.length WA (Bn.below hb0) hen (Ev ho.symm) (.inl rfl);rw[bl (Ih _)] at this;exact this
  have Kz:Hid (∀V,Below WA.heap.size WA V->Calls Tryz.prog 31 #[.slice aa nj.length ca,I p] V fun e w'=>e=.returned (.tuple #[.agg #[I (aV nj p).1.page,I (aV nj p).1.aR,I (aV nj p).1.fV,.bool (aV nj p).1.zero],.bool (aV nj p).2])/\Below V.heap.size V w'):=fun V hV=>tC _ _ p V (oU.below (iF hV)) hca
  have qN:Hid (∀V,Below WA.heap.size WA V->Calls Tryz.prog 49 #[.agg #[.slice a.aS k.aA.length a.cS,.slice a.aF k.frames.length a.cF,.slice a.aL k.slots.length a.cL,.slice a.aP k.aj.length a.cP,I k.hand],.agg #[I (aV nj p).1.page,I (aV nj p).1.aR,I (aV nj p).1.fV,.bool (aV nj p).1.zero],I p] V fun e w'=>e=.returned (.string (eH k.aA p (aV nj p).1.zero))/\Below V.heap.size V w'):=fun V hV=>yK k a _ _ _ _ p V (hK.aA.below (iF hV)) hfS hrise hzz
  show Calls _ _ _ _ fun e w'=>e=.returned (.string (eH k.aA p (aV nj p).1.zero))/\Below w.heap.size w w'
  obtain⟨F,hFF⟩:=ex (aV nj p);rw[<- hFF] at Kz qN ⊢;obtain⟨⟨g1,g2,g3,g4⟩,gf⟩:=F;simp only at Kz qN ⊢;obtain⟨D,hD⟩:=ex (eH k.aA p g4);rw[<- hD] at qN ⊢;unfold aT at iG ⊢;clear hK hF hR hm Aw Bn oU hsj hen hfS hzz hpk Ow hca hrise hs iK hb0 kb sb W0 D4 v0 v1 v2 iF ho hFF hD hj hpl hpo;go_enter Tryz.func32,Tryz.ntmps32;go_upto_region 2 with fail;rw[<- iG.o];obtain⟨x0,x1,x2⟩:=og (SB.o WA (aK _ _));clear u0 u1 u2 c3;go_upto_region 4 with(go_at_call 67;refine Qp.o.mono ?_;rintro e w1 ⟨rfl,hb1⟩;have cT:=ai hb1;obtain⟨x0,x1,x2⟩:=og (SB.o _ hb1);clear hb1)
  go_upto_region 5 with(go_at_call 31;refine(Kz.o _ cT.o).mono ?_;rintro e w2 ⟨rfl,hb2⟩;have fq:=ai (cT.o.trans (hb2.mono cT.o.size));clear hb2)
  have jo:=ai (fq.o.alloc fq.o.size (.cells #[I g1,I g2,I g3,.bool g4] 47));have gb:=bG w2 #[I g1,I g2,I g3,.bool g4] 47;obtain⟨W3,hW3⟩:=ex (w2.alloc (.cells #[I g1,I g2,I g3,.bool g4] 47));obtain⟨yb,hyb⟩:=ex w2.heap.size;rw[<- hW3] at jo gb ⊢;rw[<- hyb] at gb ⊢;clear hW3 hyb;obtain⟨y0,y1,y2,y3⟩:=abI gb;obtain⟨k0,k1,k2,k3,k4⟩:=dx (KB.o _ jo.o);go_wp2_with (go_at_call 49;refine(qN.o _ jo.o).mono ?_;rintro e w4 ⟨rfl,hb4⟩;have kO:=ai (jo.o.trans (hb4.mono jo.o.size));clear hb4)
  go_ret;exact⟨rfl,eO.o.trans (kO.o.mono eO.o.size)⟩
 | some e =>
  obtain⟨i,hi,he,hep,hno⟩:=xd ho.symm;have hk2:=Ow e (ma ho.symm);have Qp:Hid (Calls Tryz.prog 67 #[.agg #[.bool lv,.slice aa nj.length ca,.slice ap es.length cp],I p] WA fun e w'=>e=.returned (I (i:Int))/\Below WA.heap.size WA w'):=by
   have:=rK es lv (.slice aa nj.length ca) ap cp p i WA (Bn.below hb0) hen hno (.inr ⟨hi,hep⟩);rw[bf hi] at this;exact this
  have px:Hid (∀V,Below WA.heap.size WA V->∃eb eo,ap=some (Ad eb eo)/\V.cell? (Ad eb (eo+i*3+1))=some (I e.kind)/\V.cell? (Ad eb (eo+i*3+2))=some (I e.loc)):=fun V hV=>by
   obtain⟨eb,eo,g1,g2,g3⟩:=(Bn.below (iF hV)) (by omega);have z1:V.cell? (Ad eb (eo+i*3+1))=some (I (aI es i).kind):=g3 i hi 1 (by omega);have z2:V.cell? (Ad eb (eo+i*3+2))=some (I (aI es i).loc):=g3 i hi 2 (by omega);rw[he] at z1 z2;exact⟨eb,eo,g1,z1,z2⟩
  have Gd:(i:Int)<(es.length:Int):=by omega
  rcases hk2 with⟨q1,q2,q3⟩ | ⟨q1,q2,q3⟩
  · obtain⟨m,hmm⟩:∃m:Nat,e.loc=(m:Int):=⟨e.loc.toNat,by omega⟩;have Wj:Hid (∀V,Below WA.heap.size WA V->∃fb fo,a.aF=some (Ad fb fo)/\V.cell? (Ad fb (fo+m*4))=some (.string (au k.frames m).data)):=fun V hV=>by
     obtain⟨fb,fo,e1,e2,e3⟩:=(hK.frames.below (iF hV)) (by omega);have z:=e3 m (by omega) 0 (by omega);rw[gV] at z;exact⟨fb,fo,e1,z⟩
    have hmi:(m:Int)<(k.frames.length:Int):=by omega
    show Calls _ _ _ _ fun x w'=>x=.returned (.string (if e.kind=1 then (au k.frames e.loc.toNat).data else (bw k.slots e.loc.toNat).data))/\Below w.heap.size w w'
    rw[bf q1,hmm,iu];rw[q1,hmm] at px;obtain⟨D,hD⟩:=ex ((au k.frames m).data);rw[<- hD] at Wj ⊢;unfold aT at iG ⊢;clear hK hF hR hm Aw Bn oU hsj hen hfS hzz hpk Ow hca hrise hs iK hb0 kb sb W0 D4 v0 v1 v2 iF ho hD hj hpl hpo q1 q2 q3 hmm he hep hno hi;go_enter Tryz.func32,Tryz.ntmps32;go_upto_region 2 with fail;rw[<- iG.o];obtain⟨x0,x1,x2⟩:=og (SB.o WA (aK _ _));clear u0 u1 u2 c3;go_upto_region 6 with(go_at_call 67;refine Qp.o.mono ?_;rintro e w1 ⟨rfl,hb1⟩;have cT:=ai hb1;clear hb1)
    obtain⟨eb,eo,hap,z1,z2⟩:=px.o _ cT.o;have hq:=SB.o _ cT.o;rw[hap] at hq;obtain⟨x0,x1,x2⟩:=og hq;obtain⟨k0,k1,k2,k3,k4⟩:=dx (KB.o _ cT.o);clear hq hap;obtain⟨fb,fo,hfo,z⟩:=Wj.o _ cT.o;rw[hfo] at k1;clear hfo;go_upto_region 7 with fail;go_region;go_wp2;go_ret;exact⟨rfl,(eO.o.trans (cT.o.mono eO.o.size)).drew⟩
  · obtain⟨m,hmm⟩:∃m:Nat,e.loc=(m:Int):=⟨e.loc.toNat,by omega⟩;have Wj:Hid (∀V,Below WA.heap.size WA V->∃fb fo,a.aL=some (Ad fb fo)/\V.cell? (Ad fb (fo+m*2))=some (.string (bw k.slots m).data)):=fun V hV=>by
     obtain⟨fb,fo,e1,e2,e3⟩:=(hK.slots.below (iF hV)) (by omega);have z:=e3 m (by omega) 0 (by omega);rw[gV] at z;exact⟨fb,fo,e1,z⟩
    have hmi:(m:Int)<(k.slots.length:Int):=by omega
    show Calls _ _ _ _ fun x w'=>x=.returned (.string (if e.kind=1 then (au k.frames e.loc.toNat).data else (bw k.slots e.loc.toNat).data))/\Below w.heap.size w w'
    rw[bl (by omega),hmm,iu];rw[q1,hmm] at px;obtain⟨D,hD⟩:=ex ((bw k.slots m).data);rw[<- hD] at Wj ⊢;unfold aT at iG ⊢;clear hK hF hR hm Aw Bn oU hsj hen hfS hzz hpk Ow hca hrise hs iK hb0 kb sb W0 D4 v0 v1 v2 iF ho hD hj hpl hpo q1 q2 q3 hmm he hep hno hi;go_enter Tryz.func32,Tryz.ntmps32;go_upto_region 2 with fail;rw[<- iG.o];obtain⟨x0,x1,x2⟩:=og (SB.o WA (aK _ _));clear u0 u1 u2 c3;go_upto_region 6 with(go_at_call 67;refine Qp.o.mono ?_;rintro e w1 ⟨rfl,hb1⟩;have cT:=ai hb1;clear hb1)
    obtain⟨eb,eo,hap,z1,z2⟩:=px.o _ cT.o;have hq:=SB.o _ cT.o;rw[hap] at hq;obtain⟨x0,x1,x2⟩:=og hq;obtain⟨k0,k1,k2,k3,k4⟩:=dx (KB.o _ cT.o);clear hq hap;obtain⟨fb,fo,hfo,z⟩:=Wj.o _ cT.o;rw[hfo] at k2;clear hfo;go_upto_region 8 with fail;go_region;go_wp2;go_ret;exact⟨rfl,(eO.o.trans (cT.o.mono eO.o.size)).drew⟩
structure OW (l:List kF) (ao:Option Addr) (w:World):Prop where
 has:Jm w ao l
 few:l.length<=1000
 chk:∀k,k<l.length->mG (eN l k).i=0
 fit:∀k,k<l.length->IV (eN l k).i
 base:∀k,k<l.length->1<=(eN l k).base/\(eN l k).base<=2000
theorem OW.below {l:List kF} {ao:Option Addr} {w w':World} (h:OW l ao w) (hb:Below w.heap.size w w'):OW l ao w':=⟨h.has.below hb,h.few,h.chk,h.fit,h.base⟩
structure XI (xs ys:List bM):Prop where
 len:xs.length=ys.length
 page:∀k,k<xs.length->(bj ys k).page=(bj xs k).page
 data:∀k,k<xs.length->(bj ys k).data=(bj xs k).data
 dn:∀k,k<xs.length->(bj ys k).dn=(bj xs k).dn
theorem I3 (xs ys:List bM) (ax ay:Option Addr) (cx cy:Nat) (w:World) (hx:iM w ax xs) (hy:iM w ay ys) (hs:XI xs ys) (hn:bY xs.length) (hfn:∀k,k<xs.length->bY (bj xs k).dn.length) :
  Calls Tryz.prog 57 #[.slice ax xs.length cx,.slice ay ys.length cy] w fun e w'=>e=.returned (.bool true)/\Below w.heap.size w w':=by
 have HX:=aD hx;have HYY:=aD hy;have HS:=aD hs;have Qo:=aD hfn;rw[<- hs.len];unfold bY at hn;clear hx hy hs hfn;go_enter Tryz.func57,Tryz.ntmps57;go_wp2;go_loopw [5] (fun i wr=>∃k:Nat,k<=xs.length/\i=I k/\Below w.heap.size w wr) (fun i _=>xs.length-(intOf i).toNat)
 case atStart=>grind [Below.refl]
 case round =>
  obtain⟨i,hi,rfl,hb⟩:=hrel;have sY:=aD hb;by_cases hlt:i<xs.length
  · obtain⟨bx,ox,hax,QR,hlx⟩:=HX.o (by omega);obtain⟨bx2,oy,hay,hby,hly⟩:=HYY.o (by rw[<- HS.o.len];omega);subst hax hay;have HF:Hid (∀V,Below w.heap.size w V->(V.cell? (Ad bx (ox+i*3))=some (I (bj xs i).page)/\V.cell? (Ad bx (ox+i*3+1))=some (.string (bj xs i).data)/\V.cell? (Ad bx (ox+i*3+2))=some (.slice (bj xs i).ao (bj xs i).dn.length (bj xs i).cap)/\mr V (bj xs i).ao (bj xs i).dn)/\(V.cell? (Ad bx2 (oy+i*3))=some (I (bj xs i).page)/\V.cell? (Ad bx2 (oy+i*3+1))=some (.string (bj xs i).data)/\V.cell? (Ad bx2 (oy+i*3+2))=some (.slice (bj ys i).ao (bj xs i).dn.length (bj ys i).cap)/\mr V (bj ys i).ao (bj xs i).dn)):=fun V hV=>by
     obtain⟨a0,a1,a2,a3⟩:=Od hV QR hlx i hlt;obtain⟨b0,b1,b2,b3⟩:=Od hV hby hly i (by rw[<- HS.o.len];exact hlt);rw[HS.o.page i hlt] at b0;rw[HS.o.data i hlt] at b1;rw[HS.o.dn i hlt] at b2 b3;exact⟨⟨a0,a1,a2,a3⟩,b0,b1,b2,b3⟩
    have hfi:=Qo.o i hlt;obtain⟨⟨pg,dt,fs,af,cf⟩,hsx⟩:∃s,s=bj xs i:=⟨_,rfl⟩;obtain⟨ag,hag⟩:∃a,a=(bj ys i).ao:=⟨_,rfl⟩;obtain⟨cg,hcg⟩:∃a,a=(bj ys i).cap:=⟨_,rfl⟩;rw[<- hsx,<- hag,<- hcg] at HF;rw[<- hsx] at hfi;simp only at HF hfi;unfold bY at hfi;clear hsx hag hcg hlx hly;obtain⟨⟨a0,a1,a2,-⟩,b0,b1,b2,-⟩:=HF.o _ hb;have hi1:(i:Int)<(xs.length:Int):=by omega
    have hi0:(0:Int)<=(i:Int):=by omega
    clear hb;go_wp2
    go_quiet (fail)
    go_wp2;go_loopw [6] (fun i2 wr=>∃k:Nat,k<=fs.length/\i2=I k/\Below w.heap.size w wr) (fun i2 _=>fs.length-(intOf i2).toNat)
    case atStart=>exact⟨0,by omega,rfl,lR sY.o _⟩
    case round =>
     obtain⟨k,hk,rfl,hb⟩:=hrel;have HBk:=aD hb;obtain⟨⟨d0,d1,d2,d3⟩,e0,e1,e2,e3⟩:=HF.o _ hb;clear hb a0 a1 a2 b0 b1 b2;by_cases hlk:k<fs.length
     · obtain⟨fb,fo,haf,G3,hlf⟩:=d3 (by omega);obtain⟨gb,go,hag,hgb,hlg⟩:=e3 (by omega);subst haf hag;obtain⟨f0,f1⟩:=hlf k hlk;obtain⟨g0,g1⟩:=hlg k hlk;obtain⟨⟨fo1,fb1⟩,ZT⟩:∃f,f=lI fs k:=⟨_,rfl⟩;rw[<- ZT] at f0 f1 g0 g1;simp only at f0 f1 g0 g1;clear ZT hlf hlg d3 e3;have hk1:(k:Int)<(fs.length:Int):=by omega
       have Xg:(0:Int)<=(k:Int):=by omega
       go_wp2
       go_quiet (fail)
       go_wp2;go_roundw
       case rel=>exact⟨k+1,by omega,by go_num,lR HBk.o _⟩
       case measure=>simp[intOf];omega
     · obtain rfl:k=fs.length:=by omega
       clear d3 e3;go_wp2;go_roundw
       case rel=>exact⟨i+1,by omega,by go_num,HBk.o⟩
       case measure=>simp[intOf];omega
  · obtain rfl:i=xs.length:=by omega
    go_wp2;go_ret;exact⟨rfl,sY.o⟩
structure aoI (s:aiE):Prop where
 aZ:ed s.aZ
 aR:bY s.aR.length
 page:∀k,k<s.aR.length->dY (acz s.aR k).page/\bY (acz s.aR k).data.size
theorem acy {w:World} {v:Value} {l:List bc} (h:eU w v l):∃ao n c,v=.slice ao n c:=by
 obtain⟨ao,cap,h,_⟩:=h
 grind
theorem ag5 (d:ByteArray) (r:Int) (x y:Bool) (V:World):(Op.equalIn 10000 40 (.agg #[.string d,I r,.bool x,.bool y]) (.agg #[.string d,I r,.bool x,.bool y])).run Tryz.prog V=.ok true V:=by
 simp[go_sem]
theorem ag4 (d:ByteArray) (r:Int) (V:World):(Op.equalIn 10000 86 (.agg #[.string d,I r]) (.agg #[.string d,I r])).run Tryz.prog V=.ok true V:=by
 simp[go_sem]
theorem ag6 (p q r:Int) (V:World):(Op.equalIn 10000 45 (.agg #[I p,I q,I r]) (.agg #[I p,I q,I r])).run Tryz.prog V=.ok true V:=by
 simp[go_sem]
theorem ade {xs ys:List bM} (h:dw xs ys):XI xs ys:=by
 refine⟨h.len.symm,fun k hk=>?_,fun k hk=>?_,fun k hk=>?_⟩
 · exact(rM (h.at k)).1
 · exact(rM (h.at k)).2.1
 · exact(rM (h.at k)).2.2
structure Ey (w:World) (c d:Array Value) (V:World):Prop where
 x:V.heap[w.heap.size]?=some (.cells c 27 (0,0))
 y:V.heap[w.heap.size+1]?=some (.cells d 27 (0,0))
 L9:Below w.heap.size w V
theorem Ey.below {w V U:World} {c d:Array Value} (h:Ey w c d V) (hb:Below V.heap.size V U):Ey w c d U:=⟨aQ h.x hb (aO h.x),aQ h.y hb (aO h.y),h.L9.trans (hb.mono h.L9.size)⟩
theorem Hi (k:aN) (hs:List bM) (a b:fP) (w:World) (hA:fT w a k) (hB:fT w b (bu k hs)) (hS:dw k.aA hs) (hF:gW k) :
  Calls Tryz.prog 20 #[.agg (aT a k),.agg (aT b (bu k hs))] w fun e w'=>e=.returned (.bool true)/\Below w.heap.size w w':=by
 have hBs:iM w b.aS hs:=hB.aA;have hBf:dz gq 4 gD w b.aF k.frames:=hB.frames;have hBl:dz gp 2 nU w b.aL k.slots:=hB.slots;have hBp:s8 w b.aP k.aj:=hB.aj;have ZF:Hid (∀V,Below w.heap.size w V->Calls Tryz.prog 57 #[.slice a.aS k.aA.length a.cS,.slice b.aS hs.length b.cS] V fun e w'=>e=.returned (.bool true)/\Below V.heap.size V w'):=fun V hV=>I3 k.aA hs a.aS b.aS a.cS b.cS V (hA.aA.below hV) (hBs.below hV) (ade hS) hF.aA.1 (fun i hi=>(hF.aA.2 i hi).dn)
 obtain⟨WA,iK⟩:=ex ((w.alloc (.cells #[.slice a.aS k.aA.length a.cS,.slice a.aF k.frames.length a.cF,.slice a.aL k.slots.length a.cL,.slice a.aP k.aj.length a.cP,I k.hand] 27)).alloc (.cells #[.slice b.aS hs.length b.cS,.slice b.aF k.frames.length b.cF,.slice b.aL k.slots.length b.cL,.slice b.aP k.aj.length b.cP,I k.hand] 27));have HT0:Hid (Ey w #[.slice a.aS k.aA.length a.cS,.slice a.aF k.frames.length a.cF,.slice a.aL k.slots.length a.cL,.slice a.aP k.aj.length a.cP,I k.hand] #[.slice b.aS hs.length b.cS,.slice b.aF k.frames.length b.cF,.slice b.aL k.slots.length b.cL,.slice b.aP k.aj.length b.cP,I k.hand] WA):=by
  rw[iK];refine⟨bE (bG w _ _) _,?_,((aK _ _).alloc (aM _) _).alloc (by simp) _⟩
  grind [bG,World.size_alloc]
 have HCX:Hid (∀V,Ey w #[.slice a.aS k.aA.length a.cS,.slice a.aF k.frames.length a.cF,.slice a.aL k.slots.length a.cL,.slice a.aP k.aj.length a.cP,I k.hand] #[.slice b.aS hs.length b.cS,.slice b.aF k.frames.length b.cF,.slice b.aL k.slots.length b.cL,.slice b.aP k.aj.length b.cP,I k.hand] V->(V.cell? (Ad w.heap.size 0)=some (.slice a.aS k.aA.length a.cS)/\V.cell? (Ad w.heap.size 1)=some (.slice a.aF k.frames.length a.cF)/\V.cell? (Ad w.heap.size 2)=some (.slice a.aL k.slots.length a.cL)/\V.cell? (Ad w.heap.size 3)=some (.slice a.aP k.aj.length a.cP)/\V.cell? (Ad w.heap.size 4)=some (I k.hand))/\(V.cell? (Ad (w.heap.size+1) 0)=some (.slice b.aS hs.length b.cS)/\V.cell? (Ad (w.heap.size+1) 1)=some (.slice b.aF k.frames.length b.cF)/\V.cell? (Ad (w.heap.size+1) 2)=some (.slice b.aL k.slots.length b.cL)/\V.cell? (Ad (w.heap.size+1) 3)=some (.slice b.aP k.aj.length b.cP)/\V.cell? (Ad (w.heap.size+1) 4)=some (I k.hand))):=fun V h=>⟨dx h.x,dx h.y⟩
 have Wj:Hid (∀V i,Below w.heap.size w V->i<k.frames.length->∃fb fo gb go,a.aF=some (Ad fb fo)/\b.aF=some (Ad gb go)/\(V.cell? (Ad fb (fo+i*4))=some (.string (au k.frames i).data)/\V.cell? (Ad fb (fo+i*4+1))=some (I (au k.frames i).refs)/\V.cell? (Ad fb (fo+i*4+2))=some (.bool (au k.frames i).fN)/\V.cell? (Ad fb (fo+i*4+3))=some (.bool (au k.frames i).seen))/\(V.cell? (Ad gb (go+i*4))=some (.string (au k.frames i).data)/\V.cell? (Ad gb (go+i*4+1))=some (I (au k.frames i).refs)/\V.cell? (Ad gb (go+i*4+2))=some (.bool (au k.frames i).fN)/\V.cell? (Ad gb (go+i*4+3))=some (.bool (au k.frames i).seen))):=fun V i hV hi=>by
  obtain⟨fb,fo,e1,e2,e3⟩:=(hA.frames.below hV) (by omega);obtain⟨gb,go,g1,g2,g3⟩:=(hBf.below hV) (by omega);have z:=e3 i hi 0 (by omega);have y:=g3 i hi 0 (by omega);rw[gV] at z y;exact⟨fb,fo,gb,go,e1,g1,⟨z,e3 i hi 1 (by omega),e3 i hi 2 (by omega),e3 i hi 3 (by omega)⟩,⟨y,g3 i hi 1 (by omega),g3 i hi 2 (by omega),g3 i hi 3 (by omega)⟩⟩
 have Qj:Hid (∀V i,Below w.heap.size w V->i<k.slots.length->∃fb fo gb go,a.aL=some (Ad fb fo)/\b.aL=some (Ad gb go)/\(V.cell? (Ad fb (fo+i*2))=some (.string (bw k.slots i).data)/\V.cell? (Ad fb (fo+i*2+1))=some (I (bw k.slots i).refs))/\(V.cell? (Ad gb (go+i*2))=some (.string (bw k.slots i).data)/\V.cell? (Ad gb (go+i*2+1))=some (I (bw k.slots i).refs))):=fun V i hV hi=>by
  obtain⟨fb,fo,e1,e2,e3⟩:=(hA.slots.below hV) (by omega);obtain⟨gb,go,g1,g2,g3⟩:=(hBl.below hV) (by omega);have z:=e3 i hi 0 (by omega);have y:=g3 i hi 0 (by omega);rw[gV] at z y;exact⟨fb,fo,gb,go,e1,g1,⟨z,e3 i hi 1 (by omega)⟩,⟨y,g3 i hi 1 (by omega)⟩⟩
 have Ku:=ai hA.aj;have HSQ:=ai hBp;have HFS:=ai hF.sp;have SJ:k.frames.length<=140737488351232:=hF.nf;have zR:k.slots.length<=140737488351232:=hF.ns;have hn3:k.aj.length<=140737488351232:=hF.np;have iG:=ai iK;have ec:aT b (bu k hs)=#[.slice b.aS hs.length b.cS,.slice b.aF k.frames.length b.cF,.slice b.aL k.slots.length b.cL,.slice b.aP k.aj.length b.cP,I k.hand]:=rfl;rw[ec];unfold aT;obtain⟨X,hX⟩:∃X:Array Value,X=#[.slice a.aS k.aA.length a.cS,.slice a.aF k.frames.length a.cF,.slice a.aL k.slots.length a.cL,.slice a.aP k.aj.length a.cP,I k.hand]:=⟨_,rfl⟩;obtain⟨Y,hY⟩:∃Y:Array Value,Y=#[.slice b.aS hs.length b.cS,.slice b.aF k.frames.length b.cF,.slice b.aL k.slots.length b.cL,.slice b.aP k.aj.length b.cP,I k.hand]:=⟨_,rfl⟩;rw[<- hX,<- hY] at HT0 HCX;clear hA hB hS hF hBs hBf hBl hBp iK ec hX hY;obtain⟨⟨x0,x1,x2,x3,x4⟩,y0,y1,y2,y3,y4⟩:=HCX.o WA HT0.o;go_enter Tryz.func20,Tryz.ntmps20;go_upto_region 1 with fail;rw[<- iG.o];go_upto_region 3 with(go_at_call 57;refine(ZF.o _ HT0.o.L9).mono ?_;rintro e w1 ⟨rfl,hb1⟩;have ZE:=ai (HT0.o.below hb1);obtain⟨⟨x0,x1,x2,x3,x4⟩,y0,y1,y2,y3,y4⟩:=HCX.o w1 ZE.o;clear hb1)
 clear x0 x1 x2 x3 x4 y0 y1 y2 y3 y4 HT0 ZF;go_wp2;go_loopw [5] (fun iv wq=>∃i:Nat,i<=k.frames.length/\iv=I (i:Int)/\Ey w X Y wq) (fun iv _=>k.frames.length-(intOf iv).toNat)
 case atStart=>grind [Hid.o]
 case round =>
  obtain⟨i,hi,rfl,ht⟩:=hrel;have HT:=ai ht;obtain⟨⟨x0,x1,x2,x3,x4⟩,y0,y1,y2,y3,y4⟩:=HCX.o wr ht;by_cases hlt:i<k.frames.length
  · have Gd:(i:Int)<(k.frames.length:Int):=by omega
    obtain⟨fb,fo,gb,go,e1,e2,⟨z0,z1,z2,z3⟩,⟨v0,v1,v2,v3⟩⟩:=Wj.o wr i ht.L9 hlt;rw[e1] at x1;rw[e2] at y1;obtain⟨f,hf⟩:=ex (au k.frames i);rw[<- hf] at z0 z1 z2 z3 v0 v1 v2 v3;obtain⟨d,r,p,q⟩:=f;simp only at z0 z1 z2 z3 v0 v1 v2 v3;have hEQ:=ag5 d r p q;have HTD:=ai (fun n=>ht.below (lR (aK wr.heap.size wr) n));clear ht hf e1 e2 Wj Qj Ku HSQ HFS ZE;go_wp2
    go_quiet (fail)
    go_wp2;go_roundw
    case rel=>exact⟨i+1,by omega,by go_num,HTD.o _⟩
    grind [intOf]
  · obtain rfl:k.frames.length=i:=by omega
    clear Wj ht hlt;go_wp2;go_loopw [6] (fun iv wq=>∃i:Nat,i<=k.slots.length/\iv=I (i:Int)/\Ey w X Y wq) (fun iv _=>k.slots.length-(intOf iv).toNat)
    case atStart=>exact⟨0,by omega,rfl,HT.o⟩
    case round =>
     obtain⟨i,hi,rfl,ht⟩:=hrel;have HT2:=ai ht;obtain⟨⟨x0,x1,x2,x3,x4⟩,y0,y1,y2,y3,y4⟩:=HCX.o wr ht;by_cases hlt:i<k.slots.length
     · have Gd:(i:Int)<(k.slots.length:Int):=by omega
       obtain⟨fb,fo,gb,go,e1,e2,⟨z0,z1⟩,⟨v0,v1⟩⟩:=Qj.o wr i ht.L9 hlt;rw[e1] at x2;rw[e2] at y2;obtain⟨f,hf⟩:=ex (bw k.slots i);rw[<- hf] at z0 z1 v0 v1;obtain⟨d,r⟩:=f;simp only at z0 z1 v0 v1;have hEQ:=ag4 d r;have HTD:=ai (fun n=>ht.below (lR (aK wr.heap.size wr) n));clear ht hf e1 e2 Qj Ku HSQ HFS;go_wp2
       go_quiet (fail)
       go_wp2;go_roundw
       case rel=>exact⟨i+1,by omega,by go_num,HTD.o _⟩
       case measure=>simp[intOf];omega
     · obtain rfl:k.slots.length=i:=by omega
       clear Qj ht hlt;go_wp2;go_loopw [7] (fun iv wq=>∃i:Nat,i<=k.aj.length/\iv=I (i:Int)/\Ey w X Y wq) (fun iv _=>k.aj.length-(intOf iv).toNat)
       case atStart=>exact⟨0,by omega,rfl,HT2.o⟩
       case round =>
        obtain⟨i,hi,rfl,ht⟩:=hrel;have HT3:=ai ht;obtain⟨⟨x0,x1,x2,x3,x4⟩,y0,y1,y2,y3,y4⟩:=HCX.o wr ht;by_cases hlt:i<k.aj.length
        · have Gd:(i:Int)<(k.aj.length:Int):=by omega
          obtain⟨pb,po,hao,hbl,fG⟩:=(Ku.o.below ht.L9) (by omega);obtain⟨qb,qo,hao',av6,ahW⟩:=(HSQ.o.below ht.L9) (by omega);obtain⟨va,ap,cp,e0,e1,e2,e3,e4,e5⟩:=fG i hlt;obtain⟨vb,aq,cq,g0,g1,g2,g3,g4,g5⟩:=ahW i hlt;have Gm:=HFS.o i hlt;obtain⟨s,hss⟩:=ex (ak k.aj i);rw[<- hss] at e0 e2 e3 e4 e5 g0 g2 g3 g4 g5 Gm;obtain⟨lv,nj,aW⟩:=s;simp only at e0 e2 e3 e4 e5 g0 g2 g3 g4 g5;obtain⟨aa,na,ca,rfl⟩:=acy e3;obtain⟨ab,nb,cb,rfl⟩:=acy g3;have HE3:=ai e3;have HE4:=ai e4;have HG3:=ai g3;have HG4:=ai g4;have HFK:=ai Gm;rw[hao] at x3;rw[hao'] at y3;have l1:=aO ht.y;have l0:=aO ht.x;have l2:¬w.heap.size=wr.heap.size:=by omega
          have l3:¬w.heap.size+1=wr.heap.size:=by omega
          have l4:¬pb=wr.heap.size:=by omega
          have l5:¬qb=wr.heap.size:=by omega
          clear e3 e4 e5 g3 g4 g5 fG ahW hss Gm ht Ku HSQ HFS hao hao';have q1:Hid (((wr.alloc (.cells #[.bool lv,.slice aa na ca,.slice ap aW.length cp] 43)).alloc (.cells #[.bool lv,.slice ab nb cb,.slice aq aW.length cq] 43)).heap[wr.heap.size]?=some (.cells #[.bool lv,.slice aa na ca,.slice ap aW.length cp] 43 (0,0))):=bE (bG wr #[.bool lv,.slice aa na ca,.slice ap aW.length cp] 43) _;have q2:Hid (((wr.alloc (.cells #[.bool lv,.slice aa na ca,.slice ap aW.length cp] 43)).alloc (.cells #[.bool lv,.slice ab nb cb,.slice aq aW.length cq] 43)).heap[wr.heap.size+1]?=some (.cells #[.bool lv,.slice ab nb cb,.slice aq aW.length cq] 43 (0,0))):=by
           have:=bG (wr.alloc (.cells #[.bool lv,.slice aa na ca,.slice ap aW.length cp] 43)) #[.bool lv,.slice ab nb cb,.slice aq aW.length cq] 43;rw[iJ] at this;exact this
          have q3:Hid (((wr.alloc (.cells #[.bool lv,.slice ab nb cb,.slice aq aW.length cq] 43)).alloc (.cells #[.bool lv,.slice aa na ca,.slice ap aW.length cp] 43)).heap[wr.heap.size]?=some (.cells #[.bool lv,.slice ab nb cb,.slice aq aW.length cq] 43 (0,0))):=bE (bG wr #[.bool lv,.slice ab nb cb,.slice aq aW.length cq] 43) _;have q4:Hid (((wr.alloc (.cells #[.bool lv,.slice ab nb cb,.slice aq aW.length cq] 43)).alloc (.cells #[.bool lv,.slice aa na ca,.slice ap aW.length cp] 43)).heap[wr.heap.size+1]?=some (.cells #[.bool lv,.slice aa na ca,.slice ap aW.length cp] 43 (0,0))):=by
           have:=bG (wr.alloc (.cells #[.bool lv,.slice ab nb cb,.slice aq aW.length cq] 43)) #[.bool lv,.slice aa na ca,.slice ap aW.length cp] 43;rw[iJ] at this;exact this
          have q5:Hid (Below wr.heap.size wr ((wr.alloc (.cells #[.bool lv,.slice aa na ca,.slice ap aW.length cp] 43)).alloc (.cells #[.bool lv,.slice ab nb cb,.slice aq aW.length cq] 43)).drew):=(((aK wr.heap.size wr).alloc (aM _) (.cells #[.bool lv,.slice aa na ca,.slice ap aW.length cp] 43)).alloc (by simp) (.cells #[.bool lv,.slice ab nb cb,.slice aq aW.length cq] 43)).drew;have q6:Hid (Below wr.heap.size wr ((wr.alloc (.cells #[.bool lv,.slice ab nb cb,.slice aq aW.length cq] 43)).alloc (.cells #[.bool lv,.slice aa na ca,.slice ap aW.length cp] 43)).drew):=(((aK wr.heap.size wr).alloc (aM _) (.cells #[.bool lv,.slice ab nb cb,.slice aq aW.length cq] 43)).alloc (by simp) (.cells #[.bool lv,.slice aa na ca,.slice ap aW.length cp] 43)).drew;go_upto_region 16 with fail;go_cut [8,9] (fun x6 x7 wx=>∃g h:Nat,x6=.pointer (some (Ad g 0))/\x7=.pointer (some (Ad h 0))/\wx.heap[g]?=some (.cells #[.bool lv,.slice aa na ca,.slice ap aW.length cp] 43 (0,0))/\wx.heap[h]?=some (.cells #[.bool lv,.slice ab nb cb,.slice aq aW.length cq] 43 (0,0))/\Below wr.heap.size wr wx)
          case first =>
           go_region
           all_goals
            go_wp2_with fail
            go_meet
            case rel=>first | exact⟨_,_,rfl,rfl,q1.out,q2.out,q5.out⟩ | exact⟨_,_,rfl,rfl,q4.out,q3.out,q6.out⟩
          case rest =>
           obtain⟨g,h,rfl,rfl,hg,hh,hbc⟩:=hcut;obtain⟨WR,hWR⟩:=ex wr;subst hWR;have HSA:Hid (∀V,Below WR.heap.size WR V->Calls Tryz.prog 58 #[.slice aa na ca,.slice ab nb cb] V fun e w'=>e=.returned (.bool true)/\Below V.heap.size V w'):=fun V hV=>(MI nj nj _ _ V (HE3.o.below hV) (HG3.o.below hV) HFK.o.aZ.2 HFK.o.aZ.2).mono fun e w' ⟨r,h1,h2,h3⟩=>by
            simp_all
           have hlp:aW.length<=140737488351232:=HFK.o.aW;have Gj:=ai hbc;have HGC:=ai hg;have HHC:=ai hh;obtain⟨f0,f1,f2⟩:=og hg;obtain⟨f3,f4,f5⟩:=og hh;clear hg hh hbc q1 q2 q3 q4 q5 q6 e0 e1 e2 g0 g1 g2 l1 l0 l2 l3 l4 l5 x0 x1 x2 x3 x4 y0 y1 y2 y3 y4;go_wp2_with (go_at_call 58;refine(HSA.o _ Gj.o).mono ?_;rintro e w3 ⟨rfl,hb3⟩;have jo:=ai (Gj.o.trans (hb3.mono Gj.o.size));have akn:=ai (aQ HGC.o hb3 (aO HGC.o));have akm:=ai (aQ HHC.o hb3 (aO HHC.o));clear hb3;have f6:w3.cell? (Ad g 2)=some (.slice ap aW.length cp):=aB akn.o 2 rfl;have f7:w3.cell? (Ad h 2)=some (.slice aq aW.length cq):=aB akm.o 2 rfl)
           clear f0 f1 f2 f3 f4 f5;go_loopw [10] (fun iv wi=>∃m:Nat,m<=aW.length/\iv=I (m:Int)/\wi.heap[g]?=some (.cells #[.bool lv,.slice aa na ca,.slice ap aW.length cp] 43 (0,0))/\wi.heap[h]?=some (.cells #[.bool lv,.slice ab nb cb,.slice aq aW.length cq] 43 (0,0))/\Below WR.heap.size WR wi) (fun iv _=>aW.length-(intOf iv).toNat)
           case atStart=>exact⟨0,by omega,rfl,akn.o,akm.o,jo.o⟩
           case round =>
            obtain⟨m,hm,rfl,hg,hh,hbi⟩:=hrel;have HGi:=ai hg;have HHi:=ai hh;have Y6:=ai hbi;have f2:wr.cell? (Ad g 2)=some (.slice ap aW.length cp):=aB hg 2 rfl;have f5:wr.cell? (Ad h 2)=some (.slice aq aW.length cq):=aB hh 2 rfl;clear hg hh HSA akn akm jo f6 f7;by_cases hmt:m<aW.length
            · obtain⟨bp,aiH,hap,av5,agx⟩:=(HE4.o.below hbi) (show 0<aW.length by omega);obtain⟨bq,aiG,haq,av4,acM⟩:=(HG4.o.below hbi) (show 0<aW.length by omega);rw[hap] at f2;rw[haq] at f5;have z0:=agx m hmt 0 (by omega);have z1:=agx m hmt 1 (by omega);have z2:=agx m hmt 2 (by omega);have v0:=acM m hmt 0 (by omega);have v1:=acM m hmt 1 (by omega);have v2:=acM m hmt 2 (by omega);rw[gV] at z0 v0;obtain⟨z,hz⟩:=ex (aW.getD m eD);rw[<- hz] at z0 z1 z2 v0 v1 v2;obtain⟨p,q,r⟩:=z;replace z0:wr.cell? (Ad bp (aiH+m*3))=some (I p):=z0;replace z1:wr.cell? (Ad bp (aiH+m*3+1))=some (I q):=z1;replace z2:wr.cell? (Ad bp (aiH+m*3+2))=some (I r):=z2;replace v0:wr.cell? (Ad bq (aiG+m*3))=some (I p):=v0;replace v1:wr.cell? (Ad bq (aiG+m*3+1))=some (I q):=v1;replace v2:wr.cell? (Ad bq (aiG+m*3+2))=some (I r):=v2;have hEQ:=ag6 p q r;have hmi:(m:Int)<(aW.length:Int):=by omega
              have HGD:=ai (fun n=>aQ HGi.o (lR (aK wr.heap.size wr) n) (aO HGi.o));have HHD:=ai (fun n=>aQ HHi.o (lR (aK wr.heap.size wr) n) (aO HHi.o));have LL:=ai (fun n=>lR Y6.o n);clear hz agx acM hbi hap haq HGi HHi Y6;go_wp2
              go_quiet (fail)
              go_wp2;go_roundw
              case rel=>exact⟨m+1,by omega,by go_num,HGD.o _,HHD.o _,LL.o _⟩
              case measure=>simp[intOf];omega
            · obtain rfl:aW.length=m:=by omega
              have DU:=ai (HT3.o.below hbi);clear hbi hmt;go_wp2;go_roundw
              case rel=>exact⟨i+1,by omega,by go_num,DU.o⟩
              case measure=>simp[intOf];omega
        · obtain rfl:k.aj.length=i:=by omega
          have TF:=ai ht.L9;clear ht;go_wp2;go_ret;exact⟨rfl,TF.o⟩
theorem VS {s:bM} (h:cR s=true):xU s:=by
 unfold cR lh at h;rw[dR,iV] at h;obtain⟨⟨h1,h2,h3⟩,hf⟩:=h;have hl:=nY _ _ hf;refine⟨⟨by omega,by omega⟩,by grind [bY],by grind [bY],fun k hk=>?_⟩;have all:∀n,ez s.dn n=true->∀i,i<n->ez s.dn i=true/\xS (nM s.dn i) (lI s.dn i)=true:=fun n=>by
  induction n with
  | zero=>omega
  | succ n ih =>
   grind [ez]
 obtain⟨g1,g2⟩:=all _ hf k hk;have g3:=nY _ _ g1;unfold xS at g2;rw[iV] at g2;exact⟨⟨by omega,by omega⟩,by grind [bY]⟩
theorem GJ {hs:List bM} (h:fJ hs=true) (hl:hs.length<=255):qI hs:=⟨by grind [bY],fun k hk=>VS (qq hs hs.length h k hk).1⟩
theorem qB {k:aN} (h:bg k):gW k:=by
 have hc:=h.c;obtain⟨r1,r2⟩:=o7 h;have hh:=h.hand;refine⟨GJ h.lQ (by omega),by grind [bY],fun i hi=>⟨?_,?_⟩,by grind [bY],fun i hi=>⟨?_,?_⟩,by grind [bY],fun i hi=>⟨?_,?_,fun n hn=>?_⟩,⟨by omega,by omega⟩⟩
 · have f:=h.zS i hi;unfold bY;by_cases c:cO k.aj 1 i=[]
   · rw[f.zero c];exact ql _
   grind [lK.size]
 · have:=r1 i hi;exact⟨by omega,by omega⟩
 · have f:=h.slt i hi;unfold bY;by_cases c:cO k.aj 2 i=[]
   · rw[f.zero c];exact ql _
   grind [mY.size]
 · have:=r2 i hi;exact⟨by omega,by omega⟩
 · exact lD _ (h.sp hi).aZ
 · grind [jC,bY]
 · have s:=h.sp hi;have he:aI (ak k.aj i).aW n∈(ak k.aj i).aW:=jD hn;obtain⟨e1,e2⟩:=s.FC _ he;have e3:=ki s.aZ e1;rcases e2 with⟨e4,e5,e6⟩ | ⟨e4,e5,e6⟩
   · exact⟨⟨by omega,by omega⟩,by rw[e4];exact⟨by decide,by decide⟩,⟨by omega,by omega⟩⟩
   · exact⟨⟨by omega,by omega⟩,by rw[e4];exact⟨by decide,by decide⟩,⟨by omega,by omega⟩⟩
theorem E3 {lo:Nat} {w:World} {S:dN} {k:aN} (h:iZ lo w S k):∃a,#[S.vS,S.vF,S.vL,S.vP,I k.hand]=aT a k/\∀U,aH (fun b=>b<lo) w U->fT U a k:=by
 obtain⟨a,p,_⟩:=h.has;refine⟨a,by unfold aT;rw[p.eS,p.eF,p.eL,p.eP],fun U hU=>?_⟩;obtain⟨a',p',ha⟩:=(h.kp hU (fun b hb e=>by have:=(h.qF b hb).1;omega)).has;have e1:=p.eS.symm.trans p'.eS;have e2:=p.eF.symm.trans p'.eF;have e3:=p.eL.symm.trans p'.eL;have e4:=p.eP.symm.trans p'.eP;injection e1 with q1 _ q2;injection e2 with q3 _ q4;injection e3 with q5 _ q6;injection e4 with q7 _ q8;have:a'=a:=by
  cases a
  simp_all
 grind
def ahb (w:World) (k:aN) (vs:List Value) (e:Ending) (w':World):Prop:=∃hs a,dw k.aA hs/\e=.returned (.tuple (Value.agg (aT a (bu k hs))::vs).toArray)/\(∀U,aH (fun b=>b<w.heap.size) w' U->fT U a (bu k hs))/\Below w.heap.size w w'
theorem Qd {w:World} {k:aN} {vs:List Value} {e:Ending} {w':World} (h:bN w k vs e w'):ahb w k vs e w':=by
 obtain⟨S,hs,h1,h2,h3,h4⟩:=h;obtain⟨a,e1,e2⟩:=E3 h3;exact⟨hs,a,h1,by rw[h2,<- e1];rfl,e2,h4⟩
end Go.Proofs.YtpgifpeohlllfaaGreat
end Go.Proofs.YtpgifpeohlllfaaGreat
