import Derived.Test.YtpgifpeohlllfaaGreatGV34
set_option maxHeartbeats 20000000
set_option linter.unusedVariables false
set_option maxRecDepth 100000
set_option linter.unusedSimpArgs false
namespace Go.Proofs.YtpgifpeohlllfaaGreat
namespace Go.Proofs.YtpgifpeohlllfaaGreat
open Go.RowKit
theorem Lj {L:List xc} {j:Nat} (hj:j<L.length) (x:xc):cA (L.set j x) j=x:=eX _ _ _ _ hj
end Go.Proofs.YtpgifpeohlllfaaGreat
namespace Go.Proofs.YtpgifpeohlllfaaGreat
end Go.Proofs.YtpgifpeohlllfaaGreat
namespace Go.Proofs.YtpgifpeohlllfaaGreat
open Go.RowKit
end Go.Proofs.YtpgifpeohlllfaaGreat
namespace Go.Proofs.YtpgifpeohlllfaaGreat
theorem ED {l r:List bc} (hl:br l=0) (hr:br r=0) (h:∀x:Int,(aV r x).2=true->(aV l x).2=true):cI r<=cI l:=by
 rw[uU hl,uU hr];have:=sJ (mM l) (mM r) (zi.sorted (BV hr)) (zi.sorted (BV hl)) (fun x hx=>(uV hl x).1 (h x ((uV hr x).2 hx)));omega
theorem GC (F G:Int->Bool) (a b:Int):∀(n:Nat) (p:Int),(∀x,p<=x->x<p+n->(a<=x/\x<b->F x=true/\G x=false)/\(¬(a<=x/\x<b)->F x=G x))->((tY p n).filter F).length=(((tY p n).filter G).length:Int)+max 0 (min (p+n) b-max p a)
 | 0,p,_=>by
  show(0:Int)=0+_;omega
 | n+1,p,h=>by
  have ih:=GC F G a b n (p+1) (fun x h1 h2=>h x (by omega) (by omega))
  grind [tY]
theorem Dz {l:List bc} (hl:br l=0):cI l=(((tY 1 255).filter (fun x=>(aV l x).2)).length:Int):=by
 rw[uU hl];have s1:=zi.sorted (BV hl);have s2:((tY 1 255).filter (fun x=>(aV l x).2)).Pairwise (·<·):=(A9 255 1).sublist List.filter_sublist;have a1:=sJ _ _ s1 s2 (fun x hx=>by
  grind [uV,gN,vT])
 have a2:=sJ _ _ s2 s1 (fun x hx=>by
  grind [uV])
 omega
theorem Vm {l:List bc} {p n q:Int} (h:(eY l p n q).2=0) (hl:br l=0):cI (eY l p n q).1=cI l+n:=by
 obtain⟨h1,h2⟩:=yq l p n q h;obtain⟨_,xw,_⟩:=vV _ _ _ _ _ h;rw[Dz h1,Dz hl];have:=GC (fun x=>(aV (eY l p n q).1 x).2) (fun x=>(aV l x).2) p (p+n) 255 1 (fun x hx1 hx2=>by
  obtain⟨m,rfl⟩:∃m:Nat,x=(m:Int):=⟨x.toNat,by omega⟩
  grind)
 rw[this];have hb:1<=p/\1<=n/\p+n<=256:=by
  grind [eu]
 omega
theorem PL {l:List bc} {p n:Int} (h:(dA l p n).2=0) (hl:br l=0):cI (dA l p n).1<=cI l:=by
 obtain⟨h1,h2⟩:=Dy h;obtain⟨_,k2⟩:=uX l p n h;refine ED hl h1 fun x hx=>?_
 have hb:=gN hx;obtain⟨m,rfl⟩:∃m:Nat,x=(m:Int):=⟨x.toNat,by omega⟩
 grind
theorem Lu {l:List bc} {p n q:Int} (h:(cK l p n q).2=0) (hl:br l=0):cI (cK l p n q).1=cI l:=by
 obtain⟨h1,h2⟩:=sK l p n q h;have e:∀x:Int,1<=x->x<=255->(aV (cK l p n q).1 x).2=(aV l x).2:=fun x g1 g2=>by
  obtain⟨m,rfl⟩:∃m:Nat,x=(m:Int):=⟨x.toNat,by omega⟩
  grind
 have a1:=ED hl h1 (fun x hx=>by grind [gN]);have a2:=ED h1 hl (fun x hx=>by grind [gN]);omega
theorem Mz (k:aN) (es:List bC) (g:bC->Bool) (h:∀e∈es,g e=false):∀n,n<=es.length->cU k es g n=k
 | 0,_=>rfl
 | n+1,hn=>by
  have ih:=Mz k es g h n (by omega)
  grind [aI,cU]
theorem YF (es:List bC) (g:bC->Bool) (h:∀e∈es,g e=false):gA es g=es:=by
 simp_all [gA]
theorem JQ (k:aN) (j:Nat) (l:List bc) (h:∀e∈(ak k.aj j).aW,ju l e=false):kv k j l={ k with aj:=k.aj.set j ⟨(ak k.aj j).live,l,(ak k.aj j).aW⟩ }:=by
 simp_all [kv,fI,mC,Mz,YF]
theorem VA {k:aN} (hR:bg k) {j:Nat} (hj:j<k.aj.length) {p n q:Int} (h:(eY (ak k.aj j).aZ p n q).2=0):∀e∈(ak k.aj j).aW,ju (eY (ak k.aj j).aZ p n q).1 e=false:=fun e he=>by
 obtain⟨e1,_⟩:=(hR.sp hj).FC e he;have hb:=gN e1;obtain⟨_,h2⟩:=yq _ p n q h;unfold ju;obtain⟨m,hm⟩:∃m:Nat,e.page=(m:Int):=⟨e.page.toNat,by omega⟩
 grind
theorem Lx {k:aN} (hR:bg k) {j:Nat} (hj:j<k.aj.length) {p n q:Int} (h:(cK (ak k.aj j).aZ p n q).2=0):∀e∈(ak k.aj j).aW,ju (cK (ak k.aj j).aZ p n q).1 e=false:=fun e he=>by
 obtain⟨e1,_⟩:=(hR.sp hj).FC e he;have hb:=gN e1;obtain⟨_,h2⟩:=sK _ p n q h;unfold ju;obtain⟨m,hm⟩:∃m:Nat,e.page=(m:Int):=⟨e.page.toNat,by omega⟩
 grind
def mX (p n:Int) (e:bC):Bool:=decide (p<=e.page/\e.page<=p+n-1)
theorem Rw {k:aN} (hR:bg k) {j:Nat} (hj:j<k.aj.length) {p n:Int} (h:(dA (ak k.aj j).aZ p n).2=0):∀e∈(ak k.aj j).aW,ju (dA (ak k.aj j).aZ p n).1 e=mX p n e:=fun e he=>by
 obtain⟨e1,_⟩:=(hR.sp hj).FC e he;have hb:=gN e1;obtain⟨_,h2⟩:=uX _ p n h;unfold ju mX;obtain⟨m,hm⟩:∃m:Nat,e.page=(m:Int):=⟨e.page.toNat,by omega⟩
 grind
theorem JP (k:aN) (es:List bC) (f g:bC->Bool) (h:∀e∈es,f e=g e):∀n,n<=es.length->cU k es f n=cU k es g n
 | 0,_=>rfl
 | n+1,hn=>by
  have ih:=JP k es f g h n (by omega)
  grind [aI,cU]
theorem RU (es:List bC) (f g:bC->Bool) (h:∀e∈es,f e=g e):gA es f=gA es g:=by
 grind [gA,List.filter_congr]
def iD (k:aN) (j:Nat) (l:List bc) (g:bC->Bool) (n:Nat):aN:={ cU k (ak k.aj j).aW g n with aj:=k.aj.set j ⟨(ak k.aj j).live,l,gA ((ak k.aj j).aW.take n) g⟩ }
theorem aaR (k:aN) (j:Nat) (l:List bc) (g:bC->Bool):iD k j l g 0={ k with aj:=k.aj.set j ⟨(ak k.aj j).live,l,[]⟩ }:=rfl
theorem adn {k:aN} (hR:bg k) {j:Nat} (hj:j<k.aj.length) {p n:Int} (h:(dA (ak k.aj j).aZ p n).2=0):iD k j (dA (ak k.aj j).aZ p n).1 (mX p n) (ak k.aj j).aW.length=kv k j (dA (ak k.aj j).aZ p n).1:=by
 have hg:=Rw hR hj h;unfold iD kv fI mC;rw[JP k _ _ _ hg _ (Nat.le_refl _),RU _ _ _ hg,List.take_length];simp only[lO,List.set_set]
theorem Vl (k:aN) (j:Nat) (l:List bc) (g:bC->Bool) {n:Nat} (hn:n<(ak k.aj j).aW.length) (h:g (aI (ak k.aj j).aW n)=true):iD k j l g (n+1)=df (iD k j l g n) (aI (ak k.aj j).aW n):=by
 grind [iD,C4,cU,df]
theorem YA (k:aN) {j:Nat} (hj:j<k.aj.length) (l:List bc) (g:bC->Bool) {n:Nat} (hn:n<(ak k.aj j).aW.length) (h:g (aI (ak k.aj j).aW n)=false):iD k j l g (n+1)={ iD k j l g n with aj:=(iD k j l g n).aj.set j (dX (ak (iD k j l g n).aj j) ((ak (iD k j l g n).aj j).aW++[aI (ak k.aj j).aW n])) }:=by
 simp_all [cU,iD,ja,dX,C4]
theorem Yz (k:aN) (hs:List bM) (j:Nat) (l:List bc) (g:bC->Bool) (n:Nat):iD (bu k hs) j l g n=bu (iD k j l g n) hs:=by
 grind [iD,bu,C7]
def rJ (k:aN) (j:Nat) (l:List bc):aN:={ k with aj:=k.aj.set j ⟨(ak k.aj j).live,l,(ak k.aj j).aW⟩ }
theorem AQ {k:aN} {j:Nat} {r:List bc×Int} (c:dM k (j:Int)=0) (h:r.2=0):eG k (j:Int) r=if eW k.aj-cI (ak k.aj j).aZ+cI r.1>(k.slots.length:Int) then (cJ,8) else (kv k j r.1,0):=by
 grind [eG]
theorem CV {k:aN} {j:Nat} {r:List bc×Int} (c:dM k (j:Int)=0) (h:r.2≠0):eG k (j:Int) r=(cJ,r.2):=by
 grind [eG]
theorem AU {k:aN} {sp:Int} {r:List bc×Int} (c:dM k sp≠0):eG k sp r=(cJ,dM k sp):=by
 grind [eG]
theorem Ve {k:aN} (hR:bg k) {j:Nat} (hj:j<k.aj.length) (c:dM k (j:Int)=0) {p n q:Int} (h:(eY (ak k.aj j).aZ p n q).2=0):eG k (j:Int) (eY (ak k.aj j).aZ p n q)=if eW k.aj+n>(k.slots.length:Int) then (cJ,8) else (rJ k j (eY (ak k.aj j).aZ p n q).1,0):=by
 rw[AQ c h,Vm h (hR.sp hj).aZ,JQ k j _ (VA hR hj h)];have e:eW k.aj-cI (ak k.aj j).aZ+(cI (ak k.aj j).aZ+n)=eW k.aj+n:=by omega
 rw[e];rfl
theorem Ls {k:aN} (hR:bg k) {j:Nat} (hj:j<k.aj.length) (c:dM k (j:Int)=0) {p n q:Int} (h:(cK (ak k.aj j).aZ p n q).2=0):eG k (j:Int) (cK (ak k.aj j).aZ p n q)=(rJ k j (cK (ak k.aj j).aZ p n q).1,0):=by
 rw[AQ c h,Lu h (hR.sp hj).aZ,JQ k j _ (Lx hR hj h),bl (by have:=hR.room;omega)];rfl
theorem PF {k:aN} (hR:bg k) {j:Nat} (hj:j<k.aj.length) (c:dM k (j:Int)=0) {p n:Int} (h:(dA (ak k.aj j).aZ p n).2=0):eG k (j:Int) (dA (ak k.aj j).aZ p n)=(iD k j (dA (ak k.aj j).aZ p n).1 (mX p n) (ak k.aj j).aW.length,0):=by
 rw[AQ c h,bl (by have:=hR.room;have:=PL h (hR.sp hj).aZ;omega),adn hR hj h]
end Go.Proofs.YtpgifpeohlllfaaGreat
namespace Go.Proofs.YtpgifpeohlllfaaGreat
open Go.RowKit
theorem abJ (l:List bc) (v:Value) (page aR q:Int) (w:World) (h:eU w v l) (hf:ed l) (hp:nW page) (hn:nW aR) :
  Calls Tryz.prog 79 #[v,I page,I aR,I q] w fun e w'=>∃r,e=.returned (.tuple #[r,I (eY l page aR q).2])/\dC w.heap.size w' r (eY l page aR q).1/\Below w.heap.size w w':=by
 by_cases hs:jd l page aR q=0
 · have hall:br l=0/\eu page aR=true/\gQ q=true:=by
    grind [jd]
   obtain⟨hc,xw,Zz⟩:=hall;have HT:Hid (eY l page aR q=if fh (cu l) (cW q) page.toNat aR.toNat=0 then (fB (cM (cu l) (cW q) page (page+aR)),0) else ([],fh (cu l) (cW q) page.toNat aR.toNat)):=by
    show _=_;grind [eY,dV]
   have hpb:=(iW page aR).1 xw;have hqb:=(xt q).1 Zz;have hfin:Hid (∀t,kE (cM (cu l) (cW q) page t)):=fun t=>MJ l page t q hc (by omega) hqb
   have Ks:Hid (kE (cu l)):=oO l hc;have xI:=sP l l.length (p7 l hc);have hlen:=kg l hc;have SP:=ai (fun W hW=>um l v page aR q W hW hf hp hn);rw[hs] at SP;have BO:=ai (fun W hW=>uZ l v W hW xI.1 hlen);rw[xI.2] at BO;have HR:=ai xI.2;obtain⟨Z,hZ⟩:=ex (iE (fun _=>0));have hz:=F8;rw[<- hZ] at hz;have hZs:Z.size=256:=by grind [oP]
   clear hZ hs hc xw Zz xI hlen;go_enter Tryz.func79,Tryz.ntmps79;go_wp2_with fail
   refine(SP.o _ h).mono ?_;rintro e w1 ⟨rfl,hb1⟩;go_wp2_with fail
   refine(BO.o _ (h.below hb1)).mono ?_;rintro e w2 ⟨C,rfl,hBd,hb2⟩;have fq:Hid (Below w.heap.size w w2):=hb1.trans (hb2.mono hb1.size);obtain⟨F,hF⟩:=ex (cu l);obtain⟨Xo,hCo,hCb⟩:=hBd;have hC:=hCb HR.o;rw[<- hF] at HT hfin Ks hC;have HCF:=ai hC;have HCo:=ai hCo;clear hb1 hb2 hF hC hCb hCo SP BO HR;have zR:Hid ((w2.alloc (.cells Z 177)).heap[w2.heap.size]?=some (.cells Z 177 (0,0))):=bG w2 Z 177;go_wp2_with (refine rW rfl 177 _ _ rfl w2.heap.size C rfl rfl 177 Z zR.out (by rw[Xo];exact ky) (by omega) HCo.o ?_)
   have HA0:Hid (((w2.alloc (.cells Z 177)).setRow w2.heap.size C).heap[w2.heap.size]?=some (.cells C 177 (0,0))):=ng _ _ _ _ 177 (0,0) zR.out;have jo:Hid (Below w.heap.size w ((w2.alloc (.cells Z 177)).setRow w2.heap.size C)):=below_setRow (fq.o.alloc fq.o.size _) fq.o.size _;have Gb:=fq.o.size;go_loopw [13] (fun t wr=>∃n:Nat,page<=(n:Int)/\(n:Int)<=page+aR/\t=I n/\(∀k:Nat,page.toNat<=k->k<n->((cW q) (F k)).2=0)/\wr.heap[w2.heap.size]?=some (.cells (oM (cM F (cW q) page n)) 177 (0,0))/\Below w.heap.size w wr) (fun t _=>(page+aR-intOf t).toNat)
   case atStart =>
    grind [oZ,Hid.o]
   case round =>
    obtain⟨n,SJ,hn3,rfl,hno,hA,hb⟩:=hrel;have HN:Hid (∀k:Nat,page.toNat<=k->k<n->((cW q) (F k)).2=0):=hno;have HA:Hid (wr.heap[w2.heap.size]?=some (.cells (oM (cM F (cW q) page n)) 177 (0,0))):=hA;have HB:Hid (Below w.heap.size w wr):=hb;by_cases hin:(n:Int)<page+aR
    · have z0:=aB hA n (tE _ n (by omega));have zf:=aJ hA;rw[sM] at z0;have Oq:(n:Int)<256:=by omega
      clear hno hA hb;have hpF:=Ks.out.fV n;obtain⟨s,hs⟩:=ex (F n);rw[<- hs] at z0 hpF;have HS:Hid (s=F n):=hs;clear hs;have hstep:Hid (∀x:dH,((cW q) s).1=x->(oM (cM F (cW q) page n)).setIfInBounds n (I (jG x))=oM (cM F (cW q) page ((n:Int)+1))):=fun x hx=>by
       unfold oM;rw[wP _ n _ (by omega),Aq (cM F (cW q) page n) n x,<- pZ F (cW q) page n SJ,<- HS.o,hx]
      by_cases hm:s.m=true
      · have hx:(jG s==0)=false:=by
         simp;intro hh;have:=(xu s hpF.1).1 hh;rw[hm] at this;cases this
        have ht:Hid (eY l page aR q=([],5)):=by
         have Bo:fh F (cW q) page.toNat aR.toNat=5:=by
          have e5:((cW q) (F n)).2=5:=by rw[<- HS.o];simp[cW,hm]
          rw[qY F (cW q) _ _ n (by omega) (by omega) HN.o (by omega),e5]
         show _=_;rw[HT.o,Bo,bl (by decide)]
        go_wp2
        go_ret2
        exact⟨Nl,by rw[ht.out];rfl,by rw[ht.out];exact dC.nil _ _,HB.o⟩
      · have hm':s.m=false:=by simpa using hm
        have hx:jG s=0:=(xu s hpF.1).2 hm';rw[hx] at z0;clear hx;go_wp2_with (first | (go_at_call 127;refine(Fe _ _ _ hqb).mono ?_;rintro e w' ⟨rfl,rfl⟩))
        go_roundw
        case rel =>
         have mj:=dG HA.o n (I (sN q true));rw[show(sN q true)=jG ⟨true,q,true⟩ from by simp[jG],hstep.out ⟨true,q,true⟩ (by simp[cW,hm'])] at mj;refine⟨n+1,by omega,by omega,by go_num,fun k h1 h2=>if e:k=n then by rw[e,<- HS.o];simp[cW,hm'] else HN.o k h1 (by omega),?_,HB.o.setCell (by omega) _⟩;rw[show((n+1:Nat):Int)=(n:Int)+1 from by omega];exact mj
        case measure=>simp[intOf];omega
    · have hend:Hid ((n:Int)=page+aR):=by show _=_;omega
      have ht:Hid (eY l page aR q=(fB (cM F (cW q) page n),0)):=by
       have Bo:fh F (cW q) page.toNat aR.toNat=0:=nK F (cW q) _ _ (fun k h1 h2=>HN.o k h1 (by omega));show _=_;rw[HT.o,Bo,bf rfl,hend.out]
      clear hno hA hb;go_wp2_with (refine ra rfl 177 _ rfl w2.heap.size rfl 177 _ (0,0) _ HA.o Tryz.underlying177 rfl (by rw[zl];exact ky) ?_)
      refine(u7 _ (hfin.out n) _).mono ?_;rintro e w4 ⟨r,rfl,hr,hb4⟩;go_wp2
      go_ret2
      exact⟨r,by rw[ht.out];rfl,by rw[ht.out];exact hr.mono HB.o.size,HB.o.trans (hb4.mono HB.o.size)⟩
 · have HT:Hid (eY l page aR q=([],jd l page aR q)):=by
    show _=_
    grind [eY,dV,jd]
   have SP:=ai (fun W hW=>um l v page aR q W hW hf hp hn);obtain⟨c,hcc⟩:=ex (jd l page aR q);rw[<- hcc] at SP hs HT;clear hcc;have hs':(c==0)=false:=by grind
   go_enter Tryz.func79,Tryz.ntmps79;go_wp2_with fail
   refine(SP.o _ h).mono ?_;rintro e w1 ⟨rfl,hb1⟩;go_wp2
   go_ret2
   exact⟨Nl,by rw[HT.o];rfl,by grind [dC.nil,Hid.o],hb1⟩
theorem U9 (k:aN) (a:fP) (sp pg n q:Int) (w:World) (hK:fT w a k) (hF:gW k) (hsp:dY sp) (wS:dY pg) (hn:dY n) :
  Calls Tryz.prog 36 #[.agg (aT a k),I sp,I pg,I n,I q] w (bN w (eG k sp (eY (ak k.aj sp.toNat).aZ pg n q)).1 [I (eG k sp (eY (ak k.aj sp.toNat).aZ pg n q)).2]):=by
 obtain⟨WA,iK⟩:=ex ((w.alloc (.cells (aT a k) 27)).alloc (.cells #[Nl,Nl,Nl,Nl,I 0] 27));have hb0:Below w.heap.size w WA:=by simp_all [aK,mq]
 have kb:WA.heap[w.heap.size]?=some (.cells (aT a k) 27 (0,0)):=by grind [bE,bG]
 have rb:WA.heap[w.heap.size+1]?=some (.cells #[Nl,Nl,Nl,Nl,I 0] 27 (0,0)):=by
  grind [bG,World.size_alloc]
 have RB:Hid (∀V,Below WA.heap.size WA V->V.heap[w.heap.size+1]?=some (.cells #[Nl,Nl,Nl,Nl,I 0] 27 (0,0))):=fun V hb=>aQ rb hb (aO rb)
 have KB:Hid (∀V,Below WA.heap.size WA V->V.heap[w.heap.size]?=some (.cells #[.slice a.aS k.aA.length a.cS,.slice a.aF k.frames.length a.cF,.slice a.aL k.slots.length a.cL,.slice a.aP k.aj.length a.cP,I k.hand] 27 (0,0))):=fun V hb=>aQ kb hb (aO kb)
 obtain⟨k0,k1,k2,k3,k4⟩:=dx (KB.o WA (aK _ _));have iG:=ai iK;have eO:=ai hb0;have hrl:=aO rb;have zE:=ai (Af k a sp WA (hK.below hb0) hF hsp);have y9:Hid (∀(V:World) (C:Int),Below w.heap.size w V->bN w cJ [I C] (.returned (.tuple #[.agg #[Nl,Nl,Nl,Nl,I 0],I C])) V):=fun V C hV=>mo _ hV
 by_cases c:dM k sp=0
 · obtain⟨hR,wR,hj,mN⟩:=jy c;obtain⟨j,Xh⟩:∃j:Nat,sp=(j:Int):=⟨sp.toNat,by omega⟩;subst Xh;rw[iu] at hj mN ⊢;rw[c] at zE;have hsm:=oC hR hF;have hcc:=hR.c;have KT:(j:Int)<(k.aj.length:Int):=by omega
   obtain⟨pb0,po0,hpo,hpl,Aw⟩:=hK.aj (by omega);obtain⟨va,ap,cp,v0,v1,v2,L3,Bn,_⟩:=Aw j hj;have oU:=L3;obtain⟨aa,ca,yt,_⟩:=L3;subst yt;have iF:∀{V:World},Below WA.heap.size WA V->Below w.heap.size w V:=fun hV=>hb0.trans (hV.mono hb0.size)
   have ZC:Hid (∀V,Below WA.heap.size WA V->V.cell? (Ad pb0 (po0+j*3+1))=some (.slice aa (ak k.aj j).aZ.length ca)):=fun V hV=>((iF hV).cell (p:=(Ad pb0 (po0+j*3+1))) hpl).trans v1
   have hfit:=(hF.sp j hj).aZ;obtain⟨rr,zy⟩:=ex (eY (ak k.aj j).aZ pg n q);have tP:Hid (∀V,Below WA.heap.size WA V->Calls Tryz.prog 79 #[.slice aa (ak k.aj j).aZ.length ca,I pg,I n,I q] V fun e w'=>∃ar nr cr,e=.returned (.tuple #[.slice ar nr cr,I rr.2])/\dC V.heap.size w' (.slice ar nr cr) rr.1/\Below V.heap.size V w'):=fun V hV=>(abJ _ _ pg n q V (oU.below (iF hV)) hfit wS hn).mono fun e w' ⟨r,h1,h2,h3⟩=>by
    obtain⟨ar,cr,er,_⟩:=aY h2;have er:r=_:=er;subst er;rw[zy];exact⟨ar,_,cr,h1,h2,h3⟩
   obtain⟨na,wh⟩:=ex ((ak k.aj j).aZ.length);rw[<- wh] at ZC tP;rw[hpo] at KB k3;by_cases ce:rr.2=0
   · rw[ce] at tP;have hbn:1<=n/\n<=255:=by
      obtain⟨_,xw,_⟩:=vV _ _ _ _ _ (show(dV (ak k.aj j).aZ pg n q (cW q)).2=0 by rw[zy] at ce;exact ce);unfold eu at xw;rw[iV] at xw;omega
     rw[Ve hR hj c (by rw[<- zy];exact ce),<- zy];have HRM:Hid (∀V,Below WA.heap.size WA V->Calls Tryz.prog 47 #[.agg #[.slice a.aS k.aA.length a.cS,.slice a.aF k.frames.length a.cF,.slice a.aL k.slots.length a.cL,.slice a.aP k.aj.length a.cP,I k.hand]] V fun e w'=>e=.returned (I (eW k.aj))/\Below V.heap.size V w'):=fun V hV=>Mj k a V (hK.below (iF hV)).aj (fun i hi=>(hR.sp hi).aZ) (by omega)
     have hrm:=tT k.aj k.aj.length;obtain⟨RM,Oa⟩:=ex (eW k.aj);have aea:0<=RM/\RM<=65025*4:=by
      rw[Oa];unfold eW;omega
     rw[<- Oa] at HRM ⊢;rw[hpo] at HRM;by_cases cr:RM+n>(k.slots.length:Int)
     · rw[bf cr];have c2:(k.slots.length:Int)<RM+n:=cr;have cZ:=ai (fun V (h:Below w.heap.size w V)=>y9.o V 8 h);obtain⟨P,hP⟩:=ex (bN w cJ [I 8]);show Calls _ _ _ _ (bN w cJ [I 8]);rw[<- hP] at cZ ⊢;unfold aT at zE iG ⊢;rw[hpo] at zE iG ⊢;clear hK hF hsp wS hn c hP iK hb0 kb rb hR mN wR hsm hcc hj y9 Aw v0 v1 v2 oU Bn hpo wh iF hfit hrm Oa cr ce zy;go_enter Tryz.func36,Tryz.ntmps36;go_upto_region 1 with fail;rw[<- iG.o];go_upto_region 2 with(go_at_call 56;refine zE.o.mono ?_;rintro e w1 ⟨rfl,hb1⟩;have cT:=ai hb1;obtain⟨k0,k1,k2,k3,k4⟩:=dx (KB.o _ hb1);clear hb1)
       go_upto_region 3 with fail;have z1:=ZC.o _ cT.o;go_upto_region 5 with(go_at_call 79;refine(tP.o _ cT.o).mono ?_;rintro e w2 ⟨ar,nr,cr,rfl,hr2,hb2⟩;have fq:=ai (cT.o.trans (hb2.mono cT.o.size));clear hr2 hb2;obtain⟨k0,k1,k2,k3,k4⟩:=dx (KB.o _ fq.o))
       have rB:=gw w2;have Bj:Hid (∀V,Below w2.heap.size w2 V->V.cell? (Ad w.heap.size 0)=some (.slice a.aS k.aA.length a.cS)/\V.cell? (Ad w.heap.size 1)=some (.slice a.aF k.frames.length a.cF)/\V.cell? (Ad w.heap.size 2)=some (.slice a.aL k.slots.length a.cL)/\V.cell? (Ad w.heap.size 3)=some (.slice (some (Ad pb0 po0)) k.aj.length a.cP)/\V.cell? (Ad w.heap.size 4)=some (I k.hand)):=fun V hV=>by
        have:=KB.o V (fq.o.trans (hV.mono fq.o.size));exact⟨aB this 0 rfl,aB this 1 rfl,aB this 2 rfl,aB this 3 rfl,aB this 4 rfl⟩
       have adv:=ai (fun V (hV:Below w2.heap.size w2 V)=>HRM.o V (fq.o.trans (hV.mono fq.o.size)));have q0:∀x:dB w2.heap.size w2,x.world.cell? (Ad w.heap.size 0)=some (.slice a.aS k.aA.length a.cS):=fun x=>(Bj.o _ x.keeps).1
       have q1:∀x:dB w2.heap.size w2,x.world.cell? (Ad w.heap.size 1)=some (.slice a.aF k.frames.length a.cF):=fun x=>(Bj.o _ x.keeps).2.1
       have q2:∀x:dB w2.heap.size w2,x.world.cell? (Ad w.heap.size 2)=some (.slice a.aL k.slots.length a.cL):=fun x=>(Bj.o _ x.keeps).2.2.1
       have q3:∀x:dB w2.heap.size w2,x.world.cell? (Ad w.heap.size 3)=some (.slice (some (Ad pb0 po0)) k.aj.length a.cP):=fun x=>(Bj.o _ x.keeps).2.2.2.1
       have q4:∀x:dB w2.heap.size w2,x.world.cell? (Ad w.heap.size 4)=some (I k.hand):=fun x=>(Bj.o _ x.keeps).2.2.2.2
       clear k0 k1 k2 k3 k4 z1;refine cD (by kernel_rfl) (by kernel_rfl) ?_
       repeat (first | go_big_quiet_step ((go_at_call 47;exact eV _ adv.o)) | quiet_step ((go_at_call 47;exact eV _ adv.o)))
       refine fR ?_;rintro _ ⟨X,rfl⟩;clear rB q0 q1 q2 q3 q4 Bj;have A7:=ai (fq.o.trans (X.keeps.mono fq.o.size));have oo:=ai (A7.o);have R1:=ai (RB.o _ oo.o);have kO:=ai (eO.o.trans (oo.o.mono eO.o.size));obtain⟨y0,y1,y2,y3,y4⟩:=dx R1.o;have f0:=aJ R1.o 0;have f1:=aJ R1.o 1;have f2:=aJ R1.o 2;have f3:=aJ R1.o 3;have f4:=aJ R1.o 4;have h5:=ai (fun V=>gY R1.o Nl Nl Nl Nl (I 0) (V:=V));go_wp2;obtain⟨r1,r2⟩:=h5.out _ rfl;obtain⟨y0,y1,y2,y3,y4⟩:=dx r1;refine bR (v:=.tuple #[.agg #[Nl,Nl,Nl,Nl,I 0],I 8]) (by simp[results,Tryz.results36,go_sem,y0,y1,y2,y3,y4]) rfl ?_;exact cZ.o _ (aH.below kO.o r2 kO.o.size (fun b e=>by omega))
     rw[bl cr];have c2:¬(k.slots.length:Int)<RM+n:=cr;obtain⟨nP,QH⟩:=ex k.aj.length;have Si:Hid (∀V,Below WA.heap.size WA V->Calls Tryz.prog 16 #[.agg (aT a k)] V fun e w'=>∃hs S aS nS cS aF nF cF aL nL cL pb cP,e=.returned (.agg #[.slice aS nS cS,.slice aF nF cF,.slice aL nL cL,.slice (some (Ad pb 0)) nP cP,I k.hand])/\dw k.aA hs/\iZ WA.heap.size w' S (bu k hs)/\(S.vS=.slice aS nS cS/\S.vF=.slice aF nF cF/\S.vL=.slice aL nL cL/\S.vP=.slice (some (Ad pb 0)) nP cP)/\(∀b,S.lab b≠.no->V.heap.size<=b)/\Below V.heap.size V w'):=fun V hV=>by
      refine(CS k a V (hK.below (iF hV)) hsm).mono fun e w' ⟨S,hs,h1,h2,h3,h4⟩=>?_
      obtain⟨pb,cP,A⟩:=h3.sp (by show 0<k.aj.length;omega);obtain⟨aS,nS,cS,eS⟩:∃b n d,S.vS=.slice b n d:=by obtain⟨b,d,e,_⟩:=aY h3.aA;exact⟨b,_,d,e⟩
      obtain⟨aF,nF,cF,eF⟩:∃b n d,S.vF=.slice b n d:=by obtain⟨b,d,e,_⟩:=aY h3.frames;exact⟨b,_,d,e⟩
      obtain⟨aL,nL,cL,eL⟩:∃b n d,S.vL=.slice b n d:=by obtain⟨b,d,e,_⟩:=aY h3.slots;exact⟨b,_,d,e⟩
      have eP:S.vP=.slice (some (Ad pb 0)) nP cP:=by rw[QH];exact A.v
      exact⟨hs,S,aS,nS,cS,aF,nF,cF,aL,nL,cL,pb,cP,by rw[h2,eS,eF,eL,eP],h1,h3.mono hV.size,⟨eS,eF,eL,eP⟩,fun b hb=>(h3.qF b hb).1,h4⟩
     obtain⟨P,hP⟩:=ex (bN w (rJ k j rr.1) [I 0]);show Calls _ _ _ _ (bN w (rJ k j rr.1) [I 0]);rw[<- hP];have HP:=ai hP;unfold aT at zE iG Si ⊢;rw[hpo] at zE iG Si ⊢;have hjn:(j:Int)<(nP:Int):=by omega
     have HJ:=ai hj;clear hK hF hsp wS hn c hP iK hb0 kb rb hR mN wR hsm hcc y9 Aw v0 v1 v2 oU Bn hpo wh iF hfit hrm Oa cr QH ce zy;go_enter Tryz.func36,Tryz.ntmps36;go_upto_region 1 with fail;rw[<- iG.o];go_upto_region 2 with(go_at_call 56;refine zE.o.mono ?_;rintro e w1 ⟨rfl,hb1⟩;have cT:=ai hb1;obtain⟨k0,k1,k2,k3,k4⟩:=dx (KB.o _ hb1);clear hb1)
     go_upto_region 3 with fail;have z1:=ZC.o _ cT.o;go_upto_region 5 with(go_at_call 79;refine(tP.o _ cT.o).mono ?_;rintro e w2 ⟨ar,nr,cr,rfl,hr2,hb2⟩;have zC:=ai hr2;have fq:=ai (cT.o.trans (hb2.mono cT.o.size));clear hr2 hb2;obtain⟨k0,k1,k2,k3,k4⟩:=dx (KB.o _ fq.o))
     have rB:=gw w2;have Bj:Hid (∀V,Below w2.heap.size w2 V->V.cell? (Ad w.heap.size 0)=some (.slice a.aS k.aA.length a.cS)/\V.cell? (Ad w.heap.size 1)=some (.slice a.aF k.frames.length a.cF)/\V.cell? (Ad w.heap.size 2)=some (.slice a.aL k.slots.length a.cL)/\V.cell? (Ad w.heap.size 3)=some (.slice (some (Ad pb0 po0)) k.aj.length a.cP)/\V.cell? (Ad w.heap.size 4)=some (I k.hand)):=fun V hV=>by
      have:=KB.o V (fq.o.trans (hV.mono fq.o.size));exact⟨aB this 0 rfl,aB this 1 rfl,aB this 2 rfl,aB this 3 rfl,aB this 4 rfl⟩
     have adv:=ai (fun V (hV:Below w2.heap.size w2 V)=>HRM.o V (fq.o.trans (hV.mono fq.o.size)));have q0:∀x:dB w2.heap.size w2,x.world.cell? (Ad w.heap.size 0)=some (.slice a.aS k.aA.length a.cS):=fun x=>(Bj.o _ x.keeps).1
     have q1:∀x:dB w2.heap.size w2,x.world.cell? (Ad w.heap.size 1)=some (.slice a.aF k.frames.length a.cF):=fun x=>(Bj.o _ x.keeps).2.1
     have q2:∀x:dB w2.heap.size w2,x.world.cell? (Ad w.heap.size 2)=some (.slice a.aL k.slots.length a.cL):=fun x=>(Bj.o _ x.keeps).2.2.1
     have q3:∀x:dB w2.heap.size w2,x.world.cell? (Ad w.heap.size 3)=some (.slice (some (Ad pb0 po0)) k.aj.length a.cP):=fun x=>(Bj.o _ x.keeps).2.2.2.1
     have q4:∀x:dB w2.heap.size w2,x.world.cell? (Ad w.heap.size 4)=some (I k.hand):=fun x=>(Bj.o _ x.keeps).2.2.2.2
     clear k0 k1 k2 k3 k4 z1;refine cD (by kernel_rfl) (by kernel_rfl) ?_
     repeat (first | go_big_quiet_step ((go_at_call 47;exact eV _ adv.o)) | quiet_step ((go_at_call 47;exact eV _ adv.o)))
     refine fR ?_;rintro _ ⟨X,rfl⟩;clear rB q0 q1 q2 q3 q4 Bj;have oo:=ai (fq.o.trans (X.keeps.mono fq.o.size));have HXX:Hid (Below w2.heap.size w2 X.world):=X.keeps;clear adv HRM;obtain⟨WX,N9⟩:=ex X.world;rw[<- N9] at oo HXX ⊢;clear N9;obtain⟨k0,k1,k2,k3,k4⟩:=dx (KB.o _ oo.o);go_upto_region 10 with(go_at_call 16;refine(Si.o _ oo.o).mono ?_;rintro e w4 ⟨hs,S,aS,nS,cS,aF,nF,cF,aL,nL,cL,pb,cP,rfl,hs2,hk2,hv2,II,hb4⟩;have qd:=ai hs2;have pH:=ai hk2;have HVV:=ai hv2;have pq:=ai II;have QK:=ai hb4;have kO:=ai (oo.o.trans (hb4.mono oo.o.size));clear hs2 hk2 hv2 II hb4)
     have E6:Hid (bQ WA.heap.size w4.heap.size 27 [] (w4.alloc (.cells #[.slice aS nS cS,.slice aF nF cF,.slice aL nL cL,.slice (some (Ad pb 0)) nP cP,I k.hand] 27)) ⟨fun b=>if b=w4.heap.size then .head else S.lab b,S.vS,S.vF,S.vL,S.vP,S.L⟩ (bu k hs)):=by
      have:=CU pH.o kO.o.size;obtain⟨v1,v2,v3,v4⟩:=HVV.o;rw[v1,v2,v3,v4] at this ⊢;exact this
     have ym:=ai (kO.o.alloc kO.o.size (.cells #[.slice aS nS cS,.slice aF nF cF,.slice aL nL cL,.slice (some (Ad pb 0)) nP cP,I k.hand] 27));have Y8:Hid (dC WA.heap.size (w4.alloc (.cells #[.slice aS nS cS,.slice aF nF cF,.slice aL nL cL,.slice (some (Ad pb 0)) nP cP,I k.hand] 27)) (.slice ar nr cr) rr.1):=by
      have h1:Below w2.heap.size w2 (w4.alloc (.cells #[.slice aS nS cS,.slice aF nF cF,.slice aL nL cL,.slice (some (Ad pb 0)) nP cP,I k.hand] 27)):=(HXX.o.trans (QK.o.mono HXX.o.size)).alloc (gJ HXX.o.size QK.o.size) _;have h2:=aH.row (aH.b7 (D:=fun _=>False) h1) zC.o (fun _ _ g=>g);exact lu h2 (fun g hg=>gJ cT.o.size (zC.o.lt g hg).1)
     have Kz:Hid (∀b,bI (.slice ar nr cr) b->b<w4.heap.size/\S.lab b=.no):=fun b hb=>by
      have g1:=(zC.o.lt b hb).2;have g2:=HXX.o.size;have g3:=QK.o.size;exact⟨by omega,pK.1 fun x=>by have:=pq.o b x;omega⟩
     have DV:Hid (bQ WA.heap.size w4.heap.size 27 [] ((w4.alloc (.cells #[.slice aS nS cS,.slice aF nF cF,.slice aL nL cL,.slice (some (Ad pb 0)) nP cP,I k.hand] 27)).setCell (Ad pb (j*3+1)) (.slice ar nr cr)) ⟨si ⟨fun b=>if b=w4.heap.size then .head else S.lab b,S.vS,S.vF,S.vL,S.vP,S.L⟩ j (.slice ar nr cr),S.vS,S.vF,S.vL,S.vP,S.L.set j ⟨(cA S.L j).lv,.slice ar nr cr,(cA S.L j).vp⟩⟩ (bu (rJ k j rr.1) hs)/\aH (fun b=>(if b=w4.heap.size then iH.head else S.lab b)≠.no) (w4.alloc (.cells #[.slice aS nS cS,.slice aF nF cF,.slice aL nL cL,.slice (some (Ad pb 0)) nP cP,I k.hand] 27)) ((w4.alloc (.cells #[.slice aS nS cS,.slice aF nF cF,.slice aL nL cL,.slice (some (Ad pb 0)) nP cP,I k.hand] 27)).setCell (Ad pb (j*3+1)) (.slice ar nr cr))):=E6.o.ad1 HJ.o HVV.o.2.2.2 Y8.o (fun b hb=>by
      have:=Kz.o b hb;show(if b=w4.heap.size then iH.head else S.lab b)=.no;rw[bl (by omega)];exact this.2)
     have Y4:Hid (∀b,bI (.slice ar nr cr) b->(if b=w4.heap.size then iH.head else S.lab b)=.no):=fun b hb=>by
      have:=Kz.o b hb;rw[bl (by omega)];exact this.2
     obtain⟨SA,hSA⟩:∃SA:dN,SA=⟨si ⟨fun b=>if b=w4.heap.size then .head else S.lab b,S.vS,S.vF,S.vL,S.vP,S.L⟩ j (.slice ar nr cr),S.vS,S.vF,S.vL,S.vP,S.L.set j ⟨(cA S.L j).lv,.slice ar nr cr,(cA S.L j).vp⟩⟩:=⟨_,rfl⟩;rw[<- hSA] at DV;have HVA:Hid (SA.vS=.slice aS nS cS/\SA.vF=.slice aF nF cF/\SA.vL=.slice aL nL cL/\SA.vP=.slice (some (Ad pb 0)) nP cP):=by rw[hSA];omega
     have gK:Hid (Below WA.heap.size WA ((w4.alloc (.cells #[.slice aS nS cS,.slice aF nF cF,.slice aL nL cL,.slice (some (Ad pb 0)) nP cP,I k.hand] 27)).setCell (Ad pb (j*3+1)) (.slice ar nr cr))):=aH.below ym.o DV.o.2 ym.o.size (fun b hb=>(E6.o.qF b hb).1);have m3:(w4.alloc (.cells #[.slice aS nS cS,.slice aF nF cF,.slice aL nL cL,.slice (some (Ad pb 0)) nP cP,I k.hand] 27)).cell? (Ad w4.heap.size 3)=some (.slice (some (Ad pb 0)) nP cP):=by
      have h:=E6.o.c3;have e:S.vP=_:=HVV.o.2.2.2;rw[show(dN.vP ⟨fun b=>if b=w4.heap.size then .head else S.lab b,S.vS,S.vF,S.vL,S.vP,S.L⟩)=S.vP from rfl,e] at h;exact h
     obtain⟨GV,ZX,A⟩:=E6.o.toiZ.sp (by show 0<k.aj.length;omega);obtain rfl:pb=GV:=by have ev:=HVV.o.2.2.2.symm.trans A.v;simp at ev;omega
     have x1:=A.x1 j HJ.o;have f1:=A.fz (j*3+1);have x2:=A.x2 j HJ.o;have f2:=A.fz (j*3+2);have hpn:¬w4.heap.size=pb:=fun e=>by have h1:=E6.o.lH;have h2:=A.lab;rw[<- e,h1] at h2;cases h2
     obtain⟨W4,L8⟩:=ex (w4.alloc (.cells #[.slice aS nS cS,.slice aF nF cF,.slice aL nL cL,.slice (some (Ad pb 0)) nP cP,I k.hand] 27));obtain⟨mb,hmb⟩:=ex w4.heap.size;rw[<- L8] at E6 ym Y8 DV gK m3 x1 f1 x2 f2 ⊢;rw[<- hmb] at E6 DV m3 hpn Y4 ⊢;clear L8 hmb kO pH A QK pq Kz;obtain⟨v1a,hx1⟩:∃v,v=(cA (dN.L ⟨fun b=>if b=mb then iH.head else S.lab b,S.vS,S.vF,S.vL,S.vP,S.L⟩) j).va:=⟨_,rfl⟩
     try rw[<- hx1] at x1
     clear hx1 hSA x2 f2;go_upto_region 11 with fail;obtain⟨W5,Oz⟩:=ex (W4.setCell (Ad pb (j*3+1)) (.slice ar nr cr));rw[<- Oz] at DV gK ⊢;clear Oz m3 x1 f1;obtain⟨v1,v2,v3,v4⟩:=HVA.o;have jn:=DV.o.1;have c0:=jn.c0;have c1:=jn.c1;have c3:=jn.c2;have c5:=jn.c3;have c4:=jn.c4;rw[v1] at c0;rw[v2] at c1;rw[v3] at c3;rw[v4] at c5;replace c4:W5.cell? (Ad mb 4)=some (I k.hand):=c4;have R3:=ai (RB.o _ gK.o);obtain⟨y0,y1,y2,y3,y4⟩:=dx R3.o;have f0:=aJ R3.o 0;have f1:=aJ R3.o 1;have f2:=aJ R3.o 2;have f3:=aJ R3.o 3;have f4:=aJ R3.o 4;have h5:=ai (fun V=>gY R3.o (.slice aS nS cS) (.slice aF nF cF) (.slice aL nL cL) (.slice (some (Ad pb 0)) nP cP) (I k.hand) (V:=V));have qN:Hid (∀U,aH (fun b=>b=w.heap.size+1) W5 U->bN w (rJ k j rr.1) [I 0] (.returned (.tuple #[.agg #[.slice aS nS cS,.slice aF nF cF,.slice aL nL cL,.slice (some (Ad pb 0)) nP cP,I k.hand],I 0])) U):=fun U hU=>by
      have iF:Below w.heap.size w W5:=eO.o.trans (gK.o.mono eO.o.size);refine⟨SA,hs,qd.o,by rw[v1,v2,v3,v4];rfl,(DV.o.1.toiZ.kp hU (fun b hb e=>by have:=(DV.o.1.qF b hb).1;omega)).mono eO.o.size,aH.below iF hU iF.size (fun b e=>by omega)⟩
     clear v1 v2 v3 v4 jn;go_wp2;obtain⟨r1,r2⟩:=h5.out _ rfl;obtain⟨y0,y1,y2,y3,y4⟩:=dx r1;refine bR (v:=.tuple #[.agg #[.slice aS nS cS,.slice aF nF cF,.slice aL nL cL,.slice (some (Ad pb 0)) nP cP,I k.hand],I 0]) (by simp[results,Tryz.results36,go_sem,y0,y1,y2,y3,y4]) rfl ?_;rw[HP.o];exact qN.o _ r2
   · rw[CV c (by rw[<- zy];exact ce),<- zy];obtain⟨C,hC⟩:=ex rr.2;rw[<- hC] at tP ce ⊢;have cb:(C != 0)=true:=by simpa using ce
     have cz:(C==0)=false:=by simpa using ce
     have cZ:=ai (fun V (h:Below w.heap.size w V)=>y9.o V C h);obtain⟨P,hP⟩:=ex (bN w cJ [I C]);show Calls _ _ _ _ (bN w cJ [I C]);rw[<- hP] at cZ ⊢;unfold aT at zE iG ⊢;rw[hpo] at zE iG ⊢;clear hK hF hsp wS hn c hP iK hb0 kb rb hR mN wR hsm hcc hj y9 Aw v0 v1 v2 oU Bn hpo wh iF hfit zy hC;go_enter Tryz.func36,Tryz.ntmps36;go_upto_region 1 with fail;rw[<- iG.o];go_upto_region 2 with(go_at_call 56;refine zE.o.mono ?_;rintro e w1 ⟨rfl,hb1⟩;have cT:=ai hb1;obtain⟨k0,k1,k2,k3,k4⟩:=dx (KB.o _ hb1);clear hb1)
     go_upto_region 3 with fail;have z1:=ZC.o _ cT.o;go_upto_region 5 with(go_at_call 79;refine(tP.o _ cT.o).mono ?_;rintro e w2 ⟨ar,nr,cr,rfl,hr2,hb2⟩;have fq:=ai (cT.o.trans (hb2.mono cT.o.size));clear hr2 hb2;obtain⟨k0,k1,k2,k3,k4⟩:=dx (KB.o _ fq.o))
     have rB:=gw w2;have Bj:Hid (∀V,Below w2.heap.size w2 V->V.cell? (Ad w.heap.size 0)=some (.slice a.aS k.aA.length a.cS)/\V.cell? (Ad w.heap.size 1)=some (.slice a.aF k.frames.length a.cF)/\V.cell? (Ad w.heap.size 2)=some (.slice a.aL k.slots.length a.cL)/\V.cell? (Ad w.heap.size 3)=some (.slice (some (Ad pb0 po0)) k.aj.length a.cP)/\V.cell? (Ad w.heap.size 4)=some (I k.hand)):=fun V hV=>by
      have:=KB.o V (fq.o.trans (hV.mono fq.o.size));exact⟨aB this 0 rfl,aB this 1 rfl,aB this 2 rfl,aB this 3 rfl,aB this 4 rfl⟩
     clear k0 k1 k2 k3 k4 z1;refine cD (by kernel_rfl) (by kernel_rfl) ?_
     repeat (first | go_big_quiet_step (fail) | quiet_step (fail))
     refine fR ?_;rintro _ ⟨X,rfl⟩;clear rB Bj;have A7:=ai (fq.o.trans (X.keeps.mono fq.o.size));have oo:=ai (A7.o);have R1:=ai (RB.o _ oo.o);have kO:=ai (eO.o.trans (oo.o.mono eO.o.size));obtain⟨y0,y1,y2,y3,y4⟩:=dx R1.o;have f0:=aJ R1.o 0;have f1:=aJ R1.o 1;have f2:=aJ R1.o 2;have f3:=aJ R1.o 3;have f4:=aJ R1.o 4;have h5:=ai (fun V=>gY R1.o Nl Nl Nl Nl (I 0) (V:=V));go_wp2;obtain⟨r1,r2⟩:=h5.out _ rfl;obtain⟨y0,y1,y2,y3,y4⟩:=dx r1;refine bR (v:=.tuple #[.agg #[Nl,Nl,Nl,Nl,I 0],I C]) (by simp[results,Tryz.results36,go_sem,y0,y1,y2,y3,y4]) rfl ?_;exact cZ.o _ (aH.below kO.o r2 kO.o.size (fun b e=>by omega))
 · rw[AU c];obtain⟨C,hC⟩:=ex (dM k sp);rw[<- hC] at zE c ⊢;have cb:(C != 0)=true:=by grind
   have cz:(C==0)=false:=by grind
   have cZ:=ai (fun V (h:Below w.heap.size w V)=>y9.o V C h);obtain⟨P,hP⟩:=ex (bN w cJ [I C]);show Calls _ _ _ _ (bN w cJ [I C]);rw[<- hP] at cZ ⊢;unfold aT at zE iG ⊢;clear hK hF hsp wS hn hC hP iK hb0 kb rb y9;go_enter Tryz.func36,Tryz.ntmps36;go_upto_region 1 with fail;rw[<- iG.o];go_upto_region 2 with(go_at_call 56;refine zE.o.mono ?_;rintro e w1 ⟨rfl,hb1⟩;have cT:=ai hb1;clear hb1)
   go_upto_region 5 with fail;have rB:=gw w1;have Bj:Hid (∀V,Below w1.heap.size w1 V->V.cell? (Ad w.heap.size 0)=some (.slice a.aS k.aA.length a.cS)/\V.cell? (Ad w.heap.size 1)=some (.slice a.aF k.frames.length a.cF)/\V.cell? (Ad w.heap.size 2)=some (.slice a.aL k.slots.length a.cL)/\V.cell? (Ad w.heap.size 3)=some (.slice a.aP k.aj.length a.cP)/\V.cell? (Ad w.heap.size 4)=some (I k.hand)):=fun V hV=>by
    have:=KB.o V (cT.o.trans (hV.mono cT.o.size));exact⟨aB this 0 rfl,aB this 1 rfl,aB this 2 rfl,aB this 3 rfl,aB this 4 rfl⟩
   clear k0 k1 k2 k3 k4;refine cD (by kernel_rfl) (by kernel_rfl) ?_
   repeat (first | go_big_quiet_step (fail) | quiet_step (fail))
   refine fR ?_;rintro _ ⟨X,rfl⟩;clear rB Bj;have A7:=ai (cT.o.trans (X.keeps.mono cT.o.size));have oo:=ai (A7.o);have R1:=ai (RB.o _ oo.o);have kO:=ai (eO.o.trans (oo.o.mono eO.o.size));obtain⟨y0,y1,y2,y3,y4⟩:=dx R1.o;have f0:=aJ R1.o 0;have f1:=aJ R1.o 1;have f2:=aJ R1.o 2;have f3:=aJ R1.o 3;have f4:=aJ R1.o 4;have h5:=ai (fun V=>gY R1.o Nl Nl Nl Nl (I 0) (V:=V));go_wp2;obtain⟨r1,r2⟩:=h5.out _ rfl;obtain⟨y0,y1,y2,y3,y4⟩:=dx r1;refine bR (v:=.tuple #[.agg #[Nl,Nl,Nl,Nl,I 0],I C]) (by simp[results,Tryz.results36,go_sem,y0,y1,y2,y3,y4]) rfl ?_;exact cZ.o _ (aH.below kO.o r2 kO.o.size (fun b e=>by omega))
theorem Qw (l:List bc) (v:Value) (page aR q:Int) (w:World) (h:eU w v l) (hf:ed l) (hp:nW page) (hn:nW aR) :
  Calls Tryz.prog 82 #[v,I page,I aR,I q] w fun e w'=>∃r,e=.returned (.tuple #[r,I (cK l page aR q).2])/\dC w.heap.size w' r (cK l page aR q).1/\Below w.heap.size w w':=by
 by_cases hs:jd l page aR q=0
 · have hall:br l=0/\eu page aR=true/\gQ q=true:=by
    grind [jd]
   obtain⟨hc,xw,Zz⟩:=hall;have HT:Hid (cK l page aR q=if fh (cu l) (bO q) page.toNat aR.toNat=0 then (fB (cM (cu l) (bO q) page (page+aR)),0) else ([],fh (cu l) (bO q) page.toNat aR.toNat)):=by
    show _=_;grind [cK,dV]
   have hpb:=(iW page aR).1 xw;have hqb:=(xt q).1 Zz;have hfin:Hid (∀t,kE (cM (cu l) (bO q) page t)):=fun t=>DJ l page t q hc (by omega) hqb
   have Ks:Hid (kE (cu l)):=oO l hc;have xI:=sP l l.length (p7 l hc);have hlen:=kg l hc;have SP:=ai (fun W hW=>um l v page aR q W hW hf hp hn);rw[hs] at SP;have BO:=ai (fun W hW=>uZ l v W hW xI.1 hlen);rw[xI.2] at BO;have HR:=ai xI.2;obtain⟨Z,hZ⟩:=ex (iE (fun _=>0));have hz:=F8;rw[<- hZ] at hz;have hZs:Z.size=256:=by grind [oP]
   clear hZ hs hc xw Zz xI hlen;go_enter Tryz.func82,Tryz.ntmps82;go_wp2_with fail
   refine(SP.o _ h).mono ?_;rintro e w1 ⟨rfl,hb1⟩;go_wp2_with fail
   refine(BO.o _ (h.below hb1)).mono ?_;rintro e w2 ⟨C,rfl,hBd,hb2⟩;have fq:Hid (Below w.heap.size w w2):=hb1.trans (hb2.mono hb1.size);obtain⟨F,hF⟩:=ex (cu l);obtain⟨Xo,hCo,hCb⟩:=hBd;have hC:=hCb HR.o;rw[<- hF] at HT hfin Ks hC;have HCF:=ai hC;have HCo:=ai hCo;clear hb1 hb2 hF hC hCb hCo SP BO HR;have zR:Hid ((w2.alloc (.cells Z 177)).heap[w2.heap.size]?=some (.cells Z 177 (0,0))):=bG w2 Z 177;go_wp2_with (refine rW rfl 177 _ _ rfl w2.heap.size C rfl rfl 177 Z zR.out (by rw[Xo];exact ky) (by omega) HCo.o ?_)
   have HA0:Hid (((w2.alloc (.cells Z 177)).setRow w2.heap.size C).heap[w2.heap.size]?=some (.cells C 177 (0,0))):=ng _ _ _ _ 177 (0,0) zR.out;have jo:Hid (Below w.heap.size w ((w2.alloc (.cells Z 177)).setRow w2.heap.size C)):=below_setRow (fq.o.alloc fq.o.size _) fq.o.size _;have Gb:=fq.o.size;go_loopw [13] (fun t wr=>∃n:Nat,page<=(n:Int)/\(n:Int)<=page+aR/\t=I n/\(∀k:Nat,page.toNat<=k->k<n->((bO q) (F k)).2=0)/\wr.heap[w2.heap.size]?=some (.cells (oM (cM F (bO q) page n)) 177 (0,0))/\Below w.heap.size w wr) (fun t _=>(page+aR-intOf t).toNat)
   case atStart =>
    grind [oZ,Hid.o]
   case round =>
    obtain⟨n,SJ,hn3,rfl,hno,hA,hb⟩:=hrel;have HN:Hid (∀k:Nat,page.toNat<=k->k<n->((bO q) (F k)).2=0):=hno;have HA:Hid (wr.heap[w2.heap.size]?=some (.cells (oM (cM F (bO q) page n)) 177 (0,0))):=hA;have HB:Hid (Below w.heap.size w wr):=hb;by_cases hin:(n:Int)<page+aR
    · have z0:=aB hA n (tE _ n (by omega));have zf:=aJ hA;rw[sM] at z0;have Oq:(n:Int)<256:=by omega
      clear hno hA hb;have hpF:=Ks.out.fV n;obtain⟨s,hs⟩:=ex (F n);rw[<- hs] at z0 hpF;have HS:Hid (s=F n):=hs;clear hs;have hstep:Hid (∀x:dH,((bO q) s).1=x->(oM (cM F (bO q) page n)).setIfInBounds n (I (jG x))=oM (cM F (bO q) page ((n:Int)+1))):=fun x hx=>by
       unfold oM;rw[wP _ n _ (by omega),Aq (cM F (bO q) page n) n x,<- pZ F (bO q) page n SJ,<- HS.o,hx]
      by_cases hm:s.m=true
      · have hz8:decide (8<jG s)=s.z:=by
         unfold jG sN;rw[hm];cases s.z <;> simp <;> omega
        have hx:(jG s==0)=false:=by
         simp;intro hh;have:=(xu s hpF.1).1 hh;rw[hm] at this;cases this
        obtain⟨x,hxe⟩:=ex (jG s);rw[<- hxe] at z0 hx hz8;clear hxe;go_wp2_with (first | (go_at_call 127;refine(Fe _ _ _ hqb).mono ?_;rintro e w' ⟨rfl,rfl⟩))
        go_roundw
        case rel =>
         have mj:=dG HA.o n (I (sN q s.z));rw[show(sN q s.z)=jG ⟨true,q,s.z⟩ from by simp[jG],hstep.out ⟨true,q,s.z⟩ (by simp[bO,hm])] at mj;refine⟨n+1,by omega,by omega,by go_num,fun k h1 h2=>if e:k=n then by rw[e,<- HS.o];simp[bO,hm] else HN.o k h1 (by omega),?_,HB.o.setCell (by omega) _⟩;rw[show((n+1:Nat):Int)=(n:Int)+1 from by omega];exact mj
        case measure=>simp[intOf];omega
      · have hm':s.m=false:=by simpa using hm
        have hx:jG s=0:=(xu s hpF.1).2 hm';rw[hx] at z0;clear hx;have ht:Hid (cK l page aR q=([],6)):=by
         have Bo:fh F (bO q) page.toNat aR.toNat=6:=by
          have e5:((bO q) (F n)).2=6:=by rw[<- HS.o];simp[bO,hm]
          rw[qY F (bO q) _ _ n (by omega) (by omega) HN.o (by omega),e5]
         show _=_;rw[HT.o,Bo,bl (by decide)]
        go_wp2
        go_ret2
        exact⟨Nl,by rw[ht.out];rfl,by rw[ht.out];exact dC.nil _ _,HB.o⟩
    · have hend:Hid ((n:Int)=page+aR):=by show _=_;omega
      have ht:Hid (cK l page aR q=(fB (cM F (bO q) page n),0)):=by
       have Bo:fh F (bO q) page.toNat aR.toNat=0:=nK F (bO q) _ _ (fun k h1 h2=>HN.o k h1 (by omega));show _=_;rw[HT.o,Bo,bf rfl,hend.out]
      clear hno hA hb;go_wp2_with (refine ra rfl 177 _ rfl w2.heap.size rfl 177 _ (0,0) _ HA.o Tryz.underlying177 rfl (by rw[zl];exact ky) ?_)
      refine(u7 _ (hfin.out n) _).mono ?_;rintro e w4 ⟨r,rfl,hr,hb4⟩;go_wp2
      go_ret2
      exact⟨r,by rw[ht.out];rfl,by rw[ht.out];exact hr.mono HB.o.size,HB.o.trans (hb4.mono HB.o.size)⟩
 · have HT:Hid (cK l page aR q=([],jd l page aR q)):=by
    show _=_
    grind [cK,dV,jd]
   have SP:=ai (fun W hW=>um l v page aR q W hW hf hp hn);obtain⟨c,hcc⟩:=ex (jd l page aR q);rw[<- hcc] at SP hs HT;clear hcc;have hs':(c==0)=false:=by grind
   go_enter Tryz.func82,Tryz.ntmps82;go_wp2_with fail
   refine(SP.o _ h).mono ?_;rintro e w1 ⟨rfl,hb1⟩;go_wp2
   go_ret2
   exact⟨Nl,by rw[HT.o];rfl,by grind [dC.nil,Hid.o],hb1⟩
end Go.Proofs.YtpgifpeohlllfaaGreat
end Go.Proofs.YtpgifpeohlllfaaGreat
