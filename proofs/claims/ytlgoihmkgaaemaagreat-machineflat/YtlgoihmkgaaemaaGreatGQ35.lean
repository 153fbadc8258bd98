import Derived.Test.YtlgoihmkgaaemaaGreatGQ34
set_option maxHeartbeats 20000000
set_option linter.unusedVariables false
set_option maxRecDepth 100000
set_option linter.unusedSimpArgs false
namespace Go.Proofs.YtlgoihmkgaaemaaGreat
open Go.RowKit Tryz
structure afO (l:List aX) (hs:List bC):Prop where
 check:bj l=0
 plain:∀p,(aV l p).2=true->(aV l p).1.zero=false
 aD:hs.map (·.page)=cI l
 lq:iG hs=true
 fine:∀s∈hs,cY s=true
 few:hs.length<=255
variable {l:List aX} {hs:List bC} {nf ns:Int}
theorem YX (p:Int) (hs:List bC):(je hs p).isSome=true↔p∈hs.map (·.page):=by
 unfold je;rw[List.find?_isSome];simp
theorem afO.apr (h:afO l hs) {p:Int} (hp:(aV l p).2=true):(je hs p).isSome=true:=by
 rw[YX,h.aD];exact(fP h.check).2 hp
theorem PA (l:List aX) (kd a:Int):bU [⟨true,l,[]⟩] kd a=[]:=rfl
theorem YY (h:afO l hs) (h3:3<=nf) (h64:nf<=64) (h0:0<=ns) (h5:ns<=512) (ht:bf l<=ns):aW (pj l hs nf ns):=by
 have ef:(pj l hs nf ns).frames.length=nf.toNat:=xu;have es:(pj l hs nf ns).slots.length=ns.toNat:=xu;refine⟨?_,h.lq,⟨by show(0:Int)<=0;omega,by rw[ef];show(0:Int)<_;omega⟩,λs hs'=>?_,?_,λi hi=>?_,λi hi=>?_⟩
 . unfold pB;rw[ef,es];exact fD ⟨ω,ω,⟨aK 1,by show 1<=4;omega⟩,h.few⟩
 . have e:s=⟨true,l,[]⟩:=by simpa [pj] using hs'
   subst e;exact⟨λx=>(by cases x),h.check,List.Pairwise.nil,λe he=>(by cases he),λp hp _=>h.apr hp⟩
 . rw[es];show(0:Int)+bf l<=_;omega
 . show nz _ (bU [⟨true,l,[]⟩] 1 i) (aM (List.replicate nf.toNat fN) i);rw[PA,show aM (List.replicate nf.toNat fN) i=fN by unfold aM;grind];exact⟨rfl,λ_=>rfl,λx hx=>(by cases hx),λx=>absurd rfl x,λ_ x hx=>(by cases hx)⟩
 show qC (bU [⟨true,l,[]⟩] 2 i) (bI (List.replicate ns.toNat jm) i);rw[PA,show bI (List.replicate ns.toNat jm) i=jm by unfold bI;grind];exact⟨rfl,λ_=>rfl,λx hx=>(by cases hx),λx=>absurd rfl x⟩
theorem JN (p:Int):∀hs:List bC,(∀s∈hs,cY s=true)->cR p (hs.map λs=>⟨s.page,(jE s).1⟩)=(je hs p).map ud
 | [],_=>rfl
 | s::r,h=>by
  have ih:=JN p r (λx hx=>h x (Gp _ hx));have e:(jE s).1=ud s:=by unfold jE;rw[aC (h s Gs)]
  unfold je at ih ⊢;simp only[Cf,cR,List.find?_cons,e];by_cases c:s.page=p
  . simp[c]
  simp[c,ih]
theorem aib (h:afO l hs) (h0:0<=ns):dD (pj l hs nf ns)=gj ⟨ns,[⟨true,l,hs.map λs=>⟨s.page,(jE s).1⟩⟩]⟩:=by
 have es:((pj l hs nf ns).slots.length:Int)=ns:=by show((List.replicate ns.toNat jm).length:Int)=ns;rw[xu];omega
 have ea:mR (pj l hs nf ns) 0=y8 ⟨true,l,hs.map λs=>⟨s.page,(jE s).1⟩⟩:=by
  show(⟨true,l,mi l (b7 (pj l hs nf ns) 0)⟩:vC)=⟨true,l,mi l (pG (hs.map λs=>⟨s.page,(jE s).1⟩))⟩;congr 1;funext p;unfold mi;by_cases c:(aV l p).2=true
  . rw[aC c,aC c];unfold pG;rw[JN p hs h.fine];show gz hs p (aV l p).1.zero=_;unfold gz fG;rw[h.plain p c];obtain⟨s,e⟩:=NQ.1 (h.apr c);rw[e];rfl
  rw[aB c,aB c]
 unfold dD gj;rw[es];show(⟨ns,[mR (pj l hs nf ns) 0]⟩:zJ)=_;rw[ea];rfl
open Go.RowKit
theorem acD (p:Int):∀n,jT p n=(List.range n).map (λm:Nat=>p+(m:Int)):=λn=>by
 induction n with
 | zero=>rfl
 | succ n ih=>rw[vE,ih,NM,tF];rfl
theorem afF (l:List aX):lW l=cI l:=by
 have:∀n,n<=l.length->fK l n=iV l n:=λn=>by
  induction n with
  | zero=>intro _;unfold iV;rfl
  | succ n ih =>
   intro h;rw[xL l n ω,<- ih ω,acD];rfl
 unfold lW;rw[this l.length (aK _)];unfold iV;rw[qJ]
theorem afG {l:List aX} {hs:List bC} {en:Int} (h:gU l hs en=0):afO l hs:=by
 obtain⟨r1,r2,r3⟩:=LN h;have hp:hs.map (·.page)=cI l:=by
  unfold gU at h;rw[aC r1] at h;rw[<- afF];have:jD l hs=true:=by grind
  exact jY this
 have b:Cq l hs hs.length=true:=by
  rw[LI] at h;unfold KQ at h;rw[aC r1] at h
  grind
 refine⟨r1,λp c=>?_,hp,r2,λs hs'=>?_,?_⟩
 . have hm:p∈hs.map (·.page):=by rw[hp];exact(fP r1).2 c
   obtain⟨k,hk,e⟩:=QD hs p hm;have hi:=GI l hs hs.length b k hk;unfold GJ at hi;rw[e] at hi;have:aV l p=b6 l p:=by
    unfold aV at c ⊢
    grind
   rw[this]
   grind
 . obtain⟨k,hk,e⟩:=aa4 hs';have:=(tN hs hs.length r2 k hk).1;rw[show bk hs k=s by rw[<- e];unfold bk;grind] at this;exact this
 have e:hs.length=(cI l).length:=by rw[<- hp,fI]
 have s1:=Bz.sorted (nZ r1);have:=oK (jT 1 255) (cI l) s1 (xk _ _) (λx hx=>(sF _ _ _).2 (by have:=E9 r1 hx;omega));rw[AE] at this;omega
def vA (A:zJ) (i:Nat) (p:Int):ByteArray×Int:=if (aV (ia A.DX i).aJ p).2=true then ((ia A.DX i).pg p,0) else (⟨#[]⟩,6)
theorem aan {l:List vC} {i:Nat} (h:¬i<l.length):ia l i=Hj:=by unfold ia;grind
theorem Hh (p:Int):(aV ([]:List aX) p).2=false:=Sm p
theorem acG {k:aT} (h:aW k) (i:Nat) (p:Int):qw k (i:Int) p=vA (dD k) i p:=by
 have hc:gu k=0:=(qa k).2 h;unfold qw vA;by_cases c:i<k.aj.length
 . rw[qU c];by_cases l:(ak k.aj i).live=true
   . have e:dw k (i:Int)=0:=by
      unfold dw;rw[aC hc,aC ⟨ω,ω,by rw[jW];exact l⟩]
     rw[aC e,jW];show _=if (aV (dX k i) p).2=true then (mi (dX k i) (b7 k i) p,0) else _
     unfold dX mi;by_cases z:(aV (ak k.aj i).aJ p).2=true
     . rw[aC z,aC z,aC z]
     rw[aB z,aB z]
   have e:dw k (i:Int)=6:=by
    unfold dw;rw[aC hc,aB (λx=>l (by have:=x.2.2;rw[jW] at this;exact this))]
   have ha:(ak k.aj i).aJ=[]:=((h.sp c).dead (by simpa using l)).1;rw[e,aB Δ];show _=if (aV (ak k.aj i).aJ p).2=true then _ else _
   rw[ha,Hh,aB ξ]
 have e:dw k (i:Int)=6:=by
  unfold dw;rw[aC hc,aB (λx=>c ω)]
 rw[e,aB Δ,aan (by rw[su];exact c)];show _=if (aV ([]:List aX) p).2=true then _ else _
 rw[Hh,aB ξ]
theorem acH {f:ky} {fl:List Bool} (hc:fQ f=0) (h:kY ⟨f.slots,f.aj⟩ fl) (i:Nat) (p:Int):F6 f (i:Int) p=vA (gj ⟨f.slots,f.aj⟩) i p:=by
 unfold F6 vA;rw[aC hc];by_cases c:i<f.aj.length
 . rw[aC ⟨ω,ω⟩,jW,sA (m:=⟨f.slots,f.aj⟩) c];show _=if (aV (aI f.aj i).aJ p).2=true then (mi (aI f.aj i).aJ (pG (aI f.aj i).aD) p,0) else _
   unfold mi pG;have hs:=h.each i c;by_cases l:(aI f.aj i).live=true
   . have F:=PB (lJ hs l) p;by_cases z:(aV (aI f.aj i).aJ p).2=true
     . rw[aC z,aC z];obtain⟨x,e⟩:=NQ.1 (F.2 z);rw[e];rfl
     rw[aB z,Wz (lJ hs l) z]
   unfold bW at hs;rw[aB l,cK,fX,fX] at hs;rw[o9 hs.1,o9 hs.2,Hh,aB ξ];rfl
 rw[aB (λx=>c ω),aan (by show ¬i<(f.aj.map y8).length;rw[fI];exact c)];show _=if (aV ([]:List aX) p).2=true then _ else _
 rw[Hh,aB ξ]
variable {k:aT} {fl:List Bool} {j:Nat} {hs:List bC}
structure acB (hs:List bC) (k:aT) (fl:List Bool):Prop where
 ok:fO k fl
 same:cZ k.aR hs
theorem acy (h:fO k fl) (hk:fl.getD j false=true) (a n way:Int):(iu k j a n way).2.aR=k.aR:=by
 obtain⟨hj,hl⟩:=h.at_ hk;by_cases c:1<=n/\n<=8
 . by_cases g:(bB (dX k j) a n way).1=0
   . rw[tC c.1 c.2 g];obtain⟨m1,m2,_⟩:=nO c.1 c.2 g;exact(rD h.right hj a n way m1 m2).kept.aR
   rw[vB c.1 c.2 g]
 rw[JP c]
theorem acx (h:fO k fl) (hk:fl.getD j false=true) (s:cZ k.aR hs) (a n way:Int) (h1:1<=n) (h8:n<=8):iu (aY k hs) j a n way=((iu k j a n way).1,aY (iu k j a n way).2 hs):=by
 obtain⟨hj,hl⟩:=h.at_ hk;by_cases g:(bB (dX k j) a n way).1=0
 . obtain⟨m1,m2,_⟩:=nO h1 h8 g;have e:rG (aY k hs) j a n way=rG k j a n way:=by
    rw[zR h.right hj a n way m1 m2,zR (h.right.CZ s) hj a n way m1 m2];congr 1;funext p;exact EZ s j p
   rw[tC h1 h8 g,tC (k:=aY k hs) h1 h8 g,e,yS h.right hj m1 s]
 rw[vB h1 h8 g,vB (k:=aY k hs) h1 h8 g];rfl
theorem YV (h:fO k fl) (hk:fl.getD j false=true) (a:Int) (d:ByteArray) (h1:1<=d.size) (h8:d.size<=8):(jJ k j a d).2.aR=k.aR:=by
 obtain⟨hj,hl⟩:=h.at_ hk;by_cases g:(bB (dX k j) a d.size 1).1=0
 . rw[tU g];obtain⟨m1,m2,_⟩:=nO ω ω g;exact(yQ h.right hj a d ω ω m1 m2).aR
 rw[vw g]
theorem YU (h:fO k fl) (hk:fl.getD j false=true) (s:cZ k.aR hs) (a:Int) (d:ByteArray) (h1:1<=d.size) (h8:d.size<=8):jJ (aY k hs) j a d=((jJ k j a d).1,aY (jJ k j a d).2 hs):=by
 obtain⟨hj,hl⟩:=h.at_ hk;by_cases g:(bB (dX k j) a d.size 1).1=0
 . obtain⟨m1,m2,_⟩:=nO ω ω g;rw[tU g,tU (k:=aY k hs) g,Jo h.right hj m1 s]
 rw[vw g,vw (k:=aY k hs) g];rfl
theorem Hg (h:fO k fl) (hk:fl.getD j false=true) (r:List aX×Int):(gL k j r).2.aR=k.aR:=by
 obtain⟨hj,hl⟩:=h.at_ hk;unfold gL
 repeat' split
 . rfl
 . rfl
 exact(sY k hj r.1).1
theorem Hf (k:aT) (hs:List bC) (j:Nat) (r:List aX×Int):gL (aY k hs) j r=((gL k j r).1,aY (gL k j r).2 hs):=by
 unfold gL;show(if ¬r.2=0 then (r.2,aY k hs) else if eU k.aj-bf (dX k j)+bf r.1>(k.slots.length:Int) then (8,aY k hs) else (0,iN (aY k hs) j r.1))=_;rw[JG]
 repeat' split
 all_goals rfl
theorem Pz (h:fO k fl) (hk:fl.getD j false=true):(gM k j).2.aR=k.aR:=by
 obtain⟨hj,hl⟩:=h.at_ hk;unfold gM
 repeat' split
 . rfl
 . rfl
 exact(yl h.right hj).aR
theorem acz (k:aT) (hs:List bC) (j:Nat):gM (aY k hs) j=((gM k j).1,aY (gM k j).2 hs):=by
 unfold gM;show(if k.aj.length=4 then (2,aY k hs) else if eU k.aj+bf (dX k j)>(k.slots.length:Int) then (8,aY k hs) else (0,jq (aY k hs) j))=_;rw[L8]
 repeat' split
 all_goals rfl
theorem afv (hs:List bC):E6 dY dY (acB hs) (λk=>aY k hs) where
 load:=λs fl k a n way h hk h1 h8=>acx h.ok hk h.same a n way h1 h8
 store:=λs fl k a d h hk h1 h8=>YU h.ok hk h.same a d h1 h8
 map:=λs fl k p n q h hk=>Hf s hs k _
 qX:=λs fl k p n h hk=>Hf s hs k _
 ko:=λs fl k p n q h hk=>Hf s hs k _
 fork:=λs fl k h hk=>acz s hs k
 drop:=λs fl k h hk=>Ma s hs k
theorem vv {k k':aT} (h:k'.aR=k.aR) (s:cZ k.aR hs):cZ k'.aR hs:=by rw[h];exact s
theorem Wx (hs:List bC):tj dY (acB hs) where
 load:=λs fl k a n way h hk=>⟨jr.load s fl k a n way h.ok hk,vv (acy h.ok hk a n way) h.same⟩
 size:=λs fl k a n way h hk=>jr.size s fl k a n way h.ok hk
 fault:=λs fl k a n way h hk=>jr.fault s fl k a n way h.ok hk
 none:=λs fl k a n way h hk=>jr.none s fl k a n way h.ok hk
 store:=λs fl k a d h hk h1 h8=>⟨jr.store s fl k a d h.ok hk h1 h8,vv (YV h.ok hk a d h1 h8) h.same⟩
 UN:=λs fl k a d h hk=>jr.UN s fl k a d h.ok hk
 map:=λs fl k p n q h hk=>⟨jr.map s fl k p n q h.ok hk,vv (Hg h.ok hk _) h.same⟩
 qX:=λs fl k p n h hk=>⟨jr.qX s fl k p n h.ok hk,vv (Hg h.ok hk _) h.same⟩
 ko:=λs fl k p n q h hk=>⟨jr.ko s fl k p n q h.ok hk,vv (Hg h.ok hk _) h.same⟩
 UM:=λs fl k h hk g=>⟨jr.UM s fl k h.ok hk g,vv (Pz h.ok hk) h.same⟩
 NV:=λs fl k h hk g=>⟨jr.NV s fl k h.ok hk g,vv (Pz h.ok hk) h.same⟩
 alP:=λs fl k p n q h hk=>jr.alP s fl k p n q h.ok hk
 UD:=λs fl k p n h hk=>jr.UD s fl k p n h.ok hk
 IP:=λs fl k p n q h hk=>jr.IP s fl k p n q h.ok hk
 few:=λs fl h=>jr.few s fl h.ok
 drop:=λs fl k h hk=>⟨jr.drop s fl k h.ok hk,vv ((oO s k (λ_=>true)).1) h.same⟩
theorem afy {s:dB aT} (h:ez fO s) (g:cZ s.mem.aR hs):ez (acB hs) s:=⟨⟨h.mem,g⟩,h.fit,h.right,h.words,h.out⟩
theorem anc {s:dB aT} (h:ez (acB hs) s):ez fO s/\cZ s.mem.aR hs:=⟨⟨h.mem.ok,h.fit,h.right,h.words,h.out⟩,h.mem.same⟩
theorem Sw {s:dB aT} (h:ez fO s) (g:cZ s.mem.aR hs):ez fO (jO (λk=>aY k hs) s):=⟨⟨h.mem.right.CZ g,h.mem.flags⟩,h.fit,h.right,h.words,h.out⟩
theorem ah8 {m:iT} (h:ez fO (mQ m)):jZ m=0:=Tp h
theorem K7 {m:iT} (h:ez fO (mQ m)) (picks:List Int):sL m picks=if 2000<picks.length then ((Ew,2):iT×Int) else match fq dY picks picks.length (some (mQ m)) with
  | none=>(Ew,2)
  | some s=>(E4 s,0):=by
 unfold sL Dx qc;rw[aB (λg=>g (ah8 h))];by_cases c:2000<picks.length
 . rw[aC c,aC c];rfl
 rw[aB c,aB c];cases fq dY picks picks.length (some (mQ m)) with
 | none=>rfl
 | some s=>rfl
theorem afw {m:iT} (h:ez fO (mQ m)) {hs:List bC} (g:cZ m.iF.aR hs) (picks:List Int):∃hs',cZ (sL m picks).1.iF.aR hs'/\sL (oC m hs) picks=(oC (sL m picks).1 hs',(sL m picks).2):=by
 have h':ez fO (mQ (oC m hs)):=Sw h g;have e:=CE (afv hs) (Wx hs) (afy h g) picks picks.length;have e':fq dY picks picks.length (some (mQ (oC m hs)))=(fq dY picks picks.length (some (mQ m))).map (jO (λk=>aY k hs)):=e;rw[K7 h,K7 h',e'];by_cases c:2000<picks.length
 . rw[aC c,aC c];exact⟨[],rfl,rfl⟩
 rw[aB c,aB c];cases f:fq dY picks picks.length (some (mQ m)) with
 | none=>exact⟨[],rfl,rfl⟩
 | some s=>exact⟨hs,(anc (yn (Wx hs) (afy h g) picks _ s f)).2,rfl⟩
def wB (w:World) (r:iT×Int) (e:Ending) (w':World):Prop:=∃hs a ar cr ao co,cZ r.1.iF.aR hs/\e=.returned (.tuple #[.agg (ir (oC r.1 hs) a ar ao cr co),I r.2])/\(∀V,aH (λb=>b<w.heap.size) w' V->xJ V a ar ao (oC r.1 hs))/\Below w.heap.size w w'
def Ss:jC:=⟨none,0,none,0,none,0,none,0⟩
theorem akR (w:World):xJ w Ss none none (oC Ew []):=⟨⟨λh=>absurd h (iW _),λh=>absurd h (iW _),λh=>absurd h (iW _),λh=>absurd h (iW _)⟩,λh=>absurd h (iW _),λh=>absurd h (iW _)⟩
theorem QN {w w':World} (er:Int) (hb:Below w.heap.size w w'):wB w (Ew,er) (.returned (.tuple #[.agg #[Nl,Nl,Nl,Nl,I 0,Nl,Nl],I er])) w':=⟨[],Ss,none,0,none,0,rfl,rfl,λV _=>akR V,hb⟩
theorem vt (W:World) (b:Nat) (v0 v1 v2 v3 v4 v5 v6:Value):aH (λx=>x=b) W (((((((W.setCell (Ad b 0) v0).setCell (Ad b 1) v1).setCell (Ad b 2) v2).setCell (Ad b 3) v3).setCell (Ad b 4) v4).setCell (Ad b 5) v5).setCell (Ad b 6) v6):=by
 have k:∀(A:World) (i:Nat) (v:Value),aH (λx=>x=b) A (A.setCell (Ad b i) v):=λA i v=>aH.set _ A (Ad b i) v rfl
 exact((Wv W b v0 v1 v2 v3 v4).trans (k _ _ _) (λ_ _ g=>g)).trans (k _ _ _) (λ_ _ g=>g)
theorem ahY {V w2:World} {k:aT} {hs:List bC} {a:jC} (s:cZ k.aR hs) (hK:∀U,aH (λb=>b<V.heap.size) w2 U->ju U a (aY k hs)) (hb:Below V.heap.size V w2) :
  iI V.heap.size w2.heap.size (w2.alloc (.cells (br a (aY k hs)) 185)) (λb=>b=w2.heap.size\/(V.heap.size<=b/\b<w2.heap.size)) k:=by
 have hz:=hb.size;refine⟨⟨hs,a,V.heap.size,w2.heap.size,s,bH w2 _ _,λU hU=>hK U ?_,aK _,ξ,ω,λb=>Iff.rfl⟩,hz⟩;exact(aH.alloc (λb=>b<V.heap.size) w2 _).trans hU (λb hb g=>ω)
theorem afb {lo mb:Nat} {w2 w3 w4:World} {D:Nat->Prop} {m:iT} {vr vo:Value} (hm:iI lo mb w2 D m.iF) (h23:Below w2.heap.size w2 w3) (hr:w3.ownsRow w2.heap.size 77 13 vr m.procs.length (m.procs.flatMap bO)) (h34:Below w3.heap.size w3 w4) (ho:w4.ownsRow w3.heap.size 91 2 vo m.out.length (m.out.flatMap kH)) :
  fR vq (iI lo mb) lo mb w4.heap.size (w4.alloc (.cells #[.iface 183 (.pointer (some (Ad mb 0))),vr,vo] 191)) D vr vo (mQ m):=by
 have hlo:lo<=w2.heap.size:=by have:=hm.dom mb hm.inD;omega
 have y:=h23.size;have B:=h34.size;have hA:Below w4.heap.size w4 (w4.alloc (.cells #[.iface 183 (.pointer (some (Ad mb 0))),vr,vo] 191)):=(aN _ _).alloc (aK _) _;have q:Below w2.heap.size w2 (w4.alloc (.cells #[.iface 183 (.pointer (some (Ad mb 0))),vr,vo] 191)):=(h23.trans (h34.mono y)).trans (hA.mono ω);have A:=aH.row (aH.bQ (D:=λ_=>False) h34) hr (λ_ _ g=>g);have lr:∀b,si vr b->w2.heap.size<=b/\b<w3.heap.size:=λb hb=>hr.lt b hb
 have lw:∀b,si vo b->w3.heap.size<=b/\b<w4.heap.size:=λb hb=>ho.lt b hb
 have ld:∀b,D b->b<w2.heap.size:=λb hb=>(hm.dom b hb).2
 refine⟨bH w4 _ _,hm.kp (aH.bQ (D:=λ_=>False) q) (λ_ _ g=>g),?_,?_,ω,λg=>by have:=ld _ g;omega,λg=>by have:=lr _ g;omega,λg=>by have:=lw _ g;omega,λb hb g=>by have:=lr b hb;have:=ld _ g;omega,λb hb g=>by have:=lw b hb;have:=ld _ g;omega,λb hb g=>by have:=lr b hb;have:=lw b g;omega⟩
 . exact m9 (aH.row (aH.bQ (D:=λ_=>False) hA) A (λ_ _ g=>g)) (λg hg=>by have:=lr g hg;omega)
 exact m9 (aH.row (aH.bQ (D:=λ_=>False) hA) ho (λ_ _ g=>g)) (λg hg=>by have:=lw g hg;omega)
theorem afa {lo mb gb z:Nat} {w':World} {D':Nat->Prop} {Rh Ri:Value} {s:dB aT} (hg:fR vq (iI lo mb) lo mb gb w' D' Rh Ri s) (hz:z<lo) :
  ∃s0 n0 q0 s1 n1 q1 s2 n2 q2 s3 n3 q3 hd a5 c5 a6 c6,(w'.cell? (Ad mb 0)=some (.slice s0 n0 q0)/\w'.cell? (Ad mb 1)=some (.slice s1 n1 q1)/\w'.cell? (Ad mb 2)=some (.slice s2 n2 q2)/\w'.cell? (Ad mb 3)=some (.slice s3 n3 q3)/\w'.cell? (Ad mb 4)=some (I hd)/\w'.cell? (Ad gb 1)=some (.slice a5 s.ps.length c5)/\w'.cell? (Ad gb 2)=some (.slice a6 s.out.length c6))/\(¬mb=z/\¬gb=z)/\∃hs a,cZ s.mem.aR hs/\ir (oC (E4 s) hs) a a5 a6 c5 c6=#[.slice s0 n0 q0,.slice s1 n1 q1,.slice s2 n2 q2,.slice s3 n3 q3,I hd,.slice a5 s.ps.length c5,.slice a6 s.out.length c6]/\∀V,aH (λb=>b<=z) w' V->xJ V a a5 a6 (oC (E4 s) hs):=by
 obtain⟨a5,c5,rfl,_,_⟩:=aZ hg.procs;obtain⟨a6,c6,rfl,_,_⟩:=aZ hg.outs;obtain⟨⟨hs,a,n,sz,h1,h2,h3,h4,h5,h6,h7⟩,hb⟩:=hg.mem;have q:=fR.lt (Ut lo mb) hg;obtain⟨e0,e1,e2,e3,e4⟩:=o5 h2;refine⟨_,_,_,_,_,_,_,_,_,_,_,_,_,a5,c5,a6,c6,⟨e0,e1,e2,e3,e4,aA hg.head 1 rfl,aA hg.head 2 rfl⟩,⟨ω,λe=>by have:=hg.base;omega⟩,hs,a,h1,rfl,λV hV=>⟨h3 V (hV.mono (λb _ g=>ω)),aai (hV.row hg.procs (λb hb e=>by have:=(q b (.inr (.inr (.inl hb)))).1;omega)),aag (hV.row hg.outs (λb hb e=>by have:=(q b (.inr (.inr (.inr hb)))).1;omega))⟩⟩
theorem Hp (w:World) (X Z:Array Value) (T U:Nat):∃WA x z,(w.alloc (.cells X T)).alloc (.cells Z U)=WA/\w.heap.size=x/\x+1=z/\¬x=z/\¬z=x/\Below x w WA/\z<WA.heap.size/\∀V,Below WA.heap.size WA V->V.heap[x]?=some (.cells X T (0,0))/\V.heap[z]?=some (.cells Z U (0,0)):=by
 have hx:=bu (bH w X T) (.cells Z U);have hz:=bH (w.alloc (.cells X T)) Z U;rw[fY] at hz;exact⟨_,_,_,rfl,rfl,rfl,ω,ω,((aN w.heap.size w).alloc (aK _) _).alloc ξ _,ξ,λV hb=>⟨aU hx hb (aQ hx),aU hz hb (aQ hz)⟩⟩
theorem J2 {w:World} {a:Option Addr} {c:Nat} {xs:List Value} {n:Nat} (hl:xs.length=n*13) (h:qK w a n xs) (h1:∀u∈xs,u.oneCell'=true) (hn:n<=1000000) :
  Calls prog 94 #[.slice a n c] w λe w'=>∃a' c',e=.returned (.slice a' n c')/\w'.ownsRow w.heap.size 77 13 (.slice a' n c') n xs/\Below w.heap.size w w' :=
 (aiu a n c xs w hl h h1 hn).mono λe w' ⟨v,he,h1,h2⟩=>by
  obtain⟨a',c',rfl,_,_⟩:=aZ h1;exact⟨a',c',he,h1,h2⟩
theorem J1 {w:World} {a:Option Addr} {c:Nat} {xs:List Value} {n:Nat} (hl:xs.length=n*2) (h:qK w a n xs) (h1:∀u∈xs,u.oneCell'=true) (hn:n<=1000000) :
  Calls prog 95 #[.slice a n c] w λe w'=>∃a' c',e=.returned (.slice a' n c')/\w'.ownsRow w.heap.size 91 2 (.slice a' n c') n xs/\Below w.heap.size w w' :=
 (air a n c xs w hl h h1 hn).mono λe w' ⟨v,he,h1,h2⟩=>by
  obtain⟨a',c',rfl,_,_⟩:=aZ h1;exact⟨a',c',he,h1,h2⟩
theorem Wt (F:FuncId) (hF:F=46\/F=61) (m:iT) (r:Int×Option (dB aT)) (q:Nat) (a:jC) (ar ao:Option Addr) (cr co:Nat) (w:World) (h:xJ w a ar ao m) (hf:Ps m) (hr:r.1=0->∃s,r.2=some s)
  (hc:jZ m=0->∀(V:World) (lo mb gb:Nat) (D:Nat->Prop) (vr vo:Value),Below w.heap.size w V->w.heap.size<=lo->fR vq (iI lo mb) lo mb gb V D vr vo (mQ m)->Calls prog F #[.pointer (some ⟨gb,0,none⟩),.pointer (some ⟨q,0,none⟩)] V (wA vq (iI lo mb) lo mb gb V D vr vo r)) :
  Calls prog 45 #[.agg (ir m a ar ao cr co),.func (.func F) #[] #[.pointer (some ⟨q,0,none⟩)]] w (wB w (Dx m r)):=by
 have ym:=ai λV (hV:Below w.heap.size w V)=>ack m a ar ao cr co V (h.below hV) hf
 have y:Hid (jZ m=0->∀V,Below w.heap.size w V->Calls prog 79 #[.agg (br a m.iF)] V λe w'=>∃s0 n0 q0 s1 n1 q1 s2 n2 q2 s3 n3 q3 hd,e=.returned (.agg #[.slice s0 n0 q0,.slice s1 n1 q1,.slice s2 n2 q2,.slice s3 n3 q3,I hd])/\Below V.heap.size V w'/\iI V.heap.size w'.heap.size (w'.alloc (.cells #[.slice s0 n0 q0,.slice s1 n1 q1,.slice s2 n2 q2,.slice s3 n3 q3,I hd] 185)) (λb=>b=w'.heap.size\/(V.heap.size<=b/\b<w'.heap.size)) m.iF):=λhk V hV=>by
  obtain⟨c1,c2,c3,c4⟩:=Ev hk;refine(yN m.iF a V (h.iF.below hV) (Di c1 hf.iF)).mono ?_;rintro e w' ⟨S,hs,g1,g2,g3,g4⟩;obtain⟨a',e1,e2⟩:=Sp g3;have e3:e=.returned (.agg (br a' (aY m.iF hs))):=by rw[g2,<- e1];rfl
  exact⟨_,_,_,_,_,_,_,_,_,_,_,_,_,e3,g4,ahY g1 e2 g4⟩
 have Fp:=ai λ(hk:jZ m=0) V (hV:Below w.heap.size w V)=>J2 (c:=cr) (fp bO 13 se _) ((Ws h.procs).below hV) (aah _) (by obtain⟨c1,_,c3,_⟩:=Ev hk;have:=c1.c.2.2.1.2;omega)
 have B:=ai λ(hk:jZ m=0) V (hV:Below w.heap.size w V)=>J1 (c:=co) (fp kH 2 xg _) ((Wp h.out).below hV) (aaf _) (by have:=Ev hk;omega)
 have HC:=ai hc;have HR:=ai hr;have A:Hid (Dx m r=if ¬jZ m=0 then (Ew,jZ m) else if ¬r.1=0 then (Ew,r.1) else match r.2 with | none=>(Ew,r.1) | some s=>(E4 s,0)):=rfl;generalize Dx m r=R at A ⊢;generalize jZ m=ck at ym y Fp B HC A;generalize hP:wB w R=P;have HP:Hid (∀e w',wB w R e w'->P e w'):=λe w' h=>by rw[<- hP];exact h
 unfold ir at ym ⊢;unfold br at y;generalize m.iF.aR.length=x0,m.iF.frames.length=x1,m.iF.slots.length=x2,m.iF.aj.length=x3,m.iF.hand=x4 at ym y ⊢;generalize C0:m.procs.length=np,aa:m.out.length=no at ym Fp B ⊢;have X:=ai (And.intro C0 aa);obtain⟨WA,x,z,pU,hx,hz,b1,aG,ab,aw,hV⟩:=Hp w #[.slice a.aS x0 a.cS,.slice a.aF x1 a.cF,.slice a.aL x2 a.cL,.slice a.aP x3 a.cP,I x4,.slice ar np cr,.slice ao no co] #[Nl,Nl,Nl,Nl,I 0,Nl,Nl] 34 34;have jc:Hid (Below w.heap.size w WA):=by rw[hx];exact ab
 have IK:=ai λV hb=>B0 (hV V hb).1
 have J:=ai λV hb=>And.intro (B0 (hV V hb).2) (bG (hV V hb).2)
 have G:Hid (w.heap.size<=z):=by show _<=_;omega
 obtain⟨y0,y1,y2,y3,y4,y5,y6⟩:=IK.o _ (aN _ _);obtain⟨⟨z0,z1,z2,z3,z4,z5,z6⟩,f0⟩:=J.o _ (aN _ _);clear h hf hc hr hP C0 aa ab hV;go_enter func45,ntmps45;go_wp2_with fail;clear pU hx hz y0 y1 y2 y3 y4 y5 y6 z0 z1 z2 z3 z4 z5 z6 f0;refine(ym.o _ jc.o).mono ?_;rintro e w1 ⟨rfl,L⟩;have cD:=ai L;obtain⟨⟨z0,z1,z2,z3,z4,z5,z6⟩,f0⟩:=J.o _ L;obtain⟨y0,y1,y2,y3,y4,y5,y6⟩:=IK.o _ L;clear L ym;by_cases ZL:ck=0
 . subst ZL;have af:=ai (HC.o rfl);have Y:=ai (y.o rfl);have ah:=ai (Fp.o rfl);have ae:=ai (B.o rfl);have N:=ai (A.o.trans (aB (λg=>g rfl)));clear HC y Fp B A;go_wp2_with (go_at_call 79;refine(Y.o _ (jc.o.trans (cD.o.mono jc.o.size))).mono ?_;rintro e w2 ⟨s0,n0,q0,s1,n1,q1,s2,n2,q2,s3,n3,q3,hd,rfl,a1,hm⟩;have XE:=ai hm;have iJ:=ai a1;clear hm a1);obtain⟨mb,O⟩:=ex w2.heap.size;obtain⟨D0,a0⟩:∃D0:Nat->Prop,D0=λb=>b=w2.heap.size\/(w1.heap.size<=b/\b<w2.heap.size):=⟨_,rfl⟩
   obtain⟨WM,K⟩:=ex (w2.alloc (.cells #[.slice s0 n0 q0,.slice s1 n1 q1,.slice s2 n2 q2,.slice s3 n3 q3,I hd] 185));have a9:Below w1.heap.size w1 WM:=by rw[K];exact iJ.o.alloc iJ.o.size _
   rw[<- a0,<- K,<- O] at XE;rw[<- K,<- O];clear O a0 K;have Z:=ai (cD.o.trans (a9.mono cD.o.size));have uD:=ai Z.o.drew;have pK:=ai ((IK.o _ uD.o).2.2.2.2.2);clear y0 y1 y2 y3 y4 y5 y6 z0 z1 z2 z3 z4 z5 z6 f0 a9;go_cut [8] (λx8 wx=>∃gb D vr vo,x8=.pointer (some ⟨gb,0,none⟩)/\fR vq (iI w1.heap.size mb) w1.heap.size mb gb wx D vr vo (mQ m)/\Below WA.heap.size WA wx)
   case first =>
    go_region_held3 (λV=>V.cell? ⟨x,5,none⟩=some (.slice ar np cr)/\V.cell? ⟨x,6,none⟩=some (.slice ao no co)) (first | exact an.o | exact Gh.o | exact pK.o | exact(IK.o _ (WG.o.alloc WG.o.size _)).2.2.2.2.2)
     (first
      | (go_at_call 94;refine(ah.o _ (jc.o.trans (uD.o.mono jc.o.size))).mono ?_;rintro e w3 ⟨a3,c3,rfl,ag,Q⟩;have aE:=ai ag;have ou:=ai Q;have Ez:=ai (uD.o.trans (Q.mono uD.o.size));have Gh:=ai ((IK.o _ Ez.o).2.2.2.2.2);clear ag Q)
      | (go_at_call 95;refine(ae.o _ (jc.o.trans (Ez.o.mono jc.o.size))).mono ?_;rintro e w4 ⟨a4,c4,rfl,ac,T⟩;have ap:=ai ac;have Cc:=ai T;have WG:=ai (Ez.o.trans (T.mono Ez.o.size));have an:=ai ((IK.o _ WG.o).2.2.2.2.2);clear ac T))
    all_goals
     go_wp2_with fail
     go_meet
     case rel =>
      refine⟨_,_,_,_,rfl,afb XE.o ((aN _ _).drew.trans ou.o) ?_ Cc.o ?_,WG.o.alloc WG.o.size _⟩
      . rw[X.o.1];exact aE.o
      rw[X.o.2];exact ap.o
   case rest =>
    obtain⟨gb,D,vr,vo,rfl,hg,U⟩:=hcut;have QV:=ai U;have ay:=ai (jc.o.trans (U.mono jc.o.size));have az:Hid (w.heap.size<=w1.heap.size):=(by have:=jc.o.size;have:=cD.o.size;omega:w.heap.size<=w1.heap.size);have E7:=ai (af.o wc w1.heap.size mb gb D vr vo ay.o az.o hg);have W:=ai (λb=>fR.lt (Ut w1.heap.size mb) hg b);have Nr:Hid (z<w1.heap.size):=dV aw cD.o.size;clear hg U af Y ah ae XE iJ Z uD pK;by_cases S4:r.1=0
    . obtain⟨s,hs⟩:=HR.o S4;have uP:Hid (R=(E4 s,0)):=by rw[N.o,aB (λg=>g S4),hs];exact rfl
      obtain⟨n5,a7⟩:∃n,n=s.ps.length:=⟨_,rfl⟩;obtain⟨n6,a2⟩:∃n,n=s.out.length:=⟨_,rfl⟩;have XI:Hid (Calls prog F #[.pointer (some ⟨gb,0,none⟩),.pointer (some ⟨q,0,none⟩)] wc λe w'=>∃s0 n0 q0 s1 n1 q1 s2 n2 q2 s3 n3 q3 hd a5 c5 a6 c6,e=.returned (I 0)/\Below WA.heap.size WA w'/\(w'.cell? ⟨mb,0,none⟩=some (.slice s0 n0 q0)/\w'.cell? ⟨mb,1,none⟩=some (.slice s1 n1 q1)/\w'.cell? ⟨mb,2,none⟩=some (.slice s2 n2 q2)/\w'.cell? ⟨mb,3,none⟩=some (.slice s3 n3 q3)/\w'.cell? ⟨mb,4,none⟩=some (I hd)/\w'.cell? ⟨gb,1,none⟩=some (.slice a5 n5 c5)/\w'.cell? ⟨gb,2,none⟩=some (.slice a6 n6 c6))/\(¬mb=z/\¬gb=z)/\∃hs a,cZ s.mem.aR hs/\ir (oC (E4 s) hs) a a5 a6 c5 c6=#[.slice s0 n0 q0,.slice s1 n1 q1,.slice s2 n2 q2,.slice s3 n3 q3,I hd,.slice a5 n5 c5,.slice a6 n6 c6]/\∀V,aH (λb=>b<=z) w' V->xJ V a a5 a6 (oC (E4 s) hs)):=E7.o.mono λe w' ⟨h1,h2,h3⟩=>by
       obtain⟨D',Rh,Ri,am,_,_⟩:=h3 s hs;rw[S4] at h1;obtain⟨s0,n0,q0,s1,n1,q1,s2,n2,q2,s3,n3,q3,hd,a5,c5,a6,c6,g1,g2,g3⟩:=afa am Nr.o;rw[<- a7,<- a2] at g1 g3;exact⟨s0,n0,q0,s1,n1,q1,s2,n2,q2,s3,n3,q3,hd,a5,c5,a6,c6,h1,aH.below QV.o h2 QV.o.size (λb hb=>eJ cD.o.size (W.o b hb).1),g1,g2,g3⟩
      clear N E7 hs S4 HR a7 a2 W;rcases hF with rfl | rfl
      all_goals
       go_wp2_with ((first | go_at_call 46 | go_at_call 61);refine XI.o.mono ?_;rintro e w5 ⟨s0,n0,q0,s1,n1,q1,s2,n2,q2,s3,n3,q3,hd,a5,c5,a6,c6,rfl,Fu,ad,au,a8⟩;have Nu:=ai Fu;have WI:=ai ad;have av:=ai a8;obtain⟨⟨z0,z1,z2,z3,z4,z5,z6⟩,f0⟩:=J.o _ Fu;obtain⟨b0,aK⟩:=au;clear Fu ad a8)
       obtain⟨k0,k1,k2,k3,k4,k5,k6⟩:=WI.o;go_region
       all_goals
        go_wp2;refine b9 (v:=.tuple #[.agg #[.slice s0 n0 q0,.slice s1 n1 q1,.slice s2 n2 q2,.slice s3 n3 q3,I hd,.slice a5 n5 c5,.slice a6 n6 c6],I 0]) (by simp[results,results45,go_sem,z0,z1,z2,z3,z4,z5,z6]) rfl ?_;refine HP.o _ _ ?_;rw[uP.o];have al:=(vt w5 z (.slice s0 n0 q0) (.slice s1 n1 q1) (.slice s2 n2 q2) (.slice s3 n3 q3) (I hd) (.slice a5 n5 c5) (.slice a6 n6 c6)).trans (aH.drew (λb=>b=z) _) (λ_ _ g=>g);obtain⟨hs,a',g1,g2,g3⟩:=av.o;exact⟨hs,a',a5,c5,a6,c6,g1,by rw[g2],λV hV=>g3 _ ((al.mono (λb _ e=>NA e)).trans hV (λb _ g=>Nw (dV g G.o))),aH.below (jc.o.trans (Nu.o.mono jc.o.size)) al (eJ jc.o.size Nu.o.size) (λb e=>by rw[e];exact G.o)⟩
    have uP:Hid (R=(Ew,r.1)):=by rw[N.o,aC S4];exact rfl
    obtain⟨rc,M⟩:=ex r.1;have uM:Hid (Calls prog F #[.pointer (some ⟨gb,0,none⟩),.pointer (some ⟨q,0,none⟩)] wc λe w'=>e=.returned (I rc)/\Below WA.heap.size WA w'):=E7.o.mono λe w' ⟨h1,h2,h3⟩=>by
     rw[<- M] at h1;exact⟨h1,aH.below QV.o h2 QV.o.size (λb hb=>eJ cD.o.size (W.o b hb).1)⟩
    have C2:(rc==0)=false:=by rw[gT,M];exact S4
    rw[<- M] at uP;clear N E7 S4 HR M;rcases hF with rfl | rfl
    all_goals
     go_wp2_with ((first | go_at_call 46 | go_at_call 61);refine uM.o.mono ?_;rintro e w5 ⟨rfl,Fu⟩;have Nu:=ai Fu;obtain⟨⟨z0,z1,z2,z3,z4,z5,z6⟩,f0⟩:=J.o _ Fu;clear Fu)
     refine b9 (v:=.tuple #[.agg #[Nl,Nl,Nl,Nl,I 0,Nl,Nl],I rc]) (by simp[results,results45,go_sem,z0,z1,z2,z3,z4,z5,z6]) rfl ?_;refine HP.o _ _ ?_;rw[uP.o];exact QN rc (aH.below (jc.o.trans (Nu.o.mono jc.o.size)) (vt w5 z _ _ _ _ _ _ _) (eJ jc.o.size Nu.o.size) (λb e=>by rw[e];exact G.o))
 have uP:Hid (R=(Ew,ck)):=by rw[A.o,aC ZL];exact rfl
 have C2:(ck==0)=false:=by rw[gT];exact ZL
 clear A ZL HC y Fp B;go_wp2;refine b9 (v:=.tuple #[.agg #[Nl,Nl,Nl,Nl,I 0,Nl,Nl],I ck]) (by simp[results,results45,go_sem,z0,z1,z2,z3,z4,z5,z6]) rfl ?_;refine HP.o _ _ ?_;rw[uP.o];exact QN ck (aH.below (jc.o.trans (cD.o.mono jc.o.size)) (vt w1 z _ _ _ _ _ _ _) (eJ jc.o.size cD.o.size) (λb e=>by rw[e];exact G.o))
abbrev Tq:=Wt 61 (.inr rfl)
theorem Ar {w w':World} {ao:Option Addr} {l:List Int} (h:rI w ao l) (hb:Below w.heap.size w w'):rI w' ao l:=λhl=>by
 obtain⟨b,off,e,hlt,hc⟩:=h hl;exact⟨b,off,e,dV hlt hb.size,λi hi=>(hb.cell (p:=⟨b,off+i,none⟩) hlt).trans (hc i hi)⟩
theorem ae7 (st:dB aT) (picks:List Int) (h:(qc dY st picks).1=0):∃s,(qc dY st picks).2=some s:=by
 unfold qc at h ⊢;by_cases c:2000<picks.length
 . rw[aC c] at h;cases h
 rw[aB c] at h ⊢;cases e:fq dY picks picks.length (some st) with
 | none=>rw[e] at h;cases h
 | some s=>exact⟨s,rfl⟩
theorem ae8 {m:iT} {lo mb gb:Nat} {D:Nat->Prop} {vr vo:Value} (picks:List Int) (ap:Option Addr) (cp q:Nat) (V:World) (hk:jZ m=0) (hp:Wu m.procs) (hg:fR vq (iI lo mb) lo mb gb V D vr vo (mQ m)) (hq:V.cell? ⟨q,0,none⟩=some (.slice ap picks.length cp)) (hn:rI V ap picks) (hps:0<picks.length->∀b,ap=some b->b.block<lo) (hpl:picks.length<=140737488351232) :
  Calls prog 61 #[.pointer (some ⟨gb,0,none⟩),.pointer (some ⟨q,0,none⟩)] V (wA vq (iI lo mb) lo mb gb V D vr vo (qc dY (mQ m) picks)):=by
 have HS:=ai (Wq (Ut lo mb) picks ap cp V hg (akS hk hp) hn (λh0 b e g=>by have:=(hg.lt (Ut lo mb) _ g).1;have:=hps h0 b e;omega) hpl);generalize qc dY (mQ m) picks=X at HS ⊢;obtain⟨P,hP⟩:=ex (wA vq (iI lo mb) lo mb gb V D vr vo X);have HP:Hid (∀w',(aH (kM gb D vr vo) V w'/\∀s,X.2=some s->cV vq (iI lo mb) lo mb gb V D vr vo s w')->P (.returned (I X.1)) w'):=λw' h=>by
  rw[hP];exact⟨rfl,h.1,h.2⟩
 rw[<- hP];obtain⟨X1,y⟩:=ex X.1;have Mf:Hid (Calls prog 62 #[.pointer (some ⟨gb,0,none⟩),.slice ap picks.length cp] V λe w'=>e=.returned (I X1)/\aH (kM gb D vr vo) V w'/\∀s,X.2=some s->cV vq (iI lo mb) lo mb gb V D vr vo s w'):=by rw[y];exact HS.o
 rw[<- y] at HP;clear hP hg HS y hn hps;go_enter func61,ntmps61;go_wp2_with (go_at_call 62;refine Mf.o.mono ?_;rintro e w1 ⟨rfl,hl⟩;have HL:=ai hl;clear hl);exact HP.o _ HL.o
theorem ahW (m:iT) (picks:List Int) (ap:Option Addr) (cp:Nat) (a:jC) (ar ao:Option Addr) (cr co:Nat) (w:World) (h:xJ w a ar ao m) (hf:Ps m) (hp:Wu m.procs) (hn:rI w ap picks) (hps:0<picks.length->∀b,ap=some b->b.block<w.heap.size) (hpl:picks.length<=140737488351232) :
  Calls prog 20 #[.agg (ir m a ar ao cr co),.slice ap picks.length cp] w (wB w (sL m picks)):=by
 obtain⟨r,hr⟩:=ex (sL m picks);have Nt:Hid (∀V q,Below w.heap.size w V->V.cell? ⟨q,0,none⟩=some (.slice ap picks.length cp)->Calls prog 45 #[.agg (ir m a ar ao cr co),.func (.func 61) #[] #[.pointer (some ⟨q,0,none⟩)]] V λe w'=>∃s0 n0 q0 s1 n1 q1 s2 n2 q2 s3 n3 q3 hd s5 n5 q5 s6 n6 q6 er,e=.returned (.tuple #[.agg #[.slice s0 n0 q0,.slice s1 n1 q1,.slice s2 n2 q2,.slice s3 n3 q3,I hd,.slice s5 n5 q5,.slice s6 n6 q6],I er])/\Below V.heap.size V w'/\∀U,aH (λb=>b<V.heap.size) w' U->Below w.heap.size w U->wB w r (.returned (.tuple #[.agg #[.slice s0 n0 q0,.slice s1 n1 q1,.slice s2 n2 q2,.slice s3 n3 q3,I hd,.slice s5 n5 q5,.slice s6 n6 q6],I er])) U):=λV q hV hq=>by
  rw[hr];refine(Tq m (qc dY (mQ m) picks) q a ar ao cr co V (h.below hV) hf (ae7 _ _) (λhk U lo mb gb D vr vo hU hlo hg=>ae8 picks ap cp q U hk hp hg ((hU.cell (p:=⟨q,0,none⟩) (jL _ _ hq)).trans hq) (Ar (Ar hn hV) hU) (λh0 b e=>dV (hps h0 b e) (eJ hV.size hlo)) hpl)).mono ?_;rintro e w' ⟨hs,a1,a2,c2,a3,c3,W,rfl,h1,h2⟩;exact⟨_,_,_,_,_,_,_,_,_,_,_,_,_,_,_,_,_,_,_,_,rfl,h2,λU hU hb=>⟨hs,a1,a2,c2,a3,c3,W,rfl,λV2 h3=>h1 _ (hU.trans h3 (λb _ g=>dV g hV.size)),hb⟩⟩
 rw[<- hr];generalize wB w r=P at Nt ⊢;clear h hf hp hr hn hps;unfold ir at Nt ⊢;obtain⟨x0,G⟩:∃n,n=m.iF.aR.length:=⟨_,rfl⟩;obtain⟨x1,R⟩:∃n,n=m.iF.frames.length:=⟨_,rfl⟩;obtain⟨x2,K⟩:∃n,n=m.iF.slots.length:=⟨_,rfl⟩;obtain⟨x3,Q⟩:∃n,n=m.iF.aj.length:=⟨_,rfl⟩;obtain⟨x4,J⟩:∃n,n=m.iF.hand:=⟨_,rfl⟩;obtain⟨no,O⟩:=ex m.out.length;generalize m.procs.length=np at Nt ⊢;rw[<- G,<- R,<- K,<- Q,<- J,<- O] at Nt ⊢;clear G R K Q J O;generalize picks.length=pl at Nt ⊢;clear hpl;obtain⟨WQ,A⟩:=ex ((w.alloc (.cells #[.slice a.aS x0 a.cS,.slice a.aF x1 a.cF,.slice a.aL x2 a.cL,.slice a.aP x3 a.cP,I x4,.slice ar np cr,.slice ao no co] 34)).alloc (.cells #[.slice ap pl cp] 48));have L:WQ.heap.size=w.heap.size+1+1:=by rw[A];simp
 have BQ:WQ.heap[w.heap.size+1]?=some (.cells #[.slice ap pl cp] 48 (0,0)):=by
  rw[A];have:=bH (w.alloc (.cells #[.slice a.aS x0 a.cS,.slice a.aF x1 a.cF,.slice a.aL x2 a.cL,.slice a.aP x3 a.cP,I x4,.slice ar np cr,.slice ao no co] 34)) #[.slice ap pl cp] 48;simpa using this
 have F:Below w.heap.size w WQ:=by rw[A];exact((aN w.heap.size w).alloc (aK _) _).alloc ξ _
 have jc:=ai (F.alloc F.size (.cells #[Nl,Nl,Nl,Nl,I 0,Nl,Nl] 34));have hq:(WQ.alloc (.cells #[Nl,Nl,Nl,Nl,I 0,Nl,Nl] 34)).cell? ⟨w.heap.size+1,0,none⟩=some (.slice ap pl cp):=aA (bu BQ _) 0 rfl;have BZ:=bH WQ #[Nl,Nl,Nl,Nl,I 0,Nl,Nl] 34;rw[L] at BZ;obtain⟨WA,pU⟩:=ex (WQ.alloc (.cells #[Nl,Nl,Nl,Nl,I 0,Nl,Nl] 34));rw[<- pU] at jc hq BZ;have M:=ai (Nt.o WA (w.heap.size+1) jc.o hq);have B:=ai BZ;rw[A] at pU;rw[pU] at M;have Au:=ai pU;clear pU A L BQ F hq BZ Nt;go_enter func20,ntmps20;go_wp2_with (go_at_call 45;refine M.o.mono ?_;rintro e w1 ⟨s0,n0,q0,s1,n1,q1,s2,n2,q2,s3,n3,q3,hd,s5,n5,q5,s6,n6,q6,er,rfl,hb,ho⟩;rw[<- Au.o] at hb ho;have cD:=ai hb;have X:=ai ho;have y:=aU B.o hb (aQ B.o);obtain⟨z0,z1,z2,z3,z4,z5,z6⟩:=B0 y;have f0:=bG y 0;have f1:=bG y 1;have f2:=bG y 2;have f3:=bG y 3;have f4:=bG y 4;have f5:=bG y 5;have f6:=bG y 6;clear hb ho y);refine b9 (v:=.tuple #[.agg #[.slice s0 n0 q0,.slice s1 n1 q1,.slice s2 n2 q2,.slice s3 n3 q3,I hd,.slice s5 n5 q5,.slice s6 n6 q6],I er]) (by simp[results,results20,go_sem,z0,z1,z2,z3,z4,z5,z6]) rfl ?_;have N:=vt w1 (w.heap.size+1+1) (.slice s0 n0 q0) (.slice s1 n1 q1) (.slice s2 n2 q2) (.slice s3 n3 q3) (I hd) (.slice s5 n5 q5) (.slice s6 n6 q6);have T:=aQ B.o;exact X.o _ (N.mono (λb _ e=>by rw[e];exact T)) (aH.below (jc.o.trans (cD.o.mono jc.o.size)) N (eJ jc.o.size cD.o.size) (λb e=>ω))
end Go.Proofs.YtlgoihmkgaaemaaGreat
