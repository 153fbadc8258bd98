import Derived.Test.YtlgoihmkgaaemaaGreatGN19
set_option maxHeartbeats 20000000
set_option linter.unusedVariables false
set_option maxRecDepth 100000
set_option linter.unusedSimpArgs false
namespace Go.Proofs.YtlgoihmkgaaemaaGreat
open Go.RowKit
theorem rR {l:List aX} {a n way:Int} (h1:1<=n) (h8:n<=8) (h:(bR l a n way).1=0):bR l a n way=(0,0)/\16<=a/\a+n<=4096/\∀i,0<=i->i<n->(aY l ((a+i)/16)).2=true:=by
 have hb:bR l a n way=cj l a way n.toNat:=by
  unfold bR at h ⊢;by_cases c:way=2/\¬a%8=0
  · rw[aC c] at h;cases h
  · rw[aA c]
 rw[hb] at h ⊢;have all:∀m:Nat,(cj l a way m).1=0->cj l a way m=(0,0)/\∀i:Nat,i<m->(iW l (a+i) way).1=0:=fun m=>by
  induction m with
  | zero=>intro _;exact⟨rfl,fun i hi=>by omega⟩
  | succ m ih =>
   intro hm;have h0:(cj l a way m).1=0:=by
    by_cases c:(cj l a way m).1=0
    · exact c
    · rw[cj,aA c] at hm;exact hm
   obtain⟨e,hi⟩:=ih h0;rw[uE e] at hm ⊢;refine⟨(pK hm).1,fun i hlt=>?_⟩;by_cases c:i=m
   · subst c;exact hm
   · exact hi i (by omega)
 obtain⟨e,hi⟩:=all n.toNat h;obtain⟨m,hm⟩:∃m,n.toNat=m+1:=⟨n.toNat-1,by omega⟩;have hs:=wK (l:=l) (a:=a) (way:=way) (k:=m) (by rw[<- hm];exact e);refine⟨e,hs.1,by omega,fun i h0 hn=>?_⟩;have:=hi i.toNat (by omega);rw[show a+(i.toNat:Int)=a+i by omega] at this;exact(pK this).2.2.1
theorem Fy {lo mb:Nat} {tt:TypeId} {X:List Value} (k:aT) (S:gI) (w:World) (j:Nat) (a n way:Int) (h:bK lo mb tt X w S k) (hR:aZ k) (hj:j<k.aj.length) (ha:cO a) (hn:1<=n/\n<=8) (hf:(bR (ak k.aj j).aU a n way).1≠0) :
  Calls Tryz.prog 272 #[.pointer (some (Ad mb 0)),I (j:Int),I a,I n,I way] w fun e w'=>e=.returned (.tuple #[Nl,.agg #[I (bR (ak k.aj j).aU a n way).1,I (bR (ak k.aj j).aU a n way).2]])/\Below w.heap.size w w':=by
 have hcc:=hR.c;obtain⟨pb,cP,A⟩:=h.toKr.sp (by omega);have c3:=h.c3;rw[A.v] at c3;have a1:=A.x1 j hj;have hfit:dO (ak k.aj j).aU:=lK _ (hR.sp hj).aU;have E7:=ai (fun V (hb:Below w.heap.size w V)=>UE _ _ a n way V (fZ.below (h.toKr.aU hj) hb) hfit ha (by omega));obtain⟨ax,cx,Ja,_,_⟩:=bj (h.each j hj).aU;rw[Ja] at E7 a1;have hji:(j:Int)<(k.aj.length:Int):=by omega
 have MV:=h.lt;have hpl:=A.lt;unfold gU at E7;obtain⟨F,hF⟩:=ex (bR (ak k.aj j).aU a n way);rw[<- hF] at E7 hf ⊢;obtain⟨f0,f1⟩:=F;simp only at E7 hf ⊢;have fb:(f0 != 0)=true:=by simpa using hf
 have gK:=ai ((aK w.heap.size w).alloc (aI _) (.cells #[I 0,I 0] 75));have R0:=ai (bE w #[I 0,I 0] 75);have d3:=(gK.o.cell (p:=(Ad mb 3)) MV).trans c3;have d1:=(gK.o.cell (p:=(Ad pb (j*3+1))) hpl).trans a1;obtain⟨np,AA⟩:=ex k.aj.length;rw[<- AA] at d3 hji;obtain⟨na,rz⟩:=ex ((ak k.aj j).aU.length);rw[<- rz] at d1 E7;clear h hR hj A c3 a1 hfit Ja hF hf hcc AA rz ha hn;go_enter Tryz.func272,Tryz.ntmps272;go_upto_region 3 with(go_at_call 283;refine(E7.o _ gK.o).mono ?_;rintro e w1 ⟨rfl,hb1⟩;have cN:=ai (bX gK.o hb1);have R1:=ai (aO R0.o hb1 (aJ R0.o));have FX:=ai (bE w1 #[I f0,I f1] 75);obtain⟨y0,y1⟩:=rq FX.o;clear hb1)
 have jV:=ai (cN.o.alloc cN.o.size (.cells #[I f0,I f1] 75));have PW:=aJ R1.o;have R2:=ai (br R1.o (.cells #[I f0,I f1] 75));obtain⟨z0,z1⟩:=rq R2.o;have q0:=aR R2.o 0;have q1:=aR R2.o 1;have hne:¬w.heap.size=w1.heap.size:=by omega
 obtain⟨W,hW⟩:=ex (w1.alloc (.cells #[I f0,I f1] 75));rw[<- hW] at jV R2 z0 z1 q0 q1 y0 y1 ⊢;clear hW;go_region;go_wp2;have R3:((W.setCell (Ad w.heap.size 0) (I f0)).setCell (Ad w.heap.size 1) (I f1)).heap[w.heap.size]?=some (.cells #[I f0,I f1] 75 (0,0)):=fh (fh R2.o 0 _) 1 _;obtain⟨v0,v1⟩:=rq R3;refine bO (v:=.tuple #[Nl,.agg #[I f0,I f1]]) (by simp[results,Tryz.results272,go_sem,v0,v1]) rfl ?_;exact⟨rfl,by first | exact((jV.o.setCell (p:=(Ad w.heap.size 0)) (aI _) _).setCell (p:=(Ad w.heap.size 1)) (aI _) _).drew | exact(jV.o.setCell (p:=(Ad w.heap.size 0)) (aI _) _).setCell (p:=(Ad w.heap.size 1)) (aI _) _⟩
open Go.RowKit
open Go.RowKit
def Xv (l:List jW):Prop:=∀i j,i<j->j<l.length->(kZ l i).page<(kZ l j).page
open Go.RowKit
def cV (p:Int):List jW->Option ByteArray
 | []=>none
 | x::r=>if x.page=p then some x.data else cV p r
theorem Ry:∀(l:List jW) (p:Int) (k:Nat),k<l.length->(∀j,j<k->¬(kZ l j).page=p)->(kZ l k).page=p->cV p l=some (kZ l k).data
 | [],p,k,h,_,_=>by simp at h
 | x::r,p,0,h,_,e=>by
  show(if x.page=p then some x.data else cV p r)=_;rw[aC (show x.page=p from e)];rfl
 | x::r,p,k+1,h,hn,e=>by
  show(if x.page=p then some x.data else cV p r)=_;rw[aA (show ¬x.page=p from hn 0 (by omega))];exact Ry r p k (by simp at h;omega) (fun j hj=>hn (j+1) (by omega)) e
open Go.RowKit
theorem TP {l:List jW} (h:(dg l).Pairwise (·<·)):Xv l:=fun i j hij hj=>by
 have hl:(dg l).length=l.length:=ia _;have:=acZ.1 h i j (by omega) (by omega) hij;rw[<- I6,<- I6,fG,fG,lW (show i<(dg l).length by omega),lW (show j<(dg l).length by omega)];exact this
open Go.RowKit
structure rM where
 slots:Int
 aj:List mZ
def oO (ps:List jW) (p:Int):ByteArray:=(cV p ps).getD ⟨#[]⟩
def nT (a n:Int):Int:=(a+n-1)/16
def uB (ps:List jW) (a n:Int):ByteArray:=if nT a n=a/16 then oO ps (a/16) else oO ps (a/16)++oO ps (nT a n)
def Gv (ps:List jW) (a n:Int):ByteArray:=(uB ps a n).extract (a%16).toNat ((a%16).toNat+n.toNat)
def pG (p:Int) (d:ByteArray) (ps:List jW):List jW:=ps.map (fun g=>if g.page=p then ⟨p,d⟩ else g)
def o8 (ps:List jW) (a:Int) (s:ByteArray):List jW :=
 if nT a s.size=a/16 then pG (a/16) ((iC (uB ps a s.size) (a%16).toNat s).extract 0 16) ps
 else pG (nT a s.size) ((iC (uB ps a s.size) (a%16).toNat s).extract 16 32) (pG (a/16) ((iC (uB ps a s.size) (a%16).toNat s).extract 0 16) ps)
def MJ:ByteArray:=⟨#[0,0,0,0,0,0,0,0,0,0,0,0,0,0,0,0]⟩
def xy (p:Int) (n:Nat):List jW:=(mn p n).map (fun x=>⟨x,MJ⟩)
def tY (ps:List jW) (p:Int):Nat:=(ps.takeWhile (fun g=>decide (g.page<p))).length
def sG (ps:List jW) (p:Int) (n:Nat):List jW:=ps.take (tY ps p)++(xy p n++ps.drop (tY ps p))
def tX (ps:List jW) (p n:Int):List jW:=ps.filter (fun g=>!(decide (p<=g.page/\g.page<p+n)))
def oN (m:rM) (k:Nat) (s:mZ):rM:={ m with aj:=m.aj.set k s }
def lJ (m:rM) (k:Nat) (a n way:Int):(ByteArray×(Int×Int))×rM :=
 if (bR (bB m.aj k).aU a n way).1=0 then ((Gv (bB m.aj k).aQ a n,(0,0)),m) else ((⟨#[]⟩,bR (bB m.aj k).aU a n way),m)
def nD (m:rM) (k:Nat) (a:Int) (d:ByteArray):(Int×Int)×rM :=
 if (bR (bB m.aj k).aU a d.size 1).1=0 then ((0,0),oN m k { bB m.aj k with aQ:=o8 (bB m.aj k).aQ a d }) else (bR (bB m.aj k).aU a d.size 1,m)
def zB (m:rM) (k:Nat) (p n q:Int):Int×rM :=
 if ¬(dK (bB m.aj k).aU p n q).2=0 then ((dK (bB m.aj k).aU p n q).2,m)
 else if m.slots<jg m.aj+n then (8,m)
 else (0,oN m k { bB m.aj k with aU:=(dK (bB m.aj k).aU p n q).1,aQ:=sG (bB m.aj k).aQ p n.toNat })
def tW (m:rM) (k:Nat) (p n:Int):Int×rM :=
 if ¬(cR (bB m.aj k).aU p n).2=0 then ((cR (bB m.aj k).aU p n).2,m)
 else (0,oN m k { bB m.aj k with aU:=(cR (bB m.aj k).aU p n).1,aQ:=tX (bB m.aj k).aQ p n })
def pH (m:rM) (k:Nat) (p n q:Int):Int×rM :=
 if ¬(bV (bB m.aj k).aU p n q).2=0 then ((bV (bB m.aj k).aU p n q).2,m)
 else (0,oN m k { bB m.aj k with aU:=(bV (bB m.aj k).aU p n q).1 })
def uC (m:rM) (k:Nat):Int×rM :=
 if 4<=m.aj.length then (2,m) else if m.slots<jg m.aj+bh (bB m.aj k).aU then (8,m)
 else (0,{ m with aj:=m.aj++[bB m.aj k] })
def agS (m:rM) (k:Nat):rM:=oN m k Jz
def Eu:gH rM:=⟨lJ,nD,zB,tW,pH,uC,agS⟩
structure qB (m:rM) (fl:List Bool):Prop where
 flags:fl=m.aj.map (·.live)
 each:∀k,k<m.aj.length->lT (bB m.aj k)=true
 room:jg m.aj<=m.slots
 slots:0<=m.slots/\m.slots<=512
 few:1<=m.aj.length/\m.aj.length<=4
theorem NW (l:List mZ) (k j:Nat) (s:mZ) (hk:k<l.length):bB (l.set k s) j=if j=k then s else bB l j:=by
 unfold bB;rw[fG,fG,G5];by_cases h:j=k
 · rw[aC h,aC h.symm];subst h;rw[aC hk];rfl
 · rw[aA h,aA (fun g=>h g.symm)]
theorem qB.live {m:rM} {fl:List Bool} (h:qB m fl) {k:Nat} (hk:fl.getD k false=true):k<m.aj.length/\(bB m.aj k).live=true:=by
 rw[h.flags,fG,AH] at hk;by_cases c:k<m.aj.length
 · rw[lW c] at hk;refine⟨c,?_⟩;unfold bB;rw[fG,lW c];exact hk
 · rw[Ps (by omega)] at hk;cases hk
structure qC (s:mZ):Prop where
 check:bk s.aU=0
 nums:dg s.aQ=dH s.aU
 size:∀k,k<s.aQ.length->(kZ s.aQ k).data.size=16
theorem xz {s:mZ} (h:lT s=true) (hl:s.live=true):qC s:=by
 unfold lT at h;rw[aC hl] at h;simp only[eQ,kX] at h;refine⟨h.1,h.2.1,fun k hk=>?_⟩;have:=h.2.2;unfold LQ at this;exact oP (qa.1 this _ (GG hk))
theorem Bx {s:mZ} (h:qC s) (hl:s.live=true):lT s=true:=by
 unfold lT;rw[aC hl,gZ h.check,gZ h.nums];have:LQ s.aQ=true:=by
  unfold LQ;rw[qa];intro p hp;obtain⟨k,hk,rfl⟩:=BH hp;exact gZ (h.size k hk)
 rw[this];rfl
theorem qC.mr {s:mZ} (h:qC s):Xv s.aQ:=TP (by rw[h.nums];exact(oC h.check).sorted)
theorem aah:∀(l:List mZ) (k:Nat) (s:mZ),k<l.length->jg (l.set k s)=jg l-bh (bB l k).aU+bh s.aU:=fun l k s hk=>by
 have key:∀n,n<=l.length->qF (l.set k s) n=qF l n+(if k<n then bh s.aU-bh (bB l k).aU else 0):=fun n=>by
  induction n with
  | zero=>intro _;rw[aA (by omega)];rfl
  | succ n ih =>
   intro hn;show qF (l.set k s) n+bh (bB (l.set k s) n).aU=qF l n+bh (bB l n).aU+_;rw[ih (by omega),NW l k n s hk];by_cases c:n=k
   · subst c;rw[aC rfl,aA (by omega),aC (by omega)];omega
   · rw[aA c];by_cases d:k<n
     · rw[aC d,aC (by omega)];omega
     · rw[aA d,aA (by omega)];omega
 unfold jg;rw[fJ,key _ (aI _),aC hk];omega
theorem LI (l:List mZ) (s:mZ):jg (l++[s])=jg l+bh s.aU:=by
 have key:∀n,n<=l.length->qF (l++[s]) n=qF l n:=fun n=>by
  induction n with
  | zero=>intro _;rfl
  | succ n ih =>
   intro hn;show qF (l++[s]) n+bh (bB (l++[s]) n).aU=qF l n+bh (bB l n).aU;rw[ih (by omega)];congr 3;unfold bB;rw[fG,fG,G9 (by omega)]
 unfold jg;rw[fK,AK];show qF (l++[s]) l.length+bh (bB (l++[s]) l.length).aU=_;rw[key _ (aI _)];congr 3;unfold bB;rw[fG,ze (aI _),GY];rfl
theorem Cv {a b:List Int} (ha:a.Pairwise (·<·)) (hb:b.Pairwise (·<·)) (h:∀x,x∈a↔x∈b):a=b :=
 LP b a ha hb (fun x hx=>(h x).1 hx) (Nat.le_antisymm (mU b a ha hb (fun x hx=>(h x).1 hx)) (mU a b hb ha (fun x hx=>(h x).2 hx)))
theorem fu {l:List aX} (hc:bk l=0) {x:Int}:x∈dH l↔(aY l x).2=true:=(rp hc x).symm
theorem TJ {l:List aX} (hc:bk l=0) {x:Int} (h:x∈dH l):1<=x/\x<256:=by
 have:=iu hc (fu hc |>.1 h);omega
theorem Es {l:List aX} {p n q:Int} (hc:bk l=0) (h:(dK l p n q).2=0):bk (dK l p n q).1=0/\(1<=p/\1<=n/\p+n<=256)/\(∀x,x∈dH (dK l p n q).1↔(x∈dH l∨(p<=x/\x<p+n)))/\(∀x,p<=x->x<p+n->x∉dH l):=by
 obtain⟨h1,h2⟩:=zF l p n q h;obtain⟨_,Hb,_,_,_⟩:=xE _ _ _ _ _ h;have hpb:=(oo p n).1 Hb;refine⟨h1,by omega,fun x=>?_,fun x g1 g2 hx=>?_⟩
 · rw[fu h1,fu hc];by_cases c:1<=x/\x<=255
   · obtain⟨m,rfl⟩:∃m:Nat,x=(m:Int):=⟨x.toNat,by omega⟩;obtain⟨k1,k2⟩:=h2 m (by omega) (by omega);by_cases d:p<=(m:Int)/\(m:Int)<p+n
     · exact⟨fun _=>.inr d,fun _=>(k1 d).2.1⟩
     · rw[(k2 d).1];exact⟨fun g=>.inl g,fun g=>by rcases g with g | g;exact g;exact(d g).elim⟩
   · constructor
     · intro g;have:=iu h1 g;omega
     · rintro(g | g)
       · have:=iu hc g;omega
       · omega
 · obtain⟨m,rfl⟩:∃m:Nat,x=(m:Int):=⟨x.toNat,by omega⟩;have:=(h2 m (by omega) (by omega)).1 ⟨g1,g2⟩;rw[fu hc,this.1] at hx;cases hx
theorem Gu {l:List aX} {p n:Int} (hc:bk l=0) (h:(cR l p n).2=0):bk (cR l p n).1=0/\(1<=p/\1<=n/\p+n<=256)/\(∀x,x∈dH (cR l p n).1↔(x∈dH l/\¬(p<=x/\x<p+n))):=by
 obtain⟨h1,h2⟩:=wL l p n h;obtain⟨_,Hb,_,_,_⟩:=xE _ _ _ _ _ h;have hpb:=(oo p n).1 Hb;refine⟨h1,by omega,fun x=>?_⟩;rw[fu h1,fu hc];by_cases c:1<=x/\x<=255
 · obtain⟨m,rfl⟩:∃m:Nat,x=(m:Int):=⟨x.toNat,by omega⟩;obtain⟨k1,k2⟩:=h2 m (by omega) (by omega);by_cases d:p<=(m:Int)/\(m:Int)<p+n
   · rw[k1 d];exact⟨(fun g=>by cases g),fun g=>(g.2 d).elim⟩
   · rw[(k2 d).1];exact⟨fun g=>⟨g,d⟩,fun g=>g.1⟩
 · constructor
   · intro g;have:=iu h1 g;omega
   · rintro⟨g,_⟩;have:=iu hc g;omega
theorem C5 {l:List aX} {p n q:Int} (hc:bk l=0) (h:(bV l p n q).2=0):bk (bV l p n q).1=0/\dH (bV l p n q).1=dH l:=by
 obtain⟨h1,h2⟩:=ub l p n q h;refine⟨h1,Cv (oC h1).sorted (oC hc).sorted (fun x=>?_)⟩;rw[fu h1,fu hc];by_cases c:1<=x/\x<=255
 · obtain⟨m,rfl⟩:∃m:Nat,x=(m:Int):=⟨x.toNat,by omega⟩;rw[(h2 m (by omega) (by omega)).1.1]
 · constructor
   · intro g;have:=iu h1 g;omega
   · intro g;have:=iu hc g;omega
open Go.RowKit
theorem zC {l:List aX} {a way:Int}:∀{k:Nat},(cj l a way k).1=0->∀j,j<k->iW l (a+j) way=(0,0)
 | 0,_,j,hj=>by omega
 | k+1,h,j,hj=>by
  have h0:(cj l a way k).1=0:=by
   by_cases c:(cj l a way k).1=0
   · exact c
   · rw[cj,aA c] at h;exact(c h).elim
  by_cases e:j=k
  · subst e;rw[cj,aC h0] at h;exact(pK h).1
  · exact zC h0 j (by omega)
theorem Rt {l:List aX} {a n way:Int} (h:(bR l a n way).1=0):bR l a n way=(0,0)/\(cj l a way n.toNat).1=0:=by
 unfold bR at h ⊢;by_cases c:way=2/\¬a%8=0
 · rw[aC c] at h;cases h
 · rw[aA c] at h ⊢;refine⟨?_,h⟩;cases hn:n.toNat with
   | zero=>rfl
   | succ m =>
    rw[hn] at h;have:=zC h m (by omega);rw[cj] at h ⊢;split at h
    · rename_i g
      rw[aC g];exact this
    · rename_i g
      exact(g h).elim
structure LK (ps:List jW) (a n:Int) (i:Nat):Prop where
 lt:i<ps.length
 first:(kZ ps i).page=a/16
 low:16<=a
 high:a+n<=4096
 last:nT a n=a/16∨nT a n=a/16+1/\i+1<ps.length/\(kZ ps (i+1)).page=nT a n
theorem NZ {s:mZ} (h:qC s) {p:Int} (hp:(aY s.aU p).2=true):∃i,i<s.aQ.length/\(kZ s.aQ i).page=p:=by
 have hm:=(rp h.check p).1 hp;rw[<- h.nums] at hm;obtain⟨g,hg,e⟩:=vH.1 hm;obtain⟨i,hi,rfl⟩:=BH hg;exact⟨i,hi,e⟩
theorem NY {s:mZ} (h:qC s) {a n way:Int} (hn:1<=n) (hn8:n<=16) (hf:(bR s.aU a n way).1=0):∃i,LK s.aQ a n i:=by
 obtain⟨_,hb⟩:=Rt hf;have h0:=pK (by rw[zC hb 0 (by omega)]:(iW s.aU (a+(0:Nat)) way).1=0);have hl:=pK (by rw[zC hb (n.toNat-1) (by omega)]:(iW s.aU (a+((n.toNat-1:Nat):Int)) way).1=0);have e0:a+((0:Nat):Int)=a:=by omega
 have el:a+((n.toNat-1:Nat):Int)=a+n-1:=by omega
 rw[e0] at h0;rw[el] at hl;obtain⟨_,ha0,hp0,_⟩:=h0;obtain⟨_,hal,hpl,_⟩:=hl;have r0:=iu h.check hp0;have rl:=iu h.check hpl;obtain⟨i,hi,ei⟩:=NZ h hp0;refine⟨i,hi,ei,by omega,by omega,?_⟩;by_cases c:nT a n=a/16
 · exact .inl c
 · have c2:nT a n=a/16+1:=by unfold nT at c ⊢;omega
   obtain⟨j,hj,ej⟩:=NZ h hpl;have ej':(kZ s.aQ j).page=a/16+1:=by rw[ej];exact c2
   have hr:=h.mr;have hij:i<j:=by
    rcases Nat.lt_trichotomy i j with g | g | g
    · exact g
    · subst g;omega
    · have:=hr j i g hi;omega
   have Vb:j=i+1:=by
    by_cases g:j=i+1
    · exact g
    · have g1:=hr i (i+1) (by omega) (by omega);have g2:=hr (i+1) j (by omega) hj;omega
   subst Vb;exact .inr ⟨c2,hj,ej⟩
theorem Rq {ps:List jW} (hr:Xv ps) {i:Nat} (hi:i<ps.length) {p:Int} (hp:(kZ ps i).page=p):oO ps p=(kZ ps i).data:=by
 unfold oO;rw[Ry ps p i hi (fun j hj e=>by have:=hr j i hj hi;omega) hp];rfl
theorem Et {s:mZ} (h:qC s) {a n:Int} {i:Nat} (hr:LK s.aQ a n i):((uB s.aQ a n).size=16/\nT a n=a/16)∨((uB s.aQ a n).size=32/\nT a n=a/16+1):=by
 unfold uB;rcases hr.last with c | ⟨c,hl,e⟩
 · rw[aC c,Rq h.mr hr.lt hr.first];exact .inl ⟨h.size i hr.lt,c⟩
 · rw[aA (by omega),Rq h.mr hr.lt hr.first,Rq h.mr hl e,U0,h.size i hr.lt,h.size _ hl];exact .inr ⟨rfl,c⟩
theorem Xg {s:mZ} (h:qC s) {a n:Int} (hn:1<=n) {i:Nat} (hr:LK s.aQ a n i):((Gv s.aQ a n).size:Int)=n:=by
 unfold Gv;rw[Pq];have h1:=hr.low;have h2:=hr.high;rcases Et h hr with⟨e1,e2⟩ | ⟨e1,e2⟩
 · unfold nT at e2;rw[e1];omega
 · unfold nT at e2;rw[e1];omega
theorem Gt (p:Int) (d:ByteArray) (ps:List jW):dg (pG p d ps)=dg ps:=by
 unfold dg pG;rw[List.map_map];apply U3;intro g _;show(if g.page=p then (⟨p,d⟩:jW) else g).page=g.page;split
 · rename_i e;exact e.symm
 · rfl
theorem acj (p:Int) (d:ByteArray) (ps:List jW):(pG p d ps).length=ps.length:=by unfold pG;rw[ia]
theorem aeD (p:Int) (d:ByteArray) (ps:List jW) (k:Nat) (hk:k<ps.length):kZ (pG p d ps) k=if (kZ ps k).page=p then ⟨p,d⟩ else kZ ps k:=by
 unfold kZ pG;rw[fG,fG,AH,lW hk];rfl
theorem Gs (p:Int) (d:ByteArray) (hd:d.size=16) (ps:List jW) (h:∀k,k<ps.length->(kZ ps k).data.size=16):∀k,k<(pG p d ps).length->(kZ (pG p d ps) k).data.size=16:=fun k hk=>by
 rw[acj] at hk;rw[aeD p d ps k hk];split
 · exact hd
 · exact h k hk
theorem Xf {s:mZ} (h:qC s) {a:Int} {d:ByteArray} {i:Nat} (hd:1<=d.size) (hr:LK s.aQ a d.size i):qC { s with aQ:=o8 s.aQ a d }:=by
 have h1:=hr.low;have hov:(iC (uB s.aQ a d.size) (a%16).toNat d).size=(uB s.aQ a d.size).size:=by
  apply I8;rcases Et h hr with⟨e1,e2⟩ | ⟨e1,e2⟩ <;> (unfold nT at e2;rw[e1];omega)
 refine⟨h.check,?_,?_⟩
 · show dg (o8 s.aQ a d)=_;unfold o8;split
   · rw[Gt];exact h.nums
   · rw[Gt,Gt];exact h.nums
 · show ∀k,k<(o8 s.aQ a d).length->(kZ (o8 s.aQ a d) k).data.size=16;unfold o8;rcases Et h hr with⟨e1,e2⟩ | ⟨e1,e2⟩
   · rw[aC e2];exact Gs _ _ (by rw[Pq,hov,e1];rfl) _ h.size
   · rw[aA (by omega)];exact Gs _ _ (by rw[Pq,hov,e1];rfl) _ (Gs _ _ (by rw[Pq,hov,e1];rfl) _ h.size)
theorem OJ {ps:List jW} (h:(dg ps).Pairwise (·<·)) (p:Int):∀x,x∈dg (ps.drop (tY ps p))->p<=x:=by
 unfold tY;induction ps with
 | nil=>intro x hx;cases hx
 | cons g r ih =>
  intro x hx;have hp:=AU.1 (show(g.page::dg r).Pairwise (·<·) from h);by_cases c:g.page<p
  · rw[acS (by simpa using c),xM,UW] at hx;exact ih hp.2 x hx
  · rw[acR (by simpa using c)] at hx;rcases uI.1 (show x∈g.page::dg r from hx) with e | e
    · omega
    · have:=hp.1 x e;omega
theorem aaf (ps:List jW) (p:Int):∀x,x∈dg (ps.take (tY ps p))->x<p:=by
 unfold tY;induction ps with
 | nil=>intro x hx;cases hx
 | cons g r ih =>
  intro x hx;by_cases c:g.page<p
  · rw[acS (by simpa using c),xM,UT] at hx;rcases uI.1 (show x∈g.page::dg (r.take _) from hx) with e | e
    · omega
    · exact ih x e
  · rw[acR (by simpa using c)] at hx;cases hx
theorem C6 (p:Int) (n:Nat):dg (xy p n)=mn p n:=by
 unfold dg xy;rw[List.map_map];exact List.map_id _
theorem tD (a b:List jW):dg (a++b)=dg a++dg b:=by unfold dg;rw[AE]
theorem ack {s:mZ} (h:qC s) {p n q:Int} (hm:(dK s.aU p n q).2=0):qC { s with aU:=(dK s.aU p n q).1,aQ:=sG s.aQ p n.toNat }:=by
 obtain⟨h1,h2,h3,h4⟩:=Es h.check hm;have hs:(dg s.aQ).Pairwise (·<·):=by rw[h.nums];exact(oC h.check).sorted
 have U9:dg s.aQ=dg (s.aQ.take (tY s.aQ p))++dg (s.aQ.drop (tY s.aQ p)):=by rw[<- tD,U8]
 rw[U9] at hs;obtain⟨q1,q2,q3⟩:=G7.1 hs;have hlo:=aaf s.aQ p;have hhi:=OJ (ps:=s.aQ) (by rw[U9];exact hs) p;have PQ:∀x,x∈dg (s.aQ.drop (tY s.aQ p))->p+n<=x:=fun x hx=>by
  have g1:=hhi x hx;by_cases c:x<p+n
  · exfalso;refine h4 x g1 c ?_;rw[<- h.nums,U9];exact List.mem_append_right _ hx
  · omega
 refine⟨h1,?_,?_⟩
 · show dg (sG s.aQ p n.toNat)=_;refine Cv ?_ (oC h1).sorted (fun x=>?_)
   · unfold sG;rw[tD,tD,C6];refine G7.2 ⟨q1,G7.2 ⟨uD _ _,q2,fun x hx y hy=>?_⟩,fun x hx y hy=>?_⟩
     · have:=(pS _ _ _).1 hx;have:=PQ y hy;omega
     · have g1:=hlo x hx;rcases lV.1 hy with g | g
       · have:=(pS _ _ _).1 g;omega
       · have:=hhi y g;omega
   · rw[h3];unfold sG;rw[tD,tD,C6,lV,lV,pS,<- h.nums,U9,lV];constructor
     · rintro(g | g | g)
       · exact .inl (.inl g)
       · exact .inr (by omega)
       · exact .inl (.inr g)
     · rintro((g | g) | g)
       · exact .inl g
       · exact .inr (.inr g)
       · exact .inr (.inl (by omega))
 · intro k hk;have hm2:=GG hk;have:∀g∈sG s.aQ p n.toNat,g.data.size=16:=fun g hg=>by
    unfold sG at hg;have old:∀g∈s.aQ,g.data.size=16:=fun g hg=>by
     obtain⟨k,hk,rfl⟩:=BH hg;exact h.size k hk
    rcases lV.1 hg with e | e
    · exact old g (List.mem_of_mem_take e)
    · rcases lV.1 e with e | e
      · obtain⟨x,_,rfl⟩:=vH.1 e;rfl
      · exact old g (UY e)
   exact this _ hm2
theorem Xe {s:mZ} (h:qC s) {p n:Int} (hm:(cR s.aU p n).2=0):qC { s with aU:=(cR s.aU p n).1,aQ:=tX s.aQ p n }:=by
 obtain⟨h1,h2,h3⟩:=Gu h.check hm;have hs:(dg s.aQ).Pairwise (·<·):=by rw[h.nums];exact(oC h.check).sorted
 refine⟨h1,?_,?_⟩
 · show dg (tX s.aQ p n)=_;refine Cv ?_ (oC h1).sorted (fun x=>?_)
   · unfold dg tX;exact UZ ((List.filter_sublist).map _) hs
   · rw[h3,<- h.nums];unfold dg tX;simp only[vH,UH];constructor
     · rintro⟨g,⟨h5,h6⟩,rfl⟩;exact⟨⟨g,h5,rfl⟩,by simp at h6;omega⟩
     · rintro⟨⟨g,h5,rfl⟩,h6⟩;exact⟨g,⟨h5,by simp;omega⟩,rfl⟩
 · intro k hk;have hm2:=GG hk;have:∀g∈tX s.aQ p n,g.data.size=16:=fun g hg=>by
    unfold tX at hg;obtain⟨k,hk,rfl⟩:=BH (UH.1 hg).1;exact h.size k hk
   exact this _ hm2
theorem rh {s:mZ} (h:qC s):bh s.aU=(s.aQ.length:Int):=by
 rw[tE h.check,<- h.nums];unfold dg;rw[ia]
theorem Rp {m:rM} {fl:List Bool} (h:qB m fl) {k:Nat} (hk:k<m.aj.length) {s:mZ} (hs:lT s=true) (hr:jg m.aj-bh (bB m.aj k).aU+bh s.aU<=m.slots):qB (oN m k s) (fl.set k s.live):=by
 refine⟨?_,fun j hj=>?_,?_,h.slots,?_⟩
 · rw[h.flags];show(m.aj.map (·.live)).set k s.live=(m.aj.set k s).map (·.live);rw[OZ]
 · have hj':j<m.aj.length:=by
    have:j<(m.aj.set k s).length:=hj;rw[fJ] at this;exact this
   show lT (bB (m.aj.set k s) j)=true;rw[NW _ _ _ _ hk];split
   · exact hs
   · exact h.each j hj'
 · show jg (m.aj.set k s)<=m.slots;rw[aah _ _ _ hk];exact hr
 · show 1<=(m.aj.set k s).length/\(m.aj.set k s).length<=4;rw[fJ];exact h.few
theorem aag (fl:List Bool) (k:Nat) (b:Bool) (h:fl.getD k false=b):fl.set k b=fl:=by
 apply AJ;intro j;rw[G5];by_cases e:k=j
 · subst e;by_cases c:k<fl.length
   · rw[fG,lW c] at h;rw[aC rfl,aC c,lW c];exact dI some h.symm
   · rw[aC rfl,aA c,Ps (by omega)]
 · rw[aA e]
theorem zz {m:rM} {fl:List Bool} (h:qB m fl) {k:Nat} (hf:fl.getD k false=true) (hk:k<m.aj.length) {s:mZ} (hl:s.live=true) (hs:lT s=true) (hr:jg m.aj-bh (bB m.aj k).aU+bh s.aU<=m.slots):qB (oN m k s) fl:=by
 have:=Rp h hk hs hr;rw[hl,aag fl k true hf] at this;exact this
theorem Xh (l:List aX) (p way:Int):0<=(iW l p way).1/\(iW l p way).1<=4:=by
 unfold iW;split
 · exact⟨by simp[cj,bM],by simp[cj,bM]⟩
 · split <;> exact⟨by simp[cj,bM],by simp[cj,bM]⟩
theorem I0 (l:List aX) (a way:Int):∀k,0<=(cj l a way k).1/\(cj l a way k).1<=4
 | 0=>⟨by simp[cj,bM],by simp[cj,bM]⟩
 | k+1=>by
  rw[cj];split
  · exact Xh _ _ _
  · exact I0 l a way k
theorem yg (l:List aX) (a n way:Int):0<=(bR l a n way).1/\(bR l a n way).1<=4:=by
 unfold bR;split
 · exact⟨by simp[cj,bM],by simp[cj,bM]⟩
 · exact I0 _ _ _ _
theorem aeE (ps:List jW) (p:Int):tY ps p<=ps.length:=by
 unfold tY;exact List.Sublist.length_le (List.takeWhile_sublist _)
theorem acm (ps:List jW) (p:Int) (n:Nat):(sG ps p n).length=ps.length+n:=by
 have:=aeE ps p;unfold sG xy;rw[fK,fK,qM,y8,ia,Cx];omega
theorem Rs (q:Int) (s:dm):0<=(eW q s).2/\(eW q s).2<=10:=by
 unfold eW;split <;> exact⟨by simp[cj,bM],by simp[cj,bM]⟩
theorem LJ (s:dm):0<=(bM s).2/\(bM s).2<=10:=⟨by simp[cj,bM],by simp[cj,bM]⟩
theorem Gw (q:Int) (s:dm):0<=(cE q s).2/\(cE q s).2<=10:=by
 unfold cE;split <;> exact⟨by simp[cj,bM],by simp[cj,bM]⟩
theorem UB (F:Nat->dm) (how:dm->dm×Int) (hh:∀s,0<=(how s).2/\(how s).2<=10):∀c n,0<=gz F how n c/\gz F how n c<=10
 | 0,n=>⟨by show(0:Int)<=0;omega,by show(0:Int)<=10;omega⟩
 | c+1,n=>by
  unfold gz;split
  · exact UB F how hh c (n+1)
  · exact hh _
theorem aai (l:List aX):0<=bk l/\bk l<=10:=by
 unfold bk;split
 · exact⟨by simp[cj,bM],by simp[cj,bM]⟩
 · split <;> exact⟨by simp[cj,bM],by simp[cj,bM]⟩
theorem qA (l:List aX) (p n q:Int) (how:dm->dm×Int) (hh:∀s,0<=(how s).2/\(how s).2<=10):0<=(dQ l p n q how).2/\(dQ l p n q how).2<=10:=by
 unfold dQ;split
 · split
   · split
     · exact⟨by simp[cj,bM],by simp[cj,bM]⟩
     · exact UB _ _ hh _ _
   · exact⟨by simp[cj,bM],by simp[cj,bM]⟩
 · exact aai l
theorem acn:qE Eu qB where
 load:=fun s fl k a n way h hk=>by
  show qB (lJ s k a n way).2 fl;unfold lJ;split <;> exact h
 size:=fun s fl k a n way h hk hn hn8 hf=>by
  obtain⟨hlt,hlv⟩:=h.live hk;have hL:=xz (h.each k hlt) hlv;have hf':(lJ s k a n way).1.2.1=0:=hf;show((lJ s k a n way).1.1.size:Int)=n;unfold lJ at hf' ⊢;by_cases c:(bR (bB s.aj k).aU a n way).1=0
  · rw[aC c];obtain⟨i,hi⟩:=NY hL hn (by omega) c;exact Xg hL hn hi
  · rw[aA c] at hf';exact(c hf').elim
 fault:=fun s fl k a n way h hk=>by
  show 0<=(lJ s k a n way).1.2.1/\(lJ s k a n way).1.2.1<=4/\((lJ s k a n way).1.2.1=0->(lJ s k a n way).1.2=(0,0));unfold lJ;have:=yg (bB s.aj k).aU a n way;split
  · exact⟨by simp,by simp,fun _=>rfl⟩
  · rename_i c
    exact⟨this.1,this.2,fun g=>(c g).elim⟩
 none:=fun s fl k a n way h hk hf=>by
  have hf':¬(lJ s k a n way).1.2.1=0:=hf;show(lJ s k a n way).1.1=⟨#[]⟩;unfold lJ at hf' ⊢;split
  · rename_i c
    rw[aC c] at hf';exact(hf' rfl).elim
  · rfl
 store:=fun s fl k a d h hk hd1 hd8=>by
  obtain⟨hlt,hlv⟩:=h.live hk;have hL:=xz (h.each k hlt) hlv;show qB (nD s k a d).2 fl;unfold nD;split
  · rename_i c
    obtain⟨i,hi⟩:=NY hL (by omega) (by omega) c;have hL2:=Xf hL hd1 hi;exact zz h hk hlt hlv (Bx hL2 hlv) (by
      have:=h.room;show jg s.aj-bh (bB s.aj k).aU+bh (bB s.aj k).aU<=s.slots;omega)
  · exact h
 P5:=fun s fl k a d h hk=>by
  show 0<=(nD s k a d).1.1/\(nD s k a d).1.1<=4/\((nD s k a d).1.1=0->(nD s k a d).1=(0,0));unfold nD;have:=yg (bB s.aj k).aU a d.size 1;split
  · exact⟨by simp,by simp,fun _=>rfl⟩
  · rename_i c
    exact⟨this.1,this.2,fun g=>(c g).elim⟩
 map:=fun s fl k p n q h hk=>by
  obtain⟨hlt,hlv⟩:=h.live hk;have hL:=xz (h.each k hlt) hlv;show qB (zB s k p n q).2 fl;unfold zB;split
  · exact h
  · rename_i c
    have c':(dK (bB s.aj k).aU p n q).2=0:=UM.1 c;split
    · exact h
    · rename_i c2
      have hL2:=ack hL c';exact zz h hk hlt hlv (Bx hL2 hlv) (by
       rw[rh hL,rh hL2];have hlen:=(Es hL.check c').2.1;have:(sG (bB s.aj k).aQ p n.toNat).length=(bB s.aj k).aQ.length+n.toNat:=acm _ _ _;show jg s.aj-((bB s.aj k).aQ.length:Int)+((sG (bB s.aj k).aQ p n.toNat).length:Int)<=s.slots;rw[this];omega)
 pd:=fun s fl k p n h hk=>by
  obtain⟨hlt,hlv⟩:=h.live hk;have hL:=xz (h.each k hlt) hlv;show qB (tW s k p n).2 fl;unfold tW;split
  · exact h
  · rename_i c
    have c':(cR (bB s.aj k).aU p n).2=0:=UM.1 c;have hL2:=Xe hL c';exact zz h hk hlt hlv (Bx hL2 hlv) (by
      rw[rh hL,rh hL2];have:(tX (bB s.aj k).aQ p n).length<=(bB s.aj k).aQ.length:=List.length_filter_le _ _;show jg s.aj-((bB s.aj k).aQ.length:Int)+((tX (bB s.aj k).aQ p n).length:Int)<=s.slots;have:=h.room;omega)
 jt:=fun s fl k p n q h hk=>by
  obtain⟨hlt,hlv⟩:=h.live hk;have hL:=xz (h.each k hlt) hlv;show qB (pH s k p n q).2 fl;unfold pH;split
  · exact h
  · rename_i c
    have c':(bV (bB s.aj k).aU p n q).2=0:=UM.1 c;obtain⟨g1,g2⟩:=C5 hL.check c';have hL2:qC { bB s.aj k with aU:=(bV (bB s.aj k).aU p n q).1 }:=⟨g1,by show dg (bB s.aj k).aQ=_;rw[hL.nums];exact g2.symm,hL.size⟩;exact zz h hk hlt hlv (Bx hL2 hlv) (by
      have e1:bh (bV (bB s.aj k).aU p n q).1=((bB s.aj k).aQ.length:Int):=rh hL2;have e2:=rh hL;have:=h.room;show jg s.aj-bh (bB s.aj k).aU+bh (bV (bB s.aj k).aU p n q).1<=s.slots;omega)
 P4:=fun s fl k h hk hf=>by
  have hf':¬(uC s k).1=0:=hf;show qB (uC s k).2 fl;unfold uC at hf' ⊢;split
  · exact h
  · split
    · exact h
    · rename_i c1 c2
      rw[aA c1,aA c2] at hf';exact(hf' rfl).elim
 JW:=fun s fl k h hk hf=>by
  obtain⟨hlt,hlv⟩:=h.live hk;have hf':(uC s k).1=0:=hf;show qB (uC s k).2 (fl++[true]);unfold uC at hf' ⊢;by_cases c1:4<=s.aj.length
  · rw[aC c1] at hf';cases hf'
  · rw[aA c1] at hf' ⊢;by_cases c2:s.slots<jg s.aj+bh (bB s.aj k).aU
    · rw[aC c2] at hf';cases hf'
    · rw[aA c2];refine⟨?_,fun j hj=>?_,?_,h.slots,?_⟩
      · rw[h.flags];show _=(s.aj++[bB s.aj k]).map (·.live);rw[AE,UR,hlv]
      · have hj':j<(s.aj++[bB s.aj k]).length:=hj;rw[fK,AK] at hj';show lT (bB (s.aj++[bB s.aj k]) j)=true;by_cases c:j<s.aj.length
        · have:bB (s.aj++[bB s.aj k]) j=bB s.aj j:=by
           unfold bB;rw[fG,G9 c,<- fG]
          rw[this];exact h.each j c
        · have:bB (s.aj++[bB s.aj k]) j=bB s.aj k:=by
           obtain rfl:j=s.aj.length:=by omega
           show(s.aj++[bB s.aj k]).getD s.aj.length Jz=_;rw[fG,ze (aI _),GY];rfl
          rw[this];exact h.each k hlt
      · show jg (s.aj++[bB s.aj k])<=s.slots;rw[LI];omega
      · show 1<=(s.aj++[bB s.aj k]).length/\(s.aj++[bB s.aj k]).length<=4;rw[fK,AK];omega
 afj:=fun s fl k p n q h hk=>by
  show 0<=(zB s k p n q).1/\(zB s k p n q).1<=10;unfold zB;split
  · exact qA _ _ _ _ _ (Rs q)
  · split <;> exact⟨by simp[cj,bM],by simp[cj,bM]⟩
 PL:=fun s fl k p n h hk=>by
  show 0<=(tW s k p n).1/\(tW s k p n).1<=10;unfold tW;split
  · exact qA _ _ _ _ _ LJ
  · exact⟨by simp[cj,bM],by simp[cj,bM]⟩
 Fa:=fun s fl k p n q h hk=>by
  show 0<=(pH s k p n q).1/\(pH s k p n q).1<=10;unfold pH;split
  · exact qA _ _ _ _ _ (Gw q)
  · exact⟨by simp[cj,bM],by simp[cj,bM]⟩
 few:=fun s fl h=>by rw[h.flags,ia];exact h.few.2
 drop:=fun s fl k h hk=>by
  obtain⟨hlt,hlv⟩:=h.live hk;have hL:=xz (h.each k hlt) hlv;have:=Rp h hlt (s:=Jz) rfl (by
   have h0:bh Jz.aU=0:=rfl;rw[h0,rh hL];have:=h.room;omega)
  exact this
open Go.RowKit
def df (k:aT) (j:Nat):List aX:=(ak k.aj j).aU
def gP (k:aT) (j:Nat) (a n way:Int):(ByteArray×(Int×Int))×aT :=
 if ¬(1<=n/\n<=8) then ((⟨#[]⟩,(0,0)),k) else if (bR (df k j) a n way).1=0 then ((ma k j a n way,(0,0)),(bf k j a n way).2) else ((⟨#[]⟩,bR (df k j) a n way),k)
def jb (k:aT) (j:Nat) (a:Int) (d:ByteArray):(Int×Int)×aT :=
 if (bR (df k j) a d.size 1).1=0 then ((0,0),lC k j a d) else (bR (df k j) a d.size 1,k)
def eH (k:aT) (j:Nat) (r:List aX×Int):Int×aT :=
 if ¬r.2=0 then (r.2,k) else if eB k.aj-bh (df k j)+bh r.1>(k.slots.length:Int) then (8,k) else (0,gF k j r.1)
def gu (k:aT) (j:Nat):Int×aT :=
 if k.aj.length=4 then (2,k) else if eB k.aj+bh (df k j)>(k.slots.length:Int) then (8,k) else (0,gJ k j)
def fX:gH aT:=⟨gP,jb,fun k j p n q=>eH k j (dK (df k j) p n q),fun k j p n=>eH k j (cR (df k j) p n),fun k j p n q=>eH k j (bV (df k j) p n q),gu,jy⟩
structure dn (k:aT) (fl:List Bool):Prop where
 right:aZ k
 flags:fl=k.aj.map (·.live)
theorem ab6 {l:List cY} {j:Nat} (h:(l.map (·.live)).getD j false=true):j<l.length/\(ak l j).live=true:=by
 by_cases c:j<l.length
 · refine⟨c,?_⟩;unfold ak
   grind
 · grind
theorem WU {l r:List cY} (hn:r.length=l.length) (h:∀m,m<l.length->(ak r m).live=(ak l m).live):r.map (·.live)=l.map (·.live):=by
 apply UK (by simp[hn]);intro i h1 h2;have:=h i (by simpa using h2);unfold ak at this
 grind
variable {k:aT} {fl:List Bool} {j:Nat}
theorem dn.at_ (h:dn k fl) (hk:fl.getD j false=true):j<k.aj.length/\(ak k.aj j).live=true:=by
 rw[h.flags] at hk;exact ab6 hk
theorem mi {a n way:Int} (h1:1<=n) (h8:n<=8) (hf:(bR (df k j) a n way).1=0):ez k j (a/16)/\ez k j (cD a n)/\(16<=a/\a+n<=4096):=by
 obtain⟨_,hal,hau,hmap⟩:=rR h1 h8 hf;refine⟨?_,?_,hal,hau⟩
 · have:=hmap 0 (by omega) (by omega);rw[Dj] at this;exact this
 · have:=hmap (n-1) (by omega) (by omega);unfold cD;rw[show a+n-1=a+(n-1) by omega];exact this
theorem Ju (h:dn k fl) {k':aT} (hr:aZ k') (hn:k'.aj.length=k.aj.length) (hl:∀m,m<k.aj.length->(ak k'.aj m).live=(ak k.aj m).live):dn k' fl:=⟨hr,by rw[h.flags,WU hn hl]⟩
theorem Gm {a n way:Int} (h:¬(1<=n/\n<=8)):gP k j a n way=((⟨#[]⟩,(0,0)),k):=by grind [gP]
theorem tB {a n way:Int} (h1:1<=n) (h8:n<=8) (hf:¬(bR (df k j) a n way).1=0):gP k j a n way=((⟨#[]⟩,bR (df k j) a n way),k):=by grind [gP]
theorem qK {a n way:Int} (h1:1<=n) (h8:n<=8) (hf:(bR (df k j) a n way).1=0):gP k j a n way=((ma k j a n way,(0,0)),(bf k j a n way).2):=by grind [gP]
theorem tA {a:Int} {d:ByteArray} (hf:¬(bR (df k j) a d.size 1).1=0):jb k j a d=(bR (df k j) a d.size 1,k):=by grind [jb]
theorem qX {a:Int} {d:ByteArray} (hf:(bR (df k j) a d.size 1).1=0):jb k j a d=((0,0),lC k j a d):=by grind [jb]
theorem Jt (h:dn k fl) (hk:fl.getD j false=true) {r:List aX×Int} (hr:r.2=0->bk r.1=0/\xp (df k j) r.1):dn (eH k j r).2 fl:=by
 obtain⟨hj,hl⟩:=h.at_ hk;unfold eH;by_cases c:r.2=0
 · rw[aA (fun x=>x c)];by_cases c2:eB k.aj-bh (df k j)+bh r.1>(k.slots.length:Int)
   · rw[aC c2];exact h
   · rw[aA c2];obtain⟨g1,g2⟩:=hr c;obtain⟨_,_,_,_,hn,hs⟩:=qx k hj r.1;refine Ju h (QX h.right hj hl g1 g2 (by unfold df at c2;omega)) hn (fun m hm=>?_);have:=hs m hm
     grind
 · rw[aC c];exact h
theorem Gi {r:List aX×Int} (h:0<=r.2/\r.2<=10):0<=(eH k j r).1/\(eH k j r).1<=10:=by grind [eH]
theorem iq:qE fX dn where
 load:=fun s fl k a n way h hk=>by
  show dn (gP s k a n way).2 fl;obtain⟨hj,hl⟩:=h.at_ hk;by_cases c:1<=n/\n<=8
  · by_cases g:(bR (df s k) a n way).1=0
    · rw[qK c.1 c.2 g];obtain⟨m1,m2,_⟩:=mi c.1 c.2 g;have R:=nZ h.right hj a n way m1 m2;exact Ju h R.right R.kept.np R.kept.live
    · rw[tB c.1 c.2 g];exact h
  · rw[Gm c];exact h
 size:=fun s fl k a n way h hk h1 h8 hf=>by
  have hf:(gP s k a n way).1.2.1=0:=hf;show((gP s k a n way).1.1.size:Int)=n;obtain⟨hj,hl⟩:=h.at_ hk;by_cases g:(bR (df s k) a n way).1=0
  · rw[qK h1 h8 g];obtain⟨m1,m2,_⟩:=mi h1 h8 g;show((ma s k a n way).size:Int)=n;rw[xo h.right hj a n way m1 m2,We ⟨pB h.right hj m1,pB h.right hj m2⟩ h1 h8];omega
  · rw[tB h1 h8 g] at hf;exact absurd hf g
 fault:=fun s fl k a n way h hk=>by
  show 0<=(gP s k a n way).1.2.1/\(gP s k a n way).1.2.1<=4/\((gP s k a n way).1.2.1=0->(gP s k a n way).1.2=(0,0));have:=yg (df s k) a n way;by_cases c:1<=n/\n<=8
  · by_cases g:(bR (df s k) a n way).1=0
    · rw[qK c.1 c.2 g];simp
    · rw[tB c.1 c.2 g];exact⟨this.1,this.2,fun x=>absurd x g⟩
  · rw[Gm c];simp
 none:=fun s fl k a n way h hk hf=>by
  have hf:¬(gP s k a n way).1.2.1=0:=hf;show(gP s k a n way).1.1=⟨#[]⟩
  grind [gP]
 store:=fun s fl k a d h hk h1 h8=>by
  show dn (jb s k a d).2 fl;obtain⟨hj,hl⟩:=h.at_ hk;by_cases g:(bR (df s k) a d.size 1).1=0
  · rw[qX g];obtain⟨m1,m2,_⟩:=mi (by omega) (by omega) g;have R:=wh h.right hj a d (by omega) (by omega) m1 m2;exact Ju h R.right R.np R.live
  · rw[tA g];exact h
 P5:=fun s fl k a d h hk=>by
  show 0<=(jb s k a d).1.1/\(jb s k a d).1.1<=4/\((jb s k a d).1.1=0->(jb s k a d).1=(0,0));have:=yg (df s k) a d.size 1;by_cases g:(bR (df s k) a d.size 1).1=0
  · rw[qX g];simp
  · rw[tA g];exact⟨this.1,this.2,fun x=>absurd x g⟩
 map:=fun s fl k p n q h hk=>Jt h hk (fun e=>Ir e)
 pd:=fun s fl k p n h hk=>Jt h hk (fun e=>yM e)
 jt:=fun s fl k p n q h hk=>Jt h hk (fun e=>Bi e)
 P4:=fun s fl k h hk hf=>by
  have hf:¬(gu s k).1=0:=hf;show dn (gu s k).2 fl;have:(gu s k).2=s:=by grind [gu]
  rw[this];exact h
 JW:=fun s fl k h hk hf=>by
  have hf:(gu s k).1=0:=hf;show dn (gu s k).2 (fl++[true]);obtain⟨hj,hl⟩:=h.at_ hk;unfold gu at hf ⊢;by_cases c:s.aj.length=4
  · rw[aC c] at hf;cases hf
  rw[aA c] at hf ⊢;by_cases c2:eB s.aj+bh (df s k)>(s.slots.length:Int)
  · rw[aC c2] at hf;cases hf
  rw[aA c2];have F:=vt h.right hj;refine⟨S8 h.right hj c (by unfold df at c2;omega),?_⟩;show _=(gJ s k).aj.map _;rw[F.aj,AE,h.flags,<- hl];rfl
 afj:=fun s fl k p n q h hk=>Gi (qA _ _ _ _ _ (Rs q))
 PL:=fun s fl k p n h hk=>Gi (qA _ _ _ _ _ LJ)
 Fa:=fun s fl k p n q h hk=>Gi (qA _ _ _ _ _ (Gw q))
 few:=fun s fl h=>by rw[h.flags,ia];exact h.right.c.2.2.1.2
 drop:=fun s fl k h hk=>by
  show dn (jy s k) (fl.set k false);obtain⟨hj,hl⟩:=h.at_ hk;refine⟨Ta h.right hj,?_⟩;show _=((dD s k (fun _=>true)).aj.set k qV).map _;rw[gL,pY,h.flags,OZ];rfl
end Go.Proofs.YtlgoihmkgaaemaaGreat
