import Derived.Test.YtlgoihmkgaaemaaGreatGM19
set_option maxHeartbeats 20000000
set_option linter.unusedVariables false
set_option maxRecDepth 100000
set_option linter.unusedSimpArgs false
namespace Go.Proofs.YtlgoihmkgaaemaaGreat
open Go.RowKit
theorem rD {l:List aX} {a n way:Int} (h1:1<=n) (h8:n<=8) (h:(bN l a n way).1=0):bN l a n way=(0,0)/\16<=a/\a+n<=4096/\∀i,0<=i->i<n->(aW l ((a+i)/16)).2=true:=by
 have hb:bN l a n way=bZ l a way n.toNat:=by
  unfold bN at h ⊢;by_cases c:way=2/\¬a%8=0
  · rw[aB c] at h;cases h
  · rw[au c]
 rw[hb] at h ⊢;have all:∀m:Nat,(bZ l a way m).1=0->bZ l a way m=(0,0)/\∀i:Nat,i<m->(iN l (a+i) way).1=0:=fun m=>by
  induction m with
  | zero=>intro _;exact⟨rfl,fun i hi=>by omega⟩
  | succ m ih =>
   intro hm;have h0:(bZ l a way m).1=0:=by
    by_cases c:(bZ l a way m).1=0
    · exact c
    · rw[bZ,au c] at hm;exact hm
   obtain⟨e,hi⟩:=ih h0;rw[uu e] at hm ⊢;refine⟨(pD hm).1,fun i hlt=>?_⟩;by_cases c:i=m
   · subst c;exact hm
   · exact hi i (by omega)
 obtain⟨e,hi⟩:=all n.toNat h;obtain⟨m,hm⟩:∃m,n.toNat=m+1:=⟨n.toNat-1,by omega⟩;have hs:=wj (l:=l) (a:=a) (way:=way) (k:=m) (by rw[<- hm];exact e);refine⟨e,hs.1,by omega,fun i h0 hn=>?_⟩;have:=hi i.toNat (by omega);rw[show a+(i.toNat:Int)=a+i by omega] at this;exact(pD this).2.2.1
theorem Fi {lo mb:Nat} {tt:TypeId} {X:List Value} (k:aR) (S:gB) (w:World) (j:Nat) (a n way:Int) (h:bH lo mb tt X w S k) (hR:aY k) (hj:j<k.aj.length) (ha:cK a) (hn:1<=n/\n<=8) (hf:(bN (ak k.aj j).aT a n way).1≠0) :
  Calls Tryz.prog 272 #[.pointer (some (Ad mb 0)),I (j:Int),I a,I n,I way] w fun e w'=>e=.returned (.tuple #[Nl,.agg #[I (bN (ak k.aj j).aT a n way).1,I (bN (ak k.aj j).aT a n way).2]])/\Below w.heap.size w w':=by
 have hcc:=hR.c;obtain⟨pb,cP,A⟩:=h.toKr.sp (by omega);have c3:=h.c3;rw[A.v] at c3;have a1:=A.x1 j hj;have hfit:dH (ak k.aj j).aT:=lC _ (hR.sp hj).aT;have ES:=ai (fun V (hb:Below w.heap.size w V)=>Ui _ _ a n way V (gu.below (h.toKr.aT hj) hb) hfit ha (by omega));obtain⟨ax,cx,IP,_,_⟩:=bh (h.each j hj).aT;rw[IP] at ES a1;have hji:(j:Int)<(k.aj.length:Int):=by omega
 have MH:=h.lt;have hpl:=A.lt;unfold gL at ES;obtain⟨F,hF⟩:=ex (bN (ak k.aj j).aT a n way);rw[<- hF] at ES hf ⊢;obtain⟨f0,f1⟩:=F;simp only at ES hf ⊢;have fb:(f0 != 0)=true:=by simpa using hf
 have gG:=ai ((aJ w.heap.size w).alloc (aH _) (.cells #[I 0,I 0] 75));have R0:=ai (bD w #[I 0,I 0] 75);have d3:=(gG.o.cell (p:=(Ad mb 3)) MH).trans c3;have d1:=(gG.o.cell (p:=(Ad pb (j*3+1))) hpl).trans a1;obtain⟨np,Ak⟩:=ex k.aj.length;rw[<- Ak] at d3 hji;obtain⟨na,qV⟩:=ex ((ak k.aj j).aT.length);rw[<- qV] at d1 ES;clear h hR hj A c3 a1 hfit IP hF hf hcc Ak qV ha hn;go_enter Tryz.func272,Tryz.ntmps272;go_upto_region 3 with(go_at_call 283;refine(ES.o _ gG.o).mono ?_;rintro e w1 ⟨rfl,hb1⟩;have cM:=ai (bU gG.o hb1);have R1:=ai (aN R0.o hb1 (aI R0.o));have FX:=ai (bD w1 #[I f0,I f1] 75);obtain⟨y0,y1⟩:=qR FX.o;clear hb1)
 have jQ:=ai (cM.o.alloc cM.o.size (.cells #[I f0,I f1] 75));have PC:=aI R1.o;have R2:=ai (bl R1.o (.cells #[I f0,I f1] 75));obtain⟨z0,z1⟩:=qR R2.o;have q0:=aQ R2.o 0;have q1:=aQ R2.o 1;have hne:¬w.heap.size=w1.heap.size:=by omega
 obtain⟨W,hW⟩:=ex (w1.alloc (.cells #[I f0,I f1] 75));rw[<- hW] at jQ R2 z0 z1 q0 q1 y0 y1 ⊢;clear hW;go_region;go_wp2;have R3:((W.setCell (Ad w.heap.size 0) (I f0)).setCell (Ad w.heap.size 1) (I f1)).heap[w.heap.size]?=some (.cells #[I f0,I f1] 75 (0,0)):=fF (fF R2.o 0 _) 1 _;obtain⟨v0,v1⟩:=qR R3;refine bK (v:=.tuple #[Nl,.agg #[I f0,I f1]]) (by simp[results,Tryz.results272,go_sem,v0,v1]) rfl ?_;exact⟨rfl,by first | exact((jQ.o.setCell (p:=(Ad w.heap.size 0)) (aH _) _).setCell (p:=(Ad w.heap.size 1)) (aH _) _).drew | exact(jQ.o.setCell (p:=(Ad w.heap.size 0)) (aH _) _).setCell (p:=(Ad w.heap.size 1)) (aH _) _⟩
open Go.RowKit
open Go.RowKit
def W7 (l:List jS):Prop:=∀i j,i<j->j<l.length->(kW l i).page<(kW l j).page
open Go.RowKit
def cR (p:Int):List jS->Option ByteArray
 | []=>none
 | x::r=>if x.page=p then some x.data else cR p r
theorem Rh:∀(l:List jS) (p:Int) (k:Nat),k<l.length->(∀j,j<k->¬(kW l j).page=p)->(kW l k).page=p->cR p l=some (kW l k).data
 | [],p,k,h,_,_=>by simp at h
 | x::r,p,0,h,_,e=>by
  show(if x.page=p then some x.data else cR p r)=_;rw[aB (show x.page=p from e)];rfl
 | x::r,p,k+1,h,hn,e=>by
  show(if x.page=p then some x.data else cR p r)=_;rw[au (show ¬x.page=p from hn 0 (by omega))];exact Rh r p k (by simp at h;omega) (fun j hj=>hn (j+1) (by omega)) e
open Go.RowKit
theorem Tu {l:List jS} (h:(cZ l).Pairwise (·<·)):W7 l:=fun i j hij hj=>by
 have hl:(cZ l).length=l.length:=gV _;have:=aco.1 h i j (by omega) (by omega) hij;rw[<- II,<- II,fy,fy,lR (show i<(cZ l).length by omega),lR (show j<(cZ l).length by omega)];exact this
open Go.RowKit
structure ry where
 slots:Int
 aj:List mW
def oH (ps:List jS) (p:Int):ByteArray:=(cR p ps).getD ⟨#[]⟩
def nJ (a n:Int):Int:=(a+n-1)/16
def um (ps:List jS) (a n:Int):ByteArray:=if nJ a n=a/16 then oH ps (a/16) else oH ps (a/16)++oH ps (nJ a n)
def Gi (ps:List jS) (a n:Int):ByteArray:=(um ps a n).extract (a%16).toNat ((a%16).toNat+n.toNat)
def py (p:Int) (d:ByteArray) (ps:List jS):List jS:=ps.map (fun g=>if g.page=p then ⟨p,d⟩ else g)
def oU (ps:List jS) (a:Int) (s:ByteArray):List jS :=
 if nJ a s.size=a/16 then py (a/16) ((iw (um ps a s.size) (a%16).toNat s).extract 0 16) ps
 else py (nJ a s.size) ((iw (um ps a s.size) (a%16).toNat s).extract 16 32) (py (a/16) ((iw (um ps a s.size) (a%16).toNat s).extract 0 16) ps)
def Mv:ByteArray:=⟨#[0,0,0,0,0,0,0,0,0,0,0,0,0,0,0,0]⟩
def xf (p:Int) (n:Nat):List jS:=(mg p n).map (fun x=>⟨x,Mv⟩)
def tP (ps:List jS) (p:Int):Nat:=(ps.takeWhile (fun g=>decide (g.page<p))).length
def rW (ps:List jS) (p:Int) (n:Nat):List jS:=ps.take (tP ps p)++(xf p n++ps.drop (tP ps p))
def tO (ps:List jS) (p n:Int):List jS:=ps.filter (fun g=>!(decide (p<=g.page/\g.page<p+n)))
def oG (m:ry) (k:Nat) (s:mW):ry:={ m with aj:=m.aj.set k s }
def lB (m:ry) (k:Nat) (a n way:Int):(ByteArray×(Int×Int))×ry :=
 if (bN (bq m.aj k).aT a n way).1=0 then ((Gi (bq m.aj k).aO a n,(0,0)),m) else ((⟨#[]⟩,bN (bq m.aj k).aT a n way),m)
def nz (m:ry) (k:Nat) (a:Int) (d:ByteArray):(Int×Int)×ry :=
 if (bN (bq m.aj k).aT a d.size 1).1=0 then ((0,0),oG m k { bq m.aj k with aO:=oU (bq m.aj k).aO a d }) else (bN (bq m.aj k).aT a d.size 1,m)
def zi (m:ry) (k:Nat) (p n q:Int):Int×ry :=
 if ¬(dD (bq m.aj k).aT p n q).2=0 then ((dD (bq m.aj k).aT p n q).2,m)
 else if m.slots<iY m.aj+n then (8,m)
 else (0,oG m k { bq m.aj k with aT:=(dD (bq m.aj k).aT p n q).1,aO:=rW (bq m.aj k).aO p n.toNat })
def tN (m:ry) (k:Nat) (p n:Int):Int×ry :=
 if ¬(cN (bq m.aj k).aT p n).2=0 then ((cN (bq m.aj k).aT p n).2,m)
 else (0,oG m k { bq m.aj k with aT:=(cN (bq m.aj k).aT p n).1,aO:=tO (bq m.aj k).aO p n })
def pA (m:ry) (k:Nat) (p n q:Int):Int×ry :=
 if ¬(bR (bq m.aj k).aT p n q).2=0 then ((bR (bq m.aj k).aT p n q).2,m)
 else (0,oG m k { bq m.aj k with aT:=(bR (bq m.aj k).aT p n q).1 })
def uo (m:ry) (k:Nat):Int×ry :=
 if 4<=m.aj.length then (2,m) else if m.slots<iY m.aj+bg (bq m.aj k).aT then (8,m)
 else (0,{ m with aj:=m.aj++[bq m.aj k] })
def af9 (m:ry) (k:Nat):ry:=oG m k Jo
def Ei:gN ry:=⟨lB,nz,zi,tN,pA,uo,af9⟩
structure ql (m:ry) (fl:List Bool):Prop where
 flags:fl=m.aj.map (·.live)
 each:∀k,k<m.aj.length->lN (bq m.aj k)=true
 room:iY m.aj<=m.slots
 slots:0<=m.slots/\m.slots<=512
 few:1<=m.aj.length/\m.aj.length<=4
theorem ND (l:List mW) (k j:Nat) (s:mW) (hk:k<l.length):bq (l.set k s) j=if j=k then s else bq l j:=by
 unfold bq;rw[fy,fy,GJ];by_cases h:j=k
 · rw[aB h,aB h.symm];subst h;rw[aB hk];rfl
 · rw[au h,au (fun g=>h g.symm)]
theorem ql.live {m:ry} {fl:List Bool} (h:ql m fl) {k:Nat} (hk:fl.getD k false=true):k<m.aj.length/\(bq m.aj k).live=true:=by
 rw[h.flags,fy,Aq] at hk;by_cases c:k<m.aj.length
 · rw[lR c] at hk;refine⟨c,?_⟩;unfold bq;rw[fy,lR c];exact hk
 · rw[O9 (by omega)] at hk;cases hk
structure qm (s:mW):Prop where
 check:bj s.aT=0
 nums:cZ s.aO=dB s.aT
 size:∀k,k<s.aO.length->(kW s.aO k).data.size=16
theorem xg {s:mW} (h:lN s=true) (hl:s.live=true):qm s:=by
 unfold lN at h;rw[aB hl] at h;simp only[eG,kR] at h;refine⟨h.1,h.2.1,fun k hk=>?_⟩;have:=h.2.2;unfold LC at this;exact oI (pS.1 this _ (Gs hk))
theorem Bh {s:mW} (h:qm s) (hl:s.live=true):lN s=true:=by
 unfold lN;rw[aB hl,gU h.check,gU h.nums];have:LC s.aO=true:=by
  unfold LC;rw[pS];intro p hp;obtain⟨k,hk,rfl⟩:=Bn hp;exact gU (h.size k hk)
 rw[this];rfl
theorem qm.mn {s:mW} (h:qm s):W7 s.aO:=Tu (by rw[h.nums];exact(om h.check).sorted)
theorem ZK:∀(l:List mW) (k:Nat) (s:mW),k<l.length->iY (l.set k s)=iY l-bg (bq l k).aT+bg s.aT:=fun l k s hk=>by
 have key:∀n,n<=l.length->qq (l.set k s) n=qq l n+(if k<n then bg s.aT-bg (bq l k).aT else 0):=fun n=>by
  induction n with
  | zero=>intro _;rw[au (by omega)];rfl
  | succ n ih =>
   intro hn;show qq (l.set k s) n+bg (bq (l.set k s) n).aT=qq l n+bg (bq l n).aT+_;rw[ih (by omega),ND l k n s hk];by_cases c:n=k
   · subst c;rw[aB rfl,au (by omega),aB (by omega)];omega
   · rw[au c];by_cases d:k<n
     · rw[aB d,aB (by omega)];omega
     · rw[au d,au (by omega)];omega
 unfold iY;rw[fC,key _ (aH _),aB hk];omega
theorem Ls (l:List mW) (s:mW):iY (l++[s])=iY l+bg s.aT:=by
 have key:∀n,n<=l.length->qq (l++[s]) n=qq l n:=fun n=>by
  induction n with
  | zero=>intro _;rfl
  | succ n ih =>
   intro hn;show qq (l++[s]) n+bg (bq (l++[s]) n).aT=qq l n+bg (bq l n).aT;rw[ih (by omega)];congr 3;unfold bq;rw[fy,fy,GN (by omega)]
 unfold iY;rw[fD,Ar];show qq (l++[s]) l.length+bg (bq (l++[s]) l.length).aT=_;rw[key _ (aH _)];congr 3;unfold bq;rw[fy,yP (aH _),GG];rfl
theorem Cf {a b:List Int} (ha:a.Pairwise (·<·)) (hb:b.Pairwise (·<·)) (h:∀x,x∈a↔x∈b):a=b :=
 LB b a ha hb (fun x hx=>(h x).1 hx) (Nat.le_antisymm (mQ b a ha hb (fun x hx=>(h x).1 hx)) (mQ a b hb ha (fun x hx=>(h x).2 hx)))
theorem eY {l:List aX} (hc:bj l=0) {x:Int}:x∈dB l↔(aW l x).2=true:=(qQ hc x).symm
theorem Tn {l:List aX} (hc:bj l=0) {x:Int} (h:x∈dB l):1<=x/\x<256:=by
 have:=ik hc (eY hc |>.1 h);omega
theorem Eg {l:List aX} {p n q:Int} (hc:bj l=0) (h:(dD l p n q).2=0):bj (dD l p n q).1=0/\(1<=p/\1<=n/\p+n<=256)/\(∀x,x∈dB (dD l p n q).1↔(x∈dB l∨(p<=x/\x<p+n)))/\(∀x,p<=x->x<p+n->x∉dB l):=by
 obtain⟨h1,h2⟩:=zl l p n q h;obtain⟨_,GR,_,_,_⟩:=xm _ _ _ _ _ h;have hpb:=(nZ p n).1 GR;refine⟨h1,by omega,fun x=>?_,fun x g1 g2 hx=>?_⟩
 · rw[eY h1,eY hc];by_cases c:1<=x/\x<=255
   · obtain⟨m,rfl⟩:∃m:Nat,x=(m:Int):=⟨x.toNat,by omega⟩;obtain⟨k1,k2⟩:=h2 m (by omega) (by omega);by_cases d:p<=(m:Int)/\(m:Int)<p+n
     · exact⟨fun _=>.inr d,fun _=>(k1 d).2.1⟩
     · rw[(k2 d).1];exact⟨fun g=>.inl g,fun g=>by rcases g with g | g;exact g;exact(d g).elim⟩
   · constructor
     · intro g;have:=ik h1 g;omega
     · rintro(g | g)
       · have:=ik hc g;omega
       · omega
 · obtain⟨m,rfl⟩:∃m:Nat,x=(m:Int):=⟨x.toNat,by omega⟩;have:=(h2 m (by omega) (by omega)).1 ⟨g1,g2⟩;rw[eY hc,this.1] at hx;cases hx
theorem Gh {l:List aX} {p n:Int} (hc:bj l=0) (h:(cN l p n).2=0):bj (cN l p n).1=0/\(1<=p/\1<=n/\p+n<=256)/\(∀x,x∈dB (cN l p n).1↔(x∈dB l/\¬(p<=x/\x<p+n))):=by
 obtain⟨h1,h2⟩:=wk l p n h;obtain⟨_,GR,_,_,_⟩:=xm _ _ _ _ _ h;have hpb:=(nZ p n).1 GR;refine⟨h1,by omega,fun x=>?_⟩;rw[eY h1,eY hc];by_cases c:1<=x/\x<=255
 · obtain⟨m,rfl⟩:∃m:Nat,x=(m:Int):=⟨x.toNat,by omega⟩;obtain⟨k1,k2⟩:=h2 m (by omega) (by omega);by_cases d:p<=(m:Int)/\(m:Int)<p+n
   · rw[k1 d];exact⟨(fun g=>by cases g),fun g=>(g.2 d).elim⟩
   · rw[(k2 d).1];exact⟨fun g=>⟨g,d⟩,fun g=>g.1⟩
 · constructor
   · intro g;have:=ik h1 g;omega
   · rintro⟨g,_⟩;have:=ik hc g;omega
theorem CQ {l:List aX} {p n q:Int} (hc:bj l=0) (h:(bR l p n q).2=0):bj (bR l p n q).1=0/\dB (bR l p n q).1=dB l:=by
 obtain⟨h1,h2⟩:=tS l p n q h;refine⟨h1,Cf (om h1).sorted (om hc).sorted (fun x=>?_)⟩;rw[eY h1,eY hc];by_cases c:1<=x/\x<=255
 · obtain⟨m,rfl⟩:∃m:Nat,x=(m:Int):=⟨x.toNat,by omega⟩;rw[(h2 m (by omega) (by omega)).1.1]
 · constructor
   · intro g;have:=ik h1 g;omega
   · intro g;have:=ik hc g;omega
open Go.RowKit
theorem zj {l:List aX} {a way:Int}:∀{k:Nat},(bZ l a way k).1=0->∀j,j<k->iN l (a+j) way=(0,0)
 | 0,_,j,hj=>by omega
 | k+1,h,j,hj=>by
  have h0:(bZ l a way k).1=0:=by
   by_cases c:(bZ l a way k).1=0
   · exact c
   · rw[bZ,au c] at h;exact(c h).elim
  by_cases e:j=k
  · subst e;rw[bZ,aB h0] at h;exact(pD h).1
  · exact zj h0 j (by omega)
theorem Ra {l:List aX} {a n way:Int} (h:(bN l a n way).1=0):bN l a n way=(0,0)/\(bZ l a way n.toNat).1=0:=by
 unfold bN at h ⊢;by_cases c:way=2/\¬a%8=0
 · rw[aB c] at h;cases h
 · rw[au c] at h ⊢;refine⟨?_,h⟩;cases hn:n.toNat with
   | zero=>rfl
   | succ m =>
    rw[hn] at h;have:=zj h m (by omega);rw[bZ] at h ⊢;split at h
    · rename_i g
      rw[aB g];exact this
    · rename_i g
      exact(g h).elim
structure Lu (ps:List jS) (a n:Int) (i:Nat):Prop where
 lt:i<ps.length
 first:(kW ps i).page=a/16
 low:16<=a
 high:a+n<=4096
 last:nJ a n=a/16∨nJ a n=a/16+1/\i+1<ps.length/\(kW ps (i+1)).page=nJ a n
theorem NH {s:mW} (h:qm s) {p:Int} (hp:(aW s.aT p).2=true):∃i,i<s.aO.length/\(kW s.aO i).page=p:=by
 have hm:=(qQ h.check p).1 hp;rw[<- h.nums] at hm;obtain⟨g,hg,e⟩:=vd.1 hm;obtain⟨i,hi,rfl⟩:=Bn hg;exact⟨i,hi,e⟩
theorem NG {s:mW} (h:qm s) {a n way:Int} (hn:1<=n) (hn8:n<=16) (hf:(bN s.aT a n way).1=0):∃i,Lu s.aO a n i:=by
 obtain⟨_,hb⟩:=Ra hf;have h0:=pD (by rw[zj hb 0 (by omega)]:(iN s.aT (a+(0:Nat)) way).1=0);have hl:=pD (by rw[zj hb (n.toNat-1) (by omega)]:(iN s.aT (a+((n.toNat-1:Nat):Int)) way).1=0);have e0:a+((0:Nat):Int)=a:=by omega
 have el:a+((n.toNat-1:Nat):Int)=a+n-1:=by omega
 rw[e0] at h0;rw[el] at hl;obtain⟨_,ha0,hp0,_⟩:=h0;obtain⟨_,hal,hpl,_⟩:=hl;have r0:=ik h.check hp0;have rl:=ik h.check hpl;obtain⟨i,hi,ei⟩:=NH h hp0;refine⟨i,hi,ei,by omega,by omega,?_⟩;by_cases c:nJ a n=a/16
 · exact .inl c
 · have c2:nJ a n=a/16+1:=by unfold nJ at c ⊢;omega
   obtain⟨j,hj,ej⟩:=NH h hpl;have ej':(kW s.aO j).page=a/16+1:=by rw[ej];exact c2
   have hr:=h.mn;have hij:i<j:=by
    rcases Nat.lt_trichotomy i j with g | g | g
    · exact g
    · subst g;omega
    · have:=hr j i g hi;omega
   have UI:j=i+1:=by
    by_cases g:j=i+1
    · exact g
    · have g1:=hr i (i+1) (by omega) (by omega);have g2:=hr (i+1) j (by omega) hj;omega
   subst UI;exact .inr ⟨c2,hj,ej⟩
theorem Q8 {ps:List jS} (hr:W7 ps) {i:Nat} (hi:i<ps.length) {p:Int} (hp:(kW ps i).page=p):oH ps p=(kW ps i).data:=by
 unfold oH;rw[Rh ps p i hi (fun j hj e=>by have:=hr j i hj hi;omega) hp];rfl
theorem Eh {s:mW} (h:qm s) {a n:Int} {i:Nat} (hr:Lu s.aO a n i):((um s.aO a n).size=16/\nJ a n=a/16)∨((um s.aO a n).size=32/\nJ a n=a/16+1):=by
 unfold um;rcases hr.last with c | ⟨c,hl,e⟩
 · rw[aB c,Q8 h.mn hr.lt hr.first];exact .inl ⟨h.size i hr.lt,c⟩
 · rw[au (by omega),Q8 h.mn hr.lt hr.first,Q8 h.mn hl e,UB,h.size i hr.lt,h.size _ hl];exact .inr ⟨rfl,c⟩
theorem WJ {s:mW} (h:qm s) {a n:Int} (hn:1<=n) {i:Nat} (hr:Lu s.aO a n i):((Gi s.aO a n).size:Int)=n:=by
 unfold Gi;rw[O7];have h1:=hr.low;have h2:=hr.high;rcases Eh h hr with⟨e1,e2⟩ | ⟨e1,e2⟩
 · unfold nJ at e2;rw[e1];omega
 · unfold nJ at e2;rw[e1];omega
theorem Gg (p:Int) (d:ByteArray) (ps:List jS):cZ (py p d ps)=cZ ps:=by
 unfold cZ py;rw[List.map_map];apply UC;intro g _;show(if g.page=p then (⟨p,d⟩:jS) else g).page=g.page;split
 · rename_i e;exact e.symm
 · rfl
theorem abI (p:Int) (d:ByteArray) (ps:List jS):(py p d ps).length=ps.length:=by unfold py;rw[gV]
theorem adZ (p:Int) (d:ByteArray) (ps:List jS) (k:Nat) (hk:k<ps.length):kW (py p d ps) k=if (kW ps k).page=p then ⟨p,d⟩ else kW ps k:=by
 unfold kW py;rw[fy,fy,Aq,lR hk];rfl
theorem Gf (p:Int) (d:ByteArray) (hd:d.size=16) (ps:List jS) (h:∀k,k<ps.length->(kW ps k).data.size=16):∀k,k<(py p d ps).length->(kW (py p d ps) k).data.size=16:=fun k hk=>by
 rw[abI] at hk;rw[adZ p d ps k hk];split
 · exact hd
 · exact h k hk
theorem WI {s:mW} (h:qm s) {a:Int} {d:ByteArray} {i:Nat} (hd:1<=d.size) (hr:Lu s.aO a d.size i):qm { s with aO:=oU s.aO a d }:=by
 have h1:=hr.low;have hov:(iw (um s.aO a d.size) (a%16).toNat d).size=(um s.aO a d.size).size:=by
  apply IK;rcases Eh h hr with⟨e1,e2⟩ | ⟨e1,e2⟩ <;> (unfold nJ at e2;rw[e1];omega)
 refine⟨h.check,?_,?_⟩
 · show cZ (oU s.aO a d)=_;unfold oU;split
   · rw[Gg];exact h.nums
   · rw[Gg,Gg];exact h.nums
 · show ∀k,k<(oU s.aO a d).length->(kW (oU s.aO a d) k).data.size=16;unfold oU;rcases Eh h hr with⟨e1,e2⟩ | ⟨e1,e2⟩
   · rw[aB e2];exact Gf _ _ (by rw[O7,hov,e1];rfl) _ h.size
   · rw[au (by omega)];exact Gf _ _ (by rw[O7,hov,e1];rfl) _ (Gf _ _ (by rw[O7,hov,e1];rfl) _ h.size)
theorem Oo {ps:List jS} (h:(cZ ps).Pairwise (·<·)) (p:Int):∀x,x∈cZ (ps.drop (tP ps p))->p<=x:=by
 unfold tP;induction ps with
 | nil=>intro x hx;cases hx
 | cons g r ih =>
  intro x hx;have hp:=Av.1 (show(g.page::cZ r).Pairwise (·<·) from h);by_cases c:g.page<p
  · rw[acg (by simpa using c),xu,Ux] at hx;exact ih hp.2 x hx
  · rw[acf (by simpa using c)] at hx;rcases ux.1 (show x∈g.page::cZ r from hx) with e | e
    · omega
    · have:=hp.1 x e;omega
theorem ZI (ps:List jS) (p:Int):∀x,x∈cZ (ps.take (tP ps p))->x<p:=by
 unfold tP;induction ps with
 | nil=>intro x hx;cases hx
 | cons g r ih =>
  intro x hx;by_cases c:g.page<p
  · rw[acg (by simpa using c),xu,Uw] at hx;rcases ux.1 (show x∈g.page::cZ (r.take _) from hx) with e | e
    · omega
    · exact ih x e
  · rw[acf (by simpa using c)] at hx;cases hx
theorem CR (p:Int) (n:Nat):cZ (xf p n)=mg p n:=by
 unfold cZ xf;rw[List.map_map];exact List.map_id _
theorem sY (a b:List jS):cZ (a++b)=cZ a++cZ b:=by unfold cZ;rw[Ao]
theorem abJ {s:mW} (h:qm s) {p n q:Int} (hm:(dD s.aT p n q).2=0):qm { s with aT:=(dD s.aT p n q).1,aO:=rW s.aO p n.toNat }:=by
 obtain⟨h1,h2,h3,h4⟩:=Eg h.check hm;have hs:(cZ s.aO).Pairwise (·<·):=by rw[h.nums];exact(om h.check).sorted
 have UH:cZ s.aO=cZ (s.aO.take (tP s.aO p))++cZ (s.aO.drop (tP s.aO p)):=by rw[<- sY,UG]
 rw[UH] at hs;obtain⟨q1,q2,q3⟩:=GL.1 hs;have hlo:=ZI s.aO p;have hhi:=Oo (ps:=s.aO) (by rw[UH];exact hs) p;have Py:∀x,x∈cZ (s.aO.drop (tP s.aO p))->p+n<=x:=fun x hx=>by
  have g1:=hhi x hx;by_cases c:x<p+n
  · exfalso;refine h4 x g1 c ?_;rw[<- h.nums,UH];exact List.mem_append_right _ hx
  · omega
 refine⟨h1,?_,?_⟩
 · show cZ (rW s.aO p n.toNat)=_;refine Cf ?_ (om h1).sorted (fun x=>?_)
   · unfold rW;rw[sY,sY,CR];refine GL.2 ⟨q1,GL.2 ⟨uq _ _,q2,fun x hx y hy=>?_⟩,fun x hx y hy=>?_⟩
     · have:=(pK _ _ _).1 hx;have:=Py y hy;omega
     · have g1:=hlo x hx;rcases lQ.1 hy with g | g
       · have:=(pK _ _ _).1 g;omega
       · have:=hhi y g;omega
   · rw[h3];unfold rW;rw[sY,sY,CR,lQ,lQ,pK,<- h.nums,UH,lQ];constructor
     · rintro(g | g | g)
       · exact .inl (.inl g)
       · exact .inr (by omega)
       · exact .inl (.inr g)
     · rintro((g | g) | g)
       · exact .inl g
       · exact .inr (.inr g)
       · exact .inr (.inl (by omega))
 · intro k hk;have hm2:=Gs hk;have:∀g∈rW s.aO p n.toNat,g.data.size=16:=fun g hg=>by
    unfold rW at hg;have old:∀g∈s.aO,g.data.size=16:=fun g hg=>by
     obtain⟨k,hk,rfl⟩:=Bn hg;exact h.size k hk
    rcases lQ.1 hg with e | e
    · exact old g (List.mem_of_mem_take e)
    · rcases lQ.1 e with e | e
      · obtain⟨x,_,rfl⟩:=vd.1 e;rfl
      · exact old g (Uz e)
   exact this _ hm2
theorem WH {s:mW} (h:qm s) {p n:Int} (hm:(cN s.aT p n).2=0):qm { s with aT:=(cN s.aT p n).1,aO:=tO s.aO p n }:=by
 obtain⟨h1,h2,h3⟩:=Gh h.check hm;have hs:(cZ s.aO).Pairwise (·<·):=by rw[h.nums];exact(om h.check).sorted
 refine⟨h1,?_,?_⟩
 · show cZ (tO s.aO p n)=_;refine Cf ?_ (om h1).sorted (fun x=>?_)
   · unfold cZ tO;exact UA ((List.filter_sublist).map _) hs
   · rw[h3,<- h.nums];unfold cZ tO;simp only[vd,Ul];constructor
     · rintro⟨g,⟨h5,h6⟩,rfl⟩;exact⟨⟨g,h5,rfl⟩,by simp at h6;omega⟩
     · rintro⟨⟨g,h5,rfl⟩,h6⟩;exact⟨g,⟨h5,by simp;omega⟩,rfl⟩
 · intro k hk;have hm2:=Gs hk;have:∀g∈tO s.aO p n,g.data.size=16:=fun g hg=>by
    unfold tO at hg;obtain⟨k,hk,rfl⟩:=Bn (Ul.1 hg).1;exact h.size k hk
   exact this _ hm2
theorem qP {s:mW} (h:qm s):bg s.aT=(s.aO.length:Int):=by
 rw[sZ h.check,<- h.nums];unfold cZ;rw[gV]
theorem Q7 {m:ry} {fl:List Bool} (h:ql m fl) {k:Nat} (hk:k<m.aj.length) {s:mW} (hs:lN s=true) (hr:iY m.aj-bg (bq m.aj k).aT+bg s.aT<=m.slots):ql (oG m k s) (fl.set k s.live):=by
 refine⟨?_,fun j hj=>?_,?_,h.slots,?_⟩
 · rw[h.flags];show(m.aj.map (·.live)).set k s.live=(m.aj.set k s).map (·.live);rw[OG]
 · have hj':j<m.aj.length:=by
    have:j<(m.aj.set k s).length:=hj;rw[fC] at this;exact this
   show lN (bq (m.aj.set k s) j)=true;rw[ND _ _ _ _ hk];split
   · exact hs
   · exact h.each j hj'
 · show iY (m.aj.set k s)<=m.slots;rw[ZK _ _ _ hk];exact hr
 · show 1<=(m.aj.set k s).length/\(m.aj.set k s).length<=4;rw[fC];exact h.few
theorem ZJ (fl:List Bool) (k:Nat) (b:Bool) (h:fl.getD k false=b):fl.set k b=fl:=by
 apply Df;intro j;rw[GJ];by_cases e:k=j
 · subst e;by_cases c:k<fl.length
   · rw[fy,lR c] at h;rw[aB rfl,aB c,lR c];exact dY some h.symm
   · rw[aB rfl,au c,O9 (by omega)]
 · rw[au e]
theorem zh {m:ry} {fl:List Bool} (h:ql m fl) {k:Nat} (hf:fl.getD k false=true) (hk:k<m.aj.length) {s:mW} (hl:s.live=true) (hs:lN s=true) (hr:iY m.aj-bg (bq m.aj k).aT+bg s.aT<=m.slots):ql (oG m k s) fl:=by
 have:=Q7 h hk hs hr;rw[hl,ZJ fl k true hf] at this;exact this
theorem WK (l:List aX) (p way:Int):0<=(iN l p way).1/\(iN l p way).1<=4:=by
 unfold iN;split
 · exact⟨by simp[bZ,bI],by simp[bZ,bI]⟩
 · split <;> exact⟨by simp[bZ,bI],by simp[bZ,bI]⟩
theorem Iz (l:List aX) (a way:Int):∀k,0<=(bZ l a way k).1/\(bZ l a way k).1<=4
 | 0=>⟨by simp[bZ,bI],by simp[bZ,bI]⟩
 | k+1=>by
  rw[bZ];split
  · exact WK _ _ _
  · exact Iz l a way k
theorem xN (l:List aX) (a n way:Int):0<=(bN l a n way).1/\(bN l a n way).1<=4:=by
 unfold bN;split
 · exact⟨by simp[bZ,bI],by simp[bZ,bI]⟩
 · exact Iz _ _ _ _
theorem ad0 (ps:List jS) (p:Int):tP ps p<=ps.length:=by
 unfold tP;exact List.Sublist.length_le (List.takeWhile_sublist _)
theorem abK (ps:List jS) (p:Int) (n:Nat):(rW ps p n).length=ps.length+n:=by
 have:=ad0 ps p;unfold rW xf;rw[fD,fD,vq,JE,gV,Ch];omega
theorem Q9 (q:Int) (s:dg):0<=(eJ q s).2/\(eJ q s).2<=10:=by
 unfold eJ;split <;> exact⟨by simp[bZ,bI],by simp[bZ,bI]⟩
theorem Lt (s:dg):0<=(bI s).2/\(bI s).2<=10:=⟨by simp[bZ,bI],by simp[bZ,bI]⟩
theorem Gj (q:Int) (s:dg):0<=(cA q s).2/\(cA q s).2<=10:=by
 unfold cA;split <;> exact⟨by simp[bZ,bI],by simp[bZ,bI]⟩
theorem Uf (F:Nat->dg) (how:dg->dg×Int) (hh:∀s,0<=(how s).2/\(how s).2<=10):∀c n,0<=gw F how n c/\gw F how n c<=10
 | 0,n=>⟨by show(0:Int)<=0;omega,by show(0:Int)<=10;omega⟩
 | c+1,n=>by
  unfold gw;split
  · exact Uf F how hh c (n+1)
  · exact hh _
theorem ZL (l:List aX):0<=bj l/\bj l<=10:=by
 unfold bj;split
 · exact⟨by simp[bZ,bI],by simp[bZ,bI]⟩
 · split <;> exact⟨by simp[bZ,bI],by simp[bZ,bI]⟩
theorem qj (l:List aX) (p n q:Int) (how:dg->dg×Int) (hh:∀s,0<=(how s).2/\(how s).2<=10):0<=(dI l p n q how).2/\(dI l p n q how).2<=10:=by
 unfold dI;split
 · split
   · split
     · exact⟨by simp[bZ,bI],by simp[bZ,bI]⟩
     · exact Uf _ _ hh _ _
   · exact⟨by simp[bZ,bI],by simp[bZ,bI]⟩
 · exact ZL l
theorem abL:qp Ei ql where
 load:=fun s fl k a n way h hk=>by
  show ql (lB s k a n way).2 fl;unfold lB;split <;> exact h
 size:=fun s fl k a n way h hk hn hn8 hf=>by
  obtain⟨hlt,hlv⟩:=h.live hk;have hL:=xg (h.each k hlt) hlv;have hf':(lB s k a n way).1.2.1=0:=hf;show((lB s k a n way).1.1.size:Int)=n;unfold lB at hf' ⊢;by_cases c:(bN (bq s.aj k).aT a n way).1=0
  · rw[aB c];obtain⟨i,hi⟩:=NG hL hn (by omega) c;exact WJ hL hn hi
  · rw[au c] at hf';exact(c hf').elim
 fault:=fun s fl k a n way h hk=>by
  show 0<=(lB s k a n way).1.2.1/\(lB s k a n way).1.2.1<=4/\((lB s k a n way).1.2.1=0->(lB s k a n way).1.2=(0,0));unfold lB;have:=xN (bq s.aj k).aT a n way;split
  · exact⟨by simp,by simp,fun _=>rfl⟩
  · rename_i c
    exact⟨this.1,this.2,fun g=>(c g).elim⟩
 none:=fun s fl k a n way h hk hf=>by
  have hf':¬(lB s k a n way).1.2.1=0:=hf;show(lB s k a n way).1.1=⟨#[]⟩;unfold lB at hf' ⊢;split
  · rename_i c
    rw[aB c] at hf';exact(hf' rfl).elim
  · rfl
 store:=fun s fl k a d h hk hd1 hd8=>by
  obtain⟨hlt,hlv⟩:=h.live hk;have hL:=xg (h.each k hlt) hlv;show ql (nz s k a d).2 fl;unfold nz;split
  · rename_i c
    obtain⟨i,hi⟩:=NG hL (by omega) (by omega) c;have hL2:=WI hL hd1 hi;exact zh h hk hlt hlv (Bh hL2 hlv) (by
      have:=h.room;show iY s.aj-bg (bq s.aj k).aT+bg (bq s.aj k).aT<=s.slots;omega)
  · exact h
 PJ:=fun s fl k a d h hk=>by
  show 0<=(nz s k a d).1.1/\(nz s k a d).1.1<=4/\((nz s k a d).1.1=0->(nz s k a d).1=(0,0));unfold nz;have:=xN (bq s.aj k).aT a d.size 1;split
  · exact⟨by simp,by simp,fun _=>rfl⟩
  · rename_i c
    exact⟨this.1,this.2,fun g=>(c g).elim⟩
 map:=fun s fl k p n q h hk=>by
  obtain⟨hlt,hlv⟩:=h.live hk;have hL:=xg (h.each k hlt) hlv;show ql (zi s k p n q).2 fl;unfold zi;split
  · exact h
  · rename_i c
    have c':(dD (bq s.aj k).aT p n q).2=0:=Ur.1 c;split
    · exact h
    · rename_i c2
      have hL2:=abJ hL c';exact zh h hk hlt hlv (Bh hL2 hlv) (by
       rw[qP hL,qP hL2];have hlen:=(Eg hL.check c').2.1;have:(rW (bq s.aj k).aO p n.toNat).length=(bq s.aj k).aO.length+n.toNat:=abK _ _ _;show iY s.aj-((bq s.aj k).aO.length:Int)+((rW (bq s.aj k).aO p n.toNat).length:Int)<=s.slots;rw[this];omega)
 oW:=fun s fl k p n h hk=>by
  obtain⟨hlt,hlv⟩:=h.live hk;have hL:=xg (h.each k hlt) hlv;show ql (tN s k p n).2 fl;unfold tN;split
  · exact h
  · rename_i c
    have c':(cN (bq s.aj k).aT p n).2=0:=Ur.1 c;have hL2:=WH hL c';exact zh h hk hlt hlv (Bh hL2 hlv) (by
      rw[qP hL,qP hL2];have:(tO (bq s.aj k).aO p n).length<=(bq s.aj k).aO.length:=List.length_filter_le _ _;show iY s.aj-((bq s.aj k).aO.length:Int)+((tO (bq s.aj k).aO p n).length:Int)<=s.slots;have:=h.room;omega)
 jl:=fun s fl k p n q h hk=>by
  obtain⟨hlt,hlv⟩:=h.live hk;have hL:=xg (h.each k hlt) hlv;show ql (pA s k p n q).2 fl;unfold pA;split
  · exact h
  · rename_i c
    have c':(bR (bq s.aj k).aT p n q).2=0:=Ur.1 c;obtain⟨g1,g2⟩:=CQ hL.check c';have hL2:qm { bq s.aj k with aT:=(bR (bq s.aj k).aT p n q).1 }:=⟨g1,by show cZ (bq s.aj k).aO=_;rw[hL.nums];exact g2.symm,hL.size⟩;exact zh h hk hlt hlv (Bh hL2 hlv) (by
      have e1:bg (bR (bq s.aj k).aT p n q).1=((bq s.aj k).aO.length:Int):=qP hL2;have e2:=qP hL;have:=h.room;show iY s.aj-bg (bq s.aj k).aT+bg (bR (bq s.aj k).aT p n q).1<=s.slots;omega)
 PI:=fun s fl k h hk hf=>by
  have hf':¬(uo s k).1=0:=hf;show ql (uo s k).2 fl;unfold uo at hf' ⊢;split
  · exact h
  · split
    · exact h
    · rename_i c1 c2
      rw[au c1,au c2] at hf';exact(hf' rfl).elim
 JM:=fun s fl k h hk hf=>by
  obtain⟨hlt,hlv⟩:=h.live hk;have hf':(uo s k).1=0:=hf;show ql (uo s k).2 (fl++[true]);unfold uo at hf' ⊢;by_cases c1:4<=s.aj.length
  · rw[aB c1] at hf';cases hf'
  · rw[au c1] at hf' ⊢;by_cases c2:s.slots<iY s.aj+bg (bq s.aj k).aT
    · rw[aB c2] at hf';cases hf'
    · rw[au c2];refine⟨?_,fun j hj=>?_,?_,h.slots,?_⟩
      · rw[h.flags];show _=(s.aj++[bq s.aj k]).map (·.live);rw[Ao,Uu,hlv]
      · have hj':j<(s.aj++[bq s.aj k]).length:=hj;rw[fD,Ar] at hj';show lN (bq (s.aj++[bq s.aj k]) j)=true;by_cases c:j<s.aj.length
        · have:bq (s.aj++[bq s.aj k]) j=bq s.aj j:=by
           unfold bq;rw[fy,GN c,<- fy]
          rw[this];exact h.each j c
        · have:bq (s.aj++[bq s.aj k]) j=bq s.aj k:=by
           obtain rfl:j=s.aj.length:=by omega
           show(s.aj++[bq s.aj k]).getD s.aj.length Jo=_;rw[fy,yP (aH _),GG];rfl
          rw[this];exact h.each k hlt
      · show iY (s.aj++[bq s.aj k])<=s.slots;rw[Ls];omega
      · show 1<=(s.aj++[bq s.aj k]).length/\(s.aj++[bq s.aj k]).length<=4;rw[fD,Ar];omega
 aeB:=fun s fl k p n q h hk=>by
  show 0<=(zi s k p n q).1/\(zi s k p n q).1<=10;unfold zi;split
  · exact qj _ _ _ _ _ (Q9 q)
  · split <;> exact⟨by simp[bZ,bI],by simp[bZ,bI]⟩
 Pt:=fun s fl k p n h hk=>by
  show 0<=(tN s k p n).1/\(tN s k p n).1<=10;unfold tN;split
  · exact qj _ _ _ _ _ Lt
  · exact⟨by simp[bZ,bI],by simp[bZ,bI]⟩
 EW:=fun s fl k p n q h hk=>by
  show 0<=(pA s k p n q).1/\(pA s k p n q).1<=10;unfold pA;split
  · exact qj _ _ _ _ _ (Gj q)
  · exact⟨by simp[bZ,bI],by simp[bZ,bI]⟩
 few:=fun s fl h=>by rw[h.flags,gV];exact h.few.2
 drop:=fun s fl k h hk=>by
  obtain⟨hlt,hlv⟩:=h.live hk;have hL:=xg (h.each k hlt) hlv;have:=Q7 h hlt (s:=Jo) rfl (by
   have h0:bg Jo.aT=0:=rfl;rw[h0,qP hL];have:=h.room;omega)
  exact this
open Go.RowKit
def cY (k:aR) (j:Nat):List aX:=(ak k.aj j).aT
def gI (k:aR) (j:Nat) (a n way:Int):(ByteArray×(Int×Int))×aR :=
 if ¬(1<=n/\n<=8) then ((⟨#[]⟩,(0,0)),k) else if (bN (cY k j) a n way).1=0 then ((l5 k j a n way,(0,0)),(aZ k j a n way).2) else ((⟨#[]⟩,bN (cY k j) a n way),k)
def iV (k:aR) (j:Nat) (a:Int) (d:ByteArray):(Int×Int)×aR :=
 if (bN (cY k j) a d.size 1).1=0 then ((0,0),ll k j a d) else (bN (cY k j) a d.size 1,k)
def ek (k:aR) (j:Nat) (r:List aX×Int):Int×aR :=
 if ¬r.2=0 then (r.2,k) else if dZ k.aj-bg (cY k j)+bg r.1>(k.slots.length:Int) then (8,k) else (0,gA k j r.1)
def gm (k:aR) (j:Nat):Int×aR :=
 if k.aj.length=4 then (2,k) else if dZ k.aj+bg (cY k j)>(k.slots.length:Int) then (8,k) else (0,gD k j)
def fR:gN aR:=⟨gI,iV,fun k j p n q=>ek k j (dD (cY k j) p n q),fun k j p n=>ek k j (cN (cY k j) p n),fun k j p n q=>ek k j (bR (cY k j) p n q),gm,js⟩
structure dO (k:aR) (fl:List Bool):Prop where
 right:aY k
 flags:fl=k.aj.map (·.live)
theorem abx {l:List cV} {j:Nat} (h:(l.map (·.live)).getD j false=true):j<l.length/\(ak l j).live=true:=by
 by_cases c:j<l.length
 · refine⟨c,?_⟩;unfold ak
   grind
 · grind
theorem Wq {l r:List cV} (hn:r.length=l.length) (h:∀m,m<l.length->(ak r m).live=(ak l m).live):r.map (·.live)=l.map (·.live):=by
 apply Uo (by simp[hn]);intro i h1 h2;have:=h i (by simpa using h2);unfold ak at this
 grind
variable {k:aR} {fl:List Bool} {j:Nat}
theorem dO.at_ (h:dO k fl) (hk:fl.getD j false=true):j<k.aj.length/\(ak k.aj j).live=true:=by
 rw[h.flags] at hk;exact abx hk
theorem l8 {a n way:Int} (h1:1<=n) (h8:n<=8) (hf:(bN (cY k j) a n way).1=0):dX k j (a/16)/\dX k j (cj a n)/\(16<=a/\a+n<=4096):=by
 obtain⟨_,hal,hau,hmap⟩:=rD h1 h8 hf;refine⟨?_,?_,hal,hau⟩
 · have:=hmap 0 (by omega) (by omega);rw[C3] at this;exact this
 · have:=hmap (n-1) (by omega) (by omega);unfold cj;rw[show a+n-1=a+(n-1) by omega];exact this
theorem Ji (h:dO k fl) {k':aR} (hr:aY k') (hn:k'.aj.length=k.aj.length) (hl:∀m,m<k.aj.length->(ak k'.aj m).live=(ak k.aj m).live):dO k' fl:=⟨hr,by rw[h.flags,Wq hn hl]⟩
theorem F9 {a n way:Int} (h:¬(1<=n/\n<=8)):gI k j a n way=((⟨#[]⟩,(0,0)),k):=by grind [gI]
theorem sW {a n way:Int} (h1:1<=n) (h8:n<=8) (hf:¬(bN (cY k j) a n way).1=0):gI k j a n way=((⟨#[]⟩,bN (cY k j) a n way),k):=by grind [gI]
theorem qz {a n way:Int} (h1:1<=n) (h8:n<=8) (hf:(bN (cY k j) a n way).1=0):gI k j a n way=((l5 k j a n way,(0,0)),(aZ k j a n way).2):=by grind [gI]
theorem sV {a:Int} {d:ByteArray} (hf:¬(bN (cY k j) a d.size 1).1=0):iV k j a d=(bN (cY k j) a d.size 1,k):=by grind [iV]
theorem qL {a:Int} {d:ByteArray} (hf:(bN (cY k j) a d.size 1).1=0):iV k j a d=((0,0),ll k j a d):=by grind [iV]
theorem Jh (h:dO k fl) (hk:fl.getD j false=true) {r:List aX×Int} (hr:r.2=0->bj r.1=0/\wW (cY k j) r.1):dO (ek k j r).2 fl:=by
 obtain⟨hj,hl⟩:=h.at_ hk;unfold ek;by_cases c:r.2=0
 · rw[au (fun x=>x c)];by_cases c2:dZ k.aj-bg (cY k j)+bg r.1>(k.slots.length:Int)
   · rw[aB c2];exact h
   · rw[au c2];obtain⟨g1,g2⟩:=hr c;obtain⟨_,_,_,_,hn,hs⟩:=qg k hj r.1;refine Ji h (QI h.right hj hl g1 g2 (by unfold cY at c2;omega)) hn (fun m hm=>?_);have:=hs m hm
     grind
 · rw[aB c];exact h
theorem FY {r:List aX×Int} (h:0<=r.2/\r.2<=10):0<=(ek k j r).1/\(ek k j r).1<=10:=by grind [ek]
theorem ic:qp fR dO where
 load:=fun s fl k a n way h hk=>by
  show dO (gI s k a n way).2 fl;obtain⟨hj,hl⟩:=h.at_ hk;by_cases c:1<=n/\n<=8
  · by_cases g:(bN (cY s k) a n way).1=0
    · rw[qz c.1 c.2 g];obtain⟨m1,m2,_⟩:=l8 c.1 c.2 g;have R:=nT h.right hj a n way m1 m2;exact Ji h R.right R.kept.np R.kept.live
    · rw[sW c.1 c.2 g];exact h
  · rw[F9 c];exact h
 size:=fun s fl k a n way h hk h1 h8 hf=>by
  have hf:(gI s k a n way).1.2.1=0:=hf;show((gI s k a n way).1.1.size:Int)=n;obtain⟨hj,hl⟩:=h.at_ hk;by_cases g:(bN (cY s k) a n way).1=0
  · rw[qz h1 h8 g];obtain⟨m1,m2,_⟩:=l8 h1 h8 g;show((l5 s k a n way).size:Int)=n;rw[wV h.right hj a n way m1 m2,VL ⟨o8 h.right hj m1,o8 h.right hj m2⟩ h1 h8];omega
  · rw[sW h1 h8 g] at hf;exact absurd hf g
 fault:=fun s fl k a n way h hk=>by
  show 0<=(gI s k a n way).1.2.1/\(gI s k a n way).1.2.1<=4/\((gI s k a n way).1.2.1=0->(gI s k a n way).1.2=(0,0));have:=xN (cY s k) a n way;by_cases c:1<=n/\n<=8
  · by_cases g:(bN (cY s k) a n way).1=0
    · rw[qz c.1 c.2 g];simp
    · rw[sW c.1 c.2 g];exact⟨this.1,this.2,fun x=>absurd x g⟩
  · rw[F9 c];simp
 none:=fun s fl k a n way h hk hf=>by
  have hf:¬(gI s k a n way).1.2.1=0:=hf;show(gI s k a n way).1.1=⟨#[]⟩
  grind [gI]
 store:=fun s fl k a d h hk h1 h8=>by
  show dO (iV s k a d).2 fl;obtain⟨hj,hl⟩:=h.at_ hk;by_cases g:(bN (cY s k) a d.size 1).1=0
  · rw[qL g];obtain⟨m1,m2,_⟩:=l8 (by omega) (by omega) g;have R:=vK h.right hj a d (by omega) (by omega) m1 m2;exact Ji h R.right R.np R.live
  · rw[sV g];exact h
 PJ:=fun s fl k a d h hk=>by
  show 0<=(iV s k a d).1.1/\(iV s k a d).1.1<=4/\((iV s k a d).1.1=0->(iV s k a d).1=(0,0));have:=xN (cY s k) a d.size 1;by_cases g:(bN (cY s k) a d.size 1).1=0
  · rw[qL g];simp
  · rw[sV g];exact⟨this.1,this.2,fun x=>absurd x g⟩
 map:=fun s fl k p n q h hk=>Jh h hk (fun e=>H8 e)
 oW:=fun s fl k p n h hk=>Jh h hk (fun e=>yu e)
 jl:=fun s fl k p n q h hk=>Jh h hk (fun e=>AY e)
 PI:=fun s fl k h hk hf=>by
  have hf:¬(gm s k).1=0:=hf;show dO (gm s k).2 fl;have:(gm s k).2=s:=by grind [gm]
  rw[this];exact h
 JM:=fun s fl k h hk hf=>by
  have hf:(gm s k).1=0:=hf;show dO (gm s k).2 (fl++[true]);obtain⟨hj,hl⟩:=h.at_ hk;unfold gm at hf ⊢;by_cases c:s.aj.length=4
  · rw[aB c] at hf;cases hf
  rw[au c] at hf ⊢;by_cases c2:dZ s.aj+bg (cY s k)>(s.slots.length:Int)
  · rw[aB c2] at hf;cases hf
  rw[au c2];have F:=uW h.right hj;refine⟨SH h.right hj c (by unfold cY at c2;omega),?_⟩;show _=(gD s k).aj.map _;rw[F.aj,Ao,h.flags,<- hl];rfl
 aeB:=fun s fl k p n q h hk=>FY (qj _ _ _ _ _ (Q9 q))
 Pt:=fun s fl k p n h hk=>FY (qj _ _ _ _ _ Lt)
 EW:=fun s fl k p n q h hk=>FY (qj _ _ _ _ _ (Gj q))
 few:=fun s fl h=>by rw[h.flags,gV];exact h.right.c.2.2.1.2
 drop:=fun s fl k h hk=>by
  show dO (js s k) (fl.set k false);obtain⟨hj,hl⟩:=h.at_ hk;refine⟨SJ h.right hj,?_⟩;show _=((dz s k (fun _=>true)).aj.set k qJ).map _;rw[gF,pQ,h.flags,OG];rfl
end Go.Proofs.YtlgoihmkgaaemaaGreat
