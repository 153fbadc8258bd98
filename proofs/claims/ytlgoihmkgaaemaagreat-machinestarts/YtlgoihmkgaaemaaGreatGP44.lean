import Derived.Test.YtlgoihmkgaaemaaGreatGP43
import Derived.OpenShut
set_option maxHeartbeats 20000000
set_option linter.unusedVariables false
set_option maxRecDepth 100000
set_option linter.unusedSimpArgs false
namespace Go.Proofs.YtlgoihmkgaaemaaGreat
open Go.RowKit Tryz Go.Deep
section
variable {H:Type} {enc:TypeId×Value->H} {w:World} {base:Nat} {spare:Nat->Bool} {held:Bool}
theorem Ve {fuel:Nat} {a0:Option Addr} {len cap:Nat} {x:DataW H×List MemPlace} (h:DataW.trod enc prog w base spare held fuel 23 [.slice a0 len cap]=some x) (hw:qG 23 x.1) :
  ∃l:List bD,l.length=len/\gz w a0 l/\m6 l/\len<=cap:=by
 rcases open_slice underlying23 h with⟨r,_⟩ | ⟨a,Q,R,m,n,D,Pl,r,hb,hl,hm,T,rfl,hx⟩
 . simp at r;obtain⟨rfl,rfl,rfl⟩:=r;exact⟨[],rfl,λh=>absurd h ξ,⟨by grind [bM],λk hk=>absurd hk ξ⟩,aJ _⟩
 simp at r;obtain⟨rfl,rfl,rfl⟩:=r;have U:len<=m:=by grind
 obtain⟨B,J⟩:=vH underlying23 hw;rw[acX] at B;unfold reachBytes at B;have O:len<=140737488351232:=by grind
 have each:∀i,i<len->∃y:bD,w.cell? (a.add (i*3+0))=some (I y.page)/\w.cell? (a.add (i*3+1))=some (.string y.data)/\w.cell? (a.add (i*3+2))=some (.slice y.ao y.df.length y.cap)/\mS w y.ao y.df/\ym y:=by
  intro i hi;obtain⟨L,h1,h2⟩:=hx i ω;have hd:D i∈(List.range len).map D:=zB.2 ⟨i,uO.2 hi,rfl⟩;rw[acU] at h1;obtain⟨_,N,q⟩:=Kt h1
  match L,N with
  | [v0,v1,v2],_ =>
   obtain⟨s,e0,e1,e2,f1,f2⟩:=TA h2 (J _ hd);have q0:=q 0 ω;have q1:=q 1 ω;have q2:=q 2 ω;simp only[add_add] at q0 q1 q2
   grind
 obtain⟨g,hg⟩:=choose_lt each;have M:∀i,i<len->aZ ((List.range len).map g) i=g i:=by
  grind [aZ]
 refine⟨(List.range len).map g,ξ,λh0=>?_,⟨by grind [bM],λk hk=>?_⟩,hl⟩
 . have K:0<len:=by grind
   obtain⟨b,off,F⟩:=a;have hc:=(hg 0 K).1;have A:F=none:=by simpa [Addr.add] using Kq hc
   subst A;rw[rG] at hc;refine⟨b,off,rfl,Hq hc,λi hi=>?_⟩;have G:i<len:=by grind
   rw[M i G];obtain⟨e0,e1,e2,e3,_⟩:=hg i G;simp only[rG] at e0 e1 e2
   grind
 grind
theorem QV {fuel:Nat} {cs:List Value} {x:DataW H×List MemPlace} (h:DataW.trod enc prog w base spare held fuel 25 cs=some x) (hw:qG 25 x.1) :
  ∃(l:List aU) (hs:List bD) (en:Int) (va:Value) (ao:Option Addr) (cap:Nat),cs=[va,.slice ao hs.length cap,I en]/\eN w va l/\dG l/\gz w ao hs/\m6 hs/\hs.length<=cap/\cR en:=by
 obtain⟨xs,k,hk,q,b,r,hf⟩:=tS underlying25 h;rw[q] at hw;rw[acV] at b
 match cs,b with
 | [v0,v1,v2],_ =>
  have g0:DataW.trod enc prog w base spare held k 22 (([v0,v1,v2].drop 0).take (prog.cellsOf 22))=xs[0]?:=hf 0 _ rfl;have g1:DataW.trod enc prog w base spare held k 23 (([v0,v1,v2].drop 1).take (prog.cellsOf 23))=xs[1]?:=hf 1 _ rfl;have g2:DataW.trod enc prog w base spare held k 3 (([v0,v1,v2].drop 2).take (prog.cellsOf 3))=xs[2]?:=hf 2 _ rfl;simp only[uD,N5,N4] at g0 g1 g2
  match xs,r with
  | [y0,y1,y2],_ =>
   obtain⟨en,c2,_,w2⟩:=D4 underlying3 (show DataW.trod enc prog w base spare held k 3 [v2]=some y2 from g2);have u0:=mF underlying25 hw (j:=0) (u:=22) (d:=y0.1) rfl rfl;have u1:=mF underlying25 hw (j:=1) (u:=23) (d:=y1.1) rfl rfl;have t0:DataW.trod enc prog w base spare held k 22 [v0]=some y0:=g0;have t1:DataW.trod enc prog w base spare held k 23 [v1]=some y1:=g1;obtain⟨av,lv,cv,d0⟩:=o7 underlying22 t0;obtain⟨ao,lo,cap,d1⟩:=o7 underlying23 t1;subst d0;subst d1;obtain⟨l,n1,n2,n3,n4⟩:=Jk t0;obtain⟨hs,s1,s2,s3,s4⟩:=Ve t1 u1;simp only[rE,qJ] at c2;subst c2;subst s1;refine⟨l,hs,en,_,ao,cap,rfl,n2,⟨n3,?_⟩,s2,s3,s4,Ap _ w2⟩;rw[n1];rcases n4 with e | ⟨el,sp,e1,e2⟩
   . omega
   rw[e1] at u0;have hb:=(vH underlying22 u0).1;rw[QY,e2] at hb;unfold reachBytes at hb;omega
end
open Go.RowKit Go.Deep
theorem adI:prog.cellsOf 169=4:=by rfl
theorem aaY:prog.cellsOf 26=1:=by rfl
theorem adM:0<prog.bytesOf 169:=kr ρ
instance:Inhabited ko:=⟨eG⟩
theorem adH:prog.cellsOf 171=2:=by rfl
theorem aaX:prog.cellsOf 27=1:=by rfl
theorem adL:0<prog.bytesOf 171:=kr ρ
instance:Inhabited mJ:=⟨gP⟩
theorem adJ:prog.cellsOf 174=3:=by rfl
theorem aaZ:prog.cellsOf 97=1:=by rfl
theorem adN:0<prog.bytesOf 174:=kr ρ
instance:Inhabited bK:=⟨gJ⟩
theorem adG:prog.cellsOf 99=3:=by rfl
theorem aaW:prog.cellsOf 28=1:=by rfl
theorem adK:0<prog.bytesOf 99:=kr ρ
instance:Inhabited cZ:=⟨rP⟩
theorem Sg:prog.cellsOf 30=5:=by rfl
section
variable {H:Type} {enc:TypeId×Value->H} {w:World} {base:Nat} {spare:Nat->Bool} {held:Bool}
theorem zY {α:Type} [Inhabited α] {ts te:TypeId} {sz:Nat} (p:List Value->α->Prop) (hu:prog.underlying ts=some (.slice te)) (hc:prog.cellsOf te=sz) (hb8:0<prog.bytesOf te) (hs0:0<sz)
  (elem:∀(n:Nat) (cs:List Value) (x:DataW H×List MemPlace),cs.length=sz->DataW.trod enc prog w base spare held n te cs=some x->qG te x.1->∃y,p cs y)
  {fuel:Nat} {a0:Option Addr} {len cap:Nat} {x:DataW H×List MemPlace} (h:DataW.trod enc prog w base spare held fuel ts [.slice a0 len cap]=some x) (hw:qG ts x.1) :
  len<=cap/\len<=140737488351232/\∃l:List α,l.length=len/\(0<len->∃b off,a0=some (Ad b off)/\b<w.heap.size/\∀i,i<len->∃cs:List Value,cs.length=sz/\p cs (l.getD i default)/\∀j,j<sz->w.cell? (Ad b (off+i*sz+j))=cs[j]?)/\∀i,i<len->∃cs,p cs (l.getD i default):=by
 rcases open_slice hu h with⟨A,_⟩ | ⟨a,O,Q,m,n,D,Pl,A,hb,hl,hm,R,rfl,hx⟩
 . simp_all
 simp at A;obtain⟨rfl,rfl,rfl⟩:=A;have T:len<=m:=by grind
 obtain⟨G,M⟩:=vH hu hw;unfold reachBytes at G;have F:len<=140737488351232:=by
  simp only[jw,List.length_range] at G;have:=Nat.le_mul_of_pos_right (len+(m-len)) hb8;omega
 have each:∀i,i<len->∃y:α,∃cs:List Value,cs.length=sz/\p cs y/\∀j,j<sz->w.cell? (a.add (i*sz+j))=cs[j]?:=by
  intro i hi;obtain⟨K,h1,h2⟩:=hx i ω;have hd:D i∈(List.range len).map D:=zB.2 ⟨i,uO.2 hi,rfl⟩;rw[hc] at h1;obtain⟨_,L,B⟩:=Kt h1;obtain⟨y,hy⟩:=elem n K _ L h2 (M _ hd);refine⟨y,K,L,hy,λj hj=>?_⟩;have:=B j ω;simp only[add_add] at this;omega
 obtain⟨g,hg⟩:=choose_lt each;have N:∀i,i<len->((List.range len).map g).getD i default=g i:=by
  grind
 refine⟨hl,F,(List.range len).map g,ξ,λh0=>?_,λi hi=>?_⟩
 . obtain⟨b,off,J⟩:=a;obtain⟨cs,e1,e2,e3⟩:=hg 0 h0;have q:=e3 0 hs0;rw[pX ω] at q;have r:J=none:=by simpa [Addr.add] using Kq q
   subst r;rw[rG] at q;refine⟨b,off,rfl,Hq q,λi hi=>?_⟩;rw[N i hi];obtain⟨cs,e1,e2,e3⟩:=hg i hi;refine⟨cs,e1,e2,λj hj=>?_⟩;have:=e3 j hj;rw[rG,<- zC] at this;omega
 grind
theorem xS {fuel:Nat} {v:Value} {y:DataW H×List MemPlace} (h:DataW.trod enc prog w base spare held fuel 3 [v]=some y):∃n:Int,v=I n/\cR n:=by
 grind [DataW.trod_int,underlying3,Ap]
def afo (cs:List Value) (y:ko):Prop:=cs=[.string y.data,I y.refs,.bool y.ja,.bool y.seen]/\bM y.data.size/\cR y.refs
theorem aie (n:Nat) (cs:List Value) (x:DataW H×List MemPlace) (hl:cs.length=4) (h:DataW.trod enc prog w base spare held n 169 cs=some x) (hw:qG 169 x.1):∃y,afo cs y:=by
 obtain⟨xs,k,hk,b,_,q,hf⟩:=tS underlying169 h;rw[b] at hw
 match cs,hl with
 | [v0,v1,v2,v3],_ =>
  have g0:DataW.trod enc prog w base spare held k 9 (([v0,v1,v2,v3].drop 0).take (prog.cellsOf 9))=xs[0]?:=hf 0 _ rfl;have g1:DataW.trod enc prog w base spare held k 3 (([v0,v1,v2,v3].drop 1).take (prog.cellsOf 3))=xs[1]?:=hf 1 _ rfl;have g2:DataW.trod enc prog w base spare held k 4 (([v0,v1,v2,v3].drop 2).take (prog.cellsOf 4))=xs[2]?:=hf 2 _ rfl;have g3:DataW.trod enc prog w base spare held k 4 (([v0,v1,v2,v3].drop 3).take (prog.cellsOf 4))=xs[3]?:=hf 3 _ rfl;simp only[uD,Z3,KH] at g0 g1 g2 g3
  match xs,q with
  | [y0,y1,y2,y3],_ =>
   obtain⟨m0,c0,r,_⟩:=Qf underlying9 (show DataW.trod enc prog w base spare held k 9 [v0]=some y0 from g0);have u0:=mF underlying169 hw (j:=0) (u:=9) (d:=y0.1) rfl rfl;rw[r] at u0;have w0:bM m0.size:=by have:=zK u0;unfold bM;unfold reachBytes at this;rw[Lib.size_eq];omega
   simp only[rE,qJ] at c0;subst c0;obtain⟨m1,rfl,w1⟩:=xS (show DataW.trod enc prog w base spare held k 3 [v1]=some y1 from g1);obtain⟨m2,c2,_⟩:=Qa underlying4 (show DataW.trod enc prog w base spare held k 4 [v2]=some y2 from g2);simp only[rE,qJ] at c2;subst c2;obtain⟨m3,c3,_⟩:=Qa underlying4 (show DataW.trod enc prog w base spare held k 4 [v3]=some y3 from g3);simp only[rE,qJ] at c3;subst c3;exact⟨⟨m0,m1,m2,m3⟩,rfl,w0,w1⟩
theorem adE {fuel:Nat} {a0:Option Addr} {len cap:Nat} {x:DataW H×List MemPlace} (h:DataW.trod enc prog w base spare held fuel 26 [.slice a0 len cap]=some x) (hw:qG 26 x.1) :
  ∃l:List ko,l.length=len/\dE gu 4 eG w a0 l/\bM l.length/\(∀k,k<l.length->bM (aK l k).data.size/\cR (aK l k).refs)/\len<=cap:=by
 obtain⟨h1,h2,l,h3,h4,h5⟩:=zY afo underlying26 adI adM Δ aie h hw;subst h3;refine⟨l,rfl,λh0=>?_,h2,λk hk=>?_,h1⟩
 . obtain⟨b,off,e1,e2,e3⟩:=h4 h0;refine⟨b,off,e1,e2,λi hi=>?_⟩;obtain⟨cs,_,⟨rfl,_⟩,q⟩:=e3 i hi;exact q
 obtain⟨cs,_,q⟩:=h5 k hk;exact q
def afn (cs:List Value) (y:mJ):Prop:=cs=[.string y.data,I y.refs]/\bM y.data.size/\cR y.refs
theorem aid (n:Nat) (cs:List Value) (x:DataW H×List MemPlace) (hl:cs.length=2) (h:DataW.trod enc prog w base spare held n 171 cs=some x) (hw:qG 171 x.1):∃y,afn cs y:=by
 obtain⟨xs,k,hk,q,_,b,hf⟩:=tS underlying171 h;rw[q] at hw
 match cs,hl with
 | [v0,v1],_ =>
  have g0:DataW.trod enc prog w base spare held k 9 (([v0,v1].drop 0).take (prog.cellsOf 9))=xs[0]?:=hf 0 _ rfl;have g1:DataW.trod enc prog w base spare held k 3 (([v0,v1].drop 1).take (prog.cellsOf 3))=xs[1]?:=hf 1 _ rfl;simp only[uD,KH] at g0 g1
  match xs,b with
  | [y0,y1],_ =>
   obtain⟨m0,c0,r,_⟩:=Qf underlying9 (show DataW.trod enc prog w base spare held k 9 [v0]=some y0 from g0);have u0:=mF underlying171 hw (j:=0) (u:=9) (d:=y0.1) rfl rfl;rw[r] at u0;have w0:bM m0.size:=by grind [zK,bM,reachBytes,Lib.size_eq]
   simp only[rE,qJ] at c0;subst c0;obtain⟨m1,rfl,w1⟩:=xS (show DataW.trod enc prog w base spare held k 3 [v1]=some y1 from g1);exact⟨⟨m0,m1⟩,rfl,w0,w1⟩
theorem adD {fuel:Nat} {a0:Option Addr} {len cap:Nat} {x:DataW H×List MemPlace} (h:DataW.trod enc prog w base spare held fuel 27 [.slice a0 len cap]=some x) (hw:qG 27 x.1) :
  ∃l:List mJ,l.length=len/\dE gq 2 gP w a0 l/\bM l.length/\(∀k,k<l.length->bM (bI l k).data.size/\cR (bI l k).refs)/\len<=cap:=by
 obtain⟨h1,h2,l,h3,h4,h5⟩:=zY afn underlying27 adH adL Δ aid h hw;subst h3;refine⟨l,rfl,λh0=>?_,h2,λk hk=>?_,h1⟩
 . obtain⟨b,off,e1,e2,e3⟩:=h4 h0;refine⟨b,off,e1,e2,λi hi=>?_⟩;obtain⟨cs,_,⟨rfl,_⟩,q⟩:=e3 i hi;exact q
 obtain⟨cs,_,q⟩:=h5 k hk;exact q
def afp (cs:List Value) (y:bK):Prop:=cs=[I y.page,I y.kind,I y.loc]/\cR y.page/\cR y.kind/\cR y.loc
theorem aif (n:Nat) (cs:List Value) (x:DataW H×List MemPlace) (hl:cs.length=3) (h:DataW.trod enc prog w base spare held n 174 cs=some x) (hw:qG 174 x.1):∃y,afp cs y:=by
 obtain⟨xs,k,hk,q,_,b,hf⟩:=tS underlying174 h;rw[q] at hw
 match cs,hl with
 | [v0,v1,v2],_ =>
  have g0:DataW.trod enc prog w base spare held k 3 (([v0,v1,v2].drop 0).take (prog.cellsOf 3))=xs[0]?:=hf 0 _ rfl;have g1:DataW.trod enc prog w base spare held k 3 (([v0,v1,v2].drop 1).take (prog.cellsOf 3))=xs[1]?:=hf 1 _ rfl;have g2:DataW.trod enc prog w base spare held k 3 (([v0,v1,v2].drop 2).take (prog.cellsOf 3))=xs[2]?:=hf 2 _ rfl;simp only[uD] at g0 g1 g2
  match xs,b with
  | [y0,y1,y2],_ =>
   obtain⟨m0,rfl,w0⟩:=xS (show DataW.trod enc prog w base spare held k 3 [v0]=some y0 from g0);obtain⟨m1,rfl,w1⟩:=xS (show DataW.trod enc prog w base spare held k 3 [v1]=some y1 from g1);obtain⟨m2,rfl,w2⟩:=xS (show DataW.trod enc prog w base spare held k 3 [v2]=some y2 from g2);exact⟨⟨m0,m1,m2⟩,rfl,w0,w1,w2⟩
theorem adF {fuel:Nat} {a0:Option Addr} {len cap:Nat} {x:DataW H×List MemPlace} (h:DataW.trod enc prog w base spare held fuel 97 [.slice a0 len cap]=some x) (hw:qG 97 x.1) :
  ∃l:List bK,l.length=len/\dE bC 3 gJ w a0 l/\bM l.length/\(∀k,k<l.length->cR (aW l k).page/\cR (aW l k).kind/\cR (aW l k).loc)/\len<=cap:=by
 obtain⟨h1,h2,l,h3,h4,h5⟩:=zY afp underlying97 adJ adN Δ aif h hw;subst h3;refine⟨l,rfl,λh0=>?_,h2,λk hk=>?_,h1⟩
 . obtain⟨b,off,e1,e2,e3⟩:=h4 h0;refine⟨b,off,e1,e2,λi hi=>?_⟩;obtain⟨cs,_,⟨rfl,_⟩,q⟩:=e3 i hi;exact q
 obtain⟨cs,_,q⟩:=h5 k hk;exact q
def afm (w:World) (cs:List Value) (y:cZ):Prop:=∃va ap cp,cs=[.bool y.live,va,.slice ap y.bl.length cp]/\eN w va y.bu/\dE bC 3 gJ w ap y.bl/\y.bl.length<=cp/\Gh y
theorem aic (n:Nat) (cs:List Value) (x:DataW H×List MemPlace) (hl:cs.length=3) (h:DataW.trod enc prog w base spare held n 99 cs=some x) (hw:qG 99 x.1):∃y,afm w cs y:=by
 obtain⟨xs,k,hk,b,_,q,hf⟩:=tS underlying99 h;rw[b] at hw
 match cs,hl with
 | [v0,v1,v2],_ =>
  have g0:DataW.trod enc prog w base spare held k 4 (([v0,v1,v2].drop 0).take (prog.cellsOf 4))=xs[0]?:=hf 0 _ rfl;have g1:DataW.trod enc prog w base spare held k 22 (([v0,v1,v2].drop 1).take (prog.cellsOf 22))=xs[1]?:=hf 1 _ rfl;have g2:DataW.trod enc prog w base spare held k 97 (([v0,v1,v2].drop 2).take (prog.cellsOf 97))=xs[2]?:=hf 2 _ rfl;simp only[Z3,N5,aaZ] at g0 g1 g2
  match xs,q with
  | [y0,y1,y2],_ =>
   obtain⟨lv,c0,_⟩:=Qa underlying4 (show DataW.trod enc prog w base spare held k 4 [v0]=some y0 from g0);have u1:=mF underlying99 hw (j:=1) (u:=22) (d:=y1.1) rfl rfl;have u2:=mF underlying99 hw (j:=2) (u:=97) (d:=y2.1) rfl rfl;have t1:DataW.trod enc prog w base spare held k 22 [v1]=some y1:=g1;have t2:DataW.trod enc prog w base spare held k 97 [v2]=some y2:=g2;obtain⟨av,r,cv,d1⟩:=o7 underlying22 t1;obtain⟨ap,lp,cp,d2⟩:=o7 underlying97 t2;subst d1;subst d2;obtain⟨l,n1,n2,n3,n4⟩:=Jk t1;obtain⟨ps,s1,s2,s3,s4,s5⟩:=adF t2 u2;simp only[rE,qJ] at c0;subst c0;subst s1;refine⟨⟨lv,l,ps⟩,_,ap,cp,rfl,n2,s2,s5,⟨n3,?_⟩,s3,s4⟩;rw[n1];rcases n4 with e | ⟨el,sp,e1,e2⟩
   . omega
   rw[e1] at u1;have hb:=(vH underlying22 u1).1;rw[QY,e2] at hb;unfold reachBytes at hb;omega
theorem adC {fuel:Nat} {a0:Option Addr} {len cap:Nat} {x:DataW H×List MemPlace} (h:DataW.trod enc prog w base spare held fuel 28 [.slice a0 len cap]=some x) (hw:qG 28 x.1) :
  ∃l:List cZ,l.length=len/\su w a0 l/\bM l.length/\∀k,k<l.length->Gh (ak l k):=by
 obtain⟨h1,h2,l,h3,h4,h5⟩:=zY (afm w) underlying28 adG adK Δ aic h hw;subst h3;refine⟨l,rfl,λh0=>?_,h2,λk hk=>?_⟩
 . obtain⟨b,off,e1,e2,e3⟩:=h4 h0;refine⟨b,off,e1,e2,λi hi=>?_⟩;obtain⟨cs,_,⟨va,ap,cp,rfl,r1,r2,r3,_⟩,q⟩:=e3 i hi;exact⟨va,ap,cp,q 0 Δ,q 1 Δ,q 2 Δ,r1,r2,r3⟩
 obtain⟨cs,_,_,_,_,_,_,_,q⟩:=h5 k hk;exact q
theorem Sd {fuel:Nat} {cs:List Value} {x:DataW H×List MemPlace} (h:DataW.trod enc prog w base spare held fuel 30 cs=some x) (hw:qG 30 x.1) :
  ∃(k:aT) (a:gN),cs=(bj a k).toList/\iB w a k/\kN k:=by
 obtain⟨xs,k,hk,q,b,r,hf⟩:=tS underlying30 h;rw[q] at hw;rw[Sg] at b
 match cs,b with
 | [v0,v1,v2,v3,v4],_ =>
  have g0:DataW.trod enc prog w base spare held k 23 (([v0,v1,v2,v3,v4].drop 0).take (prog.cellsOf 23))=xs[0]?:=hf 0 _ rfl;have g1:DataW.trod enc prog w base spare held k 26 (([v0,v1,v2,v3,v4].drop 1).take (prog.cellsOf 26))=xs[1]?:=hf 1 _ rfl;have g2:DataW.trod enc prog w base spare held k 27 (([v0,v1,v2,v3,v4].drop 2).take (prog.cellsOf 27))=xs[2]?:=hf 2 _ rfl;have g3:DataW.trod enc prog w base spare held k 28 (([v0,v1,v2,v3,v4].drop 3).take (prog.cellsOf 28))=xs[3]?:=hf 3 _ rfl;have g4:DataW.trod enc prog w base spare held k 3 (([v0,v1,v2,v3,v4].drop 4).take (prog.cellsOf 3))=xs[4]?:=hf 4 _ rfl;simp only[uD,N4,aaY,aaX,aaW] at g0 g1 g2 g3 g4
  match xs,r with
  | [y0,y1,y2,y3,y4],_ =>
   obtain⟨hd,rfl,i4⟩:=xS (show DataW.trod enc prog w base spare held k 3 [v4]=some y4 from g4);have u0:=mF underlying30 hw (j:=0) (u:=23) (d:=y0.1) rfl rfl;have t0:DataW.trod enc prog w base spare held k 23 [v0]=some y0:=g0;obtain⟨a0,l0,c0,d0⟩:=o7 underlying23 t0;have u1:=mF underlying30 hw (j:=1) (u:=26) (d:=y1.1) rfl rfl;have t1:DataW.trod enc prog w base spare held k 26 [v1]=some y1:=g1;obtain⟨a1,l1,c1,d1⟩:=o7 underlying26 t1;have u2:=mF underlying30 hw (j:=2) (u:=27) (d:=y2.1) rfl rfl;have t2:DataW.trod enc prog w base spare held k 27 [v2]=some y2:=g2;obtain⟨a2,l2,c2,d2⟩:=o7 underlying27 t2;have u3:=mF underlying30 hw (j:=3) (u:=28) (d:=y3.1) rfl rfl;have t3:DataW.trod enc prog w base spare held k 28 [v3]=some y3:=g3;obtain⟨a3,l3,c3,d3⟩:=o7 underlying28 t3;subst d0;subst d1;subst d2;subst d3;obtain⟨hs,rfl,s2,s3,s4⟩:=Ve t0 u0;obtain⟨fs,rfl,f2,f3,f4,f5⟩:=adE t1 u1;obtain⟨ls,rfl,m2,m3,m4,m5⟩:=adD t2 u2;obtain⟨ss,rfl,p2,p3,p4⟩:=adC t3 u3;exact⟨⟨hs,fs,ls,ss,hd⟩,⟨a0,c0,a1,c1,a2,c2,a3,c3⟩,rfl,⟨s2,f2,m2,p2⟩,⟨s3,f3,f4,m3,m4,p3,p4,i4⟩⟩
end
open Go.RowKit Go.Deep
theorem aeD:prog.cellsOf 77=13:=by kernel_rfl
theorem aeB:prog.cellsOf 91=2:=by kernel_rfl
theorem abT:prog.cellsOf 31=1:=by kernel_rfl
theorem abS:prog.cellsOf 32=1:=by kernel_rfl
theorem aeC:prog.cellsOf 73=8:=by kernel_rfl
theorem aeE:prog.cellsOf 75=2:=by kernel_rfl
theorem aeG:0<prog.bytesOf 77:=kr κ
theorem aeF:0<prog.bytesOf 91:=kr κ
instance:Inhabited ajf:=⟨aoz⟩
instance:Inhabited aje:=⟨aoy⟩
instance:Inhabited ra:=⟨Ze⟩
instance:Inhabited bQ:=⟨C5⟩
section
variable {H:Type} {enc:TypeId×Value->H} {w:World} {base:Nat} {spare:Nat->Bool} {held:Bool}
theorem Mp {α:Type} [Inhabited α] {ts te:TypeId} {sz:Nat} (p:List Value->α->Prop) (hu:prog.underlying ts=some (.slice te)) (hc:prog.cellsOf te=sz) (hb8:0<prog.bytesOf te) (hs0:0<sz)
  (elem:∀(n:Nat) (cs:List Value) (x:DataW H×List MemPlace),cs.length=sz->DataW.trod enc prog w base spare held n te cs=some x->qG te x.1->∃y,p cs y)
  {fuel:Nat} {a0:Option Addr} {len cap:Nat} {x:DataW H×List MemPlace} (h:DataW.trod enc prog w base spare held fuel ts [.slice a0 len cap]=some x) (hw:qG ts x.1) :
  len<=cap/\len<=140737488351232/\∃l:List α,l.length=len/\(0<len->∃b off,a0=some (Ad b off)/\b<w.heap.size/\∀i,i<len->∃cs:List Value,cs.length=sz/\p cs (l.getD i default)/\∀j,j<sz->w.cell? (Ad b (off+i*sz+j))=cs[j]?)/\∀i,i<len->∃cs,p cs (l.getD i default):=by
 rcases open_slice hu h with⟨q,_⟩ | ⟨a,Q,R,m,n,D,Pl,q,hb,hl,hm,N,rfl,hx⟩
 . simp at q;obtain⟨rfl,rfl,rfl⟩:=q;exact⟨aJ _,ω,[],rfl,λh=>absurd h ω,λi hi=>absurd hi ω⟩
 simp at q;obtain⟨rfl,rfl,rfl⟩:=q;have T:len<=m:=by rw[N];split <;> omega
 obtain⟨G,O⟩:=vH hu hw;unfold reachBytes at G;have F:len<=140737488351232:=by
  simp only[jw,List.length_range] at G;have:=Nat.le_mul_of_pos_right (len+(m-len)) hb8;omega
 have each:∀i,i<len->∃y:α,∃cs:List Value,cs.length=sz/\p cs y/\∀j,j<sz->w.cell? (a.add (i*sz+j))=cs[j]?:=by
  intro i hi;obtain⟨K,h1,h2⟩:=hx i ω;have hd:D i∈(List.range len).map D:=zB.2 ⟨i,uO.2 hi,rfl⟩;rw[hc] at h1;obtain⟨_,M,B⟩:=Kt h1;obtain⟨y,hy⟩:=elem n K _ M h2 (O _ hd);refine⟨y,K,M,hy,λj hj=>?_⟩;have:=B j ω;simp only[add_add] at this;exact this
 obtain⟨g,hg⟩:=choose_lt each;have L:∀i,i<len->((List.range len).map g).getD i default=g i:=by
  intro i hi;simp[hi]
 refine⟨hl,F,(List.range len).map g,ξ,λh0=>?_,λi hi=>?_⟩
 . obtain⟨b,off,J⟩:=a;obtain⟨cs,e1,e2,e3⟩:=hg 0 h0;have r:=e3 0 hs0;rw[pX ω] at r;have A:J=none:=by simpa [Addr.add] using Kq r
   subst A;rw[rG] at r;refine⟨b,off,rfl,Hq r,λi hi=>?_⟩;rw[L i hi];obtain⟨cs,e1,e2,e3⟩:=hg i hi;refine⟨cs,e1,e2,λj hj=>?_⟩;have:=e3 j hj;rw[rG,<- zC] at this;exact this
 rw[L i hi];obtain⟨cs,_,e2,_⟩:=hg i hi;exact⟨cs,e2⟩
theorem lR {fuel:Nat} {v:Value} {y:DataW H×List MemPlace} (h:DataW.trod enc prog w base spare held fuel 3 [v]=some y):∃n:Int,v=I n/\cR n:=by
 obtain⟨n,c,_,wf⟩:=D4 underlying3 h;simp only[rE,qJ] at c;exact⟨n,c,Ap _ wf⟩
def afE (cs:List Value) (y:ra):Prop:=cs=[I y.proc,I y.value]
theorem abQ (n:Nat) (cs:List Value) (x:DataW H×List MemPlace) (hl:cs.length=2) (h:DataW.trod enc prog w base spare held n 91 cs=some x) (hw:qG 91 x.1):∃y,afE cs y:=by
 obtain⟨xs,k,hk,q,_,b,hf⟩:=tS underlying91 h
 match cs,hl with
 | [v0,v1],_ =>
  have g0:DataW.trod enc prog w base spare held k 3 (([v0,v1].drop 0).take (prog.cellsOf 3))=xs[0]?:=hf 0 _ rfl;have g1:DataW.trod enc prog w base spare held k 3 (([v0,v1].drop 1).take (prog.cellsOf 3))=xs[1]?:=hf 1 _ rfl;simp only[uD] at g0 g1
  match xs,b with
  | [y0,y1],_ =>
   obtain⟨m0,rfl,_⟩:=lR (show DataW.trod enc prog w base spare held k 3 [v0]=some y0 from g0);obtain⟨m1,rfl,_⟩:=lR (show DataW.trod enc prog w base spare held k 3 [v1]=some y1 from g1);exact⟨⟨m0,m1⟩,rfl⟩
theorem UM {fuel:Nat} {a0:Option Addr} {len cap:Nat} {x:DataW H×List MemPlace} (h:DataW.trod enc prog w base spare held fuel 32 [.slice a0 len cap]=some x) (hw:qG 32 x.1) :
  ∃l:List ra,l.length=len/\um w a0 l/\bM l.length:=by
 obtain⟨h1,h2,l,h3,h4,h5⟩:=Mp afE underlying32 aeB aeF Δ abQ h hw;subst h3;refine⟨l,rfl,λh0=>?_,h2⟩;obtain⟨b,off,e1,e2,e3⟩:=h4 h0;refine⟨b,off,e1,e2,λi hi=>?_⟩;obtain⟨cs,_,rfl,q⟩:=e3 i hi;exact⟨q 0 Δ,q 1 Δ⟩
def afF (cs:List Value) (y:bQ):Prop:=cs=y.row.toList/\qN y
theorem abR (n:Nat) (cs:List Value) (x:DataW H×List MemPlace) (hl:cs.length=13) (h:DataW.trod enc prog w base spare held n 77 cs=some x) (hw:qG 77 x.1):∃y,afF cs y:=by
 obtain⟨xs,k,hk,J,_,A,hf⟩:=tS underlying77 h
 match cs,hl with
 | [v0,v1,v2,v3,v4,v5,v6,v7,v8,v9,v10,v11,v12],_ =>
  have g0:DataW.trod enc prog w base spare held k 73 (([v0,v1,v2,v3,v4,v5,v6,v7,v8,v9,v10,v11,v12].drop 0).take (prog.cellsOf 73))=xs[0]?:=hf 0 _ rfl;have g1:DataW.trod enc prog w base spare held k 3 (([v0,v1,v2,v3,v4,v5,v6,v7,v8,v9,v10,v11,v12].drop 8).take (prog.cellsOf 3))=xs[1]?:=hf 1 _ rfl;have g2:DataW.trod enc prog w base spare held k 3 (([v0,v1,v2,v3,v4,v5,v6,v7,v8,v9,v10,v11,v12].drop 9).take (prog.cellsOf 3))=xs[2]?:=hf 2 _ rfl;have g3:DataW.trod enc prog w base spare held k 3 (([v0,v1,v2,v3,v4,v5,v6,v7,v8,v9,v10,v11,v12].drop 10).take (prog.cellsOf 3))=xs[3]?:=hf 3 _ rfl;have g4:DataW.trod enc prog w base spare held k 75 (([v0,v1,v2,v3,v4,v5,v6,v7,v8,v9,v10,v11,v12].drop 11).take (prog.cellsOf 75))=xs[4]?:=hf 4 _ rfl;simp only[uD,aeC,aeE] at g0 g1 g2 g3 g4
  match xs,A with
  | [y0,y1,y2,y3,y4],_ =>
   obtain⟨n8,rfl,i8⟩:=lR (show DataW.trod enc prog w base spare held k 3 [v8]=some y1 from g1);obtain⟨n9,rfl,_⟩:=lR (show DataW.trod enc prog w base spare held k 3 [v9]=some y2 from g2);obtain⟨B,rfl,_⟩:=lR (show DataW.trod enc prog w base spare held k 3 [v10]=some y3 from g3);have t0:DataW.trod enc prog w base spare held k 73 [v0,v1,v2,v3,v4,v5,v6,v7]=some y0:=g0;have t4:DataW.trod enc prog w base spare held k 75 [v11,v12]=some y4:=g4;obtain⟨az,ka,_,_,_,r,ha⟩:=DataW.trod_array underlying73 t0;obtain⟨fs,kf,_,_,_,q,b⟩:=tS underlying75 t4;have f0:DataW.trod enc prog w base spare held kf 3 (([v11,v12].drop 0).take (prog.cellsOf 3))=fs[0]?:=b 0 _ rfl;have f1:DataW.trod enc prog w base spare held kf 3 (([v11,v12].drop 1).take (prog.cellsOf 3))=fs[1]?:=b 1 _ rfl;simp only[uD] at f0 f1 ha
   match fs,q with
   | [q0,q1],_ =>
    obtain⟨G,rfl,_⟩:=lR (show DataW.trod enc prog w base spare held kf 3 [v11]=some q0 from f0);obtain⟨F,rfl,_⟩:=lR (show DataW.trod enc prog w base spare held kf 3 [v12]=some q1 from f1)
    match az,r with
    | [a0,a1,a2,a3,a4,a5,a6,a7],_ =>
     obtain⟨n0,rfl,i0⟩:=lR (show DataW.trod enc prog w base spare held ka 3 [v0]=some a0 from ha 0 ω);obtain⟨n1,rfl,i1⟩:=lR (show DataW.trod enc prog w base spare held ka 3 [v1]=some a1 from ha 1 ω);obtain⟨n2,rfl,i2⟩:=lR (show DataW.trod enc prog w base spare held ka 3 [v2]=some a2 from ha 2 ω);obtain⟨n3,rfl,i3⟩:=lR (show DataW.trod enc prog w base spare held ka 3 [v3]=some a3 from ha 3 ω);obtain⟨n4,rfl,i4⟩:=lR (show DataW.trod enc prog w base spare held ka 3 [v4]=some a4 from ha 4 ω);obtain⟨n5,rfl,i5⟩:=lR (show DataW.trod enc prog w base spare held ka 3 [v5]=some a5 from ha 5 ω);obtain⟨n6,rfl,i6⟩:=lR (show DataW.trod enc prog w base spare held ka 3 [v6]=some a6 from ha 6 ω);obtain⟨n7,rfl,i7⟩:=lR (show DataW.trod enc prog w base spare held ka 3 [v7]=some a7 from ha 7 ω);exact⟨⟨λj=>match j with | 0=>n0 | 1=>n1 | 2=>n2 | 3=>n3 | 4=>n4 | 5=>n5 | 6=>n6 | _=>n7,n8,n9,B,G,F⟩,rfl,λj hj=>by
      match j,hj with
      | 0,_=>exact i0
      | 1,_=>exact i1
      | 2,_=>exact i2
      | 3,_=>exact i3
      | 4,_=>exact i4
      | 5,_=>exact i5
      | 6,_=>exact i6
      | 7,_=>exact i7
      | j+8,h=>exact absurd h ω,i8⟩
theorem UN {fuel:Nat} {a0:Option Addr} {len cap:Nat} {x:DataW H×List MemPlace} (h:DataW.trod enc prog w base spare held fuel 31 [.slice a0 len cap]=some x) (hw:qG 31 x.1) :
  ∃l:List bQ,l.length=len/\sZ w a0 l/\bM l.length/\ai8 l:=by
 obtain⟨h1,h2,l,h3,h4,h5⟩:=Mp afF underlying31 aeD aeG Δ abR h hw;subst h3;refine⟨l,rfl,λh0=>?_,h2,λk hk=>?_⟩
 . obtain⟨b,off,e1,e2,e3⟩:=h4 h0;refine⟨b,off,e1,e2,λi hi=>?_⟩;obtain⟨cs,_,⟨rfl,_⟩,q⟩:=e3 i hi;exact⟨q 0 Δ,q 1 Δ,q 2 Δ,q 3 Δ,q 4 Δ,q 5 Δ,q 6 Δ,q 7 Δ,q 8 Δ,q 9 Δ,q 10 Δ,q 11 Δ,q 12 Δ⟩
 obtain⟨cs,_,q⟩:=h5 k hk;exact q
end
open Go.RowKit Go.Deep
theorem ael:prog.cellsOf 34=7:=by kernel_rfl
section
variable {H:Type} {enc:TypeId×Value->H} {w:World} {base:Nat} {spare:Nat->Bool} {held:Bool}
theorem PI {fuel:Nat} {cs:List Value} {x:DataW H×List MemPlace} (h:DataW.trod enc prog w base spare held fuel 34 cs=some x) (hw:qG 34 x.1) :
  ∃(m:iM) (a:gN) (ar ao:Option Addr) (cr co:Nat),cs=(eU m a ar ao cr co).toList/\rR w a ar ao m/\Ct m/\L6 m.procs:=by
 obtain⟨xs,k,hk,q,b,r,hf⟩:=tS underlying34 h;rw[q] at hw;rw[ael] at b
 match cs,b with
 | [v0,v1,v2,v3,v4,v5,v6],_ =>
  have g0:DataW.trod enc prog w base spare held k 30 (([v0,v1,v2,v3,v4,v5,v6].drop 0).take (prog.cellsOf 30))=xs[0]?:=hf 0 _ rfl;have g1:DataW.trod enc prog w base spare held k 31 (([v0,v1,v2,v3,v4,v5,v6].drop 5).take (prog.cellsOf 31))=xs[1]?:=hf 1 _ rfl;have g2:DataW.trod enc prog w base spare held k 32 (([v0,v1,v2,v3,v4,v5,v6].drop 6).take (prog.cellsOf 32))=xs[2]?:=hf 2 _ rfl;simp only[Sg,abT,abS] at g0 g1 g2
  match xs,r with
  | [y0,y1,y2],_ =>
   have u0:=mF underlying34 hw (j:=0) (u:=30) (d:=y0.1) rfl rfl;have u1:=mF underlying34 hw (j:=1) (u:=31) (d:=y1.1) rfl rfl;have u2:=mF underlying34 hw (j:=2) (u:=32) (d:=y2.1) rfl rfl;have t0:DataW.trod enc prog w base spare held k 30 [v0,v1,v2,v3,v4]=some y0:=g0;have t1:DataW.trod enc prog w base spare held k 31 [v5]=some y1:=g1;have t2:DataW.trod enc prog w base spare held k 32 [v6]=some y2:=g2;obtain⟨kn,a,e0,k1,k2⟩:=Sd t0 u0;obtain⟨ar,l2,c2,d2⟩:=o7 underlying31 t1;obtain⟨ao,l3,c3,d3⟩:=o7 underlying32 t2;subst d2;subst d3;obtain⟨ps,rfl,p2,p3,p4⟩:=UN t1 u1;obtain⟨os,rfl,o2,o3⟩:=UM t2 u2;refine⟨⟨kn,ps,os⟩,a,ar,ao,c2,c3,?_,⟨k1,p2,o2⟩,⟨k2,p3,o3⟩,p4⟩;unfold bj at e0;simp only[rE,qJ] at e0;obtain⟨rfl,rfl,rfl,rfl,rfl⟩:=e0;rfl
end
end Go.Proofs.YtlgoihmkgaaemaaGreat
