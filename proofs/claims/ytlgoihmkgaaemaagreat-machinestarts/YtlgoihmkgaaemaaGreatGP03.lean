import Derived.Test.YtlgoihmkgaaemaaGreatGP02
import Derived.Test.YtlgoihmkgaaemaaGreatChecked
import Derived.Deep.Slices
import Derived.ProofKit
set_option maxHeartbeats 20000000
set_option linter.unusedVariables false
set_option maxRecDepth 100000
set_option linter.unusedSimpArgs false
namespace Go.Proofs.YtlgoihmkgaaemaaGreat
open Go.RowKit Tryz
theorem G3 (l:List aU) (page aY q:Int) (how:dg->dg×Int) (h:(dV l page aY q how).2≠0):(dV l page aY q how).1=[]:=by
 grind [dV]
theorem J6 (l:List aU) (page aY q:Int) (how:dg->dg×Int) (h:(dV l page aY q how).2=0) :
  bf l=0/\fF page aY=true/\jg q=true/\gI (dA l) how page.toNat aY.toNat=0/\(dV l page aY q how).1=gH (ez (dA l) how page (page+aY)):=by
 grind [dV]
theorem ab6 (l:List aU) (page t q:Int) (hc:bf l=0) (hp:1<=page) (hq:0<=q/\q<=3):nI (ez (dA l) (fw q) page t) :=
 Bo _ (xt l hc) _ _ _ hp (λs _ h=>by
  grind [fw]) (λs h=>by
  grind [fw])
theorem U4 (l:List aU) (page t:Int) (hc:bf l=0) (hp:1<=page):nI (ez (dA l) bZ page t) :=
 Bo _ (xt l hc) _ _ _ hp (λs _ _=>rfl) (λs _=>⟨by simp[bZ,iE],by simp[bZ,iE]⟩)
theorem PW (l:List aU) (page t q:Int) (hc:bf l=0) (hp:1<=page) (hq:0<=q/\q<=3):nI (ez (dA l) (cO q) page t) :=
 Bo _ (xt l hc) _ _ _ hp (λs hs h=>by
  grind [cO]) (λs h=>by
  grind [cO])
theorem G5 (q:Int):jg q=true↔0<=q/\q<=3:=⟨λh=>kr h,λh=>dW h⟩
theorem Mz (l:List aU) (page aY q:Int) (h:(jz l page aY q).2=0) :
  bf (jz l page aY q).1=0/\(∀p:Nat,1<=p->p<=255 ->
   (page<=(p:Int)/\(p:Int)<page+aY->(bc l p).2=false/\(bc (jz l page aY q).1 p).2=true/\(bc (jz l page aY q).1 p).1.gh=q/\(bc (jz l page aY q).1 p).1.zero=true) /\
   (¬(page<=(p:Int)/\(p:Int)<page+aY)->(bc (jz l page aY q).1 p).2=(bc l p).2/\(bc (jz l page aY q).1 p).1.gh=(bc l p).1.gh/\(bc (jz l page aY q).1 p).1.zero=(bc l p).1.zero)):=by
 obtain⟨hc,Ib,hq,he,hr⟩:=J6 _ _ _ _ _ h;have b:=(lG page aY).1 Ib;have hF:=ab6 l page (page+aY) q hc b.1 ((G5 q).1 hq);have r:(jz l page aY q).1=_:=hr;rw[r];refine⟨sF _ hF,λp h1 h2=>?_⟩;have fg:=Bq _ hF p ω;have fs:=Bp l hc p;refine⟨λhin=>?_,λhout=>?_⟩
 . have y:=He _ _ _ _ he p ω ω
   grind [fw,ez]
 grind [ez]
theorem G1 (l:List aU) (page aY:Int) (h:(gL l page aY).2=0) :
  bf (gL l page aY).1=0/\(∀p:Nat,1<=p->p<=255 ->
   (page<=(p:Int)/\(p:Int)<page+aY->(bc (gL l page aY).1 p).2=false) /\
   (¬(page<=(p:Int)/\(p:Int)<page+aY)->(bc (gL l page aY).1 p).2=(bc l p).2/\(bc (gL l page aY).1 p).1.gh=(bc l p).1.gh/\(bc (gL l page aY).1 p).1.zero=(bc l p).1.zero)):=by
 obtain⟨hc,Ib,hq,he,hr⟩:=J6 _ _ _ _ _ h;have b:=(lG page aY).1 Ib;have hF:=U4 l page (page+aY) hc b.1;have q:(gL l page aY).1=_:=hr;rw[q];refine⟨sF _ hF,λp h1 h2=>?_⟩;have fg:=Bq _ hF p ω;have fs:=Bp l hc p;refine⟨λhin=>?_,λhout=>?_⟩
 . simp only[ez] at fg;rw[aQ hin] at fg;exact fg.1
 grind [ez]
theorem DM (l:List aU) (page aY q:Int) (h:(fV l page aY q).2=0) :
  bf (fV l page aY q).1=0/\(∀p:Nat,1<=p->p<=255 ->
   ((bc (fV l page aY q).1 p).2=(bc l p).2/\(bc (fV l page aY q).1 p).1.zero=(bc l p).1.zero) /\
   (page<=(p:Int)/\(p:Int)<page+aY->(bc (fV l page aY q).1 p).2=true/\(bc (fV l page aY q).1 p).1.gh=q) /\
   (¬(page<=(p:Int)/\(p:Int)<page+aY)->(bc (fV l page aY q).1 p).1.gh=(bc l p).1.gh)):=by
 obtain⟨hc,Ib,hq,he,hr⟩:=J6 _ _ _ _ _ h;have b:=(lG page aY).1 Ib;have hF:=PW l page (page+aY) q hc b.1 ((G5 q).1 hq);have r:(fV l page aY q).1=_:=hr;rw[r];refine⟨sF _ hF,λp h1 h2=>?_⟩;have fg:=Bq _ hF p ω;have fs:=Bp l hc p;simp only[ez] at fg;by_cases hin:page<=(p:Int)/\(p:Int)<page+aY
 . have y:=He _ _ _ _ he p ω ω
   grind [cO]
 grind
theorem SX (l:List aU) (page aY q:Int):dG (jz l page aY q).1:=by
 by_cases h:(jz l page aY q).2=0
 . exact kH _ (Mz l page aY q h).1
 grind [jz,G3,E0]
theorem Zo (l:List aU) (page aY:Int):dG (gL l page aY).1:=by
 by_cases h:(gL l page aY).2=0
 . exact kH _ (G1 l page aY h).1
 grind [gL,G3,E0]
theorem SV (l:List aU) (page aY q:Int):dG (fV l page aY q).1:=by
 by_cases h:(fV l page aY q).2=0
 . exact kH _ (DM l page aY q h).1
 grind [fV,G3,E0]
open Go.RowKit Go.Deep
theorem aeQ:prog.cellsOf 139=4:=by rfl
theorem agY:prog.cellsOf 3=1:=by rfl
theorem agX:prog.cellsOf 4=1:=by rfl
theorem NK (n:Int) (h:(Lit.int .i64 n).wf=true):uA n:=by
 grind [Lit.wf,IntKind.min,IntKind.max,IntKind.signed,IntKind.bits,uA]
section
variable {H:Type} {enc:TypeId×Value->H} {w:World} {base:Nat} {spare:Nat->Bool} {held:Bool}
theorem ab3 {n:Nat} {a:Addr} {cs:List Value} {x:DataW H×List MemPlace} (hc:w.cells? base a 4=some cs) (h:DataW.trod enc prog w base spare held n 139 cs=some x) :
  ∃q:Int×Int×Int×Bool,w.cell? (a.add 0)=some (I q.1)/\w.cell? (a.add 1)=some (I q.2.1)/\w.cell? (a.add 2)=some (I q.2.2.1)/\w.cell? (a.add 3)=some (.bool q.2.2.2)/\uA q.1/\uA q.2.1/\uA q.2.2.1:=by
 obtain⟨_,r,b⟩:=Kt hc;obtain⟨xs,k,hk,A,_,y,hf⟩:=tS underlying139 h
 match cs,r with
 | [v0,v1,v2,v3],_ =>
  have g0:DataW.trod enc prog w base spare held k 3 (([v0,v1,v2,v3].drop 0).take (prog.cellsOf 3))=xs[0]?:=hf 0 _ rfl;have g1:DataW.trod enc prog w base spare held k 3 (([v0,v1,v2,v3].drop 1).take (prog.cellsOf 3))=xs[1]?:=hf 1 _ rfl;have g2:DataW.trod enc prog w base spare held k 3 (([v0,v1,v2,v3].drop 2).take (prog.cellsOf 3))=xs[2]?:=hf 2 _ rfl;have g3:DataW.trod enc prog w base spare held k 4 (([v0,v1,v2,v3].drop 3).take (prog.cellsOf 4))=xs[3]?:=hf 3 _ rfl;simp only[agY,agX] at g0 g1 g2 g3;have e0:=b 0 ω;have e1:=b 1 ω;have e2:=b 2 ω;have e3:=b 3 ω
  match xs,y with
  | [y0,y1,y2,y3],_ =>
   obtain⟨m0,c0,_,w0⟩:=D4 underlying3 (show DataW.trod enc prog w base spare held k 3 [v0]=some y0 from g0);obtain⟨m1,c1,_,w1⟩:=D4 underlying3 (show DataW.trod enc prog w base spare held k 3 [v1]=some y1 from g1);obtain⟨m2,c2,_,w2⟩:=D4 underlying3 (show DataW.trod enc prog w base spare held k 3 [v2]=some y2 from g2);obtain⟨b3,c3,_⟩:=Qa underlying4 (show DataW.trod enc prog w base spare held k 4 [v3]=some y3 from g3);simp only[rE,qJ] at c0 c1 c2 c3;subst c0;subst c1;subst c2;subst c3;exact⟨(m0,m1,m2,b3),e0,e1,e2,e3,NK _ w0,NK _ w1,NK _ w2⟩
theorem Jk {fuel:Nat} {a0:Option Addr} {len cap:Nat} {x:DataW H×List MemPlace} (h:DataW.trod enc prog w base spare held fuel 22 [.slice a0 len cap]=some x) :
  ∃l:List aU,l.length=len/\eN w (.slice a0 len cap) l/\(∀i,i<l.length->Ag (bw l i))/\(len=0\/∃el sp,x.1=.slice el sp/\el.length=len):=by
 rcases open_slice underlying22 h with⟨r,_⟩ | ⟨a,G,J,m,n,D,Pl,r,hb,hl,hm,K,rfl,hx⟩
 . simp at r;obtain⟨rfl,rfl,rfl⟩:=r;exact⟨[],rfl,⟨none,0,rfl,.inl rfl⟩,λi hi=>Γ,.inl rfl⟩
 simp at r;obtain⟨rfl,rfl,rfl⟩:=r;have M:len<=m:=by grind
 have each:∀i,i<len->∃q:Int×Int×Int×Bool,w.cell? (a.add (i*4))=some (I q.1)/\w.cell? (a.add (i*4+1))=some (I q.2.1)/\w.cell? (a.add (i*4+2))=some (I q.2.2.1)/\w.cell? (a.add (i*4+3))=some (.bool q.2.2.2)/\uA q.1/\uA q.2.1/\uA q.2.2.1:=by
  intro i hi;obtain⟨L,h1,h2⟩:=hx i ω;rw[aeQ] at h1;obtain⟨q,e0,e1,e2,e3,f⟩:=ab3 h1 h2
  grind [add_add]
 obtain⟨g,hg⟩:=choose_lt each;have F:∀i,i<len->bw ((List.range len).map λi=>(⟨(g i).1,(g i).2.1,(g i).2.2.1,(g i).2.2.2⟩:aU)) i=⟨(g i).1,(g i).2.1,(g i).2.2.1,(g i).2.2.2⟩:=by
  grind [bw]
 refine⟨(List.range len).map λi=>⟨(g i).1,(g i).2.1,(g i).2.2.1,(g i).2.2.2⟩,ξ,?_,λi hi=>?_,.inr ⟨_,_,rfl,ξ⟩⟩
 . by_cases h0:len=0
   . subst h0;exact⟨some a,cap,ξ,.inl ξ⟩
   obtain⟨b,off,A⟩:=a;have hc:=(hg 0 ω).1;have y:A=none:=by simpa [Addr.add] using Kq hc
   subst y;refine⟨some (Ad b off),cap,ξ,.inr ⟨b,off,rfl,λi hi=>?_⟩⟩
   grind [Addr.add_lit]
 have B:i<len:=by grind
 rw[F i B];obtain⟨_,_,_,_,f1,f2,f3⟩:=hg i B;exact⟨f1,f2,f3⟩
end
open Go.RowKit Tryz
def CH (p:Int) (z:Bool):Int:=1+2*p+(if z then 8 else 0)
def qF (s:dg):Int:=if s.m then CH s.p s.z else 0
def rW (G:Nat->Int):Nat->List Value
 | 0=>[]
 | m+1=>rW G m++[I (G m)]
def jD (G:Nat->Int):Array Value:=(rW G 256).toArray
def CF (G:Nat->Int) (n:Nat) (x:Int):Nat->Int:=λk=>if k=n then x else G k
theorem pF (G:Nat->Int):∀m,(rW G m).length=m
 | 0=>rfl
 | m+1=>by simp[rW,pF G m]
theorem xu (G:Nat->Int):(jD G).size=256:=by simp[jD,pF]
theorem O0 (G:Nat->Int) (n:Nat):∀m,n<m->(rW G m)[n]?=some (I (G n))
 | 0,h=>by omega
 | m+1,h=>by
  simp only[rW];by_cases e:n=m
  . grind [pF]
  rw[Kz (by grind [pF])];exact O0 G n m ω
theorem Jq (G:Nat->Int) (n:Nat) (hn:n<256):(jD G)[n]?=some (I (G n)):=by
 grind [jD,O0]
theorem Jo (F G:Nat->Int):∀m,(∀k,k<m->F k=G k)->rW F m=rW G m
 | 0,_=>rfl
 | m+1,h=>by simp only[rW];rw[Jo F G m (λk hk=>h k ω),h m ω]
theorem OY (G:Nat->Int) (n:Nat) (x:Int):∀m,n<m->(rW G m).set n (I x)=rW (CF G n x) m
 | 0,h=>by omega
 | m+1,h=>by
  simp only[rW];by_cases e:n=m
  . subst e;rw[zJ _ _ (by grind [pF]),pF,Jo (CF G n x) G n (λk hk=>by grind [CF])];simp[CF]
  rw[Hk _ _ (by grind [pF]),OY G n x m ω]
  grind [CF]
theorem U8 (G:Nat->Int) (n:Nat) (x:Int) (hn:n<256):(jD G).setIfInBounds n (I x)=jD (CF G n x):=by
 grind [jD,OY]
theorem OZ (G:Nat->Int):∀m,∀v∈rW G m,v.oneCell'=true
 | 0,v,h=>by grind [rW]
 | m+1,v,h=>by
  simp only[rW,mj,List.mem_singleton] at h;rcases h with h | rfl
  . exact OZ G m v h
  rfl
theorem Df (G:Nat->Int):(jD G).all (·.oneCell')=true:=by
 grind [OZ,jD]
theorem ab9 (F:Nat->dg) (n:Nat) (s:dg):CF (λk=>qF (F k)) n (qF s)=λk=>qF (Dc F n s k):=by
 grind [CF,Dc]
theorem acb (s:dg) (h:0<=s.p):(qF s=0)↔s.m=false:=by
 grind [qF,CH]
theorem aeR (s t:dg) (hs:0<=s.p/\s.p<=3) (ht:0<=t.p/\t.p<=3) (hm:s.m=true):(qF t=qF s)↔qO s t=true:=by
 grind [qF,CH,qO]
theorem acd (s:dg) (hs:0<=s.p/\s.p<=3) (hm:s.m=true):(qF s-1)%8/2=s.p/\(decide (8<=qF s-1)=s.z)/\1<=qF s/\qF s<=15:=by
 grind [qF,CH]
def i9 (l:List aU):Nat->Bool
 | 0=>true
 | k+1=>i9 l k&&(fF (bw l k).page (bw l k).aY&&jg (bw l k).gh)
def Ia (l:List aU) (i:Nat):Bool:=i==0 || decide ((bw l (i-1)).pL<=(bw l i).page)
def kG (l:List aU):Nat->Bool
 | 0=>true
 | k+1=>kG l k&&Ia l k
theorem Fx (l:List aU):∀(k n:Nat),k<=n->kG l k=false->kG l n=false
 | k,0,h,hk=>by grind
 | k,n+1,h,hk=>by
  by_cases e:k=n+1
  . grind
  simp[kG,Fx l k n ω hk]
theorem Hc (a b:aU) (h:jH a b=true):a.pL<=b.page:=by
 grind [jH]
theorem E3 (l:List aU):∀k,jS l k=true->i9 l k=true/\kG l k=true
 | 0,_=>⟨rfl,rfl⟩
 | k+1,h=>by
  simp only[jS,cV] at h;have ih:=E3 l k h.1
  grind [nD,i9,kG,Ia,Hc]
theorem E5 (l:List aU):∀k,i9 l k=true->∀i,i<k->fF (bw l i).page (bw l i).aY=true/\jg (bw l i).gh=true
 | 0,_,i,hi=>by omega
 | k+1,h,i,hi=>by
  simp only[i9,cV] at h;by_cases e:i=k
  . grind
  exact E5 l k h.1 i ω
theorem MF (l:List aU) (n:Nat) (h:i9 l n=true):∀k,k<=n->(cH l k 0).m=false/\(∀m,(cH l k m).m=false->cH l k m=iE)/\(∀m,0<=(cH l k m).p/\(cH l k m).p<=3)
 | 0,_=>⟨rfl,λn _=>rfl,λn=>by simp[cH,iE]⟩
 | k+1,hk=>by
  have ih:=MF l n h k ω;have ho:=E5 l n h k ω;have h1:=(lG _ _).1 ho.1;have h2:0<=(bw l k).gh/\(bw l k).gh<=3:=kr ho.2;refine⟨?_,λn=>?_,λn=>?_⟩
  . simp only[cH,js];grind
  . simp only[cH,js]
    grind
  simp only[cH,js]
  grind
theorem ME (l:List aU) (h:i9 l l.length=true):nI (dA l):=by
 have h:=MF l l.length h l.length (aJ _);exact⟨h.1,h.2.1,h.2.2⟩
theorem Wb (G:List aU) (n:Nat):(jB G n).m=(bE G n).2:=by
 grind [jB,iE]
theorem MC (G:List aU) (a:aU) (h:l6 G a=true) (hne:0<G.length):(oZ G).pL<=a.page:=by
 simp only[l6,cV,D3,Hg] at h;rcases h.2 with e | e
 . omega
 simp_all [Hc]
theorem ve (G:List aU) (a:aU) (h:l6 G a=true):1<=a.page/\1<=a.aY/\a.aY<=256-a.page:=by
 grind [l6,lG]
theorem MD (G:List aU) (a:aU) (hg:nE G=true) (h:l6 G a=true) (n:Nat) (hn:a.page<=(n:Int)):(bE G n).2=false:=by
 by_cases c:(bE G n).2=true
 . have hb:=qE _ G rfl hg n c;have b:0<G.length:=by
    grind [bE]
   have:=MC G a h b;omega
 grind
theorem rX (G:List aU) (a:aU) (hg:nE G=true) (h:l6 G a=true) (n:Nat) (h1:a.page<=(n:Int)) (h2:(n:Int)<a.page+a.aY):jB (G++[a]) n=⟨true,a.gh,a.zero⟩:=by
 grind [xq,MD,Bl]
theorem Dd (G:List aU) (a:aU) (n:Nat) (h1:¬(a.page<=(n:Int)/\(n:Int)<a.page+a.aY)):jB (G++[a]) n=jB G n:=by
 grind [xq,Bl,jB]
theorem G8:∀(m:Nat) (G H:List aU),G.length=m->nE G=true->nE H=true->(∀n:Nat,jB G n=jB H n)->G=H
 | 0,G,H,hm,hG,hH,he=>by
  have e:G=[]:=mR hm;subst e;rcases D9 H with rfl | ⟨H',b,rfl⟩
  . rfl
  rw[D8] at *;rw[oN,cV] at hH;have hb:=ve _ _ hH.2;have h1:=rX H' b hH.1 hH.2 b.page.toNat ω ω
  grind [jB,bE,iE]
 | m+1,G,H,hm,hG,hH,he=>by
  rcases D9 G with rfl | ⟨G',a,rfl⟩
  . grind
  rw[D8] at *;have hG0:=hG;rw[oN,cV] at hG;have ha:=ve _ _ hG.2;rcases D9 H with rfl | ⟨H',b,rfl⟩
  . have h1:=rX G' a hG.1 hG.2 a.page.toNat ω ω
    grind [jB,bE,iE]
  rw[D8] at *;have hH0:=hH;rw[oN,cV] at hH;have hb:=ve _ _ hH.2;have up:∀(X Y:List aU) (x y:aU),nE X=true->l6 X x=true->nE (Y++[y])=true->(∀n:Nat,jB (X++[x]) n=jB (Y++[y]) n)->1<=x.page->1<=x.aY->x.page+x.aY<=y.page+y.aY:=by
   intro X Y x y hX hx hY A h1 h2;have e1:=rX X x hX hx (x.page+x.aY-1).toNat ω ω;rw[A] at e1;have e2:(bE (Y++[y]) ((x.page+x.aY-1).toNat:Nat)).2=true:=by grind [Wb]
   have e3:=(qE _ _ rfl hY _ e2).2
   grind [lI,aU.pL]
  have q:a.page+a.aY=b.page+b.aY:=Int.le_antisymm (up G' H' a b hG.1 hG.2 hH0 he ha.1 ha.2.1) (up H' G' b a hH.1 hH.2 hG0 (λn=>(he n).symm) hb.1 hb.2.1);have Te:=rX G' a hG.1 hG.2 (a.page+a.aY-1).toNat ω ω;have L:=rX H' b hH.1 hH.2 (a.page+a.aY-1).toNat ω ω;rw[he,L] at Te;have B:b.gh=a.gh:=dO dg.p Te;have F:b.zero=a.zero:=dO dg.z Te;have J:∀(X Y:List aU) (x y:aU),nE X=true->l6 X x=true->nE Y=true->l6 Y y=true->(∀n:Nat,jB (X++[x]) n=jB (Y++[y]) n)->x.page+x.aY=y.page+y.aY->y.gh=x.gh->y.zero=x.zero->1<=x.page->1<=y.aY->y.page<=x.page:=by
   intro X Y x y hX hx hY hy A R hp hz h1 h2;by_cases c:y.page<=x.page
   . exact c
   exfalso;have e1:=rX X x hX hx (y.page-1).toNat ω ω;rw[A,Dd Y y _ ω] at e1;have e2:(bE Y ((y.page-1).toNat:Nat)).2=true:=by grind [Wb]
   have e3:=(qE _ _ rfl hY _ e2).2;have K:0<Y.length:=by
    grind [bE]
   have e4:=MC Y y hy K;have e5:(oZ Y).pL=y.page:=by omega
   have M:=hy;simp only[l6,cV,D3,Hg] at M;have r:jH (oZ Y) y=true:=by
    grind
   unfold jH at r;rw[aQ e5.symm] at r;rcases D9 Y with rfl | ⟨Y',z,rfl⟩
   . grind
   rw[D8] at *;rw[lI] at e5 r;unfold aU.pL at e5;have h:=hY;rw[oN,cV] at h;have Q:=ve _ _ h.2;have e6:=rX Y' z h.1 h.2 (y.page-1).toNat ω ω
   grind
  have O:a.page=b.page:=Int.le_antisymm (J H' G' b a hH.1 hH.2 hG.1 hG.2 (λn=>(he n).symm) q.symm B.symm F.symm hb.1 ha.2.1) (J G' H' a b hG.1 hG.2 hH.1 hH.2 he q B F ha.1 hb.2.1);have N:a=b:=by
   cases a;cases b
   grind
  subst N;have ih:=G8 m G' H' Γ hG.1 hH.1 (λn=>by
   by_cases c:a.page<=(n:Int)
   . grind [MD,jB]
   have x1:=Dd G' a n ω
   grind [Dd])
  rw[ih]
theorem NM (l:List aU) (hc:bf l=0):gH (dA l)=l:=by
 have hF:=xt l hc;have hg:=DV l hc;refine G8 _ _ _ rfl (Hb _ hF) hg (λn=>?_);rw[xo l _ l rfl hg n];by_cases hn:n<256
 . exact G9 _ hF n hn
 have:=(yH _ hF 256 (aJ _)).look n;rw[aH hn] at this;rw[show jB (gH (dA l)) n=iE from this];have e:jB l n=iE:=by
  unfold jB;by_cases c:(bE l n).2=true
  . exfalso;have hb:=(qE _ l rfl hg n c).2;have b:0<l.length:=by
     grind [bE]
    have ho:=gB l (l.length-1) (gp l hc _ ω)
    grind [oZ,aU.pL]
  grind
 rw[<- xo l _ l rfl hg n,e]
open Go.RowKit Tryz
theorem ir (n a b:Int) (w:World):Calls prog 33 #[I n,I a,I b] w λe w'=>e=.returned (.bool (decide (a<=n/\n<=b)))/\w=w':=by
 by_cases h1:a<=n
 . by_cases h2:n<=b
   . rw[show decide (a<=n/\n<=b)=true from dW ⟨h1,h2⟩];go_enter func33,ntmps33;go_wp2;go_ret
     simp_all
   rw[show decide (a<=n/\n<=b)=false from eH ω];go_enter func33,ntmps33;go_wp2;go_ret
   simp_all
 rw[show decide (a<=n/\n<=b)=false from eH ω];go_enter func33,ntmps33;go_wp2;go_ret
 simp_all
theorem ab4 (p:Int) (z:Bool) (w:World) (h:0<=p/\p<=3):Calls prog 189 #[I p,.bool z] w λe w'=>e=.returned (I (CH p z))/\w=w':=by
 cases z
 . go_enter func189,ntmps189;go_wp2;go_ret;exact⟨lT (by simp[CH]),rfl⟩
 go_enter func189,ntmps189;go_wp2;go_ret;exact⟨lT ρ,rfl⟩
theorem V7:(prog.info? 245).map (λi=>(i.zero,i.size))=some (some (.agg (jD (λ_=>0))),256):=by kernel_rfl
theorem oY:(prog.info? 245).map (·.size)=some 256:=(zero_of_info V7).2
theorem Zj (w:World):(zeroValue 245).run prog w=.ok (.agg (jD (λ_=>0))) w:=(zero_of_info V7).1 w
def zy (F:Nat->dg):Array Value:=jD (λn=>qF (F n))
theorem SZ (F:Nat->dg):(zy F).size=256:=xu _
def MB (l:List aU) (C:Array Value):Prop:=C.size=256/\C.all (·.oneCell')=true/\(kG l l.length=true->C=zy (dA l))
theorem PX (l:List aU) (b off cap:Nat) (w:World) (hl:ru w b off l) (he:i9 l l.length=true) (hn:l.length<=255) :
  Calls prog 136 #[.slice (some (Ad b off)) l.length cap] w λe w'=>∃C,e=.returned (.tuple #[.agg C,.bool (kG l l.length)])/\MB l C/\Below w.heap.size w w':=by
 have HE:Hid (i9 l l.length=true):=he;clear he;obtain⟨Z,hZ⟩:=ex (jD (λ_=>0));have hz:=Zj;rw[<- hZ] at hz;have HZ:Hid (Z=jD (λ_=>0)):=hZ;have a1:Z.size=256:=by grind [xu]
 clear hZ;go_enter func136,ntmps136;go_wp2;go_loopw [5,6] (λla i wr=>∃(k:Nat) (t:Int),k<=l.length/\i=I k/\la=I t/\(k=0/\t=0\/0<k/\t=(bw l (k-1)).page+(bw l (k-1)).aY-1)/\kG l k=true/\wr.heap[w.heap.size]?=some (.cells Z 245 (0,0))/\wr.heap[w.heap.size+1]?=some (.cells (zy (cH l k)) 245 (0,0))/\Below w.heap.size w wr) (λ_ i _=>l.length-(intOf i).toNat)
 case atStart =>
  refine⟨0,0,ω,rfl,rfl,.inl ⟨rfl,rfl⟩,rfl,bB (bG w Z 245) _,?_,((aN _ _).alloc (aJ _) _).alloc ξ _⟩;have e:zy (cH l 0)=Z:=by rw[HZ.o];rfl
  grind [World.alloc]
 case round =>
  obtain⟨k,t,hk,rfl,rfl,r,G,hR,hA,hb⟩:=hrel;have HR:Hid (wr.heap[w.heap.size]?=some (.cells Z 245 (0,0))):=hR;have HA:Hid (wr.heap[w.heap.size+1]?=some (.cells (zy (cH l k)) 245 (0,0))):=hA;have HB:Hid (Below w.heap.size w wr):=hb;have K:Hid (kG l k=true):=G;have HL:Hid (k=0/\t=0\/0<k/\t=(bw l (k-1)).page+(bw l (k-1)).aY-1):=r;have a0:w.heap.size+2<=wr.heap.size:=aM hA;by_cases hlt:k<l.length
  . obtain⟨c0,c1,c2,c3⟩:=hl.below hb k hlt;have J:=E5 l _ HE.o k hlt;have M:=(lG _ _).1 J.1;have O:0<=(bw l k).gh/\(bw l k).gh<=3:=kr J.2;have L:Hid (Ia l k=decide (t<(bw l k).page)):=by
     show _=_;unfold Ia;rcases HL.o with⟨h1,h2⟩ | ⟨h1,h2⟩
     . rw[h1,h2];rw[h1] at M;simp;omega
     have T:(k==0)=false:=by simp;omega
     rw[T,Bool.false_or];unfold aU.pL;rw[h2];exact decide_eq_decide.2 ω
    obtain⟨a,ha⟩:=ex (bw l k);rw[<- ha] at c0 c1 c2 c3 M L O;have N:Hid (a=bw l k):=ha;clear ha hR hA hb r G J;have Y:(k:Int)<(l.length:Int):=by omega
    by_cases hup:t<a.page
    . have U:¬a.page<=t:=by omega
      obtain⟨wo,R⟩:∃wo:World,wo=wr:=⟨_,rfl⟩;subst R;go_wp2;go_loopw [8] (λtt wi=>∃n:Nat,a.page<=(n:Int)/\(n:Int)<=a.page+a.aY/\tt=I n/\wi.heap[w.heap.size]?=some (.cells Z 245 (0,0))/\wi.heap[w.heap.size+1]?=some (.cells (zy (js (cH l k) a n)) 245 (0,0))/\wi.heap[wo.heap.size]?=some (.cells #[I a.page,I a.aY,I a.gh,.bool a.zero] 139 (0,0))/\Below w.heap.size w wi) (λtt _=>(a.page+a.aY-intOf tt).toNat)
      case atStart =>
       refine⟨a.page.toNat,ω,ω,by rw[Wl ω],bB HR.o _,?_,bG _ _ _,HB.o.alloc HB.o.size _⟩;rw[Wl ω,G7];exact bB HA.o _
      case round =>
       obtain⟨n,MO,Br,rfl,iR,iA,iX,ib⟩:=hrel;have IR:Hid (wr.heap[w.heap.size]?=some (.cells Z 245 (0,0))):=iR;have IA:Hid (wr.heap[w.heap.size+1]?=some (.cells (zy (js (cH l k) a n)) 245 (0,0))):=iA;have IB:Hid (Below w.heap.size w wr):=ib;have x2:=aA iX 2 rfl;have x3:=aA iX 3 rfl;have IX:Hid (wr.heap[wo.heap.size]?=some (.cells #[I a.page,I a.aY,I a.gh,.bool a.zero] 139 (0,0))):=iX;clear iR iX ib;by_cases hin:(n:Int)<a.page+a.aY
       . have Q:(n:Int)<=a.page+a.aY-1:=by omega
         have z0:=aA iA n (Jq _ n ω);have zf:=br iA;have a2:(n:Int)<256:=by omega
         clear iA;go_wp2_with (first | (go_at_call 189;refine(ab4 _ _ _ O).mono ?_;rintro e w' ⟨rfl,rfl⟩));go_roundw
         case rel =>
          refine⟨n+1,ω,ω,by go_num,jy IR.o _ _ _ ω,?_,jy IX.o _ _ _ ω,IB.o.setCell ξ _⟩;have h:=dm IA.o n (I (CH a.gh a.zero));have e:(zy (js (cH l k) a n)).setIfInBounds n (I (CH a.gh a.zero))=zy (js (cH l k) a ((n:Int)+1)):=by
           unfold zy;rw[U8 _ n _ ω,<- Jp _ _ _ MO];congr 1;exact ab9 (js (cH l k) a n) n ⟨true,a.gh,a.zero⟩
          rw[e] at h;rw[show((n+1:Nat):Int)=(n:Int)+1 from by omega];exact h
         case measure=>simp[intOf];omega
       have Q:¬(n:Int)<=a.page+a.aY-1:=by omega
       have X:Hid ((n:Int)=a.page+a.aY):=by show _=_;omega
       clear iA;go_wp2;go_roundw
       case rel =>
        refine⟨k+1,a.page+a.aY-1,ω,by go_num,rfl,.inr ⟨ω,?_⟩,?_,IR.o,?_,IB.o⟩
        . rw[Qj,<- N.o]
        . simp only[kG,K.o,L.out,ju];exact dW hup
        have h:=IA.o;rw[X.out] at h;show _=some (Obj.cells (zy (js (cH l k) (bw l k) (bw l k).pL)) 245 (0,0));rw[<- N.o];exact h
       case measure=>simp[intOf];omega
    have U:a.page<=t:=by omega
    have B:Hid (kG l l.length=false):=by
     show _=_;have e:kG l (k+1)=false:=by simp only[kG,K.o,L.out,ju];exact eH hup
     exact Fx l (k+1) l.length ω e
    have Zx:Hid ((wr.alloc (.cells #[I a.page,I a.aY,I a.gh,.bool a.zero] 139)).heap[w.heap.size+1]?=some (.cells (zy (cH l k)) 245 (0,0))):=bB HA.o _;have Zw:Hid ((wr.alloc (.cells #[I a.page,I a.aY,I a.gh,.bool a.zero] 139)).heap[w.heap.size]?=some (.cells Z 245 (0,0))):=bB HR.o _;have W:Hid (Below w.heap.size w (wr.alloc (.cells #[I a.page,I a.aY,I a.gh,.bool a.zero] 139))):=HB.o.alloc HB.o.size _;obtain⟨D,hD⟩:=ex (zy (cH l k));have q:D.size=256:=by rw[hD];exact SZ _
    have A:D.all (·.oneCell')=true:=by rw[hD];exact Df _
    rw[<- hD] at Zx;clear hD;go_wp2_with (first | (refine vZ rfl 245 _ rfl (w.heap.size+1) rfl 245 D (0,0) _ Zx.out underlying245 rfl (by rw[q];exact oY) ?_) | (refine yc rfl 245 _ _ rfl w.heap.size D rfl rfl 245 Z Zw.out (by rw[q];exact oY) ω A ?_));have y:=pW _ _ _ D 245 (0,0) Zw.out;have F:=Wf (P:=prog) _ _ 245 245 D (0,0) _ y underlying245 rfl (by rw[q];exact oY);refine bW (v:=.tuple #[.agg D,.bool false]) ?_ rfl ⟨D,by rw[B.out],⟨q,A,λh=>(by rw[B.out] at h;cases h)⟩,below_setRow W.out (aJ _) _⟩;rw[Wi rfl];simp[asAddr,Result.andThen,F]
  obtain rfl:k=l.length:=by omega
  obtain⟨D,hD⟩:=ex (zy (cH l l.length));have q:D.size=256:=by rw[hD];exact SZ _
  have A:D.all (·.oneCell')=true:=by rw[hD];exact Df _
  have HD:Hid (D=zy (cH l l.length)):=hD;rw[<- hD] at HA;clear hD hR hA hb r G;go_wp2_with (first | (refine vZ rfl 245 _ rfl (w.heap.size+1) rfl 245 D (0,0) _ HA.o underlying245 rfl (by rw[q];exact oY) ?_) | (refine yc rfl 245 _ _ rfl w.heap.size D rfl rfl 245 Z HR.o (by rw[q];exact oY) ω A ?_));have y:=pW _ _ _ D 245 (0,0) HR.o;have F:=Wf (P:=prog) _ _ 245 245 D (0,0) _ y underlying245 rfl (by rw[q];exact oY);refine bW (v:=.tuple #[.agg D,.bool true]) ?_ rfl ⟨D,by rw[K.o],⟨q,A,λ_=>HD.o⟩,below_setRow HB.o (aJ _) _⟩;rw[Wi rfl];simp[asAddr,Result.andThen,F]
open Go.RowKit Tryz
theorem SG (x y:Int) (V:World):(Op.equalIn 10000 75 (.agg #[I x,I y]) (.agg #[I 0,I 0])).run prog V=.ok (decide (x=0/\y=0)) V:=by
 by_cases h1:x=0
 . by_cases h2:y=0
   . subst h1;subst h2;simp[go_sem]
   have hq:=jx.2 h2;have hd:decide (x=0/\y=0)=false:=eH (λg=>h2 g.2);rw[hd];subst h1;simp[go_sem,hq]
 have hq:=jx.2 h1;have hd:decide (x=0/\y=0)=false:=eH (λg=>h1 g.1);rw[hd];simp[go_sem,hq]
theorem ND (p:bQ) (w:World):Calls prog 146 #[p.val] w λe w'=>e=.returned (.bool (eX p))/\Below w.heap.size w w':=by
 obtain⟨r,pc,st,cd,fk,fa⟩:=p;unfold bQ.val bQ.row eX tP;simp only;have A:=λV=>SG fk fa V
 by_cases h1:st=1
 . subst h1;by_cases hc:cd=0
   . subst hc;go_enter func146,ntmps146;go_wp2;go_ret;exact⟨ξ,(aN _ _).alloc (aJ _) _⟩
   have h:(cd==0)=false:=by rw[jx];exact hc
   go_enter func146,ntmps146;go_wp2;go_ret;exact⟨by simp[hc],(aN _ _).alloc (aJ _) _⟩
 have b:(st==1)=false:=by rw[jx];exact h1
 rw[aH h1];by_cases h2:st=2
 . subst h2;clear h1 b;go_enter func146,ntmps146;go_wp2;go_ret;exact⟨ξ,(aN _ _).alloc (aJ _) _⟩
 have q:(st==2)=false:=by rw[jx];exact h2
 rw[aH h2];by_cases h3:st=3
 . subst h3;clear h1 b h2 q;by_cases hc:cd=0
   . subst hc;by_cases hk:1<=fk
     . go_enter func146,ntmps146;go_wp2;go_ret;exact⟨by simp[hk],(aN _ _).alloc (aJ _) _⟩
     go_enter func146,ntmps146;go_wp2;go_ret;exact⟨by simp;omega,(aN _ _).alloc (aJ _) _⟩
   have h:(cd==0)=false:=by rw[jx];exact hc
   go_enter func146,ntmps146;go_wp2;go_ret;exact⟨by simp[hc],(aN _ _).alloc (aJ _) _⟩
 have y:(st==3)=false:=by rw[jx];exact h3
 rw[aH h3];go_enter func146,ntmps146;go_wp2;go_ret;exact⟨rfl,(aN _ _).alloc (aJ _) _⟩
theorem PK (p:bQ) (live:Bool) (w:World):Calls prog 44 #[p.val,.bool live] w λe w'=>e=.returned (.bool (qu p live))/\Below w.heap.size w w':=by
 obtain⟨r,pc,st,cd,fk,fa⟩:=p;obtain⟨A,hA⟩:=ex (qu ⟨r,pc,st,cd,fk,fa⟩ live);rw[<- hA];unfold qu tP at hA;simp only at hA;have HA:=ai hA;clear hA;unfold bQ.val bQ.row;simp only;have B:=λV=>SG fk fa V
 have Fp:=ai (λV=>ir st 1 3 V);have ZB:=ai (λV=>ir fk 1 4 V);by_cases h0:1<=st/\st<=3
 . rw[dW h0] at Fp HA;by_cases hc:cd=0
   . subst hc;by_cases h1:st=1
     . subst h1;cases live
       all_goals
        go_enter func44,ntmps44;go_wp2_with (first | (go_at_call 33;refine(Fp.o _).mono ?_;rintro e w1 ⟨rfl,rfl⟩));go_ret;exact⟨by rw[HA.o];simp,(aN _ _).alloc (aJ _) _⟩
     have h:(st==1)=false:=by rw[jx];exact h1
     by_cases h3:st=3
     . subst h3;clear h1 h;cases live
       . go_enter func44,ntmps44;go_wp2_with (first | (have _:=b;go_at_call 33;refine(ZB.o _).mono ?_;rintro e w1 ⟨rfl,rfl⟩) | (go_at_call 33;refine(Fp.o _).mono ?_;rintro e w1 ⟨rfl,rfl⟩;have b:=trivial));go_ret;exact⟨by rw[HA.o];simp,(aN _ _).alloc (aJ _) _⟩
       go_enter func44,ntmps44;go_wp2_with (first | (go_at_call 33;refine(Fp.o _).mono ?_;rintro e w1 ⟨rfl,rfl⟩));go_ret;exact⟨by rw[HA.o];simp,(aN _ _).alloc (aJ _) _⟩
     have y:(st==3)=false:=by rw[jx];exact h3
     cases live
     all_goals
      go_enter func44,ntmps44;go_wp2_with (first | (go_at_call 33;refine(Fp.o _).mono ?_;rintro e w1 ⟨rfl,rfl⟩));go_ret;exact⟨by rw[HA.o];simp[h1,h3],(aN _ _).alloc (aJ _) _⟩
   have q:(cd==0)=false:=by rw[jx];exact hc
   by_cases h2:st=2
   . subst h2;cases live
     all_goals
      go_enter func44,ntmps44;go_wp2_with (first | (go_at_call 33;refine(Fp.o _).mono ?_;rintro e w1 ⟨rfl,rfl⟩));go_ret;exact⟨by rw[HA.o];simp[hc],(aN _ _).alloc (aJ _) _⟩
   have F:(st==2)=false:=by rw[jx];exact h2
   go_enter func44,ntmps44;go_wp2_with (first | (go_at_call 33;refine(Fp.o _).mono ?_;rintro e w1 ⟨rfl,rfl⟩));go_ret;exact⟨by rw[HA.o];simp[hc,h2],(aN _ _).alloc (aJ _) _⟩
 rw[eH h0] at Fp HA;clear h0;go_enter func44,ntmps44;go_wp2_with (first | (go_at_call 33;refine(Fp.o _).mono ?_;rintro e w1 ⟨rfl,rfl⟩));go_ret;exact⟨by rw[HA.o];simp,(aN _ _).alloc (aJ _) _⟩
open Go.RowKit Tryz
structure qw where
 page:Int
 aY:Int
 data:ByteArray
 wr:Bool
 ex:Bool
structure WT where
 name:ByteArray
 pos:Int
structure Tz where
 pos:Int
 name:ByteArray
 add:Int
structure xz where
 name:ByteArray
 needs:List ByteArray
 jT:List qw
 syms:List WT
 qH:List Tz
 entry:Int
def afe:ByteArray:=⟨#[]⟩
def Ir:qw:=⟨0,0,afe,false,false⟩
def al1:WT:=⟨afe,0⟩
def al2:Tz:=⟨0,afe,0⟩
def rI (l:List ByteArray) (i:Nat):ByteArray:=l.getD i afe
def fh (l:List qw) (i:Nat):qw:=l.getD i Ir
def WO (l:List WT) (i:Nat):WT:=l.getD i al1
def vh (l:List Tz) (i:Nat):Tz:=l.getD i al2
theorem Jy {α:Type} (p:α->Bool) (d:α):∀l:List α,(∀i,i<l.length->p (l.getD i d)=true)->l.all p=true
 | [],_=>rfl
 | a::r,h=>by
  have h0:p a=true:=h 0 ξ;have hr:=Jy p d r (λi hi=>h (i+1) Γ)
  grind
theorem QT {α:Type} (p:α->Bool) (d:α):∀(l:List α) (i:Nat),i<l.length->l.all p=true->p (l.getD i d)=true
 | a::r,0,_,h=>by grind
 | a::r,i+1,hi,h=>by
  grind
theorem NZ {α:Type} (p:α->Bool) (d:α) (l:List α) (i:Nat) (hi:i<l.length) (h:p (l.getD i d)=false):l.all p=false:=by
 grind
def uQ (n:Int):Bool:=decide (97<=n/\n<=122) || (decide (48<=n/\n<=57) || decide (n=95))
def uR (s:ByteArray):Bool:=decide (1<=s.size/\s.size<=12)&&s.data.toList.all (λc=>uQ c.toNat)
theorem Vd (s:ByteArray) (k:Nat) (h:k<s.size):s.data.toList.getD k 0=s[k]:=by
 have h':k<s.data.toList.length:=by simp_all
 rw[jI,pX h'];rfl
theorem acP (s:ByteArray) (h1:1<=s.size) (h2:s.size<=12) (h:∀k (hk:k<s.size),uQ s[k].toNat=true):uR s=true:=by
 unfold uR;rw[dW ⟨h1,h2⟩,ju];refine Jy _ 0 _ (λi hi=>?_)
 grind [Lib.size_eq,Vd]
theorem af1 (s:ByteArray) (k:Nat) (hk:k<s.size) (h:uQ s[k].toNat=false):uR s=false:=by
 unfold uR;rw[NZ _ 0 s.data.toList k (by simp_all) (by grind [Vd]),Hh]
theorem QS (s:ByteArray) (h:¬(1<=s.size/\s.size<=12)):uR s=false:=by
 grind [uR]
def acO (r:Tz):Bool:=decide (r.name.size=0) || uR r.name
def ahQ (i:xz):Bool:=uR i.name&&(i.needs.all uR&&(i.syms.all (λy=>uR y.name)&&i.qH.all acO))
def Dp (i:xz):Bool:=decide (1<=i.jT.length/\i.jT.length<=6/\i.needs.length<=4/\i.syms.length<=12/\i.qH.length<=16)
def lU (s:qw):Bool:=decide (0<=s.page/\1<=s.aY/\s.page+s.aY<=255/\(s.data.size:Int)<=s.aY*16)
def MU (i:xz):Bool:=i.jT.all lU
def aaa (l:List qw) (k:Nat):Bool:=k==0 || decide ((fh l (k-1)).page+(fh l (k-1)).aY<=(fh l k).page)
def tq (l:List qw):Nat->Bool
 | 0=>true
 | k+1=>tq l k&&aaa l k
def Dq (l:List qw):Bool:=tq l l.length
def o8 (l:List ByteArray):Nat->Bool
 | 0=>true
 | k+1=>o8 l k&&!(l.take k).contains (rI l k)
def yg (l:List ByteArray):Bool:=o8 l l.length
def ahP (i:xz):Bool:=Dq i.jT&&(yg i.needs&&yg (i.syms.map (·.name)))
def sX (s:qw) (a:Int):Bool:=decide (s.page*16<=a/\a<(s.page+s.aY)*16)
def tT:List qw->Int->Option qw
 | [],_=>none
 | s::r,a=>if sX s a then some s else tT r a
def jh (l:List qw) (a:Int):Bool:=(tT l a).isSome
def Z9 (l:List qw) (a:Int):Bool:=jh l a&&(jh l (a+1)&&(jh l (a+2)&&(jh l (a+3)&&(jh l (a+4)&&(jh l (a+5)&&(jh l (a+6)&&jh l (a+7)))))))
def Qv (i:xz) (k:Nat):Bool:=(k==0 || decide ((vh i.qH (k-1)).pos+8<=(vh i.qH k).pos))&&Z9 i.jT (vh i.qH k).pos
def KJ (i:xz):Nat->Bool
 | 0=>true
 | k+1=>KJ i k&&Qv i k
def Dn (i:xz):Bool:=match tT i.jT i.entry with
 | some s=>s.ex&&decide (i.entry%8=0)
 | none=>false
def Hs (i:xz):Bool:=i.syms.all (λy=>jh i.jT y.pos)&&(KJ i i.qH.length&&Dn i)
def mM (i:xz):Int:=if !ahQ i then 4 else if !Dp i then 2 else if !MU i then 3 else if !ahP i then 5 else if !Hs i then 6 else 0
def QU (w:World) (b off:Nat) (l:List ByteArray):Prop:=∀i,i<l.length->w.cell? (Ad b (off+i))=some (.string (rI l i))
def Ax (w:World) (b off:Nat) (l:List qw):Prop:=∀i,i<l.length ->
 w.cell? (Ad b (off+i*5))=some (I (fh l i).page)/\w.cell? (Ad b (off+i*5+1))=some (I (fh l i).aY) /\
 w.cell? (Ad b (off+i*5+2))=some (.string (fh l i).data)/\w.cell? (Ad b (off+i*5+3))=some (.bool (fh l i).wr)/\w.cell? (Ad b (off+i*5+4))=some (.bool (fh l i).ex)
def WU (w:World) (b off:Nat) (l:List WT):Prop:=∀i,i<l.length ->
 w.cell? (Ad b (off+i*2))=some (.string (WO l i).name)/\w.cell? (Ad b (off+i*2+1))=some (I (WO l i).pos)
def WV (w:World) (b off:Nat) (l:List Tz):Prop:=∀i,i<l.length ->
 w.cell? (Ad b (off+i*3))=some (I (vh l i).pos)/\w.cell? (Ad b (off+i*3+1))=some (.string (vh l i).name)/\w.cell? (Ad b (off+i*3+2))=some (I (vh l i).add)
def cR (n:Int):Prop:=-9223372036854775808<=n/\n<=9223372036854775807
def bM (n:Nat):Prop:=n<=140737488351232
def ahS (s:qw):Prop:=cR s.page/\cR s.aY/\bM s.data.size
def anx (s:WT):Prop:=bM s.name.size/\cR s.pos
def anz (s:Tz):Prop:=cR s.pos/\bM s.name.size/\cR s.add
structure KL (i:xz):Prop where
 name:bM i.name.size
 needs:bM i.needs.length
 need:∀k,k<i.needs.length->bM (rI i.needs k).size
 jT:bM i.jT.length
 seg:∀k,k<i.jT.length->ahS (fh i.jT k)
 syms:bM i.syms.length
 sym:∀k,k<i.syms.length->anx (WO i.syms k)
 qH:bM i.qH.length
 rel:∀k,k<i.qH.length->anz (vh i.qH k)
 entry:cR i.entry
def ie {α:Type} (lie:World->Nat->Nat->List α->Prop) (w:World) (ao:Option Addr) (l:List α):Prop:=0<l.length->∃b off,ao=some (Ad b off)/\b<w.heap.size/\lie w b off l
structure KM where
 an:Option Addr
 cn:Nat
 ag:Option Addr
 cg:Nat
 ay:Option Addr
 cy:Nat
 ar:Option Addr
 cr:Nat
structure qM (w:World) (a:KM) (i:xz):Prop where
 needs:ie QU w a.an i.needs
 jT:ie Ax w a.ag i.jT
 syms:ie WU w a.ay i.syms
 qH:ie WV w a.ar i.qH
def jU (a:KM) (i:xz):Array Value:=#[.string i.name,.slice a.an i.needs.length a.cn,.slice a.ag i.jT.length a.cg,.slice a.ay i.syms.length a.cy,.slice a.ar i.qH.length a.cr,I i.entry]
theorem cW {w w':World} (hb:Below w.heap.size w w') {b o:Nat} (h:b<w.heap.size):w'.cell? (Ad b o)=w.cell? (Ad b o):=hb.cell (p:=(Ad b o)) h
theorem ie.below {α:Type} {lie:World->Nat->Nat->List α->Prop} (dZ:∀{w w':World} {b off:Nat} {l:List α},Below w.heap.size w w'->b<w.heap.size->lie w b off l->lie w' b off l)
  {w w':World} {ao:Option Addr} {l:List α} (h:ie lie w ao l) (hb:Below w.heap.size w w'):ie lie w' ao l:=λhl=>by
 obtain⟨b,off,e,hlt,hh⟩:=h hl
 grind [Nat.lt_of_lt_of_le,Below.size]
theorem ahR {w w':World} {b off:Nat} {l:List ByteArray} (hb:Below w.heap.size w w') (hlt:b<w.heap.size) (h:QU w b off l):QU w' b off l:=λi hi=>(cW hb hlt).trans (h i hi)
theorem Aw {w w':World} {b off:Nat} {l:List qw} (hb:Below w.heap.size w w') (hlt:b<w.heap.size) (h:Ax w b off l):Ax w' b off l:=λi hi=>by
 obtain⟨c0,c1,c2,c3,c4⟩:=h i hi
 grind [cW]
theorem anv {w w':World} {b off:Nat} {l:List WT} (hb:Below w.heap.size w w') (hlt:b<w.heap.size) (h:WU w b off l):WU w' b off l:=λi hi=>by
 obtain⟨c0,c1⟩:=h i hi
 grind [cW]
theorem anw {w w':World} {b off:Nat} {l:List Tz} (hb:Below w.heap.size w w') (hlt:b<w.heap.size) (h:WV w b off l):WV w' b off l:=λi hi=>by
 obtain⟨c0,c1,c2⟩:=h i hi
 grind [cW]
theorem qM.below {w w':World} {a:KM} {i:xz} (h:qM w a i) (hb:Below w.heap.size w w'):qM w' a i :=
 ⟨ie.below (lie:=QU) (λhb hlt h=>ahR hb hlt h) h.needs hb,ie.below (lie:=Ax) (λhb hlt h=>Aw hb hlt h) h.jT hb,ie.below (lie:=WU) (λhb hlt h=>anv hb hlt h) h.syms hb,ie.below (lie:=WV) (λhb hlt h=>anw hb hlt h) h.qH hb⟩
open Go.RowKit Tryz
theorem Zc {w:World} {v:Value} {l:List aU} (h:eN w v l):∃ao n c,v=.slice ao n c:=by
 obtain⟨ao,cap,h,_⟩:=h
 grind
open Go.RowKit Tryz
theorem oU {a b:Bool} (h:a=b):Ending.returned (.bool a)=.returned (.bool b):=by rw[h]
open Go.RowKit Tryz
open Go.RowKit Tryz
open Go.RowKit Tryz
def QE (w:World) (b off:Nat) (l:List bQ):Prop:=∀i,i<l.length->w.cell? (Ad b (off+i*13))=some (I ((aR l i).r 0))/\w.cell? (Ad b (off+i*13+1))=some (I ((aR l i).r 1))/\w.cell? (Ad b (off+i*13+2))=some (I ((aR l i).r 2))/\w.cell? (Ad b (off+i*13+3))=some (I ((aR l i).r 3))/\w.cell? (Ad b (off+i*13+4))=some (I ((aR l i).r 4))/\w.cell? (Ad b (off+i*13+5))=some (I ((aR l i).r 5))/\w.cell? (Ad b (off+i*13+6))=some (I ((aR l i).r 6))/\w.cell? (Ad b (off+i*13+7))=some (I ((aR l i).r 7))/\w.cell? (Ad b (off+i*13+8))=some (I (aR l i).pc)/\w.cell? (Ad b (off+i*13+9))=some (I (aR l i).st)/\w.cell? (Ad b (off+i*13+10))=some (I (aR l i).cd)/\w.cell? (Ad b (off+i*13+11))=some (I (aR l i).fk)/\w.cell? (Ad b (off+i*13+12))=some (I (aR l i).fa)
theorem alB {w w':World} {b off:Nat} {l:List bQ} (hb:Below w.heap.size w w') (hlt:b<w.heap.size) (h:QE w b off l):QE w' b off l:=λi hi=>by
 obtain⟨c0,c1,c2,c3,c4,c5,c6,c7,c8,c9,c10,c11,c12⟩:=h i hi;exact⟨(cW hb hlt).trans c0,(cW hb hlt).trans c1,(cW hb hlt).trans c2,(cW hb hlt).trans c3,(cW hb hlt).trans c4,(cW hb hlt).trans c5,(cW hb hlt).trans c6,(cW hb hlt).trans c7,(cW hb hlt).trans c8,(cW hb hlt).trans c9,(cW hb hlt).trans c10,(cW hb hlt).trans c11,(cW hb hlt).trans c12⟩
def sZ (w:World) (ao:Option Addr) (l:List bQ):Prop:=ie QE w ao l
theorem sZ.below {w w':World} {ao:Option Addr} {l:List bQ} (h:sZ w ao l) (hb:Below w.heap.size w w'):sZ w' ao l:=ie.below (lie:=QE) (λhb hlt h=>alB hb hlt h) h hb
def QD (w:World) (b off:Nat) (l:List ra):Prop:=∀i,i<l.length->w.cell? (Ad b (off+i*2))=some (I (mD l i).proc)/\w.cell? (Ad b (off+i*2+1))=some (I (mD l i).value)
theorem alA {w w':World} {b off:Nat} {l:List ra} (hb:Below w.heap.size w w') (hlt:b<w.heap.size) (h:QD w b off l):QD w' b off l:=λi hi=>by
 obtain⟨c0,c1⟩:=h i hi;exact⟨(cW hb hlt).trans c0,(cW hb hlt).trans c1⟩
def um (w:World) (ao:Option Addr) (l:List ra):Prop:=ie QD w ao l
theorem um.below {w w':World} {ao:Option Addr} {l:List ra} (h:um w ao l) (hb:Below w.heap.size w w'):um w' ao l:=ie.below (lie:=QD) (λhb hlt h=>alA hb hlt h) h hb
open Go.RowKit Tryz
open Go.RowKit Tryz
def za (p:bQ) (x:Int×Int):bQ:={ p with st:=3,fk:=x.1,fa:=x.2 }
def lq (pc:Int):bQ:=⟨λ_=>0,pc,1,0,0,0⟩
theorem Zd (pc:Int) (w:World):Calls prog 31 #[I pc] w λe w'=>e=.returned (lq pc).val/\Below w.heap.size w w':=by
 unfold bQ.val lq bQ.row;simp only;go_enter func31,ntmps31;go_wp2;exact bW (v:=.agg #[I 0,I 0,I 0,I 0,I 0,I 0,I 0,I 0,I pc,I 1,I 0,I 0,I 0]) (by simp[results,results31,go_sem]) rfl ⟨rfl,(aN _ _).alloc (aJ _) _⟩
end Go.Proofs.YtlgoihmkgaaemaaGreat
