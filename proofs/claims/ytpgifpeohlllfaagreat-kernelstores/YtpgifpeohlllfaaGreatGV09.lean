import Derived.Test.YtpgifpeohlllfaaGreatGV08
import Derived.Test.YtpgifpeohlllfaaGreatChecked
import Derived.Deep.Slices
import Derived.ProofKit
set_option maxHeartbeats 20000000
set_option linter.unusedVariables false
set_option maxRecDepth 100000
set_option linter.unusedSimpArgs false
namespace Go.Proofs.YtpgifpeohlllfaaGreat
namespace Go.Proofs.YtpgifpeohlllfaaGreat
open Go.RowKit Go.Deep
theorem abM:Tryz.prog.cellsOf 47=4:=by rfl
theorem adK:Tryz.prog.cellsOf 3=1:=by rfl
theorem adJ:Tryz.prog.cellsOf 4=1:=by rfl
theorem LR (n:Int) (h:(Lit.int .i64 n).wf=true):nW n:=by
 grind [Lit.wf,IntKind.min,IntKind.max,IntKind.signed,IntKind.bits,nW]
section
variable {H:Type} {enc:TypeId×Value->H} {w:World} {base:Nat} {spare:Nat->Bool} {held:Bool}
theorem Zh {n:Nat} {a:Addr} {cs:List Value} {x:DataW H×List MemPlace} (hc:w.cells? base a 4=some cs) (h:DataW.trod enc Tryz.prog w base spare held n 47 cs=some x) :
  ∃q:Int×Int×Int×Bool,w.cell? (a.add 0)=some (I q.1)/\w.cell? (a.add 1)=some (I q.2.1)/\w.cell? (a.add 2)=some (I q.2.2.1)/\w.cell? (a.add 3)=some (.bool q.2.2.2)/\nW q.1/\nW q.2.1/\nW q.2.2.1:=by
 obtain⟨_,hlen,hcell⟩:=NT hc;obtain⟨xs,k,hk,hxy,_,hxl,hf⟩:=zK Tryz.underlying47 h
 match cs,hlen with
 | [v0,v1,v2,v3],_ =>
  have g0:DataW.trod enc Tryz.prog w base spare held k 3 (([v0,v1,v2,v3].drop 0).take (Tryz.prog.cellsOf 3))=xs[0]?:=hf 0 _ rfl;have g1:DataW.trod enc Tryz.prog w base spare held k 3 (([v0,v1,v2,v3].drop 1).take (Tryz.prog.cellsOf 3))=xs[1]?:=hf 1 _ rfl;have g2:DataW.trod enc Tryz.prog w base spare held k 3 (([v0,v1,v2,v3].drop 2).take (Tryz.prog.cellsOf 3))=xs[2]?:=hf 2 _ rfl;have g3:DataW.trod enc Tryz.prog w base spare held k 4 (([v0,v1,v2,v3].drop 3).take (Tryz.prog.cellsOf 4))=xs[3]?:=hf 3 _ rfl;simp only[adK,adJ] at g0 g1 g2 g3;have e0:=hcell 0 (by omega);have e1:=hcell 1 (by omega);have e2:=hcell 2 (by omega);have e3:=hcell 3 (by omega)
  match xs,hxl with
  | [y0,y1,y2,y3],_ =>
   obtain⟨m0,c0,_,w0⟩:=Io Tryz.underlying3 (show DataW.trod enc Tryz.prog w base spare held k 3 [v0]=some y0 from g0);obtain⟨m1,c1,_,w1⟩:=Io Tryz.underlying3 (show DataW.trod enc Tryz.prog w base spare held k 3 [v1]=some y1 from g1);obtain⟨m2,c2,_,w2⟩:=Io Tryz.underlying3 (show DataW.trod enc Tryz.prog w base spare held k 3 [v2]=some y2 from g2);obtain⟨b3,c3,_⟩:=NH Tryz.underlying4 (show DataW.trod enc Tryz.prog w base spare held k 4 [v3]=some y3 from g3);simp only[xP,uv] at c0 c1 c2 c3;subst c0;subst c1;subst c2;subst c3;exact⟨(m0,m1,m2,b3),e0,e1,e2,e3,LR _ w0,LR _ w1,LR _ w2⟩
theorem SC {fuel:Nat} {a0:Option Addr} {len cap:Nat} {x:DataW H×List MemPlace} (h:DataW.trod enc Tryz.prog w base spare held fuel 28 [.slice a0 len cap]=some x) :
  ∃l:List bc,l.length=len/\eU w (.slice a0 len cap) l/\(∀i,i<l.length->yr (bB l i))/\(len=0∨∃el sp,x.1=.slice el sp/\el.length=len):=by
 rcases open_slice Tryz.underlying28 h with⟨hcs,_⟩ | ⟨a,len',cap',m,n,D,Pl,hcs,hb,hl,hm,hmm,rfl,hx⟩
 · simp at hcs;obtain⟨rfl,rfl,rfl⟩:=hcs;exact⟨[],rfl,⟨none,0,rfl,.inl rfl⟩,fun i hi=>by grind,.inl rfl⟩
 · simp at hcs;obtain⟨rfl,rfl,rfl⟩:=hcs;have hlm:len<=m:=by grind
   have each:∀i,i<len->∃q:Int×Int×Int×Bool,w.cell? (a.add (i*4))=some (I q.1)/\w.cell? (a.add (i*4+1))=some (I q.2.1)/\w.cell? (a.add (i*4+2))=some (I q.2.2.1)/\w.cell? (a.add (i*4+3))=some (.bool q.2.2.2)/\nW q.1/\nW q.2.1/\nW q.2.2.1:=by
    intro i hi;obtain⟨cs',h1,h2⟩:=hx i (by omega);rw[abM] at h1;obtain⟨q,e0,e1,e2,e3,f⟩:=Zh h1 h2
    grind [add_add]
   obtain⟨g,hg⟩:=choose_lt each;have hat:∀i,i<len->bB ((List.range len).map fun i=>(⟨(g i).1,(g i).2.1,(g i).2.2.1,(g i).2.2.2⟩:bc)) i=⟨(g i).1,(g i).2.1,(g i).2.2.1,(g i).2.2.2⟩:=by
    grind [bB]
   refine⟨(List.range len).map fun i=>⟨(g i).1,(g i).2.1,(g i).2.2.1,(g i).2.2.2⟩,by simp,?_,fun i hi=>?_,.inr ⟨_,_,rfl,by simp⟩⟩
   · by_cases h0:len=0
     · subst h0;exact⟨some a,cap,by simp,.inl (by simp)⟩
     · obtain⟨b,off,spot⟩:=a;have hc:=(hg 0 (by omega)).1;have hspot:spot=none:=by simpa [Addr.add] using NP hc
       subst hspot;refine⟨some (Ad b off),cap,by simp,.inr ⟨b,off,rfl,fun i hi=>?_⟩⟩
       grind [Addr.add_lit]
   · have hi':i<len:=by grind
     rw[hat i hi'];obtain⟨_,_,_,_,f1,f2,f3⟩:=hg i hi';exact⟨f1,f2,f3⟩
end
end Go.Proofs.YtpgifpeohlllfaaGreat
namespace Go.Proofs.YtpgifpeohlllfaaGreat
open Go.RowKit
def sN (p:Int) (z:Bool):Int:=1+2*p+(if z then 8 else 0)
def jG (s:dH):Int:=if s.m then sN s.p s.z else 0
def qD (G:Nat->Int):Nat->List Value
 | 0=>[]
 | m+1=>qD G m++[I (G m)]
def iE (G:Nat->Int):Array Value:=(qD G 256).toArray
def Ar (G:Nat->Int) (n:Nat) (x:Int):Nat->Int:=fun k=>if k=n then x else G k
theorem oN (G:Nat->Int):∀m,(qD G m).length=m
 | 0=>rfl
 | m+1=>by simp[qD,oN G m]
theorem oP (G:Nat->Int):(iE G).size=256:=by simp[iE,oN]
theorem MQ (G:Nat->Int) (n:Nat):∀m,n<m->(qD G m)[n]?=some (I (G n))
 | 0,h=>by omega
 | m+1,h=>by
  simp only[qD];by_cases e:n=m
  · grind [oN]
  · rw[Ua (by grind [oN])];exact MQ G n m (by omega)
theorem tE (G:Nat->Int) (n:Nat) (hn:n<256):(iE G)[n]?=some (I (G n)):=by
 grind [iE,MQ]
theorem GR (F G:Nat->Int):∀m,(∀k,k<m->F k=G k)->qD F m=qD G m
 | 0,_=>rfl
 | m+1,h=>by simp only[qD];rw[GR F G m (fun k hk=>h k (by omega)),h m (by omega)]
theorem MO (G:Nat->Int) (n:Nat) (x:Int):∀m,n<m->(qD G m).set n (I x)=qD (Ar G n x) m
 | 0,h=>by omega
 | m+1,h=>by
  simp only[qD];by_cases e:n=m
  · subst e;rw[zO _ _ (by grind [oN]),oN,GR (Ar G n x) G n (fun k hk=>by grind [Ar])];simp[Ar]
  · rw[Iu _ _ (by grind [oN]),MO G n x m (by omega)]
    grind [Ar]
theorem wP (G:Nat->Int) (n:Nat) (x:Int) (hn:n<256):(iE G).setIfInBounds n (I x)=iE (Ar G n x):=by
 grind [iE,MO]
theorem MP (G:Nat->Int):∀m,∀v∈qD G m,v.oneCell'=true
 | 0,v,h=>by grind [qD]
 | m+1,v,h=>by
  simp only[qD,lT,List.mem_singleton] at h;rcases h with h | rfl
  · exact MP G m v h
  · rfl
theorem Bh (G:Nat->Int):(iE G).all (·.oneCell')=true:=by
 grind [MP,iE]
theorem Aq (F:Nat->dH) (n:Nat) (s:dH):Ar (fun k=>jG (F k)) n (jG s)=fun k=>jG (Be F n s k):=by
 grind [Ar,Be]
theorem xu (s:dH) (h:0<=s.p):(jG s=0)↔s.m=false:=by
 grind [jG,sN]
theorem abN (s t:dH) (hs:0<=s.p/\s.p<=3) (ht:0<=t.p/\t.p<=3) (hm:s.m=true):(jG t=jG s)↔pM s t=true:=by
 grind [jG,sN,pM]
theorem Zm (s:dH) (hs:0<=s.p/\s.p<=3) (hm:s.m=true):(jG s-1)%8/2=s.p/\(decide (8<=jG s-1)=s.z)/\1<=jG s/\jG s<=15:=by
 grind [jG,sN]
def iU (l:List bc):Nat->Bool
 | 0=>true
 | k+1=>iU l k&&(eu (bB l k).page (bB l k).aR&&gQ (bB l k).fV)
def F9 (l:List bc) (i:Nat):Bool:=i==0 || decide ((bB l (i-1)).oV<=(bB l i).page)
def kz (l:List bc):Nat->Bool
 | 0=>true
 | k+1=>kz l k&&F9 l k
theorem DK (l:List bc):∀(k n:Nat),k<=n->kz l k=false->kz l n=false
 | k,0,h,hk=>by grind
 | k,n+1,h,hk=>by
  by_cases e:k=n+1
  · grind
  · simp[kz,DK l k n (by omega) hk]
theorem Fl (a b:bc) (h:jF a b=true):a.oV<=b.page:=by
 grind [jF]
theorem sP (l:List bc):∀k,jP l k=true->iU l k=true/\kz l k=true
 | 0,_=>⟨rfl,rfl⟩
 | k+1,h=>by
  simp only[jP,dR] at h;have ih:=sP l k h.1
  grind [mQ,iU,kz,F9,Fl]
theorem Dm (l:List bc):∀k,iU l k=true->∀i,i<k->eu (bB l i).page (bB l i).aR=true/\gQ (bB l i).fV=true
 | 0,_,i,hi=>by omega
 | k+1,h,i,hi=>by
  simp only[iU,dR] at h;by_cases e:i=k
  · grind
  · exact Dm l k h.1 i (by omega)
theorem Kh (l:List bc) (n:Nat) (h:iU l n=true):∀k,k<=n->(cN l k 0).m=false/\(∀m,(cN l k m).m=false->cN l k m=gS)/\(∀m,0<=(cN l k m).p/\(cN l k m).p<=3)
 | 0,_=>⟨rfl,fun n _=>rfl,fun n=>by simp[cN,gS]⟩
 | k+1,hk=>by
  have ih:=Kh l n h k (by omega);have ho:=Dm l n h k (by omega);have h1:=(iW _ _).1 ho.1;have h2:0<=(bB l k).fV/\(bB l k).fV<=3:=jH ho.2;refine⟨?_,fun n=>?_,fun n=>?_⟩
  · simp only[cN,js];grind
  · simp only[cN,js]
    grind
  · simp only[cN,js]
    grind
theorem Kg (l:List bc) (h:iU l l.length=true):kE (cu l):=by
 have h:=Kh l l.length h l.length (aM _);exact⟨h.1,h.2.1,h.2.2⟩
theorem TS (G:List bc) (n:Nat):(jx G n).m=(bT G n).2:=by
 grind [jx,gS]
theorem Ke (G:List bc) (a:bc) (h:lC G a=true) (hne:0<G.length):(om G).oV<=a.page:=by
 simp only[lC,dR,Ck,Ie] at h;rcases h.2 with e | e
 · omega
 simp_all [Fl]
theorem tQ (G:List bc) (a:bc) (h:lC G a=true):1<=a.page/\1<=a.aR/\a.aR<=256-a.page:=by
 grind [lC,iW]
theorem Kf (G:List bc) (a:bc) (hg:mR G=true) (h:lC G a=true) (n:Nat) (hn:a.page<=(n:Int)):(bT G n).2=false:=by
 by_cases c:(bT G n).2=true
 · have hb:=pG _ G rfl hg n c;have hne:0<G.length:=by
    grind [bT]
   have:=Ke G a h hne;omega
 grind
theorem qE (G:List bc) (a:bc) (hg:mR G=true) (h:lC G a=true) (n:Nat) (h1:a.page<=(n:Int)) (h2:(n:Int)<a.page+a.aR):jx (G++[a]) n=⟨true,a.fV,a.zero⟩:=by
 grind [vd,Kf,zm]
theorem Bf (G:List bc) (a:bc) (n:Nat) (h1:¬(a.page<=(n:Int)/\(n:Int)<a.page+a.aR)):jx (G++[a]) n=jx G n:=by
 grind [vd,zm,jx]
theorem Fh:∀(m:Nat) (G H:List bc),G.length=m->mR G=true->mR H=true->(∀n:Nat,jx G n=jx H n)->G=H
 | 0,G,H,hm,hG,hH,he=>by
  have e:G=[]:=jS hm;subst e;rcases Cs H with rfl | ⟨H',b,rfl⟩
  · rfl
  · rw[Cr] at *;rw[nX,dR] at hH;have hb:=tQ _ _ hH.2;have h1:=qE H' b hH.1 hH.2 b.page.toNat (by omega) (by omega)
    grind [jx,bT,gS]
 | m+1,G,H,hm,hG,hH,he=>by
  rcases Cs G with rfl | ⟨G',a,rfl⟩
  · grind
  · rw[Cr] at *;have hG0:=hG;rw[nX,dR] at hG;have ha:=tQ _ _ hG.2;rcases Cs H with rfl | ⟨H',b,rfl⟩
    · have h1:=qE G' a hG.1 hG.2 a.page.toNat (by omega) (by omega)
      grind [jx,bT,gS]
    · rw[Cr] at *;have hH0:=hH;rw[nX,dR] at hH;have hb:=tQ _ _ hH.2;have up:∀(X Y:List bc) (x y:bc),mR X=true->lC X x=true->mR (Y++[y])=true->(∀n:Nat,jx (X++[x]) n=jx (Y++[y]) n)->1<=x.page->1<=x.aR->x.page+x.aR<=y.page+y.aR:=by
       intro X Y x y hX hx hY hxy h1 h2;have e1:=qE X x hX hx (x.page+x.aR-1).toNat (by omega) (by omega);rw[hxy] at e1;have e2:(bT (Y++[y]) ((x.page+x.aR-1).toNat:Nat)).2=true:=by grind [TS]
       have e3:=(pG _ _ rfl hY _ e2).2
       grind [kU,bc.oV]
      have hend:a.page+a.aR=b.page+b.aR:=Int.le_antisymm (up G' H' a b hG.1 hG.2 hH0 he ha.1 ha.2.1) (up H' G' b a hH.1 hH.2 hG0 (fun n=>(he n).symm) hb.1 hb.2.1);have G1:=qE G' a hG.1 hG.2 (a.page+a.aR-1).toNat (by omega) (by omega);have hl2:=qE H' b hH.1 hH.2 (a.page+a.aR-1).toNat (by omega) (by omega);rw[he,hl2] at G1;have ZA:b.fV=a.fV:=fp dH.p G1;have hze:b.zero=a.zero:=fp dH.z G1;have beg:∀(X Y:List bc) (x y:bc),mR X=true->lC X x=true->mR Y=true->lC Y y=true->(∀n:Nat,jx (X++[x]) n=jx (Y++[y]) n)->x.page+x.aR=y.page+y.aR->y.fV=x.fV->y.zero=x.zero->1<=x.page->1<=y.aR->y.page<=x.page:=by
       intro X Y x y hX hx hY hy hxy hen hp hz h1 h2;by_cases c:y.page<=x.page
       · exact c
       · exfalso;have e1:=qE X x hX hx (y.page-1).toNat (by omega) (by omega);rw[hxy,Bf Y y _ (by omega)] at e1;have e2:(bT Y ((y.page-1).toNat:Nat)).2=true:=by grind [TS]
         have e3:=(pG _ _ rfl hY _ e2).2;have hne:0<Y.length:=by
          grind [bT]
         have e4:=Ke Y y hy hne;have e5:(om Y).oV=y.page:=by omega
         have hfo:=hy;simp only[lC,dR,Ck,Ie] at hfo;have aiX:jF (om Y) y=true:=by
          grind
         unfold jF at aiX;rw[bf e5.symm] at aiX;rcases Cs Y with rfl | ⟨Y',z,rfl⟩
         · grind
         · rw[Cr] at *;rw[kU] at e5 aiX;unfold bc.oV at e5;have hYs:=hY;rw[nX,dR] at hYs;have hzp:=tQ _ _ hYs.2;have e6:=qE Y' z hYs.1 hYs.2 (y.page-1).toNat (by omega) (by omega)
           grind
      have av7:a.page=b.page:=Int.le_antisymm (beg H' G' b a hH.1 hH.2 hG.1 hG.2 (fun n=>(he n).symm) hend.symm ZA.symm hze.symm hb.1 ha.2.1) (beg G' H' a b hG.1 hG.2 hH.1 hH.2 he hend ZA hze ha.1 hb.2.1);have hab:a=b:=by
       cases a;cases b
       grind
      subst hab;have ih:=Fh m G' H' (by grind) hG.1 hH.1 (fun n=>by
       by_cases c:a.page<=(n:Int)
       · grind [Kf,jx]
       · have x1:=Bf G' a n (by omega)
         grind [Bf])
      rw[ih]
theorem LV (l:List bc) (hc:br l=0):fB (cu l)=l:=by
 have hF:=oO l hc;have hg:=p7 l hc;refine Fh _ _ _ rfl (Fk _ hF) hg (fun n=>?_);rw[u9 l _ l rfl hg n];by_cases hn:n<256
 · exact Fi _ hF n hn
 · have:=(wN _ hF 256 (aM _)).look n;rw[bl hn] at this;rw[show jx (fB (cu l)) n=gS from this];have e:jx l n=gS:=by
    unfold jx;by_cases c:(bT l n).2=true
    · exfalso;have hb:=(pG _ l rfl hg n c).2;have hne:0<l.length:=by
       grind [bT]
      have ho:=gH l (l.length-1) (gm l hc _ (by omega))
      grind [om,bc.oV]
    grind
   rw[<- u9 l _ l rfl hg n,e]
theorem gP (n a b:Int) (w:World):Calls Tryz.prog 44 #[I n,I a,I b] w fun e w'=>e=.returned (.bool (decide (a<=n/\n<=b)))/\w=w':=by
 by_cases h1:a<=n
 · by_cases h2:n<=b
   · rw[show decide (a<=n/\n<=b)=true from dh ⟨h1,h2⟩];go_enter Tryz.func44,Tryz.ntmps44;go_wp2;go_ret
     simp_all
   · rw[show decide (a<=n/\n<=b)=false from dE (by omega)];go_enter Tryz.func44,Tryz.ntmps44;go_wp2;go_ret
     simp_all
 · rw[show decide (a<=n/\n<=b)=false from dE (by omega)];go_enter Tryz.func44,Tryz.ntmps44;go_wp2;go_ret
   simp_all
theorem Fe (p:Int) (z:Bool) (w:World) (h:0<=p/\p<=3):Calls Tryz.prog 127 #[I p,.bool z] w fun e w'=>e=.returned (I (sN p z))/\w=w':=by
 cases z
 · go_enter Tryz.func127,Tryz.ntmps127;go_wp2;go_ret;exact⟨iB (by simp[sN]),rfl⟩
 · go_enter Tryz.func127,Tryz.ntmps127;go_wp2;go_ret;exact⟨iB (by rfl),rfl⟩
theorem TQ:(Tryz.prog.info? 177).map (fun i=>(i.zero,i.size))=some (some (.agg (iE (fun _=>0))),256):=by kernel_rfl
theorem ky:(Tryz.prog.info? 177).map (·.size)=some 256:=(zero_of_info TQ).2
theorem F8 (w:World):(zeroValue 177).run Tryz.prog w=.ok (.agg (iE (fun _=>0))) w:=(zero_of_info TQ).1 w
def oM (F:Nat->dH):Array Value:=iE (fun n=>jG (F n))
theorem zl (F:Nat->dH):(oM F).size=256:=oP _
def Kc (l:List bc) (C:Array Value):Prop:=C.size=256/\C.all (·.oneCell')=true/\(kz l l.length=true->C=oM (cu l))
theorem Nz (l:List bc) (b off cap:Nat) (w:World) (hl:qc w b off l) (he:iU l l.length=true) (hn:l.length<=255) :
  Calls Tryz.prog 126 #[.slice (some (Ad b off)) l.length cap] w fun e w'=>∃C,e=.returned (.tuple #[.agg C,.bool (kz l l.length)])/\Kc l C/\Below w.heap.size w w':=by
 have HE:Hid (iU l l.length=true):=he;clear he;obtain⟨Z,hZ⟩:=ex (iE (fun _=>0));have hz:=F8;rw[<- hZ] at hz;have HZ:Hid (Z=iE (fun _=>0)):=hZ;have hZs:Z.size=256:=by grind [oP]
 clear hZ;go_enter Tryz.func126,Tryz.ntmps126;go_wp2;go_loopw [5,6] (fun la i wr=>∃(k:Nat) (t:Int),k<=l.length/\i=I k/\la=I t/\(k=0/\t=0∨0<k/\t=(bB l (k-1)).page+(bB l (k-1)).aR-1)/\kz l k=true/\wr.heap[w.heap.size]?=some (.cells Z 177 (0,0))/\wr.heap[w.heap.size+1]?=some (.cells (oM (cN l k)) 177 (0,0))/\Below w.heap.size w wr) (fun _ i _=>l.length-(intOf i).toNat)
 case atStart =>
  refine⟨0,0,by omega,rfl,rfl,.inl ⟨rfl,rfl⟩,rfl,bE (bG w Z 177) _,?_,((aK _ _).alloc (aM _) _).alloc (by simp) _⟩;have e:oM (cN l 0)=Z:=by rw[HZ.o];rfl
  grind [World.alloc]
 case round =>
  obtain⟨k,t,hk,rfl,rfl,hlast,hri,hR,hA,hb⟩:=hrel;have HR:Hid (wr.heap[w.heap.size]?=some (.cells Z 177 (0,0))):=hR;have HA:Hid (wr.heap[w.heap.size+1]?=some (.cells (oM (cN l k)) 177 (0,0))):=hA;have HB:Hid (Below w.heap.size w wr):=hb;have Y2:Hid (kz l k=true):=hri;have HL:Hid (k=0/\t=0∨0<k/\t=(bB l (k-1)).page+(bB l (k-1)).aR-1):=hlast;have hsz:w.heap.size+2<=wr.heap.size:=aO hA;by_cases hlt:k<l.length
  · obtain⟨c0,c1,c2,c3⟩:=hl.below hb k hlt;have Ow:=Dm l _ HE.o k hlt;have hbk:=(iW _ _).1 Ow.1;have ZA:0<=(bB l k).fV/\(bB l k).fV<=3:=jH Ow.2;have hrk:Hid (F9 l k=decide (t<(bB l k).page)):=by
     show _=_;unfold F9;rcases HL.o with⟨h1,h2⟩ | ⟨h1,h2⟩
     · rw[h1,h2];rw[h1] at hbk;simp;omega
     · have Xg:(k==0)=false:=by simp;omega
       rw[Xg,Bool.false_or];unfold bc.oV;rw[h2];exact decide_eq_decide.2 (by omega)
    obtain⟨a,ha⟩:=ex (bB l k);rw[<- ha] at c0 c1 c2 c3 hbk hrk ZA;have HAr:Hid (a=bB l k):=ha;clear ha hR hA hb hlast hri Ow;have hkl:(k:Int)<(l.length:Int):=by omega
    by_cases hup:t<a.page
    · have ao9:¬a.page<=t:=by omega
      obtain⟨wo,hwo⟩:∃wo:World,wo=wr:=⟨_,rfl⟩;subst hwo;go_wp2;go_loopw [8] (fun tt wi=>∃n:Nat,a.page<=(n:Int)/\(n:Int)<=a.page+a.aR/\tt=I n/\wi.heap[w.heap.size]?=some (.cells Z 177 (0,0))/\wi.heap[w.heap.size+1]?=some (.cells (oM (js (cN l k) a n)) 177 (0,0))/\wi.heap[wo.heap.size]?=some (.cells #[I a.page,I a.aR,I a.fV,.bool a.zero] 47 (0,0))/\Below w.heap.size w wi) (fun tt _=>(a.page+a.aR-intOf tt).toNat)
      case atStart =>
       refine⟨a.page.toNat,by omega,by omega,by rw[T5 (by omega)],bE HR.o _,?_,bG _ _ _,HB.o.alloc HB.o.size _⟩;rw[T5 (by omega),Fg];exact bE HA.o _
      case round =>
       obtain⟨n,SJ,zR,rfl,iR,iA,iX,ib⟩:=hrel;have IR:Hid (wr.heap[w.heap.size]?=some (.cells Z 177 (0,0))):=iR;have IA:Hid (wr.heap[w.heap.size+1]?=some (.cells (oM (js (cN l k) a n)) 177 (0,0))):=iA;have IB:Hid (Below w.heap.size w wr):=ib;have x2:=aB iX 2 rfl;have x3:=aB iX 3 rfl;have IX:Hid (wr.heap[wo.heap.size]?=some (.cells #[I a.page,I a.aR,I a.fV,.bool a.zero] 47 (0,0))):=iX;clear iR iX ib;by_cases hin:(n:Int)<a.page+a.aR
       · have hin':(n:Int)<=a.page+a.aR-1:=by omega
         have z0:=aB iA n (tE _ n (by omega));have zf:=aJ iA;have Oq:(n:Int)<256:=by omega
         clear iA;go_wp2_with (first | (go_at_call 127;refine(Fe _ _ _ ZA).mono ?_;rintro e w' ⟨rfl,rfl⟩))
         go_roundw
         case rel =>
          refine⟨n+1,by omega,by omega,by go_num,jT IR.o _ _ _ (by omega),?_,jT IX.o _ _ _ (by omega),IB.o.setCell (by simp) _⟩;have h:=dG IA.o n (I (sN a.fV a.zero));have e:(oM (js (cN l k) a n)).setIfInBounds n (I (sN a.fV a.zero))=oM (js (cN l k) a ((n:Int)+1)):=by
           unfold oM;rw[wP _ n _ (by omega),<- GU _ _ _ SJ];congr 1;exact Aq (js (cN l k) a n) n ⟨true,a.fV,a.zero⟩
          rw[e] at h;rw[show((n+1:Nat):Int)=(n:Int)+1 from by omega];exact h
         case measure=>simp[intOf];omega
       · have hin':¬(n:Int)<=a.page+a.aR-1:=by omega
         have hE2:Hid ((n:Int)=a.page+a.aR):=by show _=_;omega
         clear iA;go_wp2;go_roundw
         case rel =>
          refine⟨k+1,a.page+a.aR-1,by omega,by go_num,rfl,.inr ⟨by omega,?_⟩,?_,IR.o,?_,IB.o⟩
          · rw[NV,<- HAr.o]
          · simp only[kz,Y2.o,hrk.out,ni];exact dh hup
          · have h:=IA.o;rw[hE2.out] at h;show _=some (Obj.cells (oM (js (cN l k) (bB l k) (bB l k).oV)) 177 (0,0));rw[<- HAr.o];exact h
         case measure=>simp[intOf];omega
    · have ao9:a.page<=t:=by omega
      have hbad:Hid (kz l l.length=false):=by
       show _=_;have e:kz l (k+1)=false:=by simp only[kz,Y2.o,hrk.out,ni];exact dE hup
       exact DK l (k+1) l.length (by omega) e
      have WI:Hid ((wr.alloc (.cells #[I a.page,I a.aR,I a.fV,.bool a.zero] 47)).heap[w.heap.size+1]?=some (.cells (oM (cN l k)) 177 (0,0))):=bE HA.o _;have OC:Hid ((wr.alloc (.cells #[I a.page,I a.aR,I a.fV,.bool a.zero] 47)).heap[w.heap.size]?=some (.cells Z 177 (0,0))):=bE HR.o _;have hB2:Hid (Below w.heap.size w (wr.alloc (.cells #[I a.page,I a.aR,I a.fV,.bool a.zero] 47))):=HB.o.alloc HB.o.size _;obtain⟨D,hD⟩:=ex (oM (cN l k));have hDs:D.size=256:=by rw[hD];exact zl _
      have hDo:D.all (·.oneCell')=true:=by rw[hD];exact Bh _
      rw[<- hD] at WI;clear hD;go_wp2_with (first | (refine ra rfl 177 _ rfl (w.heap.size+1) rfl 177 D (0,0) _ WI.out Tryz.underlying177 rfl (by rw[hDs];exact ky) ?_) | (refine rW rfl 177 _ _ rfl w.heap.size D rfl rfl 177 Z OC.out (by rw[hDs];exact ky) (by omega) hDo ?_))
      have hfin:=ng _ _ _ D 177 (0,0) OC.out;have hld:=TW (P:=Tryz.prog) _ _ 177 177 D (0,0) _ hfin Tryz.underlying177 rfl (by rw[hDs];exact ky);refine bR (v:=.tuple #[.agg D,.bool false]) ?_ rfl ⟨D,by rw[hbad.out],⟨hDs,hDo,fun h=>(by rw[hbad.out] at h;cases h)⟩,below_setRow hB2.out (aM _) _⟩;rw[TY rfl];simp[asAddr,Result.andThen,hld]
  · obtain rfl:k=l.length:=by omega
    obtain⟨D,hD⟩:=ex (oM (cN l l.length));have hDs:D.size=256:=by rw[hD];exact zl _
    have hDo:D.all (·.oneCell')=true:=by rw[hD];exact Bh _
    have HD:Hid (D=oM (cN l l.length)):=hD;rw[<- hD] at HA;clear hD hR hA hb hlast hri;go_wp2_with (first | (refine ra rfl 177 _ rfl (w.heap.size+1) rfl 177 D (0,0) _ HA.o Tryz.underlying177 rfl (by rw[hDs];exact ky) ?_) | (refine rW rfl 177 _ _ rfl w.heap.size D rfl rfl 177 Z HR.o (by rw[hDs];exact ky) (by omega) hDo ?_))
    have hfin:=ng _ _ _ D 177 (0,0) HR.o;have hld:=TW (P:=Tryz.prog) _ _ 177 177 D (0,0) _ hfin Tryz.underlying177 rfl (by rw[hDs];exact ky);refine bR (v:=.tuple #[.agg D,.bool true]) ?_ rfl ⟨D,by rw[Y2.o],⟨hDs,hDo,fun _=>HD.o⟩,below_setRow HB.o (aM _) _⟩;rw[TY rfl];simp[asAddr,Result.andThen,hld]
theorem K5 (s:bM) (w:World) (h:mr w s.ao s.dn) (hf:xU s) :
  Calls Tryz.prog 89 #[.agg (oY s)] w fun e w'=>e=.returned (.bool (cR s))/\Below w.heap.size w w':=by
 obtain⟨f1,f2,f3,f4⟩:=hf;obtain⟨pg,dt,fs,ao,cap⟩:=s;simp only at f1 f2 f3 f4;unfold dY at f1;unfold bY at f2 f3;simp only[oY];have F4:=aD f4;have HH:=aD h;clear f4 h;have HB:=aD ((aK w.heap.size w).alloc (aM _) (.cells #[I pg,.string dt,.slice ao fs.length cap] 50));have BX:=aD (bG w #[I pg,.string dt,.slice ao fs.length cap] 50);by_cases h1:1<=pg/\pg<=255
 · have d1:decide (1<=pg/\pg<=255)=true:=dh h1;by_cases h3:dt.size=16
   · by_cases h4:fs.length<=16
     · have h3':(dt.size:Int)=16:=by omega
       have h4':¬(16:Int)<(fs.length:Int):=by omega
       have e:lh ⟨pg,dt,fs,ao,cap⟩=true:=by
        grind [lh]
       have E:Hid (cR ⟨pg,dt,fs,ao,cap⟩=ez fs fs.length):=by
        show _=_
        grind [cR]
       clear e h3;go_enter Tryz.func89,Tryz.ntmps89;go_wp2_with (go_at_call 44;refine(gP _ _ _ _).mono ?_;rintro e w' ⟨rfl,rfl⟩;rw[d1])
       go_loopw [4,3] (fun i en wr=>∃k:Nat,k<=fs.length/\i=I k/\en=I (nM fs k)/\ez fs k=true/\Below w.heap.size w wr/\wr.heap[w.heap.size]?=some (.cells #[I pg,.string dt,.slice ao fs.length cap] 50 (0,0))) (fun i _ _=>fs.length-(intOf i).toNat)
       case atStart=>exact⟨0,by omega,rfl,rfl,rfl,HB.o,BX.o⟩
       case round =>
        obtain⟨k,hk,rfl,rfl,hg,hb,QR⟩:=hrel;have HG:=aD hg;have sY:=aD hb;have BXr:=aD QR;have x2:=aB QR 2 rfl;clear hg QR;by_cases hlt:k<fs.length
        · obtain⟨b,off,hao,hbl,fG⟩:=(HH.o.below hb) (by omega);subst hao;obtain⟨c0,c1⟩:=fG k hlt;obtain⟨g1,g2⟩:=F4.o k hlt;have hed:=nY fs k HG.o;obtain⟨f,L4⟩:=ex (lI fs k);rw[<- L4] at c0 c1 g1 g2;unfold dY at g1;unfold bY at g2;have uu:=aD L4;clear L4 fG hb;obtain⟨en,hen⟩:=ex (nM fs k);rw[<- hen] at hed;have px:=aD hen;rw[<- hen];clear hen;have gK:=aD (sY.o.alloc sY.o.size (.cells #[I f.off,.string f.bytes] 52));have BXA:=aD (bE BXr.o (.cells #[I f.off,.string f.bytes] 52));by_cases q1:en<=f.off/\f.off<=16
          · have z1:decide (en<=f.off/\f.off<=16)=true:=dh q1;by_cases q3:1<=(f.bytes.size:Int)/\(f.bytes.size:Int)<=16-f.off
            · have z2:decide (1<=(f.bytes.size:Int)/\(f.bytes.size:Int)<=16-f.off)=true:=dh q3;have HX:Hid (ez fs (k+1)=true):=by
               show _=_;simp only[ez,dR];exact⟨HG.o,by rw[<- uu.o,<- px.o];exact(ud _ _).2 (by omega)⟩
              have HY:Hid (nM fs (k+1)=f.off+(f.bytes.size:Int)):=by show _=_;simp only[nM];rw[<- uu.o]
              go_wp2_with (first | (go_at_call 44;refine(gP _ _ _ _).mono ?_;rintro e w' ⟨rfl,rfl⟩;rw[z2]) | (go_at_call 44;refine(gP _ _ _ _).mono ?_;rintro e w' ⟨rfl,rfl⟩;rw[z1];have FA:=trivial))
              go_roundw
              case rel=>exact⟨k+1,by omega,by go_num,by rw[HY.o],HX.o,gK.o,BXA.o⟩
              case measure=>simp[intOf];omega
            · have z2:decide (1<=(f.bytes.size:Int)/\(f.bytes.size:Int)<=16-f.off)=false:=dE q3;have HX:Hid (ez fs fs.length=false):=r7 fs k hlt (by rw[<- uu.o,<- px.o];exact vB (by omega));go_wp2_with (first | (go_at_call 44;refine(gP _ _ _ _).mono ?_;rintro e w' ⟨rfl,rfl⟩;rw[z2]) | (go_at_call 44;refine(gP _ _ _ _).mono ?_;rintro e w' ⟨rfl,rfl⟩;rw[z1];have FA:=trivial))
              go_ret;exact⟨gZ (by rw[E.o,HX.o]),gK.o⟩
          · have z1:decide (en<=f.off/\f.off<=16)=false:=dE q1;have HX:Hid (ez fs fs.length=false):=r7 fs k hlt (by rw[<- uu.o,<- px.o];exact vB (by omega));go_wp2_with (go_at_call 44;refine(gP _ _ _ _).mono ?_;rintro e w' ⟨rfl,rfl⟩;rw[z1])
            go_ret;exact⟨gZ (by rw[E.o,HX.o]),gK.o⟩
        · obtain rfl:k=fs.length:=by omega
          go_wp2;go_ret;exact⟨gZ (by rw[E.o,HG.o]),sY.o⟩
     · have h4':(16:Int)<(fs.length:Int):=by omega
       have e:cR ⟨pg,dt,fs,ao,cap⟩=false:=by
        unfold cR;cases e:ez fs fs.length
        · grind
        · have:=nY fs fs.length e;omega
       rw[e];go_enter Tryz.func89,Tryz.ntmps89;go_wp2_with (go_at_call 44;refine(gP _ _ _ _).mono ?_;rintro e w' ⟨rfl,rfl⟩;rw[d1])
       go_ret;exact⟨rfl,HB.o⟩
   · have e:cR ⟨pg,dt,fs,ao,cap⟩=false:=by
      grind [cR,lh]
     rw[e];go_enter Tryz.func89,Tryz.ntmps89;go_wp2_with (go_at_call 44;refine(gP _ _ _ _).mono ?_;rintro e w' ⟨rfl,rfl⟩;rw[d1])
     go_ret;exact⟨rfl,HB.o⟩
 · have d1:decide (1<=pg/\pg<=255)=false:=dE h1;have e:cR ⟨pg,dt,fs,ao,cap⟩=false:=by
    grind [cR,lh]
   rw[e];go_enter Tryz.func89,Tryz.ntmps89;go_wp2_with (go_at_call 44;refine(gP _ _ _ _).mono ?_;rintro e w' ⟨rfl,rfl⟩;rw[d1])
   go_ret;exact⟨rfl,HB.o⟩
theorem QY (s:bM) (w:World) (h:mr w s.ao s.dn) (hf:xU s) (hs:cR s=true) :
  Calls Tryz.prog 92 #[.agg (oY s)] w fun e w'=>e=.returned (.string (ou s))/\Below w.heap.size w w':=by
 obtain⟨f1,f2,f3,f4⟩:=hf;obtain⟨pg,dt,fs,ao,cap⟩:=s;simp only at f1 f2 f3 f4;unfold bY at f2 f3;simp only[oY];have HH:=aD h;clear f4 h f1;have HB:=aD ((aK w.heap.size w).alloc (aM _) (.cells #[I pg,.string dt,.slice ao fs.length cap] 50));have BX:=aD (bG w #[I pg,.string dt,.slice ao fs.length cap] 50);have HN:Hid (ou ⟨pg,dt,fs,ao,cap⟩=nk dt fs fs.length):=rfl;obtain⟨hd,ZT⟩:lh ⟨pg,dt,fs,ao,cap⟩=true/\ez fs fs.length=true:=by
  grind [cR]
 have h16:dt.size=16:=by
  grind [lh]
 have HFX:=aD ZT;clear hs hd ZT;rw[HN.o];go_enter Tryz.func92,Tryz.ntmps92;go_wp2;go_loopw [4,3] (fun i d wr=>∃k:Nat,k<=fs.length/\i=I k/\d=.string (nk dt fs k)/\Below w.heap.size w wr/\wr.heap[w.heap.size]?=some (.cells #[I pg,.string dt,.slice ao fs.length cap] 50 (0,0))) (fun i _ _=>fs.length-(intOf i).toNat)
 case atStart=>exact⟨0,by omega,rfl,rfl,HB.o,BX.o⟩
 case round =>
  obtain⟨k,hk,rfl,rfl,hb,QR⟩:=hrel;have sY:=aD hb;have BXr:=aD QR;have x2:=aB QR 2 rfl;clear QR;by_cases hlt:k<fs.length
  · obtain⟨b,off,hao,hbl,fG⟩:=(HH.o.below hb) (by omega);subst hao;obtain⟨c0,c1⟩:=fG k hlt;have hok:=(ud _ _).1 (AA fs fs.length HFX.o k hlt);have hgk:ez fs k=true:=by
     cases e:ez fs k
     · rw[r8 fs k fs.length (by omega) e] at HFX;cases HFX
     · rfl
    have hed:=nY fs k hgk;have hsz:=uH dt fs h16 k hgk;have rR:Hid (nk dt fs (k+1)=fU (nk dt fs k) (lI fs k).off.toNat (lI fs k).bytes):=rfl;obtain⟨f,L4⟩:=ex (lI fs k);rw[<- L4] at c0 c1 hok rR;obtain⟨D,hD⟩:=ex (nk dt fs k);rw[<- hD] at hsz rR;rw[<- hD];obtain⟨o,ho⟩:∃o:Nat,f.off=(o:Int):=⟨f.off.toNat,by omega⟩;rw[ho] at c0 hok;rw[ho,iu] at rR;have HBd:=aD (QZ wr);clear L4 hD hgk fG hb;go_wp2
    go_region_law (go_simp;go_at_call 68;refine(MG D f.bytes o _ (by omega) (by omega)).mono ?_;rintro e w3 ⟨rfl,hb⟩;have jo:=aD (sY.o.trans ((HBd.o.trans hb).mono sY.o.size));have BX3:=aD (aQ (aQ BXr.o HBd.o (aO BXr.o)) hb (by have:=aO BXr.o;simpa using this));clear hb;go_simp)
    all_goals
     go_wp2;go_roundw
     case rel=>exact⟨k+1,by omega,by go_num,by rw[rR.o],jo.o,BX3.o⟩
     case measure=>simp[intOf];omega
  · obtain rfl:k=fs.length:=by omega
    go_wp2;go_ret;exact⟨rfl,sY.o⟩
theorem kV {P:Program} {f:FuncId} {args:Array Value} {v:Value} {w:World} (x:dB w.heap.size w) (h:∀W,Below w.heap.size w W->Calls P f args W fun e w'=>e=.returned v/\Below W.heap.size W w') :
  Calls P f args x.world fun e w''=>e=.returned v/\∃y:dB w.heap.size w,w''=y.world :=
 (h x.world x.keeps).mono fun e w'' ⟨he,hb⟩=>⟨he,⟨w'',x.keeps.trans (hb.mono x.keeps.size)⟩,rfl⟩
theorem I0 (hs:List bM) (ao:Option Addr) (cap:Nat) (w:World) (h:iM w ao hs) (hf:qI hs) :
  Calls Tryz.prog 45 #[.slice ao hs.length cap] w fun e w'=>e=.returned (.bool (fJ hs))/\Below w.heap.size w w':=by
 have HF:=aD hf;have HH:=aD h;have hn:hs.length<=140737488351232:=hf.1;clear h hf;go_enter Tryz.func45,Tryz.ntmps45;go_wp2;go_loopw [3] (fun i wr=>∃k:Nat,k<=hs.length/\i=I k/\jg hs k=true/\Below w.heap.size w wr) (fun i _=>hs.length-(intOf i).toNat)
 case atStart=>exact⟨0,by omega,rfl,rfl,aK _ _⟩
 case round =>
  obtain⟨k,hk,rfl,hz,hb⟩:=hrel;have HZ:=aD hz;have sY:=aD hb;clear hz;by_cases hlt:k<hs.length
  · obtain⟨b,off,hao,hbl,fG⟩:=(HH.o.below hb) (by omega);subst hao;obtain⟨c0,c1,c2,c3⟩:=fG k hlt;have Gm:=HF.o.2 k hlt;have HE:Hid (jg hs (k+1)=(cR (bj hs k)&&mH hs k)):=by
     show _=_;simp only[jg];rw[HZ.o,ni]
    have Ic:Hid ((cR (bj hs k)&&mH hs k)=false->fJ hs=false):=fun e=>Mc hs k hlt e
    have rB:=gw wr;have hkc:=@gy wr;have agT:Hid (0<k->wr.cell? ⟨b,off+(k-1)*3,none⟩=some (I (bj hs (k-1)).page)):=fun h0=>(fG (k-1) (by omega)).1
    have Y2:Hid (mH hs k=(k==0 || decide ((bj hs (k-1)).page<(bj hs k).page))):=rfl;obtain⟨s,hse⟩:=ex (bj hs k);rw[<- hse] at c0 c1 c2 c3 Gm HE Ic Y2;have e0:∀x:dB wr.heap.size wr,x.world.cell? (Ad b (off+k*3))=some (I s.page):=fun x=>by rw[hkc x _ _ hbl,c0]
    have e1:∀x:dB wr.heap.size wr,x.world.cell? (Ad b (off+k*3+1))=some (.string s.data):=fun x=>by rw[hkc x _ _ hbl,c1]
    have e2:∀x:dB wr.heap.size wr,x.world.cell? (Ad b (off+k*3+2))=some (.slice s.ao s.dn.length s.cap):=fun x=>by rw[hkc x _ _ hbl,c2]
    have HC:Hid (∀W,Below wr.heap.size wr W->Calls Tryz.prog 89 #[.agg #[I s.page,.string s.data,.slice s.ao s.dn.length s.cap]] W fun e w'=>e=.returned (.bool (cR s))/\Below W.heap.size W w'):=fun W hb=>K5 s W (c3.below hb) Gm
    clear hse fG hb c0 c1 c2 c3 Gm;cases e:cR s with
    | false =>
     have HX:=aD (Ic.o (by rw[e];rfl));rw[e] at HC;clear e HE Ic Y2 agT hkc;go_wp2;refine cD (by kernel_rfl) (by kernel_rfl) ?_
     repeat (first | go_big_quiet_step ((go_at_call 89;exact kV _ HC.o)) | quiet_step ((go_at_call 89;exact kV _ HC.o)))
     refine fR ?_;intro _ hw';obtain⟨x,hw''⟩:=hw';subst hw'';go_wp2;go_ret;exact⟨gZ HX.o.symm,sY.o.trans (x.keeps.mono sY.o.size)⟩
    | true =>
     rw[e] at HC HE Ic;rw[ni] at HE Ic;clear e;by_cases Xg:k=0
     · have z1:decide ((0:Int)<(k:Int))=false:=by simp;omega
       have z2:decide (0<k)=false:=by simp;omega
       have HX:Hid (mH hs k=true):=by show _=_;rw[Y2.o,Xg];rfl
       rw[HX.o] at HE;clear Xg Ic Y2 agT hkc HX;go_wp2;refine cD (by kernel_rfl) (by kernel_rfl) ?_
       repeat (first | go_big_quiet_step ((go_at_call 89;exact kV _ HC.o)) | quiet_step ((go_at_call 89;exact kV _ HC.o)))
       refine fR ?_;intro _ hw';obtain⟨x,hw''⟩:=hw';subst hw'';go_wp2;go_roundw
       case rel=>exact⟨k+1,by omega,by go_num,HE.o,sY.o.trans (x.keeps.mono sY.o.size)⟩
       case measure=>simp[intOf];omega
     · have hk1:(1:Int)<=(k:Int):=by omega
       have hk2:0<k:=by omega
       have hk3:(0:Int)<(k:Int):=by omega
       have hkz:(k==0)=false:=by simpa using Xg
       obtain⟨p,hp⟩:=ex ((bj hs (k-1)).page);have hpv:=agT.o hk2;rw[<- hp] at hpv Y2;rw[hkz,Bool.false_or] at Y2;have e3:∀x:dB wr.heap.size wr,x.world.cell? ⟨b,off+(k-1)*3,none⟩=some (I p):=fun x=>by rw[hkc x _ _ hbl,hpv]
       clear hp hpv Xg agT hkc hkz;by_cases Bl:p<s.page
       · have HX:Hid (mH hs k=true):=by show _=_;rw[Y2.o,dh Bl]
         rw[HX.o] at HE;have hnl:¬s.page<=p:=by omega
         clear Ic Y2 HX;go_wp2;refine cD (by kernel_rfl) (by kernel_rfl) ?_
         repeat (first | go_big_quiet_step ((go_at_call 89;exact kV _ HC.o)) | quiet_step ((go_at_call 89;exact kV _ HC.o)))
         refine fR ?_;intro _ hw';obtain⟨x,hw''⟩:=hw';subst hw'';go_wp2;go_roundw
         case rel=>exact⟨k+1,by omega,by go_num,HE.o,sY.o.trans (x.keeps.mono sY.o.size)⟩
         case measure=>simp[intOf];omega
       · have HX:Hid (fJ hs=false):=Ic.o (by rw[Y2.o,dE Bl]);have hnl:s.page<=p:=by omega
         clear HE Ic Y2;go_wp2;refine cD (by kernel_rfl) (by kernel_rfl) ?_
         repeat (first | go_big_quiet_step ((go_at_call 89;exact kV _ HC.o)) | quiet_step ((go_at_call 89;exact kV _ HC.o)))
         refine fR ?_;intro _ hw';obtain⟨x,hw''⟩:=hw';subst hw'';go_wp2;go_ret;exact⟨gZ HX.o.symm,sY.o.trans (x.keeps.mono sY.o.size)⟩
  · obtain rfl:k=hs.length:=by omega
    go_wp2;go_ret;exact⟨gZ HZ.o.symm,sY.o⟩
end Go.Proofs.YtpgifpeohlllfaaGreat
end Go.Proofs.YtpgifpeohlllfaaGreat
