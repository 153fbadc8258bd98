import Derived.Test.YtkdigjpejnebkaaGreatGQ00
import Derived.Test.YtkdigjpejnebkaaGreatGQ03
import Derived.Test.YtkdigjpejnebkaaGreatChecked
import Derived.Deep.Slices
import Derived.ProofKit
import Derived.Test.YtkdigjpejnebkaaGreatGQ02
import Derived.Test.YtkdigjpejnebkaaGreatGQ01
set_option maxHeartbeats 20000000
set_option linter.unusedVariables false
set_option maxRecDepth 100000
set_option linter.unusedSimpArgs false
namespace Go.Proofs.YtkdigjpejnebkaaGreat
namespace AM
open Go.RowKit
theorem ij (l:List Ar) (h:aD l=0):good l=true:=by
 unfold aD at h
 split at h
 · simp at h
 · split at h
   · assumption
   · simp at h
theorem qC (l:List Ar) (hc:aD l=0):∀k,k<=l.length->(bj l k 0).m=false/\(∀n,(bj l k n).m=false->bj l k n=off)/\(∀n,0<=(bj l k n).p/\(bj l k n).p<=3)
 | 0,_=>⟨rfl,fun n _=>rfl,fun n=>by simp[bj,off]⟩
 | k+1,hk=>by
  have ih:=qC l hc k (by omega)
  have ho:=dA l k (dB l hc k (by omega))
  refine⟨?_,fun n=>?_,fun n=>?_⟩
  · simp only[bj,gj];rw[if_neg (by omega)];exact ih.1
  · simp only[bj,gj]
    split
    · intro h;simp at h
    · exact ih.2.1 n
  · simp only[bj,gj]
    split
    · exact⟨ho.2.2.2.1,ho.2.2.2.2⟩
    · exact ih.2.2 n
theorem gG (l:List Ar) (hc:aD l=0):mW (aZ l):=by
 have h:=qC l hc l.length (Nat.le_refl _)
 exact⟨h.1,h.2.1,h.2.2⟩
theorem pC (F:Nat->St) (hF:mW F) (how:St->St×Int) (page t:Int) (hp:1<=page)
  (hn:∀s,(s.m=false->s=off)->((how s).1.m=false->(how s).1=off)) (hq:∀s,0<=s.p/\s.p<=3->0<=(how s).1.p/\(how s).1.p<=3):mW (turned F how page t):=by
 refine⟨?_,fun n=>?_,fun n=>?_⟩
 · simp only[turned];rw[if_neg (by omega)];exact hF.zero
 · simp only[turned]
   split
   · exact hn (F n) (hF.none n)
   · exact hF.none n
 · simp only[turned]
   split
   · exact hq (F n) (hF.bE n)
   · exact hF.bE n
theorem uT (F:Nat->St) (h0:(F 0).m=false):∀k,(aV F (k+1)).length<=k
 | 0=>by simp[aV,h0]
 | k+1=>by
  have ih:=uT F h0 k
  rw[aV]
  split
  · omega
  · split
    · rw[iU];omega
    · simp;omega
theorem ji (F:Nat->St) (hF:mW F):aD (cT F)=0:=by
 have hl:(cT F).length<=255:=uT F hF.zero 255
 have hg:=uU F hF
 unfold aD
 rw[if_neg (by omega),if_pos hg]
theorem tj (l:List Ar) (hc:aD l=0) (F:Nat->St) (p:Nat) (h:look l p=F p):(aW l p).2=(F p).m/\(aW l p).1.bE=(F p).p/\(aW l p).1.zero=(F p).z:=by
 have e:aW l p=aP l p:=by simp[aW,hc]
 rw[e,<- h]
 unfold look
 by_cases c:(aP l p).2=true
 · simp[c]
 · have c':(aP l p).2=false:=by simpa using c
   rw[qL l p c']
   simp[nil,off]
theorem pE (F:Nat->St) (hF:mW F) (p:Nat) (hp:p<256):(aW (cT F) p).2=(F p).m/\(aW (cT F) p).1.bE=(F p).p/\(aW (cT F) p).1.zero=(F p).z :=
 tj _ (ji F hF) F p (uS F hF p hp)
theorem pD (l:List Ar) (hc:aD l=0) (p:Nat):(aW l p).2=(aZ l p).m/\(aW l p).1.bE=(aZ l p).p/\(aW l p).1.zero=(aZ l p).z :=
 tj l hc (aZ l) p (mq l _ l rfl (ij l hc) p)
theorem eJ (l:List Ar) (hc:aD l=0):(∀i,i<l.length->Fits (at_ l i))/\l.length<=140737488351232:=by
 refine⟨fun i hi=>?_,by have:=dR l hc;omega⟩
 have ho:=dA l i (dB l hc i hi)
 unfold Fits
 omega
theorem xP (F:Nat->St) (how:St->St×Int):∀(c n:Nat),b6 F how n c=0->∀k,n<=k->k<n+c->(how (F k)).2=0
 | 0,n,_,k,h1,h2=>by omega
 | c+1,n,h,k,h1,h2=>by
  simp only[b6] at h
  split at h
  · rename_i h0
    by_cases e:k=n
    · rw[e];exact h0
    · exact xP F how c (n+1) h k (by omega) (by omega)
  · rename_i h0;exact absurd h h0
end AM
namespace AW
open Go.RowKit
theorem LP (l:List AM.Ar) (page aj q:Int) (how:AM.St->AM.St×Int) (h:(AM.cH l page aj q how).2≠0):(AM.cH l page aj q how).1=[]:=by
 unfold AM.cH at h ⊢
 split
 · rename_i hc
   rw[if_pos hc] at h
   split
   · rename_i hp
     rw[if_pos hp] at h
     split
     · rename_i he
       rw[if_pos he] at h
       exact absurd rfl h
     · rfl
   · rfl
 · rfl
theorem ml (l:List AM.Ar) (page aj q:Int) (how:AM.St->AM.St×Int) (h:(AM.cH l page aj q how).2=0) :
  AM.aD l=0/\AM.bW page aj=true/\AM.dM q=true/\AM.b6 (AM.aZ l) how page.toNat aj.toNat=0/\(AM.cH l page aj q how).1=AM.cT (AM.turned (AM.aZ l) how page (page+aj)):=by
 unfold AM.cH at h ⊢
 split
 · rename_i hc
   rw[if_pos hc] at h
   split
   · rename_i hp
     rw[if_pos hp] at h
     rw[Bool.and_eq_true] at hp
     split
     · rename_i he
       exact⟨hc,hp.1,hp.2,he,rfl⟩
     · rename_i he
       rw[if_neg he] at h
       exact absurd h he
   · rename_i hp
     rw[if_neg hp] at h
     simp at h
 · rename_i hc
   rw[if_neg hc] at h
   exact absurd h hc
theorem DR (l:List AM.Ar) (page t q:Int) (hc:AM.aD l=0) (hp:1<=page) (hq:0<=q/\q<=3):AM.mW (AM.turned (AM.aZ l) (bF q) page t) :=
 AM.pC _ (AM.gG l hc) _ _ _ hp (fun s _ h=>by
  unfold bF at h ⊢
  cases hm:s.m
  · simp[hm] at h
  · simp[hm] at h) (fun s h=>by
  unfold bF
  cases hm:s.m
  · simpa [hm] using hq
  · simpa [hm] using h)
theorem xM (l:List AM.Ar) (page t:Int) (hc:AM.aD l=0) (hp:1<=page):AM.mW (AM.turned (AM.aZ l) aL page t) :=
 AM.pC _ (AM.gG l hc) _ _ _ hp (fun s _ _=>rfl) (fun s _=>⟨by simp[aL,AM.off],by simp[aL,AM.off]⟩)
theorem s8 (l:List AM.Ar) (page t q:Int) (hc:AM.aD l=0) (hp:1<=page) (hq:0<=q/\q<=3):AM.mW (AM.turned (AM.aZ l) (aM q) page t) :=
 AM.pC _ (AM.gG l hc) _ _ _ hp (fun s hs h=>by
  unfold aM at h ⊢
  cases hm:s.m
  · simp;exact hs hm
  · simp[hm] at h) (fun s h=>by
  unfold aM
  cases hm:s.m
  · simpa [hm] using h
  · simpa [hm] using hq)
theorem ni (q:Int):AM.dM q=true↔0<=q/\q<=3:=⟨fun h=>of_decide_eq_true h,fun h=>decide_eq_true h⟩
theorem zX (l:List AM.Ar) (page aj q:Int) (h:(dF l page aj q).2=0) :
  AM.aD (dF l page aj q).1=0/\(∀p:Nat,1<=p->p<=255 ->
   (page<=(p:Int)/\(p:Int)<page+aj->(AM.aW l p).2=false/\(AM.aW (dF l page aj q).1 p).2=true/\(AM.aW (dF l page aj q).1 p).1.bE=q/\(AM.aW (dF l page aj q).1 p).1.zero=true) /\
   (¬(page<=(p:Int)/\(p:Int)<page+aj)->(AM.aW (dF l page aj q).1 p).2=(AM.aW l p).2/\(AM.aW (dF l page aj q).1 p).1.bE=(AM.aW l p).1.bE/\(AM.aW (dF l page aj q).1 p).1.zero=(AM.aW l p).1.zero)):=by
 obtain⟨hc,jl,hq,he,hr⟩:=ml _ _ _ _ _ h
 have hpb:=(AM.dv page aj).1 jl
 have hF:=DR l page (page+aj) q hc hpb.1 ((ni q).1 hq)
 have hr':(dF l page aj q).1=_:=hr
 rw[hr']
 refine⟨AM.ji _ hF,fun p h1 h2=>?_⟩
 have fg:=AM.pE _ hF p (by omega)
 have fs:=AM.pD l hc p
 refine⟨fun hin=>?_,fun hout=>?_⟩
 · have he':=AM.xP _ _ _ _ he p (by omega) (by omega)
   have hm:(AM.aZ l p).m=false:=by
    unfold bF at he'
    cases hm:(AM.aZ l p).m
    · rfl
    · simp[hm] at he'
   simp only[AM.turned] at fg
   rw[if_pos hin] at fg
   unfold bF at fg
   simp only[hm] at fg
   exact⟨fs.1.trans hm,fg.1,fg.2.1,fg.2.2⟩
 · simp only[AM.turned] at fg
   rw[if_neg hout] at fg
   exact⟨fg.1.trans fs.1.symm,fg.2.1.trans fs.2.1.symm,fg.2.2.trans fs.2.2.symm⟩
theorem CJ (l:List AM.Ar) (page aj:Int) (h:(bP l page aj).2=0) :
  AM.aD (bP l page aj).1=0/\(∀p:Nat,1<=p->p<=255 ->
   (page<=(p:Int)/\(p:Int)<page+aj->(AM.aW (bP l page aj).1 p).2=false) /\
   (¬(page<=(p:Int)/\(p:Int)<page+aj)->(AM.aW (bP l page aj).1 p).2=(AM.aW l p).2/\(AM.aW (bP l page aj).1 p).1.bE=(AM.aW l p).1.bE/\(AM.aW (bP l page aj).1 p).1.zero=(AM.aW l p).1.zero)):=by
 obtain⟨hc,jl,hq,he,hr⟩:=ml _ _ _ _ _ h
 have hpb:=(AM.dv page aj).1 jl
 have hF:=xM l page (page+aj) hc hpb.1
 have hr':(bP l page aj).1=_:=hr
 rw[hr']
 refine⟨AM.ji _ hF,fun p h1 h2=>?_⟩
 have fg:=AM.pE _ hF p (by omega)
 have fs:=AM.pD l hc p
 refine⟨fun hin=>?_,fun hout=>?_⟩
 · simp only[AM.turned] at fg
   rw[if_pos hin] at fg
   exact fg.1
 · simp only[AM.turned] at fg
   rw[if_neg hout] at fg
   exact⟨fg.1.trans fs.1.symm,fg.2.1.trans fs.2.1.symm,fg.2.2.trans fs.2.2.symm⟩
theorem yT (l:List AM.Ar) (page aj q:Int) (h:(bg l page aj q).2=0) :
  AM.aD (bg l page aj q).1=0/\(∀p:Nat,1<=p->p<=255 ->
   ((AM.aW (bg l page aj q).1 p).2=(AM.aW l p).2/\(AM.aW (bg l page aj q).1 p).1.zero=(AM.aW l p).1.zero) /\
   (page<=(p:Int)/\(p:Int)<page+aj->(AM.aW (bg l page aj q).1 p).2=true/\(AM.aW (bg l page aj q).1 p).1.bE=q) /\
   (¬(page<=(p:Int)/\(p:Int)<page+aj)->(AM.aW (bg l page aj q).1 p).1.bE=(AM.aW l p).1.bE)):=by
 obtain⟨hc,jl,hq,he,hr⟩:=ml _ _ _ _ _ h
 have hpb:=(AM.dv page aj).1 jl
 have hF:=s8 l page (page+aj) q hc hpb.1 ((ni q).1 hq)
 have hr':(bg l page aj q).1=_:=hr
 rw[hr']
 refine⟨AM.ji _ hF,fun p h1 h2=>?_⟩
 have fg:=AM.pE _ hF p (by omega)
 have fs:=AM.pD l hc p
 simp only[AM.turned] at fg
 by_cases hin:page<=(p:Int)/\(p:Int)<page+aj
 · have he':=AM.xP _ _ _ _ he p (by omega) (by omega)
   have hm:(AM.aZ l p).m=true:=by
    unfold aM at he'
    cases hm:(AM.aZ l p).m
    · simp[hm] at he'
    · rfl
   rw[if_pos hin] at fg
   unfold aM at fg
   simp only[hm,if_true] at fg
   exact⟨⟨fg.1.trans (fs.1.trans hm).symm,fg.2.2.trans fs.2.2.symm⟩,fun _=>⟨fg.1,fg.2.1⟩,fun hout=>absurd hin hout⟩
 · rw[if_neg hin] at fg
   exact⟨⟨fg.1.trans fs.1.symm,fg.2.2.trans fs.2.2.symm⟩,fun h=>absurd h hin,fun _=>fg.2.1.trans fs.2.1.symm⟩
theorem Bz (l:List AM.Ar) (page aj q:Int):dC (dF l page aj q).1:=by
 by_cases h:(dF l page aj q).2=0
 · exact AM.eJ _ (zX l page aj q h).1
 · rw[show(dF l page aj q).1=[] from LP _ _ _ _ _ h];exact Bx
end AW
namespace AW
open Go.RowKit Go.Deep
theorem Rn:Tryz.prog.cellsOf 59=4:=by kernel_rfl
theorem pK:Tryz.prog.cellsOf 3=1:=by kernel_rfl
theorem BV:Tryz.prog.cellsOf 4=1:=by kernel_rfl
theorem ue (n:Int) (h:(Lit.int .i64 n).wf=true):dD n:=by
 simp only[Lit.wf,IntKind.min,IntKind.max,IntKind.signed,IntKind.bits,Bool.and_eq_true,decide_eq_true_eq,if_true] at h
 unfold dD
 omega
section
variable {H:Type} {enc:TypeId×Value->H} {w:World} {base:Nat} {spare:Nat->Bool} {held:Bool}
theorem Mv {n:Nat} {a:Addr} {cs:List Value} {x:DataW H×List MemPlace} (hc:w.cells? base a 4=some cs) (h:DataW.trod enc Tryz.prog w base spare held n 59 cs=some x) :
  ∃q:Int×Int×Int×Bool,w.cell? (a.add 0)=some (I q.1)/\w.cell? (a.add 1)=some (I q.2.1)/\w.cell? (a.add 2)=some (I q.2.2.1)/\w.cell? (a.add 3)=some (.bool q.2.2.2)/\dD q.1/\dD q.2.1/\dD q.2.2.1:=by
 obtain⟨_,hlen,hcell⟩:=World.cells?_some hc
 obtain⟨xs,k,hk,hxy,_,hxl,hf⟩:=DataW.trod_struct Tryz.underlying59 h
 match cs,hlen with
 | [v0,v1,v2,v3],_ =>
  have g0:DataW.trod enc Tryz.prog w base spare held k 3 (([v0,v1,v2,v3].drop 0).take (Tryz.prog.cellsOf 3))=xs[0]?:=hf 0 _ rfl
  have g1:DataW.trod enc Tryz.prog w base spare held k 3 (([v0,v1,v2,v3].drop 1).take (Tryz.prog.cellsOf 3))=xs[1]?:=hf 1 _ rfl
  have g2:DataW.trod enc Tryz.prog w base spare held k 3 (([v0,v1,v2,v3].drop 2).take (Tryz.prog.cellsOf 3))=xs[2]?:=hf 2 _ rfl
  have g3:DataW.trod enc Tryz.prog w base spare held k 4 (([v0,v1,v2,v3].drop 3).take (Tryz.prog.cellsOf 4))=xs[3]?:=hf 3 _ rfl
  simp only[pK,BV] at g0 g1 g2 g3
  have e0:=hcell 0 (by omega)
  have e1:=hcell 1 (by omega)
  have e2:=hcell 2 (by omega)
  have e3:=hcell 3 (by omega)
  match xs,hxl with
  | [y0,y1,y2,y3],_ =>
   obtain⟨m0,c0,_,w0⟩:=DataW.trod_int Tryz.underlying3 (show DataW.trod enc Tryz.prog w base spare held k 3 [v0]=some y0 from g0)
   obtain⟨m1,c1,_,w1⟩:=DataW.trod_int Tryz.underlying3 (show DataW.trod enc Tryz.prog w base spare held k 3 [v1]=some y1 from g1)
   obtain⟨m2,c2,_,w2⟩:=DataW.trod_int Tryz.underlying3 (show DataW.trod enc Tryz.prog w base spare held k 3 [v2]=some y2 from g2)
   obtain⟨b3,c3,_⟩:=DataW.trod_bool Tryz.underlying4 (show DataW.trod enc Tryz.prog w base spare held k 4 [v3]=some y3 from g3)
   simp only[List.cons.injEq,and_true] at c0 c1 c2 c3
   subst c0;subst c1;subst c2;subst c3
   exact⟨(m0,m1,m2,b3),e0,e1,e2,e3,ue _ w0,ue _ w1,ue _ w2⟩
theorem FK {fuel:Nat} {a0:Option Addr} {len cap:Nat} {x:DataW H×List MemPlace} (h:DataW.trod enc Tryz.prog w base spare held fuel 22 [.slice a0 len cap]=some x) :
  ∃l:List AM.Ar,l.length=len/\Has w (.slice a0 len cap) l/\(∀i,i<l.length->AM.Fits (AM.at_ l i))/\(len=0∨∃el sp,x.1=.slice el sp/\el.length=len):=by
 rcases open_slice Tryz.underlying22 h with⟨hcs,_⟩ | ⟨a,len',cap',m,n,D,Pl,hcs,hb,hl,hm,hmm,rfl,hx⟩
 · simp at hcs
   obtain⟨rfl,rfl,rfl⟩:=hcs
   exact⟨[],rfl,⟨none,0,rfl,.inl rfl⟩,fun i hi=>by simp at hi,.inl rfl⟩
 · simp at hcs
   obtain⟨rfl,rfl,rfl⟩:=hcs
   have hlm:len<=m:=by rw[hmm];split <;> omega
   have each:∀i,i<len->∃q:Int×Int×Int×Bool,w.cell? (a.add (i*4))=some (I q.1)/\w.cell? (a.add (i*4+1))=some (I q.2.1)/\w.cell? (a.add (i*4+2))=some (I q.2.2.1)/\w.cell? (a.add (i*4+3))=some (.bool q.2.2.2)/\dD q.1/\dD q.2.1/\dD q.2.2.1:=by
    intro i hi
    obtain⟨cs',h1,h2⟩:=hx i (by omega)
    rw[Rn] at h1
    obtain⟨q,e0,e1,e2,e3,f⟩:=Mv h1 h2
    rw[add_add] at e0 e1 e2 e3
    exact⟨q,e0,e1,e2,e3,f⟩
   obtain⟨g,hg⟩:=choose_lt each
   have hat:∀i,i<len->AM.at_ ((List.range len).map fun i=>(⟨(g i).1,(g i).2.1,(g i).2.2.1,(g i).2.2.2⟩:AM.Ar)) i=⟨(g i).1,(g i).2.1,(g i).2.2.1,(g i).2.2.2⟩:=by
    intro i hi
    simp[AM.at_,hi]
   refine⟨(List.range len).map fun i=>⟨(g i).1,(g i).2.1,(g i).2.2.1,(g i).2.2.2⟩,by simp,?_,fun i hi=>?_,.inr ⟨_,_,rfl,by simp⟩⟩
   · by_cases h0:len=0
     · subst h0
       exact⟨some a,cap,by simp,.inl (by simp)⟩
     · obtain⟨b,off,spot⟩:=a
       have hc:=(hg 0 (by omega)).1
       have hspot:spot=none:=by simpa [Addr.add] using World.cell?_spot hc
       subst hspot
       refine⟨some (Ad b off),cap,by simp,.inr ⟨b,off,rfl,fun i hi=>?_⟩⟩
       have hi':i<len:=by simpa using hi
       rw[hat i hi']
       obtain⟨e0,e1,e2,e3,_⟩:=hg i hi'
       rw[Addr.add_lit] at e0 e1 e2 e3
       exact⟨e0,by rw[Nat.add_assoc];exact e1,by rw[Nat.add_assoc];exact e2,by rw[Nat.add_assoc];exact e3⟩
   · have hi':i<len:=by simpa using hi
     rw[hat i hi']
     obtain⟨_,_,_,_,f1,f2,f3⟩:=hg i hi'
     exact⟨f1,f2,f3⟩
end
end AW
namespace AM
open Go.RowKit
def mark (p:Int) (z:Bool):Int:=1+2*p+(if z then 8 else 0)
def enc (s:St):Int:=if s.m then mark s.p s.z else 0
def qZ (G:Nat->Int):Nat->List Value
 | 0=>[]
 | m+1=>qZ G m++[I (G m)]
def eF (G:Nat->Int):Array Value:=(qZ G 256).toArray
def CH (G:Nat->Int) (n:Nat) (x:Int):Nat->Int:=fun k=>if k=n then x else G k
theorem fN (G:Nat->Int):∀m,(qZ G m).length=m
 | 0=>rfl
 | m+1=>by simp[qZ,fN G m]
theorem gI (G:Nat->Int):(eF G).size=256:=by simp[eF,fN]
theorem CZ (G:Nat->Int) (n:Nat):∀m,n<m->(qZ G m)[n]?=some (I (G n))
 | 0,h=>by omega
 | m+1,h=>by
  simp only[qZ]
  by_cases e:n=m
  · subst e
    rw[List.getElem?_append_right (by rw[fN];omega),fN]
    simp
  · rw[List.getElem?_append_left (by rw[fN];omega)]
    exact CZ G n m (by omega)
theorem lR (G:Nat->Int) (n:Nat) (hn:n<256):(eF G)[n]?=some (I (G n)):=by
 unfold eF
 rw[List.getElem?_toArray]
 exact CZ G n 256 hn
theorem wM (F G:Nat->Int):∀m,(∀k,k<m->F k=G k)->qZ F m=qZ G m
 | 0,_=>rfl
 | m+1,h=>by simp only[qZ];rw[wM F G m (fun k hk=>h k (by omega)),h m (by omega)]
theorem CX (G:Nat->Int) (n:Nat) (x:Int):∀m,n<m->(qZ G m).set n (I x)=qZ (CH G n x) m
 | 0,h=>by omega
 | m+1,h=>by
  simp only[qZ]
  by_cases e:n=m
  · subst e
    rw[List.set_append_right _ _ (by rw[fN];omega),fN,wM (CH G n x) G n (fun k hk=>by simp[CH];omega)]
    simp[CH]
  · rw[List.set_append_left _ _ (by rw[fN];omega),CX G n x m (by omega)]
    congr 2
    simp[CH];intro h';exact absurd h'.symm e
theorem nZ (G:Nat->Int) (n:Nat) (x:Int) (hn:n<256):(eF G).setIfInBounds n (I x)=eF (CH G n x):=by
 unfold eF
 rw[<- CX G n x 256 hn]
 simp only[List.setIfInBounds_toArray]
theorem CY (G:Nat->Int):∀m,∀v∈qZ G m,v.oneCell'=true
 | 0,v,h=>by simp[qZ] at h
 | m+1,v,h=>by
  simp only[qZ,List.mem_append,List.mem_singleton] at h
  rcases h with h | rfl
  · exact CY G m v h
  · rfl
theorem rN (G:Nat->Int):(eF G).all (·.oneCell')=true:=by
 rw[Array.all_eq_true_iff_forall_mem]
 intro v hv
 exact CY G 256 v (by simpa [eF] using hv)
theorem sk (F:Nat->St) (n:Nat) (s:St):CH (fun k=>enc (F k)) n (enc s)=fun k=>enc (upd F n s k):=by
 funext k;simp only[CH,upd];split <;> rfl
theorem pI (s:St) (h:0<=s.p):(enc s=0)↔s.m=false:=by
 unfold enc mark
 cases s.m
 · simp
 · simp only[if_true]
   cases s.z <;> simp <;> omega
theorem Q0 (s t:St) (hs:0<=s.p/\s.p<=3) (ht:0<=t.p/\t.p<=3) (hm:s.m=true):(enc t=enc s)↔qu s t=true:=by
 unfold enc mark qu
 rw[hm]
 cases t.m
 · simp
   cases s.z <;> simp <;> omega
 · cases s.z <;> cases t.z <;> simp <;> omega
theorem NJ (s:St) (hs:0<=s.p/\s.p<=3) (hm:s.m=true):(enc s-1)%8/2=s.p/\(decide (8<=enc s-1)=s.z)/\1<=enc s/\enc s<=15:=by
 unfold enc mark
 rw[hm]
 simp only[if_true]
 cases s.z
 · simp;omega
 · simp;omega
def eX (l:List Ar):Nat->Bool
 | 0=>true
 | k+1=>eX l k&&(bW (at_ l k).page (at_ l k).aj&&dM (at_ l k).bE)
def AV (l:List Ar) (i:Nat):Bool:=i==0 || decide ((at_ l (i-1)).eB<=(at_ l i).page)
def fV (l:List Ar):Nat->Bool
 | 0=>true
 | k+1=>fV l k&&AV l k
theorem sD (l:List Ar):∀(k n:Nat),k<=n->fV l k=false->fV l n=false
 | k, 0, h, hk => by obtain rfl:k=0 := by omega
                     exact hk
 | k,n+1,h,hk=>by
  by_cases e:k=n+1
  · subst e;exact hk
  · simp[fV,sD l k n (by omega) hk]
theorem uV (a b:Ar) (h:fA a b=true):a.eB<=b.page:=by
 unfold fA at h
 split at h
 · omega
 · simp at h;omega
theorem lA (l:List Ar):∀k,fI l k=true->eX l k=true/\fV l k=true
 | 0,_=>⟨rfl,rfl⟩
 | k+1,h=>by
  simp only[fI,Bool.and_eq_true] at h
  have ih:=lA l k h.1
  have hk:=h.2
  simp only[nj,Bool.and_eq_true,Bool.or_eq_true,beq_iff_eq] at hk
  refine⟨by simp[eX,ih.1,hk.1.1,hk.1.2],?_⟩
  simp only[fV,ih.2,AV,Bool.true_and,Bool.or_eq_true,beq_iff_eq,decide_eq_true_eq]
  rcases hk.2 with e | e
  · exact .inl e
  · exact .inr (uV _ _ e)
theorem vY (l:List Ar):∀k,eX l k=true->∀i,i<k->bW (at_ l i).page (at_ l i).aj=true/\dM (at_ l i).bE=true
 | 0,_,i,hi=>by omega
 | k+1,h,i,hi=>by
  simp only[eX,Bool.and_eq_true] at h
  by_cases e:i=k
  · subst e;exact h.2
  · exact vY l k h.1 i (by omega)
theorem Ag (l:List Ar) (n:Nat) (h:eX l n=true):∀k,k<=n->(bj l k 0).m=false/\(∀m,(bj l k m).m=false->bj l k m=off)/\(∀m,0<=(bj l k m).p/\(bj l k m).p<=3)
 | 0,_=>⟨rfl,fun n _=>rfl,fun n=>by simp[bj,off]⟩
 | k+1,hk=>by
  have ih:=Ag l n h k (by omega)
  have ho:=vY l n h k (by omega)
  have h1:=(dv _ _).1 ho.1
  have h2:0<=(at_ l k).bE/\(at_ l k).bE<=3:=of_decide_eq_true ho.2
  refine⟨?_,fun n=>?_,fun n=>?_⟩
  · simp only[bj,gj];rw[if_neg (by omega)];exact ih.1
  · simp only[bj,gj]
    split
    · intro h;simp at h
    · exact ih.2.1 n
  · simp only[bj,gj]
    split
    · exact h2
    · exact ih.2.2 n
theorem Af (l:List Ar) (h:eX l l.length=true):mW (aZ l):=by
 have h:=Ag l l.length h l.length (Nat.le_refl _)
 exact⟨h.1,h.2.1,h.2.2⟩
theorem MG (G:List Ar) (n:Nat):(look G n).m=(aP G n).2:=by
 unfold look
 by_cases c:(aP G n).2=true
 · simp[c]
 · simp[off,show(aP G n).2=false by simpa using c]
theorem zT (G:List Ar) (a:Ar) (h:gF G a=true) (hne:0<G.length):(gV G).eB<=a.page:=by
 simp only[gF,Bool.and_eq_true,Bool.or_eq_true,beq_iff_eq] at h
 rcases h.2 with e | e
 · omega
 · exact uV _ _ e
theorem kT (G:List Ar) (a:Ar) (h:gF G a=true):1<=a.page/\1<=a.aj/\a.aj<=256-a.page:=by
 simp only[gF,Bool.and_eq_true] at h
 exact(dv _ _).1 h.1.1
theorem ub (G:List Ar) (a:Ar) (hg:good G=true) (h:gF G a=true) (n:Nat) (hn:a.page<=(n:Int)):(aP G n).2=false:=by
 by_cases c:(aP G n).2=true
 · have hb:=iK _ G rfl hg n c
   have hne:0<G.length:=by
    rcases Nat.eq_zero_or_pos G.length with e | e
    · have e':G=[]:=List.eq_nil_of_length_eq_zero e
      subst e';simp[aP] at c
    · exact e
   have:=zT G a h hne
   omega
 · simpa using c
theorem jC (G:List Ar) (a:Ar) (hg:good G=true) (h:gF G a=true) (n:Nat) (h1:a.page<=(n:Int)) (h2:(n:Int)<a.page+a.aj):look (G++[a]) n=⟨true,a.bE,a.zero⟩:=by
 rw[nk,if_neg (by rw[ub G a hg h n h1];simp),if_pos ((sW a n).2 ⟨h1,h2⟩)]
theorem rp (G:List Ar) (a:Ar) (n:Nat) (h1:¬(a.page<=(n:Int)/\(n:Int)<a.page+a.aj)):look (G++[a]) n=look G n:=by
 rw[nk]
 by_cases c:(aP G n).2=true
 · rw[if_pos c]
 · rw[if_neg c,if_neg (fun e=>h1 ((sW a n).1 e))]
   unfold look
   simp[show(aP G n).2=false by simpa using c]
theorem uR:∀(m:Nat) (G H:List Ar),G.length=m->good G=true->good H=true->(∀n:Nat,look G n=look H n)->G=H
 | 0,G,H,hm,hG,hH,he=>by
  have e:G=[]:=List.eq_nil_of_length_eq_zero hm
  subst e
  rcases List.eq_nil_or_concat H with rfl | ⟨H',b,rfl⟩
  · rfl
  · rw[List.concat_eq_append] at *
    rw[gN,Bool.and_eq_true] at hH
    have hb:=kT _ _ hH.2
    have h1:=jC H' b hH.1 hH.2 b.page.toNat (by omega) (by omega)
    rw[<- he] at h1
    have:=congrArg St.m h1
    simp[look,aP,off] at this
 | m+1,G,H,hm,hG,hH,he=>by
  rcases List.eq_nil_or_concat G with rfl | ⟨G',a,rfl⟩
  · simp at hm
  · rw[List.concat_eq_append] at *
    have hG0:=hG
    rw[gN,Bool.and_eq_true] at hG
    have ha:=kT _ _ hG.2
    rcases List.eq_nil_or_concat H with rfl | ⟨H',b,rfl⟩
    · have h1:=jC G' a hG.1 hG.2 a.page.toNat (by omega) (by omega)
      rw[he] at h1
      have:=congrArg St.m h1
      simp[look,aP,off] at this
    · rw[List.concat_eq_append] at *
      have YG:=hH
      rw[gN,Bool.and_eq_true] at hH
      have hb:=kT _ _ hH.2
      have up:∀(X Y:List Ar) (x y:Ar),good X=true->gF X x=true->good (Y++[y])=true->(∀n:Nat,look (X++[x]) n=look (Y++[y]) n)->1<=x.page->1<=x.aj->x.page+x.aj<=y.page+y.aj:=by
       intro X Y x y hX hx hY hxy h1 h2
       have e1:=jC X x hX hx (x.page+x.aj-1).toNat (by omega) (by omega)
       rw[hxy] at e1
       have e2:(aP (Y++[y]) ((x.page+x.aj-1).toNat:Nat)).2=true:=by rw[<- MG,e1]
       have e3:=(iK _ _ rfl hY _ e2).2
       rw[dY] at e3
       unfold Ar.eB at e3
       omega
      have hend:a.page+a.aj=b.page+b.aj:=Int.le_antisymm (up G' H' a b hG.1 hG.2 YG he ha.1 ha.2.1) (up H' G' b a hH.1 hH.2 hG0 (fun n=>(he n).symm) hb.1 hb.2.1)
      have mN:=jC G' a hG.1 hG.2 (a.page+a.aj-1).toNat (by omega) (by omega)
      have hl2:=jC H' b hH.1 hH.2 (a.page+a.aj-1).toNat (by omega) (by omega)
      rw[he,hl2] at mN
      have oM:b.bE=a.bE:=congrArg St.p mN
      have Cw:b.zero=a.zero:=congrArg St.z mN
      have beg:∀(X Y:List Ar) (x y:Ar),good X=true->gF X x=true->good Y=true->gF Y y=true->(∀n:Nat,look (X++[x]) n=look (Y++[y]) n)->x.page+x.aj=y.page+y.aj->y.bE=x.bE->y.zero=x.zero->1<=x.page->1<=y.aj->y.page<=x.page:=by
       intro X Y x y hX hx hY hy hxy hen hp hz h1 h2
       by_cases c:y.page<=x.page
       · exact c
       · exfalso
         have e1:=jC X x hX hx (y.page-1).toNat (by omega) (by omega)
         rw[hxy,rp Y y _ (by omega)] at e1
         have e2:(aP Y ((y.page-1).toNat:Nat)).2=true:=by rw[<- MG,e1]
         have e3:=(iK _ _ rfl hY _ e2).2
         have hne:0<Y.length:=by
          rcases Nat.eq_zero_or_pos Y.length with e | e
          · have e':Y=[]:=List.eq_nil_of_length_eq_zero e
            subst e';simp[aP] at e2
          · exact e
         have e4:=zT Y y hy hne
         have e5:(gV Y).eB=y.page:=by omega
         have hfo:=hy
         simp only[gF,Bool.and_eq_true,Bool.or_eq_true,beq_iff_eq] at hfo
         have M7:fA (gV Y) y=true:=by
          rcases hfo.2 with e | e
          · omega
          · exact e
         unfold fA at M7
         rw[if_pos e5.symm] at M7
         rcases List.eq_nil_or_concat Y with rfl | ⟨Y',z,rfl⟩
         · simp at hne
         · rw[List.concat_eq_append] at *
           rw[dY] at e5 M7
           unfold Ar.eB at e5
           have Yz:=hY
           rw[gN,Bool.and_eq_true] at Yz
           have hzp:=kT _ _ Yz.2
           have e6:=jC Y' z Yz.1 Yz.2 (y.page-1).toNat (by omega) (by omega)
           rw[e6] at e1
           have q1:z.bE=x.bE:=congrArg St.p e1
           have q2:z.zero=x.zero:=congrArg St.z e1
           rw[hp,hz,q1,q2] at M7
           simp at M7
      have Yq:a.page=b.page:=Int.le_antisymm (beg H' G' b a hH.1 hH.2 hG.1 hG.2 (fun n=>(he n).symm) hend.symm oM.symm Cw.symm hb.1 ha.2.1) (beg G' H' a b hG.1 hG.2 hH.1 hH.2 he hend oM Cw ha.1 hb.2.1)
      have hab:a=b:=by
       cases a;cases b
       simp only at Yq hend oM Cw
       subst Yq;subst oM;subst Cw
       congr 1
       omega
      subst hab
      have ih:=uR m G' H' (by simpa using hm) hG.1 hH.1 (fun n=>by
       by_cases c:a.page<=(n:Int)
       · have x1:=ub G' a hG.1 hG.2 n c
         have x2:=ub H' a hH.1 hH.2 n c
         unfold look
         simp[x1,x2]
       · have x1:=rp G' a n (by omega)
         have x2:=rp H' a n (by omega)
         rw[<- x1,<- x2];exact he n)
      rw[ih]
theorem zg (l:List Ar) (hc:aD l=0):cT (aZ l)=l:=by
 have hF:=gG l hc
 have hg:=ij l hc
 refine uR _ _ _ rfl (uU _ hF) hg (fun n=>?_)
 rw[mq l _ l rfl hg n]
 by_cases hn:n<256
 · exact uS _ hF n hn
 · have:=(nX _ hF 256 (Nat.le_refl _)).look n
   rw[if_neg hn] at this
   rw[show look (cT (aZ l)) n=off from this]
   have e:look l n=off:=by
    unfold look
    by_cases c:(aP l n).2=true
    · exfalso
      have hb:=(iK _ l rfl hg n c).2
      have hne:0<l.length:=by
       rcases Nat.eq_zero_or_pos l.length with e | e
       · have e':l=[]:=List.eq_nil_of_length_eq_zero e
         subst e';simp[aP] at c
       · exact e
      have ho:=dA l (l.length-1) (dB l hc _ (by omega))
      unfold gV Ar.eB at hb
      omega
    · simp[show(aP l n).2=false by simpa using c]
   rw[<- mq l _ l rfl hg n,e]
end AM
namespace AW
open Go.RowKit
theorem iF (n a b:Int) (w:World):Calls Tryz.prog 27 #[I n,I a,I b] w fun e w'=>e=.returned (.bool (decide (a<=n/\n<=b)))/\w=w':=by
 by_cases h1:a<=n
 · by_cases h2:n<=b
   · rw[show decide (a<=n/\n<=b)=true from decide_eq_true ⟨h1,h2⟩]
     go_enter Tryz.func27,Tryz.ntmps27
     go_wp2
     go_ret
     exact⟨rfl,rfl⟩
   · have d:decide (n<=b)=false:=decide_eq_false h2
     rw[show decide (a<=n/\n<=b)=false from decide_eq_false (by omega)]
     go_enter Tryz.func27,Tryz.ntmps27
     go_wp2
     go_ret
     exact⟨rfl,rfl⟩
 · have d:decide (a<=n)=false:=decide_eq_false h1
   rw[show decide (a<=n/\n<=b)=false from decide_eq_false (by omega)]
   go_enter Tryz.func27,Tryz.ntmps27
   go_wp2
   go_ret
   exact⟨rfl,rfl⟩
theorem xn (p:Int) (z:Bool) (w:World) (h:0<=p/\p<=3):Calls Tryz.prog 106 #[I p,.bool z] w fun e w'=>e=.returned (I (AM.mark p z))/\w=w':=by
 cases z
 · go_enter Tryz.func106,Tryz.ntmps106
   go_wp2
   go_ret
   exact⟨cV (by simp[AM.mark]),rfl⟩
 · go_enter Tryz.func106,Tryz.ntmps106
   go_wp2
   go_ret
   exact⟨cV (by simp[AM.mark]),rfl⟩
theorem LF:(Tryz.prog.info? 140).map (fun i=>(i.zero,i.size))=some (some (.agg (AM.eF (fun _=>0))),256):=by kernel_rfl
theorem fU:(Tryz.prog.info? 140).map (·.size)=some 256:=(zero_of_info LF).2
theorem Jp (w:World):(zeroValue 140).run Tryz.prog w=.ok (.agg (AM.eF (fun _=>0))) w:=(zero_of_info LF).1 w
def bd (F:Nat->AM.St):Array Value:=AM.eF (fun n=>AM.enc (F n))
theorem tF (F:Nat->AM.St):(bd F).size=256:=AM.gI _
def Jo (l:List AM.Ar) (C:Array Value):Prop:=C.size=256/\C.all (·.oneCell')=true/\(AM.fV l l.length=true->C=bd (AM.aZ l))
theorem B6 (l:List AM.Ar) (b off cap:Nat) (w:World) (hl:AM.zt w b off l) (he:AM.eX l l.length=true) (hn:l.length<=255) :
  Calls Tryz.prog 76 #[.slice (some (Ad b off)) l.length cap] w fun e w'=>∃C,e=.returned (.tuple #[.agg C,.bool (AM.fV l l.length)])/\Jo l C/\Below w.heap.size w w':=by
 have HE:Hid (AM.eX l l.length=true):=he
 clear he
 obtain⟨Z,hZ⟩:=ex (AM.eF (fun _=>0))
 have hz:=Jp
 rw[<- hZ] at hz
 have HZ:Hid (Z=AM.eF (fun _=>0)):=hZ
 have tM:Z.size=256:=by rw[hZ];exact AM.gI _
 clear hZ
 go_enter Tryz.func76,Tryz.ntmps76
 go_wp2
 go_loopw [5,6] (fun la i wr=>∃(k:Nat) (t:Int),k<=l.length/\i=I k/\la=I t/\(k=0/\t=0∨0<k/\t=(AM.at_ l (k-1)).page+(AM.at_ l (k-1)).aj-1)/\AM.fV l k=true/\wr.heap[w.heap.size]?=some (.cells Z 140 (0,0))/\wr.heap[w.heap.size+1]?=some (.cells (bd (AM.bj l k)) 140 (0,0))/\Below w.heap.size w wr) (fun _ i _=>l.length-(intOf i).toNat)
 case atStart =>
  refine⟨0,0,by omega,rfl,rfl,.inl ⟨rfl,rfl⟩,rfl,B.alloc (B.new w Z 140) _,?_,((Below.refl _ _).alloc (Nat.le_refl _) _).alloc (by simp) _⟩
  have e:bd (AM.bj l 0)=Z:=by rw[HZ.o];rfl
  rw[e]
  have:=B.new (w.alloc (.cells Z 140)) Z 140
  simpa using this
 case round =>
  obtain⟨k,t,hk,rfl,rfl,hlast,hri,hR,hA,hb⟩:=hrel
  have HR:Hid (wr.heap[w.heap.size]?=some (.cells Z 140 (0,0))):=hR
  have HA:Hid (wr.heap[w.heap.size+1]?=some (.cells (bd (AM.bj l k)) 140 (0,0))):=hA
  have HB:Hid (Below w.heap.size w wr):=hb
  have RZ:Hid (AM.fV l k=true):=hri
  have HL:Hid (k=0/\t=0∨0<k/\t=(AM.at_ l (k-1)).page+(AM.at_ l (k-1)).aj-1):=hlast
  have hsz:w.heap.size+2<=wr.heap.size:=B.isLt hA
  by_cases hlt:k<l.length
  · obtain⟨c0,c1,c2,c3⟩:=hl.below hb k hlt
    have V3:=AM.vY l _ HE.o k hlt
    have hbk:=(AM.dv _ _).1 V3.1
    have oM:0<=(AM.at_ l k).bE/\(AM.at_ l k).bE<=3:=of_decide_eq_true V3.2
    have hrk:Hid (AM.AV l k=decide (t<(AM.at_ l k).page)):=by
     show _=_
     unfold AM.AV
     rcases HL.o with⟨h1,h2⟩ | ⟨h1,h2⟩
     · rw[h1,h2]
       rw[h1] at hbk
       simp
       omega
     · have z7:(k==0)=false:=by simp;omega
       rw[z7,Bool.false_or]
       unfold AM.Ar.eB
       rw[h2]
       exact decide_eq_decide.2 (by omega)
    obtain⟨a,ha⟩:=ex (AM.at_ l k)
    rw[<- ha] at c0 c1 c2 c3 hbk hrk oM
    have HAr:Hid (a=AM.at_ l k):=ha
    clear ha hR hA hb hlast hri V3
    have hkl:(k:Int)<(l.length:Int):=by omega
    by_cases hup:t<a.page
    · have abK:¬a.page<=t:=by omega
      obtain⟨wo,hwo⟩:∃wo:World,wo=wr:=⟨_,rfl⟩
      subst hwo
      go_wp2
      go_loopw [8] (fun tt wi=>∃n:Nat,a.page<=(n:Int)/\(n:Int)<=a.page+a.aj/\tt=I n/\wi.heap[w.heap.size]?=some (.cells Z 140 (0,0))/\wi.heap[w.heap.size+1]?=some (.cells (bd (AM.gj (AM.bj l k) a n)) 140 (0,0))/\wi.heap[wo.heap.size]?=some (.cells #[I a.page,I a.aj,I a.bE,.bool a.zero] 59 (0,0))/\Below w.heap.size w wi) (fun tt _=>(a.page+a.aj-intOf tt).toNat)
      case atStart =>
       refine⟨a.page.toNat,by omega,by omega,by rw[Int.toNat_of_nonneg (by omega)],B.alloc HR.o _,?_,B.new _ _ _,HB.o.alloc HB.o.size _⟩
       rw[Int.toNat_of_nonneg (by omega),AM.uC]
       exact B.alloc HA.o _
      case round =>
       obtain⟨n,rZ,l6,rfl,iR,iA,iX,ib⟩:=hrel
       have IR:Hid (wr.heap[w.heap.size]?=some (.cells Z 140 (0,0))):=iR
       have IA:Hid (wr.heap[w.heap.size+1]?=some (.cells (bd (AM.gj (AM.bj l k) a n)) 140 (0,0))):=iA
       have IB:Hid (Below w.heap.size w wr):=ib
       have x0:=B.cell iX 0 rfl
       have x1:=B.cell iX 1 rfl
       have x2:=B.cell iX 2 rfl
       have x3:=B.cell iX 3 rfl
       have IX:Hid (wr.heap[wo.heap.size]?=some (.cells #[I a.page,I a.aj,I a.bE,.bool a.zero] 59 (0,0))):=iX
       clear iR iX ib
       by_cases hin:(n:Int)<a.page+a.aj
       · have hin':(n:Int)<=a.page+a.aj-1:=by omega
         have z0:=B.cell iA n (AM.lR _ n (by omega))
         have zf:=B.free iA
         have xD:(n:Int)<256:=by omega
         clear iA
         go_wp2_with (first | (go_at_call 106;refine(xn _ _ _ oM).mono ?_;rintro e w' ⟨rfl,rfl⟩))
         go_roundw
         case rel =>
          refine⟨n+1,by omega,by omega,by go_num,B.other IR.o _ _ _ (by omega),?_,B.other IX.o _ _ _ (by omega),IB.o.setCell (by simp) _⟩
          have h:=B.set IA.o n (I (AM.mark a.bE a.zero))
          have e:(bd (AM.gj (AM.bj l k) a n)).setIfInBounds n (I (AM.mark a.bE a.zero))=bd (AM.gj (AM.bj l k) a ((n:Int)+1)):=by
           unfold bd
           rw[AM.nZ _ n _ (by omega),<- AM.xt _ _ _ rZ]
           congr 1
           exact AM.sk (AM.gj (AM.bj l k) a n) n ⟨true,a.bE,a.zero⟩
          rw[e] at h
          rw[show((n+1:Nat):Int)=(n:Int)+1 from by omega]
          exact h
         case measure=>simp[intOf];omega
       · have hin':¬(n:Int)<=a.page+a.aj-1:=by omega
         have hE2:Hid ((n:Int)=a.page+a.aj):=by show _=_;omega
         clear iA
         go_wp2
         go_roundw
         case rel =>
          refine⟨k+1,a.page+a.aj-1,by omega,by go_num,rfl,.inr ⟨by omega,?_⟩,?_,IR.o,?_,IB.o⟩
          · rw[Nat.add_sub_cancel,<- HAr.o]
          · simp only[AM.fV,RZ.o,hrk.out,Bool.true_and]
            exact decide_eq_true hup
          · have h:=IA.o
            rw[hE2.out] at h
            show _=some (Obj.cells (bd (AM.gj (AM.bj l k) (AM.at_ l k) (AM.at_ l k).eB)) 140 (0,0))
            rw[<- HAr.o]
            exact h
         case measure=>simp[intOf];omega
    · have abK:a.page<=t:=by omega
      have hbad:Hid (AM.fV l l.length=false):=by
       show _=_
       have e:AM.fV l (k+1)=false:=by simp only[AM.fV,RZ.o,hrk.out,Bool.true_and];exact decide_eq_false hup
       exact AM.sD l (k+1) l.length (by omega) e
      have Ta:Hid ((wr.alloc (.cells #[I a.page,I a.aj,I a.bE,.bool a.zero] 59)).heap[w.heap.size+1]?=some (.cells (bd (AM.bj l k)) 140 (0,0))):=B.alloc HA.o _
      have Br:Hid ((wr.alloc (.cells #[I a.page,I a.aj,I a.bE,.bool a.zero] 59)).heap[w.heap.size]?=some (.cells Z 140 (0,0))):=B.alloc HR.o _
      have hB2:Hid (Below w.heap.size w (wr.alloc (.cells #[I a.page,I a.aj,I a.bE,.bool a.zero] 59))):=HB.o.alloc HB.o.size _
      obtain⟨D,hD⟩:=ex (bd (AM.bj l k))
      have Np:D.size=256:=by rw[hD];exact tF _
      have YH:D.all (·.oneCell')=true:=by rw[hD];exact AM.rN _
      rw[<- hD] at Ta
      clear hD
      go_wp2_with (first | (refine wpList_load_row rfl 140 _ rfl (w.heap.size+1) rfl 140 D (0,0) _ Ta.out Tryz.underlying140 rfl (by rw[Np];exact fU) ?_) | (refine wpList_store_row rfl 140 _ _ rfl w.heap.size D rfl rfl 140 Z Br.out (by rw[Np];exact fU) (by rw[tM,Np]) YH ?_))
      have hfin:=setRow_heap _ _ _ D 140 (0,0) Br.out
      have XY:=run_loadVar_row (P:=Tryz.prog) _ _ 140 140 D (0,0) _ hfin Tryz.underlying140 rfl (by rw[Np];exact fU)
      refine bodyPost_ret (v:=.tuple #[.agg D,.bool false]) ?_ rfl ⟨D,by rw[hbad.out],⟨Np,YH,fun h=>(by rw[hbad.out] at h;cases h)⟩,below_setRow hB2.out (Nat.le_refl _) _⟩
      rw[results_cell_tmp rfl]
      simp[asAddr,Result.andThen,XY]
  · obtain rfl:k=l.length:=by omega
    obtain⟨D,hD⟩:=ex (bd (AM.bj l l.length))
    have Np:D.size=256:=by rw[hD];exact tF _
    have YH:D.all (·.oneCell')=true:=by rw[hD];exact AM.rN _
    have HD:Hid (D=bd (AM.bj l l.length)):=hD
    rw[<- hD] at HA
    clear hD hR hA hb hlast hri
    go_wp2_with (first | (refine wpList_load_row rfl 140 _ rfl (w.heap.size+1) rfl 140 D (0,0) _ HA.o Tryz.underlying140 rfl (by rw[Np];exact fU) ?_) | (refine wpList_store_row rfl 140 _ _ rfl w.heap.size D rfl rfl 140 Z HR.o (by rw[Np];exact fU) (by rw[tM,Np]) YH ?_))
    have hfin:=setRow_heap _ _ _ D 140 (0,0) HR.o
    have XY:=run_loadVar_row (P:=Tryz.prog) _ _ 140 140 D (0,0) _ hfin Tryz.underlying140 rfl (by rw[Np];exact fU)
    refine bodyPost_ret (v:=.tuple #[.agg D,.bool true]) ?_ rfl ⟨D,by rw[RZ.o],⟨Np,YH,fun _=>HD.o⟩,below_setRow HB.o (Nat.le_refl _) _⟩
    rw[results_cell_tmp rfl]
    simp[asAddr,Result.andThen,XY]
end AW
namespace FW
open Go.RowKit
theorem IU (x y:Int) (V:World):(Op.equalIn 10000 68 (.agg #[I x,I y]) (.agg #[I 0,I 0])).run Tryz.prog V=.ok (decide (x=0/\y=0)) V:=by
 by_cases h1:x=0
 · by_cases h2:y=0
   · subst h1;subst h2
     simp[go_sem]
   · have hq:=beq_eq_false_iff_ne.2 h2
     have hd:decide (x=0/\y=0)=false:=decide_eq_false (fun g=>h2 g.2)
     rw[hd]
     subst h1
     simp[go_sem,hq]
 · have hq:=beq_eq_false_iff_ne.2 h1
   have hd:decide (x=0/\y=0)=false:=decide_eq_false (fun g=>h1 g.1)
   rw[hd]
   simp[go_sem,hq]
theorem yO (p:PM.Pr) (w:World):Calls Tryz.prog 75 #[p.val] w fun e w'=>e=.returned (.bool (FM.bT p))/\Below w.heap.size w w':=by
 obtain⟨r,pc,st,cd,fk,fa⟩:=p
 unfold PM.Pr.val PM.Pr.row FM.bT FM.mA
 simp only
 have hEQ:=fun V=>IU fk fa V
 by_cases h1:st=1
 · subst h1
   by_cases hc:cd=0
   · subst hc
     go_enter Tryz.func75,Tryz.ntmps75
     go_wp2
     go_ret
     exact⟨by simp,(Below.refl _ _).alloc (Nat.le_refl _) _⟩
   · have Gl:(cd==0)=false:=by rw[beq_eq_false_iff_ne];exact hc
     go_enter Tryz.func75,Tryz.ntmps75
     go_wp2
     go_ret
     exact⟨by simp[hc],(Below.refl _ _).alloc (Nat.le_refl _) _⟩
 · have Tb:(st==1)=false:=by rw[beq_eq_false_iff_ne];exact h1
   rw[if_neg h1]
   by_cases h2:st=2
   · subst h2
     clear h1 Tb
     go_enter Tryz.func75,Tryz.ntmps75
     go_wp2
     go_ret
     exact⟨by simp,(Below.refl _ _).alloc (Nat.le_refl _) _⟩
   · have Ns:(st==2)=false:=by rw[beq_eq_false_iff_ne];exact h2
     rw[if_neg h2]
     by_cases h3:st=3
     · subst h3
       clear h1 Tb h2 Ns
       by_cases hc:cd=0
       · subst hc
         by_cases hk:1<=fk
         · go_enter Tryz.func75,Tryz.ntmps75
           go_wp2
           go_ret
           exact⟨by simp[hk],(Below.refl _ _).alloc (Nat.le_refl _) _⟩
         · go_enter Tryz.func75,Tryz.ntmps75
           go_wp2
           go_ret
           exact⟨by simp;omega,(Below.refl _ _).alloc (Nat.le_refl _) _⟩
       · have Gl:(cd==0)=false:=by rw[beq_eq_false_iff_ne];exact hc
         go_enter Tryz.func75,Tryz.ntmps75
         go_wp2
         go_ret
         exact⟨by simp[hc],(Below.refl _ _).alloc (Nat.le_refl _) _⟩
     · have h3i:(st==3)=false:=by rw[beq_eq_false_iff_ne];exact h3
       rw[if_neg h3]
       go_enter Tryz.func75,Tryz.ntmps75
       go_wp2
       go_ret
       exact⟨rfl,(Below.refl _ _).alloc (Nat.le_refl _) _⟩
theorem A3 (p:PM.Pr) (live:Bool) (w:World):Calls Tryz.prog 40 #[p.val,.bool live] w fun e w'=>e=.returned (.bool (FM.eV p live))/\Below w.heap.size w w':=by
 obtain⟨r,pc,st,cd,fk,fa⟩:=p
 obtain⟨A,hA⟩:=ex (FM.eV ⟨r,pc,st,cd,fk,fa⟩ live)
 rw[<- hA]
 unfold FM.eV FM.mA at hA
 simp only at hA
 have HA:=ai hA
 clear hA
 unfold PM.Pr.val PM.Pr.row
 simp only
 have hEQ:=fun V=>IU fk fa V
 have ur:=ai (fun V=>AW.iF st 1 3 V)
 have CA:=ai (fun V=>AW.iF fk 1 4 V)
 by_cases h0:1<=st/\st<=3
 · rw[decide_eq_true h0] at ur HA
   by_cases hc:cd=0
   · subst hc
     by_cases h1:st=1
     · subst h1
       cases live
       all_goals
        go_enter Tryz.func40,Tryz.ntmps40
        go_wp2_with (first | (go_at_call 27;refine(ur.o _).mono ?_;rintro e w1 ⟨rfl,rfl⟩))
        go_ret
        exact⟨by rw[HA.o];simp,(Below.refl _ _).alloc (Nat.le_refl _) _⟩
     · have Tb:(st==1)=false:=by rw[beq_eq_false_iff_ne];exact h1
       by_cases h3:st=3
       · subst h3
         clear h1 Tb
         cases live
         · go_enter Tryz.func40,Tryz.ntmps40
           go_wp2_with (first | (have _:=FIRST;go_at_call 27;refine(CA.o _).mono ?_;rintro e w1 ⟨rfl,rfl⟩) | (go_at_call 27;refine(ur.o _).mono ?_;rintro e w1 ⟨rfl,rfl⟩;have FIRST:=trivial))
           go_ret
           exact⟨by rw[HA.o];simp,(Below.refl _ _).alloc (Nat.le_refl _) _⟩
         · go_enter Tryz.func40,Tryz.ntmps40
           go_wp2_with (first | (go_at_call 27;refine(ur.o _).mono ?_;rintro e w1 ⟨rfl,rfl⟩))
           go_ret
           exact⟨by rw[HA.o];simp,(Below.refl _ _).alloc (Nat.le_refl _) _⟩
       · have h3i:(st==3)=false:=by rw[beq_eq_false_iff_ne];exact h3
         cases live
         all_goals
          go_enter Tryz.func40,Tryz.ntmps40
          go_wp2_with (first | (go_at_call 27;refine(ur.o _).mono ?_;rintro e w1 ⟨rfl,rfl⟩))
          go_ret
          exact⟨by rw[HA.o];simp[h1,h3],(Below.refl _ _).alloc (Nat.le_refl _) _⟩
   · have Gl:(cd==0)=false:=by rw[beq_eq_false_iff_ne];exact hc
     by_cases h2:st=2
     · subst h2
       cases live
       all_goals
        go_enter Tryz.func40,Tryz.ntmps40
        go_wp2_with (first | (go_at_call 27;refine(ur.o _).mono ?_;rintro e w1 ⟨rfl,rfl⟩))
        go_ret
        exact⟨by rw[HA.o];simp[hc],(Below.refl _ _).alloc (Nat.le_refl _) _⟩
     · have Ns:(st==2)=false:=by rw[beq_eq_false_iff_ne];exact h2
       go_enter Tryz.func40,Tryz.ntmps40
       go_wp2_with (first | (go_at_call 27;refine(ur.o _).mono ?_;rintro e w1 ⟨rfl,rfl⟩))
       go_ret
       exact⟨by rw[HA.o];simp[hc,h2],(Below.refl _ _).alloc (Nat.le_refl _) _⟩
 · rw[decide_eq_false h0] at ur HA
   clear h0
   go_enter Tryz.func40,Tryz.ntmps40
   go_wp2_with (first | (go_at_call 27;refine(ur.o _).mono ?_;rintro e w1 ⟨rfl,rfl⟩))
   go_ret
   exact⟨by rw[HA.o];simp,(Below.refl _ _).alloc (Nat.le_refl _) _⟩
end FW
end Go.Proofs.YtkdigjpejnebkaaGreat
