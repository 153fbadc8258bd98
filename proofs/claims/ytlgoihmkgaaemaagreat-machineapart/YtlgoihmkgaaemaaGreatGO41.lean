import Derived.Test.YtlgoihmkgaaemaaGreatGO40
import Derived.OpenShut
set_option maxHeartbeats 20000000
set_option linter.unusedVariables false
set_option maxRecDepth 100000
set_option linter.unusedSimpArgs false
namespace Go.Proofs.YtlgoihmkgaaemaaGreat
open Go.RowKit Go.Deep
theorem abq:Tryz.prog.cellsOf 226=2:=by rfl
theorem abo:Tryz.prog.cellsOf 145=3:=by rfl
theorem abp:Tryz.prog.cellsOf 25=3:=by rfl
theorem YW:Tryz.prog.cellsOf 143=1:=by rfl
theorem YV:Tryz.prog.cellsOf 23=1:=by rfl
theorem YX:Tryz.prog.cellsOf 22=1:=by rfl
theorem abt:Tryz.prog.bytesOf 226=24:=by rfl
theorem abr:Tryz.prog.bytesOf 145=48:=by rfl
theorem abu:Tryz.prog.bytesOf 139=32:=by rfl
instance:Inhabited mL:=⟨QJ⟩
instance:Inhabited bG:=⟨Ce⟩
section
variable {H:Type} {enc:TypeId×Value->H} {w:World} {base:Nat} {spare:Nat->Bool} {held:Bool}
theorem abl {n:Nat} {a:Addr} {cs:List Value} {x:DataW H×List MemPlace} (hc:w.cells? base a 2=some cs) (h:DataW.trod enc Tryz.prog w base spare held n 226 cs=some x) (hw:A3 226 x.1) :
  ∃(x0:Int) (x1:ByteArray),(w.cell? (a.add 0)=some (I x0)/\cN x0)/\(w.cell? (a.add 1)=some (.string x1)/\b7 x1.size):=by
 obtain⟨_,hlen,hcell⟩:=Pq hc;obtain⟨xs,k,hk,hxy,_,hxl,hf⟩:=Pp Tryz.underlying226 h;rw[hxy] at hw
 match cs,hlen with
 | [v0,v1],_ =>
  have g0:DataW.trod enc Tryz.prog w base spare held k 3 (([v0,v1].drop 0).take (Tryz.prog.cellsOf 3))=xs[0]?:=hf 0 _ rfl;have g1:DataW.trod enc Tryz.prog w base spare held k 9 (([v0,v1].drop 1).take (Tryz.prog.cellsOf 9))=xs[1]?:=hf 1 _ rfl;simp only[Kg,YJ] at g0 g1;have e0:=hcell 0 (by omega);have e1:=hcell 1 (by omega)
  match xs,hxl with
  | [y0,y1],_ =>
   obtain⟨m0,c0,_,w0⟩:=Dp Tryz.underlying3 (show DataW.trod enc Tryz.prog w base spare held k 3 [v0]=some y0 from g0);obtain⟨m1,c1,hx1,_⟩:=DataW.trod_string Tryz.underlying9 (show DataW.trod enc Tryz.prog w base spare held k 9 [v1]=some y1 from g1);have u1:=CO Tryz.underlying226 hw (j:=1) (u:=9) (d:=y1.1) rfl rfl;rw[hx1] at u1;have w1:b7 m1.size:=by have:=Kb u1;unfold b7;unfold reachBytes at this;rw[Lib.size_eq];omega
   simp only[ze,AJ] at c0 c1;subst c0;subst c1;exact⟨m0,m1,⟨e0,zQ _ w0⟩,⟨e1,w1⟩⟩
theorem ad0 {fuel:Nat} {a0:Option Addr} {len cap:Nat} {x:DataW H×List MemPlace} (h:DataW.trod enc Tryz.prog w base spare held fuel 143 [.slice a0 len cap]=some x) (hw:A3 143 x.1) :
  ∃l:List mL,l.length=len/\qZ w a0 l/\b7 l.length/\∀k,k<l.length->VZ (nX l k):=by
 rcases open_slice Tryz.underlying143 h with⟨hcs,_⟩ | ⟨a,len',cap',m,n,D,Pl,hcs,hb,hl,hm,hmm,rfl,hx⟩
 · simp at hcs;obtain⟨rfl,rfl,rfl⟩:=hcs;exact⟨[],rfl,fun h=>absurd h (by simp),by grind [b7],fun k hk=>absurd hk (by simp)⟩
 · simp at hcs;obtain⟨rfl,rfl,rfl⟩:=hcs;have hlm:len<=m:=by grind
   obtain⟨hb1,hb2⟩:=AZ Tryz.underlying143 hw;rw[abt] at hb1;unfold reachBytes at hb1;have hlen:len<=140737488351232:=by grind
   have each:∀i,i<len->∃y:mL,w.cell? (a.add (i*2+0))=some (I y.off)/\w.cell? (a.add (i*2+1))=some (.string y.bytes)/\VZ y:=by
    intro i hi;obtain⟨cs',h1,h2⟩:=hx i (by omega);have hd:D i∈(List.range len).map D:=vM.2 ⟨i,uR.2 hi,rfl⟩;rw[abq] at h1;obtain⟨x0,x1,⟨e0,z0⟩,⟨e1,z1⟩⟩:=abl h1 h2 (hb2 _ hd);simp only[add_add] at e0 e1;exact⟨⟨x0,x1⟩,e0,e1,⟨z0,z1⟩⟩
   obtain⟨g,hg⟩:=choose_lt each;have hat:∀i,i<len->nX ((List.range len).map g) i=g i:=by
    grind [nX]
   refine⟨(List.range len).map g,by simp,fun h0=>?_,by grind [b7],fun k hk=>?_⟩
   · have h0':0<len:=by grind
     obtain⟨b,off,spot⟩:=a;have hc:=(hg 0 h0').1;have hspot:spot=none:=by simpa [Addr.add] using Po hc
     subst hspot;rw[tO] at hc;refine⟨b,off,rfl,Ms hc,fun i hi=>?_⟩;have hi':i<len:=by grind
     rw[hat i hi'];obtain⟨e0,e1,_⟩:=hg i hi';simp only[tO] at e0 e1
     grind
   grind
theorem SN {n:Nat} {v0 v1 v2:Value} {x:DataW H×List MemPlace} (h:DataW.trod enc Tryz.prog w base spare held n 145 [v0,v1,v2]=some x) (hw:A3 145 x.1) :
  ∃s:bG,v0=I s.page/\v1=.string s.data/\v2=.slice s.ao s.eZ.length s.cap/\qZ w s.ao s.eZ/\DN s:=by
 obtain⟨xs,k,hk,hxy,_,hxl,hf⟩:=Pp Tryz.underlying145 h;rw[hxy] at hw;have g0:DataW.trod enc Tryz.prog w base spare held k 3 (([v0,v1,v2].drop 0).take (Tryz.prog.cellsOf 3))=xs[0]?:=hf 0 _ rfl;have g1:DataW.trod enc Tryz.prog w base spare held k 9 (([v0,v1,v2].drop 1).take (Tryz.prog.cellsOf 9))=xs[1]?:=hf 1 _ rfl;have g2:DataW.trod enc Tryz.prog w base spare held k 143 (([v0,v1,v2].drop 2).take (Tryz.prog.cellsOf 143))=xs[2]?:=hf 2 _ rfl;simp only[Kg,YJ,YW] at g0 g1 g2
 match xs,hxl with
 | [y0,y1,y2],_ =>
  obtain⟨m0,c0,_,w0⟩:=Dp Tryz.underlying3 (show DataW.trod enc Tryz.prog w base spare held k 3 [v0]=some y0 from g0);obtain⟨m1,c1,hx1,_⟩:=DataW.trod_string Tryz.underlying9 (show DataW.trod enc Tryz.prog w base spare held k 9 [v1]=some y1 from g1);have u1:=CO Tryz.underlying145 hw (j:=1) (u:=9) (d:=y1.1) rfl rfl;have u2:=CO Tryz.underlying145 hw (j:=2) (u:=143) (d:=y2.1) rfl rfl;rw[hx1] at u1;have w1:b7 m1.size:=by have:=Kb u1;unfold b7;unfold reachBytes at this;rw[Lib.size_eq];omega
  have t2:DataW.trod enc Tryz.prog w base spare held k 143 [v2]=some y2:=g2;obtain⟨ao,ln,cp,d2⟩:=Jk Tryz.underlying143 t2;subst d2;obtain⟨fs,n1,n2,n3,n4⟩:=ad0 t2 u2;simp only[ze,AJ] at c0 c1;subst c0;subst c1;subst n1;exact⟨⟨m0,m1,fs,ao,cp⟩,rfl,rfl,rfl,n2,⟨zQ _ w0,w1,n3,n4⟩⟩
end
open Go.RowKit Go.Deep
section
variable {H:Type} {enc:TypeId×Value->H} {w:World} {base:Nat} {spare:Nat->Bool} {held:Bool}
theorem adZ {fuel:Nat} {a0:Option Addr} {len cap:Nat} {x:DataW H×List MemPlace} (h:DataW.trod enc Tryz.prog w base spare held fuel 23 [.slice a0 len cap]=some x) (hw:A3 23 x.1) :
  ∃l:List bG,l.length=len/\jB w a0 l/\rM l/\len<=cap:=by
 rcases open_slice Tryz.underlying23 h with⟨hcs,_⟩ | ⟨a,len',cap',m,n,D,Pl,hcs,hb,hl,hm,hmm,rfl,hx⟩
 · simp at hcs;obtain⟨rfl,rfl,rfl⟩:=hcs;exact⟨[],rfl,fun h=>absurd h (by simp),⟨by grind [b7],fun k hk=>absurd hk (by simp)⟩,aD _⟩
 · simp at hcs;obtain⟨rfl,rfl,rfl⟩:=hcs;have hlm:len<=m:=by grind
   obtain⟨hb1,hb2⟩:=AZ Tryz.underlying23 hw;rw[abr] at hb1;unfold reachBytes at hb1;have hlen:len<=140737488351232:=by grind
   have each:∀i,i<len->∃y:bG,w.cell? (a.add (i*3+0))=some (I y.page)/\w.cell? (a.add (i*3+1))=some (.string y.data)/\w.cell? (a.add (i*3+2))=some (.slice y.ao y.eZ.length y.cap)/\qZ w y.ao y.eZ/\DN y:=by
    intro i hi;obtain⟨cs',h1,h2⟩:=hx i (by omega);have hd:D i∈(List.range len).map D:=vM.2 ⟨i,uR.2 hi,rfl⟩;rw[abo] at h1;obtain⟨_,hcl,hcell⟩:=Pq h1
    match cs',hcl with
    | [v0,v1,v2],_ =>
     obtain⟨s,e0,e1,e2,f1,f2⟩:=SN h2 (hb2 _ hd);have q0:=hcell 0 (by omega);have q1:=hcell 1 (by omega);have q2:=hcell 2 (by omega);simp only[add_add] at q0 q1 q2
     grind
   obtain⟨g,hg⟩:=choose_lt each;have hat:∀i,i<len->bu ((List.range len).map g) i=g i:=by
    grind [bu]
   refine⟨(List.range len).map g,by simp,fun h0=>?_,⟨by grind [b7],fun k hk=>?_⟩,hl⟩
   · have h0':0<len:=by grind
     obtain⟨b,off,spot⟩:=a;have hc:=(hg 0 h0').1;have hspot:spot=none:=by simpa [Addr.add] using Po hc
     subst hspot;rw[tO] at hc;refine⟨b,off,rfl,Ms hc,fun i hi=>?_⟩;have hi':i<len:=by grind
     rw[hat i hi'];obtain⟨e0,e1,e2,e3,_⟩:=hg i hi';simp only[tO] at e0 e1 e2
     grind
   grind
theorem Qr {fuel:Nat} {cs:List Value} {x:DataW H×List MemPlace} (h:DataW.trod enc Tryz.prog w base spare held fuel 25 cs=some x) (hw:A3 25 x.1) :
  ∃(l:List aY) (hs:List bG) (en:Int) (va:Value) (ao:Option Addr) (cap:Nat),cs=[va,.slice ao hs.length cap,I en]/\gD w va l/\dO l/\jB w ao hs/\rM hs/\hs.length<=cap/\cN en:=by
 obtain⟨xs,k,hk,hxy,hcl,hxl,hf⟩:=Pp Tryz.underlying25 h;rw[hxy] at hw;rw[abp] at hcl
 match cs,hcl with
 | [v0,v1,v2],_ =>
  have g0:DataW.trod enc Tryz.prog w base spare held k 22 (([v0,v1,v2].drop 0).take (Tryz.prog.cellsOf 22))=xs[0]?:=hf 0 _ rfl;have g1:DataW.trod enc Tryz.prog w base spare held k 23 (([v0,v1,v2].drop 1).take (Tryz.prog.cellsOf 23))=xs[1]?:=hf 1 _ rfl;have g2:DataW.trod enc Tryz.prog w base spare held k 3 (([v0,v1,v2].drop 2).take (Tryz.prog.cellsOf 3))=xs[2]?:=hf 2 _ rfl;simp only[Kg,YX,YV] at g0 g1 g2
  match xs,hxl with
  | [y0,y1,y2],_ =>
   obtain⟨en,c2,_,w2⟩:=Dp Tryz.underlying3 (show DataW.trod enc Tryz.prog w base spare held k 3 [v2]=some y2 from g2);have u0:=CO Tryz.underlying25 hw (j:=0) (u:=22) (d:=y0.1) rfl rfl;have u1:=CO Tryz.underlying25 hw (j:=1) (u:=23) (d:=y1.1) rfl rfl;have t0:DataW.trod enc Tryz.prog w base spare held k 22 [v0]=some y0:=g0;have t1:DataW.trod enc Tryz.prog w base spare held k 23 [v1]=some y1:=g1;obtain⟨av,lv,cv,d0⟩:=Jk Tryz.underlying22 t0;obtain⟨ao,lo,cap,d1⟩:=Jk Tryz.underlying23 t1;subst d0;subst d1;obtain⟨l,n1,n2,n3,n4⟩:=Uk t0;obtain⟨hs,s1,s2,s3,s4⟩:=adZ t1 u1;simp only[ze,AJ] at c2;subst c2;subst s1;refine⟨l,hs,en,_,ao,cap,rfl,n2,⟨n3,?_⟩,s2,s3,s4,zQ _ w2⟩;rw[n1];rcases n4 with e | ⟨el,sp,e1,e2⟩
   · omega
   · rw[e1] at u0;have hb:=(AZ Tryz.underlying22 u0).1;rw[abu,e2] at hb;unfold reachBytes at hb;omega
end
open Go.RowKit Go.Deep
instance:Inhabited kg:=⟨ag3⟩
instance:Inhabited m6:=⟨JK⟩
instance:Inhabited tI:=⟨XV⟩
instance:Inhabited bO:=⟨CA⟩
section
variable {H:Type} {enc:TypeId×Value->H} {w:World} {base:Nat} {spare:Nat->Bool} {held:Bool}
theorem XR {α:Type} [Inhabited α] {ts te:TypeId} {sz:Nat} (p:List Value->α->Prop) (hu:Tryz.prog.underlying ts=some (.slice te)) (hc:Tryz.prog.cellsOf te=sz) (hb8:0<Tryz.prog.bytesOf te) (hs0:0<sz)
  (elem:∀(n:Nat) (cs:List Value) (x:DataW H×List MemPlace),cs.length=sz->DataW.trod enc Tryz.prog w base spare held n te cs=some x->A3 te x.1->∃y,p cs y)
  {fuel:Nat} {a0:Option Addr} {len cap:Nat} {x:DataW H×List MemPlace} (h:DataW.trod enc Tryz.prog w base spare held fuel ts [.slice a0 len cap]=some x) (hw:A3 ts x.1) :
  len<=cap/\len<=140737488351232/\∃l:List α,l.length=len/\(0<len->∃b off,a0=some (Ad b off)/\b<w.heap.size/\∀i,i<len->∃cs:List Value,cs.length=sz/\p cs (l.getD i default)/\∀j,j<sz->w.cell? (Ad b (off+i*sz+j))=cs[j]?)/\∀i,i<len->∃cs,p cs (l.getD i default):=by
 rcases open_slice hu h with⟨hcs,_⟩ | ⟨a,len',cap',m,n,D,Pl,hcs,hb,hl,hm,hmm,rfl,hx⟩
 · simp at hcs;obtain⟨rfl,rfl,rfl⟩:=hcs;exact⟨aD _,by omega,[],rfl,fun h=>absurd h (by omega),fun i hi=>absurd hi (by omega)⟩
 · simp at hcs;obtain⟨rfl,rfl,rfl⟩:=hcs;have hlm:len<=m:=by rw[hmm];split <;> omega
   obtain⟨hb1,hb2⟩:=AZ hu hw;unfold reachBytes at hb1;have hlen:len<=140737488351232:=by
    simp only[ie,List.length_range] at hb1;have:=Nat.le_mul_of_pos_right (len+(m-len)) hb8;omega
   have each:∀i,i<len->∃y:α,∃cs:List Value,cs.length=sz/\p cs y/\∀j,j<sz->w.cell? (a.add (i*sz+j))=cs[j]?:=by
    intro i hi;obtain⟨cs',h1,h2⟩:=hx i (by omega);have hd:D i∈(List.range len).map D:=vM.2 ⟨i,uR.2 hi,rfl⟩;rw[hc] at h1;obtain⟨_,hcl,hcell⟩:=Pq h1;obtain⟨y,hy⟩:=elem n cs' _ hcl h2 (hb2 _ hd);refine⟨y,cs',hcl,hy,fun j hj=>?_⟩;have:=hcell j (by omega);simp only[add_add] at this;exact this
   obtain⟨g,hg⟩:=choose_lt each;have hat:∀i,i<len->((List.range len).map g).getD i default=g i:=by
    intro i hi;simp[hi]
   refine⟨hl,hlen,(List.range len).map g,by simp,fun h0=>?_,fun i hi=>?_⟩
   · obtain⟨b,off,spot⟩:=a;obtain⟨cs,e1,e2,e3⟩:=hg 0 h0;have hc0:=e3 0 hs0;rw[l6 (by omega)] at hc0;have hspot:spot=none:=by simpa [Addr.add] using Po hc0
     subst hspot;rw[tO] at hc0;refine⟨b,off,rfl,Ms hc0,fun i hi=>?_⟩;rw[hat i hi];obtain⟨cs,e1,e2,e3⟩:=hg i hi;refine⟨cs,e1,e2,fun j hj=>?_⟩;have:=e3 j hj;rw[tO,<- za] at this;exact this
   · rw[hat i hi];obtain⟨cs,_,e2,_⟩:=hg i hi;exact⟨cs,e2⟩
theorem acH {fuel:Nat} {v:Value} {y:DataW H×List MemPlace} (h:DataW.trod enc Tryz.prog w base spare held fuel 3 [v]=some y):∃n:Int,v=I n/\cN n:=by
 obtain⟨n,c,_,wf⟩:=Dp Tryz.underlying3 h;simp only[ze,AJ] at c;exact⟨n,c,zQ _ wf⟩
end
open Go.RowKit Go.Deep
theorem aeA:0<Tryz.prog.bytesOf 3:=o5 (by kernel_rfl)
section
variable {H:Type} {enc:TypeId×Value->H} {w:World} {base:Nat} {spare:Nat->Bool} {held:Bool}
def agV (cs:List Value) (y:Int):Prop:=cs=[I y]
theorem agU (n:Nat) (cs:List Value) (x:DataW H×List MemPlace) (hl:cs.length=1) (h:DataW.trod enc Tryz.prog w base spare held n 3 cs=some x) (hw:A3 3 x.1):∃y,agV cs y:=by
 match cs,hl with
 | [v],_ =>
  obtain⟨m,rfl,_⟩:=acH h;exact⟨m,rfl⟩
theorem XC {fuel:Nat} {a0:Option Addr} {len cap:Nat} {x:DataW H×List MemPlace} (h:DataW.trod enc Tryz.prog w base spare held fuel 48 [.slice a0 len cap]=some x) (hw:A3 48 x.1) :
  ∃l:List Int,l.length=len/\tZ w a0 l/\l.length<=140737488351232/\l.length<=cap:=by
 obtain⟨h1,h2,l,h3,h4,h5⟩:=XR agV Tryz.underlying48 Kg aeA (by decide) agU h hw;subst h3;refine⟨l,rfl,fun h0=>?_,h2,h1⟩;obtain⟨b,off,e1,e2,e3⟩:=h4 h0;refine⟨b,off,e1,e2,fun i hi=>?_⟩;obtain⟨cs,_,rfl,q⟩:=e3 i hi;have:=q 0 (by decide);simpa using this
end
theorem acp {w:World} {ap:Option Addr} {l:List Int} (h:tZ w ap l):0<l.length->∀b,ap=some b->b.block<w.heap.size:=fun h0 b hb=>by
 obtain⟨b',off,e,hlt,_⟩:=h h0;rw[e] at hb;injection hb with hb;subst hb;exact hlt
end Go.Proofs.YtlgoihmkgaaemaaGreat
