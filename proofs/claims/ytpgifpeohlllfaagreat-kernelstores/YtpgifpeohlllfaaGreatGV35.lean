import Derived.Test.YtpgifpeohlllfaaGreatGV09
import Derived.OpenShut
set_option maxHeartbeats 20000000
set_option linter.unusedVariables false
set_option maxRecDepth 100000
set_option linter.unusedSimpArgs false
namespace Go.Proofs.YtpgifpeohlllfaaGreat
namespace Go.Proofs.YtpgifpeohlllfaaGreat
open Go.RowKit Go.Deep
theorem IQ:Tryz.prog.cellsOf 9=1:=by rfl
theorem Bq:Tryz.prog.cellsOf 3=1:=by rfl
theorem Xv:Tryz.prog.cellsOf 4=1:=by rfl
theorem pO (n:Int) (h:(Lit.int .i64 n).wf=true):dY n:=adG n h
theorem KW {w:World} {b o:Nat} {v:Value} (h:w.cell? (Ad b o)=some v):b<w.heap.size:=by
 grind [World.cell?]
instance:Inhabited pA:=⟨Gp⟩
instance:Inhabited Un:=⟨aij⟩
instance:Inhabited QV:=⟨aik⟩
def ua {H:Type} (t:TypeId) (d:DataW H):Prop:=∀n∈d.weights Tryz.prog t,n<=reachBytes
theorem Bp {H:Type} {e:TypeId}:∀{l:List (DataW H)} {d:DataW H},d∈l->∀n∈d.weights Tryz.prog e,n∈DataW.weightsAll Tryz.prog e l
 | y::r,d,h,n,hn=>by
  simp only[DataW.weightsAll,lT];rcases zJ.1 h with h | h
  · grind
  · exact .inr (Bp h n hn)
theorem xQ {H:Type} {t:TypeId} {b:List UInt8} (h:ua (H:=H) t (.lit (.string b))):b.length<=reachBytes:=h _ (by simp[DataW.weights])
theorem zU {H:Type} {t e:TypeId} {el sp:List (DataW H)} (hu:Tryz.prog.underlying t=some (.slice e)) (h:ua t (.slice el sp)):(el.length+sp.length)*Tryz.prog.bytesOf e<=reachBytes/\∀d∈el,ua e d:=by
 refine⟨h _ (by grind [DataW.weights]),fun d hd n hn=>h n ?_⟩
 grind [DataW.weights,Bp]
theorem pN {H:Type} {t:TypeId} {fs:Array Field} {ps:List (DataW H)} (hu:Tryz.prog.underlying t=some (.struct fs)) (h:ua t (.agg ps)) {j:Nat} {u:TypeId} {d:DataW H} (ht:(fs.toList.map (·.type))[j]?=some u) (hd:ps[j]?=some d):ua u d:=fun n hn=>h n (by
 grind [DataW.weights,DataW.weights_mem_each])
section
variable {H:Type} {enc:TypeId×Value->H} {w:World} {base:Nat} {spare:Nat->Bool} {held:Bool}
theorem tR {t e:TypeId} {fuel:Nat} {v:Value} {x:DataW H×List MemPlace} (ht:Tryz.prog.underlying t=some (.slice e)) (h:DataW.trod enc Tryz.prog w base spare held fuel t [v]=some x):∃a len cap,v=.slice a len cap:=by
 rcases open_slice ht h with⟨hcs,_⟩ | ⟨a,len',cap',m,n,D,Pl,hcs,_⟩
 · grind
 grind
end
theorem Z8:Tryz.prog.cellsOf 52=2:=by rfl
theorem Z7:Tryz.prog.cellsOf 50=3:=by rfl
theorem XG:Tryz.prog.cellsOf 48=1:=by rfl
theorem XF:Tryz.prog.cellsOf 22=1:=by rfl
theorem XH:Tryz.prog.cellsOf 28=1:=by rfl
theorem aaa:Tryz.prog.bytesOf 52=24:=by rfl
theorem Z9:Tryz.prog.bytesOf 50=48:=by rfl
theorem aab:Tryz.prog.bytesOf 47=32:=by rfl
instance:Inhabited mF:=⟨O9⟩
instance:Inhabited bM:=⟨xy⟩
section
variable {H:Type} {enc:TypeId×Value->H} {w:World} {base:Nat} {spare:Nat->Bool} {held:Bool}
theorem Z4 {n:Nat} {a:Addr} {cs:List Value} {x:DataW H×List MemPlace} (hc:w.cells? base a 2=some cs) (h:DataW.trod enc Tryz.prog w base spare held n 52 cs=some x) (hw:ua 52 x.1) :
  ∃(x0:Int) (x1:ByteArray),(w.cell? (a.add 0)=some (I x0)/\dY x0)/\(w.cell? (a.add 1)=some (.string x1)/\bY x1.size):=by
 obtain⟨_,hlen,hcell⟩:=NT hc;obtain⟨xs,k,hk,hxy,_,hxl,hf⟩:=zK Tryz.underlying52 h;rw[hxy] at hw
 match cs,hlen with
 | [v0,v1],_ =>
  have g0:DataW.trod enc Tryz.prog w base spare held k 3 (([v0,v1].drop 0).take (Tryz.prog.cellsOf 3))=xs[0]?:=hf 0 _ rfl;have g1:DataW.trod enc Tryz.prog w base spare held k 9 (([v0,v1].drop 1).take (Tryz.prog.cellsOf 9))=xs[1]?:=hf 1 _ rfl;simp only[Bq,IQ] at g0 g1;have e0:=hcell 0 (by omega);have e1:=hcell 1 (by omega)
  match xs,hxl with
  | [y0,y1],_ =>
   obtain⟨m0,c0,_,w0⟩:=Io Tryz.underlying3 (show DataW.trod enc Tryz.prog w base spare held k 3 [v0]=some y0 from g0);obtain⟨m1,c1,hx1,_⟩:=NR Tryz.underlying9 (show DataW.trod enc Tryz.prog w base spare held k 9 [v1]=some y1 from g1);have u1:=pN Tryz.underlying52 hw (j:=1) (u:=9) (d:=y1.1) rfl rfl;rw[hx1] at u1;have w1:bY m1.size:=by have:=xQ u1;unfold bY;unfold reachBytes at this;rw[Lib.size_eq];omega
   simp only[xP,uv] at c0 c1;subst c0;subst c1;exact⟨m0,m1,⟨e0,pO _ w0⟩,⟨e1,w1⟩⟩
theorem ac1 {fuel:Nat} {a0:Option Addr} {len cap:Nat} {x:DataW H×List MemPlace} (h:DataW.trod enc Tryz.prog w base spare held fuel 48 [.slice a0 len cap]=some x) (hw:ua 48 x.1) :
  ∃l:List mF,l.length=len/\mr w a0 l/\bY l.length/\∀k,k<l.length->UF (lI l k):=by
 rcases open_slice Tryz.underlying48 h with⟨hcs,_⟩ | ⟨a,len',cap',m,n,D,Pl,hcs,hb,hl,hm,hmm,rfl,hx⟩
 · simp at hcs;obtain⟨rfl,rfl,rfl⟩:=hcs;exact⟨[],rfl,fun h=>absurd h (by simp),by grind [bY],fun k hk=>absurd hk (by simp)⟩
 · simp at hcs;obtain⟨rfl,rfl,rfl⟩:=hcs;have hlm:len<=m:=by grind
   obtain⟨hb1,hb2⟩:=zU Tryz.underlying48 hw;rw[aaa] at hb1;unfold reachBytes at hb1;have hlen:len<=140737488351232:=by grind
   have each:∀i,i<len->∃y:mF,w.cell? (a.add (i*2+0))=some (I y.off)/\w.cell? (a.add (i*2+1))=some (.string y.bytes)/\UF y:=by
    intro i hi;obtain⟨cs',h1,h2⟩:=hx i (by omega);have hd:D i∈(List.range len).map D:=zI.2 ⟨i,xN.2 hi,rfl⟩;rw[Z8] at h1;obtain⟨x0,x1,⟨e0,z0⟩,⟨e1,z1⟩⟩:=Z4 h1 h2 (hb2 _ hd);simp only[add_add] at e0 e1;exact⟨⟨x0,x1⟩,e0,e1,⟨z0,z1⟩⟩
   obtain⟨g,hg⟩:=choose_lt each;have hat:∀i,i<len->lI ((List.range len).map g) i=g i:=by
    grind [lI]
   refine⟨(List.range len).map g,by simp,fun h0=>?_,by grind [bY],fun k hk=>?_⟩
   · have h0':0<len:=by grind
     obtain⟨b,off,spot⟩:=a;have hc:=(hg 0 h0').1;have hspot:spot=none:=by simpa [Addr.add] using NP hc
     subst hspot;rw[ux] at hc;refine⟨b,off,rfl,KW hc,fun i hi=>?_⟩;have hi':i<len:=by grind
     rw[hat i hi'];obtain⟨e0,e1,_⟩:=hg i hi';simp only[ux] at e0 e1
     grind
   grind
theorem QW {n:Nat} {v0 v1 v2:Value} {x:DataW H×List MemPlace} (h:DataW.trod enc Tryz.prog w base spare held n 50 [v0,v1,v2]=some x) (hw:ua 50 x.1) :
  ∃s:bM,v0=I s.page/\v1=.string s.data/\v2=.slice s.ao s.dn.length s.cap/\mr w s.ao s.dn/\xU s:=by
 obtain⟨xs,k,hk,hxy,_,hxl,hf⟩:=zK Tryz.underlying50 h;rw[hxy] at hw;have g0:DataW.trod enc Tryz.prog w base spare held k 3 (([v0,v1,v2].drop 0).take (Tryz.prog.cellsOf 3))=xs[0]?:=hf 0 _ rfl;have g1:DataW.trod enc Tryz.prog w base spare held k 9 (([v0,v1,v2].drop 1).take (Tryz.prog.cellsOf 9))=xs[1]?:=hf 1 _ rfl;have g2:DataW.trod enc Tryz.prog w base spare held k 48 (([v0,v1,v2].drop 2).take (Tryz.prog.cellsOf 48))=xs[2]?:=hf 2 _ rfl;simp only[Bq,IQ,XG] at g0 g1 g2
 match xs,hxl with
 | [y0,y1,y2],_ =>
  obtain⟨m0,c0,_,w0⟩:=Io Tryz.underlying3 (show DataW.trod enc Tryz.prog w base spare held k 3 [v0]=some y0 from g0);obtain⟨m1,c1,hx1,_⟩:=NR Tryz.underlying9 (show DataW.trod enc Tryz.prog w base spare held k 9 [v1]=some y1 from g1);have u1:=pN Tryz.underlying50 hw (j:=1) (u:=9) (d:=y1.1) rfl rfl;have u2:=pN Tryz.underlying50 hw (j:=2) (u:=48) (d:=y2.1) rfl rfl;rw[hx1] at u1;have w1:bY m1.size:=by have:=xQ u1;unfold bY;unfold reachBytes at this;rw[Lib.size_eq];omega
  have t2:DataW.trod enc Tryz.prog w base spare held k 48 [v2]=some y2:=g2;obtain⟨ao,ln,cp,d2⟩:=tR Tryz.underlying48 t2;subst d2;obtain⟨fs,n1,n2,n3,n4⟩:=ac1 t2 u2;simp only[xP,uv] at c0 c1;subst c0;subst c1;subst n1;exact⟨⟨m0,m1,fs,ao,cp⟩,rfl,rfl,rfl,n2,⟨pO _ w0,w1,n3,n4⟩⟩
end
section
variable {H:Type} {enc:TypeId×Value->H} {w:World} {base:Nat} {spare:Nat->Bool} {held:Bool}
theorem ac0 {fuel:Nat} {a0:Option Addr} {len cap:Nat} {x:DataW H×List MemPlace} (h:DataW.trod enc Tryz.prog w base spare held fuel 22 [.slice a0 len cap]=some x) (hw:ua 22 x.1) :
  ∃l:List bM,l.length=len/\iM w a0 l/\qI l/\len<=cap:=by
 rcases open_slice Tryz.underlying22 h with⟨hcs,_⟩ | ⟨a,len',cap',m,n,D,Pl,hcs,hb,hl,hm,hmm,rfl,hx⟩
 · simp at hcs;obtain⟨rfl,rfl,rfl⟩:=hcs;exact⟨[],rfl,fun h=>absurd h (by simp),⟨by grind [bY],fun k hk=>absurd hk (by simp)⟩,aM _⟩
 · simp at hcs;obtain⟨rfl,rfl,rfl⟩:=hcs;have hlm:len<=m:=by grind
   obtain⟨hb1,hb2⟩:=zU Tryz.underlying22 hw;rw[Z9] at hb1;unfold reachBytes at hb1;have hlen:len<=140737488351232:=by grind
   have each:∀i,i<len->∃y:bM,w.cell? (a.add (i*3+0))=some (I y.page)/\w.cell? (a.add (i*3+1))=some (.string y.data)/\w.cell? (a.add (i*3+2))=some (.slice y.ao y.dn.length y.cap)/\mr w y.ao y.dn/\xU y:=by
    intro i hi;obtain⟨cs',h1,h2⟩:=hx i (by omega);have hd:D i∈(List.range len).map D:=zI.2 ⟨i,xN.2 hi,rfl⟩;rw[Z7] at h1;obtain⟨_,hcl,hcell⟩:=NT h1
    match cs',hcl with
    | [v0,v1,v2],_ =>
     obtain⟨s,e0,e1,e2,f1,f2⟩:=QW h2 (hb2 _ hd);have q0:=hcell 0 (by omega);have q1:=hcell 1 (by omega);have q2:=hcell 2 (by omega);simp only[add_add] at q0 q1 q2
     grind
   obtain⟨g,hg⟩:=choose_lt each;have hat:∀i,i<len->bj ((List.range len).map g) i=g i:=by
    grind [bj]
   refine⟨(List.range len).map g,by simp,fun h0=>?_,⟨by grind [bY],fun k hk=>?_⟩,hl⟩
   · have h0':0<len:=by grind
     obtain⟨b,off,spot⟩:=a;have hc:=(hg 0 h0').1;have hspot:spot=none:=by simpa [Addr.add] using NP hc
     subst hspot;rw[ux] at hc;refine⟨b,off,rfl,KW hc,fun i hi=>?_⟩;have hi':i<len:=by grind
     rw[hat i hi'];obtain⟨e0,e1,e2,e3,_⟩:=hg i hi';simp only[ux] at e0 e1 e2
     grind
   grind
end
theorem abg:Tryz.prog.cellsOf 40=4:=by rfl
theorem YY:Tryz.prog.cellsOf 23=1:=by rfl
theorem abl:0<Tryz.prog.bytesOf 40:=jH (by rfl)
instance:Inhabited kj:=⟨gD⟩
theorem abe:Tryz.prog.cellsOf 86=2:=by rfl
theorem YX:Tryz.prog.cellsOf 24=1:=by rfl
theorem abk:0<Tryz.prog.bytesOf 86:=jH (by rfl)
instance:Inhabited mO:=⟨nU⟩
theorem abh:Tryz.prog.cellsOf 45=3:=by rfl
theorem YZ:Tryz.prog.cellsOf 41=1:=by rfl
theorem abm:0<Tryz.prog.bytesOf 45:=jH (by rfl)
instance:Inhabited bC:=⟨eD⟩
theorem abd:Tryz.prog.cellsOf 43=3:=by rfl
theorem YW:Tryz.prog.cellsOf 25=1:=by rfl
theorem abj:0<Tryz.prog.bytesOf 43:=jH (by rfl)
instance:Inhabited dm:=⟨uP⟩
theorem abf:Tryz.prog.cellsOf 27=5:=by rfl
section
variable {H:Type} {enc:TypeId×Value->H} {w:World} {base:Nat} {spare:Nat->Bool} {held:Bool}
theorem yi {α:Type} [Inhabited α] {ts te:TypeId} {sz:Nat} (p:List Value->α->Prop) (hu:Tryz.prog.underlying ts=some (.slice te)) (hc:Tryz.prog.cellsOf te=sz) (Ui:0<Tryz.prog.bytesOf te) (hs0:0<sz)
  (elem:∀(n:Nat) (cs:List Value) (x:DataW H×List MemPlace),cs.length=sz->DataW.trod enc Tryz.prog w base spare held n te cs=some x->ua te x.1->∃y,p cs y)
  {fuel:Nat} {a0:Option Addr} {len cap:Nat} {x:DataW H×List MemPlace} (h:DataW.trod enc Tryz.prog w base spare held fuel ts [.slice a0 len cap]=some x) (hw:ua ts x.1) :
  len<=cap/\len<=140737488351232/\∃l:List α,l.length=len/\(0<len->∃b off,a0=some (Ad b off)/\b<w.heap.size/\∀i,i<len->∃cs:List Value,cs.length=sz/\p cs (l.getD i default)/\∀j,j<sz->w.cell? (Ad b (off+i*sz+j))=cs[j]?)/\∀i,i<len->∃cs,p cs (l.getD i default):=by
 rcases open_slice hu h with⟨hcs,_⟩ | ⟨a,len',cap',m,n,D,Pl,hcs,hb,hl,hm,hmm,rfl,hx⟩
 · simp_all
 · simp at hcs;obtain⟨rfl,rfl,rfl⟩:=hcs;have hlm:len<=m:=by grind
   obtain⟨hb1,hb2⟩:=zU hu hw;unfold reachBytes at hb1;have hlen:len<=140737488351232:=by
    simp only[Cm,List.length_range] at hb1;have:=Nat.le_mul_of_pos_right (len+(m-len)) Ui;omega
   have each:∀i,i<len->∃y:α,∃cs:List Value,cs.length=sz/\p cs y/\∀j,j<sz->w.cell? (a.add (i*sz+j))=cs[j]?:=by
    intro i hi;obtain⟨cs',h1,h2⟩:=hx i (by omega);have hd:D i∈(List.range len).map D:=zI.2 ⟨i,xN.2 hi,rfl⟩;rw[hc] at h1;obtain⟨_,hcl,hcell⟩:=NT h1;obtain⟨y,hy⟩:=elem n cs' _ hcl h2 (hb2 _ hd);refine⟨y,cs',hcl,hy,fun j hj=>?_⟩;have:=hcell j (by omega);simp only[add_add] at this;omega
   obtain⟨g,hg⟩:=choose_lt each;have hat:∀i,i<len->((List.range len).map g).getD i default=g i:=by
    grind
   refine⟨hl,hlen,(List.range len).map g,by simp,fun h0=>?_,fun i hi=>?_⟩
   · obtain⟨b,off,spot⟩:=a;obtain⟨cs,e1,e2,e3⟩:=hg 0 h0;have hc0:=e3 0 hs0;rw[List.getElem?_eq_getElem (by omega)] at hc0;have hspot:spot=none:=by simpa [Addr.add] using NP hc0
     subst hspot;rw[ux] at hc0;refine⟨b,off,rfl,KW hc0,fun i hi=>?_⟩;rw[hat i hi];obtain⟨cs,e1,e2,e3⟩:=hg i hi;refine⟨cs,e1,e2,fun j hj=>?_⟩;have:=e3 j hj;rw[ux,<- Cj] at this;omega
   grind
theorem vN {fuel:Nat} {v:Value} {y:DataW H×List MemPlace} (h:DataW.trod enc Tryz.prog w base spare held fuel 3 [v]=some y):∃n:Int,v=I n/\dY n:=by
 grind [DataW.trod_int,Tryz.underlying3,pO]
def aci (cs:List Value) (y:kj):Prop:=cs=[.string y.data,I y.refs,.bool y.fN,.bool y.seen]/\bY y.data.size/\dY y.refs
theorem ae2 (n:Nat) (cs:List Value) (x:DataW H×List MemPlace) (hl:cs.length=4) (h:DataW.trod enc Tryz.prog w base spare held n 40 cs=some x) (hw:ua 40 x.1):∃y,aci cs y:=by
 obtain⟨xs,k,hk,hxy,_,hxl,hf⟩:=zK Tryz.underlying40 h;rw[hxy] at hw
 match cs,hl with
 | [v0,v1,v2,v3],_ =>
  have g0:DataW.trod enc Tryz.prog w base spare held k 9 (([v0,v1,v2,v3].drop 0).take (Tryz.prog.cellsOf 9))=xs[0]?:=hf 0 _ rfl;have g1:DataW.trod enc Tryz.prog w base spare held k 3 (([v0,v1,v2,v3].drop 1).take (Tryz.prog.cellsOf 3))=xs[1]?:=hf 1 _ rfl;have g2:DataW.trod enc Tryz.prog w base spare held k 4 (([v0,v1,v2,v3].drop 2).take (Tryz.prog.cellsOf 4))=xs[2]?:=hf 2 _ rfl;have g3:DataW.trod enc Tryz.prog w base spare held k 4 (([v0,v1,v2,v3].drop 3).take (Tryz.prog.cellsOf 4))=xs[3]?:=hf 3 _ rfl;simp only[Bq,Xv,IQ] at g0 g1 g2 g3
  match xs,hxl with
  | [y0,y1,y2,y3],_ =>
   obtain⟨m0,c0,hx0,_⟩:=NR Tryz.underlying9 (show DataW.trod enc Tryz.prog w base spare held k 9 [v0]=some y0 from g0);have u0:=pN Tryz.underlying40 hw (j:=0) (u:=9) (d:=y0.1) rfl rfl;rw[hx0] at u0;have w0:bY m0.size:=by have:=xQ u0;unfold bY;unfold reachBytes at this;rw[Lib.size_eq];omega
   simp only[xP,uv] at c0;subst c0;obtain⟨m1,rfl,w1⟩:=vN (show DataW.trod enc Tryz.prog w base spare held k 3 [v1]=some y1 from g1);obtain⟨m2,c2,_⟩:=NH Tryz.underlying4 (show DataW.trod enc Tryz.prog w base spare held k 4 [v2]=some y2 from g2);simp only[xP,uv] at c2;subst c2;obtain⟨m3,c3,_⟩:=NH Tryz.underlying4 (show DataW.trod enc Tryz.prog w base spare held k 4 [v3]=some y3 from g3);simp only[xP,uv] at c3;subst c3;exact⟨⟨m0,m1,m2,m3⟩,rfl,w0,w1⟩
theorem abb {fuel:Nat} {a0:Option Addr} {len cap:Nat} {x:DataW H×List MemPlace} (h:DataW.trod enc Tryz.prog w base spare held fuel 23 [.slice a0 len cap]=some x) (hw:ua 23 x.1) :
  ∃l:List kj,l.length=len/\dz gq 4 gD w a0 l/\bY l.length/\(∀k,k<l.length->bY (au l k).data.size/\dY (au l k).refs)/\len<=cap:=by
 obtain⟨h1,h2,l,h3,h4,h5⟩:=yi aci Tryz.underlying23 abg abl (by decide) ae2 h hw;subst h3;refine⟨l,rfl,fun h0=>?_,h2,fun k hk=>?_,h1⟩
 · obtain⟨b,off,e1,e2,e3⟩:=h4 h0;refine⟨b,off,e1,e2,fun i hi=>?_⟩;obtain⟨cs,_,⟨rfl,_⟩,q⟩:=e3 i hi;exact q
 · obtain⟨cs,_,q⟩:=h5 k hk;exact q
def ach (cs:List Value) (y:mO):Prop:=cs=[.string y.data,I y.refs]/\bY y.data.size/\dY y.refs
theorem ae1 (n:Nat) (cs:List Value) (x:DataW H×List MemPlace) (hl:cs.length=2) (h:DataW.trod enc Tryz.prog w base spare held n 86 cs=some x) (hw:ua 86 x.1):∃y,ach cs y:=by
 obtain⟨xs,k,hk,hxy,_,hxl,hf⟩:=zK Tryz.underlying86 h;rw[hxy] at hw
 match cs,hl with
 | [v0,v1],_ =>
  have g0:DataW.trod enc Tryz.prog w base spare held k 9 (([v0,v1].drop 0).take (Tryz.prog.cellsOf 9))=xs[0]?:=hf 0 _ rfl;have g1:DataW.trod enc Tryz.prog w base spare held k 3 (([v0,v1].drop 1).take (Tryz.prog.cellsOf 3))=xs[1]?:=hf 1 _ rfl;simp only[Bq,IQ] at g0 g1
  match xs,hxl with
  | [y0,y1],_ =>
   obtain⟨m0,c0,hx0,_⟩:=NR Tryz.underlying9 (show DataW.trod enc Tryz.prog w base spare held k 9 [v0]=some y0 from g0);have u0:=pN Tryz.underlying86 hw (j:=0) (u:=9) (d:=y0.1) rfl rfl;rw[hx0] at u0;have w0:bY m0.size:=by grind [xQ,bY,reachBytes,Lib.size_eq]
   simp only[xP,uv] at c0;subst c0;obtain⟨m1,rfl,w1⟩:=vN (show DataW.trod enc Tryz.prog w base spare held k 3 [v1]=some y1 from g1);exact⟨⟨m0,m1⟩,rfl,w0,w1⟩
theorem aba {fuel:Nat} {a0:Option Addr} {len cap:Nat} {x:DataW H×List MemPlace} (h:DataW.trod enc Tryz.prog w base spare held fuel 24 [.slice a0 len cap]=some x) (hw:ua 24 x.1) :
  ∃l:List mO,l.length=len/\dz gp 2 nU w a0 l/\bY l.length/\(∀k,k<l.length->bY (bw l k).data.size/\dY (bw l k).refs)/\len<=cap:=by
 obtain⟨h1,h2,l,h3,h4,h5⟩:=yi ach Tryz.underlying24 abe abk (by decide) ae1 h hw;subst h3;refine⟨l,rfl,fun h0=>?_,h2,fun k hk=>?_,h1⟩
 · obtain⟨b,off,e1,e2,e3⟩:=h4 h0;refine⟨b,off,e1,e2,fun i hi=>?_⟩;obtain⟨cs,_,⟨rfl,_⟩,q⟩:=e3 i hi;exact q
 · obtain⟨cs,_,q⟩:=h5 k hk;exact q
def acj (cs:List Value) (y:bC):Prop:=cs=[I y.page,I y.kind,I y.loc]/\dY y.page/\dY y.kind/\dY y.loc
theorem ae3 (n:Nat) (cs:List Value) (x:DataW H×List MemPlace) (hl:cs.length=3) (h:DataW.trod enc Tryz.prog w base spare held n 45 cs=some x) (hw:ua 45 x.1):∃y,acj cs y:=by
 obtain⟨xs,k,hk,hxy,_,hxl,hf⟩:=zK Tryz.underlying45 h;rw[hxy] at hw
 match cs,hl with
 | [v0,v1,v2],_ =>
  have g0:DataW.trod enc Tryz.prog w base spare held k 3 (([v0,v1,v2].drop 0).take (Tryz.prog.cellsOf 3))=xs[0]?:=hf 0 _ rfl;have g1:DataW.trod enc Tryz.prog w base spare held k 3 (([v0,v1,v2].drop 1).take (Tryz.prog.cellsOf 3))=xs[1]?:=hf 1 _ rfl;have g2:DataW.trod enc Tryz.prog w base spare held k 3 (([v0,v1,v2].drop 2).take (Tryz.prog.cellsOf 3))=xs[2]?:=hf 2 _ rfl;simp only[Bq] at g0 g1 g2
  match xs,hxl with
  | [y0,y1,y2],_ =>
   obtain⟨m0,rfl,w0⟩:=vN (show DataW.trod enc Tryz.prog w base spare held k 3 [v0]=some y0 from g0);obtain⟨m1,rfl,w1⟩:=vN (show DataW.trod enc Tryz.prog w base spare held k 3 [v1]=some y1 from g1);obtain⟨m2,rfl,w2⟩:=vN (show DataW.trod enc Tryz.prog w base spare held k 3 [v2]=some y2 from g2);exact⟨⟨m0,m1,m2⟩,rfl,w0,w1,w2⟩
theorem abc {fuel:Nat} {a0:Option Addr} {len cap:Nat} {x:DataW H×List MemPlace} (h:DataW.trod enc Tryz.prog w base spare held fuel 41 [.slice a0 len cap]=some x) (hw:ua 41 x.1) :
  ∃l:List bC,l.length=len/\dz bk 3 eD w a0 l/\bY l.length/\(∀k,k<l.length->dY (aI l k).page/\dY (aI l k).kind/\dY (aI l k).loc)/\len<=cap:=by
 obtain⟨h1,h2,l,h3,h4,h5⟩:=yi acj Tryz.underlying41 abh abm (by decide) ae3 h hw;subst h3;refine⟨l,rfl,fun h0=>?_,h2,fun k hk=>?_,h1⟩
 · obtain⟨b,off,e1,e2,e3⟩:=h4 h0;refine⟨b,off,e1,e2,fun i hi=>?_⟩;obtain⟨cs,_,⟨rfl,_⟩,q⟩:=e3 i hi;exact q
 · obtain⟨cs,_,q⟩:=h5 k hk;exact q
def acg (w:World) (cs:List Value) (y:dm):Prop:=∃va ap cp,cs=[.bool y.live,va,.slice ap y.aW.length cp]/\eU w va y.aZ/\dz bk 3 eD w ap y.aW/\y.aW.length<=cp/\Er y
theorem ae0 (n:Nat) (cs:List Value) (x:DataW H×List MemPlace) (hl:cs.length=3) (h:DataW.trod enc Tryz.prog w base spare held n 43 cs=some x) (hw:ua 43 x.1):∃y,acg w cs y:=by
 obtain⟨xs,k,hk,hxy,_,hxl,hf⟩:=zK Tryz.underlying43 h;rw[hxy] at hw
 match cs,hl with
 | [v0,v1,v2],_ =>
  have g0:DataW.trod enc Tryz.prog w base spare held k 4 (([v0,v1,v2].drop 0).take (Tryz.prog.cellsOf 4))=xs[0]?:=hf 0 _ rfl;have g1:DataW.trod enc Tryz.prog w base spare held k 28 (([v0,v1,v2].drop 1).take (Tryz.prog.cellsOf 28))=xs[1]?:=hf 1 _ rfl;have g2:DataW.trod enc Tryz.prog w base spare held k 41 (([v0,v1,v2].drop 2).take (Tryz.prog.cellsOf 41))=xs[2]?:=hf 2 _ rfl;simp only[Xv,XH,YZ] at g0 g1 g2
  match xs,hxl with
  | [y0,y1,y2],_ =>
   obtain⟨lv,c0,_⟩:=NH Tryz.underlying4 (show DataW.trod enc Tryz.prog w base spare held k 4 [v0]=some y0 from g0);have u1:=pN Tryz.underlying43 hw (j:=1) (u:=28) (d:=y1.1) rfl rfl;have u2:=pN Tryz.underlying43 hw (j:=2) (u:=41) (d:=y2.1) rfl rfl;have t1:DataW.trod enc Tryz.prog w base spare held k 28 [v1]=some y1:=g1;have t2:DataW.trod enc Tryz.prog w base spare held k 41 [v2]=some y2:=g2;obtain⟨av,lvn,cv,d1⟩:=tR Tryz.underlying28 t1;obtain⟨ap,lp,cp,d2⟩:=tR Tryz.underlying41 t2;subst d1;subst d2;obtain⟨l,n1,n2,n3,n4⟩:=SC t1;obtain⟨ps,s1,s2,s3,s4,s5⟩:=abc t2 u2;simp only[xP,uv] at c0;subst c0;subst s1;refine⟨⟨lv,l,ps⟩,_,ap,cp,rfl,n2,s2,s5,⟨n3,?_⟩,s3,s4⟩;rw[n1];rcases n4 with e | ⟨el,sp,e1,e2⟩
   · omega
   · rw[e1] at u1;have hb:=(zU Tryz.underlying28 u1).1;rw[aab,e2] at hb;unfold reachBytes at hb;omega
theorem aa9 {fuel:Nat} {a0:Option Addr} {len cap:Nat} {x:DataW H×List MemPlace} (h:DataW.trod enc Tryz.prog w base spare held fuel 25 [.slice a0 len cap]=some x) (hw:ua 25 x.1) :
  ∃l:List dm,l.length=len/\s8 w a0 l/\bY l.length/\∀k,k<l.length->Er (ak l k):=by
 obtain⟨h1,h2,l,h3,h4,h5⟩:=yi (acg w) Tryz.underlying25 abd abj (by decide) ae0 h hw;subst h3;refine⟨l,rfl,fun h0=>?_,h2,fun k hk=>?_⟩
 · obtain⟨b,off,e1,e2,e3⟩:=h4 h0;refine⟨b,off,e1,e2,fun i hi=>?_⟩;obtain⟨cs,_,⟨va,ap,cp,rfl,r1,r2,r3,_⟩,q⟩:=e3 i hi;exact⟨va,ap,cp,q 0 (by decide),q 1 (by decide),q 2 (by decide),r1,r2,r3⟩
 · obtain⟨cs,_,_,_,_,_,_,_,q⟩:=h5 k hk;exact q
theorem y8 {fuel:Nat} {cs:List Value} {x:DataW H×List MemPlace} (h:DataW.trod enc Tryz.prog w base spare held fuel 27 cs=some x) (hw:ua 27 x.1) :
  ∃(k:aN) (a:fP),cs=(aT a k).toList/\fT w a k/\gW k:=by
 obtain⟨xs,k,hk,hxy,hcl,hxl,hf⟩:=zK Tryz.underlying27 h;rw[hxy] at hw;rw[abf] at hcl
 match cs,hcl with
 | [v0,v1,v2,v3,v4],_ =>
  have g0:DataW.trod enc Tryz.prog w base spare held k 22 (([v0,v1,v2,v3,v4].drop 0).take (Tryz.prog.cellsOf 22))=xs[0]?:=hf 0 _ rfl;have g1:DataW.trod enc Tryz.prog w base spare held k 23 (([v0,v1,v2,v3,v4].drop 1).take (Tryz.prog.cellsOf 23))=xs[1]?:=hf 1 _ rfl;have g2:DataW.trod enc Tryz.prog w base spare held k 24 (([v0,v1,v2,v3,v4].drop 2).take (Tryz.prog.cellsOf 24))=xs[2]?:=hf 2 _ rfl;have g3:DataW.trod enc Tryz.prog w base spare held k 25 (([v0,v1,v2,v3,v4].drop 3).take (Tryz.prog.cellsOf 25))=xs[3]?:=hf 3 _ rfl;have g4:DataW.trod enc Tryz.prog w base spare held k 3 (([v0,v1,v2,v3,v4].drop 4).take (Tryz.prog.cellsOf 3))=xs[4]?:=hf 4 _ rfl;simp only[Bq,XF,YY,YX,YW] at g0 g1 g2 g3 g4
  match xs,hxl with
  | [y0,y1,y2,y3,y4],_ =>
   obtain⟨hd,rfl,i4⟩:=vN (show DataW.trod enc Tryz.prog w base spare held k 3 [v4]=some y4 from g4);have u0:=pN Tryz.underlying27 hw (j:=0) (u:=22) (d:=y0.1) rfl rfl;have t0:DataW.trod enc Tryz.prog w base spare held k 22 [v0]=some y0:=g0;obtain⟨a0,l0,c0,d0⟩:=tR Tryz.underlying22 t0;have u1:=pN Tryz.underlying27 hw (j:=1) (u:=23) (d:=y1.1) rfl rfl;have t1:DataW.trod enc Tryz.prog w base spare held k 23 [v1]=some y1:=g1;obtain⟨a1,l1,c1,d1⟩:=tR Tryz.underlying23 t1;have u2:=pN Tryz.underlying27 hw (j:=2) (u:=24) (d:=y2.1) rfl rfl;have t2:DataW.trod enc Tryz.prog w base spare held k 24 [v2]=some y2:=g2;obtain⟨a2,l2,c2,d2⟩:=tR Tryz.underlying24 t2;have u3:=pN Tryz.underlying27 hw (j:=3) (u:=25) (d:=y3.1) rfl rfl;have t3:DataW.trod enc Tryz.prog w base spare held k 25 [v3]=some y3:=g3;obtain⟨a3,l3,c3,d3⟩:=tR Tryz.underlying25 t3;subst d0;subst d1;subst d2;subst d3;obtain⟨hs,rfl,s2,s3,s4⟩:=ac0 t0 u0;obtain⟨fs,rfl,f2,f3,f4,f5⟩:=abb t1 u1;obtain⟨ls,rfl,m2,m3,m4,m5⟩:=aba t2 u2;obtain⟨ss,rfl,p2,p3,p4⟩:=aa9 t3 u3;exact⟨⟨hs,fs,ls,ss,hd⟩,⟨a0,c0,a1,c1,a2,c2,a3,c3⟩,rfl,⟨s2,f2,m2,p2⟩,⟨s3,f3,f4,m3,m4,p3,p4,i4⟩⟩
end
end Go.Proofs.YtpgifpeohlllfaaGreat
end Go.Proofs.YtpgifpeohlllfaaGreat
