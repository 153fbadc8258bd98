import Derived.Test.YtpgifpeohlllfaaGreatGT10
import Derived.OpenShut
set_option maxHeartbeats 20000000
set_option linter.unusedVariables false
set_option maxRecDepth 100000
set_option linter.unusedSimpArgs false
namespace Go.Proofs.YtpgifpeohlllfaaGreat
namespace W
open Go.RowKit Go.Deep
theorem sV:Tryz.prog.cellsOf 9=1:=by kernel_rfl
theorem cells3:Tryz.prog.cellsOf 3=1:=by kernel_rfl
theorem zR:Tryz.prog.cellsOf 4=1:=by kernel_rfl
theorem mN (n:Int) (h:(Lit.int .i64 n).wf=true):M.gu n:=CM.bounds n h
theorem qZ {w:World} {b o:Nat} {v:Value} (h:w.cell? (Ad b o)=some v):b<w.heap.size:=by
 rcases Nat.lt_or_ge b w.heap.size with g | g
 · exact g
 · have e:w.heap[b]?=none:=Array.getElem?_eq_none g;simp[World.cell?,e] at h
instance:Inhabited M.Sg:=⟨M.QS⟩
instance:Inhabited M.Sy:=⟨M.sy0⟩
instance:Inhabited M.Rl:=⟨M.rl0⟩
def OkW {H:Type} (t:TypeId) (d:DataW H):Prop:=∀n∈d.weights Tryz.prog t,n<=reachBytes
theorem pU {H:Type} {e:TypeId}:∀{l:List (DataW H)} {d:DataW H},d∈l->∀n∈d.weights Tryz.prog e,n∈DataW.weightsAll Tryz.prog e l
 | y::r,d,h,n,hn=>by
  simp only[DataW.weightsAll,List.mem_append];rcases List.mem_cons.1 h with h | h
  · subst h;exact .inl hn
  · exact .inr (pU h n hn)
theorem jF {H:Type} {t:TypeId} {b:List UInt8} (h:OkW (H:=H) t (.lit (.string b))):b.length<=reachBytes:=h _ (by simp[DataW.weights])
theorem kI {H:Type} {t e:TypeId} {el sp:List (DataW H)} (hu:Tryz.prog.underlying t=some (.slice e)) (h:OkW t (.slice el sp)):(el.length+sp.length)*Tryz.prog.bytesOf e<=reachBytes/\∀d∈el,OkW e d:=by
 refine⟨h _ (by simp[DataW.weights,hu]),fun d hd n hn=>h n ?_⟩;simp only[DataW.weights,hu,List.mem_cons,List.mem_append];exact .inr (.inl (pU hd n hn))
theorem ik {H:Type} {t:TypeId} {fs:Array Field} {ps:List (DataW H)} (hu:Tryz.prog.underlying t=some (.struct fs)) (h:OkW t (.agg ps)) {j:Nat} {u:TypeId} {d:DataW H} (ht:(fs.toList.map (·.type))[j]?=some u) (hd:ps[j]?=some d):OkW u d:=fun n hn=>h n (by
 simp only[DataW.weights,hu];exact DataW.weights_mem_each ht hd n hn)
section
variable {H:Type} {enc:TypeId×Value->H} {w:World} {base:Nat} {spare:Nat->Bool} {held:Bool}
theorem jg {t e:TypeId} {fuel:Nat} {v:Value} {x:DataW H×List MemPlace} (ht:Tryz.prog.underlying t=some (.slice e)) (h:DataW.trod enc Tryz.prog w base spare held fuel t [v]=some x):∃a len cap,v=.slice a len cap:=by
 rcases open_slice ht h with⟨hcs,_⟩ | ⟨a,len',cap',m,n,D,Pl,hcs,_⟩
 · simp at hcs;exact⟨_,_,_,hcs⟩
 · simp at hcs;exact⟨_,_,_,hcs⟩
end
end W
namespace LW
open Go.RowKit Go.Deep
open W (OkW jF kI ik jg qZ mN sV cells3)
theorem Ub:Tryz.prog.cellsOf 52=2:=by kernel_rfl
theorem T9:Tryz.prog.cellsOf 50=3:=by kernel_rfl
theorem Qo:Tryz.prog.cellsOf 48=1:=by kernel_rfl
theorem Qn:Tryz.prog.cellsOf 22=1:=by kernel_rfl
theorem Qr:Tryz.prog.cellsOf 28=1:=by kernel_rfl
theorem Ui:Tryz.prog.bytesOf 52=24:=by kernel_rfl
theorem Uh:Tryz.prog.bytesOf 50=48:=by kernel_rfl
theorem Ul:Tryz.prog.bytesOf 47=32:=by kernel_rfl
instance:Inhabited LM.Fx:=⟨LM.fx0⟩
instance:Inhabited LM.Sh:=⟨LM.MP⟩
section
variable {H:Type} {enc:TypeId×Value->H} {w:World} {base:Nat} {spare:Nat->Bool} {held:Bool}
theorem SV {n:Nat} {a:Addr} {cs:List Value} {x:DataW H×List MemPlace} (hc:w.cells? base a 2=some cs) (h:DataW.trod enc Tryz.prog w base spare held n 52 cs=some x) (hw:OkW 52 x.1) :
  ∃(x0:Int) (x1:ByteArray),(w.cell? (a.add 0)=some (I x0)/\M.gu x0)/\(w.cell? (a.add 1)=some (.string x1)/\M.bD x1.size):=by
 obtain⟨_,hlen,hcell⟩:=World.cells?_some hc;obtain⟨xs,k,hk,hxy,_,hxl,hf⟩:=DataW.trod_struct Tryz.underlying52 h;rw[hxy] at hw
 match cs,hlen with
 | [v0,v1],_ =>
  have g0:DataW.trod enc Tryz.prog w base spare held k 3 (([v0,v1].drop 0).take (Tryz.prog.cellsOf 3))=xs[0]?:=hf 0 _ rfl;have g1:DataW.trod enc Tryz.prog w base spare held k 9 (([v0,v1].drop 1).take (Tryz.prog.cellsOf 9))=xs[1]?:=hf 1 _ rfl;simp only[cells3,sV] at g0 g1;have e0:=hcell 0 (by omega);have e1:=hcell 1 (by omega)
  match xs,hxl with
  | [y0,y1],_ =>
   obtain⟨m0,c0,_,w0⟩:=DataW.trod_int Tryz.underlying3 (show DataW.trod enc Tryz.prog w base spare held k 3 [v0]=some y0 from g0);obtain⟨m1,c1,hx1,_⟩:=DataW.trod_string Tryz.underlying9 (show DataW.trod enc Tryz.prog w base spare held k 9 [v1]=some y1 from g1);have u1:=ik Tryz.underlying52 hw (j:=1) (u:=9) (d:=y1.1) rfl rfl;rw[hx1] at u1;have w1:M.bD m1.size:=by have:=jF u1;unfold M.bD;unfold reachBytes at this;rw[Lib.size_eq];exact this
   simp only[List.cons.injEq,and_true] at c0 c1;subst c0;subst c1;exact⟨m0,m1,⟨e0,mN _ w0⟩,⟨e1,w1⟩⟩
theorem Wa {fuel:Nat} {a0:Option Addr} {len cap:Nat} {x:DataW H×List MemPlace} (h:DataW.trod enc Tryz.prog w base spare held fuel 48 [.slice a0 len cap]=some x) (hw:OkW 48 x.1) :
  ∃l:List LM.Fx,l.length=len/\LM.oc w a0 l/\M.bD l.length/\∀k,k<l.length->LM.Ym (LM.mi l k):=by
 rcases open_slice Tryz.underlying48 h with⟨hcs,_⟩ | ⟨a,len',cap',m,n,D,Pl,hcs,hb,hl,hm,hmm,rfl,hx⟩
 · simp at hcs;obtain⟨rfl,rfl,rfl⟩:=hcs;exact⟨[],rfl,fun h=>absurd h (by simp),by unfold M.bD;simp,fun k hk=>absurd hk (by simp)⟩
 · simp at hcs;obtain⟨rfl,rfl,rfl⟩:=hcs;have hlm:len<=m:=by rw[hmm];split <;> omega
   obtain⟨hb1,hb2⟩:=kI Tryz.underlying48 hw;rw[Ui] at hb1;unfold reachBytes at hb1;have hlen:len<=140737488351232:=by simp at hb1;omega
   have each:∀i,i<len->∃y:LM.Fx,w.cell? (a.add (i*2+0))=some (I y.off)/\w.cell? (a.add (i*2+1))=some (.string y.bytes)/\LM.Ym y:=by
    intro i hi;obtain⟨cs',h1,h2⟩:=hx i (by omega);have hd:D i∈(List.range len).map D:=List.mem_map.2 ⟨i,List.mem_range.2 hi,rfl⟩;rw[Ub] at h1;obtain⟨x0,x1,⟨e0,z0⟩,⟨e1,z1⟩⟩:=SV h1 h2 (hb2 _ hd);simp only[add_add] at e0 e1;exact⟨⟨x0,x1⟩,e0,e1,⟨z0,z1⟩⟩
   obtain⟨g,hg⟩:=choose_lt each;have hat:∀i,i<len->LM.mi ((List.range len).map g) i=g i:=by
    intro i hi;simp[LM.mi,hi]
   refine⟨(List.range len).map g,by simp,fun h0=>?_,by unfold M.bD;simp;exact hlen,fun k hk=>?_⟩
   · have h0':0<len:=by simpa using h0
     obtain⟨b,off,spot⟩:=a;have hc:=(hg 0 h0').1;have hspot:spot=none:=by simpa [Addr.add] using World.cell?_spot hc
     subst hspot;rw[Addr.add_lit] at hc;refine⟨b,off,rfl,qZ hc,fun i hi=>?_⟩;have hi':i<len:=by simpa using hi
     rw[hat i hi'];obtain⟨e0,e1,_⟩:=hg i hi';simp only[Addr.add_lit] at e0 e1;exact⟨e0,by rw[Nat.add_assoc];exact e1⟩
   · have hi':k<len:=by simpa using hk
     rw[hat k hi'];obtain⟨_,_,f⟩:=hg k hi';exact f
theorem Gv {n:Nat} {v0 v1 v2:Value} {x:DataW H×List MemPlace} (h:DataW.trod enc Tryz.prog w base spare held n 50 [v0,v1,v2]=some x) (hw:OkW 50 x.1) :
  ∃s:LM.Sh,v0=I s.page/\v1=.string s.data/\v2=.slice s.ao s.bg.length s.cap/\LM.oc w s.ao s.bg/\LM.DF s:=by
 obtain⟨xs,k,hk,hxy,_,hxl,hf⟩:=DataW.trod_struct Tryz.underlying50 h;rw[hxy] at hw;have g0:DataW.trod enc Tryz.prog w base spare held k 3 (([v0,v1,v2].drop 0).take (Tryz.prog.cellsOf 3))=xs[0]?:=hf 0 _ rfl;have g1:DataW.trod enc Tryz.prog w base spare held k 9 (([v0,v1,v2].drop 1).take (Tryz.prog.cellsOf 9))=xs[1]?:=hf 1 _ rfl;have g2:DataW.trod enc Tryz.prog w base spare held k 48 (([v0,v1,v2].drop 2).take (Tryz.prog.cellsOf 48))=xs[2]?:=hf 2 _ rfl;simp only[cells3,sV,Qo] at g0 g1 g2
 match xs,hxl with
 | [y0,y1,y2],_ =>
  obtain⟨m0,c0,_,w0⟩:=DataW.trod_int Tryz.underlying3 (show DataW.trod enc Tryz.prog w base spare held k 3 [v0]=some y0 from g0);obtain⟨m1,c1,hx1,_⟩:=DataW.trod_string Tryz.underlying9 (show DataW.trod enc Tryz.prog w base spare held k 9 [v1]=some y1 from g1);have u1:=ik Tryz.underlying50 hw (j:=1) (u:=9) (d:=y1.1) rfl rfl;have u2:=ik Tryz.underlying50 hw (j:=2) (u:=48) (d:=y2.1) rfl rfl;rw[hx1] at u1;have w1:M.bD m1.size:=by have:=jF u1;unfold M.bD;unfold reachBytes at this;rw[Lib.size_eq];exact this
  have t2:DataW.trod enc Tryz.prog w base spare held k 48 [v2]=some y2:=g2;obtain⟨ao,ln,cp,d2⟩:=jg Tryz.underlying48 t2;subst d2;obtain⟨fs,n1,n2,n3,n4⟩:=Wa t2 u2;simp only[List.cons.injEq,and_true] at c0 c1;subst c0;subst c1;subst n1;exact⟨⟨m0,m1,fs,ao,cp⟩,rfl,rfl,rfl,n2,⟨mN _ w0,w1,n3,n4⟩⟩
end
section
variable {H:Type} {enc:TypeId×Value->H} {w:World} {base:Nat} {spare:Nat->Bool} {held:Bool}
theorem V9 {fuel:Nat} {a0:Option Addr} {len cap:Nat} {x:DataW H×List MemPlace} (h:DataW.trod enc Tryz.prog w base spare held fuel 22 [.slice a0 len cap]=some x) (hw:OkW 22 x.1) :
  ∃l:List LM.Sh,l.length=len/\LM.jb w a0 l/\LM.pH l/\len<=cap:=by
 rcases open_slice Tryz.underlying22 h with⟨hcs,_⟩ | ⟨a,len',cap',m,n,D,Pl,hcs,hb,hl,hm,hmm,rfl,hx⟩
 · simp at hcs;obtain⟨rfl,rfl,rfl⟩:=hcs;exact⟨[],rfl,fun h=>absurd h (by simp),⟨by unfold M.bD;simp,fun k hk=>absurd hk (by simp)⟩,Nat.le_refl _⟩
 · simp at hcs;obtain⟨rfl,rfl,rfl⟩:=hcs;have hlm:len<=m:=by rw[hmm];split <;> omega
   obtain⟨hb1,hb2⟩:=kI Tryz.underlying22 hw;rw[Uh] at hb1;unfold reachBytes at hb1;have hlen:len<=140737488351232:=by simp at hb1;omega
   have each:∀i,i<len->∃y:LM.Sh,w.cell? (a.add (i*3+0))=some (I y.page)/\w.cell? (a.add (i*3+1))=some (.string y.data)/\w.cell? (a.add (i*3+2))=some (.slice y.ao y.bg.length y.cap)/\LM.oc w y.ao y.bg/\LM.DF y:=by
    intro i hi;obtain⟨cs',h1,h2⟩:=hx i (by omega);have hd:D i∈(List.range len).map D:=List.mem_map.2 ⟨i,List.mem_range.2 hi,rfl⟩;rw[T9] at h1;obtain⟨_,hcl,hcell⟩:=World.cells?_some h1
    match cs',hcl with
    | [v0,v1,v2],_ =>
     obtain⟨s,e0,e1,e2,f1,f2⟩:=Gv h2 (hb2 _ hd);have q0:=hcell 0 (by omega);have q1:=hcell 1 (by omega);have q2:=hcell 2 (by omega);simp only[add_add] at q0 q1 q2;subst e0;subst e1;subst e2;exact⟨s,q0,q1,q2,f1,f2⟩
   obtain⟨g,hg⟩:=choose_lt each;have hat:∀i,i<len->LM.aY ((List.range len).map g) i=g i:=by
    intro i hi;simp[LM.aY,hi]
   refine⟨(List.range len).map g,by simp,fun h0=>?_,⟨by unfold M.bD;simp;exact hlen,fun k hk=>?_⟩,hl⟩
   · have h0':0<len:=by simpa using h0
     obtain⟨b,off,spot⟩:=a;have hc:=(hg 0 h0').1;have hspot:spot=none:=by simpa [Addr.add] using World.cell?_spot hc
     subst hspot;rw[Addr.add_lit] at hc;refine⟨b,off,rfl,qZ hc,fun i hi=>?_⟩;have hi':i<len:=by simpa using hi
     rw[hat i hi'];obtain⟨e0,e1,e2,e3,_⟩:=hg i hi';simp only[Addr.add_lit] at e0 e1 e2;exact⟨e0,by rw[Nat.add_assoc];exact e1,by rw[Nat.add_assoc];exact e2,e3⟩
   · have hi':k<len:=by simpa using hk
     rw[hat k hi'];obtain⟨_,_,_,_,f⟩:=hg k hi';exact f
end
end LW
namespace KA
open Go.RowKit Go.Deep
open W (OkW jF kI ik jg qZ mN sV cells3 zR)
open KW (aZ fh cK aI eB l8)
theorem Uc:Tryz.prog.cellsOf 40=4:=by kernel_rfl
theorem Qp:Tryz.prog.cellsOf 23=1:=by kernel_rfl
theorem Uj:0<Tryz.prog.bytesOf 40:=of_decide_eq_true (by kernel_rfl)
instance:Inhabited KM.Fr:=⟨KM.mz⟩
theorem T8:Tryz.prog.cellsOf 86=2:=by kernel_rfl
theorem Qm:Tryz.prog.cellsOf 24=1:=by kernel_rfl
theorem Ug:0<Tryz.prog.bytesOf 86:=of_decide_eq_true (by kernel_rfl)
instance:Inhabited KM.Sl:=⟨KM.xe⟩
theorem Ud:Tryz.prog.cellsOf 45=3:=by kernel_rfl
theorem Qq:Tryz.prog.cellsOf 41=1:=by kernel_rfl
theorem Uk:0<Tryz.prog.bytesOf 45:=of_decide_eq_true (by kernel_rfl)
instance:Inhabited KM.En:=⟨KM.js⟩
theorem T7:Tryz.prog.cellsOf 43=3:=by kernel_rfl
theorem Ql:Tryz.prog.cellsOf 25=1:=by kernel_rfl
theorem Uf:0<Tryz.prog.bytesOf 43:=of_decide_eq_true (by kernel_rfl)
instance:Inhabited KM.Sp:=⟨KM.uu⟩
theorem Ua:Tryz.prog.cellsOf 27=5:=by kernel_rfl
section
variable {H:Type} {enc:TypeId×Value->H} {w:World} {base:Nat} {spare:Nat->Bool} {held:Bool}
theorem qI {α:Type} [Inhabited α] {ts te:TypeId} {sz:Nat} (p:List Value->α->Prop) (hu:Tryz.prog.underlying ts=some (.slice te)) (hc:Tryz.prog.cellsOf te=sz) (hb8:0<Tryz.prog.bytesOf te) (hs0:0<sz)
  (elem:∀(n:Nat) (cs:List Value) (x:DataW H×List MemPlace),cs.length=sz->DataW.trod enc Tryz.prog w base spare held n te cs=some x->OkW te x.1->∃y,p cs y)
  {fuel:Nat} {a0:Option Addr} {len cap:Nat} {x:DataW H×List MemPlace} (h:DataW.trod enc Tryz.prog w base spare held fuel ts [.slice a0 len cap]=some x) (hw:OkW ts x.1) :
  len<=cap/\len<=140737488351232/\∃l:List α,l.length=len/\(0<len->∃b off,a0=some (Ad b off)/\b<w.heap.size/\∀i,i<len->∃cs:List Value,cs.length=sz/\p cs (l.getD i default)/\∀j,j<sz->w.cell? (Ad b (off+i*sz+j))=cs[j]?)/\∀i,i<len->∃cs,p cs (l.getD i default):=by
 rcases open_slice hu h with⟨hcs,_⟩ | ⟨a,len',cap',m,n,D,Pl,hcs,hb,hl,hm,hmm,rfl,hx⟩
 · simp at hcs;obtain⟨rfl,rfl,rfl⟩:=hcs;exact⟨Nat.le_refl _,by omega,[],rfl,fun h=>absurd h (by omega),fun i hi=>absurd hi (by omega)⟩
 · simp at hcs;obtain⟨rfl,rfl,rfl⟩:=hcs;have hlm:len<=m:=by rw[hmm];split <;> omega
   obtain⟨hb1,hb2⟩:=kI hu hw;unfold reachBytes at hb1;have hlen:len<=140737488351232:=by
    simp only[List.length_map,List.length_range] at hb1;have:=Nat.le_mul_of_pos_right (len+(m-len)) hb8;omega
   have each:∀i,i<len->∃y:α,∃cs:List Value,cs.length=sz/\p cs y/\∀j,j<sz->w.cell? (a.add (i*sz+j))=cs[j]?:=by
    intro i hi;obtain⟨cs',h1,h2⟩:=hx i (by omega);have hd:D i∈(List.range len).map D:=List.mem_map.2 ⟨i,List.mem_range.2 hi,rfl⟩;rw[hc] at h1;obtain⟨_,hcl,hcell⟩:=World.cells?_some h1;obtain⟨y,hy⟩:=elem n cs' _ hcl h2 (hb2 _ hd);refine⟨y,cs',hcl,hy,fun j hj=>?_⟩;have:=hcell j (by omega);simp only[add_add] at this;exact this
   obtain⟨g,hg⟩:=choose_lt each;have hat:∀i,i<len->((List.range len).map g).getD i default=g i:=by
    intro i hi;simp[hi]
   refine⟨hl,hlen,(List.range len).map g,by simp,fun h0=>?_,fun i hi=>?_⟩
   · obtain⟨b,off,spot⟩:=a;obtain⟨cs,e1,e2,e3⟩:=hg 0 h0;have hc0:=e3 0 hs0;rw[List.getElem?_eq_getElem (by omega)] at hc0;have hspot:spot=none:=by simpa [Addr.add] using World.cell?_spot hc0
     subst hspot;rw[Addr.add_lit] at hc0;refine⟨b,off,rfl,qZ hc0,fun i hi=>?_⟩;rw[hat i hi];obtain⟨cs,e1,e2,e3⟩:=hg i hi;refine⟨cs,e1,e2,fun j hj=>?_⟩;have:=e3 j hj;rw[Addr.add_lit,<- Nat.add_assoc] at this;exact this
   · rw[hat i hi];obtain⟨cs,_,e2,_⟩:=hg i hi;exact⟨cs,e2⟩
theorem qJ {fuel:Nat} {v:Value} {y:DataW H×List MemPlace} (h:DataW.trod enc Tryz.prog w base spare held fuel 3 [v]=some y):∃n:Int,v=I n/\M.gu n:=by
 obtain⟨n,c,_,wf⟩:=DataW.trod_int Tryz.underlying3 h;simp only[List.cons.injEq,and_true] at c;exact⟨n,c,mN _ wf⟩
def Zh (cs:List Value) (y:KM.Fr):Prop:=cs=[.string y.data,I y.refs,.bool y.cj,.bool y.seen]/\M.bD y.data.size/\M.gu y.refs
theorem Y6 (n:Nat) (cs:List Value) (x:DataW H×List MemPlace) (hl:cs.length=4) (h:DataW.trod enc Tryz.prog w base spare held n 40 cs=some x) (hw:OkW 40 x.1):∃y,Zh cs y:=by
 obtain⟨xs,k,hk,hxy,_,hxl,hf⟩:=DataW.trod_struct Tryz.underlying40 h;rw[hxy] at hw
 match cs,hl with
 | [v0,v1,v2,v3],_ =>
  have g0:DataW.trod enc Tryz.prog w base spare held k 9 (([v0,v1,v2,v3].drop 0).take (Tryz.prog.cellsOf 9))=xs[0]?:=hf 0 _ rfl;have g1:DataW.trod enc Tryz.prog w base spare held k 3 (([v0,v1,v2,v3].drop 1).take (Tryz.prog.cellsOf 3))=xs[1]?:=hf 1 _ rfl;have g2:DataW.trod enc Tryz.prog w base spare held k 4 (([v0,v1,v2,v3].drop 2).take (Tryz.prog.cellsOf 4))=xs[2]?:=hf 2 _ rfl;have g3:DataW.trod enc Tryz.prog w base spare held k 4 (([v0,v1,v2,v3].drop 3).take (Tryz.prog.cellsOf 4))=xs[3]?:=hf 3 _ rfl;simp only[cells3,zR,sV] at g0 g1 g2 g3
  match xs,hxl with
  | [y0,y1,y2,y3],_ =>
   obtain⟨m0,c0,hx0,_⟩:=DataW.trod_string Tryz.underlying9 (show DataW.trod enc Tryz.prog w base spare held k 9 [v0]=some y0 from g0);have u0:=ik Tryz.underlying40 hw (j:=0) (u:=9) (d:=y0.1) rfl rfl;rw[hx0] at u0;have w0:M.bD m0.size:=by have:=jF u0;unfold M.bD;unfold reachBytes at this;rw[Lib.size_eq];exact this
   simp only[List.cons.injEq,and_true] at c0;subst c0;obtain⟨m1,rfl,w1⟩:=qJ (show DataW.trod enc Tryz.prog w base spare held k 3 [v1]=some y1 from g1);obtain⟨m2,c2,_⟩:=DataW.trod_bool Tryz.underlying4 (show DataW.trod enc Tryz.prog w base spare held k 4 [v2]=some y2 from g2);simp only[List.cons.injEq,and_true] at c2;subst c2;obtain⟨m3,c3,_⟩:=DataW.trod_bool Tryz.underlying4 (show DataW.trod enc Tryz.prog w base spare held k 4 [v3]=some y3 from g3);simp only[List.cons.injEq,and_true] at c3;subst c3;exact⟨⟨m0,m1,m2,m3⟩,rfl,w0,w1⟩
theorem SS {fuel:Nat} {a0:Option Addr} {len cap:Nat} {x:DataW H×List MemPlace} (h:DataW.trod enc Tryz.prog w base spare held fuel 23 [.slice a0 len cap]=some x) (hw:OkW 23 x.1) :
  ∃l:List KM.Fr,l.length=len/\aZ KW.bJ 4 KM.mz w a0 l/\M.bD l.length/\(∀k,k<l.length->M.bD (KM.aH l k).data.size/\M.gu (KM.aH l k).refs)/\len<=cap:=by
 obtain⟨h1,h2,l,h3,h4,h5⟩:=qI Zh Tryz.underlying23 Uc Uj (by decide) Y6 h hw;subst h3;refine⟨l,rfl,fun h0=>?_,h2,fun k hk=>?_,h1⟩
 · obtain⟨b,off,e1,e2,e3⟩:=h4 h0;refine⟨b,off,e1,e2,fun i hi=>?_⟩;obtain⟨cs,_,⟨rfl,_⟩,q⟩:=e3 i hi;exact q
 · obtain⟨cs,_,q⟩:=h5 k hk;exact q
def OU (cs:List Value) (y:KM.Sl):Prop:=cs=[.string y.data,I y.refs]/\M.bD y.data.size/\M.gu y.refs
theorem Y5 (n:Nat) (cs:List Value) (x:DataW H×List MemPlace) (hl:cs.length=2) (h:DataW.trod enc Tryz.prog w base spare held n 86 cs=some x) (hw:OkW 86 x.1):∃y,OU cs y:=by
 obtain⟨xs,k,hk,hxy,_,hxl,hf⟩:=DataW.trod_struct Tryz.underlying86 h;rw[hxy] at hw
 match cs,hl with
 | [v0,v1],_ =>
  have g0:DataW.trod enc Tryz.prog w base spare held k 9 (([v0,v1].drop 0).take (Tryz.prog.cellsOf 9))=xs[0]?:=hf 0 _ rfl;have g1:DataW.trod enc Tryz.prog w base spare held k 3 (([v0,v1].drop 1).take (Tryz.prog.cellsOf 3))=xs[1]?:=hf 1 _ rfl;simp only[cells3,sV] at g0 g1
  match xs,hxl with
  | [y0,y1],_ =>
   obtain⟨m0,c0,hx0,_⟩:=DataW.trod_string Tryz.underlying9 (show DataW.trod enc Tryz.prog w base spare held k 9 [v0]=some y0 from g0);have u0:=ik Tryz.underlying86 hw (j:=0) (u:=9) (d:=y0.1) rfl rfl;rw[hx0] at u0;have w0:M.bD m0.size:=by have:=jF u0;unfold M.bD;unfold reachBytes at this;rw[Lib.size_eq];exact this
   simp only[List.cons.injEq,and_true] at c0;subst c0;obtain⟨m1,rfl,w1⟩:=qJ (show DataW.trod enc Tryz.prog w base spare held k 3 [v1]=some y1 from g1);exact⟨⟨m0,m1⟩,rfl,w0,w1⟩
theorem SP {fuel:Nat} {a0:Option Addr} {len cap:Nat} {x:DataW H×List MemPlace} (h:DataW.trod enc Tryz.prog w base spare held fuel 24 [.slice a0 len cap]=some x) (hw:OkW 24 x.1) :
  ∃l:List KM.Sl,l.length=len/\aZ KW.bI 2 KM.xe w a0 l/\M.bD l.length/\(∀k,k<l.length->M.bD (KM.bj l k).data.size/\M.gu (KM.bj l k).refs)/\len<=cap:=by
 obtain⟨h1,h2,l,h3,h4,h5⟩:=qI OU Tryz.underlying24 T8 Ug (by decide) Y5 h hw;subst h3;refine⟨l,rfl,fun h0=>?_,h2,fun k hk=>?_,h1⟩
 · obtain⟨b,off,e1,e2,e3⟩:=h4 h0;refine⟨b,off,e1,e2,fun i hi=>?_⟩;obtain⟨cs,_,⟨rfl,_⟩,q⟩:=e3 i hi;exact q
 · obtain⟨cs,_,q⟩:=h5 k hk;exact q
def Zi (cs:List Value) (y:KM.En):Prop:=cs=[I y.page,I y.kind,I y.loc]/\M.gu y.page/\M.gu y.kind/\M.gu y.loc
theorem Y7 (n:Nat) (cs:List Value) (x:DataW H×List MemPlace) (hl:cs.length=3) (h:DataW.trod enc Tryz.prog w base spare held n 45 cs=some x) (hw:OkW 45 x.1):∃y,Zi cs y:=by
 obtain⟨xs,k,hk,hxy,_,hxl,hf⟩:=DataW.trod_struct Tryz.underlying45 h;rw[hxy] at hw
 match cs,hl with
 | [v0,v1,v2],_ =>
  have g0:DataW.trod enc Tryz.prog w base spare held k 3 (([v0,v1,v2].drop 0).take (Tryz.prog.cellsOf 3))=xs[0]?:=hf 0 _ rfl;have g1:DataW.trod enc Tryz.prog w base spare held k 3 (([v0,v1,v2].drop 1).take (Tryz.prog.cellsOf 3))=xs[1]?:=hf 1 _ rfl;have g2:DataW.trod enc Tryz.prog w base spare held k 3 (([v0,v1,v2].drop 2).take (Tryz.prog.cellsOf 3))=xs[2]?:=hf 2 _ rfl;simp only[cells3] at g0 g1 g2
  match xs,hxl with
  | [y0,y1,y2],_ =>
   obtain⟨m0,rfl,w0⟩:=qJ (show DataW.trod enc Tryz.prog w base spare held k 3 [v0]=some y0 from g0);obtain⟨m1,rfl,w1⟩:=qJ (show DataW.trod enc Tryz.prog w base spare held k 3 [v1]=some y1 from g1);obtain⟨m2,rfl,w2⟩:=qJ (show DataW.trod enc Tryz.prog w base spare held k 3 [v2]=some y2 from g2);exact⟨⟨m0,m1,m2⟩,rfl,w0,w1,w2⟩
theorem SU {fuel:Nat} {a0:Option Addr} {len cap:Nat} {x:DataW H×List MemPlace} (h:DataW.trod enc Tryz.prog w base spare held fuel 41 [.slice a0 len cap]=some x) (hw:OkW 41 x.1) :
  ∃l:List KM.En,l.length=len/\aZ KW.aK 3 KM.js w a0 l/\M.bD l.length/\(∀k,k<l.length->M.gu (KM.aM l k).page/\M.gu (KM.aM l k).kind/\M.gu (KM.aM l k).loc)/\len<=cap:=by
 obtain⟨h1,h2,l,h3,h4,h5⟩:=qI Zi Tryz.underlying41 Ud Uk (by decide) Y7 h hw;subst h3;refine⟨l,rfl,fun h0=>?_,h2,fun k hk=>?_,h1⟩
 · obtain⟨b,off,e1,e2,e3⟩:=h4 h0;refine⟨b,off,e1,e2,fun i hi=>?_⟩;obtain⟨cs,_,⟨rfl,_⟩,q⟩:=e3 i hi;exact q
 · obtain⟨cs,_,q⟩:=h5 k hk;exact q
def Zg (w:World) (cs:List Value) (y:KM.Sp):Prop:=∃va ap cp,cs=[.bool y.live,va,.slice ap y.aA.length cp]/\AW.Has w va y.aB/\aZ KW.aK 3 KM.js w ap y.aA/\y.aA.length<=cp/\l8 y
theorem Y4 (n:Nat) (cs:List Value) (x:DataW H×List MemPlace) (hl:cs.length=3) (h:DataW.trod enc Tryz.prog w base spare held n 43 cs=some x) (hw:OkW 43 x.1):∃y,Zg w cs y:=by
 obtain⟨xs,k,hk,hxy,_,hxl,hf⟩:=DataW.trod_struct Tryz.underlying43 h;rw[hxy] at hw
 match cs,hl with
 | [v0,v1,v2],_ =>
  have g0:DataW.trod enc Tryz.prog w base spare held k 4 (([v0,v1,v2].drop 0).take (Tryz.prog.cellsOf 4))=xs[0]?:=hf 0 _ rfl;have g1:DataW.trod enc Tryz.prog w base spare held k 28 (([v0,v1,v2].drop 1).take (Tryz.prog.cellsOf 28))=xs[1]?:=hf 1 _ rfl;have g2:DataW.trod enc Tryz.prog w base spare held k 41 (([v0,v1,v2].drop 2).take (Tryz.prog.cellsOf 41))=xs[2]?:=hf 2 _ rfl;simp only[zR,LW.Qr,Qq] at g0 g1 g2
  match xs,hxl with
  | [y0,y1,y2],_ =>
   obtain⟨lv,c0,_⟩:=DataW.trod_bool Tryz.underlying4 (show DataW.trod enc Tryz.prog w base spare held k 4 [v0]=some y0 from g0);have u1:=ik Tryz.underlying43 hw (j:=1) (u:=28) (d:=y1.1) rfl rfl;have u2:=ik Tryz.underlying43 hw (j:=2) (u:=41) (d:=y2.1) rfl rfl;have t1:DataW.trod enc Tryz.prog w base spare held k 28 [v1]=some y1:=g1;have t2:DataW.trod enc Tryz.prog w base spare held k 41 [v2]=some y2:=g2;obtain⟨av,lvn,cv,d1⟩:=jg Tryz.underlying28 t1;obtain⟨ap,lp,cp,d2⟩:=jg Tryz.underlying41 t2;subst d1;subst d2;obtain⟨l,n1,n2,n3,n4⟩:=AW.Hc t1;obtain⟨ps,s1,s2,s3,s4,s5⟩:=SU t2 u2;simp only[List.cons.injEq,and_true] at c0;subst c0;subst s1;refine⟨⟨lv,l,ps⟩,_,ap,cp,rfl,n2,s2,s5,⟨n3,?_⟩,s3,s4⟩;rw[n1];rcases n4 with e | ⟨el,sp,e1,e2⟩
   · omega
   · rw[e1] at u1;have hb:=(kI Tryz.underlying28 u1).1;rw[LW.Ul,e2] at hb;unfold reachBytes at hb;omega
theorem SN {fuel:Nat} {a0:Option Addr} {len cap:Nat} {x:DataW H×List MemPlace} (h:DataW.trod enc Tryz.prog w base spare held fuel 25 [.slice a0 len cap]=some x) (hw:OkW 25 x.1) :
  ∃l:List KM.Sp,l.length=len/\KW.kj w a0 l/\M.bD l.length/\∀k,k<l.length->l8 (KM.au l k):=by
 obtain⟨h1,h2,l,h3,h4,h5⟩:=qI (Zg w) Tryz.underlying25 T7 Uf (by decide) Y4 h hw;subst h3;refine⟨l,rfl,fun h0=>?_,h2,fun k hk=>?_⟩
 · obtain⟨b,off,e1,e2,e3⟩:=h4 h0;refine⟨b,off,e1,e2,fun i hi=>?_⟩;obtain⟨cs,_,⟨va,ap,cp,rfl,r1,r2,r3,_⟩,q⟩:=e3 i hi;exact⟨va,ap,cp,q 0 (by decide),q 1 (by decide),q 2 (by decide),r1,r2,r3⟩
 · obtain⟨cs,_,_,_,_,_,_,_,q⟩:=h5 k hk;exact q
theorem EK {fuel:Nat} {cs:List Value} {x:DataW H×List MemPlace} (h:DataW.trod enc Tryz.prog w base spare held fuel 27 cs=some x) (hw:OkW 27 x.1) :
  ∃(k:KM.Kn) (a:fh),cs=(aI a k).toList/\cK w a k/\eB k:=by
 obtain⟨xs,k,hk,hxy,hcl,hxl,hf⟩:=DataW.trod_struct Tryz.underlying27 h;rw[hxy] at hw;rw[Ua] at hcl
 match cs,hcl with
 | [v0,v1,v2,v3,v4],_ =>
  have g0:DataW.trod enc Tryz.prog w base spare held k 22 (([v0,v1,v2,v3,v4].drop 0).take (Tryz.prog.cellsOf 22))=xs[0]?:=hf 0 _ rfl;have g1:DataW.trod enc Tryz.prog w base spare held k 23 (([v0,v1,v2,v3,v4].drop 1).take (Tryz.prog.cellsOf 23))=xs[1]?:=hf 1 _ rfl;have g2:DataW.trod enc Tryz.prog w base spare held k 24 (([v0,v1,v2,v3,v4].drop 2).take (Tryz.prog.cellsOf 24))=xs[2]?:=hf 2 _ rfl;have g3:DataW.trod enc Tryz.prog w base spare held k 25 (([v0,v1,v2,v3,v4].drop 3).take (Tryz.prog.cellsOf 25))=xs[3]?:=hf 3 _ rfl;have g4:DataW.trod enc Tryz.prog w base spare held k 3 (([v0,v1,v2,v3,v4].drop 4).take (Tryz.prog.cellsOf 3))=xs[4]?:=hf 4 _ rfl;simp only[cells3,LW.Qn,Qp,Qm,Ql] at g0 g1 g2 g3 g4
  match xs,hxl with
  | [y0,y1,y2,y3,y4],_ =>
   obtain⟨hd,rfl,i4⟩:=qJ (show DataW.trod enc Tryz.prog w base spare held k 3 [v4]=some y4 from g4);have u0:=ik Tryz.underlying27 hw (j:=0) (u:=22) (d:=y0.1) rfl rfl;have t0:DataW.trod enc Tryz.prog w base spare held k 22 [v0]=some y0:=g0;obtain⟨a0,l0,c0,d0⟩:=jg Tryz.underlying22 t0;have u1:=ik Tryz.underlying27 hw (j:=1) (u:=23) (d:=y1.1) rfl rfl;have t1:DataW.trod enc Tryz.prog w base spare held k 23 [v1]=some y1:=g1;obtain⟨a1,l1,c1,d1⟩:=jg Tryz.underlying23 t1;have u2:=ik Tryz.underlying27 hw (j:=2) (u:=24) (d:=y2.1) rfl rfl;have t2:DataW.trod enc Tryz.prog w base spare held k 24 [v2]=some y2:=g2;obtain⟨a2,l2,c2,d2⟩:=jg Tryz.underlying24 t2;have u3:=ik Tryz.underlying27 hw (j:=3) (u:=25) (d:=y3.1) rfl rfl;have t3:DataW.trod enc Tryz.prog w base spare held k 25 [v3]=some y3:=g3;obtain⟨a3,l3,c3,d3⟩:=jg Tryz.underlying25 t3;subst d0;subst d1;subst d2;subst d3;obtain⟨hs,rfl,s2,s3,s4⟩:=LW.V9 t0 u0;obtain⟨fs,rfl,f2,f3,f4,f5⟩:=SS t1 u1;obtain⟨ls,rfl,m2,m3,m4,m5⟩:=SP t2 u2;obtain⟨ss,rfl,p2,p3,p4⟩:=SN t3 u3;exact⟨⟨hs,fs,ls,ss,hd⟩,⟨a0,c0,a1,c1,a2,c2,a3,c3⟩,rfl,⟨s2,f2,m2,p2⟩,⟨s3,f3,f4,m3,m4,p3,p4,i4⟩⟩
end
end KA
end Go.Proofs.YtpgifpeohlllfaaGreat
