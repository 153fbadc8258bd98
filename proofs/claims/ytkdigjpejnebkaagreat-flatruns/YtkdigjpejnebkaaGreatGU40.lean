import Derived.Test.YtkdigjpejnebkaaGreatGU00
import Derived.Test.YtkdigjpejnebkaaGreatGU39
import Derived.Test.YtkdigjpejnebkaaGreatGU04
import Derived.Test.YtkdigjpejnebkaaGreatGU23
import Derived.OpenShut
set_option maxHeartbeats 20000000
set_option linter.unusedVariables false
set_option maxRecDepth 100000
set_option linter.unusedSimpArgs false
namespace Go.Proofs.YtkdigjpejnebkaaGreat
namespace GA
open Go.RowKit Go.Deep
open W (OkW rh pX mo lB BJ rz GC mO yb)
theorem Rb:Tryz.prog.cellsOf 65=2:=by kernel_rfl
theorem Q8:Tryz.prog.cellsOf 53=3:=by kernel_rfl
theorem Rc:Tryz.prog.cellsOf 30=4:=by kernel_rfl
theorem Ra:Tryz.prog.cellsOf 70=13:=by kernel_rfl
theorem Q7:Tryz.prog.cellsOf 78=2:=by kernel_rfl
theorem N9:Tryz.prog.cellsOf 51=1:=by kernel_rfl
theorem N7:Tryz.prog.cellsOf 26=1:=by kernel_rfl
theorem N8:Tryz.prog.cellsOf 27=1:=by kernel_rfl
theorem N6:Tryz.prog.cellsOf 28=1:=by kernel_rfl
theorem Oa:Tryz.prog.cellsOf 22=1:=by kernel_rfl
theorem Q9:Tryz.prog.cellsOf 66=8:=by kernel_rfl
theorem Re:Tryz.prog.cellsOf 68=2:=by kernel_rfl
theorem Rk:0<Tryz.prog.bytesOf 65:=of_decide_eq_true (by kernel_rfl)
theorem Ri:0<Tryz.prog.bytesOf 53:=of_decide_eq_true (by kernel_rfl)
theorem Rj:0<Tryz.prog.bytesOf 70:=of_decide_eq_true (by kernel_rfl)
theorem Rh:0<Tryz.prog.bytesOf 78:=of_decide_eq_true (by kernel_rfl)
theorem Rm:Tryz.prog.bytesOf 59=32:=by kernel_rfl
instance:Inhabited FM.Pg:=⟨FM.yE⟩
instance:Inhabited FM.Sp:=⟨FM.E0⟩
instance:Inhabited FM.Wd:=⟨FM.Z7⟩
instance:Inhabited PM.Pr:=⟨FM.vV⟩
section
variable {H:Type} {enc:TypeId×Value->H} {w:World} {base:Nat} {spare:Nat->Bool} {held:Bool}
theorem ng {α:Type} [Inhabited α] {ts te:TypeId} {sz:Nat} (p:List Value->α->Prop) (hu:Tryz.prog.underlying ts=some (.slice te)) (hc:Tryz.prog.cellsOf te=sz) (UO:0<Tryz.prog.bytesOf te) (hs0:0<sz)
  (elem:∀(n:Nat) (cs:List Value) (x:DataW H×List MemPlace),cs.length=sz->DataW.trod enc Tryz.prog w base spare held n te cs=some x->OkW te x.1->∃y,p cs y)
  {fuel:Nat} {a0:Option Addr} {len cap:Nat} {x:DataW H×List MemPlace} (h:DataW.trod enc Tryz.prog w base spare held fuel ts [.slice a0 len cap]=some x) (hw:OkW ts x.1) :
  len<=cap/\len<=140737488351232/\∃l:List α,l.length=len/\(0<len->∃b off,a0=some (Ad b off)/\b<w.heap.size/\∀i,i<len->∃cs:List Value,cs.length=sz/\p cs (l.getD i default)/\∀j,j<sz->w.cell? (Ad b (off+i*sz+j))=cs[j]?)/\∀i,i<len->∃cs,p cs (l.getD i default):=by
 rcases open_slice hu h with⟨hcs,_⟩ | ⟨a,len',cap',m,n,D,Pl,hcs,hb,hl,hm,hmm,rfl,hx⟩
 · simp at hcs
   obtain⟨rfl,rfl,rfl⟩:=hcs
   exact⟨Nat.le_refl _,by omega,[],rfl,fun h=>absurd h (by omega),fun i hi=>absurd hi (by omega)⟩
 · simp at hcs
   obtain⟨rfl,rfl,rfl⟩:=hcs
   have hlm:len<=m:=by rw[hmm];split <;> omega
   obtain⟨hb1,hb2⟩:=pX hu hw
   unfold reachBytes at hb1
   have hlen:len<=140737488351232:=by
    simp only[List.length_map,List.length_range] at hb1
    have:=Nat.le_mul_of_pos_right (len+(m-len)) UO
    omega
   have each:∀i,i<len->∃y:α,∃cs:List Value,cs.length=sz/\p cs y/\∀j,j<sz->w.cell? (a.add (i*sz+j))=cs[j]?:=by
    intro i hi
    obtain⟨cs',h1,h2⟩:=hx i (by omega)
    have hd:D i∈(List.range len).map D:=List.mem_map.2 ⟨i,List.mem_range.2 hi,rfl⟩
    rw[hc] at h1
    obtain⟨_,hcl,hcell⟩:=World.cells?_some h1
    obtain⟨y,hy⟩:=elem n cs' _ hcl h2 (hb2 _ hd)
    refine⟨y,cs',hcl,hy,fun j hj=>?_⟩
    have:=hcell j (by omega)
    simp only[add_add] at this
    exact this
   obtain⟨g,hg⟩:=choose_lt each
   have hat:∀i,i<len->((List.range len).map g).getD i default=g i:=by
    intro i hi
    simp[hi]
   refine⟨hl,hlen,(List.range len).map g,by simp,fun h0=>?_,fun i hi=>?_⟩
   · obtain⟨b,off,spot⟩:=a
     obtain⟨cs,e1,e2,e3⟩:=hg 0 h0
     have hc0:=e3 0 hs0
     rw[List.getElem?_eq_getElem (by omega)] at hc0
     have hspot:spot=none:=by simpa [Addr.add] using World.cell?_spot hc0
     subst hspot
     rw[Addr.add_lit] at hc0
     refine⟨b,off,rfl,BJ hc0,fun i hi=>?_⟩
     rw[hat i hi]
     obtain⟨cs,e1,e2,e3⟩:=hg i hi
     refine⟨cs,e1,e2,fun j hj=>?_⟩
     have:=e3 j hj
     rw[Addr.add_lit,<- Nat.add_assoc] at this
     exact this
   · rw[hat i hi]
     obtain⟨cs,_,e2,_⟩:=hg i hi
     exact⟨cs,e2⟩
theorem fe {fuel:Nat} {v:Value} {y:DataW H×List MemPlace} (h:DataW.trod enc Tryz.prog w base spare held fuel 3 [v]=some y):∃n:Int,v=I n/\M.dF n:=by
 obtain⟨n,c,_,wf⟩:=DataW.trod_int Tryz.underlying3 h
 simp only[List.cons.injEq,and_true] at c
 exact⟨n,c,rz _ wf⟩
def Xo (cs:List Value) (y:FM.Pg):Prop:=cs=[I y.page,.string y.data]/\M.dF y.page/\M.bD y.data.size
theorem Mx (n:Nat) (cs:List Value) (x:DataW H×List MemPlace) (hl:cs.length=2) (h:DataW.trod enc Tryz.prog w base spare held n 65 cs=some x) (hw:OkW 65 x.1):∃y,Xo cs y:=by
 obtain⟨xs,k,hk,hxy,_,hxl,hf⟩:=DataW.trod_struct Tryz.underlying65 h
 rw[hxy] at hw
 match cs,hl with
 | [v0,v1],_ =>
  have g0:DataW.trod enc Tryz.prog w base spare held k 3 (([v0,v1].drop 0).take (Tryz.prog.cellsOf 3))=xs[0]?:=hf 0 _ rfl
  have g1:DataW.trod enc Tryz.prog w base spare held k 9 (([v0,v1].drop 1).take (Tryz.prog.cellsOf 9))=xs[1]?:=hf 1 _ rfl
  simp only[mO,GC] at g0 g1
  match xs,hxl with
  | [y0,y1],_ =>
   obtain⟨m0,rfl,w0⟩:=fe (show DataW.trod enc Tryz.prog w base spare held k 3 [v0]=some y0 from g0)
   obtain⟨m1,c1,hx1,_⟩:=DataW.trod_string Tryz.underlying9 (show DataW.trod enc Tryz.prog w base spare held k 9 [v1]=some y1 from g1)
   have u1:=mo Tryz.underlying65 hw (j:=1) (u:=9) (d:=y1.1) rfl rfl
   rw[hx1] at u1
   have w1:M.bD m1.size:=by have:=rh u1;unfold M.bD;unfold reachBytes at this;rw[Lib.size_eq];exact this
   simp only[List.cons.injEq,and_true] at c1
   subst c1
   exact⟨⟨m0,m1⟩,rfl,w0,w1⟩
theorem Fz {fuel:Nat} {a0:Option Addr} {len cap:Nat} {x:DataW H×List MemPlace} (h:DataW.trod enc Tryz.prog w base spare held fuel 51 [.slice a0 len cap]=some x) (hw:OkW 51 x.1) :
  ∃l:List FM.Pg,l.length=len/\FW.iL w a0 l/\M.bD l.length/\(∀k,k<l.length->M.dF (FM.aN l k).page/\M.bD (FM.aN l k).data.size)/\len<=cap:=by
 obtain⟨h1,h2,l,h3,h4,h5⟩:=ng Xo Tryz.underlying51 Rb Rk (by decide) Mx h hw
 subst h3
 refine⟨l,rfl,fun h0=>?_,h2,fun k hk=>?_,h1⟩
 · obtain⟨b,off,e1,e2,e3⟩:=h4 h0
   refine⟨b,off,e1,e2,fun i hi=>?_⟩
   obtain⟨cs,_,⟨rfl,_⟩,q⟩:=e3 i hi
   exact⟨q 0 (by decide),q 1 (by decide)⟩
 · obtain⟨cs,_,q⟩:=h5 k hk
   exact q
def Xl (cs:List Value) (y:FM.Wd):Prop:=cs=[I y.proc,I y.value]
theorem Mv (n:Nat) (cs:List Value) (x:DataW H×List MemPlace) (hl:cs.length=2) (h:DataW.trod enc Tryz.prog w base spare held n 78 cs=some x) (hw:OkW 78 x.1):∃y,Xl cs y:=by
 obtain⟨xs,k,hk,hxy,_,hxl,hf⟩:=DataW.trod_struct Tryz.underlying78 h
 match cs,hl with
 | [v0,v1],_ =>
  have g0:DataW.trod enc Tryz.prog w base spare held k 3 (([v0,v1].drop 0).take (Tryz.prog.cellsOf 3))=xs[0]?:=hf 0 _ rfl
  have g1:DataW.trod enc Tryz.prog w base spare held k 3 (([v0,v1].drop 1).take (Tryz.prog.cellsOf 3))=xs[1]?:=hf 1 _ rfl
  simp only[mO] at g0 g1
  match xs,hxl with
  | [y0,y1],_ =>
   obtain⟨m0,rfl,_⟩:=fe (show DataW.trod enc Tryz.prog w base spare held k 3 [v0]=some y0 from g0)
   obtain⟨m1,rfl,_⟩:=fe (show DataW.trod enc Tryz.prog w base spare held k 3 [v1]=some y1 from g1)
   exact⟨⟨m0,m1⟩,rfl⟩
theorem Fw {fuel:Nat} {a0:Option Addr} {len cap:Nat} {x:DataW H×List MemPlace} (h:DataW.trod enc Tryz.prog w base spare held fuel 28 [.slice a0 len cap]=some x) (hw:OkW 28 x.1) :
  ∃l:List FM.Wd,l.length=len/\FW.yt w a0 l/\M.bD l.length:=by
 obtain⟨h1,h2,l,h3,h4,h5⟩:=ng Xl Tryz.underlying28 Q7 Rh (by decide) Mv h hw
 subst h3
 refine⟨l,rfl,fun h0=>?_,h2⟩
 obtain⟨b,off,e1,e2,e3⟩:=h4 h0
 refine⟨b,off,e1,e2,fun i hi=>?_⟩
 obtain⟨cs,_,rfl,q⟩:=e3 i hi
 exact⟨q 0 (by decide),q 1 (by decide)⟩
def Xn (cs:List Value) (y:PM.Pr):Prop:=cs=y.row.toList/\GG.oc y
theorem Mw (n:Nat) (cs:List Value) (x:DataW H×List MemPlace) (hl:cs.length=13) (h:DataW.trod enc Tryz.prog w base spare held n 70 cs=some x) (hw:OkW 70 x.1):∃y,Xn cs y:=by
 obtain⟨xs,k,hk,hxy,_,hxl,hf⟩:=DataW.trod_struct Tryz.underlying70 h
 match cs,hl with
 | [v0,v1,v2,v3,v4,v5,v6,v7,v8,v9,v10,v11,v12],_ =>
  have g0:DataW.trod enc Tryz.prog w base spare held k 66 (([v0,v1,v2,v3,v4,v5,v6,v7,v8,v9,v10,v11,v12].drop 0).take (Tryz.prog.cellsOf 66))=xs[0]?:=hf 0 _ rfl
  have g1:DataW.trod enc Tryz.prog w base spare held k 3 (([v0,v1,v2,v3,v4,v5,v6,v7,v8,v9,v10,v11,v12].drop 8).take (Tryz.prog.cellsOf 3))=xs[1]?:=hf 1 _ rfl
  have g2:DataW.trod enc Tryz.prog w base spare held k 3 (([v0,v1,v2,v3,v4,v5,v6,v7,v8,v9,v10,v11,v12].drop 9).take (Tryz.prog.cellsOf 3))=xs[2]?:=hf 2 _ rfl
  have g3:DataW.trod enc Tryz.prog w base spare held k 3 (([v0,v1,v2,v3,v4,v5,v6,v7,v8,v9,v10,v11,v12].drop 10).take (Tryz.prog.cellsOf 3))=xs[3]?:=hf 3 _ rfl
  have g4:DataW.trod enc Tryz.prog w base spare held k 68 (([v0,v1,v2,v3,v4,v5,v6,v7,v8,v9,v10,v11,v12].drop 11).take (Tryz.prog.cellsOf 68))=xs[4]?:=hf 4 _ rfl
  simp only[mO,Q9,Re] at g0 g1 g2 g3 g4
  match xs,hxl with
  | [y0,y1,y2,y3,y4],_ =>
   obtain⟨n8,rfl,i8⟩:=fe (show DataW.trod enc Tryz.prog w base spare held k 3 [v8]=some y1 from g1)
   obtain⟨n9,rfl,_⟩:=fe (show DataW.trod enc Tryz.prog w base spare held k 3 [v9]=some y2 from g2)
   obtain⟨n10,rfl,_⟩:=fe (show DataW.trod enc Tryz.prog w base spare held k 3 [v10]=some y3 from g3)
   have t0:DataW.trod enc Tryz.prog w base spare held k 66 [v0,v1,v2,v3,v4,v5,v6,v7]=some y0:=g0
   have t4:DataW.trod enc Tryz.prog w base spare held k 68 [v11,v12]=some y4:=g4
   obtain⟨az,ka,_,_,_,hal,ha⟩:=DataW.trod_array Tryz.underlying66 t0
   obtain⟨fs,kf,_,_,_,hfl,S6⟩:=DataW.trod_struct Tryz.underlying68 t4
   have f0:DataW.trod enc Tryz.prog w base spare held kf 3 (([v11,v12].drop 0).take (Tryz.prog.cellsOf 3))=fs[0]?:=S6 0 _ rfl
   have f1:DataW.trod enc Tryz.prog w base spare held kf 3 (([v11,v12].drop 1).take (Tryz.prog.cellsOf 3))=fs[1]?:=S6 1 _ rfl
   simp only[mO] at f0 f1 ha
   match fs,hfl with
   | [q0,q1],_ =>
    obtain⟨n11,rfl,_⟩:=fe (show DataW.trod enc Tryz.prog w base spare held kf 3 [v11]=some q0 from f0)
    obtain⟨n12,rfl,_⟩:=fe (show DataW.trod enc Tryz.prog w base spare held kf 3 [v12]=some q1 from f1)
    match az,hal with
    | [a0,a1,a2,a3,a4,a5,a6,a7],_ =>
     obtain⟨n0,rfl,i0⟩:=fe (show DataW.trod enc Tryz.prog w base spare held ka 3 [v0]=some a0 from ha 0 (by omega))
     obtain⟨n1,rfl,i1⟩:=fe (show DataW.trod enc Tryz.prog w base spare held ka 3 [v1]=some a1 from ha 1 (by omega))
     obtain⟨n2,rfl,i2⟩:=fe (show DataW.trod enc Tryz.prog w base spare held ka 3 [v2]=some a2 from ha 2 (by omega))
     obtain⟨n3,rfl,i3⟩:=fe (show DataW.trod enc Tryz.prog w base spare held ka 3 [v3]=some a3 from ha 3 (by omega))
     obtain⟨n4,rfl,i4⟩:=fe (show DataW.trod enc Tryz.prog w base spare held ka 3 [v4]=some a4 from ha 4 (by omega))
     obtain⟨n5,rfl,i5⟩:=fe (show DataW.trod enc Tryz.prog w base spare held ka 3 [v5]=some a5 from ha 5 (by omega))
     obtain⟨n6,rfl,i6⟩:=fe (show DataW.trod enc Tryz.prog w base spare held ka 3 [v6]=some a6 from ha 6 (by omega))
     obtain⟨n7,rfl,i7⟩:=fe (show DataW.trod enc Tryz.prog w base spare held ka 3 [v7]=some a7 from ha 7 (by omega))
     exact⟨⟨fun j=>match j with | 0=>n0 | 1=>n1 | 2=>n2 | 3=>n3 | 4=>n4 | 5=>n5 | 6=>n6 | _=>n7,n8,n9,n10,n11,n12⟩,rfl,fun j hj=>by
      match j,hj with
      | 0,_=>exact i0
      | 1,_=>exact i1
      | 2,_=>exact i2
      | 3,_=>exact i3
      | 4,_=>exact i4
      | 5,_=>exact i5
      | 6,_=>exact i6
      | 7,_=>exact i7
      | j+8,h=>exact absurd h (by omega),i8⟩
theorem Fy {fuel:Nat} {a0:Option Addr} {len cap:Nat} {x:DataW H×List MemPlace} (h:DataW.trod enc Tryz.prog w base spare held fuel 27 [.slice a0 len cap]=some x) (hw:OkW 27 x.1) :
  ∃l:List PM.Pr,l.length=len/\FW.yu w a0 l/\M.bD l.length/\GH.qR l:=by
 obtain⟨h1,h2,l,h3,h4,h5⟩:=ng Xn Tryz.underlying27 Ra Rj (by decide) Mw h hw
 subst h3
 refine⟨l,rfl,fun h0=>?_,h2,fun k hk=>?_⟩
 · obtain⟨b,off,e1,e2,e3⟩:=h4 h0
   refine⟨b,off,e1,e2,fun i hi=>?_⟩
   obtain⟨cs,_,⟨rfl,_⟩,q⟩:=e3 i hi
   exact⟨q 0 (by decide),q 1 (by decide),q 2 (by decide),q 3 (by decide),q 4 (by decide),q 5 (by decide),q 6 (by decide),q 7 (by decide),q 8 (by decide),q 9 (by decide),q 10 (by decide),q 11 (by decide),q 12 (by decide)⟩
 · obtain⟨cs,_,q⟩:=h5 k hk
   exact q
def Xm (w:World) (cs:List Value) (y:FM.Sp):Prop:=∃va ap cp,cs=[.bool y.live,va,.slice ap y.aj.length cp]/\AW.Has w va y.aw/\FW.iL w ap y.aj/\y.aj.length<=cp/\FW.Hq y
theorem JQ (n:Nat) (cs:List Value) (x:DataW H×List MemPlace) (hl:cs.length=3) (h:DataW.trod enc Tryz.prog w base spare held n 53 cs=some x) (hw:OkW 53 x.1):∃y,Xm w cs y:=by
 obtain⟨xs,k,hk,hxy,_,hxl,hf⟩:=DataW.trod_struct Tryz.underlying53 h
 rw[hxy] at hw
 match cs,hl with
 | [v0,v1,v2],_ =>
  have g0:DataW.trod enc Tryz.prog w base spare held k 4 (([v0,v1,v2].drop 0).take (Tryz.prog.cellsOf 4))=xs[0]?:=hf 0 _ rfl
  have g1:DataW.trod enc Tryz.prog w base spare held k 22 (([v0,v1,v2].drop 1).take (Tryz.prog.cellsOf 22))=xs[1]?:=hf 1 _ rfl
  have g2:DataW.trod enc Tryz.prog w base spare held k 51 (([v0,v1,v2].drop 2).take (Tryz.prog.cellsOf 51))=xs[2]?:=hf 2 _ rfl
  simp only[yb,Oa,N9] at g0 g1 g2
  match xs,hxl with
  | [y0,y1,y2],_ =>
   obtain⟨lv,c0,_⟩:=DataW.trod_bool Tryz.underlying4 (show DataW.trod enc Tryz.prog w base spare held k 4 [v0]=some y0 from g0)
   have u1:=mo Tryz.underlying53 hw (j:=1) (u:=22) (d:=y1.1) rfl rfl
   have u2:=mo Tryz.underlying53 hw (j:=2) (u:=51) (d:=y2.1) rfl rfl
   have t1:DataW.trod enc Tryz.prog w base spare held k 22 [v1]=some y1:=g1
   have t2:DataW.trod enc Tryz.prog w base spare held k 51 [v2]=some y2:=g2
   obtain⟨av,lvn,cv,d1⟩:=lB Tryz.underlying22 t1
   obtain⟨ap,lp,cp,d2⟩:=lB Tryz.underlying51 t2
   subst d1;subst d2
   obtain⟨l,n1,n2,n3,n4⟩:=AW.FA t1
   obtain⟨ps,s1,s2,s3,s4,s5⟩:=Fz t2 u2
   simp only[List.cons.injEq,and_true] at c0
   subst c0;subst s1
   refine⟨⟨lv,l,ps⟩,_,ap,cp,rfl,n2,s2,s5,⟨n3,?_⟩,s3,s4⟩
   rw[n1]
   rcases n4 with e | ⟨el,sp,e1,e2⟩
   · omega
   · rw[e1] at u1
     have hb:=(pX Tryz.underlying22 u1).1
     rw[Rm,e2] at hb
     unfold reachBytes at hb
     omega
theorem C8 {fuel:Nat} {a0:Option Addr} {len cap:Nat} {x:DataW H×List MemPlace} (h:DataW.trod enc Tryz.prog w base spare held fuel 26 [.slice a0 len cap]=some x) (hw:OkW 26 x.1) :
  ∃l:List FM.Sp,l.length=len/\FW.vN w a0 l/\FW.yD l:=by
 obtain⟨h1,h2,l,h3,h4,h5⟩:=ng (Xm w) Tryz.underlying26 Q8 Ri (by decide) JQ h hw
 subst h3
 refine⟨l,rfl,fun h0=>?_,h2,fun k hk=>?_⟩
 · obtain⟨b,off,e1,e2,e3⟩:=h4 h0
   refine⟨b,off,e1,e2,fun i hi=>?_⟩
   obtain⟨cs,_,⟨va,ap,cp,rfl,r1,r2,r3,_⟩,q⟩:=e3 i hi
   exact⟨va,ap,cp,q 0 (by decide),q 1 (by decide),q 2 (by decide),r1,r2,r3⟩
 · obtain⟨cs,_,_,_,_,_,_,_,q⟩:=h5 k hk
   exact q
theorem JP {fuel:Nat} {cs:List Value} {x:DataW H×List MemPlace} (h:DataW.trod enc Tryz.prog w base spare held fuel 30 cs=some x) (hw:OkW 30 x.1) :
  ∃(f:FM.Fl) (az ar ao:Option Addr) (c1 c2 c3:Nat),cs=(FW.bw f az ar ao c1 c2 c3).toList/\FW.fK w f az ar ao/\FW.pP f/\GH.qR f.procs:=by
 obtain⟨xs,k,hk,hxy,hcl,hxl,hf⟩:=DataW.trod_struct Tryz.underlying30 h
 rw[hxy] at hw
 rw[Rc] at hcl
 match cs,hcl with
 | [v0,v1,v2,v3],_ =>
  have g0:DataW.trod enc Tryz.prog w base spare held k 3 (([v0,v1,v2,v3].drop 0).take (Tryz.prog.cellsOf 3))=xs[0]?:=hf 0 _ rfl
  have g1:DataW.trod enc Tryz.prog w base spare held k 26 (([v0,v1,v2,v3].drop 1).take (Tryz.prog.cellsOf 26))=xs[1]?:=hf 1 _ rfl
  have g2:DataW.trod enc Tryz.prog w base spare held k 27 (([v0,v1,v2,v3].drop 2).take (Tryz.prog.cellsOf 27))=xs[2]?:=hf 2 _ rfl
  have g3:DataW.trod enc Tryz.prog w base spare held k 28 (([v0,v1,v2,v3].drop 3).take (Tryz.prog.cellsOf 28))=xs[3]?:=hf 3 _ rfl
  simp only[mO,N7,N8,N6] at g0 g1 g2 g3
  match xs,hxl with
  | [y0,y1,y2,y3],_ =>
   obtain⟨sl,rfl,i0⟩:=fe (show DataW.trod enc Tryz.prog w base spare held k 3 [v0]=some y0 from g0)
   have u1:=mo Tryz.underlying30 hw (j:=1) (u:=26) (d:=y1.1) rfl rfl
   have u2:=mo Tryz.underlying30 hw (j:=2) (u:=27) (d:=y2.1) rfl rfl
   have u3:=mo Tryz.underlying30 hw (j:=3) (u:=28) (d:=y3.1) rfl rfl
   have t1:DataW.trod enc Tryz.prog w base spare held k 26 [v1]=some y1:=g1
   have t2:DataW.trod enc Tryz.prog w base spare held k 27 [v2]=some y2:=g2
   have t3:DataW.trod enc Tryz.prog w base spare held k 28 [v3]=some y3:=g3
   obtain⟨az,l1,c1,d1⟩:=lB Tryz.underlying26 t1
   obtain⟨ar,l2,c2,d2⟩:=lB Tryz.underlying27 t2
   obtain⟨ao,l3,c3,d3⟩:=lB Tryz.underlying28 t3
   subst d1;subst d2;subst d3
   obtain⟨ss,rfl,s2,s3⟩:=C8 t1 u1
   obtain⟨ps,rfl,p2,p3,p4⟩:=Fy t2 u2
   obtain⟨os,rfl,o2,o3⟩:=Fw t3 u3
   exact⟨⟨sl,ss,ps,os⟩,az,ar,ao,c1,c2,c3,rfl,⟨s2,p2,o2⟩,⟨i0,s3,p3,o3⟩,p4⟩
end
theorem Va:0<Tryz.prog.bytesOf 3:=of_decide_eq_true (by kernel_rfl)
section
variable {H:Type} {enc:TypeId×Value->H} {w:World} {base:Nat} {spare:Nat->Bool} {held:Bool}
def isI (cs:List Value) (y:Int):Prop:=cs=[I y]
theorem WX (n:Nat) (cs:List Value) (x:DataW H×List MemPlace) (hl:cs.length=1) (h:DataW.trod enc Tryz.prog w base spare held n 3 cs=some x) (hw:OkW 3 x.1):∃y,isI cs y:=by
 match cs,hl with
 | [v],_ =>
  obtain⟨m,rfl,_⟩:=fe h
  exact⟨m,rfl⟩
theorem open_ints {fuel:Nat} {a0:Option Addr} {len cap:Nat} {x:DataW H×List MemPlace} (h:DataW.trod enc Tryz.prog w base spare held fuel 44 [.slice a0 len cap]=some x) (hw:OkW 44 x.1) :
  ∃l:List Int,l.length=len/\GW.rS w a0 l/\l.length<=140737488351232:=by
 obtain⟨h1,h2,l,h3,h4,h5⟩:=ng isI Tryz.underlying44 mO Va (by decide) WX h hw
 subst h3
 refine⟨l,rfl,fun h0=>?_,h2⟩
 obtain⟨b,off,e1,e2,e3⟩:=h4 h0
 refine⟨b,off,e1,e2,fun i hi=>?_⟩
 obtain⟨cs,_,rfl,q⟩:=e3 i hi
 have:=q 0 (by decide)
 simpa using this
end
end GA
end Go.Proofs.YtkdigjpejnebkaaGreat
