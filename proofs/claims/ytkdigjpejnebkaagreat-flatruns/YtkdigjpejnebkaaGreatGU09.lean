import Derived.Test.YtkdigjpejnebkaaGreatGU00
import Derived.Test.YtkdigjpejnebkaaGreatGU08
import Derived.Test.YtkdigjpejnebkaaGreatGU04
import Derived.Test.YtkdigjpejnebkaaGreatGU06
set_option maxHeartbeats 20000000
set_option linter.unusedVariables false
set_option maxRecDepth 100000
set_option linter.unusedSimpArgs false
namespace Go.Proofs.YtkdigjpejnebkaaGreat
namespace GM
open Go.RowKit
structure Mf where
 slots:Int
 ak:List FM.Sp
def rX (ps:List FM.Pg) (p:Int):ByteArray:=(FW.cJ p ps).getD ⟨#[]⟩
def cV (a n:Int):Int:=(a+n-1)/16
def eI (ps:List FM.Pg) (a n:Int):ByteArray:=if cV a n=a/16 then rX ps (a/16) else rX ps (a/16)++rX ps (cV a n)
def ig (ps:List FM.Pg) (a n:Int):ByteArray:=(eI ps a n).extract (a%16).toNat ((a%16).toNat+n.toNat)
def ml (p:Int) (d:ByteArray) (ps:List FM.Pg):List FM.Pg:=ps.map (fun g=>if g.page=p then ⟨p,d⟩ else g)
def fS (ps:List FM.Pg) (a:Int) (s:ByteArray):List FM.Pg :=
 if cV a s.size=a/16 then ml (a/16) ((CL.over (eI ps a s.size) (a%16).toNat s).extract 0 16) ps
 else ml (cV a s.size) ((CL.over (eI ps a s.size) (a%16).toNat s).extract 16 32) (ml (a/16) ((CL.over (eI ps a s.size) (a%16).toNat s).extract 0 16) ps)
def gT:ByteArray:=⟨#[0,0,0,0,0,0,0,0,0,0,0,0,0,0,0,0]⟩
def gS (p:Int) (n:Nat):List FM.Pg:=(FM.run p n).map (fun x=>⟨x,gT⟩)
def rp (ps:List FM.Pg) (p:Int):Nat:=(ps.takeWhile (fun g=>decide (g.page<p))).length
def iV (ps:List FM.Pg) (p:Int) (n:Nat):List FM.Pg:=ps.take (rp ps p)++(gS p n++ps.drop (rp ps p))
def iF (ps:List FM.Pg) (p n:Int):List FM.Pg:=ps.filter (fun g=>!(decide (p<=g.page/\g.page<p+n)))
def gz (m:Mf) (k:Nat) (s:FM.Sp):Mf:={ m with ak:=m.ak.set k s }
def fA (m:Mf) (k:Nat) (a n way:Int):(ByteArray×(Int×Int))×Mf :=
 if (FM.bG (FM.ax m.ak k).aw a n way).1=0 then ((ig (FM.ax m.ak k).aj a n,(0,0)),m) else ((⟨#[]⟩,FM.bG (FM.ax m.ak k).aw a n way),m)
def kq (m:Mf) (k:Nat) (a:Int) (d:ByteArray):(Int×Int)×Mf :=
 if (FM.bG (FM.ax m.ak k).aw a d.size 1).1=0 then ((0,0),gz m k { FM.ax m.ak k with aj:=fS (FM.ax m.ak k).aj a d }) else (FM.bG (FM.ax m.ak k).aw a d.size 1,m)
def mapM (m:Mf) (k:Nat) (p n q:Int):Int×Mf :=
 if ¬(AW.dH (FM.ax m.ak k).aw p n q).2=0 then ((AW.dH (FM.ax m.ak k).aw p n q).2,m)
 else if m.slots<FM.room m.ak+n then (8,m)
 else (0,gz m k { FM.ax m.ak k with aw:=(AW.dH (FM.ax m.ak k).aw p n q).1,aj:=iV (FM.ax m.ak k).aj p n.toNat })
def gU (m:Mf) (k:Nat) (p n:Int):Int×Mf :=
 if ¬(AW.bO (FM.ax m.ak k).aw p n).2=0 then ((AW.bO (FM.ax m.ak k).aw p n).2,m)
 else (0,gz m k { FM.ax m.ak k with aw:=(AW.bO (FM.ax m.ak k).aw p n).1,aj:=iF (FM.ax m.ak k).aj p n })
def eB (m:Mf) (k:Nat) (p n q:Int):Int×Mf :=
 if ¬(AW.bc (FM.ax m.ak k).aw p n q).2=0 then ((AW.bc (FM.ax m.ak k).aw p n q).2,m)
 else (0,gz m k { FM.ax m.ak k with aw:=(AW.bc (FM.ax m.ak k).aw p n q).1 })
def px (m:Mf) (k:Nat):Int×Mf :=
 if 4<=m.ak.length then (2,m) else if m.slots<FM.room m.ak+AM.br (FM.ax m.ak k).aw then (8,m)
 else (0,{ m with ak:=m.ak++[FM.ax m.ak k] })
def DN (m:Mf) (k:Nat):Mf:=gz m k FM.E0
def aQ:GG.vM Mf:=⟨fA,kq,mapM,gU,eB,px,DN⟩
structure qy (m:Mf) (fl:List Bool):Prop where
 flags:fl=m.ak.map (·.live)
 each:∀k,k<m.ak.length->FM.aU (FM.ax m.ak k)=true
 room:FM.room m.ak<=m.slots
 slots:0<=m.slots/\m.slots<=512
 few:1<=m.ak.length/\m.ak.length<=4
theorem m6 (l:List FM.Sp) (k j:Nat) (s:FM.Sp) (hk:k<l.length):FM.ax (l.set k s) j=if j=k then s else FM.ax l j:=by
 unfold FM.ax
 rw[List.getD_eq_getElem?_getD,List.getD_eq_getElem?_getD,List.getElem?_set]
 by_cases h:j=k
 · rw[if_pos h,if_pos h.symm]
   subst h
   rw[if_pos hk];rfl
 · rw[if_neg h,if_neg (fun g=>h g.symm)]
theorem qy.live {m:Mf} {fl:List Bool} (h:qy m fl) {k:Nat} (hk:fl.getD k false=true):k<m.ak.length/\(FM.ax m.ak k).live=true:=by
 rw[h.flags,List.getD_eq_getElem?_getD,List.getElem?_map] at hk
 by_cases c:k<m.ak.length
 · rw[List.getElem?_eq_getElem c] at hk
   refine⟨c,?_⟩
   unfold FM.ax
   rw[List.getD_eq_getElem?_getD,List.getElem?_eq_getElem c]
   exact hk
 · rw[List.getElem?_eq_none (by omega)] at hk
   cases hk
structure qj (s:FM.Sp):Prop where
 check:AM.aD s.aw=0
 nums:FM.numbers s.aj=FM.bk s.aw
 size:∀k,k<s.aj.length->(FM.aN s.aj k).data.size=16
theorem gp {s:FM.Sp} (h:FM.aU s=true) (hl:s.live=true):qj s:=by
 unfold FM.aU at h
 rw[if_pos hl] at h
 simp only[Bool.and_eq_true,decide_eq_true_eq] at h
 refine⟨h.1,h.2.1,fun k hk=>?_⟩
 have:=h.2.2
 unfold FM.sized at this
 exact of_decide_eq_true (List.all_eq_true.1 this _ (FM.lH hk))
theorem lF {s:FM.Sp} (h:qj s) (hl:s.live=true):FM.aU s=true:=by
 unfold FM.aU
 rw[if_pos hl,decide_eq_true h.check,decide_eq_true h.nums]
 have:FM.sized s.aj=true:=by
  unfold FM.sized
  rw[List.all_eq_true]
  intro p hp
  obtain⟨k,hk,rfl⟩:=FM.ie hp
  exact decide_eq_true (h.size k hk)
 rw[this];rfl
theorem qj.nN {s:FM.Sp} (h:qj s):FW.yn s.aj:=FW.E8 (by rw[h.nums];exact(FM.lX h.check).sorted)
theorem Mi:∀(l:List FM.Sp) (k:Nat) (s:FM.Sp),k<l.length->FM.room (l.set k s)=FM.room l-AM.br (FM.ax l k).aw+AM.br s.aw:=fun l k s hk=>by
 have key:∀n,n<=l.length->FM.eU (l.set k s) n=FM.eU l n+(if k<n then AM.br s.aw-AM.br (FM.ax l k).aw else 0):=fun n=>by
  induction n with
  | zero=>intro _;rw[if_neg (by omega)];rfl
  | succ n ih =>
   intro hn
   show FM.eU (l.set k s) n+AM.br (FM.ax (l.set k s) n).aw=FM.eU l n+AM.br (FM.ax l n).aw+_
   rw[ih (by omega),m6 l k n s hk]
   by_cases c:n=k
   · subst c
     rw[if_pos rfl,if_neg (by omega),if_pos (by omega)]
     omega
   · rw[if_neg c]
     by_cases d:k<n
     · rw[if_pos d,if_pos (by omega)];omega
     · rw[if_neg d,if_neg (by omega)];omega
 unfold FM.room
 rw[List.length_set,key _ (Nat.le_refl _),if_pos hk]
 omega
theorem JK (l:List FM.Sp) (s:FM.Sp):FM.room (l++[s])=FM.room l+AM.br s.aw:=by
 have key:∀n,n<=l.length->FM.eU (l++[s]) n=FM.eU l n:=fun n=>by
  induction n with
  | zero=>intro _;rfl
  | succ n ih =>
   intro hn
   show FM.eU (l++[s]) n+AM.br (FM.ax (l++[s]) n).aw=FM.eU l n+AM.br (FM.ax l n).aw
   rw[ih (by omega)]
   congr 3
   unfold FM.ax
   rw[List.getD_eq_getElem?_getD,List.getD_eq_getElem?_getD,List.getElem?_append_left (by omega)]
 unfold FM.room
 rw[List.length_append,List.length_singleton]
 show FM.eU (l++[s]) l.length+AM.br (FM.ax (l++[s]) l.length).aw=_
 rw[key _ (Nat.le_refl _)]
 congr 3
 unfold FM.ax
 rw[List.getD_eq_getElem?_getD,List.getElem?_append_right (Nat.le_refl _),Nat.sub_self]
 rfl
theorem nI {a b:List Int} (ha:a.Pairwise (·<·)) (hb:b.Pairwise (·<·)) (h:∀x,x∈a↔x∈b):a=b :=
 FM.tS b a ha hb (fun x hx=>(h x).1 hx) (Nat.le_antisymm (FM.m7 b a ha hb (fun x hx=>(h x).1 hx)) (FM.m7 a b hb ha (fun x hx=>(h x).2 hx)))
theorem eH {l:List AM.Ar} (hc:AM.aD l=0) {x:Int}:x∈FM.bk l↔(AM.aX l x).2=true:=(FM.qb hc x).symm
theorem nO {l:List AM.Ar} (hc:AM.aD l=0) {x:Int} (h:x∈FM.bk l):1<=x/\x<256:=by
 have:=FM.cQ hc (eH hc |>.1 h)
 omega
theorem kZ {l:List AM.Ar} {p n q:Int} (hc:AM.aD l=0) (h:(AW.dH l p n q).2=0):AM.aD (AW.dH l p n q).1=0/\(1<=p/\1<=n/\p+n<=256)/\(∀x,x∈FM.bk (AW.dH l p n q).1↔(x∈FM.bk l∨(p<=x/\x<p+n)))/\(∀x,p<=x->x<p+n->x∉FM.bk l):=by
 obtain⟨h1,h2⟩:=AW.zW l p n q h
 obtain⟨_,jh,_,_,_⟩:=AW.ma _ _ _ _ _ h
 have hpb:=(AM.dv p n).1 jh
 refine⟨h1,by omega,fun x=>?_,fun x g1 g2 hx=>?_⟩
 · rw[eH h1,eH hc]
   by_cases c:1<=x/\x<=255
   · obtain⟨m,rfl⟩:∃m:Nat,x=(m:Int):=⟨x.toNat,by omega⟩
     obtain⟨k1,k2⟩:=h2 m (by omega) (by omega)
     by_cases d:p<=(m:Int)/\(m:Int)<p+n
     · exact⟨fun _=>.inr d,fun _=>(k1 d).2.1⟩
     · rw[(k2 d).1]
       exact⟨fun g=>.inl g,fun g=>by rcases g with g | g;exact g;exact(d g).elim⟩
   · constructor
     · intro g
       have:=FM.cQ h1 g
       omega
     · rintro(g | g)
       · have:=FM.cQ hc g
         omega
       · omega
 · obtain⟨m,rfl⟩:∃m:Nat,x=(m:Int):=⟨x.toNat,by omega⟩
   have:=(h2 m (by omega) (by omega)).1 ⟨g1,g2⟩
   rw[eH hc,this.1] at hx
   cases hx
theorem o5 {l:List AM.Ar} {p n:Int} (hc:AM.aD l=0) (h:(AW.bO l p n).2=0):AM.aD (AW.bO l p n).1=0/\(1<=p/\1<=n/\p+n<=256)/\(∀x,x∈FM.bk (AW.bO l p n).1↔(x∈FM.bk l/\¬(p<=x/\x<p+n))):=by
 obtain⟨h1,h2⟩:=AW.CG l p n h
 obtain⟨_,jh,_,_,_⟩:=AW.ma _ _ _ _ _ h
 have hpb:=(AM.dv p n).1 jh
 refine⟨h1,by omega,fun x=>?_⟩
 rw[eH h1,eH hc]
 by_cases c:1<=x/\x<=255
 · obtain⟨m,rfl⟩:∃m:Nat,x=(m:Int):=⟨x.toNat,by omega⟩
   obtain⟨k1,k2⟩:=h2 m (by omega) (by omega)
   by_cases d:p<=(m:Int)/\(m:Int)<p+n
   · rw[k1 d]
     exact⟨(fun g=>by cases g),fun g=>(g.2 d).elim⟩
   · rw[(k2 d).1]
     exact⟨fun g=>⟨g,d⟩,fun g=>g.1⟩
 · constructor
   · intro g
     have:=FM.cQ h1 g
     omega
   · rintro⟨g,_⟩
     have:=FM.cQ hc g
     omega
theorem mJ {l:List AM.Ar} {p n q:Int} (hc:AM.aD l=0) (h:(AW.bc l p n q).2=0):AM.aD (AW.bc l p n q).1=0/\FM.bk (AW.bc l p n q).1=FM.bk l:=by
 obtain⟨h1,h2⟩:=AW.yS l p n q h
 refine⟨h1,nI (FM.lX h1).sorted (FM.lX hc).sorted (fun x=>?_)⟩
 rw[eH h1,eH hc]
 by_cases c:1<=x/\x<=255
 · obtain⟨m,rfl⟩:∃m:Nat,x=(m:Int):=⟨x.toNat,by omega⟩
   rw[(h2 m (by omega) (by omega)).1.1]
 · constructor
   · intro g
     have:=FM.cQ h1 g
     omega
   · intro g
     have:=FM.cQ hc g
     omega
theorem qi {l:List AM.Ar} {a way:Int}:∀{k:Nat},(FM.bB l a way k).1=0->∀j,j<k->FM.eu l (a+j) way=(0,0)
 | 0,_,j,hj=>by omega
 | k+1,h,j,hj=>by
  have h0:(FM.bB l a way k).1=0:=by
   by_cases c:(FM.bB l a way k).1=0
   · exact c
   · rw[FM.bB,if_neg c] at h
     exact(c h).elim
  by_cases e:j=k
  · subst e
    rw[FM.bB,if_pos h0] at h
    exact(FM.lq h).1
  · exact qi h0 j (by omega)
theorem uZ {l:List AM.Ar} {a n way:Int} (h:(FM.bG l a n way).1=0):FM.bG l a n way=(0,0)/\(FM.bB l a way n.toNat).1=0:=by
 unfold FM.bG at h ⊢
 by_cases c:way=2/\¬a%8=0
 · rw[if_pos c] at h
   cases h
 · rw[if_neg c] at h ⊢
   refine⟨?_,h⟩
   cases hn:n.toNat with
   | zero=>rfl
   | succ m =>
    rw[hn] at h
    have:=qi h m (by omega)
    rw[FM.bB] at h ⊢
    split at h
    · rename_i g
      rw[if_pos g];exact this
    · rename_i g
      exact(g h).elim
structure Reach (ps:List FM.Pg) (a n:Int) (i:Nat):Prop where
 lt:i<ps.length
 first:(FM.aN ps i).page=a/16
 low:16<=a
 high:a+n<=4096
 last:cV a n=a/16∨cV a n=a/16+1/\i+1<ps.length/\(FM.aN ps (i+1)).page=cV a n
theorem Dm {s:FM.Sp} (h:qj s) {p:Int} (hp:(AM.aX s.aw p).2=true):∃i,i<s.aj.length/\(FM.aN s.aj i).page=p:=by
 have hm:=(FM.qb h.check p).1 hp
 rw[<- h.nums] at hm
 obtain⟨g,hg,e⟩:=List.mem_map.1 hm
 obtain⟨i,hi,rfl⟩:=FM.ie hg
 exact⟨i,hi,e⟩
theorem m8 {s:FM.Sp} (h:qj s) {a n way:Int} (hn:1<=n) (QF:n<=16) (hf:(FM.bG s.aw a n way).1=0):∃i,Reach s.aj a n i:=by
 obtain⟨_,hb⟩:=uZ hf
 have h0:=FM.lq (by rw[qi hb 0 (by omega)]:(FM.eu s.aw (a+(0:Nat)) way).1=0)
 have hl:=FM.lq (by rw[qi hb (n.toNat-1) (by omega)]:(FM.eu s.aw (a+((n.toNat-1:Nat):Int)) way).1=0)
 have e0:a+((0:Nat):Int)=a:=by omega
 have el:a+((n.toNat-1:Nat):Int)=a+n-1:=by omega
 rw[e0] at h0
 rw[el] at hl
 obtain⟨_,ha0,hp0,_⟩:=h0
 obtain⟨_,hal,hpl,_⟩:=hl
 have r0:=FM.cQ h.check hp0
 have rl:=FM.cQ h.check hpl
 obtain⟨i,hi,ei⟩:=Dm h hp0
 refine⟨i,hi,ei,by omega,by omega,?_⟩
 by_cases c:cV a n=a/16
 · exact .inl c
 · have c2:cV a n=a/16+1:=by unfold cV at c ⊢;omega
   obtain⟨j,hj,ej⟩:=Dm h hpl
   have ej':(FM.aN s.aj j).page=a/16+1:=by rw[ej];exact c2
   have hr:=h.nN
   have hij:i<j:=by
    rcases Nat.lt_trichotomy i j with g | g | g
    · exact g
    · subst g;omega
    · have:=hr j i g hi;omega
   have hj1:j=i+1:=by
    by_cases g:j=i+1
    · exact g
    · have g1:=hr i (i+1) (by omega) (by omega)
      have g2:=hr (i+1) j (by omega) hj
      omega
   subst hj1
   exact .inr ⟨c2,hj,ej⟩
theorem zN {ps:List FM.Pg} (hr:FW.yn ps) {i:Nat} (hi:i<ps.length) {p:Int} (hp:(FM.aN ps i).page=p):rX ps p=(FM.aN ps i).data:=by
 unfold rX
 rw[FW.sB ps p i hi (fun j hj e=>by have:=hr j i hj hi;omega) hp]
 rfl
theorem lj {s:FM.Sp} (h:qj s) {a n:Int} {i:Nat} (hr:Reach s.aj a n i):((eI s.aj a n).size=16/\cV a n=a/16)∨((eI s.aj a n).size=32/\cV a n=a/16+1):=by
 unfold eI
 rcases hr.last with c | ⟨c,hl,e⟩
 · rw[if_pos c,zN h.nN hr.lt hr.first]
   exact .inl ⟨h.size i hr.lt,c⟩
 · rw[if_neg (by omega),zN h.nN hr.lt hr.first,zN h.nN hl e,ByteArray.size_append,h.size i hr.lt,h.size _ hl]
   exact .inr ⟨rfl,c⟩
theorem zX {s:FM.Sp} (h:qj s) {a n:Int} (hn:1<=n) {i:Nat} (hr:Reach s.aj a n i):((ig s.aj a n).size:Int)=n:=by
 unfold ig
 rw[ByteArray.size_extract]
 have h1:=hr.low
 have h2:=hr.high
 rcases lj h hr with⟨e1,e2⟩ | ⟨e1,e2⟩
 · unfold cV at e2
   rw[e1];omega
 · unfold cV at e2
   rw[e1];omega
theorem wH (p:Int) (d:ByteArray) (ps:List FM.Pg):FM.numbers (ml p d ps)=FM.numbers ps:=by
 unfold FM.numbers ml
 rw[List.map_map]
 apply List.map_congr_left
 intro g _
 show(if g.page=p then (⟨p,d⟩:FM.Pg) else g).page=g.page
 split
 · rename_i e;exact e.symm
 · rfl
theorem PK (p:Int) (d:ByteArray) (ps:List FM.Pg):(ml p d ps).length=ps.length:=by unfold ml;rw[List.length_map]
theorem TH (p:Int) (d:ByteArray) (ps:List FM.Pg) (k:Nat) (hk:k<ps.length):FM.aN (ml p d ps) k=if (FM.aN ps k).page=p then ⟨p,d⟩ else FM.aN ps k:=by
 unfold FM.aN ml
 rw[List.getD_eq_getElem?_getD,List.getD_eq_getElem?_getD,List.getElem?_map,List.getElem?_eq_getElem hk]
 rfl
theorem wF (p:Int) (d:ByteArray) (hd:d.size=16) (ps:List FM.Pg) (h:∀k,k<ps.length->(FM.aN ps k).data.size=16):∀k,k<(ml p d ps).length->(FM.aN (ml p d ps) k).data.size=16:=fun k hk=>by
 rw[PK] at hk
 rw[TH p d ps k hk]
 split
 · exact hd
 · exact h k hk
theorem Ju {s:FM.Sp} (h:qj s) {a:Int} {d:ByteArray} {i:Nat} (hd:1<=d.size) (hr:Reach s.aj a d.size i):qj { s with aj:=fS s.aj a d }:=by
 have h1:=hr.low
 have hov:(CL.over (eI s.aj a d.size) (a%16).toNat d).size=(eI s.aj a d.size).size:=by
  apply CL.jw
  rcases lj h hr with⟨e1,e2⟩ | ⟨e1,e2⟩ <;> (unfold cV at e2;rw[e1];omega)
 refine⟨h.check,?_,?_⟩
 · show FM.numbers (fS s.aj a d)=_
   unfold fS
   split
   · rw[wH];exact h.nums
   · rw[wH,wH];exact h.nums
 · show ∀k,k<(fS s.aj a d).length->(FM.aN (fS s.aj a d) k).data.size=16
   unfold fS
   rcases lj h hr with⟨e1,e2⟩ | ⟨e1,e2⟩
   · rw[if_pos e2]
     exact wF _ _ (by rw[ByteArray.size_extract,hov,e1];rfl) _ h.size
   · rw[if_neg (by omega)]
     exact wF _ _ (by rw[ByteArray.size_extract,hov,e1];rfl) _ (wF _ _ (by rw[ByteArray.size_extract,hov,e1];rfl) _ h.size)
theorem A2 {ps:List FM.Pg} (h:(FM.numbers ps).Pairwise (·<·)) (p:Int):∀x,x∈FM.numbers (ps.drop (rp ps p))->p<=x:=by
 unfold rp
 induction ps with
 | nil=>intro x hx;cases hx
 | cons g r ih =>
  intro x hx
  have hp:=List.pairwise_cons.1 (show(g.page::FM.numbers r).Pairwise (·<·) from h)
  by_cases c:g.page<p
  · rw[List.takeWhile_cons_of_pos (by simpa using c),List.length_cons,List.drop_succ_cons] at hx
    exact ih hp.2 x hx
  · rw[List.takeWhile_cons_of_neg (by simpa using c)] at hx
    rcases List.mem_cons.1 (show x∈g.page::FM.numbers r from hx) with e | e
    · omega
    · have:=hp.1 x e;omega
theorem LN (ps:List FM.Pg) (p:Int):∀x,x∈FM.numbers (ps.take (rp ps p))->x<p:=by
 unfold rp
 induction ps with
 | nil=>intro x hx;cases hx
 | cons g r ih =>
  intro x hx
  by_cases c:g.page<p
  · rw[List.takeWhile_cons_of_pos (by simpa using c),List.length_cons,List.take_succ_cons] at hx
    rcases List.mem_cons.1 (show x∈g.page::FM.numbers (r.take _) from hx) with e | e
    · omega
    · exact ih x e
  · rw[List.takeWhile_cons_of_neg (by simpa using c)] at hx
    cases hx
theorem qG (p:Int) (n:Nat):FM.numbers (gS p n)=FM.run p n:=by
 unfold FM.numbers gS
 rw[List.map_map]
 exact List.map_id _
theorem nums_append (a b:List FM.Pg):FM.numbers (a++b)=FM.numbers a++FM.numbers b:=by unfold FM.numbers;rw[List.map_append]
theorem Ii {s:FM.Sp} (h:qj s) {p n q:Int} (hm:(AW.dH s.aw p n q).2=0):qj { s with aw:=(AW.dH s.aw p n q).1,aj:=iV s.aj p n.toNat }:=by
 obtain⟨h1,h2,h3,h4⟩:=kZ h.check hm
 have hs:(FM.numbers s.aj).Pairwise (·<·):=by rw[h.nums];exact(FM.lX h.check).sorted
 have Bi:FM.numbers s.aj=FM.numbers (s.aj.take (rp s.aj p))++FM.numbers (s.aj.drop (rp s.aj p)):=by rw[<- nums_append,List.take_append_drop]
 rw[Bi] at hs
 obtain⟨q1,q2,q3⟩:=List.pairwise_append.1 hs
 have hlo:=LN s.aj p
 have hhi:=A2 (ps:=s.aj) (by rw[Bi];exact hs) p
 have acd:∀x,x∈FM.numbers (s.aj.drop (rp s.aj p))->p+n<=x:=fun x hx=>by
  have g1:=hhi x hx
  by_cases c:x<p+n
  · exfalso
    refine h4 x g1 c ?_
    rw[<- h.nums,Bi]
    exact List.mem_append_right _ hx
  · omega
 refine⟨h1,?_,?_⟩
 · show FM.numbers (iV s.aj p n.toNat)=_
   refine nI ?_ (FM.lX h1).sorted (fun x=>?_)
   · unfold iV
     rw[nums_append,nums_append,qG]
     refine List.pairwise_append.2 ⟨q1,List.pairwise_append.2 ⟨FM.nL _ _,q2,fun x hx y hy=>?_⟩,fun x hx y hy=>?_⟩
     · have:=(FM.jJ _ _ _).1 hx
       have:=acd y hy
       omega
     · have g1:=hlo x hx
       rcases List.mem_append.1 hy with g | g
       · have:=(FM.jJ _ _ _).1 g;omega
       · have:=hhi y g;omega
   · rw[h3]
     unfold iV
     rw[nums_append,nums_append,qG,List.mem_append,List.mem_append,FM.jJ,<- h.nums,Bi,List.mem_append]
     constructor
     · rintro(g | g | g)
       · exact .inl (.inl g)
       · exact .inr (by omega)
       · exact .inl (.inr g)
     · rintro((g | g) | g)
       · exact .inl g
       · exact .inr (.inr g)
       · exact .inr (.inl (by omega))
 · intro k hk
   have hm2:=FM.lH hk
   have:∀g∈iV s.aj p n.toNat,g.data.size=16:=fun g hg=>by
    unfold iV at hg
    have old:∀g∈s.aj,g.data.size=16:=fun g hg=>by
     obtain⟨k,hk,rfl⟩:=FM.ie hg
     exact h.size k hk
    rcases List.mem_append.1 hg with e | e
    · exact old g (List.mem_of_mem_take e)
    · rcases List.mem_append.1 e with e | e
      · obtain⟨x,_,rfl⟩:=List.mem_map.1 e
        rfl
      · exact old g (List.mem_of_mem_drop e)
   exact this _ hm2
theorem zC {s:FM.Sp} (h:qj s) {p n:Int} (hm:(AW.bO s.aw p n).2=0):qj { s with aw:=(AW.bO s.aw p n).1,aj:=iF s.aj p n }:=by
 obtain⟨h1,h2,h3⟩:=o5 h.check hm
 have hs:(FM.numbers s.aj).Pairwise (·<·):=by rw[h.nums];exact(FM.lX h.check).sorted
 refine⟨h1,?_,?_⟩
 · show FM.numbers (iF s.aj p n)=_
   refine nI ?_ (FM.lX h1).sorted (fun x=>?_)
   · unfold FM.numbers iF
     exact List.Pairwise.sublist ((List.filter_sublist).map _) hs
   · rw[h3,<- h.nums]
     unfold FM.numbers iF
     simp only[List.mem_map,List.mem_filter]
     constructor
     · rintro⟨g,⟨h5,h6⟩,rfl⟩
       exact⟨⟨g,h5,rfl⟩,by simp at h6;omega⟩
     · rintro⟨⟨g,h5,rfl⟩,h6⟩
       exact⟨g,⟨h5,by simp;omega⟩,rfl⟩
 · intro k hk
   have hm2:=FM.lH hk
   have:∀g∈iF s.aj p n,g.data.size=16:=fun g hg=>by
    unfold iF at hg
    obtain⟨k,hk,rfl⟩:=FM.ie (List.mem_filter.1 hg).1
    exact h.size k hk
   exact this _ hm2
theorem ed {s:FM.Sp} (h:qj s):AM.br s.aw=(s.aj.length:Int):=by
 rw[FM.mg h.check,<- h.nums]
 unfold FM.numbers
 rw[List.length_map]
theorem ma {m:Mf} {fl:List Bool} (h:qy m fl) {k:Nat} (hk:k<m.ak.length) {s:FM.Sp} (hs:FM.aU s=true) (hr:FM.room m.ak-AM.br (FM.ax m.ak k).aw+AM.br s.aw<=m.slots):qy (gz m k s) (fl.set k s.live):=by
 refine⟨?_,fun j hj=>?_,?_,h.slots,?_⟩
 · rw[h.flags]
   show(m.ak.map (·.live)).set k s.live=(m.ak.set k s).map (·.live)
   rw[List.map_set]
 · have hj':j<m.ak.length:=by
    have:j<(m.ak.set k s).length:=hj
    rw[List.length_set] at this;exact this
   show FM.aU (FM.ax (m.ak.set k s) j)=true
   rw[m6 _ _ _ _ hk]
   split
   · exact hs
   · exact h.each j hj'
 · show FM.room (m.ak.set k s)<=m.slots
   rw[Mi _ _ _ hk];exact hr
 · show 1<=(m.ak.set k s).length/\(m.ak.set k s).length<=4
   rw[List.length_set];exact h.few
theorem LZ (fl:List Bool) (k:Nat) (b:Bool) (h:fl.getD k false=b):fl.set k b=fl:=by
 apply List.ext_getElem?
 intro j
 rw[List.getElem?_set]
 by_cases e:k=j
 · subst e
   by_cases c:k<fl.length
   · rw[List.getD_eq_getElem?_getD,List.getElem?_eq_getElem c] at h
     rw[if_pos rfl,if_pos c,List.getElem?_eq_getElem c]
     exact congrArg some h.symm
   · rw[if_pos rfl,if_neg c,List.getElem?_eq_none (by omega)]
 · rw[if_neg e]
theorem pR {m:Mf} {fl:List Bool} (h:qy m fl) {k:Nat} (hf:fl.getD k false=true) (hk:k<m.ak.length) {s:FM.Sp} (hl:s.live=true) (hs:FM.aU s=true) (hr:FM.room m.ak-AM.br (FM.ax m.ak k).aw+AM.br s.aw<=m.slots):qy (gz m k s) fl:=by
 have:=ma h hk hs hr
 rw[hl,LZ fl k true hf] at this
 exact this
theorem KD (l:List AM.Ar) (p way:Int):0<=(FM.eu l p way).1/\(FM.eu l p way).1<=4:=by
 unfold FM.eu
 split
 · exact⟨by simp[FM.bB,AW.aJ],by simp[FM.bB,AW.aJ]⟩
 · split <;> exact⟨by simp[FM.bB,AW.aJ],by simp[FM.bB,AW.aJ]⟩
theorem yh (l:List AM.Ar) (a way:Int):∀k,0<=(FM.bB l a way k).1/\(FM.bB l a way k).1<=4
 | 0=>⟨by simp[FM.bB,AW.aJ],by simp[FM.bB,AW.aJ]⟩
 | k+1=>by
  rw[FM.bB]
  split
  · exact KD _ _ _
  · exact yh l a way k
theorem xQ (l:List AM.Ar) (a n way:Int):0<=(FM.bG l a n way).1/\(FM.bG l a n way).1<=4:=by
 unfold FM.bG
 split
 · exact⟨by simp[FM.bB,AW.aJ],by simp[FM.bB,AW.aJ]⟩
 · exact yh _ _ _ _
theorem Ue (ps:List FM.Pg) (p:Int):rp ps p<=ps.length:=by
 unfold rp
 exact List.Sublist.length_le (List.takeWhile_sublist _)
theorem Qu (ps:List FM.Pg) (p:Int) (n:Nat):(iV ps p n).length=ps.length+n:=by
 have:=Ue ps p
 unfold iV gS
 rw[List.length_append,List.length_append,List.length_take,List.length_drop,List.length_map,FM.nM]
 omega
theorem QB (q:Int) (s:AM.St):0<=(AW.bF q s).2/\(AW.bF q s).2<=10:=by
 unfold AW.bF
 split <;> exact⟨by simp[FM.bB,AW.aJ],by simp[FM.bB,AW.aJ]⟩
theorem J7 (s:AM.St):0<=(AW.aJ s).2/\(AW.aJ s).2<=10:=⟨by simp[FM.bB,AW.aJ],by simp[FM.bB,AW.aJ]⟩
theorem Du (q:Int) (s:AM.St):0<=(AW.aM q s).2/\(AW.aM q s).2<=10:=by
 unfold AW.aM
 split <;> exact⟨by simp[FM.bB,AW.aJ],by simp[FM.bB,AW.aJ]⟩
theorem NL (F:Nat->AM.St) (how:AM.St->AM.St×Int) (hh:∀s,0<=(how s).2/\(how s).2<=10):∀c n,0<=AM.bZ F how n c/\AM.bZ F how n c<=10
 | 0,n=>⟨by show(0:Int)<=0;omega,by show(0:Int)<=10;omega⟩
 | c+1,n=>by
  unfold AM.bZ
  split
  · exact NL F how hh c (n+1)
  · exact hh _
theorem N3 (l:List AM.Ar):0<=AM.aD l/\AM.aD l<=10:=by
 unfold AM.aD
 split
 · exact⟨by simp[FM.bB,AW.aJ],by simp[FM.bB,AW.aJ]⟩
 · split <;> exact⟨by simp[FM.bB,AW.aJ],by simp[FM.bB,AW.aJ]⟩
theorem oP (l:List AM.Ar) (p n q:Int) (how:AM.St->AM.St×Int) (hh:∀s,0<=(how s).2/\(how s).2<=10):0<=(AM.cF l p n q how).2/\(AM.cF l p n q how).2<=10:=by
 unfold AM.cF
 split
 · split
   · split
     · exact⟨by simp[FM.bB,AW.aJ],by simp[FM.bB,AW.aJ]⟩
     · exact NL _ _ hh _ _
   · exact⟨by simp[FM.bB,AW.aJ],by simp[FM.bB,AW.aJ]⟩
 · exact N3 l
theorem Br:GG.Aq aQ qy where
 load:=fun s fl k a n way h hk=>by
  show qy (fA s k a n way).2 fl
  unfold fA
  split <;> exact h
 size:=fun s fl k a n way h hk hn QF hf=>by
  obtain⟨hlt,hlv⟩:=h.live hk
  have hL:=gp (h.each k hlt) hlv
  have hf':(fA s k a n way).1.2.1=0:=hf
  show((fA s k a n way).1.1.size:Int)=n
  unfold fA at hf' ⊢
  by_cases c:(FM.bG (FM.ax s.ak k).aw a n way).1=0
  · rw[if_pos c]
    obtain⟨i,hi⟩:=m8 hL hn (by omega) c
    exact zX hL hn hi
  · rw[if_neg c] at hf'
    exact(c hf').elim
 fault:=fun s fl k a n way h hk=>by
  show 0<=(fA s k a n way).1.2.1/\(fA s k a n way).1.2.1<=4/\((fA s k a n way).1.2.1=0->(fA s k a n way).1.2=(0,0))
  unfold fA
  have:=xQ (FM.ax s.ak k).aw a n way
  split
  · exact⟨by simp,by simp,fun _=>rfl⟩
  · rename_i c
    exact⟨this.1,this.2,fun g=>(c g).elim⟩
 none:=fun s fl k a n way h hk hf=>by
  have hf':¬(fA s k a n way).1.2.1=0:=hf
  show(fA s k a n way).1.1=⟨#[]⟩
  unfold fA at hf' ⊢
  split
  · rename_i c
    rw[if_pos c] at hf'
    exact(hf' rfl).elim
  · rfl
 store:=fun s fl k a d h hk hd1 hd8=>by
  obtain⟨hlt,hlv⟩:=h.live hk
  have hL:=gp (h.each k hlt) hlv
  show qy (kq s k a d).2 fl
  unfold kq
  split
  · rename_i c
    obtain⟨i,hi⟩:=m8 hL (by omega) (by omega) c
    have hL2:=Ju hL hd1 hi
    exact pR h hk hlt hlv (lF hL2 hlv) (by
      have:=h.room
      show FM.room s.ak-AM.br (FM.ax s.ak k).aw+AM.br (FM.ax s.ak k).aw<=s.slots
      omega)
  · exact h
 NI:=fun s fl k a d h hk=>by
  show 0<=(kq s k a d).1.1/\(kq s k a d).1.1<=4/\((kq s k a d).1.1=0->(kq s k a d).1=(0,0))
  unfold kq
  have:=xQ (FM.ax s.ak k).aw a d.size 1
  split
  · exact⟨by simp,by simp,fun _=>rfl⟩
  · rename_i c
    exact⟨this.1,this.2,fun g=>(c g).elim⟩
 map:=fun s fl k p n q h hk=>by
  obtain⟨hlt,hlv⟩:=h.live hk
  have hL:=gp (h.each k hlt) hlv
  show qy (mapM s k p n q).2 fl
  unfold mapM
  split
  · exact h
  · rename_i c
    have c':(AW.dH (FM.ax s.ak k).aw p n q).2=0:=Decidable.not_not.1 c
    split
    · exact h
    · rename_i c2
      have hL2:=Ii hL c'
      exact pR h hk hlt hlv (lF hL2 hlv) (by
       rw[ed hL,ed hL2]
       have hlen:=(kZ hL.check c').2.1
       have:(iV (FM.ax s.ak k).aj p n.toNat).length=(FM.ax s.ak k).aj.length+n.toNat:=Qu _ _ _
       show FM.room s.ak-((FM.ax s.ak k).aj.length:Int)+((iV (FM.ax s.ak k).aj p n.toNat).length:Int)<=s.slots
       rw[this]
       omega)
 jT:=fun s fl k p n h hk=>by
  obtain⟨hlt,hlv⟩:=h.live hk
  have hL:=gp (h.each k hlt) hlv
  show qy (gU s k p n).2 fl
  unfold gU
  split
  · exact h
  · rename_i c
    have c':(AW.bO (FM.ax s.ak k).aw p n).2=0:=Decidable.not_not.1 c
    have hL2:=zC hL c'
    exact pR h hk hlt hlv (lF hL2 hlv) (by
      rw[ed hL,ed hL2]
      have:(iF (FM.ax s.ak k).aj p n).length<=(FM.ax s.ak k).aj.length:=List.length_filter_le _ _
      show FM.room s.ak-((FM.ax s.ak k).aj.length:Int)+((iF (FM.ax s.ak k).aj p n).length:Int)<=s.slots
      have:=h.room
      omega)
 fw:=fun s fl k p n q h hk=>by
  obtain⟨hlt,hlv⟩:=h.live hk
  have hL:=gp (h.each k hlt) hlv
  show qy (eB s k p n q).2 fl
  unfold eB
  split
  · exact h
  · rename_i c
    have c':(AW.bc (FM.ax s.ak k).aw p n q).2=0:=Decidable.not_not.1 c
    obtain⟨g1,g2⟩:=mJ hL.check c'
    have hL2:qj { FM.ax s.ak k with aw:=(AW.bc (FM.ax s.ak k).aw p n q).1 }:=⟨g1,by show FM.numbers (FM.ax s.ak k).aj=_;rw[hL.nums];exact g2.symm,hL.size⟩
    exact pR h hk hlt hlv (lF hL2 hlv) (by
      have e1:AM.br (AW.bc (FM.ax s.ak k).aw p n q).1=((FM.ax s.ak k).aj.length:Int):=ed hL2
      have e2:=ed hL
      have:=h.room
      show FM.room s.ak-AM.br (FM.ax s.ak k).aw+AM.br (AW.bc (FM.ax s.ak k).aw p n q).1<=s.slots
      omega)
 NA:=fun s fl k h hk hf=>by
  have hf':¬(px s k).1=0:=hf
  show qy (px s k).2 fl
  unfold px at hf' ⊢
  split
  · exact h
  · split
    · exact h
    · rename_i c1 c2
      rw[if_neg c1,if_neg c2] at hf'
      exact(hf' rfl).elim
 IG:=fun s fl k h hk hf=>by
  obtain⟨hlt,hlv⟩:=h.live hk
  have hf':(px s k).1=0:=hf
  show qy (px s k).2 (fl++[true])
  unfold px at hf' ⊢
  by_cases c1:4<=s.ak.length
  · rw[if_pos c1] at hf';cases hf'
  · rw[if_neg c1] at hf' ⊢
    by_cases c2:s.slots<FM.room s.ak+AM.br (FM.ax s.ak k).aw
    · rw[if_pos c2] at hf';cases hf'
    · rw[if_neg c2]
      refine⟨?_,fun j hj=>?_,?_,h.slots,?_⟩
      · rw[h.flags]
        show _=(s.ak++[FM.ax s.ak k]).map (·.live)
        rw[List.map_append,List.map_singleton,hlv]
      · have hj':j<(s.ak++[FM.ax s.ak k]).length:=hj
        rw[List.length_append,List.length_singleton] at hj'
        show FM.aU (FM.ax (s.ak++[FM.ax s.ak k]) j)=true
        by_cases c:j<s.ak.length
        · have:FM.ax (s.ak++[FM.ax s.ak k]) j=FM.ax s.ak j:=by
           unfold FM.ax
           rw[List.getD_eq_getElem?_getD,List.getElem?_append_left c,<- List.getD_eq_getElem?_getD]
          rw[this];exact h.each j c
        · have:FM.ax (s.ak++[FM.ax s.ak k]) j=FM.ax s.ak k:=by
           obtain rfl:j=s.ak.length:=by omega
           show(s.ak++[FM.ax s.ak k]).getD s.ak.length FM.E0=_
           rw[List.getD_eq_getElem?_getD,List.getElem?_append_right (Nat.le_refl _),Nat.sub_self]
           rfl
          rw[this];exact h.each k hlt
      · show FM.room (s.ak++[FM.ax s.ak k])<=s.slots
        rw[JK];omega
      · show 1<=(s.ak++[FM.ax s.ak k]).length/\(s.ak++[FM.ax s.ak k]).length<=4
        rw[List.length_append,List.length_singleton];omega
 Xh:=fun s fl k p n q h hk=>by
  show 0<=(mapM s k p n q).1/\(mapM s k p n q).1<=10
  unfold mapM
  split
  · exact oP _ _ _ _ _ (QB q)
  · split <;> exact⟨by simp[FM.bB,AW.aJ],by simp[FM.bB,AW.aJ]⟩
 LH:=fun s fl k p n h hk=>by
  show 0<=(gU s k p n).1/\(gU s k p n).1<=10
  unfold gU
  split
  · exact oP _ _ _ _ _ J7
  · exact⟨by simp[FM.bB,AW.aJ],by simp[FM.bB,AW.aJ]⟩
 C5:=fun s fl k p n q h hk=>by
  show 0<=(eB s k p n q).1/\(eB s k p n q).1<=10
  unfold eB
  split
  · exact oP _ _ _ _ _ (Du q)
  · exact⟨by simp[FM.bB,AW.aJ],by simp[FM.bB,AW.aJ]⟩
 few:=fun s fl h=>by rw[h.flags,List.length_map];exact h.few.2
 drop:=fun s fl k h hk=>by
  obtain⟨hlt,hlv⟩:=h.live hk
  have hL:=gp (h.each k hlt) hlv
  have:=ma h hlt (s:=FM.E0) rfl (by
   have h0:AM.br FM.E0.aw=0:=rfl
   rw[h0,ed hL]
   have:=h.room
   omega)
  exact this
end GM
namespace FW
open Go.RowKit
def tq (l:List FM.Pg):Nat->ByteArray
 | 0=>⟨#[]⟩
 | k+1=>tq l k++(FM.aN l k).data
theorem D7 (l:List FM.Pg) (h:∀k,k<l.length->(FM.aN l k).data.size=16):∀k,k<=l.length->(tq l k).size=16*k
 | 0,_=>rfl
 | k+1,hk=>by
  show(tq l k++(FM.aN l k).data).size=_
  rw[ByteArray.size_append,D7 l h k (by omega),h k (by omega)]
  omega
theorem Dk (l:List FM.Pg) (ao:Option Addr) (cap:Nat) (w:World) (h:iL w ao l) (hz:∀k,k<l.length->(FM.aN l k).data.size=16) (hn:l.length<=1000) :
  Calls Tryz.prog 198 #[.slice ao l.length cap] w fun e w'=>e=.returned (.string (tq l l.length))/\Below w.heap.size w w':=by
 have HH:=ai h
 have HZ:=ai hz
 have HCS:=ai (D7 l hz)
 have HST:Hid (∀k,tq l (k+1)=tq l k++(FM.aN l k).data):=fun k=>rfl
 clear h hz
 go_enter Tryz.func198,Tryz.ntmps198
 go_wp2
 go_loopw [3,8] (fun sv iv wr=>∃k:Nat,k<=l.length/\iv=I (k:Int)/\sv=.string (tq l k)/\Below w.heap.size w wr) (fun _ iv _=>l.length-(intOf iv).toNat)
 case atStart=>exact⟨0,by omega,rfl,rfl,Below.refl _ _⟩
 case round =>
  obtain⟨k,hk,rfl,rfl,hb⟩:=hrel
  have HB:=ai hb
  by_cases hlt:k<l.length
  · obtain⟨b,off,hao,hbl,bP⟩:=(HH.o.below hb) (by omega)
    subst hao
    obtain⟨c0,c1⟩:=bP k hlt
    have Bn:=HZ.o k hlt
    have hcs:=HCS.o k hk
    have hst:=HST.o k
    obtain⟨⟨pg,dt⟩,hq⟩:∃q,q=FM.aN l k:=⟨_,rfl⟩
    rw[<- hq] at c0 c1 Bn hst
    simp only at c0 c1 Bn hst
    obtain⟨A,hA⟩:=ex (tq l k)
    rw[<- hA] at hcs hst ⊢
    have ql:=ai hst
    have ahE:A.size+dt.size<=20000:=by omega
    clear hq hA bP hb hst hcs Bn
    go_wp2
    go_roundw
    case rel=>exact⟨k+1,by omega,by go_num,by rw[ql.o],HB.o.alloc HB.o.size _⟩
    case measure=>simp[intOf];omega
  · obtain rfl:k=l.length:=by omega
    clear hb
    go_wp2
    go_ret
    exact⟨rfl,HB.o⟩
end FW
end Go.Proofs.YtkdigjpejnebkaaGreat
