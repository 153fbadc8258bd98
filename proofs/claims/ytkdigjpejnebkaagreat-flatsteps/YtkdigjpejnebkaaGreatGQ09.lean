import Derived.Test.YtkdigjpejnebkaaGreatGQ00
import Derived.Test.YtkdigjpejnebkaaGreatGQ08
import Derived.Test.YtkdigjpejnebkaaGreatGQ04
import Derived.Test.YtkdigjpejnebkaaGreatGQ06
set_option maxHeartbeats 20000000
set_option linter.unusedVariables false
set_option maxRecDepth 100000
set_option linter.unusedSimpArgs false
namespace Go.Proofs.YtkdigjpejnebkaaGreat
namespace GM
open Go.RowKit
structure Mf where
 slots:Int
 ak:List FM.Sp
def rY (ps:List FM.Pg) (p:Int):ByteArray:=(FW.cM p ps).getD ⟨#[]⟩
def cW (a n:Int):Int:=(a+n-1)/16
def eH (ps:List FM.Pg) (a n:Int):ByteArray:=if cW a n=a/16 then rY ps (a/16) else rY ps (a/16)++rY ps (cW a n)
def ig (ps:List FM.Pg) (a n:Int):ByteArray:=(eH ps a n).extract (a%16).toNat ((a%16).toNat+n.toNat)
def mv (p:Int) (d:ByteArray) (ps:List FM.Pg):List FM.Pg:=ps.map (fun g=>if g.page=p then ⟨p,d⟩ else g)
def fT (ps:List FM.Pg) (a:Int) (s:ByteArray):List FM.Pg :=
 if cW a s.size=a/16 then mv (a/16) ((CL.over (eH ps a s.size) (a%16).toNat s).extract 0 16) ps
 else mv (cW a s.size) ((CL.over (eH ps a s.size) (a%16).toNat s).extract 16 32) (mv (a/16) ((CL.over (eH ps a s.size) (a%16).toNat s).extract 0 16) ps)
def gT:ByteArray:=⟨#[0,0,0,0,0,0,0,0,0,0,0,0,0,0,0,0]⟩
def gS (p:Int) (n:Nat):List FM.Pg:=(FM.run p n).map (fun x=>⟨x,gT⟩)
def rh (ps:List FM.Pg) (p:Int):Nat:=(ps.takeWhile (fun g=>decide (g.page<p))).length
def iZ (ps:List FM.Pg) (p:Int) (n:Nat):List FM.Pg:=ps.take (rh ps p)++(gS p n++ps.drop (rh ps p))
def iH (ps:List FM.Pg) (p n:Int):List FM.Pg:=ps.filter (fun g=>!(decide (p<=g.page/\g.page<p+n)))
def gB (m:Mf) (k:Nat) (s:FM.Sp):Mf:={ m with ak:=m.ak.set k s }
def fu (m:Mf) (k:Nat) (a n way:Int):(ByteArray×(Int×Int))×Mf :=
 if (FM.bG (FM.ax m.ak k).aw a n way).1=0 then ((ig (FM.ax m.ak k).aj a n,(0,0)),m) else ((⟨#[]⟩,FM.bG (FM.ax m.ak k).aw a n way),m)
def ku (m:Mf) (k:Nat) (a:Int) (d:ByteArray):(Int×Int)×Mf :=
 if (FM.bG (FM.ax m.ak k).aw a d.size 1).1=0 then ((0,0),gB m k { FM.ax m.ak k with aj:=fT (FM.ax m.ak k).aj a d }) else (FM.bG (FM.ax m.ak k).aw a d.size 1,m)
def mapM (m:Mf) (k:Nat) (p n q:Int):Int×Mf :=
 if ¬(AW.dF (FM.ax m.ak k).aw p n q).2=0 then ((AW.dF (FM.ax m.ak k).aw p n q).2,m)
 else if m.slots<FM.room m.ak+n then (8,m)
 else (0,gB m k { FM.ax m.ak k with aw:=(AW.dF (FM.ax m.ak k).aw p n q).1,aj:=iZ (FM.ax m.ak k).aj p n.toNat })
def gU (m:Mf) (k:Nat) (p n:Int):Int×Mf :=
 if ¬(AW.bP (FM.ax m.ak k).aw p n).2=0 then ((AW.bP (FM.ax m.ak k).aw p n).2,m)
 else (0,gB m k { FM.ax m.ak k with aw:=(AW.bP (FM.ax m.ak k).aw p n).1,aj:=iH (FM.ax m.ak k).aj p n })
def ez (m:Mf) (k:Nat) (p n q:Int):Int×Mf :=
 if ¬(AW.bg (FM.ax m.ak k).aw p n q).2=0 then ((AW.bg (FM.ax m.ak k).aw p n q).2,m)
 else (0,gB m k { FM.ax m.ak k with aw:=(AW.bg (FM.ax m.ak k).aw p n q).1 })
def pA (m:Mf) (k:Nat):Int×Mf :=
 if 4<=m.ak.length then (2,m) else if m.slots<FM.room m.ak+AM.br (FM.ax m.ak k).aw then (8,m)
 else (0,{ m with ak:=m.ak++[FM.ax m.ak k] })
def DW (m:Mf) (k:Nat):Mf:=gB m k FM.E6
def aQ:GG.vK Mf:=⟨fu,ku,mapM,gU,ez,pA,DW⟩
structure qy (m:Mf) (fl:List Bool):Prop where
 flags:fl=m.ak.map (·.live)
 each:∀k,k<m.ak.length->FM.aU (FM.ax m.ak k)=true
 room:FM.room m.ak<=m.slots
 slots:0<=m.slots/\m.slots<=512
 few:1<=m.ak.length/\m.ak.length<=4
theorem m7 (l:List FM.Sp) (k j:Nat) (s:FM.Sp) (hk:k<l.length):FM.ax (l.set k s) j=if j=k then s else FM.ax l j:=by
 unfold FM.ax
 rw[List.getD_eq_getElem?_getD,List.getD_eq_getElem?_getD,List.getElem?_set]
 by_cases h:j=k
 · rw[if_pos h,if_pos h.symm]
   subst h
   rw[if_pos hk];rfl
 · rw[if_neg h,if_neg (fun g=>h g.symm)]
theorem qy.live {m:Mf} {fl:List Bool} (h:qy m fl) {k:Nat} (hk:fl.getD k false=true):k<m.ak.length/\(FM.ax m.ak k).live=true:=by
 rw[h.flags,List.getD_eq_getElem?_getD,List.getElem?_map] at hk
 by_cases c:k<m.ak.length
 · rw[List.getElem?_eq_getElem c] at hk
   refine⟨c,?_⟩
   unfold FM.ax
   rw[List.getD_eq_getElem?_getD,List.getElem?_eq_getElem c]
   exact hk
 · rw[List.getElem?_eq_none (by omega)] at hk
   cases hk
structure ql (s:FM.Sp):Prop where
 check:AM.aD s.aw=0
 nums:FM.numbers s.aj=FM.bk s.aw
 size:∀k,k<s.aj.length->(FM.aN s.aj k).data.size=16
theorem fX {s:FM.Sp} (h:FM.aU s=true) (hl:s.live=true):ql s:=by
 unfold FM.aU at h
 rw[if_pos hl] at h
 simp only[Bool.and_eq_true,decide_eq_true_eq] at h
 refine⟨h.1,h.2.1,fun k hk=>?_⟩
 have:=h.2.2
 unfold FM.sized at this
 exact of_decide_eq_true (List.all_eq_true.1 this _ (FM.lH hk))
theorem j6 {s:FM.Sp} (h:ql s) (hl:s.live=true):FM.aU s=true:=by
 unfold FM.aU
 rw[if_pos hl,decide_eq_true h.check,decide_eq_true h.nums]
 have:FM.sized s.aj=true:=by
  unfold FM.sized
  rw[List.all_eq_true]
  intro p hp
  obtain⟨k,hk,rfl⟩:=FM.ie hp
  exact decide_eq_true (h.size k hk)
 rw[this];rfl
theorem ql.nO {s:FM.Sp} (h:ql s):FW.yj s.aj:=FW.Fg (by rw[h.nums];exact(FM.lW h.check).sorted)
theorem Mg:∀(l:List FM.Sp) (k:Nat) (s:FM.Sp),k<l.length->FM.room (l.set k s)=FM.room l-AM.br (FM.ax l k).aw+AM.br s.aw:=fun l k s hk=>by
 have key:∀n,n<=l.length->FM.eT (l.set k s) n=FM.eT l n+(if k<n then AM.br s.aw-AM.br (FM.ax l k).aw else 0):=fun n=>by
  induction n with
  | zero=>intro _;rw[if_neg (by omega)];rfl
  | succ n ih =>
   intro hn
   show FM.eT (l.set k s) n+AM.br (FM.ax (l.set k s) n).aw=FM.eT l n+AM.br (FM.ax l n).aw+_
   rw[ih (by omega),m7 l k n s hk]
   by_cases c:n=k
   · subst c
     rw[if_pos rfl,if_neg (by omega),if_pos (by omega)]
     omega
   · rw[if_neg c]
     by_cases d:k<n
     · rw[if_pos d,if_pos (by omega)];omega
     · rw[if_neg d,if_neg (by omega)];omega
 unfold FM.room
 rw[List.length_set,key _ (Nat.le_refl _),if_pos hk]
 omega
theorem JV (l:List FM.Sp) (s:FM.Sp):FM.room (l++[s])=FM.room l+AM.br s.aw:=by
 have key:∀n,n<=l.length->FM.eT (l++[s]) n=FM.eT l n:=fun n=>by
  induction n with
  | zero=>intro _;rfl
  | succ n ih =>
   intro hn
   show FM.eT (l++[s]) n+AM.br (FM.ax (l++[s]) n).aw=FM.eT l n+AM.br (FM.ax l n).aw
   rw[ih (by omega)]
   congr 3
   unfold FM.ax
   rw[List.getD_eq_getElem?_getD,List.getD_eq_getElem?_getD,List.getElem?_append_left (by omega)]
 unfold FM.room
 rw[List.length_append,List.length_singleton]
 show FM.eT (l++[s]) l.length+AM.br (FM.ax (l++[s]) l.length).aw=_
 rw[key _ (Nat.le_refl _)]
 congr 3
 unfold FM.ax
 rw[List.getD_eq_getElem?_getD,List.getElem?_append_right (Nat.le_refl _),Nat.sub_self]
 rfl
theorem nJ {a b:List Int} (ha:a.Pairwise (·<·)) (hb:b.Pairwise (·<·)) (h:∀x,x∈a↔x∈b):a=b :=
 FM.tT b a ha hb (fun x hx=>(h x).1 hx) (Nat.le_antisymm (FM.m8 b a ha hb (fun x hx=>(h x).1 hx)) (FM.m8 a b hb ha (fun x hx=>(h x).2 hx)))
theorem eG {l:List AM.Ar} (hc:AM.aD l=0) {x:Int}:x∈FM.bk l↔(AM.aW l x).2=true:=(FM.qc hc x).symm
theorem nP {l:List AM.Ar} (hc:AM.aD l=0) {x:Int} (h:x∈FM.bk l):1<=x/\x<256:=by
 have:=FM.cU hc (eG hc |>.1 h)
 omega
theorem ll {l:List AM.Ar} {p n q:Int} (hc:AM.aD l=0) (h:(AW.dF l p n q).2=0):AM.aD (AW.dF l p n q).1=0/\(1<=p/\1<=n/\p+n<=256)/\(∀x,x∈FM.bk (AW.dF l p n q).1↔(x∈FM.bk l∨(p<=x/\x<p+n)))/\(∀x,p<=x->x<p+n->x∉FM.bk l):=by
 obtain⟨h1,h2⟩:=AW.zX l p n q h
 obtain⟨_,jl,_,_,_⟩:=AW.ml _ _ _ _ _ h
 have hpb:=(AM.dv p n).1 jl
 refine⟨h1,by omega,fun x=>?_,fun x g1 g2 hx=>?_⟩
 · rw[eG h1,eG hc]
   by_cases c:1<=x/\x<=255
   · obtain⟨m,rfl⟩:∃m:Nat,x=(m:Int):=⟨x.toNat,by omega⟩
     obtain⟨k1,k2⟩:=h2 m (by omega) (by omega)
     by_cases d:p<=(m:Int)/\(m:Int)<p+n
     · exact⟨fun _=>.inr d,fun _=>(k1 d).2.1⟩
     · rw[(k2 d).1]
       exact⟨fun g=>.inl g,fun g=>by rcases g with g | g;exact g;exact(d g).elim⟩
   · constructor
     · intro g
       have:=FM.cU h1 g
       omega
     · rintro(g | g)
       · have:=FM.cU hc g
         omega
       · omega
 · obtain⟨m,rfl⟩:∃m:Nat,x=(m:Int):=⟨x.toNat,by omega⟩
   have:=(h2 m (by omega) (by omega)).1 ⟨g1,g2⟩
   rw[eG hc,this.1] at hx
   cases hx
theorem o7 {l:List AM.Ar} {p n:Int} (hc:AM.aD l=0) (h:(AW.bP l p n).2=0):AM.aD (AW.bP l p n).1=0/\(1<=p/\1<=n/\p+n<=256)/\(∀x,x∈FM.bk (AW.bP l p n).1↔(x∈FM.bk l/\¬(p<=x/\x<p+n))):=by
 obtain⟨h1,h2⟩:=AW.CJ l p n h
 obtain⟨_,jl,_,_,_⟩:=AW.ml _ _ _ _ _ h
 have hpb:=(AM.dv p n).1 jl
 refine⟨h1,by omega,fun x=>?_⟩
 rw[eG h1,eG hc]
 by_cases c:1<=x/\x<=255
 · obtain⟨m,rfl⟩:∃m:Nat,x=(m:Int):=⟨x.toNat,by omega⟩
   obtain⟨k1,k2⟩:=h2 m (by omega) (by omega)
   by_cases d:p<=(m:Int)/\(m:Int)<p+n
   · rw[k1 d]
     exact⟨(fun g=>by cases g),fun g=>(g.2 d).elim⟩
   · rw[(k2 d).1]
     exact⟨fun g=>⟨g,d⟩,fun g=>g.1⟩
 · constructor
   · intro g
     have:=FM.cU h1 g
     omega
   · rintro⟨g,_⟩
     have:=FM.cU hc g
     omega
theorem mM {l:List AM.Ar} {p n q:Int} (hc:AM.aD l=0) (h:(AW.bg l p n q).2=0):AM.aD (AW.bg l p n q).1=0/\FM.bk (AW.bg l p n q).1=FM.bk l:=by
 obtain⟨h1,h2⟩:=AW.yT l p n q h
 refine⟨h1,nJ (FM.lW h1).sorted (FM.lW hc).sorted (fun x=>?_)⟩
 rw[eG h1,eG hc]
 by_cases c:1<=x/\x<=255
 · obtain⟨m,rfl⟩:∃m:Nat,x=(m:Int):=⟨x.toNat,by omega⟩
   rw[(h2 m (by omega) (by omega)).1.1]
 · constructor
   · intro g
     have:=FM.cU h1 g
     omega
   · intro g
     have:=FM.cU hc g
     omega
theorem qj {l:List AM.Ar} {a way:Int}:∀{k:Nat},(FM.bB l a way k).1=0->∀j,j<k->FM.eu l (a+j) way=(0,0)
 | 0,_,j,hj=>by omega
 | k+1,h,j,hj=>by
  have h0:(FM.bB l a way k).1=0:=by
   by_cases c:(FM.bB l a way k).1=0
   · exact c
   · rw[FM.bB,if_neg c] at h
     exact(c h).elim
  by_cases e:j=k
  · subst e
    rw[FM.bB,if_pos h0] at h
    exact(FM.lB h).1
  · exact qj h0 j (by omega)
theorem uW {l:List AM.Ar} {a n way:Int} (h:(FM.bG l a n way).1=0):FM.bG l a n way=(0,0)/\(FM.bB l a way n.toNat).1=0:=by
 unfold FM.bG at h ⊢
 by_cases c:way=2/\¬a%8=0
 · rw[if_pos c] at h
   cases h
 · rw[if_neg c] at h ⊢
   refine⟨?_,h⟩
   cases hn:n.toNat with
   | zero=>rfl
   | succ m =>
    rw[hn] at h
    have:=qj h m (by omega)
    rw[FM.bB] at h ⊢
    split at h
    · rename_i g
      rw[if_pos g];exact this
    · rename_i g
      exact(g h).elim
structure Reach (ps:List FM.Pg) (a n:Int) (i:Nat):Prop where
 lt:i<ps.length
 first:(FM.aN ps i).page=a/16
 low:16<=a
 high:a+n<=4096
 last:cW a n=a/16∨cW a n=a/16+1/\i+1<ps.length/\(FM.aN ps (i+1)).page=cW a n
theorem Dq {s:FM.Sp} (h:ql s) {p:Int} (hp:(AM.aW s.aw p).2=true):∃i,i<s.aj.length/\(FM.aN s.aj i).page=p:=by
 have hm:=(FM.qc h.check p).1 hp
 rw[<- h.nums] at hm
 obtain⟨g,hg,e⟩:=List.mem_map.1 hm
 obtain⟨i,hi,rfl⟩:=FM.ie hg
 exact⟨i,hi,e⟩
theorem ng {s:FM.Sp} (h:ql s) {a n way:Int} (hn:1<=n) (QO:n<=16) (hf:(FM.bG s.aw a n way).1=0):∃i,Reach s.aj a n i:=by
 obtain⟨_,hb⟩:=uW hf
 have h0:=FM.lB (by rw[qj hb 0 (by omega)]:(FM.eu s.aw (a+(0:Nat)) way).1=0)
 have hl:=FM.lB (by rw[qj hb (n.toNat-1) (by omega)]:(FM.eu s.aw (a+((n.toNat-1:Nat):Int)) way).1=0)
 have e0:a+((0:Nat):Int)=a:=by omega
 have el:a+((n.toNat-1:Nat):Int)=a+n-1:=by omega
 rw[e0] at h0
 rw[el] at hl
 obtain⟨_,ha0,hp0,_⟩:=h0
 obtain⟨_,hal,hpl,_⟩:=hl
 have r0:=FM.cU h.check hp0
 have rl:=FM.cU h.check hpl
 obtain⟨i,hi,ei⟩:=Dq h hp0
 refine⟨i,hi,ei,by omega,by omega,?_⟩
 by_cases c:cW a n=a/16
 · exact .inl c
 · have c2:cW a n=a/16+1:=by unfold cW at c ⊢;omega
   obtain⟨j,hj,ej⟩:=Dq h hpl
   have ej':(FM.aN s.aj j).page=a/16+1:=by rw[ej];exact c2
   have hr:=h.nO
   have hij:i<j:=by
    rcases Nat.lt_trichotomy i j with g | g | g
    · exact g
    · subst g;omega
    · have:=hr j i g hi;omega
   have hj1:j=i+1:=by
    by_cases g:j=i+1
    · exact g
    · have g1:=hr i (i+1) (by omega) (by omega)
      have g2:=hr (i+1) j (by omega) hj
      omega
   subst hj1
   exact .inr ⟨c2,hj,ej⟩
theorem zO {ps:List FM.Pg} (hr:FW.yj ps) {i:Nat} (hi:i<ps.length) {p:Int} (hp:(FM.aN ps i).page=p):rY ps p=(FM.aN ps i).data:=by
 unfold rY
 rw[FW.sH ps p i hi (fun j hj e=>by have:=hr j i hj hi;omega) hp]
 rfl
theorem lu {s:FM.Sp} (h:ql s) {a n:Int} {i:Nat} (hr:Reach s.aj a n i):((eH s.aj a n).size=16/\cW a n=a/16)∨((eH s.aj a n).size=32/\cW a n=a/16+1):=by
 unfold eH
 rcases hr.last with c | ⟨c,hl,e⟩
 · rw[if_pos c,zO h.nO hr.lt hr.first]
   exact .inl ⟨h.size i hr.lt,c⟩
 · rw[if_neg (by omega),zO h.nO hr.lt hr.first,zO h.nO hl e,ByteArray.size_append,h.size i hr.lt,h.size _ hl]
   exact .inr ⟨rfl,c⟩
theorem zY {s:FM.Sp} (h:ql s) {a n:Int} (hn:1<=n) {i:Nat} (hr:Reach s.aj a n i):((ig s.aj a n).size:Int)=n:=by
 unfold ig
 rw[ByteArray.size_extract]
 have h1:=hr.low
 have h2:=hr.high
 rcases lu h hr with⟨e1,e2⟩ | ⟨e1,e2⟩
 · unfold cW at e2
   rw[e1];omega
 · unfold cW at e2
   rw[e1];omega
theorem wD (p:Int) (d:ByteArray) (ps:List FM.Pg):FM.numbers (mv p d ps)=FM.numbers ps:=by
 unfold FM.numbers mv
 rw[List.map_map]
 apply List.map_congr_left
 intro g _
 show(if g.page=p then (⟨p,d⟩:FM.Pg) else g).page=g.page
 split
 · rename_i e;exact e.symm
 · rfl
theorem P5 (p:Int) (d:ByteArray) (ps:List FM.Pg):(mv p d ps).length=ps.length:=by unfold mv;rw[List.length_map]
theorem TF (p:Int) (d:ByteArray) (ps:List FM.Pg) (k:Nat) (hk:k<ps.length):FM.aN (mv p d ps) k=if (FM.aN ps k).page=p then ⟨p,d⟩ else FM.aN ps k:=by
 unfold FM.aN mv
 rw[List.getD_eq_getElem?_getD,List.getD_eq_getElem?_getD,List.getElem?_map,List.getElem?_eq_getElem hk]
 rfl
theorem wB (p:Int) (d:ByteArray) (hd:d.size=16) (ps:List FM.Pg) (h:∀k,k<ps.length->(FM.aN ps k).data.size=16):∀k,k<(mv p d ps).length->(FM.aN (mv p d ps) k).data.size=16:=fun k hk=>by
 rw[P5] at hk
 rw[TF p d ps k hk]
 split
 · exact hd
 · exact h k hk
theorem JF {s:FM.Sp} (h:ql s) {a:Int} {d:ByteArray} {i:Nat} (hd:1<=d.size) (hr:Reach s.aj a d.size i):ql { s with aj:=fT s.aj a d }:=by
 have h1:=hr.low
 have hov:(CL.over (eH s.aj a d.size) (a%16).toNat d).size=(eH s.aj a d.size).size:=by
  apply CL.jz
  rcases lu h hr with⟨e1,e2⟩ | ⟨e1,e2⟩ <;> (unfold cW at e2;rw[e1];omega)
 refine⟨h.check,?_,?_⟩
 · show FM.numbers (fT s.aj a d)=_
   unfold fT
   split
   · rw[wD];exact h.nums
   · rw[wD,wD];exact h.nums
 · show ∀k,k<(fT s.aj a d).length->(FM.aN (fT s.aj a d) k).data.size=16
   unfold fT
   rcases lu h hr with⟨e1,e2⟩ | ⟨e1,e2⟩
   · rw[if_pos e2]
     exact wB _ _ (by rw[ByteArray.size_extract,hov,e1];rfl) _ h.size
   · rw[if_neg (by omega)]
     exact wB _ _ (by rw[ByteArray.size_extract,hov,e1];rfl) _ (wB _ _ (by rw[ByteArray.size_extract,hov,e1];rfl) _ h.size)
theorem A6 {ps:List FM.Pg} (h:(FM.numbers ps).Pairwise (·<·)) (p:Int):∀x,x∈FM.numbers (ps.drop (rh ps p))->p<=x:=by
 unfold rh
 induction ps with
 | nil=>intro x hx;cases hx
 | cons g r ih =>
  intro x hx
  have hp:=List.pairwise_cons.1 (show(g.page::FM.numbers r).Pairwise (·<·) from h)
  by_cases c:g.page<p
  · rw[List.takeWhile_cons_of_pos (by simpa using c),List.length_cons,List.drop_succ_cons] at hx
    exact ih hp.2 x hx
  · rw[List.takeWhile_cons_of_neg (by simpa using c)] at hx
    rcases List.mem_cons.1 (show x∈g.page::FM.numbers r from hx) with e | e
    · omega
    · have:=hp.1 x e;omega
theorem LR (ps:List FM.Pg) (p:Int):∀x,x∈FM.numbers (ps.take (rh ps p))->x<p:=by
 unfold rh
 induction ps with
 | nil=>intro x hx;cases hx
 | cons g r ih =>
  intro x hx
  by_cases c:g.page<p
  · rw[List.takeWhile_cons_of_pos (by simpa using c),List.length_cons,List.take_succ_cons] at hx
    rcases List.mem_cons.1 (show x∈g.page::FM.numbers (r.take _) from hx) with e | e
    · omega
    · exact ih x e
  · rw[List.takeWhile_cons_of_neg (by simpa using c)] at hx
    cases hx
theorem qG (p:Int) (n:Nat):FM.numbers (gS p n)=FM.run p n:=by
 unfold FM.numbers gS
 rw[List.map_map]
 exact List.map_id _
theorem nums_append (a b:List FM.Pg):FM.numbers (a++b)=FM.numbers a++FM.numbers b:=by unfold FM.numbers;rw[List.map_append]
theorem Io {s:FM.Sp} (h:ql s) {p n q:Int} (hm:(AW.dF s.aw p n q).2=0):ql { s with aw:=(AW.dF s.aw p n q).1,aj:=iZ s.aj p n.toNat }:=by
 obtain⟨h1,h2,h3,h4⟩:=ll h.check hm
 have hs:(FM.numbers s.aj).Pairwise (·<·):=by rw[h.nums];exact(FM.lW h.check).sorted
 have Bp:FM.numbers s.aj=FM.numbers (s.aj.take (rh s.aj p))++FM.numbers (s.aj.drop (rh s.aj p)):=by rw[<- nums_append,List.take_append_drop]
 rw[Bp] at hs
 obtain⟨q1,q2,q3⟩:=List.pairwise_append.1 hs
 have hlo:=LR s.aj p
 have hhi:=A6 (ps:=s.aj) (by rw[Bp];exact hs) p
 have ab2:∀x,x∈FM.numbers (s.aj.drop (rh s.aj p))->p+n<=x:=fun x hx=>by
  have g1:=hhi x hx
  by_cases c:x<p+n
  · exfalso
    refine h4 x g1 c ?_
    rw[<- h.nums,Bp]
    exact List.mem_append_right _ hx
  · omega
 refine⟨h1,?_,?_⟩
 · show FM.numbers (iZ s.aj p n.toNat)=_
   refine nJ ?_ (FM.lW h1).sorted (fun x=>?_)
   · unfold iZ
     rw[nums_append,nums_append,qG]
     refine List.pairwise_append.2 ⟨q1,List.pairwise_append.2 ⟨FM.nM _ _,q2,fun x hx y hy=>?_⟩,fun x hx y hy=>?_⟩
     · have:=(FM.jM _ _ _).1 hx
       have:=ab2 y hy
       omega
     · have g1:=hlo x hx
       rcases List.mem_append.1 hy with g | g
       · have:=(FM.jM _ _ _).1 g;omega
       · have:=hhi y g;omega
   · rw[h3]
     unfold iZ
     rw[nums_append,nums_append,qG,List.mem_append,List.mem_append,FM.jM,<- h.nums,Bp,List.mem_append]
     constructor
     · rintro(g | g | g)
       · exact .inl (.inl g)
       · exact .inr (by omega)
       · exact .inl (.inr g)
     · rintro((g | g) | g)
       · exact .inl g
       · exact .inr (.inr g)
       · exact .inr (.inl (by omega))
 · intro k hk
   have hm2:=FM.lH hk
   have:∀g∈iZ s.aj p n.toNat,g.data.size=16:=fun g hg=>by
    unfold iZ at hg
    have old:∀g∈s.aj,g.data.size=16:=fun g hg=>by
     obtain⟨k,hk,rfl⟩:=FM.ie hg
     exact h.size k hk
    rcases List.mem_append.1 hg with e | e
    · exact old g (List.mem_of_mem_take e)
    · rcases List.mem_append.1 e with e | e
      · obtain⟨x,_,rfl⟩:=List.mem_map.1 e
        rfl
      · exact old g (List.mem_of_mem_drop e)
   exact this _ hm2
theorem zD {s:FM.Sp} (h:ql s) {p n:Int} (hm:(AW.bP s.aw p n).2=0):ql { s with aw:=(AW.bP s.aw p n).1,aj:=iH s.aj p n }:=by
 obtain⟨h1,h2,h3⟩:=o7 h.check hm
 have hs:(FM.numbers s.aj).Pairwise (·<·):=by rw[h.nums];exact(FM.lW h.check).sorted
 refine⟨h1,?_,?_⟩
 · show FM.numbers (iH s.aj p n)=_
   refine nJ ?_ (FM.lW h1).sorted (fun x=>?_)
   · unfold FM.numbers iH
     exact List.Pairwise.sublist ((List.filter_sublist).map _) hs
   · rw[h3,<- h.nums]
     unfold FM.numbers iH
     simp only[List.mem_map,List.mem_filter]
     constructor
     · rintro⟨g,⟨h5,h6⟩,rfl⟩
       exact⟨⟨g,h5,rfl⟩,by simp at h6;omega⟩
     · rintro⟨⟨g,h5,rfl⟩,h6⟩
       exact⟨g,⟨h5,by simp;omega⟩,rfl⟩
 · intro k hk
   have hm2:=FM.lH hk
   have:∀g∈iH s.aj p n,g.data.size=16:=fun g hg=>by
    unfold iH at hg
    obtain⟨k,hk,rfl⟩:=FM.ie (List.mem_filter.1 hg).1
    exact h.size k hk
   exact this _ hm2
theorem dU {s:FM.Sp} (h:ql s):AM.br s.aw=(s.aj.length:Int):=by
 rw[FM.mn h.check,<- h.nums]
 unfold FM.numbers
 rw[List.length_map]
theorem ml {m:Mf} {fl:List Bool} (h:qy m fl) {k:Nat} (hk:k<m.ak.length) {s:FM.Sp} (hs:FM.aU s=true) (hr:FM.room m.ak-AM.br (FM.ax m.ak k).aw+AM.br s.aw<=m.slots):qy (gB m k s) (fl.set k s.live):=by
 refine⟨?_,fun j hj=>?_,?_,h.slots,?_⟩
 · rw[h.flags]
   show(m.ak.map (·.live)).set k s.live=(m.ak.set k s).map (·.live)
   rw[List.map_set]
 · have hj':j<m.ak.length:=by
    have:j<(m.ak.set k s).length:=hj
    rw[List.length_set] at this;exact this
   show FM.aU (FM.ax (m.ak.set k s) j)=true
   rw[m7 _ _ _ _ hk]
   split
   · exact hs
   · exact h.each j hj'
 · show FM.room (m.ak.set k s)<=m.slots
   rw[Mg _ _ _ hk];exact hr
 · show 1<=(m.ak.set k s).length/\(m.ak.set k s).length<=4
   rw[List.length_set];exact h.few
theorem L4 (fl:List Bool) (k:Nat) (b:Bool) (h:fl.getD k false=b):fl.set k b=fl:=by
 apply List.ext_getElem?
 intro j
 rw[List.getElem?_set]
 by_cases e:k=j
 · subst e
   by_cases c:k<fl.length
   · rw[List.getD_eq_getElem?_getD,List.getElem?_eq_getElem c] at h
     rw[if_pos rfl,if_pos c,List.getElem?_eq_getElem c]
     exact congrArg some h.symm
   · rw[if_pos rfl,if_neg c,List.getElem?_eq_none (by omega)]
 · rw[if_neg e]
theorem pU {m:Mf} {fl:List Bool} (h:qy m fl) {k:Nat} (hf:fl.getD k false=true) (hk:k<m.ak.length) {s:FM.Sp} (hl:s.live=true) (hs:FM.aU s=true) (hr:FM.room m.ak-AM.br (FM.ax m.ak k).aw+AM.br s.aw<=m.slots):qy (gB m k s) fl:=by
 have:=ml h hk hs hr
 rw[hl,L4 fl k true hf] at this
 exact this
theorem KN (l:List AM.Ar) (p way:Int):0<=(FM.eu l p way).1/\(FM.eu l p way).1<=4:=by
 unfold FM.eu
 split
 · exact⟨by simp[FM.bB,AW.aL],by simp[FM.bB,AW.aL]⟩
 · split <;> exact⟨by simp[FM.bB,AW.aL],by simp[FM.bB,AW.aL]⟩
theorem yc (l:List AM.Ar) (a way:Int):∀k,0<=(FM.bB l a way k).1/\(FM.bB l a way k).1<=4
 | 0=>⟨by simp[FM.bB,AW.aL],by simp[FM.bB,AW.aL]⟩
 | k+1=>by
  rw[FM.bB]
  split
  · exact KN _ _ _
  · exact yc l a way k
theorem xO (l:List AM.Ar) (a n way:Int):0<=(FM.bG l a n way).1/\(FM.bG l a n way).1<=4:=by
 unfold FM.bG
 split
 · exact⟨by simp[FM.bB,AW.aL],by simp[FM.bB,AW.aL]⟩
 · exact yc _ _ _ _
theorem Uc (ps:List FM.Pg) (p:Int):rh ps p<=ps.length:=by
 unfold rh
 exact List.Sublist.length_le (List.takeWhile_sublist _)
theorem QD (ps:List FM.Pg) (p:Int) (n:Nat):(iZ ps p n).length=ps.length+n:=by
 have:=Uc ps p
 unfold iZ gS
 rw[List.length_append,List.length_append,List.length_take,List.length_drop,List.length_map,FM.nN]
 omega
theorem QK (q:Int) (s:AM.St):0<=(AW.bF q s).2/\(AW.bF q s).2<=10:=by
 unfold AW.bF
 split <;> exact⟨by simp[FM.bB,AW.aL],by simp[FM.bB,AW.aL]⟩
theorem Kh (s:AM.St):0<=(AW.aL s).2/\(AW.aL s).2<=10:=⟨by simp[FM.bB,AW.aL],by simp[FM.bB,AW.aL]⟩
theorem Dx (q:Int) (s:AM.St):0<=(AW.aM q s).2/\(AW.aM q s).2<=10:=by
 unfold AW.aM
 split <;> exact⟨by simp[FM.bB,AW.aL],by simp[FM.bB,AW.aL]⟩
theorem NI (F:Nat->AM.St) (how:AM.St->AM.St×Int) (hh:∀s,0<=(how s).2/\(how s).2<=10):∀c n,0<=AM.b6 F how n c/\AM.b6 F how n c<=10
 | 0,n=>⟨by show(0:Int)<=0;omega,by show(0:Int)<=10;omega⟩
 | c+1,n=>by
  unfold AM.b6
  split
  · exact NI F how hh c (n+1)
  · exact hh _
theorem NW (l:List AM.Ar):0<=AM.aD l/\AM.aD l<=10:=by
 unfold AM.aD
 split
 · exact⟨by simp[FM.bB,AW.aL],by simp[FM.bB,AW.aL]⟩
 · split <;> exact⟨by simp[FM.bB,AW.aL],by simp[FM.bB,AW.aL]⟩
theorem oQ (l:List AM.Ar) (p n q:Int) (how:AM.St->AM.St×Int) (hh:∀s,0<=(how s).2/\(how s).2<=10):0<=(AM.cH l p n q how).2/\(AM.cH l p n q how).2<=10:=by
 unfold AM.cH
 split
 · split
   · split
     · exact⟨by simp[FM.bB,AW.aL],by simp[FM.bB,AW.aL]⟩
     · exact NI _ _ hh _ _
   · exact⟨by simp[FM.bB,AW.aL],by simp[FM.bB,AW.aL]⟩
 · exact NW l
theorem IK:GG.Av aQ qy where
 load:=fun s fl k a n way h hk=>by
  show qy (fu s k a n way).2 fl
  unfold fu
  split <;> exact h
 size:=fun s fl k a n way h hk hn QO hf=>by
  obtain⟨hlt,hlv⟩:=h.live hk
  have hL:=fX (h.each k hlt) hlv
  have hf':(fu s k a n way).1.2.1=0:=hf
  show((fu s k a n way).1.1.size:Int)=n
  unfold fu at hf' ⊢
  by_cases c:(FM.bG (FM.ax s.ak k).aw a n way).1=0
  · rw[if_pos c]
    obtain⟨i,hi⟩:=ng hL hn (by omega) c
    exact zY hL hn hi
  · rw[if_neg c] at hf'
    exact(c hf').elim
 fault:=fun s fl k a n way h hk=>by
  show 0<=(fu s k a n way).1.2.1/\(fu s k a n way).1.2.1<=4/\((fu s k a n way).1.2.1=0->(fu s k a n way).1.2=(0,0))
  unfold fu
  have:=xO (FM.ax s.ak k).aw a n way
  split
  · exact⟨by simp,by simp,fun _=>rfl⟩
  · rename_i c
    exact⟨this.1,this.2,fun g=>(c g).elim⟩
 none:=fun s fl k a n way h hk hf=>by
  have hf':¬(fu s k a n way).1.2.1=0:=hf
  show(fu s k a n way).1.1=⟨#[]⟩
  unfold fu at hf' ⊢
  split
  · rename_i c
    rw[if_pos c] at hf'
    exact(hf' rfl).elim
  · rfl
 store:=fun s fl k a d h hk hd1 hd8=>by
  obtain⟨hlt,hlv⟩:=h.live hk
  have hL:=fX (h.each k hlt) hlv
  show qy (ku s k a d).2 fl
  unfold ku
  split
  · rename_i c
    obtain⟨i,hi⟩:=ng hL (by omega) (by omega) c
    have hL2:=JF hL hd1 hi
    exact pU h hk hlt hlv (j6 hL2 hlv) (by
      have:=h.room
      show FM.room s.ak-AM.br (FM.ax s.ak k).aw+AM.br (FM.ax s.ak k).aw<=s.slots
      omega)
  · exact h
 NF:=fun s fl k a d h hk=>by
  show 0<=(ku s k a d).1.1/\(ku s k a d).1.1<=4/\((ku s k a d).1.1=0->(ku s k a d).1=(0,0))
  unfold ku
  have:=xO (FM.ax s.ak k).aw a d.size 1
  split
  · exact⟨by simp,by simp,fun _=>rfl⟩
  · rename_i c
    exact⟨this.1,this.2,fun g=>(c g).elim⟩
 map:=fun s fl k p n q h hk=>by
  obtain⟨hlt,hlv⟩:=h.live hk
  have hL:=fX (h.each k hlt) hlv
  show qy (mapM s k p n q).2 fl
  unfold mapM
  split
  · exact h
  · rename_i c
    have c':(AW.dF (FM.ax s.ak k).aw p n q).2=0:=Decidable.not_not.1 c
    split
    · exact h
    · rename_i c2
      have hL2:=Io hL c'
      exact pU h hk hlt hlv (j6 hL2 hlv) (by
       rw[dU hL,dU hL2]
       have hlen:=(ll hL.check c').2.1
       have:(iZ (FM.ax s.ak k).aj p n.toNat).length=(FM.ax s.ak k).aj.length+n.toNat:=QD _ _ _
       show FM.room s.ak-((FM.ax s.ak k).aj.length:Int)+((iZ (FM.ax s.ak k).aj p n.toNat).length:Int)<=s.slots
       rw[this]
       omega)
 jV:=fun s fl k p n h hk=>by
  obtain⟨hlt,hlv⟩:=h.live hk
  have hL:=fX (h.each k hlt) hlv
  show qy (gU s k p n).2 fl
  unfold gU
  split
  · exact h
  · rename_i c
    have c':(AW.bP (FM.ax s.ak k).aw p n).2=0:=Decidable.not_not.1 c
    have hL2:=zD hL c'
    exact pU h hk hlt hlv (j6 hL2 hlv) (by
      rw[dU hL,dU hL2]
      have:(iH (FM.ax s.ak k).aj p n).length<=(FM.ax s.ak k).aj.length:=List.length_filter_le _ _
      show FM.room s.ak-((FM.ax s.ak k).aj.length:Int)+((iH (FM.ax s.ak k).aj p n).length:Int)<=s.slots
      have:=h.room
      omega)
 fq:=fun s fl k p n q h hk=>by
  obtain⟨hlt,hlv⟩:=h.live hk
  have hL:=fX (h.each k hlt) hlv
  show qy (ez s k p n q).2 fl
  unfold ez
  split
  · exact h
  · rename_i c
    have c':(AW.bg (FM.ax s.ak k).aw p n q).2=0:=Decidable.not_not.1 c
    obtain⟨g1,g2⟩:=mM hL.check c'
    have hL2:ql { FM.ax s.ak k with aw:=(AW.bg (FM.ax s.ak k).aw p n q).1 }:=⟨g1,by show FM.numbers (FM.ax s.ak k).aj=_;rw[hL.nums];exact g2.symm,hL.size⟩
    exact pU h hk hlt hlv (j6 hL2 hlv) (by
      have e1:AM.br (AW.bg (FM.ax s.ak k).aw p n q).1=((FM.ax s.ak k).aj.length:Int):=dU hL2
      have e2:=dU hL
      have:=h.room
      show FM.room s.ak-AM.br (FM.ax s.ak k).aw+AM.br (AW.bg (FM.ax s.ak k).aw p n q).1<=s.slots
      omega)
 Nw:=fun s fl k h hk hf=>by
  have hf':¬(pA s k).1=0:=hf
  show qy (pA s k).2 fl
  unfold pA at hf' ⊢
  split
  · exact h
  · split
    · exact h
    · rename_i c1 c2
      rw[if_neg c1,if_neg c2] at hf'
      exact(hf' rfl).elim
 IJ:=fun s fl k h hk hf=>by
  obtain⟨hlt,hlv⟩:=h.live hk
  have hf':(pA s k).1=0:=hf
  show qy (pA s k).2 (fl++[true])
  unfold pA at hf' ⊢
  by_cases c1:4<=s.ak.length
  · rw[if_pos c1] at hf';cases hf'
  · rw[if_neg c1] at hf' ⊢
    by_cases c2:s.slots<FM.room s.ak+AM.br (FM.ax s.ak k).aw
    · rw[if_pos c2] at hf';cases hf'
    · rw[if_neg c2]
      refine⟨?_,fun j hj=>?_,?_,h.slots,?_⟩
      · rw[h.flags]
        show _=(s.ak++[FM.ax s.ak k]).map (·.live)
        rw[List.map_append,List.map_singleton,hlv]
      · have hj':j<(s.ak++[FM.ax s.ak k]).length:=hj
        rw[List.length_append,List.length_singleton] at hj'
        show FM.aU (FM.ax (s.ak++[FM.ax s.ak k]) j)=true
        by_cases c:j<s.ak.length
        · have:FM.ax (s.ak++[FM.ax s.ak k]) j=FM.ax s.ak j:=by
           unfold FM.ax
           rw[List.getD_eq_getElem?_getD,List.getElem?_append_left c,<- List.getD_eq_getElem?_getD]
          rw[this];exact h.each j c
        · have:FM.ax (s.ak++[FM.ax s.ak k]) j=FM.ax s.ak k:=by
           obtain rfl:j=s.ak.length:=by omega
           show(s.ak++[FM.ax s.ak k]).getD s.ak.length FM.E6=_
           rw[List.getD_eq_getElem?_getD,List.getElem?_append_right (Nat.le_refl _),Nat.sub_self]
           rfl
          rw[this];exact h.each k hlt
      · show FM.room (s.ak++[FM.ax s.ak k])<=s.slots
        rw[JV];omega
      · show 1<=(s.ak++[FM.ax s.ak k]).length/\(s.ak++[FM.ax s.ak k]).length<=4
        rw[List.length_append,List.length_singleton];omega
 W7:=fun s fl k p n q h hk=>by
  show 0<=(mapM s k p n q).1/\(mapM s k p n q).1<=10
  unfold mapM
  split
  · exact oQ _ _ _ _ _ (QK q)
  · split <;> exact⟨by simp[FM.bB,AW.aL],by simp[FM.bB,AW.aL]⟩
 LN:=fun s fl k p n h hk=>by
  show 0<=(gU s k p n).1/\(gU s k p n).1<=10
  unfold gU
  split
  · exact oQ _ _ _ _ _ Kh
  · exact⟨by simp[FM.bB,AW.aL],by simp[FM.bB,AW.aL]⟩
 C8:=fun s fl k p n q h hk=>by
  show 0<=(ez s k p n q).1/\(ez s k p n q).1<=10
  unfold ez
  split
  · exact oQ _ _ _ _ _ (Dx q)
  · exact⟨by simp[FM.bB,AW.aL],by simp[FM.bB,AW.aL]⟩
 few:=fun s fl h=>by rw[h.flags,List.length_map];exact h.few.2
 drop:=fun s fl k h hk=>by
  obtain⟨hlt,hlv⟩:=h.live hk
  have hL:=fX (h.each k hlt) hlv
  have:=ml h hlt (s:=FM.E6) rfl (by
   have h0:AM.br FM.E6.aw=0:=rfl
   rw[h0,dU hL]
   have:=h.room
   omega)
  exact this
end GM
namespace FW
open Go.RowKit
def tB (l:List FM.Pg):Nat->ByteArray
 | 0=>⟨#[]⟩
 | k+1=>tB l k++(FM.aN l k).data
theorem Eb (l:List FM.Pg) (h:∀k,k<l.length->(FM.aN l k).data.size=16):∀k,k<=l.length->(tB l k).size=16*k
 | 0,_=>rfl
 | k+1,hk=>by
  show(tB l k++(FM.aN l k).data).size=_
  rw[ByteArray.size_append,Eb l h k (by omega),h k (by omega)]
  omega
theorem Dn (l:List FM.Pg) (ao:Option Addr) (cap:Nat) (w:World) (h:iN w ao l) (hz:∀k,k<l.length->(FM.aN l k).data.size=16) (hn:l.length<=1000) :
  Calls Tryz.prog 198 #[.slice ao l.length cap] w fun e w'=>e=.returned (.string (tB l l.length))/\Below w.heap.size w w':=by
 have HH:=ai h
 have HZ:=ai hz
 have Hr:=ai (Eb l hz)
 have HST:Hid (∀k,tB l (k+1)=tB l k++(FM.aN l k).data):=fun k=>rfl
 clear h hz
 go_enter Tryz.func198,Tryz.ntmps198
 go_wp2
 go_loopw [3,8] (fun sv iv wr=>∃k:Nat,k<=l.length/\iv=I (k:Int)/\sv=.string (tB l k)/\Below w.heap.size w wr) (fun _ iv _=>l.length-(intOf iv).toNat)
 case atStart=>exact⟨0,by omega,rfl,rfl,Below.refl _ _⟩
 case round =>
  obtain⟨k,hk,rfl,rfl,hb⟩:=hrel
  have HB:=ai hb
  by_cases hlt:k<l.length
  · obtain⟨b,off,hao,hbl,bQ⟩:=(HH.o.below hb) (by omega)
    subst hao
    obtain⟨c0,c1⟩:=bQ k hlt
    have Bu:=HZ.o k hlt
    have hcs:=Hr.o k hk
    have hst:=HST.o k
    obtain⟨⟨pg,dt⟩,hq⟩:∃q,q=FM.aN l k:=⟨_,rfl⟩
    rw[<- hq] at c0 c1 Bu hst
    simp only at c0 c1 Bu hst
    obtain⟨A,hA⟩:=ex (tB l k)
    rw[<- hA] at hcs hst ⊢
    have qm:=ai hst
    have ahg:A.size+dt.size<=20000:=by omega
    clear hq hA bQ hb hst hcs Bu
    go_wp2
    go_roundw
    case rel=>exact⟨k+1,by omega,by go_num,by rw[qm.o],HB.o.alloc HB.o.size _⟩
    case measure=>simp[intOf];omega
  · obtain rfl:k=l.length:=by omega
    clear hb
    go_wp2
    go_ret
    exact⟨rfl,HB.o⟩
end FW
end Go.Proofs.YtkdigjpejnebkaaGreat
