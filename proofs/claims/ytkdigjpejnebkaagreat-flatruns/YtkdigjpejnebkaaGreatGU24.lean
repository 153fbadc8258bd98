import Derived.Test.YtkdigjpejnebkaaGreatGU00
import Derived.Test.YtkdigjpejnebkaaGreatGU23
import Derived.Test.YtkdigjpejnebkaaGreatGU12
set_option maxHeartbeats 20000000
set_option linter.unusedVariables false
set_option maxRecDepth 100000
set_option linter.unusedSimpArgs false
namespace Go.Proofs.YtkdigjpejnebkaaGreat
namespace GR
open Go.RowKit
theorem xX {f:FM.Fl} (hc:FM.ct f=true):f.ak.length<=4/\f.procs.length=f.ak.length:=by
 unfold FM.ct at hc
 simp only[Bool.and_eq_true,decide_eq_true_eq] at hc
 exact⟨hc.1.2,hc.2.1⟩
theorem LS {l:List FM.Sp} {k:Nat} (h:k<l.length):FM.ax l k∈l:=by
 unfold FM.ax
 rw[List.getD_eq_getElem?_getD,List.getElem?_eq_getElem h]
 exact List.getElem_mem h
theorem ME {l:List FM.Sp} {p:FM.Sp} (h:p∈l):∃k,k<l.length/\FM.ax l k=p:=by
 obtain⟨k,hk⟩:=List.getElem?_of_mem h
 have hlt:k<l.length:=by
  rcases Nat.lt_or_ge k l.length with g | g
  · exact g
  · rw[List.getElem?_eq_none g] at hk
    cases hk
 refine⟨k,hlt,?_⟩
 unfold FM.ax
 rw[List.getD_eq_getElem?_getD,hk]
 rfl
theorem N1 {f:FM.Fl} (hc:FM.ct f=false):FM.cT f=2:=by
 unfold FM.cT
 rw[if_pos hc]
theorem IY {f:FM.Fl} (hc:FM.ct f=true) {k:Nat} (hk:k<f.ak.length) (h:FM.eW (FM.au f.procs k) (FM.ax f.ak k).live=false∨¬FM.gh (FM.ax f.ak k)):FM.cT f=1:=by
 unfold FM.cT
 rw[if_neg (by rw[hc];simp),if_neg]
 intro g
 rw[Bool.and_eq_true] at g
 obtain⟨g1,g2⟩:=g
 unfold FM.gF at g1
 rw[Bool.and_eq_true] at g1
 have hs:=List.all_eq_true.1 g1.1 _ (LS hk)
 rcases h with h | h
 · rw[FM.zK] at h
   unfold FM.iE at g2
   rw[Bool.and_eq_true] at g2
   have hh:(FM.bT (FM.au f.procs k)&&FM.Dh f k)=true:=List.all_eq_true.1 g2.1 k (List.mem_range.2 (by rw[(xX hc).2];exact hk))
   unfold FM.Dh at hh
   rw[hh] at h
   cases h
 · exact h ((FM.rE _).2 hs)
theorem Q6 {f:FM.Fl} (hc:FM.ct f=true) (h:∀k,k<f.ak.length->FM.eW (FM.au f.procs k) (FM.ax f.ak k).live=true/\FM.gh (FM.ax f.ak k)):FM.cT f=if decide (FM.jz f.ak f.ak.length<=f.slots)&&FM.dh f.out f.procs.length f.out.length then 0 else 1:=by
 have hl:=xX hc
 have h1:f.ak.all FM.aU=true:=by
  rw[List.all_eq_true]
  intro s hs
  obtain⟨k,hk,rfl⟩:=ME hs
  exact(FM.rE _).1 (h k hk).2
 have h2:(List.range f.procs.length).all (fun i=>FM.bT (FM.au f.procs i)&&FM.Dh f i)=true:=by
  rw[List.all_eq_true]
  intro k hk
  have:=(h k (by have:=List.mem_range.1 hk;omega)).1
  rw[FM.zK] at this
  exact this
 unfold FM.cT
 rw[if_neg (by rw[hc];simp)]
 unfold FM.gF FM.iE
 rw[h1,h2,Bool.true_and,Bool.true_and,show f.out.all (fun o=>decide (0<=o.proc/\o.proc<(f.procs.length:Int)))=FM.dh f.out f.procs.length f.out.length from FM.zB f.out f.procs.length]
 unfold FM.room
 rw[FM.zY _ h1 _ (Nat.le_refl _)]
def bN (s:FM.Sp) (k:Nat):Prop:=∀j,j<k->(AM.aX s.aw (FM.aN s.aj j).page).2=true/\(0<j->(FM.aN s.aj (j-1)).page<(FM.aN s.aj j).page)/\(FM.aN s.aj j).data.size=16
theorem iZ {s:FM.Sp} {k:Nat} (h:bN s k) (h1:(AM.aX s.aw (FM.aN s.aj k).page).2=true) (h2:0<k->(FM.aN s.aj (k-1)).page<(FM.aN s.aj k).page) (h3:(FM.aN s.aj k).data.size=16):bN s (k+1):=fun j hj=>by
 by_cases e:j=k
 · subst e
   exact⟨h1,h2,h3⟩
 · exact h j (by omega)
theorem QQ {s:FM.Sp} (h1:s.live=false->s.aw.length=0/\s.aj.length=0) (h2:AM.aD s.aw=0) (h3:(s.aj.length:Int)=AM.br s.aw) (h4:bN s s.aj.length):FM.gh s:=⟨h1,h2,h3,h4⟩
theorem Qp {l:List FM.Sp} (h:FW.yD l):∀k,k<=l.length->0<=FM.jz l k/\FM.jz l k<=140737488351232*(k:Int):=fun k=>by
 induction k with
 | zero=>intro _;exact⟨Int.le_refl _,Int.le_refl _⟩
 | succ k ih =>
  intro hk
  have h1:=ih (by omega)
  have h2:(FM.ax l k).aj.length<=140737488351232:=(h.2 k (by omega)).aj
  show 0<=FM.jz l k+((FM.ax l k).aj.length:Int)/\FM.jz l k+((FM.ax l k).aj.length:Int)<=_
  omega
theorem A4 (s:ByteArray) (q:Nat) (t:ByteArray) (x:Nat) (h:q+t.size<=s.size):(CL.over s q t).data.toList[x]?=if q<=x/\x<q+t.size then t.data.toList[x-q]? else s.data.toList[x]?:=by
 have hs:s.data.toList.length=s.size:=rfl
 have ht:t.data.toList.length=t.size:=rfl
 unfold CL.over
 rw[List.toList_toArray]
 by_cases c:x<q
 · rw[if_neg (by omega),List.append_assoc,List.getElem?_append_left (by rw[List.length_take];omega),List.getElem?_take,if_pos c]
 · by_cases d:x<q+t.size
   · rw[if_pos ⟨by omega,d⟩,List.append_assoc,List.getElem?_append_right (by rw[List.length_take];omega),List.length_take,Nat.min_eq_left (by omega),List.getElem?_append_left (by omega)]
   · rw[if_neg (by omega),List.getElem?_append_right (by rw[List.length_append,List.length_take];omega),List.length_append,List.length_take,Nat.min_eq_left (by omega),ht,List.getElem?_drop]
     congr 1
     omega
theorem P5 (s:ByteArray) (k:Nat) (h:k<s.size):(s.extract k (k+1)).data.toList[0]?=s.data.toList[k]?:=by
 rw[il,List.getElem?_drop,List.getElem?_take,if_pos (by omega),Nat.add_zero]
theorem C9 (s:ByteArray) (k:Nat) (h:k<s.size):(s.extract k (k+1)).size=1:=by
 rw[ByteArray.size_extract]
 omega
def Ev (p a:Int) (s d:ByteArray):Nat->ByteArray
 | 0=>d
 | k+1=>if p=(a+(k:Int))/16 then CL.over (Ev p a s d k) ((a+(k:Int))%16).toNat (s.extract k (k+1)) else Ev p a s d k
def cX (ps:List FM.Pg) (a:Int) (s:ByteArray) (k:Nat):List FM.Pg:=ps.map (fun g=>⟨g.page,Ev g.page a s g.data k⟩)
theorem AO {p a:Int} {s d:ByteArray} (hd:d.size=16) (ha:0<=a):∀k,k<=s.size->(Ev p a s d k).size=16/\∀x:Nat,x<16->(Ev p a s d k).data.toList[x]?=if a<=16*p+(x:Int)/\16*p+(x:Int)<a+(k:Int) then s.data.toList[(16*p+(x:Int)-a).toNat]? else d.data.toList[x]?:=fun k=>by
 induction k with
 | zero =>
  intro _
  refine⟨hd,fun x hx=>?_⟩
  rw[if_neg (by omega)]
  rfl
 | succ k ih =>
  intro hk
  obtain⟨i1,i2⟩:=ih (by omega)
  show((if p=(a+(k:Int))/16 then CL.over (Ev p a s d k) ((a+(k:Int))%16).toNat (s.extract k (k+1)) else Ev p a s d k):ByteArray).size=16/\∀x:Nat,x<16->((if p=(a+(k:Int))/16 then CL.over (Ev p a s d k) ((a+(k:Int))%16).toNat (s.extract k (k+1)) else Ev p a s d k):ByteArray).data.toList[x]?=_
  have h1:=C9 s k (by omega)
  by_cases c:p=(a+(k:Int))/16
  · rw[if_pos c]
    have hb:((a+(k:Int))%16).toNat+(s.extract k (k+1)).size<=(Ev p a s d k).size:=by rw[h1,i1];omega
    refine⟨by rw[CL.jw _ _ _ hb,i1],fun x hx=>?_⟩
    rw[A4 _ _ _ _ hb,h1]
    by_cases e:x=((a+(k:Int))%16).toNat
    · rw[if_pos (by omega),if_pos (by omega),show x-((a+(k:Int))%16).toNat=0 by omega,P5 s k (by omega)]
      congr 1
      omega
    · rw[if_neg (by omega),i2 x hx]
      by_cases g:a<=16*p+(x:Int)/\16*p+(x:Int)<a+(k:Int)
      · rw[if_pos g,if_pos (by omega)]
      · rw[if_neg g,if_neg (by omega)]
  · rw[if_neg c]
    refine⟨i1,fun x hx=>?_⟩
    rw[i2 x hx]
    by_cases g:a<=16*p+(x:Int)/\16*p+(x:Int)<a+(k:Int)
    · rw[if_pos g,if_pos (by omega)]
    · rw[if_neg g,if_neg (by omega)]
theorem Fm {ps:List FM.Pg} (hr:FW.yn ps) {g:FM.Pg} (hg:g∈ps):GM.rX ps g.page=g.data:=by
 obtain⟨k,hk,rfl⟩:=FM.ie hg
 unfold GM.rX
 rw[FW.sB ps _ k hk (fun j hj e=>by have:=hr j k hj hk;omega) rfl]
 rfl
theorem Ea {x y:ByteArray} (n:Nat) (hx:x.size=n) (hy:y.size=n) (h:∀i,i<n->x.data.toList[i]?=y.data.toList[i]?):x=y:=by
 apply yj
 apply List.ext_getElem?
 intro i
 by_cases c:i<n
 · exact h i c
 · have hx':x.data.toList.length=n:=hx
   have hy':y.data.toList.length=n:=hy
   rw[List.getElem?_eq_none (by omega),List.getElem?_eq_none (by omega)]
theorem xc (x:ByteArray) (i j k:Nat) (h:i+k<j):(x.extract i j).data.toList[k]?=x.data.toList[i+k]?:=by
 rw[il,List.getElem?_drop,List.getElem?_take,if_pos (by omega)]
theorem I1 (x y:ByteArray) (k:Nat):(x++y).data.toList[k]?=if k<x.size then x.data.toList[k]? else y.data.toList[k-x.size]?:=by
 rw[ByteArray.data_append,Array.toList_append]
 have hx:x.data.toList.length=x.size:=rfl
 by_cases c:k<x.size
 · rw[if_pos c,List.getElem?_append_left (by omega)]
 · rw[if_neg c,List.getElem?_append_right (by omega),hx]
theorem EU (ps:List FM.Pg) (a:Int) (s:ByteArray) (hr:FW.yn ps) (hsz:∀g∈ps,g.data.size=16) (ha:0<=a) (h1:1<=s.size) (h8:s.size<=8) (hz:∀k:Nat,k<s.size->(GM.rX ps ((a+(k:Int))/16)).size=16):cX ps a s s.size=GM.fS ps a s:=by
 have z0:=hz 0 (by omega)
 rw[show(a+((0:Nat):Int))/16=a/16 by omega] at z0
 have z1:=hz (s.size-1) (by omega)
 rw[show(a+((s.size-1:Nat):Int))/16=(a+(s.size:Int)-1)/16 by omega] at z1
 unfold cX GM.fS GM.ml GM.eI GM.cV
 by_cases c:(a+(s.size:Int)-1)/16=a/16
 · rw[if_pos c,if_pos c]
   apply List.map_congr_left
   intro g hg
   obtain⟨b1,b2⟩:=AO (p:=g.page) (s:=s) (hsz g hg) ha s.size (Nat.le_refl _)
   by_cases e:g.page=a/16
   · rw[if_pos e]
     have hb:(a%16).toNat+s.size<=(GM.rX ps (a/16)).size:=by rw[z0];omega
     congr 1
     refine Ea 16 b1 (by rw[ByteArray.size_extract,CL.jw _ _ _ hb,z0];rfl) (fun x hx=>?_)
     rw[b2 x hx,xc _ 0 16 x (by omega),Nat.zero_add,A4 _ _ _ _ hb,<- e,Fm hr hg]
     by_cases q:(g.page*16+(x:Int))<a∨a+(s.size:Int)<=g.page*16+(x:Int)
     · rw[if_neg (by omega),if_neg (by omega)]
     · rw[if_pos (by omega),if_pos (by omega)]
       congr 1
       omega
   · rw[if_neg e]
     have:Ev g.page a s g.data s.size=g.data:=Ea 16 b1 (hsz g hg) (fun x hx=>by rw[b2 x hx,if_neg (by omega)])
     rw[this]
 · rw[if_neg c,if_neg c,List.map_map]
   apply List.map_congr_left
   intro g hg
   obtain⟨b1,b2⟩:=AO (p:=g.page) (s:=s) (hsz g hg) ha s.size (Nat.le_refl _)
   have hj:(GM.rX ps (a/16)++GM.rX ps ((a+(s.size:Int)-1)/16)).size=32:=by rw[ByteArray.size_append,z0,z1]
   have hb:(a%16).toNat+s.size<=(GM.rX ps (a/16)++GM.rX ps ((a+(s.size:Int)-1)/16)).size:=by rw[hj];omega
   have ho:=CL.jw _ _ _ hb
   rw[hj] at ho
   show(⟨g.page,Ev g.page a s g.data s.size⟩:FM.Pg)=if ((if g.page=a/16 then (⟨a/16,_⟩:FM.Pg) else g):FM.Pg).page=(a+(s.size:Int)-1)/16 then _ else _
   by_cases e:g.page=a/16
   · rw[if_pos e,if_neg (by show ¬a/16=_;omega)]
     congr 1
     refine Ea 16 b1 (by rw[ByteArray.size_extract,ho];rfl) (fun x hx=>?_)
     rw[b2 x hx,xc _ 0 16 x (by omega),Nat.zero_add,A4 _ _ _ _ hb,I1,z0,if_pos hx,<- e,Fm hr hg]
     by_cases q:(g.page*16+(x:Int))<a∨a+(s.size:Int)<=g.page*16+(x:Int)
     · rw[if_neg (by omega),if_neg (by omega)]
     · rw[if_pos (by omega),if_pos (by omega)]
       congr 1
       omega
   · rw[if_neg e]
     by_cases f:g.page=(a+(s.size:Int)-1)/16
     · rw[if_pos f]
       congr 1
       refine Ea 16 b1 (by rw[ByteArray.size_extract,ho];rfl) (fun x hx=>?_)
       rw[b2 x hx,xc _ 16 32 x (by omega),A4 _ _ _ _ hb,I1,z0,if_neg (show ¬16+x<16 by omega),show 16+x-16=x by omega,<- f,Fm hr hg]
       by_cases q:(g.page*16+(x:Int))<a∨a+(s.size:Int)<=g.page*16+(x:Int)
       · rw[if_neg (by omega),if_neg (by omega)]
       · rw[if_pos (by omega),if_pos (by omega)]
         congr 1
         omega
     · rw[if_neg f]
       have:Ev g.page a s g.data s.size=g.data:=Ea 16 b1 (hsz g hg) (fun x hx=>by rw[b2 x hx,if_neg (by omega)])
       rw[this]
def mix (f:FM.Pg->FM.Pg) (l:List FM.Pg) (k:Nat):List FM.Pg:=(l.take k).map f++l.drop k
theorem MB (f:FM.Pg->FM.Pg) (l:List FM.Pg):mix f l 0=l:=rfl
theorem Qf (f:FM.Pg->FM.Pg) (l:List FM.Pg):mix f l l.length=l.map f:=by
 unfold mix
 rw[List.take_length,List.drop_length,List.append_nil]
theorem FB (f:FM.Pg->FM.Pg) (l:List FM.Pg) (k:Nat):(mix f l k).length=l.length:=by
 unfold mix
 rw[List.length_append,List.length_map,List.length_take,List.length_drop]
 omega
theorem T8 (f:FM.Pg->FM.Pg) (l:List FM.Pg) (k:Nat) (h:k<l.length):FM.aN (mix f l k) k=FM.aN l k:=by
 unfold FM.aN mix
 rw[List.getD_eq_getElem?_getD,List.getD_eq_getElem?_getD,List.getElem?_append_right (by rw[List.length_map,List.length_take];omega),List.length_map,List.length_take,Nat.min_eq_left (by omega),Nat.sub_self,List.getElem?_drop,Nat.add_zero]
theorem MC (f:FM.Pg->FM.Pg) (l:List FM.Pg) (k:Nat) (h:k<l.length):mix f l (k+1)=(mix f l k).set k (f (FM.aN l k)):=by
 have e:FM.aN l k=l[k]:=by
  unfold FM.aN
  rw[List.getD_eq_getElem?_getD,List.getElem?_eq_getElem h]
  rfl
 unfold mix
 rw[List.set_append_right _ _ (by rw[List.length_map,List.length_take];omega),List.length_map,List.length_take,Nat.min_eq_left (by omega),Nat.sub_self,List.take_succ_eq_append_getElem h,List.map_append,e,List.drop_eq_getElem_cons h,List.set_cons_zero,List.append_assoc]
 rfl
theorem MD (f:FM.Pg->FM.Pg) (l:List FM.Pg) (k:Nat) (h:k<l.length) (hf:f (FM.aN l k)=FM.aN l k):mix f l (k+1)=mix f l k:=by
 have e:FM.aN l k=l[k]:=by
  unfold FM.aN
  rw[List.getD_eq_getElem?_getD,List.getElem?_eq_getElem h]
  rfl
 rw[e] at hf
 unfold mix
 rw[List.take_succ_eq_append_getElem h,List.map_append,List.drop_eq_getElem_cons h,List.append_assoc]
 show _++([f l[k]]++_)=_
 rw[hf]
 rfl
def lG (a:Int) (s:ByteArray) (j:Nat) (g:FM.Pg):FM.Pg:=if g.page=(a+(j:Int))/16 then ⟨g.page,CL.over g.data ((a+(j:Int))%16).toNat (s.extract j (j+1))⟩ else g
theorem AG (ps:List FM.Pg) (a:Int) (s:ByteArray) (j:Nat):cX ps a s (j+1)=(cX ps a s j).map (lG a s j):=by
 unfold cX
 rw[List.map_map]
 apply List.map_congr_left
 intro g _
 show(⟨g.page,if g.page=(a+(j:Int))/16 then _ else _⟩:FM.Pg)=lG a s j ⟨g.page,Ev g.page a s g.data j⟩
 unfold lG
 by_cases c:g.page=(a+(j:Int))/16
 · rw[if_pos c,if_pos c]
 · rw[if_neg c,if_neg c]
theorem AE (ps:List FM.Pg) (a:Int) (s:ByteArray):cX ps a s 0=ps:=by
 unfold cX
 have:(fun g:FM.Pg=>(⟨g.page,Ev g.page a s g.data 0⟩:FM.Pg))=id:=by funext g;rfl
 rw[this,List.map_id]
theorem oQ (ps:List FM.Pg) (a:Int) (s:ByteArray) (k:Nat):(cX ps a s k).length=ps.length:=by
 unfold cX
 rw[List.length_map]
theorem AH {ps:List FM.Pg} {a:Int} {s:ByteArray} (hz:∀k,k<ps.length->(FM.aN ps k).data.size=16) (ha:0<=a) (j:Nat) (hj:j<=s.size):∀k,k<ps.length->(FM.aN (cX ps a s j) k).data.size=16:=fun k hk=>by
 have e:FM.aN (cX ps a s j) k=⟨(FM.aN ps k).page,Ev (FM.aN ps k).page a s (FM.aN ps k).data j⟩:=by
  unfold FM.aN cX
  rw[List.getD_eq_getElem?_getD,List.getElem?_map,List.getElem?_eq_getElem hk,List.getD_eq_getElem?_getD,List.getElem?_eq_getElem hk]
  rfl
 rw[e]
 exact(AO (hz k hk) ha j hj).1
def Gq (ps:List FM.Pg) (x:Int):FM.Pg:=⟨x,(FW.cJ x ps).getD GM.gT⟩
def eo (l:List AM.Ar) (ps:List FM.Pg) (k:Nat):List FM.Pg:=((FM.run 1 k).filter (fun x=>(AM.aX l x).2)).map (Gq ps)
theorem Kj (l:List AM.Ar) (ps:List FM.Pg) (k:Nat) (h:(AM.aX l (1+(k:Int))).2=true):eo l ps (k+1)=eo l ps k++[Gq ps (1+(k:Int))]:=by
 unfold eo
 rw[FM.jV,List.filter_append,List.map_append]
 congr 1
 rw[List.filter_cons,if_pos h]
 rfl
theorem NB (l:List AM.Ar) (ps:List FM.Pg) (k:Nat) (h:(AM.aX l (1+(k:Int))).2=false):eo l ps (k+1)=eo l ps k:=by
 unfold eo
 rw[FM.jV,List.filter_append,List.map_append,List.filter_cons,if_neg (by rw[h];simp)]
 simp
theorem Kk (l:List AM.Ar) (ps:List FM.Pg) (k:Nat):(eo l ps k).length<=k:=by
 unfold eo
 rw[List.length_map]
 have:=List.length_filter_le (fun x=>(AM.aX l x).2) (FM.run 1 k)
 rw[FM.nM] at this
 exact this
theorem uf {l:List AM.Ar} (hc:AM.aD l=0) (ps:List FM.Pg):eo l ps 255=(FM.bk l).map (Gq ps):=by
 unfold eo
 congr 1
 refine GM.nI ((FM.nL 255 1).sublist List.filter_sublist) (FM.lX hc).sorted (fun x=>?_)
 rw[List.mem_filter,FM.jJ,GM.eH hc]
 constructor
 · exact fun h=>h.2
 · intro h
   have:=GM.nO hc ((GM.eH hc).2 h)
   exact⟨⟨by omega,by omega⟩,h⟩
theorem Gp {l:List AM.Ar} {ps ps':List FM.Pg} (ab7:FM.numbers ps'=FM.bk l) (h:∀g∈ps',(FW.cJ g.page ps).getD GM.gT=g.data):(FM.bk l).map (Gq ps)=ps':=by
 rw[<- ab7]
 unfold FM.numbers
 rw[List.map_map]
 have:∀q:List FM.Pg,(∀g∈q,(FW.cJ g.page ps).getD GM.gT=g.data)->q.map (Gq ps∘fun x=>x.page)=q:=fun q=>by
  induction q with
  | nil=>intro _;rfl
  | cons g q ih =>
   intro hq
   rw[List.map_cons,ih (fun x hx=>hq x (List.mem_cons_of_mem _ hx))]
   congr 1
   show(⟨g.page,(FW.cJ g.page ps).getD GM.gT⟩:FM.Pg)=g
   rw[hq g List.mem_cons_self]
 exact this ps' h
theorem oZ {ps:List FM.Pg} (hr:FW.yn ps) {g:FM.Pg} (hg:g∈ps):FW.cJ g.page ps=some g.data:=by
 obtain⟨k,hk,rfl⟩:=FM.ie hg
 exact FW.sB ps _ k hk (fun j hj e=>by have:=hr j k hj hk;omega) rfl
theorem DJ {s:FM.Sp} (h:GM.qj s) {p n q:Int} (hm:(AW.bc s.aw p n q).2=0):eo (AW.bc s.aw p n q).1 s.aj 255=s.aj:=by
 obtain⟨h1,h2⟩:=GM.mJ h.check hm
 rw[uf h1]
 exact Gp (by rw[h.nums,h2]) (fun g hg=>by rw[oZ h.nN hg];rfl)
theorem Kg {s:FM.Sp} (h:GM.qj s) {p n:Int} (hm:(AW.bO s.aw p n).2=0):eo (AW.bO s.aw p n).1 s.aj 255=GM.iF s.aj p n:=by
 have hl:=GM.zC h hm
 have h1:=hl.check
 rw[uf h1]
 refine Gp hl.nums (fun g hg=>?_)
 have hg':g∈s.aj:=(List.mem_filter.1 hg).1
 rw[oZ h.nN hg']
 rfl
theorem Ia:∀(ps:List FM.Pg) (x:Int),x∉FM.numbers ps->FW.cJ x ps=none
 | [],x,_=>rfl
 | g::ps,x,h=>by
  have h1:¬g.page=x:=fun e=>h (by unfold FM.numbers;rw[List.map_cons,e];exact List.mem_cons_self)
  show(if g.page=x then some g.data else FW.cJ x ps)=none
  rw[if_neg h1]
  exact Ia ps x (fun e=>h (by unfold FM.numbers at e ⊢;rw[List.map_cons];exact List.mem_cons_of_mem _ e))
theorem Bu {s:FM.Sp} (h:GM.qj s) {p n q:Int} (hm:(AW.dH s.aw p n q).2=0):eo (AW.dH s.aw p n q).1 s.aj 255=GM.iV s.aj p n.toNat:=by
 have hl:=GM.Ii h hm
 have h1:=hl.check
 obtain⟨_,h2,_,h4⟩:=GM.kZ h.check hm
 rw[uf h1]
 refine Gp hl.nums (fun g hg=>?_)
 have hg':g∈GM.iV s.aj p n.toNat:=hg
 unfold GM.iV at hg'
 rcases List.mem_append.1 hg' with e | e
 · rw[oZ h.nN (List.mem_of_mem_take e)];rfl
 · rcases List.mem_append.1 e with e | e
   · unfold GM.gS at e
     obtain⟨x,hx,rfl⟩:=List.mem_map.1 e
     have hr:=(FM.jJ _ _ _).1 hx
     rw[Ia s.aj x (by rw[h.nums];exact h4 x (by omega) (by omega))]
     rfl
   · rw[oZ h.nN (List.mem_of_mem_drop e)];rfl
end GR
namespace GR
open Go.RowKit GH
def di (f:FM.Fl) (pick:Int):FM.Fl:=AB (GG.stepG GM.aQ (aZ f) pick).2
structure Run (f:FM.Fl) (k:Nat):Prop where
 lt:k<f.procs.length
 st:(FM.au f.procs k).st=1
 out:f.out.length<2000
def Ik (f:FM.Fl) (k:Nat) (x:Int×Int):FM.Fl:=⟨f.slots,f.ak.set k FM.E0,f.procs.set k (FW.kI (FM.au f.procs k) x),f.out⟩
theorem AJ {f:FM.Fl} {k:Nat} (h:Run f k):GG.stepG GM.aQ (aZ f) (k:Int)=if (GG.oM GM.aQ (aZ f) k).1.1=0 then (0,(GG.oM GM.aQ (aZ f) k).2) else (0,{ (GG.oM GM.aQ (aZ f) k).2 with mem:=GM.DN (GG.oM GM.aQ (aZ f) k).2.mem k,ps:=(GG.oM GM.aQ (aZ f) k).2.ps.set k (FW.kI (FM.au (GG.oM GM.aQ (aZ f) k).2.ps k) (GG.oM GM.aQ (aZ f) k).1) }):=by
 have hl:(k:Int)<((aZ f).ps.length:Int):=by have:=h.lt;show(k:Int)<(f.procs.length:Int);omega
 have hs:(FM.au (aZ f).ps (k:Int).toNat).st=1:=h.st
 have ho:¬2000<=(aZ f).out.length:=by have:=h.out;show ¬2000<=f.out.length;omega
 unfold GG.stepG
 rw[if_neg (fun g=>g ⟨by omega,hl⟩),if_neg (fun g=>g hs),if_neg ho]
 rfl
theorem Ij {f:FM.Fl} {k:Nat} {a n way:Int} (h:¬(FM.bG (FM.ax f.ak k).aw a n way).1=0):GM.aQ.load (aZ f).mem k a n way=((⟨#[]⟩,FM.bG (FM.ax f.ak k).aw a n way),(aZ f).mem):=if_neg h
theorem Dg {f:FM.Fl} {k:Nat} {a n way:Int} (h:(FM.bG (FM.ax f.ak k).aw a n way).1=0):GM.aQ.load (aZ f).mem k a n way=((GM.ig (FM.ax f.ak k).aj a n,(0,0)),(aZ f).mem):=if_pos h
theorem EW {f:FM.Fl} {k:Nat} (h:Run f k) (hx:¬(FM.bG (FM.ax f.ak k).aw (FM.au f.procs k).pc 8 2).1=0):di f (k:Int)=Ik f k (FM.bG (FM.ax f.ak k).aw (FM.au f.procs k).pc 8 2):=by
 have hd:GG.oM GM.aQ (aZ f) k=(FM.bG (FM.ax f.ak k).aw (FM.au f.procs k).pc 8 2,aZ f):=by
  unfold GG.oM
  rw[show(FM.au (aZ f).ps k).pc=(FM.au f.procs k).pc from rfl,Ij hx]
  dsimp only
  rw[if_pos hx]
 unfold di
 rw[AJ h,hd]
 dsimp only
 rw[if_neg hx]
 rfl
theorem DV {f:FM.Fl} {k:Nat} (hx:(FM.bG (FM.ax f.ak k).aw (FM.au f.procs k).pc 8 2).1=0) {i:PM.ey} (hi:PM.ins (GM.ig (FM.ax f.ak k).aj (FM.au f.procs k).pc 8)=i):GG.oM GM.aQ (aZ f) k=if ¬(GG.bJ GM.aQ (aZ f) k i).1.2.1=0 then ((GG.bJ GM.aQ (aZ f) k i).1.2,(GG.bJ GM.aQ (aZ f) k i).2) else ((0,0),{ (GG.bJ GM.aQ (aZ f) k i).2 with ps:=GG.fX i f.procs.length ((GG.bJ GM.aQ (aZ f) k i).2.ps.set k (PM.doneN (FM.au (GG.bJ GM.aQ (aZ f) k i).2.ps k) i (GG.bJ GM.aQ (aZ f) k i).1.1)) }):=by
 unfold GG.oM
 rw[show(FM.au (aZ f).ps k).pc=(FM.au f.procs k).pc from rfl,Dg hx]
 dsimp only
 rw[if_neg (fun g=>g rfl),hi]
 rfl
theorem tR {f:FM.Fl} {k:Nat} (h:Run f k) (hx:(FM.bG (FM.ax f.ak k).aw (FM.au f.procs k).pc 8 2).1=0) {i:PM.ey} (hi:PM.ins (GM.ig (FM.ax f.ak k).aj (FM.au f.procs k).pc 8)=i) {y:Int×Int} {v:Int} (hy:¬y.1=0) (ha:GG.bJ GM.aQ (aZ f) k i=((v,y),aZ f)):di f (k:Int)=Ik f k y:=by
 have hd:GG.oM GM.aQ (aZ f) k=(y,aZ f):=by
  rw[DV hx hi,ha]
  dsimp only
  rw[if_pos hy]
 unfold di
 rw[AJ h,hd]
 dsimp only
 rw[if_neg hy]
 rfl
theorem step_done {f g:FM.Fl} {k:Nat} (h:Run f k) (hx:(FM.bG (FM.ax f.ak k).aw (FM.au f.procs k).pc 8 2).1=0) {i:PM.ey} (hi:PM.ins (GM.ig (FM.ax f.ak k).aj (FM.au f.procs k).pc 8)=i) {v:Int} (ha:GG.bJ GM.aQ (aZ f) k i=((v,(0,0)),aZ g)):di f (k:Int)=⟨g.slots,g.ak,GG.fX i f.procs.length (g.procs.set k (PM.doneN (FM.au g.procs k) i v)),g.out⟩:=by
 have hd:GG.oM GM.aQ (aZ f) k=((0,0),{ aZ g with ps:=GG.fX i f.procs.length (g.procs.set k (PM.doneN (FM.au g.procs k) i v)) }):=by
  rw[DV hx hi,ha]
  dsimp only
  rw[if_neg (fun g=>g rfl)]
  rfl
 unfold di
 rw[AJ h,hd]
 dsimp only
 rw[if_pos rfl]
 rfl
theorem RB {f:FM.Fl} {k:Nat} {i:PM.ey} (h:i.bad=true):GG.bJ GM.aQ (aZ f) k i=((0,(4,(FM.au f.procs k).pc)),aZ f):=by
 unfold GG.bJ
 rw[if_pos h]
 rfl
theorem Eg {f:FM.Fl} {k:Nat} {i:PM.ey} (h:i.bad=false) (ho:i.op=9) (hx:¬(FM.bG (FM.ax f.ak k).aw (wrap64 ((FM.au f.procs k).r i.b.toNat+i.m)) i.c 0).1=0):GG.bJ GM.aQ (aZ f) k i=((GG.rB ⟨#[]⟩,FM.bG (FM.ax f.ak k).aw (wrap64 ((FM.au f.procs k).r i.b.toNat+i.m)) i.c 0),aZ f):=by
 unfold GG.bJ
 rw[if_neg (by rw[h];decide),if_pos ho,show(FM.au (aZ f).ps k)=FM.au f.procs k from rfl,Ij hx]
theorem Oo {f:FM.Fl} {k:Nat} {i:PM.ey} (h:i.bad=false) (ho:i.op=9) (hx:(FM.bG (FM.ax f.ak k).aw (wrap64 ((FM.au f.procs k).r i.b.toNat+i.m)) i.c 0).1=0):GG.bJ GM.aQ (aZ f) k i=((GG.rB (GM.ig (FM.ax f.ak k).aj (wrap64 ((FM.au f.procs k).r i.b.toNat+i.m)) i.c),(0,0)),aZ f):=by
 unfold GG.bJ
 rw[if_neg (by rw[h];decide),if_pos ho,show(FM.au (aZ f).ps k)=FM.au f.procs k from rfl,Dg hx]
def wW (f:FM.Fl) (k:Nat) (i:PM.ey):ByteArray:=GG.kQ ((FM.au f.procs k).r i.a.toNat) i.c
theorem B0 {f:FM.Fl} {k:Nat} {i:PM.ey} (h:i.bad=false) (ho:i.op=10) (hx:¬(FM.bG (FM.ax f.ak k).aw (wrap64 ((FM.au f.procs k).r i.b.toNat+i.m)) (wW f k i).size 1).1=0):GG.bJ GM.aQ (aZ f) k i=((0,FM.bG (FM.ax f.ak k).aw (wrap64 ((FM.au f.procs k).r i.b.toNat+i.m)) (wW f k i).size 1),aZ f):=by
 have e:GM.aQ.store (aZ f).mem k (wrap64 ((FM.au f.procs k).r i.b.toNat+i.m)) (GG.kQ ((FM.au f.procs k).r i.a.toNat) i.c)=(FM.bG (FM.ax f.ak k).aw (wrap64 ((FM.au f.procs k).r i.b.toNat+i.m)) (wW f k i).size 1,(aZ f).mem):=if_neg hx
 unfold GG.bJ
 rw[if_neg (by rw[h];decide),if_neg (by rw[ho];decide),if_pos ho,show(FM.au (aZ f).ps k)=FM.au f.procs k from rfl,e]
theorem KL {f:FM.Fl} {k:Nat} {i:PM.ey} (h:i.bad=false) (ho:i.op=10) (hx:(FM.bG (FM.ax f.ak k).aw (wrap64 ((FM.au f.procs k).r i.b.toNat+i.m)) (wW f k i).size 1).1=0):GG.bJ GM.aQ (aZ f) k i=((0,(0,0)),aZ ⟨f.slots,f.ak.set k { FM.ax f.ak k with aj:=GM.fS (FM.ax f.ak k).aj (wrap64 ((FM.au f.procs k).r i.b.toNat+i.m)) (wW f k i) },f.procs,f.out⟩):=by
 have e:GM.aQ.store (aZ f).mem k (wrap64 ((FM.au f.procs k).r i.b.toNat+i.m)) (GG.kQ ((FM.au f.procs k).r i.a.toNat) i.c)=((0,0),GM.gz (aZ f).mem k { FM.ax f.ak k with aj:=GM.fS (FM.ax f.ak k).aj (wrap64 ((FM.au f.procs k).r i.b.toNat+i.m)) (wW f k i) }):=if_pos hx
 unfold GG.bJ
 rw[if_neg (by rw[h];decide),if_neg (by rw[ho];decide),if_pos ho,show(FM.au (aZ f).ps k)=FM.au f.procs k from rfl,e]
 rfl
theorem Oq {f:FM.Fl} {k:Nat} {i:PM.ey} (h:i.bad=false) (ho:i.op=16):GG.bJ GM.aQ (aZ f) k i=(((GG.cu GM.aQ (aZ f) k i.m).1,(0,0)),(GG.cu GM.aQ (aZ f) k i.m).2):=by
 unfold GG.bJ
 rw[if_neg (by rw[h];decide),if_neg (by rw[ho];decide),if_neg (by rw[ho];decide),if_pos ho]
theorem Om {f:FM.Fl} {k:Nat} {i:PM.ey} (h:i.bad=false) (h1:¬i.op=9) (h2:¬i.op=10) (h3:¬i.op=16):GG.bJ GM.aQ (aZ f) k i=((0,(0,0)),aZ f):=by
 unfold GG.bJ
 rw[if_neg (by rw[h];decide),if_neg h1,if_neg h2,if_neg h3]
def jl (f:FM.Fl) (k:Nat) (s:FM.Sp):FM.Fl:=⟨f.slots,f.ak.set k s,f.procs,f.out⟩
theorem j5 (f:FM.Fl) (k:Nat):GG.cu GM.aQ (aZ f) k 2=((GM.mapM (aZ f).mem k ((FM.au f.procs k).r 0) ((FM.au f.procs k).r 1) ((FM.au f.procs k).r 2)).1,{ aZ f with mem:=(GM.mapM (aZ f).mem k ((FM.au f.procs k).r 0) ((FM.au f.procs k).r 1) ((FM.au f.procs k).r 2)).2 }):=rfl
theorem D8 {f:FM.Fl} {k:Nat} {p n q:Int} (hp:(FM.au f.procs k).r 0=p) (hn:(FM.au f.procs k).r 1=n) (hq:(FM.au f.procs k).r 2=q) (h:¬(AW.dH (FM.ax f.ak k).aw p n q).2=0):GG.cu GM.aQ (aZ f) k 2=((AW.dH (FM.ax f.ak k).aw p n q).2,aZ f):=by
 rw[j5,hp,hn,hq]
 have e:GM.mapM (aZ f).mem k p n q=((AW.dH (FM.ax f.ak k).aw p n q).2,(aZ f).mem):=if_pos h
 rw[e]
 try rfl
theorem zn {f:FM.Fl} {k:Nat} {p n q:Int} (hp:(FM.au f.procs k).r 0=p) (hn:(FM.au f.procs k).r 1=n) (hq:(FM.au f.procs k).r 2=q) (h:(AW.dH (FM.ax f.ak k).aw p n q).2=0) (hr:f.slots<FM.room f.ak+n):GG.cu GM.aQ (aZ f) k 2=(8,aZ f):=by
 rw[j5,hp,hn,hq]
 have e:GM.mapM (aZ f).mem k p n q=(8,(aZ f).mem):=by
  exact(if_neg (fun g=>g h)).trans (if_pos hr)
 rw[e]
 try rfl
theorem yc {f:FM.Fl} {k:Nat} {p n q:Int} (hp:(FM.au f.procs k).r 0=p) (hn:(FM.au f.procs k).r 1=n) (hq:(FM.au f.procs k).r 2=q) (h:(AW.dH (FM.ax f.ak k).aw p n q).2=0) (hr:¬f.slots<FM.room f.ak+n):GG.cu GM.aQ (aZ f) k 2=(0,aZ (jl f k { FM.ax f.ak k with aw:=(AW.dH (FM.ax f.ak k).aw p n q).1,aj:=GM.iV (FM.ax f.ak k).aj p n.toNat })):=by
 rw[j5,hp,hn,hq]
 have e:GM.mapM (aZ f).mem k p n q=(0,GM.gz (aZ f).mem k { FM.ax f.ak k with aw:=(AW.dH (FM.ax f.ak k).aw p n q).1,aj:=GM.iV (FM.ax f.ak k).aj p n.toNat }):=by
  exact(if_neg (fun g=>g h)).trans (if_neg hr)
 rw[e]
 try rfl
theorem jP (f:FM.Fl) (k:Nat):GG.cu GM.aQ (aZ f) k 3=((GM.gU (aZ f).mem k ((FM.au f.procs k).r 0) ((FM.au f.procs k).r 1)).1,{ aZ f with mem:=(GM.gU (aZ f).mem k ((FM.au f.procs k).r 0) ((FM.au f.procs k).r 1)).2 }):=rfl
theorem zm {f:FM.Fl} {k:Nat} {p n:Int} (hp:(FM.au f.procs k).r 0=p) (hn:(FM.au f.procs k).r 1=n) (h:¬(AW.bO (FM.ax f.ak k).aw p n).2=0):GG.cu GM.aQ (aZ f) k 3=((AW.bO (FM.ax f.ak k).aw p n).2,aZ f):=by
 rw[jP,hp,hn]
 have e:GM.gU (aZ f).mem k p n=((AW.bO (FM.ax f.ak k).aw p n).2,(aZ f).mem):=if_pos h
 rw[e]
 try rfl
theorem rQ {f:FM.Fl} {k:Nat} {p n:Int} (hp:(FM.au f.procs k).r 0=p) (hn:(FM.au f.procs k).r 1=n) (h:(AW.bO (FM.ax f.ak k).aw p n).2=0):GG.cu GM.aQ (aZ f) k 3=(0,aZ (jl f k { FM.ax f.ak k with aw:=(AW.bO (FM.ax f.ak k).aw p n).1,aj:=GM.iF (FM.ax f.ak k).aj p n })):=by
 rw[jP,hp,hn]
 have e:GM.gU (aZ f).mem k p n=(0,GM.gz (aZ f).mem k { FM.ax f.ak k with aw:=(AW.bO (FM.ax f.ak k).aw p n).1,aj:=GM.iF (FM.ax f.ak k).aj p n }):=by
  exact if_neg (fun g=>g h)
 rw[e]
 try rfl
theorem iC (f:FM.Fl) (k:Nat):GG.cu GM.aQ (aZ f) k 4=((GM.eB (aZ f).mem k ((FM.au f.procs k).r 0) ((FM.au f.procs k).r 1) ((FM.au f.procs k).r 2)).1,{ aZ f with mem:=(GM.eB (aZ f).mem k ((FM.au f.procs k).r 0) ((FM.au f.procs k).r 1) ((FM.au f.procs k).r 2)).2 }):=rfl
theorem vL {f:FM.Fl} {k:Nat} {p n q:Int} (hp:(FM.au f.procs k).r 0=p) (hn:(FM.au f.procs k).r 1=n) (hq:(FM.au f.procs k).r 2=q) (h:¬(AW.bc (FM.ax f.ak k).aw p n q).2=0):GG.cu GM.aQ (aZ f) k 4=((AW.bc (FM.ax f.ak k).aw p n q).2,aZ f):=by
 rw[iC,hp,hn,hq]
 have e:GM.eB (aZ f).mem k p n q=((AW.bc (FM.ax f.ak k).aw p n q).2,(aZ f).mem):=if_pos h
 rw[e]
 try rfl
theorem nX {f:FM.Fl} {k:Nat} {p n q:Int} (hp:(FM.au f.procs k).r 0=p) (hn:(FM.au f.procs k).r 1=n) (hq:(FM.au f.procs k).r 2=q) (h:(AW.bc (FM.ax f.ak k).aw p n q).2=0):GG.cu GM.aQ (aZ f) k 4=(0,aZ (jl f k { FM.ax f.ak k with aw:=(AW.bc (FM.ax f.ak k).aw p n q).1 })):=by
 rw[iC,hp,hn,hq]
 have e:GM.eB (aZ f).mem k p n q=(0,GM.gz (aZ f).mem k { FM.ax f.ak k with aw:=(AW.bc (FM.ax f.ak k).aw p n q).1 }):=by
  exact if_neg (fun g=>g h)
 rw[e]
 try rfl
theorem tA {f:FM.Fl} {k:Nat} (h:4<=f.ak.length∨f.slots<FM.room f.ak+AM.br (FM.ax f.ak k).aw):GG.cu GM.aQ (aZ f) k 5=(-1,aZ f):=by
 have e:∃er,¬er=0/\GM.aQ.fork (aZ f).mem k=(er,(aZ f).mem):=by
  by_cases c:4<=f.ak.length
  · exact⟨2,by decide,if_pos c⟩
  · have d:f.slots<FM.room f.ak+AM.br (FM.ax f.ak k).aw:=by
     rcases h with h | h
     · exact absurd h c
     · exact h
    refine⟨8,by decide,?_⟩
    exact(if_neg c).trans (if_pos d)
 obtain⟨er,h0,e⟩:=e
 unfold GG.cu
 rw[if_neg (by decide),if_neg (by decide),if_neg (by decide),if_neg (by decide),if_pos rfl,e]
 dsimp only
 rw[if_neg h0]
 try rfl
theorem qh {f:FM.Fl} {k:Nat} (h1:¬4<=f.ak.length) (h2:¬f.slots<FM.room f.ak+AM.br (FM.ax f.ak k).aw):GG.cu GM.aQ (aZ f) k 5=((f.procs.length:Int),aZ ⟨f.slots,f.ak++[FM.ax f.ak k],f.procs++[FM.au f.procs k],f.out⟩):=by
 have e:GM.aQ.fork (aZ f).mem k=(0,{ (aZ f).mem with ak:=f.ak++[FM.ax f.ak k] }):=by
  exact(if_neg h1).trans (if_neg h2)
 unfold GG.cu
 rw[if_neg (by decide),if_neg (by decide),if_neg (by decide),if_neg (by decide),if_pos rfl,e]
 dsimp only
 rw[if_pos rfl]
 try rfl
end GR
namespace GO
open Go.RowKit GK
open GF (Lc vY bu bH aH eP blk eT eQ dw bl nt dg)
open GW (aI bR bg cB)
open FW (ai aB)
theorem Mem.turn {lo mb:Nat} {w w2:World} {D D':Nat->Prop} {sl:Int} {vr vo:Value} {v:Value} {L:List Lc} {ss:List FM.Sp} (h:Mem lo mb w D sl vr vo v L ss) {k:Nat} (hk:k<L.length) {l:Lc} {s:FM.Sp}
  (iz:Kp (fun b=>blk v b∨blk (bu L k).vp b) w w2) (hrow:w2.ownsRow lo 53 3 v L.length ((L.set k l).flatMap bH)) (hs:eP lo w2 l s)
  (sQ:∀b,blk l.va b->blk (bu L k).va b∨w.heap.size<=b) (hvp:∀b,blk l.vp b->blk (bu L k).vp b∨w.heap.size<=b) (hne:∀b,blk l.vp b->¬blk l.va b) (hd:∀b,D b->D' b) (hd2:∀b,w.heap.size<=b->b<w2.heap.size->D' b) :
  Mem lo mb w2 D' sl vr vo v (L.set k l) (ss.set k s):=by
 have hmb:=B.isLt h.head
 have hlen:=h.len
 have hL:(L.set k l).length=L.length:=List.length_set
 have new:∀b,(blk l.va b->blk (bu L k).va b∨w.heap.size<=b):=sQ
 have at_:∀j,bu (L.set k l) j=if j=k then l else bu L j:=fun j=>GF.sN L k j l hk
 refine⟨by rw[hL,List.length_set];exact hlen,iz.keep h.head (fun e=>by rcases e with e | e;exact h.n1 e;exact(h.n2 k hk).2 e),by rw[hL];exact hrow,fun j hj=>?_,h.base,h.n1,fun j hj=>?_,fun j hj b hb=>?_,fun i j hi hj b hb=>?_,hd _ h.d1,fun b hb=>hd _ (h.d2 b hb),fun j hj b hb=>?_⟩
 · rw[hL] at hj
   rw[at_,GM.m6 _ _ _ _ (by omega)]
   by_cases c:j=k
   · rw[if_pos c,if_pos c];exact hs
   · rw[if_neg c,if_neg c]
     refine(h.each j hj).kp iz (fun b hb e=>?_) (fun b hb e=>?_)
     · rcases e with e | e
       · exact(h.n3 j hj b e).1 hb
       · exact(h.n4 k j hk hj b e).1 hb
     · rcases e with e | e
       · exact(h.n3 j hj b e).2 hb
       · exact(h.n4 k j hk hj b e).2 (fun g=>c g.symm) hb
 · rw[hL] at hj
   rw[at_]
   by_cases c:j=k
   · rw[if_pos c]
     exact⟨fun g=>by rcases sQ _ g with e | e;exact(h.n2 k hk).1 e;omega,fun g=>by rcases hvp _ g with e | e;exact(h.n2 k hk).2 e;omega⟩
   · rw[if_neg c];exact h.n2 j hj
 · rw[hL] at hj
   rw[at_]
   by_cases c:j=k
   · rw[if_pos c]
     have:=(h.row.lt b hb).2
     exact⟨fun g=>by rcases sQ _ g with e | e;exact(h.n3 k hk b hb).1 e;omega,fun g=>by rcases hvp _ g with e | e;exact(h.n3 k hk b hb).2 e;omega⟩
   · rw[if_neg c];exact h.n3 j hj b hb
 · rw[hL] at hi hj
   rw[at_] at hb ⊢
   by_cases ci:i=k
   · rw[if_pos ci] at hb
     by_cases cj:j=k
     · rw[if_pos cj]
       exact⟨hne b hb,fun g=>(g (by omega)).elim⟩
     · rw[if_neg cj]
       rcases hvp b hb with e | e
       · exact⟨(h.n4 k j hk hj b e).1,fun _=>(h.n4 k j hk hj b e).2 (fun g=>cj g.symm)⟩
       · exact⟨fun g=>by have:=h.lt j hj b (.inl g);omega,fun _ g=>by have:=h.lt j hj b (.inr g);omega⟩
   · rw[if_neg ci] at hb
     have hlt:=h.lt i hi b (.inr hb)
     by_cases cj:j=k
     · rw[if_pos cj]
       refine⟨fun g=>?_,fun _ g=>?_⟩
       · rcases sQ b g with e | e
         · exact(h.n4 i k hi hk b hb).1 e
         · omega
       · rcases hvp b g with e | e
         · exact(h.n4 i k hi hk b hb).2 ci e
         · omega
     · rw[if_neg cj];exact h.n4 i j hi hj b hb
 · rw[hL] at hj
   rw[at_] at hb
   by_cases c:j=k
   · rw[if_pos c] at hb
     rcases hb with g | g
     · rcases sQ b g with e | e
       · exact hd _ (h.d3 k hk b (.inl e))
       · exact hd2 b e (hs.aw.lt b g).2
     · rcases hvp b g with e | e
       · exact hd _ (h.d3 k hk b (.inr e))
       · exact hd2 b e (hs.aj.lt b g).2
   · rw[if_neg c] at hb
     exact hd _ (h.d3 j hj b hb)
section
variable {lo mb:Nat} {w w2:World} {f:FM.Fl} {v:Value} {L:List Lc} {vr vo:Value}
theorem Fo.new (h:Fo lo mb w f v L vr vo) {b:Nat} (hb:w.heap.size<=b):Ap vr vo b:=⟨fun g=>by have:=(h.procs.lt b g).2;omega,fun g=>by have:=(h.words.lt b g).2;omega⟩
theorem Fo.turn (h:Fo lo mb w f v L vr vo) {k:Nat} (hk:k<L.length) {l:Lc} {s:FM.Sp}
  (iz:Kp (fun b=>blk v b∨blk (bu L k).vp b) w w2) (hrow:w2.ownsRow lo 53 3 v L.length ((L.set k l).flatMap bH)) (hs:eP lo w2 l s)
  (sQ:∀b,blk l.va b->blk (bu L k).va b∨w.heap.size<=b) (hvp:∀b,blk l.vp b->blk (bu L k).vp b∨w.heap.size<=b) (hne:∀b,blk l.vp b->¬blk l.va b) :
  Fo lo mb w2 (GR.jl f k s) v (L.set k l) vr vo:=by
 refine⟨h.mem.turn hk iz hrow hs sQ hvp hne (fun b g=>g) (fun b g _=>h.new g),iz.row h.procs (fun g hg e=>?_),iz.row h.words (fun g hg e=>?_),h.apart⟩
 · rcases e with e | e
   · exact(h.mem.d2 g e).1 hg
   · exact(h.mem.d3 k hk g (.inr e)).1 hg
 · rcases e with e | e
   · exact(h.mem.d2 g e).2 hg
   · exact(h.mem.d3 k hk g (.inr e)).2 hg
theorem Fo.fit {w0 w1:World} {sb cap:Nat} {va vp:Value} {al:List AM.Ar} {ps:List FM.Pg} (h:Fo lo mb w f (.slice (some (Ad sb 0)) f.ak.length cap) L vr vo) {k:Nat} (hk:k<f.ak.length) (hlo:lo<=w.heap.size)
  (hb0:Below w.heap.size w w0) (ha:AW.Own w.heap.size w0 va al) (hb1:Below w0.heap.size w0 w1) (hp:w1.ownsRow w0.heap.size 65 2 vp ps.length (ps.flatMap aH)) :
  Fo lo mb ((w1.setCell (Ad sb (k*3+1)) va).setCell (Ad sb (k*3+2)) vp) (GR.jl f k { FM.ax f.ak k with aw:=al,aj:=ps }) (.slice (some (Ad sb 0)) f.ak.length cap) (L.set k ⟨(bu L k).lv,va,vp⟩) vr vo/\Kp (fun b=>b=sb) w ((w1.setCell (Ad sb (k*3+1)) va).setCell (Ad sb (k*3+2)) vp):=by
 have kK:k<L.length:=by rw[h.mem.len];exact hk
 have hbs:blk (.slice (some (Ad sb 0)) f.ak.length cap) sb:=rfl
 have jN:=(h.mem.row.lt sb hbs).2
 have s0:=hb0.size
 have s1:=hb1.size
 have k0:Kp (fun b=>b=sb) w w1:=Kp.aF (hb0.trans (hb1.mono s0))
 have kS:Kp (fun b=>b=sb) w1 ((w1.setCell (Ad sb (k*3+1)) va).setCell (Ad sb (k*3+2)) vp):=(Kp.set (fun b=>b=sb) w1 (Ad sb (k*3+1)) va rfl).trans (Kp.set (fun b=>b=sb) _ (Ad sb (k*3+2)) vp rfl) (fun _ _ g=>g)
 have kk:=k0.trans kS (fun _ _ g=>g)
 refine⟨h.turn kK (kk.mono (fun b _ e=>.inl (e ▸ hbs))) ?_ ⟨(h.mem.each k kK).live,?_,?_⟩ (fun b g=>.inr (ha.lt b g).1) (fun b g=>.inr (by have:=(hp.lt b g).1;omega)) (fun b g1 g2=>?_),kk⟩
 · have hr:=Kp.row (Kp.aF (D:=fun _=>False) (hb0.trans (hb1.mono s0))) h.mem.row (fun _ _ g=>g)
   have hn:L.length=f.ak.length:=h.mem.len
   rw[hn] at hr ⊢
   rw[<- nt L k kK] at hr
   have r1:=bY hr (k*3+1) va
   rw[<- dg L k kK (bu L k) ⟨(bu L k).lv,va,(bu L k).vp⟩ 1 (by omega) va rfl] at r1
   have r2:=bY r1 (k*3+2) vp
   rw[<- dg L k kK ⟨(bu L k).lv,va,(bu L k).vp⟩ ⟨(bu L k).lv,va,vp⟩ 2 (by omega) vp rfl] at r2
   exact r2
 · exact kS.row (Kp.row (Kp.aF (D:=fun _=>False) hb1) (AW.Own.mono ha hlo) (fun _ _ g=>g)) (fun g hg e=>by have:=(ha.lt g hg).1;omega)
 · exact kS.row (lD hp (fun g hg=>by have:=(hp.lt g hg).1;omega)) (fun g hg e=>by have:=(hp.lt g hg).1;omega)
 · have:=(hp.lt b g1).1
   have:=(ha.lt b g2).2
   omega
theorem Fo.drop {sb cap:Nat} (h:Fo lo mb w f (.slice (some (Ad sb 0)) f.ak.length cap) L vr vo) {k:Nat} (hk:k<f.ak.length) :
  Fo lo mb (((w.setCell (Ad sb (k*3)) (.bool false)).setCell (Ad sb (k*3+1)) Nl).setCell (Ad sb (k*3+2)) Nl) (GR.jl f k FM.E0) (.slice (some (Ad sb 0)) f.ak.length cap) (L.set k vY) vr vo/\Kp (fun b=>b=sb) w (((w.setCell (Ad sb (k*3)) (.bool false)).setCell (Ad sb (k*3+1)) Nl).setCell (Ad sb (k*3+2)) Nl):=by
 have kK:k<L.length:=by rw[h.mem.len];exact hk
 have hbs:blk (.slice (some (Ad sb 0)) f.ak.length cap) sb:=rfl
 have iz:Kp (fun b=>b=sb) w (((w.setCell (Ad sb (k*3)) (.bool false)).setCell (Ad sb (k*3+1)) Nl).setCell (Ad sb (k*3+2)) Nl):=((Kp.set (fun b=>b=sb) w (Ad sb (k*3)) _ rfl).trans (Kp.set (fun b=>b=sb) _ (Ad sb (k*3+1)) _ rfl) (fun _ _ g=>g)).trans (Kp.set (fun b=>b=sb) _ (Ad sb (k*3+2)) _ rfl) (fun _ _ g=>g)
 refine⟨h.turn kK (l:=vY) (s:=FM.E0) (iz.mono (fun b _ e=>.inl (e ▸ hbs))) ?_ ⟨rfl,AW.Own.nil _ _,World.ownsRow_nil _ _ _ _⟩ (fun b g=>by cases g) (fun b g=>by cases g) (fun b g=>by cases g),iz⟩
 have hn:L.length=f.ak.length:=h.mem.len
 have hr:=h.mem.row
 rw[hn] at hr ⊢
 rw[<- nt L k kK] at hr
 have r0:=bY hr (k*3+0) (.bool false)
 rw[<- dg L k kK (bu L k) ⟨false,(bu L k).va,(bu L k).vp⟩ 0 (by omega) (.bool false) rfl] at r0
 have r1:=bY r0 (k*3+1) Nl
 rw[<- dg L k kK ⟨false,(bu L k).va,(bu L k).vp⟩ ⟨false,Nl,(bu L k).vp⟩ 1 (by omega) Nl rfl] at r1
 have r2:=bY r1 (k*3+2) Nl
 rw[<- dg L k kK ⟨false,Nl,(bu L k).vp⟩ vY 2 (by omega) Nl rfl] at r2
 exact r2
theorem Fo.push {w4:World} {v':Value} {l:Lc} {s:FM.Sp} {O:Obj} (h:Fo lo mb w f v L vr vo) (hlo:lo<=w.heap.size) (hb2:Below w.heap.size w w2)
  (J6:eP w.heap.size w2 l s) (hne:∀b,blk l.vp b->¬blk l.va b) (hgr:(w2.alloc O).grownBy w4 v.ownBlock) (hown:w4.ownsRow lo 53 3 v' (L.length+1) (L.flatMap bH++bH l))
  (hat:v'.ownBlock=v.ownBlock∨v'.ownBlock=some (w2.alloc O).heap.size) :
  Fo lo mb (w4.setCell (Ad mb 1) v') ⟨f.slots,f.ak++[s],f.procs,f.out⟩ v' (L++[l]) vr vo/\Kp (fun b=>b=mb∨blk v b) w (w4.setCell (Ad mb 1) v'):=by
 obtain⟨h1,h2⟩:=h.mem.push (D':=Ap vr vo) hlo hb2 J6 hne hgr hown hat (fun b g=>g) (fun b g _=>h.new g)
 refine⟨⟨h1,h2.row h.procs (fun g hg e=>?_),h2.row h.words (fun g hg e=>?_),h.apart⟩,h2⟩
 · rcases e with e | e
   · exact h.mem.d1.1 (e ▸ hg)
   · exact(h.mem.d2 g e).1 hg
 · rcases e with e | e
   · exact h.mem.d1.2 (e ▸ hg)
   · exact(h.mem.d2 g e).2 hg
theorem Fo.word {w1 w4:World} {vo':Value} {o:FM.Wd} (h:Fo lo mb w f v L vr vo) (hb:Below w.heap.size w w1) (hgr:w1.grownBy w4 vo.ownBlock) (hown:w4.ownsRow lo 78 2 vo' (f.out.length+1) (f.out.flatMap bR++bR o))
  (hat:vo'.ownBlock=vo.ownBlock∨vo'.ownBlock=some w1.heap.size) :
  Fo lo mb (w4.setCell (Ad mb 3) vo') ⟨f.slots,f.ak,f.procs,f.out++[o]⟩ v L vr vo'/\Kp (fun b=>b=mb∨blk vo b) w (w4.setCell (Ad mb 3) vo'):=by
 have hz:=hb.size
 have hmb:=B.isLt h.mem.head
 have kC:Kp (blk vo) w w4:=(Kp.aF hb).trans (Kp.grown hgr (fun _ e=>e)) (fun _ _ g=>g)
 have kS:Kp (fun b=>b=mb) w4 (w4.setCell (Ad mb 3) vo'):=Kp.set _ _ _ _ rfl
 have hv':∀b,blk vo' b->blk vo b∨b=w1.heap.size:=fun b g=>by
  have g':vo'.ownBlock=some b:=g
  rcases hat with e | e
  · exact .inl (by show vo.ownBlock=some b;rw[<- e];exact g')
  · rw[e] at g';injection g' with g';exact .inr g'.symm
 have hap:∀b,lo<=b->b<w.heap.size->Ap vr vo b->Ap vr vo' b:=fun b _ hlt g=>⟨g.1,fun x=>by rcases hv' b x with y | y;exact g.2 y;omega⟩
 refine⟨⟨?_,?_,?_,?_⟩,(kC.mono (fun b _ g=>.inr g)).trans (kS.mono (fun b _ g=>.inl g)) (fun _ _ g=>g)⟩
 · exact((h.mem.dom (D':=fun b=>Ap vr vo b/\Ap vr vo' b) (fun b h1 h2 h3=>⟨h3,hap b h1 h2 h3⟩)).kp kC (fun b g e=>g.1.2 e)).PN (j:=3) (u:=vo') (vr':=vr) (vo':=vo') rfl |>.dom (fun b _ _ g=>g.2)
 · exact kS.row (kC.row h.procs (fun g hg e=>h.apart g hg e)) (fun g hg e=>h.mem.d1.1 (e ▸ hg))
 · refine kS.row ?_ (fun g hg e=>?_)
   · rw[List.length_append,List.flatMap_append]
     simpa using hown
   · rcases hv' g hg with y | y
     · exact h.mem.d1.2 (e ▸ y)
     · omega
 · intro b hb hb2
   rcases hv' b hb2 with y | y
   · exact h.apart b hb y
   · have:=(h.procs.lt b hb).2;omega
end
end GO
end Go.Proofs.YtkdigjpejnebkaaGreat
