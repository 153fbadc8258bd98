import Derived.Test.YtkdigjpejnebkaaGreatGQ00
import Derived.Test.YtkdigjpejnebkaaGreatGQ23
import Derived.Test.YtkdigjpejnebkaaGreatGQ12
set_option maxHeartbeats 20000000
set_option linter.unusedVariables false
set_option maxRecDepth 100000
set_option linter.unusedSimpArgs false
namespace Go.Proofs.YtkdigjpejnebkaaGreat
namespace GR
open Go.RowKit
theorem xV {f:FM.Fl} (hc:FM.cu f=true):f.ak.length<=4/\f.procs.length=f.ak.length:=by
 unfold FM.cu at hc
 simp only[Bool.and_eq_true,decide_eq_true_eq] at hc
 exact⟨hc.1.2,hc.2.1⟩
theorem LX {l:List FM.Sp} {k:Nat} (h:k<l.length):FM.ax l k∈l:=by
 unfold FM.ax
 rw[List.getD_eq_getElem?_getD,List.getElem?_eq_getElem h]
 exact List.getElem_mem h
theorem MB {l:List FM.Sp} {p:FM.Sp} (h:p∈l):∃k,k<l.length/\FM.ax l k=p:=by
 obtain⟨k,hk⟩:=List.getElem?_of_mem h
 have hlt:k<l.length:=by
  rcases Nat.lt_or_ge k l.length with g | g
  · exact g
  · rw[List.getElem?_eq_none g] at hk
    cases hk
 refine⟨k,hlt,?_⟩
 unfold FM.ax
 rw[List.getD_eq_getElem?_getD,hk]
 rfl
theorem NV {f:FM.Fl} (hc:FM.cu f=false):FM.bV f=2:=by
 unfold FM.bV
 rw[if_pos hc]
theorem I4 {f:FM.Fl} (hc:FM.cu f=true) {k:Nat} (hk:k<f.ak.length) (h:FM.eV (FM.au f.procs k) (FM.ax f.ak k).live=false∨¬FM.gm (FM.ax f.ak k)):FM.bV f=1:=by
 unfold FM.bV
 rw[if_neg (by rw[hc];simp),if_neg]
 intro g
 rw[Bool.and_eq_true] at g
 obtain⟨g1,g2⟩:=g
 unfold FM.fO at g1
 rw[Bool.and_eq_true] at g1
 have hs:=List.all_eq_true.1 g1.1 _ (LX hk)
 rcases h with h | h
 · rw[FM.zL] at h
   unfold FM.iG at g2
   rw[Bool.and_eq_true] at g2
   have hh:(FM.bT (FM.au f.procs k)&&FM.Dk f k)=true:=List.all_eq_true.1 g2.1 k (List.mem_range.2 (by rw[(xV hc).2];exact hk))
   unfold FM.Dk at hh
   rw[hh] at h
   cases h
 · exact h ((FM.rC _).2 hs)
theorem Re {f:FM.Fl} (hc:FM.cu f=true) (h:∀k,k<f.ak.length->FM.eV (FM.au f.procs k) (FM.ax f.ak k).live=true/\FM.gm (FM.ax f.ak k)):FM.bV f=if decide (FM.jD f.ak f.ak.length<=f.slots)&&FM.dh f.out f.procs.length f.out.length then 0 else 1:=by
 have hl:=xV hc
 have h1:f.ak.all FM.aU=true:=by
  rw[List.all_eq_true]
  intro s hs
  obtain⟨k,hk,rfl⟩:=MB hs
  exact(FM.rC _).1 (h k hk).2
 have h2:(List.range f.procs.length).all (fun i=>FM.bT (FM.au f.procs i)&&FM.Dk f i)=true:=by
  rw[List.all_eq_true]
  intro k hk
  have:=(h k (by have:=List.mem_range.1 hk;omega)).1
  rw[FM.zL] at this
  exact this
 unfold FM.bV
 rw[if_neg (by rw[hc];simp)]
 unfold FM.fO FM.iG
 rw[h1,h2,Bool.true_and,Bool.true_and,show f.out.all (fun o=>decide (0<=o.proc/\o.proc<(f.procs.length:Int)))=FM.dh f.out f.procs.length f.out.length from FM.zC f.out f.procs.length]
 unfold FM.room
 rw[FM.zZ _ h1 _ (Nat.le_refl _)]
def bO (s:FM.Sp) (k:Nat):Prop:=∀j,j<k->(AM.aW s.aw (FM.aN s.aj j).page).2=true/\(0<j->(FM.aN s.aj (j-1)).page<(FM.aN s.aj j).page)/\(FM.aN s.aj j).data.size=16
theorem je {s:FM.Sp} {k:Nat} (h:bO s k) (h1:(AM.aW s.aw (FM.aN s.aj k).page).2=true) (h2:0<k->(FM.aN s.aj (k-1)).page<(FM.aN s.aj k).page) (h3:(FM.aN s.aj k).data.size=16):bO s (k+1):=fun j hj=>by
 by_cases e:j=k
 · subst e
   exact⟨h1,h2,h3⟩
 · exact h j (by omega)
theorem QZ {s:FM.Sp} (h1:s.live=false->s.aw.length=0/\s.aj.length=0) (h2:AM.aD s.aw=0) (h3:(s.aj.length:Int)=AM.br s.aw) (h4:bO s s.aj.length):FM.gm s:=⟨h1,h2,h3,h4⟩
theorem Qy {l:List FM.Sp} (h:FW.yB l):∀k,k<=l.length->0<=FM.jD l k/\FM.jD l k<=140737488351232*(k:Int):=fun k=>by
 induction k with
 | zero=>intro _;exact⟨Int.le_refl _,Int.le_refl _⟩
 | succ k ih =>
  intro hk
  have h1:=ih (by omega)
  have h2:(FM.ax l k).aj.length<=140737488351232:=(h.2 k (by omega)).aj
  show 0<=FM.jD l k+((FM.ax l k).aj.length:Int)/\FM.jD l k+((FM.ax l k).aj.length:Int)<=_
  omega
theorem Ba (s:ByteArray) (q:Nat) (t:ByteArray) (x:Nat) (h:q+t.size<=s.size):(CL.over s q t).data.toList[x]?=if q<=x/\x<q+t.size then t.data.toList[x-q]? else s.data.toList[x]?:=by
 have hs:s.data.toList.length=s.size:=rfl
 have ht:t.data.toList.length=t.size:=rfl
 unfold CL.over
 rw[List.toList_toArray]
 by_cases c:x<q
 · rw[if_neg (by omega),List.append_assoc,List.getElem?_append_left (by rw[List.length_take];omega),List.getElem?_take,if_pos c]
 · by_cases d:x<q+t.size
   · rw[if_pos ⟨by omega,d⟩,List.append_assoc,List.getElem?_append_right (by rw[List.length_take];omega),List.length_take,Nat.min_eq_left (by omega),List.getElem?_append_left (by omega)]
   · rw[if_neg (by omega),List.getElem?_append_right (by rw[List.length_append,List.length_take];omega),List.length_append,List.length_take,Nat.min_eq_left (by omega),ht,List.getElem?_drop]
     congr 1
     omega
theorem Qf (s:ByteArray) (k:Nat) (h:k<s.size):(s.extract k (k+1)).data.toList[0]?=s.data.toList[k]?:=by
 rw[il,List.getElem?_drop,List.getElem?_take,if_pos (by omega),Nat.add_zero]
theorem Dc (s:ByteArray) (k:Nat) (h:k<s.size):(s.extract k (k+1)).size=1:=by
 rw[ByteArray.size_extract]
 omega
def EA (p a:Int) (s d:ByteArray):Nat->ByteArray
 | 0=>d
 | k+1=>if p=(a+(k:Int))/16 then CL.over (EA p a s d k) ((a+(k:Int))%16).toNat (s.extract k (k+1)) else EA p a s d k
def cY (ps:List FM.Pg) (a:Int) (s:ByteArray) (k:Nat):List FM.Pg:=ps.map (fun g=>⟨g.page,EA g.page a s g.data k⟩)
theorem AP {p a:Int} {s d:ByteArray} (hd:d.size=16) (ha:0<=a):∀k,k<=s.size->(EA p a s d k).size=16/\∀x:Nat,x<16->(EA p a s d k).data.toList[x]?=if a<=16*p+(x:Int)/\16*p+(x:Int)<a+(k:Int) then s.data.toList[(16*p+(x:Int)-a).toNat]? else d.data.toList[x]?:=fun k=>by
 induction k with
 | zero =>
  intro _
  refine⟨hd,fun x hx=>?_⟩
  rw[if_neg (by omega)]
  rfl
 | succ k ih =>
  intro hk
  obtain⟨i1,i2⟩:=ih (by omega)
  show((if p=(a+(k:Int))/16 then CL.over (EA p a s d k) ((a+(k:Int))%16).toNat (s.extract k (k+1)) else EA p a s d k):ByteArray).size=16/\∀x:Nat,x<16->((if p=(a+(k:Int))/16 then CL.over (EA p a s d k) ((a+(k:Int))%16).toNat (s.extract k (k+1)) else EA p a s d k):ByteArray).data.toList[x]?=_
  have h1:=Dc s k (by omega)
  by_cases c:p=(a+(k:Int))/16
  · rw[if_pos c]
    have hb:((a+(k:Int))%16).toNat+(s.extract k (k+1)).size<=(EA p a s d k).size:=by rw[h1,i1];omega
    refine⟨by rw[CL.jz _ _ _ hb,i1],fun x hx=>?_⟩
    rw[Ba _ _ _ _ hb,h1]
    by_cases e:x=((a+(k:Int))%16).toNat
    · rw[if_pos (by omega),if_pos (by omega),show x-((a+(k:Int))%16).toNat=0 by omega,Qf s k (by omega)]
      congr 1
      omega
    · rw[if_neg (by omega),i2 x hx]
      by_cases g:a<=16*p+(x:Int)/\16*p+(x:Int)<a+(k:Int)
      · rw[if_pos g,if_pos (by omega)]
      · rw[if_neg g,if_neg (by omega)]
  · rw[if_neg c]
    refine⟨i1,fun x hx=>?_⟩
    rw[i2 x hx]
    by_cases g:a<=16*p+(x:Int)/\16*p+(x:Int)<a+(k:Int)
    · rw[if_pos g,if_pos (by omega)]
    · rw[if_neg g,if_neg (by omega)]
theorem Fw {ps:List FM.Pg} (hr:FW.yj ps) {g:FM.Pg} (hg:g∈ps):GM.rY ps g.page=g.data:=by
 obtain⟨k,hk,rfl⟩:=FM.ie hg
 unfold GM.rY
 rw[FW.sH ps _ k hk (fun j hj e=>by have:=hr j k hj hk;omega) rfl]
 rfl
theorem Ee {x y:ByteArray} (n:Nat) (hx:x.size=n) (hy:y.size=n) (h:∀i,i<n->x.data.toList[i]?=y.data.toList[i]?):x=y:=by
 apply yg
 apply List.ext_getElem?
 intro i
 by_cases c:i<n
 · exact h i c
 · have hx':x.data.toList.length=n:=hx
   have hy':y.data.toList.length=n:=hy
   rw[List.getElem?_eq_none (by omega),List.getElem?_eq_none (by omega)]
theorem wY (x:ByteArray) (i j k:Nat) (h:i+k<j):(x.extract i j).data.toList[k]?=x.data.toList[i+k]?:=by
 rw[il,List.getElem?_drop,List.getElem?_take,if_pos (by omega)]
theorem I8 (x y:ByteArray) (k:Nat):(x++y).data.toList[k]?=if k<x.size then x.data.toList[k]? else y.data.toList[k-x.size]?:=by
 rw[ByteArray.data_append,Array.toList_append]
 have hx:x.data.toList.length=x.size:=rfl
 by_cases c:k<x.size
 · rw[if_pos c,List.getElem?_append_left (by omega)]
 · rw[if_neg c,List.getElem?_append_right (by omega),hx]
theorem E0 (ps:List FM.Pg) (a:Int) (s:ByteArray) (hr:FW.yj ps) (hsz:∀g∈ps,g.data.size=16) (ha:0<=a) (h1:1<=s.size) (h8:s.size<=8) (hz:∀k:Nat,k<s.size->(GM.rY ps ((a+(k:Int))/16)).size=16):cY ps a s s.size=GM.fT ps a s:=by
 have z0:=hz 0 (by omega)
 rw[show(a+((0:Nat):Int))/16=a/16 by omega] at z0
 have z1:=hz (s.size-1) (by omega)
 rw[show(a+((s.size-1:Nat):Int))/16=(a+(s.size:Int)-1)/16 by omega] at z1
 unfold cY GM.fT GM.mv GM.eH GM.cW
 by_cases c:(a+(s.size:Int)-1)/16=a/16
 · rw[if_pos c,if_pos c]
   apply List.map_congr_left
   intro g hg
   obtain⟨b1,b2⟩:=AP (p:=g.page) (s:=s) (hsz g hg) ha s.size (Nat.le_refl _)
   by_cases e:g.page=a/16
   · rw[if_pos e]
     have hb:(a%16).toNat+s.size<=(GM.rY ps (a/16)).size:=by rw[z0];omega
     congr 1
     refine Ee 16 b1 (by rw[ByteArray.size_extract,CL.jz _ _ _ hb,z0];rfl) (fun x hx=>?_)
     rw[b2 x hx,wY _ 0 16 x (by omega),Nat.zero_add,Ba _ _ _ _ hb,<- e,Fw hr hg]
     by_cases q:(g.page*16+(x:Int))<a∨a+(s.size:Int)<=g.page*16+(x:Int)
     · rw[if_neg (by omega),if_neg (by omega)]
     · rw[if_pos (by omega),if_pos (by omega)]
       congr 1
       omega
   · rw[if_neg e]
     have:EA g.page a s g.data s.size=g.data:=Ee 16 b1 (hsz g hg) (fun x hx=>by rw[b2 x hx,if_neg (by omega)])
     rw[this]
 · rw[if_neg c,if_neg c,List.map_map]
   apply List.map_congr_left
   intro g hg
   obtain⟨b1,b2⟩:=AP (p:=g.page) (s:=s) (hsz g hg) ha s.size (Nat.le_refl _)
   have hj:(GM.rY ps (a/16)++GM.rY ps ((a+(s.size:Int)-1)/16)).size=32:=by rw[ByteArray.size_append,z0,z1]
   have hb:(a%16).toNat+s.size<=(GM.rY ps (a/16)++GM.rY ps ((a+(s.size:Int)-1)/16)).size:=by rw[hj];omega
   have ho:=CL.jz _ _ _ hb
   rw[hj] at ho
   show(⟨g.page,EA g.page a s g.data s.size⟩:FM.Pg)=if ((if g.page=a/16 then (⟨a/16,_⟩:FM.Pg) else g):FM.Pg).page=(a+(s.size:Int)-1)/16 then _ else _
   by_cases e:g.page=a/16
   · rw[if_pos e,if_neg (by show ¬a/16=_;omega)]
     congr 1
     refine Ee 16 b1 (by rw[ByteArray.size_extract,ho];rfl) (fun x hx=>?_)
     rw[b2 x hx,wY _ 0 16 x (by omega),Nat.zero_add,Ba _ _ _ _ hb,I8,z0,if_pos hx,<- e,Fw hr hg]
     by_cases q:(g.page*16+(x:Int))<a∨a+(s.size:Int)<=g.page*16+(x:Int)
     · rw[if_neg (by omega),if_neg (by omega)]
     · rw[if_pos (by omega),if_pos (by omega)]
       congr 1
       omega
   · rw[if_neg e]
     by_cases f:g.page=(a+(s.size:Int)-1)/16
     · rw[if_pos f]
       congr 1
       refine Ee 16 b1 (by rw[ByteArray.size_extract,ho];rfl) (fun x hx=>?_)
       rw[b2 x hx,wY _ 16 32 x (by omega),Ba _ _ _ _ hb,I8,z0,if_neg (show ¬16+x<16 by omega),show 16+x-16=x by omega,<- f,Fw hr hg]
       by_cases q:(g.page*16+(x:Int))<a∨a+(s.size:Int)<=g.page*16+(x:Int)
       · rw[if_neg (by omega),if_neg (by omega)]
       · rw[if_pos (by omega),if_pos (by omega)]
         congr 1
         omega
     · rw[if_neg f]
       have:EA g.page a s g.data s.size=g.data:=Ee 16 b1 (hsz g hg) (fun x hx=>by rw[b2 x hx,if_neg (by omega)])
       rw[this]
def mix (f:FM.Pg->FM.Pg) (l:List FM.Pg) (k:Nat):List FM.Pg:=(l.take k).map f++l.drop k
theorem My (f:FM.Pg->FM.Pg) (l:List FM.Pg):mix f l 0=l:=rfl
theorem Qp (f:FM.Pg->FM.Pg) (l:List FM.Pg):mix f l l.length=l.map f:=by
 unfold mix
 rw[List.take_length,List.drop_length,List.append_nil]
theorem FL (f:FM.Pg->FM.Pg) (l:List FM.Pg) (k:Nat):(mix f l k).length=l.length:=by
 unfold mix
 rw[List.length_append,List.length_map,List.length_take,List.length_drop]
 omega
theorem T6 (f:FM.Pg->FM.Pg) (l:List FM.Pg) (k:Nat) (h:k<l.length):FM.aN (mix f l k) k=FM.aN l k:=by
 unfold FM.aN mix
 rw[List.getD_eq_getElem?_getD,List.getD_eq_getElem?_getD,List.getElem?_append_right (by rw[List.length_map,List.length_take];omega),List.length_map,List.length_take,Nat.min_eq_left (by omega),Nat.sub_self,List.getElem?_drop,Nat.add_zero]
theorem Mz (f:FM.Pg->FM.Pg) (l:List FM.Pg) (k:Nat) (h:k<l.length):mix f l (k+1)=(mix f l k).set k (f (FM.aN l k)):=by
 have e:FM.aN l k=l[k]:=by
  unfold FM.aN
  rw[List.getD_eq_getElem?_getD,List.getElem?_eq_getElem h]
  rfl
 unfold mix
 rw[List.set_append_right _ _ (by rw[List.length_map,List.length_take];omega),List.length_map,List.length_take,Nat.min_eq_left (by omega),Nat.sub_self,List.take_succ_eq_append_getElem h,List.map_append,e,List.drop_eq_getElem_cons h,List.set_cons_zero,List.append_assoc]
 rfl
theorem MA (f:FM.Pg->FM.Pg) (l:List FM.Pg) (k:Nat) (h:k<l.length) (hf:f (FM.aN l k)=FM.aN l k):mix f l (k+1)=mix f l k:=by
 have e:FM.aN l k=l[k]:=by
  unfold FM.aN
  rw[List.getD_eq_getElem?_getD,List.getElem?_eq_getElem h]
  rfl
 rw[e] at hf
 unfold mix
 rw[List.take_succ_eq_append_getElem h,List.map_append,List.drop_eq_getElem_cons h,List.append_assoc]
 show _++([f l[k]]++_)=_
 rw[hf]
 rfl
def lG (a:Int) (s:ByteArray) (j:Nat) (g:FM.Pg):FM.Pg:=if g.page=(a+(j:Int))/16 then ⟨g.page,CL.over g.data ((a+(j:Int))%16).toNat (s.extract j (j+1))⟩ else g
theorem AH (ps:List FM.Pg) (a:Int) (s:ByteArray) (j:Nat):cY ps a s (j+1)=(cY ps a s j).map (lG a s j):=by
 unfold cY
 rw[List.map_map]
 apply List.map_congr_left
 intro g _
 show(⟨g.page,if g.page=(a+(j:Int))/16 then _ else _⟩:FM.Pg)=lG a s j ⟨g.page,EA g.page a s g.data j⟩
 unfold lG
 by_cases c:g.page=(a+(j:Int))/16
 · rw[if_pos c,if_pos c]
 · rw[if_neg c,if_neg c]
theorem AG (ps:List FM.Pg) (a:Int) (s:ByteArray):cY ps a s 0=ps:=by
 unfold cY
 have:(fun g:FM.Pg=>(⟨g.page,EA g.page a s g.data 0⟩:FM.Pg))=id:=by funext g;rfl
 rw[this,List.map_id]
theorem oU (ps:List FM.Pg) (a:Int) (s:ByteArray) (k:Nat):(cY ps a s k).length=ps.length:=by
 unfold cY
 rw[List.length_map]
theorem AJ {ps:List FM.Pg} {a:Int} {s:ByteArray} (hz:∀k,k<ps.length->(FM.aN ps k).data.size=16) (ha:0<=a) (j:Nat) (hj:j<=s.size):∀k,k<ps.length->(FM.aN (cY ps a s j) k).data.size=16:=fun k hk=>by
 have e:FM.aN (cY ps a s j) k=⟨(FM.aN ps k).page,EA (FM.aN ps k).page a s (FM.aN ps k).data j⟩:=by
  unfold FM.aN cY
  rw[List.getD_eq_getElem?_getD,List.getElem?_map,List.getElem?_eq_getElem hk,List.getD_eq_getElem?_getD,List.getElem?_eq_getElem hk]
  rfl
 rw[e]
 exact(AP (hz k hk) ha j hj).1
def Gy (ps:List FM.Pg) (x:Int):FM.Pg:=⟨x,(FW.cM x ps).getD GM.gT⟩
def eo (l:List AM.Ar) (ps:List FM.Pg) (k:Nat):List FM.Pg:=((FM.run 1 k).filter (fun x=>(AM.aW l x).2)).map (Gy ps)
theorem Kt (l:List AM.Ar) (ps:List FM.Pg) (k:Nat) (h:(AM.aW l (1+(k:Int))).2=true):eo l ps (k+1)=eo l ps k++[Gy ps (1+(k:Int))]:=by
 unfold eo
 rw[FM.jY,List.filter_append,List.map_append]
 congr 1
 rw[List.filter_cons,if_pos h]
 rfl
theorem Ny (l:List AM.Ar) (ps:List FM.Pg) (k:Nat) (h:(AM.aW l (1+(k:Int))).2=false):eo l ps (k+1)=eo l ps k:=by
 unfold eo
 rw[FM.jY,List.filter_append,List.map_append,List.filter_cons,if_neg (by rw[h];simp)]
 simp
theorem Ku (l:List AM.Ar) (ps:List FM.Pg) (k:Nat):(eo l ps k).length<=k:=by
 unfold eo
 rw[List.length_map]
 have:=List.length_filter_le (fun x=>(AM.aW l x).2) (FM.run 1 k)
 rw[FM.nN] at this
 exact this
theorem ug {l:List AM.Ar} (hc:AM.aD l=0) (ps:List FM.Pg):eo l ps 255=(FM.bk l).map (Gy ps):=by
 unfold eo
 congr 1
 refine GM.nJ ((FM.nM 255 1).sublist List.filter_sublist) (FM.lW hc).sorted (fun x=>?_)
 rw[List.mem_filter,FM.jM,GM.eG hc]
 constructor
 · exact fun h=>h.2
 · intro h
   have:=GM.nP hc ((GM.eG hc).2 h)
   exact⟨⟨by omega,by omega⟩,h⟩
theorem Gx {l:List AM.Ar} {ps ps':List FM.Pg} (abX:FM.numbers ps'=FM.bk l) (h:∀g∈ps',(FW.cM g.page ps).getD GM.gT=g.data):(FM.bk l).map (Gy ps)=ps':=by
 rw[<- abX]
 unfold FM.numbers
 rw[List.map_map]
 have:∀q:List FM.Pg,(∀g∈q,(FW.cM g.page ps).getD GM.gT=g.data)->q.map (Gy ps∘fun x=>x.page)=q:=fun q=>by
  induction q with
  | nil=>intro _;rfl
  | cons g q ih =>
   intro hq
   rw[List.map_cons,ih (fun x hx=>hq x (List.mem_cons_of_mem _ hx))]
   congr 1
   show(⟨g.page,(FW.cM g.page ps).getD GM.gT⟩:FM.Pg)=g
   rw[hq g List.mem_cons_self]
 exact this ps' h
theorem o5 {ps:List FM.Pg} (hr:FW.yj ps) {g:FM.Pg} (hg:g∈ps):FW.cM g.page ps=some g.data:=by
 obtain⟨k,hk,rfl⟩:=FM.ie hg
 exact FW.sH ps _ k hk (fun j hj e=>by have:=hr j k hj hk;omega) rfl
theorem DN {s:FM.Sp} (h:GM.ql s) {p n q:Int} (hm:(AW.bg s.aw p n q).2=0):eo (AW.bg s.aw p n q).1 s.aj 255=s.aj:=by
 obtain⟨h1,h2⟩:=GM.mM h.check hm
 rw[ug h1]
 exact Gx (by rw[h.nums,h2]) (fun g hg=>by rw[o5 h.nO hg];rfl)
theorem Kq {s:FM.Sp} (h:GM.ql s) {p n:Int} (hm:(AW.bP s.aw p n).2=0):eo (AW.bP s.aw p n).1 s.aj 255=GM.iH s.aj p n:=by
 have hl:=GM.zD h hm
 have h1:=hl.check
 rw[ug h1]
 refine Gx hl.nums (fun g hg=>?_)
 have hg':g∈s.aj:=(List.mem_filter.1 hg).1
 rw[o5 h.nO hg']
 rfl
theorem Ig:∀(ps:List FM.Pg) (x:Int),x∉FM.numbers ps->FW.cM x ps=none
 | [],x,_=>rfl
 | g::ps,x,h=>by
  have h1:¬g.page=x:=fun e=>h (by unfold FM.numbers;rw[List.map_cons,e];exact List.mem_cons_self)
  show(if g.page=x then some g.data else FW.cM x ps)=none
  rw[if_neg h1]
  exact Ig ps x (fun e=>h (by unfold FM.numbers at e ⊢;rw[List.map_cons];exact List.mem_cons_of_mem _ e))
theorem Bz {s:FM.Sp} (h:GM.ql s) {p n q:Int} (hm:(AW.dF s.aw p n q).2=0):eo (AW.dF s.aw p n q).1 s.aj 255=GM.iZ s.aj p n.toNat:=by
 have hl:=GM.Io h hm
 have h1:=hl.check
 obtain⟨_,h2,_,h4⟩:=GM.ll h.check hm
 rw[ug h1]
 refine Gx hl.nums (fun g hg=>?_)
 have hg':g∈GM.iZ s.aj p n.toNat:=hg
 unfold GM.iZ at hg'
 rcases List.mem_append.1 hg' with e | e
 · rw[o5 h.nO (List.mem_of_mem_take e)];rfl
 · rcases List.mem_append.1 e with e | e
   · unfold GM.gS at e
     obtain⟨x,hx,rfl⟩:=List.mem_map.1 e
     have hr:=(FM.jM _ _ _).1 hx
     rw[Ig s.aj x (by rw[h.nums];exact h4 x (by omega) (by omega))]
     rfl
   · rw[o5 h.nO (List.mem_of_mem_drop e)];rfl
end GR
namespace GR
open Go.RowKit GH
def dV (f:FM.Fl) (pick:Int):FM.Fl:=su (GG.stepG GM.aQ (bb f) pick).2
structure Run (f:FM.Fl) (k:Nat):Prop where
 lt:k<f.procs.length
 st:(FM.au f.procs k).st=1
 out:f.out.length<2000
def Iq (f:FM.Fl) (k:Nat) (x:Int×Int):FM.Fl:=⟨f.slots,f.ak.set k FM.E6,f.procs.set k (FW.kJ (FM.au f.procs k) x),f.out⟩
theorem AL {f:FM.Fl} {k:Nat} (h:Run f k):GG.stepG GM.aQ (bb f) (k:Int)=if (GG.oN GM.aQ (bb f) k).1.1=0 then (0,(GG.oN GM.aQ (bb f) k).2) else (0,{ (GG.oN GM.aQ (bb f) k).2 with mem:=GM.DW (GG.oN GM.aQ (bb f) k).2.mem k,ps:=(GG.oN GM.aQ (bb f) k).2.ps.set k (FW.kJ (FM.au (GG.oN GM.aQ (bb f) k).2.ps k) (GG.oN GM.aQ (bb f) k).1) }):=by
 have hl:(k:Int)<((bb f).ps.length:Int):=by have:=h.lt;show(k:Int)<(f.procs.length:Int);omega
 have hs:(FM.au (bb f).ps (k:Int).toNat).st=1:=h.st
 have ho:¬2000<=(bb f).out.length:=by have:=h.out;show ¬2000<=f.out.length;omega
 unfold GG.stepG
 rw[if_neg (fun g=>g ⟨by omega,hl⟩),if_neg (fun g=>g hs),if_neg ho]
 rfl
theorem Ip {f:FM.Fl} {k:Nat} {a n way:Int} (h:¬(FM.bG (FM.ax f.ak k).aw a n way).1=0):GM.aQ.load (bb f).mem k a n way=((⟨#[]⟩,FM.bG (FM.ax f.ak k).aw a n way),(bb f).mem):=if_neg h
theorem Dj {f:FM.Fl} {k:Nat} {a n way:Int} (h:(FM.bG (FM.ax f.ak k).aw a n way).1=0):GM.aQ.load (bb f).mem k a n way=((GM.ig (FM.ax f.ak k).aj a n,(0,0)),(bb f).mem):=if_pos h
theorem E1 {f:FM.Fl} {k:Nat} (h:Run f k) (hx:¬(FM.bG (FM.ax f.ak k).aw (FM.au f.procs k).pc 8 2).1=0):dV f (k:Int)=Iq f k (FM.bG (FM.ax f.ak k).aw (FM.au f.procs k).pc 8 2):=by
 have hd:GG.oN GM.aQ (bb f) k=(FM.bG (FM.ax f.ak k).aw (FM.au f.procs k).pc 8 2,bb f):=by
  unfold GG.oN
  rw[show(FM.au (bb f).ps k).pc=(FM.au f.procs k).pc from rfl,Ip hx]
  dsimp only
  rw[if_pos hx]
 unfold dV
 rw[AL h,hd]
 dsimp only
 rw[if_neg hx]
 rfl
theorem DZ {f:FM.Fl} {k:Nat} (hx:(FM.bG (FM.ax f.ak k).aw (FM.au f.procs k).pc 8 2).1=0) {i:PM.ey} (hi:PM.ins (GM.ig (FM.ax f.ak k).aj (FM.au f.procs k).pc 8)=i):GG.oN GM.aQ (bb f) k=if ¬(GG.bI GM.aQ (bb f) k i).1.2.1=0 then ((GG.bI GM.aQ (bb f) k i).1.2,(GG.bI GM.aQ (bb f) k i).2) else ((0,0),{ (GG.bI GM.aQ (bb f) k i).2 with ps:=GG.fZ i f.procs.length ((GG.bI GM.aQ (bb f) k i).2.ps.set k (PM.doneN (FM.au (GG.bI GM.aQ (bb f) k i).2.ps k) i (GG.bI GM.aQ (bb f) k i).1.1)) }):=by
 unfold GG.oN
 rw[show(FM.au (bb f).ps k).pc=(FM.au f.procs k).pc from rfl,Dj hx]
 dsimp only
 rw[if_neg (fun g=>g rfl),hi]
 rfl
theorem tS {f:FM.Fl} {k:Nat} (h:Run f k) (hx:(FM.bG (FM.ax f.ak k).aw (FM.au f.procs k).pc 8 2).1=0) {i:PM.ey} (hi:PM.ins (GM.ig (FM.ax f.ak k).aj (FM.au f.procs k).pc 8)=i) {y:Int×Int} {v:Int} (hy:¬y.1=0) (ha:GG.bI GM.aQ (bb f) k i=((v,y),bb f)):dV f (k:Int)=Iq f k y:=by
 have hd:GG.oN GM.aQ (bb f) k=(y,bb f):=by
  rw[DZ hx hi,ha]
  dsimp only
  rw[if_pos hy]
 unfold dV
 rw[AL h,hd]
 dsimp only
 rw[if_neg hy]
 rfl
theorem step_done {f g:FM.Fl} {k:Nat} (h:Run f k) (hx:(FM.bG (FM.ax f.ak k).aw (FM.au f.procs k).pc 8 2).1=0) {i:PM.ey} (hi:PM.ins (GM.ig (FM.ax f.ak k).aj (FM.au f.procs k).pc 8)=i) {v:Int} (ha:GG.bI GM.aQ (bb f) k i=((v,(0,0)),bb g)):dV f (k:Int)=⟨g.slots,g.ak,GG.fZ i f.procs.length (g.procs.set k (PM.doneN (FM.au g.procs k) i v)),g.out⟩:=by
 have hd:GG.oN GM.aQ (bb f) k=((0,0),{ bb g with ps:=GG.fZ i f.procs.length (g.procs.set k (PM.doneN (FM.au g.procs k) i v)) }):=by
  rw[DZ hx hi,ha]
  dsimp only
  rw[if_neg (fun g=>g rfl)]
  rfl
 unfold dV
 rw[AL h,hd]
 dsimp only
 rw[if_pos rfl]
 rfl
theorem RL {f:FM.Fl} {k:Nat} {i:PM.ey} (h:i.bad=true):GG.bI GM.aQ (bb f) k i=((0,(4,(FM.au f.procs k).pc)),bb f):=by
 unfold GG.bI
 rw[if_pos h]
 rfl
theorem Ek {f:FM.Fl} {k:Nat} {i:PM.ey} (h:i.bad=false) (ho:i.op=9) (hx:¬(FM.bG (FM.ax f.ak k).aw (wrap64 ((FM.au f.procs k).r i.b.toNat+i.m)) i.c 0).1=0):GG.bI GM.aQ (bb f) k i=((GG.rz ⟨#[]⟩,FM.bG (FM.ax f.ak k).aw (wrap64 ((FM.au f.procs k).r i.b.toNat+i.m)) i.c 0),bb f):=by
 unfold GG.bI
 rw[if_neg (by rw[h];decide),if_pos ho,show(FM.au (bb f).ps k)=FM.au f.procs k from rfl,Ip hx]
theorem Oo {f:FM.Fl} {k:Nat} {i:PM.ey} (h:i.bad=false) (ho:i.op=9) (hx:(FM.bG (FM.ax f.ak k).aw (wrap64 ((FM.au f.procs k).r i.b.toNat+i.m)) i.c 0).1=0):GG.bI GM.aQ (bb f) k i=((GG.rz (GM.ig (FM.ax f.ak k).aj (wrap64 ((FM.au f.procs k).r i.b.toNat+i.m)) i.c),(0,0)),bb f):=by
 unfold GG.bI
 rw[if_neg (by rw[h];decide),if_pos ho,show(FM.au (bb f).ps k)=FM.au f.procs k from rfl,Dj hx]
def wU (f:FM.Fl) (k:Nat) (i:PM.ey):ByteArray:=GG.kR ((FM.au f.procs k).r i.a.toNat) i.c
theorem Cc {f:FM.Fl} {k:Nat} {i:PM.ey} (h:i.bad=false) (ho:i.op=10) (hx:¬(FM.bG (FM.ax f.ak k).aw (wrap64 ((FM.au f.procs k).r i.b.toNat+i.m)) (wU f k i).size 1).1=0):GG.bI GM.aQ (bb f) k i=((0,FM.bG (FM.ax f.ak k).aw (wrap64 ((FM.au f.procs k).r i.b.toNat+i.m)) (wU f k i).size 1),bb f):=by
 have e:GM.aQ.store (bb f).mem k (wrap64 ((FM.au f.procs k).r i.b.toNat+i.m)) (GG.kR ((FM.au f.procs k).r i.a.toNat) i.c)=(FM.bG (FM.ax f.ak k).aw (wrap64 ((FM.au f.procs k).r i.b.toNat+i.m)) (wU f k i).size 1,(bb f).mem):=if_neg hx
 unfold GG.bI
 rw[if_neg (by rw[h];decide),if_neg (by rw[ho];decide),if_pos ho,show(FM.au (bb f).ps k)=FM.au f.procs k from rfl,e]
theorem KU {f:FM.Fl} {k:Nat} {i:PM.ey} (h:i.bad=false) (ho:i.op=10) (hx:(FM.bG (FM.ax f.ak k).aw (wrap64 ((FM.au f.procs k).r i.b.toNat+i.m)) (wU f k i).size 1).1=0):GG.bI GM.aQ (bb f) k i=((0,(0,0)),bb ⟨f.slots,f.ak.set k { FM.ax f.ak k with aj:=GM.fT (FM.ax f.ak k).aj (wrap64 ((FM.au f.procs k).r i.b.toNat+i.m)) (wU f k i) },f.procs,f.out⟩):=by
 have e:GM.aQ.store (bb f).mem k (wrap64 ((FM.au f.procs k).r i.b.toNat+i.m)) (GG.kR ((FM.au f.procs k).r i.a.toNat) i.c)=((0,0),GM.gB (bb f).mem k { FM.ax f.ak k with aj:=GM.fT (FM.ax f.ak k).aj (wrap64 ((FM.au f.procs k).r i.b.toNat+i.m)) (wU f k i) }):=if_pos hx
 unfold GG.bI
 rw[if_neg (by rw[h];decide),if_neg (by rw[ho];decide),if_pos ho,show(FM.au (bb f).ps k)=FM.au f.procs k from rfl,e]
 rfl
theorem Oq {f:FM.Fl} {k:Nat} {i:PM.ey} (h:i.bad=false) (ho:i.op=16):GG.bI GM.aQ (bb f) k i=(((GG.cw GM.aQ (bb f) k i.m).1,(0,0)),(GG.cw GM.aQ (bb f) k i.m).2):=by
 unfold GG.bI
 rw[if_neg (by rw[h];decide),if_neg (by rw[ho];decide),if_neg (by rw[ho];decide),if_pos ho]
theorem Om {f:FM.Fl} {k:Nat} {i:PM.ey} (h:i.bad=false) (h1:¬i.op=9) (h2:¬i.op=10) (h3:¬i.op=16):GG.bI GM.aQ (bb f) k i=((0,(0,0)),bb f):=by
 unfold GG.bI
 rw[if_neg (by rw[h];decide),if_neg h1,if_neg h2,if_neg h3]
def jo (f:FM.Fl) (k:Nat) (s:FM.Sp):FM.Fl:=⟨f.slots,f.ak.set k s,f.procs,f.out⟩
theorem kj (f:FM.Fl) (k:Nat):GG.cw GM.aQ (bb f) k 2=((GM.mapM (bb f).mem k ((FM.au f.procs k).r 0) ((FM.au f.procs k).r 1) ((FM.au f.procs k).r 2)).1,{ bb f with mem:=(GM.mapM (bb f).mem k ((FM.au f.procs k).r 0) ((FM.au f.procs k).r 1) ((FM.au f.procs k).r 2)).2 }):=rfl
theorem Ec {f:FM.Fl} {k:Nat} {p n q:Int} (hp:(FM.au f.procs k).r 0=p) (hn:(FM.au f.procs k).r 1=n) (hq:(FM.au f.procs k).r 2=q) (h:¬(AW.dF (FM.ax f.ak k).aw p n q).2=0):GG.cw GM.aQ (bb f) k 2=((AW.dF (FM.ax f.ak k).aw p n q).2,bb f):=by
 rw[kj,hp,hn,hq]
 have e:GM.mapM (bb f).mem k p n q=((AW.dF (FM.ax f.ak k).aw p n q).2,(bb f).mem):=if_pos h
 rw[e]
 try rfl
theorem zn {f:FM.Fl} {k:Nat} {p n q:Int} (hp:(FM.au f.procs k).r 0=p) (hn:(FM.au f.procs k).r 1=n) (hq:(FM.au f.procs k).r 2=q) (h:(AW.dF (FM.ax f.ak k).aw p n q).2=0) (hr:f.slots<FM.room f.ak+n):GG.cw GM.aQ (bb f) k 2=(8,bb f):=by
 rw[kj,hp,hn,hq]
 have e:GM.mapM (bb f).mem k p n q=(8,(bb f).mem):=by
  exact(if_neg (fun g=>g h)).trans (if_pos hr)
 rw[e]
 try rfl
theorem xY {f:FM.Fl} {k:Nat} {p n q:Int} (hp:(FM.au f.procs k).r 0=p) (hn:(FM.au f.procs k).r 1=n) (hq:(FM.au f.procs k).r 2=q) (h:(AW.dF (FM.ax f.ak k).aw p n q).2=0) (hr:¬f.slots<FM.room f.ak+n):GG.cw GM.aQ (bb f) k 2=(0,bb (jo f k { FM.ax f.ak k with aw:=(AW.dF (FM.ax f.ak k).aw p n q).1,aj:=GM.iZ (FM.ax f.ak k).aj p n.toNat })):=by
 rw[kj,hp,hn,hq]
 have e:GM.mapM (bb f).mem k p n q=(0,GM.gB (bb f).mem k { FM.ax f.ak k with aw:=(AW.dF (FM.ax f.ak k).aw p n q).1,aj:=GM.iZ (FM.ax f.ak k).aj p n.toNat }):=by
  exact(if_neg (fun g=>g h)).trans (if_neg hr)
 rw[e]
 try rfl
theorem jT (f:FM.Fl) (k:Nat):GG.cw GM.aQ (bb f) k 3=((GM.gU (bb f).mem k ((FM.au f.procs k).r 0) ((FM.au f.procs k).r 1)).1,{ bb f with mem:=(GM.gU (bb f).mem k ((FM.au f.procs k).r 0) ((FM.au f.procs k).r 1)).2 }):=rfl
theorem zm {f:FM.Fl} {k:Nat} {p n:Int} (hp:(FM.au f.procs k).r 0=p) (hn:(FM.au f.procs k).r 1=n) (h:¬(AW.bP (FM.ax f.ak k).aw p n).2=0):GG.cw GM.aQ (bb f) k 3=((AW.bP (FM.ax f.ak k).aw p n).2,bb f):=by
 rw[jT,hp,hn]
 have e:GM.gU (bb f).mem k p n=((AW.bP (FM.ax f.ak k).aw p n).2,(bb f).mem):=if_pos h
 rw[e]
 try rfl
theorem rO {f:FM.Fl} {k:Nat} {p n:Int} (hp:(FM.au f.procs k).r 0=p) (hn:(FM.au f.procs k).r 1=n) (h:(AW.bP (FM.ax f.ak k).aw p n).2=0):GG.cw GM.aQ (bb f) k 3=(0,bb (jo f k { FM.ax f.ak k with aw:=(AW.bP (FM.ax f.ak k).aw p n).1,aj:=GM.iH (FM.ax f.ak k).aj p n })):=by
 rw[jT,hp,hn]
 have e:GM.gU (bb f).mem k p n=(0,GM.gB (bb f).mem k { FM.ax f.ak k with aw:=(AW.bP (FM.ax f.ak k).aw p n).1,aj:=GM.iH (FM.ax f.ak k).aj p n }):=by
  exact if_neg (fun g=>g h)
 rw[e]
 try rfl
theorem iD (f:FM.Fl) (k:Nat):GG.cw GM.aQ (bb f) k 4=((GM.ez (bb f).mem k ((FM.au f.procs k).r 0) ((FM.au f.procs k).r 1) ((FM.au f.procs k).r 2)).1,{ bb f with mem:=(GM.ez (bb f).mem k ((FM.au f.procs k).r 0) ((FM.au f.procs k).r 1) ((FM.au f.procs k).r 2)).2 }):=rfl
theorem vJ {f:FM.Fl} {k:Nat} {p n q:Int} (hp:(FM.au f.procs k).r 0=p) (hn:(FM.au f.procs k).r 1=n) (hq:(FM.au f.procs k).r 2=q) (h:¬(AW.bg (FM.ax f.ak k).aw p n q).2=0):GG.cw GM.aQ (bb f) k 4=((AW.bg (FM.ax f.ak k).aw p n q).2,bb f):=by
 rw[iD,hp,hn,hq]
 have e:GM.ez (bb f).mem k p n q=((AW.bg (FM.ax f.ak k).aw p n q).2,(bb f).mem):=if_pos h
 rw[e]
 try rfl
theorem oa {f:FM.Fl} {k:Nat} {p n q:Int} (hp:(FM.au f.procs k).r 0=p) (hn:(FM.au f.procs k).r 1=n) (hq:(FM.au f.procs k).r 2=q) (h:(AW.bg (FM.ax f.ak k).aw p n q).2=0):GG.cw GM.aQ (bb f) k 4=(0,bb (jo f k { FM.ax f.ak k with aw:=(AW.bg (FM.ax f.ak k).aw p n q).1 })):=by
 rw[iD,hp,hn,hq]
 have e:GM.ez (bb f).mem k p n q=(0,GM.gB (bb f).mem k { FM.ax f.ak k with aw:=(AW.bg (FM.ax f.ak k).aw p n q).1 }):=by
  exact if_neg (fun g=>g h)
 rw[e]
 try rfl
theorem tD {f:FM.Fl} {k:Nat} (h:4<=f.ak.length∨f.slots<FM.room f.ak+AM.br (FM.ax f.ak k).aw):GG.cw GM.aQ (bb f) k 5=(-1,bb f):=by
 have e:∃er,¬er=0/\GM.aQ.fork (bb f).mem k=(er,(bb f).mem):=by
  by_cases c:4<=f.ak.length
  · exact⟨2,by decide,if_pos c⟩
  · have d:f.slots<FM.room f.ak+AM.br (FM.ax f.ak k).aw:=by
     rcases h with h | h
     · exact absurd h c
     · exact h
    refine⟨8,by decide,?_⟩
    exact(if_neg c).trans (if_pos d)
 obtain⟨er,h0,e⟩:=e
 unfold GG.cw
 rw[if_neg (by decide),if_neg (by decide),if_neg (by decide),if_neg (by decide),if_pos rfl,e]
 dsimp only
 rw[if_neg h0]
 try rfl
theorem qi {f:FM.Fl} {k:Nat} (h1:¬4<=f.ak.length) (h2:¬f.slots<FM.room f.ak+AM.br (FM.ax f.ak k).aw):GG.cw GM.aQ (bb f) k 5=((f.procs.length:Int),bb ⟨f.slots,f.ak++[FM.ax f.ak k],f.procs++[FM.au f.procs k],f.out⟩):=by
 have e:GM.aQ.fork (bb f).mem k=(0,{ (bb f).mem with ak:=f.ak++[FM.ax f.ak k] }):=by
  exact(if_neg h1).trans (if_neg h2)
 unfold GG.cw
 rw[if_neg (by decide),if_neg (by decide),if_neg (by decide),if_neg (by decide),if_pos rfl,e]
 dsimp only
 rw[if_pos rfl]
 try rfl
end GR
namespace GO
open Go.RowKit GK
open GF (Lc vV bw bH aH eO blk eQ eP dw bl nu dg)
open GW (aI bM bc cx)
open FW (ai aB)
theorem Mem.turn {lo mb:Nat} {w w2:World} {D D':Nat->Prop} {sl:Int} {vr vo:Value} {v:Value} {L:List Lc} {ss:List FM.Sp} (h:Mem lo mb w D sl vr vo v L ss) {k:Nat} (hk:k<L.length) {l:Lc} {s:FM.Sp}
  (iB:Kp (fun b=>blk v b∨blk (bw L k).vp b) w w2) (hrow:w2.ownsRow lo 53 3 v L.length ((L.set k l).flatMap bH)) (hs:eO lo w2 l s)
  (sV:∀b,blk l.va b->blk (bw L k).va b∨w.heap.size<=b) (hvp:∀b,blk l.vp b->blk (bw L k).vp b∨w.heap.size<=b) (hne:∀b,blk l.vp b->¬blk l.va b) (hd:∀b,D b->D' b) (hd2:∀b,w.heap.size<=b->b<w2.heap.size->D' b) :
  Mem lo mb w2 D' sl vr vo v (L.set k l) (ss.set k s):=by
 have hmb:=B.isLt h.head
 have hlen:=h.len
 have hL:(L.set k l).length=L.length:=List.length_set
 have new:∀b,(blk l.va b->blk (bw L k).va b∨w.heap.size<=b):=sV
 have at_:∀j,bw (L.set k l) j=if j=k then l else bw L j:=fun j=>GF.sQ L k j l hk
 refine⟨by rw[hL,List.length_set];exact hlen,iB.keep h.head (fun e=>by rcases e with e | e;exact h.n1 e;exact(h.n2 k hk).2 e),by rw[hL];exact hrow,fun j hj=>?_,h.base,h.n1,fun j hj=>?_,fun j hj b hb=>?_,fun i j hi hj b hb=>?_,hd _ h.d1,fun b hb=>hd _ (h.d2 b hb),fun j hj b hb=>?_⟩
 · rw[hL] at hj
   rw[at_,GM.m7 _ _ _ _ (by omega)]
   by_cases c:j=k
   · rw[if_pos c,if_pos c];exact hs
   · rw[if_neg c,if_neg c]
     refine(h.each j hj).kp iB (fun b hb e=>?_) (fun b hb e=>?_)
     · rcases e with e | e
       · exact(h.n3 j hj b e).1 hb
       · exact(h.n4 k j hk hj b e).1 hb
     · rcases e with e | e
       · exact(h.n3 j hj b e).2 hb
       · exact(h.n4 k j hk hj b e).2 (fun g=>c g.symm) hb
 · rw[hL] at hj
   rw[at_]
   by_cases c:j=k
   · rw[if_pos c]
     exact⟨fun g=>by rcases sV _ g with e | e;exact(h.n2 k hk).1 e;omega,fun g=>by rcases hvp _ g with e | e;exact(h.n2 k hk).2 e;omega⟩
   · rw[if_neg c];exact h.n2 j hj
 · rw[hL] at hj
   rw[at_]
   by_cases c:j=k
   · rw[if_pos c]
     have:=(h.row.lt b hb).2
     exact⟨fun g=>by rcases sV _ g with e | e;exact(h.n3 k hk b hb).1 e;omega,fun g=>by rcases hvp _ g with e | e;exact(h.n3 k hk b hb).2 e;omega⟩
   · rw[if_neg c];exact h.n3 j hj b hb
 · rw[hL] at hi hj
   rw[at_] at hb ⊢
   by_cases ci:i=k
   · rw[if_pos ci] at hb
     by_cases cj:j=k
     · rw[if_pos cj]
       exact⟨hne b hb,fun g=>(g (by omega)).elim⟩
     · rw[if_neg cj]
       rcases hvp b hb with e | e
       · exact⟨(h.n4 k j hk hj b e).1,fun _=>(h.n4 k j hk hj b e).2 (fun g=>cj g.symm)⟩
       · exact⟨fun g=>by have:=h.lt j hj b (.inl g);omega,fun _ g=>by have:=h.lt j hj b (.inr g);omega⟩
   · rw[if_neg ci] at hb
     have hlt:=h.lt i hi b (.inr hb)
     by_cases cj:j=k
     · rw[if_pos cj]
       refine⟨fun g=>?_,fun _ g=>?_⟩
       · rcases sV b g with e | e
         · exact(h.n4 i k hi hk b hb).1 e
         · omega
       · rcases hvp b g with e | e
         · exact(h.n4 i k hi hk b hb).2 ci e
         · omega
     · rw[if_neg cj];exact h.n4 i j hi hj b hb
 · rw[hL] at hj
   rw[at_] at hb
   by_cases c:j=k
   · rw[if_pos c] at hb
     rcases hb with g | g
     · rcases sV b g with e | e
       · exact hd _ (h.d3 k hk b (.inl e))
       · exact hd2 b e (hs.aw.lt b g).2
     · rcases hvp b g with e | e
       · exact hd _ (h.d3 k hk b (.inr e))
       · exact hd2 b e (hs.aj.lt b g).2
   · rw[if_neg c] at hb
     exact hd _ (h.d3 j hj b hb)
section
variable {lo mb:Nat} {w w2:World} {f:FM.Fl} {v:Value} {L:List Lc} {vr vo:Value}
theorem Fo.new (h:Fo lo mb w f v L vr vo) {b:Nat} (hb:w.heap.size<=b):Ap vr vo b:=⟨fun g=>by have:=(h.procs.lt b g).2;omega,fun g=>by have:=(h.words.lt b g).2;omega⟩
theorem Fo.turn (h:Fo lo mb w f v L vr vo) {k:Nat} (hk:k<L.length) {l:Lc} {s:FM.Sp}
  (iB:Kp (fun b=>blk v b∨blk (bw L k).vp b) w w2) (hrow:w2.ownsRow lo 53 3 v L.length ((L.set k l).flatMap bH)) (hs:eO lo w2 l s)
  (sV:∀b,blk l.va b->blk (bw L k).va b∨w.heap.size<=b) (hvp:∀b,blk l.vp b->blk (bw L k).vp b∨w.heap.size<=b) (hne:∀b,blk l.vp b->¬blk l.va b) :
  Fo lo mb w2 (GR.jo f k s) v (L.set k l) vr vo:=by
 refine⟨h.mem.turn hk iB hrow hs sV hvp hne (fun b g=>g) (fun b g _=>h.new g),iB.row h.procs (fun g hg e=>?_),iB.row h.words (fun g hg e=>?_),h.apart⟩
 · rcases e with e | e
   · exact(h.mem.d2 g e).1 hg
   · exact(h.mem.d3 k hk g (.inr e)).1 hg
 · rcases e with e | e
   · exact(h.mem.d2 g e).2 hg
   · exact(h.mem.d3 k hk g (.inr e)).2 hg
theorem Fo.fit {w0 w1:World} {sb cap:Nat} {va vp:Value} {al:List AM.Ar} {ps:List FM.Pg} (h:Fo lo mb w f (.slice (some (Ad sb 0)) f.ak.length cap) L vr vo) {k:Nat} (hk:k<f.ak.length) (hlo:lo<=w.heap.size)
  (hb0:Below w.heap.size w w0) (ha:AW.Own w.heap.size w0 va al) (hb1:Below w0.heap.size w0 w1) (hp:w1.ownsRow w0.heap.size 65 2 vp ps.length (ps.flatMap aH)) :
  Fo lo mb ((w1.setCell (Ad sb (k*3+1)) va).setCell (Ad sb (k*3+2)) vp) (GR.jo f k { FM.ax f.ak k with aw:=al,aj:=ps }) (.slice (some (Ad sb 0)) f.ak.length cap) (L.set k ⟨(bw L k).lv,va,vp⟩) vr vo/\Kp (fun b=>b=sb) w ((w1.setCell (Ad sb (k*3+1)) va).setCell (Ad sb (k*3+2)) vp):=by
 have kK:k<L.length:=by rw[h.mem.len];exact hk
 have hbs:blk (.slice (some (Ad sb 0)) f.ak.length cap) sb:=rfl
 have jQ:=(h.mem.row.lt sb hbs).2
 have s0:=hb0.size
 have s1:=hb1.size
 have k0:Kp (fun b=>b=sb) w w1:=Kp.aF (hb0.trans (hb1.mono s0))
 have kS:Kp (fun b=>b=sb) w1 ((w1.setCell (Ad sb (k*3+1)) va).setCell (Ad sb (k*3+2)) vp):=(Kp.set (fun b=>b=sb) w1 (Ad sb (k*3+1)) va rfl).trans (Kp.set (fun b=>b=sb) _ (Ad sb (k*3+2)) vp rfl) (fun _ _ g=>g)
 have kk:=k0.trans kS (fun _ _ g=>g)
 refine⟨h.turn kK (kk.mono (fun b _ e=>.inl (e ▸ hbs))) ?_ ⟨(h.mem.each k kK).live,?_,?_⟩ (fun b g=>.inr (ha.lt b g).1) (fun b g=>.inr (by have:=(hp.lt b g).1;omega)) (fun b g1 g2=>?_),kk⟩
 · have hr:=Kp.row (Kp.aF (D:=fun _=>False) (hb0.trans (hb1.mono s0))) h.mem.row (fun _ _ g=>g)
   have hn:L.length=f.ak.length:=h.mem.len
   rw[hn] at hr ⊢
   rw[<- nu L k kK] at hr
   have r1:=bZ hr (k*3+1) va
   rw[<- dg L k kK (bw L k) ⟨(bw L k).lv,va,(bw L k).vp⟩ 1 (by omega) va rfl] at r1
   have r2:=bZ r1 (k*3+2) vp
   rw[<- dg L k kK ⟨(bw L k).lv,va,(bw L k).vp⟩ ⟨(bw L k).lv,va,vp⟩ 2 (by omega) vp rfl] at r2
   exact r2
 · exact kS.row (Kp.row (Kp.aF (D:=fun _=>False) hb1) (AW.Own.mono ha hlo) (fun _ _ g=>g)) (fun g hg e=>by have:=(ha.lt g hg).1;omega)
 · exact kS.row (lF hp (fun g hg=>by have:=(hp.lt g hg).1;omega)) (fun g hg e=>by have:=(hp.lt g hg).1;omega)
 · have:=(hp.lt b g1).1
   have:=(ha.lt b g2).2
   omega
theorem Fo.drop {sb cap:Nat} (h:Fo lo mb w f (.slice (some (Ad sb 0)) f.ak.length cap) L vr vo) {k:Nat} (hk:k<f.ak.length) :
  Fo lo mb (((w.setCell (Ad sb (k*3)) (.bool false)).setCell (Ad sb (k*3+1)) Nl).setCell (Ad sb (k*3+2)) Nl) (GR.jo f k FM.E6) (.slice (some (Ad sb 0)) f.ak.length cap) (L.set k vV) vr vo/\Kp (fun b=>b=sb) w (((w.setCell (Ad sb (k*3)) (.bool false)).setCell (Ad sb (k*3+1)) Nl).setCell (Ad sb (k*3+2)) Nl):=by
 have kK:k<L.length:=by rw[h.mem.len];exact hk
 have hbs:blk (.slice (some (Ad sb 0)) f.ak.length cap) sb:=rfl
 have iB:Kp (fun b=>b=sb) w (((w.setCell (Ad sb (k*3)) (.bool false)).setCell (Ad sb (k*3+1)) Nl).setCell (Ad sb (k*3+2)) Nl):=((Kp.set (fun b=>b=sb) w (Ad sb (k*3)) _ rfl).trans (Kp.set (fun b=>b=sb) _ (Ad sb (k*3+1)) _ rfl) (fun _ _ g=>g)).trans (Kp.set (fun b=>b=sb) _ (Ad sb (k*3+2)) _ rfl) (fun _ _ g=>g)
 refine⟨h.turn kK (l:=vV) (s:=FM.E6) (iB.mono (fun b _ e=>.inl (e ▸ hbs))) ?_ ⟨rfl,AW.Own.nil _ _,World.ownsRow_nil _ _ _ _⟩ (fun b g=>by cases g) (fun b g=>by cases g) (fun b g=>by cases g),iB⟩
 have hn:L.length=f.ak.length:=h.mem.len
 have hr:=h.mem.row
 rw[hn] at hr ⊢
 rw[<- nu L k kK] at hr
 have r0:=bZ hr (k*3+0) (.bool false)
 rw[<- dg L k kK (bw L k) ⟨false,(bw L k).va,(bw L k).vp⟩ 0 (by omega) (.bool false) rfl] at r0
 have r1:=bZ r0 (k*3+1) Nl
 rw[<- dg L k kK ⟨false,(bw L k).va,(bw L k).vp⟩ ⟨false,Nl,(bw L k).vp⟩ 1 (by omega) Nl rfl] at r1
 have r2:=bZ r1 (k*3+2) Nl
 rw[<- dg L k kK ⟨false,Nl,(bw L k).vp⟩ vV 2 (by omega) Nl rfl] at r2
 exact r2
theorem Fo.push {w4:World} {v':Value} {l:Lc} {s:FM.Sp} {O:Obj} (h:Fo lo mb w f v L vr vo) (hlo:lo<=w.heap.size) (hb2:Below w.heap.size w w2)
  (Kg:eO w.heap.size w2 l s) (hne:∀b,blk l.vp b->¬blk l.va b) (hgr:(w2.alloc O).grownBy w4 v.ownBlock) (hown:w4.ownsRow lo 53 3 v' (L.length+1) (L.flatMap bH++bH l))
  (hat:v'.ownBlock=v.ownBlock∨v'.ownBlock=some (w2.alloc O).heap.size) :
  Fo lo mb (w4.setCell (Ad mb 1) v') ⟨f.slots,f.ak++[s],f.procs,f.out⟩ v' (L++[l]) vr vo/\Kp (fun b=>b=mb∨blk v b) w (w4.setCell (Ad mb 1) v'):=by
 obtain⟨h1,h2⟩:=h.mem.push (D':=Ap vr vo) hlo hb2 Kg hne hgr hown hat (fun b g=>g) (fun b g _=>h.new g)
 refine⟨⟨h1,h2.row h.procs (fun g hg e=>?_),h2.row h.words (fun g hg e=>?_),h.apart⟩,h2⟩
 · rcases e with e | e
   · exact h.mem.d1.1 (e ▸ hg)
   · exact(h.mem.d2 g e).1 hg
 · rcases e with e | e
   · exact h.mem.d1.2 (e ▸ hg)
   · exact(h.mem.d2 g e).2 hg
theorem Fo.word {w1 w4:World} {vo':Value} {o:FM.Wd} (h:Fo lo mb w f v L vr vo) (hb:Below w.heap.size w w1) (hgr:w1.grownBy w4 vo.ownBlock) (hown:w4.ownsRow lo 78 2 vo' (f.out.length+1) (f.out.flatMap bM++bM o))
  (hat:vo'.ownBlock=vo.ownBlock∨vo'.ownBlock=some w1.heap.size) :
  Fo lo mb (w4.setCell (Ad mb 3) vo') ⟨f.slots,f.ak,f.procs,f.out++[o]⟩ v L vr vo'/\Kp (fun b=>b=mb∨blk vo b) w (w4.setCell (Ad mb 3) vo'):=by
 have hz:=hb.size
 have hmb:=B.isLt h.mem.head
 have kC:Kp (blk vo) w w4:=(Kp.aF hb).trans (Kp.grown hgr (fun _ e=>e)) (fun _ _ g=>g)
 have kS:Kp (fun b=>b=mb) w4 (w4.setCell (Ad mb 3) vo'):=Kp.set _ _ _ _ rfl
 have hv':∀b,blk vo' b->blk vo b∨b=w1.heap.size:=fun b g=>by
  have g':vo'.ownBlock=some b:=g
  rcases hat with e | e
  · exact .inl (by show vo.ownBlock=some b;rw[<- e];exact g')
  · rw[e] at g';injection g' with g';exact .inr g'.symm
 have hap:∀b,lo<=b->b<w.heap.size->Ap vr vo b->Ap vr vo' b:=fun b _ hlt g=>⟨g.1,fun x=>by rcases hv' b x with y | y;exact g.2 y;omega⟩
 refine⟨⟨?_,?_,?_,?_⟩,(kC.mono (fun b _ g=>.inr g)).trans (kS.mono (fun b _ g=>.inl g)) (fun _ _ g=>g)⟩
 · exact((h.mem.dom (D':=fun b=>Ap vr vo b/\Ap vr vo' b) (fun b h1 h2 h3=>⟨h3,hap b h1 h2 h3⟩)).kp kC (fun b g e=>g.1.2 e)).P6 (j:=3) (u:=vo') (vr':=vr) (vo':=vo') rfl |>.dom (fun b _ _ g=>g.2)
 · exact kS.row (kC.row h.procs (fun g hg e=>h.apart g hg e)) (fun g hg e=>h.mem.d1.1 (e ▸ hg))
 · refine kS.row ?_ (fun g hg e=>?_)
   · rw[List.length_append,List.flatMap_append]
     simpa using hown
   · rcases hv' g hg with y | y
     · exact h.mem.d1.2 (e ▸ y)
     · omega
 · intro b hb hb2
   rcases hv' b hb2 with y | y
   · exact h.apart b hb y
   · have:=(h.procs.lt b hb).2;omega
end
end GO
end Go.Proofs.YtkdigjpejnebkaaGreat
