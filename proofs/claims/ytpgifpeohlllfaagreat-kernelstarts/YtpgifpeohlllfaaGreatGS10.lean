import Derived.Test.YtpgifpeohlllfaaGreatGS00
import Derived.Test.YtpgifpeohlllfaaGreatGS09
import Derived.Deep.AppendLies
import Derived.Deep.RegionLaw
import Derived.Lib.Repeat
import Derived.Test.YtpgifpeohlllfaaGreatGS01
import Derived.Test.YtpgifpeohlllfaaGreatGS02
import Derived.Test.YtpgifpeohlllfaaGreatGS03
import Derived.Test.YtpgifpeohlllfaaGreatChecked
import Derived.Deep.Slices
import Derived.ProofKit
set_option maxHeartbeats 20000000
set_option linter.unusedVariables false
set_option maxRecDepth 100000
set_option linter.unusedSimpArgs false
namespace Go.Proofs.YtpgifpeohlllfaaGreat
namespace LM
open Go.RowKit Go.WideMaps Go.Maps
structure Li where
 i:M.Im
 a:M.At
def li0:Li:=⟨⟨⟨#[]⟩,[],[],[],[],0⟩,⟨none,0,none,0,none,0,none,0⟩⟩
def cD (l:List Li) (k:Nat):Li:=l.getD k li0
def Ep (x:Li):Value:=.agg (M.fD x.a x.i)
def Px (w:World) (b off:Nat) (l:List Li):Prop:=∀k,k<l.length ->
 (w.cell? (Ad b (off+k*6))=some (.string (cD l k).i.name)/\w.cell? (Ad b (off+k*6+1))=some (.slice (cD l k).a.an (cD l k).i.needs.length (cD l k).a.cn) /\
  w.cell? (Ad b (off+k*6+2))=some (.slice (cD l k).a.ag (cD l k).i.dm.length (cD l k).a.cg)/\w.cell? (Ad b (off+k*6+3))=some (.slice (cD l k).a.ay (cD l k).i.syms.length (cD l k).a.cy) /\
  w.cell? (Ad b (off+k*6+4))=some (.slice (cD l k).a.ar (cD l k).i.fN.length (cD l k).a.cr)/\w.cell? (Ad b (off+k*6+5))=some (I (cD l k).i.entry))/\M.nt w (cD l k).a (cD l k).i
theorem abF {w w':World} {b off:Nat} {l:List Li} (hb:Below w.heap.size w w') (hlt:b<w.heap.size) (h:Px w b off l):Px w' b off l:=fun k hk=>by
 obtain⟨⟨c0,c1,c2,c3,c4,c5⟩,hi⟩:=h k hk
 exact⟨⟨(M.bk hb hlt).trans c0,(M.bk hb hlt).trans c1,(M.bk hb hlt).trans c2,(M.bk hb hlt).trans c3,(M.bk hb hlt).trans c4,(M.bk hb hlt).trans c5⟩,hi.below hb⟩
def Ic (w:World) (ao:Option Addr) (l:List Li):Prop:=M.fh Px w ao l
theorem Ic.below {w w':World} {ao:Option Addr} {l:List Li} (h:Ic w ao l) (hb:Below w.heap.size w w'):Ic w' ao l:=M.fh.below (lie:=Px) (fun hb hlt h=>abF hb hlt h) h hb
def aaa (l:List Li):Prop:=M.bf l.length/\∀k,k<l.length->M.Fit (cD l k).i
def lC (l:List Li):Nat->Int
 | 0=>0
 | k+1=>if lC l k=0 then M.j5 (cD l k).i else lC l k
def fU (l:List Li):List ByteArray:=l.map (·.i.name)
def mG (l:List Li):Int:=if lC l l.length=0 then (if M.pQ (fU l) then 0 else 5) else lC l l.length
theorem vU (l:List Li) (k:Nat) (h:lC l k≠0):∀n,k<=n->lC l n=lC l k
 | 0, hn => by obtain rfl:k=0 := by omega
               rfl
 | n+1,hn=>by
  by_cases e:k=n+1
  · subst e;rfl
  · have ih:=vU l k h n (by omega)
    simp only[lC]
    rw[ih,if_neg h]
theorem yU (l:List Li):∀n,lC l n=0->∀k,k<n->M.j5 (cD l k).i=0
 | 0,_,k,hk=>by omega
 | n+1,h,k,hk=>by
  simp only[lC] at h
  by_cases e0:lC l n=0
  · rw[if_pos e0] at h
    by_cases e:k=n
    · subst e;exact h
    · exact yU l n e0 k (by omega)
  · rw[if_neg e0] at h
    exact(e0 h).elim
theorem A3 (l:List Li) (k:Nat) (hk:k<l.length):M.kR (fU l) k=(cD l k).i.name:=by
 unfold M.kR fU cD
 rw[List.getD_eq_getElem?_getD,List.getD_eq_getElem?_getD,List.getElem?_map,List.getElem?_eq_getElem hk]
 rfl
theorem ja (l:List Li):(fU l).length=l.length:=by simp[fU]
def Rv (v:Value):Option (DataW Value×List MemPlace):=some (.held v,[])
def abn:Value:=.agg #[.string ⟨#[]⟩,Nl,Nl,Nl,Nl,I 0]
structure Nm (l:List Li) (k:Nat) (D:DataW Value):Prop where
 has:∀s,Maps.has D (W.zZ s)=((fU l).take k).contains s
 at_:M.js (fU l) k=true->∀j,j<k->D.atKey (W.zZ (cD l j).i.name) (.held abn)=.held (Ep (cD l j))
 le:Maps.size D<=k
 all:Maps.size D=k↔M.js (fU l) k=true
theorem QS (l:List Li):Nm l 0 (.map []):=⟨fun s=>by simp[Maps.has],fun _ j hj=>by omega,by simp[Maps.size],by simp[Maps.size,M.js]⟩
theorem QV (l:List Li) (k j:Nat) (hj:j<k) (hk:k<=l.length):((fU l).take k).contains (cD l j).i.name=true:=by
 have h1:j<((fU l).take k).length:=by rw[List.length_take,ja];omega
 have h2:((fU l).take k)[j]=(cD l j).i.name:=by
  rw[List.getElem_take]
  have h3:j<(fU l).length:=by rw[ja];omega
  have:=A3 l j (by omega)
  unfold M.kR at this
  rw[List.getD_eq_getElem?_getD,List.getElem?_eq_getElem h3] at this
  exact this
 rw[<- h2]
 exact List.contains_iff_mem.2 (List.getElem_mem h1)
theorem QT {l:List Li} {k:Nat} {D:DataW Value} (hk:k<l.length) (hD:IsMap D) (hT:Maps.Tidy D) (h:Nm l k D):Nm l (k+1) (D.put (W.zZ (cD l k).i.name) (.held (Ep (cD l k)))):=by
 have hc:=fun s=>W.rB (fU l) k (by rw[ja];exact hk) s
 have hat:=A3 l k hk
 have hon:M.js (fU l) (k+1)=(M.js (fU l) k&&!((fU l).take k).contains (cD l k).i.name):=by simp only[M.js];rw[hat]
 have hsz:=Maps.size_put (k:=W.zZ (cD l k).i.name) hT (.held (Ep (cD l k)))
 rw[h.has] at hsz
 refine⟨fun s=>?_,fun ho j hj=>?_,?_,?_⟩
 · rw[hc s,hat]
   by_cases e:s=(cD l k).i.name
   · subst e
     rw[Maps.has_put_same hD (by trivial)]
     simp
   · rw[Maps.has_put_other (fun g=>e (W.yA g)),h.has]
     have:(s==(cD l k).i.name)=false:=by simpa using e
     rw[this,Bool.or_false]
 · rw[hon] at ho
   simp only[Bool.and_eq_true,Bool.not_eq_true'] at ho
   by_cases e:j=k
   · subst e
     exact atKey_put_same hD (by trivial) _ _
   · have hin:=QV l k j (by omega) (by omega)
     rw[atKey_put_other (fun g=>by
      have:=W.yA g
      rw[this] at hin
      rw[ho.2] at hin
      cases hin)]
     exact h.at_ ho.1 j (by omega)
 · have:=h.le
   split at hsz <;> omega
 · rw[hon]
   have h1:=h.le
   have h2:=h.all
   cases hcn:((fU l).take k).contains (cD l k).i.name
   · rw[hcn] at hsz
     simp only[Bool.false_eq_true,if_false] at hsz
     rw[hsz]
     simp only[Bool.not_false,Bool.and_true]
     rw[<- h2]
     omega
   · rw[hcn] at hsz
     simp only[if_true] at hsz
     rw[hsz]
     simp only[Bool.not_true,Bool.and_false,Bool.false_eq_true,iff_false]
     omega
end LM
namespace W
open Go.RowKit
end W
namespace LW
open Go.RowKit Go.WideMaps Go.Maps
open W (ai)
def ade (l:List LM.Li) (w:World) (e:Ending) (w':World):Prop:=Below w.heap.size w w' /\
 if LM.mG l=0 then ∃m D,e=.returned (.tuple #[.map (some m),I 0])/\w'.ownsMap Tryz.prog 9 LM.Rv m l.length D/\LM.Nm l l.length D
 else e=.returned (.tuple #[.map none,I (LM.mG l)])
end LW
namespace LW
open Go.RowKit
open W (ai)
end LW
namespace LM
open Go.RowKit
def abM (all:List Li) (s:ByteArray):Option Nat:=all.findIdx? (fun x=>decide (x.i.name=s))
def Zk (ix:List Nat) (j:Nat):List Nat:=if ix.contains j then ix else ix++[j]
def Tv (all:List Li) (ix:List Nat) (needs:List ByteArray):Nat->Option (List Nat)
 | 0=>some ix
 | k+1=>match Tv all ix needs k with
  | none=>none
  | some ix'=>match abM all (M.kR needs k) with
   | none=>none
   | some j=>some (Zk ix' j)
def IQ (all:List Li) (ix:List Nat) (n:Nat):List ByteArray:=(cD all (ix.getD n 0)).i.needs
def W7 (all:List Li):Nat->Nat->List Nat->Option (List Nat)
 | 0,_,ix=>some ix
 | f+1,n,ix=>if n<ix.length then (match Tv all ix (IQ all ix n) (IQ all ix n).length with
  | none=>none
  | some ix'=>W7 all f (n+1) ix') else some ix
structure SC (all:List Li) (ix:List Nat):Prop where
 pos:0<ix.length
 nodup:ix.Nodup
 lt:∀j∈ix,j<all.length
theorem uo:∀(L:Nat) (ix:List Nat),ix.Nodup->(∀j∈ix,j<L)->ix.length<=L
 | 0,ix,_,h=>by
  cases ix with
  | nil=>exact Nat.le_refl _
  | cons x r=>exact absurd (h x List.mem_cons_self) (by omega)
 | L+1,ix,hn,h=>by
  by_cases e:L∈ix
  · have h1:=uo L (ix.erase L) (hn.erase L) (fun j hj=>by
     have h2:=(List.Nodup.mem_erase_iff hn).1 hj
     have:=h j h2.2
     omega)
    rw[List.length_erase_of_mem e] at h1
    omega
  · have:=uo L ix hn (fun j hj=>by
     have h1:=h j hj
     have h2:j≠L:=fun g=>e (g ▸ hj)
     omega)
    omega
theorem SC.le {all:List Li} {ix:List Nat} (h:SC all ix):ix.length<=all.length:=uo _ _ h.nodup h.lt
def cM (all:List Li):Int->List Nat->List Ob
 | _,[]=>[]
 | b,j::r=>⟨(cD all j).i,(cD all j).a,b⟩::cM all (Ae ⟨(cD all j).i,(cD all j).a,b⟩) r
def fP (all:List Li):Int->List Nat->Int
 | b,[]=>b
 | b,j::r=>fP all (Ae ⟨(cD all j).i,(cD all j).a,b⟩) r
theorem eQ (all:List Li):∀(ix:List Nat) (b:Int),(cM all b ix).length=ix.length
 | [],_=>rfl
 | j::r,b=>by simp only[cM,List.length_cons,eQ all r]
theorem tj (all:List Li) (j:Nat):∀(ix:List Nat) (b:Int),cM all b (ix++[j])=cM all b ix++[⟨(cD all j).i,(cD all j).a,fP all b ix⟩]
 | [],b=>rfl
 | k::r,b=>by simp only[List.cons_append,cM,fP,tj all j r]
theorem tN (all:List Li) (j:Nat):∀(ix:List Nat) (b:Int),fP all b (ix++[j])=Ae ⟨(cD all j).i,(cD all j).a,fP all b ix⟩
 | [],b=>rfl
 | k::r,b=>by simp only[List.cons_append,fP,tN all j r]
theorem ml (all:List Li):∀(ix:List Nat) (b:Int) (k:Nat),k<ix.length->(ek (cM all b ix) k).i=(cD all (ix.getD k 0)).i/\(ek (cM all b ix) k).a=(cD all (ix.getD k 0)).a/\(ek (cM all b ix) k).base=fP all b (ix.take k)
 | [],_,k,hk=>by simp at hk
 | j::r,b,0,_=>⟨rfl,rfl,rfl⟩
 | j::r,b,k+1,hk=>by
  have:=ml all r (Ae ⟨(cD all j).i,(cD all j).a,b⟩) k (by simpa using hk)
  simpa [ek,cM,fP] using this
theorem Cs (all:List Li) (ix:List Nat) (b:Int) (h:0<ix.length):Ae (ek (cM all b ix) (ix.length-1))=fP all b ix:=by
 obtain⟨r,j,rfl⟩:∃r j,ix=r++[j]:=⟨ix.dropLast,ix.getLast (by intro e;subst e;simp at h),(List.dropLast_concat_getLast _).symm⟩
 rw[tj,tN]
 have e:(r++[j]).length-1=(cM all b r).length:=by rw[eQ];simp
 rw[e]
 unfold ek
 rw[List.getD_eq_getElem?_getD,List.getElem?_append_right (Nat.le_refl _)]
 simp
theorem dX (ix:List Nat) (k:Nat) (h:k<ix.length):ix.getD k 0∈ix:=by
 rw[List.getD_eq_getElem?_getD,List.getElem?_eq_getElem h]
 exact List.getElem_mem h
theorem pZ (all:List Li) (hc:∀j,j<all.length->M.j5 (cD all j).i=0):∀(ix:List Nat) (b:Int),(∀j∈ix,j<all.length)->b<=fP all b ix/\fP all b ix<=b+255*(ix.length:Int)
 | [],b,_=>by simp[fP]
 | j::r,b,h=>by
  have hl:=vo (hc j (h j List.mem_cons_self))
  have ih:=pZ all hc r (Ae ⟨(cD all j).i,(cD all j).a,b⟩) (fun k hk=>h k (List.mem_cons_of_mem _ hk))
  simp only[fP]
  have e:Ae ⟨(cD all j).i,(cD all j).a,b⟩=b+(mS (cD all j).i).page+(mS (cD all j).i).aH:=rfl
  rw[e] at ih ⊢
  simp only[List.length_cons]
  omega
end LM
namespace LW
open Go.RowKit Go.WideMaps Go.Maps
open W (ai)
theorem flat_get {α:Type} (f:α->List Value) (c:Nat) (hc:∀x,(f x).length=c) (d:α):∀(l:List α) (i j:Nat),i<l.length->j<c->(l.flatMap f)[i*c+j]?=(f (l.getD i d))[j]?
 | a::r,0,j,_,hj=>by
  rw[List.flatMap_cons,Nat.zero_mul,Nat.zero_add,List.getElem?_append_left (by rw[hc];exact hj)]
  rfl
 | a::r,i+1,j,hi,hj=>by
  rw[List.flatMap_cons,List.getElem?_append_right (by rw[hc,Nat.succ_mul];omega),hc,show(i+1)*c+j-c=i*c+j by rw[Nat.succ_mul];omega]
  exact flat_get f c hc d r i j (by simpa using hi) hj
def Sz (all:List LM.Li) (R:Option (List Nat)) (w:World) (e:Ending) (w':World):Prop:=Below w.heap.size w w'/\match R with
 | none=>e=.returned (.tuple #[Nl,.bool false])
 | some ix=>LM.SC all ix/\∃ao cap,e=.returned (.tuple #[.slice ao ix.length cap,.bool true])/\LM.PB w' ao (LM.cM all 1 ix)
structure Gi (all:List LM.Li) (m:Nat) (D:DataW Value) (w:World):Prop where
 pos:0<all.length
 few:all.length<=7
 Zg:∀j,j<all.length->M.j5 (LM.cD all j).i=0
 fit:∀j,j<all.length->M.Fit (LM.cD all j).i
 once:M.pQ (LM.fU all)=true
 im:∀j,j<all.length->M.nt w (LM.cD all j).a (LM.cD all j).i
 map:w.ownsMap Tryz.prog 9 LM.Rv m all.length D
 nm:LM.Nm all all.length D
theorem uk {w w':World} {base:Nat} {e:TypeId} {size:Nat} {v:Value} {n:Nat} {xs:List Value} (h:w.ownsRow base e size v n xs) (hb:Below w.heap.size w w'):w'.ownsRow base e size v n xs:=by
 refine⟨h.1,?_⟩
 rcases h.2 with h2 | ⟨g,cap,cur,hv,hbg,hg,rest⟩
 · exact .inl h2
 · exact .inr ⟨g,cap,cur,hv,hbg,(hb.block g (B.isLt hg)).trans hg,rest⟩
end LW
namespace LM
open Go.RowKit
def lK:ByteArray:=⟨(Lib.repeatL [0] 16).toArray⟩
theorem sL:lK.size=16:=rfl
def s7 (s:M.Sg) (n:Nat):ByteArray:=CL.over lK 0 (s.data.extract (min (n*16) s.data.size) (min (min (n*16) s.data.size+16) s.data.size))
theorem extract_size (s:ByteArray) (a b:Nat) (h1:a<=b) (h2:b<=s.size):(s.extract a b).size=b-a:=by
 rw[ByteArray.size_extract]
 omega
structure Pt where
 pos:Int
 bytes:ByteArray
def pt0:Pt:=⟨0,⟨#[]⟩⟩
def zV (l:List Pt) (k:Nat):Pt:=l.getD k pt0
def Pw (w:World) (b off:Nat) (l:List Pt):Prop:=∀i,i<l.length->w.cell? (Ad b (off+i*2))=some (I (zV l i).pos)/\w.cell? (Ad b (off+i*2+1))=some (.string (zV l i).bytes)
theorem abC {w w':World} {b off:Nat} {l:List Pt} (hb:Below w.heap.size w w') (hlt:b<w.heap.size) (h:Pw w b off l):Pw w' b off l:=fun i hi=>by
 obtain⟨c0,c1⟩:=h i hi
 exact⟨(M.bk hb hlt).trans c0,(M.bk hb hlt).trans c1⟩
def PA (w:World) (ao:Option Addr) (l:List Pt):Prop:=M.fh Pw w ao l
theorem PA.below {w w':World} {ao:Option Addr} {l:List Pt} (h:PA w ao l) (hb:Below w.heap.size w w'):PA w' ao l:=M.fh.below (lie:=Pw) (fun hb hlt h=>abC hb hlt h) h hb
def Jn (p:Pt):List Value:=[I p.pos,.string p.bytes]
def Bt (f:Fx):List Value:=[I f.off,.string f.bytes]
def WE (p:Pt):Prop:=0<=p.pos/\p.pos<=1000000/\p.bytes.size=8
def Hu (page:Int) (p:Pt):List Fx:=if max (page*16) p.pos<min (page*16+16) (p.pos+8) then [⟨max (page*16) p.pos-page*16,p.bytes.extract (max (page*16) p.pos-p.pos).toNat (max (page*16) p.pos-p.pos+(min (page*16+16) (p.pos+8)-max (page*16) p.pos)).toNat⟩] else []
def gZ (page:Int) (ps:List Pt):List Fx:=ps.flatMap (Hu page)
theorem JO {α:Type} (l:List α) (d:α) (k:Nat) (h:k<l.length):l.take (k+1)=l.take k++[l.getD k d]:=by
 rw[List.take_succ_eq_append_getElem h,List.getD_eq_getElem?_getD,List.getElem?_eq_getElem h]
 rfl
theorem RQ (page:Int) (p:Pt):(Hu page p).length<=1:=by
 unfold Hu
 split <;> simp
theorem Bj (page:Int):∀ps:List Pt,(gZ page ps).length<=ps.length
 | []=>by simp[gZ]
 | p::r=>by
  have h1:=Bj page r
  have h2:=RQ page p
  unfold gZ at h1 ⊢
  rw[List.flatMap_cons,List.length_append,List.length_cons]
  omega
theorem EK (page:Int) (l:List Pt) (p:Pt):gZ page (l++[p])=gZ page l++Hu page p:=by
 unfold gZ
 rw[List.flatMap_append]
 simp
end LM
namespace AW
open Go.RowKit
theorem BW (l:List AM.Ar) (v:Value) (page aH q:Int) (P:Nat) (w:World) (h:Has w v l) (hf:ed l) (hp:-9223372036854775808<=page/\page<=9223372036854775807) (hn:-9223372036854775808<=aH/\aH<=9223372036854775807) (hP:w.cell? (Ad P 0)=some (I q)) :
  Calls Tryz.prog 121 #[v,I page,I aH,I q,.func (.func 122) #[] #[.pointer (some (Ad P 0))]] w fun e w'=>∃r,e=.returned (.tuple #[r,I (AM.jK l page aH q (dD q)).2])/\Own w.heap.size w' r (AM.jK l page aH q (dD q)).1/\Below w.heap.size w w':=by
 by_cases hc:AM.aR l=0
 · by_cases wK:AM.dQ page aH=true
   · by_cases hqq:AM.iO q=true
     · have HT:Hid (AM.jK l page aH q (dD q)=if AM.ik (AM.cK l) (dD q) page.toNat aH.toNat=0 then (AM.eJ (AM.turned (AM.cK l) (dD q) page (page+aH)),0) else ([],AM.ik (AM.cK l) (dD q) page.toNat aH.toNat)):=by
        show _=_;simp[AM.jK,hc,wK,hqq]
       have hpb:=(AM.jr page aH).1 wK
       obtain⟨Z,hZ⟩:=ex (AM.cO (fun _=>AM.off))
       have hz:=Ul
       rw[<- hZ] at hz
       have Dk:Z.size=768:=by rw[hZ];exact AM.eV _
       clear hZ
       go_enter Tryz.func121,Tryz.ntmps121
       go_wp2_with fail
       refine(fK l v _ h hf).mono ?_
       rintro e w1 ⟨rfl,hb1⟩
       rw[hc]
       have HC:Hid (AM.aR l=0):=hc
       clear hc
       go_wp2_with fail
       refine(eO _ _ _ hp hn).mono ?_
       rintro e w' ⟨rfl,rfl⟩
       go_wp2_with fail
       refine(gU _ _).mono ?_
       rintro e w' ⟨rfl,rfl⟩
       go_wp2_with fail
       refine(Gf l v _ (h.below hb1) HC.o).mono ?_
       rintro e w2 ⟨rfl,hb2⟩
       have ck:Hid (Below w.heap.size w w2):=hb1.trans (hb2.mono hb1.size)
       obtain⟨F,hF⟩:=ex (AM.cK l)
       rw[<- hF] at HT ⊢
       obtain⟨C,hC⟩:=ex (AM.cO F)
       have OQ:C.size=768:=by rw[hC];exact AM.eV _
       have Xn:Hid (C=AM.cO F):=hC
       rw[<- hC]
       clear hb1 hb2 hF hC wK hqq
       have q9:Hid ((w2.alloc (.cells Z 215)).heap[w2.heap.size]?=some (.cells Z 215 (0,0))):=B.new w2 Z 215
       go_wp2_with (refine wpList_store_row rfl 215 _ _ rfl w2.heap.size C rfl rfl 215 Z q9.out (by rw[OQ];exact oo) (by rw[Dk,OQ]) (by rw[Xn.o];exact AM.r9 _) ?_)
       have HA0:Hid (((w2.alloc (.cells Z 215)).setRow w2.heap.size C).heap[w2.heap.size]?=some (.cells C 215 (0,0))):=setRow_heap _ _ _ _ 215 (0,0) q9.out
       have cZ:Hid (Below w.heap.size w ((w2.alloc (.cells Z 215)).setRow w2.heap.size C)):=below_setRow (ck.o.alloc ck.o.size _) ck.o.size _
       have Es:=ck.o.size
       go_loopw [14] (fun t wr=>∃n:Nat,page<=(n:Int)/\(n:Int)<=page+aH/\t=I n/\(∀k:Nat,page.toNat<=k->k<n->((dD q) (F k)).2=0)/\wr.heap[w2.heap.size]?=some (.cells (AM.cO (AM.turned F (dD q) page n)) 215 (0,0))/\Below w.heap.size w wr) (fun t _=>(page+aH-intOf t).toNat)
       case atStart =>
        refine⟨page.toNat,by omega,by omega,by rw[Int.toNat_of_nonneg (by omega)],fun k h1 h2=>by omega,?_,cZ.o⟩
        rw[Int.toNat_of_nonneg (by omega),AM.BV,<- Xn.o]
        exact HA0.o
       case round =>
        obtain⟨n,Oe,WM,rfl,hno,hA,hb⟩:=hrel
        have HN:Hid (∀k:Nat,page.toNat<=k->k<n->((dD q) (F k)).2=0):=hno
        have HA:Hid (wr.heap[w2.heap.size]?=some (.cells (AM.cO (AM.turned F (dD q) page n)) 215 (0,0))):=hA
        have HB:Hid (Below w.heap.size w wr):=hb
        have hAl:w2.heap.size<wr.heap.size:=B.isLt hA
        have hPw:wr.cell? (Ad P 0)=some (I q):=(hb.cell (p:=(Ad P 0)) (World.block_lt_of_cell? w _ hP)).trans hP
        by_cases hin:(n:Int)<page+aH
        · have z0:=B.cell hA (n*3) (AM.ni _ n (by omega))
          have z1:=B.cell hA (n*3+1) (AM.ng _ n (by omega))
          have z2:=B.cell hA (n*3+2) (AM.m9 _ n (by omega))
          rw[AM.JI] at z0 z1 z2
          have TC:(n:Int)<256:=by omega
          clear hno hA hb
          obtain⟨s,hs⟩:=ex (F n)
          rw[<- hs] at z0 z1 z2
          have HS:Hid (s=F n):=hs
          clear hs
          go_wp2_with fail
          refine(NA s q P _ hPw).mono ?_
          rintro e w3 ⟨rfl,hb3⟩
          have bA:=B.below HA.o hb3 hAl
          have y0:=B.cell bA (n*3) (AM.ni _ n (by omega))
          have y1:=B.cell bA (n*3+1) (AM.ng _ n (by omega))
          have y2:=B.cell bA (n*3+2) (AM.m9 _ n (by omega))
          have yf:=B.free bA
          have pF:Hid (w3.heap[w2.heap.size]?=some (.cells (AM.cO (AM.turned F (dD q) page n)) 215 (0,0))):=bA
          have Uf:Hid (Below w.heap.size w w3):=HB.o.trans (hb3.mono HB.o.size)
          have abU:w2.heap.size<w3.heap.size:=B.isLt bA
          clear bA hb3 z0 z1 z2
          obtain⟨r,hr⟩:=ex ((dD q) s)
          rw[<- hr]
          have HR:Hid (r=(dD q) s):=hr
          clear hr
          unfold TY
          by_cases he:r.2=0
          · have he':(r.2 != 0)=false:=by simp[he]
            have HE:Hid (r.2=0):=he
            clear he
            go_wp2
            go_roundw
            case rel =>
             have gY:=B.set (B.set (B.set pF.o (n*3) (.bool r.1.m)) (n*3+1) (I r.1.p)) (n*3+2) (.bool r.1.z)
             have est:=AM.Dw F (dD q) page n Oe
             rw[<- HS.o,<- HR.o] at est
             rw[AM.zi (AM.turned F (dD q) page n) n r.1 (by omega),est] at gY
             refine⟨n+1,by omega,by omega,by go_num,fun k h1 h2=>if e:k=n then by rw[e,<- HS.o,<- HR.o];exact HE.o else HN.o k h1 (by omega),?_,?_⟩
             · rw[show((n+1:Nat):Int)=(n:Int)+1 from by omega]
               exact B.alloc gY _
             · have hb4:=((Uf.o.setCell (p:=(Ad w2.heap.size (n*3))) Es (.bool r.1.m)).setCell (p:=(Ad w2.heap.size (n*3+1))) Es (I r.1.p)).setCell (p:=(Ad w2.heap.size (n*3+2))) Es (.bool r.1.z)
               exact hb4.alloc hb4.size _
            case measure=>simp[intOf];omega
          · have he':(r.2 != 0)=true:=by simpa using he
            have HE:Hid (r.2≠0):=he
            clear he
            have ht:Hid (AM.jK l page aH q (dD q)=([],r.2)):=by
             have Vc:AM.ik F (dD q) page.toNat aH.toNat=r.2:=by
              rw[HR.o,HS.o]
              exact AM.yV F (dD q) _ _ n (by omega) (by omega) HN.o (by rw[<- HS.o,<- HR.o];exact HE.o)
             show _=_
             rw[HT.o,Vc,if_neg HE.o]
            go_wp2
            go_ret2
            exact⟨Nl,by rw[ht.out];rfl,by rw[ht.out];exact Own.nil _ _,Uf.o.alloc Uf.o.size _⟩
        · have hend:Hid ((n:Int)=page+aH):=by show _=_;omega
          have ht:Hid (AM.jK l page aH q (dD q)=(AM.eJ (AM.turned F (dD q) page n),0)):=by
           have Vc:AM.ik F (dD q) page.toNat aH.toNat=0:=AM.tM F (dD q) _ _ (fun k h1 h2=>HN.o k h1 (by have:=hend.out;omega))
           show _=_
           rw[HT.o,Vc,if_pos rfl,hend.out]
          clear hno hA hb
          go_wp2_with (refine wpList_load_row rfl 215 _ rfl w2.heap.size rfl 215 _ (0,0) _ HA.o Tryz.underlying215 rfl (by rw[AM.eV];exact oo) ?_)
          refine(Hg _ _).mono ?_
          rintro e w4 ⟨r,rfl,hr,hb4⟩
          go_wp2
          go_ret2
          exact⟨r,by rw[ht.out];rfl,by rw[ht.out];exact hr.mono HB.o.size,HB.o.trans (hb4.mono HB.o.size)⟩
     · have ab5:AM.iO q=false:=by simpa using hqq
       have HT:Hid (AM.jK l page aH q (dD q)=([],3)):=by show _=_;simp[AM.jK,hc,wK,ab5]
       clear hqq
       go_enter Tryz.func121,Tryz.ntmps121
       go_wp2_with fail
       refine(fK l v _ h hf).mono ?_
       rintro e w1 ⟨rfl,hb1⟩
       rw[hc]
       clear hc
       go_wp2_with fail
       refine(eO _ _ _ hp hn).mono ?_
       rintro e w' ⟨rfl,rfl⟩
       go_wp2_with fail
       refine(gU _ _).mono ?_
       rintro e w' ⟨rfl,rfl⟩
       go_wp2
       go_ret2
       exact⟨Nl,by rw[HT.o];rfl,by rw[HT.o];exact Own.nil _ _,hb1⟩
   · have ab8:AM.dQ page aH=false:=by simpa using wK
     have HT:Hid (AM.jK l page aH q (dD q)=([],3)):=by show _=_;simp[AM.jK,hc,ab8]
     clear wK
     go_enter Tryz.func121,Tryz.ntmps121
     go_wp2_with fail
     refine(fK l v _ h hf).mono ?_
     rintro e w1 ⟨rfl,hb1⟩
     rw[hc]
     clear hc
     go_wp2_with fail
     refine(eO _ _ _ hp hn).mono ?_
     rintro e w' ⟨rfl,rfl⟩
     go_wp2
     go_ret2
     exact⟨Nl,by rw[HT.o];rfl,by rw[HT.o];exact Own.nil _ _,hb1⟩
 · have HT:Hid (AM.jK l page aH q (dD q)=([],AM.aR l)):=by show _=_;simp[AM.jK,hc]
   have hc':(AM.aR l != 0)=true:=by simpa using hc
   go_enter Tryz.func121,Tryz.ntmps121
   go_wp2_with fail
   refine(fK l v _ h hf).mono ?_
   rintro e w1 ⟨rfl,hb1⟩
   go_wp2
   go_ret2
   exact⟨Nl,by rw[HT.o];rfl,by rw[HT.o];exact Own.nil _ _,hb1⟩
def oF (l:List AM.Ar) (page aH q:Int):List AM.Ar×Int:=AM.jK l page aH q (dD q)
def gj (n:Int):Prop:=-9223372036854775808<=n/\n<=9223372036854775807
theorem QX (l:List AM.Ar) (v:Value) (page aH q:Int) (w:World) (h:Has w v l) (hf:ed l) (hp:gj page) (hn:gj aH) :
  Calls Tryz.prog 74 #[v,I page,I aH,I q] w fun e w'=>∃r,e=.returned (.tuple #[r,I (oF l page aH q).2])/\Own w.heap.size w' r (oF l page aH q).1/\Below w.heap.size w w':=by
 have hb0:Below w.heap.size w (w.alloc (.cells #[I q] 3)):=(Below.refl _ _).alloc (Nat.le_refl _) _
 have hP:=B.cell (B.new w #[I q] 3) 0 rfl
 have H:=h.below hb0
 have HP:Hid ((w.alloc (.cells #[I q] 3)).cell? (Ad w.heap.size 0)=some (I q)):=hP
 clear hP
 go_enter Tryz.func74,Tryz.ntmps74
 go_wp2_with fail
 refine(BW l v page aH q w.heap.size _ H hf hp hn HP.o).mono ?_
 rintro e w1 ⟨r,rfl,hr,hb1⟩
 go_wp2
 go_ret2
 exact⟨r,rfl,hr.mono hb0.size,hb0.trans (hb1.mono hb0.size)⟩
theorem RG {l:List AM.Ar} (h:∀a∈l,AM.Fits a) (hn:l.length<=140737488351232):ed l:=by
 refine⟨fun i hi=>?_,hn⟩
 have e:AM.at_ l i=l[i]:=by simp[AM.at_,hi]
 rw[e]
 exact h _ (List.getElem_mem hi)
theorem Jj:ed []:=RG (fun a h=>by simp at h) (by simp)
theorem MC (l:List AM.Ar) (page aH q:Int) (how:AM.St->AM.St×Int) (h:(AM.jK l page aH q how).2≠0):(AM.jK l page aH q how).1=[]:=by
 unfold AM.jK at h ⊢
 split
 · rename_i hc
   rw[if_pos hc] at h
   split
   · rename_i hp
     rw[if_pos hp] at h
     split
     · rename_i he
       rw[if_pos he] at h
       exact absurd rfl h
     · rfl
   · rfl
 · rfl
theorem Qx (l:List AM.Ar) (page aH q:Int) (how:AM.St->AM.St×Int) (h:(AM.jK l page aH q how).2=0) :
  AM.aR l=0/\AM.dQ page aH=true/\AM.iO q=true/\AM.ik (AM.cK l) how page.toNat aH.toNat=0/\(AM.jK l page aH q how).1=AM.eJ (AM.turned (AM.cK l) how page (page+aH)):=by
 unfold AM.jK at h ⊢
 split
 · rename_i hc
   rw[if_pos hc] at h
   split
   · rename_i hp
     rw[if_pos hp] at h
     rw[Bool.and_eq_true] at hp
     split
     · rename_i he
       exact⟨hc,hp.1,hp.2,he,rfl⟩
     · rename_i he
       rw[if_neg he] at h
       exact absurd h he
   · rename_i hp
     rw[if_neg hp] at h
     simp at h
 · rename_i hc
   rw[if_neg hc] at h
   exact absurd h hc
theorem OX (l:List AM.Ar) (page t q:Int) (hc:AM.aR l=0) (hp:1<=page) (hq:0<=q/\q<=3):AM.tT (AM.turned (AM.cK l) (dD q) page t) :=
 AM.EL _ (AM.vN l hc) _ _ _ hp (fun s _ h=>by
  unfold dD at h ⊢
  cases hm:s.m
  · simp[hm] at h
  · simp[hm] at h) (fun s h=>by
  unfold dD
  cases hm:s.m
  · simpa [hm] using hq
  · simpa [hm] using h)
theorem D5 (q:Int):AM.iO q=true↔0<=q/\q<=3:=⟨fun h=>of_decide_eq_true h,fun h=>decide_eq_true h⟩
theorem Kf (l:List AM.Ar) (page aH q:Int) (h:(oF l page aH q).2=0) :
  AM.aR (oF l page aH q).1=0/\(∀p:Nat,1<=p->p<=255 ->
   (page<=(p:Int)/\(p:Int)<page+aH->(AM.aT l p).2=false/\(AM.aT (oF l page aH q).1 p).2=true/\(AM.aT (oF l page aH q).1 p).1.bO=q/\(AM.aT (oF l page aH q).1 p).1.zero=true) /\
   (¬(page<=(p:Int)/\(p:Int)<page+aH)->(AM.aT (oF l page aH q).1 p).2=(AM.aT l p).2/\(AM.aT (oF l page aH q).1 p).1.bO=(AM.aT l p).1.bO/\(AM.aT (oF l page aH q).1 p).1.zero=(AM.aT l p).1.zero)):=by
 obtain⟨hc,wK,hq,he,hr⟩:=Qx _ _ _ _ _ h
 have hpb:=(AM.jr page aH).1 wK
 have hF:=OX l page (page+aH) q hc hpb.1 ((D5 q).1 hq)
 have hr':(oF l page aH q).1=_:=hr
 rw[hr']
 refine⟨AM.oM _ hF,fun p h1 h2=>?_⟩
 have fg:=AM.EP _ hF p (by omega)
 have fs:=AM.EO l hc p
 refine⟨fun hin=>?_,fun hout=>?_⟩
 · have he':=AM.EU _ _ _ _ he p (by omega) (by omega)
   have hm:(AM.cK l p).m=false:=by
    unfold dD at he'
    cases hm:(AM.cK l p).m
    · rfl
    · simp[hm] at he'
   simp only[AM.turned] at fg
   rw[if_pos hin] at fg
   unfold dD at fg
   simp only[hm] at fg
   exact⟨fs.1.trans hm,fg.1,fg.2.1,fg.2.2⟩
 · simp only[AM.turned] at fg
   rw[if_neg hout] at fg
   exact⟨fg.1.trans fs.1.symm,fg.2.1.trans fs.2.1.symm,fg.2.2.trans fs.2.2.symm⟩
theorem RD (l:List AM.Ar) (page aH q:Int):ed (oF l page aH q).1:=by
 by_cases h:(oF l page aH q).2=0
 · exact AM.fX _ (Kf l page aH q h).1
 · rw[show(oF l page aH q).1=[] from MC _ _ _ _ _ h];exact Jj
end AW
namespace AW
open Go.RowKit Go.Deep
theorem Sk:Tryz.prog.cellsOf 47=4:=by kernel_rfl
theorem cells3:Tryz.prog.cellsOf 3=1:=by kernel_rfl
theorem zk:Tryz.prog.cellsOf 4=1:=by kernel_rfl
theorem ku (n:Int) (h:(Lit.int .i64 n).wf=true):gj n:=by
 simp only[Lit.wf,IntKind.min,IntKind.max,IntKind.signed,IntKind.bits,Bool.and_eq_true,decide_eq_true_eq,if_true] at h
 unfold gj
 omega
section
variable {H:Type} {enc:TypeId×Value->H} {w:World} {base:Nat} {spare:Nat->Bool} {held:Bool}
theorem Nk {n:Nat} {a:Addr} {cs:List Value} {x:DataW H×List MemPlace} (hc:w.cells? base a 4=some cs) (h:DataW.trod enc Tryz.prog w base spare held n 47 cs=some x) :
  ∃q:Int×Int×Int×Bool,w.cell? (a.add 0)=some (I q.1)/\w.cell? (a.add 1)=some (I q.2.1)/\w.cell? (a.add 2)=some (I q.2.2.1)/\w.cell? (a.add 3)=some (.bool q.2.2.2)/\gj q.1/\gj q.2.1/\gj q.2.2.1:=by
 obtain⟨_,hlen,hcell⟩:=World.cells?_some hc
 obtain⟨xs,k,hk,hxy,_,hxl,hf⟩:=DataW.trod_struct Tryz.underlying47 h
 match cs,hlen with
 | [v0,v1,v2,v3],_ =>
  have g0:DataW.trod enc Tryz.prog w base spare held k 3 (([v0,v1,v2,v3].drop 0).take (Tryz.prog.cellsOf 3))=xs[0]?:=hf 0 _ rfl
  have g1:DataW.trod enc Tryz.prog w base spare held k 3 (([v0,v1,v2,v3].drop 1).take (Tryz.prog.cellsOf 3))=xs[1]?:=hf 1 _ rfl
  have g2:DataW.trod enc Tryz.prog w base spare held k 3 (([v0,v1,v2,v3].drop 2).take (Tryz.prog.cellsOf 3))=xs[2]?:=hf 2 _ rfl
  have g3:DataW.trod enc Tryz.prog w base spare held k 4 (([v0,v1,v2,v3].drop 3).take (Tryz.prog.cellsOf 4))=xs[3]?:=hf 3 _ rfl
  simp only[cells3,zk] at g0 g1 g2 g3
  have e0:=hcell 0 (by omega)
  have e1:=hcell 1 (by omega)
  have e2:=hcell 2 (by omega)
  have e3:=hcell 3 (by omega)
  match xs,hxl with
  | [y0,y1,y2,y3],_ =>
   obtain⟨m0,c0,_,w0⟩:=DataW.trod_int Tryz.underlying3 (show DataW.trod enc Tryz.prog w base spare held k 3 [v0]=some y0 from g0)
   obtain⟨m1,c1,_,w1⟩:=DataW.trod_int Tryz.underlying3 (show DataW.trod enc Tryz.prog w base spare held k 3 [v1]=some y1 from g1)
   obtain⟨m2,c2,_,w2⟩:=DataW.trod_int Tryz.underlying3 (show DataW.trod enc Tryz.prog w base spare held k 3 [v2]=some y2 from g2)
   obtain⟨b3,c3,_⟩:=DataW.trod_bool Tryz.underlying4 (show DataW.trod enc Tryz.prog w base spare held k 4 [v3]=some y3 from g3)
   simp only[List.cons.injEq,and_true] at c0 c1 c2 c3
   subst c0;subst c1;subst c2;subst c3
   exact⟨(m0,m1,m2,b3),e0,e1,e2,e3,ku _ w0,ku _ w1,ku _ w2⟩
theorem yl {fuel:Nat} {a0:Option Addr} {len cap:Nat} {x:DataW H×List MemPlace} (h:DataW.trod enc Tryz.prog w base spare held fuel 28 [.slice a0 len cap]=some x) :
  ∃l:List AM.Ar,l.length=len/\Has w (.slice a0 len cap) l/\(∀i,i<l.length->AM.Fits (AM.at_ l i))/\(len=0∨∃el sp,x.1=.slice el sp/\el.length=len):=by
 rcases open_slice Tryz.underlying28 h with⟨hcs,_⟩ | ⟨a,len',cap',m,n,D,Pl,hcs,hb,hl,hm,hmm,rfl,hx⟩
 · simp at hcs
   obtain⟨rfl,rfl,rfl⟩:=hcs
   exact⟨[],rfl,⟨none,0,rfl,.inl rfl⟩,fun i hi=>by simp at hi,.inl rfl⟩
 · simp at hcs
   obtain⟨rfl,rfl,rfl⟩:=hcs
   have hlm:len<=m:=by rw[hmm];split <;> omega
   have each:∀i,i<len->∃q:Int×Int×Int×Bool,w.cell? (a.add (i*4))=some (I q.1)/\w.cell? (a.add (i*4+1))=some (I q.2.1)/\w.cell? (a.add (i*4+2))=some (I q.2.2.1)/\w.cell? (a.add (i*4+3))=some (.bool q.2.2.2)/\gj q.1/\gj q.2.1/\gj q.2.2.1:=by
    intro i hi
    obtain⟨cs',h1,h2⟩:=hx i (by omega)
    rw[Sk] at h1
    obtain⟨q,e0,e1,e2,e3,f⟩:=Nk h1 h2
    rw[add_add] at e0 e1 e2 e3
    exact⟨q,e0,e1,e2,e3,f⟩
   obtain⟨g,hg⟩:=choose_lt each
   have hat:∀i,i<len->AM.at_ ((List.range len).map fun i=>(⟨(g i).1,(g i).2.1,(g i).2.2.1,(g i).2.2.2⟩:AM.Ar)) i=⟨(g i).1,(g i).2.1,(g i).2.2.1,(g i).2.2.2⟩:=by
    intro i hi
    simp[AM.at_,hi]
   refine⟨(List.range len).map fun i=>⟨(g i).1,(g i).2.1,(g i).2.2.1,(g i).2.2.2⟩,by simp,?_,fun i hi=>?_,.inr ⟨_,_,rfl,by simp⟩⟩
   · by_cases h0:len=0
     · subst h0
       exact⟨some a,cap,by simp,.inl (by simp)⟩
     · obtain⟨b,off,spot⟩:=a
       have hc:=(hg 0 (by omega)).1
       have hspot:spot=none:=by simpa [Addr.add] using World.cell?_spot hc
       subst hspot
       refine⟨some (Ad b off),cap,by simp,.inr ⟨b,off,rfl,fun i hi=>?_⟩⟩
       have hi':i<len:=by simpa using hi
       rw[hat i hi']
       obtain⟨e0,e1,e2,e3,_⟩:=hg i hi'
       rw[Addr.add_lit] at e0 e1 e2 e3
       exact⟨e0,by rw[Nat.add_assoc];exact e1,by rw[Nat.add_assoc];exact e2,by rw[Nat.add_assoc];exact e3⟩
   · have hi':i<len:=by simpa using hi
     rw[hat i hi']
     obtain⟨_,_,_,_,f1,f2,f3⟩:=hg i hi'
     exact⟨f1,f2,f3⟩
end
end AW
end Go.Proofs.YtpgifpeohlllfaaGreat
