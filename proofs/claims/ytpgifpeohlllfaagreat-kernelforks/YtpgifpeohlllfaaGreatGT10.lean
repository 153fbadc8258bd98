import Derived.Test.YtpgifpeohlllfaaGreatGT09
import Derived.Lib.Repeat
import Derived.Test.YtpgifpeohlllfaaGreatChecked
import Derived.Deep.Slices
import Derived.ProofKit
set_option maxHeartbeats 20000000
set_option linter.unusedVariables false
set_option maxRecDepth 100000
set_option linter.unusedSimpArgs false
namespace Go.Proofs.YtpgifpeohlllfaaGreat
namespace LM
open Go.RowKit Go.WideMaps Go.Maps
structure Li where
 i:M.Im
 a:M.At
def li0:Li:=⟨⟨⟨#[]⟩,[],[],[],[],0⟩,⟨none,0,none,0,none,0,none,0⟩⟩
def cO (l:List Li) (k:Nat):Li:=l.getD k li0
def E1 (x:Li):Value:=.agg (M.fK x.a x.i)
def Qz (w:World) (b off:Nat) (l:List Li):Prop:=∀k,k<l.length ->
 (w.cell? (Ad b (off+k*6))=some (.string (cO l k).i.name)/\w.cell? (Ad b (off+k*6+1))=some (.slice (cO l k).a.an (cO l k).i.needs.length (cO l k).a.cn) /\
  w.cell? (Ad b (off+k*6+2))=some (.slice (cO l k).a.ag (cO l k).i.dw.length (cO l k).a.cg)/\w.cell? (Ad b (off+k*6+3))=some (.slice (cO l k).a.ay (cO l k).i.syms.length (cO l k).a.cy) /\
  w.cell? (Ad b (off+k*6+4))=some (.slice (cO l k).a.ar (cO l k).i.fV.length (cO l k).a.cr)/\w.cell? (Ad b (off+k*6+5))=some (I (cO l k).i.entry))/\M.nX w (cO l k).a (cO l k).i
theorem adk {w w':World} {b off:Nat} {l:List Li} (hb:Below w.heap.size w w') (hlt:b<w.heap.size) (h:Qz w b off l):Qz w' b off l:=fun k hk=>by
 obtain⟨⟨c0,c1,c2,c3,c4,c5⟩,hi⟩:=h k hk;exact⟨⟨(M.br hb hlt).trans c0,(M.br hb hlt).trans c1,(M.br hb hlt).trans c2,(M.br hb hlt).trans c3,(M.br hb hlt).trans c4,(M.br hb hlt).trans c5⟩,hi.below hb⟩
def I4 (w:World) (ao:Option Addr) (l:List Li):Prop:=M.fy Qz w ao l
theorem I4.below {w w':World} {ao:Option Addr} {l:List Li} (h:I4 w ao l) (hb:Below w.heap.size w w'):I4 w' ao l:=M.fy.below (lie:=Qz) (fun hb hlt h=>adk hb hlt h) h hb
def abE (l:List Li):Prop:=M.bD l.length/\∀k,k<l.length->M.Fit (cO l k).i
def lZ (l:List Li):Nat->Int
 | 0=>0
 | k+1=>if lZ l k=0 then M.kq (cO l k).i else lZ l k
def gh (l:List Li):List ByteArray:=l.map (·.i.name)
def mX (l:List Li):Int:=if lZ l l.length=0 then (if M.qg (gh l) then 0 else 5) else lZ l l.length
theorem wP (l:List Li) (k:Nat) (h:lZ l k≠0):∀n,k<=n->lZ l n=lZ l k
 | 0, hn => by obtain rfl:k=0 := by omega
               rfl
 | n+1,hn=>by
  by_cases e:k=n+1
  · subst e;rfl
  · have ih:=wP l k h n (by omega);simp only[lZ];rw[ih,if_neg h]
theorem zB (l:List Li):∀n,lZ l n=0->∀k,k<n->M.kq (cO l k).i=0
 | 0,_,k,hk=>by omega
 | n+1,h,k,hk=>by
  simp only[lZ] at h;by_cases e0:lZ l n=0
  · rw[if_pos e0] at h;by_cases e:k=n
    · subst e;exact h
    · exact zB l n e0 k (by omega)
  · rw[if_neg e0] at h;exact(e0 h).elim
theorem Bv (l:List Li) (k:Nat) (hk:k<l.length):M.lC (gh l) k=(cO l k).i.name:=by
 unfold M.lC gh cO;rw[List.getD_eq_getElem?_getD,List.getD_eq_getElem?_getD,List.getElem?_map,List.getElem?_eq_getElem hk];rfl
theorem ji (l:List Li):(gh l).length=l.length:=by simp[gh]
def Rv (v:Value):Option (DataW Value×List MemPlace):=some (.held v,[])
def ac1:Value:=.agg #[.string ⟨#[]⟩,Nl,Nl,Nl,Nl,I 0]
structure Nm (l:List Li) (k:Nat) (D:DataW Value):Prop where
 has:∀s,Maps.has D (W.AG s)=((gh l).take k).contains s
 at_:M.jE (gh l) k=true->∀j,j<k->D.atKey (W.AG (cO l j).i.name) (.held ac1)=.held (E1 (cO l j))
 le:Maps.size D<=k
 all:Maps.size D=k↔M.jE (gh l) k=true
theorem SY (l:List Li):Nm l 0 (.map []):=⟨fun s=>by simp[Maps.has],fun _ j hj=>by omega,by simp[Maps.size],by simp[Maps.size,M.jE]⟩
theorem S9 (l:List Li) (k j:Nat) (hj:j<k) (hk:k<=l.length):((gh l).take k).contains (cO l j).i.name=true:=by
 have h1:j<((gh l).take k).length:=by rw[List.length_take,ji];omega
 have h2:((gh l).take k)[j]=(cO l j).i.name:=by
  rw[List.getElem_take];have h3:j<(gh l).length:=by rw[ji];omega
  have:=Bv l j (by omega);unfold M.lC at this;rw[List.getD_eq_getElem?_getD,List.getElem?_eq_getElem h3] at this;exact this
 rw[<- h2];exact List.contains_iff_mem.2 (List.getElem_mem h1)
theorem SZ {l:List Li} {k:Nat} {D:DataW Value} (hk:k<l.length) (hD:IsMap D) (hT:Maps.Tidy D) (h:Nm l k D):Nm l (k+1) (D.put (W.AG (cO l k).i.name) (.held (E1 (cO l k)))):=by
 have hc:=fun s=>W.rP (gh l) k (by rw[ji];exact hk) s
 have hat:=Bv l k hk;have hon:M.jE (gh l) (k+1)=(M.jE (gh l) k&&!((gh l).take k).contains (cO l k).i.name):=by simp only[M.jE];rw[hat]
 have hsz:=Maps.size_put (k:=W.AG (cO l k).i.name) hT (.held (E1 (cO l k)));rw[h.has] at hsz;refine⟨fun s=>?_,fun ho j hj=>?_,?_,?_⟩
 · rw[hc s,hat];by_cases e:s=(cO l k).i.name
   · subst e;rw[Maps.has_put_same hD (by trivial)];simp
   · rw[Maps.has_put_other (fun g=>e (W.yY g)),h.has];have:(s==(cO l k).i.name)=false:=by simpa using e
     rw[this,Bool.or_false]
 · rw[hon] at ho;simp only[Bool.and_eq_true,Bool.not_eq_true'] at ho;by_cases e:j=k
   · subst e;exact atKey_put_same hD (by trivial) _ _
   · have hin:=S9 l k j (by omega) (by omega);rw[atKey_put_other (fun g=>by
      have:=W.yY g;rw[this] at hin;rw[ho.2] at hin;cases hin)]
     exact h.at_ ho.1 j (by omega)
 · have:=h.le;split at hsz <;> omega
 · rw[hon];have h1:=h.le;have h2:=h.all;cases hcn:((gh l).take k).contains (cO l k).i.name
   · rw[hcn] at hsz;simp only[Bool.false_eq_true,if_false] at hsz;rw[hsz];simp only[Bool.not_false,Bool.and_true];rw[<- h2];omega
   · rw[hcn] at hsz;simp only[if_true] at hsz;rw[hsz];simp only[Bool.not_true,Bool.and_false,Bool.false_eq_true,iff_false];omega
end LM
namespace W
open Go.RowKit
end W
namespace LW
open Go.RowKit Go.WideMaps Go.Maps
open W (ai)
def aeX (l:List LM.Li) (w:World) (e:Ending) (w':World):Prop:=Below w.heap.size w w' /\
 if LM.mX l=0 then ∃m D,e=.returned (.tuple #[.map (some m),I 0])/\w'.ownsMap Tryz.prog 9 LM.Rv m l.length D/\LM.Nm l l.length D
 else e=.returned (.tuple #[.map none,I (LM.mX l)])
end LW
namespace LW
open Go.RowKit
open W (ai)
end LW
namespace LM
open Go.RowKit
def adr (all:List Li) (s:ByteArray):Option Nat:=all.findIdx? (fun x=>decide (x.i.name=s))
def aaL (ix:List Nat) (j:Nat):List Nat:=if ix.contains j then ix else ix++[j]
def U8 (all:List Li) (ix:List Nat) (needs:List ByteArray):Nat->Option (List Nat)
 | 0=>some ix
 | k+1=>match U8 all ix needs k with
  | none=>none
  | some ix'=>match adr all (M.lC needs k) with
   | none=>none
   | some j=>some (aaL ix' j)
def Ju (all:List Li) (ix:List Nat) (n:Nat):List ByteArray:=(cO all (ix.getD n 0)).i.needs
def YB (all:List Li):Nat->Nat->List Nat->Option (List Nat)
 | 0,_,ix=>some ix
 | f+1,n,ix=>if n<ix.length then (match U8 all ix (Ju all ix n) (Ju all ix n).length with
  | none=>none
  | some ix'=>YB all f (n+1) ix') else some ix
structure Uq (all:List Li) (ix:List Nat):Prop where
 pos:0<ix.length
 nodup:ix.Nodup
 lt:∀j∈ix,j<all.length
theorem uM:∀(L:Nat) (ix:List Nat),ix.Nodup->(∀j∈ix,j<L)->ix.length<=L
 | 0,ix,_,h=>by
  cases ix with
  | nil=>exact Nat.le_refl _
  | cons x r=>exact absurd (h x List.mem_cons_self) (by omega)
 | L+1,ix,hn,h=>by
  by_cases e:L∈ix
  · have h1:=uM L (ix.erase L) (hn.erase L) (fun j hj=>by
     have h2:=(List.Nodup.mem_erase_iff hn).1 hj;have:=h j h2.2;omega)
    rw[List.length_erase_of_mem e] at h1;omega
  · have:=uM L ix hn (fun j hj=>by
     have h1:=h j hj;have h2:j≠L:=fun g=>e (g ▸ hj)
     omega)
    omega
theorem Uq.le {all:List Li} {ix:List Nat} (h:Uq all ix):ix.length<=all.length:=uM _ _ h.nodup h.lt
def cT (all:List Li):Int->List Nat->List Ob
 | _,[]=>[]
 | b,j::r=>⟨(cO all j).i,(cO all j).a,b⟩::cT all (AO ⟨(cO all j).i,(cO all j).a,b⟩) r
def fY (all:List Li):Int->List Nat->Int
 | b,[]=>b
 | b,j::r=>fY all (AO ⟨(cO all j).i,(cO all j).a,b⟩) r
theorem eU (all:List Li):∀(ix:List Nat) (b:Int),(cT all b ix).length=ix.length
 | [],_=>rfl
 | j::r,b=>by simp only[cT,List.length_cons,eU all r]
theorem tK (all:List Li) (j:Nat):∀(ix:List Nat) (b:Int),cT all b (ix++[j])=cT all b ix++[⟨(cO all j).i,(cO all j).a,fY all b ix⟩]
 | [],b=>rfl
 | k::r,b=>by simp only[List.cons_append,cT,fY,tK all j r]
theorem ug (all:List Li) (j:Nat):∀(ix:List Nat) (b:Int),fY all b (ix++[j])=AO ⟨(cO all j).i,(cO all j).a,fY all b ix⟩
 | [],b=>rfl
 | k::r,b=>by simp only[List.cons_append,fY,ug all j r]
theorem mJ (all:List Li):∀(ix:List Nat) (b:Int) (k:Nat),k<ix.length->(eu (cT all b ix) k).i=(cO all (ix.getD k 0)).i/\(eu (cT all b ix) k).a=(cO all (ix.getD k 0)).a/\(eu (cT all b ix) k).base=fY all b (ix.take k)
 | [],_,k,hk=>by simp at hk
 | j::r,b,0,_=>⟨rfl,rfl,rfl⟩
 | j::r,b,k+1,hk=>by
  have:=mJ all r (AO ⟨(cO all j).i,(cO all j).a,b⟩) k (by simpa using hk);simpa [eu,cT,fY] using this
theorem CX (all:List Li) (ix:List Nat) (b:Int) (h:0<ix.length):AO (eu (cT all b ix) (ix.length-1))=fY all b ix:=by
 obtain⟨r,j,rfl⟩:∃r j,ix=r++[j]:=⟨ix.dropLast,ix.getLast (by intro e;subst e;simp at h),(List.dropLast_concat_getLast _).symm⟩;rw[tK,ug];have e:(r++[j]).length-1=(cT all b r).length:=by rw[eU];simp
 rw[e];unfold eu;rw[List.getD_eq_getElem?_getD,List.getElem?_append_right (Nat.le_refl _)];simp
theorem dO (ix:List Nat) (k:Nat) (h:k<ix.length):ix.getD k 0∈ix:=by
 rw[List.getD_eq_getElem?_getD,List.getElem?_eq_getElem h];exact List.getElem_mem h
theorem qu (all:List Li) (hc:∀j,j<all.length->M.kq (cO all j).i=0):∀(ix:List Nat) (b:Int),(∀j∈ix,j<all.length)->b<=fY all b ix/\fY all b ix<=b+255*(ix.length:Int)
 | [],b,_=>by simp[fY]
 | j::r,b,h=>by
  have hl:=vY (hc j (h j List.mem_cons_self));have ih:=qu all hc r (AO ⟨(cO all j).i,(cO all j).a,b⟩) (fun k hk=>h k (List.mem_cons_of_mem _ hk));simp only[fY];have e:AO ⟨(cO all j).i,(cO all j).a,b⟩=b+(nA (cO all j).i).page+(nA (cO all j).i).aJ:=rfl;rw[e] at ih ⊢;simp only[List.length_cons];omega
end LM
namespace LW
open Go.RowKit Go.WideMaps Go.Maps
open W (ai)
theorem flat_get {α:Type} (f:α->List Value) (c:Nat) (hc:∀x,(f x).length=c) (d:α):∀(l:List α) (i j:Nat),i<l.length->j<c->(l.flatMap f)[i*c+j]?=(f (l.getD i d))[j]?
 | a::r,0,j,_,hj=>by
  rw[List.flatMap_cons,Nat.zero_mul,Nat.zero_add,List.getElem?_append_left (by rw[hc];exact hj)];rfl
 | a::r,i+1,j,hi,hj=>by
  rw[List.flatMap_cons,List.getElem?_append_right (by rw[hc,Nat.succ_mul];omega),hc,show(i+1)*c+j-c=i*c+j by rw[Nat.succ_mul];omega];exact flat_get f c hc d r i j (by simpa using hi) hj
def Uo (all:List LM.Li) (R:Option (List Nat)) (w:World) (e:Ending) (w':World):Prop:=Below w.heap.size w w'/\match R with
 | none=>e=.returned (.tuple #[Nl,.bool false])
 | some ix=>LM.Uq all ix/\∃ao cap,e=.returned (.tuple #[.slice ao ix.length cap,.bool true])/\LM.QD w' ao (LM.cT all 1 ix)
structure Gi (all:List LM.Li) (m:Nat) (D:DataW Value) (w:World):Prop where
 pos:0<all.length
 few:all.length<=7
 chk:∀j,j<all.length->M.kq (LM.cO all j).i=0
 fit:∀j,j<all.length->M.Fit (LM.cO all j).i
 once:M.qg (LM.gh all)=true
 im:∀j,j<all.length->M.nX w (LM.cO all j).a (LM.cO all j).i
 map:w.ownsMap Tryz.prog 9 LM.Rv m all.length D
 nm:LM.Nm all all.length D
theorem uK {w w':World} {base:Nat} {e:TypeId} {size:Nat} {v:Value} {n:Nat} {xs:List Value} (h:w.ownsRow base e size v n xs) (hb:Below w.heap.size w w'):w'.ownsRow base e size v n xs:=by
 refine⟨h.1,?_⟩;rcases h.2 with h2 | ⟨g,cap,cur,hv,hbg,hg,rest⟩
 · exact .inl h2
 · exact .inr ⟨g,cap,cur,hv,hbg,(hb.block g (B.isLt hg)).trans hg,rest⟩
end LW
namespace LM
open Go.RowKit
def l9:ByteArray:=⟨(Lib.repeatL [0] 16).toArray⟩
theorem tq:l9.size=16:=rfl
def tI (s:M.Sg) (n:Nat):ByteArray:=CL.over l9 0 (s.data.extract (min (n*16) s.data.size) (min (min (n*16) s.data.size+16) s.data.size))
theorem extract_size (s:ByteArray) (a b:Nat) (h1:a<=b) (h2:b<=s.size):(s.extract a b).size=b-a:=by
 rw[ByteArray.size_extract];omega
structure Pt where
 pos:Int
 bytes:ByteArray
def pt0:Pt:=⟨0,⟨#[]⟩⟩
def Ay (l:List Pt) (k:Nat):Pt:=l.getD k pt0
def Qy (w:World) (b off:Nat) (l:List Pt):Prop:=∀i,i<l.length->w.cell? (Ad b (off+i*2))=some (I (Ay l i).pos)/\w.cell? (Ad b (off+i*2+1))=some (.string (Ay l i).bytes)
theorem adi {w w':World} {b off:Nat} {l:List Pt} (hb:Below w.heap.size w w') (hlt:b<w.heap.size) (h:Qy w b off l):Qy w' b off l:=fun i hi=>by
 obtain⟨c0,c1⟩:=h i hi;exact⟨(M.br hb hlt).trans c0,(M.br hb hlt).trans c1⟩
def QC (w:World) (ao:Option Addr) (l:List Pt):Prop:=M.fy Qy w ao l
theorem QC.below {w w':World} {ao:Option Addr} {l:List Pt} (h:QC w ao l) (hb:Below w.heap.size w w'):QC w' ao l:=M.fy.below (lie:=Qy) (fun hb hlt h=>adi hb hlt h) h hb
def J3 (p:Pt):List Value:=[I p.pos,.string p.bytes]
def Cn (f:Fx):List Value:=[I f.off,.string f.bytes]
def Yl (p:Pt):Prop:=0<=p.pos/\p.pos<=1000000/\p.bytes.size=8
def II (page:Int) (p:Pt):List Fx:=if max (page*16) p.pos<min (page*16+16) (p.pos+8) then [⟨max (page*16) p.pos-page*16,p.bytes.extract (max (page*16) p.pos-p.pos).toNat (max (page*16) p.pos-p.pos+(min (page*16+16) (p.pos+8)-max (page*16) p.pos)).toNat⟩] else []
def gZ (page:Int) (ps:List Pt):List Fx:=ps.flatMap (II page)
theorem KC {α:Type} (l:List α) (d:α) (k:Nat) (h:k<l.length):l.take (k+1)=l.take k++[l.getD k d]:=by
 rw[List.take_succ_eq_append_getElem h,List.getD_eq_getElem?_getD,List.getElem?_eq_getElem h];rfl
theorem TV (page:Int) (p:Pt):(II page p).length<=1:=by
 unfold II;split <;> simp
theorem Cc (page:Int):∀ps:List Pt,(gZ page ps).length<=ps.length
 | []=>by simp[gZ]
 | p::r=>by
  have h1:=Cc page r;have h2:=TV page p;unfold gZ at h1 ⊢;rw[List.flatMap_cons,List.length_append,List.length_cons];omega
theorem Fm (page:Int) (l:List Pt) (p:Pt):gZ page (l++[p])=gZ page l++II page p:=by
 unfold gZ;rw[List.flatMap_append];simp
end LM
namespace AW
open Go.RowKit
theorem CB (l:List AM.Ar) (v:Value) (page aJ q:Int) (P:Nat) (w:World) (h:Has w v l) (hf:ft l) (hp:-9223372036854775808<=page/\page<=9223372036854775807) (hn:-9223372036854775808<=aJ/\aJ<=9223372036854775807) (hP:w.cell? (Ad P 0)=some (I q)) :
  Calls Tryz.prog 121 #[v,I page,I aJ,I q,.func (.func 122) #[] #[.pointer (some (Ad P 0))]] w fun e w'=>∃r,e=.returned (.tuple #[r,I (AM.jQ l page aJ q (dI q)).2])/\Own w.heap.size w' r (AM.jQ l page aJ q (dI q)).1/\Below w.heap.size w w':=by
 by_cases hc:AM.aW l=0
 · by_cases xw:AM.dW page aJ=true
   · by_cases hqq:AM.iV q=true
     · have HT:Hid (AM.jQ l page aJ q (dI q)=if AM.iq (AM.cR l) (dI q) page.toNat aJ.toNat=0 then (AM.eO (AM.turned (AM.cR l) (dI q) page (page+aJ)),0) else ([],AM.iq (AM.cR l) (dI q) page.toNat aJ.toNat)):=by
        show _=_;simp[AM.jQ,hc,xw,hqq]
       have hpb:=(AM.jD page aJ).1 xw;obtain⟨Z,hZ⟩:=ex (AM.cU (fun _=>AM.off));have hz:=VP;rw[<- hZ] at hz;have DM:Z.size=768:=by rw[hZ];exact AM.eX _
       clear hZ;go_enter Tryz.func121,Tryz.ntmps121;go_wp2_with fail
       refine(gV l v _ h hf).mono ?_;rintro e w1 ⟨rfl,hb1⟩;rw[hc];have HC:Hid (AM.aW l=0):=hc;clear hc;go_wp2_with fail
       refine(eT _ _ _ hp hn).mono ?_;rintro e w' ⟨rfl,rfl⟩;go_wp2_with fail
       refine(gS _ _).mono ?_;rintro e w' ⟨rfl,rfl⟩;go_wp2_with fail
       refine(GI l v _ (h.below hb1) HC.o).mono ?_;rintro e w2 ⟨rfl,hb2⟩;have cM:Hid (Below w.heap.size w w2):=hb1.trans (hb2.mono hb1.size);obtain⟨F,hF⟩:=ex (AM.cR l);rw[<- hF] at HT ⊢;obtain⟨C,hC⟩:=ex (AM.cU F);have PS:C.size=768:=by rw[hC];exact AM.eX _
       have YQ:Hid (C=AM.cU F):=hC;rw[<- hC];clear hb1 hb2 hF hC xw hqq;have rI:Hid ((w2.alloc (.cells Z 215)).heap[w2.heap.size]?=some (.cells Z 215 (0,0))):=B.new w2 Z 215;go_wp2_with (refine wpList_store_row rfl 215 _ _ rfl w2.heap.size C rfl rfl 215 Z rI.out (by rw[PS];exact oP) (by rw[DM,PS]) (by rw[YQ.o];exact AM.sP _) ?_)
       have HA0:Hid (((w2.alloc (.cells Z 215)).setRow w2.heap.size C).heap[w2.heap.size]?=some (.cells C 215 (0,0))):=setRow_heap _ _ _ _ 215 (0,0) rI.out;have ed:Hid (Below w.heap.size w ((w2.alloc (.cells Z 215)).setRow w2.heap.size C)):=below_setRow (cM.o.alloc cM.o.size _) cM.o.size _;have E2:=cM.o.size;go_loopw [14] (fun t wr=>∃n:Nat,page<=(n:Int)/\(n:Int)<=page+aJ/\t=I n/\(∀k:Nat,page.toNat<=k->k<n->((dI q) (F k)).2=0)/\wr.heap[w2.heap.size]?=some (.cells (AM.cU (AM.turned F (dI q) page n)) 215 (0,0))/\Below w.heap.size w wr) (fun t _=>(page+aJ-intOf t).toNat)
       case atStart =>
        refine⟨page.toNat,by omega,by omega,by rw[Int.toNat_of_nonneg (by omega)],fun k h1 h2=>by omega,?_,ed.o⟩;rw[Int.toNat_of_nonneg (by omega),AM.CA,<- YQ.o];exact HA0.o
       case round =>
        obtain⟨n,Pj,Yu,rfl,hno,hA,hb⟩:=hrel;have HN:Hid (∀k:Nat,page.toNat<=k->k<n->((dI q) (F k)).2=0):=hno;have HA:Hid (wr.heap[w2.heap.size]?=some (.cells (AM.cU (AM.turned F (dI q) page n)) 215 (0,0))):=hA;have HB:Hid (Below w.heap.size w wr):=hb;have hAl:w2.heap.size<wr.heap.size:=B.isLt hA;have hPw:wr.cell? (Ad P 0)=some (I q):=(hb.cell (p:=(Ad P 0)) (World.block_lt_of_cell? w _ hP)).trans hP;by_cases hin:(n:Int)<page+aJ
        · have z0:=B.cell hA (n*3) (AM.nT _ n (by omega));have z1:=B.cell hA (n*3+1) (AM.nR _ n (by omega));have z2:=B.cell hA (n*3+2) (AM.nQ _ n (by omega));rw[AM.Kt] at z0 z1 z2;have Ve:(n:Int)<256:=by omega
          clear hno hA hb;obtain⟨s,hs⟩:=ex (F n);rw[<- hs] at z0 z1 z2;have HS:Hid (s=F n):=hs;clear hs;go_wp2_with fail
          refine(Ow s q P _ hPw).mono ?_;rintro e w3 ⟨rfl,hb3⟩;have bA:=B.below HA.o hb3 hAl;have y0:=B.cell bA (n*3) (AM.nT _ n (by omega));have y1:=B.cell bA (n*3+1) (AM.nR _ n (by omega));have y2:=B.cell bA (n*3+2) (AM.nQ _ n (by omega));have yf:=B.free bA;have pR:Hid (w3.heap[w2.heap.size]?=some (.cells (AM.cU (AM.turned F (dI q) page n)) 215 (0,0))):=bA;have VK:Hid (Below w.heap.size w w3):=HB.o.trans (hb3.mono HB.o.size);have adA:w2.heap.size<w3.heap.size:=B.isLt bA;clear bA hb3 z0 z1 z2;obtain⟨r,hr⟩:=ex ((dI q) s);rw[<- hr];have HR:Hid (r=(dI q) s):=hr;clear hr;unfold Vy;by_cases he:r.2=0
          · have he':(r.2 != 0)=false:=by simp[he]
            have HE:Hid (r.2=0):=he;clear he;go_wp2;go_roundw
            case rel =>
             have gD:=B.set (B.set (B.set pR.o (n*3) (.bool r.1.m)) (n*3+1) (I r.1.p)) (n*3+2) (.bool r.1.z);have est:=AM.Ea F (dI q) page n Pj;rw[<- HS.o,<- HR.o] at est;rw[AM.zP (AM.turned F (dI q) page n) n r.1 (by omega),est] at gD;refine⟨n+1,by omega,by omega,by go_num,fun k h1 h2=>if e:k=n then by rw[e,<- HS.o,<- HR.o];exact HE.o else HN.o k h1 (by omega),?_,?_⟩
             · rw[show((n+1:Nat):Int)=(n:Int)+1 from by omega];exact B.alloc gD _
             · have hb4:=((VK.o.setCell (p:=(Ad w2.heap.size (n*3))) E2 (.bool r.1.m)).setCell (p:=(Ad w2.heap.size (n*3+1))) E2 (I r.1.p)).setCell (p:=(Ad w2.heap.size (n*3+2))) E2 (.bool r.1.z);exact hb4.alloc hb4.size _
            case measure=>simp[intOf];omega
          · have he':(r.2 != 0)=true:=by simpa using he
            have HE:Hid (r.2≠0):=he;clear he;have ht:Hid (AM.jQ l page aJ q (dI q)=([],r.2)):=by
             have WJ:AM.iq F (dI q) page.toNat aJ.toNat=r.2:=by
              rw[HR.o,HS.o];exact AM.zC F (dI q) _ _ n (by omega) (by omega) HN.o (by rw[<- HS.o,<- HR.o];exact HE.o)
             show _=_;rw[HT.o,WJ,if_neg HE.o]
            go_wp2
            go_ret2
            exact⟨Nl,by rw[ht.out];rfl,by rw[ht.out];exact Own.nil _ _,VK.o.alloc VK.o.size _⟩
        · have hend:Hid ((n:Int)=page+aJ):=by show _=_;omega
          have ht:Hid (AM.jQ l page aJ q (dI q)=(AM.eO (AM.turned F (dI q) page n),0)):=by
           have WJ:AM.iq F (dI q) page.toNat aJ.toNat=0:=AM.ue F (dI q) _ _ (fun k h1 h2=>HN.o k h1 (by have:=hend.out;omega));show _=_;rw[HT.o,WJ,if_pos rfl,hend.out]
          clear hno hA hb;go_wp2_with (refine wpList_load_row rfl 215 _ rfl w2.heap.size rfl 215 _ (0,0) _ HA.o Tryz.underlying215 rfl (by rw[AM.eX];exact oP) ?_)
          refine(Ie _ _).mono ?_;rintro e w4 ⟨r,rfl,hr,hb4⟩;go_wp2
          go_ret2
          exact⟨r,by rw[ht.out];rfl,by rw[ht.out];exact hr.mono HB.o.size,HB.o.trans (hb4.mono HB.o.size)⟩
     · have adK:AM.iV q=false:=by simpa using hqq
       have HT:Hid (AM.jQ l page aJ q (dI q)=([],3)):=by show _=_;simp[AM.jQ,hc,xw,adK]
       clear hqq;go_enter Tryz.func121,Tryz.ntmps121;go_wp2_with fail
       refine(gV l v _ h hf).mono ?_;rintro e w1 ⟨rfl,hb1⟩;rw[hc];clear hc;go_wp2_with fail
       refine(eT _ _ _ hp hn).mono ?_;rintro e w' ⟨rfl,rfl⟩;go_wp2_with fail
       refine(gS _ _).mono ?_;rintro e w' ⟨rfl,rfl⟩;go_wp2
       go_ret2
       exact⟨Nl,by rw[HT.o];rfl,by rw[HT.o];exact Own.nil _ _,hb1⟩
   · have adN:AM.dW page aJ=false:=by simpa using xw
     have HT:Hid (AM.jQ l page aJ q (dI q)=([],3)):=by show _=_;simp[AM.jQ,hc,adN]
     clear xw;go_enter Tryz.func121,Tryz.ntmps121;go_wp2_with fail
     refine(gV l v _ h hf).mono ?_;rintro e w1 ⟨rfl,hb1⟩;rw[hc];clear hc;go_wp2_with fail
     refine(eT _ _ _ hp hn).mono ?_;rintro e w' ⟨rfl,rfl⟩;go_wp2
     go_ret2
     exact⟨Nl,by rw[HT.o];rfl,by rw[HT.o];exact Own.nil _ _,hb1⟩
 · have HT:Hid (AM.jQ l page aJ q (dI q)=([],AM.aW l)):=by show _=_;simp[AM.jQ,hc]
   have hc':(AM.aW l != 0)=true:=by simpa using hc
   go_enter Tryz.func121,Tryz.ntmps121;go_wp2_with fail
   refine(gV l v _ h hf).mono ?_;rintro e w1 ⟨rfl,hb1⟩;go_wp2
   go_ret2
   exact⟨Nl,by rw[HT.o];rfl,by rw[HT.o];exact Own.nil _ _,hb1⟩
def o5 (l:List AM.Ar) (page aJ q:Int):List AM.Ar×Int:=AM.jQ l page aJ q (dI q)
def gu (n:Int):Prop:=-9223372036854775808<=n/\n<=9223372036854775807
theorem Tb (l:List AM.Ar) (v:Value) (page aJ q:Int) (w:World) (h:Has w v l) (hf:ft l) (hp:gu page) (hn:gu aJ) :
  Calls Tryz.prog 74 #[v,I page,I aJ,I q] w fun e w'=>∃r,e=.returned (.tuple #[r,I (o5 l page aJ q).2])/\Own w.heap.size w' r (o5 l page aJ q).1/\Below w.heap.size w w':=by
 have hb0:Below w.heap.size w (w.alloc (.cells #[I q] 3)):=(Below.refl _ _).alloc (Nat.le_refl _) _;have hP:=B.cell (B.new w #[I q] 3) 0 rfl;have H:=h.below hb0;have HP:Hid ((w.alloc (.cells #[I q] 3)).cell? (Ad w.heap.size 0)=some (I q)):=hP;clear hP;go_enter Tryz.func74,Tryz.ntmps74;go_wp2_with fail
 refine(CB l v page aJ q w.heap.size _ H hf hp hn HP.o).mono ?_;rintro e w1 ⟨r,rfl,hr,hb1⟩;go_wp2
 go_ret2
 exact⟨r,rfl,hr.mono hb0.size,hb0.trans (hb1.mono hb0.size)⟩
theorem TQ {l:List AM.Ar} (h:∀a∈l,AM.Fits a) (hn:l.length<=140737488351232):ft l:=by
 refine⟨fun i hi=>?_,hn⟩;have e:AM.at_ l i=l[i]:=by simp[AM.at_,hi]
 rw[e];exact h _ (List.getElem_mem hi)
theorem JZ:ft []:=TQ (fun a h=>by simp at h) (by simp)
theorem Nz (l:List AM.Ar) (page aJ q:Int) (how:AM.St->AM.St×Int) (h:(AM.jQ l page aJ q how).2≠0):(AM.jQ l page aJ q how).1=[]:=by
 unfold AM.jQ at h ⊢;split
 · rename_i hc
   rw[if_pos hc] at h;split
   · rename_i hp
     rw[if_pos hp] at h;split
     · rename_i he
       rw[if_pos he] at h;exact absurd rfl h
     · rfl
   · rfl
 · rfl
theorem Su (l:List AM.Ar) (page aJ q:Int) (how:AM.St->AM.St×Int) (h:(AM.jQ l page aJ q how).2=0) :
  AM.aW l=0/\AM.dW page aJ=true/\AM.iV q=true/\AM.iq (AM.cR l) how page.toNat aJ.toNat=0/\(AM.jQ l page aJ q how).1=AM.eO (AM.turned (AM.cR l) how page (page+aJ)):=by
 unfold AM.jQ at h ⊢;split
 · rename_i hc
   rw[if_pos hc] at h;split
   · rename_i hp
     rw[if_pos hp] at h;rw[Bool.and_eq_true] at hp;split
     · rename_i he
       exact⟨hc,hp.1,hp.2,he,rfl⟩
     · rename_i he
       rw[if_neg he] at h;exact absurd h he
   · rename_i hp
     rw[if_neg hp] at h;simp at h
 · rename_i hc
   rw[if_neg hc] at h;exact absurd h hc
theorem P5 (l:List AM.Ar) (page t q:Int) (hc:AM.aW l=0) (hp:1<=page) (hq:0<=q/\q<=3):AM.uo (AM.turned (AM.cR l) (dI q) page t) :=
 AM.Fp _ (AM.wJ l hc) _ _ _ hp (fun s _ h=>by
  unfold dI at h ⊢;cases hm:s.m
  · simp[hm] at h
  · simp[hm] at h) (fun s h=>by
  unfold dI;cases hm:s.m
  · simpa [hm] using hq
  · simpa [hm] using h)
theorem EF (q:Int):AM.iV q=true↔0<=q/\q<=3:=⟨fun h=>of_decide_eq_true h,fun h=>decide_eq_true h⟩
theorem Ll (l:List AM.Ar) (page aJ q:Int) (h:(o5 l page aJ q).2=0) :
  AM.aW (o5 l page aJ q).1=0/\(∀p:Nat,1<=p->p<=255 ->
   (page<=(p:Int)/\(p:Int)<page+aJ->(AM.aR l p).2=false/\(AM.aR (o5 l page aJ q).1 p).2=true/\(AM.aR (o5 l page aJ q).1 p).1.bV=q/\(AM.aR (o5 l page aJ q).1 p).1.zero=true) /\
   (¬(page<=(p:Int)/\(p:Int)<page+aJ)->(AM.aR (o5 l page aJ q).1 p).2=(AM.aR l p).2/\(AM.aR (o5 l page aJ q).1 p).1.bV=(AM.aR l p).1.bV/\(AM.aR (o5 l page aJ q).1 p).1.zero=(AM.aR l p).1.zero)):=by
 obtain⟨hc,xw,hq,he,hr⟩:=Su _ _ _ _ _ h;have hpb:=(AM.jD page aJ).1 xw;have hF:=P5 l page (page+aJ) q hc hpb.1 ((EF q).1 hq);have hr':(o5 l page aJ q).1=_:=hr;rw[hr'];refine⟨AM.pd _ hF,fun p h1 h2=>?_⟩;have fg:=AM.Fs _ hF p (by omega);have fs:=AM.wK l hc p;refine⟨fun hin=>?_,fun hout=>?_⟩
 · have he':=AM.Fw _ _ _ _ he p (by omega) (by omega);have hm:(AM.cR l p).m=false:=by
    unfold dI at he';cases hm:(AM.cR l p).m
    · rfl
    · simp[hm] at he'
   simp only[AM.turned] at fg;rw[if_pos hin] at fg;unfold dI at fg;simp only[hm] at fg;exact⟨fs.1.trans hm,fg.1,fg.2.1,fg.2.2⟩
 · simp only[AM.turned] at fg;rw[if_neg hout] at fg;exact⟨fg.1.trans fs.1.symm,fg.2.1.trans fs.2.1.symm,fg.2.2.trans fs.2.2.symm⟩
theorem TP (l:List AM.Ar) (page aJ q:Int):ft (o5 l page aJ q).1:=by
 by_cases h:(o5 l page aJ q).2=0
 · exact AM.gU _ (Ll l page aJ q h).1
 · rw[show(o5 l page aJ q).1=[] from Nz _ _ _ _ _ h];exact JZ
end AW
namespace AW
open Go.RowKit Go.Deep
theorem Ue:Tryz.prog.cellsOf 47=4:=by kernel_rfl
theorem cells3:Tryz.prog.cellsOf 3=1:=by kernel_rfl
theorem zR:Tryz.prog.cellsOf 4=1:=by kernel_rfl
theorem mN (n:Int) (h:(Lit.int .i64 n).wf=true):gu n:=by
 simp only[Lit.wf,IntKind.min,IntKind.max,IntKind.signed,IntKind.bits,Bool.and_eq_true,decide_eq_true_eq,if_true] at h;unfold gu;omega
section
variable {H:Type} {enc:TypeId×Value->H} {w:World} {base:Nat} {spare:Nat->Bool} {held:Bool}
theorem Od {n:Nat} {a:Addr} {cs:List Value} {x:DataW H×List MemPlace} (hc:w.cells? base a 4=some cs) (h:DataW.trod enc Tryz.prog w base spare held n 47 cs=some x) :
  ∃q:Int×Int×Int×Bool,w.cell? (a.add 0)=some (I q.1)/\w.cell? (a.add 1)=some (I q.2.1)/\w.cell? (a.add 2)=some (I q.2.2.1)/\w.cell? (a.add 3)=some (.bool q.2.2.2)/\gu q.1/\gu q.2.1/\gu q.2.2.1:=by
 obtain⟨_,hlen,hcell⟩:=World.cells?_some hc;obtain⟨xs,k,hk,hxy,_,hxl,hf⟩:=DataW.trod_struct Tryz.underlying47 h
 match cs,hlen with
 | [v0,v1,v2,v3],_ =>
  have g0:DataW.trod enc Tryz.prog w base spare held k 3 (([v0,v1,v2,v3].drop 0).take (Tryz.prog.cellsOf 3))=xs[0]?:=hf 0 _ rfl;have g1:DataW.trod enc Tryz.prog w base spare held k 3 (([v0,v1,v2,v3].drop 1).take (Tryz.prog.cellsOf 3))=xs[1]?:=hf 1 _ rfl;have g2:DataW.trod enc Tryz.prog w base spare held k 3 (([v0,v1,v2,v3].drop 2).take (Tryz.prog.cellsOf 3))=xs[2]?:=hf 2 _ rfl;have g3:DataW.trod enc Tryz.prog w base spare held k 4 (([v0,v1,v2,v3].drop 3).take (Tryz.prog.cellsOf 4))=xs[3]?:=hf 3 _ rfl;simp only[cells3,zR] at g0 g1 g2 g3;have e0:=hcell 0 (by omega);have e1:=hcell 1 (by omega);have e2:=hcell 2 (by omega);have e3:=hcell 3 (by omega)
  match xs,hxl with
  | [y0,y1,y2,y3],_ =>
   obtain⟨m0,c0,_,w0⟩:=DataW.trod_int Tryz.underlying3 (show DataW.trod enc Tryz.prog w base spare held k 3 [v0]=some y0 from g0);obtain⟨m1,c1,_,w1⟩:=DataW.trod_int Tryz.underlying3 (show DataW.trod enc Tryz.prog w base spare held k 3 [v1]=some y1 from g1);obtain⟨m2,c2,_,w2⟩:=DataW.trod_int Tryz.underlying3 (show DataW.trod enc Tryz.prog w base spare held k 3 [v2]=some y2 from g2);obtain⟨b3,c3,_⟩:=DataW.trod_bool Tryz.underlying4 (show DataW.trod enc Tryz.prog w base spare held k 4 [v3]=some y3 from g3);simp only[List.cons.injEq,and_true] at c0 c1 c2 c3;subst c0;subst c1;subst c2;subst c3;exact⟨(m0,m1,m2,b3),e0,e1,e2,e3,mN _ w0,mN _ w1,mN _ w2⟩
theorem Hc {fuel:Nat} {a0:Option Addr} {len cap:Nat} {x:DataW H×List MemPlace} (h:DataW.trod enc Tryz.prog w base spare held fuel 28 [.slice a0 len cap]=some x) :
  ∃l:List AM.Ar,l.length=len/\Has w (.slice a0 len cap) l/\(∀i,i<l.length->AM.Fits (AM.at_ l i))/\(len=0∨∃el sp,x.1=.slice el sp/\el.length=len):=by
 rcases open_slice Tryz.underlying28 h with⟨hcs,_⟩ | ⟨a,len',cap',m,n,D,Pl,hcs,hb,hl,hm,hmm,rfl,hx⟩
 · simp at hcs;obtain⟨rfl,rfl,rfl⟩:=hcs;exact⟨[],rfl,⟨none,0,rfl,.inl rfl⟩,fun i hi=>by simp at hi,.inl rfl⟩
 · simp at hcs;obtain⟨rfl,rfl,rfl⟩:=hcs;have hlm:len<=m:=by rw[hmm];split <;> omega
   have each:∀i,i<len->∃q:Int×Int×Int×Bool,w.cell? (a.add (i*4))=some (I q.1)/\w.cell? (a.add (i*4+1))=some (I q.2.1)/\w.cell? (a.add (i*4+2))=some (I q.2.2.1)/\w.cell? (a.add (i*4+3))=some (.bool q.2.2.2)/\gu q.1/\gu q.2.1/\gu q.2.2.1:=by
    intro i hi;obtain⟨cs',h1,h2⟩:=hx i (by omega);rw[Ue] at h1;obtain⟨q,e0,e1,e2,e3,f⟩:=Od h1 h2;rw[add_add] at e0 e1 e2 e3;exact⟨q,e0,e1,e2,e3,f⟩
   obtain⟨g,hg⟩:=choose_lt each;have hat:∀i,i<len->AM.at_ ((List.range len).map fun i=>(⟨(g i).1,(g i).2.1,(g i).2.2.1,(g i).2.2.2⟩:AM.Ar)) i=⟨(g i).1,(g i).2.1,(g i).2.2.1,(g i).2.2.2⟩:=by
    intro i hi;simp[AM.at_,hi]
   refine⟨(List.range len).map fun i=>⟨(g i).1,(g i).2.1,(g i).2.2.1,(g i).2.2.2⟩,by simp,?_,fun i hi=>?_,.inr ⟨_,_,rfl,by simp⟩⟩
   · by_cases h0:len=0
     · subst h0;exact⟨some a,cap,by simp,.inl (by simp)⟩
     · obtain⟨b,off,spot⟩:=a;have hc:=(hg 0 (by omega)).1;have hspot:spot=none:=by simpa [Addr.add] using World.cell?_spot hc
       subst hspot;refine⟨some (Ad b off),cap,by simp,.inr ⟨b,off,rfl,fun i hi=>?_⟩⟩;have hi':i<len:=by simpa using hi
       rw[hat i hi'];obtain⟨e0,e1,e2,e3,_⟩:=hg i hi';rw[Addr.add_lit] at e0 e1 e2 e3;exact⟨e0,by rw[Nat.add_assoc];exact e1,by rw[Nat.add_assoc];exact e2,by rw[Nat.add_assoc];exact e3⟩
   · have hi':i<len:=by simpa using hi
     rw[hat i hi'];obtain⟨_,_,_,_,f1,f2,f3⟩:=hg i hi';exact⟨f1,f2,f3⟩
end
end AW
end Go.Proofs.YtpgifpeohlllfaaGreat
