import Derived.Test.YtpgifpeohlllfaaGreatGT17
set_option maxHeartbeats 20000000
set_option linter.unusedVariables false
set_option maxRecDepth 100000
set_option linter.unusedSimpArgs false
namespace Go.Proofs.YtpgifpeohlllfaaGreat
namespace KM
open Go.RowKit
theorem oD (s:ByteArray) (q:Nat) (t:ByteArray) (h:q+t.size<=s.size):(CL.over s q t).size=s.size:=by
 have h1:(CL.over s q t).size=(CL.over s q t).data.toList.length:=by simp
 have h2:s.size=s.data.toList.length:=by simp
 have h3:t.size=t.data.toList.length:=by simp
 rw[h1];unfold CL.over;simp only[List.length_append,List.length_take,List.length_drop];simp at h2 h3 ⊢;omega
theorem zz (s:ByteArray) (a b:Nat) (h:b<=s.size) (hab:a<=b):(s.extract a b).size=b-a:=by
 simp[ByteArray.size_extract];omega
theorem G1 {a n:Int} (h1:1<=n) (h8:n<=8):(cA a n=a/16/\a%16+n<=16)∨(cA a n=a/16+1/\16<a%16+n):=by
 unfold cA;omega
structure YF (f:Int->ByteArray) (a n:Int):Prop where
 one:(f (a/16)).size=16
 two:(f (cA a n)).size=16
theorem qP {f:Int->ByteArray} {a n:Int} (h:YF f a n) (h1:1<=n) (h8:n<=8):((rG f a n).size:Int)=if cA a n=a/16 then 16 else 32:=by
 unfold rG;split
 · rw[h.one];rfl
 · rw[ByteArray.size_append,h.one,h.two];rfl
theorem yZ {f:Int->ByteArray} {a n:Int} (h:YF f a n) (h1:1<=n) (h8:n<=8):(a%16).toNat+n.toNat<=(rG f a n).size:=by
 have:=qP h h1 h8;rcases G1 (a:=a) h1 h8 with g | g
 · rw[if_pos g.1] at this;omega
 · rw[if_neg (by omega)] at this;omega
theorem Lx {f:Int->ByteArray} {a:Int} {d:ByteArray} (h:YF f a d.size) (h1:1<=(d.size:Int)) (h8:(d.size:Int)<=8):((laidB f a d).size:Int)=if cA a d.size=a/16 then 16 else 32:=by
 unfold laidB;rw[oD _ _ _ (by have:=yZ h h1 h8;omega)];exact qP h h1 h8
structure I2 (k:Kn) (j:Nat) (a:Int) (d:ByteArray) (r:Kn):Prop where
 right:aQ r
 ak:r.ak=k.ak
 nf:r.frames.length=k.frames.length
 ns:r.slots.length=k.slots.length
 np:r.aj.length=k.aj.length
 live:∀m,m<k.aj.length->(au r.aj m).live=(au k.aj m).live
 aB:∀m,m<k.aj.length->(au r.aj m).aB=(au k.aj m).aB
 CS:∀m,m<k.aj.length->∀p,dD r m p=if m=j then GF (dD k j) a d p else dD k m p
theorem KH {k:Kn} (h:aQ k) {j:Nat} (hj:j<k.aj.length) (a:Int) (d:ByteArray) (hd1:1<=(d.size:Int)) (hd8:(d.size:Int)<=8) (h1:mapped k j (a/16)) (h2:mapped k j (cA a d.size)):I2 k j a d (pW k j a d):=by
 have R:=ov h hj a d.size 1 h1 h2;have A:=EA h hj a d.size h1 h2;have hP:YF (dD k j) a d.size:=⟨mo h hj h1,mo h hj h2⟩;have hL:=Lx hP hd1 hd8;have Gh:=G1 (a:=a) hd1 hd8;unfold pW;rw[si h hj a d.size 1 h1 h2];obtain⟨s,hs⟩:=ex (laidB (dD k j) a d);have hs':CL.over (rG (dD k j) a d.size) (a%16).toNat d=s:=hs.symm;rw[hs'];rw[<- hs] at hL;obtain⟨K,hK⟩:=ex ((aO k j a d.size 1).2);have hr:=R.right;have jJ:=R.kept;rw[<- hK] at hr jJ A ⊢;have Vi:j<K.aj.length:=by rw[jJ.np];exact hj
 by_cases c:cA a d.size=a/16
 · have e:(aO k j a d.size 1).1=[(dz k j a 1).1]:=by unfold aO;rw[if_pos c]
   rw[e];show I2 k j a d (xt K (dz k j a 1).1 (s.extract (0*16) (0*16+16)));rw[if_pos c] at hL;have hz:(s.extract (0*16) (0*16+16)).size=16:=zz _ _ _ (by omega) (by omega);refine⟨sF hr Vi A.1 hz,jJ.ak,by show(List.set _ _ _).length=_;rw[List.length_set];exact jJ.nf,jJ.ns,jJ.np,jJ.live,jJ.aB,fun m hm p=>?_⟩;rw[uU hr Vi A.1 _ (by rw[jJ.np];exact hm)];by_cases q:m=j
   · subst q;rw[if_pos rfl];unfold GF;by_cases z:p=a/16
     · rw[if_pos ⟨rfl,z⟩,if_pos z,hs]
     · rw[if_neg (fun x=>z x.2),if_neg z,if_neg (by omega)];exact jJ.CS m hm p
   · rw[if_neg (fun x=>q x.1),if_neg q];exact jJ.CS m hm p
 · have e:(aO k j a d.size 1).1=[(dz k j a 1).1,(iO k j a d.size 1).1]:=by unfold aO;rw[if_neg c]
   rw[e];show I2 k j a d (xt (xt K (dz k j a 1).1 (s.extract (0*16) (0*16+16))) (iO k j a d.size 1).1 (s.extract (1*16) (1*16+16)));rw[if_neg c] at hL;have hz:(s.extract (0*16) (0*16+16)).size=16:=zz _ _ _ (by omega) (by omega);have hy:(s.extract (1*16) (1*16+16)).size=16:=zz _ _ _ (by omega) (by omega);have A2:=A.2 c;have hne:=ml hr Vi Vi A.1.here A2.here c;have r1:=sF hr Vi A.1 hz;have B:Alone (xt K (dz k j a 1).1 (s.extract (0*16) (0*16+16))) j (cA a d.size) (iO k j a d.size 1).1:=by
    have at_:aH (xt K (dz k j a 1).1 (s.extract (0*16) (0*16+16))).frames (iO k j a d.size 1).1=aH K.frames (iO k j a d.size 1).1:=by
     show aH (List.set _ _ _) _=_;rw[eW _ _ _ _ A.1.lt,if_neg hne]
    exact⟨A2.here,by show _<(List.set _ _ _).length;rw[List.length_set];exact A2.lt,by rw[at_];exact A2.refs,by rw[at_];exact A2.cj⟩
   refine⟨sF r1 Vi B hy,jJ.ak,by show(List.set (List.set _ _ _) _ _).length=_;rw[List.length_set,List.length_set];exact jJ.nf,jJ.ns,jJ.np,jJ.live,jJ.aB,fun m hm p=>?_⟩;have hmK:m<K.aj.length:=by rw[jJ.np];exact hm
   rw[uU r1 Vi B _ (m:=m) hmK,uU hr Vi A.1 _ hmK];by_cases q:m=j
   · subst q;rw[if_pos rfl];unfold GF;by_cases z:p=a/16
     · rw[if_neg (fun x=>c (x.2.symm.trans z)),if_pos ⟨rfl,z⟩,if_pos z,hs]
     · rw[if_neg z];by_cases y:p=cA a d.size
       · rw[if_pos ⟨rfl,y⟩,if_pos y,hs]
       · rw[if_neg (fun x=>y x.2),if_neg (fun x=>z x.2),if_neg y];exact jJ.CS m hm p
   · rw[if_neg (fun x=>q x.1),if_neg (fun x=>q x.1),if_neg q];exact jJ.CS m hm p
end KM
namespace LM
open Go.RowKit
def YX (l:List M.Sy) (s:ByteArray):Option Nat:=l.findIdx? (fun y=>decide (y.name=s))
def ac4 (o:Ob) (s:ByteArray):Option Int:=match YX o.i.syms s with
 | none=>none
 | some k=>some (wV o (M.SF o.i.syms k).pos)
def U4 (l:List Ob) (s:ByteArray):Nat->Option Int
 | 0=>none
 | k+1=>match U4 l s k with
  | some t=>some t
  | none=>ac4 (eu l k) s
def VW (l:List Ob) (o:Ob) (s:ByteArray):Option Int:=if s=⟨#[]⟩ then some (wV o 0) else U4 l s l.length
theorem Bo {i:M.Im} (hc:M.kq i=0):M.xI i=true:=by
 unfold M.kq at hc;split at hc
 · simp at hc
 · split at hc
   · simp at hc
   · split at hc
     · simp at hc
     · split at hc
       · simp at hc
       · split at hc
         · simp at hc
         · rename_i h
           simpa using h
theorem Bf:∀{l:List M.Sg} {a:Int} {s:M.Sg},M.mE l a=some s->(∃k,k<l.length/\M.dN l k=s)/\M.nD s a=true
 | [],a,s,h=>by cases h
 | x::r,a,s,h=>by
  simp only[M.mE] at h;split at h
  · rename_i hi
    injection h with h;subst h;exact⟨⟨0,by simp,rfl⟩,hi⟩
  · obtain⟨⟨k,hk,e⟩,hi⟩:=Bf h;exact⟨⟨k+1,by simpa using hk,by simpa [M.dN] using e⟩,hi⟩
theorem jh {i:M.Im} (hc:M.kq i=0) {a:Int} (h:M.eD i.dw a=true):0<=a/\a<4080:=by
 unfold M.eD at h;obtain⟨s,hs⟩:=Option.isSome_iff_exists.1 h;obtain⟨⟨k,hk,e⟩,hi⟩:=Bf hs;have hb:=oV hc k hk;rw[e] at hb;unfold M.nD at hi;have:=of_decide_eq_true hi;omega
theorem Bl (i:M.Im):∀n,M.CI i n=true->∀k,k<n->M.Jm i k=true
 | 0,_,k,hk=>by omega
 | n+1,h,k,hk=>by
  simp only[M.CI,Bool.and_eq_true] at h;by_cases e:k=n
  · subst e;exact h.2
  · exact Bl i n h.1 k (by omega)
theorem V7 {i:M.Im} (hc:M.kq i=0) (k:Nat) (hk:k<i.fV.length):M.Jm i k=true:=by
 have h:=Bo hc;unfold M.xI at h;simp only[Bool.and_eq_true] at h;exact Bl i i.fV.length h.2.1 k hk
theorem GX {i:M.Im} (hc:M.kq i=0) (k:Nat) (hk:k<i.fV.length):0<=(M.rh i.fV k).pos/\(M.rh i.fV k).pos+7<4080:=by
 have h:=V7 hc k hk;unfold M.Jm M.Nt at h;simp only[Bool.and_eq_true] at h;have h0:=jh hc h.2.1;have h7:=jh hc h.2.2.2.2.2.2.2.2;omega
theorem Dl {i:M.Im} (hc:M.kq i=0):0<=i.entry/\i.entry<4080:=by
 have h:=Bo hc;unfold M.xI at h;simp only[Bool.and_eq_true] at h;have he:=h.2.2;unfold M.u6 at he;refine jh hc ?_;unfold M.eD;cases e:M.mE i.dw i.entry with
 | none=>rw[e] at he;cases he
 | some s=>rfl
def ac6 (o:Ob) (r:M.Rl) (t:Int):Pt:=⟨wV o r.pos,⟨(Lib.leBytes 8 (CM.low (t+r.add))).toArray⟩⟩
def rB (l:List Ob) (o:Ob):Nat->Option (List Pt)
 | 0=>some []
 | k+1=>match rB l o k with
  | none=>none
  | some ps=>match VW l o (M.rh o.i.fV k).name with
   | none=>none
   | some t=>some (ps++[ac6 o (M.rh o.i.fV k) t])
def yH (l:List Ob) (o:Ob):Option (List Pt):=rB l o o.i.fV.length
theorem Bp {l:List Ob} {o:Ob}:∀{k:Nat} {ps:List Pt},rB l o k=some ps->ps.length=k
 | 0,ps,h=>by simp only[rB] at h;injection h with h;subst h;rfl
 | k+1,ps,h=>by
  simp only[rB] at h;cases e:rB l o k with
  | none=>rw[e] at h;cases h
  | some qs =>
   rw[e] at h;simp only at h;cases g:VW l o (M.rh o.i.fV k).name with
   | none=>rw[g] at h;cases h
   | some t =>
    rw[g] at h;simp only at h;injection h with h;subst h;rw[List.length_append,Bp e];rfl
structure Sp where
 page:Int
 data:ByteArray
 bg:List Fx
def plain (s:Sh):Sp:=⟨s.page,s.data,s.bg⟩
def pgN (o:Ob) (ps:List Pt) (s:M.Sg) (m:Nat):Sp:=⟨o.base+s.page+(m:Int),tI s m,gZ (o.base+s.page+(m:Int)) ps⟩
def yG (o:Ob) (ps:List Pt) (s:M.Sg) (n:Nat):List Sp:=(List.range n).map (pgN o ps s)
def vK (o:Ob) (ps:List Pt):Nat->List Sp
 | 0=>[]
 | k+1=>vK o ps k++yG o ps (M.dN o.i.dw k) (M.dN o.i.dw k).aJ.toNat
def rD (l:List Ob):Nat->Option (List Sp)
 | 0=>some []
 | k+1=>match rD l k with
  | none=>none
  | some E=>match yH l (eu l k) with
   | none=>none
   | some ps=>some (E++vK (eu l k) ps (eu l k).i.dw.length)
def ma (l:List Ob):Option (List Sp):=rD l l.length
theorem G0 (o:Ob) (ps:List Pt) (s:M.Sg) (n:Nat):yG o ps s (n+1)=yG o ps s n++[pgN o ps s n]:=by
 unfold yG;rw[List.range_succ,List.map_append];rfl
theorem yN {l:List Ob} {k:Nat} (h:rD l k=none):∀n,k<=n->rD l n=none
 | 0, hn => by obtain rfl:k=0 := by omega
               exact h
 | n+1,hn=>by
  by_cases e:k=n+1
  · subst e;exact h
  · simp only[rD];rw[yN h n (by omega)]
theorem Jo {l:List Ob} {o:Ob} (hc:M.kq o.i=0) (h0:1<=o.base) (h1:o.base<=2000):∀(k:Nat) (ps:List Pt),k<=o.i.fV.length->rB l o k=some ps->∀j,j<ps.length->Yl (Ay ps j)
 | 0,ps,_,h,j,hj=>by simp only[rB] at h;injection h with h;subst h;simp at hj
 | k+1,ps,hk,h,j,hj=>by
  simp only[rB] at h;cases e:rB l o k with
  | none=>rw[e] at h;cases h
  | some qs =>
   rw[e] at h;simp only at h;cases g:VW l o (M.rh o.i.fV k).name with
   | none=>rw[g] at h;cases h
   | some t =>
    rw[g] at h;simp only at h;injection h with h;subst h;rw[List.length_append] at hj;by_cases hjq:j<qs.length
    · have:=Jo hc h0 h1 k qs (by omega) e j hjq;unfold Ay at this ⊢;rw[List.getD_eq_getElem?_getD,List.getElem?_append_left hjq,<- List.getD_eq_getElem?_getD];exact this
    · have L4:j=qs.length:=by simp at hj;omega
      subst L4;unfold Ay;rw[List.getD_eq_getElem?_getD,List.getElem?_append_right (Nat.le_refl _),Nat.sub_self];have hb:=GX hc k (by omega);refine⟨?_,?_,?_⟩
      · show 0<=o.base*16+(M.rh o.i.fV k).pos;omega
      · show o.base*16+(M.rh o.i.fV k).pos<=1000000;omega
      · show(⟨(Lib.leBytes 8 (CM.low (t+(M.rh o.i.fV k).add))).toArray⟩:ByteArray).size=8;rw[Lib.size_eq];simp[Lib.leBytes]
def qA (rb:Option Nat) (w:World) (ao:Option Addr) (l:List Fx):Prop:=0<l.length->∃b off,ao=some (Ad b off)/\b<w.heap.size/\some b≠rb/\I3 w b off l
theorem qA.has {rb:Option Nat} {w:World} {ao:Option Addr} {l:List Fx} (h:qA rb w ao l):oc w ao l:=fun hl=>by
 obtain⟨b,off,h1,h2,_,h3⟩:=h hl;exact⟨b,off,h1,h2,h3⟩
theorem qA.below {rb:Option Nat} {w w':World} {ao:Option Addr} {l:List Fx} (h:qA rb w ao l) (hb:Below w.heap.size w w'):qA rb w' ao l:=fun hl=>by
 obtain⟨b,off,h1,h2,h3,h4⟩:=h hl;exact⟨b,off,h1,Nat.lt_of_lt_of_le h2 hb.size,h3,Zd hb h2 h4⟩
theorem Hi {w w':World} {b off:Nat} {l:List Fx} (h:I3 w b off l) (hb:w'.heap[b]?=w.heap[b]?):I3 w' b off l:=fun i hi=>by
 obtain⟨c0,c1⟩:=h i hi;exact⟨(World.cell?_of_block hb).trans c0,(World.cell?_of_block hb).trans c1⟩
theorem qA.grown {rb:Option Nat} {w w':World} {ao:Option Addr} {l:List Fx} {g:Nat} (h:qA rb w ao l) (hg:w.grownBy w' rb) (hs:w.heap.size<=w'.heap.size) (hat:rb=some g∨g=w.heap.size):qA (some g) w' ao l:=fun hl=>by
 obtain⟨b,off,h1,h2,h3,h4⟩:=h hl;refine⟨b,off,h1,Nat.lt_of_lt_of_le h2 hs,fun e=>?_,Hi h4 (hg.block b h2 h3)⟩;injection e with e;rcases hat with hat | hat
 · exact h3 (by rw[hat,e])
 · omega
def abM (rb:Option Nat) (w:World) (hs:List Sh):Prop:=∀k,k<hs.length->qA rb w (aY hs k).ao (aY hs k).bg
def FC (s:Sh):List Value:=[I s.page,.string s.data,.slice s.ao s.bg.length s.cap]
theorem KV (l:List Sh) (x:Sh) (k:Nat) (h:k<l.length):aY (l++[x]) k=aY l k:=by
 unfold aY;rw[List.getD_eq_getElem?_getD,List.getElem?_append_left h,<- List.getD_eq_getElem?_getD]
theorem K0 (l:List Sh) (x:Sh):aY (l++[x]) l.length=x:=by
 unfold aY;rw[List.getD_eq_getElem?_getD,List.getElem?_append_right (Nat.le_refl _)];simp
end LM
namespace KM
open Go.RowKit
def Same (xs ys:List LM.Sh):Prop:=ys.map LM.plain=xs.map LM.plain
def aT (k:Kn) (hs:List LM.Sh):Kn:=⟨hs,k.frames,k.slots,k.aj,k.hand⟩
theorem Same.len {xs ys:List LM.Sh} (h:Same xs ys):ys.length=xs.length:=by
 have:=congrArg List.length h;simpa using this
theorem lK {a b:LM.Sh} (h:LM.plain a=LM.plain b):a.page=b.page/\a.data=b.data/\a.bg=b.bg:=by
 injection h with h1 h2 h3;exact⟨h1,h2,h3⟩
theorem Same.at {xs ys:List LM.Sh} (h:Same xs ys) (i:Nat):LM.plain (LM.aY ys i)=LM.plain (LM.aY xs i):=by
 unfold Same at h;unfold LM.aY;have h1:(ys.map LM.plain)[i]?=(xs.map LM.plain)[i]?:=by rw[h]
 rw[List.getElem?_map,List.getElem?_map] at h1;rw[List.getD_eq_getElem?_getD,List.getD_eq_getElem?_getD];cases g1:ys[i]? with
 | none =>
  cases g2:xs[i]? with
  | none=>rfl
  | some x=>rw[g1,g2] at h1;cases h1
 | some y =>
  cases g2:xs[i]? with
  | none=>rw[g1,g2] at h1;cases h1
  | some x =>
   rw[g1,g2] at h1;injection h1
theorem GR {a b:LM.Sh} (h:LM.plain a=LM.plain b):LM.mQ a=LM.mQ b:=by
 obtain⟨h1,h2,h3⟩:=lK h;unfold LM.mQ;rw[h2,h3]
theorem GQ {a b:LM.Sh} (h:LM.plain a=LM.plain b):LM.bQ a=LM.bQ b:=by
 obtain⟨h1,h2,h3⟩:=lK h;unfold LM.bQ LM.jK;rw[h1,h2,h3]
theorem yh (p:Int):∀(xs ys:List LM.Sh),Same xs ys->(bW ys p).map LM.plain=(bW xs p).map LM.plain
 | [],[],_=>rfl
 | [],b::r,h=>by have:=congrArg List.length h;simp at this
 | a::r,[],h=>by have:=congrArg List.length h;simp at this
 | a::r,b::t,h=>by
  have h:LM.plain b::t.map LM.plain=LM.plain a::r.map LM.plain:=h;injection h with h1 h2;have ih:=yh p r t h2;have hp:=(lK h1).1;unfold bW at ih ⊢;rw[List.find?_cons,List.find?_cons,hp];cases decide (a.page=p) with
  | true=>exact congrArg some h1
  | false=>exact ih
theorem vM {xs ys:List LM.Sh} (h:Same xs ys) (p:Int):filled ys p=filled xs p:=by
 have:=yh p xs ys h;unfold filled;cases g1:bW ys p with
 | none =>
  cases g2:bW xs p with
  | none=>rfl
  | some x=>rw[g1,g2] at this;cases this
 | some y =>
  cases g2:bW xs p with
  | none=>rw[g1,g2] at this;cases this
  | some x =>
   rw[g1,g2] at this;injection this with this;exact GR this
theorem uI {xs ys:List LM.Sh} (h:Same xs ys) (p:Int):(bW ys p).isSome=(bW xs p).isSome:=by
 have:=congrArg Option.isSome (yh p xs ys h);simpa using this
theorem yi {xs ys:List LM.Sh} (h:Same xs ys) (p:Int) (z:Bool):dY ys p z=dY xs p z:=by
 unfold dY;rw[vM h]
theorem K8 {xs ys:List LM.Sh} (h:Same xs ys):LM.dC ys=LM.dC xs:=by
 have:∀n,LM.cN ys n=LM.cN xs n:=fun n=>by
  induction n with
  | zero=>rfl
  | succ n ih =>
   unfold LM.cN;rw[ih,GQ (h.at n)];unfold LM.gA;rw[(lK (h.at n)).1,(lK (h.at (n-1))).1]
 unfold LM.dC;rw[h.len,this]
theorem aQ.aT {k:Kn} (h:aQ k) {hs:List LM.Sh} (s:Same k.ak hs):aQ (aT k hs):=by
 refine⟨?_,(K8 s).trans h.eJ,h.hand,fun x hx=>?_,h.room,fun i hi=>?_,h.slt⟩
 · have:=h.c;have e:=s.len;refine decide_eq_true ?_;show(3<=k.frames.length/\k.frames.length<=64)/\k.slots.length<=512/\(1<=k.aj.length/\k.aj.length<=4)/\hs.length<=255;omega
 · have g:=h.each x hx;exact⟨g.dead,g.aB,g.eJ,g.u9,fun p h1 h2=>(uI s p).trans (g.ak p h1 h2)⟩
 · have g:=h.m7 i hi;exact⟨g.refs,g.zero,g.one,g.size,fun d x hx=>(g.fill d x hx).trans (yi s _ _).symm⟩
theorem FJ (k:Kn) (hs:List LM.Sh) (i:Nat):cY (aT k hs) i=aT (cY k i) hs:=by
 unfold cY;show(if (aH k.frames i).cj=true then (match rN k.slots with
  | some s=>xZ (aT k hs) i s
  | none=>fJ (aT k hs) i) else fJ (aT k hs) i)=_
 by_cases c:(aH k.frames i).cj=true
 · rw[if_pos c,if_pos c];cases rN k.slots <;> rfl
 · rw[if_neg c,if_neg c];rfl
theorem wT (held:List Int) (hs:List LM.Sh):∀(n:Nat) (k:Kn),j6 held n (aT k hs)=aT (j6 held n k) hs
 | 0,k=>rfl
 | n+1,k=>by
  unfold j6;show(if ku held k=true then j6 held n (aT (gL held k) hs) else aT k hs)=_;by_cases c:ku held k=true
  · rw[if_pos c,if_pos c];exact wT held hs n _
  · rw[if_neg c,if_neg c]
theorem BZ (k:Kn) (hs:List LM.Sh) (held:List Int):bT (aT k hs) held=((bT k held).1,aT (bT k held).2 hs):=by
 unfold bT;show(match wH k.frames with
  | some i=>(i,aT k hs)
  | none=>_)=_
 cases wH k.frames with
 | some i=>rfl
 | none =>
  show(_,_)=(_,_);rw[wT,show(aT (j6 held 70 k) hs).hand=(j6 held 70 k).hand from rfl,FJ];rfl
theorem vV (k:Kn) (hs:List LM.Sh) (e:En):b9 (aT k hs) e=aT (b9 k e) hs:=by unfold b9;split <;> rfl
theorem sA (k:Kn) (hs:List LM.Sh) (j:Nat) (p:Int) (i:Nat) (d:ByteArray) (dy:Bool):cZ (aT k hs) j p i d dy=aT (cZ k j p i d dy) hs:=by
 unfold cZ;show(match bf (au k.aj j).aA p with
  | none=>_
  | some e=>_)=_
 cases bf (au k.aj j).aA p with
 | none=>rfl
 | some e=>exact vV (dZ (jm k i d dy) j ⟨p,1,i⟩) hs e
theorem Az {k:Kn} (h:aQ k) {held:List Int} (hl:held.length<=2) {hs:List LM.Sh} (s:Same k.ak hs) (j:Nat) (p:Int):cm (aT k hs) j p held=((cm k j p held).1,aT (cm k j p held).2 hs):=by
 have hsh:=(nK h hl).kept.ak;unfold cm;show(match bf (au k.aj j).aA p with
  | some e=>_
  | none=>_)=_
 rw[BZ];cases bf (au k.aj j).aA p with
 | none =>
  dsimp only;rw[sA];show(_,aT (cZ _ _ _ _ (dY hs p _) _) hs)=_;rw[yi s,hsh];rfl
 | some e =>
  dsimp only;by_cases c:e.kind=1
  · rw[if_pos c,if_pos c]
  · rw[if_neg c,if_neg c,sA];rfl
theorem FQ (k:Kn) (hs:List LM.Sh) (held:List Int) (j:Nat) (p:Int) (a:Nat):ic (aT k hs) j p a held=((ic k j p a held).1,aT (ic k j p a held).2 hs):=by
 unfold ic;rw[BZ];by_cases c:(aH k.frames a).refs=1
 · rw[if_pos c,if_pos (show(aH (aT k hs).frames a).refs=1 from c)]
 · rw[if_neg c,if_neg (show ¬(aH (aT k hs).frames a).refs=1 from c),sA];rfl
theorem wU {k:Kn} (h:aQ k) {held:List Int} (hl:held.length<=2) {hs:List LM.Sh} (s:Same k.ak hs) (j:Nat) (p way:Int):cI (aT k hs) j p way held=((cI k j p way held).1,aT (cI k j p way held).2 hs):=by
 have e:iN (aT k hs) j p way held=((iN k j p way held).1,aT (iN k j p way held).2 hs):=by
  unfold iN;rw[Az h hl s];by_cases c:way=1
  · rw[if_pos c,if_pos c];exact FQ _ _ _ _ _ _
  · rw[if_neg c,if_neg c]
 unfold cI;rw[e];rfl
theorem vO {k:Kn} (h:aQ k) {j:Nat} (hj:j<k.aj.length) {a n way:Int} (h1:mapped k j (a/16)) {hs:List LM.Sh} (s:Same k.ak hs):aO (aT k hs) j a n way=((aO k j a n way).1,aT (aO k j a n way).2 hs):=by
 have A:=(kT h hj h1 way (held:=[]) (by simp)).1;have e1:dz (aT k hs) j a way=((dz k j a way).1,aT (dz k j a way).2 hs):=wU h (by simp) s j _ way;have e2:iO (aT k hs) j a n way=((iO k j a n way).1,aT (iO k j a n way).2 hs):=by
  unfold iO;rw[e1];have s2:Same (dz k j a way).2.ak hs:=by
   have:(dz k j a way).2.ak=k.ak:=A.kept.ak;rw[this];exact s
  exact wU A.right (by simp) s2 j _ way
 unfold aO;rw[e1,e2];by_cases c:cA a n=a/16
 · rw[if_pos c,if_pos c]
 · rw[if_neg c,if_neg c]
theorem yJ (k:Kn) (hs:List LM.Sh) (ids:List Nat) (s:ByteArray):∀n,iC (aT k hs) ids s n=aT (iC k ids s n) hs
 | 0=>rfl
 | n+1=>by
  unfold iC;rw[yJ k hs ids s n];rfl
theorem Ck (k:Kn) (hs:List LM.Sh) (es:List En) (p:En->Bool):∀n,bZ (aT k hs) es p n=aT (bZ k es p n) hs
 | 0=>rfl
 | n+1=>by
  unfold bZ;rw[Ck k hs es p n];split
  · exact vV _ _ _
  · rfl
theorem tZ (k:Kn) (hs:List LM.Sh) (j:Nat) (p:En->Bool):dK (aT k hs) j p=aT (dK k j p) hs:=by
 unfold dK;show kG (bZ (aT k hs) _ _ _) _ _=_;rw[Ck];rfl
theorem ID (k:Kn) (hs:List LM.Sh) (j:Nat):jM (aT k hs) j=aT (jM k j) hs:=by
 unfold jM;rw[tZ];rfl
theorem wR (k:Kn) (hs:List LM.Sh) (e:En) (d:Int):dh (aT k hs) e d=aT (dh k e d) hs:=by unfold dh;split <;> rfl
theorem pY (k:Kn) (hs:List LM.Sh) (es:List En):∀n,aV (aT k hs) es n=aT (aV k es n) hs
 | 0=>rfl
 | n+1=>by
  unfold aV;rw[pY k hs es n,wR]
theorem Ik (k:Kn) (hs:List LM.Sh) (j:Nat):fX (aT k hs) j=aT (fX k j) hs:=by
 unfold fX;show Kn.mk _ _ _ _ _=_;rw[show(au (aT k hs).aj j)=au k.aj j from rfl,pY];rfl
end KM
namespace KO
open Go.RowKit GK
open FW (ai aD)
open KW (bJ bI aK aZ fh cK aI)
open KS (Lc bw kM cD blk cJ)
variable {lo mb:Nat} {tt:TypeId} {X:List Value} {w:World} {S:St} {k:KM.Kn}
theorem OM {w:World} {mb:Nat} {hand:Int} (hm:w.heap[mb]?=some (.cells #[Nl,Nl,Nl,Nl,I hand] 27 (0,0))):Km mb mb 27 [] w ⟨fun b=>if b=mb then .head else .no,Nl,Nl,Nl,Nl,[]⟩ ⟨[],[],[],[],hand⟩ :=
 ⟨⟨fun b hb=>by
   have:b=mb:=Classical.not_not.1 fun h=>hb (if_neg h)
   subst this;exact⟨Nat.le_refl _,B.isLt hm⟩,
  World.ownsRow_nil _ _ _ _,fun i hi=>absurd hi (Nat.not_lt_zero _),World.ownsRow_nil _ _ _ _,World.ownsRow_nil _ _ _ _,World.ownsRow_nil _ _ _ _,rfl,fun i hi=>absurd hi (Nat.not_lt_zero _),(fun b hb=>by cases hb),fun i hi=>absurd hi (Nat.not_lt_zero _),(fun b hb=>by cases hb),(fun b hb=>by cases hb),(fun b hb=>by cases hb),fun i hi=>absurd hi (Nat.not_lt_zero _),fun i hi=>absurd hi (Nat.not_lt_zero _)⟩,hm,if_pos rfl⟩
theorem Bd (L:List LM.Sh) (l:LM.Sh) (i:Nat) (hi:i<L.length+1):LM.aY (L++[l]) i=if i<L.length then LM.aY L i else l:=by
 unfold LM.aY;rw[List.getD_eq_getElem?_getD,List.getD_eq_getElem?_getD];by_cases h:i<L.length
 · rw[if_pos h,List.getElem?_append_left h]
 · rw[if_neg h,List.getElem?_append_right (by omega)];have:i-L.length=0:=by omega
   rw[this];rfl
def Hn (S:St) (v:Value) (n:Nat) (x:Value):Nat->Lb:=fun b=>if v.ownBlock=some b then .ak else if x.ownBlock=some b then .bg n else S.lab b
theorem Km.Y2 {w2 w4:World} {v':Value} {s:LM.Sh} {O:Obj} (h:Km lo mb tt X w S k) (hlo:lo<=w.heap.size) (hb2:Below w.heap.size w w2)
  (H7:w2.ownsRow w.heap.size 52 2 (vX s) s.bg.length (s.bg.flatMap fP)) (hgr:(w2.alloc O).grownBy w4 S.vS.ownBlock) (hown:w4.ownsRow lo 50 3 v' (k.ak.length+1) (k.ak.flatMap eN++eN s))
  (hat:v'.ownBlock=S.vS.ownBlock∨v'.ownBlock=some (w2.alloc O).heap.size) :
  Km lo mb tt X (w4.setCell (Ad mb 0) v') ⟨Hn S v' k.ak.length (vX s),v',S.vF,S.vL,S.vP,S.L⟩ { k with ak:=k.ak++[s] }/\Kp (fun b=>S.lab b≠.no) w (w4.setCell (Ad mb 0) v'):=by
 have s1:=hb2.size;have s2:=hgr.size;have hz:(w2.alloc O).heap.size=w2.heap.size+1:=World.size_alloc _ _;rw[hz] at s2 hat
 have kA:Kp (blk S.vS) w w2:=Kp.bc hb2;have kB:Kp (blk S.vS) w2 (w2.alloc O):=Kp.alloc _ w2 O;have kC:Kp (blk S.vS) (w2.alloc O) w4:=Kp.grown hgr (fun _ e=>e);have kD:=kA.trans (kB.trans kC (fun _ _ g=>g)) (fun _ _ g=>g);have gD:Kp (fun b=>b=mb) w4 (w4.setCell (Ad mb 0) v'):=Kp.set _ _ _ _ rfl;have eA:∀b,blk (vX s) b->w.heap.size<=b/\b<w2.heap.size:=fun b hb=>H7.lt b hb
 have hvb:∀b,blk S.vS b->b<w.heap.size:=fun b hb=>(h.ak.lt b hb).2
 have hv4:∀b,blk v' b->blk S.vS b∨b=w2.heap.size+1:=fun b hb=>by
  unfold blk at hb ⊢;rcases hat with e | e
  · exact .inl (by rw[<- e];exact hb)
  · right;rw[e] at hb;injection hb with hb;exact hb.symm
 have hmb:=B.isLt h.head;have old:∀b c,S.lab b=c->c≠.no->c≠.ak->Hn S v' k.ak.length (vX s) b=c:=fun b c e h1 h2=>by
  have hb:=(h.iJ b (by rw[e];exact h1)).2;unfold Hn;rw[if_neg,if_neg,e]
  · intro x;have:=eA b x;omega
  · intro x;rcases hv4 b x with g | g
    · exact h2 (by rw[<- e];exact h.lS b g)
    · omega
 have zD:∀{b:Nat} {c:Lb},S.lab b=c->c≠.ak->¬blk S.vS b:=fun e hc x=>hc (by rw[<- e];exact h.lS _ x)
 have zH:∀{b:Nat} {c:Lb},S.lab b=c->c≠.head->¬b=mb:=fun e hc x=>hc (by rw[<- e,x];exact h.lH)
 have row:∀{e:TypeId} {n m:Nat} {v:Value} {xs:List Value},w.ownsRow lo e n v m xs->(∀b,blk v b->¬blk S.vS b/\¬b=mb)->(w4.setCell (Ad mb 0) v').ownsRow lo e n v m xs:=fun hr hq=>gD.row (kD.row hr (fun b hb=>(hq b hb).1)) (fun b hb=>(hq b hb).2)
 refine⟨⟨⟨fun b hb=>?_,?_,fun i hi=>?_,row h.frames (fun b hb=>⟨zD (h.lF b hb) (by simp),zH (h.lF b hb) (by simp)⟩),row h.slots (fun b hb=>⟨zD (h.lL b hb) (by simp),zH (h.lL b hb) (by simp)⟩),row h.aj (fun b hb=>⟨zD (h.lP b hb) (by simp),zH (h.lP b hb) (by simp)⟩),h.len,fun i hi=>?_,fun b hb=>if_pos hb,fun i hi b hb=>?_,fun b hb=>old b _ (h.lF b hb) (by simp) (by simp),fun b hb=>old b _ (h.lL b hb) (by simp) (by simp),fun b hb=>old b _ (h.lP b hb) (by simp) (by simp),fun i hi b hb=>old b _ (h.lA i hi b hb) (by simp) (by simp),fun i hi b hb=>old b _ (h.lE i hi b hb) (by simp) (by simp)⟩,?_,old mb _ h.lH (by simp) (by simp)⟩,?_⟩
 · have hb:Hn S v' k.ak.length (vX s) b≠.no:=hb;have hs4:(w4.setCell (Ad mb 0) v').heap.size=w4.heap.size:=by simp
   rw[hs4];unfold Hn at hb;by_cases c:v'.ownBlock=some b
   · exact hown.lt b c
   · rw[if_neg c] at hb;by_cases d:(vX s).ownBlock=some b
     · have:=eA b d;omega
     · rw[if_neg d] at hb;have:=h.iJ b hb;omega
 · show World.ownsRow _ lo _ 3 v' (k.ak++[s]).length ((k.ak++[s]).flatMap eN);rw[List.length_append,List.length_singleton,List.flatMap_append];have:w4.ownsRow lo 50 3 v' (k.ak.length+1) (k.ak.flatMap eN++[s].flatMap eN):=by simpa using hown
   exact gD.row this (fun b hb e=>by
    rcases hv4 b hb with g | g
    · exact zH (h.lS b g) (by simp) e
    · omega)
 · have hi:i<(k.ak++[s]).length:=hi;rw[List.length_append,List.length_singleton] at hi;show World.ownsRow _ lo _ 2 (vX (LM.aY (k.ak++[s]) i)) (LM.aY (k.ak++[s]) i).bg.length ((LM.aY (k.ak++[s]) i).bg.flatMap fP);rw[Bd _ _ _ hi];by_cases c:i<k.ak.length
   · rw[if_pos c];exact row (h.bg i c) (fun b hb=>⟨zD (h.lX i c b hb) (by simp),zH (h.lX i c b hb) (by simp)⟩)
   · rw[if_neg c];refine gD.row ((kB.trans kC (fun _ _ g=>g)).row (jU H7 (fun g hg=>by have:=eA g hg;omega)) (fun b hb g=>?_)) (fun b hb e=>?_)
     · have:=hvb b g;have:=eA b hb;omega
     · have:=eA b hb;omega
 · exact((h.each i hi).kp kD (fun b hb=>zD (h.lA i hi b hb) (by simp)) (fun b hb=>zD (h.lE i hi b hb) (by simp))).kp gD (fun b hb=>zH (h.lA i hi b hb) (by simp)) (fun b hb=>zH (h.lE i hi b hb) (by simp))
 · have hi:i<(k.ak++[s]).length:=hi;rw[List.length_append,List.length_singleton] at hi;have hb:blk (vX (LM.aY (k.ak++[s]) i)) b:=hb;rw[Bd _ _ _ hi] at hb;by_cases c:i<k.ak.length
   · rw[if_pos c] at hb;exact old b _ (h.lX i c b hb) (by simp) (by simp)
   · have e:i=k.ak.length:=by omega
     rw[if_neg c] at hb;have hx:=eA b hb;show Hn S v' k.ak.length (vX s) b=.bg i;unfold Hn;rw[if_neg,if_pos (show(vX s).ownBlock=some b from hb),e];intro x;rcases hv4 b x with g | g
     · have:=hvb b g;omega
     · omega
 · have:w4.heap[mb]?=some (.cells ([S.vS,S.vF,S.vL,S.vP,I k.hand]++X).toArray tt (0,0)):=kD.keep h.head (fun x=>by have:=h.lS mb x;rw[h.lH] at this;simp at this);rw[B.set this 0 v'];simp
 · exact(kD.mono (fun b _ g=>by rw[h.lS b g];simp)).trans gD (fun b _ e=>by rw[e,h.lH];simp)
def OJ (S:St) (v:Value):Nat->Lb:=fun b=>if v.ownBlock=some b then .frames else S.lab b
theorem Km.adb {w4:World} {v':Value} {fs:List KM.Fr} (h:Km lo mb tt X w S k) (hgr:w.grownBy w4 S.vF.ownBlock) (hown:w4.ownsRow lo 40 4 v' fs.length (fs.flatMap bJ)) (hat:v'.ownBlock=S.vF.ownBlock∨v'.ownBlock=some w.heap.size) :
  Km lo mb tt X (w4.setCell (Ad mb 1) v') ⟨OJ S v',S.vS,v',S.vL,S.vP,S.L⟩ { k with frames:=fs }/\Kp (fun b=>S.lab b≠.no) w (w4.setCell (Ad mb 1) v'):=by
 have s2:=hgr.size;have kD:Kp (blk S.vF) w w4:=Kp.grown hgr (fun _ e=>e);have gD:Kp (fun b=>b=mb) w4 (w4.setCell (Ad mb 1) v'):=Kp.set _ _ _ _ rfl;have hvb:∀b,blk S.vF b->b<w.heap.size:=fun b hb=>(h.frames.lt b hb).2
 have hv4:∀b,blk v' b->blk S.vF b∨b=w.heap.size:=fun b hb=>by
  unfold blk at hb ⊢;rcases hat with e | e
  · exact .inl (by rw[<- e];exact hb)
  · right;rw[e] at hb;injection hb with hb;exact hb.symm
 have hmb:=B.isLt h.head;have old:∀b c,S.lab b=c->c≠.no->c≠.frames->OJ S v' b=c:=fun b c e h1 h2=>by
  have hb:=(h.iJ b (by rw[e];exact h1)).2;unfold OJ;rw[if_neg,e];intro x;rcases hv4 b x with g | g
  · exact h2 (by rw[<- e];exact h.lF b g)
  · omega
 have zD:∀{b:Nat} {c:Lb},S.lab b=c->c≠.frames->¬blk S.vF b:=fun e hc x=>hc (by rw[<- e];exact h.lF _ x)
 have zH:∀{b:Nat} {c:Lb},S.lab b=c->c≠.head->¬b=mb:=fun e hc x=>hc (by rw[<- e,x];exact h.lH)
 have row:∀{e:TypeId} {n m:Nat} {v:Value} {xs:List Value},w.ownsRow lo e n v m xs->(∀b,blk v b->¬blk S.vF b/\¬b=mb)->(w4.setCell (Ad mb 1) v').ownsRow lo e n v m xs:=fun hr hq=>gD.row (kD.row hr (fun b hb=>(hq b hb).1)) (fun b hb=>(hq b hb).2)
 refine⟨⟨⟨fun b hb=>?_,row h.ak (fun b hb=>⟨zD (h.lS b hb) (by simp),zH (h.lS b hb) (by simp)⟩),fun i hi=>row (h.bg i hi) (fun b hb=>⟨zD (h.lX i hi b hb) (by simp),zH (h.lX i hi b hb) (by simp)⟩),?_,row h.slots (fun b hb=>⟨zD (h.lL b hb) (by simp),zH (h.lL b hb) (by simp)⟩),row h.aj (fun b hb=>⟨zD (h.lP b hb) (by simp),zH (h.lP b hb) (by simp)⟩),h.len,fun i hi=>?_,fun b hb=>old b _ (h.lS b hb) (by simp) (by simp),fun i hi b hb=>old b _ (h.lX i hi b hb) (by simp) (by simp),fun b hb=>if_pos hb,fun b hb=>old b _ (h.lL b hb) (by simp) (by simp),fun b hb=>old b _ (h.lP b hb) (by simp) (by simp),fun i hi b hb=>old b _ (h.lA i hi b hb) (by simp) (by simp),fun i hi b hb=>old b _ (h.lE i hi b hb) (by simp) (by simp)⟩,?_,old mb _ h.lH (by simp) (by simp)⟩,?_⟩
 · have hb:OJ S v' b≠.no:=hb;have hs4:(w4.setCell (Ad mb 1) v').heap.size=w4.heap.size:=by simp
   rw[hs4];unfold OJ at hb;by_cases c:v'.ownBlock=some b
   · exact hown.lt b c
   · rw[if_neg c] at hb;have:=h.iJ b hb;omega
 · exact gD.row hown (fun b hb e=>by
    rcases hv4 b hb with g | g
    · exact zH (h.lF b g) (by simp) e
    · omega)
 · exact((h.each i hi).kp kD (fun b hb=>zD (h.lA i hi b hb) (by simp)) (fun b hb=>zD (h.lE i hi b hb) (by simp))).kp gD (fun b hb=>zH (h.lA i hi b hb) (by simp)) (fun b hb=>zH (h.lE i hi b hb) (by simp))
 · have:w4.heap[mb]?=some (.cells ([S.vS,S.vF,S.vL,S.vP,I k.hand]++X).toArray tt (0,0)):=kD.keep h.head (fun x=>by have:=h.lF mb x;rw[h.lH] at this;simp at this);rw[B.set this 1 v'];simp
 · exact(kD.mono (fun b _ g=>by rw[h.lF b g];simp)).trans gD (fun b _ e=>by rw[e,h.lH];simp)
def OI (S:St) (v:Value):Nat->Lb:=fun b=>if v.ownBlock=some b then .slots else S.lab b
theorem Km.ada {w4:World} {v':Value} {fs:List KM.Sl} (h:Km lo mb tt X w S k) (hgr:w.grownBy w4 S.vL.ownBlock) (hown:w4.ownsRow lo 86 2 v' fs.length (fs.flatMap bI)) (hat:v'.ownBlock=S.vL.ownBlock∨v'.ownBlock=some w.heap.size) :
  Km lo mb tt X (w4.setCell (Ad mb 2) v') ⟨OI S v',S.vS,S.vF,v',S.vP,S.L⟩ { k with slots:=fs }/\Kp (fun b=>S.lab b≠.no) w (w4.setCell (Ad mb 2) v'):=by
 have s2:=hgr.size;have kD:Kp (blk S.vL) w w4:=Kp.grown hgr (fun _ e=>e);have gD:Kp (fun b=>b=mb) w4 (w4.setCell (Ad mb 2) v'):=Kp.set _ _ _ _ rfl;have hvb:∀b,blk S.vL b->b<w.heap.size:=fun b hb=>(h.slots.lt b hb).2
 have hv4:∀b,blk v' b->blk S.vL b∨b=w.heap.size:=fun b hb=>by
  unfold blk at hb ⊢;rcases hat with e | e
  · exact .inl (by rw[<- e];exact hb)
  · right;rw[e] at hb;injection hb with hb;exact hb.symm
 have hmb:=B.isLt h.head;have old:∀b c,S.lab b=c->c≠.no->c≠.slots->OI S v' b=c:=fun b c e h1 h2=>by
  have hb:=(h.iJ b (by rw[e];exact h1)).2;unfold OI;rw[if_neg,e];intro x;rcases hv4 b x with g | g
  · exact h2 (by rw[<- e];exact h.lL b g)
  · omega
 have zD:∀{b:Nat} {c:Lb},S.lab b=c->c≠.slots->¬blk S.vL b:=fun e hc x=>hc (by rw[<- e];exact h.lL _ x)
 have zH:∀{b:Nat} {c:Lb},S.lab b=c->c≠.head->¬b=mb:=fun e hc x=>hc (by rw[<- e,x];exact h.lH)
 have row:∀{e:TypeId} {n m:Nat} {v:Value} {xs:List Value},w.ownsRow lo e n v m xs->(∀b,blk v b->¬blk S.vL b/\¬b=mb)->(w4.setCell (Ad mb 2) v').ownsRow lo e n v m xs:=fun hr hq=>gD.row (kD.row hr (fun b hb=>(hq b hb).1)) (fun b hb=>(hq b hb).2)
 refine⟨⟨⟨fun b hb=>?_,row h.ak (fun b hb=>⟨zD (h.lS b hb) (by simp),zH (h.lS b hb) (by simp)⟩),fun i hi=>row (h.bg i hi) (fun b hb=>⟨zD (h.lX i hi b hb) (by simp),zH (h.lX i hi b hb) (by simp)⟩),row h.frames (fun b hb=>⟨zD (h.lF b hb) (by simp),zH (h.lF b hb) (by simp)⟩),?_,row h.aj (fun b hb=>⟨zD (h.lP b hb) (by simp),zH (h.lP b hb) (by simp)⟩),h.len,fun i hi=>?_,fun b hb=>old b _ (h.lS b hb) (by simp) (by simp),fun i hi b hb=>old b _ (h.lX i hi b hb) (by simp) (by simp),fun b hb=>old b _ (h.lF b hb) (by simp) (by simp),fun b hb=>if_pos hb,fun b hb=>old b _ (h.lP b hb) (by simp) (by simp),fun i hi b hb=>old b _ (h.lA i hi b hb) (by simp) (by simp),fun i hi b hb=>old b _ (h.lE i hi b hb) (by simp) (by simp)⟩,?_,old mb _ h.lH (by simp) (by simp)⟩,?_⟩
 · have hb:OI S v' b≠.no:=hb;have hs4:(w4.setCell (Ad mb 2) v').heap.size=w4.heap.size:=by simp
   rw[hs4];unfold OI at hb;by_cases c:v'.ownBlock=some b
   · exact hown.lt b c
   · rw[if_neg c] at hb;have:=h.iJ b hb;omega
 · exact gD.row hown (fun b hb e=>by
    rcases hv4 b hb with g | g
    · exact zH (h.lL b g) (by simp) e
    · omega)
 · exact((h.each i hi).kp kD (fun b hb=>zD (h.lA i hi b hb) (by simp)) (fun b hb=>zD (h.lE i hi b hb) (by simp))).kp gD (fun b hb=>zH (h.lA i hi b hb) (by simp)) (fun b hb=>zH (h.lE i hi b hb) (by simp))
 · have:w4.heap[mb]?=some (.cells ([S.vS,S.vF,S.vL,S.vP,I k.hand]++X).toArray tt (0,0)):=kD.keep h.head (fun x=>by have:=h.lL mb x;rw[h.lH] at this;simp at this);rw[B.set this 2 v'];simp
 · exact(kD.mono (fun b _ g=>by rw[h.lL b g];simp)).trans gD (fun b _ e=>by rw[e,h.lH];simp)
end KO
namespace KY
open Go.RowKit GK KO
open FW (ai aD)
open KW (bJ bI aK aZ fh cK aI dA bU)
open KS (Lc bw kM cD blk cJ)
structure Small (k:KM.Kn):Prop where
 ak:k.ak.length<=1000000
 bg:∀i,i<k.ak.length->(LM.aY k.ak i).bg.length<=1000000
 frames:k.frames.length<=1000000
 slots:k.slots.length<=1000000
 aj:k.aj.length<=1000000
 aB:∀i,i<k.aj.length->(KM.au k.aj i).aB.length<=1000000
 aA:∀i,i<k.aj.length->(KM.au k.aj i).aA.length<=1000000
def vh (w:World) (k:KM.Kn) (e:Ending) (w':World):Prop:=∃S hs,KM.Same k.ak hs/\e=.returned (.agg #[S.vS,S.vF,S.vL,S.vP,I k.hand])/\Kr w.heap.size w' S (KM.aT k hs)/\Below w.heap.size w w'
end KY
namespace GZ
open Go.RowKit
section
variable {P:Program} {ops:Array Oper} {Q:Exit->Act->World->Prop} {md:Region.Mode} {S:World->Prop} {z:Nat}
def Ko (P:Program) (md:Region.Mode) (ops:Array Oper) (Q:Exit->Act->World->Prop) (S:World->Prop) (z:Nat):Nat->Array Bool->Act->World->Prop
 | 0,l,a,w=>Region.ready md ops l=[]/\Q .normal a w
 | n+1,l,a,w=>(Region.ready md ops l=[]->Q .normal a w)/\∀i∈Region.ready md ops l,wpOp P ops Q i (fun a' w'=>(i≠z->S w')/\Ko P md ops Q S z n (l.setIfInBounds i true) a' w') a w
theorem NA:∀(n:Nat) (l:Array Bool) (a:Act) (w:World),Ko P md ops Q S z n l a w->wpAny P md ops Q n l a w
 | 0,_,_,_,h=>h
 | n+1,_,_,_,h=>⟨h.1,fun i hi=>wpOp_mono (fun a' w' g=>NA n _ a' w' g.2) (h.2 i hi)⟩
theorem Nw {l:Array Bool} {i:Nat} (h:l.getD i true=false):l.getD i false=false:=by
 rcases Nat.lt_or_ge i l.size with g | g
 · simp[g] at h ⊢;exact h
 · simp[Array.getElem?_eq_none g] at h
theorem first {i:Nat} {oi:Oper} {v:Value} (hi:ops[i]?=some oi) (Zv:∀(j:Nat) (o:Oper) cs b,ops[j]?=some o->o.op≠.select cs b)
  (hQ:∀c a w,Q (.panic c) (a.put oi.dst v) w->Q (.panic c) a w) (hz:∀oz,ops[z]?=some oz->∃e∈oz.after,Region.binds md e=true/\e.on=i) :
  ∀(n:Nat) (l:Array Bool) (a:Act) (w:World),(∀j oj,ops[j]?=some oj->j≠i->l.getD j true=false->(∀e∈oj.after,Region.binds md e=true->e.on≠i)->oi.apart ops oj=true) ->
   i∈Region.ready md ops l->YieldsIf P ops S oi v a->S w->Ko P md ops Q S z n (l.setIfInBounds i true) (a.put oi.dst v) w->Ko P md ops Q S z (n+1) l a w:=by
 intro n;induction n with
 | zero =>
  intro l a w _ hr hy hS H;refine⟨fun g=>absurd hr (by rw[g];exact List.not_mem_nil),fun j hj=>?_⟩;by_cases c:j=i
  · subst c;exact hy.wpOp hi hS ⟨fun _=>hS,H⟩
  · have g:=ready_mono hj c;rw[H.1] at g;exact absurd g List.not_mem_nil
 | succ n ih =>
  intro l a w hf hr hy hS H;refine⟨fun g=>absurd hr (by rw[g];exact List.not_mem_nil),fun j hj=>?_⟩;by_cases c:j=i
  · subst c;exact hy.wpOp hi hS ⟨fun _=>hS,H⟩
  · obtain⟨hu,oj,hoj,hall⟩:=mem_ready.1 hj;have hiu:=Nw (mem_ready.1 hr).1;have hno:∀e∈oj.after,Region.binds md e=true->e.on≠i:=fun e he hb g=>by
     have:=hall e he hb;rw[g,hiu] at this;cases this
    have hjz:j≠z:=fun g=>by
     subst g;obtain⟨e,he,hb,ho⟩:=hz oj hoj;exact hno e he hb ho
    have h2:=wpOp_putIf hoj (hf j oj hoj c hu hno) (fun cs b=>Zv i oi cs b hi) (fun cs b=>Zv j oj cs b hoj) hQ hy (H.2 j (ready_mono hj c));refine wpOp_mono (fun a' w' g=>⟨g.2.1,ih (l.setIfInBounds j true) a' w' (fun k ok hk wj hun hn=>hf k ok hk wj ?_ hn) (ready_mono hr (Ne.symm c)) g.1 (g.2.1 hjz) ?_⟩) h2
    · by_cases d:j=k
      · subst d;exact hu
      · rw[getD_set_ne true d] at hun;exact hun
    · rw[Array.setIfInBounds_comm _ _ c];exact g.2.2
def waits (md:Region.Mode) (ops:Array Oper) (z i:Nat):Bool:=match ops[z]? with
 | none=>false
 | some o=>o.after.any (fun e=>Region.binds md e&&e.on==i)
theorem Gu {i:Nat} (h:waits md ops z i=true):∀oz,ops[z]?=some oz->∃e∈oz.after,Region.binds md e=true/\e.on=i:=fun oz ho=>by
 unfold waits at h;rw[ho] at h;simp only[Array.any_eq_true'] at h;obtain⟨e,he,h1⟩:=h;simp only[Bool.and_eq_true,beq_iff_eq] at h1;exact⟨e,he,h1.1,h1.2⟩
theorem take {i:Nat} {oi:Oper} {v:Value} {n:Nat} {l:Array Bool} {a:Act} {w:World} (hi:ops[i]?=some oi)
  (hs:Region.noSelect ops=true) (hf:Region.free md ops l i=true) (hr:(Region.ready md ops l).contains i=true) (hw:waits md ops z i=true)
  (hQ:∀c a w,Q (.panic c) (a.put oi.dst v) w->Q (.panic c) a w) (hy:YieldsIf P ops S oi v a) (hS:S w)
  (h:Ko P md ops Q S z n (l.setIfInBounds i true) (a.put oi.dst v) w):Ko P md ops Q S z (n+1) l a w :=
 first hi (Region.noSelect_spec hs) hQ (Gu hw) n l a w (Region.free_spec hi hf) (by simpa using hr) hy hS h
theorem tk (i:Nat) {oi:Oper} {n:Nat} {l:Array Bool} {a:Act} {w:World} (hS:S w) (v:Value) (hy:∀V,S V->(execOp a.eval oi).run P V=.ok (.value v) V)
  (h:Ko P md ops Q S z n (l.setIfInBounds i true) (a.put oi.dst v) w) (hi:ops[i]?=some oi:=by rfl) (hs:Region.noSelect ops=true:=by kernel_rfl) (hf:Region.free md ops l i=true:=by kernel_rfl) (hr:(Region.ready md ops l).contains i=true:=by kernel_rfl) (hw:waits md ops z i=true:=by kernel_rfl)
  (hwt:Region.wanted oi (yielded ops a.tmps)=true:=by rfl) (hQ:∀c a w,Q (.panic c) (a.put oi.dst v) w->Q (.panic c) a w:=by exact fun _ _ _ h=>h):Ko P md ops Q S z (n+1) l a w :=
 take hi hs hf hr hw hQ (Or.inl ⟨hwt,hy⟩) hS h
def bl (P:Program) (md:Region.Mode) (ops:Array Oper) (Q:Exit->Act->World->Prop) (S:World->Prop) (z n:Nat) (l:Array Bool) (a:Act) (w:World) (rs:List Nat):Prop:=∀i∈rs,wpOp P ops Q i (fun a' w'=>(i≠z->S w')/\Ko P md ops Q S z n (l.setIfInBounds i true) a' w') a w
theorem bl.nil {n:Nat} {l:Array Bool} {a:Act} {w:World}:bl P md ops Q S z n l a w []:=fun _ h=>absurd h List.not_mem_nil
theorem bl.cons {n:Nat} {l:Array Bool} {a:Act} {w:World} {i:Nat} {o:Oper} {rs:List Nat} (ho:ops[i]?=some o)
  (h:∀K':Act->World->Prop,Shut (∀a w,(i≠z->S w)->Ko P md ops Q S z n (l.setIfInBounds i true) a w->K' a w)->if Region.wanted o (yielded ops a.tmps)=true then Oper.wp P o a w K' Q else K' (a.put o.dst undef) w)
  (hs:bl P md ops Q S z n l a w rs):bl P md ops Q S z n l a w (i::rs):=fun j hj=>by
 rcases List.mem_cons.1 hj with g | g
 · subst g;exact wpOp_step ho (fun K' hK=>h K' (fun a w h1 h2=>hK a w ⟨h1,h2⟩))
 · exact hs j g
theorem all {rs:List Nat} {n:Nat} {l:Array Bool} {a:Act} {w:World} (hr:Region.ready md ops l=rs) (hne:rs≠[]) (h:bl P md ops Q S z n l a w rs):Ko P md ops Q S z (n+1) l a w:=⟨fun g=>absurd (hr ▸ g) hne,hr ▸ h⟩
theorem done {l:Array Bool} {a:Act} {w:World} (hr:Region.ready md ops l=[]) (h:Q .normal a w):∀n,Ko P md ops Q S z n l a w
 | 0=>⟨hr,h⟩
 | _+1=>⟨fun _=>h,by rw[hr];exact fun _ g=>absurd g List.not_mem_nil⟩
theorem sW {id:Nat} {a:Act} {w:World} (hm:P.follows .mixedOrders=true) (h:Ko P .any ops Q S z ops.size (Array.replicate ops.size false) a w.drew):(Code.region id ops true).wp P Q a w:=wp_region_any hm (NA _ _ _ _ h)
end
end GZ
end Go.Proofs.YtpgifpeohlllfaaGreat
