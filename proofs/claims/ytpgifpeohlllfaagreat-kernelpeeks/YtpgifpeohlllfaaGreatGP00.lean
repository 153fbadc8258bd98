import Derived.WalkKit
import Derived.Below
import Derived.Lib.Strings
import Derived.Lib.Endian
import Derived.Lib.EndianBits
import Derived.Laws.BytesArg
import Derived.Lib.UnsafeStr
import Derived.Lib.Walk
import Derived.Lib.BufferWrite
import Derived.Laws.IdiomStrings
import Derived.OwnWalk
set_option maxHeartbeats 20000000
set_option linter.unusedVariables false
set_option maxRecDepth 100000
set_option linter.unusedSimpArgs false
namespace Go.Proofs.YtpgifpeohlllfaaGreat
abbrev I (n : Int) : Value := .int .i64 n
abbrev Nl : Value := .slice none 0 0
abbrev Ad (b o : Nat) : Addr := ⟨b, o, none⟩
theorem ex {A : Type} (e : A) : ∃ n, n = e := ⟨e, rfl⟩
theorem _root_.Go.RowKit.Hid.o {p : Prop} (h : Go.RowKit.Hid p) : p := h.out
namespace M
open Go.RowKit
structure Sg where
 page:Int
 aB:Int
 data:ByteArray
 wr:Bool
 ex:Bool
structure Sy where
 name:ByteArray
 pos:Int
structure Rl where
 pos:Int
 name:ByteArray
 add:Int
structure Im where
 name:ByteArray
 needs:List ByteArray
 cU:List Sg
 syms:List Sy
 fu:List Rl
 entry:Int
def nil:ByteArray:=⟨#[]⟩
def NJ:Sg:=⟨0,0,nil,false,false⟩
def sy0:Sy:=⟨nil,0⟩
def rl0:Rl:=⟨0,nil,0⟩
def ki (l:List ByteArray) (i:Nat):ByteArray:=l.getD i nil
def dn (l:List Sg) (i:Nat):Sg:=l.getD i NJ
def Ov (l:List Sy) (i:Nat):Sy:=l.getD i sy0
def pT (l:List Rl) (i:Nat):Rl:=l.getD i rl0
theorem all_true {α:Type} (p:α->Bool) (d:α):∀l:List α,(∀i,i<l.length->p (l.getD i d)=true)->l.all p=true
 | [],_=>rfl
 | a::r,h=>by
  have h0:p a=true:=h 0 (by simp)
  have hr:=all_true p d r (fun i hi=>h (i+1) (by simpa using hi))
  simp[h0,hr]
theorem xP {α:Type} (p:α->Bool) (d:α):∀(l:List α) (i:Nat),i<l.length->l.all p=true->p (l.getD i d)=true
 | a::r,0,_,h=>by simp at h;simpa using h.1
 | a::r,i+1,hi,h=>by
  simp at h
  have:=xP p d r i (by simpa using hi) (by simpa using h.2)
  simpa using this
theorem all_false {α:Type} (p:α->Bool) (d:α) (l:List α) (i:Nat) (hi:i<l.length) (h:p (l.getD i d)=false):l.all p=false:=by
 cases e:l.all p
 · rfl
 · rw[xP p d l i hi e] at h;cases h
def oa (n:Int):Bool:=decide (97<=n/\n<=122) || (decide (48<=n/\n<=57) || decide (n=95))
def oc (s:ByteArray):Bool:=decide (1<=s.size/\s.size<=12)&&s.data.toList.all (fun c=>oa c.toNat)
theorem Gz (s:ByteArray) (k:Nat) (h:k<s.size):s.data.toList.getD k 0=s[k]:=by
 have h':k<s.data.toList.length:=by rw[<- Lib.size_eq];exact h
 rw[List.getD_eq_getElem?_getD,List.getElem?_eq_getElem h']
 rfl
theorem Lx (s:ByteArray) (h1:1<=s.size) (h2:s.size<=12) (h:∀k (hk:k<s.size),oa s[k].toNat=true):oc s=true:=by
 unfold oc
 rw[decide_eq_true ⟨h1,h2⟩,Bool.true_and]
 refine all_true _ 0 _ (fun i hi=>?_)
 have hi':i<s.size:=by rw[Lib.size_eq];exact hi
 rw[Gz s i hi']
 exact h i hi'
theorem OU (s:ByteArray) (k:Nat) (hk:k<s.size) (h:oa s[k].toNat=false):oc s=false:=by
 unfold oc
 rw[all_false _ 0 s.data.toList k (by rw[<- Lib.size_eq];exact hk) (by rw[Gz s k hk];exact h),Bool.and_false]
theorem CH (s:ByteArray) (h:¬(1<=s.size/\s.size<=12)):oc s=false:=by
 unfold oc
 rw[decide_eq_false h,Bool.false_and]
def K9 (r:Rl):Bool:=decide (r.name.size=0) || oc r.name
def Sm (i:Im):Bool:=oc i.name&&(i.needs.all oc&&(i.syms.all (fun y=>oc y.name)&&i.fu.all K9))
def pN (i:Im):Bool:=decide (1<=i.cU.length/\i.cU.length<=6/\i.needs.length<=4/\i.syms.length<=12/\i.fu.length<=16)
def fB (s:Sg):Bool:=decide (0<=s.page/\1<=s.aB/\s.page+s.aB<=255/\(s.data.size:Int)<=s.aB*16)
def Ah (i:Im):Bool:=i.cU.all fB
def Ll (l:List Sg) (k:Nat):Bool:=k==0 || decide ((dn l (k-1)).page+(dn l (k-1)).aB<=(dn l k).page)
def lu (l:List Sg):Nat->Bool
 | 0=>true
 | k+1=>lu l k&&Ll l k
def tL (l:List Sg):Bool:=lu l l.length
def iU (l:List ByteArray):Nat->Bool
 | 0=>true
 | k+1=>iU l k&&!(l.take k).contains (ki l k)
def oQ (l:List ByteArray):Bool:=iU l l.length
def RT (i:Im):Bool:=tL i.cU&&(oQ i.needs&&oQ (i.syms.map (·.name)))
def mr (s:Sg) (a:Int):Bool:=decide (s.page*16<=a/\a<(s.page+s.aB)*16)
def lj:List Sg->Int->Option Sg
 | [],_=>none
 | s::r,a=>if mr s a then some s else lj r a
def dM (l:List Sg) (a:Int):Bool:=(lj l a).isSome
def Ku (l:List Sg) (a:Int):Bool:=dM l a&&(dM l (a+1)&&(dM l (a+2)&&(dM l (a+3)&&(dM l (a+4)&&(dM l (a+5)&&(dM l (a+6)&&dM l (a+7)))))))
def Gp (i:Im) (k:Nat):Bool:=(k==0 || decide ((pT i.fu (k-1)).pos+8<=(pT i.fu k).pos))&&Ku i.cU (pT i.fu k).pos
def Ae (i:Im):Nat->Bool
 | 0=>true
 | k+1=>Ae i k&&Gp i k
def tF (i:Im):Bool:=match lj i.cU i.entry with
 | some s=>s.ex&&decide (i.entry%8=0)
 | none=>false
def vv (i:Im):Bool:=i.syms.all (fun y=>dM i.cU y.pos)&&(Ae i i.fu.length&&tF i)
def jB (i:Im):Int:=if !Sm i then 4 else if !pN i then 2 else if !Ah i then 3 else if !RT i then 5 else if !vv i then 6 else 0
def Ni (w:World) (b off:Nat) (l:List ByteArray):Prop:=∀i,i<l.length->w.cell? (Ad b (off+i))=some (.string (ki l i))
def xQ (w:World) (b off:Nat) (l:List Sg):Prop:=∀i,i<l.length ->
 w.cell? (Ad b (off+i*5))=some (I (dn l i).page)/\w.cell? (Ad b (off+i*5+1))=some (I (dn l i).aB) /\
 w.cell? (Ad b (off+i*5+2))=some (.string (dn l i).data)/\w.cell? (Ad b (off+i*5+3))=some (.bool (dn l i).wr)/\w.cell? (Ad b (off+i*5+4))=some (.bool (dn l i).ex)
def Qn (w:World) (b off:Nat) (l:List Sy):Prop:=∀i,i<l.length ->
 w.cell? (Ad b (off+i*2))=some (.string (Ov l i).name)/\w.cell? (Ad b (off+i*2+1))=some (I (Ov l i).pos)
def Qo (w:World) (b off:Nat) (l:List Rl):Prop:=∀i,i<l.length ->
 w.cell? (Ad b (off+i*3))=some (I (pT l i).pos)/\w.cell? (Ad b (off+i*3+1))=some (.string (pT l i).name)/\w.cell? (Ad b (off+i*3+2))=some (I (pT l i).add)
def fR (n:Int):Prop:=-9223372036854775808<=n/\n<=9223372036854775807
def br (n:Nat):Prop:=n<=140737488351232
def Xr (s:Sg):Prop:=fR s.page/\fR s.aB/\br s.data.size
def abu (s:Sy):Prop:=br s.name.size/\fR s.pos
def abv (s:Rl):Prop:=fR s.pos/\br s.name.size/\fR s.add
structure Fit (i:Im):Prop where
 name:br i.name.size
 needs:br i.needs.length
 need:∀k,k<i.needs.length->br (ki i.needs k).size
 cU:br i.cU.length
 seg:∀k,k<i.cU.length->Xr (dn i.cU k)
 syms:br i.syms.length
 sym:∀k,k<i.syms.length->abu (Ov i.syms k)
 fu:br i.fu.length
 rel:∀k,k<i.fu.length->abv (pT i.fu k)
 entry:fR i.entry
def eB {α:Type} (lie:World->Nat->Nat->List α->Prop) (w:World) (ao:Option Addr) (l:List α):Prop:=0<l.length->∃b off,ao=some (Ad b off)/\b<w.heap.size/\lie w b off l
structure At where
 an:Option Addr
 cn:Nat
 ag:Option Addr
 cg:Nat
 ay:Option Addr
 cy:Nat
 ar:Option Addr
 cr:Nat
structure mK (w:World) (a:At) (i:Im):Prop where
 needs:eB Ni w a.an i.needs
 cU:eB xQ w a.ag i.cU
 syms:eB Qn w a.ay i.syms
 fu:eB Qo w a.ar i.fu
def eO (a:At) (i:Im):Array Value:=#[.string i.name,.slice a.an i.needs.length a.cn,.slice a.ag i.cU.length a.cg,.slice a.ay i.syms.length a.cy,.slice a.ar i.fu.length a.cr,I i.entry]
theorem aX {w w':World} (hb:Below w.heap.size w w') {b o:Nat} (h:b<w.heap.size):w'.cell? (Ad b o)=w.cell? (Ad b o):=hb.cell (p:=(Ad b o)) h
theorem eB.below {α:Type} {lie:World->Nat->Nat->List α->Prop} (bC:∀{w w':World} {b off:Nat} {l:List α},Below w.heap.size w w'->b<w.heap.size->lie w b off l->lie w' b off l)
  {w w':World} {ao:Option Addr} {l:List α} (h:eB lie w ao l) (hb:Below w.heap.size w w'):eB lie w' ao l:=fun hl=>by
 obtain⟨b,off,e,hlt,hh⟩:=h hl
 exact⟨b,off,e,Nat.lt_of_lt_of_le hlt hb.size,bC hb hlt hh⟩
theorem UO {w w':World} {b off:Nat} {l:List ByteArray} (hb:Below w.heap.size w w') (hlt:b<w.heap.size) (h:Ni w b off l):Ni w' b off l:=fun i hi=>(aX hb hlt).trans (h i hi)
theorem wV {w w':World} {b off:Nat} {l:List Sg} (hb:Below w.heap.size w w') (hlt:b<w.heap.size) (h:xQ w b off l):xQ w' b off l:=fun i hi=>by
 obtain⟨c0,c1,c2,c3,c4⟩:=h i hi
 exact⟨(aX hb hlt).trans c0,(aX hb hlt).trans c1,(aX hb hlt).trans c2,(aX hb hlt).trans c3,(aX hb hlt).trans c4⟩
theorem YU {w w':World} {b off:Nat} {l:List Sy} (hb:Below w.heap.size w w') (hlt:b<w.heap.size) (h:Qn w b off l):Qn w' b off l:=fun i hi=>by
 obtain⟨c0,c1⟩:=h i hi
 exact⟨(aX hb hlt).trans c0,(aX hb hlt).trans c1⟩
theorem YV {w w':World} {b off:Nat} {l:List Rl} (hb:Below w.heap.size w w') (hlt:b<w.heap.size) (h:Qo w b off l):Qo w' b off l:=fun i hi=>by
 obtain⟨c0,c1,c2⟩:=h i hi
 exact⟨(aX hb hlt).trans c0,(aX hb hlt).trans c1,(aX hb hlt).trans c2⟩
theorem mK.below {w w':World} {a:At} {i:Im} (h:mK w a i) (hb:Below w.heap.size w w'):mK w' a i :=
 ⟨eB.below (lie:=Ni) (fun hb hlt h=>UO hb hlt h) h.needs hb,eB.below (lie:=xQ) (fun hb hlt h=>wV hb hlt h) h.cU hb,eB.below (lie:=Qn) (fun hb hlt h=>YU hb hlt h) h.syms hb,eB.below (lie:=Qo) (fun hb hlt h=>YV hb hlt h) h.fu hb⟩
end M
namespace AM
open Go.RowKit
structure Ar where
 page:Int
 aB:Int
 bJ:Int
 zero:Bool
def Ar.dN (a:Ar):Int:=a.page+a.aB
def nil:Ar:=⟨0,0,0,false⟩
def at_ (l:List Ar) (i:Nat):Ar:=l.getD i nil
def dE (p n:Int):Bool:=decide (1<=p/\1<=n/\n<=256-p)
def iq (p:Int):Bool:=decide (0<=p/\p<=3)
def eT (a b:Ar):Bool:=if b.page=a.dN then (b.bJ != a.bJ || b.zero != a.zero) else decide (a.dN<b.page)
def zP (w:World) (b off:Nat) (l:List Ar):Prop:=∀i,i<l.length ->
 w.cell? (Ad b (off+i*4))=some (I (at_ l i).page)/\w.cell? (Ad b (off+i*4+1))=some (I (at_ l i).aB) /\
 w.cell? (Ad b (off+i*4+2))=some (I (at_ l i).bJ)/\w.cell? (Ad b (off+i*4+3))=some (.bool (at_ l i).zero)
def Fits (a:Ar):Prop:=(-9223372036854775808<=a.page/\a.page<=9223372036854775807)/\(-9223372036854775808<=a.aB/\a.aB<=9223372036854775807)/\(-9223372036854775808<=a.bJ/\a.bJ<=9223372036854775807)
def mL (l:List Ar) (i:Nat):Bool:=dE (at_ l i).page (at_ l i).aB&&iq (at_ l i).bJ&&(i==0 || eT (at_ l (i-1)) (at_ l i))
def fO (l:List Ar):Nat->Bool
 | 0=>true
 | k+1=>fO l k&&mL l k
def good (l:List Ar):Bool:=fO l l.length
def aO (l:List Ar):Int:=if 255<l.length then 2 else if good l then 0 else 1
theorem rX (l:List Ar):∀(k n:Nat),k<=n->fO l k=false->fO l n=false
 | k, 0, h, hk => by obtain rfl:k=0 := by omega
                     exact hk
 | k,n+1,h,hk=>by
  by_cases e:k=n+1
  · subst e;exact hk
  · simp[fO,rX l k n (by omega) hk]
theorem tC (l:List Ar):∀(n:Nat),fO l n=true->∀i,i<n->mL l i=true
 | 0,_,i,hi=>by omega
 | n+1,h,i,hi=>by
  simp only[fO,Bool.and_eq_true] at h
  by_cases e:i=n
  · subst e;exact h.2
  · exact tC l n h.1 i (by omega)
theorem zP.lt {w:World} {b off:Nat} {l:List Ar} (h:zP w b off l) (i:Nat) (hi:i<l.length):b<w.heap.size :=
 World.block_lt_of_cell? w _ (h i hi).1
theorem zP.below {w w':World} {b off:Nat} {l:List Ar} (h:zP w b off l) (hb:Below w.heap.size w w'):zP w' b off l:=fun i hi=>by
 have hlt:=h.lt i hi
 obtain⟨h0,h1,h2,h3⟩:=h i hi
 exact⟨(hb.cell (p:=(Ad b _)) hlt).trans h0,(hb.cell (p:=(Ad b _)) hlt).trans h1,(hb.cell (p:=(Ad b _)) hlt).trans h2,(hb.cell (p:=(Ad b _)) hlt).trans h3⟩
theorem FE (l:List Ar) (k:Nat) (hk:k<l.length) (h:mL l k=false):good l=false :=
 rX l (k+1) l.length (by omega) (by simp[fO,h])
theorem Gv (l:List Ar) (k:Nat) (h:fO l k=true) (h':mL l k=true):fO l (k+1)=true:=by simp[fO,h,h']
def hit (a:Ar) (p:Int):Bool:=decide (a.page<=p/\p<a.dN)
def aN:List Ar->Int->Ar×Bool
 | [],_=>(nil,false)
 | a::r,p=>if hit a p then (a,true) else aN r p
def aK (l:List Ar) (p:Int):Ar×Bool:=if aO l=0 then aN l p else (nil,false)
def sumTo (l:List Ar):Nat->Int
 | 0=>0
 | k+1=>sumTo l k+(at_ l k).aB
def cD (l:List Ar):Int:=if aO l=0 then sumTo l l.length else 0
theorem iH:∀(l:List Ar) (p:Int),(∀i,i<l.length->hit (at_ l i) p=false)->aN l p=(nil,false)
 | [],_,_=>rfl
 | a::r,p,h=>by
  have h0:hit a p=false:=h 0 (by simp)
  have hr:∀i,i<r.length->hit (at_ r i) p=false:=fun i hi=>h (i+1) (by simpa using hi)
  simp[aN,h0,iH r p hr]
theorem jd:∀(l:List Ar) (p:Int) (k:Nat),k<l.length->(∀i,i<k->hit (at_ l i) p=false)->hit (at_ l k) p=true->aN l p=(at_ l k,true)
 | [],_,k,hk,_,_=>by simp at hk
 | a::r,p,0,hk,_,h1=>by
  have h0:hit a p=true:=h1
  simp[aN,h0,at_]
 | a::r,p,k+1,hk,h,h1=>by
  have h0:hit a p=false:=h 0 (by omega)
  have hr:=jd r p k (by simpa using hk) (fun i hi=>h (i+1) (by omega)) h1
  simp[aN,h0,hr,at_]
theorem cH (l:List Ar) (h:aO l=0) (i:Nat) (hi:i<l.length):mL l i=true:=by
 unfold aO at h
 split at h
 · simp at h
 · split at h
   · exact tC l l.length (by assumption) i hi
   · simp at h
theorem gm (l:List Ar) (h:aO l=0):l.length<=255:=by
 unfold aO at h
 split at h
 · simp at h
 · omega
theorem cM (l:List Ar) (i:Nat) (h:mL l i=true):1<=(at_ l i).page/\1<=(at_ l i).aB/\(at_ l i).aB<=256-(at_ l i).page/\0<=(at_ l i).bJ/\(at_ l i).bJ<=3:=by
 simp only[mL,Bool.and_eq_true,dE,iq,decide_eq_true_eq] at h
 exact⟨h.1.1.1,h.1.1.2.1,h.1.1.2.2,h.1.2.1,h.1.2.2⟩
theorem rp (l:List Ar) (h:aO l=0):∀k,k<=l.length->0<=sumTo l k/\sumTo l k<=255*k
 | 0,_=>by simp[sumTo]
 | k+1,hk=>by
  have ih:=rp l h k (by omega)
  have ho:=cM l k (cH l h k (by omega))
  simp only[sumTo]
  omega
end AM
namespace CM
open Go.RowKit
def shr (n:Int) (k:Nat):Int:=n/256 ^ k
def low (n:Int):Nat:=(n%18446744073709551616).toNat
theorem KP (n:Int):shr n 0=n:=by simp[shr]
theorem KQ (n:Int) (k:Nat):shr n k/256=shr n (k+1):=by
 simp only[shr,Int.pow_succ]
 rw[Int.ediv_ediv_of_nonneg (Int.pow_nonneg (by decide))]
theorem rO:∀(k v:Nat),Lib.leBytes (k+1) v=Lib.leBytes k v++[(v/256 ^ k%256).toUInt8]
 | 0,v=>by simp[Lib.leBytes]
 | k+1,v=>by
  rw[Lib.leBytes,rO k (v/256)]
  simp only[Lib.leBytes,List.cons_append]
  rw[Nat.div_div_eq_div_mul,<- Nat.pow_succ']
theorem KT (n:Int) (k:Nat) (h:k<8):shr n k%256=((low n/256 ^ k%256:Nat):Int):=by
 unfold shr low
 match k,h with
 | 0,_=>simp;omega
 | 1,_=>omega
 | 2,_=>omega
 | 3,_=>omega
 | 4,_=>omega
 | 5,_=>omega
 | 6,_=>omega
 | 7,_=>omega
theorem vN (n:Int) (k:Nat) (h:k<8):strOfNums [shr n k%256]=⟨#[(low n/256 ^ k%256).toUInt8]⟩:=by
 rw[KT n k h]
 simp[strOfNums]
 rfl
theorem IE (a b:List UInt8):(⟨a.toArray⟩:ByteArray)++⟨b.toArray⟩=⟨(a++b).toArray⟩:=ByteArray.mk_append_mk a b
theorem n9 (l:List UInt8):strOfNums (l.map fun b=>(b.toNat:Int))=⟨l.toArray⟩:=by
 simp only[strOfNums,List.map_map]
 congr 1
 congr 1
 induction l with
 | nil=>rfl
 | cons b r ih=>simp[ih]
theorem yB (l:List UInt8) (i:Nat) (h:i<l.length):(Lib.byteCells l)[i]?=some (.int .u8 ((l.map fun b=>(b.toNat:Int)).getD i 0)):=by
 simp[Lib.byteCells,h]
theorem bounds (n:Int) (h:(Lit.int .i64 n).wf=true):-9223372036854775808<=n/\n<=9223372036854775807:=by
 simp only[Lit.wf,IntKind.min,IntKind.max,IntKind.signed,IntKind.bits,Bool.and_eq_true,decide_eq_true_eq,if_true] at h
 omega
end CM
namespace CL
open Go.RowKit Go.Lib
theorem mg (P:Program) (g o:Nat) (t:TypeId) (m1 m2:Nat):∀(vs:List Value) (i:Nat) (cur:Array Value) (w:World),w.heap[g]?=some (.cells cur t (m1,m2))->cur.size<=m1->o+i+vs.length<=cur.size->(∀v∈vs,v.oneCell'=true) ->
  (storeCells (Ad g o) vs i).run P w=.ok () (w.setRow g (cur.toList.take (o+i)++vs++cur.toList.drop (o+i+vs.length)).toArray)
 | [],i,cur,w,hg,_,_,_=>by
  simp only[storeCells,List.append_nil,List.length_nil,Nat.add_zero,List.take_append_drop,Array.toArray_toList]
  rw[setRow_self w g cur t (m1,m2) hg]
  rfl
 | v::rest,i,cur,w,hg,hm,hl,h1=>by
  have hi:o+i<cur.size:=by simp at hl;omega
  have hadd:((Ad g o):Addr).add i=(Ad g (o+i)):=by unfold Addr.add;split <;> simp_all
  have hcell:w.cell? (Ad g (o+i))=some cur[o+i]:=by simp[World.cell?,hg,hi]
  have hfro:w.frozen? (Ad g (o+i))=false:=by simp[World.frozen?,hg];omega
  have hst:(store (((Ad g o):Addr).add i) v).run P w=.ok () (w.setRow g (cur.setIfInBounds (o+i) v)):=by
   rw[hadd,run_store P w _ v _ (h1 v (by simp)),hcell]
   simp[hfro,setCell_eq_setRow w g (o+i) cur t (m1,m2) v hg]
  have ih:=mg P g o t m1 m2 rest (i+1) (cur.setIfInBounds (o+i) v) (w.setRow g (cur.setIfInBounds (o+i) v)) (setRow_heap w g cur _ t _ hg) (by simpa using hm) (by simp at hl ⊢;omega) (fun x hx=>h1 x (by simp[hx]))
  simp only[storeCells,Sem.run_bind,hst,Result.andThen_ok,ih,setRow_setRow]
  congr 3
  have e:=list_seg_step cur.toList (o+i) v rest (by simp at hl ⊢;omega)
  simpa [Array.toList_setIfInBounds,Nat.add_assoc] using e
theorem Dl {P:Program} (w:World) (dT sT ty elem:TypeId) (g o dLen dCap:Nat) (s:ByteArray) (cur:Array Value) (t:TypeId) (m1 m2:Nat)
  (hu:P.underlying dT=some (.slice elem)) (hs:(P.info? elem).map (·.size)=some 1) (hg:w.heap[g]?=some (.cells cur t (m1,m2))) (hm:cur.size<=m1) (hle:s.size<=dLen) (hfit:o+s.size<=cur.size) :
  (Builtin.copy_ #[dT,sT] ty #[.slice (some (Ad g o)) dLen dCap,.string s]).run P w =
   .ok (goInt s.size) (w.setRow g (cur.toList.take o++Lib.byteCells s.data.toList++cur.toList.drop (o+s.size)).toArray):=by
 have hlen:(Lib.byteCells s.data.toList).length=s.size:=by rw[Lib.byteCells_length,<- size_eq]
 have hst:=mg P g o t m1 m2 (Lib.byteCells s.data.toList) 0 cur w hg hm (by rw[hlen];simpa using hfit) (Lib.byteCells_one _)
 have hmin:Nat.min s.size dLen=s.size:=Nat.min_eq_left hle
 have htk:List.take s.size (List.map (fun b:UInt8=>Value.int IntKind.u8 (b.toNat:Int)) s.data.toList)=Lib.byteCells s.data.toList:=by
  rw[List.take_of_length_le (by rw[List.length_map,<- size_eq];exact Nat.le_refl _)]
  rfl
 rw[hlen] at hst
 simp only[Nat.add_zero] at hst
 cases hq:P.info? elem with
 | none=>simp[hq] at hs
 | some i =>
  simp[Builtin.copy_,run_underlying hu,Builtin.lenOf,Builtin.firstCells,sizeOf,typeInfo,hq,hmin]
  rw[htk,hst]
  simp[Result.andThen]
theorem yA (s:ByteArray) (c:Nat):(bytesRow s c).size=s.size+(c-s.size):=by
 simp[bytesRow]
def over (s:ByteArray) (o:Nat) (t:ByteArray):ByteArray:=⟨(s.data.toList.take o++t.data.toList++s.data.toList.drop (o+t.size)).toArray⟩
theorem EC (s:ByteArray) (o:Nat) (t:ByteArray) (c:Nat) (h:o+t.size<=s.size) (i:Nat) (hi:i<s.size) :
  ((bytesRow s c).toList.take o++Lib.byteCells t.data.toList++(bytesRow s c).toList.drop (o+t.size))[i]?=some (.int .u8 (((over s o t).data.toList.map fun b=>(b.toNat:Int)).getD i 0)):=by
 have hts:t.size=t.data.toList.length:=size_eq t
 have hss:s.size=s.data.toList.length:=size_eq s
 have hr:(bytesRow s c).toList=Lib.byteCells s.data.toList++List.replicate (c-s.size) (.int .u8 0):=by
  simp[bytesRow,Lib.byteCells]
 have e:(bytesRow s c).toList.take o++Lib.byteCells t.data.toList++(bytesRow s c).toList.drop (o+t.size)=Lib.byteCells (over s o t).data.toList++List.replicate (c-s.size) (.int .u8 0):=by
  rw[hr,List.take_append_of_le_length (by rw[Lib.byteCells_length];omega),List.drop_append_of_le_length (by rw[Lib.byteCells_length];omega)]
  simp[over,Lib.byteCells,List.map_append,List.map_take,List.map_drop]
 have hol:(over s o t).data.toList.length=s.size:=by
  simp only[over,List.length_append,List.length_take,List.length_drop];omega
 rw[e,List.getElem?_append_left (by rw[Lib.byteCells_length,hol];exact hi)]
 exact CM.yB _ i (by rw[hol];exact hi)
theorem nb (s:ByteArray) (o:Nat) (t:ByteArray) (h:o+t.size<=s.size):(over s o t).data.toList.length=s.size:=by
 have hts:t.size=t.data.toList.length:=size_eq t
 have hss:s.size=s.data.toList.length:=size_eq s
 simp only[over,List.length_append,List.length_take,List.length_drop];omega
theorem EA (s:ByteArray) (o:Nat) (t:ByteArray):s.extract 0 o++t++s.extract (o+t.size) s.size=over s o t:=by
 have hss:s.size=s.data.toList.length:=size_eq s
 apply ByteArray.ext
 apply Array.toList_inj.1
 simp only[ByteArray.data_append,Array.toList_append,extract_data,over]
 have e:List.take (s.size-(o+t.size)) (List.drop (o+t.size) s.data.toList)=List.drop (o+t.size) s.data.toList:=List.take_of_length_le (by rw[List.length_drop];omega)
 rw[List.drop_zero,Nat.sub_zero,e]
theorem Lh (s:ByteArray) (o:Nat) (t:ByteArray) (h:t.size=0):over s o t=s:=by
 have hts:t.data.toList=[]:=List.eq_nil_of_length_eq_zero (by rw[<- size_eq];exact h)
 apply ByteArray.ext
 simp[over,hts,h]
theorem Ez (s:ByteArray) (o:Nat) (t:ByteArray) (h:o+t.size<=s.size):(over s o t).size=s.size:=by
 rw[size_eq,nb s o t h]
end CL
namespace LM
open Go.RowKit
structure Fx where
 off:Int
 bytes:ByteArray
structure Sh where
 page:Int
 data:ByteArray
 bq:List Fx
 ao:Option Addr
 cap:Nat
def Wj:Fx:=⟨0,⟨#[]⟩⟩
def lM (l:List Fx) (i:Nat):Fx:=l.getD i Wj
def JV:Sh:=⟨0,⟨#[]⟩,[],none,0⟩
def aY (l:List Sh) (i:Nat):Sh:=l.getD i JV
def FQ (w:World) (b off:Nat) (l:List Fx):Prop:=∀i,i<l.length->w.cell? (Ad b (off+i*2))=some (I (lM l i).off)/\w.cell? (Ad b (off+i*2+1))=some (.string (lM l i).bytes)
theorem UR {w w':World} {b off:Nat} {l:List Fx} (hb:Below w.heap.size w w') (hlt:b<w.heap.size) (h:FQ w b off l):FQ w' b off l:=fun i hi=>by
 obtain⟨c0,c1⟩:=h i hi
 exact⟨(M.aX hb hlt).trans c0,(M.aX hb hlt).trans c1⟩
def ou (w:World) (ao:Option Addr) (l:List Fx):Prop:=M.eB FQ w ao l
theorem ou.below {w w':World} {ao:Option Addr} {l:List Fx} (h:ou w ao l) (hb:Below w.heap.size w w'):ou w' ao l:=M.eB.below (lie:=FQ) (fun hb hlt h=>UR hb hlt h) h hb
def T8 (f:Fx):Prop:=M.fR f.off/\M.br f.bytes.size
structure Bq (s:Sh):Prop where
 page:M.fR s.page
 data:M.br s.data.size
 bq:M.br s.bq.length
 fix:∀k,k<s.bq.length->T8 (lM s.bq k)
def kJ (s:Sh):Array Value:=#[I s.page,.string s.data,.slice s.ao s.bq.length s.cap]
def kN (l:List Fx):Nat->Int
 | 0=>0
 | k+1=>(lM l k).off+((lM l k).bytes.size:Int)
def A7 (e:Int) (f:Fx):Bool:=decide (e<=f.off/\f.off<=16/\1<=(f.bytes.size:Int)/\(f.bytes.size:Int)<=16-f.off)
def bU (l:List Fx):Nat->Bool
 | 0=>true
 | k+1=>bU l k&&A7 (kN l k) (lM l k)
def jc (s:Sh):Bool:=decide (1<=s.page/\s.page<=255/\s.data.size=16)
def bH (s:Sh):Bool:=jc s&&bU s.bq s.bq.length
def jr (d:ByteArray) (l:List Fx):Nat->ByteArray
 | 0=>d
 | k+1=>CL.over (jr d l k) (lM l k).off.toNat (lM l k).bytes
def lN (s:Sh):ByteArray:=jr s.data s.bq s.bq.length
def oh (s:Sh):ByteArray×Int:=if bH s then (lN s,0) else (⟨#[]⟩,1)
theorem j4 (l:List Fx):∀(k n:Nat),k<=n->bU l k=false->bU l n=false
 | k, 0, h, hk => by obtain rfl:k=0 := by omega
                     exact hk
 | k,n+1,h,hk=>by
  by_cases e:k=n+1
  · subst e;exact hk
  · simp[bU,j4 l k n (by omega) hk]
theorem kZ (l:List Fx) (k:Nat) (hk:k<l.length) (h:A7 (kN l k) (lM l k)=false):bU l l.length=false :=
 j4 l (k+1) l.length (by omega) (by simp[bU,h])
theorem qM (l:List Fx):∀(n:Nat),bU l n=true->∀i,i<n->A7 (kN l i) (lM l i)=true
 | 0,_,i,hi=>by omega
 | n+1,h,i,hi=>by
  simp only[bU,Bool.and_eq_true] at h
  by_cases e:i=n
  · subst e;exact h.2
  · exact qM l n h.1 i (by omega)
theorem nu (e:Int) (f:Fx):A7 e f=true↔(e<=f.off/\f.off<=16/\1<=(f.bytes.size:Int)/\(f.bytes.size:Int)<=16-f.off):=by simp[A7]
theorem pK {e:Int} {f:Fx} (h:¬(e<=f.off/\f.off<=16/\1<=(f.bytes.size:Int)/\(f.bytes.size:Int)<=16-f.off)):A7 e f=false:=by simpa [A7] using h
theorem iK (l:List Fx):∀k,bU l k=true->(k:Int)<=kN l k/\kN l k<=16
 | 0,_=>by simp[kN]
 | k+1,h=>by
  simp only[bU,Bool.and_eq_true] at h
  have ih:=iK l k h.1
  have hf:=(nu _ _).1 h.2
  simp only[kN]
  omega
theorem mq (d:ByteArray) (l:List Fx) (hd:d.size=16):∀k,bU l k=true->(jr d l k).size=16
 | 0,_=>hd
 | k+1,h=>by
  simp only[bU,Bool.and_eq_true] at h
  have ih:=mq d l hd k h.1
  have hf:=(nu _ _).1 h.2
  have he:=iK l k h.1
  simp only[jr]
  rw[CL.Ez _ _ _ (by omega),ih]
end LM
namespace AM
open Go.RowKit
structure St where
 m:Bool
 p:Int
 z:Bool
def off:St:=⟨false,0,false⟩
def three (s:St):List Value:=[.bool s.m,I s.p,.bool s.z]
def rows (F:Nat->St):Nat->List Value
 | 0=>[]
 | m+1=>rows F m++three (F m)
def cB (F:Nat->St):Array Value:=(rows F 256).toArray
def upd (F:Nat->St) (n:Nat) (s:St):Nat->St:=fun k=>if k=n then s else F k
theorem bG (F:Nat->St):∀m,(rows F m).length=m*3
 | 0=>rfl
 | m+1=>by simp[rows,bG F m,three];omega
theorem ed (F:Nat->St):(cB F).size=768:=by simp[cB,bG]
theorem m6 (F:Nat->St) (n j:Nat) (hj:j<3):∀m,n<m->(rows F m)[n*3+j]?=(three (F n))[j]?
 | 0,h=>by omega
 | m+1,h=>by
  simp only[rows]
  by_cases e:n=m
  · subst e
    rw[List.getElem?_append_right (by rw[bG];omega),bG,show n*3+j-n*3=j from by omega]
  · rw[List.getElem?_append_left (by rw[bG];omega)]
    exact m6 F n j hj m (by omega)
theorem qQ (F:Nat->St) (n j:Nat) (hn:n<256) (hj:j<3):(cB F)[n*3+j]?=(three (F n))[j]?:=by
 unfold cB
 rw[List.getElem?_toArray]
 exact m6 F n j hj 256 hn
theorem mG (F:Nat->St) (n:Nat) (hn:n<256):(cB F)[n*3]?=some (.bool (F n).m):=qQ F n 0 hn (by omega)
theorem mF (F:Nat->St) (n:Nat) (hn:n<256):(cB F)[n*3+1]?=some (I (F n).p):=qQ F n 1 hn (by omega)
theorem mE (F:Nat->St) (n:Nat) (hn:n<256):(cB F)[n*3+2]?=some (.bool (F n).z):=qQ F n 2 hn (by omega)
theorem wh (F G:Nat->St):∀m,(∀k,k<m->F k=G k)->rows F m=rows G m
 | 0,_=>rfl
 | m+1,h=>by simp only[rows];rw[wh F G m (fun k hk=>h k (by omega)),h m (by omega)]
theorem gh (F:Nat->St) (n:Nat) (s:St):∀m,n<m->(((rows F m).set (n*3) (.bool s.m)).set (n*3+1) (I s.p)).set (n*3+2) (.bool s.z)=rows (upd F n s) m
 | 0,h=>by omega
 | m+1,h=>by
  simp only[rows]
  by_cases e:n=m
  · subst e
    rw[List.set_append_right _ _ (by rw[bG];omega),List.set_append_right _ _ (by rw[bG];omega),List.set_append_right _ _ (by rw[bG];omega),bG,
     show n*3-n*3=0 from by omega,show n*3+1-n*3=1 from by omega,show n*3+2-n*3=2 from by omega]
    rw[wh (upd F n s) F n (fun k hk=>by simp[upd];omega)]
    simp[three,upd]
  · rw[List.set_append_left _ _ (by rw[bG];omega),List.set_append_left _ _ (by rw[List.length_set,bG];omega),List.set_append_left _ _ (by rw[List.length_set,List.length_set,bG];omega),gh F n s m (by omega)]
    congr 2
    simp[upd];intro h';exact absurd h'.symm e
theorem xJ (F:Nat->St) (n:Nat) (s:St) (hn:n<256) :
  (((cB F).setIfInBounds (n*3) (.bool s.m)).setIfInBounds (n*3+1) (I s.p)).setIfInBounds (n*3+2) (.bool s.z)=cB (upd F n s):=by
 unfold cB
 rw[<- gh F n s 256 hn]
 simp only[List.setIfInBounds_toArray]
theorem Ci (F:Nat->St):∀m,∀v∈rows F m,v.oneCell'=true
 | 0,v,h=>by simp[rows] at h
 | m+1,v,h=>by
  simp only[rows,List.mem_append] at h
  rcases h with h | h
  · exact Ci F m v h
  · simp only[three,List.mem_cons,List.not_mem_nil,or_false] at h
    rcases h with rfl | rfl | rfl <;> rfl
theorem qP (F:Nat->St):(cB F).all (·.oneCell')=true:=by
 rw[Array.all_eq_true_iff_forall_mem]
 intro v hv
 exact Ci F 256 v (by simpa [cB] using hv)
def gj (F:Nat->St) (a:Ar) (t:Int):Nat->St:=fun n=>if a.page<=(n:Int)/\(n:Int)<t then ⟨true,a.bJ,a.zero⟩ else F n
def bg (l:List Ar):Nat->Nat->St
 | 0=>fun _=>off
 | k+1=>gj (bg l k) (at_ l k) (at_ l k).dN
def cm (l:List Ar):Nat->St:=bg l l.length
theorem ue (F:Nat->St) (a:Ar):gj F a a.page=F:=by
 funext n;simp only[gj];rw[if_neg (by omega)]
theorem wW (F:Nat->St) (a:Ar) (n:Nat) (h:a.page<=(n:Int)):upd (gj F a n) n ⟨true,a.bJ,a.zero⟩=gj F a ((n:Int)+1):=by
 funext k
 simp only[upd,gj]
 by_cases e:k=n
 · subst e;rw[if_pos rfl,if_pos ⟨h,by omega⟩]
 · rw[if_neg e]
   by_cases c:a.page<=(k:Int)/\(k:Int)<n
   · rw[if_pos c,if_pos ⟨c.1,by omega⟩]
   · rw[if_neg c,if_neg (by omega)]
theorem Dq (F:Nat->St) (k:Nat) (hk:k<256):(cB F).extract (k*3) (k*3+3)=#[.bool (F k).m,I (F k).p,.bool (F k).z]:=by
 apply Array.ext_getElem?
 intro j
 have hs:=ed F
 rw[Array.getElem?_extract,hs]
 match j with
 | 0=>rw[if_pos (by omega)];exact mG F k hk
 | 1=>rw[if_pos (by omega)];exact mF F k hk
 | 2=>rw[if_pos (by omega)];exact mE F k hk
 | j+3=>rw[if_neg (by omega)];simp
def dR (F:Nat->St):Nat->St
 | 0=>off
 | k+1=>F k
def pS (a b:St):Bool:=a.m==b.m&&(a.p==b.p&&a.z==b.z)
def xN (G:List Ar):List Ar:=G.set (G.length-1) ⟨(at_ G (G.length-1)).page,(at_ G (G.length-1)).aB+1,(at_ G (G.length-1)).bJ,(at_ G (G.length-1)).zero⟩
def aV (F:Nat->St):Nat->List Ar
 | 0=>[]
 | k+1=>if (F k).m=false then aV F k else if pS (F k) (dR F k) then xN (aV F k) else aV F k++[⟨(k:Int),1,(F k).p,(F k).z⟩]
def dV (F:Nat->St):List Ar:=aV F 256
def four (a:Ar):List Value:=[I a.page,I a.aB,I a.bJ,.bool a.zero]
def bf:List Ar->List Value
 | []=>[]
 | a::r=>four a++bf r
theorem nA:∀G:List Ar,(bf G).length=G.length*4
 | []=>rfl
 | a::r=>by simp[bf,four,nA r];omega
theorem jT:∀G H:List Ar,bf (G++H)=bf G++bf H
 | [],H=>rfl
 | a::r,H=>by simp[bf,jT r H]
theorem eI:∀(G:List Ar) (i j:Nat),i<G.length->j<4->(bf G)[i*4+j]?=(four (at_ G i))[j]?
 | [],i,j,h,_=>by simp at h
 | a::r,0,j,h,hj=>by
  simp only[bf]
  rw[List.getElem?_append_left (by simp[four];omega)]
  simp[at_]
 | a::r,i+1,j,h,hj=>by
  simp only[bf]
  rw[List.getElem?_append_right (by simp[four];omega),show(i+1)*4+j-(four a).length=i*4+j from by simp[four];omega,eI r i j (by simpa using h) hj]
  simp[at_]
theorem gy:∀(G:List Ar) (i:Nat) (n:Int),i<G.length->bf (G.set i ⟨(at_ G i).page,n,(at_ G i).bJ,(at_ G i).zero⟩)=(bf G).set (i*4+1) (I n)
 | [],i,n,h=>by simp at h
 | a::r,0,n,h=>by simp[bf,four,at_]
 | a::r,i+1,n,h=>by
  simp only[bf,List.set_cons_succ]
  rw[List.set_append_right _ _ (by simp[four];omega),show(i+1)*4+1-(four a).length=i*4+1 from by simp[four];omega]
  have e:=gy r i n (by simpa using h)
  rw[<- e]
  simp[at_]
theorem jf (G:List Ar):(xN G).length=G.length:=by simp[xN]
theorem j5:∀(G:List Ar),∀v∈bf G,v.oneCell'=true
 | [],v,h=>by simp[bf] at h
 | a::r,v,h=>by
  simp only[bf,four,List.cons_append,List.nil_append,List.mem_cons] at h
  rcases h with rfl | rfl | rfl | rfl | h
  · rfl
  · rfl
  · rfl
  · rfl
  · exact j5 r v h
theorem gX (G H:List Ar) (i:Nat) (h:i<G.length):at_ (G++H) i=at_ G i:=by simp[at_,List.getElem?_append_left h]
theorem lW (G:List Ar) (a:Ar):at_ (G++[a]) G.length=a:=by simp[at_]
theorem Du (G:List Ar) (i:Nat) (a:Ar) (h:i<G.length):at_ (G.set i a) i=a:=by simp[at_,h]
theorem Be (G:List Ar) (i j:Nat) (a:Ar) (h:j≠i):at_ (G.set i a) j=at_ G j:=by simp[at_,List.getElem?_set_ne (Ne.symm h)]
theorem jM (F:Nat->St):∀k,(aV F k).length<=k
 | 0=>by simp[aV]
 | k+1=>by
  have ih:=jM F k
  simp only[aV]
  split
  · omega
  · split
    · rw[jf];omega
    · simp;omega
theorem oW (F:Nat->St):∀k,(dR F k).m=true->0<(aV F k).length
 | 0,h=>by simp[dR,off] at h
 | k+1,h=>by
  have h':(F k).m=true:=h
  simp only[aV,h']
  rw[if_neg (by simp)]
  split
  · rename_i he
    have hm:(dR F k).m=true:=by
     simp only[pS,Bool.and_eq_true,beq_iff_eq] at he
     rw[<- he.1];exact h'
    rw[jf]
    exact oW F k hm
  · simp
theorem nQ (F:Nat->St):∀k,∀i,i<(aV F k).length->1<=(at_ (aV F k) i).aB/\(at_ (aV F k) i).aB<=k
 | 0,i,h=>by simp[aV] at h
 | k+1,i,h=>by
  have ih:=nQ F k
  simp only[aV] at h ⊢
  split
  · rename_i hm
    rw[if_pos hm] at h
    have:=ih i h
    omega
  · rename_i hm
    rw[if_neg hm] at h
    split
    · rename_i he
      rw[if_pos he,jf] at h
      by_cases e:i=(aV F k).length-1
      · rw[e,xN,Du _ _ _ (by omega)]
        have:=ih ((aV F k).length-1) (by omega)
        simp only
        omega
      · rw[xN,Be _ _ _ _ e]
        have:=ih i h
        omega
    · rename_i he
      rw[if_neg he] at h
      by_cases e:i<(aV F k).length
      · rw[gX _ _ _ e]
        have:=ih i e
        omega
      · obtain rfl:i=(aV F k).length:=by simp at h;omega
        rw[lW]
        simp only
        omega
theorem Aa (a b:St) (h:pS a b=true):a=b:=by
 cases a;cases b
 simp only[pS,Bool.and_eq_true,beq_iff_eq] at h
 obtain⟨h1,h2,h3⟩:=h
 subst h1;subst h2;subst h3;rfl
theorem Gm (a b:St) (h:pS a b=false):(a.m==b.m)=false∨((a.m==b.m)=true/\(a.p==b.p)=false)∨((a.m==b.m)=true/\(a.p==b.p)=true/\(a.z==b.z)=false):=by
 unfold pS at h
 cases h1:(a.m==b.m)
 · exact .inl rfl
 · cases h2:(a.p==b.p)
   · exact .inr (.inl ⟨rfl,rfl⟩)
   · cases h3:(a.z==b.z)
     · exact .inr (.inr ⟨rfl,rfl,rfl⟩)
     · rw[h1,h2,h3] at h;simp at h
def turned (F:Nat->St) (how:St->St×Int) (page t:Int):Nat->St:=fun k=>if page<=(k:Int)/\(k:Int)<t then (how (F k)).1 else F k
def gI (F:Nat->St) (how:St->St×Int):Nat->Nat->Int
 | _,0=>0
 | n,c+1=>if (how (F n)).2=0 then gI F how (n+1) c else (how (F n)).2
def ji (l:List Ar) (page aB bJ:Int) (how:St->St×Int):List Ar×Int :=
 if aO l=0 then
  if dE page aB&&iq bJ then
   if gI (cm l) how page.toNat aB.toNat=0 then (dV (turned (cm l) how page (page+aB)),0)
   else ([],gI (cm l) how page.toNat aB.toNat)
  else ([],3)
 else ([],aO l)
theorem zX (F:Nat->St) (how:St->St×Int) (page:Int):turned F how page page=F:=by
 funext k;simp only[turned];rw[if_neg (by omega)]
theorem Hw (F:Nat->St) (how:St->St×Int) (page:Int) (n:Nat):turned F how page n n=F n:=by
 simp only[turned];rw[if_neg (by omega)]
theorem BJ (F:Nat->St) (how:St->St×Int) (page:Int) (n:Nat) (h:page<=(n:Int)):upd (turned F how page n) n (how (F n)).1=turned F how page ((n:Int)+1):=by
 funext k
 simp only[upd,turned]
 by_cases e:k=n
 · subst e;rw[if_pos rfl,if_pos ⟨h,by omega⟩]
 · rw[if_neg e]
   by_cases c:page<=(k:Int)/\(k:Int)<n
   · rw[if_pos c,if_pos ⟨c.1,by omega⟩]
   · rw[if_neg c,if_neg (by omega)]
theorem r8 (F:Nat->St) (how:St->St×Int):∀(c n:Nat),(∀k,n<=k->k<n+c->(how (F k)).2=0)->gI F how n c=0
 | 0,_,_=>rfl
 | c+1,n,h=>by
  simp only[gI]
  rw[if_pos (h n (by omega) (by omega))]
  exact r8 F how c (n+1) (fun k h1 h2=>h k (by omega) (by omega))
theorem xx (F:Nat->St) (how:St->St×Int):∀(c n m:Nat),n<=m->m<n+c->(∀k,n<=k->k<m->(how (F k)).2=0)->(how (F m)).2≠0->gI F how n c=(how (F m)).2
 | 0,n,m,h1,h2,_,_=>by omega
 | c+1,n,m,h1,h2,h,hm=>by
  simp only[gI]
  by_cases e:n=m
  · subst e;rw[if_neg hm]
  · rw[if_pos (h n (by omega) (by omega))]
    exact xx F how c (n+1) m (by omega) (by omega) (fun k h1 h2=>h k (by omega) h2) hm
theorem iT (p n:Int):dE p n=true↔1<=p/\1<=n/\n<=256-p:=by simp[dE]
end AM
end Go.Proofs.YtpgifpeohlllfaaGreat
