import Derived.Test.YtlgoihmkgaaemaaGreatGP08
import Derived.Lib.Repeat
set_option maxHeartbeats 20000000
set_option linter.unusedVariables false
set_option maxRecDepth 100000
set_option linter.unusedSimpArgs false
namespace Go.Proofs.YtlgoihmkgaaemaaGreat
open Go.RowKit Go.WideMaps Go.Maps Tryz
theorem QP:Keyed prog 9:=string_keyed underlying9
theorem WG (w:World):(zeroValue 3).run prog w=.ok (I 0) w:=by rfl
def CI (s:ByteArray):Lit:=.string s.data.toList
theorem Jw {s t:ByteArray} (h:CI s=CI t):s=t:=by
 unfold CI at h;injection h with h;cases s;simp_all
theorem Vc {s:ByteArray} (h:bM s.size):keyOf prog 9 (.string s)=some (CI s):=keyOf_string_mk underlying9 (by grind [bM,maxLen])
instance anq:LawfulBEq ByteArray where
 eq_of_beq {a b} h:=by
  cases a;cases b;congr 1;exact eq_of_beq (α:=Array UInt8) h
 rfl {a}:=by
  cases a;exact beq_self_eq_true (α:=Array UInt8) _
def afb (l:List ByteArray) (k:Nat) (D:DataW Unit):Prop:=∀s:ByteArray,D.atKey (CI s) (.lit (.int .i64 0))=.lit (.int .i64 (if (l.take k).contains s then 1 else 0))
variable {w w':World} {b off:Nat} {i:xz} {rb:Option Nat} {g:Nat} {xs ys:List bD} {D:Nat->Prop} {base:Nat} {e:TypeId} {size cap:Nat} {P:Program} (l:List ByteArray) (k:aT) (hs:List bD) (j:Nat)
theorem acC:afb l 0 (.map []):=λs=>by rfl
theorem E8 (k:Nat) (hk:k<l.length) (s:ByteArray):(l.take (k+1)).contains s=((l.take k).contains s || s==rI l k):=by
 grind [List.take_add_one,rI]
theorem acD {l:List ByteArray} {k:Nat} {D:DataW Unit} (hk:k<l.length) (hD:IsMap D) (h:afb l k D):afb l (k+1) (D.put (CI (rI l k)) (.lit (.int .i64 1))):=λs=>by
 rw[E8 l k hk s];by_cases e:s=rI l k
 . subst e;rw[atKey_put_same hD (by trivial)];simp
 rw[atKey_put_other (λg=>e (Jw g)),h s]
 grind
theorem Z2 (k n:Nat) (h:o8 l k=false) (hk:k<=n):o8 l n=false:=by
 induction n with
 | zero=>grind
 | succ n ih =>
  grind [o8]
theorem ZY (ao:Option Addr) (cap:Nat) (w:World) (h:ie QU w ao l) (hn:bM l.length) (hf:∀k,k<l.length->bM (rI l k).size) :
  Calls prog 162 #[.slice ao l.length cap] w λe w'=>e=.returned (.bool (!yg l))/\Below w.heap.size w w':=by
 unfold bM at hn;have H:=aB h;have F:=aB hf;clear h hf;have Q:=@run_makeMap prog;go_enter func162,ntmps162;go_wp2;go_loopw [9] (λi wr=>∃(k:Nat) (D:DataW Unit),k<=l.length/\i=I k/\wr.ownsMap prog 9 (plainElem prog 3) w.heap.size k D/\afb l k D/\o8 l k=true/\Below w.heap.size w wr) (λi _=>l.length-(intOf i).toNat)
 case atStart=>exact⟨0,.map [],rB _,rfl,World.ownsMap_made _ _ _ _,acC l,rfl,(aN _ _).alloc (aJ _) _⟩
 case round =>
  obtain⟨k,D,hk,rfl,y,L,ZP,hb⟩:=hrel;have HO:=aB ZP;have HC:=aB L;have HB:=aB hb;have HW:=aB y;clear ZP L;by_cases hlt:k<l.length
  . obtain⟨b,off,N,O,hl⟩:=H.o ω;subst N;have Td:(k:Int)<(l.length:Int):=by omega
    have c0:=ahR hb O hl k hlt;have fs:=F.o k hlt;have K:=aB (acD hlt y.isMap HC.o);have HN:Hid (o8 l (k+1)=!(l.take k).contains (rI l k)):=by show(o8 l k&&_)=_;rw[HO.o];rfl
    have G:=HC.o (rI l k);generalize rI l k=s at c0 fs K HN G;clear hb hl;have A:=Vc fs;obtain⟨c,J,B,_⟩:=y.lookup_int QP underlying316 underlying3 (WG _) A;rw[G] at B
    have mL:k<maxLen:=by unfold maxLen;omega
    cases hc:(l.take k).contains s
    . rw[hc] at B HN;have e:c=0:=by grind
      subst e;clear B G;go_wp2_with (first | (at_mapUpdate;refine Wm _ rfl _ _ _ 316 rfl 9 3 QP underlying316 _ w.heap.size k _ rfl HW.o mL _ _ _ rfl rfl A _ [] (plainElem_int underlying3 Δ) ?_) | go_in);intro w1 r q;have R2:=aB (HB.o.grown q HB.o.size (λj hj=>Γ));obtain⟨c,M,MP,_⟩:=r.lookup_int QP underlying316 underlying3 (WG _) A;rw[atKey_put_same HW.o.isMap (by trivial)] at MP;have e:c=1:=by injection MP with MP;injection MP with _ MP;omega
      subst e;have Fp:=aB r;clear MP y J q r;go_wp2;go_roundw
      case rel=>exact⟨k+1,_,ω,by go_num,Fp.o,K.o,HN.o,R2.o⟩
      case measure=>simp[intOf];omega
    rw[hc] at B HN;have e:c=1:=by grind
    subst e;clear B G;have HR:=aB (Z2 l (k+1) l.length HN.o hlt);go_wp2_with (first | (at_mapUpdate;refine Wm _ rfl _ _ _ 316 rfl 9 3 QP underlying316 _ w.heap.size k _ rfl HW.o mL _ _ _ rfl rfl A _ [] (plainElem_int underlying3 Δ) ?_) | go_in);intro w1 r q;have R2:=aB (HB.o.grown q HB.o.size (λj hj=>Γ));obtain⟨c,M,MP,_⟩:=r.lookup_int QP underlying316 underlying3 (WG _) A;rw[atKey_put_same HW.o.isMap (by trivial)] at MP;have e:c=2:=by injection MP with MP;injection MP with _ MP;omega
    subst e;clear MP y J q r;go_wp2;go_ret;exact⟨ml (by unfold yg;rw[HR.o];rfl),R2.o⟩
  obtain rfl:k=l.length:=by omega
  clear hb;go_wp2;go_ret;exact⟨ml (by unfold yg;rw[HO.o];rfl),HB.o⟩
structure jd where
 i:xz
 a:KM
def ac5:jd:=⟨⟨⟨#[]⟩,[],[],[],[],0⟩,⟨none,0,none,0,none,0,none,0⟩⟩
def cQ (l:List jd) (k:Nat):jd:=l.getD k ac5
def Cc (x:jd):Value:=.agg (jU x.a x.i)
def Ld (w:World) (b off:Nat) (l:List jd):Prop:=∀k,k<l.length ->
 (w.cell? (Ad b (off+k*6))=some (.string (cQ l k).i.name)/\w.cell? (Ad b (off+k*6+1))=some (.slice (cQ l k).a.an (cQ l k).i.needs.length (cQ l k).a.cn) /\
  w.cell? (Ad b (off+k*6+2))=some (.slice (cQ l k).a.ag (cQ l k).i.jT.length (cQ l k).a.cg)/\w.cell? (Ad b (off+k*6+3))=some (.slice (cQ l k).a.ay (cQ l k).i.syms.length (cQ l k).a.cy) /\
  w.cell? (Ad b (off+k*6+4))=some (.slice (cQ l k).a.ar (cQ l k).i.qH.length (cQ l k).a.cr)/\w.cell? (Ad b (off+k*6+5))=some (I (cQ l k).i.entry))/\qM w (cQ l k).a (cQ l k).i
theorem akH {l:List jd} (hb:Below w.heap.size w w') (hlt:b<w.heap.size) (h:Ld w b off l):Ld w' b off l:=λk hk=>by
 obtain⟨⟨c0,c1,c2,c3,c4,c5⟩,hi⟩:=h k hk
 grind [cW,qM.below]
def Em (w:World) (ao:Option Addr) (l:List jd):Prop:=ie Ld w ao l
theorem Em.below {ao:Option Addr} {l:List jd} (h:Em w ao l) (hb:Below w.heap.size w w'):Em w' ao l:=ie.below (lie:=Ld) (λhb hlt h=>akH hb hlt h) h hb
def afh (l:List jd):Prop:=bM l.length/\∀k,k<l.length->KL (cQ l k).i
def pd (l:List jd):Nat->Int
 | 0=>0
 | k+1=>if pd l k=0 then mM (cQ l k).i else pd l k
def ku (l:List jd):List ByteArray:=l.map (·.i.name)
def pj (l:List jd):Int:=if pd l l.length=0 then (if yg (ku l) then 0 else 5) else pd l l.length
theorem FY (l:List jd) (k:Nat) (h:pd l k≠0):∀n,k<=n->pd l n=pd l k
 | 0,hn=>by grind
 | n+1,hn=>by
  by_cases e:k=n+1
  . grind
  have ih:=FY l k h n ω
  grind [pd]
theorem IC (l:List jd):∀n,pd l n=0->∀k,k<n->mM (cQ l k).i=0
 | 0,_,k,hk=>by omega
 | n+1,h,k,hk=>by
  simp only[pd] at h;by_cases e0:pd l n=0
  . rw[aQ e0] at h;by_cases e:k=n
    . grind
    exact IC l n e0 k ω
  omega
theorem K6 (l:List jd) (k:Nat) (hk:k<l.length):rI (ku l) k=(cQ l k).i.name:=by
 grind [rI,ku,cQ]
theorem tV (l:List jd):(ku l).length=l.length:=by simp[ku]
def aam (v:Value):Option (DataW Value×List MemPlace):=some (.held v,[])
def akC:Value:=.agg #[.string ⟨#[]⟩,Nl,Nl,Nl,Nl,I 0]
structure Lb (l:List jd) (k:Nat) (D:DataW Value):Prop where
 has:∀s,Maps.has D (CI s)=((ku l).take k).contains s
 at_:o8 (ku l) k=true->∀j,j<k->D.atKey (CI (cQ l j).i.name) (.held akC)=.held (Cc (cQ l j))
 le:Maps.size D<=k
 all:Maps.size D=k↔o8 (ku l) k=true
theorem ac2 (l:List jd):Lb l 0 (.map []):=⟨λs=>ρ,λ_ j hj=>ω,by simp[Maps.size],by simp[Maps.size,o8]⟩
theorem ac4 (l:List jd) (k j:Nat) (hj:j<k) (hk:k<=l.length):((ku l).take k).contains (cQ l j).i.name=true:=by
 have h1:j<((ku l).take k).length:=by grind [tV]
 have h2:((ku l).take k)[j]=(cQ l j).i.name:=by
  rw[List.getElem_take];have h3:j<(ku l).length:=by grind
  have:=K6 l j ω
  grind [rI]
 grind
theorem ac3 {l:List jd} {k:Nat} {D:DataW Value} (hk:k<l.length) (hD:IsMap D) (hT:Maps.Tidy D) (h:Lb l k D):Lb l (k+1) (D.put (CI (cQ l k).i.name) (.held (Cc (cQ l k)))):=by
 have hc:=λs=>E8 (ku l) k (by grind [tV]) s
 have r:=K6 l k hk;have b:o8 (ku l) (k+1)=(o8 (ku l) k&&!((ku l).take k).contains (cQ l k).i.name):=by grind [o8]
 have q:=Maps.size_put (k:=CI (cQ l k).i.name) hT (.held (Cc (cQ l k)));rw[h.has] at q;refine⟨λs=>?_,λho j hj=>?_,?_,?_⟩
 . rw[hc s,r];by_cases e:s=(cQ l k).i.name
   . subst e;rw[Maps.has_put_same hD (by trivial)];simp
   grind [Maps.has_put_other,Jw,Lb.has]
 . rw[b] at ho;simp only[cV,Qe] at ho;by_cases e:j=k
   . subst e;exact atKey_put_same hD (by trivial) _ _
   grind [ac4,atKey_put_other,Jw,Lb.at_]
 . have:=h.le
   grind
 rw[b];have h1:=h.le
 grind [Lb.all]
open Go.RowKit Tryz
def akI (all:List jd) (s:ByteArray):Option Nat:=all.findIdx? (λx=>decide (x.i.name=s))
def ahU (ix:List Nat) (j:Nat):List Nat:=if ix.contains j then ix else ix++[j]
def aak (all:List jd) (ix:List Nat) (needs:List ByteArray):Nat->Option (List Nat)
 | 0=>some ix
 | k+1=>match aak all ix needs k with
  | none=>none
  | some ix'=>match akI all (rI needs k) with
   | none=>none
   | some j=>some (ahU ix' j)
def Rc (all:List jd) (ix:List Nat) (n:Nat):List ByteArray:=(cQ all (ix.getD n 0)).i.needs
def M7 (all:List jd):Nat->Nat->List Nat->Option (List Nat)
 | 0,_,ix=>some ix
 | f+1,n,ix=>if n<ix.length then (match aak all ix (Rc all ix n) (Rc all ix n).length with
  | none=>none
  | some ix'=>M7 all f (n+1) ix') else some ix
structure Ht (all:List jd) (ix:List Nat):Prop where
 pos:0<ix.length
 nodup:ix.Nodup
 lt:∀j∈ix,j<all.length
theorem MZ:∀(L:Nat) (ix:List Nat),ix.Nodup->(∀j∈ix,j<L)->ix.length<=L
 | 0,ix,_,h=>by
  cases ix with
  | nil=>grind
  | cons x r=>grind [List.mem_cons_self]
 | L+1,ix,hn,h=>by
  by_cases e:L∈ix
  . have h1:=MZ L (ix.erase L) (hn.erase L) (λj hj=>by
     grind)
    grind
  have:=MZ L ix hn (λj hj=>by
   grind)
  omega
theorem Ht.le {all:List jd} {ix:List Nat} (h:Ht all ix):ix.length<=all.length:=MZ _ _ h.nodup h.lt
def fB (all:List jd):Int->List Nat->List kI
 | _,[]=>[]
 | b,j::r=>⟨(cQ all j).i,(cQ all j).a,b⟩::fB all (yl ⟨(cQ all j).i,(cQ all j).a,b⟩) r
def jW (all:List jd):Int->List Nat->Int
 | b,[]=>b
 | b,j::r=>jW all (yl ⟨(cQ all j).i,(cQ all j).a,b⟩) r
theorem kM (all:List jd):∀(ix:List Nat) (b:Int),(fB all b ix).length=ix.length
 | [],_=>rfl
 | j::r,b=>by simp only[fB,D5,kM all r]
theorem Fe (all:List jd) (j:Nat):∀(ix:List Nat) (b:Int),fB all b (ix++[j])=fB all b ix++[⟨(cQ all j).i,(cQ all j).a,jW all b ix⟩]
 | [],b=>rfl
 | k::r,b=>by simp only[Hi,fB,jW,Fe all j r]
theorem Ff (all:List jd) (j:Nat):∀(ix:List Nat) (b:Int),jW all b (ix++[j])=yl ⟨(cQ all j).i,(cQ all j).a,jW all b ix⟩
 | [],b=>rfl
 | k::r,b=>by simp only[Hi,jW,Ff all j r]
theorem uG (all:List jd):∀(ix:List Nat) (b:Int) (k:Nat),k<ix.length->(dX (fB all b ix) k).i=(cQ all (ix.getD k 0)).i/\(dX (fB all b ix) k).a=(cQ all (ix.getD k 0)).a/\(dX (fB all b ix) k).base=jW all b (ix.take k)
 | [],_,k,hk=>by grind
 | j::r,b,0,_=>⟨rfl,rfl,rfl⟩
 | j::r,b,k+1,hk=>by
  have:=uG all r (yl ⟨(cQ all j).i,(cQ all j).a,b⟩) k Γ
  grind [dX,fB,jW]
theorem Ph (all:List jd) (ix:List Nat) (b:Int) (h:0<ix.length):yl (dX (fB all b ix) (ix.length-1))=jW all b ix:=by
 obtain⟨r,j,rfl⟩:∃r j,ix=r++[j]:=⟨ix.dropLast,ix.getLast Γ,(aeY _).symm⟩
 grind [Fe,Ff,kM,dX]
theorem Ce (all:List jd) (hc:∀j,j<all.length->mM (cQ all j).i=0):∀(ix:List Nat) (b:Int),(∀j∈ix,j<all.length)->b<=jW all b ix/\jW all b ix<=b+255*(ix.length:Int)
 | [],b,_=>by simp[jW]
 | j::r,b,h=>by
  have hl:=FW (hc j (h j Hn));have ih:=Ce all hc r (yl ⟨(cQ all j).i,(cQ all j).a,b⟩) (λk hk=>h k (Kv _ hk))
  grind [jW,yl]
def rK:ByteArray:=⟨(Lib.repeatL [0] 16).toArray⟩
theorem E9:rK.size=16:=rfl
def wI (s:qw) (n:Nat):ByteArray:=iT rK 0 (s.data.extract (min (n*16) s.data.size) (min (min (n*16) s.data.size+16) s.data.size))
theorem Pj (s:ByteArray) (a b:Nat) (h1:a<=b) (h2:b<=s.size):(s.extract a b).size=b-a:=by
 simp_all
structure qc where
 pos:Int
 bytes:ByteArray
def ac0:qc:=⟨0,⟨#[]⟩⟩
def yi (l:List qc) (k:Nat):qc:=l.getD k ac0
def Lc (w:World) (b off:Nat) (l:List qc):Prop:=∀i,i<l.length->w.cell? (Ad b (off+i*2))=some (I (yi l i).pos)/\w.cell? (Ad b (off+i*2+1))=some (.string (yi l i).bytes)
theorem akF {l:List qc} (hb:Below w.heap.size w w') (hlt:b<w.heap.size) (h:Lc w b off l):Lc w' b off l:=λi hi=>by
 obtain⟨c0,c1⟩:=h i hi
 grind [cW]
def Lf (w:World) (ao:Option Addr) (l:List qc):Prop:=ie Lc w ao l
theorem Lf.below {ao:Option Addr} {l:List qc} (h:Lf w ao l) (hb:Below w.heap.size w w'):Lf w' ao l:=ie.below (lie:=Lc) (λhb hlt h=>akF hb hlt h) h hb
def K9 (p:qc):List Value:=[I p.pos,.string p.bytes]
def Dv (f:mZ):List Value:=[I f.off,.string f.bytes]
def Xi (p:qc):Prop:=0<=p.pos/\p.pos<=1000000/\p.bytes.size=8
def Ek (page:Int) (p:qc):List mZ:=if max (page*16) p.pos<min (page*16+16) (p.pos+8) then [⟨max (page*16) p.pos-page*16,p.bytes.extract (max (page*16) p.pos-p.pos).toNat (max (page*16) p.pos-p.pos+(min (page*16+16) (p.pos+8)-max (page*16) p.pos)).toNat⟩] else []
def kZ (page:Int) (ps:List qc):List mZ:=ps.flatMap (Ek page)
theorem Xa {α:Type} (l:List α) (d:α) (k:Nat) (h:k<l.length):l.take (k+1)=l.take k++[l.getD k d]:=by
 simp_all
theorem ac6 (page:Int) (p:qc):(Ek page p).length<=1:=by
 grind [Ek]
theorem K7 (page:Int):∀ps:List qc,(kZ page ps).length<=ps.length
 | []=>by simp[kZ]
 | p::r=>by
  have h1:=K7 page r
  grind [ac6,kZ]
theorem Ri (page:Int) (l:List qc) (p:qc):kZ page (l++[p])=kZ page l++Ek page p:=by
 grind [kZ]
def ahT (l:List WT) (s:ByteArray):Option Nat:=l.findIdx? (λy=>decide (y.name=s))
def akD (o:kI) (s:ByteArray):Option Int:=match ahT o.i.syms s with
 | none=>none
 | some k=>some (yN o (WO o.i.syms k).pos)
def aaj (l:List kI) (s:ByteArray):Nat->Option Int
 | 0=>none
 | k+1=>match aaj l s k with
  | some t=>some t
  | none=>akD (dX l k) s
def W7 (l:List kI) (o:kI) (s:ByteArray):Option Int:=if s=⟨#[]⟩ then some (yN o 0) else aaj l s l.length
theorem KZ (hc:mM i=0):Hs i=true:=by
 grind [mM]
theorem KU:∀{l:List qw} {a:Int} {s:qw},tT l a=some s->(∃k,k<l.length/\fh l k=s)/\sX s a=true
 | [],a,s,h=>by cases h
 | x::r,a,s,h=>by
  simp only[tT] at h;split at h
  . rename_i hi
    injection h with h;subst h;exact⟨⟨0,ξ,rfl⟩,hi⟩
  obtain⟨⟨k,hk,e⟩,hi⟩:=KU h;exact⟨⟨k+1,Γ,by grind [fh]⟩,hi⟩
theorem xI (hc:mM i=0) {a:Int} (h:jh i.jT a=true):0<=a/\a<4080:=by
 unfold jh at h;obtain⟨s,hs⟩:=Option.isSome_iff_exists.1 h;obtain⟨⟨k,hk,e⟩,hi⟩:=KU hs;have hb:=yh hc k hk
 grind [sX]
theorem KY (i:xz):∀n,KJ i n=true->∀k,k<n->Qv i k=true
 | 0,_,k,hk=>by omega
 | n+1,h,k,hk=>by
  simp only[KJ,cV] at h;by_cases e:k=n
  . grind
  exact KY i n h.1 k ω
theorem af8 (hc:mM i=0) (k:Nat) (hk:k<i.qH.length):Qv i k=true:=by
 have h:=KZ hc
 grind [Hs,KY]
theorem TE (hc:mM i=0) (k:Nat) (hk:k<i.qH.length):0<=(vh i.qH k).pos/\(vh i.qH k).pos+7<4080:=by
 have h:=af8 hc k hk;unfold Qv Z9 at h;simp only[cV] at h;have h0:=xI hc h.2.1;have h7:=xI hc h.2.2.2.2.2.2.2.2;omega
theorem Pk (hc:mM i=0):0<=i.entry/\i.entry<4080:=by
 have h:=KZ hc;unfold Hs at h;simp only[cV] at h;have he:=h.2.2;unfold Dn at he;refine xI hc ?_
 grind [jh]
def akE (o:kI) (r:Tz) (t:Int):qc:=⟨yN o r.pos,⟨(Lib.leBytes 8 (mP (t+r.add))).toArray⟩⟩
def uE (l:List kI) (o:kI):Nat->Option (List qc)
 | 0=>some []
 | k+1=>match uE l o k with
  | none=>none
  | some ps=>match W7 l o (vh o.i.qH k).name with
   | none=>none
   | some t=>some (ps++[akE o (vh o.i.qH k) t])
def wB (l:List kI) (o:kI):Option (List qc):=uE l o o.i.qH.length
theorem K5 {l:List kI} {o:kI}:∀{k:Nat} {ps:List qc},uE l o k=some ps->ps.length=k
 | 0,ps,h=>by grind [uE]
 | k+1,ps,h=>by
  simp only[uE] at h;cases e:uE l o k with
  | none=>grind
  | some qs =>
   rw[e] at h;simp only at h;cases g:W7 l o (vh o.i.qH k).name with
   | none=>grind
   | some t =>
    rw[g] at h;simp only at h;injection h with h;subst h;rw[gM,K5 e];rfl
structure F8 where
 page:Int
 data:ByteArray
 df:List mZ
def eD (s:bD):F8:=⟨s.page,s.data,s.df⟩
def ac1 (o:kI) (ps:List qc) (s:qw) (m:Nat):F8:=⟨o.base+s.page+(m:Int),wI s m,kZ (o.base+s.page+(m:Int)) ps⟩
def Ay (o:kI) (ps:List qc) (s:qw) (n:Nat):List F8:=(List.range n).map (ac1 o ps s)
def yM (o:kI) (ps:List qc):Nat->List F8
 | 0=>[]
 | k+1=>yM o ps k++Ay o ps (fh o.i.jT k) (fh o.i.jT k).aY.toNat
def uF (l:List kI):Nat->Option (List F8)
 | 0=>some []
 | k+1=>match uF l k with
  | none=>none
  | some E=>match wB l (dX l k) with
   | none=>none
   | some ps=>some (E++yM (dX l k) ps (dX l k).i.jT.length)
def tu (l:List kI):Option (List F8):=uF l l.length
theorem TF (o:kI) (ps:List qc) (s:qw) (n:Nat):Ay o ps s (n+1)=Ay o ps s n++[ac1 o ps s n]:=by
 grind [Ay,List.range_succ]
theorem Ix {l:List kI} {k:Nat} (h:uF l k=none):∀n,k<=n->uF l n=none
 | 0,hn=>by grind
 | n+1,hn=>by
  by_cases e:k=n+1
  . grind
  simp only[uF];rw[Ix h n ω]
theorem Q9 {l:List kI} {o:kI} (hc:mM o.i=0) (h0:1<=o.base) (h1:o.base<=2000):∀(k:Nat) (ps:List qc),k<=o.i.qH.length->uE l o k=some ps->∀j,j<ps.length->Xi (yi ps j)
 | 0,ps,_,h,j,hj=>by grind [uE]
 | k+1,ps,hk,h,j,hj=>by
  simp only[uE] at h;cases e:uE l o k with
  | none=>grind
  | some qs =>
   rw[e] at h;simp only at h;cases g:W7 l o (vh o.i.qH k).name with
   | none=>grind
   | some t =>
    rw[g] at h;simp only at h;injection h with h;subst h;rw[gM] at hj;by_cases hjq:j<qs.length
    . have:=Q9 hc h0 h1 k qs ω e j hjq
      grind [yi]
    have hje:j=qs.length:=by grind
    subst hje;unfold yi;rw[jI,Eb (aJ _),P4];have hb:=TE hc k ω;refine⟨?_,?_,?_⟩
    . show 0<=o.base*16+(vh o.i.qH k).pos;omega
    . show o.base*16+(vh o.i.qH k).pos<=1000000;omega
    rfl
def rZ (rb:Option Nat) (w:World) (ao:Option Addr) (l:List mZ):Prop:=0<l.length->∃b off,ao=some (Ad b off)/\b<w.heap.size/\some b≠rb/\El w b off l
theorem rZ.has {ao:Option Addr} {l:List mZ} (h:rZ rb w ao l):mS w ao l:=λhl=>by
 obtain⟨b,off,h1,h2,_,h3⟩:=h hl
 grind
theorem rZ.below {ao:Option Addr} {l:List mZ} (h:rZ rb w ao l) (hb:Below w.heap.size w w'):rZ rb w' ao l:=λhl=>by
 obtain⟨b,off,h1,h2,h3,h4⟩:=h hl
 grind [Nat.lt_of_lt_of_le,afg,Below.size]
theorem TG {l:List mZ} (h:El w b off l) (hb:w'.heap[b]?=w.heap[b]?):El w' b off l:=λi hi=>by
 obtain⟨c0,c1⟩:=h i hi
 grind [World.cell?_of_block]
theorem rZ.grown {ao:Option Addr} {l:List mZ} (h:rZ rb w ao l) (hg:w.grownBy w' rb) (hs:w.heap.size<=w'.heap.size) (hat:rb=some g\/g=w.heap.size):rZ (some g) w' ao l:=λhl=>by
 obtain⟨b,off,h1,h2,h3,h4⟩:=h hl
 grind [TG,World.grownBy.block]
def afi (rb:Option Nat) (w:World) (hs:List bD):Prop:=∀k,k<hs.length->rZ rb w (aZ hs k).ao (aZ hs k).df
def FZ (s:bD):List Value:=[I s.page,.string s.data,.slice s.ao s.df.length s.cap]
theorem Xb (l:List bD) (x:bD) (k:Nat) (h:k<l.length):aZ (l++[x]) k=aZ l k:=by
 grind [aZ]
theorem Xc (l:List bD) (x:bD):aZ (l++[x]) l.length=x:=by
 grind [aZ]
def cD (xs ys:List bD):Prop:=ys.map eD=xs.map eD
def aV (k:aT) (hs:List bD):aT:=⟨hs,k.frames,k.slots,k.aj,k.hand⟩
theorem cD.trans {zs:List bD} (h:cD xs ys) (g:cD ys zs):cD xs zs:=Eq.trans g h
theorem cD.len (h:cD xs ys):ys.length=xs.length:=by
 have:=dO List.length h
 grind
theorem tF {a b:bD} (h:eD a=eD b):a.page=b.page/\a.data=b.data/\a.df=b.df:=by
 injection h with h1 h2 h3
 grind
theorem cD.at (h:cD xs ys) (i:Nat):eD (aZ ys i)=eD (aZ xs i):=by
 unfold cD at h;unfold aZ;have h1:(ys.map eD)[i]?=(xs.map eD)[i]?:=by rw[h]
 grind
theorem T5 {a b:bD} (h:eD a=eD b):o9 a=o9 b:=by
 obtain⟨h1,h2,h3⟩:=tF h
 grind [o9]
theorem T4 {a b:bD} (h:eD a=eD b):cK a=cK b:=by
 grind [tF,cK,lW]
theorem Gq (p:Int):∀(xs ys:List bD),cD xs ys->(dB ys p).map eD=(dB xs p).map eD
 | [],[],_=>rfl
 | [],b::r,h=>by have:=dO List.length h;grind
 | a::r,[],h=>by have:=dO List.length h;grind
 | a::r,b::t,h=>by
  have h:eD b::t.map eD=eD a::r.map eD:=h;injection h with h1 h2;have ih:=Gq p r t h2
  grind [tF,dB]
theorem Gr (h:cD xs ys) (p:Int):fE ys p=fE xs p:=by
 grind [Gq,fE,T5]
theorem XT (h:cD xs ys) (p:Int):(dB ys p).isSome=(dB xs p).isSome:=by
 have:=dO Option.isSome (Gq p xs ys h)
 grind
theorem CR (h:cD xs ys) (p:Int) (z:Bool):fM ys p z=fM xs p z:=by
 grind [fM,Gr]
theorem LJ (h:cD xs ys):dR ys=dR xs:=by
 have:∀n,ji ys n=ji xs n:=λn=>by
  induction n with
  | zero=>rfl
  | succ n ih =>
   grind [ji,T4,ng,tF,cD.at]
 grind [dR,cD.len]
theorem bg.Al {k:aT} (h:bg k) {hs:List bD} (s:cD k.aD hs):bg (aV k hs):=by
 refine⟨?_,(LJ s).trans h.m9,h.hand,λx hx=>?_,h.room,λi hi=>?_,h.slt⟩
 . have:=h.c;have e:=s.len;refine dW ?_;show(3<=k.frames.length/\k.frames.length<=64)/\k.slots.length<=512/\(1<=k.aj.length/\k.aj.length<=4)/\hs.length<=255;omega
 . have g:=h.each x hx;exact⟨g.dead,g.bu,g.m9,g.MQ,λp h1 h2=>(XT s p).trans (g.aD p h1 h2)⟩
 have g:=h.Bt i hi;exact⟨g.refs,g.zero,g.one,g.size,λd x hx=>(g.fill d x hx).trans (CR s _ _).symm⟩
theorem IQ {k:aT} {hs:List bD} (s:cD k.aD hs) (j:Nat) (p:Int):fq (aV k hs) j p=fq k j p:=by
 unfold fq;show(match bH (ak k.aj j).bl p with
  | some e=>_
  | none=>fM hs p _)=_
 rw[CR s];rfl
theorem R7 (i:Nat):fe (aV k hs) i=aV (fe k i) hs:=by
 grind [fe,Gm,aV,A3]
theorem GG (held:List Int) (hs:List bD):∀(n:Nat) (k:aT),od held n (aV k hs)=aV (od held n k) hs
 | 0,k=>rfl
 | n+1,k=>by
  unfold od;show(if oC held k=true then od held n (aV (jJ held k) hs) else aV k hs)=_;by_cases c:oC held k=true
  . rw[aQ c,aQ c];exact GG held hs n _
  grind
theorem LS (held:List Int):bT (aV k hs) held=((bT k held).1,aV (bT k held).2 hs):=by
 unfold bT;show(match yV k.frames with
  | some i=>(i,aV k hs)
  | none=>_)=_
 cases yV k.frames with
 | some i=>rfl
 | none =>
  show(_,_)=(_,_);rw[GG,show(aV (od held 70 k) hs).hand=(od held 70 k).hand from rfl,R7];rfl
theorem Gv (e:bK):ek (aV k hs) e=aV (ek k e) hs:=by unfold ek;split <;> rfl
theorem CW (p:Int) (i:Nat) (d:ByteArray) (dy:Bool):ft (aV k hs) j p i d dy=aV (ft k j p i d dy) hs:=by
 unfold ft;show(match bH (ak k.aj j).bl p with
  | none=>_
  | some e=>_)=_
 cases bH (ak k.aj j).bl p with
 | none=>rfl
 | some e=>exact Gv (gA (jb k i d dy) j ⟨p,1,i⟩) hs e
theorem Nh {k:aT} (h:bg k) {held:List Int} (hl:held.length<=2) {hs:List bD} (s:cD k.aD hs) (j:Nat) (p:Int):dI (aV k hs) j p held=((dI k j p held).1,aV (dI k j p held).2 hs):=by
 have b:=(tI h hl).kept.aD;unfold dI;show(match bH (ak k.aj j).bl p with
  | some e=>_
  | none=>_)=_
 rw[LS];cases bH (ak k.aj j).bl p with
 | none =>
  dsimp only;rw[CW];show(_,aV (ft _ _ _ _ (fM hs p _) _) hs)=_;rw[CR s,b];rfl
 | some e =>
  dsimp only;by_cases c:e.kind=1
  . grind
  rw[aH c,aH c,CW];rfl
theorem R9 (held:List Int) (j:Nat) (p:Int) (a:Nat):ll (aV k hs) j p a held=((ll k j p a held).1,aV (ll k j p a held).2 hs):=by
 grind [ll,LS,aV,CW]
theorem RZ {k:aT} (h:bg k) {held:List Int} (hl:held.length<=2) {hs:List bD} (s:cD k.aD hs) (j:Nat) (p way:Int):dU (aV k hs) j p way held=((dU k j p way held).1,aV (dU k j p way held).2 hs):=by
 have e:iJ (aV k hs) j p way held=((iJ k j p way held).1,aV (iJ k j p way held).2 hs):=by
  grind [iJ,Nh,R9]
 unfold dU;rw[e];rfl
theorem tE {k:aT} (h:bg k) {j:Nat} (hj:j<k.aj.length) {a n way:Int} (h1:eZ k j (a/16)) {hs:List bD} (s:cD k.aD hs):bk (aV k hs) j a n way=((bk k j a n way).1,aV (bk k j a n way).2 hs):=by
 grind [rQ,fD,RZ,kO,bk,fY.kept,fT.aD,fY.right]
theorem CT (k:aT) (hs:List bD) (ids:List Nat) (s:ByteArray):∀n,lZ (aV k hs) ids s n=aV (lZ k ids s n) hs
 | 0=>rfl
 | n+1=>by
  unfold lZ;rw[CT k hs ids s n];rfl
theorem Gn {k:aT} (h:bg k) {j:Nat} (hj:j<k.aj.length) {a:Int} {d:ByteArray} (h1:eZ k j (a/16)) {hs:List bD} (s:cD k.aD hs):nY (aV k hs) j a d=aV (nY k j a d) hs:=by
 unfold nY;rw[tE h hj h1 s];exact CT _ _ _ _ _
theorem LV (k:aT) (hs:List bD) (es:List bK) (p:bK->Bool):∀n,dQ (aV k hs) es p n=aV (dQ k es p n) hs
 | 0=>rfl
 | n+1=>by
  unfold dQ;rw[LV k hs es p n]
  grind [Gv]
theorem uW (p:bK->Bool):dn (aV k hs) j p=aV (dn k j p) hs:=by
 grind [dn,nZ,aV,LV]
theorem GH (l:List aU):lj (aV k hs) j l=aV (lj k j l) hs:=by
 unfold lj;rw[uW];rfl
theorem I2:ql (aV k hs) j=aV (ql k j) hs:=by
 unfold ql;rw[uW];rfl
theorem GC (e:bK) (d:Int):kv (aV k hs) e d=aV (kv k e d) hs:=by unfold kv;split <;> rfl
theorem Gp (k:aT) (hs:List bD) (es:List bK):∀n,fH (aV k hs) es n=aV (fH k es n) hs
 | 0=>rfl
 | n+1=>by
  unfold fH;rw[Gp k hs es n,GC]
theorem I0:oD (aV k hs) j=aV (oD k j) hs:=by
 grind [oD,aV,Gp]
structure aI (D:Nat->Prop) (w w':World):Prop where
 os:w'.os=w.os
 tape:w'.tape=w.tape
 output:w'.output=w.output
 size:w.heap.size<=w'.heap.size
 block:∀b,b<w.heap.size->¬D b->w'.heap[b]?=w.heap[b]?
theorem aI.refl (D:Nat->Prop) (w:World):aI D w w:=⟨rfl,rfl,rfl,aJ _,λ_ _ _=>rfl⟩
theorem aI.trans {D1:Nat->Prop} {w1 w2:World} (h:aI D w w1) (g:aI D1 w1 w2) (hd:∀b,b<w.heap.size->D1 b->D b):aI D w w2 :=
 ⟨g.os.trans h.os,g.tape.trans h.tape,g.output.trans h.output,gj h.size g.size,λb hb hn=>(g.block b (gm hb h.size) (λk=>hn (hd b hb k))).trans (h.block b hb hn)⟩
theorem aI.mono {D1:Nat->Prop} (h:aI D w w') (hd:∀b,b<w.heap.size->D b->D1 b):aI D1 w w':=⟨h.os,h.tape,h.output,h.size,λb hb hn=>h.block b hb (λk=>hn (hd b hb k))⟩
theorem aI.cA (h:Below w.heap.size w w'):aI D w w':=⟨h.os,h.tape,h.output,h.size,λb hb _=>h.block b hb⟩
theorem aI.below {N:Nat} {w0:World} (h:Below N w0 w) (g:aI D w w') (hN:N<=w.heap.size) (hd:∀b,D b->N<=b):Below N w0 w' :=
 h.trans ⟨g.os,g.tape,g.output,g.size,λb hb=>g.block b (gm hb hN) (λk=>Γ)⟩
theorem aI.alloc (D:Nat->Prop) (w:World) (o:Obj):aI D w (w.alloc o):=aI.cA ((aN _ _).alloc (aJ _) o)
theorem aI.drew (D:Nat->Prop) (w:World):aI D w w.drew:=aI.cA (aN _ _).drew
theorem aI.set (D:Nat->Prop) (w:World) (a:Addr) (v:Value) (h:D a.block):aI D w (w.setCell a v):=by
 have hb:=(aN 0 w).setCell (p:=a) (rB _) v;exact⟨hb.os,hb.tape,hb.output,hb.size,λb _ hn=>Below.heap_setCell w a v b (λe=>hn (e ▸ h))⟩
theorem aI.grown {row:Option Nat} (h:w.grownBy w' row) (hd:∀k,row=some k->D k):aI D w w' :=
 ⟨h.os,h.tape,h.output,h.size,λb hb hn=>h.block b hb (λe=>hn (hd b e.symm))⟩
theorem aI.keep {o:Obj} (h:aI D w w') (hb:w.heap[b]?=some o) (hn:¬D b):w'.heap[b]?=some o:=(h.block b (aM hb) hn).trans hb
theorem aI.cell {p:Addr} {v:Value} (h:aI D w w') (hp:w.cell? p=some v) (hn:¬D p.block):w'.cell? p=some v :=
 (Hm (h.block p.block (nu w p hp) hn)).trans hp
theorem aI.row {v:Value} {n:Nat} {xs:List Value} (h:aI D w w') (hr:w.ownsRow base e size v n xs) (hn:∀g,v.ownBlock=some g->¬D g):w'.ownsRow base e size v n xs:=by
 refine⟨hr.1,?_⟩;rcases hr.2 with h0 | ⟨g,cap,b,hv,hb,hg,h1,h2,h3,h4⟩
 . grind
 exact .inr ⟨g,cap,b,hv,hb,h.keep hg (hn g (by rw[hv];rfl)),h1,h2,h3,h4⟩
theorem fI {n:Nat} {xs:List Value} (hr:w.ownsRow base e size (.slice (some (Ad g 0)) n cap) n xs) (j:Nat) (u:Value) :
  (w.setCell (Ad g j) u).ownsRow base e size (.slice (some (Ad g 0)) n cap) n (xs.set j u):=by
 refine⟨by rw[gX];exact hr.1,?_⟩;rcases hr.2 with⟨h0,_⟩ | ⟨g',h,b,hv,hb,hg,h1,h2,h3,h4⟩
 . cases h0
 injection hv with e1 e2 e3;injection e1 with e1;injection e1 with e1 _ _;subst e1 e3;refine .inr ⟨g,cap,b.setIfInBounds j u,rfl,hb,dm hg j u,h1,h2,Γ,?_⟩;rw[Array.toList_setIfInBounds,<- h4];exact List.take_set.symm ▸ rfl
theorem iN {n:Nat} {xs:List Value} (hr:w.ownsRow base e size (.slice (some (Ad g 0)) n cap) n xs) (j:Nat):w.frozen? (Ad g j)=false:=by
 rcases hr.2 with⟨h0,_⟩ | ⟨g',b,h,hv,hb,hg,h1,h2,h3,h4⟩
 . cases h0
 grind [br]
theorem Mo (w:World) (t ty:TypeId) (base:Nat) (e:TypeId) (i:TypeInfo) (z:Value) (size bytes:Nat) (ht:P.underlying t=some (.slice e)) (hi:P.info? e=some i) (hz:i.zero=some z)
  (hsize:i.size=size) (hby:i.bytes=bytes) (hzs:z.cells.size=size) (hsz:0<size)
  (v:Value) (n:Nat) (xs:List Value) (hown:w.ownsRow base e size v n xs)
  (ao:Option Addr) (m c:Nat) (news:List Value) (hl:news.length=m*size) (hnews:0<m->∃ad,ao=some ad/\∀j u,news[j]?=some u->w.cell? (ad.add j)=some u) (h1:∀u∈news,u.oneCell'=true)
  (h63:n+m<=maxLen) (hbytes:(n+m)*bytes<=140737488355328) (hbase:base<=w.heap.size) :
  ∃v' w',(Builtin.append_ #[t,t] ty #[v,.slice ao m c]).run P w=.ok v' w' /\
   w'.ownsRow base e size v' (n+m) (xs++news)/\w.grownBy w' v.ownBlock/\(v'.ownBlock=v.ownBlock\/v'.ownBlock=some w.heap.size):=by
 by_cases h0:0<m
 . obtain⟨ad,rfl,hc⟩:=hnews h0;obtain⟨g,cap,w',hr,h2,h3,h4,h5⟩:=run_append_lies (P:=P) w t ty base e i z size bytes ht hi hz hsize hby hzs hsz v n xs hown ad m c news hl hc h1 h0 h63 hbytes hbase _ rfl;refine⟨_,w',hr,h2,h3,?_⟩;rcases h4 with h4 | h4
   . exact .inl h4.symm
   exact .inr (by rw[h4];rfl)
 obtain rfl:m=0:=by omega
 have hn:news=[]:=mR ω;subst hn;have r:Src P i.size t (.slice ao 0 c) 0 [] w:=⟨.inl ⟨_,ht⟩,λw'=>ρ,by cases ao <;> simp[Builtin.firstCells,loadCells,loadCellsFrom],by cases ao <;> simp[Builtin.firstCells,loadCells,loadCellsFrom],ξ,ξ⟩;have h:∃b cap,v=.slice b n cap/\n<=cap:=by
  rcases hown.2 with⟨h0,h1⟩ | ⟨g',q,y,hv,hb,hg,h1,h2,h3,h4⟩
  . grind
  grind
 grind [run_append_nothing,World.grownBy.refl]
theorem qZ {o:Oper} {a:Act} {K:Act->World->Prop} {Q:Exit->Act->World->Prop} (s x:Operand) (t:TypeId)
  (ho:o.op=.call { callee:=.builtin .append,args:=#[s,x],argTypes:=#[t,t] })
  (base:Nat) (e:TypeId) (i:TypeInfo) (z:Value) (size bytes:Nat) (ht:P.underlying t=some (.slice e)) (hi:P.info? e=some i) (hz:i.zero=some z)
  (hsize:i.size=size) (hby:i.bytes=bytes) (hzs:z.cells.size=size) (hsz:0<size)
  (v:Value) (n:Nat) (xs:List Value) (hs:a.eval s=v) (hown:w.ownsRow base e size v n xs)
  (ao:Option Addr) (m c:Nat) (news:List Value) (hx:a.eval x=.slice ao m c) (hl:news.length=m*size) (hnews:0<m->∃ad,ao=some ad/\∀j u,news[j]?=some u->w.cell? (ad.add j)=some u) (h1:∀u∈news,u.oneCell'=true)
  (h63:n+m<=maxLen) (hbytes:(n+m)*bytes<=140737488355328) (hbase:base<=w.heap.size)
  (h:∀v' w',w'.ownsRow base e size v' (n+m) (xs++news)->w.grownBy w' v.ownBlock->(v'.ownBlock=v.ownBlock\/v'.ownBlock=some w.heap.size)->K (a.put o.dst v') w'):o.wp P a w K Q:=by
 obtain⟨v',w',hr,h2,h3,h4⟩:=Mo (P:=P) w t o.type base e i z size bytes ht hi hz hsize hby hzs hsz v n xs hown ao m c news hl hnews h1 h63 hbytes hbase;unfold Oper.wp execOp;simp only[ho,resolve,invoke,builtin,Sem.run_bind,Sem.run_pure,Wj,List.map_toArray,Kl,List.map_nil,hs,hx,hr];exact h v' w' h2 h3 h4
theorem qm {ops:Array Oper} {rest:List Oper} {o:Oper} {a:Act} {Q:Exit->Act->World->Prop} (hgd:o.guard=none) (s x:Operand) (t:TypeId)
  (ho:o.op=.call { callee:=.builtin .append,args:=#[s,x],argTypes:=#[t,t] })
  (base:Nat) (e:TypeId) (i:TypeInfo) (z:Value) (size bytes:Nat) (ht:P.underlying t=some (.slice e)) (hi:P.info? e=some i) (hz:i.zero=some z)
  (hsize:i.size=size) (hby:i.bytes=bytes) (hzs:z.cells.size=size) (hsz:0<size)
  (v:Value) (n:Nat) (xs:List Value) (hs:a.eval s=v) (hown:w.ownsRow base e size v n xs)
  (ao:Option Addr) (m c:Nat) (news:List Value) (hx:a.eval x=.slice ao m c) (hl:news.length=m*size) (hnews:0<m->∃ad,ao=some ad/\∀j u,news[j]?=some u->w.cell? (ad.add j)=some u) (h1:∀u∈news,u.oneCell'=true)
  (h63:n+m<=maxLen) (hbytes:(n+m)*bytes<=140737488355328) (hbase:base<=w.heap.size)
  (h:∀v' w',w'.ownsRow base e size v' (n+m) (xs++news)->w.grownBy w' v.ownBlock->(v'.ownBlock=v.ownBlock\/v'.ownBlock=some w.heap.size)->wpList P ops Q rest (a.put o.dst v') w'):wpList P ops Q (o::rest) a w :=
 wpList_plain hgd λ_ hK=>qZ s x t ho base e i z size bytes ht hi hz hsize hby hzs hsz v n xs hs hown ao m c news hx hl hnews h1 h63 hbytes hbase λv' w' h2 h3 h4=>hK _ _ (h v' w' h2 h3 h4)
theorem Bd {ops:Array Oper} {o:Oper} {a:Act} {K:Act->World->Prop} {Q:Exit->Act->World->Prop} {E:Prop} (hgd:o.guard=none) (s x:Operand) (t:TypeId)
  (ho:o.op=.call { callee:=.builtin .append,args:=#[s,x],argTypes:=#[t,t] })
  (base:Nat) (e:TypeId) (i:TypeInfo) (z:Value) (size bytes:Nat) (ht:P.underlying t=some (.slice e)) (hi:P.info? e=some i) (hz:i.zero=some z)
  (hsize:i.size=size) (hby:i.bytes=bytes) (hzs:z.cells.size=size) (hsz:0<size)
  (v:Value) (n:Nat) (xs:List Value) (hs:a.eval s=v) (hown:w.ownsRow base e size v n xs)
  (ao:Option Addr) (m c:Nat) (news:List Value) (hx:a.eval x=.slice ao m c) (hl:news.length=m*size) (hnews:0<m->∃ad,ao=some ad/\∀j u,news[j]?=some u->w.cell? (ad.add j)=some u) (h1:∀u∈news,u.oneCell'=true)
  (h63:n+m<=maxLen) (hbytes:(n+m)*bytes<=140737488355328) (hbase:base<=w.heap.size)
  (h:∀v' w',w'.ownsRow base e size v' (n+m) (xs++news)->w.grownBy w' v.ownBlock->(v'.ownBlock=v.ownBlock\/v'.ownBlock=some w.heap.size)->K (a.put o.dst v') w') :
  if Region.wanted o (yielded ops a.tmps)=true then Oper.wp P o a w K Q else E:=by
 have hw:Region.wanted o (yielded ops a.tmps)=true:=by simp[Region.wanted,hgd]
 rw[aQ hw];exact qZ s x t ho base e i z size bytes ht hi hz hsize hby hzs hsz v n xs hs hown ao m c news hx hl hnews h1 h63 hbytes hbase h
theorem eV {α:Type} (f:α->List Value) (k:Nat) (hf:∀x,(f x).length=k):∀l:List α,(l.flatMap f).length=l.length*k
 | []=>by simp
 | a::r=>by rw[oF,gM,hf,eV f k hf r,D5,Nat.succ_mul,Nat.add_comm]
theorem y9 {α:Type} (f:α->List Value) (k:Nat) (hf:∀x,(f x).length=k) (d:α):∀(l:List α) (i j:Nat),i<l.length->j<k->(l.flatMap f)[i*k+j]?=(f (l.getD i d))[j]?
 | [],i,j,hi,hj=>by grind
 | a::r,0,j,hi,hj=>by
  grind
 | a::r,i+1,j,hi,hj=>by
  rw[oF,Eb Γ,hf,show(i+1)*k+j-k=i*k+j by grind];exact y9 f k hf d r i j Γ hj
theorem kW {α:Type} (f:α->List Value) (k:Nat) (hf:∀x,(f x).length=k) (d:α) (x:α) (j:Nat) (v:Value) (hj:j<k):∀(l:List α) (i:Nat),i<l.length->f x=(f (l.getD i d)).set j v->(l.set i x).flatMap f=(l.flatMap f).set (i*k+j) v
 | [],i,hi,_=>by rfl
 | a::r,0,hi,e=>by
  grind
 | a::r,i+1,hi,e=>by
  rw[ed,oF,oF,zJ _ _ Γ,hf,show(i+1)*k+j-k=i*k+j by grind,kW f k hf d x j v hj r i Γ e]
theorem kF {α:Type} {k:Nat} (f:α->List Value) (hf:∀x,(f x).length=k) (d:α) {l:List α} (hr:w.ownsRow base e k (.slice (some (Ad g 0)) l.length cap) l.length (l.flatMap f)) (i j:Nat) (hi:i<l.length) (hj:j<k):w.cell? (Ad g (i*k+j))=(f (l.getD i d))[j]?:=by
 have:i*k+j<l.length*k:=by
  have:=Nat.mul_le_mul_right k (show i+1<=l.length from hi)
  grind
 exact(hr.cellAt _ this).trans (y9 f k hf d l i j hi hj)
theorem bh {v:Value} {n:Nat} {xs:List Value} (h:w.ownsRow base e size v n xs):∃ao cap,v=.slice ao n cap/\n<=cap/\(0<n->∃g,ao=some (Ad g 0)/\base<=g/\g<w.heap.size):=by
 rcases h.2 with⟨h0,h1⟩ | ⟨g',b,q,hv,hb,hg,h1,h2,h3,h4⟩
 . grind
 grind
theorem oQ {base':Nat} {v:Value} {n:Nat} {xs:List Value} (h:w.ownsRow base e size v n xs) (hb:∀g,v.ownBlock=some g->base'<=g):w.ownsRow base' e size v n xs:=by
 refine⟨h.1,?_⟩;rcases h.2 with h0 | ⟨g,cap,b,hv,_,hg,h1,h2,h3,h4⟩
 . grind
 exact .inr ⟨g,cap,b,hv,hb g (by rw[hv];rfl),hg,h1,h2,h3,h4⟩
theorem cN (w:World) (g j b o:Nat) (v:Value) (h:b≠g):(w.setCell (Ad g j) v).cell? (Ad b o)=w.cell? (Ad b o):=Hm (Below.heap_setCell w (Ad g j) v b h)
theorem vw (w:World) (g:Nat) (j0 j1 j2:Nat) (v0 v1 v2:Value) (h:D g):aI D w (((w.setCell (Ad g j0) v0).setCell (Ad g j1) v1).setCell (Ad g j2) v2) :=
 ((aI.set D w (Ad g j0) v0 h).trans (aI.set D _ (Ad g j1) v1 h) (λ_ _ k=>k)).trans (aI.set D _ (Ad g j2) v2 h) (λ_ _ k=>k)
end Go.Proofs.YtlgoihmkgaaemaaGreat
