import Derived.Test.YtlgoihmkgaaemaaGreatGN02
import Derived.Test.YtlgoihmkgaaemaaGreatChecked
import Derived.Deep.Slices
import Derived.ProofKit
set_option maxHeartbeats 20000000
set_option linter.unusedVariables false
set_option maxRecDepth 100000
set_option linter.unusedSimpArgs false
namespace Go.Proofs.YtlgoihmkgaaemaaGreat
open Go.RowKit
theorem GK (l:List aX) (page aQ q:Int) (how:dm->dm×Int) (h:(dQ l page aQ q how).2≠0):(dQ l page aQ q how).1=[]:=by
 grind [dQ]
theorem xE (l:List aX) (page aQ q:Int) (how:dm->dm×Int) (h:(dQ l page aQ q how).2=0) :
  bk l=0/\fT page aQ=true/\kr q=true/\gz (fD l) how page.toNat aQ.toNat=0/\(dQ l page aQ q how).1=kx (dY (fD l) how page (page+aQ)):=by
 grind [dQ]
theorem aaB (l:List aX) (page t q:Int) (hc:bk l=0) (hp:1<=page) (hq:0<=q/\q<=3):qg (dY (fD l) (eW q) page t) :=
 Ar _ (Au l hc) _ _ _ hp (fun s _ h=>by
  grind [eW]) (fun s h=>by
  grind [eW])
theorem TW (l:List aX) (page t:Int) (hc:bk l=0) (hp:1<=page):qg (dY (fD l) bM page t) :=
 Ar _ (Au l hc) _ _ _ hp (fun s _ _=>rfl) (fun s _=>⟨by simp[bM,ji],by simp[bM,ji]⟩)
theorem OU (l:List aX) (page t q:Int) (hc:bk l=0) (hp:1<=page) (hq:0<=q/\q<=3):qg (dY (fD l) (cE q) page t) :=
 Ar _ (Au l hc) _ _ _ hp (fun s hs h=>by
  grind [cE]) (fun s h=>by
  grind [cE])
theorem N6 (q:Int):kr q=true↔0<=q/\q<=3:=⟨fun h=>oP h,fun h=>gZ h⟩
theorem zF (l:List aX) (page aQ q:Int) (h:(dK l page aQ q).2=0) :
  bk (dK l page aQ q).1=0/\(∀p:Nat,1<=p->p<=255 ->
   (page<=(p:Int)/\(p:Int)<page+aQ->(aY l p).2=false/\(aY (dK l page aQ q).1 p).2=true/\(aY (dK l page aQ q).1 p).1.jG=q/\(aY (dK l page aQ q).1 p).1.zero=true) /\
   (¬(page<=(p:Int)/\(p:Int)<page+aQ)->(aY (dK l page aQ q).1 p).2=(aY l p).2/\(aY (dK l page aQ q).1 p).1.jG=(aY l p).1.jG/\(aY (dK l page aQ q).1 p).1.zero=(aY l p).1.zero)):=by
 obtain⟨hc,Hb,hq,he,hr⟩:=xE _ _ _ _ _ h;have hpb:=(oo page aQ).1 Hb;have hF:=aaB l page (page+aQ) q hc hpb.1 ((N6 q).1 hq);have hr':(dK l page aQ q).1=_:=hr;rw[hr'];refine⟨uV _ hF,fun p h1 h2=>?_⟩;have fg:=Aw _ hF p (by omega);have fs:=Av l hc p;refine⟨fun hin=>?_,fun hout=>?_⟩
 · have he':=GV _ _ _ _ he p (by omega) (by omega)
   grind [eW,dY]
 grind [dY]
theorem wL (l:List aX) (page aQ:Int) (h:(cR l page aQ).2=0) :
  bk (cR l page aQ).1=0/\(∀p:Nat,1<=p->p<=255 ->
   (page<=(p:Int)/\(p:Int)<page+aQ->(aY (cR l page aQ).1 p).2=false) /\
   (¬(page<=(p:Int)/\(p:Int)<page+aQ)->(aY (cR l page aQ).1 p).2=(aY l p).2/\(aY (cR l page aQ).1 p).1.jG=(aY l p).1.jG/\(aY (cR l page aQ).1 p).1.zero=(aY l p).1.zero)):=by
 obtain⟨hc,Hb,hq,he,hr⟩:=xE _ _ _ _ _ h;have hpb:=(oo page aQ).1 Hb;have hF:=TW l page (page+aQ) hc hpb.1;have hr':(cR l page aQ).1=_:=hr;rw[hr'];refine⟨uV _ hF,fun p h1 h2=>?_⟩;have fg:=Aw _ hF p (by omega);have fs:=Av l hc p;refine⟨fun hin=>?_,fun hout=>?_⟩
 · simp only[dY] at fg;rw[aC hin] at fg;exact fg.1
 grind [dY]
theorem ub (l:List aX) (page aQ q:Int) (h:(bV l page aQ q).2=0) :
  bk (bV l page aQ q).1=0/\(∀p:Nat,1<=p->p<=255 ->
   ((aY (bV l page aQ q).1 p).2=(aY l p).2/\(aY (bV l page aQ q).1 p).1.zero=(aY l p).1.zero) /\
   (page<=(p:Int)/\(p:Int)<page+aQ->(aY (bV l page aQ q).1 p).2=true/\(aY (bV l page aQ q).1 p).1.jG=q) /\
   (¬(page<=(p:Int)/\(p:Int)<page+aQ)->(aY (bV l page aQ q).1 p).1.jG=(aY l p).1.jG)):=by
 obtain⟨hc,Hb,hq,he,hr⟩:=xE _ _ _ _ _ h;have hpb:=(oo page aQ).1 Hb;have hF:=OU l page (page+aQ) q hc hpb.1 ((N6 q).1 hq);have hr':(bV l page aQ q).1=_:=hr;rw[hr'];refine⟨uV _ hF,fun p h1 h2=>?_⟩;have fg:=Aw _ hF p (by omega);have fs:=Av l hc p;simp only[dY] at fg;by_cases hin:page<=(p:Int)/\(p:Int)<page+aQ
 · have he':=GV _ _ _ _ he p (by omega) (by omega)
   grind [cE]
 grind
theorem RY (l:List aX) (page aQ q:Int):dO (dK l page aQ q).1:=by
 by_cases h:(dK l page aQ q).2=0
 · exact lK _ (zF l page aQ q h).1
 grind [dK,GK,EA]
theorem XI (l:List aX) (page aQ:Int):dO (cR l page aQ).1:=by
 by_cases h:(cR l page aQ).2=0
 · exact lK _ (wL l page aQ h).1
 grind [cR,GK,EA]
theorem RX (l:List aX) (page aQ q:Int):dO (bV l page aQ q).1:=by
 by_cases h:(bV l page aQ q).2=0
 · exact lK _ (ub l page aQ q h).1
 grind [bV,GK,EA]
open Go.RowKit Go.Deep
theorem acO:Tryz.prog.cellsOf 139=4:=by rfl
theorem aeW:Tryz.prog.cellsOf 3=1:=by rfl
theorem aeV:Tryz.prog.cellsOf 4=1:=by rfl
theorem MR (n:Int) (h:(Lit.int .i64 n).wf=true):uo n:=by
 grind [Lit.wf,IntKind.min,IntKind.max,IntKind.signed,IntKind.bits,uo]
section
variable {H:Type} {enc:TypeId×Value->H} {w:World} {base:Nat} {spare:Nat->Bool} {held:Bool}
theorem aaz {n:Nat} {a:Addr} {cs:List Value} {x:DataW H×List MemPlace} (hc:w.cells? base a 4=some cs) (h:DataW.trod enc Tryz.prog w base spare held n 139 cs=some x) :
  ∃q:Int×Int×Int×Bool,w.cell? (a.add 0)=some (I q.1)/\w.cell? (a.add 1)=some (I q.2.1)/\w.cell? (a.add 2)=some (I q.2.2.1)/\w.cell? (a.add 3)=some (.bool q.2.2.2)/\uo q.1/\uo q.2.1/\uo q.2.2.1:=by
 obtain⟨_,hlen,hcell⟩:=Pd hc;obtain⟨xs,k,hk,hxy,_,hxl,hf⟩:=Pc Tryz.underlying139 h
 match cs,hlen with
 | [v0,v1,v2,v3],_ =>
  have g0:DataW.trod enc Tryz.prog w base spare held k 3 (([v0,v1,v2,v3].drop 0).take (Tryz.prog.cellsOf 3))=xs[0]?:=hf 0 _ rfl;have g1:DataW.trod enc Tryz.prog w base spare held k 3 (([v0,v1,v2,v3].drop 1).take (Tryz.prog.cellsOf 3))=xs[1]?:=hf 1 _ rfl;have g2:DataW.trod enc Tryz.prog w base spare held k 3 (([v0,v1,v2,v3].drop 2).take (Tryz.prog.cellsOf 3))=xs[2]?:=hf 2 _ rfl;have g3:DataW.trod enc Tryz.prog w base spare held k 4 (([v0,v1,v2,v3].drop 3).take (Tryz.prog.cellsOf 4))=xs[3]?:=hf 3 _ rfl;simp only[aeW,aeV] at g0 g1 g2 g3;have e0:=hcell 0 (by omega);have e1:=hcell 1 (by omega);have e2:=hcell 2 (by omega);have e3:=hcell 3 (by omega)
  match xs,hxl with
  | [y0,y1,y2,y3],_ =>
   obtain⟨m0,c0,_,w0⟩:=Dk Tryz.underlying3 (show DataW.trod enc Tryz.prog w base spare held k 3 [v0]=some y0 from g0);obtain⟨m1,c1,_,w1⟩:=Dk Tryz.underlying3 (show DataW.trod enc Tryz.prog w base spare held k 3 [v1]=some y1 from g1);obtain⟨m2,c2,_,w2⟩:=Dk Tryz.underlying3 (show DataW.trod enc Tryz.prog w base spare held k 3 [v2]=some y2 from g2);obtain⟨b3,c3,_⟩:=DataW.trod_bool Tryz.underlying4 (show DataW.trod enc Tryz.prog w base spare held k 4 [v3]=some y3 from g3);simp only[AG,Dh] at c0 c1 c2 c3;subst c0;subst c1;subst c2;subst c3;exact⟨(m0,m1,m2,b3),e0,e1,e2,e3,MR _ w0,MR _ w1,MR _ w2⟩
theorem TV {fuel:Nat} {a0:Option Addr} {len cap:Nat} {x:DataW H×List MemPlace} (h:DataW.trod enc Tryz.prog w base spare held fuel 22 [.slice a0 len cap]=some x) :
  ∃l:List aX,l.length=len/\fZ w (.slice a0 len cap) l/\(∀i,i<l.length->B0 (bC l i))/\(len=0∨∃el sp,x.1=.slice el sp/\el.length=len):=by
 rcases open_slice Tryz.underlying22 h with⟨hcs,_⟩ | ⟨a,len',cap',m,n,D,Pl,hcs,hb,hl,hm,hmm,rfl,hx⟩
 · simp at hcs;obtain⟨rfl,rfl,rfl⟩:=hcs;exact⟨[],rfl,⟨none,0,rfl,.inl rfl⟩,fun i hi=>by grind,.inl rfl⟩
 · simp at hcs;obtain⟨rfl,rfl,rfl⟩:=hcs;have hlm:len<=m:=by grind
   have each:∀i,i<len->∃q:Int×Int×Int×Bool,w.cell? (a.add (i*4))=some (I q.1)/\w.cell? (a.add (i*4+1))=some (I q.2.1)/\w.cell? (a.add (i*4+2))=some (I q.2.2.1)/\w.cell? (a.add (i*4+3))=some (.bool q.2.2.2)/\uo q.1/\uo q.2.1/\uo q.2.2.1:=by
    intro i hi;obtain⟨cs',h1,h2⟩:=hx i (by omega);rw[acO] at h1;obtain⟨q,e0,e1,e2,e3,f⟩:=aaz h1 h2
    grind [add_add]
   obtain⟨g,hg⟩:=choose_lt each;have hat:∀i,i<len->bC ((List.range len).map fun i=>(⟨(g i).1,(g i).2.1,(g i).2.2.1,(g i).2.2.2⟩:aX)) i=⟨(g i).1,(g i).2.1,(g i).2.2.1,(g i).2.2.2⟩:=by
    grind [bC]
   refine⟨(List.range len).map fun i=>⟨(g i).1,(g i).2.1,(g i).2.2.1,(g i).2.2.2⟩,by simp,?_,fun i hi=>?_,.inr ⟨_,_,rfl,by simp⟩⟩
   · by_cases h0:len=0
     · subst h0;exact⟨some a,cap,by simp,.inl (by simp)⟩
     · obtain⟨b,off,spot⟩:=a;have hc:=(hg 0 (by omega)).1;have hspot:spot=none:=by simpa [Addr.add] using Pb hc
       subst hspot;refine⟨some (Ad b off),cap,by simp,.inr ⟨b,off,rfl,fun i hi=>?_⟩⟩
       grind [Addr.add_lit]
   · have hi':i<len:=by grind
     rw[hat i hi'];obtain⟨_,_,_,_,f1,f2,f3⟩:=hg i hi';exact⟨f1,f2,f3⟩
end
open Go.RowKit
open Go.RowKit
open Go.RowKit
theorem acF (x y:Int) (V:World):(Op.equalIn 10000 75 (.agg #[I x,I y]) (.agg #[I 0,I 0])).run Tryz.prog V=.ok (decide (x=0/\y=0)) V:=by
 by_cases h1:x=0
 · by_cases h2:y=0
   · subst h1;subst h2;simp[go_sem]
   · have hq:=mF.2 h2;have hd:decide (x=0/\y=0)=false:=jl (fun g=>h2 g.2);rw[hd];subst h1;simp[go_sem,hq]
 · have hq:=mF.2 h1;have hd:decide (x=0/\y=0)=false:=jl (fun g=>h1 g.1);rw[hd];simp[go_sem,hq]
theorem MP (p:bT) (w:World):Calls Tryz.prog 146 #[p.val] w fun e w'=>e=.returned (.bool (fA p))/\Below w.heap.size w w':=by
 obtain⟨r,pc,st,cd,fk,fa⟩:=p;unfold bT.val bT.row fA xD;simp only;have hEQ:=fun V=>acF fk fa V
 by_cases h1:st=1
 · subst h1;by_cases hc:cd=0
   · subst hc;go_enter Tryz.func146,Tryz.ntmps146;go_wp2;go_ret;exact⟨by simp,(aK _ _).alloc (aI _) _⟩
   · have hci:(cd==0)=false:=by rw[mF];exact hc
     go_enter Tryz.func146,Tryz.ntmps146;go_wp2;go_ret;exact⟨by simp[hc],(aK _ _).alloc (aI _) _⟩
 · have h1i:(st==1)=false:=by rw[mF];exact h1
   rw[aA h1];by_cases h2:st=2
   · subst h2;clear h1 h1i;go_enter Tryz.func146,Tryz.ntmps146;go_wp2;go_ret;exact⟨by simp,(aK _ _).alloc (aI _) _⟩
   · have h2i:(st==2)=false:=by rw[mF];exact h2
     rw[aA h2];by_cases h3:st=3
     · subst h3;clear h1 h1i h2 h2i;by_cases hc:cd=0
       · subst hc;by_cases hk:1<=fk
         · go_enter Tryz.func146,Tryz.ntmps146;go_wp2;go_ret;exact⟨by simp[hk],(aK _ _).alloc (aI _) _⟩
         · go_enter Tryz.func146,Tryz.ntmps146;go_wp2;go_ret;exact⟨by simp;omega,(aK _ _).alloc (aI _) _⟩
       · have hci:(cd==0)=false:=by rw[mF];exact hc
         go_enter Tryz.func146,Tryz.ntmps146;go_wp2;go_ret;exact⟨by simp[hc],(aK _ _).alloc (aI _) _⟩
     · have h3i:(st==3)=false:=by rw[mF];exact h3
       rw[aA h3];go_enter Tryz.func146,Tryz.ntmps146;go_wp2;go_ret;exact⟨rfl,(aK _ _).alloc (aI _) _⟩
open Go.RowKit
structure pL where
 page:Int
 aQ:Int
 data:ByteArray
 wr:Bool
 ex:Bool
structure Vn where
 name:ByteArray
 pos:Int
structure Ss where
 pos:Int
 name:ByteArray
 add:Int
structure wR where
 name:ByteArray
 needs:List ByteArray
 jI:List pL
 syms:List Vn
 pV:List Ss
 entry:Int
def ac8:ByteArray:=⟨#[]⟩
def Ib:pL:=⟨0,0,ac8,false,false⟩
def ajq:Vn:=⟨ac8,0⟩
def ajr:Ss:=⟨0,ac8,0⟩
def qP (l:List ByteArray) (i:Nat):ByteArray:=l.getD i ac8
def eO (l:List pL) (i:Nat):pL:=l.getD i Ib
def Vm (l:List Vn) (i:Nat):Vn:=l.getD i ajq
def uW (l:List Ss) (i:Nat):Ss:=l.getD i ajr
theorem Jf {α:Type} (p:α->Bool) (d:α):∀l:List α,(∀i,i<l.length->p (l.getD i d)=true)->l.all p=true
 | [],_=>rfl
 | a::r,h=>by
  have h0:p a=true:=h 0 (by simp);have hr:=Jf p d r (fun i hi=>h (i+1) (by grind))
  grind
theorem Qd {α:Type} (p:α->Bool) (d:α):∀(l:List α) (i:Nat),i<l.length->l.all p=true->p (l.getD i d)=true
 | a::r,0,_,h=>by grind
 | a::r,i+1,hi,h=>by
  grind
theorem Nb {α:Type} (p:α->Bool) (d:α) (l:List α) (i:Nat) (hi:i<l.length) (h:p (l.getD i d)=false):l.all p=false:=by
 grind
def uL (n:Int):Bool:=decide (97<=n/\n<=122) || (decide (48<=n/\n<=57) || decide (n=95))
def uM (s:ByteArray):Bool:=decide (1<=s.size/\s.size<=12)&&s.data.toList.all (fun c=>uL c.toNat)
theorem T9 (s:ByteArray) (k:Nat) (h:k<s.size):s.data.toList.getD k 0=s[k]:=by
 have h':k<s.data.toList.length:=by simp_all
 rw[fG,lW h'];rfl
theorem aa8 (s:ByteArray) (h1:1<=s.size) (h2:s.size<=12) (h:∀k (hk:k<s.size),uL s[k].toNat=true):uM s=true:=by
 unfold uM;rw[gZ ⟨h1,h2⟩,tK];refine Jf _ 0 _ (fun i hi=>?_)
 grind [Lib.size_eq,T9]
theorem adR (s:ByteArray) (k:Nat) (hk:k<s.size) (h:uL s[k].toNat=false):uM s=false:=by
 unfold uM;rw[Nb _ 0 s.data.toList k (by simp_all) (by grind [T9]),Bool.and_false]
theorem Qc (s:ByteArray) (h:¬(1<=s.size/\s.size<=12)):uM s=false:=by
 grind [uM]
def aa7 (r:Ss):Bool:=decide (r.name.size=0) || uM r.name
def afR (i:wR):Bool:=uM i.name&&(i.needs.all uM&&(i.syms.all (fun y=>uM y.name)&&i.pV.all aa7))
def CQ (i:wR):Bool:=decide (1<=i.jI.length/\i.jI.length<=6/\i.needs.length<=4/\i.syms.length<=12/\i.pV.length<=16)
def ll (s:pL):Bool:=decide (0<=s.page/\1<=s.aQ/\s.page+s.aQ<=255/\(s.data.size:Int)<=s.aQ*16)
def Mi (i:wR):Bool:=i.jI.all ll
def Yy (l:List pL) (k:Nat):Bool:=k==0 || decide ((eO l (k-1)).page+(eO l (k-1)).aQ<=(eO l k).page)
def sM (l:List pL):Nat->Bool
 | 0=>true
 | k+1=>sM l k&&Yy l k
def CR (l:List pL):Bool:=sM l l.length
def oF (l:List ByteArray):Nat->Bool
 | 0=>true
 | k+1=>oF l k&&!(l.take k).contains (qP l k)
def xO (l:List ByteArray):Bool:=oF l l.length
def afQ (i:wR):Bool:=CR i.jI&&(xO i.needs&&xO (i.syms.map (·.name)))
def su (s:pL) (a:Int):Bool:=decide (s.page*16<=a/\a<(s.page+s.aQ)*16)
def tL:List pL->Int->Option pL
 | [],_=>none
 | s::r,a=>if su s a then some s else tL r a
def iY (l:List pL) (a:Int):Bool:=(tL l a).isSome
def Yx (l:List pL) (a:Int):Bool:=iY l a&&(iY l (a+1)&&(iY l (a+2)&&(iY l (a+3)&&(iY l (a+4)&&(iY l (a+5)&&(iY l (a+6)&&iY l (a+7)))))))
def Py (i:wR) (k:Nat):Bool:=(k==0 || decide ((uW i.pV (k-1)).pos+8<=(uW i.pV k).pos))&&Yx i.jI (uW i.pV k).pos
def J5 (i:wR):Nat->Bool
 | 0=>true
 | k+1=>J5 i k&&Py i k
def CP (i:wR):Bool:=match tL i.jI i.entry with
 | some s=>s.ex&&decide (i.entry%8=0)
 | none=>false
def Hf (i:wR):Bool:=i.syms.all (fun y=>iY i.jI y.pos)&&(J5 i i.pV.length&&CP i)
def mz (i:wR):Int:=if !afR i then 4 else if !CQ i then 2 else if !Mi i then 3 else if !afQ i then 5 else if !Hf i then 6 else 0
def Qe (w:World) (b off:Nat) (l:List ByteArray):Prop:=∀i,i<l.length->w.cell? (Ad b (off+i))=some (.string (qP l i))
def zS (w:World) (b off:Nat) (l:List pL):Prop:=∀i,i<l.length ->
 w.cell? (Ad b (off+i*5))=some (I (eO l i).page)/\w.cell? (Ad b (off+i*5+1))=some (I (eO l i).aQ) /\
 w.cell? (Ad b (off+i*5+2))=some (.string (eO l i).data)/\w.cell? (Ad b (off+i*5+3))=some (.bool (eO l i).wr)/\w.cell? (Ad b (off+i*5+4))=some (.bool (eO l i).ex)
def Vo (w:World) (b off:Nat) (l:List Vn):Prop:=∀i,i<l.length ->
 w.cell? (Ad b (off+i*2))=some (.string (Vm l i).name)/\w.cell? (Ad b (off+i*2+1))=some (I (Vm l i).pos)
def Vp (w:World) (b off:Nat) (l:List Ss):Prop:=∀i,i<l.length ->
 w.cell? (Ad b (off+i*3))=some (I (uW l i).pos)/\w.cell? (Ad b (off+i*3+1))=some (.string (uW l i).name)/\w.cell? (Ad b (off+i*3+2))=some (I (uW l i).add)
def cO (n:Int):Prop:=-9223372036854775808<=n/\n<=9223372036854775807
def cB (n:Nat):Prop:=n<=140737488351232
def afT (s:pL):Prop:=cO s.page/\cO s.aQ/\cB s.data.size
def akI (s:Vn):Prop:=cB s.name.size/\cO s.pos
def akJ (s:Ss):Prop:=cO s.pos/\cB s.name.size/\cO s.add
structure J6 (i:wR):Prop where
 name:cB i.name.size
 needs:cB i.needs.length
 need:∀k,k<i.needs.length->cB (qP i.needs k).size
 jI:cB i.jI.length
 seg:∀k,k<i.jI.length->afT (eO i.jI k)
 syms:cB i.syms.length
 sym:∀k,k<i.syms.length->akI (Vm i.syms k)
 pV:cB i.pV.length
 rel:∀k,k<i.pV.length->akJ (uW i.pV k)
 entry:cO i.entry
def gS {α:Type} (lie:World->Nat->Nat->List α->Prop) (w:World) (ao:Option Addr) (l:List α):Prop:=0<l.length->∃b off,ao=some (Ad b off)/\b<w.heap.size/\lie w b off l
structure J7 where
 an:Option Addr
 cn:Nat
 ag:Option Addr
 cg:Nat
 ay:Option Addr
 cy:Nat
 ar:Option Addr
 cr:Nat
structure qc (w:World) (a:J7) (i:wR):Prop where
 needs:gS Qe w a.an i.needs
 jI:gS zS w a.ag i.jI
 syms:gS Vo w a.ay i.syms
 pV:gS Vp w a.ar i.pV
def jJ (a:J7) (i:wR):Array Value:=#[.string i.name,.slice a.an i.needs.length a.cn,.slice a.ag i.jI.length a.cg,.slice a.ay i.syms.length a.cy,.slice a.ar i.pV.length a.cr,I i.entry]
theorem cQ {w w':World} (hb:Below w.heap.size w w') {b o:Nat} (h:b<w.heap.size):w'.cell? (Ad b o)=w.cell? (Ad b o):=hb.cell (p:=(Ad b o)) h
theorem gS.below {α:Type} {lie:World->Nat->Nat->List α->Prop} (eY:∀{w w':World} {b off:Nat} {l:List α},Below w.heap.size w w'->b<w.heap.size->lie w b off l->lie w' b off l)
  {w w':World} {ao:Option Addr} {l:List α} (h:gS lie w ao l) (hb:Below w.heap.size w w'):gS lie w' ao l:=fun hl=>by
 obtain⟨b,off,e,hlt,hh⟩:=h hl
 grind [Nat.lt_of_lt_of_le,Below.size]
theorem afS {w w':World} {b off:Nat} {l:List ByteArray} (hb:Below w.heap.size w w') (hlt:b<w.heap.size) (h:Qe w b off l):Qe w' b off l:=fun i hi=>(cQ hb hlt).trans (h i hi)
theorem zR {w w':World} {b off:Nat} {l:List pL} (hb:Below w.heap.size w w') (hlt:b<w.heap.size) (h:zS w b off l):zS w' b off l:=fun i hi=>by
 obtain⟨c0,c1,c2,c3,c4⟩:=h i hi
 grind [cQ]
theorem akG {w w':World} {b off:Nat} {l:List Vn} (hb:Below w.heap.size w w') (hlt:b<w.heap.size) (h:Vo w b off l):Vo w' b off l:=fun i hi=>by
 obtain⟨c0,c1⟩:=h i hi
 grind [cQ]
theorem akH {w w':World} {b off:Nat} {l:List Ss} (hb:Below w.heap.size w w') (hlt:b<w.heap.size) (h:Vp w b off l):Vp w' b off l:=fun i hi=>by
 obtain⟨c0,c1,c2⟩:=h i hi
 grind [cQ]
theorem qc.below {w w':World} {a:J7} {i:wR} (h:qc w a i) (hb:Below w.heap.size w w'):qc w' a i :=
 ⟨gS.below (lie:=Qe) (fun hb hlt h=>afS hb hlt h) h.needs hb,gS.below (lie:=zS) (fun hb hlt h=>zR hb hlt h) h.jI hb,gS.below (lie:=Vo) (fun hb hlt h=>akG hb hlt h) h.syms hb,gS.below (lie:=Vp) (fun hb hlt h=>akH hb hlt h) h.pV hb⟩
open Go.RowKit
theorem Xt {w:World} {v:Value} {l:List aX} (h:fZ w v l):∃ao n c,v=.slice ao n c:=by
 obtain⟨ao,cap,h,_⟩:=h
 grind
open Go.RowKit
theorem qL {a b:Bool} (h:a=b):Ending.returned (.bool a)=.returned (.bool b):=by rw[h]
open Go.RowKit
open Go.RowKit
open Go.RowKit
def PK (w:World) (b off:Nat) (l:List bT):Prop:=∀i,i<l.length->w.cell? (Ad b (off+i*13))=some (I ((aN l i).r 0))/\w.cell? (Ad b (off+i*13+1))=some (I ((aN l i).r 1))/\w.cell? (Ad b (off+i*13+2))=some (I ((aN l i).r 2))/\w.cell? (Ad b (off+i*13+3))=some (I ((aN l i).r 3))/\w.cell? (Ad b (off+i*13+4))=some (I ((aN l i).r 4))/\w.cell? (Ad b (off+i*13+5))=some (I ((aN l i).r 5))/\w.cell? (Ad b (off+i*13+6))=some (I ((aN l i).r 6))/\w.cell? (Ad b (off+i*13+7))=some (I ((aN l i).r 7))/\w.cell? (Ad b (off+i*13+8))=some (I (aN l i).pc)/\w.cell? (Ad b (off+i*13+9))=some (I (aN l i).st)/\w.cell? (Ad b (off+i*13+10))=some (I (aN l i).cd)/\w.cell? (Ad b (off+i*13+11))=some (I (aN l i).fk)/\w.cell? (Ad b (off+i*13+12))=some (I (aN l i).fa)
theorem aiI {w w':World} {b off:Nat} {l:List bT} (hb:Below w.heap.size w w') (hlt:b<w.heap.size) (h:PK w b off l):PK w' b off l:=fun i hi=>by
 obtain⟨c0,c1,c2,c3,c4,c5,c6,c7,c8,c9,c10,c11,c12⟩:=h i hi;exact⟨(cQ hb hlt).trans c0,(cQ hb hlt).trans c1,(cQ hb hlt).trans c2,(cQ hb hlt).trans c3,(cQ hb hlt).trans c4,(cQ hb hlt).trans c5,(cQ hb hlt).trans c6,(cQ hb hlt).trans c7,(cQ hb hlt).trans c8,(cQ hb hlt).trans c9,(cQ hb hlt).trans c10,(cQ hb hlt).trans c11,(cQ hb hlt).trans c12⟩
def uS (w:World) (ao:Option Addr) (l:List bT):Prop:=gS PK w ao l
theorem uS.below {w w':World} {ao:Option Addr} {l:List bT} (h:uS w ao l) (hb:Below w.heap.size w w'):uS w' ao l:=gS.below (lie:=PK) (fun hb hlt h=>aiI hb hlt h) h hb
def PJ (w:World) (b off:Nat) (l:List sI):Prop:=∀i,i<l.length->w.cell? (Ad b (off+i*2))=some (I (oW l i).proc)/\w.cell? (Ad b (off+i*2+1))=some (I (oW l i).value)
theorem aiH {w w':World} {b off:Nat} {l:List sI} (hb:Below w.heap.size w w') (hlt:b<w.heap.size) (h:PJ w b off l):PJ w' b off l:=fun i hi=>by
 obtain⟨c0,c1⟩:=h i hi;exact⟨(cQ hb hlt).trans c0,(cQ hb hlt).trans c1⟩
def wJ (w:World) (ao:Option Addr) (l:List sI):Prop:=gS PJ w ao l
theorem wJ.below {w w':World} {ao:Option Addr} {l:List sI} (h:wJ w ao l) (hb:Below w.heap.size w w'):wJ w' ao l:=gS.below (lie:=PJ) (fun hb hlt h=>aiH hb hlt h) h hb
open Go.RowKit
open Go.RowKit
def yG (p:bT) (x:Int×Int):bT:={ p with st:=3,fk:=x.1,fa:=x.2 }
def nH (pc:Int):bT:=⟨fun _=>0,pc,1,0,0,0⟩
theorem Xu (pc:Int) (w:World):Calls Tryz.prog 31 #[I pc] w fun e w'=>e=.returned (nH pc).val/\Below w.heap.size w w':=by
 unfold bT.val nH bT.row;simp only;go_enter Tryz.func31,Tryz.ntmps31;go_wp2;exact bO (v:=.agg #[I 0,I 0,I 0,I 0,I 0,I 0,I 0,I 0,I pc,I 1,I 0,I 0,I 0]) (by simp[results,Tryz.results31,go_sem]) rfl ⟨rfl,(aK _ _).alloc (aI _) _⟩
open Go.RowKit
structure gH (σ:Type) where
 load:σ->Nat->Int->Int->Int->(ByteArray×(Int×Int))×σ
 store:σ->Nat->Int->ByteArray->(Int×Int)×σ
 map:σ->Nat->Int->Int->Int->Int×σ
 pd:σ->Nat->Int->Int->Int×σ
 jt:σ->Nat->Int->Int->Int->Int×σ
 fork:σ->Nat->Int×σ
 drop:σ->Nat->σ
structure dE (σ:Type) where
 mem:σ
 ps:List bT
 out:List sI
variable {σ:Type}
def Ex (s:ByteArray):Int:=if 1<=s.size/\s.size<=8 then wrap64 (Lib.leNat s.data.toList:Nat) else 0
def mS (v n:Int):ByteArray:=⟨(Lib.leBytes n.toNat (mD v)).toArray⟩
def fy (o:gH σ) (st:dE σ) (k:Nat) (c:Int):Int×dE σ :=
 if c=1 then (0,{ st with out:=st.out++[⟨(k:Int),(aN st.ps k).r 0⟩] })
 else if c=2 then ((o.map st.mem k ((aN st.ps k).r 0) ((aN st.ps k).r 1) ((aN st.ps k).r 2)).1,{ st with mem:=(o.map st.mem k ((aN st.ps k).r 0) ((aN st.ps k).r 1) ((aN st.ps k).r 2)).2 })
 else if c=3 then ((o.pd st.mem k ((aN st.ps k).r 0) ((aN st.ps k).r 1)).1,{ st with mem:=(o.pd st.mem k ((aN st.ps k).r 0) ((aN st.ps k).r 1)).2 })
 else if c=4 then ((o.jt st.mem k ((aN st.ps k).r 0) ((aN st.ps k).r 1) ((aN st.ps k).r 2)).1,{ st with mem:=(o.jt st.mem k ((aN st.ps k).r 0) ((aN st.ps k).r 1) ((aN st.ps k).r 2)).2 })
 else if c=5 then (if (o.fork st.mem k).1=0 then ((st.ps.length:Int),{ st with mem:=(o.fork st.mem k).2,ps:=st.ps++[aN st.ps k] }) else (-1,{ st with mem:=(o.fork st.mem k).2 }))
 else if c=6 then (0,{ st with mem:=o.drop st.mem k })
 else (0,st)
def gy (o:gH σ) (st:dE σ) (k:Nat) (i:ed):(Int×(Int×Int))×dE σ :=
 if i.bad then ((0,(4,(aN st.ps k).pc)),st)
 else if i.op=9 then
  ((Ex (o.load st.mem k (wrap64 ((aN st.ps k).r i.b.toNat+i.m)) i.c 0).1.1,(o.load st.mem k (wrap64 ((aN st.ps k).r i.b.toNat+i.m)) i.c 0).1.2),{ st with mem:=(o.load st.mem k (wrap64 ((aN st.ps k).r i.b.toNat+i.m)) i.c 0).2 })
 else if i.op=10 then
  ((0,(o.store st.mem k (wrap64 ((aN st.ps k).r i.b.toNat+i.m)) (mS ((aN st.ps k).r i.a.toNat) i.c)).1),{ st with mem:=(o.store st.mem k (wrap64 ((aN st.ps k).r i.b.toNat+i.m)) (mS ((aN st.ps k).r i.a.toNat) i.c)).2 })
 else if i.op=16 then (((fy o st k i.m).1,(0,0)),(fy o st k i.m).2)
 else ((0,(0,0)),st)
def o9 (i:ed) (n:Nat) (ps:List bT):List bT:=ps.take n++(ps.drop n).map (fun p=>cZ p i 0)
def mC (o:gH σ) (st:dE σ) (k:Nat):(Int×Int)×dE σ :=
 let x:=o.load st.mem k (aN st.ps k).pc 8 2
 let s1:dE σ:={ st with mem:=x.2 }
 if ¬x.1.2.1=0 then (x.1.2,s1) else
 let i:=iG x.1.1
 let y:=gy o s1 k i
 if ¬y.1.2.1=0 then (y.1.2,y.2) else
 ((0,0),{ y.2 with ps:=o9 i st.ps.length (y.2.ps.set k (cZ (aN y.2.ps k) i y.1.1)) })
def jz (o:gH σ) (st:dE σ) (pick:Int):Int×dE σ :=
 if ¬(0<=pick/\pick<(st.ps.length:Int)) then (6,st)
 else if ¬(aN st.ps pick.toNat).st=1 then (0,st)
 else if 2000<=st.out.length then (2,st)
 else
  let r:=mC o st pick.toNat
  if r.1.1=0 then (0,r.2) else (0,{ r.2 with mem:=o.drop r.2.mem pick.toNat,ps:=r.2.ps.set pick.toNat (yG (aN r.2.ps pick.toNat) r.1) })
def dG (o:gH σ) (picks:List Int):Nat->Option (dE σ)->Option (dE σ)
 | 0,st=>st
 | n+1,st=>match dG o picks n st with
  | none=>none
  | some s=>if (jz o s (picks.getD n 0)).1=2 then none else some (jz o s (picks.getD n 0)).2
def wF (o:gH σ) (st:dE σ) (picks:List Int):Int×Option (dE σ) :=
 if 2000<picks.length then (2,none) else match dG o picks picks.length (some st) with
  | none=>(2,none)
  | some s=>(0,some s)
structure qE (o:gH σ) (Ok:σ->List Bool->Prop):Prop where
 load:∀s fl k a n way,Ok s fl->fl.getD k false=true->Ok (o.load s k a n way).2 fl
 size:∀s fl k a n way,Ok s fl->fl.getD k false=true->1<=n->n<=8->(o.load s k a n way).1.2.1=0->((o.load s k a n way).1.1.size:Int)=n
 fault:∀s fl k a n way,Ok s fl->fl.getD k false=true->0<=(o.load s k a n way).1.2.1/\(o.load s k a n way).1.2.1<=4/\((o.load s k a n way).1.2.1=0->(o.load s k a n way).1.2=(0,0))
 none:∀s fl k a n way,Ok s fl->fl.getD k false=true->¬(o.load s k a n way).1.2.1=0->(o.load s k a n way).1.1=⟨#[]⟩
 store:∀s fl k a d,Ok s fl->fl.getD k false=true->1<=d.size->d.size<=8->Ok (o.store s k a d).2 fl
 P5:∀s fl k a d,Ok s fl->fl.getD k false=true->0<=(o.store s k a d).1.1/\(o.store s k a d).1.1<=4/\((o.store s k a d).1.1=0->(o.store s k a d).1=(0,0))
 map:∀s fl k p n q,Ok s fl->fl.getD k false=true->Ok (o.map s k p n q).2 fl
 pd:∀s fl k p n,Ok s fl->fl.getD k false=true->Ok (o.pd s k p n).2 fl
 jt:∀s fl k p n q,Ok s fl->fl.getD k false=true->Ok (o.jt s k p n q).2 fl
 P4:∀s fl k,Ok s fl->fl.getD k false=true->¬(o.fork s k).1=0->Ok (o.fork s k).2 fl
 JW:∀s fl k,Ok s fl->fl.getD k false=true->(o.fork s k).1=0->Ok (o.fork s k).2 (fl++[true])
 afj:∀s fl k p n q,Ok s fl->fl.getD k false=true->0<=(o.map s k p n q).1/\(o.map s k p n q).1<=10
 PL:∀s fl k p n,Ok s fl->fl.getD k false=true->0<=(o.pd s k p n).1/\(o.pd s k p n).1<=10
 Fa:∀s fl k p n q,Ok s fl->fl.getD k false=true->0<=(o.jt s k p n q).1/\(o.jt s k p n q).1<=10
 few:∀s fl,Ok s fl->fl.length<=4
 drop:∀s fl k,Ok s fl->fl.getD k false=true->Ok (o.drop s k) (fl.set k false)
def b7 (ps:List bT):List Bool:=ps.map (fun p=>decide (p.st=1))
theorem I1 (ps:List bT) (k:Nat):(b7 ps).getD k false=(decide (k<ps.length)&&decide ((aN ps k).st=1)):=by
 unfold b7 aN;rw[fG,fG,AH];by_cases h:k<ps.length
 · rw[lW h,gZ h];simp
 · rw[Ps (by omega),jl h];rfl
theorem Al (ps:List bT) (k:Nat) (p:bT):b7 (ps.set k p)=(b7 ps).set k (decide (p.st=1)):=by
 unfold b7;rw[OZ]
theorem OL (ps:List bT) (p:bT):b7 (ps++[p])=b7 ps++[decide (p.st=1)]:=by
 unfold b7;rw[AE];rfl
open Go.RowKit
variable {σ:Type}
theorem pR (n:Int):cO (wrap64 n):=by
 unfold cO wrap64;have:=Pg n;omega
theorem aaj (n:Int):cO (IntKind.i64.wrap n):=by
 unfold cO;have:=Pg n;omega
def sH (p:bT):Prop:=(∀j,j<8->cO (p.r j))/\cO p.pc
theorem acB {p:bT} (h:sH p) (j:Nat) {v:Int} (hv:cO v):sH (p.set j v):=by
 refine⟨fun q hq=>?_,h.2⟩;show cO (if q=j then v else p.r q);split
 · exact hv
 · exact h.1 q hq
theorem ML {p:bT} (h:sH p) {v:Int} (hv:cO v):sH { p with pc:=v }:=⟨h.1,hv⟩
theorem nE {α:Type} (P:α->Prop) {c:Prop} [Decidable c] {a b:α} (h1:c->P a) (h2:¬c->P b):P (if c then a else b):=by
 by_cases h:c
 · rw[aC h];exact h1 h
 · rw[aA h];exact h2 h
theorem Xl {i:ed} (hb:i.bad=false):1<=i.op/\i.op<=16:=by
 unfold ed.bad at hb;by_cases h12:i.op=12
 · omega
 · by_cases h16:i.op=16
   · omega
   · rw[aA h12,aA h16] at hb;by_cases c1:i.op=1∨i.op=11∨i.op=15
     · omega
     · rw[aA c1] at hb;by_cases c2:2<=i.op/\i.op<=7
       · omega
       · rw[aA c2] at hb;by_cases c3:i.op=8∨i.op=13∨i.op=14
         · omega
         · rw[aA c3] at hb;by_cases c4:i.op=9∨i.op=10
           · omega
           · rw[aA c4] at hb;cases hb
theorem aam {i:ed} (hb:i.bad=false) (hf:i.fits):(i.op=15->i.a.toNat<8)/\(2<=i.op/\i.op<=7->i.b.toNat<8):=by
 obtain⟨_,⟨a0,a1⟩,⟨b0,b1⟩,_⟩:=hf;unfold ed.bad at hb;constructor
 · intro h;simp[h] at hb;omega
 · intro h;rw[aA (by omega),aA (by omega),aA (by omega),aC h,decide_eq_false_iff_not] at hb;omega
theorem Gy (P:bT->Prop) (p:bT) (i:ed) (v:Int) (hb:i.bad=false)
  (h0:P { p with pc:=wrap64 (p.pc+8) }) (hs:∀j x,(x=i.m∨x=v∨(∃y,x=wrap64 y)∨(2<=i.op/\i.op<=7/\x=M9 i.op (p.r i.b.toNat) (p.r i.c.toNat)))->P (({ p with pc:=wrap64 (p.pc+8) }:bT).set j x))
  (hp:∀y,P { p with pc:=wrap64 y }) (hg:i.op=15->P { p with pc:=p.r i.a.toNat }) (he:i.op=16->i.m=6->P { p with pc:=wrap64 (p.pc+8),st:=2,cd:=p.r 0 }):P (cZ p i v):=by
 have hr:=Xl hb;unfold cZ;simp only;refine nE P (fun _=>hs _ _ (.inl rfl)) (fun n1=>?_);refine nE P (fun g=>hs _ _ (.inr (.inr (.inr ⟨g.1,g.2,rfl⟩)))) (fun n2=>?_);refine nE P (fun _=>hs _ _ (.inr (.inr (.inl ⟨_,rfl⟩)))) (fun n3=>?_);refine nE P (fun _=>hs _ _ (.inr (.inl rfl))) (fun n4=>?_);refine nE P (fun _=>h0) (fun n5=>?_);refine nE P (fun _=>hs _ _ (.inr (.inr (.inl ⟨_,rfl⟩)))) (fun n6=>?_);refine nE P (fun _=>hp _) (fun n7=>?_);refine nE P (fun _=>nE P (fun _=>hp _) (fun _=>h0)) (fun n8=>?_);refine nE P (fun _=>nE P (fun _=>hp _) (fun _=>h0)) (fun n9=>?_);refine nE P (fun g=>hg g) (fun n10=>?_);refine nE P (fun g=>he (by omega) g) (fun n11=>?_);refine nE P (fun _=>h0) (fun n12=>?_);exact hs _ _ (.inr (.inl rfl))
theorem Xi {p:bT} {i:ed} {v:Int} (h:i.op=16) (h6:i.m=6):cZ p i v={ p with pc:=wrap64 (p.pc+8),st:=2,cd:=p.r 0 }:=by
 unfold cZ;simp[h,h6]
theorem Jx {p:bT} {i:ed} {v:Int} (hb:i.bad=false) (h:¬(i.op=16/\i.m=6)):(cZ p i v).st=p.st :=
 Gy (fun q=>q.st=p.st) p i v hb rfl (fun _ _ _=>rfl) (fun _=>rfl) (fun _=>rfl) (fun g1 g2=>(h ⟨g1,g2⟩).elim)
theorem I2 {p:bT} {i:ed} {v:Int} (hb:i.bad=false) (h:p.st=1) (hr:fA p=true):fA (cZ p i v)=true:=by
 have h2:p.cd=0/\p.fk=0/\p.fa=0:=by
  unfold fA xD at hr;rw[aC h] at hr;simp only[eQ,kX] at hr;exact hr
 have key:∀q:bT,q.st=1->q.cd=0->q.fk=0->q.fa=0->fA q=true:=fun q e1 e2 e3 e4=>by
  unfold fA xD;rw[aC e1,e2,e3,e4];rfl
 refine Gy (fun q=>fA q=true) p i v hb (key _ h h2.1 h2.2.1 h2.2.2) (fun _ _ _=>key _ h h2.1 h2.2.1 h2.2.2) (fun _=>key _ h h2.1 h2.2.1 h2.2.2) (fun _=>key _ h h2.1 h2.2.1 h2.2.2) (fun _ _=>?_);unfold fA xD;simp[h2]
theorem aeK (op b c:Int) (hb:cO b):cO (M9 op b c):=by
 have amN:∀o,cO (bits o .i64 b c):=fun o=>by
  unfold bits;exact aaj _
 unfold M9
 repeat' split
 all_goals first | exact pR _ | exact amN _
theorem N0 {p:bT} {i:ed} {v:Int} (h:sH p) (hv:cO v) (hb:i.bad=false) (hf:i.fits):sH (cZ p i v):=by
 have hn:sH { p with pc:=wrap64 (p.pc+8) }:=ML h (pR _);have hm:cO i.m:=by obtain⟨_,_,_,_,m0,m1⟩:=hf;unfold cO;omega
 have ame:=aam hb hf;refine Gy sH p i v hb hn (fun j x hx=>acB hn j ?_) (fun _=>ML h (pR _)) (fun g=>ML h (h.1 _ (ame.1 g))) (fun _ _=>⟨hn.1,hn.2⟩);rcases hx with e | e | ⟨y,e⟩ | ⟨g1,g2,e⟩
 · rw[e];exact hm
 · rw[e];exact hv
 · rw[e];exact pR _
 · rw[e];exact aeK _ _ _ (h.1 _ (ame.2 ⟨g1,g2⟩))
open Go.RowKit
end Go.Proofs.YtlgoihmkgaaemaaGreat
