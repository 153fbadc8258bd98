import Derived.Test.YtlgoihmkgaaemaaGreatGO02
import Derived.Test.YtlgoihmkgaaemaaGreatChecked
import Derived.Deep.Slices
import Derived.ProofKit
set_option maxHeartbeats 20000000
set_option linter.unusedVariables false
set_option maxRecDepth 100000
set_option linter.unusedSimpArgs false
namespace Go.Proofs.YtlgoihmkgaaemaaGreat
open Go.RowKit
theorem GV (l:List aY) (page aQ q:Int) (how:dx->dx×Int) (h:(dQ l page aQ q how).2≠0):(dQ l page aQ q how).1=[]:=by
 grind [dQ]
theorem xH (l:List aY) (page aQ q:Int) (how:dx->dx×Int) (h:(dQ l page aQ q how).2=0) :
  bj l=0/\fX page aQ=true/\kx q=true/\gF (fI l) how page.toNat aQ.toNat=0/\(dQ l page aQ q how).1=kE (dZ (fI l) how page (page+aQ)):=by
 grind [dQ]
theorem aaJ (l:List aY) (page t q:Int) (hc:bj l=0) (hp:1<=page) (hq:0<=q/\q<=3):qp (dZ (fI l) (eU q) page t) :=
 Ay _ (Az l hc) _ _ _ hp (fun s _ h=>by
  grind [eU]) (fun s h=>by
  grind [eU])
theorem Ul (l:List aY) (page t:Int) (hc:bj l=0) (hp:1<=page):qp (dZ (fI l) bK page t) :=
 Ay _ (Az l hc) _ _ _ hp (fun s _ _=>rfl) (fun s _=>⟨by simp[bK,jn],by simp[bK,jn]⟩)
theorem Pb (l:List aY) (page t q:Int) (hc:bj l=0) (hp:1<=page) (hq:0<=q/\q<=3):qp (dZ (fI l) (cC q) page t) :=
 Ay _ (Az l hc) _ _ _ hp (fun s hs h=>by
  grind [cC]) (fun s h=>by
  grind [cC])
theorem Ol (q:Int):kx q=true↔0<=q/\q<=3:=⟨fun h=>o5 h,fun h=>ic h⟩
theorem zM (l:List aY) (page aQ q:Int) (h:(dK l page aQ q).2=0) :
  bj (dK l page aQ q).1=0/\(∀p:Nat,1<=p->p<=255 ->
   (page<=(p:Int)/\(p:Int)<page+aQ->(aV l p).2=false/\(aV (dK l page aQ q).1 p).2=true/\(aV (dK l page aQ q).1 p).1.jL=q/\(aV (dK l page aQ q).1 p).1.zero=true) /\
   (¬(page<=(p:Int)/\(p:Int)<page+aQ)->(aV (dK l page aQ q).1 p).2=(aV l p).2/\(aV (dK l page aQ q).1 p).1.jL=(aV l p).1.jL/\(aV (dK l page aQ q).1 p).1.zero=(aV l p).1.zero)):=by
 obtain⟨hc,Fh,hq,he,hr⟩:=xH _ _ _ _ _ h;have hpb:=(ow page aQ).1 Fh;have hF:=aaJ l page (page+aQ) q hc hpb.1 ((Ol q).1 hq);have hr':(dK l page aQ q).1=_:=hr;rw[hr'];refine⟨ve _ hF,fun p h1 h2=>?_⟩;have fg:=AE _ hF p (by omega);have fs:=AA l hc p;refine⟨fun hin=>?_,fun hout=>?_⟩
 · have he':=G5 _ _ _ _ he p (by omega) (by omega)
   grind [eU,dZ]
 grind [dZ]
theorem wP (l:List aY) (page aQ:Int) (h:(cQ l page aQ).2=0) :
  bj (cQ l page aQ).1=0/\(∀p:Nat,1<=p->p<=255 ->
   (page<=(p:Int)/\(p:Int)<page+aQ->(aV (cQ l page aQ).1 p).2=false) /\
   (¬(page<=(p:Int)/\(p:Int)<page+aQ)->(aV (cQ l page aQ).1 p).2=(aV l p).2/\(aV (cQ l page aQ).1 p).1.jL=(aV l p).1.jL/\(aV (cQ l page aQ).1 p).1.zero=(aV l p).1.zero)):=by
 obtain⟨hc,Fh,hq,he,hr⟩:=xH _ _ _ _ _ h;have hpb:=(ow page aQ).1 Fh;have hF:=Ul l page (page+aQ) hc hpb.1;have hr':(cQ l page aQ).1=_:=hr;rw[hr'];refine⟨ve _ hF,fun p h1 h2=>?_⟩;have fg:=AE _ hF p (by omega);have fs:=AA l hc p;refine⟨fun hin=>?_,fun hout=>?_⟩
 · simp only[dZ] at fg;rw[aB hin] at fg;exact fg.1
 grind [dZ]
theorem uj (l:List aY) (page aQ q:Int) (h:(bT l page aQ q).2=0) :
  bj (bT l page aQ q).1=0/\(∀p:Nat,1<=p->p<=255 ->
   ((aV (bT l page aQ q).1 p).2=(aV l p).2/\(aV (bT l page aQ q).1 p).1.zero=(aV l p).1.zero) /\
   (page<=(p:Int)/\(p:Int)<page+aQ->(aV (bT l page aQ q).1 p).2=true/\(aV (bT l page aQ q).1 p).1.jL=q) /\
   (¬(page<=(p:Int)/\(p:Int)<page+aQ)->(aV (bT l page aQ q).1 p).1.jL=(aV l p).1.jL)):=by
 obtain⟨hc,Fh,hq,he,hr⟩:=xH _ _ _ _ _ h;have hpb:=(ow page aQ).1 Fh;have hF:=Pb l page (page+aQ) q hc hpb.1 ((Ol q).1 hq);have hr':(bT l page aQ q).1=_:=hr;rw[hr'];refine⟨ve _ hF,fun p h1 h2=>?_⟩;have fg:=AE _ hF p (by omega);have fs:=AA l hc p;simp only[dZ] at fg;by_cases hin:page<=(p:Int)/\(p:Int)<page+aQ
 · have he':=G5 _ _ _ _ he p (by omega) (by omega)
   grind [cC]
 grind
theorem Sp (l:List aY) (page aQ q:Int):dO (dK l page aQ q).1:=by
 by_cases h:(dK l page aQ q).2=0
 · exact lO _ (zM l page aQ q h).1
 grind [dK,GV,EF]
theorem Yd (l:List aY) (page aQ:Int):dO (cQ l page aQ).1:=by
 by_cases h:(cQ l page aQ).2=0
 · exact lO _ (wP l page aQ h).1
 grind [cQ,GV,EF]
theorem Sn (l:List aY) (page aQ q:Int):dO (bT l page aQ q).1:=by
 by_cases h:(bT l page aQ q).2=0
 · exact lO _ (uj l page aQ q h).1
 grind [bT,GV,EF]
open Go.RowKit Go.Deep
theorem acR:Tryz.prog.cellsOf 139=4:=by rfl
theorem aeS:Tryz.prog.cellsOf 3=1:=by rfl
theorem aeR:Tryz.prog.cellsOf 4=1:=by rfl
theorem M9 (n:Int) (h:(Lit.int .i64 n).wf=true):ux n:=by
 grind [Lit.wf,IntKind.min,IntKind.max,IntKind.signed,IntKind.bits,ux]
section
variable {H:Type} {enc:TypeId×Value->H} {w:World} {base:Nat} {spare:Nat->Bool} {held:Bool}
theorem aaH {n:Nat} {a:Addr} {cs:List Value} {x:DataW H×List MemPlace} (hc:w.cells? base a 4=some cs) (h:DataW.trod enc Tryz.prog w base spare held n 139 cs=some x) :
  ∃q:Int×Int×Int×Bool,w.cell? (a.add 0)=some (I q.1)/\w.cell? (a.add 1)=some (I q.2.1)/\w.cell? (a.add 2)=some (I q.2.2.1)/\w.cell? (a.add 3)=some (.bool q.2.2.2)/\ux q.1/\ux q.2.1/\ux q.2.2.1:=by
 obtain⟨_,hlen,hcell⟩:=Pq hc;obtain⟨xs,k,hk,hxy,_,hxl,hf⟩:=Pp Tryz.underlying139 h
 match cs,hlen with
 | [v0,v1,v2,v3],_ =>
  have g0:DataW.trod enc Tryz.prog w base spare held k 3 (([v0,v1,v2,v3].drop 0).take (Tryz.prog.cellsOf 3))=xs[0]?:=hf 0 _ rfl;have g1:DataW.trod enc Tryz.prog w base spare held k 3 (([v0,v1,v2,v3].drop 1).take (Tryz.prog.cellsOf 3))=xs[1]?:=hf 1 _ rfl;have g2:DataW.trod enc Tryz.prog w base spare held k 3 (([v0,v1,v2,v3].drop 2).take (Tryz.prog.cellsOf 3))=xs[2]?:=hf 2 _ rfl;have g3:DataW.trod enc Tryz.prog w base spare held k 4 (([v0,v1,v2,v3].drop 3).take (Tryz.prog.cellsOf 4))=xs[3]?:=hf 3 _ rfl;simp only[aeS,aeR] at g0 g1 g2 g3;have e0:=hcell 0 (by omega);have e1:=hcell 1 (by omega);have e2:=hcell 2 (by omega);have e3:=hcell 3 (by omega)
  match xs,hxl with
  | [y0,y1,y2,y3],_ =>
   obtain⟨m0,c0,_,w0⟩:=Dp Tryz.underlying3 (show DataW.trod enc Tryz.prog w base spare held k 3 [v0]=some y0 from g0);obtain⟨m1,c1,_,w1⟩:=Dp Tryz.underlying3 (show DataW.trod enc Tryz.prog w base spare held k 3 [v1]=some y1 from g1);obtain⟨m2,c2,_,w2⟩:=Dp Tryz.underlying3 (show DataW.trod enc Tryz.prog w base spare held k 3 [v2]=some y2 from g2);obtain⟨b3,c3,_⟩:=DataW.trod_bool Tryz.underlying4 (show DataW.trod enc Tryz.prog w base spare held k 4 [v3]=some y3 from g3);simp only[ze,AJ] at c0 c1 c2 c3;subst c0;subst c1;subst c2;subst c3;exact⟨(m0,m1,m2,b3),e0,e1,e2,e3,M9 _ w0,M9 _ w1,M9 _ w2⟩
theorem Uk {fuel:Nat} {a0:Option Addr} {len cap:Nat} {x:DataW H×List MemPlace} (h:DataW.trod enc Tryz.prog w base spare held fuel 22 [.slice a0 len cap]=some x) :
  ∃l:List aY,l.length=len/\gD w (.slice a0 len cap) l/\(∀i,i<l.length->Ca (bC l i))/\(len=0∨∃el sp,x.1=.slice el sp/\el.length=len):=by
 rcases open_slice Tryz.underlying22 h with⟨hcs,_⟩ | ⟨a,len',cap',m,n,D,Pl,hcs,hb,hl,hm,hmm,rfl,hx⟩
 · simp at hcs;obtain⟨rfl,rfl,rfl⟩:=hcs;exact⟨[],rfl,⟨none,0,rfl,.inl rfl⟩,fun i hi=>by grind,.inl rfl⟩
 · simp at hcs;obtain⟨rfl,rfl,rfl⟩:=hcs;have hlm:len<=m:=by grind
   have each:∀i,i<len->∃q:Int×Int×Int×Bool,w.cell? (a.add (i*4))=some (I q.1)/\w.cell? (a.add (i*4+1))=some (I q.2.1)/\w.cell? (a.add (i*4+2))=some (I q.2.2.1)/\w.cell? (a.add (i*4+3))=some (.bool q.2.2.2)/\ux q.1/\ux q.2.1/\ux q.2.2.1:=by
    intro i hi;obtain⟨cs',h1,h2⟩:=hx i (by omega);rw[acR] at h1;obtain⟨q,e0,e1,e2,e3,f⟩:=aaH h1 h2
    grind [add_add]
   obtain⟨g,hg⟩:=choose_lt each;have hat:∀i,i<len->bC ((List.range len).map fun i=>(⟨(g i).1,(g i).2.1,(g i).2.2.1,(g i).2.2.2⟩:aY)) i=⟨(g i).1,(g i).2.1,(g i).2.2.1,(g i).2.2.2⟩:=by
    grind [bC]
   refine⟨(List.range len).map fun i=>⟨(g i).1,(g i).2.1,(g i).2.2.1,(g i).2.2.2⟩,by simp,?_,fun i hi=>?_,.inr ⟨_,_,rfl,by simp⟩⟩
   · by_cases h0:len=0
     · subst h0;exact⟨some a,cap,by simp,.inl (by simp)⟩
     · obtain⟨b,off,spot⟩:=a;have hc:=(hg 0 (by omega)).1;have hspot:spot=none:=by simpa [Addr.add] using Po hc
       subst hspot;refine⟨some (Ad b off),cap,by simp,.inr ⟨b,off,rfl,fun i hi=>?_⟩⟩
       grind [Addr.add_lit]
   · have hi':i<len:=by grind
     rw[hat i hi'];obtain⟨_,_,_,_,f1,f2,f3⟩:=hg i hi';exact⟨f1,f2,f3⟩
end
open Go.RowKit
open Go.RowKit
open Go.RowKit
theorem acI (x y:Int) (V:World):(Op.equalIn 10000 75 (.agg #[I x,I y]) (.agg #[I 0,I 0])).run Tryz.prog V=.ok (decide (x=0/\y=0)) V:=by
 by_cases h1:x=0
 · by_cases h2:y=0
   · subst h1;subst h2;simp[go_sem]
   · have hq:=kF.2 h2;have hd:decide (x=0/\y=0)=false:=jq (fun g=>h2 g.2);rw[hd];subst h1;simp[go_sem,hq]
 · have hq:=kF.2 h1;have hd:decide (x=0/\y=0)=false:=jq (fun g=>h1 g.1);rw[hd];simp[go_sem,hq]
theorem M7 (p:bO) (w:World):Calls Tryz.prog 146 #[p.val] w fun e w'=>e=.returned (.bool (fA p))/\Below w.heap.size w w':=by
 obtain⟨r,pc,st,cd,fk,fa⟩:=p;unfold bO.val bO.row fA xG;simp only;have hEQ:=fun V=>acI fk fa V
 by_cases h1:st=1
 · subst h1;by_cases hc:cd=0
   · subst hc;go_enter Tryz.func146,Tryz.ntmps146;go_wp2;go_ret;exact⟨by simp,(aK _ _).alloc (aD _) _⟩
   · have hci:(cd==0)=false:=by rw[kF];exact hc
     go_enter Tryz.func146,Tryz.ntmps146;go_wp2;go_ret;exact⟨by simp[hc],(aK _ _).alloc (aD _) _⟩
 · have h1i:(st==1)=false:=by rw[kF];exact h1
   rw[au h1];by_cases h2:st=2
   · subst h2;clear h1 h1i;go_enter Tryz.func146,Tryz.ntmps146;go_wp2;go_ret;exact⟨by simp,(aK _ _).alloc (aD _) _⟩
   · have h2i:(st==2)=false:=by rw[kF];exact h2
     rw[au h2];by_cases h3:st=3
     · subst h3;clear h1 h1i h2 h2i;by_cases hc:cd=0
       · subst hc;by_cases hk:1<=fk
         · go_enter Tryz.func146,Tryz.ntmps146;go_wp2;go_ret;exact⟨by simp[hk],(aK _ _).alloc (aD _) _⟩
         · go_enter Tryz.func146,Tryz.ntmps146;go_wp2;go_ret;exact⟨by simp;omega,(aK _ _).alloc (aD _) _⟩
       · have hci:(cd==0)=false:=by rw[kF];exact hc
         go_enter Tryz.func146,Tryz.ntmps146;go_wp2;go_ret;exact⟨by simp[hc],(aK _ _).alloc (aD _) _⟩
     · have h3i:(st==3)=false:=by rw[kF];exact h3
       rw[au h3];go_enter Tryz.func146,Tryz.ntmps146;go_wp2;go_ret;exact⟨rfl,(aK _ _).alloc (aD _) _⟩
open Go.RowKit
structure pR where
 page:Int
 aQ:Int
 data:ByteArray
 wr:Bool
 ex:Bool
structure VI where
 name:ByteArray
 pos:Int
structure SM where
 pos:Int
 name:ByteArray
 add:Int
structure wV where
 name:ByteArray
 needs:List ByteArray
 jK:List pR
 syms:List VI
 qd:List SM
 entry:Int
def adf:ByteArray:=⟨#[]⟩
def Ii:pR:=⟨0,0,adf,false,false⟩
def ajd:VI:=⟨adf,0⟩
def aje:SM:=⟨0,adf,0⟩
def qW (l:List ByteArray) (i:Nat):ByteArray:=l.getD i adf
def eN (l:List pR) (i:Nat):pR:=l.getD i Ii
def VH (l:List VI) (i:Nat):VI:=l.getD i ajd
def vg (l:List SM) (i:Nat):SM:=l.getD i aje
theorem Jm {α:Type} (p:α->Bool) (d:α):∀l:List α,(∀i,i<l.length->p (l.getD i d)=true)->l.all p=true
 | [],_=>rfl
 | a::r,h=>by
  have h0:p a=true:=h 0 (by simp);have hr:=Jm p d r (fun i hi=>h (i+1) (by grind))
  grind
theorem Qp {α:Type} (p:α->Bool) (d:α):∀(l:List α) (i:Nat),i<l.length->l.all p=true->p (l.getD i d)=true
 | a::r,0,_,h=>by grind
 | a::r,i+1,hi,h=>by
  grind
theorem Nq {α:Type} (p:α->Bool) (d:α) (l:List α) (i:Nat) (hi:i<l.length) (h:p (l.getD i d)=false):l.all p=false:=by
 grind
def uT (n:Int):Bool:=decide (97<=n/\n<=122) || (decide (48<=n/\n<=57) || decide (n=95))
def uU (s:ByteArray):Bool:=decide (1<=s.size/\s.size<=12)&&s.data.toList.all (fun c=>uT c.toNat)
theorem Uw (s:ByteArray) (k:Nat) (h:k<s.size):s.data.toList.getD k 0=s[k]:=by
 have h':k<s.data.toList.length:=by simp_all
 rw[fK,l6 h'];rfl
theorem abj (s:ByteArray) (h1:1<=s.size) (h2:s.size<=12) (h:∀k (hk:k<s.size),uT s[k].toNat=true):uU s=true:=by
 unfold uU;rw[ic ⟨h1,h2⟩,tN];refine Jm _ 0 _ (fun i hi=>?_)
 grind [Lib.size_eq,Uw]
theorem adV (s:ByteArray) (k:Nat) (hk:k<s.size) (h:uT s[k].toNat=false):uU s=false:=by
 unfold uU;rw[Nq _ 0 s.data.toList k (by simp_all) (by grind [Uw]),Bool.and_false]
theorem Qo (s:ByteArray) (h:¬(1<=s.size/\s.size<=12)):uU s=false:=by
 grind [uU]
def abh (r:SM):Bool:=decide (r.name.size=0) || uU r.name
def afQ (i:wV):Bool:=uU i.name&&(i.needs.all uU&&(i.syms.all (fun y=>uU y.name)&&i.qd.all abh))
def CS (i:wV):Bool:=decide (1<=i.jK.length/\i.jK.length<=6/\i.needs.length<=4/\i.syms.length<=12/\i.qd.length<=16)
def lC (s:pR):Bool:=decide (0<=s.page/\1<=s.aQ/\s.page+s.aQ<=255/\(s.data.size:Int)<=s.aQ*16)
def Mw (i:wV):Bool:=i.jK.all lC
def YO (l:List pR) (k:Nat):Bool:=k==0 || decide ((eN l (k-1)).page+(eN l (k-1)).aQ<=(eN l k).page)
def sU (l:List pR):Nat->Bool
 | 0=>true
 | k+1=>sU l k&&YO l k
def CT (l:List pR):Bool:=sU l l.length
def oK (l:List ByteArray):Nat->Bool
 | 0=>true
 | k+1=>oK l k&&!(l.take k).contains (qW l k)
def xP (l:List ByteArray):Bool:=oK l l.length
def afP (i:wV):Bool:=CT i.jK&&(xP i.needs&&xP (i.syms.map (·.name)))
def sG (s:pR) (a:Int):Bool:=decide (s.page*16<=a/\a<(s.page+s.aQ)*16)
def tP:List pR->Int->Option pR
 | [],_=>none
 | s::r,a=>if sG s a then some s else tP r a
def iZ (l:List pR) (a:Int):Bool:=(tP l a).isSome
def YN (l:List pR) (a:Int):Bool:=iZ l a&&(iZ l (a+1)&&(iZ l (a+2)&&(iZ l (a+3)&&(iZ l (a+4)&&(iZ l (a+5)&&(iZ l (a+6)&&iZ l (a+7)))))))
def PO (i:wV) (k:Nat):Bool:=(k==0 || decide ((vg i.qd (k-1)).pos+8<=(vg i.qd k).pos))&&YN i.jK (vg i.qd k).pos
def Ki (i:wV):Nat->Bool
 | 0=>true
 | k+1=>Ki i k&&PO i k
def CR (i:wV):Bool:=match tP i.jK i.entry with
 | some s=>s.ex&&decide (i.entry%8=0)
 | none=>false
def Hl (i:wV):Bool:=i.syms.all (fun y=>iZ i.jK y.pos)&&(Ki i i.qd.length&&CR i)
def mC (i:wV):Int:=if !afQ i then 4 else if !CS i then 2 else if !Mw i then 3 else if !afP i then 5 else if !Hl i then 6 else 0
def Qq (w:World) (b off:Nat) (l:List ByteArray):Prop:=∀i,i<l.length->w.cell? (Ad b (off+i))=some (.string (qW l i))
def zW (w:World) (b off:Nat) (l:List pR):Prop:=∀i,i<l.length ->
 w.cell? (Ad b (off+i*5))=some (I (eN l i).page)/\w.cell? (Ad b (off+i*5+1))=some (I (eN l i).aQ) /\
 w.cell? (Ad b (off+i*5+2))=some (.string (eN l i).data)/\w.cell? (Ad b (off+i*5+3))=some (.bool (eN l i).wr)/\w.cell? (Ad b (off+i*5+4))=some (.bool (eN l i).ex)
def VJ (w:World) (b off:Nat) (l:List VI):Prop:=∀i,i<l.length ->
 w.cell? (Ad b (off+i*2))=some (.string (VH l i).name)/\w.cell? (Ad b (off+i*2+1))=some (I (VH l i).pos)
def VK (w:World) (b off:Nat) (l:List SM):Prop:=∀i,i<l.length ->
 w.cell? (Ad b (off+i*3))=some (I (vg l i).pos)/\w.cell? (Ad b (off+i*3+1))=some (.string (vg l i).name)/\w.cell? (Ad b (off+i*3+2))=some (I (vg l i).add)
def cN (n:Int):Prop:=-9223372036854775808<=n/\n<=9223372036854775807
def b7 (n:Nat):Prop:=n<=140737488351232
def afS (s:pR):Prop:=cN s.page/\cN s.aQ/\b7 s.data.size
def akc (s:VI):Prop:=b7 s.name.size/\cN s.pos
def akd (s:SM):Prop:=cN s.pos/\b7 s.name.size/\cN s.add
structure Kj (i:wV):Prop where
 name:b7 i.name.size
 needs:b7 i.needs.length
 need:∀k,k<i.needs.length->b7 (qW i.needs k).size
 jK:b7 i.jK.length
 seg:∀k,k<i.jK.length->afS (eN i.jK k)
 syms:b7 i.syms.length
 sym:∀k,k<i.syms.length->akc (VH i.syms k)
 qd:b7 i.qd.length
 rel:∀k,k<i.qd.length->akd (vg i.qd k)
 entry:cN i.entry
def gU {α:Type} (lie:World->Nat->Nat->List α->Prop) (w:World) (ao:Option Addr) (l:List α):Prop:=0<l.length->∃b off,ao=some (Ad b off)/\b<w.heap.size/\lie w b off l
structure Kk where
 an:Option Addr
 cn:Nat
 ag:Option Addr
 cg:Nat
 ay:Option Addr
 cy:Nat
 ar:Option Addr
 cr:Nat
structure qm (w:World) (a:Kk) (i:wV):Prop where
 needs:gU Qq w a.an i.needs
 jK:gU zW w a.ag i.jK
 syms:gU VJ w a.ay i.syms
 qd:gU VK w a.ar i.qd
def jM (a:Kk) (i:wV):Array Value:=#[.string i.name,.slice a.an i.needs.length a.cn,.slice a.ag i.jK.length a.cg,.slice a.ay i.syms.length a.cy,.slice a.ar i.qd.length a.cr,I i.entry]
theorem cM {w w':World} (hb:Below w.heap.size w w') {b o:Nat} (h:b<w.heap.size):w'.cell? (Ad b o)=w.cell? (Ad b o):=hb.cell (p:=(Ad b o)) h
theorem gU.below {α:Type} {lie:World->Nat->Nat->List α->Prop} (eY:∀{w w':World} {b off:Nat} {l:List α},Below w.heap.size w w'->b<w.heap.size->lie w b off l->lie w' b off l)
  {w w':World} {ao:Option Addr} {l:List α} (h:gU lie w ao l) (hb:Below w.heap.size w w'):gU lie w' ao l:=fun hl=>by
 obtain⟨b,off,e,hlt,hh⟩:=h hl
 grind [Nat.lt_of_lt_of_le,Below.size]
theorem afR {w w':World} {b off:Nat} {l:List ByteArray} (hb:Below w.heap.size w w') (hlt:b<w.heap.size) (h:Qq w b off l):Qq w' b off l:=fun i hi=>(cM hb hlt).trans (h i hi)
theorem zV {w w':World} {b off:Nat} {l:List pR} (hb:Below w.heap.size w w') (hlt:b<w.heap.size) (h:zW w b off l):zW w' b off l:=fun i hi=>by
 obtain⟨c0,c1,c2,c3,c4⟩:=h i hi
 grind [cM]
theorem aka {w w':World} {b off:Nat} {l:List VI} (hb:Below w.heap.size w w') (hlt:b<w.heap.size) (h:VJ w b off l):VJ w' b off l:=fun i hi=>by
 obtain⟨c0,c1⟩:=h i hi
 grind [cM]
theorem akb {w w':World} {b off:Nat} {l:List SM} (hb:Below w.heap.size w w') (hlt:b<w.heap.size) (h:VK w b off l):VK w' b off l:=fun i hi=>by
 obtain⟨c0,c1,c2⟩:=h i hi
 grind [cM]
theorem qm.below {w w':World} {a:Kk} {i:wV} (h:qm w a i) (hb:Below w.heap.size w w'):qm w' a i :=
 ⟨gU.below (lie:=Qq) (fun hb hlt h=>afR hb hlt h) h.needs hb,gU.below (lie:=zW) (fun hb hlt h=>zV hb hlt h) h.jK hb,gU.below (lie:=VJ) (fun hb hlt h=>aka hb hlt h) h.syms hb,gU.below (lie:=VK) (fun hb hlt h=>akb hb hlt h) h.qd hb⟩
open Go.RowKit
theorem aiL {w:World} {v:Value} {l:List aY} (h:gD w v l):∃ao n c,v=.slice ao n c:=by
 obtain⟨ao,cap,h,_⟩:=h
 grind
open Go.RowKit
theorem qT {a b:Bool} (h:a=b):Ending.returned (.bool a)=.returned (.bool b):=by rw[h]
open Go.RowKit
open Go.RowKit
open Go.RowKit
def PZ (w:World) (b off:Nat) (l:List bO):Prop:=∀i,i<l.length->w.cell? (Ad b (off+i*13))=some (I ((aI l i).r 0))/\w.cell? (Ad b (off+i*13+1))=some (I ((aI l i).r 1))/\w.cell? (Ad b (off+i*13+2))=some (I ((aI l i).r 2))/\w.cell? (Ad b (off+i*13+3))=some (I ((aI l i).r 3))/\w.cell? (Ad b (off+i*13+4))=some (I ((aI l i).r 4))/\w.cell? (Ad b (off+i*13+5))=some (I ((aI l i).r 5))/\w.cell? (Ad b (off+i*13+6))=some (I ((aI l i).r 6))/\w.cell? (Ad b (off+i*13+7))=some (I ((aI l i).r 7))/\w.cell? (Ad b (off+i*13+8))=some (I (aI l i).pc)/\w.cell? (Ad b (off+i*13+9))=some (I (aI l i).st)/\w.cell? (Ad b (off+i*13+10))=some (I (aI l i).cd)/\w.cell? (Ad b (off+i*13+11))=some (I (aI l i).fk)/\w.cell? (Ad b (off+i*13+12))=some (I (aI l i).fa)
theorem aiK {w w':World} {b off:Nat} {l:List bO} (hb:Below w.heap.size w w') (hlt:b<w.heap.size) (h:PZ w b off l):PZ w' b off l:=fun i hi=>by
 obtain⟨c0,c1,c2,c3,c4,c5,c6,c7,c8,c9,c10,c11,c12⟩:=h i hi;exact⟨(cM hb hlt).trans c0,(cM hb hlt).trans c1,(cM hb hlt).trans c2,(cM hb hlt).trans c3,(cM hb hlt).trans c4,(cM hb hlt).trans c5,(cM hb hlt).trans c6,(cM hb hlt).trans c7,(cM hb hlt).trans c8,(cM hb hlt).trans c9,(cM hb hlt).trans c10,(cM hb hlt).trans c11,(cM hb hlt).trans c12⟩
def wN (w:World) (ao:Option Addr) (l:List bO):Prop:=gU PZ w ao l
theorem wN.below {w w':World} {ao:Option Addr} {l:List bO} (h:wN w ao l) (hb:Below w.heap.size w w'):wN w' ao l:=gU.below (lie:=PZ) (fun hb hlt h=>aiK hb hlt h) h hb
def PY (w:World) (b off:Nat) (l:List tI):Prop:=∀i,i<l.length->w.cell? (Ad b (off+i*2))=some (I (pP l i).proc)/\w.cell? (Ad b (off+i*2+1))=some (I (pP l i).value)
theorem aiJ {w w':World} {b off:Nat} {l:List tI} (hb:Below w.heap.size w w') (hlt:b<w.heap.size) (h:PY w b off l):PY w' b off l:=fun i hi=>by
 obtain⟨c0,c1⟩:=h i hi;exact⟨(cM hb hlt).trans c0,(cM hb hlt).trans c1⟩
def ED (w:World) (ao:Option Addr) (l:List tI):Prop:=gU PY w ao l
theorem ED.below {w w':World} {ao:Option Addr} {l:List tI} (h:ED w ao l) (hb:Below w.heap.size w w'):ED w' ao l:=gU.below (lie:=PY) (fun hb hlt h=>aiJ hb hlt h) h hb
open Go.RowKit
open Go.RowKit
def yJ (p:bO) (x:Int×Int):bO:={ p with st:=3,fk:=x.1,fa:=x.2 }
def nE (pc:Int):bO:=⟨fun _=>0,pc,1,0,0,0⟩
theorem XT (pc:Int) (w:World):Calls Tryz.prog 31 #[I pc] w fun e w'=>e=.returned (nE pc).val/\Below w.heap.size w w':=by
 unfold bO.val nE bO.row;simp only;go_enter Tryz.func31,Tryz.ntmps31;go_wp2;exact bI (v:=.agg #[I 0,I 0,I 0,I 0,I 0,I 0,I 0,I 0,I pc,I 1,I 0,I 0,I 0]) (by simp[results,Tryz.results31,go_sem]) rfl ⟨rfl,(aK _ _).alloc (aD _) _⟩
open Go.RowKit
structure gH (σ:Type) where
 load:σ->Nat->Int->Int->Int->(ByteArray×(Int×Int))×σ
 store:σ->Nat->Int->ByteArray->(Int×Int)×σ
 map:σ->Nat->Int->Int->Int->Int×σ
 pC:σ->Nat->Int->Int->Int×σ
 jx:σ->Nat->Int->Int->Int->Int×σ
 fork:σ->Nat->Int×σ
 drop:σ->Nat->σ
structure df (σ:Type) where
 mem:σ
 ps:List bO
 out:List tI
variable {σ:Type}
def EC (s:ByteArray):Int:=if 1<=s.size/\s.size<=8 then wrap64 (Lib.leNat s.data.toList:Nat) else 0
def mS (v n:Int):ByteArray:=⟨(Lib.leBytes n.toNat (mE v)).toArray⟩
def eu (o:gH σ) (st:df σ) (k:Nat) (c:Int):Int×df σ :=
 if c=1 then (0,{ st with out:=st.out++[⟨(k:Int),(aI st.ps k).r 0⟩] })
 else if c=2 then ((o.map st.mem k ((aI st.ps k).r 0) ((aI st.ps k).r 1) ((aI st.ps k).r 2)).1,{ st with mem:=(o.map st.mem k ((aI st.ps k).r 0) ((aI st.ps k).r 1) ((aI st.ps k).r 2)).2 })
 else if c=3 then ((o.pC st.mem k ((aI st.ps k).r 0) ((aI st.ps k).r 1)).1,{ st with mem:=(o.pC st.mem k ((aI st.ps k).r 0) ((aI st.ps k).r 1)).2 })
 else if c=4 then ((o.jx st.mem k ((aI st.ps k).r 0) ((aI st.ps k).r 1) ((aI st.ps k).r 2)).1,{ st with mem:=(o.jx st.mem k ((aI st.ps k).r 0) ((aI st.ps k).r 1) ((aI st.ps k).r 2)).2 })
 else if c=5 then (if (o.fork st.mem k).1=0 then ((st.ps.length:Int),{ st with mem:=(o.fork st.mem k).2,ps:=st.ps++[aI st.ps k] }) else (-1,{ st with mem:=(o.fork st.mem k).2 }))
 else if c=6 then (0,{ st with mem:=o.drop st.mem k })
 else (0,st)
def eX (o:gH σ) (st:df σ) (k:Nat) (i:dU):(Int×(Int×Int))×df σ :=
 if i.bad then ((0,(4,(aI st.ps k).pc)),st)
 else if i.op=9 then
  ((EC (o.load st.mem k (wrap64 ((aI st.ps k).r i.b.toNat+i.m)) i.c 0).1.1,(o.load st.mem k (wrap64 ((aI st.ps k).r i.b.toNat+i.m)) i.c 0).1.2),{ st with mem:=(o.load st.mem k (wrap64 ((aI st.ps k).r i.b.toNat+i.m)) i.c 0).2 })
 else if i.op=10 then
  ((0,(o.store st.mem k (wrap64 ((aI st.ps k).r i.b.toNat+i.m)) (mS ((aI st.ps k).r i.a.toNat) i.c)).1),{ st with mem:=(o.store st.mem k (wrap64 ((aI st.ps k).r i.b.toNat+i.m)) (mS ((aI st.ps k).r i.a.toNat) i.c)).2 })
 else if i.op=16 then (((eu o st k i.m).1,(0,0)),(eu o st k i.m).2)
 else ((0,(0,0)),st)
def kQ (i:dU) (n:Nat) (ps:List bO):List bO:=ps.take n++(ps.drop n).map (fun p=>dg p i 0)
def kX (o:gH σ) (st:df σ) (k:Nat):(Int×Int)×df σ :=
 let x:=o.load st.mem k (aI st.ps k).pc 8 2
 let s1:df σ:={ st with mem:=x.2 }
 if ¬x.1.2.1=0 then (x.1.2,s1) else
 let i:=ik x.1.1
 let y:=eX o s1 k i
 if ¬y.1.2.1=0 then (y.1.2,y.2) else
 ((0,0),{ y.2 with ps:=kQ i st.ps.length (y.2.ps.set k (dg (aI y.2.ps k) i y.1.1)) })
def dm (o:gH σ) (st:df σ) (pick:Int):Int×df σ :=
 if ¬(0<=pick/\pick<(st.ps.length:Int)) then (6,st)
 else if ¬(aI st.ps pick.toNat).st=1 then (0,st)
 else if 2000<=st.out.length then (2,st)
 else
  let r:=kX o st pick.toNat
  if r.1.1=0 then (0,r.2) else (0,{ r.2 with mem:=o.drop r.2.mem pick.toNat,ps:=r.2.ps.set pick.toNat (yJ (aI r.2.ps pick.toNat) r.1) })
def fZ (o:gH σ) (picks:List Int):Nat->Option (df σ)->Option (df σ)
 | 0,st=>st
 | n+1,st=>match fZ o picks n st with
  | none=>none
  | some s=>if (dm o s (picks.getD n 0)).1=2 then none else some (dm o s (picks.getD n 0)).2
def wJ (o:gH σ) (st:df σ) (picks:List Int):Int×Option (df σ) :=
 if 2000<picks.length then (2,none) else match fZ o picks picks.length (some st) with
  | none=>(2,none)
  | some s=>(0,some s)
structure qL (o:gH σ) (Ok:σ->List Bool->Prop):Prop where
 load:∀s fl k a n way,Ok s fl->fl.getD k false=true->Ok (o.load s k a n way).2 fl
 size:∀s fl k a n way,Ok s fl->fl.getD k false=true->1<=n->n<=8->(o.load s k a n way).1.2.1=0->((o.load s k a n way).1.1.size:Int)=n
 fault:∀s fl k a n way,Ok s fl->fl.getD k false=true->0<=(o.load s k a n way).1.2.1/\(o.load s k a n way).1.2.1<=4/\((o.load s k a n way).1.2.1=0->(o.load s k a n way).1.2=(0,0))
 none:∀s fl k a n way,Ok s fl->fl.getD k false=true->¬(o.load s k a n way).1.2.1=0->(o.load s k a n way).1.1=⟨#[]⟩
 store:∀s fl k a d,Ok s fl->fl.getD k false=true->1<=d.size->d.size<=8->Ok (o.store s k a d).2 fl
 Qh:∀s fl k a d,Ok s fl->fl.getD k false=true->0<=(o.store s k a d).1.1/\(o.store s k a d).1.1<=4/\((o.store s k a d).1.1=0->(o.store s k a d).1=(0,0))
 map:∀s fl k p n q,Ok s fl->fl.getD k false=true->Ok (o.map s k p n q).2 fl
 pC:∀s fl k p n,Ok s fl->fl.getD k false=true->Ok (o.pC s k p n).2 fl
 jx:∀s fl k p n q,Ok s fl->fl.getD k false=true->Ok (o.jx s k p n q).2 fl
 Qg:∀s fl k,Ok s fl->fl.getD k false=true->¬(o.fork s k).1=0->Ok (o.fork s k).2 fl
 J7:∀s fl k,Ok s fl->fl.getD k false=true->(o.fork s k).1=0->Ok (o.fork s k).2 (fl++[true])
 afe:∀s fl k p n q,Ok s fl->fl.getD k false=true->0<=(o.map s k p n q).1/\(o.map s k p n q).1<=10
 P4:∀s fl k p n,Ok s fl->fl.getD k false=true->0<=(o.pC s k p n).1/\(o.pC s k p n).1<=10
 Ff:∀s fl k p n q,Ok s fl->fl.getD k false=true->0<=(o.jx s k p n q).1/\(o.jx s k p n q).1<=10
 few:∀s fl,Ok s fl->fl.length<=4
 drop:∀s fl k,Ok s fl->fl.getD k false=true->Ok (o.drop s k) (fl.set k false)
def bV (ps:List bO):List Bool:=ps.map (fun p=>decide (p.st=1))
theorem I7 (ps:List bO) (k:Nat):(bV ps).getD k false=(decide (k<ps.length)&&decide ((aI ps k).st=1)):=by
 unfold bV aI;rw[fK,fK,AQ];by_cases h:k<ps.length
 · rw[l6 h,ic h];simp
 · rw[PF (by omega),jq h];rfl
theorem Ar (ps:List bO) (k:Nat) (p:bO):bV (ps.set k p)=(bV ps).set k (decide (p.st=1)):=by
 unfold bV;rw[Pe]
theorem O0 (ps:List bO) (p:bO):bV (ps++[p])=bV ps++[decide (p.st=1)]:=by
 unfold bV;rw[AO];rfl
open Go.RowKit
variable {σ:Type}
theorem pZ (n:Int):cN (wrap64 n):=by
 unfold cN wrap64;have:=Ps n;omega
theorem aat (n:Int):cN (IntKind.i64.wrap n):=by
 unfold cN;have:=Ps n;omega
def sO (p:bO):Prop:=(∀j,j<8->cN (p.r j))/\cN p.pc
theorem acE {p:bO} (h:sO p) (j:Nat) {v:Int} (hv:cN v):sO (p.set j v):=by
 refine⟨fun q hq=>?_,h.2⟩;show cN (if q=j then v else p.r q);split
 · exact hv
 · exact h.1 q hq
theorem M6 {p:bO} (h:sO p) {v:Int} (hv:cN v):sO { p with pc:=v }:=⟨h.1,hv⟩
theorem nD {α:Type} (P:α->Prop) {c:Prop} [Decidable c] {a b:α} (h1:c->P a) (h2:¬c->P b):P (if c then a else b):=by
 by_cases h:c
 · rw[aB h];exact h1 h
 · rw[au h];exact h2 h
theorem XK {i:dU} (hb:i.bad=false):1<=i.op/\i.op<=16:=by
 unfold dU.bad at hb;by_cases h12:i.op=12
 · omega
 · by_cases h16:i.op=16
   · omega
   · rw[au h12,au h16] at hb;by_cases c1:i.op=1∨i.op=11∨i.op=15
     · omega
     · rw[au c1] at hb;by_cases c2:2<=i.op/\i.op<=7
       · omega
       · rw[au c2] at hb;by_cases c3:i.op=8∨i.op=13∨i.op=14
         · omega
         · rw[au c3] at hb;by_cases c4:i.op=9∨i.op=10
           · omega
           · rw[au c4] at hb;cases hb
theorem aaw {i:dU} (hb:i.bad=false) (hf:i.fits):(i.op=15->i.a.toNat<8)/\(2<=i.op/\i.op<=7->i.b.toNat<8):=by
 obtain⟨_,⟨a0,a1⟩,⟨b0,b1⟩,_⟩:=hf;unfold dU.bad at hb;constructor
 · intro h;simp[h] at hb;omega
 · intro h;rw[au (by omega),au (by omega),au (by omega),aB h,decide_eq_false_iff_not] at hb;omega
theorem GG (P:bO->Prop) (p:bO) (i:dU) (v:Int) (hb:i.bad=false)
  (h0:P { p with pc:=wrap64 (p.pc+8) }) (hs:∀j x,(x=i.m∨x=v∨(∃y,x=wrap64 y)∨(2<=i.op/\i.op<=7/\x=Np i.op (p.r i.b.toNat) (p.r i.c.toNat)))->P (({ p with pc:=wrap64 (p.pc+8) }:bO).set j x))
  (hp:∀y,P { p with pc:=wrap64 y }) (hg:i.op=15->P { p with pc:=p.r i.a.toNat }) (he:i.op=16->i.m=6->P { p with pc:=wrap64 (p.pc+8),st:=2,cd:=p.r 0 }):P (dg p i v):=by
 have hr:=XK hb;unfold dg;simp only;refine nD P (fun _=>hs _ _ (.inl rfl)) (fun n1=>?_);refine nD P (fun g=>hs _ _ (.inr (.inr (.inr ⟨g.1,g.2,rfl⟩)))) (fun n2=>?_);refine nD P (fun _=>hs _ _ (.inr (.inr (.inl ⟨_,rfl⟩)))) (fun n3=>?_);refine nD P (fun _=>hs _ _ (.inr (.inl rfl))) (fun n4=>?_);refine nD P (fun _=>h0) (fun n5=>?_);refine nD P (fun _=>hs _ _ (.inr (.inr (.inl ⟨_,rfl⟩)))) (fun n6=>?_);refine nD P (fun _=>hp _) (fun n7=>?_);refine nD P (fun _=>nD P (fun _=>hp _) (fun _=>h0)) (fun n8=>?_);refine nD P (fun _=>nD P (fun _=>hp _) (fun _=>h0)) (fun n9=>?_);refine nD P (fun g=>hg g) (fun n10=>?_);refine nD P (fun g=>he (by omega) g) (fun n11=>?_);refine nD P (fun _=>h0) (fun n12=>?_);exact hs _ _ (.inr (.inl rfl))
theorem XH {p:bO} {i:dU} {v:Int} (h:i.op=16) (h6:i.m=6):dg p i v={ p with pc:=wrap64 (p.pc+8),st:=2,cd:=p.r 0 }:=by
 unfold dg;simp[h,h6]
theorem JI {p:bO} {i:dU} {v:Int} (hb:i.bad=false) (h:¬(i.op=16/\i.m=6)):(dg p i v).st=p.st :=
 GG (fun q=>q.st=p.st) p i v hb rfl (fun _ _ _=>rfl) (fun _=>rfl) (fun _=>rfl) (fun g1 g2=>(h ⟨g1,g2⟩).elim)
theorem I8 {p:bO} {i:dU} {v:Int} (hb:i.bad=false) (h:p.st=1) (hr:fA p=true):fA (dg p i v)=true:=by
 have h2:p.cd=0/\p.fk=0/\p.fa=0:=by
  unfold fA xG at hr;rw[aB h] at hr;simp only[eO,lh] at hr;exact hr
 have key:∀q:bO,q.st=1->q.cd=0->q.fk=0->q.fa=0->fA q=true:=fun q e1 e2 e3 e4=>by
  unfold fA xG;rw[aB e1,e2,e3,e4];rfl
 refine GG (fun q=>fA q=true) p i v hb (key _ h h2.1 h2.2.1 h2.2.2) (fun _ _ _=>key _ h h2.1 h2.2.1 h2.2.2) (fun _=>key _ h h2.1 h2.2.1 h2.2.2) (fun _=>key _ h h2.1 h2.2.1 h2.2.2) (fun _ _=>?_);unfold fA xG;simp[h2]
theorem aeI (op b c:Int) (hb:cN b):cN (Np op b c):=by
 have aml:∀o,cN (bits o .i64 b c):=fun o=>by
  unfold bits;exact aat _
 unfold Np
 repeat' split
 all_goals first | exact pZ _ | exact aml _
theorem Oe {p:bO} {i:dU} {v:Int} (h:sO p) (hv:cN v) (hb:i.bad=false) (hf:i.fits):sO (dg p i v):=by
 have hn:sO { p with pc:=wrap64 (p.pc+8) }:=M6 h (pZ _);have hm:cN i.m:=by obtain⟨_,_,_,_,m0,m1⟩:=hf;unfold cN;omega
 have alO:=aaw hb hf;refine GG sO p i v hb hn (fun j x hx=>acE hn j ?_) (fun _=>M6 h (pZ _)) (fun g=>M6 h (h.1 _ (alO.1 g))) (fun _ _=>⟨hn.1,hn.2⟩);rcases hx with e | e | ⟨y,e⟩ | ⟨g1,g2,e⟩
 · rw[e];exact hm
 · rw[e];exact hv
 · rw[e];exact pZ _
 · rw[e];exact aeI _ _ _ (h.1 _ (alO.2 ⟨g1,g2⟩))
open Go.RowKit
end Go.Proofs.YtlgoihmkgaaemaaGreat
