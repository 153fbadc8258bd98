import Derived.Test.YtlgoihmkgaaemaaGreatGM02
import Derived.Test.YtlgoihmkgaaemaaGreatChecked
import Derived.Deep.Slices
import Derived.ProofKit
set_option maxHeartbeats 20000000
set_option linter.unusedVariables false
set_option maxRecDepth 100000
set_option linter.unusedSimpArgs false
namespace Go.Proofs.YtlgoihmkgaaemaaGreat
open Go.RowKit
theorem Gw (l:List aX) (page aO q:Int) (how:dg->dg×Int) (h:(dI l page aO q how).2≠0):(dI l page aO q how).1=[]:=by
 grind [dI]
theorem xm (l:List aX) (page aO q:Int) (how:dg->dg×Int) (h:(dI l page aO q how).2=0) :
  bj l=0/\fL page aO=true/\kj q=true/\gw (fu l) how page.toNat aO.toNat=0/\(dI l page aO q how).1=kq (dQ (fu l) how page (page+aO)):=by
 grind [dI]
theorem Z3 (l:List aX) (page t q:Int) (hc:bj l=0) (hp:1<=page) (hq:0<=q/\q<=3):pU (dQ (fu l) (eJ q) page t) :=
 Ac _ (Ae l hc) _ _ _ hp (fun s _ h=>by
  grind [eJ]) (fun s h=>by
  grind [eJ])
theorem TB (l:List aX) (page t:Int) (hc:bj l=0) (hp:1<=page):pU (dQ (fu l) bI page t) :=
 Ac _ (Ae l hc) _ _ _ hp (fun s _ _=>rfl) (fun s _=>⟨by simp[bI,jc],by simp[bI,jc]⟩)
theorem Oz (l:List aX) (page t q:Int) (hc:bj l=0) (hp:1<=page) (hq:0<=q/\q<=3):pU (dQ (fu l) (cA q) page t) :=
 Ac _ (Ae l hc) _ _ _ hp (fun s hs h=>by
  grind [cA]) (fun s h=>by
  grind [cA])
theorem NN (q:Int):kj q=true↔0<=q/\q<=3:=⟨fun h=>oI h,fun h=>gU h⟩
theorem zl (l:List aX) (page aO q:Int) (h:(dD l page aO q).2=0) :
  bj (dD l page aO q).1=0/\(∀p:Nat,1<=p->p<=255 ->
   (page<=(p:Int)/\(p:Int)<page+aO->(aW l p).2=false/\(aW (dD l page aO q).1 p).2=true/\(aW (dD l page aO q).1 p).1.jE=q/\(aW (dD l page aO q).1 p).1.zero=true) /\
   (¬(page<=(p:Int)/\(p:Int)<page+aO)->(aW (dD l page aO q).1 p).2=(aW l p).2/\(aW (dD l page aO q).1 p).1.jE=(aW l p).1.jE/\(aW (dD l page aO q).1 p).1.zero=(aW l p).1.zero)):=by
 obtain⟨hc,GR,hq,he,hr⟩:=xm _ _ _ _ _ h;have hpb:=(nZ page aO).1 GR;have hF:=Z3 l page (page+aO) q hc hpb.1 ((NN q).1 hq);have hr':(dD l page aO q).1=_:=hr;rw[hr'];refine⟨uL _ hF,fun p h1 h2=>?_⟩;have fg:=Ag _ hF p (by omega);have fs:=Af l hc p;refine⟨fun hin=>?_,fun hout=>?_⟩
 · have he':=GF _ _ _ _ he p (by omega) (by omega)
   grind [eJ,dQ]
 grind [dQ]
theorem wk (l:List aX) (page aO:Int) (h:(cN l page aO).2=0) :
  bj (cN l page aO).1=0/\(∀p:Nat,1<=p->p<=255 ->
   (page<=(p:Int)/\(p:Int)<page+aO->(aW (cN l page aO).1 p).2=false) /\
   (¬(page<=(p:Int)/\(p:Int)<page+aO)->(aW (cN l page aO).1 p).2=(aW l p).2/\(aW (cN l page aO).1 p).1.jE=(aW l p).1.jE/\(aW (cN l page aO).1 p).1.zero=(aW l p).1.zero)):=by
 obtain⟨hc,GR,hq,he,hr⟩:=xm _ _ _ _ _ h;have hpb:=(nZ page aO).1 GR;have hF:=TB l page (page+aO) hc hpb.1;have hr':(cN l page aO).1=_:=hr;rw[hr'];refine⟨uL _ hF,fun p h1 h2=>?_⟩;have fg:=Ag _ hF p (by omega);have fs:=Af l hc p;refine⟨fun hin=>?_,fun hout=>?_⟩
 · simp only[dQ] at fg;rw[aB hin] at fg;exact fg.1
 grind [dQ]
theorem tS (l:List aX) (page aO q:Int) (h:(bR l page aO q).2=0) :
  bj (bR l page aO q).1=0/\(∀p:Nat,1<=p->p<=255 ->
   ((aW (bR l page aO q).1 p).2=(aW l p).2/\(aW (bR l page aO q).1 p).1.zero=(aW l p).1.zero) /\
   (page<=(p:Int)/\(p:Int)<page+aO->(aW (bR l page aO q).1 p).2=true/\(aW (bR l page aO q).1 p).1.jE=q) /\
   (¬(page<=(p:Int)/\(p:Int)<page+aO)->(aW (bR l page aO q).1 p).1.jE=(aW l p).1.jE)):=by
 obtain⟨hc,GR,hq,he,hr⟩:=xm _ _ _ _ _ h;have hpb:=(nZ page aO).1 GR;have hF:=Oz l page (page+aO) q hc hpb.1 ((NN q).1 hq);have hr':(bR l page aO q).1=_:=hr;rw[hr'];refine⟨uL _ hF,fun p h1 h2=>?_⟩;have fg:=Ag _ hF p (by omega);have fs:=Af l hc p;simp only[dQ] at fg;by_cases hin:page<=(p:Int)/\(p:Int)<page+aO
 · have he':=GF _ _ _ _ he p (by omega) (by omega)
   grind [cA]
 grind
theorem Rw (l:List aX) (page aO q:Int):dH (dD l page aO q).1:=by
 by_cases h:(dD l page aO q).2=0
 · exact lC _ (zl l page aO q h).1
 grind [dD,Gw,En]
theorem Xf (l:List aX) (page aO:Int):dH (cN l page aO).1:=by
 by_cases h:(cN l page aO).2=0
 · exact lC _ (wk l page aO h).1
 grind [cN,Gw,En]
theorem Rv (l:List aX) (page aO q:Int):dH (bR l page aO q).1:=by
 by_cases h:(bR l page aO q).2=0
 · exact lC _ (tS l page aO q h).1
 grind [bR,Gw,En]
open Go.RowKit Go.Deep
theorem aca:Tryz.prog.cellsOf 139=4:=by rfl
theorem aeh:Tryz.prog.cellsOf 3=1:=by rfl
theorem aeg:Tryz.prog.cellsOf 4=1:=by rfl
theorem MD (n:Int) (h:(Lit.int .i64 n).wf=true):ub n:=by
 grind [Lit.wf,IntKind.min,IntKind.max,IntKind.signed,IntKind.bits,ub]
section
variable {H:Type} {enc:TypeId×Value->H} {w:World} {base:Nat} {spare:Nat->Bool} {held:Bool}
theorem Z1 {n:Nat} {a:Addr} {cs:List Value} {x:DataW H×List MemPlace} (hc:w.cells? base a 4=some cs) (h:DataW.trod enc Tryz.prog w base spare held n 139 cs=some x) :
  ∃q:Int×Int×Int×Bool,w.cell? (a.add 0)=some (I q.1)/\w.cell? (a.add 1)=some (I q.2.1)/\w.cell? (a.add 2)=some (I q.2.2.1)/\w.cell? (a.add 3)=some (.bool q.2.2.2)/\ub q.1/\ub q.2.1/\ub q.2.2.1:=by
 obtain⟨_,hlen,hcell⟩:=OT hc;obtain⟨xs,k,hk,hxy,_,hxl,hf⟩:=OS Tryz.underlying139 h
 match cs,hlen with
 | [v0,v1,v2,v3],_ =>
  have g0:DataW.trod enc Tryz.prog w base spare held k 3 (([v0,v1,v2,v3].drop 0).take (Tryz.prog.cellsOf 3))=xs[0]?:=hf 0 _ rfl;have g1:DataW.trod enc Tryz.prog w base spare held k 3 (([v0,v1,v2,v3].drop 1).take (Tryz.prog.cellsOf 3))=xs[1]?:=hf 1 _ rfl;have g2:DataW.trod enc Tryz.prog w base spare held k 3 (([v0,v1,v2,v3].drop 2).take (Tryz.prog.cellsOf 3))=xs[2]?:=hf 2 _ rfl;have g3:DataW.trod enc Tryz.prog w base spare held k 4 (([v0,v1,v2,v3].drop 3).take (Tryz.prog.cellsOf 4))=xs[3]?:=hf 3 _ rfl;simp only[aeh,aeg] at g0 g1 g2 g3;have e0:=hcell 0 (by omega);have e1:=hcell 1 (by omega);have e2:=hcell 2 (by omega);have e3:=hcell 3 (by omega)
  match xs,hxl with
  | [y0,y1,y2,y3],_ =>
   obtain⟨m0,c0,_,w0⟩:=C5 Tryz.underlying3 (show DataW.trod enc Tryz.prog w base spare held k 3 [v0]=some y0 from g0);obtain⟨m1,c1,_,w1⟩:=C5 Tryz.underlying3 (show DataW.trod enc Tryz.prog w base spare held k 3 [v1]=some y1 from g1);obtain⟨m2,c2,_,w2⟩:=C5 Tryz.underlying3 (show DataW.trod enc Tryz.prog w base spare held k 3 [v2]=some y2 from g2);obtain⟨b3,c3,_⟩:=DataW.trod_bool Tryz.underlying4 (show DataW.trod enc Tryz.prog w base spare held k 4 [v3]=some y3 from g3);simp only[Ap,C0] at c0 c1 c2 c3;subst c0;subst c1;subst c2;subst c3;exact⟨(m0,m1,m2,b3),e0,e1,e2,e3,MD _ w0,MD _ w1,MD _ w2⟩
theorem TA {fuel:Nat} {a0:Option Addr} {len cap:Nat} {x:DataW H×List MemPlace} (h:DataW.trod enc Tryz.prog w base spare held fuel 22 [.slice a0 len cap]=some x) :
  ∃l:List aX,l.length=len/\gu w (.slice a0 len cap) l/\(∀i,i<l.length->Br (bB l i))/\(len=0∨∃el sp,x.1=.slice el sp/\el.length=len):=by
 rcases open_slice Tryz.underlying22 h with⟨hcs,_⟩ | ⟨a,len',cap',m,n,D,Pl,hcs,hb,hl,hm,hmm,rfl,hx⟩
 · simp at hcs;obtain⟨rfl,rfl,rfl⟩:=hcs;exact⟨[],rfl,⟨none,0,rfl,.inl rfl⟩,fun i hi=>by grind,.inl rfl⟩
 · simp at hcs;obtain⟨rfl,rfl,rfl⟩:=hcs;have hlm:len<=m:=by grind
   have each:∀i,i<len->∃q:Int×Int×Int×Bool,w.cell? (a.add (i*4))=some (I q.1)/\w.cell? (a.add (i*4+1))=some (I q.2.1)/\w.cell? (a.add (i*4+2))=some (I q.2.2.1)/\w.cell? (a.add (i*4+3))=some (.bool q.2.2.2)/\ub q.1/\ub q.2.1/\ub q.2.2.1:=by
    intro i hi;obtain⟨cs',h1,h2⟩:=hx i (by omega);rw[aca] at h1;obtain⟨q,e0,e1,e2,e3,f⟩:=Z1 h1 h2
    grind [add_add]
   obtain⟨g,hg⟩:=choose_lt each;have hat:∀i,i<len->bB ((List.range len).map fun i=>(⟨(g i).1,(g i).2.1,(g i).2.2.1,(g i).2.2.2⟩:aX)) i=⟨(g i).1,(g i).2.1,(g i).2.2.1,(g i).2.2.2⟩:=by
    grind [bB]
   refine⟨(List.range len).map fun i=>⟨(g i).1,(g i).2.1,(g i).2.2.1,(g i).2.2.2⟩,by simp,?_,fun i hi=>?_,.inr ⟨_,_,rfl,by simp⟩⟩
   · by_cases h0:len=0
     · subst h0;exact⟨some a,cap,by simp,.inl (by simp)⟩
     · obtain⟨b,off,spot⟩:=a;have hc:=(hg 0 (by omega)).1;have hspot:spot=none:=by simpa [Addr.add] using OQ hc
       subst hspot;refine⟨some (Ad b off),cap,by simp,.inr ⟨b,off,rfl,fun i hi=>?_⟩⟩
       grind [Addr.add_lit]
   · have hi':i<len:=by grind
     rw[hat i hi'];obtain⟨_,_,_,_,f1,f2,f3⟩:=hg i hi';exact⟨f1,f2,f3⟩
end
open Go.RowKit
open Go.RowKit
open Go.RowKit
theorem ab1 (x y:Int) (V:World):(Op.equalIn 10000 75 (.agg #[I x,I y]) (.agg #[I 0,I 0])).run Tryz.prog V=.ok (decide (x=0/\y=0)) V:=by
 by_cases h1:x=0
 · by_cases h2:y=0
   · subst h1;subst h2;simp[go_sem]
   · have hq:=lG.2 h2;have hd:decide (x=0/\y=0)=false:=je (fun g=>h2 g.2);rw[hd];subst h1;simp[go_sem,hq]
 · have hq:=lG.2 h1;have hd:decide (x=0/\y=0)=false:=je (fun g=>h1 g.1);rw[hd];simp[go_sem,hq]
theorem MB (p:bO) (w:World):Calls Tryz.prog 146 #[p.val] w fun e w'=>e=.returned (.bool (fp p))/\Below w.heap.size w w':=by
 obtain⟨r,pc,st,cd,fk,fa⟩:=p;unfold bO.val bO.row fp xk;simp only;have hEQ:=fun V=>ab1 fk fa V
 by_cases h1:st=1
 · subst h1;by_cases hc:cd=0
   · subst hc;go_enter Tryz.func146,Tryz.ntmps146;go_wp2;go_ret;exact⟨by simp,(aJ _ _).alloc (aH _) _⟩
   · have hci:(cd==0)=false:=by rw[lG];exact hc
     go_enter Tryz.func146,Tryz.ntmps146;go_wp2;go_ret;exact⟨by simp[hc],(aJ _ _).alloc (aH _) _⟩
 · have h1i:(st==1)=false:=by rw[lG];exact h1
   rw[au h1];by_cases h2:st=2
   · subst h2;clear h1 h1i;go_enter Tryz.func146,Tryz.ntmps146;go_wp2;go_ret;exact⟨by simp,(aJ _ _).alloc (aH _) _⟩
   · have h2i:(st==2)=false:=by rw[lG];exact h2
     rw[au h2];by_cases h3:st=3
     · subst h3;clear h1 h1i h2 h2i;by_cases hc:cd=0
       · subst hc;by_cases hk:1<=fk
         · go_enter Tryz.func146,Tryz.ntmps146;go_wp2;go_ret;exact⟨by simp[hk],(aJ _ _).alloc (aH _) _⟩
         · go_enter Tryz.func146,Tryz.ntmps146;go_wp2;go_ret;exact⟨by simp;omega,(aJ _ _).alloc (aH _) _⟩
       · have hci:(cd==0)=false:=by rw[lG];exact hc
         go_enter Tryz.func146,Tryz.ntmps146;go_wp2;go_ret;exact⟨by simp[hc],(aJ _ _).alloc (aH _) _⟩
     · have h3i:(st==3)=false:=by rw[lG];exact h3
       rw[au h3];go_enter Tryz.func146,Tryz.ntmps146;go_wp2;go_ret;exact⟨rfl,(aJ _ _).alloc (aH _) _⟩
open Go.RowKit
structure pE where
 page:Int
 aO:Int
 data:ByteArray
 wr:Bool
 ex:Bool
structure UW where
 name:ByteArray
 pos:Int
structure R7 where
 pos:Int
 name:ByteArray
 add:Int
structure wD where
 name:ByteArray
 needs:List ByteArray
 jD:List pE
 syms:List UW
 pN:List R7
 entry:Int
def acz:ByteArray:=⟨#[]⟩
def Hp:pE:=⟨0,0,acz,false,false⟩
def ail:UW:=⟨acz,0⟩
def aim:R7:=⟨0,acz,0⟩
def qD (l:List ByteArray) (i:Nat):ByteArray:=l.getD i acz
def eD (l:List pE) (i:Nat):pE:=l.getD i Hp
def UT (l:List UW) (i:Nat):UW:=l.getD i ail
def uM (l:List R7) (i:Nat):R7:=l.getD i aim
theorem I0 {α:Type} (p:α->Bool) (d:α):∀l:List α,(∀i,i<l.length->p (l.getD i d)=true)->l.all p=true
 | [],_=>rfl
 | a::r,h=>by
  have h0:p a=true:=h 0 (by simp);have hr:=I0 p d r (fun i hi=>h (i+1) (by grind))
  grind
theorem PU {α:Type} (p:α->Bool) (d:α):∀(l:List α) (i:Nat),i<l.length->l.all p=true->p (l.getD i d)=true
 | a::r,0,_,h=>by grind
 | a::r,i+1,hi,h=>by
  grind
theorem MQ {α:Type} (p:α->Bool) (d:α) (l:List α) (i:Nat) (hi:i<l.length) (h:p (l.getD i d)=false):l.all p=false:=by
 grind
def uB (n:Int):Bool:=decide (97<=n/\n<=122) || (decide (48<=n/\n<=57) || decide (n=95))
def uC (s:ByteArray):Bool:=decide (1<=s.size/\s.size<=12)&&s.data.toList.all (fun c=>uB c.toNat)
theorem TN (s:ByteArray) (k:Nat) (h:k<s.size):s.data.toList.getD k 0=s[k]:=by
 have h':k<s.data.toList.length:=by simp_all
 rw[fy,lR h'];rfl
theorem aax (s:ByteArray) (h1:1<=s.size) (h2:s.size<=12) (h:∀k (hk:k<s.size),uB s[k].toNat=true):uC s=true:=by
 unfold uC;rw[gU ⟨h1,h2⟩,tv];refine I0 _ 0 _ (fun i hi=>?_)
 grind [Lib.size_eq,TN]
theorem adh (s:ByteArray) (k:Nat) (hk:k<s.size) (h:uB s[k].toNat=false):uC s=false:=by
 unfold uC;rw[MQ _ 0 s.data.toList k (by simp_all) (by grind [TN]),Bool.and_false]
theorem PT (s:ByteArray) (h:¬(1<=s.size/\s.size<=12)):uC s=false:=by
 grind [uC]
def aaw (r:R7):Bool:=decide (r.name.size=0) || uC r.name
def ae7 (i:wD):Bool:=uC i.name&&(i.needs.all uC&&(i.syms.all (fun y=>uC y.name)&&i.pN.all aaw))
def CA (i:wD):Bool:=decide (1<=i.jD.length/\i.jD.length<=6/\i.needs.length<=4/\i.syms.length<=12/\i.pN.length<=16)
def kZ (s:pE):Bool:=decide (0<=s.page/\1<=s.aO/\s.page+s.aO<=255/\(s.data.size:Int)<=s.aO*16)
def L4 (i:wD):Bool:=i.jD.all kZ
def XY (l:List pE) (k:Nat):Bool:=k==0 || decide ((eD l (k-1)).page+(eD l (k-1)).aO<=(eD l k).page)
def su (l:List pE):Nat->Bool
 | 0=>true
 | k+1=>su l k&&XY l k
def CB (l:List pE):Bool:=su l l.length
def oq (l:List ByteArray):Nat->Bool
 | 0=>true
 | k+1=>oq l k&&!(l.take k).contains (qD l k)
def xx (l:List ByteArray):Bool:=oq l l.length
def ae6 (i:wD):Bool:=CB i.jD&&(xx i.needs&&xx (i.syms.map (·.name)))
def rP (s:pE) (a:Int):Bool:=decide (s.page*16<=a/\a<(s.page+s.aO)*16)
def tB:List pE->Int->Option pE
 | [],_=>none
 | s::r,a=>if rP s a then some s else tB r a
def iO (l:List pE) (a:Int):Bool:=(tB l a).isSome
def XX (l:List pE) (a:Int):Bool:=iO l a&&(iO l (a+1)&&(iO l (a+2)&&(iO l (a+3)&&(iO l (a+4)&&(iO l (a+5)&&(iO l (a+6)&&iO l (a+7)))))))
def Ph (i:wD) (k:Nat):Bool:=(k==0 || decide ((uM i.pN (k-1)).pos+8<=(uM i.pN k).pos))&&XX i.jD (uM i.pN k).pos
def JV (i:wD):Nat->Bool
 | 0=>true
 | k+1=>JV i k&&Ph i k
def Cz (i:wD):Bool:=match tB i.jD i.entry with
 | some s=>s.ex&&decide (i.entry%8=0)
 | none=>false
def GY (i:wD):Bool:=i.syms.all (fun y=>iO i.jD y.pos)&&(JV i i.pN.length&&Cz i)
def mq (i:wD):Int:=if !ae7 i then 4 else if !CA i then 2 else if !L4 i then 3 else if !ae6 i then 5 else if !GY i then 6 else 0
def PV (w:World) (b off:Nat) (l:List ByteArray):Prop:=∀i,i<l.length->w.cell? (Ad b (off+i))=some (.string (qD l i))
def zC (w:World) (b off:Nat) (l:List pE):Prop:=∀i,i<l.length ->
 w.cell? (Ad b (off+i*5))=some (I (eD l i).page)/\w.cell? (Ad b (off+i*5+1))=some (I (eD l i).aO) /\
 w.cell? (Ad b (off+i*5+2))=some (.string (eD l i).data)/\w.cell? (Ad b (off+i*5+3))=some (.bool (eD l i).wr)/\w.cell? (Ad b (off+i*5+4))=some (.bool (eD l i).ex)
def UX (w:World) (b off:Nat) (l:List UW):Prop:=∀i,i<l.length ->
 w.cell? (Ad b (off+i*2))=some (.string (UT l i).name)/\w.cell? (Ad b (off+i*2+1))=some (I (UT l i).pos)
def UY (w:World) (b off:Nat) (l:List R7):Prop:=∀i,i<l.length ->
 w.cell? (Ad b (off+i*3))=some (I (uM l i).pos)/\w.cell? (Ad b (off+i*3+1))=some (.string (uM l i).name)/\w.cell? (Ad b (off+i*3+2))=some (I (uM l i).add)
def cK (n:Int):Prop:=-9223372036854775808<=n/\n<=9223372036854775807
def cu (n:Nat):Prop:=n<=140737488351232
def ae9 (s:pE):Prop:=cK s.page/\cK s.aO/\cu s.data.size
def ajm (s:UW):Prop:=cu s.name.size/\cK s.pos
def ajn (s:R7):Prop:=cK s.pos/\cu s.name.size/\cK s.add
structure JW (i:wD):Prop where
 name:cu i.name.size
 needs:cu i.needs.length
 need:∀k,k<i.needs.length->cu (qD i.needs k).size
 jD:cu i.jD.length
 seg:∀k,k<i.jD.length->ae9 (eD i.jD k)
 syms:cu i.syms.length
 sym:∀k,k<i.syms.length->ajm (UT i.syms k)
 pN:cu i.pN.length
 rel:∀k,k<i.pN.length->ajn (uM i.pN k)
 entry:cK i.entry
def gJ {α:Type} (lie:World->Nat->Nat->List α->Prop) (w:World) (ao:Option Addr) (l:List α):Prop:=0<l.length->∃b off,ao=some (Ad b off)/\b<w.heap.size/\lie w b off l
structure JY where
 an:Option Addr
 cn:Nat
 ag:Option Addr
 cg:Nat
 ay:Option Addr
 cy:Nat
 ar:Option Addr
 cr:Nat
structure pT (w:World) (a:JY) (i:wD):Prop where
 needs:gJ PV w a.an i.needs
 jD:gJ zC w a.ag i.jD
 syms:gJ UX w a.ay i.syms
 pN:gJ UY w a.ar i.pN
def jF (a:JY) (i:wD):Array Value:=#[.string i.name,.slice a.an i.needs.length a.cn,.slice a.ag i.jD.length a.cg,.slice a.ay i.syms.length a.cy,.slice a.ar i.pN.length a.cr,I i.entry]
theorem cJ {w w':World} (hb:Below w.heap.size w w') {b o:Nat} (h:b<w.heap.size):w'.cell? (Ad b o)=w.cell? (Ad b o):=hb.cell (p:=(Ad b o)) h
theorem gJ.below {α:Type} {lie:World->Nat->Nat->List α->Prop} (eX:∀{w w':World} {b off:Nat} {l:List α},Below w.heap.size w w'->b<w.heap.size->lie w b off l->lie w' b off l)
  {w w':World} {ao:Option Addr} {l:List α} (h:gJ lie w ao l) (hb:Below w.heap.size w w'):gJ lie w' ao l:=fun hl=>by
 obtain⟨b,off,e,hlt,hh⟩:=h hl
 grind [Nat.lt_of_lt_of_le,Below.size]
theorem ae8 {w w':World} {b off:Nat} {l:List ByteArray} (hb:Below w.heap.size w w') (hlt:b<w.heap.size) (h:PV w b off l):PV w' b off l:=fun i hi=>(cJ hb hlt).trans (h i hi)
theorem zB {w w':World} {b off:Nat} {l:List pE} (hb:Below w.heap.size w w') (hlt:b<w.heap.size) (h:zC w b off l):zC w' b off l:=fun i hi=>by
 obtain⟨c0,c1,c2,c3,c4⟩:=h i hi
 grind [cJ]
theorem ajk {w w':World} {b off:Nat} {l:List UW} (hb:Below w.heap.size w w') (hlt:b<w.heap.size) (h:UX w b off l):UX w' b off l:=fun i hi=>by
 obtain⟨c0,c1⟩:=h i hi
 grind [cJ]
theorem ajl {w w':World} {b off:Nat} {l:List R7} (hb:Below w.heap.size w w') (hlt:b<w.heap.size) (h:UY w b off l):UY w' b off l:=fun i hi=>by
 obtain⟨c0,c1,c2⟩:=h i hi
 grind [cJ]
theorem pT.below {w w':World} {a:JY} {i:wD} (h:pT w a i) (hb:Below w.heap.size w w'):pT w' a i :=
 ⟨gJ.below (lie:=PV) (fun hb hlt h=>ae8 hb hlt h) h.needs hb,gJ.below (lie:=zC) (fun hb hlt h=>zB hb hlt h) h.jD hb,gJ.below (lie:=UX) (fun hb hlt h=>ajk hb hlt h) h.syms hb,gJ.below (lie:=UY) (fun hb hlt h=>ajl hb hlt h) h.pN hb⟩
open Go.RowKit
theorem ahR {w:World} {v:Value} {l:List aX} (h:gu w v l):∃ao n c,v=.slice ao n c:=by
 obtain⟨ao,cap,h,_⟩:=h
 grind
open Go.RowKit
theorem qA {a b:Bool} (h:a=b):Ending.returned (.bool a)=.returned (.bool b):=by rw[h]
open Go.RowKit
open Go.RowKit
open Go.RowKit
def Ps (w:World) (b off:Nat) (l:List bO):Prop:=∀i,i<l.length->w.cell? (Ad b (off+i*13))=some (I ((aK l i).r 0))/\w.cell? (Ad b (off+i*13+1))=some (I ((aK l i).r 1))/\w.cell? (Ad b (off+i*13+2))=some (I ((aK l i).r 2))/\w.cell? (Ad b (off+i*13+3))=some (I ((aK l i).r 3))/\w.cell? (Ad b (off+i*13+4))=some (I ((aK l i).r 4))/\w.cell? (Ad b (off+i*13+5))=some (I ((aK l i).r 5))/\w.cell? (Ad b (off+i*13+6))=some (I ((aK l i).r 6))/\w.cell? (Ad b (off+i*13+7))=some (I ((aK l i).r 7))/\w.cell? (Ad b (off+i*13+8))=some (I (aK l i).pc)/\w.cell? (Ad b (off+i*13+9))=some (I (aK l i).st)/\w.cell? (Ad b (off+i*13+10))=some (I (aK l i).cd)/\w.cell? (Ad b (off+i*13+11))=some (I (aK l i).fk)/\w.cell? (Ad b (off+i*13+12))=some (I (aK l i).fa)
theorem ahQ {w w':World} {b off:Nat} {l:List bO} (hb:Below w.heap.size w w') (hlt:b<w.heap.size) (h:Ps w b off l):Ps w' b off l:=fun i hi=>by
 obtain⟨c0,c1,c2,c3,c4,c5,c6,c7,c8,c9,c10,c11,c12⟩:=h i hi;exact⟨(cJ hb hlt).trans c0,(cJ hb hlt).trans c1,(cJ hb hlt).trans c2,(cJ hb hlt).trans c3,(cJ hb hlt).trans c4,(cJ hb hlt).trans c5,(cJ hb hlt).trans c6,(cJ hb hlt).trans c7,(cJ hb hlt).trans c8,(cJ hb hlt).trans c9,(cJ hb hlt).trans c10,(cJ hb hlt).trans c11,(cJ hb hlt).trans c12⟩
def uI (w:World) (ao:Option Addr) (l:List bO):Prop:=gJ Ps w ao l
theorem uI.below {w w':World} {ao:Option Addr} {l:List bO} (h:uI w ao l) (hb:Below w.heap.size w w'):uI w' ao l:=gJ.below (lie:=Ps) (fun hb hlt h=>ahQ hb hlt h) h hb
def Pr (w:World) (b off:Nat) (l:List rY):Prop:=∀i,i<l.length->w.cell? (Ad b (off+i*2))=some (I (oL l i).proc)/\w.cell? (Ad b (off+i*2+1))=some (I (oL l i).value)
theorem ahP {w w':World} {b off:Nat} {l:List rY} (hb:Below w.heap.size w w') (hlt:b<w.heap.size) (h:Pr w b off l):Pr w' b off l:=fun i hi=>by
 obtain⟨c0,c1⟩:=h i hi;exact⟨(cJ hb hlt).trans c0,(cJ hb hlt).trans c1⟩
def wh (w:World) (ao:Option Addr) (l:List rY):Prop:=gJ Pr w ao l
theorem wh.below {w w':World} {ao:Option Addr} {l:List rY} (h:wh w ao l) (hb:Below w.heap.size w w'):wh w' ao l:=gJ.below (lie:=Pr) (fun hb hlt h=>ahP hb hlt h) h hb
open Go.RowKit
open Go.RowKit
def ym (p:bO) (x:Int×Int):bO:={ p with st:=3,fk:=x.1,fa:=x.2 }
def ml (pc:Int):bO:=⟨fun _=>0,pc,1,0,0,0⟩
theorem W4 (pc:Int) (w:World):Calls Tryz.prog 31 #[I pc] w fun e w'=>e=.returned (ml pc).val/\Below w.heap.size w w':=by
 unfold bO.val ml bO.row;simp only;go_enter Tryz.func31,Tryz.ntmps31;go_wp2;exact bK (v:=.agg #[I 0,I 0,I 0,I 0,I 0,I 0,I 0,I 0,I pc,I 1,I 0,I 0,I 0]) (by simp[results,Tryz.results31,go_sem]) rfl ⟨rfl,(aJ _ _).alloc (aH _) _⟩
open Go.RowKit
structure gN (σ:Type) where
 load:σ->Nat->Int->Int->Int->(ByteArray×(Int×Int))×σ
 store:σ->Nat->Int->ByteArray->(Int×Int)×σ
 map:σ->Nat->Int->Int->Int->Int×σ
 oW:σ->Nat->Int->Int->Int×σ
 jl:σ->Nat->Int->Int->Int->Int×σ
 fork:σ->Nat->Int×σ
 drop:σ->Nat->σ
structure dA (σ:Type) where
 mem:σ
 ps:List bO
 out:List rY
variable {σ:Type}
def El (s:ByteArray):Int:=if 1<=s.size/\s.size<=8 then wrap64 (Lib.leNat s.data.toList:Nat) else 0
def mP (v n:Int):ByteArray:=⟨(Lib.leBytes n.toNat (mz v)).toArray⟩
def fh (o:gN σ) (st:dA σ) (k:Nat) (c:Int):Int×dA σ :=
 if c=1 then (0,{ st with out:=st.out++[⟨(k:Int),(aK st.ps k).r 0⟩] })
 else if c=2 then ((o.map st.mem k ((aK st.ps k).r 0) ((aK st.ps k).r 1) ((aK st.ps k).r 2)).1,{ st with mem:=(o.map st.mem k ((aK st.ps k).r 0) ((aK st.ps k).r 1) ((aK st.ps k).r 2)).2 })
 else if c=3 then ((o.oW st.mem k ((aK st.ps k).r 0) ((aK st.ps k).r 1)).1,{ st with mem:=(o.oW st.mem k ((aK st.ps k).r 0) ((aK st.ps k).r 1)).2 })
 else if c=4 then ((o.jl st.mem k ((aK st.ps k).r 0) ((aK st.ps k).r 1) ((aK st.ps k).r 2)).1,{ st with mem:=(o.jl st.mem k ((aK st.ps k).r 0) ((aK st.ps k).r 1) ((aK st.ps k).r 2)).2 })
 else if c=5 then (if (o.fork st.mem k).1=0 then ((st.ps.length:Int),{ st with mem:=(o.fork st.mem k).2,ps:=st.ps++[aK st.ps k] }) else (-1,{ st with mem:=(o.fork st.mem k).2 }))
 else if c=6 then (0,{ st with mem:=o.drop st.mem k })
 else (0,st)
def gq (o:gN σ) (st:dA σ) (k:Nat) (i:dR):(Int×(Int×Int))×dA σ :=
 if i.bad then ((0,(4,(aK st.ps k).pc)),st)
 else if i.op=9 then
  ((El (o.load st.mem k (wrap64 ((aK st.ps k).r i.b.toNat+i.m)) i.c 0).1.1,(o.load st.mem k (wrap64 ((aK st.ps k).r i.b.toNat+i.m)) i.c 0).1.2),{ st with mem:=(o.load st.mem k (wrap64 ((aK st.ps k).r i.b.toNat+i.m)) i.c 0).2 })
 else if i.op=10 then
  ((0,(o.store st.mem k (wrap64 ((aK st.ps k).r i.b.toNat+i.m)) (mP ((aK st.ps k).r i.a.toNat) i.c)).1),{ st with mem:=(o.store st.mem k (wrap64 ((aK st.ps k).r i.b.toNat+i.m)) (mP ((aK st.ps k).r i.a.toNat) i.c)).2 })
 else if i.op=16 then (((fh o st k i.m).1,(0,0)),(fh o st k i.m).2)
 else ((0,(0,0)),st)
def oV (i:dR) (n:Nat) (ps:List bO):List bO:=ps.take n++(ps.drop n).map (fun p=>cX p i 0)
def mv (o:gN σ) (st:dA σ) (k:Nat):(Int×Int)×dA σ :=
 let x:=o.load st.mem k (aK st.ps k).pc 8 2
 let s1:dA σ:={ st with mem:=x.2 }
 if ¬x.1.2.1=0 then (x.1.2,s1) else
 let i:=iB x.1.1
 let y:=gq o s1 k i
 if ¬y.1.2.1=0 then (y.1.2,y.2) else
 ((0,0),{ y.2 with ps:=oV i st.ps.length (y.2.ps.set k (cX (aK y.2.ps k) i y.1.1)) })
def jt (o:gN σ) (st:dA σ) (pick:Int):Int×dA σ :=
 if ¬(0<=pick/\pick<(st.ps.length:Int)) then (6,st)
 else if ¬(aK st.ps pick.toNat).st=1 then (0,st)
 else if 2000<=st.out.length then (2,st)
 else
  let r:=mv o st pick.toNat
  if r.1.1=0 then (0,r.2) else (0,{ r.2 with mem:=o.drop r.2.mem pick.toNat,ps:=r.2.ps.set pick.toNat (ym (aK r.2.ps pick.toNat) r.1) })
def fe (o:gN σ) (picks:List Int):Nat->Option (dA σ)->Option (dA σ)
 | 0,st=>st
 | n+1,st=>match fe o picks n st with
  | none=>none
  | some s=>if (jt o s (picks.getD n 0)).1=2 then none else some (jt o s (picks.getD n 0)).2
def vX (o:gN σ) (st:dA σ) (picks:List Int):Int×Option (dA σ) :=
 if 2000<picks.length then (2,none) else match fe o picks picks.length (some st) with
  | none=>(2,none)
  | some s=>(0,some s)
structure qp (o:gN σ) (Ok:σ->List Bool->Prop):Prop where
 load:∀s fl k a n way,Ok s fl->fl.getD k false=true->Ok (o.load s k a n way).2 fl
 size:∀s fl k a n way,Ok s fl->fl.getD k false=true->1<=n->n<=8->(o.load s k a n way).1.2.1=0->((o.load s k a n way).1.1.size:Int)=n
 fault:∀s fl k a n way,Ok s fl->fl.getD k false=true->0<=(o.load s k a n way).1.2.1/\(o.load s k a n way).1.2.1<=4/\((o.load s k a n way).1.2.1=0->(o.load s k a n way).1.2=(0,0))
 none:∀s fl k a n way,Ok s fl->fl.getD k false=true->¬(o.load s k a n way).1.2.1=0->(o.load s k a n way).1.1=⟨#[]⟩
 store:∀s fl k a d,Ok s fl->fl.getD k false=true->1<=d.size->d.size<=8->Ok (o.store s k a d).2 fl
 PJ:∀s fl k a d,Ok s fl->fl.getD k false=true->0<=(o.store s k a d).1.1/\(o.store s k a d).1.1<=4/\((o.store s k a d).1.1=0->(o.store s k a d).1=(0,0))
 map:∀s fl k p n q,Ok s fl->fl.getD k false=true->Ok (o.map s k p n q).2 fl
 oW:∀s fl k p n,Ok s fl->fl.getD k false=true->Ok (o.oW s k p n).2 fl
 jl:∀s fl k p n q,Ok s fl->fl.getD k false=true->Ok (o.jl s k p n q).2 fl
 PI:∀s fl k,Ok s fl->fl.getD k false=true->¬(o.fork s k).1=0->Ok (o.fork s k).2 fl
 JM:∀s fl k,Ok s fl->fl.getD k false=true->(o.fork s k).1=0->Ok (o.fork s k).2 (fl++[true])
 aeB:∀s fl k p n q,Ok s fl->fl.getD k false=true->0<=(o.map s k p n q).1/\(o.map s k p n q).1<=10
 Pt:∀s fl k p n,Ok s fl->fl.getD k false=true->0<=(o.oW s k p n).1/\(o.oW s k p n).1<=10
 EW:∀s fl k p n q,Ok s fl->fl.getD k false=true->0<=(o.jl s k p n q).1/\(o.jl s k p n q).1<=10
 few:∀s fl,Ok s fl->fl.length<=4
 drop:∀s fl k,Ok s fl->fl.getD k false=true->Ok (o.drop s k) (fl.set k false)
def bX (ps:List bO):List Bool:=ps.map (fun p=>decide (p.st=1))
theorem IC (ps:List bO) (k:Nat):(bX ps).getD k false=(decide (k<ps.length)&&decide ((aK ps k).st=1)):=by
 unfold bX aK;rw[fy,fy,Aq];by_cases h:k<ps.length
 · rw[lR h,gU h];simp
 · rw[O9 (by omega),je h];rfl
theorem zX (ps:List bO) (k:Nat) (p:bO):bX (ps.set k p)=(bX ps).set k (decide (p.st=1)):=by
 unfold bX;rw[OG]
theorem Oq (ps:List bO) (p:bO):bX (ps++[p])=bX ps++[decide (p.st=1)]:=by
 unfold bX;rw[Ao];rfl
open Go.RowKit
variable {σ:Type}
theorem pJ (n:Int):cK (wrap64 n):=by
 unfold cK wrap64;have:=OV n;omega
theorem ZM (n:Int):cK (IntKind.i64.wrap n):=by
 unfold cK;have:=OV n;omega
def rX (p:bO):Prop:=(∀j,j<8->cK (p.r j))/\cK p.pc
theorem abX {p:bO} (h:rX p) (j:Nat) {v:Int} (hv:cK v):rX (p.set j v):=by
 refine⟨fun q hq=>?_,h.2⟩;show cK (if q=j then v else p.r q);split
 · exact hv
 · exact h.1 q hq
theorem Mx {p:bO} (h:rX p) {v:Int} (hv:cK v):rX { p with pc:=v }:=⟨h.1,hv⟩
theorem nA {α:Type} (P:α->Prop) {c:Prop} [Decidable c] {a b:α} (h1:c->P a) (h2:¬c->P b):P (if c then a else b):=by
 by_cases h:c
 · rw[aB h];exact h1 h
 · rw[au h];exact h2 h
theorem WS {i:dR} (hb:i.bad=false):1<=i.op/\i.op<=16:=by
 unfold dR.bad at hb;by_cases h12:i.op=12
 · omega
 · by_cases h16:i.op=16
   · omega
   · rw[au h12,au h16] at hb;by_cases c1:i.op=1∨i.op=11∨i.op=15
     · omega
     · rw[au c1] at hb;by_cases c2:2<=i.op/\i.op<=7
       · omega
       · rw[au c2] at hb;by_cases c3:i.op=8∨i.op=13∨i.op=14
         · omega
         · rw[au c3] at hb;by_cases c4:i.op=9∨i.op=10
           · omega
           · rw[au c4] at hb;cases hb
theorem ZP {i:dR} (hb:i.bad=false) (hf:i.fits):(i.op=15->i.a.toNat<8)/\(2<=i.op/\i.op<=7->i.b.toNat<8):=by
 obtain⟨_,⟨a0,a1⟩,⟨b0,b1⟩,_⟩:=hf;unfold dR.bad at hb;constructor
 · intro h;simp[h] at hb;omega
 · intro h;rw[au (by omega),au (by omega),au (by omega),aB h,decide_eq_false_iff_not] at hb;omega
theorem Gl (P:bO->Prop) (p:bO) (i:dR) (v:Int) (hb:i.bad=false)
  (h0:P { p with pc:=wrap64 (p.pc+8) }) (hs:∀j x,(x=i.m∨x=v∨(∃y,x=wrap64 y)∨(2<=i.op/\i.op<=7/\x=MP i.op (p.r i.b.toNat) (p.r i.c.toNat)))->P (({ p with pc:=wrap64 (p.pc+8) }:bO).set j x))
  (hp:∀y,P { p with pc:=wrap64 y }) (hg:i.op=15->P { p with pc:=p.r i.a.toNat }) (he:i.op=16->i.m=6->P { p with pc:=wrap64 (p.pc+8),st:=2,cd:=p.r 0 }):P (cX p i v):=by
 have hr:=WS hb;unfold cX;simp only;refine nA P (fun _=>hs _ _ (.inl rfl)) (fun n1=>?_);refine nA P (fun g=>hs _ _ (.inr (.inr (.inr ⟨g.1,g.2,rfl⟩)))) (fun n2=>?_);refine nA P (fun _=>hs _ _ (.inr (.inr (.inl ⟨_,rfl⟩)))) (fun n3=>?_);refine nA P (fun _=>hs _ _ (.inr (.inl rfl))) (fun n4=>?_);refine nA P (fun _=>h0) (fun n5=>?_);refine nA P (fun _=>hs _ _ (.inr (.inr (.inl ⟨_,rfl⟩)))) (fun n6=>?_);refine nA P (fun _=>hp _) (fun n7=>?_);refine nA P (fun _=>nA P (fun _=>hp _) (fun _=>h0)) (fun n8=>?_);refine nA P (fun _=>nA P (fun _=>hp _) (fun _=>h0)) (fun n9=>?_);refine nA P (fun g=>hg g) (fun n10=>?_);refine nA P (fun g=>he (by omega) g) (fun n11=>?_);refine nA P (fun _=>h0) (fun n12=>?_);exact hs _ _ (.inr (.inl rfl))
theorem WN {p:bO} {i:dR} {v:Int} (h:i.op=16) (h6:i.m=6):cX p i v={ p with pc:=wrap64 (p.pc+8),st:=2,cd:=p.r 0 }:=by
 unfold cX;simp[h,h6]
theorem Jm {p:bO} {i:dR} {v:Int} (hb:i.bad=false) (h:¬(i.op=16/\i.m=6)):(cX p i v).st=p.st :=
 Gl (fun q=>q.st=p.st) p i v hb rfl (fun _ _ _=>rfl) (fun _=>rfl) (fun _=>rfl) (fun g1 g2=>(h ⟨g1,g2⟩).elim)
theorem ID {p:bO} {i:dR} {v:Int} (hb:i.bad=false) (h:p.st=1) (hr:fp p=true):fp (cX p i v)=true:=by
 have h2:p.cd=0/\p.fk=0/\p.fa=0:=by
  unfold fp xk at hr;rw[aB h] at hr;simp only[eG,kR] at hr;exact hr
 have key:∀q:bO,q.st=1->q.cd=0->q.fk=0->q.fa=0->fp q=true:=fun q e1 e2 e3 e4=>by
  unfold fp xk;rw[aB e1,e2,e3,e4];rfl
 refine Gl (fun q=>fp q=true) p i v hb (key _ h h2.1 h2.2.1 h2.2.2) (fun _ _ _=>key _ h h2.1 h2.2.1 h2.2.2) (fun _=>key _ h h2.1 h2.2.1 h2.2.2) (fun _=>key _ h h2.1 h2.2.1 h2.2.2) (fun _ _=>?_);unfold fp xk;simp[h2]
theorem ad6 (op b c:Int) (hb:cK b):cK (MP op b c):=by
 have alh:∀o,cK (bits o .i64 b c):=fun o=>by
  unfold bits;exact ZM _
 unfold MP
 repeat' split
 all_goals first | exact pJ _ | exact alh _
theorem NI {p:bO} {i:dR} {v:Int} (h:rX p) (hv:cK v) (hb:i.bad=false) (hf:i.fits):rX (cX p i v):=by
 have hn:rX { p with pc:=wrap64 (p.pc+8) }:=Mx h (pJ _);have hm:cK i.m:=by obtain⟨_,_,_,_,m0,m1⟩:=hf;unfold cK;omega
 have akM:=ZP hb hf;refine Gl rX p i v hb hn (fun j x hx=>abX hn j ?_) (fun _=>Mx h (pJ _)) (fun g=>Mx h (h.1 _ (akM.1 g))) (fun _ _=>⟨hn.1,hn.2⟩);rcases hx with e | e | ⟨y,e⟩ | ⟨g1,g2,e⟩
 · rw[e];exact hm
 · rw[e];exact hv
 · rw[e];exact pJ _
 · rw[e];exact ad6 _ _ _ (h.1 _ (akM.2 ⟨g1,g2⟩))
open Go.RowKit
end Go.Proofs.YtlgoihmkgaaemaaGreat
