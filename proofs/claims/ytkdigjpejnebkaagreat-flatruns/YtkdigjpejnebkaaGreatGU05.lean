import Derived.Test.YtkdigjpejnebkaaGreatGU00
import Derived.WalkKit
import Derived.Below
import Derived.Lib.Strings
import Derived.Test.YtkdigjpejnebkaaGreatGU04
import Derived.Test.YtkdigjpejnebkaaGreatGU01
import Derived.Test.YtkdigjpejnebkaaGreatGU02
set_option maxHeartbeats 20000000
set_option linter.unusedVariables false
set_option maxRecDepth 100000
set_option linter.unusedSimpArgs false
namespace Go.Proofs.YtkdigjpejnebkaaGreat
namespace M
open Go.RowKit
structure Sg where
 page:Int
 aj:Int
 data:ByteArray
 wr:Bool
 ex:Bool
structure Sy where
 name:ByteArray
 pos:Int
structure Rl where
 pos:Int
 name:ByteArray
 add:Int
structure Im where
 name:ByteArray
 needs:List ByteArray
 cW:List Sg
 syms:List Sy
 fu:List Rl
 entry:Int
def nil:ByteArray:=⟨#[]⟩
def O6:Sg:=⟨0,0,nil,false,false⟩
def sy0:Sy:=⟨nil,0⟩
def rl0:Rl:=⟨0,nil,0⟩
def jU (l:List ByteArray) (i:Nat):ByteArray:=l.getD i nil
def dB (l:List Sg) (i:Nat):Sg:=l.getD i O6
def PF (l:List Sy) (i:Nat):Sy:=l.getD i sy0
def qw (l:List Rl) (i:Nat):Rl:=l.getD i rl0
theorem all_true {α:Type} (p:α->Bool) (d:α):∀l:List α,(∀i,i<l.length->p (l.getD i d)=true)->l.all p=true
 | [],_=>rfl
 | a::r,h=>by
  have h0:p a=true:=h 0 (by simp)
  have hr:=all_true p d r (fun i hi=>h (i+1) (by simpa using hi))
  simp[h0,hr]
theorem ym {α:Type} (p:α->Bool) (d:α):∀(l:List α) (i:Nat),i<l.length->l.all p=true->p (l.getD i d)=true
 | a::r,0,_,h=>by simp at h;simpa using h.1
 | a::r,i+1,hi,h=>by
  simp at h
  have:=ym p d r i (by simpa using hi) (by simpa using h.2)
  simpa using this
theorem all_false {α:Type} (p:α->Bool) (d:α) (l:List α) (i:Nat) (hi:i<l.length) (h:p (l.getD i d)=false):l.all p=false:=by
 cases e:l.all p
 · rfl
 · rw[ym p d l i hi e] at h;cases h
def om (n:Int):Bool:=decide (97<=n/\n<=122) || (decide (48<=n/\n<=57) || decide (n=95))
def oo (s:ByteArray):Bool:=decide (1<=s.size/\s.size<=12)&&s.data.toList.all (fun c=>om c.toNat)
theorem Ig (s:ByteArray) (k:Nat) (h:k<s.size):s.data.toList.getD k 0=s[k]:=by
 have h':k<s.data.toList.length:=by rw[<- Lib.size_eq];exact h
 rw[List.getD_eq_getElem?_getD,List.getElem?_eq_getElem h']
 rfl
theorem MA (s:ByteArray) (h1:1<=s.size) (h2:s.size<=12) (h:∀k (hk:k<s.size),om s[k].toNat=true):oo s=true:=by
 unfold oo
 rw[decide_eq_true ⟨h1,h2⟩,Bool.true_and]
 refine all_true _ 0 _ (fun i hi=>?_)
 have hi':i<s.size:=by rw[Lib.size_eq];exact hi
 rw[Ig s i hi']
 exact h i hi'
theorem Qd (s:ByteArray) (k:Nat) (hk:k<s.size) (h:om s[k].toNat=false):oo s=false:=by
 unfold oo
 rw[all_false _ 0 s.data.toList k (by rw[<- Lib.size_eq];exact hk) (by rw[Ig s k hk];exact h),Bool.and_false]
theorem Dc (s:ByteArray) (h:¬(1<=s.size/\s.size<=12)):oo s=false:=by
 unfold oo
 rw[decide_eq_false h,Bool.false_and]
def Mj (r:Rl):Bool:=decide (r.name.size=0) || oo r.name
def T6 (i:Im):Bool:=oo i.name&&(i.needs.all oo&&(i.syms.all (fun y=>oo y.name)&&i.fu.all Mj))
def qg (i:Im):Bool:=decide (1<=i.cW.length/\i.cW.length<=6/\i.needs.length<=4/\i.syms.length<=12/\i.fu.length<=16)
def fE (s:Sg):Bool:=decide (0<=s.page/\1<=s.aj/\s.page+s.aj<=255/\(s.data.size:Int)<=s.aj*16)
def AZ (i:Im):Bool:=i.cW.all fE
def Ms (l:List Sg) (k:Nat):Bool:=k==0 || decide ((dB l (k-1)).page+(dB l (k-1)).aj<=(dB l k).page)
def lJ (l:List Sg):Nat->Bool
 | 0=>true
 | k+1=>lJ l k&&Ms l k
def uo (l:List Sg):Bool:=lJ l l.length
def iG (l:List ByteArray):Nat->Bool
 | 0=>true
 | k+1=>iG l k&&!(l.take k).contains (jU l k)
def o9 (l:List ByteArray):Bool:=iG l l.length
def TD (i:Im):Bool:=uo i.cW&&(o9 i.needs&&o9 (i.syms.map (·.name)))
def mz (s:Sg) (a:Int):Bool:=decide (s.page*16<=a/\a<(s.page+s.aj)*16)
def lC:List Sg->Int->Option Sg
 | [],_=>none
 | s::r,a=>if mz s a then some s else lC r a
def dQ (l:List Sg) (a:Int):Bool:=(lC l a).isSome
def LC (l:List Sg) (a:Int):Bool:=dQ l a&&(dQ l (a+1)&&(dQ l (a+2)&&(dQ l (a+3)&&(dQ l (a+4)&&(dQ l (a+5)&&(dQ l (a+6)&&dQ l (a+7)))))))
def H5 (i:Im) (k:Nat):Bool:=(k==0 || decide ((qw i.fu (k-1)).pos+8<=(qw i.fu k).pos))&&LC i.cW (qw i.fu k).pos
def AX (i:Im):Nat->Bool
 | 0=>true
 | k+1=>AX i k&&H5 i k
def ug (i:Im):Bool:=match lC i.cW i.entry with
 | some s=>s.ex&&decide (i.entry%8=0)
 | none=>false
def vW (i:Im):Bool:=i.syms.all (fun y=>dQ i.cW y.pos)&&(AX i i.fu.length&&ug i)
def ji (i:Im):Int:=if !T6 i then 4 else if !qg i then 2 else if !AZ i then 3 else if !TD i then 5 else if !vW i then 6 else 0
def zq (w:World) (b off:Nat) (l:List ByteArray):Prop:=∀i,i<l.length->w.cell? (Ad b (off+i))=some (.string (jU l i))
def yr (w:World) (b off:Nat) (l:List Sg):Prop:=∀i,i<l.length ->
 w.cell? (Ad b (off+i*5))=some (I (dB l i).page)/\w.cell? (Ad b (off+i*5+1))=some (I (dB l i).aj) /\
 w.cell? (Ad b (off+i*5+2))=some (.string (dB l i).data)/\w.cell? (Ad b (off+i*5+3))=some (.bool (dB l i).wr)/\w.cell? (Ad b (off+i*5+4))=some (.bool (dB l i).ex)
def RG (w:World) (b off:Nat) (l:List Sy):Prop:=∀i,i<l.length ->
 w.cell? (Ad b (off+i*2))=some (.string (PF l i).name)/\w.cell? (Ad b (off+i*2+1))=some (I (PF l i).pos)
def Cb (w:World) (b off:Nat) (l:List Rl):Prop:=∀i,i<l.length ->
 w.cell? (Ad b (off+i*3))=some (I (qw l i).pos)/\w.cell? (Ad b (off+i*3+1))=some (.string (qw l i).name)/\w.cell? (Ad b (off+i*3+2))=some (I (qw l i).add)
def dF (n:Int):Prop:=-9223372036854775808<=n/\n<=9223372036854775807
def bD (n:Nat):Prop:=n<=140737488351232
def Z1 (s:Sg):Prop:=dF s.page/\dF s.aj/\bD s.data.size
def aep (s:Sy):Prop:=bD s.name.size/\dF s.pos
def aeq (s:Rl):Prop:=dF s.pos/\bD s.name.size/\dF s.add
structure Fit (i:Im):Prop where
 name:bD i.name.size
 needs:bD i.needs.length
 need:∀k,k<i.needs.length->bD (jU i.needs k).size
 cW:bD i.cW.length
 seg:∀k,k<i.cW.length->Z1 (dB i.cW k)
 syms:bD i.syms.length
 sym:∀k,k<i.syms.length->aep (PF i.syms k)
 fu:bD i.fu.length
 rel:∀k,k<i.fu.length->aeq (qw i.fu k)
 entry:dF i.entry
def dU {α:Type} (lie:World->Nat->Nat->List α->Prop) (w:World) (ao:Option Addr) (l:List α):Prop:=0<l.length->∃b off,ao=some (Ad b off)/\b<w.heap.size/\lie w b off l
structure At where
 an:Option Addr
 cn:Nat
 ag:Option Addr
 cg:Nat
 ay:Option Addr
 cy:Nat
 ar:Option Addr
 cr:Nat
structure mH (w:World) (a:At) (i:Im):Prop where
 needs:dU zq w a.an i.needs
 cW:dU yr w a.ag i.cW
 syms:dU RG w a.ay i.syms
 fu:dU Cb w a.ar i.fu
def eZ (a:At) (i:Im):Array Value:=#[.string i.name,.slice a.an i.needs.length a.cn,.slice a.ag i.cW.length a.cg,.slice a.ay i.syms.length a.cy,.slice a.ar i.fu.length a.cr,I i.entry]
theorem aA {w w':World} (hb:Below w.heap.size w w') {b o:Nat} (h:b<w.heap.size):w'.cell? (Ad b o)=w.cell? (Ad b o):=hb.cell (p:=(Ad b o)) h
theorem dU.below {α:Type} {lie:World->Nat->Nat->List α->Prop} (bP:∀{w w':World} {b off:Nat} {l:List α},Below w.heap.size w w'->b<w.heap.size->lie w b off l->lie w' b off l)
  {w w':World} {ao:Option Addr} {l:List α} (h:dU lie w ao l) (hb:Below w.heap.size w w'):dU lie w' ao l:=fun hl=>by
 obtain⟨b,off,e,hlt,hh⟩:=h hl
 exact⟨b,off,e,Nat.lt_of_lt_of_le hlt hb.size,bP hb hlt hh⟩
theorem Qn {w w':World} {b off:Nat} {l:List ByteArray} (hb:Below w.heap.size w w') (hlt:b<w.heap.size) (h:zq w b off l):zq w' b off l:=fun i hi=>(aA hb hlt).trans (h i hi)
theorem xp {w w':World} {b off:Nat} {l:List Sg} (hb:Below w.heap.size w w') (hlt:b<w.heap.size) (h:yr w b off l):yr w' b off l:=fun i hi=>by
 obtain⟨c0,c1,c2,c3,c4⟩:=h i hi
 exact⟨(aA hb hlt).trans c0,(aA hb hlt).trans c1,(aA hb hlt).trans c2,(aA hb hlt).trans c3,(aA hb hlt).trans c4⟩
theorem abE {w w':World} {b off:Nat} {l:List Sy} (hb:Below w.heap.size w w') (hlt:b<w.heap.size) (h:RG w b off l):RG w' b off l:=fun i hi=>by
 obtain⟨c0,c1⟩:=h i hi
 exact⟨(aA hb hlt).trans c0,(aA hb hlt).trans c1⟩
theorem Uf {w w':World} {b off:Nat} {l:List Rl} (hb:Below w.heap.size w w') (hlt:b<w.heap.size) (h:Cb w b off l):Cb w' b off l:=fun i hi=>by
 obtain⟨c0,c1,c2⟩:=h i hi
 exact⟨(aA hb hlt).trans c0,(aA hb hlt).trans c1,(aA hb hlt).trans c2⟩
theorem mH.below {w w':World} {a:At} {i:Im} (h:mH w a i) (hb:Below w.heap.size w w'):mH w' a i :=
 ⟨dU.below (lie:=zq) (fun hb hlt h=>Qn hb hlt h) h.needs hb,dU.below (lie:=yr) (fun hb hlt h=>xp hb hlt h) h.cW hb,dU.below (lie:=RG) (fun hb hlt h=>abE hb hlt h) h.syms hb,dU.below (lie:=Cb) (fun hb hlt h=>Uf hb hlt h) h.fu hb⟩
end M
namespace FW
open Go.RowKit
def yq (w:World) (b off:Nat) (l:List FM.Pg):Prop:=∀i,i<l.length->w.cell? (Ad b (off+i*2))=some (I (FM.aN l i).page)/\w.cell? (Ad b (off+i*2+1))=some (.string (FM.aN l i).data)
theorem Qo {w w':World} {b off:Nat} {l:List FM.Pg} (hb:Below w.heap.size w w') (hlt:b<w.heap.size) (h:yq w b off l):yq w' b off l:=fun i hi=>by
 obtain⟨c0,c1⟩:=h i hi
 exact⟨(M.aA hb hlt).trans c0,(M.aA hb hlt).trans c1⟩
def iL (w:World) (ao:Option Addr) (l:List FM.Pg):Prop:=M.dU yq w ao l
theorem iL.below {w w':World} {ao:Option Addr} {l:List FM.Pg} (h:iL w ao l) (hb:Below w.heap.size w w'):iL w' ao l:=M.dU.below (lie:=yq) (fun hb hlt h=>Qo hb hlt h) h hb
def zq (w:World) (b off:Nat) (l:List FM.Sp):Prop:=∀i,i<l.length->∃va ap cp,w.cell? (Ad b (off+i*3))=some (.bool (FM.ax l i).live)/\w.cell? (Ad b (off+i*3+1))=some va/\w.cell? (Ad b (off+i*3+2))=some (.slice ap (FM.ax l i).aj.length cp)/\AW.Has w va (FM.ax l i).aw/\iL w ap (FM.ax l i).aj/\(FM.ax l i).aj.length<=cp
theorem Qn {w w':World} {b off:Nat} {l:List FM.Sp} (hb:Below w.heap.size w w') (hlt:b<w.heap.size) (h:zq w b off l):zq w' b off l:=fun i hi=>by
 obtain⟨va,ap,cp,c0,c1,c2,c3,c4,c5⟩:=h i hi
 exact⟨va,ap,cp,(M.aA hb hlt).trans c0,(M.aA hb hlt).trans c1,(M.aA hb hlt).trans c2,c3.below hb,c4.below hb,c5⟩
def vN (w:World) (ao:Option Addr) (l:List FM.Sp):Prop:=M.dU zq w ao l
theorem vN.below {w w':World} {ao:Option Addr} {l:List FM.Sp} (h:vN w ao l) (hb:Below w.heap.size w w'):vN w' ao l:=M.dU.below (lie:=zq) (fun hb hlt h=>Qn hb hlt h) h hb
structure Hq (s:FM.Sp):Prop where
 aw:AW.dE s.aw
 aj:M.bD s.aj.length
 page:∀k,k<s.aj.length->M.dF (FM.aN s.aj k).page/\M.bD (FM.aN s.aj k).data.size
def yD (l:List FM.Sp):Prop:=M.bD l.length/\∀k,k<l.length->Hq (FM.ax l k)
theorem gB (l:List AM.Ar):0<=AM.br l/\AM.br l<=65025:=by
 unfold AM.br
 split
 · rename_i h
   have h1:=AM.dY l h
   have h2:=AM.si l h l.length (Nat.le_refl _)
   omega
 · omega
theorem mn (l:List FM.Sp):∀k,0<=FM.eU l k/\FM.eU l k<=65025*k
 | 0=>⟨Int.le_refl _,by show(0:Int)<=_;omega⟩
 | k+1=>by
  have h1:=mn l k
  have h2:=gB (FM.ax l k).aw
  show 0<=FM.eU l k+AM.br (FM.ax l k).aw/\FM.eU l k+AM.br (FM.ax l k).aw<=_
  omega
theorem J1 {w:World} {v:Value} {l:List AM.Ar} (h:AW.Has w v l):∃ao n c,v=.slice ao n c:=by
 obtain⟨ao,cap,h,_⟩:=h
 exact⟨ao,_,cap,h⟩
theorem jr (l:List FM.Sp) (ao:Option Addr) (cap:Nat) (w:World) (h:vN w ao l) (hf:yD l) (hn:l.length<=1000000) :
  Calls Tryz.prog 74 #[.slice ao l.length cap] w fun e w'=>e=.returned (I (FM.room l))/\Below w.heap.size w w':=by
 have HF:=ai hf
 have HH:=ai h
 have OB:=ai (mn l)
 have Ha:Hid (∀k,FM.eU l (k+1)=FM.eU l k+AM.br (FM.ax l k).aw):=fun k=>rfl
 clear h hf
 go_enter Tryz.func74,Tryz.ntmps74
 go_wp2
 go_loopw [3,8] (fun sv iv wr=>∃k:Nat,k<=l.length/\iv=I (k:Int)/\sv=I (FM.eU l k)/\Below w.heap.size w wr) (fun _ iv _=>l.length-(intOf iv).toNat)
 case atStart=>exact⟨0,by omega,rfl,rfl,Below.refl _ _⟩
 case round =>
  obtain⟨k,hk,rfl,rfl,hb⟩:=hrel
  have HB:=ai hb
  have oD:=OB.o k
  by_cases hlt:k<l.length
  · obtain⟨b,off,hao,hbl,bP⟩:=(HH.o.below hb) (by omega)
    subst hao
    obtain⟨va,ap,cp,c0,c1,c2,c3,c4,c5⟩:=bP k hlt
    have sU:=HF.o.2 k hlt
    have hst:=Ha.o k
    have V3:=gB (FM.ax l k).aw
    obtain⟨aa,na,ca,rfl⟩:=J1 c3
    have HT:Hid (∀W,Below wr.heap.size wr W->Calls Tryz.prog 22 #[.slice aa na ca] W fun e w'=>e=.returned (I (AM.br (FM.ax l k).aw))/\Below W.heap.size W w'):=fun W hW=>AW.jr _ _ _ (c3.below hW) sU.aw
    obtain⟨n,hnn⟩:=ex ((FM.ax l k).aj.length)
    obtain⟨lv,hlv⟩:=ex ((FM.ax l k).live)
    obtain⟨T,hT⟩:=ex (AM.br (FM.ax l k).aw)
    obtain⟨R,hR⟩:=ex (FM.eU l k)
    rw[<- hnn] at c2 c5
    rw[<- hlv] at c0
    rw[<- hT] at HT hst V3
    rw[<- hR] at hst oD ⊢
    have HST:=ai hst
    clear hnn hlv hT hR c3 c4 c5 sU bP hb hst
    have dJ:=ai (HB.o.alloc HB.o.size (.cells #[.bool lv,.slice aa na ca,.slice ap n cp] 53))
    go_wp2_with (go_at_call 22;refine(HT.o _ ((Below.refl _ _).alloc (Nat.le_refl _) _)).mono ?_;rintro e w1 ⟨rfl,hb1⟩;have bj:=ai (aB dJ.o hb1);clear hb1)
    go_roundw
    case rel=>exact⟨k+1,by omega,by go_num,by rw[HST.o],bj.o⟩
    case measure=>simp[intOf];omega
  · obtain rfl:k=l.length:=by omega
    clear hb
    go_wp2
    go_ret
    exact⟨rfl,HB.o⟩
theorem aY {a b:Bool} (h:a=b):Ending.returned (.bool a)=.returned (.bool b):=by rw[h]
theorem oU {a a':Option Addr} {n n' m m':Nat} (h1:a=a') (h2:n=n') (h3:m=m'):Value.slice a n m=.slice a' n' m':=by rw[h1,h2,h3]
theorem py (l:List AM.Ar) (hs:List FM.Pg) (lv:Bool) (va:Value) (ao:Option Addr) (cap:Nat) (w:World) (ha:AW.Has w va l) (hc:AM.aD l=0) (h:iL w ao hs) (hz:∀k,k<hs.length->M.bD (FM.aN hs k).data.size) (hn:hs.length<=140737488351232) (hcap:hs.length<=cap) :
  Calls Tryz.prog 105 #[.agg #[.bool lv,va,.slice ao hs.length cap]] w fun e w'=>e=.returned (.bool (FM.lM l hs))/\Below w.heap.size w w':=by
 obtain⟨b,off,K9⟩:∃b off,0<hs.length->ao=some (Ad b off)/\b<w.heap.size/\yq w b off hs:=by
  by_cases h0:0<hs.length
  · obtain⟨b,off,h1,h2,h3⟩:=h h0
    exact⟨b,off,fun _=>⟨h1,h2,h3⟩⟩
  · exact⟨0,0,fun g=>(h0 g).elim⟩
 have ZV:=ai K9
 have HC:=ai hc
 have HZ:=ai hz
 clear hz
 have hlen:=AM.dY l hc
 obtain⟨aa,ca,rfl,hal⟩:=ha
 have nD:Hid (0<l.length->∃b off,aa=some (Ad b off)/\AM.zt w b off l):=fun g=>by
  rcases hal with rfl | ⟨b,off,e,hl⟩
  · exact(Nat.lt_irrefl 0 g).elim
  · exact⟨b,off,e,hl⟩
 clear K9 hc h hal
 have HB:=ai ((Below.refl w.heap.size w).alloc (Nat.le_refl _) (.cells #[.bool lv,.slice aa l.length ca,.slice ao hs.length cap] 53))
 go_enter Tryz.func105,Tryz.ntmps105
 go_wp2
 go_loopw [12,3] (fun ix v wr=>∃(i c:Nat) (ov:Option Addr),i<=l.length/\ix=I i/\v=.slice ov (hs.length-c) (cap-c)/\c<=hs.length/\(c<hs.length->ov=some (Ad b (off+c*2)))/\FM.numbers (hs.take c)=FM.bN l i/\FM.sized (hs.take c)=true/\Below w.heap.size w wr) (fun ix _ _=>l.length-(intOf ix).toNat)
 case atStart=>exact⟨0,0,ao,by omega,rfl,rfl,by omega,fun g=>by rw[(ZV.o g).1,Nat.zero_mul,Nat.add_zero],rfl,rfl,HB.o⟩
 case round =>
  obtain⟨i,c,ov,hi,rfl,rfl,hcl,hao,htk,hsz,hb⟩:=hrel
  have tM:=ai hsz
  clear hsz
  have O2:=ai hao
  have Cw:=ai htk
  have kH:=ai hb
  clear hao htk
  by_cases hlt:i<l.length
  · obtain⟨ba,abw,Ke,hl⟩:=nD.o (by omega)
    subst Ke
    obtain⟨c0,c1,c2,c3⟩:=(hl.below hb) i hlt
    have hbk:=AM.dC l i (AM.dD l HC.o i hlt)
    have qN:Hid (∀n,n<(AM.at_ l i).aj.toNat->∃t,FM.bk l=(FM.bN l i++FM.run (AM.at_ l i).page n)++((AM.at_ l i).page+(n:Int))::t):=fun n hn=>FM.o7 l i hlt n hn
    have kG:Hid (FM.bN l (i+1)=FM.bN l i++FM.run (AM.at_ l i).page (AM.at_ l i).aj.toNat):=FM.iZ l i hlt
    obtain⟨a,Ke⟩:=ex (AM.at_ l i)
    rw[<- Ke] at c0 c1 c2 c3 hbk qN kG
    clear Ke hb
    obtain⟨P,hP⟩:∃P:Nat,a.aj=(P:Int):=⟨a.aj.toNat,by omega⟩
    rw[hP] at c1 hbk qN kG
    rw[Int.toNat_natCast] at qN kG
    have dJ:=ai (kH.o.alloc kH.o.size (.cells #[I a.page,I (P:Int),I a.bE,.bool a.zero] 59))
    have BA:=ai (B.new wr #[I a.page,I (P:Int),I a.bE,.bool a.zero] 59)
    go_wp2
    go_loopw [18,3] (fun nx v wi=>∃(n c:Nat) (ov:Option Addr),n<=P/\nx=I n/\v=.slice ov (hs.length-c) (cap-c)/\c<=hs.length/\(c<hs.length->ov=some (Ad b (off+c*2)))/\FM.numbers (hs.take c)=FM.bN l i++FM.run a.page n/\FM.sized (hs.take c)=true/\Below w.heap.size w wi/\wi.heap[wr.heap.size]?=some (.cells #[I a.page,I (P:Int),I a.bE,.bool a.zero] 59 (0,0))) (fun nx _ _=>P-(intOf nx).toNat)
    case atStart=>exact⟨0,c,ov,by omega,rfl,rfl,hcl,O2.o,by rw[Cw.o];simp[FM.run],tM.o,dJ.o,BA.o⟩
    case round =>
     obtain⟨n,c,ov,hn',rfl,rfl,hcl,hao,htk,hsz,hb,UN⟩:=hrel
     have tM:=ai hsz
     clear hsz
     have O2:=ai hao
     have Cw:=ai htk
     have yC:=ai hb
     have Z5:=ai UN
     have x0:=B.cell UN 0 rfl
     clear hao htk UN
     by_cases K7:n<P
     · obtain⟨t,ht⟩:=qN.o n K7
       have HT:=ai ht
       clear ht
       by_cases hce:c=hs.length
       · have HX:Hid (FM.lM l hs=false):=FM.rI (by have h:=Cw.o;rw[hce] at h;exact h) HT.o
         have hz0:hs.length-c=0:=by omega
         rw[hz0]
         clear hz0 hce
         go_wp2
         go_quiet (fail)
         go_wp2
         go_ret
         exact⟨aY HX.o.symm,below_drewN yC.o _⟩
       · have vI:c<hs.length:=by omega
         have hcz:(((hs.length-c:Nat):Int)==0)=false:=by simp;omega
         have acF:0<hs.length-c:=by omega
         obtain⟨-,g2,g3⟩:=ZV.o (by omega)
         obtain⟨d0,d1⟩:=(Qo (hb.mono (Nat.le_of_eq rfl)) g2 g3) c vI
         have Ke:=O2.o vI
         subst Ke
         have acp:(1:Int)<=((hs.length-c:Nat):Int):=by omega
         have hds:=HZ.o c vI
         unfold M.bD at hds
         by_cases mA:(FM.aN hs c).page=a.page+(n:Int)
         · rw[mA] at d0
           by_cases Bn:(FM.aN hs c).data.size=16
           · have HX:Hid (FM.numbers (hs.take (c+1))=FM.bN l i++FM.run a.page (n+1)):=by
              show _=_
              rw[FM.sK hs c vI,Cw.o,mA,FM.jV,List.append_assoc]
             have tG:=ai (FM.E1 hs c vI tM.o Bn)
             obtain⟨dd,hdd⟩:=ex ((FM.aN hs c).data)
             rw[<- hdd] at d1 Bn hds
             have ac2:((dd.size:Int)==16)=true:=by rw[beq_iff_eq];omega
             clear mA hb hce hdd Bn
             by_cases hc1:cap-c=1
             · go_wp2
               go_quiet (fail)
               go_wp2
               go_roundw
               case rel=>exact⟨n+1,c+1,_,by omega,by go_num,oU rfl (by omega) (by omega),by omega,fun g=>by omega,HX.o,tG.o,below_drewN yC.o _,Z5.o⟩
               case measure=>simp[intOf];omega
             · go_wp2
               go_quiet (fail)
               go_wp2
               go_roundw
               case rel=>exact⟨n+1,c+1,_,by omega,by go_num,oU rfl (by omega) (by omega),by omega,fun g=>by simp[Nat.add_mul,Nat.add_assoc],HX.o,tG.o,below_drewN yC.o _,Z5.o⟩
               case measure=>simp[intOf];omega
           · have HX:Hid (FM.lM l hs=false):=FM.Ko vI Bn
             obtain⟨dd,hdd⟩:=ex ((FM.aN hs c).data)
             rw[<- hdd] at d1 Bn hds
             have ac2:((dd.size:Int)==16)=false:=by rw[beq_eq_false_iff_ne];omega
             clear mA hb hce hdd Bn
             go_wp2
             go_quiet (fail)
             go_wp2
             go_ret
             exact⟨aY HX.o.symm,below_drewN yC.o _⟩
         · have HX:Hid (FM.lM l hs=false):=FM.rJ vI Cw.o HT.o mA
           obtain⟨pq,hpq⟩:=ex ((FM.aN hs c).page)
           rw[<- hpq] at d0 mA
           have hwr:IntKind.i64.wrap (a.page+(n:Int))=a.page+(n:Int):=IntWalk.i64_in _ (by omega)
           have hpz:(pq==a.page+(n:Int))=false:=by rw[beq_eq_false_iff_ne];exact mA
           have hpb:(pq != a.page+(n:Int))=true:=by rw[bne,hpz];rfl
           clear hpq
           clear mA d1 hb hce hds
           go_wp2
           go_quiet (fail)
           go_wp2
           go_ret
           exact⟨aY HX.o.symm,below_drewN yC.o _⟩
     · obtain rfl:n=P:=by omega
       go_wp2
       go_roundw
       case rel=>exact⟨i+1,c,ov,by omega,by go_num,rfl,hcl,O2.o,by rw[kG.o];exact Cw.o,tM.o,yC.o⟩
       case measure=>simp[intOf];omega
  · obtain rfl:i=l.length:=by omega
    have HX:=ai (FM.uh hcl Cw.o tM.o)
    go_wp2
    go_ret
    refine⟨aY ?_,kH.o⟩
    rw[HX.o]
    rw[Bool.eq_iff_iff]
    simp
    omega
theorem wR (s:FM.Sp) (va:Value) (ap:Option Addr) (cp:Nat) (w:World) (ha:AW.Has w va s.aw) (hp:iL w ap s.aj) (hf:Hq s) (hcap:s.aj.length<=cp) :
  Calls Tryz.prog 73 #[.agg #[.bool s.live,va,.slice ap s.aj.length cp]] w fun e w'=>e=.returned (.bool (FM.aU s))/\Below w.heap.size w w':=by
 obtain⟨A,hA⟩:=ex (FM.aU s)
 rw[<- hA]
 rw[FM.EZ] at hA
 have HA:=ai hA
 have vQ:=ai (fun V (hV:Below w.heap.size w V)=>AW.dx s.aw va V (ha.below hV) hf.aw)
 have EK:Hid (AM.aD s.aw=0->∀V,Below w.heap.size w V->Calls Tryz.prog 105 #[.agg #[.bool s.live,va,.slice ap s.aj.length cp]] V fun e w'=>e=.returned (.bool (FM.lM s.aw s.aj))/\Below V.heap.size V w'):=fun hc V hV=>py s.aw s.aj s.live va ap cp V (ha.below hV) hc (hp.below hV) (fun k hk=>(hf.page k hk).2) hf.aj hcap
 have HLN:Hid (∃ao ca,va=.slice ao s.aw.length ca):=by
  obtain⟨ao,cap,h,_⟩:=ha
  exact⟨ao,cap,h⟩
 obtain⟨aa,ca,sQ⟩:=HLN.o
 subst sQ
 have EB:=hf.aw.2
 have K7:s.aj.length<=140737488351232:=hf.aj
 clear ha hp hf hA HLN hcap
 obtain⟨na,eF⟩:=ex s.aw.length
 obtain⟨np,fB⟩:=ex s.aj.length
 obtain⟨C,hC⟩:=ex (AM.aD s.aw)
 obtain⟨E,hE⟩:=ex (FM.lM s.aw s.aj)
 obtain⟨lv,hlv⟩:=ex s.live
 rw[<- eF] at HA vQ EK EB ⊢
 rw[<- fB] at HA EK K7 ⊢
 rw[<- hC] at HA vQ EK
 rw[<- hE] at HA EK
 rw[<- hlv] at HA EK ⊢
 clear eF fB hC hE hlv
 have HB:=ai ((Below.refl w.heap.size w).alloc (Nat.le_refl _) (.cells #[.bool lv,.slice aa na ca,.slice ap np cp] 53))
 have X0:=ai (B.new w #[.bool lv,.slice aa na ca,.slice ap np cp] 53)
 cases lv with
 | false =>
  have fL:Hid (A=(decide (na=0)&&decide (np=0))):=HA
  by_cases h0:na=0
  · have h0i:((na:Int)==0)=true:=by rw[beq_iff_eq];omega
    by_cases h1:np=0
    · have S9:((np:Int)==0)=true:=by rw[beq_iff_eq];omega
      have uy:Hid (A=true):=by show _=_;rw[fL.o,decide_eq_true h0,decide_eq_true h1];rfl
      clear HA fL h0 h1
      go_enter Tryz.func73,Tryz.ntmps73
      go_wp2
      go_ret
      exact⟨aY uy.o.symm,HB.o⟩
    · have S9:((np:Int)==0)=false:=by rw[beq_eq_false_iff_ne];omega
      have uy:Hid (A=false):=by show _=_;rw[fL.o,decide_eq_false h1,Bool.and_false]
      clear HA fL h0 h1
      go_enter Tryz.func73,Tryz.ntmps73
      go_wp2
      go_ret
      exact⟨aY uy.o.symm,HB.o⟩
  · have h0i:((na:Int)==0)=false:=by rw[beq_eq_false_iff_ne];omega
    have uy:Hid (A=false):=by show _=_;rw[fL.o,decide_eq_false h0,Bool.false_and]
    clear HA fL h0
    go_enter Tryz.func73,Tryz.ntmps73
    go_wp2
    go_ret
    exact⟨aY uy.o.symm,HB.o⟩
 | true =>
  have fL:Hid (A=(decide (C=0)&&E)):=HA
  by_cases hC:C=0
  · subst hC
    have uy:Hid (A=E):=by show _=_;rw[fL.o,decide_eq_true rfl,Bool.true_and]
    have ad4:=ai (EK.o rfl)
    clear HA fL EK
    go_enter Tryz.func73,Tryz.ntmps73
    go_wp2_with (first
     | (go_at_call 61;refine(vQ.o _ HB.o).mono ?_;rintro e w1 ⟨rfl,hb1⟩;have bj:=ai (aB HB.o hb1);have X1:=ai (B.below X0.o hb1 (B.isLt X0.o));clear hb1;obtain⟨x0,x1,x2⟩:=B.c3 X1.o)
     | (go_at_call 105;refine(ad4.o _ bj.o).mono ?_;rintro e w2 ⟨rfl,hb2⟩;have bW:=ai (aB bj.o hb2);clear hb2))
    go_ret
    exact⟨aY uy.o.symm,bW.o⟩
  · have hCi:(C==0)=false:=by rw[beq_eq_false_iff_ne];exact hC
    have uy:Hid (A=false):=by show _=_;rw[fL.o,decide_eq_false hC,Bool.false_and]
    clear HA fL EK
    go_enter Tryz.func73,Tryz.ntmps73
    go_wp2_with (go_at_call 61;refine(vQ.o _ HB.o).mono ?_;rintro e w1 ⟨rfl,hb1⟩;have bj:=ai (aB HB.o hb1);clear hb1)
    go_ret
    exact⟨aY uy.o.symm,bj.o⟩
theorem Gu (sl:Int) (az ar ao:Option Addr) (ns nr no cs cr co:Nat) (w:World) :
  Calls Tryz.prog 36 #[.agg #[I sl,.slice az ns cs,.slice ar nr cr,.slice ao no co]] w fun e w'=>e=.returned (.bool (decide (1<=ns/\ns<=4)&&(decide (nr=ns)&&(decide (0<=sl/\sl<=512)&&decide (no<=2000)))))/\Below w.heap.size w w':=by
 obtain⟨A,hA⟩:=ex ((decide (1<=ns/\ns<=4)&&(decide (nr=ns)&&(decide (0<=sl/\sl<=512)&&decide (no<=2000)))))
 rw[<- hA]
 have HA:=ai hA
 clear hA
 by_cases h0:1<=(ns:Int)
 · by_cases h1:(ns:Int)<=4
   · by_cases h2:(nr:Int)=ns
     · have Ld:((nr:Int)==(ns:Int))=true:=by rw[beq_iff_eq];exact h2
       by_cases h3:0<=sl
       · by_cases h4:sl<=512
         · by_cases h5:(no:Int)<=2000
           · have fL:Hid (A=true):=by
              show _=_
              rw[HA.o]
              simp
              omega
             clear HA
             go_enter Tryz.func36,Tryz.ntmps36
             go_wp2
             go_ret
             exact⟨aY fL.o.symm,(Below.refl _ _).alloc (Nat.le_refl _) _⟩
           · have fL:Hid (A=false):=by
              show _=_
              rw[HA.o]
              simp
              omega
             clear HA
             go_enter Tryz.func36,Tryz.ntmps36
             go_wp2
             go_ret
             exact⟨aY fL.o.symm,(Below.refl _ _).alloc (Nat.le_refl _) _⟩
         · have fL:Hid (A=false):=by
            show _=_
            rw[HA.o]
            simp
            omega
           clear HA
           go_enter Tryz.func36,Tryz.ntmps36
           go_wp2
           go_ret
           exact⟨aY fL.o.symm,(Below.refl _ _).alloc (Nat.le_refl _) _⟩
       · have fL:Hid (A=false):=by
          show _=_
          rw[HA.o]
          simp
          omega
         clear HA
         go_enter Tryz.func36,Tryz.ntmps36
         go_wp2
         go_ret
         exact⟨aY fL.o.symm,(Below.refl _ _).alloc (Nat.le_refl _) _⟩
     · have Ld:((nr:Int)==(ns:Int))=false:=by rw[beq_eq_false_iff_ne];exact h2
       have fL:Hid (A=false):=by
        show _=_
        rw[HA.o]
        simp
        omega
       clear HA
       go_enter Tryz.func36,Tryz.ntmps36
       go_wp2
       go_ret
       exact⟨aY fL.o.symm,(Below.refl _ _).alloc (Nat.le_refl _) _⟩
   · have fL:Hid (A=false):=by
      show _=_
      rw[HA.o]
      simp
      omega
     clear HA
     go_enter Tryz.func36,Tryz.ntmps36
     go_wp2
     go_ret
     exact⟨aY fL.o.symm,(Below.refl _ _).alloc (Nat.le_refl _) _⟩
 · have fL:Hid (A=false):=by
    show _=_
    rw[HA.o]
    simp
    omega
   clear HA
   go_enter Tryz.func36,Tryz.ntmps36
   go_wp2
   go_ret
   exact⟨aY fL.o.symm,(Below.refl _ _).alloc (Nat.le_refl _) _⟩
theorem vw (l:List FM.Sp) (sl:Int) (az ar ao:Option Addr) (nr no cs cr co:Nat) (w:World) (h:vN w az l) (hf:yD l) (hn:l.length<=1000000) :
  Calls Tryz.prog 37 #[.agg #[I sl,.slice az l.length cs,.slice ar nr cr,.slice ao no co]] w fun e w'=>e=.returned (.bool (l.all FM.aU&&decide (FM.room l<=sl)))/\Below w.heap.size w w':=by
 have HF:=ai hf
 have HH:=ai h
 have Ce:=ai (fun V (hV:Below w.heap.size w V)=>jr l az cs V (h.below hV) hf hn)
 have cM:=ai ((Below.refl w.heap.size w).alloc (Nat.le_refl _) (.cells #[I sl,.slice az l.length cs,.slice ar nr cr,.slice ao no co] 30))
 have X0:=ai (B.new w #[I sl,.slice az l.length cs,.slice ar nr cr,.slice ao no co] 30)
 have mS:Hid (∀k,k<l.length->FM.aU (FM.ax l k)=false->(l.all FM.aU&&decide (FM.room l<=sl))=false):=fun k hk e=>by
  have:l.all FM.aU=false:=by
   rw[List.all_eq_false]
   refine⟨FM.ax l k,?_,by rw[e];simp⟩
   unfold FM.ax
   rw[List.getD_eq_getElem?_getD,List.getElem?_eq_getElem hk]
   exact List.getElem_mem hk
  rw[this,Bool.false_and]
 have KO:Hid ((∀k,k<l.length->FM.aU (FM.ax l k)=true)->(l.all FM.aU&&decide (FM.room l<=sl))=decide (FM.room l<=sl)):=fun e=>by
  have:l.all FM.aU=true:=by
   rw[List.all_eq_true]
   intro s hs
   obtain⟨k,hk⟩:=List.getElem?_of_mem hs
   have hlt:k<l.length:=by
    rcases Nat.lt_or_ge k l.length with g | g
    · exact g
    · rw[List.getElem?_eq_none g] at hk
      cases hk
   have:=e k hlt
   unfold FM.ax at this
   rw[List.getD_eq_getElem?_getD,hk] at this
   exact this
  rw[this,Bool.true_and]
 obtain⟨A,hA⟩:=ex ((l.all FM.aU&&decide (FM.room l<=sl)))
 rw[<- hA] at mS KO ⊢
 clear h hf hA
 go_enter Tryz.func37,Tryz.ntmps37
 go_wp2
 go_loopw [8] (fun iv wr=>∃k:Nat,k<=l.length/\iv=I (k:Int)/\(∀j,j<k->FM.aU (FM.ax l j)=true)/\wr.heap[w.heap.size]?=some (.cells #[I sl,.slice az l.length cs,.slice ar nr cr,.slice ao no co] 30 (0,0))/\Below w.heap.size w wr) (fun iv _=>l.length-(intOf iv).toNat)
 case atStart=>exact⟨0,by omega,rfl,fun j hj=>by omega,X0.o,cM.o⟩
 case round =>
  obtain⟨k,hk,rfl,hall,hx,hb⟩:=hrel
  have HB:=ai hb
  have HX:=ai hx
  have nD:=ai hall
  clear hall hx
  by_cases hlt:k<l.length
  · obtain⟨b,off,hao,hbl,bP⟩:=(HH.o.below hb) (by omega)
    subst hao
    obtain⟨va,ap,cp,c0,c1,c2,c3,c4,c5⟩:=bP k hlt
    have sU:=HF.o.2 k hlt
    obtain⟨aa,na,ca,rfl⟩:=J1 c3
    have HT:Hid (∀W,Below wr.heap.size wr W->Calls Tryz.prog 73 #[.agg #[.bool (FM.ax l k).live,.slice aa na ca,.slice ap (FM.ax l k).aj.length cp]] W fun e w'=>e=.returned (.bool (FM.aU (FM.ax l k)))/\Below W.heap.size W w'):=fun W hW=>wR _ _ _ _ _ (c3.below hW) (c4.below hW) sU c5
    have RZ:=ai (mS.o k hlt)
    obtain⟨n,hnn⟩:=ex ((FM.ax l k).aj.length)
    obtain⟨lv,hlv⟩:=ex ((FM.ax l k).live)
    have HYS:Hid (FM.aU (FM.ax l k)=true->∀j,j<k+1->FM.aU (FM.ax l j)=true):=fun e j hj=>by
     by_cases q:j=k
     · rw[q];exact e
     · exact nD.o j (by omega)
    obtain⟨T,hT⟩:=ex (FM.aU (FM.ax l k))
    rw[<- hnn] at c2 HT
    rw[<- hlv] at c0 HT
    rw[<- hT] at HT RZ HYS
    clear hnn hlv hT c3 c4 c5 sU bP hb nD
    have dJ:=ai (HB.o.alloc HB.o.size (.cells #[.bool lv,.slice aa na ca,.slice ap n cp] 53))
    have XA:=ai (B.alloc HX.o (.cells #[.bool lv,.slice aa na ca,.slice ap n cp] 53))
    cases T with
    | true =>
     have yw:=ai (HYS.o rfl)
     clear HYS RZ
     go_wp2_with (go_at_call 73;refine(HT.o _ ((Below.refl _ _).alloc (Nat.le_refl _) _)).mono ?_;rintro e w1 ⟨rfl,hb1⟩;have bj:=ai (aB dJ.o hb1);have X1:=ai (B.below XA.o hb1 (B.isLt XA.o));clear hb1)
     go_roundw
     case rel=>exact⟨k+1,by omega,by go_num,yw.o,X1.o,bj.o⟩
     case measure=>simp[intOf];omega
    | false =>
     have vg:=ai (RZ.o rfl)
     clear HYS RZ
     go_wp2_with (go_at_call 73;refine(HT.o _ ((Below.refl _ _).alloc (Nat.le_refl _) _)).mono ?_;rintro e w1 ⟨rfl,hb1⟩;have bj:=ai (aB dJ.o hb1);clear hb1)
     go_ret
     exact⟨aY vg.o.symm,bj.o⟩
  · obtain rfl:k=l.length:=by omega
    have yw:=ai (KO.o nD.o)
    clear hb KO mS nD
    go_wp2_with fail
    have oG:=Q.dS wr
    have hkc:=@Q.cA wr
    have hlw:=B.isLt HX.o
    have x0:wr.cell? (Ad w.heap.size 0)=some (I sl):=B.cell HX.o 0 rfl
    have x1:wr.cell? (Ad w.heap.size 1)=some (.slice az l.length cs):=B.cell HX.o 1 rfl
    have c0:∀x:Q.dA wr.heap.size wr,x.world.cell? (Ad w.heap.size 0)=some (I sl):=fun x=>by rw[hkc x _ _ hlw];exact x0
    have c1:∀x:Q.dA wr.heap.size wr,x.world.cell? (Ad w.heap.size 1)=some (.slice az l.length cs):=fun x=>by rw[hkc x _ _ hlw];exact x1
    clear hkc x0 x1
    have Wq:Hid (∀x:Q.dA wr.heap.size wr,Calls Tryz.prog 74 #[.slice az l.length cs] x.world fun e w'=>e=.returned (I (FM.room l))/\∃y:Q.dA wr.heap.size wr,w'=y.world):=fun x=>(Ce.o x.world (aB HB.o x.keeps)).mono fun e w'' ⟨he,hb⟩=>⟨he,⟨w'',x.keeps.trans (hb.mono x.keeps.size)⟩,rfl⟩
    obtain⟨R,hR⟩:=ex (FM.room l)
    rw[<- hR] at Wq yw
    clear hR
    refine Q.aW (by kernel_rfl) (by kernel_rfl) ?_
    repeat (first | go_big_quiet_step ((go_at_call 74;exact Wq.o _)) | quiet_step ((go_at_call 74;exact Wq.o _)))
    refine wpQuiet_nil ?_
    intro _ hw'
    obtain⟨x,hw''⟩:=hw'
    subst hw''
    go_wp2
    go_ret
    exact⟨aY yw.o.symm,aB HB.o x.keeps⟩
end FW
end Go.Proofs.YtkdigjpejnebkaaGreat
