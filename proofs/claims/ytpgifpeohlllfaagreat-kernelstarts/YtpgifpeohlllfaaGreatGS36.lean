import Derived.Test.YtpgifpeohlllfaaGreatGS35
set_option maxHeartbeats 20000000
set_option linter.unusedVariables false
set_option maxRecDepth 100000
set_option linter.unusedSimpArgs false
namespace Go.Proofs.YtpgifpeohlllfaaGreat
namespace LW
open Go.RowKit Go.Deep
open W (OkW jt jB gu gM qG ku su cells3)
section
variable {H:Type} {enc:TypeId×Value->H} {w:World} {base:Nat} {spare:Nat->Bool} {held:Bool}
theorem Ni {fuel:Nat} {a0:Option Addr} {len cap:Nat} {x:DataW H×List MemPlace} (h:DataW.trod enc Tryz.prog w base spare held fuel 22 [.slice a0 len cap]=some x) (hw:OkW 22 x.1) :
  ∃l:List LM.Sh,l.length=len/\LM.gT w a0 l/\LM.lJ l/\len<=cap:=by
 rcases open_slice Tryz.underlying22 h with⟨hcs,_⟩ | ⟨a,len',cap',m,n,D,Pl,hcs,hb,hl,hm,hmm,rfl,hx⟩
 · simp at hcs
   obtain⟨rfl,rfl,rfl⟩:=hcs
   exact⟨[],rfl,fun h=>absurd h (by simp),⟨by unfold M.bf;simp,fun k hk=>absurd hk (by simp)⟩,Nat.le_refl _⟩
 · simp at hcs
   obtain⟨rfl,rfl,rfl⟩:=hcs
   have hlm:len<=m:=by rw[hmm];split <;> omega
   obtain⟨hb1,hb2⟩:=jB Tryz.underlying22 hw
   rw[Sq] at hb1
   unfold reachBytes at hb1
   have hlen:len<=140737488351232:=by simp at hb1;omega
   have each:∀i,i<len->∃y:LM.Sh,w.cell? (a.add (i*3+0))=some (I y.page)/\w.cell? (a.add (i*3+1))=some (.string y.data)/\w.cell? (a.add (i*3+2))=some (.slice y.ao y.bh.length y.cap)/\LM.nE w y.ao y.bh/\LM.De y:=by
    intro i hi
    obtain⟨cs',h1,h2⟩:=hx i (by omega)
    have hd:D i∈(List.range len).map D:=List.mem_map.2 ⟨i,List.mem_range.2 hi,rfl⟩
    rw[Sa] at h1
    obtain⟨_,hcl,hcell⟩:=World.cells?_some h1
    match cs',hcl with
    | [v0,v1,v2],_ =>
     obtain⟨s,e0,e1,e2,f1,f2⟩:=FT h2 (hb2 _ hd)
     have q0:=hcell 0 (by omega)
     have q1:=hcell 1 (by omega)
     have q2:=hcell 2 (by omega)
     simp only[add_add] at q0 q1 q2
     subst e0;subst e1;subst e2
     exact⟨s,q0,q1,q2,f1,f2⟩
   obtain⟨g,hg⟩:=choose_lt each
   have hat:∀i,i<len->LM.aW ((List.range len).map g) i=g i:=by
    intro i hi
    simp[LM.aW,hi]
   refine⟨(List.range len).map g,by simp,fun h0=>?_,⟨by unfold M.bf;simp;exact hlen,fun k hk=>?_⟩,hl⟩
   · have h0':0<len:=by simpa using h0
     obtain⟨b,off,spot⟩:=a
     have hc:=(hg 0 h0').1
     have hspot:spot=none:=by simpa [Addr.add] using World.cell?_spot hc
     subst hspot
     rw[Addr.add_lit] at hc
     refine⟨b,off,rfl,qG hc,fun i hi=>?_⟩
     have hi':i<len:=by simpa using hi
     rw[hat i hi']
     obtain⟨e0,e1,e2,e3,_⟩:=hg i hi'
     simp only[Addr.add_lit] at e0 e1 e2
     exact⟨e0,by rw[Nat.add_assoc];exact e1,by rw[Nat.add_assoc];exact e2,e3⟩
   · have hi':k<len:=by simpa using hk
     rw[hat k hi']
     obtain⟨_,_,_,_,f⟩:=hg k hi'
     exact f
theorem Ea {fuel:Nat} {cs:List Value} {x:DataW H×List MemPlace} (h:DataW.trod enc Tryz.prog w base spare held fuel 30 cs=some x) (hw:OkW 30 x.1) :
  ∃(l:List AM.Ar) (hs:List LM.Sh) (en:Int) (va:Value) (ao:Option Addr) (cap:Nat),cs=[va,.slice ao hs.length cap,I en]/\AW.Has w va l/\AW.ed l/\LM.gT w ao hs/\LM.lJ hs/\hs.length<=cap/\M.gj en:=by
 obtain⟨xs,k,hk,hxy,hcl,hxl,hf⟩:=DataW.trod_struct Tryz.underlying30 h
 rw[hxy] at hw
 rw[Sb] at hcl
 match cs,hcl with
 | [v0,v1,v2],_ =>
  have g0:DataW.trod enc Tryz.prog w base spare held k 28 (([v0,v1,v2].drop 0).take (Tryz.prog.cellsOf 28))=xs[0]?:=hf 0 _ rfl
  have g1:DataW.trod enc Tryz.prog w base spare held k 22 (([v0,v1,v2].drop 1).take (Tryz.prog.cellsOf 22))=xs[1]?:=hf 1 _ rfl
  have g2:DataW.trod enc Tryz.prog w base spare held k 3 (([v0,v1,v2].drop 2).take (Tryz.prog.cellsOf 3))=xs[2]?:=hf 2 _ rfl
  simp only[cells3,E3,E1] at g0 g1 g2
  match xs,hxl with
  | [y0,y1,y2],_ =>
   obtain⟨en,c2,_,w2⟩:=DataW.trod_int Tryz.underlying3 (show DataW.trod enc Tryz.prog w base spare held k 3 [v2]=some y2 from g2)
   have u0:=gu Tryz.underlying30 hw (j:=0) (u:=28) (d:=y0.1) rfl rfl
   have u1:=gu Tryz.underlying30 hw (j:=1) (u:=22) (d:=y1.1) rfl rfl
   have t0:DataW.trod enc Tryz.prog w base spare held k 28 [v0]=some y0:=g0
   have t1:DataW.trod enc Tryz.prog w base spare held k 22 [v1]=some y1:=g1
   obtain⟨av,lv,cv,d0⟩:=gM Tryz.underlying28 t0
   obtain⟨ao,lo,cap,d1⟩:=gM Tryz.underlying22 t1
   subst d0;subst d1
   obtain⟨l,n1,n2,n3,n4⟩:=AW.yl t0
   obtain⟨hs,s1,s2,s3,s4⟩:=Ni t1 u1
   simp only[List.cons.injEq,and_true] at c2
   subst c2;subst s1
   refine⟨l,hs,en,_,ao,cap,rfl,n2,⟨n3,?_⟩,s2,s3,s4,ku _ w2⟩
   rw[n1]
   rcases n4 with e | ⟨el,sp,e1,e2⟩
   · omega
   · rw[e1] at u0
     have hb:=(jB Tryz.underlying28 u0).1
     rw[Jo,e2] at hb
     unfold reachBytes at hb
     omega
end
end LW
namespace LM
open Go.RowKit
def GG (o:Ob) (L:List AM.Ar) (s:M.Sg):List AM.Ar:=(AW.oF L (o.base+s.page) s.aH (sX s)).1
def TX (o:Ob) (L:List AM.Ar):Nat->List AM.Ar
 | 0=>L
 | k+1=>GG o (TX o L k) (M.dI o.i.dm k)
def P9 (l:List Ob):Nat->List AM.Ar
 | 0=>[]
 | k+1=>TX (ek l k) (P9 l k) (ek l k).i.dm.length
def clr (a:AM.Ar):AM.Ar:=⟨a.page,a.aH,a.bO,false⟩
def lG (L:List AM.Ar):Nat->List AM.Ar
 | 0=>L
 | k+1=>(lG L k).set k (clr (AM.at_ (lG L k) k))
def nC (l:List Ob):List AM.Ar:=(P9 l l.length).map clr
theorem Jk (o:Ob) (L:List AM.Ar) (h:AW.ed L):∀k,AW.ed (TX o L k)
 | 0=>h
 | k+1=>AW.RD _ _ _ _
theorem CS (l:List Ob):∀k,AW.ed (P9 l k)
 | 0=>AW.Jj
 | k+1=>Jk _ _ (CS l k) _
theorem lR (L:List AM.Ar):∀k,(lG L k).length=L.length
 | 0=>rfl
 | k+1=>by simp only[lG,List.length_set,lR L k]
theorem Br (L:List AM.Ar):∀k,k<=L.length->∀j,(lG L k)[j]?=if j<k then L[j]?.map clr else L[j]?
 | 0,_,j=>by simp[lG]
 | k+1,hk,j=>by
  have ih:=Br L k (by omega)
  have hl:=lR L k
  have e:AM.at_ (lG L k) k=AM.at_ L k:=by
   unfold AM.at_
   rw[List.getD_eq_getElem?_getD,List.getD_eq_getElem?_getD,ih k,if_neg (Nat.lt_irrefl _)]
  simp only[lG]
  rw[e,List.getElem?_set]
  by_cases hjk:k=j
  · subst hjk
    rw[if_pos rfl,if_pos (by omega),if_pos (by omega)]
    unfold AM.at_
    rw[List.getD_eq_getElem?_getD,List.getElem?_eq_getElem (by omega)]
    rfl
  · rw[if_neg hjk,ih j]
    by_cases h1:j<k
    · rw[if_pos h1,if_pos (by omega)]
    · rw[if_neg h1,if_neg (by omega)]
theorem LA (L:List AM.Ar):lG L L.length=L.map clr:=by
 apply List.ext_getElem?
 intro j
 rw[Br L _ (Nat.le_refl _) j,List.getElem?_map]
 by_cases h:j<L.length
 · rw[if_pos h]
 · rw[if_neg h,List.getElem?_eq_none (by omega)]
   rfl
theorem gW (b:Bool):∀(L:List AM.Ar) (k:Nat),k<L.length->(AM.bj L).set (k*4+3) (.bool b)=AM.bj (L.set k ⟨(AM.at_ L k).page,(AM.at_ L k).aH,(AM.at_ L k).bO,b⟩)
 | [],k,h=>by simp at h
 | a::r,0,h=>rfl
 | a::r,k+1,h=>by
  have ih:=gW b r k (by simpa using h)
  show(AM.four a++AM.bj r).set _ _=AM.four a++AM.bj (r.set k _)
  rw[List.set_append_right _ _ (by simp[AM.four];omega)]
  congr 1
  have e:(k+1)*4+3-(AM.four a).length=k*4+3:=by simp[AM.four];omega
  rw[e,ih]
  rfl
def bT (x:Li):List Value:=(M.fD x.a x.i).toList
def ij (all:List Li):Int :=
 if 7<all.length then 2
 else if mG all=0 then
  match W7 all all.length 0 [0] with
  | none=>6
  | some ix=>if 256<fP all 1 ix then 3 else
   match lM (cM all 1 ix) with
   | none=>7
   | some _=>0
 else mG all
theorem Hy {l:List Li} (h:mG l=0):(∀k,k<l.length->M.j5 (cD l k).i=0)/\M.pQ (fU l)=true:=by
 unfold mG at h
 by_cases e:lC l l.length=0
 · rw[if_pos e] at h
   refine⟨yU l l.length e,?_⟩
   by_cases g:M.pQ (fU l)=true
   · exact g
   · rw[if_neg g] at h
     cases h
 · rw[if_neg e] at h
   exact(e h).elim
theorem Np {all:List Li} (hc:∀j,j<all.length->M.j5 (cD all j).i=0) (h7:all.length<=7) {ix:List Nat} (ho:SC all ix) (k:Nat) (hk:k<(cM all 1 ix).length):1<=(ek (cM all 1 ix) k).base/\(ek (cM all 1 ix) k).base<=2000:=by
 rw[eQ] at hk
 rw[(ml all ix 1 k hk).2.2]
 have h:=pZ all hc (ix.take k) 1 (fun j hj=>ho.lt j (List.mem_of_mem_take hj))
 have h2:=ho.le
 rw[List.length_take] at h
 omega
end LM
namespace KG
open Go.RowKit
def KJ:ByteArray:=⟨#[12,0,0,0,0,0,0,0]⟩
theorem KH:(⟨12,0,0,0,0⟩:PM.Md).bytes=KJ:=by kernel_rfl
def Zl:ByteArray:=⟨#[97,98,99]⟩
def p1:ByteArray:=⟨#[12,0,0,0,0,0,0,0,0,0,0,0,0,0,0,0]⟩
def p2:ByteArray:=⟨#[97,98,99,0,0,0,0,0,0,0,0,0,0,0,0,0]⟩
def p3:ByteArray:=⟨#[0,0,0,0,0,0,0,0,0,0,0,0,0,0,0,0]⟩
def tU:M.Im:=⟨⟨#[116]⟩,[],[⟨0,1,KJ,false,true⟩,⟨1,2,Zl,true,false⟩],[],[],0⟩
theorem MF:M.Fit tU:=by
 refine⟨by unfold M.bf tU;decide,by unfold M.bf tU;decide,fun k hk=>absurd hk (by unfold tU;simp),by unfold M.bf tU;decide,fun k hk=>?_,by unfold M.bf tU;decide,fun k hk=>absurd hk (by unfold tU;simp),by unfold M.bf tU;decide,fun k hk=>absurd hk (by unfold tU;simp),by unfold M.gj tU;decide⟩
 have:k=0∨k=1:=by unfold tU at hk;simp at hk;omega
 rcases this with rfl | rfl
 · exact⟨by unfold M.gj tU M.dI;decide,by unfold M.gj tU M.dI;decide,by unfold M.bf;show(8:Nat)<=_;decide⟩
 · exact⟨by unfold M.gj tU M.dI;decide,by unfold M.gj tU M.dI;decide,by unfold M.bf;show(3:Nat)<=_;decide⟩
theorem Ut (a:M.At):LM.ij [⟨tU,a⟩]=0:=by kernel_rfl
theorem ME (a:M.At):LM.W7 [⟨tU,a⟩] [(⟨tU,a⟩:LM.Li)].length 0 [0]=some [0]:=by kernel_rfl
theorem Uq (a:M.At):LM.cM [⟨tU,a⟩] 1 [0]=[⟨tU,a,1⟩]:=by kernel_rfl
def WH:List LM.Sp:=[⟨1,p1,[]⟩,⟨2,p2,[]⟩,⟨3,p3,[]⟩]
theorem JN (a:M.At):LM.lM [⟨tU,a,1⟩]=some WH:=by kernel_rfl
def FZ:List AM.Ar:=[⟨1,1,2,false⟩,⟨2,2,1,false⟩]
theorem MH (a:M.At):LM.nC [⟨tU,a,1⟩]=FZ:=by kernel_rfl
theorem MG (a:M.At):LM.wh (LM.ek [⟨tU,a,1⟩] 0) (LM.cD [⟨tU,a⟩] 0).i.entry=16:=by kernel_rfl
def pq (a1 a2 a3:Option Addr) (c1 c2 c3:Nat):List LM.Sh:=[⟨1,p1,[],a1,c1⟩,⟨2,p2,[],a2,c2⟩,⟨3,p3,[],a3,c3⟩]
theorem Tq {hs:List LM.Sh} (h:hs.map LM.plain=WH):∃a1 a2 a3 c1 c2 c3,hs=pq a1 a2 a3 c1 c2 c3:=by
 match hs,h with
 | [⟨g1,d1,f1,a1,c1⟩,⟨g2,d2,f2,a2,c2⟩,⟨g3,d3,f3,a3,c3⟩],h =>
  simp only[List.map_cons,List.map_nil,LM.plain,WH,List.cons.injEq,LM.Sp.mk.injEq,and_true] at h
  obtain⟨⟨rfl,rfl,rfl⟩,⟨rfl,rfl,rfl⟩,rfl,rfl,rfl⟩:=h
  exact⟨a1,a2,a3,c1,c2,c3,rfl⟩
 | [],h=>cases congrArg List.length h
 | [_],h=>cases congrArg List.length h
 | [_,_],h=>cases congrArg List.length h
 | _::_::_::_::_,h =>
  have:=congrArg List.length h
  simp[WH] at this
theorem QC:AW.ed FZ:=AM.fX _ (by kernel_rfl)
theorem QB (a1 a2 a3:Option Addr) (c1 c2 c3:Nat):LM.lJ (pq a1 a2 a3 c1 c2 c3):=xE (by kernel_rfl) (by show(3:Nat)<=255;decide)
def wxD:ByteArray:=⟨#[119,120,121,122]⟩
def qD:ByteArray:=⟨#[113]⟩
def abD:ByteArray:=⟨#[97,98]⟩
def WI:ByteArray:=⟨#[113,98,99,0,0,0,0,0,0,0,0,0,0,0,119,120]⟩
def I5 (H:List LM.Sh):KM.Kn:=⟨H,[⟨⟨#[]⟩,0,false,false⟩,⟨⟨#[]⟩,0,false,false⟩,⟨⟨#[]⟩,0,false,false⟩],[⟨⟨#[]⟩,0⟩,⟨⟨#[]⟩,0⟩,⟨⟨#[]⟩,0⟩,⟨⟨#[]⟩,0⟩,⟨⟨#[]⟩,0⟩,⟨⟨#[]⟩,0⟩,⟨⟨#[]⟩,0⟩,⟨⟨#[]⟩,0⟩],[⟨true,FZ,[]⟩],0⟩
def I4 (H:List LM.Sh):KM.Kn:=⟨H,[⟨⟨#[97,98,99,0,0,0,0,0,0,0,0,0,0,0,119,120]⟩,1,true,true⟩,⟨⟨#[121,122,0,0,0,0,0,0,0,0,0,0,0,0,0,0]⟩,1,true,true⟩,⟨⟨#[]⟩,0,false,false⟩],[⟨⟨#[]⟩,0⟩,⟨⟨#[]⟩,0⟩,⟨⟨#[]⟩,0⟩,⟨⟨#[]⟩,0⟩,⟨⟨#[]⟩,0⟩,⟨⟨#[]⟩,0⟩,⟨⟨#[]⟩,0⟩,⟨⟨#[]⟩,0⟩],[⟨true,FZ,[⟨2,1,0⟩,⟨3,1,1⟩]⟩],0⟩
def L6 (H:List LM.Sh):KM.Kn:=⟨H,[⟨⟨#[97,98,99,0,0,0,0,0,0,0,0,0,0,0,119,120]⟩,2,true,true⟩,⟨⟨#[121,122,0,0,0,0,0,0,0,0,0,0,0,0,0,0]⟩,2,true,true⟩,⟨⟨#[]⟩,0,false,false⟩],[⟨⟨#[]⟩,0⟩,⟨⟨#[]⟩,0⟩,⟨⟨#[]⟩,0⟩,⟨⟨#[]⟩,0⟩,⟨⟨#[]⟩,0⟩,⟨⟨#[]⟩,0⟩,⟨⟨#[]⟩,0⟩,⟨⟨#[]⟩,0⟩],[⟨true,FZ,[⟨2,1,0⟩,⟨3,1,1⟩]⟩,⟨true,FZ,[⟨2,1,0⟩,⟨3,1,1⟩]⟩],0⟩
def I3 (H:List LM.Sh):KM.Kn:=⟨H,[⟨⟨#[97,98,99,0,0,0,0,0,0,0,0,0,0,0,119,120]⟩,1,true,true⟩,⟨⟨#[121,122,0,0,0,0,0,0,0,0,0,0,0,0,0,0]⟩,2,true,true⟩,⟨⟨#[113,98,99,0,0,0,0,0,0,0,0,0,0,0,119,120]⟩,1,true,true⟩],[⟨⟨#[]⟩,0⟩,⟨⟨#[]⟩,0⟩,⟨⟨#[]⟩,0⟩,⟨⟨#[]⟩,0⟩,⟨⟨#[]⟩,0⟩,⟨⟨#[]⟩,0⟩,⟨⟨#[]⟩,0⟩,⟨⟨#[]⟩,0⟩],[⟨true,FZ,[⟨2,1,0⟩,⟨3,1,1⟩]⟩,⟨true,FZ,[⟨2,1,2⟩,⟨3,1,1⟩]⟩],0⟩
theorem KD (a1 a2 a3:Option Addr) (c1 c2 c3:Nat):KM.dx (I5 (pq a1 a2 a3 c1 c2 c3))=0:=by kernel_rfl
theorem KC (a1 a2 a3:Option Addr) (c1 c2 c3:Nat):KM.aU (I5 (pq a1 a2 a3 c1 c2 c3)):=(KM.kz _).1 (KD a1 a2 a3 c1 c2 c3)
theorem Q3 (a1 a2 a3:Option Addr) (c1 c2 c3:Nat):KW.eW (I5 (pq a1 a2 a3 c1 c2 c3)):=qC (KC a1 a2 a3 c1 c2 c3)
theorem Kz (a1 a2 a3:Option Addr) (c1 c2 c3:Nat):KM.dx (I4 (pq a1 a2 a3 c1 c2 c3))=0:=by kernel_rfl
theorem Ky (a1 a2 a3:Option Addr) (c1 c2 c3:Nat):KM.aU (I4 (pq a1 a2 a3 c1 c2 c3)):=(KM.kz _).1 (Kz a1 a2 a3 c1 c2 c3)
theorem Q0 (a1 a2 a3:Option Addr) (c1 c2 c3:Nat):KW.eW (I4 (pq a1 a2 a3 c1 c2 c3)):=qC (Ky a1 a2 a3 c1 c2 c3)
theorem Kv (a1 a2 a3:Option Addr) (c1 c2 c3:Nat):KM.dx (L6 (pq a1 a2 a3 c1 c2 c3))=0:=by kernel_rfl
theorem Ku (a1 a2 a3:Option Addr) (c1 c2 c3:Nat):KM.aU (L6 (pq a1 a2 a3 c1 c2 c3)):=(KM.kz _).1 (Kv a1 a2 a3 c1 c2 c3)
theorem QZ (a1 a2 a3:Option Addr) (c1 c2 c3:Nat):KW.eW (L6 (pq a1 a2 a3 c1 c2 c3)):=qC (Ku a1 a2 a3 c1 c2 c3)
theorem Kt (a1 a2 a3:Option Addr) (c1 c2 c3:Nat):KM.dx (I3 (pq a1 a2 a3 c1 c2 c3))=0:=by kernel_rfl
theorem Ks (a1 a2 a3:Option Addr) (c1 c2 c3:Nat):KM.aU (I3 (pq a1 a2 a3 c1 c2 c3)):=(KM.kz _).1 (Kt a1 a2 a3 c1 c2 c3)
theorem I2 (a1 a2 a3:Option Addr) (c1 c2 c3:Nat):KW.eW (I3 (pq a1 a2 a3 c1 c2 c3)):=qC (Ks a1 a2 a3 c1 c2 c3)
theorem Kw (a1 a2 a3:Option Addr) (c1 c2 c3:Nat):KZ.ko (I5 (pq a1 a2 a3 c1 c2 c3)) 0 46 wxD=(I4 (pq a1 a2 a3 c1 c2 c3),(0,0),0):=by kernel_rfl
theorem Kq (a1 a2 a3:Option Addr) (c1 c2 c3:Nat):KZ.ko (L6 (pq a1 a2 a3 c1 c2 c3)) 1 32 qD=(I3 (pq a1 a2 a3 c1 c2 c3),(0,0),0):=by kernel_rfl
theorem NP (a1 a2 a3:Option Addr) (c1 c2 c3:Nat):(KZ.nZ (I3 (pq a1 a2 a3 c1 c2 c3)) 0 32 2 0).2=(abD,(0,0),0):=by kernel_rfl
theorem NN (a1 a2 a3:Option Addr) (c1 c2 c3:Nat):KW.qU (I3 (pq a1 a2 a3 c1 c2 c3)) 1 2=(WI,0):=by kernel_rfl
end KG
namespace PW
open Go.RowKit
theorem ai {p:Prop} (h:p):Hid p:=h
theorem KQ (i:PM.Md) (w:World):Calls Tryz.prog 94 #[.agg i.cells] w fun e w'=>e=.returned (.string i.bytes)/\Below w.heap.size w w':=by
 obtain⟨o,a,b,c,m⟩:=i
 unfold PM.Md.cells PM.Md.bytes
 simp only
 have bW:=ai ((Below.refl w.heap.size w).alloc (Nat.le_refl _) (.cells #[I o,I a,I b,I c,I m] 143))
 have BX:=ai (B.new w #[I o,I a,I b,I c,I m] 143)
 obtain⟨W,hW⟩:=ex (w.alloc (.cells #[I o,I a,I b,I c,I m] 143))
 have HW:=ai hW
 rw[<- hW] at bW BX
 have mv:=Q.dW W
 have pD:=B.isLt BX.o
 have k0:∀x:Q.fF W.heap.size W,x.world.cell? (Ad w.heap.size 0)=some (I o):=fun x=>by rw[Q.cH x _ _ pD];exact B.cell BX.o 0 rfl
 have k1:∀x:Q.fF W.heap.size W,x.world.cell? (Ad w.heap.size 1)=some (I a):=fun x=>by rw[Q.cH x _ _ pD];exact B.cell BX.o 1 rfl
 have k2:∀x:Q.fF W.heap.size W,x.world.cell? (Ad w.heap.size 2)=some (I b):=fun x=>by rw[Q.cH x _ _ pD];exact B.cell BX.o 2 rfl
 have k3:∀x:Q.fF W.heap.size W,x.world.cell? (Ad w.heap.size 3)=some (I c):=fun x=>by rw[Q.cH x _ _ pD];exact B.cell BX.o 3 rfl
 have k4:∀x:Q.fF W.heap.size W,x.world.cell? (Ad w.heap.size 4)=some (I m):=fun x=>by rw[Q.cH x _ _ pD];exact B.cell BX.o 4 rfl
 have HA:Hid (∀n V,Calls Tryz.prog 138 #[I n,I 1] V fun e w'=>e=.returned (.string (PM.le 1 n))/\Below V.heap.size V w'):=fun n U=>CW.Bu n 1 U (by omega)
 have HM:Hid (∀V,Calls Tryz.prog 138 #[I m,I 4] V fun e w'=>e=.returned (.string (PM.le 4 m))/\Below V.heap.size V w'):=fun U=>CW.Bu m 4 U (by omega)
 have s1:=PM.le_size 1 o
 have s2:=PM.le_size 1 a
 have s3:=PM.le_size 1 b
 have s4:=PM.le_size 1 c
 have s5:=PM.le_size 4 m
 have t1:(PM.le 1 o++PM.le 1 a).size=2:=by rw[ByteArray.size_append,s1,s2]
 have t2:(PM.le 1 o++PM.le 1 a++PM.le 1 b).size=3:=by rw[ByteArray.size_append,t1,s3]
 have t3:(PM.le 1 o++PM.le 1 a++PM.le 1 b++PM.le 1 c).size=4:=by rw[ByteArray.size_append,t2,s4]
 clear hW
 go_enter Tryz.func94,Tryz.ntmps94
 go_wp2
 rw[<- HW.o]
 refine Q.br (by kernel_rfl) (by kernel_rfl) ?_
 repeat (first | go_big_quiet_step ((go_at_call 138;first | with_reducible exact Q.bl (HA.o _) _ | with_reducible exact Q.bl HM.o _)) | quiet_step ((go_at_call 138;first | with_reducible exact Q.bl (HA.o _) _ | with_reducible exact Q.bl HM.o _)))
 refine wpQuiet_nil ?_
 intro _ hw'
 obtain⟨x,hw''⟩:=hw'
 subst hw''
 go_wp2
 go_ret
 exact⟨rfl,bW.o.trans (x.keeps.mono bW.o.size)⟩
end PW
namespace W
open Go.RowKit
theorem Xu (nm:ByteArray) (an ag ay ar:Option Addr) (cn gl cg cy cr:Nat) (en:Int) (w:World):Calls Tryz.prog 181 #[.agg #[.string nm,.slice an 0 cn,.slice ag gl cg,.slice ay 0 cy,.slice ar 0 cr,I en]] w fun e w'=>e=.returned (.bool true)/\Below w.heap.size w w':=by
 have HB:=ai ((Below.refl w.heap.size w).alloc (Nat.le_refl _) (.cells #[.string nm,.slice an 0 cn,.slice ag gl cg,.slice ay 0 cy,.slice ar 0 cr,I en] 151))
 go_enter Tryz.func181,Tryz.ntmps181
 go_wp2
 go_loopw [10] (fun iv wr=>iv=I 0/\Below w.heap.size w wr) (fun _ _=>0)
 case atStart=>exact⟨rfl,HB.o⟩
 case round =>
  obtain⟨rfl,hb⟩:=hrel
  have ck:=ai hb
  clear hb
  go_wp2
  go_ret
  exact⟨rfl,ck.o⟩
theorem Xy (nm:ByteArray) (an ag ay ar:Option Addr) (cn gl cg cy cr:Nat) (en:Int) (w:World):Calls Tryz.prog 182 #[.agg #[.string nm,.slice an 0 cn,.slice ag gl cg,.slice ay 0 cy,.slice ar 0 cr,I en]] w fun e w'=>e=.returned (.bool true)/\Below w.heap.size w w':=by
 have HB:=ai ((Below.refl w.heap.size w).alloc (Nat.le_refl _) (.cells #[.string nm,.slice an 0 cn,.slice ag gl cg,.slice ay 0 cy,.slice ar 0 cr,I en] 151))
 go_enter Tryz.func182,Tryz.ntmps182
 go_wp2
 go_loopw [11] (fun iv wr=>iv=I 0/\Below w.heap.size w wr) (fun _ _=>0)
 case atStart=>exact⟨rfl,HB.o⟩
 case round =>
  obtain⟨rfl,hb⟩:=hrel
  have ck:=ai hb
  clear hb
  go_wp2
  go_ret
  exact⟨rfl,ck.o⟩
theorem JP (ay:Option Addr) (cy:Nat) (w:World):Calls Tryz.prog 180 #[.slice ay 0 cy] w fun e w'=>e=.returned Nl/\Below w.heap.size w w':=by
 go_enter Tryz.func180,Tryz.ntmps180
 go_wp2
 go_loopw [3,8] (fun sv iv wr=>sv=Nl/\iv=I 0/\Below w.heap.size w wr) (fun _ _ _=>0)
 case atStart=>exact⟨rfl,rfl,Below.refl _ _⟩
 case round =>
  obtain⟨rfl,rfl,hb⟩:=hrel
  have ck:=ai hb
  clear hb
  go_wp2
  go_ret
  exact⟨rfl,ck.o⟩
theorem UH (nm:ByteArray) (an ag ay ar:Option Addr) (cn gl cg cy cr:Nat) (en:Int) (w:World) (hn:∀V,Calls Tryz.prog 198 #[.string nm] V fun e w'=>e=.returned (.bool true)/\Below V.heap.size V w'):Calls Tryz.prog 175 #[.agg #[.string nm,.slice an 0 cn,.slice ag gl cg,.slice ay 0 cy,.slice ar 0 cr,I en]] w fun e w'=>e=.returned (.bool true)/\Below w.heap.size w w':=by
 have HN:=ai hn
 clear hn
 have HB:=ai ((Below.refl w.heap.size w).alloc (Nat.le_refl _) (.cells #[.string nm,.slice an 0 cn,.slice ag gl cg,.slice ay 0 cy,.slice ar 0 cr,I en] 151))
 have X0:=ai (B.new w #[.string nm,.slice an 0 cn,.slice ag gl cg,.slice ay 0 cy,.slice ar 0 cr,I en] 151)
 go_enter Tryz.func175,Tryz.ntmps175
 go_wp2_with (go_at_call 198;refine(HN.o _).mono ?_;rintro e w1 ⟨rfl,hb1⟩;have bI:=ai (HB.o.trans (hb1.mono HB.o.size));have X1:=ai (B.below X0.o hb1 (B.isLt X0.o));have x1:w1.cell? (Ad w.heap.size 1)=some (.slice an 0 cn):=B.cell X1.o 1 rfl;clear hb1)
 go_loopw [16] (fun iv wr=>iv=I 0/\wr.heap[w.heap.size]?=some (.cells #[.string nm,.slice an 0 cn,.slice ag gl cg,.slice ay 0 cy,.slice ar 0 cr,I en] 151 (0,0))/\Below w.heap.size w wr) (fun _ _=>0)
 case atStart=>exact⟨rfl,X1.o,bI.o⟩
 case round =>
  obtain⟨rfl,hx,hb⟩:=hrel
  have HX:=ai hx
  have ck:=ai hb
  have y3:wr.cell? (Ad w.heap.size 3)=some (.slice ay 0 cy):=B.cell hx 3 rfl
  clear hb hx bI X1 x1
  go_wp2
  clear y3
  go_loopw [27] (fun iv wi=>iv=I 0/\wi.heap[w.heap.size]?=some (.cells #[.string nm,.slice an 0 cn,.slice ag gl cg,.slice ay 0 cy,.slice ar 0 cr,I en] 151 (0,0))/\Below w.heap.size w wi) (fun _ _=>0)
  case atStart=>exact⟨rfl,HX.o,ck.o⟩
  case round =>
   clear HX ck
   obtain⟨rfl,hx,hb⟩:=hrel
   have HX:=ai hx
   have cZ:=ai hb
   have y4:wr.cell? (Ad w.heap.size 4)=some (.slice ar 0 cr):=B.cell hx 4 rfl
   clear hb hx
   go_wp2
   clear y4
   go_loopw [39] (fun iv wi=>iv=I 0/\Below w.heap.size w wi) (fun _ _=>0)
   case atStart=>exact⟨rfl,cZ.o⟩
   case round =>
    obtain⟨rfl,hb⟩:=hrel
    have iF:=ai hb
    clear hb
    go_wp2
    go_ret
    exact⟨rfl,iF.o⟩
theorem Vx (nm:ByteArray) (gs:List M.Sg) (en:Int) (an ag ay ar:Option Addr) (cn cg cy cr:Nat) (w:World) (h:M.nt w ⟨an,cn,ag,cg,ay,cy,ar,cr⟩ ⟨nm,[],gs,[],[],en⟩) (hf:M.Fit ⟨nm,[],gs,[],[],en⟩) (h1:M.oX nm=true) (h2:M.qF ⟨nm,[],gs,[],[],en⟩=true) (h3:gs.all M.fR=true) (h4:M.uN gs=true) (h5:M.uJ ⟨nm,[],gs,[],[],en⟩=true) :
  Calls Tryz.prog 158 #[.agg #[.string nm,.slice an 0 cn,.slice ag gs.length cg,.slice ay 0 cy,.slice ar 0 cr,I en]] w fun e w'=>e=.returned (I 0)/\Below w.heap.size w w':=by
 have qI:Hid (∀V,Calls Tryz.prog 198 #[.string nm] V fun e w'=>e=.returned (.bool true)/\Below V.heap.size V w'):=fun V=>(GU nm V hf.name).mono fun e w' ⟨e1,e2⟩=>⟨by rw[e1,h1],by rw[<- e2];exact Below.refl _ _⟩
 have Qf:=ai (fun V=>UH nm an ag ay ar cn gs.length cg cy cr en V qI.o)
 have Qo:Hid (∀V,Calls Tryz.prog 176 #[.agg #[.string nm,.slice an 0 cn,.slice ag gs.length cg,.slice ay 0 cy,.slice ar 0 cr,I en]] V fun e w'=>e=.returned (.bool true)/\Below V.heap.size V w'):=fun V=>(wF ⟨nm,[],gs,[],[],en⟩ ⟨an,cn,ag,cg,ay,cy,ar,cr⟩ V hf).mono fun e w' ⟨e1,e2⟩=>⟨by rw[e1,h2],e2⟩
 have HRG:Hid (∀V,Below w.heap.size w V->Calls Tryz.prog 177 #[.slice ag gs.length cg] V fun e w'=>e=.returned (.bool true)/\Below V.heap.size V w'):=fun V hV=>(wB gs ag cg V (h.below hV).dm hf.dm hf.seg).mono fun e w' ⟨e1,e2⟩=>⟨by rw[e1,h3],e2⟩
 have VW:Hid (∀V,Below w.heap.size w V->Calls Tryz.prog 178 #[.slice ag gs.length cg] V fun e w'=>e=.returned (.bool false)/\Below V.heap.size V w'):=fun V hV=>(D8 gs ag cg V (h.below hV).dm hf.dm h3).mono fun e w' ⟨e1,e2⟩=>⟨by rw[e1,h4];rfl,e2⟩
 have HTW:Hid (∀ao c V,Calls Tryz.prog 179 #[.slice ao 0 c] V fun e w'=>e=.returned (.bool false)/\Below V.heap.size V w'):=fun ao c V=>(JH [] ao c V (fun h=>absurd h (Nat.not_lt_zero _)) (Nat.zero_le _) (fun k hk=>absurd hk (Nat.not_lt_zero _))).mono fun e w' ⟨e1,e2⟩=>⟨by rw[e1];rfl,e2⟩
 have uP:=ai (fun V=>JP ay cy V)
 have T6:=ai (fun V=>Xu nm an ag ay ar cn gs.length cg cy cr en V)
 have FL:=ai (fun V=>Xy nm an ag ay ar cn gs.length cg cy cr en V)
 have iG:Hid (∀V,Below w.heap.size w V->Calls Tryz.prog 183 #[.agg #[.string nm,.slice an 0 cn,.slice ag gs.length cg,.slice ay 0 cy,.slice ar 0 cr,I en]] V fun e w'=>e=.returned (.bool true)/\Below V.heap.size V w'):=fun V hV=>(wO ⟨nm,[],gs,[],[],en⟩ ⟨an,cn,ag,cg,ay,cy,ar,cr⟩ V (h.below hV) hf h3).mono fun e w' ⟨e1,e2⟩=>⟨by rw[e1,h5],e2⟩
 obtain⟨gl,hgl⟩:=ex gs.length
 rw[<- hgl] at Qf Qo HRG VW T6 FL iG ⊢
 clear h hf h1 h2 h3 h4 h5 hgl qI
 have HB:=ai ((Below.refl w.heap.size w).alloc (Nat.le_refl _) (.cells #[.string nm,.slice an 0 cn,.slice ag gl cg,.slice ay 0 cy,.slice ar 0 cr,I en] 151))
 have X:=ai (B.new w #[.string nm,.slice an 0 cn,.slice ag gl cg,.slice ay 0 cy,.slice ar 0 cr,I en] 151)
 go_enter Tryz.func158,Tryz.ntmps158
 go_wp2_with (first
  | (go_at_call 175;refine(Qf.o _).mono ?_;rintro e w1 ⟨rfl,hb⟩;have bI:=ai (HB.o.trans (hb.mono HB.o.size));have X1:=ai (B.below X.o hb (B.isLt X.o));clear hb;have k10:w1.cell? (Ad w.heap.size 0)=some (.string nm):=B.cell X1.o 0 rfl;have k11:w1.cell? (Ad w.heap.size 1)=some (.slice an 0 cn):=B.cell X1.o 1 rfl;have k12:w1.cell? (Ad w.heap.size 2)=some (.slice ag gl cg):=B.cell X1.o 2 rfl;have k13:w1.cell? (Ad w.heap.size 3)=some (.slice ay 0 cy):=B.cell X1.o 3 rfl;have k14:w1.cell? (Ad w.heap.size 4)=some (.slice ar 0 cr):=B.cell X1.o 4 rfl;have k15:w1.cell? (Ad w.heap.size 5)=some (I en):=B.cell X1.o 5 rfl)
  | (go_at_call 176;refine(Qo.o _).mono ?_;rintro e w2 ⟨rfl,hb⟩;have ck:=ai (bI.o.trans (hb.mono bI.o.size));have X2:=ai (B.below X1.o hb (B.isLt X1.o));clear hb;have k22:w2.cell? (Ad w.heap.size 2)=some (.slice ag gl cg):=B.cell X2.o 2 rfl)
  | (go_at_call 177;refine(HRG.o _ ck.o).mono ?_;rintro e w3 ⟨rfl,hb⟩;have cZ:=ai (ck.o.trans (hb.mono ck.o.size));have X3:=ai (B.below X2.o hb (B.isLt X2.o));clear hb;have k32:w3.cell? (Ad w.heap.size 2)=some (.slice ag gl cg):=B.cell X3.o 2 rfl)
  | (go_at_call 178;refine(VW.o _ cZ.o).mono ?_;rintro e w4 ⟨rfl,hb⟩;have iF:=ai (cZ.o.trans (hb.mono cZ.o.size));have X4:=ai (B.below X3.o hb (B.isLt X3.o));clear hb;have k41:w4.cell? (Ad w.heap.size 1)=some (.slice an 0 cn):=B.cell X4.o 1 rfl)
  | (have _:=X6;go_at_call 179;refine(HTW.o _ _ _).mono ?_;rintro e w7 ⟨rfl,hb⟩;have HB7:=ai (Ug.o.trans (hb.mono Ug.o.size));have X7:=ai (B.below X6.o hb (B.isLt X6.o));clear hb;have k70:w7.cell? (Ad w.heap.size 0)=some (.string nm):=B.cell X7.o 0 rfl;have k71:w7.cell? (Ad w.heap.size 1)=some (.slice an 0 cn):=B.cell X7.o 1 rfl;have k72:w7.cell? (Ad w.heap.size 2)=some (.slice ag gl cg):=B.cell X7.o 2 rfl;have k73:w7.cell? (Ad w.heap.size 3)=some (.slice ay 0 cy):=B.cell X7.o 3 rfl;have k74:w7.cell? (Ad w.heap.size 4)=some (.slice ar 0 cr):=B.cell X7.o 4 rfl;have k75:w7.cell? (Ad w.heap.size 5)=some (I en):=B.cell X7.o 5 rfl)
  | (go_at_call 179;refine(HTW.o _ _ _).mono ?_;rintro e w5 ⟨rfl,hb⟩;have tS:=ai (iF.o.trans (hb.mono iF.o.size));have X5:=ai (B.below X4.o hb (B.isLt X4.o));clear hb;have k53:w5.cell? (Ad w.heap.size 3)=some (.slice ay 0 cy):=B.cell X5.o 3 rfl)
  | (go_at_call 180;refine(uP.o _).mono ?_;rintro e w6 ⟨rfl,hb⟩;have Ug:=ai (tS.o.trans (hb.mono tS.o.size));have X6:=ai (B.below X5.o hb (B.isLt X5.o));clear hb)
  | (go_at_call 181;refine(T6.o _).mono ?_;rintro e w8 ⟨rfl,hb⟩;have HB8:=ai (HB7.o.trans (hb.mono HB7.o.size));have X8:=ai (B.below X7.o hb (B.isLt X7.o));clear hb;have k80:w8.cell? (Ad w.heap.size 0)=some (.string nm):=B.cell X8.o 0 rfl;have k81:w8.cell? (Ad w.heap.size 1)=some (.slice an 0 cn):=B.cell X8.o 1 rfl;have k82:w8.cell? (Ad w.heap.size 2)=some (.slice ag gl cg):=B.cell X8.o 2 rfl;have k83:w8.cell? (Ad w.heap.size 3)=some (.slice ay 0 cy):=B.cell X8.o 3 rfl;have k84:w8.cell? (Ad w.heap.size 4)=some (.slice ar 0 cr):=B.cell X8.o 4 rfl;have k85:w8.cell? (Ad w.heap.size 5)=some (I en):=B.cell X8.o 5 rfl)
  | (go_at_call 182;refine(FL.o _).mono ?_;rintro e w9 ⟨rfl,hb⟩;have HB9:=ai (HB8.o.trans (hb.mono HB8.o.size));have X9:=ai (B.below X8.o hb (B.isLt X8.o));clear hb;have k90:w9.cell? (Ad w.heap.size 0)=some (.string nm):=B.cell X9.o 0 rfl;have k91:w9.cell? (Ad w.heap.size 1)=some (.slice an 0 cn):=B.cell X9.o 1 rfl;have k92:w9.cell? (Ad w.heap.size 2)=some (.slice ag gl cg):=B.cell X9.o 2 rfl;have k93:w9.cell? (Ad w.heap.size 3)=some (.slice ay 0 cy):=B.cell X9.o 3 rfl;have k94:w9.cell? (Ad w.heap.size 4)=some (.slice ar 0 cr):=B.cell X9.o 4 rfl;have k95:w9.cell? (Ad w.heap.size 5)=some (I en):=B.cell X9.o 5 rfl)
  | (go_at_call 183;refine(iG.o _ HB9.o).mono ?_;rintro e w10 ⟨rfl,hb⟩;have aet:=ai (HB9.o.trans (hb.mono HB9.o.size));have X10:=ai (B.below X9.o hb (B.isLt X9.o));clear hb))
 go_ret
 exact⟨rfl,aet.o⟩
end W
namespace LW
open Go.RowKit
open W (ai)
def Bw (R:Option (List LM.Pt)) (w:World) (e:Ending) (w':World):Prop:=Below w.heap.size w w'/\match R with
 | none=>e=.returned (.tuple #[Nl,.bool false])
 | some ps=>∃v,e=.returned (.tuple #[v,.bool true])/\w'.ownsRow w.heap.size 259 2 v ps.length (ps.flatMap LM.Jn)
theorem yE:(Tryz.prog.info? 50).map (fun i=>(i.zero,i.size,i.bytes))=some (some (.agg #[I 0,.string ⟨#[]⟩,Nl]),3,48):=by kernel_rfl
structure Rs (lo:Nat) (w:World) (v:Value) (hs:List LM.Sh):Prop where
 row:w.ownsRow lo 50 3 v hs.length (hs.flatMap LM.E4)
 fix:LM.aah v.ownBlock w hs
theorem Rs.below {lo:Nat} {w w':World} {v:Value} {hs:List LM.Sh} (h:Rs lo w v hs) (hb:Below w.heap.size w w'):Rs lo w' v hs:=⟨uk h.row hb,fun k hk=>(h.fix k hk).below hb⟩
theorem Rs.nil (lo:Nat) (w:World):Rs lo w Nl []:=⟨World.ownsRow_nil _ _ _ _,fun k hk=>by simp at hk⟩
theorem Rs.has {lo:Nat} {w:World} {v:Value} {hs:List LM.Sh} (h:Rs lo w v hs):∃ao cap,v=.slice ao hs.length cap/\LM.gT w ao hs/\hs.length<=cap:=by
 have hr:=h.row
 rcases hr.2 with⟨hv,h0⟩ | ⟨g,cap,cur,hv,hbg,hg,hnc,hcm,hcs,htake⟩
 · exact⟨none,0,by rw[hv,h0],fun hl=>by omega,by omega⟩
 · rw[hv] at hr
   refine⟨some (Ad g 0),cap,hv,fun _=>⟨g,0,rfl,B.isLt hg,fun k hk=>?_⟩,hnc⟩
   rw[Nat.zero_add]
   have hh:∀j,j<3->w.cell? (Ad g (k*3+j))=(LM.E4 (LM.aW hs k))[j]?:=fun j hj=>(hr.cellAt _ (by omega)).trans (flat_get LM.E4 3 (fun _=>rfl) LM.L5 hs k j hk hj)
   exact⟨hh 0 (by omega),hh 1 (by omega),hh 2 (by omega),(h.fix k hk).has⟩
theorem Uy {w:World} {base:Nat} {v:Value} {l:List LM.Fx} (h:w.ownsRow base 52 2 v l.length (l.flatMap LM.Bt)) (rb:Option Nat) (zK:∀q,rb=some q->q<base):∃ao cap,v=.slice ao l.length cap/\LM.qc rb w ao l:=by
 rcases h.2 with⟨hv,h0⟩ | ⟨g,cap,cur,hv,hbg,hg,hnc,hcm,hcs,htake⟩
 · exact⟨none,0,by rw[hv,h0],fun hl=>by omega⟩
 · subst hv
   refine⟨some (Ad g 0),cap,rfl,fun hl=>⟨g,0,rfl,B.isLt hg,fun e=>by have:=zK g e.symm;omega,fun k hk=>?_⟩⟩
   rw[Nat.zero_add]
   have hh:∀j,j<2->w.cell? (Ad g (k*2+j))=(LM.Bt (LM.lQ l k))[j]?:=fun j hj=>(h.cellAt _ (by omega)).trans (flat_get LM.Bt 2 (fun _=>rfl) LM.Ze l k j hk hj)
   exact⟨hh 0 (by omega),hh 1 (by omega)⟩
theorem Rs.more {lo:Nat} {w w':World} {v:Value} {hs:List LM.Sh} {x:LM.Sh} {g cap:Nat} (h:LM.aah v.ownBlock w hs) (hx:LM.qc v.ownBlock w x.ao x.bh) (hown:w'.ownsRow lo 50 3 (.slice (some (Ad g 0)) (hs.length+1) cap) (hs.length+1) (hs.flatMap LM.E4++LM.E4 x)) (hg:w.grownBy w' v.ownBlock) (hs':w.heap.size<=w'.heap.size) (hat:v.ownBlock=some g∨g=w.heap.size) :
  Rs lo w' (.slice (some (Ad g 0)) (hs.length+1) cap) (hs++[x]):=by
 refine⟨by rw[List.length_append,List.flatMap_append];simpa using hown,fun k hk=>?_⟩
 have e:(Value.slice (some (Ad g 0)) (hs.length+1) cap).ownBlock=some g:=rfl
 rw[e]
 rw[List.length_append] at hk
 by_cases hkl:k<hs.length
 · rw[LM.JZ hs x k hkl]
   exact(h k hkl).grown hg hs' hat
 · obtain rfl:k=hs.length:=by simp at hk;omega
   rw[LM.J0]
   exact hx.grown hg hs' hat
def Jt (R:Option (List LM.Sp)) (w:World) (e:Ending) (w':World):Prop:=Below w.heap.size w w'/\match R with
 | none=>e=.returned (.tuple #[Nl,.bool false])
 | some E=>∃(hs:List LM.Sh) (ao:Option Addr) (cap:Nat),hs.map LM.plain=E/\e=.returned (.tuple #[.slice ao hs.length cap,.bool true])/\LM.gT w' ao hs/\hs.length<=cap
structure Fr (w:World) (r:Option Nat) (w':World) (r':Option Nat):Prop where
 size:w.heap.size<=w'.heap.size
 block:∀b,b<w.heap.size->some b≠r->w'.heap[b]?=w.heap[b]?
 row:r'=r∨∃g,r'=some g/\w.heap.size<=g
theorem Fr.refl (w:World) (r:Option Nat):Fr w r w r:=⟨Nat.le_refl _,fun _ _ _=>rfl,.inl rfl⟩
theorem Fr.trans {w w1 w2:World} {r r1 r2:Option Nat} (h:Fr w r w1 r1) (g:Fr w1 r1 w2 r2):Fr w r w2 r2:=by
 have hs:=h.size
 refine⟨Nat.le_trans h.size g.size,fun b hb hr=>?_,?_⟩
 · rw[g.block b (by omega) (fun e=>?_),h.block b hb hr]
   rcases h.row with e1 | ⟨x,e1,e2⟩
   · exact hr (by rw[e,e1])
   · rw[e1] at e
     injection e with e
     omega
 · rcases g.row with e | ⟨x,e1,e2⟩
   · rw[e]
     exact h.row
   · exact .inr ⟨x,e1,by omega⟩
theorem Fr.aY {w w':World} (h:Below w.heap.size w w') (r:Option Nat):Fr w r w' r:=⟨h.size,fun b hb _=>h.block b hb,.inl rfl⟩
theorem Fr.QR {w w':World} {r:Option Nat} {g:Nat} (h:w.grownBy w' r) (hs:w.heap.size<=w'.heap.size) (hat:r=some g∨g=w.heap.size):Fr w r w' (some g) :=
 ⟨hs,fun b hb hr=>h.block b hb hr,by
  rcases hat with e | e
  · exact .inl e.symm
  · exact .inr ⟨g,rfl,by omega⟩⟩
theorem Fr.keep {w w':World} {r r':Option Nat} {b:Nat} {o:Obj} (h:Fr w r w' r') (hb:w.heap[b]?=some o) (hr:some b≠r):w'.heap[b]?=some o:=(h.block b (B.isLt hb) hr).trans hb
def Pz (rb:Option Nat) (w:World) (ao:Option Addr) (l:List LM.Pt):Prop:=0<l.length->∃b off,ao=some (Ad b off)/\b<w.heap.size/\some b≠rb/\LM.Pw w b off l
theorem Pz.fr {rb rb':Option Nat} {w w':World} {ao:Option Addr} {l:List LM.Pt} (h:Pz rb w ao l) (hf:Fr w rb w' rb'):LM.PA w' ao l:=fun hl=>by
 obtain⟨b,off,h1,h2,h3,h4⟩:=h hl
 exact⟨b,off,h1,Nat.lt_of_lt_of_le h2 hf.size,fun i hi=>by
  obtain⟨c0,c1⟩:=h4 i hi
  exact⟨(World.cell?_of_block (hf.block b h2 h3)).trans c0,(World.cell?_of_block (hf.block b h2 h3)).trans c1⟩⟩
theorem QI {w:World} {base:Nat} {v:Value} {l:List LM.Pt} (h:w.ownsRow base 259 2 v l.length (l.flatMap LM.Jn)) (rb:Option Nat) (zK:∀q,rb=some q->q<base):∃ao cap,v=.slice ao l.length cap/\Pz rb w ao l:=by
 rcases h.2 with⟨hv,h0⟩ | ⟨g,cap,cur,hv,hbg,hg,hnc,hcm,hcs,htake⟩
 · exact⟨none,0,by rw[hv,h0],fun hl=>by omega⟩
 · subst hv
   refine⟨some (Ad g 0),cap,rfl,fun hl=>⟨g,0,rfl,B.isLt hg,fun e=>by have:=zK g e.symm;omega,fun k hk=>?_⟩⟩
   rw[Nat.zero_add]
   have hh:∀j,j<2->w.cell? (Ad g (k*2+j))=(LM.Jn (LM.zV l k))[j]?:=fun j hj=>(h.cellAt _ (by omega)).trans (flat_get LM.Jn 2 (fun _=>rfl) LM.pt0 l k j hk hj)
   exact⟨hh 0 (by omega),hh 1 (by omega)⟩
end LW
end Go.Proofs.YtpgifpeohlllfaaGreat
