import Derived.Test.YtpgifpeohlllfaaGreatGS00
import Derived.Test.YtpgifpeohlllfaaGreatGS08
import Derived.Test.YtpgifpeohlllfaaGreatGS03
import Derived.Test.YtpgifpeohlllfaaGreatGS06
import Derived.Maps.Own
import Derived.Maps.OwnSet
import Derived.Maps.Views
set_option maxHeartbeats 20000000
set_option linter.unusedVariables false
set_option maxRecDepth 100000
set_option linter.unusedSimpArgs false
namespace Go.Proofs.YtpgifpeohlllfaaGreat
namespace LW
open Go.RowKit
open W (ai)
theorem dE {k:IntKind} {a b:Int} (h:a=b):Ending.returned (.int k a)=.returned (.int k b):=by rw[h]
theorem xZ (l:List AM.Ar) (va vs:Value) (en:Int) (w:World) (ha:AW.Has w va l) (hf:AW.ed l) (hc:AM.aR l=0) (he:M.gj en) (qP:∃ao n c,va=.slice ao n c) (hvs:∃ao n c,vs=.slice ao n c) :
  Calls Tryz.prog 102 #[.agg #[va,vs,I en]] w fun e w'=>e=.returned (.bool (LM.j4 l en))/\Below w.heap.size w w':=by
 have Al:Hid (AM.aT l (en.tdiv 16)=AM.aM l (en.tdiv 16)):=by show _=_;simp[AM.aT,hc]
 have qH:=ai (LM.yP l hc (en.tdiv 16))
 have HE:Hid (LM.j4 l en=((AM.aM l (en.tdiv 16)).2&&(decide (2<=(AM.aM l (en.tdiv 16)).1.bO)&&decide (en.tmod 8=0)))):=rfl
 have tR:Hid (∀W,Below w.heap.size w W->Calls Tryz.prog 70 #[va,I (en.tdiv 16)] W fun e w'=>e=.returned (.tuple #[.agg (AW.cellsOf (AM.aM l (en.tdiv 16)).1),.bool (AM.aM l (en.tdiv 16)).2])/\Below W.heap.size W w'):=fun W hb=>by
  have h:=AW.pW l va (en.tdiv 16) W (ha.below hb) hf
  rw[Al.o] at h
  exact h
 obtain⟨r,hr⟩:=ex (AM.aM l (en.tdiv 16))
 rw[<- hr] at qH HE tR
 clear hr Al ha hf hc
 obtain⟨⟨pg,pn,pr,zr⟩,ok⟩:=r
 simp only[AW.cellsOf] at tR qH HE
 obtain⟨aa,na,ca,rfl⟩:=qP
 obtain⟨ao,no,co,rfl⟩:=hvs
 unfold M.gj at he
 have HB:=ai ((Below.refl w.heap.size w).alloc (Nat.le_refl _) (.cells #[.slice aa na ca,.slice ao no co,I en] 30))
 have BX:=ai (B.new w #[.slice aa na ca,.slice ao no co,I en] 30)
 rw[HE.o]
 cases ok with
 | false =>
  go_enter Tryz.func102,Tryz.ntmps102
  go_wp2_with (go_at_call 70;refine(tR.o _ HB.o).mono ?_;rintro e w1 ⟨rfl,hb⟩;have HB:=ai (HB.o.trans (hb.mono HB.o.size));clear hb)
  go_ret
  exact⟨rfl,HB.o.alloc HB.o.size _⟩
 | true =>
  have Ew:=LM.x9 (qH.o rfl)
  have b0:bits BinOp.and IntKind.i64 0 2=0:=by decide
  have b1:bits BinOp.and IntKind.i64 1 2=0:=by decide
  have b2:bits BinOp.and IntKind.i64 2 2=2:=by decide
  have b3:bits BinOp.and IntKind.i64 3 2=2:=by decide
  clear qH
  by_cases h8:en.tmod 8=0
  · rcases Ew with rfl | rfl | rfl | rfl
    all_goals
     go_enter Tryz.func102,Tryz.ntmps102
     go_wp2_with (go_at_call 70;refine(tR.o _ HB.o).mono ?_;rintro e w1 ⟨rfl,hb⟩;have HB:=ai (HB.o.trans (hb.mono HB.o.size));have BX:=ai (B.below BX.o hb (B.isLt BX.o));have lB:=B.isLt BX.o;have x2:=B.cell BX.o 2 rfl;clear hb)
     go_ret
     exact⟨bV (by simp[h8]),HB.o.alloc HB.o.size _⟩
  · have h8':(en.tmod 8==0)=false:=by simpa using h8
    rcases Ew with rfl | rfl | rfl | rfl
    all_goals
     go_enter Tryz.func102,Tryz.ntmps102
     go_wp2_with (go_at_call 70;refine(tR.o _ HB.o).mono ?_;rintro e w1 ⟨rfl,hb⟩;have HB:=ai (HB.o.trans (hb.mono HB.o.size));have BX:=ai (B.below BX.o hb (B.isLt BX.o));have lB:=B.isLt BX.o;have x2:=B.cell BX.o 2 rfl;clear hb)
     go_ret
     exact⟨bV (by simp[h8]),HB.o.alloc HB.o.size _⟩
theorem isSlice {w:World} {v:Value} {l:List AM.Ar} (h:AW.Has w v l):∃ao n c,v=.slice ao n c:=by
 obtain⟨ao,cap,h,_⟩:=h
 exact⟨ao,_,cap,h⟩
theorem fK (l:List AM.Ar) (hs:List LM.Sh) (en:Int) (va:Value) (ao:Option Addr) (cap:Nat) (w:World) (ha:AW.Has w va l) (hf:AW.ed l) (h:LM.gT w ao hs) (yL:LM.lJ hs) (hcap:hs.length<=cap) (he:M.gj en) :
  Calls Tryz.prog 53 #[.agg #[va,.slice ao hs.length cap,I en]] w fun e w'=>e=.returned (I (LM.gF l hs en))/\Below w.heap.size w w':=by
 have oU:Hid (∀W,Below w.heap.size w W->Calls Tryz.prog 98 #[va] W fun e w'=>e=.returned (I (AM.aR l))/\Below W.heap.size W w'):=fun W hb=>AW.fK l va W (ha.below hb) hf
 have HZ:Hid (∀W,Below w.heap.size w W->Calls Tryz.prog 99 #[va] W fun e w'=>e=.returned (.bool (LM.fe l))/\Below W.heap.size W w'):=fun W hb=>Fe l va W (ha.below hb) hf
 have Ww:Hid (AM.aR l=0->∀W,Below w.heap.size w W->Calls Tryz.prog 100 #[.agg #[va,.slice ao hs.length cap,I en]] W fun e w'=>e=.returned (.bool (LM.eB l hs))/\Below W.heap.size W w'):=fun hc W hb=>EI l hs en va ao cap W (ha.below hb) hc (h.below hb) yL.1 hcap
 have Dn:Hid (∀W,Below w.heap.size w W->Calls Tryz.prog 101 #[.slice ao hs.length cap] W fun e w'=>e=.returned (.bool (LM.jm hs))/\Below W.heap.size W w'):=fun W hb=>wA hs ao cap W (h.below hb) yL
 have iG:Hid (AM.aR l=0->∀W,Below w.heap.size w W->Calls Tryz.prog 102 #[.agg #[va,.slice ao hs.length cap,I en]] W fun e w'=>e=.returned (.bool (LM.j4 l en))/\Below W.heap.size W w'):=fun hc W hb=>xZ l va _ en W (ha.below hb) hf hc he (isSlice ha) ⟨_,_,_,rfl⟩
 have HR:Hid (LM.gF l hs en=if AM.aR l=0 then (if !LM.fe l&&(LM.eB l hs&&(LM.jm hs&&LM.j4 l en)) then 0 else 1) else AM.aR l):=rfl
 obtain⟨aa,na,ca,rfl⟩:=isSlice ha
 clear ha hf h yL hcap he
 obtain⟨N,hN⟩:=ex hs.length
 rw[<- hN] at Ww Dn iG
 rw[<- hN]
 obtain⟨z,hz⟩:=ex (LM.fe l)
 rw[<- hz] at HZ HR
 obtain⟨q,hq⟩:=ex (LM.eB l hs)
 rw[<- hq] at Ww HR
 obtain⟨s,hs'⟩:=ex (LM.jm hs)
 rw[<- hs'] at Dn HR
 obtain⟨r,hr⟩:=ex (LM.j4 l en)
 rw[<- hr] at iG HR
 obtain⟨C,hC⟩:=ex (AM.aR l)
 rw[<- hC] at oU Ww iG HR
 rw[HR.o]
 clear hN hz hq hs' hr hC HR
 have HB:=ai ((Below.refl w.heap.size w).alloc (Nat.le_refl _) (.cells #[.slice aa na ca,.slice ao N cap,I en] 30))
 have BX:=ai (B.new w #[.slice aa na ca,.slice ao N cap,I en] 30)
 by_cases hc:C=0
 · subst hc
   have aek:=ai (Ww.o rfl)
   have aei:=ai (iG.o rfl)
   clear Ww iG
   rw[if_pos rfl]
   cases z <;> cases q <;> cases s <;> cases r
   all_goals
    go_enter Tryz.func53,Tryz.ntmps53
    go_wp2_with (first
     | (go_at_call 98;refine(oU.o _ HB.o).mono ?_;rintro e w1 ⟨rfl,hb⟩;have HB:=ai (HB.o.trans (hb.mono HB.o.size));have BX:=ai (B.below BX.o hb (B.isLt BX.o));have x0:=B.cell BX.o 0 rfl;have x1:=B.cell BX.o 1 rfl;have x2:=B.cell BX.o 2 rfl;clear hb)
     | (go_at_call 99;refine(HZ.o _ HB.o).mono ?_;rintro e w1 ⟨rfl,hb⟩;have HB:=ai (HB.o.trans (hb.mono HB.o.size));have BX:=ai (B.below BX.o hb (B.isLt BX.o));have x0:=B.cell BX.o 0 rfl;have x1:=B.cell BX.o 1 rfl;have x2:=B.cell BX.o 2 rfl;clear hb)
     | (go_at_call 100;refine(aek.o _ HB.o).mono ?_;rintro e w1 ⟨rfl,hb⟩;have HB:=ai (HB.o.trans (hb.mono HB.o.size));have BX:=ai (B.below BX.o hb (B.isLt BX.o));have x0:=B.cell BX.o 0 rfl;have x1:=B.cell BX.o 1 rfl;have x2:=B.cell BX.o 2 rfl;clear hb)
     | (go_at_call 101;refine(Dn.o _ HB.o).mono ?_;rintro e w1 ⟨rfl,hb⟩;have HB:=ai (HB.o.trans (hb.mono HB.o.size));have BX:=ai (B.below BX.o hb (B.isLt BX.o));have x0:=B.cell BX.o 0 rfl;have x1:=B.cell BX.o 1 rfl;have x2:=B.cell BX.o 2 rfl;clear hb)
     | (go_at_call 102;refine(aei.o _ HB.o).mono ?_;rintro e w1 ⟨rfl,hb⟩;have HB:=ai (HB.o.trans (hb.mono HB.o.size));clear hb))
    go_ret
    exact⟨rfl,HB.o⟩
 · have hc':(C==0)=false:=by simpa using hc
   rw[if_neg hc]
   go_enter Tryz.func53,Tryz.ntmps53
   go_wp2_with (go_at_call 98;refine(oU.o _ HB.o).mono ?_;rintro e w1 ⟨rfl,hb⟩;have HB:=ai (HB.o.trans (hb.mono HB.o.size));clear hb)
   go_ret
   exact⟨rfl,HB.o⟩
end LW
namespace LM
open Go.RowKit
structure Ob where
 i:M.Im
 a:M.At
 base:Int
def ob0:Ob:=⟨⟨⟨#[]⟩,[],[],[],[],0⟩,⟨none,0,none,0,none,0,none,0⟩,0⟩
def ek (l:List Ob) (k:Nat):Ob:=l.getD k ob0
def lj (o:Ob):Array Value:=#[.string o.i.name,.slice o.a.an o.i.needs.length o.a.cn,.slice o.a.ag o.i.dm.length o.a.cg,.slice o.a.ay o.i.syms.length o.a.cy,.slice o.a.ar o.i.fN.length o.a.cr,I o.i.entry,I o.base]
def SF (w:World) (b off:Nat) (l:List Ob):Prop:=∀k,k<l.length ->
 (w.cell? (Ad b (off+k*7))=some (.string (ek l k).i.name)/\w.cell? (Ad b (off+k*7+1))=some (.slice (ek l k).a.an (ek l k).i.needs.length (ek l k).a.cn) /\
  w.cell? (Ad b (off+k*7+2))=some (.slice (ek l k).a.ag (ek l k).i.dm.length (ek l k).a.cg)/\w.cell? (Ad b (off+k*7+3))=some (.slice (ek l k).a.ay (ek l k).i.syms.length (ek l k).a.cy) /\
  w.cell? (Ad b (off+k*7+4))=some (.slice (ek l k).a.ar (ek l k).i.fN.length (ek l k).a.cr)/\w.cell? (Ad b (off+k*7+5))=some (I (ek l k).i.entry)/\w.cell? (Ad b (off+k*7+6))=some (I (ek l k).base))/\M.nt w (ek l k).a (ek l k).i
theorem abE {w w':World} {b off:Nat} {l:List Ob} (hb:Below w.heap.size w w') (hlt:b<w.heap.size) (h:SF w b off l):SF w' b off l:=fun k hk=>by
 obtain⟨⟨c0,c1,c2,c3,c4,c5,c6⟩,hi⟩:=h k hk
 exact⟨⟨(M.bk hb hlt).trans c0,(M.bk hb hlt).trans c1,(M.bk hb hlt).trans c2,(M.bk hb hlt).trans c3,(M.bk hb hlt).trans c4,(M.bk hb hlt).trans c5,(M.bk hb hlt).trans c6⟩,hi.below hb⟩
def PB (w:World) (ao:Option Addr) (l:List Ob):Prop:=M.fh SF w ao l
theorem PB.below {w w':World} {ao:Option Addr} {l:List Ob} (h:PB w ao l) (hb:Below w.heap.size w w'):PB w' ao l:=M.fh.below (lie:=SF) (fun hb hlt h=>abE hb hlt h) h hb
def mS (i:M.Im):M.Sg:=M.dI i.dm (i.dm.length-1)
def Ae (o:Ob):Int:=o.base+(mS o.i).page+(mS o.i).aH
def wh (o:Ob) (Dm:Int):Int:=o.base*16+Dm
def sX (s:M.Sg):Int:=if s.wr then (if s.ex then 3 else 1) else (if s.ex then 2 else 0)
theorem ot {i:M.Im} (hc:M.j5 i=0) (k:Nat) (hk:k<i.dm.length):0<=(M.dI i.dm k).page/\1<=(M.dI i.dm k).aH/\(M.dI i.dm k).page+(M.dI i.dm k).aH<=255/\((M.dI i.dm k).data.size:Int)<=(M.dI i.dm k).aH*16:=by
 unfold M.j5 at hc
 split at hc
 · simp at hc
 · split at hc
   · simp at hc
   · split at hc
     · simp at hc
     · rename_i h
       have h':M.Ci i=true:=by simpa using h
       unfold M.Ci at h'
       have:=M.zx M.fR M.PX i.dm k hk h'
       unfold M.fR at this
       exact of_decide_eq_true this
theorem counts_of {i:M.Im} (hc:M.j5 i=0):1<=i.dm.length/\i.dm.length<=6/\i.needs.length<=4/\i.syms.length<=12/\i.fN.length<=16:=by
 unfold M.j5 at hc
 split at hc
 · simp at hc
 · split at hc
   · simp at hc
   · rename_i h
     have h':M.qF i=true:=by simpa using h
     unfold M.qF at h'
     exact of_decide_eq_true h'
theorem vo {i:M.Im} (hc:M.j5 i=0):0<=(mS i).page/\1<=(mS i).aH/\(mS i).page+(mS i).aH<=255:=by
 have h1:=counts_of hc
 have h2:=ot hc (i.dm.length-1) (by omega)
 exact⟨h2.1,h2.2.1,h2.2.2.1⟩
end LM
namespace LW
open Go.RowKit
open W (ai)
theorem jq (o:LM.Ob) (w:World) (h:M.nt w o.a o.i) (hc:M.j5 o.i=0) (h0:0<=o.base) (h1:o.base<=100000) :
  Calls Tryz.prog 134 #[.agg (LM.lj o)] w fun e w'=>e=.returned (I (LM.Ae o))/\Below w.heap.size w w':=by
 have hl:=LM.vo hc
 have hn:=LM.counts_of hc
 have HS:=h.dm
 obtain⟨⟨nm,ns,gs,ys,rs,en⟩,⟨an,cn,ag,cg,ay,cy,ar,cr⟩,ba⟩:=o
 simp only[LM.lj]
 simp only at HS hn h0 h1
 obtain⟨b,off,hag,hbl,bM⟩:=HS (by omega)
 subst hag
 have E:Hid (LM.Ae ⟨⟨nm,ns,gs,ys,rs,en⟩,⟨an,cn,some (Ad b off),cg,ay,cy,ar,cr⟩,ba⟩=ba+(M.dI gs (gs.length-1)).page+(M.dI gs (gs.length-1)).aH):=rfl
 have hl':0<=(M.dI gs (gs.length-1)).page/\1<=(M.dI gs (gs.length-1)).aH/\(M.dI gs (gs.length-1)).page+(M.dI gs (gs.length-1)).aH<=255:=hl
 obtain⟨c0,c1,c2,c3,c4⟩:=bM (gs.length-1) (by omega)
 rw[E.o]
 obtain⟨s,hs⟩:=ex (M.dI gs (gs.length-1))
 rw[<- hs] at c0 c1 c2 c3 c4 hl'
 rw[<- hs]
 clear hs hl bM HS h E
 obtain⟨G,hG⟩:=ex gs.length
 rw[<- hG] at c0 c1 c2 c3 c4 hn
 rw[<- hG]
 clear hG hc
 have hG1:(1:Int)<=(G:Int):=by omega
 have hG2:0<G:=by omega
 have HB:=ai ((Below.refl w.heap.size w).alloc (Nat.le_refl _) (.cells #[.string nm,.slice an ns.length cn,.slice (some (Ad b off)) G cg,.slice ay ys.length cy,.slice ar rs.length cr,I en,I ba] 195))
 go_enter Tryz.func134,Tryz.ntmps134
 go_wp2
 go_ret
 exact⟨rfl,HB.o.alloc HB.o.size _⟩
theorem Fg (o:LM.Ob) (Dm:Int) (w:World) (h0:0<=o.base) (h1:o.base<=100000) (h2:0<=Dm) (h3:Dm<=100000) :
  Calls Tryz.prog 137 #[.agg (LM.lj o),I Dm] w fun e w'=>e=.returned (I (LM.wh o Dm))/\Below w.heap.size w w':=by
 obtain⟨⟨nm,ns,gs,ys,rs,en⟩,⟨an,cn,ag,cg,ay,cy,ar,cr⟩,ba⟩:=o
 simp only[LM.lj,LM.wh]
 simp only at h0 h1
 go_enter Tryz.func137,Tryz.ntmps137
 go_wp2
 go_ret
 exact⟨rfl,(Below.refl _ _).alloc (Nat.le_refl _) _⟩
theorem M5 (s:M.Sg) (w:World) :
  Calls Tryz.prog 164 #[.agg #[I s.page,I s.aH,.string s.data,.bool s.wr,.bool s.ex]] w fun e w'=>e=.returned (I (LM.sX s))/\Below w.heap.size w w':=by
 obtain⟨pg,pn,dt,wr,ex⟩:=s
 have b1:bits BinOp.or IntKind.i64 0 1=1:=by decide
 have b2:bits BinOp.or IntKind.i64 0 2=2:=by decide
 have b3:bits BinOp.or IntKind.i64 1 2=3:=by decide
 cases wr <;> cases ex
 all_goals
  go_enter Tryz.func164,Tryz.ntmps164
  go_wp2
  go_ret
  exact⟨dE (by first | rfl | simp[LM.sX,b1,b2,b3]),(Below.refl _ _).alloc (Nat.le_refl _) _⟩
end LW
namespace W
open Go.RowKit
theorem wF (i:M.Im) (a:M.At) (w:World) (hf:M.Fit i):Calls Tryz.prog 176 #[.agg (M.fD a i)] w fun e w'=>e=.returned (.bool (M.qF i))/\Below w.heap.size w w':=by
 obtain⟨an,cn,ag,cg,ay,cy,ar,cr⟩:=a
 obtain⟨nm,ns,gs,ys,rs,en⟩:=i
 obtain⟨f1,f2,f3,f4,f5,f6,f7,f8,f9,f10⟩:=hf
 simp only at f2 f4 f6 f8
 unfold M.bf at f2 f4 f6 f8
 simp only[M.fD,M.qF]
 have bW:∀o,Hid (Below w.heap.size w (w.alloc o)):=fun o=>(Below.refl w.heap.size w).alloc (Nat.le_refl _) o
 obtain⟨r,hr⟩:=ex (decide (1<=gs.length/\gs.length<=6/\ns.length<=4/\ys.length<=12/\rs.length<=16))
 rw[<- hr]
 have HR:=ai hr
 clear hr f1 f3 f5 f7 f9 f10
 obtain⟨ln,FC⟩:∃n,n=ns.length:=⟨_,rfl⟩
 obtain⟨lg,K9⟩:∃n,n=gs.length:=⟨_,rfl⟩
 obtain⟨ly,U4⟩:∃n,n=ys.length:=⟨_,rfl⟩
 obtain⟨lr,hlr⟩:∃n,n=rs.length:=⟨_,rfl⟩
 rw[<- FC,<- K9,<- U4,<- hlr] at HR
 rw[<- FC,<- K9,<- U4,<- hlr]
 rw[<- FC] at f2
 rw[<- K9] at f4
 rw[<- U4] at f6
 rw[<- hlr] at f8
 clear FC K9 U4 hlr
 by_cases d1:1<=(lg:Int)
 · by_cases d2:(lg:Int)<=6
   · by_cases d3:(ln:Int)<=4
     · by_cases d4:(ly:Int)<=12
       · by_cases d5:(lr:Int)<=16
         · have e:r=true:=by rw[HR.o];exact decide_eq_true (by omega)
           subst e
           have q1:1<=lg:=by omega
           have q2:lg<=6:=by omega
           have q3:ln<=4:=by omega
           have q4:ly<=12:=by omega
           have q5:lr<=16:=by omega
           go_enter Tryz.func176,Tryz.ntmps176
           go_wp2
           go_ret
           exact⟨rfl,(bW _).out⟩
         · have e:r=false:=by rw[HR.o];exact decide_eq_false (by omega)
           subst e
           have q1:1<=lg:=by omega
           have q2:lg<=6:=by omega
           have q3:ln<=4:=by omega
           have q4:ly<=12:=by omega
           have q5:decide ((lr:Int)<=16)=false:=decide_eq_false d5
           have q6:decide (lr<=16)=false:=decide_eq_false (by omega)
           have q7:¬lr<=16:=by omega
           go_enter Tryz.func176,Tryz.ntmps176
           go_wp2
           go_ret
           exact⟨rfl,(bW _).out⟩
       · have e:r=false:=by rw[HR.o];exact decide_eq_false (by omega)
         subst e
         have q1:1<=lg:=by omega
         have q2:lg<=6:=by omega
         have q3:ln<=4:=by omega
         have q4:decide ((ly:Int)<=12)=false:=decide_eq_false d4
         have q6:decide (ly<=12)=false:=decide_eq_false (by omega)
         have q7:¬ly<=12:=by omega
         go_enter Tryz.func176,Tryz.ntmps176
         go_wp2
         go_ret
         exact⟨rfl,(bW _).out⟩
     · have e:r=false:=by rw[HR.o];exact decide_eq_false (by omega)
       subst e
       have q1:1<=lg:=by omega
       have q2:lg<=6:=by omega
       have q4:decide ((ln:Int)<=4)=false:=decide_eq_false d3
       have q6:decide (ln<=4)=false:=decide_eq_false (by omega)
       have q7:¬ln<=4:=by omega
       go_enter Tryz.func176,Tryz.ntmps176
       go_wp2
       go_ret
       exact⟨rfl,(bW _).out⟩
   · have e:r=false:=by rw[HR.o];exact decide_eq_false (by omega)
     subst e
     have q1:1<=lg:=by omega
     have q4:decide ((lg:Int)<=6)=false:=decide_eq_false d2
     have q6:decide (lg<=6)=false:=decide_eq_false (by omega)
     have q7:¬lg<=6:=by omega
     go_enter Tryz.func176,Tryz.ntmps176
     go_wp2
     go_ret
     exact⟨rfl,(bW _).out⟩
 · have e:r=false:=by rw[HR.o];exact decide_eq_false (by omega)
   subst e
   have q4:decide ((1:Int)<=(lg:Int))=false:=decide_eq_false d1
   obtain rfl:lg=0:=by omega
   go_enter Tryz.func176,Tryz.ntmps176
   go_wp2
   go_ret
   exact⟨rfl,(bW _).out⟩
theorem wB (l:List M.Sg) (ao:Option Addr) (cap:Nat) (w:World) (h:M.fh M.zy w ao l) (hn:M.bf l.length) (hf:∀k,k<l.length->M.aab (M.dI l k)) :
  Calls Tryz.prog 177 #[.slice ao l.length cap] w fun e w'=>e=.returned (.bool (l.all M.fR))/\Below w.heap.size w w':=by
 unfold M.bf at hn
 have H:=ai h
 have F:=ai hf
 clear h hf
 go_enter Tryz.func177,Tryz.ntmps177
 go_wp2
 go_loopw [7] (fun i wr=>∃k:Nat,k<=l.length/\i=I k/\(∀j,j<k->M.fR (M.dI l j)=true)/\Below w.heap.size w wr) (fun i _=>l.length-(intOf i).toNat)
 case atStart=>exact⟨0,by omega,rfl,fun j h=>by omega,Below.refl _ _⟩
 case round =>
  obtain⟨k,hk,rfl,hall,hb⟩:=hrel
  have HA:=ai hall
  have HB:=ai hb
  clear hall
  by_cases hlt:k<l.length
  · obtain⟨b,off,hao,hbl,hl⟩:=H.o (by omega)
    subst hao
    obtain⟨c0,c1,c2,c3,c4⟩:=M.yx hb hbl hl k hlt
    obtain⟨g1,g2,g3⟩:=F.o k hlt
    obtain⟨s,hs⟩:=ex (M.dI l k)
    rw[<- hs] at c0 c1 c2 c3 c4 g1 g2 g3
    have HS:=ai hs
    clear hs hb hl
    obtain⟨p,n,d,x,y⟩:=s
    simp only at c0 c1 c2 c3 c4 g1 g2 g3
    unfold M.gj at g1 g2
    unfold M.bf at g3
    have oa:d.size<=maxLen:=by unfold maxLen;omega
    have Dg:(k:Int)<(l.length:Int):=by omega
    have hbad:Hid (¬(0<=p/\1<=n/\p+n<=255/\(d.size:Int)<=n*16)->l.all M.fR=false):=fun hx =>
     M.all_false M.fR M.PX l k hlt (by show M.fR (M.dI l k)=false;rw[<- HS.o];exact decide_eq_false hx)
    by_cases d1:0<=p
    · have d1':¬p<0:=by omega
      by_cases d2:1<=n
      · have d2':¬n<1:=by omega
        by_cases d3:p+n<=255
        · have d3':¬255-p<n:=by omega
          by_cases d4:(d.size:Int)<=n*16
          · have d4':¬n*16<(d.size:Int):=by omega
            have vv:Hid (M.fR ⟨p,n,d,x,y⟩=true):=decide_eq_true ⟨d1,d2,d3,d4⟩
            go_wp2
            go_roundw
            case rel=>exact⟨k+1,by omega,by go_num,fun j h=>if e:j=k then by rw[e,<- HS.o];exact vv.out else HA.o j (by omega),HB.o.alloc HB.o.size _⟩
            case measure=>simp[intOf];omega
          · have d4':n*16<(d.size:Int):=by omega
            have HR:=ai (hbad.out (by omega))
            go_wp2
            go_ret
            exact⟨bV HR.o.symm,HB.o.alloc HB.o.size _⟩
        · have d3':255-p<n:=by omega
          have HR:=ai (hbad.out (by omega))
          go_wp2
          go_ret
          exact⟨bV HR.o.symm,HB.o.alloc HB.o.size _⟩
      · have d2':n<1:=by omega
        have HR:=ai (hbad.out (by omega))
        go_wp2
        go_ret
        exact⟨bV HR.o.symm,HB.o.alloc HB.o.size _⟩
    · have d1':p<0:=by omega
      have HR:=ai (hbad.out (by omega))
      go_wp2
      go_ret
      exact⟨bV HR.o.symm,HB.o.alloc HB.o.size _⟩
  · obtain rfl:k=l.length:=by omega
    have HR:=ai (M.all_true M.fR M.PX l (fun j hj=>HA.o j hj))
    clear hb
    go_wp2
    go_ret
    exact⟨bV HR.o.symm,HB.o⟩
theorem J8 (l:List M.Sg) (k n:Nat) (h:M.mj l k=false) (hk:k<=n):M.mj l n=false:=by
 induction n with
 | zero => obtain rfl:k=0 := by omega
           exact h
 | succ n ih =>
  rcases Nat.lt_or_ge n k with g | g
  · obtain rfl:k=n+1:=by omega
    exact h
  · simp only[M.mj]
    rw[ih g];rfl
theorem Po (l:List M.Sg) (k:Nat) (hk:k<l.length) (h:M.mj l (k+1)=false):M.uN l=false:=J8 l (k+1) l.length h hk
theorem D8 (l:List M.Sg) (ao:Option Addr) (cap:Nat) (w:World) (h:M.fh M.zy w ao l) (hn:M.bf l.length) (hr:l.all M.fR=true) :
  Calls Tryz.prog 178 #[.slice ao l.length cap] w fun e w'=>e=.returned (.bool (!M.uN l))/\Below w.heap.size w w':=by
 unfold M.bf at hn
 have H:=ai h
 have F:=ai hr
 clear h hr
 go_enter Tryz.func178,Tryz.ntmps178
 go_wp2
 go_loopw [3] (fun i wr=>∃k:Nat,1<=k/\(k<=l.length∨k=1)/\i=I k/\M.mj l k=true/\Below w.heap.size w wr) (fun i _=>l.length-(intOf i).toNat)
 case atStart=>exact⟨1,by omega,.inr rfl,rfl,rfl,Below.refl _ _⟩
 case round =>
  obtain⟨k,hk1,hk,rfl,hall,hb⟩:=hrel
  have HA:=ai hall
  have HB:=ai hb
  clear hall
  by_cases hlt:k<l.length
  · obtain⟨b,off,hao,hbl,hl⟩:=H.o (by omega)
    subst hao
    obtain⟨c0,c1,c2,c3,c4⟩:=M.yx hb hbl hl k hlt
    obtain⟨e0,e1,e2,e3,e4⟩:=M.yx hb hbl hl (k-1) (by omega)
    have g1:0<=(M.dI l (k-1)).page/\1<=(M.dI l (k-1)).aH/\(M.dI l (k-1)).page+(M.dI l (k-1)).aH<=255/\_:=of_decide_eq_true (M.zx M.fR M.PX l (k-1) (by omega) F.o)
    have hov:Hid (M.mj l (k+1)=decide ((M.dI l (k-1)).page+(M.dI l (k-1)).aH<=(M.dI l k).page)):=by
     show _=_
     simp only[M.mj,HA.o,Bool.true_and,M.Nf]
     rw[show(k==0)=false from by simp;omega,Bool.false_or]
    obtain⟨s,hs⟩:=ex (M.dI l k)
    obtain⟨t,ht⟩:=ex (M.dI l (k-1))
    rw[<- hs] at c0 c1 c2 c3 c4 hov
    rw[<- ht] at e0 e1 e2 e3 e4 g1 hov
    clear hs ht hb hl
    obtain⟨sp,sn,sd,sx,sy⟩:=s
    obtain⟨tp,tn,td,tx,ty⟩:=t
    simp only at c0 c1 c2 c3 c4 e0 e1 e2 e3 e4 g1 hov
    obtain⟨g1,g2,g3,g4⟩:=g1
    clear c1 c2 c3 c4 e2 e3 e4 g4
    have Dg:(k:Int)<(l.length:Int):=by omega
    have mv:=Q.dW wr
    have hkc:=@Q.cH wr
    have hbr:b<wr.heap.size:=Nat.lt_of_lt_of_le hbl HB.o.size
    have k0:∀x:Q.fF wr.heap.size wr,x.world.cell? (Ad b (off+k*5))=some (I sp):=fun x=>by rw[hkc x _ _ hbr,c0]
    have k1:∀x:Q.fF wr.heap.size wr,x.world.cell? ⟨b,off+(k-1)*5,none⟩=some (I tp):=fun x=>by rw[hkc x _ _ hbr,e0]
    have k2:∀x:Q.fF wr.heap.size wr,x.world.cell? ⟨b,off+(k-1)*5+1,none⟩=some (I tn):=fun x=>by rw[hkc x _ _ hbr,e1]
    clear hkc c0 e0 e1
    by_cases d:sp<tp+tn
    · have hno:Hid (M.mj l (k+1)=false):=by show _=_;rw[hov.out];exact decide_eq_false (by omega)
      go_wp2
      refine Q.br (by kernel_rfl) (by kernel_rfl) ?_
      repeat (first | go_big_quiet_step (fail) | quiet_step (fail))
      refine wpQuiet_nil ?_
      intro _ hw'
      obtain⟨x,hw''⟩:=hw'
      subst hw''
      go_wp2
      go_ret
      exact⟨bV (by rw[Po l k hlt hno.out];rfl),HB.o.trans (x.keeps.mono HB.o.size)⟩
    · have N3:Hid (M.mj l (k+1)=true):=by show _=_;rw[hov.out];exact decide_eq_true (by omega)
      go_wp2
      refine Q.br (by kernel_rfl) (by kernel_rfl) ?_
      repeat (first | go_big_quiet_step (fail) | quiet_step (fail))
      refine wpQuiet_nil ?_
      intro _ hw'
      obtain⟨x,hw''⟩:=hw'
      subst hw''
      go_wp2
      go_roundw
      case rel=>exact⟨k+1,by omega,.inl (by omega),by go_num,N3.out,HB.o.trans (x.keeps.mono HB.o.size)⟩
      case measure=>simp[intOf];omega
  · have HR:Hid (M.uN l=true):=by
     show _=_
     unfold M.uN
     rcases hk with hk | hk
     · rw[show l.length=k by omega];exact HA.o
     · rcases Nat.lt_or_ge l.length 1 with h0 | h0
       · rw[show l.length=0 by omega];rfl
       · rw[show l.length=k by omega];exact HA.o
    have hge:¬(k:Int)<(l.length:Int):=by omega
    clear hb
    go_wp2
    go_ret
    exact⟨bV (by rw[HR.o];rfl),HB.o⟩
def si (s:M.Sg):Array Value:=#[I s.page,I s.aH,.string s.data,.bool s.wr,.bool s.ex]
def xH (l:List M.Sg) (a:Int):M.Sg:=(M.ma l a).getD M.PX
theorem rJ:∀(l:List M.Sg) (a:Int),(∀j,j<l.length->M.mW (M.dI l j) a=false)->M.ma l a=none
 | [],_,_=>rfl
 | s::r,a,h=>by
  have h0:M.mW s a=false:=h 0 (by simp)
  unfold M.ma
  rw[h0,if_neg (by simp)]
  exact rJ r a (fun j hj=>h (j+1) (by simpa using hj))
theorem rI:∀(l:List M.Sg) (a:Int) (k:Nat),k<l.length->(∀j,j<k->M.mW (M.dI l j) a=false)->M.mW (M.dI l k) a=true->M.ma l a=some (M.dI l k)
 | s::r,a,0,_,_,h=>by
  have h0:M.mW s a=true:=h
  unfold M.ma
  rw[h0,if_pos rfl]
  rfl
 | s::r,a,k+1,hk,hj,h=>by
  have h0:M.mW s a=false:=hj 0 (by omega)
  unfold M.ma
  rw[h0,if_neg (by simp)]
  exact rI r a k (by simpa using hk) (fun j h=>hj (j+1) (by omega)) h
theorem D2 {l:List M.Sg} (h:l.all M.fR=true) (k:Nat) (hk:k<l.length):0<=(M.dI l k).page/\1<=(M.dI l k).aH/\(M.dI l k).page+(M.dI l k).aH<=255/\((M.dI l k).data.size:Int)<=(M.dI l k).aH*16 :=
 of_decide_eq_true (M.zx M.fR M.PX l k hk h)
theorem J3 {l:List M.Sg} (h:l.all M.fR=true) (a:Int) (ha:a<0):M.ma l a=none :=
 rJ l a (fun j hj=>by
  have:=D2 h j hj
  exact decide_eq_false (by omega))
theorem Cc {a b:M.Sg} {x y:Bool} (h:a=b) (g:x=y):Ending.returned (.tuple #[.agg (si a),.bool x])=.returned (.tuple #[.agg (si b),.bool y]):=by rw[h,g]
theorem qg (l:List M.Sg) (ao:Option Addr) (cap:Nat) (a:Int) (w:World) (h:M.fh M.zy w ao l) (hn:M.bf l.length) (hr:l.all M.fR=true) (ha:M.gj a) :
  Calls Tryz.prog 199 #[.slice ao l.length cap,I a] w fun e w'=>e=.returned (.tuple #[.agg (si (xH l a)),.bool (M.eu l a)])/\Below w.heap.size w w':=by
 unfold M.bf at hn
 unfold M.gj at ha
 have H:=ai h
 have F:=ai hr
 clear h hr
 by_cases h0:a<0
 · have HN:=ai (J3 F.o a h0)
   have HZ:=ai ((Below.refl w.heap.size w).alloc (Nat.le_refl _) (.cells #[I 0,I 0,.string ⟨#[]⟩,.bool false,.bool false] 145))
   go_enter Tryz.func199,Tryz.ntmps199
   go_wp2
   exact bodyPost_ret (v:=.tuple #[.agg #[I 0,I 0,.string ⟨#[]⟩,.bool false,.bool false],.bool false]) (by simp[results,Tryz.results199,go_sem]) rfl ⟨Cc (a:=M.PX) (x:=false) (by unfold xH;rw[HN.o];rfl) (by unfold M.eu;rw[HN.o];rfl),HZ.o⟩
 · have h0':0<=a:=by omega
   have hbz:Below w.heap.size w (w.alloc (.cells #[I 0,I 0,.string ⟨#[]⟩,.bool false,.bool false] 145)):=(Below.refl _ _).alloc (Nat.le_refl _) _
   have HZ:=ai hbz
   clear hbz
   go_enter Tryz.func199,Tryz.ntmps199
   go_wp2
   go_loopw [16] (fun i wr=>∃k:Nat,k<=l.length/\i=I k/\(∀j,j<k->M.mW (M.dI l j) a=false)/\Below (w.heap.size+1) (w.alloc (.cells #[I 0,I 0,.string ⟨#[]⟩,.bool false,.bool false] 145)) wr) (fun i _=>l.length-(intOf i).toNat)
   case atStart=>exact⟨0,by omega,rfl,fun j hj=>by omega,Below.refl _ _⟩
   case round =>
    obtain⟨k,hk,rfl,hno,hb⟩:=hrel
    have HN:=ai hno
    have HB:=ai hb
    have eK:Hid (Below w.heap.size w wr):=HZ.o.trans (hb.mono (Nat.le_succ _))
    have hsz:w.heap.size+1<=wr.heap.size:=by have:=hb.size;simpa using this
    have HR:=ai (B.below (B.new w #[I 0,I 0,.string ⟨#[]⟩,.bool false,.bool false] 145) hb (Nat.lt_succ_self _))
    clear hno hb
    by_cases hlt:k<l.length
    · obtain⟨b,off,hao,hbl,hl⟩:=H.o (by omega)
      subst hao
      obtain⟨c0,c1,c2,c3,c4⟩:=M.yx eK.out hbl hl k hlt
      obtain⟨g1,g2,g3,g4⟩:=D2 F.o k hlt
      obtain⟨s,hs⟩:=ex (M.dI l k)
      rw[<- hs] at c0 c1 c2 c3 c4 g1 g2 g3 g4
      have HS:=ai hs
      clear hs hl
      obtain⟨p,n,d,x,y⟩:=s
      simp only at c0 c1 c2 c3 c4 g1 g2 g3 g4
      have oa:d.size<=maxLen:=by unfold maxLen;omega
      have Dg:(k:Int)<(l.length:Int):=by omega
      clear g4
      by_cases d1:p<=a/16
      · by_cases d2:a/16<p+n
        · have hin:Hid (M.mW (M.dI l k) a=true):=by show _=_;rw[<- HS.o];exact decide_eq_true (show p*16<=a/\a<(p+n)*16 by omega)
          have t0:=B.cell (B.alloc HR.o (.cells #[I p,I n,.string d,.bool x,.bool y] 145)) 0 rfl
          have t1:=B.cell (B.alloc HR.o (.cells #[I p,I n,.string d,.bool x,.bool y] 145)) 1 rfl
          have t2:=B.cell (B.alloc HR.o (.cells #[I p,I n,.string d,.bool x,.bool y] 145)) 2 rfl
          have t3:=B.cell (B.alloc HR.o (.cells #[I p,I n,.string d,.bool x,.bool y] 145)) 3 rfl
          have t4:=B.cell (B.alloc HR.o (.cells #[I p,I n,.string d,.bool x,.bool y] 145)) 4 rfl
          have u0:=B.free (B.alloc HR.o (.cells #[I p,I n,.string d,.bool x,.bool y] 145))
          have FH:=ai (eK.out.alloc eK.out.size (.cells #[I p,I n,.string d,.bool x,.bool y] 145))
          go_wp2
          exact bodyPost_ret (v:=.tuple #[.agg #[I p,I n,.string d,.bool x,.bool y],.bool true]) (by simp[results,Tryz.results199,go_sem,t0,t1,t2,t3,t4]) rfl ⟨Cc (a:=⟨p,n,d,x,y⟩) (x:=true) (by unfold xH;rw[rI l a k hlt HN.o hin.out];exact HS.o) (by unfold M.eu;rw[rI l a k hlt HN.o hin.out];rfl),(((((FH.o.setCell (Nat.le_refl _) _).setCell (Nat.le_refl _) _).setCell (Nat.le_refl _) _).setCell (Nat.le_refl _) _).setCell (Nat.le_refl _) _)⟩
        · have o5:Hid (M.mW (M.dI l k) a=false):=by show _=_;rw[<- HS.o];exact decide_eq_false (show ¬(p*16<=a/\a<(p+n)*16) by omega)
          go_wp2
          go_roundw
          case rel=>exact⟨k+1,by omega,by go_num,fun j hj=>if e:j=k then by rw[e];exact o5.out else HN.o j (by omega),HB.o.alloc (by simpa using hsz) _⟩
          case measure=>simp[intOf];omega
      · have o5:Hid (M.mW (M.dI l k) a=false):=by show _=_;rw[<- HS.o];exact decide_eq_false (show ¬(p*16<=a/\a<(p+n)*16) by omega)
        have d1':decide (p<=a/16)=false:=decide_eq_false d1
        go_wp2
        go_roundw
        case rel=>exact⟨k+1,by omega,by go_num,fun j hj=>if e:j=k then by rw[e];exact o5.out else HN.o j (by omega),HB.o.alloc (by simpa using hsz) _⟩
        case measure=>simp[intOf];omega
    · obtain rfl:k=l.length:=by omega
      have HNo:=ai (rJ l a HN.o)
      have t0:=B.cell HR.o 0 rfl
      have t1:=B.cell HR.o 1 rfl
      have t2:=B.cell HR.o 2 rfl
      have t3:=B.cell HR.o 3 rfl
      have t4:=B.cell HR.o 4 rfl
      have u0:=B.free HR.o
      go_wp2
      exact bodyPost_ret (v:=.tuple #[.agg #[I 0,I 0,.string ⟨#[]⟩,.bool false,.bool false],.bool false]) (by simp[results,Tryz.results199,go_sem,t0,t1,t2,t3,t4]) rfl ⟨Cc (a:=M.PX) (x:=false) (by unfold xH;rw[HNo.o];rfl) (by unfold M.eu;rw[HNo.o];rfl),(((((eK.out.setCell (Nat.le_refl _) _).setCell (Nat.le_refl _) _).setCell (Nat.le_refl _) _).setCell (Nat.le_refl _) _).setCell (Nat.le_refl _) _)⟩
theorem iZ {l:List M.Sg} (h:l.all M.fR=true) (a:Int) (hp:M.eu l a=true):0<=a/\a<4080:=by
 induction l with
 | nil=>cases hp
 | cons s r ih =>
  have h':M.fR s=true/\r.all M.fR=true:=by simpa using h
  have hs:0<=s.page/\1<=s.aH/\s.page+s.aH<=255/\(s.data.size:Int)<=s.aH*16:=of_decide_eq_true h'.1
  unfold M.eu M.ma at hp
  cases e:M.mW s a
  · rw[e,if_neg (by simp)] at hp
    exact ih h'.2 hp
  · have:=of_decide_eq_true e
    omega
theorem wO (i:M.Im) (a:M.At) (w:World) (h:M.nt w a i) (hf:M.Fit i) (hr:i.dm.all M.fR=true):Calls Tryz.prog 183 #[.agg (M.fD a i)] w fun e w'=>e=.returned (.bool (M.uJ i))/\Below w.heap.size w w':=by
 obtain⟨an,cn,ag,cg,ay,cy,ar,cr⟩:=a
 obtain⟨nm,ns,gs,ys,rs,en⟩:=i
 obtain⟨h1,h2,h3,h4⟩:=h
 obtain⟨f1,f2,f3,f4,f5,f6,f7,f8,f9,f10⟩:=hf
 simp only at h1 h2 h3 h4 f1 f2 f3 f4 f5 f6 f7 f8 f9 f10
 have F4:=ai f4
 unfold M.bf at f2 f4 f6 f8
 simp only[M.fD]
 have H1:=ai h1
 have H2:=ai h2
 have H3:=ai h3
 have H4:=ai h4
 have F3:=ai f3
 have F7:=ai f7
 have F9:=ai f9
 have F10:=ai f10
 have HG:=ai hr
 clear h1 h2 h3 h4 f3 f5 f7 f9 f10 hr
 have PV:=ai (B.new w #[.string nm,.slice an ns.length cn,.slice ag gs.length cg,.slice ay ys.length cy,.slice ar rs.length cr,I en] 151)
 have bW:=ai ((Below.refl w.heap.size w).alloc (Nat.le_refl _) (.cells #[.string nm,.slice an ns.length cn,.slice ag gs.length cg,.slice ay ys.length cy,.slice ar rs.length cr,I en] 151))
 obtain⟨X,hX⟩:∃X:Array Value,X=#[.string nm,.slice an ns.length cn,.slice ag gs.length cg,.slice ay ys.length cy,.slice ar rs.length cr,I en]:=⟨_,rfl⟩
 have HX:=ai hX
 rw[<- hX] at PV bW
 clear hX
 have bx2:=B.cell PV.o 2 (by rw[HX.o];rfl)
 have bx5:=B.cell PV.o 5 (by rw[HX.o];rfl)
 have acY:=F10.o
 unfold M.gj at acY
 have HE:Hid (M.uJ ⟨nm,ns,gs,ys,rs,en⟩=(M.eu gs en&&((xH gs en).ex&&decide (en%8=0)))):=by
  show _=_
  unfold M.uJ M.eu xH
  simp only
  cases M.ma gs en <;> rfl
 rw[HE.o]
 have hpb:M.eu gs en=true->0<=en:=fun h=>(iZ HG.o en h).1
 obtain⟨sg,hsg⟩:=ex (xH gs en)
 obtain⟨pb,wK⟩:=ex (M.eu gs en)
 have HS:=ai hsg
 have HP:=ai wK
 rw[<- wK] at hpb
 rw[<- hsg,<- wK]
 obtain⟨sp,sn,sd,sx,sy⟩:=sg
 simp only
 clear HE hsg wK
 cases pb
 · clear hpb
   go_enter Tryz.func183,Tryz.ntmps183
   go_wp2_with fail
   rw[<- HX.o]
   refine(qg gs ag cg en _ (M.fh.below (lie:=M.zy) (fun hb hlt h=>M.yx hb hlt h) H2.o bW.o) F4.o HG.o F10.o).mono ?_
   rintro e w2 ⟨rfl,hb2⟩
   have ck:=ai (bW.o.trans (hb2.mono bW.o.size))
   have Dt:=ai (B.below PV.o hb2 (B.isLt PV.o))
   have Es:=B.isLt Dt.o
   have by5:=B.cell Dt.o 5 (by rw[HX.o];rfl)
   clear hb2
   rw[<- HS.o,<- HP.o]
   simp only[si]
   go_wp2
   go_ret
   exact⟨rfl,ck.o.alloc ck.o.size _⟩
 · have hp:=hpb rfl
   clear hpb
   cases sy
   · go_enter Tryz.func183,Tryz.ntmps183
     go_wp2_with fail
     rw[<- HX.o]
     refine(qg gs ag cg en _ (M.fh.below (lie:=M.zy) (fun hb hlt h=>M.yx hb hlt h) H2.o bW.o) F4.o HG.o F10.o).mono ?_
     rintro e w2 ⟨rfl,hb2⟩
     have ck:=ai (bW.o.trans (hb2.mono bW.o.size))
     have Dt:=ai (B.below PV.o hb2 (B.isLt PV.o))
     have Es:=B.isLt Dt.o
     have by5:=B.cell Dt.o 5 (by rw[HX.o];rfl)
     clear hb2
     rw[<- HS.o,<- HP.o]
     simp only[si]
     go_wp2
     go_ret
     exact⟨rfl,ck.o.alloc ck.o.size _⟩
   · by_cases d:en%8=0
     · rw[decide_eq_true d]
       go_enter Tryz.func183,Tryz.ntmps183
       go_wp2_with fail
       rw[<- HX.o]
       refine(qg gs ag cg en _ (M.fh.below (lie:=M.zy) (fun hb hlt h=>M.yx hb hlt h) H2.o bW.o) F4.o HG.o F10.o).mono ?_
       rintro e w2 ⟨rfl,hb2⟩
       have ck:=ai (bW.o.trans (hb2.mono bW.o.size))
       have Dt:=ai (B.below PV.o hb2 (B.isLt PV.o))
       have Es:=B.isLt Dt.o
       have by5:=B.cell Dt.o 5 (by rw[HX.o];rfl)
       clear hb2
       rw[<- HS.o,<- HP.o]
       simp only[si]
       go_wp2
       go_ret
       exact⟨rfl,ck.o.alloc ck.o.size _⟩
     · rw[decide_eq_false d]
       go_enter Tryz.func183,Tryz.ntmps183
       go_wp2_with fail
       rw[<- HX.o]
       refine(qg gs ag cg en _ (M.fh.below (lie:=M.zy) (fun hb hlt h=>M.yx hb hlt h) H2.o bW.o) F4.o HG.o F10.o).mono ?_
       rintro e w2 ⟨rfl,hb2⟩
       have ck:=ai (bW.o.trans (hb2.mono bW.o.size))
       have Dt:=ai (B.below PV.o hb2 (B.isLt PV.o))
       have Es:=B.isLt Dt.o
       have by5:=B.cell Dt.o 5 (by rw[HX.o];rfl)
       clear hb2
       rw[<- HS.o,<- HP.o]
       simp only[si]
       go_wp2
       go_ret
       exact⟨bV (by simpa using d),ck.o.alloc ck.o.size _⟩
end W
namespace W
open Go.RowKit Go.WideMaps Go.Maps
theorem law:Keyed Tryz.prog 9:=string_keyed Tryz.underlying9
theorem Mv (w:World):(zeroValue 3).run Tryz.prog w=.ok (I 0) w:=by kernel_rfl
def zZ (s:ByteArray):Lit:=.string s.data.toList
theorem yA {s t:ByteArray} (h:zZ s=zZ t):s=t:=by
 unfold zZ at h
 injection h with h
 cases s;cases t
 congr 1
 exact Array.toList_inj.1 h
theorem I6 {s:ByteArray} (h:M.bf s.size):keyOf Tryz.prog 9 (.string s)=some (zZ s):=keyOf_string_mk Tryz.underlying9 (by unfold M.bf at h;unfold maxLen;omega)
instance XN:LawfulBEq ByteArray where
 eq_of_beq {a b} h:=by
  cases a;cases b
  congr 1
  exact eq_of_beq (α:=Array UInt8) h
 rfl {a}:=by
  cases a
  exact beq_self_eq_true (α:=Array UInt8) _
def Cnt (l:List ByteArray) (k:Nat) (D:DataW Unit):Prop:=∀s:ByteArray,D.atKey (zZ s) (.lit (.int .i64 0))=.lit (.int .i64 (if (l.take k).contains s then 1 else 0))
theorem Pb (l:List ByteArray):Cnt l 0 (.map []):=fun s=>by simp[DataW.atKey]
theorem rB (l:List ByteArray) (k:Nat) (hk:k<l.length) (s:ByteArray):(l.take (k+1)).contains s=((l.take k).contains s || s==M.kR l k):=by
 rw[List.take_add_one,List.getElem?_eq_getElem hk]
 have e:M.kR l k=l[k]:=by unfold M.kR;rw[List.getD_eq_getElem?_getD,List.getElem?_eq_getElem hk];rfl
 rw[e]
 have g:∀(m:List ByteArray) (a:ByteArray),(m++[a]).contains s=(m.contains s || s==a):=fun m a=>by
  rw[Bool.eq_iff_iff]
  simp
 exact g _ _
theorem Pc {l:List ByteArray} {k:Nat} {D:DataW Unit} (hk:k<l.length) (hD:IsMap D) (h:Cnt l k D):Cnt l (k+1) (D.put (zZ (M.kR l k)) (.lit (.int .i64 1))):=fun s=>by
 rw[rB l k hk s]
 by_cases e:s=M.kR l k
 · subst e
   rw[atKey_put_same hD (by trivial)]
   simp
 · rw[atKey_put_other (fun g=>e (yA g)),h s]
   have:(s==M.kR l k)=false:=by simpa using e
   rw[this,Bool.or_false]
theorem J9 (l:List ByteArray) (k n:Nat) (h:M.js l k=false) (hk:k<=n):M.js l n=false:=by
 induction n with
 | zero => obtain rfl:k=0 := by omega
           exact h
 | succ n ih =>
  rcases Nat.lt_or_ge n k with g | g
  · obtain rfl:k=n+1:=by omega
    exact h
  · simp only[M.js]
    rw[ih g];rfl
theorem JH (l:List ByteArray) (ao:Option Addr) (cap:Nat) (w:World) (h:M.fh M.Pv w ao l) (hn:M.bf l.length) (hf:∀k,k<l.length->M.bf (M.kR l k).size) :
  Calls Tryz.prog 179 #[.slice ao l.length cap] w fun e w'=>e=.returned (.bool (!M.pQ l))/\Below w.heap.size w w':=by
 unfold M.bf at hn
 have H:=ai h
 have F:=ai hf
 clear h hf
 have hmm:=@run_makeMap Tryz.prog
 go_enter Tryz.func179,Tryz.ntmps179
 go_wp2
 go_loopw [9] (fun i wr=>∃(k:Nat) (D:DataW Unit),k<=l.length/\i=I k/\wr.ownsMap Tryz.prog 9 (plainElem Tryz.prog 3) w.heap.size k D/\Cnt l k D/\M.js l k=true/\Below w.heap.size w wr) (fun i _=>l.length-(intOf i).toNat)
 case atStart=>exact⟨0,.map [],Nat.zero_le _,rfl,World.ownsMap_made _ _ _ _,Pb l,rfl,(Below.refl _ _).alloc (Nat.le_refl _) _⟩
 case round =>
  obtain⟨k,D,hk,rfl,hown,YH,Ex,hb⟩:=hrel
  have HO:=ai Ex
  have HC:=ai YH
  have HB:=ai hb
  have HW:=ai hown
  clear Ex YH
  by_cases hlt:k<l.length
  · obtain⟨b,off,hao,hbl,hl⟩:=H.o (by omega)
    subst hao
    have Dg:(k:Int)<(l.length:Int):=by omega
    have c0:=M.XK hb hbl hl k hlt
    have fs:=F.o k hlt
    have Z0:=ai (Pc hlt hown.isMap HC.o)
    have HN:Hid (M.js l (k+1)=!(l.take k).contains (M.kR l k)):=by show(M.js l k&&_)=_;rw[HO.o];rfl
    have YG:=HC.o (M.kR l k)
    obtain⟨s,hs⟩:=ex (M.kR l k)
    rw[<- hs] at c0 fs Z0 HN YG
    clear hs hb hl
    have hkey:=I6 fs
    obtain⟨c,hrun,hat,_⟩:=hown.lookup_int law Tryz.underlying272 Tryz.underlying3 (Mv _) hkey
    rw[YG] at hat
    have dM:k<maxLen:=by unfold maxLen;omega
    cases hc:(l.take k).contains s
    · rw[hc] at hat HN
      have e:c=0:=by injection hat with hat;injection hat with _ hat;exact hat.symm
      subst e
      clear hat YG
      go_wp2_with (first | (at_mapUpdate;refine wpList_mapUpdate_own _ rfl _ _ _ 272 rfl 9 3 law Tryz.underlying272 _ w.heap.size k _ rfl HW.o dM _ _ _ rfl rfl hkey _ [] (plainElem_int Tryz.underlying3 (by decide)) ?_) | go_in)
      intro w1 hown1 hgrow1
      have R2:=ai (HB.o.grown hgrow1 HB.o.size (fun j hj=>by cases hj;exact Nat.le_refl _))
      obtain⟨c,Yg,rZ,_⟩:=hown1.lookup_int law Tryz.underlying272 Tryz.underlying3 (Mv _) hkey
      rw[atKey_put_same HW.o.isMap (by trivial)] at rZ
      have e:c=1:=by injection rZ with rZ;injection rZ with _ rZ;exact rZ.symm
      subst e
      have tY:=ai hown1
      clear rZ hown hrun hgrow1 hown1
      go_wp2
      go_roundw
      case rel=>exact⟨k+1,_,by omega,by go_num,tY.o,Z0.o,HN.o,R2.o⟩
      case measure=>simp[intOf];omega
    · rw[hc] at hat HN
      have e:c=1:=by injection hat with hat;injection hat with _ hat;exact hat.symm
      subst e
      clear hat YG
      have HR:=ai (J9 l (k+1) l.length HN.o hlt)
      go_wp2_with (first | (at_mapUpdate;refine wpList_mapUpdate_own _ rfl _ _ _ 272 rfl 9 3 law Tryz.underlying272 _ w.heap.size k _ rfl HW.o dM _ _ _ rfl rfl hkey _ [] (plainElem_int Tryz.underlying3 (by decide)) ?_) | go_in)
      intro w1 hown1 hgrow1
      have R2:=ai (HB.o.grown hgrow1 HB.o.size (fun j hj=>by cases hj;exact Nat.le_refl _))
      obtain⟨c,Yg,rZ,_⟩:=hown1.lookup_int law Tryz.underlying272 Tryz.underlying3 (Mv _) hkey
      rw[atKey_put_same HW.o.isMap (by trivial)] at rZ
      have e:c=2:=by injection rZ with rZ;injection rZ with _ rZ;exact rZ.symm
      subst e
      clear rZ hown hrun hgrow1 hown1
      go_wp2
      go_ret
      exact⟨bV (by unfold M.pQ;rw[HR.o];rfl),R2.o⟩
  · obtain rfl:k=l.length:=by omega
    clear hb
    go_wp2
    go_ret
    exact⟨bV (by unfold M.pQ;rw[HO.o];rfl),HB.o⟩
end W
end Go.Proofs.YtpgifpeohlllfaaGreat
