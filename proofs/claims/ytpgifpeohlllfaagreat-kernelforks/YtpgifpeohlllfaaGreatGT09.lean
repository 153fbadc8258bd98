import Derived.Test.YtpgifpeohlllfaaGreatGT08
set_option maxHeartbeats 20000000
set_option linter.unusedVariables false
set_option maxRecDepth 100000
set_option linter.unusedSimpArgs false
namespace Go.Proofs.YtpgifpeohlllfaaGreat
namespace LW
open Go.RowKit
open W (ai)
theorem fU {k:IntKind} {a b:Int} (h:a=b):Ending.returned (.int k a)=.returned (.int k b):=by rw[h]
theorem yE (l:List AM.Ar) (va vs:Value) (en:Int) (w:World) (ha:AW.Has w va l) (hf:AW.ft l) (hc:AM.aW l=0) (he:M.gu en) (sI:∃ao n c,va=.slice ao n c) (hvs:∃ao n c,vs=.slice ao n c) :
  Calls Tryz.prog 102 #[.agg #[va,vs,I en]] w fun e w'=>e=.returned (.bool (LM.lU l en))/\Below w.heap.size w w':=by
 have FY:Hid (AM.aR l (en.tdiv 16)=AM.aU l (en.tdiv 16)):=by show _=_;simp[AM.aR,hc]
 have s7:=ai (LM.Ij l hc (en.tdiv 16));have HE:Hid (LM.lU l en=((AM.aU l (en.tdiv 16)).2&&(decide (2<=(AM.aU l (en.tdiv 16)).1.bV)&&decide (en.tmod 8=0)))):=rfl;have um:Hid (∀W,Below w.heap.size w W->Calls Tryz.prog 70 #[va,I (en.tdiv 16)] W fun e w'=>e=.returned (.tuple #[.agg (AW.cellsOf (AM.aU l (en.tdiv 16)).1),.bool (AM.aU l (en.tdiv 16)).2])/\Below W.heap.size W w'):=fun W hb=>by
  have h:=AW.qm l va (en.tdiv 16) W (ha.below hb) hf;rw[FY.o] at h;exact h
 obtain⟨r,hr⟩:=ex (AM.aU l (en.tdiv 16));rw[<- hr] at s7 HE um;clear hr FY ha hf hc;obtain⟨⟨pg,pn,pr,zr⟩,ok⟩:=r;simp only[AW.cellsOf] at um s7 HE;obtain⟨aa,na,ca,rfl⟩:=sI;obtain⟨ao,no,co,rfl⟩:=hvs;unfold M.gu at he;have HB:=ai ((Below.refl w.heap.size w).alloc (Nat.le_refl _) (.cells #[.slice aa na ca,.slice ao no co,I en] 30));have BX:=ai (B.new w #[.slice aa na ca,.slice ao no co,I en] 30);rw[HE.o];cases ok with
 | false =>
  go_enter Tryz.func102,Tryz.ntmps102;go_wp2_with (go_at_call 70;refine(um.o _ HB.o).mono ?_;rintro e w1 ⟨rfl,hb⟩;have HB:=ai (HB.o.trans (hb.mono HB.o.size));clear hb)
  go_ret;exact⟨rfl,HB.o.alloc HB.o.size _⟩
 | true =>
  have Hy:=LM.GY (s7.o rfl);have b0:bits BinOp.and IntKind.i64 0 2=0:=by decide
  have b1:bits BinOp.and IntKind.i64 1 2=0:=by decide
  have b2:bits BinOp.and IntKind.i64 2 2=2:=by decide
  have b3:bits BinOp.and IntKind.i64 3 2=2:=by decide
  clear s7;by_cases h8:en.tmod 8=0
  · rcases Hy with rfl | rfl | rfl | rfl
    all_goals
     go_enter Tryz.func102,Tryz.ntmps102;go_wp2_with (go_at_call 70;refine(um.o _ HB.o).mono ?_;rintro e w1 ⟨rfl,hb⟩;have HB:=ai (HB.o.trans (hb.mono HB.o.size));have BX:=ai (B.below BX.o hb (B.isLt BX.o));have Ai:=B.isLt BX.o;have x2:=B.cell BX.o 2 rfl;clear hb)
     go_ret;exact⟨bY (by simp[h8]),HB.o.alloc HB.o.size _⟩
  · have h8':(en.tmod 8==0)=false:=by simpa using h8
    rcases Hy with rfl | rfl | rfl | rfl
    all_goals
     go_enter Tryz.func102,Tryz.ntmps102;go_wp2_with (go_at_call 70;refine(um.o _ HB.o).mono ?_;rintro e w1 ⟨rfl,hb⟩;have HB:=ai (HB.o.trans (hb.mono HB.o.size));have BX:=ai (B.below BX.o hb (B.isLt BX.o));have Ai:=B.isLt BX.o;have x2:=B.cell BX.o 2 rfl;clear hb)
     go_ret;exact⟨bY (by simp[h8]),HB.o.alloc HB.o.size _⟩
theorem isSlice {w:World} {v:Value} {l:List AM.Ar} (h:AW.Has w v l):∃ao n c,v=.slice ao n c:=by
 obtain⟨ao,cap,h,_⟩:=h;exact⟨ao,_,cap,h⟩
theorem gV (l:List AM.Ar) (hs:List LM.Sh) (en:Int) (va:Value) (ao:Option Addr) (cap:Nat) (w:World) (ha:AW.Has w va l) (hf:AW.ft l) (h:LM.jb w ao hs) (Gk:LM.pH hs) (hcap:hs.length<=cap) (he:M.gu en) :
  Calls Tryz.prog 53 #[.agg #[va,.slice ao hs.length cap,I en]] w fun e w'=>e=.returned (I (LM.mU l hs en))/\Below w.heap.size w w':=by
 have uB:Hid (∀W,Below w.heap.size w W->Calls Tryz.prog 98 #[va] W fun e w'=>e=.returned (I (AM.aW l))/\Below W.heap.size W w'):=fun W hb=>AW.gV l va W (ha.below hb) hf
 have HZ:Hid (∀W,Below w.heap.size w W->Calls Tryz.prog 99 #[va] W fun e w'=>e=.returned (.bool (LM.fw l))/\Below W.heap.size W w'):=fun W hb=>FP l va W (ha.below hb) hf
 have Yf:Hid (AM.aW l=0->∀W,Below w.heap.size w W->Calls Tryz.prog 100 #[.agg #[va,.slice ao hs.length cap,I en]] W fun e w'=>e=.returned (.bool (LM.eH l hs))/\Below W.heap.size W w'):=fun hc W hb=>Fj l hs en va ao cap W (ha.below hb) hc (h.below hb) Gk.1 hcap
 have DV:Hid (∀W,Below w.heap.size w W->Calls Tryz.prog 101 #[.slice ao hs.length cap] W fun e w'=>e=.returned (.bool (LM.jx hs))/\Below W.heap.size W w'):=fun W hb=>xh hs ao cap W (h.below hb) Gk
 have iy:Hid (AM.aW l=0->∀W,Below w.heap.size w W->Calls Tryz.prog 102 #[.agg #[va,.slice ao hs.length cap,I en]] W fun e w'=>e=.returned (.bool (LM.lU l en))/\Below W.heap.size W w'):=fun hc W hb=>yE l va _ en W (ha.below hb) hf hc he (isSlice ha) ⟨_,_,_,rfl⟩
 have HR:Hid (LM.mU l hs en=if AM.aW l=0 then (if !LM.fw l&&(LM.eH l hs&&(LM.jx hs&&LM.lU l en)) then 0 else 1) else AM.aW l):=rfl;obtain⟨aa,na,ca,rfl⟩:=isSlice ha;clear ha hf h Gk hcap he;obtain⟨N,hN⟩:=ex hs.length;rw[<- hN] at Yf DV iy;rw[<- hN];obtain⟨z,hz⟩:=ex (LM.fw l);rw[<- hz] at HZ HR;obtain⟨q,hq⟩:=ex (LM.eH l hs);rw[<- hq] at Yf HR;obtain⟨s,hs'⟩:=ex (LM.jx hs);rw[<- hs'] at DV HR;obtain⟨r,hr⟩:=ex (LM.lU l en);rw[<- hr] at iy HR;obtain⟨C,hC⟩:=ex (AM.aW l);rw[<- hC] at uB Yf iy HR;rw[HR.o];clear hN hz hq hs' hr hC HR;have HB:=ai ((Below.refl w.heap.size w).alloc (Nat.le_refl _) (.cells #[.slice aa na ca,.slice ao N cap,I en] 30));have BX:=ai (B.new w #[.slice aa na ca,.slice ao N cap,I en] 30);by_cases hc:C=0
 · subst hc;have agd:=ai (Yf.o rfl);have agb:=ai (iy.o rfl);clear Yf iy;rw[if_pos rfl];cases z <;> cases q <;> cases s <;> cases r
   all_goals
    go_enter Tryz.func53,Tryz.ntmps53;go_wp2_with (first
     | (go_at_call 98;refine(uB.o _ HB.o).mono ?_;rintro e w1 ⟨rfl,hb⟩;have HB:=ai (HB.o.trans (hb.mono HB.o.size));have BX:=ai (B.below BX.o hb (B.isLt BX.o));have x0:=B.cell BX.o 0 rfl;have x1:=B.cell BX.o 1 rfl;have x2:=B.cell BX.o 2 rfl;clear hb)
     | (go_at_call 99;refine(HZ.o _ HB.o).mono ?_;rintro e w1 ⟨rfl,hb⟩;have HB:=ai (HB.o.trans (hb.mono HB.o.size));have BX:=ai (B.below BX.o hb (B.isLt BX.o));have x0:=B.cell BX.o 0 rfl;have x1:=B.cell BX.o 1 rfl;have x2:=B.cell BX.o 2 rfl;clear hb)
     | (go_at_call 100;refine(agd.o _ HB.o).mono ?_;rintro e w1 ⟨rfl,hb⟩;have HB:=ai (HB.o.trans (hb.mono HB.o.size));have BX:=ai (B.below BX.o hb (B.isLt BX.o));have x0:=B.cell BX.o 0 rfl;have x1:=B.cell BX.o 1 rfl;have x2:=B.cell BX.o 2 rfl;clear hb)
     | (go_at_call 101;refine(DV.o _ HB.o).mono ?_;rintro e w1 ⟨rfl,hb⟩;have HB:=ai (HB.o.trans (hb.mono HB.o.size));have BX:=ai (B.below BX.o hb (B.isLt BX.o));have x0:=B.cell BX.o 0 rfl;have x1:=B.cell BX.o 1 rfl;have x2:=B.cell BX.o 2 rfl;clear hb)
     | (go_at_call 102;refine(agb.o _ HB.o).mono ?_;rintro e w1 ⟨rfl,hb⟩;have HB:=ai (HB.o.trans (hb.mono HB.o.size));clear hb))
    go_ret;exact⟨rfl,HB.o⟩
 · have hc':(C==0)=false:=by simpa using hc
   rw[if_neg hc];go_enter Tryz.func53,Tryz.ntmps53;go_wp2_with (go_at_call 98;refine(uB.o _ HB.o).mono ?_;rintro e w1 ⟨rfl,hb⟩;have HB:=ai (HB.o.trans (hb.mono HB.o.size));clear hb)
   go_ret;exact⟨rfl,HB.o⟩
end LW
namespace LM
open Go.RowKit
structure Ob where
 i:M.Im
 a:M.At
 base:Int
def ob0:Ob:=⟨⟨⟨#[]⟩,[],[],[],[],0⟩,⟨none,0,none,0,none,0,none,0⟩,0⟩
def eu (l:List Ob) (k:Nat):Ob:=l.getD k ob0
def lV (o:Ob):Array Value:=#[.string o.i.name,.slice o.a.an o.i.needs.length o.a.cn,.slice o.a.ag o.i.dw.length o.a.cg,.slice o.a.ay o.i.syms.length o.a.cy,.slice o.a.ar o.i.fV.length o.a.cr,I o.i.entry,I o.base]
def Uu (w:World) (b off:Nat) (l:List Ob):Prop:=∀k,k<l.length ->
 (w.cell? (Ad b (off+k*7))=some (.string (eu l k).i.name)/\w.cell? (Ad b (off+k*7+1))=some (.slice (eu l k).a.an (eu l k).i.needs.length (eu l k).a.cn) /\
  w.cell? (Ad b (off+k*7+2))=some (.slice (eu l k).a.ag (eu l k).i.dw.length (eu l k).a.cg)/\w.cell? (Ad b (off+k*7+3))=some (.slice (eu l k).a.ay (eu l k).i.syms.length (eu l k).a.cy) /\
  w.cell? (Ad b (off+k*7+4))=some (.slice (eu l k).a.ar (eu l k).i.fV.length (eu l k).a.cr)/\w.cell? (Ad b (off+k*7+5))=some (I (eu l k).i.entry)/\w.cell? (Ad b (off+k*7+6))=some (I (eu l k).base))/\M.nX w (eu l k).a (eu l k).i
theorem adj {w w':World} {b off:Nat} {l:List Ob} (hb:Below w.heap.size w w') (hlt:b<w.heap.size) (h:Uu w b off l):Uu w' b off l:=fun k hk=>by
 obtain⟨⟨c0,c1,c2,c3,c4,c5,c6⟩,hi⟩:=h k hk;exact⟨⟨(M.br hb hlt).trans c0,(M.br hb hlt).trans c1,(M.br hb hlt).trans c2,(M.br hb hlt).trans c3,(M.br hb hlt).trans c4,(M.br hb hlt).trans c5,(M.br hb hlt).trans c6⟩,hi.below hb⟩
def QD (w:World) (ao:Option Addr) (l:List Ob):Prop:=M.fy Uu w ao l
theorem QD.below {w w':World} {ao:Option Addr} {l:List Ob} (h:QD w ao l) (hb:Below w.heap.size w w'):QD w' ao l:=M.fy.below (lie:=Uu) (fun hb hlt h=>adj hb hlt h) h hb
def nA (i:M.Im):M.Sg:=M.dN i.dw (i.dw.length-1)
def AO (o:Ob):Int:=o.base+(nA o.i).page+(nA o.i).aJ
def wV (o:Ob) (DR:Int):Int:=o.base*16+DR
def tE (s:M.Sg):Int:=if s.wr then (if s.ex then 3 else 1) else (if s.ex then 2 else 0)
theorem oV {i:M.Im} (hc:M.kq i=0) (k:Nat) (hk:k<i.dw.length):0<=(M.dN i.dw k).page/\1<=(M.dN i.dw k).aJ/\(M.dN i.dw k).page+(M.dN i.dw k).aJ<=255/\((M.dN i.dw k).data.size:Int)<=(M.dN i.dw k).aJ*16:=by
 unfold M.kq at hc;split at hc
 · simp at hc
 · split at hc
   · simp at hc
   · split at hc
     · simp at hc
     · rename_i h
       have h':M.CN i=true:=by simpa using h
       unfold M.CN at h';have:=M.zX M.fZ M.QS i.dw k hk h';unfold M.fZ at this;exact of_decide_eq_true this
theorem counts_of {i:M.Im} (hc:M.kq i=0):1<=i.dw.length/\i.dw.length<=6/\i.needs.length<=4/\i.syms.length<=12/\i.fV.length<=16:=by
 unfold M.kq at hc;split at hc
 · simp at hc
 · split at hc
   · simp at hc
   · rename_i h
     have h':M.qY i=true:=by simpa using h
     unfold M.qY at h';exact of_decide_eq_true h'
theorem vY {i:M.Im} (hc:M.kq i=0):0<=(nA i).page/\1<=(nA i).aJ/\(nA i).page+(nA i).aJ<=255:=by
 have h1:=counts_of hc;have h2:=oV hc (i.dw.length-1) (by omega);exact⟨h2.1,h2.2.1,h2.2.2.1⟩
end LM
namespace LW
open Go.RowKit
open W (ai)
theorem jC (o:LM.Ob) (w:World) (h:M.nX w o.a o.i) (hc:M.kq o.i=0) (h0:0<=o.base) (h1:o.base<=100000) :
  Calls Tryz.prog 134 #[.agg (LM.lV o)] w fun e w'=>e=.returned (I (LM.AO o))/\Below w.heap.size w w':=by
 have hl:=LM.vY hc;have hn:=LM.counts_of hc;have HS:=h.dw;obtain⟨⟨nm,ns,gs,ys,rs,en⟩,⟨an,cn,ag,cg,ay,cy,ar,cr⟩,ba⟩:=o;simp only[LM.lV];simp only at HS hn h0 h1;obtain⟨b,off,hag,hbl,bN⟩:=HS (by omega);subst hag;have E:Hid (LM.AO ⟨⟨nm,ns,gs,ys,rs,en⟩,⟨an,cn,some (Ad b off),cg,ay,cy,ar,cr⟩,ba⟩=ba+(M.dN gs (gs.length-1)).page+(M.dN gs (gs.length-1)).aJ):=rfl;have hl':0<=(M.dN gs (gs.length-1)).page/\1<=(M.dN gs (gs.length-1)).aJ/\(M.dN gs (gs.length-1)).page+(M.dN gs (gs.length-1)).aJ<=255:=hl;obtain⟨c0,c1,c2,c3,c4⟩:=bN (gs.length-1) (by omega);rw[E.o];obtain⟨s,hs⟩:=ex (M.dN gs (gs.length-1));rw[<- hs] at c0 c1 c2 c3 c4 hl';rw[<- hs];clear hs hl bN HS h E;obtain⟨G,hG⟩:=ex gs.length;rw[<- hG] at c0 c1 c2 c3 c4 hn;rw[<- hG];clear hG hc;have hG1:(1:Int)<=(G:Int):=by omega
 have hG2:0<G:=by omega
 have HB:=ai ((Below.refl w.heap.size w).alloc (Nat.le_refl _) (.cells #[.string nm,.slice an ns.length cn,.slice (some (Ad b off)) G cg,.slice ay ys.length cy,.slice ar rs.length cr,I en,I ba] 195));go_enter Tryz.func134,Tryz.ntmps134;go_wp2;go_ret;exact⟨rfl,HB.o.alloc HB.o.size _⟩
theorem FT (o:LM.Ob) (DR:Int) (w:World) (h0:0<=o.base) (h1:o.base<=100000) (h2:0<=DR) (h3:DR<=100000) :
  Calls Tryz.prog 137 #[.agg (LM.lV o),I DR] w fun e w'=>e=.returned (I (LM.wV o DR))/\Below w.heap.size w w':=by
 obtain⟨⟨nm,ns,gs,ys,rs,en⟩,⟨an,cn,ag,cg,ay,cy,ar,cr⟩,ba⟩:=o;simp only[LM.lV,LM.wV];simp only at h0 h1;go_enter Tryz.func137,Tryz.ntmps137;go_wp2;go_ret;exact⟨rfl,(Below.refl _ _).alloc (Nat.le_refl _) _⟩
theorem N0 (s:M.Sg) (w:World) :
  Calls Tryz.prog 164 #[.agg #[I s.page,I s.aJ,.string s.data,.bool s.wr,.bool s.ex]] w fun e w'=>e=.returned (I (LM.tE s))/\Below w.heap.size w w':=by
 obtain⟨pg,pn,dt,wr,ex⟩:=s;have b1:bits BinOp.or IntKind.i64 0 1=1:=by decide
 have b2:bits BinOp.or IntKind.i64 0 2=2:=by decide
 have b3:bits BinOp.or IntKind.i64 1 2=3:=by decide
 cases wr <;> cases ex
 all_goals
  go_enter Tryz.func164,Tryz.ntmps164;go_wp2;go_ret;exact⟨fU (by first | rfl | simp[LM.tE,b1,b2,b3]),(Below.refl _ _).alloc (Nat.le_refl _) _⟩
end LW
namespace W
open Go.RowKit
theorem xm (i:M.Im) (a:M.At) (w:World) (hf:M.Fit i):Calls Tryz.prog 176 #[.agg (M.fK a i)] w fun e w'=>e=.returned (.bool (M.qY i))/\Below w.heap.size w w':=by
 obtain⟨an,cn,ag,cg,ay,cy,ar,cr⟩:=a;obtain⟨nm,ns,gs,ys,rs,en⟩:=i;obtain⟨f1,f2,f3,f4,f5,f6,f7,f8,f9,f10⟩:=hf;simp only at f2 f4 f6 f8;unfold M.bD at f2 f4 f6 f8;simp only[M.fK,M.qY];have bR:∀o,Hid (Below w.heap.size w (w.alloc o)):=fun o=>(Below.refl w.heap.size w).alloc (Nat.le_refl _) o
 obtain⟨r,hr⟩:=ex (decide (1<=gs.length/\gs.length<=6/\ns.length<=4/\ys.length<=12/\rs.length<=16));rw[<- hr];have HR:=ai hr;clear hr f1 f3 f5 f7 f9 f10;obtain⟨ln,Gj⟩:∃n,n=ns.length:=⟨_,rfl⟩;obtain⟨lg,L1⟩:∃n,n=gs.length:=⟨_,rfl⟩;obtain⟨ly,Ww⟩:∃n,n=ys.length:=⟨_,rfl⟩;obtain⟨lr,hlr⟩:∃n,n=rs.length:=⟨_,rfl⟩;rw[<- Gj,<- L1,<- Ww,<- hlr] at HR;rw[<- Gj,<- L1,<- Ww,<- hlr];rw[<- Gj] at f2;rw[<- L1] at f4;rw[<- Ww] at f6;rw[<- hlr] at f8;clear Gj L1 Ww hlr;by_cases d1:1<=(lg:Int)
 · by_cases d2:(lg:Int)<=6
   · by_cases d3:(ln:Int)<=4
     · by_cases d4:(ly:Int)<=12
       · by_cases d5:(lr:Int)<=16
         · have e:r=true:=by rw[HR.o];exact decide_eq_true (by omega)
           subst e;have q1:1<=lg:=by omega
           have q2:lg<=6:=by omega
           have q3:ln<=4:=by omega
           have q4:ly<=12:=by omega
           have q5:lr<=16:=by omega
           go_enter Tryz.func176,Tryz.ntmps176;go_wp2;go_ret;exact⟨rfl,(bR _).out⟩
         · have e:r=false:=by rw[HR.o];exact decide_eq_false (by omega)
           subst e;have q1:1<=lg:=by omega
           have q2:lg<=6:=by omega
           have q3:ln<=4:=by omega
           have q4:ly<=12:=by omega
           have q5:decide ((lr:Int)<=16)=false:=decide_eq_false d5;have q6:decide (lr<=16)=false:=decide_eq_false (by omega);have q7:¬lr<=16:=by omega
           go_enter Tryz.func176,Tryz.ntmps176;go_wp2;go_ret;exact⟨rfl,(bR _).out⟩
       · have e:r=false:=by rw[HR.o];exact decide_eq_false (by omega)
         subst e;have q1:1<=lg:=by omega
         have q2:lg<=6:=by omega
         have q3:ln<=4:=by omega
         have q4:decide ((ly:Int)<=12)=false:=decide_eq_false d4;have q6:decide (ly<=12)=false:=decide_eq_false (by omega);have q7:¬ly<=12:=by omega
         go_enter Tryz.func176,Tryz.ntmps176;go_wp2;go_ret;exact⟨rfl,(bR _).out⟩
     · have e:r=false:=by rw[HR.o];exact decide_eq_false (by omega)
       subst e;have q1:1<=lg:=by omega
       have q2:lg<=6:=by omega
       have q4:decide ((ln:Int)<=4)=false:=decide_eq_false d3;have q6:decide (ln<=4)=false:=decide_eq_false (by omega);have q7:¬ln<=4:=by omega
       go_enter Tryz.func176,Tryz.ntmps176;go_wp2;go_ret;exact⟨rfl,(bR _).out⟩
   · have e:r=false:=by rw[HR.o];exact decide_eq_false (by omega)
     subst e;have q1:1<=lg:=by omega
     have q4:decide ((lg:Int)<=6)=false:=decide_eq_false d2;have q6:decide (lg<=6)=false:=decide_eq_false (by omega);have q7:¬lg<=6:=by omega
     go_enter Tryz.func176,Tryz.ntmps176;go_wp2;go_ret;exact⟨rfl,(bR _).out⟩
 · have e:r=false:=by rw[HR.o];exact decide_eq_false (by omega)
   subst e;have q4:decide ((1:Int)<=(lg:Int))=false:=decide_eq_false d1;obtain rfl:lg=0:=by omega
   go_enter Tryz.func176,Tryz.ntmps176;go_wp2;go_ret;exact⟨rfl,(bR _).out⟩
theorem xj (l:List M.Sg) (ao:Option Addr) (cap:Nat) (w:World) (h:M.fy M.zY w ao l) (hn:M.bD l.length) (hf:∀k,k<l.length->M.abF (M.dN l k)) :
  Calls Tryz.prog 177 #[.slice ao l.length cap] w fun e w'=>e=.returned (.bool (l.all M.fZ))/\Below w.heap.size w w':=by
 unfold M.bD at hn;have H:=ai h;have F:=ai hf;clear h hf;go_enter Tryz.func177,Tryz.ntmps177;go_wp2;go_loopw [7] (fun i wr=>∃k:Nat,k<=l.length/\i=I k/\(∀j,j<k->M.fZ (M.dN l j)=true)/\Below w.heap.size w wr) (fun i _=>l.length-(intOf i).toNat)
 case atStart=>exact⟨0,by omega,rfl,fun j h=>by omega,Below.refl _ _⟩
 case round =>
  obtain⟨k,hk,rfl,hall,hb⟩:=hrel;have HA:=ai hall;have HB:=ai hb;clear hall;by_cases hlt:k<l.length
  · obtain⟨b,off,hao,hbl,hl⟩:=H.o (by omega);subst hao;obtain⟨c0,c1,c2,c3,c4⟩:=M.yV hb hbl hl k hlt;obtain⟨g1,g2,g3⟩:=F.o k hlt;obtain⟨s,hs⟩:=ex (M.dN l k);rw[<- hs] at c0 c1 c2 c3 c4 g1 g2 g3;have HS:=ai hs;clear hs hb hl;obtain⟨p,n,d,x,y⟩:=s;simp only at c0 c1 c2 c3 c4 g1 g2 g3;unfold M.gu at g1 g2;unfold M.bD at g3;have oJ:d.size<=maxLen:=by unfold maxLen;omega
    have Ah:(k:Int)<(l.length:Int):=by omega
    have hbad:Hid (¬(0<=p/\1<=n/\p+n<=255/\(d.size:Int)<=n*16)->l.all M.fZ=false):=fun hx =>
     M.all_false M.fZ M.QS l k hlt (by show M.fZ (M.dN l k)=false;rw[<- HS.o];exact decide_eq_false hx)
    by_cases d1:0<=p
    · have d1':¬p<0:=by omega
      by_cases d2:1<=n
      · have d2':¬n<1:=by omega
        by_cases d3:p+n<=255
        · have d3':¬255-p<n:=by omega
          by_cases d4:(d.size:Int)<=n*16
          · have d4':¬n*16<(d.size:Int):=by omega
            have ZV:Hid (M.fZ ⟨p,n,d,x,y⟩=true):=decide_eq_true ⟨d1,d2,d3,d4⟩;go_wp2;go_roundw
            case rel=>exact⟨k+1,by omega,by go_num,fun j h=>if e:j=k then by rw[e,<- HS.o];exact ZV.out else HA.o j (by omega),HB.o.alloc HB.o.size _⟩
            case measure=>simp[intOf];omega
          · have d4':n*16<(d.size:Int):=by omega
            have HR:=ai (hbad.out (by omega));go_wp2;go_ret;exact⟨bY HR.o.symm,HB.o.alloc HB.o.size _⟩
        · have d3':255-p<n:=by omega
          have HR:=ai (hbad.out (by omega));go_wp2;go_ret;exact⟨bY HR.o.symm,HB.o.alloc HB.o.size _⟩
      · have d2':n<1:=by omega
        have HR:=ai (hbad.out (by omega));go_wp2;go_ret;exact⟨bY HR.o.symm,HB.o.alloc HB.o.size _⟩
    · have d1':p<0:=by omega
      have HR:=ai (hbad.out (by omega));go_wp2;go_ret;exact⟨bY HR.o.symm,HB.o.alloc HB.o.size _⟩
  · obtain rfl:k=l.length:=by omega
    have HR:=ai (M.all_true M.fZ M.QS l (fun j hj=>HA.o j hj));clear hb;go_wp2;go_ret;exact⟨bY HR.o.symm,HB.o⟩
theorem Le (l:List M.Sg) (k n:Nat) (h:M.mI l k=false) (hk:k<=n):M.mI l n=false:=by
 induction n with
 | zero => obtain rfl:k=0 := by omega
           exact h
 | succ n ih =>
  rcases Nat.lt_or_ge n k with g | g
  · obtain rfl:k=n+1:=by omega
    exact h
  · simp only[M.mI];rw[ih g];rfl
theorem Qt (l:List M.Sg) (k:Nat) (hk:k<l.length) (h:M.mI l (k+1)=false):M.vg l=false:=Le l (k+1) l.length h hk
theorem EI (l:List M.Sg) (ao:Option Addr) (cap:Nat) (w:World) (h:M.fy M.zY w ao l) (hn:M.bD l.length) (hr:l.all M.fZ=true) :
  Calls Tryz.prog 178 #[.slice ao l.length cap] w fun e w'=>e=.returned (.bool (!M.vg l))/\Below w.heap.size w w':=by
 unfold M.bD at hn;have H:=ai h;have F:=ai hr;clear h hr;go_enter Tryz.func178,Tryz.ntmps178;go_wp2;go_loopw [3] (fun i wr=>∃k:Nat,1<=k/\(k<=l.length∨k=1)/\i=I k/\M.mI l k=true/\Below w.heap.size w wr) (fun i _=>l.length-(intOf i).toNat)
 case atStart=>exact⟨1,by omega,.inr rfl,rfl,rfl,Below.refl _ _⟩
 case round =>
  obtain⟨k,hk1,hk,rfl,hall,hb⟩:=hrel;have HA:=ai hall;have HB:=ai hb;clear hall;by_cases hlt:k<l.length
  · obtain⟨b,off,hao,hbl,hl⟩:=H.o (by omega);subst hao;obtain⟨c0,c1,c2,c3,c4⟩:=M.yV hb hbl hl k hlt;obtain⟨e0,e1,e2,e3,e4⟩:=M.yV hb hbl hl (k-1) (by omega);have g1:0<=(M.dN l (k-1)).page/\1<=(M.dN l (k-1)).aJ/\(M.dN l (k-1)).page+(M.dN l (k-1)).aJ<=255/\_:=of_decide_eq_true (M.zX M.fZ M.QS l (k-1) (by omega) F.o);have hov:Hid (M.mI l (k+1)=decide ((M.dN l (k-1)).page+(M.dN l (k-1)).aJ<=(M.dN l k).page)):=by
     show _=_;simp only[M.mI,HA.o,Bool.true_and,M.N7];rw[show(k==0)=false from by simp;omega,Bool.false_or]
    obtain⟨s,hs⟩:=ex (M.dN l k);obtain⟨t,ht⟩:=ex (M.dN l (k-1));rw[<- hs] at c0 c1 c2 c3 c4 hov;rw[<- ht] at e0 e1 e2 e3 e4 g1 hov;clear hs ht hb hl;obtain⟨sp,sn,sd,sx,sy⟩:=s;obtain⟨tp,tn,td,tx,ty⟩:=t;simp only at c0 c1 c2 c3 c4 e0 e1 e2 e3 e4 g1 hov;obtain⟨g1,g2,g3,g4⟩:=g1;clear c1 c2 c3 c4 e2 e3 e4 g4;have Ah:(k:Int)<(l.length:Int):=by omega
    have j3:=Q.dE wr;have hkc:=@Q.cV wr;have hbr:b<wr.heap.size:=Nat.lt_of_lt_of_le hbl HB.o.size;have k0:∀x:Q.ez wr.heap.size wr,x.world.cell? (Ad b (off+k*5))=some (I sp):=fun x=>by rw[hkc x _ _ hbr,c0]
    have k1:∀x:Q.ez wr.heap.size wr,x.world.cell? ⟨b,off+(k-1)*5,none⟩=some (I tp):=fun x=>by rw[hkc x _ _ hbr,e0]
    have k2:∀x:Q.ez wr.heap.size wr,x.world.cell? ⟨b,off+(k-1)*5+1,none⟩=some (I tn):=fun x=>by rw[hkc x _ _ hbr,e1]
    clear hkc c0 e0 e1;by_cases d:sp<tp+tn
    · have hno:Hid (M.mI l (k+1)=false):=by show _=_;rw[hov.out];exact decide_eq_false (by omega)
      go_wp2;refine Q.bu (by kernel_rfl) (by kernel_rfl) ?_
      repeat (first | go_big_quiet_step (fail) | quiet_step (fail))
      refine wpQuiet_nil ?_;intro _ hw';obtain⟨x,hw''⟩:=hw';subst hw'';go_wp2;go_ret;exact⟨bY (by rw[Qt l k hlt hno.out];rfl),HB.o.trans (x.keeps.mono HB.o.size)⟩
    · have O5:Hid (M.mI l (k+1)=true):=by show _=_;rw[hov.out];exact decide_eq_true (by omega)
      go_wp2;refine Q.bu (by kernel_rfl) (by kernel_rfl) ?_
      repeat (first | go_big_quiet_step (fail) | quiet_step (fail))
      refine wpQuiet_nil ?_;intro _ hw';obtain⟨x,hw''⟩:=hw';subst hw'';go_wp2;go_roundw
      case rel=>exact⟨k+1,by omega,.inl (by omega),by go_num,O5.out,HB.o.trans (x.keeps.mono HB.o.size)⟩
      case measure=>simp[intOf];omega
  · have HR:Hid (M.vg l=true):=by
     show _=_;unfold M.vg;rcases hk with hk | hk
     · rw[show l.length=k by omega];exact HA.o
     · rcases Nat.lt_or_ge l.length 1 with h0 | h0
       · rw[show l.length=0 by omega];rfl
       · rw[show l.length=k by omega];exact HA.o
    have hge:¬(k:Int)<(l.length:Int):=by omega
    clear hb;go_wp2;go_ret;exact⟨bY (by rw[HR.o];rfl),HB.o⟩
def sS (s:M.Sg):Array Value:=#[I s.page,I s.aJ,.string s.data,.bool s.wr,.bool s.ex]
def yg (l:List M.Sg) (a:Int):M.Sg:=(M.mE l a).getD M.QS
theorem rZ:∀(l:List M.Sg) (a:Int),(∀j,j<l.length->M.nD (M.dN l j) a=false)->M.mE l a=none
 | [],_,_=>rfl
 | s::r,a,h=>by
  have h0:M.nD s a=false:=h 0 (by simp);unfold M.mE;rw[h0,if_neg (by simp)];exact rZ r a (fun j hj=>h (j+1) (by simpa using hj))
theorem rY:∀(l:List M.Sg) (a:Int) (k:Nat),k<l.length->(∀j,j<k->M.nD (M.dN l j) a=false)->M.nD (M.dN l k) a=true->M.mE l a=some (M.dN l k)
 | s::r,a,0,_,_,h=>by
  have h0:M.nD s a=true:=h;unfold M.mE;rw[h0,if_pos rfl];rfl
 | s::r,a,k+1,hk,hj,h=>by
  have h0:M.nD s a=false:=hj 0 (by omega);unfold M.mE;rw[h0,if_neg (by simp)];exact rY r a k (by simpa using hk) (fun j h=>hj (j+1) (by omega)) h
theorem EC {l:List M.Sg} (h:l.all M.fZ=true) (k:Nat) (hk:k<l.length):0<=(M.dN l k).page/\1<=(M.dN l k).aJ/\(M.dN l k).page+(M.dN l k).aJ<=255/\((M.dN l k).data.size:Int)<=(M.dN l k).aJ*16 :=
 of_decide_eq_true (M.zX M.fZ M.QS l k hk h)
theorem K6 {l:List M.Sg} (h:l.all M.fZ=true) (a:Int) (ha:a<0):M.mE l a=none :=
 rZ l a (fun j hj=>by
  have:=EC h j hj;exact decide_eq_false (by omega))
theorem CH {a b:M.Sg} {x y:Bool} (h:a=b) (g:x=y):Ending.returned (.tuple #[.agg (sS a),.bool x])=.returned (.tuple #[.agg (sS b),.bool y]):=by rw[h,g]
theorem qC (l:List M.Sg) (ao:Option Addr) (cap:Nat) (a:Int) (w:World) (h:M.fy M.zY w ao l) (hn:M.bD l.length) (hr:l.all M.fZ=true) (ha:M.gu a) :
  Calls Tryz.prog 199 #[.slice ao l.length cap,I a] w fun e w'=>e=.returned (.tuple #[.agg (sS (yg l a)),.bool (M.eD l a)])/\Below w.heap.size w w':=by
 unfold M.bD at hn;unfold M.gu at ha;have H:=ai h;have F:=ai hr;clear h hr;by_cases h0:a<0
 · have HN:=ai (K6 F.o a h0);have HZ:=ai ((Below.refl w.heap.size w).alloc (Nat.le_refl _) (.cells #[I 0,I 0,.string ⟨#[]⟩,.bool false,.bool false] 145));go_enter Tryz.func199,Tryz.ntmps199;go_wp2;exact bodyPost_ret (v:=.tuple #[.agg #[I 0,I 0,.string ⟨#[]⟩,.bool false,.bool false],.bool false]) (by simp[results,Tryz.results199,go_sem]) rfl ⟨CH (a:=M.QS) (x:=false) (by unfold yg;rw[HN.o];rfl) (by unfold M.eD;rw[HN.o];rfl),HZ.o⟩
 · have h0':0<=a:=by omega
   have hbz:Below w.heap.size w (w.alloc (.cells #[I 0,I 0,.string ⟨#[]⟩,.bool false,.bool false] 145)):=(Below.refl _ _).alloc (Nat.le_refl _) _;have HZ:=ai hbz;clear hbz;go_enter Tryz.func199,Tryz.ntmps199;go_wp2;go_loopw [16] (fun i wr=>∃k:Nat,k<=l.length/\i=I k/\(∀j,j<k->M.nD (M.dN l j) a=false)/\Below (w.heap.size+1) (w.alloc (.cells #[I 0,I 0,.string ⟨#[]⟩,.bool false,.bool false] 145)) wr) (fun i _=>l.length-(intOf i).toNat)
   case atStart=>exact⟨0,by omega,rfl,fun j hj=>by omega,Below.refl _ _⟩
   case round =>
    obtain⟨k,hk,rfl,hno,hb⟩:=hrel;have HN:=ai hno;have HB:=ai hb;have ek:Hid (Below w.heap.size w wr):=HZ.o.trans (hb.mono (Nat.le_succ _));have hsz:w.heap.size+1<=wr.heap.size:=by have:=hb.size;simpa using this
    have HR:=ai (B.below (B.new w #[I 0,I 0,.string ⟨#[]⟩,.bool false,.bool false] 145) hb (Nat.lt_succ_self _));clear hno hb;by_cases hlt:k<l.length
    · obtain⟨b,off,hao,hbl,hl⟩:=H.o (by omega);subst hao;obtain⟨c0,c1,c2,c3,c4⟩:=M.yV ek.out hbl hl k hlt;obtain⟨g1,g2,g3,g4⟩:=EC F.o k hlt;obtain⟨s,hs⟩:=ex (M.dN l k);rw[<- hs] at c0 c1 c2 c3 c4 g1 g2 g3 g4;have HS:=ai hs;clear hs hl;obtain⟨p,n,d,x,y⟩:=s;simp only at c0 c1 c2 c3 c4 g1 g2 g3 g4;have oJ:d.size<=maxLen:=by unfold maxLen;omega
      have Ah:(k:Int)<(l.length:Int):=by omega
      clear g4;by_cases d1:p<=a/16
      · by_cases d2:a/16<p+n
        · have hin:Hid (M.nD (M.dN l k) a=true):=by show _=_;rw[<- HS.o];exact decide_eq_true (show p*16<=a/\a<(p+n)*16 by omega)
          have t0:=B.cell (B.alloc HR.o (.cells #[I p,I n,.string d,.bool x,.bool y] 145)) 0 rfl;have t1:=B.cell (B.alloc HR.o (.cells #[I p,I n,.string d,.bool x,.bool y] 145)) 1 rfl;have t2:=B.cell (B.alloc HR.o (.cells #[I p,I n,.string d,.bool x,.bool y] 145)) 2 rfl;have t3:=B.cell (B.alloc HR.o (.cells #[I p,I n,.string d,.bool x,.bool y] 145)) 3 rfl;have t4:=B.cell (B.alloc HR.o (.cells #[I p,I n,.string d,.bool x,.bool y] 145)) 4 rfl;have u0:=B.free (B.alloc HR.o (.cells #[I p,I n,.string d,.bool x,.bool y] 145));have Gn:=ai (ek.out.alloc ek.out.size (.cells #[I p,I n,.string d,.bool x,.bool y] 145));go_wp2;exact bodyPost_ret (v:=.tuple #[.agg #[I p,I n,.string d,.bool x,.bool y],.bool true]) (by simp[results,Tryz.results199,go_sem,t0,t1,t2,t3,t4]) rfl ⟨CH (a:=⟨p,n,d,x,y⟩) (x:=true) (by unfold yg;rw[rY l a k hlt HN.o hin.out];exact HS.o) (by unfold M.eD;rw[rY l a k hlt HN.o hin.out];rfl),(((((Gn.o.setCell (Nat.le_refl _) _).setCell (Nat.le_refl _) _).setCell (Nat.le_refl _) _).setCell (Nat.le_refl _) _).setCell (Nat.le_refl _) _)⟩
        · have pD:Hid (M.nD (M.dN l k) a=false):=by show _=_;rw[<- HS.o];exact decide_eq_false (show ¬(p*16<=a/\a<(p+n)*16) by omega)
          go_wp2;go_roundw
          case rel=>exact⟨k+1,by omega,by go_num,fun j hj=>if e:j=k then by rw[e];exact pD.out else HN.o j (by omega),HB.o.alloc (by simpa using hsz) _⟩
          case measure=>simp[intOf];omega
      · have pD:Hid (M.nD (M.dN l k) a=false):=by show _=_;rw[<- HS.o];exact decide_eq_false (show ¬(p*16<=a/\a<(p+n)*16) by omega)
        have d1':decide (p<=a/16)=false:=decide_eq_false d1;go_wp2;go_roundw
        case rel=>exact⟨k+1,by omega,by go_num,fun j hj=>if e:j=k then by rw[e];exact pD.out else HN.o j (by omega),HB.o.alloc (by simpa using hsz) _⟩
        case measure=>simp[intOf];omega
    · obtain rfl:k=l.length:=by omega
      have HNo:=ai (rZ l a HN.o);have t0:=B.cell HR.o 0 rfl;have t1:=B.cell HR.o 1 rfl;have t2:=B.cell HR.o 2 rfl;have t3:=B.cell HR.o 3 rfl;have t4:=B.cell HR.o 4 rfl;have u0:=B.free HR.o;go_wp2;exact bodyPost_ret (v:=.tuple #[.agg #[I 0,I 0,.string ⟨#[]⟩,.bool false,.bool false],.bool false]) (by simp[results,Tryz.results199,go_sem,t0,t1,t2,t3,t4]) rfl ⟨CH (a:=M.QS) (x:=false) (by unfold yg;rw[HNo.o];rfl) (by unfold M.eD;rw[HNo.o];rfl),(((((ek.out.setCell (Nat.le_refl _) _).setCell (Nat.le_refl _) _).setCell (Nat.le_refl _) _).setCell (Nat.le_refl _) _).setCell (Nat.le_refl _) _)⟩
theorem jh {l:List M.Sg} (h:l.all M.fZ=true) (a:Int) (hp:M.eD l a=true):0<=a/\a<4080:=by
 induction l with
 | nil=>cases hp
 | cons s r ih =>
  have h':M.fZ s=true/\r.all M.fZ=true:=by simpa using h
  have hs:0<=s.page/\1<=s.aJ/\s.page+s.aJ<=255/\(s.data.size:Int)<=s.aJ*16:=of_decide_eq_true h'.1;unfold M.eD M.mE at hp;cases e:M.nD s a
  · rw[e,if_neg (by simp)] at hp;exact ih h'.2 hp
  · have:=of_decide_eq_true e;omega
theorem xz (i:M.Im) (a:M.At) (w:World) (h:M.nX w a i) (hf:M.Fit i) (hr:i.dw.all M.fZ=true):Calls Tryz.prog 183 #[.agg (M.fK a i)] w fun e w'=>e=.returned (.bool (M.u6 i))/\Below w.heap.size w w':=by
 obtain⟨an,cn,ag,cg,ay,cy,ar,cr⟩:=a;obtain⟨nm,ns,gs,ys,rs,en⟩:=i;obtain⟨h1,h2,h3,h4⟩:=h;obtain⟨f1,f2,f3,f4,f5,f6,f7,f8,f9,f10⟩:=hf;simp only at h1 h2 h3 h4 f1 f2 f3 f4 f5 f6 f7 f8 f9 f10;have F4:=ai f4;unfold M.bD at f2 f4 f6 f8;simp only[M.fK];have H1:=ai h1;have H2:=ai h2;have H3:=ai h3;have H4:=ai h4;have F3:=ai f3;have F7:=ai f7;have F9:=ai f9;have F10:=ai f10;have HG:=ai hr;clear h1 h2 h3 h4 f3 f5 f7 f9 f10 hr;have QR:=ai (B.new w #[.string nm,.slice an ns.length cn,.slice ag gs.length cg,.slice ay ys.length cy,.slice ar rs.length cr,I en] 151);have bR:=ai ((Below.refl w.heap.size w).alloc (Nat.le_refl _) (.cells #[.string nm,.slice an ns.length cn,.slice ag gs.length cg,.slice ay ys.length cy,.slice ar rs.length cr,I en] 151));obtain⟨X,hX⟩:∃X:Array Value,X=#[.string nm,.slice an ns.length cn,.slice ag gs.length cg,.slice ay ys.length cy,.slice ar rs.length cr,I en]:=⟨_,rfl⟩;have HX:=ai hX;rw[<- hX] at QR bR;clear hX;have bx2:=B.cell QR.o 2 (by rw[HX.o];rfl);have bx5:=B.cell QR.o 5 (by rw[HX.o];rfl);have aeG:=F10.o;unfold M.gu at aeG;have HE:Hid (M.u6 ⟨nm,ns,gs,ys,rs,en⟩=(M.eD gs en&&((yg gs en).ex&&decide (en%8=0)))):=by
  show _=_;unfold M.u6 M.eD yg;simp only;cases M.mE gs en <;> rfl
 rw[HE.o];have hpb:M.eD gs en=true->0<=en:=fun h=>(jh HG.o en h).1
 obtain⟨sg,hsg⟩:=ex (yg gs en);obtain⟨pb,xw⟩:=ex (M.eD gs en);have HS:=ai hsg;have HP:=ai xw;rw[<- xw] at hpb;rw[<- hsg,<- xw];obtain⟨sp,sn,sd,sx,sy⟩:=sg;simp only;clear HE hsg xw;cases pb
 · clear hpb;go_enter Tryz.func183,Tryz.ntmps183;go_wp2_with fail
   rw[<- HX.o];refine(qC gs ag cg en _ (M.fy.below (lie:=M.zY) (fun hb hlt h=>M.yV hb hlt h) H2.o bR.o) F4.o HG.o F10.o).mono ?_;rintro e w2 ⟨rfl,hb2⟩;have cM:=ai (bR.o.trans (hb2.mono bR.o.size));have D7:=ai (B.below QR.o hb2 (B.isLt QR.o));have E2:=B.isLt D7.o;have by5:=B.cell D7.o 5 (by rw[HX.o];rfl);clear hb2;rw[<- HS.o,<- HP.o];simp only[sS];go_wp2;go_ret;exact⟨rfl,cM.o.alloc cM.o.size _⟩
 · have hp:=hpb rfl;clear hpb;cases sy
   · go_enter Tryz.func183,Tryz.ntmps183;go_wp2_with fail
     rw[<- HX.o];refine(qC gs ag cg en _ (M.fy.below (lie:=M.zY) (fun hb hlt h=>M.yV hb hlt h) H2.o bR.o) F4.o HG.o F10.o).mono ?_;rintro e w2 ⟨rfl,hb2⟩;have cM:=ai (bR.o.trans (hb2.mono bR.o.size));have D7:=ai (B.below QR.o hb2 (B.isLt QR.o));have E2:=B.isLt D7.o;have by5:=B.cell D7.o 5 (by rw[HX.o];rfl);clear hb2;rw[<- HS.o,<- HP.o];simp only[sS];go_wp2;go_ret;exact⟨rfl,cM.o.alloc cM.o.size _⟩
   · by_cases d:en%8=0
     · rw[decide_eq_true d];go_enter Tryz.func183,Tryz.ntmps183;go_wp2_with fail
       rw[<- HX.o];refine(qC gs ag cg en _ (M.fy.below (lie:=M.zY) (fun hb hlt h=>M.yV hb hlt h) H2.o bR.o) F4.o HG.o F10.o).mono ?_;rintro e w2 ⟨rfl,hb2⟩;have cM:=ai (bR.o.trans (hb2.mono bR.o.size));have D7:=ai (B.below QR.o hb2 (B.isLt QR.o));have E2:=B.isLt D7.o;have by5:=B.cell D7.o 5 (by rw[HX.o];rfl);clear hb2;rw[<- HS.o,<- HP.o];simp only[sS];go_wp2;go_ret;exact⟨rfl,cM.o.alloc cM.o.size _⟩
     · rw[decide_eq_false d];go_enter Tryz.func183,Tryz.ntmps183;go_wp2_with fail
       rw[<- HX.o];refine(qC gs ag cg en _ (M.fy.below (lie:=M.zY) (fun hb hlt h=>M.yV hb hlt h) H2.o bR.o) F4.o HG.o F10.o).mono ?_;rintro e w2 ⟨rfl,hb2⟩;have cM:=ai (bR.o.trans (hb2.mono bR.o.size));have D7:=ai (B.below QR.o hb2 (B.isLt QR.o));have E2:=B.isLt D7.o;have by5:=B.cell D7.o 5 (by rw[HX.o];rfl);clear hb2;rw[<- HS.o,<- HP.o];simp only[sS];go_wp2;go_ret;exact⟨bY (by simpa using d),cM.o.alloc cM.o.size _⟩
end W
namespace W
open Go.RowKit Go.WideMaps Go.Maps
theorem law:Keyed Tryz.prog 9:=string_keyed Tryz.underlying9
theorem Nr (w:World):(zeroValue 3).run Tryz.prog w=.ok (I 0) w:=by kernel_rfl
def AG (s:ByteArray):Lit:=.string s.data.toList
theorem yY {s t:ByteArray} (h:AG s=AG t):s=t:=by
 unfold AG at h;injection h with h;cases s;cases t;congr 1;exact Array.toList_inj.1 h
theorem JI {s:ByteArray} (h:M.bD s.size):keyOf Tryz.prog 9 (.string s)=some (AG s):=keyOf_string_mk Tryz.underlying9 (by unfold M.bD at h;unfold maxLen;omega)
instance Ze:LawfulBEq ByteArray where
 eq_of_beq {a b} h:=by
  cases a;cases b;congr 1;exact eq_of_beq (α:=Array UInt8) h
 rfl {a}:=by
  cases a;exact beq_self_eq_true (α:=Array UInt8) _
def Cnt (l:List ByteArray) (k:Nat) (D:DataW Unit):Prop:=∀s:ByteArray,D.atKey (AG s) (.lit (.int .i64 0))=.lit (.int .i64 (if (l.take k).contains s then 1 else 0))
theorem Qi (l:List ByteArray):Cnt l 0 (.map []):=fun s=>by simp[DataW.atKey]
theorem rP (l:List ByteArray) (k:Nat) (hk:k<l.length) (s:ByteArray):(l.take (k+1)).contains s=((l.take k).contains s || s==M.lC l k):=by
 rw[List.take_add_one,List.getElem?_eq_getElem hk];have e:M.lC l k=l[k]:=by unfold M.lC;rw[List.getD_eq_getElem?_getD,List.getElem?_eq_getElem hk];rfl
 rw[e];have g:∀(m:List ByteArray) (a:ByteArray),(m++[a]).contains s=(m.contains s || s==a):=fun m a=>by
  rw[Bool.eq_iff_iff];simp
 exact g _ _
theorem Qj {l:List ByteArray} {k:Nat} {D:DataW Unit} (hk:k<l.length) (hD:IsMap D) (h:Cnt l k D):Cnt l (k+1) (D.put (AG (M.lC l k)) (.lit (.int .i64 1))):=fun s=>by
 rw[rP l k hk s];by_cases e:s=M.lC l k
 · subst e;rw[atKey_put_same hD (by trivial)];simp
 · rw[atKey_put_other (fun g=>e (yY g)),h s];have:(s==M.lC l k)=false:=by simpa using e
   rw[this,Bool.or_false]
theorem Lg (l:List ByteArray) (k n:Nat) (h:M.jE l k=false) (hk:k<=n):M.jE l n=false:=by
 induction n with
 | zero => obtain rfl:k=0 := by omega
           exact h
 | succ n ih =>
  rcases Nat.lt_or_ge n k with g | g
  · obtain rfl:k=n+1:=by omega
    exact h
  · simp only[M.jE];rw[ih g];rfl
theorem Ks (l:List ByteArray) (ao:Option Addr) (cap:Nat) (w:World) (h:M.fy M.Qx w ao l) (hn:M.bD l.length) (hf:∀k,k<l.length->M.bD (M.lC l k).size) :
  Calls Tryz.prog 179 #[.slice ao l.length cap] w fun e w'=>e=.returned (.bool (!M.qg l))/\Below w.heap.size w w':=by
 unfold M.bD at hn;have H:=ai h;have F:=ai hf;clear h hf;have hmm:=@run_makeMap Tryz.prog;go_enter Tryz.func179,Tryz.ntmps179;go_wp2;go_loopw [9] (fun i wr=>∃(k:Nat) (D:DataW Unit),k<=l.length/\i=I k/\wr.ownsMap Tryz.prog 9 (plainElem Tryz.prog 3) w.heap.size k D/\Cnt l k D/\M.jE l k=true/\Below w.heap.size w wr) (fun i _=>l.length-(intOf i).toNat)
 case atStart=>exact⟨0,.map [],Nat.zero_le _,rfl,World.ownsMap_made _ _ _ _,Qi l,rfl,(Below.refl _ _).alloc (Nat.le_refl _) _⟩
 case round =>
  obtain⟨k,D,hk,rfl,hown,Z1,E6,hb⟩:=hrel;have HO:=ai E6;have HC:=ai Z1;have HB:=ai hb;have HW:=ai hown;clear E6 Z1;by_cases hlt:k<l.length
  · obtain⟨b,off,hao,hbl,hl⟩:=H.o (by omega);subst hao;have Ah:(k:Int)<(l.length:Int):=by omega
    have c0:=M.Zc hb hbl hl k hlt;have fs:=F.o k hlt;have HCS:=ai (Qj hlt hown.isMap HC.o);have HN:Hid (M.jE l (k+1)=!(l.take k).contains (M.lC l k)):=by show(M.jE l k&&_)=_;rw[HO.o];rfl
    have Z0:=HC.o (M.lC l k);obtain⟨s,hs⟩:=ex (M.lC l k);rw[<- hs] at c0 fs HCS HN Z0;clear hs hb hl;have hkey:=JI fs;obtain⟨c,hrun,hat,_⟩:=hown.lookup_int law Tryz.underlying272 Tryz.underlying3 (Nr _) hkey;rw[Z0] at hat
    have dG:k<maxLen:=by unfold maxLen;omega
    cases hc:(l.take k).contains s
    · rw[hc] at hat HN;have e:c=0:=by injection hat with hat;injection hat with _ hat;exact hat.symm
      subst e;clear hat Z0;go_wp2_with (first | (at_mapUpdate;refine wpList_mapUpdate_own _ rfl _ _ _ 272 rfl 9 3 law Tryz.underlying272 _ w.heap.size k _ rfl HW.o dG _ _ _ rfl rfl hkey _ [] (plainElem_int Tryz.underlying3 (by decide)) ?_) | go_in)
      intro w1 hown1 hgrow1;have R2:=ai (HB.o.grown hgrow1 HB.o.size (fun j hj=>by cases hj;exact Nat.le_refl _));obtain⟨c,Zw,sK,_⟩:=hown1.lookup_int law Tryz.underlying272 Tryz.underlying3 (Nr _) hkey;rw[atKey_put_same HW.o.isMap (by trivial)] at sK;have e:c=1:=by injection sK with sK;injection sK with _ sK;exact sK.symm
      subst e;have uA:=ai hown1;clear sK hown hrun hgrow1 hown1;go_wp2;go_roundw
      case rel=>exact⟨k+1,_,by omega,by go_num,uA.o,HCS.o,HN.o,R2.o⟩
      case measure=>simp[intOf];omega
    · rw[hc] at hat HN;have e:c=1:=by injection hat with hat;injection hat with _ hat;exact hat.symm
      subst e;clear hat Z0;have HR:=ai (Lg l (k+1) l.length HN.o hlt);go_wp2_with (first | (at_mapUpdate;refine wpList_mapUpdate_own _ rfl _ _ _ 272 rfl 9 3 law Tryz.underlying272 _ w.heap.size k _ rfl HW.o dG _ _ _ rfl rfl hkey _ [] (plainElem_int Tryz.underlying3 (by decide)) ?_) | go_in)
      intro w1 hown1 hgrow1;have R2:=ai (HB.o.grown hgrow1 HB.o.size (fun j hj=>by cases hj;exact Nat.le_refl _));obtain⟨c,Zw,sK,_⟩:=hown1.lookup_int law Tryz.underlying272 Tryz.underlying3 (Nr _) hkey;rw[atKey_put_same HW.o.isMap (by trivial)] at sK;have e:c=2:=by injection sK with sK;injection sK with _ sK;exact sK.symm
      subst e;clear sK hown hrun hgrow1 hown1;go_wp2;go_ret;exact⟨bY (by unfold M.qg;rw[HR.o];rfl),R2.o⟩
  · obtain rfl:k=l.length:=by omega
    clear hb;go_wp2;go_ret;exact⟨bY (by unfold M.qg;rw[HO.o];rfl),HB.o⟩
end W
end Go.Proofs.YtpgifpeohlllfaaGreat
