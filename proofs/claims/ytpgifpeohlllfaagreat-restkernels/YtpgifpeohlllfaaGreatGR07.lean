import Derived.Test.YtpgifpeohlllfaaGreatGR06
set_option maxHeartbeats 20000000
set_option linter.unusedVariables false
set_option maxRecDepth 100000
set_option linter.unusedSimpArgs false
namespace Go.Proofs.YtpgifpeohlllfaaGreat
open Go.RowKit
theorem IM {a a':Option Addr} {n n' m m':Nat} (h1:a=a') (h2:n=n') (h3:m=m'):Value.slice a n m=.slice a' n' m':=by grind
theorem K9 (l:List aZ) (hs:List bR) (en:Int) (va:Value) (ao:Option Addr) (cap:Nat) (w:World) (ha:fu w va l) (hc:bB l=0) (h:fX w ao hs) (hn:hs.length<=140737488351232) (hcap:hs.length<=cap) :
  Calls Tryz.prog 100 #[.agg #[va,.slice ao hs.length cap,I en]] w fun e w'=>e=.returned (.bool (jC l hs))/\Below w.heap.size w w':=by
 obtain⟨b,off,hbo⟩:∃b off,0<hs.length->ao=some (Ad b off)/\b<w.heap.size/\F9 w b off hs:=by
  by_cases h0:0<hs.length
  · obtain⟨b,off,h1,h2,h3⟩:=h h0
    grind
  simp_all
 have HBO:=aA hbo;have HC:=aA hc;have hlen:=kO l hc;obtain⟨aa,ca,rfl,hal⟩:=ha;have HAL:Hid (0<l.length->∃b off,aa=some (Ad b off)/\oI w b off l):=fun g=>by
  grind
 clear hbo hc h hal;have HB:=aA ((aK w.heap.size w).alloc (aI _) (.cells #[.slice aa l.length ca,.slice ao hs.length cap,I en] 30));go_enter Tryz.func100,Tryz.ntmps100;go_wp2;go_loopw [12,3] (fun ix v wr=>∃(i c:Nat) (ao':Option Addr),i<=l.length/\ix=I i/\v=.slice ao' (hs.length-c) (cap-c)/\c<=hs.length/\(c<hs.length->ao'=some (Ad b (off+c*3)))/\(hs.take c).map (·.page)=fq l i/\Below w.heap.size w wr) (fun ix _ _=>l.length-(intOf ix).toNat)
 case atStart=>exact⟨0,0,ao,by omega,rfl,rfl,by omega,fun g=>by grind [Hid.o],rfl,HB.o⟩
 case round =>
  obtain⟨i,c,ao',hi,rfl,rfl,hcl,hao,htk,hb⟩:=hrel;have HAO:=aA hao;have HTK:=aA htk;have qL:=aA hb;clear hao htk;by_cases hlt:i<l.length
  · obtain⟨ba,arb,hae,hl⟩:=HAL.o (by omega);subst hae;obtain⟨c0,c1,c2,c3⟩:=(hl.below hb) i hlt;have hbk:=fG l i (fw l HC.o i hlt);have uT:Hid (∀n,n<(bl l i).bC.toNat->∃t,mH l=(fq l i++jH (bl l i) n)++((bl l i).page+(n:Int))::t):=fun n hn=>Lm l i hlt n hn
    have qH:Hid (fq l (i+1)=fq l i++jH (bl l i) (bl l i).bC.toNat):=rfl;obtain⟨a,hae⟩:=ex (bl l i);rw[<- hae] at c0 c1 c2 c3 hbk uT qH;clear hae hb;obtain⟨P,hP⟩:∃P:Nat,a.bC=(P:Int):=⟨a.bC.toNat,by omega⟩;rw[hP] at c1 hbk uT qH;rw[jn] at uT qH;have fV:=aA (qL.o.alloc qL.o.size (.cells #[I a.page,I (P:Int),I a.fI,.bool a.zero] 47));have BA:=aA (bO wr #[I a.page,I (P:Int),I a.fI,.bool a.zero] 47);go_wp2;go_loopw [18,3] (fun nx v wi=>∃(n c:Nat) (ao':Option Addr),n<=P/\nx=I n/\v=.slice ao' (hs.length-c) (cap-c)/\c<=hs.length/\(c<hs.length->ao'=some (Ad b (off+c*3)))/\(hs.take c).map (·.page)=fq l i++jH a n/\Below w.heap.size w wi/\wi.heap[wr.heap.size]?=some (.cells #[I a.page,I (P:Int),I a.fI,.bool a.zero] 47 (0,0))) (fun nx _ _=>P-(intOf nx).toNat)
    case atStart=>exact⟨0,c,ao',by omega,rfl,rfl,hcl,HAO.o,by rw[HTK.o];simp[jH],fV.o,BA.o⟩
    case round =>
     obtain⟨n,c,ao',hn',rfl,rfl,hcl,hao,htk,hb,hba⟩:=hrel;have HAO:=aA hao;have HTK:=aA htk;have UL:=aA hb;have BAi:=aA hba;have x0:=aB hba 0 rfl;clear hao htk hba;by_cases hlp:n<P
     · obtain⟨t,ht⟩:=uT.o n hlp;have HT:=aA ht;clear ht;by_cases hce:c=hs.length
       · have HX:Hid (jC l hs=false):=Nv (by have h:=HTK.o;rw[hce] at h;exact h) HT.o;have hz:hs.length-c=0:=by omega
         rw[hz];clear hz hce;go_wp2
         go_quiet (fail)
         go_wp2;go_ret;exact⟨fT HX.o.symm,ko UL.o _⟩
       · have acy:c<hs.length:=by omega
         have hcz:(((hs.length-c:Nat):Int)==0)=false:=by simp;omega
         have asA:0<hs.length-c:=by omega
         obtain⟨-,g2,g3⟩:=HBO.o (by omega);obtain⟨d0,d1,d2,d3⟩:=(KI (hb.mono (Nat.le_of_eq rfl)) g2 g3) c acy;have hae:=HAO.o acy;subst hae;have ar3:(1:Int)<=((hs.length-c:Nat):Int):=by omega
         by_cases Vf:(aV hs c).page=a.page+(n:Int)
         · have HX:Hid ((hs.take (c+1)).map (·.page)=fq l i++jH a (n+1)):=by
            show _=_;rw[y8 hs c acy,HTK.o,Vf,sk,rW]
           rw[Vf] at d0;clear Vf d1 d2 d3 hb hce;by_cases hc1:cap-c=1
           · go_wp2
             go_quiet (fail)
             go_wp2;go_roundw
             case rel=>exact⟨n+1,c+1,_,by omega,by go_num,IM rfl (by omega) (by omega),by omega,fun g=>by omega,HX.o,ko UL.o _,BAi.o⟩
             case measure=>simp[intOf];omega
           · go_wp2
             go_quiet (fail)
             go_wp2;go_roundw
             case rel=>exact⟨n+1,c+1,_,by omega,by go_num,IM rfl (by omega) (by omega),by omega,fun g=>by simp[Nat.add_mul,Kb],HX.o,ko UL.o _,BAi.o⟩
             case measure=>simp[intOf];omega
         · have HX:Hid (jC l hs=false):=Nw acy HTK.o HT.o Vf;have hpz:((aV hs c).page==a.page+(n:Int))=false:=by simpa using Vf
           clear Vf d1 d2 d3 hb hce;go_wp2
           go_quiet (fail)
           go_wp2;go_ret;exact⟨fT HX.o.symm,ko UL.o _⟩
     · obtain rfl:n=P:=by omega
       go_wp2;go_roundw
       case rel=>exact⟨i+1,c,ao',by omega,by go_num,rfl,hcl,HAO.o,by rw[qH.o];exact HTK.o,UL.o⟩
       case measure=>simp[intOf];omega
  · obtain rfl:i=l.length:=by omega
    have HX:=aA (Qu hcl HTK.o);go_wp2;go_ret;refine⟨fT ?_,qL.o⟩;rw[HX.o];rw[Bool.eq_iff_iff];simp;omega
open Go.RowKit
theorem FC (l:List aZ) (va vs:Value) (en:Int) (w:World) (ha:fu w va l) (hf:fU l) (hc:bB l=0) (he:eY en) (Av:∃ao n c,va=.slice ao n c) (hvs:∃ao n c,vs=.slice ao n c) :
  Calls Tryz.prog 102 #[.agg #[va,vs,I en]] w fun e w'=>e=.returned (.bool (xO l en))/\Below w.heap.size w w':=by
 have KM:Hid (bh l (en.tdiv 16)=bV l (en.tdiv 16)):=by show _=_;grind [bh]
 have Dk:=aA (Nu l hc (en.tdiv 16));have HE:Hid (xO l en=((bV l (en.tdiv 16)).2&&(decide (2<=(bV l (en.tdiv 16)).1.fI)&&decide (en.tmod 8=0)))):=rfl;have GR:Hid (∀W,Below w.heap.size w W->Calls Tryz.prog 70 #[va,I (en.tdiv 16)] W fun e w'=>e=.returned (.tuple #[.agg (jU (bV l (en.tdiv 16)).1),.bool (bV l (en.tdiv 16)).2])/\Below W.heap.size W w'):=fun W hb=>by
  have h:=uN l va (en.tdiv 16) W (ha.below hb) hf;rw[KM.o] at h;exact h
 obtain⟨r,hr⟩:=ex (bV l (en.tdiv 16));rw[<- hr] at Dk HE GR;clear hr KM ha hf hc;obtain⟨⟨pg,pn,pr,zr⟩,ok⟩:=r;simp only[jU] at GR Dk HE;obtain⟨aa,na,ca,rfl⟩:=Av;obtain⟨ao,no,co,rfl⟩:=hvs;unfold eY at he;have HB:=aA ((aK w.heap.size w).alloc (aI _) (.cells #[.slice aa na ca,.slice ao no co,I en] 30));have BX:=aA (bO w #[.slice aa na ca,.slice ao no co,I en] 30);rw[HE.o];cases ok with
 | false =>
  go_enter Tryz.func102,Tryz.ntmps102;go_wp2_with (go_at_call 70;refine(GR.o _ HB.o).mono ?_;rintro e w1 ⟨rfl,hb⟩;have HB:=aA (HB.o.trans (hb.mono HB.o.size));clear hb)
  go_ret;exact⟨rfl,HB.o.alloc HB.o.size _⟩
 | true =>
  have Ve:=Nr (Dk.o rfl);have b0:bits BinOp.and IntKind.i64 0 2=0:=by decide
  have b1:bits BinOp.and IntKind.i64 1 2=0:=by decide
  have b2:bits BinOp.and IntKind.i64 2 2=2:=by decide
  have b3:bits BinOp.and IntKind.i64 3 2=2:=by decide
  clear Dk;by_cases h8:en.tmod 8=0
  · rcases Ve with rfl | rfl | rfl | rfl
    all_goals
     go_enter Tryz.func102,Tryz.ntmps102;go_wp2_with (go_at_call 70;refine(GR.o _ HB.o).mono ?_;rintro e w1 ⟨rfl,hb⟩;have HB:=aA (HB.o.trans (hb.mono HB.o.size));have BX:=aA (aQ BX.o hb (aT BX.o));have C7:=aT BX.o;have x2:=aB BX.o 2 rfl;clear hb)
     go_ret;exact⟨fT (by simp[h8]),HB.o.alloc HB.o.size _⟩
  · have h8':(en.tmod 8==0)=false:=by grind
    rcases Ve with rfl | rfl | rfl | rfl
    all_goals
     go_enter Tryz.func102,Tryz.ntmps102;go_wp2_with (go_at_call 70;refine(GR.o _ HB.o).mono ?_;rintro e w1 ⟨rfl,hb⟩;have HB:=aA (HB.o.trans (hb.mono HB.o.size));have BX:=aA (aQ BX.o hb (aT BX.o));have C7:=aT BX.o;have x2:=aB BX.o 2 rfl;clear hb)
     go_ret;exact⟨fT (by simp[h8]),HB.o.alloc HB.o.size _⟩
theorem K8 {w:World} {v:Value} {l:List aZ} (h:fu w v l):∃ao n c,v=.slice ao n c:=by
 obtain⟨ao,cap,h,_⟩:=h
 grind
theorem Qn (l:List aZ) (hs:List bR) (en:Int) (va:Value) (ao:Option Addr) (cap:Nat) (w:World) (ha:fu w va l) (hf:fU l) (h:fX w ao hs) (Qc:nk hs) (hcap:hs.length<=cap) (he:eY en) :
  Calls Tryz.prog 53 #[.agg #[va,.slice ao hs.length cap,I en]] w fun e w'=>e=.returned (I (ld l hs en))/\Below w.heap.size w w':=by
 have Ir:Hid (∀W,Below w.heap.size w W->Calls Tryz.prog 98 #[va] W fun e w'=>e=.returned (I (bB l))/\Below W.heap.size W w'):=fun W hb=>qE l va W (ha.below hb) hf
 have HZ:Hid (∀W,Below w.heap.size w W->Calls Tryz.prog 99 #[va] W fun e w'=>e=.returned (.bool (kN l))/\Below W.heap.size W w'):=fun W hb=>Lf l va W (ha.below hb) hf
 have SI:Hid (bB l=0->∀W,Below w.heap.size w W->Calls Tryz.prog 100 #[.agg #[va,.slice ao hs.length cap,I en]] W fun e w'=>e=.returned (.bool (jC l hs))/\Below W.heap.size W w'):=fun hc W hb=>K9 l hs en va ao cap W (ha.below hb) hc (h.below hb) Qc.1 hcap
 have SF:Hid (∀W,Below w.heap.size w W->Calls Tryz.prog 101 #[.slice ao hs.length cap] W fun e w'=>e=.returned (.bool (pQ hs))/\Below W.heap.size W w'):=fun W hb=>Ej hs ao cap W (h.below hb) Qc
 have oD:Hid (bB l=0->∀W,Below w.heap.size w W->Calls Tryz.prog 102 #[.agg #[va,.slice ao hs.length cap,I en]] W fun e w'=>e=.returned (.bool (xO l en))/\Below W.heap.size W w'):=fun hc W hb=>FC l va _ en W (ha.below hb) hf hc he (K8 ha) ⟨_,_,_,rfl⟩
 have HR:Hid (ld l hs en=if bB l=0 then (if !kN l&&(jC l hs&&(pQ hs&&xO l en)) then 0 else 1) else bB l):=rfl;obtain⟨aa,na,ca,rfl⟩:=K8 ha;clear ha hf h Qc hcap he;obtain⟨N,hN⟩:=ex hs.length;rw[<- hN] at SI SF oD;rw[<- hN];obtain⟨z,hz⟩:=ex (kN l);rw[<- hz] at HZ HR;obtain⟨q,hq⟩:=ex (jC l hs);rw[<- hq] at SI HR;obtain⟨s,hs'⟩:=ex (pQ hs);rw[<- hs'] at SF HR;obtain⟨r,hr⟩:=ex (xO l en);rw[<- hr] at oD HR;obtain⟨C,hC⟩:=ex (bB l);rw[<- hC] at Ir SI oD HR;rw[HR.o];clear hN hz hq hs' hr hC HR;have HB:=aA ((aK w.heap.size w).alloc (aI _) (.cells #[.slice aa na ca,.slice ao N cap,I en] 30));have BX:=aA (bO w #[.slice aa na ca,.slice ao N cap,I en] 30);by_cases hc:C=0
 · subst hc;have anU:=aA (SI.o rfl);have anS:=aA (oD.o rfl);clear SI oD;rw[aR rfl];cases z <;> cases q <;> cases s <;> cases r
   all_goals
    go_enter Tryz.func53,Tryz.ntmps53;go_wp2_with (first
     | (go_at_call 98;refine(Ir.o _ HB.o).mono ?_;rintro e w1 ⟨rfl,hb⟩;have HB:=aA (HB.o.trans (hb.mono HB.o.size));have BX:=aA (aQ BX.o hb (aT BX.o));have x0:=aB BX.o 0 rfl;clear hb)
     | (go_at_call 99;refine(HZ.o _ HB.o).mono ?_;rintro e w1 ⟨rfl,hb⟩;have HB:=aA (HB.o.trans (hb.mono HB.o.size));have BX:=aA (aQ BX.o hb (aT BX.o));have x0:=aB BX.o 0 rfl;have x1:=aB BX.o 1 rfl;have x2:=aB BX.o 2 rfl;clear hb)
     | (go_at_call 100;refine(anU.o _ HB.o).mono ?_;rintro e w1 ⟨rfl,hb⟩;have HB:=aA (HB.o.trans (hb.mono HB.o.size));have BX:=aA (aQ BX.o hb (aT BX.o));have x1:=aB BX.o 1 rfl;clear hb)
     | (go_at_call 101;refine(SF.o _ HB.o).mono ?_;rintro e w1 ⟨rfl,hb⟩;have HB:=aA (HB.o.trans (hb.mono HB.o.size));have BX:=aA (aQ BX.o hb (aT BX.o));have x0:=aB BX.o 0 rfl;have x1:=aB BX.o 1 rfl;have x2:=aB BX.o 2 rfl;clear hb)
     | (go_at_call 102;refine(anS.o _ HB.o).mono ?_;rintro e w1 ⟨rfl,hb⟩;have HB:=aA (HB.o.trans (hb.mono HB.o.size));clear hb))
    go_ret;exact⟨rfl,HB.o⟩
 · have hc':(C==0)=false:=by grind
   rw[bf hc];go_enter Tryz.func53,Tryz.ntmps53;go_wp2_with (go_at_call 98;refine(Ir.o _ HB.o).mono ?_;rintro e w1 ⟨rfl,hb⟩;have HB:=aA (HB.o.trans (hb.mono HB.o.size));clear hb)
   go_ret;exact⟨rfl,HB.o⟩
open Go.RowKit
structure jt where
 i:tu
 a:Fu
 base:Int
def afo:jt:=⟨⟨⟨#[]⟩,[],[],[],[],0⟩,⟨none,0,none,0,none,0,none,0⟩,0⟩
def dA (l:List jt) (k:Nat):jt:=l.getD k afo
def mY (o:jt):Array Value:=#[.string o.i.name,.slice o.a.an o.i.needs.length o.a.cn,.slice o.a.ag o.i.iV.length o.a.cg,.slice o.a.ay o.i.syms.length o.a.cy,.slice o.a.ar o.i.n7.length o.a.cr,I o.i.entry,I o.base]
def KJ (w:World) (b off:Nat) (l:List jt):Prop:=∀k,k<l.length ->
 (w.cell? (Ad b (off+k*7))=some (.string (dA l k).i.name)/\w.cell? (Ad b (off+k*7+1))=some (.slice (dA l k).a.an (dA l k).i.needs.length (dA l k).a.cn) /\
  w.cell? (Ad b (off+k*7+2))=some (.slice (dA l k).a.ag (dA l k).i.iV.length (dA l k).a.cg)/\w.cell? (Ad b (off+k*7+3))=some (.slice (dA l k).a.ay (dA l k).i.syms.length (dA l k).a.cy) /\
  w.cell? (Ad b (off+k*7+4))=some (.slice (dA l k).a.ar (dA l k).i.n7.length (dA l k).a.cr)/\w.cell? (Ad b (off+k*7+5))=some (I (dA l k).i.entry)/\w.cell? (Ad b (off+k*7+6))=some (I (dA l k).base))/\od w (dA l k).a (dA l k).i
theorem acQ {w w':World} {b off:Nat} {l:List jt} (hb:Below w.heap.size w w') (hlt:b<w.heap.size) (h:KJ w b off l):KJ w' b off l:=fun k hk=>by
 obtain⟨⟨c0,c1,c2,c3,c4,c5,c6⟩,hi⟩:=h k hk
 grind [fF,od.below]
def Gb (w:World) (ao:Option Addr) (l:List jt):Prop:=gB KJ w ao l
theorem Gb.below {w w':World} {ao:Option Addr} {l:List jt} (h:Gb w ao l) (hb:Below w.heap.size w w'):Gb w' ao l:=gB.below (lie:=KJ) (fun hb hlt h=>acQ hb hlt h) h hb
def tG (i:tu):nO:=dX i.iV (i.iV.length-1)
def ui (o:jt):Int:=o.base+(tG o.i).page+(tG o.i).bC
def uF (o:jt) (SD:Int):Int:=o.base*16+SD
def r8 (s:nO):Int:=if s.wr then (if s.ex then 3 else 1) else (if s.ex then 2 else 0)
theorem ue {i:tu} (hc:kY i=0) (k:Nat) (hk:k<i.iV.length):0<=(dX i.iV k).page/\1<=(dX i.iV k).bC/\(dX i.iV k).page+(dX i.iV k).bC<=255/\((dX i.iV k).data.size:Int)<=(dX i.iV k).bC*16:=by
 unfold kY at hc;split at hc
 · omega
 · split at hc
   · omega
   · split at hc
     · omega
     · rename_i h
       have h':Hp i=true:=by grind
       unfold Hp at h';have:=K5 jV Dz i.iV k hk h';unfold jV at this;exact kr this
theorem sD {i:tu} (hc:kY i=0):1<=i.iV.length/\i.iV.length<=6/\i.needs.length<=4/\i.syms.length<=12/\i.n7.length<=16:=by
 grind [kY,yX]
theorem Bu {i:tu} (hc:kY i=0):0<=(tG i).page/\1<=(tG i).bC/\(tG i).page+(tG i).bC<=255:=by
 have h1:=sD hc;have h2:=ue hc (i.iV.length-1) (by omega);exact⟨h2.1,h2.2.1,h2.2.2.1⟩
open Go.RowKit
theorem VH (o:jt) (w:World) (h:od w o.a o.i) (hc:kY o.i=0) (h0:0<=o.base) (h1:o.base<=100000) :
  Calls Tryz.prog 134 #[.agg (mY o)] w fun e w'=>e=.returned (I (ui o))/\Below w.heap.size w w':=by
 have hl:=Bu hc;have hn:=sD hc;have HS:=h.iV;obtain⟨⟨nm,ns,gs,ys,rs,en⟩,⟨an,cn,ag,cg,ay,cy,ar,cr⟩,ba⟩:=o;simp only[mY];simp only at HS hn h0 h1;obtain⟨b,off,hag,hbl,eI⟩:=HS (by omega);subst hag;have E:Hid (ui ⟨⟨nm,ns,gs,ys,rs,en⟩,⟨an,cn,some (Ad b off),cg,ay,cy,ar,cr⟩,ba⟩=ba+(dX gs (gs.length-1)).page+(dX gs (gs.length-1)).bC):=rfl;have hl':0<=(dX gs (gs.length-1)).page/\1<=(dX gs (gs.length-1)).bC/\(dX gs (gs.length-1)).page+(dX gs (gs.length-1)).bC<=255:=hl;obtain⟨c0,c1,c2,c3,c4⟩:=eI (gs.length-1) (by omega);rw[E.o];obtain⟨s,hs⟩:=ex (dX gs (gs.length-1));rw[<- hs] at c0 c1 c2 c3 c4 hl';rw[<- hs];clear hs hl eI HS h E;obtain⟨G,hG⟩:=ex gs.length;rw[<- hG] at c0 c1 c2 c3 c4 hn;rw[<- hG];clear hG hc;have HB:=aA ((aK w.heap.size w).alloc (aI _) (.cells #[.string nm,.slice an ns.length cn,.slice (some (Ad b off)) G cg,.slice ay ys.length cy,.slice ar rs.length cr,I en,I ba] 195));go_enter Tryz.func134,Tryz.ntmps134;go_wp2;go_ret;exact⟨rfl,HB.o.alloc HB.o.size _⟩
theorem Lg (o:jt) (SD:Int) (w:World) (h0:0<=o.base) (h1:o.base<=100000) (h2:0<=SD) (h3:SD<=100000) :
  Calls Tryz.prog 137 #[.agg (mY o),I SD] w fun e w'=>e=.returned (I (uF o SD))/\Below w.heap.size w w':=by
 obtain⟨⟨nm,ns,gs,ys,rs,en⟩,⟨an,cn,ag,cg,ay,cy,ar,cr⟩,ba⟩:=o;simp only[mY,uF];simp only at h0 h1;go_enter Tryz.func137,Tryz.ntmps137;go_wp2;go_ret;exact⟨rfl,(aK _ _).alloc (aI _) _⟩
theorem Tm (s:nO) (w:World) :
  Calls Tryz.prog 164 #[.agg #[I s.page,I s.bC,.string s.data,.bool s.wr,.bool s.ex]] w fun e w'=>e=.returned (I (r8 s))/\Below w.heap.size w w':=by
 obtain⟨pg,pn,dt,wr,ex⟩:=s;have b1:bits BinOp.or IntKind.i64 0 1=1:=by decide
 have b2:bits BinOp.or IntKind.i64 0 2=2:=by decide
 have b3:bits BinOp.or IntKind.i64 1 2=3:=by decide
 cases wr <;> cases ex
 all_goals
  go_enter Tryz.func164,Tryz.ntmps164;go_wp2;go_ret;simp[r8,aK,m9]
open Go.RowKit
open Go.RowKit
open Go.RowKit
theorem Fk (i:tu) (a:Fu) (w:World) (hf:Fs i):Calls Tryz.prog 176 #[.agg (iW a i)] w fun e w'=>e=.returned (.bool (yX i))/\Below w.heap.size w w':=by
 obtain⟨an,cn,ag,cg,ay,cy,ar,cr⟩:=a;obtain⟨nm,ns,gs,ys,rs,en⟩:=i;obtain⟨f1,f2,f3,f4,f5,f6,f7,f8,f9,f10⟩:=hf;simp only at f2 f4 f6 f8;unfold bT at f2 f4 f6 f8;simp only[iW,yX];have eU:∀o,Hid (Below w.heap.size w (w.alloc o)):=fun o=>(aK w.heap.size w).alloc (aI _) o
 obtain⟨r,hr⟩:=ex (decide (1<=gs.length/\gs.length<=6/\ns.length<=4/\ys.length<=12/\rs.length<=16));rw[<- hr];have HR:=aA hr;clear hr f1 f3 f5 f7 f9 f10;obtain⟨ln,hln⟩:∃n,n=ns.length:=⟨_,rfl⟩;obtain⟨lg,YT⟩:∃n,n=gs.length:=⟨_,rfl⟩;obtain⟨ly,hly⟩:∃n,n=ys.length:=⟨_,rfl⟩;obtain⟨lr,hlr⟩:∃n,n=rs.length:=⟨_,rfl⟩;rw[<- hln,<- YT,<- hly,<- hlr] at HR;rw[<- hln,<- YT,<- hly,<- hlr];rw[<- hln] at f2;rw[<- YT] at f4;rw[<- hly] at f6;rw[<- hlr] at f8;clear hln YT hly hlr;by_cases d1:1<=(lg:Int)
 · by_cases d2:(lg:Int)<=6
   · by_cases d3:(ln:Int)<=4
     · by_cases d4:(ly:Int)<=12
       · by_cases d5:(lr:Int)<=16
         · have e:r=true:=by grind [Hid.o]
           subst e;go_enter Tryz.func176,Tryz.ntmps176;go_wp2;go_ret;exact⟨rfl,(eU _).out⟩
         · have e:r=false:=by grind [Hid.o]
           subst e;go_enter Tryz.func176,Tryz.ntmps176;go_wp2;go_ret;exact⟨rfl,(eU _).out⟩
       · have e:r=false:=by grind [Hid.o]
         subst e;go_enter Tryz.func176,Tryz.ntmps176;go_wp2;go_ret;exact⟨rfl,(eU _).out⟩
     · have e:r=false:=by grind [Hid.o]
       subst e;go_enter Tryz.func176,Tryz.ntmps176;go_wp2;go_ret;exact⟨rfl,(eU _).out⟩
   · have e:r=false:=by grind [Hid.o]
     subst e;go_enter Tryz.func176,Tryz.ntmps176;go_wp2;go_ret;exact⟨rfl,(eU _).out⟩
 · have e:r=false:=by grind [Hid.o]
   subst e;have q4:decide ((1:Int)<=(lg:Int))=false:=dJ d1;obtain rfl:lg=0:=by omega
   go_enter Tryz.func176,Tryz.ntmps176;go_wp2;go_ret;exact⟨rfl,(eU _).out⟩
theorem Fj (l:List nO) (ao:Option Addr) (cap:Nat) (w:World) (h:gB wI w ao l) (hn:bT l.length) (hf:∀k,k<l.length->aaN (dX l k)) :
  Calls Tryz.prog 177 #[.slice ao l.length cap] w fun e w'=>e=.returned (.bool (l.all jV))/\Below w.heap.size w w':=by
 unfold bT at hn;have H:=aA h;have F:=aA hf;clear h hf;go_enter Tryz.func177,Tryz.ntmps177;go_wp2;go_loopw [7] (fun i wr=>∃k:Nat,k<=l.length/\i=I k/\(∀j,j<k->jV (dX l j)=true)/\Below w.heap.size w wr) (fun i _=>l.length-(intOf i).toNat)
 case atStart=>grind [Below.refl]
 case round =>
  obtain⟨k,hk,rfl,hall,hb⟩:=hrel;have HA:=aA hall;have HB:=aA hb;clear hall;by_cases hlt:k<l.length
  · obtain⟨b,off,hao,hbl,hl⟩:=H.o (by omega);subst hao;obtain⟨c0,c1,c2,c3,c4⟩:=wH hb hbl hl k hlt;obtain⟨g1,g2,g3⟩:=F.o k hlt;obtain⟨s,hs⟩:=ex (dX l k);rw[<- hs] at c0 c1 c2 c3 c4 g1 g2 g3;have HS:=aA hs;clear hs hb hl;obtain⟨p,n,d,x,y⟩:=s;simp only at c0 c1 c2 c3 c4 g1 g2 g3;unfold eY at g1 g2;unfold bT at g3;have Sv:(k:Int)<(l.length:Int):=by omega
    have hbad:Hid (¬(0<=p/\1<=n/\p+n<=255/\(d.size:Int)<=n*16)->l.all jV=false):=fun hx =>
     IL jV Dz l k hlt (by show jV (dX l k)=false;rw[<- HS.o];exact dJ hx)
    by_cases d1:0<=p
    · have d1':¬p<0:=by omega
      by_cases d2:1<=n
      · have d2':¬n<1:=by omega
        by_cases d3:p+n<=255
        · have d3':¬255-p<n:=by omega
          by_cases d4:(d.size:Int)<=n*16
          · have d4':¬n*16<(d.size:Int):=by omega
            have ahx:Hid (jV ⟨p,n,d,x,y⟩=true):=dI ⟨d1,d2,d3,d4⟩;go_wp2;go_roundw
            case rel=>exact⟨k+1,by omega,by go_num,fun j h=>if e:j=k then by rw[e,<- HS.o];exact ahx.out else HA.o j (by omega),HB.o.alloc HB.o.size _⟩
            case measure=>simp[intOf];omega
          · have d4':n*16<(d.size:Int):=by omega
            have HR:=aA (hbad.out (by omega));go_wp2;go_ret;exact⟨ku HR.o.symm,HB.o.alloc HB.o.size _⟩
        · have d3':255-p<n:=by omega
          have HR:=aA (hbad.out (by omega));go_wp2;go_ret;exact⟨ku HR.o.symm,HB.o.alloc HB.o.size _⟩
      · have d2':n<1:=by omega
        have HR:=aA (hbad.out (by omega));go_wp2;go_ret;exact⟨ku HR.o.symm,HB.o.alloc HB.o.size _⟩
    · have d1':p<0:=by omega
      have HR:=aA (hbad.out (by omega));go_wp2;go_ret;exact⟨ku HR.o.symm,HB.o.alloc HB.o.size _⟩
  · obtain rfl:k=l.length:=by omega
    have HR:=aA (Ei jV Dz l (fun j hj=>HA.o j hj));clear hb;go_wp2;go_ret;exact⟨ku HR.o.symm,HB.o⟩
open Go.RowKit
theorem Tg (l:List nO) (k n:Nat) (h:pO l k=false) (hk:k<=n):pO l n=false:=by
 induction n with
 | zero=>grind
 | succ n ih =>
  grind [pO]
theorem VB (l:List nO) (k:Nat) (hk:k<l.length) (h:pO l (k+1)=false):yY l=false:=Tg l (k+1) l.length h hk
theorem Ng (l:List nO) (ao:Option Addr) (cap:Nat) (w:World) (h:gB wI w ao l) (hn:bT l.length) (hr:l.all jV=true) :
  Calls Tryz.prog 178 #[.slice ao l.length cap] w fun e w'=>e=.returned (.bool (!yY l))/\Below w.heap.size w w':=by
 unfold bT at hn;have H:=aA h;have F:=aA hr;clear h hr;go_enter Tryz.func178,Tryz.ntmps178;go_wp2;go_loopw [3] (fun i wr=>∃k:Nat,1<=k/\(k<=l.length∨k=1)/\i=I k/\pO l k=true/\Below w.heap.size w wr) (fun i _=>l.length-(intOf i).toNat)
 case atStart=>exact⟨1,by omega,.inr rfl,rfl,rfl,aK _ _⟩
 case round =>
  obtain⟨k,hk1,hk,rfl,hall,hb⟩:=hrel;have HA:=aA hall;have HB:=aA hb;clear hall;by_cases hlt:k<l.length
  · obtain⟨b,off,hao,hbl,hl⟩:=H.o (by omega);subst hao;obtain⟨c0,c1,c2,c3,c4⟩:=wH hb hbl hl k hlt;obtain⟨e0,e1,e2,e3,e4⟩:=wH hb hbl hl (k-1) (by omega);have g1:0<=(dX l (k-1)).page/\1<=(dX l (k-1)).bC/\(dX l (k-1)).page+(dX l (k-1)).bC<=255/\_:=kr (K5 jV Dz l (k-1) (by omega) F.o);have hov:Hid (pO l (k+1)=decide ((dX l (k-1)).page+(dX l (k-1)).bC<=(dX l k).page)):=by
     show _=_;simp only[pO,HA.o,lT,Tk]
     grind
    obtain⟨s,hs⟩:=ex (dX l k);obtain⟨t,ht⟩:=ex (dX l (k-1));rw[<- hs] at c0 c1 c2 c3 c4 hov;rw[<- ht] at e0 e1 e2 e3 e4 g1 hov;clear hs ht hb hl;obtain⟨sp,sn,sd,sx,sy⟩:=s;obtain⟨tp,tn,td,tx,ty⟩:=t;simp only at c0 c1 c2 c3 c4 e0 e1 e2 e3 e4 g1 hov;obtain⟨g1,g2,g3,g4⟩:=g1;clear c1 c2 c3 c4 e2 e3 e4 g4;have Sv:(k:Int)<(l.length:Int):=by omega
    have uP:=gG wr;have hkc:=@fD wr;have hbr:b<wr.heap.size:=iH hbl HB.o.size;have k0:∀x:dm wr.heap.size wr,x.world.cell? (Ad b (off+k*5))=some (I sp):=fun x=>by rw[hkc x _ _ hbr,c0]
    have k1:∀x:dm wr.heap.size wr,x.world.cell? ⟨b,off+(k-1)*5,none⟩=some (I tp):=fun x=>by rw[hkc x _ _ hbr,e0]
    have k2:∀x:dm wr.heap.size wr,x.world.cell? ⟨b,off+(k-1)*5+1,none⟩=some (I tn):=fun x=>by rw[hkc x _ _ hbr,e1]
    clear hkc c0 e0 e1;by_cases d:sp<tp+tn
    · have hno:Hid (pO l (k+1)=false):=by show _=_;rw[hov.out];exact dJ (by omega)
      go_wp2;refine cA (by kernel_rfl) (by kernel_rfl) ?_
      repeat (first | go_big_quiet_step (fail) | quiet_step (fail))
      refine fK ?_;intro _ hw';obtain⟨x,hw''⟩:=hw';subst hw'';go_wp2;go_ret;exact⟨ku (by rw[VB l k hlt hno.out];rfl),HB.o.trans (x.keeps.mono HB.o.size)⟩
    · have ag8:Hid (pO l (k+1)=true):=by show _=_;rw[hov.out];exact dI (by omega)
      go_wp2;refine cA (by kernel_rfl) (by kernel_rfl) ?_
      repeat (first | go_big_quiet_step (fail) | quiet_step (fail))
      refine fK ?_;intro _ hw';obtain⟨x,hw''⟩:=hw';subst hw'';go_wp2;go_roundw
      case rel=>exact⟨k+1,by omega,.inl (by omega),by go_num,ag8.out,HB.o.trans (x.keeps.mono HB.o.size)⟩
      case measure=>simp[intOf];omega
  · have HR:Hid (yY l=true):=by
     show _=_;unfold yY;rcases hk with hk | hk
     · rw[show l.length=k by omega];exact HA.o
     · rcases EW l.length 1 with h0 | h0
       · rw[show l.length=0 by omega];rfl
       · rw[show l.length=k by omega];exact HA.o
    have hge:¬(k:Int)<(l.length:Int):=by omega
    clear hb;go_wp2;go_ret;exact⟨ku (by rw[HR.o];rfl),HB.o⟩
open Go.RowKit
def wu (s:nO):Array Value:=#[I s.page,I s.bC,.string s.data,.bool s.wr,.bool s.ex]
def zG (l:List nO) (a:Int):nO:=(qh l a).getD Dz
theorem zJ:∀(l:List nO) (a:Int),(∀j,j<l.length->pI (dX l j) a=false)->qh l a=none
 | [],_,_=>rfl
 | s::r,a,h=>by
  have h0:pI s a=false:=h 0 (by simp);unfold qh;rw[h0,bf (by simp)];exact zJ r a (fun j hj=>h (j+1) (by grind))
theorem zI:∀(l:List nO) (a:Int) (k:Nat),k<l.length->(∀j,j<k->pI (dX l j) a=false)->pI (dX l k) a=true->qh l a=some (dX l k)
 | s::r,a,0,_,_,h=>by
  have h0:pI s a=true:=h;unfold qh;rw[h0,aR rfl];rfl
 | s::r,a,k+1,hk,hj,h=>by
  have h0:pI s a=false:=hj 0 (by omega);unfold qh;rw[h0,bf (by simp)];exact zI r a k (by grind) (fun j h=>hj (j+1) (by omega)) h
theorem KW {l:List nO} (h:l.all jV=true) (k:Nat) (hk:k<l.length):0<=(dX l k).page/\1<=(dX l k).bC/\(dX l k).page+(dX l k).bC<=255/\((dX l k).data.size:Int)<=(dX l k).bC*16 :=
 kr (K5 jV Dz l k hk h)
theorem Tf {l:List nO} (h:l.all jV=true) (a:Int) (ha:a<0):qh l a=none :=
 zJ l a (fun j hj=>by
  have:=KW h j hj;exact dJ (by omega))
theorem Hm {a b:nO} {x y:Bool} (h:a=b) (g:x=y):Ending.returned (.tuple #[.agg (wu a),.bool x])=.returned (.tuple #[.agg (wu b),.bool y]):=by rw[h,g]
theorem xI (l:List nO) (ao:Option Addr) (cap:Nat) (a:Int) (w:World) (h:gB wI w ao l) (hn:bT l.length) (hr:l.all jV=true) (ha:eY a) :
  Calls Tryz.prog 199 #[.slice ao l.length cap,I a] w fun e w'=>e=.returned (.tuple #[.agg (wu (zG l a)),.bool (gW l a)])/\Below w.heap.size w w':=by
 unfold bT at hn;unfold eY at ha;have H:=aA h;have F:=aA hr;clear h hr;by_cases h0:a<0
 · have HN:=aA (Tf F.o a h0);have HZ:=aA ((aK w.heap.size w).alloc (aI _) (.cells #[I 0,I 0,.string ⟨#[]⟩,.bool false,.bool false] 145));go_enter Tryz.func199,Tryz.ntmps199;go_wp2;exact cm (v:=.tuple #[.agg #[I 0,I 0,.string ⟨#[]⟩,.bool false,.bool false],.bool false]) (by simp[results,Tryz.results199,go_sem]) rfl ⟨Hm (a:=Dz) (x:=false) (by grind [zG,Hid.o]) (by grind [gW,Hid.o]),HZ.o⟩
 · have hbz:Below w.heap.size w (w.alloc (.cells #[I 0,I 0,.string ⟨#[]⟩,.bool false,.bool false] 145)):=(aK _ _).alloc (aI _) _;have HZ:=aA hbz;clear hbz;go_enter Tryz.func199,Tryz.ntmps199;go_wp2;go_loopw [16] (fun i wr=>∃k:Nat,k<=l.length/\i=I k/\(∀j,j<k->pI (dX l j) a=false)/\Below (w.heap.size+1) (w.alloc (.cells #[I 0,I 0,.string ⟨#[]⟩,.bool false,.bool false] 145)) wr) (fun i _=>l.length-(intOf i).toNat)
   case atStart=>grind [Below.refl]
   case round =>
    obtain⟨k,hk,rfl,hno,hb⟩:=hrel;have HN:=aA hno;have HB:=aA hb;have jQ:Hid (Below w.heap.size w wr):=HZ.o.trans (hb.mono (vh _));have hsz:w.heap.size+1<=wr.heap.size:=by have:=hb.size;simpa using this
    have HR:=aA (aQ (bO w #[I 0,I 0,.string ⟨#[]⟩,.bool false,.bool false] 145) hb (E3 _));clear hno hb;by_cases hlt:k<l.length
    · obtain⟨b,off,hao,hbl,hl⟩:=H.o (by omega);subst hao;obtain⟨c0,c1,c2,c3,c4⟩:=wH jQ.out hbl hl k hlt;obtain⟨g1,g2,g3,g4⟩:=KW F.o k hlt;obtain⟨s,hs⟩:=ex (dX l k);rw[<- hs] at c0 c1 c2 c3 c4 g1 g2 g3 g4;have HS:=aA hs;clear hs hl;obtain⟨p,n,d,x,y⟩:=s;simp only at c0 c1 c2 c3 c4 g1 g2 g3 g4;have Sv:(k:Int)<(l.length:Int):=by omega
      clear g4;by_cases d1:p<=a/16
      · by_cases d2:a/16<p+n
        · have hin:Hid (pI (dX l k) a=true):=by show _=_;rw[<- HS.o];exact dI (show p*16<=a/\a<(p+n)*16 by omega)
          have t0:=aB (bM HR.o (.cells #[I p,I n,.string d,.bool x,.bool y] 145)) 0 rfl;have t1:=aB (bM HR.o (.cells #[I p,I n,.string d,.bool x,.bool y] 145)) 1 rfl;have t2:=aB (bM HR.o (.cells #[I p,I n,.string d,.bool x,.bool y] 145)) 2 rfl;have t3:=aB (bM HR.o (.cells #[I p,I n,.string d,.bool x,.bool y] 145)) 3 rfl;have t4:=aB (bM HR.o (.cells #[I p,I n,.string d,.bool x,.bool y] 145)) 4 rfl;have u0:=aO (bM HR.o (.cells #[I p,I n,.string d,.bool x,.bool y] 145));have Mt:=aA (jQ.out.alloc jQ.out.size (.cells #[I p,I n,.string d,.bool x,.bool y] 145));go_wp2;exact cm (v:=.tuple #[.agg #[I p,I n,.string d,.bool x,.bool y],.bool true]) (by simp[results,Tryz.results199,go_sem,t0,t1,t2,t3,t4]) rfl ⟨Hm (a:=⟨p,n,d,x,y⟩) (x:=true) (by unfold zG;rw[zI l a k hlt HN.o hin.out];exact HS.o) (by unfold gW;rw[zI l a k hlt HN.o hin.out];rfl),(((((Mt.o.setCell (aI _) _).setCell (aI _) _).setCell (aI _) _).setCell (aI _) _).setCell (aI _) _)⟩
        · have Ay:Hid (pI (dX l k) a=false):=by show _=_;rw[<- HS.o];exact dJ (show ¬(p*16<=a/\a<(p+n)*16) by omega)
          go_wp2;go_roundw
          case rel=>exact⟨k+1,by omega,by go_num,fun j hj=>if e:j=k then by rw[e];exact Ay.out else HN.o j (by omega),HB.o.alloc (by omega) _⟩
          case measure=>simp[intOf];omega
      · have Ay:Hid (pI (dX l k) a=false):=by show _=_;rw[<- HS.o];exact dJ (show ¬(p*16<=a/\a<(p+n)*16) by omega)
        go_wp2;go_roundw
        case rel=>exact⟨k+1,by omega,by go_num,fun j hj=>if e:j=k then by rw[e];exact Ay.out else HN.o j (by omega),HB.o.alloc (by omega) _⟩
        case measure=>simp[intOf];omega
    · obtain rfl:k=l.length:=by omega
      have HNo:=aA (zJ l a HN.o);have t0:=aB HR.o 0 rfl;have t1:=aB HR.o 1 rfl;have t2:=aB HR.o 2 rfl;have t3:=aB HR.o 3 rfl;have t4:=aB HR.o 4 rfl;have u0:=aO HR.o;go_wp2;exact cm (v:=.tuple #[.agg #[I 0,I 0,.string ⟨#[]⟩,.bool false,.bool false],.bool false]) (by simp[results,Tryz.results199,go_sem,t0,t1,t2,t3,t4]) rfl ⟨Hm (a:=Dz) (x:=false) (by unfold zG;rw[HNo.o];rfl) (by unfold gW;rw[HNo.o];rfl),(((((jQ.out.setCell (aI _) _).setCell (aI _) _).setCell (aI _) _).setCell (aI _) _).setCell (aI _) _)⟩
open Go.RowKit
theorem JG {l:List nO} (h:l.all jV=true) (a:Int) (hp:gW l a=true):0<=a/\a<4080:=by
 induction l with
 | nil=>cases hp
 | cons s r ih =>
  grind [jV,gW,qh,pI]
open Go.RowKit
theorem Fm (i:tu) (a:Fu) (w:World) (h:od w a i) (hf:Fs i) (hr:i.iV.all jV=true):Calls Tryz.prog 183 #[.agg (iW a i)] w fun e w'=>e=.returned (.bool (yV i))/\Below w.heap.size w w':=by
 obtain⟨an,cn,ag,cg,ay,cy,ar,cr⟩:=a;obtain⟨nm,ns,gs,ys,rs,en⟩:=i;obtain⟨h1,h2,h3,h4⟩:=h;obtain⟨f1,f2,f3,f4,f5,f6,f7,f8,f9,f10⟩:=hf;simp only at h1 h2 h3 h4 f1 f2 f3 f4 f5 f6 f7 f8 f9 f10;have F4:=aA f4;unfold bT at f2 f4 f6 f8;simp only[iW];have H2:=aA h2;have F10:=aA f10;have HG:=aA hr;clear h1 h2 h3 h4 f3 f5 f7 f9 f10 hr;have BOX:=aA (bO w #[.string nm,.slice an ns.length cn,.slice ag gs.length cg,.slice ay ys.length cy,.slice ar rs.length cr,I en] 151);have eU:=aA ((aK w.heap.size w).alloc (aI _) (.cells #[.string nm,.slice an ns.length cn,.slice ag gs.length cg,.slice ay ys.length cy,.slice ar rs.length cr,I en] 151));obtain⟨X,hX⟩:∃X:Array Value,X=#[.string nm,.slice an ns.length cn,.slice ag gs.length cg,.slice ay ys.length cy,.slice ar rs.length cr,I en]:=⟨_,rfl⟩;have HX:=aA hX;rw[<- hX] at BOX eU;clear hX;have amv:=F10.o;unfold eY at amv;have HE:Hid (yV ⟨nm,ns,gs,ys,rs,en⟩=(gW gs en&&((zG gs en).ex&&decide (en%8=0)))):=by
  show _=_
  grind [yV,gW,zG]
 rw[HE.o];have hpb:gW gs en=true->0<=en:=fun h=>(JG HG.o en h).1
 obtain⟨sg,hsg⟩:=ex (zG gs en);obtain⟨pb,Jz⟩:=ex (gW gs en);have HS:=aA hsg;have HP:=aA Jz;rw[<- Jz] at hpb;rw[<- hsg,<- Jz];obtain⟨sp,sn,sd,sx,sy⟩:=sg;simp only;clear HE hsg Jz;cases pb
 · clear hpb;go_enter Tryz.func183,Tryz.ntmps183;go_wp2_with fail
   rw[<- HX.o];refine(xI gs ag cg en _ (gB.below (lie:=wI) (fun hb hlt h=>wH hb hlt h) H2.o eU.o) F4.o HG.o F10.o).mono ?_;rintro e w2 ⟨rfl,hb2⟩;have gj:=aA (eU.o.trans (hb2.mono eU.o.size));have ZN:=aA (aQ BOX.o hb2 (aT BOX.o));clear hb2;rw[<- HS.o,<- HP.o];simp only[wu];go_wp2;go_ret;exact⟨rfl,gj.o.alloc gj.o.size _⟩
 · have hp:=hpb rfl;clear hpb;cases sy
   · go_enter Tryz.func183,Tryz.ntmps183;go_wp2_with fail
     rw[<- HX.o];refine(xI gs ag cg en _ (gB.below (lie:=wI) (fun hb hlt h=>wH hb hlt h) H2.o eU.o) F4.o HG.o F10.o).mono ?_;rintro e w2 ⟨rfl,hb2⟩;have gj:=aA (eU.o.trans (hb2.mono eU.o.size));have ZN:=aA (aQ BOX.o hb2 (aT BOX.o));clear hb2;rw[<- HS.o,<- HP.o];simp only[wu];go_wp2;go_ret;exact⟨rfl,gj.o.alloc gj.o.size _⟩
   · by_cases d:en%8=0
     · rw[dI d];go_enter Tryz.func183,Tryz.ntmps183;go_wp2_with fail
       rw[<- HX.o];refine(xI gs ag cg en _ (gB.below (lie:=wI) (fun hb hlt h=>wH hb hlt h) H2.o eU.o) F4.o HG.o F10.o).mono ?_;rintro e w2 ⟨rfl,hb2⟩;have gj:=aA (eU.o.trans (hb2.mono eU.o.size));have ZN:=aA (aQ BOX.o hb2 (aT BOX.o));have aad:=aT ZN.o;have by5:=aB ZN.o 5 (by rw[HX.o];rfl);clear hb2;rw[<- HS.o,<- HP.o];simp only[wu];go_wp2;go_ret;exact⟨rfl,gj.o.alloc gj.o.size _⟩
     · rw[dJ d];go_enter Tryz.func183,Tryz.ntmps183;go_wp2_with fail
       rw[<- HX.o];refine(xI gs ag cg en _ (gB.below (lie:=wI) (fun hb hlt h=>wH hb hlt h) H2.o eU.o) F4.o HG.o F10.o).mono ?_;rintro e w2 ⟨rfl,hb2⟩;have gj:=aA (eU.o.trans (hb2.mono eU.o.size));have ZN:=aA (aQ BOX.o hb2 (aT BOX.o));have aad:=aT ZN.o;have by5:=aB ZN.o 5 (by rw[HX.o];rfl);clear hb2;rw[<- HS.o,<- HP.o];simp only[wu];go_wp2;go_ret;exact⟨ku (by grind),gj.o.alloc gj.o.size _⟩
open Go.RowKit Go.WideMaps Go.Maps
theorem KZ:Keyed Tryz.prog 9:=string_keyed Tryz.underlying9
theorem Qd (w:World):(zeroValue 3).run Tryz.prog w=.ok (I 0) w:=by rfl
def yi (s:ByteArray):Lit:=.string s.data.toList
theorem Eh {s t:ByteArray} (h:yi s=yi t):s=t:=by
 unfold yi at h;injection h with h;cases s;simp_all
theorem OO {s:ByteArray} (h:bT s.size):keyOf Tryz.prog 9 (.string s)=some (yi s):=keyOf_string_mk Tryz.underlying9 (by grind [bT,maxLen])
instance afj:LawfulBEq ByteArray where
 eq_of_beq {a b} h:=by
  cases a;cases b;congr 1;exact eq_of_beq (α:=Array UInt8) h
 rfl {a}:=by
  cases a;exact beq_self_eq_true (α:=Array UInt8) _
def Yj (l:List ByteArray) (k:Nat) (D:DataW Unit):Prop:=∀s:ByteArray,D.atKey (yi s) (.lit (.int .i64 0))=.lit (.int .i64 (if (l.take k).contains s then 1 else 0))
theorem Vz (l:List ByteArray):Yj l 0 (.map []):=fun s=>by rfl
theorem AG (l:List ByteArray) (k:Nat) (hk:k<l.length) (s:ByteArray):(l.take (k+1)).contains s=((l.take k).contains s || s==oU l k):=by
 grind [List.take_add_one,oU]
theorem VA {l:List ByteArray} {k:Nat} {D:DataW Unit} (hk:k<l.length) (hD:IsMap D) (h:Yj l k D):Yj l (k+1) (D.put (yi (oU l k)) (.lit (.int .i64 1))):=fun s=>by
 rw[AG l k hk s];by_cases e:s=oU l k
 · subst e;rw[atKey_put_same hD (by trivial)];simp
 · rw[atKey_put_other (fun g=>e (Eh g)),h s]
   grind
theorem Th (l:List ByteArray) (k n:Nat) (h:mG l k=false) (hk:k<=n):mG l n=false:=by
 induction n with
 | zero=>grind
 | succ n ih =>
  grind [mG]
theorem Td (l:List ByteArray) (ao:Option Addr) (cap:Nat) (w:World) (h:gB K6 w ao l) (hn:bT l.length) (hf:∀k,k<l.length->bT (oU l k).size) :
  Calls Tryz.prog 179 #[.slice ao l.length cap] w fun e w'=>e=.returned (.bool (!ud l))/\Below w.heap.size w w':=by
 unfold bT at hn;have H:=aA h;have F:=aA hf;clear h hf;have hmm:=@run_makeMap Tryz.prog;go_enter Tryz.func179,Tryz.ntmps179;go_wp2;go_loopw [9] (fun i wr=>∃(k:Nat) (D:DataW Unit),k<=l.length/\i=I k/\wr.ownsMap Tryz.prog 9 (plainElem Tryz.prog 3) w.heap.size k D/\Yj l k D/\mG l k=true/\Below w.heap.size w wr) (fun i _=>l.length-(intOf i).toNat)
 case atStart=>exact⟨0,.map [],oO _,rfl,World.ownsMap_made _ _ _ _,Vz l,rfl,(aK _ _).alloc (aI _) _⟩
 case round =>
  obtain⟨k,D,hk,rfl,hown,ahF,SS,hb⟩:=hrel;have HO:=aA SS;have HC:=aA ahF;have HB:=aA hb;have HW:=aA hown;clear SS ahF;by_cases hlt:k<l.length
  · obtain⟨b,off,hao,hbl,hl⟩:=H.o (by omega);subst hao;have Sv:(k:Int)<(l.length:Int):=by omega
    have c0:=aaM hb hbl hl k hlt;have fs:=F.o k hlt;have HCS:=aA (VA hlt hown.isMap HC.o);have HN:Hid (mG l (k+1)=!(l.take k).contains (oU l k)):=by show(mG l k&&_)=_;rw[HO.o];rfl
    have hcx:=HC.o (oU l k);obtain⟨s,hs⟩:=ex (oU l k);rw[<- hs] at c0 fs HCS HN hcx;clear hs hb hl;have hkey:=OO fs;obtain⟨c,hrun,hat,_⟩:=hown.lookup_int KZ Tryz.underlying272 Tryz.underlying3 (Qd _) hkey;rw[hcx] at hat
    have iU:k<maxLen:=by unfold maxLen;omega
    cases hc:(l.take k).contains s
    · rw[hc] at hat HN;have e:c=0:=by grind
      subst e;clear hat hcx;go_wp2_with (first | (at_mapUpdate;refine PX _ rfl _ _ _ 272 rfl 9 3 KZ Tryz.underlying272 _ w.heap.size k _ rfl HW.o iU _ _ _ rfl rfl hkey _ [] (plainElem_int Tryz.underlying3 (by decide)) ?_) | go_in)
      intro w1 hown1 hgrow1;have R2:=aA (HB.o.grown hgrow1 HB.o.size (fun j hj=>by grind));obtain⟨c,ahc,Hl,_⟩:=hown1.lookup_int KZ Tryz.underlying272 Tryz.underlying3 (Qd _) hkey;rw[atKey_put_same HW.o.isMap (by trivial)] at Hl;have e:c=1:=by injection Hl with Hl;injection Hl with _ Hl;omega
      subst e;have CG:=aA hown1;clear Hl hown hrun hgrow1 hown1;go_wp2;go_roundw
      case rel=>exact⟨k+1,_,by omega,by go_num,CG.o,HCS.o,HN.o,R2.o⟩
      case measure=>simp[intOf];omega
    · rw[hc] at hat HN;have e:c=1:=by grind
      subst e;clear hat hcx;have HR:=aA (Th l (k+1) l.length HN.o hlt);go_wp2_with (first | (at_mapUpdate;refine PX _ rfl _ _ _ 272 rfl 9 3 KZ Tryz.underlying272 _ w.heap.size k _ rfl HW.o iU _ _ _ rfl rfl hkey _ [] (plainElem_int Tryz.underlying3 (by decide)) ?_) | go_in)
      intro w1 hown1 hgrow1;have R2:=aA (HB.o.grown hgrow1 HB.o.size (fun j hj=>by grind));obtain⟨c,ahc,Hl,_⟩:=hown1.lookup_int KZ Tryz.underlying272 Tryz.underlying3 (Qd _) hkey;rw[atKey_put_same HW.o.isMap (by trivial)] at Hl;have e:c=2:=by injection Hl with Hl;injection Hl with _ Hl;omega
      subst e;clear Hl hown hrun hgrow1 hown1;go_wp2;go_ret;exact⟨ku (by unfold ud;rw[HR.o];rfl),R2.o⟩
  · obtain rfl:k=l.length:=by omega
    clear hb;go_wp2;go_ret;exact⟨ku (by unfold ud;rw[HO.o];rfl),HB.o⟩
end Go.Proofs.YtpgifpeohlllfaaGreat
