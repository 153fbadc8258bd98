import Derived.Test.YtpgifpeohlllfaaGreatGV06
set_option maxHeartbeats 20000000
set_option linter.unusedVariables false
set_option maxRecDepth 100000
set_option linter.unusedSimpArgs false
namespace Go.Proofs.YtpgifpeohlllfaaGreat
namespace Go.Proofs.YtpgifpeohlllfaaGreat
open Go.RowKit
theorem Mb {a a':Option Addr} {n n' m m':Nat} (h1:a=a') (h2:n=n') (h3:m=m'):Value.slice a n m=.slice a' n' m':=by grind
theorem OO (l:List bc) (hs:List bM) (en:Int) (va:Value) (ao:Option Addr) (cap:Nat) (w:World) (ha:eU w va l) (hc:br l=0) (h:iM w ao hs) (hn:hs.length<=140737488351232) (hcap:hs.length<=cap) :
  Calls Tryz.prog 100 #[.agg #[va,.slice ao hs.length cap,I en]] w fun e w'=>e=.returned (.bool (kK l hs))/\Below w.heap.size w w':=by
 obtain⟨b,off,hbo⟩:∃b off,0<hs.length->ao=some (Ad b off)/\b<w.heap.size/\Jk w b off hs:=by
  by_cases h0:0<hs.length
  · obtain⟨b,off,h1,h2,h3⟩:=h h0
    grind
  simp_all
 have HBO:=aD hbo;have HC:=aD hc;have hlen:=kg l hc;obtain⟨aa,ca,rfl,hal⟩:=ha;have HAL:Hid (0<l.length->∃b off,aa=some (Ad b off)/\qc w b off l):=fun g=>by
  grind
 clear hbo hc h hal;have HB:=aD ((aK w.heap.size w).alloc (aM _) (.cells #[.slice aa l.length ca,.slice ao hs.length cap,I en] 30));go_enter Tryz.func100,Tryz.ntmps100;go_wp2;go_loopw [12,3] (fun ix v wr=>∃(i c:Nat) (ao':Option Addr),i<=l.length/\ix=I i/\v=.slice ao' (hs.length-c) (cap-c)/\c<=hs.length/\(c<hs.length->ao'=some (Ad b (off+c*3)))/\(hs.take c).map (·.page)=fY l i/\Below w.heap.size w wr) (fun ix _ _=>l.length-(intOf ix).toNat)
 case atStart=>exact⟨0,0,ao,by omega,rfl,rfl,by omega,fun g=>by grind [Hid.o],rfl,HB.o⟩
 case round =>
  obtain⟨i,c,ao',hi,rfl,rfl,hcl,hao,htk,hb⟩:=hrel;have HAO:=aD hao;have HTK:=aD htk;have sY:=aD hb;clear hao htk;by_cases hlt:i<l.length
  · obtain⟨ba,auN,hae,hl⟩:=HAL.o (by omega);subst hae;obtain⟨c0,c1,c2,c3⟩:=(hl.below hb) i hlt;have hbk:=gH l i (gm l HC.o i hlt);have Ku:Hid (∀n,n<(bB l i).aR.toNat->∃t,ot l=(fY l i++kP (bB l i) n)++((bB l i).page+(n:Int))::t):=fun n hn=>O4 l i hlt n hn
    have rR:Hid (fY l (i+1)=fY l i++kP (bB l i) (bB l i).aR.toNat):=rfl;obtain⟨a,hae⟩:=ex (bB l i);rw[<- hae] at c0 c1 c2 c3 hbk Ku rR;clear hae hb;obtain⟨P,hP⟩:∃P:Nat,a.aR=(P:Int):=⟨a.aR.toNat,by omega⟩;rw[hP] at c1 hbk Ku rR;rw[iu] at Ku rR;have gK:=aD (sY.o.alloc sY.o.size (.cells #[I a.page,I (P:Int),I a.fV,.bool a.zero] 47));have BA:=aD (bG wr #[I a.page,I (P:Int),I a.fV,.bool a.zero] 47);go_wp2;go_loopw [18,3] (fun nx v wi=>∃(n c:Nat) (ao':Option Addr),n<=P/\nx=I n/\v=.slice ao' (hs.length-c) (cap-c)/\c<=hs.length/\(c<hs.length->ao'=some (Ad b (off+c*3)))/\(hs.take c).map (·.page)=fY l i++kP a n/\Below w.heap.size w wi/\wi.heap[wr.heap.size]?=some (.cells #[I a.page,I (P:Int),I a.fV,.bool a.zero] 47 (0,0))) (fun nx _ _=>P-(intOf nx).toNat)
    case atStart=>exact⟨0,c,ao',by omega,rfl,rfl,hcl,HAO.o,by rw[HTK.o];simp[kP],gK.o,BA.o⟩
    case round =>
     obtain⟨n,c,ao',hn',rfl,rfl,hcl,hao,htk,hb,hba⟩:=hrel;have HAO:=aD hao;have HTK:=aD htk;have Y6:=aD hb;have BAi:=aD hba;have x0:=aB hba 0 rfl;clear hao htk hba;by_cases hlp:n<P
     · obtain⟨t,ht⟩:=Ku.o n hlp;have HT:=aD ht;clear ht;by_cases hce:c=hs.length
       · have HX:Hid (kK l hs=false):=Q8 (by have h:=HTK.o;rw[hce] at h;exact h) HT.o;have hz:hs.length-c=0:=by omega
         rw[hz];clear hz hce;go_wp2
         go_quiet (fail)
         go_wp2;go_ret;exact⟨gZ HX.o.symm,lR Y6.o _⟩
       · have agH:c<hs.length:=by omega
         have hcz:(((hs.length-c:Nat):Int)==0)=false:=by simp;omega
         have av0:0<hs.length-c:=by omega
         obtain⟨-,g2,g3⟩:=HBO.o (by omega);obtain⟨d0,d1,d2,d3⟩:=(Od (hb.mono (Nat.le_of_eq rfl)) g2 g3) c agH;have hae:=HAO.o agH;subst hae;have avx:(1:Int)<=((hs.length-c:Nat):Int):=by omega
         by_cases wS:(bj hs c).page=a.page+(n:Int)
         · have HX:Hid ((hs.take (c+1)).map (·.page)=fY l i++kP a (n+1)):=by
            show _=_;rw[Bx hs c agH,HTK.o,wS,uF,wa]
           rw[wS] at d0;clear wS d1 d2 d3 hb hce;by_cases hc1:cap-c=1
           · go_wp2
             go_quiet (fail)
             go_wp2;go_roundw
             case rel=>exact⟨n+1,c+1,_,by omega,by go_num,Mb rfl (by omega) (by omega),by omega,fun g=>by omega,HX.o,lR Y6.o _,BAi.o⟩
             case measure=>simp[intOf];omega
           · go_wp2
             go_quiet (fail)
             go_wp2;go_roundw
             case rel=>exact⟨n+1,c+1,_,by omega,by go_num,Mb rfl (by omega) (by omega),by omega,fun g=>by simp[Nat.add_mul,Cj],HX.o,lR Y6.o _,BAi.o⟩
             case measure=>simp[intOf];omega
         · have HX:Hid (kK l hs=false):=Q9 agH HTK.o HT.o wS;have hpz:((bj hs c).page==a.page+(n:Int))=false:=by simpa using wS
           clear wS d1 d2 d3 hb hce;go_wp2
           go_quiet (fail)
           go_wp2;go_ret;exact⟨gZ HX.o.symm,lR Y6.o _⟩
     · obtain rfl:n=P:=by omega
       go_wp2;go_roundw
       case rel=>exact⟨i+1,c,ao',by omega,by go_num,rfl,hcl,HAO.o,by rw[rR.o];exact HTK.o,Y6.o⟩
       case measure=>simp[intOf];omega
  · obtain rfl:i=l.length:=by omega
    have HX:=aD (UB hcl HTK.o);go_wp2;go_ret;refine⟨gZ ?_,sY.o⟩;rw[HX.o];rw[Bool.eq_iff_iff];simp;omega
theorem I4 (l:List bc) (va vs:Value) (en:Int) (w:World) (ha:eU w va l) (hf:ed l) (hc:br l=0) (he:dY en) (yt:∃ao n c,va=.slice ao n c) (hvs:∃ao n c,vs=.slice ao n c) :
  Calls Tryz.prog 102 #[.agg #[va,vs,I en]] w fun e w'=>e=.returned (.bool (CE l en))/\Below w.heap.size w w':=by
 have Qo:Hid (aV l (en.tdiv 16)=bT l (en.tdiv 16)):=by show _=_;grind [aV]
 have FY:=aD (Q7 l hc (en.tdiv 16));have HE:Hid (CE l en=((bT l (en.tdiv 16)).2&&(decide (2<=(bT l (en.tdiv 16)).1.fV)&&decide (en.tmod 8=0)))):=rfl;have Gi:Hid (∀W,Below w.heap.size w W->Calls Tryz.prog 70 #[va,I (en.tdiv 16)] W fun e w'=>e=.returned (.tuple #[.agg (kY (bT l (en.tdiv 16)).1),.bool (bT l (en.tdiv 16)).2])/\Below W.heap.size W w'):=fun W hb=>by
  have h:=uo l va (en.tdiv 16) W (ha.below hb) hf;rw[Qo.o] at h;exact h
 obtain⟨r,hr⟩:=ex (bT l (en.tdiv 16));rw[<- hr] at FY HE Gi;clear hr Qo ha hf hc;obtain⟨⟨pg,pn,pr,zr⟩,ok⟩:=r;simp only[kY] at Gi FY HE;obtain⟨aa,na,ca,rfl⟩:=yt;obtain⟨ao,no,co,rfl⟩:=hvs;unfold dY at he;have HB:=aD ((aK w.heap.size w).alloc (aM _) (.cells #[.slice aa na ca,.slice ao no co,I en] 30));have BX:=aD (bG w #[.slice aa na ca,.slice ao no co,I en] 30);rw[HE.o];cases ok with
 | false =>
  go_enter Tryz.func102,Tryz.ntmps102;go_wp2_with (go_at_call 70;refine(Gi.o _ HB.o).mono ?_;rintro e w1 ⟨rfl,hb⟩;have HB:=aD (HB.o.trans (hb.mono HB.o.size));clear hb)
  go_ret;exact⟨rfl,HB.o.alloc HB.o.size _⟩
 | true =>
  have ZA:=Q4 (FY.o rfl);have b0:bits BinOp.and IntKind.i64 0 2=0:=by decide
  have b1:bits BinOp.and IntKind.i64 1 2=0:=by decide
  have b2:bits BinOp.and IntKind.i64 2 2=2:=by decide
  have b3:bits BinOp.and IntKind.i64 3 2=2:=by decide
  clear FY;by_cases h8:en.tmod 8=0
  · rcases ZA with rfl | rfl | rfl | rfl
    all_goals
     go_enter Tryz.func102,Tryz.ntmps102;go_wp2_with (go_at_call 70;refine(Gi.o _ HB.o).mono ?_;rintro e w1 ⟨rfl,hb⟩;have HB:=aD (HB.o.trans (hb.mono HB.o.size));have BX:=aD (aQ BX.o hb (aO BX.o));have QR:=aO BX.o;have x2:=aB BX.o 2 rfl;clear hb)
     go_ret;exact⟨gZ (by simp[h8]),HB.o.alloc HB.o.size _⟩
  · have h8':(en.tmod 8==0)=false:=by grind
    rcases ZA with rfl | rfl | rfl | rfl
    all_goals
     go_enter Tryz.func102,Tryz.ntmps102;go_wp2_with (go_at_call 70;refine(Gi.o _ HB.o).mono ?_;rintro e w1 ⟨rfl,hb⟩;have HB:=aD (HB.o.trans (hb.mono HB.o.size));have BX:=aD (aQ BX.o hb (aO BX.o));have QR:=aO BX.o;have x2:=aB BX.o 2 rfl;clear hb)
     go_ret;exact⟨gZ (by simp[h8]),HB.o.alloc HB.o.size _⟩
theorem OM {w:World} {v:Value} {l:List bc} (h:eU w v l):∃ao n c,v=.slice ao n c:=by
 obtain⟨ao,cap,h,_⟩:=h
 grind
theorem Uu (l:List bc) (hs:List bM) (en:Int) (va:Value) (ao:Option Addr) (cap:Nat) (w:World) (ha:eU w va l) (hf:ed l) (h:iM w ao hs) (Ks:qI hs) (hcap:hs.length<=cap) (he:dY en) :
  Calls Tryz.prog 53 #[.agg #[va,.slice ao hs.length cap,I en]] w fun e w'=>e=.returned (I (pP l hs en))/\Below w.heap.size w w':=by
 have LK:Hid (∀W,Below w.heap.size w W->Calls Tryz.prog 98 #[va] W fun e w'=>e=.returned (I (br l))/\Below W.heap.size W w'):=fun W hb=>jM l va W (ha.below hb) hf
 have HZ:Hid (∀W,Below w.heap.size w W->Calls Tryz.prog 99 #[va] W fun e w'=>e=.returned (.bool (mn l))/\Below W.heap.size W w'):=fun W hb=>OU l va W (ha.below hb) hf
 have Qp:Hid (br l=0->∀W,Below w.heap.size w W->Calls Tryz.prog 100 #[.agg #[va,.slice ao hs.length cap,I en]] W fun e w'=>e=.returned (.bool (kK l hs))/\Below W.heap.size W w'):=fun hc W hb=>OO l hs en va ao cap W (ha.below hb) hc (h.below hb) Ks.1 hcap
 have WN:Hid (∀W,Below w.heap.size w W->Calls Tryz.prog 101 #[.slice ao hs.length cap] W fun e w'=>e=.returned (.bool (rE hs))/\Below W.heap.size W w'):=fun W hb=>G7 hs ao cap W (h.below hb) Ks
 have px:Hid (br l=0->∀W,Below w.heap.size w W->Calls Tryz.prog 102 #[.agg #[va,.slice ao hs.length cap,I en]] W fun e w'=>e=.returned (.bool (CE l en))/\Below W.heap.size W w'):=fun hc W hb=>I4 l va _ en W (ha.below hb) hf hc he (OM ha) ⟨_,_,_,rfl⟩
 have HR:Hid (pP l hs en=if br l=0 then (if !mn l&&(kK l hs&&(rE hs&&CE l en)) then 0 else 1) else br l):=rfl;obtain⟨aa,na,ca,rfl⟩:=OM ha;clear ha hf h Ks hcap he;obtain⟨N,hN⟩:=ex hs.length;rw[<- hN] at Qp WN px;rw[<- hN];obtain⟨z,hz⟩:=ex (mn l);rw[<- hz] at HZ HR;obtain⟨q,hq⟩:=ex (kK l hs);rw[<- hq] at Qp HR;obtain⟨s,hs'⟩:=ex (rE hs);rw[<- hs'] at WN HR;obtain⟨r,hr⟩:=ex (CE l en);rw[<- hr] at px HR;obtain⟨C,hC⟩:=ex (br l);rw[<- hC] at LK Qp px HR;rw[HR.o];clear hN hz hq hs' hr hC HR;have HB:=aD ((aK w.heap.size w).alloc (aM _) (.cells #[.slice aa na ca,.slice ao N cap,I en] 30));have BX:=aD (bG w #[.slice aa na ca,.slice ao N cap,I en] 30);by_cases hc:C=0
 · subst hc;have arW:=aD (Qp.o rfl);have arU:=aD (px.o rfl);clear Qp px;rw[bf rfl];cases z <;> cases q <;> cases s <;> cases r
   all_goals
    go_enter Tryz.func53,Tryz.ntmps53;go_wp2_with (first
     | (go_at_call 98;refine(LK.o _ HB.o).mono ?_;rintro e w1 ⟨rfl,hb⟩;have HB:=aD (HB.o.trans (hb.mono HB.o.size));have BX:=aD (aQ BX.o hb (aO BX.o));have x0:=aB BX.o 0 rfl;clear hb)
     | (go_at_call 99;refine(HZ.o _ HB.o).mono ?_;rintro e w1 ⟨rfl,hb⟩;have HB:=aD (HB.o.trans (hb.mono HB.o.size));have BX:=aD (aQ BX.o hb (aO BX.o));have x0:=aB BX.o 0 rfl;have x1:=aB BX.o 1 rfl;have x2:=aB BX.o 2 rfl;clear hb)
     | (go_at_call 100;refine(arW.o _ HB.o).mono ?_;rintro e w1 ⟨rfl,hb⟩;have HB:=aD (HB.o.trans (hb.mono HB.o.size));have BX:=aD (aQ BX.o hb (aO BX.o));have x1:=aB BX.o 1 rfl;clear hb)
     | (go_at_call 101;refine(WN.o _ HB.o).mono ?_;rintro e w1 ⟨rfl,hb⟩;have HB:=aD (HB.o.trans (hb.mono HB.o.size));have BX:=aD (aQ BX.o hb (aO BX.o));have x0:=aB BX.o 0 rfl;have x1:=aB BX.o 1 rfl;have x2:=aB BX.o 2 rfl;clear hb)
     | (go_at_call 102;refine(arU.o _ HB.o).mono ?_;rintro e w1 ⟨rfl,hb⟩;have HB:=aD (HB.o.trans (hb.mono HB.o.size));clear hb))
    go_ret;exact⟨rfl,HB.o⟩
 · have hc':(C==0)=false:=by grind
   rw[bl hc];go_enter Tryz.func53,Tryz.ntmps53;go_wp2_with (go_at_call 98;refine(LK.o _ HB.o).mono ?_;rintro e w1 ⟨rfl,hb⟩;have HB:=aD (HB.o.trans (hb.mono HB.o.size));clear hb)
   go_ret;exact⟨rfl,HB.o⟩
structure kF where
 i:vg
 a:IW
 base:Int
def ajs:kF:=⟨⟨⟨#[]⟩,[],[],[],[],0⟩,⟨none,0,none,0,none,0,none,0⟩,0⟩
def eN (l:List kF) (k:Nat):kF:=l.getD k ajs
def oX (o:kF):Array Value:=#[.string o.i.name,.slice o.a.an o.i.needs.length o.a.cn,.slice o.a.ag o.i.jU.length o.a.cg,.slice o.a.ay o.i.syms.length o.a.cy,.slice o.a.ar o.i.pI.length o.a.cr,I o.i.entry,I o.base]
def Oe (w:World) (b off:Nat) (l:List kF):Prop:=∀k,k<l.length ->
 (w.cell? (Ad b (off+k*7))=some (.string (eN l k).i.name)/\w.cell? (Ad b (off+k*7+1))=some (.slice (eN l k).a.an (eN l k).i.needs.length (eN l k).a.cn) /\
  w.cell? (Ad b (off+k*7+2))=some (.slice (eN l k).a.ag (eN l k).i.jU.length (eN l k).a.cg)/\w.cell? (Ad b (off+k*7+3))=some (.slice (eN l k).a.ay (eN l k).i.syms.length (eN l k).a.cy) /\
  w.cell? (Ad b (off+k*7+4))=some (.slice (eN l k).a.ar (eN l k).i.pI.length (eN l k).a.cr)/\w.cell? (Ad b (off+k*7+5))=some (I (eN l k).i.entry)/\w.cell? (Ad b (off+k*7+6))=some (I (eN l k).base))/\pL w (eN l k).a (eN l k).i
theorem ag1 {w w':World} {b off:Nat} {l:List kF} (hb:Below w.heap.size w w') (hlt:b<w.heap.size) (h:Oe w b off l):Oe w' b off l:=fun k hk=>by
 obtain⟨⟨c0,c1,c2,c3,c4,c5,c6⟩,hi⟩:=h k hk
 grind [gF,pL.below]
def Jm (w:World) (ao:Option Addr) (l:List kF):Prop:=iL Oe w ao l
theorem Jm.below {w w':World} {ao:Option Addr} {l:List kF} (h:Jm w ao l) (hb:Below w.heap.size w w'):Jm w' ao l:=iL.below (lie:=Oe) (fun hb hlt h=>ag1 hb hlt h) h hb
def vA (i:vg):pA:=fu i.jU (i.jU.length-1)
def wA (o:kF):Int:=o.base+(vA o.i).page+(vA o.i).aR
def wU (o:kF) (WK:Int):Int:=o.base*16+WK
def uB (s:pA):Int:=if s.wr then (if s.ex then 3 else 1) else (if s.ex then 2 else 0)
theorem wk {i:vg} (hc:mG i=0) (k:Nat) (hk:k<i.jU.length):0<=(fu i.jU k).page/\1<=(fu i.jU k).aR/\(fu i.jU k).page+(fu i.jU k).aR<=255/\((fu i.jU k).data.size:Int)<=(fu i.jU k).aR*16:=by
 unfold mG at hc;split at hc
 · omega
 · split at hc
   · omega
   · split at hc
     · omega
     · rename_i h
       have h':K0 i=true:=by grind
       unfold K0 at h';have:=OJ kZ Gp i.jU k hk h';unfold kZ at this;exact jH this
theorem uI {i:vg} (hc:mG i=0):1<=i.jU.length/\i.jU.length<=6/\i.needs.length<=4/\i.syms.length<=12/\i.pI.length<=16:=by
 grind [mG,Bt]
theorem Ea {i:vg} (hc:mG i=0):0<=(vA i).page/\1<=(vA i).aR/\(vA i).page+(vA i).aR<=255:=by
 have h1:=uI hc;have h2:=wk hc (i.jU.length-1) (by omega);exact⟨h2.1,h2.2.1,h2.2.2.1⟩
theorem Z6 (o:kF) (w:World) (h:pL w o.a o.i) (hc:mG o.i=0) (h0:0<=o.base) (h1:o.base<=100000) :
  Calls Tryz.prog 134 #[.agg (oX o)] w fun e w'=>e=.returned (I (wA o))/\Below w.heap.size w w':=by
 have hl:=Ea hc;have hn:=uI hc;have HS:=h.jU;obtain⟨⟨nm,ns,gs,ys,rs,en⟩,⟨an,cn,ag,cg,ay,cy,ar,cr⟩,ba⟩:=o;simp only[oX];simp only at HS hn h0 h1;obtain⟨b,off,hag,hbl,fG⟩:=HS (by omega);subst hag;have E:Hid (wA ⟨⟨nm,ns,gs,ys,rs,en⟩,⟨an,cn,some (Ad b off),cg,ay,cy,ar,cr⟩,ba⟩=ba+(fu gs (gs.length-1)).page+(fu gs (gs.length-1)).aR):=rfl;have hl':0<=(fu gs (gs.length-1)).page/\1<=(fu gs (gs.length-1)).aR/\(fu gs (gs.length-1)).page+(fu gs (gs.length-1)).aR<=255:=hl;obtain⟨c0,c1,c2,c3,c4⟩:=fG (gs.length-1) (by omega);rw[E.o];obtain⟨s,hs⟩:=ex (fu gs (gs.length-1));rw[<- hs] at c0 c1 c2 c3 c4 hl';rw[<- hs];clear hs hl fG HS h E;obtain⟨G,hG⟩:=ex gs.length;rw[<- hG] at c0 c1 c2 c3 c4 hn;rw[<- hG];clear hG hc;have HB:=aD ((aK w.heap.size w).alloc (aM _) (.cells #[.string nm,.slice an ns.length cn,.slice (some (Ad b off)) G cg,.slice ay ys.length cy,.slice ar rs.length cr,I en,I ba] 195));go_enter Tryz.func134,Tryz.ntmps134;go_wp2;go_ret;exact⟨rfl,HB.o.alloc HB.o.size _⟩
theorem OV (o:kF) (WK:Int) (w:World) (h0:0<=o.base) (h1:o.base<=100000) (h2:0<=WK) (h3:WK<=100000) :
  Calls Tryz.prog 137 #[.agg (oX o),I WK] w fun e w'=>e=.returned (I (wU o WK))/\Below w.heap.size w w':=by
 obtain⟨⟨nm,ns,gs,ys,rs,en⟩,⟨an,cn,ag,cg,ay,cy,ar,cr⟩,ba⟩:=o;simp only[oX,wU];simp only at h0 h1;go_enter Tryz.func137,Tryz.ntmps137;go_wp2;go_ret;exact⟨rfl,(aK _ _).alloc (aM _) _⟩
theorem Xy (s:pA) (w:World) :
  Calls Tryz.prog 164 #[.agg #[I s.page,I s.aR,.string s.data,.bool s.wr,.bool s.ex]] w fun e w'=>e=.returned (I (uB s))/\Below w.heap.size w w':=by
 obtain⟨pg,pn,dt,wr,ex⟩:=s;have b1:bits BinOp.or IntKind.i64 0 1=1:=by decide
 have b2:bits BinOp.or IntKind.i64 0 2=2:=by decide
 have b3:bits BinOp.or IntKind.i64 1 2=3:=by decide
 cases wr <;> cases ex
 all_goals
  go_enter Tryz.func164,Tryz.ntmps164;go_wp2;go_ret;simp[uB,aK,mq]
theorem IL (i:vg) (a:IW) (w:World) (hf:IV i):Calls Tryz.prog 176 #[.agg (jV a i)] w fun e w'=>e=.returned (.bool (Bt i))/\Below w.heap.size w w':=by
 obtain⟨an,cn,ag,cg,ay,cy,ar,cr⟩:=a;obtain⟨nm,ns,gs,ys,rs,en⟩:=i;obtain⟨f1,f2,f3,f4,f5,f6,f7,f8,f9,f10⟩:=hf;simp only at f2 f4 f6 f8;unfold bY at f2 f4 f6 f8;simp only[jV,Bt];have eO:∀o,Hid (Below w.heap.size w (w.alloc o)):=fun o=>(aK w.heap.size w).alloc (aM _) o
 obtain⟨r,hr⟩:=ex (decide (1<=gs.length/\gs.length<=6/\ns.length<=4/\ys.length<=12/\rs.length<=16));rw[<- hr];have HR:=aD hr;clear hr f1 f3 f5 f7 f9 f10;obtain⟨ln,hln⟩:∃n,n=ns.length:=⟨_,rfl⟩;obtain⟨lg,hlg⟩:∃n,n=gs.length:=⟨_,rfl⟩;obtain⟨ly,hly⟩:∃n,n=ys.length:=⟨_,rfl⟩;obtain⟨lr,hlr⟩:∃n,n=rs.length:=⟨_,rfl⟩;rw[<- hln,<- hlg,<- hly,<- hlr] at HR;rw[<- hln,<- hlg,<- hly,<- hlr];rw[<- hln] at f2;rw[<- hlg] at f4;rw[<- hly] at f6;rw[<- hlr] at f8;clear hln hlg hly hlr;by_cases d1:1<=(lg:Int)
 · by_cases d2:(lg:Int)<=6
   · by_cases d3:(ln:Int)<=4
     · by_cases d4:(ly:Int)<=12
       · by_cases d5:(lr:Int)<=16
         · have e:r=true:=by grind [Hid.o]
           subst e;go_enter Tryz.func176,Tryz.ntmps176;go_wp2;go_ret;exact⟨rfl,(eO _).out⟩
         · have e:r=false:=by grind [Hid.o]
           subst e;go_enter Tryz.func176,Tryz.ntmps176;go_wp2;go_ret;exact⟨rfl,(eO _).out⟩
       · have e:r=false:=by grind [Hid.o]
         subst e;go_enter Tryz.func176,Tryz.ntmps176;go_wp2;go_ret;exact⟨rfl,(eO _).out⟩
     · have e:r=false:=by grind [Hid.o]
       subst e;go_enter Tryz.func176,Tryz.ntmps176;go_wp2;go_ret;exact⟨rfl,(eO _).out⟩
   · have e:r=false:=by grind [Hid.o]
     subst e;go_enter Tryz.func176,Tryz.ntmps176;go_wp2;go_ret;exact⟨rfl,(eO _).out⟩
 · have e:r=false:=by grind [Hid.o]
   subst e;have q4:decide ((1:Int)<=(lg:Int))=false:=dE d1;obtain rfl:lg=0:=by omega
   go_enter Tryz.func176,Tryz.ntmps176;go_wp2;go_ret;exact⟨rfl,(eO _).out⟩
theorem IK (l:List pA) (ao:Option Addr) (cap:Nat) (w:World) (h:iL yE w ao l) (hn:bY l.length) (hf:∀k,k<l.length->aeH (fu l k)) :
  Calls Tryz.prog 177 #[.slice ao l.length cap] w fun e w'=>e=.returned (.bool (l.all kZ))/\Below w.heap.size w w':=by
 unfold bY at hn;have H:=aD h;have F:=aD hf;clear h hf;go_enter Tryz.func177,Tryz.ntmps177;go_wp2;go_loopw [7] (fun i wr=>∃k:Nat,k<=l.length/\i=I k/\(∀j,j<k->kZ (fu l j)=true)/\Below w.heap.size w wr) (fun i _=>l.length-(intOf i).toNat)
 case atStart=>grind [Below.refl]
 case round =>
  obtain⟨k,hk,rfl,hall,hb⟩:=hrel;have HA:=aD hall;have HB:=aD hb;clear hall;by_cases hlt:k<l.length
  · obtain⟨b,off,hao,hbl,hl⟩:=H.o (by omega);subst hao;obtain⟨c0,c1,c2,c3,c4⟩:=yD hb hbl hl k hlt;obtain⟨g1,g2,g3⟩:=F.o k hlt;obtain⟨s,hs⟩:=ex (fu l k);rw[<- hs] at c0 c1 c2 c3 c4 g1 g2 g3;have HS:=aD hs;clear hs hb hl;obtain⟨p,n,d,x,y⟩:=s;simp only at c0 c1 c2 c3 c4 g1 g2 g3;unfold dY at g1 g2;unfold bY at g3;have Aw:(k:Int)<(l.length:Int):=by omega
    have hbad:Hid (¬(0<=p/\1<=n/\p+n<=255/\(d.size:Int)<=n*16)->l.all kZ=false):=fun hx =>
     Ma kZ Gp l k hlt (by show kZ (fu l k)=false;rw[<- HS.o];exact dE hx)
    by_cases d1:0<=p
    · have d1':¬p<0:=by omega
      by_cases d2:1<=n
      · have d2':¬n<1:=by omega
        by_cases d3:p+n<=255
        · have d3':¬255-p<n:=by omega
          by_cases d4:(d.size:Int)<=n*16
          · have d4':¬n*16<(d.size:Int):=by omega
            have xI:Hid (kZ ⟨p,n,d,x,y⟩=true):=dh ⟨d1,d2,d3,d4⟩;go_wp2;go_roundw
            case rel=>exact⟨k+1,by omega,by go_num,fun j h=>if e:j=k then by rw[e,<- HS.o];exact xI.out else HA.o j (by omega),HB.o.alloc HB.o.size _⟩
            case measure=>simp[intOf];omega
          · have d4':n*16<(d.size:Int):=by omega
            have HR:=aD (hbad.out (by omega));go_wp2;go_ret;exact⟨lU HR.o.symm,HB.o.alloc HB.o.size _⟩
        · have d3':255-p<n:=by omega
          have HR:=aD (hbad.out (by omega));go_wp2;go_ret;exact⟨lU HR.o.symm,HB.o.alloc HB.o.size _⟩
      · have d2':n<1:=by omega
        have HR:=aD (hbad.out (by omega));go_wp2;go_ret;exact⟨lU HR.o.symm,HB.o.alloc HB.o.size _⟩
    · have d1':p<0:=by omega
      have HR:=aD (hbad.out (by omega));go_wp2;go_ret;exact⟨lU HR.o.symm,HB.o.alloc HB.o.size _⟩
  · obtain rfl:k=l.length:=by omega
    have HR:=aD (G6 kZ Gp l (fun j hj=>HA.o j hj));clear hb;go_wp2;go_ret;exact⟨lU HR.o.symm,HB.o⟩
theorem Xt (l:List pA) (k n:Nat) (h:rC l k=false) (hk:k<=n):rC l n=false:=by
 induction n with
 | zero=>grind
 | succ n ih =>
  grind [rC]
theorem Z0 (l:List pA) (k:Nat) (hk:k<l.length) (h:rC l (k+1)=false):Bu l=false:=Xt l (k+1) l.length h hk
theorem QU (l:List pA) (ao:Option Addr) (cap:Nat) (w:World) (h:iL yE w ao l) (hn:bY l.length) (hr:l.all kZ=true) :
  Calls Tryz.prog 178 #[.slice ao l.length cap] w fun e w'=>e=.returned (.bool (!Bu l))/\Below w.heap.size w w':=by
 unfold bY at hn;have H:=aD h;have F:=aD hr;clear h hr;go_enter Tryz.func178,Tryz.ntmps178;go_wp2;go_loopw [3] (fun i wr=>∃k:Nat,1<=k/\(k<=l.length∨k=1)/\i=I k/\rC l k=true/\Below w.heap.size w wr) (fun i _=>l.length-(intOf i).toNat)
 case atStart=>exact⟨1,by omega,.inr rfl,rfl,rfl,aK _ _⟩
 case round =>
  obtain⟨k,hk1,hk,rfl,hall,hb⟩:=hrel;have HA:=aD hall;have HB:=aD hb;clear hall;by_cases hlt:k<l.length
  · obtain⟨b,off,hao,hbl,hl⟩:=H.o (by omega);subst hao;obtain⟨c0,c1,c2,c3,c4⟩:=yD hb hbl hl k hlt;obtain⟨e0,e1,e2,e3,e4⟩:=yD hb hbl hl (k-1) (by omega);have g1:0<=(fu l (k-1)).page/\1<=(fu l (k-1)).aR/\(fu l (k-1)).page+(fu l (k-1)).aR<=255/\_:=jH (OJ kZ Gp l (k-1) (by omega) F.o);have hov:Hid (rC l (k+1)=decide ((fu l (k-1)).page+(fu l (k-1)).aR<=(fu l k).page)):=by
     show _=_;simp only[rC,HA.o,ni,Xx]
     grind
    obtain⟨s,hs⟩:=ex (fu l k);obtain⟨t,ht⟩:=ex (fu l (k-1));rw[<- hs] at c0 c1 c2 c3 c4 hov;rw[<- ht] at e0 e1 e2 e3 e4 g1 hov;clear hs ht hb hl;obtain⟨sp,sn,sd,sx,sy⟩:=s;obtain⟨tp,tn,td,tx,ty⟩:=t;simp only at c0 c1 c2 c3 c4 e0 e1 e2 e3 e4 g1 hov;obtain⟨g1,g2,g3,g4⟩:=g1;clear c1 c2 c3 c4 e2 e3 e4 g4;have Aw:(k:Int)<(l.length:Int):=by omega
    have rB:=gw wr;have hkc:=@gy wr;have hbr:b<wr.heap.size:=jt hbl HB.o.size;have k0:∀x:dB wr.heap.size wr,x.world.cell? (Ad b (off+k*5))=some (I sp):=fun x=>by rw[hkc x _ _ hbr,c0]
    have k1:∀x:dB wr.heap.size wr,x.world.cell? ⟨b,off+(k-1)*5,none⟩=some (I tp):=fun x=>by rw[hkc x _ _ hbr,e0]
    have k2:∀x:dB wr.heap.size wr,x.world.cell? ⟨b,off+(k-1)*5+1,none⟩=some (I tn):=fun x=>by rw[hkc x _ _ hbr,e1]
    clear hkc c0 e0 e1;by_cases d:sp<tp+tn
    · have hno:Hid (rC l (k+1)=false):=by show _=_;rw[hov.out];exact dE (by omega)
      go_wp2;refine cD (by kernel_rfl) (by kernel_rfl) ?_
      repeat (first | go_big_quiet_step (fail) | quiet_step (fail))
      refine fR ?_;intro _ hw';obtain⟨x,hw''⟩:=hw';subst hw'';go_wp2;go_ret;exact⟨lU (by rw[Z0 l k hlt hno.out];rfl),HB.o.trans (x.keeps.mono HB.o.size)⟩
    · have alb:Hid (rC l (k+1)=true):=by show _=_;rw[hov.out];exact dh (by omega)
      go_wp2;refine cD (by kernel_rfl) (by kernel_rfl) ?_
      repeat (first | go_big_quiet_step (fail) | quiet_step (fail))
      refine fR ?_;intro _ hw';obtain⟨x,hw''⟩:=hw';subst hw'';go_wp2;go_roundw
      case rel=>exact⟨k+1,by omega,.inl (by omega),by go_num,alb.out,HB.o.trans (x.keeps.mono HB.o.size)⟩
      case measure=>simp[intOf];omega
  · have HR:Hid (Bu l=true):=by
     show _=_;unfold Bu;rcases hk with hk | hk
     · rw[show l.length=k by omega];exact HA.o
     · rcases Ig l.length 1 with h0 | h0
       · rw[show l.length=0 by omega];rfl
       · rw[show l.length=k by omega];exact HA.o
    have hge:¬(k:Int)<(l.length:Int):=by omega
    clear hb;go_wp2;go_ret;exact⟨lU (by rw[HR.o];rfl),HB.o⟩
def yB (s:pA):Array Value:=#[I s.page,I s.aR,.string s.data,.bool s.wr,.bool s.ex]
def Cw (l:List pA) (a:Int):pA:=(rX l a).getD Gp
theorem Cy:∀(l:List pA) (a:Int),(∀j,j<l.length->rp (fu l j) a=false)->rX l a=none
 | [],_,_=>rfl
 | s::r,a,h=>by
  have h0:rp s a=false:=h 0 (by simp);unfold rX;rw[h0,bl (by simp)];exact Cy r a (fun j hj=>h (j+1) (by grind))
theorem Cx:∀(l:List pA) (a:Int) (k:Nat),k<l.length->(∀j,j<k->rp (fu l j) a=false)->rp (fu l k) a=true->rX l a=some (fu l k)
 | s::r,a,0,_,_,h=>by
  have h0:rp s a=true:=h;unfold rX;rw[h0,bf rfl];rfl
 | s::r,a,k+1,hk,hj,h=>by
  have h0:rp s a=false:=hj 0 (by omega);unfold rX;rw[h0,bl (by simp)];exact Cx r a k (by grind) (fun j h=>hj (j+1) (by omega)) h
theorem OE {l:List pA} (h:l.all kZ=true) (k:Nat) (hk:k<l.length):0<=(fu l k).page/\1<=(fu l k).aR/\(fu l k).page+(fu l k).aR<=255/\((fu l k).data.size:Int)<=(fu l k).aR*16 :=
 jH (OJ kZ Gp l k hk h)
theorem Xr {l:List pA} (h:l.all kZ=true) (a:Int) (ha:a<0):rX l a=none :=
 Cy l a (fun j hj=>by
  have:=OE h j hj;exact dE (by omega))
theorem KV {a b:pA} {x y:Bool} (h:a=b) (g:x=y):Ending.returned (.tuple #[.agg (yB a),.bool x])=.returned (.tuple #[.agg (yB b),.bool y]):=by rw[h,g]
theorem zT (l:List pA) (ao:Option Addr) (cap:Nat) (a:Int) (w:World) (h:iL yE w ao l) (hn:bY l.length) (hr:l.all kZ=true) (ha:dY a) :
  Calls Tryz.prog 199 #[.slice ao l.length cap,I a] w fun e w'=>e=.returned (.tuple #[.agg (yB (Cw l a)),.bool (je l a)])/\Below w.heap.size w w':=by
 unfold bY at hn;unfold dY at ha;have H:=aD h;have F:=aD hr;clear h hr;by_cases h0:a<0
 · have HN:=aD (Xr F.o a h0);have HZ:=aD ((aK w.heap.size w).alloc (aM _) (.cells #[I 0,I 0,.string ⟨#[]⟩,.bool false,.bool false] 145));go_enter Tryz.func199,Tryz.ntmps199;go_wp2;exact bR (v:=.tuple #[.agg #[I 0,I 0,.string ⟨#[]⟩,.bool false,.bool false],.bool false]) (by simp[results,Tryz.results199,go_sem]) rfl ⟨KV (a:=Gp) (x:=false) (by grind [Cw,Hid.o]) (by grind [je,Hid.o]),HZ.o⟩
 · have hbz:Below w.heap.size w (w.alloc (.cells #[I 0,I 0,.string ⟨#[]⟩,.bool false,.bool false] 145)):=(aK _ _).alloc (aM _) _;have HZ:=aD hbz;clear hbz;go_enter Tryz.func199,Tryz.ntmps199;go_wp2;go_loopw [16] (fun i wr=>∃k:Nat,k<=l.length/\i=I k/\(∀j,j<k->rp (fu l j) a=false)/\Below (w.heap.size+1) (w.alloc (.cells #[I 0,I 0,.string ⟨#[]⟩,.bool false,.bool false] 145)) wr) (fun i _=>l.length-(intOf i).toNat)
   case atStart=>grind [Below.refl]
   case round =>
    obtain⟨k,hk,rfl,hno,hb⟩:=hrel;have HN:=aD hno;have HB:=aD hb;have iF:Hid (Below w.heap.size w wr):=HZ.o.trans (hb.mono (xL _));have hsz:w.heap.size+1<=wr.heap.size:=by have:=hb.size;simpa using this
    have HR:=aD (aQ (bG w #[I 0,I 0,.string ⟨#[]⟩,.bool false,.bool false] 145) hb (Fs _));clear hno hb;by_cases hlt:k<l.length
    · obtain⟨b,off,hao,hbl,hl⟩:=H.o (by omega);subst hao;obtain⟨c0,c1,c2,c3,c4⟩:=yD iF.out hbl hl k hlt;obtain⟨g1,g2,g3,g4⟩:=OE F.o k hlt;obtain⟨s,hs⟩:=ex (fu l k);rw[<- hs] at c0 c1 c2 c3 c4 g1 g2 g3 g4;have HS:=aD hs;clear hs hl;obtain⟨p,n,d,x,y⟩:=s;simp only at c0 c1 c2 c3 c4 g1 g2 g3 g4;have Aw:(k:Int)<(l.length:Int):=by omega
      clear g4;by_cases d1:p<=a/16
      · by_cases d2:a/16<p+n
        · have hin:Hid (rp (fu l k) a=true):=by show _=_;rw[<- HS.o];exact dh (show p*16<=a/\a<(p+n)*16 by omega)
          have t0:=aB (bE HR.o (.cells #[I p,I n,.string d,.bool x,.bool y] 145)) 0 rfl;have t1:=aB (bE HR.o (.cells #[I p,I n,.string d,.bool x,.bool y] 145)) 1 rfl;have t2:=aB (bE HR.o (.cells #[I p,I n,.string d,.bool x,.bool y] 145)) 2 rfl;have t3:=aB (bE HR.o (.cells #[I p,I n,.string d,.bool x,.bool y] 145)) 3 rfl;have t4:=aB (bE HR.o (.cells #[I p,I n,.string d,.bool x,.bool y] 145)) 4 rfl;have u0:=aJ (bE HR.o (.cells #[I p,I n,.string d,.bool x,.bool y] 145));have Qi:=aD (iF.out.alloc iF.out.size (.cells #[I p,I n,.string d,.bool x,.bool y] 145));go_wp2;exact bR (v:=.tuple #[.agg #[I p,I n,.string d,.bool x,.bool y],.bool true]) (by simp[results,Tryz.results199,go_sem,t0,t1,t2,t3,t4]) rfl ⟨KV (a:=⟨p,n,d,x,y⟩) (x:=true) (by unfold Cw;rw[Cx l a k hlt HN.o hin.out];exact HS.o) (by unfold je;rw[Cx l a k hlt HN.o hin.out];rfl),(((((Qi.o.setCell (aM _) _).setCell (aM _) _).setCell (aM _) _).setCell (aM _) _).setCell (aM _) _)⟩
        · have Dp:Hid (rp (fu l k) a=false):=by show _=_;rw[<- HS.o];exact dE (show ¬(p*16<=a/\a<(p+n)*16) by omega)
          go_wp2;go_roundw
          case rel=>exact⟨k+1,by omega,by go_num,fun j hj=>if e:j=k then by rw[e];exact Dp.out else HN.o j (by omega),HB.o.alloc (by omega) _⟩
          case measure=>simp[intOf];omega
      · have Dp:Hid (rp (fu l k) a=false):=by show _=_;rw[<- HS.o];exact dE (show ¬(p*16<=a/\a<(p+n)*16) by omega)
        go_wp2;go_roundw
        case rel=>exact⟨k+1,by omega,by go_num,fun j hj=>if e:j=k then by rw[e];exact Dp.out else HN.o j (by omega),HB.o.alloc (by omega) _⟩
        case measure=>simp[intOf];omega
    · obtain rfl:k=l.length:=by omega
      have HNo:=aD (Cy l a HN.o);have t0:=aB HR.o 0 rfl;have t1:=aB HR.o 1 rfl;have t2:=aB HR.o 2 rfl;have t3:=aB HR.o 3 rfl;have t4:=aB HR.o 4 rfl;have u0:=aJ HR.o;go_wp2;exact bR (v:=.tuple #[.agg #[I 0,I 0,.string ⟨#[]⟩,.bool false,.bool false],.bool false]) (by simp[results,Tryz.results199,go_sem,t0,t1,t2,t3,t4]) rfl ⟨KV (a:=Gp) (x:=false) (by unfold Cw;rw[HNo.o];rfl) (by unfold je;rw[HNo.o];rfl),(((((iF.out.setCell (aM _) _).setCell (aM _) _).setCell (aM _) _).setCell (aM _) _).setCell (aM _) _)⟩
theorem MW {l:List pA} (h:l.all kZ=true) (a:Int) (hp:je l a=true):0<=a/\a<4080:=by
 induction l with
 | nil=>cases hp
 | cons s r ih =>
  grind [kZ,je,rX,rp]
theorem IP (i:vg) (a:IW) (w:World) (h:pL w a i) (hf:IV i) (hr:i.jU.all kZ=true):Calls Tryz.prog 183 #[.agg (jV a i)] w fun e w'=>e=.returned (.bool (Br i))/\Below w.heap.size w w':=by
 obtain⟨an,cn,ag,cg,ay,cy,ar,cr⟩:=a;obtain⟨nm,ns,gs,ys,rs,en⟩:=i;obtain⟨h1,h2,h3,h4⟩:=h;obtain⟨f1,f2,f3,f4,f5,f6,f7,f8,f9,f10⟩:=hf;simp only at h1 h2 h3 h4 f1 f2 f3 f4 f5 f6 f7 f8 f9 f10;have F4:=aD f4;unfold bY at f2 f4 f6 f8;simp only[jV];have H2:=aD h2;have F10:=aD f10;have HG:=aD hr;clear h1 h2 h3 h4 f3 f5 f7 f9 f10 hr;have BOX:=aD (bG w #[.string nm,.slice an ns.length cn,.slice ag gs.length cg,.slice ay ys.length cy,.slice ar rs.length cr,I en] 151);have eO:=aD ((aK w.heap.size w).alloc (aM _) (.cells #[.string nm,.slice an ns.length cn,.slice ag gs.length cg,.slice ay ys.length cy,.slice ar rs.length cr,I en] 151));obtain⟨X,hX⟩:∃X:Array Value,X=#[.string nm,.slice an ns.length cn,.slice ag gs.length cg,.slice ay ys.length cy,.slice ar rs.length cr,I en]:=⟨_,rfl⟩;have HX:=aD hX;rw[<- hX] at BOX eO;clear hX;have aqk:=F10.o;unfold dY at aqk;have HE:Hid (Br ⟨nm,ns,gs,ys,rs,en⟩=(je gs en&&((Cw gs en).ex&&decide (en%8=0)))):=by
  show _=_
  grind [Br,je,Cw]
 rw[HE.o];have hpb:je gs en=true->0<=en:=fun h=>(MW HG.o en h).1
 obtain⟨sg,hsg⟩:=ex (Cw gs en);obtain⟨pb,xw⟩:=ex (je gs en);have HS:=aD hsg;have HP:=aD xw;rw[<- xw] at hpb;rw[<- hsg,<- xw];obtain⟨sp,sn,sd,sx,sy⟩:=sg;simp only;clear HE hsg xw;cases pb
 · clear hpb;go_enter Tryz.func183,Tryz.ntmps183;go_wp2_with fail
   rw[<- HX.o];refine(zT gs ag cg en _ (iL.below (lie:=yE) (fun hb hlt h=>yD hb hlt h) H2.o eO.o) F4.o HG.o F10.o).mono ?_;rintro e w2 ⟨rfl,hb2⟩;have fq:=aD (eO.o.trans (hb2.mono eO.o.size));have BX2:=aD (aQ BOX.o hb2 (aO BOX.o));clear hb2;rw[<- HS.o,<- HP.o];simp only[yB];go_wp2;go_ret;exact⟨rfl,fq.o.alloc fq.o.size _⟩
 · have hp:=hpb rfl;clear hpb;cases sy
   · go_enter Tryz.func183,Tryz.ntmps183;go_wp2_with fail
     rw[<- HX.o];refine(zT gs ag cg en _ (iL.below (lie:=yE) (fun hb hlt h=>yD hb hlt h) H2.o eO.o) F4.o HG.o F10.o).mono ?_;rintro e w2 ⟨rfl,hb2⟩;have fq:=aD (eO.o.trans (hb2.mono eO.o.size));have BX2:=aD (aQ BOX.o hb2 (aO BOX.o));clear hb2;rw[<- HS.o,<- HP.o];simp only[yB];go_wp2;go_ret;exact⟨rfl,fq.o.alloc fq.o.size _⟩
   · by_cases d:en%8=0
     · rw[dh d];go_enter Tryz.func183,Tryz.ntmps183;go_wp2_with fail
       rw[<- HX.o];refine(zT gs ag cg en _ (iL.below (lie:=yE) (fun hb hlt h=>yD hb hlt h) H2.o eO.o) F4.o HG.o F10.o).mono ?_;rintro e w2 ⟨rfl,hb2⟩;have fq:=aD (eO.o.trans (hb2.mono eO.o.size));have BX2:=aD (aQ BOX.o hb2 (aO BOX.o));have Gb:=aO BX2.o;have by5:=aB BX2.o 5 (by rw[HX.o];rfl);clear hb2;rw[<- HS.o,<- HP.o];simp only[yB];go_wp2;go_ret;exact⟨rfl,fq.o.alloc fq.o.size _⟩
     · rw[dE d];go_enter Tryz.func183,Tryz.ntmps183;go_wp2_with fail
       rw[<- HX.o];refine(zT gs ag cg en _ (iL.below (lie:=yE) (fun hb hlt h=>yD hb hlt h) H2.o eO.o) F4.o HG.o F10.o).mono ?_;rintro e w2 ⟨rfl,hb2⟩;have fq:=aD (eO.o.trans (hb2.mono eO.o.size));have BX2:=aD (aQ BOX.o hb2 (aO BOX.o));have Gb:=aO BX2.o;have by5:=aB BX2.o 5 (by rw[HX.o];rfl);clear hb2;rw[<- HS.o,<- HP.o];simp only[yB];go_wp2;go_ret;exact⟨lU (by grind),fq.o.alloc fq.o.size _⟩
end Go.Proofs.YtpgifpeohlllfaaGreat
namespace Go.Proofs.YtpgifpeohlllfaaGreat
open Go.RowKit Go.WideMaps Go.Maps
theorem OG:Keyed Tryz.prog 9:=string_keyed Tryz.underlying9
theorem Uj (w:World):(zeroValue 3).run Tryz.prog w=.ok (I 0) w:=by rfl
def Ax (s:ByteArray):Lit:=.string s.data.toList
theorem G5 {s t:ByteArray} (h:Ax s=Ax t):s=t:=by
 unfold Ax at h;injection h with h;cases s;simp_all
theorem SN {s:ByteArray} (h:bY s.size):keyOf Tryz.prog 9 (.string s)=some (Ax s):=keyOf_string_mk Tryz.underlying9 (by grind [bY,maxLen])
instance ajm:LawfulBEq ByteArray where
 eq_of_beq {a b} h:=by
  cases a;cases b;congr 1;exact eq_of_beq (α:=Array UInt8) h
 rfl {a}:=by
  cases a;exact beq_self_eq_true (α:=Array UInt8) _
def ab3 (l:List ByteArray) (k:Nat) (D:DataW Unit):Prop:=∀s:ByteArray,D.atKey (Ax s) (.lit (.int .i64 0))=.lit (.int .i64 (if (l.take k).contains s then 1 else 0))
theorem ZY (l:List ByteArray):ab3 l 0 (.map []):=fun s=>by rfl
theorem Dq (l:List ByteArray) (k:Nat) (hk:k<l.length) (s:ByteArray):(l.take (k+1)).contains s=((l.take k).contains s || s==qm l k):=by
 grind [List.take_add_one,qm]
theorem ZZ {l:List ByteArray} {k:Nat} {D:DataW Unit} (hk:k<l.length) (hD:IsMap D) (h:ab3 l k D):ab3 l (k+1) (D.put (Ax (qm l k)) (.lit (.int .i64 1))):=fun s=>by
 rw[Dq l k hk s];by_cases e:s=qm l k
 · subst e;rw[atKey_put_same hD (by trivial)];simp
 · rw[atKey_put_other (fun g=>e (G5 g)),h s]
   grind
theorem Xu (l:List ByteArray) (k n:Nat) (h:oq l k=false) (hk:k<=n):oq l n=false:=by
 induction n with
 | zero=>grind
 | succ n ih =>
  grind [oq]
theorem Xp (l:List ByteArray) (ao:Option Addr) (cap:Nat) (w:World) (h:iL OL w ao l) (hn:bY l.length) (hf:∀k,k<l.length->bY (qm l k).size) :
  Calls Tryz.prog 179 #[.slice ao l.length cap] w fun e w'=>e=.returned (.bool (!wj l))/\Below w.heap.size w w':=by
 unfold bY at hn;have H:=aD h;have F:=aD hf;clear h hf;have hmm:=@run_makeMap Tryz.prog;go_enter Tryz.func179,Tryz.ntmps179;go_wp2;go_loopw [9] (fun i wr=>∃(k:Nat) (D:DataW Unit),k<=l.length/\i=I k/\wr.ownsMap Tryz.prog 9 (plainElem Tryz.prog 3) w.heap.size k D/\ab3 l k D/\oq l k=true/\Below w.heap.size w wr) (fun i _=>l.length-(intOf i).toNat)
 case atStart=>exact⟨0,.map [],ql _,rfl,World.ownsMap_made _ _ _ _,ZY l,rfl,(aK _ _).alloc (aM _) _⟩
 case round =>
  obtain⟨k,D,hk,rfl,hown,agG,Xb,hb⟩:=hrel;have HO:=aD Xb;have HC:=aD agG;have HB:=aD hb;have HW:=aD hown;clear Xb agG;by_cases hlt:k<l.length
  · obtain⟨b,off,hao,hbl,hl⟩:=H.o (by omega);subst hao;have Aw:(k:Int)<(l.length:Int):=by omega
    have c0:=aeG hb hbl hl k hlt;have fs:=F.o k hlt;have HCS:=aD (ZZ hlt hown.isMap HC.o);have HN:Hid (oq l (k+1)=!(l.take k).contains (qm l k)):=by show(oq l k&&_)=_;rw[HO.o];rfl
    have hcx:=HC.o (qm l k);obtain⟨s,hs⟩:=ex (qm l k);rw[<- hs] at c0 fs HCS HN hcx;clear hs hb hl;have hkey:=SN fs;obtain⟨c,hrun,hat,_⟩:=hown.lookup_int OG Tryz.underlying272 Tryz.underlying3 (Uj _) hkey;rw[hcx] at hat
    have jn:k<maxLen:=by unfold maxLen;omega
    cases hc:(l.take k).contains s
    · rw[hc] at hat HN;have e:c=0:=by grind
      subst e;clear hat hcx;go_wp2_with (first | (at_mapUpdate;refine T6 _ rfl _ _ _ 272 rfl 9 3 OG Tryz.underlying272 _ w.heap.size k _ rfl HW.o jn _ _ _ rfl rfl hkey _ [] (plainElem_int Tryz.underlying3 (by decide)) ?_) | go_in)
      intro w1 hown1 hgrow1;have R2:=aD (HB.o.grown hgrow1 HB.o.size (fun j hj=>by grind));obtain⟨c,ali,KU,_⟩:=hown1.lookup_int OG Tryz.underlying272 Tryz.underlying3 (Uj _) hkey;rw[atKey_put_same HW.o.isMap (by trivial)] at KU;have e:c=1:=by injection KU with KU;injection KU with _ KU;omega
      subst e;have E4:=aD hown1;clear KU hown hrun hgrow1 hown1;go_wp2;go_roundw
      case rel=>exact⟨k+1,_,by omega,by go_num,E4.o,HCS.o,HN.o,R2.o⟩
      case measure=>simp[intOf];omega
    · rw[hc] at hat HN;have e:c=1:=by grind
      subst e;clear hat hcx;have HR:=aD (Xu l (k+1) l.length HN.o hlt);go_wp2_with (first | (at_mapUpdate;refine T6 _ rfl _ _ _ 272 rfl 9 3 OG Tryz.underlying272 _ w.heap.size k _ rfl HW.o jn _ _ _ rfl rfl hkey _ [] (plainElem_int Tryz.underlying3 (by decide)) ?_) | go_in)
      intro w1 hown1 hgrow1;have R2:=aD (HB.o.grown hgrow1 HB.o.size (fun j hj=>by grind));obtain⟨c,ali,KU,_⟩:=hown1.lookup_int OG Tryz.underlying272 Tryz.underlying3 (Uj _) hkey;rw[atKey_put_same HW.o.isMap (by trivial)] at KU;have e:c=2:=by injection KU with KU;injection KU with _ KU;omega
      subst e;clear KU hown hrun hgrow1 hown1;go_wp2;go_ret;exact⟨lU (by unfold wj;rw[HR.o];rfl),R2.o⟩
  · obtain rfl:k=l.length:=by omega
    clear hb;go_wp2;go_ret;exact⟨lU (by unfold wj;rw[HO.o];rfl),HB.o⟩
end Go.Proofs.YtpgifpeohlllfaaGreat
end Go.Proofs.YtpgifpeohlllfaaGreat
