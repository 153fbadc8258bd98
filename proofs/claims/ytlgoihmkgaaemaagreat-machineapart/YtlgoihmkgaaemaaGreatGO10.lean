import Derived.Test.YtlgoihmkgaaemaaGreatGO09
set_option maxHeartbeats 20000000
set_option linter.unusedVariables false
set_option maxRecDepth 100000
set_option linter.unusedSimpArgs false
namespace Go.Proofs.YtlgoihmkgaaemaaGreat
open Go.RowKit
theorem adY {s t:ByteArray} {a b:Int} (h:s=t) (g:a=b):Ending.returned (.tuple #[.string s,I a])=.returned (.tuple #[.string t,I b]):=by rw[h,g]
theorem YU (s:bG) (w:World) (h:qZ w s.ao s.eZ) (hf:DN s) :
  Calls Tryz.prog 72 #[.agg (vw s)] w fun e w'=>e=.returned (.tuple #[.string (mK s).1,I (mK s).2])/\Below w.heap.size w w':=by
 have HR:Hid (∀W,Below w.heap.size w W->Calls Tryz.prog 122 #[.agg (vw s)] W fun e w'=>e=.returned (.bool (dw s))/\Below W.heap.size W w'):=fun W hb=>A5 s W (h.below hb) hf
 obtain⟨f1,f2,f3,f4⟩:=hf;obtain⟨pg,dt,fs,ao,cap⟩:=s;simp only at f1 f2 f3 f4;unfold b7 at f2 f3;simp only[vw] at HR;simp only[vw];have hdl:dt.size<=maxLen:=by grind [maxLen]
 have F4:=aA f4;have HH:=aA h;clear f4 h f1;have HB:=aA ((aK w.heap.size w).alloc (aD _) (.cells #[I pg,.string dt,.slice ao fs.length cap] 145));have BX:=aA (bB w #[I pg,.string dt,.slice ao fs.length cap] 145);by_cases hs:dw ⟨pg,dt,fs,ao,cap⟩=true
 · have HN:Hid (mK ⟨pg,dt,fs,ao,cap⟩=(tS dt fs fs.length,0)):=by
    show _=_;unfold mK;rw[aB hs];rfl
   obtain⟨hd,hfx⟩:pE ⟨pg,dt,fs,ao,cap⟩=true/\fU fs fs.length=true:=by
    grind [dw]
   have h16:dt.size=16:=by
    grind [pE]
   have HFX:=aA hfx;rw[hs] at HR;clear hs hd hfx;go_enter Tryz.func72,Tryz.ntmps72;go_wp2_with (first | (go_at_call 122;refine(HR.o _ HB.o).mono ?_;rintro e w1 ⟨rfl,hb⟩;have HB:=aA (HB.o.trans (hb.mono HB.o.size));have BX:=aA (aN BX.o hb (aJ BX.o));have q0:=aq BX.o 0 rfl;have q1:=aq BX.o 1 rfl;have q2:=aq BX.o 2 rfl;clear hb) | (go_at_call 123;refine(Sd _ _ (by omega)).mono ?_;rintro e w2 ⟨rfl,hb⟩;have HB:=aA (HB.o.trans (hb.mono HB.o.size));have BX:=aA (aN BX.o hb (aJ BX.o));have q0:=aq BX.o 0 rfl;have q1:=aq BX.o 1 rfl;have q2:=aq BX.o 2 rfl;clear hb))
   go_loopw [16,4] (fun i d wr=>∃k:Nat,k<=fs.length/\i=I k/\d=.string (tS dt fs k)/\Below w.heap.size w wr) (fun i _ _=>fs.length-(intOf i).toNat)
   case atStart=>exact⟨0,by omega,rfl,rfl,HB.o⟩
   case round =>
    obtain⟨k,hk,rfl,rfl,hb⟩:=hrel;have AH:=aA hb;by_cases hlt:k<fs.length
    · obtain⟨b,off,hao,hbl,eY⟩:=(HH.o.below hb) (by omega);subst hao;obtain⟨c0,c1⟩:=eY k hlt;have hok:=(A9 _ _).1 (Ik fs fs.length HFX.o k hlt);have hgk:fU fs k=true:=by
       cases e:fU fs k
       · rw[xj fs k fs.length (by omega) e] at HFX;cases HFX
       · rfl
      have hed:=sY fs k hgk;have hsz:=zY dt fs h16 k hgk;have wW:Hid (tS dt fs (k+1)=iD (tS dt fs k) (nX fs k).off.toNat (nX fs k).bytes):=rfl;obtain⟨f,Vz⟩:=ex (nX fs k);rw[<- Vz] at c0 c1 hok wW;obtain⟨D,hD⟩:=ex (tS dt fs k);rw[<- hD] at hsz wW;rw[<- hD];obtain⟨o,ho⟩:∃o:Nat,f.off=(o:Int):=⟨f.off.toNat,by omega⟩;rw[ho] at c0 hok;rw[ho,jz] at wW;clear Vz hD hgk eY hb;have jk:=aA (AH.o.alloc AH.o.size (.cells #[I (o:Int),.string f.bytes] 226));go_wp2_with (go_at_call 124;refine(JN D f.bytes o _ (by omega) (by omega)).mono ?_;rintro e w3 ⟨rfl,hb⟩;have jk:=aA (jk.o.trans (hb.mono jk.o.size));clear hb)
      go_roundw
      case rel=>exact⟨k+1,by omega,by go_num,by rw[wW.o],jk.o⟩
      case measure=>simp[intOf];omega
    · obtain rfl:k=fs.length:=by omega
      go_wp2
      go_ret2
      exact⟨adY (by rw[HN.o]) (by rw[HN.o]),AH.o⟩
 · have hs':dw ⟨pg,dt,fs,ao,cap⟩=false:=by grind
   have HN:Hid (mK ⟨pg,dt,fs,ao,cap⟩=(⟨#[]⟩,1)):=by
    show _=_
    grind [mK]
   rw[hs'] at HR;clear hs hs';rw[HN.o];go_enter Tryz.func72,Tryz.ntmps72;go_wp2_with (go_at_call 122;refine(HR.o _ HB.o).mono ?_;rintro e w1 ⟨rfl,hb⟩;have HB:=aA (HB.o.trans (hb.mono HB.o.size));clear hb)
   go_ret2
   exact⟨rfl,HB.o⟩
open Go.RowKit
def jd (f:lV):List Value:=[.string f.data,I f.refs,.bool f.jG,.bool f.seen]
def jc (f:pd):List Value:=[.string f.data,I f.refs]
def bw (e:bD):List Value:=[I e.page,I e.kind,I e.loc]
def adn {α:Type} (f:α->List Value) (k:Nat) (d:α) (w:World) (b off:Nat) (l:List α):Prop:=∀i,i<l.length->∀j,j<k->w.cell? (Ad b (off+i*k+j))=(f (l.getD i d))[j]?
def eB {α:Type} (f:α->List Value) (k:Nat) (d:α) (w:World) (ao:Option Addr) (l:List α):Prop:=gU (adn f k d) w ao l
theorem eB.below {α:Type} {f:α->List Value} {k:Nat} {d:α} {w w':World} {ao:Option Addr} {l:List α} (h:eB f k d w ao l) (hb:Below w.heap.size w w'):eB f k d w' ao l :=
 gU.below (lie:=adn f k d) (fun hb hlt h i hi j hj=>(cM hb hlt).trans (h i hi j hj)) h hb
def KZ (w:World) (b off:Nat) (l:List cZ):Prop:=∀i,i<l.length->∃va ap cp,w.cell? (Ad b (off+i*3))=some (.bool (ak l i).live)/\w.cell? (Ad b (off+i*3+1))=some va/\w.cell? (Ad b (off+i*3+2))=some (.slice ap (ak l i).bf.length cp)/\gD w va (ak l i).aT/\eB bw 3 gY w ap (ak l i).bf/\(ak l i).bf.length<=cp
theorem af1 {w w':World} {b off:Nat} {l:List cZ} (hb:Below w.heap.size w w') (hlt:b<w.heap.size) (h:KZ w b off l):KZ w' b off l:=fun i hi=>by
 obtain⟨va,ap,cp,c0,c1,c2,c3,c4,c5⟩:=h i hi;exact⟨va,ap,cp,(cM hb hlt).trans c0,(cM hb hlt).trans c1,(cM hb hlt).trans c2,c3.below hb,c4.below hb,c5⟩
def Aa (w:World) (ao:Option Addr) (l:List cZ):Prop:=gU KZ w ao l
theorem Aa.below {w w':World} {ao:Option Addr} {l:List cZ} (h:Aa w ao l) (hb:Below w.heap.size w w'):Aa w' ao l:=gU.below (lie:=KZ) (fun hb hlt h=>af1 hb hlt h) h hb
structure iH where
 aS:Option Addr
 cS:Nat
 aF:Option Addr
 cF:Nat
 aL:Option Addr
 cL:Nat
 aP:Option Addr
 cP:Nat
structure jg (w:World) (a:iH) (k:aR):Prop where
 aM:jB w a.aS k.aM
 frames:eB jd 4 gX w a.aF k.frames
 slots:eB jc 2 oc w a.aL k.slots
 aj:Aa w a.aP k.aj
theorem jg.below {w w':World} {a:iH} {k:aR} (h:jg w a k) (hb:Below w.heap.size w w'):jg w' a k:=⟨h.aM.below hb,h.frames.below hb,h.slots.below hb,h.aj.below hb⟩
def bc (a:iH) (k:aR):Array Value:=#[.slice a.aS k.aM.length a.cS,.slice a.aF k.frames.length a.cF,.slice a.aL k.slots.length a.cL,.slice a.aP k.aj.length a.cP,I k.hand]
structure QV (s:cZ):Prop where
 aT:dO s.aT
 bf:b7 s.bf.length
 Mq:∀i,i<s.bf.length->cN (aX s.bf i).page/\cN (aX s.bf i).kind/\cN (aX s.bf i).loc
structure nZ (k:aR):Prop where
 aM:rM k.aM
 nf:b7 k.frames.length
 fr:∀i,i<k.frames.length->b7 (aH k.frames i).data.size/\cN (aH k.frames i).refs
 ns:b7 k.slots.length
 sl:∀i,i<k.slots.length->b7 (bE k.slots i).data.size/\cN (bE k.slots i).refs
 np:b7 k.aj.length
 sp:∀i,i<k.aj.length->QV (ak k.aj i)
 hand:cN k.hand
theorem Ix (vS vF vL vP:Option Addr) (nS cS nF cF nL cL nP cP:Nat) (hd:Value) (w:World) :
  Calls Tryz.prog 139 #[.agg #[.slice vS nS cS,.slice vF nF cF,.slice vL nL cL,.slice vP nP cP,hd]] w fun e w'=>e=.returned (.bool (decide ((3<=nF/\nF<=64)/\nL<=512/\(1<=nP/\nP<=4)/\nS<=255)))/\Below w.heap.size w w':=by
 obtain⟨A,hA⟩:=ex (decide ((3<=nF/\nF<=64)/\nL<=512/\(1<=nP/\nP<=4)/\nS<=255));rw[<- hA];have HA:=ai hA;clear hA;rcases(show ¬(3:Int)<=nF∨((3:Int)<=nF/\¬(nF:Int)<=64)∨((3:Int)<=nF/\(nF:Int)<=64/\¬(nL:Int)<=512)∨((3:Int)<=nF/\(nF:Int)<=64/\(nL:Int)<=512/\¬(1:Int)<=nP)∨((3:Int)<=nF/\(nF:Int)<=64/\(nL:Int)<=512/\(1:Int)<=nP/\¬(nP:Int)<=4)∨((3:Int)<=nF/\(nF:Int)<=64/\(nL:Int)<=512/\(1:Int)<=nP/\(nP:Int)<=4/\¬(nS:Int)<=255)∨((3:Int)<=nF/\(nF:Int)<=64/\(nL:Int)<=512/\(1:Int)<=nP/\(nP:Int)<=4/\(nS:Int)<=255) by omega) with g | ⟨g,g1⟩ | ⟨g,g1,g2⟩ | ⟨g,g1,g2,g3⟩ | ⟨g,g1,g2,g3,g4⟩ | ⟨g,g1,g2,g3,g4,g5⟩ | ⟨g,g1,g2,g3,g4,g5⟩
 all_goals
  go_enter Tryz.func139,Tryz.ntmps139;go_wp2;go_ret;exact⟨ed (fun b=>Ending.returned (.bool b)) (by grind [Hid.o]),(aK _ _).alloc (aD _) _⟩
open Go.RowKit
def rh (G:Nat->ByteArray):Nat->List Value
 | 0=>[]
 | n+1=>rh G n++[.string (G n)]
def uV (G:Nat->ByteArray) (n:Nat) (d:ByteArray):Nat->ByteArray:=fun k=>if k=n then d else G k
theorem qC (G:Nat->ByteArray):∀n,(rh G n).length=n
 | 0=>rfl
 | n+1=>by rw[rh,fM,qC G n];rfl
theorem FO (G:Nat->ByteArray) (n:Nat):∀m,n<m->(rh G m)[n]?=some (.string (G n))
 | 0,h=>by omega
 | m+1,h=>by
  rw[rh];by_cases c:n<m
  · rw[Hf (by grind [qC]),FO G n m c]
  grind [qC]
theorem Iu (F G:Nat->ByteArray):∀m,(∀k,k<m->F k=G k)->rh F m=rh G m
 | 0,_=>rfl
 | m+1,h=>by rw[rh,rh,Iu F G m (fun k hk=>h k (by omega)),h m (by omega)]
theorem Nz (G:Nat->ByteArray) (n:Nat) (d:ByteArray):∀m,n<m->(rh G m).set n (.string d)=rh (uV G n d) m
 | 0,h=>by omega
 | m+1,h=>by
  rw[rh,rh];by_cases c:n<m
  · rw[J2 _ _ (by grind [qC]),Nz G n d m c]
    grind [uV]
  · obtain rfl:n=m:=by omega
    rw[AV _ _ (by grind [qC]),qC,G6,Iu (uV G n d) G n (fun k hk=>by grind [uV])]
    grind [uV]
def mH (a b c d e:Value) (G:Nat->ByteArray):Array Value:=([a,b,c,d,e]++rh G 256).toArray
theorem QT (a b c d e:Value) (G:Nat->ByteArray) (n:Nat) (h:n<256):(mH a b c d e G)[5+n]?=some (.string (G n)):=by
 grind [mH,FO]
theorem Zh (a b c d e:Value) (G:Nat->ByteArray) (n:Nat) (x:ByteArray) (h:n<256):(mH a b c d e G).setIfInBounds (5+n) (.string x)=mH a b c d e (uV G n x):=by
 grind [mH,Nz]
def sZ:Nat->ByteArray:=fun _=>⟨#[]⟩
def mg (hs:List bG):Nat->Nat->ByteArray
 | 0=>sZ
 | k+1=>uV (mg hs k) (bu hs k).page.toNat (rI (bu hs k))
theorem FQ (hs:List bG) (hr:ia hs=true) (n:Nat):mg hs hs.length n=fq hs n:=by
 have hrise:=Fu hs hr;have hat:∀i,i<hs.length->1<=(bu hs i).page:=fun i hi=>by
  have:=(qY hs hs.length hr i hi).1
  grind [dw,pE]
 have key:∀k,k<=hs.length->(∀i,i<k->(bu hs i).page≠(n:Int))->mg hs k n=⟨#[]⟩:=fun k=>by
  induction k with
  | zero=>intro _ _;rfl
  | succ k ih =>
   intro hk h;show uV (mg hs k) _ _ n=_
   grind [uV]
 have aoY:∀k,k<=hs.length->∀j,j<k->(bu hs j).page=(n:Int)->mg hs k n=rI (bu hs j):=fun k=>by
  induction k with
  | zero=>omega
  | succ k ih =>
   intro hk j hj e;show uV (mg hs k) _ _ n=_;unfold uV;by_cases c:j=k
   · grind
   · have hlt:(bu hs j).page<(bu hs k).page:=by
      have:=(ac3.1 hrise) j k (by grind) (by grind) (by omega)
      grind [bu]
     grind
 unfold fq;cases g:iJ hs n with
 | none =>
  have h:=List.find?_eq_none.1 g
  grind [bu]
 | some s =>
  have hm:=Vt g;have hp:=List.find?_some g;obtain⟨j,hj,rfl⟩:=lM Ce hm;exact aoY _ (aD _) j hj (o5 hp)
theorem Wt {s:bG} (h:dw s=true):mK s=(rI s,0):=by grind [mK]
theorem Zk {s:bG} (h:dw s=false):mK s=(⟨#[]⟩,1):=by grind [mK]
theorem KW (hs:List bG) (aS:Option Addr) (cS mb:Nat) (b c d e:Value) (w0 w:World) (h:jB w0 aS hs) (hf:rM hs) (hw:Below w0.heap.size w0 w) (hmb:w0.heap.size<=mb) (hm:w.heap[mb]?=some (.cells (mH (.slice aS hs.length cS) b c d e sZ) 158 (0,0))) (hl:hs.length<=255) :
  Calls Tryz.prog 140 #[.pointer (some (Ad mb 0))] w fun x w'=>x=.returned (.bool (ia hs))/\aC (fun b=>b=mb) w w'/\∃G,w'.heap[mb]?=some (.cells (mH (.slice aS hs.length cS) b c d e G) 158 (0,0))/\(ia hs=true->G=mg hs hs.length):=by
 have HH:=ai h;have HF:=ai hf;have HW:=ai hw;have hlt:=aJ hm;have m0:w.cell? (Ad mb 0)=some (.slice aS hs.length cS):=aq hm 0 rfl;have HM:=ai hm;have MS:Hid (∀k,k<hs.length->(dw (bu hs k)=false∨(bu hs k).page<=(if k=0 then 0 else (bu hs (k-1)).page))->ia hs=false):=fun k hk g=>YZ hs k hk (by
  grind [rX,dw,pE])
 have HST:Hid (∀k,k<hs.length->ki hs k=true->dw (bu hs k)=true->(if k=0 then 0 else (bu hs (k-1)).page)<(bu hs k).page->ki hs (k+1)=true):=fun k hk h1 h2 h3=>by
  grind [ki,rX]
 clear h hf hw hm;go_enter Tryz.func140,Tryz.ntmps140;go_wp2;go_loopw [3,14] (fun lv iv wr=>∃k:Nat,k<=hs.length/\iv=I (k:Int)/\lv=I (if k=0 then 0 else (bu hs (k-1)).page)/\ki hs k=true/\aC (fun b=>b=mb) w wr/\wr.heap[mb]?=some (.cells (mH (.slice aS hs.length cS) b c d e (mg hs k)) 158 (0,0))) (fun _ iv _=>hs.length-(intOf iv).toNat)
 case atStart=>exact⟨0,by omega,rfl,rfl,rfl,aC.refl _ _,HM.o⟩
 case round =>
  obtain⟨k,hk,rfl,rfl,hr,PM,hmk⟩:=hrel;have HKP:=ai PM;have HMK:=ai hmk;have HR:=ai hr;clear hr;obtain⟨L,hL⟩:∃L:Int,L=if k=0 then 0 else (bu hs (k-1)).page:=⟨_,rfl⟩
  rw[<- hL];by_cases J6:k<hs.length
  · have hbk:=PM.below HW.o (by omega) (fun b hb=>by omega);have HBK:=ai hbk;obtain⟨bb,off,hao,hbl,eY⟩:=HH.o (by omega);subst hao;obtain⟨d0,d1,d2,d3⟩:=eY k J6;have hsz:=PM.size;have c0:=(hbk.cell (p:=(Ad bb (off+k*3))) hbl).trans d0;have c1:=(hbk.cell (p:=(Ad bb (off+k*3+1))) hbl).trans d1;have c2:=(hbk.cell (p:=(Ad bb (off+k*3+2))) hbl).trans d2;have PN:=HF.o.2 k J6;have HC:Hid (∀V,Below w0.heap.size w0 V->Calls Tryz.prog 72 #[.agg (vw (bu hs k))] V fun e w'=>e=.returned (.tuple #[.string (mK (bu hs k)).1,I (mK (bu hs k)).2])/\Below V.heap.size V w'):=fun V hV=>YU _ V (d3.below hV) PN
    have MS:=ai (MS.o k J6);have HST:=ai (HST.o k J6 HR.o);have PL:=PN.page;have HFG:Hid (mg hs (k+1)=uV (mg hs k) (bu hs k).page.toNat (rI (bu hs k))):=rfl;have HHB:Hid (dw (bu hs k)=true->1<=(bu hs k).page/\(bu hs k).page<=255):=fun g=>by
     unfold dw pE at g;simp only[eO,lh] at g;omega
    have RO:=ai (@Wt (bu hs k));have HFO:=ai (@Zk (bu hs k));have HLP:Hid ((if k+1=0 then 0 else (bu hs (k+1-1)).page)=(bu hs k).page):=by
     show _=_;rw[au (by omega),Vj]
    unfold vw at HC;obtain⟨S,hS⟩:=ex (bu hs k);rw[<- hL] at MS HST;rw[<- hS] at c0 c1 c2 HC MS HST PL HFG HHB RO HFO HLP;obtain⟨pg,dt,fx,fo,fc⟩:=S;simp only at c0 c1 c2 HC MS HST PL HFG HHB RO HFO HLP;obtain⟨nx,hnx⟩:=ex fx.length;rw[<- hnx] at c2 HC;clear hS hL hnx d0 d1 d2 d3 eY PN hbk PM hmk;cases Jh:dw ⟨pg,dt,fx,fo,fc⟩ with
    | false =>
     have LG:=ai (MS.o (.inl Jh));have aev:=ai (HFO.o Jh);rw[aev.o] at HC;clear RO HFO aev Jh MS HST HFG HHB HLP;have jk:=ai (HBK.o.alloc (by omega) (.cells #[I pg,.string dt,.slice fo nx fc] 145));have KA:=ai ((HKP.o.trans (aC.alloc (fun b=>b=mb) wr (.cells #[I pg,.string dt,.slice fo nx fc] 145)) (fun _ _ g=>g)));have MA:=ai (bk HMK.o (.cells #[I pg,.string dt,.slice fo nx fc] 145));have SA:=ai (bB wr #[I pg,.string dt,.slice fo nx fc] 145);clear HM m0 HH HF;go_wp2_with (go_at_call 72;refine(HC.o _ jk.o).mono ?_;rintro e w1 ⟨rfl,hb1⟩;have cH:=ai hb1;have S1:=ai (aN SA.o hb1 (by simp));clear hb1)
     go_ret;have hM:=aN MA.o cH.o (by simp;omega);exact⟨ed (fun b=>Ending.returned (.bool b)) LG.o.symm,KA.o.trans (aC.bZ cH.o) (fun _ _ g=>g),_,hM,fun g=>by rw[LG.o] at g;cases g⟩
    | true =>
     have aev:=ai (RO.o Jh);rw[aev.o] at HC;have hpb:=HHB.o Jh;by_cases hlp:pg<=L
     · have LG:=ai (MS.o (.inr hlp));clear RO HFO aev Jh MS HST HFG HHB HLP;have jk:=ai (HBK.o.alloc (by omega) (.cells #[I pg,.string dt,.slice fo nx fc] 145));have KA:=ai ((HKP.o.trans (aC.alloc (fun b=>b=mb) wr (.cells #[I pg,.string dt,.slice fo nx fc] 145)) (fun _ _ g=>g)));have MA:=ai (bk HMK.o (.cells #[I pg,.string dt,.slice fo nx fc] 145));have SA:=ai (bB wr #[I pg,.string dt,.slice fo nx fc] 145);clear HM m0 HH HF;go_wp2_with (go_at_call 72;refine(HC.o _ jk.o).mono ?_;rintro e w1 ⟨rfl,hb1⟩;have cH:=ai hb1;have S1:=ai (aN SA.o hb1 (by simp));have s0:w1.cell? (Ad wr.heap.size 0)=some (I pg):=aq S1.o 0 rfl;clear hb1)
       go_ret;have hM:=aN MA.o cH.o (by simp;omega);exact⟨ed (fun b=>Ending.returned (.bool b)) LG.o.symm,KA.o.trans (aC.bZ cH.o) (fun _ _ g=>g),_,hM,fun g=>by rw[LG.o] at g;cases g⟩
     · have Hu:=ai (HST.o Jh (by omega));clear RO HFO aev Jh MS HST HHB;have apr:¬mb=wr.heap.size:=by omega
       have jk:=ai (HBK.o.alloc (by omega) (.cells #[I pg,.string dt,.slice fo nx fc] 145));have KA:=ai ((HKP.o.trans (aC.alloc (fun b=>b=mb) wr (.cells #[I pg,.string dt,.slice fo nx fc] 145)) (fun _ _ g=>g)));have MA:=ai (bk HMK.o (.cells #[I pg,.string dt,.slice fo nx fc] 145));have SA:=ai (bB wr #[I pg,.string dt,.slice fo nx fc] 145);clear HM m0 HH HF;go_wp2_with (go_at_call 72;refine(HC.o _ jk.o).mono ?_;rintro e w1 ⟨rfl,hb1⟩;have cH:=ai hb1;have S1:=ai (aN SA.o hb1 (by simp));have s0:w1.cell? (Ad wr.heap.size 0)=some (I pg):=aq S1.o 0 rfl;clear hb1)
       obtain⟨n,rfl⟩:∃n:Nat,pg=(n:Int):=⟨pg.toNat,by omega⟩;have hM:=aN MA.o cH.o (by simp;omega);have SC:=ai hM;have K1:=ai (KA.o.trans (aC.bZ cH.o) (fun _ _ g=>g));have q5:w1.cell? (Ad mb (5+n))=some (.string (mg hs k n)):=aq hM (5+n) (QT _ _ _ _ _ _ n (by omega));have qf:w1.frozen? (Ad mb (5+n))=false:=aO hM (5+n);have n0:(0:Int)<=(n:Int):=by omega
       have n1:(n:Int)<256:=by omega
       rw[jz] at HFG;obtain⟨FD,hFD⟩:=ex (rI { page:=(n:Int),data:=dt,eZ:=fx,ao:=fo,cap:=fc });rw[<- hFD] at HFG ⊢;clear hM hFD HC c0 c1 c2;go_region;have Gx:=ai ((fP SC.o (5+n) (.string FD)).trans (by rw[Zh _ _ _ _ _ _ n FD (by omega),<- HFG.o]));have K2:=ai (K1.o.trans ((aC.set (fun b=>b=mb) w1 (Ad mb (5+n)) (.string FD) rfl).trans (aC.drew _ _) (fun _ _ g=>g)) (fun _ _ g=>g));have s2:(w1.setCell (Ad mb (5+n)) (.string FD)).drew.cell? (Ad wr.heap.size 0)=some (I (n:Int)):=(cj w1 mb (5+n) wr.heap.size 0 (.string FD) (fun e=>apr e.symm)).trans s0;obtain⟨W2,hW2⟩:=ex ((w1.setCell (Ad mb (5+n)) (.string FD)).drew);have Ym:Hid (W2.heap[mb]?=some (.cells (mH (.slice (some (Ad bb off)) hs.length cS) b c d e (mg hs (k+1))) 158 (0,0))):=by rw[hW2];exact Gx.o
       rw[<- hW2] at K2 s2 ⊢;clear hW2 Gx SC K1 q5 qf s0;go_wp2;go_roundw
       case rel=>exact⟨k+1,by omega,by go_num,by rw[au (by omega),Vj,<- HLP.o,au (by omega),Vj],Hu.o,K2.o,Ym.o⟩
       case measure=>simp[intOf];omega
  · obtain rfl:k=hs.length:=by omega
    clear PM hmk hL;go_wp2;go_ret;exact⟨ed (fun b=>Ending.returned (.bool b)) HR.o.symm,HKP.o,_,HMK.o,fun _=>rfl⟩
open Go.RowKit
theorem Zj {hs:List bG} {ar:List aY} {k n:Nat} (hk:k<ar.length) (hn:n<(bC ar k).aQ.toNat) (hz:(bC ar k).zero=false) (he:fq hs ((bC ar k).page+(n:Int))=⟨#[]⟩):rU hs ar=false:=by
 cases q:rU hs ar with
 | false=>rfl
 | true =>
  unfold rU at q;rw[ql] at q;have:=q (bC ar k) (jT hk);rw[ql] at this;have:=this n (uR.2 hn);rw[hz,he] at this;cases this
theorem Wq {hs:List bG} {ar:List aY} (h:∀k,k<ar.length->∀n,n<(bC ar k).aQ.toNat->(bC ar k).zero=true∨fq hs ((bC ar k).page+(n:Int))≠⟨#[]⟩):rU hs ar=true:=by
 unfold rU;rw[ql];intro a ha;obtain⟨k,hk,rfl⟩:=lM xK ha;rw[ql];intro n hn;rcases h k hk n (uR.1 hn) with g | g
 · rw[show(ar.getD k xK).zero=true from g];rfl
 · rw[Ve,lh];right;intro e;refine g ?_;have:(fq hs ((bC ar k).page+(n:Int))).size=0:=e;obtain⟨x,hx⟩:=ex (fq hs ((bC ar k).page+(n:Int)));rw[<- hx] at this ⊢;obtain⟨⟨l⟩⟩:=x;have:l=[]:=lj this;rw[this]
theorem KV (hs:List bG) (ar:List aY) (va:Value) (mb:Nat) (w:World) (ha:gD w va ar) (hc:bj ar=0) (hmb:mb<w.heap.size) (hfl:∀n:Nat,n<256->w.cell? (Ad mb (5+n))=some (.string (fq hs n))) :
  Calls Tryz.prog 190 #[.pointer (some (Ad mb 0)),va] w fun e w'=>e=.returned (.bool (rU hs ar))/\Below w.heap.size w w':=by
 obtain⟨ao,cap,rfl,eY⟩:=ha;have hlen:=oC ar hc;have HL:=ai eY;have HFL:=ai hfl;have N1:=ai (fun k (hk:k<ar.length)=>iy ar k (gZ ar hc k hk));have qg:=ai (fun k n=>@Zj hs ar k n);have agO:=ai (@Wq hs ar);obtain⟨A,hA⟩:=ex (rU hs ar);rw[<- hA] at qg agO ⊢;clear eY hfl hA;go_enter Tryz.func190,Tryz.ntmps190;go_wp2;go_loopw [10] (fun iv wr=>∃k:Nat,k<=ar.length/\iv=I (k:Int)/\Below w.heap.size w wr/\∀i,i<k->∀n,n<(bC ar i).aQ.toNat->(bC ar i).zero=true∨fq hs ((bC ar i).page+(n:Int))≠⟨#[]⟩) (fun iv _=>ar.length-(intOf iv).toNat)
 case atStart=>grind [Below.refl]
 case round =>
  obtain⟨k,hk,rfl,hb,Fi⟩:=hrel;have HB:=ai hb;have HP:=ai Fi;clear Fi;by_cases hlt:k<ar.length
  · obtain⟨b,off,hao,Us⟩:=HL.o.resolve_left (fun e=>by grind);subst hao;obtain⟨d0,d1,d2,d3⟩:=Us k hlt;have hbl:=Us.lt k hlt;have c0:=(hb.cell (p:=(Ad b (off+k*4))) hbl).trans d0;have c1:=(hb.cell (p:=(Ad b (off+k*4+1))) hbl).trans d1;have c2:=(hb.cell (p:=(Ad b (off+k*4+2))) hbl).trans d2;have c3:=(hb.cell (p:=(Ad b (off+k*4+3))) hbl).trans d3;have hok:=N1.o k hlt;have qg:=ai (fun n=>qg.o k n hlt);have HS:Hid (∀n,n<(bC ar k).aQ.toNat->(bC ar k).zero=true∨fq hs ((bC ar k).page+(n:Int))≠⟨#[]⟩)->Hid (∀i,i<k+1->∀n,n<(bC ar i).aQ.toNat->(bC ar i).zero=true∨fq hs ((bC ar i).page+(n:Int))≠⟨#[]⟩):=fun g i hi=>by
     by_cases e:i=k
     · rw[e];exact g.out
     · exact HP.o i (by omega)
    obtain⟨a,ha⟩:=ex (bC ar k);rw[<- ha] at c0 c1 c2 c3 hok qg HS;obtain⟨pg,ps,pt,z⟩:=a;simp only at c0 c1 c2 c3 hok qg HS;obtain⟨pn,rfl⟩:∃pn:Nat,pg=(pn:Int):=⟨pg.toNat,by omega⟩;obtain⟨pm,rfl⟩:∃pm:Nat,ps=(pm:Int):=⟨ps.toNat,by omega⟩;rw[jz] at HS qg;have jk:=ai (HB.o.alloc HB.o.size (.cells #[I (pn:Int),I (pm:Int),I pt,.bool z] 139));have SA:=ai (bB wr #[I (pn:Int),I (pm:Int),I pt,.bool z] 139);clear ha d0 d1 d2 d3 Us HP agO N1 HL hb;go_wp2;obtain⟨W1,hW1⟩:=ex (wr.alloc (.cells #[I (pn:Int),I (pm:Int),I pt,.bool z] 139));rw[<- hW1] at jk SA ⊢;obtain⟨sb,Jh⟩:=ex wr.heap.size;rw[<- Jh] at SA ⊢;clear hW1 Jh c0 c1 c2 c3;have s0:W1.cell? (Ad sb 0)=some (I (pn:Int)):=aq SA.o 0 rfl;have s3:W1.cell? (Ad sb 3)=some (.bool z):=aq SA.o 3 rfl;have HWF:Hid (∀n:Nat,n<256->W1.cell? (Ad mb (5+n))=some (.string (fq hs n))):=fun n hn=>(jk.o.cell (p:=(Ad mb (5+n))) hmb).trans (HFL.o n hn)
    go_loopw [16] (fun iv wq=>∃n:Nat,n<=pm/\iv=I (n:Int)/\(wq.heap=W1.heap/\Below w.heap.size w wq)/\∀i,i<n->z=true∨fq hs ((pn:Int)+(i:Int))≠⟨#[]⟩) (fun iv _=>pm-(intOf iv).toNat)
    case atStart=>exact⟨0,by omega,rfl,⟨rfl,jk.o⟩,fun i hi=>by omega⟩
    case round =>
     obtain⟨n,hn,rfl,⟨hD,Yi⟩,Fi⟩:=hrel;obtain⟨wq,hwq⟩:=ex wr;rw[<- hwq] at hD Yi ⊢;clear hwq;have HBD:=ai Yi;have HHD:=ai hD;have Yl:=ai Fi;have r0:wq.cell? (Ad sb 0)=some (I (pn:Int)):=(Hg (by rw[hD])).trans s0;have r3:wq.cell? (Ad sb 3)=some (.bool z):=(Hg (by rw[hD])).trans s3;have HWQ:Hid (∀n:Nat,n<256->wq.cell? (Ad mb (5+n))=some (.string (fq hs n))):=fun n hn=>(Hg (by rw[HHD.o])).trans (HWF.o n hn)
     clear hD Yi Fi;by_cases Hh:n<pm
     · have hni:(n:Int)<(pm:Int):=by omega
       have HN:Hid (∀wz:World,wz=wq.drew->(wz.heap=W1.heap/\Below w.heap.size w wz)):=fun wz e=>by rw[e];exact⟨HHD.o,HBD.o.drew⟩
       have Xb:Hid ((z=true∨fq hs ((pn:Int)+(n:Int))≠⟨#[]⟩)->∀i,i<n+1->z=true∨fq hs ((pn:Int)+(i:Int))≠⟨#[]⟩):=fun g i hi=>by
        by_cases e:i=n
        · rw[e];exact g
        · exact Yl.o i (by omega)
       cases z with
       | true =>
        clear qg HS Yl;go_wp2;go_region;go_wp2;go_roundw
        case rel=>exact⟨n+1,by omega,by go_num,HN.o _ rfl,Xb.o (.inl trivial)⟩
        case measure=>simp[intOf];omega
       | false =>
        have q:=HWQ.o (pn+n) (by omega);have ew:IntKind.i64.wrap ((pn:Int)+(n:Int))=((pn+n:Nat):Int):=by rw[Ps];omega
        have ei:((pn+n:Nat):Int)=(pn:Int)+(n:Int):=by omega
        have i0:(0:Int)<=((pn+n:Nat):Int):=by omega
        have i1:((pn+n:Nat):Int)<256:=by omega
        have qg:=ai (qg.o n Hh rfl);rw[<- ei] at qg Xb;obtain⟨X,hX⟩:=ex (pn+n);obtain⟨D,hD⟩:=ex (fq hs (X:Int));rw[<- hX] at q ew i0 i1 qg Xb;rw[<- hD] at q qg Xb;clear HS Yl HWQ hX hD ei;by_cases hz:D=⟨#[]⟩
        · have hA:=qg.o hz;subst hA hz;go_wp2;go_region;go_wp2;go_ret;exact⟨rfl,HBD.o.drew⟩
        · have hz2:D.toList.isEmpty=false:=by
           rw[J3];cases q2:D.data.toList.isEmpty with
           | false=>rfl
           | true=>exact absurd (by obtain⟨⟨l⟩⟩:=D;have e:l=[]:=List.isEmpty_iff.1 q2;rw[e]) hz
          clear qg;go_wp2;go_region;go_wp2;go_roundw
          case rel=>exact⟨n+1,by omega,by go_num,HN.o _ rfl,Xb.o (.inr hz)⟩
          case measure=>simp[intOf];omega
     · obtain rfl:n=pm:=by omega
       have sk:=ai (HS Yl);have hni:¬(n:Int)<(n:Int):=by omega
       go_wp2;go_roundw
       case rel=>exact⟨k+1,by omega,by go_num,HBD.o,sk.o⟩
       case measure=>simp[intOf];omega
  · obtain rfl:k=ar.length:=by omega
    have hA:=agO.o HP.o;subst hA;clear hb;go_wp2;go_ret;exact⟨rfl,HB.o⟩
open Go.RowKit
theorem KS (hs:List bG) (s:cZ) (va:Value) (ap:Option Addr) (cp mb:Nat) (w:World) (ha:gD w va s.aT) (hf:QV s) (hmb:mb<w.heap.size) (hfl:∀n:Nat,n<256->w.cell? (Ad mb (5+n))=some (.string (fq hs n))) :
  Calls Tryz.prog 141 #[.pointer (some (Ad mb 0)),.agg #[.bool s.live,va,.slice ap s.bf.length cp]] w fun e w'=>e=.returned (.bool (pT hs s))/\Below w.heap.size w w':=by
 have Cv:=ai (fun V (hV:Below w.heap.size w V)=>jF s.aT va V (ha.below hV) hf.aT);have HHS:Hid (bj s.aT=0->∀V,Below w.heap.size w V->Calls Tryz.prog 190 #[.pointer (some (Ad mb 0)),va] V fun e w'=>e=.returned (.bool (rU hs s.aT))/\Below V.heap.size V w'):=fun hc V hV=>KV hs s.aT va mb V (ha.below hV) hc (fD hmb hV.size) (fun n hn=>(hV.cell (p:=(Ad mb (5+n))) hmb).trans (hfl n hn))
 obtain⟨A,hA⟩:=ex (pT hs s);rw[<- hA];obtain⟨aa,ca,H8,_⟩:=ha;subst H8;have hln:=hf.aT.2;have hlp:s.bf.length<=140737488351232:=hf.bf;unfold pT at hA;have HA:=ai hA;clear hf hfl hA;obtain⟨na,rH⟩:=ex s.aT.length;obtain⟨np,yn⟩:=ex s.bf.length;obtain⟨C,hC⟩:=ex (bj s.aT);obtain⟨E,hE⟩:=ex (rU hs s.aT);obtain⟨lv,hlv⟩:=ex s.live;rw[<- rH] at HA Cv HHS hln ⊢;rw[<- yn] at HA hlp ⊢;rw[<- hC] at HA Cv HHS;rw[<- hE] at HA HHS;rw[<- hlv] at HA ⊢;clear rH yn hC hE hlv;have HB:=ai ((aK w.heap.size w).alloc (aD _) (.cells #[.bool lv,.slice aa na ca,.slice ap np cp] 99));have X0:=ai (bB w #[.bool lv,.slice aa na ca,.slice ap np cp] 99);cases lv with
 | false =>
  have E1:Hid (A=(decide (na=0)&&decide (np=0))):=HA;clear HA Cv HHS;rcases(show(na=0/\np=0)∨(na=0/\¬np=0)∨¬na=0 by omega) with⟨g,k⟩ | ⟨g,k⟩ | g
  · have h0:((na:Int)==0)=true:=by grind
    have h1:((np:Int)==0)=true:=by grind
    have Cw:Hid (A=true):=by grind
    clear E1 g k;go_enter Tryz.func141,Tryz.ntmps141;go_wp2;go_ret;exact⟨ed (fun b=>Ending.returned (.bool b)) Cw.o.symm,HB.o⟩
  · have h0:((na:Int)==0)=true:=by grind
    have h1:((np:Int)==0)=false:=by grind
    have Cw:Hid (A=false):=by grind
    clear E1 g k;go_enter Tryz.func141,Tryz.ntmps141;go_wp2;go_ret;exact⟨ed (fun b=>Ending.returned (.bool b)) Cw.o.symm,HB.o⟩
  · have h0:((na:Int)==0)=false:=by grind
    have Cw:Hid (A=false):=by grind
    clear E1 g;go_enter Tryz.func141,Tryz.ntmps141;go_wp2;go_ret;exact⟨ed (fun b=>Ending.returned (.bool b)) Cw.o.symm,HB.o⟩
 | true =>
  have E1:Hid (A=(decide (C=0)&&E)):=HA;clear HA;by_cases g:C=0
  · subst g;have HHT:=ai (HHS.o rfl);have Cw:Hid (A=E):=E1;clear E1 HHS;go_enter Tryz.func141,Tryz.ntmps141;go_wp2_with (first | (go_at_call 117;refine(Cv.o _ HB.o).mono ?_;rintro e w1 ⟨rfl,hb1⟩;have cH:=ai (bH HB.o hb1);have X1:=ai (aN X0.o hb1 (by simp));have x1:w1.cell? (Ad w.heap.size 1)=some (.slice aa na ca):=aq X1.o 1 rfl;clear hb1) | (go_at_call 190;refine(HHT.o _ cH.o).mono ?_;rintro e w2 ⟨rfl,hb2⟩;have gK:=ai (bH cH.o hb2);clear hb2))
    go_ret;exact⟨ed (fun b=>Ending.returned (.bool b)) Cw.o.symm,gK.o⟩
  · have Cw:Hid (A=false):=by grind
    have g0:(C==0)=false:=by grind
    clear E1 HHS;go_enter Tryz.func141,Tryz.ntmps141;go_wp2_with (go_at_call 117;refine(Cv.o _ HB.o).mono ?_;rintro e w1 ⟨rfl,hb1⟩;have cH:=ai (bH HB.o hb1);clear hb1)
    go_ret;exact⟨ed (fun b=>Ending.returned (.bool b)) Cw.o.symm,cH.o⟩
theorem qO (l:List aY):0<=bh l/\bh l<=65025:=by
 unfold bh;split
 · rename_i h
   have h1:=oC l h;have h2:=GZ l h l.length (aD _);omega
 · omega
theorem DZ (l:List cZ):∀k,0<=jH l k/\jH l k<=65025*k
 | 0=>⟨AK _,by show(0:Int)<=_;omega⟩
 | k+1=>by
  have h1:=DZ l k;have h2:=qO (ak l k).aT
  grind [jH]
theorem D3 (l:List cZ) (ao:Option Addr) (cap mb:Nat) (w:World) (h:Aa w ao l) (hf:∀k,k<l.length->dO (ak l k).aT) (hn:l.length<=1000000) (hmb:w.cell? (Ad mb 3)=some (.slice ao l.length cap)) :
  Calls Tryz.prog 143 #[.pointer (some (Ad mb 0))] w fun e w'=>e=.returned (I (eD l))/\Below w.heap.size w w':=by
 have HF:=ai hf;have HH:=ai h;have MS:=ai (DZ l);have ZV:Hid (∀k,jH l (k+1)=jH l k+bh (ak l k).aT):=fun k=>rfl
 clear h hf;go_enter Tryz.func143,Tryz.ntmps143;go_wp2;go_loopw [3,12] (fun sv iv wr=>∃k:Nat,k<=l.length/\iv=I (k:Int)/\sv=I (jH l k)/\Below w.heap.size w wr) (fun _ iv _=>l.length-(intOf iv).toNat)
 case atStart=>exact⟨0,by omega,rfl,rfl,aK _ _⟩
 case round =>
  obtain⟨k,hk,rfl,rfl,hb⟩:=hrel;have HB:=ai hb;have J5:=MS.o k;by_cases hlt:k<l.length
  · obtain⟨b,off,hao,hbl,eY⟩:=(HH.o.below hb) (by omega);subst hao;obtain⟨va,ap,cp,c0,c1,c2,c3,c4,c5⟩:=eY k hlt;have PN:=HF.o k hlt;have hst:=ZV.o k;have htb:=qO (ak l k).aT;obtain⟨aa,ca,rfl,_⟩:=id c3;have HT:Hid (∀W,Below wr.heap.size wr W->Calls Tryz.prog 70 #[.slice aa (ak l k).aT.length ca] W fun e w'=>e=.returned (I (bh (ak l k).aT))/\Below W.heap.size W w'):=fun W hW=>wQ _ _ _ (c3.below hW) PN
    obtain⟨n,hnn⟩:=ex ((ak l k).bf.length);obtain⟨na,rH⟩:=ex ((ak l k).aT.length);obtain⟨lv,hlv⟩:=ex ((ak l k).live);obtain⟨T,hT⟩:=ex (bh (ak l k).aT);obtain⟨R,hR⟩:=ex (jH l k);rw[<- hnn] at c2 c5;rw[<- rH] at c1 HT;rw[<- hlv] at c0;rw[<- hT] at HT hst htb;rw[<- hR] at hst J5 ⊢;have HST:=ai hst;clear hnn rH hlv hT hR c3 c4 c5 PN eY hb hst;have jk:=ai (HB.o.alloc HB.o.size (.cells #[.bool lv,.slice aa na ca,.slice ap n cp] 99));go_wp2_with (go_at_call 70;refine(HT.o _ ((aK _ _).alloc (aD _) _)).mono ?_;rintro e w1 ⟨rfl,hb1⟩;have cH:=ai (bH jk.o hb1);clear hb1)
    go_roundw
    case rel=>exact⟨k+1,by omega,by go_num,by rw[HST.o],cH.o⟩
    case measure=>simp[intOf];omega
  · obtain rfl:k=l.length:=by omega
    clear hb;go_wp2;go_ret;exact⟨rfl,HB.o⟩
open Go.RowKit
def vB (u:fh):List Value:=[I u.refs,I u.page,.bool u.zero]
theorem xV (u:fh):(vB u).length=3:=rfl
def ig (lo:Nat) (w:World) (g n cap:Nat) (us:List fh):Prop:=us.length=n/\w.ownsRow lo 302 3 (.slice (some (Ad g 0)) n cap) n (us.flatMap vB)
theorem ig.kp {lo:Nat} {w w':World} {D:Nat->Prop} {g n cap:Nat} {us:List fh} (h:ig lo w g n cap us) (hk:aC D w w') (hd:¬D g):ig lo w' g n cap us:=⟨h.1,hk.row h.2 (fun b hb=>by injection hb with hb;grind)⟩
theorem ig.lt {lo:Nat} {w:World} {g n cap:Nat} {us:List fh} (h:ig lo w g n cap us):lo<=g/\g<w.heap.size:=h.2.lt g rfl
theorem ig.at {lo:Nat} {w:World} {g n cap:Nat} {us:List fh} (h:ig lo w g n cap us) (i:Nat) (hi:i<n):w.cell? (Ad g (i*3))=some (I (cY us i).refs)/\w.cell? (Ad g (i*3+1))=some (I (cY us i).page)/\w.cell? (Ad g (i*3+2))=some (.bool (cY us i).zero):=by
 obtain⟨h1,h2⟩:=h;subst h1;exact⟨kq vB xV dG h2 i 0 hi (by omega),kq vB xV dG h2 i 1 hi (by omega),kq vB xV dG h2 i 2 hi (by omega)⟩
theorem Ck {D:Nat->Prop} {w w':World} (h:aC D w w'):aC D w w'.drew:=h.trans (aC.drew D w') (fun _ _ x=>x)
theorem ig.d {lo:Nat} {w:World} {g n cap:Nat} {us:List fh} (h:ig lo w g n cap us):ig lo w.drew g n cap us:=h.kp (aC.drew (fun _=>False) w) (fun x=>x)
theorem Wn {α:Type} (f:α->List Value) (hf:∀x,(f x).length=3) (d:α) (x:α) (a b c:Value) (hx:f x=[a,b,c]) (l:List α) (i:Nat) (hi:i<l.length):(l.set i x).flatMap f=(((l.flatMap f).set (i*3) a).set (i*3+1) b).set (i*3+2) c:=by
 induction l generalizing i with
 | nil=>cases hi
 | cons y r ih =>
  cases i with
  | zero =>
   rw[dE,nV,nV,hx];obtain⟨p,q,s,e⟩:∃p q s,f y=[p,q,s]:=by
    have:=hf y
    match h:f y with
    | [p,q,s]=>grind
    | []=>grind
    | [_]=>grind
    | [_,_]=>grind
    | _::_::_::_::_=>grind
   rw[e];rfl
  | succ i =>
   grind
theorem ig.set {lo:Nat} {w:World} {g n cap:Nat} {us:List fh} (h:ig lo w g n cap us) (i:Nat) (hi:i<n) (u:fh):ig lo (((w.setCell (Ad g (i*3)) (I u.refs)).setCell (Ad g (i*3+1)) (I u.page)).setCell (Ad g (i*3+2)) (.bool u.zero)) g n cap (us.set i u):=by
 refine⟨by rw[fC];exact h.1,?_⟩;rw[Wn vB xV dG u _ _ _ rfl us i (by rw[h.1];exact hi)];exact fy (fy (fy h.2 _ _) _ _) _ _
theorem QS (us:List fh) (e:bD) (z:Bool) (lo g n cap:Nat) (w:World) (h:ig lo w g n cap us) (hn:n<=1000) (he:cN e.page/\cN e.loc) (hr:∀i,i<n->0<=(cY us i).refs/\(cY us i).refs<=1000000) :
  Calls Tryz.prog 191 #[.slice (some (Ad g 0)) n cap,.agg #[I e.page,I e.kind,I e.loc],.bool z] w fun x w'=>x=.returned (.bool (oP us e z))/\aC (fun b=>b=g) w w'/\ig lo w' g n cap (if oP us e z then sK us e z else us):=by
 obtain⟨A,hA⟩:=ex (oP us e z);rw[<- hA];obtain⟨R,hR⟩:=ex (if A then sK us e z else us);rw[<- hR];have HA:=ai hA;have HR:=ai hR;clear hA hR;have avc:=h.lt.2;have HU:=ai h;have hun:us.length=n:=h.1;obtain⟨pg,kd,lc⟩:=e;simp only at he ⊢;have HKA:=ai (aC.alloc (fun b=>b=g) w (.cells #[I pg,I kd,I lc] 174));have Yk:=ai (h.kp (aC.alloc (fun _=>False) w (.cells #[I pg,I kd,I lc] 174)) (fun x=>x));clear h;by_cases c:0<=lc/\lc<(n:Int)
 · obtain⟨i,rfl⟩:∃i:Nat,lc=(i:Int):=⟨lc.toNat,by omega⟩;have hi:i<n:=by omega
   obtain⟨u0,u1,u2⟩:=HU.o.at i hi;have hri:=hr i hi;have E1:Hid (A=!(decide (0<(cY us i).refs)&&(decide ((cY us i).page≠pg) || (cY us i).zero != z))):=by
    grind [oP]
   have HUS:=ai (Yk.o.set i hi ⟨(cY us i).refs+1,pg,z⟩);have HUN:Hid (sK us ⟨pg,kd,(i:Int)⟩ z=us.set i ⟨(cY us i).refs+1,pg,z⟩):=by
    rfl
   obtain⟨U,hU⟩:=ex (cY us i);rw[<- hU] at u0 u1 u2 hri E1 HUS HUN;obtain⟨ur,up,uz⟩:=U;simp only at u0 u1 u2 hri E1 HUS HUN;have HUI:=ai hU;clear hU hr HA;have wr1:IntKind.i64.wrap (ur+1)=ur+1:=by rw[Ps];omega
   have BE:=ai (bB w #[I pg,I kd,I (i:Int)] 174);have dB:Hid (∀V,aC (fun b=>b=g) w V->∀us',ig lo V g n cap us'->A=true->us'=us.set i ⟨ur+1,pg,z⟩->ig lo V g n cap R):=fun V _ us' ho ha e=>by
    have:R=us':=by rw[HR.o,aB ha,HUN.o,e]
    grind
   have aix:Hid (A=false->R=us):=fun ha=>by rw[HR.o,ha];rfl
   clear HR HUN;rcases(show ¬0<ur∨(0<ur/\up=pg/\uz=z)∨(0<ur/\up=pg/\¬uz=z)∨(0<ur/\¬up=pg) by
    grind) with g1 | ⟨g1,g2,g3⟩ | ⟨g1,g2,g3⟩ | ⟨g1,g2⟩
   · have d1:decide (0<ur)=false:=jq g1;have Cw:Hid (A=true):=by grind
     clear E1;go_enter Tryz.func191,Tryz.ntmps191;go_wp2;obtain⟨W,hW⟩:=ex (w.alloc (.cells #[I pg,I kd,I (i:Int)] 174));rw[<- hW] at HKA Yk HUS BE ⊢;obtain⟨eb,heb⟩:=ex w.heap.size;rw[<- heb] at BE ⊢;clear hW heb;obtain⟨y0,y1,y2⟩:=Yk.o.at i hi;have v0:W.cell? (Ad g (i*3))=some (I ur):=by rw[y0,<- HUI.o]
     have v1:W.cell? (Ad g (i*3+1))=some (I up):=by rw[y1,<- HUI.o]
     have v2:W.cell? (Ad g (i*3+2))=some (.bool uz):=by rw[y2,<- HUI.o]
     have f0:W.frozen? (Ad g (i*3))=false:=iL Yk.o.2 _;have f1:W.frozen? (Ad g (i*3+1))=false:=iL Yk.o.2 _;have f2:W.frozen? (Ad g (i*3+2))=false:=iL Yk.o.2 _;have w0:W.cell? (Ad eb 0)=some (I pg):=aq BE.o 0 rfl;clear u0 u1 u2 y0 y1 y2;go_region;go_wp2;go_region;go_wp2;go_ret;have K:=HKA.o.trans (xD (D:=fun b=>b=g) W g (i*3) (i*3+1) (i*3+2) (I (ur+1)) (I pg) (.bool z) rfl) (fun _ _ x=>x);exact⟨ed (fun b=>Ending.returned (.bool b)) Cw.o.symm,Ck (Ck K),dB.o _ (Ck (Ck K)) _ HUS.o.d.d Cw.o rfl⟩
   · have b1:(up != pg)=false:=by grind
     have b2:(uz==z)=true:=by grind
     have Cw:Hid (A=true):=by grind
     clear E1 g2 g3;go_enter Tryz.func191,Tryz.ntmps191;go_wp2;obtain⟨W,hW⟩:=ex (w.alloc (.cells #[I pg,I kd,I (i:Int)] 174));rw[<- hW] at HKA Yk HUS BE ⊢;obtain⟨eb,heb⟩:=ex w.heap.size;rw[<- heb] at BE ⊢;clear hW heb;obtain⟨y0,y1,y2⟩:=Yk.o.at i hi;have v0:W.cell? (Ad g (i*3))=some (I ur):=by rw[y0,<- HUI.o]
     have v1:W.cell? (Ad g (i*3+1))=some (I up):=by rw[y1,<- HUI.o]
     have v2:W.cell? (Ad g (i*3+2))=some (.bool uz):=by rw[y2,<- HUI.o]
     have f0:W.frozen? (Ad g (i*3))=false:=iL Yk.o.2 _;have f1:W.frozen? (Ad g (i*3+1))=false:=iL Yk.o.2 _;have f2:W.frozen? (Ad g (i*3+2))=false:=iL Yk.o.2 _;have w0:W.cell? (Ad eb 0)=some (I pg):=aq BE.o 0 rfl;clear u0 u1 u2 y0 y1 y2;go_region;go_wp2;go_region;go_wp2;go_ret;have K:=HKA.o.trans (xD (D:=fun b=>b=g) W g (i*3) (i*3+1) (i*3+2) (I (ur+1)) (I pg) (.bool z) rfl) (fun _ _ x=>x);exact⟨ed (fun b=>Ending.returned (.bool b)) Cw.o.symm,Ck (Ck K),dB.o _ (Ck (Ck K)) _ HUS.o.d.d Cw.o rfl⟩
   · have b1:(up != pg)=false:=by grind
     have b2:(uz==z)=false:=by grind
     have Cw:Hid (A=false):=by grind
     clear E1 g2 g3 dB;go_enter Tryz.func191,Tryz.ntmps191;go_wp2;obtain⟨W,hW⟩:=ex (w.alloc (.cells #[I pg,I kd,I (i:Int)] 174));rw[<- hW] at HKA Yk HUS BE ⊢;obtain⟨eb,heb⟩:=ex w.heap.size;rw[<- heb] at BE ⊢;clear hW heb;obtain⟨y0,y1,y2⟩:=Yk.o.at i hi;have v0:W.cell? (Ad g (i*3))=some (I ur):=by rw[y0,<- HUI.o]
     have v1:W.cell? (Ad g (i*3+1))=some (I up):=by rw[y1,<- HUI.o]
     have v2:W.cell? (Ad g (i*3+2))=some (.bool uz):=by rw[y2,<- HUI.o]
     have w0:W.cell? (Ad eb 0)=some (I pg):=aq BE.o 0 rfl;clear u0 u1 u2 y0 y1 y2 HUS;go_region;go_wp2;go_ret;rw[aix.o Cw.o];exact⟨ed (fun b=>Ending.returned (.bool b)) Cw.o.symm,Ck HKA.o,Yk.o.d⟩
   · have b1:(up != pg)=true:=by grind
     have Cw:Hid (A=false):=by grind
     clear E1 g2 dB;go_enter Tryz.func191,Tryz.ntmps191;go_wp2;obtain⟨W,hW⟩:=ex (w.alloc (.cells #[I pg,I kd,I (i:Int)] 174));rw[<- hW] at HKA Yk HUS BE ⊢;obtain⟨eb,heb⟩:=ex w.heap.size;rw[<- heb] at BE ⊢;clear hW heb;obtain⟨y0,y1,y2⟩:=Yk.o.at i hi;have v0:W.cell? (Ad g (i*3))=some (I ur):=by rw[y0,<- HUI.o]
     have v1:W.cell? (Ad g (i*3+1))=some (I up):=by rw[y1,<- HUI.o]
     have w0:W.cell? (Ad eb 0)=some (I pg):=aq BE.o 0 rfl;clear u0 u1 u2 y0 y1 y2 HUS;go_region;go_wp2;go_ret;rw[aix.o Cw.o];exact⟨ed (fun b=>Ending.returned (.bool b)) Cw.o.symm,Ck HKA.o,Yk.o.d⟩
 · have Cw:Hid (A=false):=by
    grind [oP]
   have aix:Hid (R=us):=by grind [Hid.o]
   clear HA hr HR;rcases(show lc<0∨(0<=lc/\(n:Int)<=lc) by omega) with g1 | ⟨g1,g2⟩
   all_goals
    go_enter Tryz.func191,Tryz.ntmps191;go_wp2;go_ret;rw[aix.o];exact⟨ed (fun b=>Ending.returned (.bool b)) Cw.o.symm,HKA.o,Yk.o⟩
end Go.Proofs.YtlgoihmkgaaemaaGreat
