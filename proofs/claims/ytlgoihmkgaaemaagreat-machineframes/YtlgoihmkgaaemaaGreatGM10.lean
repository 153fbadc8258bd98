import Derived.Test.YtlgoihmkgaaemaaGreatGM09
set_option maxHeartbeats 20000000
set_option linter.unusedVariables false
set_option maxRecDepth 100000
set_option linter.unusedSimpArgs false
namespace Go.Proofs.YtlgoihmkgaaemaaGreat
open Go.RowKit
theorem adk {s t:ByteArray} {a b:Int} (h:s=t) (g:a=b):Ending.returned (.tuple #[.string s,I a])=.returned (.tuple #[.string t,I b]):=by rw[h,g]
theorem Ye (s:bG) (w:World) (h:qG w s.ao s.eO) (hf:Dw s) :
  Calls Tryz.prog 72 #[.agg (uT s)] w fun e w'=>e=.returned (.tuple #[.string (mH s).1,I (mH s).2])/\Below w.heap.size w w':=by
 have HR:Hid (∀W,Below w.heap.size w W->Calls Tryz.prog 122 #[.agg (uT s)] W fun e w'=>e=.returned (.bool (df s))/\Below W.heap.size W w'):=fun W hb=>AA s W (h.below hb) hf
 obtain⟨f1,f2,f3,f4⟩:=hf;obtain⟨pg,dt,fs,ao,cap⟩:=s;simp only at f1 f2 f3 f4;unfold cu at f2 f3;simp only[uT] at HR;simp only[uT];have hdl:dt.size<=maxLen:=by grind [maxLen]
 have F4:=aA f4;have HH:=aA h;clear f4 h f1;have HB:=aA ((aJ w.heap.size w).alloc (aH _) (.cells #[I pg,.string dt,.slice ao fs.length cap] 145));have BX:=aA (bD w #[I pg,.string dt,.slice ao fs.length cap] 145);by_cases hs:df ⟨pg,dt,fs,ao,cap⟩=true
 · have HN:Hid (mH ⟨pg,dt,fs,ao,cap⟩=(tE dt fs fs.length,0)):=by
    show _=_;unfold mH;rw[aB hs];rfl
   obtain⟨hd,hfx⟩:oY ⟨pg,dt,fs,ao,cap⟩=true/\fJ fs fs.length=true:=by
    grind [df]
   have h16:dt.size=16:=by
    grind [oY]
   have HFX:=aA hfx;rw[hs] at HR;clear hs hd hfx;go_enter Tryz.func72,Tryz.ntmps72;go_wp2_with (first | (go_at_call 122;refine(HR.o _ HB.o).mono ?_;rintro e w1 ⟨rfl,hb⟩;have HB:=aA (HB.o.trans (hb.mono HB.o.size));have BX:=aA (aN BX.o hb (aI BX.o));have q0:=aq BX.o 0 rfl;have q1:=aq BX.o 1 rfl;have q2:=aq BX.o 2 rfl;clear hb) | (go_at_call 123;refine(Rm _ _ (by omega)).mono ?_;rintro e w2 ⟨rfl,hb⟩;have HB:=aA (HB.o.trans (hb.mono HB.o.size));have BX:=aA (aN BX.o hb (aI BX.o));have q0:=aq BX.o 0 rfl;have q1:=aq BX.o 1 rfl;have q2:=aq BX.o 2 rfl;clear hb))
   go_loopw [16,4] (fun i d wr=>∃k:Nat,k<=fs.length/\i=I k/\d=.string (tE dt fs k)/\Below w.heap.size w wr) (fun i _ _=>fs.length-(intOf i).toNat)
   case atStart=>exact⟨0,by omega,rfl,rfl,HB.o⟩
   case round =>
    obtain⟨k,hk,rfl,rfl,hb⟩:=hrel;have Al:=aA hb;by_cases hlt:k<fs.length
    · obtain⟨b,off,hao,hbl,eX⟩:=(HH.o.below hb) (by omega);subst hao;obtain⟨c0,c1⟩:=eX k hlt;have hok:=(AH _ _).1 (Hr fs fs.length HFX.o k hlt);have hgk:fJ fs k=true:=by
       cases e:fJ fs k
       · rw[wP fs k fs.length (by omega) e] at HFX;cases HFX
       · rfl
      have hed:=sF fs k hgk;have hsz:=zF dt fs h16 k hgk;have wE:Hid (tE dt fs (k+1)=iw (tE dt fs k) (nN fs k).off.toNat (nN fs k).bytes):=rfl;obtain⟨f,hfe⟩:=ex (nN fs k);rw[<- hfe] at c0 c1 hok wE;obtain⟨D,hD⟩:=ex (tE dt fs k);rw[<- hD] at hsz wE;rw[<- hD];obtain⟨o,ho⟩:∃o:Nat,f.off=(o:Int):=⟨f.off.toNat,by omega⟩;rw[ho] at c0 hok;rw[ho,lD] at wE;clear hfe hD hgk eX hb;have jQ:=aA (Al.o.alloc Al.o.size (.cells #[I (o:Int),.string f.bytes] 226));go_wp2_with (go_at_call 124;refine(Jr D f.bytes o _ (by omega) (by omega)).mono ?_;rintro e w3 ⟨rfl,hb⟩;have jQ:=aA (jQ.o.trans (hb.mono jQ.o.size));clear hb)
      go_roundw
      case rel=>exact⟨k+1,by omega,by go_num,by rw[wE.o],jQ.o⟩
      case measure=>simp[intOf];omega
    · obtain rfl:k=fs.length:=by omega
      go_wp2
      go_ret2
      exact⟨adk (by rw[HN.o]) (by rw[HN.o]),Al.o⟩
 · have hs':df ⟨pg,dt,fs,ao,cap⟩=false:=by grind
   have HN:Hid (mH ⟨pg,dt,fs,ao,cap⟩=(⟨#[]⟩,1)):=by
    show _=_
    grind [mH]
   rw[hs'] at HR;clear hs hs';rw[HN.o];go_enter Tryz.func72,Tryz.ntmps72;go_wp2_with (go_at_call 122;refine(HR.o _ HB.o).mono ?_;rintro e w1 ⟨rfl,hb⟩;have HB:=aA (HB.o.trans (hb.mono HB.o.size));clear hb)
   go_ret2
   exact⟨rfl,HB.o⟩
open Go.RowKit
def iT (f:lK):List Value:=[.string f.data,I f.refs,.bool f.jw,.bool f.seen]
def iQ (f:oO):List Value:=[.string f.data,I f.refs]
def bw (e:bC):List Value:=[I e.page,I e.kind,I e.loc]
def acH {α:Type} (f:α->List Value) (k:Nat) (d:α) (w:World) (b off:Nat) (l:List α):Prop:=∀i,i<l.length->∀j,j<k->w.cell? (Ad b (off+i*k+j))=(f (l.getD i d))[j]?
def dW {α:Type} (f:α->List Value) (k:Nat) (d:α) (w:World) (ao:Option Addr) (l:List α):Prop:=gJ (acH f k d) w ao l
theorem dW.below {α:Type} {f:α->List Value} {k:Nat} {d:α} {w w':World} {ao:Option Addr} {l:List α} (h:dW f k d w ao l) (hb:Below w.heap.size w w'):dW f k d w' ao l :=
 gJ.below (lie:=acH f k d) (fun hb hlt h i hi j hj=>(cJ hb hlt).trans (h i hi j hj)) h hb
def KD (w:World) (b off:Nat) (l:List cV):Prop:=∀i,i<l.length->∃va ap cp,w.cell? (Ad b (off+i*3))=some (.bool (ak l i).live)/\w.cell? (Ad b (off+i*3+1))=some va/\w.cell? (Ad b (off+i*3+2))=some (.slice ap (ak l i).bf.length cp)/\gu w va (ak l i).aT/\dW bw 3 gY w ap (ak l i).bf/\(ak l i).bf.length<=cp
theorem afi {w w':World} {b off:Nat} {l:List cV} (hb:Below w.heap.size w w') (hlt:b<w.heap.size) (h:KD w b off l):KD w' b off l:=fun i hi=>by
 obtain⟨va,ap,cp,c0,c1,c2,c3,c4,c5⟩:=h i hi;exact⟨va,ap,cp,(cJ hb hlt).trans c0,(cJ hb hlt).trans c1,(cJ hb hlt).trans c2,c3.below hb,c4.below hb,c5⟩
def zI (w:World) (ao:Option Addr) (l:List cV):Prop:=gJ KD w ao l
theorem zI.below {w w':World} {ao:Option Addr} {l:List cV} (h:zI w ao l) (hb:Below w.heap.size w w'):zI w' ao l:=gJ.below (lie:=KD) (fun hb hlt h=>afi hb hlt h) h hb
structure ja where
 aS:Option Addr
 cS:Nat
 aF:Option Addr
 cF:Nat
 aL:Option Addr
 cL:Nat
 aP:Option Addr
 cP:Nat
structure jo (w:World) (a:ja) (k:aR):Prop where
 aM:jn w a.aS k.aM
 frames:dW iT 4 gM w a.aF k.frames
 slots:dW iQ 2 nR w a.aL k.slots
 aj:zI w a.aP k.aj
theorem jo.below {w w':World} {a:ja} {k:aR} (h:jo w a k) (hb:Below w.heap.size w w'):jo w' a k:=⟨h.aM.below hb,h.frames.below hb,h.slots.below hb,h.aj.below hb⟩
def bc (a:ja) (k:aR):Array Value:=#[.slice a.aS k.aM.length a.cS,.slice a.aF k.frames.length a.cF,.slice a.aL k.slots.length a.cL,.slice a.aP k.aj.length a.cP,I k.hand]
structure Qu (s:cV):Prop where
 aT:dH s.aT
 bf:cu s.bf.length
 ML:∀i,i<s.bf.length->cK (aV s.bf i).page/\cK (aV s.bf i).kind/\cK (aV s.bf i).loc
structure o7 (k:aR):Prop where
 aM:qZ k.aM
 nf:cu k.frames.length
 fr:∀i,i<k.frames.length->cu (aD k.frames i).data.size/\cK (aD k.frames i).refs
 ns:cu k.slots.length
 sl:∀i,i<k.slots.length->cu (bE k.slots i).data.size/\cK (bE k.slots i).refs
 np:cu k.aj.length
 sp:∀i,i<k.aj.length->Qu (ak k.aj i)
 hand:cK k.hand
theorem H0 (vS vF vL vP:Option Addr) (nS cS nF cF nL cL nP cP:Nat) (hd:Value) (w:World) :
  Calls Tryz.prog 139 #[.agg #[.slice vS nS cS,.slice vF nF cF,.slice vL nL cL,.slice vP nP cP,hd]] w fun e w'=>e=.returned (.bool (decide ((3<=nF/\nF<=64)/\nL<=512/\(1<=nP/\nP<=4)/\nS<=255)))/\Below w.heap.size w w':=by
 obtain⟨A,hA⟩:=ex (decide ((3<=nF/\nF<=64)/\nL<=512/\(1<=nP/\nP<=4)/\nS<=255));rw[<- hA];have HA:=ai hA;clear hA;rcases(show ¬(3:Int)<=nF∨((3:Int)<=nF/\¬(nF:Int)<=64)∨((3:Int)<=nF/\(nF:Int)<=64/\¬(nL:Int)<=512)∨((3:Int)<=nF/\(nF:Int)<=64/\(nL:Int)<=512/\¬(1:Int)<=nP)∨((3:Int)<=nF/\(nF:Int)<=64/\(nL:Int)<=512/\(1:Int)<=nP/\¬(nP:Int)<=4)∨((3:Int)<=nF/\(nF:Int)<=64/\(nL:Int)<=512/\(1:Int)<=nP/\(nP:Int)<=4/\¬(nS:Int)<=255)∨((3:Int)<=nF/\(nF:Int)<=64/\(nL:Int)<=512/\(1:Int)<=nP/\(nP:Int)<=4/\(nS:Int)<=255) by omega) with g | ⟨g,g1⟩ | ⟨g,g1,g2⟩ | ⟨g,g1,g2,g3⟩ | ⟨g,g1,g2,g3,g4⟩ | ⟨g,g1,g2,g3,g4,g5⟩ | ⟨g,g1,g2,g3,g4,g5⟩
 all_goals
  go_enter Tryz.func139,Tryz.ntmps139;go_wp2;go_ret;exact⟨dY (fun b=>Ending.returned (.bool b)) (by grind [Hid.o]),(aJ _ _).alloc (aH _) _⟩
open Go.RowKit
def qI (G:Nat->ByteArray):Nat->List Value
 | 0=>[]
 | n+1=>qI G n++[.string (G n)]
def uD (G:Nat->ByteArray) (n:Nat) (d:ByteArray):Nat->ByteArray:=fun k=>if k=n then d else G k
theorem qc (G:Nat->ByteArray):∀n,(qI G n).length=n
 | 0=>rfl
 | n+1=>by rw[qI,fD,qc G n];rfl
theorem Fm (G:Nat->ByteArray) (n:Nat):∀m,n<m->(qI G m)[n]?=some (.string (G n))
 | 0,h=>by omega
 | m+1,h=>by
  rw[qI];by_cases c:n<m
  · rw[GN (by grind [qc]),Fm G n m c]
  grind [qc]
theorem Hy (F G:Nat->ByteArray):∀m,(∀k,k<m->F k=G k)->qI F m=qI G m
 | 0,_=>rfl
 | m+1,h=>by rw[qI,qI,Hy F G m (fun k hk=>h k (by omega)),h m (by omega)]
theorem M0 (G:Nat->ByteArray) (n:Nat) (d:ByteArray):∀m,n<m->(qI G m).set n (.string d)=qI (uD G n d) m
 | 0,h=>by omega
 | m+1,h=>by
  rw[qI,qI];by_cases c:n<m
  · rw[JG _ _ (by grind [qc]),M0 G n d m c]
    grind [uD]
  · obtain rfl:n=m:=by omega
    rw[Au _ _ (by grind [qc]),qc,GG,Hy (uD G n d) G n (fun k hk=>by grind [uD])]
    grind [uD]
def mD (a b c d e:Value) (G:Nat->ByteArray):Array Value:=([a,b,c,d,e]++qI G 256).toArray
theorem Qs (a b c d e:Value) (G:Nat->ByteArray) (n:Nat) (h:n<256):(mD a b c d e G)[5+n]?=some (.string (G n)):=by
 grind [mD,Fm]
theorem YA (a b c d e:Value) (G:Nat->ByteArray) (n:Nat) (x:ByteArray) (h:n<256):(mD a b c d e G).setIfInBounds (5+n) (.string x)=mD a b c d e (uD G n x):=by
 grind [mD,M0]
def sI:Nat->ByteArray:=fun _=>⟨#[]⟩
def lY (hs:List bG):Nat->Nat->ByteArray
 | 0=>sI
 | k+1=>uD (lY hs k) (bu hs k).page.toNat (qW (bu hs k))
theorem Fp (hs:List bG) (hr:gS hs=true) (n:Nat):lY hs hs.length n=eV hs n:=by
 have hrise:=E6 hs hr;have hat:∀i,i<hs.length->1<=(bu hs i).page:=fun i hi=>by
  have:=(qF hs hs.length hr i hi).1
  grind [df,oY]
 have key:∀k,k<=hs.length->(∀i,i<k->(bu hs i).page≠(n:Int))->lY hs k n=⟨#[]⟩:=fun k=>by
  induction k with
  | zero=>intro _ _;rfl
  | succ k ih =>
   intro hk h;show uD (lY hs k) _ _ n=_
   grind [uD]
 have anP:∀k,k<=hs.length->∀j,j<k->(bu hs j).page=(n:Int)->lY hs k n=qW (bu hs j):=fun k=>by
  induction k with
  | zero=>omega
  | succ k ih =>
   intro hk j hj e;show uD (lY hs k) _ _ n=_;unfold uD;by_cases c:j=k
   · grind
   · have hlt:(bu hs j).page<(bu hs k).page:=by
      have:=(aco.1 hrise) j k (by grind) (by grind) (by omega)
      grind [bu]
     grind
 unfold eV;cases g:iD hs n with
 | none =>
  have h:=List.find?_eq_none.1 g
  grind [bu]
 | some s =>
  have hm:=UD g;have hp:=List.find?_some g;obtain⟨j,hj,rfl⟩:=lu Bv hm;exact anP _ (aH _) j hj (oI hp)
theorem VB {s:bG} (h:df s=true):mH s=(qW s,0):=by grind [mH]
theorem YD {s:bG} (h:df s=false):mH s=(⟨#[]⟩,1):=by grind [mH]
theorem KC (hs:List bG) (aS:Option Addr) (cS mb:Nat) (b c d e:Value) (w0 w:World) (h:jn w0 aS hs) (hf:qZ hs) (hw:Below w0.heap.size w0 w) (hmb:w0.heap.size<=mb) (hm:w.heap[mb]?=some (.cells (mD (.slice aS hs.length cS) b c d e sI) 158 (0,0))) (hl:hs.length<=255) :
  Calls Tryz.prog 140 #[.pointer (some (Ad mb 0))] w fun x w'=>x=.returned (.bool (gS hs))/\aC (fun b=>b=mb) w w'/\∃G,w'.heap[mb]?=some (.cells (mD (.slice aS hs.length cS) b c d e G) 158 (0,0))/\(gS hs=true->G=lY hs hs.length):=by
 have HH:=ai h;have HF:=ai hf;have HW:=ai hw;have hlt:=aI hm;have m0:w.cell? (Ad mb 0)=some (.slice aS hs.length cS):=aq hm 0 rfl;have HM:=ai hm;have Mp:Hid (∀k,k<hs.length->(df (bu hs k)=false∨(bu hs k).page<=(if k=0 then 0 else (bu hs (k-1)).page))->gS hs=false):=fun k hk g=>Yj hs k hk (by
  grind [rA,df,oY])
 have HST:Hid (∀k,k<hs.length->jT hs k=true->df (bu hs k)=true->(if k=0 then 0 else (bu hs (k-1)).page)<(bu hs k).page->jT hs (k+1)=true):=fun k hk h1 h2 h3=>by
  grind [jT,rA]
 clear h hf hw hm;go_enter Tryz.func140,Tryz.ntmps140;go_wp2;go_loopw [3,14] (fun lv iv wr=>∃k:Nat,k<=hs.length/\iv=I (k:Int)/\lv=I (if k=0 then 0 else (bu hs (k-1)).page)/\jT hs k=true/\aC (fun b=>b=mb) w wr/\wr.heap[mb]?=some (.cells (mD (.slice aS hs.length cS) b c d e (lY hs k)) 158 (0,0))) (fun _ iv _=>hs.length-(intOf iv).toNat)
 case atStart=>exact⟨0,by omega,rfl,rfl,rfl,aC.refl _ _,HM.o⟩
 case round =>
  obtain⟨k,hk,rfl,rfl,hr,Pe,hmk⟩:=hrel;have HKP:=ai Pe;have HMK:=ai hmk;have HR:=ai hr;clear hr;obtain⟨L,hL⟩:∃L:Int,L=if k=0 then 0 else (bu hs (k-1)).page:=⟨_,rfl⟩
  rw[<- hL];by_cases JK:k<hs.length
  · have hbk:=Pe.below HW.o (by omega) (fun b hb=>by omega);have HBK:=ai hbk;obtain⟨bb,off,hao,hbl,eX⟩:=HH.o (by omega);subst hao;obtain⟨d0,d1,d2,d3⟩:=eX k JK;have hsz:=Pe.size;have c0:=(hbk.cell (p:=(Ad bb (off+k*3))) hbl).trans d0;have c1:=(hbk.cell (p:=(Ad bb (off+k*3+1))) hbl).trans d1;have c2:=(hbk.cell (p:=(Ad bb (off+k*3+2))) hbl).trans d2;have Pg:=HF.o.2 k JK;have HC:Hid (∀V,Below w0.heap.size w0 V->Calls Tryz.prog 72 #[.agg (uT (bu hs k))] V fun e w'=>e=.returned (.tuple #[.string (mH (bu hs k)).1,I (mH (bu hs k)).2])/\Below V.heap.size V w'):=fun V hV=>Ye _ V (d3.below hV) Pg
    have Mp:=ai (Mp.o k JK);have HST:=ai (HST.o k JK HR.o);have Pd:=Pg.page;have HFG:Hid (lY hs (k+1)=uD (lY hs k) (bu hs k).page.toNat (qW (bu hs k))):=rfl;have HHB:Hid (df (bu hs k)=true->1<=(bu hs k).page/\(bu hs k).page<=255):=fun g=>by
     unfold df oY at g;simp only[eG,kR] at g;omega
    have Q4:=ai (@VB (bu hs k));have HFO:=ai (@YD (bu hs k));have HLP:Hid ((if k+1=0 then 0 else (bu hs (k+1-1)).page)=(bu hs k).page):=by
     show _=_;rw[au (by omega),Ut]
    unfold uT at HC;obtain⟨S,hS⟩:=ex (bu hs k);rw[<- hL] at Mp HST;rw[<- hS] at c0 c1 c2 HC Mp HST Pd HFG HHB Q4 HFO HLP;obtain⟨pg,dt,fx,fo,fc⟩:=S;simp only at c0 c1 c2 HC Mp HST Pd HFG HHB Q4 HFO HLP;obtain⟨nx,hnx⟩:=ex fx.length;rw[<- hnx] at c2 HC;clear hS hL hnx d0 d1 d2 d3 eX Pg hbk Pe hmk;cases IU:df ⟨pg,dt,fx,fo,fc⟩ with
    | false =>
     have Lg:=ai (Mp.o (.inl IU));have adU:=ai (HFO.o IU);rw[adU.o] at HC;clear Q4 HFO adU IU Mp HST HFG HHB HLP;have jQ:=ai (HBK.o.alloc (by omega) (.cells #[I pg,.string dt,.slice fo nx fc] 145));have KA:=ai ((HKP.o.trans (aC.alloc (fun b=>b=mb) wr (.cells #[I pg,.string dt,.slice fo nx fc] 145)) (fun _ _ g=>g)));have MA:=ai (bl HMK.o (.cells #[I pg,.string dt,.slice fo nx fc] 145));have SA:=ai (bD wr #[I pg,.string dt,.slice fo nx fc] 145);clear HM m0 HH HF;go_wp2_with (go_at_call 72;refine(HC.o _ jQ.o).mono ?_;rintro e w1 ⟨rfl,hb1⟩;have cM:=ai hb1;have S1:=ai (aN SA.o hb1 (by simp));clear hb1)
     go_ret;have hM:=aN MA.o cM.o (by simp;omega);exact⟨dY (fun b=>Ending.returned (.bool b)) Lg.o.symm,KA.o.trans (aC.bY cM.o) (fun _ _ g=>g),_,hM,fun g=>by rw[Lg.o] at g;cases g⟩
    | true =>
     have adU:=ai (Q4.o IU);rw[adU.o] at HC;have hpb:=HHB.o IU;by_cases hlp:pg<=L
     · have Lg:=ai (Mp.o (.inr hlp));clear Q4 HFO adU IU Mp HST HFG HHB HLP;have jQ:=ai (HBK.o.alloc (by omega) (.cells #[I pg,.string dt,.slice fo nx fc] 145));have KA:=ai ((HKP.o.trans (aC.alloc (fun b=>b=mb) wr (.cells #[I pg,.string dt,.slice fo nx fc] 145)) (fun _ _ g=>g)));have MA:=ai (bl HMK.o (.cells #[I pg,.string dt,.slice fo nx fc] 145));have SA:=ai (bD wr #[I pg,.string dt,.slice fo nx fc] 145);clear HM m0 HH HF;go_wp2_with (go_at_call 72;refine(HC.o _ jQ.o).mono ?_;rintro e w1 ⟨rfl,hb1⟩;have cM:=ai hb1;have S1:=ai (aN SA.o hb1 (by simp));have s0:w1.cell? (Ad wr.heap.size 0)=some (I pg):=aq S1.o 0 rfl;clear hb1)
       go_ret;have hM:=aN MA.o cM.o (by simp;omega);exact⟨dY (fun b=>Ending.returned (.bool b)) Lg.o.symm,KA.o.trans (aC.bY cM.o) (fun _ _ g=>g),_,hM,fun g=>by rw[Lg.o] at g;cases g⟩
     · have G8:=ai (HST.o IU (by omega));clear Q4 HFO adU IU Mp HST HHB;have aoh:¬mb=wr.heap.size:=by omega
       have jQ:=ai (HBK.o.alloc (by omega) (.cells #[I pg,.string dt,.slice fo nx fc] 145));have KA:=ai ((HKP.o.trans (aC.alloc (fun b=>b=mb) wr (.cells #[I pg,.string dt,.slice fo nx fc] 145)) (fun _ _ g=>g)));have MA:=ai (bl HMK.o (.cells #[I pg,.string dt,.slice fo nx fc] 145));have SA:=ai (bD wr #[I pg,.string dt,.slice fo nx fc] 145);clear HM m0 HH HF;go_wp2_with (go_at_call 72;refine(HC.o _ jQ.o).mono ?_;rintro e w1 ⟨rfl,hb1⟩;have cM:=ai hb1;have S1:=ai (aN SA.o hb1 (by simp));have s0:w1.cell? (Ad wr.heap.size 0)=some (I pg):=aq S1.o 0 rfl;clear hb1)
       obtain⟨n,rfl⟩:∃n:Nat,pg=(n:Int):=⟨pg.toNat,by omega⟩;have hM:=aN MA.o cM.o (by simp;omega);have RO:=ai hM;have K1:=ai (KA.o.trans (aC.bY cM.o) (fun _ _ g=>g));have q5:w1.cell? (Ad mb (5+n))=some (.string (lY hs k n)):=aq hM (5+n) (Qs _ _ _ _ _ _ n (by omega));have qf:w1.frozen? (Ad mb (5+n))=false:=aQ hM (5+n);have n0:(0:Int)<=(n:Int):=by omega
       have n1:(n:Int)<256:=by omega
       rw[lD] at HFG;obtain⟨FD,hFD⟩:=ex (qW { page:=(n:Int),data:=dt,eO:=fx,ao:=fo,cap:=fc });rw[<- hFD] at HFG ⊢;clear hM hFD HC c0 c1 c2;go_region;have Jk:=ai ((fF RO.o (5+n) (.string FD)).trans (by rw[YA _ _ _ _ _ _ n FD (by omega),<- HFG.o]));have K2:=ai (K1.o.trans ((aC.set (fun b=>b=mb) w1 (Ad mb (5+n)) (.string FD) rfl).trans (aC.drew _ _) (fun _ _ g=>g)) (fun _ _ g=>g));have s2:(w1.setCell (Ad mb (5+n)) (.string FD)).drew.cell? (Ad wr.heap.size 0)=some (I (n:Int)):=(b7 w1 mb (5+n) wr.heap.size 0 (.string FD) (fun e=>aoh e.symm)).trans s0;obtain⟨W2,hW2⟩:=ex ((w1.setCell (Ad mb (5+n)) (.string FD)).drew);have HM3:Hid (W2.heap[mb]?=some (.cells (mD (.slice (some (Ad bb off)) hs.length cS) b c d e (lY hs (k+1))) 158 (0,0))):=by rw[hW2];exact Jk.o
       rw[<- hW2] at K2 s2 ⊢;clear hW2 Jk RO K1 q5 qf s0;go_wp2;go_roundw
       case rel=>exact⟨k+1,by omega,by go_num,by rw[au (by omega),Ut,<- HLP.o,au (by omega),Ut],G8.o,K2.o,HM3.o⟩
       case measure=>simp[intOf];omega
  · obtain rfl:k=hs.length:=by omega
    clear Pe hmk hL;go_wp2;go_ret;exact⟨dY (fun b=>Ending.returned (.bool b)) HR.o.symm,HKP.o,_,HMK.o,fun _=>rfl⟩
open Go.RowKit
theorem YC {hs:List bG} {ar:List aX} {k n:Nat} (hk:k<ar.length) (hn:n<(bB ar k).aO.toNat) (hz:(bB ar k).zero=false) (he:eV hs ((bB ar k).page+(n:Int))=⟨#[]⟩):ru hs ar=false:=by
 cases q:ru hs ar with
 | false=>rfl
 | true =>
  unfold ru at q;rw[pS] at q;have:=q (bB ar k) (jL hk);rw[pS] at this;have:=this n (uy.2 hn);rw[hz,he] at this;cases this
theorem Vz {hs:List bG} {ar:List aX} (h:∀k,k<ar.length->∀n,n<(bB ar k).aO.toNat->(bB ar k).zero=true∨eV hs ((bB ar k).page+(n:Int))≠⟨#[]⟩):ru hs ar=true:=by
 unfold ru;rw[pS];intro a ha;obtain⟨k,hk,rfl⟩:=lu xp ha;rw[pS];intro n hn;rcases h k hk n (uy.1 hn) with g | g
 · rw[show(ar.getD k xp).zero=true from g];rfl
 · rw[Un,kR];right;intro e;refine g ?_;have:(eV hs ((bB ar k).page+(n:Int))).size=0:=e;obtain⟨x,hx⟩:=ex (eV hs ((bB ar k).page+(n:Int)));rw[<- hx] at this ⊢;obtain⟨⟨l⟩⟩:=x;have:l=[]:=kT this;rw[this]
theorem Kz (hs:List bG) (ar:List aX) (va:Value) (mb:Nat) (w:World) (ha:gu w va ar) (hc:bj ar=0) (hmb:mb<w.heap.size) (hfl:∀n:Nat,n<256->w.cell? (Ad mb (5+n))=some (.string (eV hs n))) :
  Calls Tryz.prog 190 #[.pointer (some (Ad mb 0)),va] w fun e w'=>e=.returned (.bool (ru hs ar))/\Below w.heap.size w w':=by
 obtain⟨ao,cap,rfl,eX⟩:=ha;have hlen:=oa ar hc;have HL:=ai eX;have HFL:=ai hfl;have Nw:=ai (fun k (hk:k<ar.length)=>il ar k (gQ ar hc k hk));have pO:=ai (fun k n=>@YC hs ar k n);have af0:=ai (@Vz hs ar);obtain⟨A,hA⟩:=ex (ru hs ar);rw[<- hA] at pO af0 ⊢;clear eX hfl hA;go_enter Tryz.func190,Tryz.ntmps190;go_wp2;go_loopw [10] (fun iv wr=>∃k:Nat,k<=ar.length/\iv=I (k:Int)/\Below w.heap.size w wr/\∀i,i<k->∀n,n<(bB ar i).aO.toNat->(bB ar i).zero=true∨eV hs ((bB ar i).page+(n:Int))≠⟨#[]⟩) (fun iv _=>ar.length-(intOf iv).toNat)
 case atStart=>grind [Below.refl]
 case round =>
  obtain⟨k,hk,rfl,hb,E0⟩:=hrel;have HB:=ai hb;have HP:=ai E0;clear E0;by_cases hlt:k<ar.length
  · obtain⟨b,off,hao,TI⟩:=HL.o.resolve_left (fun e=>by grind);subst hao;obtain⟨d0,d1,d2,d3⟩:=TI k hlt;have hbl:=TI.lt k hlt;have c0:=(hb.cell (p:=(Ad b (off+k*4))) hbl).trans d0;have c1:=(hb.cell (p:=(Ad b (off+k*4+1))) hbl).trans d1;have c2:=(hb.cell (p:=(Ad b (off+k*4+2))) hbl).trans d2;have c3:=(hb.cell (p:=(Ad b (off+k*4+3))) hbl).trans d3;have hok:=Nw.o k hlt;have pO:=ai (fun n=>pO.o k n hlt);have HS:Hid (∀n,n<(bB ar k).aO.toNat->(bB ar k).zero=true∨eV hs ((bB ar k).page+(n:Int))≠⟨#[]⟩)->Hid (∀i,i<k+1->∀n,n<(bB ar i).aO.toNat->(bB ar i).zero=true∨eV hs ((bB ar i).page+(n:Int))≠⟨#[]⟩):=fun g i hi=>by
     by_cases e:i=k
     · rw[e];exact g.out
     · exact HP.o i (by omega)
    obtain⟨a,ha⟩:=ex (bB ar k);rw[<- ha] at c0 c1 c2 c3 hok pO HS;obtain⟨pg,ps,pt,z⟩:=a;simp only at c0 c1 c2 c3 hok pO HS;obtain⟨pn,rfl⟩:∃pn:Nat,pg=(pn:Int):=⟨pg.toNat,by omega⟩;obtain⟨pm,rfl⟩:∃pm:Nat,ps=(pm:Int):=⟨ps.toNat,by omega⟩;rw[lD] at HS pO;have jQ:=ai (HB.o.alloc HB.o.size (.cells #[I (pn:Int),I (pm:Int),I pt,.bool z] 139));have SA:=ai (bD wr #[I (pn:Int),I (pm:Int),I pt,.bool z] 139);clear ha d0 d1 d2 d3 TI HP af0 Nw HL hb;go_wp2;obtain⟨W1,hW1⟩:=ex (wr.alloc (.cells #[I (pn:Int),I (pm:Int),I pt,.bool z] 139));rw[<- hW1] at jQ SA ⊢;obtain⟨sb,IU⟩:=ex wr.heap.size;rw[<- IU] at SA ⊢;clear hW1 IU c0 c1 c2 c3;have s0:W1.cell? (Ad sb 0)=some (I (pn:Int)):=aq SA.o 0 rfl;have s3:W1.cell? (Ad sb 3)=some (.bool z):=aq SA.o 3 rfl;have HWF:Hid (∀n:Nat,n<256->W1.cell? (Ad mb (5+n))=some (.string (eV hs n))):=fun n hn=>(jQ.o.cell (p:=(Ad mb (5+n))) hmb).trans (HFL.o n hn)
    go_loopw [16] (fun iv wq=>∃n:Nat,n<=pm/\iv=I (n:Int)/\(wq.heap=W1.heap/\Below w.heap.size w wq)/\∀i,i<n->z=true∨eV hs ((pn:Int)+(i:Int))≠⟨#[]⟩) (fun iv _=>pm-(intOf iv).toNat)
    case atStart=>exact⟨0,by omega,rfl,⟨rfl,jQ.o⟩,fun i hi=>by omega⟩
    case round =>
     obtain⟨n,hn,rfl,⟨hD,Xk⟩,E0⟩:=hrel;obtain⟨wq,hwq⟩:=ex wr;rw[<- hwq] at hD Xk ⊢;clear hwq;have HBD:=ai Xk;have HHD:=ai hD;have Xo:=ai E0;have r0:wq.cell? (Ad sb 0)=some (I (pn:Int)):=(GQ (by rw[hD])).trans s0;have r3:wq.cell? (Ad sb 3)=some (.bool z):=(GQ (by rw[hD])).trans s3;have HWQ:Hid (∀n:Nat,n<256->wq.cell? (Ad mb (5+n))=some (.string (eV hs n))):=fun n hn=>(GQ (by rw[HHD.o])).trans (HWF.o n hn)
     clear hD Xk E0;by_cases GU:n<pm
     · have hni:(n:Int)<(pm:Int):=by omega
       have HN:Hid (∀wz:World,wz=wq.drew->(wz.heap=W1.heap/\Below w.heap.size w wz)):=fun wz e=>by rw[e];exact⟨HHD.o,HBD.o.drew⟩
       have Wf:Hid ((z=true∨eV hs ((pn:Int)+(n:Int))≠⟨#[]⟩)->∀i,i<n+1->z=true∨eV hs ((pn:Int)+(i:Int))≠⟨#[]⟩):=fun g i hi=>by
        by_cases e:i=n
        · rw[e];exact g
        · exact Xo.o i (by omega)
       cases z with
       | true =>
        clear pO HS Xo;go_wp2;go_region;go_wp2;go_roundw
        case rel=>exact⟨n+1,by omega,by go_num,HN.o _ rfl,Wf.o (.inl trivial)⟩
        case measure=>simp[intOf];omega
       | false =>
        have q:=HWQ.o (pn+n) (by omega);have ew:IntKind.i64.wrap ((pn:Int)+(n:Int))=((pn+n:Nat):Int):=by rw[OV];omega
        have ei:((pn+n:Nat):Int)=(pn:Int)+(n:Int):=by omega
        have i0:(0:Int)<=((pn+n:Nat):Int):=by omega
        have i1:((pn+n:Nat):Int)<256:=by omega
        have pO:=ai (pO.o n GU rfl);rw[<- ei] at pO Wf;obtain⟨X,hX⟩:=ex (pn+n);obtain⟨D,hD⟩:=ex (eV hs (X:Int));rw[<- hX] at q ew i0 i1 pO Wf;rw[<- hD] at q pO Wf;clear HS Xo HWQ hX hD ei;by_cases hz:D=⟨#[]⟩
        · have hA:=pO.o hz;subst hA hz;go_wp2;go_region;go_wp2;go_ret;exact⟨rfl,HBD.o.drew⟩
        · have hz2:D.toList.isEmpty=false:=by
           rw[JH];cases q2:D.data.toList.isEmpty with
           | false=>rfl
           | true=>exact absurd (by obtain⟨⟨l⟩⟩:=D;have e:l=[]:=List.isEmpty_iff.1 q2;rw[e]) hz
          clear pO;go_wp2;go_region;go_wp2;go_roundw
          case rel=>exact⟨n+1,by omega,by go_num,HN.o _ rfl,Wf.o (.inr hz)⟩
          case measure=>simp[intOf];omega
     · obtain rfl:n=pm:=by omega
       have rJ:=ai (HS Xo);have hni:¬(n:Int)<(n:Int):=by omega
       go_wp2;go_roundw
       case rel=>exact⟨k+1,by omega,by go_num,HBD.o,rJ.o⟩
       case measure=>simp[intOf];omega
  · obtain rfl:k=ar.length:=by omega
    have hA:=af0.o HP.o;subst hA;clear hb;go_wp2;go_ret;exact⟨rfl,HB.o⟩
open Go.RowKit
theorem Kv (hs:List bG) (s:cV) (va:Value) (ap:Option Addr) (cp mb:Nat) (w:World) (ha:gu w va s.aT) (hf:Qu s) (hmb:mb<w.heap.size) (hfl:∀n:Nat,n<256->w.cell? (Ad mb (5+n))=some (.string (eV hs n))) :
  Calls Tryz.prog 141 #[.pointer (some (Ad mb 0)),.agg #[.bool s.live,va,.slice ap s.bf.length cp]] w fun e w'=>e=.returned (.bool (pF hs s))/\Below w.heap.size w w':=by
 have EU:=ai (fun V (hV:Below w.heap.size w V)=>ju s.aT va V (ha.below hV) hf.aT);have HHS:Hid (bj s.aT=0->∀V,Below w.heap.size w V->Calls Tryz.prog 190 #[.pointer (some (Ad mb 0)),va] V fun e w'=>e=.returned (.bool (ru hs s.aT))/\Below V.heap.size V w'):=fun hc V hV=>Kz hs s.aT va mb V (ha.below hV) hc (fV hmb hV.size) (fun n hn=>(hV.cell (p:=(Ad mb (5+n))) hmb).trans (hfl n hn))
 obtain⟨A,hA⟩:=ex (pF hs s);rw[<- hA];obtain⟨aa,ca,IP,_⟩:=ha;subst IP;have hln:=hf.aT.2;have hlp:s.bf.length<=140737488351232:=hf.bf;unfold pF at hA;have HA:=ai hA;clear hf hfl hA;obtain⟨na,qV⟩:=ex s.aT.length;obtain⟨np,Ak⟩:=ex s.bf.length;obtain⟨C,hC⟩:=ex (bj s.aT);obtain⟨E,hE⟩:=ex (ru hs s.aT);obtain⟨lv,hlv⟩:=ex s.live;rw[<- qV] at HA EU HHS hln ⊢;rw[<- Ak] at HA hlp ⊢;rw[<- hC] at HA EU HHS;rw[<- hE] at HA HHS;rw[<- hlv] at HA ⊢;clear qV Ak hC hE hlv;have HB:=ai ((aJ w.heap.size w).alloc (aH _) (.cells #[.bool lv,.slice aa na ca,.slice ap np cp] 99));have X0:=ai (bD w #[.bool lv,.slice aa na ca,.slice ap np cp] 99);cases lv with
 | false =>
  have EG:Hid (A=(decide (na=0)&&decide (np=0))):=HA;clear HA EU HHS;rcases(show(na=0/\np=0)∨(na=0/\¬np=0)∨¬na=0 by omega) with⟨g,k⟩ | ⟨g,k⟩ | g
  · have h0:((na:Int)==0)=true:=by grind
    have h1:((np:Int)==0)=true:=by grind
    have Ce:Hid (A=true):=by grind
    clear EG g k;go_enter Tryz.func141,Tryz.ntmps141;go_wp2;go_ret;exact⟨dY (fun b=>Ending.returned (.bool b)) Ce.o.symm,HB.o⟩
  · have h0:((na:Int)==0)=true:=by grind
    have h1:((np:Int)==0)=false:=by grind
    have Ce:Hid (A=false):=by grind
    clear EG g k;go_enter Tryz.func141,Tryz.ntmps141;go_wp2;go_ret;exact⟨dY (fun b=>Ending.returned (.bool b)) Ce.o.symm,HB.o⟩
  · have h0:((na:Int)==0)=false:=by grind
    have Ce:Hid (A=false):=by grind
    clear EG g;go_enter Tryz.func141,Tryz.ntmps141;go_wp2;go_ret;exact⟨dY (fun b=>Ending.returned (.bool b)) Ce.o.symm,HB.o⟩
 | true =>
  have EG:Hid (A=(decide (C=0)&&E)):=HA;clear HA;by_cases g:C=0
  · subst g;have HHT:=ai (HHS.o rfl);have Ce:Hid (A=E):=EG;clear EG HHS;go_enter Tryz.func141,Tryz.ntmps141;go_wp2_with (first | (go_at_call 117;refine(EU.o _ HB.o).mono ?_;rintro e w1 ⟨rfl,hb1⟩;have cM:=ai (bU HB.o hb1);have X1:=ai (aN X0.o hb1 (by simp));have x1:w1.cell? (Ad w.heap.size 1)=some (.slice aa na ca):=aq X1.o 1 rfl;clear hb1) | (go_at_call 190;refine(HHT.o _ cM.o).mono ?_;rintro e w2 ⟨rfl,hb2⟩;have gP:=ai (bU cM.o hb2);clear hb2))
    go_ret;exact⟨dY (fun b=>Ending.returned (.bool b)) Ce.o.symm,gP.o⟩
  · have Ce:Hid (A=false):=by grind
    have g0:(C==0)=false:=by grind
    clear EG HHS;go_enter Tryz.func141,Tryz.ntmps141;go_wp2_with (go_at_call 117;refine(EU.o _ HB.o).mono ?_;rintro e w1 ⟨rfl,hb1⟩;have cM:=ai (bU HB.o hb1);clear hb1)
    go_ret;exact⟨dY (fun b=>Ending.returned (.bool b)) Ce.o.symm,cM.o⟩
theorem sH (l:List aX):0<=bg l/\bg l<=65025:=by
 unfold bg;split
 · rename_i h
   have h1:=oa l h;have h2:=Gz l h l.length (aH _);omega
 · omega
theorem DF (l:List cV):∀k,0<=jx l k/\jx l k<=65025*k
 | 0=>⟨Am _,by show(0:Int)<=_;omega⟩
 | k+1=>by
  have h1:=DF l k;have h2:=sH (ak l k).aT
  grind [jx]
theorem DG (l:List cV) (ao:Option Addr) (cap mb:Nat) (w:World) (h:zI w ao l) (hf:∀k,k<l.length->dH (ak l k).aT) (hn:l.length<=1000000) (hmb:w.cell? (Ad mb 3)=some (.slice ao l.length cap)) :
  Calls Tryz.prog 143 #[.pointer (some (Ad mb 0))] w fun e w'=>e=.returned (I (dZ l))/\Below w.heap.size w w':=by
 have HF:=ai hf;have HH:=ai h;have Mp:=ai (DF l);have Zf:Hid (∀k,jx l (k+1)=jx l k+bg (ak l k).aT):=fun k=>rfl
 clear h hf;go_enter Tryz.func143,Tryz.ntmps143;go_wp2;go_loopw [3,12] (fun sv iv wr=>∃k:Nat,k<=l.length/\iv=I (k:Int)/\sv=I (jx l k)/\Below w.heap.size w wr) (fun _ iv _=>l.length-(intOf iv).toNat)
 case atStart=>exact⟨0,by omega,rfl,rfl,aJ _ _⟩
 case round =>
  obtain⟨k,hk,rfl,rfl,hb⟩:=hrel;have HB:=ai hb;have JJ:=Mp.o k;by_cases hlt:k<l.length
  · obtain⟨b,off,hao,hbl,eX⟩:=(HH.o.below hb) (by omega);subst hao;obtain⟨va,ap,cp,c0,c1,c2,c3,c4,c5⟩:=eX k hlt;have Pg:=HF.o k hlt;have hst:=Zf.o k;have htb:=sH (ak l k).aT;obtain⟨aa,ca,rfl,_⟩:=id c3;have HT:Hid (∀W,Below wr.heap.size wr W->Calls Tryz.prog 70 #[.slice aa (ak l k).aT.length ca] W fun e w'=>e=.returned (I (bg (ak l k).aT))/\Below W.heap.size W w'):=fun W hW=>wu _ _ _ (c3.below hW) Pg
    obtain⟨n,hnn⟩:=ex ((ak l k).bf.length);obtain⟨na,qV⟩:=ex ((ak l k).aT.length);obtain⟨lv,hlv⟩:=ex ((ak l k).live);obtain⟨T,hT⟩:=ex (bg (ak l k).aT);obtain⟨R,hR⟩:=ex (jx l k);rw[<- hnn] at c2 c5;rw[<- qV] at c1 HT;rw[<- hlv] at c0;rw[<- hT] at HT hst htb;rw[<- hR] at hst JJ ⊢;have HST:=ai hst;clear hnn qV hlv hT hR c3 c4 c5 Pg eX hb hst;have jQ:=ai (HB.o.alloc HB.o.size (.cells #[.bool lv,.slice aa na ca,.slice ap n cp] 99));go_wp2_with (go_at_call 70;refine(HT.o _ ((aJ _ _).alloc (aH _) _)).mono ?_;rintro e w1 ⟨rfl,hb1⟩;have cM:=ai (bU jQ.o hb1);clear hb1)
    go_roundw
    case rel=>exact⟨k+1,by omega,by go_num,by rw[HST.o],cM.o⟩
    case measure=>simp[intOf];omega
  · obtain rfl:k=l.length:=by omega
    clear hb;go_wp2;go_ret;exact⟨rfl,HB.o⟩
open Go.RowKit
def uU (u:eT):List Value:=[I u.refs,I u.page,.bool u.zero]
theorem xD (u:eT):(uU u).length=3:=rfl
def gW (lo:Nat) (w:World) (g n cap:Nat) (us:List eT):Prop:=us.length=n/\w.ownsRow lo 302 3 (.slice (some (Ad g 0)) n cap) n (us.flatMap uU)
theorem gW.kp {lo:Nat} {w w':World} {D:Nat->Prop} {g n cap:Nat} {us:List eT} (h:gW lo w g n cap us) (hk:aC D w w') (hd:¬D g):gW lo w' g n cap us:=⟨h.1,hk.row h.2 (fun b hb=>by injection hb with hb;grind)⟩
theorem gW.lt {lo:Nat} {w:World} {g n cap:Nat} {us:List eT} (h:gW lo w g n cap us):lo<=g/\g<w.heap.size:=h.2.lt g rfl
theorem gW.at {lo:Nat} {w:World} {g n cap:Nat} {us:List eT} (h:gW lo w g n cap us) (i:Nat) (hi:i<n):w.cell? (Ad g (i*3))=some (I (cU us i).refs)/\w.cell? (Ad g (i*3+1))=some (I (cU us i).page)/\w.cell? (Ad g (i*3+2))=some (.bool (cU us i).zero):=by
 obtain⟨h1,h2⟩:=h;subst h1;exact⟨jY uU xD dx h2 i 0 hi (by omega),jY uU xD dx h2 i 1 hi (by omega),jY uU xD dx h2 i 2 hi (by omega)⟩
theorem BG {D:Nat->Prop} {w w':World} (h:aC D w w'):aC D w w'.drew:=h.trans (aC.drew D w') (fun _ _ x=>x)
theorem gW.d {lo:Nat} {w:World} {g n cap:Nat} {us:List eT} (h:gW lo w g n cap us):gW lo w.drew g n cap us:=h.kp (aC.drew (fun _=>False) w) (fun x=>x)
theorem Vx {α:Type} (f:α->List Value) (hf:∀x,(f x).length=3) (d:α) (x:α) (a b c:Value) (hx:f x=[a,b,c]) (l:List α) (i:Nat) (hi:i<l.length):(l.set i x).flatMap f=(((l.flatMap f).set (i*3) a).set (i*3+1) b).set (i*3+2) c:=by
 induction l generalizing i with
 | nil=>cases hi
 | cons y r ih =>
  cases i with
  | zero =>
   rw[dw,nM,nM,hx];obtain⟨p,q,s,e⟩:∃p q s,f y=[p,q,s]:=by
    have:=hf y
    match h:f y with
    | [p,q,s]=>grind
    | []=>grind
    | [_]=>grind
    | [_,_]=>grind
    | _::_::_::_::_=>grind
   rw[e];rfl
  | succ i =>
   grind
theorem gW.set {lo:Nat} {w:World} {g n cap:Nat} {us:List eT} (h:gW lo w g n cap us) (i:Nat) (hi:i<n) (u:eT):gW lo (((w.setCell (Ad g (i*3)) (I u.refs)).setCell (Ad g (i*3+1)) (I u.page)).setCell (Ad g (i*3+2)) (.bool u.zero)) g n cap (us.set i u):=by
 refine⟨by rw[fC];exact h.1,?_⟩;rw[Vx uU xD dx u _ _ _ rfl us i (by rw[h.1];exact hi)];exact eZ (eZ (eZ h.2 _ _) _ _) _ _
theorem Qr (us:List eT) (e:bC) (z:Bool) (lo g n cap:Nat) (w:World) (h:gW lo w g n cap us) (hn:n<=1000) (he:cK e.page/\cK e.loc) (hr:∀i,i<n->0<=(cU us i).refs/\(cU us i).refs<=1000000) :
  Calls Tryz.prog 191 #[.slice (some (Ad g 0)) n cap,.agg #[I e.page,I e.kind,I e.loc],.bool z] w fun x w'=>x=.returned (.bool (ow us e z))/\aC (fun b=>b=g) w w'/\gW lo w' g n cap (if ow us e z then rU us e z else us):=by
 obtain⟨A,hA⟩:=ex (ow us e z);rw[<- hA];obtain⟨R,hR⟩:=ex (if A then rU us e z else us);rw[<- hR];have HA:=ai hA;have HR:=ai hR;clear hA hR;have auR:=h.lt.2;have HU:=ai h;have hun:us.length=n:=h.1;obtain⟨pg,kd,lc⟩:=e;simp only at he ⊢;have ZC:=ai (aC.alloc (fun b=>b=g) w (.cells #[I pg,I kd,I lc] 174));have Xm:=ai (h.kp (aC.alloc (fun _=>False) w (.cells #[I pg,I kd,I lc] 174)) (fun x=>x));clear h;by_cases c:0<=lc/\lc<(n:Int)
 · obtain⟨i,rfl⟩:∃i:Nat,lc=(i:Int):=⟨lc.toNat,by omega⟩;have hi:i<n:=by omega
   obtain⟨u0,u1,u2⟩:=HU.o.at i hi;have hri:=hr i hi;have EG:Hid (A=!(decide (0<(cU us i).refs)&&(decide ((cU us i).page≠pg) || (cU us i).zero != z))):=by
    grind [ow]
   have HUS:=ai (Xm.o.set i hi ⟨(cU us i).refs+1,pg,z⟩);have HUN:Hid (rU us ⟨pg,kd,(i:Int)⟩ z=us.set i ⟨(cU us i).refs+1,pg,z⟩):=by
    rfl
   obtain⟨U,hU⟩:=ex (cU us i);rw[<- hU] at u0 u1 u2 hri EG HUS HUN;obtain⟨ur,up,uz⟩:=U;simp only at u0 u1 u2 hri EG HUS HUN;have HUI:=ai hU;clear hU hr HA;have wr1:IntKind.i64.wrap (ur+1)=ur+1:=by rw[OV];omega
   have BE:=ai (bD w #[I pg,I kd,I (i:Int)] 174);have dm:Hid (∀V,aC (fun b=>b=g) w V->∀us',gW lo V g n cap us'->A=true->us'=us.set i ⟨ur+1,pg,z⟩->gW lo V g n cap R):=fun V _ us' ho ha e=>by
    have:R=us':=by rw[HR.o,aB ha,HUN.o,e]
    grind
   have ahE:Hid (A=false->R=us):=fun ha=>by rw[HR.o,ha];rfl
   clear HR HUN;rcases(show ¬0<ur∨(0<ur/\up=pg/\uz=z)∨(0<ur/\up=pg/\¬uz=z)∨(0<ur/\¬up=pg) by
    grind) with g1 | ⟨g1,g2,g3⟩ | ⟨g1,g2,g3⟩ | ⟨g1,g2⟩
   · have d1:decide (0<ur)=false:=je g1;have Ce:Hid (A=true):=by grind
     clear EG;go_enter Tryz.func191,Tryz.ntmps191;go_wp2;obtain⟨W,hW⟩:=ex (w.alloc (.cells #[I pg,I kd,I (i:Int)] 174));rw[<- hW] at ZC Xm HUS BE ⊢;obtain⟨eb,heb⟩:=ex w.heap.size;rw[<- heb] at BE ⊢;clear hW heb;obtain⟨y0,y1,y2⟩:=Xm.o.at i hi;have v0:W.cell? (Ad g (i*3))=some (I ur):=by rw[y0,<- HUI.o]
     have v1:W.cell? (Ad g (i*3+1))=some (I up):=by rw[y1,<- HUI.o]
     have v2:W.cell? (Ad g (i*3+2))=some (.bool uz):=by rw[y2,<- HUI.o]
     have f0:W.frozen? (Ad g (i*3))=false:=iF Xm.o.2 _;have f1:W.frozen? (Ad g (i*3+1))=false:=iF Xm.o.2 _;have f2:W.frozen? (Ad g (i*3+2))=false:=iF Xm.o.2 _;have w0:W.cell? (Ad eb 0)=some (I pg):=aq BE.o 0 rfl;clear u0 u1 u2 y0 y1 y2;go_region;go_wp2;go_region;go_wp2;go_ret;have K:=ZC.o.trans (xh (D:=fun b=>b=g) W g (i*3) (i*3+1) (i*3+2) (I (ur+1)) (I pg) (.bool z) rfl) (fun _ _ x=>x);exact⟨dY (fun b=>Ending.returned (.bool b)) Ce.o.symm,BG (BG K),dm.o _ (BG (BG K)) _ HUS.o.d.d Ce.o rfl⟩
   · have b1:(up != pg)=false:=by grind
     have b2:(uz==z)=true:=by grind
     have Ce:Hid (A=true):=by grind
     clear EG g2 g3;go_enter Tryz.func191,Tryz.ntmps191;go_wp2;obtain⟨W,hW⟩:=ex (w.alloc (.cells #[I pg,I kd,I (i:Int)] 174));rw[<- hW] at ZC Xm HUS BE ⊢;obtain⟨eb,heb⟩:=ex w.heap.size;rw[<- heb] at BE ⊢;clear hW heb;obtain⟨y0,y1,y2⟩:=Xm.o.at i hi;have v0:W.cell? (Ad g (i*3))=some (I ur):=by rw[y0,<- HUI.o]
     have v1:W.cell? (Ad g (i*3+1))=some (I up):=by rw[y1,<- HUI.o]
     have v2:W.cell? (Ad g (i*3+2))=some (.bool uz):=by rw[y2,<- HUI.o]
     have f0:W.frozen? (Ad g (i*3))=false:=iF Xm.o.2 _;have f1:W.frozen? (Ad g (i*3+1))=false:=iF Xm.o.2 _;have f2:W.frozen? (Ad g (i*3+2))=false:=iF Xm.o.2 _;have w0:W.cell? (Ad eb 0)=some (I pg):=aq BE.o 0 rfl;clear u0 u1 u2 y0 y1 y2;go_region;go_wp2;go_region;go_wp2;go_ret;have K:=ZC.o.trans (xh (D:=fun b=>b=g) W g (i*3) (i*3+1) (i*3+2) (I (ur+1)) (I pg) (.bool z) rfl) (fun _ _ x=>x);exact⟨dY (fun b=>Ending.returned (.bool b)) Ce.o.symm,BG (BG K),dm.o _ (BG (BG K)) _ HUS.o.d.d Ce.o rfl⟩
   · have b1:(up != pg)=false:=by grind
     have b2:(uz==z)=false:=by grind
     have Ce:Hid (A=false):=by grind
     clear EG g2 g3 dm;go_enter Tryz.func191,Tryz.ntmps191;go_wp2;obtain⟨W,hW⟩:=ex (w.alloc (.cells #[I pg,I kd,I (i:Int)] 174));rw[<- hW] at ZC Xm HUS BE ⊢;obtain⟨eb,heb⟩:=ex w.heap.size;rw[<- heb] at BE ⊢;clear hW heb;obtain⟨y0,y1,y2⟩:=Xm.o.at i hi;have v0:W.cell? (Ad g (i*3))=some (I ur):=by rw[y0,<- HUI.o]
     have v1:W.cell? (Ad g (i*3+1))=some (I up):=by rw[y1,<- HUI.o]
     have v2:W.cell? (Ad g (i*3+2))=some (.bool uz):=by rw[y2,<- HUI.o]
     have w0:W.cell? (Ad eb 0)=some (I pg):=aq BE.o 0 rfl;clear u0 u1 u2 y0 y1 y2 HUS;go_region;go_wp2;go_ret;rw[ahE.o Ce.o];exact⟨dY (fun b=>Ending.returned (.bool b)) Ce.o.symm,BG ZC.o,Xm.o.d⟩
   · have b1:(up != pg)=true:=by grind
     have Ce:Hid (A=false):=by grind
     clear EG g2 dm;go_enter Tryz.func191,Tryz.ntmps191;go_wp2;obtain⟨W,hW⟩:=ex (w.alloc (.cells #[I pg,I kd,I (i:Int)] 174));rw[<- hW] at ZC Xm HUS BE ⊢;obtain⟨eb,heb⟩:=ex w.heap.size;rw[<- heb] at BE ⊢;clear hW heb;obtain⟨y0,y1,y2⟩:=Xm.o.at i hi;have v0:W.cell? (Ad g (i*3))=some (I ur):=by rw[y0,<- HUI.o]
     have v1:W.cell? (Ad g (i*3+1))=some (I up):=by rw[y1,<- HUI.o]
     have w0:W.cell? (Ad eb 0)=some (I pg):=aq BE.o 0 rfl;clear u0 u1 u2 y0 y1 y2 HUS;go_region;go_wp2;go_ret;rw[ahE.o Ce.o];exact⟨dY (fun b=>Ending.returned (.bool b)) Ce.o.symm,BG ZC.o,Xm.o.d⟩
 · have Ce:Hid (A=false):=by
    grind [ow]
   have ahE:Hid (R=us):=by grind [Hid.o]
   clear HA hr HR;rcases(show lc<0∨(0<=lc/\(n:Int)<=lc) by omega) with g1 | ⟨g1,g2⟩
   all_goals
    go_enter Tryz.func191,Tryz.ntmps191;go_wp2;go_ret;rw[ahE.o];exact⟨dY (fun b=>Ending.returned (.bool b)) Ce.o.symm,ZC.o,Xm.o⟩
end Go.Proofs.YtlgoihmkgaaemaaGreat
