import Derived.Test.YtlgoihmkgaaemaaGreatGN09
set_option maxHeartbeats 20000000
set_option linter.unusedVariables false
set_option maxRecDepth 100000
set_option linter.unusedSimpArgs false
namespace Go.Proofs.YtlgoihmkgaaemaaGreat
open Go.RowKit
theorem adU {s t:ByteArray} {a b:Int} (h:s=t) (g:a=b):Ending.returned (.tuple #[.string s,I a])=.returned (.tuple #[.string t,I b]):=by rw[h,g]
theorem YE (s:bJ) (w:World) (h:pA w s.ao s.dZ) (hf:DI s) :
  Calls Tryz.prog 72 #[.agg (vh s)] w fun e w'=>e=.returned (.tuple #[.string (mK s).1,I (mK s).2])/\Below w.heap.size w w':=by
 have HR:Hid (∀W,Below w.heap.size w W->Calls Tryz.prog 122 #[.agg (vh s)] W fun e w'=>e=.returned (.bool (di s))/\Below W.heap.size W w'):=fun W hb=>A0 s W (h.below hb) hf
 obtain⟨f1,f2,f3,f4⟩:=hf;obtain⟨pg,dt,fs,ao,cap⟩:=s;simp only at f1 f2 f3 f4;unfold cB at f2 f3;simp only[vh] at HR;simp only[vh];have hdl:dt.size<=maxLen:=by grind [maxLen]
 have F4:=aB f4;have HH:=aB h;clear f4 h f1;have HB:=aB ((aK w.heap.size w).alloc (aI _) (.cells #[I pg,.string dt,.slice ao fs.length cap] 145));have BX:=aB (bE w #[I pg,.string dt,.slice ao fs.length cap] 145);by_cases hs:di ⟨pg,dt,fs,ao,cap⟩=true
 · have HN:Hid (mK ⟨pg,dt,fs,ao,cap⟩=(tO dt fs fs.length,0)):=by
    show _=_;unfold mK;rw[aC hs];rfl
   obtain⟨hd,hfx⟩:pq ⟨pg,dt,fs,ao,cap⟩=true/\fQ fs fs.length=true:=by
    grind [di]
   have h16:dt.size=16:=by
    grind [pq]
   have HFX:=aB hfx;rw[hs] at HR;clear hs hd hfx;go_enter Tryz.func72,Tryz.ntmps72;go_wp2_with (first | (go_at_call 122;refine(HR.o _ HB.o).mono ?_;rintro e w1 ⟨rfl,hb⟩;have HB:=aB (HB.o.trans (hb.mono HB.o.size));have BX:=aB (aO BX.o hb (aJ BX.o));have q0:=au BX.o 0 rfl;have q1:=au BX.o 1 rfl;have q2:=au BX.o 2 rfl;clear hb) | (go_at_call 123;refine(RI _ _ (by omega)).mono ?_;rintro e w2 ⟨rfl,hb⟩;have HB:=aB (HB.o.trans (hb.mono HB.o.size));have BX:=aB (aO BX.o hb (aJ BX.o));have q0:=au BX.o 0 rfl;have q1:=au BX.o 1 rfl;have q2:=au BX.o 2 rfl;clear hb))
   go_loopw [16,4] (fun i d wr=>∃k:Nat,k<=fs.length/\i=I k/\d=.string (tO dt fs k)/\Below w.heap.size w wr) (fun i _ _=>fs.length-(intOf i).toNat)
   case atStart=>exact⟨0,by omega,rfl,rfl,HB.o⟩
   case round =>
    obtain⟨k,hk,rfl,rfl,hb⟩:=hrel;have zJ:=aB hb;by_cases hlt:k<fs.length
    · obtain⟨b,off,hao,hbl,eY⟩:=(HH.o.below hb) (by omega);subst hao;obtain⟨c0,c1⟩:=eY k hlt;have hok:=(A6 _ _).1 (Ie fs fs.length HFX.o k hlt);have hgk:fQ fs k=true:=by
       cases e:fQ fs k
       · rw[xg fs k fs.length (by omega) e] at HFX;cases HFX
       · rfl
      have hed:=sQ fs k hgk;have hsz:=zU dt fs h16 k hgk;have wS:Hid (tO dt fs (k+1)=iC (tO dt fs k) (ng fs k).off.toNat (ng fs k).bytes):=rfl;obtain⟨f,hfe⟩:=ex (ng fs k);rw[<- hfe] at c0 c1 hok wS;obtain⟨D,hD⟩:=ex (tO dt fs k);rw[<- hD] at hsz wS;rw[<- hD];obtain⟨o,ho⟩:∃o:Nat,f.off=(o:Int):=⟨f.off.toNat,by omega⟩;rw[ho] at c0 hok;rw[ho,lM] at wS;clear hfe hD hgk eY hb;have jV:=aB (zJ.o.alloc zJ.o.size (.cells #[I (o:Int),.string f.bytes] 226));go_wp2_with (go_at_call 124;refine(JF D f.bytes o _ (by omega) (by omega)).mono ?_;rintro e w3 ⟨rfl,hb⟩;have jV:=aB (jV.o.trans (hb.mono jV.o.size));clear hb)
      go_roundw
      case rel=>exact⟨k+1,by omega,by go_num,by rw[wS.o],jV.o⟩
      case measure=>simp[intOf];omega
    · obtain rfl:k=fs.length:=by omega
      go_wp2
      go_ret2
      exact⟨adU (by rw[HN.o]) (by rw[HN.o]),zJ.o⟩
 · have hs':di ⟨pg,dt,fs,ao,cap⟩=false:=by grind
   have HN:Hid (mK ⟨pg,dt,fs,ao,cap⟩=(⟨#[]⟩,1)):=by
    show _=_
    grind [mK]
   rw[hs'] at HR;clear hs hs';rw[HN.o];go_enter Tryz.func72,Tryz.ntmps72;go_wp2_with (go_at_call 122;refine(HR.o _ HB.o).mono ?_;rintro e w1 ⟨rfl,hb⟩;have HB:=aB (HB.o.trans (hb.mono HB.o.size));clear hb)
   go_ret2
   exact⟨rfl,HB.o⟩
open Go.RowKit
def iO (f:lQ):List Value:=[.string f.data,I f.refs,.bool f.jo,.bool f.seen]
def iN (f:oZ):List Value:=[.string f.data,I f.refs]
def bG (e:bI):List Value:=[I e.page,I e.kind,I e.loc]
def adh {α:Type} (f:α->List Value) (k:Nat) (d:α) (w:World) (b off:Nat) (l:List α):Prop:=∀i,i<l.length->∀j,j<k->w.cell? (Ad b (off+i*k+j))=(f (l.getD i d))[j]?
def dW {α:Type} (f:α->List Value) (k:Nat) (d:α) (w:World) (ao:Option Addr) (l:List α):Prop:=gS (adh f k d) w ao l
theorem dW.below {α:Type} {f:α->List Value} {k:Nat} {d:α} {w w':World} {ao:Option Addr} {l:List α} (h:dW f k d w ao l) (hb:Below w.heap.size w w'):dW f k d w' ao l :=
 gS.below (lie:=adh f k d) (fun hb hlt h i hi j hj=>(cQ hb hlt).trans (h i hi j hj)) h hb
def KO (w:World) (b off:Nat) (l:List cY):Prop:=∀i,i<l.length->∃va ap cp,w.cell? (Ad b (off+i*3))=some (.bool (ak l i).live)/\w.cell? (Ad b (off+i*3+1))=some va/\w.cell? (Ad b (off+i*3+2))=some (.slice ap (ak l i).bc.length cp)/\fZ w va (ak l i).aU/\dW bG 3 gV w ap (ak l i).bc/\(ak l i).bc.length<=cp
theorem af2 {w w':World} {b off:Nat} {l:List cY} (hb:Below w.heap.size w w') (hlt:b<w.heap.size) (h:KO w b off l):KO w' b off l:=fun i hi=>by
 obtain⟨va,ap,cp,c0,c1,c2,c3,c4,c5⟩:=h i hi;exact⟨va,ap,cp,(cQ hb hlt).trans c0,(cQ hb hlt).trans c1,(cQ hb hlt).trans c2,c3.below hb,c4.below hb,c5⟩
def yt (w:World) (ao:Option Addr) (l:List cY):Prop:=gS KO w ao l
theorem yt.below {w w':World} {ao:Option Addr} {l:List cY} (h:yt w ao l) (hb:Below w.heap.size w w'):yt w' ao l:=gS.below (lie:=KO) (fun hb hlt h=>af2 hb hlt h) h hb
structure jc where
 aS:Option Addr
 cS:Nat
 aF:Option Addr
 cF:Nat
 aL:Option Addr
 cL:Nat
 aP:Option Addr
 cP:Nat
structure jd (w:World) (a:jc) (k:aT):Prop where
 aM:iT w a.aS k.aM
 frames:dW iO 4 gM w a.aF k.frames
 slots:dW iN 2 nK w a.aL k.slots
 aj:yt w a.aP k.aj
theorem jd.below {w w':World} {a:jc} {k:aT} (h:jd w a k) (hb:Below w.heap.size w w'):jd w' a k:=⟨h.aM.below hb,h.frames.below hb,h.slots.below hb,h.aj.below hb⟩
def bg (a:jc) (k:aT):Array Value:=#[.slice a.aS k.aM.length a.cS,.slice a.aF k.frames.length a.cF,.slice a.aL k.slots.length a.cL,.slice a.aP k.aj.length a.cP,I k.hand]
structure QJ (s:cY):Prop where
 aU:dO s.aU
 bc:cB s.bc.length
 M6:∀i,i<s.bc.length->cO (aW s.bc i).page/\cO (aW s.bc i).kind/\cO (aW s.bc i).loc
structure nu (k:aT):Prop where
 aM:rD k.aM
 nf:cB k.frames.length
 fr:∀i,i<k.frames.length->cB (aH k.frames i).data.size/\cO (aH k.frames i).refs
 ns:cB k.slots.length
 sl:∀i,i<k.slots.length->cB (bH k.slots i).data.size/\cO (bH k.slots i).refs
 np:cB k.aj.length
 sp:∀i,i<k.aj.length->QJ (ak k.aj i)
 hand:cO k.hand
theorem Ip (vS vF vL vP:Option Addr) (nS cS nF cF nL cL nP cP:Nat) (hd:Value) (w:World) :
  Calls Tryz.prog 139 #[.agg #[.slice vS nS cS,.slice vF nF cF,.slice vL nL cL,.slice vP nP cP,hd]] w fun e w'=>e=.returned (.bool (decide ((3<=nF/\nF<=64)/\nL<=512/\(1<=nP/\nP<=4)/\nS<=255)))/\Below w.heap.size w w':=by
 obtain⟨A,hA⟩:=ex (decide ((3<=nF/\nF<=64)/\nL<=512/\(1<=nP/\nP<=4)/\nS<=255));rw[<- hA];have HA:=ai hA;clear hA;rcases(show ¬(3:Int)<=nF∨((3:Int)<=nF/\¬(nF:Int)<=64)∨((3:Int)<=nF/\(nF:Int)<=64/\¬(nL:Int)<=512)∨((3:Int)<=nF/\(nF:Int)<=64/\(nL:Int)<=512/\¬(1:Int)<=nP)∨((3:Int)<=nF/\(nF:Int)<=64/\(nL:Int)<=512/\(1:Int)<=nP/\¬(nP:Int)<=4)∨((3:Int)<=nF/\(nF:Int)<=64/\(nL:Int)<=512/\(1:Int)<=nP/\(nP:Int)<=4/\¬(nS:Int)<=255)∨((3:Int)<=nF/\(nF:Int)<=64/\(nL:Int)<=512/\(1:Int)<=nP/\(nP:Int)<=4/\(nS:Int)<=255) by omega) with g | ⟨g,g1⟩ | ⟨g,g1,g2⟩ | ⟨g,g1,g2,g3⟩ | ⟨g,g1,g2,g3,g4⟩ | ⟨g,g1,g2,g3,g4,g5⟩ | ⟨g,g1,g2,g3,g4,g5⟩
 all_goals
  go_enter Tryz.func139,Tryz.ntmps139;go_wp2;go_ret;exact⟨dI (fun b=>Ending.returned (.bool b)) (by grind [Hid.o]),(aK _ _).alloc (aI _) _⟩
open Go.RowKit
def qU (G:Nat->ByteArray):Nat->List Value
 | 0=>[]
 | n+1=>qU G n++[.string (G n)]
def uN (G:Nat->ByteArray) (n:Nat) (d:ByteArray):Nat->ByteArray:=fun k=>if k=n then d else G k
theorem qu (G:Nat->ByteArray):∀n,(qU G n).length=n
 | 0=>rfl
 | n+1=>by rw[qU,fK,qu G n];rfl
theorem FH (G:Nat->ByteArray) (n:Nat):∀m,n<m->(qU G m)[n]?=some (.string (G n))
 | 0,h=>by omega
 | m+1,h=>by
  rw[qU];by_cases c:n<m
  · rw[G9 (by grind [qu]),FH G n m c]
  grind [qu]
theorem Im (F G:Nat->ByteArray):∀m,(∀k,k<m->F k=G k)->qU F m=qU G m
 | 0,_=>rfl
 | m+1,h=>by rw[qU,qU,Im F G m (fun k hk=>h k (by omega)),h m (by omega)]
theorem Nn (G:Nat->ByteArray) (n:Nat) (d:ByteArray):∀m,n<m->(qU G m).set n (.string d)=qU (uN G n d) m
 | 0,h=>by omega
 | m+1,h=>by
  rw[qU,qU];by_cases c:n<m
  · rw[JS _ _ (by grind [qu]),Nn G n d m c]
    grind [uN]
  · obtain rfl:n=m:=by omega
    rw[AO _ _ (by grind [qu]),qu,GY,Im (uN G n d) G n (fun k hk=>by grind [uN])]
    grind [uN]
def mG (a b c d e:Value) (G:Nat->ByteArray):Array Value:=([a,b,c,d,e]++qU G 256).toArray
theorem QH (a b c d e:Value) (G:Nat->ByteArray) (n:Nat) (h:n<256):(mG a b c d e G)[5+n]?=some (.string (G n)):=by
 grind [mG,FH]
theorem Y3 (a b c d e:Value) (G:Nat->ByteArray) (n:Nat) (x:ByteArray) (h:n<256):(mG a b c d e G).setIfInBounds (5+n) (.string x)=mG a b c d e (uN G n x):=by
 grind [mG,Nn]
def sV:Nat->ByteArray:=fun _=>⟨#[]⟩
def l8 (hs:List bJ):Nat->Nat->ByteArray
 | 0=>sV
 | k+1=>uN (l8 hs k) (bl hs k).page.toNat (rA (bl hs k))
theorem FI (hs:List bJ) (hr:gX hs=true) (n:Nat):l8 hs hs.length n=fq hs n:=by
 have hrise:=Fk hs hr;have hat:∀i,i<hs.length->1<=(bl hs i).page:=fun i hi=>by
  have:=(qR hs hs.length hr i hi).1
  grind [di,pq]
 have key:∀k,k<=hs.length->(∀i,i<k->(bl hs i).page≠(n:Int))->l8 hs k n=⟨#[]⟩:=fun k=>by
  induction k with
  | zero=>intro _ _;rfl
  | succ k ih =>
   intro hk h;show uN (l8 hs k) _ _ n=_
   grind [uN]
 have apI:∀k,k<=hs.length->∀j,j<k->(bl hs j).page=(n:Int)->l8 hs k n=rA (bl hs j):=fun k=>by
  induction k with
  | zero=>omega
  | succ k ih =>
   intro hk j hj e;show uN (l8 hs k) _ _ n=_;unfold uN;by_cases c:j=k
   · grind
   · have hlt:(bl hs j).page<(bl hs k).page:=by
      have:=(acZ.1 hrise) j k (by grind) (by grind) (by omega)
      grind [bl]
     grind
 unfold fq;cases g:iJ hs n with
 | none =>
  have h:=List.find?_eq_none.1 g
  grind [bl]
 | some s =>
  have hm:=U4 g;have hp:=List.find?_some g;obtain⟨j,hj,rfl⟩:=lG Cb hm;exact apI _ (aI _) j hj (oP hp)
theorem VW {s:bJ} (h:di s=true):mK s=(rA s,0):=by grind [mK]
theorem Y6 {s:bJ} (h:di s=false):mK s=(⟨#[]⟩,1):=by grind [mK]
theorem KN (hs:List bJ) (aS:Option Addr) (cS mb:Nat) (b c d e:Value) (w0 w:World) (h:iT w0 aS hs) (hf:rD hs) (hw:Below w0.heap.size w0 w) (hmb:w0.heap.size<=mb) (hm:w.heap[mb]?=some (.cells (mG (.slice aS hs.length cS) b c d e sV) 158 (0,0))) (hl:hs.length<=255) :
  Calls Tryz.prog 140 #[.pointer (some (Ad mb 0))] w fun x w'=>x=.returned (.bool (gX hs))/\aD (fun b=>b=mb) w w'/\∃G,w'.heap[mb]?=some (.cells (mG (.slice aS hs.length cS) b c d e G) 158 (0,0))/\(gX hs=true->G=l8 hs hs.length):=by
 have HH:=ai h;have HF:=ai hf;have HW:=ai hw;have hlt:=aJ hm;have m0:w.cell? (Ad mb 0)=some (.slice aS hs.length cS):=au hm 0 rfl;have HM:=ai hm;have MD:Hid (∀k,k<hs.length->(di (bl hs k)=false∨(bl hs k).page<=(if k=0 then 0 else (bl hs (k-1)).page))->gX hs=false):=fun k hk g=>YK hs k hk (by
  grind [rO,di,pq])
 have HST:Hid (∀k,k<hs.length->jZ hs k=true->di (bl hs k)=true->(if k=0 then 0 else (bl hs (k-1)).page)<(bl hs k).page->jZ hs (k+1)=true):=fun k hk h1 h2 h3=>by
  grind [jZ,rO]
 clear h hf hw hm;go_enter Tryz.func140,Tryz.ntmps140;go_wp2;go_loopw [3,14] (fun lv iv wr=>∃k:Nat,k<=hs.length/\iv=I (k:Int)/\lv=I (if k=0 then 0 else (bl hs (k-1)).page)/\jZ hs k=true/\aD (fun b=>b=mb) w wr/\wr.heap[mb]?=some (.cells (mG (.slice aS hs.length cS) b c d e (l8 hs k)) 158 (0,0))) (fun _ iv _=>hs.length-(intOf iv).toNat)
 case atStart=>exact⟨0,by omega,rfl,rfl,rfl,aD.refl _ _,HM.o⟩
 case round =>
  obtain⟨k,hk,rfl,rfl,hr,Px,hmk⟩:=hrel;have HKP:=ai Px;have HMK:=ai hmk;have HR:=ai hr;clear hr;obtain⟨L,hL⟩:∃L:Int,L=if k=0 then 0 else (bl hs (k-1)).page:=⟨_,rfl⟩
  rw[<- hL];by_cases JV:k<hs.length
  · have hbk:=Px.below HW.o (by omega) (fun b hb=>by omega);have HBK:=ai hbk;obtain⟨bb,off,hao,hbl,eY⟩:=HH.o (by omega);subst hao;obtain⟨d0,d1,d2,d3⟩:=eY k JV;have hsz:=Px.size;have c0:=(hbk.cell (p:=(Ad bb (off+k*3))) hbl).trans d0;have c1:=(hbk.cell (p:=(Ad bb (off+k*3+1))) hbl).trans d1;have c2:=(hbk.cell (p:=(Ad bb (off+k*3+2))) hbl).trans d2;have L3:=HF.o.2 k JV;have HC:Hid (∀V,Below w0.heap.size w0 V->Calls Tryz.prog 72 #[.agg (vh (bl hs k))] V fun e w'=>e=.returned (.tuple #[.string (mK (bl hs k)).1,I (mK (bl hs k)).2])/\Below V.heap.size V w'):=fun V hV=>YE _ V (d3.below hV) L3
    have MD:=ai (MD.o k JV);have HST:=ai (HST.o k JV HR.o);have Pw:=L3.page;have HFG:Hid (l8 hs (k+1)=uN (l8 hs k) (bl hs k).page.toNat (rA (bl hs k))):=rfl;have HHB:Hid (di (bl hs k)=true->1<=(bl hs k).page/\(bl hs k).page<=255):=fun g=>by
     unfold di pq at g;simp only[eQ,kX] at g;omega
    have OE:=ai (@VW (bl hs k));have HFO:=ai (@Y6 (bl hs k));have HLP:Hid ((if k+1=0 then 0 else (bl hs (k+1-1)).page)=(bl hs k).page):=by
     show _=_;rw[aA (by omega),UO]
    unfold vh at HC;obtain⟨S,hS⟩:=ex (bl hs k);rw[<- hL] at MD HST;rw[<- hS] at c0 c1 c2 HC MD HST Pw HFG HHB OE HFO HLP;obtain⟨pg,dt,fx,fo,fc⟩:=S;simp only at c0 c1 c2 HC MD HST Pw HFG HHB OE HFO HLP;obtain⟨nx,hnx⟩:=ex fx.length;rw[<- hnx] at c2 HC;clear hS hL hnx d0 d1 d2 d3 eY L3 hbk Px hmk;cases Jc:di ⟨pg,dt,fx,fo,fc⟩ with
    | false =>
     have Lu:=ai (MD.o (.inl Jc));have aex:=ai (HFO.o Jc);rw[aex.o] at HC;clear OE HFO aex Jc MD HST HFG HHB HLP;have jV:=ai (HBK.o.alloc (by omega) (.cells #[I pg,.string dt,.slice fo nx fc] 145));have KA:=ai ((HKP.o.trans (aD.alloc (fun b=>b=mb) wr (.cells #[I pg,.string dt,.slice fo nx fc] 145)) (fun _ _ g=>g)));have MA:=ai (br HMK.o (.cells #[I pg,.string dt,.slice fo nx fc] 145));have SA:=ai (bE wr #[I pg,.string dt,.slice fo nx fc] 145);clear HM m0 HH HF;go_wp2_with (go_at_call 72;refine(HC.o _ jV.o).mono ?_;rintro e w1 ⟨rfl,hb1⟩;have cN:=ai hb1;have S1:=ai (aO SA.o hb1 (by simp));clear hb1)
     go_ret;have hM:=aO MA.o cN.o (by simp;omega);exact⟨dI (fun b=>Ending.returned (.bool b)) Lu.o.symm,KA.o.trans (aD.b9 cN.o) (fun _ _ g=>g),_,hM,fun g=>by rw[Lu.o] at g;cases g⟩
    | true =>
     have aex:=ai (OE.o Jc);rw[aex.o] at HC;have hpb:=HHB.o Jc;by_cases hlp:pg<=L
     · have Lu:=ai (MD.o (.inr hlp));clear OE HFO aex Jc MD HST HFG HHB HLP;have jV:=ai (HBK.o.alloc (by omega) (.cells #[I pg,.string dt,.slice fo nx fc] 145));have KA:=ai ((HKP.o.trans (aD.alloc (fun b=>b=mb) wr (.cells #[I pg,.string dt,.slice fo nx fc] 145)) (fun _ _ g=>g)));have MA:=ai (br HMK.o (.cells #[I pg,.string dt,.slice fo nx fc] 145));have SA:=ai (bE wr #[I pg,.string dt,.slice fo nx fc] 145);clear HM m0 HH HF;go_wp2_with (go_at_call 72;refine(HC.o _ jV.o).mono ?_;rintro e w1 ⟨rfl,hb1⟩;have cN:=ai hb1;have S1:=ai (aO SA.o hb1 (by simp));have s0:w1.cell? (Ad wr.heap.size 0)=some (I pg):=au S1.o 0 rfl;clear hb1)
       go_ret;have hM:=aO MA.o cN.o (by simp;omega);exact⟨dI (fun b=>Ending.returned (.bool b)) Lu.o.symm,KA.o.trans (aD.b9 cN.o) (fun _ _ g=>g),_,hM,fun g=>by rw[Lu.o] at g;cases g⟩
     · have Ef:=ai (HST.o Jc (by omega));clear OE HFO aex Jc MD HST HHB;have aqd:¬mb=wr.heap.size:=by omega
       have jV:=ai (HBK.o.alloc (by omega) (.cells #[I pg,.string dt,.slice fo nx fc] 145));have KA:=ai ((HKP.o.trans (aD.alloc (fun b=>b=mb) wr (.cells #[I pg,.string dt,.slice fo nx fc] 145)) (fun _ _ g=>g)));have MA:=ai (br HMK.o (.cells #[I pg,.string dt,.slice fo nx fc] 145));have SA:=ai (bE wr #[I pg,.string dt,.slice fo nx fc] 145);clear HM m0 HH HF;go_wp2_with (go_at_call 72;refine(HC.o _ jV.o).mono ?_;rintro e w1 ⟨rfl,hb1⟩;have cN:=ai hb1;have S1:=ai (aO SA.o hb1 (by simp));have s0:w1.cell? (Ad wr.heap.size 0)=some (I pg):=au S1.o 0 rfl;clear hb1)
       obtain⟨n,rfl⟩:∃n:Nat,pg=(n:Int):=⟨pg.toNat,by omega⟩;have hM:=aO MA.o cN.o (by simp;omega);have Sg:=ai hM;have K1:=ai (KA.o.trans (aD.b9 cN.o) (fun _ _ g=>g));have q5:w1.cell? (Ad mb (5+n))=some (.string (l8 hs k n)):=au hM (5+n) (QH _ _ _ _ _ _ n (by omega));have qf:w1.frozen? (Ad mb (5+n))=false:=aR hM (5+n);have n0:(0:Int)<=(n:Int):=by omega
       have n1:(n:Int)<256:=by omega
       rw[lM] at HFG;obtain⟨FD,hFD⟩:=ex (rA { page:=(n:Int),data:=dt,dZ:=fx,ao:=fo,cap:=fc });rw[<- hFD] at HFG ⊢;clear hM hFD HC c0 c1 c2;go_region;have Jv:=ai ((fh Sg.o (5+n) (.string FD)).trans (by rw[Y3 _ _ _ _ _ _ n FD (by omega),<- HFG.o]));have K2:=ai (K1.o.trans ((aD.set (fun b=>b=mb) w1 (Ad mb (5+n)) (.string FD) rfl).trans (aD.drew _ _) (fun _ _ g=>g)) (fun _ _ g=>g));have s2:(w1.setCell (Ad mb (5+n)) (.string FD)).drew.cell? (Ad wr.heap.size 0)=some (I (n:Int)):=(cu w1 mb (5+n) wr.heap.size 0 (.string FD) (fun e=>aqd e.symm)).trans s0;obtain⟨W2,hW2⟩:=ex ((w1.setCell (Ad mb (5+n)) (.string FD)).drew);have HM3:Hid (W2.heap[mb]?=some (.cells (mG (.slice (some (Ad bb off)) hs.length cS) b c d e (l8 hs (k+1))) 158 (0,0))):=by rw[hW2];exact Jv.o
       rw[<- hW2] at K2 s2 ⊢;clear hW2 Jv Sg K1 q5 qf s0;go_wp2;go_roundw
       case rel=>exact⟨k+1,by omega,by go_num,by rw[aA (by omega),UO,<- HLP.o,aA (by omega),UO],Ef.o,K2.o,HM3.o⟩
       case measure=>simp[intOf];omega
  · obtain rfl:k=hs.length:=by omega
    clear Px hmk hL;go_wp2;go_ret;exact⟨dI (fun b=>Ending.returned (.bool b)) HR.o.symm,HKP.o,_,HMK.o,fun _=>rfl⟩
open Go.RowKit
theorem Y5 {hs:List bJ} {ar:List aX} {k n:Nat} (hk:k<ar.length) (hn:n<(bC ar k).aQ.toNat) (hz:(bC ar k).zero=false) (he:fq hs ((bC ar k).page+(n:Int))=⟨#[]⟩):rK hs ar=false:=by
 cases q:rK hs ar with
 | false=>rfl
 | true =>
  unfold rK at q;rw[qa] at q;have:=q (bC ar k) (jP hk);rw[qa] at this;have:=this n (uJ.2 hn);rw[hz,he] at this;cases this
theorem VU {hs:List bJ} {ar:List aX} (h:∀k,k<ar.length->∀n,n<(bC ar k).aQ.toNat->(bC ar k).zero=true∨fq hs ((bC ar k).page+(n:Int))≠⟨#[]⟩):rK hs ar=true:=by
 unfold rK;rw[qa];intro a ha;obtain⟨k,hk,rfl⟩:=lG xI ha;rw[qa];intro n hn;rcases h k hk n (uJ.1 hn) with g | g
 · rw[show(ar.getD k xI).zero=true from g];rfl
 · rw[UJ,kX];right;intro e;refine g ?_;have:(fq hs ((bC ar k).page+(n:Int))).size=0:=e;obtain⟨x,hx⟩:=ex (fq hs ((bC ar k).page+(n:Int)));rw[<- hx] at this ⊢;obtain⟨⟨l⟩⟩:=x;have:l=[]:=jY this;rw[this]
theorem KM (hs:List bJ) (ar:List aX) (va:Value) (mb:Nat) (w:World) (ha:fZ w va ar) (hc:bk ar=0) (hmb:mb<w.heap.size) (hfl:∀n:Nat,n<256->w.cell? (Ad mb (5+n))=some (.string (fq hs n))) :
  Calls Tryz.prog 190 #[.pointer (some (Ad mb 0)),va] w fun e w'=>e=.returned (.bool (rK hs ar))/\Below w.heap.size w w':=by
 obtain⟨ao,cap,rfl,eY⟩:=ha;have hlen:=oq ar hc;have HL:=ai eY;have HFL:=ai hfl;have NM:=ai (fun k (hk:k<ar.length)=>iw ar k (gW ar hc k hk));have pW:=ai (fun k n=>@Y5 hs ar k n);have agJ:=ai (@VU hs ar);obtain⟨A,hA⟩:=ex (rK hs ar);rw[<- hA] at pW agJ ⊢;clear eY hfl hA;go_enter Tryz.func190,Tryz.ntmps190;go_wp2;go_loopw [10] (fun iv wr=>∃k:Nat,k<=ar.length/\iv=I (k:Int)/\Below w.heap.size w wr/\∀i,i<k->∀n,n<(bC ar i).aQ.toNat->(bC ar i).zero=true∨fq hs ((bC ar i).page+(n:Int))≠⟨#[]⟩) (fun iv _=>ar.length-(intOf iv).toNat)
 case atStart=>grind [Below.refl]
 case round =>
  obtain⟨k,hk,rfl,hb,Fe⟩:=hrel;have HB:=ai hb;have HP:=ai Fe;clear Fe;by_cases hlt:k<ar.length
  · obtain⟨b,off,hao,T5⟩:=HL.o.resolve_left (fun e=>by grind);subst hao;obtain⟨d0,d1,d2,d3⟩:=T5 k hlt;have hbl:=T5.lt k hlt;have c0:=(hb.cell (p:=(Ad b (off+k*4))) hbl).trans d0;have c1:=(hb.cell (p:=(Ad b (off+k*4+1))) hbl).trans d1;have c2:=(hb.cell (p:=(Ad b (off+k*4+2))) hbl).trans d2;have c3:=(hb.cell (p:=(Ad b (off+k*4+3))) hbl).trans d3;have hok:=NM.o k hlt;have pW:=ai (fun n=>pW.o k n hlt);have HS:Hid (∀n,n<(bC ar k).aQ.toNat->(bC ar k).zero=true∨fq hs ((bC ar k).page+(n:Int))≠⟨#[]⟩)->Hid (∀i,i<k+1->∀n,n<(bC ar i).aQ.toNat->(bC ar i).zero=true∨fq hs ((bC ar i).page+(n:Int))≠⟨#[]⟩):=fun g i hi=>by
     by_cases e:i=k
     · rw[e];exact g.out
     · exact HP.o i (by omega)
    obtain⟨a,ha⟩:=ex (bC ar k);rw[<- ha] at c0 c1 c2 c3 hok pW HS;obtain⟨pg,ps,pt,z⟩:=a;simp only at c0 c1 c2 c3 hok pW HS;obtain⟨pn,rfl⟩:∃pn:Nat,pg=(pn:Int):=⟨pg.toNat,by omega⟩;obtain⟨pm,rfl⟩:∃pm:Nat,ps=(pm:Int):=⟨ps.toNat,by omega⟩;rw[lM] at HS pW;have jV:=ai (HB.o.alloc HB.o.size (.cells #[I (pn:Int),I (pm:Int),I pt,.bool z] 139));have SA:=ai (bE wr #[I (pn:Int),I (pm:Int),I pt,.bool z] 139);clear ha d0 d1 d2 d3 T5 HP agJ NM HL hb;go_wp2;obtain⟨W1,hW1⟩:=ex (wr.alloc (.cells #[I (pn:Int),I (pm:Int),I pt,.bool z] 139));rw[<- hW1] at jV SA ⊢;obtain⟨sb,Jc⟩:=ex wr.heap.size;rw[<- Jc] at SA ⊢;clear hW1 Jc c0 c1 c2 c3;have s0:W1.cell? (Ad sb 0)=some (I (pn:Int)):=au SA.o 0 rfl;have s3:W1.cell? (Ad sb 3)=some (.bool z):=au SA.o 3 rfl;have HWF:Hid (∀n:Nat,n<256->W1.cell? (Ad mb (5+n))=some (.string (fq hs n))):=fun n hn=>(jV.o.cell (p:=(Ad mb (5+n))) hmb).trans (HFL.o n hn)
    go_loopw [16] (fun iv wq=>∃n:Nat,n<=pm/\iv=I (n:Int)/\(wq.heap=W1.heap/\Below w.heap.size w wq)/\∀i,i<n->z=true∨fq hs ((pn:Int)+(i:Int))≠⟨#[]⟩) (fun iv _=>pm-(intOf iv).toNat)
    case atStart=>exact⟨0,by omega,rfl,⟨rfl,jV.o⟩,fun i hi=>by omega⟩
    case round =>
     obtain⟨n,hn,rfl,⟨hD,XN⟩,Fe⟩:=hrel;obtain⟨wq,hwq⟩:=ex wr;rw[<- hwq] at hD XN ⊢;clear hwq;have HBD:=ai XN;have HHD:=ai hD;have XT:=ai Fe;have r0:wq.cell? (Ad sb 0)=some (I (pn:Int)):=(Ha (by rw[hD])).trans s0;have r3:wq.cell? (Ad sb 3)=some (.bool z):=(Ha (by rw[hD])).trans s3;have HWQ:Hid (∀n:Nat,n<256->wq.cell? (Ad mb (5+n))=some (.string (fq hs n))):=fun n hn=>(Ha (by rw[HHD.o])).trans (HWF.o n hn)
     clear hD XN Fe;by_cases E3:n<pm
     · have hni:(n:Int)<(pm:Int):=by omega
       have HN:Hid (∀wz:World,wz=wq.drew->(wz.heap=W1.heap/\Below w.heap.size w wz)):=fun wz e=>by rw[e];exact⟨HHD.o,HBD.o.drew⟩
       have Wz:Hid ((z=true∨fq hs ((pn:Int)+(n:Int))≠⟨#[]⟩)->∀i,i<n+1->z=true∨fq hs ((pn:Int)+(i:Int))≠⟨#[]⟩):=fun g i hi=>by
        by_cases e:i=n
        · rw[e];exact g
        · exact XT.o i (by omega)
       cases z with
       | true =>
        clear pW HS XT;go_wp2;go_region;go_wp2;go_roundw
        case rel=>exact⟨n+1,by omega,by go_num,HN.o _ rfl,Wz.o (.inl trivial)⟩
        case measure=>simp[intOf];omega
       | false =>
        have q:=HWQ.o (pn+n) (by omega);have ew:IntKind.i64.wrap ((pn:Int)+(n:Int))=((pn+n:Nat):Int):=by rw[Pg];omega
        have ei:((pn+n:Nat):Int)=(pn:Int)+(n:Int):=by omega
        have i0:(0:Int)<=((pn+n:Nat):Int):=by omega
        have i1:((pn+n:Nat):Int)<256:=by omega
        have pW:=ai (pW.o n E3 rfl);rw[<- ei] at pW Wz;obtain⟨X,hX⟩:=ex (pn+n);obtain⟨D,hD⟩:=ex (fq hs (X:Int));rw[<- hX] at q ew i0 i1 pW Wz;rw[<- hD] at q pW Wz;clear HS XT HWQ hX hD ei;by_cases hz:D=⟨#[]⟩
        · have hA:=pW.o hz;subst hA hz;go_wp2;go_region;go_wp2;go_ret;exact⟨rfl,HBD.o.drew⟩
        · have hz2:D.toList.isEmpty=false:=by
           rw[JT];cases q2:D.data.toList.isEmpty with
           | false=>rfl
           | true=>exact absurd (by obtain⟨⟨l⟩⟩:=D;have e:l=[]:=List.isEmpty_iff.1 q2;rw[e]) hz
          clear pW;go_wp2;go_region;go_wp2;go_roundw
          case rel=>exact⟨n+1,by omega,by go_num,HN.o _ rfl,Wz.o (.inr hz)⟩
          case measure=>simp[intOf];omega
     · obtain rfl:n=pm:=by omega
       have rX:=ai (HS XT);have hni:¬(n:Int)<(n:Int):=by omega
       go_wp2;go_roundw
       case rel=>exact⟨k+1,by omega,by go_num,HBD.o,rX.o⟩
       case measure=>simp[intOf];omega
  · obtain rfl:k=ar.length:=by omega
    have hA:=agJ.o HP.o;subst hA;clear hb;go_wp2;go_ret;exact⟨rfl,HB.o⟩
open Go.RowKit
theorem KI (hs:List bJ) (s:cY) (va:Value) (ap:Option Addr) (cp mb:Nat) (w:World) (ha:fZ w va s.aU) (hf:QJ s) (hmb:mb<w.heap.size) (hfl:∀n:Nat,n<256->w.cell? (Ad mb (5+n))=some (.string (fq hs n))) :
  Calls Tryz.prog 141 #[.pointer (some (Ad mb 0)),.agg #[.bool s.live,va,.slice ap s.bc.length cp]] w fun e w'=>e=.returned (.bool (pM hs s))/\Below w.heap.size w w':=by
 have E9:=ai (fun V (hV:Below w.heap.size w V)=>jB s.aU va V (ha.below hV) hf.aU);have HHS:Hid (bk s.aU=0->∀V,Below w.heap.size w V->Calls Tryz.prog 190 #[.pointer (some (Ad mb 0)),va] V fun e w'=>e=.returned (.bool (rK hs s.aU))/\Below V.heap.size V w'):=fun hc V hV=>KM hs s.aU va mb V (ha.below hV) hc (fL hmb hV.size) (fun n hn=>(hV.cell (p:=(Ad mb (5+n))) hmb).trans (hfl n hn))
 obtain⟨A,hA⟩:=ex (pM hs s);rw[<- hA];obtain⟨aa,ca,Ja,_⟩:=ha;subst Ja;have hln:=hf.aU.2;have hlp:s.bc.length<=140737488351232:=hf.bc;unfold pM at hA;have HA:=ai hA;clear hf hfl hA;obtain⟨na,rz⟩:=ex s.aU.length;obtain⟨np,AA⟩:=ex s.bc.length;obtain⟨C,hC⟩:=ex (bk s.aU);obtain⟨E,hE⟩:=ex (rK hs s.aU);obtain⟨lv,hlv⟩:=ex s.live;rw[<- rz] at HA E9 HHS hln ⊢;rw[<- AA] at HA hlp ⊢;rw[<- hC] at HA E9 HHS;rw[<- hE] at HA HHS;rw[<- hlv] at HA ⊢;clear rz AA hC hE hlv;have HB:=ai ((aK w.heap.size w).alloc (aI _) (.cells #[.bool lv,.slice aa na ca,.slice ap np cp] 99));have X0:=ai (bE w #[.bool lv,.slice aa na ca,.slice ap np cp] 99);cases lv with
 | false =>
  have EU:Hid (A=(decide (na=0)&&decide (np=0))):=HA;clear HA E9 HHS;rcases(show(na=0/\np=0)∨(na=0/\¬np=0)∨¬na=0 by omega) with⟨g,k⟩ | ⟨g,k⟩ | g
  · have h0:((na:Int)==0)=true:=by grind
    have h1:((np:Int)==0)=true:=by grind
    have Cu:Hid (A=true):=by grind
    clear EU g k;go_enter Tryz.func141,Tryz.ntmps141;go_wp2;go_ret;exact⟨dI (fun b=>Ending.returned (.bool b)) Cu.o.symm,HB.o⟩
  · have h0:((na:Int)==0)=true:=by grind
    have h1:((np:Int)==0)=false:=by grind
    have Cu:Hid (A=false):=by grind
    clear EU g k;go_enter Tryz.func141,Tryz.ntmps141;go_wp2;go_ret;exact⟨dI (fun b=>Ending.returned (.bool b)) Cu.o.symm,HB.o⟩
  · have h0:((na:Int)==0)=false:=by grind
    have Cu:Hid (A=false):=by grind
    clear EU g;go_enter Tryz.func141,Tryz.ntmps141;go_wp2;go_ret;exact⟨dI (fun b=>Ending.returned (.bool b)) Cu.o.symm,HB.o⟩
 | true =>
  have EU:Hid (A=(decide (C=0)&&E)):=HA;clear HA;by_cases g:C=0
  · subst g;have HHT:=ai (HHS.o rfl);have Cu:Hid (A=E):=EU;clear EU HHS;go_enter Tryz.func141,Tryz.ntmps141;go_wp2_with (first | (go_at_call 117;refine(E9.o _ HB.o).mono ?_;rintro e w1 ⟨rfl,hb1⟩;have cN:=ai (bX HB.o hb1);have X1:=ai (aO X0.o hb1 (by simp));have x1:w1.cell? (Ad w.heap.size 1)=some (.slice aa na ca):=au X1.o 1 rfl;clear hb1) | (go_at_call 190;refine(HHT.o _ cN.o).mono ?_;rintro e w2 ⟨rfl,hb2⟩;have gQ:=ai (bX cN.o hb2);clear hb2))
    go_ret;exact⟨dI (fun b=>Ending.returned (.bool b)) Cu.o.symm,gQ.o⟩
  · have Cu:Hid (A=false):=by grind
    have g0:(C==0)=false:=by grind
    clear EU HHS;go_enter Tryz.func141,Tryz.ntmps141;go_wp2_with (go_at_call 117;refine(E9.o _ HB.o).mono ?_;rintro e w1 ⟨rfl,hb1⟩;have cN:=ai (bX HB.o hb1);clear hb1)
    go_ret;exact⟨dI (fun b=>Ending.returned (.bool b)) Cu.o.symm,cN.o⟩
theorem sU (l:List aX):0<=bh l/\bh l<=65025:=by
 unfold bh;split
 · rename_i h
   have h1:=oq l h;have h2:=GN l h l.length (aI _);omega
 · omega
theorem DU (l:List cY):∀k,0<=jC l k/\jC l k<=65025*k
 | 0=>⟨AB _,by show(0:Int)<=_;omega⟩
 | k+1=>by
  have h1:=DU l k;have h2:=sU (ak l k).aU
  grind [jC]
theorem DV (l:List cY) (ao:Option Addr) (cap mb:Nat) (w:World) (h:yt w ao l) (hf:∀k,k<l.length->dO (ak l k).aU) (hn:l.length<=1000000) (hmb:w.cell? (Ad mb 3)=some (.slice ao l.length cap)) :
  Calls Tryz.prog 143 #[.pointer (some (Ad mb 0))] w fun e w'=>e=.returned (I (eB l))/\Below w.heap.size w w':=by
 have HF:=ai hf;have HH:=ai h;have MD:=ai (DU l);have ZJ:Hid (∀k,jC l (k+1)=jC l k+bh (ak l k).aU):=fun k=>rfl
 clear h hf;go_enter Tryz.func143,Tryz.ntmps143;go_wp2;go_loopw [3,12] (fun sv iv wr=>∃k:Nat,k<=l.length/\iv=I (k:Int)/\sv=I (jC l k)/\Below w.heap.size w wr) (fun _ iv _=>l.length-(intOf iv).toNat)
 case atStart=>exact⟨0,by omega,rfl,rfl,aK _ _⟩
 case round =>
  obtain⟨k,hk,rfl,rfl,hb⟩:=hrel;have HB:=ai hb;have Hz:=MD.o k;by_cases hlt:k<l.length
  · obtain⟨b,off,hao,hbl,eY⟩:=(HH.o.below hb) (by omega);subst hao;obtain⟨va,ap,cp,c0,c1,c2,c3,c4,c5⟩:=eY k hlt;have L3:=HF.o k hlt;have hst:=ZJ.o k;have htb:=sU (ak l k).aU;obtain⟨aa,ca,rfl,_⟩:=id c3;have HT:Hid (∀W,Below wr.heap.size wr W->Calls Tryz.prog 70 #[.slice aa (ak l k).aU.length ca] W fun e w'=>e=.returned (I (bh (ak l k).aU))/\Below W.heap.size W w'):=fun W hW=>wM _ _ _ (c3.below hW) L3
    obtain⟨n,hnn⟩:=ex ((ak l k).bc.length);obtain⟨na,rz⟩:=ex ((ak l k).aU.length);obtain⟨lv,hlv⟩:=ex ((ak l k).live);obtain⟨T,hT⟩:=ex (bh (ak l k).aU);obtain⟨R,hR⟩:=ex (jC l k);rw[<- hnn] at c2 c5;rw[<- rz] at c1 HT;rw[<- hlv] at c0;rw[<- hT] at HT hst htb;rw[<- hR] at hst Hz ⊢;have HST:=ai hst;clear hnn rz hlv hT hR c3 c4 c5 L3 eY hb hst;have jV:=ai (HB.o.alloc HB.o.size (.cells #[.bool lv,.slice aa na ca,.slice ap n cp] 99));go_wp2_with (go_at_call 70;refine(HT.o _ ((aK _ _).alloc (aI _) _)).mono ?_;rintro e w1 ⟨rfl,hb1⟩;have cN:=ai (bX jV.o hb1);clear hb1)
    go_roundw
    case rel=>exact⟨k+1,by omega,by go_num,by rw[HST.o],cN.o⟩
    case measure=>simp[intOf];omega
  · obtain rfl:k=l.length:=by omega
    clear hb;go_wp2;go_ret;exact⟨rfl,HB.o⟩
open Go.RowKit
def vk (u:fe):List Value:=[I u.refs,I u.page,.bool u.zero]
theorem xU (u:fe):(vk u).length=3:=rfl
def ic (lo:Nat) (w:World) (g n cap:Nat) (us:List fe):Prop:=us.length=n/\w.ownsRow lo 302 3 (.slice (some (Ad g 0)) n cap) n (us.flatMap vk)
theorem ic.kp {lo:Nat} {w w':World} {D:Nat->Prop} {g n cap:Nat} {us:List fe} (h:ic lo w g n cap us) (hk:aD D w w') (hd:¬D g):ic lo w' g n cap us:=⟨h.1,hk.row h.2 (fun b hb=>by injection hb with hb;grind)⟩
theorem ic.lt {lo:Nat} {w:World} {g n cap:Nat} {us:List fe} (h:ic lo w g n cap us):lo<=g/\g<w.heap.size:=h.2.lt g rfl
theorem ic.at {lo:Nat} {w:World} {g n cap:Nat} {us:List fe} (h:ic lo w g n cap us) (i:Nat) (hi:i<n):w.cell? (Ad g (i*3))=some (I (cX us i).refs)/\w.cell? (Ad g (i*3+1))=some (I (cX us i).page)/\w.cell? (Ad g (i*3+2))=some (.bool (cX us i).zero):=by
 obtain⟨h1,h2⟩:=h;subst h1;exact⟨kj vk xU dC h2 i 0 hi (by omega),kj vk xU dC h2 i 1 hi (by omega),kj vk xU dC h2 i 2 hi (by omega)⟩
theorem Ci {D:Nat->Prop} {w w':World} (h:aD D w w'):aD D w w'.drew:=h.trans (aD.drew D w') (fun _ _ x=>x)
theorem ic.d {lo:Nat} {w:World} {g n cap:Nat} {us:List fe} (h:ic lo w g n cap us):ic lo w.drew g n cap us:=h.kp (aD.drew (fun _=>False) w) (fun x=>x)
theorem VS {α:Type} (f:α->List Value) (hf:∀x,(f x).length=3) (d:α) (x:α) (a b c:Value) (hx:f x=[a,b,c]) (l:List α) (i:Nat) (hi:i<l.length):(l.set i x).flatMap f=(((l.flatMap f).set (i*3) a).set (i*3+1) b).set (i*3+2) c:=by
 induction l generalizing i with
 | nil=>cases hi
 | cons y r ih =>
  cases i with
  | zero =>
   rw[dB,nW,nW,hx];obtain⟨p,q,s,e⟩:∃p q s,f y=[p,q,s]:=by
    have:=hf y
    match h:f y with
    | [p,q,s]=>grind
    | []=>grind
    | [_]=>grind
    | [_,_]=>grind
    | _::_::_::_::_=>grind
   rw[e];rfl
  | succ i =>
   grind
theorem ic.set {lo:Nat} {w:World} {g n cap:Nat} {us:List fe} (h:ic lo w g n cap us) (i:Nat) (hi:i<n) (u:fe):ic lo (((w.setCell (Ad g (i*3)) (I u.refs)).setCell (Ad g (i*3+1)) (I u.page)).setCell (Ad g (i*3+2)) (.bool u.zero)) g n cap (us.set i u):=by
 refine⟨by rw[fJ];exact h.1,?_⟩;rw[VS vk xU dC u _ _ _ rfl us i (by rw[h.1];exact hi)];exact fw (fw (fw h.2 _ _) _ _) _ _
theorem QG (us:List fe) (e:bI) (z:Bool) (lo g n cap:Nat) (w:World) (h:ic lo w g n cap us) (hn:n<=1000) (he:cO e.page/\cO e.loc) (hr:∀i,i<n->0<=(cX us i).refs/\(cX us i).refs<=1000000) :
  Calls Tryz.prog 191 #[.slice (some (Ad g 0)) n cap,.agg #[I e.page,I e.kind,I e.loc],.bool z] w fun x w'=>x=.returned (.bool (oJ us e z))/\aD (fun b=>b=g) w w'/\ic lo w' g n cap (if oJ us e z then sF us e z else us):=by
 obtain⟨A,hA⟩:=ex (oJ us e z);rw[<- hA];obtain⟨R,hR⟩:=ex (if A then sF us e z else us);rw[<- hR];have HA:=ai hA;have HR:=ai hR;clear hA hR;have avU:=h.lt.2;have HU:=ai h;have hun:us.length=n:=h.1;obtain⟨pg,kd,lc⟩:=e;simp only at he ⊢;have Z9:=ai (aD.alloc (fun b=>b=g) w (.cells #[I pg,I kd,I lc] 174));have XR:=ai (h.kp (aD.alloc (fun _=>False) w (.cells #[I pg,I kd,I lc] 174)) (fun x=>x));clear h;by_cases c:0<=lc/\lc<(n:Int)
 · obtain⟨i,rfl⟩:∃i:Nat,lc=(i:Int):=⟨lc.toNat,by omega⟩;have hi:i<n:=by omega
   obtain⟨u0,u1,u2⟩:=HU.o.at i hi;have hri:=hr i hi;have EU:Hid (A=!(decide (0<(cX us i).refs)&&(decide ((cX us i).page≠pg) || (cX us i).zero != z))):=by
    grind [oJ]
   have HUS:=ai (XR.o.set i hi ⟨(cX us i).refs+1,pg,z⟩);have HUN:Hid (sF us ⟨pg,kd,(i:Int)⟩ z=us.set i ⟨(cX us i).refs+1,pg,z⟩):=by
    rfl
   obtain⟨U,hU⟩:=ex (cX us i);rw[<- hU] at u0 u1 u2 hri EU HUS HUN;obtain⟨ur,up,uz⟩:=U;simp only at u0 u1 u2 hri EU HUS HUN;have HUI:=ai hU;clear hU hr HA;have wr1:IntKind.i64.wrap (ur+1)=ur+1:=by rw[Pg];omega
   have BE:=ai (bE w #[I pg,I kd,I (i:Int)] 174);have dz:Hid (∀V,aD (fun b=>b=g) w V->∀us',ic lo V g n cap us'->A=true->us'=us.set i ⟨ur+1,pg,z⟩->ic lo V g n cap R):=fun V _ us' ho ha e=>by
    have:R=us':=by rw[HR.o,aC ha,HUN.o,e]
    grind
   have aiu:Hid (A=false->R=us):=fun ha=>by rw[HR.o,ha];rfl
   clear HR HUN;rcases(show ¬0<ur∨(0<ur/\up=pg/\uz=z)∨(0<ur/\up=pg/\¬uz=z)∨(0<ur/\¬up=pg) by
    grind) with g1 | ⟨g1,g2,g3⟩ | ⟨g1,g2,g3⟩ | ⟨g1,g2⟩
   · have d1:decide (0<ur)=false:=jl g1;have Cu:Hid (A=true):=by grind
     clear EU;go_enter Tryz.func191,Tryz.ntmps191;go_wp2;obtain⟨W,hW⟩:=ex (w.alloc (.cells #[I pg,I kd,I (i:Int)] 174));rw[<- hW] at Z9 XR HUS BE ⊢;obtain⟨eb,heb⟩:=ex w.heap.size;rw[<- heb] at BE ⊢;clear hW heb;obtain⟨y0,y1,y2⟩:=XR.o.at i hi;have v0:W.cell? (Ad g (i*3))=some (I ur):=by rw[y0,<- HUI.o]
     have v1:W.cell? (Ad g (i*3+1))=some (I up):=by rw[y1,<- HUI.o]
     have v2:W.cell? (Ad g (i*3+2))=some (.bool uz):=by rw[y2,<- HUI.o]
     have f0:W.frozen? (Ad g (i*3))=false:=iL XR.o.2 _;have f1:W.frozen? (Ad g (i*3+1))=false:=iL XR.o.2 _;have f2:W.frozen? (Ad g (i*3+2))=false:=iL XR.o.2 _;have w0:W.cell? (Ad eb 0)=some (I pg):=au BE.o 0 rfl;clear u0 u1 u2 y0 y1 y2;go_region;go_wp2;go_region;go_wp2;go_ret;have K:=Z9.o.trans (xB (D:=fun b=>b=g) W g (i*3) (i*3+1) (i*3+2) (I (ur+1)) (I pg) (.bool z) rfl) (fun _ _ x=>x);exact⟨dI (fun b=>Ending.returned (.bool b)) Cu.o.symm,Ci (Ci K),dz.o _ (Ci (Ci K)) _ HUS.o.d.d Cu.o rfl⟩
   · have b1:(up != pg)=false:=by grind
     have b2:(uz==z)=true:=by grind
     have Cu:Hid (A=true):=by grind
     clear EU g2 g3;go_enter Tryz.func191,Tryz.ntmps191;go_wp2;obtain⟨W,hW⟩:=ex (w.alloc (.cells #[I pg,I kd,I (i:Int)] 174));rw[<- hW] at Z9 XR HUS BE ⊢;obtain⟨eb,heb⟩:=ex w.heap.size;rw[<- heb] at BE ⊢;clear hW heb;obtain⟨y0,y1,y2⟩:=XR.o.at i hi;have v0:W.cell? (Ad g (i*3))=some (I ur):=by rw[y0,<- HUI.o]
     have v1:W.cell? (Ad g (i*3+1))=some (I up):=by rw[y1,<- HUI.o]
     have v2:W.cell? (Ad g (i*3+2))=some (.bool uz):=by rw[y2,<- HUI.o]
     have f0:W.frozen? (Ad g (i*3))=false:=iL XR.o.2 _;have f1:W.frozen? (Ad g (i*3+1))=false:=iL XR.o.2 _;have f2:W.frozen? (Ad g (i*3+2))=false:=iL XR.o.2 _;have w0:W.cell? (Ad eb 0)=some (I pg):=au BE.o 0 rfl;clear u0 u1 u2 y0 y1 y2;go_region;go_wp2;go_region;go_wp2;go_ret;have K:=Z9.o.trans (xB (D:=fun b=>b=g) W g (i*3) (i*3+1) (i*3+2) (I (ur+1)) (I pg) (.bool z) rfl) (fun _ _ x=>x);exact⟨dI (fun b=>Ending.returned (.bool b)) Cu.o.symm,Ci (Ci K),dz.o _ (Ci (Ci K)) _ HUS.o.d.d Cu.o rfl⟩
   · have b1:(up != pg)=false:=by grind
     have b2:(uz==z)=false:=by grind
     have Cu:Hid (A=false):=by grind
     clear EU g2 g3 dz;go_enter Tryz.func191,Tryz.ntmps191;go_wp2;obtain⟨W,hW⟩:=ex (w.alloc (.cells #[I pg,I kd,I (i:Int)] 174));rw[<- hW] at Z9 XR HUS BE ⊢;obtain⟨eb,heb⟩:=ex w.heap.size;rw[<- heb] at BE ⊢;clear hW heb;obtain⟨y0,y1,y2⟩:=XR.o.at i hi;have v0:W.cell? (Ad g (i*3))=some (I ur):=by rw[y0,<- HUI.o]
     have v1:W.cell? (Ad g (i*3+1))=some (I up):=by rw[y1,<- HUI.o]
     have v2:W.cell? (Ad g (i*3+2))=some (.bool uz):=by rw[y2,<- HUI.o]
     have w0:W.cell? (Ad eb 0)=some (I pg):=au BE.o 0 rfl;clear u0 u1 u2 y0 y1 y2 HUS;go_region;go_wp2;go_ret;rw[aiu.o Cu.o];exact⟨dI (fun b=>Ending.returned (.bool b)) Cu.o.symm,Ci Z9.o,XR.o.d⟩
   · have b1:(up != pg)=true:=by grind
     have Cu:Hid (A=false):=by grind
     clear EU g2 dz;go_enter Tryz.func191,Tryz.ntmps191;go_wp2;obtain⟨W,hW⟩:=ex (w.alloc (.cells #[I pg,I kd,I (i:Int)] 174));rw[<- hW] at Z9 XR HUS BE ⊢;obtain⟨eb,heb⟩:=ex w.heap.size;rw[<- heb] at BE ⊢;clear hW heb;obtain⟨y0,y1,y2⟩:=XR.o.at i hi;have v0:W.cell? (Ad g (i*3))=some (I ur):=by rw[y0,<- HUI.o]
     have v1:W.cell? (Ad g (i*3+1))=some (I up):=by rw[y1,<- HUI.o]
     have w0:W.cell? (Ad eb 0)=some (I pg):=au BE.o 0 rfl;clear u0 u1 u2 y0 y1 y2 HUS;go_region;go_wp2;go_ret;rw[aiu.o Cu.o];exact⟨dI (fun b=>Ending.returned (.bool b)) Cu.o.symm,Ci Z9.o,XR.o.d⟩
 · have Cu:Hid (A=false):=by
    grind [oJ]
   have aiu:Hid (R=us):=by grind [Hid.o]
   clear HA hr HR;rcases(show lc<0∨(0<=lc/\(n:Int)<=lc) by omega) with g1 | ⟨g1,g2⟩
   all_goals
    go_enter Tryz.func191,Tryz.ntmps191;go_wp2;go_ret;rw[aiu.o];exact⟨dI (fun b=>Ending.returned (.bool b)) Cu.o.symm,Z9.o,XR.o⟩
end Go.Proofs.YtlgoihmkgaaemaaGreat
