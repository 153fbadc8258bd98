import Derived.Test.YtlgoihmkgaaemaaGreatGO14
import Derived.Deep.RegionHeld3
set_option maxHeartbeats 20000000
set_option linter.unusedVariables false
set_option maxRecDepth 100000
set_option linter.unusedSimpArgs false
namespace Go.Proofs.YtlgoihmkgaaemaaGreat
open Go.RowKit
theorem Tc (k:aR) (j:Nat) (p:Int) (hR:aW k) (hj:j<k.aj.length):bY k j p=if (jb (ak k.aj j).bf p).1.kind=1 then (aH k.frames (jb (ak k.aj j).bf p).1.loc.toNat).data else if (jb (ak k.aj j).bf p).1.kind=2 then (bE k.slots (jb (ak k.aj j).bf p).1.loc.toNat).data else fY k.aM p (oG k j p):=by
 unfold bY jb;cases g:bl (ak k.aj j).bf p with
 | none=>rfl
 | some e =>
  have he:=(gJ (hR.sp hj).lT).1 g;show(if e.kind=1 then _ else _)=if e.kind=1 then _ else if e.kind=2 then _ else _
  rcases iO hR hj he.1 with b | b
  · grind
  grind
theorem Wp (k:aR) (a:iH) (j mb:Nat) (p:Int) (ar:aY) (w:World) (hK:jg w a k) (hR:aW k) (hj:j<k.aj.length) (hm:w.heap[mb]?=some (.cells (lQ a k) 158 (0,0))) (hp:dV k j p) (hz:ar.zero=oG k j p) :
  Calls Tryz.prog 78 #[.pointer (some (Ad mb 0)),I (j:Int),I p,.agg (nK ar)] w fun e w'=>e=.returned (.string (bY k j p))/\Below w.heap.size w w':=by
 have Fh:=kf hp;have hcc:=hR.c;have Mi:=ai (Tc k j p hR hj);have Ji:=aJ hm;obtain⟨pb,po,hao,hbl,eY⟩:=hK.aj (by omega);obtain⟨va,ap,cp,_,_,y2,_,y4,_⟩:=eY j hj;have hel:(ak k.aj j).bf.length<=1000000:=by
  have h1:=xZ (hR.sp hj);have h2:=qO (ak k.aj j).aT;omega
 have c1:w.cell? (Ad mb 1)=some (.slice a.aF k.frames.length a.cF):=aq hm 1 rfl;have c2:w.cell? (Ad mb 2)=some (.slice a.aL k.slots.length a.cL):=aq hm 2 rfl;have c3:w.cell? (Ad mb 3)=some (.slice (some (Ad pb po)) k.aj.length a.cP):=(aq (v:=.slice a.aP k.aj.length a.cP) hm 3 rfl).trans (by rw[hao]);have yF:=ai (fun V (hV:Below w.heap.size w V)=>KY (ak k.aj j).bf p j k.aj.length mb pb po a.cP ap cp V ((hV.cell (p:=(Ad mb 3)) Ji).trans c3) hj ((hV.cell (p:=(Ad pb (po+j*3+2))) hbl).trans y2) (y4.below hV) hel (by omega));have yg:=ai (fun V (hV:Below w.heap.size w V)=>FT k.aM p ar.zero mb V (FP (aN hm hV Ji) hR.lT) (by omega));have HBD:Hid (∀e:bD,(jb (ak k.aj j).bf p).1=e->(e.kind=1->0<=e.loc/\e.loc<(k.frames.length:Int))/\(e.kind=2->0<=e.loc/\e.loc<(k.slots.length:Int))):=fun e he=>by
  unfold jb at he;cases g:bl (ak k.aj j).bf p with
  | none =>
   rw[g] at he;have he:gY=e:=he;subst he;exact⟨fun x=>absurd x (by decide),fun x=>absurd x (by decide)⟩
  | some e2 =>
   rw[g] at he;have he:e2=e:=he;subst he;have hm2:=(gJ (hR.sp hj).lT).1 g;have:=((hR.sp hj).Mq e2 hm2.1).2;omega
 have HF:=ai hK.frames;have HS:=ai hK.slots;rw[hz] at yg;obtain⟨EN,hEN⟩:=ex (jb (ak k.aj j).bf p);rw[<- hEN] at Mi yF HBD;obtain⟨⟨pg,kd,lc⟩,fd⟩:=EN;unfold rQ at yF;have aez:=ai (HBD.o _ rfl);obtain⟨FK,hFK⟩:=ex (fY k.aM p (oG k j p));rw[<- hFK] at Mi yg;obtain⟨PK,hPK⟩:=ex (bY k j p);rw[<- hPK] at Mi ⊢;obtain⟨f1,f2,f3,z⟩:=ar;unfold nK;simp only at Mi yF aez yg hz ⊢;rw[<- hz] at yg;have gB:=ai ((aK w.heap.size w).alloc (aD _) (.cells #[I f1,I f2,I f3,.bool z] 139));have AB:=ai (bB w #[I f1,I f2,I f3,.bool z] 139);clear hEN hFK hPK hz hao eY y2 y4 HBD hK hR hm hp hcc hel c3 hj;rcases(show kd=1∨(¬kd=1/\kd=2)∨(¬kd=1/\¬kd=2) by omega) with g | ⟨g,g2⟩ | ⟨g,g2⟩
 · rw[aB g] at Mi;have kb1:(kd==1)=true:=by grind
   obtain⟨l0,l1⟩:=aez.o.1 g;obtain⟨i,rfl⟩:∃i:Nat,lc=(i:Int):=⟨lc.toNat,by omega⟩;rw[jz] at Mi;obtain⟨fb,fo,hfo,hfl,Vz⟩:=HF.o (by omega);have x0:=Vz i (by omega) 0 (by omega);rw[hfo] at c1;have x0:w.cell? (Ad fb (fo+i*4))=some (.string PK):=by rw[Mi.o];exact x0
   clear g HF HS yg aez Vz;go_enter Tryz.func78,Tryz.ntmps78;go_wp2_with (go_at_call 129;refine(yF.o _ gB.o).mono ?_;rintro e w1 ⟨rfl,hb1⟩;have cH:=ai (bH gB.o hb1);have jk:=ai (cH.o.alloc cH.o.size (.cells #[I pg,I kd,I (i:Int)] 174));have d1:(w1.alloc (.cells #[I pg,I kd,I (i:Int)] 174)).cell? (Ad mb 1)=some (.slice (some (Ad fb fo)) k.frames.length a.cF):=(jk.o.cell (p:=(Ad mb 1)) Ji).trans c1;clear hb1)
   have xA:=(jk.o.cell (p:=(Ad fb (fo+i*4))) hfl).trans x0;go_region;go_wp2;go_ret;exact⟨rfl,jk.o.drew⟩
 · rw[au g,aB g2] at Mi;have kb1:(kd==1)=false:=by grind
   have kb2:(kd==2)=true:=by grind
   obtain⟨l0,l1⟩:=aez.o.2 g2;obtain⟨i,rfl⟩:∃i:Nat,lc=(i:Int):=⟨lc.toNat,by omega⟩;rw[jz] at Mi;obtain⟨fb,fo,hfo,hfl,Vz⟩:=HS.o (by omega);have x0:=Vz i (by omega) 0 (by omega);rw[hfo] at c2;have x0:w.cell? (Ad fb (fo+i*2))=some (.string PK):=by rw[Mi.o];exact x0
   clear g g2 HF HS yg aez Vz;go_enter Tryz.func78,Tryz.ntmps78;go_wp2_with (go_at_call 129;refine(yF.o _ gB.o).mono ?_;rintro e w1 ⟨rfl,hb1⟩;have cH:=ai (bH gB.o hb1);have jk:=ai (cH.o.alloc cH.o.size (.cells #[I pg,I kd,I (i:Int)] 174));have d2:(w1.alloc (.cells #[I pg,I kd,I (i:Int)] 174)).cell? (Ad mb 2)=some (.slice (some (Ad fb fo)) k.slots.length a.cL):=(jk.o.cell (p:=(Ad mb 2)) Ji).trans c2;clear hb1)
   have xA:=(jk.o.cell (p:=(Ad fb (fo+i*2))) hfl).trans x0;go_region;go_wp2;go_ret;exact⟨rfl,jk.o.drew⟩
 · rw[au g,au g2] at Mi;have kb1:(kd==1)=false:=by grind
   have kb2:(kd==2)=false:=by grind
   clear g g2 HF HS aez;go_enter Tryz.func78,Tryz.ntmps78;go_wp2_with (first | (go_at_call 129;refine(yF.o _ gB.o).mono ?_;rintro e w1 ⟨rfl,hb1⟩;have cH:=ai (bH gB.o hb1);have jk:=ai (cH.o.alloc cH.o.size (.cells #[I pg,I kd,I lc] 174));have A0:=ai (bk (aN AB.o hb1 (aJ AB.o)) (.cells #[I pg,I kd,I lc] 174));have a3:(w1.alloc (.cells #[I pg,I kd,I lc] 174)).cell? (Ad w.heap.size 3)=some (.bool z):=aq A0.o 3 rfl;clear hb1) | (go_at_call 130;refine(yg.o _ jk.o).mono ?_;rintro e w2 ⟨rfl,hb2⟩;have gK:=ai (bH jk.o hb2);clear hb2))
   go_ret;exact⟨ed (fun d=>Ending.returned (.string d)) Mi.o.symm,gK.o⟩
open Go.RowKit
def oN (k:aR) (sp p:Int):ByteArray×Int:=if cT k sp=0 then (if (aV (ak k.aj sp.toNat).aT p).2 then (bY k sp.toNat p,0) else (⟨#[]⟩,6)) else (⟨#[]⟩,cT k sp)
theorem Td {k:aR} {sp:Int} (h:cT k sp=0):fV k=0/\0<=sp/\sp<(k.aj.length:Int)/\(ak k.aj sp.toNat).live=true:=by
 grind [cT]
theorem Zg (k:aR) (a:iH) (sp p:Int) (w:World) (hK:jg w a k) (hF:nZ k) (hsp:cN sp):Calls Tryz.prog 29 #[.agg (bc a k),I sp,I p] w fun e w'=>e=.returned (.tuple #[.string (oN k sp p).1,I (oN k sp p).2])/\Below w.heap.size w w':=by
 have HO:=ai (fun V (hV:Below w.heap.size w V)=>vA k a sp V (hK.below hV) hF hsp);have gB:=ai ((aK w.heap.size w).alloc (aD _) (.cells (bc a k) 30));by_cases hl:cT k sp=0
 · have hpt:=Td hl;have hR:=(oh k).1 hpt.1;obtain⟨j,rfl⟩:∃j:Nat,sp=(j:Int):=⟨sp.toNat,by omega⟩;have hj:j<k.aj.length:=by omega
   have Bv:Hid (oN k (j:Int) p=if (aV (ak k.aj j).aT p).2 then (bY k j p,0) else (⟨#[]⟩,6)):=by show _=_;grind [oN]
   have C3:Hid (∀V,Below w.heap.size w V->Calls Tryz.prog 76 #[.agg (bc a k),I (j:Int)] V fun e w'=>∃mb,e=.returned (.tuple #[.pointer (some (Ad mb 0)),I 0])/\w.heap.size<=mb/\w'.heap[mb]?=some (.cells (lQ a k) 158 (0,0))/\Below V.heap.size V w'):=fun V hV=>(HO.o V hV).mono fun e w' ⟨hb,h⟩=>by
    rcases h with⟨_,mb,h1,h2,h3⟩ | ⟨h1,_⟩
    · exact⟨mb,h1,gu hV.size h2,h3,hb⟩
    omega
   have hcc:=hR.c;obtain⟨pb,po,hao,hbl,eY⟩:=hK.aj (by omega);obtain⟨va,ap,cp,_,y1,_,y3,_,_⟩:=eY j hj;obtain⟨aa,ca,H8,_⟩:=id y3;subst H8;have LP:=ai (fun V (hV:Below w.heap.size w V)=>vH (ak k.aj j).aT _ p V (y3.below hV) (hF.sp j hj).aT);have HHO:=ai (fun mb V (hV:Below w.heap.size w V) (hm:V.heap[mb]?=some (.cells (lQ a k) 158 (0,0))) (hp:dV k j p)=>Wp k a j mb p (aV (ak k.aj j).aT p).1 V (hK.below hV) hR hj hm hp rfl);have Ym:Hid (∀(V:World) mb,V.heap[mb]?=some (.cells (lQ a k) 158 (0,0))->V.cell? (Ad mb 3)=some (.slice (some (Ad pb po)) k.aj.length a.cP)):=fun V mb h=>(aq (v:=.slice a.aP k.aj.length a.cP) h 3 rfl).trans (by rw[hao])
   have UX:Hid ((aV (ak k.aj j).aT p).2=true->dV k j p):=fun h=>h
   obtain⟨⟨⟨f1,f2,f3,z⟩,ok⟩,hFN⟩:∃F,F=aV (ak k.aj j).aT p:=⟨_,rfl⟩;rw[<- hFN] at Bv LP HHO UX;unfold nK at LP HHO;simp only at Bv LP HHO UX;have hji:(j:Int)<(k.aj.length:Int):=by omega
   have YA:(0:Int)<=(j:Int):=by omega
   clear hFN HO hl hpt hR hK hF hsp hao eY y3 hcc;obtain⟨PR,hPR⟩:=ex (oN k (j:Int) p);rw[<- hPR] at Bv ⊢;clear hPR;unfold bc at C3 gB ⊢;cases ok with
   | false =>
    have ail:Hid (PR=(⟨#[]⟩,6)):=Bv;clear Bv HHO UX;go_enter Tryz.func29,Tryz.ntmps29;go_wp2_with (first | (go_at_call 76;refine(C3.o _ gB.o).mono ?_;rintro e w1 ⟨mb,rfl,ni,hm2,hb1⟩;have HMB:=ai hm2;have cH:=ai (bH gB.o hb1);have c3:=Ym.o w1 mb hm2;have c1:=(cH.o.cell (p:=(Ad pb (po+j*3+1))) hbl).trans y1;clear hb1 hm2) | (go_at_call 77;refine(LP.o _ cH.o).mono ?_;rintro e w2 ⟨rfl,hb2⟩;have gK:=ai (bH cH.o hb2);have jk:=ai (gK.o.alloc gK.o.size (.cells #[I f1,I f2,I f3,.bool z] 139));clear hb2))
    go_ret2
    rw[ail.o];exact⟨rfl,jk.o⟩
   | true =>
    have ail:Hid (PR=(bY k j p,0)):=Bv;clear Bv;obtain⟨PK,hPK⟩:=ex (bY k j p);rw[<- hPK] at HHO ail;clear hPK;go_enter Tryz.func29,Tryz.ntmps29;go_wp2_with (first | (go_at_call 76;refine(C3.o _ gB.o).mono ?_;rintro e w1 ⟨mb,rfl,ni,hm2,hb1⟩;have HMB:=ai hm2;have cH:=ai (bH gB.o hb1);have c3:=Ym.o w1 mb hm2;have c1:=(cH.o.cell (p:=(Ad pb (po+j*3+1))) hbl).trans y1;clear hb1 hm2) | (go_at_call 77;refine(LP.o _ cH.o).mono ?_;rintro e w2 ⟨rfl,hb2⟩;have gK:=ai (bH cH.o hb2);have jk:=ai (gK.o.alloc gK.o.size (.cells #[I f1,I f2,I f3,.bool z] 139));have MA:=ai (bk (aN HMB.o hb2 (aJ HMB.o)) (.cells #[I f1,I f2,I f3,.bool z] 139));clear hb2) | (go_at_call 78;refine(HHO.o mb _ jk.o MA.o (UX.o trivial)).mono ?_;rintro e w3 ⟨rfl,hb3⟩;have mQ:=ai (bH jk.o hb3);clear hb3))
    go_ret2
    rw[ail.o];exact⟨rfl,mQ.o⟩
 · have C3:Hid (∀V,Below w.heap.size w V->Calls Tryz.prog 76 #[.agg (bc a k),I sp] V fun e w'=>e=.returned (.tuple #[.pointer none,I (cT k sp)])/\Below V.heap.size V w'):=fun V hV=>(HO.o V hV).mono fun e w' ⟨hb,h⟩=>by
    grind
   have Bv:Hid (oN k sp p=(⟨#[]⟩,cT k sp)):=by show _=_;grind [oN]
   obtain⟨PR,hPR⟩:=ex (oN k sp p);rw[<- hPR] at Bv ⊢;obtain⟨C,hC⟩:=ex (cT k sp);rw[<- hC] at Bv C3 hl;have cb:(C != 0)=true:=by grind
   clear hPR hC HO hK hF hsp hl;unfold bc at C3 gB ⊢;go_enter Tryz.func29,Tryz.ntmps29;go_wp2_with (go_at_call 76;refine(C3.o _ gB.o).mono ?_;rintro e w1 ⟨rfl,hb1⟩;have cH:=ai (bH gB.o hb1);clear hb1)
   go_ret2
   rw[Bv.o];exact⟨rfl,cH.o⟩
open Go.RowKit
def iF (n:Int):List Value:=[I n]
def D4 (l:List Int) (i:Nat):Int:=l.getD i 0
theorem Te (l:List Int) (x:Int) (ao:Option Addr) (cap:Nat) (w:World) (h:eB iF 1 0 w ao l) (hl:l.length<=1000000) :
  Calls Tryz.prog 288 #[.slice ao l.length cap,I x] w fun e w'=>w'=w/\((e=.returned (I (-1))/\∀j,j<l.length->D4 l j≠x)∨∃i:Nat,i<l.length/\e=.returned (I (i:Int))/\D4 l i=x):=by
 have HH:=ai h;clear h;go_enter Tryz.func288,Tryz.ntmps288;go_wp2;go_loopw [8] (fun iv wr=>∃k:Nat,k<=l.length/\iv=I (k:Int)/\(∀j,j<k->D4 l j≠x)/\wr=w) (fun iv _=>l.length-(intOf iv).toNat)
 case atStart=>grind
 case round =>
  obtain⟨k,hk,rfl,hno,rfl⟩:=hrel;have uJ:=ai hno;clear hno;by_cases hlt:k<l.length
  · have Jj:(k:Int)<(l.length:Int):=by omega
    obtain⟨eb,eo,hao,hbl,eY⟩:=HH.o (by omega);subst hao;have y0:=eY k hlt 0 (by omega);rw[mF,Pd] at y0;obtain⟨E,hE⟩:=ex (D4 l k);have x0:wr.cell? (Ad eb (eo+k))=some (I E):=by rw[hE];exact y0
    have HE:=ai hE;clear hE y0 eY;by_cases c:x=E
    · have cb:(x==E)=true:=by grind
      have HC:=ai c;clear c;go_wp2;go_ret;exact⟨rfl,.inr ⟨k,hlt,rfl,by rw[<- HE.o,HC.o]⟩⟩
    · have cb:(x==E)=false:=by grind
      have HC:=ai c;clear c;go_wp2
      grind [intOf,Hid.o]
  · obtain rfl:k=l.length:=by omega
    go_wp2;go_ret;exact⟨rfl,.inl ⟨rfl,uJ.o⟩⟩
theorem NB (l:List Int) (x:Int):x∈l↔∃i,i<l.length/\D4 l i=x:=⟨fun h=>lM 0 h,fun ⟨i,hi,e⟩=>e ▸ jT hi⟩
theorem xk (l:List Int) (x:Int) (ao:Option Addr) (cap:Nat) (w:World) (h:eB iF 1 0 w ao l) (hl:l.length<=1000000) :
  Calls Tryz.prog 282 #[.slice ao l.length cap,I x] w fun e w'=>e=.returned (.bool (decide (x∈l)))/\w'=w:=by
 have HI:=ai (Te l x ao cap w h hl);clear h;by_cases c:x∈l
 · have HI2:Hid (Calls Tryz.prog 288 #[.slice ao l.length cap,I x] w fun e w'=>∃i:Nat,i<l.length/\e=.returned (I (i:Int))/\w'=w):=HI.o.mono fun e w' ⟨hw,h⟩=>by
    grind [NB]
   rw[ic c];clear HI c;go_enter Tryz.func282,Tryz.ntmps282;go_wp2_with (go_at_call 288;refine HI2.o.mono ?_;rintro e w1 ⟨i,hi,rfl,rfl⟩;have hi0:(0:Int)<=(i:Int):=(by omega))
   go_ret
   simp_all
 · have HI2:Hid (Calls Tryz.prog 288 #[.slice ao l.length cap,I x] w fun e w'=>e=.returned (I (-1))/\w'=w):=HI.o.mono fun e w' ⟨hw,h⟩=>by
    grind [NB]
   rw[jq c];clear HI c;go_enter Tryz.func282,Tryz.ntmps282;go_wp2_with (go_at_call 288;refine HI2.o.mono ?_;rintro e w1 ⟨rfl,rfl⟩)
   go_ret
   simp_all
open Go.RowKit
structure Ab where
 lv:Bool
 va:Value
 vp:Value
def gV (l:Ab):List Value:=[.bool l.lv,l.va,l.vp]
def xn:Ab:=⟨false,Nl,Nl⟩
def fL (l:List Ab) (k:Nat):Ab:=l.getD k xn
def bX (v:Value) (b:Nat):Prop:=v.ownBlock=some b
structure mX (lo:Nat) (w:World) (l:Ab) (s:cZ):Prop where
 live:l.lv=s.live
 aT:ez lo w l.va s.aT
 aQ:w.ownsRow lo 174 3 l.vp s.bf.length (s.bf.flatMap bw)
theorem mX.kp {lo:Nat} {w w':World} {D:Nat->Prop} {l:Ab} {s:cZ} (h:mX lo w l s) (hk:aC D w w') (ha:∀b,bX l.va b->¬D b) (hp:∀b,bX l.vp b->¬D b):mX lo w' l s:=⟨h.live,hk.row h.aT ha,hk.row h.aQ hp⟩
theorem mX.mono {lo lo':Nat} {w:World} {l:Ab} {s:cZ} (h:mX lo w l s) (hl:lo'<=lo):mX lo' w l s:=⟨h.live,h.aT.mono hl,ou h.aQ (fun g hg=>gu hl (h.aQ.lt g hg).1)⟩
theorem zq {α:Type} {w:World} (f:α->List Value) (k:Nat) (hf:∀x,(f x).length=k) (d:α) (l:List α) (b off:Nat) (h:∀i,i<l.length->∀j,j<k->w.cell? (Ad b (off+i*k+j))=(f (l.getD i d))[j]?):mR w (some (Ad b off)) l.length (l.flatMap f):=fun hm=>by
 refine⟨_,rfl,fun j u hu=>?_⟩;have hlt:j<l.length*k:=by
  grind [fw]
 have hk:0<k:=by
  grind
 have e:j=j/k*k+j%k:=by grind [Nat.div_add_mod]
 have h1:j/k<l.length:=(Nat.div_lt_iff_lt_mul hk).2 hlt
 grind [Nat.mod_lt,yH,Addr.add_lit]
theorem Ti {w:World} {ao:Option Addr} {n c:Nat} {l:List aY} (h:gD w (.slice ao n c) l):n=l.length/\mR w ao n (cR l):=by
 obtain⟨ao',cap,e,h⟩:=h;injection e with e1 e2 e3;subst e1 e2 e3;refine⟨rfl,fun hm=>?_⟩;rcases h with h | ⟨b,off,rfl,hl⟩
 · grind
 · have:=zq (w:=w) o8 4 (fun _=>rfl) xK l b off (fun i hi j hj=>by
    obtain⟨c0,c1,c2,c3⟩:=hl i hi
    match j,hj with
    | 0,_=>exact c0
    | 1,_=>exact c1
    | 2,_=>exact c2
    | 3,_=>exact c3)
   have e:cR l=l.flatMap o8:=by
    clear this hl hm;induction l with
    | nil=>rfl
    | cons a r ih=>rw[nV,<- ih];rfl
   rw[e];exact this hm
theorem Th {w:World} {ap:Option Addr} {l:List bD} (h:eB bw 3 gY w ap l):mR w ap l.length (l.flatMap bw):=fun hm=>by
 obtain⟨b,off,rfl,hb,hl⟩:=h hm;exact zq (w:=w) bw 3 (fun _=>rfl) gY l b off (fun i hi j hj=>hl i hi j hj) hm
theorem tT:∀(l:List bD),∀u∈l.flatMap bw,u.oneCell'=true:=fun l u hu=>by
 obtain⟨y,_,hy⟩:=vO.1 hu;simp[bw] at hy;rcases hy with rfl | rfl | rfl <;> rfl
def Zm (w:World) (s:cZ) (e:Ending) (w':World):Prop:=∃va vp,e=.returned (.agg #[.bool s.live,va,vp])/\mX w.heap.size w' ⟨s.live,va,vp⟩ s/\(∀b,bX vp b->¬bX va b)/\Below w.heap.size w w'
theorem Iy (s:cZ) (aa ap:Option Addr) (na ca cp:Nat) (w:World) (ha:gD w (.slice aa na ca) s.aT) (hp:eB bw 3 gY w ap s.bf) (rH:s.aT.length<=1000000) (yn:s.bf.length<=1000000) :
  Calls Tryz.prog 135 #[.agg #[.bool s.live,.slice aa na ca,.slice ap s.bf.length cp]] w (Zm w s):=by
 obtain⟨hn,hfa⟩:=Ti ha;have Fe:=ai hfa;have Hy:=ai (Th hp);obtain⟨lv,wU,pgs⟩:=s;simp only at hn Fe Hy rH yn ⊢;subst hn;have HLA:=ai (y7 wU);have HLP:=ai (fw bw 3 (fun _=>rfl) pgs);have H1A:=ai (xM wU);have H1P:=ai (tT pgs);have dB:Hid (∀va vp (w':World),ez w.heap.size w' va wU->w'.ownsRow w.heap.size 174 3 vp pgs.length (pgs.flatMap bw)->(∀b,bX vp b->¬bX va b)->Below w.heap.size w w'->Zm w ⟨lv,wU,pgs⟩ (.returned (.agg #[.bool lv,va,vp])) w'):=fun va vp w' h1 h2 h3 h4=>⟨va,vp,rfl,⟨rfl,h1,h2⟩,h3,h4⟩
 obtain⟨XA,hXA⟩:=ex (cR wU);obtain⟨XP,hXP⟩:=ex (pgs.flatMap bw);unfold ez at dB;rw[<- hXA] at Fe HLA H1A dB;rw[<- hXP] at Hy HLP H1P dB;obtain⟨na,alX⟩:=ex wU.length;obtain⟨np,alV⟩:=ex pgs.length;rw[<- alX] at Fe HLA dB rH ⊢;rw[<- alV] at Hy HLP dB yn ⊢;clear hfa ha hp hXA hXP alX alV;have gB:=ai (((aK w.heap.size w).alloc (aD _) (.cells #[.bool lv,.slice aa na ca,.slice ap np cp] 99)).alloc (by simp) (.cells #[.bool false,Nl,Nl] 99));have X0:=ai (bk (bB w #[.bool lv,.slice aa na ca,.slice ap np cp] 99) (.cells #[.bool false,Nl,Nl] 99));have Y0:Hid (((w.alloc (.cells #[.bool lv,.slice aa na ca,.slice ap np cp] 99)).alloc (.cells #[.bool false,Nl,Nl] 99)).heap[w.heap.size+1]?=some (.cells #[.bool false,Nl,Nl] 99 (0,0))):=by
  grind [World.alloc]
 go_enter Tryz.func135,Tryz.ntmps135;go_wp2;obtain⟨WA,lu⟩:=ex ((w.alloc (.cells #[.bool lv,.slice aa na ca,.slice ap np cp] 99)).alloc (.cells #[.bool false,Nl,Nl] 99));rw[<- lu] at gB X0 Y0 ⊢;clear lu;have OY:=ai gB.o;obtain⟨xb,Mf⟩:=ex w.heap.size;rw[<- Mf] at X0 Y0 gB dB ⊢;have TG:=ai Mf;clear Mf;have HS:Hid (∀V,Below WA.heap.size WA V->V.cell? (Ad xb 0)=some (.bool lv)/\V.cell? (Ad xb 1)=some (.slice aa na ca)/\V.cell? (Ad xb 2)=some (.slice ap np cp)):=fun V hb=>by
  grind [aN,aq,Hid.o]
 have HCA:Hid (∀V,Below WA.heap.size WA V->Calls Tryz.prog 71 #[.slice aa na ca] V fun e w'=>∃a c,e=.returned (.slice a na c)/\w'.ownsRow V.heap.size 139 4 (.slice a na c) na XA/\Below V.heap.size V w'):=fun V hV=>(acC aa na ca XA V HLA.o (Fe.o.below (OY.o.trans (hV.mono OY.o.size))) H1A.o rH).mono fun e w' ⟨v,h1,h2,h3⟩=>by
   obtain⟨a,c,rfl,_⟩:=bg h2
   grind
 have HCP:Hid (∀V,Below WA.heap.size WA V->Calls Tryz.prog 188 #[.slice ap np cp] V fun e w'=>∃a c,e=.returned (.slice a np c)/\w'.ownsRow V.heap.size 174 3 (.slice a np c) np XP/\Below V.heap.size V w'):=fun V hV=>(acB ap np cp XP V HLP.o (Hy.o.below (OY.o.trans (hV.mono OY.o.size))) H1P.o yn).mono fun e w' ⟨v,h1,h2,h3⟩=>by
   obtain⟨a,c,rfl,_⟩:=bg h2
   grind
 have ZU:Hid (∀V:World,(V.cell? (Ad xb 0)=some (.bool lv)/\V.cell? (Ad xb 1)=some (.slice aa na ca)/\V.cell? (Ad xb 2)=some (.slice ap np cp))->∀v0 v1 v2,(((V.setCell (Ad (xb+1) 0) v0).setCell (Ad (xb+1) 1) v1).setCell (Ad (xb+1) 2) v2).cell? (Ad xb 0)=some (.bool lv)/\(((V.setCell (Ad (xb+1) 0) v0).setCell (Ad (xb+1) 1) v1).setCell (Ad (xb+1) 2) v2).cell? (Ad xb 1)=some (.slice aa na ca)/\(((V.setCell (Ad (xb+1) 0) v0).setCell (Ad (xb+1) 1) v1).setCell (Ad (xb+1) 2) v2).cell? (Ad xb 2)=some (.slice ap np cp)):=fun V ⟨h0,h1,h2⟩ v0 v1 v2=>by
  have hne:xb≠xb+1:=by omega
  rw[cj _ _ _ _ _ _ hne,cj _ _ _ _ _ _ hne,cj _ _ _ _ _ _ hne,cj _ _ _ _ _ _ hne,cj _ _ _ _ _ _ hne,cj _ _ _ _ _ _ hne,cj _ _ _ _ _ _ hne,cj _ _ _ _ _ _ hne,cj _ _ _ _ _ _ hne];omega
 have ub:=ai (aK WA.heap.size WA).drew;have nU:=ai (HS.o _ ub.o)
 go_region_held3 (fun V=>V.cell? (Ad xb 0)=some (.bool lv)/\V.cell? (Ad xb 1)=some (.slice aa na ca)/\V.cell? (Ad xb 2)=some (.slice ap np cp)) (first | exact sL.o | exact sk.o | exact nU.o | exact MR.o _ _ _)
  (first
   | (go_at_call 71;refine(HCA.o _ ub.o).mono ?_;rintro e w2 ⟨a2,c2,rfl,hr2,hb2⟩;have pq:=ai (ub.o.trans (hb2.mono ub.o.size));have sk:=ai (HS.o _ pq.o);have Fb:=ai hr2;clear hb2 hr2)
   | (go_at_call 188;refine(HCP.o _ pq.o).mono ?_;rintro e w3 ⟨a3,c3,rfl,hr3,hb3⟩;have zG:=ai (pq.o.trans (hb3.mono pq.o.size));have sL:=ai (HS.o _ zG.o);have HR3:=ai hr3;have mQ:=ai hb3;have y0:w3.cell? (Ad (xb+1) 0)=some (.bool false):=aq (aN Y0.o zG.o (aJ Y0.o)) 0 rfl;have z0:w3.frozen? (Ad (xb+1) 0)=false:=aO (aN Y0.o zG.o (aJ Y0.o)) 0;have y1:w3.cell? (Ad (xb+1) 1)=some Nl:=aq (aN Y0.o zG.o (aJ Y0.o)) 1 rfl;have z1:w3.frozen? (Ad (xb+1) 1)=false:=aO (aN Y0.o zG.o (aJ Y0.o)) 1;have y2:w3.cell? (Ad (xb+1) 2)=some Nl:=aq (aN Y0.o zG.o (aJ Y0.o)) 2 rfl;have z2:w3.frozen? (Ad (xb+1) 2)=false:=aO (aN Y0.o zG.o (aJ Y0.o)) 2;have MR:=ai (fun v0 v1 v2=>ZU.o w3 sL.o v0 v1 v2);clear hb3 hr3))
 all_goals clear MR ZU HS nU sk sL HCA HCP
 all_goals go_wp2
 · refine bI (v:=.agg #[.bool lv,.slice a2 na c2,.slice a3 np c3]) (by simp[results,Tryz.results135,go_sem,y0,y1,y2]) rfl ?_;have k3:aC (fun b=>b=xb+1) w3 _:=xD w3 (xb+1) 0 1 2 (.bool lv) (.slice a2 na c2) (.slice a3 np c3) rfl;have l1:=aJ Y0.o;have l3:=pq.o.size;have hx:=TG.o;have e2:∀g,(Value.slice a2 na c2).ownBlock=some g->WA.heap.size<=g/\g<w2.heap.size:=fun g hg=>Fb.o.lt g hg
   have e3:∀g,(Value.slice a3 np c3).ownBlock=some g->w2.heap.size<=g/\g<w3.heap.size:=fun g hg=>HR3.o.lt g hg
   have r2:=(aC.bZ (D:=fun _=>False) mQ.o).row Fb.o (fun _ _ g=>g);refine dB.o _ _ _ (k3.row (ou r2 (fun g hg=>by grind)) (fun g hg e=>by grind)) (k3.row (ou HR3.o (fun g hg=>by grind)) (fun g hg e=>by grind)) (fun b h1 h2=>by have:=e2 b h2;have:=e3 b h1;omega) ?_;exact aC.below (gB.o.trans (zG.o.mono (by omega))) k3 (by have:=zG.o.size;omega) (fun b e=>by omega)
open Go.RowKit
def nt (s:bG):List Value:=[I s.page,.string s.data,.slice s.ao s.eZ.length s.cap]
def qD (f:mL):List Value:=[I f.off,.string f.bytes]
def ado (s:bG):Value:=.slice s.ao s.eZ.length s.cap
inductive o9 where
 | no | head | frames | slots | aj | aM
 | aT (i:Nat)
 | bf (i:Nat)
 | eZ (i:Nat)
structure gL where
 lab:Nat->o9
 vS:Value
 vF:Value
 vL:Value
 vP:Value
 L:List Ab
structure Kr (lo:Nat) (w:World) (S:gL) (k:aR):Prop where
 yL:∀b,S.lab b≠.no->lo<=b/\b<w.heap.size
 aM:w.ownsRow lo 145 3 S.vS k.aM.length (k.aM.flatMap nt)
 eZ:∀i,i<k.aM.length->w.ownsRow lo 226 2 (ado (bu k.aM i)) (bu k.aM i).eZ.length ((bu k.aM i).eZ.flatMap qD)
 frames:w.ownsRow lo 169 4 S.vF k.frames.length (k.frames.flatMap jd)
 slots:w.ownsRow lo 171 2 S.vL k.slots.length (k.slots.flatMap jc)
 aj:w.ownsRow lo 99 3 S.vP S.L.length (S.L.flatMap gV)
 len:S.L.length=k.aj.length
 each:∀i,i<k.aj.length->mX lo w (fL S.L i) (ak k.aj i)
 lS:∀b,bX S.vS b->S.lab b=.aM
 lX:∀i,i<k.aM.length->∀b,bX (ado (bu k.aM i)) b->S.lab b=.eZ i
 lF:∀b,bX S.vF b->S.lab b=.frames
 lL:∀b,bX S.vL b->S.lab b=.slots
 lP:∀b,bX S.vP b->S.lab b=.aj
 lA:∀i,i<k.aj.length->∀b,bX (fL S.L i).va b->S.lab b=.aT i
 lE:∀i,i<k.aj.length->∀b,bX (fL S.L i).vp b->S.lab b=.bf i
structure bJ (lo mb:Nat) (tt:TypeId) (X:List Value) (w:World) (S:gL) (k:aR):Prop extends Kr lo w S k where
 head:w.heap[mb]?=some (.cells ([S.vS,S.vF,S.vL,S.vP,I k.hand]++X).toArray tt (0,0))
 lH:S.lab mb=.head
structure cK (S:gL) (w:World) (S':gL) (w':World):Prop where
 kp:aC (fun b=>S.lab b≠.no) w w'
 no:∀b,b<w.heap.size->S.lab b=.no->S'.lab b=.no
 eS:S'.vS=S.vS
 eF:S'.vF=S.vF
 eL:S'.vL=S.vL
 eP:S'.vP=S.vP
theorem cK.refl (S:gL) (w:World):cK S w S w:=⟨aC.refl _ _,fun _ _ h=>h,rfl,rfl,rfl,rfl⟩
theorem cK.trans {S S1 S2:gL} {w w1 w2:World} (h:cK S w S1 w1) (g:cK S1 w1 S2 w2):cK S w S2 w2 :=
 ⟨⟨g.kp.os.trans h.kp.os,g.kp.tape.trans h.kp.tape,g.kp.output.trans h.kp.output,gu h.kp.size g.kp.size,fun b hb hn=>by
  have hb1:=fD hb h.kp.size;have hn0:S.lab b=.no:=zg.1 hn;have Ur:=h.no b hb hn0;exact(g.kp.block b hb1 (fun x=>x Ur)).trans (h.kp.block b hb hn)⟩,fun b hb hn=>g.no b (fD hb h.kp.size) (h.no b hb hn),g.eS.trans h.eS,g.eF.trans h.eF,g.eL.trans h.eL,g.eP.trans h.eP⟩
theorem cK.below {S:gL} {w w':World} (h:Below w.heap.size w w'):cK S w S w':=⟨aC.bZ h,fun _ _ h=>h,rfl,rfl,rfl,rfl⟩
theorem cK.set {S:gL} {w:World} {g j:Nat} {u:Value} (h:S.lab g≠.no):cK S w S (w.setCell (Ad g j) u):=⟨aC.set _ _ _ _ h,fun _ _ h=>h,rfl,rfl,rfl,rfl⟩
theorem cK.keep {S S':gL} {w w':World} {b:Nat} {o:Obj} (h:cK S w S' w') (hb:w.heap[b]?=some o) (hn:S.lab b=.no):w'.heap[b]?=some o:=h.kp.keep hb (fun x=>x hn)
theorem Kr.kp {lo:Nat} {w w':World} {S:gL} {k:aR} {E:Nat->Prop} (h:Kr lo w S k) (hk:aC E w w') (he:∀b,S.lab b≠.no->¬E b):Kr lo w' S k:=by
 have z:∀{b:Nat} {c:o9},S.lab b=c->c≠.no->¬E b:=fun e hc=>he _ (by grind)
 exact⟨fun b hb=>⟨(h.yL b hb).1,fD (h.yL b hb).2 hk.size⟩,hk.row h.aM (fun b hb=>z (h.lS b hb) (by simp)),fun i hi=>hk.row (h.eZ i hi) (fun b hb=>z (h.lX i hi b hb) (by simp)),hk.row h.frames (fun b hb=>z (h.lF b hb) (by simp)),hk.row h.slots (fun b hb=>z (h.lL b hb) (by simp)),hk.row h.aj (fun b hb=>z (h.lP b hb) (by simp)),h.len,fun i hi=>(h.each i hi).kp hk (fun b hb=>z (h.lA i hi b hb) (by simp)) (fun b hb=>z (h.lE i hi b hb) (by simp)),h.lS,h.lX,h.lF,h.lL,h.lP,h.lA,h.lE⟩
theorem Kr.below {lo:Nat} {w w':World} {S:gL} {k:aR} (h:Kr lo w S k) (hb:Below w.heap.size w w'):Kr lo w' S k:=h.kp (aC.bZ (D:=fun _=>False) hb) (fun _ _ g=>g)
theorem Kr.mono {lo lo':Nat} {w:World} {S:gL} {k:aR} (h:Kr lo w S k) (hl:lo'<=lo):Kr lo' w S k:=by
 have z:∀{e:TypeId} {n m:Nat} {v:Value} {xs:List Value},w.ownsRow lo e n v m xs->w.ownsRow lo' e n v m xs:=fun hr=>ou hr (fun g hg=>gu hl (hr.lt g hg).1)
 exact⟨fun b hb=>⟨gu hl (h.yL b hb).1,(h.yL b hb).2⟩,z h.aM,fun i hi=>z (h.eZ i hi),z h.frames,z h.slots,z h.aj,h.len,fun i hi=>(h.each i hi).mono hl,h.lS,h.lX,h.lF,h.lL,h.lP,h.lA,h.lE⟩
theorem bJ.below {lo mb:Nat} {tt:TypeId} {X:List Value} {w w':World} {S:gL} {k:aR} (h:bJ lo mb tt X w S k) (hb:Below w.heap.size w w'):bJ lo mb tt X w' S k:=⟨h.toKr.below hb,aN h.head hb (aJ h.head),h.lH⟩
theorem bJ.kp {lo mb:Nat} {tt:TypeId} {X:List Value} {w w':World} {S:gL} {k:aR} {E:Nat->Prop} (h:bJ lo mb tt X w S k) (hk:aC E w w') (he:∀b,S.lab b≠.no->¬E b):bJ lo mb tt X w' S k:=⟨h.toKr.kp hk he,hk.keep h.head (he mb (by grind [lH])),h.lH⟩
theorem Kr.new {lo:Nat} {w:World} {S:gL} {k:aR} (h:Kr lo w S k) {b:Nat} (hb:w.heap.size<=b):S.lab b=.no:=zg.1 fun x=>by have:=(h.yL b x).2;omega
theorem oO {α:Type} {w:World} {base:Nat} {e:TypeId} {k:Nat} (f:α->List Value) (hf:∀x,(f x).length=k) (d:α) {l:List α} {v:Value} (hr:w.ownsRow base e k v l.length (l.flatMap f)):∃ao cap,v=.slice ao l.length cap/\l.length<=cap/\eB f k d w ao l:=by
 obtain⟨ao,cap,rfl,hle,hg⟩:=bg hr;refine⟨ao,cap,rfl,hle,fun hl=>?_⟩;obtain⟨g,rfl,hg1,hg2⟩:=hg hl;exact⟨g,0,rfl,hg2,fun i hi j hj=>by grind [kq]⟩
theorem Kr.apY {lo:Nat} {w:World} {S:gL} {k:aR} (h:Kr lo w S k):∃ao cap,S.vS=.slice ao k.aM.length cap/\k.aM.length<=cap/\jB w ao k.aM:=by
 obtain⟨ao,cap,e,hc,hr⟩:=oO nt (fun _=>rfl) Ce h.aM;refine⟨ao,cap,e,hc,fun hl=>?_⟩;obtain⟨b,off,e1,hb,hi⟩:=hr hl;refine⟨b,off,e1,hb,fun i hlt=>⟨?_,hi i hlt 1 (by omega),hi i hlt 2 (by omega),fun hx=>?_⟩⟩
 · have:=hi i hlt 0 (by omega);rw[mF] at this;exact this
 · obtain⟨ax,cx,ex,_,hrx⟩:=oO qD (fun _=>rfl) QJ (h.eZ i hlt);injection ex with e1 e2 e3;rw[e1];obtain⟨b2,ajs,g1,g2,g3⟩:=hrx hx;refine⟨b2,ajs,g1,g2,fun n hn=>⟨?_,g3 n hn 1 (by omega)⟩⟩;have:=g3 n hn 0 (by omega);rw[mF] at this;exact this
theorem Kr.apX {lo:Nat} {w:World} {S:gL} {k:aR} (h:Kr lo w S k):∃ao cap,S.vP=.slice ao k.aj.length cap/\k.aj.length<=cap/\Aa w ao k.aj:=by
 obtain⟨ao,cap,e,hc,hr⟩:=oO gV (fun _=>rfl) xn h.aj;rw[h.len] at e hc;refine⟨ao,cap,e,hc,fun hl=>?_⟩;obtain⟨b,off,e1,hb,hi⟩:=hr (by grind [len]);refine⟨b,off,e1,hb,fun i hlt=>?_⟩;have hlt':i<S.L.length:=by grind [len]
 have hs:=h.each i hlt;obtain⟨ap,cp,hvp,hlp,hgp⟩:=oO bw (fun _=>rfl) gY hs.aQ;have c0:=hi i hlt' 0 (by omega);have c1:=hi i hlt' 1 (by omega);have c2:=hi i hlt' 2 (by omega);rw[mF] at c0;refine⟨(fL S.L i).va,ap,cp,?_,c1,?_,hs.aT.has,hgp,hlp⟩
 · rw[<- hs.live];exact c0
 · rw[<- hvp];exact c2
structure aef (S:gL) (k:aR) (a:iH):Prop where
 eS:S.vS=.slice a.aS k.aM.length a.cS
 eF:S.vF=.slice a.aF k.frames.length a.cF
 eL:S.vL=.slice a.aL k.slots.length a.cL
 eP:S.vP=.slice a.aP k.aj.length a.cP
theorem Kr.has {lo:Nat} {w:World} {S:gL} {k:aR} (h:Kr lo w S k):∃a,aef S k a/\jg w a k:=by
 obtain⟨aS,cS,eS,_,hS⟩:=h.apY;obtain⟨aP,cP,eP,_,hP⟩:=h.apX;obtain⟨aF,cF,eF,_,hF⟩:=oO jd (fun _=>rfl) gX h.frames;obtain⟨aL,cL,eL,_,hL⟩:=oO jc (fun _=>rfl) oc h.slots;exact⟨⟨aS,cS,aF,cF,aL,cL,aP,cP⟩,⟨eS,eF,eL,eP⟩,⟨hS,hF,hL,hP⟩⟩
theorem Kr.Mk {lo:Nat} {w:World} {S:gL} {k:aR} (h:Kr lo w S k) {g n cap:Nat} (hv:S.vF=.slice (some (Ad g 0)) n cap) {i j:Nat} (hi:i<k.frames.length) (hj:j<4) {f:lV} {u:Value} (e:jd f=(jd (aH k.frames i)).set j u) :
  Kr lo (w.setCell (Ad g (i*4+j)) u) S { k with frames:=k.frames.set i f }:=by
 have hk:aC (fun b=>b=g) w (w.setCell (Ad g (i*4+j)) u):=aC.set _ _ _ _ rfl;have hg:S.lab g=.frames:=h.lF g (by rw[hv];rfl);have z:∀{b:Nat} {c:o9},S.lab b=c->c≠.frames->¬b=g:=fun e hc x=>hc (by grind)
 have hn:n=k.frames.length:=by
  obtain⟨ao,c,e,_⟩:=bg h.frames
  grind
 subst hn;have hr:=h.frames;rw[hv] at hr;refine⟨fun b hb=>⟨(h.yL b hb).1,fD (h.yL b hb).2 hk.size⟩,hk.row h.aM (fun b hb=>z (h.lS b hb) (by simp)),fun i hi=>hk.row (h.eZ i hi) (fun b hb=>z (h.lX i hi b hb) (by simp)),?_,hk.row h.slots (fun b hb=>z (h.lL b hb) (by simp)),hk.row h.aj (fun b hb=>z (h.lP b hb) (by simp)),h.len,fun i hi=>(h.each i hi).kp hk (fun b hb=>z (h.lA i hi b hb) (by simp)) (fun b hb=>z (h.lE i hi b hb) (by simp)),h.lS,h.lX,h.lF,h.lL,h.lP,h.lA,h.lE⟩;have:=fy hr (i*4+j) u;show World.ownsRow _ lo _ 4 S.vF (k.frames.set i f).length _;rw[fC,hv,kL jd 4 (fun _=>rfl) gX f j u hj k.frames i hi e];omega
theorem Kr.afc {lo:Nat} {w:World} {S:gL} {k:aR} (h:Kr lo w S k) {g n cap:Nat} (hv:S.vL=.slice (some (Ad g 0)) n cap) {i j:Nat} (hi:i<k.slots.length) (hj:j<2) {f:pd} {u:Value} (e:jc f=(jc (bE k.slots i)).set j u) :
  Kr lo (w.setCell (Ad g (i*2+j)) u) S { k with slots:=k.slots.set i f }:=by
 have hk:aC (fun b=>b=g) w (w.setCell (Ad g (i*2+j)) u):=aC.set _ _ _ _ rfl;have hg:S.lab g=.slots:=h.lL g (by rw[hv];rfl);have z:∀{b:Nat} {c:o9},S.lab b=c->c≠.slots->¬b=g:=fun e hc x=>hc (by grind)
 have hn:n=k.slots.length:=by
  obtain⟨ao,c,e,_⟩:=bg h.slots
  grind
 subst hn;have hr:=h.slots;rw[hv] at hr;refine⟨fun b hb=>⟨(h.yL b hb).1,fD (h.yL b hb).2 hk.size⟩,hk.row h.aM (fun b hb=>z (h.lS b hb) (by simp)),fun i hi=>hk.row (h.eZ i hi) (fun b hb=>z (h.lX i hi b hb) (by simp)),hk.row h.frames (fun b hb=>z (h.lF b hb) (by simp)),?_,hk.row h.aj (fun b hb=>z (h.lP b hb) (by simp)),h.len,fun i hi=>(h.each i hi).kp hk (fun b hb=>z (h.lA i hi b hb) (by simp)) (fun b hb=>z (h.lE i hi b hb) (by simp)),h.lS,h.lX,h.lF,h.lL,h.lP,h.lA,h.lE⟩;have:=fy hr (i*2+j) u;show World.ownsRow _ lo _ 2 S.vL (k.slots.set i f).length _;rw[fC,hv,kL jc 2 (fun _=>rfl) oc f j u hj k.slots i hi e];omega
theorem Kr.turn {lo:Nat} {w w2:World} {S:gL} {k:aR} (h:Kr lo w S k) {j:Nat} (hj:j<k.aj.length) {l:Ab} {s:cZ} {lab':Nat->o9}
  (hk:aC (fun b=>S.lab b=.bf j∨S.lab b=.aj∨S.lab b=.aT j) w w2) (hrow:w2.ownsRow lo 99 3 S.vP S.L.length ((S.L.set j l).flatMap gV)) (hs:mX lo w2 l s)
  (hb:∀b,lab' b≠.no->lo<=b/\b<w2.heap.size) (hlab:∀b c,S.lab b=c->c≠.no->c≠.aT j->c≠.bf j->lab' b=c) (hA:∀b,bX l.va b->lab' b=.aT j) (hE:∀b,bX l.vp b->lab' b=.bf j) :
  Kr lo w2 ⟨lab',S.vS,S.vF,S.vL,S.vP,S.L.set j l⟩ { k with aj:=k.aj.set j s }:=by
 have z:∀{b:Nat} {c:o9},S.lab b=c->c≠.bf j->c≠.aj->c≠.aT j->¬(S.lab b=.bf j∨S.lab b=.aj∨S.lab b=.aT j):=fun e h1 h2 h3 x=>by
  grind
 have hLl:(S.L.set j l).length=S.L.length:=fC;have hl:=h.len;have at_:∀i,i<k.aj.length->fL (S.L.set j l) i=if j=i then l else fL S.L i:=fun i hi=>by
  grind [fL]
 refine⟨hb,hk.row h.aM (fun b hb=>z (h.lS b hb) (by simp) (by simp) (by simp)),fun i hi=>hk.row (h.eZ i hi) (fun b hb=>z (h.lX i hi b hb) (by simp) (by simp) (by simp)),hk.row h.frames (fun b hb=>z (h.lF b hb) (by simp) (by simp) (by simp)),hk.row h.slots (fun b hb=>z (h.lL b hb) (by simp) (by simp) (by simp)),?_,?_,?_,fun b hb=>hlab b _ (h.lS b hb) (by simp) (by simp) (by simp),fun i hi b hb=>hlab b _ (h.lX i hi b hb) (by simp) (by simp) (by simp),fun b hb=>hlab b _ (h.lF b hb) (by simp) (by simp) (by simp),fun b hb=>hlab b _ (h.lL b hb) (by simp) (by simp) (by simp),fun b hb=>hlab b _ (h.lP b hb) (by simp) (by simp) (by simp),?_,?_⟩
 · grind
 · grind
 · intro i hi;have hi:i<k.aj.length:=by grind
   show mX lo w2 (fL (S.L.set j l) i) (ak (k.aj.set j s) i);rw[at_ i hi,iI _ _ _ _ hj];by_cases c:j=i
   · grind
   · rw[au c,au c];exact(h.each i hi).kp hk (fun b hb=>z (h.lA i hi b hb) (by simp) (by simp) (by grind)) (fun b hb=>z (h.lE i hi b hb) (by grind) (by simp) (by simp))
 · grind [lA]
 grind [lE]
open Go.RowKit
variable {lo mb:Nat} {tt:TypeId} {X:List Value} {w:World} {S:gL} {k:aR}
theorem NC (h:bJ lo mb tt X w S k) {g j:Nat} {u:Value} {c:o9} (hg:S.lab g=c) (hc:c≠.head):(w.setCell (Ad g j) u).heap[mb]?=some (.cells ([S.vS,S.vF,S.vL,S.vP,I k.hand]++X).toArray tt (0,0)) :=
 mv h.head g j u (fun e=>hc (by grind [bJ.lH]))
theorem bJ.Mk (h:bJ lo mb tt X w S k) {g n cap:Nat} (hv:S.vF=.slice (some (Ad g 0)) n cap) {i j:Nat} (hi:i<k.frames.length) (hj:j<4) {f:lV} {u:Value} (e:jd f=(jd (aH k.frames i)).set j u) :
  bJ lo mb tt X (w.setCell (Ad g (i*4+j)) u) S { k with frames:=k.frames.set i f }:=⟨h.toKr.Mk hv hi hj e,NC h (h.lF g (by rw[hv];rfl)) (by simp),h.lH⟩
theorem bJ.afc (h:bJ lo mb tt X w S k) {g n cap:Nat} (hv:S.vL=.slice (some (Ad g 0)) n cap) {i j:Nat} (hi:i<k.slots.length) (hj:j<2) {f:pd} {u:Value} (e:jc f=(jc (bE k.slots i)).set j u) :
  bJ lo mb tt X (w.setCell (Ad g (i*2+j)) u) S { k with slots:=k.slots.set i f }:=⟨h.toKr.afc hv hi hj e,NC h (h.lL g (by rw[hv];rfl)) (by simp),h.lH⟩
theorem Ac (h:Kr lo w S k) {g n cap:Nat} (hv:S.vF=.slice (some (Ad g 0)) n cap) {V:World} {i:Nat} {u:Value}:cK S V S (V.setCell (Ad g i) u):=cK.set (by rw[h.lF g (by rw[hv];rfl)];simp)
theorem abR (h:Kr lo w S k) {g n cap:Nat} (hv:S.vL=.slice (some (Ad g 0)) n cap) {V:World} {i:Nat} {u:Value}:cK S V S (V.setCell (Ad g i) u):=cK.set (by rw[h.lL g (by rw[hv];rfl)];simp)
theorem bJ.aff (h:bJ lo mb tt X w S k) {g n cap:Nat} (hv:S.vF=.slice (some (Ad g 0)) n cap) {i:Nat} (hi:i<k.frames.length) (f:lV) :
  bJ lo mb tt X ((((w.setCell (Ad g (i*4)) (.string f.data)).setCell (Ad g (i*4+1)) (I f.refs)).setCell (Ad g (i*4+2)) (.bool f.jG)).setCell (Ad g (i*4+3)) (.bool f.seen)) S { k with frames:=k.frames.set i f } /\
  cK S w S ((((w.setCell (Ad g (i*4)) (.string f.data)).setCell (Ad g (i*4+1)) (I f.refs)).setCell (Ad g (i*4+2)) (.bool f.jG)).setCell (Ad g (i*4+3)) (.bool f.seen)):=by
 have h1:=h.Mk hv hi (j:=0) (by omega) (f:=⟨f.data,(aH k.frames i).refs,(aH k.frames i).jG,(aH k.frames i).seen⟩) (u:=.string f.data) rfl;have h2:=h1.Mk hv (i:=i) (by grind) (j:=1) (by omega) (f:=⟨f.data,f.refs,(aH k.frames i).jG,(aH k.frames i).seen⟩) (u:=I f.refs) (by simp only[aH,eT _ _ _ _ hi];rfl);have h3:=h2.Mk hv (i:=i) (by grind) (j:=2) (by omega) (f:=⟨f.data,f.refs,f.jG,(aH k.frames i).seen⟩) (u:=.bool f.jG) (by simp only[aH,qi,eT _ _ _ _ hi];rfl);have h4:=h3.Mk hv (i:=i) (by grind) (j:=3) (by omega) (f:=f) (u:=.bool f.seen) (by simp only[aH,qi,eT _ _ _ _ hi];rfl);simp only[qi] at h4;exact⟨h4,(((Ac h.toKr hv).trans (Ac h.toKr hv)).trans (Ac h.toKr hv)).trans (Ac h.toKr hv)⟩
theorem bJ.alC (h:bJ lo mb tt X w S k) {g n cap:Nat} (hv:S.vL=.slice (some (Ad g 0)) n cap) {i:Nat} (hi:i<k.slots.length) (f:pd) :
  bJ lo mb tt X ((w.setCell (Ad g (i*2)) (.string f.data)).setCell (Ad g (i*2+1)) (I f.refs)) S { k with slots:=k.slots.set i f } /\
  cK S w S ((w.setCell (Ad g (i*2)) (.string f.data)).setCell (Ad g (i*2+1)) (I f.refs)):=by
 have h1:=h.afc hv hi (j:=0) (by omega) (f:=⟨f.data,(bE k.slots i).refs⟩) (u:=.string f.data) rfl;have h2:=h1.afc hv (i:=i) (by grind) (j:=1) (by omega) (f:=f) (u:=I f.refs) (by simp only[bE,eT _ _ _ _ hi];rfl);simp only[qi] at h2;exact⟨h2,(abR h.toKr hv).trans (abR h.toKr hv)⟩
theorem bJ.ahs (h:bJ lo mb tt X w S k) (x:Int):bJ lo mb tt X (w.setCell (Ad mb 4) (I x)) S { k with hand:=x }/\cK S w S (w.setCell (Ad mb 4) (I x)):=by
 have hk:aC (fun b=>b=mb) w (w.setCell (Ad mb 4) (I x)):=aC.set _ _ _ _ rfl;have z:∀{b:Nat} {c:o9},S.lab b=c->c≠.head->¬b=mb:=fun e hc x=>hc (by grind [lH])
 refine⟨⟨⟨fun b hb=>⟨(h.yL b hb).1,fD (h.yL b hb).2 hk.size⟩,hk.row h.aM (fun b hb=>z (h.lS b hb) (by simp)),fun i hi=>hk.row (h.eZ i hi) (fun b hb=>z (h.lX i hi b hb) (by simp)),hk.row h.frames (fun b hb=>z (h.lF b hb) (by simp)),hk.row h.slots (fun b hb=>z (h.lL b hb) (by simp)),hk.row h.aj (fun b hb=>z (h.lP b hb) (by simp)),h.len,fun i hi=>(h.each i hi).kp hk (fun b hb=>z (h.lA i hi b hb) (by simp)) (fun b hb=>z (h.lE i hi b hb) (by simp)),h.lS,h.lX,h.lF,h.lL,h.lP,h.lA,h.lE⟩,?_,h.lH⟩,cK.set (by grind)⟩;rw[fP h.head 4 (I x)];simp
theorem bJ.turn {w2:World} (h:bJ lo mb tt X w S k) {j:Nat} (hj:j<k.aj.length) {l:Ab} {s:cZ} {lab':Nat->o9}
  (hk:aC (fun b=>S.lab b=.bf j∨S.lab b=.aj∨S.lab b=.aT j) w w2) (hrow:w2.ownsRow lo 99 3 S.vP S.L.length ((S.L.set j l).flatMap gV)) (hs:mX lo w2 l s)
  (hb:∀b,lab' b≠.no->lo<=b/\b<w2.heap.size) (hlab:∀b c,S.lab b=c->c≠.no->c≠.aT j->c≠.bf j->lab' b=c) (hA:∀b,bX l.va b->lab' b=.aT j) (hE:∀b,bX l.vp b->lab' b=.bf j) :
  bJ lo mb tt X w2 ⟨lab',S.vS,S.vF,S.vL,S.vP,S.L.set j l⟩ { k with aj:=k.aj.set j s } :=
 ⟨h.toKr.turn hj hk hrow hs hb hlab hA hE,hk.keep h.head (fun x=>by grind [lH]),hlab mb _ h.lH (by simp) (by simp) (by simp)⟩
theorem QW (L:List Ab) (j:Nat):L.set j (fL L j)=L:=by
 grind [fL,List.set_getElem_self,List.set_eq_of_length_le]
theorem bJ.afd (h:bJ lo mb tt X w S k) {j:Nat} (hj:j<k.aj.length) {g n cap:Nat} (hv:(fL S.L j).vp=.slice (some (Ad g 0)) n cap) {i c:Nat} (hi:i<(ak k.aj j).bf.length) (hc:c<3) {e:bD} {u:Value} (he:bw e=(bw (aX (ak k.aj j).bf i)).set c u) :
  bJ lo mb tt X (w.setCell (Ad g (i*3+c)) u) S { k with aj:=k.aj.set j (ek (ak k.aj j) ((ak k.aj j).bf.set i e)) }/\cK S w S (w.setCell (Ad g (i*3+c)) u):=by
 have hgl:S.lab g=.bf j:=h.lE j hj g (by rw[hv];rfl);have hk:aC (fun b=>b=g) w (w.setCell (Ad g (i*3+c)) u):=aC.set _ _ _ _ rfl;have z:∀{b:Nat} {c:o9},S.lab b=c->c≠.bf j->¬b=g:=fun e hc x=>hc (by grind)
 have hs:=h.each j hj;have hn:n=(ak k.aj j).bf.length:=by
  obtain⟨ao,c,e,_⟩:=bg hs.aQ
  grind
 subst hn;have hr:=hs.aQ;rw[hv] at hr;refine⟨?_,cK.set (by grind)⟩;have:=h.turn (w2:=w.setCell (Ad g (i*3+c)) u) hj (l:=fL S.L j) (s:=ek (ak k.aj j) ((ak k.aj j).bf.set i e)) (lab':=S.lab) (hk.mono (fun b _ e=>.inl (by grind))) (by rw[QW];exact hk.row h.aj (fun b hb=>z (h.lP b hb) (by simp))) ⟨hs.live,hk.row hs.aT (fun b hb=>z (h.lA j hj b hb) (by simp)),?_⟩ (fun b hb=>⟨(h.yL b hb).1,fD (h.yL b hb).2 hk.size⟩) (fun b c e _ _ _=>e) (fun b hb=>h.lA j hj b hb) (fun b hb=>h.lE j hj b hb)
 · simp_all [QW]
 · have r2:=fy hr (i*3+c) u;show World.ownsRow _ lo _ 3 (fL S.L j).vp ((ak k.aj j).bf.set i e).length (((ak k.aj j).bf.set i e).flatMap bw);rw[fC,hv,kL bw 3 (fun _=>rfl) gY e c u hc _ i hi he];exact r2
def Bi (S:gL) (j:Nat) (v:Value):Nat->o9:=fun b=>if v.ownBlock=some b then .bf j else S.lab b
def K4 (S:gL) (j:Nat) (v:Value):Nat->o9:=fun b=>if v.ownBlock=some b then .aT j else S.lab b
theorem bJ.aiQ {w1:World} (h:bJ lo mb tt X w S k) {j:Nat} (hj:j<k.aj.length) {v:Value} {es:List bD} {pb n cap:Nat} (hP:S.vP=.slice (some (Ad pb 0)) n cap)
  (hk:aC (fun b=>S.lab b=.bf j) w w1) (hr:w1.ownsRow lo 174 3 v es.length (es.flatMap bw)) (hat:∀b,bX v b->S.lab b=.bf j∨S.lab b=.no) :
  bJ lo mb tt X (w1.setCell (Ad pb (j*3+2)) v) ⟨Bi S j v,S.vS,S.vF,S.vL,S.vP,S.L.set j ⟨(fL S.L j).lv,(fL S.L j).va,v⟩⟩ { k with aj:=k.aj.set j (ek (ak k.aj j) es) } /\
  ((∀b,b<w.heap.size->bX v b->S.lab b=.bf j)->cK S w ⟨Bi S j v,S.vS,S.vF,S.vL,S.vP,S.L.set j ⟨(fL S.L j).lv,(fL S.L j).va,v⟩⟩ (w1.setCell (Ad pb (j*3+2)) v)):=by
 have hpl:S.lab pb=.aj:=h.lP pb (by rw[hP];rfl);have su:aC (fun b=>b=pb) w1 (w1.setCell (Ad pb (j*3+2)) v):=aC.set _ _ _ _ rfl;have hs:=h.each j hj;have hl:=h.len;have hrl:∀b,bX v b->lo<=b/\b<w1.heap.size:=fun b hb=>hr.lt b hb
 have hlab:∀b c,S.lab b=c->c≠.no->c≠.bf j->Bi S j v b=c:=fun b c e h1 h2=>by
  unfold Bi;rw[au,e];intro x;rcases hat b x with y | y
  · grind
  grind
 have hn:n=S.L.length:=by
  obtain⟨ao,c,e,_⟩:=bg h.aj
  grind
 subst hn;have hr1:=hk.row h.aj (fun b hb e=>by rw[h.lP b hb] at e;simp at e);rw[hP] at hr1;have hr2:=fy hr1 (j*3+2) v;rw[<- kL gV 3 (fun _=>rfl) xn ⟨(fL S.L j).lv,(fL S.L j).va,v⟩ 2 v (by omega) S.L j (by omega) rfl] at hr2;have hsz:=gu hk.size su.size;refine⟨h.turn hj (l:=⟨(fL S.L j).lv,(fL S.L j).va,v⟩) (s:=ek (ak k.aj j) es) (lab':=Bi S j v) ((hk.mono (D1:=fun b=>S.lab b=.bf j∨S.lab b=.aj∨S.lab b=.aT j) (fun b _ e=>.inl e)).trans su (fun b _ e=>.inr (.inl (by grind)))) (by grind) ⟨hs.live,?_,?_⟩ ?_ (fun b c e h1 _ h3=>hlab b c e h1 h3) (fun b hb=>hlab b _ (h.lA j hj b hb) (by simp) (by simp)) (fun b hb=>aB hb),fun hold=>⟨?_,?_,rfl,rfl,rfl,rfl⟩⟩
 · exact su.row (hk.row hs.aT (fun b hb e=>by rw[h.lA j hj b hb] at e;simp at e)) (fun b hb e=>by have:=h.lA j hj b hb;grind)
 · exact su.row hr (fun b hb e=>by
    subst e;rcases hat b hb with y | y <;> · grind)
 · intro b hb;unfold Bi at hb;by_cases c:v.ownBlock=some b
   · exact⟨(hrl b c).1,fD (hrl b c).2 su.size⟩
   · rw[au c] at hb;exact⟨(h.yL b hb).1,fD (h.yL b hb).2 hsz⟩
 · exact(hk.mono (fun b _ e=>by grind)).trans su (fun b _ e=>by grind)
 · intro b hb hno;show Bi S j v b=.no;unfold Bi;rw[au,hno];intro x;have:=hold b hb x
   grind
end Go.Proofs.YtlgoihmkgaaemaaGreat
