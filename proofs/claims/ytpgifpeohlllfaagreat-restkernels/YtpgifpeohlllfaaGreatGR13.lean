import Derived.Test.YtpgifpeohlllfaaGreatGR12
import Derived.Deep.RegionHeld3
set_option maxHeartbeats 20000000
set_option linter.unusedVariables false
set_option maxRecDepth 100000
set_option linter.unusedSimpArgs false
namespace Go.Proofs.YtpgifpeohlllfaaGreat
open Go.RowKit
theorem NG (k:aN) (j:Nat) (p:Int) (hR:bc k) (hj:j<k.aj.length):dO k j p=if (gY (ak k.aj j).aU p).1.kind=1 then (au k.frames (gY (ak k.aj j).aU p).1.loc.toNat).data else if (gY (ak k.aj j).aU p).1.kind=2 then (br k.slots (gY (ak k.aj j).aU p).1.loc.toNat).data else dY k.aD p (jq k j p):=by
 unfold dO gY;cases g:bD (ak k.aj j).aU p with
 | none=>rfl
 | some e =>
  have he:=(gh (hR.sp hj).kP).1 g;show(if e.kind=1 then _ else _)=if e.kind=1 then _ else if e.kind=2 then _ else _
  rcases ic hR hj he.1 with b | b
  · grind
  grind
theorem QJ (k:aN) (a:fR) (j mb:Nat) (p:Int) (ar:aZ) (w:World) (hK:gD w a k) (hR:bc k) (hj:j<k.aj.length) (hm:w.heap[mb]?=some (.cells (nu a k) 104 (0,0))) (hp:dx k j p) (hz:ar.zero=jq k j p) :
  Calls Tryz.prog 71 #[.pointer (some (Ad mb 0)),I (j:Int),I p,.agg (jU ar)] w fun e w'=>e=.returned (.string (dO k j p))/\Below w.heap.size w w':=by
 have Jz:=nU hp;have hcc:=hR.c;have ZY:=ai (NG k j p hR hj);have yT:=aT hm;obtain⟨pb,po,hao,hbl,eI⟩:=hK.aj (by omega);obtain⟨va,ap,cp,_,_,y2,_,y4,_⟩:=eI j hj;have hel:(ak k.aj j).aU.length<=1000000:=by
  have h1:=uv (hR.sp hj);have h2:=nr (ak k.aj j).bk;omega
 have c1:w.cell? (Ad mb 1)=some (.slice a.aF k.frames.length a.cF):=aB hm 1 rfl;have c2:w.cell? (Ad mb 2)=some (.slice a.aL k.slots.length a.cL):=aB hm 2 rfl;have c3:w.cell? (Ad mb 3)=some (.slice (some (Ad pb po)) k.aj.length a.cP):=(aB (v:=.slice a.aP k.aj.length a.cP) hm 3 rfl).trans (by rw[hao]);have oD:=ai (fun V (hV:Below w.heap.size w V)=>Gn (ak k.aj j).aU p j k.aj.length mb pb po a.cP ap cp V ((hV.cell (p:=(Ad mb 3)) yT).trans c3) hj ((hV.cell (p:=(Ad pb (po+j*3+2))) hbl).trans y2) (y4.below hV) hel (by omega));have qK:=ai (fun V (hV:Below w.heap.size w V)=>BV k.aD p ar.zero mb V (BN (aQ hm hV yT) hR.kP) (by omega));have ET:Hid (∀e:bG,(gY (ak k.aj j).aU p).1=e->(e.kind=1->0<=e.loc/\e.loc<(k.frames.length:Int))/\(e.kind=2->0<=e.loc/\e.loc<(k.slots.length:Int))):=fun e he=>by
  unfold gY at he;cases g:bD (ak k.aj j).aU p with
  | none =>
   rw[g] at he;have he:dW=e:=he;subst he;exact⟨fun x=>absurd x (by decide),fun x=>absurd x (by decide)⟩
  | some e2 =>
   rw[g] at he;have he:e2=e:=he;subst he;have hm2:=(gh (hR.sp hj).kP).1 g;have:=((hR.sp hj).Hf e2 hm2.1).2;omega
 have HF:=ai hK.frames;have HS:=ai hK.slots;rw[hz] at qK;obtain⟨EN,hEN⟩:=ex (gY (ak k.aj j).aU p);rw[<- hEN] at ZY oD ET;obtain⟨⟨pg,kd,lc⟩,fd⟩:=EN;unfold kE at oD;have ZK:=ai (ET.o _ rfl);obtain⟨FK,hFK⟩:=ex (dY k.aD p (jq k j p));rw[<- hFK] at ZY qK;obtain⟨PK,hPK⟩:=ex (dO k j p);rw[<- hPK] at ZY ⊢;obtain⟨f1,f2,f3,z⟩:=ar;unfold jU;simp only at ZY oD ZK qK hz ⊢;rw[<- hz] at qK;have eU:=ai ((aK w.heap.size w).alloc (aI _) (.cells #[I f1,I f2,I f3,.bool z] 47));have AB:=ai (bO w #[I f1,I f2,I f3,.bool z] 47);clear hEN hFK hPK hz hao eI y2 y4 ET hK hR hm hp hcc hel c3 hj;rcases(show kd=1∨(¬kd=1/\kd=2)∨(¬kd=1/\¬kd=2) by omega) with g | ⟨g,g2⟩ | ⟨g,g2⟩
 · rw[aR g] at ZY;have kb1:(kd==1)=true:=by grind
   obtain⟨l0,l1⟩:=ZK.o.1 g;obtain⟨i,rfl⟩:∃i:Nat,lc=(i:Int):=⟨lc.toNat,by omega⟩;rw[jn] at ZY;obtain⟨fb,fo,hfo,hfl,EP⟩:=HF.o (by omega);have x0:=EP i (by omega) 0 (by omega);rw[hfo] at c1;have x0:w.cell? (Ad fb (fo+i*4))=some (.string PK):=by rw[ZY.o];exact x0
   clear g HF HS qK ZK EP;go_enter Tryz.func71,Tryz.ntmps71;go_wp2_with (go_at_call 118;refine(oD.o _ eU.o).mono ?_;rintro e w1 ⟨rfl,hb1⟩;have dz:=ai (cd eU.o hb1);have fV:=ai (dz.o.alloc dz.o.size (.cells #[I pg,I kd,I (i:Int)] 45));have d1:(w1.alloc (.cells #[I pg,I kd,I (i:Int)] 45)).cell? (Ad mb 1)=some (.slice (some (Ad fb fo)) k.frames.length a.cF):=(fV.o.cell (p:=(Ad mb 1)) yT).trans c1;clear hb1)
   have xA:=(fV.o.cell (p:=(Ad fb (fo+i*4))) hfl).trans x0;go_region;go_wp2;go_ret;exact⟨rfl,fV.o.drew⟩
 · rw[bf g,aR g2] at ZY;have kb1:(kd==1)=false:=by grind
   have kb2:(kd==2)=true:=by grind
   obtain⟨l0,l1⟩:=ZK.o.2 g2;obtain⟨i,rfl⟩:∃i:Nat,lc=(i:Int):=⟨lc.toNat,by omega⟩;rw[jn] at ZY;obtain⟨fb,fo,hfo,hfl,EP⟩:=HS.o (by omega);have x0:=EP i (by omega) 0 (by omega);rw[hfo] at c2;have x0:w.cell? (Ad fb (fo+i*2))=some (.string PK):=by rw[ZY.o];exact x0
   clear g g2 HF HS qK ZK EP;go_enter Tryz.func71,Tryz.ntmps71;go_wp2_with (go_at_call 118;refine(oD.o _ eU.o).mono ?_;rintro e w1 ⟨rfl,hb1⟩;have dz:=ai (cd eU.o hb1);have fV:=ai (dz.o.alloc dz.o.size (.cells #[I pg,I kd,I (i:Int)] 45));have d2:(w1.alloc (.cells #[I pg,I kd,I (i:Int)] 45)).cell? (Ad mb 2)=some (.slice (some (Ad fb fo)) k.slots.length a.cL):=(fV.o.cell (p:=(Ad mb 2)) yT).trans c2;clear hb1)
   have xA:=(fV.o.cell (p:=(Ad fb (fo+i*2))) hfl).trans x0;go_region;go_wp2;go_ret;exact⟨rfl,fV.o.drew⟩
 · rw[bf g,bf g2] at ZY;have kb1:(kd==1)=false:=by grind
   have kb2:(kd==2)=false:=by grind
   clear g g2 HF HS ZK;go_enter Tryz.func71,Tryz.ntmps71;go_wp2_with (first | (go_at_call 118;refine(oD.o _ eU.o).mono ?_;rintro e w1 ⟨rfl,hb1⟩;have dz:=ai (cd eU.o hb1);have fV:=ai (dz.o.alloc dz.o.size (.cells #[I pg,I kd,I lc] 45));have A0:=ai (bM (aQ AB.o hb1 (aT AB.o)) (.cells #[I pg,I kd,I lc] 45));have a3:(w1.alloc (.cells #[I pg,I kd,I lc] 45)).cell? (Ad w.heap.size 3)=some (.bool z):=aB A0.o 3 rfl;clear hb1) | (go_at_call 119;refine(qK.o _ fV.o).mono ?_;rintro e w2 ⟨rfl,hb2⟩;have gj:=ai (cd fV.o hb2);clear hb2))
   go_ret;exact⟨dQ (fun d=>Ending.returned (.string d)) ZY.o.symm,gj.o⟩
open Go.RowKit
def sI (k:aN) (sp p:Int):ByteArray×Int:=if dV k sp=0 then (if (bh (ak k.aj sp.toNat).bk p).2 then (dO k sp.toNat p,0) else (⟨#[]⟩,6)) else (⟨#[]⟩,dV k sp)
theorem NH {k:aN} {sp:Int} (h:dV k sp=0):eZ k=0/\0<=sp/\sp<(k.aj.length:Int)/\(ak k.aj sp.toNat).live=true:=by
 grind [dV]
theorem TL (k:aN) (a:fR) (sp p:Int) (w:World) (hK:gD w a k) (hF:iI k) (hsp:eY sp):Calls Tryz.prog 30 #[.agg (bg a k),I sp,I p] w fun e w'=>e=.returned (.tuple #[.string (sI k sp p).1,I (sI k sp p).2])/\Below w.heap.size w w':=by
 have HO:=ai (fun V (hV:Below w.heap.size w V)=>xU k a sp V (hK.below hV) hF hsp);have eU:=ai ((aK w.heap.size w).alloc (aI _) (.cells (bg a k) 27));by_cases hl:dV k sp=0
 · have hpt:=NH hl;have hR:=(nJ k).1 hpt.1;obtain⟨j,rfl⟩:∃j:Nat,sp=(j:Int):=⟨sp.toNat,by omega⟩;have hj:j<k.aj.length:=by omega
   have Dk:Hid (sI k (j:Int) p=if (bh (ak k.aj j).bk p).2 then (dO k j p,0) else (⟨#[]⟩,6)):=by show _=_;grind [sI]
   have AZ:Hid (∀V,Below w.heap.size w V->Calls Tryz.prog 69 #[.agg (bg a k),I (j:Int)] V fun e w'=>∃mb,e=.returned (.tuple #[.pointer (some (Ad mb 0)),I 0])/\w.heap.size<=mb/\w'.heap[mb]?=some (.cells (nu a k) 104 (0,0))/\Below V.heap.size V w'):=fun V hV=>(HO.o V hV).mono fun e w' ⟨hb,h⟩=>by
    rcases h with⟨_,mb,h1,h2,h3⟩ | ⟨h1,_⟩
    · exact⟨mb,h1,gy hV.size h2,h3,hb⟩
    omega
   have hcc:=hR.c;obtain⟨pb,po,hao,hbl,eI⟩:=hK.aj (by omega);obtain⟨va,ap,cp,_,y1,_,y3,_,_⟩:=eI j hj;obtain⟨aa,ca,Av,_⟩:=id y3;subst Av;have GR:=ai (fun V (hV:Below w.heap.size w V)=>uN (ak k.aj j).bk _ p V (y3.below hV) (hF.sp j hj).bk);have HHO:=ai (fun mb V (hV:Below w.heap.size w V) (hm:V.heap[mb]?=some (.cells (nu a k) 104 (0,0))) (hp:dx k j p)=>QJ k a j mb p (bh (ak k.aj j).bk p).1 V (hK.below hV) hR hj hm hp rfl);have YC:Hid (∀(V:World) mb,V.heap[mb]?=some (.cells (nu a k) 104 (0,0))->V.cell? (Ad mb 3)=some (.slice (some (Ad pb po)) k.aj.length a.cP)):=fun V mb h=>(aB (v:=.slice a.aP k.aj.length a.cP) h 3 rfl).trans (by rw[hao])
   have HMP:Hid ((bh (ak k.aj j).bk p).2=true->dx k j p):=fun h=>h
   obtain⟨⟨⟨f1,f2,f3,z⟩,ok⟩,hFN⟩:∃F,F=bh (ak k.aj j).bk p:=⟨_,rfl⟩;rw[<- hFN] at Dk GR HHO HMP;unfold jU at GR HHO;simp only at Dk GR HHO HMP;have Sw:(j:Int)<(k.aj.length:Int):=by omega
   have SY:(0:Int)<=(j:Int):=by omega
   clear hFN HO hl hpt hR hK hF hsp hao eI y3 hcc;obtain⟨PR,hPR⟩:=ex (sI k (j:Int) p);rw[<- hPR] at Dk ⊢;clear hPR;unfold bg at AZ eU ⊢;cases ok with
   | false =>
    have ac5:Hid (PR=(⟨#[]⟩,6)):=Dk;clear Dk HHO HMP;go_enter Tryz.func30,Tryz.ntmps30;go_wp2_with (first | (go_at_call 69;refine(AZ.o _ eU.o).mono ?_;rintro e w1 ⟨mb,rfl,rZ,hm2,hb1⟩;have HMB:=ai hm2;have dz:=ai (cd eU.o hb1);have c3:=YC.o w1 mb hm2;have c1:=(dz.o.cell (p:=(Ad pb (po+j*3+1))) hbl).trans y1;clear hb1 hm2) | (go_at_call 70;refine(GR.o _ dz.o).mono ?_;rintro e w2 ⟨rfl,hb2⟩;have gj:=ai (cd dz.o hb2);have fV:=ai (gj.o.alloc gj.o.size (.cells #[I f1,I f2,I f3,.bool z] 47));clear hb2))
    go_ret2
    rw[ac5.o];exact⟨rfl,fV.o⟩
   | true =>
    have ac5:Hid (PR=(dO k j p,0)):=Dk;clear Dk;obtain⟨PK,hPK⟩:=ex (dO k j p);rw[<- hPK] at HHO ac5;clear hPK;go_enter Tryz.func30,Tryz.ntmps30;go_wp2_with (first | (go_at_call 69;refine(AZ.o _ eU.o).mono ?_;rintro e w1 ⟨mb,rfl,rZ,hm2,hb1⟩;have HMB:=ai hm2;have dz:=ai (cd eU.o hb1);have c3:=YC.o w1 mb hm2;have c1:=(dz.o.cell (p:=(Ad pb (po+j*3+1))) hbl).trans y1;clear hb1 hm2) | (go_at_call 70;refine(GR.o _ dz.o).mono ?_;rintro e w2 ⟨rfl,hb2⟩;have gj:=ai (cd dz.o hb2);have fV:=ai (gj.o.alloc gj.o.size (.cells #[I f1,I f2,I f3,.bool z] 47));have MA:=ai (bM (aQ HMB.o hb2 (aT HMB.o)) (.cells #[I f1,I f2,I f3,.bool z] 47));clear hb2) | (go_at_call 71;refine(HHO.o mb _ fV.o MA.o (HMP.o trivial)).mono ?_;rintro e w3 ⟨rfl,hb3⟩;have kJ:=ai (cd fV.o hb3);clear hb3))
    go_ret2
    rw[ac5.o];exact⟨rfl,kJ.o⟩
 · have AZ:Hid (∀V,Below w.heap.size w V->Calls Tryz.prog 69 #[.agg (bg a k),I sp] V fun e w'=>e=.returned (.tuple #[.pointer none,I (dV k sp)])/\Below V.heap.size V w'):=fun V hV=>(HO.o V hV).mono fun e w' ⟨hb,h⟩=>by
    grind
   have Dk:Hid (sI k sp p=(⟨#[]⟩,dV k sp)):=by show _=_;grind [sI]
   obtain⟨PR,hPR⟩:=ex (sI k sp p);rw[<- hPR] at Dk ⊢;obtain⟨C,hC⟩:=ex (dV k sp);rw[<- hC] at Dk AZ hl;have cb:(C != 0)=true:=by grind
   clear hPR hC HO hK hF hsp hl;unfold bg at AZ eU ⊢;go_enter Tryz.func30,Tryz.ntmps30;go_wp2_with (go_at_call 69;refine(AZ.o _ eU.o).mono ?_;rintro e w1 ⟨rfl,hb1⟩;have dz:=ai (cd eU.o hb1);clear hb1)
   go_ret2
   rw[Dk.o];exact⟨rfl,dz.o⟩
open Go.RowKit
def dN (n:Int):List Value:=[I n]
def zV (l:List Int) (i:Nat):Int:=l.getD i 0
theorem NI (l:List Int) (x:Int) (ao:Option Addr) (cap:Nat) (w:World) (h:cJ dN 1 0 w ao l) (hl:l.length<=1000000) :
  Calls Tryz.prog 139 #[.slice ao l.length cap,I x] w fun e w'=>w'=w/\((e=.returned (I (-1))/\∀j,j<l.length->zV l j≠x)∨∃i:Nat,i<l.length/\e=.returned (I (i:Int))/\zV l i=x):=by
 have HH:=ai h;clear h;go_enter Tryz.func139,Tryz.ntmps139;go_wp2;go_loopw [8] (fun iv wr=>∃k:Nat,k<=l.length/\iv=I (k:Int)/\(∀j,j<k->zV l j≠x)/\wr=w) (fun iv _=>l.length-(intOf iv).toNat)
 case atStart=>grind
 case round =>
  obtain⟨k,hk,rfl,hno,rfl⟩:=hrel;have pK:=ai hno;clear hno;by_cases hlt:k<l.length
  · have JC:(k:Int)<(l.length:Int):=by omega
    obtain⟨eb,eo,hao,hbl,eI⟩:=HH.o (by omega);subst hao;have y0:=eI k hlt 0 (by omega);rw[fW,J9] at y0;obtain⟨E,hE⟩:=ex (zV l k);have x0:wr.cell? (Ad eb (eo+k))=some (I E):=by rw[hE];exact y0
    have HE:=ai hE;clear hE y0 eI;by_cases c:x=E
    · have cb:(x==E)=true:=by grind
      have HC:=ai c;clear c;go_wp2;go_ret;exact⟨rfl,.inr ⟨k,hlt,rfl,by rw[<- HE.o,HC.o]⟩⟩
    · have cb:(x==E)=false:=by grind
      have HC:=ai c;clear c;go_wp2
      grind [intOf,Hid.o]
  · obtain rfl:k=l.length:=by omega
    go_wp2;go_ret;exact⟨rfl,.inl ⟨rfl,pK.o⟩⟩
theorem I2 (l:List Int) (x:Int):x∈l↔∃i,i<l.length/\zV l i=x:=⟨fun h=>gU 0 h,fun ⟨i,hi,e⟩=>e ▸ jc hi⟩
theorem tI (l:List Int) (x:Int) (ao:Option Addr) (cap:Nat) (w:World) (h:cJ dN 1 0 w ao l) (hl:l.length<=1000000) :
  Calls Tryz.prog 95 #[.slice ao l.length cap,I x] w fun e w'=>e=.returned (.bool (decide (x∈l)))/\w'=w:=by
 have HI:=ai (NI l x ao cap w h hl);clear h;by_cases c:x∈l
 · have Z1:Hid (Calls Tryz.prog 139 #[.slice ao l.length cap,I x] w fun e w'=>∃i:Nat,i<l.length/\e=.returned (I (i:Int))/\w'=w):=HI.o.mono fun e w' ⟨hw,h⟩=>by
    grind [I2]
   rw[dI c];clear HI c;go_enter Tryz.func95,Tryz.ntmps95;go_wp2_with (go_at_call 139;refine Z1.o.mono ?_;rintro e w1 ⟨i,hi,rfl,rfl⟩;have hi0:(0:Int)<=(i:Int):=(by omega))
   go_ret
   simp_all
 · have Z1:Hid (Calls Tryz.prog 139 #[.slice ao l.length cap,I x] w fun e w'=>e=.returned (I (-1))/\w'=w):=HI.o.mono fun e w' ⟨hw,h⟩=>by
    grind [I2]
   rw[dJ c];clear HI c;go_enter Tryz.func95,Tryz.ntmps95;go_wp2_with (go_at_call 139;refine Z1.o.mono ?_;rintro e w1 ⟨rfl,rfl⟩)
   go_ret
   simp_all
open Go.RowKit
structure wO where
 lv:Bool
 va:Value
 vp:Value
def eT (l:wO):List Value:=[.bool l.lv,l.va,l.vp]
def LO:wO:=⟨false,Nl,Nl⟩
def fZ (l:List wO) (k:Nat):wO:=l.getD k LO
def bQ (v:Value) (b:Nat):Prop:=v.ownBlock=some b
structure kF (lo:Nat) (w:World) (l:wO) (s:cO):Prop where
 live:l.lv=s.live
 bk:gQ lo w l.va s.bk
 bC:w.ownsRow lo 45 3 l.vp s.aU.length (s.aU.flatMap bj)
theorem kF.kp {lo:Nat} {w w':World} {D:Nat->Prop} {l:wO} {s:cO} (h:kF lo w l s) (hk:aM D w w') (ha:∀b,bQ l.va b->¬D b) (hp:∀b,bQ l.vp b->¬D b):kF lo w' l s:=⟨h.live,hk.row h.bk ha,hk.row h.bC hp⟩
theorem kF.mono {lo lo':Nat} {w:World} {l:wO} {s:cO} (h:kF lo w l s) (hl:lo'<=lo):kF lo' w l s:=⟨h.live,h.bk.mono hl,mr h.bC (fun g hg=>gy hl (h.bC.lt g hg).1)⟩
theorem vJ {α:Type} {w:World} (f:α->List Value) (k:Nat) (hf:∀x,(f x).length=k) (d:α) (l:List α) (b off:Nat) (h:∀i,i<l.length->∀j,j<k->w.cell? (Ad b (off+i*k+j))=(f (l.getD i d))[j]?):kj w (some (Ad b off)) l.length (l.flatMap f):=fun hm=>by
 refine⟨_,rfl,fun j u hu=>?_⟩;have hlt:j<l.length*k:=by
  grind [eG]
 have hk:0<k:=by
  grind
 have e:j=j/k*k+j%k:=by grind [Nat.div_add_mod]
 have h1:j/k<l.length:=(Nat.div_lt_iff_lt_mul hk).2 hlt
 grind [Nat.mod_lt,CI,Addr.add_lit]
theorem DL {w:World} {ao:Option Addr} {n c:Nat} {l:List aZ} (h:fu w (.slice ao n c) l):n=l.length/\kj w ao n (bZ l):=by
 obtain⟨ao',cap,e,h⟩:=h;injection e with e1 e2 e3;subst e1 e2 e3;refine⟨rfl,fun hm=>?_⟩;rcases h with h | ⟨b,off,rfl,hl⟩
 · grind
 · have:=vJ (w:=w) mU 4 (fun _=>rfl) rM l b off (fun i hi j hj=>by
    obtain⟨c0,c1,c2,c3⟩:=hl i hi
    match j,hj with
    | 0,_=>exact c0
    | 1,_=>exact c1
    | 2,_=>exact c2
    | 3,_=>exact c3)
   have e:bZ l=l.flatMap mU:=by
    clear this hl hm;induction l with
    | nil=>rfl
    | cons a r ih=>rw[mS,<- ih];rfl
   rw[e];exact this hm
theorem NL {w:World} {ap:Option Addr} {l:List bG} (h:cJ bj 3 dW w ap l):kj w ap l.length (l.flatMap bj):=fun hm=>by
 obtain⟨b,off,rfl,hb,hl⟩:=h hm;exact vJ (w:=w) bj 3 (fun _=>rfl) dW l b off (fun i hi j hj=>hl i hi j hj) hm
theorem qp:∀(l:List bG),∀u∈l.flatMap bj,u.oneCell'=true:=fun l u hu=>by
 obtain⟨y,_,hy⟩:=ua.1 hu;simp[bj] at hy;rcases hy with rfl | rfl | rfl <;> rfl
def TU (w:World) (s:cO) (e:Ending) (w':World):Prop:=∃va vp,e=.returned (.agg #[.bool s.live,va,vp])/\kF w.heap.size w' ⟨s.live,va,vp⟩ s/\(∀b,bQ vp b->¬bQ va b)/\Below w.heap.size w w'
theorem DK (s:cO) (aa ap:Option Addr) (na ca cp:Nat) (w:World) (ha:fu w (.slice aa na ca) s.bk) (hp:cJ bj 3 dW w ap s.aU) (Ax:s.bk.length<=1000000) (Ee:s.aU.length<=1000000) :
  Calls Tryz.prog 86 #[.agg #[.bool s.live,.slice aa na ca,.slice ap s.aU.length cp]] w (TU w s):=by
 obtain⟨hn,hfa⟩:=DL ha;have xx:=ai hfa;have A3:=ai (NL hp);obtain⟨lv,pH,pgs⟩:=s;simp only at hn xx A3 Ax Ee ⊢;subst hn;have Pr:=ai (qI pH);have SH:=ai (eG bj 3 (fun _=>rfl) pgs);have H1A:=ai (oH pH);have H1P:=ai (qp pgs);have cV:Hid (∀va vp (w':World),gQ w.heap.size w' va pH->w'.ownsRow w.heap.size 45 3 vp pgs.length (pgs.flatMap bj)->(∀b,bQ vp b->¬bQ va b)->Below w.heap.size w w'->TU w ⟨lv,pH,pgs⟩ (.returned (.agg #[.bool lv,va,vp])) w'):=fun va vp w' h1 h2 h3 h4=>⟨va,vp,rfl,⟨rfl,h1,h2⟩,h3,h4⟩
 obtain⟨XA,hXA⟩:=ex (bZ pH);obtain⟨XP,hXP⟩:=ex (pgs.flatMap bj);unfold gQ at cV;rw[<- hXA] at xx Pr H1A cV;rw[<- hXP] at A3 SH H1P cV;obtain⟨na,ahm⟩:=ex pH.length;obtain⟨np,YO⟩:=ex pgs.length;rw[<- ahm] at xx Pr cV Ax ⊢;rw[<- YO] at A3 SH cV Ee ⊢;clear hfa ha hp hXA hXP ahm YO;have eU:=ai (((aK w.heap.size w).alloc (aI _) (.cells #[.bool lv,.slice aa na ca,.slice ap np cp] 43)).alloc (by simp) (.cells #[.bool false,Nl,Nl] 43));have X0:=ai (bM (bO w #[.bool lv,.slice aa na ca,.slice ap np cp] 43) (.cells #[.bool false,Nl,Nl] 43));have Y0:Hid (((w.alloc (.cells #[.bool lv,.slice aa na ca,.slice ap np cp] 43)).alloc (.cells #[.bool false,Nl,Nl] 43)).heap[w.heap.size+1]?=some (.cells #[.bool false,Nl,Nl] 43 (0,0))):=by
  grind [World.alloc]
 go_enter Tryz.func86,Tryz.ntmps86;go_wp2;obtain⟨WA,jG⟩:=ex ((w.alloc (.cells #[.bool lv,.slice aa na ca,.slice ap np cp] 43)).alloc (.cells #[.bool false,Nl,Nl] 43));rw[<- jG] at eU X0 Y0 ⊢;clear jG;have Sa:=ai eU.o;obtain⟨xb,Su⟩:=ex w.heap.size;rw[<- Su] at X0 Y0 eU cV ⊢;have Yz:=ai Su;clear Su;have HS:Hid (∀V,Below WA.heap.size WA V->V.cell? (Ad xb 0)=some (.bool lv)/\V.cell? (Ad xb 1)=some (.slice aa na ca)/\V.cell? (Ad xb 2)=some (.slice ap np cp)):=fun V hb=>by
  grind [aQ,aB,Hid.o]
 have Xw:Hid (∀V,Below WA.heap.size WA V->Calls Tryz.prog 129 #[.slice aa na ca] V fun e w'=>∃a c,e=.returned (.slice a na c)/\w'.ownsRow V.heap.size 47 4 (.slice a na c) na XA/\Below V.heap.size V w'):=fun V hV=>(XH aa na ca XA V Pr.o (xx.o.below (Sa.o.trans (hV.mono Sa.o.size))) H1A.o Ax).mono fun e w' ⟨v,h1,h2,h3⟩=>by
   obtain⟨a,c,rfl,_⟩:=aY h2
   grind
 have Z3:Hid (∀V,Below WA.heap.size WA V->Calls Tryz.prog 130 #[.slice ap np cp] V fun e w'=>∃a c,e=.returned (.slice a np c)/\w'.ownsRow V.heap.size 45 3 (.slice a np c) np XP/\Below V.heap.size V w'):=fun V hV=>(XG ap np cp XP V SH.o (A3.o.below (Sa.o.trans (hV.mono Sa.o.size))) H1P.o Ee).mono fun e w' ⟨v,h1,h2,h3⟩=>by
   obtain⟨a,c,rfl,_⟩:=aY h2
   grind
 have HSY:Hid (∀V:World,(V.cell? (Ad xb 0)=some (.bool lv)/\V.cell? (Ad xb 1)=some (.slice aa na ca)/\V.cell? (Ad xb 2)=some (.slice ap np cp))->∀v0 v1 v2,(((V.setCell (Ad (xb+1) 0) v0).setCell (Ad (xb+1) 1) v1).setCell (Ad (xb+1) 2) v2).cell? (Ad xb 0)=some (.bool lv)/\(((V.setCell (Ad (xb+1) 0) v0).setCell (Ad (xb+1) 1) v1).setCell (Ad (xb+1) 2) v2).cell? (Ad xb 1)=some (.slice aa na ca)/\(((V.setCell (Ad (xb+1) 0) v0).setCell (Ad (xb+1) 1) v1).setCell (Ad (xb+1) 2) v2).cell? (Ad xb 2)=some (.slice ap np cp)):=fun V ⟨h0,h1,h2⟩ v0 v1 v2=>by
  have hne:xb≠xb+1:=by omega
  rw[eQ _ _ _ _ _ _ hne,eQ _ _ _ _ _ _ hne,eQ _ _ _ _ _ _ hne,eQ _ _ _ _ _ _ hne,eQ _ _ _ _ _ _ hne,eQ _ _ _ _ _ _ hne,eQ _ _ _ _ _ _ hne,eQ _ _ _ _ _ _ hne,eQ _ _ _ _ _ _ hne];omega
 have pL:=ai (aK WA.heap.size WA).drew;have gu:=ai (HS.o _ pL.o)
 go_region_held3 (fun V=>V.cell? (Ad xb 0)=some (.bool lv)/\V.cell? (Ad xb 1)=some (.slice aa na ca)/\V.cell? (Ad xb 2)=some (.slice ap np cp)) (first | exact oN.o | exact lR.o | exact gu.o | exact HSX.o _ _ _)
  (first
   | (go_at_call 129;refine(Xw.o _ pL.o).mono ?_;rintro e w2 ⟨a2,c2,rfl,hr2,hb2⟩;have qa:=ai (pL.o.trans (hb2.mono pL.o.size));have lR:=ai (HS.o _ qa.o);have Hh:=ai hr2;clear hb2 hr2)
   | (go_at_call 130;refine(Z3.o _ qa.o).mono ?_;rintro e w3 ⟨a3,c3,rfl,hr3,hb3⟩;have p9:=ai (qa.o.trans (hb3.mono qa.o.size));have oN:=ai (HS.o _ p9.o);have JY:=ai hr3;have kJ:=ai hb3;have y0:w3.cell? (Ad (xb+1) 0)=some (.bool false):=aB (aQ Y0.o p9.o (aT Y0.o)) 0 rfl;have z0:w3.frozen? (Ad (xb+1) 0)=false:=aO (aQ Y0.o p9.o (aT Y0.o)) 0;have y1:w3.cell? (Ad (xb+1) 1)=some Nl:=aB (aQ Y0.o p9.o (aT Y0.o)) 1 rfl;have z1:w3.frozen? (Ad (xb+1) 1)=false:=aO (aQ Y0.o p9.o (aT Y0.o)) 1;have y2:w3.cell? (Ad (xb+1) 2)=some Nl:=aB (aQ Y0.o p9.o (aT Y0.o)) 2 rfl;have z2:w3.frozen? (Ad (xb+1) 2)=false:=aO (aQ Y0.o p9.o (aT Y0.o)) 2;have HSX:=ai (fun v0 v1 v2=>HSY.o w3 oN.o v0 v1 v2);clear hb3 hr3))
 all_goals clear HSX HSY HS gu lR oN Xw Z3
 all_goals go_wp2
 · refine cm (v:=.agg #[.bool lv,.slice a2 na c2,.slice a3 np c3]) (by simp[results,Tryz.results86,go_sem,y0,y1,y2]) rfl ?_;have k3:aM (fun b=>b=xb+1) w3 _:=tR w3 (xb+1) 0 1 2 (.bool lv) (.slice a2 na c2) (.slice a3 np c3) rfl;have l1:=aT Y0.o;have l3:=qa.o.size;have hx:=Yz.o;have e2:∀g,(Value.slice a2 na c2).ownBlock=some g->WA.heap.size<=g/\g<w2.heap.size:=fun g hg=>Hh.o.lt g hg
   have e3:∀g,(Value.slice a3 np c3).ownBlock=some g->w2.heap.size<=g/\g<w3.heap.size:=fun g hg=>JY.o.lt g hg
   have r2:=(aM.cH (D:=fun _=>False) kJ.o).row Hh.o (fun _ _ g=>g);refine cV.o _ _ _ (k3.row (mr r2 (fun g hg=>by grind)) (fun g hg e=>by grind)) (k3.row (mr JY.o (fun g hg=>by grind)) (fun g hg e=>by grind)) (fun b h1 h2=>by have:=e2 b h2;have:=e3 b h1;omega) ?_;exact aM.below (eU.o.trans (p9.o.mono (by omega))) k3 (by have:=p9.o.size;omega) (fun b e=>by omega)
open Go.RowKit
def fN (s:bR):List Value:=[I s.page,.string s.data,.slice s.ao s.cM.length s.cap]
def gZ (f:kW):List Value:=[I f.off,.string f.bytes]
def vd (s:bR):Value:=.slice s.ao s.cM.length s.cap
inductive jO where
 | no | head | frames | slots | aj | aD
 | bk (i:Nat)
 | aU (i:Nat)
 | cM (i:Nat)
structure dE where
 lab:Nat->jO
 vS:Value
 vF:Value
 vL:Value
 vP:Value
 L:List wO
structure Kr (lo:Nat) (w:World) (S:dE) (k:aN):Prop where
 rV:∀b,S.lab b≠.no->lo<=b/\b<w.heap.size
 aD:w.ownsRow lo 50 3 S.vS k.aD.length (k.aD.flatMap fN)
 cM:∀i,i<k.aD.length->w.ownsRow lo 52 2 (vd (aV k.aD i)) (aV k.aD i).cM.length ((aV k.aD i).cM.flatMap gZ)
 frames:w.ownsRow lo 40 4 S.vF k.frames.length (k.frames.flatMap fB)
 slots:w.ownsRow lo 86 2 S.vL k.slots.length (k.slots.flatMap fA)
 aj:w.ownsRow lo 43 3 S.vP S.L.length (S.L.flatMap eT)
 len:S.L.length=k.aj.length
 each:∀i,i<k.aj.length->kF lo w (fZ S.L i) (ak k.aj i)
 lS:∀b,bQ S.vS b->S.lab b=.aD
 lX:∀i,i<k.aD.length->∀b,bQ (vd (aV k.aD i)) b->S.lab b=.cM i
 lF:∀b,bQ S.vF b->S.lab b=.frames
 lL:∀b,bQ S.vL b->S.lab b=.slots
 lP:∀b,bQ S.vP b->S.lab b=.aj
 lA:∀i,i<k.aj.length->∀b,bQ (fZ S.L i).va b->S.lab b=.bk i
 lE:∀i,i<k.aj.length->∀b,bQ (fZ S.L i).vp b->S.lab b=.aU i
structure bu (lo mb:Nat) (tt:TypeId) (X:List Value) (w:World) (S:dE) (k:aN):Prop extends Kr lo w S k where
 head:w.heap[mb]?=some (.cells ([S.vS,S.vF,S.vL,S.vP,I k.hand]++X).toArray tt (0,0))
 lH:S.lab mb=.head
structure bU (S:dE) (w:World) (S':dE) (w':World):Prop where
 kp:aM (fun b=>S.lab b≠.no) w w'
 no:∀b,b<w.heap.size->S.lab b=.no->S'.lab b=.no
 eS:S'.vS=S.vS
 eF:S'.vF=S.vF
 eL:S'.vL=S.vL
 eP:S'.vP=S.vP
theorem bU.refl (S:dE) (w:World):bU S w S w:=⟨aM.refl _ _,fun _ _ h=>h,rfl,rfl,rfl,rfl⟩
theorem bU.trans {S S1 S2:dE} {w w1 w2:World} (h:bU S w S1 w1) (g:bU S1 w1 S2 w2):bU S w S2 w2 :=
 ⟨⟨g.kp.os.trans h.kp.os,g.kp.tape.trans h.kp.tape,g.kp.output.trans h.kp.output,gy h.kp.size g.kp.size,fun b hb hn=>by
  have hb1:=iH hb h.kp.size;have hn0:S.lab b=.no:=xE.1 hn;have hn1:=h.no b hb hn0;exact(g.kp.block b hb1 (fun x=>x hn1)).trans (h.kp.block b hb hn)⟩,fun b hb hn=>g.no b (iH hb h.kp.size) (h.no b hb hn),g.eS.trans h.eS,g.eF.trans h.eF,g.eL.trans h.eL,g.eP.trans h.eP⟩
theorem bU.below {S:dE} {w w':World} (h:Below w.heap.size w w'):bU S w S w':=⟨aM.cH h,fun _ _ h=>h,rfl,rfl,rfl,rfl⟩
theorem bU.set {S:dE} {w:World} {g j:Nat} {u:Value} (h:S.lab g≠.no):bU S w S (w.setCell (Ad g j) u):=⟨aM.set _ _ _ _ h,fun _ _ h=>h,rfl,rfl,rfl,rfl⟩
theorem bU.keep {S S':dE} {w w':World} {b:Nat} {o:Obj} (h:bU S w S' w') (hb:w.heap[b]?=some o) (hn:S.lab b=.no):w'.heap[b]?=some o:=h.kp.keep hb (fun x=>x hn)
theorem Kr.kp {lo:Nat} {w w':World} {S:dE} {k:aN} {E:Nat->Prop} (h:Kr lo w S k) (hk:aM E w w') (he:∀b,S.lab b≠.no->¬E b):Kr lo w' S k:=by
 have z:∀{b:Nat} {c:jO},S.lab b=c->c≠.no->¬E b:=fun e hc=>he _ (by grind)
 exact⟨fun b hb=>⟨(h.rV b hb).1,iH (h.rV b hb).2 hk.size⟩,hk.row h.aD (fun b hb=>z (h.lS b hb) (by simp)),fun i hi=>hk.row (h.cM i hi) (fun b hb=>z (h.lX i hi b hb) (by simp)),hk.row h.frames (fun b hb=>z (h.lF b hb) (by simp)),hk.row h.slots (fun b hb=>z (h.lL b hb) (by simp)),hk.row h.aj (fun b hb=>z (h.lP b hb) (by simp)),h.len,fun i hi=>(h.each i hi).kp hk (fun b hb=>z (h.lA i hi b hb) (by simp)) (fun b hb=>z (h.lE i hi b hb) (by simp)),h.lS,h.lX,h.lF,h.lL,h.lP,h.lA,h.lE⟩
theorem Kr.below {lo:Nat} {w w':World} {S:dE} {k:aN} (h:Kr lo w S k) (hb:Below w.heap.size w w'):Kr lo w' S k:=h.kp (aM.cH (D:=fun _=>False) hb) (fun _ _ g=>g)
theorem Kr.mono {lo lo':Nat} {w:World} {S:dE} {k:aN} (h:Kr lo w S k) (hl:lo'<=lo):Kr lo' w S k:=by
 have z:∀{e:TypeId} {n m:Nat} {v:Value} {xs:List Value},w.ownsRow lo e n v m xs->w.ownsRow lo' e n v m xs:=fun hr=>mr hr (fun g hg=>gy hl (hr.lt g hg).1)
 exact⟨fun b hb=>⟨gy hl (h.rV b hb).1,(h.rV b hb).2⟩,z h.aD,fun i hi=>z (h.cM i hi),z h.frames,z h.slots,z h.aj,h.len,fun i hi=>(h.each i hi).mono hl,h.lS,h.lX,h.lF,h.lL,h.lP,h.lA,h.lE⟩
theorem bu.below {lo mb:Nat} {tt:TypeId} {X:List Value} {w w':World} {S:dE} {k:aN} (h:bu lo mb tt X w S k) (hb:Below w.heap.size w w'):bu lo mb tt X w' S k:=⟨h.toKr.below hb,aQ h.head hb (aT h.head),h.lH⟩
theorem bu.kp {lo mb:Nat} {tt:TypeId} {X:List Value} {w w':World} {S:dE} {k:aN} {E:Nat->Prop} (h:bu lo mb tt X w S k) (hk:aM E w w') (he:∀b,S.lab b≠.no->¬E b):bu lo mb tt X w' S k:=⟨h.toKr.kp hk he,hk.keep h.head (he mb (by grind [lH])),h.lH⟩
theorem Kr.new {lo:Nat} {w:World} {S:dE} {k:aN} (h:Kr lo w S k) {b:Nat} (hb:w.heap.size<=b):S.lab b=.no:=xE.1 fun x=>by have:=(h.rV b x).2;omega
theorem mL {α:Type} {w:World} {base:Nat} {e:TypeId} {k:Nat} (f:α->List Value) (hf:∀x,(f x).length=k) (d:α) {l:List α} {v:Value} (hr:w.ownsRow base e k v l.length (l.flatMap f)):∃ao cap,v=.slice ao l.length cap/\l.length<=cap/\cJ f k d w ao l:=by
 obtain⟨ao,cap,rfl,hle,hg⟩:=aY hr;refine⟨ao,cap,rfl,hle,fun hl=>?_⟩;obtain⟨g,rfl,hg1,hg2⟩:=hg hl;exact⟨g,0,rfl,hg2,fun i hi j hj=>by grind [jJ]⟩
theorem Kr.al8 {lo:Nat} {w:World} {S:dE} {k:aN} (h:Kr lo w S k):∃ao cap,S.vS=.slice ao k.aD.length cap/\k.aD.length<=cap/\fX w ao k.aD:=by
 obtain⟨ao,cap,e,hc,hr⟩:=mL fN (fun _=>rfl) tE h.aD;refine⟨ao,cap,e,hc,fun hl=>?_⟩;obtain⟨b,off,e1,hb,hi⟩:=hr hl;refine⟨b,off,e1,hb,fun i hlt=>⟨?_,hi i hlt 1 (by omega),hi i hlt 2 (by omega),fun hx=>?_⟩⟩
 · have:=hi i hlt 0 (by omega);rw[fW] at this;exact this
 · obtain⟨ax,cx,ex,_,hrx⟩:=mL gZ (fun _=>rfl) Lt (h.cM i hlt);injection ex with e1 e2 e3;rw[e1];obtain⟨b2,SL,g1,g2,g3⟩:=hrx hx;refine⟨b2,SL,g1,g2,fun n hn=>⟨?_,g3 n hn 1 (by omega)⟩⟩;have:=g3 n hn 0 (by omega);rw[fW] at this;exact this
theorem Kr.al7 {lo:Nat} {w:World} {S:dE} {k:aN} (h:Kr lo w S k):∃ao cap,S.vP=.slice ao k.aj.length cap/\k.aj.length<=cap/\qQ w ao k.aj:=by
 obtain⟨ao,cap,e,hc,hr⟩:=mL eT (fun _=>rfl) LO h.aj;rw[h.len] at e hc;refine⟨ao,cap,e,hc,fun hl=>?_⟩;obtain⟨b,off,e1,hb,hi⟩:=hr (by grind [len]);refine⟨b,off,e1,hb,fun i hlt=>?_⟩;have hlt':i<S.L.length:=by grind [len]
 have hs:=h.each i hlt;obtain⟨ap,cp,hvp,hlp,hgp⟩:=mL bj (fun _=>rfl) dW hs.bC;have c0:=hi i hlt' 0 (by omega);have c1:=hi i hlt' 1 (by omega);have c2:=hi i hlt' 2 (by omega);rw[fW] at c0;refine⟨(fZ S.L i).va,ap,cp,?_,c1,?_,hs.bk.has,hgp,hlp⟩
 · rw[<- hs.live];exact c0
 · rw[<- hvp];exact c2
structure Zo (S:dE) (k:aN) (a:fR):Prop where
 eS:S.vS=.slice a.aS k.aD.length a.cS
 eF:S.vF=.slice a.aF k.frames.length a.cF
 eL:S.vL=.slice a.aL k.slots.length a.cL
 eP:S.vP=.slice a.aP k.aj.length a.cP
theorem Kr.has {lo:Nat} {w:World} {S:dE} {k:aN} (h:Kr lo w S k):∃a,Zo S k a/\gD w a k:=by
 obtain⟨aS,cS,eS,_,hS⟩:=h.al8;obtain⟨aP,cP,eP,_,hP⟩:=h.al7;obtain⟨aF,cF,eF,_,hF⟩:=mL fB (fun _=>rfl) eW h.frames;obtain⟨aL,cL,eL,_,hL⟩:=mL fA (fun _=>rfl) jS h.slots;exact⟨⟨aS,cS,aF,cF,aL,cL,aP,cP⟩,⟨eS,eF,eL,eP⟩,⟨hS,hF,hL,hP⟩⟩
theorem Kr.Bb {lo:Nat} {w:World} {S:dE} {k:aN} (h:Kr lo w S k) {g n cap:Nat} (hv:S.vF=.slice (some (Ad g 0)) n cap) {i j:Nat} (hi:i<k.frames.length) (hj:j<4) {f:jm} {u:Value} (e:fB f=(fB (au k.frames i)).set j u) :
  Kr lo (w.setCell (Ad g (i*4+j)) u) S { k with frames:=k.frames.set i f }:=by
 have hk:aM (fun b=>b=g) w (w.setCell (Ad g (i*4+j)) u):=aM.set _ _ _ _ rfl;have hg:S.lab g=.frames:=h.lF g (by rw[hv];rfl);have z:∀{b:Nat} {c:jO},S.lab b=c->c≠.frames->¬b=g:=fun e hc x=>hc (by grind)
 have hn:n=k.frames.length:=by
  obtain⟨ao,c,e,_⟩:=aY h.frames
  grind
 subst hn;have hr:=h.frames;rw[hv] at hr;refine⟨fun b hb=>⟨(h.rV b hb).1,iH (h.rV b hb).2 hk.size⟩,hk.row h.aD (fun b hb=>z (h.lS b hb) (by simp)),fun i hi=>hk.row (h.cM i hi) (fun b hb=>z (h.lX i hi b hb) (by simp)),?_,hk.row h.slots (fun b hb=>z (h.lL b hb) (by simp)),hk.row h.aj (fun b hb=>z (h.lP b hb) (by simp)),h.len,fun i hi=>(h.each i hi).kp hk (fun b hb=>z (h.lA i hi b hb) (by simp)) (fun b hb=>z (h.lE i hi b hb) (by simp)),h.lS,h.lX,h.lF,h.lL,h.lP,h.lA,h.lE⟩;have:=o6 hr (i*4+j) u;show World.ownsRow _ lo _ 4 S.vF (k.frames.set i f).length _;rw[iG,hv,nK fB 4 (fun _=>rfl) eW f j u hj k.frames i hi e];omega
theorem Kr.YK {lo:Nat} {w:World} {S:dE} {k:aN} (h:Kr lo w S k) {g n cap:Nat} (hv:S.vL=.slice (some (Ad g 0)) n cap) {i j:Nat} (hi:i<k.slots.length) (hj:j<2) {f:lD} {u:Value} (e:fA f=(fA (br k.slots i)).set j u) :
  Kr lo (w.setCell (Ad g (i*2+j)) u) S { k with slots:=k.slots.set i f }:=by
 have hk:aM (fun b=>b=g) w (w.setCell (Ad g (i*2+j)) u):=aM.set _ _ _ _ rfl;have hg:S.lab g=.slots:=h.lL g (by rw[hv];rfl);have z:∀{b:Nat} {c:jO},S.lab b=c->c≠.slots->¬b=g:=fun e hc x=>hc (by grind)
 have hn:n=k.slots.length:=by
  obtain⟨ao,c,e,_⟩:=aY h.slots
  grind
 subst hn;have hr:=h.slots;rw[hv] at hr;refine⟨fun b hb=>⟨(h.rV b hb).1,iH (h.rV b hb).2 hk.size⟩,hk.row h.aD (fun b hb=>z (h.lS b hb) (by simp)),fun i hi=>hk.row (h.cM i hi) (fun b hb=>z (h.lX i hi b hb) (by simp)),hk.row h.frames (fun b hb=>z (h.lF b hb) (by simp)),?_,hk.row h.aj (fun b hb=>z (h.lP b hb) (by simp)),h.len,fun i hi=>(h.each i hi).kp hk (fun b hb=>z (h.lA i hi b hb) (by simp)) (fun b hb=>z (h.lE i hi b hb) (by simp)),h.lS,h.lX,h.lF,h.lL,h.lP,h.lA,h.lE⟩;have:=o6 hr (i*2+j) u;show World.ownsRow _ lo _ 2 S.vL (k.slots.set i f).length _;rw[iG,hv,nK fA 2 (fun _=>rfl) jS f j u hj k.slots i hi e];omega
theorem Kr.turn {lo:Nat} {w w2:World} {S:dE} {k:aN} (h:Kr lo w S k) {j:Nat} (hj:j<k.aj.length) {l:wO} {s:cO} {lab':Nat->jO}
  (hk:aM (fun b=>S.lab b=.aU j∨S.lab b=.aj∨S.lab b=.bk j) w w2) (hrow:w2.ownsRow lo 43 3 S.vP S.L.length ((S.L.set j l).flatMap eT)) (hs:kF lo w2 l s)
  (hb:∀b,lab' b≠.no->lo<=b/\b<w2.heap.size) (hlab:∀b c,S.lab b=c->c≠.no->c≠.bk j->c≠.aU j->lab' b=c) (hA:∀b,bQ l.va b->lab' b=.bk j) (hE:∀b,bQ l.vp b->lab' b=.aU j) :
  Kr lo w2 ⟨lab',S.vS,S.vF,S.vL,S.vP,S.L.set j l⟩ { k with aj:=k.aj.set j s }:=by
 have z:∀{b:Nat} {c:jO},S.lab b=c->c≠.aU j->c≠.aj->c≠.bk j->¬(S.lab b=.aU j∨S.lab b=.aj∨S.lab b=.bk j):=fun e h1 h2 h3 x=>by
  grind
 have hLl:(S.L.set j l).length=S.L.length:=iG;have hl:=h.len;have at_:∀i,i<k.aj.length->fZ (S.L.set j l) i=if j=i then l else fZ S.L i:=fun i hi=>by
  grind [fZ]
 refine⟨hb,hk.row h.aD (fun b hb=>z (h.lS b hb) (by simp) (by simp) (by simp)),fun i hi=>hk.row (h.cM i hi) (fun b hb=>z (h.lX i hi b hb) (by simp) (by simp) (by simp)),hk.row h.frames (fun b hb=>z (h.lF b hb) (by simp) (by simp) (by simp)),hk.row h.slots (fun b hb=>z (h.lL b hb) (by simp) (by simp) (by simp)),?_,?_,?_,fun b hb=>hlab b _ (h.lS b hb) (by simp) (by simp) (by simp),fun i hi b hb=>hlab b _ (h.lX i hi b hb) (by simp) (by simp) (by simp),fun b hb=>hlab b _ (h.lF b hb) (by simp) (by simp) (by simp),fun b hb=>hlab b _ (h.lL b hb) (by simp) (by simp) (by simp),fun b hb=>hlab b _ (h.lP b hb) (by simp) (by simp) (by simp),?_,?_⟩
 · grind
 · grind
 · intro i hi;have hi:i<k.aj.length:=by grind
   show kF lo w2 (fZ (S.L.set j l) i) (ak (k.aj.set j s) i);rw[at_ i hi,lO _ _ _ _ hj];by_cases c:j=i
   · grind
   · rw[bf c,bf c];exact(h.each i hi).kp hk (fun b hb=>z (h.lA i hi b hb) (by simp) (by simp) (by grind)) (fun b hb=>z (h.lE i hi b hb) (by grind) (by simp) (by simp))
 · grind [lA]
 grind [lE]
open Go.RowKit
def cD (a n:Int):Int:=(a+n-1)/16
def eH (k:aN) (j:Nat) (a way:Int):Nat×aN:=cQ k j (a/16) way []
def ir (k:aN) (j:Nat) (a n way:Int):Nat×aN:=cQ (eH k j a way).2 j (cD a n) way [((eH k j a way).1:Int)]
def aW (k:aN) (j:Nat) (a n way:Int):List Nat×aN:=if cD a n=a/16 then ([(eH k j a way).1],(eH k j a way).2) else ([(eH k j a way).1,(ir k j a n way).1],(ir k j a n way).2)
structure WI (k:aN) (j:Nat) (a n way:Int):Prop where
 right:bc (aW k j a n way).2
 kept:fp k (aW k j a n way).2
 one:bD (ak (aW k j a n way).2.aj j).aU (a/16)=some ⟨a/16,1,(eH k j a way).1⟩/\(eH k j a way).1<k.frames.length
 two:cD a n≠a/16->bD (ak (aW k j a n way).2.aj j).aU (cD a n)=some ⟨cD a n,1,(ir k j a n way).1⟩/\(ir k j a n way).1<k.frames.length
theorem nz {k:aN} (h:bc k) {j:Nat} (hj:j<k.aj.length) (a n way:Int) (h1:dx k j (a/16)) (h2:dx k j (cD a n)):WI k j a n way:=by
 have A:=(mj h hj h1 way (held:=[]) (by simp)).1;by_cases c:cD a n=a/16
 · have e:aW k j a n way=([(eH k j a way).1],(eH k j a way).2):=by grind [aW]
   exact⟨by rw[e];exact A.right,by rw[e];exact A.kept,by rw[e];exact⟨A.here,A.lt⟩,fun x=>absurd c x⟩
 · have hj':j<(eH k j a way).2.aj.length:=by grind [eH,ft.kept,fp.np]
   have B:=(mj (k:=(eH k j a way).2) A.right hj' (A.kept.mapped hj h2) way (held:=[((eH k j a way).1:Int)]) (by simp)).1;have e:aW k j a n way=([(eH k j a way).1,(ir k j a n way).1],(ir k j a n way).2):=by grind [aW]
   refine⟨by rw[e];exact B.right,by rw[e];exact A.kept.trans B.kept,?_,fun _=>?_⟩
   · rw[e];exact⟨B.stay j hj' (a/16) _ A.here rfl (by grind) (fun x=>c x.2.symm),A.lt⟩
   · rw[e];refine⟨B.here,?_⟩;have hl:=B.lt
     grind [ir,eH,ft.kept,fp.nf]
open Go.RowKit
def sS (k:aN) (j:Nat) (es:List bG) (e:bG):aN:=cK { k with aj:=k.aj.set j (dG (ak k.aj j) es) } e
theorem Rn {k:aN} (h:bc k) {j:Nat} (hj:j<k.aj.length) {pre post:List bG} {e:bG} (he:(ak k.aj j).aU=pre++e::post):(sS k j (pre++post) e).frames.length=k.frames.length/\(sS k j (pre++post) e).slots.length=k.slots.length/\(sS k j (pre++post) e).aD=k.aD/\(sS k j (pre++post) e).hand=k.hand/\(sS k j (pre++post) e).aj=k.aj.set j (dG (ak k.aj j) (pre++post)) /\
  (∀n,au (sS k j (pre++post) e).frames n=if e.kind=1/\e.loc=(n:Int) then ma (au k.frames n) else au k.frames n) /\
  (∀n,br (sS k j (pre++post) e).slots n=if e.kind=2/\e.loc=(n:Int) then nB (br k.slots n) else br k.slots n):=by
 have hm:e∈(ak k.aj j).aU:=by grind
 unfold sS cK
 grind [ic,iD,uI]
theorem Rm {k:aN} (h:bc k) {j:Nat} (hj:j<k.aj.length) {pre post:List bG} {e:bG} (he:(ak k.aj j).aU=pre++e::post):bc (sS k j (pre++post) e):=by
 have hsp:=h.sp hj;obtain⟨f1,f2,f3,f4,f5,f6,f7⟩:=Rn h hj he;have hlen:(sS k j (pre++post) e).aj.length=k.aj.length:=by grind
 have hin:∀x,x∈pre++post->x∈(ak k.aj j).aU:=fun x hx=>by
  grind
 have Hd:∀kd a:Int,∃X Y,ck k.aj kd a=X++(iP (ak k.aj j).bk kd a [e]++Y)/\ck (k.aj.set j (dG (ak k.aj j) (pre++post))) kd a=X++Y:=fun kd a=>by
  obtain⟨u,v,g1,g2⟩:=zY k.aj j (dG (ak k.aj j) (pre++post)) kd a hj;refine⟨u++iP (ak k.aj j).bk kd a pre,iP (ak k.aj j).bk kd a post++v,?_,?_⟩
  · grind [vR,kH,tM]
  · rw[g2,vR];show u++(iP (ak k.aj j).bk kd a (pre++post)++v)=_
    grind [kH]
 refine⟨?_,by rw[f3];exact h.kP,by simp_all [bc.hand],?_,?_,?_,?_⟩
 · have:=h.counts
   grind [lu]
 · rw[f1,f2,f3,f5];intro s hs;rcases XU hs with g | rfl
   · exact h.each s g
   · refine⟨fun dd=>?_,hsp.bk,?_,fun x hx=>hsp.Hf x (hin x hx),hsp.aD⟩
     · have hnil:=(hsp.dead dd).2
       simp_all
     · have hr:iw (ak k.aj j).aU:=hsp.kP;rw[he] at hr;exact List.Pairwise.sublist ((List.Sublist.append (List.Sublist.refl pre) (List.sublist_cons_self e post)).map _) hr
 · rw[f2,f5,Jb _ _ (dG (ak k.aj j) (pre++post)) hj rfl];exact h.room
 · intro n hn;rw[f1] at hn;rw[f3,f5,f6];obtain⟨X,Y,h1,h2⟩:=Hd 1 n
   grind [ot,lQ,bc.yS,kI.less]
 · intro n hn;rw[f2] at hn;rw[f5,f7];obtain⟨X,Y,h1,h2⟩:=Hd 2 n
   grind [ot,lQ,bc.slt,l7.less]
end Go.Proofs.YtpgifpeohlllfaaGreat
