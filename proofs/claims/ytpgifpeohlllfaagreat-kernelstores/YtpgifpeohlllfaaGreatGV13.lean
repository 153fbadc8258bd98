import Derived.Test.YtpgifpeohlllfaaGreatGV12
import Derived.Deep.RegionHeld3
set_option maxHeartbeats 20000000
set_option linter.unusedVariables false
set_option maxRecDepth 100000
set_option linter.unusedSimpArgs false
namespace Go.Proofs.YtpgifpeohlllfaaGreat
namespace Go.Proofs.YtpgifpeohlllfaaGreat
open Go.RowKit
theorem Rk (k:aN) (j:Nat) (p:Int) (hR:bg k) (hj:j<k.aj.length):cQ k j p=if (jh (ak k.aj j).aW p).1.kind=1 then (au k.frames (jh (ak k.aj j).aW p).1.loc.toNat).data else if (jh (ak k.aj j).aW p).1.kind=2 then (bw k.slots (jh (ak k.aj j).aW p).1.loc.toNat).data else eH k.aA p (kq k j p):=by
 unfold cQ jh;cases g:bD (ak k.aj j).aW p with
 | none=>rfl
 | some e =>
  have he:=(iy (hR.sp hj).lQ).1 g;show(if e.kind=1 then _ else _)=if e.kind=1 then _ else if e.kind=2 then _ else _
  rcases iQ hR hj he.1 with b | b
  · grind
  grind
theorem UW (k:aN) (a:fP) (j mb:Nat) (p:Int) (ar:bc) (w:World) (hK:fT w a k) (hR:bg k) (hj:j<k.aj.length) (hm:w.heap[mb]?=some (.cells (mv a k) 104 (0,0))) (hp:cV k j p) (hz:ar.zero=kq k j p) :
  Calls Tryz.prog 71 #[.pointer (some (Ad mb 0)),I (j:Int),I p,.agg (kY ar)] w fun e w'=>e=.returned (.string (cQ k j p))/\Below w.heap.size w w':=by
 have xw:=gN hp;have hcc:=hR.c;have ZI:=ai (Rk k j p hR hj);have Bk:=aO hm;obtain⟨pb,po,hao,hbl,fG⟩:=hK.aj (by omega);obtain⟨va,ap,cp,_,_,y2,_,y4,_⟩:=fG j hj;have hel:(ak k.aj j).aW.length<=1000000:=by
  have h1:=wJ (hR.sp hj);have h2:=nZ (ak k.aj j).aZ;omega
 have c1:w.cell? (Ad mb 1)=some (.slice a.aF k.frames.length a.cF):=aB hm 1 rfl;have c2:w.cell? (Ad mb 2)=some (.slice a.aL k.slots.length a.cL):=aB hm 2 rfl;have c3:w.cell? (Ad mb 3)=some (.slice (some (Ad pb po)) k.aj.length a.cP):=(aB (v:=.slice a.aP k.aj.length a.cP) hm 3 rfl).trans (by rw[hao]);have px:=ai (fun V (hV:Below w.heap.size w V)=>Jv (ak k.aj j).aW p j k.aj.length mb pb po a.cP ap cp V ((hV.cell (p:=(Ad mb 3)) Bk).trans c3) hj ((hV.cell (p:=(Ad pb (po+j*3+2))) hbl).trans y2) (y4.below hV) hel (by omega));have qN:=ai (fun V (hV:Below w.heap.size w V)=>Ep k.aA p ar.zero mb V (En (aQ hm hV Bk) hR.lQ) (by omega));have LL:Hid (∀e:bC,(jh (ak k.aj j).aW p).1=e->(e.kind=1->0<=e.loc/\e.loc<(k.frames.length:Int))/\(e.kind=2->0<=e.loc/\e.loc<(k.slots.length:Int))):=fun e he=>by
  unfold jh at he;cases g:bD (ak k.aj j).aW p with
  | none =>
   rw[g] at he;have he:eD=e:=he;subst he;exact⟨fun x=>absurd x (by decide),fun x=>absurd x (by decide)⟩
  | some e2 =>
   rw[g] at he;have he:e2=e:=he;subst he;have hm2:=(iy (hR.sp hj).lQ).1 g;have:=((hR.sp hj).FC e2 hm2.1).2;omega
 have HF:=ai hK.frames;have HS:=ai hK.slots;rw[hz] at qN;obtain⟨EN,hEN⟩:=ex (jh (ak k.aj j).aW p);rw[<- hEN] at ZI px LL;obtain⟨⟨pg,kd,lc⟩,fd⟩:=EN;unfold lZ at px;have adE:=ai (LL.o _ rfl);obtain⟨FK,hFK⟩:=ex (eH k.aA p (kq k j p));rw[<- hFK] at ZI qN;obtain⟨PK,hPK⟩:=ex (cQ k j p);rw[<- hPK] at ZI ⊢;obtain⟨f1,f2,f3,z⟩:=ar;unfold kY;simp only at ZI px adE qN hz ⊢;rw[<- hz] at qN;have eO:=ai ((aK w.heap.size w).alloc (aM _) (.cells #[I f1,I f2,I f3,.bool z] 47));have AB:=ai (bG w #[I f1,I f2,I f3,.bool z] 47);clear hEN hFK hPK hz hao fG y2 y4 LL hK hR hm hp hcc hel c3 hj;rcases(show kd=1∨(¬kd=1/\kd=2)∨(¬kd=1/\¬kd=2) by omega) with g | ⟨g,g2⟩ | ⟨g,g2⟩
 · rw[bf g] at ZI;have kb1:(kd==1)=true:=by grind
   obtain⟨l0,l1⟩:=adE.o.1 g;obtain⟨i,rfl⟩:∃i:Nat,lc=(i:Int):=⟨lc.toNat,by omega⟩;rw[iu] at ZI;obtain⟨fb,fo,hfo,hfl,L4⟩:=HF.o (by omega);have x0:=L4 i (by omega) 0 (by omega);rw[hfo] at c1;have x0:w.cell? (Ad fb (fo+i*4))=some (.string PK):=by rw[ZI.o];exact x0
   clear g HF HS qN adE L4;go_enter Tryz.func71,Tryz.ntmps71;go_wp2_with (go_at_call 118;refine(px.o _ eO.o).mono ?_;rintro e w1 ⟨rfl,hb1⟩;have cT:=ai (bZ eO.o hb1);have gK:=ai (cT.o.alloc cT.o.size (.cells #[I pg,I kd,I (i:Int)] 45));have d1:(w1.alloc (.cells #[I pg,I kd,I (i:Int)] 45)).cell? (Ad mb 1)=some (.slice (some (Ad fb fo)) k.frames.length a.cF):=(gK.o.cell (p:=(Ad mb 1)) Bk).trans c1;clear hb1)
   have xA:=(gK.o.cell (p:=(Ad fb (fo+i*4))) hfl).trans x0;go_region;go_wp2;go_ret;exact⟨rfl,gK.o.drew⟩
 · rw[bl g,bf g2] at ZI;have kb1:(kd==1)=false:=by grind
   have kb2:(kd==2)=true:=by grind
   obtain⟨l0,l1⟩:=adE.o.2 g2;obtain⟨i,rfl⟩:∃i:Nat,lc=(i:Int):=⟨lc.toNat,by omega⟩;rw[iu] at ZI;obtain⟨fb,fo,hfo,hfl,L4⟩:=HS.o (by omega);have x0:=L4 i (by omega) 0 (by omega);rw[hfo] at c2;have x0:w.cell? (Ad fb (fo+i*2))=some (.string PK):=by rw[ZI.o];exact x0
   clear g g2 HF HS qN adE L4;go_enter Tryz.func71,Tryz.ntmps71;go_wp2_with (go_at_call 118;refine(px.o _ eO.o).mono ?_;rintro e w1 ⟨rfl,hb1⟩;have cT:=ai (bZ eO.o hb1);have gK:=ai (cT.o.alloc cT.o.size (.cells #[I pg,I kd,I (i:Int)] 45));have d2:(w1.alloc (.cells #[I pg,I kd,I (i:Int)] 45)).cell? (Ad mb 2)=some (.slice (some (Ad fb fo)) k.slots.length a.cL):=(gK.o.cell (p:=(Ad mb 2)) Bk).trans c2;clear hb1)
   have xA:=(gK.o.cell (p:=(Ad fb (fo+i*2))) hfl).trans x0;go_region;go_wp2;go_ret;exact⟨rfl,gK.o.drew⟩
 · rw[bl g,bl g2] at ZI;have kb1:(kd==1)=false:=by grind
   have kb2:(kd==2)=false:=by grind
   clear g g2 HF HS adE;go_enter Tryz.func71,Tryz.ntmps71;go_wp2_with (first | (go_at_call 118;refine(px.o _ eO.o).mono ?_;rintro e w1 ⟨rfl,hb1⟩;have cT:=ai (bZ eO.o hb1);have gK:=ai (cT.o.alloc cT.o.size (.cells #[I pg,I kd,I lc] 45));have A0:=ai (bE (aQ AB.o hb1 (aO AB.o)) (.cells #[I pg,I kd,I lc] 45));have a3:(w1.alloc (.cells #[I pg,I kd,I lc] 45)).cell? (Ad w.heap.size 3)=some (.bool z):=aB A0.o 3 rfl;clear hb1) | (go_at_call 119;refine(qN.o _ gK.o).mono ?_;rintro e w2 ⟨rfl,hb2⟩;have fq:=ai (bZ gK.o hb2);clear hb2))
   go_ret;exact⟨fp (fun d=>Ending.returned (.string d)) ZI.o.symm,fq.o⟩
def uK (k:aN) (sp p:Int):ByteArray×Int:=if dM k sp=0 then (if (aV (ak k.aj sp.toNat).aZ p).2 then (cQ k sp.toNat p,0) else (⟨#[]⟩,6)) else (⟨#[]⟩,dM k sp)
theorem Rl {k:aN} {sp:Int} (h:dM k sp=0):gG k=0/\0<=sp/\sp<(k.aj.length:Int)/\(ak k.aj sp.toNat).live=true:=by
 grind [dM]
theorem XZ (k:aN) (a:fP) (sp p:Int) (w:World) (hK:fT w a k) (hF:gW k) (hsp:dY sp):Calls Tryz.prog 30 #[.agg (aT a k),I sp,I p] w fun e w'=>e=.returned (.tuple #[.string (uK k sp p).1,I (uK k sp p).2])/\Below w.heap.size w w':=by
 have HO:=ai (fun V (hV:Below w.heap.size w V)=>wZ k a sp V (hK.below hV) hF hsp);have eO:=ai ((aK w.heap.size w).alloc (aM _) (.cells (aT a k) 27));by_cases hl:dM k sp=0
 · have hpt:=Rl hl;have hR:=(qz k).1 hpt.1;obtain⟨j,rfl⟩:∃j:Nat,sp=(j:Int):=⟨sp.toNat,by omega⟩;have hj:j<k.aj.length:=by omega
   have FY:Hid (uK k (j:Int) p=if (aV (ak k.aj j).aZ p).2 then (cQ k j p,0) else (⟨#[]⟩,6)):=by show _=_;grind [uK]
   have za:Hid (∀V,Below w.heap.size w V->Calls Tryz.prog 69 #[.agg (aT a k),I (j:Int)] V fun e w'=>∃mb,e=.returned (.tuple #[.pointer (some (Ad mb 0)),I 0])/\w.heap.size<=mb/\w'.heap[mb]?=some (.cells (mv a k) 104 (0,0))/\Below V.heap.size V w'):=fun V hV=>(HO.o V hV).mono fun e w' ⟨hb,h⟩=>by
    rcases h with⟨_,mb,h1,h2,h3⟩ | ⟨h1,_⟩
    · exact⟨mb,h1,gJ hV.size h2,h3,hb⟩
    omega
   have hcc:=hR.c;obtain⟨pb,po,hao,hbl,fG⟩:=hK.aj (by omega);obtain⟨va,ap,cp,_,y1,_,y3,_,_⟩:=fG j hj;obtain⟨aa,ca,yt,_⟩:=id y3;subst yt;have Gi:=ai (fun V (hV:Below w.heap.size w V)=>uo (ak k.aj j).aZ _ p V (y3.below hV) (hF.sp j hj).aZ);have HHO:=ai (fun mb V (hV:Below w.heap.size w V) (hm:V.heap[mb]?=some (.cells (mv a k) 104 (0,0))) (hp:cV k j p)=>UW k a j mb p (aV (ak k.aj j).aZ p).1 V (hK.below hV) hR hj hm hp rfl);have WO:Hid (∀(V:World) mb,V.heap[mb]?=some (.cells (mv a k) 104 (0,0))->V.cell? (Ad mb 3)=some (.slice (some (Ad pb po)) k.aj.length a.cP)):=fun V mb h=>(aB (v:=.slice a.aP k.aj.length a.cP) h 3 rfl).trans (by rw[hao])
   have TB:Hid ((aV (ak k.aj j).aZ p).2=true->cV k j p):=fun h=>h
   obtain⟨⟨⟨f1,f2,f3,z⟩,ok⟩,hFN⟩:∃F,F=aV (ak k.aj j).aZ p:=⟨_,rfl⟩;rw[<- hFN] at FY Gi HHO TB;unfold kY at Gi HHO;simp only at FY Gi HHO TB;have KT:(j:Int)<(k.aj.length:Int):=by omega
   have Uf:(0:Int)<=(j:Int):=by omega
   clear hFN HO hl hpt hR hK hF hsp hao fG y3 hcc;obtain⟨PR,hPR⟩:=ex (uK k (j:Int) p);rw[<- hPR] at FY ⊢;clear hPR;unfold aT at za eO ⊢;cases ok with
   | false =>
    have ahf:Hid (PR=(⟨#[]⟩,6)):=FY;clear FY HHO TB;go_enter Tryz.func30,Tryz.ntmps30;go_wp2_with (first | (go_at_call 69;refine(za.o _ eO.o).mono ?_;rintro e w1 ⟨mb,rfl,qP,hm2,hb1⟩;have HMB:=ai hm2;have cT:=ai (bZ eO.o hb1);have c3:=WO.o w1 mb hm2;have c1:=(cT.o.cell (p:=(Ad pb (po+j*3+1))) hbl).trans y1;clear hb1 hm2) | (go_at_call 70;refine(Gi.o _ cT.o).mono ?_;rintro e w2 ⟨rfl,hb2⟩;have fq:=ai (bZ cT.o hb2);have gK:=ai (fq.o.alloc fq.o.size (.cells #[I f1,I f2,I f3,.bool z] 47));clear hb2))
    go_ret2
    rw[ahf.o];exact⟨rfl,gK.o⟩
   | true =>
    have ahf:Hid (PR=(cQ k j p,0)):=FY;clear FY;obtain⟨PK,hPK⟩:=ex (cQ k j p);rw[<- hPK] at HHO ahf;clear hPK;go_enter Tryz.func30,Tryz.ntmps30;go_wp2_with (first | (go_at_call 69;refine(za.o _ eO.o).mono ?_;rintro e w1 ⟨mb,rfl,qP,hm2,hb1⟩;have HMB:=ai hm2;have cT:=ai (bZ eO.o hb1);have c3:=WO.o w1 mb hm2;have c1:=(cT.o.cell (p:=(Ad pb (po+j*3+1))) hbl).trans y1;clear hb1 hm2) | (go_at_call 70;refine(Gi.o _ cT.o).mono ?_;rintro e w2 ⟨rfl,hb2⟩;have fq:=ai (bZ cT.o hb2);have gK:=ai (fq.o.alloc fq.o.size (.cells #[I f1,I f2,I f3,.bool z] 47));have MA:=ai (bE (aQ HMB.o hb2 (aO HMB.o)) (.cells #[I f1,I f2,I f3,.bool z] 47));clear hb2) | (go_at_call 71;refine(HHO.o mb _ gK.o MA.o (TB.o trivial)).mono ?_;rintro e w3 ⟨rfl,hb3⟩;have jo:=ai (bZ gK.o hb3);clear hb3))
    go_ret2
    rw[ahf.o];exact⟨rfl,jo.o⟩
 · have za:Hid (∀V,Below w.heap.size w V->Calls Tryz.prog 69 #[.agg (aT a k),I sp] V fun e w'=>e=.returned (.tuple #[.pointer none,I (dM k sp)])/\Below V.heap.size V w'):=fun V hV=>(HO.o V hV).mono fun e w' ⟨hb,h⟩=>by
    grind
   have FY:Hid (uK k sp p=(⟨#[]⟩,dM k sp)):=by show _=_;grind [uK]
   obtain⟨PR,hPR⟩:=ex (uK k sp p);rw[<- hPR] at FY ⊢;obtain⟨C,hC⟩:=ex (dM k sp);rw[<- hC] at FY za hl;have cb:(C != 0)=true:=by grind
   clear hPR hC HO hK hF hsp hl;unfold aT at za eO ⊢;go_enter Tryz.func30,Tryz.ntmps30;go_wp2_with (go_at_call 69;refine(za.o _ eO.o).mono ?_;rintro e w1 ⟨rfl,hb1⟩;have cT:=ai (bZ eO.o hb1);clear hb1)
   go_ret2
   rw[FY.o];exact⟨rfl,cT.o⟩
def eZ (n:Int):List Value:=[I n]
def CQ (l:List Int) (i:Nat):Int:=l.getD i 0
theorem Rm (l:List Int) (x:Int) (ao:Option Addr) (cap:Nat) (w:World) (h:dz eZ 1 0 w ao l) (hl:l.length<=1000000) :
  Calls Tryz.prog 139 #[.slice ao l.length cap,I x] w fun e w'=>w'=w/\((e=.returned (I (-1))/\∀j,j<l.length->CQ l j≠x)∨∃i:Nat,i<l.length/\e=.returned (I (i:Int))/\CQ l i=x):=by
 have HH:=ai h;clear h;go_enter Tryz.func139,Tryz.ntmps139;go_wp2;go_loopw [8] (fun iv wr=>∃k:Nat,k<=l.length/\iv=I (k:Int)/\(∀j,j<k->CQ l j≠x)/\wr=w) (fun iv _=>l.length-(intOf iv).toNat)
 case atStart=>grind
 case round =>
  obtain⟨k,hk,rfl,hno,rfl⟩:=hrel;have pq:=ai hno;clear hno;by_cases hlt:k<l.length
  · have MU:(k:Int)<(l.length:Int):=by omega
    obtain⟨eb,eo,hao,hbl,fG⟩:=HH.o (by omega);subst hao;have y0:=fG k hlt 0 (by omega);rw[gV,NC] at y0;obtain⟨E,hE⟩:=ex (CQ l k);have x0:wr.cell? (Ad eb (eo+k))=some (I E):=by rw[hE];exact y0
    have HE:=ai hE;clear hE y0 fG;by_cases c:x=E
    · have cb:(x==E)=true:=by grind
      have HC:=ai c;clear c;go_wp2;go_ret;exact⟨rfl,.inr ⟨k,hlt,rfl,by rw[<- HE.o,HC.o]⟩⟩
    · have cb:(x==E)=false:=by grind
      have HC:=ai c;clear c;go_wp2
      grind [intOf,Hid.o]
  · obtain rfl:k=l.length:=by omega
    go_wp2;go_ret;exact⟨rfl,.inl ⟨rfl,pq.o⟩⟩
theorem Mi (l:List Int) (x:Int):x∈l↔∃i,i<l.length/\CQ l i=x:=⟨fun h=>jb 0 h,fun ⟨i,hi,e⟩=>e ▸ jD hi⟩
theorem vD (l:List Int) (x:Int) (ao:Option Addr) (cap:Nat) (w:World) (h:dz eZ 1 0 w ao l) (hl:l.length<=1000000) :
  Calls Tryz.prog 95 #[.slice ao l.length cap,I x] w fun e w'=>e=.returned (.bool (decide (x∈l)))/\w'=w:=by
 have HI:=ai (Rm l x ao cap w h hl);clear h;by_cases c:x∈l
 · have HI2:Hid (Calls Tryz.prog 139 #[.slice ao l.length cap,I x] w fun e w'=>∃i:Nat,i<l.length/\e=.returned (I (i:Int))/\w'=w):=HI.o.mono fun e w' ⟨hw,h⟩=>by
    grind [Mi]
   rw[dh c];clear HI c;go_enter Tryz.func95,Tryz.ntmps95;go_wp2_with (go_at_call 139;refine HI2.o.mono ?_;rintro e w1 ⟨i,hi,rfl,rfl⟩;have hi0:(0:Int)<=(i:Int):=(by omega))
   go_ret
   simp_all
 · have HI2:Hid (Calls Tryz.prog 139 #[.slice ao l.length cap,I x] w fun e w'=>e=.returned (I (-1))/\w'=w):=HI.o.mono fun e w' ⟨hw,h⟩=>by
    grind [Mi]
   rw[dE c];clear HI c;go_enter Tryz.func95,Tryz.ntmps95;go_wp2_with (go_at_call 139;refine HI2.o.mono ?_;rintro e w1 ⟨rfl,rfl⟩)
   go_ret
   simp_all
structure xc where
 lv:Bool
 va:Value
 vp:Value
def fL (l:xc):List Value:=[.bool l.lv,l.va,l.vp]
def Lf:xc:=⟨false,Nl,Nl⟩
def cA (l:List xc) (k:Nat):xc:=l.getD k Lf
def bI (v:Value) (b:Nat):Prop:=v.ownBlock=some b
structure l6 (lo:Nat) (w:World) (l:xc) (s:dm):Prop where
 live:l.lv=s.live
 aZ:dC lo w l.va s.aZ
 aR:w.ownsRow lo 45 3 l.vp s.aW.length (s.aW.flatMap bk)
theorem l6.kp {lo:Nat} {w w':World} {D:Nat->Prop} {l:xc} {s:dm} (h:l6 lo w l s) (hk:aH D w w') (ha:∀b,bI l.va b->¬D b) (hp:∀b,bI l.vp b->¬D b):l6 lo w' l s:=⟨h.live,hk.row h.aZ ha,hk.row h.aR hp⟩
theorem l6.mono {lo lo':Nat} {w:World} {l:xc} {s:dm} (h:l6 lo w l s) (hl:lo'<=lo):l6 lo' w l s:=⟨h.live,h.aZ.mono hl,lu h.aR (fun g hg=>gJ hl (h.aR.lt g hg).1)⟩
theorem xW {α:Type} {w:World} (f:α->List Value) (k:Nat) (hf:∀x,(f x).length=k) (d:α) (l:List α) (b off:Nat) (h:∀i,i<l.length->∀j,j<k->w.cell? (Ad b (off+i*k+j))=(f (l.getD i d))[j]?):lJ w (some (Ad b off)) l.length (l.flatMap f):=fun hm=>by
 refine⟨_,rfl,fun j u hu=>?_⟩;have hlt:j<l.length*k:=by
  grind [fF]
 have hk:0<k:=by
  grind
 have e:j=j/k*k+j%k:=by grind [Nat.div_add_mod]
 have h1:j/k<l.length:=(Nat.div_lt_iff_lt_mul hk).2 hlt
 grind [Nat.mod_lt,E9,Addr.add_lit]
theorem Gy {w:World} {ao:Option Addr} {n c:Nat} {l:List bc} (h:eU w (.slice ao n c) l):n=l.length/\lJ w ao n (cj l):=by
 obtain⟨ao',cap,e,h⟩:=h;injection e with e1 e2 e3;subst e1 e2 e3;refine⟨rfl,fun hm=>?_⟩;rcases h with h | ⟨b,off,rfl,hl⟩
 · grind
 · have:=xW (w:=w) oQ 4 (fun _=>rfl) tZ l b off (fun i hi j hj=>by
    obtain⟨c0,c1,c2,c3⟩:=hl i hi
    match j,hj with
    | 0,_=>exact c0
    | 1,_=>exact c1
    | 2,_=>exact c2
    | 3,_=>exact c3)
   have e:cj l=l.flatMap oQ:=by
    clear this hl hm;induction l with
    | nil=>rfl
    | cons a r ih=>rw[pJ,<- ih];rfl
   rw[e];exact this hm
theorem Rp {w:World} {ap:Option Addr} {l:List bC} (h:dz bk 3 eD w ap l):lJ w ap l.length (l.flatMap bk):=fun hm=>by
 obtain⟨b,off,rfl,hb,hl⟩:=h hm;exact xW (w:=w) bk 3 (fun _=>rfl) eD l b off (fun i hi j hj=>hl i hi j hj) hm
theorem se:∀(l:List bC),∀u∈l.flatMap bk,u.oneCell'=true:=fun l u hu=>by
 obtain⟨y,_,hy⟩:=vZ.1 hu;simp[bk] at hy;rcases hy with rfl | rfl | rfl <;> rfl
def Yh (w:World) (s:dm) (e:Ending) (w':World):Prop:=∃va vp,e=.returned (.agg #[.bool s.live,va,vp])/\l6 w.heap.size w' ⟨s.live,va,vp⟩ s/\(∀b,bI vp b->¬bI va b)/\Below w.heap.size w w'
theorem Gx (s:dm) (aa ap:Option Addr) (na ca cp:Nat) (w:World) (ha:eU w (.slice aa na ca) s.aZ) (hp:dz bk 3 eD w ap s.aW) (wh:s.aZ.length<=1000000) (G0:s.aW.length<=1000000) :
  Calls Tryz.prog 86 #[.agg #[.bool s.live,.slice aa na ca,.slice ap s.aW.length cp]] w (Yh w s):=by
 obtain⟨hn,hfa⟩:=Gy ha;have zx:=ai hfa;have xJ:=ai (Rp hp);obtain⟨lv,nj,pgs⟩:=s;simp only at hn zx xJ wh G0 ⊢;subst hn;have JZ:=ai (sV nj);have WQ:=ai (fF bk 3 (fun _=>rfl) pgs);have H1A:=ai (qa nj);have H1P:=ai (se pgs);have cZ:Hid (∀va vp (w':World),dC w.heap.size w' va nj->w'.ownsRow w.heap.size 45 3 vp pgs.length (pgs.flatMap bk)->(∀b,bI vp b->¬bI va b)->Below w.heap.size w w'->Yh w ⟨lv,nj,pgs⟩ (.returned (.agg #[.bool lv,va,vp])) w'):=fun va vp w' h1 h2 h3 h4=>⟨va,vp,rfl,⟨rfl,h1,h2⟩,h3,h4⟩
 obtain⟨XA,hXA⟩:=ex (cj nj);obtain⟨XP,hXP⟩:=ex (pgs.flatMap bk);unfold dC at cZ;rw[<- hXA] at zx JZ H1A cZ;rw[<- hXP] at xJ WQ H1P cZ;obtain⟨na,alB⟩:=ex nj.length;obtain⟨np,acJ⟩:=ex pgs.length;rw[<- alB] at zx JZ cZ wh ⊢;rw[<- acJ] at xJ WQ cZ G0 ⊢;clear hfa ha hp hXA hXP alB acJ;have eO:=ai (((aK w.heap.size w).alloc (aM _) (.cells #[.bool lv,.slice aa na ca,.slice ap np cp] 43)).alloc (by simp) (.cells #[.bool false,Nl,Nl] 43));have X0:=ai (bE (bG w #[.bool lv,.slice aa na ca,.slice ap np cp] 43) (.cells #[.bool false,Nl,Nl] 43));have Y0:Hid (((w.alloc (.cells #[.bool lv,.slice aa na ca,.slice ap np cp] 43)).alloc (.cells #[.bool false,Nl,Nl] 43)).heap[w.heap.size+1]?=some (.cells #[.bool false,Nl,Nl] 43 (0,0))):=by
  grind [World.alloc]
 go_enter Tryz.func86,Tryz.ntmps86;go_wp2;obtain⟨WA,iK⟩:=ex ((w.alloc (.cells #[.bool lv,.slice aa na ca,.slice ap np cp] 43)).alloc (.cells #[.bool false,Nl,Nl] 43));rw[<- iK] at eO X0 Y0 ⊢;clear iK;have Wn:=ai eO.o;obtain⟨xb,KS⟩:=ex w.heap.size;rw[<- KS] at X0 Y0 eO cZ ⊢;have HXB:=ai KS;clear KS;have HS:Hid (∀V,Below WA.heap.size WA V->V.cell? (Ad xb 0)=some (.bool lv)/\V.cell? (Ad xb 1)=some (.slice aa na ca)/\V.cell? (Ad xb 2)=some (.slice ap np cp)):=fun V hb=>by
  grind [aQ,aB,Hid.o]
 have HCA:Hid (∀V,Below WA.heap.size WA V->Calls Tryz.prog 129 #[.slice aa na ca] V fun e w'=>∃a c,e=.returned (.slice a na c)/\w'.ownsRow V.heap.size 47 4 (.slice a na c) na XA/\Below V.heap.size V w'):=fun V hV=>(abG aa na ca XA V JZ.o (zx.o.below (Wn.o.trans (hV.mono Wn.o.size))) H1A.o wh).mono fun e w' ⟨v,h1,h2,h3⟩=>by
   obtain⟨a,c,rfl,_⟩:=aY h2
   grind
 have HCP:Hid (∀V,Below WA.heap.size WA V->Calls Tryz.prog 130 #[.slice ap np cp] V fun e w'=>∃a c,e=.returned (.slice a np c)/\w'.ownsRow V.heap.size 45 3 (.slice a np c) np XP/\Below V.heap.size V w'):=fun V hV=>(abF ap np cp XP V WQ.o (xJ.o.below (Wn.o.trans (hV.mono Wn.o.size))) H1P.o G0).mono fun e w' ⟨v,h1,h2,h3⟩=>by
   obtain⟨a,c,rfl,_⟩:=aY h2
   grind
 have HSY:Hid (∀V:World,(V.cell? (Ad xb 0)=some (.bool lv)/\V.cell? (Ad xb 1)=some (.slice aa na ca)/\V.cell? (Ad xb 2)=some (.slice ap np cp))->∀v0 v1 v2,(((V.setCell (Ad (xb+1) 0) v0).setCell (Ad (xb+1) 1) v1).setCell (Ad (xb+1) 2) v2).cell? (Ad xb 0)=some (.bool lv)/\(((V.setCell (Ad (xb+1) 0) v0).setCell (Ad (xb+1) 1) v1).setCell (Ad (xb+1) 2) v2).cell? (Ad xb 1)=some (.slice aa na ca)/\(((V.setCell (Ad (xb+1) 0) v0).setCell (Ad (xb+1) 1) v1).setCell (Ad (xb+1) 2) v2).cell? (Ad xb 2)=some (.slice ap np cp)):=fun V ⟨h0,h1,h2⟩ v0 v1 v2=>by
  have hne:xb≠xb+1:=by omega
  rw[fO _ _ _ _ _ _ hne,fO _ _ _ _ _ _ hne,fO _ _ _ _ _ _ hne,fO _ _ _ _ _ _ hne,fO _ _ _ _ _ _ hne,fO _ _ _ _ _ _ hne,fO _ _ _ _ _ _ hne,fO _ _ _ _ _ _ hne,fO _ _ _ _ _ _ hne];omega
 have rz:=ai (aK WA.heap.size WA).drew;have gj:=ai (HS.o _ rz.o)
 go_region_held3 (fun V=>V.cell? (Ad xb 0)=some (.bool lv)/\V.cell? (Ad xb 1)=some (.slice aa na ca)/\V.cell? (Ad xb 2)=some (.slice ap np cp)) (first | exact vr.o | exact qd.o | exact gj.o | exact HSX.o _ _ _)
  (first
   | (go_at_call 129;refine(HCA.o _ rz.o).mono ?_;rintro e w2 ⟨a2,c2,rfl,hr2,hb2⟩;have pH:=ai (rz.o.trans (hb2.mono rz.o.size));have qd:=ai (HS.o _ pH.o);have zC:=ai hr2;clear hb2 hr2)
   | (go_at_call 130;refine(HCP.o _ pH.o).mono ?_;rintro e w3 ⟨a3,c3,rfl,hr3,hb3⟩;have sX:=ai (pH.o.trans (hb3.mono pH.o.size));have vr:=ai (HS.o _ sX.o);have Kw:=ai hr3;have jo:=ai hb3;have y0:w3.cell? (Ad (xb+1) 0)=some (.bool false):=aB (aQ Y0.o sX.o (aO Y0.o)) 0 rfl;have z0:w3.frozen? (Ad (xb+1) 0)=false:=aJ (aQ Y0.o sX.o (aO Y0.o)) 0;have y1:w3.cell? (Ad (xb+1) 1)=some Nl:=aB (aQ Y0.o sX.o (aO Y0.o)) 1 rfl;have z1:w3.frozen? (Ad (xb+1) 1)=false:=aJ (aQ Y0.o sX.o (aO Y0.o)) 1;have y2:w3.cell? (Ad (xb+1) 2)=some Nl:=aB (aQ Y0.o sX.o (aO Y0.o)) 2 rfl;have z2:w3.frozen? (Ad (xb+1) 2)=false:=aJ (aQ Y0.o sX.o (aO Y0.o)) 2;have HSX:=ai (fun v0 v1 v2=>HSY.o w3 vr.o v0 v1 v2);clear hb3 hr3))
 all_goals clear HSX HSY HS gj qd vr HCA HCP
 all_goals go_wp2
 · refine bR (v:=.agg #[.bool lv,.slice a2 na c2,.slice a3 np c3]) (by simp[results,Tryz.results86,go_sem,y0,y1,y2]) rfl ?_;have k3:aH (fun b=>b=xb+1) w3 _:=vR w3 (xb+1) 0 1 2 (.bool lv) (.slice a2 na c2) (.slice a3 np c3) rfl;have l1:=aO Y0.o;have l3:=pH.o.size;have hx:=HXB.o;have e2:∀g,(Value.slice a2 na c2).ownBlock=some g->WA.heap.size<=g/\g<w2.heap.size:=fun g hg=>zC.o.lt g hg
   have e3:∀g,(Value.slice a3 np c3).ownBlock=some g->w2.heap.size<=g/\g<w3.heap.size:=fun g hg=>Kw.o.lt g hg
   have r2:=(aH.b7 (D:=fun _=>False) jo.o).row zC.o (fun _ _ g=>g);refine cZ.o _ _ _ (k3.row (lu r2 (fun g hg=>by grind)) (fun g hg e=>by grind)) (k3.row (lu Kw.o (fun g hg=>by grind)) (fun g hg e=>by grind)) (fun b h1 h2=>by have:=e2 b h2;have:=e3 b h1;omega) ?_;exact aH.below (eO.o.trans (sX.o.mono (by omega))) k3 (by have:=sX.o.size;omega) (fun b e=>by omega)
def ic (s:bM):List Value:=[I s.page,.string s.data,.slice s.ao s.dn.length s.cap]
def ji (f:mF):List Value:=[I f.off,.string f.bytes]
def yM (s:bM):Value:=.slice s.ao s.dn.length s.cap
inductive iH where
 | no | head | frames | slots | aj | aA
 | aZ (i:Nat)
 | aW (i:Nat)
 | dn (i:Nat)
structure dN where
 lab:Nat->iH
 vS:Value
 vF:Value
 vL:Value
 vP:Value
 L:List xc
structure iZ (lo:Nat) (w:World) (S:dN) (k:aN):Prop where
 qF:∀b,S.lab b≠.no->lo<=b/\b<w.heap.size
 aA:w.ownsRow lo 50 3 S.vS k.aA.length (k.aA.flatMap ic)
 dn:∀i,i<k.aA.length->w.ownsRow lo 52 2 (yM (bj k.aA i)) (bj k.aA i).dn.length ((bj k.aA i).dn.flatMap ji)
 frames:w.ownsRow lo 40 4 S.vF k.frames.length (k.frames.flatMap gq)
 slots:w.ownsRow lo 86 2 S.vL k.slots.length (k.slots.flatMap gp)
 aj:w.ownsRow lo 43 3 S.vP S.L.length (S.L.flatMap fL)
 len:S.L.length=k.aj.length
 each:∀i,i<k.aj.length->l6 lo w (cA S.L i) (ak k.aj i)
 lS:∀b,bI S.vS b->S.lab b=.aA
 lX:∀i,i<k.aA.length->∀b,bI (yM (bj k.aA i)) b->S.lab b=.dn i
 lF:∀b,bI S.vF b->S.lab b=.frames
 lL:∀b,bI S.vL b->S.lab b=.slots
 lP:∀b,bI S.vP b->S.lab b=.aj
 lA:∀i,i<k.aj.length->∀b,bI (cA S.L i).va b->S.lab b=.aZ i
 lE:∀i,i<k.aj.length->∀b,bI (cA S.L i).vp b->S.lab b=.aW i
structure bQ (lo mb:Nat) (tt:TypeId) (X:List Value) (w:World) (S:dN) (k:aN):Prop extends iZ lo w S k where
 head:w.heap[mb]?=some (.cells ([S.vS,S.vF,S.vL,S.vP,I k.hand]++X).toArray tt (0,0))
 lH:S.lab mb=.head
structure dI (S:dN) (w:World) (S':dN) (w':World):Prop where
 kp:aH (fun b=>S.lab b≠.no) w w'
 no:∀b,b<w.heap.size->S.lab b=.no->S'.lab b=.no
 eS:S'.vS=S.vS
 eF:S'.vF=S.vF
 eL:S'.vL=S.vL
 eP:S'.vP=S.vP
theorem dI.refl (S:dN) (w:World):dI S w S w:=⟨aH.refl _ _,fun _ _ h=>h,rfl,rfl,rfl,rfl⟩
theorem dI.trans {S S1 S2:dN} {w w1 w2:World} (h:dI S w S1 w1) (g:dI S1 w1 S2 w2):dI S w S2 w2 :=
 ⟨⟨g.kp.os.trans h.kp.os,g.kp.tape.trans h.kp.tape,g.kp.output.trans h.kp.output,gJ h.kp.size g.kp.size,fun b hb hn=>by
  have hb1:=jt hb h.kp.size;have hn0:S.lab b=.no:=pK.1 hn;have SJ:=h.no b hb hn0;exact(g.kp.block b hb1 (fun x=>x SJ)).trans (h.kp.block b hb hn)⟩,fun b hb hn=>g.no b (jt hb h.kp.size) (h.no b hb hn),g.eS.trans h.eS,g.eF.trans h.eF,g.eL.trans h.eL,g.eP.trans h.eP⟩
theorem dI.below {S:dN} {w w':World} (h:Below w.heap.size w w'):dI S w S w':=⟨aH.b7 h,fun _ _ h=>h,rfl,rfl,rfl,rfl⟩
theorem dI.set {S:dN} {w:World} {g j:Nat} {u:Value} (h:S.lab g≠.no):dI S w S (w.setCell (Ad g j) u):=⟨aH.set _ _ _ _ h,fun _ _ h=>h,rfl,rfl,rfl,rfl⟩
theorem dI.keep {S S':dN} {w w':World} {b:Nat} {o:Obj} (h:dI S w S' w') (hb:w.heap[b]?=some o) (hn:S.lab b=.no):w'.heap[b]?=some o:=h.kp.keep hb (fun x=>x hn)
theorem iZ.kp {lo:Nat} {w w':World} {S:dN} {k:aN} {E:Nat->Prop} (h:iZ lo w S k) (hk:aH E w w') (he:∀b,S.lab b≠.no->¬E b):iZ lo w' S k:=by
 have z:∀{b:Nat} {c:iH},S.lab b=c->c≠.no->¬E b:=fun e hc=>he _ (by grind)
 exact⟨fun b hb=>⟨(h.qF b hb).1,jt (h.qF b hb).2 hk.size⟩,hk.row h.aA (fun b hb=>z (h.lS b hb) (by simp)),fun i hi=>hk.row (h.dn i hi) (fun b hb=>z (h.lX i hi b hb) (by simp)),hk.row h.frames (fun b hb=>z (h.lF b hb) (by simp)),hk.row h.slots (fun b hb=>z (h.lL b hb) (by simp)),hk.row h.aj (fun b hb=>z (h.lP b hb) (by simp)),h.len,fun i hi=>(h.each i hi).kp hk (fun b hb=>z (h.lA i hi b hb) (by simp)) (fun b hb=>z (h.lE i hi b hb) (by simp)),h.lS,h.lX,h.lF,h.lL,h.lP,h.lA,h.lE⟩
theorem iZ.below {lo:Nat} {w w':World} {S:dN} {k:aN} (h:iZ lo w S k) (hb:Below w.heap.size w w'):iZ lo w' S k:=h.kp (aH.b7 (D:=fun _=>False) hb) (fun _ _ g=>g)
theorem iZ.mono {lo lo':Nat} {w:World} {S:dN} {k:aN} (h:iZ lo w S k) (hl:lo'<=lo):iZ lo' w S k:=by
 have z:∀{e:TypeId} {n m:Nat} {v:Value} {xs:List Value},w.ownsRow lo e n v m xs->w.ownsRow lo' e n v m xs:=fun hr=>lu hr (fun g hg=>gJ hl (hr.lt g hg).1)
 exact⟨fun b hb=>⟨gJ hl (h.qF b hb).1,(h.qF b hb).2⟩,z h.aA,fun i hi=>z (h.dn i hi),z h.frames,z h.slots,z h.aj,h.len,fun i hi=>(h.each i hi).mono hl,h.lS,h.lX,h.lF,h.lL,h.lP,h.lA,h.lE⟩
theorem bQ.below {lo mb:Nat} {tt:TypeId} {X:List Value} {w w':World} {S:dN} {k:aN} (h:bQ lo mb tt X w S k) (hb:Below w.heap.size w w'):bQ lo mb tt X w' S k:=⟨h.toiZ.below hb,aQ h.head hb (aO h.head),h.lH⟩
theorem bQ.kp {lo mb:Nat} {tt:TypeId} {X:List Value} {w w':World} {S:dN} {k:aN} {E:Nat->Prop} (h:bQ lo mb tt X w S k) (hk:aH E w w') (he:∀b,S.lab b≠.no->¬E b):bQ lo mb tt X w' S k:=⟨h.toiZ.kp hk he,hk.keep h.head (he mb (by grind [lH])),h.lH⟩
theorem iZ.new {lo:Nat} {w:World} {S:dN} {k:aN} (h:iZ lo w S k) {b:Nat} (hb:w.heap.size<=b):S.lab b=.no:=pK.1 fun x=>by have:=(h.qF b x).2;omega
theorem nD {α:Type} {w:World} {base:Nat} {e:TypeId} {k:Nat} (f:α->List Value) (hf:∀x,(f x).length=k) (d:α) {l:List α} {v:Value} (hr:w.ownsRow base e k v l.length (l.flatMap f)):∃ao cap,v=.slice ao l.length cap/\l.length<=cap/\dz f k d w ao l:=by
 obtain⟨ao,cap,rfl,hle,hg⟩:=aY hr;refine⟨ao,cap,rfl,hle,fun hl=>?_⟩;obtain⟨g,rfl,hg1,hg2⟩:=hg hl;exact⟨g,0,rfl,hg2,fun i hi j hj=>by grind [lB]⟩
theorem iZ.apV {lo:Nat} {w:World} {S:dN} {k:aN} (h:iZ lo w S k):∃ao cap,S.vS=.slice ao k.aA.length cap/\k.aA.length<=cap/\iM w ao k.aA:=by
 obtain⟨ao,cap,e,hc,hr⟩:=nD ic (fun _=>rfl) xy h.aA;refine⟨ao,cap,e,hc,fun hl=>?_⟩;obtain⟨b,off,e1,hb,hi⟩:=hr hl;refine⟨b,off,e1,hb,fun i hlt=>⟨?_,hi i hlt 1 (by omega),hi i hlt 2 (by omega),fun hx=>?_⟩⟩
 · have:=hi i hlt 0 (by omega);rw[gV] at this;exact this
 · obtain⟨ax,cx,ex,_,hrx⟩:=nD ji (fun _=>rfl) O9 (h.dn i hlt);injection ex with e1 e2 e3;rw[e1];obtain⟨b2,WV,g1,g2,g3⟩:=hrx hx;refine⟨b2,WV,g1,g2,fun n hn=>⟨?_,g3 n hn 1 (by omega)⟩⟩;have:=g3 n hn 0 (by omega);rw[gV] at this;exact this
theorem iZ.apU {lo:Nat} {w:World} {S:dN} {k:aN} (h:iZ lo w S k):∃ao cap,S.vP=.slice ao k.aj.length cap/\k.aj.length<=cap/\s8 w ao k.aj:=by
 obtain⟨ao,cap,e,hc,hr⟩:=nD fL (fun _=>rfl) Lf h.aj;rw[h.len] at e hc;refine⟨ao,cap,e,hc,fun hl=>?_⟩;obtain⟨b,off,e1,hb,hi⟩:=hr (by grind [len]);refine⟨b,off,e1,hb,fun i hlt=>?_⟩;have hlt':i<S.L.length:=by grind [len]
 have hs:=h.each i hlt;obtain⟨ap,cp,hvp,hlp,hgp⟩:=nD bk (fun _=>rfl) eD hs.aR;have c0:=hi i hlt' 0 (by omega);have c1:=hi i hlt' 1 (by omega);have c2:=hi i hlt' 2 (by omega);rw[gV] at c0;refine⟨(cA S.L i).va,ap,cp,?_,c1,?_,hs.aZ.has,hgp,hlp⟩
 · rw[<- hs.live];exact c0
 · rw[<- hvp];exact c2
structure adm (S:dN) (k:aN) (a:fP):Prop where
 eS:S.vS=.slice a.aS k.aA.length a.cS
 eF:S.vF=.slice a.aF k.frames.length a.cF
 eL:S.vL=.slice a.aL k.slots.length a.cL
 eP:S.vP=.slice a.aP k.aj.length a.cP
theorem iZ.has {lo:Nat} {w:World} {S:dN} {k:aN} (h:iZ lo w S k):∃a,adm S k a/\fT w a k:=by
 obtain⟨aS,cS,eS,_,hS⟩:=h.apV;obtain⟨aP,cP,eP,_,hP⟩:=h.apU;obtain⟨aF,cF,eF,_,hF⟩:=nD gq (fun _=>rfl) gD h.frames;obtain⟨aL,cL,eL,_,hL⟩:=nD gp (fun _=>rfl) nU h.slots;exact⟨⟨aS,cS,aF,cF,aL,cL,aP,cP⟩,⟨eS,eF,eL,eP⟩,⟨hS,hF,hL,hP⟩⟩
theorem iZ.Ch {lo:Nat} {w:World} {S:dN} {k:aN} (h:iZ lo w S k) {g n cap:Nat} (hv:S.vF=.slice (some (Ad g 0)) n cap) {i j:Nat} (hi:i<k.frames.length) (hj:j<4) {f:kj} {u:Value} (e:gq f=(gq (au k.frames i)).set j u) :
  iZ lo (w.setCell (Ad g (i*4+j)) u) S { k with frames:=k.frames.set i f }:=by
 have hk:aH (fun b=>b=g) w (w.setCell (Ad g (i*4+j)) u):=aH.set _ _ _ _ rfl;have hg:S.lab g=.frames:=h.lF g (by rw[hv];rfl);have z:∀{b:Nat} {c:iH},S.lab b=c->c≠.frames->¬b=g:=fun e hc x=>hc (by grind)
 have hn:n=k.frames.length:=by
  obtain⟨ao,c,e,_⟩:=aY h.frames
  grind
 subst hn;have hr:=h.frames;rw[hv] at hr;refine⟨fun b hb=>⟨(h.qF b hb).1,jt (h.qF b hb).2 hk.size⟩,hk.row h.aA (fun b hb=>z (h.lS b hb) (by simp)),fun i hi=>hk.row (h.dn i hi) (fun b hb=>z (h.lX i hi b hb) (by simp)),?_,hk.row h.slots (fun b hb=>z (h.lL b hb) (by simp)),hk.row h.aj (fun b hb=>z (h.lP b hb) (by simp)),h.len,fun i hi=>(h.each i hi).kp hk (fun b hb=>z (h.lA i hi b hb) (by simp)) (fun b hb=>z (h.lE i hi b hb) (by simp)),h.lS,h.lX,h.lF,h.lL,h.lP,h.lA,h.lE⟩;have:=pD hr (i*4+j) u;show World.ownsRow _ lo _ 4 S.vF (k.frames.set i f).length _;rw[jk,hv,n9 gq 4 (fun _=>rfl) gD f j u hj k.frames i hi e];omega
theorem iZ.acD {lo:Nat} {w:World} {S:dN} {k:aN} (h:iZ lo w S k) {g n cap:Nat} (hv:S.vL=.slice (some (Ad g 0)) n cap) {i j:Nat} (hi:i<k.slots.length) (hj:j<2) {f:mO} {u:Value} (e:gp f=(gp (bw k.slots i)).set j u) :
  iZ lo (w.setCell (Ad g (i*2+j)) u) S { k with slots:=k.slots.set i f }:=by
 have hk:aH (fun b=>b=g) w (w.setCell (Ad g (i*2+j)) u):=aH.set _ _ _ _ rfl;have hg:S.lab g=.slots:=h.lL g (by rw[hv];rfl);have z:∀{b:Nat} {c:iH},S.lab b=c->c≠.slots->¬b=g:=fun e hc x=>hc (by grind)
 have hn:n=k.slots.length:=by
  obtain⟨ao,c,e,_⟩:=aY h.slots
  grind
 subst hn;have hr:=h.slots;rw[hv] at hr;refine⟨fun b hb=>⟨(h.qF b hb).1,jt (h.qF b hb).2 hk.size⟩,hk.row h.aA (fun b hb=>z (h.lS b hb) (by simp)),fun i hi=>hk.row (h.dn i hi) (fun b hb=>z (h.lX i hi b hb) (by simp)),hk.row h.frames (fun b hb=>z (h.lF b hb) (by simp)),?_,hk.row h.aj (fun b hb=>z (h.lP b hb) (by simp)),h.len,fun i hi=>(h.each i hi).kp hk (fun b hb=>z (h.lA i hi b hb) (by simp)) (fun b hb=>z (h.lE i hi b hb) (by simp)),h.lS,h.lX,h.lF,h.lL,h.lP,h.lA,h.lE⟩;have:=pD hr (i*2+j) u;show World.ownsRow _ lo _ 2 S.vL (k.slots.set i f).length _;rw[jk,hv,n9 gp 2 (fun _=>rfl) nU f j u hj k.slots i hi e];omega
theorem iZ.turn {lo:Nat} {w w2:World} {S:dN} {k:aN} (h:iZ lo w S k) {j:Nat} (hj:j<k.aj.length) {l:xc} {s:dm} {lab':Nat->iH}
  (hk:aH (fun b=>S.lab b=.aW j∨S.lab b=.aj∨S.lab b=.aZ j) w w2) (hrow:w2.ownsRow lo 43 3 S.vP S.L.length ((S.L.set j l).flatMap fL)) (hs:l6 lo w2 l s)
  (hb:∀b,lab' b≠.no->lo<=b/\b<w2.heap.size) (hlab:∀b c,S.lab b=c->c≠.no->c≠.aZ j->c≠.aW j->lab' b=c) (hA:∀b,bI l.va b->lab' b=.aZ j) (hE:∀b,bI l.vp b->lab' b=.aW j) :
  iZ lo w2 ⟨lab',S.vS,S.vF,S.vL,S.vP,S.L.set j l⟩ { k with aj:=k.aj.set j s }:=by
 have z:∀{b:Nat} {c:iH},S.lab b=c->c≠.aW j->c≠.aj->c≠.aZ j->¬(S.lab b=.aW j∨S.lab b=.aj∨S.lab b=.aZ j):=fun e h1 h2 h3 x=>by
  grind
 have hLl:(S.L.set j l).length=S.L.length:=jk;have hl:=h.len;have at_:∀i,i<k.aj.length->cA (S.L.set j l) i=if j=i then l else cA S.L i:=fun i hi=>by
  grind [cA]
 refine⟨hb,hk.row h.aA (fun b hb=>z (h.lS b hb) (by simp) (by simp) (by simp)),fun i hi=>hk.row (h.dn i hi) (fun b hb=>z (h.lX i hi b hb) (by simp) (by simp) (by simp)),hk.row h.frames (fun b hb=>z (h.lF b hb) (by simp) (by simp) (by simp)),hk.row h.slots (fun b hb=>z (h.lL b hb) (by simp) (by simp) (by simp)),?_,?_,?_,fun b hb=>hlab b _ (h.lS b hb) (by simp) (by simp) (by simp),fun i hi b hb=>hlab b _ (h.lX i hi b hb) (by simp) (by simp) (by simp),fun b hb=>hlab b _ (h.lF b hb) (by simp) (by simp) (by simp),fun b hb=>hlab b _ (h.lL b hb) (by simp) (by simp) (by simp),fun b hb=>hlab b _ (h.lP b hb) (by simp) (by simp) (by simp),?_,?_⟩
 · grind
 · grind
 · intro i hi;have hi:i<k.aj.length:=by grind
   show l6 lo w2 (cA (S.L.set j l) i) (ak (k.aj.set j s) i);rw[at_ i hi,ja _ _ _ _ hj];by_cases c:j=i
   · grind
   · rw[bl c,bl c];exact(h.each i hi).kp hk (fun b hb=>z (h.lA i hi b hb) (by simp) (by simp) (by grind)) (fun b hb=>z (h.lE i hi b hb) (by grind) (by simp) (by simp))
 · grind [lA]
 grind [lE]
def bK (a n:Int):Int:=(a+n-1)/16
def ft (k:aN) (j:Nat) (a way:Int):Nat×aN:=dD k j (a/16) way []
def iN (k:aN) (j:Nat) (a n way:Int):Nat×aN:=dD (ft k j a way).2 j (bK a n) way [((ft k j a way).1:Int)]
def bh (k:aN) (j:Nat) (a n way:Int):List Nat×aN:=if bK a n=a/16 then ([(ft k j a way).1],(ft k j a way).2) else ([(ft k j a way).1,(iN k j a n way).1],(iN k j a n way).2)
structure P8 (k:aN) (j:Nat) (a n way:Int):Prop where
 right:bg (bh k j a n way).2
 kept:fQ k (bh k j a n way).2
 one:bD (ak (bh k j a n way).2.aj j).aW (a/16)=some ⟨a/16,1,(ft k j a way).1⟩/\(ft k j a way).1<k.frames.length
 two:bK a n≠a/16->bD (ak (bh k j a n way).2.aj j).aW (bK a n)=some ⟨bK a n,1,(iN k j a n way).1⟩/\(iN k j a n way).1<k.frames.length
theorem l8 {k:aN} (h:bg k) {j:Nat} (hj:j<k.aj.length) (a n way:Int) (h1:cV k j (a/16)) (h2:cV k j (bK a n)):P8 k j a n way:=by
 have A:=(nV h hj h1 way (held:=[]) (by simp)).1;by_cases c:bK a n=a/16
 · have e:bh k j a n way=([(ft k j a way).1],(ft k j a way).2):=by grind [bh]
   exact⟨by rw[e];exact A.right,by rw[e];exact A.kept,by rw[e];exact⟨A.here,A.lt⟩,fun x=>absurd c x⟩
 · have hj':j<(ft k j a way).2.aj.length:=by grind [ft,fZ.kept,fQ.np]
   have B:=(nV (k:=(ft k j a way).2) A.right hj' (A.kept.mapped hj h2) way (held:=[((ft k j a way).1:Int)]) (by simp)).1;have e:bh k j a n way=([(ft k j a way).1,(iN k j a n way).1],(iN k j a n way).2):=by grind [bh]
   refine⟨by rw[e];exact B.right,by rw[e];exact A.kept.trans B.kept,?_,fun _=>?_⟩
   · rw[e];exact⟨B.stay j hj' (a/16) _ A.here rfl (by grind) (fun x=>c x.2.symm),A.lt⟩
   · rw[e];refine⟨B.here,?_⟩;have hl:=B.lt
     grind [iN,ft,fZ.kept,fQ.nf]
def uT (k:aN) (j:Nat) (es:List bC) (e:bC):aN:=df { k with aj:=k.aj.set j (dX (ak k.aj j) es) } e
theorem VI {k:aN} (h:bg k) {j:Nat} (hj:j<k.aj.length) {pre post:List bC} {e:bC} (he:(ak k.aj j).aW=pre++e::post):(uT k j (pre++post) e).frames.length=k.frames.length/\(uT k j (pre++post) e).slots.length=k.slots.length/\(uT k j (pre++post) e).aA=k.aA/\(uT k j (pre++post) e).hand=k.hand/\(uT k j (pre++post) e).aj=k.aj.set j (dX (ak k.aj j) (pre++post)) /\
  (∀n,au (uT k j (pre++post) e).frames n=if e.kind=1/\e.loc=(n:Int) then nO (au k.frames n) else au k.frames n) /\
  (∀n,bw (uT k j (pre++post) e).slots n=if e.kind=2/\e.loc=(n:Int) then pd (bw k.slots n) else bw k.slots n):=by
 have hm:e∈(ak k.aj j).aW:=by grind
 unfold uT df
 grind [iQ,jc,xe]
theorem VH {k:aN} (h:bg k) {j:Nat} (hj:j<k.aj.length) {pre post:List bC} {e:bC} (he:(ak k.aj j).aW=pre++e::post):bg (uT k j (pre++post) e):=by
 have hsp:=h.sp hj;obtain⟨f1,f2,f3,f4,f5,f6,f7⟩:=VI h hj he;have hlen:(uT k j (pre++post) e).aj.length=k.aj.length:=by grind
 have hin:∀x,x∈pre++post->x∈(ak k.aj j).aW:=fun x hx=>by
  grind
 have Kr:∀kd a:Int,∃X Y,cO k.aj kd a=X++(jO (ak k.aj j).aZ kd a [e]++Y)/\cO (k.aj.set j (dX (ak k.aj j) (pre++post))) kd a=X++Y:=fun kd a=>by
  obtain⟨u,v,g1,g2⟩:=x8 k.aj j (dX (ak k.aj j) (pre++post)) kd a hj;refine⟨u++jO (ak k.aj j).aZ kd a pre,jO (ak k.aj j).aZ kd a post++v,?_,?_⟩
  · grind [x9,l9,vK]
  · rw[g2,x9];show u++(jO (ak k.aj j).aZ kd a (pre++post)++v)=_
    grind [l9]
 refine⟨?_,by rw[f3];exact h.lQ,by simp_all [bg.hand],?_,?_,?_,?_⟩
 · have:=h.counts
   grind [mi]
 · rw[f1,f2,f3,f5];intro s hs;rcases abP hs with g | rfl
   · exact h.each s g
   · refine⟨fun dd=>?_,hsp.aZ,?_,fun x hx=>hsp.FC x (hin x hx),hsp.aA⟩
     · have hnil:=(hsp.dead dd).2
       simp_all
     · have hr:jw (ak k.aj j).aW:=hsp.lQ;rw[he] at hr;exact List.Pairwise.sublist ((List.Sublist.append (List.Sublist.refl pre) (List.sublist_cons_self e post)).map _) hr
 · rw[f2,f5,EI _ _ (dX (ak k.aj j) (pre++post)) hj rfl];exact h.room
 · intro n hn;rw[f1] at hn;rw[f3,f5,f6];obtain⟨X,Y,h1,h2⟩:=Kr 1 n
   grind [pT,mW,bg.zS,lK.less]
 · intro n hn;rw[f2] at hn;rw[f5,f7];obtain⟨X,Y,h1,h2⟩:=Kr 2 n
   grind [pT,mW,bg.slt,mY.less]
end Go.Proofs.YtpgifpeohlllfaaGreat
end Go.Proofs.YtpgifpeohlllfaaGreat
