import Derived.Test.YtlgoihmkgaaemaaGreatGO36
set_option maxHeartbeats 20000000
set_option linter.unusedVariables false
set_option maxRecDepth 100000
set_option linter.unusedSimpArgs false
namespace Go.Proofs.YtlgoihmkgaaemaaGreat
open Go.RowKit
def qo (l:List aY) (hs:List bG) (en nf ns:Int):gQ×Int:=if (sJ l hs en nf ns).2=0 then (⟨(sJ l hs en nf ns).1,[nE en],[]⟩,0) else (nB,(sJ l hs en nf ns).2)
theorem ab1 {V:World} {g:Nat} {en:Int} {t:TypeId} (h:V.heap[g]?=some (.cells #[I 0,I 0,I 0,I 0,I 0,I 0,I 0,I 0,I en,I 1,I 0,I 0,I 0] t (0,0))):wN V (some (Ad g 0)) [nE en]:=fun _=>⟨g,0,rfl,aJ h,fun i hi=>by
 obtain rfl:i=0:=by have:i<1:=hi;omega
 exact⟨aq h 0 rfl,aq h 1 rfl,aq h 2 rfl,aq h 3 rfl,aq h 4 rfl,aq h 5 rfl,aq h 6 rfl,aq h 7 rfl,aq h 8 rfl,aq h 9 rfl,aq h 10 rfl,aq h 11 rfl,aq h 12 rfl⟩⟩
theorem ab0 (l:List aY) (hs:List bG) (en nf ns:Int) (va:Value) (ao:Option Addr) (cap:Nat) (w:World) (ha:gD w va l) (hf:dO l) (h:jB w ao hs) (Qd:rM hs) (hcap:hs.length<=cap) (he:cN en) :
  Calls Tryz.prog 10 #[.agg #[va,.slice ao hs.length cap,I en],I nf,I ns] w (oo w (qo l hs en nf ns)):=by
 obtain⟨aa,ca,H8,_⟩:=id ha;have HNK:Hid (∀V,Below w.heap.size w V->Calls Tryz.prog 30 #[.agg #[va,.slice ao hs.length cap,I en],I nf,I ns] V fun e w'=>∃s0 n0 q0 s1 n1 q1 s2 n2 q2 s3 n3 q3 hd,e=.returned (.tuple #[.agg #[.slice s0 n0 q0,.slice s1 n1 q1,.slice s2 n2 q2,.slice s3 n3 q3,I hd],I (sJ l hs en nf ns).2])/\Below V.heap.size V w'/\∃hs1 a,cA (sJ l hs en nf ns).1.aM hs1/\bc a (aU (sJ l hs en nf ns).1 hs1)=#[.slice s0 n0 q0,.slice s1 n1 q1,.slice s2 n2 q2,.slice s3 n3 q3,I hd]/\∀U,aC (fun b=>b<V.heap.size) w' U->jg U a (aU (sJ l hs en nf ns).1 hs1)):=fun V hV=>by
  refine(abF uD l hs en nf ns va ao cap V (ha.below hV) hf (h.below hV) Qd hcap he).mono ?_;intro e w' ho;obtain⟨hs1,a,g1,g2,g3,g4⟩:=ZB ho;exact⟨_,_,_,_,_,_,_,_,_,_,_,_,_,g2,g4,hs1,a,g1,rfl,g3⟩
 have HBG:Hid (∀V,Calls Tryz.prog 31 #[I en] V fun e w'=>e=.returned (.agg #[I 0,I 0,I 0,I 0,I 0,I 0,I 0,I 0,I en,I 1,I 0,I 0,I 0])/\Below V.heap.size V w'):=fun V=>XT en V
 obtain⟨N,hN⟩:=ex (sJ l hs en nf ns);have HRN:Hid (qo l hs en nf ns=if N.2=0 then (⟨N.1,[nE en],[]⟩,0) else (nB,N.2)):=by rw[hN];exact rfl
 rw[<- hN] at HNK;obtain⟨R,hR⟩:=ex (qo l hs en nf ns);rw[<- hR] at HRN ⊢;obtain⟨P,hP⟩:=ex (oo w R);have HP:Hid (∀e w',oo w R e w'->P e w'):=fun e w' h=>by rw[hP];exact h
 rw[<- hP];obtain⟨er,her⟩:=ex N.2;rw[<- her] at HNK HRN;obtain⟨nh,hnh⟩:=ex hs.length;rw[<- hnh] at HNK ⊢;subst H8;obtain⟨na,rH⟩:=ex l.length;rw[<- rH] at HNK ⊢;obtain⟨va,H8⟩:=ex (Value.slice aa na ca);have HVA:=ai H8;clear H8;have jm:=ai (((aK w.heap.size w).alloc (aD _) (.cells #[.slice aa na ca,.slice ao nh cap,I en] 25)).alloc (by simp) (.cells #[Nl,Nl,Nl,Nl,I 0,Nl,Nl] 34));have BX:=ai (bk (bB w #[.slice aa na ca,.slice ao nh cap,I en] 25) (.cells #[Nl,Nl,Nl,Nl,I 0,Nl,Nl] 34));have BZ:=ai (bB (w.alloc (.cells #[.slice aa na ca,.slice ao nh cap,I en] 25)) #[Nl,Nl,Nl,Nl,I 0,Nl,Nl] 34);clear ha hf h Qd hcap he hN hR hP her hnh rH HVA va;go_enter Tryz.func10,Tryz.ntmps10;go_wp2_with fail
 obtain⟨WA,lu⟩:=ex ((w.alloc (.cells #[.slice aa na ca,.slice ao nh cap,I en] 25)).alloc (.cells #[Nl,Nl,Nl,Nl,I 0,Nl,Nl] 34));have hsz1:(w.alloc (.cells #[.slice aa na ca,.slice ao nh cap,I en] 25)).heap.size=w.heap.size+1:=by simp
 rw[hsz1] at BZ;rw[<- lu] at jm BX BZ ⊢;obtain⟨x,hxe⟩:=ex w.heap.size;obtain⟨z,hze⟩:=ex (w.heap.size+1);rw[<- hze] at BZ ⊢;rw[<- hxe] at BX ⊢;have hxz:¬x=z:=by omega
 have hzx:¬z=x:=by omega
 have MR:Hid (∀V,Below WA.heap.size WA V->V.cell? (Ad x 0)=some (.slice aa na ca)/\V.cell? (Ad x 1)=some (.slice ao nh cap)/\V.cell? (Ad x 2)=some (I en)):=fun V hb=>GU (aN BX.o hb (aJ BX.o))
 have HZB:Hid (∀V,Below WA.heap.size WA V->V.heap[z]?=some (.cells #[Nl,Nl,Nl,Nl,I 0,Nl,Nl] 34 (0,0))):=fun V hb=>aN BZ.o hb (aJ BZ.o)
 have ahA:=aJ BZ.o;have HWZ:Hid (w.heap.size<=z):=(by rw[hze];omega:w.heap.size<=z);clear lu hsz1 hxe hze BX BZ;refine(HNK.o _ jm.o).mono ?_;rintro e w1 ⟨s0,n0,q0,s1,n1,q1,s2,n2,q2,s3,n3,q3,hd,rfl,hb1,hk1⟩;have cH:=ai hb1;have vI:=ai hk1;clear hb1 hk1 HNK;obtain⟨WX,hWX⟩:=ex (w1.alloc (.cells #[.slice s0 n0 q0,.slice s1 n1 q1,.slice s2 n2 q2,.slice s3 n3 q3,I hd] 30));have hbX:Below w1.heap.size w1 WX:=by rw[hWX];exact(aK _ _).alloc (aD _) _
 have hX:=bB w1 #[.slice s0 n0 q0,.slice s1 n1 q1,.slice s2 n2 q2,.slice s3 n3 q3,I hd] 30;rw[<- hWX] at hX;have JG:=ai (cH.o.trans (hbX.mono cH.o.size));have HWX:=ai hWX;have hz2:=HZB.o _ JG.o;obtain⟨z0,z1,z2,z3,z4,z5,z6⟩:=qF hz2;have f0:=aO hz2 0;have f1:=aO hz2 1;have f2:=aO hz2 2;have f3:=aO hz2 3;have f4:=aO hz2 4;have f5:=aO hz2 5;have f6:=aO hz2 6;have HX0:=ai hX;have akM:=ai hbX;rw[hWX] at z0 z1 z2 z3 z4 z5 z6 f0 f1 f2 f3 f4 f5 f6;clear hWX hbX hz2 hX;by_cases c:er=0
 · subst c;have Dl:Hid (R=(⟨N.1,[nE en],[]⟩,0)):=HRN;clear HRN;go_wp2_with fail
   rw[<- HWX.o];rw[<- HWX.o] at z0 z1 z2 z3 z4 z5 z6 f0 f1 f2 f3 f4 f5 f6;obtain⟨X,hXe⟩:=ex w1.heap.size;rw[<- hXe] at HX0 ⊢;have agv:Hid (∀V,Below WX.heap.size WX V->V.cell? (Ad X 0)=some (.slice s0 n0 q0)/\V.cell? (Ad X 1)=some (.slice s1 n1 q1)/\V.cell? (Ad X 2)=some (.slice s2 n2 q2)/\V.cell? (Ad X 3)=some (.slice s3 n3 q3)/\V.cell? (Ad X 4)=some (I hd)/\V.cell? (Ad x 2)=some (I en)):=fun V hb=>by
    obtain⟨k0,k1,k2,k3,k4⟩:=iT (aN HX0.o hb (aJ HX0.o));exact⟨k0,k1,k2,k3,k4,(MR.o V (JG.o.trans (hb.mono JG.o.size))).2.2⟩
   have nU:=ai (agv.o _ (aK WX.heap.size WX).drew);have hXz:¬X=z:=by have:=cH.o.size;omega
   have HXZ:=ai hXz;have arj:Hid (∀V,Below WX.heap.size WX V->Calls Tryz.prog 31 #[I en] V fun e w'=>e=.returned (.agg #[I 0,I 0,I 0,I 0,I 0,I 0,I 0,I 0,I en,I 1,I 0,I 0,I 0])/\Below WX.heap.size WX w'):=fun V hV=>(HBG.o V).mono fun e w' ⟨g1,g2⟩=>⟨g1,hV.trans (g2.mono hV.size)⟩
   have Yp:Hid (∀W,Below WX.heap.size WX W->∀V,aC (fun b=>b=z) (W.alloc (.cells #[I 0,I 0,I 0,I 0,I 0,I 0,I 0,I 0,I en,I 1,I 0,I 0,I 0] 77)) V->V.cell? (Ad X 0)=some (.slice s0 n0 q0)/\V.cell? (Ad X 1)=some (.slice s1 n1 q1)/\V.cell? (Ad X 2)=some (.slice s2 n2 q2)/\V.cell? (Ad X 3)=some (.slice s3 n3 q3)/\V.cell? (Ad X 4)=some (I hd)/\V.cell? (Ad x 2)=some (I en)):=fun W hW V hV=>by
    obtain⟨k0,k1,k2,k3,k4,k5⟩:=agv.o _ (hW.alloc hW.size (.cells #[I 0,I 0,I 0,I 0,I 0,I 0,I 0,I 0,I en,I 1,I 0,I 0,I 0] 77));exact⟨hV.cell k0 HXZ.o,hV.cell k1 HXZ.o,hV.cell k2 HXZ.o,hV.cell k3 HXZ.o,hV.cell k4 HXZ.o,hV.cell k5 hxz⟩
   have HZ7:Hid (∀W,Below WX.heap.size WX W->(W.alloc (.cells #[I 0,I 0,I 0,I 0,I 0,I 0,I 0,I 0,I en,I 1,I 0,I 0,I 0] 77)).heap[z]?=some (.cells #[Nl,Nl,Nl,Nl,I 0,Nl,Nl] 34 (0,0))):=fun W hW=>HZB.o _ (JG.o.trans ((hW.alloc hW.size _).mono JG.o.size))
   clear z0 z1 z2 z3 z4 z5 z6 f0 f1 f2 f3 f4 f5 f6 hXe hXz;refine xz (S:=fun V=>V.cell? (Ad X 0)=some (.slice s0 n0 q0)/\V.cell? (Ad X 1)=some (.slice s1 n1 q1)/\V.cell? (Ad X 2)=some (.slice s2 n2 q2)/\V.cell? (Ad X 3)=some (.slice s3 n3 q3)/\V.cell? (Ad X 4)=some (I hd)/\V.cell? (Ad x 2)=some (I en)) (z:=6) (by kernel_rfl) ?_;obtain⟨V0,hV0⟩:=ex WX.drew;have HV0:Hid (Below WX.heap.size WX V0):=by rw[hV0];exact(aK WX.heap.size WX).drew
   rw[<- hV0] at nU ⊢;clear hV0;refine iK 0 nU.o ?_ ?_ ?_;rotate_left 1
   · intro V h;obtain⟨k0,k1,k2,k3,k4,k5⟩:=h;go_simp
     try with_reducible rfl
   refine iK 1 nU.o ?_ ?_ ?_;rotate_left 1
   · intro V h;obtain⟨k0,k1,k2,k3,k4,k5⟩:=h;go_simp
     try with_reducible rfl
   refine iK 2 nU.o ?_ ?_ ?_;rotate_left 1
   · intro V h;obtain⟨k0,k1,k2,k3,k4,k5⟩:=h;go_simp
     try with_reducible rfl
   refine eH (rs:=[3]) (by kernel_rfl) (by simp) ?_;refine bo.cons rfl (fun K hK=>?_) bo.nil;go_simp
   go_at_call 31
   refine(arj.o _ HV0.o).mono ?_;rintro e w7 ⟨rfl,hb7⟩;have HK7:=ai hb7;clear hb7;go_simp;refine hK.out _ _ (fun _=>?_) ?_
   · exact agv.o _ HK7.o
   clear hK K
   try simp only[Act.put,dJ,dE,dz]
   refine eH (rs:=[4]) (by kernel_rfl) (by simp) ?_;refine bo.cons rfl (fun K hK=>?_) bo.nil;go_simp;refine hK.out _ _ (fun _=>?_) ?_
   · exact agv.o _ (HK7.o.alloc HK7.o.size _)
   clear hK K
   try simp only[Act.put,dJ,dE,dz]
   have HK8:=ai (HK7.o.alloc HK7.o.size (.cells #[I 0,I 0,I 0,I 0,I 0,I 0,I 0,I 0,I en,I 1,I 0,I 0,I 0] 77));have BP:=ai (bB w7 #[I 0,I 0,I 0,I 0,I 0,I 0,I 0,I 0,I en,I 1,I 0,I 0,I 0] 77);have HZ8:=ai (HZ7.o _ HK7.o);obtain⟨V8,hV8⟩:=ex (w7.alloc (.cells #[I 0,I 0,I 0,I 0,I 0,I 0,I 0,I 0,I en,I 1,I 0,I 0,I 0] 77));obtain⟨bP,Yh⟩:=ex w7.heap.size;have HBP:Hid (WX.heap.size<=bP):=(by rw[Yh];exact HK7.o.size:WX.heap.size<=bP);have aqD:Hid (∀V,aC (fun b=>b=z) V8 V->V.cell? (Ad X 0)=some (.slice s0 n0 q0)/\V.cell? (Ad X 1)=some (.slice s1 n1 q1)/\V.cell? (Ad X 2)=some (.slice s2 n2 q2)/\V.cell? (Ad X 3)=some (.slice s3 n3 q3)/\V.cell? (Ad X 4)=some (I hd)/\V.cell? (Ad x 2)=some (I en)):=by rw[hV8];exact Yp.o _ HK7.o
   rw[<- hV8] at HK8 BP HZ8 ⊢;rw[<- Yh] at BP ⊢;clear hV8 Yh;refine iK 5 (agv.o _ HK8.o) ?_ ?_ ?_;rotate_left 1
   · intro V h;obtain⟨k0,k1,k2,k3,k4,k5⟩:=h;go_simp
     try with_reducible rfl
   obtain⟨z0,z1,z2,z3,z4,z5,z6⟩:=qF HZ8.o;have f0:=aO HZ8.o 0;have f1:=aO HZ8.o 1;have f2:=aO HZ8.o 2;have f3:=aO HZ8.o 3;have f4:=aO HZ8.o 4;have f5:=aO HZ8.o 5;have f6:=aO HZ8.o 6;refine eH (rs:=[6]) (by kernel_rfl) (by simp) ?_;refine bo.cons rfl (fun K hK=>?_) bo.nil;go_simp;refine hK.out _ _ (fun g=>absurd rfl g) ?_;clear hK K
   try simp only[Act.put,dJ,dE,dz]
   refine eH (rs:=[7]) (by kernel_rfl) (by simp) ?_;refine bo.cons rfl (fun K hK=>?_) bo.nil;go_simp;refine hK.out _ _ (fun _=>?_) ?_
   · exact(aqD.o _ (nI _ z _ _ _ _ _ _ _))
   clear hK K
   try simp only[Act.put,dJ,dE,dz]
   refine rB (by kernel_rfl) ?_ _;go_wp2;refine bI (v:=.tuple #[.agg #[.slice s0 n0 q0,.slice s1 n1 q1,.slice s2 n2 q2,.slice s3 n3 q3,I hd,.slice (some (Ad bP 0)) 1 1,Nl],I 0]) (by simp[results,Tryz.results10,go_sem,z0,z1,z2,z3,z4,z5,z6]) rfl ?_;refine HP.o _ _ ?_;rw[Dl.o];have hk8:=nI V8 z (.slice s0 n0 q0) (.slice s1 n1 q1) (.slice s2 n2 q2) (.slice s3 n3 q3) (I hd) (.slice (some (Ad bP 0)) 1 1) Nl;obtain⟨hs1,a1,g1,g2,g3⟩:=vI.o;have hzb:¬bP=z:=by have:=HBP.o;have:=JG.o.size;omega
   have e7:eW (ir ⟨N.1,[nE en],[]⟩ hs1) a1 (some (Ad bP 0)) none 1 0=#[.slice s0 n0 q0,.slice s1 n1 q1,.slice s2 n2 q2,.slice s3 n3 q3,I hd,.slice (some (Ad bP 0)) 1 1,Nl]:=by
    have g2:=ed Array.toList g2;unfold bc at g2;unfold eW ir;simp only[ze] at g2 ⊢;obtain⟨b0,b1,b2,b3,b4,_⟩:=g2;simp only[b0,b1,b2,b3,b4,xN,Ph]
   have hwz:=HWZ.o;have hsz:=jm.o.size;have auI:=cH.o.size;have hsW:=akM.o.size;have apU:Below w1.heap.size w1 V8:=akM.o.trans (HK8.o.mono akM.o.size);have hW1:=JG.o.size;refine⟨hs1,a1,some (Ad bP 0),1,none,0,g1,by rw[e7],fun V hV=>?_,aC.below ((jm.o.trans (JG.o.mono jm.o.size)).trans (HK8.o.mono (by omega))) hk8 (by have:=HK8.o.size;omega) (fun b e=>by rw[e];exact hwz)⟩;have hkv:aC (fun b=>b<WX.heap.size) V8 V:=(hk8.mono (fun b _ e=>by omega)).trans (hV.mono (fun b _ g=>by omega)) (fun _ _ g=>g);have hkw:aC (fun b=>b<WA.heap.size) V8 V:=(hk8.mono (fun b _ e=>by omega)).trans (hV.mono (fun b _ g=>by omega)) (fun _ _ g=>g);exact⟨g3 V ((aC.bZ apU).trans hkw (fun _ _ g=>g)),ab1 (hkv.keep BP.o (by have:=HBP.o;omega)),fun g=>absurd g (jf _)⟩
 · have Dl:Hid (R=(nB,er)):=by rw[HRN.o,au c];exact rfl
   have cb:(er==0)=false:=by grind
   clear c HRN;go_wp2_with fail
   rw[<- HWX.o];rw[<- HWX.o] at z0 z1 z2 z3 z4 z5 z6 f0 f1 f2 f3 f4 f5 f6;refine bI (v:=.tuple #[.agg #[Nl,Nl,Nl,Nl,I 0,Nl,Nl],I er]) (by simp[results,Tryz.results10,go_sem,z0,z1,z2,z3,z4,z5,z6]) rfl ?_;refine HP.o _ _ ?_;rw[Dl.o];exact C2 er (aC.below (jm.o.trans (JG.o.mono jm.o.size)) (nI WX z _ _ _ _ _ _ _) (gu jm.o.size JG.o.size) (fun b e=>by rw[e];exact HWZ.o))
open Go.RowKit
def C7:ByteArray:=⟨#[16,0,0,0,5,0,0,0,11,1,0,0,40,0,0,0]⟩
def C6:ByteArray:=⟨#[10,0,1,8,0,0,0,0,9,0,1,1,0,0,0,0]⟩
def C5:ByteArray:=⟨#[16,0,0,0,1,0,0,0,16,0,0,0,6,0,0,0]⟩
def ajm:ByteArray:=⟨#[0,0,0,0,0,0,0,0,0,0,0,0,0,0,0,0]⟩
def Xy:List aY:=[⟨1,4,3,false⟩]
def acn (a1 a2 a3 a4:Option Addr) (c1 c2 c3 c4:Nat):List bG:=[⟨1,C7,[],a1,c1⟩,⟨2,C6,[],a2,c2⟩,⟨3,C5,[],a3,c3⟩,⟨4,ajm,[],a4,c4⟩]
def qG:List Int:=[0,1,0,1,0,1,0,1,0,1,0,1,0,1]
variable {σ:Type}
def Hz (s:df σ):Nat×Nat×Int×Int×Int×Int:=(s.ps.length,s.out.length,(pP s.out 0).value,(pP s.out 1).value,(aI s.ps 1).st,(aI s.ps 1).cd)
def MW:df rV:=⟨⟨8,[⟨true,Xy,[⟨1,C7⟩,⟨2,C6⟩,⟨3,C5⟩,⟨4,ajm⟩]⟩]⟩,[nE 16],[]⟩
theorem T7:(fZ Ez qG 14 (some MW)).map Hz=some (2,2,0,1,2,0):=by kernel_rfl
variable (a1 a2 a3 a4:Option Addr) (c1 c2 c3 c4:Nat)
def aco:df aR:=⟨nj Xy (acn a1 a2 a3 a4 c1 c2 c3 c4) 3 8,[nE 16],[]⟩
theorem aex:lG Xy (acn a1 a2 a3 a4 c1 c2 c3 c4) 16=0:=by kernel_rfl
theorem Ew {Ok:σ->List Bool->Prop} {m:σ} {en:Int} (he:cN en) (h:Ok m [true]):dh Ok (⟨m,[nE en],[]⟩:df σ):=by
 refine⟨h,fun k hk=>?_,fun k hk=>?_,fun x hx=>(by cases hx),sD _⟩
 · have:k=0:=by have hk:k<1:=hk;omega
   subst this;exact⟨fun j hj=>⟨by show -9223372036854775808<=(0:Int);omega,by show(0:Int)<=9223372036854775807;omega⟩,he⟩
 · have:k=0:=by have hk:k<1:=hk;omega
   subst this;rfl
theorem akL:qI MW.mem [true]:=by
 have hr:ji MW.mem.aj=4:=by kernel_rfl
 have h1:lY (bq MW.mem.aj 0)=true:=by kernel_rfl
 refine⟨rfl,fun k hk=>?_,by rw[hr];show(4:Int)<=8;omega,⟨by show(0:Int)<=8;omega,by show(8:Int)<=512;omega⟩,⟨by show 1<=1;omega,by show 1<=4;omega⟩⟩;have:k=0:=by have hk:k<1:=hk;omega
 subst this;exact h1
theorem agS:∃s,fZ cI qG 14 (some (aco a1 a2 a3 a4 c1 c2 c3 c4))=some s/\Hz s=(2,2,0,1,2,0):=by
 have L:=Z6 (aex a1 a2 a3 a4 c1 c2 c3 c4);have hR:=I2 (nf:=3) (ns:=8) L (by omega) (by omega) (by omega) (by omega) (by show(4:Int)<=8;omega);have e:=Xk N9 Z7 il acv (s:=aco a1 a2 a3 a4 c1 c2 c3 c4) (s':=MW) (Ew ⟨by omega,by omega⟩ ⟨hR,rfl⟩) (Ew ⟨by omega,by omega⟩ akL) (by
  show(⟨cO (nj Xy (acn a1 a2 a3 a4 c1 c2 c3 c4) 3 8),_,_⟩:df pj)=_;rw[acf L (by omega)];rfl) qG 14
 have f:=T7;cases g:fZ Ez qG 14 (some MW) with
 | none=>rw[g] at f;cases f
 | some s' =>
  rw[g] at e f;cases g2:fZ cI qG 14 (some (aco a1 a2 a3 a4 c1 c2 c3 c4)) with
  | none=>rw[g2] at e;cases e
  | some s =>
   rw[g2] at e;refine⟨s,rfl,?_⟩;have e:iN cO s=iN gA s':=by injection e
   have f:Hz s'=(2,2,0,1,2,0):=by injection f
   have ep:s.ps=s'.ps:=ed df.ps e;have eo:s.out=s'.out:=ed df.out e;rw[<- f];unfold Hz;rw[ep,eo]
open Go.RowKit
def jY (N:Nat) (m:gQ) (c:Array Value) (w:World):Prop:=∃hs a ar cr ao co,cA m.fF.aM hs/\c=eW (ir m hs) a ar ao cr co/\∀U,aC (fun b=>b<N) w U->ry U a ar ao (ir m hs)
theorem jY.cells {N:Nat} {m:gQ} {c:Array Value} {w:World} (h:jY N m c w):∃s0 n0 q0 s1 n1 q1 s2 n2 q2 s3 n3 q3 hd s5 q5 s6 q6,c=#[.slice s0 n0 q0,.slice s1 n1 q1,.slice s2 n2 q2,.slice s3 n3 q3,I hd,.slice s5 m.procs.length q5,.slice s6 m.out.length q6]:=by
 obtain⟨hs,a,ar,cr,ao,co,_,h2,_⟩:=h;exact⟨_,_,_,_,_,_,_,_,_,_,_,_,_,ar,cr,ao,co,h2⟩
theorem jY.later {N:Nat} {m:gQ} {c:Array Value} {w U:World} (h:jY N m c w) (g:aC (fun b=>b<N) w U):jY N m c U:=by
 obtain⟨hs,a,ar,cr,ao,co,h1,h2,h3⟩:=h;exact⟨hs,a,ar,cr,ao,co,h1,h2,fun V hV=>h3 V (g.trans hV (fun _ _ x=>x))⟩
theorem jY.below {N:Nat} {m:gQ} {c:Array Value} {w U:World} (h:jY N m c w) (g:Below w.heap.size w U):jY N m c U:=h.later (aC.bZ g)
theorem Hw {w w':World} {r:gQ×Int} {e:Ending} (h:oo w r e w'):∃c,e=.returned (.tuple #[.agg c,I r.2])/\jY w.heap.size r.1 c w'/\Below w.heap.size w w':=by
 obtain⟨hs,a,ar,cr,ao,co,h1,h2,h3,h4⟩:=h;exact⟨_,h2,⟨hs,a,ar,cr,ao,co,h1,rfl,h3⟩,h4⟩
theorem N5 {w w':World} {r:gQ×Int} {hs:List bG} {e:Ending} (s:cA r.1.fF.aM hs) (h:oo w (ir r.1 hs,r.2) e w'):oo w r e w':=by
 obtain⟨hs2,a,ar,cr,ao,co,h1,h2,h3,h4⟩:=h;exact⟨hs2,a,ar,cr,ao,co,s.trans h1,h2,h3,h4⟩
theorem Rv {m:gQ} (h:dh dn (dC m)):m.procs.length<=4:=by
 have:=il.few _ _ h.mem;simpa [bV,dC] using this
theorem Z0 {m:gQ} (h:dh dn (dC m)):Bu m:=⟨om h.mem.right,by have:=Rv h;unfold b7;omega,by have:m.out.length<=2000:=h.out;unfold b7;omega⟩
variable {N:Nat} {m:gQ} {c:Array Value} {U:World}
def LM (w:World) (r:gQ×Int) (e:Ending) (w':World):Prop:=∃c,e=.returned (.tuple #[.agg c,I r.2])/\jY w.heap.size r.1 c w'/\Below w.heap.size w w'
theorem N3 (h:jY N m c U) (hg:dh dn (dC m)) (picks:List Int) (ap:Option Addr) (cp:Nat) (hn:tZ U ap picks) (hps:0<picks.length->∀b,ap=some b->b.block<U.heap.size) (hpl:picks.length<=140737488351232) :
  Calls Tryz.prog 20 #[.agg c,.slice ap picks.length cp] U (LM U (ij m picks)):=by
 obtain⟨hs,a,ar,cr,ao,co,h1,rfl,h3⟩:=h;have g':dh dn (dC (ir m hs)):=Bw hg h1;obtain⟨hs',s1,s2⟩:=ZZ hg h1 picks;refine(abZ (ir m hs) picks ap cp a ar ao cr co U (h3 U (aC.refl _ _)) (Z0 g') g'.fit hn hps hpl).mono fun e w' ho=>?_
 rw[s2] at ho;exact Hw (N5 s1 ho)
theorem Xd (h:jY N m c U) (hg:dh dn (dC m)) (pick:Int) :
  Calls Tryz.prog 17 #[.agg c,I pick] U (LM U (iG m pick)):=by
 obtain⟨hs,a,ar,cr,ao,co,h1,rfl,h3⟩:=h;have g':dh dn (dC (ir m hs)):=Bw hg h1;obtain⟨hs',s1,s2⟩:=Xc hg h1 pick;refine(NT (ir m hs) pick a ar ao cr co U (h3 U (aC.refl _ _)) (Z0 g') g'.fit).mono fun e w' ho=>?_
 rw[s2] at ho;exact Hw (N5 s1 ho)
theorem LI {v0 v1 v2 v3 v4 v5 v6:Value} (h:jY N m #[v0,v1,v2,v3,v4,v5,v6] U) (hg:dh dn (dC m)) (i:Nat) (hi:i<=4) (p:Int) :
  Calls Tryz.prog 29 #[.agg #[v0,v1,v2,v3,v4],I i,I p] U fun e w'=>e=.returned (.tuple #[.string (oW (cO m.fF) i p).1,I (oW (cO m.fF) i p).2])/\Below U.heap.size U w':=by
 obtain⟨hs,a,ar,cr,ao,co,h1,h2,h3⟩:=h;have e:#[v0,v1,v2,v3,v4]=bc a (aU m.fF hs):=by
  unfold eW at h2;simp only[Array.mk.injEq,ze,AJ] at h2;obtain⟨rfl,rfl,rfl,rfl,rfl,_,_⟩:=h2;rfl
 have hr:aW m.fF:=hg.mem.right;have q:=Zg (aU m.fF hs) a (i:Int) p U (h3 U (aC.refl _ _)).fF (om (hr.vJ h1)) ⟨by omega,by omega⟩;rw[Re hr h1,Xm hr] at q;rw[e];exact q
theorem N6 (l:List aY) (hs:List bG) (en nf ns:Int) (va:Value) (ao:Option Addr) (cap:Nat) (w:World) (ha:gD w va l) (hf:dO l) (h:jB w ao hs) (Qd:rM hs) (hcap:hs.length<=cap) (he:cN en) :
  Calls Tryz.prog 10 #[.agg #[va,.slice ao hs.length cap,I en],I nf,I ns] w (LM w (qo l hs en nf ns)) :=
 (ab0 l hs en nf ns va ao cap w ha hf h Qd hcap he).mono fun e w' ho=>Hw ho
theorem LJ (l:List aY) (hs:List bG) (en nf ns:Int) (he:cN en):((qo l hs en nf ns).2≠0)∨(lG l hs en=0/\3<=nf/\nf<=64/\0<=ns/\ns<=512/\bh l<=ns/\qo l hs en nf ns=(⟨nj l hs nf ns,[nE en],[]⟩,0)/\dh dn (dC ⟨nj l hs nf ns,[nE en],[]⟩)):=by
 by_cases c:(sJ l hs en nf ns).2=0
 · right;have hk:lG l hs en=0/\3<=nf/\nf<=64/\0<=ns/\ns<=512/\bh l<=ns/\sJ l hs en nf ns=(nj l hs nf ns,0):=by
    unfold sJ at c ⊢;by_cases c1:lG l hs en=0
    · rw[au (fun x=>x c1)] at c ⊢;by_cases c3:nf<3
      · rw[aB c3] at c;cases c
      rw[au c3] at c ⊢;by_cases cr:nf>64∨ns<0∨ns>512
      · rw[aB cr] at c;cases c
      rw[au cr] at c ⊢;by_cases ct:bh l>ns
      · rw[aB ct] at c;cases c
      rw[au ct] at c ⊢;exact⟨c1,by omega,by omega,by omega,by omega,by omega,rfl⟩
    · rw[aB c1] at c;exact absurd c c1
   obtain⟨g1,g2,g3,g4,g5,g6,g7⟩:=hk;have e:qo l hs en nf ns=(⟨nj l hs nf ns,[nE en],[]⟩,0):=by unfold qo;rw[g7];rfl
   exact⟨g1,g2,g3,g4,g5,g6,e,Ew he ⟨I2 (Z6 g1) g2 g3 g4 g5 g6,rfl⟩⟩
 · left;unfold qo;rw[au c];exact c
open Go.RowKit
theorem Ru {m:gQ} (h:dh dn (dC m)) (picks:List Int):(ij m picks).2=0∨((ij m picks).2=2/\(ij m picks).1=nB):=by
 rcases LH h picks with e | ⟨s,_,_,_,e⟩
 · rw[e];exact .inr ⟨rfl,rfl⟩
 · rw[e];exact .inl rfl
theorem N4 {m:gQ} (h:dh dn (dC m)) {picks:List Int} (g:(ij m picks).2=0):dh dn (dC (ij m picks).1):=by
 rcases LH h picks with e | ⟨s,_,_,e2,e⟩
 · rw[e] at g;cases g
 · rw[e];exact e2
theorem ZX {m:gQ} (h:dh dn (dC m)) (pick:Int):(iG m pick).2=0∨(iG m pick).2=2∨(iG m pick).2=6:=by
 rcases uI h pick with⟨c,e⟩ | ⟨c,e⟩
 · rw[e];show(dm cI (dC m) pick).1=0∨(dm cI (dC m) pick).1=2∨(dm cI (dC m) pick).1=6;unfold dm
   repeat' split
   all_goals first
    | exact .inr (.inr rfl)
    | exact .inl rfl
    | exact .inr (.inl rfl)
    | (simp only[];split <;> exact .inl rfl)
 · rw[e];exact .inl rfl
theorem TQ {m:gQ} (h:dh dn (dC m)) {pick:Int} (g:(iG m pick).2=0):0<=pick/\dh dn (dC (iG m pick).1)/\m.procs.length<=(iG m pick).1.procs.length/\∀i:Nat,i<m.procs.length->¬(i:Int)=pick->aI (iG m pick).1.procs i=aI m.procs i/\∀p,oW (cO (iG m pick).1.fF) i p=oW (cO m.fF) i p:=by
 rcases uI h pick with⟨c,e⟩ | ⟨c,e⟩
 · rw[e] at g;exact absurd g c
 · have hp:0<=pick:=by
    unfold dm at c;by_cases q:0<=pick/\pick<((dC m).ps.length:Int)
    · exact q.1
    · rw[aB q] at c;cases c
   have L:=acd cI (dC m) pick;have A:=TY (iN cO (dC m)) pick;rw[Gr N9 il h pick] at A;have A:mZ (cO m.fF) (cO (dm cI (dC m) pick).2.mem) pick.toNat:=A;have hl:m.procs.length=m.fF.aj.length:=by
    have:=ed List.length h.mem.flags;simpa [bV,dC] using this
   rw[e];refine⟨hp,JH il h pick,L.len,fun i hi hne=>⟨L.ps i (by omega) hi,fun p=>?_⟩⟩;have:=A.sp i (by omega) (by rw[oX];omega);unfold oW;show(if (aV (fO (cO (dm cI (dC m) pick).2.mem).yN i).aT p).2=true then _ else _)=_;rw[show(cO (ru (dm cI (dC m) pick).2).fF)=cO (dm cI (dC m) pick).2.mem from rfl,this]
open Go.RowKit
structure QA (l:List kr) (ao:Option Addr) (w:World):Prop where
 has:KM w ao l
 few:l.length<=1000
 chk:∀k,k<l.length->mC (dR l k).i=0
 fit:∀k,k<l.length->Kj (dR l k).i
 base:∀k,k<l.length->1<=(dR l k).base/\(dR l k).base<=2000
theorem QA.below {l:List kr} {ao:Option Addr} {w w':World} (h:QA l ao w) (hb:Below w.heap.size w w'):QA l ao w':=⟨h.has.below hb,h.few,h.chk,h.fit,h.base⟩
open Go.RowKit
open Go.RowKit
open Go.RowKit
open Go.RowKit
open Go.RowKit
open Go.RowKit
open Go.RowKit
open Go.RowKit
theorem ag2:(Tryz.prog.info? 3).map (fun i=>i.size)=some 1:=by kernel_rfl
theorem aeM (a0 a1 a2 a3 a4 a5 a6 a7:Int) (V:World):(Op.equalIn 9999 73 (.agg #[I a0,I a1,I a2,I a3,I a4,I a5,I a6,I a7]) (.agg #[I a0,I a1,I a2,I a3,I a4,I a5,I a6,I a7])).run Tryz.prog V=.ok true V:=by
 obtain⟨i,hi,hs⟩:∃i,Tryz.prog.info? 3=some i/\i.size=1:=by
  have h:=ag2;cases hq:Tryz.prog.info? 3 with
  | none=>rw[hq] at h;cases h
  | some i=>rw[hq] at h;exact⟨i,rfl,Option.some.inj h⟩
 rw[run_equalIn_array (w:=V) 9998 _ _ Tryz.underlying73 hi];have hc:Tryz.prog.cellsOf 3=1:=by kernel_rfl
 have hpt:∀(xs:Array Value) (o:Nat) (v:Value) (U:World),xs[o]?=some v->(part 3 xs o).run Tryz.prog U=.ok v U:=fun xs o v U h=>by simp[part,go_sem,h]
 have hei:∀(x:Int) (U:World),(Op.equalIn 9998 3 (I x) (I x)).run Tryz.prog U=.ok true U:=fun x U=>by simpa using run_equalIn_int U 9997 3 .i64 .i64 x x Tryz.underlying3
 rw[hc];simp[Op.eqItems,hpt,hei,Py]
open Go.RowKit
open Go.RowKit
def Hx (w:World) (m:gQ) (er:Int) (e:Ending) (w':World):Prop:=∃s0 n0 q0 s1 n1 q1 s2 n2 q2 s3 n3 q3 hd s5 q5 s6 q6,e=.returned (.tuple #[.agg #[.slice s0 n0 q0,.slice s1 n1 q1,.slice s2 n2 q2,.slice s3 n3 q3,I hd,.slice s5 m.procs.length q5,.slice s6 m.out.length q6],I er])/\jY w.heap.size m #[.slice s0 n0 q0,.slice s1 n1 q1,.slice s2 n2 q2,.slice s3 n3 q3,I hd,.slice s5 m.procs.length q5,.slice s6 m.out.length q6] w'/\Below w.heap.size w w'
theorem LO {w:World} {r:gQ×Int} {e:Ending} {w':World} (h:LM w r e w'):Hx w r.1 r.2 e w':=by
 obtain⟨c,h1,h2,h3⟩:=h;obtain⟨s0,n0,q0,s1,n1,q1,s2,n2,q2,s3,n3,q3,hd,s5,q5,s6,q6,rfl⟩:=h2.cells;exact⟨s0,n0,q0,s1,n1,q1,s2,n2,q2,s3,n3,q3,hd,s5,q5,s6,q6,h1,h2,h3⟩
def PV (x:Nat) (m:gQ) (c:Array Value) (W:World):Prop:=W.heap[x]?=some (.cells c 34 (0,0))/\∃N,jY N m c W
theorem JE {N:Nat} {m:gQ} {c:Array Value} {w:World} (h:jY N m c w):PV w.heap.size m c (w.alloc (.cells c 34)):=⟨bB w c 34,N,h.later (aC.alloc _ _ _)⟩
theorem PV.below {x:Nat} {m:gQ} {c:Array Value} {W V:World} (h:PV x m c W) (g:Below W.heap.size W V):PV x m c V:=by
 obtain⟨h1,N,h2⟩:=h;exact⟨aN h1 g (aJ h1),N,h2.below g⟩
variable {N N':Nat} {m m':gQ} {U:World} {v0 v1 v2 v3 v4 v5 v6 u0 u1 u2 u3 u4 u5 u6:Value}
theorem aag {a b c d e f g a' b' c' d' e' f' g':Value} (h:#[a,b,c,d,e,f,g]=#[a',b',c',d',e',f',g']):#[a,b,c,d,e]=#[a',b',c',d',e']/\f=f'/\g=g':=by
 simp only[Array.mk.injEq,ze,AJ] at h ⊢;obtain⟨h1,h2,h3,h4,h5,h6,h7⟩:=h;exact⟨⟨h1,h2,h3,h4,h5⟩,h6,h7⟩
open Go.RowKit
end Go.Proofs.YtlgoihmkgaaemaaGreat
