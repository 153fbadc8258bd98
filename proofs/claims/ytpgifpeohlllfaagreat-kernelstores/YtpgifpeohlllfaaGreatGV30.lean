import Derived.Test.YtpgifpeohlllfaaGreatGV29
set_option maxHeartbeats 20000000
set_option linter.unusedVariables false
set_option maxRecDepth 100000
set_option linter.unusedSimpArgs false
namespace Go.Proofs.YtpgifpeohlllfaaGreat
namespace Go.Proofs.YtpgifpeohlllfaaGreat
open Go.RowKit
theorem CT {lo mb:Nat} {tt:TypeId} {X:List Value} (k:aN) (S:dN) (w:World) (e:bC) (h:bQ lo mb tt X w S k) (h1:e.kind=1->0<=e.loc/\e.loc<(k.frames.length:Int)) (h2:e.kind≠1->0<=e.loc/\e.loc<(k.slots.length:Int))
  (hr:(e.kind=1->-1000000<=(au k.frames e.loc.toNat).refs/\(au k.frames e.loc.toNat).refs<=1000000)/\(e.kind≠1->-1000000<=(bw k.slots e.loc.toNat).refs/\(bw k.slots e.loc.toNat).refs<=1000000)) :
  Calls Tryz.prog 81 #[.pointer (some (Ad mb 0)),lZ e] w (kW lo mb tt X w S (.tuple #[]) (df k e)):=by
 obtain⟨pg,kd,lc⟩:=e;unfold lZ;simp only at h1 h2 hr ⊢;have eO:=ai ((aK w.heap.size w).alloc (aM _) (.cells #[I pg,I kd,I lc] 45));have EB:=ai (bG w #[I pg,I kd,I lc] 45);have HM:=ai (h.below eO.o);have HC0:Hid (dI S w S (w.alloc (.cells #[I pg,I kd,I lc] 45))):=dI.below eO.o;have Kt:Hid (∀V:World,Below V.heap.size V V.drew):=fun V=>(aK _ _).drew
 obtain⟨WA,iK⟩:=ex (w.alloc (.cells #[I pg,I kd,I lc] 45));rw[<- iK] at eO EB HM HC0;obtain⟨eb,L6⟩:=ex w.heap.size;have nE:S.lab eb=.no:=by rw[L6];exact h.toiZ.new (aM _)
 have iG:=ai iK;have HEB:=ai L6;rw[<- L6] at EB;obtain⟨P,hP⟩:=ex (kW lo mb tt X w S (.tuple #[]) (df k ⟨pg,kd,lc⟩));rw[<- hP];have HPP:=ai hP;clear hP iK L6;by_cases c:kd=1
 · obtain⟨i,rfl⟩:∃i:Nat,lc=(i:Int):=⟨lc.toNat,by omega⟩;have hi:i<k.frames.length:=by omega
   obtain⟨fb,cF,A⟩:=HM.o.toiZ.fr (by omega);have zy:=hr.1 c;rw[iu] at zy;have hk:df k ⟨pg,kd,(i:Int)⟩={ k with frames:=k.frames.set i (nO (au k.frames i)) }:=by
    grind [df]
   rw[hk] at HPP;have nF:S.lab fb=.frames:=A.lab;have hne:¬fb=eb:=fun e=>by grind
   have x1:=A.x1 i hi;have c1:=HM.o.c1;rw[A.v] at c1;have e0:WA.cell? (Ad eb 1)=some (I kd):=aB EB.o 1 rfl;have e2:WA.cell? (Ad eb 2)=some (I (i:Int)):=aB EB.o 2 rfl;have MU:(i:Int)<(k.frames.length:Int):=by omega
   have f1:=A.fz (i*4+1);have m1:=HM.o.Ch A.v hi (j:=1) (by omega) (f:=⟨(au k.frames i).data,(au k.frames i).refs-1,(au k.frames i).fN,(au k.frames i).seen⟩) (u:=I ((au k.frames i).refs-1)) rfl;have ch1:=HC0.o.trans (tV HM.o.toiZ A.v (i:=i*4+1) (u:=I ((au k.frames i).refs-1)));have JY:=ai (m1.below (Kt.out _));have Ht:=ai (ch1.trans (dI.below (Kt.out _)));have EB1:=ai (aQ (jT EB.o fb (i*4+1) (I ((au k.frames i).refs-1)) (fun e=>hne e.symm)) (Kt.out _) (by rw[World.size_setCell];exact aO EB.o));have HAV:=ai A.v;obtain⟨n,hn⟩:=ex k.frames.length;have HNN:=ai hn;rw[<- hn] at c1 MU;have kb:(kd==1)=true:=by grind
   obtain⟨R,hR⟩:=ex ((au k.frames i).refs);have qj:=ai hR;rw[<- hR] at x1 zy JY Ht EB1;have hw:IntKind.i64.wrap (R-1)=R-1:=mP _ (by omega);have HI:=ai hi;clear h1 h2 hr h hk hn hR nE nF m1 ch1 A HM HC0 EB c;go_enter Tryz.func81,Tryz.ntmps81;go_upto_region 1 with fail;rw[<- iG.o,<- HEB.o];go_upto_region 2 with fail;go_region;go_upto_region 3 with fail;obtain⟨W1,hW1⟩:=ex ((WA.setCell (Ad fb (i*4+1)) (I (R-1))).drew);rw[<- hW1] at JY Ht EB1 ⊢;clear hW1 x1 c1 e0 e2 f1;obtain⟨fb',cF',A1⟩:=JY.o.toiZ.fr (by grind);obtain rfl:fb=fb':=by have ev:=HAV.o.symm.trans A1.v;grind
   have hi':i<(k.frames.set i ⟨(au k.frames i).data,R-1,(au k.frames i).fN,(au k.frames i).seen⟩).length:=by grind
   have y1:W1.cell? (Ad fb (i*4+1))=some (I (R-1)):=by
    have:=A1.x1 i hi';rw[show au (k.frames.set i ⟨(au k.frames i).data,R-1,(au k.frames i).fN,(au k.frames i).seen⟩) i=⟨(au k.frames i).data,R-1,(au k.frames i).fN,(au k.frames i).seen⟩ from eX _ _ _ _ HI.o] at this;omega
   have y0:=A1.x0 i hi';have y2:=A1.x2 i hi';have y3:=A1.x3 i hi';have g0:=A1.fz (i*4);have g1:=A1.fz (i*4+1);have g2:=A1.fz (i*4+2);have g3:=A1.fz (i*4+3);have c1:=JY.o.c1;rw[HAV.o,<- HNN.o] at c1;have e2:W1.cell? (Ad eb 2)=some (I (i:Int)):=aB EB1.o 2 rfl;clear A1 hi';by_cases z:R-1=0
   · have zb:(R-1==0)=true:=by grind
     have HZ:=ai z;clear z;go_region;go_upto_region 4 with fail;go_region;go_wp2;refine bR (v:=.tuple #[]) (by simp[results,Tryz.results81,go_sem]) rfl ?_;rw[HPP.o];have l1:=JY.o.WW HAV.o (i:=i) (by grind) gD;have l2:nO (au k.frames i)=gD:=by unfold nO;rw[<- qj.o,bf HZ.o]
     rw[l2];simp only[rh] at l1;exact⟨rfl,(l1.1.below (Kt.out _)).below (Kt.out _),((Ht.o.trans l1.2).trans (dI.below (Kt.out _))).trans (dI.below (Kt.out _))⟩
   · have zb:(R-1==0)=false:=by grind
     have HZ:=ai z;clear z;go_region;go_wp2;refine bR (v:=.tuple #[]) (by simp[results,Tryz.results81,go_sem]) rfl ?_;rw[HPP.o];have l2:nO (au k.frames i)=⟨(au k.frames i).data,R-1,(au k.frames i).fN,(au k.frames i).seen⟩:=by unfold nO;rw[<- qj.o,bl HZ.o]
     rw[l2];exact⟨rfl,JY.o.below (Kt.out _),Ht.o.trans (dI.below (Kt.out _))⟩
 · obtain⟨i,rfl⟩:∃i:Nat,lc=(i:Int):=⟨lc.toNat,by omega⟩;have hi:i<k.slots.length:=by omega
   obtain⟨fb,cF,A⟩:=HM.o.toiZ.sl (by omega);have zy:=hr.2 c;rw[iu] at zy;have hk:df k ⟨pg,kd,(i:Int)⟩={ k with slots:=k.slots.set i (pd (bw k.slots i)) }:=by
    grind [df]
   rw[hk] at HPP;have nF:S.lab fb=.slots:=A.lab;have hne:¬fb=eb:=fun e=>by grind
   have x1:=A.x1 i hi;have c1:=HM.o.c2;rw[A.v] at c1;have e0:WA.cell? (Ad eb 1)=some (I kd):=aB EB.o 1 rfl;have e2:WA.cell? (Ad eb 2)=some (I (i:Int)):=aB EB.o 2 rfl;have MU:(i:Int)<(k.slots.length:Int):=by omega
   have f1:=A.fz (i*2+1);have m1:=HM.o.acD A.v hi (j:=1) (by omega) (f:=⟨(bw k.slots i).data,(bw k.slots i).refs-1⟩) (u:=I ((bw k.slots i).refs-1)) rfl;have ch1:=HC0.o.trans (Vj HM.o.toiZ A.v (i:=i*2+1) (u:=I ((bw k.slots i).refs-1)));have JY:=ai (m1.below (Kt.out _));have Ht:=ai (ch1.trans (dI.below (Kt.out _)));have EB1:=ai (aQ (jT EB.o fb (i*2+1) (I ((bw k.slots i).refs-1)) (fun e=>hne e.symm)) (Kt.out _) (by rw[World.size_setCell];exact aO EB.o));have HAV:=ai A.v;obtain⟨n,hn⟩:=ex k.slots.length;have HNN:=ai hn;rw[<- hn] at c1 MU;have kb:(kd==1)=false:=by grind
   obtain⟨R,hR⟩:=ex ((bw k.slots i).refs);have qj:=ai hR;rw[<- hR] at x1 zy JY Ht EB1;have hw:IntKind.i64.wrap (R-1)=R-1:=mP _ (by omega);have HI:=ai hi;clear h1 h2 hr h hk hn hR nE nF m1 ch1 A HM HC0 EB c;go_enter Tryz.func81,Tryz.ntmps81;go_upto_region 1 with fail;rw[<- iG.o,<- HEB.o];go_upto_region 5 with fail;go_region;go_upto_region 6 with fail;obtain⟨W1,hW1⟩:=ex ((WA.setCell (Ad fb (i*2+1)) (I (R-1))).drew);rw[<- hW1] at JY Ht EB1 ⊢;clear hW1 x1 c1 e0 e2 f1;obtain⟨fb',cF',A1⟩:=JY.o.toiZ.sl (by grind);obtain rfl:fb=fb':=by have ev:=HAV.o.symm.trans A1.v;grind
   have hi':i<(k.slots.set i ⟨(bw k.slots i).data,R-1⟩).length:=by grind
   have y1:W1.cell? (Ad fb (i*2+1))=some (I (R-1)):=by
    have:=A1.x1 i hi';rw[show bw (k.slots.set i ⟨(bw k.slots i).data,R-1⟩) i=⟨(bw k.slots i).data,R-1⟩ from eX _ _ _ _ HI.o] at this;omega
   have y0:=A1.x0 i hi';have g0:=A1.fz (i*2);have g1:=A1.fz (i*2+1);have c1:=JY.o.c2;rw[HAV.o,<- HNN.o] at c1;have e2:W1.cell? (Ad eb 2)=some (I (i:Int)):=aB EB1.o 2 rfl;clear A1 hi';by_cases z:R-1=0
   · have zb:(R-1==0)=true:=by grind
     have HZ:=ai z;clear z;go_region;go_upto_region 7 with fail;go_region;go_wp2;refine bR (v:=.tuple #[]) (by simp[results,Tryz.results81,go_sem]) rfl ?_;rw[HPP.o];have l1:=JY.o.agq HAV.o (i:=i) (by grind) nU;have l2:pd (bw k.slots i)=nU:=by unfold pd;rw[<- qj.o,bf HZ.o]
     rw[l2];simp only[rh] at l1;exact⟨rfl,(l1.1.below (Kt.out _)).below (Kt.out _),((Ht.o.trans l1.2).trans (dI.below (Kt.out _))).trans (dI.below (Kt.out _))⟩
   · have zb:(R-1==0)=false:=by grind
     have HZ:=ai z;clear z;go_region;go_wp2;refine bR (v:=.tuple #[]) (by simp[results,Tryz.results81,go_sem]) rfl ?_;rw[HPP.o];have l2:pd (bw k.slots i)=⟨(bw k.slots i).data,R-1⟩:=by unfold pd;rw[<- qj.o,bl HZ.o]
     rw[l2];exact⟨rfl,JY.o.below (Kt.out _),Ht.o.trans (dI.below (Kt.out _))⟩
theorem CU {lo:Nat} {w:World} {S:dN} {k:aN} (h:iZ lo w S k) (hlo:lo<=w.heap.size):bQ lo w.heap.size 27 [] (w.alloc (.cells #[S.vS,S.vF,S.vL,S.vP,I k.hand] 27)) ⟨fun b=>if b=w.heap.size then .head else S.lab b,S.vS,S.vF,S.vL,S.vP,S.L⟩ k:=by
 have hb:Below w.heap.size w (w.alloc (.cells #[S.vS,S.vF,S.vL,S.vP,I k.hand] 27)):=(aK _ _).alloc (aM _) _;have g:=h.below hb;have old:∀b c,S.lab b=c->c≠.no->(if b=w.heap.size then iH.head else S.lab b)=c:=fun b c e hc=>by
  grind [iZ.qF]
 refine⟨⟨fun b hx=>?_,g.aA,g.dn,g.frames,g.slots,g.aj,g.len,g.each,fun b hx=>old b _ (h.lS b hx) (by simp),fun i hi b hx=>old b _ (h.lX i hi b hx) (by simp),fun b hx=>old b _ (h.lF b hx) (by simp),fun b hx=>old b _ (h.lL b hx) (by simp),fun b hx=>old b _ (h.lP b hx) (by simp),fun i hi b hx=>old b _ (h.lA i hi b hx) (by simp),fun i hi b hx=>old b _ (h.lE i hi b hx) (by simp)⟩,bG _ _ _,bf rfl⟩;have hx:(if b=w.heap.size then iH.head else S.lab b)≠.no:=hx;rw[iJ];by_cases c:b=w.heap.size
 · omega
 · rw[bl c] at hx;have:=h.qF b hx;omega
def K8 (o:kF) (L:List bc) (s:pA):List bc:=(eY L (o.base+s.page) s.aR (uB s)).1
def Ed (o:kF) (L:List bc):Nat->List bc
 | 0=>L
 | k+1=>K8 o (Ed o L k) (fu o.i.jU k)
def AE (l:List kF):Nat->List bc
 | 0=>[]
 | k+1=>Ed (eN l k) (AE l k) (eN l k).i.jU.length
def UD (a:bc):bc:=⟨a.page,a.aR,a.fV,false⟩
def o5 (L:List bc):Nat->List bc
 | 0=>L
 | k+1=>(o5 L k).set k (UD (bB (o5 L k) k))
def qQ (l:List kF):List bc:=(AE l l.length).map UD
theorem Pc (o:kF) (L:List bc) (h:ed L):∀k,ed (Ed o L k)
 | 0=>h
 | k+1=>QA _ _ _ _
theorem G9 (l:List kF):∀k,ed (AE l k)
 | 0=>Dj
 | k+1=>Pc _ _ (G9 l k) _
theorem xz (L:List bc):∀k,(o5 L k).length=L.length
 | 0=>rfl
 | k+1=>by simp only[o5,jk,xz L k]
theorem Jf (L:List bc):∀k,k<=L.length->∀j,(o5 L k)[j]?=if j<k then L[j]?.map UD else L[j]?
 | 0,_,j=>by rfl
 | k+1,hk,j=>by
  have ih:=Jf L k (by omega)
  grind [bB,o5]
theorem UC (L:List bc):o5 L L.length=L.map UD:=by
 apply Ip
 grind [Jf]
theorem BB (b:Bool):∀(L:List bc) (k:Nat),k<L.length->(cj L).set (k*4+3) (.bool b)=cj (L.set k ⟨(bB L k).page,(bB L k).aR,(bB L k).fV,b⟩)
 | [],k,h=>by simp at h
 | a::r,0,h=>rfl
 | a::r,k+1,h=>by
  have ih:=BB b r k (by grind);show(oQ a++cj r).set _ _=oQ a++cj (r.set k _);rw[zO _ _ (by simp[oQ];omega)];congr 1;have e:(k+1)*4+3-(oQ a).length=k*4+3:=by grind [oQ]
  rw[e,ih];rfl
def pQ (x:iY):List Value:=(jV x.a x.i).toList
def lV (all:List iY):Int :=
 if 7<all.length then 2
 else if ow all=0 then
  match K9 all all.length 0 [0] with
  | none=>6
  | some ix=>if 256<jW all 1 ix then 3 else
   match rD (fH all 1 ix) with
   | none=>7
   | some _=>0
 else ow all
theorem Rb {l:List iY} (h:ow l=0):(∀k,k<l.length->mG (cY l k).i=0)/\wj (ko l)=true:=by
 grind [ow,Gr]
theorem XL {all:List iY} (hc:∀j,j<all.length->mG (cY all j).i=0) (h7:all.length<=7) {ix:List Nat} (ho:FI all ix) (k:Nat) (hk:k<(fH all 1 ix).length):1<=(eN (fH all 1 ix) k).base/\(eN (fH all 1 ix) k).base<=2000:=by
 rw[kJ] at hk;rw[(s7 all ix 1 k hk).2.2];have h:=zZ all hc (ix.take k) 1 (fun j hj=>ho.lt j (List.mem_of_mem_take hj));have h2:=ho.le
 grind
def FW:ByteArray:=⟨#[12,0,0,0,0,0,0,0]⟩
theorem V8:(⟨12,0,0,0,0⟩:xx).bytes=FW:=by rfl
def acf:ByteArray:=⟨#[97,98,99]⟩
def aip:ByteArray:=⟨#[12,0,0,0,0,0,0,0,0,0,0,0,0,0,0,0]⟩
def aio:ByteArray:=⟨#[97,98,99,0,0,0,0,0,0,0,0,0,0,0,0,0]⟩
def ain:ByteArray:=⟨#[0,0,0,0,0,0,0,0,0,0,0,0,0,0,0,0]⟩
def mL:vg:=⟨⟨#[116]⟩,[],[⟨0,1,FW,false,true⟩,⟨1,2,acf,true,false⟩],[],[],0⟩
theorem Ty:IV mL:=by
 refine⟨by unfold bY mL;decide,by grind [bY,mL],fun k hk=>absurd hk (by grind [mL]),by grind [bY,mL],fun k hk=>?_,by grind [bY,mL],fun k hk=>absurd hk (by grind [mL]),by grind [bY,mL],fun k hk=>absurd hk (by grind [mL]),by grind [dY,mL]⟩;have:k=0∨k=1:=by grind [mL]
 rcases this with rfl | rfl
 · exact⟨by grind [dY,mL,fu],by grind [dY,mL,fu],by unfold bY;show(8:Nat)<=_;decide⟩
 · exact⟨by grind [dY,mL,fu],by grind [dY,mL,fu],by unfold bY;show(3:Nat)<=_;decide⟩
theorem adq (a:IW):lV [⟨mL,a⟩]=0:=by rfl
theorem Tx (a:IW):K9 [⟨mL,a⟩] [(⟨mL,a⟩:iY)].length 0 [0]=some [0]:=by rfl
theorem ado (a:IW):fH [⟨mL,a⟩] 1 [0]=[⟨mL,a,1⟩]:=by rfl
def LB:List Ee:=[⟨1,aip,[]⟩,⟨2,aio,[]⟩,⟨3,ain,[]⟩]
theorem VR (a:IW):rD [⟨mL,a,1⟩]=some LB:=by kernel_rfl
def tX:List bc:=[⟨1,1,2,false⟩,⟨2,2,1,false⟩]
theorem YS (a:IW):qQ [⟨mL,a,1⟩]=tX:=by kernel_rfl
theorem YR (a:IW):wU (eN [⟨mL,a,1⟩] 0) (cY [⟨mL,a⟩] 0).i.entry=16:=by rfl
def jN (a1 a2 a3:Option Addr) (c1 c2 c3:Nat):List bM:=[⟨1,aip,[],a1,c1⟩,⟨2,aio,[],a2,c2⟩,⟨3,ain,[],a3,c3⟩]
theorem YQ {hs:List bM} (h:hs.map eQ=LB):∃a1 a2 a3 c1 c2 c3,hs=jN a1 a2 a3 c1 c2 c3:=by
 match hs,h with
 | [⟨g1,d1,f1,a1,c1⟩,⟨g2,d2,f2,a2,c2⟩,⟨g3,d3,f3,a3,c3⟩],h =>
  simp only[Ii,List.map_nil,eQ,LB,xP,Ee.mk.injEq,uv] at h;obtain⟨⟨rfl,rfl,rfl⟩,⟨rfl,rfl,rfl⟩,rfl,rfl,rfl⟩:=h;exact⟨a1,a2,a3,c1,c2,c3,rfl⟩
 | [],h=>cases fp List.length h
 | [_],h=>cases fp List.length h
 | [_,_],h=>cases fp List.length h
 | _::_::_::_::_,h =>
  grind [LB]
theorem aa5:ed tX:=lD _ (by rfl)
theorem aa4 (a1 a2 a3:Option Addr) (c1 c2 c3:Nat):qI (jN a1 a2 a3 c1 c2 c3):=GJ (by rfl) (by show(3:Nat)<=255;decide)
def aeZ:ByteArray:=⟨#[119,120,121,122]⟩
def aim:ByteArray:=⟨#[113]⟩
def ajD:ByteArray:=⟨#[97,98]⟩
def LC:ByteArray:=⟨#[113,98,99,0,0,0,0,0,0,0,0,0,0,0,119,120]⟩
def Hr (H:List bM):aN:=⟨H,[⟨⟨#[]⟩,0,false,false⟩,⟨⟨#[]⟩,0,false,false⟩,⟨⟨#[]⟩,0,false,false⟩],[⟨⟨#[]⟩,0⟩,⟨⟨#[]⟩,0⟩,⟨⟨#[]⟩,0⟩,⟨⟨#[]⟩,0⟩,⟨⟨#[]⟩,0⟩,⟨⟨#[]⟩,0⟩,⟨⟨#[]⟩,0⟩,⟨⟨#[]⟩,0⟩],[⟨true,tX,[]⟩],0⟩
def Hq (H:List bM):aN:=⟨H,[⟨⟨#[97,98,99,0,0,0,0,0,0,0,0,0,0,0,119,120]⟩,1,true,true⟩,⟨⟨#[121,122,0,0,0,0,0,0,0,0,0,0,0,0,0,0]⟩,1,true,true⟩,⟨⟨#[]⟩,0,false,false⟩],[⟨⟨#[]⟩,0⟩,⟨⟨#[]⟩,0⟩,⟨⟨#[]⟩,0⟩,⟨⟨#[]⟩,0⟩,⟨⟨#[]⟩,0⟩,⟨⟨#[]⟩,0⟩,⟨⟨#[]⟩,0⟩,⟨⟨#[]⟩,0⟩],[⟨true,tX,[⟨2,1,0⟩,⟨3,1,1⟩]⟩],0⟩
def Hp (H:List bM):aN:=⟨H,[⟨⟨#[97,98,99,0,0,0,0,0,0,0,0,0,0,0,119,120]⟩,2,true,true⟩,⟨⟨#[121,122,0,0,0,0,0,0,0,0,0,0,0,0,0,0]⟩,2,true,true⟩,⟨⟨#[]⟩,0,false,false⟩],[⟨⟨#[]⟩,0⟩,⟨⟨#[]⟩,0⟩,⟨⟨#[]⟩,0⟩,⟨⟨#[]⟩,0⟩,⟨⟨#[]⟩,0⟩,⟨⟨#[]⟩,0⟩,⟨⟨#[]⟩,0⟩,⟨⟨#[]⟩,0⟩],[⟨true,tX,[⟨2,1,0⟩,⟨3,1,1⟩]⟩,⟨true,tX,[⟨2,1,0⟩,⟨3,1,1⟩]⟩],0⟩
def Dd (H:List bM):aN:=⟨H,[⟨⟨#[97,98,99,0,0,0,0,0,0,0,0,0,0,0,119,120]⟩,1,true,true⟩,⟨⟨#[121,122,0,0,0,0,0,0,0,0,0,0,0,0,0,0]⟩,2,true,true⟩,⟨⟨#[113,98,99,0,0,0,0,0,0,0,0,0,0,0,119,120]⟩,1,true,true⟩],[⟨⟨#[]⟩,0⟩,⟨⟨#[]⟩,0⟩,⟨⟨#[]⟩,0⟩,⟨⟨#[]⟩,0⟩,⟨⟨#[]⟩,0⟩,⟨⟨#[]⟩,0⟩,⟨⟨#[]⟩,0⟩,⟨⟨#[]⟩,0⟩],[⟨true,tX,[⟨2,1,0⟩,⟨3,1,1⟩]⟩,⟨true,tX,[⟨2,1,2⟩,⟨3,1,1⟩]⟩],0⟩
theorem V7 (a1 a2 a3:Option Addr) (c1 c2 c3:Nat):gG (Hr (jN a1 a2 a3 c1 c2 c3))=0:=by rfl
theorem V6 (a1 a2 a3:Option Addr) (c1 c2 c3:Nat):bg (Hr (jN a1 a2 a3 c1 c2 c3)):=(qz _).1 (V7 a1 a2 a3 c1 c2 c3)
theorem aa8 (a1 a2 a3:Option Addr) (c1 c2 c3:Nat):gW (Hr (jN a1 a2 a3 c1 c2 c3)):=qB (V6 a1 a2 a3 c1 c2 c3)
theorem V5 (a1 a2 a3:Option Addr) (c1 c2 c3:Nat):gG (Hq (jN a1 a2 a3 c1 c2 c3))=0:=by rfl
theorem VZ (a1 a2 a3:Option Addr) (c1 c2 c3:Nat):bg (Hq (jN a1 a2 a3 c1 c2 c3)):=(qz _).1 (V5 a1 a2 a3 c1 c2 c3)
theorem aa7 (a1 a2 a3:Option Addr) (c1 c2 c3:Nat):gW (Hq (jN a1 a2 a3 c1 c2 c3)):=qB (VZ a1 a2 a3 c1 c2 c3)
theorem VX (a1 a2 a3:Option Addr) (c1 c2 c3:Nat):gG (Hp (jN a1 a2 a3 c1 c2 c3))=0:=by rfl
theorem VW (a1 a2 a3:Option Addr) (c1 c2 c3:Nat):bg (Hp (jN a1 a2 a3 c1 c2 c3)):=(qz _).1 (VX a1 a2 a3 c1 c2 c3)
theorem aa6 (a1 a2 a3:Option Addr) (c1 c2 c3:Nat):gW (Hp (jN a1 a2 a3 c1 c2 c3)):=qB (VW a1 a2 a3 c1 c2 c3)
theorem VV (a1 a2 a3:Option Addr) (c1 c2 c3:Nat):gG (Dd (jN a1 a2 a3 c1 c2 c3))=0:=by rfl
theorem VU (a1 a2 a3:Option Addr) (c1 c2 c3:Nat):bg (Dd (jN a1 a2 a3 c1 c2 c3)):=(qz _).1 (VV a1 a2 a3 c1 c2 c3)
theorem Qf (a1 a2 a3:Option Addr) (c1 c2 c3:Nat):gW (Dd (jN a1 a2 a3 c1 c2 c3)):=qB (VU a1 a2 a3 c1 c2 c3)
theorem VY (a1 a2 a3:Option Addr) (c1 c2 c3:Nat):fE (Hr (jN a1 a2 a3 c1 c2 c3)) 0 46 aeZ=(Hq (jN a1 a2 a3 c1 c2 c3),(0,0),0):=by kernel_rfl
theorem VT (a1 a2 a3:Option Addr) (c1 c2 c3:Nat):fE (Hp (jN a1 a2 a3 c1 c2 c3)) 1 32 aim=(Dd (jN a1 a2 a3 c1 c2 c3),(0,0),0):=by kernel_rfl
theorem YU (a1 a2 a3:Option Addr) (c1 c2 c3:Nat):(gL (Dd (jN a1 a2 a3 c1 c2 c3)) 0 32 2 0).2=(ajD,(0,0),0):=by kernel_rfl
theorem YT (a1 a2 a3:Option Addr) (c1 c2 c3:Nat):uK (Dd (jN a1 a2 a3 c1 c2 c3)) 1 2=(LC,0):=by kernel_rfl
theorem OH {p:Prop} (h:p):Hid p:=h
theorem Ul (i:xx) (w:World):Calls Tryz.prog 94 #[.agg i.cells] w fun e w'=>e=.returned (.string i.bytes)/\Below w.heap.size w w':=by
 obtain⟨o,a,b,c,m⟩:=i;unfold xx.cells xx.bytes;simp only;have eO:=OH ((aK w.heap.size w).alloc (aM _) (.cells #[I o,I a,I b,I c,I m] 143));have BX:=OH (bG w #[I o,I a,I b,I c,I m] 143);obtain⟨W,hW⟩:=ex (w.alloc (.cells #[I o,I a,I b,I c,I m] 143));have HW:=OH hW;rw[<- hW] at eO BX;have rB:=gw W;have ID:=aO BX.o;have k0:∀x:dB W.heap.size W,x.world.cell? (Ad w.heap.size 0)=some (I o):=fun x=>by grind [gy,aB,Hid.o]
 have k1:∀x:dB W.heap.size W,x.world.cell? (Ad w.heap.size 1)=some (I a):=fun x=>by grind [gy,aB,Hid.o]
 have k2:∀x:dB W.heap.size W,x.world.cell? (Ad w.heap.size 2)=some (I b):=fun x=>by grind [gy,aB,Hid.o]
 have k3:∀x:dB W.heap.size W,x.world.cell? (Ad w.heap.size 3)=some (I c):=fun x=>by grind [gy,aB,Hid.o]
 have k4:∀x:dB W.heap.size W,x.world.cell? (Ad w.heap.size 4)=some (I m):=fun x=>by grind [gy,aB,Hid.o]
 have HA:Hid (∀n V,Calls Tryz.prog 138 #[I n,I 1] V fun e w'=>e=.returned (.string (vk 1 n))/\Below V.heap.size V w'):=fun n U=>J6 n 1 U (by omega)
 have HM:Hid (∀V,Calls Tryz.prog 138 #[I m,I 4] V fun e w'=>e=.returned (.string (vk 4 m))/\Below V.heap.size V w'):=fun U=>J6 m 4 U (by omega)
 have s1:=yC 1 o;have s2:=yC 1 a;have s3:=yC 1 b;have s4:=yC 1 c;have s5:=yC 4 m;have t1:(vk 1 o++vk 1 a).size=2:=by rfl
 have t2:(vk 1 o++vk 1 a++vk 1 b).size=3:=by rfl
 have t3:(vk 1 o++vk 1 a++vk 1 b++vk 1 c).size=4:=by rfl
 clear hW;go_enter Tryz.func94,Tryz.ntmps94;go_wp2;rw[<- HW.o];refine cD (by rfl) (by kernel_rfl) ?_
 repeat (first | go_big_quiet_step ((go_at_call 138;first | with_reducible exact gI (HA.o _) _ | with_reducible exact gI HM.o _)) | quiet_step ((go_at_call 138;first | with_reducible exact gI (HA.o _) _ | with_reducible exact gI HM.o _)))
 refine fR ?_;intro _ hw';obtain⟨x,hw''⟩:=hw';subst hw'';go_wp2;go_ret;exact⟨rfl,eO.o.trans (x.keeps.mono eO.o.size)⟩
theorem agR (nm:ByteArray) (an ag ay ar:Option Addr) (cn gl cg cy cr:Nat) (en:Int) (w:World):Calls Tryz.prog 181 #[.agg #[.string nm,.slice an 0 cn,.slice ag gl cg,.slice ay 0 cy,.slice ar 0 cr,I en]] w fun e w'=>e=.returned (.bool true)/\Below w.heap.size w w':=by
 have HB:=aD ((aK w.heap.size w).alloc (aM _) (.cells #[.string nm,.slice an 0 cn,.slice ag gl cg,.slice ay 0 cy,.slice ar 0 cr,I en] 151));go_enter Tryz.func181,Tryz.ntmps181;go_wp2;go_loopw [10] (fun iv wr=>iv=I 0/\Below w.heap.size w wr) (fun _ _=>0)
 case atStart=>grind [Hid.o]
 case round =>
  obtain⟨rfl,hb⟩:=hrel;have fq:=aD hb;clear hb;go_wp2;go_ret;exact⟨rfl,fq.o⟩
theorem agS (nm:ByteArray) (an ag ay ar:Option Addr) (cn gl cg cy cr:Nat) (en:Int) (w:World):Calls Tryz.prog 182 #[.agg #[.string nm,.slice an 0 cn,.slice ag gl cg,.slice ay 0 cy,.slice ar 0 cr,I en]] w fun e w'=>e=.returned (.bool true)/\Below w.heap.size w w':=by
 have HB:=aD ((aK w.heap.size w).alloc (aM _) (.cells #[.string nm,.slice an 0 cn,.slice ag gl cg,.slice ay 0 cy,.slice ar 0 cr,I en] 151));go_enter Tryz.func182,Tryz.ntmps182;go_wp2;go_loopw [11] (fun iv wr=>iv=I 0/\Below w.heap.size w wr) (fun _ _=>0)
 case atStart=>grind [Hid.o]
 case round =>
  obtain⟨rfl,hb⟩:=hrel;have fq:=aD hb;clear hb;go_wp2;go_ret;exact⟨rfl,fq.o⟩
theorem Xq (ay:Option Addr) (cy:Nat) (w:World):Calls Tryz.prog 180 #[.slice ay 0 cy] w fun e w'=>e=.returned Nl/\Below w.heap.size w w':=by
 go_enter Tryz.func180,Tryz.ntmps180;go_wp2;go_loopw [3,8] (fun sv iv wr=>sv=Nl/\iv=I 0/\Below w.heap.size w wr) (fun _ _ _=>0)
 case atStart=>grind [Below.refl]
 case round =>
  obtain⟨rfl,rfl,hb⟩:=hrel;have fq:=aD hb;clear hb;go_wp2;go_ret;exact⟨rfl,fq.o⟩
theorem aeC (nm:ByteArray) (an ag ay ar:Option Addr) (cn gl cg cy cr:Nat) (en:Int) (w:World) (hn:∀V,Calls Tryz.prog 198 #[.string nm] V fun e w'=>e=.returned (.bool true)/\Below V.heap.size V w'):Calls Tryz.prog 175 #[.agg #[.string nm,.slice an 0 cn,.slice ag gl cg,.slice ay 0 cy,.slice ar 0 cr,I en]] w fun e w'=>e=.returned (.bool true)/\Below w.heap.size w w':=by
 have HN:=aD hn;clear hn;have HB:=aD ((aK w.heap.size w).alloc (aM _) (.cells #[.string nm,.slice an 0 cn,.slice ag gl cg,.slice ay 0 cy,.slice ar 0 cr,I en] 151));have X0:=aD (bG w #[.string nm,.slice an 0 cn,.slice ag gl cg,.slice ay 0 cy,.slice ar 0 cr,I en] 151);go_enter Tryz.func175,Tryz.ntmps175;go_wp2_with (go_at_call 198;refine(HN.o _).mono ?_;rintro e w1 ⟨rfl,hb1⟩;have cT:=aD (HB.o.trans (hb1.mono HB.o.size));have X1:=aD (aQ X0.o hb1 (aO X0.o));have x1:w1.cell? (Ad w.heap.size 1)=some (.slice an 0 cn):=aB X1.o 1 rfl;clear hb1)
 go_loopw [16] (fun iv wr=>iv=I 0/\wr.heap[w.heap.size]?=some (.cells #[.string nm,.slice an 0 cn,.slice ag gl cg,.slice ay 0 cy,.slice ar 0 cr,I en] 151 (0,0))/\Below w.heap.size w wr) (fun _ _=>0)
 case atStart=>grind [Hid.o]
 case round =>
  obtain⟨rfl,hx,hb⟩:=hrel;have HX:=aD hx;have fq:=aD hb;have y3:wr.cell? (Ad w.heap.size 3)=some (.slice ay 0 cy):=aB hx 3 rfl;clear hb hx cT X1 x1;go_wp2;clear y3;go_loopw [27] (fun iv wi=>iv=I 0/\wi.heap[w.heap.size]?=some (.cells #[.string nm,.slice an 0 cn,.slice ag gl cg,.slice ay 0 cy,.slice ar 0 cr,I en] 151 (0,0))/\Below w.heap.size w wi) (fun _ _=>0)
  case atStart=>exact⟨rfl,HX.o,fq.o⟩
  case round =>
   clear HX fq;obtain⟨rfl,hx,hb⟩:=hrel;have jo:=aD hb;have y4:wr.cell? (Ad w.heap.size 4)=some (.slice ar 0 cr):=aB hx 4 rfl;clear hb hx;go_wp2;clear y4;go_loopw [39] (fun iv wi=>iv=I 0/\Below w.heap.size w wi) (fun _ _=>0)
   case atStart=>exact⟨rfl,jo.o⟩
   case round =>
    obtain⟨rfl,hb⟩:=hrel;have kO:=aD hb;clear hb;go_wp2;go_ret;exact⟨rfl,kO.o⟩
theorem aeD (nm:ByteArray) (gs:List pA) (en:Int) (an ag ay ar:Option Addr) (cn cg cy cr:Nat) (w:World) (h:pL w ⟨an,cn,ag,cg,ay,cy,ar,cr⟩ ⟨nm,[],gs,[],[],en⟩) (hf:IV ⟨nm,[],gs,[],[],en⟩) (h1:tI nm=true) (h2:Bt ⟨nm,[],gs,[],[],en⟩=true) (h3:gs.all kZ=true) (h4:Bu gs=true) (h5:Br ⟨nm,[],gs,[],[],en⟩=true) :
  Calls Tryz.prog 158 #[.agg #[.string nm,.slice an 0 cn,.slice ag gs.length cg,.slice ay 0 cy,.slice ar 0 cr,I en]] w fun e w'=>e=.returned (I 0)/\Below w.heap.size w w':=by
 have tP:Hid (∀V,Calls Tryz.prog 198 #[.string nm] V fun e w'=>e=.returned (.bool true)/\Below V.heap.size V w'):=fun V=>(Uk nm V hf.name).mono fun e w' ⟨e1,e2⟩=>⟨by grind,by grind [Below.refl]⟩
 have Y4:=aD (fun V=>aeC nm an ag ay ar cn gs.length cg cy cr en V tP.o);have HCN:Hid (∀V,Calls Tryz.prog 176 #[.agg #[.string nm,.slice an 0 cn,.slice ag gs.length cg,.slice ay 0 cy,.slice ar 0 cr,I en]] V fun e w'=>e=.returned (.bool true)/\Below V.heap.size V w'):=fun V=>(IL ⟨nm,[],gs,[],[],en⟩ ⟨an,cn,ag,cg,ay,cy,ar,cr⟩ V hf).mono fun e w' ⟨e1,e2⟩=>⟨by grind,e2⟩
 have HRG:Hid (∀V,Below w.heap.size w V->Calls Tryz.prog 177 #[.slice ag gs.length cg] V fun e w'=>e=.returned (.bool true)/\Below V.heap.size V w'):=fun V hV=>(IK gs ag cg V (h.below hV).jU hf.jU hf.seg).mono fun e w' ⟨e1,e2⟩=>⟨by grind,e2⟩
 have HOV:Hid (∀V,Below w.heap.size w V->Calls Tryz.prog 178 #[.slice ag gs.length cg] V fun e w'=>e=.returned (.bool false)/\Below V.heap.size V w'):=fun V hV=>(QU gs ag cg V (h.below hV).jU hf.jU h3).mono fun e w' ⟨e1,e2⟩=>⟨by grind,e2⟩
 have HTW:Hid (∀ao c V,Calls Tryz.prog 179 #[.slice ao 0 c] V fun e w'=>e=.returned (.bool false)/\Below V.heap.size V w'):=fun ao c V=>(Xp [] ao c V (fun h=>absurd h (jQ _)) (ql _) (fun k hk=>absurd hk (jQ _))).mono fun e w' ⟨e1,e2⟩=>⟨by rw[e1];rfl,e2⟩
 have QL:=aD (fun V=>Xq ay cy V);have HSY:=aD (fun V=>agR nm an ag ay ar cn gs.length cg cy cr en V);have ZH:=aD (fun V=>agS nm an ag ay ar cn gs.length cg cy cr en V);have px:Hid (∀V,Below w.heap.size w V->Calls Tryz.prog 183 #[.agg #[.string nm,.slice an 0 cn,.slice ag gs.length cg,.slice ay 0 cy,.slice ar 0 cr,I en]] V fun e w'=>e=.returned (.bool true)/\Below V.heap.size V w'):=fun V hV=>(IP ⟨nm,[],gs,[],[],en⟩ ⟨an,cn,ag,cg,ay,cy,ar,cr⟩ V (h.below hV) hf h3).mono fun e w' ⟨e1,e2⟩=>⟨by grind,e2⟩
 obtain⟨gl,hgl⟩:=ex gs.length;rw[<- hgl] at Y4 HCN HRG HOV HSY ZH px ⊢;clear h hf h1 h2 h3 h4 h5 hgl tP;have HB:=aD ((aK w.heap.size w).alloc (aM _) (.cells #[.string nm,.slice an 0 cn,.slice ag gl cg,.slice ay 0 cy,.slice ar 0 cr,I en] 151));have X:=aD (bG w #[.string nm,.slice an 0 cn,.slice ag gl cg,.slice ay 0 cy,.slice ar 0 cr,I en] 151);go_enter Tryz.func158,Tryz.ntmps158;go_wp2_with (first
  | (go_at_call 175;refine(Y4.o _).mono ?_;rintro e w1 ⟨rfl,hb⟩;have cT:=aD (HB.o.trans (hb.mono HB.o.size));have X1:=aD (aQ X.o hb (aO X.o));clear hb;have k10:w1.cell? (Ad w.heap.size 0)=some (.string nm):=aB X1.o 0 rfl;have k11:w1.cell? (Ad w.heap.size 1)=some (.slice an 0 cn):=aB X1.o 1 rfl;have k12:w1.cell? (Ad w.heap.size 2)=some (.slice ag gl cg):=aB X1.o 2 rfl;have k13:w1.cell? (Ad w.heap.size 3)=some (.slice ay 0 cy):=aB X1.o 3 rfl;have k14:w1.cell? (Ad w.heap.size 4)=some (.slice ar 0 cr):=aB X1.o 4 rfl;have k15:w1.cell? (Ad w.heap.size 5)=some (I en):=aB X1.o 5 rfl)
  | (go_at_call 176;refine(HCN.o _).mono ?_;rintro e w2 ⟨rfl,hb⟩;have fq:=aD (cT.o.trans (hb.mono cT.o.size));have X2:=aD (aQ X1.o hb (aO X1.o));clear hb;have k22:w2.cell? (Ad w.heap.size 2)=some (.slice ag gl cg):=aB X2.o 2 rfl)
  | (go_at_call 177;refine(HRG.o _ fq.o).mono ?_;rintro e w3 ⟨rfl,hb⟩;have jo:=aD (fq.o.trans (hb.mono fq.o.size));have X3:=aD (aQ X2.o hb (aO X2.o));clear hb;have k32:w3.cell? (Ad w.heap.size 2)=some (.slice ag gl cg):=aB X3.o 2 rfl)
  | (go_at_call 178;refine(HOV.o _ jo.o).mono ?_;rintro e w4 ⟨rfl,hb⟩;have kO:=aD (jo.o.trans (hb.mono jo.o.size));have X4:=aD (aQ X3.o hb (aO X3.o));clear hb;have k41:w4.cell? (Ad w.heap.size 1)=some (.slice an 0 cn):=aB X4.o 1 rfl)
  | (go_at_call 179;refine(HTW.o _ _ _).mono ?_;rintro e w7 ⟨rfl,hb⟩;have Ns:=aD (Sn.o.trans (hb.mono Sn.o.size));have X7:=aD (aQ X6.o hb (aO X6.o));clear hb;have k70:w7.cell? (Ad w.heap.size 0)=some (.string nm):=aB X7.o 0 rfl;have k71:w7.cell? (Ad w.heap.size 1)=some (.slice an 0 cn):=aB X7.o 1 rfl;have k72:w7.cell? (Ad w.heap.size 2)=some (.slice ag gl cg):=aB X7.o 2 rfl;have k73:w7.cell? (Ad w.heap.size 3)=some (.slice ay 0 cy):=aB X7.o 3 rfl;have k74:w7.cell? (Ad w.heap.size 4)=some (.slice ar 0 cr):=aB X7.o 4 rfl;have k75:w7.cell? (Ad w.heap.size 5)=some (I en):=aB X7.o 5 rfl)
  | (go_at_call 179;refine(HTW.o _ _ _).mono ?_;rintro e w5 ⟨rfl,hb⟩;have ym:=aD (kO.o.trans (hb.mono kO.o.size));have X5:=aD (aQ X4.o hb (aO X4.o));clear hb;have k53:w5.cell? (Ad w.heap.size 3)=some (.slice ay 0 cy):=aB X5.o 3 rfl)
  | (go_at_call 180;refine(QL.o _).mono ?_;rintro e w6 ⟨rfl,hb⟩;have Sn:=aD (ym.o.trans (hb.mono ym.o.size));have X6:=aD (aQ X5.o hb (aO X5.o));clear hb)
  | (go_at_call 181;refine(HSY.o _).mono ?_;rintro e w8 ⟨rfl,hb⟩;have HB8:=aD (Ns.o.trans (hb.mono Ns.o.size));have X8:=aD (aQ X7.o hb (aO X7.o));clear hb;have k80:w8.cell? (Ad w.heap.size 0)=some (.string nm):=aB X8.o 0 rfl;have k81:w8.cell? (Ad w.heap.size 1)=some (.slice an 0 cn):=aB X8.o 1 rfl;have k82:w8.cell? (Ad w.heap.size 2)=some (.slice ag gl cg):=aB X8.o 2 rfl;have k83:w8.cell? (Ad w.heap.size 3)=some (.slice ay 0 cy):=aB X8.o 3 rfl;have k84:w8.cell? (Ad w.heap.size 4)=some (.slice ar 0 cr):=aB X8.o 4 rfl;have k85:w8.cell? (Ad w.heap.size 5)=some (I en):=aB X8.o 5 rfl)
  | (go_at_call 182;refine(ZH.o _).mono ?_;rintro e w9 ⟨rfl,hb⟩;have HB9:=aD (HB8.o.trans (hb.mono HB8.o.size));have X9:=aD (aQ X8.o hb (aO X8.o));clear hb;have k90:w9.cell? (Ad w.heap.size 0)=some (.string nm):=aB X9.o 0 rfl;have k91:w9.cell? (Ad w.heap.size 1)=some (.slice an 0 cn):=aB X9.o 1 rfl;have k92:w9.cell? (Ad w.heap.size 2)=some (.slice ag gl cg):=aB X9.o 2 rfl;have k93:w9.cell? (Ad w.heap.size 3)=some (.slice ay 0 cy):=aB X9.o 3 rfl;have k94:w9.cell? (Ad w.heap.size 4)=some (.slice ar 0 cr):=aB X9.o 4 rfl;have k95:w9.cell? (Ad w.heap.size 5)=some (I en):=aB X9.o 5 rfl)
  | (go_at_call 183;refine(px.o _ HB9.o).mono ?_;rintro e w10 ⟨rfl,hb⟩;have ar2:=aD (HB9.o.trans (hb.mono HB9.o.size));clear hb))
 go_ret;exact⟨rfl,ar2.o⟩
def Bv (R:Option (List o6)) (w:World) (e:Ending) (w':World):Prop:=Below w.heap.size w w'/\match R with
 | none=>e=.returned (.tuple #[Nl,.bool false])
 | some ps=>∃v,e=.returned (.tuple #[v,.bool true])/\w'.ownsRow w.heap.size 259 2 v ps.length (ps.flatMap Jg)
theorem SS:(Tryz.prog.info? 50).map (fun i=>(i.zero,i.size,i.bytes))=some (some (.agg #[I 0,.string ⟨#[]⟩,Nl]),3,48):=by rfl
structure zW (lo:Nat) (w:World) (v:Value) (hs:List bM):Prop where
 row:w.ownsRow lo 50 3 v hs.length (hs.flatMap Ec)
 fix:ab8 v.ownBlock w hs
theorem zW.below {lo:Nat} {w w':World} {v:Value} {hs:List bM} (h:zW lo w v hs) (hb:Below w.heap.size w w'):zW lo w' v hs:=⟨Cz h.row hb,fun k hk=>(h.fix k hk).below hb⟩
theorem zW.nil (lo:Nat) (w:World):zW lo w Nl []:=⟨km _ _ _ _,fun k hk=>by grind⟩
theorem zW.has {lo:Nat} {w:World} {v:Value} {hs:List bM} (h:zW lo w v hs):∃ao cap,v=.slice ao hs.length cap/\iM w ao hs/\hs.length<=cap:=by
 have hr:=h.row;rcases hr.2 with⟨hv,h0⟩ | ⟨g,cap,cur,hv,hbg,hg,hnc,hcm,hcs,htake⟩
 · exact⟨none,0,by grind,fun hl=>by omega,by omega⟩
 · rw[hv] at hr;refine⟨some (Ad g 0),cap,hv,fun _=>⟨g,0,rfl,aO hg,fun k hk=>?_⟩,hnc⟩;rw[iI];have hh:∀j,j<3->w.cell? (Ad g (k*3+j))=(Ec (bj hs k))[j]?:=fun j hj=>(hr.cellAt _ (by omega)).trans (ub Ec 3 (fun _=>rfl) xy hs k j hk hj)
   exact⟨hh 0 (by omega),hh 1 (by omega),hh 2 (by omega),(h.fix k hk).has⟩
theorem acY {w:World} {base:Nat} {v:Value} {l:List mF} (h:w.ownsRow base 52 2 v l.length (l.flatMap Bz)) (rb:Option Nat) (hrb:∀q,rb=some q->q<base):∃ao cap,v=.slice ao l.length cap/\qH rb w ao l:=by
 rcases h.2 with⟨hv,h0⟩ | ⟨g,cap,cur,hv,hbg,hg,hnc,hcm,hcs,htake⟩
 · exact⟨none,0,by grind,fun hl=>by omega⟩
 · subst hv;refine⟨some (Ad g 0),cap,rfl,fun hl=>⟨g,0,rfl,aO hg,fun e=>by grind,fun k hk=>?_⟩⟩;rw[iI];have hh:∀j,j<2->w.cell? (Ad g (k*2+j))=(Bz (lI l k))[j]?:=fun j hj=>(h.cellAt _ (by omega)).trans (ub Bz 2 (fun _=>rfl) O9 l k j hk hj)
   exact⟨hh 0 (by omega),hh 1 (by omega)⟩
theorem zW.more {lo:Nat} {w w':World} {v:Value} {hs:List bM} {x:bM} {g cap:Nat} (h:ab8 v.ownBlock w hs) (hx:qH v.ownBlock w x.ao x.dn) (hown:w'.ownsRow lo 50 3 (.slice (some (Ad g 0)) (hs.length+1) cap) (hs.length+1) (hs.flatMap Ec++Ec x)) (hg:w.grownBy w' v.ownBlock) (hs':w.heap.size<=w'.heap.size) (hat:v.ownBlock=some g∨g=w.heap.size) :
  zW lo w' (.slice (some (Ad g 0)) (hs.length+1) cap) (hs++[x]):=by
 refine⟨by grind,fun k hk=>?_⟩;have e:(Value.slice (some (Ad g 0)) (hs.length+1) cap).ownBlock=some g:=rfl;rw[e];rw[gh] at hk;by_cases hkl:k<hs.length
 · rw[Ux hs x k hkl];exact(h k hkl).grown hg hs' hat
 grind [Uy,qH.grown]
def I5 (R:Option (List Ee)) (w:World) (e:Ending) (w':World):Prop:=Below w.heap.size w w'/\match R with
 | none=>e=.returned (.tuple #[Nl,.bool false])
 | some E=>∃(hs:List bM) (ao:Option Addr) (cap:Nat),hs.map eQ=E/\e=.returned (.tuple #[.slice ao hs.length cap,.bool true])/\iM w' ao hs/\hs.length<=cap
structure sQ (w:World) (r:Option Nat) (w':World) (r':Option Nat):Prop where
 size:w.heap.size<=w'.heap.size
 block:∀b,b<w.heap.size->some b≠r->w'.heap[b]?=w.heap[b]?
 row:r'=r∨∃g,r'=some g/\w.heap.size<=g
theorem sQ.refl (w:World) (r:Option Nat):sQ w r w r:=⟨aM _,fun _ _ _=>rfl,.inl rfl⟩
theorem sQ.trans {w w1 w2:World} {r r1 r2:Option Nat} (h:sQ w r w1 r1) (g:sQ w1 r1 w2 r2):sQ w r w2 r2:=by
 have hs:=h.size;refine⟨gJ h.size g.size,fun b hb hr=>?_,?_⟩
 · grind [block,row]
 grind [row]
theorem sQ.b7 {w w':World} (h:Below w.heap.size w w') (r:Option Nat):sQ w r w' r:=⟨h.size,fun b hb _=>h.block b hb,.inl rfl⟩
theorem sQ.agm {w w':World} {r:Option Nat} {g:Nat} (h:w.grownBy w' r) (hs:w.heap.size<=w'.heap.size) (hat:r=some g∨g=w.heap.size):sQ w r w' (some g) :=
 ⟨hs,fun b hb hr=>h.block b hb hr,by
  grind⟩
theorem sQ.keep {w w':World} {r r':Option Nat} {b:Nat} {o:Obj} (h:sQ w r w' r') (hb:w.heap[b]?=some o) (hr:some b≠r):w'.heap[b]?=some o:=(h.block b (aO hb) hr).trans hb
def OY (rb:Option Nat) (w:World) (ao:Option Addr) (l:List o6):Prop:=0<l.length->∃b off,ao=some (Ad b off)/\b<w.heap.size/\some b≠rb/\Ji w b off l
theorem OY.fr {rb rb':Option Nat} {w w':World} {ao:Option Addr} {l:List o6} (h:OY rb w ao l) (hf:sQ w rb w' rb'):Jl w' ao l:=fun hl=>by
 obtain⟨b,off,h1,h2,h3,h4⟩:=h hl;exact⟨b,off,h1,jt h2 hf.size,fun i hi=>by
  obtain⟨c0,c1⟩:=h4 i hi
  grind [World.cell?_of_block,sQ.block]⟩
theorem Z3 {w:World} {base:Nat} {v:Value} {l:List o6} (h:w.ownsRow base 259 2 v l.length (l.flatMap Jg)) (rb:Option Nat) (hrb:∀q,rb=some q->q<base):∃ao cap,v=.slice ao l.length cap/\OY rb w ao l:=by
 rcases h.2 with⟨hv,h0⟩ | ⟨g,cap,cur,hv,hbg,hg,hnc,hcm,hcs,htake⟩
 · exact⟨none,0,by grind,fun hl=>by omega⟩
 · subst hv;refine⟨some (Ad g 0),cap,rfl,fun hl=>⟨g,0,rfl,aO hg,fun e=>by grind,fun k hk=>?_⟩⟩;rw[iI];have hh:∀j,j<2->w.cell? (Ad g (k*2+j))=(Jg (wu l k))[j]?:=fun j hj=>(h.cellAt _ (by omega)).trans (ub Jg 2 (fun _=>rfl) aad l k j hk hj)
   exact⟨hh 0 (by omega),hh 1 (by omega)⟩
end Go.Proofs.YtpgifpeohlllfaaGreat
end Go.Proofs.YtpgifpeohlllfaaGreat
