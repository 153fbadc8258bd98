import Derived.Test.YtpgifpeohlllfaaGreatGR35
set_option maxHeartbeats 20000000
set_option linter.unusedVariables false
set_option maxRecDepth 100000
set_option linter.unusedSimpArgs false
namespace Go.Proofs.YtpgifpeohlllfaaGreat
open Go.RowKit Go.Deep
section
variable {H:Type} {enc:TypeId×Value->H} {w:World} {base:Nat} {spare:Nat->Bool} {held:Bool}
theorem OQ {fuel:Nat} {a0:Option Addr} {len cap:Nat} {x:DataW H×List MemPlace} (h:DataW.trod enc Tryz.prog w base spare held fuel 22 [.slice a0 len cap]=some x) (hw:qM 22 x.1) :
  ∃l:List bR,l.length=len/\fX w a0 l/\nk l/\len<=cap:=by
 rcases open_slice Tryz.underlying22 h with⟨hcs,_⟩ | ⟨a,len',cap',m,n,D,Pl,hcs,hb,hl,hm,hmm,rfl,hx⟩
 · simp at hcs;obtain⟨rfl,rfl,rfl⟩:=hcs;exact⟨[],rfl,fun h=>absurd h (by simp),⟨by grind [bT],fun k hk=>absurd hk (by simp)⟩,aI _⟩
 · simp at hcs;obtain⟨rfl,rfl,rfl⟩:=hcs;have hlm:len<=m:=by grind
   obtain⟨hb1,hb2⟩:=uC Tryz.underlying22 hw;rw[VL] at hb1;unfold reachBytes at hb1;have hlen:len<=140737488351232:=by grind
   have each:∀i,i<len->∃y:bR,w.cell? (a.add (i*3+0))=some (I y.page)/\w.cell? (a.add (i*3+1))=some (.string y.data)/\w.cell? (a.add (i*3+2))=some (.slice y.ao y.cM.length y.cap)/\kQ w y.ao y.cM/\vD y:=by
    intro i hi;obtain⟨cs',h1,h2⟩:=hx i (by omega);have hd:D i∈(List.range len).map D:=xz.2 ⟨i,vk.2 hi,rfl⟩;rw[VI] at h1;obtain⟨_,hcl,hcell⟩:=Kq h1
    match cs',hcl with
    | [v0,v1,v2],_ =>
     obtain⟨s,e0,e1,e2,f1,f2⟩:=Ni h2 (hb2 _ hd);have q0:=hcell 0 (by omega);have q1:=hcell 1 (by omega);have q2:=hcell 2 (by omega);simp only[add_add] at q0 q1 q2
     grind
   obtain⟨g,hg⟩:=choose_lt each;have hat:∀i,i<len->aV ((List.range len).map g) i=g i:=by
    grind [aV]
   refine⟨(List.range len).map g,by simp,fun h0=>?_,⟨by grind [bT],fun k hk=>?_⟩,hl⟩
   · have h0':0<len:=by grind
     obtain⟨b,off,spot⟩:=a;have hc:=(hg 0 h0').1;have hspot:spot=none:=by simpa [Addr.add] using Km hc
     subst hspot;rw[rY] at hc;refine⟨b,off,rfl,Hn hc,fun i hi=>?_⟩;have hi':i<len:=by grind
     rw[hat i hi'];obtain⟨e0,e1,e2,e3,_⟩:=hg i hi';simp only[rY] at e0 e1 e2
     grind
   grind
theorem K7 {fuel:Nat} {cs:List Value} {x:DataW H×List MemPlace} (h:DataW.trod enc Tryz.prog w base spare held fuel 30 cs=some x) (hw:qM 30 x.1) :
  ∃(l:List aZ) (hs:List bR) (en:Int) (va:Value) (ao:Option Addr) (cap:Nat),cs=[va,.slice ao hs.length cap,I en]/\fu w va l/\fU l/\fX w ao hs/\nk hs/\hs.length<=cap/\eY en:=by
 obtain⟨xs,k,hk,hxy,hcl,hxl,hf⟩:=vr Tryz.underlying30 h;rw[hxy] at hw;rw[VJ] at hcl
 match cs,hcl with
 | [v0,v1,v2],_ =>
  have g0:DataW.trod enc Tryz.prog w base spare held k 28 (([v0,v1,v2].drop 0).take (Tryz.prog.cellsOf 28))=xs[0]?:=hf 0 _ rfl;have g1:DataW.trod enc Tryz.prog w base spare held k 22 (([v0,v1,v2].drop 1).take (Tryz.prog.cellsOf 22))=xs[1]?:=hf 1 _ rfl;have g2:DataW.trod enc Tryz.prog w base spare held k 3 (([v0,v1,v2].drop 2).take (Tryz.prog.cellsOf 3))=xs[2]?:=hf 2 _ rfl;simp only[wy,IQ,IP] at g0 g1 g2
  match xs,hxl with
  | [y0,y1,y2],_ =>
   obtain⟨en,c2,_,w2⟩:=CX Tryz.underlying3 (show DataW.trod enc Tryz.prog w base spare held k 3 [v2]=some y2 from g2);have u0:=mz Tryz.underlying30 hw (j:=0) (u:=28) (d:=y0.1) rfl rfl;have u1:=mz Tryz.underlying30 hw (j:=1) (u:=22) (d:=y1.1) rfl rfl;have t0:DataW.trod enc Tryz.prog w base spare held k 28 [v0]=some y0:=g0;have t1:DataW.trod enc Tryz.prog w base spare held k 22 [v1]=some y1:=g1;obtain⟨av,lv,cv,d0⟩:=oQ Tryz.underlying28 t0;obtain⟨ao,lo,cap,d1⟩:=oQ Tryz.underlying22 t1;subst d0;subst d1;obtain⟨l,n1,n2,n3,n4⟩:=D3 t0;obtain⟨hs,s1,s2,s3,s4⟩:=OQ t1 u1;simp only[tY,qZ] at c2;subst c2;subst s1;refine⟨l,hs,en,_,ao,cap,rfl,n2,⟨n3,?_⟩,s2,s3,s4,uD _ w2⟩;rw[n1];rcases n4 with e | ⟨el,sp,e1,e2⟩
   · omega
   · rw[e1] at u0;have hb:=(uC Tryz.underlying28 u0).1;rw[Lb,e2] at hb;unfold reachBytes at hb;omega
end
open Go.RowKit
def Hu (o:jt) (L:List aZ) (s:nO):List aZ:=(ml L (o.base+s.page) s.bC (r8 s)).1
def Bx (o:jt) (L:List aZ):Nat->List aZ
 | 0=>L
 | k+1=>Hu o (Bx o L k) (dX o.i.iV k)
def yq (l:List jt):Nat->List aZ
 | 0=>[]
 | k+1=>Bx (dA l k) (yq l k) (dA l k).i.iV.length
def Qw (a:aZ):aZ:=⟨a.page,a.bC,a.fI,false⟩
def ni (L:List aZ):Nat->List aZ
 | 0=>L
 | k+1=>(ni L k).set k (Qw (bl (ni L k) k))
def py (l:List jt):List aZ:=(yq l l.length).map Qw
theorem Lv (o:jt) (L:List aZ) (h:fU L):∀k,fU (Bx o L k)
 | 0=>h
 | k+1=>XM _ _ _ _
theorem El (l:List jt):∀k,fU (yq l k)
 | 0=>MG
 | k+1=>Lv _ _ (El l k) _
theorem uR (L:List aZ):∀k,(ni L k).length=L.length
 | 0=>rfl
 | k+1=>by simp only[ni,iG,uR L k]
theorem FV (L:List aZ):∀k,k<=L.length->∀j,(ni L k)[j]?=if j<k then L[j]?.map Qw else L[j]?
 | 0,_,j=>by rfl
 | k+1,hk,j=>by
  have ih:=FV L k (by omega)
  grind [bl,ni]
theorem Qv (L:List aZ):ni L L.length=L.map Qw:=by
 apply Kp
 grind [FV]
theorem za (b:Bool):∀(L:List aZ) (k:Nat),k<L.length->(bZ L).set (k*4+3) (.bool b)=bZ (L.set k ⟨(bl L k).page,(bl L k).bC,(bl L k).fI,b⟩)
 | [],k,h=>by simp at h
 | a::r,0,h=>rfl
 | a::r,k+1,h=>by
  have ih:=za b r k (by grind);show(mU a++bZ r).set _ _=mU a++bZ (r.set k _);rw[vv _ _ (by simp[mU];omega)];congr 1;have e:(k+1)*4+3-(mU a).length=k*4+3:=by grind [mU]
  rw[e,ih];rfl
open Go.RowKit
def om (x:gT):List Value:=(iW x.a x.i).toList
def kv (all:List gT):Int :=
 if 7<all.length then 2
 else if mK all=0 then
  match Hv all all.length 0 [0] with
  | none=>6
  | some ix=>if 256<iY all 1 ix then 3 else
   match pP (eJ all 1 ix) with
   | none=>7
   | some _=>0
 else mK all
theorem Nz {l:List gT} (h:mK l=0):(∀k,k<l.length->kY (cB l k).i=0)/\ud (jo l)=true:=by
 grind [mK,DB]
theorem Tz {all:List gT} (hc:∀j,j<all.length->kY (cB all j).i=0) (h7:all.length<=7) {ix:List Nat} (ho:Da all ix) (k:Nat) (hk:k<(eJ all 1 ix).length):1<=(dA (eJ all 1 ix) k).base/\(dA (eJ all 1 ix) k).base<=2000:=by
 rw[jB] at hk;rw[(qP all ix 1 k hk).2.2];have h:=xP all hc (ix.take k) 1 (fun j hj=>ho.lt j (List.mem_of_mem_take hj));have h2:=ho.le
 grind
open Go.RowKit
def Di:ByteArray:=⟨#[12,0,0,0,0,0,0,0]⟩
theorem RT:(⟨12,0,0,0,0⟩:uQ).bytes=Di:=by rfl
def Yu:ByteArray:=⟨#[97,98,99]⟩
def aeh:ByteArray:=⟨#[12,0,0,0,0,0,0,0,0,0,0,0,0,0,0,0]⟩
def aeg:ByteArray:=⟨#[97,98,99,0,0,0,0,0,0,0,0,0,0,0,0,0]⟩
def aef:ByteArray:=⟨#[0,0,0,0,0,0,0,0,0,0,0,0,0,0,0,0]⟩
def lB:tu:=⟨⟨#[116]⟩,[],[⟨0,1,Di,false,true⟩,⟨1,2,Yu,true,false⟩],[],[],0⟩
theorem Po:Fs lB:=by
 refine⟨by unfold bT lB;decide,by grind [bT,lB],fun k hk=>absurd hk (by grind [lB]),by grind [bT,lB],fun k hk=>?_,by grind [bT,lB],fun k hk=>absurd hk (by grind [lB]),by grind [bT,lB],fun k hk=>absurd hk (by grind [lB]),by grind [eY,lB]⟩;have:k=0∨k=1:=by grind [lB]
 rcases this with rfl | rfl
 · exact⟨by grind [eY,lB,dX],by grind [eY,lB,dX],by unfold bT;show(8:Nat)<=_;decide⟩
 · exact⟨by grind [eY,lB,dX],by grind [eY,lB,dX],by unfold bT;show(3:Nat)<=_;decide⟩
theorem Zt (a:Fu):kv [⟨lB,a⟩]=0:=by rfl
theorem Pn (a:Fu):Hv [⟨lB,a⟩] [(⟨lB,a⟩:gT)].length 0 [0]=some [0]:=by rfl
theorem Zq (a:Fu):eJ [⟨lB,a⟩] 1 [0]=[⟨lB,a,1⟩]:=by rfl
def Im:List Bz:=[⟨1,aeh,[]⟩,⟨2,aeg,[]⟩,⟨3,aef,[]⟩]
theorem Rx (a:Fu):pP [⟨lB,a,1⟩]=some Im:=by kernel_rfl
def rK:List aZ:=[⟨1,1,2,false⟩,⟨2,2,1,false⟩]
theorem Ux (a:Fu):py [⟨lB,a,1⟩]=rK:=by kernel_rfl
theorem Uw (a:Fu):uF (dA [⟨lB,a,1⟩] 0) (cB [⟨lB,a⟩] 0).i.entry=16:=by rfl
def iN (a1 a2 a3:Option Addr) (c1 c2 c3:Nat):List bR:=[⟨1,aeh,[],a1,c1⟩,⟨2,aeg,[],a2,c2⟩,⟨3,aef,[],a3,c3⟩]
theorem Uv {hs:List bR} (h:hs.map dB=Im):∃a1 a2 a3 c1 c2 c3,hs=iN a1 a2 a3 c1 c2 c3:=by
 match hs,h with
 | [⟨g1,d1,f1,a1,c1⟩,⟨g2,d2,f2,a2,c2⟩,⟨g3,d3,f3,a3,c3⟩],h =>
  simp only[CV,List.map_nil,dB,Im,tY,Bz.mk.injEq,qZ] at h;obtain⟨⟨rfl,rfl,rfl⟩,⟨rfl,rfl,rfl⟩,rfl,rfl,rfl⟩:=h;exact⟨a1,a2,a3,c1,c2,c3,rfl⟩
 | [],h=>cases dQ List.length h
 | [_],h=>cases dQ List.length h
 | [_,_],h=>cases dQ List.length h
 | _::_::_::_::_,h =>
  grind [Im]
theorem WT:fU rK:=lC _ (by rfl)
theorem WQ (a1 a2 a3:Option Addr) (c1 c2 c3:Nat):nk (iN a1 a2 a3 c1 c2 c3):=DX (by rfl) (by show(3:Nat)<=255;decide)
def abd:ByteArray:=⟨#[119,120,121,122]⟩
def aee:ByteArray:=⟨#[113]⟩
def afw:ByteArray:=⟨#[97,98]⟩
def Io:ByteArray:=⟨#[113,98,99,0,0,0,0,0,0,0,0,0,0,0,119,120]⟩
def EF (H:List bR):aN:=⟨H,[⟨⟨#[]⟩,0,false,false⟩,⟨⟨#[]⟩,0,false,false⟩,⟨⟨#[]⟩,0,false,false⟩],[⟨⟨#[]⟩,0⟩,⟨⟨#[]⟩,0⟩,⟨⟨#[]⟩,0⟩,⟨⟨#[]⟩,0⟩,⟨⟨#[]⟩,0⟩,⟨⟨#[]⟩,0⟩,⟨⟨#[]⟩,0⟩,⟨⟨#[]⟩,0⟩],[⟨true,rK,[]⟩],0⟩
def EE (H:List bR):aN:=⟨H,[⟨⟨#[97,98,99,0,0,0,0,0,0,0,0,0,0,0,119,120]⟩,1,true,true⟩,⟨⟨#[121,122,0,0,0,0,0,0,0,0,0,0,0,0,0,0]⟩,1,true,true⟩,⟨⟨#[]⟩,0,false,false⟩],[⟨⟨#[]⟩,0⟩,⟨⟨#[]⟩,0⟩,⟨⟨#[]⟩,0⟩,⟨⟨#[]⟩,0⟩,⟨⟨#[]⟩,0⟩,⟨⟨#[]⟩,0⟩,⟨⟨#[]⟩,0⟩,⟨⟨#[]⟩,0⟩],[⟨true,rK,[⟨2,1,0⟩,⟨3,1,1⟩]⟩],0⟩
def ED (H:List bR):aN:=⟨H,[⟨⟨#[97,98,99,0,0,0,0,0,0,0,0,0,0,0,119,120]⟩,2,true,true⟩,⟨⟨#[121,122,0,0,0,0,0,0,0,0,0,0,0,0,0,0]⟩,2,true,true⟩,⟨⟨#[]⟩,0,false,false⟩],[⟨⟨#[]⟩,0⟩,⟨⟨#[]⟩,0⟩,⟨⟨#[]⟩,0⟩,⟨⟨#[]⟩,0⟩,⟨⟨#[]⟩,0⟩,⟨⟨#[]⟩,0⟩,⟨⟨#[]⟩,0⟩,⟨⟨#[]⟩,0⟩],[⟨true,rK,[⟨2,1,0⟩,⟨3,1,1⟩]⟩,⟨true,rK,[⟨2,1,0⟩,⟨3,1,1⟩]⟩],0⟩
def Ai (H:List bR):aN:=⟨H,[⟨⟨#[97,98,99,0,0,0,0,0,0,0,0,0,0,0,119,120]⟩,1,true,true⟩,⟨⟨#[121,122,0,0,0,0,0,0,0,0,0,0,0,0,0,0]⟩,2,true,true⟩,⟨⟨#[113,98,99,0,0,0,0,0,0,0,0,0,0,0,119,120]⟩,1,true,true⟩],[⟨⟨#[]⟩,0⟩,⟨⟨#[]⟩,0⟩,⟨⟨#[]⟩,0⟩,⟨⟨#[]⟩,0⟩,⟨⟨#[]⟩,0⟩,⟨⟨#[]⟩,0⟩,⟨⟨#[]⟩,0⟩,⟨⟨#[]⟩,0⟩],[⟨true,rK,[⟨2,1,0⟩,⟨3,1,1⟩]⟩,⟨true,rK,[⟨2,1,2⟩,⟨3,1,1⟩]⟩],0⟩
theorem RR (a1 a2 a3:Option Addr) (c1 c2 c3:Nat):eZ (EF (iN a1 a2 a3 c1 c2 c3))=0:=by rfl
theorem RQ (a1 a2 a3:Option Addr) (c1 c2 c3:Nat):bc (EF (iN a1 a2 a3 c1 c2 c3)):=(nJ _).1 (RR a1 a2 a3 c1 c2 c3)
theorem WY (a1 a2 a3:Option Addr) (c1 c2 c3:Nat):iI (EF (iN a1 a2 a3 c1 c2 c3)):=o5 (RQ a1 a2 a3 c1 c2 c3)
theorem RP (a1 a2 a3:Option Addr) (c1 c2 c3:Nat):eZ (EE (iN a1 a2 a3 c1 c2 c3))=0:=by rfl
theorem RO (a1 a2 a3:Option Addr) (c1 c2 c3:Nat):bc (EE (iN a1 a2 a3 c1 c2 c3)):=(nJ _).1 (RP a1 a2 a3 c1 c2 c3)
theorem WW (a1 a2 a3:Option Addr) (c1 c2 c3:Nat):iI (EE (iN a1 a2 a3 c1 c2 c3)):=o5 (RO a1 a2 a3 c1 c2 c3)
theorem RI (a1 a2 a3:Option Addr) (c1 c2 c3:Nat):eZ (ED (iN a1 a2 a3 c1 c2 c3))=0:=by rfl
theorem RG (a1 a2 a3:Option Addr) (c1 c2 c3:Nat):bc (ED (iN a1 a2 a3 c1 c2 c3)):=(nJ _).1 (RI a1 a2 a3 c1 c2 c3)
theorem WV (a1 a2 a3:Option Addr) (c1 c2 c3:Nat):iI (ED (iN a1 a2 a3 c1 c2 c3)):=o5 (RG a1 a2 a3 c1 c2 c3)
theorem RD (a1 a2 a3:Option Addr) (c1 c2 c3:Nat):eZ (Ai (iN a1 a2 a3 c1 c2 c3))=0:=by rfl
theorem Rz (a1 a2 a3:Option Addr) (c1 c2 c3:Nat):bc (Ai (iN a1 a2 a3 c1 c2 c3)):=(nJ _).1 (RD a1 a2 a3 c1 c2 c3)
theorem Mp (a1 a2 a3:Option Addr) (c1 c2 c3:Nat):iI (Ai (iN a1 a2 a3 c1 c2 c3)):=o5 (Rz a1 a2 a3 c1 c2 c3)
theorem RJ (a1 a2 a3:Option Addr) (c1 c2 c3:Nat):m6 (EF (iN a1 a2 a3 c1 c2 c3)) 0 46 abd=(EE (iN a1 a2 a3 c1 c2 c3),(0,0),0):=by kernel_rfl
theorem Ry (a1 a2 a3:Option Addr) (c1 c2 c3:Nat):m6 (ED (iN a1 a2 a3 c1 c2 c3)) 1 32 aee=(Ai (iN a1 a2 a3 c1 c2 c3),(0,0),0):=by kernel_rfl
theorem UA (a1 a2 a3:Option Addr) (c1 c2 c3:Nat):(gH (Ai (iN a1 a2 a3 c1 c2 c3)) 0 32 2 0).2=(afw,(0,0),0):=by kernel_rfl
theorem Uz (a1 a2 a3:Option Addr) (c1 c2 c3:Nat):sI (Ai (iN a1 a2 a3 c1 c2 c3)) 1 2=(Io,0):=by kernel_rfl
open Go.RowKit
theorem K0 {p:Prop} (h:p):Hid p:=h
open Go.RowKit
open Go.RowKit
theorem Qf (i:uQ) (w:World):Calls Tryz.prog 94 #[.agg i.cells] w fun e w'=>e=.returned (.string i.bytes)/\Below w.heap.size w w':=by
 obtain⟨o,a,b,c,m⟩:=i;unfold uQ.cells uQ.bytes;simp only;have eU:=K0 ((aK w.heap.size w).alloc (aI _) (.cells #[I o,I a,I b,I c,I m] 143));have BX:=K0 (bO w #[I o,I a,I b,I c,I m] 143);obtain⟨W,hW⟩:=ex (w.alloc (.cells #[I o,I a,I b,I c,I m] 143));have HW:=K0 hW;rw[<- hW] at eU BX;have uP:=gG W;have E9:=aT BX.o;have k0:∀x:dm W.heap.size W,x.world.cell? (Ad w.heap.size 0)=some (I o):=fun x=>by grind [fD,aB,Hid.o]
 have k1:∀x:dm W.heap.size W,x.world.cell? (Ad w.heap.size 1)=some (I a):=fun x=>by grind [fD,aB,Hid.o]
 have k2:∀x:dm W.heap.size W,x.world.cell? (Ad w.heap.size 2)=some (I b):=fun x=>by grind [fD,aB,Hid.o]
 have k3:∀x:dm W.heap.size W,x.world.cell? (Ad w.heap.size 3)=some (I c):=fun x=>by grind [fD,aB,Hid.o]
 have k4:∀x:dm W.heap.size W,x.world.cell? (Ad w.heap.size 4)=some (I m):=fun x=>by grind [fD,aB,Hid.o]
 have HA:Hid (∀n V,Calls Tryz.prog 138 #[I n,I 1] V fun e w'=>e=.returned (.string (tA 1 n))/\Below V.heap.size V w'):=fun n U=>G3 n 1 U (by omega)
 have HM:Hid (∀V,Calls Tryz.prog 138 #[I m,I 4] V fun e w'=>e=.returned (.string (tA 4 m))/\Below V.heap.size V w'):=fun U=>G3 m 4 U (by omega)
 have s1:=wF 1 o;have s2:=wF 1 a;have s3:=wF 1 b;have s4:=wF 1 c;have s5:=wF 4 m;have t1:(tA 1 o++tA 1 a).size=2:=by rfl
 have t2:(tA 1 o++tA 1 a++tA 1 b).size=3:=by rfl
 have t3:(tA 1 o++tA 1 a++tA 1 b++tA 1 c).size=4:=by rfl
 clear hW;go_enter Tryz.func94,Tryz.ntmps94;go_wp2;rw[<- HW.o];refine cA (by rfl) (by kernel_rfl) ?_
 repeat (first | go_big_quiet_step ((go_at_call 138;first | with_reducible exact fH (HA.o _) _ | with_reducible exact fH HM.o _)) | quiet_step ((go_at_call 138;first | with_reducible exact fH (HA.o _) _ | with_reducible exact fH HM.o _)))
 refine fK ?_;intro _ hw';obtain⟨x,hw''⟩:=hw';subst hw'';go_wp2;go_ret;exact⟨rfl,eU.o.trans (x.keeps.mono eU.o.size)⟩
open Go.RowKit
theorem acI (nm:ByteArray) (an ag ay ar:Option Addr) (cn gl cg cy cr:Nat) (en:Int) (w:World):Calls Tryz.prog 181 #[.agg #[.string nm,.slice an 0 cn,.slice ag gl cg,.slice ay 0 cy,.slice ar 0 cr,I en]] w fun e w'=>e=.returned (.bool true)/\Below w.heap.size w w':=by
 have HB:=aA ((aK w.heap.size w).alloc (aI _) (.cells #[.string nm,.slice an 0 cn,.slice ag gl cg,.slice ay 0 cy,.slice ar 0 cr,I en] 151));go_enter Tryz.func181,Tryz.ntmps181;go_wp2;go_loopw [10] (fun iv wr=>iv=I 0/\Below w.heap.size w wr) (fun _ _=>0)
 case atStart=>grind [Hid.o]
 case round =>
  obtain⟨rfl,hb⟩:=hrel;have gj:=aA hb;clear hb;go_wp2;go_ret;exact⟨rfl,gj.o⟩
theorem acJ (nm:ByteArray) (an ag ay ar:Option Addr) (cn gl cg cy cr:Nat) (en:Int) (w:World):Calls Tryz.prog 182 #[.agg #[.string nm,.slice an 0 cn,.slice ag gl cg,.slice ay 0 cy,.slice ar 0 cr,I en]] w fun e w'=>e=.returned (.bool true)/\Below w.heap.size w w':=by
 have HB:=aA ((aK w.heap.size w).alloc (aI _) (.cells #[.string nm,.slice an 0 cn,.slice ag gl cg,.slice ay 0 cy,.slice ar 0 cr,I en] 151));go_enter Tryz.func182,Tryz.ntmps182;go_wp2;go_loopw [11] (fun iv wr=>iv=I 0/\Below w.heap.size w wr) (fun _ _=>0)
 case atStart=>grind [Hid.o]
 case round =>
  obtain⟨rfl,hb⟩:=hrel;have gj:=aA hb;clear hb;go_wp2;go_ret;exact⟨rfl,gj.o⟩
theorem Te (ay:Option Addr) (cy:Nat) (w:World):Calls Tryz.prog 180 #[.slice ay 0 cy] w fun e w'=>e=.returned Nl/\Below w.heap.size w w':=by
 go_enter Tryz.func180,Tryz.ntmps180;go_wp2;go_loopw [3,8] (fun sv iv wr=>sv=Nl/\iv=I 0/\Below w.heap.size w wr) (fun _ _ _=>0)
 case atStart=>grind [Below.refl]
 case round =>
  obtain⟨rfl,rfl,hb⟩:=hrel;have gj:=aA hb;clear hb;go_wp2;go_ret;exact⟨rfl,gj.o⟩
theorem aaH (nm:ByteArray) (an ag ay ar:Option Addr) (cn gl cg cy cr:Nat) (en:Int) (w:World) (hn:∀V,Calls Tryz.prog 198 #[.string nm] V fun e w'=>e=.returned (.bool true)/\Below V.heap.size V w'):Calls Tryz.prog 175 #[.agg #[.string nm,.slice an 0 cn,.slice ag gl cg,.slice ay 0 cy,.slice ar 0 cr,I en]] w fun e w'=>e=.returned (.bool true)/\Below w.heap.size w w':=by
 have HN:=aA hn;clear hn;have HB:=aA ((aK w.heap.size w).alloc (aI _) (.cells #[.string nm,.slice an 0 cn,.slice ag gl cg,.slice ay 0 cy,.slice ar 0 cr,I en] 151));have X0:=aA (bO w #[.string nm,.slice an 0 cn,.slice ag gl cg,.slice ay 0 cy,.slice ar 0 cr,I en] 151);go_enter Tryz.func175,Tryz.ntmps175;go_wp2_with (go_at_call 198;refine(HN.o _).mono ?_;rintro e w1 ⟨rfl,hb1⟩;have dz:=aA (HB.o.trans (hb1.mono HB.o.size));have X1:=aA (aQ X0.o hb1 (aT X0.o));have x1:w1.cell? (Ad w.heap.size 1)=some (.slice an 0 cn):=aB X1.o 1 rfl;clear hb1)
 go_loopw [16] (fun iv wr=>iv=I 0/\wr.heap[w.heap.size]?=some (.cells #[.string nm,.slice an 0 cn,.slice ag gl cg,.slice ay 0 cy,.slice ar 0 cr,I en] 151 (0,0))/\Below w.heap.size w wr) (fun _ _=>0)
 case atStart=>grind [Hid.o]
 case round =>
  obtain⟨rfl,hx,hb⟩:=hrel;have HX:=aA hx;have gj:=aA hb;have y3:wr.cell? (Ad w.heap.size 3)=some (.slice ay 0 cy):=aB hx 3 rfl;clear hb hx dz X1 x1;go_wp2;clear y3;go_loopw [27] (fun iv wi=>iv=I 0/\wi.heap[w.heap.size]?=some (.cells #[.string nm,.slice an 0 cn,.slice ag gl cg,.slice ay 0 cy,.slice ar 0 cr,I en] 151 (0,0))/\Below w.heap.size w wi) (fun _ _=>0)
  case atStart=>exact⟨rfl,HX.o,gj.o⟩
  case round =>
   clear HX gj;obtain⟨rfl,hx,hb⟩:=hrel;have kJ:=aA hb;have y4:wr.cell? (Ad w.heap.size 4)=some (.slice ar 0 cr):=aB hx 4 rfl;clear hb hx;go_wp2;clear y4;go_loopw [39] (fun iv wi=>iv=I 0/\Below w.heap.size w wi) (fun _ _=>0)
   case atStart=>exact⟨rfl,kJ.o⟩
   case round =>
    obtain⟨rfl,hb⟩:=hrel;have pZ:=aA hb;clear hb;go_wp2;go_ret;exact⟨rfl,pZ.o⟩
theorem aaI (nm:ByteArray) (gs:List nO) (en:Int) (an ag ay ar:Option Addr) (cn cg cy cr:Nat) (w:World) (h:od w ⟨an,cn,ag,cg,ay,cy,ar,cr⟩ ⟨nm,[],gs,[],[],en⟩) (hf:Fs ⟨nm,[],gs,[],[],en⟩) (h1:rh nm=true) (h2:yX ⟨nm,[],gs,[],[],en⟩=true) (h3:gs.all jV=true) (h4:yY gs=true) (h5:yV ⟨nm,[],gs,[],[],en⟩=true) :
  Calls Tryz.prog 158 #[.agg #[.string nm,.slice an 0 cn,.slice ag gs.length cg,.slice ay 0 cy,.slice ar 0 cr,I en]] w fun e w'=>e=.returned (I 0)/\Below w.heap.size w w':=by
 have yG:Hid (∀V,Calls Tryz.prog 198 #[.string nm] V fun e w'=>e=.returned (.bool true)/\Below V.heap.size V w'):=fun V=>(Qe nm V hf.name).mono fun e w' ⟨e1,e2⟩=>⟨by grind,by grind [Below.refl]⟩
 have HNM:=aA (fun V=>aaH nm an ag ay ar cn gs.length cg cy cr en V yG.o);have HCN:Hid (∀V,Calls Tryz.prog 176 #[.agg #[.string nm,.slice an 0 cn,.slice ag gs.length cg,.slice ay 0 cy,.slice ar 0 cr,I en]] V fun e w'=>e=.returned (.bool true)/\Below V.heap.size V w'):=fun V=>(Fk ⟨nm,[],gs,[],[],en⟩ ⟨an,cn,ag,cg,ay,cy,ar,cr⟩ V hf).mono fun e w' ⟨e1,e2⟩=>⟨by grind,e2⟩
 have HRG:Hid (∀V,Below w.heap.size w V->Calls Tryz.prog 177 #[.slice ag gs.length cg] V fun e w'=>e=.returned (.bool true)/\Below V.heap.size V w'):=fun V hV=>(Fj gs ag cg V (h.below hV).iV hf.iV hf.seg).mono fun e w' ⟨e1,e2⟩=>⟨by grind,e2⟩
 have HOV:Hid (∀V,Below w.heap.size w V->Calls Tryz.prog 178 #[.slice ag gs.length cg] V fun e w'=>e=.returned (.bool false)/\Below V.heap.size V w'):=fun V hV=>(Ng gs ag cg V (h.below hV).iV hf.iV h3).mono fun e w' ⟨e1,e2⟩=>⟨by grind,e2⟩
 have HTW:Hid (∀ao c V,Calls Tryz.prog 179 #[.slice ao 0 c] V fun e w'=>e=.returned (.bool false)/\Below V.heap.size V w'):=fun ao c V=>(Td [] ao c V (fun h=>absurd h (gN _)) (oO _) (fun k hk=>absurd hk (gN _))).mono fun e w' ⟨e1,e2⟩=>⟨by rw[e1];rfl,e2⟩
 have M0:=aA (fun V=>Te ay cy V);have HSY:=aA (fun V=>acI nm an ag ay ar cn gs.length cg cy cr en V);have Vn:=aA (fun V=>acJ nm an ag ay ar cn gs.length cg cy cr en V);have oD:Hid (∀V,Below w.heap.size w V->Calls Tryz.prog 183 #[.agg #[.string nm,.slice an 0 cn,.slice ag gs.length cg,.slice ay 0 cy,.slice ar 0 cr,I en]] V fun e w'=>e=.returned (.bool true)/\Below V.heap.size V w'):=fun V hV=>(Fm ⟨nm,[],gs,[],[],en⟩ ⟨an,cn,ag,cg,ay,cy,ar,cr⟩ V (h.below hV) hf h3).mono fun e w' ⟨e1,e2⟩=>⟨by grind,e2⟩
 obtain⟨gl,hgl⟩:=ex gs.length;rw[<- hgl] at HNM HCN HRG HOV HSY Vn oD ⊢;clear h hf h1 h2 h3 h4 h5 hgl yG;have HB:=aA ((aK w.heap.size w).alloc (aI _) (.cells #[.string nm,.slice an 0 cn,.slice ag gl cg,.slice ay 0 cy,.slice ar 0 cr,I en] 151));have X:=aA (bO w #[.string nm,.slice an 0 cn,.slice ag gl cg,.slice ay 0 cy,.slice ar 0 cr,I en] 151);go_enter Tryz.func158,Tryz.ntmps158;go_wp2_with (first
  | (go_at_call 175;refine(HNM.o _).mono ?_;rintro e w1 ⟨rfl,hb⟩;have dz:=aA (HB.o.trans (hb.mono HB.o.size));have X1:=aA (aQ X.o hb (aT X.o));clear hb;have k10:w1.cell? (Ad w.heap.size 0)=some (.string nm):=aB X1.o 0 rfl;have k11:w1.cell? (Ad w.heap.size 1)=some (.slice an 0 cn):=aB X1.o 1 rfl;have k12:w1.cell? (Ad w.heap.size 2)=some (.slice ag gl cg):=aB X1.o 2 rfl;have k13:w1.cell? (Ad w.heap.size 3)=some (.slice ay 0 cy):=aB X1.o 3 rfl;have k14:w1.cell? (Ad w.heap.size 4)=some (.slice ar 0 cr):=aB X1.o 4 rfl;have k15:w1.cell? (Ad w.heap.size 5)=some (I en):=aB X1.o 5 rfl)
  | (go_at_call 176;refine(HCN.o _).mono ?_;rintro e w2 ⟨rfl,hb⟩;have gj:=aA (dz.o.trans (hb.mono dz.o.size));have X2:=aA (aQ X1.o hb (aT X1.o));clear hb;have k22:w2.cell? (Ad w.heap.size 2)=some (.slice ag gl cg):=aB X2.o 2 rfl)
  | (go_at_call 177;refine(HRG.o _ gj.o).mono ?_;rintro e w3 ⟨rfl,hb⟩;have kJ:=aA (gj.o.trans (hb.mono gj.o.size));have X3:=aA (aQ X2.o hb (aT X2.o));clear hb;have k32:w3.cell? (Ad w.heap.size 2)=some (.slice ag gl cg):=aB X3.o 2 rfl)
  | (go_at_call 178;refine(HOV.o _ kJ.o).mono ?_;rintro e w4 ⟨rfl,hb⟩;have pZ:=aA (kJ.o.trans (hb.mono kJ.o.size));have X4:=aA (aQ X3.o hb (aT X3.o));clear hb;have k41:w4.cell? (Ad w.heap.size 1)=some (.slice an 0 cn):=aB X4.o 1 rfl)
  | (go_at_call 179;refine(HTW.o _ _ _).mono ?_;rintro e w7 ⟨rfl,hb⟩;have Pw:=aA (HB6.o.trans (hb.mono HB6.o.size));have X7:=aA (aQ X6.o hb (aT X6.o));clear hb;have k70:w7.cell? (Ad w.heap.size 0)=some (.string nm):=aB X7.o 0 rfl;have k71:w7.cell? (Ad w.heap.size 1)=some (.slice an 0 cn):=aB X7.o 1 rfl;have k72:w7.cell? (Ad w.heap.size 2)=some (.slice ag gl cg):=aB X7.o 2 rfl;have k73:w7.cell? (Ad w.heap.size 3)=some (.slice ay 0 cy):=aB X7.o 3 rfl;have k74:w7.cell? (Ad w.heap.size 4)=some (.slice ar 0 cr):=aB X7.o 4 rfl;have k75:w7.cell? (Ad w.heap.size 5)=some (I en):=aB X7.o 5 rfl)
  | (go_at_call 179;refine(HTW.o _ _ _).mono ?_;rintro e w5 ⟨rfl,hb⟩;have EJ:=aA (pZ.o.trans (hb.mono pZ.o.size));have X5:=aA (aQ X4.o hb (aT X4.o));clear hb;have k53:w5.cell? (Ad w.heap.size 3)=some (.slice ay 0 cy):=aB X5.o 3 rfl)
  | (go_at_call 180;refine(M0.o _).mono ?_;rintro e w6 ⟨rfl,hb⟩;have HB6:=aA (EJ.o.trans (hb.mono EJ.o.size));have X6:=aA (aQ X5.o hb (aT X5.o));clear hb)
  | (go_at_call 181;refine(HSY.o _).mono ?_;rintro e w8 ⟨rfl,hb⟩;have Xy:=aA (Pw.o.trans (hb.mono Pw.o.size));have X8:=aA (aQ X7.o hb (aT X7.o));clear hb;have k80:w8.cell? (Ad w.heap.size 0)=some (.string nm):=aB X8.o 0 rfl;have k81:w8.cell? (Ad w.heap.size 1)=some (.slice an 0 cn):=aB X8.o 1 rfl;have k82:w8.cell? (Ad w.heap.size 2)=some (.slice ag gl cg):=aB X8.o 2 rfl;have k83:w8.cell? (Ad w.heap.size 3)=some (.slice ay 0 cy):=aB X8.o 3 rfl;have k84:w8.cell? (Ad w.heap.size 4)=some (.slice ar 0 cr):=aB X8.o 4 rfl;have k85:w8.cell? (Ad w.heap.size 5)=some (I en):=aB X8.o 5 rfl)
  | (go_at_call 182;refine(Vn.o _).mono ?_;rintro e w9 ⟨rfl,hb⟩;have HB9:=aA (Xy.o.trans (hb.mono Xy.o.size));have X9:=aA (aQ X8.o hb (aT X8.o));clear hb;have k90:w9.cell? (Ad w.heap.size 0)=some (.string nm):=aB X9.o 0 rfl;have k91:w9.cell? (Ad w.heap.size 1)=some (.slice an 0 cn):=aB X9.o 1 rfl;have k92:w9.cell? (Ad w.heap.size 2)=some (.slice ag gl cg):=aB X9.o 2 rfl;have k93:w9.cell? (Ad w.heap.size 3)=some (.slice ay 0 cy):=aB X9.o 3 rfl;have k94:w9.cell? (Ad w.heap.size 4)=some (.slice ar 0 cr):=aB X9.o 4 rfl;have k95:w9.cell? (Ad w.heap.size 5)=some (I en):=aB X9.o 5 rfl)
  | (go_at_call 183;refine(oD.o _ HB9.o).mono ?_;rintro e w10 ⟨rfl,hb⟩;have anX:=aA (HB9.o.trans (hb.mono HB9.o.size));clear hb))
 go_ret;exact⟨rfl,anX.o⟩
open Go.RowKit
def yZ (R:Option (List nj)) (w:World) (e:Ending) (w':World):Prop:=Below w.heap.size w w'/\match R with
 | none=>e=.returned (.tuple #[Nl,.bool false])
 | some ps=>∃v,e=.returned (.tuple #[v,.bool true])/\w'.ownsRow w.heap.size 259 2 v ps.length (ps.flatMap FW)
open Go.RowKit
theorem OS:(Tryz.prog.info? 50).map (fun i=>(i.zero,i.size,i.bytes))=some (some (.agg #[I 0,.string ⟨#[]⟩,Nl]),3,48):=by rfl
structure xK (lo:Nat) (w:World) (v:Value) (hs:List bR):Prop where
 row:w.ownsRow lo 50 3 v hs.length (hs.flatMap Bw)
 fix:Yo v.ownBlock w hs
theorem xK.below {lo:Nat} {w w':World} {v:Value} {hs:List bR} (h:xK lo w v hs) (hb:Below w.heap.size w w'):xK lo w' v hs:=⟨zK h.row hb,fun k hk=>(h.fix k hk).below hb⟩
theorem xK.nil (lo:Nat) (w:World):xK lo w Nl []:=⟨jz _ _ _ _,fun k hk=>by grind⟩
theorem xK.has {lo:Nat} {w:World} {v:Value} {hs:List bR} (h:xK lo w v hs):∃ao cap,v=.slice ao hs.length cap/\fX w ao hs/\hs.length<=cap:=by
 have hr:=h.row;rcases hr.2 with⟨hv,h0⟩ | ⟨g,cap,cur,hv,hbg,hg,hnc,hcm,hcs,htake⟩
 · exact⟨none,0,by grind,fun hl=>by omega,by omega⟩
 · rw[hv] at hr;refine⟨some (Ad g 0),cap,hv,fun _=>⟨g,0,rfl,aT hg,fun k hk=>?_⟩,hnc⟩;rw[gM];have hh:∀j,j<3->w.cell? (Ad g (k*3+j))=(Bw (aV hs k))[j]?:=fun j hj=>(hr.cellAt _ (by omega)).trans (rN Bw 3 (fun _=>rfl) tE hs k j hk hj)
   exact⟨hh 0 (by omega),hh 1 (by omega),hh 2 (by omega),(h.fix k hk).has⟩
theorem Y4 {w:World} {base:Nat} {v:Value} {l:List kW} (h:w.ownsRow base 52 2 v l.length (l.flatMap y9)) (rb:Option Nat) (Ya:∀q,rb=some q->q<base):∃ao cap,v=.slice ao l.length cap/\pd rb w ao l:=by
 rcases h.2 with⟨hv,h0⟩ | ⟨g,cap,cur,hv,hbg,hg,hnc,hcm,hcs,htake⟩
 · exact⟨none,0,by grind,fun hl=>by omega⟩
 · subst hv;refine⟨some (Ad g 0),cap,rfl,fun hl=>⟨g,0,rfl,aT hg,fun e=>by grind,fun k hk=>?_⟩⟩;rw[gM];have hh:∀j,j<2->w.cell? (Ad g (k*2+j))=(y9 (ki l k))[j]?:=fun j hj=>(h.cellAt _ (by omega)).trans (rN y9 2 (fun _=>rfl) Lt l k j hk hj)
   exact⟨hh 0 (by omega),hh 1 (by omega)⟩
theorem xK.more {lo:Nat} {w w':World} {v:Value} {hs:List bR} {x:bR} {g cap:Nat} (h:Yo v.ownBlock w hs) (hx:pd v.ownBlock w x.ao x.cM) (hown:w'.ownsRow lo 50 3 (.slice (some (Ad g 0)) (hs.length+1) cap) (hs.length+1) (hs.flatMap Bw++Bw x)) (hg:w.grownBy w' v.ownBlock) (hs':w.heap.size<=w'.heap.size) (hat:v.ownBlock=some g∨g=w.heap.size) :
  xK lo w' (.slice (some (Ad g 0)) (hs.length+1) cap) (hs++[x]):=by
 refine⟨by grind,fun k hk=>?_⟩;have e:(Value.slice (some (Ad g 0)) (hs.length+1) cap).ownBlock=some g:=rfl;rw[e];rw[fk] at hk;by_cases hkl:k<hs.length
 · rw[Qq hs x k hkl];exact(h k hkl).grown hg hs' hat
 grind [Qr,pd.grown]
def FE (R:Option (List Bz)) (w:World) (e:Ending) (w':World):Prop:=Below w.heap.size w w'/\match R with
 | none=>e=.returned (.tuple #[Nl,.bool false])
 | some E=>∃(hs:List bR) (ao:Option Addr) (cap:Nat),hs.map dB=E/\e=.returned (.tuple #[.slice ao hs.length cap,.bool true])/\fX w' ao hs/\hs.length<=cap
open Go.RowKit
structure qF (w:World) (r:Option Nat) (w':World) (r':Option Nat):Prop where
 size:w.heap.size<=w'.heap.size
 block:∀b,b<w.heap.size->some b≠r->w'.heap[b]?=w.heap[b]?
 row:r'=r∨∃g,r'=some g/\w.heap.size<=g
theorem qF.refl (w:World) (r:Option Nat):qF w r w r:=⟨aI _,fun _ _ _=>rfl,.inl rfl⟩
theorem qF.trans {w w1 w2:World} {r r1 r2:Option Nat} (h:qF w r w1 r1) (g:qF w1 r1 w2 r2):qF w r w2 r2:=by
 have hs:=h.size;refine⟨gy h.size g.size,fun b hb hr=>?_,?_⟩
 · grind [block,row]
 grind [row]
theorem qF.cH {w w':World} (h:Below w.heap.size w w') (r:Option Nat):qF w r w' r:=⟨h.size,fun b hb _=>h.block b hb,.inl rfl⟩
theorem qF.ab7 {w w':World} {r:Option Nat} {g:Nat} (h:w.grownBy w' r) (hs:w.heap.size<=w'.heap.size) (hat:r=some g∨g=w.heap.size):qF w r w' (some g) :=
 ⟨hs,fun b hb hr=>h.block b hb hr,by
  grind⟩
theorem qF.keep {w w':World} {r r':Option Nat} {b:Nat} {o:Obj} (h:qF w r w' r') (hb:w.heap[b]?=some o) (hr:some b≠r):w'.heap[b]?=some o:=(h.block b (aT hb) hr).trans hb
def Li (rb:Option Nat) (w:World) (ao:Option Addr) (l:List nj):Prop:=0<l.length->∃b off,ao=some (Ad b off)/\b<w.heap.size/\some b≠rb/\FZ w b off l
theorem Li.fr {rb rb':Option Nat} {w w':World} {ao:Option Addr} {l:List nj} (h:Li rb w ao l) (hf:qF w rb w' rb'):Ga w' ao l:=fun hl=>by
 obtain⟨b,off,h1,h2,h3,h4⟩:=h hl;exact⟨b,off,h1,iH h2 hf.size,fun i hi=>by
  obtain⟨c0,c1⟩:=h4 i hi
  grind [World.cell?_of_block,qF.block]⟩
theorem VE {w:World} {base:Nat} {v:Value} {l:List nj} (h:w.ownsRow base 259 2 v l.length (l.flatMap FW)) (rb:Option Nat) (Ya:∀q,rb=some q->q<base):∃ao cap,v=.slice ao l.length cap/\Li rb w ao l:=by
 rcases h.2 with⟨hv,h0⟩ | ⟨g,cap,cur,hv,hbg,hg,hnc,hcm,hcs,htake⟩
 · exact⟨none,0,by grind,fun hl=>by omega⟩
 · subst hv;refine⟨some (Ad g 0),cap,rfl,fun hl=>⟨g,0,rfl,aT hg,fun e=>by grind,fun k hk=>?_⟩⟩;rw[gM];have hh:∀j,j<2->w.cell? (Ad g (k*2+j))=(FW (ug l k))[j]?:=fun j hj=>(h.cellAt _ (by omega)).trans (rN FW 2 (fun _=>rfl) VO l k j hk hj)
   exact⟨hh 0 (by omega),hh 1 (by omega)⟩
open Go.RowKit
theorem vA {lo:Nat} {w w':World} {v:Value} {l:List aZ} (h:gQ lo w v l) (hb:Below w.heap.size w w'):gQ lo w' v l:=zK h hb
theorem zL {lo:Nat} {w:World} {v:Value} {l:List aZ} (h:gQ lo w v l):∃ao cap,v=.slice ao l.length cap/\(0<l.length->∃g,ao=some (Ad g 0)):=by
 rcases h.2 with⟨hv,h0⟩ | ⟨g,cap,cur,hv,_⟩
 · grind
 grind
theorem Ld (l:List jt) (ao:Option Addr) (cap:Nat) (w:World) (h:Lh l ao w) (hl7:l.length<=7) :
  Calls Tryz.prog 136 #[.slice ao l.length cap] w fun e w'=>∃r,e=.returned r/\gQ w.heap.size w' r (py l)/\Below w.heap.size w w':=by
 have HO:=aA h;clear h;go_enter Tryz.func136,Tryz.ntmps136;go_wp2;go_loopw [11,3] (fun i v wr=>∃(a:Nat),a<=l.length/\i=I a/\gQ w.heap.size wr v (yq l a)/\Below w.heap.size w wr) (fun i _ _=>l.length-(intOf i).toNat)
 case atStart=>exact⟨0,by omega,rfl,gQ.nil _ _,aK _ _⟩
 case round =>
  obtain⟨a,hal,rfl,hown,hb⟩:=hrel;have HOW:=aA hown;have qL:=aA hb;by_cases hlt:a<l.length
  · have HOr:=aA (HO.o.below hb);obtain⟨b,off,hao,hbl,eI⟩:=HOr.o.has (by omega);obtain⟨⟨c0,c1,c2,c3,c4,c5,c6⟩,him⟩:=eI a hlt;have hbs:=HO.o.base a hlt;have C6:=HO.o.chk a hlt;obtain⟨b2,SL,aaz,YX,SX⟩:=HO.o.has (by omega);have Qa:=(SX a hlt).2;have qH:Hid (yq l (a+1)=Bx (dA l a) (yq l a) (dA l a).i.iV.length):=rfl;obtain⟨o,ho⟩:=ex (dA l a);rw[<- ho] at c0 c1 c2 c3 c4 c5 c6 Qa hbs C6 qH;have xx:=aA (El l a);obtain⟨L,hL⟩:=ex (yq l a);rw[<- hL] at HOW qH xx;have hcn:=sD C6;have Dj:=aA (ue C6);obtain⟨bs,SK,hag,aeW,YT⟩:=Qa.iV (by omega);have HLG:=aA YT;rw[hag] at c2;clear ho hL eI hb hown him YT hag Qa SX aaz YX C6;subst hao;have fV:=aA (qL.o.alloc qL.o.size (.cells #[.string o.i.name,.slice o.a.an o.i.needs.length o.a.cn,.slice (some (Ad bs SK)) o.i.iV.length o.a.cg,.slice o.a.ay o.i.syms.length o.a.cy,.slice o.a.ar o.i.n7.length o.a.cr,I o.i.entry,I o.base] 195));have Dt:=aA ((aK wr.heap.size wr).alloc (aI _) (.cells #[.string o.i.name,.slice o.a.an o.i.needs.length o.a.cn,.slice (some (Ad bs SK)) o.i.iV.length o.a.cg,.slice o.a.ay o.i.syms.length o.a.cy,.slice o.a.ar o.i.n7.length o.a.cr,I o.i.entry,I o.base] 195));have BO:=aA (bO wr #[.string o.i.name,.slice o.a.an o.i.needs.length o.a.cn,.slice (some (Ad bs SK)) o.i.iV.length o.a.cg,.slice o.a.ay o.i.syms.length o.a.cy,.slice o.a.ar o.i.n7.length o.a.cr,I o.i.entry,I o.base] 195);have HOA:=aA (vA HOW.o Dt.o);go_wp2;obtain⟨W1,hW1⟩:=ex (wr.alloc (.cells #[.string o.i.name,.slice o.a.an o.i.needs.length o.a.cn,.slice (some (Ad bs SK)) o.i.iV.length o.a.cg,.slice o.a.ay o.i.syms.length o.a.cy,.slice o.a.ar o.i.n7.length o.a.cr,I o.i.entry,I o.base] 195));rw[<- hW1] at fV Dt BO HOA;rw[<- hW1];obtain⟨ob,hob⟩:=ex wr.heap.size;rw[<- hob] at BO;rw[<- hob];clear hW1 hob Dt HOW qL HOr c0 c1 c2 c3 c4 c5 c6 hbl;go_loopw [19,3] (fun i v wm=>∃(k:Nat),k<=o.i.iV.length/\i=I k/\gQ w.heap.size wm v (Bx o L k)/\Below w.heap.size w wm/\Below W1.heap.size W1 wm) (fun i _ _=>o.i.iV.length-(intOf i).toNat)
    case atStart=>exact⟨0,by omega,rfl,HOA.o,fV.o,aK _ _⟩
    case round =>
     obtain⟨k,hk,rfl,hown,hb,hb1⟩:=hrel;have HOW:=aA hown;have HBm:=aA hb;have dz:=aA hb1;clear HOA fV;by_cases hlk:k<o.i.iV.length
     · obtain⟨c0,c1,c2,c3,c4⟩:=wH hb aeW HLG.o k hlk;have Bi:=Dj.o k hlk;have HFK:=aA (Lv o L xx.o k);have HKX:Hid (Bx o L (k+1)=Hu o (Bx o L k) (dX o.i.iV k)):=rfl;obtain⟨s,XZ⟩:=ex (dX o.i.iV k);rw[<- XZ] at c0 c1 c2 c3 c4 Bi HKX;clear XZ;obtain⟨L2,hL2⟩:=ex (Bx o L k);rw[<- hL2] at HOW HFK HKX;clear hL2;obtain⟨pg,pn,dt,wb,qZ0⟩:=s;simp only at c0 c1 c2 c3 c4 Bi;have fV:=aA (HBm.o.alloc HBm.o.size (.cells #[I pg,I pn,.string dt,.bool wb,.bool qZ0] 145));have Dt:=aA ((aK wr.heap.size wr).alloc (aI _) (.cells #[I pg,I pn,.string dt,.bool wb,.bool qZ0] 145));have BS:=aA (bO wr #[I pg,I pn,.string dt,.bool wb,.bool qZ0] 145);have BOA:=aA (bM (aQ BO.o dz.o (aT BO.o)) (.cells #[I pg,I pn,.string dt,.bool wb,.bool qZ0] 145));have agi:=aA (dz.o.alloc dz.o.size (.cells #[I pg,I pn,.string dt,.bool wb,.bool qZ0] 145));have aiL:=aA (vA HOW.o Dt.o);clear hown hb hb1;go_wp2;obtain⟨WA,jG⟩:=ex (wr.alloc (.cells #[I pg,I pn,.string dt,.bool wb,.bool qZ0] 145));rw[<- jG] at fV BS BOA agi aiL;rw[<- jG];obtain⟨sb,Vu⟩:=ex wr.heap.size;rw[<- Vu] at BS;rw[<- Vu];clear jG Vu Dt HOW HBm dz c0 c1 c2 c3 c4;have HS:Hid (∀V,Below WA.heap.size WA V->V.cell? (Ad ob 6)=some (I o.base)/\V.cell? (Ad sb 0)=some (I pg)/\V.cell? (Ad sb 1)=some (I pn)/\V.cell? (Ad sb 2)=some (.string dt)/\V.cell? (Ad sb 3)=some (.bool wb)/\V.cell? (Ad sb 4)=some (.bool qZ0)):=fun V hb=>by
        have h1:=aQ BOA.o hb (aT BOA.o);have h2:=aQ BS.o hb (aT BS.o);exact⟨aB h1 6 rfl,aB h2 0 rfl,aB h2 1 rfl,aB h2 2 rfl,aB h2 3 rfl,aB h2 4 rfl⟩
       have Dk:Hid (∀V,Calls Tryz.prog 164 #[.agg #[I pg,I pn,.string dt,.bool wb,.bool qZ0]] V fun e w'=>e=.returned (I (r8 ⟨pg,pn,dt,wb,qZ0⟩))/\Below V.heap.size V w'):=fun V=>Tm ⟨pg,pn,dt,wb,qZ0⟩ V
       have HMP:Hid (∀V,Below WA.heap.size WA V->Calls Tryz.prog 74 #[u3,I (o.base+pg),I pn,I (r8 ⟨pg,pn,dt,wb,qZ0⟩)] V fun e w'=>∃r,e=.returned (.tuple #[r,I (ml L2 (o.base+pg) pn (r8 ⟨pg,pn,dt,wb,qZ0⟩)).2])/\gQ V.heap.size w' r (ml L2 (o.base+pg) pn (r8 ⟨pg,pn,dt,wb,qZ0⟩)).1/\Below V.heap.size V w'):=fun V hb=>XK L2 u3 (o.base+pg) pn _ V (vA aiL.o hb).has HFK.o (by unfold uW;omega) (by unfold uW;omega)
       have HMS:Hid (Hu o L2 ⟨pg,pn,dt,wb,qZ0⟩=(ml L2 (o.base+pg) pn (r8 ⟨pg,pn,dt,wb,qZ0⟩)).1):=rfl;obtain⟨PR,hPR⟩:=ex (r8 ⟨pg,pn,dt,wb,qZ0⟩);rw[<- hPR] at Dk HMP HMS;obtain⟨MN,hMN⟩:=ex (ml L2 (o.base+pg) pn PR);rw[<- hMN] at HMP HMS;clear hPR hMN;have hwr:IntKind.i64.wrap (o.base+pg)=o.base+pg:=m8 _ (by omega);have pL:=aA (aK WA.heap.size WA).drew;have gu:=aA (HS.o _ pL.o)
       go_region_held3 (fun V=>V.cell? (Ad ob 6)=some (I o.base)/\V.cell? (Ad sb 0)=some (I pg)/\V.cell? (Ad sb 1)=some (I pn)/\V.cell? (Ad sb 2)=some (.string dt)/\V.cell? (Ad sb 3)=some (.bool wb)/\V.cell? (Ad sb 4)=some (.bool qZ0)) (first | exact oN.o | exact lR.o | exact gu.o)
        (first
         | (go_at_call 164;refine(Dk.o _).mono ?_;rintro e w2 ⟨rfl,hb⟩;have qa:=aA (pL.o.trans (hb.mono pL.o.size));have lR:=aA (HS.o _ qa.o);clear hb)
         | (go_at_call 74;refine(HMP.o _ qa.o).mono ?_;rintro e w3 ⟨v8,rfl,YM,hb⟩;have p9:=aA (qa.o.trans (hb.mono qa.o.size));have oN:=aA (HS.o _ p9.o);have JY:=aA YM;clear hb YM))
       go_wp2;go_roundw
       case rel=>exact⟨k+1,by omega,by go_num,by rw[HKX.o,HMS.o];exact JY.o.mono (gy fV.o.size qa.o.size),fV.o.trans (p9.o.mono fV.o.size),agi.o.trans (p9.o.mono agi.o.size)⟩
       case measure=>simp[intOf];omega
     · obtain rfl:k=o.i.iV.length:=by omega
       clear hown hb hb1;go_wp2;go_roundw
       case rel=>exact⟨a+1,by omega,by go_num,by rw[qH.o];exact HOW.o,HBm.o⟩
       case measure=>simp[intOf];omega
  · obtain rfl:a=l.length:=by omega
    have Z5:Hid (py l=ni (yq l l.length) (yq l l.length).length):=(Qv _).symm;have xx:=aA (El l l.length);obtain⟨L,hL⟩:=ex (yq l l.length);rw[<- hL] at HOW Z5 xx;have hll:=xx.o.2;obtain⟨ar,cr,hv,hg⟩:=zL HOW.o;subst hv;have HG:=aA hg;clear hown hb hL hg xx;go_wp2;go_loopw [41] (fun i wr=>∃(k:Nat),k<=L.length/\i=I k/\gQ w.heap.size wr (.slice ar L.length cr) (ni L k)/\Below w.heap.size w wr) (fun i _=>L.length-(intOf i).toNat)
    case atStart=>exact⟨0,by omega,rfl,HOW.o,qL.o⟩
    case round =>
     obtain⟨k,hk,rfl,hown,hb⟩:=hrel;have ac8:=aA hown;have aje:=aA hb;clear HOW qL hown hb;by_cases hlt:k<L.length
     · obtain⟨g,hg⟩:=HG.o (by omega);subst hg;have hln:=uR L k;have HO4:Hid (wr.ownsRow w.heap.size 47 4 (.slice (some (Ad g 0)) L.length cr) L.length (bZ (ni L k))):=by
        have h:=ac8.o;unfold gQ at h;rw[hln] at h;exact h
       have HST:=aA (HO4.o.stored (k*4+3) (.bool false));have qH:Hid (bZ (ni L (k+1))=(bZ (ni L k)).set (k*4+3) (.bool false)):=(za false (ni L k) k (by omega)).symm;have hlx:=uR L (k+1);have HLX:=aA hlx;have hgl:=HO4.o.lt g rfl;have q3:=(HO4.o.cellAt (k*4+3) (by omega)).trans (kg (ni L k) k 3 (by omega) (by omega));have qf:=HO4.o.frozenAt (k*4+3);clear hln hlx;go_wp2;go_roundw
       case rel=>exact⟨k+1,by omega,by go_num,by unfold gQ;rw[HLX.o,qH.o];exact HST.o.1,aje.o.setCell (by simp;omega) _⟩
       case measure=>simp[intOf];omega
     · obtain rfl:k=L.length:=by omega
       go_wp2;go_ret;exact⟨_,rfl,by rw[Z5.o];exact ac8.o,aje.o⟩
end Go.Proofs.YtpgifpeohlllfaaGreat
