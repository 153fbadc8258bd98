import Derived.Test.YtlgoihmkgaaemaaGreatGO38
set_option maxHeartbeats 20000000
set_option linter.unusedVariables false
set_option maxRecDepth 100000
set_option linter.unusedSimpArgs false
namespace Go.Proofs.YtlgoihmkgaaemaaGreat
open Go.RowKit
open Go.RowKit
open Go.RowKit
open Go.RowKit
open Go.RowKit
open Go.RowKit
open Go.RowKit
open Go.RowKit
open Go.RowKit
variable {σ:Type} {Hd:World->(Nat->Prop)->σ->Prop} {Ok:σ->List Bool->Prop} {o:gH σ} {lo mb gb:Nat} {D:Nat->Prop} {vr vo:Value} {st:df σ}
open Go.RowKit
section
variable {σ:Type} {Hd:World->(Nat->Prop)->σ->Prop} {Ok:σ->List Bool->Prop} {o:gH σ} {lo mb gb:Nat} {w w':World} {D:Nat->Prop} {vo:Value} {st:df σ}
end
open Go.RowKit
variable {σ:Type} {Hd:World->(Nat->Prop)->σ->Prop} {Ok:σ->List Bool->Prop} {o:gH σ} {lo mb gb:Nat} {D:Nat->Prop} {vr vo:Value} {st:df σ}
open Go.RowKit
variable {σ:Type} {Hd:World->(Nat->Prop)->σ->Prop} {Ok:σ->List Bool->Prop} {o:gH σ} {lo mb gb:Nat} {D:Nat->Prop} {vr vo:Value} {st:df σ}
open Go.RowKit
variable {σ:Type} {Hd:World->(Nat->Prop)->σ->Prop} {Ok:σ->List Bool->Prop} {o:gH σ} {lo mb gb:Nat} {D:Nat->Prop} {vr vo:Value} {st:df σ}
open Go.RowKit
variable {σ:Type} {Hd:World->(Nat->Prop)->σ->Prop} {Ok:σ->List Bool->Prop} {o:gH σ} {lo mb gb:Nat} {D:Nat->Prop} {vr vo:Value} {st:df σ}
open Go.RowKit
variable {σ:Type} {Hd:World->(Nat->Prop)->σ->Prop} {Ok:σ->List Bool->Prop} {o:gH σ} {lo mb gb:Nat} {D:Nat->Prop} {vr vo:Value} {st:df σ}
open Go.RowKit
variable {σ:Type} {Hd:World->(Nat->Prop)->σ->Prop} {Ok:σ->List Bool->Prop} {o:gH σ} {lo mb gb:Nat} {D:Nat->Prop} {vr vo:Value} {st:df σ}
open Go.RowKit
variable {σ:Type} {Hd:World->(Nat->Prop)->σ->Prop} {Ok:σ->List Bool->Prop} {o:gH σ} {lo mb gb:Nat} {D:Nat->Prop} {vr vo:Value} {st:df σ}
open Go.RowKit
section
variable {σ:Type} {Hd:World->(Nat->Prop)->σ->Prop} {Ok:σ->List Bool->Prop} {o:gH σ} {lo mb gb:Nat} {w w':World} {D:Nat->Prop} {vo:Value} {st:df σ}
end
variable {σ:Type} {Hd:World->(Nat->Prop)->σ->Prop} {Ok:σ->List Bool->Prop} {o:gH σ} {lo mb gb:Nat} {D:Nat->Prop} {vr vo:Value} {st:df σ}
open Go.RowKit
open Go.RowKit
open Go.RowKit
open Go.RowKit
def GJ:dU:=⟨0,0,0,0,0⟩
def Au:List dU:=[⟨16,0,0,0,5⟩,⟨11,1,0,0,40⟩,⟨10,0,1,8,0⟩,⟨9,0,1,1,0⟩,⟨16,0,0,0,1⟩,⟨16,0,0,0,6⟩]
def wL:Nat->ByteArray
 | 0=>⟨#[]⟩
 | k+1=>wL k++(Au.getD k GJ).bytes
theorem I9:∀k,(wL k).size=k*8
 | 0=>rfl
 | k+1=>by
  show(wL k++(Au.getD k GJ).bytes).size=_;rw[Vr,I9 k,Ih];omega
def ag1:ByteArray:=⟨#[16,0,0,0,5,0,0,0,11,1,0,0,40,0,0,0]⟩
def ag0:ByteArray:=⟨#[10,0,1,8,0,0,0,0,9,0,1,1,0,0,0,0]⟩
def agZ:ByteArray:=⟨#[16,0,0,0,1,0,0,0,16,0,0,0,6,0,0,0]⟩
def agY:ByteArray:=⟨#[0,0,0,0,0,0,0,0,0,0,0,0,0,0,0,0]⟩
def H5:ByteArray:=⟨#[16,0,0,0,5,0,0,0,11,1,0,0,40,0,0,0,10,0,1,8,0,0,0,0,9,0,1,1,0,0,0,0,16,0,0,0,1,0,0,0,16,0,0,0,6,0,0,0]⟩
theorem XL:wL 6=H5:=by kernel_rfl
def kM:wV:=⟨⟨#[116]⟩,[],[⟨0,4,H5,true,true⟩],[],[],0⟩
theorem R7:Kj kM:=by
 refine⟨by unfold b7 kM;decide,by unfold b7 kM;decide,fun k hk=>absurd hk (by unfold kM;simp),by unfold b7 kM;decide,fun k hk=>?_,by unfold b7 kM;decide,fun k hk=>absurd hk (by unfold kM;simp),by unfold b7 kM;decide,fun k hk=>absurd hk (by unfold kM;simp),by unfold cN kM;decide⟩;have:k=0:=by unfold kM at hk;simp at hk;omega
 subst this;exact⟨by unfold cN kM eN;decide,by unfold cN kM eN;decide,by unfold b7;show(48:Nat)<=_;decide⟩
theorem acG (a:Kk):l8 [⟨kM,a⟩]=0:=by kernel_rfl
theorem R4 (a:Kk):MD [⟨kM,a⟩] [(⟨kM,a⟩:iW)].length 0 [0]=some [0]:=by kernel_rfl
theorem acF (a:Kk):eV [⟨kM,a⟩] 1 [0]=[⟨kM,a,1⟩]:=by kernel_rfl
def PX:List Fz:=[⟨1,ag1,[]⟩,⟨2,ag0,[]⟩,⟨3,agZ,[]⟩,⟨4,agY,[]⟩]
theorem Ud (a:Kk):sV [⟨kM,a,1⟩]=some PX:=by kernel_rfl
def wM:List aY:=[⟨1,4,3,false⟩]
theorem XO (a:Kk):rY [⟨kM,a,1⟩]=wM:=by kernel_rfl
theorem XN (a:Kk):yq (dR [⟨kM,a,1⟩] 0) (cD [⟨kM,a⟩] 0).i.entry=16:=by kernel_rfl
def pO (a1 a2 a3 a4:Option Addr) (c1 c2 c3 c4:Nat):List bG:=[⟨1,ag1,[],a1,c1⟩,⟨2,ag0,[],a2,c2⟩,⟨3,agZ,[],a3,c3⟩,⟨4,agY,[],a4,c4⟩]
theorem aeL {hs:List bG} (h:hs.map gp=PX):∃a1 a2 a3 a4 c1 c2 c3 c4,hs=pO a1 a2 a3 a4 c1 c2 c3 c4:=by
 match hs,h with
 | [⟨g1,d1,f1,a1,c1⟩,⟨g2,d2,f2,a2,c2⟩,⟨g3,d3,f3,a3,c3⟩,⟨g4,d4,f4,a4,c4⟩],h =>
  simp only[y9,List.map_nil,gp,PX,ze,Fz.mk.injEq,AJ] at h;obtain⟨⟨rfl,rfl,rfl⟩,⟨rfl,rfl,rfl⟩,⟨rfl,rfl,rfl⟩,rfl,rfl,rfl⟩:=h;exact⟨a1,a2,a3,a4,c1,c2,c3,c4,rfl⟩
 | [],h=>cases ed List.length h
 | [_],h=>cases ed List.length h
 | [_,_],h=>cases ed List.length h
 | [_,_,_],h=>cases ed List.length h
 | _::_::_::_::_::_,h =>
  have:=ed List.length h;simp[PX] at this
theorem aaA:dO wM:=lO _ (by kernel_rfl)
theorem aaz (a1 a2 a3 a4:Option Addr) (c1 c2 c3 c4:Nat):rM (pO a1 a2 a3 a4 c1 c2 c3 c4):=by
 have one:∀(g:Int) (d:ByteArray) (a:Option Addr) (c:Nat),cN g->d.size<=140737488351232->DN ⟨g,d,[],a,c⟩:=fun g d a c h1 h2=>⟨h1,h2,by unfold b7;show 0<=_;exact sD _,fun k hk=>absurd hk (jf _)⟩
 refine⟨by unfold b7 pO;show(4:Nat)<=_;decide,fun k hk=>?_⟩
 match k,hk with
 | 0,_=>exact one 1 ag1 a1 c1 (by unfold cN;decide) (by show(16:Nat)<=_;decide)
 | 1,_=>exact one 2 ag0 a2 c2 (by unfold cN;decide) (by show(16:Nat)<=_;decide)
 | 2,_=>exact one 3 agZ a3 c3 (by unfold cN;decide) (by show(16:Nat)<=_;decide)
 | 3,_=>exact one 4 agY a4 c4 (by unfold cN;decide) (by show(16:Nat)<=_;decide)
 | k+4,h=>exact absurd h (by unfold pO;simp)
open Go.RowKit
theorem VD (i:dU) (w:World):Calls Tryz.prog 84 #[.agg i.cells] w fun e w'=>e=.returned (.string i.bytes)/\Below w.heap.size w w':=by
 obtain⟨o,a,b,c,m⟩:=i;unfold dU.cells dU.bytes;simp only;have gB:=br ((aK w.heap.size w).alloc (aD _) (.cells #[I o,I a,I b,I c,I m] 108));have BX:=br (bB w #[I o,I a,I b,I c,I m] 108);obtain⟨W,hW⟩:=ex (w.alloc (.cells #[I o,I a,I b,I c,I m] 108));have HW:=br hW;rw[<- hW] at gB BX;have CM:=jt W;have hwl:=aJ BX.o;have k0:∀x:dW W.heap.size W,x.world.cell? (Ad w.heap.size 0)=some (I o):=fun x=>by grind [fR,aq,Hid.o]
 have k1:∀x:dW W.heap.size W,x.world.cell? (Ad w.heap.size 1)=some (I a):=fun x=>by grind [fR,aq,Hid.o]
 have k2:∀x:dW W.heap.size W,x.world.cell? (Ad w.heap.size 2)=some (I b):=fun x=>by grind [fR,aq,Hid.o]
 have k3:∀x:dW W.heap.size W,x.world.cell? (Ad w.heap.size 3)=some (I c):=fun x=>by grind [fR,aq,Hid.o]
 have k4:∀x:dW W.heap.size W,x.world.cell? (Ad w.heap.size 4)=some (I m):=fun x=>by grind [fR,aq,Hid.o]
 have HA:Hid (∀n V,Calls Tryz.prog 58 #[I n,I 1] V fun e w'=>e=.returned (.string (wY 1 n))/\Below V.heap.size V w'):=fun n U=>L8 n 1 U (by omega)
 have HM:Hid (∀V,Calls Tryz.prog 58 #[I m,I 4] V fun e w'=>e=.returned (.string (wY 4 m))/\Below V.heap.size V w'):=fun U=>L8 m 4 U (by omega)
 have s1:=zU 1 o;have s2:=zU 1 a;have s3:=zU 1 b;have s4:=zU 1 c;have s5:=zU 4 m;have t1:(wY 1 o++wY 1 a).size=2:=by rfl
 have t2:(wY 1 o++wY 1 a++wY 1 b).size=3:=by rfl
 have t3:(wY 1 o++wY 1 a++wY 1 b++wY 1 c).size=4:=by rfl
 clear hW;go_enter Tryz.func84,Tryz.ntmps84;go_wp2;rw[<- HW.o];refine dA (by rfl) (by kernel_rfl) ?_
 repeat (first | go_big_quiet_step ((go_at_call 58;first | with_reducible exact gm (HA.o _) _ | with_reducible exact gm HM.o _)) | quiet_step ((go_at_call 58;first | with_reducible exact gm (HA.o _) _ | with_reducible exact gm HM.o _)))
 refine jo ?_;intro _ hw';obtain⟨x,hw''⟩:=hw';subst hw'';go_wp2;go_ret;exact⟨rfl,gB.o.trans (x.keeps.mono gB.o.size)⟩
open Go.RowKit
theorem ahW (nm:ByteArray) (an ag ay ar:Option Addr) (cn gl cg cy cr:Nat) (en:Int) (w:World):Calls Tryz.prog 164 #[.agg #[.string nm,.slice an 0 cn,.slice ag gl cg,.slice ay 0 cy,.slice ar 0 cr,I en]] w fun e w'=>e=.returned (.bool true)/\Below w.heap.size w w':=by
 have HB:=aA ((aK w.heap.size w).alloc (aD _) (.cells #[.string nm,.slice an 0 cn,.slice ag gl cg,.slice ay 0 cy,.slice ar 0 cr,I en] 56));go_enter Tryz.func164,Tryz.ntmps164;go_wp2;go_loopw [10] (fun iv wr=>iv=I 0/\Below w.heap.size w wr) (fun _ _=>0)
 case atStart=>grind [Hid.o]
 case round =>
  obtain⟨rfl,hb⟩:=hrel;have gK:=aA hb;clear hb;go_wp2;go_ret;exact⟨rfl,gK.o⟩
theorem ahX (nm:ByteArray) (an ag ay ar:Option Addr) (cn gl cg cy cr:Nat) (en:Int) (w:World):Calls Tryz.prog 165 #[.agg #[.string nm,.slice an 0 cn,.slice ag gl cg,.slice ay 0 cy,.slice ar 0 cr,I en]] w fun e w'=>e=.returned (.bool true)/\Below w.heap.size w w':=by
 have HB:=aA ((aK w.heap.size w).alloc (aD _) (.cells #[.string nm,.slice an 0 cn,.slice ag gl cg,.slice ay 0 cy,.slice ar 0 cr,I en] 56));go_enter Tryz.func165,Tryz.ntmps165;go_wp2;go_loopw [11] (fun iv wr=>iv=I 0/\Below w.heap.size w wr) (fun _ _=>0)
 case atStart=>grind [Hid.o]
 case round =>
  obtain⟨rfl,hb⟩:=hrel;have gK:=aA hb;clear hb;go_wp2;go_ret;exact⟨rfl,gK.o⟩
theorem YF (ay:Option Addr) (cy:Nat) (w:World):Calls Tryz.prog 163 #[.slice ay 0 cy] w fun e w'=>e=.returned Nl/\Below w.heap.size w w':=by
 go_enter Tryz.func163,Tryz.ntmps163;go_wp2;go_loopw [3,8] (fun sv iv wr=>sv=Nl/\iv=I 0/\Below w.heap.size w wr) (fun _ _ _=>0)
 case atStart=>grind [Below.refl]
 case round =>
  obtain⟨rfl,rfl,hb⟩:=hrel;have gK:=aA hb;clear hb;go_wp2;go_ret;exact⟨rfl,gK.o⟩
theorem afK (nm:ByteArray) (an ag ay ar:Option Addr) (cn gl cg cy cr:Nat) (en:Int) (w:World) (hn:∀V,Calls Tryz.prog 200 #[.string nm] V fun e w'=>e=.returned (.bool true)/\Below V.heap.size V w'):Calls Tryz.prog 158 #[.agg #[.string nm,.slice an 0 cn,.slice ag gl cg,.slice ay 0 cy,.slice ar 0 cr,I en]] w fun e w'=>e=.returned (.bool true)/\Below w.heap.size w w':=by
 have HN:=aA hn;clear hn;have HB:=aA ((aK w.heap.size w).alloc (aD _) (.cells #[.string nm,.slice an 0 cn,.slice ag gl cg,.slice ay 0 cy,.slice ar 0 cr,I en] 56));have X0:=aA (bB w #[.string nm,.slice an 0 cn,.slice ag gl cg,.slice ay 0 cy,.slice ar 0 cr,I en] 56);go_enter Tryz.func158,Tryz.ntmps158;go_wp2_with (go_at_call 200;refine(HN.o _).mono ?_;rintro e w1 ⟨rfl,hb1⟩;have cH:=aA (HB.o.trans (hb1.mono HB.o.size));have X1:=aA (aN X0.o hb1 (aJ X0.o));have x1:w1.cell? (Ad w.heap.size 1)=some (.slice an 0 cn):=aq X1.o 1 rfl;clear hb1)
 go_loopw [16] (fun iv wr=>iv=I 0/\wr.heap[w.heap.size]?=some (.cells #[.string nm,.slice an 0 cn,.slice ag gl cg,.slice ay 0 cy,.slice ar 0 cr,I en] 56 (0,0))/\Below w.heap.size w wr) (fun _ _=>0)
 case atStart=>grind [Hid.o]
 case round =>
  obtain⟨rfl,hx,hb⟩:=hrel;have HX:=aA hx;have gK:=aA hb;have y3:wr.cell? (Ad w.heap.size 3)=some (.slice ay 0 cy):=aq hx 3 rfl;clear hb hx cH X1 x1;go_wp2;clear y3;go_loopw [27] (fun iv wi=>iv=I 0/\wi.heap[w.heap.size]?=some (.cells #[.string nm,.slice an 0 cn,.slice ag gl cg,.slice ay 0 cy,.slice ar 0 cr,I en] 56 (0,0))/\Below w.heap.size w wi) (fun _ _=>0)
  case atStart=>exact⟨rfl,HX.o,gK.o⟩
  case round =>
   clear HX gK;obtain⟨rfl,hx,hb⟩:=hrel;have mQ:=aA hb;have y4:wr.cell? (Ad w.heap.size 4)=some (.slice ar 0 cr):=aq hx 4 rfl;clear hb hx;go_wp2;clear y4;go_loopw [39] (fun iv wi=>iv=I 0/\Below w.heap.size w wi) (fun _ _=>0)
   case atStart=>exact⟨rfl,mQ.o⟩
   case round =>
    obtain⟨rfl,hb⟩:=hrel;have sQ:=aA hb;clear hb;go_wp2;go_ret;exact⟨rfl,sQ.o⟩
theorem afL (nm:ByteArray) (gs:List pR) (en:Int) (an ag ay ar:Option Addr) (cn cg cy cr:Nat) (w:World) (h:qm w ⟨an,cn,ag,cg,ay,cy,ar,cr⟩ ⟨nm,[],gs,[],[],en⟩) (hf:Kj ⟨nm,[],gs,[],[],en⟩) (h1:uU nm=true) (h2:CS ⟨nm,[],gs,[],[],en⟩=true) (h3:gs.all lC=true) (h4:CT gs=true) (h5:CR ⟨nm,[],gs,[],[],en⟩=true) :
  Calls Tryz.prog 109 #[.agg #[.string nm,.slice an 0 cn,.slice ag gs.length cg,.slice ay 0 cy,.slice ar 0 cr,I en]] w fun e w'=>e=.returned (I 0)/\Below w.heap.size w w':=by
 have Eu:Hid (∀V,Calls Tryz.prog 200 #[.string nm] V fun e w'=>e=.returned (.bool true)/\Below V.heap.size V w'):=fun V=>(VC nm V hf.name).mono fun e w' ⟨e1,e2⟩=>⟨by grind,by grind [Below.refl]⟩
 have HNM:=aA (fun V=>afK nm an ag ay ar cn gs.length cg cy cr en V Eu.o);have HCN:Hid (∀V,Calls Tryz.prog 159 #[.agg #[.string nm,.slice an 0 cn,.slice ag gs.length cg,.slice ay 0 cy,.slice ar 0 cr,I en]] V fun e w'=>e=.returned (.bool true)/\Below V.heap.size V w'):=fun V=>(J9 ⟨nm,[],gs,[],[],en⟩ ⟨an,cn,ag,cg,ay,cy,ar,cr⟩ V hf).mono fun e w' ⟨e1,e2⟩=>⟨by grind,e2⟩
 have HRG:Hid (∀V,Below w.heap.size w V->Calls Tryz.prog 160 #[.slice ag gs.length cg] V fun e w'=>e=.returned (.bool true)/\Below V.heap.size V w'):=fun V hV=>(J8 gs ag cg V (h.below hV).jK hf.jK hf.seg).mono fun e w' ⟨e1,e2⟩=>⟨by grind,e2⟩
 have HOV:Hid (∀V,Below w.heap.size w V->Calls Tryz.prog 161 #[.slice ag gs.length cg] V fun e w'=>e=.returned (.bool false)/\Below V.heap.size V w'):=fun V hV=>(SG gs ag cg V (h.below hV).jK hf.jK h3).mono fun e w' ⟨e1,e2⟩=>⟨by grind,e2⟩
 have HTW:Hid (∀ao c V,Calls Tryz.prog 162 #[.slice ao 0 c] V fun e w'=>e=.returned (.bool false)/\Below V.heap.size V w'):=fun ao c V=>(YE [] ao c V (fun h=>absurd h (jf _)) (sD _) (fun k hk=>absurd hk (jf _))).mono fun e w' ⟨e1,e2⟩=>⟨by rw[e1];rfl,e2⟩
 have HSN:=aA (fun V=>YF ay cy V);have ZU:=aA (fun V=>ahW nm an ag ay ar cn gs.length cg cy cr en V);have HRL:=aA (fun V=>ahX nm an ag ay ar cn gs.length cg cy cr en V);have yF:Hid (∀V,Below w.heap.size w V->Calls Tryz.prog 166 #[.agg #[.string nm,.slice an 0 cn,.slice ag gs.length cg,.slice ay 0 cy,.slice ar 0 cr,I en]] V fun e w'=>e=.returned (.bool true)/\Below V.heap.size V w'):=fun V hV=>(Kf ⟨nm,[],gs,[],[],en⟩ ⟨an,cn,ag,cg,ay,cy,ar,cr⟩ V (h.below hV) hf h3).mono fun e w' ⟨e1,e2⟩=>⟨by grind,e2⟩
 obtain⟨gl,hgl⟩:=ex gs.length;rw[<- hgl] at HNM HCN HRG HOV ZU HRL yF ⊢;clear h hf h1 h2 h3 h4 h5 hgl Eu;have HB:=aA ((aK w.heap.size w).alloc (aD _) (.cells #[.string nm,.slice an 0 cn,.slice ag gl cg,.slice ay 0 cy,.slice ar 0 cr,I en] 56));have X:=aA (bB w #[.string nm,.slice an 0 cn,.slice ag gl cg,.slice ay 0 cy,.slice ar 0 cr,I en] 56);go_enter Tryz.func109,Tryz.ntmps109;go_wp2_with (first
  | (go_at_call 158;refine(HNM.o _).mono ?_;rintro e w1 ⟨rfl,hb⟩;have cH:=aA (HB.o.trans (hb.mono HB.o.size));have X1:=aA (aN X.o hb (aJ X.o));clear hb;have k10:w1.cell? (Ad w.heap.size 0)=some (.string nm):=aq X1.o 0 rfl;have k11:w1.cell? (Ad w.heap.size 1)=some (.slice an 0 cn):=aq X1.o 1 rfl;have k12:w1.cell? (Ad w.heap.size 2)=some (.slice ag gl cg):=aq X1.o 2 rfl;have k13:w1.cell? (Ad w.heap.size 3)=some (.slice ay 0 cy):=aq X1.o 3 rfl;have k14:w1.cell? (Ad w.heap.size 4)=some (.slice ar 0 cr):=aq X1.o 4 rfl;have k15:w1.cell? (Ad w.heap.size 5)=some (I en):=aq X1.o 5 rfl)
  | (go_at_call 159;refine(HCN.o _).mono ?_;rintro e w2 ⟨rfl,hb⟩;have gK:=aA (cH.o.trans (hb.mono cH.o.size));have X2:=aA (aN X1.o hb (aJ X1.o));clear hb;have k22:w2.cell? (Ad w.heap.size 2)=some (.slice ag gl cg):=aq X2.o 2 rfl)
  | (go_at_call 160;refine(HRG.o _ gK.o).mono ?_;rintro e w3 ⟨rfl,hb⟩;have mQ:=aA (gK.o.trans (hb.mono gK.o.size));have X3:=aA (aN X2.o hb (aJ X2.o));clear hb;have k32:w3.cell? (Ad w.heap.size 2)=some (.slice ag gl cg):=aq X3.o 2 rfl)
  | (go_at_call 161;refine(HOV.o _ mQ.o).mono ?_;rintro e w4 ⟨rfl,hb⟩;have sQ:=aA (mQ.o.trans (hb.mono mQ.o.size));have X4:=aA (aN X3.o hb (aJ X3.o));clear hb;have k41:w4.cell? (Ad w.heap.size 1)=some (.slice an 0 cn):=aq X4.o 1 rfl)
  | (go_at_call 162;refine(HTW.o _ _ _).mono ?_;rintro e w7 ⟨rfl,hb⟩;have HB7:=aA (HB6.o.trans (hb.mono HB6.o.size));have X7:=aA (aN X6.o hb (aJ X6.o));clear hb;have k70:w7.cell? (Ad w.heap.size 0)=some (.string nm):=aq X7.o 0 rfl;have k71:w7.cell? (Ad w.heap.size 1)=some (.slice an 0 cn):=aq X7.o 1 rfl;have k72:w7.cell? (Ad w.heap.size 2)=some (.slice ag gl cg):=aq X7.o 2 rfl;have k73:w7.cell? (Ad w.heap.size 3)=some (.slice ay 0 cy):=aq X7.o 3 rfl;have k74:w7.cell? (Ad w.heap.size 4)=some (.slice ar 0 cr):=aq X7.o 4 rfl;have k75:w7.cell? (Ad w.heap.size 5)=some (I en):=aq X7.o 5 rfl)
  | (go_at_call 162;refine(HTW.o _ _ _).mono ?_;rintro e w5 ⟨rfl,hb⟩;have PW:=aA (sQ.o.trans (hb.mono sQ.o.size));have X5:=aA (aN X4.o hb (aJ X4.o));clear hb;have k53:w5.cell? (Ad w.heap.size 3)=some (.slice ay 0 cy):=aq X5.o 3 rfl)
  | (go_at_call 163;refine(HSN.o _).mono ?_;rintro e w6 ⟨rfl,hb⟩;have HB6:=aA (PW.o.trans (hb.mono PW.o.size));have X6:=aA (aN X5.o hb (aJ X5.o));clear hb)
  | (go_at_call 164;refine(ZU.o _).mono ?_;rintro e w8 ⟨rfl,hb⟩;have HB8:=aA (HB7.o.trans (hb.mono HB7.o.size));have X8:=aA (aN X7.o hb (aJ X7.o));clear hb;have k80:w8.cell? (Ad w.heap.size 0)=some (.string nm):=aq X8.o 0 rfl;have k81:w8.cell? (Ad w.heap.size 1)=some (.slice an 0 cn):=aq X8.o 1 rfl;have k82:w8.cell? (Ad w.heap.size 2)=some (.slice ag gl cg):=aq X8.o 2 rfl;have k83:w8.cell? (Ad w.heap.size 3)=some (.slice ay 0 cy):=aq X8.o 3 rfl;have k84:w8.cell? (Ad w.heap.size 4)=some (.slice ar 0 cr):=aq X8.o 4 rfl;have k85:w8.cell? (Ad w.heap.size 5)=some (I en):=aq X8.o 5 rfl)
  | (go_at_call 165;refine(HRL.o _).mono ?_;rintro e w9 ⟨rfl,hb⟩;have HB9:=aA (HB8.o.trans (hb.mono HB8.o.size));have X9:=aA (aN X8.o hb (aJ X8.o));clear hb;have k90:w9.cell? (Ad w.heap.size 0)=some (.string nm):=aq X9.o 0 rfl;have k91:w9.cell? (Ad w.heap.size 1)=some (.slice an 0 cn):=aq X9.o 1 rfl;have k92:w9.cell? (Ad w.heap.size 2)=some (.slice ag gl cg):=aq X9.o 2 rfl;have k93:w9.cell? (Ad w.heap.size 3)=some (.slice ay 0 cy):=aq X9.o 3 rfl;have k94:w9.cell? (Ad w.heap.size 4)=some (.slice ar 0 cr):=aq X9.o 4 rfl;have k95:w9.cell? (Ad w.heap.size 5)=some (I en):=aq X9.o 5 rfl)
  | (go_at_call 166;refine(yF.o _ HB9.o).mono ?_;rintro e w10 ⟨rfl,hb⟩;have arn:=aA (HB9.o.trans (hb.mono HB9.o.size));clear hb))
 go_ret;exact⟨rfl,arn.o⟩
open Go.RowKit Go.WideMaps Go.Maps
theorem Qv (l:List iW) (ao:Option Addr) (cap:Nat) (w:World) (h:DM w ao l) (hf:adj l) (Hj:∀k,k<l.length->∀V,Below w.heap.size w V->Calls Tryz.prog 109 #[.agg (jM (cD l k).a (cD l k).i)] V fun e w'=>e=.returned (I (mC (cD l k).i))/\Below V.heap.size V w'):Calls Tryz.prog 63 #[.slice ao l.length cap] w (ah3 l w):=by
 have HH:=aA h;have HF:=aA hf;have JF:=aA Hj;have hn:l.length<=140737488351232:=hf.1;clear h hf Hj;have hmm:=@run_makeMap Tryz.prog;go_enter Tryz.func63,Tryz.ntmps63;go_wp2;go_loopw [12] (fun i wr=>∃k:Nat,k<=l.length/\i=I k/\oL l k=0/\Below w.heap.size w wr) (fun i _=>l.length-(intOf i).toNat)
 case atStart=>exact⟨0,by omega,rfl,rfl,aK _ _⟩
 case round =>
  obtain⟨k,hk,rfl,hz,hb⟩:=hrel;have HZ:=aA hz;have AH:=aA hb;clear hz;by_cases hlt:k<l.length
  · obtain⟨b,off,hao,hbl,eY⟩:=(HH.o.below hb) (by omega);subst hao;obtain⟨⟨c0,c1,c2,c3,c4,c5⟩,hi⟩:=eY k hlt;have PN:=HF.o.2 k hlt;have qc:=aA (JF.o k hlt);have HE:Hid (oL l (k+1)=mC (cD l k).i):=by
     show _=_;simp only[oL];rw[aB HZ.o]
    have HBY:Hid (mC (cD l k).i≠0->oM l=mC (cD l k).i):=fun g=>by
     have e1:oL l (k+1)≠0:=by rw[HE.o];exact g
     have e2:=Fw l (k+1) e1 l.length (by omega);unfold oM;rw[e2,au e1,HE.o]
    obtain⟨x,hx⟩:=ex (cD l k);rw[<- hx] at c0 c1 c2 c3 c4 c5 hi PN HE HBY qc;clear hx eY hb;obtain⟨⟨nm,ns,gs,ys,rs,en⟩,⟨an,cn,ag,cg,ay,cy,ar,cr⟩⟩:=x;simp only at c0 c1 c2 c3 c4 c5;have jk:=aA (AH.o.alloc AH.o.size (.cells #[.string nm,.slice an ns.length cn,.slice ag gs.length cg,.slice ay ys.length cy,.slice ar rs.length cr,I en] 56));have HC:Hid (∀W,Below wr.heap.size wr W->Calls Tryz.prog 109 #[.agg #[.string nm,.slice an ns.length cn,.slice ag gs.length cg,.slice ay ys.length cy,.slice ar rs.length cr,I en]] W fun e w'=>e=.returned (I (mC ⟨nm,ns,gs,ys,rs,en⟩))/\Below W.heap.size W w'):=fun V hb=>qc.o V (AH.o.trans (hb.mono AH.o.size))
    clear hi PN qc JF;obtain⟨c,hc⟩:=ex (mC ⟨nm,ns,gs,ys,rs,en⟩);simp only at HE HBY;rw[<- hc] at HC HE HBY;clear hc;by_cases hcz:c=0
    · subst hcz;clear HBY;go_wp2_with (go_at_call 109;refine(HC.o _ ((aK _ _).alloc (aD _) _)).mono ?_;rintro e w1 ⟨rfl,hb⟩;have jk:=aA (jk.o.trans (hb.mono jk.o.size));clear hb)
      go_roundw
      case rel=>exact⟨k+1,by omega,by go_num,HE.o,jk.o⟩
      case measure=>simp[intOf];omega
    · have HBE:=aA (HBY.o hcz);have avk:(c==0)=false:=by grind
      clear HBY HE;go_wp2_with (go_at_call 109;refine(HC.o _ ((aK _ _).alloc (aD _) _)).mono ?_;rintro e w1 ⟨rfl,hb⟩;have jk:=aA (jk.o.trans (hb.mono jk.o.size));clear hb)
      go_ret2
      refine⟨jk.o,?_⟩;rw[HBE.o,au hcz];rfl
  · obtain rfl:k=l.length:=by omega
    clear hb;obtain⟨m,hm⟩:=ex wr.heap.size;have hsm:w.heap.size<=m:=by rw[hm];exact AH.o.size
    have HM0:Hid ((wr.alloc (.map #[] 0)).ownsMap Tryz.prog 9 Y3 m 0 (.map [])):=by
     rw[hm];exact World.ownsMap_made _ _ _ _
    have HM:=aA hm;clear hm;go_wp2;rw[<- HM.o];go_loopw [25] (fun i wi=>∃(k:Nat) (D:DataW Value),k<=l.length/\i=I k/\wi.ownsMap Tryz.prog 9 Y3 m k D/\KG l k D/\Below w.heap.size w wi) (fun i _=>l.length-(intOf i).toNat)
    case atStart=>exact⟨0,.map [],sD _,rfl,HM0.o,aby l,AH.o.alloc AH.o.size _⟩
    case round =>
     obtain⟨k,D,hk,rfl,hown,hnm,hb⟩:=hrel;have HW:=aA hown;have HN:=aA hnm;have HBi:=aA hb;by_cases hlt:k<l.length
     · obtain⟨b,off,hao,hbl,eY⟩:=(HH.o.below hb) (by omega);subst hao;obtain⟨⟨c0,c1,c2,c3,c4,c5⟩,hi⟩:=eY k hlt;have PN:=(HF.o.2 k hlt).name;have HNS:=aA (abz hlt hown.isMap (hown.tidy Qj) hnm);obtain⟨x,hx⟩:=ex (cD l k);rw[<- hx] at c0 c1 c2 c3 c4 c5 PN HNS;clear hx eY hb hi hown hnm;obtain⟨⟨nm,ns,gs,ys,rs,en⟩,⟨an,cn,ag,cg,ay,cy,ar,cr⟩⟩:=x;simp only at c0 c1 c2 c3 c4 c5 PN;have hkey:=Uv PN;have rW:k<maxLen:=by unfold maxLen;omega
       have jk:=aA (HBi.o.alloc HBi.o.size (.cells #[.string nm,.slice an ns.length cn,.slice ag gs.length cg,.slice ay ys.length cy,.slice ar rs.length cr,I en] 56));have sB:=aA (HW.o.alloc (.cells #[.string nm,.slice an ns.length cn,.slice ag gs.length cg,.slice ay ys.length cy,.slice ar rs.length cr,I en] 56));go_wp2_with (first | (at_mapUpdate;refine Vo _ rfl _ _ _ 124 rfl 9 56 Qj Tryz.underlying124 Y3 m k D rfl sB.o rW _ _ _ rfl rfl hkey _ [] rfl ?_;intro w1 hown1 hgrow1;have HW1:=aA hown1;have cH:=aA (jk.o.grown hgrow1 jk.o.size (fun j hj=>by cases hj;exact hsm));clear hown1 hgrow1) | go_in)
       go_roundw
       case rel=>exact⟨k+1,_,by omega,by go_num,HW1.o,HNS.o,cH.o⟩
       case measure=>simp[intOf];omega
     · obtain rfl:k=l.length:=by omega
       have hlen:=hown.len Tryz.underlying124 3;have HE0:=aA HZ.o;by_cases ho:oK (kj l) l.length=true
       · have hsz:=hnm.all.2 ho;have HBE:Hid (oM l=0):=by
          show _=_;unfold oM xP;rw[aB HE0.o,tR,ho];rfl
         rw[hsz] at hlen;clear hown hnm hb hsz ho;go_wp2
         go_ret2
         refine⟨HBi.o,?_⟩;rw[HBE.o,aB rfl];exact⟨_,D,rfl,HW.o,HN.o⟩
       · have hsz:Maps.size D<l.length:=by
          have h1:=hnm.le;have h2:=hnm.all;rcases Nat.lt_or_ge (Maps.size D) l.length with g | g
          · exact g
          · exact(ho (h2.1 (by omega))).elim
         have HBE:Hid (oM l=5):=by
          show _=_;unfold oM xP;rw[aB HE0.o,tR,au ho]
         obtain⟨z,hz⟩:=ex (Maps.size D);rw[<- hz] at hlen hsz;have hsz':(z:Int)<(l.length:Int):=by omega
         clear hown hnm hb ho hz;go_wp2
         go_ret2
         refine⟨HBi.o,?_⟩;rw[HBE.o,au (by decide)];rfl
open Go.RowKit
theorem Mx (l:List kr) (ao:Option Addr) (cap:Nat) (w:World) (h:QA l ao w) (hl7:l.length<=7) (hpx:∀k,k<l.length->∀V,Below w.heap.size w V->Calls Tryz.prog 112 #[.agg (px (dR l k)),.slice ao l.length cap] V (CU (vX l (dR l k)) V)):Calls Tryz.prog 66 #[.slice ao l.length cap] w (Kp (sV l) w):=by
 have HO:=aA h;have HPX:=aA hpx;clear h hpx;obtain⟨R,hR⟩:=ex (sV l);have HR:Hid (R=uA l l.length):=hR;rw[<- hR];clear hR;obtain⟨i0,hin,hz0,hz1,hz2⟩:=jy Ux;go_enter Tryz.func66,Tryz.ntmps66;go_wp2;go_loopw [15,4] (fun i v wr=>∃(a:Nat) (E:List Fz) (hs:List bG),a<=l.length/\i=I a/\uA l a=some E/\hs.map gp=E/\hs.length<=a*1600/\A6 w.heap.size wr v hs/\Below w.heap.size w wr) (fun i _ _=>l.length-(intOf i).toNat)
 case atStart=>exact⟨0,[],[],by omega,rfl,rfl,rfl,by simp,A6.nil _ _,aK _ _⟩
 case round =>
  obtain⟨a,E,hs,hal,rfl,hE,hmE,hlen,hrs,hb⟩:=hrel;have HE:=aA hE;have HME:=aA hmE;have ZV:=aA hrs;have AH:=aA hb;by_cases hlt:a<l.length
  · have HOr:=aA (HO.o.below hb);obtain⟨b,off,hao,hbl,eY⟩:=HOr.o.has (by omega);obtain⟨⟨c0,c1,c2,c3,c4,c5,c6⟩,him⟩:=eY a hlt;have hbs:=HO.o.base a hlt;have Hj:=HO.o.chk a hlt;have HPA:Hid (∀V,Below wr.heap.size wr V->Calls Tryz.prog 112 #[.agg (px (dR l a)),.slice ao l.length cap] V (CU (vX l (dR l a)) V)):=fun V hb=>HPX.o a hlt V (AH.o.trans (hb.mono AH.o.size))
    have nU:Hid (vX l (dR l a)=none->R=none):=fun g=>by
     rw[HR.o];refine Ij (k:=a+1) ?_ l.length (by omega);simp only[uA,HE.o,g]
    have yM:Hid (∀ps,vX l (dR l a)=some ps->uA l (a+1)=some (E++yo (dR l a) ps (dR l a).i.jK.length)):=fun ps g=>by simp only[uA,HE.o,g]
    have Hy:Hid (∀ps,vX l (dR l a)=some ps->ps.length<=16/\∀j,j<ps.length->VY (xR ps j)):=fun ps g=>by
     have h1:=Ky g;have h2:=(wk Hj).2.2.2.2;exact⟨by omega,QD Hj hbs.1 hbs.2 _ ps (aD _) g⟩
    obtain⟨b2,ajs,afB,adO,Yz⟩:=HO.o.has (by omega);have aaZ:=(Yz a hlt).2;obtain⟨o,ho⟩:=ex (dR l a);rw[<- ho] at aaZ;rw[<- ho] at c0 c1 c2 c3 c4 c5 c6 him hbs Hj HPA nU yM Hy;have hcn:=wk Hj;have HSB:=aA (xQ Hj);simp only[px] at HPA;obtain⟨bs,Yr,hag,ajT,hlg⟩:=aaZ.jK (by omega);have HLG:=aA hlg;rw[hag] at HPA c2;clear ho eY hb hE hmE hrs him hlg hag aaZ Yz afB adO;subst hao;have jk:=aA (AH.o.alloc AH.o.size (.cells #[.string o.i.name,.slice o.a.an o.i.needs.length o.a.cn,.slice (some (Ad bs Yr)) o.i.jK.length o.a.cg,.slice o.a.ay o.i.syms.length o.a.cy,.slice o.a.ar o.i.qd.length o.a.cr,I o.i.entry,I o.base] 131));have Jy:=aA ((aK wr.heap.size wr).alloc (aD _) (.cells #[.string o.i.name,.slice o.a.an o.i.needs.length o.a.cn,.slice (some (Ad bs Yr)) o.i.jK.length o.a.cg,.slice o.a.ay o.i.syms.length o.a.cy,.slice o.a.ar o.i.qd.length o.a.cr,I o.i.entry,I o.base] 131));have BO:=aA (bB wr #[.string o.i.name,.slice o.a.an o.i.needs.length o.a.cn,.slice (some (Ad bs Yr)) o.i.jK.length o.a.cg,.slice o.a.ay o.i.syms.length o.a.cy,.slice o.a.ar o.i.qd.length o.a.cr,I o.i.entry,I o.base] 131);have Yl:=aA (HPA.o _ Jy.o);cases e:vX l o with
    | none =>
     have HRN:=aA (nU.o e);rw[e] at Yl;clear e nU yM Hy;go_wp2_with (go_at_call 112;refine Yl.o.mono ?_;rintro e w1 ⟨hb,rfl⟩;have cH:=aA (jk.o.trans (hb.mono jk.o.size));clear hb)
     go_ret2
     show Kp R w _ _;rw[HRN.o];exact⟨cH.o,rfl⟩
    | some ps =>
     have aqN:=aA (yM.o ps e);obtain⟨hps,hfp⟩:=Hy.o ps e;have aq4:=aA hfp;rw[e] at Yl;clear e nU yM Hy hfp;have J5:∀q,u4.ownBlock=some q->q<wr.heap.size:=fun q hq=>(ZV.o.row.lt q hq).2
     have agx:=aA J5;clear J5;go_wp2_with (go_at_call 112;refine Yl.o.mono ?_;rintro e w1 ⟨hb,v7,rfl,hpr⟩;have cH:=aA (jk.o.trans (hb.mono jk.o.size));have HW1:=aA (Jy.o.trans (hb.mono Jy.o.size));have Bv:=aA hpr;have BO1:=aA (aN BO.o hb (aJ BO.o));have g2:=aq BO1.o 2 rfl;clear hb hpr)
     obtain⟨ap,cp,hv7,hpn⟩:=abk Bv.o u4.ownBlock (fun q hq=>by have:=agx.o q hq;simp;omega);subst hv7;have HPN:=aA hpn;have amW:=aA (ZV.o.below HW1.o);have apo:=AH.o.size;obtain⟨rb,J5⟩:=ex u4.ownBlock;have MS:=aA J5;rw[<- J5] at HPN agx;clear hpn Bv Yl HPA Jy jk ZV HW1 g2 BO c0 c1 c2 c3 c4 c5 c6 J5 HOr hbl;obtain⟨ob,hob⟩:=ex wr.heap.size;rw[<- hob] at BO1 agx apo;rw[<- hob];have HNE:Hid (some ob≠rb):=fun e=>by have:=agx.o ob e.symm;omega
     clear hob AH agx;go_loopw [31,4] (fun i v wm=>∃(k:Nat) (hs':List bG),k<=o.i.jK.length/\i=I k/\hs'.map gp=E++yo o ps k/\hs'.length<=a*1600+k*255/\A6 w.heap.size wm v hs'/\Below w.heap.size w wm/\uv w1 rb wm v.ownBlock) (fun i _ _=>o.i.jK.length-(intOf i).toNat)
     case atStart=>exact⟨0,hs,by omega,rfl,by rw[HME.o];simp[yo],by omega,amW.o,cH.o,by rw[MS.o];exact uv.refl _ _⟩
     case round =>
      obtain⟨k,hs',hk,rfl,hmE,hlen',hrs,hb,Mg⟩:=hrel;have Gx:=aA hmE;have Fb:=aA hrs;have HBm:=aA hb;have HFm:=aA Mg;clear amW MS hlen HME;by_cases hlk:k<o.i.jK.length
      · obtain⟨c0,c1,c2,c3,c4⟩:=zV hb ajT HLG.o k hlk;have Jh:=HSB.o k hlk;have wW:Hid (yo o ps (k+1)=yo o ps k++zX o ps (eN o.i.jK k) (eN o.i.jK k).aQ.toNat):=rfl;obtain⟨s,hse⟩:=ex (eN o.i.jK k);rw[<- hse] at c0 c1 c2 c3 c4 Jh wW;clear hse;obtain⟨P,hP⟩:∃P:Nat,s.aQ=(P:Int):=⟨s.aQ.toNat,by omega⟩;obtain⟨pg,pn,dt,wb,qZ0⟩:=s;simp only at c0 c1 c2 c3 c4 Jh wW hP;subst hP;rw[jz] at wW;have hvb:∀q,u4.ownBlock=some q->q<wr.heap.size:=fun q hq=>(Fb.o.row.lt q hq).2
        have HVB:=aA hvb;have jk:=aA (HBm.o.alloc HBm.o.size (.cells #[I pg,I P,.string dt,.bool wb,.bool qZ0] 166));have Jy:=aA ((aK wr.heap.size wr).alloc (aD _) (.cells #[I pg,I P,.string dt,.bool wb,.bool qZ0] 166));have BS:=aA (bB wr #[I pg,I P,.string dt,.bool wb,.bool qZ0] 166);have Fe:=aA (HFm.o.trans (uv.bZ Jy.o u4.ownBlock));have akt:=aA (Fb.o.below Jy.o);clear hvb hmE hrs hb Mg;go_wp2;obtain⟨vb,hvb⟩:=ex u4.ownBlock;have HVE:=aA hvb;rw[<- hvb] at HVB;obtain⟨WA,lu⟩:=ex (wr.alloc (.cells #[I pg,I P,.string dt,.bool wb,.bool qZ0] 166));rw[<- lu] at jk Jy BS Fe akt;rw[<- lu];obtain⟨sb,aaW⟩:=ex wr.heap.size;rw[<- aaW] at BS HVB;rw[<- aaW];have HNS:Hid (some sb≠vb):=fun e=>by have:=HVB.o sb e.symm;omega
        clear hvb lu aaW Jy HVB Fb HBm HFm c0 c1 c2 c3 c4;have hpb:∀n:Nat,n<P->0<=o.base+pg+(n:Int)/\o.base+pg+(n:Int)<=3000:=fun n hn=>by omega
        have HPB:=aA hpb;have N0:Hid (∀n:Nat,n<P->∀V,Calls Tryz.prog 113 #[.agg #[I pg,I (P:Int),.string dt,.bool wb,.bool qZ0],I n] V fun e w'=>e=.returned (.string (wj ⟨pg,P,dt,wb,qZ0⟩ n))/\Below V.heap.size V w'):=fun n hn V=>SP ⟨pg,P,dt,wb,qZ0⟩ n V (by omega) (by show dt.size<=100000;omega)
        clear hpb;go_loopw [37,4] (fun i v wi=>∃(n:Nat) (hs2:List bG),n<=P/\i=I n/\hs2.map gp=(E++yo o ps k)++zX o ps ⟨pg,P,dt,wb,qZ0⟩ n/\hs2.length<=a*1600+k*255+n/\A6 w.heap.size wi v hs2/\Below w.heap.size w wi/\uv w1 rb wi v.ownBlock/\uv WA vb wi v.ownBlock) (fun i _ _=>P-(intOf i).toNat)
        case atStart=>exact⟨0,hs',by omega,rfl,by rw[Gx.o];simp[zX],by omega,akt.o,jk.o,Fe.o,by rw[HVE.o];exact uv.refl _ _⟩
        case round =>
         obtain⟨n,hs2,hn,rfl,Qa,Qb,hrs,hb,Mg,Qd⟩:=hrel;have Ym:=aA Qa;have HR3:=aA hrs;have HBi:=aA hb;have HFi:=aA Mg;have HFs:=aA Qd;have ahM:=hb.size;clear akt jk Fe HVE Gx hlen' Qa hrs hb;by_cases hnP:n<P
         · have BOi:=aA (Mg.keep BO1.o HNE.o);have BSi:=aA (Qd.keep BS.o HNS.o);have y6:=aq BOi.o 6 rfl;have z0:=aq BSi.o 0 rfl;have z1:=aq BSi.o 1 rfl;have z2:=aq BSi.o 2 rfl;have z3:=aq BSi.o 3 rfl;have z4:=aq BSi.o 4 rfl;have HPi:=aA (HPN.o.fr Mg);have hpb:=HPB.o n hnP;have HNP:=aA (SV o ps ⟨pg,P,dt,wb,qZ0⟩ n);have HG2:=aA (N0.o n hnP);have HFX:Hid (∀V,Below wr.heap.size wr V->Calls Tryz.prog 114 #[I (o.base+pg+(n:Int)),.slice ap ps.length cp] V fun e w'=>(∃v,e=.returned v/\w'.ownsRow V.heap.size 226 2 v (kO (o.base+pg+(n:Int)) ps).length ((kO (o.base+pg+(n:Int)) ps).flatMap CX))/\Below V.heap.size V w'):=fun V hb=>Qu _ ps ap cp V hpb.1 hpb.2 (HPi.o.below hb) (by omega) aq4.o
           have HSP:Hid (abx o ps ⟨pg,P,dt,wb,qZ0⟩ n=⟨o.base+pg+(n:Int),wj ⟨pg,P,dt,wb,qZ0⟩ n,kO (o.base+pg+(n:Int)) ps⟩):=rfl;obtain⟨F,hF⟩:=ex (kO (o.base+pg+(n:Int)) ps);obtain⟨D,hD⟩:=ex (wj ⟨pg,P,dt,wb,qZ0⟩ n);rw[<- hF] at HFX HSP;rw[<- hD] at HG2 HSP;have hl3:hs2.length<=100000:=by omega
           have hrow:=HR3.o.row.lt;have Xa:=aA hrow;clear hF hD Mg Qd hrow;obtain⟨i0,hin,hz0,hz1,hz2⟩:=jy Ux;go_wp2_with (first
            | (go_at_call 113;refine(HG2.o _).mono ?_;rintro e w2 ⟨rfl,hb⟩;have HW2:=aA hb;clear hb)
            | (go_at_call 114;refine(HFX.o _ HW2.o).mono ?_;rintro e w3 ⟨⟨v8,rfl,hrw⟩,hb⟩;obtain⟨af,cf,hvf,hfn⟩:=adX hrw u4.ownBlock (fun q hq=>by have:=(Xa.o q hq).2;have:=HW2.o.size;omega);subst hvf;have RO:=aA hfn;have HW3:=aA (HW2.o.trans (hb.mono HW2.o.size));have Cw:=aA (HW3.o.alloc HW3.o.size (.cells #[I (o.base+pg+(n:Int)),.string D,.slice af F.length cf] 145));have HR4:=aA (HR3.o.below Cw.o);have aq6:=aA (RO.o.below ((aK w3.heap.size w3).alloc (aD _) (.cells #[I (o.base+pg+(n:Int)),.string D,.slice af F.length cf] 145)));have HN3:=aA (bB w3 #[I (o.base+pg+(n:Int)),.string D,.slice af F.length cf] 145);have ajw:w.heap.size<=w3.heap.size:=gu ahM HW3.o.size;clear hb hrw hfn)
            | (at_builtin;refine Pr _ rfl _ _ 23 rfl w.heap.size 145 i0 (.agg #[I 0,.string ⟨#[]⟩,Nl]) 3 48 Tryz.underlying23 hin hz0 hz1 hz2 rfl (by decide) _ _ _ rfl HR4.o.row (Ad w3.heap.size 0) 1 1 [I (o.base+pg+(n:Int)),.string D,.slice af F.length cf] rfl rfl (GR HN3.o) (by intro u hu;simp at hu;rcases hu with rfl | rfl | rfl <;> rfl) (by decide) (by unfold maxLen;omega) (by omega) (by simp;omega) (w3.heap.size+1) (by simp) ?_;intro gg amL w4 aiX hgrow ahP auU;have agA:=aA aiX;have MV:=aA hgrow;have HAT:=aA ahP;clear aiX hgrow ahP))
           have ams:u4.ownBlock=some gg∨gg=(w3.alloc (.cells #[I (o.base+pg+(n:Int)),.string D,.slice af F.length cf] 145)).heap.size:=by rw[gh];exact HAT.o
           have HF4:=aA ((uv.bZ Cw.o u4.ownBlock).trans (uv.ahv MV.o MV.o.size ams));go_roundw
           case rel=>exact⟨n+1,hs2++[⟨o.base+pg+(n:Int),D,F,af,cf⟩],by omega,by go_num,by rw[HNP.o,HSP.o,AO,Ym.o,vR];rfl,by rw[fM];simp;omega,(A6.more (x:=⟨o.base+pg+(n:Int),D,F,af,cf⟩) HR4.o.fix aq6.o agA.o MV.o MV.o.size ams),((HBi.o.trans (Cw.o.mono HBi.o.size)).grown MV.o (by simp;omega) (fun q hq=>by have:=(Xa.o q hq).1;omega)),HFi.o.trans HF4.o,HFs.o.trans HF4.o⟩
           case measure=>simp[intOf];omega
         · obtain rfl:n=P:=by omega
           clear Mg Qd;go_wp2;go_roundw
           case rel=>exact⟨k+1,hs2,by omega,by go_num,by rw[wW.o,Ym.o,vR],by omega,HR3.o,HBi.o,HFi.o⟩
           case measure=>simp[intOf];omega
      · obtain rfl:k=o.i.jK.length:=by omega
        clear hmE hrs hb Mg;go_wp2;go_roundw
        case rel=>exact⟨a+1,_,hs',by omega,by go_num,aqN.o,Gx.o,by omega,Fb.o,HBm.o⟩
        case measure=>simp[intOf];omega
  · obtain rfl:a=l.length:=by omega
    have HX:Hid (R=some E):=by rw[HR.o];omega
    obtain⟨ah,ch,hv,hh,hc⟩:=ZV.o.has;subst hv;have HHH:=aA hh;clear hE hmE hrs hb hh;go_wp2
    go_ret2
    show Kp R w _ _;rw[HX.o];exact⟨AH.o,hs,ah,ch,HME.o,rfl,HHH.o,hc⟩
end Go.Proofs.YtlgoihmkgaaemaaGreat
