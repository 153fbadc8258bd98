import Derived.Test.YtlgoihmkgaaemaaGreatGM36
set_option maxHeartbeats 20000000
set_option linter.unusedVariables false
set_option maxRecDepth 100000
set_option linter.unusedSimpArgs false
namespace Go.Proofs.YtlgoihmkgaaemaaGreat
open Go.RowKit
open Go.RowKit
open Go.RowKit
section
variable {σ:Type} {Hd:World->(Nat->Prop)->σ->Prop} {Ok:σ->List Bool->Prop} {o:gN σ} {lo mb gb:Nat} {w w':World} {D:Nat->Prop} {vr vo:Value} {st:dA σ}
end
open Go.RowKit
open Go.RowKit
open Go.RowKit
open Go.RowKit
open Go.RowKit
open Go.RowKit
open Go.RowKit
open Go.RowKit
open Go.RowKit
open Go.RowKit
open Go.RowKit
open Go.RowKit
open Go.RowKit
open Go.RowKit
variable {σ:Type} {Hd:World->(Nat->Prop)->σ->Prop} {Ok:σ->List Bool->Prop} {o:gN σ} {lo mb gb:Nat} {D:Nat->Prop} {vr vo:Value} {st:dA σ}
open Go.RowKit
section
variable {σ:Type} {Hd:World->(Nat->Prop)->σ->Prop} {Ok:σ->List Bool->Prop} {o:gN σ} {lo mb gb:Nat} {w w':World} {D:Nat->Prop} {vo:Value} {st:dA σ}
end
open Go.RowKit
variable {σ:Type} {Hd:World->(Nat->Prop)->σ->Prop} {Ok:σ->List Bool->Prop} {o:gN σ} {lo mb gb:Nat} {D:Nat->Prop} {vr vo:Value} {st:dA σ}
open Go.RowKit
variable {σ:Type} {Hd:World->(Nat->Prop)->σ->Prop} {Ok:σ->List Bool->Prop} {o:gN σ} {lo mb gb:Nat} {D:Nat->Prop} {vr vo:Value} {st:dA σ}
open Go.RowKit
variable {σ:Type} {Hd:World->(Nat->Prop)->σ->Prop} {Ok:σ->List Bool->Prop} {o:gN σ} {lo mb gb:Nat} {D:Nat->Prop} {vr vo:Value} {st:dA σ}
open Go.RowKit
variable {σ:Type} {Hd:World->(Nat->Prop)->σ->Prop} {Ok:σ->List Bool->Prop} {o:gN σ} {lo mb gb:Nat} {D:Nat->Prop} {vr vo:Value} {st:dA σ}
open Go.RowKit
variable {σ:Type} {Hd:World->(Nat->Prop)->σ->Prop} {Ok:σ->List Bool->Prop} {o:gN σ} {lo mb gb:Nat} {D:Nat->Prop} {vr vo:Value} {st:dA σ}
open Go.RowKit
variable {σ:Type} {Hd:World->(Nat->Prop)->σ->Prop} {Ok:σ->List Bool->Prop} {o:gN σ} {lo mb gb:Nat} {D:Nat->Prop} {vr vo:Value} {st:dA σ}
open Go.RowKit
variable {σ:Type} {Hd:World->(Nat->Prop)->σ->Prop} {Ok:σ->List Bool->Prop} {o:gN σ} {lo mb gb:Nat} {D:Nat->Prop} {vr vo:Value} {st:dA σ}
open Go.RowKit
section
variable {σ:Type} {Hd:World->(Nat->Prop)->σ->Prop} {Ok:σ->List Bool->Prop} {o:gN σ} {lo mb gb:Nat} {w w':World} {D:Nat->Prop} {vo:Value} {st:dA σ}
end
variable {σ:Type} {Hd:World->(Nat->Prop)->σ->Prop} {Ok:σ->List Bool->Prop} {o:gN σ} {lo mb gb:Nat} {D:Nat->Prop} {vr vo:Value} {st:dA σ}
open Go.RowKit
open Go.RowKit
open Go.RowKit
open Go.RowKit
def Gp:dR:=⟨0,0,0,0,0⟩
def zY:List dR:=[⟨16,0,0,0,5⟩,⟨11,1,0,0,40⟩,⟨10,0,1,8,0⟩,⟨9,0,1,1,0⟩,⟨16,0,0,0,1⟩,⟨16,0,0,0,6⟩]
def vY:Nat->ByteArray
 | 0=>⟨#[]⟩
 | k+1=>vY k++(zY.getD k Gp).bytes
theorem IE:∀k,(vY k).size=k*8
 | 0=>rfl
 | k+1=>by
  show(vY k++(zY.getD k Gp).bytes).size=_;rw[UB,IE k,Ho];omega
def agd:ByteArray:=⟨#[16,0,0,0,5,0,0,0,11,1,0,0,40,0,0,0]⟩
def agc:ByteArray:=⟨#[10,0,1,8,0,0,0,0,9,0,1,1,0,0,0,0]⟩
def agb:ByteArray:=⟨#[16,0,0,0,1,0,0,0,16,0,0,0,6,0,0,0]⟩
def aga:ByteArray:=⟨#[0,0,0,0,0,0,0,0,0,0,0,0,0,0,0,0]⟩
def He:ByteArray:=⟨#[16,0,0,0,5,0,0,0,11,1,0,0,40,0,0,0,10,0,1,8,0,0,0,0,9,0,1,1,0,0,0,0,16,0,0,0,1,0,0,0,16,0,0,0,6,0,0,0]⟩
theorem WT:vY 6=He:=by kernel_rfl
def kF:wD:=⟨⟨#[116]⟩,[],[⟨0,4,He,true,true⟩],[],[],0⟩
theorem Rf:JW kF:=by
 refine⟨by unfold cu kF;decide,by unfold cu kF;decide,fun k hk=>absurd hk (by unfold kF;simp),by unfold cu kF;decide,fun k hk=>?_,by unfold cu kF;decide,fun k hk=>absurd hk (by unfold kF;simp),by unfold cu kF;decide,fun k hk=>absurd hk (by unfold kF;simp),by unfold cK kF;decide⟩;have:k=0:=by unfold kF at hk;simp at hk;omega
 subst this;exact⟨by unfold cK kF eD;decide,by unfold cK kF eD;decide,by unfold cu;show(48:Nat)<=_;decide⟩
theorem abZ (a:JY):lU [⟨kF,a⟩]=0:=by kernel_rfl
theorem Re (a:JY):Mb [⟨kF,a⟩] [(⟨kF,a⟩:iL)].length 0 [0]=some [0]:=by kernel_rfl
theorem abY (a:JY):eN [⟨kF,a⟩] 1 [0]=[⟨kF,a,1⟩]:=by kernel_rfl
def Pq:List Fb:=[⟨1,agd,[]⟩,⟨2,agc,[]⟩,⟨3,agb,[]⟩,⟨4,aga,[]⟩]
theorem Tt (a:JY):sA [⟨kF,a,1⟩]=some Pq:=by kernel_rfl
def vZ:List aX:=[⟨1,4,3,false⟩]
theorem WW (a:JY):rB [⟨kF,a,1⟩]=vZ:=by kernel_rfl
theorem WV (a:JY):xU (dJ [⟨kF,a,1⟩] 0) (cB [⟨kF,a⟩] 0).i.entry=16:=by kernel_rfl
def pC (a1 a2 a3 a4:Option Addr) (c1 c2 c3 c4:Nat):List bG:=[⟨1,agd,[],a1,c1⟩,⟨2,agc,[],a2,c2⟩,⟨3,agb,[],a3,c3⟩,⟨4,aga,[],a4,c4⟩]
theorem ad9 {hs:List bG} (h:hs.map fP=Pq):∃a1 a2 a3 a4 c1 c2 c3 c4,hs=pC a1 a2 a3 a4 c1 c2 c3 c4:=by
 match hs,h with
 | [⟨g1,d1,f1,a1,c1⟩,⟨g2,d2,f2,a2,c2⟩,⟨g3,d3,f3,a3,c3⟩,⟨g4,d4,f4,a4,c4⟩],h =>
  simp only[yK,List.map_nil,fP,Pq,Ap,Fb.mk.injEq,C0] at h;obtain⟨⟨rfl,rfl,rfl⟩,⟨rfl,rfl,rfl⟩,⟨rfl,rfl,rfl⟩,rfl,rfl,rfl⟩:=h;exact⟨a1,a2,a3,a4,c1,c2,c3,c4,rfl⟩
 | [],h=>cases dY List.length h
 | [_],h=>cases dY List.length h
 | [_,_],h=>cases dY List.length h
 | [_,_,_],h=>cases dY List.length h
 | _::_::_::_::_::_,h =>
  have:=dY List.length h;simp[Pq] at this
theorem ZU:dH vZ:=lC _ (by kernel_rfl)
theorem ZT (a1 a2 a3 a4:Option Addr) (c1 c2 c3 c4:Nat):qZ (pC a1 a2 a3 a4 c1 c2 c3 c4):=by
 have one:∀(g:Int) (d:ByteArray) (a:Option Addr) (c:Nat),cK g->d.size<=140737488351232->Dw ⟨g,d,[],a,c⟩:=fun g d a c h1 h2=>⟨h1,h2,by unfold cu;show 0<=_;exact rN _,fun k hk=>absurd hk (kr _)⟩
 refine⟨by unfold cu pC;show(4:Nat)<=_;decide,fun k hk=>?_⟩
 match k,hk with
 | 0,_=>exact one 1 agd a1 c1 (by unfold cK;decide) (by show(16:Nat)<=_;decide)
 | 1,_=>exact one 2 agc a2 c2 (by unfold cK;decide) (by show(16:Nat)<=_;decide)
 | 2,_=>exact one 3 agb a3 c3 (by unfold cK;decide) (by show(16:Nat)<=_;decide)
 | 3,_=>exact one 4 aga a4 c4 (by unfold cK;decide) (by show(16:Nat)<=_;decide)
 | k+4,h=>exact absurd h (by unfold pC;simp)
open Go.RowKit
theorem UN (i:dR) (w:World):Calls Tryz.prog 84 #[.agg i.cells] w fun e w'=>e=.returned (.string i.bytes)/\Below w.heap.size w w':=by
 obtain⟨o,a,b,c,m⟩:=i;unfold dR.cells dR.bytes;simp only;have gG:=br ((aJ w.heap.size w).alloc (aH _) (.cells #[I o,I a,I b,I c,I m] 108));have BX:=br (bD w #[I o,I a,I b,I c,I m] 108);obtain⟨W,hW⟩:=ex (w.alloc (.cells #[I o,I a,I b,I c,I m] 108));have HW:=br hW;rw[<- hW] at gG BX;have Cv:=jh W;have hwl:=aI BX.o;have k0:∀x:dM W.heap.size W,x.world.cell? (Ad w.heap.size 0)=some (I o):=fun x=>by grind [fH,aq,Hid.o]
 have k1:∀x:dM W.heap.size W,x.world.cell? (Ad w.heap.size 1)=some (I a):=fun x=>by grind [fH,aq,Hid.o]
 have k2:∀x:dM W.heap.size W,x.world.cell? (Ad w.heap.size 2)=some (I b):=fun x=>by grind [fH,aq,Hid.o]
 have k3:∀x:dM W.heap.size W,x.world.cell? (Ad w.heap.size 3)=some (I c):=fun x=>by grind [fH,aq,Hid.o]
 have k4:∀x:dM W.heap.size W,x.world.cell? (Ad w.heap.size 4)=some (I m):=fun x=>by grind [fH,aq,Hid.o]
 have HA:Hid (∀n V,Calls Tryz.prog 58 #[I n,I 1] V fun e w'=>e=.returned (.string (wI 1 n))/\Below V.heap.size V w'):=fun n U=>LH n 1 U (by omega)
 have HM:Hid (∀V,Calls Tryz.prog 58 #[I m,I 4] V fun e w'=>e=.returned (.string (wI 4 m))/\Below V.heap.size V w'):=fun U=>LH m 4 U (by omega)
 have s1:=zz 1 o;have s2:=zz 1 a;have s3:=zz 1 b;have s4:=zz 1 c;have s5:=zz 4 m;have t1:(wI 1 o++wI 1 a).size=2:=by rfl
 have t2:(wI 1 o++wI 1 a++wI 1 b).size=3:=by rfl
 have t3:(wI 1 o++wI 1 a++wI 1 b++wI 1 c).size=4:=by rfl
 clear hW;go_enter Tryz.func84,Tryz.ntmps84;go_wp2;rw[<- HW.o];refine di (by rfl) (by kernel_rfl) ?_
 repeat (first | go_big_quiet_step ((go_at_call 58;first | with_reducible exact fO (HA.o _) _ | with_reducible exact fO HM.o _)) | quiet_step ((go_at_call 58;first | with_reducible exact fO (HA.o _) _ | with_reducible exact fO HM.o _)))
 refine jd ?_;intro _ hw';obtain⟨x,hw''⟩:=hw';subst hw'';go_wp2;go_ret;exact⟨rfl,gG.o.trans (x.keeps.mono gG.o.size)⟩
open Go.RowKit
theorem ag4 (nm:ByteArray) (an ag ay ar:Option Addr) (cn gl cg cy cr:Nat) (en:Int) (w:World):Calls Tryz.prog 164 #[.agg #[.string nm,.slice an 0 cn,.slice ag gl cg,.slice ay 0 cy,.slice ar 0 cr,I en]] w fun e w'=>e=.returned (.bool true)/\Below w.heap.size w w':=by
 have HB:=aA ((aJ w.heap.size w).alloc (aH _) (.cells #[.string nm,.slice an 0 cn,.slice ag gl cg,.slice ay 0 cy,.slice ar 0 cr,I en] 56));go_enter Tryz.func164,Tryz.ntmps164;go_wp2;go_loopw [10] (fun iv wr=>iv=I 0/\Below w.heap.size w wr) (fun _ _=>0)
 case atStart=>grind [Hid.o]
 case round =>
  obtain⟨rfl,hb⟩:=hrel;have gP:=aA hb;clear hb;go_wp2;go_ret;exact⟨rfl,gP.o⟩
theorem ag5 (nm:ByteArray) (an ag ay ar:Option Addr) (cn gl cg cy cr:Nat) (en:Int) (w:World):Calls Tryz.prog 165 #[.agg #[.string nm,.slice an 0 cn,.slice ag gl cg,.slice ay 0 cy,.slice ar 0 cr,I en]] w fun e w'=>e=.returned (.bool true)/\Below w.heap.size w w':=by
 have HB:=aA ((aJ w.heap.size w).alloc (aH _) (.cells #[.string nm,.slice an 0 cn,.slice ag gl cg,.slice ay 0 cy,.slice ar 0 cr,I en] 56));go_enter Tryz.func165,Tryz.ntmps165;go_wp2;go_loopw [11] (fun iv wr=>iv=I 0/\Below w.heap.size w wr) (fun _ _=>0)
 case atStart=>grind [Hid.o]
 case round =>
  obtain⟨rfl,hb⟩:=hrel;have gP:=aA hb;clear hb;go_wp2;go_ret;exact⟨rfl,gP.o⟩
theorem XM (ay:Option Addr) (cy:Nat) (w:World):Calls Tryz.prog 163 #[.slice ay 0 cy] w fun e w'=>e=.returned Nl/\Below w.heap.size w w':=by
 go_enter Tryz.func163,Tryz.ntmps163;go_wp2;go_loopw [3,8] (fun sv iv wr=>sv=Nl/\iv=I 0/\Below w.heap.size w wr) (fun _ _ _=>0)
 case atStart=>grind [Below.refl]
 case round =>
  obtain⟨rfl,rfl,hb⟩:=hrel;have gP:=aA hb;clear hb;go_wp2;go_ret;exact⟨rfl,gP.o⟩
theorem ae1 (nm:ByteArray) (an ag ay ar:Option Addr) (cn gl cg cy cr:Nat) (en:Int) (w:World) (hn:∀V,Calls Tryz.prog 200 #[.string nm] V fun e w'=>e=.returned (.bool true)/\Below V.heap.size V w'):Calls Tryz.prog 158 #[.agg #[.string nm,.slice an 0 cn,.slice ag gl cg,.slice ay 0 cy,.slice ar 0 cr,I en]] w fun e w'=>e=.returned (.bool true)/\Below w.heap.size w w':=by
 have HN:=aA hn;clear hn;have HB:=aA ((aJ w.heap.size w).alloc (aH _) (.cells #[.string nm,.slice an 0 cn,.slice ag gl cg,.slice ay 0 cy,.slice ar 0 cr,I en] 56));have X0:=aA (bD w #[.string nm,.slice an 0 cn,.slice ag gl cg,.slice ay 0 cy,.slice ar 0 cr,I en] 56);go_enter Tryz.func158,Tryz.ntmps158;go_wp2_with (go_at_call 200;refine(HN.o _).mono ?_;rintro e w1 ⟨rfl,hb1⟩;have cM:=aA (HB.o.trans (hb1.mono HB.o.size));have X1:=aA (aN X0.o hb1 (aI X0.o));have x1:w1.cell? (Ad w.heap.size 1)=some (.slice an 0 cn):=aq X1.o 1 rfl;clear hb1)
 go_loopw [16] (fun iv wr=>iv=I 0/\wr.heap[w.heap.size]?=some (.cells #[.string nm,.slice an 0 cn,.slice ag gl cg,.slice ay 0 cy,.slice ar 0 cr,I en] 56 (0,0))/\Below w.heap.size w wr) (fun _ _=>0)
 case atStart=>grind [Hid.o]
 case round =>
  obtain⟨rfl,hx,hb⟩:=hrel;have HX:=aA hx;have gP:=aA hb;have y3:wr.cell? (Ad w.heap.size 3)=some (.slice ay 0 cy):=aq hx 3 rfl;clear hb hx cM X1 x1;go_wp2;clear y3;go_loopw [27] (fun iv wi=>iv=I 0/\wi.heap[w.heap.size]?=some (.cells #[.string nm,.slice an 0 cn,.slice ag gl cg,.slice ay 0 cy,.slice ar 0 cr,I en] 56 (0,0))/\Below w.heap.size w wi) (fun _ _=>0)
  case atStart=>exact⟨rfl,HX.o,gP.o⟩
  case round =>
   clear HX gP;obtain⟨rfl,hx,hb⟩:=hrel;have m7:=aA hb;have y4:wr.cell? (Ad w.heap.size 4)=some (.slice ar 0 cr):=aq hx 4 rfl;clear hb hx;go_wp2;clear y4;go_loopw [39] (fun iv wi=>iv=I 0/\Below w.heap.size w wi) (fun _ _=>0)
   case atStart=>exact⟨rfl,m7.o⟩
   case round =>
    obtain⟨rfl,hb⟩:=hrel;have sX:=aA hb;clear hb;go_wp2;go_ret;exact⟨rfl,sX.o⟩
theorem ae2 (nm:ByteArray) (gs:List pE) (en:Int) (an ag ay ar:Option Addr) (cn cg cy cr:Nat) (w:World) (h:pT w ⟨an,cn,ag,cg,ay,cy,ar,cr⟩ ⟨nm,[],gs,[],[],en⟩) (hf:JW ⟨nm,[],gs,[],[],en⟩) (h1:uC nm=true) (h2:CA ⟨nm,[],gs,[],[],en⟩=true) (h3:gs.all kZ=true) (h4:CB gs=true) (h5:Cz ⟨nm,[],gs,[],[],en⟩=true) :
  Calls Tryz.prog 109 #[.agg #[.string nm,.slice an 0 cn,.slice ag gs.length cg,.slice ay 0 cy,.slice ar 0 cr,I en]] w fun e w'=>e=.returned (I 0)/\Below w.heap.size w w':=by
 have Ed:Hid (∀V,Calls Tryz.prog 200 #[.string nm] V fun e w'=>e=.returned (.bool true)/\Below V.heap.size V w'):=fun V=>(UM nm V hf.name).mono fun e w' ⟨e1,e2⟩=>⟨by grind,by grind [Below.refl]⟩
 have HNM:=aA (fun V=>ae1 nm an ag ay ar cn gs.length cg cy cr en V Ed.o);have HCN:Hid (∀V,Calls Tryz.prog 159 #[.agg #[.string nm,.slice an 0 cn,.slice ag gs.length cg,.slice ay 0 cy,.slice ar 0 cr,I en]] V fun e w'=>e=.returned (.bool true)/\Below V.heap.size V w'):=fun V=>(JO ⟨nm,[],gs,[],[],en⟩ ⟨an,cn,ag,cg,ay,cy,ar,cr⟩ V hf).mono fun e w' ⟨e1,e2⟩=>⟨by grind,e2⟩
 have HRG:Hid (∀V,Below w.heap.size w V->Calls Tryz.prog 160 #[.slice ag gs.length cg] V fun e w'=>e=.returned (.bool true)/\Below V.heap.size V w'):=fun V hV=>(JN gs ag cg V (h.below hV).jD hf.jD hf.seg).mono fun e w' ⟨e1,e2⟩=>⟨by grind,e2⟩
 have HOV:Hid (∀V,Below w.heap.size w V->Calls Tryz.prog 161 #[.slice ag gs.length cg] V fun e w'=>e=.returned (.bool false)/\Below V.heap.size V w'):=fun V hV=>(RU gs ag cg V (h.below hV).jD hf.jD h3).mono fun e w' ⟨e1,e2⟩=>⟨by grind,e2⟩
 have HTW:Hid (∀ao c V,Calls Tryz.prog 162 #[.slice ao 0 c] V fun e w'=>e=.returned (.bool false)/\Below V.heap.size V w'):=fun ao c V=>(XL [] ao c V (fun h=>absurd h (kr _)) (rN _) (fun k hk=>absurd hk (kr _))).mono fun e w' ⟨e1,e2⟩=>⟨by rw[e1];rfl,e2⟩
 have HSN:=aA (fun V=>XM ay cy V);have Ze:=aA (fun V=>ag4 nm an ag ay ar cn gs.length cg cy cr en V);have HRL:=aA (fun V=>ag5 nm an ag ay ar cn gs.length cg cy cr en V);have Aj:Hid (∀V,Below w.heap.size w V->Calls Tryz.prog 166 #[.agg #[.string nm,.slice an 0 cn,.slice ag gs.length cg,.slice ay 0 cy,.slice ar 0 cr,I en]] V fun e w'=>e=.returned (.bool true)/\Below V.heap.size V w'):=fun V hV=>(JS ⟨nm,[],gs,[],[],en⟩ ⟨an,cn,ag,cg,ay,cy,ar,cr⟩ V (h.below hV) hf h3).mono fun e w' ⟨e1,e2⟩=>⟨by grind,e2⟩
 obtain⟨gl,hgl⟩:=ex gs.length;rw[<- hgl] at HNM HCN HRG HOV Ze HRL Aj ⊢;clear h hf h1 h2 h3 h4 h5 hgl Ed;have HB:=aA ((aJ w.heap.size w).alloc (aH _) (.cells #[.string nm,.slice an 0 cn,.slice ag gl cg,.slice ay 0 cy,.slice ar 0 cr,I en] 56));have X:=aA (bD w #[.string nm,.slice an 0 cn,.slice ag gl cg,.slice ay 0 cy,.slice ar 0 cr,I en] 56);go_enter Tryz.func109,Tryz.ntmps109;go_wp2_with (first
  | (go_at_call 158;refine(HNM.o _).mono ?_;rintro e w1 ⟨rfl,hb⟩;have cM:=aA (HB.o.trans (hb.mono HB.o.size));have X1:=aA (aN X.o hb (aI X.o));clear hb;have k10:w1.cell? (Ad w.heap.size 0)=some (.string nm):=aq X1.o 0 rfl;have k11:w1.cell? (Ad w.heap.size 1)=some (.slice an 0 cn):=aq X1.o 1 rfl;have k12:w1.cell? (Ad w.heap.size 2)=some (.slice ag gl cg):=aq X1.o 2 rfl;have k13:w1.cell? (Ad w.heap.size 3)=some (.slice ay 0 cy):=aq X1.o 3 rfl;have k14:w1.cell? (Ad w.heap.size 4)=some (.slice ar 0 cr):=aq X1.o 4 rfl;have k15:w1.cell? (Ad w.heap.size 5)=some (I en):=aq X1.o 5 rfl)
  | (go_at_call 159;refine(HCN.o _).mono ?_;rintro e w2 ⟨rfl,hb⟩;have gP:=aA (cM.o.trans (hb.mono cM.o.size));have X2:=aA (aN X1.o hb (aI X1.o));clear hb;have k22:w2.cell? (Ad w.heap.size 2)=some (.slice ag gl cg):=aq X2.o 2 rfl)
  | (go_at_call 160;refine(HRG.o _ gP.o).mono ?_;rintro e w3 ⟨rfl,hb⟩;have m7:=aA (gP.o.trans (hb.mono gP.o.size));have X3:=aA (aN X2.o hb (aI X2.o));clear hb;have k32:w3.cell? (Ad w.heap.size 2)=some (.slice ag gl cg):=aq X3.o 2 rfl)
  | (go_at_call 161;refine(HOV.o _ m7.o).mono ?_;rintro e w4 ⟨rfl,hb⟩;have sX:=aA (m7.o.trans (hb.mono m7.o.size));have X4:=aA (aN X3.o hb (aI X3.o));clear hb;have k41:w4.cell? (Ad w.heap.size 1)=some (.slice an 0 cn):=aq X4.o 1 rfl)
  | (go_at_call 162;refine(HTW.o _ _ _).mono ?_;rintro e w7 ⟨rfl,hb⟩;have HB7:=aA (HB6.o.trans (hb.mono HB6.o.size));have X7:=aA (aN X6.o hb (aI X6.o));clear hb;have k70:w7.cell? (Ad w.heap.size 0)=some (.string nm):=aq X7.o 0 rfl;have k71:w7.cell? (Ad w.heap.size 1)=some (.slice an 0 cn):=aq X7.o 1 rfl;have k72:w7.cell? (Ad w.heap.size 2)=some (.slice ag gl cg):=aq X7.o 2 rfl;have k73:w7.cell? (Ad w.heap.size 3)=some (.slice ay 0 cy):=aq X7.o 3 rfl;have k74:w7.cell? (Ad w.heap.size 4)=some (.slice ar 0 cr):=aq X7.o 4 rfl;have k75:w7.cell? (Ad w.heap.size 5)=some (I en):=aq X7.o 5 rfl)
  | (go_at_call 162;refine(HTW.o _ _ _).mono ?_;rintro e w5 ⟨rfl,hb⟩;have Xq:=aA (sX.o.trans (hb.mono sX.o.size));have X5:=aA (aN X4.o hb (aI X4.o));clear hb;have k53:w5.cell? (Ad w.heap.size 3)=some (.slice ay 0 cy):=aq X5.o 3 rfl)
  | (go_at_call 163;refine(HSN.o _).mono ?_;rintro e w6 ⟨rfl,hb⟩;have HB6:=aA (Xq.o.trans (hb.mono Xq.o.size));have X6:=aA (aN X5.o hb (aI X5.o));clear hb)
  | (go_at_call 164;refine(Ze.o _).mono ?_;rintro e w8 ⟨rfl,hb⟩;have HB8:=aA (HB7.o.trans (hb.mono HB7.o.size));have X8:=aA (aN X7.o hb (aI X7.o));clear hb;have k80:w8.cell? (Ad w.heap.size 0)=some (.string nm):=aq X8.o 0 rfl;have k81:w8.cell? (Ad w.heap.size 1)=some (.slice an 0 cn):=aq X8.o 1 rfl;have k82:w8.cell? (Ad w.heap.size 2)=some (.slice ag gl cg):=aq X8.o 2 rfl;have k83:w8.cell? (Ad w.heap.size 3)=some (.slice ay 0 cy):=aq X8.o 3 rfl;have k84:w8.cell? (Ad w.heap.size 4)=some (.slice ar 0 cr):=aq X8.o 4 rfl;have k85:w8.cell? (Ad w.heap.size 5)=some (I en):=aq X8.o 5 rfl)
  | (go_at_call 165;refine(HRL.o _).mono ?_;rintro e w9 ⟨rfl,hb⟩;have HB9:=aA (HB8.o.trans (hb.mono HB8.o.size));have X9:=aA (aN X8.o hb (aI X8.o));clear hb;have k90:w9.cell? (Ad w.heap.size 0)=some (.string nm):=aq X9.o 0 rfl;have k91:w9.cell? (Ad w.heap.size 1)=some (.slice an 0 cn):=aq X9.o 1 rfl;have k92:w9.cell? (Ad w.heap.size 2)=some (.slice ag gl cg):=aq X9.o 2 rfl;have k93:w9.cell? (Ad w.heap.size 3)=some (.slice ay 0 cy):=aq X9.o 3 rfl;have k94:w9.cell? (Ad w.heap.size 4)=some (.slice ar 0 cr):=aq X9.o 4 rfl;have k95:w9.cell? (Ad w.heap.size 5)=some (I en):=aq X9.o 5 rfl)
  | (go_at_call 166;refine(Aj.o _ HB9.o).mono ?_;rintro e w10 ⟨rfl,hb⟩;have aqi:=aA (HB9.o.trans (hb.mono HB9.o.size));clear hb))
 go_ret;exact⟨rfl,aqi.o⟩
open Go.RowKit Go.WideMaps Go.Maps
theorem P4 (l:List iL) (ao:Option Addr) (cap:Nat) (w:World) (h:Dv w ao l) (hf:acD l) (Ju:∀k,k<l.length->∀V,Below w.heap.size w V->Calls Tryz.prog 109 #[.agg (jF (cB l k).a (cB l k).i)] V fun e w'=>e=.returned (I (mq (cB l k).i))/\Below V.heap.size V w'):Calls Tryz.prog 63 #[.slice ao l.length cap] w (aha l w):=by
 have HH:=aA h;have HF:=aA hf;have Ol:=aA Ju;have hn:l.length<=140737488351232:=hf.1;clear h hf Ju;have hmm:=@run_makeMap Tryz.prog;go_enter Tryz.func63,Tryz.ntmps63;go_wp2;go_loopw [12] (fun i wr=>∃k:Nat,k<=l.length/\i=I k/\ot l k=0/\Below w.heap.size w wr) (fun i _=>l.length-(intOf i).toNat)
 case atStart=>exact⟨0,by omega,rfl,rfl,aJ _ _⟩
 case round =>
  obtain⟨k,hk,rfl,hz,hb⟩:=hrel;have HZ:=aA hz;have Al:=aA hb;clear hz;by_cases hlt:k<l.length
  · obtain⟨b,off,hao,hbl,eX⟩:=(HH.o.below hb) (by omega);subst hao;obtain⟨⟨c0,c1,c2,c3,c4,c5⟩,hi⟩:=eX k hlt;have Pg:=HF.o.2 k hlt;have qu:=aA (Ol.o k hlt);have HE:Hid (ot l (k+1)=mq (cB l k).i):=by
     show _=_;simp only[ot];rw[aB HZ.o]
    have HBY:Hid (mq (cB l k).i≠0->ou l=mq (cB l k).i):=fun g=>by
     have e1:ot l (k+1)≠0:=by rw[HE.o];exact g
     have e2:=E8 l (k+1) e1 l.length (by omega);unfold ou;rw[e2,au e1,HE.o]
    obtain⟨x,hx⟩:=ex (cB l k);rw[<- hx] at c0 c1 c2 c3 c4 c5 hi Pg HE HBY qu;clear hx eX hb;obtain⟨⟨nm,ns,gs,ys,rs,en⟩,⟨an,cn,ag,cg,ay,cy,ar,cr⟩⟩:=x;simp only at c0 c1 c2 c3 c4 c5;have jQ:=aA (Al.o.alloc Al.o.size (.cells #[.string nm,.slice an ns.length cn,.slice ag gs.length cg,.slice ay ys.length cy,.slice ar rs.length cr,I en] 56));have HC:Hid (∀W,Below wr.heap.size wr W->Calls Tryz.prog 109 #[.agg #[.string nm,.slice an ns.length cn,.slice ag gs.length cg,.slice ay ys.length cy,.slice ar rs.length cr,I en]] W fun e w'=>e=.returned (I (mq ⟨nm,ns,gs,ys,rs,en⟩))/\Below W.heap.size W w'):=fun V hb=>qu.o V (Al.o.trans (hb.mono Al.o.size))
    clear hi Pg qu Ol;obtain⟨c,hc⟩:=ex (mq ⟨nm,ns,gs,ys,rs,en⟩);simp only at HE HBY;rw[<- hc] at HC HE HBY;clear hc;by_cases hcz:c=0
    · subst hcz;clear HBY;go_wp2_with (go_at_call 109;refine(HC.o _ ((aJ _ _).alloc (aH _) _)).mono ?_;rintro e w1 ⟨rfl,hb⟩;have jQ:=aA (jQ.o.trans (hb.mono jQ.o.size));clear hb)
      go_roundw
      case rel=>exact⟨k+1,by omega,by go_num,HE.o,jQ.o⟩
      case measure=>simp[intOf];omega
    · have HBE:=aA (HBY.o hcz);have auZ:(c==0)=false:=by grind
      clear HBY HE;go_wp2_with (go_at_call 109;refine(HC.o _ ((aJ _ _).alloc (aH _) _)).mono ?_;rintro e w1 ⟨rfl,hb⟩;have jQ:=aA (jQ.o.trans (hb.mono jQ.o.size));clear hb)
      go_ret2
      refine⟨jQ.o,?_⟩;rw[HBE.o,au hcz];rfl
  · obtain rfl:k=l.length:=by omega
    clear hb;obtain⟨m,hm⟩:=ex wr.heap.size;have hsm:w.heap.size<=m:=by rw[hm];exact Al.o.size
    have HM0:Hid ((wr.alloc (.map #[] 0)).ownsMap Tryz.prog 9 Ym m 0 (.map [])):=by
     rw[hm];exact World.ownsMap_made _ _ _ _
    have HM:=aA hm;clear hm;go_wp2;rw[<- HM.o];go_loopw [25] (fun i wi=>∃(k:Nat) (D:DataW Value),k<=l.length/\i=I k/\wi.ownsMap Tryz.prog 9 Ym m k D/\Kj l k D/\Below w.heap.size w wi) (fun i _=>l.length-(intOf i).toNat)
    case atStart=>exact⟨0,.map [],rN _,rfl,HM0.o,aaL l,Al.o.alloc Al.o.size _⟩
    case round =>
     obtain⟨k,D,hk,rfl,hown,hnm,hb⟩:=hrel;have HW:=aA hown;have HN:=aA hnm;have HBi:=aA hb;by_cases hlt:k<l.length
     · obtain⟨b,off,hao,hbl,eX⟩:=(HH.o.below hb) (by omega);subst hao;obtain⟨⟨c0,c1,c2,c3,c4,c5⟩,hi⟩:=eX k hlt;have Pg:=(HF.o.2 k hlt).name;have HNS:=aA (aaM hlt hown.isMap (hown.tidy PL) hnm);obtain⟨x,hx⟩:=ex (cB l k);rw[<- hx] at c0 c1 c2 c3 c4 c5 Pg HNS;clear hx eX hb hi hown hnm;obtain⟨⟨nm,ns,gs,ys,rs,en⟩,⟨an,cn,ag,cg,ay,cy,ar,cr⟩⟩:=x;simp only at c0 c1 c2 c3 c4 c5 Pg;have hkey:=TM Pg;have rz:k<maxLen:=by unfold maxLen;omega
       have jQ:=aA (HBi.o.alloc HBi.o.size (.cells #[.string nm,.slice an ns.length cn,.slice ag gs.length cg,.slice ay ys.length cy,.slice ar rs.length cr,I en] 56));have se:=aA (HW.o.alloc (.cells #[.string nm,.slice an ns.length cn,.slice ag gs.length cg,.slice ay ys.length cy,.slice ar rs.length cr,I en] 56));go_wp2_with (first | (at_mapUpdate;refine Uy _ rfl _ _ _ 124 rfl 9 56 PL Tryz.underlying124 Ym m k D rfl se.o rz _ _ _ rfl rfl hkey _ [] rfl ?_;intro w1 hown1 hgrow1;have HW1:=aA hown1;have cM:=aA (jQ.o.grown hgrow1 jQ.o.size (fun j hj=>by cases hj;exact hsm));clear hown1 hgrow1) | go_in)
       go_roundw
       case rel=>exact⟨k+1,_,by omega,by go_num,HW1.o,HNS.o,cM.o⟩
       case measure=>simp[intOf];omega
     · obtain rfl:k=l.length:=by omega
       have hlen:=hown.len Tryz.underlying124 3;have HE0:=aA HZ.o;by_cases ho:oq (jU l) l.length=true
       · have hsz:=hnm.all.2 ho;have HBE:Hid (ou l=0):=by
          show _=_;unfold ou xx;rw[aB HE0.o,tD,ho];rfl
         rw[hsz] at hlen;clear hown hnm hb hsz ho;go_wp2
         go_ret2
         refine⟨HBi.o,?_⟩;rw[HBE.o,aB rfl];exact⟨_,D,rfl,HW.o,HN.o⟩
       · have hsz:Maps.size D<l.length:=by
          have h1:=hnm.le;have h2:=hnm.all;rcases Nat.lt_or_ge (Maps.size D) l.length with g | g
          · exact g
          · exact(ho (h2.1 (by omega))).elim
         have HBE:Hid (ou l=5):=by
          show _=_;unfold ou xx;rw[aB HE0.o,tD,au ho]
         obtain⟨z,hz⟩:=ex (Maps.size D);rw[<- hz] at hlen hsz;have hsz':(z:Int)<(l.length:Int):=by omega
         clear hown hnm hb ho hz;go_wp2
         go_ret2
         refine⟨HBi.o,?_⟩;rw[HBE.o,au (by decide)];rfl
end Go.Proofs.YtlgoihmkgaaemaaGreat
