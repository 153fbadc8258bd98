import Derived.Test.YtlgoihmkgaaemaaGreatGN37
set_option maxHeartbeats 20000000
set_option linter.unusedVariables false
set_option maxRecDepth 100000
set_option linter.unusedSimpArgs false
namespace Go.Proofs.YtlgoihmkgaaemaaGreat
open Go.RowKit
open Go.RowKit
open Go.RowKit
open Go.RowKit
open Go.RowKit
section
variable {σ:Type} {Hd:World->(Nat->Prop)->σ->Prop} {Ok:σ->List Bool->Prop} {o:gH σ} {lo mb gb:Nat} {w w':World} {D:Nat->Prop} {vr vo:Value} {st:dE σ}
end
open Go.RowKit
open Go.RowKit
open Go.RowKit
open Go.RowKit
open Go.RowKit
open Go.RowKit
open Go.RowKit
open Go.RowKit
open Go.RowKit
open Go.RowKit
open Go.RowKit
open Go.RowKit
open Go.RowKit
open Go.RowKit
variable {σ:Type} {Hd:World->(Nat->Prop)->σ->Prop} {Ok:σ->List Bool->Prop} {o:gH σ} {lo mb gb:Nat} {D:Nat->Prop} {vr vo:Value} {st:dE σ}
open Go.RowKit
section
variable {σ:Type} {Hd:World->(Nat->Prop)->σ->Prop} {Ok:σ->List Bool->Prop} {o:gH σ} {lo mb gb:Nat} {w w':World} {D:Nat->Prop} {vo:Value} {st:dE σ}
end
open Go.RowKit
variable {σ:Type} {Hd:World->(Nat->Prop)->σ->Prop} {Ok:σ->List Bool->Prop} {o:gH σ} {lo mb gb:Nat} {D:Nat->Prop} {vr vo:Value} {st:dE σ}
open Go.RowKit
variable {σ:Type} {Hd:World->(Nat->Prop)->σ->Prop} {Ok:σ->List Bool->Prop} {o:gH σ} {lo mb gb:Nat} {D:Nat->Prop} {vr vo:Value} {st:dE σ}
open Go.RowKit
variable {σ:Type} {Hd:World->(Nat->Prop)->σ->Prop} {Ok:σ->List Bool->Prop} {o:gH σ} {lo mb gb:Nat} {D:Nat->Prop} {vr vo:Value} {st:dE σ}
open Go.RowKit
variable {σ:Type} {Hd:World->(Nat->Prop)->σ->Prop} {Ok:σ->List Bool->Prop} {o:gH σ} {lo mb gb:Nat} {D:Nat->Prop} {vr vo:Value} {st:dE σ}
open Go.RowKit
variable {σ:Type} {Hd:World->(Nat->Prop)->σ->Prop} {Ok:σ->List Bool->Prop} {o:gH σ} {lo mb gb:Nat} {D:Nat->Prop} {vr vo:Value} {st:dE σ}
open Go.RowKit
variable {σ:Type} {Hd:World->(Nat->Prop)->σ->Prop} {Ok:σ->List Bool->Prop} {o:gH σ} {lo mb gb:Nat} {D:Nat->Prop} {vr vo:Value} {st:dE σ}
open Go.RowKit
variable {σ:Type} {Hd:World->(Nat->Prop)->σ->Prop} {Ok:σ->List Bool->Prop} {o:gH σ} {lo mb gb:Nat} {D:Nat->Prop} {vr vo:Value} {st:dE σ}
open Go.RowKit
section
variable {σ:Type} {Hd:World->(Nat->Prop)->σ->Prop} {Ok:σ->List Bool->Prop} {o:gH σ} {lo mb gb:Nat} {w w':World} {D:Nat->Prop} {vo:Value} {st:dE σ}
end
variable {σ:Type} {Hd:World->(Nat->Prop)->σ->Prop} {Ok:σ->List Bool->Prop} {o:gH σ} {lo mb gb:Nat} {D:Nat->Prop} {vr vo:Value} {st:dE σ}
open Go.RowKit
open Go.RowKit
open Go.RowKit
open Go.RowKit
def GC:ed:=⟨0,0,0,0,0⟩
def Am:List ed:=[⟨16,0,0,0,5⟩,⟨11,1,0,0,40⟩,⟨10,0,1,8,0⟩,⟨9,0,1,1,0⟩,⟨16,0,0,0,1⟩,⟨16,0,0,0,6⟩]
def wH:Nat->ByteArray
 | 0=>⟨#[]⟩
 | k+1=>wH k++(Am.getD k GC).bytes
theorem I3:∀k,(wH k).size=k*8
 | 0=>rfl
 | k+1=>by
  show(wH k++(Am.getD k GC).bytes).size=_;rw[U0,I3 k,Ia];omega
def agW:ByteArray:=⟨#[16,0,0,0,5,0,0,0,11,1,0,0,40,0,0,0]⟩
def agV:ByteArray:=⟨#[10,0,1,8,0,0,0,0,9,0,1,1,0,0,0,0]⟩
def agU:ByteArray:=⟨#[16,0,0,0,1,0,0,0,16,0,0,0,6,0,0,0]⟩
def agT:ByteArray:=⟨#[0,0,0,0,0,0,0,0,0,0,0,0,0,0,0,0]⟩
def Hq:ByteArray:=⟨#[16,0,0,0,5,0,0,0,11,1,0,0,40,0,0,0,10,0,1,8,0,0,0,0,9,0,1,1,0,0,0,0,16,0,0,0,1,0,0,0,16,0,0,0,6,0,0,0]⟩
theorem Xm:wH 6=Hq:=by kernel_rfl
def kJ:wR:=⟨⟨#[116]⟩,[],[⟨0,4,Hq,true,true⟩],[],[],0⟩
theorem Rx:J6 kJ:=by
 refine⟨by unfold cB kJ;decide,by unfold cB kJ;decide,fun k hk=>absurd hk (by unfold kJ;simp),by unfold cB kJ;decide,fun k hk=>?_,by unfold cB kJ;decide,fun k hk=>absurd hk (by unfold kJ;simp),by unfold cB kJ;decide,fun k hk=>absurd hk (by unfold kJ;simp),by unfold cO kJ;decide⟩;have:k=0:=by unfold kJ at hk;simp at hk;omega
 subst this;exact⟨by unfold cO kJ eO;decide,by unfold cO kJ eO;decide,by unfold cB;show(48:Nat)<=_;decide⟩
theorem acD (a:J7):lZ [⟨kJ,a⟩]=0:=by kernel_rfl
theorem Rw (a:J7):Mo [⟨kJ,a⟩] [(⟨kJ,a⟩:iV)].length 0 [0]=some [0]:=by kernel_rfl
theorem acC (a:J7):eX [⟨kJ,a⟩] 1 [0]=[⟨kJ,a,1⟩]:=by kernel_rfl
def PI:List Fs:=[⟨1,agW,[]⟩,⟨2,agV,[]⟩,⟨3,agU,[]⟩,⟨4,agT,[]⟩]
theorem TN (a:J7):sN [⟨kJ,a,1⟩]=some PI:=by kernel_rfl
def wI:List aX:=[⟨1,4,3,false⟩]
theorem Xp (a:J7):rP [⟨kJ,a,1⟩]=wI:=by kernel_rfl
theorem Xo (a:J7):yn (dR [⟨kJ,a,1⟩] 0) (cH [⟨kJ,a⟩] 0).i.entry=16:=by kernel_rfl
def pJ (a1 a2 a3 a4:Option Addr) (c1 c2 c3 c4:Nat):List bJ:=[⟨1,agW,[],a1,c1⟩,⟨2,agV,[],a2,c2⟩,⟨3,agU,[],a3,c3⟩,⟨4,agT,[],a4,c4⟩]
theorem aeN {hs:List bJ} (h:hs.map eT=PI):∃a1 a2 a3 a4 c1 c2 c3 c4,hs=pJ a1 a2 a3 a4 c1 c2 c3 c4:=by
 match hs,h with
 | [⟨g1,d1,f1,a1,c1⟩,⟨g2,d2,f2,a2,c2⟩,⟨g3,d3,f3,a3,c3⟩,⟨g4,d4,f4,a4,c4⟩],h =>
  simp only[yZ,List.map_nil,eT,PI,AG,Fs.mk.injEq,Dh] at h;obtain⟨⟨rfl,rfl,rfl⟩,⟨rfl,rfl,rfl⟩,⟨rfl,rfl,rfl⟩,rfl,rfl,rfl⟩:=h;exact⟨a1,a2,a3,a4,c1,c2,c3,c4,rfl⟩
 | [],h=>cases dI List.length h
 | [_],h=>cases dI List.length h
 | [_,_],h=>cases dI List.length h
 | [_,_,_],h=>cases dI List.length h
 | _::_::_::_::_::_,h =>
  have:=dI List.length h;simp[PI] at this
theorem aaq:dO wI:=lK _ (by kernel_rfl)
theorem aap (a1 a2 a3 a4:Option Addr) (c1 c2 c3 c4:Nat):rD (pJ a1 a2 a3 a4 c1 c2 c3 c4):=by
 have one:∀(g:Int) (d:ByteArray) (a:Option Addr) (c:Nat),cO g->d.size<=140737488351232->DI ⟨g,d,[],a,c⟩:=fun g d a c h1 h2=>⟨h1,h2,by unfold cB;show 0<=_;exact uH _,fun k hk=>absurd hk (ky _)⟩
 refine⟨by unfold cB pJ;show(4:Nat)<=_;decide,fun k hk=>?_⟩
 match k,hk with
 | 0,_=>exact one 1 agW a1 c1 (by unfold cO;decide) (by show(16:Nat)<=_;decide)
 | 1,_=>exact one 2 agV a2 c2 (by unfold cO;decide) (by show(16:Nat)<=_;decide)
 | 2,_=>exact one 3 agU a3 c3 (by unfold cO;decide) (by show(16:Nat)<=_;decide)
 | 3,_=>exact one 4 agT a4 c4 (by unfold cO;decide) (by show(16:Nat)<=_;decide)
 | k+4,h=>exact absurd h (by unfold pJ;simp)
open Go.RowKit
theorem Vi (i:ed) (w:World):Calls Tryz.prog 84 #[.agg i.cells] w fun e w'=>e=.returned (.string i.bytes)/\Below w.heap.size w w':=by
 obtain⟨o,a,b,c,m⟩:=i;unfold ed.cells ed.bytes;simp only;have gK:=bD ((aK w.heap.size w).alloc (aI _) (.cells #[I o,I a,I b,I c,I m] 108));have BX:=bD (bE w #[I o,I a,I b,I c,I m] 108);obtain⟨W,hW⟩:=ex (w.alloc (.cells #[I o,I a,I b,I c,I m] 108));have HW:=bD hW;rw[<- hW] at gK BX;have CL:=jq W;have hwl:=aJ BX.o;have k0:∀x:dV W.heap.size W,x.world.cell? (Ad w.heap.size 0)=some (I o):=fun x=>by grind [fO,au,Hid.o]
 have k1:∀x:dV W.heap.size W,x.world.cell? (Ad w.heap.size 1)=some (I a):=fun x=>by grind [fO,au,Hid.o]
 have k2:∀x:dV W.heap.size W,x.world.cell? (Ad w.heap.size 2)=some (I b):=fun x=>by grind [fO,au,Hid.o]
 have k3:∀x:dV W.heap.size W,x.world.cell? (Ad w.heap.size 3)=some (I c):=fun x=>by grind [fO,au,Hid.o]
 have k4:∀x:dV W.heap.size W,x.world.cell? (Ad w.heap.size 4)=some (I m):=fun x=>by grind [fO,au,Hid.o]
 have HA:Hid (∀n V,Calls Tryz.prog 58 #[I n,I 1] V fun e w'=>e=.returned (.string (wV 1 n))/\Below V.heap.size V w'):=fun n U=>LU n 1 U (by omega)
 have HM:Hid (∀V,Calls Tryz.prog 58 #[I m,I 4] V fun e w'=>e=.returned (.string (wV 4 m))/\Below V.heap.size V w'):=fun U=>LU m 4 U (by omega)
 have s1:=zQ 1 o;have s2:=zQ 1 a;have s3:=zQ 1 b;have s4:=zQ 1 c;have s5:=zQ 4 m;have t1:(wV 1 o++wV 1 a).size=2:=by rfl
 have t2:(wV 1 o++wV 1 a++wV 1 b).size=3:=by rfl
 have t3:(wV 1 o++wV 1 a++wV 1 b++wV 1 c).size=4:=by rfl
 clear hW;go_enter Tryz.func84,Tryz.ntmps84;go_wp2;rw[<- HW.o];refine dx (by rfl) (by kernel_rfl) ?_
 repeat (first | go_big_quiet_step ((go_at_call 58;first | with_reducible exact fV (HA.o _) _ | with_reducible exact fV HM.o _)) | quiet_step ((go_at_call 58;first | with_reducible exact fV (HA.o _) _ | with_reducible exact fV HM.o _)))
 refine jk ?_;intro _ hw';obtain⟨x,hw''⟩:=hw';subst hw'';go_wp2;go_ret;exact⟨rfl,gK.o.trans (x.keeps.mono gK.o.size)⟩
open Go.RowKit
theorem ahO (nm:ByteArray) (an ag ay ar:Option Addr) (cn gl cg cy cr:Nat) (en:Int) (w:World):Calls Tryz.prog 164 #[.agg #[.string nm,.slice an 0 cn,.slice ag gl cg,.slice ay 0 cy,.slice ar 0 cr,I en]] w fun e w'=>e=.returned (.bool true)/\Below w.heap.size w w':=by
 have HB:=aB ((aK w.heap.size w).alloc (aI _) (.cells #[.string nm,.slice an 0 cn,.slice ag gl cg,.slice ay 0 cy,.slice ar 0 cr,I en] 56));go_enter Tryz.func164,Tryz.ntmps164;go_wp2;go_loopw [10] (fun iv wr=>iv=I 0/\Below w.heap.size w wr) (fun _ _=>0)
 case atStart=>grind [Hid.o]
 case round =>
  obtain⟨rfl,hb⟩:=hrel;have gQ:=aB hb;clear hb;go_wp2;go_ret;exact⟨rfl,gQ.o⟩
theorem ahP (nm:ByteArray) (an ag ay ar:Option Addr) (cn gl cg cy cr:Nat) (en:Int) (w:World):Calls Tryz.prog 165 #[.agg #[.string nm,.slice an 0 cn,.slice ag gl cg,.slice ay 0 cy,.slice ar 0 cr,I en]] w fun e w'=>e=.returned (.bool true)/\Below w.heap.size w w':=by
 have HB:=aB ((aK w.heap.size w).alloc (aI _) (.cells #[.string nm,.slice an 0 cn,.slice ag gl cg,.slice ay 0 cy,.slice ar 0 cr,I en] 56));go_enter Tryz.func165,Tryz.ntmps165;go_wp2;go_loopw [11] (fun iv wr=>iv=I 0/\Below w.heap.size w wr) (fun _ _=>0)
 case atStart=>grind [Hid.o]
 case round =>
  obtain⟨rfl,hb⟩:=hrel;have gQ:=aB hb;clear hb;go_wp2;go_ret;exact⟨rfl,gQ.o⟩
theorem Yo (ay:Option Addr) (cy:Nat) (w:World):Calls Tryz.prog 163 #[.slice ay 0 cy] w fun e w'=>e=.returned Nl/\Below w.heap.size w w':=by
 go_enter Tryz.func163,Tryz.ntmps163;go_wp2;go_loopw [3,8] (fun sv iv wr=>sv=Nl/\iv=I 0/\Below w.heap.size w wr) (fun _ _ _=>0)
 case atStart=>grind [Below.refl]
 case round =>
  obtain⟨rfl,rfl,hb⟩:=hrel;have gQ:=aB hb;clear hb;go_wp2;go_ret;exact⟨rfl,gQ.o⟩
theorem afL (nm:ByteArray) (an ag ay ar:Option Addr) (cn gl cg cy cr:Nat) (en:Int) (w:World) (hn:∀V,Calls Tryz.prog 200 #[.string nm] V fun e w'=>e=.returned (.bool true)/\Below V.heap.size V w'):Calls Tryz.prog 158 #[.agg #[.string nm,.slice an 0 cn,.slice ag gl cg,.slice ay 0 cy,.slice ar 0 cr,I en]] w fun e w'=>e=.returned (.bool true)/\Below w.heap.size w w':=by
 have HN:=aB hn;clear hn;have HB:=aB ((aK w.heap.size w).alloc (aI _) (.cells #[.string nm,.slice an 0 cn,.slice ag gl cg,.slice ay 0 cy,.slice ar 0 cr,I en] 56));have X0:=aB (bE w #[.string nm,.slice an 0 cn,.slice ag gl cg,.slice ay 0 cy,.slice ar 0 cr,I en] 56);go_enter Tryz.func158,Tryz.ntmps158;go_wp2_with (go_at_call 200;refine(HN.o _).mono ?_;rintro e w1 ⟨rfl,hb1⟩;have cN:=aB (HB.o.trans (hb1.mono HB.o.size));have X1:=aB (aO X0.o hb1 (aJ X0.o));have x1:w1.cell? (Ad w.heap.size 1)=some (.slice an 0 cn):=au X1.o 1 rfl;clear hb1)
 go_loopw [16] (fun iv wr=>iv=I 0/\wr.heap[w.heap.size]?=some (.cells #[.string nm,.slice an 0 cn,.slice ag gl cg,.slice ay 0 cy,.slice ar 0 cr,I en] 56 (0,0))/\Below w.heap.size w wr) (fun _ _=>0)
 case atStart=>grind [Hid.o]
 case round =>
  obtain⟨rfl,hx,hb⟩:=hrel;have HX:=aB hx;have gQ:=aB hb;have y3:wr.cell? (Ad w.heap.size 3)=some (.slice ay 0 cy):=au hx 3 rfl;clear hb hx cN X1 x1;go_wp2;clear y3;go_loopw [27] (fun iv wi=>iv=I 0/\wi.heap[w.heap.size]?=some (.cells #[.string nm,.slice an 0 cn,.slice ag gl cg,.slice ay 0 cy,.slice ar 0 cr,I en] 56 (0,0))/\Below w.heap.size w wi) (fun _ _=>0)
  case atStart=>exact⟨rfl,HX.o,gQ.o⟩
  case round =>
   clear HX gQ;obtain⟨rfl,hx,hb⟩:=hrel;have mO:=aB hb;have y4:wr.cell? (Ad w.heap.size 4)=some (.slice ar 0 cr):=au hx 4 rfl;clear hb hx;go_wp2;clear y4;go_loopw [39] (fun iv wi=>iv=I 0/\Below w.heap.size w wi) (fun _ _=>0)
   case atStart=>exact⟨rfl,mO.o⟩
   case round =>
    obtain⟨rfl,hb⟩:=hrel;have tC:=aB hb;clear hb;go_wp2;go_ret;exact⟨rfl,tC.o⟩
theorem afM (nm:ByteArray) (gs:List pL) (en:Int) (an ag ay ar:Option Addr) (cn cg cy cr:Nat) (w:World) (h:qc w ⟨an,cn,ag,cg,ay,cy,ar,cr⟩ ⟨nm,[],gs,[],[],en⟩) (hf:J6 ⟨nm,[],gs,[],[],en⟩) (h1:uM nm=true) (h2:CQ ⟨nm,[],gs,[],[],en⟩=true) (h3:gs.all ll=true) (h4:CR gs=true) (h5:CP ⟨nm,[],gs,[],[],en⟩=true) :
  Calls Tryz.prog 109 #[.agg #[.string nm,.slice an 0 cn,.slice ag gs.length cg,.slice ay 0 cy,.slice ar 0 cr,I en]] w fun e w'=>e=.returned (I 0)/\Below w.heap.size w w':=by
 have Eo:Hid (∀V,Calls Tryz.prog 200 #[.string nm] V fun e w'=>e=.returned (.bool true)/\Below V.heap.size V w'):=fun V=>(Vh nm V hf.name).mono fun e w' ⟨e1,e2⟩=>⟨by grind,by grind [Below.refl]⟩
 have HNM:=aB (fun V=>afL nm an ag ay ar cn gs.length cg cy cr en V Eo.o);have HCN:Hid (∀V,Calls Tryz.prog 159 #[.agg #[.string nm,.slice an 0 cn,.slice ag gs.length cg,.slice ay 0 cy,.slice ar 0 cr,I en]] V fun e w'=>e=.returned (.bool true)/\Below V.heap.size V w'):=fun V=>(JZ ⟨nm,[],gs,[],[],en⟩ ⟨an,cn,ag,cg,ay,cy,ar,cr⟩ V hf).mono fun e w' ⟨e1,e2⟩=>⟨by grind,e2⟩
 have HRG:Hid (∀V,Below w.heap.size w V->Calls Tryz.prog 160 #[.slice ag gs.length cg] V fun e w'=>e=.returned (.bool true)/\Below V.heap.size V w'):=fun V hV=>(JY gs ag cg V (h.below hV).jI hf.jI hf.seg).mono fun e w' ⟨e1,e2⟩=>⟨by grind,e2⟩
 have HOV:Hid (∀V,Below w.heap.size w V->Calls Tryz.prog 161 #[.slice ag gs.length cg] V fun e w'=>e=.returned (.bool false)/\Below V.heap.size V w'):=fun V hV=>(Sl gs ag cg V (h.below hV).jI hf.jI h3).mono fun e w' ⟨e1,e2⟩=>⟨by grind,e2⟩
 have HTW:Hid (∀ao c V,Calls Tryz.prog 162 #[.slice ao 0 c] V fun e w'=>e=.returned (.bool false)/\Below V.heap.size V w'):=fun ao c V=>(Yn [] ao c V (fun h=>absurd h (ky _)) (uH _) (fun k hk=>absurd hk (ky _))).mono fun e w' ⟨e1,e2⟩=>⟨by rw[e1];rfl,e2⟩
 have HSN:=aB (fun V=>Yo ay cy V);have ZH:=aB (fun V=>ahO nm an ag ay ar cn gs.length cg cy cr en V);have HRL:=aB (fun V=>ahP nm an ag ay ar cn gs.length cg cy cr en V);have Az:Hid (∀V,Below w.heap.size w V->Calls Tryz.prog 166 #[.agg #[.string nm,.slice an 0 cn,.slice ag gs.length cg,.slice ay 0 cy,.slice ar 0 cr,I en]] V fun e w'=>e=.returned (.bool true)/\Below V.heap.size V w'):=fun V hV=>(J2 ⟨nm,[],gs,[],[],en⟩ ⟨an,cn,ag,cg,ay,cy,ar,cr⟩ V (h.below hV) hf h3).mono fun e w' ⟨e1,e2⟩=>⟨by grind,e2⟩
 obtain⟨gl,hgl⟩:=ex gs.length;rw[<- hgl] at HNM HCN HRG HOV ZH HRL Az ⊢;clear h hf h1 h2 h3 h4 h5 hgl Eo;have HB:=aB ((aK w.heap.size w).alloc (aI _) (.cells #[.string nm,.slice an 0 cn,.slice ag gl cg,.slice ay 0 cy,.slice ar 0 cr,I en] 56));have X:=aB (bE w #[.string nm,.slice an 0 cn,.slice ag gl cg,.slice ay 0 cy,.slice ar 0 cr,I en] 56);go_enter Tryz.func109,Tryz.ntmps109;go_wp2_with (first
  | (go_at_call 158;refine(HNM.o _).mono ?_;rintro e w1 ⟨rfl,hb⟩;have cN:=aB (HB.o.trans (hb.mono HB.o.size));have X1:=aB (aO X.o hb (aJ X.o));clear hb;have k10:w1.cell? (Ad w.heap.size 0)=some (.string nm):=au X1.o 0 rfl;have k11:w1.cell? (Ad w.heap.size 1)=some (.slice an 0 cn):=au X1.o 1 rfl;have k12:w1.cell? (Ad w.heap.size 2)=some (.slice ag gl cg):=au X1.o 2 rfl;have k13:w1.cell? (Ad w.heap.size 3)=some (.slice ay 0 cy):=au X1.o 3 rfl;have k14:w1.cell? (Ad w.heap.size 4)=some (.slice ar 0 cr):=au X1.o 4 rfl;have k15:w1.cell? (Ad w.heap.size 5)=some (I en):=au X1.o 5 rfl)
  | (go_at_call 159;refine(HCN.o _).mono ?_;rintro e w2 ⟨rfl,hb⟩;have gQ:=aB (cN.o.trans (hb.mono cN.o.size));have X2:=aB (aO X1.o hb (aJ X1.o));clear hb;have k22:w2.cell? (Ad w.heap.size 2)=some (.slice ag gl cg):=au X2.o 2 rfl)
  | (go_at_call 160;refine(HRG.o _ gQ.o).mono ?_;rintro e w3 ⟨rfl,hb⟩;have mO:=aB (gQ.o.trans (hb.mono gQ.o.size));have X3:=aB (aO X2.o hb (aJ X2.o));clear hb;have k32:w3.cell? (Ad w.heap.size 2)=some (.slice ag gl cg):=au X3.o 2 rfl)
  | (go_at_call 161;refine(HOV.o _ mO.o).mono ?_;rintro e w4 ⟨rfl,hb⟩;have tC:=aB (mO.o.trans (hb.mono mO.o.size));have X4:=aB (aO X3.o hb (aJ X3.o));clear hb;have k41:w4.cell? (Ad w.heap.size 1)=some (.slice an 0 cn):=au X4.o 1 rfl)
  | (go_at_call 162;refine(HTW.o _ _ _).mono ?_;rintro e w7 ⟨rfl,hb⟩;have HB7:=aB (HB6.o.trans (hb.mono HB6.o.size));have X7:=aB (aO X6.o hb (aJ X6.o));clear hb;have k70:w7.cell? (Ad w.heap.size 0)=some (.string nm):=au X7.o 0 rfl;have k71:w7.cell? (Ad w.heap.size 1)=some (.slice an 0 cn):=au X7.o 1 rfl;have k72:w7.cell? (Ad w.heap.size 2)=some (.slice ag gl cg):=au X7.o 2 rfl;have k73:w7.cell? (Ad w.heap.size 3)=some (.slice ay 0 cy):=au X7.o 3 rfl;have k74:w7.cell? (Ad w.heap.size 4)=some (.slice ar 0 cr):=au X7.o 4 rfl;have k75:w7.cell? (Ad w.heap.size 5)=some (I en):=au X7.o 5 rfl)
  | (go_at_call 162;refine(HTW.o _ _ _).mono ?_;rintro e w5 ⟨rfl,hb⟩;have XV:=aB (tC.o.trans (hb.mono tC.o.size));have X5:=aB (aO X4.o hb (aJ X4.o));clear hb;have k53:w5.cell? (Ad w.heap.size 3)=some (.slice ay 0 cy):=au X5.o 3 rfl)
  | (go_at_call 163;refine(HSN.o _).mono ?_;rintro e w6 ⟨rfl,hb⟩;have HB6:=aB (XV.o.trans (hb.mono XV.o.size));have X6:=aB (aO X5.o hb (aJ X5.o));clear hb)
  | (go_at_call 164;refine(ZH.o _).mono ?_;rintro e w8 ⟨rfl,hb⟩;have HB8:=aB (HB7.o.trans (hb.mono HB7.o.size));have X8:=aB (aO X7.o hb (aJ X7.o));clear hb;have k80:w8.cell? (Ad w.heap.size 0)=some (.string nm):=au X8.o 0 rfl;have k81:w8.cell? (Ad w.heap.size 1)=some (.slice an 0 cn):=au X8.o 1 rfl;have k82:w8.cell? (Ad w.heap.size 2)=some (.slice ag gl cg):=au X8.o 2 rfl;have k83:w8.cell? (Ad w.heap.size 3)=some (.slice ay 0 cy):=au X8.o 3 rfl;have k84:w8.cell? (Ad w.heap.size 4)=some (.slice ar 0 cr):=au X8.o 4 rfl;have k85:w8.cell? (Ad w.heap.size 5)=some (I en):=au X8.o 5 rfl)
  | (go_at_call 165;refine(HRL.o _).mono ?_;rintro e w9 ⟨rfl,hb⟩;have HB9:=aB (HB8.o.trans (hb.mono HB8.o.size));have X9:=aB (aO X8.o hb (aJ X8.o));clear hb;have k90:w9.cell? (Ad w.heap.size 0)=some (.string nm):=au X9.o 0 rfl;have k91:w9.cell? (Ad w.heap.size 1)=some (.slice an 0 cn):=au X9.o 1 rfl;have k92:w9.cell? (Ad w.heap.size 2)=some (.slice ag gl cg):=au X9.o 2 rfl;have k93:w9.cell? (Ad w.heap.size 3)=some (.slice ay 0 cy):=au X9.o 3 rfl;have k94:w9.cell? (Ad w.heap.size 4)=some (.slice ar 0 cr):=au X9.o 4 rfl;have k95:w9.cell? (Ad w.heap.size 5)=some (I en):=au X9.o 5 rfl)
  | (go_at_call 166;refine(Az.o _ HB9.o).mono ?_;rintro e w10 ⟨rfl,hb⟩;have ash:=aB (HB9.o.trans (hb.mono HB9.o.size));clear hb))
 go_ret;exact⟨rfl,ash.o⟩
open Go.RowKit Go.WideMaps Go.Maps
theorem Qj (l:List iV) (ao:Option Addr) (cap:Nat) (w:World) (h:DG w ao l) (hf:adb l) (JJ:∀k,k<l.length->∀V,Below w.heap.size w V->Calls Tryz.prog 109 #[.agg (jJ (cH l k).a (cH l k).i)] V fun e w'=>e=.returned (I (mz (cH l k).i))/\Below V.heap.size V w'):Calls Tryz.prog 63 #[.slice ao l.length cap] w (ahU l w):=by
 have HH:=aB h;have HF:=aB hf;have JL:=aB JJ;have hn:l.length<=140737488351232:=hf.1;clear h hf JJ;have hmm:=@run_makeMap Tryz.prog;go_enter Tryz.func63,Tryz.ntmps63;go_wp2;go_loopw [12] (fun i wr=>∃k:Nat,k<=l.length/\i=I k/\oG l k=0/\Below w.heap.size w wr) (fun i _=>l.length-(intOf i).toNat)
 case atStart=>exact⟨0,by omega,rfl,rfl,aK _ _⟩
 case round =>
  obtain⟨k,hk,rfl,hz,hb⟩:=hrel;have HZ:=aB hz;have zJ:=aB hb;clear hz;by_cases hlt:k<l.length
  · obtain⟨b,off,hao,hbl,eY⟩:=(HH.o.below hb) (by omega);subst hao;obtain⟨⟨c0,c1,c2,c3,c4,c5⟩,hi⟩:=eY k hlt;have L3:=HF.o.2 k hlt;have qG:=aB (JL.o k hlt);have HE:Hid (oG l (k+1)=mz (cH l k).i):=by
     show _=_;simp only[oG];rw[aC HZ.o]
    have HBY:Hid (mz (cH l k).i≠0->oH l=mz (cH l k).i):=fun g=>by
     have e1:oG l (k+1)≠0:=by rw[HE.o];exact g
     have e2:=Fm l (k+1) e1 l.length (by omega);unfold oH;rw[e2,aA e1,HE.o]
    obtain⟨x,hx⟩:=ex (cH l k);rw[<- hx] at c0 c1 c2 c3 c4 c5 hi L3 HE HBY qG;clear hx eY hb;obtain⟨⟨nm,ns,gs,ys,rs,en⟩,⟨an,cn,ag,cg,ay,cy,ar,cr⟩⟩:=x;simp only at c0 c1 c2 c3 c4 c5;have jV:=aB (zJ.o.alloc zJ.o.size (.cells #[.string nm,.slice an ns.length cn,.slice ag gs.length cg,.slice ay ys.length cy,.slice ar rs.length cr,I en] 56));have HC:Hid (∀W,Below wr.heap.size wr W->Calls Tryz.prog 109 #[.agg #[.string nm,.slice an ns.length cn,.slice ag gs.length cg,.slice ay ys.length cy,.slice ar rs.length cr,I en]] W fun e w'=>e=.returned (I (mz ⟨nm,ns,gs,ys,rs,en⟩))/\Below W.heap.size W w'):=fun V hb=>qG.o V (zJ.o.trans (hb.mono zJ.o.size))
    clear hi L3 qG JL;obtain⟨c,hc⟩:=ex (mz ⟨nm,ns,gs,ys,rs,en⟩);simp only at HE HBY;rw[<- hc] at HC HE HBY;clear hc;by_cases hcz:c=0
    · subst hcz;clear HBY;go_wp2_with (go_at_call 109;refine(HC.o _ ((aK _ _).alloc (aI _) _)).mono ?_;rintro e w1 ⟨rfl,hb⟩;have jV:=aB (jV.o.trans (hb.mono jV.o.size));clear hb)
      go_roundw
      case rel=>exact⟨k+1,by omega,by go_num,HE.o,jV.o⟩
      case measure=>simp[intOf];omega
    · have HBE:=aB (HBY.o hcz);have av2:(c==0)=false:=by grind
      clear HBY HE;go_wp2_with (go_at_call 109;refine(HC.o _ ((aK _ _).alloc (aI _) _)).mono ?_;rintro e w1 ⟨rfl,hb⟩;have jV:=aB (jV.o.trans (hb.mono jV.o.size));clear hb)
      go_ret2
      refine⟨jV.o,?_⟩;rw[HBE.o,aA hcz];rfl
  · obtain rfl:k=l.length:=by omega
    clear hb;obtain⟨m,hm⟩:=ex wr.heap.size;have hsm:w.heap.size<=m:=by rw[hm];exact zJ.o.size
    have HM0:Hid ((wr.alloc (.map #[] 0)).ownsMap Tryz.prog 9 YN m 0 (.map [])):=by
     rw[hm];exact World.ownsMap_made _ _ _ _
    have HM:=aB hm;clear hm;go_wp2;rw[<- HM.o];go_loopw [25] (fun i wi=>∃(k:Nat) (D:DataW Value),k<=l.length/\i=I k/\wi.ownsMap Tryz.prog 9 YN m k D/\Ku l k D/\Below w.heap.size w wi) (fun i _=>l.length-(intOf i).toNat)
    case atStart=>exact⟨0,.map [],uH _,rfl,HM0.o,abn l,zJ.o.alloc zJ.o.size _⟩
    case round =>
     obtain⟨k,D,hk,rfl,hown,hnm,hb⟩:=hrel;have HW:=aB hown;have HN:=aB hnm;have HBi:=aB hb;by_cases hlt:k<l.length
     · obtain⟨b,off,hao,hbl,eY⟩:=(HH.o.below hb) (by omega);subst hao;obtain⟨⟨c0,c1,c2,c3,c4,c5⟩,hi⟩:=eY k hlt;have L3:=(HF.o.2 k hlt).name;have HNS:=aB (abo hlt hown.isMap (hown.tidy P7) hnm);obtain⟨x,hx⟩:=ex (cH l k);rw[<- hx] at c0 c1 c2 c3 c4 c5 L3 HNS;clear hx eY hb hi hown hnm;obtain⟨⟨nm,ns,gs,ys,rs,en⟩,⟨an,cn,ag,cg,ay,cy,ar,cr⟩⟩:=x;simp only at c0 c1 c2 c3 c4 c5 L3;have hkey:=T8 L3;have rN:k<maxLen:=by unfold maxLen;omega
       have jV:=aB (HBi.o.alloc HBi.o.size (.cells #[.string nm,.slice an ns.length cn,.slice ag gs.length cg,.slice ay ys.length cy,.slice ar rs.length cr,I en] 56));have se:=aB (HW.o.alloc (.cells #[.string nm,.slice an ns.length cn,.slice ag gs.length cg,.slice ay ys.length cy,.slice ar rs.length cr,I en] 56));go_wp2_with (first | (at_mapUpdate;refine UX _ rfl _ _ _ 124 rfl 9 56 P7 Tryz.underlying124 YN m k D rfl se.o rN _ _ _ rfl rfl hkey _ [] rfl ?_;intro w1 hown1 hgrow1;have HW1:=aB hown1;have cN:=aB (jV.o.grown hgrow1 jV.o.size (fun j hj=>by cases hj;exact hsm));clear hown1 hgrow1) | go_in)
       go_roundw
       case rel=>exact⟨k+1,_,by omega,by go_num,HW1.o,HNS.o,cN.o⟩
       case measure=>simp[intOf];omega
     · obtain rfl:k=l.length:=by omega
       have hlen:=hown.len Tryz.underlying124 3;have HE0:=aB HZ.o;by_cases ho:oF (kf l) l.length=true
       · have hsz:=hnm.all.2 ho;have HBE:Hid (oH l=0):=by
          show _=_;unfold oH xO;rw[aC HE0.o,tN,ho];rfl
         rw[hsz] at hlen;clear hown hnm hb hsz ho;go_wp2
         go_ret2
         refine⟨HBi.o,?_⟩;rw[HBE.o,aC rfl];exact⟨_,D,rfl,HW.o,HN.o⟩
       · have hsz:Maps.size D<l.length:=by
          have h1:=hnm.le;have h2:=hnm.all;rcases Nat.lt_or_ge (Maps.size D) l.length with g | g
          · exact g
          · exact(ho (h2.1 (by omega))).elim
         have HBE:Hid (oH l=5):=by
          show _=_;unfold oH xO;rw[aC HE0.o,tN,aA ho]
         obtain⟨z,hz⟩:=ex (Maps.size D);rw[<- hz] at hlen hsz;have hsz':(z:Int)<(l.length:Int):=by omega
         clear hown hnm hb ho hz;go_wp2
         go_ret2
         refine⟨HBi.o,?_⟩;rw[HBE.o,aA (by decide)];rfl
end Go.Proofs.YtlgoihmkgaaemaaGreat
