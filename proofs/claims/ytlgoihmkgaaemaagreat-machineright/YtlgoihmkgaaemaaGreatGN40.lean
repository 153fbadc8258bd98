import Derived.Test.YtlgoihmkgaaemaaGreatGN39
import Derived.OpenShut
set_option maxHeartbeats 20000000
set_option linter.unusedVariables false
set_option maxRecDepth 100000
set_option linter.unusedSimpArgs false
namespace Go.Proofs.YtlgoihmkgaaemaaGreat
open Go.RowKit
theorem TF (w:World):Calls Tryz.prog 38 #[] w fun e w'=>(∃pb,e=.returned (.slice (some (Ad pb 0)) 14 14)/\oV w' (some (Ad pb 0)) qz/\pb<w'.heap.size)/\Below w.heap.size w w':=by
 have HN:Hid (∀(V:World),V.heap[w.heap.size]?=some (.cells #[I 0,I 1,I 0,I 1,I 0,I 1,I 0,I 1,I 0,I 1,I 0,I 1,I 0,I 1] 3 (0,0))->oV V (some (Ad w.heap.size 0)) qz):=fun V h _=>by
  refine⟨w.heap.size,0,rfl,aJ h,fun i hi=>?_⟩
  match i,hi with
  | 0,_=>exact au h 0 rfl
  | 1,_=>exact au h 1 rfl
  | 2,_=>exact au h 2 rfl
  | 3,_=>exact au h 3 rfl
  | 4,_=>exact au h 4 rfl
  | 5,_=>exact au h 5 rfl
  | 6,_=>exact au h 6 rfl
  | 7,_=>exact au h 7 rfl
  | 8,_=>exact au h 8 rfl
  | 9,_=>exact au h 9 rfl
  | 10,_=>exact au h 10 rfl
  | 11,_=>exact au h 11 rfl
  | 12,_=>exact au h 12 rfl
  | 13,_=>exact au h 13 rfl
  | k+14,h=>exact absurd h (by show ¬k+14<14;omega)
 have HB:=ai ((aK w.heap.size w).alloc (aI _) (.cells #[I 0,I 1,I 0,I 1,I 0,I 1,I 0,I 1,I 0,I 1,I 0,I 1,I 0,I 1] 3));have HX:=ai (HN.o _ (bE w #[I 0,I 1,I 0,I 1,I 0,I 1,I 0,I 1,I 0,I 1,I 0,I 1,I 0,I 1] 3));go_enter Tryz.func38,Tryz.ntmps38;go_wp2;go_ret;exact⟨⟨w.heap.size,rfl,HX.o,by simp⟩,HB.o⟩
def aac (a1 a2 a3 a4:Option Addr) (c1 c2 c3 c4:Nat):iF:=⟨ni wI (pJ a1 a2 a3 a4 c1 c2 c3 c4) 3 8,[nH 16],[]⟩
theorem Ep (a1 a2 a3 a4:Option Addr) (c1 c2 c3 c4:Nat):qd wI (pJ a1 a2 a3 a4 c1 c2 c3 c4) 16 3 8=(aac a1 a2 a3 a4 c1 c2 c3 c4,0)/\dh dn (gG (aac a1 a2 a3 a4 c1 c2 c3 c4)):=by
 rcases Lx wI (pJ a1 a2 a3 a4 c1 c2 c3 c4) 16 3 8 ⟨by omega,by omega⟩ with h | ⟨_,_,_,_,_,_,h1,h2⟩
 · exact absurd (by kernel_rfl) h
 · exact⟨h1,h2⟩
theorem W8 (a1 a2 a3 a4:Option Addr) (c1 c2 c3 c4:Nat):∃s,dU (aac a1 a2 a3 a4 c1 c2 c3 c4) qz=(wD s,0)/\Ho s=(2,2,0,1,2,0):=by
 obtain⟨s,h1,h2⟩:=agN a1 a2 a3 a4 c1 c2 c3 c4;refine⟨s,?_,h2⟩;rw[xt (Ep a1 a2 a3 a4 c1 c2 c3 c4).2,aA (by decide)];have h1:dG fX qz qz.length (some (gG (aac a1 a2 a3 a4 c1 c2 c3 c4)))=some s:=h1;rw[h1]
theorem TH {N:Nat} {c:Array Value} {U:World} {a1 a2 a3 a4:Option Addr} {c1 c2 c3 c4:Nat} (h:gD N (aac a1 a2 a3 a4 c1 c2 c3 c4) c U) (ap:Option Addr) (cp:Nat) (hn:oV U ap qz) (hps:∀b,ap=some b->b.block<U.heap.size) :
  Calls Tryz.prog 20 #[.agg c,.slice ap 14 cp] U fun e w''=>∃t0 k0 p0 t1 k1 p1 t2 k2 p2 t3 k3 p3 hc b1 o1 p5 b2 o2 p6,e=.returned (.tuple #[.agg #[.slice t0 k0 p0,.slice t1 k1 p1,.slice t2 k2 p2,.slice t3 k3 p3,I hc,.slice (some (Ad b1 o1)) 2 p5,.slice (some (Ad b2 o2)) 2 p6],I 0])/\(∀X,aD (fun b=>b<U.heap.size) w'' X->X.cell? (Ad b1 (o1+22))=some (I 2)/\X.cell? (Ad b1 (o1+23))=some (I 0)/\X.cell? (Ad b2 (o2+1))=some (I 0)/\X.cell? (Ad b2 (o2+3))=some (I 1))/\Below U.heap.size U w'':=by
 obtain⟨s,e1,e2⟩:=W8 a1 a2 a3 a4 c1 c2 c3 c4;refine(Br h (Ep a1 a2 a3 a4 c1 c2 c3 c4).2 qz ap cp hn (fun _=>hps) (by show(14:Nat)<=_;decide)).mono ?_;rintro e w' ⟨c',g1,g2,g3⟩;rw[e1] at g1 g2;simp only[Ho,Prod.mk.injEq] at e2;obtain⟨r1,r2,r3,r4,r5,r6⟩:=e2;obtain⟨hs,a,ar,cr,ao,co,i1,rfl,i3⟩:=g2;have hk:=i3 w' (aD.refl _ _);obtain⟨b1,o1,f1,_,_⟩:=hk.procs (by show 0<s.ps.length;omega);obtain⟨b2,o2,f2,_,_⟩:=hk.out (by show 0<s.out.length;omega);subst f1 f2;have g1:e=.returned (.tuple #[.agg #[.slice a.aS hs.length a.cS,.slice a.aF s.mem.frames.length a.cF,.slice a.aL s.mem.slots.length a.cL,.slice a.aP s.mem.aj.length a.cP,I s.mem.hand,.slice (some (Ad b1 o1)) s.ps.length cr,.slice (some (Ad b2 o2)) s.out.length co],I 0]):=g1;rw[r1,r2] at g1;refine⟨_,_,_,_,_,_,_,_,_,_,_,_,_,b1,o1,cr,b2,o2,co,g1,fun X hX=>?_,g3⟩;have hu:=i3 X hX;obtain⟨b3,o3,f3,_,l3⟩:=hu.procs (by show 0<s.ps.length;omega);obtain⟨b4,o4,f4,_,l4⟩:=hu.out (by show 0<s.out.length;omega);injection f3 with f3;injection f4 with f4;injection f3 with u1 u2;injection f4 with u3 u4;subst u1 u2 u3 u4;obtain⟨_,_,_,_,_,_,_,_,_,k9,k10,_,_⟩:=l3 1 (by show 1<s.ps.length;omega);obtain⟨_,k1⟩:=l4 0 (by show 0<s.out.length;omega);obtain⟨_,k2⟩:=l4 1 (by show 1<s.out.length;omega);have k9:X.cell? (Ad b1 (o1+1*13+9))=some (I (aN s.ps 1).st):=k9;have k10:X.cell? (Ad b1 (o1+1*13+10))=some (I (aN s.ps 1).cd):=k10;have k1:X.cell? (Ad b2 (o2+0*2+1))=some (I (oW s.out 0).value):=k1;have k2:X.cell? (Ad b2 (o2+1*2+1))=some (I (oW s.out 1).value):=k2;rw[r5] at k9;rw[r6] at k10;rw[r3] at k1;rw[r4] at k2;exact⟨k9,k10,k1,k2⟩
theorem W9 (w:World):Calls Tryz.prog 13 #[] w fun e w'=>e=.returned (.bool true)/\Below w.heap.size w w':=by
 have HCT:=ai Xn;have Hw:=ai TF;have HNW:Hid (∀V ar cr ah ch a1 a2 a3 a4 c1 c2 c3 c4,fZ V (.slice ar 1 cr) wI->iT V ah (pJ a1 a2 a3 a4 c1 c2 c3 c4)->4<=ch->Calls Tryz.prog 10 #[.agg #[.slice ar 1 cr,.slice ah 4 ch,I 16],I 3,I 8] V fun e w'=>∃s0 n0 q0 s1 n1 C4 s2 n2 C3 s3 n3 C2 hd s5 q5 s6 q6,e=.returned (.tuple #[.agg #[.slice s0 n0 q0,.slice s1 n1 C4,.slice s2 n2 C3,.slice s3 n3 C2,I hd,.slice s5 1 q5,.slice s6 0 q6],I 0])/\(∀U,aD (fun b=>b<V.heap.size) w' U->∀ap cp,oV U ap qz->(∀b,ap=some b->b.block<U.heap.size)->Calls Tryz.prog 20 #[.agg #[.slice s0 n0 q0,.slice s1 n1 C4,.slice s2 n2 C3,.slice s3 n3 C2,I hd,.slice s5 1 q5,.slice s6 0 q6],.slice ap 14 cp] U fun e w''=>∃t0 k0 p0 t1 k1 p1 t2 k2 p2 t3 k3 p3 hc b1 o1 p5 b2 o2 p6,e=.returned (.tuple #[.agg #[.slice t0 k0 p0,.slice t1 k1 p1,.slice t2 k2 p2,.slice t3 k3 p3,I hc,.slice (some (Ad b1 o1)) 2 p5,.slice (some (Ad b2 o2)) 2 p6],I 0])/\(∀X,aD (fun b=>b<U.heap.size) w'' X->X.cell? (Ad b1 (o1+22))=some (I 2)/\X.cell? (Ad b1 (o1+23))=some (I 0)/\X.cell? (Ad b2 (o2+1))=some (I 0)/\X.cell? (Ad b2 (o2+3))=some (I 1))/\Below U.heap.size U w'')/\Below V.heap.size V w'):=fun V ar cr ah ch a1 a2 a3 a4 c1 c2 c3 c4 h1 h2 h3=>by
  have h:=NP wI (pJ a1 a2 a3 a4 c1 c2 c3 c4) 16 3 8 (.slice ar 1 cr) ah ch V h1 aaq h2 (aap a1 a2 a3 a4 c1 c2 c3 c4) h3 (by unfold cO;decide);rw[(Ep a1 a2 a3 a4 c1 c2 c3 c4).1] at h;refine h.mono ?_;rintro e w' ⟨c,g1,g2,g3⟩;obtain⟨s0,n0,q0,s1,n1,C4,s2,n2,C3,s3,n3,C2,hd,s5,q5,s6,q6,hc⟩:=g2.cells;subst hc;exact⟨s0,n0,q0,s1,n1,C4,s2,n2,C3,s3,n3,C2,hd,s5,q5,s6,q6,g1,fun U hU ap cp hn hb=>TH (g2.later hU) ap cp hn hb,g3⟩
 go_enter Tryz.func13,Tryz.ntmps13;go_wp2_with fail
 go_at_call 37
 refine(HCT.o _).mono ?_;rintro e w1 ⟨ar,cr,ah,ch,a1,a2,a3,a4,c1,c2,c3,c4,rfl,h1,h2,h3,h4⟩;have cN:=ai h4;have HN1:=ai (HNW.o w1 ar cr ah ch a1 a2 a3 a4 c1 c2 c3 c4 h1 h2 h3);clear h1 h2 h3 h4 HCT HNW;go_wp2_with fail
 go_at_call 10
 refine HN1.o.mono ?_;rintro e w2 ⟨s0,n0,q0,s1,n1,C4,s2,n2,C3,s3,n3,C2,hd,s5,q5,s6,q6,rfl,h1,h2⟩;have LF:=ai h1;have gQ:=ai (cN.o.trans (h2.mono cN.o.size));have hsz:=h2.size;clear h1 h2 HN1;go_wp2_with fail
 have jV:=ai (gQ.o.alloc gQ.o.size (.cells #[.slice s0 n0 q0,.slice s1 n1 C4,.slice s2 n2 C3,.slice s3 n3 C2,I hd,.slice s5 1 q5,.slice s6 0 q6] 34));have X0:=ai (bE w2 #[.slice s0 n0 q0,.slice s1 n1 C4,.slice s2 n2 C3,.slice s3 n3 C2,I hd,.slice s5 1 q5,.slice s6 0 q6] 34);have Z9:Hid (Below w2.heap.size w2 (w2.alloc (.cells #[.slice s0 n0 q0,.slice s1 n1 C4,.slice s2 n2 C3,.slice s3 n3 C2,I hd,.slice s5 1 q5,.slice s6 0 q6] 34))):=(aK w2.heap.size w2).alloc (aI _) _;obtain⟨W,hW⟩:=ex (w2.alloc (.cells #[.slice s0 n0 q0,.slice s1 n1 C4,.slice s2 n2 C3,.slice s3 n3 C2,I hd,.slice s5 1 q5,.slice s6 0 q6] 34));rw[<- hW] at jV X0 Z9 ⊢;obtain⟨fb,L4⟩:=ex w2.heap.size;have hfw:w.heap.size<=fb:=by rw[L4];exact gQ.o.size
 rw[<- L4] at X0 ⊢;clear L4 hW;have tV:=ai (aK W.heap.size W).drew;have X00:Hid (W.drew.heap[fb]?=some (.cells #[.slice s0 n0 q0,.slice s1 n1 C4,.slice s2 n2 C3,.slice s3 n3 C2,I hd,.slice s5 1 q5,.slice s6 0 q6] 34 (0,0))):=X0.o;obtain⟨x0,x1,x2,x3,x4,x5,x6⟩:=nR X0.o;go_cut [3] (fun x3 wx=>∃t0 k0 p0 t1 k1 p1 t2 k2 p2 t3 k3 p3 hc b1 o1 p5 b2 o2 p6,x3=I 0/\wx.heap[fb]?=some (.cells #[.slice t0 k0 p0,.slice t1 k1 p1,.slice t2 k2 p2,.slice t3 k3 p3,I hc,.slice (some (Ad b1 o1)) 2 p5,.slice (some (Ad b2 o2)) 2 p6] 34 (0,0))/\(wx.cell? (Ad b1 (o1+22))=some (I 2)/\wx.cell? (Ad b1 (o1+23))=some (I 0)/\wx.cell? (Ad b2 (o2+1))=some (I 0)/\wx.cell? (Ad b2 (o2+3))=some (I 1))/\Below w.heap.size w wx)
 case first =>
  go_region_law (first
   | (go_simp;go_at_call 38;refine(Hw.o _).mono ?_;rintro e w3 ⟨⟨pb,rfl,hn,hpl⟩,hb3⟩;have Bw:=ai (tV.o.trans (hb3.mono tV.o.size));have X3:=ai (aO X00.o hb3 (aJ X00.o));obtain⟨y0,y1,y2,y3,y4,y5,y6⟩:=nR X3.o;have arz:=ai (LF.o w3 (aD.b9 (Z9.o.trans (Bw.o.mono Z9.o.size))) (some (Ad pb 0)) 14 hn (fun b hb=>by injection hb with hb;subst hb;exact hpl));clear hn hpl hb3;go_simp)
   | (go_simp;go_at_call 20;refine arz.o.mono ?_;rintro e w4 ⟨t0,k0,p0,t1,k1,p1,t2,k2,p2,t3,k3,p3,hc,b1,o1,p5,b2,o2,p6,rfl,hc4,hb4⟩;have HC4:=ai hc4;have tC:=ai hb4;have X4:=ai (aO X3.o hb4 (aJ X3.o));obtain⟨z0,z1,z2,z3,z4,z5,z6⟩:=nR X4.o;have zf:=aR X4.o;clear hc4 hb4;go_simp))
  all_goals
   go_wp2_with fail
   go_meet
   case rel =>
    have hf3:=aJ X3.o;have kU:=pO w4 fb (.slice t0 k0 p0) (.slice t1 k1 p1) (.slice t2 k2 p2) (.slice t3 k3 p3) (I hc) (.slice (some (Ad b1 o1)) 2 p5) (.slice (some (Ad b2 o2)) 2 p6);refine⟨t0,k0,p0,t1,k1,p1,t2,k2,p2,t3,k3,p3,hc,b1,o1,p5,b2,o2,p6,rfl,fh (fh (fh (fh (fh (fh (fh X4.o 0 _) 1 _) 2 _) 3 _) 4 _) 5 _) 6 _,HC4.o _ (kU.mono (fun b _ e=>by rw[e];exact hf3)),?_⟩;have hb:Below w.heap.size w w4:=(jV.o.trans (Bw.o.mono jV.o.size)).trans (tC.o.mono (jV.o.trans (Bw.o.mono jV.o.size)).size);exact aD.below hb kU hb.size (fun b e=>by rw[e];exact hfw)
 case rest =>
  obtain⟨t0,k0,p0,t1,k1,p1,t2,k2,p2,t3,k3,p3,hc,b1,o1,p5,b2,o2,p6,rfl,hx,⟨j1,j2,j3,j4⟩,hb⟩:=hcut;have HB:=ai hb;have CL:=jq wc;have hkc:=@fO wc;have l0:=aJ hx;have l1:=oQ _ _ j1;have l2:=oQ _ _ j3;have e2:∀x:dV wc.heap.size wc,x.world.cell? (Ad fb 5)=some (.slice (some (Ad b1 o1)) 2 p5):=fun x=>(hkc x _ _ l0).trans (au hx 5 rfl)
  have e3:∀x:dV wc.heap.size wc,x.world.cell? (Ad fb 6)=some (.slice (some (Ad b2 o2)) 2 p6):=fun x=>(hkc x _ _ l0).trans (au hx 6 rfl)
  have e4:∀x:dV wc.heap.size wc,x.world.cell? (Ad b1 (o1+22))=some (I 2):=fun x=>(hkc x _ _ l1).trans j1
  have e4':∀x:dV wc.heap.size wc,x.world.cell? (Ad b1 (o1+13+9))=some (I 2):=fun x=>(hkc x _ _ l1).trans j1
  have e5:∀x:dV wc.heap.size wc,x.world.cell? (Ad b1 (o1+23))=some (I 0):=fun x=>(hkc x _ _ l1).trans j2
  have e5':∀x:dV wc.heap.size wc,x.world.cell? (Ad b1 (o1+13+10))=some (I 0):=fun x=>(hkc x _ _ l1).trans j2
  have e6:∀x:dV wc.heap.size wc,x.world.cell? (Ad b2 (o2+1))=some (I 0):=fun x=>(hkc x _ _ l2).trans j3
  have e7:∀x:dV wc.heap.size wc,x.world.cell? (Ad b2 (o2+2+1))=some (I 1):=fun x=>(hkc x _ _ l2).trans j4
  have e8:∀x:dV wc.heap.size wc,x.world.cell? (Ad b2 (o2+3))=some (I 1):=fun x=>(hkc x _ _ l2).trans j4
  clear hkc hx j1 j2 j3 j4 hb Hw LF Z9 tV X00 X0 x0 x1 x2 x3 x4 x5 x6 l0 l1 l2;go_wp2_with fail
  refine dx (by kernel_rfl) (by kernel_rfl) ?_
  repeat (first | go_big_quiet_step (fail) | quiet_step (fail))
  refine jk ?_;intro _ hw';obtain⟨x,hw''⟩:=hw';subst hw'';go_wp2;go_ret;exact⟨by simp,HB.o.trans (x.keeps.mono HB.o.size)⟩
open Go.RowKit Go.Deep
theorem Yt:Tryz.prog.cellsOf 9=1:=by rfl
theorem J3:Tryz.prog.cellsOf 3=1:=by rfl
theorem zM (n:Int) (h:(Lit.int .i64 n).wf=true):cO n:=aeS n h
theorem Me {w:World} {b o:Nat} {v:Value} (h:w.cell? (Ad b o)=some v):b<w.heap.size:=by
 grind [World.cell?]
instance:Inhabited pL:=⟨Ib⟩
instance:Inhabited Vn:=⟨ajq⟩
instance:Inhabited Ss:=⟨ajr⟩
def AY {H:Type} (t:TypeId) (d:DataW H):Prop:=∀n∈d.weights Tryz.prog t,n<=reachBytes
theorem CM {H:Type} {e:TypeId}:∀{l:List (DataW H)} {d:DataW H},d∈l->∀n∈d.weights Tryz.prog e,n∈DataW.weightsAll Tryz.prog e l
 | y::r,d,h,n,hn=>by
  simp only[DataW.weightsAll,lV];rcases uI.1 h with h | h
  · grind
  · exact .inr (CM h n hn)
theorem J0 {H:Type} {t:TypeId} {b:List UInt8} (h:AY (H:=H) t (.lit (.string b))):b.length<=reachBytes:=h _ (by simp[DataW.weights])
theorem AW {H:Type} {t e:TypeId} {el sp:List (DataW H)} (hu:Tryz.prog.underlying t=some (.slice e)) (h:AY t (.slice el sp)):(el.length+sp.length)*Tryz.prog.bytesOf e<=reachBytes/\∀d∈el,AY e d:=by
 refine⟨h _ (by grind [DataW.weights]),fun d hd n hn=>h n ?_⟩
 grind [DataW.weights,CM]
theorem CN {H:Type} {t:TypeId} {fs:Array Field} {ps:List (DataW H)} (hu:Tryz.prog.underlying t=some (.struct fs)) (h:AY t (.agg ps)) {j:Nat} {u:TypeId} {d:DataW H} (ht:(fs.toList.map (·.type))[j]?=some u) (hd:ps[j]?=some d):AY u d:=fun n hn=>h n (by
 grind [DataW.weights,DataW.weights_mem_each])
section
variable {H:Type} {enc:TypeId×Value->H} {w:World} {base:Nat} {spare:Nat->Bool} {held:Bool}
theorem Jd {t e:TypeId} {fuel:Nat} {v:Value} {x:DataW H×List MemPlace} (ht:Tryz.prog.underlying t=some (.slice e)) (h:DataW.trod enc Tryz.prog w base spare held fuel t [v]=some x):∃a len cap,v=.slice a len cap:=by
 rcases open_slice ht h with⟨hcs,_⟩ | ⟨a,len',cap',m,n,D,Pl,hcs,_⟩
 · grind
 grind
end
open Go.RowKit Go.Deep
theorem abf:Tryz.prog.cellsOf 226=2:=by rfl
theorem abd:Tryz.prog.cellsOf 145=3:=by rfl
theorem abe:Tryz.prog.cellsOf 25=3:=by rfl
theorem YG:Tryz.prog.cellsOf 143=1:=by rfl
theorem YF:Tryz.prog.cellsOf 23=1:=by rfl
theorem YH:Tryz.prog.cellsOf 22=1:=by rfl
theorem abh:Tryz.prog.bytesOf 226=24:=by rfl
theorem abg:Tryz.prog.bytesOf 145=48:=by rfl
theorem abj:Tryz.prog.bytesOf 139=32:=by rfl
instance:Inhabited mL:=⟨Qx⟩
instance:Inhabited bJ:=⟨Cb⟩
section
variable {H:Type} {enc:TypeId×Value->H} {w:World} {base:Nat} {spare:Nat->Bool} {held:Bool}
theorem aba {n:Nat} {a:Addr} {cs:List Value} {x:DataW H×List MemPlace} (hc:w.cells? base a 2=some cs) (h:DataW.trod enc Tryz.prog w base spare held n 226 cs=some x) (hw:AY 226 x.1) :
  ∃(x0:Int) (x1:ByteArray),(w.cell? (a.add 0)=some (I x0)/\cO x0)/\(w.cell? (a.add 1)=some (.string x1)/\cB x1.size):=by
 obtain⟨_,hlen,hcell⟩:=Pd hc;obtain⟨xs,k,hk,hxy,_,hxl,hf⟩:=Pc Tryz.underlying226 h;rw[hxy] at hw
 match cs,hlen with
 | [v0,v1],_ =>
  have g0:DataW.trod enc Tryz.prog w base spare held k 3 (([v0,v1].drop 0).take (Tryz.prog.cellsOf 3))=xs[0]?:=hf 0 _ rfl;have g1:DataW.trod enc Tryz.prog w base spare held k 9 (([v0,v1].drop 1).take (Tryz.prog.cellsOf 9))=xs[1]?:=hf 1 _ rfl;simp only[J3,Yt] at g0 g1;have e0:=hcell 0 (by omega);have e1:=hcell 1 (by omega)
  match xs,hxl with
  | [y0,y1],_ =>
   obtain⟨m0,c0,_,w0⟩:=Dk Tryz.underlying3 (show DataW.trod enc Tryz.prog w base spare held k 3 [v0]=some y0 from g0);obtain⟨m1,c1,hx1,_⟩:=DataW.trod_string Tryz.underlying9 (show DataW.trod enc Tryz.prog w base spare held k 9 [v1]=some y1 from g1);have u1:=CN Tryz.underlying226 hw (j:=1) (u:=9) (d:=y1.1) rfl rfl;rw[hx1] at u1;have w1:cB m1.size:=by have:=J0 u1;unfold cB;unfold reachBytes at this;rw[Lib.size_eq];omega
   simp only[AG,Dh] at c0 c1;subst c0;subst c1;exact⟨m0,m1,⟨e0,zM _ w0⟩,⟨e1,w1⟩⟩
theorem adW {fuel:Nat} {a0:Option Addr} {len cap:Nat} {x:DataW H×List MemPlace} (h:DataW.trod enc Tryz.prog w base spare held fuel 143 [.slice a0 len cap]=some x) (hw:AY 143 x.1) :
  ∃l:List mL,l.length=len/\pA w a0 l/\cB l.length/\∀k,k<l.length->VE (ng l k):=by
 rcases open_slice Tryz.underlying143 h with⟨hcs,_⟩ | ⟨a,len',cap',m,n,D,Pl,hcs,hb,hl,hm,hmm,rfl,hx⟩
 · simp at hcs;obtain⟨rfl,rfl,rfl⟩:=hcs;exact⟨[],rfl,fun h=>absurd h (by simp),by grind [cB],fun k hk=>absurd hk (by simp)⟩
 · simp at hcs;obtain⟨rfl,rfl,rfl⟩:=hcs;have hlm:len<=m:=by grind
   obtain⟨hb1,hb2⟩:=AW Tryz.underlying143 hw;rw[abh] at hb1;unfold reachBytes at hb1;have hlen:len<=140737488351232:=by grind
   have each:∀i,i<len->∃y:mL,w.cell? (a.add (i*2+0))=some (I y.off)/\w.cell? (a.add (i*2+1))=some (.string y.bytes)/\VE y:=by
    intro i hi;obtain⟨cs',h1,h2⟩:=hx i (by omega);have hd:D i∈(List.range len).map D:=vH.2 ⟨i,uJ.2 hi,rfl⟩;rw[abf] at h1;obtain⟨x0,x1,⟨e0,z0⟩,⟨e1,z1⟩⟩:=aba h1 h2 (hb2 _ hd);simp only[add_add] at e0 e1;exact⟨⟨x0,x1⟩,e0,e1,⟨z0,z1⟩⟩
   obtain⟨g,hg⟩:=choose_lt each;have hat:∀i,i<len->ng ((List.range len).map g) i=g i:=by
    grind [ng]
   refine⟨(List.range len).map g,by simp,fun h0=>?_,by grind [cB],fun k hk=>?_⟩
   · have h0':0<len:=by grind
     obtain⟨b,off,spot⟩:=a;have hc:=(hg 0 h0').1;have hspot:spot=none:=by simpa [Addr.add] using Pb hc
     subst hspot;rw[si] at hc;refine⟨b,off,rfl,Me hc,fun i hi=>?_⟩;have hi':i<len:=by grind
     rw[hat i hi'];obtain⟨e0,e1,_⟩:=hg i hi';simp only[si] at e0 e1
     grind
   grind
theorem Su {n:Nat} {v0 v1 v2:Value} {x:DataW H×List MemPlace} (h:DataW.trod enc Tryz.prog w base spare held n 145 [v0,v1,v2]=some x) (hw:AY 145 x.1) :
  ∃s:bJ,v0=I s.page/\v1=.string s.data/\v2=.slice s.ao s.dZ.length s.cap/\pA w s.ao s.dZ/\DI s:=by
 obtain⟨xs,k,hk,hxy,_,hxl,hf⟩:=Pc Tryz.underlying145 h;rw[hxy] at hw;have g0:DataW.trod enc Tryz.prog w base spare held k 3 (([v0,v1,v2].drop 0).take (Tryz.prog.cellsOf 3))=xs[0]?:=hf 0 _ rfl;have g1:DataW.trod enc Tryz.prog w base spare held k 9 (([v0,v1,v2].drop 1).take (Tryz.prog.cellsOf 9))=xs[1]?:=hf 1 _ rfl;have g2:DataW.trod enc Tryz.prog w base spare held k 143 (([v0,v1,v2].drop 2).take (Tryz.prog.cellsOf 143))=xs[2]?:=hf 2 _ rfl;simp only[J3,Yt,YG] at g0 g1 g2
 match xs,hxl with
 | [y0,y1,y2],_ =>
  obtain⟨m0,c0,_,w0⟩:=Dk Tryz.underlying3 (show DataW.trod enc Tryz.prog w base spare held k 3 [v0]=some y0 from g0);obtain⟨m1,c1,hx1,_⟩:=DataW.trod_string Tryz.underlying9 (show DataW.trod enc Tryz.prog w base spare held k 9 [v1]=some y1 from g1);have u1:=CN Tryz.underlying145 hw (j:=1) (u:=9) (d:=y1.1) rfl rfl;have u2:=CN Tryz.underlying145 hw (j:=2) (u:=143) (d:=y2.1) rfl rfl;rw[hx1] at u1;have w1:cB m1.size:=by have:=J0 u1;unfold cB;unfold reachBytes at this;rw[Lib.size_eq];omega
  have t2:DataW.trod enc Tryz.prog w base spare held k 143 [v2]=some y2:=g2;obtain⟨ao,ln,cp,d2⟩:=Jd Tryz.underlying143 t2;subst d2;obtain⟨fs,n1,n2,n3,n4⟩:=adW t2 u2;simp only[AG,Dh] at c0 c1;subst c0;subst c1;subst n1;exact⟨⟨m0,m1,fs,ao,cp⟩,rfl,rfl,rfl,n2,⟨zM _ w0,w1,n3,n4⟩⟩
end
open Go.RowKit Go.Deep
section
variable {H:Type} {enc:TypeId×Value->H} {w:World} {base:Nat} {spare:Nat->Bool} {held:Bool}
theorem adV {fuel:Nat} {a0:Option Addr} {len cap:Nat} {x:DataW H×List MemPlace} (h:DataW.trod enc Tryz.prog w base spare held fuel 23 [.slice a0 len cap]=some x) (hw:AY 23 x.1) :
  ∃l:List bJ,l.length=len/\iT w a0 l/\rD l/\len<=cap:=by
 rcases open_slice Tryz.underlying23 h with⟨hcs,_⟩ | ⟨a,len',cap',m,n,D,Pl,hcs,hb,hl,hm,hmm,rfl,hx⟩
 · simp at hcs;obtain⟨rfl,rfl,rfl⟩:=hcs;exact⟨[],rfl,fun h=>absurd h (by simp),⟨by grind [cB],fun k hk=>absurd hk (by simp)⟩,aI _⟩
 · simp at hcs;obtain⟨rfl,rfl,rfl⟩:=hcs;have hlm:len<=m:=by grind
   obtain⟨hb1,hb2⟩:=AW Tryz.underlying23 hw;rw[abg] at hb1;unfold reachBytes at hb1;have hlen:len<=140737488351232:=by grind
   have each:∀i,i<len->∃y:bJ,w.cell? (a.add (i*3+0))=some (I y.page)/\w.cell? (a.add (i*3+1))=some (.string y.data)/\w.cell? (a.add (i*3+2))=some (.slice y.ao y.dZ.length y.cap)/\pA w y.ao y.dZ/\DI y:=by
    intro i hi;obtain⟨cs',h1,h2⟩:=hx i (by omega);have hd:D i∈(List.range len).map D:=vH.2 ⟨i,uJ.2 hi,rfl⟩;rw[abd] at h1;obtain⟨_,hcl,hcell⟩:=Pd h1
    match cs',hcl with
    | [v0,v1,v2],_ =>
     obtain⟨s,e0,e1,e2,f1,f2⟩:=Su h2 (hb2 _ hd);have q0:=hcell 0 (by omega);have q1:=hcell 1 (by omega);have q2:=hcell 2 (by omega);simp only[add_add] at q0 q1 q2
     grind
   obtain⟨g,hg⟩:=choose_lt each;have hat:∀i,i<len->bl ((List.range len).map g) i=g i:=by
    grind [bl]
   refine⟨(List.range len).map g,by simp,fun h0=>?_,⟨by grind [cB],fun k hk=>?_⟩,hl⟩
   · have h0':0<len:=by grind
     obtain⟨b,off,spot⟩:=a;have hc:=(hg 0 h0').1;have hspot:spot=none:=by simpa [Addr.add] using Pb hc
     subst hspot;rw[si] at hc;refine⟨b,off,rfl,Me hc,fun i hi=>?_⟩;have hi':i<len:=by grind
     rw[hat i hi'];obtain⟨e0,e1,e2,e3,_⟩:=hg i hi';simp only[si] at e0 e1 e2
     grind
   grind
theorem Qf {fuel:Nat} {cs:List Value} {x:DataW H×List MemPlace} (h:DataW.trod enc Tryz.prog w base spare held fuel 25 cs=some x) (hw:AY 25 x.1) :
  ∃(l:List aX) (hs:List bJ) (en:Int) (va:Value) (ao:Option Addr) (cap:Nat),cs=[va,.slice ao hs.length cap,I en]/\fZ w va l/\dO l/\iT w ao hs/\rD hs/\hs.length<=cap/\cO en:=by
 obtain⟨xs,k,hk,hxy,hcl,hxl,hf⟩:=Pc Tryz.underlying25 h;rw[hxy] at hw;rw[abe] at hcl
 match cs,hcl with
 | [v0,v1,v2],_ =>
  have g0:DataW.trod enc Tryz.prog w base spare held k 22 (([v0,v1,v2].drop 0).take (Tryz.prog.cellsOf 22))=xs[0]?:=hf 0 _ rfl;have g1:DataW.trod enc Tryz.prog w base spare held k 23 (([v0,v1,v2].drop 1).take (Tryz.prog.cellsOf 23))=xs[1]?:=hf 1 _ rfl;have g2:DataW.trod enc Tryz.prog w base spare held k 3 (([v0,v1,v2].drop 2).take (Tryz.prog.cellsOf 3))=xs[2]?:=hf 2 _ rfl;simp only[J3,YH,YF] at g0 g1 g2
  match xs,hxl with
  | [y0,y1,y2],_ =>
   obtain⟨en,c2,_,w2⟩:=Dk Tryz.underlying3 (show DataW.trod enc Tryz.prog w base spare held k 3 [v2]=some y2 from g2);have u0:=CN Tryz.underlying25 hw (j:=0) (u:=22) (d:=y0.1) rfl rfl;have u1:=CN Tryz.underlying25 hw (j:=1) (u:=23) (d:=y1.1) rfl rfl;have t0:DataW.trod enc Tryz.prog w base spare held k 22 [v0]=some y0:=g0;have t1:DataW.trod enc Tryz.prog w base spare held k 23 [v1]=some y1:=g1;obtain⟨av,lv,cv,d0⟩:=Jd Tryz.underlying22 t0;obtain⟨ao,lo,cap,d1⟩:=Jd Tryz.underlying23 t1;subst d0;subst d1;obtain⟨l,n1,n2,n3,n4⟩:=TV t0;obtain⟨hs,s1,s2,s3,s4⟩:=adV t1 u1;simp only[AG,Dh] at c2;subst c2;subst s1;refine⟨l,hs,en,_,ao,cap,rfl,n2,⟨n3,?_⟩,s2,s3,s4,zM _ w2⟩;rw[n1];rcases n4 with e | ⟨el,sp,e1,e2⟩
   · omega
   · rw[e1] at u0;have hb:=(AW Tryz.underlying22 u0).1;rw[abj,e2] at hb;unfold reachBytes at hb;omega
end
open Go.RowKit Go.Deep
instance:Inhabited jW:=⟨agY⟩
instance:Inhabited mZ:=⟨Jz⟩
instance:Inhabited sI:=⟨Xw⟩
instance:Inhabited bT:=⟨Cy⟩
section
variable {H:Type} {enc:TypeId×Value->H} {w:World} {base:Nat} {spare:Nat->Bool} {held:Bool}
theorem Xr {α:Type} [Inhabited α] {ts te:TypeId} {sz:Nat} (p:List Value->α->Prop) (hu:Tryz.prog.underlying ts=some (.slice te)) (hc:Tryz.prog.cellsOf te=sz) (hb8:0<Tryz.prog.bytesOf te) (hs0:0<sz)
  (elem:∀(n:Nat) (cs:List Value) (x:DataW H×List MemPlace),cs.length=sz->DataW.trod enc Tryz.prog w base spare held n te cs=some x->AY te x.1->∃y,p cs y)
  {fuel:Nat} {a0:Option Addr} {len cap:Nat} {x:DataW H×List MemPlace} (h:DataW.trod enc Tryz.prog w base spare held fuel ts [.slice a0 len cap]=some x) (hw:AY ts x.1) :
  len<=cap/\len<=140737488351232/\∃l:List α,l.length=len/\(0<len->∃b off,a0=some (Ad b off)/\b<w.heap.size/\∀i,i<len->∃cs:List Value,cs.length=sz/\p cs (l.getD i default)/\∀j,j<sz->w.cell? (Ad b (off+i*sz+j))=cs[j]?)/\∀i,i<len->∃cs,p cs (l.getD i default):=by
 rcases open_slice hu h with⟨hcs,_⟩ | ⟨a,len',cap',m,n,D,Pl,hcs,hb,hl,hm,hmm,rfl,hx⟩
 · simp at hcs;obtain⟨rfl,rfl,rfl⟩:=hcs;exact⟨aI _,by omega,[],rfl,fun h=>absurd h (by omega),fun i hi=>absurd hi (by omega)⟩
 · simp at hcs;obtain⟨rfl,rfl,rfl⟩:=hcs;have hlm:len<=m:=by rw[hmm];split <;> omega
   obtain⟨hb1,hb2⟩:=AW hu hw;unfold reachBytes at hb1;have hlen:len<=140737488351232:=by
    simp only[ia,List.length_range] at hb1;have:=Nat.le_mul_of_pos_right (len+(m-len)) hb8;omega
   have each:∀i,i<len->∃y:α,∃cs:List Value,cs.length=sz/\p cs y/\∀j,j<sz->w.cell? (a.add (i*sz+j))=cs[j]?:=by
    intro i hi;obtain⟨cs',h1,h2⟩:=hx i (by omega);have hd:D i∈(List.range len).map D:=vH.2 ⟨i,uJ.2 hi,rfl⟩;rw[hc] at h1;obtain⟨_,hcl,hcell⟩:=Pd h1;obtain⟨y,hy⟩:=elem n cs' _ hcl h2 (hb2 _ hd);refine⟨y,cs',hcl,hy,fun j hj=>?_⟩;have:=hcell j (by omega);simp only[add_add] at this;exact this
   obtain⟨g,hg⟩:=choose_lt each;have hat:∀i,i<len->((List.range len).map g).getD i default=g i:=by
    intro i hi;simp[hi]
   refine⟨hl,hlen,(List.range len).map g,by simp,fun h0=>?_,fun i hi=>?_⟩
   · obtain⟨b,off,spot⟩:=a;obtain⟨cs,e1,e2,e3⟩:=hg 0 h0;have hc0:=e3 0 hs0;rw[lW (by omega)] at hc0;have hspot:spot=none:=by simpa [Addr.add] using Pb hc0
     subst hspot;rw[si] at hc0;refine⟨b,off,rfl,Me hc0,fun i hi=>?_⟩;rw[hat i hi];obtain⟨cs,e1,e2,e3⟩:=hg i hi;refine⟨cs,e1,e2,fun j hj=>?_⟩;have:=e3 j hj;rw[si,<- xL] at this;exact this
   · rw[hat i hi];obtain⟨cs,_,e2,_⟩:=hg i hi;exact⟨cs,e2⟩
theorem acE {fuel:Nat} {v:Value} {y:DataW H×List MemPlace} (h:DataW.trod enc Tryz.prog w base spare held fuel 3 [v]=some y):∃n:Int,v=I n/\cO n:=by
 obtain⟨n,c,_,wf⟩:=Dk Tryz.underlying3 h;simp only[AG,Dh] at c;exact⟨n,c,zM _ wf⟩
end
open Go.RowKit Go.Deep
theorem aeC:0<Tryz.prog.bytesOf 3:=oP (by kernel_rfl)
section
variable {H:Type} {enc:TypeId×Value->H} {w:World} {base:Nat} {spare:Nat->Bool} {held:Bool}
def agQ (cs:List Value) (y:Int):Prop:=cs=[I y]
theorem agP (n:Nat) (cs:List Value) (x:DataW H×List MemPlace) (hl:cs.length=1) (h:DataW.trod enc Tryz.prog w base spare held n 3 cs=some x) (hw:AY 3 x.1):∃y,agQ cs y:=by
 match cs,hl with
 | [v],_ =>
  obtain⟨m,rfl,_⟩:=acE h;exact⟨m,rfl⟩
theorem Xd {fuel:Nat} {a0:Option Addr} {len cap:Nat} {x:DataW H×List MemPlace} (h:DataW.trod enc Tryz.prog w base spare held fuel 48 [.slice a0 len cap]=some x) (hw:AY 48 x.1) :
  ∃l:List Int,l.length=len/\oV w a0 l/\l.length<=140737488351232/\l.length<=cap:=by
 obtain⟨h1,h2,l,h3,h4,h5⟩:=Xr agQ Tryz.underlying48 J3 aeC (by decide) agP h hw;subst h3;refine⟨l,rfl,fun h0=>?_,h2,h1⟩;obtain⟨b,off,e1,e2,e3⟩:=h4 h0;refine⟨b,off,e1,e2,fun i hi=>?_⟩;obtain⟨cs,_,rfl,q⟩:=e3 i hi;have:=q 0 (by decide);simpa using this
end
theorem aci {w:World} {ap:Option Addr} {l:List Int} (h:oV w ap l):0<l.length->∀b,ap=some b->b.block<w.heap.size:=fun h0 b hb=>by
 obtain⟨b',off,e,hlt,_⟩:=h h0;rw[e] at hb;injection hb with hb;subst hb;exact hlt
end Go.Proofs.YtlgoihmkgaaemaaGreat
