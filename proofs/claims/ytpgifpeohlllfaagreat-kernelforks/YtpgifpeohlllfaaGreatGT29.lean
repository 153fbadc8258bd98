import Derived.Test.YtpgifpeohlllfaaGreatGT28
set_option maxHeartbeats 20000000
set_option linter.unusedVariables false
set_option maxRecDepth 100000
set_option linter.unusedSimpArgs false
namespace Go.Proofs.YtpgifpeohlllfaaGreat
namespace KR
open Go.RowKit GK
open FW (ai aD)
open KW (aZ fh cK aI eB l8 kj)
theorem o9 (p:Int):∀(hs:List LM.Sh) (i:Nat),i<hs.length->(∀j,j<i->(LM.aY hs j).page≠p)->(LM.aY hs i).page=p->KM.bW hs p=some (LM.aY hs i)
 | s::r,0,_,_,h=>List.find?_cons_of_pos (decide_eq_true h)
 | s::r,i+1,hi,hn,h=>by
  have ih:=o9 p r i (Nat.lt_of_succ_lt_succ hi) (fun j hj=>hn (j+1) (by omega)) h;unfold KM.bW at ih ⊢;have hne:decide (s.page=p)=false:=decide_eq_false (hn 0 (by omega));rw[List.find?_cons,hne];exact ih
theorem J1 (p:Int):∀(hs:List LM.Sh),(∀j,j<hs.length->(LM.aY hs j).page≠p)->KM.bW hs p=none
 | [],_=>rfl
 | s::r,hn=>by
  have ih:=J1 p r (fun j hj=>hn (j+1) (by simpa using hj));unfold KM.bW at ih ⊢;have hne:decide (s.page=p)=false:=decide_eq_false (hn 0 (by simp));rw[List.find?_cons,hne];exact ih
def VX (hs:List LM.Sh) (p:Int):LM.Sh:=(KM.bW hs p).getD LM.MP
theorem vJ (hs:List LM.Sh) (ao:Option Addr) (cap:Nat) (p:Int) (w:World) (h:LM.jb w ao hs) (hn:M.bD hs.length) :
  Calls Tryz.prog 91 #[.slice ao hs.length cap,I p] w fun e w'=>e=.returned (.tuple #[.agg #[I (VX hs p).page,.string (VX hs p).data,.slice (VX hs p).ao (VX hs p).bg.length (VX hs p).cap],.bool (KM.bW hs p).isSome])/\Below w.heap.size w w':=by
 obtain⟨WA,di⟩:=ex (w.alloc (.cells #[I 0,.string ⟨#[]⟩,Nl] 50));have hb0:Below w.heap.size w WA:=by rw[di];exact(Below.refl _ _).alloc (Nat.le_refl _) _
 have rb:WA.heap[w.heap.size]?=some (.cells #[I 0,.string ⟨#[]⟩,Nl] 50 (0,0)):=by rw[di];exact B.new _ _ _
 have HH:Hid (∀i,i<hs.length->∃b off,ao=some (Ad b off)/\b≠w.heap.size/\WA.cell? (Ad b (off+i*3))=some (I (LM.aY hs i).page)/\WA.cell? (Ad b (off+i*3+1))=some (.string (LM.aY hs i).data)/\WA.cell? (Ad b (off+i*3+2))=some (.slice (LM.aY hs i).ao (LM.aY hs i).bg.length (LM.aY hs i).cap)):=fun i hi=>by
  obtain⟨b,off,e1,e2,e3⟩:=(h.below hb0) (by omega);obtain⟨d0,d1,d2,_⟩:=e3 i hi;obtain⟨b',off',e1',e2',_⟩:=h (by omega);rw[e1] at e1';injection e1' with e1';injection e1' with q1 _;exact⟨b,off,e1,by omega,d0,d1,d2⟩
 obtain⟨y0,y1,y2⟩:=B.c3 rb;have f0:=B.free rb 0;have f1:=B.free rb 1;have f2:=B.free rb 2;have vt:=ai rb;have eZ:=ai di;have bR:=ai hb0;have FV:Hid (∀(x:Value) (y:Value) (z:Value),(((WA.setCell (Ad w.heap.size 0) x).setCell (Ad w.heap.size 1) y).setCell (Ad w.heap.size 2) z).heap[w.heap.size]?=some (.cells #[x,y,z] 50 (0,0))/\Below w.heap.size w (((WA.setCell (Ad w.heap.size 0) x).setCell (Ad w.heap.size 1) y).setCell (Ad w.heap.size 2) z)):=fun x y z=>⟨B.set (B.set (B.set rb 0 x) 1 y) 2 z,Kp.below hb0 (GK.nC (D:=fun b=>b=w.heap.size) _ w.heap.size 0 1 2 x y z rfl) hb0.size (fun b e=>by omega)⟩
 have F8:Hid (∀i,i<hs.length->(∀j,j<i->(LM.aY hs j).page≠p)->(LM.aY hs i).page=p->KM.bW hs p=some (LM.aY hs i)):=fun i=>o9 p hs i
 have UN:Hid ((∀j,j<hs.length->(LM.aY hs j).page≠p)->KM.bW hs p=none):=J1 p hs;have hsl:hs.length<=140737488351232:=hn;unfold VX;obtain⟨o,ho⟩:=ex (KM.bW hs p);rw[<- ho] at F8 UN ⊢;clear hb0 rb di h hn ho;go_enter Tryz.func91,Tryz.ntmps91;go_upto_region 1 with fail;rw[<- eZ.o];go_wp2;go_loopw [6] (fun iv wq=>∃i:Nat,i<=hs.length/\iv=I (i:Int)/\wq=WA/\∀j,j<i->(LM.aY hs j).page≠p) (fun iv _=>hs.length-(intOf iv).toNat)
 case atStart=>exact⟨0,by omega,rfl,rfl,fun j hj=>absurd hj (Nat.not_lt_zero _)⟩
 case round =>
  obtain⟨i,hi,rfl,hwr,hno⟩:=hrel;subst hwr;have jc:=ai hno;clear hno;by_cases hlt:i<hs.length
  · have H6:(i:Int)<(hs.length:Int):=by omega
    obtain⟨b,off,hao,hbn,d0,d1,d2⟩:=HH.o i hlt;have DB:=ai (fun g=>F8.o i hlt jc.o g);have ju:Hid ((LM.aY hs i).page≠p->∀j,j<i+1->(LM.aY hs j).page≠p):=fun g j hj=>by
     by_cases e:j=i
     · rw[e];exact g
     · exact jc.o j (by omega)
    obtain⟨s,hs2⟩:=ex (LM.aY hs i);rw[<- hs2] at d0 d1 d2 DB ju;obtain⟨pg,dt,fx,ax,cx⟩:=s;simp only at d0 d1 d2 DB ju;subst hao;clear HH F8 UN hs2;by_cases g:pg=p
    · have e:=DB.o g;subst e;subst g;clear DB ju jc;go_wp2;obtain⟨q1,q2⟩:=FV.o (I pg) (.string dt) (.slice ax fx.length cx);obtain⟨y0,y1,y2⟩:=B.c3 q1;refine bodyPost_ret (v:=.tuple #[.agg #[I pg,.string dt,.slice ax fx.length cx],.bool true]) (by simp[results,Tryz.results91,go_sem,y0,y1,y2]) rfl ⟨rfl,q2⟩
    · have gb:(pg==p)=false:=by simpa using g
      have Dy:=ai (ju.o g);clear DB ju jc;go_wp2;go_roundw
      case rel=>exact⟨i+1,by omega,by go_num,by first | rfl | trivial,Dy.o⟩
      case measure=>simp[intOf];omega
  · obtain rfl:i=hs.length:=by omega
    have e:=UN.o jc.o;subst e;clear HH F8 UN jc;go_wp2;obtain⟨q1,q2⟩:=FV.o (I 0) (.string ⟨#[]⟩) Nl;obtain⟨y0,y1,y2⟩:=B.c3 q1;refine bodyPost_ret (v:=.tuple #[.agg #[I 0,.string ⟨#[]⟩,Nl],.bool false]) (by simp[results,Tryz.results91,go_sem,y0,y1,y2]) rfl ⟨rfl,q2⟩
theorem Ex (k:KM.Kn) (a:fh) (w:World) (hP:kj w a.aP k.aj) (hc:∀i,i<k.aj.length->AM.aW (KM.au k.aj i).aB=0) (hn:k.aj.length<=1000000) :
  Calls Tryz.prog 47 #[.agg (aI a k)] w fun e w'=>e=.returned (I (KM.room k.aj))/\Below w.heap.size w w':=by
 obtain⟨WA,di⟩:=ex (w.alloc (.cells (aI a k) 27));have hb0:Below w.heap.size w WA:=by rw[di];exact(Below.refl _ _).alloc (Nat.le_refl _) _
 have kb:WA.heap[w.heap.size]?=some (.cells (aI a k) 27 (0,0)):=by rw[di];exact B.new w _ _
 have oN:Hid (∀V,Below WA.heap.size WA V->V.cell? (Ad w.heap.size 3)=some (.slice a.aP k.aj.length a.cP)):=fun V hV=>B.cell (B.below kb hV (B.isLt kb)) 3 rfl
 have HH:Hid (∀V i,Below WA.heap.size WA V->i<k.aj.length->∃b off aa ca,a.aP=some (Ad b off)/\V.cell? (Ad b (off+i*3+1))=some (.slice aa (KM.au k.aj i).aB.length ca)/\Calls Tryz.prog 61 #[.slice aa (KM.au k.aj i).aB.length ca] V fun e w'=>e=.returned (I (AM.b7 (KM.au k.aj i).aB))/\Below V.heap.size V w'):=fun V i hV hi=>by
  obtain⟨b,off,e1,e2,e3⟩:=(hP.below (hb0.trans (hV.mono hb0.size))) (by omega);obtain⟨va,ap,cp,c0,c1,c2,c3,_⟩:=e3 i hi;have c3':=c3;obtain⟨aa,ca,rfl,_⟩:=c3;exact⟨b,off,aa,ca,e1,c1,AW.oC _ _ V c3' (hc i hi)⟩
 have vt:=ai (KW.qE k.aj);have xE:Hid (∀i,KM.fp k.aj (i+1)=KM.fp k.aj i+AM.b7 (KM.au k.aj i).aB):=fun i=>rfl
 have eZ:=ai di;have bR:=ai hb0;obtain⟨n0,hn0⟩:=ex k.aj.length;unfold KM.room;unfold aI at eZ ⊢;rw[<- hn0] at oN HH hn eZ ⊢;clear hb0 kb di hP hc hn0;go_enter Tryz.func47,Tryz.ntmps47;go_upto_region 1 with fail;rw[<- eZ.o];go_wp2;go_loopw [3,4] (fun sv iv wq=>∃i:Nat,i<=n0/\iv=I (i:Int)/\sv=I (KM.fp k.aj i)/\Below WA.heap.size WA wq) (fun _ iv _=>n0-(intOf iv).toNat)
 case atStart=>exact⟨0,by omega,rfl,rfl,Below.refl _ _⟩
 case round =>
  obtain⟨i,hi,rfl,rfl,hb⟩:=hrel;have HB:=ai hb;have c3:=oN.o _ hb;have Gg:=vt.o i;by_cases hlt:i<n0
  · have H6:(i:Int)<(n0:Int):=by omega
    obtain⟨b,off,aa,ca,hao,c1,hcl⟩:=HH.o _ i hb hlt;have hst:=xE.o i;have Zq:=KW.jS (KM.au k.aj i).aB;have A5:=ai hcl;obtain⟨T,hT⟩:=ex (AM.b7 (KM.au k.aj i).aB);obtain⟨R,hR⟩:=ex (KM.fp k.aj i);obtain⟨na,nZ⟩:=ex ((KM.au k.aj i).aB.length);rw[<- nZ] at c1 A5;rw[<- hT] at A5 hst Zq;rw[<- hR] at hst Gg ⊢;have HST:=ai hst;rw[hao] at c3;clear hcl hT hR nZ hst hb hao HH vt xE oN;go_wp2_with (go_at_call 61;refine A5.o.mono ?_;rintro e w1 ⟨rfl,hb1⟩;have bE:=ai (HB.o.trans (hb1.mono HB.o.size));clear hb1)
    go_roundw
    case rel=>exact⟨i+1,by omega,by go_num,by rw[HST.o],bE.o⟩
    case measure=>simp[intOf];omega
  · obtain rfl:i=n0:=by omega
    clear HH vt xE hb;go_wp2;go_ret;exact⟨rfl,bR.o.trans (HB.o.mono bR.o.size)⟩
def zc (d:Nat):Array Value:=madeCells #[.int .u8 0] d
theorem Wl:(Tryz.prog.info? 5).map (fun i=>(i.zero,i.size,i.bytes))=some (some (.int .u8 0),1,1):=by kernel_rfl
theorem mk_zero (V:World):(Instr.makeSlice 137 (I 16) (I 16)).run Tryz.prog V=.ok (.slice (some (Ad V.heap.size 0)) 16 16) (V.alloc (.cells (zc 16) 5)):=by
 obtain⟨i0,hi,hz0,hz1,hz2⟩:=info_parts Wl;have h:=run_make (P:=Tryz.prog) V 137 5 i0 (.int .u8 0) Tryz.underlying137 hi hz0 .i64 .i64 16 16 (by omega) (Int.le_refl _) (by rw[hz2];omega) (by omega);rw[hz1] at h;exact h
theorem TU (V:World):(convert 137 9 (.slice (some (Ad V.heap.size 0)) 16 16)).run Tryz.prog (V.alloc (.cells (zc 16) 5))=.ok (.string KM.pT) (V.alloc (.cells (zc 16) 5)):=by
 have e:KM.pT=strOfNums (List.replicate 16 0):=by kernel_rfl
 rw[e];refine run_convert_bytes_arg _ 137 5 Tryz.underlying137 Tryz.underlying5 _ 0 16 16 _ (by simp) ?_ 9 Tryz.underlying9;intro i hi;rw[Nat.zero_add];refine B.cell (B.new V (zc 16) _) i ?_;rw[List.getD_eq_getElem?_getD,List.getElem?_replicate,if_pos hi];unfold zc madeCells;simp[hi,Nat.mod_one]
theorem KT {w:World} {ao:Option Addr} {hs:List LM.Sh} {p:Int} {s:LM.Sh} (h:LM.jb w ao hs) (hf:LM.pH hs) (hr:LM.dC hs=true) (e:KM.bW hs p=some s):LM.oc w s.ao s.bg/\LM.DF s/\LM.bQ s=true:=by
 obtain⟨i,hi,e2⟩:=KM.fu LM.MP (List.mem_of_find?_eq_some e);have e3:LM.aY hs i=s:=e2;obtain⟨b,off,_,_,h3⟩:=h (by omega);have h4:LM.oc w (LM.aY hs i).ao (LM.aY hs i).bg:=(h3 i hi).2.2.2;rw[e3] at h4;have h5:=hf.2 i hi;have h6:=(LM.kH hs hs.length hr i hi).1;rw[e3] at h5 h6;exact⟨h4,h5,h6⟩
theorem Fu (k:KM.Kn) (a:fh) (g1 g2 g3:Int) (z:Bool) (p:Int) (w:World) (hH:LM.jb w a.aS k.ak) (hf:LM.pH k.ak) (hr:LM.dC k.ak=true) (hz:z=false->(KM.bW k.ak p).isSome=true) :
  Calls Tryz.prog 49 #[.agg (aI a k),.agg #[I g1,I g2,I g3,.bool z],I p] w fun e w'=>e=.returned (.string (KM.dY k.ak p z))/\Below w.heap.size w w':=by
 obtain⟨WA,di⟩:=ex ((w.alloc (.cells (aI a k) 27)).alloc (.cells #[I g1,I g2,I g3,.bool z] 47));have hb0:Below w.heap.size w WA:=by rw[di];exact((Below.refl _ _).alloc (Nat.le_refl _) _).alloc (by simp) _
 have kb:WA.heap[w.heap.size]?=some (.cells (aI a k) 27 (0,0)):=by rw[di];exact B.alloc (B.new w _ _) _
 have ab:WA.heap[w.heap.size+1]?=some (.cells #[I g1,I g2,I g3,.bool z] 47 (0,0)):=by
  have:=B.new (w.alloc (.cells (aI a k) 27)) #[I g1,I g2,I g3,.bool z] 47;rw[World.size_alloc] at this;rw[di];exact this
 have k0:WA.cell? (Ad w.heap.size 0)=some (.slice a.aS k.ak.length a.cS):=B.cell kb 0 rfl;have x3:WA.cell? (Ad (w.heap.size+1) 3)=some (.bool z):=B.cell ab 3 rfl;have eZ:=ai di;have bR:=ai hb0;cases z with
 | true =>
  have e1:=mk_zero;have e2:=TU;have ef:KM.dY k.ak p true=KM.pT:=rfl;rw[ef];unfold aI at eZ ⊢;clear hH hf hr hz hb0 kb ab di ef;go_enter Tryz.func49,Tryz.ntmps49;go_upto_region 1 with fail;rw[<- eZ.o];go_wp2;go_ret;exact⟨rfl,bR.o.alloc bR.o.size _⟩
 | false =>
  obtain⟨s,hs⟩:=Option.isSome_iff_exists.1 (hz rfl);have ef:KM.dY k.ak p false=LM.mQ s:=by
   unfold KM.dY KM.filled;rw[hs];rfl
  rw[ef];have DU:=ai (vJ k.ak a.aS a.cS p WA (hH.below hb0) hf.1);unfold VX at DU;rw[hs] at DU;have kY:Hid (∀V,Below WA.heap.size WA V->Calls Tryz.prog 92 #[.agg #[I s.page,.string s.data,.slice s.ao s.bg.length s.cap]] V fun e w'=>e=.returned (.string (LM.mQ s))/\Below V.heap.size V w'):=fun V hV=>by
   obtain⟨h1,h2,h3⟩:=KT (hH.below (hb0.trans (hV.mono hb0.size))) hf hr hs;exact LW.Iq s V h1 h2 h3
  obtain⟨D,hD⟩:=ex (LM.mQ s);rw[<- hD] at kY ⊢;obtain⟨pg,dt,fx,ax,cx⟩:=s;have ae9:Hid (Calls Tryz.prog 91 #[.slice a.aS k.ak.length a.cS,I p] WA fun e w'=>e=.returned (.tuple #[.agg #[I pg,.string dt,.slice ax fx.length cx],.bool true])/\Below WA.heap.size WA w'):=DU.o;simp only at kY;unfold aI at eZ ⊢;clear hH hf hr hz hb0 kb ab di ef DU hs hD;go_enter Tryz.func49,Tryz.ntmps49;go_upto_region 1 with fail;rw[<- eZ.o];go_wp2_with (first
   | (go_at_call 91;refine ae9.o.mono ?_;rintro e w1 ⟨rfl,hb1⟩;have bE:=ai hb1;clear hb1)
   | (go_at_call 92;refine(kY.o _ (bE.o.alloc bE.o.size _)).mono ?_;rintro e w2 ⟨rfl,hb2⟩;have cM:=ai ((bE.o.alloc bE.o.size _).trans (hb2.mono (bE.o.alloc bE.o.size _).size));clear hb2))
  go_ret;exact⟨rfl,bR.o.trans (cM.o.mono bR.o.size)⟩
structure Nm (w:World) (k0:Array Value) (x:KM.Na) (W:World):Prop where
 kb:W.heap[w.heap.size]?=some (.cells k0 27 (0,0))
 rb:W.heap[w.heap.size+1]?=some (.cells #[I 0,I 0,I 0,.bool false] 47 (0,0))
 ab:W.heap[w.heap.size+2]?=some (.cells #[I x.qz.page,I x.qz.aJ,I x.qz.bV,.bool x.qz.zero] 47 (0,0))
 Ak:Below w.heap.size w W
theorem Nm.below {w W V:World} {k0:Array Value} {x:KM.Na} (h:Nm w k0 x W) (hb:Below W.heap.size W V):Nm w k0 x V:=⟨B.below h.kb hb (B.isLt h.kb),B.below h.rb hb (B.isLt h.rb),B.below h.ab hb (B.isLt h.ab),h.Ak.trans (hb.mono h.Ak.size)⟩
theorem Nm.lay {w W V:World} {k0:Array Value} {x y:KM.Na} (h:Nm w k0 x W) (hV:V=(((W.setCell (Ad (w.heap.size+2) 0) (I y.qz.page)).setCell (Ad (w.heap.size+2) 1) (I y.qz.aJ)).setCell (Ad (w.heap.size+2) 2) (I y.qz.bV)).setCell (Ad (w.heap.size+2) 3) (.bool y.qz.zero)):Nm w k0 y V:=by
 have kp:Kp (fun b=>b=w.heap.size+2) W V:=by
  rw[hV];have k:∀(A:World) (j:Nat) (v:Value),Kp (fun b=>b=w.heap.size+2) A (A.setCell (Ad (w.heap.size+2) j) v):=fun A j v=>Kp.set _ A (Ad (w.heap.size+2) j) v rfl
  exact(((k _ _ _).trans (k _ _ _) (fun _ _ g=>g)).trans (k _ _ _) (fun _ _ g=>g)).trans (k _ _ _) (fun _ _ g=>g)
 exact⟨kp.keep h.kb (by omega),kp.keep h.rb (by omega),by rw[hV];exact B.set (B.set (B.set (B.set h.ab 0 _) 1 _) 2 _) 3 _,Kp.below h.Ak kp h.Ak.size (fun b e=>by omega)⟩
theorem Hf (k:KM.Kn) (a:fh) (kd at_:Int) (w:World) (hP:kj w a.aP k.aj) (hc:∀i,i<k.aj.length->AM.aW (KM.au k.aj i).aB=0) (hn:k.aj.length<=4) (he:∀i,i<k.aj.length->(KM.au k.aj i).aA.length<=65025) :
  Calls Tryz.prog 48 #[.agg (aI a k),I kd,I at_] w fun e w'=>e=.returned (.tuple #[I (KM.dJ k.aj kd at_).n,I (KM.dJ k.aj kd at_).page,.bool (KM.dJ k.aj kd at_).fine,.agg #[I (KM.dJ k.aj kd at_).qz.page,I (KM.dJ k.aj kd at_).qz.aJ,I (KM.dJ k.aj kd at_).qz.bV,.bool (KM.dJ k.aj kd at_).qz.zero]])/\Below w.heap.size w w':=by
 obtain⟨n0,hn0⟩:=ex k.aj.length;obtain⟨WA,di⟩:=ex (((w.alloc (.cells #[.slice a.aS k.ak.length a.cS,.slice a.aF k.frames.length a.cF,.slice a.aL k.slots.length a.cL,.slice a.aP n0 a.cP,I k.hand] 27)).alloc (.cells #[I 0,I 0,I 0,.bool false] 47)).alloc (.cells #[I 0,I 0,I 0,.bool false] 47));have hb0:Below w.heap.size w WA:=by rw[di];exact(((Below.refl _ _).alloc (Nat.le_refl _) _).alloc (by simp) _).alloc (by simp;omega) _
 have HN0:Hid (Nm w #[.slice a.aS k.ak.length a.cS,.slice a.aF k.frames.length a.cF,.slice a.aL k.slots.length a.cL,.slice a.aP n0 a.cP,I k.hand] KM.na0 WA):=by
  rw[di];refine⟨B.alloc (B.alloc (B.new w _ _) _) _,B.alloc ?_ _,?_,by rw[<- di];exact hb0⟩
  · have:=B.new (w.alloc (.cells #[.slice a.aS k.ak.length a.cS,.slice a.aF k.frames.length a.cF,.slice a.aL k.slots.length a.cL,.slice a.aP n0 a.cP,I k.hand] 27)) #[I 0,I 0,I 0,.bool false] 47;rw[World.size_alloc] at this;exact this
  · have:=B.new ((w.alloc (.cells #[.slice a.aS k.ak.length a.cS,.slice a.aF k.frames.length a.cF,.slice a.aL k.slots.length a.cL,.slice a.aP n0 a.cP,I k.hand] 27)).alloc (.cells #[I 0,I 0,I 0,.bool false] 47)) #[I 0,I 0,I 0,.bool false] 47;rw[World.size_alloc,World.size_alloc] at this;exact this
 have wW:Hid (∀j,j<n0->∃b off aa ca ap cp,a.aP=some (Ad b off)/\(∀V,Below w.heap.size w V->V.cell? (Ad b (off+j*3+1))=some (.slice aa (KM.au k.aj j).aB.length ca)/\V.cell? (Ad b (off+j*3+2))=some (.slice ap (KM.au k.aj j).aA.length cp)/\∀m,m<(KM.au k.aj j).aA.length->∃eb eo,ap=some (Ad eb eo)/\V.cell? (Ad eb (eo+m*3))=some (I (KM.aM (KM.au k.aj j).aA m).page)/\V.cell? (Ad eb (eo+m*3+1))=some (I (KM.aM (KM.au k.aj j).aA m).kind)/\V.cell? (Ad eb (eo+m*3+2))=some (I (KM.aM (KM.au k.aj j).aA m).loc))/\∀U p,Below w.heap.size w U->Calls Tryz.prog 31 #[.slice aa (KM.au k.aj j).aB.length ca,I p] U fun e w'=>e=.returned (.tuple #[.agg #[I (AM.aR (KM.au k.aj j).aB p).1.page,I (AM.aR (KM.au k.aj j).aB p).1.aJ,I (AM.aR (KM.au k.aj j).aB p).1.bV,.bool (AM.aR (KM.au k.aj j).aB p).1.zero],.bool (AM.aR (KM.au k.aj j).aB p).2])/\Below U.heap.size U w'):=fun j hj=>by
  have hj:j<k.aj.length:=by omega
  obtain⟨b,off,e1,e2,e3⟩:=hP (by omega);obtain⟨va,ap,cp,c0,c1,c2,c3,c4,_⟩:=e3 j hj;have c3':=c3;obtain⟨aa,ca,rfl,_⟩:=c3;refine⟨b,off,aa,ca,ap,cp,e1,fun V hV=>⟨(hV.cell (p:=(Ad b (off+j*3+1))) e2).trans c1,(hV.cell (p:=(Ad b (off+j*3+2))) e2).trans c2,fun m hm=>?_⟩,fun U p hU=>AW.zV _ _ p U (c3'.below hU) (hc j hj)⟩;obtain⟨eb,eo,g1,_,g3⟩:=(c4.below hV) (by omega);have z0:=g3 m hm 0 (by omega);rw[Nat.add_zero] at z0;exact⟨eb,eo,g1,z0,g3 m hm 1 (by omega),g3 m hm 2 (by omega)⟩
 have VE:Hid (∀j,KM.yR k.aj kd at_ (j+1)=KM.mM (KM.au k.aj j).aB (KM.au k.aj j).aA kd at_ (KM.yR k.aj kd at_ j) (KM.au k.aj j).aA.length):=fun j=>rfl
 have HNE:Hid (∀ar es x m,KM.mM ar es kd at_ x (m+1)=KM.Bw ar kd at_ (KM.mM ar es kd at_ x m) (KM.aM es m)):=fun ar es x m=>rfl
 have HEL:Hid (∀j,j<n0->(KM.au k.aj j).aA.length<=65025):=fun j hj=>he j (by omega)
 have eZ:=ai di;unfold KM.dJ;rw[<- hn0] at hn;unfold aI;rw[<- hn0];clear hP hc he hb0 di hn0;obtain⟨C0,hC0⟩:∃C0:Array Value,C0=#[.slice a.aS k.ak.length a.cS,.slice a.aF k.frames.length a.cF,.slice a.aL k.slots.length a.cL,.slice a.aP n0 a.cP,I k.hand]:=⟨_,rfl⟩;have oN:Hid (∀(V:World) x,Nm w C0 x V->V.cell? (Ad w.heap.size 3)=some (.slice a.aP n0 a.cP)):=fun V x h=>by rw[hC0] at h;exact B.cell h.kb 3 rfl
 rw[<- hC0] at HN0;clear hC0;go_enter Tryz.func48,Tryz.ntmps48;go_upto_region 3 with fail;rw[<- eZ.o];go_wp2;go_loopw [10,11,12,14] (fun v1 v2 v3 iv wq=>∃j:Nat,∃x:KM.Na,j<=n0/\iv=I (j:Int)/\x=KM.yR k.aj kd at_ j/\v1=I x.n/\v2=I x.page/\v3=.bool x.fine/\(0<=x.n/\x.n<=65025*j)/\Nm w C0 x wq) (fun _ _ _ iv _=>n0-(intOf iv).toNat)
 case atStart=>exact⟨0,KM.na0,by omega,rfl,rfl,rfl,rfl,rfl,by unfold KM.na0;decide,HN0.o⟩
 case round =>
  obtain⟨j,x,hj,rfl,hx,rfl,rfl,rfl,hxn,pO⟩:=hrel;have RZ:=ai pO;have HX:=ai hx;have c3:=oN.o _ _ pO;by_cases hlt:j<n0
  · have DJ:(j:Int)<(n0:Int):=by omega
    obtain⟨b,off,aa,ca,ap,cp,hao,hen,har⟩:=wW.o j hlt;have hel:=HEL.o j hlt;have HST:=ai (VE.o j);rw[<- HX.o] at HST;obtain⟨es,hes⟩:=ex ((KM.au k.aj j).aA);obtain⟨iu,aak⟩:=ex ((KM.au k.aj j).aB);rw[<- hes] at hen hel HST;rw[<- aak] at hen har HST;rw[hao] at c3 oN;have iy:=ai hen;have Yj:=ai har;have Dy:=ai (HNE.o iu es x);have HZ:Hid (KM.mM iu es kd at_ x 0=x):=rfl;clear hx pO hao hen har hes aak wW VE HEL HN0 HNE HX;go_wp2;go_loopw [10,11,12,15] (fun v1 v2 v3 iv wq=>∃m:Nat,∃y:KM.Na,m<=es.length/\iv=I (m:Int)/\y=KM.mM iu es kd at_ x m/\v1=I y.n/\v2=I y.page/\v3=.bool y.fine/\(0<=y.n/\y.n<=65025*j+m)/\Nm w C0 y wq) (fun _ _ _ iv _=>es.length-(intOf iv).toNat)
    case atStart=>exact⟨0,x,by omega,rfl,HZ.o.symm,rfl,rfl,rfl,by omega,RZ.o⟩
    case round =>
     obtain⟨m,y,hm,rfl,hy,rfl,rfl,rfl,hyn,pO⟩:=hrel;have HY:=ai hy;have HNY:=ai pO;have c3:=oN.o _ _ pO;obtain⟨c1,c2,hee⟩:=iy.o _ pO.Ak;clear HZ RZ hxn hy;by_cases Tx:m<es.length
     · have Yv:(m:Int)<(es.length:Int):=by omega
       obtain⟨eb,eo,hap,z0,z1,z2⟩:=hee m Tx;have iM:=ai (Dy.o m);rw[<- HY.o] at iM;obtain⟨en,Ps⟩:=ex (KM.aM es m);rw[<- Ps] at z0 z1 z2 iM;obtain⟨pg,kx,lx⟩:=en;simp only at z0 z1 z2;subst hap;have ni:=ai (fun U hU=>Yj.o U pg hU);have Sm:=ai pO.Ak;clear hee Ps iy Yj oN Dy HY pO;obtain⟨W1,hW1⟩:=ex (wr.alloc (.cells #[I pg,I kx,I lx] 45));have hb1:Below wr.heap.size wr W1:=by rw[hW1];exact(Below.refl _ _).alloc (Nat.le_refl _) _
       have Kl:W1.heap[wr.heap.size]?=some (.cells #[I pg,I kx,I lx] 45 (0,0)):=by rw[hW1];exact B.new _ _ _
       have xU:=ai (HNY.o.below hb1);have t1:∀{q:Nat} {o:Nat} {u:Value},wr.cell? (Ad q o)=some u->W1.cell? (Ad q o)=some u:=fun {q o u} h=>(hb1.cell (p:=(Ad q o)) (World.block_lt_of_cell? wr _ h)).trans h
       have d3:=t1 c3;have d1:=t1 c1;obtain⟨x0,x1,x2⟩:=B.c3 Kl;have I5:=ai Kl;have uA:=ai hW1;clear hW1 hb1 t1 Kl;by_cases hk:kx=kd/\lx=at_
       · obtain⟨rfl,rfl⟩:=hk;have O7:KM.mM iu es kx lx x (m+1)=KM.mK y pg (AM.aR iu pg).1:=by
          rw[iM.o];unfold KM.Bw;rw[if_pos ⟨rfl,rfl⟩]
         have xD:=ai O7;clear O7;obtain⟨F,hF⟩:=ex (AM.aR iu pg);rw[<- hF] at xD ni;obtain⟨⟨g1,g2,g3,g4⟩,gf⟩:=F;simp only at ni xD;clear iM hF;go_upto_region 10 with fail;rw[<- uA.o];go_upto_region 11 with fail;clear c1 c2 c3 z0 z1 z2;have je:=ai (xU.o.below (Below.refl W1.heap.size W1).drew).Ak;have pL:=ai (xU.o.below ((Below.refl W1.heap.size W1).alloc (Nat.le_refl _) (.cells #[I 0,I 0,I 0,.bool false] 47)).drew).Ak;have MG:=ai (Below.refl W1.heap.size W1).drew;have Cv:=ai ((Below.refl W1.heap.size W1).alloc (Nat.le_refl _) (.cells #[I 0,I 0,I 0,.bool false] 47)).drew;obtain⟨xb,DG⟩:=ex wr.heap.size;rw[<- DG] at I5 x0 x1 x2 ⊢;clear DG;have x0b:(W1.alloc (.cells #[I 0,I 0,I 0,.bool false] 47)).cell? (Ad xb 0)=some (I pg):=B.cell (B.alloc I5.o _) 0 rfl;have tb:∀{q:Nat} {o:Nat} {u:Value},W1.cell? (Ad q o)=some u->(W1.alloc (.cells #[I 0,I 0,I 0,.bool false] 47)).cell? (Ad q o)=some u:=fun {q o u} h=>(((Below.refl W1.heap.size W1).alloc (Nat.le_refl _) _).cell (p:=(Ad q o)) (World.block_lt_of_cell? W1 _ h)).trans h
         have d3b:=tb d3;have d1b:=tb d1;clear tb;have HNW:Hid (((W1.alloc (.cells #[I 0,I 0,I 0,.bool false] 47)).drew).heap[W1.heap.size]?=some (.cells #[I 0,I 0,I 0,.bool false] 47 (0,0))):=B.new W1 #[I 0,I 0,I 0,.bool false] 47;go_cut [17,18] (fun x17 x18 wx=>∃g,x17=.pointer (some (Ad g 0))/\x18=.bool gf/\wx.heap[g]?=some (.cells #[I g1,I g2,I g3,.bool g4] 47 (0,0))/\Below W1.heap.size W1 wx)
         case first =>
          go_region_law (go_simp;go_at_call 31;first | (refine(ni.o _ je.o).mono ?_;rintro e w1 ⟨rfl,hb1⟩;have bE:=ai (MG.o.trans (hb1.mono MG.o.size));clear hb1;go_simp) | (refine(ni.o _ pL.o).mono ?_;rintro e w1 ⟨rfl,hb1⟩;have bE:=ai (Cv.o.trans (hb1.mono Cv.o.size));have hz:=B.below HNW.o hb1 (B.isLt HNW.o);have HZZ:=ai hz;obtain⟨k0,k1,k2,k3⟩:=B.c4 hz;have kf:=B.free hz;clear hz hb1;go_simp))
          all_goals
           go_wp2_with fail
           go_meet
           case rel=>exact⟨_,rfl,rfl,by first | exact B.set (B.set (B.set (B.set HZZ.o 0 _) 1 _) 2 _) 3 _ | exact B.new w1 _ _,by first | exact bE.o.alloc bE.o.size _ | exact(((bE.o.setCell (p:=(Ad W1.heap.size 0)) (Nat.le_refl _) _).setCell (p:=(Ad W1.heap.size 1)) (Nat.le_refl _) _).setCell (p:=(Ad W1.heap.size 2)) (Nat.le_refl _) _).setCell (p:=(Ad W1.heap.size 3)) (Nat.le_refl _) _⟩
         case rest =>
          obtain⟨g,rfl,rfl,hgb,hbc⟩:=hcut;have hnc:=xU.o.below hbc;obtain⟨x0,x1,x2⟩:=B.c3 (B.below I5.o hbc (B.isLt I5.o));obtain⟨y0,y1,y2,y3⟩:=B.c4 hgb;obtain⟨v0,v1,v2,v3⟩:=B.c4 hnc.ab;have f0:=B.free hnc.ab 0;have f1:=B.free hnc.ab 1;have f2:=B.free hnc.ab 2;have f3:=B.free hnc.ab 3;have Nc:Hid (∀V,V=(((wc.setCell (Ad (w.heap.size+2) 0) (I g1)).setCell (Ad (w.heap.size+2) 1) (I g2)).setCell (Ad (w.heap.size+2) 2) (I g3)).setCell (Ad (w.heap.size+2) 3) (.bool g4)->Nm w C0 (KM.mK y pg ⟨g1,g2,g3,g4⟩) V):=fun V hV=>hnc.lay hV
          obtain⟨yn,yp,yf,⟨q1,q2,q3,q4⟩⟩:=y;simp only at v0 v1 v2 v3 hyn;clear hgb hbc hnc je pL MG Cv HNW ni xU I5 HNY Sm;rcases(show yf=false∨(yf=true/\yn=0)∨(yf=true/\¬yn=0/\¬pg=yp)∨(yf=true/\¬yn=0/\pg=yp) by cases yf <;> simp <;> omega) with h1 | ⟨h1,h2⟩ | ⟨h1,h2,h3⟩ | ⟨h1,h2,h3⟩
          · subst h1;go_wp2;go_roundw
            case rel=>exact⟨m+1,KM.mK ⟨yn,yp,false,⟨q1,q2,q3,q4⟩⟩ pg ⟨g1,g2,g3,g4⟩,by omega,by go_num,xD.o.symm,rfl,rfl,rfl,by show 0<=yn+1/\yn+1<=65025*(j:Int)+((m+1:Nat):Int);omega,Nc.o _ rfl⟩
            case measure=>simp[intOf];omega
          · subst h1;subst h2;go_wp2;go_roundw
            case rel=>exact⟨m+1,KM.mK ⟨0,yp,true,⟨q1,q2,q3,q4⟩⟩ pg ⟨g1,g2,g3,g4⟩,by omega,by go_num,xD.o.symm,rfl,rfl,rfl,by show 0<=(0:Int)+1/\(0:Int)+1<=65025*(j:Int)+((m+1:Nat):Int);omega,Nc.o _ rfl⟩
            case measure=>simp[intOf];omega
          · subst h1;have b2:(yn==0)=false:=by simpa using h2
            have b3:(pg==yp)=false:=by simpa using h3
            go_wp2;go_roundw
            case rel=>exact⟨m+1,KM.mK ⟨yn,yp,true,⟨q1,q2,q3,q4⟩⟩ pg ⟨g1,g2,g3,g4⟩,by omega,by go_num,xD.o.symm,rfl,rfl,by unfold KM.mK;simp[h2,h3],by show 0<=yn+1/\yn+1<=65025*(j:Int)+((m+1:Nat):Int);omega,Nc.o _ rfl⟩
            case measure=>simp[intOf];omega
          · subst h1;subst h3;have b2:(yn==0)=false:=by simpa using h2
            go_wp2;go_roundw
            case rel=>exact⟨m+1,KM.mK ⟨yn,pg,true,⟨q1,q2,q3,q4⟩⟩ pg ⟨g1,g2,g3,g4⟩,by omega,by go_num,xD.o.symm,rfl,rfl,by unfold KM.mK;simp[h2],by show 0<=yn+1/\yn+1<=65025*(j:Int)+((m+1:Nat):Int);omega,Nc.o _ rfl⟩
            case measure=>simp[intOf];omega
       · have O7:KM.mM iu es kd at_ x (m+1)=y:=by
          rw[iM.o];unfold KM.Bw;rw[if_neg hk]
         have xD:=ai O7;clear iM ni O7;rcases(show ¬kx=kd∨(kx=kd/\¬lx=at_) by omega) with h1 | ⟨h1,h2⟩
         · have b1:(kx != kd)=true:=by simpa using h1
           go_upto_region 10 with fail;rw[<- uA.o];go_wp2;go_roundw
           case rel=>exact⟨m+1,y,by omega,by go_num,xD.o.symm,rfl,rfl,rfl,by omega,xU.o⟩
           case measure=>simp[intOf];omega
         · subst h1;have b1:(kx != kx)=false:=by simp
           have b2:(lx != at_)=true:=by simpa using h2
           go_upto_region 10 with fail;rw[<- uA.o];go_wp2;go_roundw
           case rel=>exact⟨m+1,y,by omega,by go_num,xD.o.symm,rfl,rfl,rfl,by omega,xU.o⟩
           case measure=>simp[intOf];omega
     · obtain rfl:m=es.length:=by omega
       have HEQ:Hid (y=KM.yR k.aj kd at_ (j+1)):=HY.o.trans HST.o.symm;clear iy Yj Dy hee;go_wp2;go_roundw
       case rel=>exact⟨j+1,y,by omega,by go_num,HEQ.o,rfl,rfl,rfl,by omega,HNY.o⟩
       case measure=>simp[intOf];omega
  · obtain rfl:j=n0:=by omega
    have AH:=pO.rb;obtain⟨y0,y1,y2,y3⟩:=B.c4 pO.ab;obtain⟨v0,v1,v2,v3⟩:=B.c4 AH;have f0:=B.free AH 0;have f1:=B.free AH 1;have f2:=B.free AH 2;have f3:=B.free AH 3;have Sm:=ai pO.Ak;have F8:Hid (∀p q r s:Value,((((wr.setCell (Ad (w.heap.size+1) 0) p).setCell (Ad (w.heap.size+1) 1) q).setCell (Ad (w.heap.size+1) 2) r).setCell (Ad (w.heap.size+1) 3) s).heap[w.heap.size+1]?=some (.cells #[p,q,r,s] 47 (0,0))/\Below w.heap.size w ((((wr.setCell (Ad (w.heap.size+1) 0) p).setCell (Ad (w.heap.size+1) 1) q).setCell (Ad (w.heap.size+1) 2) r).setCell (Ad (w.heap.size+1) 3) s)):=fun p q r s=>⟨B.set (B.set (B.set (B.set AH 0 p) 1 q) 2 r) 3 s,by
     have hb:=pO.Ak;exact(((hb.setCell (p:=(Ad (w.heap.size+1) 0)) (Nat.le_succ _) _).setCell (p:=(Ad (w.heap.size+1) 1)) (Nat.le_succ _) _).setCell (p:=(Ad (w.heap.size+1) 2)) (Nat.le_succ _) _).setCell (p:=(Ad (w.heap.size+1) 3)) (Nat.le_succ _) _⟩
    obtain⟨xn,xp,xf,⟨q1,q2,q3,q4⟩⟩:=x;simp only at y0 y1 y2 y3;clear hx pO AH wW VE HEL HN0 HNE RZ hxn;go_upto_region 16 with fail;go_region;go_wp2;obtain⟨r1,r2⟩:=F8.o (I q1) (I q2) (I q3) (.bool q4);obtain⟨y0,y1,y2,y3⟩:=B.c4 (B.below r1 (Below.refl _ _).drew (B.isLt r1));refine bodyPost_ret (v:=.tuple #[I xn,I xp,.bool xf,.agg #[I q1,I q2,I q3,.bool q4]]) (by simp[results,Tryz.results48,go_sem,y0,y1,y2,y3]) rfl ⟨by rw[<- HX.o],r2.drew⟩
end KR
namespace AW
open Go.RowKit
theorem FL (F:Nat->AM.St) (hF:AM.uo F) (w:World) :
  Calls Tryz.prog 128 #[.agg (AM.gp (fun n=>AM.enc (F n)))] w fun e w'=>∃v,e=.returned v/\Own w.heap.size w' v (AM.eO F)/\Below w.heap.size w w':=by
 have HF:Hid (AM.uo F):=hF;clear hF;obtain⟨C,hC⟩:=ex (AM.gp (fun n=>AM.enc (F n)));have hCg:Hid (∀n,n<256->C[n]?=some (I (AM.enc (F n)))):=by show ∀n,_;rw[hC];exact fun n hn=>AM.zQ _ n hn
 rw[<- hC];clear hC;obtain⟨i0,hi,hz0,hz1,hz2⟩:=info_parts OZ;have HX:Hid ((w.alloc (.cells C 177)).heap[w.heap.size]?=some (.cells C 177 (0,0))):=B.new w C 177;have bR:Hid (Below w.heap.size w (w.alloc (.cells C 177))):=(Below.refl _ _).alloc (Nat.le_refl _) _;go_enter Tryz.func128,Tryz.ntmps128;go_wp2;go_loopw [3,4] (fun v i wr=>∃k:Nat,1<=k/\k<=256/\i=I k/\wr.ownsRow (w.heap.size+1) 47 4 v (AM.bh F k).length (AM.bk (AM.bh F k))/\wr.heap[w.heap.size]?=some (.cells C 177 (0,0))/\Below w.heap.size w wr) (fun _ i _=>256-(intOf i).toNat)
 case atStart =>
  have e:AM.bh F 1=[]:=by simp only[AM.bh];rw[if_pos HF.o.zero]
  refine⟨1,by omega,by omega,rfl,?_,HX.o,bR.o⟩;rw[e];exact World.ownsRow_nil _ _ _ _
 case round =>
  obtain⟨k,hk1,hk,rfl,hown,hx,hb⟩:=hrel;have HO:Hid (wr.ownsRow (w.heap.size+1) 47 4 u3 (AM.bh F k).length (AM.bk (AM.bh F k))):=hown;have HXr:Hid (wr.heap[w.heap.size]?=some (.cells C 177 (0,0))):=hx;have HB:Hid (Below w.heap.size w wr):=hb;have hsz:w.heap.size<wr.heap.size:=B.isLt hx;by_cases hlt:k<256
  · have l0:=B.cell hx k (hCg.out k hlt);have l1:=B.cell hx (k-1) (hCg.out (k-1) (by omega));have wj:(k:Int)<=255:=by omega
    have akc:(1:Int)<=(k:Int):=by omega
    have hkb:(k:Int)<256:=by omega
    clear hown hx hb;have hlast:AM.eK F k=F (k-1):=by
     cases k with
     | zero=>omega
     | succ k=>rfl
    have hpk:=HF.o.bV k;have hpl:=HF.o.bV (k-1);obtain⟨s,hs⟩:=ex (F k);obtain⟨t,ht⟩:=ex (AM.eK F k);rw[<- hlast,<- ht] at l1 hpl;rw[<- hs] at l0 hpk;have HS:Hid (s=F k):=hs;have HT:Hid (t=AM.eK F k):=ht;clear hs ht hlast;by_cases hm:s.m=true
    · have hen:=AM.Qd s hpk hm;have hinj:=AM.TT s t hpk hpl hm;obtain⟨x,hx⟩:=ex (AM.enc s);obtain⟨y,hy⟩:=ex (AM.enc t);rw[<- hx] at l0 hen hinj;rw[<- hy] at l1 hinj;obtain⟨hp1,hp2,Pb,hp4⟩:=hen;have HP1:Hid ((x-1)%8/2=s.p):=hp1;have s8:Hid (decide (8<=x-1)=s.z):=hp2;have HI:Hid (y=x↔AM.ra s t=true):=hinj;have hx0:(x==0)=false:=beq_eq_false_iff_ne.2 (by omega);clear hx hy hp1 hp2 hinj hpk hpl;by_cases hyx:y=x
      · have he:AM.ra s t=true:=HI.o.1 hyx;have adx:(y==x)=true:=by simp[hyx]
        have HG:Hid (AM.bh F (k+1)=AM.zT (AM.bh F k)):=by show _=_;simp only[AM.bh];rw[<- HS.o,<- HT.o,hm,he];rfl
        have hpos:=AM.ql F k (by rw[<- HT.o,<- AM.CE s t he];exact hm);have hlen:=AM.kN F k;have Gh:=AM.o7 F k ((AM.bh F k).length-1) (by omega);obtain⟨G,hG⟩:=ex (AM.bh F k);rw[<- hG] at HO HG hpos hlen Gh;clear hG he hm hyx;rcases HO.o.2 with⟨_,h0⟩ | ⟨g,cap,cur,hv,hbg,hg,hnc,hcm,hcs,htake⟩
        · omega
        · have oh:=HO.o;rw[hv] at oh;have p1:wr.cell? ⟨g,(G.length-1)*4+1,none⟩=some (I (AM.at_ G (G.length-1)).aJ):=by
           rw[oh.cellAt _ (by omega),AM.fC G _ 1 (by omega) (by omega)];rfl
          have pf:=oh.frozenAt;have HOv:Hid (wr.ownsRow (w.heap.size+1) 47 4 (.slice (some (Ad g 0)) G.length cap) G.length (AM.bk G)):=oh;have hgl:g<wr.heap.size:=B.isLt hg;rw[hv];clear HO oh hv hg htake hcs;obtain⟨pp,xw⟩:=ex ((AM.at_ G (G.length-1)).aJ);rw[<- xw] at p1 Gh;have HP:Hid (pp=(AM.at_ G (G.length-1)).aJ):=xw;clear xw;have hG1:(1:Int)<=(G.length:Int):=by omega
          have hG2:(G.length:Int)<=256:=by omega
          go_wp2
          go_quiet (fail)
          obtain⟨V,hV⟩:∃V:World,V=wr.drewN nq:=⟨_,rfl⟩;rw[<- hV];have p1V:V.cell? ⟨g,(G.length-1)*4+1,none⟩=some (I pp):=by rw[hV];exact p1
          have pfV:∀j,V.frozen? (Ad g j)=false:=by rw[hV];exact pf
          have HXV:Hid (V.heap[w.heap.size]?=some (.cells C 177 (0,0))):=by show _=_;rw[hV];exact HXr.o
          have XD:Hid (V.ownsRow (w.heap.size+1) 47 4 (.slice (some (Ad g 0)) G.length cap) G.length (AM.bk G)):=by show World.ownsRow _ _ _ _ _ _ _;rw[hV];exact HOv.o
          have VJ:Hid (Below w.heap.size w V):=by show Below _ _ _;rw[hV];exact Go.below_drewN HB.o _
          clear hV p1 pf l0 l1 HXr HOv HB;go_wp2;go_roundw
          case rel =>
           have ho:=(XD.o.stored ((G.length-1)*4+1) (I (pp+1))).1;have e:(AM.bk G).set ((G.length-1)*4+1) (I (pp+1))=AM.bk (AM.zT G):=by
            rw[HP.o];exact(AM.gX G (G.length-1) _ (by omega)).symm
           rw[e] at ho;refine⟨k+1,by omega,by omega,by go_num,?_,B.other HXV.o _ _ _ (by omega),VJ.o.setCell (by simp;omega) _⟩;rw[HG.o,AM.jO];exact ho
          case measure=>simp[intOf];omega
      · have he:AM.ra s t=false:=by
         cases e:AM.ra s t
         · rfl
         · exact absurd (HI.o.2 e) hyx
        have adx:(y==x)=false:=beq_eq_false_iff_ne.2 hyx;have HG:Hid (AM.bh F (k+1)=AM.bh F k++[⟨(k:Int),1,s.p,s.z⟩]):=by show _=_;simp only[AM.bh];rw[<- HS.o,<- HT.o,hm,he];rfl
        have hlen:=AM.kN F k;obtain⟨G,hG⟩:=ex (AM.bh F k);rw[<- hG] at HO HG hlen;clear hG he hm hyx;have hrow:Hid (∀j,u3.ownBlock=some j->w.heap.size+1<=j/\j<wr.heap.size):=HO.o.lt;go_wp2
        go_quiet (fail)
        obtain⟨V,hV⟩:∃V:World,V=wr.drewN nq:=⟨_,rfl⟩;rw[<- hV];have l0V:V.cell? (Ad w.heap.size k)=some (I x):=by rw[hV];exact l0
        have HXV:Hid (V.heap[w.heap.size]?=some (.cells C 177 (0,0))):=by show _=_;rw[hV];exact HXr.o
        have XD:Hid (V.ownsRow (w.heap.size+1) 47 4 u3 G.length (AM.bk G)):=by show World.ownsRow _ _ _ _ _ _ _;rw[hV];exact HO.o
        have VJ:Hid (Below w.heap.size w V):=by show Below _ _ _;rw[hV];exact Go.below_drewN HB.o _
        have Tu:Hid (∀j,u3.ownBlock=some j->w.heap.size+1<=j/\j<V.heap.size):=XD.o.lt;have ajM:w.heap.size<V.heap.size:=B.isLt HXV.o;clear hV l0 l1 HXr HO HB hrow hsz;have HN:Hid ((V.alloc (.cells #[I (k:Int),I 1,I ((x-1)%8/2),.bool (decide (8<=x-1))] 47)).heap[V.heap.size]?=some (.cells #[I (k:Int),I 1,I ((x-1)%8/2),.bool (decide (8<=x-1))] 47 (0,0))):=B.new _ _ _;go_wp2_with (at_builtin;refine wpList_append_lies _ rfl _ _ 28 rfl (w.heap.size+1) 47 i0 (.agg #[I 0,I 0,I 0,.bool false]) 4 32 Tryz.underlying28 hi hz0 hz1 hz2 rfl (by decide) _ _ _ rfl (XD.o.alloc _) (Ad V.heap.size 0) 1 1 [I (k:Int),I 1,I ((x-1)%8/2),.bool (decide (8<=x-1))] rfl rfl (B.news HN.o) (AM.jt [⟨(k:Int),1,(x-1)%8/2,decide (8<=x-1)⟩]) (by decide) (by unfold maxLen;omega) (by omega) (by simp;omega) (V.heap.size+1) (by simp) ?_)
        intro g cap w1 hown1 hgrow hat adR;have bX:=B.grown (B.alloc HXV.o (.cells #[I (k:Int),I 1,I ((x-1)%8/2),.bool (decide (8<=x-1))] 47)) hgrow (fun e=>by have:=Tu.out _ e.symm;omega);have MF:Hid (w1.ownsRow (w.heap.size+1) 47 4 (Value.slice (some (Ad g 0)) (G.length+1) cap) (G.length+1) (AM.bk G++[I (k:Int),I 1,I ((x-1)%8/2),.bool (decide (8<=x-1))])):=hown1;have I5:Hid (w1.heap[w.heap.size]?=some (.cells C 177 (0,0))):=bX;have bE:Hid (Below w.heap.size w w1):=(VJ.o.alloc VJ.o.size _).grown hgrow (by have:=VJ.o.size;simp;omega) (fun k' e=>by have:=Tu.out _ e;omega);clear bX hown1 hgrow hat
        go_wp2;go_roundw
        case rel =>
         refine⟨k+1,by omega,by omega,by go_num,?_,I5.o,bE.o⟩;rw[HG.o,List.length_append,AM.kV];have h:=MF.o;rw[HP1.o,s8.o] at h;exact h
        case measure=>simp[intOf];omega
    · have hm':s.m=false:=by simpa using hm
      have hx0:=(AM.Qc s hpk.1).2 hm';have HG:Hid (AM.bh F (k+1)=AM.bh F k):=by show _=_;simp only[AM.bh];rw[<- HS.o,hm'];rfl
      rw[hx0] at l0;clear hm hx0;go_wp2;go_roundw
      case rel =>
       refine⟨k+1,by omega,by omega,by go_num,?_,HXr.o,HB.o⟩;rw[HG.o];exact HO.o
      case measure=>simp[intOf];omega
  · obtain rfl:k=256:=by omega
    clear hown hx hb;go_wp2;go_ret;refine⟨_,rfl,?_,HB.o⟩;exact Own.mono (lo:=w.heap.size+1) HO.o (Nat.le_succ _)
theorem qy (F:Nat->AM.St) (hF:AM.uo F) (w:World) :
  Calls Tryz.prog 128 #[.agg (AM.gp (fun n=>AM.enc (F n)))] w fun e w'=>∃v,e=.returned v/\Has w' v (AM.eO F)/\Below w.heap.size w w':=(FL F hF w).mono fun _ _ ⟨v,h1,h2,h3⟩=>⟨v,h1,h2.has,h3⟩
theorem Xc (l m:List AM.Ar) (hl:l.length=m.length) (h:∀i,i<l.length->AM.at_ l i=AM.at_ m i):l=m:=by
 apply List.ext_getElem?;intro i;by_cases hi:i<l.length
 · have:=h i hi;simp only[AM.at_,List.getD_eq_getElem?_getD] at this;rw[List.getElem?_eq_getElem hi,List.getElem?_eq_getElem (by omega)] at this ⊢;simp at this;rw[this]
 · rw[List.getElem?_eq_none (by omega),List.getElem?_eq_none (by omega)]
theorem uI (l m:List AM.Ar) (b off cap b2 EM cap2:Nat) (w:World) (hl:AM.Cs w b off l) (hm:AM.Cs w b2 EM m) (hlen:l.length=m.length) (hn:l.length<=140737488351232) :
  Calls Tryz.prog 58 #[.slice (some (Ad b off)) l.length cap,.slice (some (Ad b2 EM)) m.length cap2] w fun e w'=>∃r:Bool,e=.returned (.bool r)/\(r=true↔l=m)/\Below w.heap.size w w':=by
 rw[<- hlen];have hle:Hid (l.length=m.length):=hlen;clear hlen;go_enter Tryz.func58,Tryz.ntmps58;go_wp2;go_loopw [5] (fun i wr=>∃k:Nat,k<=l.length/\i=I k/\(∀j,j<k->AM.at_ l j=AM.at_ m j)/\Below w.heap.size w wr) (fun i _=>l.length-(intOf i).toNat)
 case atStart=>exact⟨0,by omega,rfl,fun j hj=>by omega,Below.refl _ _⟩
 case round =>
  obtain⟨k,hk,rfl,hj,hb⟩:=hrel;have HJ:Hid (∀j,j<k->AM.at_ l j=AM.at_ m j):=hj;have HB:Hid (Below w.heap.size w wr):=hb;by_cases hlt:k<l.length
  · obtain⟨c0,c1,c2,c3⟩:=hl.below hb k hlt;obtain⟨e0,e1,e2,e3⟩:=hm.below hb k (by rw[<- hle.out];exact hlt);obtain⟨a,ha⟩:=ex (AM.at_ l k);obtain⟨d,hd⟩:=ex (AM.at_ m k);rw[<- ha] at c0 c1 c2 c3;rw[<- hd] at e0 e1 e2 e3;have HA:Hid (a=AM.at_ l k):=ha;have HD:Hid (d=AM.at_ m k):=hd;clear ha hd hj hb;have wj:(k:Int)<(l.length:Int):=by omega
    obtain⟨p1,n1,q1,z1⟩:=a;obtain⟨p2,n2,q2,z2⟩:=d;simp only at c0 c1 c2 c3 e0 e1 e2 e3;have Px:(p1==p2)=false∨(p1=p2/\(n1==n2)=false)∨(p1=p2/\n1=n2/\(q1==q2)=false)∨(p1=p2/\n1=n2/\q1=q2/\z2=!z1)∨(p1=p2/\n1=n2/\q1=q2/\z1=z2):=by
     by_cases h1:p1=p2
     · by_cases h2:n1=n2
       · by_cases h3:q1=q2
         · by_cases h4:z1=z2
           · exact .inr (.inr (.inr (.inr ⟨h1,h2,h3,h4⟩)))
           · exact .inr (.inr (.inr (.inl ⟨h1,h2,h3,by cases z1 <;> cases z2 <;> simp_all⟩)))
         · exact .inr (.inr (.inl ⟨h1,h2,by simp[h3]⟩))
       · exact .inr (.inl ⟨h1,by simp[h2]⟩)
     · exact .inl (by simp[h1])
    have WK:∀h:¬((⟨p1,n1,q1,z1⟩:AM.Ar)=⟨p2,n2,q2,z2⟩),l≠m:=fun h e=>h (by rw[HA.o,HD.o,e])
    have age:=WK;have QN:Hid (¬((⟨p1,n1,q1,z1⟩:AM.Ar)=⟨p2,n2,q2,z2⟩)->l≠m):=WK;clear WK age;rcases Px with h1 | ⟨h1,h2⟩ | ⟨h1,h2,h3⟩ | ⟨h1,h2,h3,h4⟩ | ⟨h1,h2,h3,h4⟩
    · have hne:Hid (l≠m):=QN.o (fun e=>by have:=congrArg AM.Ar.page e;simp at this;simp[this] at h1);clear QN HA HD;go_wp2
      go_quiet (fail)
      go_wp2;go_ret;exact⟨false,rfl,⟨fun h=>(by cases h),fun h=>absurd h hne.out⟩,Go.below_drewN HB.o _⟩
    · have hne:Hid (l≠m):=QN.o (fun e=>by have:=congrArg AM.Ar.aJ e;simp at this;simp[this] at h2);clear QN HA HD;subst h1;go_wp2
      go_quiet (fail)
      go_wp2;go_ret;exact⟨false,rfl,⟨fun h=>(by cases h),fun h=>absurd h hne.out⟩,Go.below_drewN HB.o _⟩
    · have hne:Hid (l≠m):=QN.o (fun e=>by have:=congrArg AM.Ar.bV e;simp at this;simp[this] at h3);clear QN HA HD;subst h1;subst h2;go_wp2
      go_quiet (fail)
      go_wp2;go_ret;exact⟨false,rfl,⟨fun h=>(by cases h),fun h=>absurd h hne.out⟩,Go.below_drewN HB.o _⟩
    · have hne:Hid (l≠m):=QN.o (fun e=>by have:=congrArg AM.Ar.zero e;simp at this;rw[h4] at this;cases z1 <;> simp at this);clear QN HA HD;subst h1;subst h2;subst h3;subst h4;go_wp2
      go_quiet (fail)
      go_wp2;go_ret;exact⟨false,rfl,⟨fun h=>(by cases h),fun h=>absurd h hne.out⟩,Go.below_drewN HB.o _⟩
    · have heq:Hid (AM.at_ l k=AM.at_ m k):=by show _=_;rw[<- HA.o,<- HD.o,h1,h2,h3,h4]
      clear QN HA HD;subst h1;subst h2;subst h3;subst h4;go_wp2
      go_quiet (fail)
      go_wp2;go_roundw
      case rel=>exact⟨k+1,by omega,by go_num,fun j hj=>if e:j=k then by rw[e];exact heq.out else HJ.o j (by omega),Go.below_drewN HB.o _⟩
      case measure=>simp[intOf];omega
  · obtain rfl:k=l.length:=by omega
    go_wp2;go_ret;exact⟨true,rfl,⟨fun _=>Xc l m hle.out HJ.o,fun _=>rfl⟩,HB.o⟩
theorem NR (n m:Nat) (ao bo:Option Addr) (c d:Nat) (w:World) (h:n≠m) (hn:n<=140737488351232) (hm:m<=140737488351232) :
  Calls Tryz.prog 58 #[.slice ao n c,.slice bo m d] w fun e w'=>e=.returned (.bool false)/\w=w':=by
 have h':((n:Int) != (m:Int))=true:=by simp;omega
 go_enter Tryz.func58,Tryz.ntmps58;go_wp2;go_ret;exact⟨rfl,rfl⟩
theorem Eo (ao bo:Option Addr) (c d:Nat) (w:World) :
  Calls Tryz.prog 58 #[.slice ao 0 c,.slice bo 0 d] w fun e w'=>e=.returned (.bool true)/\w=w':=by
 go_enter Tryz.func58,Tryz.ntmps58;go_wp2;refine wp_loop_rounds 1 ?_;rw[rounds_succ];go_wp2;go_ret;exact⟨rfl,rfl⟩
theorem Ep (l m:List AM.Ar) (v u:Value) (w:World) (hl:Has w v l) (hm:Has w u m) (hn:l.length<=140737488351232) (rI:m.length<=140737488351232) :
  Calls Tryz.prog 58 #[v,u] w fun e w'=>∃r:Bool,e=.returned (.bool r)/\(r=true↔l=m)/\Below w.heap.size w w':=by
 obtain⟨ao,cap,rfl,h⟩:=hl;obtain⟨bo,cap2,rfl,h2⟩:=hm;by_cases hlen:l.length=m.length
 · rcases h with rfl | ⟨b,off,rfl,hl⟩
   · have hm0:m=[]:=List.eq_nil_of_length_eq_zero hlen.symm;subst hm0;exact(Eo ao bo cap cap2 w).mono fun e w' ⟨he,hw⟩=>⟨true,he,by simp,by rw[<- hw];exact Below.refl _ _⟩
   · rcases h2 with rfl | ⟨b2,EM,rfl,hm⟩
     · have hl0:l=[]:=List.eq_nil_of_length_eq_zero hlen;subst hl0;exact(Eo _ bo cap cap2 w).mono fun e w' ⟨he,hw⟩=>⟨true,he,by simp,by rw[<- hw];exact Below.refl _ _⟩
     · exact uI l m b off cap b2 EM cap2 w hl hm hlen hn
 · exact(NR l.length m.length ao bo cap cap2 w hlen hn rI).mono fun e w' ⟨he,hw⟩=>⟨false,he,⟨fun h=>(by cases h),fun h=>absurd (congrArg List.length h) hlen⟩,by rw[<- hw];exact Below.refl _ _⟩
end AW
end Go.Proofs.YtpgifpeohlllfaaGreat
