import Derived.Test.YtpgifpeohlllfaaGreatGT18
set_option maxHeartbeats 20000000
set_option linter.unusedVariables false
set_option maxRecDepth 100000
set_option linter.unusedSimpArgs false
namespace Go.Proofs.YtpgifpeohlllfaaGreat
namespace KY
open Go.RowKit GK KO
open FW (ai aD)
open KW (bJ bI aK aZ fh cK aI dA bU)
open KS (Lc bw kM cD blk cJ)
theorem Ii:∀(l:List KM.Fr),∀u∈l.flatMap bJ,u.oneCell'=true:=fun l u hu=>by
 obtain⟨y,_,hy⟩:=List.mem_flatMap.1 hu;simp[bJ] at hy;rcases hy with rfl | rfl | rfl | rfl <;> rfl
theorem GJ:∀(l:List KM.Sl),∀u∈l.flatMap bI,u.oneCell'=true:=fun l u hu=>by
 obtain⟨y,_,hy⟩:=List.mem_flatMap.1 hu;simp[bI] at hy;rcases hy with rfl | rfl <;> rfl
theorem NN:∀(l:List LM.Sh),∀u∈l.flatMap eN,u.oneCell'=true:=fun l u hu=>by
 obtain⟨y,_,hy⟩:=List.mem_flatMap.1 hu;simp[eN] at hy;rcases hy with rfl | rfl | rfl <;> rfl
theorem Ih:∀(l:List LM.Fx),∀u∈l.flatMap fP,u.oneCell'=true:=fun l u hu=>by
 obtain⟨y,_,hy⟩:=List.mem_flatMap.1 hu;simp[fP] at hy;rcases hy with rfl | rfl <;> rfl
theorem fF {α:Type} {f:α->List Value} {n:Nat} (hf:∀x,(f x).length=n) {d:α} {w:World} {ao:Option Addr} {l:List α} (h:aZ f n d w ao l):From w ao l.length (l.flatMap f):=fun hm=>by
 obtain⟨b,off,rfl,hb,hl⟩:=h hm;exact KS.qV (w:=w) f n hf d l b off (fun i hi j hj=>hl i hi j hj) hm
theorem GM {w:World} {ao:Option Addr} {l:List LM.Sh} (h:LM.jb w ao l):aZ eN 3 LM.MP w ao l:=fun hl=>by
 obtain⟨b,off,e,hb,hi⟩:=h hl;refine⟨b,off,e,hb,fun i hlt j hj=>?_⟩;obtain⟨c0,c1,c2,_⟩:=hi i hlt
 match j,hj with
 | 0,_=>exact c0
 | 1,_=>exact c1
 | 2,_=>exact c2
theorem Ig {w:World} {ao:Option Addr} {l:List LM.Fx} (h:LM.oc w ao l):aZ fP 2 LM.fx0 w ao l:=fun hl=>by
 obtain⟨b,off,e,hb,hi⟩:=h hl;refine⟨b,off,e,hb,fun i hlt j hj=>?_⟩;obtain⟨c0,c1⟩:=hi i hlt
 match j,hj with
 | 0,_=>exact c0
 | 1,_=>exact c1
structure Four (lo:Nat) (WA wx:World) (cb:Nat) (vS vF vL:Value) (hd:Int) (k:KM.Kn):Prop where
 head:wx.heap[cb]?=some (.cells #[vS,vF,vL,Nl,I hd] 27 (0,0))
 hlo:lo<=cb
 rS:wx.ownsRow lo 50 3 vS k.ak.length (k.ak.flatMap eN)
 rF:wx.ownsRow lo 40 4 vF k.frames.length (k.frames.flatMap bJ)
 rL:wx.ownsRow lo 86 2 vL k.slots.length (k.slots.flatMap bI)
 d1:∀b,blk vS b->¬blk vF b/\¬blk vL b/\b≠cb
 d2:∀b,blk vF b->¬blk vL b/\b≠cb
 d3:∀b,blk vL b->b≠cb
 below:Below WA.heap.size WA wx
theorem uZ {WA V1 w1 V2 w2 V3 w3 V4:World} {cb:Nat} {vS vF vL:Value} {hd:Int} {k:KM.Kn} (b0:Below WA.heap.size WA V1) (h1:w1.ownsRow V1.heap.size 50 3 vS k.ak.length (k.ak.flatMap eN)) (b1:Below V1.heap.size V1 w1) (b12:Below w1.heap.size w1 V2)
  (h2:w2.ownsRow V2.heap.size 40 4 vF k.frames.length (k.frames.flatMap bJ)) (b2:Below V2.heap.size V2 w2) (Xg:Below w2.heap.size w2 V3) (h3:w3.ownsRow V3.heap.size 86 2 vL k.slots.length (k.slots.flatMap bI)) (b3:Below V3.heap.size V3 w3) (Vw:Below w3.heap.size w3 V4)
  (hcb:V4.heap[cb]?=some (.cells #[Nl,Nl,Nl,Nl,I 0] 27 (0,0))) (hlo:WA.heap.size<=cb) (hout:cb<V1.heap.size∨(w1.heap.size<=cb/\cb<V2.heap.size)∨(w2.heap.size<=cb/\cb<V3.heap.size)∨w3.heap.size<=cb) :
  Four WA.heap.size WA (((((V4.setCell (Ad cb 0) vS).setCell (Ad cb 1) vF).setCell (Ad cb 2) vL).setCell (Ad cb 3) Nl).setCell (Ad cb 4) (I hd)) cb vS vF vL hd k:=by
 have s0:=b0.size;have s1:=b1.size;have s12:=b12.size;have s2:=b2.size;have Jl:=Xg.size;have s3:=b3.size;have NT:=Vw.size;have kp:Kp (fun b=>b=cb) V4 (((((V4.setCell (Ad cb 0) vS).setCell (Ad cb 1) vF).setCell (Ad cb 2) vL).setCell (Ad cb 3) Nl).setCell (Ad cb 4) (I hd)):=((((Kp.set (fun b=>b=cb) V4 (Ad cb 0) _ rfl).trans (Kp.set (fun b=>b=cb) _ (Ad cb 1) _ rfl) (fun _ _ g=>g)).trans (Kp.set (fun b=>b=cb) _ (Ad cb 2) _ rfl) (fun _ _ g=>g)).trans (Kp.set (fun b=>b=cb) _ (Ad cb 3) _ rfl) (fun _ _ g=>g)).trans (Kp.set (fun b=>b=cb) _ (Ad cb 4) _ rfl) (fun _ _ g=>g);have B13:Below w1.heap.size w1 V4:=((b12.trans (b2.mono s12)).trans (Xg.mono (by omega))).trans ((b3.mono (by omega)).trans (Vw.mono (by omega)));have B23:Below w2.heap.size w2 V4:=(Xg.trans (b3.mono Jl)).trans (Vw.mono (by omega));have e1:∀b,blk vS b->V1.heap.size<=b/\b<w1.heap.size:=fun b hb=>h1.lt b hb
 have e2:∀b,blk vF b->V2.heap.size<=b/\b<w2.heap.size:=fun b hb=>h2.lt b hb
 have e3:∀b,blk vL b->V3.heap.size<=b/\b<w3.heap.size:=fun b hb=>h3.lt b hb
 have row:∀{e:TypeId} {n m lo:Nat} {v:Value} {xs:List Value} {W:World},W.ownsRow lo e n v m xs->Below W.heap.size W V4->WA.heap.size<=lo->(∀b,blk v b->b≠cb)->World.ownsRow _ WA.heap.size e n v m xs:=fun hr hb hl hn=>kp.row (jU ((Kp.bc (D:=fun _=>False) hb).row hr (fun _ _ g=>g)) (fun g hg=>by have:=(hr.lt g hg).1;omega)) (fun b hb2=>hn b hb2)
 refine⟨?_,hlo,row h1 B13 (by omega) (fun b hb=>by have:=e1 b hb;omega),row h2 B23 (by omega) (fun b hb=>by have:=e2 b hb;omega),row h3 Vw (by omega) (fun b hb=>by have:=e3 b hb;omega),fun b hb=>⟨fun x=>by have:=e1 b hb;have:=e2 b x;omega,fun x=>by have:=e1 b hb;have:=e3 b x;omega,by have:=e1 b hb;omega⟩,fun b hb=>⟨fun x=>by have:=e2 b hb;have:=e3 b x;omega,by have:=e2 b hb;omega⟩,fun b hb=>by have:=e3 b hb;omega,?_⟩
 · exact B.set (B.set (B.set (B.set (B.set hcb 0 vS) 1 vF) 2 vL) 3 Nl) 4 (I hd)
 · exact Kp.below (b0.trans ((b1.trans (B13.mono s1)).mono s0)) kp (by omega) (fun b e=>by omega)
theorem PU {WA V1 w1 V2 w2 V3 w3:World} {vS vF vL:Value} {hd:Int} {k:KM.Kn} (b0:Below WA.heap.size WA V1) (h1:w1.ownsRow V1.heap.size 50 3 vS k.ak.length (k.ak.flatMap eN)) (b1:Below V1.heap.size V1 w1) (b12:Below w1.heap.size w1 V2)
  (h2:w2.ownsRow V2.heap.size 40 4 vF k.frames.length (k.frames.flatMap bJ)) (b2:Below V2.heap.size V2 w2) (Xg:Below w2.heap.size w2 V3) (h3:w3.ownsRow V3.heap.size 86 2 vL k.slots.length (k.slots.flatMap bI)) (b3:Below V3.heap.size V3 w3) :
  Four WA.heap.size WA (w3.alloc (.cells #[vS,vF,vL,Nl,I hd] 27)) w3.heap.size vS vF vL hd k:=by
 have s0:=b0.size;have s1:=b1.size;have s12:=b12.size;have s2:=b2.size;have Jl:=Xg.size;have s3:=b3.size;have Vw:Below w3.heap.size w3 (w3.alloc (.cells #[vS,vF,vL,Nl,I hd] 27)):=(Below.refl _ _).alloc (Nat.le_refl _) _;have B13:Below w1.heap.size w1 (w3.alloc (.cells #[vS,vF,vL,Nl,I hd] 27)):=((b12.trans (b2.mono s12)).trans (Xg.mono (by omega))).trans ((b3.mono (by omega)).trans (Vw.mono (by omega)));have B23:Below w2.heap.size w2 (w3.alloc (.cells #[vS,vF,vL,Nl,I hd] 27)):=(Xg.trans (b3.mono Jl)).trans (Vw.mono (by omega));have e1:∀b,blk vS b->V1.heap.size<=b/\b<w1.heap.size:=fun b hb=>h1.lt b hb
 have e2:∀b,blk vF b->V2.heap.size<=b/\b<w2.heap.size:=fun b hb=>h2.lt b hb
 have e3:∀b,blk vL b->V3.heap.size<=b/\b<w3.heap.size:=fun b hb=>h3.lt b hb
 have row:∀{e:TypeId} {n m lo:Nat} {v:Value} {xs:List Value} {W:World},W.ownsRow lo e n v m xs->Below W.heap.size W (w3.alloc (.cells #[vS,vF,vL,Nl,I hd] 27))->WA.heap.size<=lo->World.ownsRow _ WA.heap.size e n v m xs:=fun hr hb hl=>jU ((Kp.bc (D:=fun _=>False) hb).row hr (fun _ _ g=>g)) (fun g hg=>by have:=(hr.lt g hg).1;omega)
 refine⟨B.new w3 _ _,by omega,row h1 B13 (by omega),row h2 B23 (by omega),row h3 Vw (by omega),fun b hb=>⟨fun x=>by have:=e1 b hb;have:=e2 b x;omega,fun x=>by have:=e1 b hb;have:=e3 b x;omega,by have:=e1 b hb;omega⟩,fun b hb=>⟨fun x=>by have:=e2 b hb;have:=e3 b x;omega,by have:=e2 b hb;omega⟩,fun b hb=>by have:=e3 b hb;omega,?_⟩;exact b0.trans ((b1.trans (B13.mono s1)).mono s0)
structure Kh (lo cb:Nat) (w:World) (lab:Nat->Lb) (vS vF vL:Value) (k:KM.Kn) (hs:List LM.Sh) (n:Nat):Prop where
 iJ:∀b,lab b≠.no->lo<=b/\b<w.heap.size
 head:w.heap[cb]?=some (.cells #[vS,vF,vL,Nl,I k.hand] 27 (0,0))
 lH:lab cb=.head
 ak:w.ownsRow lo 50 3 vS hs.length (hs.flatMap eN)
 bg:∀i,i<n->w.ownsRow lo 52 2 (vX (LM.aY hs i)) (LM.aY hs i).bg.length ((LM.aY hs i).bg.flatMap fP)
 frames:w.ownsRow lo 40 4 vF k.frames.length (k.frames.flatMap bJ)
 slots:w.ownsRow lo 86 2 vL k.slots.length (k.slots.flatMap bI)
 lS:∀b,blk vS b->lab b=.ak
 lX:∀i,i<n->∀b,blk (vX (LM.aY hs i)) b->lab b=.bg i
 lF:∀b,blk vF b->lab b=.frames
 lL:∀b,blk vL b->lab b=.slots
 same:KM.Same k.ak hs
 rest:∀i,n<=i->LM.aY hs i=LM.aY k.ak i
theorem TM {lo:Nat} {WA w:World} {cb:Nat} {vS vF vL:Value} {k:KM.Kn} (h:Four lo WA w cb vS vF vL k.hand k):∃lab,Kh lo cb w lab vS vF vL k k.ak 0:=by
 refine⟨fun b=>if b=cb then .head else if vS.ownBlock=some b then .ak else if vF.ownBlock=some b then .frames else if vL.ownBlock=some b then .slots else .no,⟨fun b hb=>?_,h.head,if_pos rfl,h.rS,fun i hi=>absurd hi (Nat.not_lt_zero _),h.rF,h.rL,fun b hb=>?_,fun i hi=>absurd hi (Nat.not_lt_zero _),fun b hb=>?_,fun b hb=>?_,rfl,fun i hi=>rfl⟩⟩
 · by_cases c0:b=cb
   · rw[c0];exact⟨h.hlo,B.isLt h.head⟩
   · by_cases c1:vS.ownBlock=some b
     · exact h.rS.lt b c1
     · by_cases c2:vF.ownBlock=some b
       · exact h.rF.lt b c2
       · by_cases c3:vL.ownBlock=some b
         · exact h.rL.lt b c3
         · exfalso;apply hb;simp[c0,c1,c2,c3]
 · have hb':vS.ownBlock=some b:=hb;have:=h.d1 b hb;rw[if_neg this.2.2,if_pos hb']
 · have hb':vF.ownBlock=some b:=hb;have:=h.d2 b hb;rw[if_neg this.2,if_neg (show ¬vS.ownBlock=some b from fun x=>(h.d1 b x).1 hb),if_pos hb']
 · have hb':vL.ownBlock=some b:=hb;have:=h.d3 b hb;rw[if_neg this,if_neg (show ¬vS.ownBlock=some b from fun x=>(h.d1 b x).2.1 hb),if_neg (show ¬vF.ownBlock=some b from fun x=>(h.d2 b x).1 hb),if_pos hb']
theorem Kh.kp {lo cb:Nat} {w w':World} {lab:Nat->Lb} {vS vF vL:Value} {k:KM.Kn} {hs:List LM.Sh} {n:Nat} (h:Kh lo cb w lab vS vF vL k hs n) {E:Nat->Prop} (hk:Kp E w w') (he:∀b,lab b≠.no->¬E b):Kh lo cb w' lab vS vF vL k hs n:=by
 have z:∀{b:Nat} {c:Lb},lab b=c->c≠.no->¬E b:=fun e hc=>he _ (by rw[e];exact hc)
 exact⟨fun b hb=>⟨(h.iJ b hb).1,Nat.lt_of_lt_of_le (h.iJ b hb).2 hk.size⟩,hk.keep h.head (z h.lH (by simp)),h.lH,hk.row h.ak (fun b hb=>z (h.lS b hb) (by simp)),fun i hi=>hk.row (h.bg i hi) (fun b hb=>z (h.lX i hi b hb) (by simp)),hk.row h.frames (fun b hb=>z (h.lF b hb) (by simp)),hk.row h.slots (fun b hb=>z (h.lL b hb) (by simp)),h.lS,h.lX,h.lF,h.lL,h.same,h.rest⟩
theorem Kh.below {lo cb:Nat} {w w':World} {lab:Nat->Lb} {vS vF vL:Value} {k:KM.Kn} {hs:List LM.Sh} {n:Nat} (h:Kh lo cb w lab vS vF vL k hs n) (hb:Below w.heap.size w w'):Kh lo cb w' lab vS vF vL k hs n:=h.kp (Kp.bc (D:=fun _=>False) hb) (fun _ _ g=>g)
theorem ye (l:List LM.Sh) (i m:Nat) (x:LM.Sh) (hi:i<l.length):LM.aY (l.set i x) m=if i=m then x else LM.aY l m:=by
 unfold LM.aY;by_cases c:i=m
 · subst c;rw[if_pos rfl,KM.bC _ _ _ _ hi]
 · rw[if_neg c,KM.getD_set_ne _ _ _ _ _ c]
theorem Bn:∀(l:List LM.Sh) (i:Nat) (x:LM.Sh),i<l.length->LM.plain x=LM.plain (LM.aY l i)->(l.set i x).map LM.plain=l.map LM.plain
 | [],i,x,hi,_=>absurd hi (Nat.not_lt_zero _)
 | a::r,0,x,hi,e=>by
  show LM.plain x::_=LM.plain a::_;rw[e];rfl
 | a::r,i+1,x,hi,e=>by
  show LM.plain a::(r.set i x).map LM.plain=LM.plain a::_;rw[Bn r i x (Nat.lt_of_succ_lt_succ hi) e]
theorem Kh.step {lo cb:Nat} {w w1:World} {lab:Nat->Lb} {vF vL:Value} {k:KM.Kn} {hs:List LM.Sh} {n:Nat} {sb m cS:Nat} {ax:Option Addr} {cx:Nat} (h:Kh lo cb w lab (.slice (some (Ad sb 0)) m cS) vF vL k hs n) (hn:n<hs.length) (hlo:lo<=w.heap.size) (hb:Below w.heap.size w w1)
  (hr:w1.ownsRow w.heap.size 52 2 (.slice ax (LM.aY hs n).bg.length cx) (LM.aY hs n).bg.length ((LM.aY hs n).bg.flatMap fP)) :
  ∃lab',Kh lo cb (w1.setCell (Ad sb (n*3+2)) (.slice ax (LM.aY hs n).bg.length cx)) lab' (.slice (some (Ad sb 0)) m cS) vF vL k (hs.set n ⟨(LM.aY hs n).page,(LM.aY hs n).data,(LM.aY hs n).bg,ax,cx⟩) (n+1)/\∀b,b<w.heap.size->lab' b=lab b:=by
 have h1:=h.below hb;obtain⟨v,hv⟩:∃v:Value,v=.slice ax (LM.aY hs n).bg.length cx:=⟨_,rfl⟩;rw[<- hv] at hr ⊢;have pC:lab sb=.ak:=h.lS sb rfl;have gD:Kp (fun b=>b=sb) w1 (w1.setCell (Ad sb (n*3+2)) v):=Kp.set _ _ _ _ rfl;have z:∀{b:Nat} {c:Lb},lab b=c->c≠.ak->¬b=sb:=fun e hc x=>hc (by rw[<- e,x];exact pC)
 have ev:∀b,blk v b->w.heap.size<=b/\b<w1.heap.size:=fun b hx=>hr.lt b hx
 have old:∀b,b<w.heap.size->(if v.ownBlock=some b then Lb.bg n else lab b)=lab b:=fun b hl=>if_neg fun x=>by have:=ev b x;omega
 have o2:∀b c,lab b=c->c≠.no->(if v.ownBlock=some b then Lb.bg n else lab b)=c:=fun b c e hc=>by
  rw[old b (h.iJ b (by rw[e];exact hc)).2,e]
 have hm:m=hs.length:=by
  obtain⟨ao,c,e,_⟩:=aN h.ak;injection e
 subst hm;have hsz:(w1.setCell (Ad sb (n*3+2)) v).heap.size=w1.heap.size:=by simp
 refine⟨fun b=>if v.ownBlock=some b then .bg n else lab b,⟨fun b hx=>?_,gD.keep h1.head (z h.lH (by simp)),o2 cb _ h.lH (by simp),?_,fun i hi=>?_,gD.row h1.frames (fun b hx=>z (h.lF b hx) (by simp)),gD.row h1.slots (fun b hx=>z (h.lL b hx) (by simp)),fun b hx=>o2 b _ (h.lS b hx) (by simp),fun i hi b hx=>?_,fun b hx=>o2 b _ (h.lF b hx) (by simp),fun b hx=>o2 b _ (h.lL b hx) (by simp),?_,fun i hi=>?_⟩,old⟩
 · rw[hsz];by_cases c:v.ownBlock=some b
   · have:=ev b c;omega
   · have hx:(if v.ownBlock=some b then Lb.bg n else lab b)≠.no:=hx;rw[if_neg c] at hx;exact h1.iJ b hx
 · have hr1:=ig h1.ak (n*3+2) v;rw[<- fE eN 3 (fun _=>rfl) LM.MP ⟨(LM.aY hs n).page,(LM.aY hs n).data,(LM.aY hs n).bg,ax,cx⟩ 2 v (by omega) hs n hn (by rw[hv];rfl)] at hr1;rw[List.length_set];exact hr1
 · rw[ye _ _ _ _ hn];by_cases c:n=i
   · rw[if_pos c];show World.ownsRow _ lo _ 2 (.slice ax (LM.aY hs n).bg.length cx) _ _;rw[<- hv];exact gD.row (jU hr (fun g hg=>by have:=ev g hg;omega)) (fun b hx e=>by have:=ev b hx;have:=(h.iJ sb (by rw[pC];simp)).2;omega)
   · rw[if_neg c];exact gD.row (h1.bg i (by omega)) (fun b hx=>z (h.lX i (by omega) b hx) (by simp))
 · rw[ye _ _ _ _ hn] at hx;by_cases c:n=i
   · rw[if_pos c] at hx;have hx:blk (.slice ax (LM.aY hs n).bg.length cx) b:=hx;rw[<- hv] at hx;show(if v.ownBlock=some b then Lb.bg n else lab b)=_;rw[if_pos (show v.ownBlock=some b from hx),c]
   · rw[if_neg c] at hx;exact o2 b _ (h.lX i (by omega) b hx) (by simp)
 · show List.map LM.plain _=_;exact(Bn hs n ⟨(LM.aY hs n).page,(LM.aY hs n).data,(LM.aY hs n).bg,ax,cx⟩ hn rfl).trans h.same
 · rw[ye _ _ _ _ hn,if_neg (by omega)];exact h.rest i (by omega)
theorem Kh.done {lo cb:Nat} {w:World} {lab:Nat->Lb} {vS vF vL:Value} {k:KM.Kn} {hs:List LM.Sh} (h:Kh lo cb w lab vS vF vL k hs hs.length):Km lo cb 27 [] w ⟨lab,vS,vF,vL,Nl,[]⟩ (KM.aT ⟨k.ak,k.frames,k.slots,k.aj.take 0,k.hand⟩ hs) :=
 ⟨⟨h.iJ,h.ak,h.bg,h.frames,h.slots,World.ownsRow_nil _ _ _ _,rfl,fun i hi=>absurd hi (Nat.not_lt_zero _),h.lS,h.lX,h.lF,h.lL,(fun b hb=>by cases hb),fun i hi=>absurd hi (Nat.not_lt_zero _),fun i hi=>absurd hi (Nat.not_lt_zero _)⟩,h.head,h.lH⟩
end KY
namespace KX
open Go.RowKit GK KO
open FW (ai aD)
open KW (bJ bI aK aZ fh cK aI dA bU)
open KS (Lc bw kM cD blk cJ)
def gq (lo mb:Nat) (tt:TypeId) (X:List Value) (w:World) (S:St) (v:Value) (k':KM.Kn) (e:Ending) (w':World):Prop:=e=.returned v/\∃S',Km lo mb tt X w' S' k'/\Ch S w S' w'
def mn (lo mb:Nat) (tt:TypeId) (X:List Value) (w:World) (S:St) (v:Value) (k':KM.Kn) (e:Ending) (w':World):Prop:=e=.returned v/\Km lo mb tt X w' S k'/\Ch S w S w'
theorem vd {lo mb:Nat} {tt:TypeId} {X:List Value} (k:KM.Kn) (S:St) (w:World) (e:KM.En) (d:Int) (h:Km lo mb tt X w S k) (h1:e.kind=1->0<=e.loc/\e.loc<(k.frames.length:Int)) (h2:e.kind≠1->0<=e.loc/\e.loc<(k.slots.length:Int)) (hd:d=1∨d=-1)
  (hr:(e.kind=1->-1000000<=(KM.aH k.frames e.loc.toNat).refs/\(KM.aH k.frames e.loc.toNat).refs<=1000000)/\(e.kind≠1->-1000000<=(KM.bj k.slots e.loc.toNat).refs/\(KM.bj k.slots e.loc.toNat).refs<=1000000)) :
  Calls Tryz.prog 85 #[.pointer (some (Ad mb 0)),dA e,I d] w (mn lo mb tt X w S (.tuple #[]) (KM.dh k e d)):=by
 obtain⟨pg,kd,lc⟩:=e;unfold dA;simp only at h1 h2 hr ⊢;have bR:=ai ((Below.refl w.heap.size w).alloc (Nat.le_refl _) (.cells #[I pg,I kd,I lc] 45));have EB:=ai (B.new w #[I pg,I kd,I lc] 45);have HM:=ai (h.below bR.o);have Sj:Hid (Ch S w S (w.alloc (.cells #[I pg,I kd,I lc] 45))):=Ch.below bR.o;by_cases c:kd=1
 · obtain⟨i,rfl⟩:∃i:Nat,lc=(i:Int):=⟨lc.toNat,by have:=h1 c;omega⟩;have hi:i<k.frames.length:=by have:=h1 c;omega
   obtain⟨fb,cF,A⟩:=HM.o.toKr.fr (by omega);have Da:=hr.1 c;rw[Int.toNat_natCast] at Da;have x1:=A.x1 i hi;have x0:=A.x0 i hi;have x2:=A.x2 i hi;have x3:=A.x3 i hi;have f0:=A.fz (i*4);have f1:=A.fz (i*4+1);have f2:=A.fz (i*4+2);have f3:=A.fz (i*4+3);have c1:=HM.o.c1;rw[A.v] at c1;have e0:(w.alloc (.cells #[I pg,I kd,I (i:Int)] 45)).cell? (Ad w.heap.size 1)=some (I kd):=B.cell EB.o 1 rfl;have e2:(w.alloc (.cells #[I pg,I kd,I (i:Int)] 45)).cell? (Ad w.heap.size 2)=some (I (i:Int)):=B.cell EB.o 2 rfl;have wj:(i:Int)<(k.frames.length:Int):=by omega
   have bB:Hid (∀V,(∃f,V=((w.alloc (.cells #[I pg,I kd,I (i:Int)] 45)).setCell (Ad fb (i*4+1)) (I ((KM.aH k.frames i).refs+d))).drew/\f=KM.aH k.frames i/\¬f.refs+d=0)∨(∃f,f=KM.aH k.frames i/\f.refs+d=0/\V=((((((w.alloc (.cells #[I pg,I kd,I (i:Int)] 45)).setCell (Ad fb (i*4+1)) (I ((KM.aH k.frames i).refs+d))).setCell (Ad fb (i*4)) (.string ⟨#[]⟩)).setCell (Ad fb (i*4+1)) (I 0)).setCell (Ad fb (i*4+2)) (.bool false)).setCell (Ad fb (i*4+3)) (.bool false)).drew)->mn lo mb tt X w S (.tuple #[]) (KM.dh k ⟨pg,kd,(i:Int)⟩ d) (.returned (.tuple #[])) V):=fun V hV=>by
    have hk:KM.dh k ⟨pg,kd,(i:Int)⟩ d={ k with frames:=k.frames.set i (KM.Dr (KM.aH k.frames i) d) }:=by
     unfold KM.dh;rw[if_pos c,Int.toNat_natCast]
    rw[hk];have HD:=HM.o;have CD:=Sj.o;have tW:∀V:World,Below V.heap.size V V.drew:=fun V=>(Below.refl _ _).drew
    have m1:=HD.rX A.v hi (j:=1) (by omega) (f:=⟨(KM.aH k.frames i).data,(KM.aH k.frames i).refs+d,(KM.aH k.frames i).cj,(KM.aH k.frames i).seen⟩) (u:=I ((KM.aH k.frames i).refs+d)) rfl;have Ms:=CD.trans (MZ HD.toKr A.v (i:=i*4+1) (u:=I ((KM.aH k.frames i).refs+d)));rcases hV with⟨f,rfl,rfl,hz⟩ | ⟨f,rfl,hz,rfl⟩
    · unfold KM.Dr;rw[if_neg hz];exact⟨rfl,m1.below (tW _),Ms.trans (Ch.below (tW _))⟩
    · unfold KM.Dr;rw[if_pos hz];have m2:=m1.Lv A.v (i:=i) (by simpa using hi) KM.mz;simp only[List.set_set] at m2;exact⟨rfl,m2.1.below (tW _),(Ms.trans m2.2).trans (Ch.below (tW _))⟩
   obtain⟨P,hP⟩:=ex (mn lo mb tt X w S (.tuple #[]) (KM.dh k ⟨pg,kd,(i:Int)⟩ d));rw[<- hP] at bB ⊢;obtain⟨F,hF⟩:=ex (KM.aH k.frames i);rw[<- hF] at x0 x1 x2 x3 Da bB;obtain⟨n,hn⟩:=ex k.frames.length;rw[<- hn] at c1 wj;have kb:(kd==1)=true:=by simpa using c
   have hw:IntKind.i64.wrap (F.refs+d)=F.refs+d:=IntWalk.i64_in _ (by omega);have HHF:=ai hF;have hin:i<n:=by omega
   have Gj:n<=140737488351232∨True:=.inr trivial;clear h1 h2 hr h hP hF hn HM Sj A EB bR c hd Da Gj hi;by_cases z:F.refs+d=0
   · have zb:(F.refs+d==0)=true:=by simpa using z
     have HZ:=ai z;clear z;go_enter Tryz.func85,Tryz.ntmps85;go_upto_region 2 with fail;go_region;go_wp2;refine bodyPost_ret (v:=.tuple #[]) (by simp[results,Tryz.results85,go_sem]) rfl ?_;exact bB.o _ (.inr ⟨F,rfl,HZ.o,rfl⟩)
   · have zb:(F.refs+d==0)=false:=by simpa using z
     have HZ:=ai z;clear z;go_enter Tryz.func85,Tryz.ntmps85;go_upto_region 2 with fail;go_region;go_wp2;refine bodyPost_ret (v:=.tuple #[]) (by simp[results,Tryz.results85,go_sem]) rfl ?_;exact bB.o _ (.inl ⟨F,rfl,rfl,HZ.o⟩)
 · obtain⟨i,rfl⟩:∃i:Nat,lc=(i:Int):=⟨lc.toNat,by have:=h2 c;omega⟩;have hi:i<k.slots.length:=by have:=h2 c;omega
   obtain⟨fb,cF,A⟩:=HM.o.toKr.sl (by omega);have Da:=hr.2 c;rw[Int.toNat_natCast] at Da;have x1:=A.x1 i hi;have x0:=A.x0 i hi;have f0:=A.fz (i*2);have f1:=A.fz (i*2+1);have c1:=HM.o.c2;rw[A.v] at c1;have e0:(w.alloc (.cells #[I pg,I kd,I (i:Int)] 45)).cell? (Ad w.heap.size 1)=some (I kd):=B.cell EB.o 1 rfl;have e2:(w.alloc (.cells #[I pg,I kd,I (i:Int)] 45)).cell? (Ad w.heap.size 2)=some (I (i:Int)):=B.cell EB.o 2 rfl;have wj:(i:Int)<(k.slots.length:Int):=by omega
   have bB:Hid (∀V,(∃f,V=((w.alloc (.cells #[I pg,I kd,I (i:Int)] 45)).setCell (Ad fb (i*2+1)) (I ((KM.bj k.slots i).refs+d))).drew/\f=KM.bj k.slots i/\¬f.refs+d=0)∨(∃f,f=KM.bj k.slots i/\f.refs+d=0/\V=((((w.alloc (.cells #[I pg,I kd,I (i:Int)] 45)).setCell (Ad fb (i*2+1)) (I ((KM.bj k.slots i).refs+d))).setCell (Ad fb (i*2)) (.string ⟨#[]⟩)).setCell (Ad fb (i*2+1)) (I 0)).drew)->mn lo mb tt X w S (.tuple #[]) (KM.dh k ⟨pg,kd,(i:Int)⟩ d) (.returned (.tuple #[])) V):=fun V hV=>by
    have hk:KM.dh k ⟨pg,kd,(i:Int)⟩ d={ k with slots:=k.slots.set i (KM.Dq (KM.bj k.slots i) d) }:=by
     unfold KM.dh;rw[if_neg c,Int.toNat_natCast]
    rw[hk];have HD:=HM.o;have CD:=Sj.o;have tW:∀V:World,Below V.heap.size V V.drew:=fun V=>(Below.refl _ _).drew
    have m1:=HD.GN A.v hi (j:=1) (by omega) (f:=⟨(KM.bj k.slots i).data,(KM.bj k.slots i).refs+d⟩) (u:=I ((KM.bj k.slots i).refs+d)) rfl;have Ms:=CD.trans (chL HD.toKr A.v (i:=i*2+1) (u:=I ((KM.bj k.slots i).refs+d)));rcases hV with⟨f,rfl,rfl,hz⟩ | ⟨f,rfl,hz,rfl⟩
    · unfold KM.Dq;rw[if_neg hz];exact⟨rfl,m1.below (tW _),Ms.trans (Ch.below (tW _))⟩
    · unfold KM.Dq;rw[if_pos hz];have m2:=m1.Wi A.v (i:=i) (by simpa using hi) KM.xe;simp only[List.set_set] at m2;exact⟨rfl,m2.1.below (tW _),(Ms.trans m2.2).trans (Ch.below (tW _))⟩
   obtain⟨P,hP⟩:=ex (mn lo mb tt X w S (.tuple #[]) (KM.dh k ⟨pg,kd,(i:Int)⟩ d));rw[<- hP] at bB ⊢;obtain⟨F,hF⟩:=ex (KM.bj k.slots i);rw[<- hF] at x0 x1 Da bB;obtain⟨n,hn⟩:=ex k.slots.length;rw[<- hn] at c1 wj;have kb:(kd==1)=false:=by simpa using c
   have hw:IntKind.i64.wrap (F.refs+d)=F.refs+d:=IntWalk.i64_in _ (by omega);have HHF:=ai hF;have hin:i<n:=by omega
   clear h1 h2 hr h hP hF hn HM Sj A EB bR c hd Da hi;by_cases z:F.refs+d=0
   · have zb:(F.refs+d==0)=true:=by simpa using z
     have HZ:=ai z;clear z;go_enter Tryz.func85,Tryz.ntmps85;go_upto_region 6 with fail;go_region;go_wp2;refine bodyPost_end (v:=.tuple #[]) (by simp[results,Tryz.results85,go_sem]) rfl ?_;exact bB.o _ (.inr ⟨F,rfl,HZ.o,rfl⟩)
   · have zb:(F.refs+d==0)=false:=by simpa using z
     have HZ:=ai z;clear z;go_enter Tryz.func85,Tryz.ntmps85;go_upto_region 6 with fail;go_region;go_wp2;refine bodyPost_end (v:=.tuple #[]) (by simp[results,Tryz.results85,go_sem]) rfl ?_;exact bB.o _ (.inl ⟨F,rfl,rfl,HZ.o⟩)
def jW (held:List Int) (k:KM.Kn) (i:Nat):KM.Kn:=if held.contains (i:Int) then k else { k with frames:=k.frames.set i (KM.unseen (KM.aH k.frames i)) }
theorem G5 {lo mb:Nat} {tt:TypeId} {X:List Value} (k:KM.Kn) (S:St) (w:World) (i:Nat) (held:List Int) (ah:Option Addr) (ch:Nat) (h:Km lo mb tt X w S k) (hi:i<k.frames.length) (hh:aZ bU 1 0 w ah held) (hl:held.length<=1000000) :
  Calls Tryz.prog 188 #[.pointer (some (Ad mb 0)),I (i:Int),.slice ah held.length ch] w (mn lo mb tt X w S (.bool (held.contains (i:Int) || (KM.aH k.frames i).seen)) (jW held k i)):=by
 obtain⟨fb,cF,A⟩:=h.toKr.fr (by omega);have VI:=ai (KW.n9 held (i:Int) ah ch w hh hl);have x3:=A.x3 i hi;have f3:=A.fz (i*4+3);have c1:=h.c1;rw[A.v] at c1;have wj:(i:Int)<(k.frames.length:Int):=by omega
 rw[<- List.contains_eq_mem] at VI;cases hc:held.contains (i:Int) with
 | true =>
  have bB:Hid (mn lo mb tt X w S (.bool (true || (KM.aH k.frames i).seen)) (jW held k i) (.returned (.bool true)) w):=⟨by simp,by unfold jW;rw[if_pos hc];exact h,Ch.refl _ _⟩;rw[hc] at VI;obtain⟨P,hP⟩:=ex (mn lo mb tt X w S (.bool (true || (KM.aH k.frames i).seen)) (jW held k i));rw[<- hP] at bB ⊢;clear hP hc hh h A hi hl x3 f3 c1 wj;go_enter Tryz.func188,Tryz.ntmps188;go_wp2_with (go_at_call 95;refine VI.o.mono ?_;rintro e w1 ⟨rfl,rfl⟩)
  exact bB.o
 | false =>
  have bB:Hid (mn lo mb tt X w S (.bool (false || (KM.aH k.frames i).seen)) (jW held k i) (.returned (.bool (KM.aH k.frames i).seen)) (w.setCell (Ad fb (i*4+3)) (.bool false))):=⟨by simp,by
   unfold jW;rw[if_neg (by rw[hc];simp)];exact h.rX A.v hi (j:=3) (by omega) rfl,MZ h.toKr A.v⟩
  rw[hc] at VI;obtain⟨P,hP⟩:=ex (mn lo mb tt X w S (.bool (false || (KM.aH k.frames i).seen)) (jW held k i));rw[<- hP] at bB ⊢;obtain⟨F,hF⟩:=ex (KM.aH k.frames i);rw[<- hF] at x3 bB;obtain⟨n,hn⟩:=ex k.frames.length;rw[<- hn] at c1 wj;clear hP hc hh h A hi hl hF hn;go_enter Tryz.func188,Tryz.ntmps188;go_wp2_with (go_at_call 95;refine VI.o.mono ?_;rintro e w1 ⟨rfl,rfl⟩)
  exact bB.o
theorem tM {lo mb:Nat} {tt:TypeId} {X:List Value} (k:KM.Kn) (S:St) (w:World) (h:Km lo mb tt X w S k) (hh:0<=k.hand/\k.hand<k.frames.length) (hn:k.frames.length<=1000000) :
  Calls Tryz.prog 189 #[.pointer (some (Ad mb 0))] w (mn lo mb tt X w S (.tuple #[]) { k with hand:=KM.gB k }):=by
 obtain⟨fb,cF,A⟩:=h.toKr.fr (by omega);have tW:Below w.heap.size w w.drew:=(Below.refl _ _).drew;have bB:Hid (∀x,x=KM.gB k->mn lo mb tt X w S (.tuple #[]) { k with hand:=KM.gB k } (.returned (.tuple #[])) (w.setCell (Ad mb 4) (I x)).drew):=fun x hx=>by
  rw[hx];have:=h.SH (KM.gB k);exact⟨rfl,this.1.below (Below.refl _ _).drew,this.2.trans (Ch.below (Below.refl _ _).drew)⟩
 have hm:(k.hand+1).tmod (k.frames.length:Int)=KM.gB k:=by
  unfold KM.gB;rw[Int.tmod_eq_emod_of_nonneg (by omega)]
 have c1:=h.c1;rw[A.v] at c1;have c4:=h.c4;have f4:=h.free 4;obtain⟨P,hP⟩:=ex (mn lo mb tt X w S (.tuple #[]) { k with hand:=KM.gB k });rw[<- hP] at bB ⊢;obtain⟨NX,hNX⟩:=ex (KM.gB k);rw[<- hNX] at bB hm;obtain⟨hd,xN⟩:=ex k.hand;rw[<- xN] at c4 hh hm;obtain⟨n,hne⟩:=ex k.frames.length;rw[<- hne] at c1 hh hm hn;have hw:IntKind.i64.wrap (hd+1)=hd+1:=IntWalk.i64_in _ (by omega);have hn0:¬(n:Int)=0:=by omega
 have hnb:((n:Int)==0)=false:=by rw[beq_eq_false_iff_ne];exact hn0
 have hNb:-9223372036854775808<=NX/\NX<=9223372036854775807:=by
  have h1:0<=(hd+1).tmod (n:Int):=Int.tmod_nonneg _ (by omega);have h2:(hd+1).tmod (n:Int)<(n:Int):=Int.tmod_lt_of_pos _ (by omega);omega
 have hw2:IntKind.i64.wrap NX=NX:=IntWalk.i64_in _ hNb;clear hP hNX xN hne h A;go_enter Tryz.func189,Tryz.ntmps189;go_region
 all_goals go_wp2
 all_goals refine bodyPost_end (v:=.tuple #[]) (by simp[results,Tryz.results189,go_sem]) rfl ?_
 all_goals exact bB.o _ rfl
end KX
namespace KI
open Go.RowKit GK
open KW (aK)
open KS (blk gW)
open FW (ai aD)
theorem fL (l:KM.En):(aK l).length=3:=rfl
theorem Ej (w:World):(sizeOf 45).run Tryz.prog w=.ok 3 w:=by kernel_rfl
theorem YV (w:World):(zeroValue 45).run Tryz.prog w=.ok (.agg #[I 0,I 0,I 0]) w:=by kernel_rfl
def kX (lo:Nat) (vp:Value) (l:List KM.En) (w:World) (e:Ending) (w':World):Prop:=∃v',e=.returned v'/\w'.ownsRow lo 45 3 v' l.length (l.flatMap aK)/\Kp (blk vp) w w'/\(∀b,blk v' b->blk vp b∨w.heap.size<=b)
theorem fF {α:Type} {w:World} {lo:Nat} {e:TypeId} {k n:Nat} {ao:Option Addr} {cap:Nat} {xs:List Value} (h:w.ownsRow lo e k (.slice ao n cap) n xs):From w ao n xs:=fun hm=>by
 rcases h.2 with⟨h0,h1⟩ | ⟨g,cap',cur,hv,_,hg,_,_,_,ht⟩
 · omega
 · injection hv with e1 e2 e3;refine⟨(Ad g 0),e1,fun j u hu=>?_⟩;rw[Addr.add_lit,Nat.zero_add,cell_of_row w g j cur e (0,0) hg];rw[<- ht,List.getElem?_take] at hu;split at hu
   · simpa using hu
   · cases hu
theorem Hr (lo:Nat) (ps zs:List KM.En) (ao az:Option Addr) (cap cz wz:Nat) (w:World) (h:w.ownsRow lo 45 3 (.slice ao ps.length cap) ps.length (ps.flatMap aK)) (hz:w.ownsRow wz 45 3 (.slice az zs.length cz) zs.length (zs.flatMap aK)) (hlo:lo<=w.heap.size) (hm:1<=zs.length) (hn:ps.length<=100000) (rI:zs.length<=100000) :
  Calls Tryz.prog 192 #[.slice ao ps.length cap,I (ps.length:Int),.slice az zs.length cz] w (kX lo (.slice ao ps.length cap) (ps++zs) w):=by
 have HH:=ai h;have HF:=ai (fF (α:=Unit) hz);have HL:=ai (bK aK 3 fL zs);have H1:=ai (gW zs);obtain⟨_,_,e0,uW,_⟩:=aN h;injection e0 with e1 e2 e3;subst e3;obtain⟨n,hne⟩:=ex ps.length;obtain⟨m,hme⟩:=ex zs.length;have bB:Hid (∀v' (w':World),w'.ownsRow lo 45 3 v' (n+m) (ps.flatMap aK++zs.flatMap aK)->Kp (blk (.slice ao n cap)) w w'->(∀b,blk v' b->blk (.slice ao n cap) b∨w.heap.size<=b)->kX lo (.slice ao n cap) (ps++zs) w (.returned v') w'):=fun v' w' h1 h2 h3=>⟨v',rfl,by rw[List.length_append,List.flatMap_append,<- hne,<- hme];exact h1,h2,h3⟩
 rw[<- hne] at HH hn uW ⊢;rw[<- hme] at HF HL hm rI ⊢;obtain⟨P,hP⟩:=ex (kX lo (.slice ao n cap) (ps++zs) w);rw[<- hP] at bB ⊢;obtain⟨XS,MU⟩:=ex (ps.flatMap aK);obtain⟨ZS,RP⟩:=ex (zs.flatMap aK);rw[<- MU] at HH bB;rw[<- RP] at HF HL H1 bB;obtain⟨i0,hin,hz0,hz1,hz2⟩:=info_parts y9;have ry:=ai hin;have vo:=ai hz0;have vk:=ai hz1;have uj:=ai hz2;have hm0:((m:Int)==0)=false:=by rw[beq_eq_false_iff_ne];omega
 clear h hz hne hme hP MU RP hin hz0 hz1 hz2 e1 e2;go_enter Tryz.func192,Tryz.ntmps192;go_wp2_with (at_builtin;refine bO (P:=Tryz.prog) rfl _ _ 41 rfl lo 45 i0 (.agg #[I 0,I 0,I 0]) 3 24 Tryz.underlying41 ry.o vo.o vk.o uj.o rfl (by decide) (.slice ao n cap) n XS rfl HH.o az m cz ZS rfl HL.o HF.o H1.o (by unfold maxLen;omega) (by omega) hlo ?_;intro v' w' hown hgr hat;have oh:=ai hown;have HG2:=ai hgr;have ni:=ai hat;clear hown hgr hat)
 all_goals
  refine bB.o _ _ oh.o (Kp.grown HG2.o (fun _ e=>e)) (fun b hb=>?_);unfold blk at hb ⊢;rcases ni.o with e | e
  · exact .inl (by rw[<- e];exact hb)
  · right;rw[e] at hb;injection hb with hb;omega
theorem take_left' {α:Type} (a b:List α) (n:Nat) (h:a.length=n):(a++b).take n=a:=by subst h;exact List.take_left
theorem drop_left' {α:Type} (a b:List α) (n:Nat) (h:a.length=n):(a++b).drop n=b:=by subst h;exact List.drop_left
theorem KJ {α:Type} (R Y X:List α) (a b:Nat) (hb:b=a+Y.length) (h:b+X.length<=R.length):(splice (splice R a Y) b X).take (b+X.length)=R.take a++(Y++X):=by
 subst hb;have h1:(splice R a Y).take (a+Y.length)=R.take a++Y:=by
  unfold splice;rw[<- List.append_assoc];exact take_left' _ _ _ (by rw[List.length_append,List.length_take];omega)
 unfold splice at h1 ⊢;rw[h1,<- List.append_assoc,List.append_assoc (R.take a) Y X];exact take_left' _ _ _ (by rw[List.length_append,List.length_take,List.length_append];omega)
theorem Eh {α:Type} (R Y X:List α) (a b:Nat) (hb:b=a+Y.length) (h:b+X.length<=R.length):(splice (splice R b X) a Y).take (b+X.length)=R.take a++(Y++X):=by
 subst hb;have h1:(splice R (a+Y.length) X).take a=R.take a:=by
  unfold splice;rw[List.take_append_of_le_length (by rw[List.length_take];omega),List.take_take,Nat.min_eq_left (by omega)]
 have h2:(splice R (a+Y.length) X).drop (a+Y.length)=X++R.drop (a+Y.length+X.length):=by
  unfold splice;exact drop_left' _ _ _ (by rw[List.length_take];omega)
 have h3:splice (splice R (a+Y.length) X) a Y=R.take a++(Y++(X++R.drop (a+Y.length+X.length))):=by
  rw[<- h2,<- h1];rfl
 rw[h3,<- List.append_assoc,<- List.append_assoc,List.append_assoc (R.take a) Y X];exact take_left' _ _ _ (by rw[List.length_append,List.length_take,List.length_append];omega)
theorem Cj (ps:List KM.En) (i:Nat):(ps.flatMap aK).drop (i*3)=(ps.drop i).flatMap aK:=by
 induction ps generalizing i with
 | nil=>simp
 | cons a r ih =>
  cases i with
  | zero=>simp
  | succ i =>
   rw[List.flatMap_cons,List.drop_succ_cons,<- ih i,show(i+1)*3=i*3+3 by omega];rfl
theorem uE (ps:List KM.En) (i:Nat):(ps.flatMap aK).take (i*3)=(ps.take i).flatMap aK:=by
 induction ps generalizing i with
 | nil=>simp
 | cons a r ih =>
  cases i with
  | zero=>simp
  | succ i =>
   rw[List.flatMap_cons,List.take_succ_cons,List.flatMap_cons,<- ih i,show(i+1)*3=i*3+3 by omega];rfl
theorem uH (w:World) (g:Nat) (cs:Array Value):Kp (fun b=>b=g) w (w.setRow g cs):=⟨rfl,rfl,rfl,by simp[World.setRow],fun b _ hn=>setRow_other w g b cs hn⟩
theorem C6 (lo:Nat) (ps zs:List KM.En) (pb zb cap cz wz i:Nat) (w:World) (h:w.ownsRow lo 45 3 (.slice (some (Ad pb 0)) ps.length cap) ps.length (ps.flatMap aK)) (hz:w.ownsRow wz 45 3 (.slice (some (Ad zb 0)) zs.length cz) zs.length (zs.flatMap aK)) (hne:zb≠pb) (hi:i<ps.length) (hm:1<=zs.length) (hn:ps.length<=100000) (rI:zs.length<=100000) (hroom:ps.length+zs.length<=cap) :
  Calls Tryz.prog 192 #[.slice (some (Ad pb 0)) ps.length cap,I (i:Int),.slice (some (Ad zb 0)) zs.length cz] w (kX lo (.slice (some (Ad pb 0)) ps.length cap) (ps.take i++(zs++ps.drop i)) w):=by
 have MH:=ai (fF (α:=Unit) hz);have pG:=ai (fF (α:=Unit) h);have H1:=ai (gW zs);have Sn:=ai (gW ps);obtain⟨cur,hcz,WE,hcs,hct,hlo,hcm⟩:∃cur:Array Value,cur.size=cap*3/\w.heap[pb]?=some (.cells cur 45 (0,0))/\cap<=maxLen/\cur.toList.take (ps.length*3)=ps.flatMap aK/\lo<=pb/\ps.length<=cap:=by
  rcases h.2 with⟨h0,_⟩ | ⟨g,cap',cur,hv,hb,hg,h1,h2,h3,h4⟩
  · cases h0
  · injection hv with e1 e2 e3;injection e1 with e1;injection e1 with e1 _ _;subst e1 e3;exact⟨cur,h3,hg,h2,h4,hb,h1⟩
 obtain⟨Ns,hzg,adt⟩:∃Ns:Array Value,w.heap[zb]?=some (.cells Ns 45 (0,0))/\0<Ns.size:=by
  rcases hz.2 with⟨h0,_⟩ | ⟨g,cap',zc,hv,hb,hg,h1,h2,h3,h4⟩
  · cases h0
  · injection hv with e1 e2 e3;injection e1 with e1;injection e1 with e1 _ _;subst e1;exact⟨zc,hg,by rw[h3];omega⟩
 have hlx:=bK aK 3 fL ps;have H0:=bK aK 3 fL zs;obtain⟨R,hR⟩:=ex cur.toList;have PI:R.length=cap*3:=by rw[hR];simpa using hcz
 have hRg:w.heap[pb]?=some (.cells R.toArray 45 (0,0)):=by rw[hR];simpa using WE
 rw[<- hR] at hct;obtain⟨n,zg⟩:=ex ps.length;obtain⟨m,hme⟩:=ex zs.length;obtain⟨XS,MU⟩:=ex (ps.flatMap aK);obtain⟨ZS,RP⟩:=ex (zs.flatMap aK);rw[<- RP] at MH H1 H0;rw[<- MU] at pG hlx hct Sn;rw[<- hme] at MH H0 hm rI hroom ⊢;rw[<- zg] at pG hlx hct hi hn hroom hcm ⊢;obtain⟨DS,PQ⟩:=ex (XS.drop (i*3));have hDl:DS.length=(n-i)*3:=by rw[PQ,List.length_drop,hlx];omega
 obtain⟨R1,uy⟩:=ex (splice R ((i+m)*3) DS);have Dg:R1.length=cap*3:=by rw[uy,length_splice _ _ _ (by rw[hDl,PI];omega)];exact PI
 obtain⟨R2,Df⟩:=ex (splice R1 (i*3) ZS);have Ic:R2.length=cap*3:=by rw[Df,length_splice _ _ _ (by rw[H0,Dg];omega)];exact Dg
 have PJ:R2.take ((n+m)*3)=XS.take (i*3)++(ZS++DS):=by
  have:=Eh R ZS DS (i*3) ((i+m)*3) (by rw[H0];omega) (by rw[hDl,PI];omega);rw[<- uy,<- Df,hDl,show(i+m)*3+(n-i)*3=(n+m)*3 by omega] at this;rw[this,<- hct,List.take_take,Nat.min_eq_left (by omega)]
 have Pw:∀ty dc sc,(Builtin.copy_ #[41,41] ty #[.slice (some (Ad pb ((i+m)*3))) (n+m-(i+m)) dc,.slice (some (Ad pb (i*3))) (n+m-i) sc]).run Tryz.prog w.drew=.ok (goInt (n-i)) (w.drew.setRow pb R1.toArray):=fun ty dc sc=>by
  have:=kZ (P:=Tryz.prog) w.drew 41 41 ty 45 3 Tryz.underlying41 Ej pb ((i+m)*3) (n+m-(i+m)) dc (some (Ad pb (i*3))) (n+m-i) sc R 45 hRg DS (by rw[hDl];simp only[Nat.min_def];split <;> omega) (fun _=>⟨_,rfl,fun j u hu=>by
   obtain⟨ad,e,hc⟩:=pG.o (by omega);injection e with e;subst e;have:=hc (i*3+j) u (by rw[PQ,List.getElem?_drop] at hu;exact hu);rw[Addr.add_lit] at this ⊢;rw[Nat.zero_add] at this;exact this⟩) (by rw[hDl,PI];omega) (fun u hu=>Sn.o u (by rw[PQ] at hu;exact List.mem_of_mem_drop hu))
  rw[this,<- uy];congr 2;simp only[Nat.min_def];split <;> omega
 have hg1:(w.drew.setRow pb R1.toArray).heap[pb]?=some (.cells R1.toArray 45 (0,0)):=setRow_heap w.drew pb _ _ _ _ hRg;obtain⟨W1,hW1⟩:=ex (w.drew.setRow pb R1.toArray);rw[<- hW1] at Pw hg1;have Wj:Kp (fun b=>b=pb) w W1:=by rw[hW1];exact(Kp.drew _ w).trans (uH w.drew pb R1.toArray) (fun _ _ g=>g)
 have WM:∀ty dc,(Builtin.copy_ #[41,41] ty #[.slice (some (Ad pb (i*3))) (n+m-i) dc,.slice (some (Ad zb 0)) m cz]).run Tryz.prog W1=.ok (goInt m) (W1.setRow pb R2.toArray):=fun ty dc=>by
  have:=kZ (P:=Tryz.prog) W1 41 41 ty 45 3 Tryz.underlying41 Ej pb (i*3) (n+m-i) dc (some (Ad zb 0)) m cz R1 45 hg1 ZS (by rw[H0];simp only[Nat.min_def];split <;> omega) (fun _=>⟨_,rfl,fun j u hu=>by
   obtain⟨ad,e,hc⟩:=MH.o (by omega);injection e with e;subst e;have:=hc j u hu;exact Wj.cell this (by rw[Addr.add_lit];exact hne)⟩) (by rw[H0,Dg];omega) H1.o
  rw[this,<- Df];congr 2;simp only[Nat.min_def];split <;> omega
 have hg2:(W1.setRow pb R2.toArray).heap[pb]?=some (.cells R2.toArray 45 (0,0)):=setRow_heap W1 pb _ _ _ _ hg1;have bB:Hid (kX lo (.slice (some (Ad pb 0)) n cap) (ps.take i++(zs++ps.drop i)) w (.returned (.slice (some (Ad pb 0)) (n+m) cap)) (W1.setRow pb R2.toArray)):=by
  have hl:(ps.take i++(zs++ps.drop i)).length=n+m:=by rw[List.length_append,List.length_append,List.length_take,List.length_drop,<- zg,<- hme];omega
  refine⟨_,rfl,?_,(Wj.trans (uH W1 pb _) (fun _ _ g=>g)).mono (fun b _ e=>by rw[e];rfl),fun b hb=>.inl hb⟩;rw[hl];have hx:(ps.take i++(zs++ps.drop i)).flatMap aK=R2.take ((n+m)*3):=by
   rw[PJ,MU,RP,PQ,MU,uE,Cj,List.flatMap_append,List.flatMap_append]
  rw[hx];exact⟨by rw[List.length_take,Ic];omega,.inr ⟨pb,cap,R2.toArray,rfl,hlo,hg2,hroom,hcs,by simpa using Ic,by simp⟩⟩
 obtain⟨P,hP⟩:=ex (kX lo (.slice (some (Ad pb 0)) n cap) (ps.take i++(zs++ps.drop i)) w);rw[<- hP] at bB ⊢;have hov:∀lb cb,(callFunc 205 #[.slice (some (Ad zb 0)) m cz,.slice (some (Ad pb ((i+m)*3))) lb cb]).run Tryz.prog w=.ok (.value (.bool false)) w:=fun lb cb=>by
  rw[run_callFunc_extern Tryz.func205 (by kernel_rfl) (by kernel_rfl) (by kernel_rfl) (e:=Extern.SlicesOverlaps.overlaps #[41,41] #[4]) (by kernel_rfl),
   Lib.run_overlaps_apart w 41 4 45 Tryz.underlying41 3 Ej (Ad zb 0) (Ad pb ((i+m)*3)) m cz lb cb hne 45 45 Ns.size cur.size (by simp[World.shape?,hzg]) (by simp[World.shape?,WE]) (by omega) (B.free hzg 0) (B.free hzg Ns.size)]
  rfl
 have hm0:((m:Int)==0)=false:=by rw[beq_eq_false_iff_ne];omega
 have hi0:((i:Int)==(n:Int))=false:=by rw[beq_eq_false_iff_ne];omega
 have hw1:IntKind.i64.wrap ((i:Int)+(m:Int))=(i:Int)+(m:Int):=IntWalk.i64_in _ (by omega);have hb1:(0:Int)<=(i:Int)+(m:Int):=by omega
 have hin:i<=n:=by omega
 have htn:((i:Int)+(m:Int)).toNat=i+m:=by omega
 have hb2:¬(cap=i+m):=by omega
 have hb3:(i:Int)<=(n:Int)+(m:Int):=by omega
 have hb4:¬(cap=i):=by omega
 have hr2:¬((cap:Int)<(n:Int)+(m:Int)):=by omega
 have Z6:cap<=9223372036854775807:=by unfold maxLen at hcs;omega
 clear h hz zg hme MU RP PQ hDl uy Df hW1 hR PI hRg Dg Ic PJ hlx H0 hct WE hcz hzg adt hP hg1 hg2 Wj MH pG H1 Sn hcs;go_enter Tryz.func192,Tryz.ntmps192;go_wp2_with (simp only[hov])
 go_region_law (refine Am rfl _ _ 41 41 rfl _ _ (by simp[Act.eval,Act.put]) (by simp[Act.eval,Act.put]) (Pw _ _ _) ?_)
 go_wp2_with (at_builtin;refine xc _ rfl _ _ 41 41 rfl _ _ rfl rfl (WM _ _) ?_)
 exact bB.o
end KI
end Go.Proofs.YtpgifpeohlllfaaGreat
