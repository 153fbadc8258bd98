import Derived.Test.YtpgifpeohlllfaaGreatGP00
import Derived.Test.YtpgifpeohlllfaaGreatGP26
import Derived.Test.YtpgifpeohlllfaaGreatGP23
import Derived.Deep.DeepCutAuto
set_option maxHeartbeats 20000000
set_option linter.unusedVariables false
set_option maxRecDepth 100000
set_option linter.unusedSimpArgs false
namespace Go.Proofs.YtpgifpeohlllfaaGreat
namespace KY
open Go.RowKit GK KO
open FW (ai aC)
open KW (bE bD aI aU fe cO aH dH bQ)
open KS (Lc bO oD dm blk cT)
theorem Ti:∀(l:List KM.Fr),∀u∈l.flatMap bE,u.oneCell'=true:=fun l u hu=>by
 obtain⟨y,_,hy⟩:=List.mem_flatMap.1 hu
 simp[bE] at hy
 rcases hy with rfl | rfl | rfl | rfl <;> rfl
theorem RZ:∀(l:List KM.Sl),∀u∈l.flatMap bD,u.oneCell'=true:=fun l u hu=>by
 obtain⟨y,_,hy⟩:=List.mem_flatMap.1 hu
 simp[bD] at hy
 rcases hy with rfl | rfl <;> rfl
theorem R7:∀(l:List LM.Sh),∀u∈l.flatMap jx,u.oneCell'=true:=fun l u hu=>by
 obtain⟨y,_,hy⟩:=List.mem_flatMap.1 hu
 simp[jx] at hy
 rcases hy with rfl | rfl | rfl <;> rfl
theorem Tg:∀(l:List LM.Fx),∀u∈l.flatMap lT,u.oneCell'=true:=fun l u hu=>by
 obtain⟨y,_,hy⟩:=List.mem_flatMap.1 hu
 simp[lT] at hy
 rcases hy with rfl | rfl <;> rfl
theorem iC {α:Type} {f:α->List Value} {n:Nat} (hf:∀x,(f x).length=n) {d:α} {w:World} {ao:Option Addr} {l:List α} (h:aU f n d w ao l):From w ao l.length (l.flatMap f):=fun hm=>by
 obtain⟨b,off,rfl,hb,hl⟩:=h hm
 exact KS.pJ (w:=w) f n hf d l b off (fun i hi j hj=>hl i hi j hj) hm
theorem R4 {w:World} {ao:Option Addr} {l:List LM.Sh} (h:LM.jg w ao l):aU jx 3 LM.JV w ao l:=fun hl=>by
 obtain⟨b,off,e,hb,hi⟩:=h hl
 refine⟨b,off,e,hb,fun i hlt j hj=>?_⟩
 obtain⟨c0,c1,c2,_⟩:=hi i hlt
 match j,hj with
 | 0,_=>exact c0
 | 1,_=>exact c1
 | 2,_=>exact c2
theorem Tf {w:World} {ao:Option Addr} {l:List LM.Fx} (h:LM.ou w ao l):aU lT 2 LM.Wj w ao l:=fun hl=>by
 obtain⟨b,off,e,hb,hi⟩:=h hl
 refine⟨b,off,e,hb,fun i hlt j hj=>?_⟩
 obtain⟨c0,c1⟩:=hi i hlt
 match j,hj with
 | 0,_=>exact c0
 | 1,_=>exact c1
structure Four (lo:Nat) (WA wx:World) (cb:Nat) (vS vF vL:Value) (hd:Int) (k:KM.Kn):Prop where
 head:wx.heap[cb]?=some (.cells #[vS,vF,vL,Nl,I hd] 27 (0,0))
 hlo:lo<=cb
 rS:wx.ownsRow lo 50 3 vS k.ak.length (k.ak.flatMap jx)
 rF:wx.ownsRow lo 40 4 vF k.frames.length (k.frames.flatMap bE)
 rL:wx.ownsRow lo 86 2 vL k.slots.length (k.slots.flatMap bD)
 d1:∀b,blk vS b->¬blk vF b/\¬blk vL b/\b≠cb
 d2:∀b,blk vF b->¬blk vL b/\b≠cb
 d3:∀b,blk vL b->b≠cb
 below:Below WA.heap.size WA wx
theorem tD {WA V1 w1 V2 w2 V3 w3 V4:World} {cb:Nat} {vS vF vL:Value} {hd:Int} {k:KM.Kn} (b0:Below WA.heap.size WA V1) (h1:w1.ownsRow V1.heap.size 50 3 vS k.ak.length (k.ak.flatMap jx)) (b1:Below V1.heap.size V1 w1) (Wo:Below w1.heap.size w1 V2)
  (h2:w2.ownsRow V2.heap.size 40 4 vF k.frames.length (k.frames.flatMap bE)) (b2:Below V2.heap.size V2 w2) (Tt:Below w2.heap.size w2 V3) (h3:w3.ownsRow V3.heap.size 86 2 vL k.slots.length (k.slots.flatMap bD)) (b3:Below V3.heap.size V3 w3) (Ri:Below w3.heap.size w3 V4)
  (hcb:V4.heap[cb]?=some (.cells #[Nl,Nl,Nl,Nl,I 0] 27 (0,0))) (hlo:WA.heap.size<=cb) (hout:cb<V1.heap.size∨(w1.heap.size<=cb/\cb<V2.heap.size)∨(w2.heap.size<=cb/\cb<V3.heap.size)∨w3.heap.size<=cb) :
  Four WA.heap.size WA (((((V4.setCell (Ad cb 0) vS).setCell (Ad cb 1) vF).setCell (Ad cb 2) vL).setCell (Ad cb 3) Nl).setCell (Ad cb 4) (I hd)) cb vS vF vL hd k:=by
 have s0:=b0.size
 have s1:=b1.size
 have s12:=Wo.size
 have s2:=b2.size
 have YO:=Tt.size
 have s3:=b3.size
 have s34:=Ri.size
 have kp:Kp (fun b=>b=cb) V4 (((((V4.setCell (Ad cb 0) vS).setCell (Ad cb 1) vF).setCell (Ad cb 2) vL).setCell (Ad cb 3) Nl).setCell (Ad cb 4) (I hd)):=((((Kp.set (fun b=>b=cb) V4 (Ad cb 0) _ rfl).trans (Kp.set (fun b=>b=cb) _ (Ad cb 1) _ rfl) (fun _ _ g=>g)).trans (Kp.set (fun b=>b=cb) _ (Ad cb 2) _ rfl) (fun _ _ g=>g)).trans (Kp.set (fun b=>b=cb) _ (Ad cb 3) _ rfl) (fun _ _ g=>g)).trans (Kp.set (fun b=>b=cb) _ (Ad cb 4) _ rfl) (fun _ _ g=>g)
 have Xy:Below w1.heap.size w1 V4:=((Wo.trans (b2.mono s12)).trans (Tt.mono (by omega))).trans ((b3.mono (by omega)).trans (Ri.mono (by omega)))
 have B23:Below w2.heap.size w2 V4:=(Tt.trans (b3.mono YO)).trans (Ri.mono (by omega))
 have e1:∀b,blk vS b->V1.heap.size<=b/\b<w1.heap.size:=fun b hb=>h1.lt b hb
 have e2:∀b,blk vF b->V2.heap.size<=b/\b<w2.heap.size:=fun b hb=>h2.lt b hb
 have e3:∀b,blk vL b->V3.heap.size<=b/\b<w3.heap.size:=fun b hb=>h3.lt b hb
 have row:∀{e:TypeId} {n m lo:Nat} {v:Value} {xs:List Value} {W:World},W.ownsRow lo e n v m xs->Below W.heap.size W V4->WA.heap.size<=lo->(∀b,blk v b->b≠cb)->World.ownsRow _ WA.heap.size e n v m xs:=fun hr hb hl hn=>kp.row (km ((Kp.aW (D:=fun _=>False) hb).row hr (fun _ _ g=>g)) (fun g hg=>by have:=(hr.lt g hg).1;omega)) (fun b hb2=>hn b hb2)
 refine⟨?_,hlo,row h1 Xy (by omega) (fun b hb=>by have:=e1 b hb;omega),row h2 B23 (by omega) (fun b hb=>by have:=e2 b hb;omega),row h3 Ri (by omega) (fun b hb=>by have:=e3 b hb;omega),fun b hb=>⟨fun x=>by have:=e1 b hb;have:=e2 b x;omega,fun x=>by have:=e1 b hb;have:=e3 b x;omega,by have:=e1 b hb;omega⟩,fun b hb=>⟨fun x=>by have:=e2 b hb;have:=e3 b x;omega,by have:=e2 b hb;omega⟩,fun b hb=>by have:=e3 b hb;omega,?_⟩
 · exact B.set (B.set (B.set (B.set (B.set hcb 0 vS) 1 vF) 2 vL) 3 Nl) 4 (I hd)
 · exact Kp.below (b0.trans ((b1.trans (Xy.mono s1)).mono s0)) kp (by omega) (fun b e=>by omega)
theorem ME {WA V1 w1 V2 w2 V3 w3:World} {vS vF vL:Value} {hd:Int} {k:KM.Kn} (b0:Below WA.heap.size WA V1) (h1:w1.ownsRow V1.heap.size 50 3 vS k.ak.length (k.ak.flatMap jx)) (b1:Below V1.heap.size V1 w1) (Wo:Below w1.heap.size w1 V2)
  (h2:w2.ownsRow V2.heap.size 40 4 vF k.frames.length (k.frames.flatMap bE)) (b2:Below V2.heap.size V2 w2) (Tt:Below w2.heap.size w2 V3) (h3:w3.ownsRow V3.heap.size 86 2 vL k.slots.length (k.slots.flatMap bD)) (b3:Below V3.heap.size V3 w3) :
  Four WA.heap.size WA (w3.alloc (.cells #[vS,vF,vL,Nl,I hd] 27)) w3.heap.size vS vF vL hd k:=by
 have s0:=b0.size
 have s1:=b1.size
 have s12:=Wo.size
 have s2:=b2.size
 have YO:=Tt.size
 have s3:=b3.size
 have Ri:Below w3.heap.size w3 (w3.alloc (.cells #[vS,vF,vL,Nl,I hd] 27)):=(Below.refl _ _).alloc (Nat.le_refl _) _
 have Xy:Below w1.heap.size w1 (w3.alloc (.cells #[vS,vF,vL,Nl,I hd] 27)):=((Wo.trans (b2.mono s12)).trans (Tt.mono (by omega))).trans ((b3.mono (by omega)).trans (Ri.mono (by omega)))
 have B23:Below w2.heap.size w2 (w3.alloc (.cells #[vS,vF,vL,Nl,I hd] 27)):=(Tt.trans (b3.mono YO)).trans (Ri.mono (by omega))
 have e1:∀b,blk vS b->V1.heap.size<=b/\b<w1.heap.size:=fun b hb=>h1.lt b hb
 have e2:∀b,blk vF b->V2.heap.size<=b/\b<w2.heap.size:=fun b hb=>h2.lt b hb
 have e3:∀b,blk vL b->V3.heap.size<=b/\b<w3.heap.size:=fun b hb=>h3.lt b hb
 have row:∀{e:TypeId} {n m lo:Nat} {v:Value} {xs:List Value} {W:World},W.ownsRow lo e n v m xs->Below W.heap.size W (w3.alloc (.cells #[vS,vF,vL,Nl,I hd] 27))->WA.heap.size<=lo->World.ownsRow _ WA.heap.size e n v m xs:=fun hr hb hl=>km ((Kp.aW (D:=fun _=>False) hb).row hr (fun _ _ g=>g)) (fun g hg=>by have:=(hr.lt g hg).1;omega)
 refine⟨B.new w3 _ _,by omega,row h1 Xy (by omega),row h2 B23 (by omega),row h3 Ri (by omega),fun b hb=>⟨fun x=>by have:=e1 b hb;have:=e2 b x;omega,fun x=>by have:=e1 b hb;have:=e3 b x;omega,by have:=e1 b hb;omega⟩,fun b hb=>⟨fun x=>by have:=e2 b hb;have:=e3 b x;omega,by have:=e2 b hb;omega⟩,fun b hb=>by have:=e3 b hb;omega,?_⟩
 exact b0.trans ((b1.trans (Xy.mono s1)).mono s0)
structure Kh (lo cb:Nat) (w:World) (lab:Nat->Lb) (vS vF vL:Value) (k:KM.Kn) (hs:List LM.Sh) (n:Nat):Prop where
 mW:∀b,lab b≠.no->lo<=b/\b<w.heap.size
 head:w.heap[cb]?=some (.cells #[vS,vF,vL,Nl,I k.hand] 27 (0,0))
 lH:lab cb=.head
 ak:w.ownsRow lo 50 3 vS hs.length (hs.flatMap jx)
 bq:∀i,i<n->w.ownsRow lo 52 2 (vX (LM.aY hs i)) (LM.aY hs i).bq.length ((LM.aY hs i).bq.flatMap lT)
 frames:w.ownsRow lo 40 4 vF k.frames.length (k.frames.flatMap bE)
 slots:w.ownsRow lo 86 2 vL k.slots.length (k.slots.flatMap bD)
 lS:∀b,blk vS b->lab b=.ak
 lX:∀i,i<n->∀b,blk (vX (LM.aY hs i)) b->lab b=.bq i
 lF:∀b,blk vF b->lab b=.frames
 lL:∀b,blk vL b->lab b=.slots
 same:KM.Same k.ak hs
 rest:∀i,n<=i->LM.aY hs i=LM.aY k.ak i
theorem PB {lo:Nat} {WA w:World} {cb:Nat} {vS vF vL:Value} {k:KM.Kn} (h:Four lo WA w cb vS vF vL k.hand k):∃lab,Kh lo cb w lab vS vF vL k k.ak 0:=by
 refine⟨fun b=>if b=cb then .head else if vS.ownBlock=some b then .ak else if vF.ownBlock=some b then .frames else if vL.ownBlock=some b then .slots else .no,⟨fun b hb=>?_,h.head,if_pos rfl,h.rS,fun i hi=>absurd hi (Nat.not_lt_zero _),h.rF,h.rL,fun b hb=>?_,fun i hi=>absurd hi (Nat.not_lt_zero _),fun b hb=>?_,fun b hb=>?_,rfl,fun i hi=>rfl⟩⟩
 · by_cases c0:b=cb
   · rw[c0]
     exact⟨h.hlo,B.isLt h.head⟩
   · by_cases c1:vS.ownBlock=some b
     · exact h.rS.lt b c1
     · by_cases c2:vF.ownBlock=some b
       · exact h.rF.lt b c2
       · by_cases c3:vL.ownBlock=some b
         · exact h.rL.lt b c3
         · exfalso
           apply hb
           simp[c0,c1,c2,c3]
 · have hb':vS.ownBlock=some b:=hb
   have:=h.d1 b hb
   rw[if_neg this.2.2,if_pos hb']
 · have hb':vF.ownBlock=some b:=hb
   have:=h.d2 b hb
   rw[if_neg this.2,if_neg (show ¬vS.ownBlock=some b from fun x=>(h.d1 b x).1 hb),if_pos hb']
 · have hb':vL.ownBlock=some b:=hb
   have:=h.d3 b hb
   rw[if_neg this,if_neg (show ¬vS.ownBlock=some b from fun x=>(h.d1 b x).2.1 hb),if_neg (show ¬vF.ownBlock=some b from fun x=>(h.d2 b x).1 hb),if_pos hb']
theorem Kh.kp {lo cb:Nat} {w w':World} {lab:Nat->Lb} {vS vF vL:Value} {k:KM.Kn} {hs:List LM.Sh} {n:Nat} (h:Kh lo cb w lab vS vF vL k hs n) {E:Nat->Prop} (hk:Kp E w w') (he:∀b,lab b≠.no->¬E b):Kh lo cb w' lab vS vF vL k hs n:=by
 have z:∀{b:Nat} {c:Lb},lab b=c->c≠.no->¬E b:=fun e hc=>he _ (by rw[e];exact hc)
 exact⟨fun b hb=>⟨(h.mW b hb).1,Nat.lt_of_lt_of_le (h.mW b hb).2 hk.size⟩,hk.keep h.head (z h.lH (by simp)),h.lH,hk.row h.ak (fun b hb=>z (h.lS b hb) (by simp)),fun i hi=>hk.row (h.bq i hi) (fun b hb=>z (h.lX i hi b hb) (by simp)),hk.row h.frames (fun b hb=>z (h.lF b hb) (by simp)),hk.row h.slots (fun b hb=>z (h.lL b hb) (by simp)),h.lS,h.lX,h.lF,h.lL,h.same,h.rest⟩
theorem Kh.below {lo cb:Nat} {w w':World} {lab:Nat->Lb} {vS vF vL:Value} {k:KM.Kn} {hs:List LM.Sh} {n:Nat} (h:Kh lo cb w lab vS vF vL k hs n) (hb:Below w.heap.size w w'):Kh lo cb w' lab vS vF vL k hs n:=h.kp (Kp.aW (D:=fun _=>False) hb) (fun _ _ g=>g)
theorem vT (l:List LM.Sh) (i m:Nat) (x:LM.Sh) (hi:i<l.length):LM.aY (l.set i x) m=if i=m then x else LM.aY l m:=by
 unfold LM.aY
 by_cases c:i=m
 · subst c;rw[if_pos rfl,KM.bw _ _ _ _ hi]
 · rw[if_neg c,KM.getD_set_ne _ _ _ _ _ c]
theorem yX:∀(l:List LM.Sh) (i:Nat) (x:LM.Sh),i<l.length->LM.plain x=LM.plain (LM.aY l i)->(l.set i x).map LM.plain=l.map LM.plain
 | [],i,x,hi,_=>absurd hi (Nat.not_lt_zero _)
 | a::r,0,x,hi,e=>by
  show LM.plain x::_=LM.plain a::_
  rw[e]
  rfl
 | a::r,i+1,x,hi,e=>by
  show LM.plain a::(r.set i x).map LM.plain=LM.plain a::_
  rw[yX r i x (Nat.lt_of_succ_lt_succ hi) e]
theorem Kh.step {lo cb:Nat} {w w1:World} {lab:Nat->Lb} {vF vL:Value} {k:KM.Kn} {hs:List LM.Sh} {n:Nat} {sb m cS:Nat} {ax:Option Addr} {cx:Nat} (h:Kh lo cb w lab (.slice (some (Ad sb 0)) m cS) vF vL k hs n) (hn:n<hs.length) (hlo:lo<=w.heap.size) (hb:Below w.heap.size w w1)
  (hr:w1.ownsRow w.heap.size 52 2 (.slice ax (LM.aY hs n).bq.length cx) (LM.aY hs n).bq.length ((LM.aY hs n).bq.flatMap lT)) :
  ∃lab',Kh lo cb (w1.setCell (Ad sb (n*3+2)) (.slice ax (LM.aY hs n).bq.length cx)) lab' (.slice (some (Ad sb 0)) m cS) vF vL k (hs.set n ⟨(LM.aY hs n).page,(LM.aY hs n).data,(LM.aY hs n).bq,ax,cx⟩) (n+1)/\∀b,b<w.heap.size->lab' b=lab b:=by
 have h1:=h.below hb
 obtain⟨v,hv⟩:∃v:Value,v=.slice ax (LM.aY hs n).bq.length cx:=⟨_,rfl⟩
 rw[<- hv] at hr ⊢
 have oU:lab sb=.ak:=h.lS sb rfl
 have mM:Kp (fun b=>b=sb) w1 (w1.setCell (Ad sb (n*3+2)) v):=Kp.set _ _ _ _ rfl
 have z:∀{b:Nat} {c:Lb},lab b=c->c≠.ak->¬b=sb:=fun e hc x=>hc (by rw[<- e,x];exact oU)
 have ev:∀b,blk v b->w.heap.size<=b/\b<w1.heap.size:=fun b hx=>hr.lt b hx
 have old:∀b,b<w.heap.size->(if v.ownBlock=some b then Lb.bq n else lab b)=lab b:=fun b hl=>if_neg fun x=>by have:=ev b x;omega
 have o2:∀b c,lab b=c->c≠.no->(if v.ownBlock=some b then Lb.bq n else lab b)=c:=fun b c e hc=>by
  rw[old b (h.mW b (by rw[e];exact hc)).2,e]
 have hm:m=hs.length:=by
  obtain⟨ao,c,e,_⟩:=aR h.ak
  injection e
 subst hm
 have hsz:(w1.setCell (Ad sb (n*3+2)) v).heap.size=w1.heap.size:=by simp
 refine⟨fun b=>if v.ownBlock=some b then .bq n else lab b,⟨fun b hx=>?_,mM.keep h1.head (z h.lH (by simp)),o2 cb _ h.lH (by simp),?_,fun i hi=>?_,mM.row h1.frames (fun b hx=>z (h.lF b hx) (by simp)),mM.row h1.slots (fun b hx=>z (h.lL b hx) (by simp)),fun b hx=>o2 b _ (h.lS b hx) (by simp),fun i hi b hx=>?_,fun b hx=>o2 b _ (h.lF b hx) (by simp),fun b hx=>o2 b _ (h.lL b hx) (by simp),?_,fun i hi=>?_⟩,old⟩
 · rw[hsz]
   by_cases c:v.ownBlock=some b
   · have:=ev b c;omega
   · have hx:(if v.ownBlock=some b then Lb.bq n else lab b)≠.no:=hx
     rw[if_neg c] at hx
     exact h1.mW b hx
 · have hr1:=jl h1.ak (n*3+2) v
   rw[<- gh jx 3 (fun _=>rfl) LM.JV ⟨(LM.aY hs n).page,(LM.aY hs n).data,(LM.aY hs n).bq,ax,cx⟩ 2 v (by omega) hs n hn (by rw[hv];rfl)] at hr1
   rw[List.length_set]
   exact hr1
 · rw[vT _ _ _ _ hn]
   by_cases c:n=i
   · rw[if_pos c]
     show World.ownsRow _ lo _ 2 (.slice ax (LM.aY hs n).bq.length cx) _ _
     rw[<- hv]
     exact mM.row (km hr (fun g hg=>by have:=ev g hg;omega)) (fun b hx e=>by have:=ev b hx;have:=(h.mW sb (by rw[oU];simp)).2;omega)
   · rw[if_neg c]
     exact mM.row (h1.bq i (by omega)) (fun b hx=>z (h.lX i (by omega) b hx) (by simp))
 · rw[vT _ _ _ _ hn] at hx
   by_cases c:n=i
   · rw[if_pos c] at hx
     have hx:blk (.slice ax (LM.aY hs n).bq.length cx) b:=hx
     rw[<- hv] at hx
     show(if v.ownBlock=some b then Lb.bq n else lab b)=_
     rw[if_pos (show v.ownBlock=some b from hx),c]
   · rw[if_neg c] at hx
     exact o2 b _ (h.lX i (by omega) b hx) (by simp)
 · show List.map LM.plain _=_
   exact(yX hs n ⟨(LM.aY hs n).page,(LM.aY hs n).data,(LM.aY hs n).bq,ax,cx⟩ hn rfl).trans h.same
 · rw[vT _ _ _ _ hn,if_neg (by omega)]
   exact h.rest i (by omega)
theorem Kh.done {lo cb:Nat} {w:World} {lab:Nat->Lb} {vS vF vL:Value} {k:KM.Kn} {hs:List LM.Sh} (h:Kh lo cb w lab vS vF vL k hs hs.length):Km lo cb 27 [] w ⟨lab,vS,vF,vL,Nl,[]⟩ (KM.bl ⟨k.ak,k.frames,k.slots,k.aj.take 0,k.hand⟩ hs) :=
 ⟨⟨h.mW,h.ak,h.bq,h.frames,h.slots,World.ownsRow_nil _ _ _ _,rfl,fun i hi=>absurd hi (Nat.not_lt_zero _),h.lS,h.lX,h.lF,h.lL,(fun b hb=>by cases hb),fun i hi=>absurd hi (Nat.not_lt_zero _),fun i hi=>absurd hi (Nat.not_lt_zero _)⟩,h.head,h.lH⟩
end KY
end Go.Proofs.YtpgifpeohlllfaaGreat
