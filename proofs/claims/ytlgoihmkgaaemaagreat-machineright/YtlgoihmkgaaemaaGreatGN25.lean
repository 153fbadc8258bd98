import Derived.Test.YtlgoihmkgaaemaaGreatGN21
set_option maxHeartbeats 20000000
set_option linter.unusedVariables false
set_option maxRecDepth 100000
set_option linter.unusedSimpArgs false
namespace Go.Proofs.YtlgoihmkgaaemaaGreat
open Go.RowKit
theorem ad6:∀(l:List lQ),∀u∈l.flatMap iO,u.oneCell'=true:=fun l u hu=>by
 obtain⟨y,_,hy⟩:=vJ.1 hu;simp[iO] at hy;rcases hy with rfl | rfl | rfl | rfl <;> rfl
theorem ad1:∀(l:List oZ),∀u∈l.flatMap iN,u.oneCell'=true:=fun l u hu=>by
 obtain⟨y,_,hy⟩:=vJ.1 hu;simp[iN] at hy;rcases hy with rfl | rfl <;> rfl
theorem ad3:∀(l:List bJ),∀u∈l.flatMap nz,u.oneCell'=true:=fun l u hu=>by
 obtain⟨y,_,hy⟩:=vJ.1 hu;simp[nz] at hy;rcases hy with rfl | rfl | rfl <;> rfl
theorem ad5:∀(l:List mL),∀u∈l.flatMap qw,u.oneCell'=true:=fun l u hu=>by
 obtain⟨y,_,hy⟩:=vJ.1 hu;simp[qw] at hy;rcases hy with rfl | rfl <;> rfl
theorem A9 {α:Type} {f:α->List Value} {n:Nat} (hf:∀x,(f x).length=n) {d:α} {w:World} {ao:Option Addr} {l:List α} (h:dW f n d w ao l):mR w ao l.length (l.flatMap f):=fun hm=>by
 obtain⟨b,off,rfl,hb,hl⟩:=h hm;exact zl (w:=w) f n hf d l b off (fun i hi j hj=>hl i hi j hj) hm
theorem ad2 {w:World} {ao:Option Addr} {l:List bJ} (h:iT w ao l):dW nz 3 Cb w ao l:=fun hl=>by
 obtain⟨b,off,e,hb,hi⟩:=h hl;refine⟨b,off,e,hb,fun i hlt j hj=>?_⟩;obtain⟨c0,c1,c2,_⟩:=hi i hlt
 match j,hj with
 | 0,_=>exact c0
 | 1,_=>exact c1
 | 2,_=>exact c2
theorem ad4 {w:World} {ao:Option Addr} {l:List mL} (h:pA w ao l):dW qw 2 Qx w ao l:=fun hl=>by
 obtain⟨b,off,e,hb,hi⟩:=h hl;refine⟨b,off,e,hb,fun i hlt j hj=>?_⟩;obtain⟨c0,c1⟩:=hi i hlt
 match j,hj with
 | 0,_=>exact c0
 | 1,_=>exact c1
structure PC (lo:Nat) (WA wx:World) (cb:Nat) (vS vF vL:Value) (hd:Int) (k:aT):Prop where
 head:wx.heap[cb]?=some (.cells #[vS,vF,vL,Nl,I hd] 30 (0,0))
 hlo:lo<=cb
 rS:wx.ownsRow lo 145 3 vS k.aM.length (k.aM.flatMap nz)
 rF:wx.ownsRow lo 169 4 vF k.frames.length (k.frames.flatMap iO)
 rL:wx.ownsRow lo 171 2 vL k.slots.length (k.slots.flatMap iN)
 d1:∀b,bZ vS b->¬bZ vF b/\¬bZ vL b/\b≠cb
 d2:∀b,bZ vF b->¬bZ vL b/\b≠cb
 d3:∀b,bZ vL b->b≠cb
 below:Below WA.heap.size WA wx
theorem DL {WA V1 w1 V2 w2 V3 w3 V4:World} {cb:Nat} {vS vF vL:Value} {hd:Int} {k:aT} (b0:Below WA.heap.size WA V1) (h1:w1.ownsRow V1.heap.size 145 3 vS k.aM.length (k.aM.flatMap nz)) (b1:Below V1.heap.size V1 w1) (b12:Below w1.heap.size w1 V2)
  (h2:w2.ownsRow V2.heap.size 169 4 vF k.frames.length (k.frames.flatMap iO)) (b2:Below V2.heap.size V2 w2) (b23:Below w2.heap.size w2 V3) (h3:w3.ownsRow V3.heap.size 171 2 vL k.slots.length (k.slots.flatMap iN)) (b3:Below V3.heap.size V3 w3) (b34:Below w3.heap.size w3 V4)
  (hcb:V4.heap[cb]?=some (.cells #[Nl,Nl,Nl,Nl,I 0] 30 (0,0))) (hlo:WA.heap.size<=cb) (hout:cb<V1.heap.size∨(w1.heap.size<=cb/\cb<V2.heap.size)∨(w2.heap.size<=cb/\cb<V3.heap.size)∨w3.heap.size<=cb) :
  PC WA.heap.size WA (((((V4.setCell (Ad cb 0) vS).setCell (Ad cb 1) vF).setCell (Ad cb 2) vL).setCell (Ad cb 3) Nl).setCell (Ad cb 4) (I hd)) cb vS vF vL hd k:=by
 have s0:=b0.size;have s1:=b1.size;have s12:=b12.size;have s2:=b2.size;have s23:=b23.size;have s3:=b3.size;have s34:=b34.size;have kp:aD (fun b=>b=cb) V4 (((((V4.setCell (Ad cb 0) vS).setCell (Ad cb 1) vF).setCell (Ad cb 2) vL).setCell (Ad cb 3) Nl).setCell (Ad cb 4) (I hd)):=((((aD.set (fun b=>b=cb) V4 (Ad cb 0) _ rfl).trans (aD.set (fun b=>b=cb) _ (Ad cb 1) _ rfl) (fun _ _ g=>g)).trans (aD.set (fun b=>b=cb) _ (Ad cb 2) _ rfl) (fun _ _ g=>g)).trans (aD.set (fun b=>b=cb) _ (Ad cb 3) _ rfl) (fun _ _ g=>g)).trans (aD.set (fun b=>b=cb) _ (Ad cb 4) _ rfl) (fun _ _ g=>g);have B13:Below w1.heap.size w1 V4:=((b12.trans (b2.mono s12)).trans (b23.mono (by omega))).trans ((b3.mono (by omega)).trans (b34.mono (by omega)));have B23:Below w2.heap.size w2 V4:=(b23.trans (b3.mono s23)).trans (b34.mono (by omega));have e1:∀b,bZ vS b->V1.heap.size<=b/\b<w1.heap.size:=fun b hb=>h1.lt b hb
 have e2:∀b,bZ vF b->V2.heap.size<=b/\b<w2.heap.size:=fun b hb=>h2.lt b hb
 have e3:∀b,bZ vL b->V3.heap.size<=b/\b<w3.heap.size:=fun b hb=>h3.lt b hb
 have row:∀{e:TypeId} {n m lo:Nat} {v:Value} {xs:List Value} {W:World},W.ownsRow lo e n v m xs->Below W.heap.size W V4->WA.heap.size<=lo->(∀b,bZ v b->b≠cb)->World.ownsRow _ WA.heap.size e n v m xs:=fun hr hb hl hn=>kp.row (oh ((aD.b9 (D:=fun _=>False) hb).row hr (fun _ _ g=>g)) (fun g hg=>by have:=(hr.lt g hg).1;omega)) (fun b hb2=>hn b hb2)
 refine⟨?_,hlo,row h1 B13 (by omega) (fun b hb=>by grind),row h2 B23 (by omega) (fun b hb=>by grind),row h3 b34 (by omega) (fun b hb=>by grind),fun b hb=>⟨fun x=>by grind,fun x=>by grind,by grind⟩,fun b hb=>⟨fun x=>by grind,by grind⟩,fun b hb=>by grind,?_⟩
 · exact fh (fh (fh (fh (fh hcb 0 vS) 1 vF) 2 vL) 3 Nl) 4 (I hd)
 · exact aD.below (b0.trans ((b1.trans (B13.mono s1)).mono s0)) kp (by omega) (fun b e=>by omega)
theorem YT {WA V1 w1 V2 w2 V3 w3:World} {vS vF vL:Value} {hd:Int} {k:aT} (b0:Below WA.heap.size WA V1) (h1:w1.ownsRow V1.heap.size 145 3 vS k.aM.length (k.aM.flatMap nz)) (b1:Below V1.heap.size V1 w1) (b12:Below w1.heap.size w1 V2)
  (h2:w2.ownsRow V2.heap.size 169 4 vF k.frames.length (k.frames.flatMap iO)) (b2:Below V2.heap.size V2 w2) (b23:Below w2.heap.size w2 V3) (h3:w3.ownsRow V3.heap.size 171 2 vL k.slots.length (k.slots.flatMap iN)) (b3:Below V3.heap.size V3 w3) :
  PC WA.heap.size WA (w3.alloc (.cells #[vS,vF,vL,Nl,I hd] 30)) w3.heap.size vS vF vL hd k:=by
 have s0:=b0.size;have s1:=b1.size;have s12:=b12.size;have s2:=b2.size;have s23:=b23.size;have s3:=b3.size;have b34:Below w3.heap.size w3 (w3.alloc (.cells #[vS,vF,vL,Nl,I hd] 30)):=(aK _ _).alloc (aI _) _;have B13:Below w1.heap.size w1 (w3.alloc (.cells #[vS,vF,vL,Nl,I hd] 30)):=((b12.trans (b2.mono s12)).trans (b23.mono (by omega))).trans ((b3.mono (by omega)).trans (b34.mono (by omega)));have B23:Below w2.heap.size w2 (w3.alloc (.cells #[vS,vF,vL,Nl,I hd] 30)):=(b23.trans (b3.mono s23)).trans (b34.mono (by omega));have e1:∀b,bZ vS b->V1.heap.size<=b/\b<w1.heap.size:=fun b hb=>h1.lt b hb
 have e2:∀b,bZ vF b->V2.heap.size<=b/\b<w2.heap.size:=fun b hb=>h2.lt b hb
 have e3:∀b,bZ vL b->V3.heap.size<=b/\b<w3.heap.size:=fun b hb=>h3.lt b hb
 have row:∀{e:TypeId} {n m lo:Nat} {v:Value} {xs:List Value} {W:World},W.ownsRow lo e n v m xs->Below W.heap.size W (w3.alloc (.cells #[vS,vF,vL,Nl,I hd] 30))->WA.heap.size<=lo->World.ownsRow _ WA.heap.size e n v m xs:=fun hr hb hl=>oh ((aD.b9 (D:=fun _=>False) hb).row hr (fun _ _ g=>g)) (fun g hg=>by have:=(hr.lt g hg).1;omega)
 refine⟨bE w3 _ _,by omega,row h1 B13 (by omega),row h2 B23 (by omega),row h3 b34 (by omega),fun b hb=>⟨fun x=>by grind,fun x=>by grind,by grind⟩,fun b hb=>⟨fun x=>by grind,by grind⟩,fun b hb=>by grind,?_⟩
 grind [Below.trans,Below.mono]
structure wW (lo cb:Nat) (w:World) (lab:Nat->oY) (vS vF vL:Value) (k:aT) (hs:List bJ) (n:Nat):Prop where
 yJ:∀b,lab b≠.no->lo<=b/\b<w.heap.size
 head:w.heap[cb]?=some (.cells #[vS,vF,vL,Nl,I k.hand] 30 (0,0))
 lH:lab cb=.head
 aM:w.ownsRow lo 145 3 vS hs.length (hs.flatMap nz)
 dZ:∀i,i<n->w.ownsRow lo 226 2 (adi (bl hs i)) (bl hs i).dZ.length ((bl hs i).dZ.flatMap qw)
 frames:w.ownsRow lo 169 4 vF k.frames.length (k.frames.flatMap iO)
 slots:w.ownsRow lo 171 2 vL k.slots.length (k.slots.flatMap iN)
 lS:∀b,bZ vS b->lab b=.aM
 lX:∀i,i<n->∀b,bZ (adi (bl hs i)) b->lab b=.dZ i
 lF:∀b,bZ vF b->lab b=.frames
 lL:∀b,bZ vL b->lab b=.slots
 same:cC k.aM hs
 rest:∀i,n<=i->bl hs i=bl k.aM i
theorem abA {lo:Nat} {WA w:World} {cb:Nat} {vS vF vL:Value} {k:aT} (h:PC lo WA w cb vS vF vL k.hand k):∃lab,wW lo cb w lab vS vF vL k k.aM 0:=by
 refine⟨fun b=>if b=cb then .head else if vS.ownBlock=some b then .aM else if vF.ownBlock=some b then .frames else if vL.ownBlock=some b then .slots else .no,⟨fun b hb=>?_,h.head,aC rfl,h.rS,fun i hi=>absurd hi (ky _),h.rF,h.rL,fun b hb=>?_,fun i hi=>absurd hi (ky _),fun b hb=>?_,fun b hb=>?_,rfl,fun i hi=>rfl⟩⟩
 · by_cases c0:b=cb
   · rw[c0];exact⟨h.hlo,aJ h.head⟩
   · by_cases c1:vS.ownBlock=some b
     · exact h.rS.lt b c1
     · by_cases c2:vF.ownBlock=some b
       · exact h.rF.lt b c2
       · by_cases c3:vL.ownBlock=some b
         · exact h.rL.lt b c3
         grind
 · have hb':vS.ownBlock=some b:=hb;have:=h.d1 b hb
   grind
 · have hb':vF.ownBlock=some b:=hb;have:=h.d2 b hb;rw[aA this.2,aA (show ¬vS.ownBlock=some b from fun x=>(h.d1 b x).1 hb),aC hb']
 · have hb':vL.ownBlock=some b:=hb;have:=h.d3 b hb;rw[aA this,aA (show ¬vS.ownBlock=some b from fun x=>(h.d1 b x).2.1 hb),aA (show ¬vF.ownBlock=some b from fun x=>(h.d2 b x).1 hb),aC hb']
theorem wW.kp {lo cb:Nat} {w w':World} {lab:Nat->oY} {vS vF vL:Value} {k:aT} {hs:List bJ} {n:Nat} (h:wW lo cb w lab vS vF vL k hs n) {E:Nat->Prop} (hk:aD E w w') (he:∀b,lab b≠.no->¬E b):wW lo cb w' lab vS vF vL k hs n:=by
 have z:∀{b:Nat} {c:oY},lab b=c->c≠.no->¬E b:=fun e hc=>he _ (by grind)
 exact⟨fun b hb=>⟨(h.yJ b hb).1,fL (h.yJ b hb).2 hk.size⟩,hk.keep h.head (z h.lH (by simp)),h.lH,hk.row h.aM (fun b hb=>z (h.lS b hb) (by simp)),fun i hi=>hk.row (h.dZ i hi) (fun b hb=>z (h.lX i hi b hb) (by simp)),hk.row h.frames (fun b hb=>z (h.lF b hb) (by simp)),hk.row h.slots (fun b hb=>z (h.lL b hb) (by simp)),h.lS,h.lX,h.lF,h.lL,h.same,h.rest⟩
theorem wW.below {lo cb:Nat} {w w':World} {lab:Nat->oY} {vS vF vL:Value} {k:aT} {hs:List bJ} {n:Nat} (h:wW lo cb w lab vS vF vL k hs n) (hb:Below w.heap.size w w'):wW lo cb w' lab vS vF vL k hs n:=h.kp (aD.b9 (D:=fun _=>False) hb) (fun _ _ g=>g)
theorem Fv (l:List bJ) (i m:Nat) (x:bJ) (hi:i<l.length):bl (l.set i x) m=if i=m then x else bl l m:=by
 grind [bl]
theorem KE:∀(l:List bJ) (i:Nat) (x:bJ),i<l.length->eT x=eT (bl l i)->(l.set i x).map eT=l.map eT
 | [],i,x,hi,_=>absurd hi (ky _)
 | a::r,0,x,hi,e=>by
  show eT x::_=eT a::_;rw[e];rfl
 | a::r,i+1,x,hi,e=>by
  show eT a::(r.set i x).map eT=eT a::_;rw[KE r i x (Ds hi) e]
theorem wW.step {lo cb:Nat} {w w1:World} {lab:Nat->oY} {vF vL:Value} {k:aT} {hs:List bJ} {n:Nat} {sb m cS:Nat} {ax:Option Addr} {cx:Nat} (h:wW lo cb w lab (.slice (some (Ad sb 0)) m cS) vF vL k hs n) (hn:n<hs.length) (hlo:lo<=w.heap.size) (hb:Below w.heap.size w w1)
  (hr:w1.ownsRow w.heap.size 226 2 (.slice ax (bl hs n).dZ.length cx) (bl hs n).dZ.length ((bl hs n).dZ.flatMap qw)) :
  ∃lab',wW lo cb (w1.setCell (Ad sb (n*3+2)) (.slice ax (bl hs n).dZ.length cx)) lab' (.slice (some (Ad sb 0)) m cS) vF vL k (hs.set n ⟨(bl hs n).page,(bl hs n).data,(bl hs n).dZ,ax,cx⟩) (n+1)/\∀b,b<w.heap.size->lab' b=lab b:=by
 have h1:=h.below hb;obtain⟨v,hv⟩:∃v:Value,v=.slice ax (bl hs n).dZ.length cx:=⟨_,rfl⟩;rw[<- hv] at hr ⊢;have Jc:lab sb=.aM:=h.lS sb rfl;have rY:aD (fun b=>b=sb) w1 (w1.setCell (Ad sb (n*3+2)) v):=aD.set _ _ _ _ rfl;have z:∀{b:Nat} {c:oY},lab b=c->c≠.aM->¬b=sb:=fun e hc x=>hc (by grind)
 have ev:∀b,bZ v b->w.heap.size<=b/\b<w1.heap.size:=fun b hx=>hr.lt b hx
 have old:∀b,b<w.heap.size->(if v.ownBlock=some b then oY.dZ n else lab b)=lab b:=fun b hl=>aA fun x=>by have:=ev b x;omega
 have o2:∀b c,lab b=c->c≠.no->(if v.ownBlock=some b then oY.dZ n else lab b)=c:=fun b c e hc=>by
  rw[old b (h.yJ b (by grind)).2,e]
 have hm:m=hs.length:=by
  obtain⟨ao,c,e,_⟩:=bj h.aM
  grind
 subst hm;have hsz:(w1.setCell (Ad sb (n*3+2)) v).heap.size=w1.heap.size:=by simp
 refine⟨fun b=>if v.ownBlock=some b then .dZ n else lab b,⟨fun b hx=>?_,rY.keep h1.head (z h.lH (by simp)),o2 cb _ h.lH (by simp),?_,fun i hi=>?_,rY.row h1.frames (fun b hx=>z (h.lF b hx) (by simp)),rY.row h1.slots (fun b hx=>z (h.lL b hx) (by simp)),fun b hx=>o2 b _ (h.lS b hx) (by simp),fun i hi b hx=>?_,fun b hx=>o2 b _ (h.lF b hx) (by simp),fun b hx=>o2 b _ (h.lL b hx) (by simp),?_,fun i hi=>?_⟩,old⟩
 · rw[hsz];by_cases c:v.ownBlock=some b
   · have:=ev b c;omega
   · have hx:(if v.ownBlock=some b then oY.dZ n else lab b)≠.no:=hx;rw[aA c] at hx;exact h1.yJ b hx
 · have hr1:=fw h1.aM (n*3+2) v;rw[<- kI nz 3 (fun _=>rfl) Cb ⟨(bl hs n).page,(bl hs n).data,(bl hs n).dZ,ax,cx⟩ 2 v (by omega) hs n hn (by rw[hv];rfl)] at hr1
   grind
 · rw[Fv _ _ _ _ hn];by_cases c:n=i
   · rw[aC c];show World.ownsRow _ lo _ 2 (.slice ax (bl hs n).dZ.length cx) _ _
     grind [oh,aD.row,yJ]
   · rw[aA c];exact rY.row (h1.dZ i (by omega)) (fun b hx=>z (h.lX i (by omega) b hx) (by simp))
 · rw[Fv _ _ _ _ hn] at hx;by_cases c:n=i
   · rw[aC c] at hx;have hx:bZ (.slice ax (bl hs n).dZ.length cx) b:=hx;rw[<- hv] at hx;show(if v.ownBlock=some b then oY.dZ n else lab b)=_;rw[aC (show v.ownBlock=some b from hx),c]
   grind [lX]
 · show List.map eT _=_;exact(KE hs n ⟨(bl hs n).page,(bl hs n).data,(bl hs n).dZ,ax,cx⟩ hn rfl).trans h.same
 grind [Fv,rest]
theorem wW.done {lo cb:Nat} {w:World} {lab:Nat->oY} {vS vF vL:Value} {k:aT} {hs:List bJ} (h:wW lo cb w lab vS vF vL k hs hs.length):bK lo cb 30 [] w ⟨lab,vS,vF,vL,Nl,[]⟩ (aV ⟨k.aM,k.frames,k.slots,k.aj.take 0,k.hand⟩ hs) :=
 ⟨⟨h.yJ,h.aM,h.dZ,h.frames,h.slots,mE _ _ _ _,rfl,fun i hi=>absurd hi (ky _),h.lS,h.lX,h.lF,h.lL,(fun b hb=>by cases hb),fun i hi=>absurd hi (ky _),fun i hi=>absurd hi (ky _)⟩,h.head,h.lH⟩
end Go.Proofs.YtlgoihmkgaaemaaGreat
