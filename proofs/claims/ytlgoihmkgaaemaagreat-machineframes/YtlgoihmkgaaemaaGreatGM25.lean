import Derived.Test.YtlgoihmkgaaemaaGreatGM21
set_option maxHeartbeats 20000000
set_option linter.unusedVariables false
set_option maxRecDepth 100000
set_option linter.unusedSimpArgs false
namespace Go.Proofs.YtlgoihmkgaaemaaGreat
open Go.RowKit
theorem adw:∀(l:List lK),∀u∈l.flatMap iT,u.oneCell'=true:=fun l u hu=>by
 obtain⟨y,_,hy⟩:=vg.1 hu;simp[iT] at hy;rcases hy with rfl | rfl | rfl | rfl <;> rfl
theorem adr:∀(l:List oO),∀u∈l.flatMap iQ,u.oneCell'=true:=fun l u hu=>by
 obtain⟨y,_,hy⟩:=vg.1 hu;simp[iQ] at hy;rcases hy with rfl | rfl <;> rfl
theorem adt:∀(l:List bG),∀u∈l.flatMap ni,u.oneCell'=true:=fun l u hu=>by
 obtain⟨y,_,hy⟩:=vg.1 hu;simp[ni] at hy;rcases hy with rfl | rfl | rfl <;> rfl
theorem adv:∀(l:List mI),∀u∈l.flatMap qd,u.oneCell'=true:=fun l u hu=>by
 obtain⟨y,_,hy⟩:=vg.1 hu;simp[qd] at hy;rcases hy with rfl | rfl <;> rfl
theorem AO {α:Type} {f:α->List Value} {n:Nat} (hf:∀x,(f x).length=n) {d:α} {w:World} {ao:Option Addr} {l:List α} (h:dW f n d w ao l):mO w ao l.length (l.flatMap f):=fun hm=>by
 obtain⟨b,off,rfl,hb,hl⟩:=h hm;exact yV (w:=w) f n hf d l b off (fun i hi j hj=>hl i hi j hj) hm
theorem ads {w:World} {ao:Option Addr} {l:List bG} (h:jn w ao l):dW ni 3 Bv w ao l:=fun hl=>by
 obtain⟨b,off,e,hb,hi⟩:=h hl;refine⟨b,off,e,hb,fun i hlt j hj=>?_⟩;obtain⟨c0,c1,c2,_⟩:=hi i hlt
 match j,hj with
 | 0,_=>exact c0
 | 1,_=>exact c1
 | 2,_=>exact c2
theorem adu {w:World} {ao:Option Addr} {l:List mI} (h:qG w ao l):dW qd 2 Qi w ao l:=fun hl=>by
 obtain⟨b,off,e,hb,hi⟩:=h hl;refine⟨b,off,e,hb,fun i hlt j hj=>?_⟩;obtain⟨c0,c1⟩:=hi i hlt
 match j,hj with
 | 0,_=>exact c0
 | 1,_=>exact c1
structure Pm (lo:Nat) (WA wx:World) (cb:Nat) (vS vF vL:Value) (hd:Int) (k:aR):Prop where
 head:wx.heap[cb]?=some (.cells #[vS,vF,vL,Nl,I hd] 30 (0,0))
 hlo:lo<=cb
 rS:wx.ownsRow lo 145 3 vS k.aM.length (k.aM.flatMap ni)
 rF:wx.ownsRow lo 169 4 vF k.frames.length (k.frames.flatMap iT)
 rL:wx.ownsRow lo 171 2 vL k.slots.length (k.slots.flatMap iQ)
 d1:∀b,bW vS b->¬bW vF b/\¬bW vL b/\b≠cb
 d2:∀b,bW vF b->¬bW vL b/\b≠cb
 d3:∀b,bW vL b->b≠cb
 below:Below WA.heap.size WA wx
theorem Dz {WA V1 w1 V2 w2 V3 w3 V4:World} {cb:Nat} {vS vF vL:Value} {hd:Int} {k:aR} (b0:Below WA.heap.size WA V1) (h1:w1.ownsRow V1.heap.size 145 3 vS k.aM.length (k.aM.flatMap ni)) (b1:Below V1.heap.size V1 w1) (b12:Below w1.heap.size w1 V2)
  (h2:w2.ownsRow V2.heap.size 169 4 vF k.frames.length (k.frames.flatMap iT)) (b2:Below V2.heap.size V2 w2) (b23:Below w2.heap.size w2 V3) (h3:w3.ownsRow V3.heap.size 171 2 vL k.slots.length (k.slots.flatMap iQ)) (b3:Below V3.heap.size V3 w3) (b34:Below w3.heap.size w3 V4)
  (hcb:V4.heap[cb]?=some (.cells #[Nl,Nl,Nl,Nl,I 0] 30 (0,0))) (hlo:WA.heap.size<=cb) (hout:cb<V1.heap.size∨(w1.heap.size<=cb/\cb<V2.heap.size)∨(w2.heap.size<=cb/\cb<V3.heap.size)∨w3.heap.size<=cb) :
  Pm WA.heap.size WA (((((V4.setCell (Ad cb 0) vS).setCell (Ad cb 1) vF).setCell (Ad cb 2) vL).setCell (Ad cb 3) Nl).setCell (Ad cb 4) (I hd)) cb vS vF vL hd k:=by
 have s0:=b0.size;have s1:=b1.size;have s12:=b12.size;have s2:=b2.size;have s23:=b23.size;have s3:=b3.size;have s34:=b34.size;have kp:aC (fun b=>b=cb) V4 (((((V4.setCell (Ad cb 0) vS).setCell (Ad cb 1) vF).setCell (Ad cb 2) vL).setCell (Ad cb 3) Nl).setCell (Ad cb 4) (I hd)):=((((aC.set (fun b=>b=cb) V4 (Ad cb 0) _ rfl).trans (aC.set (fun b=>b=cb) _ (Ad cb 1) _ rfl) (fun _ _ g=>g)).trans (aC.set (fun b=>b=cb) _ (Ad cb 2) _ rfl) (fun _ _ g=>g)).trans (aC.set (fun b=>b=cb) _ (Ad cb 3) _ rfl) (fun _ _ g=>g)).trans (aC.set (fun b=>b=cb) _ (Ad cb 4) _ rfl) (fun _ _ g=>g);have B13:Below w1.heap.size w1 V4:=((b12.trans (b2.mono s12)).trans (b23.mono (by omega))).trans ((b3.mono (by omega)).trans (b34.mono (by omega)));have B23:Below w2.heap.size w2 V4:=(b23.trans (b3.mono s23)).trans (b34.mono (by omega));have e1:∀b,bW vS b->V1.heap.size<=b/\b<w1.heap.size:=fun b hb=>h1.lt b hb
 have e2:∀b,bW vF b->V2.heap.size<=b/\b<w2.heap.size:=fun b hb=>h2.lt b hb
 have e3:∀b,bW vL b->V3.heap.size<=b/\b<w3.heap.size:=fun b hb=>h3.lt b hb
 have row:∀{e:TypeId} {n m lo:Nat} {v:Value} {xs:List Value} {W:World},W.ownsRow lo e n v m xs->Below W.heap.size W V4->WA.heap.size<=lo->(∀b,bW v b->b≠cb)->World.ownsRow _ WA.heap.size e n v m xs:=fun hr hb hl hn=>kp.row (nX ((aC.bY (D:=fun _=>False) hb).row hr (fun _ _ g=>g)) (fun g hg=>by have:=(hr.lt g hg).1;omega)) (fun b hb2=>hn b hb2)
 refine⟨?_,hlo,row h1 B13 (by omega) (fun b hb=>by grind),row h2 B23 (by omega) (fun b hb=>by grind),row h3 b34 (by omega) (fun b hb=>by grind),fun b hb=>⟨fun x=>by grind,fun x=>by grind,by grind⟩,fun b hb=>⟨fun x=>by grind,by grind⟩,fun b hb=>by grind,?_⟩
 · exact fF (fF (fF (fF (fF hcb 0 vS) 1 vF) 2 vL) 3 Nl) 4 (I hd)
 · exact aC.below (b0.trans ((b1.trans (B13.mono s1)).mono s0)) kp (by omega) (fun b e=>by omega)
theorem Yt {WA V1 w1 V2 w2 V3 w3:World} {vS vF vL:Value} {hd:Int} {k:aR} (b0:Below WA.heap.size WA V1) (h1:w1.ownsRow V1.heap.size 145 3 vS k.aM.length (k.aM.flatMap ni)) (b1:Below V1.heap.size V1 w1) (b12:Below w1.heap.size w1 V2)
  (h2:w2.ownsRow V2.heap.size 169 4 vF k.frames.length (k.frames.flatMap iT)) (b2:Below V2.heap.size V2 w2) (b23:Below w2.heap.size w2 V3) (h3:w3.ownsRow V3.heap.size 171 2 vL k.slots.length (k.slots.flatMap iQ)) (b3:Below V3.heap.size V3 w3) :
  Pm WA.heap.size WA (w3.alloc (.cells #[vS,vF,vL,Nl,I hd] 30)) w3.heap.size vS vF vL hd k:=by
 have s0:=b0.size;have s1:=b1.size;have s12:=b12.size;have s2:=b2.size;have s23:=b23.size;have s3:=b3.size;have b34:Below w3.heap.size w3 (w3.alloc (.cells #[vS,vF,vL,Nl,I hd] 30)):=(aJ _ _).alloc (aH _) _;have B13:Below w1.heap.size w1 (w3.alloc (.cells #[vS,vF,vL,Nl,I hd] 30)):=((b12.trans (b2.mono s12)).trans (b23.mono (by omega))).trans ((b3.mono (by omega)).trans (b34.mono (by omega)));have B23:Below w2.heap.size w2 (w3.alloc (.cells #[vS,vF,vL,Nl,I hd] 30)):=(b23.trans (b3.mono s23)).trans (b34.mono (by omega));have e1:∀b,bW vS b->V1.heap.size<=b/\b<w1.heap.size:=fun b hb=>h1.lt b hb
 have e2:∀b,bW vF b->V2.heap.size<=b/\b<w2.heap.size:=fun b hb=>h2.lt b hb
 have e3:∀b,bW vL b->V3.heap.size<=b/\b<w3.heap.size:=fun b hb=>h3.lt b hb
 have row:∀{e:TypeId} {n m lo:Nat} {v:Value} {xs:List Value} {W:World},W.ownsRow lo e n v m xs->Below W.heap.size W (w3.alloc (.cells #[vS,vF,vL,Nl,I hd] 30))->WA.heap.size<=lo->World.ownsRow _ WA.heap.size e n v m xs:=fun hr hb hl=>nX ((aC.bY (D:=fun _=>False) hb).row hr (fun _ _ g=>g)) (fun g hg=>by have:=(hr.lt g hg).1;omega)
 refine⟨bD w3 _ _,by omega,row h1 B13 (by omega),row h2 B23 (by omega),row h3 b34 (by omega),fun b hb=>⟨fun x=>by grind,fun x=>by grind,by grind⟩,fun b hb=>⟨fun x=>by grind,by grind⟩,fun b hb=>by grind,?_⟩
 grind [Below.trans,Below.mono]
structure wJ (lo cb:Nat) (w:World) (lab:Nat->oN) (vS vF vL:Value) (k:aR) (hs:List bG) (n:Nat):Prop where
 yq:∀b,lab b≠.no->lo<=b/\b<w.heap.size
 head:w.heap[cb]?=some (.cells #[vS,vF,vL,Nl,I k.hand] 30 (0,0))
 lH:lab cb=.head
 aM:w.ownsRow lo 145 3 vS hs.length (hs.flatMap ni)
 eO:∀i,i<n->w.ownsRow lo 226 2 (acI (bu hs i)) (bu hs i).eO.length ((bu hs i).eO.flatMap qd)
 frames:w.ownsRow lo 169 4 vF k.frames.length (k.frames.flatMap iT)
 slots:w.ownsRow lo 171 2 vL k.slots.length (k.slots.flatMap iQ)
 lS:∀b,bW vS b->lab b=.aM
 lX:∀i,i<n->∀b,bW (acI (bu hs i)) b->lab b=.eO i
 lF:∀b,bW vF b->lab b=.frames
 lL:∀b,bW vL b->lab b=.slots
 same:cE k.aM hs
 rest:∀i,n<=i->bu hs i=bu k.aM i
theorem aaX {lo:Nat} {WA w:World} {cb:Nat} {vS vF vL:Value} {k:aR} (h:Pm lo WA w cb vS vF vL k.hand k):∃lab,wJ lo cb w lab vS vF vL k k.aM 0:=by
 refine⟨fun b=>if b=cb then .head else if vS.ownBlock=some b then .aM else if vF.ownBlock=some b then .frames else if vL.ownBlock=some b then .slots else .no,⟨fun b hb=>?_,h.head,aB rfl,h.rS,fun i hi=>absurd hi (kr _),h.rF,h.rL,fun b hb=>?_,fun i hi=>absurd hi (kr _),fun b hb=>?_,fun b hb=>?_,rfl,fun i hi=>rfl⟩⟩
 · by_cases c0:b=cb
   · rw[c0];exact⟨h.hlo,aI h.head⟩
   · by_cases c1:vS.ownBlock=some b
     · exact h.rS.lt b c1
     · by_cases c2:vF.ownBlock=some b
       · exact h.rF.lt b c2
       · by_cases c3:vL.ownBlock=some b
         · exact h.rL.lt b c3
         grind
 · have hb':vS.ownBlock=some b:=hb;have:=h.d1 b hb
   grind
 · have hb':vF.ownBlock=some b:=hb;have:=h.d2 b hb;rw[au this.2,au (show ¬vS.ownBlock=some b from fun x=>(h.d1 b x).1 hb),aB hb']
 · have hb':vL.ownBlock=some b:=hb;have:=h.d3 b hb;rw[au this,au (show ¬vS.ownBlock=some b from fun x=>(h.d1 b x).2.1 hb),au (show ¬vF.ownBlock=some b from fun x=>(h.d2 b x).1 hb),aB hb']
theorem wJ.kp {lo cb:Nat} {w w':World} {lab:Nat->oN} {vS vF vL:Value} {k:aR} {hs:List bG} {n:Nat} (h:wJ lo cb w lab vS vF vL k hs n) {E:Nat->Prop} (hk:aC E w w') (he:∀b,lab b≠.no->¬E b):wJ lo cb w' lab vS vF vL k hs n:=by
 have z:∀{b:Nat} {c:oN},lab b=c->c≠.no->¬E b:=fun e hc=>he _ (by grind)
 exact⟨fun b hb=>⟨(h.yq b hb).1,fV (h.yq b hb).2 hk.size⟩,hk.keep h.head (z h.lH (by simp)),h.lH,hk.row h.aM (fun b hb=>z (h.lS b hb) (by simp)),fun i hi=>hk.row (h.eO i hi) (fun b hb=>z (h.lX i hi b hb) (by simp)),hk.row h.frames (fun b hb=>z (h.lF b hb) (by simp)),hk.row h.slots (fun b hb=>z (h.lL b hb) (by simp)),h.lS,h.lX,h.lF,h.lL,h.same,h.rest⟩
theorem wJ.below {lo cb:Nat} {w w':World} {lab:Nat->oN} {vS vF vL:Value} {k:aR} {hs:List bG} {n:Nat} (h:wJ lo cb w lab vS vF vL k hs n) (hb:Below w.heap.size w w'):wJ lo cb w' lab vS vF vL k hs n:=h.kp (aC.bY (D:=fun _=>False) hb) (fun _ _ g=>g)
theorem Ff (l:List bG) (i m:Nat) (x:bG) (hi:i<l.length):bu (l.set i x) m=if i=m then x else bu l m:=by
 grind [bu]
theorem Kq:∀(l:List bG) (i:Nat) (x:bG),i<l.length->fP x=fP (bu l i)->(l.set i x).map fP=l.map fP
 | [],i,x,hi,_=>absurd hi (kr _)
 | a::r,0,x,hi,e=>by
  show fP x::_=fP a::_;rw[e];rfl
 | a::r,i+1,x,hi,e=>by
  show fP a::(r.set i x).map fP=fP a::_;rw[Kq r i x (Dg hi) e]
theorem wJ.step {lo cb:Nat} {w w1:World} {lab:Nat->oN} {vF vL:Value} {k:aR} {hs:List bG} {n:Nat} {sb m cS:Nat} {ax:Option Addr} {cx:Nat} (h:wJ lo cb w lab (.slice (some (Ad sb 0)) m cS) vF vL k hs n) (hn:n<hs.length) (hlo:lo<=w.heap.size) (hb:Below w.heap.size w w1)
  (hr:w1.ownsRow w.heap.size 226 2 (.slice ax (bu hs n).eO.length cx) (bu hs n).eO.length ((bu hs n).eO.flatMap qd)) :
  ∃lab',wJ lo cb (w1.setCell (Ad sb (n*3+2)) (.slice ax (bu hs n).eO.length cx)) lab' (.slice (some (Ad sb 0)) m cS) vF vL k (hs.set n ⟨(bu hs n).page,(bu hs n).data,(bu hs n).eO,ax,cx⟩) (n+1)/\∀b,b<w.heap.size->lab' b=lab b:=by
 have h1:=h.below hb;obtain⟨v,hv⟩:∃v:Value,v=.slice ax (bu hs n).eO.length cx:=⟨_,rfl⟩;rw[<- hv] at hr ⊢;have IU:lab sb=.aM:=h.lS sb rfl;have rK:aC (fun b=>b=sb) w1 (w1.setCell (Ad sb (n*3+2)) v):=aC.set _ _ _ _ rfl;have z:∀{b:Nat} {c:oN},lab b=c->c≠.aM->¬b=sb:=fun e hc x=>hc (by grind)
 have ev:∀b,bW v b->w.heap.size<=b/\b<w1.heap.size:=fun b hx=>hr.lt b hx
 have old:∀b,b<w.heap.size->(if v.ownBlock=some b then oN.eO n else lab b)=lab b:=fun b hl=>au fun x=>by have:=ev b x;omega
 have o2:∀b c,lab b=c->c≠.no->(if v.ownBlock=some b then oN.eO n else lab b)=c:=fun b c e hc=>by
  rw[old b (h.yq b (by grind)).2,e]
 have hm:m=hs.length:=by
  obtain⟨ao,c,e,_⟩:=bh h.aM
  grind
 subst hm;have hsz:(w1.setCell (Ad sb (n*3+2)) v).heap.size=w1.heap.size:=by simp
 refine⟨fun b=>if v.ownBlock=some b then .eO n else lab b,⟨fun b hx=>?_,rK.keep h1.head (z h.lH (by simp)),o2 cb _ h.lH (by simp),?_,fun i hi=>?_,rK.row h1.frames (fun b hx=>z (h.lF b hx) (by simp)),rK.row h1.slots (fun b hx=>z (h.lL b hx) (by simp)),fun b hx=>o2 b _ (h.lS b hx) (by simp),fun i hi b hx=>?_,fun b hx=>o2 b _ (h.lF b hx) (by simp),fun b hx=>o2 b _ (h.lL b hx) (by simp),?_,fun i hi=>?_⟩,old⟩
 · rw[hsz];by_cases c:v.ownBlock=some b
   · have:=ev b c;omega
   · have hx:(if v.ownBlock=some b then oN.eO n else lab b)≠.no:=hx;rw[au c] at hx;exact h1.yq b hx
 · have hr1:=eZ h1.aM (n*3+2) v;rw[<- kE ni 3 (fun _=>rfl) Bv ⟨(bu hs n).page,(bu hs n).data,(bu hs n).eO,ax,cx⟩ 2 v (by omega) hs n hn (by rw[hv];rfl)] at hr1
   grind
 · rw[Ff _ _ _ _ hn];by_cases c:n=i
   · rw[aB c];show World.ownsRow _ lo _ 2 (.slice ax (bu hs n).eO.length cx) _ _
     grind [nX,aC.row,yq]
   · rw[au c];exact rK.row (h1.eO i (by omega)) (fun b hx=>z (h.lX i (by omega) b hx) (by simp))
 · rw[Ff _ _ _ _ hn] at hx;by_cases c:n=i
   · rw[aB c] at hx;have hx:bW (.slice ax (bu hs n).eO.length cx) b:=hx;rw[<- hv] at hx;show(if v.ownBlock=some b then oN.eO n else lab b)=_;rw[aB (show v.ownBlock=some b from hx),c]
   grind [lX]
 · show List.map fP _=_;exact(Kq hs n ⟨(bu hs n).page,(bu hs n).data,(bu hs n).eO,ax,cx⟩ hn rfl).trans h.same
 grind [Ff,rest]
theorem wJ.done {lo cb:Nat} {w:World} {lab:Nat->oN} {vS vF vL:Value} {k:aR} {hs:List bG} (h:wJ lo cb w lab vS vF vL k hs hs.length):bH lo cb 30 [] w ⟨lab,vS,vF,vL,Nl,[]⟩ (aU ⟨k.aM,k.frames,k.slots,k.aj.take 0,k.hand⟩ hs) :=
 ⟨⟨h.yq,h.aM,h.eO,h.frames,h.slots,mC _ _ _ _,rfl,fun i hi=>absurd hi (kr _),h.lS,h.lX,h.lF,h.lL,(fun b hb=>by cases hb),fun i hi=>absurd hi (kr _),fun i hi=>absurd hi (kr _)⟩,h.head,h.lH⟩
end Go.Proofs.YtlgoihmkgaaemaaGreat
