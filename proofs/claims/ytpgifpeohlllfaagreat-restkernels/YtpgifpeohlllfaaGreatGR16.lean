import Derived.Test.YtpgifpeohlllfaaGreatGR15
set_option maxHeartbeats 20000000
set_option linter.unusedVariables false
set_option maxRecDepth 100000
set_option linter.unusedSimpArgs false
namespace Go.Proofs.YtpgifpeohlllfaaGreat
open Go.RowKit
theorem OZ:∀(l:List jm),∀u∈l.flatMap fB,u.oneCell'=true:=fun l u hu=>by
 obtain⟨y,_,hy⟩:=ua.1 hu;simp[fB] at hy;rcases hy with rfl | rfl | rfl | rfl <;> rfl
theorem OU:∀(l:List lD),∀u∈l.flatMap fA,u.oneCell'=true:=fun l u hu=>by
 obtain⟨y,_,hy⟩:=ua.1 hu;simp[fA] at hy;rcases hy with rfl | rfl <;> rfl
theorem Zb:∀(l:List bR),∀u∈l.flatMap fN,u.oneCell'=true:=fun l u hu=>by
 obtain⟨y,_,hy⟩:=ua.1 hu;simp[fN] at hy;rcases hy with rfl | rfl | rfl <;> rfl
theorem OY:∀(l:List kW),∀u∈l.flatMap gZ,u.oneCell'=true:=fun l u hu=>by
 obtain⟨y,_,hy⟩:=ua.1 hu;simp[gZ] at hy;rcases hy with rfl | rfl <;> rfl
theorem oK {α:Type} {f:α->List Value} {n:Nat} (hf:∀x,(f x).length=n) {d:α} {w:World} {ao:Option Addr} {l:List α} (h:cJ f n d w ao l):kj w ao l.length (l.flatMap f):=fun hm=>by
 obtain⟨b,off,rfl,hb,hl⟩:=h hm;exact vJ (w:=w) f n hf d l b off (fun i hi j hj=>hl i hi j hj) hm
theorem OV {w:World} {ao:Option Addr} {l:List bR} (h:fX w ao l):cJ fN 3 tE w ao l:=fun hl=>by
 obtain⟨b,off,e,hb,hi⟩:=h hl;refine⟨b,off,e,hb,fun i hlt j hj=>?_⟩;obtain⟨c0,c1,c2,_⟩:=hi i hlt
 match j,hj with
 | 0,_=>exact c0
 | 1,_=>exact c1
 | 2,_=>exact c2
theorem OX {w:World} {ao:Option Addr} {l:List kW} (h:kQ w ao l):cJ gZ 2 Lt w ao l:=fun hl=>by
 obtain⟨b,off,e,hb,hi⟩:=h hl;refine⟨b,off,e,hb,fun i hlt j hj=>?_⟩;obtain⟨c0,c1⟩:=hi i hlt
 match j,hj with
 | 0,_=>exact c0
 | 1,_=>exact c1
structure KL (lo:Nat) (WA wx:World) (cb:Nat) (vS vF vL:Value) (hd:Int) (k:aN):Prop where
 head:wx.heap[cb]?=some (.cells #[vS,vF,vL,Nl,I hd] 27 (0,0))
 hlo:lo<=cb
 rS:wx.ownsRow lo 50 3 vS k.aD.length (k.aD.flatMap fN)
 rF:wx.ownsRow lo 40 4 vF k.frames.length (k.frames.flatMap fB)
 rL:wx.ownsRow lo 86 2 vL k.slots.length (k.slots.flatMap fA)
 d1:∀b,bQ vS b->¬bQ vF b/\¬bQ vL b/\b≠cb
 d2:∀b,bQ vF b->¬bQ vL b/\b≠cb
 d3:∀b,bQ vL b->b≠cb
 below:Below WA.heap.size WA wx
theorem zP {WA V1 w1 V2 w2 V3 w3 V4:World} {cb:Nat} {vS vF vL:Value} {hd:Int} {k:aN} (b0:Below WA.heap.size WA V1) (h1:w1.ownsRow V1.heap.size 50 3 vS k.aD.length (k.aD.flatMap fN)) (b1:Below V1.heap.size V1 w1) (b12:Below w1.heap.size w1 V2)
  (h2:w2.ownsRow V2.heap.size 40 4 vF k.frames.length (k.frames.flatMap fB)) (b2:Below V2.heap.size V2 w2) (b23:Below w2.heap.size w2 V3) (h3:w3.ownsRow V3.heap.size 86 2 vL k.slots.length (k.slots.flatMap fA)) (b3:Below V3.heap.size V3 w3) (b34:Below w3.heap.size w3 V4)
  (hcb:V4.heap[cb]?=some (.cells #[Nl,Nl,Nl,Nl,I 0] 27 (0,0))) (hlo:WA.heap.size<=cb) (hout:cb<V1.heap.size∨(w1.heap.size<=cb/\cb<V2.heap.size)∨(w2.heap.size<=cb/\cb<V3.heap.size)∨w3.heap.size<=cb) :
  KL WA.heap.size WA (((((V4.setCell (Ad cb 0) vS).setCell (Ad cb 1) vF).setCell (Ad cb 2) vL).setCell (Ad cb 3) Nl).setCell (Ad cb 4) (I hd)) cb vS vF vL hd k:=by
 have s0:=b0.size;have s1:=b1.size;have s12:=b12.size;have s2:=b2.size;have s23:=b23.size;have s3:=b3.size;have s34:=b34.size;have kp:aM (fun b=>b=cb) V4 (((((V4.setCell (Ad cb 0) vS).setCell (Ad cb 1) vF).setCell (Ad cb 2) vL).setCell (Ad cb 3) Nl).setCell (Ad cb 4) (I hd)):=((((aM.set (fun b=>b=cb) V4 (Ad cb 0) _ rfl).trans (aM.set (fun b=>b=cb) _ (Ad cb 1) _ rfl) (fun _ _ g=>g)).trans (aM.set (fun b=>b=cb) _ (Ad cb 2) _ rfl) (fun _ _ g=>g)).trans (aM.set (fun b=>b=cb) _ (Ad cb 3) _ rfl) (fun _ _ g=>g)).trans (aM.set (fun b=>b=cb) _ (Ad cb 4) _ rfl) (fun _ _ g=>g);have B13:Below w1.heap.size w1 V4:=((b12.trans (b2.mono s12)).trans (b23.mono (by omega))).trans ((b3.mono (by omega)).trans (b34.mono (by omega)));have B23:Below w2.heap.size w2 V4:=(b23.trans (b3.mono s23)).trans (b34.mono (by omega));have e1:∀b,bQ vS b->V1.heap.size<=b/\b<w1.heap.size:=fun b hb=>h1.lt b hb
 have e2:∀b,bQ vF b->V2.heap.size<=b/\b<w2.heap.size:=fun b hb=>h2.lt b hb
 have e3:∀b,bQ vL b->V3.heap.size<=b/\b<w3.heap.size:=fun b hb=>h3.lt b hb
 have row:∀{e:TypeId} {n m lo:Nat} {v:Value} {xs:List Value} {W:World},W.ownsRow lo e n v m xs->Below W.heap.size W V4->WA.heap.size<=lo->(∀b,bQ v b->b≠cb)->World.ownsRow _ WA.heap.size e n v m xs:=fun hr hb hl hn=>kp.row (mr ((aM.cH (D:=fun _=>False) hb).row hr (fun _ _ g=>g)) (fun g hg=>by have:=(hr.lt g hg).1;omega)) (fun b hb2=>hn b hb2)
 refine⟨?_,hlo,row h1 B13 (by omega) (fun b hb=>by grind),row h2 B23 (by omega) (fun b hb=>by grind),row h3 b34 (by omega) (fun b hb=>by grind),fun b hb=>⟨fun x=>by grind,fun x=>by grind,by grind⟩,fun b hb=>⟨fun x=>by grind,by grind⟩,fun b hb=>by grind,?_⟩
 · exact dD (dD (dD (dD (dD hcb 0 vS) 1 vF) 2 vL) 3 Nl) 4 (I hd)
 · exact aM.below (b0.trans ((b1.trans (B13.mono s1)).mono s0)) kp (by omega) (fun b e=>by omega)
theorem TE {WA V1 w1 V2 w2 V3 w3:World} {vS vF vL:Value} {hd:Int} {k:aN} (b0:Below WA.heap.size WA V1) (h1:w1.ownsRow V1.heap.size 50 3 vS k.aD.length (k.aD.flatMap fN)) (b1:Below V1.heap.size V1 w1) (b12:Below w1.heap.size w1 V2)
  (h2:w2.ownsRow V2.heap.size 40 4 vF k.frames.length (k.frames.flatMap fB)) (b2:Below V2.heap.size V2 w2) (b23:Below w2.heap.size w2 V3) (h3:w3.ownsRow V3.heap.size 86 2 vL k.slots.length (k.slots.flatMap fA)) (b3:Below V3.heap.size V3 w3) :
  KL WA.heap.size WA (w3.alloc (.cells #[vS,vF,vL,Nl,I hd] 27)) w3.heap.size vS vF vL hd k:=by
 have s0:=b0.size;have s1:=b1.size;have s12:=b12.size;have s2:=b2.size;have s23:=b23.size;have s3:=b3.size;have b34:Below w3.heap.size w3 (w3.alloc (.cells #[vS,vF,vL,Nl,I hd] 27)):=(aK _ _).alloc (aI _) _;have B13:Below w1.heap.size w1 (w3.alloc (.cells #[vS,vF,vL,Nl,I hd] 27)):=((b12.trans (b2.mono s12)).trans (b23.mono (by omega))).trans ((b3.mono (by omega)).trans (b34.mono (by omega)));have B23:Below w2.heap.size w2 (w3.alloc (.cells #[vS,vF,vL,Nl,I hd] 27)):=(b23.trans (b3.mono s23)).trans (b34.mono (by omega));have e1:∀b,bQ vS b->V1.heap.size<=b/\b<w1.heap.size:=fun b hb=>h1.lt b hb
 have e2:∀b,bQ vF b->V2.heap.size<=b/\b<w2.heap.size:=fun b hb=>h2.lt b hb
 have e3:∀b,bQ vL b->V3.heap.size<=b/\b<w3.heap.size:=fun b hb=>h3.lt b hb
 have row:∀{e:TypeId} {n m lo:Nat} {v:Value} {xs:List Value} {W:World},W.ownsRow lo e n v m xs->Below W.heap.size W (w3.alloc (.cells #[vS,vF,vL,Nl,I hd] 27))->WA.heap.size<=lo->World.ownsRow _ WA.heap.size e n v m xs:=fun hr hb hl=>mr ((aM.cH (D:=fun _=>False) hb).row hr (fun _ _ g=>g)) (fun g hg=>by have:=(hr.lt g hg).1;omega)
 refine⟨bO w3 _ _,by omega,row h1 B13 (by omega),row h2 B23 (by omega),row h3 b34 (by omega),fun b hb=>⟨fun x=>by grind,fun x=>by grind,by grind⟩,fun b hb=>⟨fun x=>by grind,by grind⟩,fun b hb=>by grind,?_⟩
 grind [Below.trans,Below.mono]
structure tB (lo cb:Nat) (w:World) (lab:Nat->jO) (vS vF vL:Value) (k:aN) (hs:List bR) (n:Nat):Prop where
 rV:∀b,lab b≠.no->lo<=b/\b<w.heap.size
 head:w.heap[cb]?=some (.cells #[vS,vF,vL,Nl,I k.hand] 27 (0,0))
 lH:lab cb=.head
 aD:w.ownsRow lo 50 3 vS hs.length (hs.flatMap fN)
 cM:∀i,i<n->w.ownsRow lo 52 2 (vd (aV hs i)) (aV hs i).cM.length ((aV hs i).cM.flatMap gZ)
 frames:w.ownsRow lo 40 4 vF k.frames.length (k.frames.flatMap fB)
 slots:w.ownsRow lo 86 2 vL k.slots.length (k.slots.flatMap fA)
 lS:∀b,bQ vS b->lab b=.aD
 lX:∀i,i<n->∀b,bQ (vd (aV hs i)) b->lab b=.cM i
 lF:∀b,bQ vF b->lab b=.frames
 lL:∀b,bQ vL b->lab b=.slots
 same:cW k.aD hs
 rest:∀i,n<=i->aV hs i=aV k.aD i
theorem VY {lo:Nat} {WA w:World} {cb:Nat} {vS vF vL:Value} {k:aN} (h:KL lo WA w cb vS vF vL k.hand k):∃lab,tB lo cb w lab vS vF vL k k.aD 0:=by
 refine⟨fun b=>if b=cb then .head else if vS.ownBlock=some b then .aD else if vF.ownBlock=some b then .frames else if vL.ownBlock=some b then .slots else .no,⟨fun b hb=>?_,h.head,aR rfl,h.rS,fun i hi=>absurd hi (gN _),h.rF,h.rL,fun b hb=>?_,fun i hi=>absurd hi (gN _),fun b hb=>?_,fun b hb=>?_,rfl,fun i hi=>rfl⟩⟩
 · by_cases c0:b=cb
   · rw[c0];exact⟨h.hlo,aT h.head⟩
   · by_cases c1:vS.ownBlock=some b
     · exact h.rS.lt b c1
     · by_cases c2:vF.ownBlock=some b
       · exact h.rF.lt b c2
       · by_cases c3:vL.ownBlock=some b
         · exact h.rL.lt b c3
         grind
 · have hb':vS.ownBlock=some b:=hb;have:=h.d1 b hb
   grind
 · have hb':vF.ownBlock=some b:=hb;have:=h.d2 b hb;rw[bf this.2,bf (show ¬vS.ownBlock=some b from fun x=>(h.d1 b x).1 hb),aR hb']
 · have hb':vL.ownBlock=some b:=hb;have:=h.d3 b hb;rw[bf this,bf (show ¬vS.ownBlock=some b from fun x=>(h.d1 b x).2.1 hb),bf (show ¬vF.ownBlock=some b from fun x=>(h.d2 b x).1 hb),aR hb']
theorem tB.kp {lo cb:Nat} {w w':World} {lab:Nat->jO} {vS vF vL:Value} {k:aN} {hs:List bR} {n:Nat} (h:tB lo cb w lab vS vF vL k hs n) {E:Nat->Prop} (hk:aM E w w') (he:∀b,lab b≠.no->¬E b):tB lo cb w' lab vS vF vL k hs n:=by
 have z:∀{b:Nat} {c:jO},lab b=c->c≠.no->¬E b:=fun e hc=>he _ (by grind)
 exact⟨fun b hb=>⟨(h.rV b hb).1,iH (h.rV b hb).2 hk.size⟩,hk.keep h.head (z h.lH (by simp)),h.lH,hk.row h.aD (fun b hb=>z (h.lS b hb) (by simp)),fun i hi=>hk.row (h.cM i hi) (fun b hb=>z (h.lX i hi b hb) (by simp)),hk.row h.frames (fun b hb=>z (h.lF b hb) (by simp)),hk.row h.slots (fun b hb=>z (h.lL b hb) (by simp)),h.lS,h.lX,h.lF,h.lL,h.same,h.rest⟩
theorem tB.below {lo cb:Nat} {w w':World} {lab:Nat->jO} {vS vF vL:Value} {k:aN} {hs:List bR} {n:Nat} (h:tB lo cb w lab vS vF vL k hs n) (hb:Below w.heap.size w w'):tB lo cb w' lab vS vF vL k hs n:=h.kp (aM.cH (D:=fun _=>False) hb) (fun _ _ g=>g)
theorem BB (l:List bR) (i m:Nat) (x:bR) (hi:i<l.length):aV (l.set i x) m=if i=m then x else aV l m:=by
 grind [aV]
theorem Ge:∀(l:List bR) (i:Nat) (x:bR),i<l.length->dB x=dB (aV l i)->(l.set i x).map dB=l.map dB
 | [],i,x,hi,_=>absurd hi (gN _)
 | a::r,0,x,hi,e=>by
  show dB x::_=dB a::_;rw[e];rfl
 | a::r,i+1,x,hi,e=>by
  show dB a::(r.set i x).map dB=dB a::_;rw[Ge r i x (xH hi) e]
theorem tB.step {lo cb:Nat} {w w1:World} {lab:Nat->jO} {vF vL:Value} {k:aN} {hs:List bR} {n:Nat} {sb m cS:Nat} {ax:Option Addr} {cx:Nat} (h:tB lo cb w lab (.slice (some (Ad sb 0)) m cS) vF vL k hs n) (hn:n<hs.length) (hlo:lo<=w.heap.size) (hb:Below w.heap.size w w1)
  (hr:w1.ownsRow w.heap.size 52 2 (.slice ax (aV hs n).cM.length cx) (aV hs n).cM.length ((aV hs n).cM.flatMap gZ)) :
  ∃lab',tB lo cb (w1.setCell (Ad sb (n*3+2)) (.slice ax (aV hs n).cM.length cx)) lab' (.slice (some (Ad sb 0)) m cS) vF vL k (hs.set n ⟨(aV hs n).page,(aV hs n).data,(aV hs n).cM,ax,cx⟩) (n+1)/\∀b,b<w.heap.size->lab' b=lab b:=by
 have h1:=h.below hb;obtain⟨v,hv⟩:∃v:Value,v=.slice ax (aV hs n).cM.length cx:=⟨_,rfl⟩;rw[<- hv] at hr ⊢;have Bi:lab sb=.aD:=h.lS sb rfl;have pN:aM (fun b=>b=sb) w1 (w1.setCell (Ad sb (n*3+2)) v):=aM.set _ _ _ _ rfl;have z:∀{b:Nat} {c:jO},lab b=c->c≠.aD->¬b=sb:=fun e hc x=>hc (by grind)
 have ev:∀b,bQ v b->w.heap.size<=b/\b<w1.heap.size:=fun b hx=>hr.lt b hx
 have old:∀b,b<w.heap.size->(if v.ownBlock=some b then jO.cM n else lab b)=lab b:=fun b hl=>bf fun x=>by have:=ev b x;omega
 have o2:∀b c,lab b=c->c≠.no->(if v.ownBlock=some b then jO.cM n else lab b)=c:=fun b c e hc=>by
  rw[old b (h.rV b (by grind)).2,e]
 have hm:m=hs.length:=by
  obtain⟨ao,c,e,_⟩:=aY h.aD
  grind
 subst hm;have hsz:(w1.setCell (Ad sb (n*3+2)) v).heap.size=w1.heap.size:=by simp
 refine⟨fun b=>if v.ownBlock=some b then .cM n else lab b,⟨fun b hx=>?_,pN.keep h1.head (z h.lH (by simp)),o2 cb _ h.lH (by simp),?_,fun i hi=>?_,pN.row h1.frames (fun b hx=>z (h.lF b hx) (by simp)),pN.row h1.slots (fun b hx=>z (h.lL b hx) (by simp)),fun b hx=>o2 b _ (h.lS b hx) (by simp),fun i hi b hx=>?_,fun b hx=>o2 b _ (h.lF b hx) (by simp),fun b hx=>o2 b _ (h.lL b hx) (by simp),?_,fun i hi=>?_⟩,old⟩
 · rw[hsz];by_cases c:v.ownBlock=some b
   · have:=ev b c;omega
   · have hx:(if v.ownBlock=some b then jO.cM n else lab b)≠.no:=hx;rw[bf c] at hx;exact h1.rV b hx
 · have hr1:=o6 h1.aD (n*3+2) v;rw[<- nK fN 3 (fun _=>rfl) tE ⟨(aV hs n).page,(aV hs n).data,(aV hs n).cM,ax,cx⟩ 2 v (by omega) hs n hn (by rw[hv];rfl)] at hr1
   grind
 · rw[BB _ _ _ _ hn];by_cases c:n=i
   · rw[aR c];show World.ownsRow _ lo _ 2 (.slice ax (aV hs n).cM.length cx) _ _
     grind [mr,aM.row,rV]
   · rw[bf c];exact pN.row (h1.cM i (by omega)) (fun b hx=>z (h.lX i (by omega) b hx) (by simp))
 · rw[BB _ _ _ _ hn] at hx;by_cases c:n=i
   · rw[aR c] at hx;have hx:bQ (.slice ax (aV hs n).cM.length cx) b:=hx;rw[<- hv] at hx;show(if v.ownBlock=some b then jO.cM n else lab b)=_;rw[aR (show v.ownBlock=some b from hx),c]
   grind [lX]
 · show List.map dB _=_;exact(Ge hs n ⟨(aV hs n).page,(aV hs n).data,(aV hs n).cM,ax,cx⟩ hn rfl).trans h.same
 grind [BB,rest]
theorem tB.done {lo cb:Nat} {w:World} {lab:Nat->jO} {vS vF vL:Value} {k:aN} {hs:List bR} (h:tB lo cb w lab vS vF vL k hs hs.length):bu lo cb 27 [] w ⟨lab,vS,vF,vL,Nl,[]⟩ (bN ⟨k.aD,k.frames,k.slots,k.aj.take 0,k.hand⟩ hs) :=
 ⟨⟨h.rV,h.aD,h.cM,h.frames,h.slots,jz _ _ _ _,rfl,fun i hi=>absurd hi (gN _),h.lS,h.lX,h.lF,h.lL,(fun b hb=>by cases hb),fun i hi=>absurd hi (gN _),fun i hi=>absurd hi (gN _)⟩,h.head,h.lH⟩
open Go.RowKit
def cT (lo mb:Nat) (tt:TypeId) (X:List Value) (w:World) (S:dE) (v:Value) (k':aN) (e:Ending) (w':World):Prop:=e=.returned v/\∃S',bu lo mb tt X w' S' k'/\bU S w S' w'
def jN (lo mb:Nat) (tt:TypeId) (X:List Value) (w:World) (S:dE) (v:Value) (k':aN) (e:Ending) (w':World):Prop:=e=.returned v/\bu lo mb tt X w' S k'/\bU S w S w'
theorem zU {lo mb:Nat} {tt:TypeId} {X:List Value} (k:aN) (S:dE) (w:World) (e:bG) (d:Int) (h:bu lo mb tt X w S k) (h1:e.kind=1->0<=e.loc/\e.loc<(k.frames.length:Int)) (h2:e.kind≠1->0<=e.loc/\e.loc<(k.slots.length:Int)) (hd:d=1∨d=-1)
  (hr:(e.kind=1->-1000000<=(au k.frames e.loc.toNat).refs/\(au k.frames e.loc.toNat).refs<=1000000)/\(e.kind≠1->-1000000<=(br k.slots e.loc.toNat).refs/\(br k.slots e.loc.toNat).refs<=1000000)) :
  Calls Tryz.prog 85 #[.pointer (some (Ad mb 0)),kE e,I d] w (jN lo mb tt X w S (.tuple #[]) (jr k e d)):=by
 obtain⟨pg,kd,lc⟩:=e;unfold kE;simp only at h1 h2 hr ⊢;have eU:=ai ((aK w.heap.size w).alloc (aI _) (.cells #[I pg,I kd,I lc] 45));have EB:=ai (bO w #[I pg,I kd,I lc] 45);have HM:=ai (h.below eU.o);have HC0:Hid (bU S w S (w.alloc (.cells #[I pg,I kd,I lc] 45))):=bU.below eU.o;by_cases c:kd=1
 · obtain⟨i,rfl⟩:∃i:Nat,lc=(i:Int):=⟨lc.toNat,by omega⟩;have hi:i<k.frames.length:=by omega
   obtain⟨fb,cF,A⟩:=HM.o.toKr.fr (by omega);have Vd:=hr.1 c;rw[jn] at Vd;have x1:=A.x1 i hi;have x0:=A.x0 i hi;have x2:=A.x2 i hi;have x3:=A.x3 i hi;have f0:=A.fz (i*4);have f1:=A.fz (i*4+1);have f2:=A.fz (i*4+2);have f3:=A.fz (i*4+3);have c1:=HM.o.c1;rw[A.v] at c1;have e0:(w.alloc (.cells #[I pg,I kd,I (i:Int)] 45)).cell? (Ad w.heap.size 1)=some (I kd):=aB EB.o 1 rfl;have e2:(w.alloc (.cells #[I pg,I kd,I (i:Int)] 45)).cell? (Ad w.heap.size 2)=some (I (i:Int)):=aB EB.o 2 rfl;have JC:(i:Int)<(k.frames.length:Int):=by omega
   have cV:Hid (∀V,(∃f,V=((w.alloc (.cells #[I pg,I kd,I (i:Int)] 45)).setCell (Ad fb (i*4+1)) (I ((au k.frames i).refs+d))).drew/\f=au k.frames i/\¬f.refs+d=0)∨(∃f,f=au k.frames i/\f.refs+d=0/\V=((((((w.alloc (.cells #[I pg,I kd,I (i:Int)] 45)).setCell (Ad fb (i*4+1)) (I ((au k.frames i).refs+d))).setCell (Ad fb (i*4)) (.string ⟨#[]⟩)).setCell (Ad fb (i*4+1)) (I 0)).setCell (Ad fb (i*4+2)) (.bool false)).setCell (Ad fb (i*4+3)) (.bool false)).drew)->jN lo mb tt X w S (.tuple #[]) (jr k ⟨pg,kd,(i:Int)⟩ d) (.returned (.tuple #[])) V):=fun V hV=>by
    have hk:jr k ⟨pg,kd,(i:Int)⟩ d={ k with frames:=k.frames.set i (Df (au k.frames i) d) }:=by
     grind [jr]
    rw[hk];have HD:=HM.o;have CD:=HC0.o;have He:∀V:World,Below V.heap.size V V.drew:=fun V=>(aK _ _).drew
    have m1:=HD.Bb A.v hi (j:=1) (by omega) (f:=⟨(au k.frames i).data,(au k.frames i).refs+d,(au k.frames i).eX,(au k.frames i).seen⟩) (u:=I ((au k.frames i).refs+d)) rfl;have Y1:=CD.trans (sL HD.toKr A.v (i:=i*4+1) (u:=I ((au k.frames i).refs+d)));rcases hV with⟨f,rfl,rfl,hz⟩ | ⟨f,rfl,hz,rfl⟩
    · unfold Df;rw[bf hz];exact⟨rfl,m1.below (He _),Y1.trans (bU.below (He _))⟩
    · unfold Df;rw[aR hz];have m2:=m1.SM A.v (i:=i) (by grind) eW;simp only[pF] at m2;exact⟨rfl,m2.1.below (He _),(Y1.trans m2.2).trans (bU.below (He _))⟩
   obtain⟨P,hP⟩:=ex (jN lo mb tt X w S (.tuple #[]) (jr k ⟨pg,kd,(i:Int)⟩ d));rw[<- hP] at cV ⊢;obtain⟨F,hF⟩:=ex (au k.frames i);rw[<- hF] at x0 x1 x2 x3 Vd cV;obtain⟨n,hn⟩:=ex k.frames.length;rw[<- hn] at c1 JC;have kb:(kd==1)=true:=by grind
   have hw:IntKind.i64.wrap (F.refs+d)=F.refs+d:=m8 _ (by omega);clear h1 h2 hr h hP hF hn HM HC0 A EB eU c hd Vd hi;by_cases z:F.refs+d=0
   · have zb:(F.refs+d==0)=true:=by grind
     have HZ:=ai z;clear z;go_enter Tryz.func85,Tryz.ntmps85;go_upto_region 2 with fail;go_region;go_wp2;refine cm (v:=.tuple #[]) (by simp[results]) rfl ?_
     grind [Hid.o]
   · have zb:(F.refs+d==0)=false:=by grind
     have HZ:=ai z;clear z;go_enter Tryz.func85,Tryz.ntmps85;go_upto_region 2 with fail;go_region;go_wp2;refine cm (v:=.tuple #[]) (by simp[results]) rfl ?_
     grind [Hid.o]
 · obtain⟨i,rfl⟩:∃i:Nat,lc=(i:Int):=⟨lc.toNat,by omega⟩;have hi:i<k.slots.length:=by omega
   obtain⟨fb,cF,A⟩:=HM.o.toKr.sl (by omega);have Vd:=hr.2 c;rw[jn] at Vd;have x1:=A.x1 i hi;have x0:=A.x0 i hi;have f0:=A.fz (i*2);have f1:=A.fz (i*2+1);have c1:=HM.o.c2;rw[A.v] at c1;have e0:(w.alloc (.cells #[I pg,I kd,I (i:Int)] 45)).cell? (Ad w.heap.size 1)=some (I kd):=aB EB.o 1 rfl;have e2:(w.alloc (.cells #[I pg,I kd,I (i:Int)] 45)).cell? (Ad w.heap.size 2)=some (I (i:Int)):=aB EB.o 2 rfl;have JC:(i:Int)<(k.slots.length:Int):=by omega
   have cV:Hid (∀V,(∃f,V=((w.alloc (.cells #[I pg,I kd,I (i:Int)] 45)).setCell (Ad fb (i*2+1)) (I ((br k.slots i).refs+d))).drew/\f=br k.slots i/\¬f.refs+d=0)∨(∃f,f=br k.slots i/\f.refs+d=0/\V=((((w.alloc (.cells #[I pg,I kd,I (i:Int)] 45)).setCell (Ad fb (i*2+1)) (I ((br k.slots i).refs+d))).setCell (Ad fb (i*2)) (.string ⟨#[]⟩)).setCell (Ad fb (i*2+1)) (I 0)).drew)->jN lo mb tt X w S (.tuple #[]) (jr k ⟨pg,kd,(i:Int)⟩ d) (.returned (.tuple #[])) V):=fun V hV=>by
    have hk:jr k ⟨pg,kd,(i:Int)⟩ d={ k with slots:=k.slots.set i (De (br k.slots i) d) }:=by
     grind [jr]
    rw[hk];have HD:=HM.o;have CD:=HC0.o;have He:∀V:World,Below V.heap.size V V.drew:=fun V=>(aK _ _).drew
    have m1:=HD.YK A.v hi (j:=1) (by omega) (f:=⟨(br k.slots i).data,(br k.slots i).refs+d⟩) (u:=I ((br k.slots i).refs+d)) rfl;have Y1:=CD.trans (QZ HD.toKr A.v (i:=i*2+1) (u:=I ((br k.slots i).refs+d)));rcases hV with⟨f,rfl,rfl,hz⟩ | ⟨f,rfl,hz,rfl⟩
    · unfold De;rw[bf hz];exact⟨rfl,m1.below (He _),Y1.trans (bU.below (He _))⟩
    · unfold De;rw[aR hz];have m2:=m1.ace A.v (i:=i) (by grind) jS;simp only[pF] at m2;exact⟨rfl,m2.1.below (He _),(Y1.trans m2.2).trans (bU.below (He _))⟩
   obtain⟨P,hP⟩:=ex (jN lo mb tt X w S (.tuple #[]) (jr k ⟨pg,kd,(i:Int)⟩ d));rw[<- hP] at cV ⊢;obtain⟨F,hF⟩:=ex (br k.slots i);rw[<- hF] at x0 x1 Vd cV;obtain⟨n,hn⟩:=ex k.slots.length;rw[<- hn] at c1 JC;have kb:(kd==1)=false:=by grind
   have hw:IntKind.i64.wrap (F.refs+d)=F.refs+d:=m8 _ (by omega);clear h1 h2 hr h hP hF hn HM HC0 A EB eU c hd Vd hi;by_cases z:F.refs+d=0
   · have zb:(F.refs+d==0)=true:=by grind
     have HZ:=ai z;clear z;go_enter Tryz.func85,Tryz.ntmps85;go_upto_region 6 with fail;go_region;go_wp2;refine pE (v:=.tuple #[]) (by simp[results]) rfl ?_
     grind [Hid.o]
   · have zb:(F.refs+d==0)=false:=by grind
     have HZ:=ai z;clear z;go_enter Tryz.func85,Tryz.ntmps85;go_upto_region 6 with fail;go_region;go_wp2;refine pE (v:=.tuple #[]) (by simp[results]) rfl ?_
     grind [Hid.o]
open Go.RowKit
def ky (held:List Int) (k:aN) (i:Nat):aN:=if held.contains (i:Int) then k else { k with frames:=k.frames.set i (tK (au k.frames i)) }
theorem NA {lo mb:Nat} {tt:TypeId} {X:List Value} (k:aN) (S:dE) (w:World) (i:Nat) (held:List Int) (ah:Option Addr) (ch:Nat) (h:bu lo mb tt X w S k) (hi:i<k.frames.length) (hh:cJ dN 1 0 w ah held) (hl:held.length<=1000000) :
  Calls Tryz.prog 188 #[.pointer (some (Ad mb 0)),I (i:Int),.slice ah held.length ch] w (jN lo mb tt X w S (.bool (held.contains (i:Int) || (au k.frames i).seen)) (ky held k i)):=by
 obtain⟨fb,cF,A⟩:=h.toKr.fr (by omega);have HCO:=ai (tI held (i:Int) ah ch w hh hl);have x3:=A.x3 i hi;have f3:=A.fz (i*4+3);have c1:=h.c1;rw[A.v] at c1;have JC:(i:Int)<(k.frames.length:Int):=by omega
 rw[<- List.contains_eq_mem] at HCO;cases hc:held.contains (i:Int) with
 | true =>
  have cV:Hid (jN lo mb tt X w S (.bool (true || (au k.frames i).seen)) (ky held k i) (.returned (.bool true)) w):=⟨by simp,by grind [ky],bU.refl _ _⟩;rw[hc] at HCO;obtain⟨P,hP⟩:=ex (jN lo mb tt X w S (.bool (true || (au k.frames i).seen)) (ky held k i));rw[<- hP] at cV ⊢;clear hP hc hh h A hi hl x3 f3 c1 JC;go_enter Tryz.func188,Tryz.ntmps188;go_wp2_with (go_at_call 95;refine HCO.o.mono ?_;rintro e w1 ⟨rfl,rfl⟩)
  exact cV.o
 | false =>
  have cV:Hid (jN lo mb tt X w S (.bool (false || (au k.frames i).seen)) (ky held k i) (.returned (.bool (au k.frames i).seen)) (w.setCell (Ad fb (i*4+3)) (.bool false))):=⟨by simp,by
   unfold ky;rw[bf (by grind)];exact h.Bb A.v hi (j:=3) (by omega) rfl,sL h.toKr A.v⟩
  rw[hc] at HCO;obtain⟨P,hP⟩:=ex (jN lo mb tt X w S (.bool (false || (au k.frames i).seen)) (ky held k i));rw[<- hP] at cV ⊢;obtain⟨F,hF⟩:=ex (au k.frames i);rw[<- hF] at x3 cV;obtain⟨n,hn⟩:=ex k.frames.length;rw[<- hn] at c1 JC;clear hP hc hh h A hi hl hF hn;go_enter Tryz.func188,Tryz.ntmps188;go_wp2_with (go_at_call 95;refine HCO.o.mono ?_;rintro e w1 ⟨rfl,rfl⟩)
  exact cV.o
theorem AU {lo mb:Nat} {tt:TypeId} {X:List Value} (k:aN) (S:dE) (w:World) (h:bu lo mb tt X w S k) (hh:0<=k.hand/\k.hand<k.frames.length) (hn:k.frames.length<=1000000) :
  Calls Tryz.prog 189 #[.pointer (some (Ad mb 0))] w (jN lo mb tt X w S (.tuple #[]) { k with hand:=fM k }):=by
 obtain⟨fb,cF,A⟩:=h.toKr.fr (by omega);have cV:Hid (∀x,x=fM k->jN lo mb tt X w S (.tuple #[]) { k with hand:=fM k } (.returned (.tuple #[])) (w.setCell (Ad mb 4) (I x)).drew):=fun x hx=>by
  rw[hx];have:=h.XT (fM k);exact⟨rfl,this.1.below (aK _ _).drew,this.2.trans (bU.below (aK _ _).drew)⟩
 have hm:(k.hand+1).tmod (k.frames.length:Int)=fM k:=by
  grind [fM]
 have c1:=h.c1;rw[A.v] at c1;have c4:=h.c4;have f4:=h.free 4;obtain⟨P,hP⟩:=ex (jN lo mb tt X w S (.tuple #[]) { k with hand:=fM k });rw[<- hP] at cV ⊢;obtain⟨NX,hNX⟩:=ex (fM k);rw[<- hNX] at cV hm;obtain⟨hd,hhd⟩:=ex k.hand;rw[<- hhd] at c4 hh hm;obtain⟨n,hne⟩:=ex k.frames.length;rw[<- hne] at c1 hh hm hn;have hw:IntKind.i64.wrap (hd+1)=hd+1:=m8 _ (by omega);have hn0:¬(n:Int)=0:=by omega
 have hNb:-9223372036854775808<=NX/\NX<=9223372036854775807:=by
  have h1:0<=(hd+1).tmod (n:Int):=Int.tmod_nonneg _ (by omega);have h2:(hd+1).tmod (n:Int)<(n:Int):=Int.tmod_lt_of_pos _ (by omega);omega
 clear hP hNX hhd hne h A;go_enter Tryz.func189,Tryz.ntmps189;go_region
 all_goals go_wp2
 all_goals refine pE (v:=.tuple #[]) (by simp[results]) rfl ?_
 grind [Hid.o]
open Go.RowKit
theorem jK (l:bG):(bj l).length=3:=rfl
theorem CC (w:World):(sizeOf 45).run Tryz.prog w=.ok 3 w:=by rfl
theorem abc (w:World):(zeroValue 45).run Tryz.prog w=.ok (.agg #[I 0,I 0,I 0]) w:=by rfl
def mC (lo:Nat) (vp:Value) (l:List bG) (w:World) (e:Ending) (w':World):Prop:=∃v',e=.returned v'/\w'.ownsRow lo 45 3 v' l.length (l.flatMap bj)/\aM (bQ vp) w w'/\(∀b,bQ v' b->bQ vp b∨w.heap.size<=b)
theorem uL {α:Type} {w:World} {lo:Nat} {e:TypeId} {k n:Nat} {ao:Option Addr} {cap:Nat} {xs:List Value} (h:w.ownsRow lo e k (.slice ao n cap) n xs):kj w ao n xs:=fun hm=>by
 rcases h.2 with⟨h0,h1⟩ | ⟨g,cap',cur,hv,_,hg,_,_,_,ht⟩
 · omega
 grind [Addr.add_lit,cell_of_row]
theorem Od (lo:Nat) (ps zs:List bG) (ao az:Option Addr) (cap cz wz:Nat) (w:World) (h:w.ownsRow lo 45 3 (.slice ao ps.length cap) ps.length (ps.flatMap bj)) (hz:w.ownsRow wz 45 3 (.slice az zs.length cz) zs.length (zs.flatMap bj)) (hlo:lo<=w.heap.size) (hm:1<=zs.length) (hn:ps.length<=100000) (Fg:zs.length<=100000) :
  Calls Tryz.prog 192 #[.slice ao ps.length cap,I (ps.length:Int),.slice az zs.length cz] w (mC lo (.slice ao ps.length cap) (ps++zs) w):=by
 have HH:=ai h;have HF:=ai (uL (α:=Unit) hz);have HL:=ai (eG bj 3 jK zs);have H1:=ai (qp zs);obtain⟨_,_,e0,Hk,_⟩:=aY h;injection e0 with e1 e2 e3;subst e3;obtain⟨n,hne⟩:=ex ps.length;obtain⟨m,hme⟩:=ex zs.length;have cV:Hid (∀v' (w':World),w'.ownsRow lo 45 3 v' (n+m) (ps.flatMap bj++zs.flatMap bj)->aM (bQ (.slice ao n cap)) w w'->(∀b,bQ v' b->bQ (.slice ao n cap) b∨w.heap.size<=b)->mC lo (.slice ao n cap) (ps++zs) w (.returned v') w'):=fun v' w' h1 h2 h3=>⟨v',rfl,by grind,h2,h3⟩
 rw[<- hne] at HH hn Hk ⊢;rw[<- hme] at HF HL hm Fg ⊢;obtain⟨P,hP⟩:=ex (mC lo (.slice ao n cap) (ps++zs) w);rw[<- hP] at cV ⊢;obtain⟨XS,Vi⟩:=ex (ps.flatMap bj);obtain⟨ZS,hZS⟩:=ex (zs.flatMap bj);rw[<- Vi] at HH cV;rw[<- hZS] at HF HL H1 cV;obtain⟨i0,hin,hz0,hz1,hz2⟩:=gm tS;have yG:=ai hin;have Bg:=ai hz0;have Bf:=ai hz1;have Aj:=ai hz2;have hm0:((m:Int)==0)=false:=by grind
 clear h hz hne hme hP Vi hZS hin hz0 hz1 hz2 e1 e2;go_enter Tryz.func192,Tryz.ntmps192;go_wp2_with (at_builtin;refine cZ (P:=Tryz.prog) rfl _ _ 41 rfl lo 45 i0 (.agg #[I 0,I 0,I 0]) 3 24 Tryz.underlying41 yG.o Bg.o Bf.o Aj.o rfl (by decide) (.slice ao n cap) n XS rfl HH.o az m cz ZS rfl HL.o HF.o H1.o (by unfold maxLen;omega) (by omega) hlo ?_;intro v' w' hown hgr hat;have AZ:=ai hown;have HG2:=ai hgr;have wj:=ai hat;clear hown hgr hat)
 all_goals
  refine cV.o _ _ AZ.o (aM.grown HG2.o (fun _ e=>e)) (fun b hb=>?_);unfold bQ at hb ⊢;rcases wj.o with e | e
  · grind
  grind
open Go.RowKit
theorem yF {α:Type} (a b:List α) (n:Nat) (h:a.length=n):(a++b).take n=a:=by grind
theorem Rs {α:Type} (R Y X:List α) (a b:Nat) (hb:b=a+Y.length) (h:b+X.length<=R.length):(splice (splice R a Y) b X).take (b+X.length)=R.take a++(Y++X):=by
 subst hb;have h1:(splice R a Y).take (a+Y.length)=R.take a++Y:=by
  unfold splice;rw[<- rW];exact yF _ _ _ (by grind)
 unfold splice at h1 ⊢;rw[h1,<- rW,rW (R.take a) Y X];exact yF _ _ _ (by rw[fk,rX,fk];omega)
theorem Mm {α:Type} (R Y X:List α) (a b:Nat) (hb:b=a+Y.length) (h:b+X.length<=R.length):(splice (splice R b X) a Y).take (b+X.length)=R.take a++(Y++X):=by
 subst hb;have h1:(splice R (a+Y.length) X).take a=R.take a:=by
  grind [splice]
 have h2:(splice R (a+Y.length) X).drop (a+Y.length)=X++R.drop (a+Y.length+X.length):=by
  grind [splice]
 have h3:splice (splice R (a+Y.length) X) a Y=R.take a++(Y++(X++R.drop (a+Y.length+X.length))):=by
  rw[<- h2,<- h1];rfl
 rw[h3,<- rW,<- rW,rW (R.take a) Y X];exact yF _ _ _ (by grind)
theorem GM (ps:List bG) (i:Nat):(ps.flatMap bj).drop (i*3)=(ps.drop i).flatMap bj:=by
 induction ps generalizing i with
 | nil=>simp
 | cons a r ih =>
  cases i with
  | zero=>simp
  | succ i =>
   rw[mS,List.drop_succ_cons,<- ih i,show(i+1)*3=i*3+3 by omega];rfl
theorem Ag (ps:List bG) (i:Nat):(ps.flatMap bj).take (i*3)=(ps.take i).flatMap bj:=by
 induction ps generalizing i with
 | nil=>simp
 | cons a r ih =>
  cases i with
  | zero=>simp
  | succ i =>
   rw[mS,List.take_succ_cons,mS,<- ih i,show(i+1)*3=i*3+3 by omega];rfl
theorem Ah (w:World) (g:Nat) (cs:Array Value):aM (fun b=>b=g) w (w.setRow g cs):=⟨rfl,rfl,rfl,by simp_all,fun b _ hn=>setRow_other w g b cs hn⟩
theorem JU (lo:Nat) (ps zs:List bG) (pb zb cap cz wz i:Nat) (w:World) (h:w.ownsRow lo 45 3 (.slice (some (Ad pb 0)) ps.length cap) ps.length (ps.flatMap bj)) (hz:w.ownsRow wz 45 3 (.slice (some (Ad zb 0)) zs.length cz) zs.length (zs.flatMap bj)) (hne:zb≠pb) (hi:i<ps.length) (hm:1<=zs.length) (hn:ps.length<=100000) (Fg:zs.length<=100000) (hroom:ps.length+zs.length<=cap) :
  Calls Tryz.prog 192 #[.slice (some (Ad pb 0)) ps.length cap,I (i:Int),.slice (some (Ad zb 0)) zs.length cz] w (mC lo (.slice (some (Ad pb 0)) ps.length cap) (ps.take i++(zs++ps.drop i)) w):=by
 have ZC:=ai (uL (α:=Unit) hz);have A3:=ai (uL (α:=Unit) h);have H1:=ai (qp zs);have H1P:=ai (qp ps);obtain⟨cur,hcz,hgc,hcs,hct,hlo,hcm⟩:∃cur:Array Value,cur.size=cap*3/\w.heap[pb]?=some (.cells cur 45 (0,0))/\cap<=maxLen/\cur.toList.take (ps.length*3)=ps.flatMap bj/\lo<=pb/\ps.length<=cap:=by
  rcases h.2 with⟨h0,_⟩ | ⟨g,cap',cur,hv,hb,hg,h1,h2,h3,h4⟩
  · cases h0
  grind
 obtain⟨Z7,hzg,ald⟩:∃Z7:Array Value,w.heap[zb]?=some (.cells Z7 45 (0,0))/\0<Z7.size:=by
  rcases hz.2 with⟨h0,_⟩ | ⟨g,cap',zc,hv,hb,hg,h1,h2,h3,h4⟩
  · cases h0
  grind
 have hlx:=eG bj 3 jK ps;have hlz:=eG bj 3 jK zs;obtain⟨R,hR⟩:=ex cur.toList;have hRl:R.length=cap*3:=by grind
 have hRg:w.heap[pb]?=some (.cells R.toArray 45 (0,0)):=by rw[hR];omega
 rw[<- hR] at hct;obtain⟨n,SV⟩:=ex ps.length;obtain⟨m,hme⟩:=ex zs.length;obtain⟨XS,Vi⟩:=ex (ps.flatMap bj);obtain⟨ZS,hZS⟩:=ex (zs.flatMap bj);rw[<- hZS] at ZC H1 hlz;rw[<- Vi] at A3 hlx hct H1P;rw[<- hme] at ZC hlz hm Fg hroom ⊢;rw[<- SV] at A3 hlx hct hi hn hroom hcm ⊢;obtain⟨DS,hDS⟩:=ex (XS.drop (i*3));have hDl:DS.length=(n-i)*3:=by grind
 obtain⟨R1,Bd⟩:=ex (splice R ((i+m)*3) DS);have ae6:R1.length=cap*3:=by rw[Bd,length_splice _ _ _ (by omega)];exact hRl
 obtain⟨R2,KV⟩:=ex (splice R1 (i*3) ZS);have aaC:R2.length=cap*3:=by rw[KV,length_splice _ _ _ (by omega)];omega
 have aaB:R2.take ((n+m)*3)=XS.take (i*3)++(ZS++DS):=by
  have:=Mm R ZS DS (i*3) ((i+m)*3) (by omega) (by omega)
  grind
 have aau:∀ty dc sc,(Builtin.copy_ #[41,41] ty #[.slice (some (Ad pb ((i+m)*3))) (n+m-(i+m)) dc,.slice (some (Ad pb (i*3))) (n+m-i) sc]).run Tryz.prog w.drew=.ok (goInt (n-i)) (w.drew.setRow pb R1.toArray):=fun ty dc sc=>by
  have:=qA (P:=Tryz.prog) w.drew 41 41 ty 45 3 Tryz.underlying41 CC pb ((i+m)*3) (n+m-(i+m)) dc (some (Ad pb (i*3))) (n+m-i) sc R 45 hRg DS (by grind) (fun _=>⟨_,rfl,fun j u hu=>by
   obtain⟨ad,e,hc⟩:=A3.o (by omega);injection e with e;subst e;have:=hc (i*3+j) u (by rw[hDS,List.getElem?_drop] at hu;exact hu);rw[rY] at this ⊢;rw[gM] at this;exact this⟩) (by omega) (fun u hu=>H1P.o u (by rw[hDS] at hu;exact List.mem_of_mem_drop hu))
  rw[this,<- Bd];congr 2;simp only[zt];split <;> omega
 have hg1:(w.drew.setRow pb R1.toArray).heap[pb]?=some (.cells R1.toArray 45 (0,0)):=oP w.drew pb _ _ _ _ hRg;obtain⟨W1,hW1⟩:=ex (w.drew.setRow pb R1.toArray);rw[<- hW1] at aau hg1;have kp1:aM (fun b=>b=pb) w W1:=by rw[hW1];exact(aM.drew _ w).trans (Ah w.drew pb R1.toArray) (fun _ _ g=>g)
 have aeT:∀ty dc,(Builtin.copy_ #[41,41] ty #[.slice (some (Ad pb (i*3))) (n+m-i) dc,.slice (some (Ad zb 0)) m cz]).run Tryz.prog W1=.ok (goInt m) (W1.setRow pb R2.toArray):=fun ty dc=>by
  have:=qA (P:=Tryz.prog) W1 41 41 ty 45 3 Tryz.underlying41 CC pb (i*3) (n+m-i) dc (some (Ad zb 0)) m cz R1 45 hg1 ZS (by rw[hlz];simp only[zt];split <;> omega) (fun _=>⟨_,rfl,fun j u hu=>by
   obtain⟨ad,e,hc⟩:=ZC.o (by omega);injection e with e;subst e;have:=hc j u hu;exact kp1.cell this (by rw[rY];exact hne)⟩) (by omega) H1.o
  rw[this,<- KV];congr 2;simp only[zt];split <;> omega
 have hg2:(W1.setRow pb R2.toArray).heap[pb]?=some (.cells R2.toArray 45 (0,0)):=oP W1 pb _ _ _ _ hg1;have cV:Hid (mC lo (.slice (some (Ad pb 0)) n cap) (ps.take i++(zs++ps.drop i)) w (.returned (.slice (some (Ad pb 0)) (n+m) cap)) (W1.setRow pb R2.toArray)):=by
  have hl:(ps.take i++(zs++ps.drop i)).length=n+m:=by rw[fk,fk,rX,Ki,<- SV,<- hme];omega
  refine⟨_,rfl,?_,(kp1.trans (Ah W1 pb _) (fun _ _ g=>g)).mono (fun b _ e=>by rw[e];rfl),fun b hb=>.inl hb⟩;rw[hl];have hx:(ps.take i++(zs++ps.drop i)).flatMap bj=R2.take ((n+m)*3):=by
   rw[aaB,Vi,hZS,hDS,Vi,Ag,GM,qg,qg]
  rw[hx];exact⟨by rw[rX,aaC];omega,.inr ⟨pb,cap,R2.toArray,rfl,hlo,hg2,hroom,hcs,by omega,by simp⟩⟩
 obtain⟨P,hP⟩:=ex (mC lo (.slice (some (Ad pb 0)) n cap) (ps.take i++(zs++ps.drop i)) w);rw[<- hP] at cV ⊢;have hov:∀lb cb,(callFunc 205 #[.slice (some (Ad zb 0)) m cz,.slice (some (Ad pb ((i+m)*3))) lb cb]).run Tryz.prog w=.ok (.value (.bool false)) w:=fun lb cb=>by
  rw[run_callFunc_extern Tryz.func205 (by kernel_rfl) (by kernel_rfl) (by kernel_rfl) (e:=Extern.SlicesOverlaps.overlaps #[41,41] #[4]) (by kernel_rfl),
   Lib.run_overlaps_apart w 41 4 45 Tryz.underlying41 3 CC (Ad zb 0) (Ad pb ((i+m)*3)) m cz lb cb hne 45 45 Z7.size cur.size (by simp[World.shape?,hzg]) (by simp[World.shape?,hgc]) (by omega) (aO hzg 0) (aO hzg Z7.size)]
  rfl
 have hm0:((m:Int)==0)=false:=by rw[zw];omega
 have hi0:((i:Int)==(n:Int))=false:=by rw[zw];omega
 have hw1:IntKind.i64.wrap ((i:Int)+(m:Int))=(i:Int)+(m:Int):=m8 _ (by omega);have hb1:(0:Int)<=(i:Int)+(m:Int):=by omega
 have hin:i<=n:=by omega
 have htn:((i:Int)+(m:Int)).toNat=i+m:=by omega
 have hb2:¬(cap=i+m):=by omega
 have hb3:(i:Int)<=(n:Int)+(m:Int):=by omega
 have hb4:¬(cap=i):=by omega
 have hr2:¬((cap:Int)<(n:Int)+(m:Int)):=by omega
 have al2:cap<=9223372036854775807:=by unfold maxLen at hcs;omega
 clear h hz SV hme Vi hZS hDS hDl Bd KV hW1 hR hRl hRg ae6 aaC aaB hlx hlz hct hgc hcz hzg ald hP hg1 hg2 kp1 ZC A3 H1 H1P hcs;go_enter Tryz.func192,Tryz.ntmps192;go_wp2_with (simp only[hov])
 go_region_law (refine M9 rfl _ _ 41 41 rfl _ _ (by simp[Act.eval,Act.put]) (by simp[Act.eval,Act.put]) (aau _ _ _) ?_)
 go_wp2_with (at_builtin;refine Jw _ rfl _ _ 41 41 rfl _ _ rfl rfl (aeT _ _) ?_)
 exact cV.o
open Go.RowKit
theorem Mn (lo:Nat) (ps zs:List bG) (pb zb cap cz wz i:Nat) (w:World) (h:w.ownsRow lo 45 3 (.slice (some (Ad pb 0)) ps.length cap) ps.length (ps.flatMap bj)) (hz:w.ownsRow wz 45 3 (.slice (some (Ad zb 0)) zs.length cz) zs.length (zs.flatMap bj)) (hlo:lo<=w.heap.size) (hi:i<ps.length) (hm:1<=zs.length) (hn:ps.length<=100000) (Fg:zs.length<=100000) (hroom:cap<ps.length+zs.length) :
  Calls Tryz.prog 192 #[.slice (some (Ad pb 0)) ps.length cap,I (i:Int),.slice (some (Ad zb 0)) zs.length cz] w (mC lo (.slice (some (Ad pb 0)) ps.length cap) (ps.take i++(zs++ps.drop i)) w):=by
 have ZC:=ai (uL (α:=Unit) hz);have A3:=ai (uL (α:=Unit) h);have H1:=ai (qp zs);have H1P:=ai (qp ps);have hpb:pb<w.heap.size:=(h.lt pb rfl).2;have hzb:zb<w.heap.size:=(hz.lt zb rfl).2;have hcm:ps.length<=cap:=by
  grind [aY]
 have hlx:=eG bj 3 jK ps;have hlz:=eG bj 3 jK zs;obtain⟨n,SV⟩:=ex ps.length;obtain⟨m,hme⟩:=ex zs.length;obtain⟨XS,Vi⟩:=ex (ps.flatMap bj);obtain⟨ZS,hZS⟩:=ex (zs.flatMap bj);rw[<- hZS] at ZC H1 hlz;rw[<- Vi] at A3 hlx H1P;rw[<- hme] at ZC hlz hm Fg hroom ⊢;rw[<- SV] at A3 hlx hi hn hroom hcm ⊢;obtain⟨i0,hin,hz0,hz1,hz2⟩:=gm tS;have hold:(Builtin.firstCells i0.size i (.slice (some (Ad pb 0)) i cap)).run Tryz.prog w.drew=.ok (XS.take (i*3)).toArray w.drew:=by
  rw[hz1];exact aca w.drew 3 i (Ad pb 0) i cap (XS.take (i*3)) (by grind) (fun j u hu=>by
   rw[List.getElem?_take] at hu;split at hu
   · obtain⟨ad,e,hc⟩:=A3.o (by omega);injection e with e;subst e;exact hc j u hu
   grind)
 have hik:i+(n+m-i)=n+m:=by omega
 have hkk:(n:Int)+(m:Int)-(i:Int)=((n+m-i:Nat):Int):=by omega
 obtain⟨G,hG⟩:=ex (grownCap w (n+m) cap 45);obtain⟨R,hR⟩:∃R:List Value,R=XS.take (i*3)++iE [I 0,I 0,I 0] (n+m-i)++iE [I 0,I 0,I 0] (G-(n+m)):=⟨_,rfl⟩;have hGn:n+m<=G:=by rw[hG];exact grownCap_ge w _ _ _
 have afc:G<=maxLen:=by rw[hG];exact grownCap_le_maxLen w (n+m) cap _ (by unfold maxLen;omega)
 have hRl:R.length=G*3:=by
  rw[hR,fk,fk,kK,kK,rX,hlx]
  grind
 have hRt:R.take (i*3)=XS.take (i*3):=by
  grind
 have hrz:∀ty,(Builtin.append_ #[41,3] ty #[.slice (some (Ad pb 0)) i cap,I ((n:Int)+(m:Int)-(i:Int))]).run Tryz.prog w=.ok (.slice (some (Ad w.heap.size 0)) (n+m) G) (w.drew.alloc (.cells R.toArray 45)):=fun ty=>by
  have h:=Lib.run_append_grow_zeros (P:=Tryz.prog) w 41 3 ty 45 i0 _ .i64 .i64 Tryz.underlying41 Tryz.underlying3 hin hz0 (some (Ad pb 0)) i cap (XS.take (i*3)) hold (n+m-i) (by omega) (by omega) (by omega) (by omega) (by grind) (by rw[hz2,hik];exact growslice_fits hroom (by omega));rw[hik,<- hG] at h;rw[hkk,h];congr 3;rw[hR];have e1:=yH (Value.cells (.agg #[I 0,I 0,I 0])) (n+m-i) (by decide);have e2:=yH (Value.cells (.agg #[I 0,I 0,I 0])) (G-(n+m)) (by decide);apply PT.1;rw[Array.toList_append,Array.toList_append,e1,e2];rfl
 have hg0:(w.drew.alloc (.cells R.toArray 45)).heap[w.heap.size]?=some (.cells R.toArray 45 (0,0)):=bO w.drew _ _;obtain⟨W0,hW0⟩:=ex (w.drew.alloc (.cells R.toArray 45));rw[<- hW0] at hrz hg0;have kp0:Below w.heap.size w W0:=by rw[hW0];exact(aK _ _).drew.alloc (aI _) _
 obtain⟨H,hH⟩:=ex w.heap.size;rw[<- hH] at hrz hg0 hlo;obtain⟨DS,hDS⟩:=ex (XS.drop (i*3));have hDl:DS.length=(n-i)*3:=by rw[hDS,Ki,hlx];omega
 obtain⟨R1,Bd⟩:=ex (splice R (i*3) ZS);have ae6:R1.length=G*3:=by rw[Bd,length_splice _ _ _ (by omega)];exact hRl
 obtain⟨R2,KV⟩:=ex (splice R1 ((i+m)*3) DS);have aaC:R2.length=G*3:=by rw[KV,length_splice _ _ _ (by omega)];omega
 have aaB:R2.take ((n+m)*3)=XS.take (i*3)++(ZS++DS):=by
  have:=Rs R ZS DS (i*3) ((i+m)*3) (by omega) (by omega);rw[<- Bd,<- KV,hDl,show(i+m)*3+(n-i)*3=(n+m)*3 by omega] at this;rw[this,hRt]
 have aau:∀ty dc,(Builtin.copy_ #[41,41] ty #[.slice (some (Ad H (i*3))) (n+m-i) dc,.slice (some (Ad zb 0)) m cz]).run Tryz.prog W0=.ok (goInt m) (W0.setRow H R1.toArray):=fun ty dc=>by
  have:=qA (P:=Tryz.prog) W0 41 41 ty 45 3 Tryz.underlying41 CC H (i*3) (n+m-i) dc (some (Ad zb 0)) m cz R 45 hg0 ZS (by rw[hlz];simp only[zt];split <;> omega) (fun _=>⟨_,rfl,fun j u hu=>by
   obtain⟨ad,e,hc⟩:=ZC.o (by omega);injection e with e;subst e;have:=hc j u hu;rw[rY] at this ⊢;exact(kp0.cell (p:=(Ad zb (0+j))) hzb).trans this⟩) (by omega) H1.o
  rw[this,<- Bd];congr 2;simp only[zt];split <;> omega
 have hg1:(W0.setRow H R1.toArray).heap[H]?=some (.cells R1.toArray 45 (0,0)):=oP W0 H _ _ _ _ hg0;obtain⟨W1,hW1⟩:=ex (W0.setRow H R1.toArray);rw[<- hW1] at aau hg1;have kp1:Below w.heap.size w W1:=by rw[hW1];exact below_setRow kp0 (by omega) _
 have aeT:∀ty dc sc,(Builtin.copy_ #[41,41] ty #[.slice (some (Ad H ((i+m)*3))) (n+m-(i+m)) dc,.slice (some (Ad pb (i*3))) (n-i) sc]).run Tryz.prog W1.drew=.ok (goInt (n-i)) (W1.drew.setRow H R2.toArray):=fun ty dc sc=>by
  have:=qA (P:=Tryz.prog) W1.drew 41 41 ty 45 3 Tryz.underlying41 CC H ((i+m)*3) (n+m-(i+m)) dc (some (Ad pb (i*3))) (n-i) sc R1 45 hg1 DS (by rw[hDl];simp only[zt];split <;> omega) (fun _=>⟨_,rfl,fun j u hu=>by
   obtain⟨ad,e,hc⟩:=A3.o (by omega);injection e with e;subst e;have:=hc (i*3+j) u (by rw[hDS,List.getElem?_drop] at hu;exact hu);rw[rY] at this ⊢;rw[gM] at this;exact(kp1.cell (p:=(Ad pb (i*3+j))) hpb).trans this⟩) (by omega) (fun u hu=>H1P.o u (by rw[hDS] at hu;exact List.mem_of_mem_drop hu))
  rw[this,<- KV];congr 2;simp only[zt];split <;> omega
 have hg2:(W1.drew.setRow H R2.toArray).heap[H]?=some (.cells R2.toArray 45 (0,0)):=oP W1.drew H _ _ _ _ hg1;have kp2:Below w.heap.size w (W1.drew.setRow H R2.toArray):=below_setRow kp1.drew (by omega) _;have cV:Hid (mC lo (.slice (some (Ad pb 0)) n cap) (ps.take i++(zs++ps.drop i)) w (.returned (.slice (some (Ad H 0)) (n+m) G)) (W1.drew.setRow H R2.toArray)):=by
  have hl:(ps.take i++(zs++ps.drop i)).length=n+m:=by rw[fk,fk,rX,Ki,<- SV,<- hme];omega
  refine⟨_,rfl,?_,aM.cH kp2,fun b hb=>.inr (by have:some H=some b:=hb;injection this;omega)⟩;rw[hl];have hx:(ps.take i++(zs++ps.drop i)).flatMap bj=R2.take ((n+m)*3):=by
   rw[aaB,Vi,hZS,hDS,Vi,Ag,GM,qg,qg]
  rw[hx];exact⟨by rw[rX,aaC];omega,.inr ⟨H,G,R2.toArray,rfl,hlo,hg2,hGn,afc,by omega,by simp⟩⟩
 obtain⟨P,hP⟩:=ex (mC lo (.slice (some (Ad pb 0)) n cap) (ps.take i++(zs++ps.drop i)) w);rw[<- hP] at cV ⊢;have hm0:((m:Int)==0)=false:=by rw[zw];omega
 have asl:((i:Int)==(n:Int))=false:=by rw[zw];omega
 have hw1:IntKind.i64.wrap ((i:Int)+(m:Int))=(i:Int)+(m:Int):=m8 _ (by omega);have hb1:(0:Int)<=(i:Int)+(m:Int):=by omega
 have htn:((i:Int)+(m:Int)).toNat=i+m:=by omega
 have hb2:¬(G=i+m):=by omega
 have hb3:(i:Int)<=(n:Int):=by omega
 have hb4:¬(cap=i):=by omega
 have Bk:¬(G=i):=by omega
 have hr2:(cap:Int)<(n:Int)+(m:Int):=by omega
 have al2:G<=9223372036854775807:=by unfold maxLen at afc;omega
 clear h hz SV hme Vi hZS hDS hDl Bd KV hW1 hW0 hR hRl hRt ae6 aaC aaB hlx hlz hP hg0 hg1 hg2 kp0 kp1 kp2 ZC A3 H1 H1P afc hG hH hold hin hz0 hz1 hz2 hik hkk;go_enter Tryz.func192,Tryz.ntmps192;go_wp2_with (first
  | (at_builtin;refine Lib.wpList_append_run _ rfl _ _ _ _ rfl _ _ rfl rfl _ _ (hrz _) ?_)
  | (at_builtin;refine Jw _ rfl _ _ 41 41 rfl _ _ rfl rfl (aau _ _) ?_))
 go_region_law (refine M9 rfl _ _ 41 41 rfl _ _ (by simp[Act.eval,Act.put]) (by simp[Act.eval,Act.put]) (aeT _ _ _) ?_)
 go_wp2;exact cV.o
theorem Oe (lo:Nat) (ps zs:List bG) (vp vz:Value) (wz i:Nat) (w:World) (h:w.ownsRow lo 45 3 vp ps.length (ps.flatMap bj)) (hz:w.ownsRow wz 45 3 vz zs.length (zs.flatMap bj)) (hlo:lo<=w.heap.size) (hne:∀b,bQ vz b->¬bQ vp b) (hi:i<=ps.length) (hm:1<=zs.length) (hn:ps.length<=100000) (Fg:zs.length<=100000) :
  Calls Tryz.prog 192 #[vp,I (i:Int),vz] w (mC lo vp (ps.take i++(zs++ps.drop i)) w):=by
 obtain⟨ao,cap,rfl,Hk,hg⟩:=aY h;obtain⟨az,cz,rfl,_,hgz⟩:=aY hz;by_cases c:i=ps.length
 · subst c;have e:ps.take ps.length++(zs++ps.drop ps.length)=ps++zs:=by grind
   rw[e];exact Od lo ps zs ao az cap cz wz w h hz hlo hm hn Fg
 · obtain⟨pb,rfl,_,_⟩:=hg (by omega);obtain⟨zb,rfl,_,_⟩:=hgz (by omega);by_cases d:ps.length+zs.length<=cap
   · exact JU lo ps zs pb zb cap cz wz i w h hz (fun e=>hne zb rfl (by rw[e];rfl)) (by omega) hm hn Fg d
   · exact Mn lo ps zs pb zb cap cz wz i w h hz hlo (by omega) hm hn Fg (by omega)
end Go.Proofs.YtpgifpeohlllfaaGreat
