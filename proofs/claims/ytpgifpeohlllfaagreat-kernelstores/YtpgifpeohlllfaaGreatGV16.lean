import Derived.Test.YtpgifpeohlllfaaGreatGV15
set_option maxHeartbeats 20000000
set_option linter.unusedVariables false
set_option maxRecDepth 100000
set_option linter.unusedSimpArgs false
namespace Go.Proofs.YtpgifpeohlllfaaGreat
namespace Go.Proofs.YtpgifpeohlllfaaGreat
open Go.RowKit
section
variable {P:Program} {ops:Array Oper} {Q:Exit->Act->World->Prop} {md:Region.Mode} {S:World->Prop} {z:Nat}
def vQ (P:Program) (md:Region.Mode) (ops:Array Oper) (Q:Exit->Act->World->Prop) (S:World->Prop) (z:Nat):Nat->Array Bool->Act->World->Prop
 | 0,l,a,w=>Region.ready md ops l=[]/\Q .normal a w
 | n+1,l,a,w=>(Region.ready md ops l=[]->Q .normal a w)/\∀i∈Region.ready md ops l,wpOp P ops Q i (fun a' w'=>(i≠z->S w')/\vQ P md ops Q S z n (l.setIfInBounds i true) a' w') a w
theorem TG:∀(n:Nat) (l:Array Bool) (a:Act) (w:World),vQ P md ops Q S z n l a w->wpAny P md ops Q n l a w
 | 0,_,_,_,h=>h
 | n+1,_,_,_,h=>⟨h.1,fun i hi=>wpOp_mono (fun a' w' g=>TG n _ a' w' g.2) (h.2 i hi)⟩
theorem Za {l:Array Bool} {i:Nat} (h:l.getD i true=false):l.getD i false=false:=by
 grind
theorem afq {i:Nat} {oi:Oper} {v:Value} (hi:ops[i]?=some oi) (alh:∀(j:Nat) (o:Oper) cs b,ops[j]?=some o->o.op≠.select cs b)
  (hQ:∀c a w,Q (.panic c) (a.put oi.dst v) w->Q (.panic c) a w) (hz:∀oz,ops[z]?=some oz->∃e∈oz.after,Region.binds md e=true/\e.on=i) :
  ∀(n:Nat) (l:Array Bool) (a:Act) (w:World),(∀j oj,ops[j]?=some oj->j≠i->l.getD j true=false->(∀e∈oj.after,Region.binds md e=true->e.on≠i)->oi.apart ops oj=true) ->
   i∈Region.ready md ops l->YieldsIf P ops S oi v a->S w->vQ P md ops Q S z n (l.setIfInBounds i true) (a.put oi.dst v) w->vQ P md ops Q S z (n+1) l a w:=by
 intro n;induction n with
 | zero =>
  intro l a w _ hr hy hS H;refine⟨fun g=>absurd hr (by grind),fun j hj=>?_⟩;by_cases c:j=i
  · subst c;exact hy.wpOp hi hS ⟨fun _=>hS,H⟩
  · have g:=ready_mono hj c;rw[H.1] at g;exact absurd g NM
 | succ n ih =>
  intro l a w hf hr hy hS H;refine⟨fun g=>absurd hr (by grind),fun j hj=>?_⟩;by_cases c:j=i
  · subst c;exact hy.wpOp hi hS ⟨fun _=>hS,H⟩
  · obtain⟨hu,oj,hoj,hall⟩:=mem_ready.1 hj;have hiu:=Za (mem_ready.1 hr).1;have hno:∀e∈oj.after,Region.binds md e=true->e.on≠i:=fun e he hb g=>by
     grind
    have hjz:j≠z:=fun g=>by
     grind
    have h2:=wpOp_putIf hoj (hf j oj hoj c hu hno) (fun cs b=>alh i oi cs b hi) (fun cs b=>alh j oj cs b hoj) hQ hy (H.2 j (ready_mono hj c));refine wpOp_mono (fun a' w' g=>⟨g.2.1,ih (l.setIfInBounds j true) a' w' (fun k ok hk MU hun hn=>hf k ok hk MU ?_ hn) (ready_mono hr (Ne.symm c)) g.1 (g.2.1 hjz) ?_⟩) h2
    · by_cases d:j=k
      · grind
      · rw[getD_set_ne true d] at hun;exact hun
    · rw[Array.setIfInBounds_comm _ _ c];exact g.2.2
def J0 (md:Region.Mode) (ops:Array Oper) (z i:Nat):Bool:=match ops[z]? with
 | none=>false
 | some o=>o.after.any (fun e=>Region.binds md e&&e.on==i)
theorem Sp {i:Nat} (h:J0 md ops z i=true):∀oz,ops[z]?=some oz->∃e∈oz.after,Region.binds md e=true/\e.on=i:=fun oz ho=>by
 grind [J0]
theorem ahI {i:Nat} {oi:Oper} {v:Value} {n:Nat} {l:Array Bool} {a:Act} {w:World} (hi:ops[i]?=some oi)
  (hs:Region.noSelect ops=true) (hf:Region.free md ops l i=true) (hr:(Region.ready md ops l).contains i=true) (hw:J0 md ops z i=true)
  (hQ:∀c a w,Q (.panic c) (a.put oi.dst v) w->Q (.panic c) a w) (hy:YieldsIf P ops S oi v a) (hS:S w)
  (h:vQ P md ops Q S z n (l.setIfInBounds i true) (a.put oi.dst v) w):vQ P md ops Q S z (n+1) l a w :=
 afq hi (Region.noSelect_spec hs) hQ (Sp hw) n l a w (Region.free_spec hi hf) (by grind) hy hS h
theorem cB (i:Nat) {oi:Oper} {n:Nat} {l:Array Bool} {a:Act} {w:World} (hS:S w) (v:Value) (hy:∀V,S V->(execOp a.eval oi).run P V=.ok (.value v) V)
  (h:vQ P md ops Q S z n (l.setIfInBounds i true) (a.put oi.dst v) w) (hi:ops[i]?=some oi:=by rfl) (hs:Region.noSelect ops=true:=by kernel_rfl) (hf:Region.free md ops l i=true:=by kernel_rfl) (hr:(Region.ready md ops l).contains i=true:=by kernel_rfl) (hw:J0 md ops z i=true:=by kernel_rfl)
  (hwt:Region.wanted oi (yielded ops a.tmps)=true:=by rfl) (hQ:∀c a w,Q (.panic c) (a.put oi.dst v) w->Q (.panic c) a w:=by exact fun _ _ _ h=>h):vQ P md ops Q S z (n+1) l a w :=
 ahI hi hs hf hr hw hQ (Or.inl ⟨hwt,hy⟩) hS h
def aU (P:Program) (md:Region.Mode) (ops:Array Oper) (Q:Exit->Act->World->Prop) (S:World->Prop) (z n:Nat) (l:Array Bool) (a:Act) (w:World) (rs:List Nat):Prop:=∀i∈rs,wpOp P ops Q i (fun a' w'=>(i≠z->S w')/\vQ P md ops Q S z n (l.setIfInBounds i true) a' w') a w
theorem aU.nil {n:Nat} {l:Array Bool} {a:Act} {w:World}:aU P md ops Q S z n l a w []:=fun _ h=>absurd h NM
theorem aU.cons {n:Nat} {l:Array Bool} {a:Act} {w:World} {i:Nat} {o:Oper} {rs:List Nat} (ho:ops[i]?=some o)
  (h:∀K':Act->World->Prop,Shut (∀a w,(i≠z->S w)->vQ P md ops Q S z n (l.setIfInBounds i true) a w->K' a w)->if Region.wanted o (yielded ops a.tmps)=true then Oper.wp P o a w K' Q else K' (a.put o.dst undef) w)
  (hs:aU P md ops Q S z n l a w rs):aU P md ops Q S z n l a w (i::rs):=fun j hj=>by
 rcases zJ.1 hj with g | g
 · subst g;exact wpOp_step ho (fun K' hK=>h K' (fun a w h1 h2=>hK a w ⟨h1,h2⟩))
 · exact hs j g
theorem ck {rs:List Nat} {n:Nat} {l:Array Bool} {a:Act} {w:World} (hr:Region.ready md ops l=rs) (hne:rs≠[]) (h:aU P md ops Q S z n l a w rs):vQ P md ops Q S z (n+1) l a w:=⟨fun g=>absurd (hr ▸ g) hne,hr ▸ h⟩
theorem jL {l:Array Bool} {a:Act} {w:World} (hr:Region.ready md ops l=[]) (h:Q .normal a w):∀n,vQ P md ops Q S z n l a w
 | 0=>⟨hr,h⟩
 | _+1=>⟨fun _=>h,by rw[hr];exact fun _ g=>absurd g NM⟩
theorem nB {id:Nat} {a:Act} {w:World} (hm:P.follows .mixedOrders=true) (h:vQ P .any ops Q S z ops.size (Array.replicate ops.size false) a w.drew):(Code.region id ops true).wp P Q a w:=wp_region_any hm (TG _ _ _ _ h)
end
theorem Tb:∀(l:List kj),∀u∈l.flatMap gq,u.oneCell'=true:=fun l u hu=>by
 obtain⟨y,_,hy⟩:=vZ.1 hu;simp[gq] at hy;rcases hy with rfl | rfl | rfl | rfl <;> rfl
theorem SX:∀(l:List mO),∀u∈l.flatMap gp,u.oneCell'=true:=fun l u hu=>by
 obtain⟨y,_,hy⟩:=vZ.1 hu;simp[gp] at hy;rcases hy with rfl | rfl <;> rfl
theorem ac6:∀(l:List bM),∀u∈l.flatMap ic,u.oneCell'=true:=fun l u hu=>by
 obtain⟨y,_,hy⟩:=vZ.1 hu;simp[ic] at hy;rcases hy with rfl | rfl | rfl <;> rfl
theorem Ta:∀(l:List mF),∀u∈l.flatMap ji,u.oneCell'=true:=fun l u hu=>by
 obtain⟨y,_,hy⟩:=vZ.1 hu;simp[ji] at hy;rcases hy with rfl | rfl <;> rfl
theorem qh {α:Type} {f:α->List Value} {n:Nat} (hf:∀x,(f x).length=n) {d:α} {w:World} {ao:Option Addr} {l:List α} (h:dz f n d w ao l):lJ w ao l.length (l.flatMap f):=fun hm=>by
 obtain⟨b,off,rfl,hb,hl⟩:=h hm;exact xW (w:=w) f n hf d l b off (fun i hi j hj=>hl i hi j hj) hm
theorem SY {w:World} {ao:Option Addr} {l:List bM} (h:iM w ao l):dz ic 3 xy w ao l:=fun hl=>by
 obtain⟨b,off,e,hb,hi⟩:=h hl;refine⟨b,off,e,hb,fun i hlt j hj=>?_⟩;obtain⟨c0,c1,c2,_⟩:=hi i hlt
 match j,hj with
 | 0,_=>exact c0
 | 1,_=>exact c1
 | 2,_=>exact c2
theorem S9 {w:World} {ao:Option Addr} {l:List mF} (h:mr w ao l):dz ji 2 O9 w ao l:=fun hl=>by
 obtain⟨b,off,e,hb,hi⟩:=h hl;refine⟨b,off,e,hb,fun i hlt j hj=>?_⟩;obtain⟨c0,c1⟩:=hi i hlt
 match j,hj with
 | 0,_=>exact c0
 | 1,_=>exact c1
structure Oi (lo:Nat) (WA wx:World) (cb:Nat) (vS vF vL:Value) (hd:Int) (k:aN):Prop where
 head:wx.heap[cb]?=some (.cells #[vS,vF,vL,Nl,I hd] 27 (0,0))
 hlo:lo<=cb
 rS:wx.ownsRow lo 50 3 vS k.aA.length (k.aA.flatMap ic)
 rF:wx.ownsRow lo 40 4 vF k.frames.length (k.frames.flatMap gq)
 rL:wx.ownsRow lo 86 2 vL k.slots.length (k.slots.flatMap gp)
 d1:∀b,bI vS b->¬bI vF b/\¬bI vL b/\b≠cb
 d2:∀b,bI vF b->¬bI vL b/\b≠cb
 d3:∀b,bI vL b->b≠cb
 below:Below WA.heap.size WA wx
theorem CJ {WA V1 w1 V2 w2 V3 w3 V4:World} {cb:Nat} {vS vF vL:Value} {hd:Int} {k:aN} (b0:Below WA.heap.size WA V1) (h1:w1.ownsRow V1.heap.size 50 3 vS k.aA.length (k.aA.flatMap ic)) (b1:Below V1.heap.size V1 w1) (b12:Below w1.heap.size w1 V2)
  (h2:w2.ownsRow V2.heap.size 40 4 vF k.frames.length (k.frames.flatMap gq)) (b2:Below V2.heap.size V2 w2) (b23:Below w2.heap.size w2 V3) (h3:w3.ownsRow V3.heap.size 86 2 vL k.slots.length (k.slots.flatMap gp)) (b3:Below V3.heap.size V3 w3) (b34:Below w3.heap.size w3 V4)
  (hcb:V4.heap[cb]?=some (.cells #[Nl,Nl,Nl,Nl,I 0] 27 (0,0))) (hlo:WA.heap.size<=cb) (hout:cb<V1.heap.size∨(w1.heap.size<=cb/\cb<V2.heap.size)∨(w2.heap.size<=cb/\cb<V3.heap.size)∨w3.heap.size<=cb) :
  Oi WA.heap.size WA (((((V4.setCell (Ad cb 0) vS).setCell (Ad cb 1) vF).setCell (Ad cb 2) vL).setCell (Ad cb 3) Nl).setCell (Ad cb 4) (I hd)) cb vS vF vL hd k:=by
 have s0:=b0.size;have s1:=b1.size;have s12:=b12.size;have s2:=b2.size;have Fp:=b23.size;have s3:=b3.size;have Ki:=b34.size;have kp:aH (fun b=>b=cb) V4 (((((V4.setCell (Ad cb 0) vS).setCell (Ad cb 1) vF).setCell (Ad cb 2) vL).setCell (Ad cb 3) Nl).setCell (Ad cb 4) (I hd)):=((((aH.set (fun b=>b=cb) V4 (Ad cb 0) _ rfl).trans (aH.set (fun b=>b=cb) _ (Ad cb 1) _ rfl) (fun _ _ g=>g)).trans (aH.set (fun b=>b=cb) _ (Ad cb 2) _ rfl) (fun _ _ g=>g)).trans (aH.set (fun b=>b=cb) _ (Ad cb 3) _ rfl) (fun _ _ g=>g)).trans (aH.set (fun b=>b=cb) _ (Ad cb 4) _ rfl) (fun _ _ g=>g);have B13:Below w1.heap.size w1 V4:=((b12.trans (b2.mono s12)).trans (b23.mono (by omega))).trans ((b3.mono (by omega)).trans (b34.mono (by omega)));have B23:Below w2.heap.size w2 V4:=(b23.trans (b3.mono Fp)).trans (b34.mono (by omega));have e1:∀b,bI vS b->V1.heap.size<=b/\b<w1.heap.size:=fun b hb=>h1.lt b hb
 have e2:∀b,bI vF b->V2.heap.size<=b/\b<w2.heap.size:=fun b hb=>h2.lt b hb
 have e3:∀b,bI vL b->V3.heap.size<=b/\b<w3.heap.size:=fun b hb=>h3.lt b hb
 have row:∀{e:TypeId} {n m lo:Nat} {v:Value} {xs:List Value} {W:World},W.ownsRow lo e n v m xs->Below W.heap.size W V4->WA.heap.size<=lo->(∀b,bI v b->b≠cb)->World.ownsRow _ WA.heap.size e n v m xs:=fun hr hb hl hn=>kp.row (lu ((aH.b7 (D:=fun _=>False) hb).row hr (fun _ _ g=>g)) (fun g hg=>by have:=(hr.lt g hg).1;omega)) (fun b hb2=>hn b hb2)
 refine⟨?_,hlo,row h1 B13 (by omega) (fun b hb=>by grind),row h2 B23 (by omega) (fun b hb=>by grind),row h3 b34 (by omega) (fun b hb=>by grind),fun b hb=>⟨fun x=>by grind,fun x=>by grind,by grind⟩,fun b hb=>⟨fun x=>by grind,by grind⟩,fun b hb=>by grind,?_⟩
 · exact dG (dG (dG (dG (dG hcb 0 vS) 1 vF) 2 vL) 3 Nl) 4 (I hd)
 · exact aH.below (b0.trans ((b1.trans (B13.mono s1)).mono s0)) kp (by omega) (fun b e=>by omega)
theorem XR {WA V1 w1 V2 w2 V3 w3:World} {vS vF vL:Value} {hd:Int} {k:aN} (b0:Below WA.heap.size WA V1) (h1:w1.ownsRow V1.heap.size 50 3 vS k.aA.length (k.aA.flatMap ic)) (b1:Below V1.heap.size V1 w1) (b12:Below w1.heap.size w1 V2)
  (h2:w2.ownsRow V2.heap.size 40 4 vF k.frames.length (k.frames.flatMap gq)) (b2:Below V2.heap.size V2 w2) (b23:Below w2.heap.size w2 V3) (h3:w3.ownsRow V3.heap.size 86 2 vL k.slots.length (k.slots.flatMap gp)) (b3:Below V3.heap.size V3 w3) :
  Oi WA.heap.size WA (w3.alloc (.cells #[vS,vF,vL,Nl,I hd] 27)) w3.heap.size vS vF vL hd k:=by
 have s0:=b0.size;have s1:=b1.size;have s12:=b12.size;have s2:=b2.size;have Fp:=b23.size;have s3:=b3.size;have b34:Below w3.heap.size w3 (w3.alloc (.cells #[vS,vF,vL,Nl,I hd] 27)):=(aK _ _).alloc (aM _) _;have B13:Below w1.heap.size w1 (w3.alloc (.cells #[vS,vF,vL,Nl,I hd] 27)):=((b12.trans (b2.mono s12)).trans (b23.mono (by omega))).trans ((b3.mono (by omega)).trans (b34.mono (by omega)));have B23:Below w2.heap.size w2 (w3.alloc (.cells #[vS,vF,vL,Nl,I hd] 27)):=(b23.trans (b3.mono Fp)).trans (b34.mono (by omega));have e1:∀b,bI vS b->V1.heap.size<=b/\b<w1.heap.size:=fun b hb=>h1.lt b hb
 have e2:∀b,bI vF b->V2.heap.size<=b/\b<w2.heap.size:=fun b hb=>h2.lt b hb
 have e3:∀b,bI vL b->V3.heap.size<=b/\b<w3.heap.size:=fun b hb=>h3.lt b hb
 have row:∀{e:TypeId} {n m lo:Nat} {v:Value} {xs:List Value} {W:World},W.ownsRow lo e n v m xs->Below W.heap.size W (w3.alloc (.cells #[vS,vF,vL,Nl,I hd] 27))->WA.heap.size<=lo->World.ownsRow _ WA.heap.size e n v m xs:=fun hr hb hl=>lu ((aH.b7 (D:=fun _=>False) hb).row hr (fun _ _ g=>g)) (fun g hg=>by have:=(hr.lt g hg).1;omega)
 refine⟨bG w3 _ _,by omega,row h1 B13 (by omega),row h2 B23 (by omega),row h3 b34 (by omega),fun b hb=>⟨fun x=>by grind,fun x=>by grind,by grind⟩,fun b hb=>⟨fun x=>by grind,by grind⟩,fun b hb=>by grind,?_⟩
 grind [Below.trans,Below.mono]
structure vo (lo cb:Nat) (w:World) (lab:Nat->iH) (vS vF vL:Value) (k:aN) (hs:List bM) (n:Nat):Prop where
 qF:∀b,lab b≠.no->lo<=b/\b<w.heap.size
 head:w.heap[cb]?=some (.cells #[vS,vF,vL,Nl,I k.hand] 27 (0,0))
 lH:lab cb=.head
 aA:w.ownsRow lo 50 3 vS hs.length (hs.flatMap ic)
 dn:∀i,i<n->w.ownsRow lo 52 2 (yM (bj hs i)) (bj hs i).dn.length ((bj hs i).dn.flatMap ji)
 frames:w.ownsRow lo 40 4 vF k.frames.length (k.frames.flatMap gq)
 slots:w.ownsRow lo 86 2 vL k.slots.length (k.slots.flatMap gp)
 lS:∀b,bI vS b->lab b=.aA
 lX:∀i,i<n->∀b,bI (yM (bj hs i)) b->lab b=.dn i
 lF:∀b,bI vF b->lab b=.frames
 lL:∀b,bI vL b->lab b=.slots
 same:dw k.aA hs
 rest:∀i,n<=i->bj hs i=bj k.aA i
theorem aap {lo:Nat} {WA w:World} {cb:Nat} {vS vF vL:Value} {k:aN} (h:Oi lo WA w cb vS vF vL k.hand k):∃lab,vo lo cb w lab vS vF vL k k.aA 0:=by
 refine⟨fun b=>if b=cb then .head else if vS.ownBlock=some b then .aA else if vF.ownBlock=some b then .frames else if vL.ownBlock=some b then .slots else .no,⟨fun b hb=>?_,h.head,bf rfl,h.rS,fun i hi=>absurd hi (jQ _),h.rF,h.rL,fun b hb=>?_,fun i hi=>absurd hi (jQ _),fun b hb=>?_,fun b hb=>?_,rfl,fun i hi=>rfl⟩⟩
 · by_cases c0:b=cb
   · rw[c0];exact⟨h.hlo,aO h.head⟩
   · by_cases c1:vS.ownBlock=some b
     · exact h.rS.lt b c1
     · by_cases c2:vF.ownBlock=some b
       · exact h.rF.lt b c2
       · by_cases c3:vL.ownBlock=some b
         · exact h.rL.lt b c3
         grind
 · have hb':vS.ownBlock=some b:=hb;have:=h.d1 b hb
   grind
 · have hb':vF.ownBlock=some b:=hb;have:=h.d2 b hb;rw[bl this.2,bl (show ¬vS.ownBlock=some b from fun x=>(h.d1 b x).1 hb),bf hb']
 · have hb':vL.ownBlock=some b:=hb;have:=h.d3 b hb;rw[bl this,bl (show ¬vS.ownBlock=some b from fun x=>(h.d1 b x).2.1 hb),bl (show ¬vF.ownBlock=some b from fun x=>(h.d2 b x).1 hb),bf hb']
theorem vo.kp {lo cb:Nat} {w w':World} {lab:Nat->iH} {vS vF vL:Value} {k:aN} {hs:List bM} {n:Nat} (h:vo lo cb w lab vS vF vL k hs n) {E:Nat->Prop} (hk:aH E w w') (he:∀b,lab b≠.no->¬E b):vo lo cb w' lab vS vF vL k hs n:=by
 have z:∀{b:Nat} {c:iH},lab b=c->c≠.no->¬E b:=fun e hc=>he _ (by grind)
 exact⟨fun b hb=>⟨(h.qF b hb).1,jt (h.qF b hb).2 hk.size⟩,hk.keep h.head (z h.lH (by simp)),h.lH,hk.row h.aA (fun b hb=>z (h.lS b hb) (by simp)),fun i hi=>hk.row (h.dn i hi) (fun b hb=>z (h.lX i hi b hb) (by simp)),hk.row h.frames (fun b hb=>z (h.lF b hb) (by simp)),hk.row h.slots (fun b hb=>z (h.lL b hb) (by simp)),h.lS,h.lX,h.lF,h.lL,h.same,h.rest⟩
theorem vo.below {lo cb:Nat} {w w':World} {lab:Nat->iH} {vS vF vL:Value} {k:aN} {hs:List bM} {n:Nat} (h:vo lo cb w lab vS vF vL k hs n) (hb:Below w.heap.size w w'):vo lo cb w' lab vS vF vL k hs n:=h.kp (aH.b7 (D:=fun _=>False) hb) (fun _ _ g=>g)
theorem Eg (l:List bM) (i m:Nat) (x:bM) (hi:i<l.length):bj (l.set i x) m=if i=m then x else bj l m:=by
 grind [bj]
theorem Jn:∀(l:List bM) (i:Nat) (x:bM),i<l.length->eQ x=eQ (bj l i)->(l.set i x).map eQ=l.map eQ
 | [],i,x,hi,_=>absurd hi (jQ _)
 | a::r,0,x,hi,e=>by
  show eQ x::_=eQ a::_;rw[e];rfl
 | a::r,i+1,x,hi,e=>by
  show eQ a::(r.set i x).map eQ=eQ a::_;rw[Jn r i x (zP hi) e]
theorem vo.step {lo cb:Nat} {w w1:World} {lab:Nat->iH} {vF vL:Value} {k:aN} {hs:List bM} {n:Nat} {sb m cS:Nat} {ax:Option Addr} {cx:Nat} (h:vo lo cb w lab (.slice (some (Ad sb 0)) m cS) vF vL k hs n) (hn:n<hs.length) (hlo:lo<=w.heap.size) (hb:Below w.heap.size w w1)
  (hr:w1.ownsRow w.heap.size 52 2 (.slice ax (bj hs n).dn.length cx) (bj hs n).dn.length ((bj hs n).dn.flatMap ji)) :
  ∃lab',vo lo cb (w1.setCell (Ad sb (n*3+2)) (.slice ax (bj hs n).dn.length cx)) lab' (.slice (some (Ad sb 0)) m cS) vF vL k (hs.set n ⟨(bj hs n).page,(bj hs n).data,(bj hs n).dn,ax,cx⟩) (n+1)/\∀b,b<w.heap.size->lab' b=lab b:=by
 have h1:=h.below hb;obtain⟨v,hv⟩:∃v:Value,v=.slice ax (bj hs n).dn.length cx:=⟨_,rfl⟩;rw[<- hv] at hr ⊢;have DX:lab sb=.aA:=h.lS sb rfl;have mj:aH (fun b=>b=sb) w1 (w1.setCell (Ad sb (n*3+2)) v):=aH.set _ _ _ _ rfl;have z:∀{b:Nat} {c:iH},lab b=c->c≠.aA->¬b=sb:=fun e hc x=>hc (by grind)
 have ev:∀b,bI v b->w.heap.size<=b/\b<w1.heap.size:=fun b hx=>hr.lt b hx
 have old:∀b,b<w.heap.size->(if v.ownBlock=some b then iH.dn n else lab b)=lab b:=fun b hl=>bl fun x=>by have:=ev b x;omega
 have o2:∀b c,lab b=c->c≠.no->(if v.ownBlock=some b then iH.dn n else lab b)=c:=fun b c e hc=>by
  rw[old b (h.qF b (by grind)).2,e]
 have hm:m=hs.length:=by
  obtain⟨ao,c,e,_⟩:=aY h.aA
  grind
 subst hm;have hsz:(w1.setCell (Ad sb (n*3+2)) v).heap.size=w1.heap.size:=by simp
 refine⟨fun b=>if v.ownBlock=some b then .dn n else lab b,⟨fun b hx=>?_,mj.keep h1.head (z h.lH (by simp)),o2 cb _ h.lH (by simp),?_,fun i hi=>?_,mj.row h1.frames (fun b hx=>z (h.lF b hx) (by simp)),mj.row h1.slots (fun b hx=>z (h.lL b hx) (by simp)),fun b hx=>o2 b _ (h.lS b hx) (by simp),fun i hi b hx=>?_,fun b hx=>o2 b _ (h.lF b hx) (by simp),fun b hx=>o2 b _ (h.lL b hx) (by simp),?_,fun i hi=>?_⟩,old⟩
 · rw[hsz];by_cases c:v.ownBlock=some b
   · have:=ev b c;omega
   · have hx:(if v.ownBlock=some b then iH.dn n else lab b)≠.no:=hx;rw[bl c] at hx;exact h1.qF b hx
 · have hr1:=pD h1.aA (n*3+2) v;rw[<- n9 ic 3 (fun _=>rfl) xy ⟨(bj hs n).page,(bj hs n).data,(bj hs n).dn,ax,cx⟩ 2 v (by omega) hs n hn (by rw[hv];rfl)] at hr1
   grind
 · rw[Eg _ _ _ _ hn];by_cases c:n=i
   · rw[bf c];show World.ownsRow _ lo _ 2 (.slice ax (bj hs n).dn.length cx) _ _
     grind [lu,aH.row,qF]
   · rw[bl c];exact mj.row (h1.dn i (by omega)) (fun b hx=>z (h.lX i (by omega) b hx) (by simp))
 · rw[Eg _ _ _ _ hn] at hx;by_cases c:n=i
   · rw[bf c] at hx;have hx:bI (.slice ax (bj hs n).dn.length cx) b:=hx;rw[<- hv] at hx;show(if v.ownBlock=some b then iH.dn n else lab b)=_;rw[bf (show v.ownBlock=some b from hx),c]
   grind [lX]
 · show List.map eQ _=_;exact(Jn hs n ⟨(bj hs n).page,(bj hs n).data,(bj hs n).dn,ax,cx⟩ hn rfl).trans h.same
 grind [Eg,rest]
theorem vo.done {lo cb:Nat} {w:World} {lab:Nat->iH} {vS vF vL:Value} {k:aN} {hs:List bM} (h:vo lo cb w lab vS vF vL k hs hs.length):bQ lo cb 27 [] w ⟨lab,vS,vF,vL,Nl,[]⟩ (bu ⟨k.aA,k.frames,k.slots,k.aj.take 0,k.hand⟩ hs) :=
 ⟨⟨h.qF,h.aA,h.dn,h.frames,h.slots,km _ _ _ _,rfl,fun i hi=>absurd hi (jQ _),h.lS,h.lX,h.lF,h.lL,(fun b hb=>by cases hb),fun i hi=>absurd hi (jQ _),fun i hi=>absurd hi (jQ _)⟩,h.head,h.lH⟩
def dK (lo mb:Nat) (tt:TypeId) (X:List Value) (w:World) (S:dN) (v:Value) (k':aN) (e:Ending) (w':World):Prop:=e=.returned v/\∃S',bQ lo mb tt X w' S' k'/\dI S w S' w'
def kW (lo mb:Nat) (tt:TypeId) (X:List Value) (w:World) (S:dN) (v:Value) (k':aN) (e:Ending) (w':World):Prop:=e=.returned v/\bQ lo mb tt X w' S k'/\dI S w S w'
theorem CO {lo mb:Nat} {tt:TypeId} {X:List Value} (k:aN) (S:dN) (w:World) (e:bC) (d:Int) (h:bQ lo mb tt X w S k) (h1:e.kind=1->0<=e.loc/\e.loc<(k.frames.length:Int)) (h2:e.kind≠1->0<=e.loc/\e.loc<(k.slots.length:Int)) (hd:d=1∨d=-1)
  (hr:(e.kind=1->-1000000<=(au k.frames e.loc.toNat).refs/\(au k.frames e.loc.toNat).refs<=1000000)/\(e.kind≠1->-1000000<=(bw k.slots e.loc.toNat).refs/\(bw k.slots e.loc.toNat).refs<=1000000)) :
  Calls Tryz.prog 85 #[.pointer (some (Ad mb 0)),lZ e,I d] w (kW lo mb tt X w S (.tuple #[]) (ku k e d)):=by
 obtain⟨pg,kd,lc⟩:=e;unfold lZ;simp only at h1 h2 hr ⊢;have eO:=ai ((aK w.heap.size w).alloc (aM _) (.cells #[I pg,I kd,I lc] 45));have EB:=ai (bG w #[I pg,I kd,I lc] 45);have HM:=ai (h.below eO.o);have HC0:Hid (dI S w S (w.alloc (.cells #[I pg,I kd,I lc] 45))):=dI.below eO.o;by_cases c:kd=1
 · obtain⟨i,rfl⟩:∃i:Nat,lc=(i:Int):=⟨lc.toNat,by omega⟩;have hi:i<k.frames.length:=by omega
   obtain⟨fb,cF,A⟩:=HM.o.toiZ.fr (by omega);have zy:=hr.1 c;rw[iu] at zy;have x1:=A.x1 i hi;have x0:=A.x0 i hi;have x2:=A.x2 i hi;have x3:=A.x3 i hi;have f0:=A.fz (i*4);have f1:=A.fz (i*4+1);have f2:=A.fz (i*4+2);have f3:=A.fz (i*4+3);have c1:=HM.o.c1;rw[A.v] at c1;have e0:(w.alloc (.cells #[I pg,I kd,I (i:Int)] 45)).cell? (Ad w.heap.size 1)=some (I kd):=aB EB.o 1 rfl;have e2:(w.alloc (.cells #[I pg,I kd,I (i:Int)] 45)).cell? (Ad w.heap.size 2)=some (I (i:Int)):=aB EB.o 2 rfl;have MU:(i:Int)<(k.frames.length:Int):=by omega
   have cZ:Hid (∀V,(∃f,V=((w.alloc (.cells #[I pg,I kd,I (i:Int)] 45)).setCell (Ad fb (i*4+1)) (I ((au k.frames i).refs+d))).drew/\f=au k.frames i/\¬f.refs+d=0)∨(∃f,f=au k.frames i/\f.refs+d=0/\V=((((((w.alloc (.cells #[I pg,I kd,I (i:Int)] 45)).setCell (Ad fb (i*4+1)) (I ((au k.frames i).refs+d))).setCell (Ad fb (i*4)) (.string ⟨#[]⟩)).setCell (Ad fb (i*4+1)) (I 0)).setCell (Ad fb (i*4+2)) (.bool false)).setCell (Ad fb (i*4+3)) (.bool false)).drew)->kW lo mb tt X w S (.tuple #[]) (ku k ⟨pg,kd,(i:Int)⟩ d) (.returned (.tuple #[])) V):=fun V hV=>by
    have hk:ku k ⟨pg,kd,(i:Int)⟩ d={ k with frames:=k.frames.set i (FQ (au k.frames i) d) }:=by
     grind [ku]
    rw[hk];have HD:=HM.o;have CD:=HC0.o;have Kt:∀V:World,Below V.heap.size V V.drew:=fun V=>(aK _ _).drew
    have m1:=HD.Ch A.v hi (j:=1) (by omega) (f:=⟨(au k.frames i).data,(au k.frames i).refs+d,(au k.frames i).fN,(au k.frames i).seen⟩) (u:=I ((au k.frames i).refs+d)) rfl;have ch1:=CD.trans (tV HD.toiZ A.v (i:=i*4+1) (u:=I ((au k.frames i).refs+d)));rcases hV with⟨f,rfl,rfl,hz⟩ | ⟨f,rfl,hz,rfl⟩
    · unfold FQ;rw[bl hz];exact⟨rfl,m1.below (Kt _),ch1.trans (dI.below (Kt _))⟩
    · unfold FQ;rw[bf hz];have m2:=m1.WW A.v (i:=i) (by grind) gD;simp only[rh] at m2;exact⟨rfl,m2.1.below (Kt _),(ch1.trans m2.2).trans (dI.below (Kt _))⟩
   obtain⟨P,hP⟩:=ex (kW lo mb tt X w S (.tuple #[]) (ku k ⟨pg,kd,(i:Int)⟩ d));rw[<- hP] at cZ ⊢;obtain⟨F,hF⟩:=ex (au k.frames i);rw[<- hF] at x0 x1 x2 x3 zy cZ;obtain⟨n,hn⟩:=ex k.frames.length;rw[<- hn] at c1 MU;have kb:(kd==1)=true:=by grind
   have hw:IntKind.i64.wrap (F.refs+d)=F.refs+d:=mP _ (by omega);clear h1 h2 hr h hP hF hn HM HC0 A EB eO c hd zy hi;by_cases z:F.refs+d=0
   · have zb:(F.refs+d==0)=true:=by grind
     have HZ:=ai z;clear z;go_enter Tryz.func85,Tryz.ntmps85;go_upto_region 2 with fail;go_region;go_wp2;refine bR (v:=.tuple #[]) (by simp[results]) rfl ?_
     grind [Hid.o]
   · have zb:(F.refs+d==0)=false:=by grind
     have HZ:=ai z;clear z;go_enter Tryz.func85,Tryz.ntmps85;go_upto_region 2 with fail;go_region;go_wp2;refine bR (v:=.tuple #[]) (by simp[results]) rfl ?_
     grind [Hid.o]
 · obtain⟨i,rfl⟩:∃i:Nat,lc=(i:Int):=⟨lc.toNat,by omega⟩;have hi:i<k.slots.length:=by omega
   obtain⟨fb,cF,A⟩:=HM.o.toiZ.sl (by omega);have zy:=hr.2 c;rw[iu] at zy;have x1:=A.x1 i hi;have x0:=A.x0 i hi;have f0:=A.fz (i*2);have f1:=A.fz (i*2+1);have c1:=HM.o.c2;rw[A.v] at c1;have e0:(w.alloc (.cells #[I pg,I kd,I (i:Int)] 45)).cell? (Ad w.heap.size 1)=some (I kd):=aB EB.o 1 rfl;have e2:(w.alloc (.cells #[I pg,I kd,I (i:Int)] 45)).cell? (Ad w.heap.size 2)=some (I (i:Int)):=aB EB.o 2 rfl;have MU:(i:Int)<(k.slots.length:Int):=by omega
   have cZ:Hid (∀V,(∃f,V=((w.alloc (.cells #[I pg,I kd,I (i:Int)] 45)).setCell (Ad fb (i*2+1)) (I ((bw k.slots i).refs+d))).drew/\f=bw k.slots i/\¬f.refs+d=0)∨(∃f,f=bw k.slots i/\f.refs+d=0/\V=((((w.alloc (.cells #[I pg,I kd,I (i:Int)] 45)).setCell (Ad fb (i*2+1)) (I ((bw k.slots i).refs+d))).setCell (Ad fb (i*2)) (.string ⟨#[]⟩)).setCell (Ad fb (i*2+1)) (I 0)).drew)->kW lo mb tt X w S (.tuple #[]) (ku k ⟨pg,kd,(i:Int)⟩ d) (.returned (.tuple #[])) V):=fun V hV=>by
    have hk:ku k ⟨pg,kd,(i:Int)⟩ d={ k with slots:=k.slots.set i (FP (bw k.slots i) d) }:=by
     grind [ku]
    rw[hk];have HD:=HM.o;have CD:=HC0.o;have Kt:∀V:World,Below V.heap.size V V.drew:=fun V=>(aK _ _).drew
    have m1:=HD.acD A.v hi (j:=1) (by omega) (f:=⟨(bw k.slots i).data,(bw k.slots i).refs+d⟩) (u:=I ((bw k.slots i).refs+d)) rfl;have ch1:=CD.trans (Vj HD.toiZ A.v (i:=i*2+1) (u:=I ((bw k.slots i).refs+d)));rcases hV with⟨f,rfl,rfl,hz⟩ | ⟨f,rfl,hz,rfl⟩
    · unfold FP;rw[bl hz];exact⟨rfl,m1.below (Kt _),ch1.trans (dI.below (Kt _))⟩
    · unfold FP;rw[bf hz];have m2:=m1.agq A.v (i:=i) (by grind) nU;simp only[rh] at m2;exact⟨rfl,m2.1.below (Kt _),(ch1.trans m2.2).trans (dI.below (Kt _))⟩
   obtain⟨P,hP⟩:=ex (kW lo mb tt X w S (.tuple #[]) (ku k ⟨pg,kd,(i:Int)⟩ d));rw[<- hP] at cZ ⊢;obtain⟨F,hF⟩:=ex (bw k.slots i);rw[<- hF] at x0 x1 zy cZ;obtain⟨n,hn⟩:=ex k.slots.length;rw[<- hn] at c1 MU;have kb:(kd==1)=false:=by grind
   have hw:IntKind.i64.wrap (F.refs+d)=F.refs+d:=mP _ (by omega);clear h1 h2 hr h hP hF hn HM HC0 A EB eO c hd zy hi;by_cases z:F.refs+d=0
   · have zb:(F.refs+d==0)=true:=by grind
     have HZ:=ai z;clear z;go_enter Tryz.func85,Tryz.ntmps85;go_upto_region 6 with fail;go_region;go_wp2;refine q9 (v:=.tuple #[]) (by simp[results]) rfl ?_
     grind [Hid.o]
   · have zb:(F.refs+d==0)=false:=by grind
     have HZ:=ai z;clear z;go_enter Tryz.func85,Tryz.ntmps85;go_upto_region 6 with fail;go_region;go_wp2;refine q9 (v:=.tuple #[]) (by simp[results]) rfl ?_
     grind [Hid.o]
def lW (held:List Int) (k:aN) (i:Nat):aN:=if held.contains (i:Int) then k else { k with frames:=k.frames.set i (vI (au k.frames i)) }
theorem Rh {lo mb:Nat} {tt:TypeId} {X:List Value} (k:aN) (S:dN) (w:World) (i:Nat) (held:List Int) (ah:Option Addr) (ch:Nat) (h:bQ lo mb tt X w S k) (hi:i<k.frames.length) (hh:dz eZ 1 0 w ah held) (hl:held.length<=1000000) :
  Calls Tryz.prog 188 #[.pointer (some (Ad mb 0)),I (i:Int),.slice ah held.length ch] w (kW lo mb tt X w S (.bool (held.contains (i:Int) || (au k.frames i).seen)) (lW held k i)):=by
 obtain⟨fb,cF,A⟩:=h.toiZ.fr (by omega);have HCO:=ai (vD held (i:Int) ah ch w hh hl);have x3:=A.x3 i hi;have f3:=A.fz (i*4+3);have c1:=h.c1;rw[A.v] at c1;have MU:(i:Int)<(k.frames.length:Int):=by omega
 rw[<- List.contains_eq_mem] at HCO;cases hc:held.contains (i:Int) with
 | true =>
  have cZ:Hid (kW lo mb tt X w S (.bool (true || (au k.frames i).seen)) (lW held k i) (.returned (.bool true)) w):=⟨by simp,by grind [lW],dI.refl _ _⟩;rw[hc] at HCO;obtain⟨P,hP⟩:=ex (kW lo mb tt X w S (.bool (true || (au k.frames i).seen)) (lW held k i));rw[<- hP] at cZ ⊢;clear hP hc hh h A hi hl x3 f3 c1 MU;go_enter Tryz.func188,Tryz.ntmps188;go_wp2_with (go_at_call 95;refine HCO.o.mono ?_;rintro e w1 ⟨rfl,rfl⟩)
  exact cZ.o
 | false =>
  have cZ:Hid (kW lo mb tt X w S (.bool (false || (au k.frames i).seen)) (lW held k i) (.returned (.bool (au k.frames i).seen)) (w.setCell (Ad fb (i*4+3)) (.bool false))):=⟨by simp,by
   unfold lW;rw[bl (by grind)];exact h.Ch A.v hi (j:=3) (by omega) rfl,tV h.toiZ A.v⟩
  rw[hc] at HCO;obtain⟨P,hP⟩:=ex (kW lo mb tt X w S (.bool (false || (au k.frames i).seen)) (lW held k i));rw[<- hP] at cZ ⊢;obtain⟨F,hF⟩:=ex (au k.frames i);rw[<- hF] at x3 cZ;obtain⟨n,hn⟩:=ex k.frames.length;rw[<- hn] at c1 MU;clear hP hc hh h A hi hl hF hn;go_enter Tryz.func188,Tryz.ntmps188;go_wp2_with (go_at_call 95;refine HCO.o.mono ?_;rintro e w1 ⟨rfl,rfl⟩)
  exact cZ.o
theorem Dw {lo mb:Nat} {tt:TypeId} {X:List Value} (k:aN) (S:dN) (w:World) (h:bQ lo mb tt X w S k) (hh:0<=k.hand/\k.hand<k.frames.length) (hn:k.frames.length<=1000000) :
  Calls Tryz.prog 189 #[.pointer (some (Ad mb 0))] w (kW lo mb tt X w S (.tuple #[]) { k with hand:=gM k }):=by
 obtain⟨fb,cF,A⟩:=h.toiZ.fr (by omega);have cZ:Hid (∀x,x=gM k->kW lo mb tt X w S (.tuple #[]) { k with hand:=gM k } (.returned (.tuple #[])) (w.setCell (Ad mb 4) (I x)).drew):=fun x hx=>by
  rw[hx];have:=h.abO (gM k);exact⟨rfl,this.1.below (aK _ _).drew,this.2.trans (dI.below (aK _ _).drew)⟩
 have hm:(k.hand+1).tmod (k.frames.length:Int)=gM k:=by
  grind [gM]
 have c1:=h.c1;rw[A.v] at c1;have c4:=h.c4;have f4:=h.free 4;obtain⟨P,hP⟩:=ex (kW lo mb tt X w S (.tuple #[]) { k with hand:=gM k });rw[<- hP] at cZ ⊢;obtain⟨NX,hNX⟩:=ex (gM k);rw[<- hNX] at cZ hm;obtain⟨hd,ZR⟩:=ex k.hand;rw[<- ZR] at c4 hh hm;obtain⟨n,hne⟩:=ex k.frames.length;rw[<- hne] at c1 hh hm hn;have hw:IntKind.i64.wrap (hd+1)=hd+1:=mP _ (by omega);have hn0:¬(n:Int)=0:=by omega
 have hNb:-9223372036854775808<=NX/\NX<=9223372036854775807:=by
  have h1:0<=(hd+1).tmod (n:Int):=Int.tmod_nonneg _ (by omega);have h2:(hd+1).tmod (n:Int)<(n:Int):=Int.tmod_lt_of_pos _ (by omega);omega
 clear hP hNX ZR hne h A;go_enter Tryz.func189,Tryz.ntmps189;go_region
 all_goals go_wp2
 all_goals refine q9 (v:=.tuple #[]) (by simp[results]) rfl ?_
 grind [Hid.o]
theorem kT (l:bC):(bk l).length=3:=rfl
theorem E1 (w:World):(sizeOf 45).run Tryz.prog w=.ok 3 w:=by rfl
theorem aeY (w:World):(zeroValue 45).run Tryz.prog w=.ok (.agg #[I 0,I 0,I 0]) w:=by rfl
def od (lo:Nat) (vp:Value) (l:List bC) (w:World) (e:Ending) (w':World):Prop:=∃v',e=.returned v'/\w'.ownsRow lo 45 3 v' l.length (l.flatMap bk)/\aH (bI vp) w w'/\(∀b,bI v' b->bI vp b∨w.heap.size<=b)
theorem xo {α:Type} {w:World} {lo:Nat} {e:TypeId} {k n:Nat} {ao:Option Addr} {cap:Nat} {xs:List Value} (h:w.ownsRow lo e k (.slice ao n cap) n xs):lJ w ao n xs:=fun hm=>by
 rcases h.2 with⟨h0,h1⟩ | ⟨g,cap',cur,hv,_,hg,_,_,_,ht⟩
 · omega
 grind [Addr.add_lit,cell_of_row]
theorem Sb (lo:Nat) (ps zs:List bC) (ao az:Option Addr) (cap cz wz:Nat) (w:World) (h:w.ownsRow lo 45 3 (.slice ao ps.length cap) ps.length (ps.flatMap bk)) (hz:w.ownsRow wz 45 3 (.slice az zs.length cz) zs.length (zs.flatMap bk)) (hlo:lo<=w.heap.size) (hm:1<=zs.length) (hn:ps.length<=100000) (zR:zs.length<=100000) :
  Calls Tryz.prog 192 #[.slice ao ps.length cap,I (ps.length:Int),.slice az zs.length cz] w (od lo (.slice ao ps.length cap) (ps++zs) w):=by
 have HH:=ai h;have HF:=ai (xo (α:=Unit) hz);have HL:=ai (fF bk 3 kT zs);have H1:=ai (se zs);obtain⟨_,_,e0,zw,_⟩:=aY h;injection e0 with e1 e2 e3;subst e3;obtain⟨n,hne⟩:=ex ps.length;obtain⟨m,hme⟩:=ex zs.length;have cZ:Hid (∀v' (w':World),w'.ownsRow lo 45 3 v' (n+m) (ps.flatMap bk++zs.flatMap bk)->aH (bI (.slice ao n cap)) w w'->(∀b,bI v' b->bI (.slice ao n cap) b∨w.heap.size<=b)->od lo (.slice ao n cap) (ps++zs) w (.returned v') w'):=fun v' w' h1 h2 h3=>⟨v',rfl,by grind,h2,h3⟩
 rw[<- hne] at HH hn zw ⊢;rw[<- hme] at HF HL hm zR ⊢;obtain⟨P,hP⟩:=ex (od lo (.slice ao n cap) (ps++zs) w);rw[<- hP] at cZ ⊢;obtain⟨XS,ZB⟩:=ex (ps.flatMap bk);obtain⟨ZS,hZS⟩:=ex (zs.flatMap bk);rw[<- ZB] at HH cZ;rw[<- hZS] at HF HL H1 cZ;obtain⟨i0,hin,hz0,hz1,hz2⟩:=iq uk;have tP:=ai hin;have Dg:=ai hz0;have Df:=ai hz1;have BI:=ai hz2;have hm0:((m:Int)==0)=false:=by grind
 clear h hz hne hme hP ZB hZS hin hz0 hz1 hz2 e1 e2;go_enter Tryz.func192,Tryz.ntmps192;go_wp2_with (at_builtin;refine dU (P:=Tryz.prog) rfl _ _ 41 rfl lo 45 i0 (.agg #[I 0,I 0,I 0]) 3 24 Tryz.underlying41 tP.o Dg.o Df.o BI.o rfl (by decide) (.slice ao n cap) n XS rfl HH.o az m cz ZS rfl HL.o HF.o H1.o (by unfold maxLen;omega) (by omega) hlo ?_;intro v' w' hown hgr hat;have za:=ai hown;have HG2:=ai hgr;have yo:=ai hat;clear hown hgr hat)
 all_goals
  refine cZ.o _ _ za.o (aH.grown HG2.o (fun _ e=>e)) (fun b hb=>?_);unfold bI at hb ⊢;rcases yo.o with e | e
  · grind
  grind
theorem A6 {α:Type} (a b:List α) (n:Nat) (h:a.length=n):(a++b).take n=a:=by grind
theorem VM {α:Type} (R Y X:List α) (a b:Nat) (hb:b=a+Y.length) (h:b+X.length<=R.length):(splice (splice R a Y) b X).take (b+X.length)=R.take a++(Y++X):=by
 subst hb;have h1:(splice R a Y).take (a+Y.length)=R.take a++Y:=by
  unfold splice;rw[<- wa];exact A6 _ _ _ (by grind)
 unfold splice at h1 ⊢;rw[h1,<- wa,wa (R.take a) Y X];exact A6 _ _ _ (by rw[gh,zL,gh];omega)
theorem Qb {α:Type} (R Y X:List α) (a b:Nat) (hb:b=a+Y.length) (h:b+X.length<=R.length):(splice (splice R b X) a Y).take (b+X.length)=R.take a++(Y++X):=by
 subst hb;have h1:(splice R (a+Y.length) X).take a=R.take a:=by
  grind [splice]
 have h2:(splice R (a+Y.length) X).drop (a+Y.length)=X++R.drop (a+Y.length+X.length):=by
  grind [splice]
 have h3:splice (splice R (a+Y.length) X) a Y=R.take a++(Y++(X++R.drop (a+Y.length+X.length))):=by
  rw[<- h2,<- h1];rfl
 rw[h3,<- wa,<- wa,wa (R.take a) Y X];exact A6 _ _ _ (by grind)
theorem JV (ps:List bC) (i:Nat):(ps.flatMap bk).drop (i*3)=(ps.drop i).flatMap bk:=by
 induction ps generalizing i with
 | nil=>simp
 | cons a r ih =>
  cases i with
  | zero=>simp
  | succ i =>
   rw[pJ,List.drop_succ_cons,<- ih i,show(i+1)*3=i*3+3 by omega];rfl
theorem Db (ps:List bC) (i:Nat):(ps.flatMap bk).take (i*3)=(ps.take i).flatMap bk:=by
 induction ps generalizing i with
 | nil=>simp
 | cons a r ih =>
  cases i with
  | zero=>simp
  | succ i =>
   rw[pJ,List.take_succ_cons,pJ,<- ih i,show(i+1)*3=i*3+3 by omega];rfl
theorem Dc (w:World) (g:Nat) (cs:Array Value):aH (fun b=>b=g) w (w.setRow g cs):=⟨rfl,rfl,rfl,by simp_all,fun b _ hn=>setRow_other w g b cs hn⟩
theorem Np (lo:Nat) (ps zs:List bC) (pb zb cap cz wz i:Nat) (w:World) (h:w.ownsRow lo 45 3 (.slice (some (Ad pb 0)) ps.length cap) ps.length (ps.flatMap bk)) (hz:w.ownsRow wz 45 3 (.slice (some (Ad zb 0)) zs.length cz) zs.length (zs.flatMap bk)) (hne:zb≠pb) (hi:i<ps.length) (hm:1<=zs.length) (hn:ps.length<=100000) (zR:zs.length<=100000) (hroom:ps.length+zs.length<=cap) :
  Calls Tryz.prog 192 #[.slice (some (Ad pb 0)) ps.length cap,I (i:Int),.slice (some (Ad zb 0)) zs.length cz] w (od lo (.slice (some (Ad pb 0)) ps.length cap) (ps.take i++(zs++ps.drop i)) w):=by
 have HFZ:=ai (xo (α:=Unit) hz);have xJ:=ai (xo (α:=Unit) h);have H1:=ai (se zs);have H1P:=ai (se ps);obtain⟨cur,hcz,hgc,hcs,hct,hlo,hcm⟩:∃cur:Array Value,cur.size=cap*3/\w.heap[pb]?=some (.cells cur 45 (0,0))/\cap<=maxLen/\cur.toList.take (ps.length*3)=ps.flatMap bk/\lo<=pb/\ps.length<=cap:=by
  rcases h.2 with⟨h0,_⟩ | ⟨g,cap',cur,hv,hb,hg,h1,h2,h3,h4⟩
  · cases h0
  grind
 obtain⟨adZ,hzg,ao1⟩:∃adZ:Array Value,w.heap[zb]?=some (.cells adZ 45 (0,0))/\0<adZ.size:=by
  rcases hz.2 with⟨h0,_⟩ | ⟨g,cap',zc,hv,hb,hg,h1,h2,h3,h4⟩
  · cases h0
  grind
 have hlx:=fF bk 3 kT ps;have hlz:=fF bk 3 kT zs;obtain⟨R,hR⟩:=ex cur.toList;have hRl:R.length=cap*3:=by grind
 have hRg:w.heap[pb]?=some (.cells R.toArray 45 (0,0)):=by rw[hR];omega
 rw[<- hR] at hct;obtain⟨n,Xd⟩:=ex ps.length;obtain⟨m,hme⟩:=ex zs.length;obtain⟨XS,ZB⟩:=ex (ps.flatMap bk);obtain⟨ZS,hZS⟩:=ex (zs.flatMap bk);rw[<- hZS] at HFZ H1 hlz;rw[<- ZB] at xJ hlx hct H1P;rw[<- hme] at HFZ hlz hm zR hroom ⊢;rw[<- Xd] at xJ hlx hct hi hn hroom hcm ⊢;obtain⟨DS,hDS⟩:=ex (XS.drop (i*3));have hDl:DS.length=(n-i)*3:=by grind
 obtain⟨R1,DR⟩:=ex (splice R ((i+m)*3) DS);have ajd:R1.length=cap*3:=by rw[DR,length_splice _ _ _ (by omega)];exact hRl
 obtain⟨R2,OC⟩:=ex (splice R1 (i*3) ZS);have aey:R2.length=cap*3:=by rw[OC,length_splice _ _ _ (by omega)];omega
 have aex:R2.take ((n+m)*3)=XS.take (i*3)++(ZS++DS):=by
  have:=Qb R ZS DS (i*3) ((i+m)*3) (by omega) (by omega)
  grind
 have aep:∀ty dc sc,(Builtin.copy_ #[41,41] ty #[.slice (some (Ad pb ((i+m)*3))) (n+m-(i+m)) dc,.slice (some (Ad pb (i*3))) (n+m-i) sc]).run Tryz.prog w.drew=.ok (goInt (n-i)) (w.drew.setRow pb R1.toArray):=fun ty dc sc=>by
  have:=sH (P:=Tryz.prog) w.drew 41 41 ty 45 3 Tryz.underlying41 E1 pb ((i+m)*3) (n+m-(i+m)) dc (some (Ad pb (i*3))) (n+m-i) sc R 45 hRg DS (by grind) (fun _=>⟨_,rfl,fun j u hu=>by
   obtain⟨ad,e,hc⟩:=xJ.o (by omega);injection e with e;subst e;have:=hc (i*3+j) u (by rw[hDS,List.getElem?_drop] at hu;exact hu);rw[ux] at this ⊢;rw[iI] at this;exact this⟩) (by omega) (fun u hu=>H1P.o u (by rw[hDS] at hu;exact List.mem_of_mem_drop hu))
  rw[this,<- DR];congr 2;simp only[Ci];split <;> omega
 have hg1:(w.drew.setRow pb R1.toArray).heap[pb]?=some (.cells R1.toArray 45 (0,0)):=ng w.drew pb _ _ _ _ hRg;obtain⟨W1,hW1⟩:=ex (w.drew.setRow pb R1.toArray);rw[<- hW1] at aep hg1;have kp1:aH (fun b=>b=pb) w W1:=by rw[hW1];exact(aH.drew _ w).trans (Dc w.drew pb R1.toArray) (fun _ _ g=>g)
 have ai1:∀ty dc,(Builtin.copy_ #[41,41] ty #[.slice (some (Ad pb (i*3))) (n+m-i) dc,.slice (some (Ad zb 0)) m cz]).run Tryz.prog W1=.ok (goInt m) (W1.setRow pb R2.toArray):=fun ty dc=>by
  have:=sH (P:=Tryz.prog) W1 41 41 ty 45 3 Tryz.underlying41 E1 pb (i*3) (n+m-i) dc (some (Ad zb 0)) m cz R1 45 hg1 ZS (by rw[hlz];simp only[Ci];split <;> omega) (fun _=>⟨_,rfl,fun j u hu=>by
   obtain⟨ad,e,hc⟩:=HFZ.o (by omega);injection e with e;subst e;have:=hc j u hu;exact kp1.cell this (by rw[ux];exact hne)⟩) (by omega) H1.o
  rw[this,<- OC];congr 2;simp only[Ci];split <;> omega
 have hg2:(W1.setRow pb R2.toArray).heap[pb]?=some (.cells R2.toArray 45 (0,0)):=ng W1 pb _ _ _ _ hg1;have cZ:Hid (od lo (.slice (some (Ad pb 0)) n cap) (ps.take i++(zs++ps.drop i)) w (.returned (.slice (some (Ad pb 0)) (n+m) cap)) (W1.setRow pb R2.toArray)):=by
  have hl:(ps.take i++(zs++ps.drop i)).length=n+m:=by rw[gh,gh,zL,TX,<- Xd,<- hme];omega
  refine⟨_,rfl,?_,(kp1.trans (Dc W1 pb _) (fun _ _ g=>g)).mono (fun b _ e=>by rw[e];rfl),fun b hb=>.inl hb⟩;rw[hl];have hx:(ps.take i++(zs++ps.drop i)).flatMap bk=R2.take ((n+m)*3):=by
   rw[aex,ZB,hZS,hDS,ZB,Db,JV,tG,tG]
  rw[hx];exact⟨by rw[zL,aey];omega,.inr ⟨pb,cap,R2.toArray,rfl,hlo,hg2,hroom,hcs,by omega,by simp⟩⟩
 obtain⟨P,hP⟩:=ex (od lo (.slice (some (Ad pb 0)) n cap) (ps.take i++(zs++ps.drop i)) w);rw[<- hP] at cZ ⊢;have hov:∀lb cb,(callFunc 205 #[.slice (some (Ad zb 0)) m cz,.slice (some (Ad pb ((i+m)*3))) lb cb]).run Tryz.prog w=.ok (.value (.bool false)) w:=fun lb cb=>by
  rw[run_callFunc_extern Tryz.func205 (by kernel_rfl) (by kernel_rfl) (by kernel_rfl) (e:=Extern.SlicesOverlaps.overlaps #[41,41] #[4]) (by kernel_rfl),
   Lib.run_overlaps_apart w 41 4 45 Tryz.underlying41 3 E1 (Ad zb 0) (Ad pb ((i+m)*3)) m cz lb cb hne 45 45 adZ.size cur.size (by simp[World.shape?,hzg]) (by simp[World.shape?,hgc]) (by omega) (aJ hzg 0) (aJ hzg adZ.size)]
  rfl
 have hm0:((m:Int)==0)=false:=by rw[Cn];omega
 have hi0:((i:Int)==(n:Int))=false:=by rw[Cn];omega
 have hw1:IntKind.i64.wrap ((i:Int)+(m:Int))=(i:Int)+(m:Int):=mP _ (by omega);have hb1:(0:Int)<=(i:Int)+(m:Int):=by omega
 have hin:i<=n:=by omega
 have htn:((i:Int)+(m:Int)).toNat=i+m:=by omega
 have hb2:¬(cap=i+m):=by omega
 have hb3:(i:Int)<=(n:Int)+(m:Int):=by omega
 have hb4:¬(cap=i):=by omega
 have hr2:¬((cap:Int)<(n:Int)+(m:Int)):=by omega
 have apP:cap<=9223372036854775807:=by unfold maxLen at hcs;omega
 clear h hz Xd hme ZB hZS hDS hDl DR OC hW1 hR hRl hRg ajd aey aex hlx hlz hct hgc hcz hzg ao1 hP hg1 hg2 kp1 HFZ xJ H1 H1P hcs;go_enter Tryz.func192,Tryz.ntmps192;go_wp2_with (simp only[hov])
 go_region_law (refine QO rfl _ _ 41 41 rfl _ _ (by simp[Act.eval,Act.put]) (by simp[Act.eval,Act.put]) (aep _ _ _) ?_)
 go_wp2_with (at_builtin;refine MR _ rfl _ _ 41 41 rfl _ _ rfl rfl (ai1 _ _) ?_)
 exact cZ.o
end Go.Proofs.YtpgifpeohlllfaaGreat
end Go.Proofs.YtpgifpeohlllfaaGreat
