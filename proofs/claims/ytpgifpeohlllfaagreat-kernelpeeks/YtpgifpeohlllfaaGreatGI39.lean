import Derived.Test.YtpgifpeohlllfaaGreatGI32
import Derived.Test.YtpgifpeohlllfaaGreatGI28
import Derived.Deep.DeepCutAuto
set_option maxHeartbeats 20000000
set_option linter.unusedVariables false
set_option maxRecDepth 100000
set_option linter.unusedSimpArgs false
namespace Go.Proofs.YtpgifpeohlllfaaGreat
namespace KY
open Go.RowKit GK KO
open FW (hideC add_below)
open KW (cellFr cellSl cellEn HasRow KAt HasK cellsK aggEn cellI)
open KS (Lc cellLc lc0 lcAt blk SpOwn)
theorem fr_one : ∀ (l : List KM.Fr),∀ u ∈ l.flatMap cellFr,u.oneCell' = true:=fun l u hu=>by
 obtain ⟨y,_,hy⟩:=List.mem_flatMap.1 hu
 simp [cellFr] at hy
 rcases hy with rfl | rfl | rfl | rfl <;> rfl
theorem sl_one : ∀ (l : List KM.Sl),∀ u ∈ l.flatMap cellSl,u.oneCell' = true:=fun l u hu=>by
 obtain ⟨y,_,hy⟩:=List.mem_flatMap.1 hu
 simp [cellSl] at hy
 rcases hy with rfl | rfl <;> rfl
theorem sh_one : ∀ (l : List LM.Sh),∀ u ∈ l.flatMap cellSh,u.oneCell' = true:=fun l u hu=>by
 obtain ⟨y,_,hy⟩:=List.mem_flatMap.1 hu
 simp [cellSh] at hy
 rcases hy with rfl | rfl | rfl <;> rfl
theorem fx_one : ∀ (l : List LM.Fx),∀ u ∈ l.flatMap cellFx,u.oneCell' = true:=fun l u hu=>by
 obtain ⟨y,_,hy⟩:=List.mem_flatMap.1 hu
 simp [cellFx] at hy
 rcases hy with rfl | rfl <;> rfl
theorem row_from {α : Type} {f : α -> List Value} {n : Nat} (hf : ∀ x,(f x).length = n) {d : α} {w : World} {ao : Option Addr} {l : List α} (h : HasRow f n d w ao l) : From w ao l.length (l.flatMap f):=fun hm=>by
 obtain ⟨b,off,rfl,hb,hl⟩:=h hm
 exact KS.from_rows (w:=w) f n hf d l b off (fun i hi j hj=>hl i hi j hj) hm
theorem sh_row {w : World} {ao : Option Addr} {l : List LM.Sh} (h : LM.HasH w ao l) : HasRow cellSh 3 LM.sh0 w ao l:=fun hl=>by
 obtain ⟨b,off,e,hb,hi⟩:=h hl
 refine ⟨b,off,e,hb,fun i hlt j hj=>?_⟩
 obtain ⟨c0,c1,c2,_⟩:=hi i hlt
 match j,hj with
 | 0,_=>exact c0
 | 1,_=>exact c1
 | 2,_=>exact c2
theorem fx_row {w : World} {ao : Option Addr} {l : List LM.Fx} (h : LM.HasF w ao l) : HasRow cellFx 2 LM.fx0 w ao l:=fun hl=>by
 obtain ⟨b,off,e,hb,hi⟩:=h hl
 refine ⟨b,off,e,hb,fun i hlt j hj=>?_⟩
 obtain ⟨c0,c1⟩:=hi i hlt
 match j,hj with
 | 0,_=>exact c0
 | 1,_=>exact c1
structure Four (lo : Nat) (WA wx : World) (cb : Nat) (vS vF vL : Value) (hd : Int) (k : KM.Kn) : Prop where
 head : wx.heap[cb]? = some (.cells #[vS,vF,vL,.slice none 0 0,.int .i64 hd] 27 (0,0))
 hlo : lo <= cb
 rS : wx.ownsRow lo 50 3 vS k.sheets.length (k.sheets.flatMap cellSh)
 rF : wx.ownsRow lo 40 4 vF k.frames.length (k.frames.flatMap cellFr)
 rL : wx.ownsRow lo 86 2 vL k.slots.length (k.slots.flatMap cellSl)
 d1 : ∀ b,blk vS b -> ¬ blk vF b /\ ¬ blk vL b /\ b ≠ cb
 d2 : ∀ b,blk vF b -> ¬ blk vL b /\ b ≠ cb
 d3 : ∀ b,blk vL b -> b ≠ cb
 below : Below WA.heap.size WA wx
theorem four_made {WA V1 w1 V2 w2 V3 w3 V4 : World} {cb : Nat} {vS vF vL : Value} {hd : Int} {k : KM.Kn} (b0 : Below WA.heap.size WA V1) (h1 : w1.ownsRow V1.heap.size 50 3 vS k.sheets.length (k.sheets.flatMap cellSh)) (b1 : Below V1.heap.size V1 w1) (b12 : Below w1.heap.size w1 V2)
  (h2 : w2.ownsRow V2.heap.size 40 4 vF k.frames.length (k.frames.flatMap cellFr)) (b2 : Below V2.heap.size V2 w2) (b23 : Below w2.heap.size w2 V3) (h3 : w3.ownsRow V3.heap.size 86 2 vL k.slots.length (k.slots.flatMap cellSl)) (b3 : Below V3.heap.size V3 w3) (b34 : Below w3.heap.size w3 V4)
  (hcb : V4.heap[cb]? = some (.cells #[.slice none 0 0,.slice none 0 0,.slice none 0 0,.slice none 0 0,.int .i64 0] 27 (0,0))) (hlo : WA.heap.size <= cb) (hout : cb < V1.heap.size ∨ (w1.heap.size <= cb /\ cb < V2.heap.size) ∨ (w2.heap.size <= cb /\ cb < V3.heap.size) ∨ w3.heap.size <= cb) :
  Four WA.heap.size WA (((((V4.setCell ⟨cb,0,none⟩ vS).setCell ⟨cb,1,none⟩ vF).setCell ⟨cb,2,none⟩ vL).setCell ⟨cb,3,none⟩ (.slice none 0 0)).setCell ⟨cb,4,none⟩ (.int .i64 hd)) cb vS vF vL hd k:=by
 have s0:=b0.size
 have s1:=b1.size
 have s12:=b12.size
 have s2:=b2.size
 have s23:=b23.size
 have s3:=b3.size
 have s34:=b34.size
 have kp : Kp (fun b=>b = cb) V4 (((((V4.setCell ⟨cb,0,none⟩ vS).setCell ⟨cb,1,none⟩ vF).setCell ⟨cb,2,none⟩ vL).setCell ⟨cb,3,none⟩ (.slice none 0 0)).setCell ⟨cb,4,none⟩ (.int .i64 hd)):=((((Kp.set (fun b=>b = cb) V4 ⟨cb,0,none⟩ _ rfl).trans (Kp.set (fun b=>b = cb) _ ⟨cb,1,none⟩ _ rfl) (fun _ _ g=>g)).trans (Kp.set (fun b=>b = cb) _ ⟨cb,2,none⟩ _ rfl) (fun _ _ g=>g)).trans (Kp.set (fun b=>b = cb) _ ⟨cb,3,none⟩ _ rfl) (fun _ _ g=>g)).trans (Kp.set (fun b=>b = cb) _ ⟨cb,4,none⟩ _ rfl) (fun _ _ g=>g)
 have B13 : Below w1.heap.size w1 V4:=((b12.trans (b2.mono s12)).trans (b23.mono (by omega))).trans ((b3.mono (by omega)).trans (b34.mono (by omega)))
 have B23 : Below w2.heap.size w2 V4:=(b23.trans (b3.mono s23)).trans (b34.mono (by omega))
 have e1 : ∀ b,blk vS b -> V1.heap.size <= b /\ b < w1.heap.size:=fun b hb=>h1.lt b hb
 have e2 : ∀ b,blk vF b -> V2.heap.size <= b /\ b < w2.heap.size:=fun b hb=>h2.lt b hb
 have e3 : ∀ b,blk vL b -> V3.heap.size <= b /\ b < w3.heap.size:=fun b hb=>h3.lt b hb
 have row : ∀ {e : TypeId} {n m lo : Nat} {v : Value} {xs : List Value} {W : World},W.ownsRow lo e n v m xs -> Below W.heap.size W V4 -> WA.heap.size <= lo -> (∀ b,blk v b -> b ≠ cb) -> World.ownsRow _ WA.heap.size e n v m xs:=fun hr hb hl hn=>kp.row (row_base ((Kp.ofBelow (D:=fun _=>False) hb).row hr (fun _ _ g=>g)) (fun g hg=>by have:=(hr.lt g hg).1;omega)) (fun b hb2=>hn b hb2)
 refine ⟨?_,hlo,row h1 B13 (by omega) (fun b hb=>by have:=e1 b hb;omega),row h2 B23 (by omega) (fun b hb=>by have:=e2 b hb;omega),row h3 b34 (by omega) (fun b hb=>by have:=e3 b hb;omega),fun b hb=>⟨fun x=>by have:=e1 b hb;have:=e2 b x;omega,fun x=>by have:=e1 b hb;have:=e3 b x;omega,by have:=e1 b hb;omega⟩,fun b hb=>⟨fun x=>by have:=e2 b hb;have:=e3 b x;omega,by have:=e2 b hb;omega⟩,fun b hb=>by have:=e3 b hb;omega,?_⟩
 · exact B.set (B.set (B.set (B.set (B.set hcb 0 vS) 1 vF) 2 vL) 3 (.slice none 0 0)) 4 (.int .i64 hd)
 · exact Kp.below (b0.trans ((b1.trans (B13.mono s1)).mono s0)) kp (by omega) (fun b e=>by omega)
theorem four_new {WA V1 w1 V2 w2 V3 w3 : World} {vS vF vL : Value} {hd : Int} {k : KM.Kn} (b0 : Below WA.heap.size WA V1) (h1 : w1.ownsRow V1.heap.size 50 3 vS k.sheets.length (k.sheets.flatMap cellSh)) (b1 : Below V1.heap.size V1 w1) (b12 : Below w1.heap.size w1 V2)
  (h2 : w2.ownsRow V2.heap.size 40 4 vF k.frames.length (k.frames.flatMap cellFr)) (b2 : Below V2.heap.size V2 w2) (b23 : Below w2.heap.size w2 V3) (h3 : w3.ownsRow V3.heap.size 86 2 vL k.slots.length (k.slots.flatMap cellSl)) (b3 : Below V3.heap.size V3 w3) :
  Four WA.heap.size WA (w3.alloc (.cells #[vS,vF,vL,.slice none 0 0,.int .i64 hd] 27)) w3.heap.size vS vF vL hd k:=by
 have s0:=b0.size
 have s1:=b1.size
 have s12:=b12.size
 have s2:=b2.size
 have s23:=b23.size
 have s3:=b3.size
 have b34 : Below w3.heap.size w3 (w3.alloc (.cells #[vS,vF,vL,.slice none 0 0,.int .i64 hd] 27)):=(Below.refl _ _).alloc (Nat.le_refl _) _
 have B13 : Below w1.heap.size w1 (w3.alloc (.cells #[vS,vF,vL,.slice none 0 0,.int .i64 hd] 27)):=((b12.trans (b2.mono s12)).trans (b23.mono (by omega))).trans ((b3.mono (by omega)).trans (b34.mono (by omega)))
 have B23 : Below w2.heap.size w2 (w3.alloc (.cells #[vS,vF,vL,.slice none 0 0,.int .i64 hd] 27)):=(b23.trans (b3.mono s23)).trans (b34.mono (by omega))
 have e1 : ∀ b,blk vS b -> V1.heap.size <= b /\ b < w1.heap.size:=fun b hb=>h1.lt b hb
 have e2 : ∀ b,blk vF b -> V2.heap.size <= b /\ b < w2.heap.size:=fun b hb=>h2.lt b hb
 have e3 : ∀ b,blk vL b -> V3.heap.size <= b /\ b < w3.heap.size:=fun b hb=>h3.lt b hb
 have row : ∀ {e : TypeId} {n m lo : Nat} {v : Value} {xs : List Value} {W : World},W.ownsRow lo e n v m xs -> Below W.heap.size W (w3.alloc (.cells #[vS,vF,vL,.slice none 0 0,.int .i64 hd] 27)) -> WA.heap.size <= lo -> World.ownsRow _ WA.heap.size e n v m xs:=fun hr hb hl=>row_base ((Kp.ofBelow (D:=fun _=>False) hb).row hr (fun _ _ g=>g)) (fun g hg=>by have:=(hr.lt g hg).1;omega)
 refine ⟨B.new w3 _ _,by omega,row h1 B13 (by omega),row h2 B23 (by omega),row h3 b34 (by omega),fun b hb=>⟨fun x=>by have:=e1 b hb;have:=e2 b x;omega,fun x=>by have:=e1 b hb;have:=e3 b x;omega,by have:=e1 b hb;omega⟩,fun b hb=>⟨fun x=>by have:=e2 b hb;have:=e3 b x;omega,by have:=e2 b hb;omega⟩,fun b hb=>by have:=e3 b hb;omega,?_⟩
 exact b0.trans ((b1.trans (B13.mono s1)).mono s0)
structure Kh (lo cb : Nat) (w : World) (lab : Nat -> Lb) (vS vF vL : Value) (k : KM.Kn) (hs : List LM.Sh) (n : Nat) : Prop where
 bnd : ∀ b,lab b ≠ .no -> lo <= b /\ b < w.heap.size
 head : w.heap[cb]? = some (.cells #[vS,vF,vL,.slice none 0 0,.int .i64 k.hand] 27 (0,0))
 lH : lab cb = .head
 sheets : w.ownsRow lo 50 3 vS hs.length (hs.flatMap cellSh)
 fixes : ∀ i,i < n -> w.ownsRow lo 52 2 (vX (LM.shAt hs i)) (LM.shAt hs i).fixes.length ((LM.shAt hs i).fixes.flatMap cellFx)
 frames : w.ownsRow lo 40 4 vF k.frames.length (k.frames.flatMap cellFr)
 slots : w.ownsRow lo 86 2 vL k.slots.length (k.slots.flatMap cellSl)
 lS : ∀ b,blk vS b -> lab b = .sheets
 lX : ∀ i,i < n -> ∀ b,blk (vX (LM.shAt hs i)) b -> lab b = .fixes i
 lF : ∀ b,blk vF b -> lab b = .frames
 lL : ∀ b,blk vL b -> lab b = .slots
 same : KM.Same k.sheets hs
 rest : ∀ i,n <= i -> LM.shAt hs i = LM.shAt k.sheets i
theorem four_kh {lo : Nat} {WA w : World} {cb : Nat} {vS vF vL : Value} {k : KM.Kn} (h : Four lo WA w cb vS vF vL k.hand k) : ∃ lab,Kh lo cb w lab vS vF vL k k.sheets 0:=by
 refine ⟨fun b=>if b = cb then .head else if vS.ownBlock = some b then .sheets else if vF.ownBlock = some b then .frames else if vL.ownBlock = some b then .slots else .no,⟨fun b hb=>?_,h.head,if_pos rfl,h.rS,fun i hi=>absurd hi (Nat.not_lt_zero _),h.rF,h.rL,fun b hb=>?_,fun i hi=>absurd hi (Nat.not_lt_zero _),fun b hb=>?_,fun b hb=>?_,rfl,fun i hi=>rfl⟩⟩
 · by_cases c0 : b = cb
   · rw [c0]
     exact ⟨h.hlo,B.isLt h.head⟩
   · by_cases c1 : vS.ownBlock = some b
     · exact h.rS.lt b c1
     · by_cases c2 : vF.ownBlock = some b
       · exact h.rF.lt b c2
       · by_cases c3 : vL.ownBlock = some b
         · exact h.rL.lt b c3
         · exfalso
           apply hb
           simp [c0,c1,c2,c3]
 · have hb' : vS.ownBlock = some b:=hb
   have:=h.d1 b hb
   rw [if_neg this.2.2,if_pos hb']
 · have hb' : vF.ownBlock = some b:=hb
   have:=h.d2 b hb
   rw [if_neg this.2,if_neg (show ¬ vS.ownBlock = some b from fun x=>(h.d1 b x).1 hb),if_pos hb']
 · have hb' : vL.ownBlock = some b:=hb
   have:=h.d3 b hb
   rw [if_neg this,if_neg (show ¬ vS.ownBlock = some b from fun x=>(h.d1 b x).2.1 hb),if_neg (show ¬ vF.ownBlock = some b from fun x=>(h.d2 b x).1 hb),if_pos hb']
theorem Kh.kp {lo cb : Nat} {w w' : World} {lab : Nat -> Lb} {vS vF vL : Value} {k : KM.Kn} {hs : List LM.Sh} {n : Nat} (h : Kh lo cb w lab vS vF vL k hs n) {E : Nat -> Prop} (hk : Kp E w w') (he : ∀ b,lab b ≠ .no -> ¬ E b) : Kh lo cb w' lab vS vF vL k hs n:=by
 have z : ∀ {b : Nat} {c : Lb},lab b = c -> c ≠ .no -> ¬ E b:=fun e hc=>he _ (by rw [e];exact hc)
 exact ⟨fun b hb=>⟨(h.bnd b hb).1,Nat.lt_of_lt_of_le (h.bnd b hb).2 hk.size⟩,hk.keep h.head (z h.lH (by simp)),h.lH,hk.row h.sheets (fun b hb=>z (h.lS b hb) (by simp)),fun i hi=>hk.row (h.fixes i hi) (fun b hb=>z (h.lX i hi b hb) (by simp)),hk.row h.frames (fun b hb=>z (h.lF b hb) (by simp)),hk.row h.slots (fun b hb=>z (h.lL b hb) (by simp)),h.lS,h.lX,h.lF,h.lL,h.same,h.rest⟩
theorem Kh.below {lo cb : Nat} {w w' : World} {lab : Nat -> Lb} {vS vF vL : Value} {k : KM.Kn} {hs : List LM.Sh} {n : Nat} (h : Kh lo cb w lab vS vF vL k hs n) (hb : Below w.heap.size w w') : Kh lo cb w' lab vS vF vL k hs n:=h.kp (Kp.ofBelow (D:=fun _=>False) hb) (fun _ _ g=>g)
theorem shAt_set (l : List LM.Sh) (i m : Nat) (x : LM.Sh) (hi : i < l.length) : LM.shAt (l.set i x) m = if i = m then x else LM.shAt l m:=by
 unfold LM.shAt
 by_cases c : i = m
 · subst c;rw [if_pos rfl,KM.getD_set_self _ _ _ _ hi]
 · rw [if_neg c,KM.getD_set_ne _ _ _ _ _ c]
theorem plain_set : ∀ (l : List LM.Sh) (i : Nat) (x : LM.Sh),i < l.length -> LM.plain x = LM.plain (LM.shAt l i) -> (l.set i x).map LM.plain = l.map LM.plain
 | [],i,x,hi,_=>absurd hi (Nat.not_lt_zero _)
 | a :: r,0,x,hi,e=>by
  show LM.plain x :: _ = LM.plain a :: _
  rw [e]
  rfl
 | a :: r,i + 1,x,hi,e=>by
  show LM.plain a :: (r.set i x).map LM.plain = LM.plain a :: _
  rw [plain_set r i x (Nat.lt_of_succ_lt_succ hi) e]
theorem Kh.step {lo cb : Nat} {w w1 : World} {lab : Nat -> Lb} {vF vL : Value} {k : KM.Kn} {hs : List LM.Sh} {n : Nat} {sb m cS : Nat} {ax : Option Addr} {cx : Nat} (h : Kh lo cb w lab (.slice (some ⟨sb,0,none⟩) m cS) vF vL k hs n) (hn : n < hs.length) (hlo : lo <= w.heap.size) (hb : Below w.heap.size w w1)
  (hr : w1.ownsRow w.heap.size 52 2 (.slice ax (LM.shAt hs n).fixes.length cx) (LM.shAt hs n).fixes.length ((LM.shAt hs n).fixes.flatMap cellFx)) :
  ∃ lab',Kh lo cb (w1.setCell ⟨sb,n * 3 + 2,none⟩ (.slice ax (LM.shAt hs n).fixes.length cx)) lab' (.slice (some ⟨sb,0,none⟩) m cS) vF vL k (hs.set n ⟨(LM.shAt hs n).page,(LM.shAt hs n).data,(LM.shAt hs n).fixes,ax,cx⟩) (n + 1) /\ ∀ b,b < w.heap.size -> lab' b = lab b:=by
 have h1:=h.below hb
 obtain ⟨v,hv⟩ : ∃ v : Value,v = .slice ax (LM.shAt hs n).fixes.length cx:=⟨_,rfl⟩
 rw [<- hv] at hr ⊢
 have hsb : lab sb = .sheets:=h.lS sb rfl
 have hset : Kp (fun b=>b = sb) w1 (w1.setCell ⟨sb,n * 3 + 2,none⟩ v):=Kp.set _ _ _ _ rfl
 have z : ∀ {b : Nat} {c : Lb},lab b = c -> c ≠ .sheets -> ¬ b = sb:=fun e hc x=>hc (by rw [<- e,x];exact hsb)
 have ev : ∀ b,blk v b -> w.heap.size <= b /\ b < w1.heap.size:=fun b hx=>hr.lt b hx
 have old : ∀ b,b < w.heap.size -> (if v.ownBlock = some b then Lb.fixes n else lab b) = lab b:=fun b hl=>if_neg fun x=>by have:=ev b x;omega
 have o2 : ∀ b c,lab b = c -> c ≠ .no -> (if v.ownBlock = some b then Lb.fixes n else lab b) = c:=fun b c e hc=>by
  rw [old b (h.bnd b (by rw [e];exact hc)).2,e]
 have hm : m = hs.length:=by
  obtain ⟨ao,c,e,_⟩:=row_form h.sheets
  injection e
 subst hm
 have hsz : (w1.setCell ⟨sb,n * 3 + 2,none⟩ v).heap.size = w1.heap.size:=by simp
 refine ⟨fun b=>if v.ownBlock = some b then .fixes n else lab b,⟨fun b hx=>?_,hset.keep h1.head (z h.lH (by simp)),o2 cb _ h.lH (by simp),?_,fun i hi=>?_,hset.row h1.frames (fun b hx=>z (h.lF b hx) (by simp)),hset.row h1.slots (fun b hx=>z (h.lL b hx) (by simp)),fun b hx=>o2 b _ (h.lS b hx) (by simp),fun i hi b hx=>?_,fun b hx=>o2 b _ (h.lF b hx) (by simp),fun b hx=>o2 b _ (h.lL b hx) (by simp),?_,fun i hi=>?_⟩,old⟩
 · rw [hsz]
   by_cases c : v.ownBlock = some b
   · have:=ev b c;omega
   · have hx : (if v.ownBlock = some b then Lb.fixes n else lab b) ≠ .no:=hx
     rw [if_neg c] at hx
     exact h1.bnd b hx
 · have hr1:=row_set h1.sheets (n * 3 + 2) v
   rw [<- rows_set cellSh 3 (fun _=>rfl) LM.sh0 ⟨(LM.shAt hs n).page,(LM.shAt hs n).data,(LM.shAt hs n).fixes,ax,cx⟩ 2 v (by omega) hs n hn (by rw [hv];rfl)] at hr1
   rw [List.length_set]
   exact hr1
 · rw [shAt_set _ _ _ _ hn]
   by_cases c : n = i
   · rw [if_pos c]
     show World.ownsRow _ lo _ 2 (.slice ax (LM.shAt hs n).fixes.length cx) _ _
     rw [<- hv]
     exact hset.row (row_base hr (fun g hg=>by have:=ev g hg;omega)) (fun b hx e=>by have:=ev b hx;have:=(h.bnd sb (by rw [hsb];simp)).2;omega)
   · rw [if_neg c]
     exact hset.row (h1.fixes i (by omega)) (fun b hx=>z (h.lX i (by omega) b hx) (by simp))
 · rw [shAt_set _ _ _ _ hn] at hx
   by_cases c : n = i
   · rw [if_pos c] at hx
     have hx : blk (.slice ax (LM.shAt hs n).fixes.length cx) b:=hx
     rw [<- hv] at hx
     show (if v.ownBlock = some b then Lb.fixes n else lab b) = _
     rw [if_pos (show v.ownBlock = some b from hx),c]
   · rw [if_neg c] at hx
     exact o2 b _ (h.lX i (by omega) b hx) (by simp)
 · show List.map LM.plain _ = _
   exact (plain_set hs n ⟨(LM.shAt hs n).page,(LM.shAt hs n).data,(LM.shAt hs n).fixes,ax,cx⟩ hn rfl).trans h.same
 · rw [shAt_set _ _ _ _ hn,if_neg (by omega)]
   exact h.rest i (by omega)
theorem Kh.done {lo cb : Nat} {w : World} {lab : Nat -> Lb} {vS vF vL : Value} {k : KM.Kn} {hs : List LM.Sh} (h : Kh lo cb w lab vS vF vL k hs hs.length) : Km lo cb 27 [] w ⟨lab,vS,vF,vL,.slice none 0 0,[]⟩ (KM.withS ⟨k.sheets,k.frames,k.slots,k.spaces.take 0,k.hand⟩ hs) :=
 ⟨⟨h.bnd,h.sheets,h.fixes,h.frames,h.slots,World.ownsRow_nil _ _ _ _,rfl,fun i hi=>absurd hi (Nat.not_lt_zero _),h.lS,h.lX,h.lF,h.lL,(fun b hb=>by cases hb),fun i hi=>absurd hi (Nat.not_lt_zero _),fun i hi=>absurd hi (Nat.not_lt_zero _)⟩,h.head,h.lH⟩
end KY
end Go.Proofs.YtpgifpeohlllfaaGreat
