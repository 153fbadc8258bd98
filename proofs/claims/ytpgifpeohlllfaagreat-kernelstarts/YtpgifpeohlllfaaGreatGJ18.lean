import Derived.Test.YtpgifpeohlllfaaGreatGJ17
import Derived.Test.YtpgifpeohlllfaaGreatGJ09
set_option maxHeartbeats 20000000
set_option linter.unusedVariables false
set_option maxRecDepth 100000
set_option linter.unusedSimpArgs false
namespace Go.Proofs.YtpgifpeohlllfaaGreat
namespace KO
open Go.RowKit GK
open FW (hideC add_below)
open KW (cellFr cellSl cellEn HasRow KAt HasK cellsK)
open KS (Lc cellLc lc0 lcAt blk SpOwn)
def cellSh (s : LM.Sh) : List Value:=[.int .i64 s.page,.string s.data,.slice s.ao s.fixes.length s.cap]
def cellFx (f : LM.Fx) : List Value:=[.int .i64 f.off,.string f.bytes]
def vX (s : LM.Sh) : Value:=.slice s.ao s.fixes.length s.cap
inductive Lb where
 | no | head | frames | slots | spaces | sheets
 | areas (i : Nat)
 | ents (i : Nat)
 | fixes (i : Nat)
structure St where
 lab : Nat -> Lb
 vS : Value
 vF : Value
 vL : Value
 vP : Value
 L : List Lc
structure Kr (lo : Nat) (w : World) (S : St) (k : KM.Kn) : Prop where
 bnd : ∀ b,S.lab b ≠ .no -> lo <= b /\ b < w.heap.size
 sheets : w.ownsRow lo 50 3 S.vS k.sheets.length (k.sheets.flatMap cellSh)
 fixes : ∀ i,i < k.sheets.length -> w.ownsRow lo 52 2 (vX (LM.shAt k.sheets i)) (LM.shAt k.sheets i).fixes.length ((LM.shAt k.sheets i).fixes.flatMap cellFx)
 frames : w.ownsRow lo 40 4 S.vF k.frames.length (k.frames.flatMap cellFr)
 slots : w.ownsRow lo 86 2 S.vL k.slots.length (k.slots.flatMap cellSl)
 spaces : w.ownsRow lo 43 3 S.vP S.L.length (S.L.flatMap cellLc)
 len : S.L.length = k.spaces.length
 each : ∀ i,i < k.spaces.length -> SpOwn lo w (lcAt S.L i) (KM.spAt k.spaces i)
 lS : ∀ b,blk S.vS b -> S.lab b = .sheets
 lX : ∀ i,i < k.sheets.length -> ∀ b,blk (vX (LM.shAt k.sheets i)) b -> S.lab b = .fixes i
 lF : ∀ b,blk S.vF b -> S.lab b = .frames
 lL : ∀ b,blk S.vL b -> S.lab b = .slots
 lP : ∀ b,blk S.vP b -> S.lab b = .spaces
 lA : ∀ i,i < k.spaces.length -> ∀ b,blk (lcAt S.L i).va b -> S.lab b = .areas i
 lE : ∀ i,i < k.spaces.length -> ∀ b,blk (lcAt S.L i).vp b -> S.lab b = .ents i
structure Km (lo mb : Nat) (tt : TypeId) (X : List Value) (w : World) (S : St) (k : KM.Kn) : Prop extends Kr lo w S k where
 head : w.heap[mb]? = some (.cells ([S.vS,S.vF,S.vL,S.vP,.int .i64 k.hand] ++ X).toArray tt (0,0))
 lH : S.lab mb = .head
structure Ch (S : St) (w : World) (S' : St) (w' : World) : Prop where
 kp : Kp (fun b=>S.lab b ≠ .no) w w'
 no : ∀ b,b < w.heap.size -> S.lab b = .no -> S'.lab b = .no
 eS : S'.vS = S.vS
 eF : S'.vF = S.vF
 eL : S'.vL = S.vL
 eP : S'.vP = S.vP
theorem Ch.refl (S : St) (w : World) : Ch S w S w:=⟨Kp.refl _ _,fun _ _ h=>h,rfl,rfl,rfl,rfl⟩
theorem Ch.trans {S S1 S2 : St} {w w1 w2 : World} (h : Ch S w S1 w1) (g : Ch S1 w1 S2 w2) : Ch S w S2 w2 :=
 ⟨⟨g.kp.os.trans h.kp.os,g.kp.tape.trans h.kp.tape,g.kp.output.trans h.kp.output,Nat.le_trans h.kp.size g.kp.size,fun b hb hn=>by
  have hb1:=Nat.lt_of_lt_of_le hb h.kp.size
  have hn0 : S.lab b = .no:=Classical.not_not.1 hn
  have hn1:=h.no b hb hn0
  exact (g.kp.block b hb1 (fun x=>x hn1)).trans (h.kp.block b hb hn)⟩,fun b hb hn=>g.no b (Nat.lt_of_lt_of_le hb h.kp.size) (h.no b hb hn),g.eS.trans h.eS,g.eF.trans h.eF,g.eL.trans h.eL,g.eP.trans h.eP⟩
theorem Ch.below {S : St} {w w' : World} (h : Below w.heap.size w w') : Ch S w S w':=⟨Kp.ofBelow h,fun _ _ h=>h,rfl,rfl,rfl,rfl⟩
theorem Ch.set {S : St} {w : World} {g j : Nat} {u : Value} (h : S.lab g ≠ .no) : Ch S w S (w.setCell ⟨g,j,none⟩ u):=⟨Kp.set _ _ _ _ h,fun _ _ h=>h,rfl,rfl,rfl,rfl⟩
theorem Ch.keep {S S' : St} {w w' : World} {b : Nat} {o : Obj} (h : Ch S w S' w') (hb : w.heap[b]? = some o) (hn : S.lab b = .no) : w'.heap[b]? = some o:=h.kp.keep hb (fun x=>x hn)
theorem Kr.kp {lo : Nat} {w w' : World} {S : St} {k : KM.Kn} {E : Nat -> Prop} (h : Kr lo w S k) (hk : Kp E w w') (he : ∀ b,S.lab b ≠ .no -> ¬ E b) : Kr lo w' S k:=by
 have z : ∀ {b : Nat} {c : Lb},S.lab b = c -> c ≠ .no -> ¬ E b:=fun e hc=>he _ (by rw [e];exact hc)
 exact ⟨fun b hb=>⟨(h.bnd b hb).1,Nat.lt_of_lt_of_le (h.bnd b hb).2 hk.size⟩,hk.row h.sheets (fun b hb=>z (h.lS b hb) (by simp)),fun i hi=>hk.row (h.fixes i hi) (fun b hb=>z (h.lX i hi b hb) (by simp)),hk.row h.frames (fun b hb=>z (h.lF b hb) (by simp)),hk.row h.slots (fun b hb=>z (h.lL b hb) (by simp)),hk.row h.spaces (fun b hb=>z (h.lP b hb) (by simp)),h.len,fun i hi=>(h.each i hi).kp hk (fun b hb=>z (h.lA i hi b hb) (by simp)) (fun b hb=>z (h.lE i hi b hb) (by simp)),h.lS,h.lX,h.lF,h.lL,h.lP,h.lA,h.lE⟩
theorem Kr.below {lo : Nat} {w w' : World} {S : St} {k : KM.Kn} (h : Kr lo w S k) (hb : Below w.heap.size w w') : Kr lo w' S k:=h.kp (Kp.ofBelow (D:=fun _=>False) hb) (fun _ _ g=>g)
theorem Kr.mono {lo lo' : Nat} {w : World} {S : St} {k : KM.Kn} (h : Kr lo w S k) (hl : lo' <= lo) : Kr lo' w S k:=by
 have z : ∀ {e : TypeId} {n m : Nat} {v : Value} {xs : List Value},w.ownsRow lo e n v m xs -> w.ownsRow lo' e n v m xs:=fun hr=>row_base hr (fun g hg=>Nat.le_trans hl (hr.lt g hg).1)
 exact ⟨fun b hb=>⟨Nat.le_trans hl (h.bnd b hb).1,(h.bnd b hb).2⟩,z h.sheets,fun i hi=>z (h.fixes i hi),z h.frames,z h.slots,z h.spaces,h.len,fun i hi=>(h.each i hi).mono hl,h.lS,h.lX,h.lF,h.lL,h.lP,h.lA,h.lE⟩
theorem Km.below {lo mb : Nat} {tt : TypeId} {X : List Value} {w w' : World} {S : St} {k : KM.Kn} (h : Km lo mb tt X w S k) (hb : Below w.heap.size w w') : Km lo mb tt X w' S k:=⟨h.toKr.below hb,B.below h.head hb (B.isLt h.head),h.lH⟩
theorem Km.kp {lo mb : Nat} {tt : TypeId} {X : List Value} {w w' : World} {S : St} {k : KM.Kn} {E : Nat -> Prop} (h : Km lo mb tt X w S k) (hk : Kp E w w') (he : ∀ b,S.lab b ≠ .no -> ¬ E b) : Km lo mb tt X w' S k:=⟨h.toKr.kp hk he,hk.keep h.head (he mb (by rw [h.lH];simp)),h.lH⟩
theorem Kr.new {lo : Nat} {w : World} {S : St} {k : KM.Kn} (h : Kr lo w S k) {b : Nat} (hb : w.heap.size <= b) : S.lab b = .no:=Classical.not_not.1 fun x=>by have:=(h.bnd b x).2;omega
theorem row_has {α : Type} {w : World} {base : Nat} {e : TypeId} {k : Nat} (f : α -> List Value) (hf : ∀ x,(f x).length = k) (d : α) {l : List α} {v : Value} (hr : w.ownsRow base e k v l.length (l.flatMap f)) : ∃ ao cap,v = .slice ao l.length cap /\ l.length <= cap /\ HasRow f k d w ao l:=by
 obtain ⟨ao,cap,rfl,hle,hg⟩:=row_form hr
 refine ⟨ao,cap,rfl,hle,fun hl=>?_⟩
 obtain ⟨g,rfl,hg1,hg2⟩:=hg hl
 exact ⟨g,0,rfl,hg2,fun i hi j hj=>by rw [Nat.zero_add];exact row_at f hf d hr i j hi hj⟩
theorem Kr.hasH {lo : Nat} {w : World} {S : St} {k : KM.Kn} (h : Kr lo w S k) : ∃ ao cap,S.vS = .slice ao k.sheets.length cap /\ k.sheets.length <= cap /\ LM.HasH w ao k.sheets:=by
 obtain ⟨ao,cap,e,hc,hr⟩:=row_has cellSh (fun _=>rfl) LM.sh0 h.sheets
 refine ⟨ao,cap,e,hc,fun hl=>?_⟩
 obtain ⟨b,off,e1,hb,hi⟩:=hr hl
 refine ⟨b,off,e1,hb,fun i hlt=>⟨?_,hi i hlt 1 (by omega),hi i hlt 2 (by omega),fun hx=>?_⟩⟩
 · have:=hi i hlt 0 (by omega)
   rw [Nat.add_zero] at this
   exact this
 · obtain ⟨ax,cx,ex,_,hrx⟩:=row_has cellFx (fun _=>rfl) LM.fx0 (h.fixes i hlt)
   injection ex with e1 e2 e3
   rw [e1]
   obtain ⟨b2,off2,g1,g2,g3⟩:=hrx hx
   refine ⟨b2,off2,g1,g2,fun n hn=>⟨?_,g3 n hn 1 (by omega)⟩⟩
   have:=g3 n hn 0 (by omega)
   rw [Nat.add_zero] at this
   exact this
theorem Kr.hasP {lo : Nat} {w : World} {S : St} {k : KM.Kn} (h : Kr lo w S k) : ∃ ao cap,S.vP = .slice ao k.spaces.length cap /\ k.spaces.length <= cap /\ KW.HasSp w ao k.spaces:=by
 obtain ⟨ao,cap,e,hc,hr⟩:=row_has cellLc (fun _=>rfl) lc0 h.spaces
 rw [h.len] at e hc
 refine ⟨ao,cap,e,hc,fun hl=>?_⟩
 obtain ⟨b,off,e1,hb,hi⟩:=hr (by rw [h.len];exact hl)
 refine ⟨b,off,e1,hb,fun i hlt=>?_⟩
 have hlt' : i < S.L.length:=by rw [h.len];exact hlt
 have hs:=h.each i hlt
 obtain ⟨ap,cp,hvp,hlp,hgp⟩:=row_has cellEn (fun _=>rfl) KM.en0 hs.pages
 have c0:=hi i hlt' 0 (by omega)
 have c1:=hi i hlt' 1 (by omega)
 have c2:=hi i hlt' 2 (by omega)
 rw [Nat.add_zero] at c0
 refine ⟨(lcAt S.L i).va,ap,cp,?_,c1,?_,hs.areas.has,hgp,hlp⟩
 · rw [<- hs.live];exact c0
 · rw [<- hvp];exact c2
structure Places (S : St) (k : KM.Kn) (a : KAt) : Prop where
 eS : S.vS = .slice a.aS k.sheets.length a.cS
 eF : S.vF = .slice a.aF k.frames.length a.cF
 eL : S.vL = .slice a.aL k.slots.length a.cL
 eP : S.vP = .slice a.aP k.spaces.length a.cP
theorem Kr.has {lo : Nat} {w : World} {S : St} {k : KM.Kn} (h : Kr lo w S k) : ∃ a,Places S k a /\ HasK w a k:=by
 obtain ⟨aS,cS,eS,_,hS⟩:=h.hasH
 obtain ⟨aP,cP,eP,_,hP⟩:=h.hasP
 obtain ⟨aF,cF,eF,_,hF⟩:=row_has cellFr (fun _=>rfl) KM.fr0 h.frames
 obtain ⟨aL,cL,eL,_,hL⟩:=row_has cellSl (fun _=>rfl) KM.sl0 h.slots
 exact ⟨⟨aS,cS,aF,cF,aL,cL,aP,cP⟩,⟨eS,eF,eL,eP⟩,⟨hS,hF,hL,hP⟩⟩
theorem Kr.setF {lo : Nat} {w : World} {S : St} {k : KM.Kn} (h : Kr lo w S k) {g n cap : Nat} (hv : S.vF = .slice (some ⟨g,0,none⟩) n cap) {i j : Nat} (hi : i < k.frames.length) (hj : j < 4) {f : KM.Fr} {u : Value} (e : cellFr f = (cellFr (KM.frAt k.frames i)).set j u) :
  Kr lo (w.setCell ⟨g,i * 4 + j,none⟩ u) S { k with frames:=k.frames.set i f }:=by
 have hk : Kp (fun b=>b = g) w (w.setCell ⟨g,i * 4 + j,none⟩ u):=Kp.set _ _ _ _ rfl
 have hg : S.lab g = .frames:=h.lF g (by rw [hv];rfl)
 have z : ∀ {b : Nat} {c : Lb},S.lab b = c -> c ≠ .frames -> ¬ b = g:=fun e hc x=>hc (by rw [<- e,x];exact hg)
 have hn : n = k.frames.length:=by
  obtain ⟨ao,c,e,_⟩:=row_form h.frames
  rw [hv] at e
  injection e
 subst hn
 have hr:=h.frames
 rw [hv] at hr
 refine ⟨fun b hb=>⟨(h.bnd b hb).1,Nat.lt_of_lt_of_le (h.bnd b hb).2 hk.size⟩,hk.row h.sheets (fun b hb=>z (h.lS b hb) (by simp)),fun i hi=>hk.row (h.fixes i hi) (fun b hb=>z (h.lX i hi b hb) (by simp)),?_,hk.row h.slots (fun b hb=>z (h.lL b hb) (by simp)),hk.row h.spaces (fun b hb=>z (h.lP b hb) (by simp)),h.len,fun i hi=>(h.each i hi).kp hk (fun b hb=>z (h.lA i hi b hb) (by simp)) (fun b hb=>z (h.lE i hi b hb) (by simp)),h.lS,h.lX,h.lF,h.lL,h.lP,h.lA,h.lE⟩
 have:=row_set hr (i * 4 + j) u
 show World.ownsRow _ lo _ 4 S.vF (k.frames.set i f).length _
 rw [List.length_set,hv,rows_set cellFr 4 (fun _=>rfl) KM.fr0 f j u hj k.frames i hi e]
 exact this
theorem Kr.setL {lo : Nat} {w : World} {S : St} {k : KM.Kn} (h : Kr lo w S k) {g n cap : Nat} (hv : S.vL = .slice (some ⟨g,0,none⟩) n cap) {i j : Nat} (hi : i < k.slots.length) (hj : j < 2) {f : KM.Sl} {u : Value} (e : cellSl f = (cellSl (KM.slAt k.slots i)).set j u) :
  Kr lo (w.setCell ⟨g,i * 2 + j,none⟩ u) S { k with slots:=k.slots.set i f }:=by
 have hk : Kp (fun b=>b = g) w (w.setCell ⟨g,i * 2 + j,none⟩ u):=Kp.set _ _ _ _ rfl
 have hg : S.lab g = .slots:=h.lL g (by rw [hv];rfl)
 have z : ∀ {b : Nat} {c : Lb},S.lab b = c -> c ≠ .slots -> ¬ b = g:=fun e hc x=>hc (by rw [<- e,x];exact hg)
 have hn : n = k.slots.length:=by
  obtain ⟨ao,c,e,_⟩:=row_form h.slots
  rw [hv] at e
  injection e
 subst hn
 have hr:=h.slots
 rw [hv] at hr
 refine ⟨fun b hb=>⟨(h.bnd b hb).1,Nat.lt_of_lt_of_le (h.bnd b hb).2 hk.size⟩,hk.row h.sheets (fun b hb=>z (h.lS b hb) (by simp)),fun i hi=>hk.row (h.fixes i hi) (fun b hb=>z (h.lX i hi b hb) (by simp)),hk.row h.frames (fun b hb=>z (h.lF b hb) (by simp)),?_,hk.row h.spaces (fun b hb=>z (h.lP b hb) (by simp)),h.len,fun i hi=>(h.each i hi).kp hk (fun b hb=>z (h.lA i hi b hb) (by simp)) (fun b hb=>z (h.lE i hi b hb) (by simp)),h.lS,h.lX,h.lF,h.lL,h.lP,h.lA,h.lE⟩
 have:=row_set hr (i * 2 + j) u
 show World.ownsRow _ lo _ 2 S.vL (k.slots.set i f).length _
 rw [List.length_set,hv,rows_set cellSl 2 (fun _=>rfl) KM.sl0 f j u hj k.slots i hi e]
 exact this
theorem Kr.turn {lo : Nat} {w w2 : World} {S : St} {k : KM.Kn} (h : Kr lo w S k) {j : Nat} (hj : j < k.spaces.length) {l : Lc} {s : KM.Sp} {lab' : Nat -> Lb}
  (hk : Kp (fun b=>S.lab b = .ents j ∨ S.lab b = .spaces ∨ S.lab b = .areas j) w w2) (hrow : w2.ownsRow lo 43 3 S.vP S.L.length ((S.L.set j l).flatMap cellLc)) (hs : SpOwn lo w2 l s)
  (hb : ∀ b,lab' b ≠ .no -> lo <= b /\ b < w2.heap.size) (hlab : ∀ b c,S.lab b = c -> c ≠ .no -> c ≠ .areas j -> c ≠ .ents j -> lab' b = c) (hA : ∀ b,blk l.va b -> lab' b = .areas j) (hE : ∀ b,blk l.vp b -> lab' b = .ents j) :
  Kr lo w2 ⟨lab',S.vS,S.vF,S.vL,S.vP,S.L.set j l⟩ { k with spaces:=k.spaces.set j s }:=by
 have z : ∀ {b : Nat} {c : Lb},S.lab b = c -> c ≠ .ents j -> c ≠ .spaces -> c ≠ .areas j -> ¬ (S.lab b = .ents j ∨ S.lab b = .spaces ∨ S.lab b = .areas j):=fun e h1 h2 h3 x=>by
  rw [e] at x
  rcases x with x | x | x
  · exact h1 x
  · exact h2 x
  · exact h3 x
 have hLl : (S.L.set j l).length = S.L.length:=List.length_set
 have hl:=h.len
 have at_ : ∀ i,i < k.spaces.length -> lcAt (S.L.set j l) i = if j = i then l else lcAt S.L i:=fun i hi=>by
  unfold lcAt
  by_cases c : j = i
  · subst c;rw [if_pos rfl,KM.getD_set_self _ _ _ _ (by omega)]
  · rw [if_neg c,KM.getD_set_ne _ _ _ _ _ c]
 refine ⟨hb,hk.row h.sheets (fun b hb=>z (h.lS b hb) (by simp) (by simp) (by simp)),fun i hi=>hk.row (h.fixes i hi) (fun b hb=>z (h.lX i hi b hb) (by simp) (by simp) (by simp)),hk.row h.frames (fun b hb=>z (h.lF b hb) (by simp) (by simp) (by simp)),hk.row h.slots (fun b hb=>z (h.lL b hb) (by simp) (by simp) (by simp)),?_,?_,?_,fun b hb=>hlab b _ (h.lS b hb) (by simp) (by simp) (by simp),fun i hi b hb=>hlab b _ (h.lX i hi b hb) (by simp) (by simp) (by simp),fun b hb=>hlab b _ (h.lF b hb) (by simp) (by simp) (by simp),fun b hb=>hlab b _ (h.lL b hb) (by simp) (by simp) (by simp),fun b hb=>hlab b _ (h.lP b hb) (by simp) (by simp) (by simp),?_,?_⟩
 · show World.ownsRow w2 lo _ 3 S.vP (S.L.set j l).length _
   rw [hLl];exact hrow
 · show (S.L.set j l).length = (k.spaces.set j s).length
   rw [hLl,List.length_set,hl]
 · intro i hi
   have hi : i < k.spaces.length:=by rw [<- List.length_set];exact hi
   show SpOwn lo w2 (lcAt (S.L.set j l) i) (KM.spAt (k.spaces.set j s) i)
   rw [at_ i hi,KM.spAt_set _ _ _ _ hj]
   by_cases c : j = i
   · rw [if_pos c,if_pos c];exact hs
   · rw [if_neg c,if_neg c]
     exact (h.each i hi).kp hk (fun b hb=>z (h.lA i hi b hb) (by simp) (by simp) (by simp;omega)) (fun b hb=>z (h.lE i hi b hb) (by simp;omega) (by simp) (by simp))
 · intro i hi b hb
   have hi : i < k.spaces.length:=by rw [<- List.length_set];exact hi
   have hb : blk (lcAt (S.L.set j l) i).va b:=hb
   rw [at_ i hi] at hb
   by_cases c : j = i
   · rw [if_pos c] at hb;rw [<- c];exact hA b hb
   · rw [if_neg c] at hb;exact hlab b _ (h.lA i hi b hb) (by simp) (by simp;omega) (by simp)
 · intro i hi b hb
   have hi : i < k.spaces.length:=by rw [<- List.length_set];exact hi
   have hb : blk (lcAt (S.L.set j l) i).vp b:=hb
   rw [at_ i hi] at hb
   by_cases c : j = i
   · rw [if_pos c] at hb;rw [<- c];exact hE b hb
   · rw [if_neg c] at hb;exact hlab b _ (h.lE i hi b hb) (by simp) (by simp) (by simp;omega)
end KO
namespace KM
open Go.RowKit
def lastPg (a n : Int) : Int:=(a + n - 1) / 16
def oneK (k : Kn) (j : Nat) (a way : Int) : Nat × Kn:=bringK k j (a / 16) way []
def twoB (k : Kn) (j : Nat) (a n way : Int) : Nat × Kn:=bringK (oneK k j a way).2 j (lastPg a n) way [((oneK k j a way).1 : Int)]
def reachK (k : Kn) (j : Nat) (a n way : Int) : List Nat × Kn:=if lastPg a n = a / 16 then ([(oneK k j a way).1],(oneK k j a way).2) else ([(oneK k j a way).1,(twoB k j a n way).1],(twoB k j a n way).2)
structure Reached (k : Kn) (j : Nat) (a n way : Int) : Prop where
 right : RightK (reachK k j a n way).2
 kept : Kept k (reachK k j a n way).2
 one : entOf (spAt (reachK k j a n way).2.spaces j).ents (a / 16) = some ⟨a / 16,1,(oneK k j a way).1⟩ /\ (oneK k j a way).1 < k.frames.length
 two : lastPg a n ≠ a / 16 -> entOf (spAt (reachK k j a n way).2.spaces j).ents (lastPg a n) = some ⟨lastPg a n,1,(twoB k j a n way).1⟩ /\ (twoB k j a n way).1 < k.frames.length
theorem reach_had {k : Kn} (h : RightK k) {j : Nat} (hj : j < k.spaces.length) (a n way : Int) (h1 : mapped k j (a / 16)) (h2 : mapped k j (lastPg a n)) : Reached k j a n way:=by
 have A:=(bring_had h hj h1 way (held:=[]) (by simp)).1
 by_cases c : lastPg a n = a / 16
 · have e : reachK k j a n way = ([(oneK k j a way).1],(oneK k j a way).2):=by unfold reachK;rw [if_pos c]
   exact ⟨by rw [e];exact A.right,by rw [e];exact A.kept,by rw [e];exact ⟨A.here,A.lt⟩,fun x=>absurd c x⟩
 · have hj' : j < (oneK k j a way).2.spaces.length:=by have:=A.kept.np;unfold oneK;omega
   have B:=(bring_had (k:=(oneK k j a way).2) A.right hj' (A.kept.mapped hj h2) way (held:=[((oneK k j a way).1 : Int)]) (by simp)).1
   have e : reachK k j a n way = ([(oneK k j a way).1,(twoB k j a n way).1],(twoB k j a n way).2):=by unfold reachK;rw [if_neg c]
   refine ⟨by rw [e];exact B.right,by rw [e];exact A.kept.trans B.kept,?_,fun _=>?_⟩
   · rw [e]
     exact ⟨B.stay j hj' (a / 16) _ A.here rfl (by simp [oneK]) (fun x=>c x.2.symm),A.lt⟩
   · rw [e]
     refine ⟨B.here,?_⟩
     have hl:=B.lt
     have hn:=A.kept.nf
     show (twoB k j a n way).1 < _
     unfold twoB
     unfold oneK at hl ⊢
     omega
def cutK (k : Kn) (j : Nat) (es : List En) (e : En) : Kn:=leaveK { k with spaces:=k.spaces.set j (withE (spAt k.spaces j) es) } e
theorem cut_parts {k : Kn} (h : RightK k) {j : Nat} (hj : j < k.spaces.length) {pre post : List En} {e : En} (he : (spAt k.spaces j).ents = pre ++ e :: post) : (cutK k j (pre ++ post) e).frames.length = k.frames.length /\ (cutK k j (pre ++ post) e).slots.length = k.slots.length /\ (cutK k j (pre ++ post) e).sheets = k.sheets /\ (cutK k j (pre ++ post) e).hand = k.hand /\ (cutK k j (pre ++ post) e).spaces = k.spaces.set j (withE (spAt k.spaces j) (pre ++ post)) /\
  (∀ n,frAt (cutK k j (pre ++ post) e).frames n = if e.kind = 1 /\ e.loc = (n : Int) then lessF (frAt k.frames n) else frAt k.frames n) /\
  (∀ n,slAt (cutK k j (pre ++ post) e).slots n = if e.kind = 2 /\ e.loc = (n : Int) then lessS (slAt k.slots n) else slAt k.slots n):=by
 have hm : e ∈ (spAt k.spaces j).ents:=by rw [he];simp
 unfold cutK leaveK
 rcases loc_bd h hj hm with b | b
 · rw [if_pos b.1]
   refine ⟨List.length_set,rfl,rfl,rfl,rfl,fun n=>?_,fun n=>?_⟩
   · show frAt (k.frames.set _ (lessF (frAt k.frames _))) n = _
     rw [frAt_set _ _ _ _ b.2.2]
     by_cases c : e.loc.toNat = n
     · rw [if_pos c,if_pos ⟨b.1,by omega⟩,c]
     · rw [if_neg c,if_neg (by omega)]
   · show slAt k.slots n = _
     rw [if_neg (by omega)]
 · rw [if_neg (by omega)]
   refine ⟨rfl,List.length_set,rfl,rfl,rfl,fun n=>?_,fun n=>?_⟩
   · show frAt k.frames n = _
     rw [if_neg (by omega)]
   · show slAt (k.slots.set _ (lessS (slAt k.slots _))) n = _
     rw [slAt_set _ _ _ _ b.2.2]
     by_cases c : e.loc.toNat = n
     · rw [if_pos c,if_pos ⟨b.1,by omega⟩,c]
     · rw [if_neg c,if_neg (by omega)]
theorem cut_right {k : Kn} (h : RightK k) {j : Nat} (hj : j < k.spaces.length) {pre post : List En} {e : En} (he : (spAt k.spaces j).ents = pre ++ e :: post) : RightK (cutK k j (pre ++ post) e):=by
 have hsp:=h.sp hj
 obtain ⟨f1,f2,f3,f4,f5,f6,f7⟩:=cut_parts h hj he
 have hlen : (cutK k j (pre ++ post) e).spaces.length = k.spaces.length:=by rw [f5,List.length_set]
 have hin : ∀ x,x ∈ pre ++ post -> x ∈ (spAt k.spaces j).ents:=fun x hx=>by
  rw [he]
  rcases List.mem_append.1 hx with g | g
  · exact List.mem_append.2 (.inl g)
  · exact List.mem_append.2 (.inr (List.mem_cons_of_mem _ g))
 have hnm : ∀ kd a : Int,∃ X Y,names k.spaces kd a = X ++ (nm (spAt k.spaces j).areas kd a [e] ++ Y) /\ names (k.spaces.set j (withE (spAt k.spaces j) (pre ++ post))) kd a = X ++ Y:=fun kd a=>by
  obtain ⟨u,v,g1,g2⟩:=names_set k.spaces j (withE (spAt k.spaces j) (pre ++ post)) kd a hj
  refine ⟨u ++ nm (spAt k.spaces j).areas kd a pre,nm (spAt k.spaces j).areas kd a post ++ v,?_,?_⟩
  · rw [g1,nameIn_nm,he,nm_append,nm_cons]
    simp only [List.append_assoc]
  · rw [g2,nameIn_nm]
    show u ++ (nm (spAt k.spaces j).areas kd a (pre ++ post) ++ v) = _
    rw [nm_append]
    simp only [List.append_assoc]
 refine ⟨?_,by rw [f3];exact h.rise,by rw [f4,f1];exact h.hand,?_,?_,?_,?_⟩
 · have:=h.counts
   unfold KM.counts at this ⊢
   rw [f1,f2,f3,hlen]
   exact this
 · rw [f1,f2,f3,f5]
   intro s hs
   rcases List.mem_or_eq_of_mem_set hs with g | rfl
   · exact h.each s g
   · refine ⟨fun dd=>?_,hsp.areas,?_,fun x hx=>hsp.ent x (hin x hx),hsp.sheets⟩
     · have hnil:=(hsp.dead dd).2
       rw [he] at hnil
       exact absurd hnil (by simp)
     · have hr : Rise (spAt k.spaces j).ents:=hsp.rise
       rw [he] at hr
       exact List.Pairwise.sublist ((List.Sublist.append (List.Sublist.refl pre) (List.sublist_cons_self e post)).map _) hr
 · rw [f2,f5,room_set _ _ (withE (spAt k.spaces j) (pre ++ post)) hj rfl];exact h.room
 · intro n hn
   rw [f1] at hn
   rw [f3,f5,f6]
   obtain ⟨X,Y,h1,h2⟩:=hnm 1 n
   rw [h2]
   have hf:=h.frm n hn
   rw [h1] at hf
   by_cases c2 : e.kind = 1 /\ e.loc = (n : Int)
   · rw [if_pos c2]
     rw [nm_yes _ c2] at hf
     exact hf.less
   · rw [if_neg c2]
     rw [nm_no _ c2] at hf
     exact hf
 · intro n hn
   rw [f2] at hn
   rw [f5,f7]
   obtain ⟨X,Y,h1,h2⟩:=hnm 2 n
   rw [h2]
   have hf:=h.slt n hn
   rw [h1] at hf
   by_cases c2 : e.kind = 2 /\ e.loc = (n : Int)
   · rw [if_pos c2]
     rw [nm_yes _ c2] at hf
     exact hf.less
   · rw [if_neg c2]
     rw [nm_no _ c2] at hf
     exact hf
end KM
namespace KO
open Go.RowKit GK
open FW (hideC add_below)
open KW (cellFr cellSl cellEn HasRow KAt HasK cellsK)
open KS (Lc cellLc lc0 lcAt blk SpOwn)
variable {lo mb : Nat} {tt : TypeId} {X : List Value} {w : World} {S : St} {k : KM.Kn}
theorem set_head (h : Km lo mb tt X w S k) {g j : Nat} {u : Value} {c : Lb} (hg : S.lab g = c) (hc : c ≠ .head) : (w.setCell ⟨g,j,none⟩ u).heap[mb]? = some (.cells ([S.vS,S.vF,S.vL,S.vP,.int .i64 k.hand] ++ X).toArray tt (0,0)) :=
 B.other h.head g j u (fun e=>hc (by rw [<- hg,<- e];exact h.lH))
theorem Km.setF (h : Km lo mb tt X w S k) {g n cap : Nat} (hv : S.vF = .slice (some ⟨g,0,none⟩) n cap) {i j : Nat} (hi : i < k.frames.length) (hj : j < 4) {f : KM.Fr} {u : Value} (e : cellFr f = (cellFr (KM.frAt k.frames i)).set j u) :
  Km lo mb tt X (w.setCell ⟨g,i * 4 + j,none⟩ u) S { k with frames:=k.frames.set i f }:=⟨h.toKr.setF hv hi hj e,set_head h (h.lF g (by rw [hv];rfl)) (by simp),h.lH⟩
theorem Km.setL (h : Km lo mb tt X w S k) {g n cap : Nat} (hv : S.vL = .slice (some ⟨g,0,none⟩) n cap) {i j : Nat} (hi : i < k.slots.length) (hj : j < 2) {f : KM.Sl} {u : Value} (e : cellSl f = (cellSl (KM.slAt k.slots i)).set j u) :
  Km lo mb tt X (w.setCell ⟨g,i * 2 + j,none⟩ u) S { k with slots:=k.slots.set i f }:=⟨h.toKr.setL hv hi hj e,set_head h (h.lL g (by rw [hv];rfl)) (by simp),h.lH⟩
theorem chF (h : Kr lo w S k) {g n cap : Nat} (hv : S.vF = .slice (some ⟨g,0,none⟩) n cap) {V : World} {i : Nat} {u : Value} : Ch S V S (V.setCell ⟨g,i,none⟩ u):=Ch.set (by rw [h.lF g (by rw [hv];rfl)];simp)
theorem chL (h : Kr lo w S k) {g n cap : Nat} (hv : S.vL = .slice (some ⟨g,0,none⟩) n cap) {V : World} {i : Nat} {u : Value} : Ch S V S (V.setCell ⟨g,i,none⟩ u):=Ch.set (by rw [h.lL g (by rw [hv];rfl)];simp)
theorem Km.layF (h : Km lo mb tt X w S k) {g n cap : Nat} (hv : S.vF = .slice (some ⟨g,0,none⟩) n cap) {i : Nat} (hi : i < k.frames.length) (f : KM.Fr) :
  Km lo mb tt X ((((w.setCell ⟨g,i * 4,none⟩ (.string f.data)).setCell ⟨g,i * 4 + 1,none⟩ (.int .i64 f.refs)).setCell ⟨g,i * 4 + 2,none⟩ (.bool f.dirty)).setCell ⟨g,i * 4 + 3,none⟩ (.bool f.seen)) S { k with frames:=k.frames.set i f } /\
  Ch S w S ((((w.setCell ⟨g,i * 4,none⟩ (.string f.data)).setCell ⟨g,i * 4 + 1,none⟩ (.int .i64 f.refs)).setCell ⟨g,i * 4 + 2,none⟩ (.bool f.dirty)).setCell ⟨g,i * 4 + 3,none⟩ (.bool f.seen)):=by
 have h1:=h.setF hv hi (j:=0) (by omega) (f:=⟨f.data,(KM.frAt k.frames i).refs,(KM.frAt k.frames i).dirty,(KM.frAt k.frames i).seen⟩) (u:=.string f.data) rfl
 have h2:=h1.setF hv (i:=i) (by simpa using hi) (j:=1) (by omega) (f:=⟨f.data,f.refs,(KM.frAt k.frames i).dirty,(KM.frAt k.frames i).seen⟩) (u:=.int .i64 f.refs) (by simp only [KM.frAt,KM.getD_set_self _ _ _ _ hi];rfl)
 have h3:=h2.setF hv (i:=i) (by simpa using hi) (j:=2) (by omega) (f:=⟨f.data,f.refs,f.dirty,(KM.frAt k.frames i).seen⟩) (u:=.bool f.dirty) (by simp only [KM.frAt,List.set_set,KM.getD_set_self _ _ _ _ hi];rfl)
 have h4:=h3.setF hv (i:=i) (by simpa using hi) (j:=3) (by omega) (f:=f) (u:=.bool f.seen) (by simp only [KM.frAt,List.set_set,KM.getD_set_self _ _ _ _ hi];rfl)
 simp only [List.set_set] at h4
 exact ⟨h4,(((chF h.toKr hv).trans (chF h.toKr hv)).trans (chF h.toKr hv)).trans (chF h.toKr hv)⟩
theorem Km.layS (h : Km lo mb tt X w S k) {g n cap : Nat} (hv : S.vL = .slice (some ⟨g,0,none⟩) n cap) {i : Nat} (hi : i < k.slots.length) (f : KM.Sl) :
  Km lo mb tt X ((w.setCell ⟨g,i * 2,none⟩ (.string f.data)).setCell ⟨g,i * 2 + 1,none⟩ (.int .i64 f.refs)) S { k with slots:=k.slots.set i f } /\
  Ch S w S ((w.setCell ⟨g,i * 2,none⟩ (.string f.data)).setCell ⟨g,i * 2 + 1,none⟩ (.int .i64 f.refs)):=by
 have h1:=h.setL hv hi (j:=0) (by omega) (f:=⟨f.data,(KM.slAt k.slots i).refs⟩) (u:=.string f.data) rfl
 have h2:=h1.setL hv (i:=i) (by simpa using hi) (j:=1) (by omega) (f:=f) (u:=.int .i64 f.refs) (by simp only [KM.slAt,KM.getD_set_self _ _ _ _ hi];rfl)
 simp only [List.set_set] at h2
 exact ⟨h2,(chL h.toKr hv).trans (chL h.toKr hv)⟩
theorem Km.setHand (h : Km lo mb tt X w S k) (x : Int) : Km lo mb tt X (w.setCell ⟨mb,4,none⟩ (.int .i64 x)) S { k with hand:=x } /\ Ch S w S (w.setCell ⟨mb,4,none⟩ (.int .i64 x)):=by
 have hk : Kp (fun b=>b = mb) w (w.setCell ⟨mb,4,none⟩ (.int .i64 x)):=Kp.set _ _ _ _ rfl
 have z : ∀ {b : Nat} {c : Lb},S.lab b = c -> c ≠ .head -> ¬ b = mb:=fun e hc x=>hc (by rw [<- e,x];exact h.lH)
 refine ⟨⟨⟨fun b hb=>⟨(h.bnd b hb).1,Nat.lt_of_lt_of_le (h.bnd b hb).2 hk.size⟩,hk.row h.sheets (fun b hb=>z (h.lS b hb) (by simp)),fun i hi=>hk.row (h.fixes i hi) (fun b hb=>z (h.lX i hi b hb) (by simp)),hk.row h.frames (fun b hb=>z (h.lF b hb) (by simp)),hk.row h.slots (fun b hb=>z (h.lL b hb) (by simp)),hk.row h.spaces (fun b hb=>z (h.lP b hb) (by simp)),h.len,fun i hi=>(h.each i hi).kp hk (fun b hb=>z (h.lA i hi b hb) (by simp)) (fun b hb=>z (h.lE i hi b hb) (by simp)),h.lS,h.lX,h.lF,h.lL,h.lP,h.lA,h.lE⟩,?_,h.lH⟩,Ch.set (by rw [h.lH];simp)⟩
 rw [B.set h.head 4 (.int .i64 x)]
 simp
theorem Km.turn {w2 : World} (h : Km lo mb tt X w S k) {j : Nat} (hj : j < k.spaces.length) {l : Lc} {s : KM.Sp} {lab' : Nat -> Lb}
  (hk : Kp (fun b=>S.lab b = .ents j ∨ S.lab b = .spaces ∨ S.lab b = .areas j) w w2) (hrow : w2.ownsRow lo 43 3 S.vP S.L.length ((S.L.set j l).flatMap cellLc)) (hs : SpOwn lo w2 l s)
  (hb : ∀ b,lab' b ≠ .no -> lo <= b /\ b < w2.heap.size) (hlab : ∀ b c,S.lab b = c -> c ≠ .no -> c ≠ .areas j -> c ≠ .ents j -> lab' b = c) (hA : ∀ b,blk l.va b -> lab' b = .areas j) (hE : ∀ b,blk l.vp b -> lab' b = .ents j) :
  Km lo mb tt X w2 ⟨lab',S.vS,S.vF,S.vL,S.vP,S.L.set j l⟩ { k with spaces:=k.spaces.set j s } :=
 ⟨h.toKr.turn hj hk hrow hs hb hlab hA hE,hk.keep h.head (fun x=>by rw [h.lH] at x;simp at x),hlab mb _ h.lH (by simp) (by simp) (by simp)⟩
theorem lc_self (L : List Lc) (j : Nat) : L.set j (lcAt L j) = L:=by
 unfold lcAt
 by_cases h : j < L.length
 · rw [List.getD_eq_getElem?_getD,List.getElem?_eq_getElem h,Option.getD_some,List.set_getElem_self]
 · exact List.set_eq_of_length_le (by omega)
theorem Km.setE (h : Km lo mb tt X w S k) {j : Nat} (hj : j < k.spaces.length) {g n cap : Nat} (hv : (lcAt S.L j).vp = .slice (some ⟨g,0,none⟩) n cap) {i c : Nat} (hi : i < (KM.spAt k.spaces j).ents.length) (hc : c < 3) {e : KM.En} {u : Value} (he : cellEn e = (cellEn (KM.enAt (KM.spAt k.spaces j).ents i)).set c u) :
  Km lo mb tt X (w.setCell ⟨g,i * 3 + c,none⟩ u) S { k with spaces:=k.spaces.set j (KM.withE (KM.spAt k.spaces j) ((KM.spAt k.spaces j).ents.set i e)) } /\ Ch S w S (w.setCell ⟨g,i * 3 + c,none⟩ u):=by
 have hgl : S.lab g = .ents j:=h.lE j hj g (by rw [hv];rfl)
 have hk : Kp (fun b=>b = g) w (w.setCell ⟨g,i * 3 + c,none⟩ u):=Kp.set _ _ _ _ rfl
 have z : ∀ {b : Nat} {c : Lb},S.lab b = c -> c ≠ .ents j -> ¬ b = g:=fun e hc x=>hc (by rw [<- e,x];exact hgl)
 have hs:=h.each j hj
 have hn : n = (KM.spAt k.spaces j).ents.length:=by
  obtain ⟨ao,c,e,_⟩:=row_form hs.pages
  rw [hv] at e
  injection e
 subst hn
 have hr:=hs.pages
 rw [hv] at hr
 refine ⟨?_,Ch.set (by rw [hgl];simp)⟩
 have:=h.turn (w2:=w.setCell ⟨g,i * 3 + c,none⟩ u) hj (l:=lcAt S.L j) (s:=KM.withE (KM.spAt k.spaces j) ((KM.spAt k.spaces j).ents.set i e)) (lab':=S.lab) (hk.mono (fun b _ e=>.inl (by rw [e];exact hgl))) (by rw [lc_self];exact hk.row h.spaces (fun b hb=>z (h.lP b hb) (by simp))) ⟨hs.live,hk.row hs.areas (fun b hb=>z (h.lA j hj b hb) (by simp)),?_⟩ (fun b hb=>⟨(h.bnd b hb).1,Nat.lt_of_lt_of_le (h.bnd b hb).2 hk.size⟩) (fun b c e _ _ _=>e) (fun b hb=>h.lA j hj b hb) (fun b hb=>h.lE j hj b hb)
 · rw [lc_self] at this;exact this
 · have r2:=row_set hr (i * 3 + c) u
   show World.ownsRow _ lo _ 3 (lcAt S.L j).vp ((KM.spAt k.spaces j).ents.set i e).length (((KM.spAt k.spaces j).ents.set i e).flatMap cellEn)
   rw [List.length_set,hv,rows_set cellEn 3 (fun _=>rfl) KM.en0 e c u hc _ i hi he]
   exact r2
def labE (S : St) (j : Nat) (v : Value) : Nat -> Lb:=fun b=>if v.ownBlock = some b then .ents j else S.lab b
theorem Km.swapE {w1 : World} (h : Km lo mb tt X w S k) {j : Nat} (hj : j < k.spaces.length) {v : Value} {es : List KM.En} {pb n cap : Nat} (hP : S.vP = .slice (some ⟨pb,0,none⟩) n cap)
  (hk : Kp (fun b=>S.lab b = .ents j) w w1) (hr : w1.ownsRow lo 45 3 v es.length (es.flatMap cellEn)) (hat : ∀ b,blk v b -> S.lab b = .ents j ∨ S.lab b = .no) :
  Km lo mb tt X (w1.setCell ⟨pb,j * 3 + 2,none⟩ v) ⟨labE S j v,S.vS,S.vF,S.vL,S.vP,S.L.set j ⟨(lcAt S.L j).lv,(lcAt S.L j).va,v⟩⟩ { k with spaces:=k.spaces.set j (KM.withE (KM.spAt k.spaces j) es) } /\
  ((∀ b,b < w.heap.size -> blk v b -> S.lab b = .ents j) -> Ch S w ⟨labE S j v,S.vS,S.vF,S.vL,S.vP,S.L.set j ⟨(lcAt S.L j).lv,(lcAt S.L j).va,v⟩⟩ (w1.setCell ⟨pb,j * 3 + 2,none⟩ v)):=by
 have hpl : S.lab pb = .spaces:=h.lP pb (by rw [hP];rfl)
 have hset : Kp (fun b=>b = pb) w1 (w1.setCell ⟨pb,j * 3 + 2,none⟩ v):=Kp.set _ _ _ _ rfl
 have hs:=h.each j hj
 have hl:=h.len
 have hrl : ∀ b,blk v b -> lo <= b /\ b < w1.heap.size:=fun b hb=>hr.lt b hb
 have hlab : ∀ b c,S.lab b = c -> c ≠ .no -> c ≠ .ents j -> labE S j v b = c:=fun b c e h1 h2=>by
  unfold labE
  rw [if_neg,e]
  intro x
  rcases hat b x with y | y
  · exact h2 (e.symm.trans y)
  · exact h1 (e.symm.trans y)
 have hn : n = S.L.length:=by
  obtain ⟨ao,c,e,_⟩:=row_form h.spaces
  rw [hP] at e
  injection e
 subst hn
 have hr1:=hk.row h.spaces (fun b hb e=>by rw [h.lP b hb] at e;simp at e)
 rw [hP] at hr1
 have hr2:=row_set hr1 (j * 3 + 2) v
 rw [<- rows_set cellLc 3 (fun _=>rfl) lc0 ⟨(lcAt S.L j).lv,(lcAt S.L j).va,v⟩ 2 v (by omega) S.L j (by omega) rfl] at hr2
 have hsz:=Nat.le_trans hk.size hset.size
 refine ⟨h.turn hj (l:=⟨(lcAt S.L j).lv,(lcAt S.L j).va,v⟩) (s:=KM.withE (KM.spAt k.spaces j) es) (lab':=labE S j v) ((hk.mono (D1:=fun b=>S.lab b = .ents j ∨ S.lab b = .spaces ∨ S.lab b = .areas j) (fun b _ e=>.inl e)).trans hset (fun b _ e=>.inr (.inl (by rw [e];exact hpl)))) (by rw [hP];exact hr2) ⟨hs.live,?_,?_⟩ ?_ (fun b c e h1 _ h3=>hlab b c e h1 h3) (fun b hb=>hlab b _ (h.lA j hj b hb) (by simp) (by simp)) (fun b hb=>if_pos hb),fun hold=>⟨?_,?_,rfl,rfl,rfl,rfl⟩⟩
 · exact hset.row (hk.row hs.areas (fun b hb e=>by rw [h.lA j hj b hb] at e;simp at e)) (fun b hb e=>by have:=h.lA j hj b hb;rw [e,hpl] at this;simp at this)
 · exact hset.row hr (fun b hb e=>by
    subst e
    rcases hat b hb with y | y <;> · rw [hpl] at y;simp at y)
 · intro b hb
   unfold labE at hb
   by_cases c : v.ownBlock = some b
   · exact ⟨(hrl b c).1,Nat.lt_of_lt_of_le (hrl b c).2 hset.size⟩
   · rw [if_neg c] at hb
     exact ⟨(h.bnd b hb).1,Nat.lt_of_lt_of_le (h.bnd b hb).2 hsz⟩
 · exact (hk.mono (fun b _ e=>by rw [e];simp)).trans hset (fun b _ e=>by rw [e,hpl];simp)
 · intro b hb hno
   show labE S j v b = .no
   unfold labE
   rw [if_neg,hno]
   intro x
   have:=hold b hb x
   rw [hno] at this
   simp at this
end KO
end Go.Proofs.YtpgifpeohlllfaaGreat
