import Derived.Test.YtkdigjpejnebkaaGreatGS22
import Derived.Test.YtkdigjpejnebkaaGreatGS24
import Derived.Test.YtkdigjpejnebkaaGreatGS06
import Derived.Deep.RegionHeld3
set_option linter.unusedVariables false
set_option maxRecDepth 100000
set_option linter.unusedSimpArgs false
namespace Go.Proofs.YtkdigjpejnebkaaGreat
namespace LM
open Go.RowKit
def symIx (l : List M.Sy) (s : ByteArray) : Option Nat:=l.findIdx? (fun y=>decide (y.name = s))
def symN (o : Ob) (s : ByteArray) : Option Int:=match symIx o.i.syms s with
 | none=>none
 | some k=>some (addrO o (M.syAt o.i.syms k).pos)
def tgtTo (l : List Ob) (s : ByteArray) : Nat -> Option Int
 | 0=>none
 | k + 1=>match tgtTo l s k with
  | some t=>some t
  | none=>symN (obAt l k) s
def tgtN (l : List Ob) (o : Ob) (s : ByteArray) : Option Int:=if s = ⟨#[]⟩ then some (addrO o 0) else tgtTo l s l.length
theorem places_of {i : M.Im} (hc : M.chkN i = 0) : M.placesB i = true:=by
 unfold M.chkN at hc
 split at hc
 · simp at hc
 · split at hc
   · simp at hc
   · split at hc
     · simp at hc
     · split at hc
       · simp at hc
       · split at hc
         · simp at hc
         · rename_i h
           simpa using h
theorem segIn_mem : ∀ {l : List M.Sg} {a : Int} {s : M.Sg},M.segIn l a = some s -> (∃ k,k < l.length /\ M.sgAt l k = s) /\ M.inSeg s a = true
 | [],a,s,h=>by cases h
 | x :: r,a,s,h=>by
  simp only [M.segIn] at h
  split at h
  · rename_i hi
    injection h with h
    subst h
    exact ⟨⟨0,by simp,rfl⟩,hi⟩
  · obtain ⟨⟨k,hk,e⟩,hi⟩:=segIn_mem h
    exact ⟨⟨k + 1,by simpa using hk,by simpa [M.sgAt] using e⟩,hi⟩
theorem placed_bounds {i : M.Im} (hc : M.chkN i = 0) {a : Int} (h : M.placedB i.segs a = true) : 0 <= a /\ a < 4080:=by
 unfold M.placedB at h
 obtain ⟨s,hs⟩:=Option.isSome_iff_exists.1 h
 obtain ⟨⟨k,hk,e⟩,hi⟩:=segIn_mem hs
 have hb:=seg_bounds hc k hk
 rw [e] at hb
 unfold M.inSeg at hi
 have:=of_decide_eq_true hi
 omega
theorem relsTo_at (i : M.Im) : ∀ n,M.relsTo i n = true -> ∀ k,k < n -> M.relAt i k = true
 | 0,_,k,hk=>by omega
 | n + 1,h,k,hk=>by
  simp only [M.relsTo,Bool.and_eq_true] at h
  by_cases e : k = n
  · subst e;exact h.2
  · exact relsTo_at i n h.1 k (by omega)
theorem rel_at {i : M.Im} (hc : M.chkN i = 0) (k : Nat) (hk : k < i.rels.length) : M.relAt i k = true:=by
 have h:=places_of hc
 unfold M.placesB at h
 simp only [Bool.and_eq_true] at h
 exact relsTo_at i i.rels.length h.2.1 k hk
theorem rel_bounds {i : M.Im} (hc : M.chkN i = 0) (k : Nat) (hk : k < i.rels.length) : 0 <= (M.rlAt i.rels k).pos /\ (M.rlAt i.rels k).pos + 7 < 4080:=by
 have h:=rel_at hc k hk
 unfold M.relAt M.wholeB at h
 simp only [Bool.and_eq_true] at h
 have h0:=placed_bounds hc h.2.1
 have h7:=placed_bounds hc h.2.2.2.2.2.2.2.2
 omega
theorem entry_bounds {i : M.Im} (hc : M.chkN i = 0) : 0 <= i.entry /\ i.entry < 4080:=by
 have h:=places_of hc
 unfold M.placesB at h
 simp only [Bool.and_eq_true] at h
 have he:=h.2.2
 unfold M.entryB at he
 refine placed_bounds hc ?_
 unfold M.placedB
 cases e : M.segIn i.segs i.entry with
 | none=>rw [e] at he;cases he
 | some s=>rfl
def ptOf (o : Ob) (r : M.Rl) (t : Int) : Pt:=⟨addrO o r.pos,⟨(Lib.leBytes 8 (CM.low (t + r.add))).toArray⟩⟩
def patTo (l : List Ob) (o : Ob) : Nat -> Option (List Pt)
 | 0=>some []
 | k + 1=>match patTo l o k with
  | none=>none
  | some ps=>match tgtN l o (M.rlAt o.i.rels k).name with
   | none=>none
   | some t=>some (ps ++ [ptOf o (M.rlAt o.i.rels k) t])
def patN (l : List Ob) (o : Ob) : Option (List Pt):=patTo l o o.i.rels.length
theorem patTo_len {l : List Ob} {o : Ob} : ∀ {k : Nat} {ps : List Pt},patTo l o k = some ps -> ps.length = k
 | 0,ps,h=>by simp only [patTo] at h;injection h with h;subst h;rfl
 | k + 1,ps,h=>by
  simp only [patTo] at h
  cases e : patTo l o k with
  | none=>rw [e] at h;cases h
  | some qs =>
   rw [e] at h
   simp only at h
   cases g : tgtN l o (M.rlAt o.i.rels k).name with
   | none=>rw [g] at h;cases h
   | some t =>
    rw [g] at h
    simp only at h
    injection h with h
    subst h
    rw [List.length_append,patTo_len e]
    rfl
end LM
namespace LW
open Go.RowKit
open W (hideC)
structure Oi (l : List LM.Ob) (ao : Option Addr) (w : World) : Prop where
 has : LM.HasO w ao l
 few : l.length <= 1000
 chk : ∀ k,k < l.length -> M.chkN (LM.obAt l k).i = 0
 fit : ∀ k,k < l.length -> M.Fit (LM.obAt l k).i
 base : ∀ k,k < l.length -> 1 <= (LM.obAt l k).base /\ (LM.obAt l k).base <= 2000
theorem Oi.below {l : List LM.Ob} {ao : Option Addr} {w w' : World} (h : Oi l ao w) (hb : Below w.heap.size w w') : Oi l ao w':=⟨h.has.below hb,h.few,h.chk,h.fit,h.base⟩
def OutPt (R : Option (List LM.Pt)) (w : World) (e : Ending) (w' : World) : Prop:=Below w.heap.size w w' /\ match R with
 | none=>e = .returned (.tuple #[.slice none 0 0,.bool false])
 | some ps=>∃ v,e = .returned (.tuple #[v,.bool true]) /\ w'.ownsRow w.heap.size 228 2 v ps.length (ps.flatMap LM.cellP)
end LW
namespace LM
open Go.RowKit
structure Sp where
 page : Int
 data : ByteArray
 fixes : List Fx
def plain (s : Sh) : Sp:=⟨s.page,s.data,s.fixes⟩
def pgN (o : Ob) (ps : List Pt) (s : M.Sg) (m : Nat) : Sp:=⟨o.base + s.page + (m : Int),pageN s m,fixesN (o.base + s.page + (m : Int)) ps⟩
def pgsTo (o : Ob) (ps : List Pt) (s : M.Sg) (n : Nat) : List Sp:=(List.range n).map (pgN o ps s)
def sgsTo (o : Ob) (ps : List Pt) : Nat -> List Sp
 | 0=>[]
 | k + 1=>sgsTo o ps k ++ pgsTo o ps (M.sgAt o.i.segs k) (M.sgAt o.i.segs k).pages.toNat
def obsTo (l : List Ob) : Nat -> Option (List Sp)
 | 0=>some []
 | k + 1=>match obsTo l k with
  | none=>none
  | some E=>match patN l (obAt l k) with
   | none=>none
   | some ps=>some (E ++ sgsTo (obAt l k) ps (obAt l k).i.segs.length)
def sheetsN (l : List Ob) : Option (List Sp):=obsTo l l.length
theorem pgsTo_succ (o : Ob) (ps : List Pt) (s : M.Sg) (n : Nat) : pgsTo o ps s (n + 1) = pgsTo o ps s n ++ [pgN o ps s n]:=by
 unfold pgsTo
 rw [List.range_succ,List.map_append]
 rfl
theorem obsTo_none {l : List Ob} {k : Nat} (h : obsTo l k = none) : ∀ n,k <= n -> obsTo l n = none
 | 0, hn => by obtain rfl : k = 0 := by omega
               exact h
 | n + 1,hn=>by
  by_cases e : k = n + 1
  · subst e;exact h
  · simp only [obsTo]
    rw [obsTo_none h n (by omega)]
theorem pat_fit {l : List Ob} {o : Ob} (hc : M.chkN o.i = 0) (h0 : 1 <= o.base) (h1 : o.base <= 2000) : ∀ (k : Nat) (ps : List Pt),k <= o.i.rels.length -> patTo l o k = some ps -> ∀ j,j < ps.length -> FitP (ptAt ps j)
 | 0,ps,_,h,j,hj=>by simp only [patTo] at h;injection h with h;subst h;simp at hj
 | k + 1,ps,hk,h,j,hj=>by
  simp only [patTo] at h
  cases e : patTo l o k with
  | none=>rw [e] at h;cases h
  | some qs =>
   rw [e] at h
   simp only at h
   cases g : tgtN l o (M.rlAt o.i.rels k).name with
   | none=>rw [g] at h;cases h
   | some t =>
    rw [g] at h
    simp only at h
    injection h with h
    subst h
    rw [List.length_append] at hj
    by_cases hjq : j < qs.length
    · have:=pat_fit hc h0 h1 k qs (by omega) e j hjq
      unfold ptAt at this ⊢
      rw [List.getD_eq_getElem?_getD,List.getElem?_append_left hjq,<- List.getD_eq_getElem?_getD]
      exact this
    · have hje : j = qs.length:=by simp at hj;omega
      subst hje
      unfold ptAt
      rw [List.getD_eq_getElem?_getD,List.getElem?_append_right (Nat.le_refl _),Nat.sub_self]
      have hb:=rel_bounds hc k (by omega)
      refine ⟨?_,?_,?_⟩
      · show 0 <= o.base * 16 + (M.rlAt o.i.rels k).pos
        omega
      · show o.base * 16 + (M.rlAt o.i.rels k).pos <= 1000000
        omega
      · show (⟨(Lib.leBytes 8 (CM.low (t + (M.rlAt o.i.rels k).add))).toArray⟩ : ByteArray).size = 8
        rw [Lib.size_eq]
        simp [Lib.leBytes]
def HasFN (rb : Option Nat) (w : World) (ao : Option Addr) (l : List Fx) : Prop:=0 < l.length -> ∃ b off,ao = some ⟨b,off,none⟩ /\ b < w.heap.size /\ some b ≠ rb /\ LieF w b off l
theorem HasFN.has {rb : Option Nat} {w : World} {ao : Option Addr} {l : List Fx} (h : HasFN rb w ao l) : HasF w ao l:=fun hl=>by
 obtain ⟨b,off,h1,h2,_,h3⟩:=h hl
 exact ⟨b,off,h1,h2,h3⟩
theorem HasFN.below {rb : Option Nat} {w w' : World} {ao : Option Addr} {l : List Fx} (h : HasFN rb w ao l) (hb : Below w.heap.size w w') : HasFN rb w' ao l:=fun hl=>by
 obtain ⟨b,off,h1,h2,h3,h4⟩:=h hl
 exact ⟨b,off,h1,Nat.lt_of_lt_of_le h2 hb.size,h3,lieF hb h2 h4⟩
theorem lieF_block {w w' : World} {b off : Nat} {l : List Fx} (h : LieF w b off l) (hb : w'.heap[b]? = w.heap[b]?) : LieF w' b off l:=fun i hi=>by
 obtain ⟨c0,c1⟩:=h i hi
 exact ⟨(World.cell?_of_block hb).trans c0,(World.cell?_of_block hb).trans c1⟩
theorem HasFN.grown {rb : Option Nat} {w w' : World} {ao : Option Addr} {l : List Fx} {g : Nat} (h : HasFN rb w ao l) (hg : w.grownBy w' rb) (hs : w.heap.size <= w'.heap.size) (hat : rb = some g ∨ g = w.heap.size) : HasFN (some g) w' ao l:=fun hl=>by
 obtain ⟨b,off,h1,h2,h3,h4⟩:=h hl
 refine ⟨b,off,h1,Nat.lt_of_lt_of_le h2 hs,fun e=>?_,lieF_block h4 (hg.block b h2 h3)⟩
 injection e with e
 rcases hat with hat | hat
 · exact h3 (by rw [hat,e])
 · omega
def AllF (rb : Option Nat) (w : World) (hs : List Sh) : Prop:=∀ k,k < hs.length -> HasFN rb w (shAt hs k).ao (shAt hs k).fixes
def cellH (s : Sh) : List Value:=[.int .i64 s.page,.string s.data,.slice s.ao s.fixes.length s.cap]
theorem shAt_left (l : List Sh) (x : Sh) (k : Nat) (h : k < l.length) : shAt (l ++ [x]) k = shAt l k:=by
 unfold shAt
 rw [List.getD_eq_getElem?_getD,List.getElem?_append_left h,<- List.getD_eq_getElem?_getD]
theorem shAt_last (l : List Sh) (x : Sh) : shAt (l ++ [x]) l.length = x:=by
 unfold shAt
 rw [List.getD_eq_getElem?_getD,List.getElem?_append_right (Nat.le_refl _)]
 simp
end LM
namespace LW
open Go.RowKit
open W (hideC)
theorem infoSh : (Tryz.prog.info? 62).map (fun i=>(i.zero,i.size,i.bytes)) = some (some (.agg #[.int .i64 0,.string ⟨#[]⟩,.slice none 0 0]),3,48):=by kernel_rfl
structure Rs (lo : Nat) (w : World) (v : Value) (hs : List LM.Sh) : Prop where
 row : w.ownsRow lo 62 3 v hs.length (hs.flatMap LM.cellH)
 fix : LM.AllF v.ownBlock w hs
theorem Rs.below {lo : Nat} {w w' : World} {v : Value} {hs : List LM.Sh} (h : Rs lo w v hs) (hb : Below w.heap.size w w') : Rs lo w' v hs:=⟨row_grown h.row hb,fun k hk=>(h.fix k hk).below hb⟩
theorem Rs.nil (lo : Nat) (w : World) : Rs lo w (.slice none 0 0) []:=⟨World.ownsRow_nil _ _ _ _,fun k hk=>by simp at hk⟩
theorem Rs.has {lo : Nat} {w : World} {v : Value} {hs : List LM.Sh} (h : Rs lo w v hs) : ∃ ao cap,v = .slice ao hs.length cap /\ LM.HasH w ao hs /\ hs.length <= cap:=by
 have hr:=h.row
 rcases hr.2 with ⟨hv,h0⟩ | ⟨g,cap,cur,hv,hbg,hg,hnc,hcm,hcs,htake⟩
 · exact ⟨none,0,by rw [hv,h0],fun hl=>by omega,by omega⟩
 · rw [hv] at hr
   refine ⟨some ⟨g,0,none⟩,cap,hv,fun _=>⟨g,0,rfl,B.isLt hg,fun k hk=>?_⟩,hnc⟩
   rw [Nat.zero_add]
   have hh : ∀ j,j < 3 -> w.cell? ⟨g,k * 3 + j,none⟩ = (LM.cellH (LM.shAt hs k))[j]?:=fun j hj=>(hr.cellAt _ (by omega)).trans (flat_get LM.cellH 3 (fun _=>rfl) LM.sh0 hs k j hk hj)
   exact ⟨hh 0 (by omega),hh 1 (by omega),hh 2 (by omega),(h.fix k hk).has⟩
theorem row_fx {w : World} {base : Nat} {v : Value} {l : List LM.Fx} (h : w.ownsRow base 121 2 v l.length (l.flatMap LM.cellF)) (rb : Option Nat) (hrb : ∀ q,rb = some q -> q < base) : ∃ ao cap,v = .slice ao l.length cap /\ LM.HasFN rb w ao l:=by
 rcases h.2 with ⟨hv,h0⟩ | ⟨g,cap,cur,hv,hbg,hg,hnc,hcm,hcs,htake⟩
 · exact ⟨none,0,by rw [hv,h0],fun hl=>by omega⟩
 · subst hv
   refine ⟨some ⟨g,0,none⟩,cap,rfl,fun hl=>⟨g,0,rfl,B.isLt hg,fun e=>by have:=hrb g e.symm;omega,fun k hk=>?_⟩⟩
   rw [Nat.zero_add]
   have hh : ∀ j,j < 2 -> w.cell? ⟨g,k * 2 + j,none⟩ = (LM.cellF (LM.fxAt l k))[j]?:=fun j hj=>(h.cellAt _ (by omega)).trans (flat_get LM.cellF 2 (fun _=>rfl) LM.fx0 l k j hk hj)
   exact ⟨hh 0 (by omega),hh 1 (by omega)⟩
theorem Rs.more {lo : Nat} {w w' : World} {v : Value} {hs : List LM.Sh} {x : LM.Sh} {g cap : Nat} (h : LM.AllF v.ownBlock w hs) (hx : LM.HasFN v.ownBlock w x.ao x.fixes) (hown : w'.ownsRow lo 62 3 (.slice (some ⟨g,0,none⟩) (hs.length + 1) cap) (hs.length + 1) (hs.flatMap LM.cellH ++ LM.cellH x)) (hg : w.grownBy w' v.ownBlock) (hs' : w.heap.size <= w'.heap.size) (hat : v.ownBlock = some g ∨ g = w.heap.size) :
  Rs lo w' (.slice (some ⟨g,0,none⟩) (hs.length + 1) cap) (hs ++ [x]):=by
 refine ⟨by rw [List.length_append,List.flatMap_append];simpa using hown,fun k hk=>?_⟩
 have e : (Value.slice (some ⟨g,0,none⟩) (hs.length + 1) cap).ownBlock = some g:=rfl
 rw [e]
 rw [List.length_append] at hk
 by_cases hkl : k < hs.length
 · rw [LM.shAt_left hs x k hkl]
   exact (h k hkl).grown hg hs' hat
 · obtain rfl : k = hs.length:=by simp at hk;omega
   rw [LM.shAt_last]
   exact hx.grown hg hs' hat
def OutSh (R : Option (List LM.Sp)) (w : World) (e : Ending) (w' : World) : Prop:=Below w.heap.size w w' /\ match R with
 | none=>e = .returned (.tuple #[.slice none 0 0,.bool false])
 | some E=>∃ (hs : List LM.Sh) (ao : Option Addr) (cap : Nat),hs.map LM.plain = E /\ e = .returned (.tuple #[.slice ao hs.length cap,.bool true]) /\ LM.HasH w' ao hs /\ hs.length <= cap
structure Fr (w : World) (r : Option Nat) (w' : World) (r' : Option Nat) : Prop where
 size : w.heap.size <= w'.heap.size
 block : ∀ b,b < w.heap.size -> some b ≠ r -> w'.heap[b]? = w.heap[b]?
 row : r' = r ∨ ∃ g,r' = some g /\ w.heap.size <= g
theorem Fr.refl (w : World) (r : Option Nat) : Fr w r w r:=⟨Nat.le_refl _,fun _ _ _=>rfl,.inl rfl⟩
theorem Fr.trans {w w1 w2 : World} {r r1 r2 : Option Nat} (h : Fr w r w1 r1) (g : Fr w1 r1 w2 r2) : Fr w r w2 r2:=by
 have hs:=h.size
 refine ⟨Nat.le_trans h.size g.size,fun b hb hr=>?_,?_⟩
 · rw [g.block b (by omega) (fun e=>?_),h.block b hb hr]
   rcases h.row with e1 | ⟨x,e1,e2⟩
   · exact hr (by rw [e,e1])
   · rw [e1] at e
     injection e with e
     omega
 · rcases g.row with e | ⟨x,e1,e2⟩
   · rw [e]
     exact h.row
   · exact .inr ⟨x,e1,by omega⟩
theorem Fr.ofBelow {w w' : World} (h : Below w.heap.size w w') (r : Option Nat) : Fr w r w' r:=⟨h.size,fun b hb _=>h.block b hb,.inl rfl⟩
theorem Fr.ofGrown {w w' : World} {r : Option Nat} {g : Nat} (h : w.grownBy w' r) (hs : w.heap.size <= w'.heap.size) (hat : r = some g ∨ g = w.heap.size) : Fr w r w' (some g) :=
 ⟨hs,fun b hb hr=>h.block b hb hr,by
  rcases hat with e | e
  · exact .inl e.symm
  · exact .inr ⟨g,rfl,by omega⟩⟩
theorem Fr.keep {w w' : World} {r r' : Option Nat} {b : Nat} {o : Obj} (h : Fr w r w' r') (hb : w.heap[b]? = some o) (hr : some b ≠ r) : w'.heap[b]? = some o:=(h.block b (B.isLt hb) hr).trans hb
def HasPN (rb : Option Nat) (w : World) (ao : Option Addr) (l : List LM.Pt) : Prop:=0 < l.length -> ∃ b off,ao = some ⟨b,off,none⟩ /\ b < w.heap.size /\ some b ≠ rb /\ LM.LieP w b off l
theorem HasPN.fr {rb rb' : Option Nat} {w w' : World} {ao : Option Addr} {l : List LM.Pt} (h : HasPN rb w ao l) (hf : Fr w rb w' rb') : LM.HasP w' ao l:=fun hl=>by
 obtain ⟨b,off,h1,h2,h3,h4⟩:=h hl
 exact ⟨b,off,h1,Nat.lt_of_lt_of_le h2 hf.size,fun i hi=>by
  obtain ⟨c0,c1⟩:=h4 i hi
  exact ⟨(World.cell?_of_block (hf.block b h2 h3)).trans c0,(World.cell?_of_block (hf.block b h2 h3)).trans c1⟩⟩
theorem row_ptN {w : World} {base : Nat} {v : Value} {l : List LM.Pt} (h : w.ownsRow base 228 2 v l.length (l.flatMap LM.cellP)) (rb : Option Nat) (hrb : ∀ q,rb = some q -> q < base) : ∃ ao cap,v = .slice ao l.length cap /\ HasPN rb w ao l:=by
 rcases h.2 with ⟨hv,h0⟩ | ⟨g,cap,cur,hv,hbg,hg,hnc,hcm,hcs,htake⟩
 · exact ⟨none,0,by rw [hv,h0],fun hl=>by omega⟩
 · subst hv
   refine ⟨some ⟨g,0,none⟩,cap,rfl,fun hl=>⟨g,0,rfl,B.isLt hg,fun e=>by have:=hrb g e.symm;omega,fun k hk=>?_⟩⟩
   rw [Nat.zero_add]
   have hh : ∀ j,j < 2 -> w.cell? ⟨g,k * 2 + j,none⟩ = (LM.cellP (LM.ptAt l k))[j]?:=fun j hj=>(h.cellAt _ (by omega)).trans (flat_get LM.cellP 2 (fun _=>rfl) LM.pt0 l k j hk hj)
   exact ⟨hh 0 (by omega),hh 1 (by omega)⟩
end LW
namespace LM
open Go.RowKit
def mapSeg (o : Ob) (L : List AM.Ar) (s : M.Sg) : List AM.Ar:=(AW.mapN L (o.base + s.page) s.pages (protN s)).1
def asg (o : Ob) (L : List AM.Ar) : Nat -> List AM.Ar
 | 0=>L
 | k + 1=>mapSeg o (asg o L k) (M.sgAt o.i.segs k)
def aob (l : List Ob) : Nat -> List AM.Ar
 | 0=>[]
 | k + 1=>asg (obAt l k) (aob l k) (obAt l k).i.segs.length
def clr (a : AM.Ar) : AM.Ar:=⟨a.page,a.pages,a.prot,false⟩
def clrTo (L : List AM.Ar) : Nat -> List AM.Ar
 | 0=>L
 | k + 1=>(clrTo L k).set k (clr (AM.at_ (clrTo L k) k))
def areasN (l : List Ob) : List AM.Ar:=(aob l l.length).map clr
theorem fit_asg (o : Ob) (L : List AM.Ar) (h : AW.AllFit L) : ∀ k,AW.AllFit (asg o L k)
 | 0=>h
 | k + 1=>AW.fit_map _ _ _ _
theorem fit_aob (l : List Ob) : ∀ k,AW.AllFit (aob l k)
 | 0=>AW.fit_nil
 | k + 1=>fit_asg _ _ (fit_aob l k) _
theorem clrTo_length (L : List AM.Ar) : ∀ k,(clrTo L k).length = L.length
 | 0=>rfl
 | k + 1=>by simp only [clrTo,List.length_set,clrTo_length L k]
theorem clrTo_get (L : List AM.Ar) : ∀ k,k <= L.length -> ∀ j,(clrTo L k)[j]? = if j < k then L[j]?.map clr else L[j]?
 | 0,_,j=>by simp [clrTo]
 | k + 1,hk,j=>by
  have ih:=clrTo_get L k (by omega)
  have hl:=clrTo_length L k
  have e : AM.at_ (clrTo L k) k = AM.at_ L k:=by
   unfold AM.at_
   rw [List.getD_eq_getElem?_getD,List.getD_eq_getElem?_getD,ih k,if_neg (Nat.lt_irrefl _)]
  simp only [clrTo]
  rw [e,List.getElem?_set]
  by_cases hjk : k = j
  · subst hjk
    rw [if_pos rfl,if_pos (by omega),if_pos (by omega)]
    unfold AM.at_
    rw [List.getD_eq_getElem?_getD,List.getElem?_eq_getElem (by omega)]
    rfl
  · rw [if_neg hjk,ih j]
    by_cases h1 : j < k
    · rw [if_pos h1,if_pos (by omega)]
    · rw [if_neg h1,if_neg (by omega)]
theorem clrTo_all (L : List AM.Ar) : clrTo L L.length = L.map clr:=by
 apply List.ext_getElem?
 intro j
 rw [clrTo_get L _ (Nat.le_refl _) j,List.getElem?_map]
 by_cases h : j < L.length
 · rw [if_pos h]
 · rw [if_neg h,List.getElem?_eq_none (by omega)]
   rfl
theorem areaCells_set (b : Bool) : ∀ (L : List AM.Ar) (k : Nat),k < L.length -> (AM.areaCells L).set (k * 4 + 3) (.bool b) = AM.areaCells (L.set k ⟨(AM.at_ L k).page,(AM.at_ L k).pages,(AM.at_ L k).prot,b⟩)
 | [],k,h=>by simp at h
 | a :: r,0,h=>rfl
 | a :: r,k + 1,h=>by
  have ih:=areaCells_set b r k (by simpa using h)
  show (AM.four a ++ AM.areaCells r).set _ _ = AM.four a ++ AM.areaCells (r.set k _)
  rw [List.set_append_right _ _ (by simp [AM.four];omega)]
  congr 1
  have e : (k + 1) * 4 + 3 - (AM.four a).length = k * 4 + 3:=by simp [AM.four];omega
  rw [e,ih]
  rfl
end LM
namespace LW
open Go.RowKit
open W (hideC)
theorem own_below {lo : Nat} {w w' : World} {v : Value} {l : List AM.Ar} (h : AW.Own lo w v l) (hb : Below w.heap.size w w') : AW.Own lo w' v l:=row_grown h hb
theorem own_slice {lo : Nat} {w : World} {v : Value} {l : List AM.Ar} (h : AW.Own lo w v l) : ∃ ao cap,v = .slice ao l.length cap /\ (0 < l.length -> ∃ g,ao = some ⟨g,0,none⟩):=by
 rcases h.2 with ⟨hv,h0⟩ | ⟨g,cap,cur,hv,_⟩
 · exact ⟨none,0,by rw [hv,h0],fun hl=>by omega⟩
 · exact ⟨_,cap,hv,fun _=>⟨g,rfl⟩⟩
set_option maxHeartbeats 6000000 in
theorem areasOf_any (l : List LM.Ob) (ao : Option Addr) (cap : Nat) (w : World) (h : Oi l ao w) (hl7 : l.length <= 7) :
  Calls Tryz.prog 103 #[.slice ao l.length cap] w fun e w'=>∃ r,e = .returned r /\ AW.Own w.heap.size w' r (LM.areasN l) /\ Below w.heap.size w w':=by
 have HO:=hideC h
 clear h
 go_enter Tryz.func103,Tryz.ntmps103
 go_wp2
 go_loopw [11,3] (fun i v wr=>∃ (a : Nat),a <= l.length /\ i = .int .i64 a /\ AW.Own w.heap.size wr v (LM.aob l a) /\ Below w.heap.size w wr) (fun i _ _=>l.length - (intOf i).toNat)
 case atStart=>exact ⟨0,by omega,rfl,AW.Own.nil _ _,Below.refl _ _⟩
 case round =>
  obtain ⟨a,hal,rfl,hown,hb⟩:=hrel
  have HOW:=hideC hown
  have HBr:=hideC hb
  by_cases hlt : a < l.length
  · have HOr:=hideC (HO.out.below hb)
    obtain ⟨b,off,hao,hbl,hlie⟩:=HOr.out.has (by omega)
    obtain ⟨⟨c0,c1,c2,c3,c4,c5,c6⟩,him⟩:=hlie a hlt
    have hbs:=HO.out.base a hlt
    have hck:=HO.out.chk a hlt
    obtain ⟨b2,off2,hao2,hbl2,hlie2⟩:=HO.out.has (by omega)
    have him2:=(hlie2 a hlt).2
    have HNX : Hid (LM.aob l (a + 1) = LM.asg (LM.obAt l a) (LM.aob l a) (LM.obAt l a).i.segs.length):=rfl
    obtain ⟨o,ho⟩ : ∃ o,o = LM.obAt l a:=⟨_,rfl⟩
    rw [<- ho] at c0 c1 c2 c3 c4 c5 c6 him2 hbs hck HNX
    have HFA:=hideC (LM.fit_aob l a)
    obtain ⟨L,hL⟩ : ∃ L,L = LM.aob l a:=⟨_,rfl⟩
    rw [<- hL] at HOW HNX HFA
    have hcn:=LM.counts_of hck
    have HSB:=hideC (LM.seg_bounds hck)
    obtain ⟨bs,offs,hag,hbls,hlg⟩:=him2.segs (by omega)
    have HLG:=hideC hlg
    rw [hag] at c2
    clear ho hL hlie hb hown him hlg hag him2 hlie2 hao2 hbl2 hck
    subst hao
    have HBA:=hideC (HBr.out.alloc HBr.out.size (.cells #[.string o.i.name,.slice o.a.an o.i.needs.length o.a.cn,.slice (some ⟨bs,offs,none⟩) o.i.segs.length o.a.cg,.slice o.a.ay o.i.syms.length o.a.cy,.slice o.a.ar o.i.rels.length o.a.cr,.int .i64 o.i.entry,.int .i64 o.base] 178))
    have HRA:=hideC ((Below.refl wr.heap.size wr).alloc (Nat.le_refl _) (.cells #[.string o.i.name,.slice o.a.an o.i.needs.length o.a.cn,.slice (some ⟨bs,offs,none⟩) o.i.segs.length o.a.cg,.slice o.a.ay o.i.syms.length o.a.cy,.slice o.a.ar o.i.rels.length o.a.cr,.int .i64 o.i.entry,.int .i64 o.base] 178))
    have BO:=hideC (B.new wr #[.string o.i.name,.slice o.a.an o.i.needs.length o.a.cn,.slice (some ⟨bs,offs,none⟩) o.i.segs.length o.a.cg,.slice o.a.ay o.i.syms.length o.a.cy,.slice o.a.ar o.i.rels.length o.a.cr,.int .i64 o.i.entry,.int .i64 o.base] 178)
    have HOA:=hideC (own_below HOW.out HRA.out)
    go_wp2
    obtain ⟨W1,hW1⟩ : ∃ W1,W1 = wr.alloc (.cells #[.string o.i.name,.slice o.a.an o.i.needs.length o.a.cn,.slice (some ⟨bs,offs,none⟩) o.i.segs.length o.a.cg,.slice o.a.ay o.i.syms.length o.a.cy,.slice o.a.ar o.i.rels.length o.a.cr,.int .i64 o.i.entry,.int .i64 o.base] 178):=⟨_,rfl⟩
    rw [<- hW1] at HBA HRA BO HOA
    rw [<- hW1]
    obtain ⟨ob,hob⟩ : ∃ ob,ob = wr.heap.size:=⟨_,rfl⟩
    rw [<- hob] at BO
    rw [<- hob]
    clear hW1 hob HRA HOW HBr HOr c0 c1 c2 c3 c4 c5 c6 hbl
    go_loopw [19,3] (fun i v wm=>∃ (k : Nat),k <= o.i.segs.length /\ i = .int .i64 k /\ AW.Own w.heap.size wm v (LM.asg o L k) /\ Below w.heap.size w wm /\ Below W1.heap.size W1 wm) (fun i _ _=>o.i.segs.length - (intOf i).toNat)
    case atStart=>exact ⟨0,by omega,rfl,HOA.out,HBA.out,Below.refl _ _⟩
    case round =>
     obtain ⟨k,hk,rfl,hown,hb,hb1⟩:=hrel
     have HOW:=hideC hown
     have HBm:=hideC hb
     have HB1:=hideC hb1
     clear HOA HBA
     by_cases hlk : k < o.i.segs.length
     · obtain ⟨c0,c1,c2,c3,c4⟩:=M.lieG hb hbls HLG.out k hlk
       have hsb:=HSB.out k hlk
       have hbls' : bs < wr.heap.size:=Nat.lt_of_lt_of_le hbls hb.size
       have HFK:=hideC (LM.fit_asg o L HFA.out k)
       have HKX : Hid (LM.asg o L (k + 1) = LM.mapSeg o (LM.asg o L k) (M.sgAt o.i.segs k)):=rfl
       obtain ⟨s,hse⟩ : ∃ s,s = M.sgAt o.i.segs k:=⟨_,rfl⟩
       rw [<- hse] at c0 c1 c2 c3 c4 hsb HKX
       clear hse
       obtain ⟨L2,hL2⟩ : ∃ L2,L2 = LM.asg o L k:=⟨_,rfl⟩
       rw [<- hL2] at HOW HFK HKX
       clear hL2
       obtain ⟨pg,pn,dt,wb,ex⟩:=s
       simp only at c0 c1 c2 c3 c4 hsb
       have HBA:=hideC (HBm.out.alloc HBm.out.size (.cells #[.int .i64 pg,.int .i64 pn,.string dt,.bool wb,.bool ex] 129))
       have HRA:=hideC ((Below.refl wr.heap.size wr).alloc (Nat.le_refl _) (.cells #[.int .i64 pg,.int .i64 pn,.string dt,.bool wb,.bool ex] 129))
       have BS:=hideC (B.new wr #[.int .i64 pg,.int .i64 pn,.string dt,.bool wb,.bool ex] 129)
       have BOA:=hideC (B.alloc (B.below BO.out HB1.out (B.isLt BO.out)) (.cells #[.int .i64 pg,.int .i64 pn,.string dt,.bool wb,.bool ex] 129))
       have HB1A:=hideC (HB1.out.alloc HB1.out.size (.cells #[.int .i64 pg,.int .i64 pn,.string dt,.bool wb,.bool ex] 129))
       have HOWA:=hideC (own_below HOW.out HRA.out)
       clear hown hb hb1
       go_wp2
       obtain ⟨WA,hWA⟩ : ∃ WA,WA = wr.alloc (.cells #[.int .i64 pg,.int .i64 pn,.string dt,.bool wb,.bool ex] 129):=⟨_,rfl⟩
       rw [<- hWA] at HBA BS BOA HB1A HOWA
       rw [<- hWA]
       obtain ⟨sb,hsbe⟩ : ∃ sb,sb = wr.heap.size:=⟨_,rfl⟩
       rw [<- hsbe] at BS
       rw [<- hsbe]
       clear hWA hsbe HRA HOW HBm HB1 c0 c1 c2 c3 c4 hbls'
       have HS : Hid (∀ V,Below WA.heap.size WA V -> V.cell? ⟨ob,6,none⟩ = some (.int .i64 o.base) /\ V.cell? ⟨sb,0,none⟩ = some (.int .i64 pg) /\ V.cell? ⟨sb,1,none⟩ = some (.int .i64 pn) /\ V.cell? ⟨sb,2,none⟩ = some (.string dt) /\ V.cell? ⟨sb,3,none⟩ = some (.bool wb) /\ V.cell? ⟨sb,4,none⟩ = some (.bool ex)):=fun V hb=>by
        have h1:=B.below BOA.out hb (B.isLt BOA.out)
        have h2:=B.below BS.out hb (B.isLt BS.out)
        exact ⟨B.cell h1 6 rfl,B.cell h2 0 rfl,B.cell h2 1 rfl,B.cell h2 2 rfl,B.cell h2 3 rfl,B.cell h2 4 rfl⟩
       have HPR : Hid (∀ V,Calls Tryz.prog 122 #[.agg #[.int .i64 pg,.int .i64 pn,.string dt,.bool wb,.bool ex]] V fun e w'=>e = .returned (.int .i64 (LM.protN ⟨pg,pn,dt,wb,ex⟩)) /\ Below V.heap.size V w'):=fun V=>prot_any ⟨pg,pn,dt,wb,ex⟩ V
       have HMP : Hid (∀ V,Below WA.heap.size WA V -> Calls Tryz.prog 121 #[u3,.int .i64 (o.base + pg),.int .i64 pn,.int .i64 (LM.protN ⟨pg,pn,dt,wb,ex⟩)] V fun e w'=>∃ r,e = .returned (.tuple #[r,.int .i64 (AW.mapN L2 (o.base + pg) pn (LM.protN ⟨pg,pn,dt,wb,ex⟩)).2]) /\ AW.Own V.heap.size w' r (AW.mapN L2 (o.base + pg) pn (LM.protN ⟨pg,pn,dt,wb,ex⟩)).1 /\ Below V.heap.size V w'):=fun V hb=>AW.map_own L2 u3 (o.base + pg) pn _ V (own_below HOWA.out hb).has HFK.out (by unfold AW.I64;omega) (by unfold AW.I64;omega)
       have HMS : Hid (LM.mapSeg o L2 ⟨pg,pn,dt,wb,ex⟩ = (AW.mapN L2 (o.base + pg) pn (LM.protN ⟨pg,pn,dt,wb,ex⟩)).1):=rfl
       obtain ⟨PR,hPR⟩ : ∃ PR,PR = LM.protN ⟨pg,pn,dt,wb,ex⟩:=⟨_,rfl⟩
       rw [<- hPR] at HPR HMP HMS
       obtain ⟨MN,hMN⟩ : ∃ MN,MN = AW.mapN L2 (o.base + pg) pn PR:=⟨_,rfl⟩
       rw [<- hMN] at HMP HMS
       clear hPR hMN
       have hwr : IntKind.i64.wrap (o.base + pg) = o.base + pg:=IntWalk.i64_in _ (by omega)
       have HK0:=hideC (Below.refl WA.heap.size WA).drew
       have HS0:=hideC (HS.out _ HK0.out)
       go_region_held3 (fun V=>V.cell? ⟨ob,6,none⟩ = some (.int .i64 o.base) /\ V.cell? ⟨sb,0,none⟩ = some (.int .i64 pg) /\ V.cell? ⟨sb,1,none⟩ = some (.int .i64 pn) /\ V.cell? ⟨sb,2,none⟩ = some (.string dt) /\ V.cell? ⟨sb,3,none⟩ = some (.bool wb) /\ V.cell? ⟨sb,4,none⟩ = some (.bool ex)) (first | exact HS3.out | exact HS2.out | exact HS0.out)
        (first
         | (go_at_call 122;refine (HPR.out _).mono ?_;rintro e w2 ⟨rfl,hb⟩;have HK2:=hideC (HK0.out.trans (hb.mono HK0.out.size));have HS2:=hideC (HS.out _ HK2.out);clear hb)
         | (go_at_call 121;refine (HMP.out _ HK2.out).mono ?_;rintro e w3 ⟨v8,rfl,hrw,hb⟩;have HK3:=hideC (HK2.out.trans (hb.mono HK2.out.size));have HS3:=hideC (HS.out _ HK3.out);have HR3:=hideC hrw;clear hb hrw))
       go_wp2
       go_roundw
       case rel=>exact ⟨k + 1,by omega,by go_num,by rw [HKX.out,HMS.out];exact HR3.out.mono (Nat.le_trans HBA.out.size HK2.out.size),HBA.out.trans (HK3.out.mono HBA.out.size),HB1A.out.trans (HK3.out.mono HB1A.out.size)⟩
       case measure=>simp [intOf];omega
     · obtain rfl : k = o.i.segs.length:=by omega
       clear hown hb hb1
       go_wp2
       go_roundw
       case rel=>exact ⟨a + 1,by omega,by go_num,by rw [HNX.out];exact HOW.out,HBm.out⟩
       case measure=>simp [intOf];omega
  · obtain rfl : a = l.length:=by omega
    have HAN : Hid (LM.areasN l = LM.clrTo (LM.aob l l.length) (LM.aob l l.length).length):=(LM.clrTo_all _).symm
    have HFA:=hideC (LM.fit_aob l l.length)
    obtain ⟨L,hL⟩ : ∃ L,L = LM.aob l l.length:=⟨_,rfl⟩
    rw [<- hL] at HOW HAN HFA
    have hll:=HFA.out.2
    obtain ⟨ar,cr,hv,hg⟩:=own_slice HOW.out
    subst hv
    have HG:=hideC hg
    clear hown hb hL hg HFA
    go_wp2
    go_loopw [41] (fun i wr=>∃ (k : Nat),k <= L.length /\ i = .int .i64 k /\ AW.Own w.heap.size wr (.slice ar L.length cr) (LM.clrTo L k) /\ Below w.heap.size w wr) (fun i _=>L.length - (intOf i).toNat)
    case atStart=>exact ⟨0,by omega,rfl,HOW.out,HBr.out⟩
    case round =>
     obtain ⟨k,hk,rfl,hown,hb⟩:=hrel
     have HOW2:=hideC hown
     have HBr2:=hideC hb
     clear HOW HBr hown hb
     by_cases hlt : k < L.length
     · obtain ⟨g,hg⟩:=HG.out (by omega)
       subst hg
       have hln:=LM.clrTo_length L k
       have HO4 : Hid (wr.ownsRow w.heap.size 59 4 (.slice (some ⟨g,0,none⟩) L.length cr) L.length (AM.areaCells (LM.clrTo L k))):=by
        have h:=HOW2.out
        unfold AW.Own at h
        rw [hln] at h
        exact h
       have HST:=hideC (HO4.out.stored (k * 4 + 3) (.bool false))
       have HNX : Hid (AM.areaCells (LM.clrTo L (k + 1)) = (AM.areaCells (LM.clrTo L k)).set (k * 4 + 3) (.bool false)):=(LM.areaCells_set false (LM.clrTo L k) k (by omega)).symm
       have hlx:=LM.clrTo_length L (k + 1)
       have HLX:=hideC hlx
       have hgl:=HO4.out.lt g rfl
       have q3:=(HO4.out.cellAt (k * 4 + 3) (by omega)).trans (AM.areaCells_get (LM.clrTo L k) k 3 (by omega) (by omega))
       have qf:=HO4.out.frozenAt (k * 4 + 3)
       clear hln hlx
       go_wp2
       go_roundw
       case rel=>exact ⟨k + 1,by omega,by go_num,by unfold AW.Own;rw [HLX.out,HNX.out];exact HST.out.1,HBr2.out.setCell (by simp;omega) _⟩
       case measure=>simp [intOf];omega
     · obtain rfl : k = L.length:=by omega
       go_wp2
       go_ret
       exact ⟨_,rfl,by rw [HAN.out];exact HOW2.out,HBr2.out⟩
end LW
namespace LM
open Go.RowKit
def cellI (x : Li) : List Value:=(M.cellsI x.a x.i).toList
def linkErr (all : List Li) : Int :=
 if 7 < all.length then 2
 else if byErr all = 0 then
  match gat all all.length 0 [0] with
  | none=>6
  | some ix=>if 256 < endFrom all 1 ix then 3 else
   match sheetsN (obsFrom all 1 ix) with
   | none=>7
   | some _=>0
 else byErr all
theorem byErr_zero {l : List Li} (h : byErr l = 0) : (∀ k,k < l.length -> M.chkN (liAt l k).i = 0) /\ M.onceB (namesL l) = true:=by
 unfold byErr at h
 by_cases e : errTo l l.length = 0
 · rw [if_pos e] at h
   refine ⟨errTo_none l l.length e,?_⟩
   by_cases g : M.onceB (namesL l) = true
   · exact g
   · rw [if_neg g] at h
     cases h
 · rw [if_neg e] at h
   exact (e h).elim
theorem obs_base {all : List Li} (hc : ∀ j,j < all.length -> M.chkN (liAt all j).i = 0) (h7 : all.length <= 7) {ix : List Nat} (ho : OkIx all ix) (k : Nat) (hk : k < (obsFrom all 1 ix).length) : 1 <= (obAt (obsFrom all 1 ix) k).base /\ (obAt (obsFrom all 1 ix) k).base <= 2000:=by
 rw [obsFrom_length] at hk
 rw [(obsFrom_at all ix 1 k hk).2.2]
 have h:=endFrom_bounds all hc (ix.take k) 1 (fun j hj=>ho.lt j (List.mem_of_mem_take hj))
 have h2:=ho.le
 rw [List.length_take] at h
 omega
end LM
end Go.Proofs.YtkdigjpejnebkaaGreat
