import Derived.Test.YtpgifpeohlllfaaGreatGI29
import Derived.Test.YtpgifpeohlllfaaGreatGI11
set_option maxHeartbeats 20000000
set_option linter.unusedVariables false
set_option maxRecDepth 100000
set_option linter.unusedSimpArgs false
namespace Go.Proofs.YtpgifpeohlllfaaGreat
namespace KM
open Go.RowKit
theorem over_size (s : ByteArray) (q : Nat) (t : ByteArray) (h : q + t.size <= s.size) : (CL.over s q t).size = s.size:=by
 have h1 : (CL.over s q t).size = (CL.over s q t).data.toList.length:=by simp
 have h2 : s.size = s.data.toList.length:=by simp
 have h3 : t.size = t.data.toList.length:=by simp
 rw [h1]
 unfold CL.over
 simp only [List.length_append,List.length_take,List.length_drop]
 simp at h2 h3 ⊢
 omega
theorem ext_size (s : ByteArray) (a b : Nat) (h : b <= s.size) (hab : a <= b) : (s.extract a b).size = b - a:=by
 simp [ByteArray.size_extract];omega
theorem pg_two {a n : Int} (h1 : 1 <= n) (h8 : n <= 8) : (lastPg a n = a / 16 /\ a % 16 + n <= 16) ∨ (lastPg a n = a / 16 + 1 /\ 16 < a % 16 + n):=by
 unfold lastPg;omega
structure Pgs (f : Int -> ByteArray) (a n : Int) : Prop where
 one : (f (a / 16)).size = 16
 two : (f (lastPg a n)).size = 16
theorem join_size {f : Int -> ByteArray} {a n : Int} (h : Pgs f a n) (h1 : 1 <= n) (h8 : n <= 8) : ((joinB f a n).size : Int) = if lastPg a n = a / 16 then 16 else 32:=by
 unfold joinB
 split
 · rw [h.one];rfl
 · rw [ByteArray.size_append,h.one,h.two];rfl
theorem join_fit {f : Int -> ByteArray} {a n : Int} (h : Pgs f a n) (h1 : 1 <= n) (h8 : n <= 8) : (a % 16).toNat + n.toNat <= (joinB f a n).size:=by
 have:=join_size h h1 h8
 rcases pg_two (a:=a) h1 h8 with g | g
 · rw [if_pos g.1] at this;omega
 · rw [if_neg (by omega)] at this;omega
theorem laid_size {f : Int -> ByteArray} {a : Int} {d : ByteArray} (h : Pgs f a d.size) (h1 : 1 <= (d.size : Int)) (h8 : (d.size : Int) <= 8) : ((laidB f a d).size : Int) = if lastPg a d.size = a / 16 then 16 else 32:=by
 unfold laidB
 rw [over_size _ _ _ (by have:=join_fit h h1 h8;omega)]
 exact join_size h h1 h8
structure Stored (k : Kn) (j : Nat) (a : Int) (d : ByteArray) (r : Kn) : Prop where
 right : RightK r
 sheets : r.sheets = k.sheets
 nf : r.frames.length = k.frames.length
 ns : r.slots.length = k.slots.length
 np : r.spaces.length = k.spaces.length
 live : ∀ m,m < k.spaces.length -> (spAt r.spaces m).live = (spAt k.spaces m).live
 areas : ∀ m,m < k.spaces.length -> (spAt r.spaces m).areas = (spAt k.spaces m).areas
 peek : ∀ m,m < k.spaces.length -> ∀ p,peekK r m p = if m = j then storeB (peekK k j) a d p else peekK k m p
theorem store_had {k : Kn} (h : RightK k) {j : Nat} (hj : j < k.spaces.length) (a : Int) (d : ByteArray) (hd1 : 1 <= (d.size : Int)) (hd8 : (d.size : Int) <= 8) (h1 : mapped k j (a / 16)) (h2 : mapped k j (lastPg a d.size)) : Stored k j a d (storeK k j a d):=by
 have R:=reach_had h hj a d.size 1 h1 h2
 have A:=reach_alone h hj a d.size h1 h2
 have hP : Pgs (peekK k j) a d.size:=⟨peek_size h hj h1,peek_size h hj h2⟩
 have hL:=laid_size hP hd1 hd8
 have hpg:=pg_two (a:=a) hd1 hd8
 unfold storeK
 rw [reach_join h hj a d.size 1 h1 h2]
 obtain ⟨s,hs⟩ : ∃ s,s = laidB (peekK k j) a d:=⟨_,rfl⟩
 have hs' : CL.over (joinB (peekK k j) a d.size) (a % 16).toNat d = s:=hs.symm
 rw [hs']
 rw [<- hs] at hL
 obtain ⟨K,hK⟩ : ∃ K,K = (reachK k j a d.size 1).2:=⟨_,rfl⟩
 have hr:=R.right
 have hkept:=R.kept
 rw [<- hK] at hr hkept A ⊢
 have hjK : j < K.spaces.length:=by rw [hkept.np];exact hj
 by_cases c : lastPg a d.size = a / 16
 · have e : (reachK k j a d.size 1).1 = [(oneK k j a 1).1]:=by unfold reachK;rw [if_pos c]
   rw [e]
   show Stored k j a d (layD K (oneK k j a 1).1 (s.extract (0 * 16) (0 * 16 + 16)))
   rw [if_pos c] at hL
   have hz : (s.extract (0 * 16) (0 * 16 + 16)).size = 16:=ext_size _ _ _ (by omega) (by omega)
   refine ⟨layD_right hr hjK A.1 hz,hkept.sheets,by show (List.set _ _ _).length = _;rw [List.length_set];exact hkept.nf,hkept.ns,hkept.np,hkept.live,hkept.areas,fun m hm p=>?_⟩
   rw [layD_peek hr hjK A.1 _ (by rw [hkept.np];exact hm)]
   by_cases q : m = j
   · subst q
     rw [if_pos rfl]
     unfold storeB
     by_cases z : p = a / 16
     · rw [if_pos ⟨rfl,z⟩,if_pos z,hs]
     · rw [if_neg (fun x=>z x.2),if_neg z,if_neg (by omega)]
       exact hkept.peek m hm p
   · rw [if_neg (fun x=>q x.1),if_neg q]
     exact hkept.peek m hm p
 · have e : (reachK k j a d.size 1).1 = [(oneK k j a 1).1,(twoB k j a d.size 1).1]:=by unfold reachK;rw [if_neg c]
   rw [e]
   show Stored k j a d (layD (layD K (oneK k j a 1).1 (s.extract (0 * 16) (0 * 16 + 16))) (twoB k j a d.size 1).1 (s.extract (1 * 16) (1 * 16 + 16)))
   rw [if_neg c] at hL
   have hz : (s.extract (0 * 16) (0 * 16 + 16)).size = 16:=ext_size _ _ _ (by omega) (by omega)
   have hy : (s.extract (1 * 16) (1 * 16 + 16)).size = 16:=ext_size _ _ _ (by omega) (by omega)
   have A2:=A.2 c
   have hne:=apart_frames hr hjK hjK A.1.here A2.here c
   have r1:=layD_right hr hjK A.1 hz
   have B : Alone (layD K (oneK k j a 1).1 (s.extract (0 * 16) (0 * 16 + 16))) j (lastPg a d.size) (twoB k j a d.size 1).1:=by
    have at_ : frAt (layD K (oneK k j a 1).1 (s.extract (0 * 16) (0 * 16 + 16))).frames (twoB k j a d.size 1).1 = frAt K.frames (twoB k j a d.size 1).1:=by
     show frAt (List.set _ _ _) _ = _
     rw [frAt_set _ _ _ _ A.1.lt,if_neg hne]
    exact ⟨A2.here,by show _ < (List.set _ _ _).length;rw [List.length_set];exact A2.lt,by rw [at_];exact A2.refs,by rw [at_];exact A2.dirty⟩
   refine ⟨layD_right r1 hjK B hy,hkept.sheets,by show (List.set (List.set _ _ _) _ _).length = _;rw [List.length_set,List.length_set];exact hkept.nf,hkept.ns,hkept.np,hkept.live,hkept.areas,fun m hm p=>?_⟩
   have hmK : m < K.spaces.length:=by rw [hkept.np];exact hm
   rw [layD_peek r1 hjK B _ (m:=m) hmK,layD_peek hr hjK A.1 _ hmK]
   by_cases q : m = j
   · subst q
     rw [if_pos rfl]
     unfold storeB
     by_cases z : p = a / 16
     · rw [if_neg (fun x=>c (x.2.symm.trans z)),if_pos ⟨rfl,z⟩,if_pos z,hs]
     · rw [if_neg z]
       by_cases y : p = lastPg a d.size
       · rw [if_pos ⟨rfl,y⟩,if_pos y,hs]
       · rw [if_neg (fun x=>y x.2),if_neg (fun x=>z x.2),if_neg y]
         exact hkept.peek m hm p
   · rw [if_neg (fun x=>q x.1),if_neg (fun x=>q x.1),if_neg q]
     exact hkept.peek m hm p
end KM
namespace LM
open Go.RowKit
def symIx (l : List M.Sy) (s : ByteArray) : Option Nat:=l.findIdx? (fun y=>decide (y.name = s))
def symN (o : Ob) (s : ByteArray) : Option Int:=match symIx o.i.syms s with
 | none=>none
 | some k=>some (addrO o (M.syAt o.i.syms k).pos)
def tgtTo (l : List Ob) (s : ByteArray) : Nat -> Option Int
 | 0=>none
 | k + 1=>match tgtTo l s k with
  | some t=>some t
  | none=>symN (obAt l k) s
def tgtN (l : List Ob) (o : Ob) (s : ByteArray) : Option Int:=if s = ⟨#[]⟩ then some (addrO o 0) else tgtTo l s l.length
theorem places_of {i : M.Im} (hc : M.chkN i = 0) : M.placesB i = true:=by
 unfold M.chkN at hc
 split at hc
 · simp at hc
 · split at hc
   · simp at hc
   · split at hc
     · simp at hc
     · split at hc
       · simp at hc
       · split at hc
         · simp at hc
         · rename_i h
           simpa using h
theorem segIn_mem : ∀ {l : List M.Sg} {a : Int} {s : M.Sg},M.segIn l a = some s -> (∃ k,k < l.length /\ M.sgAt l k = s) /\ M.inSeg s a = true
 | [],a,s,h=>by cases h
 | x :: r,a,s,h=>by
  simp only [M.segIn] at h
  split at h
  · rename_i hi
    injection h with h
    subst h
    exact ⟨⟨0,by simp,rfl⟩,hi⟩
  · obtain ⟨⟨k,hk,e⟩,hi⟩:=segIn_mem h
    exact ⟨⟨k + 1,by simpa using hk,by simpa [M.sgAt] using e⟩,hi⟩
theorem placed_bounds {i : M.Im} (hc : M.chkN i = 0) {a : Int} (h : M.placedB i.segs a = true) : 0 <= a /\ a < 4080:=by
 unfold M.placedB at h
 obtain ⟨s,hs⟩:=Option.isSome_iff_exists.1 h
 obtain ⟨⟨k,hk,e⟩,hi⟩:=segIn_mem hs
 have hb:=seg_bounds hc k hk
 rw [e] at hb
 unfold M.inSeg at hi
 have:=of_decide_eq_true hi
 omega
theorem relsTo_at (i : M.Im) : ∀ n,M.relsTo i n = true -> ∀ k,k < n -> M.relAt i k = true
 | 0,_,k,hk=>by omega
 | n + 1,h,k,hk=>by
  simp only [M.relsTo,Bool.and_eq_true] at h
  by_cases e : k = n
  · subst e;exact h.2
  · exact relsTo_at i n h.1 k (by omega)
theorem rel_at {i : M.Im} (hc : M.chkN i = 0) (k : Nat) (hk : k < i.rels.length) : M.relAt i k = true:=by
 have h:=places_of hc
 unfold M.placesB at h
 simp only [Bool.and_eq_true] at h
 exact relsTo_at i i.rels.length h.2.1 k hk
theorem rel_bounds {i : M.Im} (hc : M.chkN i = 0) (k : Nat) (hk : k < i.rels.length) : 0 <= (M.rlAt i.rels k).pos /\ (M.rlAt i.rels k).pos + 7 < 4080:=by
 have h:=rel_at hc k hk
 unfold M.relAt M.wholeB at h
 simp only [Bool.and_eq_true] at h
 have h0:=placed_bounds hc h.2.1
 have h7:=placed_bounds hc h.2.2.2.2.2.2.2.2
 omega
theorem entry_bounds {i : M.Im} (hc : M.chkN i = 0) : 0 <= i.entry /\ i.entry < 4080:=by
 have h:=places_of hc
 unfold M.placesB at h
 simp only [Bool.and_eq_true] at h
 have he:=h.2.2
 unfold M.entryB at he
 refine placed_bounds hc ?_
 unfold M.placedB
 cases e : M.segIn i.segs i.entry with
 | none=>rw [e] at he;cases he
 | some s=>rfl
def ptOf (o : Ob) (r : M.Rl) (t : Int) : Pt:=⟨addrO o r.pos,⟨(Lib.leBytes 8 (CM.low (t + r.add))).toArray⟩⟩
def patTo (l : List Ob) (o : Ob) : Nat -> Option (List Pt)
 | 0=>some []
 | k + 1=>match patTo l o k with
  | none=>none
  | some ps=>match tgtN l o (M.rlAt o.i.rels k).name with
   | none=>none
   | some t=>some (ps ++ [ptOf o (M.rlAt o.i.rels k) t])
def patN (l : List Ob) (o : Ob) : Option (List Pt):=patTo l o o.i.rels.length
theorem patTo_len {l : List Ob} {o : Ob} : ∀ {k : Nat} {ps : List Pt},patTo l o k = some ps -> ps.length = k
 | 0,ps,h=>by simp only [patTo] at h;injection h with h;subst h;rfl
 | k + 1,ps,h=>by
  simp only [patTo] at h
  cases e : patTo l o k with
  | none=>rw [e] at h;cases h
  | some qs =>
   rw [e] at h
   simp only at h
   cases g : tgtN l o (M.rlAt o.i.rels k).name with
   | none=>rw [g] at h;cases h
   | some t =>
    rw [g] at h
    simp only at h
    injection h with h
    subst h
    rw [List.length_append,patTo_len e]
    rfl
structure Sp where
 page : Int
 data : ByteArray
 fixes : List Fx
def plain (s : Sh) : Sp:=⟨s.page,s.data,s.fixes⟩
def pgN (o : Ob) (ps : List Pt) (s : M.Sg) (m : Nat) : Sp:=⟨o.base + s.page + (m : Int),pageN s m,fixesN (o.base + s.page + (m : Int)) ps⟩
def pgsTo (o : Ob) (ps : List Pt) (s : M.Sg) (n : Nat) : List Sp:=(List.range n).map (pgN o ps s)
def sgsTo (o : Ob) (ps : List Pt) : Nat -> List Sp
 | 0=>[]
 | k + 1=>sgsTo o ps k ++ pgsTo o ps (M.sgAt o.i.segs k) (M.sgAt o.i.segs k).pages.toNat
def obsTo (l : List Ob) : Nat -> Option (List Sp)
 | 0=>some []
 | k + 1=>match obsTo l k with
  | none=>none
  | some E=>match patN l (obAt l k) with
   | none=>none
   | some ps=>some (E ++ sgsTo (obAt l k) ps (obAt l k).i.segs.length)
def sheetsN (l : List Ob) : Option (List Sp):=obsTo l l.length
theorem pgsTo_succ (o : Ob) (ps : List Pt) (s : M.Sg) (n : Nat) : pgsTo o ps s (n + 1) = pgsTo o ps s n ++ [pgN o ps s n]:=by
 unfold pgsTo
 rw [List.range_succ,List.map_append]
 rfl
theorem obsTo_none {l : List Ob} {k : Nat} (h : obsTo l k = none) : ∀ n,k <= n -> obsTo l n = none
 | 0, hn => by obtain rfl : k = 0 := by omega
               exact h
 | n + 1,hn=>by
  by_cases e : k = n + 1
  · subst e;exact h
  · simp only [obsTo]
    rw [obsTo_none h n (by omega)]
theorem pat_fit {l : List Ob} {o : Ob} (hc : M.chkN o.i = 0) (h0 : 1 <= o.base) (h1 : o.base <= 2000) : ∀ (k : Nat) (ps : List Pt),k <= o.i.rels.length -> patTo l o k = some ps -> ∀ j,j < ps.length -> FitP (ptAt ps j)
 | 0,ps,_,h,j,hj=>by simp only [patTo] at h;injection h with h;subst h;simp at hj
 | k + 1,ps,hk,h,j,hj=>by
  simp only [patTo] at h
  cases e : patTo l o k with
  | none=>rw [e] at h;cases h
  | some qs =>
   rw [e] at h
   simp only at h
   cases g : tgtN l o (M.rlAt o.i.rels k).name with
   | none=>rw [g] at h;cases h
   | some t =>
    rw [g] at h
    simp only at h
    injection h with h
    subst h
    rw [List.length_append] at hj
    by_cases hjq : j < qs.length
    · have:=pat_fit hc h0 h1 k qs (by omega) e j hjq
      unfold ptAt at this ⊢
      rw [List.getD_eq_getElem?_getD,List.getElem?_append_left hjq,<- List.getD_eq_getElem?_getD]
      exact this
    · have hje : j = qs.length:=by simp at hj;omega
      subst hje
      unfold ptAt
      rw [List.getD_eq_getElem?_getD,List.getElem?_append_right (Nat.le_refl _),Nat.sub_self]
      have hb:=rel_bounds hc k (by omega)
      refine ⟨?_,?_,?_⟩
      · show 0 <= o.base * 16 + (M.rlAt o.i.rels k).pos
        omega
      · show o.base * 16 + (M.rlAt o.i.rels k).pos <= 1000000
        omega
      · show (⟨(Lib.leBytes 8 (CM.low (t + (M.rlAt o.i.rels k).add))).toArray⟩ : ByteArray).size = 8
        rw [Lib.size_eq]
        simp [Lib.leBytes]
def HasFN (rb : Option Nat) (w : World) (ao : Option Addr) (l : List Fx) : Prop:=0 < l.length -> ∃ b off,ao = some ⟨b,off,none⟩ /\ b < w.heap.size /\ some b ≠ rb /\ LieF w b off l
theorem HasFN.has {rb : Option Nat} {w : World} {ao : Option Addr} {l : List Fx} (h : HasFN rb w ao l) : HasF w ao l:=fun hl=>by
 obtain ⟨b,off,h1,h2,_,h3⟩:=h hl
 exact ⟨b,off,h1,h2,h3⟩
theorem HasFN.below {rb : Option Nat} {w w' : World} {ao : Option Addr} {l : List Fx} (h : HasFN rb w ao l) (hb : Below w.heap.size w w') : HasFN rb w' ao l:=fun hl=>by
 obtain ⟨b,off,h1,h2,h3,h4⟩:=h hl
 exact ⟨b,off,h1,Nat.lt_of_lt_of_le h2 hb.size,h3,lieF hb h2 h4⟩
theorem lieF_block {w w' : World} {b off : Nat} {l : List Fx} (h : LieF w b off l) (hb : w'.heap[b]? = w.heap[b]?) : LieF w' b off l:=fun i hi=>by
 obtain ⟨c0,c1⟩:=h i hi
 exact ⟨(World.cell?_of_block hb).trans c0,(World.cell?_of_block hb).trans c1⟩
theorem HasFN.grown {rb : Option Nat} {w w' : World} {ao : Option Addr} {l : List Fx} {g : Nat} (h : HasFN rb w ao l) (hg : w.grownBy w' rb) (hs : w.heap.size <= w'.heap.size) (hat : rb = some g ∨ g = w.heap.size) : HasFN (some g) w' ao l:=fun hl=>by
 obtain ⟨b,off,h1,h2,h3,h4⟩:=h hl
 refine ⟨b,off,h1,Nat.lt_of_lt_of_le h2 hs,fun e=>?_,lieF_block h4 (hg.block b h2 h3)⟩
 injection e with e
 rcases hat with hat | hat
 · exact h3 (by rw [hat,e])
 · omega
def AllF (rb : Option Nat) (w : World) (hs : List Sh) : Prop:=∀ k,k < hs.length -> HasFN rb w (shAt hs k).ao (shAt hs k).fixes
def cellH (s : Sh) : List Value:=[.int .i64 s.page,.string s.data,.slice s.ao s.fixes.length s.cap]
theorem shAt_left (l : List Sh) (x : Sh) (k : Nat) (h : k < l.length) : shAt (l ++ [x]) k = shAt l k:=by
 unfold shAt
 rw [List.getD_eq_getElem?_getD,List.getElem?_append_left h,<- List.getD_eq_getElem?_getD]
theorem shAt_last (l : List Sh) (x : Sh) : shAt (l ++ [x]) l.length = x:=by
 unfold shAt
 rw [List.getD_eq_getElem?_getD,List.getElem?_append_right (Nat.le_refl _)]
 simp
end LM
namespace KM
open Go.RowKit
def Same (xs ys : List LM.Sh) : Prop:=ys.map LM.plain = xs.map LM.plain
def withS (k : Kn) (hs : List LM.Sh) : Kn:=⟨hs,k.frames,k.slots,k.spaces,k.hand⟩
theorem Same.len {xs ys : List LM.Sh} (h : Same xs ys) : ys.length = xs.length:=by
 have:=congrArg List.length h
 simpa using this
theorem plain_eq {a b : LM.Sh} (h : LM.plain a = LM.plain b) : a.page = b.page /\ a.data = b.data /\ a.fixes = b.fixes:=by
 injection h with h1 h2 h3
 exact ⟨h1,h2,h3⟩
theorem Same.at {xs ys : List LM.Sh} (h : Same xs ys) (i : Nat) : LM.plain (LM.shAt ys i) = LM.plain (LM.shAt xs i):=by
 unfold Same at h
 unfold LM.shAt
 have h1 : (ys.map LM.plain)[i]? = (xs.map LM.plain)[i]?:=by rw [h]
 rw [List.getElem?_map,List.getElem?_map] at h1
 rw [List.getD_eq_getElem?_getD,List.getD_eq_getElem?_getD]
 cases g1 : ys[i]? with
 | none =>
  cases g2 : xs[i]? with
  | none=>rfl
  | some x=>rw [g1,g2] at h1;cases h1
 | some y =>
  cases g2 : xs[i]? with
  | none=>rw [g1,g2] at h1;cases h1
  | some x =>
   rw [g1,g2] at h1
   injection h1
theorem same_fillS {a b : LM.Sh} (h : LM.plain a = LM.plain b) : LM.fillS a = LM.fillS b:=by
 obtain ⟨h1,h2,h3⟩:=plain_eq h
 unfold LM.fillS
 rw [h2,h3]
theorem same_sheet {a b : LM.Sh} (h : LM.plain a = LM.plain b) : LM.sheetB a = LM.sheetB b:=by
 obtain ⟨h1,h2,h3⟩:=plain_eq h
 unfold LM.sheetB LM.headB
 rw [h1,h2,h3]
theorem same_for (p : Int) : ∀ (xs ys : List LM.Sh),Same xs ys -> (sheetFor ys p).map LM.plain = (sheetFor xs p).map LM.plain
 | [],[],_=>rfl
 | [],b :: r,h=>by have:=congrArg List.length h;simp at this
 | a :: r,[],h=>by have:=congrArg List.length h;simp at this
 | a :: r,b :: t,h=>by
  have h : LM.plain b :: t.map LM.plain = LM.plain a :: r.map LM.plain:=h
  injection h with h1 h2
  have ih:=same_for p r t h2
  have hp:=(plain_eq h1).1
  unfold sheetFor at ih ⊢
  rw [List.find?_cons,List.find?_cons,hp]
  cases decide (a.page = p) with
  | true=>exact congrArg some h1
  | false=>exact ih
theorem same_filled {xs ys : List LM.Sh} (h : Same xs ys) (p : Int) : filled ys p = filled xs p:=by
 have:=same_for p xs ys h
 unfold filled
 cases g1 : sheetFor ys p with
 | none =>
  cases g2 : sheetFor xs p with
  | none=>rfl
  | some x=>rw [g1,g2] at this;cases this
 | some y =>
  cases g2 : sheetFor xs p with
  | none=>rw [g1,g2] at this;cases this
  | some x =>
   rw [g1,g2] at this
   injection this with this
   exact same_fillS this
theorem same_some {xs ys : List LM.Sh} (h : Same xs ys) (p : Int) : (sheetFor ys p).isSome = (sheetFor xs p).isSome:=by
 have:=congrArg Option.isSome (same_for p xs ys h)
 simpa using this
theorem same_fillK {xs ys : List LM.Sh} (h : Same xs ys) (p : Int) (z : Bool) : fillK ys p z = fillK xs p z:=by
 unfold fillK
 rw [same_filled h]
theorem same_rise {xs ys : List LM.Sh} (h : Same xs ys) : LM.riseB ys = LM.riseB xs:=by
 have : ∀ n,LM.riseTo ys n = LM.riseTo xs n:=fun n=>by
  induction n with
  | zero=>rfl
  | succ n ih =>
   unfold LM.riseTo
   rw [ih,same_sheet (h.at n)]
   unfold LM.riseAt
   rw [(plain_eq (h.at n)).1,(plain_eq (h.at (n - 1))).1]
 unfold LM.riseB
 rw [h.len,this]
theorem RightK.withS {k : Kn} (h : RightK k) {hs : List LM.Sh} (s : Same k.sheets hs) : RightK (withS k hs):=by
 refine ⟨?_,(same_rise s).trans h.rise,h.hand,fun x hx=>?_,h.room,fun i hi=>?_,h.slt⟩
 · have:=h.c
   have e:=s.len
   refine decide_eq_true ?_
   show (3 <= k.frames.length /\ k.frames.length <= 64) /\ k.slots.length <= 512 /\ (1 <= k.spaces.length /\ k.spaces.length <= 4) /\ hs.length <= 255
   omega
 · have g:=h.each x hx
   exact ⟨g.dead,g.areas,g.rise,g.ent,fun p h1 h2=>(same_some s p).trans (g.sheets p h1 h2)⟩
 · have g:=h.frm i hi
   exact ⟨g.refs,g.zero,g.one,g.size,fun d x hx=>(g.fill d x hx).trans (same_fillK s _ _).symm⟩
theorem aside_withS (k : Kn) (hs : List LM.Sh) (i : Nat) : asideK (withS k hs) i = withS (asideK k i) hs:=by
 unfold asideK
 show (if (frAt k.frames i).dirty = true then (match freeS k.slots with
  | some s=>swapA (withS k hs) i s
  | none=>dropA (withS k hs) i) else dropA (withS k hs) i) = _
 by_cases c : (frAt k.frames i).dirty = true
 · rw [if_pos c,if_pos c]
   cases freeS k.slots <;> rfl
 · rw [if_neg c,if_neg c];rfl
theorem clock_withS (held : List Int) (hs : List LM.Sh) : ∀ (n : Nat) (k : Kn),clockN held n (withS k hs) = withS (clockN held n k) hs
 | 0,k=>rfl
 | n + 1,k=>by
  unfold clockN
  show (if passB held k = true then clockN held n (withS (stepH held k) hs) else withS k hs) = _
  by_cases c : passB held k = true
  · rw [if_pos c,if_pos c];exact clock_withS held hs n _
  · rw [if_neg c,if_neg c]
theorem get_withS (k : Kn) (hs : List LM.Sh) (held : List Int) : getK (withS k hs) held = ((getK k held).1,withS (getK k held).2 hs):=by
 unfold getK
 show (match freeF k.frames with
  | some i=>(i,withS k hs)
  | none=>_) = _
 cases freeF k.frames with
 | some i=>rfl
 | none =>
  show (_,_) = (_,_)
  rw [clock_withS,show (withS (clockN held 70 k) hs).hand = (clockN held 70 k).hand from rfl,aside_withS]
  rfl
theorem leave_withS (k : Kn) (hs : List LM.Sh) (e : En) : leaveK (withS k hs) e = withS (leaveK k e) hs:=by unfold leaveK;split <;> rfl
theorem move_withS (k : Kn) (hs : List LM.Sh) (j : Nat) (p : Int) (i : Nat) (d : ByteArray) (dy : Bool) : moveTo (withS k hs) j p i d dy = withS (moveTo k j p i d dy) hs:=by
 unfold moveTo
 show (match entOf (spAt k.spaces j).ents p with
  | none=>_
  | some e=>_) = _
 cases entOf (spAt k.spaces j).ents p with
 | none=>rfl
 | some e=>exact leave_withS (enterK (layK k i d dy) j ⟨p,1,i⟩) hs e
theorem present_withS {k : Kn} (h : RightK k) {held : List Int} (hl : held.length <= 2) {hs : List LM.Sh} (s : Same k.sheets hs) (j : Nat) (p : Int) : presentK (withS k hs) j p held = ((presentK k j p held).1,withS (presentK k j p held).2 hs):=by
 have hsh:=(get_got h hl).kept.sheets
 unfold presentK
 show (match entOf (spAt k.spaces j).ents p with
  | some e=>_
  | none=>_) = _
 rw [get_withS]
 cases entOf (spAt k.spaces j).ents p with
 | none =>
  dsimp only
  rw [move_withS]
  show (_,withS (moveTo _ _ _ _ (fillK hs p _) _) hs) = _
  rw [same_fillK s,hsh]
  rfl
 | some e =>
  dsimp only
  by_cases c : e.kind = 1
  · rw [if_pos c,if_pos c]
  · rw [if_neg c,if_neg c,move_withS]
    rfl
theorem alone_withS (k : Kn) (hs : List LM.Sh) (held : List Int) (j : Nat) (p : Int) (a : Nat) : aloneK (withS k hs) j p a held = ((aloneK k j p a held).1,withS (aloneK k j p a held).2 hs):=by
 unfold aloneK
 rw [get_withS]
 by_cases c : (frAt k.frames a).refs = 1
 · rw [if_pos c,if_pos (show (frAt (withS k hs).frames a).refs = 1 from c)]
 · rw [if_neg c,if_neg (show ¬ (frAt (withS k hs).frames a).refs = 1 from c),move_withS]
   rfl
theorem bring_withS {k : Kn} (h : RightK k) {held : List Int} (hl : held.length <= 2) {hs : List LM.Sh} (s : Same k.sheets hs) (j : Nat) (p way : Int) : bringK (withS k hs) j p way held = ((bringK k j p way held).1,withS (bringK k j p way held).2 hs):=by
 have e : twoK (withS k hs) j p way held = ((twoK k j p way held).1,withS (twoK k j p way held).2 hs):=by
  unfold twoK
  rw [present_withS h hl s]
  by_cases c : way = 1
  · rw [if_pos c,if_pos c]
    exact alone_withS _ _ _ _ _ _
  · rw [if_neg c,if_neg c]
 unfold bringK
 rw [e]
 rfl
theorem reach_withS {k : Kn} (h : RightK k) {j : Nat} (hj : j < k.spaces.length) {a n way : Int} (h1 : mapped k j (a / 16)) {hs : List LM.Sh} (s : Same k.sheets hs) : reachK (withS k hs) j a n way = ((reachK k j a n way).1,withS (reachK k j a n way).2 hs):=by
 have A:=(bring_had h hj h1 way (held:=[]) (by simp)).1
 have e1 : oneK (withS k hs) j a way = ((oneK k j a way).1,withS (oneK k j a way).2 hs):=bring_withS h (by simp) s j _ way
 have e2 : twoB (withS k hs) j a n way = ((twoB k j a n way).1,withS (twoB k j a n way).2 hs):=by
  unfold twoB
  rw [e1]
  have s2 : Same (oneK k j a way).2.sheets hs:=by
   have : (oneK k j a way).2.sheets = k.sheets:=A.kept.sheets
   rw [this];exact s
  exact bring_withS A.right (by simp) s2 j _ way
 unfold reachK
 rw [e1,e2]
 by_cases c : lastPg a n = a / 16
 · rw [if_pos c,if_pos c]
 · rw [if_neg c,if_neg c]
theorem part_withS (k : Kn) (hs : List LM.Sh) (ids : List Nat) (s : ByteArray) : ∀ n,partTo (withS k hs) ids s n = withS (partTo k ids s n) hs
 | 0=>rfl
 | n + 1=>by
  unfold partTo
  rw [part_withS k hs ids s n]
  rfl
theorem count_withS (k : Kn) (hs : List LM.Sh) (e : En) (d : Int) : countK (withS k hs) e d = withS (countK k e d) hs:=by unfold countK;split <;> rfl
end KM
namespace KX
open Go.RowKit GK KO
open FW (hideC add_below)
open KW (cellFr cellSl cellEn HasRow KAt HasK cellsK aggEn cellI entryN)
open KS (Lc cellLc lc0 lcAt blk SpOwn)
theorem present_any {lo mb : Nat} {tt : TypeId} {X : List Value} (k : KM.Kn) (S : St) (w : World) (j : Nat) (p : Int) (held : List Int) (ah : Option Addr) (ch : Nat) (h : Km lo mb tt X w S k) (hR : KM.RightK k) (hj : j < k.spaces.length) (hp : KM.mapped k j p) (hX : FilX X k.sheets) (hl : held.length <= 2) (hH : Held w S ah held) :
  Calls Tryz.prog 141 #[.pointer (some ⟨mb,0,none⟩),.int .i64 (j : Int),.int .i64 p,.slice ah held.length ch] w (OutM lo mb tt X w S (.int .i64 ((KM.presentK k j p held).1 : Int)) (KM.presentK k j p held).2):=by
 cases he : KM.entOf (KM.spAt k.spaces j).ents p with
 | none=>exact present_none k S w j p held ah ch h hR hj he hp hX hl hH
 | some e =>
  by_cases hk : e.kind = 1
  · exact present_here k S w j p held ah ch e h hR hj he hk
  · exact present_swapped k S w j p held ah ch e h hR hj he hk hl hH
theorem ints_one : ∀ l : List Int,∀ u ∈ l.flatMap cellI,u.oneCell' = true:=fun l u hu=>by
 obtain ⟨y,_,hy⟩:=List.mem_flatMap.1 hu
 simp [cellI] at hy
 rw [hy];rfl
theorem ints_from {w : World} {ah : Option Addr} {l : List Int} (h : HasRow cellI 1 0 w ah l) : From w ah l.length (l.flatMap cellI):=fun hm=>by
 obtain ⟨b,off,rfl,hb,hl⟩:=h hm
 exact KS.from_rows (w:=w) cellI 1 (fun _=>rfl) 0 l b off (fun i hi j hj=>hl i hi j hj) hm
theorem held_row {w : World} {base : Nat} {S : St} {ao : Option Addr} {n c : Nat} {l : List Int} (hr : w.ownsRow base 3 1 (.slice ao n c) l.length (l.flatMap cellI)) (hno : ∀ b,blk (.slice ao n c) b -> S.lab b = .no) : n = l.length /\ Held w S ao l:=by
 obtain ⟨a,cap,e,_,hrow⟩:=row_has cellI (fun _=>rfl) 0 hr
 injection e with e1 e2 e3
 subst e1 e2
 refine ⟨rfl,hrow,fun b off e=>?_,fun b off e=>?_⟩
 · subst e
   refine hno b ?_
   rcases hr.2 with ⟨h0,_⟩ | ⟨g,cap',cur,hv,_⟩
   · cases h0
   · injection hv with e1 _ _
     injection e1 with e1
     injection e1 with e1 e2 _
     subst e1 e2
     rfl
 · subst e
   rcases hr.2 with ⟨h0,_⟩ | ⟨g,cap',cur,hv,_,hg,_⟩
   · cases h0
   · injection hv with e1 _ _
     injection e1 with e1
     injection e1 with e1 _ _
     subst e1
     exact B.isLt hg
set_option maxHeartbeats 16000000 in
theorem alone_any {lo mb : Nat} {tt : TypeId} {X : List Value} (k : KM.Kn) (S : St) (w : World) (j : Nat) (p : Int) (a : Nat) (held : List Int) (ah : Option Addr) (ch : Nat) (h : Km lo mb tt X w S k) (hR : KM.RightK k) (hj : j < k.spaces.length) (ha : KM.entOf (KM.spAt k.spaces j).ents p = some ⟨p,1,a⟩) (hl : held.length <= 1) (hH : Held w S ah held) :
  Calls Tryz.prog 142 #[.pointer (some ⟨mb,0,none⟩),.int .i64 (j : Int),.int .i64 p,.int .i64 (a : Int),.slice ah held.length ch] w (OutM lo mb tt X w S (.int .i64 ((KM.aloneK k j p a held).1 : Int)) (KM.aloneK k j p a held).2):=by
 have hcc:=hR.c
 have hne:=KM.held_ne hR hj ha
 obtain ⟨fb,cF,A⟩:=h.toKr.fr (by omega)
 have c1:=h.c1
 rw [A.v] at c1
 have x1:=A.x1 a hne.1
 have hai : (a : Int) < (k.frames.length : Int):=by omega
 by_cases c : (KM.frAt k.frames a).refs = 1
 · have hP : KM.aloneK k j p a held = (a,k):=by unfold KM.aloneK;rw [if_pos c]
   rw [hP]
   have HFIN : Hid (OutM lo mb tt X w S (.int .i64 (a : Int)) k (.returned (.int .i64 (a : Int))) w):=⟨rfl,S,h,Ch.refl _ _⟩
   obtain ⟨P,hP2⟩ : ∃ P,P = OutM lo mb tt X w S (.int .i64 (a : Int)) k:=⟨_,rfl⟩
   rw [<- hP2] at HFIN ⊢
   rw [c] at x1
   obtain ⟨nf,hnf⟩ : ∃ nf,nf = k.frames.length:=⟨_,rfl⟩
   rw [<- hnf] at c1 hai
   clear hP hP2 c h hR hj ha hH hl A hne hcc hnf
   go_enter Tryz.func142,Tryz.ntmps142
   go_wp2
   exact HFIN.out
 · have hl2 : (held ++ [(a : Int)]).length <= 2:=by rw [List.length_append,List.length_singleton];omega
   have G:=KM.get_got hR hl2
   have hH1:=G.heldF a (List.mem_append.2 (.inr (by simp))) hne.2
   have hent : KM.entOf (KM.spAt (KM.getK k (held ++ [(a : Int)])).2.spaces j).ents p = some ⟨p,1,a⟩:=G.stay hR hj ha (fun _=>List.mem_append.2 (.inr (by simp)))
   obtain ⟨k1,hk1⟩ : ∃ k1,k1 = (KM.getK k (held ++ [(a : Int)])).2:=⟨_,rfl⟩
   obtain ⟨i,hi⟩ : ∃ i,i = (KM.getK k (held ++ [(a : Int)])).1:=⟨_,rfl⟩
   have hP : KM.aloneK k j p a held = (i,KM.moveTo k1 j p i (KM.frAt k1.frames a).data true):=by
    unfold KM.aloneK
    rw [if_neg c,hk1,hi]
   have hGT : ∀ V S',Km lo mb tt X V S' k -> ∀ ah' ch',Held V S' ah' (held ++ [(a : Int)]) -> Calls Tryz.prog 165 #[.pointer (some ⟨mb,0,none⟩),.slice ah' (held ++ [(a : Int)]).length ch'] V (OutM lo mb tt X V S' (.int .i64 (i : Int)) k1):=fun V S' hV ah' ch' hh=>by
    have:=get_any k S' V (held ++ [(a : Int)]) ah' ch' hV hR hl2 hh
    rw [<- hk1,<- hi] at this
    exact this
   rw [<- hk1] at hent hH1
   rw [<- hi] at hH1
   have hj1 : j < k1.spaces.length:=by have:=G.kept.np;rw [<- hk1] at this;rw [this];exact hj
   have hnf1 : k1.frames.length = k.frames.length:=by have:=G.kept.nf;rw [<- hk1] at this;exact this
   have hi1 : i < k1.frames.length:=by rw [hnf1,hi];exact G.lt
   have ha1 : a < k1.frames.length:=by rw [hnf1];exact hne.1
   have hR1 : KM.RightK k1:=by have:=G.right;rw [<- hk1] at this;exact this
   have hen1:=ents_few hR1 hj1
   have hcc1:=hR1.c
   have hrf:=(refs_few hR1).1 a ha1
   obtain ⟨D,hD⟩ : ∃ D,D = (KM.frAt k1.frames a).data:=⟨_,rfl⟩
   have hai2 : i ≠ a:=fun e=>hH1.1 e.symm
   have hfa : KM.frAt (KM.layK k1 i D true).frames a = KM.frAt k1.frames a:=by
    show KM.frAt (k1.frames.set i _) a = _
    rw [KM.frAt_set _ _ _ _ hi1,if_neg hai2]
   have hra : ¬ (KM.frAt k1.frames a).refs - 1 = 0:=by rw [hH1.2];omega
   obtain ⟨K2,hK2⟩ : ∃ K2 : KM.Kn,K2 = { KM.layK k1 i D true with frames:=(KM.layK k1 i D true).frames.set a ⟨(KM.frAt k1.frames a).data,(KM.frAt k1.frames a).refs - 1,(KM.frAt k1.frames a).dirty,(KM.frAt k1.frames a).seen⟩ }:=⟨_,rfl⟩
   have hmv : KM.moveTo k1 j p i D true = KM.enterK K2 j ⟨p,1,i⟩:=by
    unfold KM.moveTo
    rw [hent]
    show KM.leaveK _ _ = _
    rw [<- enter_leave]
    congr 1
    unfold KM.leaveK
    rw [if_pos rfl,hK2]
    show ({ KM.layK k1 i D true with frames:=(KM.layK k1 i D true).frames.set (a : Int).toNat (KM.lessF (KM.frAt (KM.layK k1 i D true).frames (a : Int).toNat)) } : KM.Kn) = _
    rw [Int.toNat_natCast,hfa]
    unfold KM.lessF
    rw [if_neg hra]
   rw [hP,<- hD,hmv]
   have HRD : Hid (∀ V S',Km lo mb tt X V S' k1 -> ∃ fb cF,V.cell? ⟨mb,1,none⟩ = some (.slice (some ⟨fb,0,none⟩) k1.frames.length cF) /\ ¬ mb = fb /\ V.cell? ⟨fb,a * 4,none⟩ = some (.string D) /\ V.cell? ⟨fb,i * 4,none⟩ = some (.string (KM.frAt k1.frames i).data) /\ V.cell? ⟨fb,i * 4 + 1,none⟩ = some (.int .i64 (KM.frAt k1.frames i).refs) /\ V.cell? ⟨fb,i * 4 + 2,none⟩ = some (.bool (KM.frAt k1.frames i).dirty) /\ V.cell? ⟨fb,i * 4 + 3,none⟩ = some (.bool (KM.frAt k1.frames i).seen) /\ V.frozen? ⟨fb,i * 4,none⟩ = false /\ V.frozen? ⟨fb,i * 4 + 1,none⟩ = false /\ V.frozen? ⟨fb,i * 4 + 2,none⟩ = false /\ V.frozen? ⟨fb,i * 4 + 3,none⟩ = false /\
     (∀ U,U = ((((V.setCell ⟨fb,i * 4,none⟩ (.string D)).setCell ⟨fb,i * 4 + 1,none⟩ (.int .i64 1)).setCell ⟨fb,i * 4 + 2,none⟩ (.bool true)).setCell ⟨fb,i * 4 + 3,none⟩ (.bool false)).drew -> U.cell? ⟨mb,1,none⟩ = some (.slice (some ⟨fb,0,none⟩) k1.frames.length cF) /\ U.cell? ⟨fb,a * 4 + 1,none⟩ = some (.int .i64 (KM.frAt k1.frames a).refs) /\ U.frozen? ⟨fb,a * 4 + 1,none⟩ = false /\ Km lo mb tt X (U.setCell ⟨fb,a * 4 + 1,none⟩ (.int .i64 ((KM.frAt k1.frames a).refs - 1))) S' K2 /\ Ch S' V S' (U.setCell ⟨fb,a * 4 + 1,none⟩ (.int .i64 ((KM.frAt k1.frames a).refs - 1))))):=fun V S' hV=>by
    obtain ⟨fb,cF,A⟩:=hV.toKr.fr (by omega)
    have c1:=hV.c1
    rw [A.v] at c1
    refine ⟨fb,cF,c1,fun e=>by have:=A.lab;rw [<- e,hV.lH] at this;simp at this,by rw [hD];exact A.x0 a ha1,A.x0 i hi1,A.x1 i hi1,A.x2 i hi1,A.x3 i hi1,A.fz _,A.fz _,A.fz _,A.fz _,fun U hU=>?_⟩
    have m:=hV.layF A.v hi1 ⟨D,1,true,false⟩
    have m1 : Km lo mb tt X U S' (KM.layK k1 i D true):=by subst hU;exact m.1.below (Below.refl _ _).drew
    have ch1 : Ch S' V S' U:=by subst hU;exact m.2.trans (Ch.below (Below.refl _ _).drew)
    have hln : (KM.layK k1 i D true).frames.length = k1.frames.length:=List.length_set
    obtain ⟨fb',cF',A'⟩:=m1.toKr.fr (by rw [hln];omega)
    have e : fb' = fb:=by
     have:=A'.v
     rw [A.v] at this
     injection this with e1 _ _
     injection e1 with e1
     injection e1 with e1 _ _
     exact e1.symm
    subst e
    have c1':=m1.c1
    rw [A.v] at c1'
    have y1:=A'.x1 a (by rw [hln];exact ha1)
    rw [hfa] at y1
    refine ⟨c1',y1,A'.fz _,?_,ch1.trans (chF m1.toKr A'.v)⟩
    rw [hK2]
    exact m1.setF A'.v (i:=a) (by rw [hln];exact ha1) (j:=1) (by omega) (by rw [hfa];rfl)
   have HET : Hid (∀ V S',Km lo mb tt X V S' K2 -> Calls Tryz.prog 166 #[.pointer (some ⟨mb,0,none⟩),.int .i64 (j : Int),.agg #[.int .i64 p,.int .i64 1,.int .i64 (i : Int)]] V (OutM lo mb tt X V S' (.tuple #[]) (KM.enterK K2 j ⟨p,1,i⟩))):=fun V S' hV=>by
    have hsp : K2.spaces = k1.spaces:=by rw [hK2];rfl
    exact enter_any _ S' V j ⟨p,1,i⟩ hV (by rw [hsp];exact hj1) (by rw [hsp];omega) (by rw [hsp];omega)
   have HFIN : Hid (∀ V S',Km lo mb tt X V S' (KM.enterK K2 j ⟨p,1,i⟩) -> Ch S w S' V -> OutM lo mb tt X w S (.int .i64 (i : Int)) (KM.enterK K2 j ⟨p,1,i⟩) (.returned (.int .i64 (i : Int))) V):=fun V S' h1 h2=>⟨rfl,S',h1,h2⟩
   obtain ⟨K3,hK3⟩ : ∃ K3,K3 = KM.enterK K2 j ⟨p,1,i⟩:=⟨_,rfl⟩
   rw [<- hK3] at HET HFIN ⊢
   obtain ⟨P,hP2⟩ : ∃ P,P = OutM lo mb tt X w S (.int .i64 (i : Int)) K3:=⟨_,rfl⟩
   rw [<- hP2] at HFIN ⊢
   have HCL : Hid (Calls Tryz.prog 167 #[.slice ah held.length ch] w fun e w'=>∃ av cv,e = .returned (.slice av held.length cv) /\ w'.ownsRow w.heap.size 3 1 (.slice av held.length cv) held.length (held.flatMap cellI) /\ Below w.heap.size w w'):=(cloneIn ah held.length ch (held.flatMap cellI) w (rows_length cellI 1 (fun _=>rfl) held) (ints_from hH.has) (ints_one held) (by omega)).mono fun e w' ⟨v,h1,h2,h3⟩=>by
    obtain ⟨av,cv,rfl,_⟩:=row_form h2
    exact ⟨av,cv,h1,h2,h3⟩
   have HGT : Hid (∀ V U av nv cv,Below w.heap.size w V -> U = V -> V.ownsRow w.heap.size 3 1 (.slice av nv cv) (held.length + 1) (held.flatMap cellI ++ [.int .i64 (a : Int)]) -> Calls Tryz.prog 165 #[.pointer (some ⟨mb,0,none⟩),.slice av nv cv] V (OutM lo mb tt X V S (.int .i64 (i : Int)) k1)):=fun V U av nv cv hb _ hr=>by
    have e1 : (held ++ [(a : Int)]).length = held.length + 1:=by simp
    have e2 : (held ++ [(a : Int)]).flatMap cellI = held.flatMap cellI ++ [.int .i64 (a : Int)]:=by simp [cellI]
    rw [<- e1,<- e2] at hr
    obtain ⟨q1,q2⟩:=held_row (S:=S) hr (fun b hb2=>h.toKr.new (hr.lt b hb2).1)
    rw [q1]
    exact hGT V S (h.below hb) av cv q2
   obtain ⟨i0,hin,hz0,hz1,hz2⟩:=info_parts infoIn
   have HIN:=hideC hin
   have HZ0:=hideC hz0
   have HZ1:=hideC hz1
   have HZ2:=hideC hz2
   have xb : ((KM.frAt k.frames a).refs == 1) = false:=by simpa using c
   obtain ⟨R0,hR0⟩ : ∃ R0,R0 = (KM.frAt k.frames a).refs:=⟨_,rfl⟩
   rw [<- hR0] at x1 xb
   obtain ⟨R1,hR1e⟩ : ∃ R1,R1 = (KM.frAt k1.frames a).refs:=⟨_,rfl⟩
   rw [<- hR1e] at HRD hrf
   have hw1 : IntKind.i64.wrap (R1 - 1) = R1 - 1:=IntWalk.i64_in _ (by omega)
   obtain ⟨FR,hFR⟩ : ∃ FR,FR = KM.frAt k1.frames i:=⟨_,rfl⟩
   rw [<- hFR] at HRD
   obtain ⟨nf,hnf⟩ : ∃ nf,nf = k.frames.length:=⟨_,rfl⟩
   rw [hnf1,<- hnf] at HRD
   rw [<- hnf] at c1 hai
   have hii : (i : Int) < (nf : Int):=by omega
   have hhl : held.length <= 1:=hl
   clear hP hP2 c h hR hj ha hH hl A hne hcc hnf hin hz0 hz1 hz2 hFR hR1e hR0 hK3 hGT hmv hK2 hra hfa hai2 hD hrf hcc1 hen1 hR1 ha1 hi1 hnf1 hj1 hH1 hent hi G hl2 hk1
   go_enter Tryz.func142,Tryz.ntmps142
   go_upto_region 4 with (first
    | (at_builtin;refine wpList_append_src (P:=Tryz.prog) rfl _ _ 99 rfl w.heap.size 3 i0 (.int .i64 0) 1 8 Tryz.underlying99 HIN.out HZ0.out HZ1.out HZ2.out rfl (by decide) _ held.length (held.flatMap cellI) rfl HO1.out (some ⟨w1.heap.size,0,none⟩) 1 1 [.int .i64 (a : Int)] rfl rfl (fun _=>⟨_,rfl,B.news (B.new w1 _ _)⟩) (by intro u hu;simp at hu;rw [hu];rfl) (by unfold maxLen;omega) (by omega) (by have:=HB1.out.size;simp;omega) ?_;intro v' w' hown hgr hat;obtain ⟨aG,cG,hvG,_,_⟩:=row_form hown;subst hvG;have HO2:=hideC hown;have HB2:=hideC ((HB1.out.alloc HB1.out.size (.cells #[.int .i64 (a : Int)] 3)).grown hgr (by have:=HB1.out.size;simp;omega) (fun q hq=>(HO1.out.lt q hq).1));clear hown hgr hat)
    | (go_at_call 167;refine HCL.out.mono ?_;rintro e w1 ⟨av,cv,rfl,hr1,hb1⟩;have HB1:=hideC hb1;have HO1:=hideC (hr1.alloc (.cells #[.int .i64 (a : Int)] 3));clear hr1 hb1)
    | (go_at_call 165;refine (HGT.out _ _ _ _ _ HB2.out rfl HO2.out).mono ?_;rintro e w3 ⟨rfl,S3,hk3,hc3⟩;have HK3:=hideC hk3;have HC3:=hideC ((Ch.below HB2.out).trans hc3);clear hk3 hc3))
   obtain ⟨fb3,cF3,g1,gne,g2,g3,g4,g5,g6,g7,g8,g9,g10,hfin⟩:=HRD.out w3 S3 HK3.out
   obtain ⟨U,hU⟩ : ∃ U,U = ((((w3.setCell ⟨fb3,i * 4,none⟩ (.string D)).setCell ⟨fb3,i * 4 + 1,none⟩ (.int .i64 1)).setCell ⟨fb3,i * 4 + 2,none⟩ (.bool true)).setCell ⟨fb3,i * 4 + 3,none⟩ (.bool false)).drew:=⟨_,rfl⟩
   obtain ⟨y1,y2,y3,hk4,hc4⟩:=hfin U hU
   have HU:=hideC hU
   have HK4:=hideC hk4
   have HC4:=hideC (HC3.out.trans hc4)
   clear hfin hU hk4 hc4
   go_region
   rw [<- HU.out]
   clear g1 g2 g3 g4 g5 g6 g7 g8 g9 g10 HU
   go_wp2_with (go_at_call 166;refine (HET.out _ _ HK4.out).mono ?_;rintro r w5 ⟨rfl,S5,hk5,hc5⟩;have HK5:=hideC hk5;have HC5:=hideC (HC4.out.trans hc5);clear hk5 hc5)
   exact HFIN.out _ _ HK5.out HC5.out
end KX
end Go.Proofs.YtpgifpeohlllfaaGreat
