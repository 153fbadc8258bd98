import Derived.Test.YtkdigjpejnebkaaGreatGP44
import Derived.Test.YtkdigjpejnebkaaGreatGP05
set_option linter.unusedVariables false
set_option maxRecDepth 100000
set_option linter.unusedSimpArgs false
namespace Go.Proofs.YtkdigjpejnebkaaGreat
namespace LM
open Go.RowKit
structure Sp where
 page : Int
 data : ByteArray
 fixes : List Fx
def plain (s : Sh) : Sp := ⟨s.page,s.data,s.fixes⟩
def pgN (o : Ob) (ps : List Pt) (s : M.Sg) (m : Nat) : Sp := ⟨o.base + s.page + (m : Int),pageN s m,fixesN (o.base + s.page + (m : Int)) ps⟩
def pgsTo (o : Ob) (ps : List Pt) (s : M.Sg) (n : Nat) : List Sp := (List.range n).map (pgN o ps s)
def sgsTo (o : Ob) (ps : List Pt) : Nat -> List Sp
 | 0 => []
 | k + 1 => sgsTo o ps k ++ pgsTo o ps (M.sgAt o.i.segs k) (M.sgAt o.i.segs k).pages.toNat
def obsTo (l : List Ob) : Nat -> Option (List Sp)
 | 0 => some []
 | k + 1 => match obsTo l k with
  | none => none
  | some E => match patN l (obAt l k) with
   | none => none
   | some ps => some (E ++ sgsTo (obAt l k) ps (obAt l k).i.segs.length)
def sheetsN (l : List Ob) : Option (List Sp) := obsTo l l.length
theorem pgsTo_succ (o : Ob) (ps : List Pt) (s : M.Sg) (n : Nat) : pgsTo o ps s (n + 1) = pgsTo o ps s n ++ [pgN o ps s n] := by
 unfold pgsTo
 rw [List.range_succ,List.map_append]
 rfl
theorem obsTo_none {l : List Ob} {k : Nat} (h : obsTo l k = none) : ∀ n,k <= n -> obsTo l n = none
 | 0, hn => by obtain rfl : k = 0 := by omega
               exact h
 | n + 1,hn => by
  by_cases e : k = n + 1
  · subst e;exact h
  · simp only [obsTo]
    rw [obsTo_none h n (by omega)]
theorem pat_fit {l : List Ob} {o : Ob} (hc : M.chkN o.i = 0) (h0 : 1 <= o.base) (h1 : o.base <= 2000) : ∀ (k : Nat) (ps : List Pt),k <= o.i.rels.length -> patTo l o k = some ps -> ∀ j,j < ps.length -> FitP (ptAt ps j)
 | 0,ps,_,h,j,hj => by simp only [patTo] at h;injection h with h;subst h;simp at hj
 | k + 1,ps,hk,h,j,hj => by
  simp only [patTo] at h
  cases e : patTo l o k with
  | none => rw [e] at h;cases h
  | some qs =>
   rw [e] at h
   simp only at h
   cases g : tgtN l o (M.rlAt o.i.rels k).name with
   | none => rw [g] at h;cases h
   | some t =>
    rw [g] at h
    simp only at h
    injection h with h
    subst h
    rw [List.length_append] at hj
    by_cases hjq : j < qs.length
    · have := pat_fit hc h0 h1 k qs (by omega) e j hjq
      unfold ptAt at this ⊢
      rw [List.getD_eq_getElem?_getD,List.getElem?_append_left hjq,<- List.getD_eq_getElem?_getD]
      exact this
    · have hje : j = qs.length := by simp at hj;omega
      subst hje
      unfold ptAt
      rw [List.getD_eq_getElem?_getD,List.getElem?_append_right (Nat.le_refl _),Nat.sub_self]
      have hb := rel_bounds hc k (by omega)
      refine ⟨?_,?_,?_⟩
      · show 0 <= o.base * 16 + (M.rlAt o.i.rels k).pos
        omega
      · show o.base * 16 + (M.rlAt o.i.rels k).pos <= 1000000
        omega
      · show (⟨(Lib.leBytes 8 (CM.low (t + (M.rlAt o.i.rels k).add))).toArray⟩ : ByteArray).size = 8
        rw [Lib.size_eq]
        simp [Lib.leBytes]
def HasFN (rb : Option Nat) (w : World) (ao : Option Addr) (l : List Fx) : Prop := 0 < l.length -> ∃ b off,ao = some ⟨b,off,none⟩ /\ b < w.heap.size /\ some b ≠ rb /\ LieF w b off l
theorem HasFN.has {rb : Option Nat} {w : World} {ao : Option Addr} {l : List Fx} (h : HasFN rb w ao l) : HasF w ao l := fun hl => by
 obtain ⟨b,off,h1,h2,_,h3⟩ := h hl
 exact ⟨b,off,h1,h2,h3⟩
theorem HasFN.below {rb : Option Nat} {w w' : World} {ao : Option Addr} {l : List Fx} (h : HasFN rb w ao l) (hb : Below w.heap.size w w') : HasFN rb w' ao l := fun hl => by
 obtain ⟨b,off,h1,h2,h3,h4⟩ := h hl
 exact ⟨b,off,h1,Nat.lt_of_lt_of_le h2 hb.size,h3,lieF hb h2 h4⟩
theorem lieF_block {w w' : World} {b off : Nat} {l : List Fx} (h : LieF w b off l) (hb : w'.heap[b]? = w.heap[b]?) : LieF w' b off l := fun i hi => by
 obtain ⟨c0,c1⟩ := h i hi
 exact ⟨(World.cell?_of_block hb).trans c0,(World.cell?_of_block hb).trans c1⟩
theorem HasFN.grown {rb : Option Nat} {w w' : World} {ao : Option Addr} {l : List Fx} {g : Nat} (h : HasFN rb w ao l) (hg : w.grownBy w' rb) (hs : w.heap.size <= w'.heap.size) (hat : rb = some g ∨ g = w.heap.size) : HasFN (some g) w' ao l := fun hl => by
 obtain ⟨b,off,h1,h2,h3,h4⟩ := h hl
 refine ⟨b,off,h1,Nat.lt_of_lt_of_le h2 hs,fun e => ?_,lieF_block h4 (hg.block b h2 h3)⟩
 injection e with e
 rcases hat with hat | hat
 · exact h3 (by rw [hat,e])
 · omega
def AllF (rb : Option Nat) (w : World) (hs : List Sh) : Prop := ∀ k,k < hs.length -> HasFN rb w (shAt hs k).ao (shAt hs k).fixes
def cellH (s : Sh) : List Value := [.int .i64 s.page,.string s.data,.slice s.ao s.fixes.length s.cap]
theorem shAt_left (l : List Sh) (x : Sh) (k : Nat) (h : k < l.length) : shAt (l ++ [x]) k = shAt l k := by
 unfold shAt
 rw [List.getD_eq_getElem?_getD,List.getElem?_append_left h,<- List.getD_eq_getElem?_getD]
theorem shAt_last (l : List Sh) (x : Sh) : shAt (l ++ [x]) l.length = x := by
 unfold shAt
 rw [List.getD_eq_getElem?_getD,List.getElem?_append_right (Nat.le_refl _)]
 simp
end LM
namespace LW
open Go.RowKit
open W (hideC)
theorem infoSh : (Tryz.prog.info? 62).map (fun i => (i.zero,i.size,i.bytes)) = some (some (.agg #[.int .i64 0,.string ⟨#[]⟩,.slice none 0 0]),3,48) := by kernel_rfl
structure Rs (lo : Nat) (w : World) (v : Value) (hs : List LM.Sh) : Prop where
 row : w.ownsRow lo 62 3 v hs.length (hs.flatMap LM.cellH)
 fix : LM.AllF v.ownBlock w hs
theorem Rs.below {lo : Nat} {w w' : World} {v : Value} {hs : List LM.Sh} (h : Rs lo w v hs) (hb : Below w.heap.size w w') : Rs lo w' v hs := ⟨row_grown h.row hb,fun k hk => (h.fix k hk).below hb⟩
theorem Rs.nil (lo : Nat) (w : World) : Rs lo w (.slice none 0 0) [] := ⟨World.ownsRow_nil _ _ _ _,fun k hk => by simp at hk⟩
theorem Rs.has {lo : Nat} {w : World} {v : Value} {hs : List LM.Sh} (h : Rs lo w v hs) : ∃ ao cap,v = .slice ao hs.length cap /\ LM.HasH w ao hs /\ hs.length <= cap := by
 have hr := h.row
 rcases hr.2 with ⟨hv,h0⟩ | ⟨g,cap,cur,hv,hbg,hg,hnc,hcm,hcs,htake⟩
 · exact ⟨none,0,by rw [hv,h0],fun hl => by omega,by omega⟩
 · rw [hv] at hr
   refine ⟨some ⟨g,0,none⟩,cap,hv,fun _ => ⟨g,0,rfl,B.isLt hg,fun k hk => ?_⟩,hnc⟩
   rw [Nat.zero_add]
   have hh : ∀ j,j < 3 -> w.cell? ⟨g,k * 3 + j,none⟩ = (LM.cellH (LM.shAt hs k))[j]? := fun j hj => (hr.cellAt _ (by omega)).trans (flat_get LM.cellH 3 (fun _ => rfl) LM.sh0 hs k j hk hj)
   exact ⟨hh 0 (by omega),hh 1 (by omega),hh 2 (by omega),(h.fix k hk).has⟩
theorem row_fx {w : World} {base : Nat} {v : Value} {l : List LM.Fx} (h : w.ownsRow base 121 2 v l.length (l.flatMap LM.cellF)) (rb : Option Nat) (hrb : ∀ q,rb = some q -> q < base) : ∃ ao cap,v = .slice ao l.length cap /\ LM.HasFN rb w ao l := by
 rcases h.2 with ⟨hv,h0⟩ | ⟨g,cap,cur,hv,hbg,hg,hnc,hcm,hcs,htake⟩
 · exact ⟨none,0,by rw [hv,h0],fun hl => by omega⟩
 · subst hv
   refine ⟨some ⟨g,0,none⟩,cap,rfl,fun hl => ⟨g,0,rfl,B.isLt hg,fun e => by have := hrb g e.symm;omega,fun k hk => ?_⟩⟩
   rw [Nat.zero_add]
   have hh : ∀ j,j < 2 -> w.cell? ⟨g,k * 2 + j,none⟩ = (LM.cellF (LM.fxAt l k))[j]? := fun j hj => (h.cellAt _ (by omega)).trans (flat_get LM.cellF 2 (fun _ => rfl) LM.fx0 l k j hk hj)
   exact ⟨hh 0 (by omega),hh 1 (by omega)⟩
theorem Rs.more {lo : Nat} {w w' : World} {v : Value} {hs : List LM.Sh} {x : LM.Sh} {g cap : Nat} (h : LM.AllF v.ownBlock w hs) (hx : LM.HasFN v.ownBlock w x.ao x.fixes) (hown : w'.ownsRow lo 62 3 (.slice (some ⟨g,0,none⟩) (hs.length + 1) cap) (hs.length + 1) (hs.flatMap LM.cellH ++ LM.cellH x)) (hg : w.grownBy w' v.ownBlock) (hs' : w.heap.size <= w'.heap.size) (hat : v.ownBlock = some g ∨ g = w.heap.size) :
  Rs lo w' (.slice (some ⟨g,0,none⟩) (hs.length + 1) cap) (hs ++ [x]) := by
 refine ⟨by rw [List.length_append,List.flatMap_append];simpa using hown,fun k hk => ?_⟩
 have e : (Value.slice (some ⟨g,0,none⟩) (hs.length + 1) cap).ownBlock = some g := rfl
 rw [e]
 rw [List.length_append] at hk
 by_cases hkl : k < hs.length
 · rw [LM.shAt_left hs x k hkl]
   exact (h k hkl).grown hg hs' hat
 · obtain rfl : k = hs.length := by simp at hk;omega
   rw [LM.shAt_last]
   exact hx.grown hg hs' hat
def OutSh (R : Option (List LM.Sp)) (w : World) (e : Ending) (w' : World) : Prop := Below w.heap.size w w' /\ match R with
 | none => e = .returned (.tuple #[.slice none 0 0,.bool false])
 | some E => ∃ (hs : List LM.Sh) (ao : Option Addr) (cap : Nat),hs.map LM.plain = E /\ e = .returned (.tuple #[.slice ao hs.length cap,.bool true]) /\ LM.HasH w' ao hs /\ hs.length <= cap
structure Fr (w : World) (r : Option Nat) (w' : World) (r' : Option Nat) : Prop where
 size : w.heap.size <= w'.heap.size
 block : ∀ b,b < w.heap.size -> some b ≠ r -> w'.heap[b]? = w.heap[b]?
 row : r' = r ∨ ∃ g,r' = some g /\ w.heap.size <= g
theorem Fr.refl (w : World) (r : Option Nat) : Fr w r w r := ⟨Nat.le_refl _,fun _ _ _ => rfl,.inl rfl⟩
theorem Fr.trans {w w1 w2 : World} {r r1 r2 : Option Nat} (h : Fr w r w1 r1) (g : Fr w1 r1 w2 r2) : Fr w r w2 r2 := by
 have hs := h.size
 refine ⟨Nat.le_trans h.size g.size,fun b hb hr => ?_,?_⟩
 · rw [g.block b (by omega) (fun e => ?_),h.block b hb hr]
   rcases h.row with e1 | ⟨x,e1,e2⟩
   · exact hr (by rw [e,e1])
   · rw [e1] at e
     injection e with e
     omega
 · rcases g.row with e | ⟨x,e1,e2⟩
   · rw [e]
     exact h.row
   · exact .inr ⟨x,e1,by omega⟩
theorem Fr.ofBelow {w w' : World} (h : Below w.heap.size w w') (r : Option Nat) : Fr w r w' r := ⟨h.size,fun b hb _ => h.block b hb,.inl rfl⟩
theorem Fr.ofGrown {w w' : World} {r : Option Nat} {g : Nat} (h : w.grownBy w' r) (hs : w.heap.size <= w'.heap.size) (hat : r = some g ∨ g = w.heap.size) : Fr w r w' (some g) :=
 ⟨hs,fun b hb hr => h.block b hb hr,by
  rcases hat with e | e
  · exact .inl e.symm
  · exact .inr ⟨g,rfl,by omega⟩⟩
theorem Fr.keep {w w' : World} {r r' : Option Nat} {b : Nat} {o : Obj} (h : Fr w r w' r') (hb : w.heap[b]? = some o) (hr : some b ≠ r) : w'.heap[b]? = some o := (h.block b (B.isLt hb) hr).trans hb
def HasPN (rb : Option Nat) (w : World) (ao : Option Addr) (l : List LM.Pt) : Prop := 0 < l.length -> ∃ b off,ao = some ⟨b,off,none⟩ /\ b < w.heap.size /\ some b ≠ rb /\ LM.LieP w b off l
theorem HasPN.fr {rb rb' : Option Nat} {w w' : World} {ao : Option Addr} {l : List LM.Pt} (h : HasPN rb w ao l) (hf : Fr w rb w' rb') : LM.HasP w' ao l := fun hl => by
 obtain ⟨b,off,h1,h2,h3,h4⟩ := h hl
 exact ⟨b,off,h1,Nat.lt_of_lt_of_le h2 hf.size,fun i hi => by
  obtain ⟨c0,c1⟩ := h4 i hi
  exact ⟨(World.cell?_of_block (hf.block b h2 h3)).trans c0,(World.cell?_of_block (hf.block b h2 h3)).trans c1⟩⟩
theorem row_ptN {w : World} {base : Nat} {v : Value} {l : List LM.Pt} (h : w.ownsRow base 228 2 v l.length (l.flatMap LM.cellP)) (rb : Option Nat) (hrb : ∀ q,rb = some q -> q < base) : ∃ ao cap,v = .slice ao l.length cap /\ HasPN rb w ao l := by
 rcases h.2 with ⟨hv,h0⟩ | ⟨g,cap,cur,hv,hbg,hg,hnc,hcm,hcs,htake⟩
 · exact ⟨none,0,by rw [hv,h0],fun hl => by omega⟩
 · subst hv
   refine ⟨some ⟨g,0,none⟩,cap,rfl,fun hl => ⟨g,0,rfl,B.isLt hg,fun e => by have := hrb g e.symm;omega,fun k hk => ?_⟩⟩
   rw [Nat.zero_add]
   have hh : ∀ j,j < 2 -> w.cell? ⟨g,k * 2 + j,none⟩ = (LM.cellP (LM.ptAt l k))[j]? := fun j hj => (h.cellAt _ (by omega)).trans (flat_get LM.cellP 2 (fun _ => rfl) LM.pt0 l k j hk hj)
   exact ⟨hh 0 (by omega),hh 1 (by omega)⟩
set_option maxHeartbeats 6000000 in
theorem sheetsOf_any (l : List LM.Ob) (ao : Option Addr) (cap : Nat) (w : World) (h : Oi l ao w) (hl7 : l.length <= 7) : Calls Tryz.prog 102 #[.slice ao l.length cap] w (OutSh (LM.sheetsN l) w) := by
 have HO := hideC h
 clear h
 obtain ⟨R,hR⟩ : ∃ R,R = LM.sheetsN l := ⟨_,rfl⟩
 have HR : Hid (R = LM.obsTo l l.length) := hR
 rw [<- hR]
 clear hR
 obtain ⟨i0,hin,hz0,hz1,hz2⟩ := info_parts infoSh
 go_enter Tryz.func102,Tryz.ntmps102
 go_wp2
 go_loopw [15,4] (fun i v wr => ∃ (a : Nat) (E : List LM.Sp) (hs : List LM.Sh),a <= l.length /\ i = .int .i64 a /\ LM.obsTo l a = some E /\ hs.map LM.plain = E /\ hs.length <= a * 1600 /\ Rs w.heap.size wr v hs /\ Below w.heap.size w wr) (fun i _ _ => l.length - (intOf i).toNat)
 case atStart => exact ⟨0,[],[],by omega,rfl,rfl,rfl,by simp,Rs.nil _ _,Below.refl _ _⟩
 case round =>
  obtain ⟨a,E,hs,hal,rfl,hE,hmE,hlen,hrs,hb⟩ := hrel
  have HE := hideC hE
  have HME := hideC hmE
  have HRS := hideC hrs
  have HBr := hideC hb
  by_cases hlt : a < l.length
  · have HOr := hideC (HO.out.below hb)
    obtain ⟨b,off,hao,hbl,hlie⟩ := HOr.out.has (by omega)
    obtain ⟨⟨c0,c1,c2,c3,c4,c5,c6⟩,him⟩ := hlie a hlt
    have hbs := HO.out.base a hlt
    have hck := HO.out.chk a hlt
    have HPA : Hid (∀ V,Below wr.heap.size wr V -> Calls Tryz.prog 118 #[.agg (LM.cellsO (LM.obAt l a)),.slice ao l.length cap] V (OutPt (LM.patN l (LM.obAt l a)) V)) := fun V hb => patchesOf_any l ao cap (LM.obAt l a) V (HOr.out.below hb) (him.below hb) hck (HO.out.fit a hlt) hbs.1 hbs.2
    have HS0 : Hid (LM.patN l (LM.obAt l a) = none -> R = none) := fun g => by
     rw [HR.out]
     refine LM.obsTo_none (k := a + 1) ?_ l.length (by omega)
     simp only [LM.obsTo,HE.out,g]
    have HS1 : Hid (∀ ps,LM.patN l (LM.obAt l a) = some ps -> LM.obsTo l (a + 1) = some (E ++ LM.sgsTo (LM.obAt l a) ps (LM.obAt l a).i.segs.length)) := fun ps g => by simp only [LM.obsTo,HE.out,g]
    have HFP : Hid (∀ ps,LM.patN l (LM.obAt l a) = some ps -> ps.length <= 16 /\ ∀ j,j < ps.length -> LM.FitP (LM.ptAt ps j)) := fun ps g => by
     have h1 := LM.patTo_len g
     have h2 := (LM.counts_of hck).2.2.2.2
     exact ⟨by omega,LM.pat_fit hck hbs.1 hbs.2 _ ps (Nat.le_refl _) g⟩
    obtain ⟨b2,off2,hao2,hbl2,hlie2⟩ := HO.out.has (by omega)
    have him2 := (hlie2 a hlt).2
    obtain ⟨o,ho⟩ : ∃ o,o = LM.obAt l a := ⟨_,rfl⟩
    rw [<- ho] at him2
    rw [<- ho] at c0 c1 c2 c3 c4 c5 c6 him hbs hck HPA HS0 HS1 HFP
    have hcn := LM.counts_of hck
    have HSB := hideC (LM.seg_bounds hck)
    have HIM := hideC him
    simp only [LM.cellsO] at HPA
    obtain ⟨bs,offs,hag,hbls,hlg⟩ := him2.segs (by omega)
    have HLG := hideC hlg
    rw [hag] at HPA c2
    clear ho hlie hb hE hmE hrs him hlg hag him2 hlie2 hao2 hbl2 HIM
    subst hao
    have HBA := hideC (HBr.out.alloc HBr.out.size (.cells #[.string o.i.name,.slice o.a.an o.i.needs.length o.a.cn,.slice (some ⟨bs,offs,none⟩) o.i.segs.length o.a.cg,.slice o.a.ay o.i.syms.length o.a.cy,.slice o.a.ar o.i.rels.length o.a.cr,.int .i64 o.i.entry,.int .i64 o.base] 178))
    have HRA := hideC ((Below.refl wr.heap.size wr).alloc (Nat.le_refl _) (.cells #[.string o.i.name,.slice o.a.an o.i.needs.length o.a.cn,.slice (some ⟨bs,offs,none⟩) o.i.segs.length o.a.cg,.slice o.a.ay o.i.syms.length o.a.cy,.slice o.a.ar o.i.rels.length o.a.cr,.int .i64 o.i.entry,.int .i64 o.base] 178))
    have BO := hideC (B.new wr #[.string o.i.name,.slice o.a.an o.i.needs.length o.a.cn,.slice (some ⟨bs,offs,none⟩) o.i.segs.length o.a.cg,.slice o.a.ay o.i.syms.length o.a.cy,.slice o.a.ar o.i.rels.length o.a.cr,.int .i64 o.i.entry,.int .i64 o.base] 178)
    have HP2 := hideC (HPA.out _ HRA.out)
    cases e : LM.patN l o with
    | none =>
     have HRN := hideC (HS0.out e)
     rw [e] at HP2
     clear e HS0 HS1 HFP
     go_wp2_with (go_at_call 118;refine HP2.out.mono ?_;rintro e w1 ⟨hb,rfl⟩;have HB1 := hideC (HBA.out.trans (hb.mono HBA.out.size));clear hb)
     go_ret2
     show OutSh R w _ _
     rw [HRN.out]
     exact ⟨HB1.out,rfl⟩
    | some ps =>
     have HNXT := hideC (HS1.out ps e)
     obtain ⟨hps,hfp⟩ := HFP.out ps e
     have HFPS := hideC hfp
     rw [e] at HP2
     clear e HS0 HS1 HFP hfp
     have hrb : ∀ q,u4.ownBlock = some q -> q < wr.heap.size := fun q hq => (HRS.out.row.lt q hq).2
     have HRBK := hideC hrb
     clear hrb
     go_wp2_with (go_at_call 118;refine HP2.out.mono ?_;rintro e w1 ⟨hb,v7,rfl,hpr⟩;have HB1 := hideC (HBA.out.trans (hb.mono HBA.out.size));have HW1 := hideC (HRA.out.trans (hb.mono HRA.out.size));have HPR := hideC hpr;have BO1 := hideC (B.below BO.out hb (B.isLt BO.out));have g2 := B.cell BO1.out 2 rfl;clear hb hpr)
     obtain ⟨ap,cp,hv7,hpn⟩ := row_ptN HPR.out u4.ownBlock (fun q hq => by have := HRBK.out q hq;simp;omega)
     subst hv7
     have HPN := hideC hpn
     have HRS1 := hideC (HRS.out.below HW1.out)
     have hobl := HBr.out.size
     obtain ⟨rb,hrb⟩ : ∃ rb,rb = u4.ownBlock := ⟨_,rfl⟩
     have HRB := hideC hrb
     rw [<- hrb] at HPN HRBK
     clear hpn HPR HP2 HPA HRA HBA HRS HW1 g2 BO c0 c1 c2 c3 c4 c5 c6 hrb HOr hbl
     obtain ⟨ob,hob⟩ : ∃ ob,ob = wr.heap.size := ⟨_,rfl⟩
     rw [<- hob] at BO1 HRBK hobl
     rw [<- hob]
     have HNE : Hid (some ob ≠ rb) := fun e => by have := HRBK.out ob e.symm;omega
     clear hob HBr HRBK
     go_loopw [31,4] (fun i v wm => ∃ (k : Nat) (hs' : List LM.Sh),k <= o.i.segs.length /\ i = .int .i64 k /\ hs'.map LM.plain = E ++ LM.sgsTo o ps k /\ hs'.length <= a * 1600 + k * 255 /\ Rs w.heap.size wm v hs' /\ Below w.heap.size w wm /\ Fr w1 rb wm v.ownBlock) (fun i _ _ => o.i.segs.length - (intOf i).toNat)
     case atStart => exact ⟨0,hs,by omega,rfl,by rw [HME.out];simp [LM.sgsTo],by omega,HRS1.out,HB1.out,by rw [HRB.out];exact Fr.refl _ _⟩
     case round =>
      obtain ⟨k,hs',hk,rfl,hmE,hlen',hrs,hb,hfr⟩ := hrel
      have HM2 := hideC hmE
      have HR2 := hideC hrs
      have HBm := hideC hb
      have HFm := hideC hfr
      clear HRS1 HRB hlen HME
      by_cases hlk : k < o.i.segs.length
      · obtain ⟨c0,c1,c2,c3,c4⟩ := M.lieG hb hbls HLG.out k hlk
        have hsb := HSB.out k hlk
        have hbls' : bs < wr.heap.size := Nat.lt_of_lt_of_le hbls hb.size
        have HNX : Hid (LM.sgsTo o ps (k + 1) = LM.sgsTo o ps k ++ LM.pgsTo o ps (M.sgAt o.i.segs k) (M.sgAt o.i.segs k).pages.toNat) := rfl
        obtain ⟨s,hse⟩ : ∃ s,s = M.sgAt o.i.segs k := ⟨_,rfl⟩
        rw [<- hse] at c0 c1 c2 c3 c4 hsb HNX
        clear hse
        obtain ⟨P,hP⟩ : ∃ P : Nat,s.pages = (P : Int) := ⟨s.pages.toNat,by omega⟩
        obtain ⟨pg,pn,dt,wb,ex⟩ := s
        simp only at c0 c1 c2 c3 c4 hsb HNX hP
        subst hP
        rw [Int.toNat_natCast] at HNX
        have hvb : ∀ q,u4.ownBlock = some q -> q < wr.heap.size := fun q hq => (HR2.out.row.lt q hq).2
        have HVB := hideC hvb
        have HBA := hideC (HBm.out.alloc HBm.out.size (.cells #[.int .i64 pg,.int .i64 P,.string dt,.bool wb,.bool ex] 129))
        have HRA := hideC ((Below.refl wr.heap.size wr).alloc (Nat.le_refl _) (.cells #[.int .i64 pg,.int .i64 P,.string dt,.bool wb,.bool ex] 129))
        have BS := hideC (B.new wr #[.int .i64 pg,.int .i64 P,.string dt,.bool wb,.bool ex] 129)
        have HFA := hideC (HFm.out.trans (Fr.ofBelow HRA.out u4.ownBlock))
        have HRsA := hideC (HR2.out.below HRA.out)
        clear hvb hmE hrs hb hfr
        go_wp2
        obtain ⟨vb,hvb⟩ : ∃ vb,vb = u4.ownBlock := ⟨_,rfl⟩
        have HVE := hideC hvb
        rw [<- hvb] at HVB
        obtain ⟨WA,hWA⟩ : ∃ WA,WA = wr.alloc (.cells #[.int .i64 pg,.int .i64 P,.string dt,.bool wb,.bool ex] 129) := ⟨_,rfl⟩
        rw [<- hWA] at HBA HRA BS HFA HRsA
        rw [<- hWA]
        obtain ⟨sb,hsbe⟩ : ∃ sb,sb = wr.heap.size := ⟨_,rfl⟩
        rw [<- hsbe] at BS HVB
        rw [<- hsbe]
        have HNS : Hid (some sb ≠ vb) := fun e => by have := HVB.out sb e.symm;omega
        clear hvb hWA hsbe HRA HVB HR2 HBm HFm c0 c1 c2 c3 c4 hbls'
        have hpb : ∀ n : Nat,n < P -> 0 <= o.base + pg + (n : Int) /\ o.base + pg + (n : Int) <= 3000 := fun n hn => by omega
        have HPB := hideC hpb
        have HPG : Hid (∀ n : Nat,n < P -> ∀ V,Calls Tryz.prog 119 #[.agg #[.int .i64 pg,.int .i64 (P : Int),.string dt,.bool wb,.bool ex],.int .i64 n] V fun e w' => e = .returned (.string (LM.pageN ⟨pg,P,dt,wb,ex⟩ n)) /\ Below V.heap.size V w') := fun n hn V => pageOf_any ⟨pg,P,dt,wb,ex⟩ n V (by omega) (by show dt.size <= 100000;omega)
        clear hpb
        go_loopw [37,4] (fun i v wi => ∃ (n : Nat) (hs2 : List LM.Sh),n <= P /\ i = .int .i64 n /\ hs2.map LM.plain = (E ++ LM.sgsTo o ps k) ++ LM.pgsTo o ps ⟨pg,P,dt,wb,ex⟩ n /\ hs2.length <= a * 1600 + k * 255 + n /\ Rs w.heap.size wi v hs2 /\ Below w.heap.size w wi /\ Fr w1 rb wi v.ownBlock /\ Fr WA vb wi v.ownBlock) (fun i _ _ => P - (intOf i).toNat)
        case atStart => exact ⟨0,hs',by omega,rfl,by rw [HM2.out];simp [LM.pgsTo],by omega,HRsA.out,HBA.out,HFA.out,by rw [HVE.out];exact Fr.refl _ _⟩
        case round =>
         obtain ⟨n,hs2,hn,rfl,hm3,hlen2,hrs,hb,hfr,hfs⟩ := hrel
         have HM3 := hideC hm3
         have HR3 := hideC hrs
         have HBi := hideC hb
         have HFi := hideC hfr
         have HFs := hideC hfs
         have hbsz := hb.size
         clear HRsA HBA HFA HVE HM2 hlen' hm3 hrs hb
         by_cases hnP : n < P
         · have BOi := hideC (hfr.keep BO1.out HNE.out)
           have BSi := hideC (hfs.keep BS.out HNS.out)
           have y6 := B.cell BOi.out 6 rfl
           have z0 := B.cell BSi.out 0 rfl
           have z1 := B.cell BSi.out 1 rfl
           have z2 := B.cell BSi.out 2 rfl
           have z3 := B.cell BSi.out 3 rfl
           have z4 := B.cell BSi.out 4 rfl
           have HPi := hideC (HPN.out.fr hfr)
           have hpb := HPB.out n hnP
           have HNP := hideC (LM.pgsTo_succ o ps ⟨pg,P,dt,wb,ex⟩ n)
           have HG2 := hideC (HPG.out n hnP)
           have HFX : Hid (∀ V,Below wr.heap.size wr V -> Calls Tryz.prog 120 #[.int .i64 (o.base + pg + (n : Int)),.slice ap ps.length cp] V fun e w' => (∃ v,e = .returned v /\ w'.ownsRow V.heap.size 121 2 v (LM.fixesN (o.base + pg + (n : Int)) ps).length ((LM.fixesN (o.base + pg + (n : Int)) ps).flatMap LM.cellF)) /\ Below V.heap.size V w') := fun V hb => fixesOf_any _ ps ap cp V hpb.1 hpb.2 (HPi.out.below hb) (by omega) HFPS.out
           have HSP : Hid (LM.pgN o ps ⟨pg,P,dt,wb,ex⟩ n = ⟨o.base + pg + (n : Int),LM.pageN ⟨pg,P,dt,wb,ex⟩ n,LM.fixesN (o.base + pg + (n : Int)) ps⟩) := rfl
           obtain ⟨F,hF⟩ : ∃ F,F = LM.fixesN (o.base + pg + (n : Int)) ps := ⟨_,rfl⟩
           obtain ⟨D,hD⟩ : ∃ D,D = LM.pageN ⟨pg,P,dt,wb,ex⟩ n := ⟨_,rfl⟩
           rw [<- hF] at HFX HSP
           rw [<- hD] at HG2 HSP
           have hl3 : hs2.length <= 100000 := by omega
           have hrow := HR3.out.row.lt
           have HROW := hideC hrow
           clear hF hD hfr hfs hrow
           obtain ⟨i0,hin,hz0,hz1,hz2⟩ := info_parts infoSh
           go_wp2_with (first
            | (go_at_call 119;refine (HG2.out _).mono ?_;rintro e w2 ⟨rfl,hb⟩;have HW2 := hideC hb;clear hb)
            | (go_at_call 120;refine (HFX.out _ HW2.out).mono ?_;rintro e w3 ⟨⟨v8,rfl,hrw⟩,hb⟩;obtain ⟨af,cf,hvf,hfn⟩ := row_fx hrw u4.ownBlock (fun q hq => by have := (HROW.out q hq).2;have := HW2.out.size;omega);subst hvf;have HFN := hideC hfn;have HW3 := hideC (HW2.out.trans (hb.mono HW2.out.size));have HA3 := hideC (HW3.out.alloc HW3.out.size (.cells #[.int .i64 (o.base + pg + (n : Int)),.string D,.slice af F.length cf] 62));have HR4 := hideC (HR3.out.below HA3.out);have HFN4 := hideC (HFN.out.below ((Below.refl w3.heap.size w3).alloc (Nat.le_refl _) (.cells #[.int .i64 (o.base + pg + (n : Int)),.string D,.slice af F.length cf] 62)));have HN3 := hideC (B.new w3 #[.int .i64 (o.base + pg + (n : Int)),.string D,.slice af F.length cf] 62);have hsz3 : w.heap.size <= w3.heap.size := Nat.le_trans hbsz HW3.out.size;clear hb hrw hfn)
            | (at_builtin;refine wpList_append_lies _ rfl _ _ 23 rfl w.heap.size 62 i0 (.agg #[.int .i64 0,.string ⟨#[]⟩,.slice none 0 0]) 3 48 Tryz.underlying23 hin hz0 hz1 hz2 rfl (by decide) _ _ _ rfl HR4.out.row ⟨w3.heap.size,0,none⟩ 1 1 [.int .i64 (o.base + pg + (n : Int)),.string D,.slice af F.length cf] rfl rfl (B.news HN3.out) (by intro u hu;simp at hu;rcases hu with rfl | rfl | rfl <;> rfl) (by decide) (by unfold maxLen;omega) (by omega) (by simp;omega) (w3.heap.size + 1) (by simp) ?_;intro gg capg w4 hown4 hgrow hatt hlt4;have HOW4 := hideC hown4;have HGR := hideC hgrow;have HAT := hideC hatt;clear hown4 hgrow hatt))
           have hat4 : u4.ownBlock = some gg ∨ gg = (w3.alloc (.cells #[.int .i64 (o.base + pg + (n : Int)),.string D,.slice af F.length cf] 62)).heap.size := by rw [World.size_alloc];exact HAT.out
           have HF4 := hideC ((Fr.ofBelow HA3.out u4.ownBlock).trans (Fr.ofGrown HGR.out HGR.out.size hat4))
           go_roundw
           case rel => exact ⟨n + 1,hs2 ++ [⟨o.base + pg + (n : Int),D,F,af,cf⟩],by omega,by go_num,by rw [HNP.out,HSP.out,List.map_append,HM3.out,List.append_assoc];rfl,by rw [List.length_append];simp;omega,(Rs.more (x := ⟨o.base + pg + (n : Int),D,F,af,cf⟩) HR4.out.fix HFN4.out HOW4.out HGR.out HGR.out.size hat4),((HBi.out.trans (HA3.out.mono HBi.out.size)).grown HGR.out (by simp;omega) (fun q hq => by have := (HROW.out q hq).1;omega)),HFi.out.trans HF4.out,HFs.out.trans HF4.out⟩
           case measure => simp [intOf];omega
         · obtain rfl : n = P := by omega
           clear hfr hfs
           go_wp2
           go_roundw
           case rel => exact ⟨k + 1,hs2,by omega,by go_num,by rw [HNX.out,HM3.out,List.append_assoc],by omega,HR3.out,HBi.out,HFi.out⟩
           case measure => simp [intOf];omega
      · obtain rfl : k = o.i.segs.length := by omega
        clear hmE hrs hb hfr
        go_wp2
        go_roundw
        case rel => exact ⟨a + 1,_,hs',by omega,by go_num,HNXT.out,HM2.out,by omega,HR2.out,HBm.out⟩
        case measure => simp [intOf];omega
  · obtain rfl : a = l.length := by omega
    have HX : Hid (R = some E) := by rw [HR.out];exact HE.out
    obtain ⟨ah,ch,hv,hh,hc⟩ := HRS.out.has
    subst hv
    have HHH := hideC hh
    clear hE hmE hrs hb hh
    go_wp2
    go_ret2
    show OutSh R w _ _
    rw [HX.out]
    exact ⟨HBr.out,hs,ah,ch,HME.out,rfl,HHH.out,hc⟩
end LW
namespace LM
open Go.RowKit
def mapSeg (o : Ob) (L : List AM.Ar) (s : M.Sg) : List AM.Ar := (AW.mapN L (o.base + s.page) s.pages (protN s)).1
def asg (o : Ob) (L : List AM.Ar) : Nat -> List AM.Ar
 | 0 => L
 | k + 1 => mapSeg o (asg o L k) (M.sgAt o.i.segs k)
def aob (l : List Ob) : Nat -> List AM.Ar
 | 0 => []
 | k + 1 => asg (obAt l k) (aob l k) (obAt l k).i.segs.length
def clr (a : AM.Ar) : AM.Ar := ⟨a.page,a.pages,a.prot,false⟩
def clrTo (L : List AM.Ar) : Nat -> List AM.Ar
 | 0 => L
 | k + 1 => (clrTo L k).set k (clr (AM.at_ (clrTo L k) k))
def areasN (l : List Ob) : List AM.Ar := (aob l l.length).map clr
theorem fit_asg (o : Ob) (L : List AM.Ar) (h : AW.AllFit L) : ∀ k,AW.AllFit (asg o L k)
 | 0 => h
 | k + 1 => AW.fit_map _ _ _ _
theorem fit_aob (l : List Ob) : ∀ k,AW.AllFit (aob l k)
 | 0 => AW.fit_nil
 | k + 1 => fit_asg _ _ (fit_aob l k) _
theorem clrTo_length (L : List AM.Ar) : ∀ k,(clrTo L k).length = L.length
 | 0 => rfl
 | k + 1 => by simp only [clrTo,List.length_set,clrTo_length L k]
theorem clrTo_get (L : List AM.Ar) : ∀ k,k <= L.length -> ∀ j,(clrTo L k)[j]? = if j < k then L[j]?.map clr else L[j]?
 | 0,_,j => by simp [clrTo]
 | k + 1,hk,j => by
  have ih := clrTo_get L k (by omega)
  have hl := clrTo_length L k
  have e : AM.at_ (clrTo L k) k = AM.at_ L k := by
   unfold AM.at_
   rw [List.getD_eq_getElem?_getD,List.getD_eq_getElem?_getD,ih k,if_neg (Nat.lt_irrefl _)]
  simp only [clrTo]
  rw [e,List.getElem?_set]
  by_cases hjk : k = j
  · subst hjk
    rw [if_pos rfl,if_pos (by omega),if_pos (by omega)]
    unfold AM.at_
    rw [List.getD_eq_getElem?_getD,List.getElem?_eq_getElem (by omega)]
    rfl
  · rw [if_neg hjk,ih j]
    by_cases h1 : j < k
    · rw [if_pos h1,if_pos (by omega)]
    · rw [if_neg h1,if_neg (by omega)]
theorem clrTo_all (L : List AM.Ar) : clrTo L L.length = L.map clr := by
 apply List.ext_getElem?
 intro j
 rw [clrTo_get L _ (Nat.le_refl _) j,List.getElem?_map]
 by_cases h : j < L.length
 · rw [if_pos h]
 · rw [if_neg h,List.getElem?_eq_none (by omega)]
   rfl
theorem areaCells_set (b : Bool) : ∀ (L : List AM.Ar) (k : Nat),k < L.length -> (AM.areaCells L).set (k * 4 + 3) (.bool b) = AM.areaCells (L.set k ⟨(AM.at_ L k).page,(AM.at_ L k).pages,(AM.at_ L k).prot,b⟩)
 | [],k,h => by simp at h
 | a :: r,0,h => rfl
 | a :: r,k + 1,h => by
  have ih := areaCells_set b r k (by simpa using h)
  show (AM.four a ++ AM.areaCells r).set _ _ = AM.four a ++ AM.areaCells (r.set k _)
  rw [List.set_append_right _ _ (by simp [AM.four];omega)]
  congr 1
  have e : (k + 1) * 4 + 3 - (AM.four a).length = k * 4 + 3 := by simp [AM.four];omega
  rw [e,ih]
  rfl
end LM
end Go.Proofs.YtkdigjpejnebkaaGreat
