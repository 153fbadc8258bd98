import Derived.Test.YtkdigjpejnebkaaGreatGP20
import Derived.Test.YtkdigjpejnebkaaGreatGP19
import Derived.Test.YtkdigjpejnebkaaGreatGP01
set_option linter.unusedVariables false
set_option maxRecDepth 100000
set_option linter.unusedSimpArgs false
namespace Go.Proofs.YtkdigjpejnebkaaGreat
namespace LM
open Go.RowKit
structure Ob where
 i : M.Im
 a : M.At
 base : Int
def ob0 : Ob := ⟨⟨⟨#[]⟩,[],[],[],[],0⟩,⟨none,0,none,0,none,0,none,0⟩,0⟩
def obAt (l : List Ob) (k : Nat) : Ob := l.getD k ob0
def cellsO (o : Ob) : Array Value := #[.string o.i.name,.slice o.a.an o.i.needs.length o.a.cn,.slice o.a.ag o.i.segs.length o.a.cg,.slice o.a.ay o.i.syms.length o.a.cy,.slice o.a.ar o.i.rels.length o.a.cr,.int .i64 o.i.entry,.int .i64 o.base]
def LieO (w : World) (b off : Nat) (l : List Ob) : Prop := ∀ k,k < l.length ->
 (w.cell? ⟨b,off + k * 7,none⟩ = some (.string (obAt l k).i.name) /\ w.cell? ⟨b,off + k * 7 + 1,none⟩ = some (.slice (obAt l k).a.an (obAt l k).i.needs.length (obAt l k).a.cn) /\
  w.cell? ⟨b,off + k * 7 + 2,none⟩ = some (.slice (obAt l k).a.ag (obAt l k).i.segs.length (obAt l k).a.cg) /\ w.cell? ⟨b,off + k * 7 + 3,none⟩ = some (.slice (obAt l k).a.ay (obAt l k).i.syms.length (obAt l k).a.cy) /\
  w.cell? ⟨b,off + k * 7 + 4,none⟩ = some (.slice (obAt l k).a.ar (obAt l k).i.rels.length (obAt l k).a.cr) /\ w.cell? ⟨b,off + k * 7 + 5,none⟩ = some (.int .i64 (obAt l k).i.entry) /\ w.cell? ⟨b,off + k * 7 + 6,none⟩ = some (.int .i64 (obAt l k).base)) /\ M.HasIm w (obAt l k).a (obAt l k).i
theorem lieO {w w' : World} {b off : Nat} {l : List Ob} (hb : Below w.heap.size w w') (hlt : b < w.heap.size) (h : LieO w b off l) : LieO w' b off l := fun k hk => by
 obtain ⟨⟨c0,c1,c2,c3,c4,c5,c6⟩,hi⟩ := h k hk
 exact ⟨⟨(M.below_cell hb hlt).trans c0,(M.below_cell hb hlt).trans c1,(M.below_cell hb hlt).trans c2,(M.below_cell hb hlt).trans c3,(M.below_cell hb hlt).trans c4,(M.below_cell hb hlt).trans c5,(M.below_cell hb hlt).trans c6⟩,hi.below hb⟩
def HasO (w : World) (ao : Option Addr) (l : List Ob) : Prop := M.HasBy LieO w ao l
theorem HasO.below {w w' : World} {ao : Option Addr} {l : List Ob} (h : HasO w ao l) (hb : Below w.heap.size w w') : HasO w' ao l := M.HasBy.below (lie := LieO) (fun hb hlt h => lieO hb hlt h) h hb
def lastSeg (i : M.Im) : M.Sg := M.sgAt i.segs (i.segs.length - 1)
def endO (o : Ob) : Int := o.base + (lastSeg o.i).page + (lastSeg o.i).pages
def addrO (o : Ob) (at' : Int) : Int := o.base * 16 + at'
def protN (s : M.Sg) : Int := if s.wr then (if s.ex then 3 else 1) else (if s.ex then 2 else 0)
theorem seg_bounds {i : M.Im} (hc : M.chkN i = 0) (k : Nat) (hk : k < i.segs.length) : 0 <= (M.sgAt i.segs k).page /\ 1 <= (M.sgAt i.segs k).pages /\ (M.sgAt i.segs k).page + (M.sgAt i.segs k).pages <= 255 /\ ((M.sgAt i.segs k).data.size : Int) <= (M.sgAt i.segs k).pages * 16 := by
 unfold M.chkN at hc
 split at hc
 · simp at hc
 · split at hc
   · simp at hc
   · split at hc
     · simp at hc
     · rename_i h
       have h' : M.rangesB i = true := by simpa using h
       unfold M.rangesB at h'
       have := M.all_at M.rangeB M.sg0 i.segs k hk h'
       unfold M.rangeB at this
       exact of_decide_eq_true this
theorem counts_of {i : M.Im} (hc : M.chkN i = 0) : 1 <= i.segs.length /\ i.segs.length <= 6 /\ i.needs.length <= 4 /\ i.syms.length <= 12 /\ i.rels.length <= 16 := by
 unfold M.chkN at hc
 split at hc
 · simp at hc
 · split at hc
   · simp at hc
   · rename_i h
     have h' : M.countsB i = true := by simpa using h
     unfold M.countsB at h'
     exact of_decide_eq_true h'
theorem last_bounds {i : M.Im} (hc : M.chkN i = 0) : 0 <= (lastSeg i).page /\ 1 <= (lastSeg i).pages /\ (lastSeg i).page + (lastSeg i).pages <= 255 := by
 have h1 := counts_of hc
 have h2 := seg_bounds hc (i.segs.length - 1) (by omega)
 exact ⟨h2.1,h2.2.1,h2.2.2.1⟩
end LM
namespace LW
open Go.RowKit
open W (hideC)
set_option maxHeartbeats 1000000 in
theorem end_any (o : LM.Ob) (w : World) (h : M.HasIm w o.a o.i) (hc : M.chkN o.i = 0) (h0 : 0 <= o.base) (h1 : o.base <= 100000) :
  Calls Tryz.prog 101 #[.agg (LM.cellsO o)] w fun e w' => e = .returned (.int .i64 (LM.endO o)) /\ Below w.heap.size w w' := by
 have hl := LM.last_bounds hc
 have hn := LM.counts_of hc
 have HS := h.segs
 obtain ⟨⟨nm,ns,gs,ys,rs,en⟩,⟨an,cn,ag,cg,ay,cy,ar,cr⟩,ba⟩ := o
 simp only [LM.cellsO]
 simp only at HS hn h0 h1
 obtain ⟨b,off,hag,hbl,hlie⟩ := HS (by omega)
 subst hag
 have E : Hid (LM.endO ⟨⟨nm,ns,gs,ys,rs,en⟩,⟨an,cn,some ⟨b,off,none⟩,cg,ay,cy,ar,cr⟩,ba⟩ = ba + (M.sgAt gs (gs.length - 1)).page + (M.sgAt gs (gs.length - 1)).pages) := rfl
 have hl' : 0 <= (M.sgAt gs (gs.length - 1)).page /\ 1 <= (M.sgAt gs (gs.length - 1)).pages /\ (M.sgAt gs (gs.length - 1)).page + (M.sgAt gs (gs.length - 1)).pages <= 255 := hl
 obtain ⟨c0,c1,c2,c3,c4⟩ := hlie (gs.length - 1) (by omega)
 rw [E.out]
 obtain ⟨s,hs⟩ : ∃ s,s = M.sgAt gs (gs.length - 1) := ⟨_,rfl⟩
 rw [<- hs] at c0 c1 c2 c3 c4 hl'
 rw [<- hs]
 clear hs hl hlie HS h E
 obtain ⟨G,hG⟩ : ∃ G,G = gs.length := ⟨_,rfl⟩
 rw [<- hG] at c0 c1 c2 c3 c4 hn
 rw [<- hG]
 clear hG hc
 have hG1 : (1 : Int) <= (G : Int) := by omega
 have hG2 : 0 < G := by omega
 have HB := hideC ((Below.refl w.heap.size w).alloc (Nat.le_refl _) (.cells #[.string nm,.slice an ns.length cn,.slice (some ⟨b,off,none⟩) G cg,.slice ay ys.length cy,.slice ar rs.length cr,.int .i64 en,.int .i64 ba] 178))
 go_enter Tryz.func101,Tryz.ntmps101
 go_wp2
 go_ret
 exact ⟨rfl,HB.out.alloc HB.out.size _⟩
theorem address_any (o : LM.Ob) (at' : Int) (w : World) (h0 : 0 <= o.base) (h1 : o.base <= 100000) (h2 : 0 <= at') (h3 : at' <= 100000) :
  Calls Tryz.prog 104 #[.agg (LM.cellsO o),.int .i64 at'] w fun e w' => e = .returned (.int .i64 (LM.addrO o at')) /\ Below w.heap.size w w' := by
 obtain ⟨⟨nm,ns,gs,ys,rs,en⟩,⟨an,cn,ag,cg,ay,cy,ar,cr⟩,ba⟩ := o
 simp only [LM.cellsO,LM.addrO]
 simp only at h0 h1
 go_enter Tryz.func104,Tryz.ntmps104
 go_wp2
 go_ret
 exact ⟨rfl,(Below.refl _ _).alloc (Nat.le_refl _) _⟩
theorem prot_any (s : M.Sg) (w : World) :
  Calls Tryz.prog 122 #[.agg #[.int .i64 s.page,.int .i64 s.pages,.string s.data,.bool s.wr,.bool s.ex]] w fun e w' => e = .returned (.int .i64 (LM.protN s)) /\ Below w.heap.size w w' := by
 obtain ⟨pg,pn,dt,wr,ex⟩ := s
 have b1 : bits BinOp.or IntKind.i64 0 1 = 1 := by decide
 have b2 : bits BinOp.or IntKind.i64 0 2 = 2 := by decide
 have b3 : bits BinOp.or IntKind.i64 1 2 = 3 := by decide
 cases wr <;> cases ex
 all_goals
  go_enter Tryz.func122,Tryz.ntmps122
  go_wp2
  go_ret
  exact ⟨ret_int (by first | rfl | simp [LM.protN,b1,b2,b3]),(Below.refl _ _).alloc (Nat.le_refl _) _⟩
theorem str_eq (s t : ByteArray) : (s.toList == t.toList) = decide (s = t) := by
 rw [Bool.eq_iff_iff]
 simp only [beq_iff_eq,decide_eq_true_eq]
 constructor
 · intro e
   rw [Lib.toList_data,Lib.toList_data] at e
   cases s
   cases t
   congr 1
   exact Array.toList_inj.1 e
 · rintro rfl
   rfl
theorem gather1_any (o : LM.Ob) (P : Nat) (s : ByteArray) (w : World) (hP : w.cell? ⟨P,0,none⟩ = some (.string s)) (hn : M.Short o.i.name.size) (hs : M.Short s.size) :
  Calls Tryz.prog 117 #[.agg (LM.cellsO o),.pointer (some ⟨P,0,none⟩)] w fun e w' => e = .returned (.bool (decide (o.i.name = s))) /\ Below w.heap.size w w' := by
 have hPl : P < w.heap.size := World.block_lt_of_cell? w _ hP
 obtain ⟨⟨nm,ns,gs,ys,rs,en⟩,⟨an,cn,ag,cg,ay,cy,ar,cr⟩,ba⟩ := o
 simp only [LM.cellsO]
 go_enter Tryz.func117,Tryz.ntmps117
 go_wp2
 go_ret
 exact ⟨ret_bool (str_eq _ _),(Below.refl _ _).alloc (Nat.le_refl _) _⟩
end LW
namespace W
open Go.RowKit
set_option maxHeartbeats 4000000 in
theorem rightNames_any (i : M.Im) (a : M.At) (w : World) (h : M.HasIm w a i) (hf : M.Fit i) : Calls Tryz.prog 130 #[.agg (M.cellsI a i)] w fun e w' => e = .returned (.bool (M.namesB i)) /\ Below w.heap.size w w' := by
 obtain ⟨an,cn,ag,cg,ay,cy,ar,cr⟩ := a
 obtain ⟨nm,ns,gs,ys,rs,en⟩ := i
 obtain ⟨h1,h2,h3,h4⟩ := h
 obtain ⟨f1,f2,f3,f4,f5,f6,f7,f8,f9,f10⟩ := hf
 simp only at h1 h2 h3 h4 f1 f2 f3 f4 f5 f6 f7 f8 f9 f10
 unfold M.Short at f2 f6 f8
 simp only [M.cellsI,M.namesB]
 have H1 := hideC h1
 have H3 := hideC h3
 have H4 := hideC h4
 have F3 := hideC f3
 have F7 := hideC f7
 have F9 := hideC f9
 clear h1 h2 h3 h4 f3 f4 f5 f7 f9 f10
 have BOX := hideC (B.new w #[.string nm,.slice an ns.length cn,.slice ag gs.length cg,.slice ay ys.length cy,.slice ar rs.length cr,.int .i64 en] 135)
 have HB0 := hideC ((Below.refl w.heap.size w).alloc (Nat.le_refl _) (.cells #[.string nm,.slice an ns.length cn,.slice ag gs.length cg,.slice ay ys.length cy,.slice ar rs.length cr,.int .i64 en] 135))
 obtain ⟨X,hX⟩ : ∃ X : Array Value,X = #[.string nm,.slice an ns.length cn,.slice ag gs.length cg,.slice ay ys.length cy,.slice ar rs.length cr,.int .i64 en] := ⟨_,rfl⟩
 have HX := hideC hX
 rw [<- hX] at BOX HB0
 clear hX
 cases e1 : M.nameB nm
 · go_enter Tryz.func130,Tryz.ntmps130
   go_wp2_with (go_at_call 149;refine (isName_any _ _ f1).mono ?_;rintro e w' ⟨rfl,rfl⟩;rw [e1])
   go_ret
   rw [<- HX.out]
   exact ⟨rfl,HB0.out⟩
 · go_enter Tryz.func130,Tryz.ntmps130
   go_wp2_with (go_at_call 149;refine (isName_any _ _ f1).mono ?_;rintro e w' ⟨rfl,rfl⟩;rw [e1])
   rw [<- HX.out]
   go_loopw [16] (fun i wr => ∃ k : Nat,k <= ns.length /\ i = .int .i64 k /\ (∀ j,j < k -> M.nameB (M.strAt ns j) = true) /\ wr.heap[w.heap.size]? = some (.cells X 135 (0,0)) /\ Below w.heap.size w wr) (fun i _ => ns.length - (intOf i).toNat)
   case atStart => exact ⟨0,by omega,rfl,fun j h => by omega,BOX.out,HB0.out⟩
   case round =>
    obtain ⟨k0,hk,rfl,hall,hbox,hb⟩ := hrel
    have HA0 := hideC hall
    have BOX0 := hideC hbox
    have HB1 := hideC hb
    have bx0 := B.cell hbox 0 (by rw [HX.out];rfl)
    have bx1 := B.cell hbox 1 (by rw [HX.out];rfl)
    have bx2 := B.cell hbox 2 (by rw [HX.out];rfl)
    have bx3 := B.cell hbox 3 (by rw [HX.out];rfl)
    have bx4 := B.cell hbox 4 (by rw [HX.out];rfl)
    have bx5 := B.cell hbox 5 (by rw [HX.out];rfl)
    clear hall hbox
    by_cases hlt : k0 < ns.length
    · obtain ⟨b,off,hao,hbl,hl⟩ := H1.out (by omega)
      have hli : (k0 : Int) < (ns.length : Int) := by omega
      have c0 := M.lieS hb hbl hl k0 hlt
      have fs := F3.out k0 hlt
      obtain ⟨x,hx⟩ : ∃ x,x = M.strAt ns k0 := ⟨_,rfl⟩
      rw [<- hx] at c0 fs
      have HXX := hideC hx
      clear hx hb hl
      subst hao
      cases hc : M.nameB x
      · have HR : Hid ((true && (ns.all M.nameB && (ys.all (fun y => M.nameB y.name) && rs.all M.relNameB))) = false) := by
         show _ = _
         rw [M.all_false M.nameB M.nil ns k0 hlt (by show M.nameB (M.strAt ns k0) = false;rw [<- HXX.out];exact hc)]
         simp
        go_wp2_with (go_at_call 149;refine (isName_any _ _ fs).mono ?_;rintro e w' ⟨rfl,rfl⟩;rw [hc])
        go_ret
        exact ⟨ret_bool HR.out.symm,HB1.out⟩
      · go_wp2_with (go_at_call 149;refine (isName_any _ _ fs).mono ?_;rintro e w' ⟨rfl,rfl⟩;rw [hc])
        go_roundw
        case rel => exact ⟨k0 + 1,by omega,by go_num,fun j h => if e : j = k0 then by rw [e,<- HXX.out];exact hc else HA0.out j (by omega),BOX0.out,HB1.out⟩
        case measure => simp [intOf];omega
    · obtain rfl : k0 = ns.length := by omega
      clear hb
      go_wp2_with (go_at_call 149;fail)
      go_loopw [27] (fun i wr => ∃ k : Nat,k <= ys.length /\ i = .int .i64 k /\ (∀ j,j < k -> M.nameB (M.syAt ys j).name = true) /\ wr.heap[w.heap.size]? = some (.cells X 135 (0,0)) /\ Below w.heap.size w wr) (fun i _ => ys.length - (intOf i).toNat)
      case atStart => exact ⟨0,by omega,rfl,fun j h => by omega,BOX0.out,HB1.out⟩
      case round =>
       obtain ⟨k1,hk,rfl,hall,hbox,hb⟩ := hrel
       have HA1 := hideC hall
       have BOX1 := hideC hbox
       have HB2 := hideC hb
       have bx0 := B.cell hbox 0 (by rw [HX.out];rfl)
       have bx1 := B.cell hbox 1 (by rw [HX.out];rfl)
       have bx2 := B.cell hbox 2 (by rw [HX.out];rfl)
       have bx3 := B.cell hbox 3 (by rw [HX.out];rfl)
       have bx4 := B.cell hbox 4 (by rw [HX.out];rfl)
       have bx5 := B.cell hbox 5 (by rw [HX.out];rfl)
       clear hall hbox
       by_cases hlt : k1 < ys.length
       · obtain ⟨b,off,hao,hbl,hl⟩ := H3.out (by omega)
         have hli : (k1 : Int) < (ys.length : Int) := by omega
         obtain ⟨c0,c1⟩ := M.lieY hb hbl hl k1 hlt
         have fs := (F7.out k1 hlt).1
         obtain ⟨y,hx⟩ : ∃ y,y = M.syAt ys k1 := ⟨_,rfl⟩
         rw [<- hx] at c0 c1 fs
         have HXX := hideC hx
         clear hx hb hl
         obtain ⟨x,xp⟩ := y
         simp only at c0 c1 fs
         subst hao
         cases hc : M.nameB x
         · have HR : Hid ((true && (ns.all M.nameB && (ys.all (fun y => M.nameB y.name) && rs.all M.relNameB))) = false) := by
            show _ = _
            rw [M.all_false (fun y => M.nameB y.name) M.sy0 ys k1 hlt (by show M.nameB (M.syAt ys k1).name = false;rw [<- HXX.out];exact hc)]
            simp
           go_wp2_with (go_at_call 149;refine (isName_any _ _ fs).mono ?_;rintro e w' ⟨rfl,rfl⟩;rw [hc])
           go_ret
           exact ⟨ret_bool HR.out.symm,HB2.out.alloc HB2.out.size _⟩
         · go_wp2_with (go_at_call 149;refine (isName_any _ _ fs).mono ?_;rintro e w' ⟨rfl,rfl⟩;rw [hc])
           go_roundw
           case rel => exact ⟨k1 + 1,by omega,by go_num,fun j h => if e : j = k1 then by rw [e,<- HXX.out];exact hc else HA1.out j (by omega),B.alloc BOX1.out _,HB2.out.alloc HB2.out.size _⟩
           case measure => simp [intOf];omega
       · obtain rfl : k1 = ys.length := by omega
         clear hb
         go_wp2_with (go_at_call 149;fail)
         go_loopw [39] (fun i wr => ∃ k : Nat,k <= rs.length /\ i = .int .i64 k /\ (∀ j,j < k -> M.relNameB (M.rlAt rs j) = true) /\ wr.heap[w.heap.size]? = some (.cells X 135 (0,0)) /\ Below w.heap.size w wr) (fun i _ => rs.length - (intOf i).toNat)
         case atStart => exact ⟨0,by omega,rfl,fun j h => by omega,BOX1.out,HB2.out⟩
         case round =>
          obtain ⟨k2,hk,rfl,hall,hbox,hb⟩ := hrel
          have HA2 := hideC hall
          have BOX2 := hideC hbox
          have HB3 := hideC hb
          have bx0 := B.cell hbox 0 (by rw [HX.out];rfl)
          have bx1 := B.cell hbox 1 (by rw [HX.out];rfl)
          have bx2 := B.cell hbox 2 (by rw [HX.out];rfl)
          have bx3 := B.cell hbox 3 (by rw [HX.out];rfl)
          have bx4 := B.cell hbox 4 (by rw [HX.out];rfl)
          have bx5 := B.cell hbox 5 (by rw [HX.out];rfl)
          clear hall hbox
          by_cases hlt : k2 < rs.length
          · obtain ⟨b,off,hao,hbl,hl⟩ := H4.out (by omega)
            have hli : (k2 : Int) < (rs.length : Int) := by omega
            obtain ⟨c0,c1,c2⟩ := M.lieR hb hbl hl k2 hlt
            have fs := (F9.out k2 hlt).2.1
            obtain ⟨y,hx⟩ : ∃ y,y = M.rlAt rs k2 := ⟨_,rfl⟩
            rw [<- hx] at c0 c1 c2 fs
            have HXX := hideC hx
            clear hx hb hl
            obtain ⟨xp,x,xa⟩ := y
            simp only at c0 c1 c2 fs
            subst hao
            by_cases he : x.size = 0
            · have hrl : Hid (M.relNameB ⟨xp,x,xa⟩ = true) := by show _ = _;unfold M.relNameB;simp only;rw [decide_eq_true he];rfl
              obtain rfl : x = ⟨#[]⟩ := by cases x with | mk d => congr 1;exact Array.eq_empty_of_size_eq_zero he
              go_wp2
              go_roundw
              case rel => exact ⟨k2 + 1,by omega,by go_num,fun j h => if e : j = k2 then by rw [e,<- HXX.out];exact hrl.out else HA2.out j (by omega),B.alloc BOX2.out _,HB3.out.alloc HB3.out.size _⟩
              case measure => simp [intOf];omega
            · have hne : ¬ x.toList = [] := by rw [Lib.toList_data];intro e;exact he (by rw [Lib.size_eq,e];rfl)
              have hne2 : x.toList.isEmpty = false := by cases hh : x.toList with | nil => exact absurd hh hne | cons _ _ => rfl
              cases hc : M.nameB x
              · have HR : Hid ((true && (ns.all M.nameB && (ys.all (fun y => M.nameB y.name) && rs.all M.relNameB))) = false) := by
                 show _ = _
                 rw [M.all_false M.relNameB M.rl0 rs k2 hlt (by show M.relNameB (M.rlAt rs k2) = false;rw [<- HXX.out];unfold M.relNameB;simp only;rw [hc,decide_eq_false he];rfl)]
                 simp
                go_wp2_with (go_at_call 149;refine (isName_any _ _ fs).mono ?_;rintro e w' ⟨rfl,rfl⟩;rw [hc])
                go_ret
                exact ⟨ret_bool HR.out.symm,HB3.out.alloc HB3.out.size _⟩
              · have hrl : Hid (M.relNameB ⟨xp,x,xa⟩ = true) := by show _ = _;unfold M.relNameB;simp only;rw [hc];simp
                go_wp2_with (go_at_call 149;refine (isName_any _ _ fs).mono ?_;rintro e w' ⟨rfl,rfl⟩;rw [hc])
                go_roundw
                case rel => exact ⟨k2 + 1,by omega,by go_num,fun j h => if e : j = k2 then by rw [e,<- HXX.out];exact hrl.out else HA2.out j (by omega),B.alloc BOX2.out _,HB3.out.alloc HB3.out.size _⟩
                case measure => simp [intOf];omega
          · obtain rfl : k2 = rs.length := by omega
            clear hb
            have HR : Hid ((true && (ns.all M.nameB && (ys.all (fun y => M.nameB y.name) && rs.all M.relNameB))) = true) := by
             show _ = _
             rw [M.all_true M.nameB M.nil ns (fun j hj => HA0.out j hj),M.all_true (fun y => M.nameB y.name) M.sy0 ys (fun j hj => HA1.out j hj),M.all_true M.relNameB M.rl0 rs (fun j hj => HA2.out j hj)]
             rfl
            go_wp2
            go_ret
            exact ⟨ret_bool HR.out.symm,HB3.out⟩
set_option maxHeartbeats 2000000 in
theorem rightCounts_any (i : M.Im) (a : M.At) (w : World) (hf : M.Fit i) : Calls Tryz.prog 131 #[.agg (M.cellsI a i)] w fun e w' => e = .returned (.bool (M.countsB i)) /\ Below w.heap.size w w' := by
 obtain ⟨an,cn,ag,cg,ay,cy,ar,cr⟩ := a
 obtain ⟨nm,ns,gs,ys,rs,en⟩ := i
 obtain ⟨f1,f2,f3,f4,f5,f6,f7,f8,f9,f10⟩ := hf
 simp only at f2 f4 f6 f8
 unfold M.Short at f2 f4 f6 f8
 simp only [M.cellsI,M.countsB]
 have HB0 : ∀ o,Hid (Below w.heap.size w (w.alloc o)) := fun o => (Below.refl w.heap.size w).alloc (Nat.le_refl _) o
 obtain ⟨r,hr⟩ : ∃ r,r = decide (1 <= gs.length /\ gs.length <= 6 /\ ns.length <= 4 /\ ys.length <= 12 /\ rs.length <= 16) := ⟨_,rfl⟩
 rw [<- hr]
 have HR := hideC hr
 clear hr f1 f3 f5 f7 f9 f10
 obtain ⟨ln,hln⟩ : ∃ n,n = ns.length := ⟨_,rfl⟩
 obtain ⟨lg,hlg⟩ : ∃ n,n = gs.length := ⟨_,rfl⟩
 obtain ⟨ly,hly⟩ : ∃ n,n = ys.length := ⟨_,rfl⟩
 obtain ⟨lr,hlr⟩ : ∃ n,n = rs.length := ⟨_,rfl⟩
 rw [<- hln,<- hlg,<- hly,<- hlr] at HR
 rw [<- hln,<- hlg,<- hly,<- hlr]
 rw [<- hln] at f2
 rw [<- hlg] at f4
 rw [<- hly] at f6
 rw [<- hlr] at f8
 clear hln hlg hly hlr
 by_cases d1 : 1 <= (lg : Int)
 · by_cases d2 : (lg : Int) <= 6
   · by_cases d3 : (ln : Int) <= 4
     · by_cases d4 : (ly : Int) <= 12
       · by_cases d5 : (lr : Int) <= 16
         · have e : r = true := by rw [HR.out];exact decide_eq_true (by omega)
           subst e
           have q1 : 1 <= lg := by omega
           have q2 : lg <= 6 := by omega
           have q3 : ln <= 4 := by omega
           have q4 : ly <= 12 := by omega
           have q5 : lr <= 16 := by omega
           go_enter Tryz.func131,Tryz.ntmps131
           go_wp2
           go_ret
           exact ⟨rfl,(HB0 _).out⟩
         · have e : r = false := by rw [HR.out];exact decide_eq_false (by omega)
           subst e
           have q1 : 1 <= lg := by omega
           have q2 : lg <= 6 := by omega
           have q3 : ln <= 4 := by omega
           have q4 : ly <= 12 := by omega
           have q5 : decide ((lr : Int) <= 16) = false := decide_eq_false d5
           have q6 : decide (lr <= 16) = false := decide_eq_false (by omega)
           have q7 : ¬ lr <= 16 := by omega
           go_enter Tryz.func131,Tryz.ntmps131
           go_wp2
           go_ret
           exact ⟨rfl,(HB0 _).out⟩
       · have e : r = false := by rw [HR.out];exact decide_eq_false (by omega)
         subst e
         have q1 : 1 <= lg := by omega
         have q2 : lg <= 6 := by omega
         have q3 : ln <= 4 := by omega
         have q4 : decide ((ly : Int) <= 12) = false := decide_eq_false d4
         have q6 : decide (ly <= 12) = false := decide_eq_false (by omega)
         have q7 : ¬ ly <= 12 := by omega
         go_enter Tryz.func131,Tryz.ntmps131
         go_wp2
         go_ret
         exact ⟨rfl,(HB0 _).out⟩
     · have e : r = false := by rw [HR.out];exact decide_eq_false (by omega)
       subst e
       have q1 : 1 <= lg := by omega
       have q2 : lg <= 6 := by omega
       have q4 : decide ((ln : Int) <= 4) = false := decide_eq_false d3
       have q6 : decide (ln <= 4) = false := decide_eq_false (by omega)
       have q7 : ¬ ln <= 4 := by omega
       go_enter Tryz.func131,Tryz.ntmps131
       go_wp2
       go_ret
       exact ⟨rfl,(HB0 _).out⟩
   · have e : r = false := by rw [HR.out];exact decide_eq_false (by omega)
     subst e
     have q1 : 1 <= lg := by omega
     have q4 : decide ((lg : Int) <= 6) = false := decide_eq_false d2
     have q6 : decide (lg <= 6) = false := decide_eq_false (by omega)
     have q7 : ¬ lg <= 6 := by omega
     go_enter Tryz.func131,Tryz.ntmps131
     go_wp2
     go_ret
     exact ⟨rfl,(HB0 _).out⟩
 · have e : r = false := by rw [HR.out];exact decide_eq_false (by omega)
   subst e
   have q4 : decide ((1 : Int) <= (lg : Int)) = false := decide_eq_false d1
   obtain rfl : lg = 0 := by omega
   go_enter Tryz.func131,Tryz.ntmps131
   go_wp2
   go_ret
   exact ⟨rfl,(HB0 _).out⟩
set_option maxHeartbeats 4000000 in
theorem rightRanges_any (l : List M.Sg) (ao : Option Addr) (cap : Nat) (w : World) (h : M.HasBy M.LieG w ao l) (hn : M.Short l.length) (hf : ∀ k,k < l.length -> M.FitG (M.sgAt l k)) :
  Calls Tryz.prog 132 #[.slice ao l.length cap] w fun e w' => e = .returned (.bool (l.all M.rangeB)) /\ Below w.heap.size w w' := by
 unfold M.Short at hn
 have H := hideC h
 have F := hideC hf
 clear h hf
 go_enter Tryz.func132,Tryz.ntmps132
 go_wp2
 go_loopw [7] (fun i wr => ∃ k : Nat,k <= l.length /\ i = .int .i64 k /\ (∀ j,j < k -> M.rangeB (M.sgAt l j) = true) /\ Below w.heap.size w wr) (fun i _ => l.length - (intOf i).toNat)
 case atStart => exact ⟨0,by omega,rfl,fun j h => by omega,Below.refl _ _⟩
 case round =>
  obtain ⟨k,hk,rfl,hall,hb⟩ := hrel
  have HA := hideC hall
  have HB := hideC hb
  clear hall
  by_cases hlt : k < l.length
  · obtain ⟨b,off,hao,hbl,hl⟩ := H.out (by omega)
    subst hao
    obtain ⟨c0,c1,c2,c3,c4⟩ := M.lieG hb hbl hl k hlt
    obtain ⟨g1,g2,g3⟩ := F.out k hlt
    obtain ⟨s,hs⟩ : ∃ s,s = M.sgAt l k := ⟨_,rfl⟩
    rw [<- hs] at c0 c1 c2 c3 c4 g1 g2 g3
    have HS := hideC hs
    clear hs hb hl
    obtain ⟨p,n,d,x,y⟩ := s
    simp only at c0 c1 c2 c3 c4 g1 g2 g3
    unfold M.I64 at g1 g2
    unfold M.Short at g3
    have hml : d.size <= maxLen := by unfold maxLen;omega
    have hli : (k : Int) < (l.length : Int) := by omega
    have hbad : Hid (¬ (0 <= p /\ 1 <= n /\ p + n <= 255 /\ (d.size : Int) <= n * 16) -> l.all M.rangeB = false) := fun hx =>
     M.all_false M.rangeB M.sg0 l k hlt (by show M.rangeB (M.sgAt l k) = false;rw [<- HS.out];exact decide_eq_false hx)
    by_cases d1 : 0 <= p
    · have d1' : ¬ p < 0 := by omega
      by_cases d2 : 1 <= n
      · have d2' : ¬ n < 1 := by omega
        by_cases d3 : p + n <= 255
        · have d3' : ¬ 255 - p < n := by omega
          by_cases d4 : (d.size : Int) <= n * 16
          · have d4' : ¬ n * 16 < (d.size : Int) := by omega
            have hgood : Hid (M.rangeB ⟨p,n,d,x,y⟩ = true) := decide_eq_true ⟨d1,d2,d3,d4⟩
            go_wp2
            go_roundw
            case rel => exact ⟨k + 1,by omega,by go_num,fun j h => if e : j = k then by rw [e,<- HS.out];exact hgood.out else HA.out j (by omega),HB.out.alloc HB.out.size _⟩
            case measure => simp [intOf];omega
          · have d4' : n * 16 < (d.size : Int) := by omega
            have HR := hideC (hbad.out (by omega))
            go_wp2
            go_ret
            exact ⟨ret_bool HR.out.symm,HB.out.alloc HB.out.size _⟩
        · have d3' : 255 - p < n := by omega
          have HR := hideC (hbad.out (by omega))
          go_wp2
          go_ret
          exact ⟨ret_bool HR.out.symm,HB.out.alloc HB.out.size _⟩
      · have d2' : n < 1 := by omega
        have HR := hideC (hbad.out (by omega))
        go_wp2
        go_ret
        exact ⟨ret_bool HR.out.symm,HB.out.alloc HB.out.size _⟩
    · have d1' : p < 0 := by omega
      have HR := hideC (hbad.out (by omega))
      go_wp2
      go_ret
      exact ⟨ret_bool HR.out.symm,HB.out.alloc HB.out.size _⟩
  · obtain rfl : k = l.length := by omega
    have HR := hideC (M.all_true M.rangeB M.sg0 l (fun j hj => HA.out j hj))
    clear hb
    go_wp2
    go_ret
    exact ⟨ret_bool HR.out.symm,HB.out⟩
theorem over_mono (l : List M.Sg) (k n : Nat) (h : M.overTo l k = false) (hk : k <= n) : M.overTo l n = false := by
 induction n with
 | zero => obtain rfl : k = 0 := by omega
           exact h
 | succ n ih =>
  rcases Nat.lt_or_ge n k with g | g
  · obtain rfl : k = n + 1 := by omega
    exact h
  · simp only [M.overTo]
    rw [ih g];rfl
theorem apart_no (l : List M.Sg) (k : Nat) (hk : k < l.length) (h : M.overTo l (k + 1) = false) : M.apartB l = false := over_mono l (k + 1) l.length h hk
set_option maxHeartbeats 4000000 in
theorem overlap_any (l : List M.Sg) (ao : Option Addr) (cap : Nat) (w : World) (h : M.HasBy M.LieG w ao l) (hn : M.Short l.length) (hr : l.all M.rangeB = true) :
  Calls Tryz.prog 133 #[.slice ao l.length cap] w fun e w' => e = .returned (.bool (!M.apartB l)) /\ Below w.heap.size w w' := by
 unfold M.Short at hn
 have H := hideC h
 have F := hideC hr
 clear h hr
 go_enter Tryz.func133,Tryz.ntmps133
 go_wp2
 go_loopw [3] (fun i wr => ∃ k : Nat,1 <= k /\ (k <= l.length ∨ k = 1) /\ i = .int .i64 k /\ M.overTo l k = true /\ Below w.heap.size w wr) (fun i _ => l.length - (intOf i).toNat)
 case atStart => exact ⟨1,by omega,.inr rfl,rfl,rfl,Below.refl _ _⟩
 case round =>
  obtain ⟨k,hk1,hk,rfl,hall,hb⟩ := hrel
  have HA := hideC hall
  have HB := hideC hb
  clear hall
  by_cases hlt : k < l.length
  · obtain ⟨b,off,hao,hbl,hl⟩ := H.out (by omega)
    subst hao
    obtain ⟨c0,c1,c2,c3,c4⟩ := M.lieG hb hbl hl k hlt
    obtain ⟨e0,e1,e2,e3,e4⟩ := M.lieG hb hbl hl (k - 1) (by omega)
    have g1 : 0 <= (M.sgAt l (k - 1)).page /\ 1 <= (M.sgAt l (k - 1)).pages /\ (M.sgAt l (k - 1)).page + (M.sgAt l (k - 1)).pages <= 255 /\ _ := of_decide_eq_true (M.all_at M.rangeB M.sg0 l (k - 1) (by omega) F.out)
    have hov : Hid (M.overTo l (k + 1) = decide ((M.sgAt l (k - 1)).page + (M.sgAt l (k - 1)).pages <= (M.sgAt l k).page)) := by
     show _ = _
     simp only [M.overTo,HA.out,Bool.true_and,M.overAt]
     rw [show (k == 0) = false from by simp;omega,Bool.false_or]
    obtain ⟨s,hs⟩ : ∃ s,s = M.sgAt l k := ⟨_,rfl⟩
    obtain ⟨t,ht⟩ : ∃ t,t = M.sgAt l (k - 1) := ⟨_,rfl⟩
    rw [<- hs] at c0 c1 c2 c3 c4 hov
    rw [<- ht] at e0 e1 e2 e3 e4 g1 hov
    clear hs ht hb hl
    obtain ⟨sp,sn,sd,sx,sy⟩ := s
    obtain ⟨tp,tn,td,tx,ty⟩ := t
    simp only at c0 c1 c2 c3 c4 e0 e1 e2 e3 e4 g1 hov
    obtain ⟨g1,g2,g3,g4⟩ := g1
    clear c1 c2 c3 c4 e2 e3 e4 g4
    have hli : (k : Int) < (l.length : Int) := by omega
    have hkin := Q.kin_some wr
    have hkc := @Q.cell_kin wr
    have hbr : b < wr.heap.size := Nat.lt_of_lt_of_le hbl HB.out.size
    have k0 : ∀ x : Q.Kin wr.heap.size wr,x.world.cell? ⟨b,off + k * 5,none⟩ = some (.int .i64 sp) := fun x => by rw [hkc x _ _ hbr,c0]
    have k1 : ∀ x : Q.Kin wr.heap.size wr,x.world.cell? ⟨b,off + (k - 1) * 5,none⟩ = some (.int .i64 tp) := fun x => by rw [hkc x _ _ hbr,e0]
    have k2 : ∀ x : Q.Kin wr.heap.size wr,x.world.cell? ⟨b,off + (k - 1) * 5 + 1,none⟩ = some (.int .i64 tn) := fun x => by rw [hkc x _ _ hbr,e1]
    clear hkc c0 e0 e1
    by_cases d : sp < tp + tn
    · have hno : Hid (M.overTo l (k + 1) = false) := by show _ = _;rw [hov.out];exact decide_eq_false (by omega)
      go_wp2
      refine Q.region_kin (by kernel_rfl) (by kernel_rfl) ?_
      repeat (first | go_big_quiet_step (fail) | quiet_step (fail))
      refine wpQuiet_nil ?_
      intro _ hw'
      obtain ⟨x,hw''⟩ := hw'
      subst hw''
      go_wp2
      go_ret
      exact ⟨ret_bool (by rw [apart_no l k hlt hno.out];rfl),HB.out.trans (x.keeps.mono HB.out.size)⟩
    · have hyes : Hid (M.overTo l (k + 1) = true) := by show _ = _;rw [hov.out];exact decide_eq_true (by omega)
      go_wp2
      refine Q.region_kin (by kernel_rfl) (by kernel_rfl) ?_
      repeat (first | go_big_quiet_step (fail) | quiet_step (fail))
      refine wpQuiet_nil ?_
      intro _ hw'
      obtain ⟨x,hw''⟩ := hw'
      subst hw''
      go_wp2
      go_roundw
      case rel => exact ⟨k + 1,by omega,.inl (by omega),by go_num,hyes.out,HB.out.trans (x.keeps.mono HB.out.size)⟩
      case measure => simp [intOf];omega
  · have HR : Hid (M.apartB l = true) := by
     show _ = _
     unfold M.apartB
     rcases hk with hk | hk
     · rw [show l.length = k by omega];exact HA.out
     · rcases Nat.lt_or_ge l.length 1 with h0 | h0
       · rw [show l.length = 0 by omega];rfl
       · rw [show l.length = k by omega];exact HA.out
    have hge : ¬ (k : Int) < (l.length : Int) := by omega
    clear hb
    go_wp2
    go_ret
    exact ⟨ret_bool (by rw [HR.out];rfl),HB.out⟩
end W
end Go.Proofs.YtkdigjpejnebkaaGreat
