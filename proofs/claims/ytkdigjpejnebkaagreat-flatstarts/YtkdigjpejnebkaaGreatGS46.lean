import Derived.Test.YtkdigjpejnebkaaGreatGS45
import Derived.Deep.Upon
import Derived.Test.YtkdigjpejnebkaaGreatGS36
import Derived.Test.YtkdigjpejnebkaaGreatGS28
import Derived.Test.YtkdigjpejnebkaaGreatGS21
set_option linter.unusedVariables false
set_option maxRecDepth 100000
set_option linter.unusedSimpArgs false
namespace Go.Proofs.YtkdigjpejnebkaaGreat
namespace LW
open Go.RowKit
open W (hideC)
theorem infoIm : (Tryz.prog.info? 135).map (fun i=>(i.zero,i.size,i.bytes)) = some (some (.agg #[.string ⟨#[]⟩,.slice none 0 0,.slice none 0 0,.slice none 0 0,.slice none 0 0,.int .i64 0]),6,120):=by kernel_rfl
theorem lie_news {w : World} {b off : Nat} {l : List LM.Li} (h : LM.LieI w b off l) : ∀ j u,(l.flatMap LM.cellI)[j]? = some u -> w.cell? ((⟨b,off,none⟩ : Addr).add j) = some u:=fun j u hj=>by
 obtain ⟨k,r,hr,rfl⟩ : ∃ k r,r < 6 /\ j = k * 6 + r:=⟨j / 6,j % 6,by omega,by omega⟩
 have hlen : ∀ l : List LM.Li,(l.flatMap LM.cellI).length = l.length * 6:=fun l=>by
  induction l with
  | nil=>rfl
  | cons a r ih=>rw [List.flatMap_cons,List.length_append,ih,List.length_cons];show 6 + _ = _;omega
 have hk : k < l.length:=by
  obtain ⟨hlt,_⟩:=List.getElem?_eq_some_iff.1 hj
  rw [hlen] at hlt
  omega
 rw [flat_get LM.cellI 6 (fun _=>rfl) LM.li0 l k r hk hr] at hj
 obtain ⟨⟨c0,c1,c2,c3,c4,c5⟩,_⟩:=h k hk
 rw [Addr.add_lit,<- Nat.add_assoc]
 match r,hr with
 | 0,_=>exact c0.trans hj
 | 1,_=>exact c1.trans hj
 | 2,_=>exact c2.trans hj
 | 3,_=>exact c3.trans hj
 | 4,_=>exact c4.trans hj
 | 5,_=>exact c5.trans hj
theorem row_im {w : World} {base : Nat} {g cap : Nat} {l : List LM.Li} (h : w.ownsRow base 135 6 (.slice (some ⟨g,0,none⟩) l.length cap) l.length (l.flatMap LM.cellI)) (hg : g < w.heap.size) (hi : ∀ k,k < l.length -> M.HasIm w (LM.liAt l k).a (LM.liAt l k).i) :
  LM.HasI w (some ⟨g,0,none⟩) l:=fun hl=>by
 refine ⟨g,0,rfl,hg,fun k hk=>?_⟩
 rw [Nat.zero_add]
 have hh : ∀ j,j < 6 -> w.cell? ⟨g,k * 6 + j,none⟩ = (LM.cellI (LM.liAt l k))[j]?:=fun j hj=>(h.cellAt _ (by omega)).trans (flat_get LM.cellI 6 (fun _=>rfl) LM.li0 l k j hk hj)
 exact ⟨⟨hh 0 (by omega),hh 1 (by omega),hh 2 (by omega),hh 3 (by omega),hh 4 (by omega),hh 5 (by omega)⟩,hi k hk⟩
theorem wpList_append_libs {ops : Array Oper} {rest : List Oper} {o : Oper} {a : Act} {w : World} {Q : Exit -> Act -> World -> Prop} (hgd : o.guard = none) (s x : Operand)
  (ho : o.op = .call { callee:=.builtin .append,args:=#[s,x],argTypes:=#[170,170] })
  (base : Nat) (p : LM.Li) (g0 : Nat) (hs : a.eval s = .slice (some ⟨g0,0,none⟩) 1 1) (hown : w.ownsRow base 135 6 (.slice (some ⟨g0,0,none⟩) 1 1) 1 (LM.cellI p))
  (ao : Option Addr) (c : Nat) (libs : List LM.Li) (hx : a.eval x = .slice ao libs.length c) (hlie : LM.HasI w ao libs) (h6 : libs.length <= 6) (hbase : base <= w.heap.size)
  (h : ∀ g cap w',w'.ownsRow base 135 6 (.slice (some ⟨g,0,none⟩) (libs.length + 1) cap) (libs.length + 1) ((p :: libs).flatMap LM.cellI) -> w.grownBy w' (some g0) -> g < w'.heap.size -> wpList Tryz.prog ops Q rest (a.put o.dst (.slice (some ⟨g,0,none⟩) (libs.length + 1) cap)) w') : wpList Tryz.prog ops Q (o :: rest) a w:=by
 obtain ⟨i0,hin,hz0,hz1,hz2⟩:=info_parts infoIm
 by_cases h0 : 0 < libs.length
 · obtain ⟨b,off,rfl,hb,hl⟩:=hlie h0
   have hlen : ∀ l : List LM.Li,(l.flatMap LM.cellI).length = l.length * 6:=fun l=>by
    induction l with
    | nil=>rfl
    | cons a r ih=>rw [List.flatMap_cons,List.length_append,ih,List.length_cons];show 6 + _ = _;omega
   have hone : ∀ u ∈ libs.flatMap LM.cellI,u.oneCell' = true:=fun u hu=>by
    obtain ⟨y,_,hy⟩:=List.mem_flatMap.1 hu
    simp only [LM.cellI,M.cellsI] at hy
    simp at hy
    rcases hy with rfl | rfl | rfl | rfl | rfl | rfl <;> rfl
   refine wpList_append_lies w hgd s x 170 ho base 135 i0 (.agg #[.string ⟨#[]⟩,.slice none 0 0,.slice none 0 0,.slice none 0 0,.slice none 0 0,.int .i64 0]) 6 120 Tryz.underlying170 hin hz0 hz1 hz2 rfl (by decide) _ 1 _ hs hown ⟨b,off,none⟩ libs.length c (libs.flatMap LM.cellI) hx (hlen _) (lie_news hl) hone h0 (by unfold maxLen;omega) (by omega) hbase _ rfl ?_
   intro g cap w' h2 h3 _ h5
   have e : 1 + libs.length = libs.length + 1:=Nat.add_comm _ _
   rw [e] at h2 ⊢
   exact h g cap w' h2 h3 h5
 · have e0 : libs = []:=List.eq_nil_of_length_eq_zero (by omega)
   subst e0
   have hg0 : g0 < w.heap.size:=(hown.lt g0 rfl).2
   refine wpList_plain hgd fun K hK=>?_
   have hsrc : Src Tryz.prog i0.size 170 (.slice ao 0 c) 0 [] w:=⟨.inl ⟨_,Tryz.underlying170⟩,fun w'=>by simp [Builtin.lenOf],by cases ao <;> simp [Builtin.firstCells,loadCells,loadCellsFrom],by cases ao <;> simp [Builtin.firstCells,loadCells,loadCellsFrom],by simp,by simp⟩
   have hr:=run_append_nothing (P:=Tryz.prog) w 170 170 o.type 135 i0 Tryz.underlying170 hin (some ⟨g0,0,none⟩) 1 1 (Nat.le_refl _) (.slice ao 0 c) hsrc
   have hx' : a.eval x = .slice ao 0 c:=hx
   unfold Oper.wp execOp
   simp only [ho,resolve,invoke,builtin,Sem.run_bind,Sem.run_pure,Result.andThen_ok,List.map_toArray,List.map_cons,List.map_nil,hs,hx',hr]
   refine hK _ _ (h g0 1 w ?_ ⟨rfl,rfl,rfl,Nat.le_refl _,fun _ _ _=>rfl⟩ hg0)
   have e : ([p].flatMap LM.cellI) = LM.cellI p:=by simp
   rw [e]
   exact hown
end LW
namespace LW
open Go.RowKit Go.WideMaps Go.Maps
open W (hideC)
def OutL (all : List LM.Li) (w : World) (e : Ending) (w' : World) : Prop:=Below w.heap.size w w' /\
 if LM.linkErr all = 0 then ∃ (ix : List Nat) (E : List LM.Sp) (r : Value) (hs : List LM.Sh) (ao : Option Addr) (cap : Nat),LM.gat all all.length 0 [0] = some ix /\ LM.sheetsN (LM.obsFrom all 1 ix) = some E /\ hs.map LM.plain = E /\
  e = .returned (.tuple #[.agg #[r,.slice ao hs.length cap,.int .i64 (LM.addrO (LM.obAt (LM.obsFrom all 1 ix) 0) (LM.liAt all 0).i.entry)],.int .i64 0]) /\ AW.Own w.heap.size w' r (LM.areasN (LM.obsFrom all 1 ix)) /\ LM.HasH w' ao hs /\ hs.length <= cap
 else e = .returned (.tuple #[.agg #[.slice none 0 0,.slice none 0 0,.int .i64 0],.int .i64 (LM.linkErr all)])
theorem cell_set3 (V : World) (rb b j : Nat) (u0 u1 u2 : Value) (h : b ≠ rb) : (((V.setCell ⟨rb,0,none⟩ u0).setCell ⟨rb,1,none⟩ u1).setCell ⟨rb,2,none⟩ u2).cell? ⟨b,j,none⟩ = V.cell? ⟨b,j,none⟩:=by
 rw [World.cell?_setCell_far _ ⟨rb,2,none⟩ ⟨b,j,none⟩ u2 (Ne.symm h),World.cell?_setCell_far _ ⟨rb,1,none⟩ ⟨b,j,none⟩ u1 (Ne.symm h),World.cell?_setCell_far _ ⟨rb,0,none⟩ ⟨b,j,none⟩ u0 (Ne.symm h)]
def set3 (V : World) (rb : Nat) (u0 u1 u2 : Value) : World:=((V.setCell ⟨rb,0,none⟩ u0).setCell ⟨rb,1,none⟩ u1).setCell ⟨rb,2,none⟩ u2
theorem set3_size (V : World) (rb : Nat) (u0 u1 u2 : Value) : (set3 V rb u0 u1 u2).heap.size = V.heap.size:=by simp [set3]
theorem no_is {V : World} {rb b off : Nat} {t : TypeId} {x : Int} {y : ByteArray} (h : V.heap[rb]? = some (.cells #[.slice none 0 0,.slice none 0 0,.int .i64 0] t (0,0))) (c0 : V.cell? ⟨b,off,none⟩ = some (.int .i64 x)) (c1 : V.cell? ⟨b,off + 1,none⟩ = some (.string y)) : b ≠ rb:=fun e=>by
 rw [e] at c0 c1
 simp only [World.cell?,h] at c0 c1
 match off with
 | 0=>simp at c0
 | 1=>simp at c0
 | 2=>simp at c1
 | n + 3=>simp at c0
theorem hasF_set3 {V : World} {rb : Nat} {t : TypeId} (h : V.heap[rb]? = some (.cells #[.slice none 0 0,.slice none 0 0,.int .i64 0] t (0,0))) {ao : Option Addr} {l : List LM.Fx} (g : LM.HasF V ao l) (u0 u1 u2 : Value) : LM.HasF (set3 V rb u0 u1 u2) ao l:=fun hl=>by
 obtain ⟨b,off,e,hb,hlie⟩:=g hl
 obtain ⟨c0,c1⟩:=hlie 0 hl
 have hne:=no_is h c0 c1
 refine ⟨b,off,e,by rw [set3_size];exact hb,fun k hk=>?_⟩
 obtain ⟨d0,d1⟩:=hlie k hk
 exact ⟨(cell_set3 V rb b _ u0 u1 u2 hne).trans d0,(cell_set3 V rb b _ u0 u1 u2 hne).trans d1⟩
theorem hasH_set3 {V : World} {rb : Nat} {t : TypeId} (h : V.heap[rb]? = some (.cells #[.slice none 0 0,.slice none 0 0,.int .i64 0] t (0,0))) {ao : Option Addr} {l : List LM.Sh} (g : LM.HasH V ao l) (u0 u1 u2 : Value) : LM.HasH (set3 V rb u0 u1 u2) ao l:=fun hl=>by
 obtain ⟨b,off,e,hb,hlie⟩:=g hl
 obtain ⟨c0,c1,_,_⟩:=hlie 0 hl
 have hne:=no_is h c0 c1
 refine ⟨b,off,e,by rw [set3_size];exact hb,fun k hk=>?_⟩
 obtain ⟨d0,d1,d2,d3⟩:=hlie k hk
 exact ⟨(cell_set3 V rb b _ u0 u1 u2 hne).trans d0,(cell_set3 V rb b _ u0 u1 u2 hne).trans d1,(cell_set3 V rb b _ u0 u1 u2 hne).trans d2,hasF_set3 h d3 u0 u1 u2⟩
theorem own_set3 {V : World} {rb lo : Nat} {v : Value} {l : List AM.Ar} (h : AW.Own lo V v l) (hlt : rb < lo) (u0 u1 u2 : Value) : AW.Own lo (set3 V rb u0 u1 u2) v l :=
 ownsRow_setCell_below (ownsRow_setCell_below (ownsRow_setCell_below h hlt _) hlt _) hlt _
end LW
namespace GB
open Go.RowKit
def i0 : PM.Ins:=⟨0,0,0,0,0⟩
def cis : List PM.Ins:=[⟨16,0,0,0,5⟩,⟨11,1,0,0,40⟩,⟨10,0,1,8,0⟩,⟨9,0,1,1,0⟩,⟨16,0,0,0,1⟩,⟨16,0,0,0,6⟩]
def insTo : Nat -> ByteArray
 | 0=>⟨#[]⟩
 | k + 1=>insTo k ++ (cis.getD k i0).bytes
theorem insTo_size : ∀ k,(insTo k).size = k * 8
 | 0=>rfl
 | k + 1=>by
  show (insTo k ++ (cis.getD k i0).bytes).size = _
  rw [ByteArray.size_append,insTo_size k,PM.bytes_size]
  omega
def p1 : ByteArray:=⟨#[16,0,0,0,5,0,0,0,11,1,0,0,40,0,0,0]⟩
def p2 : ByteArray:=⟨#[10,0,1,8,0,0,0,0,9,0,1,1,0,0,0,0]⟩
def p3 : ByteArray:=⟨#[16,0,0,0,1,0,0,0,16,0,0,0,6,0,0,0]⟩
def p4 : ByteArray:=⟨#[0,0,0,0,0,0,0,0,0,0,0,0,0,0,0,0]⟩
def cntD : ByteArray:=⟨#[16,0,0,0,5,0,0,0,11,1,0,0,40,0,0,0,10,0,1,8,0,0,0,0,9,0,1,1,0,0,0,0,16,0,0,0,1,0,0,0,16,0,0,0,6,0,0,0]⟩
theorem insTo_all : insTo 6 = cntD:=by kernel_rfl
def cntI : M.Im:=⟨⟨#[116]⟩,[],[⟨0,4,cntD,true,true⟩],[],[],0⟩
theorem cnt_fit : M.Fit cntI:=by
 refine ⟨by unfold M.Short cntI;decide,by unfold M.Short cntI;decide,fun k hk=>absurd hk (by unfold cntI;simp),by unfold M.Short cntI;decide,fun k hk=>?_,by unfold M.Short cntI;decide,fun k hk=>absurd hk (by unfold cntI;simp),by unfold M.Short cntI;decide,fun k hk=>absurd hk (by unfold cntI;simp),by unfold M.I64 cntI;decide⟩
 have : k = 0:=by unfold cntI at hk;simp at hk;omega
 subst this
 exact ⟨by unfold M.I64 cntI M.sgAt;decide,by unfold M.I64 cntI M.sgAt;decide,by unfold M.Short;show (48 : Nat) <= _;decide⟩
theorem cnt_err (a : M.At) : LM.linkErr [⟨cntI,a⟩] = 0:=by kernel_rfl
theorem cnt_gat (a : M.At) : LM.gat [⟨cntI,a⟩] [(⟨cntI,a⟩ : LM.Li)].length 0 [0] = some [0]:=by kernel_rfl
theorem cnt_obs (a : M.At) : LM.obsFrom [⟨cntI,a⟩] 1 [0] = [⟨cntI,a,1⟩]:=by kernel_rfl
def cntE : List LM.Sp:=[⟨1,p1,[]⟩,⟨2,p2,[]⟩,⟨3,p3,[]⟩,⟨4,p4,[]⟩]
theorem cnt_sheets (a : M.At) : LM.sheetsN [⟨cntI,a,1⟩] = some cntE:=by kernel_rfl
def cntA : List AM.Ar:=[⟨1,4,3,false⟩]
theorem cnt_areas (a : M.At) : LM.areasN [⟨cntI,a,1⟩] = cntA:=by kernel_rfl
theorem cnt_entry (a : M.At) : LM.addrO (LM.obAt [⟨cntI,a,1⟩] 0) (LM.liAt [⟨cntI,a⟩] 0).i.entry = 16:=by kernel_rfl
def cntH (a1 a2 a3 a4 : Option Addr) (c1 c2 c3 c4 : Nat) : List LM.Sh:=[⟨1,p1,[],a1,c1⟩,⟨2,p2,[],a2,c2⟩,⟨3,p3,[],a3,c3⟩,⟨4,p4,[],a4,c4⟩]
theorem cnt_of {hs : List LM.Sh} (h : hs.map LM.plain = cntE) : ∃ a1 a2 a3 a4 c1 c2 c3 c4,hs = cntH a1 a2 a3 a4 c1 c2 c3 c4:=by
 match hs,h with
 | [⟨g1,d1,f1,a1,c1⟩,⟨g2,d2,f2,a2,c2⟩,⟨g3,d3,f3,a3,c3⟩,⟨g4,d4,f4,a4,c4⟩],h =>
  simp only [List.map_cons,List.map_nil,LM.plain,cntE,List.cons.injEq,LM.Sp.mk.injEq,and_true] at h
  obtain ⟨⟨rfl,rfl,rfl⟩,⟨rfl,rfl,rfl⟩,⟨rfl,rfl,rfl⟩,rfl,rfl,rfl⟩:=h
  exact ⟨a1,a2,a3,a4,c1,c2,c3,c4,rfl⟩
 | [],h=>cases congrArg List.length h
 | [_],h=>cases congrArg List.length h
 | [_,_],h=>cases congrArg List.length h
 | [_,_,_],h=>cases congrArg List.length h
 | _ :: _ :: _ :: _ :: _ :: _,h =>
  have:=congrArg List.length h
  simp [cntE] at this
theorem cnt_fitA : AW.AllFit cntA:=AM.fits_of_check _ (by kernel_rfl)
theorem cnt_fitH (a1 a2 a3 a4 : Option Addr) (c1 c2 c3 c4 : Nat) : LM.FitHs (cntH a1 a2 a3 a4 c1 c2 c3 c4):=by
 have one : ∀ (g : Int) (d : ByteArray) (a : Option Addr) (c : Nat),M.I64 g -> d.size <= 140737488351232 -> LM.FitH ⟨g,d,[],a,c⟩:=fun g d a c h1 h2=>⟨h1,h2,by unfold M.Short;show 0 <= _;exact Nat.zero_le _,fun k hk=>absurd hk (Nat.not_lt_zero _)⟩
 refine ⟨by unfold M.Short cntH;show (4 : Nat) <= _;decide,fun k hk=>?_⟩
 match k,hk with
 | 0,_=>exact one 1 p1 a1 c1 (by unfold M.I64;decide) (by show (16 : Nat) <= _;decide)
 | 1,_=>exact one 2 p2 a2 c2 (by unfold M.I64;decide) (by show (16 : Nat) <= _;decide)
 | 2,_=>exact one 3 p3 a3 c3 (by unfold M.I64;decide) (by show (16 : Nat) <= _;decide)
 | 3,_=>exact one 4 p4 a4 c4 (by unfold M.I64;decide) (by show (16 : Nat) <= _;decide)
 | k + 4,h=>exact absurd h (by unfold cntH;simp)
def cntF : FM.Fl:=⟨8,[⟨true,cntA,[⟨1,p1⟩,⟨2,p2⟩,⟨3,p3⟩,⟨4,p4⟩]⟩],[FW.beginN 16],[]⟩
theorem cnt_new (a1 a2 a3 a4 : Option Addr) (c1 c2 c3 c4 : Nat) : GH.newF cntA (cntH a1 a2 a3 a4 c1 c2 c3 c4) 16 8 = (cntF,0):=by kernel_rfl
theorem cnt_fitP : GH.FitPs cntF.procs:=GH.fit_begin (by unfold M.I64;decide)
theorem cnt_fitS : FW.FitFl cntF:=by
 refine ⟨by unfold M.I64 cntF;decide,⟨by unfold M.Short;show (1 : Nat) <= _;decide,fun k hk=>?_⟩,by unfold M.Short;show (1 : Nat) <= _;decide,by unfold M.Short;show (0 : Nat) <= _;decide⟩
 obtain rfl : k = 0:=by have : k < 1:=hk;omega
 refine ⟨cnt_fitA,by unfold M.Short;show (4 : Nat) <= _;decide,fun j hj=>?_⟩
 match j,hj with
 | 0,_=>exact ⟨by show M.I64 1;unfold M.I64;decide,by unfold M.Short;show (16 : Nat) <= _;decide⟩
 | 1,_=>exact ⟨by show M.I64 2;unfold M.I64;decide,by unfold M.Short;show (16 : Nat) <= _;decide⟩
 | 2,_=>exact ⟨by show M.I64 3;unfold M.I64;decide,by unfold M.Short;show (16 : Nat) <= _;decide⟩
 | 3,_=>exact ⟨by show M.I64 4;unfold M.I64;decide,by unfold M.Short;show (16 : Nat) <= _;decide⟩
 | k + 4,h=>exact absurd h (by show ¬ k + 4 < 4;omega)
def picks : List Int:=[0,1,0,1,0,1,0,1,0,1,0,1,0,1]
theorem run_err : (GH.runF cntF picks).2 = 0:=by kernel_rfl
theorem run_procs : (GH.runF cntF picks).1.procs.length = 2:=by kernel_rfl
theorem run_out : (GH.runF cntF picks).1.out.length = 2:=by kernel_rfl
theorem run_v0 : (FM.wdAt (GH.runF cntF picks).1.out 0).value = 0:=by kernel_rfl
theorem run_v1 : (FM.wdAt (GH.runF cntF picks).1.out 1).value = 1:=by kernel_rfl
theorem run_st : (FM.prAt (GH.runF cntF picks).1.procs 0).st = 2:=by kernel_rfl
theorem run_cd : (FM.prAt (GH.runF cntF picks).1.procs 0).cd = 1:=by kernel_rfl
end GB
namespace PW
open Go.RowKit
set_option maxHeartbeats 1500000 in
theorem instr_any (i : PM.Ins) (w : World) : Calls Tryz.prog 71 #[.agg i.cells] w fun e w'=>e = .returned (.string i.bytes) /\ Below w.heap.size w w':=by
 obtain ⟨o,a,b,c,m⟩:=i
 unfold PM.Ins.cells PM.Ins.bytes
 simp only
 have HB0:=hideC ((Below.refl w.heap.size w).alloc (Nat.le_refl _) (.cells #[.int .i64 o,.int .i64 a,.int .i64 b,.int .i64 c,.int .i64 m] 99))
 have BX:=hideC (B.new w #[.int .i64 o,.int .i64 a,.int .i64 b,.int .i64 c,.int .i64 m] 99)
 obtain ⟨W,hW⟩ : ∃ W,W = w.alloc (.cells #[.int .i64 o,.int .i64 a,.int .i64 b,.int .i64 c,.int .i64 m] 99):=⟨_,rfl⟩
 have HW:=hideC hW
 rw [<- hW] at HB0 BX
 have hkin:=Q.kin_some W
 have hwl:=B.isLt BX.out
 have k0 : ∀ x : Q.Kin W.heap.size W,x.world.cell? ⟨w.heap.size,0,none⟩ = some (.int .i64 o):=fun x=>by rw [Q.cell_kin x _ _ hwl];exact B.cell BX.out 0 rfl
 have k1 : ∀ x : Q.Kin W.heap.size W,x.world.cell? ⟨w.heap.size,1,none⟩ = some (.int .i64 a):=fun x=>by rw [Q.cell_kin x _ _ hwl];exact B.cell BX.out 1 rfl
 have k2 : ∀ x : Q.Kin W.heap.size W,x.world.cell? ⟨w.heap.size,2,none⟩ = some (.int .i64 b):=fun x=>by rw [Q.cell_kin x _ _ hwl];exact B.cell BX.out 2 rfl
 have k3 : ∀ x : Q.Kin W.heap.size W,x.world.cell? ⟨w.heap.size,3,none⟩ = some (.int .i64 c):=fun x=>by rw [Q.cell_kin x _ _ hwl];exact B.cell BX.out 3 rfl
 have k4 : ∀ x : Q.Kin W.heap.size W,x.world.cell? ⟨w.heap.size,4,none⟩ = some (.int .i64 m):=fun x=>by rw [Q.cell_kin x _ _ hwl];exact B.cell BX.out 4 rfl
 have HA : Hid (∀ n V,Calls Tryz.prog 55 #[.int .i64 n,.int .i64 1] V fun e w'=>e = .returned (.string (PM.le 1 n)) /\ Below V.heap.size V w'):=fun n U=>CW.bytes_any n 1 U (by omega)
 have HM : Hid (∀ V,Calls Tryz.prog 55 #[.int .i64 m,.int .i64 4] V fun e w'=>e = .returned (.string (PM.le 4 m)) /\ Below V.heap.size V w'):=fun U=>CW.bytes_any m 4 U (by omega)
 have s1:=PM.le_size 1 o
 have s2:=PM.le_size 1 a
 have s3:=PM.le_size 1 b
 have s4:=PM.le_size 1 c
 have s5:=PM.le_size 4 m
 have t1 : (PM.le 1 o ++ PM.le 1 a).size = 2:=by rw [ByteArray.size_append,s1,s2]
 have t2 : (PM.le 1 o ++ PM.le 1 a ++ PM.le 1 b).size = 3:=by rw [ByteArray.size_append,t1,s3]
 have t3 : (PM.le 1 o ++ PM.le 1 a ++ PM.le 1 b ++ PM.le 1 c).size = 4:=by rw [ByteArray.size_append,t2,s4]
 clear hW
 go_enter Tryz.func71,Tryz.ntmps71
 go_wp2
 rw [<- HW.out]
 refine Q.region_kin (by kernel_rfl) (by kernel_rfl) ?_
 repeat (first | go_big_quiet_step ((go_at_call 55;first | with_reducible exact Q.calls_kin (HA.out _) _ | with_reducible exact Q.calls_kin HM.out _)) | quiet_step ((go_at_call 55;first | with_reducible exact Q.calls_kin (HA.out _) _ | with_reducible exact Q.calls_kin HM.out _)))
 refine wpQuiet_nil ?_
 intro _ hw'
 obtain ⟨x,hw''⟩:=hw'
 subst hw''
 go_wp2
 go_ret
 exact ⟨rfl,HB0.out.trans (x.keeps.mono HB0.out.size)⟩
end PW
namespace W
open Go.RowKit
set_option maxHeartbeats 1000000 in
theorem syms0 (nm : ByteArray) (an ag ay ar : Option Addr) (cn gl cg cy cr : Nat) (en : Int) (w : World) : Calls Tryz.prog 136 #[.agg #[.string nm,.slice an 0 cn,.slice ag gl cg,.slice ay 0 cy,.slice ar 0 cr,.int .i64 en]] w fun e w'=>e = .returned (.bool true) /\ Below w.heap.size w w':=by
 have HB:=hideC ((Below.refl w.heap.size w).alloc (Nat.le_refl _) (.cells #[.string nm,.slice an 0 cn,.slice ag gl cg,.slice ay 0 cy,.slice ar 0 cr,.int .i64 en] 135))
 go_enter Tryz.func136,Tryz.ntmps136
 go_wp2
 go_loopw [10] (fun iv wr=>iv = .int .i64 0 /\ Below w.heap.size w wr) (fun _ _=>0)
 case atStart=>exact ⟨rfl,HB.out⟩
 case round =>
  obtain ⟨rfl,hb⟩:=hrel
  have HB2:=hideC hb
  clear hb
  go_wp2
  go_ret
  exact ⟨rfl,HB2.out⟩
set_option maxHeartbeats 1000000 in
theorem rels0 (nm : ByteArray) (an ag ay ar : Option Addr) (cn gl cg cy cr : Nat) (en : Int) (w : World) : Calls Tryz.prog 137 #[.agg #[.string nm,.slice an 0 cn,.slice ag gl cg,.slice ay 0 cy,.slice ar 0 cr,.int .i64 en]] w fun e w'=>e = .returned (.bool true) /\ Below w.heap.size w w':=by
 have HB:=hideC ((Below.refl w.heap.size w).alloc (Nat.le_refl _) (.cells #[.string nm,.slice an 0 cn,.slice ag gl cg,.slice ay 0 cy,.slice ar 0 cr,.int .i64 en] 135))
 go_enter Tryz.func137,Tryz.ntmps137
 go_wp2
 go_loopw [11] (fun iv wr=>iv = .int .i64 0 /\ Below w.heap.size w wr) (fun _ _=>0)
 case atStart=>exact ⟨rfl,HB.out⟩
 case round =>
  obtain ⟨rfl,hb⟩:=hrel
  have HB2:=hideC hb
  clear hb
  go_wp2
  go_ret
  exact ⟨rfl,HB2.out⟩
set_option maxHeartbeats 1000000 in
theorem symNames0 (ay : Option Addr) (cy : Nat) (w : World) : Calls Tryz.prog 135 #[.slice ay 0 cy] w fun e w'=>e = .returned (.slice none 0 0) /\ Below w.heap.size w w':=by
 go_enter Tryz.func135,Tryz.ntmps135
 go_wp2
 go_loopw [3,8] (fun sv iv wr=>sv = .slice none 0 0 /\ iv = .int .i64 0 /\ Below w.heap.size w wr) (fun _ _ _=>0)
 case atStart=>exact ⟨rfl,rfl,Below.refl _ _⟩
 case round =>
  obtain ⟨rfl,rfl,hb⟩:=hrel
  have HB2:=hideC hb
  clear hb
  go_wp2
  go_ret
  exact ⟨rfl,HB2.out⟩
set_option maxHeartbeats 2000000 in
theorem names0 (nm : ByteArray) (an ag ay ar : Option Addr) (cn gl cg cy cr : Nat) (en : Int) (w : World) (hn : ∀ V,Calls Tryz.prog 149 #[.string nm] V fun e w'=>e = .returned (.bool true) /\ Below V.heap.size V w') : Calls Tryz.prog 130 #[.agg #[.string nm,.slice an 0 cn,.slice ag gl cg,.slice ay 0 cy,.slice ar 0 cr,.int .i64 en]] w fun e w'=>e = .returned (.bool true) /\ Below w.heap.size w w':=by
 have HN:=hideC hn
 clear hn
 have HB:=hideC ((Below.refl w.heap.size w).alloc (Nat.le_refl _) (.cells #[.string nm,.slice an 0 cn,.slice ag gl cg,.slice ay 0 cy,.slice ar 0 cr,.int .i64 en] 135))
 have X0:=hideC (B.new w #[.string nm,.slice an 0 cn,.slice ag gl cg,.slice ay 0 cy,.slice ar 0 cr,.int .i64 en] 135)
 go_enter Tryz.func130,Tryz.ntmps130
 go_wp2_with (go_at_call 149;refine (HN.out _).mono ?_;rintro e w1 ⟨rfl,hb1⟩;have HB1:=hideC (HB.out.trans (hb1.mono HB.out.size));have X1:=hideC (B.below X0.out hb1 (B.isLt X0.out));have x1 : w1.cell? ⟨w.heap.size,1,none⟩ = some (.slice an 0 cn):=B.cell X1.out 1 rfl;clear hb1)
 go_loopw [16] (fun iv wr=>iv = .int .i64 0 /\ wr.heap[w.heap.size]? = some (.cells #[.string nm,.slice an 0 cn,.slice ag gl cg,.slice ay 0 cy,.slice ar 0 cr,.int .i64 en] 135 (0,0)) /\ Below w.heap.size w wr) (fun _ _=>0)
 case atStart=>exact ⟨rfl,X1.out,HB1.out⟩
 case round =>
  obtain ⟨rfl,hx,hb⟩:=hrel
  have HX:=hideC hx
  have HB2:=hideC hb
  have y3 : wr.cell? ⟨w.heap.size,3,none⟩ = some (.slice ay 0 cy):=B.cell hx 3 rfl
  clear hb hx HB1 X1 x1
  go_wp2
  clear y3
  go_loopw [27] (fun iv wi=>iv = .int .i64 0 /\ wi.heap[w.heap.size]? = some (.cells #[.string nm,.slice an 0 cn,.slice ag gl cg,.slice ay 0 cy,.slice ar 0 cr,.int .i64 en] 135 (0,0)) /\ Below w.heap.size w wi) (fun _ _=>0)
  case atStart=>exact ⟨rfl,HX.out,HB2.out⟩
  case round =>
   clear HX HB2
   obtain ⟨rfl,hx,hb⟩:=hrel
   have HX:=hideC hx
   have HB3:=hideC hb
   have y4 : wr.cell? ⟨w.heap.size,4,none⟩ = some (.slice ar 0 cr):=B.cell hx 4 rfl
   clear hb hx
   go_wp2
   clear y4
   go_loopw [39] (fun iv wi=>iv = .int .i64 0 /\ Below w.heap.size w wi) (fun _ _=>0)
   case atStart=>exact ⟨rfl,HB3.out⟩
   case round =>
    obtain ⟨rfl,hb⟩:=hrel
    have HB4:=hideC hb
    clear hb
    go_wp2
    go_ret
    exact ⟨rfl,HB4.out⟩
set_option maxHeartbeats 4000000 in
theorem check0 (nm : ByteArray) (gs : List M.Sg) (en : Int) (an ag ay ar : Option Addr) (cn cg cy cr : Nat) (w : World) (h : M.HasIm w ⟨an,cn,ag,cg,ay,cy,ar,cr⟩ ⟨nm,[],gs,[],[],en⟩) (hf : M.Fit ⟨nm,[],gs,[],[],en⟩) (h1 : M.nameB nm = true) (h2 : M.countsB ⟨nm,[],gs,[],[],en⟩ = true) (h3 : gs.all M.rangeB = true) (h4 : M.apartB gs = true) (h5 : M.entryB ⟨nm,[],gs,[],[],en⟩ = true) :
  Calls Tryz.prog 115 #[.agg #[.string nm,.slice an 0 cn,.slice ag gs.length cg,.slice ay 0 cy,.slice ar 0 cr,.int .i64 en]] w fun e w'=>e = .returned (.int .i64 0) /\ Below w.heap.size w w':=by
 have HIN : Hid (∀ V,Calls Tryz.prog 149 #[.string nm] V fun e w'=>e = .returned (.bool true) /\ Below V.heap.size V w'):=fun V=>(isName_any nm V hf.name).mono fun e w' ⟨e1,e2⟩=>⟨by rw [e1,h1],by rw [<- e2];exact Below.refl _ _⟩
 have HNM:=hideC (fun V=>names0 nm an ag ay ar cn gs.length cg cy cr en V HIN.out)
 have HCN : Hid (∀ V,Calls Tryz.prog 131 #[.agg #[.string nm,.slice an 0 cn,.slice ag gs.length cg,.slice ay 0 cy,.slice ar 0 cr,.int .i64 en]] V fun e w'=>e = .returned (.bool true) /\ Below V.heap.size V w'):=fun V=>(rightCounts_any ⟨nm,[],gs,[],[],en⟩ ⟨an,cn,ag,cg,ay,cy,ar,cr⟩ V hf).mono fun e w' ⟨e1,e2⟩=>⟨by rw [e1,h2],e2⟩
 have HRG : Hid (∀ V,Below w.heap.size w V -> Calls Tryz.prog 132 #[.slice ag gs.length cg] V fun e w'=>e = .returned (.bool true) /\ Below V.heap.size V w'):=fun V hV=>(rightRanges_any gs ag cg V (h.below hV).segs hf.segs hf.seg).mono fun e w' ⟨e1,e2⟩=>⟨by rw [e1,h3],e2⟩
 have HOV : Hid (∀ V,Below w.heap.size w V -> Calls Tryz.prog 133 #[.slice ag gs.length cg] V fun e w'=>e = .returned (.bool false) /\ Below V.heap.size V w'):=fun V hV=>(overlap_any gs ag cg V (h.below hV).segs hf.segs h3).mono fun e w' ⟨e1,e2⟩=>⟨by rw [e1,h4];rfl,e2⟩
 have HTW : Hid (∀ ao c V,Calls Tryz.prog 134 #[.slice ao 0 c] V fun e w'=>e = .returned (.bool false) /\ Below V.heap.size V w'):=fun ao c V=>(twice_any [] ao c V (fun h=>absurd h (Nat.not_lt_zero _)) (Nat.zero_le _) (fun k hk=>absurd hk (Nat.not_lt_zero _))).mono fun e w' ⟨e1,e2⟩=>⟨by rw [e1];rfl,e2⟩
 have HSN:=hideC (fun V=>symNames0 ay cy V)
 have HSY:=hideC (fun V=>syms0 nm an ag ay ar cn gs.length cg cy cr en V)
 have HRL:=hideC (fun V=>rels0 nm an ag ay ar cn gs.length cg cy cr en V)
 have HEN : Hid (∀ V,Below w.heap.size w V -> Calls Tryz.prog 138 #[.agg #[.string nm,.slice an 0 cn,.slice ag gs.length cg,.slice ay 0 cy,.slice ar 0 cr,.int .i64 en]] V fun e w'=>e = .returned (.bool true) /\ Below V.heap.size V w'):=fun V hV=>(entryPlaced_any ⟨nm,[],gs,[],[],en⟩ ⟨an,cn,ag,cg,ay,cy,ar,cr⟩ V (h.below hV) hf h3).mono fun e w' ⟨e1,e2⟩=>⟨by rw [e1,h5],e2⟩
 obtain ⟨gl,hgl⟩ : ∃ gl,gl = gs.length:=⟨_,rfl⟩
 rw [<- hgl] at HNM HCN HRG HOV HSY HRL HEN ⊢
 clear h hf h1 h2 h3 h4 h5 hgl HIN
 have HB:=hideC ((Below.refl w.heap.size w).alloc (Nat.le_refl _) (.cells #[.string nm,.slice an 0 cn,.slice ag gl cg,.slice ay 0 cy,.slice ar 0 cr,.int .i64 en] 135))
 have X:=hideC (B.new w #[.string nm,.slice an 0 cn,.slice ag gl cg,.slice ay 0 cy,.slice ar 0 cr,.int .i64 en] 135)
 go_enter Tryz.func115,Tryz.ntmps115
 go_wp2_with (first
  | (go_at_call 130;refine (HNM.out _).mono ?_;rintro e w1 ⟨rfl,hb⟩;have HB1:=hideC (HB.out.trans (hb.mono HB.out.size));have X1:=hideC (B.below X.out hb (B.isLt X.out));clear hb;have k10 : w1.cell? ⟨w.heap.size,0,none⟩ = some (.string nm):=B.cell X1.out 0 rfl;have k11 : w1.cell? ⟨w.heap.size,1,none⟩ = some (.slice an 0 cn):=B.cell X1.out 1 rfl;have k12 : w1.cell? ⟨w.heap.size,2,none⟩ = some (.slice ag gl cg):=B.cell X1.out 2 rfl;have k13 : w1.cell? ⟨w.heap.size,3,none⟩ = some (.slice ay 0 cy):=B.cell X1.out 3 rfl;have k14 : w1.cell? ⟨w.heap.size,4,none⟩ = some (.slice ar 0 cr):=B.cell X1.out 4 rfl;have k15 : w1.cell? ⟨w.heap.size,5,none⟩ = some (.int .i64 en):=B.cell X1.out 5 rfl)
  | (go_at_call 131;refine (HCN.out _).mono ?_;rintro e w2 ⟨rfl,hb⟩;have HB2:=hideC (HB1.out.trans (hb.mono HB1.out.size));have X2:=hideC (B.below X1.out hb (B.isLt X1.out));clear hb;have k22 : w2.cell? ⟨w.heap.size,2,none⟩ = some (.slice ag gl cg):=B.cell X2.out 2 rfl)
  | (go_at_call 132;refine (HRG.out _ HB2.out).mono ?_;rintro e w3 ⟨rfl,hb⟩;have HB3:=hideC (HB2.out.trans (hb.mono HB2.out.size));have X3:=hideC (B.below X2.out hb (B.isLt X2.out));clear hb;have k32 : w3.cell? ⟨w.heap.size,2,none⟩ = some (.slice ag gl cg):=B.cell X3.out 2 rfl)
  | (go_at_call 133;refine (HOV.out _ HB3.out).mono ?_;rintro e w4 ⟨rfl,hb⟩;have HB4:=hideC (HB3.out.trans (hb.mono HB3.out.size));have X4:=hideC (B.below X3.out hb (B.isLt X3.out));clear hb;have k41 : w4.cell? ⟨w.heap.size,1,none⟩ = some (.slice an 0 cn):=B.cell X4.out 1 rfl)
  | (have _:=X6;go_at_call 134;refine (HTW.out _ _ _).mono ?_;rintro e w7 ⟨rfl,hb⟩;have HB7:=hideC (HB6.out.trans (hb.mono HB6.out.size));have X7:=hideC (B.below X6.out hb (B.isLt X6.out));clear hb;have k70 : w7.cell? ⟨w.heap.size,0,none⟩ = some (.string nm):=B.cell X7.out 0 rfl;have k71 : w7.cell? ⟨w.heap.size,1,none⟩ = some (.slice an 0 cn):=B.cell X7.out 1 rfl;have k72 : w7.cell? ⟨w.heap.size,2,none⟩ = some (.slice ag gl cg):=B.cell X7.out 2 rfl;have k73 : w7.cell? ⟨w.heap.size,3,none⟩ = some (.slice ay 0 cy):=B.cell X7.out 3 rfl;have k74 : w7.cell? ⟨w.heap.size,4,none⟩ = some (.slice ar 0 cr):=B.cell X7.out 4 rfl;have k75 : w7.cell? ⟨w.heap.size,5,none⟩ = some (.int .i64 en):=B.cell X7.out 5 rfl)
  | (go_at_call 134;refine (HTW.out _ _ _).mono ?_;rintro e w5 ⟨rfl,hb⟩;have HB5:=hideC (HB4.out.trans (hb.mono HB4.out.size));have X5:=hideC (B.below X4.out hb (B.isLt X4.out));clear hb;have k53 : w5.cell? ⟨w.heap.size,3,none⟩ = some (.slice ay 0 cy):=B.cell X5.out 3 rfl)
  | (go_at_call 135;refine (HSN.out _).mono ?_;rintro e w6 ⟨rfl,hb⟩;have HB6:=hideC (HB5.out.trans (hb.mono HB5.out.size));have X6:=hideC (B.below X5.out hb (B.isLt X5.out));clear hb)
  | (go_at_call 136;refine (HSY.out _).mono ?_;rintro e w8 ⟨rfl,hb⟩;have HB8:=hideC (HB7.out.trans (hb.mono HB7.out.size));have X8:=hideC (B.below X7.out hb (B.isLt X7.out));clear hb;have k80 : w8.cell? ⟨w.heap.size,0,none⟩ = some (.string nm):=B.cell X8.out 0 rfl;have k81 : w8.cell? ⟨w.heap.size,1,none⟩ = some (.slice an 0 cn):=B.cell X8.out 1 rfl;have k82 : w8.cell? ⟨w.heap.size,2,none⟩ = some (.slice ag gl cg):=B.cell X8.out 2 rfl;have k83 : w8.cell? ⟨w.heap.size,3,none⟩ = some (.slice ay 0 cy):=B.cell X8.out 3 rfl;have k84 : w8.cell? ⟨w.heap.size,4,none⟩ = some (.slice ar 0 cr):=B.cell X8.out 4 rfl;have k85 : w8.cell? ⟨w.heap.size,5,none⟩ = some (.int .i64 en):=B.cell X8.out 5 rfl)
  | (go_at_call 137;refine (HRL.out _).mono ?_;rintro e w9 ⟨rfl,hb⟩;have HB9:=hideC (HB8.out.trans (hb.mono HB8.out.size));have X9:=hideC (B.below X8.out hb (B.isLt X8.out));clear hb;have k90 : w9.cell? ⟨w.heap.size,0,none⟩ = some (.string nm):=B.cell X9.out 0 rfl;have k91 : w9.cell? ⟨w.heap.size,1,none⟩ = some (.slice an 0 cn):=B.cell X9.out 1 rfl;have k92 : w9.cell? ⟨w.heap.size,2,none⟩ = some (.slice ag gl cg):=B.cell X9.out 2 rfl;have k93 : w9.cell? ⟨w.heap.size,3,none⟩ = some (.slice ay 0 cy):=B.cell X9.out 3 rfl;have k94 : w9.cell? ⟨w.heap.size,4,none⟩ = some (.slice ar 0 cr):=B.cell X9.out 4 rfl;have k95 : w9.cell? ⟨w.heap.size,5,none⟩ = some (.int .i64 en):=B.cell X9.out 5 rfl)
  | (go_at_call 138;refine (HEN.out _ HB9.out).mono ?_;rintro e w10 ⟨rfl,hb⟩;have HB10:=hideC (HB9.out.trans (hb.mono HB9.out.size));have X10:=hideC (B.below X9.out hb (B.isLt X9.out));clear hb))
 go_ret
 exact ⟨rfl,HB10.out⟩
end W
end Go.Proofs.YtkdigjpejnebkaaGreat
