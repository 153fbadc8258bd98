import Derived.Test.YtpgifpeohlllfaaGreatGH29
import Derived.Test.YtpgifpeohlllfaaGreatGH14
import Derived.Test.YtpgifpeohlllfaaGreatGH04
set_option maxHeartbeats 20000000
set_option linter.unusedVariables false
set_option maxRecDepth 100000
set_option linter.unusedSimpArgs false
namespace Go.Proofs.YtpgifpeohlllfaaGreat
namespace KZ
open Go.RowKit GK KO
open KW (cellFr cellSl cellEn HasRow KAt HasK cellsK FitK)
open KY (Small)
theorem check_rise {l : List AM.Ar} {hs : List LM.Sh} {en : Int} (h : LM.checkL l hs en = 0) : AM.checkN l = 0 /\ LM.riseB hs = true /\ (hs.length : Int) = AM.totalN l:=by
 rw [LM.check_same] at h
 unfold LM.checkR at h
 by_cases c : AM.checkN l = 0
 · rw [if_pos c] at h
   by_cases d : (decide ((hs.length : Int) = AM.sumTo l l.length) && (LM.riseB hs && (LM.inTo l hs hs.length && LM.entB l en))) = true
   · simp only [Bool.and_eq_true,decide_eq_true_eq] at d
     refine ⟨c,d.2.1,?_⟩
     unfold AM.totalN
     rw [if_pos c]
     exact d.1
   · rw [if_neg d] at h;cases h
 · rw [if_neg c] at h;exact absurd h c
def newK (l : List AM.Ar) (hs : List LM.Sh) (nf ns : Int) : KM.Kn:=⟨hs,List.replicate nf.toNat KM.fr0,List.replicate ns.toNat KM.sl0,[⟨true,l,[]⟩],0⟩
def newA (l : List AM.Ar) (hs : List LM.Sh) (en nf ns : Int) : KM.Kn × Int:=if LM.checkL l hs en ≠ 0 then (kn0,LM.checkL l hs en) else if nf < 3 then (kn0,9) else if nf > 64 ∨ ns < 0 ∨ ns > 512 then (kn0,3) else if AM.totalN l > ns then (kn0,8) else (newK l hs nf ns,0)
def zf (n : Nat) : Array Value:=madeCells #[.string ⟨#[]⟩,.int .i64 0,.bool false,.bool false] (n * 4)
def zl (n : Nat) : Array Value:=madeCells #[.string ⟨#[]⟩,.int .i64 0] (n * 2)
theorem infoF : (Tryz.prog.info? 40).map (fun i=>(i.zero,i.size,i.bytes)) = some (some (.agg #[.string ⟨#[]⟩,.int .i64 0,.bool false,.bool false]),4,32):=by kernel_rfl
theorem infoL : (Tryz.prog.info? 86).map (fun i=>(i.zero,i.size,i.bytes)) = some (some (.agg #[.string ⟨#[]⟩,.int .i64 0]),2,24):=by kernel_rfl
theorem mkF (V : World) (n : Int) (h0 : 0 <= n) (hn : n <= 1000) : (Instr.makeSlice 23 (.int .i64 n) (.int .i64 n)).run Tryz.prog V = .ok (.slice (some ⟨V.heap.size,0,none⟩) n.toNat n.toNat) (V.alloc (.cells (zf n.toNat) 40)):=by
 obtain ⟨i0,hi,hz0,hz1,hz2⟩:=info_parts infoF
 have h:=run_make (P:=Tryz.prog) V 23 40 i0 _ Tryz.underlying23 hi hz0 .i64 .i64 n n h0 (Int.le_refl _) (by rw [hz2];omega) (by omega)
 rw [hz1] at h
 exact h
theorem mkL (V : World) (n : Int) (h0 : 0 <= n) (hn : n <= 1000) : (Instr.makeSlice 24 (.int .i64 n) (.int .i64 n)).run Tryz.prog V = .ok (.slice (some ⟨V.heap.size,0,none⟩) n.toNat n.toNat) (V.alloc (.cells (zl n.toNat) 86)):=by
 obtain ⟨i0,hi,hz0,hz1,hz2⟩:=info_parts infoL
 have h:=run_make (P:=Tryz.prog) V 24 86 i0 _ Tryz.underlying24 hi hz0 .i64 .i64 n n h0 (Int.le_refl _) (by rw [hz2];omega) (by omega)
 rw [hz1] at h
 exact h
theorem rep_at {α : Type} (x d : α) (n i : Nat) (hi : i < n) : (List.replicate n x).getD i d = x:=by
 rw [List.getD_eq_getElem?_getD,List.getElem?_replicate,if_pos hi];rfl
theorem made_at (c : Array Value) (n i j m : Nat) (hc : c.size = m) (hi : i < n) (hj : j < m) : (madeCells c (n * m))[i * m + j]? = c[j]?:=by
 have h1 : i * m + j < n * m:=by
  have : (i + 1) * m <= n * m:=Nat.mul_le_mul_right m hi
  rw [Nat.add_mul,Nat.one_mul] at this
  omega
 have h2 : (i * m + j) % m = j:=by rw [Nat.mul_comm,Nat.mul_add_mod,Nat.mod_eq_of_lt hj]
 have h3 : j < c.size:=by omega
 unfold madeCells
 simp [h1,hc,h2]
 rw [getElem!_pos c j h3,Array.getElem?_eq_getElem h3]
theorem has_new {W : World} {l : List AM.Ar} {hs : List LM.Sh} {nf ns : Nat} {va : Value} {ao : Option Addr} {cap fb sb pb : Nat} (ha : AW.Has W va l) (hh : LM.HasH W ao hs) (hf : W.heap[fb]? = some (.cells (zf nf) 40 (0,0))) (hl : W.heap[sb]? = some (.cells (zl ns) 86 (0,0))) (hp : W.heap[pb]? = some (.cells #[.bool true,va,.slice none 0 0] 43 (0,0))) :
  HasK W ⟨ao,cap,some ⟨fb,0,none⟩,nf,some ⟨sb,0,none⟩,ns,some ⟨pb,0,none⟩,1⟩ ⟨hs,List.replicate nf KM.fr0,List.replicate ns KM.sl0,[⟨true,l,[]⟩],0⟩:=by
 refine ⟨hh,fun _=>⟨fb,0,rfl,B.isLt hf,fun i hi j hj=>?_⟩,fun _=>⟨sb,0,rfl,B.isLt hl,fun i hi j hj=>?_⟩,fun _=>⟨pb,0,rfl,B.isLt hp,fun i hi=>?_⟩⟩
 · rw [List.length_replicate] at hi
   rw [rep_at _ _ _ _ hi]
   have e:=made_at #[.string ⟨#[]⟩,.int .i64 0,.bool false,.bool false] nf i j 4 rfl hi hj
   rw [Nat.zero_add]
   match j,hj with
   | 0,_=>exact B.cell hf _ e
   | 1,_=>exact B.cell hf _ e
   | 2,_=>exact B.cell hf _ e
   | 3,_=>exact B.cell hf _ e
   | j + 4,h=>exact absurd h (by omega)
 · rw [List.length_replicate] at hi
   rw [rep_at _ _ _ _ hi]
   have e:=made_at #[.string ⟨#[]⟩,.int .i64 0] ns i j 2 rfl hi hj
   rw [Nat.zero_add]
   match j,hj with
   | 0,_=>exact B.cell hl _ e
   | 1,_=>exact B.cell hl _ e
   | j + 2,h=>exact absurd h (by omega)
 · obtain rfl : i = 0:=by
    have : i < 1:=hi
    omega
   exact ⟨va,none,0,B.cell hp 0 rfl,B.cell hp 1 rfl,B.cell hp 2 rfl,ha,fun h=>absurd h (Nat.not_lt_zero _),Nat.le_refl _⟩
theorem new_small {l : List AM.Ar} {hs : List LM.Sh} {en : Int} (h : LM.checkL l hs en = 0) (nf ns : Nat) (hf : nf <= 1000) (hn : ns <= 1000) : Small ⟨hs,List.replicate nf KM.fr0,List.replicate ns KM.sl0,[⟨true,l,[]⟩],0⟩:=by
 obtain ⟨h1,h2,h3⟩:=check_rise h
 have h4:=KW.total_bd l
 have h5:=AM.good_len _ h1
 refine ⟨by show hs.length <= _;omega,fun i hi=>?_,by show (List.replicate nf KM.fr0).length <= _;rw [List.length_replicate];omega,by show (List.replicate ns KM.sl0).length <= _;rw [List.length_replicate];omega,by show 1 <= 1000000;omega,fun i hi=>?_,fun i hi=>?_⟩
 · have:=KY.rise_fixes h2 i hi
   show (LM.shAt hs i).fixes.length <= _
   omega
 · obtain rfl : i = 0:=by
    have : i < 1:=hi
    omega
   show l.length <= _
   omega
 · obtain rfl : i = 0:=by
    have : i < 1:=hi
    omega
   exact Nat.zero_le _
end KZ
end Go.Proofs.YtpgifpeohlllfaaGreat
