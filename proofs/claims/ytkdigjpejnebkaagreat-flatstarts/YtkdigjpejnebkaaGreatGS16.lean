import Derived.Test.YtkdigjpejnebkaaGreatGS15
import Derived.Test.YtkdigjpejnebkaaGreatGS12
import Derived.Lib.Walk
import Derived.Lib.BufferWrite
import Derived.Lib.Hide
import Derived.Laws.MakeOwn
import Derived.Laws.IdiomStrings
import Derived.WalkSpells
import Derived.Deep.QuietTactic
import Derived.BigQuiet
import Derived.Laws.CopyOwn
import Derived.Test.YtkdigjpejnebkaaGreatGS14
set_option linter.unusedVariables false
set_option maxRecDepth 100000
set_option linter.unusedSimpArgs false
namespace Go.Proofs.YtkdigjpejnebkaaGreat
namespace CW
open Go.RowKit
set_option maxHeartbeats 400000 in
theorem clone18 (s : ByteArray) (w : World) (hlim : s.size <= 281474976710656) :
  Calls Tryz.prog 96 #[.string s] w fun e w'=>e = .returned (.string s) /\ Below w.heap.size w w':=by
 by_cases h0 : s.size = 0
 · have hs : s = ⟨#[]⟩:=by
    apply ByteArray.ext
    exact Array.eq_empty_of_size_eq_zero h0
   subst hs
   go_enter Tryz.func96,Tryz.ntmps96
   go_wp2
   go_ret
   exact ⟨rfl,Below.refl _ _⟩
 · obtain ⟨i0,hi,hz0,hz1,hz2⟩:=info_parts info5
   have hinfo : (Tryz.prog.info? 5).map (·.size) = some 1:=by rw [hi];simp [hz1]
   have hco : Tryz.prog.cellsOf 5 = 1:=by simp [Program.cellsOf,hi,hz1]
   obtain ⟨M,hM⟩ : ∃ M,M = madeCells (Value.int .u8 0).cells (((s.size : Nat) : Int).toNat * i0.size):=⟨_,rfl⟩
   have hMs : M.size = s.size:=by rw [hM,size_madeCells,hz1];simp
   have hmk : ∀ W : World,(Instr.makeSlice 158 (.int .i64 (s.size : Int)) (.int .i64 (s.size : Int))).run Tryz.prog W = .ok (.slice (some ⟨W.heap.size,0,none⟩) s.size s.size) (W.alloc (.cells M 5)):=fun W=>by
    have h:=run_make (P:=Tryz.prog) W 158 5 i0 (.int .u8 0) Tryz.underlying158 hi hz0 .i64 .i64 (s.size : Int) (s.size : Int) (by omega) (by omega) (by rw [hz2];omega) (by omega)
    rw [<- hM] at h
    simpa using h
   clear hM
   have hcp:=Lib.run_copy_row_string (P:=Tryz.prog) (w.alloc (.cells M 5)) 158 9 3 5 w.heap.size 0 s.size s.size s M 5 Tryz.underlying158 hinfo (heap_alloc_new w _) (Nat.le_refl _) (by omega)
   obtain ⟨Y,hY⟩ : ∃ Y,Y = (M.toList.take 0 ++ Lib.byteCells s.data.toList ++ M.toList.drop (0 + s.size)).toArray:=⟨_,rfl⟩
   rw [<- hY] at hcp
   have hYl : Y.toList = Lib.byteCells s.data.toList:=by
    rw [hY,List.toList_toArray,List.take_zero,List.nil_append,List.drop_of_length_le (by rw [Array.length_toList];omega),List.append_nil]
   have hYs : Y.size = s.size:=by rw [<- Array.length_toList,hYl,Lib.byteCells_length,<- Lib.size_eq]
   have hgY : ((w.alloc (.cells M 5)).setRow w.heap.size Y).heap[w.heap.size]? = some (.cells Y 5 (0,0)):=setRow_heap _ _ M _ 5 (0,0) (heap_alloc_new w _)
   have hne : s.data.toList ≠ []:=fun e=>h0 (by rw [Lib.size_eq,e];rfl)
   have hUS:=Lib.run_unsafeString_row (P:=Tryz.prog) ((w.alloc (.cells M 5)).setRow w.heap.size Y) 198 3 9 5 Tryz.underlying198 hco w.heap.size Y.size (by unfold World.shape?;rw [hgY]) s.data.toList hne (by rw [<- Lib.size_eq];omega) (by rw [<- Lib.size_eq];omega)
    (fun j x hx=>Lib.cells_of_row hgY Y.size j _ (by rw [List.take_of_length_le (by rw [Array.length_toList];exact Nat.le_refl _),hYl];simp [Lib.byteCells,hx]))
   rw [<- Lib.size_eq] at hUS
   clear hY
   go_enter Tryz.func96,Tryz.ntmps96
   go_wp2
   go_ret
   have hb1 : Below w.heap.size w (w.alloc (.cells M 5)):=(Below.refl _ w).alloc (Nat.le_refl _) _
   have hb2 : Below w.heap.size (w.alloc (.cells M 5)) ((w.alloc (.cells M 5)).setRow w.heap.size Y):=⟨rfl,rfl,rfl,by simp,fun k hk=>setRow_other _ _ _ _ (by omega)⟩
   exact ⟨rfl,Lib.below_freeze (hb1.trans hb2) (p:=⟨w.heap.size,0,none⟩) (Nat.le_refl _) _⟩
theorem clone17 (s : ByteArray) (w : World) (hlim : s.size <= 281474976710656) :
  Calls Tryz.prog 67 #[.string s] w fun e w'=>e = .returned (.string s) /\ Below w.heap.size w w':=by
 go_enter Tryz.func67,Tryz.ntmps67
 go_wp2_with (go_at_call 96;refine (clone18 _ _ hlim).mono ?_;rintro e w' ⟨rfl,hb⟩)
 go_ret
 exact ⟨rfl,by assumption⟩
theorem inside_yes (l o n : Int) (w : World) (h1 : 0 <= o) (h2 : 0 <= n) (h3 : o <= l) (h4 : n <= l - o) (h5 : l <= 9223372036854775807) :
  Calls Tryz.prog 97 #[.int .i64 l,.int .i64 o,.int .i64 n] w fun e w'=>e = .returned (.bool true) /\ w = w':=by
 go_enter Tryz.func97,Tryz.ntmps97
 go_wp2
 go_ret
 exact ⟨rfl,rfl⟩
theorem part_yes (s : ByteArray) (o n : Nat) (w : World) (hs : s.size <= 140737488351232) (h : o + n <= s.size) :
  Calls Tryz.prog 142 #[.string s,.int .i64 o,.int .i64 n] w fun e w'=>e = .returned (.tuple #[.string (s.extract o (o + n)),.int .i64 0]) /\ Below w.heap.size w w':=by
 go_enter Tryz.func142,Tryz.ntmps142
 go_wp2_with (first | (go_at_call 97;refine (inside_yes _ _ _ _ (by omega) (by omega) (by omega) (by omega) (by omega)).mono ?_;rintro e w' ⟨rfl,rfl⟩) | (go_at_call 67;refine (clone17 _ _ (by simp;omega)).mono ?_;rintro e w' ⟨rfl,hb⟩))
 go_ret2
 exact ⟨rfl,by assumption⟩
set_option maxHeartbeats 400000 in
theorem lay_yes (s t : ByteArray) (o : Nat) (w : World) (hs : s.size <= 140737488351232) (h : o + t.size <= s.size) :
  Calls Tryz.prog 68 #[.string s,.int .i64 o,.string t] w fun e w'=>e = .returned (.tuple #[.string (CL.over s o t),.int .i64 0]) /\ Below w.heap.size w w':=by
 obtain ⟨i0,hi,hz0,hz1,hz2⟩:=info_parts info5
 have hinfo : (Tryz.prog.info? 5).map (·.size) = some 1:=by rw [hi];simp [hz1]
 obtain ⟨c,hc⟩ : ∃ c,grownCap w s.size 0 5 = c:=⟨_,rfl⟩
 have hcs : s.size <= c:=by rw [<- hc];exact grownCap_ge _ _ _ _
 have hcv:=run_bytes_of_string (P:=Tryz.prog) w 9 158 5 s Tryz.underlying9 Tryz.underlying158 Tryz.underlying5
 rw [hc] at hcv
 clear hc
 have hRs : (bytesRow s c).size = c:=by rw [CL.bytesRow_size];omega
 have hov:=CL.over_cells s o t c h
 obtain ⟨R,hR⟩ : ∃ R,R = bytesRow s c:=⟨_,rfl⟩
 rw [<- hR] at hcv hRs hov
 clear hR
 rw [hRs] at hcv
 have hgR : ((w.alloc (.cells R 5 (c,c + 1))).drew).heap[w.heap.size]? = some (.cells R 5 (c,c + 1)):=heap_alloc_new w _
 by_cases h0 : t.size = 0
 · have hcp:=fun W d l c=>Lib.run_copy_empty_string (P:=Tryz.prog) W 158 9 3 5 d l c t Tryz.underlying158 (by rw [hinfo];rfl) h0
   rw [CL.over_nil s o t h0] at hov ⊢
   have hcb : (convert 158 9 (.slice (some ⟨w.heap.size,0,none⟩) s.size c)).run Tryz.prog ((w.alloc (.cells R 5 (c,c + 1))).drew) = .ok (.string s) ((w.alloc (.cells R 5 (c,c + 1))).drew):=by
    have es : strOfNums (s.data.toList.map fun b=>(b.toNat : Int)) = s:=(CM.strOfNums_bytes _).trans (Lib.mk_data s)
    refine Eq.trans ?_ (congrArg (fun x=>Result.ok (Value.string x) ((w.alloc (.cells R 5 (c,c + 1))).drew)) es)
    refine run_convert_bytes_arg _ 158 5 Tryz.underlying158 Tryz.underlying5 _ 0 s.size c _ (by rw [List.length_map,<- Lib.size_eq]) ?_ 9 Tryz.underlying9
    intro i hi
    have ht : t.data.toList = []:=List.eq_nil_of_length_eq_zero (by rw [<- Lib.size_eq];exact h0)
    have e:=hov i hi
    rw [ht,h0] at e
    rw [Nat.zero_add,cell_of_row _ _ _ _ _ _ hgR]
    simpa [Lib.byteCells] using e
   go_enter Tryz.func68,Tryz.ntmps68
   go_wp2_with (first | (go_at_call 97;refine (inside_yes _ _ _ _ (by omega) (by omega) (by omega) (by omega) (by omega)).mono ?_;rintro e w' ⟨rfl,rfl⟩))
   all_goals go_ret2
   all_goals exact ⟨rfl,((Below.refl _ _).alloc (Nat.le_refl _) _).drew⟩
 · have hno : ¬ c = o:=by omega
   have hcp:=CL.copy_marked (P:=Tryz.prog) ((w.alloc (.cells R 5 (c,c + 1))).drew) 158 9 3 5 w.heap.size o (s.size - o) (c - o) t R 5 c (c + 1) Tryz.underlying158 hinfo hgR (by omega) (by omega) (by omega)
   obtain ⟨Y,hY⟩ : ∃ Y,Y = (R.toList.take o ++ Lib.byteCells t.data.toList ++ R.toList.drop (o + t.size)).toArray:=⟨_,rfl⟩
   rw [<- hY] at hcp
   have hgY : (((w.alloc (.cells R 5 (c,c + 1))).drew).setRow w.heap.size Y).heap[w.heap.size]? = some (.cells Y 5 (c,c + 1)):=setRow_heap _ _ R _ 5 (c,c + 1) hgR
   have hcb : (convert 158 9 (.slice (some ⟨w.heap.size,0,none⟩) s.size c)).run Tryz.prog (((w.alloc (.cells R 5 (c,c + 1))).drew).setRow w.heap.size Y) = .ok (.string (CL.over s o t)) (((w.alloc (.cells R 5 (c,c + 1))).drew).setRow w.heap.size Y):=by
    rw [<- Lib.mk_data (CL.over s o t),<- CM.strOfNums_bytes]
    refine run_convert_bytes_arg _ 158 5 Tryz.underlying158 Tryz.underlying5 _ 0 s.size c _ (by rw [List.length_map];exact CL.over_size s o t h) ?_ 9 Tryz.underlying9
    intro i hi
    rw [Nat.zero_add,cell_of_row _ _ _ _ _ _ hgY,hY]
    simpa using hov i hi
   clear hov hY
   go_enter Tryz.func68,Tryz.ntmps68
   go_wp2_with (first | (go_at_call 97;refine (inside_yes _ _ _ _ (by omega) (by omega) (by omega) (by omega) (by omega)).mono ?_;rintro e w' ⟨rfl,rfl⟩))
   go_ret2
   exact ⟨rfl,below_setRow ((Below.refl _ _).alloc (Nat.le_refl _) _).drew (Nat.le_refl _) _⟩
set_option maxHeartbeats 400000 in
theorem over_any (s t : ByteArray) (o : Nat) (w : World) (hs : s.size <= 140737488351232) (h : o + t.size <= s.size) :
  Calls Tryz.prog 70 #[.string s,.int .i64 o,.string t] w fun e w'=>e = .returned (.string (CL.over s o t)) /\ Below w.heap.size w w':=by
 have h1 : (o : Int) <= (s.size : Int):=by omega
 have h2 : (o : Int) + (t.size : Int) <= (s.size : Int):=by omega
 go_enter Tryz.func70,Tryz.ntmps70
 go_wp2
 go_quiet (fail)
 go_wp2
 go_ret
 exact ⟨by rw [<- CL.over_parts s o t];rfl,below_drewN (Below.refl _ _) _⟩
end CW
namespace GF
open Go.RowKit GK
open FW (hideC add_below)
def win (ps : List FM.Pg) (i m : Nat) : List FM.Pg:=(ps.drop i).take m
theorem win_len {ps : List FM.Pg} {i m : Nat} (h : i + m <= ps.length) : (win ps i m).length = m:=by
 unfold win
 rw [List.length_take,List.length_drop]
 omega
theorem win_at {ps : List FM.Pg} {i m j : Nat} (hj : j < m) : FM.pgAt (win ps i m) j = FM.pgAt ps (i + j):=by
 unfold win FM.pgAt
 rw [List.getD_eq_getElem?_getD,List.getD_eq_getElem?_getD,List.getElem?_take_of_lt hj,List.getElem?_drop]
theorem win_has {w : World} {ps : List FM.Pg} {pb i m : Nat} (h : FW.HasP w (some ⟨pb,0,none⟩) ps) (hi : i + m <= ps.length) : FW.HasP w (some ⟨pb,i * 2,none⟩) (win ps i m):=fun hm=>by
 rw [win_len hi] at hm
 obtain ⟨b,off,e,hb,hl⟩:=h (by omega)
 injection e with e
 injection e with e1 e2 _
 subst e1 e2
 refine ⟨pb,i * 2,rfl,hb,fun j hj=>?_⟩
 rw [win_len hi] at hj
 obtain ⟨c0,c1⟩:=hl (i + j) (by omega)
 rw [win_at hj]
 rw [Nat.zero_add,Nat.add_mul] at c0 c1
 exact ⟨c0,c1⟩
theorem reach_count {ps : List FM.Pg} {a n : Int} {i : Nat} (h : GM.Reach ps a n i) : ((GM.lastP a n - a / 16 + 1).toNat = 1 /\ GM.lastP a n = a / 16) ∨ ((GM.lastP a n - a / 16 + 1).toNat = 2 /\ GM.lastP a n = a / 16 + 1 /\ i + 1 < ps.length /\ (FM.pgAt ps (i + 1)).page = GM.lastP a n):=by
 rcases h.last with e | ⟨e,e2,e3⟩
 · exact .inl ⟨by omega,e⟩
 · exact .inr ⟨by omega,e,e2,e3⟩
theorem reach_le {ps : List FM.Pg} {a n : Int} {i : Nat} (h : GM.Reach ps a n i) : i + (GM.lastP a n - a / 16 + 1).toNat <= ps.length:=by
 have:=h.lt
 rcases reach_count h with ⟨e,_⟩ | ⟨e,_,e2,_⟩ <;> omega
theorem win_cat {s : FM.Sp} (hL : GM.Liv s) {a n : Int} {i : Nat} (h : GM.Reach s.pages a n i) : FW.catTo (win s.pages i (GM.lastP a n - a / 16 + 1).toNat) (GM.lastP a n - a / 16 + 1).toNat = GM.joinF s.pages a n:=by
 unfold GM.joinF
 rcases reach_count h with ⟨e,e1⟩ | ⟨e,e1,e2,e3⟩
 · rw [if_pos e1,e]
   show (⟨#[]⟩ : ByteArray) ++ (FM.pgAt (win s.pages i 1) 0).data = _
   rw [win_at (by omega),GM.pg_at hL.rise h.lt h.first,Nat.add_zero]
   exact ByteArray.empty_append
 · rw [if_neg (by omega),e]
   show ((⟨#[]⟩ : ByteArray) ++ (FM.pgAt (win s.pages i 2) 0).data) ++ (FM.pgAt (win s.pages i 2) 1).data = _
   rw [win_at (by omega),win_at (by omega),GM.pg_at hL.rise h.lt h.first,GM.pg_at hL.rise e2 e3,Nat.add_zero]
   rw [show (⟨#[]⟩ : ByteArray) ++ (FM.pgAt s.pages i).data = (FM.pgAt s.pages i).data from ByteArray.empty_append]
theorem win_size {s : FM.Sp} (hL : GM.Liv s) {i m : Nat} (h : i + m <= s.pages.length) : ∀ k,k < (win s.pages i m).length -> (FM.pgAt (win s.pages i m) k).data.size = 16:=fun k hk=>by
 rw [win_len h] at hk
 rw [win_at hk]
 exact hL.size _ (by omega)
def HdF (lo mb : Nat) (w : World) (D : Nat -> Prop) (m : GM.Mf) : Prop:=(∃ v L,Mem lo mb w D m.slots v L m.spaces) /\ ∀ b,D b -> lo <= b /\ b < w.heap.size
theorem HdF.kp {lo mb : Nat} {w w' : World} {D E : Nat -> Prop} {m : GM.Mf} (h : HdF lo mb w D m) (hk : Kp E w w') (hd : ∀ b,D b -> ¬ E b) : HdF lo mb w' D m:=by
 obtain ⟨⟨v,L,h1⟩,h2⟩:=h
 exact ⟨⟨v,L,h1.kp hk hd⟩,fun b hb=>⟨(h2 b hb).1,Nat.lt_of_lt_of_le (h2 b hb).2 hk.size⟩⟩
theorem HdF.below {lo mb : Nat} {w w' : World} {D : Nat -> Prop} {m : GM.Mf} (h : HdF lo mb w D m) (hb : Below w.heap.size w w') : HdF lo mb w' D m:=h.kp (Kp.ofBelow (D:=fun _=>False) hb) (fun _ _ g=>g)
set_option maxHeartbeats 4000000 in
theorem load_any {lo mb : Nat} (w : World) (D : Nat -> Prop) (m : GM.Mf) (fl : List Bool) (k : Nat) (a n way : Int) (h : HdF lo mb w D m) (hok : GM.OkF m fl) (hf : fl.getD k false = true) (ha : M.I64 a) (hn1 : 1 <= n) (hn8 : n <= 8) :
  Calls Tryz.prog 192 #[.pointer (some ⟨mb,0,none⟩),.int .i64 (k : Int),.int .i64 a,.int .i64 n,.int .i64 way] w (GW.Out (HdF lo mb) w D (.tuple #[.string (GM.loadM m k a n way).1.1,.agg (FW.fcells (GM.loadM m k a n way).1.2)]) (GM.loadM m k a n way).2):=by
 obtain ⟨⟨v,L,hM⟩,hD⟩:=h
 obtain ⟨hk,hlv⟩:=hok.live hf
 have hL:=GM.liv_of (hok.each k hk) hlv
 have h4:=hok.few.2
 have HRE:=hideC (fun V (hV : Below w.heap.size w V)=>reach_any k a n way V (hM.below hV) hk (by omega) hL ha hn1 hn8)
 have HLM : Hid (GM.loadM m k a n way = if (FM.faultN (FM.spAt m.spaces k).areas a n way).1 = 0 then ((GM.loadF (FM.spAt m.spaces k).pages a n,(0,0)),m) else ((⟨#[]⟩,FM.faultN (FM.spAt m.spaces k).areas a n way),m)):=rfl
 have HFIN : Hid (∀ w',Below w.heap.size w w' -> GW.Out (HdF lo mb) w D (.tuple #[.string (GM.loadM m k a n way).1.1,.agg (FW.fcells (GM.loadM m k a n way).1.2)]) (GM.loadM m k a n way).2 (.returned (.tuple #[.string (GM.loadM m k a n way).1.1,.agg (FW.fcells (GM.loadM m k a n way).1.2)])) w'):=fun w' hb=>by
  refine ⟨D,rfl,?_,Kp.ofBelow hb,fun b hb=>.inl hb⟩
  have : (GM.loadM m k a n way).2 = m:=by unfold GM.loadM;split <;> rfl
  rw [this]
  exact HdF.below ⟨⟨v,L,hM⟩,hD⟩ hb
 have HHP : Hid (∀ V,Below w.heap.size w V -> ∀ pb cp,(lcAt L k).vp = .slice (some ⟨pb,0,none⟩) (FM.spAt m.spaces k).pages.length cp -> FW.HasP V (some ⟨pb,0,none⟩) (FM.spAt m.spaces k).pages):=fun V hV pb cp e=>by
  obtain ⟨sb,cap,aa,na,ca,ap,cp',_,_,hlc,_,_,_,_,hHp,_,_,_⟩:=(hM.below hV).space k hk
  rw [hlc] at e
  injection e with e1 e2 e3
  subst e1
  exact hHp
 have HL:=hideC hL
 obtain ⟨P,hP⟩ : ∃ P,P = GW.Out (HdF lo mb) w D (.tuple #[.string (GM.loadM m k a n way).1.1,.agg (FW.fcells (GM.loadM m k a n way).1.2)]) (GM.loadM m k a n way).2:=⟨_,rfl⟩
 rw [<- hP] at HFIN ⊢
 obtain ⟨X,hX⟩ : ∃ X,X = GM.loadM m k a n way:=⟨_,rfl⟩
 rw [<- hX] at HFIN HLM
 obtain ⟨s,hs⟩ : ∃ s,s = FM.spAt m.spaces k:=⟨_,rfl⟩
 rw [<- hs] at HRE HLM HHP HL
 obtain ⟨vp,hvp⟩ : ∃ vp,vp = (lcAt L k).vp:=⟨_,rfl⟩
 rw [<- hvp] at HRE HHP
 obtain ⟨f,hff⟩ : ∃ f,f = FM.faultN s.areas a n way:=⟨_,rfl⟩
 rw [<- hff] at HRE HLM
 obtain ⟨f1,f2⟩:=f
 have HB0:=hideC ((Below.refl w.heap.size w).alloc (Nat.le_refl _) (.cells #[.int .i64 0,.int .i64 0] 68))
 have BY:=hideC (B.new w #[.int .i64 0,.int .i64 0] 68)
 have hki : k < 9223372036854775807:=by omega
 clear hM hD hok hf hL hlv hP hX hs hvp hff
 unfold OutReach FW.fcells at HRE
 simp only at HRE HLM
 by_cases hf1 : f1 = 0
 · subst hf1
   have HX : Hid (X = ((GM.loadF s.pages a n,(0,0)),m)):=by rw [HLM.out,if_pos rfl];exact rfl
   clear HLM
   have HR2 : Hid (∀ V,Below w.heap.size w V -> Calls Tryz.prog 197 #[.pointer (some ⟨mb,0,none⟩),.int .i64 (k : Int),.int .i64 a,.int .i64 n,.int .i64 way] V fun e w'=>∃ i pb cp,Below V.heap.size V w' /\ GM.Reach s.pages a n i /\ vp = .slice (some ⟨pb,0,none⟩) s.pages.length cp /\ e = .returned (.tuple #[.slice (some ⟨pb,i * 2,none⟩) (GM.lastP a n - a / 16 + 1).toNat (cp - i),.agg #[.int .i64 0,.int .i64 0]])):=fun V hV=>(HRE.out V hV).mono fun e w' ⟨hb,hh⟩=>by
    rcases hh with ⟨g,_⟩ | ⟨_,i,pb,cp,h1,h2,h3⟩
    · exact (g rfl).elim
    · exact ⟨i,pb,cp,hb,h1,h2,h3⟩
   have HJ : Hid (∀ V,Below w.heap.size w V -> ∀ i pb cp c,GM.Reach s.pages a n i -> vp = .slice (some ⟨pb,0,none⟩) s.pages.length cp -> Calls Tryz.prog 198 #[.slice (some ⟨pb,i * 2,none⟩) (GM.lastP a n - a / 16 + 1).toNat c] V fun e w'=>e = .returned (.string (GM.joinF s.pages a n)) /\ Below V.heap.size V w'):=fun V hV i pb cp c hr hv=>by
    have hle:=reach_le hr
    have:=FW.join_any (win s.pages i (GM.lastP a n - a / 16 + 1).toNat) (some ⟨pb,i * 2,none⟩) c V (win_has (HHP.out V hV pb cp hv) hle) (win_size HL.out hle) (by rw [win_len hle];rcases reach_count hr with ⟨g,_⟩ | ⟨g,_⟩ <;> omega)
    rw [win_len hle,win_cat HL.out hr] at this
    exact this
   have HPT : Hid (∀ V i,GM.Reach s.pages a n i -> Calls Tryz.prog 142 #[.string (GM.joinF s.pages a n),.int .i64 (a % 16),.int .i64 n] V fun e w'=>e = .returned (.tuple #[.string (GM.loadF s.pages a n),.int .i64 0]) /\ Below V.heap.size V w'):=fun V i hr=>by
    have h1:=hr.low
    have hsz:=GM.join_size HL.out hr
    have:=CW.part_yes (GM.joinF s.pages a n) (a % 16).toNat n.toNat V (by rcases hsz with ⟨g,_⟩ | ⟨g,_⟩ <;> omega) (by rcases hsz with ⟨g,g2⟩ | ⟨g,g2⟩ <;> (unfold GM.lastP at g2;omega))
    rw [show (((a % 16).toNat : Nat) : Int) = a % 16 by omega,show ((n.toNat : Nat) : Int) = n by omega] at this
    exact this
   have HLOW:=hideC (fun i (hr : GM.Reach s.pages a n i)=>hr.low)
   obtain ⟨MM,hMM⟩ : ∃ MM,MM = (GM.lastP a n - a / 16 + 1).toNat:=⟨_,rfl⟩
   rw [<- hMM] at HR2 HJ
   obtain ⟨J,hJ⟩ : ∃ J,J = GM.joinF s.pages a n:=⟨_,rfl⟩
   rw [<- hJ] at HJ HPT
   obtain ⟨Q,hQ⟩ : ∃ Q,Q = GM.loadF s.pages a n:=⟨_,rfl⟩
   rw [<- hQ] at HPT HX
   clear HRE hMM hJ hQ
   go_enter Tryz.func192,Tryz.ntmps192
   go_wp2_with (first
    | (go_at_call 197;refine (HR2.out _ HB0.out).mono ?_;rintro e w1 ⟨i,pb,cp,hb1,hre,hvp,rfl⟩;have HRX:=hideC hre;have HVP:=hideC hvp;have HB1:=hideC (HB0.out.trans (hb1.mono HB0.out.size));have BY1:=hideC (B.below BY.out hb1 (B.isLt BY.out));have h16:=HLOW.out i hre;have HB2:=hideC (HB1.out.alloc HB1.out.size (.cells #[.int .i64 0,.int .i64 0] 68));have BY2:=hideC (B.alloc BY1.out (.cells #[.int .i64 0,.int .i64 0] 68));clear hb1 hre hvp)
    | (go_at_call 198;refine (HJ.out _ HB2.out i pb cp _ HRX.out HVP.out).mono ?_;rintro e w3 ⟨rfl,hb3⟩;have HB3:=hideC (HB2.out.trans (hb3.mono HB2.out.size));have BY3:=hideC (B.below BY2.out hb3 (B.isLt BY2.out));clear hb3)
    | (go_at_call 142;refine (HPT.out _ i HRX.out).mono ?_;rintro e w4 ⟨rfl,hb4⟩;have HB4:=hideC (HB3.out.trans (hb4.mono HB3.out.size));have BY4:=hideC (B.below BY3.out hb4 (B.isLt BY3.out));have y0:=B.cell (v:=.int .i64 0) BY4.out 0 rfl;have y1:=B.cell (v:=.int .i64 0) BY4.out 1 rfl;have y2:=B.free BY4.out 0;have y3:=B.free BY4.out 1;clear hb4))
   refine bodyPost_ret (v:=.tuple #[.string Q,.agg #[.int .i64 0,.int .i64 0]]) (by simp [results,Tryz.results192,go_sem,y0,y1]) rfl ?_
   have:=HFIN.out _ ((HB4.out.setCell (p:=⟨w.heap.size,0,none⟩) (Nat.le_refl _) (.int .i64 0)).setCell (p:=⟨w.heap.size,1,none⟩) (Nat.le_refl _) (.int .i64 0))
   rw [HX.out] at this
   exact this
 · have HX : Hid (X = ((⟨#[]⟩,(f1,f2)),m)):=by rw [HLM.out,if_neg hf1];exact rfl
   have hfi : (f1 == 0) = false:=by rw [beq_eq_false_iff_ne];exact hf1
   have HR2 : Hid (∀ V,Below w.heap.size w V -> Calls Tryz.prog 197 #[.pointer (some ⟨mb,0,none⟩),.int .i64 (k : Int),.int .i64 a,.int .i64 n,.int .i64 way] V fun e w'=>Below V.heap.size V w' /\ e = .returned (.tuple #[.slice none 0 0,.agg #[.int .i64 f1,.int .i64 f2]])):=fun V hV=>(HRE.out V hV).mono fun e w' ⟨hb,hh⟩=>by
    rcases hh with ⟨_,g⟩ | ⟨g,_⟩
    · exact ⟨hb,g⟩
    · exact (hf1 g).elim
   clear HLM HRE hf1
   go_enter Tryz.func192,Tryz.ntmps192
   go_wp2_with (go_at_call 197;refine (HR2.out _ HB0.out).mono ?_;rintro e w1 ⟨hb1,rfl⟩;have HB1:=hideC (HB0.out.trans (hb1.mono HB0.out.size));have BY1:=hideC (B.below BY.out hb1 (B.isLt BY.out));have y0 : ∀ ob,(w1.alloc ob).cell? ⟨w.heap.size,0,none⟩ = some (.int .i64 0):=(fun ob=>B.cell (B.alloc BY1.out ob) 0 rfl);have y1 : ∀ ob,(w1.alloc ob).cell? ⟨w.heap.size,1,none⟩ = some (.int .i64 0):=(fun ob=>B.cell (B.alloc BY1.out ob) 1 rfl);have y2 : ∀ ob,(w1.alloc ob).frozen? ⟨w.heap.size,0,none⟩ = false:=(fun ob=>B.free (B.alloc BY1.out ob) 0);have y3 : ∀ ob,(w1.alloc ob).frozen? ⟨w.heap.size,1,none⟩ = false:=(fun ob=>B.free (B.alloc BY1.out ob) 1);clear hb1)
   go_region
   all_goals
    go_wp2
    refine bodyPost_ret (v:=.tuple #[.string ⟨#[]⟩,.agg #[.int .i64 f1,.int .i64 f2]]) (by simp [results,Tryz.results192,go_sem,y0,y1]) rfl ?_
    have:=HFIN.out _ (((HB1.out.alloc HB1.out.size (.cells #[.int .i64 f1,.int .i64 f2] 68)).drew.setCell (p:=⟨w.heap.size,0,none⟩) (Nat.le_refl _) (.int .i64 f1)).setCell (p:=⟨w.heap.size,1,none⟩) (Nat.le_refl _) (.int .i64 f2))
    rw [HX.out] at this
    exact this
theorem set_pg {ps : List FM.Pg} (hr : FW.Rise ps) {i : Nat} (hi : i < ps.length) {p : Int} (hp : (FM.pgAt ps i).page = p) (d : ByteArray) : GM.setPg p d ps = ps.set i ⟨p,d⟩:=by
 apply List.ext_getElem?
 intro j
 unfold GM.setPg
 rw [List.getElem?_map,List.getElem?_set]
 by_cases c : j < ps.length
 · rw [List.getElem?_eq_getElem c]
   have hj : FM.pgAt ps j = ps[j]:=by unfold FM.pgAt;rw [List.getD_eq_getElem?_getD,List.getElem?_eq_getElem c];rfl
   by_cases e : i = j
   · subst e
     rw [if_pos rfl,if_pos c,Option.map_some,<- hj,if_pos hp]
   · rw [if_neg e,Option.map_some,<- hj,if_neg]
     intro g
     rcases Nat.lt_or_ge i j with q | q
     · have:=hr i j q c;omega
     · have:=hr j i (by omega) hi;omega
 · rw [List.getElem?_eq_none (by omega),if_neg (by omega)];rfl
def putTo (ps : List FM.Pg) (i : Nat) (dt : ByteArray) : Nat -> List FM.Pg
 | 0=>ps
 | t + 1=>(putTo ps i dt t).set (i + t) ⟨(FM.pgAt ps (i + t)).page,dt.extract (t * 16) (t * 16 + 16)⟩
theorem putTo_len (ps : List FM.Pg) (i : Nat) (dt : ByteArray) : ∀ t,(putTo ps i dt t).length = ps.length
 | 0=>rfl
 | t + 1=>by show ((putTo ps i dt t).set _ _).length = _;rw [List.length_set];exact putTo_len ps i dt t
theorem putTo_page (ps : List FM.Pg) (i : Nat) (dt : ByteArray) : ∀ t j,(FM.pgAt (putTo ps i dt t) j).page = (FM.pgAt ps j).page
 | 0,j=>rfl
 | t + 1,j=>by
  have ih:=putTo_page ps i dt t j
  show (FM.pgAt ((putTo ps i dt t).set (i + t) _) j).page = _
  unfold FM.pgAt at ih ⊢
  rw [List.getD_eq_getElem?_getD,List.getElem?_set]
  by_cases e : i + t = j
  · rw [if_pos e]
    subst e
    by_cases c : i + t < (putTo ps i dt t).length
    · rw [if_pos c];rfl
    · rw [if_neg c]
      rw [putTo_len] at c
      rw [List.getD_eq_getElem?_getD,List.getElem?_eq_none (by omega)]
  · rw [if_neg e]
    rw [List.getD_eq_getElem?_getD] at ih
    exact ih
theorem putTo_all {s : FM.Sp} (hL : GM.Liv s) {a : Int} {d : ByteArray} {i : Nat} (h : GM.Reach s.pages a d.size i) : putTo s.pages i (CL.over (GM.joinF s.pages a d.size) (a % 16).toNat d) (GM.lastP a d.size - a / 16 + 1).toNat = GM.storeF s.pages a d:=by
 unfold GM.storeF
 rcases reach_count h with ⟨e,e1⟩ | ⟨e,e1,e2,e3⟩
 · rw [if_pos e1,e,set_pg hL.rise h.lt h.first]
   show s.pages.set (i + 0) ⟨(FM.pgAt s.pages (i + 0)).page,_⟩ = _
   rw [Nat.add_zero,h.first]
 · rw [if_neg (by omega),e,set_pg hL.rise h.lt h.first]
   have hr2 : FW.Rise (s.pages.set i ⟨a / 16,(CL.over (GM.joinF s.pages a d.size) (a % 16).toNat d).extract 0 16⟩):=fun x y hxy hy=>by
    have hpg : ∀ j,(FM.pgAt (s.pages.set i ⟨a / 16,(CL.over (GM.joinF s.pages a d.size) (a % 16).toNat d).extract 0 16⟩) j).page = (FM.pgAt s.pages j).page:=fun j=>by
     unfold FM.pgAt
     rw [List.getD_eq_getElem?_getD,List.getElem?_set]
     by_cases g : i = j
     · subst g
       rw [if_pos rfl,if_pos h.lt]
       exact h.first.symm
     · rw [if_neg g,List.getD_eq_getElem?_getD]
    rw [List.length_set] at hy
    rw [hpg,hpg]
    exact hL.rise x y hxy hy
   have hp2 : (FM.pgAt (s.pages.set i ⟨a / 16,(CL.over (GM.joinF s.pages a d.size) (a % 16).toNat d).extract 0 16⟩) (i + 1)).page = GM.lastP a d.size:=by
    rw [<- e3]
    unfold FM.pgAt
    rw [List.getD_eq_getElem?_getD,List.getD_eq_getElem?_getD,List.getElem?_set_ne (by omega)]
   rw [set_pg hr2 (by rw [List.length_set];exact e2) hp2]
   show (s.pages.set (i + 0) ⟨(FM.pgAt s.pages (i + 0)).page,_⟩).set (i + 1) ⟨(FM.pgAt s.pages (i + 1)).page,_⟩ = _
   rw [Nat.add_zero,h.first,e3]
theorem Mem.pages {lo mb : Nat} {w w' : World} {D : Nat -> Prop} {sl : Int} {v : Value} {L : List Lc} {ss : List FM.Sp} (h : Mem lo mb w D sl v L ss) (k : Nat) (hk : k < ss.length) {ps : List FM.Pg} (hkp : Kp (fun b=>blk (lcAt L k).vp b) w w') (hrow : w'.ownsRow lo 65 2 (lcAt L k).vp ps.length (ps.flatMap cellPg)) :
  Mem lo mb w' D sl v L (ss.set k { FM.spAt ss k with pages:=ps }):=by
 have hlen:=h.len
 have hkL : k < L.length:=by omega
 refine ⟨by rw [List.length_set];exact hlen,hkp.keep h.head (h.n2 k hkL).2,hkp.row h.row (fun g hg e=>(h.n3 k hkL g hg).2 e),fun j hj=>?_,h.base,h.n1,h.n2,h.n3,h.n4,h.d1,h.d2,h.d3⟩
 rw [GM.spAt_set _ _ _ _ hk]
 by_cases c : j = k
 · subst c
   rw [if_pos rfl]
   have:=h.each j hj
   exact ⟨this.live,hkp.row this.areas (fun b hb e=>(h.n4 j j hj hj b e).1 hb),hrow⟩
 · rw [if_neg c]
   exact (h.each j hj).kp hkp (fun b hb e=>(h.n4 k j hkL hj b e).1 hb) (fun b hb e=>(h.n4 k j hkL hj b e).2 (fun g=>c g.symm) hb)
theorem Mem.data {lo mb : Nat} {w : World} {D : Nat -> Prop} {sl : Int} {v : Value} {L : List Lc} {ss : List FM.Sp} (h : Mem lo mb w D sl v L ss) (k : Nat) (hk : k < ss.length) {pb n cp : Nat} (hvp : (lcAt L k).vp = .slice (some ⟨pb,0,none⟩) n cp) (j : Nat) (hj : j < (FM.spAt ss k).pages.length) (d : ByteArray) :
  Mem lo mb (w.setCell ⟨pb,j * 2 + 1,none⟩ (.string d)) D sl v L (ss.set k { FM.spAt ss k with pages:=(FM.spAt ss k).pages.set j ⟨(FM.pgAt (FM.spAt ss k).pages j).page,d⟩ }):=by
 have hkL : k < L.length:=by rw [h.len];exact hk
 have hr:=(h.each k hkL).pages
 rw [hvp] at hr
 have hn : n = (FM.spAt ss k).pages.length:=by
  obtain ⟨ao,cap,e,_,_⟩:=row_form hr
  injection e
 rw [hn] at hr hvp
 refine h.pages k hk (Kp.set _ _ _ _ (by rw [hvp];rfl)) ?_
 rw [hvp,List.length_set]
 have:=row_set hr (j * 2 + 1) (.string d)
 rw [<- rows_set cellPg 2 cellPg_len FM.pg0 ⟨(FM.pgAt (FM.spAt ss k).pages j).page,d⟩ 1 (.string d) (by omega) _ j hj rfl] at this
 exact this
end GF
end Go.Proofs.YtkdigjpejnebkaaGreat
