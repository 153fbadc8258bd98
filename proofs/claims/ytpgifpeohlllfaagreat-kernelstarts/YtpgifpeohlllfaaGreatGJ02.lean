import Derived.Test.YtpgifpeohlllfaaGreatGJ01
import Derived.Deep.AppendLies
import Derived.Test.YtpgifpeohlllfaaGreatGJ00
import Derived.Lib.Hide
import Derived.WalkSpells
import Derived.Deep.CutBlock
import Derived.Deep.DeepCutAuto
import Derived.Lib.SliceRun
import Derived.WalkKit
import Derived.Below
import Derived.Lib.Strings
set_option maxHeartbeats 20000000
set_option linter.unusedVariables false
set_option maxRecDepth 100000
set_option linter.unusedSimpArgs false
namespace Go.Proofs.YtpgifpeohlllfaaGreat
namespace AW
open Go.RowKit
theorem index56 (F : Nat -> AM.St) (k : Nat) (hk : k < 256) (w : World) : (Instr.index 215 (.agg (AM.cellsL F)) (.int .i64 k)).run Tryz.prog w = .ok (.agg #[.bool (F k).m,.int .i64 (F k).p,.bool (F k).z]) w:=by
 have h1 : (k : Int) < 256:=by omega
 simp [Instr.index,run_underlying Tryz.underlying215,go_sem]
 rw [if_pos hk,AM.cellsL_part F k hk]
theorem info24 : (Tryz.prog.info? 47).map (fun i=>(i.zero,i.size,i.bytes)) = some (some (.agg #[.int .i64 0,.int .i64 0,.int .i64 0,.bool false]),4,32):=by kernel_rfl
def Has (w : World) (v : Value) (l : List AM.Ar) : Prop:=∃ ao cap,v = .slice ao l.length cap /\ (l = [] ∨ ∃ b off,ao = some ⟨b,off,none⟩ /\ AM.Lie w b off l)
theorem fin_last {w wx : World} {v : Value} {n : Nat} {xs : List Value} {C : Array Value} (hC : C.size = 3) (hown : wx.ownsRow (w.heap.size + 2) 47 4 v n xs) (hl : wx.heap[w.heap.size + 1]? = some (.cells C 173 (0,0))) (hb : Below w.heap.size w wx) (x y z : Value) :
  (((wx.setCell ⟨w.heap.size + 1,0,none⟩ x).setCell ⟨w.heap.size + 1,1,none⟩ y).setCell ⟨w.heap.size + 1,2,none⟩ z).ownsRow (w.heap.size + 2) 47 4 v n xs /\
  (((wx.setCell ⟨w.heap.size + 1,0,none⟩ x).setCell ⟨w.heap.size + 1,1,none⟩ y).setCell ⟨w.heap.size + 1,2,none⟩ z).heap[w.heap.size + 1]? = some (.cells #[x,y,z] 173 (0,0)) /\
  Below w.heap.size w (((wx.setCell ⟨w.heap.size + 1,0,none⟩ x).setCell ⟨w.heap.size + 1,1,none⟩ y).setCell ⟨w.heap.size + 1,2,none⟩ z):=by
 refine ⟨ownsRow_setCell_below (ownsRow_setCell_below (ownsRow_setCell_below hown (by simp) _) (by simp) _) (by simp) _,?_,((hb.setCell (by simp) _).setCell (by simp) _).setCell (by simp) _⟩
 rw [B.set (B.set (B.set hl 0 x) 1 y) 2 z]
 congr 2
 match C,hC with
 | ⟨[a,b,c]⟩,_=>rfl
def Own (lo : Nat) (w : World) (v : Value) (l : List AM.Ar) : Prop:=w.ownsRow lo 47 4 v l.length (AM.areaCells l)
theorem Own.nil (lo : Nat) (w : World) : Own lo w (.slice none 0 0) []:=World.ownsRow_nil _ _ _ _
theorem Own.mono {lo lo' : Nat} {w : World} {v : Value} {l : List AM.Ar} (h : Own lo w v l) (hl : lo' <= lo) : Own lo' w v l:=by
 refine ⟨h.1,?_⟩
 rcases h.2 with h2 | ⟨g,cap,cur,hv,hbg,rest⟩
 · exact .inl h2
 · exact .inr ⟨g,cap,cur,hv,Nat.le_trans hl hbg,rest⟩
theorem Own.has {lo : Nat} {w : World} {v : Value} {l : List AM.Ar} (h : Own lo w v l) : Has w v l:=by
 rcases h.2 with ⟨hv,h0⟩ | ⟨g,cap,cur,hv,hbg,hg,hnc,hcm,hcs,htake⟩
 · exact ⟨none,0,by rw [hv,h0],.inl (List.eq_nil_of_length_eq_zero h0)⟩
 · have ho:=h
   unfold Own at ho
   rw [hv] at ho
   refine ⟨some ⟨g,0,none⟩,cap,hv,.inr ⟨g,0,rfl,fun i hi=>?_⟩⟩
   rw [Nat.zero_add]
   exact ⟨(ho.cellAt _ (by omega)).trans (AM.areaCells_get _ i 0 hi (by omega)),(ho.cellAt _ (by omega)).trans (AM.areaCells_get _ i 1 hi (by omega)),(ho.cellAt _ (by omega)).trans (AM.areaCells_get _ i 2 hi (by omega)),(ho.cellAt _ (by omega)).trans (AM.areaCells_get _ i 3 hi (by omega))⟩
set_option maxHeartbeats 2000000 in
theorem gather_own (F : Nat -> AM.St) (w : World) :
  Calls Tryz.prog 157 #[.agg (AM.cellsL F)] w fun e w'=>∃ v,e = .returned v /\ Own w.heap.size w' v (AM.gatherN F) /\ Below w.heap.size w w':=by
 have hidx:=index56 F
 obtain ⟨C,hC⟩ : ∃ C,C = AM.cellsL F:=⟨_,rfl⟩
 have hCs : C.size = 768:=by rw [hC];exact AM.cellsL_size _
 rw [<- hC] at hidx ⊢
 clear hC
 obtain ⟨i0,hi,hz0,hz1,hz2⟩:=info_parts info24
 have HX : Hid (((w.alloc (.cells C 215)).alloc (.cells #[.bool false,.int .i64 0,.bool false] 173)).heap[w.heap.size]? = some (.cells C 215 (0,0))):=B.alloc (B.new w C 215) _
 have HL : Hid (((w.alloc (.cells C 215)).alloc (.cells #[.bool false,.int .i64 0,.bool false] 173)).heap[w.heap.size + 1]? = some (.cells #[.bool false,.int .i64 0,.bool false] 173 (0,0))):=by
  have:=B.new (w.alloc (.cells C 215)) #[.bool false,.int .i64 0,.bool false] 173
  show _ = _
  simpa using this
 have HB0 : Hid (Below w.heap.size w ((w.alloc (.cells C 215)).alloc (.cells #[.bool false,.int .i64 0,.bool false] 173))):=((Below.refl _ _).alloc (Nat.le_refl _) _).alloc (by simp) _
 go_enter Tryz.func157,Tryz.ntmps157
 go_wp2_with (first | (refine wpList_load_row rfl 215 _ rfl w.heap.size rfl 215 _ (0,0) _ HX.out Tryz.underlying215 rfl (by rw [hCs];exact size56) ?_))
 go_loopw [3,8] (fun v i wr=>∃ k : Nat,k <= 256 /\ i = .int .i64 k /\ wr.ownsRow (w.heap.size + 2) 47 4 v (AM.gatherTo F k).length (AM.areaCells (AM.gatherTo F k)) /\ wr.heap[w.heap.size + 1]? = some (.cells #[.bool (AM.lastTo F k).m,.int .i64 (AM.lastTo F k).p,.bool (AM.lastTo F k).z] 173 (0,0)) /\ Below w.heap.size w wr) (fun _ i _=>256 - (intOf i).toNat)
 case atStart=>exact ⟨0,by omega,rfl,World.ownsRow_nil _ _ _ _,HL.out,HB0.out⟩
 case round =>
  obtain ⟨k,hk,rfl,hown,hl,hb⟩:=hrel
  have HO : Hid (wr.ownsRow (w.heap.size + 2) 47 4 u3 (AM.gatherTo F k).length (AM.areaCells (AM.gatherTo F k))):=hown
  have HLr : Hid (wr.heap[w.heap.size + 1]? = some (.cells #[.bool (AM.lastTo F k).m,.int .i64 (AM.lastTo F k).p,.bool (AM.lastTo F k).z] 173 (0,0))):=hl
  have HB : Hid (Below w.heap.size w wr):=hb
  have hsz : w.heap.size + 1 < wr.heap.size:=B.isLt hl
  have l0:=B.cell hl 0 rfl
  have l1:=B.cell hl 1 rfl
  have l2:=B.cell hl 2 rfl
  have lf:=B.free hl
  clear hown hl hb
  by_cases hlt : k < 256
  · have hx:=fun W=>hidx k hlt W
    have hki : (k : Int) < 256:=by omega
    obtain ⟨s,hs⟩ : ∃ s,s = F k:=⟨_,rfl⟩
    obtain ⟨t,ht⟩ : ∃ t,t = AM.lastTo F k:=⟨_,rfl⟩
    rw [<- hs] at hx
    rw [<- ht] at l0 l1 l2
    have HS : Hid (s = F k):=hs
    have HT : Hid (t = AM.lastTo F k):=ht
    clear hs ht hidx
    by_cases hm : s.m = true
    · by_cases he : AM.stEq s t = true
      · have hst : s = t:=AM.stEq_eq s t he
        have HG : Hid (AM.gatherTo F (k + 1) = AM.bump (AM.gatherTo F k)):=by show _ = _;simp only [AM.gatherTo];rw [<- HS.out,<- HT.out,hm,he];rfl
        have hpos:=AM.gather_some F k (by rw [<- HT.out,<- hst];exact hm)
        have hlen:=AM.gather_len F k
        obtain ⟨G,hG⟩ : ∃ G,G = AM.gatherTo F k:=⟨_,rfl⟩
        have hpg:=AM.gather_pages F k ((AM.gatherTo F k).length - 1) (by omega)
        rw [<- hG] at HO HG hpos hlen hpg
        clear hG
        rcases HO.out.2 with ⟨_,h0⟩ | ⟨g,cap,cur,hv,hbg,hg,hnc,hcm,hcs,htake⟩
        · omega
        · have HO2:=HO.out
          rw [hv] at HO2
          have p1 : wr.cell? ⟨g,(G.length - 1) * 4 + 1,none⟩ = some (.int .i64 (AM.at_ G (G.length - 1)).pages):=by
           rw [HO2.cellAt _ (by omega),AM.areaCells_get G _ 1 (by omega) (by omega)];rfl
          have pf:=HO2.frozenAt
          have HOv : Hid (wr.ownsRow (w.heap.size + 2) 47 4 (.slice (some ⟨g,0,none⟩) G.length cap) G.length (AM.areaCells G)):=HO2
          have Hv : Hid (u3 = .slice (some ⟨g,0,none⟩) G.length cap):=hv
          have hgl : g < wr.heap.size:=B.isLt hg
          rw [hv]
          clear HO HO2 hv hg htake hcs he
          obtain ⟨pp,hpp⟩ : ∃ pp,pp = (AM.at_ G (G.length - 1)).pages:=⟨_,rfl⟩
          rw [<- hpp] at p1 hpg
          have HP : Hid (pp = (AM.at_ G (G.length - 1)).pages):=hpp
          clear hpp
          subst hst
          have hG1 : (1 : Int) <= (G.length : Int):=by omega
          have hG2 : (G.length : Int) <= 256:=by omega
          go_wp2
          go_roundw
          case rel =>
           have ho:=(HOv.out.stored ((G.length - 1) * 4 + 1) (.int .i64 (pp + 1))).1
           have e : (AM.areaCells G).set ((G.length - 1) * 4 + 1) (.int .i64 (pp + 1)) = AM.areaCells (AM.bump G):=by
            rw [HP.out];exact (AM.areaCells_set G (G.length - 1) _ (by omega)).symm
           rw [e] at ho
           have h:=fin_last rfl ho (B.other HLr.out _ _ _ (by omega)) (HB.out.setCell (by simp;omega) _) (.bool true) (.int .i64 s.p) (.bool s.z)
           refine ⟨k + 1,by omega,by go_num,?_,?_,h.2.2.alloc h.2.2.size _⟩
           · rw [HG.out,AM.bump_length];exact h.1.alloc _
           · show _ = some (Obj.cells #[.bool (F k).m,.int .i64 (F k).p,.bool (F k).z] 173 (0,0))
             rw [<- HS.out,hm]
             exact B.alloc h.2.1 _
          case measure=>simp [intOf];omega
      · have he' : AM.stEq s t = false:=by simpa using he
        have HG : Hid (AM.gatherTo F (k + 1) = AM.gatherTo F k ++ [⟨(k : Int),1,s.p,s.z⟩]):=by show _ = _;simp only [AM.gatherTo];rw [<- HS.out,<- HT.out,hm,he'];rfl
        have hlen:=AM.gather_len F k
        obtain ⟨G,hG⟩ : ∃ G,G = AM.gatherTo F k:=⟨_,rfl⟩
        rw [<- hG] at HO HG hlen
        clear hG he
        have hrow : Hid (∀ j,u3.ownBlock = some j -> w.heap.size + 2 <= j /\ j < wr.heap.size):=HO.out.lt
        have hcas:=AM.stEq_ne s t he'
        obtain ⟨sm,sp,sz⟩:=s
        obtain ⟨tm,tp,tz⟩:=t
        simp only at hm hcas l0 l1 l2 HG
        subst hm
        have HN : Hid (((wr.alloc (.cells #[.bool true,.int .i64 sp,.bool sz] 173)).alloc (.cells #[.int .i64 (k : Int),.int .i64 1,.int .i64 sp,.bool sz] 47)).heap[wr.heap.size + 1]? = some (.cells #[.int .i64 (k : Int),.int .i64 1,.int .i64 sp,.bool sz] 47 (0,0))):=by
         have:=B.new (wr.alloc (.cells #[.bool true,.int .i64 sp,.bool sz] 173)) #[.int .i64 (k : Int),.int .i64 1,.int .i64 sp,.bool sz] 47
         show _ = _
         simpa using this
        have hcas' : tm = false ∨ (tm = true /\ (sp == tp) = false) ∨ (tm = true /\ sp = tp /\ tz = !sz):=by
         cases tm
         · exact .inl rfl
         · rcases hcas with q | ⟨_,q⟩ | ⟨_,q1,q2⟩
           · cases q
           · exact .inr (.inl ⟨rfl,q⟩)
           · refine .inr (.inr ⟨rfl,by simpa using q1,?_⟩)
             cases sz <;> cases tz <;> first | rfl | cases q2
        clear he' hcas
        rcases hcas' with rfl | ⟨rfl,q⟩ | ⟨rfl,rfl,rfl⟩
        all_goals
         go_wp2_with (at_builtin;refine wpList_append_lies _ rfl _ _ 28 rfl (w.heap.size + 2) 47 i0 (.agg #[.int .i64 0,.int .i64 0,.int .i64 0,.bool false]) 4 32 Tryz.underlying28 hi hz0 hz1 hz2 rfl (by decide) _ _ _ rfl ((HO.out.alloc _).alloc _) ⟨wr.heap.size + 1,0,none⟩ 1 1 [.int .i64 (k : Int),.int .i64 1,.int .i64 sp,.bool sz] rfl rfl (B.news HN.out) (AM.areaCells_one [⟨(k : Int),1,sp,sz⟩]) (by decide) (by unfold maxLen;omega) (by omega) (by simp;omega) (wr.heap.size + 2) (by simp) ?_)
         intro g cap w1 hown1 hgrow hat hlt1
         have bS:=B.grown (B.alloc (B.new wr #[.bool true,.int .i64 sp,.bool sz] 173) (.cells #[.int .i64 (k : Int),.int .i64 1,.int .i64 sp,.bool sz] 47)) hgrow (fun e=>by have:=hrow.out _ e.symm;omega)
         have bL:=B.grown (B.alloc (B.alloc HLr.out (.cells #[.bool true,.int .i64 sp,.bool sz] 173)) (.cells #[.int .i64 (k : Int),.int .i64 1,.int .i64 sp,.bool sz] 47)) hgrow (fun e=>by have:=hrow.out _ e.symm;omega)
         have b0:=B.cell bS 0 rfl
         have b1:=B.cell bS 1 rfl
         have b2:=B.cell bS 2 rfl
         have m0:=B.cell bL 0 rfl
         have m1:=B.cell bL 1 rfl
         have m2:=B.cell bL 2 rfl
         have mf:=B.free bL
         have HO1 : Hid (w1.ownsRow (w.heap.size + 2) 47 4 (Value.slice (some ⟨g,0,none⟩) (G.length + 1) cap) (G.length + 1) (AM.areaCells G ++ [.int .i64 (k : Int),.int .i64 1,.int .i64 sp,.bool sz])):=hown1
         have HL1 : Hid (w1.heap[w.heap.size + 1]? = some (.cells #[.bool (AM.lastTo F k).m,.int .i64 (AM.lastTo F k).p,.bool (AM.lastTo F k).z] 173 (0,0))):=bL
         have HB1 : Hid (Below w.heap.size w w1):=((HB.out.alloc HB.out.size _).alloc (by have:=HB.out.size;simp;omega) _).grown hgrow (by have:=HB.out.size;simp;omega) (fun k' e=>by have:=hrow.out _ e;omega)
         clear bS bL hown1 hgrow hat l0 l1 l2 lf
         go_wp2
         go_roundw
         case rel =>
          have h:=fin_last rfl HO1.out HL1.out HB1.out (.bool true) (.int .i64 sp) (.bool sz)
          refine ⟨k + 1,by omega,by go_num,?_,?_,h.2.2⟩
          · rw [HG.out,List.length_append,AM.areaCells_append];exact h.1
          · show _ = some (Obj.cells #[.bool (F k).m,.int .i64 (F k).p,.bool (F k).z] 173 (0,0))
            rw [<- HS.out]
            exact h.2.1
         case measure=>simp [intOf];omega
    · have hm' : s.m = false:=by simpa using hm
      have HG : Hid (AM.gatherTo F (k + 1) = AM.gatherTo F k):=by show _ = _;simp only [AM.gatherTo];rw [<- HS.out,hm'];rfl
      clear hm
      go_wp2
      go_roundw
      case rel =>
       have h:=fin_last rfl HO.out HLr.out HB.out (.bool false) (.int .i64 s.p) (.bool s.z)
       refine ⟨k + 1,by omega,by go_num,?_,?_,h.2.2.alloc h.2.2.size _⟩
       · rw [HG.out];exact h.1.alloc _
       · show _ = some (Obj.cells #[.bool (F k).m,.int .i64 (F k).p,.bool (F k).z] 173 (0,0))
         rw [<- HS.out,hm']
         exact B.alloc h.2.1 _
      case measure=>simp [intOf];omega
  · obtain rfl : k = 256:=by omega
    go_wp2
    go_ret
    refine ⟨_,rfl,?_,HB.out⟩
    exact Own.mono (lo:=w.heap.size + 2) HO.out (by omega)
def howMap (q : Int) (s : AM.St) : AM.St × Int:=if s.m then (s,5) else (⟨true,q,true⟩,0)
def aggSt (s : AM.St) : Value:=.agg #[.bool s.m,.int .i64 s.p,.bool s.z]
set_option maxHeartbeats 400000 in
theorem map1_any (s : AM.St) (q : Int) (P : Nat) (w : World) (hP : w.cell? ⟨P,0,none⟩ = some (.int .i64 q)) :
  Calls Tryz.prog 122 #[.agg #[.bool s.m,.int .i64 s.p,.bool s.z],.pointer (some ⟨P,0,none⟩)] w fun e w'=>e = .returned (.tuple #[aggSt (howMap q s).1,.int .i64 (howMap q s).2]) /\ Below w.heap.size w w':=by
 have hPl : P < w.heap.size:=World.block_lt_of_cell? w _ hP
 obtain ⟨m,p,z⟩:=s
 cases m
 · go_enter Tryz.func122,Tryz.ntmps122
   go_wp2
   exact bodyPost_ret (v:=.tuple #[.agg #[.bool true,.int .i64 q,.bool true],.int .i64 0]) (by simp [results,Tryz.results122,go_sem]) rfl ⟨rfl,((Below.refl _ _).alloc (Nat.le_refl _) _).alloc (by simp) _⟩
 · go_enter Tryz.func122,Tryz.ntmps122
   go_wp2
   exact bodyPost_ret (v:=.tuple #[.agg #[.bool true,.int .i64 p,.bool z],.int .i64 5]) (by simp [results,Tryz.results122,go_sem]) rfl ⟨rfl,((Below.refl _ _).alloc (Nat.le_refl _) _).alloc (by simp) _⟩
theorem Has.below {w w' : World} {v : Value} {l : List AM.Ar} (h : Has w v l) (hb : Below w.heap.size w w') : Has w' v l:=by
 obtain ⟨ao,cap,rfl,h⟩:=h
 rcases h with rfl | ⟨b,off,rfl,hl⟩
 · exact ⟨ao,cap,rfl,.inl rfl⟩
 · exact ⟨_,cap,rfl,.inr ⟨b,off,rfl,hl.below hb⟩⟩
def AllFit (l : List AM.Ar) : Prop:=(∀ i,i < l.length -> AM.Fits (AM.at_ l i)) /\ l.length <= 140737488351232
theorem check_any (l : List AM.Ar) (v : Value) (w : World) (h : Has w v l) (hf : AllFit l) :
  Calls Tryz.prog 98 #[v] w fun e w'=>e = .returned (.int .i64 (AM.checkN l)) /\ Below w.heap.size w w':=by
 obtain ⟨ao,cap,rfl,h⟩:=h
 rcases h with rfl | ⟨b,off,rfl,hl⟩
 · exact check_nil ao cap w
 · exact check_some l b off cap w hl hf.1 hf.2
theorem total_any (l : List AM.Ar) (v : Value) (w : World) (h : Has w v l) (hf : AllFit l) :
  Calls Tryz.prog 54 #[v] w fun e w'=>e = .returned (.int .i64 (AM.totalN l)) /\ Below w.heap.size w w':=by
 obtain ⟨ao,cap,rfl,h⟩:=h
 rcases h with rfl | ⟨b,off,rfl,hl⟩
 · exact total_nil ao cap w
 · exact total_some l b off cap w hl hf.1 hf.2
theorem find_any (l : List AM.Ar) (v : Value) (p : Int) (w : World) (h : Has w v l) (hf : AllFit l) :
  Calls Tryz.prog 70 #[v,.int .i64 p] w fun e w'=>e = .returned (.tuple #[.agg (cellsOf (AM.findN l p).1),.bool (AM.findN l p).2]) /\ Below w.heap.size w w':=by
 obtain ⟨ao,cap,rfl,h⟩:=h
 rcases h with rfl | ⟨b,off,rfl,hl⟩
 · exact find_nil ao cap p w
 · exact find_some l b off cap p w hl hf.1 hf.2
theorem spread_any (l : List AM.Ar) (v : Value) (w : World) (h : Has w v l) (hc : AM.checkN l = 0) :
  Calls Tryz.prog 156 #[v] w fun e w'=>e = .returned (.agg (AM.cellsL (AM.spreadN l))) /\ Below w.heap.size w w':=by
 obtain ⟨ao,cap,rfl,h⟩:=h
 rcases h with rfl | ⟨b,off,rfl,hl⟩
 · exact spread_nil ao cap w
 · exact spread_some l b off cap w hl hc
end AW
namespace FW
open Go.RowKit
theorem hideC {p : Prop} (h : p) : Hid p:=h
theorem add_below {w w1 w2 : World} (h1 : Below w.heap.size w w1) (h2 : Below w1.heap.size w1 w2) : Below w.heap.size w w2:=h1.trans (h2.mono h1.size)
def rightN (way : Int) : Int:=if way = 1 then 1 else if way = 2 then 2 else 0
theorem right_any (way : Int) (w : World) : Calls Tryz.prog 140 #[.int .i64 way] w fun e w'=>e = .returned (.int .i64 (rightN way)) /\ w = w':=by
 unfold rightN
 by_cases h1 : way = 1
 · subst h1
   go_enter Tryz.func140,Tryz.ntmps140
   go_wp2
   go_ret
   exact ⟨rfl,rfl⟩
 · rw [if_neg h1]
   have h1i : (way == 1) = false:=by rw [beq_eq_false_iff_ne];exact h1
   by_cases h2 : way = 2
   · subst h2
     go_enter Tryz.func140,Tryz.ntmps140
     go_wp2
     go_ret
     exact ⟨rfl,rfl⟩
   · rw [if_neg h2]
     have h2i : (way == 2) = false:=by rw [beq_eq_false_iff_ne];exact h2
     clear h1 h2
     go_enter Tryz.func140,Tryz.ntmps140
     go_wp2
     go_ret
     exact ⟨rfl,rfl⟩
theorem right_bits (p way : Int) (h0 : 0 <= p) (h3 : p <= 3) : (bits BinOp.and IntKind.i64 p (rightN way) == rightN way) = !(FM.noRight p way):=by
 have hp : p = 0 ∨ p = 1 ∨ p = 2 ∨ p = 3:=by omega
 unfold rightN FM.noRight
 by_cases h1 : way = 1
 · subst h1
   rcases hp with rfl | rfl | rfl | rfl <;> decide
 · by_cases h2 : way = 2
   · subst h2
     rcases hp with rfl | rfl | rfl | rfl <;> decide
   · rw [if_neg h1,if_neg h2]
     simp only [h1,h2,false_and,or_self,decide_false,Bool.not_false]
     rcases hp with rfl | rfl | rfl | rfl <;> decide
end FW
namespace GK
open Go.RowKit
open FW (hideC add_below)
def From (w : World) (ao : Option Addr) (m : Nat) (news : List Value) : Prop:=0 < m -> ∃ ad,ao = some ad /\ ∀ j u,news[j]? = some u -> w.cell? (ad.add j) = some u
theorem From.below {w w' : World} {ao : Option Addr} {m : Nat} {news : List Value} (h : From w ao m news) (hb : Below w.heap.size w w') : From w' ao m news:=fun hm=>by
 obtain ⟨ad,e,hc⟩:=h hm
 refine ⟨ad,e,fun j u hu=>?_⟩
 have:=hc j u hu
 exact (hb.cell (World.block_lt_of_cell? w _ this)).trans this
theorem infoAr : (Tryz.prog.info? 47).map (fun i=>(i.zero,i.size,i.bytes)) = some (some (.agg #[.int .i64 0,.int .i64 0,.int .i64 0,.bool false]),4,32):=by kernel_rfl
set_option maxHeartbeats 1000000 in
theorem cloneAr (ao : Option Addr) (n c : Nat) (xs : List Value) (w : World) (hl : xs.length = n * 4) (h : From w ao n xs) (h1 : ∀ u ∈ xs,u.oneCell' = true) (hn : n <= 1000000) :
  Calls Tryz.prog 129 #[.slice ao n c] w fun e w'=>∃ v,e = .returned v /\ w'.ownsRow w.heap.size 47 4 v n xs /\ Below w.heap.size w w':=by
 have HH:=hideC h
 have HL:=hideC hl
 have H1:=hideC h1
 clear h hl h1
 have q : ∀ (w : World) (a : Option Addr) (n c n' c' : Nat),(binOp .eql 28 (.slice a n c) (.slice none n' c')).run Tryz.prog w = .ok (.bool a.isNone) w:=fun w a n c n' c'=>Lib.run_eql_slice_nil w _ _ a n c n' c' Tryz.underlying28
 obtain ⟨i0,hin,hz0,hz1,hz2⟩:=info_parts infoAr
 cases ao with
 | none =>
  have h0 : n = 0:=by
   by_cases g : 0 < n
   · obtain ⟨ad,e,_⟩:=HH.out g
     cases e
   · omega
  subst h0
  have hx : xs = []:=List.eq_nil_of_length_eq_zero (by rw [HL.out])
  subst hx
  clear HH HL H1 hin hz0 hz1 hz2
  go_enter Tryz.func129,Tryz.ntmps129
  go_wp2
  go_ret
  exact ⟨_,rfl,World.ownsRow_nil _ _ _ _,Below.refl _ _⟩
 | some ad =>
  have HIN:=hideC hin
  have HZ0:=hideC hz0
  have HZ1:=hideC hz1
  have HZ2:=hideC hz2
  clear hin hz0 hz1 hz2
  go_enter Tryz.func129,Tryz.ntmps129
  go_wp2_with (at_builtin;refine wpList_append_src (P:=Tryz.prog) rfl _ _ 28 rfl w.heap.size 47 i0 (.agg #[.int .i64 0,.int .i64 0,.int .i64 0,.bool false]) 4 32 Tryz.underlying28 HIN.out HZ0.out HZ1.out HZ2.out rfl (by decide) (.slice (some ⟨w.heap.size,0,none⟩) 0 0) 0 [] (by rfl) (World.ownsRow_made w #[] 0 (Nat.le_refl _) (by unfold maxLen;omega) (by simp)) (some ad) n c xs (by rfl) HL.out ((HH.out.below ((Below.refl _ _).alloc (Nat.le_refl _) _))) H1.out (by unfold maxLen;omega) (by omega) (by simp) ?_;intro v' w' hown hgr hat;have HOWN:=hideC hown;have HGR:=hideC hgr;clear hown hgr hat)
  go_ret
  have hown:=HOWN.out
  have hgr:=HGR.out
  rw [Nat.zero_add] at hown
  exact ⟨_,rfl,hown,((Below.refl _ _).alloc (Nat.le_refl _) _).grown hgr (by simp) (fun k hk=>by simp [Value.ownBlock] at hk;omega)⟩
theorem infoEn : (Tryz.prog.info? 45).map (fun i=>(i.zero,i.size,i.bytes)) = some (some (.agg #[.int .i64 0,.int .i64 0,.int .i64 0]),3,24):=by kernel_rfl
set_option maxHeartbeats 1000000 in
theorem cloneEn (ao : Option Addr) (n c : Nat) (xs : List Value) (w : World) (hl : xs.length = n * 3) (h : From w ao n xs) (h1 : ∀ u ∈ xs,u.oneCell' = true) (hn : n <= 1000000) :
  Calls Tryz.prog 130 #[.slice ao n c] w fun e w'=>∃ v,e = .returned v /\ w'.ownsRow w.heap.size 45 3 v n xs /\ Below w.heap.size w w':=by
 have HH:=hideC h
 have HL:=hideC hl
 have H1:=hideC h1
 clear h hl h1
 have q : ∀ (w : World) (a : Option Addr) (n c n' c' : Nat),(binOp .eql 41 (.slice a n c) (.slice none n' c')).run Tryz.prog w = .ok (.bool a.isNone) w:=fun w a n c n' c'=>Lib.run_eql_slice_nil w _ _ a n c n' c' Tryz.underlying41
 obtain ⟨i0,hin,hz0,hz1,hz2⟩:=info_parts infoEn
 cases ao with
 | none =>
  have h0 : n = 0:=by
   by_cases g : 0 < n
   · obtain ⟨ad,e,_⟩:=HH.out g
     cases e
   · omega
  subst h0
  have hx : xs = []:=List.eq_nil_of_length_eq_zero (by rw [HL.out])
  subst hx
  clear HH HL H1 hin hz0 hz1 hz2
  go_enter Tryz.func130,Tryz.ntmps130
  go_wp2
  go_ret
  exact ⟨_,rfl,World.ownsRow_nil _ _ _ _,Below.refl _ _⟩
 | some ad =>
  have HIN:=hideC hin
  have HZ0:=hideC hz0
  have HZ1:=hideC hz1
  have HZ2:=hideC hz2
  clear hin hz0 hz1 hz2
  go_enter Tryz.func130,Tryz.ntmps130
  go_wp2_with (at_builtin;refine wpList_append_src (P:=Tryz.prog) rfl _ _ 41 rfl w.heap.size 45 i0 (.agg #[.int .i64 0,.int .i64 0,.int .i64 0]) 3 24 Tryz.underlying41 HIN.out HZ0.out HZ1.out HZ2.out rfl (by decide) (.slice (some ⟨w.heap.size,0,none⟩) 0 0) 0 [] (by rfl) (World.ownsRow_made w #[] 0 (Nat.le_refl _) (by unfold maxLen;omega) (by simp)) (some ad) n c xs (by rfl) HL.out ((HH.out.below ((Below.refl _ _).alloc (Nat.le_refl _) _))) H1.out (by unfold maxLen;omega) (by omega) (by simp) ?_;intro v' w' hown hgr hat;have HOWN:=hideC hown;have HGR:=hideC hgr;clear hown hgr hat)
  go_ret
  have hown:=HOWN.out
  have hgr:=HGR.out
  rw [Nat.zero_add] at hown
  exact ⟨_,rfl,hown,((Below.refl _ _).alloc (Nat.le_refl _) _).grown hgr (by simp) (fun k hk=>by simp [Value.ownBlock] at hk;omega)⟩
theorem infoFr : (Tryz.prog.info? 40).map (fun i=>(i.zero,i.size,i.bytes)) = some (some (.agg #[.string ⟨#[]⟩,.int .i64 0,.bool false,.bool false]),4,32):=by kernel_rfl
set_option maxHeartbeats 1000000 in
theorem cloneFr (ao : Option Addr) (n c : Nat) (xs : List Value) (w : World) (hl : xs.length = n * 4) (h : From w ao n xs) (h1 : ∀ u ∈ xs,u.oneCell' = true) (hn : n <= 1000000) :
  Calls Tryz.prog 104 #[.slice ao n c] w fun e w'=>∃ v,e = .returned v /\ w'.ownsRow w.heap.size 40 4 v n xs /\ Below w.heap.size w w':=by
 have HH:=hideC h
 have HL:=hideC hl
 have H1:=hideC h1
 clear h hl h1
 have q : ∀ (w : World) (a : Option Addr) (n c n' c' : Nat),(binOp .eql 23 (.slice a n c) (.slice none n' c')).run Tryz.prog w = .ok (.bool a.isNone) w:=fun w a n c n' c'=>Lib.run_eql_slice_nil w _ _ a n c n' c' Tryz.underlying23
 obtain ⟨i0,hin,hz0,hz1,hz2⟩:=info_parts infoFr
 cases ao with
 | none =>
  have h0 : n = 0:=by
   by_cases g : 0 < n
   · obtain ⟨ad,e,_⟩:=HH.out g
     cases e
   · omega
  subst h0
  have hx : xs = []:=List.eq_nil_of_length_eq_zero (by rw [HL.out])
  subst hx
  clear HH HL H1 hin hz0 hz1 hz2
  go_enter Tryz.func104,Tryz.ntmps104
  go_wp2
  go_ret
  exact ⟨_,rfl,World.ownsRow_nil _ _ _ _,Below.refl _ _⟩
 | some ad =>
  have HIN:=hideC hin
  have HZ0:=hideC hz0
  have HZ1:=hideC hz1
  have HZ2:=hideC hz2
  clear hin hz0 hz1 hz2
  go_enter Tryz.func104,Tryz.ntmps104
  go_wp2_with (at_builtin;refine wpList_append_src (P:=Tryz.prog) rfl _ _ 23 rfl w.heap.size 40 i0 (.agg #[.string ⟨#[]⟩,.int .i64 0,.bool false,.bool false]) 4 32 Tryz.underlying23 HIN.out HZ0.out HZ1.out HZ2.out rfl (by decide) (.slice (some ⟨w.heap.size,0,none⟩) 0 0) 0 [] (by rfl) (World.ownsRow_made w #[] 0 (Nat.le_refl _) (by unfold maxLen;omega) (by simp)) (some ad) n c xs (by rfl) HL.out ((HH.out.below ((Below.refl _ _).alloc (Nat.le_refl _) _))) H1.out (by unfold maxLen;omega) (by omega) (by simp) ?_;intro v' w' hown hgr hat;have HOWN:=hideC hown;have HGR:=hideC hgr;clear hown hgr hat)
  go_ret
  have hown:=HOWN.out
  have hgr:=HGR.out
  rw [Nat.zero_add] at hown
  exact ⟨_,rfl,hown,((Below.refl _ _).alloc (Nat.le_refl _) _).grown hgr (by simp) (fun k hk=>by simp [Value.ownBlock] at hk;omega)⟩
theorem infoSl : (Tryz.prog.info? 86).map (fun i=>(i.zero,i.size,i.bytes)) = some (some (.agg #[.string ⟨#[]⟩,.int .i64 0]),2,24):=by kernel_rfl
set_option maxHeartbeats 1000000 in
theorem cloneSl (ao : Option Addr) (n c : Nat) (xs : List Value) (w : World) (hl : xs.length = n * 2) (h : From w ao n xs) (h1 : ∀ u ∈ xs,u.oneCell' = true) (hn : n <= 1000000) :
  Calls Tryz.prog 105 #[.slice ao n c] w fun e w'=>∃ v,e = .returned v /\ w'.ownsRow w.heap.size 86 2 v n xs /\ Below w.heap.size w w':=by
 have HH:=hideC h
 have HL:=hideC hl
 have H1:=hideC h1
 clear h hl h1
 have q : ∀ (w : World) (a : Option Addr) (n c n' c' : Nat),(binOp .eql 24 (.slice a n c) (.slice none n' c')).run Tryz.prog w = .ok (.bool a.isNone) w:=fun w a n c n' c'=>Lib.run_eql_slice_nil w _ _ a n c n' c' Tryz.underlying24
 obtain ⟨i0,hin,hz0,hz1,hz2⟩:=info_parts infoSl
 cases ao with
 | none =>
  have h0 : n = 0:=by
   by_cases g : 0 < n
   · obtain ⟨ad,e,_⟩:=HH.out g
     cases e
   · omega
  subst h0
  have hx : xs = []:=List.eq_nil_of_length_eq_zero (by rw [HL.out])
  subst hx
  clear HH HL H1 hin hz0 hz1 hz2
  go_enter Tryz.func105,Tryz.ntmps105
  go_wp2
  go_ret
  exact ⟨_,rfl,World.ownsRow_nil _ _ _ _,Below.refl _ _⟩
 | some ad =>
  have HIN:=hideC hin
  have HZ0:=hideC hz0
  have HZ1:=hideC hz1
  have HZ2:=hideC hz2
  clear hin hz0 hz1 hz2
  go_enter Tryz.func105,Tryz.ntmps105
  go_wp2_with (at_builtin;refine wpList_append_src (P:=Tryz.prog) rfl _ _ 24 rfl w.heap.size 86 i0 (.agg #[.string ⟨#[]⟩,.int .i64 0]) 2 24 Tryz.underlying24 HIN.out HZ0.out HZ1.out HZ2.out rfl (by decide) (.slice (some ⟨w.heap.size,0,none⟩) 0 0) 0 [] (by rfl) (World.ownsRow_made w #[] 0 (Nat.le_refl _) (by unfold maxLen;omega) (by simp)) (some ad) n c xs (by rfl) HL.out ((HH.out.below ((Below.refl _ _).alloc (Nat.le_refl _) _))) H1.out (by unfold maxLen;omega) (by omega) (by simp) ?_;intro v' w' hown hgr hat;have HOWN:=hideC hown;have HGR:=hideC hgr;clear hown hgr hat)
  go_ret
  have hown:=HOWN.out
  have hgr:=HGR.out
  rw [Nat.zero_add] at hown
  exact ⟨_,rfl,hown,((Below.refl _ _).alloc (Nat.le_refl _) _).grown hgr (by simp) (fun k hk=>by simp [Value.ownBlock] at hk;omega)⟩
theorem infoSh : (Tryz.prog.info? 50).map (fun i=>(i.zero,i.size,i.bytes)) = some (some (.agg #[.int .i64 0,.string ⟨#[]⟩,.slice none 0 0]),3,48):=by kernel_rfl
set_option maxHeartbeats 1000000 in
theorem cloneSh (ao : Option Addr) (n c : Nat) (xs : List Value) (w : World) (hl : xs.length = n * 3) (h : From w ao n xs) (h1 : ∀ u ∈ xs,u.oneCell' = true) (hn : n <= 1000000) :
  Calls Tryz.prog 103 #[.slice ao n c] w fun e w'=>∃ v,e = .returned v /\ w'.ownsRow w.heap.size 50 3 v n xs /\ Below w.heap.size w w':=by
 have HH:=hideC h
 have HL:=hideC hl
 have H1:=hideC h1
 clear h hl h1
 have q : ∀ (w : World) (a : Option Addr) (n c n' c' : Nat),(binOp .eql 22 (.slice a n c) (.slice none n' c')).run Tryz.prog w = .ok (.bool a.isNone) w:=fun w a n c n' c'=>Lib.run_eql_slice_nil w _ _ a n c n' c' Tryz.underlying22
 obtain ⟨i0,hin,hz0,hz1,hz2⟩:=info_parts infoSh
 cases ao with
 | none =>
  have h0 : n = 0:=by
   by_cases g : 0 < n
   · obtain ⟨ad,e,_⟩:=HH.out g
     cases e
   · omega
  subst h0
  have hx : xs = []:=List.eq_nil_of_length_eq_zero (by rw [HL.out])
  subst hx
  clear HH HL H1 hin hz0 hz1 hz2
  go_enter Tryz.func103,Tryz.ntmps103
  go_wp2
  go_ret
  exact ⟨_,rfl,World.ownsRow_nil _ _ _ _,Below.refl _ _⟩
 | some ad =>
  have HIN:=hideC hin
  have HZ0:=hideC hz0
  have HZ1:=hideC hz1
  have HZ2:=hideC hz2
  clear hin hz0 hz1 hz2
  go_enter Tryz.func103,Tryz.ntmps103
  go_wp2_with (at_builtin;refine wpList_append_src (P:=Tryz.prog) rfl _ _ 22 rfl w.heap.size 50 i0 (.agg #[.int .i64 0,.string ⟨#[]⟩,.slice none 0 0]) 3 48 Tryz.underlying22 HIN.out HZ0.out HZ1.out HZ2.out rfl (by decide) (.slice (some ⟨w.heap.size,0,none⟩) 0 0) 0 [] (by rfl) (World.ownsRow_made w #[] 0 (Nat.le_refl _) (by unfold maxLen;omega) (by simp)) (some ad) n c xs (by rfl) HL.out ((HH.out.below ((Below.refl _ _).alloc (Nat.le_refl _) _))) H1.out (by unfold maxLen;omega) (by omega) (by simp) ?_;intro v' w' hown hgr hat;have HOWN:=hideC hown;have HGR:=hideC hgr;clear hown hgr hat)
  go_ret
  have hown:=HOWN.out
  have hgr:=HGR.out
  rw [Nat.zero_add] at hown
  exact ⟨_,rfl,hown,((Below.refl _ _).alloc (Nat.le_refl _) _).grown hgr (by simp) (fun k hk=>by simp [Value.ownBlock] at hk;omega)⟩
theorem infoFx : (Tryz.prog.info? 52).map (fun i=>(i.zero,i.size,i.bytes)) = some (some (.agg #[.int .i64 0,.string ⟨#[]⟩]),2,24):=by kernel_rfl
set_option maxHeartbeats 1000000 in
theorem cloneFx (ao : Option Addr) (n c : Nat) (xs : List Value) (w : World) (hl : xs.length = n * 2) (h : From w ao n xs) (h1 : ∀ u ∈ xs,u.oneCell' = true) (hn : n <= 1000000) :
  Calls Tryz.prog 106 #[.slice ao n c] w fun e w'=>∃ v,e = .returned v /\ w'.ownsRow w.heap.size 52 2 v n xs /\ Below w.heap.size w w':=by
 have HH:=hideC h
 have HL:=hideC hl
 have H1:=hideC h1
 clear h hl h1
 have q : ∀ (w : World) (a : Option Addr) (n c n' c' : Nat),(binOp .eql 48 (.slice a n c) (.slice none n' c')).run Tryz.prog w = .ok (.bool a.isNone) w:=fun w a n c n' c'=>Lib.run_eql_slice_nil w _ _ a n c n' c' Tryz.underlying48
 obtain ⟨i0,hin,hz0,hz1,hz2⟩:=info_parts infoFx
 cases ao with
 | none =>
  have h0 : n = 0:=by
   by_cases g : 0 < n
   · obtain ⟨ad,e,_⟩:=HH.out g
     cases e
   · omega
  subst h0
  have hx : xs = []:=List.eq_nil_of_length_eq_zero (by rw [HL.out])
  subst hx
  clear HH HL H1 hin hz0 hz1 hz2
  go_enter Tryz.func106,Tryz.ntmps106
  go_wp2
  go_ret
  exact ⟨_,rfl,World.ownsRow_nil _ _ _ _,Below.refl _ _⟩
 | some ad =>
  have HIN:=hideC hin
  have HZ0:=hideC hz0
  have HZ1:=hideC hz1
  have HZ2:=hideC hz2
  clear hin hz0 hz1 hz2
  go_enter Tryz.func106,Tryz.ntmps106
  go_wp2_with (at_builtin;refine wpList_append_src (P:=Tryz.prog) rfl _ _ 48 rfl w.heap.size 52 i0 (.agg #[.int .i64 0,.string ⟨#[]⟩]) 2 24 Tryz.underlying48 HIN.out HZ0.out HZ1.out HZ2.out rfl (by decide) (.slice (some ⟨w.heap.size,0,none⟩) 0 0) 0 [] (by rfl) (World.ownsRow_made w #[] 0 (Nat.le_refl _) (by unfold maxLen;omega) (by simp)) (some ad) n c xs (by rfl) HL.out ((HH.out.below ((Below.refl _ _).alloc (Nat.le_refl _) _))) H1.out (by unfold maxLen;omega) (by omega) (by simp) ?_;intro v' w' hown hgr hat;have HOWN:=hideC hown;have HGR:=hideC hgr;clear hown hgr hat)
  go_ret
  have hown:=HOWN.out
  have hgr:=HGR.out
  rw [Nat.zero_add] at hown
  exact ⟨_,rfl,hown,((Below.refl _ _).alloc (Nat.le_refl _) _).grown hgr (by simp) (fun k hk=>by simp [Value.ownBlock] at hk;omega)⟩
theorem infoIn : (Tryz.prog.info? 3).map (fun i=>(i.zero,i.size,i.bytes)) = some (some (.int .i64 0),1,8):=by kernel_rfl
set_option maxHeartbeats 1000000 in
theorem cloneIn (ao : Option Addr) (n c : Nat) (xs : List Value) (w : World) (hl : xs.length = n * 1) (h : From w ao n xs) (h1 : ∀ u ∈ xs,u.oneCell' = true) (hn : n <= 1000000) :
  Calls Tryz.prog 167 #[.slice ao n c] w fun e w'=>∃ v,e = .returned v /\ w'.ownsRow w.heap.size 3 1 v n xs /\ Below w.heap.size w w':=by
 have HH:=hideC h
 have HL:=hideC hl
 have H1:=hideC h1
 clear h hl h1
 have q : ∀ (w : World) (a : Option Addr) (n c n' c' : Nat),(binOp .eql 99 (.slice a n c) (.slice none n' c')).run Tryz.prog w = .ok (.bool a.isNone) w:=fun w a n c n' c'=>Lib.run_eql_slice_nil w _ _ a n c n' c' Tryz.underlying99
 obtain ⟨i0,hin,hz0,hz1,hz2⟩:=info_parts infoIn
 cases ao with
 | none =>
  have h0 : n = 0:=by
   by_cases g : 0 < n
   · obtain ⟨ad,e,_⟩:=HH.out g
     cases e
   · omega
  subst h0
  have hx : xs = []:=List.eq_nil_of_length_eq_zero (by rw [HL.out])
  subst hx
  clear HH HL H1 hin hz0 hz1 hz2
  go_enter Tryz.func167,Tryz.ntmps167
  go_wp2
  go_ret
  exact ⟨_,rfl,World.ownsRow_nil _ _ _ _,Below.refl _ _⟩
 | some ad =>
  have HIN:=hideC hin
  have HZ0:=hideC hz0
  have HZ1:=hideC hz1
  have HZ2:=hideC hz2
  clear hin hz0 hz1 hz2
  go_enter Tryz.func167,Tryz.ntmps167
  go_wp2_with (at_builtin;refine wpList_append_src (P:=Tryz.prog) rfl _ _ 99 rfl w.heap.size 3 i0 (.int .i64 0) 1 8 Tryz.underlying99 HIN.out HZ0.out HZ1.out HZ2.out rfl (by decide) (.slice (some ⟨w.heap.size,0,none⟩) 0 0) 0 [] (by rfl) (World.ownsRow_made w #[] 0 (Nat.le_refl _) (by unfold maxLen;omega) (by simp)) (some ad) n c xs (by rfl) HL.out ((HH.out.below ((Below.refl _ _).alloc (Nat.le_refl _) _))) H1.out (by unfold maxLen;omega) (by omega) (by simp) ?_;intro v' w' hown hgr hat;have HOWN:=hideC hown;have HGR:=hideC hgr;clear hown hgr hat)
  go_ret
  have hown:=HOWN.out
  have hgr:=HGR.out
  rw [Nat.zero_add] at hown
  exact ⟨_,rfl,hown,((Below.refl _ _).alloc (Nat.le_refl _) _).grown hgr (by simp) (fun k hk=>by simp [Value.ownBlock] at hk;omega)⟩
end GK
namespace M
open Go.RowKit
structure Sg where
 page : Int
 pages : Int
 data : ByteArray
 wr : Bool
 ex : Bool
structure Sy where
 name : ByteArray
 pos : Int
structure Rl where
 pos : Int
 name : ByteArray
 add : Int
structure Im where
 name : ByteArray
 needs : List ByteArray
 segs : List Sg
 syms : List Sy
 rels : List Rl
 entry : Int
def nil : ByteArray:=⟨#[]⟩
def sg0 : Sg:=⟨0,0,nil,false,false⟩
def sy0 : Sy:=⟨nil,0⟩
def rl0 : Rl:=⟨0,nil,0⟩
def strAt (l : List ByteArray) (i : Nat) : ByteArray:=l.getD i nil
def sgAt (l : List Sg) (i : Nat) : Sg:=l.getD i sg0
def syAt (l : List Sy) (i : Nat) : Sy:=l.getD i sy0
def rlAt (l : List Rl) (i : Nat) : Rl:=l.getD i rl0
theorem all_true {α : Type} (p : α -> Bool) (d : α) : ∀ l : List α,(∀ i,i < l.length -> p (l.getD i d) = true) -> l.all p = true
 | [],_=>rfl
 | a :: r,h=>by
  have h0 : p a = true:=h 0 (by simp)
  have hr:=all_true p d r (fun i hi=>h (i + 1) (by simpa using hi))
  simp [h0,hr]
theorem all_at {α : Type} (p : α -> Bool) (d : α) : ∀ (l : List α) (i : Nat),i < l.length -> l.all p = true -> p (l.getD i d) = true
 | a :: r,0,_,h=>by simp at h;simpa using h.1
 | a :: r,i + 1,hi,h=>by
  simp at h
  have:=all_at p d r i (by simpa using hi) (by simpa using h.2)
  simpa using this
theorem all_false {α : Type} (p : α -> Bool) (d : α) (l : List α) (i : Nat) (hi : i < l.length) (h : p (l.getD i d) = false) : l.all p = false:=by
 cases e : l.all p
 · rfl
 · rw [all_at p d l i hi e] at h;cases h
def signB (n : Int) : Bool:=decide (97 <= n /\ n <= 122) || (decide (48 <= n /\ n <= 57) || decide (n = 95))
def nameB (s : ByteArray) : Bool:=decide (1 <= s.size /\ s.size <= 12) && s.data.toList.all (fun c=>signB c.toNat)
theorem name_at (s : ByteArray) (k : Nat) (h : k < s.size) : s.data.toList.getD k 0 = s[k]:=by
 have h' : k < s.data.toList.length:=by rw [<- Lib.size_eq];exact h
 rw [List.getD_eq_getElem?_getD,List.getElem?_eq_getElem h']
 rfl
theorem name_yes (s : ByteArray) (h1 : 1 <= s.size) (h2 : s.size <= 12) (h : ∀ k (hk : k < s.size),signB s[k].toNat = true) : nameB s = true:=by
 unfold nameB
 rw [decide_eq_true ⟨h1,h2⟩,Bool.true_and]
 refine all_true _ 0 _ (fun i hi=>?_)
 have hi' : i < s.size:=by rw [Lib.size_eq];exact hi
 rw [name_at s i hi']
 exact h i hi'
theorem name_no (s : ByteArray) (k : Nat) (hk : k < s.size) (h : signB s[k].toNat = false) : nameB s = false:=by
 unfold nameB
 rw [all_false _ 0 s.data.toList k (by rw [<- Lib.size_eq];exact hk) (by rw [name_at s k hk];exact h),Bool.and_false]
theorem name_len (s : ByteArray) (h : ¬ (1 <= s.size /\ s.size <= 12)) : nameB s = false:=by
 unfold nameB
 rw [decide_eq_false h,Bool.false_and]
def relNameB (r : Rl) : Bool:=decide (r.name.size = 0) || nameB r.name
def namesB (i : Im) : Bool:=nameB i.name && (i.needs.all nameB && (i.syms.all (fun y=>nameB y.name) && i.rels.all relNameB))
def countsB (i : Im) : Bool:=decide (1 <= i.segs.length /\ i.segs.length <= 6 /\ i.needs.length <= 4 /\ i.syms.length <= 12 /\ i.rels.length <= 16)
def rangeB (s : Sg) : Bool:=decide (0 <= s.page /\ 1 <= s.pages /\ s.page + s.pages <= 255 /\ (s.data.size : Int) <= s.pages * 16)
def rangesB (i : Im) : Bool:=i.segs.all rangeB
def overAt (l : List Sg) (k : Nat) : Bool:=k == 0 || decide ((sgAt l (k - 1)).page + (sgAt l (k - 1)).pages <= (sgAt l k).page)
def overTo (l : List Sg) : Nat -> Bool
 | 0=>true
 | k + 1=>overTo l k && overAt l k
def apartB (l : List Sg) : Bool:=overTo l l.length
def onceTo (l : List ByteArray) : Nat -> Bool
 | 0=>true
 | k + 1=>onceTo l k && !(l.take k).contains (strAt l k)
def onceB (l : List ByteArray) : Bool:=onceTo l l.length
def thereB (i : Im) : Bool:=apartB i.segs && (onceB i.needs && onceB (i.syms.map (·.name)))
def inSeg (s : Sg) (a : Int) : Bool:=decide (s.page * 16 <= a /\ a < (s.page + s.pages) * 16)
def segIn : List Sg -> Int -> Option Sg
 | [],_=>none
 | s :: r,a=>if inSeg s a then some s else segIn r a
def placedB (l : List Sg) (a : Int) : Bool:=(segIn l a).isSome
def wholeB (l : List Sg) (a : Int) : Bool:=placedB l a && (placedB l (a + 1) && (placedB l (a + 2) && (placedB l (a + 3) && (placedB l (a + 4) && (placedB l (a + 5) && (placedB l (a + 6) && placedB l (a + 7)))))))
def relAt (i : Im) (k : Nat) : Bool:=(k == 0 || decide ((rlAt i.rels (k - 1)).pos + 8 <= (rlAt i.rels k).pos)) && wholeB i.segs (rlAt i.rels k).pos
def relsTo (i : Im) : Nat -> Bool
 | 0=>true
 | k + 1=>relsTo i k && relAt i k
def entryB (i : Im) : Bool:=match segIn i.segs i.entry with
 | some s=>s.ex && decide (i.entry % 8 = 0)
 | none=>false
def placesB (i : Im) : Bool:=i.syms.all (fun y=>placedB i.segs y.pos) && (relsTo i i.rels.length && entryB i)
def chkN (i : Im) : Int:=if !namesB i then 4 else if !countsB i then 2 else if !rangesB i then 3 else if !thereB i then 5 else if !placesB i then 6 else 0
def LieS (w : World) (b off : Nat) (l : List ByteArray) : Prop:=∀ i,i < l.length -> w.cell? ⟨b,off + i,none⟩ = some (.string (strAt l i))
def LieG (w : World) (b off : Nat) (l : List Sg) : Prop:=∀ i,i < l.length ->
 w.cell? ⟨b,off + i * 5,none⟩ = some (.int .i64 (sgAt l i).page) /\ w.cell? ⟨b,off + i * 5 + 1,none⟩ = some (.int .i64 (sgAt l i).pages) /\
 w.cell? ⟨b,off + i * 5 + 2,none⟩ = some (.string (sgAt l i).data) /\ w.cell? ⟨b,off + i * 5 + 3,none⟩ = some (.bool (sgAt l i).wr) /\ w.cell? ⟨b,off + i * 5 + 4,none⟩ = some (.bool (sgAt l i).ex)
def LieY (w : World) (b off : Nat) (l : List Sy) : Prop:=∀ i,i < l.length ->
 w.cell? ⟨b,off + i * 2,none⟩ = some (.string (syAt l i).name) /\ w.cell? ⟨b,off + i * 2 + 1,none⟩ = some (.int .i64 (syAt l i).pos)
def LieR (w : World) (b off : Nat) (l : List Rl) : Prop:=∀ i,i < l.length ->
 w.cell? ⟨b,off + i * 3,none⟩ = some (.int .i64 (rlAt l i).pos) /\ w.cell? ⟨b,off + i * 3 + 1,none⟩ = some (.string (rlAt l i).name) /\ w.cell? ⟨b,off + i * 3 + 2,none⟩ = some (.int .i64 (rlAt l i).add)
def I64 (n : Int) : Prop:=-9223372036854775808 <= n /\ n <= 9223372036854775807
def Short (n : Nat) : Prop:=n <= 140737488351232
def FitG (s : Sg) : Prop:=I64 s.page /\ I64 s.pages /\ Short s.data.size
def FitY (s : Sy) : Prop:=Short s.name.size /\ I64 s.pos
def FitR (s : Rl) : Prop:=I64 s.pos /\ Short s.name.size /\ I64 s.add
structure Fit (i : Im) : Prop where
 name : Short i.name.size
 needs : Short i.needs.length
 need : ∀ k,k < i.needs.length -> Short (strAt i.needs k).size
 segs : Short i.segs.length
 seg : ∀ k,k < i.segs.length -> FitG (sgAt i.segs k)
 syms : Short i.syms.length
 sym : ∀ k,k < i.syms.length -> FitY (syAt i.syms k)
 rels : Short i.rels.length
 rel : ∀ k,k < i.rels.length -> FitR (rlAt i.rels k)
 entry : I64 i.entry
def HasBy {α : Type} (lie : World -> Nat -> Nat -> List α -> Prop) (w : World) (ao : Option Addr) (l : List α) : Prop:=0 < l.length -> ∃ b off,ao = some ⟨b,off,none⟩ /\ b < w.heap.size /\ lie w b off l
structure At where
 an : Option Addr
 cn : Nat
 ag : Option Addr
 cg : Nat
 ay : Option Addr
 cy : Nat
 ar : Option Addr
 cr : Nat
structure HasIm (w : World) (a : At) (i : Im) : Prop where
 needs : HasBy LieS w a.an i.needs
 segs : HasBy LieG w a.ag i.segs
 syms : HasBy LieY w a.ay i.syms
 rels : HasBy LieR w a.ar i.rels
def cellsI (a : At) (i : Im) : Array Value:=#[.string i.name,.slice a.an i.needs.length a.cn,.slice a.ag i.segs.length a.cg,.slice a.ay i.syms.length a.cy,.slice a.ar i.rels.length a.cr,.int .i64 i.entry]
theorem below_cell {w w' : World} (hb : Below w.heap.size w w') {b o : Nat} (h : b < w.heap.size) : w'.cell? ⟨b,o,none⟩ = w.cell? ⟨b,o,none⟩:=hb.cell (p:=⟨b,o,none⟩) h
theorem HasBy.below {α : Type} {lie : World -> Nat -> Nat -> List α -> Prop} (hlie : ∀ {w w' : World} {b off : Nat} {l : List α},Below w.heap.size w w' -> b < w.heap.size -> lie w b off l -> lie w' b off l)
  {w w' : World} {ao : Option Addr} {l : List α} (h : HasBy lie w ao l) (hb : Below w.heap.size w w') : HasBy lie w' ao l:=fun hl=>by
 obtain ⟨b,off,e,hlt,hh⟩:=h hl
 exact ⟨b,off,e,Nat.lt_of_lt_of_le hlt hb.size,hlie hb hlt hh⟩
theorem lieS {w w' : World} {b off : Nat} {l : List ByteArray} (hb : Below w.heap.size w w') (hlt : b < w.heap.size) (h : LieS w b off l) : LieS w' b off l:=fun i hi=>(below_cell hb hlt).trans (h i hi)
theorem lieG {w w' : World} {b off : Nat} {l : List Sg} (hb : Below w.heap.size w w') (hlt : b < w.heap.size) (h : LieG w b off l) : LieG w' b off l:=fun i hi=>by
 obtain ⟨c0,c1,c2,c3,c4⟩:=h i hi
 exact ⟨(below_cell hb hlt).trans c0,(below_cell hb hlt).trans c1,(below_cell hb hlt).trans c2,(below_cell hb hlt).trans c3,(below_cell hb hlt).trans c4⟩
theorem lieY {w w' : World} {b off : Nat} {l : List Sy} (hb : Below w.heap.size w w') (hlt : b < w.heap.size) (h : LieY w b off l) : LieY w' b off l:=fun i hi=>by
 obtain ⟨c0,c1⟩:=h i hi
 exact ⟨(below_cell hb hlt).trans c0,(below_cell hb hlt).trans c1⟩
theorem lieR {w w' : World} {b off : Nat} {l : List Rl} (hb : Below w.heap.size w w') (hlt : b < w.heap.size) (h : LieR w b off l) : LieR w' b off l:=fun i hi=>by
 obtain ⟨c0,c1,c2⟩:=h i hi
 exact ⟨(below_cell hb hlt).trans c0,(below_cell hb hlt).trans c1,(below_cell hb hlt).trans c2⟩
theorem HasIm.below {w w' : World} {a : At} {i : Im} (h : HasIm w a i) (hb : Below w.heap.size w w') : HasIm w' a i :=
 ⟨HasBy.below (lie:=LieS) (fun hb hlt h=>lieS hb hlt h) h.needs hb,HasBy.below (lie:=LieG) (fun hb hlt h=>lieG hb hlt h) h.segs hb,HasBy.below (lie:=LieY) (fun hb hlt h=>lieY hb hlt h) h.syms hb,HasBy.below (lie:=LieR) (fun hb hlt h=>lieR hb hlt h) h.rels hb⟩
end M
end Go.Proofs.YtpgifpeohlllfaaGreat
