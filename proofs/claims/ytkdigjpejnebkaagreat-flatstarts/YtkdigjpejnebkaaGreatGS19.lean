import Derived.Test.YtkdigjpejnebkaaGreatGS18
import Derived.Test.YtkdigjpejnebkaaGreatGS16
import Derived.Test.YtkdigjpejnebkaaGreatGS06
import Derived.Test.YtkdigjpejnebkaaGreatGS02
set_option linter.unusedVariables false
set_option maxRecDepth 100000
set_option linter.unusedSimpArgs false
namespace Go.Proofs.YtkdigjpejnebkaaGreat
namespace LW
open Go.RowKit
open W (hideC)
theorem ret_sn {s t : ByteArray} {a b : Int} (h : s = t) (g : a = b) : Ending.returned (.tuple #[.string s,.int .i64 a]) = .returned (.tuple #[.string t,.int .i64 b]):=by rw [h,g]
set_option maxHeartbeats 2000000 in
theorem fill_any (s : LM.Sh) (w : World) (h : LM.HasF w s.ao s.fixes) (hf : LM.FitH s) :
  Calls Tryz.prog 24 #[.agg (LM.cellsH s)] w fun e w'=>e = .returned (.tuple #[.string (LM.fillN s).1,.int .i64 (LM.fillN s).2]) /\ Below w.heap.size w w':=by
 have HR : Hid (∀ W,Below w.heap.size w W -> Calls Tryz.prog 66 #[.agg (LM.cellsH s)] W fun e w'=>e = .returned (.bool (LM.sheetB s)) /\ Below W.heap.size W w'):=fun W hb=>rightSheet_any s W (h.below hb) hf
 obtain ⟨f1,f2,f3,f4⟩:=hf
 obtain ⟨pg,dt,fs,ao,cap⟩:=s
 simp only at f1 f2 f3 f4
 unfold M.Short at f2 f3
 simp only [LM.cellsH] at HR
 simp only [LM.cellsH]
 have hdl : dt.size <= maxLen:=by unfold maxLen;omega
 have F4:=hideC f4
 have HH:=hideC h
 clear f4 h f1
 have HB:=hideC ((Below.refl w.heap.size w).alloc (Nat.le_refl _) (.cells #[.int .i64 pg,.string dt,.slice ao fs.length cap] 62))
 have BX:=hideC (B.new w #[.int .i64 pg,.string dt,.slice ao fs.length cap] 62)
 by_cases hs : LM.sheetB ⟨pg,dt,fs,ao,cap⟩ = true
 · have HN : Hid (LM.fillN ⟨pg,dt,fs,ao,cap⟩ = (LM.laidTo dt fs fs.length,0)):=by
    show _ = _
    unfold LM.fillN
    rw [if_pos hs]
    rfl
   obtain ⟨hd,hfx⟩ : LM.headB ⟨pg,dt,fs,ao,cap⟩ = true /\ LM.fixesTo fs fs.length = true:=by
    unfold LM.sheetB at hs
    simpa using hs
   have h16 : dt.size = 16:=by
    unfold LM.headB at hd
    exact (of_decide_eq_true hd).2.2
   have HFX:=hideC hfx
   rw [hs] at HR
   clear hs hd hfx
   go_enter Tryz.func24,Tryz.ntmps24
   go_wp2_with (first | (go_at_call 66;refine (HR.out _ HB.out).mono ?_;rintro e w1 ⟨rfl,hb⟩;have HB:=hideC (HB.out.trans (hb.mono HB.out.size));have BX:=hideC (B.below BX.out hb (B.isLt BX.out));have q0:=B.cell BX.out 0 rfl;have q1:=B.cell BX.out 1 rfl;have q2:=B.cell BX.out 2 rfl;clear hb) | (go_at_call 67;refine (CW.clone17 _ _ (by omega)).mono ?_;rintro e w2 ⟨rfl,hb⟩;have HB:=hideC (HB.out.trans (hb.mono HB.out.size));have BX:=hideC (B.below BX.out hb (B.isLt BX.out));have q0:=B.cell BX.out 0 rfl;have q1:=B.cell BX.out 1 rfl;have q2:=B.cell BX.out 2 rfl;clear hb))
   go_loopw [16,4] (fun i d wr=>∃ k : Nat,k <= fs.length /\ i = .int .i64 k /\ d = .string (LM.laidTo dt fs k) /\ Below w.heap.size w wr) (fun i _ _=>fs.length - (intOf i).toNat)
   case atStart=>exact ⟨0,by omega,rfl,rfl,HB.out⟩
   case round =>
    obtain ⟨k,hk,rfl,rfl,hb⟩:=hrel
    have HBr:=hideC hb
    by_cases hlt : k < fs.length
    · obtain ⟨b,off,hao,hbl,hlie⟩:=(HH.out.below hb) (by omega)
      subst hao
      obtain ⟨c0,c1⟩:=hlie k hlt
      have hok:=(LM.fixB_iff _ _).1 (LM.fixesTo_ok fs fs.length HFX.out k hlt)
      have hgk : LM.fixesTo fs k = true:=by
       cases e : LM.fixesTo fs k
       · rw [LM.fixesTo_false fs k fs.length (by omega) e] at HFX
         cases HFX
       · rfl
      have hed:=LM.endTo_ge fs k hgk
      have hsz:=LM.laidTo_size dt fs h16 k hgk
      have HNX : Hid (LM.laidTo dt fs (k + 1) = CL.over (LM.laidTo dt fs k) (LM.fxAt fs k).off.toNat (LM.fxAt fs k).bytes):=rfl
      obtain ⟨f,hfe⟩ : ∃ f,f = LM.fxAt fs k:=⟨_,rfl⟩
      rw [<- hfe] at c0 c1 hok HNX
      obtain ⟨D,hD⟩ : ∃ D,D = LM.laidTo dt fs k:=⟨_,rfl⟩
      rw [<- hD] at hsz HNX
      rw [<- hD]
      obtain ⟨o,ho⟩ : ∃ o : Nat,f.off = (o : Int):=⟨f.off.toNat,by omega⟩
      rw [ho] at c0 hok
      rw [ho,Int.toNat_natCast] at HNX
      clear hfe hD hgk hlie hb
      have HBA:=hideC (HBr.out.alloc HBr.out.size (.cells #[.int .i64 (o : Int),.string f.bytes] 121))
      go_wp2_with (go_at_call 68;refine (CW.lay_yes D f.bytes o _ (by omega) (by omega)).mono ?_;rintro e w3 ⟨rfl,hb⟩;have HBA:=hideC (HBA.out.trans (hb.mono HBA.out.size));clear hb)
      go_roundw
      case rel=>exact ⟨k + 1,by omega,by go_num,by rw [HNX.out],HBA.out⟩
      case measure=>simp [intOf];omega
    · obtain rfl : k = fs.length:=by omega
      go_wp2
      go_ret2
      exact ⟨ret_sn (by rw [HN.out]) (by rw [HN.out]),HBr.out⟩
 · have hs' : LM.sheetB ⟨pg,dt,fs,ao,cap⟩ = false:=by simpa using hs
   have HN : Hid (LM.fillN ⟨pg,dt,fs,ao,cap⟩ = (⟨#[]⟩,1)):=by
    show _ = _
    unfold LM.fillN
    rw [if_neg hs]
   rw [hs'] at HR
   clear hs hs'
   rw [HN.out]
   go_enter Tryz.func24,Tryz.ntmps24
   go_wp2_with (go_at_call 66;refine (HR.out _ HB.out).mono ?_;rintro e w1 ⟨rfl,hb⟩;have HB:=hideC (HB.out.trans (hb.mono HB.out.size));clear hb)
   go_ret2
   exact ⟨rfl,HB.out⟩
end LW
namespace LM
open Go.RowKit
def pagesN (a : AM.Ar) (n : Nat) : List Int:=(List.range n).map (fun m : Nat=>a.page + (m : Int))
def pagesTo (l : List AM.Ar) : Nat -> List Int
 | 0=>[]
 | i + 1=>pagesTo l i ++ pagesN (AM.at_ l i) (AM.at_ l i).pages.toNat
def pagesOf (l : List AM.Ar) : List Int:=pagesTo l l.length
def forEachB (l : List AM.Ar) (hs : List Sh) : Bool:=decide (hs.map (·.page) = pagesOf l)
def zeroTo (l : List AM.Ar) : Nat -> Bool
 | 0=>false
 | k + 1=>zeroTo l k || (AM.at_ l k).zero
def anyZeroB (l : List AM.Ar) : Bool:=zeroTo l l.length
def sheetsTo (hs : List Sh) : Nat -> Bool
 | 0=>true
 | k + 1=>sheetsTo hs k && sheetB (shAt hs k)
def sheetsB (hs : List Sh) : Bool:=sheetsTo hs hs.length
def entB (l : List AM.Ar) (en : Int) : Bool:=(AM.findFrom l (en.tdiv 16)).2 && (decide (2 <= (AM.findFrom l (en.tdiv 16)).1.prot) && decide (en.tmod 8 = 0))
def checkL (l : List AM.Ar) (hs : List Sh) (en : Int) : Int:=if AM.checkN l = 0 then (if !anyZeroB l && (forEachB l hs && (sheetsB hs && entB l en)) then 0 else 1) else AM.checkN l
theorem pagesN_succ (a : AM.Ar) (n : Nat) : pagesN a (n + 1) = pagesN a n ++ [a.page + (n : Int)]:=by
 unfold pagesN
 rw [List.range_succ,List.map_append]
 rfl
theorem pagesN_split (a : AM.Ar) (n m : Nat) (h : n < m) : ∃ t,pagesN a m = pagesN a n ++ (a.page + (n : Int)) :: t:=by
 induction m with
 | zero=>omega
 | succ m ih =>
  by_cases e : n = m
  · subst e;exact ⟨[],pagesN_succ a n⟩
  · obtain ⟨t,ht⟩:=ih (by omega)
    exact ⟨t ++ [a.page + (m : Int)],by rw [pagesN_succ,ht];simp⟩
theorem pagesTo_more (l : List AM.Ar) (i : Nat) : ∀ n,i <= n -> ∃ t,pagesTo l n = pagesTo l i ++ t
 | 0, h => by obtain rfl : i = 0 := by omega
              exact ⟨[],by simp⟩
 | n + 1,h=>by
  by_cases e : i = n + 1
  · subst e;exact ⟨[],by simp⟩
  · obtain ⟨t,ht⟩:=pagesTo_more l i n (by omega)
    exact ⟨t ++ pagesN (AM.at_ l n) (AM.at_ l n).pages.toNat,by simp only [pagesTo];rw [ht,List.append_assoc]⟩
theorem pages_split (l : List AM.Ar) (i : Nat) (hi : i < l.length) (n : Nat) (hn : n < (AM.at_ l i).pages.toNat) : ∃ t,pagesOf l = (pagesTo l i ++ pagesN (AM.at_ l i) n) ++ ((AM.at_ l i).page + (n : Int)) :: t:=by
 obtain ⟨t,ht⟩:=pagesTo_more l (i + 1) l.length (by omega)
 obtain ⟨u,hu⟩:=pagesN_split (AM.at_ l i) n _ hn
 refine ⟨u ++ t,?_⟩
 unfold pagesOf
 rw [ht]
 simp only [pagesTo]
 rw [hu]
 simp
theorem zeroTo_mono (l : List AM.Ar) : ∀ (k n : Nat),k <= n -> zeroTo l k = true -> zeroTo l n = true
 | k, 0, h, hk => by obtain rfl : k = 0 := by omega
                     exact hk
 | k,n + 1,h,hk=>by
  by_cases e : k = n + 1
  · subst e;exact hk
  · simp [zeroTo,zeroTo_mono l k n (by omega) hk]
theorem zero_at (l : List AM.Ar) (k : Nat) (hk : k < l.length) (h : (AM.at_ l k).zero = true) : anyZeroB l = true:=zeroTo_mono l (k + 1) l.length (by omega) (by simp [zeroTo,h])
theorem zero_none (l : List AM.Ar) : ∀ n,zeroTo l n = false -> ∀ i,i < n -> (AM.at_ l i).zero = false
 | 0,_,i,hi=>by omega
 | n + 1,h,i,hi=>by
  simp only [zeroTo,Bool.or_eq_false_iff] at h
  by_cases e : i = n
  · subst e;exact h.2
  · exact zero_none l n h.1 i (by omega)
theorem sheetsTo_false (l : List Sh) : ∀ (k n : Nat),k <= n -> sheetsTo l k = false -> sheetsTo l n = false
 | k, 0, h, hk => by obtain rfl : k = 0 := by omega
                     exact hk
 | k,n + 1,h,hk=>by
  by_cases e : k = n + 1
  · subst e;exact hk
  · simp [sheetsTo,sheetsTo_false l k n (by omega) hk]
theorem sheets_bad (l : List Sh) (k : Nat) (hk : k < l.length) (h : sheetB (shAt l k) = false) : sheetsB l = false:=sheetsTo_false l (k + 1) l.length (by omega) (by simp [sheetsTo,h])
theorem sheetsTo_ok (l : List Sh) : ∀ n,sheetsTo l n = true -> ∀ i,i < n -> sheetB (shAt l i) = true
 | 0,_,i,hi=>by omega
 | n + 1,h,i,hi=>by
  simp only [sheetsTo,Bool.and_eq_true] at h
  by_cases e : i = n
  · subst e;exact h.2
  · exact sheetsTo_ok l n h.1 i (by omega)
theorem map_take_snoc (hs : List Sh) (c : Nat) (h : c < hs.length) : (hs.take (c + 1)).map (·.page) = (hs.take c).map (·.page) ++ [(shAt hs c).page]:=by
 rw [List.take_succ_eq_append_getElem h,List.map_append]
 unfold shAt
 rw [List.getD_eq_getElem?_getD,List.getElem?_eq_getElem h]
 rfl
theorem each_short {l : List AM.Ar} {hs : List Sh} {pre t : List Int} {x : Int} (hp : (hs.take hs.length).map (·.page) = pre) (ho : pagesOf l = pre ++ x :: t) : forEachB l hs = false:=by
 unfold forEachB
 refine decide_eq_false (fun e=>?_)
 rw [List.take_length] at hp
 rw [hp,ho] at e
 have:=congrArg List.length e
 simp at this
theorem each_other {l : List AM.Ar} {hs : List Sh} {pre t : List Int} {x : Int} {c : Nat} (hc : c < hs.length) (hp : (hs.take c).map (·.page) = pre) (ho : pagesOf l = pre ++ x :: t) (hx : (shAt hs c).page ≠ x) : forEachB l hs = false:=by
 unfold forEachB
 refine decide_eq_false (fun e=>?_)
 have h1:=map_take_snoc hs c hc
 rw [hp] at h1
 have h2 : hs.map (·.page) = (hs.take (c + 1)).map (·.page) ++ (hs.drop (c + 1)).map (·.page):=by rw [<- List.map_append,List.take_append_drop]
 rw [h2,h1,ho,List.append_assoc] at e
 have:=List.append_cancel_left e
 simp at this
 exact hx this.1
theorem each_done {l : List AM.Ar} {hs : List Sh} {c : Nat} (hc : c <= hs.length) (hp : (hs.take c).map (·.page) = pagesTo l l.length) : forEachB l hs = decide (c = hs.length):=by
 unfold forEachB
 by_cases e : c = hs.length
 · subst e
   rw [List.take_length] at hp
   have hp' : hs.map (·.page) = pagesOf l:=hp
   rw [decide_eq_true hp',decide_eq_true rfl]
 · rw [decide_eq_false e]
   refine decide_eq_false (fun g=>?_)
   have h1:=congrArg List.length hp
   have h2:=congrArg List.length g
   rw [List.length_map,List.length_take] at h1
   rw [List.length_map] at h2
   unfold pagesOf at h2
   omega
def LieH (w : World) (b off : Nat) (l : List Sh) : Prop:=∀ i,i < l.length ->
 w.cell? ⟨b,off + i * 3,none⟩ = some (.int .i64 (shAt l i).page) /\ w.cell? ⟨b,off + i * 3 + 1,none⟩ = some (.string (shAt l i).data) /\ w.cell? ⟨b,off + i * 3 + 2,none⟩ = some (.slice (shAt l i).ao (shAt l i).fixes.length (shAt l i).cap) /\ HasF w (shAt l i).ao (shAt l i).fixes
theorem lieH {w w' : World} {b off : Nat} {l : List Sh} (hb : Below w.heap.size w w') (hlt : b < w.heap.size) (h : LieH w b off l) : LieH w' b off l:=fun i hi=>by
 obtain ⟨c0,c1,c2,c3⟩:=h i hi
 exact ⟨(M.below_cell hb hlt).trans c0,(M.below_cell hb hlt).trans c1,(M.below_cell hb hlt).trans c2,c3.below hb⟩
def HasH (w : World) (ao : Option Addr) (l : List Sh) : Prop:=M.HasBy LieH w ao l
theorem HasH.below {w w' : World} {ao : Option Addr} {l : List Sh} (h : HasH w ao l) (hb : Below w.heap.size w w') : HasH w' ao l:=M.HasBy.below (lie:=LieH) (fun hb hlt h=>lieH hb hlt h) h hb
def FitHs (l : List Sh) : Prop:=M.Short l.length /\ ∀ k,k < l.length -> FitH (shAt l k)
theorem prot_cases {p : Int} (h : 0 <= p /\ p <= 3) : p = 0 ∨ p = 1 ∨ p = 2 ∨ p = 3:=by omega
theorem found_prot (l : List AM.Ar) (hc : AM.checkN l = 0) (p : Int) (h : (AM.findFrom l p).2 = true) : 0 <= (AM.findFrom l p).1.prot /\ (AM.findFrom l p).1.prot <= 3:=by
 by_cases e : ∃ k,k < l.length /\ AM.hit (AM.at_ l k) p = true
 · obtain ⟨k,hk,hh⟩:=e
   have : ∃ k,k < l.length /\ AM.hit (AM.at_ l k) p = true /\ ∀ i,i < k -> AM.hit (AM.at_ l i) p = false:=by
    induction k using Nat.strongRecOn with
    | _ k ih =>
     by_cases g : ∃ j,j < k /\ AM.hit (AM.at_ l j) p = true
     · obtain ⟨j,hj,hj2⟩:=g
       exact ih j hj (by omega) hj2
     · exact ⟨k,hk,hh,fun i hi=>by
        cases q : AM.hit (AM.at_ l i) p
        · rfl
        · exact (g ⟨i,hi,q⟩).elim⟩
   obtain ⟨k,hk,h1,h2⟩:=this
   rw [AM.findFrom_at l p k hk h2 h1]
   have:=AM.okAt_pages l k (AM.good_pages l hc k hk)
   exact ⟨this.2.2.2.1,this.2.2.2.2⟩
 · rw [AM.findFrom_none l p (fun i hi=>by
    cases q : AM.hit (AM.at_ l i) p
    · rfl
    · exact (e ⟨i,hi,q⟩).elim)] at h
   cases h
end LM
namespace LW
open Go.RowKit
open W (hideC)
theorem anyZero_nil (ao : Option Addr) (cap : Nat) (w : World) :
  Calls Tryz.prog 62 #[.slice ao 0 cap] w fun e w'=>e = .returned (.bool (LM.anyZeroB [])) /\ Below w.heap.size w w':=by
 go_enter Tryz.func62,Tryz.ntmps62
 go_wp2
 refine wp_loop_rounds 1 ?_
 rw [rounds_succ]
 go_wp2
 go_ret
 exact ⟨rfl,Below.refl _ _⟩
set_option maxHeartbeats 1000000 in
theorem anyZero_some (l : List AM.Ar) (b off cap : Nat) (w : World) (hl : AM.Lie w b off l) (hn : l.length <= 140737488351232) :
  Calls Tryz.prog 62 #[.slice (some ⟨b,off,none⟩) l.length cap] w fun e w'=>e = .returned (.bool (LM.anyZeroB l)) /\ Below w.heap.size w w':=by
 go_enter Tryz.func62,Tryz.ntmps62
 go_wp2
 go_loopw [7] (fun i wr=>∃ k : Nat,k <= l.length /\ i = .int .i64 k /\ LM.zeroTo l k = false /\ Below w.heap.size w wr) (fun i _=>l.length - (intOf i).toNat)
 case atStart=>exact ⟨0,by omega,rfl,rfl,Below.refl _ _⟩
 case round =>
  obtain ⟨k,hk,rfl,hz,hb⟩:=hrel
  have HZ:=hideC hz
  have HBr:=hideC hb
  clear hz
  by_cases hlt : k < l.length
  · obtain ⟨c0,c1,c2,c3⟩:=(hl.below hb) k hlt
    obtain ⟨a,ha⟩ : ∃ a,a = AM.at_ l k:=⟨_,rfl⟩
    rw [<- ha] at c0 c1 c2 c3
    have HA:=hideC ha
    clear ha hb
    by_cases hzr : a.zero = true
    · have HX : Hid (LM.anyZeroB l = true):=LM.zero_at l k hlt (by rw [<- HA.out];exact hzr)
      go_wp2
      go_ret
      exact ⟨ret_bool (by rw [HX.out]),HBr.out.alloc HBr.out.size _⟩
    · have hzr' : a.zero = false:=by simpa using hzr
      clear hzr
      have HX : Hid (LM.zeroTo l (k + 1) = false):=by
       show _ = _
       simp only [LM.zeroTo]
       rw [HZ.out,<- HA.out,hzr']
       rfl
      go_wp2
      go_roundw
      case rel=>exact ⟨k + 1,by omega,by go_num,HX.out,HBr.out.alloc HBr.out.size _⟩
      case measure=>simp [intOf];omega
  · obtain rfl : k = l.length:=by omega
    go_wp2
    go_ret
    exact ⟨ret_bool HZ.out.symm,HBr.out⟩
theorem anyZero_any (l : List AM.Ar) (v : Value) (w : World) (h : AW.Has w v l) (hf : AW.AllFit l) :
  Calls Tryz.prog 62 #[v] w fun e w'=>e = .returned (.bool (LM.anyZeroB l)) /\ Below w.heap.size w w':=by
 obtain ⟨ao,cap,rfl,h⟩:=h
 rcases h with rfl | ⟨b,off,rfl,hl⟩
 · exact anyZero_nil ao cap w
 · exact anyZero_some l b off cap w hl hf.2
set_option maxHeartbeats 1000000 in
theorem rightSheets_any (hs : List LM.Sh) (ao : Option Addr) (cap : Nat) (w : World) (h : LM.HasH w ao hs) (hf : LM.FitHs hs) :
  Calls Tryz.prog 64 #[.slice ao hs.length cap] w fun e w'=>e = .returned (.bool (LM.sheetsB hs)) /\ Below w.heap.size w w':=by
 have HF:=hideC hf
 have HH:=hideC h
 have hn : hs.length <= 140737488351232:=hf.1
 clear h hf
 go_enter Tryz.func64,Tryz.ntmps64
 go_wp2
 go_loopw [7] (fun i wr=>∃ k : Nat,k <= hs.length /\ i = .int .i64 k /\ LM.sheetsTo hs k = true /\ Below w.heap.size w wr) (fun i _=>hs.length - (intOf i).toNat)
 case atStart=>exact ⟨0,by omega,rfl,rfl,Below.refl _ _⟩
 case round =>
  obtain ⟨k,hk,rfl,hz,hb⟩:=hrel
  have HZ:=hideC hz
  have HBr:=hideC hb
  clear hz
  by_cases hlt : k < hs.length
  · obtain ⟨b,off,hao,hbl,hlie⟩:=(HH.out.below hb) (by omega)
    subst hao
    obtain ⟨c0,c1,c2,c3⟩:=hlie k hlt
    have hfk:=HF.out.2 k hlt
    have HE : Hid (LM.sheetsTo hs (k + 1) = LM.sheetB (LM.shAt hs k)):=by
     show _ = _
     simp only [LM.sheetsTo]
     rw [HZ.out,Bool.true_and]
    have HE2 : Hid (LM.sheetB (LM.shAt hs k) = false -> LM.sheetsB hs = false):=fun e=>LM.sheets_bad hs k hlt e
    obtain ⟨s,hse⟩ : ∃ s,s = LM.shAt hs k:=⟨_,rfl⟩
    rw [<- hse] at c0 c1 c2 c3 hfk HE HE2
    clear hse hlie hb
    have HBA:=hideC (HBr.out.alloc HBr.out.size (.cells #[.int .i64 s.page,.string s.data,.slice s.ao s.fixes.length s.cap] 62))
    have HC : Hid (∀ W,Below wr.heap.size wr W -> Calls Tryz.prog 66 #[.agg #[.int .i64 s.page,.string s.data,.slice s.ao s.fixes.length s.cap]] W fun e w'=>e = .returned (.bool (LM.sheetB s)) /\ Below W.heap.size W w'):=fun W hb=>rightSheet_any s W (c3.below hb) hfk
    clear c3 hfk
    cases e : LM.sheetB s with
    | true =>
     rw [e] at HC HE
     clear e
     go_wp2_with (go_at_call 66;refine (HC.out _ ((Below.refl _ _).alloc (Nat.le_refl _) _)).mono ?_;rintro e w1 ⟨rfl,hb⟩;have HBA:=hideC (HBA.out.trans (hb.mono HBA.out.size));clear hb)
     go_roundw
     case rel=>exact ⟨k + 1,by omega,by go_num,HE.out,HBA.out⟩
     case measure=>simp [intOf];omega
    | false =>
     have HX:=hideC (HE2.out e)
     rw [e] at HC
     clear e HE2 HE
     go_wp2_with (go_at_call 66;refine (HC.out _ ((Below.refl _ _).alloc (Nat.le_refl _) _)).mono ?_;rintro e w1 ⟨rfl,hb⟩;have HBA:=hideC (HBA.out.trans (hb.mono HBA.out.size));clear hb)
     go_ret
     exact ⟨ret_bool (by rw [HX.out]),HBA.out⟩
  · obtain rfl : k = hs.length:=by omega
    go_wp2
    go_ret
    exact ⟨ret_bool HZ.out.symm,HBr.out⟩
theorem slice_eq {a a' : Option Addr} {n n' m m' : Nat} (h1 : a = a') (h2 : n = n') (h3 : m = m') : Value.slice a n m = .slice a' n' m':=by rw [h1,h2,h3]
set_option maxHeartbeats 3000000 in
theorem forEach_any (l : List AM.Ar) (hs : List LM.Sh) (en : Int) (va : Value) (ao : Option Addr) (cap : Nat) (w : World) (ha : AW.Has w va l) (hc : AM.checkN l = 0) (h : LM.HasH w ao hs) (hn : hs.length <= 140737488351232) (hcap : hs.length <= cap) :
  Calls Tryz.prog 63 #[.agg #[va,.slice ao hs.length cap,.int .i64 en]] w fun e w'=>e = .returned (.bool (LM.forEachB l hs)) /\ Below w.heap.size w w':=by
 obtain ⟨b,off,hbo⟩ : ∃ b off,0 < hs.length -> ao = some ⟨b,off,none⟩ /\ b < w.heap.size /\ LM.LieH w b off hs:=by
  by_cases h0 : 0 < hs.length
  · obtain ⟨b,off,h1,h2,h3⟩:=h h0
    exact ⟨b,off,fun _=>⟨h1,h2,h3⟩⟩
  · exact ⟨0,0,fun g=>(h0 g).elim⟩
 have HBO:=hideC hbo
 have HC:=hideC hc
 have hlen:=AM.good_len l hc
 obtain ⟨aa,ca,rfl,hal⟩:=ha
 have HAL : Hid (0 < l.length -> ∃ b off,aa = some ⟨b,off,none⟩ /\ AM.Lie w b off l):=fun g=>by
  rcases hal with rfl | ⟨b,off,e,hl⟩
  · exact (Nat.lt_irrefl 0 g).elim
  · exact ⟨b,off,e,hl⟩
 clear hbo hc h hal
 have HB:=hideC ((Below.refl w.heap.size w).alloc (Nat.le_refl _) (.cells #[.slice aa l.length ca,.slice ao hs.length cap,.int .i64 en] 25))
 go_enter Tryz.func63,Tryz.ntmps63
 go_wp2
 go_loopw [12,3] (fun ix v wr=>∃ (i c : Nat) (ao' : Option Addr),i <= l.length /\ ix = .int .i64 i /\ v = .slice ao' (hs.length - c) (cap - c) /\ c <= hs.length /\ (c < hs.length -> ao' = some ⟨b,off + c * 3,none⟩) /\ (hs.take c).map (·.page) = LM.pagesTo l i /\ Below w.heap.size w wr) (fun ix _ _=>l.length - (intOf ix).toNat)
 case atStart=>exact ⟨0,0,ao,by omega,rfl,rfl,by omega,fun g=>by rw [(HBO.out g).1,Nat.zero_mul,Nat.add_zero],rfl,HB.out⟩
 case round =>
  obtain ⟨i,c,ao',hi,rfl,rfl,hcl,hao,htk,hb⟩:=hrel
  have HAO:=hideC hao
  have HTK:=hideC htk
  have HBr:=hideC hb
  clear hao htk
  by_cases hlt : i < l.length
  · obtain ⟨ba,offa,hae,hl⟩:=HAL.out (by omega)
    subst hae
    obtain ⟨c0,c1,c2,c3⟩:=(hl.below hb) i hlt
    have hbk:=AM.okAt_pages l i (AM.good_pages l HC.out i hlt)
    have HSP : Hid (∀ n,n < (AM.at_ l i).pages.toNat -> ∃ t,LM.pagesOf l = (LM.pagesTo l i ++ LM.pagesN (AM.at_ l i) n) ++ ((AM.at_ l i).page + (n : Int)) :: t):=fun n hn=>LM.pages_split l i hlt n hn
    have HNX : Hid (LM.pagesTo l (i + 1) = LM.pagesTo l i ++ LM.pagesN (AM.at_ l i) (AM.at_ l i).pages.toNat):=rfl
    obtain ⟨a,hae⟩ : ∃ a,a = AM.at_ l i:=⟨_,rfl⟩
    rw [<- hae] at c0 c1 c2 c3 hbk HSP HNX
    clear hae hb
    obtain ⟨P,hP⟩ : ∃ P : Nat,a.pages = (P : Int):=⟨a.pages.toNat,by omega⟩
    rw [hP] at c1 hbk HSP HNX
    rw [Int.toNat_natCast] at HSP HNX
    have HBA:=hideC (HBr.out.alloc HBr.out.size (.cells #[.int .i64 a.page,.int .i64 (P : Int),.int .i64 a.prot,.bool a.zero] 59))
    have BA:=hideC (B.new wr #[.int .i64 a.page,.int .i64 (P : Int),.int .i64 a.prot,.bool a.zero] 59)
    go_wp2
    go_loopw [18,3] (fun nx v wi=>∃ (n c : Nat) (ao' : Option Addr),n <= P /\ nx = .int .i64 n /\ v = .slice ao' (hs.length - c) (cap - c) /\ c <= hs.length /\ (c < hs.length -> ao' = some ⟨b,off + c * 3,none⟩) /\ (hs.take c).map (·.page) = LM.pagesTo l i ++ LM.pagesN a n /\ Below w.heap.size w wi /\ wi.heap[wr.heap.size]? = some (.cells #[.int .i64 a.page,.int .i64 (P : Int),.int .i64 a.prot,.bool a.zero] 59 (0,0))) (fun nx _ _=>P - (intOf nx).toNat)
    case atStart=>exact ⟨0,c,ao',by omega,rfl,rfl,hcl,HAO.out,by rw [HTK.out];simp [LM.pagesN],HBA.out,BA.out⟩
    case round =>
     obtain ⟨n,c,ao',hn',rfl,rfl,hcl,hao,htk,hb,hba⟩:=hrel
     have HAO:=hideC hao
     have HTK:=hideC htk
     have HBi:=hideC hb
     have BAi:=hideC hba
     have x0:=B.cell hba 0 rfl
     clear hao htk hba
     by_cases hlp : n < P
     · obtain ⟨t,ht⟩:=HSP.out n hlp
       have HT:=hideC ht
       clear ht
       by_cases hce : c = hs.length
       · have HX : Hid (LM.forEachB l hs = false):=LM.each_short (by have h:=HTK.out;rw [hce] at h;exact h) HT.out
         have hz : hs.length - c = 0:=by omega
         rw [hz]
         clear hz hce
         go_wp2
         go_quiet (fail)
         go_wp2
         go_ret
         exact ⟨ret_bool HX.out.symm,below_drewN HBi.out _⟩
       · have hcl' : c < hs.length:=by omega
         have hcz : (((hs.length - c : Nat) : Int) == 0) = false:=by simp;omega
         have hcz2 : 0 < hs.length - c:=by omega
         obtain ⟨-,g2,g3⟩:=HBO.out (by omega)
         obtain ⟨d0,d1,d2,d3⟩:=(LM.lieH (hb.mono (Nat.le_of_eq rfl)) g2 g3) c hcl'
         have hae:=HAO.out hcl'
         subst hae
         have hle1 : (1 : Int) <= ((hs.length - c : Nat) : Int):=by omega
         by_cases hpg : (LM.shAt hs c).page = a.page + (n : Int)
         · have HX : Hid ((hs.take (c + 1)).map (·.page) = LM.pagesTo l i ++ LM.pagesN a (n + 1)):=by
            show _ = _
            rw [LM.map_take_snoc hs c hcl',HTK.out,hpg,LM.pagesN_succ,List.append_assoc]
           rw [hpg] at d0
           clear hpg d1 d2 d3 hb hce
           by_cases hc1 : cap - c = 1
           · go_wp2
             go_quiet (fail)
             go_wp2
             go_roundw
             case rel=>exact ⟨n + 1,c + 1,_,by omega,by go_num,slice_eq rfl (by omega) (by omega),by omega,fun g=>by omega,HX.out,below_drewN HBi.out _,BAi.out⟩
             case measure=>simp [intOf];omega
           · go_wp2
             go_quiet (fail)
             go_wp2
             go_roundw
             case rel=>exact ⟨n + 1,c + 1,_,by omega,by go_num,slice_eq rfl (by omega) (by omega),by omega,fun g=>by simp [Nat.add_mul,Nat.add_assoc],HX.out,below_drewN HBi.out _,BAi.out⟩
             case measure=>simp [intOf];omega
         · have HX : Hid (LM.forEachB l hs = false):=LM.each_other hcl' HTK.out HT.out hpg
           have hpz : ((LM.shAt hs c).page == a.page + (n : Int)) = false:=by simpa using hpg
           clear hpg d1 d2 d3 hb hce
           go_wp2
           go_quiet (fail)
           go_wp2
           go_ret
           exact ⟨ret_bool HX.out.symm,below_drewN HBi.out _⟩
     · obtain rfl : n = P:=by omega
       go_wp2
       go_roundw
       case rel=>exact ⟨i + 1,c,ao',by omega,by go_num,rfl,hcl,HAO.out,by rw [HNX.out];exact HTK.out,HBi.out⟩
       case measure=>simp [intOf];omega
  · obtain rfl : i = l.length:=by omega
    have HX:=hideC (LM.each_done hcl HTK.out)
    go_wp2
    go_ret
    refine ⟨ret_bool ?_,HBr.out⟩
    rw [HX.out]
    rw [Bool.eq_iff_iff]
    simp
    omega
theorem ret_int {k : IntKind} {a b : Int} (h : a = b) : Ending.returned (.int k a) = .returned (.int k b):=by rw [h]
set_option maxHeartbeats 3000000 in
theorem rightEntry_any (l : List AM.Ar) (va vs : Value) (en : Int) (w : World) (ha : AW.Has w va l) (hf : AW.AllFit l) (hc : AM.checkN l = 0) (he : M.I64 en) (hva : ∃ ao n c,va = .slice ao n c) (hvs : ∃ ao n c,vs = .slice ao n c) :
  Calls Tryz.prog 65 #[.agg #[va,vs,.int .i64 en]] w fun e w'=>e = .returned (.bool (LM.entB l en)) /\ Below w.heap.size w w':=by
 have HFN : Hid (AM.findN l (en.tdiv 16) = AM.findFrom l (en.tdiv 16)):=by show _ = _;simp [AM.findN,hc]
 have HPR:=hideC (LM.found_prot l hc (en.tdiv 16))
 have HE : Hid (LM.entB l en = ((AM.findFrom l (en.tdiv 16)).2 && (decide (2 <= (AM.findFrom l (en.tdiv 16)).1.prot) && decide (en.tmod 8 = 0)))):=rfl
 have HFD : Hid (∀ W,Below w.heap.size w W -> Calls Tryz.prog 95 #[va,.int .i64 (en.tdiv 16)] W fun e w'=>e = .returned (.tuple #[.agg (AW.cellsOf (AM.findFrom l (en.tdiv 16)).1),.bool (AM.findFrom l (en.tdiv 16)).2]) /\ Below W.heap.size W w'):=fun W hb=>by
  have h:=AW.find_any l va (en.tdiv 16) W (ha.below hb) hf
  rw [HFN.out] at h
  exact h
 obtain ⟨r,hr⟩ : ∃ r,r = AM.findFrom l (en.tdiv 16):=⟨_,rfl⟩
 rw [<- hr] at HPR HE HFD
 clear hr HFN ha hf hc
 obtain ⟨⟨pg,pn,pr,zr⟩,ok⟩:=r
 simp only [AW.cellsOf] at HFD HPR HE
 obtain ⟨aa,na,ca,rfl⟩:=hva
 obtain ⟨ao,no,co,rfl⟩:=hvs
 unfold M.I64 at he
 have HB:=hideC ((Below.refl w.heap.size w).alloc (Nat.le_refl _) (.cells #[.slice aa na ca,.slice ao no co,.int .i64 en] 25))
 have BX:=hideC (B.new w #[.slice aa na ca,.slice ao no co,.int .i64 en] 25)
 rw [HE.out]
 cases ok with
 | false =>
  go_enter Tryz.func65,Tryz.ntmps65
  go_wp2_with (go_at_call 95;refine (HFD.out _ HB.out).mono ?_;rintro e w1 ⟨rfl,hb⟩;have HB:=hideC (HB.out.trans (hb.mono HB.out.size));clear hb)
  go_ret
  exact ⟨rfl,HB.out.alloc HB.out.size _⟩
 | true =>
  have hpr:=LM.prot_cases (HPR.out rfl)
  have b0 : bits BinOp.and IntKind.i64 0 2 = 0:=by decide
  have b1 : bits BinOp.and IntKind.i64 1 2 = 0:=by decide
  have b2 : bits BinOp.and IntKind.i64 2 2 = 2:=by decide
  have b3 : bits BinOp.and IntKind.i64 3 2 = 2:=by decide
  clear HPR
  by_cases h8 : en.tmod 8 = 0
  · rcases hpr with rfl | rfl | rfl | rfl
    all_goals
     go_enter Tryz.func65,Tryz.ntmps65
     go_wp2_with (go_at_call 95;refine (HFD.out _ HB.out).mono ?_;rintro e w1 ⟨rfl,hb⟩;have HB:=hideC (HB.out.trans (hb.mono HB.out.size));have BX:=hideC (B.below BX.out hb (B.isLt BX.out));have hbx:=B.isLt BX.out;have x2:=B.cell BX.out 2 rfl;clear hb)
     go_ret
     exact ⟨ret_bool (by simp [h8]),HB.out.alloc HB.out.size _⟩
  · have h8' : (en.tmod 8 == 0) = false:=by simpa using h8
    rcases hpr with rfl | rfl | rfl | rfl
    all_goals
     go_enter Tryz.func65,Tryz.ntmps65
     go_wp2_with (go_at_call 95;refine (HFD.out _ HB.out).mono ?_;rintro e w1 ⟨rfl,hb⟩;have HB:=hideC (HB.out.trans (hb.mono HB.out.size));have BX:=hideC (B.below BX.out hb (B.isLt BX.out));have hbx:=B.isLt BX.out;have x2:=B.cell BX.out 2 rfl;clear hb)
     go_ret
     exact ⟨ret_bool (by simp [h8]),HB.out.alloc HB.out.size _⟩
theorem isSlice {w : World} {v : Value} {l : List AM.Ar} (h : AW.Has w v l) : ∃ ao n c,v = .slice ao n c:=by
 obtain ⟨ao,cap,h,_⟩:=h
 exact ⟨ao,_,cap,h⟩
set_option maxHeartbeats 3000000 in
theorem check_any (l : List AM.Ar) (hs : List LM.Sh) (en : Int) (va : Value) (ao : Option Addr) (cap : Nat) (w : World) (ha : AW.Has w va l) (hf : AW.AllFit l) (h : LM.HasH w ao hs) (hfs : LM.FitHs hs) (hcap : hs.length <= cap) (he : M.I64 en) :
  Calls Tryz.prog 21 #[.agg #[va,.slice ao hs.length cap,.int .i64 en]] w fun e w'=>e = .returned (.int .i64 (LM.checkL l hs en)) /\ Below w.heap.size w w':=by
 have HCK : Hid (∀ W,Below w.heap.size w W -> Calls Tryz.prog 61 #[va] W fun e w'=>e = .returned (.int .i64 (AM.checkN l)) /\ Below W.heap.size W w'):=fun W hb=>AW.check_any l va W (ha.below hb) hf
 have HZ : Hid (∀ W,Below w.heap.size w W -> Calls Tryz.prog 62 #[va] W fun e w'=>e = .returned (.bool (LM.anyZeroB l)) /\ Below W.heap.size W w'):=fun W hb=>anyZero_any l va W (ha.below hb) hf
 have HEA : Hid (AM.checkN l = 0 -> ∀ W,Below w.heap.size w W -> Calls Tryz.prog 63 #[.agg #[va,.slice ao hs.length cap,.int .i64 en]] W fun e w'=>e = .returned (.bool (LM.forEachB l hs)) /\ Below W.heap.size W w'):=fun hc W hb=>forEach_any l hs en va ao cap W (ha.below hb) hc (h.below hb) hfs.1 hcap
 have HSH : Hid (∀ W,Below w.heap.size w W -> Calls Tryz.prog 64 #[.slice ao hs.length cap] W fun e w'=>e = .returned (.bool (LM.sheetsB hs)) /\ Below W.heap.size W w'):=fun W hb=>rightSheets_any hs ao cap W (h.below hb) hfs
 have HEN : Hid (AM.checkN l = 0 -> ∀ W,Below w.heap.size w W -> Calls Tryz.prog 65 #[.agg #[va,.slice ao hs.length cap,.int .i64 en]] W fun e w'=>e = .returned (.bool (LM.entB l en)) /\ Below W.heap.size W w'):=fun hc W hb=>rightEntry_any l va _ en W (ha.below hb) hf hc he (isSlice ha) ⟨_,_,_,rfl⟩
 have HR : Hid (LM.checkL l hs en = if AM.checkN l = 0 then (if !LM.anyZeroB l && (LM.forEachB l hs && (LM.sheetsB hs && LM.entB l en)) then 0 else 1) else AM.checkN l):=rfl
 obtain ⟨aa,na,ca,rfl⟩:=isSlice ha
 clear ha hf h hfs hcap he
 obtain ⟨N,hN⟩ : ∃ N,N = hs.length:=⟨_,rfl⟩
 rw [<- hN] at HEA HSH HEN
 rw [<- hN]
 obtain ⟨z,hz⟩ : ∃ z,z = LM.anyZeroB l:=⟨_,rfl⟩
 rw [<- hz] at HZ HR
 obtain ⟨q,hq⟩ : ∃ q,q = LM.forEachB l hs:=⟨_,rfl⟩
 rw [<- hq] at HEA HR
 obtain ⟨s,hs'⟩ : ∃ s,s = LM.sheetsB hs:=⟨_,rfl⟩
 rw [<- hs'] at HSH HR
 obtain ⟨r,hr⟩ : ∃ r,r = LM.entB l en:=⟨_,rfl⟩
 rw [<- hr] at HEN HR
 obtain ⟨C,hC⟩ : ∃ C,C = AM.checkN l:=⟨_,rfl⟩
 rw [<- hC] at HCK HEA HEN HR
 rw [HR.out]
 clear hN hz hq hs' hr hC HR
 have HB:=hideC ((Below.refl w.heap.size w).alloc (Nat.le_refl _) (.cells #[.slice aa na ca,.slice ao N cap,.int .i64 en] 25))
 have BX:=hideC (B.new w #[.slice aa na ca,.slice ao N cap,.int .i64 en] 25)
 by_cases hc : C = 0
 · subst hc
   have HEA1:=hideC (HEA.out rfl)
   have HEN1:=hideC (HEN.out rfl)
   clear HEA HEN
   rw [if_pos rfl]
   cases z <;> cases q <;> cases s <;> cases r
   all_goals
    go_enter Tryz.func21,Tryz.ntmps21
    go_wp2_with (first
     | (go_at_call 61;refine (HCK.out _ HB.out).mono ?_;rintro e w1 ⟨rfl,hb⟩;have HB:=hideC (HB.out.trans (hb.mono HB.out.size));have BX:=hideC (B.below BX.out hb (B.isLt BX.out));have x0:=B.cell BX.out 0 rfl;have x1:=B.cell BX.out 1 rfl;have x2:=B.cell BX.out 2 rfl;clear hb)
     | (go_at_call 62;refine (HZ.out _ HB.out).mono ?_;rintro e w1 ⟨rfl,hb⟩;have HB:=hideC (HB.out.trans (hb.mono HB.out.size));have BX:=hideC (B.below BX.out hb (B.isLt BX.out));have x0:=B.cell BX.out 0 rfl;have x1:=B.cell BX.out 1 rfl;have x2:=B.cell BX.out 2 rfl;clear hb)
     | (go_at_call 63;refine (HEA1.out _ HB.out).mono ?_;rintro e w1 ⟨rfl,hb⟩;have HB:=hideC (HB.out.trans (hb.mono HB.out.size));have BX:=hideC (B.below BX.out hb (B.isLt BX.out));have x0:=B.cell BX.out 0 rfl;have x1:=B.cell BX.out 1 rfl;have x2:=B.cell BX.out 2 rfl;clear hb)
     | (go_at_call 64;refine (HSH.out _ HB.out).mono ?_;rintro e w1 ⟨rfl,hb⟩;have HB:=hideC (HB.out.trans (hb.mono HB.out.size));have BX:=hideC (B.below BX.out hb (B.isLt BX.out));have x0:=B.cell BX.out 0 rfl;have x1:=B.cell BX.out 1 rfl;have x2:=B.cell BX.out 2 rfl;clear hb)
     | (go_at_call 65;refine (HEN1.out _ HB.out).mono ?_;rintro e w1 ⟨rfl,hb⟩;have HB:=hideC (HB.out.trans (hb.mono HB.out.size));clear hb))
    go_ret
    exact ⟨rfl,HB.out⟩
 · have hc' : (C == 0) = false:=by simpa using hc
   rw [if_neg hc]
   go_enter Tryz.func21,Tryz.ntmps21
   go_wp2_with (go_at_call 61;refine (HCK.out _ HB.out).mono ?_;rintro e w1 ⟨rfl,hb⟩;have HB:=hideC (HB.out.trans (hb.mono HB.out.size));clear hb)
   go_ret
   exact ⟨rfl,HB.out⟩
end LW
end Go.Proofs.YtkdigjpejnebkaaGreat
