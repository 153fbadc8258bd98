import Derived.Test.YtpgifpeohlllfaaGreatGJ03
import Derived.Test.YtpgifpeohlllfaaGreatGJ12
import Derived.Test.YtpgifpeohlllfaaGreatGJ08
import Derived.Deep.RegionLaw
import Derived.Test.YtpgifpeohlllfaaGreatGJ04
import Derived.Test.YtpgifpeohlllfaaGreatGJ00
set_option maxHeartbeats 20000000
set_option linter.unusedVariables false
set_option maxRecDepth 100000
set_option linter.unusedSimpArgs false
namespace Go.Proofs.YtpgifpeohlllfaaGreat
namespace AM
open Go.RowKit
def mark (p : Int) (z : Bool) : Int:=1 + 2 * p + (if z then 8 else 0)
def enc (s : St) : Int:=if s.m then mark s.p s.z else 0
def rowB (G : Nat -> Int) : Nat -> List Value
 | 0=>[]
 | m + 1=>rowB G m ++ [.int .i64 (G m)]
def cellsB (G : Nat -> Int) : Array Value:=(rowB G 256).toArray
def updI (G : Nat -> Int) (n : Nat) (x : Int) : Nat -> Int:=fun k=>if k = n then x else G k
theorem rowB_length (G : Nat -> Int) : ∀ m,(rowB G m).length = m
 | 0=>rfl
 | m + 1=>by simp [rowB,rowB_length G m]
theorem cellsB_size (G : Nat -> Int) : (cellsB G).size = 256:=by simp [cellsB,rowB_length]
theorem rowB_get (G : Nat -> Int) (n : Nat) : ∀ m,n < m -> (rowB G m)[n]? = some (.int .i64 (G n))
 | 0,h=>by omega
 | m + 1,h=>by
  simp only [rowB]
  by_cases e : n = m
  · subst e
    rw [List.getElem?_append_right (by rw [rowB_length];omega),rowB_length]
    simp
  · rw [List.getElem?_append_left (by rw [rowB_length];omega)]
    exact rowB_get G n m (by omega)
theorem cellsB_get (G : Nat -> Int) (n : Nat) (hn : n < 256) : (cellsB G)[n]? = some (.int .i64 (G n)):=by
 unfold cellsB
 rw [List.getElem?_toArray]
 exact rowB_get G n 256 hn
theorem rowB_congr (F G : Nat -> Int) : ∀ m,(∀ k,k < m -> F k = G k) -> rowB F m = rowB G m
 | 0,_=>rfl
 | m + 1,h=>by simp only [rowB];rw [rowB_congr F G m (fun k hk=>h k (by omega)),h m (by omega)]
theorem rowB_set (G : Nat -> Int) (n : Nat) (x : Int) : ∀ m,n < m -> (rowB G m).set n (.int .i64 x) = rowB (updI G n x) m
 | 0,h=>by omega
 | m + 1,h=>by
  simp only [rowB]
  by_cases e : n = m
  · subst e
    rw [List.set_append_right _ _ (by rw [rowB_length];omega),rowB_length,rowB_congr (updI G n x) G n (fun k hk=>by simp [updI];omega)]
    simp [updI]
  · rw [List.set_append_left _ _ (by rw [rowB_length];omega),rowB_set G n x m (by omega)]
    congr 2
    simp [updI];intro h';exact absurd h'.symm e
theorem cellsB_set (G : Nat -> Int) (n : Nat) (x : Int) (hn : n < 256) : (cellsB G).setIfInBounds n (.int .i64 x) = cellsB (updI G n x):=by
 unfold cellsB
 rw [<- rowB_set G n x 256 hn]
 simp only [List.setIfInBounds_toArray]
theorem rowB_one (G : Nat -> Int) : ∀ m,∀ v ∈ rowB G m,v.oneCell' = true
 | 0,v,h=>by simp [rowB] at h
 | m + 1,v,h=>by
  simp only [rowB,List.mem_append,List.mem_singleton] at h
  rcases h with h | rfl
  · exact rowB_one G m v h
  · rfl
theorem cellsB_one (G : Nat -> Int) : (cellsB G).all (·.oneCell') = true:=by
 rw [Array.all_eq_true_iff_forall_mem]
 intro v hv
 exact rowB_one G 256 v (by simpa [cellsB] using hv)
theorem updI_enc (F : Nat -> St) (n : Nat) (s : St) : updI (fun k=>enc (F k)) n (enc s) = fun k=>enc (upd F n s k):=by
 funext k;simp only [updI,upd];split <;> rfl
theorem enc_zero (s : St) (h : 0 <= s.p) : (enc s = 0) ↔ s.m = false:=by
 unfold enc mark
 cases s.m
 · simp
 · simp only [if_true]
   cases s.z <;> simp <;> omega
theorem enc_inj (s t : St) (hs : 0 <= s.p /\ s.p <= 3) (ht : 0 <= t.p /\ t.p <= 3) (hm : s.m = true) : (enc t = enc s) ↔ stEq s t = true:=by
 unfold enc mark stEq
 rw [hm]
 cases t.m
 · simp
   cases s.z <;> simp <;> omega
 · cases s.z <;> cases t.z <;> simp <;> omega
theorem enc_prot (s : St) (hs : 0 <= s.p /\ s.p <= 3) (hm : s.m = true) : (enc s - 1) % 8 / 2 = s.p /\ (decide (8 <= enc s - 1) = s.z) /\ 1 <= enc s /\ enc s <= 15:=by
 unfold enc mark
 rw [hm]
 simp only [if_true]
 cases s.z
 · simp;omega
 · simp;omega
def eachTo (l : List Ar) : Nat -> Bool
 | 0=>true
 | k + 1=>eachTo l k && (pagesB (at_ l k).page (at_ l k).pages && protB (at_ l k).prot)
def riseAt (l : List Ar) (i : Nat) : Bool:=i == 0 || decide ((at_ l (i - 1)).last0 <= (at_ l i).page)
def riseTo (l : List Ar) : Nat -> Bool
 | 0=>true
 | k + 1=>riseTo l k && riseAt l k
theorem riseTo_false (l : List Ar) : ∀ (k n : Nat),k <= n -> riseTo l k = false -> riseTo l n = false
 | k, 0, h, hk => by obtain rfl : k = 0 := by omega
                     exact hk
 | k,n + 1,h,hk=>by
  by_cases e : k = n + 1
  · subst e;exact hk
  · simp [riseTo,riseTo_false l k n (by omega) hk]
theorem follow_rise (a b : Ar) (h : followB a b = true) : a.last0 <= b.page:=by
 unfold followB at h
 split at h
 · omega
 · simp at h;omega
theorem good_each (l : List Ar) : ∀ k,goodTo l k = true -> eachTo l k = true /\ riseTo l k = true
 | 0,_=>⟨rfl,rfl⟩
 | k + 1,h=>by
  simp only [goodTo,Bool.and_eq_true] at h
  have ih:=good_each l k h.1
  have hk:=h.2
  simp only [okAt,Bool.and_eq_true,Bool.or_eq_true,beq_iff_eq] at hk
  refine ⟨by simp [eachTo,ih.1,hk.1.1,hk.1.2],?_⟩
  simp only [riseTo,ih.2,riseAt,Bool.true_and,Bool.or_eq_true,beq_iff_eq,decide_eq_true_eq]
  rcases hk.2 with e | e
  · exact .inl e
  · exact .inr (follow_rise _ _ e)
theorem each_at (l : List Ar) : ∀ k,eachTo l k = true -> ∀ i,i < k -> pagesB (at_ l i).page (at_ l i).pages = true /\ protB (at_ l i).prot = true
 | 0,_,i,hi=>by omega
 | k + 1,h,i,hi=>by
  simp only [eachTo,Bool.and_eq_true] at h
  by_cases e : i = k
  · subst e;exact h.2
  · exact each_at l k h.1 i (by omega)
theorem each_fine (l : List Ar) (n : Nat) (h : eachTo l n = true) : ∀ k,k <= n -> (spreadTo l k 0).m = false /\ (∀ m,(spreadTo l k m).m = false -> spreadTo l k m = off) /\ (∀ m,0 <= (spreadTo l k m).p /\ (spreadTo l k m).p <= 3)
 | 0,_=>⟨rfl,fun n _=>rfl,fun n=>by simp [spreadTo,off]⟩
 | k + 1,hk=>by
  have ih:=each_fine l n h k (by omega)
  have ho:=each_at l n h k (by omega)
  have h1:=(pagesB_iff _ _).1 ho.1
  have h2 : 0 <= (at_ l k).prot /\ (at_ l k).prot <= 3:=of_decide_eq_true ho.2
  refine ⟨?_,fun n=>?_,fun n=>?_⟩
  · simp only [spreadTo,layTo];rw [if_neg (by omega)];exact ih.1
  · simp only [spreadTo,layTo]
    split
    · intro h;simp at h
    · exact ih.2.1 n
  · simp only [spreadTo,layTo]
    split
    · exact h2
    · exact ih.2.2 n
theorem fine_each (l : List Ar) (h : eachTo l l.length = true) : Fine (spreadN l):=by
 have h:=each_fine l l.length h l.length (Nat.le_refl _)
 exact ⟨h.1,h.2.1,h.2.2⟩
theorem look_m (G : List Ar) (n : Nat) : (look G n).m = (findFrom G n).2:=by
 unfold look
 by_cases c : (findFrom G n).2 = true
 · simp [c]
 · simp [off,show (findFrom G n).2 = false by simpa using c]
theorem okNext_le (G : List Ar) (a : Ar) (h : okNext G a = true) (hne : 0 < G.length) : (lastOf G).last0 <= a.page:=by
 simp only [okNext,Bool.and_eq_true,Bool.or_eq_true,beq_iff_eq] at h
 rcases h.2 with e | e
 · omega
 · exact follow_rise _ _ e
theorem okNext_pages (G : List Ar) (a : Ar) (h : okNext G a = true) : 1 <= a.page /\ 1 <= a.pages /\ a.pages <= 256 - a.page:=by
 simp only [okNext,Bool.and_eq_true] at h
 exact (pagesB_iff _ _).1 h.1.1
theorem miss_from (G : List Ar) (a : Ar) (hg : good G = true) (h : okNext G a = true) (n : Nat) (hn : a.page <= (n : Int)) : (findFrom G n).2 = false:=by
 by_cases c : (findFrom G n).2 = true
 · have hb:=good_bound _ G rfl hg n c
   have hne : 0 < G.length:=by
    rcases Nat.eq_zero_or_pos G.length with e | e
    · have e' : G = []:=List.eq_nil_of_length_eq_zero e
      subst e';simp [findFrom] at c
    · exact e
   have:=okNext_le G a h hne
   omega
 · simpa using c
theorem look_last (G : List Ar) (a : Ar) (hg : good G = true) (h : okNext G a = true) (n : Nat) (h1 : a.page <= (n : Int)) (h2 : (n : Int) < a.page + a.pages) : look (G ++ [a]) n = ⟨true,a.prot,a.zero⟩:=by
 rw [look_snoc,if_neg (by rw [miss_from G a hg h n h1];simp),if_pos ((hit_iff a n).2 ⟨h1,h2⟩)]
theorem look_ahead (G : List Ar) (a : Ar) (n : Nat) (h1 : ¬ (a.page <= (n : Int) /\ (n : Int) < a.page + a.pages)) : look (G ++ [a]) n = look G n:=by
 rw [look_snoc]
 by_cases c : (findFrom G n).2 = true
 · rw [if_pos c]
 · rw [if_neg c,if_neg (fun e=>h1 ((hit_iff a n).1 e))]
   unfold look
   simp [show (findFrom G n).2 = false by simpa using c]
theorem good_unique : ∀ (m : Nat) (G H : List Ar),G.length = m -> good G = true -> good H = true -> (∀ n : Nat,look G n = look H n) -> G = H
 | 0,G,H,hm,hG,hH,he=>by
  have e : G = []:=List.eq_nil_of_length_eq_zero hm
  subst e
  rcases List.eq_nil_or_concat H with rfl | ⟨H',b,rfl⟩
  · rfl
  · rw [List.concat_eq_append] at *
    rw [good_snoc,Bool.and_eq_true] at hH
    have hb:=okNext_pages _ _ hH.2
    have h1:=look_last H' b hH.1 hH.2 b.page.toNat (by omega) (by omega)
    rw [<- he] at h1
    have:=congrArg St.m h1
    simp [look,findFrom,off] at this
 | m + 1,G,H,hm,hG,hH,he=>by
  rcases List.eq_nil_or_concat G with rfl | ⟨G',a,rfl⟩
  · simp at hm
  · rw [List.concat_eq_append] at *
    have hG0:=hG
    rw [good_snoc,Bool.and_eq_true] at hG
    have ha:=okNext_pages _ _ hG.2
    rcases List.eq_nil_or_concat H with rfl | ⟨H',b,rfl⟩
    · have h1:=look_last G' a hG.1 hG.2 a.page.toNat (by omega) (by omega)
      rw [he] at h1
      have:=congrArg St.m h1
      simp [look,findFrom,off] at this
    · rw [List.concat_eq_append] at *
      have hH0:=hH
      rw [good_snoc,Bool.and_eq_true] at hH
      have hb:=okNext_pages _ _ hH.2
      have up : ∀ (X Y : List Ar) (x y : Ar),good X = true -> okNext X x = true -> good (Y ++ [y]) = true -> (∀ n : Nat,look (X ++ [x]) n = look (Y ++ [y]) n) -> 1 <= x.page -> 1 <= x.pages -> x.page + x.pages <= y.page + y.pages:=by
       intro X Y x y hX hx hY hxy h1 h2
       have e1:=look_last X x hX hx (x.page + x.pages - 1).toNat (by omega) (by omega)
       rw [hxy] at e1
       have e2 : (findFrom (Y ++ [y]) ((x.page + x.pages - 1).toNat : Nat)).2 = true:=by rw [<- look_m,e1]
       have e3:=(good_bound _ _ rfl hY _ e2).2
       rw [lastOf_snoc] at e3
       unfold Ar.last0 at e3
       omega
      have hend : a.page + a.pages = b.page + b.pages:=Int.le_antisymm (up G' H' a b hG.1 hG.2 hH0 he ha.1 ha.2.1) (up H' G' b a hH.1 hH.2 hG0 (fun n=>(he n).symm) hb.1 hb.2.1)
      have hl1:=look_last G' a hG.1 hG.2 (a.page + a.pages - 1).toNat (by omega) (by omega)
      have hl2:=look_last H' b hH.1 hH.2 (a.page + a.pages - 1).toNat (by omega) (by omega)
      rw [he,hl2] at hl1
      have hpr : b.prot = a.prot:=congrArg St.p hl1
      have hze : b.zero = a.zero:=congrArg St.z hl1
      have beg : ∀ (X Y : List Ar) (x y : Ar),good X = true -> okNext X x = true -> good Y = true -> okNext Y y = true -> (∀ n : Nat,look (X ++ [x]) n = look (Y ++ [y]) n) -> x.page + x.pages = y.page + y.pages -> y.prot = x.prot -> y.zero = x.zero -> 1 <= x.page -> 1 <= y.pages -> y.page <= x.page:=by
       intro X Y x y hX hx hY hy hxy hen hp hz h1 h2
       by_cases c : y.page <= x.page
       · exact c
       · exfalso
         have e1:=look_last X x hX hx (y.page - 1).toNat (by omega) (by omega)
         rw [hxy,look_ahead Y y _ (by omega)] at e1
         have e2 : (findFrom Y ((y.page - 1).toNat : Nat)).2 = true:=by rw [<- look_m,e1]
         have e3:=(good_bound _ _ rfl hY _ e2).2
         have hne : 0 < Y.length:=by
          rcases Nat.eq_zero_or_pos Y.length with e | e
          · have e' : Y = []:=List.eq_nil_of_length_eq_zero e
            subst e';simp [findFrom] at e2
          · exact e
         have e4:=okNext_le Y y hy hne
         have e5 : (lastOf Y).last0 = y.page:=by omega
         have hfo:=hy
         simp only [okNext,Bool.and_eq_true,Bool.or_eq_true,beq_iff_eq] at hfo
         have hfo2 : followB (lastOf Y) y = true:=by
          rcases hfo.2 with e | e
          · omega
          · exact e
         unfold followB at hfo2
         rw [if_pos e5.symm] at hfo2
         rcases List.eq_nil_or_concat Y with rfl | ⟨Y',z,rfl⟩
         · simp at hne
         · rw [List.concat_eq_append] at *
           rw [lastOf_snoc] at e5 hfo2
           unfold Ar.last0 at e5
           have hYs:=hY
           rw [good_snoc,Bool.and_eq_true] at hYs
           have hzp:=okNext_pages _ _ hYs.2
           have e6:=look_last Y' z hYs.1 hYs.2 (y.page - 1).toNat (by omega) (by omega)
           rw [e6] at e1
           have q1 : z.prot = x.prot:=congrArg St.p e1
           have q2 : z.zero = x.zero:=congrArg St.z e1
           rw [hp,hz,q1,q2] at hfo2
           simp at hfo2
      have hbeg : a.page = b.page:=Int.le_antisymm (beg H' G' b a hH.1 hH.2 hG.1 hG.2 (fun n=>(he n).symm) hend.symm hpr.symm hze.symm hb.1 ha.2.1) (beg G' H' a b hG.1 hG.2 hH.1 hH.2 he hend hpr hze ha.1 hb.2.1)
      have hab : a = b:=by
       cases a;cases b
       simp only at hbeg hend hpr hze
       subst hbeg;subst hpr;subst hze
       congr 1
       omega
      subst hab
      have ih:=good_unique m G' H' (by simpa using hm) hG.1 hH.1 (fun n=>by
       by_cases c : a.page <= (n : Int)
       · have x1:=miss_from G' a hG.1 hG.2 n c
         have x2:=miss_from H' a hH.1 hH.2 n c
         unfold look
         simp [x1,x2]
       · have x1:=look_ahead G' a n (by omega)
         have x2:=look_ahead H' a n (by omega)
         rw [<- x1,<- x2];exact he n)
      rw [ih]
theorem gather_spread (l : List Ar) (hc : checkN l = 0) : gatherN (spreadN l) = l:=by
 have hF:=fine_spread l hc
 have hg:=good_of_check l hc
 refine good_unique _ _ _ rfl (gather_good _ hF) hg (fun n=>?_)
 rw [spread_look l _ l rfl hg n]
 by_cases hn : n < 256
 · exact gather_look _ hF n hn
 · have:=(gather_inv _ hF 256 (Nat.le_refl _)).look n
   rw [if_neg hn] at this
   rw [show look (gatherN (spreadN l)) n = off from this]
   have e : look l n = off:=by
    unfold look
    by_cases c : (findFrom l n).2 = true
    · exfalso
      have hb:=(good_bound _ l rfl hg n c).2
      have hne : 0 < l.length:=by
       rcases Nat.eq_zero_or_pos l.length with e | e
       · have e' : l = []:=List.eq_nil_of_length_eq_zero e
         subst e';simp [findFrom] at c
       · exact e
      have ho:=okAt_pages l (l.length - 1) (good_pages l hc _ (by omega))
      unfold lastOf Ar.last0 at hb
      omega
    · simp [show (findFrom l n).2 = false by simpa using c]
   rw [<- spread_look l _ l rfl hg n,e]
end AM
namespace AW
open Go.RowKit
theorem within_any (n a b : Int) (w : World) : Calls Tryz.prog 44 #[.int .i64 n,.int .i64 a,.int .i64 b] w fun e w'=>e = .returned (.bool (decide (a <= n /\ n <= b))) /\ w = w':=by
 by_cases h1 : a <= n
 · by_cases h2 : n <= b
   · rw [show decide (a <= n /\ n <= b) = true from decide_eq_true ⟨h1,h2⟩]
     go_enter Tryz.func44,Tryz.ntmps44
     go_wp2
     go_ret
     exact ⟨rfl,rfl⟩
   · have d : decide (n <= b) = false:=decide_eq_false h2
     rw [show decide (a <= n /\ n <= b) = false from decide_eq_false (by omega)]
     go_enter Tryz.func44,Tryz.ntmps44
     go_wp2
     go_ret
     exact ⟨rfl,rfl⟩
 · have d : decide (a <= n) = false:=decide_eq_false h1
   rw [show decide (a <= n /\ n <= b) = false from decide_eq_false (by omega)]
   go_enter Tryz.func44,Tryz.ntmps44
   go_wp2
   go_ret
   exact ⟨rfl,rfl⟩
theorem mark_any (p : Int) (z : Bool) (w : World) (h : 0 <= p /\ p <= 3) : Calls Tryz.prog 127 #[.int .i64 p,.bool z] w fun e w'=>e = .returned (.int .i64 (AM.mark p z)) /\ w = w':=by
 cases z
 · go_enter Tryz.func127,Tryz.ntmps127
   go_wp2
   go_ret
   exact ⟨ret_int (by simp [AM.mark]),rfl⟩
 · go_enter Tryz.func127,Tryz.ntmps127
   go_wp2
   go_ret
   exact ⟨ret_int (by simp [AM.mark]),rfl⟩
theorem zero42 : (Tryz.prog.info? 177).map (fun i=>(i.zero,i.size)) = some (some (.agg (AM.cellsB (fun _=>0))),256):=by kernel_rfl
theorem size42 : (Tryz.prog.info? 177).map (·.size) = some 256:=(zero_of_info zero42).2
theorem zv42 (w : World) : (zeroValue 177).run Tryz.prog w = .ok (.agg (AM.cellsB (fun _=>0))) w:=(zero_of_info zero42).1 w
def bd (F : Nat -> AM.St) : Array Value:=AM.cellsB (fun n=>AM.enc (F n))
theorem bd_size (F : Nat -> AM.St) : (bd F).size = 256:=AM.cellsB_size _
def Board (l : List AM.Ar) (C : Array Value) : Prop:=C.size = 256 /\ C.all (·.oneCell') = true /\ (AM.riseTo l l.length = true -> C = bd (AM.spreadN l))
set_option maxHeartbeats 2000000 in
theorem boardOf_some (l : List AM.Ar) (b off cap : Nat) (w : World) (hl : AM.Lie w b off l) (he : AM.eachTo l l.length = true) (hn : l.length <= 255) :
  Calls Tryz.prog 126 #[.slice (some ⟨b,off,none⟩) l.length cap] w fun e w'=>∃ C,e = .returned (.tuple #[.agg C,.bool (AM.riseTo l l.length)]) /\ Board l C /\ Below w.heap.size w w':=by
 have HE : Hid (AM.eachTo l l.length = true):=he
 clear he
 obtain ⟨Z,hZ⟩ : ∃ Z,Z = AM.cellsB (fun _=>0):=⟨_,rfl⟩
 have hz:=zv42
 rw [<- hZ] at hz
 have HZ : Hid (Z = AM.cellsB (fun _=>0)):=hZ
 have hZs : Z.size = 256:=by rw [hZ];exact AM.cellsB_size _
 clear hZ
 go_enter Tryz.func126,Tryz.ntmps126
 go_wp2
 go_loopw [5,6] (fun la i wr=>∃ (k : Nat) (t : Int),k <= l.length /\ i = .int .i64 k /\ la = .int .i64 t /\ (k = 0 /\ t = 0 ∨ 0 < k /\ t = (AM.at_ l (k - 1)).page + (AM.at_ l (k - 1)).pages - 1) /\ AM.riseTo l k = true /\ wr.heap[w.heap.size]? = some (.cells Z 177 (0,0)) /\ wr.heap[w.heap.size + 1]? = some (.cells (bd (AM.spreadTo l k)) 177 (0,0)) /\ Below w.heap.size w wr) (fun _ i _=>l.length - (intOf i).toNat)
 case atStart =>
  refine ⟨0,0,by omega,rfl,rfl,.inl ⟨rfl,rfl⟩,rfl,B.alloc (B.new w Z 177) _,?_,((Below.refl _ _).alloc (Nat.le_refl _) _).alloc (by simp) _⟩
  have e : bd (AM.spreadTo l 0) = Z:=by rw [HZ.out];rfl
  rw [e]
  have:=B.new (w.alloc (.cells Z 177)) Z 177
  simpa using this
 case round =>
  obtain ⟨k,t,hk,rfl,rfl,hlast,hri,hR,hA,hb⟩:=hrel
  have HR : Hid (wr.heap[w.heap.size]? = some (.cells Z 177 (0,0))):=hR
  have HA : Hid (wr.heap[w.heap.size + 1]? = some (.cells (bd (AM.spreadTo l k)) 177 (0,0))):=hA
  have HB : Hid (Below w.heap.size w wr):=hb
  have HRI : Hid (AM.riseTo l k = true):=hri
  have HL : Hid (k = 0 /\ t = 0 ∨ 0 < k /\ t = (AM.at_ l (k - 1)).page + (AM.at_ l (k - 1)).pages - 1):=hlast
  have hsz : w.heap.size + 2 <= wr.heap.size:=B.isLt hA
  by_cases hlt : k < l.length
  · obtain ⟨c0,c1,c2,c3⟩:=hl.below hb k hlt
    have hek:=AM.each_at l _ HE.out k hlt
    have hbk:=(AM.pagesB_iff _ _).1 hek.1
    have hpr : 0 <= (AM.at_ l k).prot /\ (AM.at_ l k).prot <= 3:=of_decide_eq_true hek.2
    have hrk : Hid (AM.riseAt l k = decide (t < (AM.at_ l k).page)):=by
     show _ = _
     unfold AM.riseAt
     rcases HL.out with ⟨h1,h2⟩ | ⟨h1,h2⟩
     · rw [h1,h2]
       rw [h1] at hbk
       simp
       omega
     · have hk0 : (k == 0) = false:=by simp;omega
       rw [hk0,Bool.false_or]
       unfold AM.Ar.last0
       rw [h2]
       exact decide_eq_decide.2 (by omega)
    obtain ⟨a,ha⟩ : ∃ a,a = AM.at_ l k:=⟨_,rfl⟩
    rw [<- ha] at c0 c1 c2 c3 hbk hrk hpr
    have HAr : Hid (a = AM.at_ l k):=ha
    clear ha hR hA hb hlast hri hek
    have hkl : (k : Int) < (l.length : Int):=by omega
    by_cases hup : t < a.page
    · have hup' : ¬ a.page <= t:=by omega
      obtain ⟨wo,hwo⟩ : ∃ wo : World,wo = wr:=⟨_,rfl⟩
      subst hwo
      go_wp2
      go_loopw [8] (fun tt wi=>∃ n : Nat,a.page <= (n : Int) /\ (n : Int) <= a.page + a.pages /\ tt = .int .i64 n /\ wi.heap[w.heap.size]? = some (.cells Z 177 (0,0)) /\ wi.heap[w.heap.size + 1]? = some (.cells (bd (AM.layTo (AM.spreadTo l k) a n)) 177 (0,0)) /\ wi.heap[wo.heap.size]? = some (.cells #[.int .i64 a.page,.int .i64 a.pages,.int .i64 a.prot,.bool a.zero] 47 (0,0)) /\ Below w.heap.size w wi) (fun tt _=>(a.page + a.pages - intOf tt).toNat)
      case atStart =>
       refine ⟨a.page.toNat,by omega,by omega,by rw [Int.toNat_of_nonneg (by omega)],B.alloc HR.out _,?_,B.new _ _ _,HB.out.alloc HB.out.size _⟩
       rw [Int.toNat_of_nonneg (by omega),AM.layTo_begin]
       exact B.alloc HA.out _
      case round =>
       obtain ⟨n,hn1,hn2,rfl,iR,iA,iX,ib⟩:=hrel
       have IR : Hid (wr.heap[w.heap.size]? = some (.cells Z 177 (0,0))):=iR
       have IA : Hid (wr.heap[w.heap.size + 1]? = some (.cells (bd (AM.layTo (AM.spreadTo l k) a n)) 177 (0,0))):=iA
       have IB : Hid (Below w.heap.size w wr):=ib
       have x0:=B.cell iX 0 rfl
       have x1:=B.cell iX 1 rfl
       have x2:=B.cell iX 2 rfl
       have x3:=B.cell iX 3 rfl
       have IX : Hid (wr.heap[wo.heap.size]? = some (.cells #[.int .i64 a.page,.int .i64 a.pages,.int .i64 a.prot,.bool a.zero] 47 (0,0))):=iX
       clear iR iX ib
       by_cases hin : (n : Int) < a.page + a.pages
       · have hin' : (n : Int) <= a.page + a.pages - 1:=by omega
         have z0:=B.cell iA n (AM.cellsB_get _ n (by omega))
         have zf:=B.free iA
         have hn256 : (n : Int) < 256:=by omega
         clear iA
         go_wp2_with (first | (go_at_call 127;refine (mark_any _ _ _ hpr).mono ?_;rintro e w' ⟨rfl,rfl⟩))
         go_roundw
         case rel =>
          refine ⟨n + 1,by omega,by omega,by go_num,B.other IR.out _ _ _ (by omega),?_,B.other IX.out _ _ _ (by omega),IB.out.setCell (by simp) _⟩
          have h:=B.set IA.out n (.int .i64 (AM.mark a.prot a.zero))
          have e : (bd (AM.layTo (AM.spreadTo l k) a n)).setIfInBounds n (.int .i64 (AM.mark a.prot a.zero)) = bd (AM.layTo (AM.spreadTo l k) a ((n : Int) + 1)):=by
           unfold bd
           rw [AM.cellsB_set _ n _ (by omega),<- AM.layTo_step _ _ _ hn1]
           congr 1
           exact AM.updI_enc (AM.layTo (AM.spreadTo l k) a n) n ⟨true,a.prot,a.zero⟩
          rw [e] at h
          rw [show ((n + 1 : Nat) : Int) = (n : Int) + 1 from by omega]
          exact h
         case measure=>simp [intOf];omega
       · have hin' : ¬ (n : Int) <= a.page + a.pages - 1:=by omega
         have hE2 : Hid ((n : Int) = a.page + a.pages):=by show _ = _;omega
         clear iA
         go_wp2
         go_roundw
         case rel =>
          refine ⟨k + 1,a.page + a.pages - 1,by omega,by go_num,rfl,.inr ⟨by omega,?_⟩,?_,IR.out,?_,IB.out⟩
          · rw [Nat.add_sub_cancel,<- HAr.out]
          · simp only [AM.riseTo,HRI.out,hrk.out,Bool.true_and]
            exact decide_eq_true hup
          · have h:=IA.out
            rw [hE2.out] at h
            show _ = some (Obj.cells (bd (AM.layTo (AM.spreadTo l k) (AM.at_ l k) (AM.at_ l k).last0)) 177 (0,0))
            rw [<- HAr.out]
            exact h
         case measure=>simp [intOf];omega
    · have hup' : a.page <= t:=by omega
      have hbad : Hid (AM.riseTo l l.length = false):=by
       show _ = _
       have e : AM.riseTo l (k + 1) = false:=by simp only [AM.riseTo,HRI.out,hrk.out,Bool.true_and];exact decide_eq_false hup
       exact AM.riseTo_false l (k + 1) l.length (by omega) e
      have hA2 : Hid ((wr.alloc (.cells #[.int .i64 a.page,.int .i64 a.pages,.int .i64 a.prot,.bool a.zero] 47)).heap[w.heap.size + 1]? = some (.cells (bd (AM.spreadTo l k)) 177 (0,0))):=B.alloc HA.out _
      have hR2 : Hid ((wr.alloc (.cells #[.int .i64 a.page,.int .i64 a.pages,.int .i64 a.prot,.bool a.zero] 47)).heap[w.heap.size]? = some (.cells Z 177 (0,0))):=B.alloc HR.out _
      have hB2 : Hid (Below w.heap.size w (wr.alloc (.cells #[.int .i64 a.page,.int .i64 a.pages,.int .i64 a.prot,.bool a.zero] 47))):=HB.out.alloc HB.out.size _
      obtain ⟨D,hD⟩ : ∃ D,D = bd (AM.spreadTo l k):=⟨_,rfl⟩
      have hDs : D.size = 256:=by rw [hD];exact bd_size _
      have hDo : D.all (·.oneCell') = true:=by rw [hD];exact AM.cellsB_one _
      rw [<- hD] at hA2
      clear hD
      go_wp2_with (first | (refine wpList_load_row rfl 177 _ rfl (w.heap.size + 1) rfl 177 D (0,0) _ hA2.out Tryz.underlying177 rfl (by rw [hDs];exact size42) ?_) | (refine wpList_store_row rfl 177 _ _ rfl w.heap.size D rfl rfl 177 Z hR2.out (by rw [hDs];exact size42) (by rw [hZs,hDs]) hDo ?_))
      have hfin:=setRow_heap _ _ _ D 177 (0,0) hR2.out
      have hld:=run_loadVar_row (P:=Tryz.prog) _ _ 177 177 D (0,0) _ hfin Tryz.underlying177 rfl (by rw [hDs];exact size42)
      refine bodyPost_ret (v:=.tuple #[.agg D,.bool false]) ?_ rfl ⟨D,by rw [hbad.out],⟨hDs,hDo,fun h=>(by rw [hbad.out] at h;cases h)⟩,below_setRow hB2.out (Nat.le_refl _) _⟩
      rw [results_cell_tmp rfl]
      simp [asAddr,Result.andThen,hld]
  · obtain rfl : k = l.length:=by omega
    obtain ⟨D,hD⟩ : ∃ D,D = bd (AM.spreadTo l l.length):=⟨_,rfl⟩
    have hDs : D.size = 256:=by rw [hD];exact bd_size _
    have hDo : D.all (·.oneCell') = true:=by rw [hD];exact AM.cellsB_one _
    have HD : Hid (D = bd (AM.spreadTo l l.length)):=hD
    rw [<- hD] at HA
    clear hD hR hA hb hlast hri
    go_wp2_with (first | (refine wpList_load_row rfl 177 _ rfl (w.heap.size + 1) rfl 177 D (0,0) _ HA.out Tryz.underlying177 rfl (by rw [hDs];exact size42) ?_) | (refine wpList_store_row rfl 177 _ _ rfl w.heap.size D rfl rfl 177 Z HR.out (by rw [hDs];exact size42) (by rw [hZs,hDs]) hDo ?_))
    have hfin:=setRow_heap _ _ _ D 177 (0,0) HR.out
    have hld:=run_loadVar_row (P:=Tryz.prog) _ _ 177 177 D (0,0) _ hfin Tryz.underlying177 rfl (by rw [hDs];exact size42)
    refine bodyPost_ret (v:=.tuple #[.agg D,.bool true]) ?_ rfl ⟨D,by rw [HRI.out],⟨hDs,hDo,fun _=>HD.out⟩,below_setRow HB.out (Nat.le_refl _) _⟩
    rw [results_cell_tmp rfl]
    simp [asAddr,Result.andThen,hld]
end AW
namespace LW
open Go.RowKit
open W (hideC)
set_option maxHeartbeats 3000000 in
theorem sheetFine_any (s : LM.Sh) (w : World) (h : LM.HasF w s.ao s.fixes) (hf : LM.FitH s) :
  Calls Tryz.prog 89 #[.agg (LM.cellsH s)] w fun e w'=>e = .returned (.bool (LM.sheetB s)) /\ Below w.heap.size w w':=by
 obtain ⟨f1,f2,f3,f4⟩:=hf
 obtain ⟨pg,dt,fs,ao,cap⟩:=s
 simp only at f1 f2 f3 f4
 unfold M.I64 at f1
 unfold M.Short at f2 f3
 simp only [LM.cellsH]
 have hdl : dt.size <= maxLen:=by unfold maxLen;omega
 have F4:=hideC f4
 have HH:=hideC h
 clear f4 h
 have HB:=hideC ((Below.refl w.heap.size w).alloc (Nat.le_refl _) (.cells #[.int .i64 pg,.string dt,.slice ao fs.length cap] 50))
 have BX:=hideC (B.new w #[.int .i64 pg,.string dt,.slice ao fs.length cap] 50)
 by_cases h1 : 1 <= pg /\ pg <= 255
 · have d1 : decide (1 <= pg /\ pg <= 255) = true:=decide_eq_true h1
   by_cases h3 : dt.size = 16
   · by_cases h4 : fs.length <= 16
     · have h3' : (dt.size : Int) = 16:=by omega
       have h4' : ¬ (16 : Int) < (fs.length : Int):=by omega
       have e : LM.headB ⟨pg,dt,fs,ao,cap⟩ = true:=by
        unfold LM.headB
        exact decide_eq_true ⟨h1.1,h1.2,h3⟩
       have E : Hid (LM.sheetB ⟨pg,dt,fs,ao,cap⟩ = LM.fixesTo fs fs.length):=by
        show _ = _
        unfold LM.sheetB
        rw [e,Bool.true_and]
       clear e h3
       go_enter Tryz.func89,Tryz.ntmps89
       go_wp2_with (go_at_call 44;refine (AW.within_any _ _ _ _).mono ?_;rintro e w' ⟨rfl,rfl⟩;rw [d1])
       go_loopw [4,3] (fun i en wr=>∃ k : Nat,k <= fs.length /\ i = .int .i64 k /\ en = .int .i64 (LM.endTo fs k) /\ LM.fixesTo fs k = true /\ Below w.heap.size w wr /\ wr.heap[w.heap.size]? = some (.cells #[.int .i64 pg,.string dt,.slice ao fs.length cap] 50 (0,0))) (fun i _ _=>fs.length - (intOf i).toNat)
       case atStart=>exact ⟨0,by omega,rfl,rfl,rfl,HB.out,BX.out⟩
       case round =>
        obtain ⟨k,hk,rfl,rfl,hg,hb,hbx⟩:=hrel
        have HG:=hideC hg
        have HBr:=hideC hb
        have BXr:=hideC hbx
        have x2:=B.cell hbx 2 rfl
        clear hg hbx
        by_cases hlt : k < fs.length
        · obtain ⟨b,off,hao,hbl,hlie⟩:=(HH.out.below hb) (by omega)
          subst hao
          obtain ⟨c0,c1⟩:=hlie k hlt
          obtain ⟨g1,g2⟩:=F4.out k hlt
          have hed:=LM.endTo_ge fs k HG.out
          obtain ⟨f,hfe⟩ : ∃ f,f = LM.fxAt fs k:=⟨_,rfl⟩
          rw [<- hfe] at c0 c1 g1 g2
          unfold M.I64 at g1
          unfold M.Short at g2
          have hfl : f.bytes.size <= maxLen:=by unfold maxLen;omega
          have HFE:=hideC hfe
          clear hfe hlie hb
          obtain ⟨en,hen⟩ : ∃ en,en = LM.endTo fs k:=⟨_,rfl⟩
          rw [<- hen] at hed
          have HEN:=hideC hen
          rw [<- hen]
          clear hen
          have HBA:=hideC (HBr.out.alloc HBr.out.size (.cells #[.int .i64 f.off,.string f.bytes] 52))
          have BXA:=hideC (B.alloc BXr.out (.cells #[.int .i64 f.off,.string f.bytes] 52))
          by_cases q1 : en <= f.off /\ f.off <= 16
          · have z1 : decide (en <= f.off /\ f.off <= 16) = true:=decide_eq_true q1
            by_cases q3 : 1 <= (f.bytes.size : Int) /\ (f.bytes.size : Int) <= 16 - f.off
            · have z2 : decide (1 <= (f.bytes.size : Int) /\ (f.bytes.size : Int) <= 16 - f.off) = true:=decide_eq_true q3
              have HX : Hid (LM.fixesTo fs (k + 1) = true):=by
               show _ = _
               simp only [LM.fixesTo,Bool.and_eq_true]
               exact ⟨HG.out,by rw [<- HFE.out,<- HEN.out];exact (LM.fixB_iff _ _).2 (by omega)⟩
              have HY : Hid (LM.endTo fs (k + 1) = f.off + (f.bytes.size : Int)):=by show _ = _;simp only [LM.endTo];rw [<- HFE.out]
              go_wp2_with (first | (go_at_call 44;have _:=FA;refine (AW.within_any _ _ _ _).mono ?_;rintro e w' ⟨rfl,rfl⟩;rw [z2]) | (go_at_call 44;refine (AW.within_any _ _ _ _).mono ?_;rintro e w' ⟨rfl,rfl⟩;rw [z1];have FA:=trivial))
              go_roundw
              case rel=>exact ⟨k + 1,by omega,by go_num,by rw [HY.out],HX.out,HBA.out,BXA.out⟩
              case measure=>simp [intOf];omega
            · have z2 : decide (1 <= (f.bytes.size : Int) /\ (f.bytes.size : Int) <= 16 - f.off) = false:=decide_eq_false q3
              have HX : Hid (LM.fixesTo fs fs.length = false):=LM.fixes_bad fs k hlt (by rw [<- HFE.out,<- HEN.out];exact LM.fixB_no (by omega))
              go_wp2_with (first | (go_at_call 44;have _:=FA;refine (AW.within_any _ _ _ _).mono ?_;rintro e w' ⟨rfl,rfl⟩;rw [z2]) | (go_at_call 44;refine (AW.within_any _ _ _ _).mono ?_;rintro e w' ⟨rfl,rfl⟩;rw [z1];have FA:=trivial))
              go_ret
              exact ⟨ret_bool (by rw [E.out,HX.out]),HBA.out⟩
          · have z1 : decide (en <= f.off /\ f.off <= 16) = false:=decide_eq_false q1
            have HX : Hid (LM.fixesTo fs fs.length = false):=LM.fixes_bad fs k hlt (by rw [<- HFE.out,<- HEN.out];exact LM.fixB_no (by omega))
            go_wp2_with (go_at_call 44;refine (AW.within_any _ _ _ _).mono ?_;rintro e w' ⟨rfl,rfl⟩;rw [z1])
            go_ret
            exact ⟨ret_bool (by rw [E.out,HX.out]),HBA.out⟩
        · obtain rfl : k = fs.length:=by omega
          go_wp2
          go_ret
          exact ⟨ret_bool (by rw [E.out,HG.out]),HBr.out⟩
     · have h3' : (dt.size : Int) = 16:=by omega
       have h4' : (16 : Int) < (fs.length : Int):=by omega
       have e : LM.sheetB ⟨pg,dt,fs,ao,cap⟩ = false:=by
        unfold LM.sheetB
        cases e : LM.fixesTo fs fs.length
        · exact Bool.and_false _
        · have:=LM.endTo_ge fs fs.length e
          omega
       rw [e]
       go_enter Tryz.func89,Tryz.ntmps89
       go_wp2_with (go_at_call 44;refine (AW.within_any _ _ _ _).mono ?_;rintro e w' ⟨rfl,rfl⟩;rw [d1])
       go_ret
       exact ⟨rfl,HB.out⟩
   · have h3' : ((dt.size : Int) == 16) = false:=by simp;omega
     have e : LM.sheetB ⟨pg,dt,fs,ao,cap⟩ = false:=by
      unfold LM.sheetB LM.headB
      rw [decide_eq_false (fun h=>h3 h.2.2),Bool.false_and]
     rw [e]
     go_enter Tryz.func89,Tryz.ntmps89
     go_wp2_with (go_at_call 44;refine (AW.within_any _ _ _ _).mono ?_;rintro e w' ⟨rfl,rfl⟩;rw [d1])
     go_ret
     exact ⟨rfl,HB.out⟩
 · have d1 : decide (1 <= pg /\ pg <= 255) = false:=decide_eq_false h1
   have e : LM.sheetB ⟨pg,dt,fs,ao,cap⟩ = false:=by
    unfold LM.sheetB LM.headB
    rw [decide_eq_false (fun h=>h1 ⟨h.1,h.2.1⟩),Bool.false_and]
   rw [e]
   go_enter Tryz.func89,Tryz.ntmps89
   go_wp2_with (go_at_call 44;refine (AW.within_any _ _ _ _).mono ?_;rintro e w' ⟨rfl,rfl⟩;rw [d1])
   go_ret
   exact ⟨rfl,HB.out⟩
set_option maxHeartbeats 3000000 in
theorem filled_any (s : LM.Sh) (w : World) (h : LM.HasF w s.ao s.fixes) (hf : LM.FitH s) (hs : LM.sheetB s = true) :
  Calls Tryz.prog 92 #[.agg (LM.cellsH s)] w fun e w'=>e = .returned (.string (LM.fillS s)) /\ Below w.heap.size w w':=by
 obtain ⟨f1,f2,f3,f4⟩:=hf
 obtain ⟨pg,dt,fs,ao,cap⟩:=s
 simp only at f1 f2 f3 f4
 unfold M.Short at f2 f3
 simp only [LM.cellsH]
 have hdl : dt.size <= maxLen:=by unfold maxLen;omega
 have HH:=hideC h
 clear f4 h f1
 have HB:=hideC ((Below.refl w.heap.size w).alloc (Nat.le_refl _) (.cells #[.int .i64 pg,.string dt,.slice ao fs.length cap] 50))
 have BX:=hideC (B.new w #[.int .i64 pg,.string dt,.slice ao fs.length cap] 50)
 have HN : Hid (LM.fillS ⟨pg,dt,fs,ao,cap⟩ = LM.laidTo dt fs fs.length):=rfl
 obtain ⟨hd,hfx⟩ : LM.headB ⟨pg,dt,fs,ao,cap⟩ = true /\ LM.fixesTo fs fs.length = true:=by
  unfold LM.sheetB at hs
  simpa using hs
 have h16 : dt.size = 16:=by
  unfold LM.headB at hd
  exact (of_decide_eq_true hd).2.2
 have HFX:=hideC hfx
 clear hs hd hfx
 rw [HN.out]
 go_enter Tryz.func92,Tryz.ntmps92
 go_wp2
 go_loopw [4,3] (fun i d wr=>∃ k : Nat,k <= fs.length /\ i = .int .i64 k /\ d = .string (LM.laidTo dt fs k) /\ Below w.heap.size w wr /\ wr.heap[w.heap.size]? = some (.cells #[.int .i64 pg,.string dt,.slice ao fs.length cap] 50 (0,0))) (fun i _ _=>fs.length - (intOf i).toNat)
 case atStart=>exact ⟨0,by omega,rfl,rfl,HB.out,BX.out⟩
 case round =>
  obtain ⟨k,hk,rfl,rfl,hb,hbx⟩:=hrel
  have HBr:=hideC hb
  have BXr:=hideC hbx
  have x2:=B.cell hbx 2 rfl
  clear hbx
  by_cases hlt : k < fs.length
  · obtain ⟨b,off,hao,hbl,hlie⟩:=(HH.out.below hb) (by omega)
    subst hao
    obtain ⟨c0,c1⟩:=hlie k hlt
    have hok:=(LM.fixB_iff _ _).1 (LM.fixesTo_ok fs fs.length HFX.out k hlt)
    have hgk : LM.fixesTo fs k = true:=by
     cases e : LM.fixesTo fs k
     · rw [LM.fixesTo_false fs k fs.length (by omega) e] at HFX
       cases HFX
     · rfl
    have hed:=LM.endTo_ge fs k hgk
    have hsz:=LM.laidTo_size dt fs h16 k hgk
    have HNX : Hid (LM.laidTo dt fs (k + 1) = CL.over (LM.laidTo dt fs k) (LM.fxAt fs k).off.toNat (LM.fxAt fs k).bytes):=rfl
    obtain ⟨f,hfe⟩ : ∃ f,f = LM.fxAt fs k:=⟨_,rfl⟩
    rw [<- hfe] at c0 c1 hok HNX
    obtain ⟨D,hD⟩ : ∃ D,D = LM.laidTo dt fs k:=⟨_,rfl⟩
    rw [<- hD] at hsz HNX
    rw [<- hD]
    obtain ⟨o,ho⟩ : ∃ o : Nat,f.off = (o : Int):=⟨f.off.toNat,by omega⟩
    rw [ho] at c0 hok
    rw [ho,Int.toNat_natCast] at HNX
    have HBd:=hideC (below_drew wr)
    clear hfe hD hgk hlie hb
    go_wp2
    go_region_law (go_simp;go_at_call 68;refine (CW.over_any D f.bytes o _ (by omega) (by omega)).mono ?_;rintro e w3 ⟨rfl,hb⟩;have HB3:=hideC (HBr.out.trans ((HBd.out.trans hb).mono HBr.out.size));have BX3:=hideC (B.below (B.below BXr.out HBd.out (B.isLt BXr.out)) hb (by have:=B.isLt BXr.out;simpa using this));clear hb;go_simp)
    all_goals
     go_wp2
     go_roundw
     case rel=>exact ⟨k + 1,by omega,by go_num,by rw [HNX.out],HB3.out,BX3.out⟩
     case measure=>simp [intOf];omega
  · obtain rfl : k = fs.length:=by omega
    go_wp2
    go_ret
    exact ⟨rfl,HBr.out⟩
theorem calls_kin {P : Program} {f : FuncId} {args : Array Value} {v : Value} {w : World} (x : Q.Kin w.heap.size w) (h : ∀ W,Below w.heap.size w W -> Calls P f args W fun e w'=>e = .returned v /\ Below W.heap.size W w') :
  Calls P f args x.world fun e w''=>e = .returned v /\ ∃ y : Q.Kin w.heap.size w,w'' = y.world :=
 (h x.world x.keeps).mono fun e w'' ⟨he,hb⟩=>⟨he,⟨w'',x.keeps.trans (hb.mono x.keeps.size)⟩,rfl⟩
set_option maxHeartbeats 3000000 in
theorem sheetsRise_any (hs : List LM.Sh) (ao : Option Addr) (cap : Nat) (w : World) (h : LM.HasH w ao hs) (hf : LM.FitHs hs) :
  Calls Tryz.prog 45 #[.slice ao hs.length cap] w fun e w'=>e = .returned (.bool (LM.riseB hs)) /\ Below w.heap.size w w':=by
 have HF:=hideC hf
 have HH:=hideC h
 have hn : hs.length <= 140737488351232:=hf.1
 clear h hf
 go_enter Tryz.func45,Tryz.ntmps45
 go_wp2
 go_loopw [3] (fun i wr=>∃ k : Nat,k <= hs.length /\ i = .int .i64 k /\ LM.riseTo hs k = true /\ Below w.heap.size w wr) (fun i _=>hs.length - (intOf i).toNat)
 case atStart=>exact ⟨0,by omega,rfl,rfl,Below.refl _ _⟩
 case round =>
  obtain ⟨k,hk,rfl,hz,hb⟩:=hrel
  have HZ:=hideC hz
  have HBr:=hideC hb
  clear hz
  by_cases hlt : k < hs.length
  · obtain ⟨b,off,hao,hbl,hlie⟩:=(HH.out.below hb) (by omega)
    subst hao
    obtain ⟨c0,c1,c2,c3⟩:=hlie k hlt
    have hfk:=HF.out.2 k hlt
    have HE : Hid (LM.riseTo hs (k + 1) = (LM.sheetB (LM.shAt hs k) && LM.riseAt hs k)):=by
     show _ = _
     simp only [LM.riseTo]
     rw [HZ.out,Bool.true_and]
    have HE2 : Hid ((LM.sheetB (LM.shAt hs k) && LM.riseAt hs k) = false -> LM.riseB hs = false):=fun e=>LM.rise_bad hs k hlt e
    have hkin:=Q.kin_some wr
    have hkc:=@Q.cell_kin wr
    have PREV : Hid (0 < k -> wr.cell? ⟨b,off + (k - 1) * 3,none⟩ = some (.int .i64 (LM.shAt hs (k - 1)).page)):=fun h0=>(hlie (k - 1) (by omega)).1
    have HRI : Hid (LM.riseAt hs k = (k == 0 || decide ((LM.shAt hs (k - 1)).page < (LM.shAt hs k).page))):=rfl
    obtain ⟨s,hse⟩ : ∃ s,s = LM.shAt hs k:=⟨_,rfl⟩
    rw [<- hse] at c0 c1 c2 c3 hfk HE HE2 HRI
    have e0 : ∀ x : Q.Kin wr.heap.size wr,x.world.cell? ⟨b,off + k * 3,none⟩ = some (.int .i64 s.page):=fun x=>by rw [hkc x _ _ hbl,c0]
    have e1 : ∀ x : Q.Kin wr.heap.size wr,x.world.cell? ⟨b,off + k * 3 + 1,none⟩ = some (.string s.data):=fun x=>by rw [hkc x _ _ hbl,c1]
    have e2 : ∀ x : Q.Kin wr.heap.size wr,x.world.cell? ⟨b,off + k * 3 + 2,none⟩ = some (.slice s.ao s.fixes.length s.cap):=fun x=>by rw [hkc x _ _ hbl,c2]
    have HC : Hid (∀ W,Below wr.heap.size wr W -> Calls Tryz.prog 89 #[.agg #[.int .i64 s.page,.string s.data,.slice s.ao s.fixes.length s.cap]] W fun e w'=>e = .returned (.bool (LM.sheetB s)) /\ Below W.heap.size W w'):=fun W hb=>sheetFine_any s W (c3.below hb) hfk
    clear hse hlie hb c0 c1 c2 c3 hfk
    cases e : LM.sheetB s with
    | false =>
     have HX:=hideC (HE2.out (by rw [e];rfl))
     rw [e] at HC
     clear e HE HE2 HRI PREV hkc
     go_wp2
     refine Q.region_kin (by kernel_rfl) (by kernel_rfl) ?_
     repeat (first | go_big_quiet_step ((go_at_call 89;exact calls_kin _ HC.out)) | quiet_step ((go_at_call 89;exact calls_kin _ HC.out)))
     refine wpQuiet_nil ?_
     intro _ hw'
     obtain ⟨x,hw''⟩:=hw'
     subst hw''
     go_wp2
     go_ret
     exact ⟨ret_bool HX.out.symm,HBr.out.trans (x.keeps.mono HBr.out.size)⟩
    | true =>
     rw [e] at HC HE HE2
     rw [Bool.true_and] at HE HE2
     clear e
     by_cases hk0 : k = 0
     · have z1 : decide ((0 : Int) < (k : Int)) = false:=by simp;omega
       have z2 : decide (0 < k) = false:=by simp;omega
       have HX : Hid (LM.riseAt hs k = true):=by show _ = _;rw [HRI.out,hk0];rfl
       rw [HX.out] at HE
       clear hk0 HE2 HRI PREV hkc HX
       go_wp2
       refine Q.region_kin (by kernel_rfl) (by kernel_rfl) ?_
       repeat (first | go_big_quiet_step ((go_at_call 89;exact calls_kin _ HC.out)) | quiet_step ((go_at_call 89;exact calls_kin _ HC.out)))
       refine wpQuiet_nil ?_
       intro _ hw'
       obtain ⟨x,hw''⟩:=hw'
       subst hw''
       go_wp2
       go_roundw
       case rel=>exact ⟨k + 1,by omega,by go_num,HE.out,HBr.out.trans (x.keeps.mono HBr.out.size)⟩
       case measure=>simp [intOf];omega
     · have hk1 : (1 : Int) <= (k : Int):=by omega
       have hk2 : 0 < k:=by omega
       have hk3 : (0 : Int) < (k : Int):=by omega
       have hkz : (k == 0) = false:=by simpa using hk0
       obtain ⟨p,hp⟩ : ∃ p,p = (LM.shAt hs (k - 1)).page:=⟨_,rfl⟩
       have hpv:=PREV.out hk2
       rw [<- hp] at hpv HRI
       rw [hkz,Bool.false_or] at HRI
       have e3 : ∀ x : Q.Kin wr.heap.size wr,x.world.cell? ⟨b,off + (k - 1) * 3,none⟩ = some (.int .i64 p):=fun x=>by rw [hkc x _ _ hbl,hpv]
       clear hp hpv hk0 PREV hkc hkz
       by_cases hlt2 : p < s.page
       · have HX : Hid (LM.riseAt hs k = true):=by show _ = _;rw [HRI.out,decide_eq_true hlt2]
         rw [HX.out] at HE
         have hnl : ¬ s.page <= p:=by omega
         clear HE2 HRI HX
         go_wp2
         refine Q.region_kin (by kernel_rfl) (by kernel_rfl) ?_
         repeat (first | go_big_quiet_step ((go_at_call 89;exact calls_kin _ HC.out)) | quiet_step ((go_at_call 89;exact calls_kin _ HC.out)))
         refine wpQuiet_nil ?_
         intro _ hw'
         obtain ⟨x,hw''⟩:=hw'
         subst hw''
         go_wp2
         go_roundw
         case rel=>exact ⟨k + 1,by omega,by go_num,HE.out,HBr.out.trans (x.keeps.mono HBr.out.size)⟩
         case measure=>simp [intOf];omega
       · have HX : Hid (LM.riseB hs = false):=HE2.out (by rw [HRI.out,decide_eq_false hlt2])
         have hnl : s.page <= p:=by omega
         clear HE HE2 HRI
         go_wp2
         refine Q.region_kin (by kernel_rfl) (by kernel_rfl) ?_
         repeat (first | go_big_quiet_step ((go_at_call 89;exact calls_kin _ HC.out)) | quiet_step ((go_at_call 89;exact calls_kin _ HC.out)))
         refine wpQuiet_nil ?_
         intro _ hw'
         obtain ⟨x,hw''⟩:=hw'
         subst hw''
         go_wp2
         go_ret
         exact ⟨ret_bool HX.out.symm,HBr.out.trans (x.keeps.mono HBr.out.size)⟩
  · obtain rfl : k = hs.length:=by omega
    go_wp2
    go_ret
    exact ⟨ret_bool HZ.out.symm,HBr.out⟩
end LW
end Go.Proofs.YtpgifpeohlllfaaGreat
