import Derived.Test.YtpgifpeohlllfaaGreatGI07
set_option maxHeartbeats 20000000
set_option linter.unusedVariables false
set_option maxRecDepth 100000
set_option linter.unusedSimpArgs false
namespace Go.Proofs.YtpgifpeohlllfaaGreat
namespace KW
open Go.RowKit GK
open FW (hideC add_below)
def rowS (G : Nat -> ByteArray) : Nat -> List Value
 | 0=>[]
 | n + 1=>rowS G n ++ [.string (G n)]
def updS (G : Nat -> ByteArray) (n : Nat) (d : ByteArray) : Nat -> ByteArray:=fun k=>if k = n then d else G k
theorem rowS_length (G : Nat -> ByteArray) : ∀ n,(rowS G n).length = n
 | 0=>rfl
 | n + 1=>by rw [rowS,List.length_append,rowS_length G n];rfl
theorem rowS_get (G : Nat -> ByteArray) (n : Nat) : ∀ m,n < m -> (rowS G m)[n]? = some (.string (G n))
 | 0,h=>by omega
 | m + 1,h=>by
  rw [rowS]
  by_cases c : n < m
  · rw [List.getElem?_append_left (by rw [rowS_length];exact c),rowS_get G n m c]
  · obtain rfl : n = m:=by omega
    rw [List.getElem?_append_right (by rw [rowS_length];exact Nat.le_refl _),rowS_length,Nat.sub_self];rfl
theorem rowS_congr (F G : Nat -> ByteArray) : ∀ m,(∀ k,k < m -> F k = G k) -> rowS F m = rowS G m
 | 0,_=>rfl
 | m + 1,h=>by rw [rowS,rowS,rowS_congr F G m (fun k hk=>h k (by omega)),h m (by omega)]
theorem rowS_set (G : Nat -> ByteArray) (n : Nat) (d : ByteArray) : ∀ m,n < m -> (rowS G m).set n (.string d) = rowS (updS G n d) m
 | 0,h=>by omega
 | m + 1,h=>by
  rw [rowS,rowS]
  by_cases c : n < m
  · rw [List.set_append_left _ _ (by rw [rowS_length];exact c),rowS_set G n d m c]
    congr 2
    unfold updS
    rw [if_neg (by omega)]
  · obtain rfl : n = m:=by omega
    rw [List.set_append_right _ _ (by rw [rowS_length];exact Nat.le_refl _),rowS_length,Nat.sub_self,rowS_congr (updS G n d) G n (fun k hk=>by unfold updS;rw [if_neg (by omega)])]
    show _ ++ [Value.string d] = _ ++ [Value.string (updS G n d n)]
    unfold updS
    rw [if_pos rfl]
def memC (a b c d e : Value) (G : Nat -> ByteArray) : Array Value:=([a,b,c,d,e] ++ rowS G 256).toArray
theorem memC_at (a b c d e : Value) (G : Nat -> ByteArray) (n : Nat) (h : n < 256) : (memC a b c d e G)[5 + n]? = some (.string (G n)):=by
 unfold memC
 rw [List.getElem?_toArray,List.getElem?_append_right (by simp),<- rowS_get G n 256 h]
 congr 1
 simp
theorem memC_set (a b c d e : Value) (G : Nat -> ByteArray) (n : Nat) (x : ByteArray) (h : n < 256) : (memC a b c d e G).setIfInBounds (5 + n) (.string x) = memC a b c d e (updS G n x):=by
 unfold memC
 rw [List.setIfInBounds_toArray,List.set_append_right _ _ (by simp),<- rowS_set G n x 256 h]
 congr 3
 simp
def none256 : Nat -> ByteArray:=fun _=>⟨#[]⟩
def fillG (hs : List LM.Sh) : Nat -> Nat -> ByteArray
 | 0=>none256
 | k + 1=>updS (fillG hs k) (LM.shAt hs k).page.toNat (LM.fillS (LM.shAt hs k))
theorem fill_filled (hs : List LM.Sh) (hr : LM.riseB hs = true) (n : Nat) : fillG hs hs.length n = KM.filled hs n:=by
 have hrise:=LM.rise_rising hs hr
 have hat : ∀ i,i < hs.length -> 1 <= (LM.shAt hs i).page:=fun i hi=>by
  have:=(LM.riseTo_ok hs hs.length hr i hi).1
  unfold LM.sheetB LM.headB at this
  simp only [Bool.and_eq_true,decide_eq_true_eq] at this
  exact this.1.1
 have key : ∀ k,k <= hs.length -> (∀ i,i < k -> (LM.shAt hs i).page ≠ (n : Int)) -> fillG hs k n = ⟨#[]⟩:=fun k=>by
  induction k with
  | zero=>intro _ _;rfl
  | succ k ih =>
   intro hk h
   show updS (fillG hs k) _ _ n = _
   unfold updS
   rw [if_neg (fun e=>h k (by omega) (by have:=hat k (by omega);omega)),ih (by omega) (fun i hi=>h i (by omega))]
 have key2 : ∀ k,k <= hs.length -> ∀ j,j < k -> (LM.shAt hs j).page = (n : Int) -> fillG hs k n = LM.fillS (LM.shAt hs j):=fun k=>by
  induction k with
  | zero=>intro _ j hj;omega
  | succ k ih =>
   intro hk j hj e
   show updS (fillG hs k) _ _ n = _
   unfold updS
   by_cases c : j = k
   · subst c;rw [if_pos (by omega)]
   · have hlt : (LM.shAt hs j).page < (LM.shAt hs k).page:=by
      have:=(List.pairwise_iff_getElem.1 hrise) j k (by rw [List.length_map];omega) (by rw [List.length_map];omega) (by omega)
      rw [List.getElem_map,List.getElem_map] at this
      unfold LM.shAt
      rw [List.getD_eq_getElem?_getD,List.getD_eq_getElem?_getD,List.getElem?_eq_getElem (by omega),List.getElem?_eq_getElem (by omega)]
      exact this
     rw [if_neg (by omega)]
     exact ih (by omega) j (by omega) e
 unfold KM.filled
 cases g : KM.sheetFor hs n with
 | none =>
  have h:=List.find?_eq_none.1 g
  exact key _ (Nat.le_refl _) (fun i hi e=>by
   have:=h (LM.shAt hs i) (KM.getD_mem hi)
   simp [e] at this)
 | some s =>
  have hm:=List.mem_of_find?_eq_some g
  have hp:=List.find?_some g
  obtain ⟨j,hj,rfl⟩:=KM.mem_getD LM.sh0 hm
  exact key2 _ (Nat.le_refl _) j hj (of_decide_eq_true hp)
theorem fillN_yes {s : LM.Sh} (h : LM.sheetB s = true) : LM.fillN s = (LM.fillS s,0):=by unfold LM.fillN;rw [if_pos h]
theorem fillN_no {s : LM.Sh} (h : LM.sheetB s = false) : LM.fillN s = (⟨#[]⟩,1):=by unfold LM.fillN;rw [if_neg (by rw [h];simp)]
set_option maxHeartbeats 8000000 in
theorem fillSheets_any (hs : List LM.Sh) (aS : Option Addr) (cS mb : Nat) (b c d e : Value) (w0 w : World) (h : LM.HasH w0 aS hs) (hf : LM.FitHs hs) (hw : Below w0.heap.size w0 w) (hmb : w0.heap.size <= mb) (hm : w.heap[mb]? = some (.cells (memC (.slice aS hs.length cS) b c d e none256) 104 (0,0))) (hl : hs.length <= 255) :
  Calls Tryz.prog 110 #[.pointer (some ⟨mb,0,none⟩)] w fun x w'=>x = .returned (.bool (LM.riseB hs)) /\ Kp (fun b=>b = mb) w w' /\ ∃ G,w'.heap[mb]? = some (.cells (memC (.slice aS hs.length cS) b c d e G) 104 (0,0)) /\ (LM.riseB hs = true -> G = fillG hs hs.length):=by
 have HH:=hideC h
 have HF:=hideC hf
 have HW:=hideC hw
 have hlt:=B.isLt hm
 have m0 : w.cell? ⟨mb,0,none⟩ = some (.slice aS hs.length cS):=B.cell hm 0 rfl
 have HM:=hideC hm
 have HRB : Hid (∀ k,k < hs.length -> (LM.sheetB (LM.shAt hs k) = false ∨ (LM.shAt hs k).page <= (if k = 0 then 0 else (LM.shAt hs (k - 1)).page)) -> LM.riseB hs = false):=fun k hk g=>LM.rise_bad hs k hk (by
  unfold LM.riseAt
  rcases g with g | g
  · rw [g];rfl
  · by_cases c : k = 0
    · rw [if_pos c] at g
      have : LM.sheetB (LM.shAt hs k) = false:=by
       unfold LM.sheetB LM.headB
       rw [decide_eq_false (by omega)];rfl
      rw [this];rfl
    · rw [if_neg c] at g
      rw [decide_eq_false (by omega),show (k == 0) = false by simpa using c]
      exact Bool.and_false _)
 have HST : Hid (∀ k,k < hs.length -> LM.riseTo hs k = true -> LM.sheetB (LM.shAt hs k) = true -> (if k = 0 then 0 else (LM.shAt hs (k - 1)).page) < (LM.shAt hs k).page -> LM.riseTo hs (k + 1) = true):=fun k hk h1 h2 h3=>by
  rw [LM.riseTo,h1,h2]
  unfold LM.riseAt
  by_cases c : k = 0
  · simp [c]
  · rw [if_neg c] at h3
    simp [h3]
 clear h hf hw hm
 go_enter Tryz.func110,Tryz.ntmps110
 go_wp2
 go_loopw [3,14] (fun lv iv wr=>∃ k : Nat,k <= hs.length /\ iv = .int .i64 (k : Int) /\ lv = .int .i64 (if k = 0 then 0 else (LM.shAt hs (k - 1)).page) /\ LM.riseTo hs k = true /\ Kp (fun b=>b = mb) w wr /\ wr.heap[mb]? = some (.cells (memC (.slice aS hs.length cS) b c d e (fillG hs k)) 104 (0,0))) (fun _ iv _=>hs.length - (intOf iv).toNat)
 case atStart=>exact ⟨0,by omega,rfl,rfl,rfl,Kp.refl _ _,HM.out⟩
 case round =>
  obtain ⟨k,hk,rfl,rfl,hr,hkp,hmk⟩:=hrel
  have HKP:=hideC hkp
  have HMK:=hideC hmk
  have HR:=hideC hr
  clear hr
  obtain ⟨L,hL⟩ : ∃ L : Int,L = if k = 0 then 0 else (LM.shAt hs (k - 1)).page:=⟨_,rfl⟩
  rw [<- hL]
  by_cases hlt2 : k < hs.length
  · have hbk:=hkp.below HW.out (by have:=HW.out.size;omega) (fun b hb=>by omega)
    have HBK:=hideC hbk
    obtain ⟨bb,off,hao,hbl,hlie⟩:=HH.out (by omega)
    subst hao
    obtain ⟨d0,d1,d2,d3⟩:=hlie k hlt2
    have hbbm : ¬ bb = mb:=by omega
    have hsz:=hkp.size
    have c0:=(hbk.cell (p:=⟨bb,off + k * 3,none⟩) hbl).trans d0
    have c1:=(hbk.cell (p:=⟨bb,off + k * 3 + 1,none⟩) hbl).trans d1
    have c2:=(hbk.cell (p:=⟨bb,off + k * 3 + 2,none⟩) hbl).trans d2
    have hfk:=HF.out.2 k hlt2
    have HC : Hid (∀ V,Below w0.heap.size w0 V -> Calls Tryz.prog 148 #[.agg (LM.cellsH (LM.shAt hs k))] V fun e w'=>e = .returned (.tuple #[.string (LM.fillN (LM.shAt hs k)).1,.int .i64 (LM.fillN (LM.shAt hs k)).2]) /\ Below V.heap.size V w'):=fun V hV=>LW.fill_any _ V (d3.below hV) hfk
    have HRB:=hideC (HRB.out k hlt2)
    have HST:=hideC (HST.out k hlt2 HR.out)
    have hpg:=hfk.page
    have HFG : Hid (fillG hs (k + 1) = updS (fillG hs k) (LM.shAt hs k).page.toNat (LM.fillS (LM.shAt hs k))):=rfl
    have HHB : Hid (LM.sheetB (LM.shAt hs k) = true -> 1 <= (LM.shAt hs k).page /\ (LM.shAt hs k).page <= 255):=fun g=>by
     unfold LM.sheetB LM.headB at g
     simp only [Bool.and_eq_true,decide_eq_true_eq] at g
     exact ⟨g.1.1,g.1.2.1⟩
    have HFN:=hideC (@fillN_yes (LM.shAt hs k))
    have HFO:=hideC (@fillN_no (LM.shAt hs k))
    have HLP : Hid ((if k + 1 = 0 then 0 else (LM.shAt hs (k + 1 - 1)).page) = (LM.shAt hs k).page):=by
     show _ = _
     rw [if_neg (by omega),Nat.add_sub_cancel]
    unfold LM.cellsH at HC
    obtain ⟨S,hS⟩ : ∃ S,S = LM.shAt hs k:=⟨_,rfl⟩
    rw [<- hL] at HRB HST
    rw [<- hS] at c0 c1 c2 HC HRB HST hpg HFG HHB HFN HFO HLP
    obtain ⟨pg,dt,fx,fo,fc⟩:=S
    simp only at c0 c1 c2 HC HRB HST hpg HFG HHB HFN HFO HLP
    obtain ⟨nx,hnx⟩ : ∃ nx,nx = fx.length:=⟨_,rfl⟩
    rw [<- hnx] at c2 HC
    clear hS hL hnx d0 d1 d2 d3 hlie hfk hbk hkp hmk
    cases hsb : LM.sheetB ⟨pg,dt,fx,fo,fc⟩ with
    | false =>
     have HRF:=hideC (HRB.out (.inl hsb))
     have HFN2:=hideC (HFO.out hsb)
     rw [HFN2.out] at HC
     clear HFN HFO HFN2 hsb HRB HST HFG HHB HLP
     have hmbw : ¬ mb = wr.heap.size:=by omega
     have hbbw : ¬ bb = wr.heap.size:=by omega
     have HBA:=hideC (HBK.out.alloc (by have:=HBK.out.size;omega) (.cells #[.int .i64 pg,.string dt,.slice fo nx fc] 50))
     have KA:=hideC ((HKP.out.trans (Kp.alloc (fun b=>b = mb) wr (.cells #[.int .i64 pg,.string dt,.slice fo nx fc] 50)) (fun _ _ g=>g)))
     have MA:=hideC (B.alloc HMK.out (.cells #[.int .i64 pg,.string dt,.slice fo nx fc] 50))
     have SA:=hideC (B.new wr #[.int .i64 pg,.string dt,.slice fo nx fc] 50)
     clear HM m0 HH HF
     go_wp2_with (go_at_call 148;refine (HC.out _ HBA.out).mono ?_;rintro e w1 ⟨rfl,hb1⟩;have HB1:=hideC hb1;have S1:=hideC (B.below SA.out hb1 (by simp));have s0 : w1.cell? ⟨wr.heap.size,0,none⟩ = some (.int .i64 pg):=B.cell S1.out 0 rfl;clear hb1)
     go_ret
     have hM:=B.below MA.out HB1.out (by simp;omega)
     exact ⟨congrArg (fun b=>Ending.returned (.bool b)) HRF.out.symm,KA.out.trans (Kp.ofBelow HB1.out) (fun _ _ g=>g),_,hM,fun g=>by rw [HRF.out] at g;cases g⟩
    | true =>
     have HFN2:=hideC (HFN.out hsb)
     rw [HFN2.out] at HC
     have hpb:=HHB.out hsb
     by_cases hlp : pg <= L
     · have HRF:=hideC (HRB.out (.inr hlp))
       clear HFN HFO HFN2 hsb HRB HST HFG HHB HLP
       have hmbw : ¬ mb = wr.heap.size:=by omega
       have hbbw : ¬ bb = wr.heap.size:=by omega
       have HBA:=hideC (HBK.out.alloc (by have:=HBK.out.size;omega) (.cells #[.int .i64 pg,.string dt,.slice fo nx fc] 50))
       have KA:=hideC ((HKP.out.trans (Kp.alloc (fun b=>b = mb) wr (.cells #[.int .i64 pg,.string dt,.slice fo nx fc] 50)) (fun _ _ g=>g)))
       have MA:=hideC (B.alloc HMK.out (.cells #[.int .i64 pg,.string dt,.slice fo nx fc] 50))
       have SA:=hideC (B.new wr #[.int .i64 pg,.string dt,.slice fo nx fc] 50)
       clear HM m0 HH HF
       go_wp2_with (go_at_call 148;refine (HC.out _ HBA.out).mono ?_;rintro e w1 ⟨rfl,hb1⟩;have HB1:=hideC hb1;have S1:=hideC (B.below SA.out hb1 (by simp));have s0 : w1.cell? ⟨wr.heap.size,0,none⟩ = some (.int .i64 pg):=B.cell S1.out 0 rfl;clear hb1)
       go_ret
       have hM:=B.below MA.out HB1.out (by simp;omega)
       exact ⟨congrArg (fun b=>Ending.returned (.bool b)) HRF.out.symm,KA.out.trans (Kp.ofBelow HB1.out) (fun _ _ g=>g),_,hM,fun g=>by rw [HRF.out] at g;cases g⟩
     · have HRT:=hideC (HST.out hsb (by omega))
       clear HFN HFO HFN2 hsb HRB HST HHB
       have hmbw : ¬ mb = wr.heap.size:=by omega
       have hbbw : ¬ bb = wr.heap.size:=by omega
       have HBA:=hideC (HBK.out.alloc (by have:=HBK.out.size;omega) (.cells #[.int .i64 pg,.string dt,.slice fo nx fc] 50))
       have KA:=hideC ((HKP.out.trans (Kp.alloc (fun b=>b = mb) wr (.cells #[.int .i64 pg,.string dt,.slice fo nx fc] 50)) (fun _ _ g=>g)))
       have MA:=hideC (B.alloc HMK.out (.cells #[.int .i64 pg,.string dt,.slice fo nx fc] 50))
       have SA:=hideC (B.new wr #[.int .i64 pg,.string dt,.slice fo nx fc] 50)
       clear HM m0 HH HF
       go_wp2_with (go_at_call 148;refine (HC.out _ HBA.out).mono ?_;rintro e w1 ⟨rfl,hb1⟩;have HB1:=hideC hb1;have S1:=hideC (B.below SA.out hb1 (by simp));have s0 : w1.cell? ⟨wr.heap.size,0,none⟩ = some (.int .i64 pg):=B.cell S1.out 0 rfl;clear hb1)
       obtain ⟨n,rfl⟩ : ∃ n : Nat,pg = (n : Int):=⟨pg.toNat,by omega⟩
       have hM:=B.below MA.out HB1.out (by simp;omega)
       have HM1:=hideC hM
       have K1:=hideC (KA.out.trans (Kp.ofBelow HB1.out) (fun _ _ g=>g))
       have q5 : w1.cell? ⟨mb,5 + n,none⟩ = some (.string (fillG hs k n)):=B.cell hM (5 + n) (memC_at _ _ _ _ _ _ n (by omega))
       have qf : w1.frozen? ⟨mb,5 + n,none⟩ = false:=B.free hM (5 + n)
       have n0 : (0 : Int) <= (n : Int):=by omega
       have n1 : (n : Int) < 256:=by omega
       rw [Int.toNat_natCast] at HFG
       obtain ⟨FD,hFD⟩ : ∃ FD,FD = LM.fillS { page:=(n : Int),data:=dt,fixes:=fx,ao:=fo,cap:=fc }:=⟨_,rfl⟩
       rw [<- hFD] at HFG ⊢
       clear hM hFD HC c0 c1 c2
       go_region
       have HM2:=hideC ((B.set HM1.out (5 + n) (.string FD)).trans (by rw [memC_set _ _ _ _ _ _ n FD (by omega),<- HFG.out]))
       have K2:=hideC (K1.out.trans ((Kp.set (fun b=>b = mb) w1 ⟨mb,5 + n,none⟩ (.string FD) rfl).trans (Kp.drew _ _) (fun _ _ g=>g)) (fun _ _ g=>g))
       have s2 : (w1.setCell ⟨mb,5 + n,none⟩ (.string FD)).drew.cell? ⟨wr.heap.size,0,none⟩ = some (.int .i64 (n : Int)):=(cell_other w1 mb (5 + n) wr.heap.size 0 (.string FD) (fun e=>hmbw e.symm)).trans s0
       obtain ⟨W2,hW2⟩ : ∃ W2,W2 = (w1.setCell ⟨mb,5 + n,none⟩ (.string FD)).drew:=⟨_,rfl⟩
       have HM3 : Hid (W2.heap[mb]? = some (.cells (memC (.slice (some ⟨bb,off,none⟩) hs.length cS) b c d e (fillG hs (k + 1))) 104 (0,0))):=by rw [hW2];exact HM2.out
       rw [<- hW2] at K2 s2 ⊢
       clear hW2 HM2 HM1 K1 q5 qf s0
       go_wp2
       go_roundw
       case rel=>exact ⟨k + 1,by omega,by go_num,by rw [if_neg (by omega),Nat.add_sub_cancel,<- HLP.out,if_neg (by omega),Nat.add_sub_cancel],HRT.out,K2.out,HM3.out⟩
       case measure=>simp [intOf];omega
  · obtain rfl : k = hs.length:=by omega
    clear hkp hmk hL
    go_wp2
    go_ret
    exact ⟨congrArg (fun b=>Ending.returned (.bool b)) HR.out.symm,HKP.out,_,HMK.out,fun _=>rfl⟩
theorem have_bad {hs : List LM.Sh} {ar : List AM.Ar} {k n : Nat} (hk : k < ar.length) (hn : n < (AM.at_ ar k).pages.toNat) (hz : (AM.at_ ar k).zero = false) (he : KM.filled hs ((AM.at_ ar k).page + (n : Int)) = ⟨#[]⟩) : KM.haveB hs ar = false:=by
 cases q : KM.haveB hs ar with
 | false=>rfl
 | true =>
  unfold KM.haveB at q
  rw [List.all_eq_true] at q
  have:=q (AM.at_ ar k) (KM.getD_mem hk)
  rw [List.all_eq_true] at this
  have:=this n (List.mem_range.2 hn)
  rw [hz,he] at this
  cases this
theorem have_good {hs : List LM.Sh} {ar : List AM.Ar} (h : ∀ k,k < ar.length -> ∀ n,n < (AM.at_ ar k).pages.toNat -> (AM.at_ ar k).zero = true ∨ KM.filled hs ((AM.at_ ar k).page + (n : Int)) ≠ ⟨#[]⟩) : KM.haveB hs ar = true:=by
 unfold KM.haveB
 rw [List.all_eq_true]
 intro a ha
 obtain ⟨k,hk,rfl⟩:=KM.mem_getD AM.nil ha
 rw [List.all_eq_true]
 intro n hn
 rcases h k hk n (List.mem_range.1 hn) with g | g
 · rw [show (ar.getD k AM.nil).zero = true from g];rfl
 · rw [Bool.or_eq_true,decide_eq_true_eq]
   right
   intro e
   refine g ?_
   have : (KM.filled hs ((AM.at_ ar k).page + (n : Int))).size = 0:=e
   obtain ⟨x,hx⟩ : ∃ x,x = KM.filled hs ((AM.at_ ar k).page + (n : Int)):=⟨_,rfl⟩
   rw [<- hx] at this ⊢
   obtain ⟨⟨l⟩⟩:=x
   have : l = []:=List.eq_nil_of_length_eq_zero this
   rw [this]
set_option maxHeartbeats 8000000 in
theorem haveSheets_any (hs : List LM.Sh) (ar : List AM.Ar) (va : Value) (mb : Nat) (w : World) (ha : AW.Has w va ar) (hc : AM.checkN ar = 0) (hmb : mb < w.heap.size) (hfl : ∀ n : Nat,n < 256 -> w.cell? ⟨mb,5 + n,none⟩ = some (.string (KM.filled hs n))) :
  Calls Tryz.prog 149 #[.pointer (some ⟨mb,0,none⟩),va] w fun e w'=>e = .returned (.bool (KM.haveB hs ar)) /\ Below w.heap.size w w':=by
 obtain ⟨ao,cap,rfl,hlie⟩:=ha
 have hlen:=AM.good_len ar hc
 have HL:=hideC hlie
 have HFL:=hideC hfl
 have HOK:=hideC (fun k (hk : k < ar.length)=>AM.okAt_pages ar k (AM.good_pages ar hc k hk))
 have HBAD:=hideC (fun k n=>@have_bad hs ar k n)
 have HGOOD:=hideC (@have_good hs ar)
 obtain ⟨A,hA⟩ : ∃ A,A = KM.haveB hs ar:=⟨_,rfl⟩
 rw [<- hA] at HBAD HGOOD ⊢
 clear hlie hfl hA
 go_enter Tryz.func149,Tryz.ntmps149
 go_wp2
 go_loopw [10] (fun iv wr=>∃ k : Nat,k <= ar.length /\ iv = .int .i64 (k : Int) /\ Below w.heap.size w wr /\ ∀ i,i < k -> ∀ n,n < (AM.at_ ar i).pages.toNat -> (AM.at_ ar i).zero = true ∨ KM.filled hs ((AM.at_ ar i).page + (n : Int)) ≠ ⟨#[]⟩) (fun iv _=>ar.length - (intOf iv).toNat)
 case atStart=>exact ⟨0,by omega,rfl,Below.refl _ _,fun i hi=>by omega⟩
 case round =>
  obtain ⟨k,hk,rfl,hb,hpast⟩:=hrel
  have HB:=hideC hb
  have HP:=hideC hpast
  clear hpast
  by_cases hlt : k < ar.length
  · obtain ⟨b,off,hao,hli⟩:=HL.out.resolve_left (fun e=>by rw [e] at hlt;cases hlt)
    subst hao
    obtain ⟨d0,d1,d2,d3⟩:=hli k hlt
    have hbl:=hli.lt k hlt
    have c0:=(hb.cell (p:=⟨b,off + k * 4,none⟩) hbl).trans d0
    have c1:=(hb.cell (p:=⟨b,off + k * 4 + 1,none⟩) hbl).trans d1
    have c2:=(hb.cell (p:=⟨b,off + k * 4 + 2,none⟩) hbl).trans d2
    have c3:=(hb.cell (p:=⟨b,off + k * 4 + 3,none⟩) hbl).trans d3
    have hok:=HOK.out k hlt
    have HBAD:=hideC (fun n=>HBAD.out k n hlt)
    have HS : Hid (∀ n,n < (AM.at_ ar k).pages.toNat -> (AM.at_ ar k).zero = true ∨ KM.filled hs ((AM.at_ ar k).page + (n : Int)) ≠ ⟨#[]⟩) -> Hid (∀ i,i < k + 1 -> ∀ n,n < (AM.at_ ar i).pages.toNat -> (AM.at_ ar i).zero = true ∨ KM.filled hs ((AM.at_ ar i).page + (n : Int)) ≠ ⟨#[]⟩):=fun g i hi=>by
     by_cases e : i = k
     · rw [e];exact g.out
     · exact HP.out i (by omega)
    obtain ⟨a,ha⟩ : ∃ a,a = AM.at_ ar k:=⟨_,rfl⟩
    rw [<- ha] at c0 c1 c2 c3 hok HBAD HS
    obtain ⟨pg,ps,pt,z⟩:=a
    simp only at c0 c1 c2 c3 hok HBAD HS
    obtain ⟨pn,rfl⟩ : ∃ pn : Nat,pg = (pn : Int):=⟨pg.toNat,by omega⟩
    obtain ⟨pm,rfl⟩ : ∃ pm : Nat,ps = (pm : Int):=⟨ps.toNat,by omega⟩
    rw [Int.toNat_natCast] at HS HBAD
    have hbw : ¬ b = wr.heap.size:=by have:=hb.size;omega
    have hmw : ¬ mb = wr.heap.size:=by have:=hb.size;omega
    have HBA:=hideC (HB.out.alloc HB.out.size (.cells #[.int .i64 (pn : Int),.int .i64 (pm : Int),.int .i64 pt,.bool z] 47))
    have SA:=hideC (B.new wr #[.int .i64 (pn : Int),.int .i64 (pm : Int),.int .i64 pt,.bool z] 47)
    clear ha d0 d1 d2 d3 hli HP HGOOD HOK HL hb
    go_wp2
    obtain ⟨W1,hW1⟩ : ∃ W1,W1 = wr.alloc (.cells #[.int .i64 (pn : Int),.int .i64 (pm : Int),.int .i64 pt,.bool z] 47):=⟨_,rfl⟩
    rw [<- hW1] at HBA SA ⊢
    obtain ⟨sb,hsb⟩ : ∃ sb,sb = wr.heap.size:=⟨_,rfl⟩
    rw [<- hsb] at SA ⊢
    clear hW1 hsb c0 c1 c2 c3 hbw hmw
    have s0 : W1.cell? ⟨sb,0,none⟩ = some (.int .i64 (pn : Int)):=B.cell SA.out 0 rfl
    have s3 : W1.cell? ⟨sb,3,none⟩ = some (.bool z):=B.cell SA.out 3 rfl
    have HWF : Hid (∀ n : Nat,n < 256 -> W1.cell? ⟨mb,5 + n,none⟩ = some (.string (KM.filled hs n))):=fun n hn=>(HBA.out.cell (p:=⟨mb,5 + n,none⟩) hmb).trans (HFL.out n hn)
    go_loopw [16] (fun iv wq=>∃ n : Nat,n <= pm /\ iv = .int .i64 (n : Int) /\ (wq.heap = W1.heap /\ Below w.heap.size w wq) /\ ∀ i,i < n -> z = true ∨ KM.filled hs ((pn : Int) + (i : Int)) ≠ ⟨#[]⟩) (fun iv _=>pm - (intOf iv).toNat)
    case atStart=>exact ⟨0,by omega,rfl,⟨rfl,HBA.out⟩,fun i hi=>by omega⟩
    case round =>
     obtain ⟨n,hn,rfl,⟨hD,hbD⟩,hpast⟩:=hrel
     obtain ⟨wq,hwq⟩ : ∃ wq,wq = wr:=⟨_,rfl⟩
     rw [<- hwq] at hD hbD ⊢
     clear hwq
     have HBD:=hideC hbD
     have HHD:=hideC hD
     have HP2:=hideC hpast
     have r0 : wq.cell? ⟨sb,0,none⟩ = some (.int .i64 (pn : Int)):=(World.cell?_of_block (by rw [hD])).trans s0
     have r3 : wq.cell? ⟨sb,3,none⟩ = some (.bool z):=(World.cell?_of_block (by rw [hD])).trans s3
     have HWQ : Hid (∀ n : Nat,n < 256 -> wq.cell? ⟨mb,5 + n,none⟩ = some (.string (KM.filled hs n))):=fun n hn=>(World.cell?_of_block (by rw [HHD.out])).trans (HWF.out n hn)
     clear hD hbD hpast
     by_cases hn2 : n < pm
     · have hni : (n : Int) < (pm : Int):=by omega
       have HN : Hid (∀ wz : World,wz = wq.drew -> (wz.heap = W1.heap /\ Below w.heap.size w wz)):=fun wz e=>by rw [e];exact ⟨HHD.out,HBD.out.drew⟩
       have HP3 : Hid ((z = true ∨ KM.filled hs ((pn : Int) + (n : Int)) ≠ ⟨#[]⟩) -> ∀ i,i < n + 1 -> z = true ∨ KM.filled hs ((pn : Int) + (i : Int)) ≠ ⟨#[]⟩):=fun g i hi=>by
        by_cases e : i = n
        · rw [e];exact g
        · exact HP2.out i (by omega)
       cases z with
       | true =>
        clear HBAD HS HP2
        go_wp2
        go_region
        go_wp2
        go_roundw
        case rel=>exact ⟨n + 1,by omega,by go_num,HN.out _ rfl,HP3.out (.inl trivial)⟩
        case measure=>simp [intOf];omega
       | false =>
        have q:=HWQ.out (pn + n) (by omega)
        have ew : IntKind.i64.wrap ((pn : Int) + (n : Int)) = ((pn + n : Nat) : Int):=by rw [IntKind.wrap_i64];omega
        have ei : ((pn + n : Nat) : Int) = (pn : Int) + (n : Int):=by omega
        have i0 : (0 : Int) <= ((pn + n : Nat) : Int):=by omega
        have i1 : ((pn + n : Nat) : Int) < 256:=by omega
        have HBAD:=hideC (HBAD.out n hn2 rfl)
        rw [<- ei] at HBAD HP3
        obtain ⟨X,hX⟩ : ∃ X,X = pn + n:=⟨_,rfl⟩
        obtain ⟨D,hD⟩ : ∃ D,D = KM.filled hs (X : Int):=⟨_,rfl⟩
        rw [<- hX] at q ew i0 i1 HBAD HP3
        rw [<- hD] at q HBAD HP3
        clear HS HP2 HWQ hX hD ei
        by_cases hz : D = ⟨#[]⟩
        · have hA:=HBAD.out hz
          subst hA hz
          go_wp2
          go_region
          go_wp2
          go_ret
          exact ⟨rfl,HBD.out.drew⟩
        · have hz2 : D.toList.isEmpty = false:=by
           rw [Go.ByteArray.toList_eq]
           cases q2 : D.data.toList.isEmpty with
           | false=>rfl
           | true=>exact absurd (by obtain ⟨⟨l⟩⟩:=D;have e : l = []:=List.isEmpty_iff.1 q2;rw [e]) hz
          clear HBAD
          go_wp2
          go_region
          go_wp2
          go_roundw
          case rel=>exact ⟨n + 1,by omega,by go_num,HN.out _ rfl,HP3.out (.inr hz)⟩
          case measure=>simp [intOf];omega
     · obtain rfl : n = pm:=by omega
       have HS2:=hideC (HS HP2)
       have hni : ¬ (n : Int) < (n : Int):=by omega
       go_wp2
       go_roundw
       case rel=>exact ⟨k + 1,by omega,by go_num,HBD.out,HS2.out⟩
       case measure=>simp [intOf];omega
  · obtain rfl : k = ar.length:=by omega
    have hA:=HGOOD.out HP.out
    subst hA
    clear hb
    go_wp2
    go_ret
    exact ⟨rfl,HB.out⟩
set_option maxHeartbeats 8000000 in
theorem rightSpace_any (hs : List LM.Sh) (s : KM.Sp) (va : Value) (ap : Option Addr) (cp mb : Nat) (w : World) (ha : AW.Has w va s.areas) (hf : FitSp s) (hmb : mb < w.heap.size) (hfl : ∀ n : Nat,n < 256 -> w.cell? ⟨mb,5 + n,none⟩ = some (.string (KM.filled hs n))) :
  Calls Tryz.prog 111 #[.pointer (some ⟨mb,0,none⟩),.agg #[.bool s.live,va,.slice ap s.ents.length cp]] w fun e w'=>e = .returned (.bool (KM.rightSp hs s)) /\ Below w.heap.size w w':=by
 have HCK:=hideC (fun V (hV : Below w.heap.size w V)=>AW.check_any s.areas va V (ha.below hV) hf.areas)
 have HHS : Hid (AM.checkN s.areas = 0 -> ∀ V,Below w.heap.size w V -> Calls Tryz.prog 149 #[.pointer (some ⟨mb,0,none⟩),va] V fun e w'=>e = .returned (.bool (KM.haveB hs s.areas)) /\ Below V.heap.size V w'):=fun hc V hV=>haveSheets_any hs s.areas va mb V (ha.below hV) hc (Nat.lt_of_lt_of_le hmb hV.size) (fun n hn=>(hV.cell (p:=⟨mb,5 + n,none⟩) hmb).trans (hfl n hn))
 obtain ⟨A,hA⟩ : ∃ A,A = KM.rightSp hs s:=⟨_,rfl⟩
 rw [<- hA]
 obtain ⟨aa,ca,hva,_⟩:=ha
 subst hva
 have hln:=hf.areas.2
 have hlp : s.ents.length <= 140737488351232:=hf.ents
 unfold KM.rightSp at hA
 have HA:=hideC hA
 clear hf hfl hA
 obtain ⟨na,hna⟩ : ∃ na,na = s.areas.length:=⟨_,rfl⟩
 obtain ⟨np,hnp⟩ : ∃ np,np = s.ents.length:=⟨_,rfl⟩
 obtain ⟨C,hC⟩ : ∃ C,C = AM.checkN s.areas:=⟨_,rfl⟩
 obtain ⟨E,hE⟩ : ∃ E,E = KM.haveB hs s.areas:=⟨_,rfl⟩
 obtain ⟨lv,hlv⟩ : ∃ lv,lv = s.live:=⟨_,rfl⟩
 rw [<- hna] at HA HCK HHS hln ⊢
 rw [<- hnp] at HA hlp ⊢
 rw [<- hC] at HA HCK HHS
 rw [<- hE] at HA HHS
 rw [<- hlv] at HA ⊢
 clear hna hnp hC hE hlv
 have HB:=hideC ((Below.refl w.heap.size w).alloc (Nat.le_refl _) (.cells #[.bool lv,.slice aa na ca,.slice ap np cp] 43))
 have X0:=hideC (B.new w #[.bool lv,.slice aa na ca,.slice ap np cp] 43)
 cases lv with
 | false =>
  have HA2 : Hid (A = (decide (na = 0) && decide (np = 0))):=HA
  clear HA HCK HHS
  rcases (show (na = 0 /\ np = 0) ∨ (na = 0 /\ ¬ np = 0) ∨ ¬ na = 0 by omega) with ⟨g,k⟩ | ⟨g,k⟩ | g
  · have h0 : ((na : Int) == 0) = true:=by rw [beq_iff_eq];omega
    have h1 : ((np : Int) == 0) = true:=by rw [beq_iff_eq];omega
    have HA3 : Hid (A = true):=by show _ = _;rw [HA2.out,decide_eq_true g,decide_eq_true k];rfl
    clear HA2 g k
    go_enter Tryz.func111,Tryz.ntmps111
    go_wp2
    go_ret
    exact ⟨congrArg (fun b=>Ending.returned (.bool b)) HA3.out.symm,HB.out⟩
  · have h0 : ((na : Int) == 0) = true:=by rw [beq_iff_eq];omega
    have h1 : ((np : Int) == 0) = false:=by rw [beq_eq_false_iff_ne];omega
    have HA3 : Hid (A = false):=by show _ = _;rw [HA2.out,decide_eq_false k,Bool.and_false]
    clear HA2 g k
    go_enter Tryz.func111,Tryz.ntmps111
    go_wp2
    go_ret
    exact ⟨congrArg (fun b=>Ending.returned (.bool b)) HA3.out.symm,HB.out⟩
  · have h0 : ((na : Int) == 0) = false:=by rw [beq_eq_false_iff_ne];omega
    have HA3 : Hid (A = false):=by show _ = _;rw [HA2.out,decide_eq_false g,Bool.false_and]
    clear HA2 g
    go_enter Tryz.func111,Tryz.ntmps111
    go_wp2
    go_ret
    exact ⟨congrArg (fun b=>Ending.returned (.bool b)) HA3.out.symm,HB.out⟩
 | true =>
  have HA2 : Hid (A = (decide (C = 0) && E)):=HA
  clear HA
  by_cases g : C = 0
  · subst g
    have HHT:=hideC (HHS.out rfl)
    have HA3 : Hid (A = E):=HA2
    clear HA2 HHS
    go_enter Tryz.func111,Tryz.ntmps111
    go_wp2_with (first | (go_at_call 98;refine (HCK.out _ HB.out).mono ?_;rintro e w1 ⟨rfl,hb1⟩;have HB1:=hideC (add_below HB.out hb1);have X1:=hideC (B.below X0.out hb1 (by simp));have x1 : w1.cell? ⟨w.heap.size,1,none⟩ = some (.slice aa na ca):=B.cell X1.out 1 rfl;clear hb1) | (go_at_call 149;refine (HHT.out _ HB1.out).mono ?_;rintro e w2 ⟨rfl,hb2⟩;have HB2:=hideC (add_below HB1.out hb2);clear hb2))
    go_ret
    exact ⟨congrArg (fun b=>Ending.returned (.bool b)) HA3.out.symm,HB2.out⟩
  · have HA3 : Hid (A = false):=by show _ = _;rw [HA2.out,decide_eq_false g,Bool.false_and]
    have g0 : (C == 0) = false:=by rw [beq_eq_false_iff_ne];exact g
    clear HA2 HHS
    go_enter Tryz.func111,Tryz.ntmps111
    go_wp2_with (go_at_call 98;refine (HCK.out _ HB.out).mono ?_;rintro e w1 ⟨rfl,hb1⟩;have HB1:=hideC (add_below HB.out hb1);clear hb1)
    go_ret
    exact ⟨congrArg (fun b=>Ending.returned (.bool b)) HA3.out.symm,HB1.out⟩
theorem total_bd (l : List AM.Ar) : 0 <= AM.totalN l /\ AM.totalN l <= 65025:=by
 unfold AM.totalN
 split
 · rename_i h
   have h1:=AM.good_len l h
   have h2:=AM.sumTo_bd l h l.length (Nat.le_refl _)
   omega
 · omega
theorem room_bd (l : List KM.Sp) : ∀ k,0 <= KM.roomTo l k /\ KM.roomTo l k <= 65025 * k
 | 0=>⟨Int.le_refl _,by show (0 : Int) <= _;omega⟩
 | k + 1=>by
  have h1:=room_bd l k
  have h2:=total_bd (KM.spAt l k).areas
  show 0 <= KM.roomTo l k + AM.totalN (KM.spAt l k).areas /\ KM.roomTo l k + AM.totalN (KM.spAt l k).areas <= _
  omega
set_option maxHeartbeats 4000000 in
theorem pages_any (l : List KM.Sp) (ao : Option Addr) (cap mb : Nat) (w : World) (h : HasSp w ao l) (hf : ∀ k,k < l.length -> AW.AllFit (KM.spAt l k).areas) (hn : l.length <= 1000000) (hmb : w.cell? ⟨mb,3,none⟩ = some (.slice ao l.length cap)) :
  Calls Tryz.prog 83 #[.pointer (some ⟨mb,0,none⟩)] w fun e w'=>e = .returned (.int .i64 (KM.room l)) /\ Below w.heap.size w w':=by
 have HF:=hideC hf
 have HH:=hideC h
 have HRB:=hideC (room_bd l)
 have HRS : Hid (∀ k,KM.roomTo l (k + 1) = KM.roomTo l k + AM.totalN (KM.spAt l k).areas):=fun k=>rfl
 clear h hf
 go_enter Tryz.func83,Tryz.ntmps83
 go_wp2
 go_loopw [3,12] (fun sv iv wr=>∃ k : Nat,k <= l.length /\ iv = .int .i64 (k : Int) /\ sv = .int .i64 (KM.roomTo l k) /\ Below w.heap.size w wr) (fun _ iv _=>l.length - (intOf iv).toNat)
 case atStart=>exact ⟨0,by omega,rfl,rfl,Below.refl _ _⟩
 case round =>
  obtain ⟨k,hk,rfl,rfl,hb⟩:=hrel
  have HB:=hideC hb
  have hrb:=HRB.out k
  by_cases hlt : k < l.length
  · obtain ⟨b,off,hao,hbl,hlie⟩:=(HH.out.below hb) (by omega)
    subst hao
    obtain ⟨va,ap,cp,c0,c1,c2,c3,c4,c5⟩:=hlie k hlt
    have hfk:=HF.out k hlt
    have hst:=HRS.out k
    have htb:=total_bd (KM.spAt l k).areas
    obtain ⟨aa,ca,rfl,_⟩:=id c3
    have HT : Hid (∀ W,Below wr.heap.size wr W -> Calls Tryz.prog 54 #[.slice aa (KM.spAt l k).areas.length ca] W fun e w'=>e = .returned (.int .i64 (AM.totalN (KM.spAt l k).areas)) /\ Below W.heap.size W w'):=fun W hW=>AW.total_any _ _ _ (c3.below hW) hfk
    obtain ⟨n,hnn⟩ : ∃ n,n = (KM.spAt l k).ents.length:=⟨_,rfl⟩
    obtain ⟨na,hna⟩ : ∃ na,na = (KM.spAt l k).areas.length:=⟨_,rfl⟩
    obtain ⟨lv,hlv⟩ : ∃ lv,lv = (KM.spAt l k).live:=⟨_,rfl⟩
    obtain ⟨T,hT⟩ : ∃ T,T = AM.totalN (KM.spAt l k).areas:=⟨_,rfl⟩
    obtain ⟨R,hR⟩ : ∃ R,R = KM.roomTo l k:=⟨_,rfl⟩
    rw [<- hnn] at c2 c5
    rw [<- hna] at c1 HT
    rw [<- hlv] at c0
    rw [<- hT] at HT hst htb
    rw [<- hR] at hst hrb ⊢
    have HST:=hideC hst
    clear hnn hna hlv hT hR c3 c4 c5 hfk hlie hb hst
    have HBA:=hideC (HB.out.alloc HB.out.size (.cells #[.bool lv,.slice aa na ca,.slice ap n cp] 43))
    go_wp2_with (go_at_call 54;refine (HT.out _ ((Below.refl _ _).alloc (Nat.le_refl _) _)).mono ?_;rintro e w1 ⟨rfl,hb1⟩;have HB1:=hideC (add_below HBA.out hb1);clear hb1)
    go_roundw
    case rel=>exact ⟨k + 1,by omega,by go_num,by rw [HST.out],HB1.out⟩
    case measure=>simp [intOf];omega
  · obtain rfl : k = l.length:=by omega
    clear hb
    go_wp2
    go_ret
    exact ⟨rfl,HB.out⟩
end KW
end Go.Proofs.YtpgifpeohlllfaaGreat
