import Derived.Test.YtkdigjpejnebkaaGreatGS08
import Derived.Test.YtkdigjpejnebkaaGreatGS04
set_option linter.unusedVariables false
set_option maxRecDepth 100000
set_option linter.unusedSimpArgs false
namespace Go.Proofs.YtkdigjpejnebkaaGreat
namespace FW
open Go.RowKit
set_option maxHeartbeats 2000000 in
theorem counts_any (sl : Int) (az ar ao : Option Addr) (ns nr no cs cr co : Nat) (w : World) :
  Calls Tryz.prog 36 #[.agg #[.int .i64 sl,.slice az ns cs,.slice ar nr cr,.slice ao no co]] w fun e w'=>e = .returned (.bool (decide (1 <= ns /\ ns <= 4) && (decide (nr = ns) && (decide (0 <= sl /\ sl <= 512) && decide (no <= 2000))))) /\ Below w.heap.size w w':=by
 obtain ⟨A,hA⟩ : ∃ A,A = (decide (1 <= ns /\ ns <= 4) && (decide (nr = ns) && (decide (0 <= sl /\ sl <= 512) && decide (no <= 2000)))):=⟨_,rfl⟩
 rw [<- hA]
 have HA:=hideC hA
 clear hA
 by_cases h0 : 1 <= (ns : Int)
 · by_cases h1 : (ns : Int) <= 4
   · by_cases h2 : (nr : Int) = ns
     · have h2i : ((nr : Int) == (ns : Int)) = true:=by rw [beq_iff_eq];exact h2
       by_cases h3 : 0 <= sl
       · by_cases h4 : sl <= 512
         · by_cases h5 : (no : Int) <= 2000
           · have HA2 : Hid (A = true):=by
              show _ = _
              rw [HA.out]
              simp
              omega
             clear HA
             go_enter Tryz.func36,Tryz.ntmps36
             go_wp2
             go_ret
             exact ⟨ret_bool HA2.out.symm,(Below.refl _ _).alloc (Nat.le_refl _) _⟩
           · have HA2 : Hid (A = false):=by
              show _ = _
              rw [HA.out]
              simp
              omega
             clear HA
             go_enter Tryz.func36,Tryz.ntmps36
             go_wp2
             go_ret
             exact ⟨ret_bool HA2.out.symm,(Below.refl _ _).alloc (Nat.le_refl _) _⟩
         · have HA2 : Hid (A = false):=by
            show _ = _
            rw [HA.out]
            simp
            omega
           clear HA
           go_enter Tryz.func36,Tryz.ntmps36
           go_wp2
           go_ret
           exact ⟨ret_bool HA2.out.symm,(Below.refl _ _).alloc (Nat.le_refl _) _⟩
       · have HA2 : Hid (A = false):=by
          show _ = _
          rw [HA.out]
          simp
          omega
         clear HA
         go_enter Tryz.func36,Tryz.ntmps36
         go_wp2
         go_ret
         exact ⟨ret_bool HA2.out.symm,(Below.refl _ _).alloc (Nat.le_refl _) _⟩
     · have h2i : ((nr : Int) == (ns : Int)) = false:=by rw [beq_eq_false_iff_ne];exact h2
       have HA2 : Hid (A = false):=by
        show _ = _
        rw [HA.out]
        simp
        omega
       clear HA
       go_enter Tryz.func36,Tryz.ntmps36
       go_wp2
       go_ret
       exact ⟨ret_bool HA2.out.symm,(Below.refl _ _).alloc (Nat.le_refl _) _⟩
   · have HA2 : Hid (A = false):=by
      show _ = _
      rw [HA.out]
      simp
      omega
     clear HA
     go_enter Tryz.func36,Tryz.ntmps36
     go_wp2
     go_ret
     exact ⟨ret_bool HA2.out.symm,(Below.refl _ _).alloc (Nat.le_refl _) _⟩
 · have HA2 : Hid (A = false):=by
    show _ = _
    rw [HA.out]
    simp
    omega
   clear HA
   go_enter Tryz.func36,Tryz.ntmps36
   go_wp2
   go_ret
   exact ⟨ret_bool HA2.out.symm,(Below.refl _ _).alloc (Nat.le_refl _) _⟩
set_option maxHeartbeats 2000000 in
theorem rightSpaces_any (l : List FM.Sp) (sl : Int) (az ar ao : Option Addr) (nr no cs cr co : Nat) (w : World) (h : HasS w az l) (hf : FitSs l) (hn : l.length <= 1000000) :
  Calls Tryz.prog 37 #[.agg #[.int .i64 sl,.slice az l.length cs,.slice ar nr cr,.slice ao no co]] w fun e w'=>e = .returned (.bool (l.all FM.rightSpace && decide (FM.room l <= sl))) /\ Below w.heap.size w w':=by
 have HF:=hideC hf
 have HH:=hideC h
 have HTT:=hideC (fun V (hV : Below w.heap.size w V)=>total_any l az cs V (h.below hV) hf hn)
 have HB0:=hideC ((Below.refl w.heap.size w).alloc (Nat.le_refl _) (.cells #[.int .i64 sl,.slice az l.length cs,.slice ar nr cr,.slice ao no co] 30))
 have X0:=hideC (B.new w #[.int .i64 sl,.slice az l.length cs,.slice ar nr cr,.slice ao no co] 30)
 have HNO : Hid (∀ k,k < l.length -> FM.rightSpace (FM.spAt l k) = false -> (l.all FM.rightSpace && decide (FM.room l <= sl)) = false):=fun k hk e=>by
  have : l.all FM.rightSpace = false:=by
   rw [List.all_eq_false]
   refine ⟨FM.spAt l k,?_,by rw [e];simp⟩
   unfold FM.spAt
   rw [List.getD_eq_getElem?_getD,List.getElem?_eq_getElem hk]
   exact List.getElem_mem hk
  rw [this,Bool.false_and]
 have HYE : Hid ((∀ k,k < l.length -> FM.rightSpace (FM.spAt l k) = true) -> (l.all FM.rightSpace && decide (FM.room l <= sl)) = decide (FM.room l <= sl)):=fun e=>by
  have : l.all FM.rightSpace = true:=by
   rw [List.all_eq_true]
   intro s hs
   obtain ⟨k,hk⟩:=List.getElem?_of_mem hs
   have hlt : k < l.length:=by
    rcases Nat.lt_or_ge k l.length with g | g
    · exact g
    · rw [List.getElem?_eq_none g] at hk
      cases hk
   have:=e k hlt
   unfold FM.spAt at this
   rw [List.getD_eq_getElem?_getD,hk] at this
   exact this
  rw [this,Bool.true_and]
 obtain ⟨A,hA⟩ : ∃ A,A = (l.all FM.rightSpace && decide (FM.room l <= sl)):=⟨_,rfl⟩
 rw [<- hA] at HNO HYE ⊢
 clear h hf hA
 go_enter Tryz.func37,Tryz.ntmps37
 go_wp2
 go_loopw [8] (fun iv wr=>∃ k : Nat,k <= l.length /\ iv = .int .i64 (k : Int) /\ (∀ j,j < k -> FM.rightSpace (FM.spAt l j) = true) /\ wr.heap[w.heap.size]? = some (.cells #[.int .i64 sl,.slice az l.length cs,.slice ar nr cr,.slice ao no co] 30 (0,0)) /\ Below w.heap.size w wr) (fun iv _=>l.length - (intOf iv).toNat)
 case atStart=>exact ⟨0,by omega,rfl,fun j hj=>by omega,X0.out,HB0.out⟩
 case round =>
  obtain ⟨k,hk,rfl,hall,hx,hb⟩:=hrel
  have HB:=hideC hb
  have HX:=hideC hx
  have HAL:=hideC hall
  clear hall hx
  by_cases hlt : k < l.length
  · obtain ⟨b,off,hao,hbl,hlie⟩:=(HH.out.below hb) (by omega)
    subst hao
    obtain ⟨va,ap,cp,c0,c1,c2,c3,c4,c5⟩:=hlie k hlt
    have hfk:=HF.out.2 k hlt
    obtain ⟨aa,na,ca,rfl⟩:=isSl c3
    have HT : Hid (∀ W,Below wr.heap.size wr W -> Calls Tryz.prog 73 #[.agg #[.bool (FM.spAt l k).live,.slice aa na ca,.slice ap (FM.spAt l k).pages.length cp]] W fun e w'=>e = .returned (.bool (FM.rightSpace (FM.spAt l k))) /\ Below W.heap.size W w'):=fun W hW=>rightSpace_any _ _ _ _ _ (c3.below hW) (c4.below hW) hfk c5
    have HNO2:=hideC (HNO.out k hlt)
    obtain ⟨n,hnn⟩ : ∃ n,n = (FM.spAt l k).pages.length:=⟨_,rfl⟩
    obtain ⟨lv,hlv⟩ : ∃ lv,lv = (FM.spAt l k).live:=⟨_,rfl⟩
    have HYS : Hid (FM.rightSpace (FM.spAt l k) = true -> ∀ j,j < k + 1 -> FM.rightSpace (FM.spAt l j) = true):=fun e j hj=>by
     by_cases q : j = k
     · rw [q];exact e
     · exact HAL.out j (by omega)
    obtain ⟨T,hT⟩ : ∃ T,T = FM.rightSpace (FM.spAt l k):=⟨_,rfl⟩
    rw [<- hnn] at c2 HT
    rw [<- hlv] at c0 HT
    rw [<- hT] at HT HNO2 HYS
    clear hnn hlv hT c3 c4 c5 hfk hlie hb HAL
    have HBA:=hideC (HB.out.alloc HB.out.size (.cells #[.bool lv,.slice aa na ca,.slice ap n cp] 53))
    have XA:=hideC (B.alloc HX.out (.cells #[.bool lv,.slice aa na ca,.slice ap n cp] 53))
    cases T with
    | true =>
     have HY2:=hideC (HYS.out rfl)
     clear HYS HNO2
     go_wp2_with (go_at_call 73;refine (HT.out _ ((Below.refl _ _).alloc (Nat.le_refl _) _)).mono ?_;rintro e w1 ⟨rfl,hb1⟩;have HB1:=hideC (add_below HBA.out hb1);have X1:=hideC (B.below XA.out hb1 (B.isLt XA.out));clear hb1)
     go_roundw
     case rel=>exact ⟨k + 1,by omega,by go_num,HY2.out,X1.out,HB1.out⟩
     case measure=>simp [intOf];omega
    | false =>
     have HN2:=hideC (HNO2.out rfl)
     clear HYS HNO2
     go_wp2_with (go_at_call 73;refine (HT.out _ ((Below.refl _ _).alloc (Nat.le_refl _) _)).mono ?_;rintro e w1 ⟨rfl,hb1⟩;have HB1:=hideC (add_below HBA.out hb1);clear hb1)
     go_ret
     exact ⟨ret_bool HN2.out.symm,HB1.out⟩
  · obtain rfl : k = l.length:=by omega
    have HY2:=hideC (HYE.out HAL.out)
    clear hb HYE HNO HAL
    go_wp2_with fail
    have hkin:=Q.kin_some wr
    have hkc:=@Q.cell_kin wr
    have hlw:=B.isLt HX.out
    have x0 : wr.cell? ⟨w.heap.size,0,none⟩ = some (.int .i64 sl):=B.cell HX.out 0 rfl
    have x1 : wr.cell? ⟨w.heap.size,1,none⟩ = some (.slice az l.length cs):=B.cell HX.out 1 rfl
    have c0 : ∀ x : Q.Kin wr.heap.size wr,x.world.cell? ⟨w.heap.size,0,none⟩ = some (.int .i64 sl):=fun x=>by rw [hkc x _ _ hlw];exact x0
    have c1 : ∀ x : Q.Kin wr.heap.size wr,x.world.cell? ⟨w.heap.size,1,none⟩ = some (.slice az l.length cs):=fun x=>by rw [hkc x _ _ hlw];exact x1
    clear hkc x0 x1
    have HT2 : Hid (∀ x : Q.Kin wr.heap.size wr,Calls Tryz.prog 74 #[.slice az l.length cs] x.world fun e w'=>e = .returned (.int .i64 (FM.room l)) /\ ∃ y : Q.Kin wr.heap.size wr,w' = y.world):=fun x=>(HTT.out x.world (add_below HB.out x.keeps)).mono fun e w'' ⟨he,hb⟩=>⟨he,⟨w'',x.keeps.trans (hb.mono x.keeps.size)⟩,rfl⟩
    obtain ⟨R,hR⟩ : ∃ R,R = FM.room l:=⟨_,rfl⟩
    rw [<- hR] at HT2 HY2
    clear hR
    refine Q.region_kin (by kernel_rfl) (by kernel_rfl) ?_
    repeat (first | go_big_quiet_step ((go_at_call 74;exact HT2.out _)) | quiet_step ((go_at_call 74;exact HT2.out _)))
    refine wpQuiet_nil ?_
    intro _ hw'
    obtain ⟨x,hw''⟩:=hw'
    subst hw''
    go_wp2
    go_ret
    exact ⟨ret_bool HY2.out.symm,add_below HB.out x.keeps⟩
def LieR (w : World) (b off : Nat) (l : List PM.Pr) : Prop:=∀ i,i < l.length -> w.cell? ⟨b,off + i * 13,none⟩ = some (.int .i64 ((FM.prAt l i).r 0)) /\ w.cell? ⟨b,off + i * 13 + 1,none⟩ = some (.int .i64 ((FM.prAt l i).r 1)) /\ w.cell? ⟨b,off + i * 13 + 2,none⟩ = some (.int .i64 ((FM.prAt l i).r 2)) /\ w.cell? ⟨b,off + i * 13 + 3,none⟩ = some (.int .i64 ((FM.prAt l i).r 3)) /\ w.cell? ⟨b,off + i * 13 + 4,none⟩ = some (.int .i64 ((FM.prAt l i).r 4)) /\ w.cell? ⟨b,off + i * 13 + 5,none⟩ = some (.int .i64 ((FM.prAt l i).r 5)) /\ w.cell? ⟨b,off + i * 13 + 6,none⟩ = some (.int .i64 ((FM.prAt l i).r 6)) /\ w.cell? ⟨b,off + i * 13 + 7,none⟩ = some (.int .i64 ((FM.prAt l i).r 7)) /\ w.cell? ⟨b,off + i * 13 + 8,none⟩ = some (.int .i64 (FM.prAt l i).pc) /\ w.cell? ⟨b,off + i * 13 + 9,none⟩ = some (.int .i64 (FM.prAt l i).st) /\ w.cell? ⟨b,off + i * 13 + 10,none⟩ = some (.int .i64 (FM.prAt l i).cd) /\ w.cell? ⟨b,off + i * 13 + 11,none⟩ = some (.int .i64 (FM.prAt l i).fk) /\ w.cell? ⟨b,off + i * 13 + 12,none⟩ = some (.int .i64 (FM.prAt l i).fa)
theorem lieR {w w' : World} {b off : Nat} {l : List PM.Pr} (hb : Below w.heap.size w w') (hlt : b < w.heap.size) (h : LieR w b off l) : LieR w' b off l:=fun i hi=>by
 obtain ⟨c0,c1,c2,c3,c4,c5,c6,c7,c8,c9,c10,c11,c12⟩:=h i hi
 exact ⟨(M.below_cell hb hlt).trans c0,(M.below_cell hb hlt).trans c1,(M.below_cell hb hlt).trans c2,(M.below_cell hb hlt).trans c3,(M.below_cell hb hlt).trans c4,(M.below_cell hb hlt).trans c5,(M.below_cell hb hlt).trans c6,(M.below_cell hb hlt).trans c7,(M.below_cell hb hlt).trans c8,(M.below_cell hb hlt).trans c9,(M.below_cell hb hlt).trans c10,(M.below_cell hb hlt).trans c11,(M.below_cell hb hlt).trans c12⟩
def HasR (w : World) (ao : Option Addr) (l : List PM.Pr) : Prop:=M.HasBy LieR w ao l
theorem HasR.below {w w' : World} {ao : Option Addr} {l : List PM.Pr} (h : HasR w ao l) (hb : Below w.heap.size w w') : HasR w' ao l:=M.HasBy.below (lie:=LieR) (fun hb hlt h=>lieR hb hlt h) h hb
def LieW (w : World) (b off : Nat) (l : List FM.Wd) : Prop:=∀ i,i < l.length -> w.cell? ⟨b,off + i * 2,none⟩ = some (.int .i64 (FM.wdAt l i).proc) /\ w.cell? ⟨b,off + i * 2 + 1,none⟩ = some (.int .i64 (FM.wdAt l i).value)
theorem lieW {w w' : World} {b off : Nat} {l : List FM.Wd} (hb : Below w.heap.size w w') (hlt : b < w.heap.size) (h : LieW w b off l) : LieW w' b off l:=fun i hi=>by
 obtain ⟨c0,c1⟩:=h i hi
 exact ⟨(M.below_cell hb hlt).trans c0,(M.below_cell hb hlt).trans c1⟩
def HasW (w : World) (ao : Option Addr) (l : List FM.Wd) : Prop:=M.HasBy LieW w ao l
theorem HasW.below {w w' : World} {ao : Option Addr} {l : List FM.Wd} (h : HasW w ao l) (hb : Below w.heap.size w w') : HasW w' ao l:=M.HasBy.below (lie:=LieW) (fun hb hlt h=>lieW hb hlt h) h hb
set_option maxHeartbeats 4000000 in
theorem right_procs (l : List PM.Pr) (o : List FM.Wd) (lv : Nat -> Bool) (ar ao : Option Addr) (cr co P : Nat) (w : World) (h : HasR w ar l) (ho : HasW w ao o) (hn : l.length <= 140737488351232) (hno : o.length <= 140737488351232)
  (hlv : ∀ k,k < l.length -> ∀ V,Below w.heap.size w V -> Calls Tryz.prog 39 #[.int .i64 (k : Int),.pointer (some ⟨P,0,none⟩)] V fun e w'=>e = .returned (.bool (lv k)) /\ Below V.heap.size V w') :
  Calls Tryz.prog 38 #[.slice ar l.length cr,.slice ao o.length co,.func (.func 39) #[] #[.pointer (some ⟨P,0,none⟩)]] w fun e w'=>e = .returned (.bool (FM.rightN l o lv)) /\ Below w.heap.size w w':=by
 have HH:=hideC h
 have HO:=hideC ho
 have HLV:=hideC hlv
 have HPS : Hid (∀ k,FM.procsTo l lv (k + 1) = (FM.procsTo l lv k && FM.procAt l lv k)):=fun k=>rfl
 have HPF : Hid (∀ k,k <= l.length -> FM.procsTo l lv k = false -> FM.rightN l o lv = false):=fun k hk e=>by
  unfold FM.rightN
  rw [FM.procs_false e _ hk,Bool.false_and]
 have HWF : Hid (∀ k,k <= o.length -> FM.wordsTo o l.length k = false -> FM.rightN l o lv = false):=fun k hk e=>by
  unfold FM.rightN
  rw [FM.words_false e _ hk,Bool.and_false]
 have HYE : Hid (FM.procsTo l lv l.length = true -> FM.wordsTo o l.length o.length = true -> FM.rightN l o lv = true):=fun h1 h2=>by
  unfold FM.rightN
  rw [h1,h2]
  rfl
 obtain ⟨A,hA⟩ : ∃ A,A = FM.rightN l o lv:=⟨_,rfl⟩
 rw [<- hA] at HPF HWF HYE ⊢
 clear h ho hlv hA
 go_enter Tryz.func38,Tryz.ntmps38
 go_wp2
 go_loopw [13] (fun iv wr=>∃ k : Nat,k <= l.length /\ iv = .int .i64 (k : Int) /\ FM.procsTo l lv k = true /\ Below w.heap.size w wr) (fun iv _=>l.length - (intOf iv).toNat)
 case atStart=>exact ⟨0,by omega,rfl,rfl,Below.refl _ _⟩
 case round =>
  obtain ⟨k,hk,rfl,hall,hb⟩:=hrel
  have HB:=hideC hb
  have HAL:=hideC hall
  clear hall
  by_cases hlt : k < l.length
  · obtain ⟨b,off,hao,hbl,hlie⟩:=(HH.out.below hb) (by omega)
    subst hao
    obtain ⟨c0,c1,c2,c3,c4,c5,c6,c7,c8,c9,c10,c11,c12⟩:=hlie k hlt
    have HPK : Hid (FM.procsTo l lv (k + 1) = (FM.rightProc (FM.prAt l k) && lv k == ((FM.prAt l k).st == 1))):=by
     show _ = _
     rw [HPS.out,HAL.out,Bool.true_and]
     unfold FM.procAt
     congr 2
    have HPF2:=hideC (HPF.out (k + 1) (by omega))
    obtain ⟨q,hq⟩ : ∃ q,q = FM.prAt l k:=⟨_,rfl⟩
    rw [<- hq] at HPK c0 c1 c2 c3 c4 c5 c6 c7 c8 c9 c10 c11 c12
    have HRP : Hid (∀ V,Calls Tryz.prog 75 #[.agg #[.int .i64 (q.r 0),.int .i64 (q.r 1),.int .i64 (q.r 2),.int .i64 (q.r 3),.int .i64 (q.r 4),.int .i64 (q.r 5),.int .i64 (q.r 6),.int .i64 (q.r 7),.int .i64 q.pc,.int .i64 q.st,.int .i64 q.cd,.int .i64 q.fk,.int .i64 q.fa]] V fun e w'=>e = .returned (.bool (FM.rightProc q)) /\ Below V.heap.size V w'):=fun V=>rightProc_any q V
    have HLK:=hideC (HLV.out k hlt)
    obtain ⟨L,hL⟩ : ∃ L,L = lv k:=⟨_,rfl⟩
    rw [<- hL] at HPK HLK
    obtain ⟨T,hT⟩ : ∃ T,T = FM.rightProc q:=⟨_,rfl⟩
    rw [<- hT] at HPK HRP
    clear hq hL hT hlie hb
    have HBA:=hideC (HB.out.alloc HB.out.size (.cells #[.int .i64 (q.r 0),.int .i64 (q.r 1),.int .i64 (q.r 2),.int .i64 (q.r 3),.int .i64 (q.r 4),.int .i64 (q.r 5),.int .i64 (q.r 6),.int .i64 (q.r 7),.int .i64 q.pc,.int .i64 q.st,.int .i64 q.cd,.int .i64 q.fk,.int .i64 q.fa] 70))
    go_wp2_with fail
    obtain ⟨W,hW⟩ : ∃ W,W = wr.alloc (.cells #[.int .i64 (q.r 0),.int .i64 (q.r 1),.int .i64 (q.r 2),.int .i64 (q.r 3),.int .i64 (q.r 4),.int .i64 (q.r 5),.int .i64 (q.r 6),.int .i64 (q.r 7),.int .i64 q.pc,.int .i64 q.st,.int .i64 q.cd,.int .i64 q.fk,.int .i64 q.fa] 70):=⟨_,rfl⟩
    have HW:=hideC hW
    have hs : W.heap.size = wr.heap.size + 1:=by rw [hW];simp
    have hkin:=Q.kin_some W
    have hkc:=@Q.cell_kin W
    have e0 : ∀ x : Q.Kin W.heap.size W,x.world.cell? ⟨wr.heap.size,0,none⟩ = some (.int .i64 (q.r 0)):=fun x=>by rw [hkc x _ _ (by omega),hW];simp
    have e1 : ∀ x : Q.Kin W.heap.size W,x.world.cell? ⟨wr.heap.size,1,none⟩ = some (.int .i64 (q.r 1)):=fun x=>by rw [hkc x _ _ (by omega),hW];simp
    have e2 : ∀ x : Q.Kin W.heap.size W,x.world.cell? ⟨wr.heap.size,2,none⟩ = some (.int .i64 (q.r 2)):=fun x=>by rw [hkc x _ _ (by omega),hW];simp
    have e3 : ∀ x : Q.Kin W.heap.size W,x.world.cell? ⟨wr.heap.size,3,none⟩ = some (.int .i64 (q.r 3)):=fun x=>by rw [hkc x _ _ (by omega),hW];simp
    have e4 : ∀ x : Q.Kin W.heap.size W,x.world.cell? ⟨wr.heap.size,4,none⟩ = some (.int .i64 (q.r 4)):=fun x=>by rw [hkc x _ _ (by omega),hW];simp
    have e5 : ∀ x : Q.Kin W.heap.size W,x.world.cell? ⟨wr.heap.size,5,none⟩ = some (.int .i64 (q.r 5)):=fun x=>by rw [hkc x _ _ (by omega),hW];simp
    have e6 : ∀ x : Q.Kin W.heap.size W,x.world.cell? ⟨wr.heap.size,6,none⟩ = some (.int .i64 (q.r 6)):=fun x=>by rw [hkc x _ _ (by omega),hW];simp
    have e7 : ∀ x : Q.Kin W.heap.size W,x.world.cell? ⟨wr.heap.size,7,none⟩ = some (.int .i64 (q.r 7)):=fun x=>by rw [hkc x _ _ (by omega),hW];simp
    have e8 : ∀ x : Q.Kin W.heap.size W,x.world.cell? ⟨wr.heap.size,8,none⟩ = some (.int .i64 q.pc):=fun x=>by rw [hkc x _ _ (by omega),hW];simp
    have e9 : ∀ x : Q.Kin W.heap.size W,x.world.cell? ⟨wr.heap.size,9,none⟩ = some (.int .i64 q.st):=fun x=>by rw [hkc x _ _ (by omega),hW];simp
    have e10 : ∀ x : Q.Kin W.heap.size W,x.world.cell? ⟨wr.heap.size,10,none⟩ = some (.int .i64 q.cd):=fun x=>by rw [hkc x _ _ (by omega),hW];simp
    have e11 : ∀ x : Q.Kin W.heap.size W,x.world.cell? ⟨wr.heap.size,11,none⟩ = some (.int .i64 q.fk):=fun x=>by rw [hkc x _ _ (by omega),hW];simp
    have e12 : ∀ x : Q.Kin W.heap.size W,x.world.cell? ⟨wr.heap.size,12,none⟩ = some (.int .i64 q.fa):=fun x=>by rw [hkc x _ _ (by omega),hW];simp
    have HBW : Hid (Below w.heap.size w W):=by show Below _ _ _;rw [hW];exact HBA.out
    clear hW hs hkc c0 c1 c2 c3 c4 c5 c6 c7 c8 c9 c10 c11 c12
    rw [<- HW.out]
    have HR2 : Hid (∀ x : Q.Kin W.heap.size W,Calls Tryz.prog 75 #[.agg #[.int .i64 (q.r 0),.int .i64 (q.r 1),.int .i64 (q.r 2),.int .i64 (q.r 3),.int .i64 (q.r 4),.int .i64 (q.r 5),.int .i64 (q.r 6),.int .i64 (q.r 7),.int .i64 q.pc,.int .i64 q.st,.int .i64 q.cd,.int .i64 q.fk,.int .i64 q.fa]] x.world fun e w'=>e = .returned (.bool T) /\ ∃ y : Q.Kin W.heap.size W,w' = y.world):=fun x=>Q.calls_kin HRP.out x
    have HL2 : Hid (∀ x : Q.Kin W.heap.size W,Calls Tryz.prog 39 #[.int .i64 (k : Int),.pointer (some ⟨P,0,none⟩)] x.world fun e w'=>e = .returned (.bool L) /\ ∃ y : Q.Kin W.heap.size W,w' = y.world):=fun x=>(HLK.out x.world (add_below HBW.out x.keeps)).mono fun e w'' ⟨he,hb⟩=>⟨he,⟨w'',x.keeps.trans (hb.mono x.keeps.size)⟩,rfl⟩
    clear HRP HLK
    cases T with
    | false =>
     have HN2:=hideC (HPF2.out (by rw [HPK.out,Bool.false_and]))
     clear HPK HPF2
     refine Q.region_kin (by kernel_rfl) (by kernel_rfl) ?_
     repeat (first | go_big_quiet_step ((first | (go_at_call 75;exact HR2.out _) | (go_at_call 39;exact HL2.out _))) | quiet_step ((first | (go_at_call 75;exact HR2.out _) | (go_at_call 39;exact HL2.out _))))
     refine wpQuiet_nil ?_
     intro _ hw'
     obtain ⟨x,hw''⟩:=hw'
     subst hw''
     go_wp2
     go_ret
     exact ⟨ret_bool HN2.out.symm,add_below HBW.out x.keeps⟩
    | true =>
     rw [Bool.true_and] at HPK
     obtain ⟨S,hS⟩ : ∃ S,(q.st == 1) = S:=⟨_,rfl⟩
     rw [hS] at HPK
     cases L with
     | false =>
      cases S with
      | false =>
       have HY2 : Hid (FM.procsTo l lv (k + 1) = true):=HPK
       clear HPK HPF2
       refine Q.region_kin (by kernel_rfl) (by kernel_rfl) ?_
       repeat (first | go_big_quiet_step ((first | (go_at_call 75;exact HR2.out _) | (go_at_call 39;exact HL2.out _))) | quiet_step ((first | (go_at_call 75;exact HR2.out _) | (go_at_call 39;exact HL2.out _))))
       refine wpQuiet_nil ?_
       intro _ hw'
       obtain ⟨x,hw''⟩:=hw'
       subst hw''
       go_wp2
       go_roundw
       case rel=>exact ⟨k + 1,by omega,by go_num,HY2.out,add_below HBW.out x.keeps⟩
       case measure=>simp [intOf];omega
      | true =>
       have HN2:=hideC (HPF2.out HPK.out)
       clear HPK HPF2
       refine Q.region_kin (by kernel_rfl) (by kernel_rfl) ?_
       repeat (first | go_big_quiet_step ((first | (go_at_call 75;exact HR2.out _) | (go_at_call 39;exact HL2.out _))) | quiet_step ((first | (go_at_call 75;exact HR2.out _) | (go_at_call 39;exact HL2.out _))))
       refine wpQuiet_nil ?_
       intro _ hw'
       obtain ⟨x,hw''⟩:=hw'
       subst hw''
       go_wp2
       go_ret
       exact ⟨ret_bool HN2.out.symm,add_below HBW.out x.keeps⟩
     | true =>
      cases S with
      | true =>
       have HY2 : Hid (FM.procsTo l lv (k + 1) = true):=HPK
       clear HPK HPF2
       refine Q.region_kin (by kernel_rfl) (by kernel_rfl) ?_
       repeat (first | go_big_quiet_step ((first | (go_at_call 75;exact HR2.out _) | (go_at_call 39;exact HL2.out _))) | quiet_step ((first | (go_at_call 75;exact HR2.out _) | (go_at_call 39;exact HL2.out _))))
       refine wpQuiet_nil ?_
       intro _ hw'
       obtain ⟨x,hw''⟩:=hw'
       subst hw''
       go_wp2
       go_roundw
       case rel=>exact ⟨k + 1,by omega,by go_num,HY2.out,add_below HBW.out x.keeps⟩
       case measure=>simp [intOf];omega
      | false =>
       have HN2:=hideC (HPF2.out HPK.out)
       clear HPK HPF2
       refine Q.region_kin (by kernel_rfl) (by kernel_rfl) ?_
       repeat (first | go_big_quiet_step ((first | (go_at_call 75;exact HR2.out _) | (go_at_call 39;exact HL2.out _))) | quiet_step ((first | (go_at_call 75;exact HR2.out _) | (go_at_call 39;exact HL2.out _))))
       refine wpQuiet_nil ?_
       intro _ hw'
       obtain ⟨x,hw''⟩:=hw'
       subst hw''
       go_wp2
       go_ret
       exact ⟨ret_bool HN2.out.symm,add_below HBW.out x.keeps⟩
  · obtain rfl : k = l.length:=by omega
    have HYE2:=hideC (HYE.out HAL.out)
    clear hb HYE HPF HPS HLV HAL
    go_wp2
    go_loopw [33] (fun iv wq=>∃ j : Nat,j <= o.length /\ iv = .int .i64 (j : Int) /\ FM.wordsTo o l.length j = true /\ Below w.heap.size w wq) (fun iv _=>o.length - (intOf iv).toNat)
    case atStart=>exact ⟨0,by omega,rfl,rfl,HB.out⟩
    case round =>
     obtain ⟨j,hj,rfl,hall,hbj⟩:=hrel
     have HBJ:=hideC hbj
     have HAJ:=hideC hall
     clear hall HB
     by_cases hlt2 : j < o.length
     · obtain ⟨b,off,hao,hbl,hlie⟩:=(HO.out.below hbj) (by omega)
       subst hao
       obtain ⟨c0,c1⟩:=hlie j hlt2
       have HWK : Hid (FM.wordsTo o l.length (j + 1) = decide (0 <= (FM.wdAt o j).proc /\ (FM.wdAt o j).proc < (l.length : Int))):=by
        show (FM.wordsTo o l.length j && _) = _
        rw [HAJ.out,Bool.true_and]
        rfl
       have HWF2:=hideC (HWF.out (j + 1) (by omega))
       obtain ⟨⟨wp,wv⟩,hq⟩ : ∃ q,q = FM.wdAt o j:=⟨_,rfl⟩
       rw [<- hq] at HWK c0 c1
       simp only at c0 c1
       have HWK2 : Hid (FM.wordsTo o l.length (j + 1) = decide (0 <= wp /\ wp < (l.length : Int))):=HWK
       clear hq hlie hbj HAJ HWK
       have HBA:=hideC (HBJ.out.alloc HBJ.out.size (.cells #[.int .i64 wp,.int .i64 wv] 78))
       by_cases h0 : wp < 0
       · have HN2:=hideC (HWF2.out (by rw [HWK2.out];simp;omega))
         clear HWK2 HWF2
         go_wp2
         go_ret
         exact ⟨ret_bool HN2.out.symm,HBA.out⟩
       · by_cases h1 : (l.length : Int) <= wp
         · have HN2:=hideC (HWF2.out (by rw [HWK2.out];simp;omega))
           clear HWK2 HWF2
           go_wp2
           go_ret
           exact ⟨ret_bool HN2.out.symm,HBA.out⟩
         · have HY2 : Hid (FM.wordsTo o l.length (j + 1) = true):=by show _ = _;rw [HWK2.out];simp;omega
           clear HWK2 HWF2
           go_wp2
           go_roundw
           case rel=>exact ⟨j + 1,by omega,by go_num,HY2.out,HBA.out⟩
           case measure=>simp [intOf];omega
     · obtain rfl : j = o.length:=by omega
       have HY2:=hideC (HYE2.out HAJ.out)
       clear hbj
       go_wp2
       go_ret
       exact ⟨ret_bool HY2.out.symm,HBJ.out⟩
set_option maxHeartbeats 1000000 in
theorem check1_any (l : List FM.Sp) (az : Option Addr) (cs P k : Nat) (w : World) (h : HasS w az l) (hk : k < l.length) (hn : l.length <= 140737488351232) (hP : w.cell? ⟨P,1,none⟩ = some (.slice az l.length cs)) :
  Calls Tryz.prog 39 #[.int .i64 (k : Int),.pointer (some ⟨P,0,none⟩)] w fun e w'=>e = .returned (.bool (FM.spAt l k).live) /\ Below w.heap.size w w':=by
 obtain ⟨b,off,hao,hbl,hlie⟩:=h (by omega)
 subst hao
 obtain ⟨va,ap,cp,c0,c1,c2,c3,c4,c5⟩:=hlie k hk
 clear hlie c1 c2 c3 c4 c5 h
 obtain ⟨lv,hlv⟩ : ∃ lv,lv = (FM.spAt l k).live:=⟨_,rfl⟩
 rw [<- hlv] at c0 ⊢
 clear hlv
 go_enter Tryz.func39,Tryz.ntmps39
 go_wp2
 go_ret
 exact ⟨rfl,Below.refl _ _⟩
structure HasFl (w : World) (f : FM.Fl) (az ar ao : Option Addr) : Prop where
 spaces : HasS w az f.spaces
 procs : HasR w ar f.procs
 out : HasW w ao f.out
theorem HasFl.below {w w' : World} {f : FM.Fl} {az ar ao : Option Addr} (h : HasFl w f az ar ao) (hb : Below w.heap.size w w') : HasFl w' f az ar ao:=⟨h.spaces.below hb,h.procs.below hb,h.out.below hb⟩
structure FitFl (f : FM.Fl) : Prop where
 slots : M.I64 f.slots
 spaces : FitSs f.spaces
 procs : M.Short f.procs.length
 out : M.Short f.out.length
def flCells (f : FM.Fl) (az ar ao : Option Addr) (cs cr co : Nat) : Array Value:=#[.int .i64 f.slots,.slice az f.spaces.length cs,.slice ar f.procs.length cr,.slice ao f.out.length co]
set_option maxHeartbeats 2000000 in
theorem check_any (f : FM.Fl) (az ar ao : Option Addr) (cs cr co : Nat) (w : World) (h : HasFl w f az ar ao) (hf : FitFl f) :
  Calls Tryz.prog 12 #[.agg (flCells f az ar ao cs cr co)] w fun e w'=>e = .returned (.int .i64 (FM.checkF f)) /\ Below w.heap.size w w':=by
 have HH:=hideC h
 have HF:=hideC hf
 obtain ⟨sl,ss,ps,os⟩:=f
 unfold flCells
 simp only
 have HK : Hid (FM.checkF ⟨sl,ss,ps,os⟩ = if (decide (1 <= ss.length /\ ss.length <= 4) && (decide (ps.length = ss.length) && (decide (0 <= sl /\ sl <= 512) && decide (os.length <= 2000)))) = false then 2 else if (ss.all FM.rightSpace && decide (FM.room ss <= sl)) && FM.rightN ps os (fun k=>(FM.spAt ss k).live) then 0 else 1):=by
  show _ = _
  rw [<- FM.right_flat ⟨sl,ss,ps,os⟩]
  rfl
 obtain ⟨A,hA⟩ : ∃ A,A = FM.checkF ⟨sl,ss,ps,os⟩:=⟨_,rfl⟩
 rw [<- hA] at HK ⊢
 clear hA
 have HCN:=hideC (fun V=>counts_any sl az ar ao ss.length ps.length os.length cs cr co V)
 have HSP : Hid (ss.length <= 4 -> ∀ V,Below w.heap.size w V -> Calls Tryz.prog 37 #[.agg #[.int .i64 sl,.slice az ss.length cs,.slice ar ps.length cr,.slice ao os.length co]] V fun e w'=>e = .returned (.bool (ss.all FM.rightSpace && decide (FM.room ss <= sl))) /\ Below V.heap.size V w'):=fun hn V hV=>rightSpaces_any ss sl az ar ao ps.length os.length cs cr co V (h.spaces.below hV) hf.spaces (by omega)
 have HRT : Hid (ps.length = ss.length -> ∀ P V,Below w.heap.size w V -> V.heap[P]? = some (.cells #[.int .i64 sl,.slice az ss.length cs,.slice ar ps.length cr,.slice ao os.length co] 30 (0,0)) -> Calls Tryz.prog 38 #[.slice ar ps.length cr,.slice ao os.length co,.func (.func 39) #[] #[.pointer (some ⟨P,0,none⟩)]] V fun e w'=>e = .returned (.bool (FM.rightN ps os (fun k=>(FM.spAt ss k).live))) /\ Below V.heap.size V w'):=fun hn P V hV hP =>
  right_procs ps os (fun k=>(FM.spAt ss k).live) ar ao cr co P V (h.procs.below hV) (h.out.below hV) hf.procs hf.out (fun k hk U hU=>check1_any ss az cs P k U (h.spaces.below (add_below hV hU)) (by omega) hf.spaces.1 ((hU.cell (p:=⟨P,1,none⟩) (B.isLt hP)).trans (B.cell hP 1 rfl)))
 have HB0:=hideC ((Below.refl w.heap.size w).alloc (Nat.le_refl _) (.cells #[.int .i64 sl,.slice az ss.length cs,.slice ar ps.length cr,.slice ao os.length co] 30))
 have X0:=hideC (B.new w #[.int .i64 sl,.slice az ss.length cs,.slice ar ps.length cr,.slice ao os.length co] 30)
 have HQ : Hid ((decide (1 <= ss.length /\ ss.length <= 4) && (decide (ps.length = ss.length) && (decide (0 <= sl /\ sl <= 512) && decide (os.length <= 2000)))) = true -> ss.length <= 4 /\ ps.length = ss.length):=fun g=>by
  simp only [Bool.and_eq_true,decide_eq_true_eq] at g
  exact ⟨g.1.2,g.2.1⟩
 obtain ⟨C,hC⟩ : ∃ C,C = (decide (1 <= ss.length /\ ss.length <= 4) && (decide (ps.length = ss.length) && (decide (0 <= sl /\ sl <= 512) && decide (os.length <= 2000)))):=⟨_,rfl⟩
 rw [<- hC] at HK HCN HQ
 obtain ⟨D,hD⟩ : ∃ D,D = (ss.all FM.rightSpace && decide (FM.room ss <= sl)):=⟨_,rfl⟩
 rw [<- hD] at HK HSP
 obtain ⟨E,hE⟩ : ∃ E,E = FM.rightN ps os (fun k=>(FM.spAt ss k).live):=⟨_,rfl⟩
 rw [<- hE] at HK HRT
 clear hC hD hE h hf HH HF
 obtain ⟨ns,hns⟩ : ∃ ns,ns = ss.length:=⟨_,rfl⟩
 obtain ⟨nr,hnr⟩ : ∃ nr,nr = ps.length:=⟨_,rfl⟩
 obtain ⟨no,hno⟩ : ∃ no,no = os.length:=⟨_,rfl⟩
 rw [<- hns] at HCN HSP HRT HB0 X0 HQ ⊢
 rw [<- hnr] at HCN HSP HRT HB0 X0 HQ ⊢
 rw [<- hno] at HCN HSP HRT HB0 X0 ⊢
 clear hns hnr hno
 cases C with
 | false =>
  have HA2 : Hid (A = 2):=HK
  clear HK HSP HRT HQ
  go_enter Tryz.func12,Tryz.ntmps12
  go_wp2_with (go_at_call 36;refine (HCN.out _).mono ?_;rintro e w1 ⟨rfl,hb1⟩;have HB1:=hideC (add_below HB0.out hb1);clear hb1)
  go_ret
  exact ⟨by rw [HA2.out];rfl,HB1.out⟩
 | true =>
  have HSP2:=hideC (HSP.out (HQ.out rfl).1)
  have HRT2:=hideC (HRT.out (HQ.out rfl).2)
  clear HSP HRT HQ
  cases D with
  | false =>
   have HA2 : Hid (A = 1):=HK
   clear HK HRT2
   go_enter Tryz.func12,Tryz.ntmps12
   go_wp2_with (first
    | (go_at_call 36;refine (HCN.out _).mono ?_;rintro e w1 ⟨rfl,hb1⟩;have HB1:=hideC (add_below HB0.out hb1);have X1:=hideC (B.below X0.out hb1 (B.isLt X0.out));clear hb1;have x0 : w1.cell? ⟨w.heap.size,0,none⟩ = some (.int .i64 sl):=B.cell X1.out 0 rfl;have x1 : w1.cell? ⟨w.heap.size,1,none⟩ = some (.slice az ns cs):=B.cell X1.out 1 rfl;have x2 : w1.cell? ⟨w.heap.size,2,none⟩ = some (.slice ar nr cr):=B.cell X1.out 2 rfl;have x3 : w1.cell? ⟨w.heap.size,3,none⟩ = some (.slice ao no co):=B.cell X1.out 3 rfl)
    | (go_at_call 37;refine (HSP2.out _ HB1.out).mono ?_;rintro e w2 ⟨rfl,hb2⟩;have HB2:=hideC (add_below HB1.out hb2);clear hb2))
   go_ret
   exact ⟨by rw [HA2.out];rfl,HB2.out⟩
  | true =>
   cases E with
   | false =>
    have HA2 : Hid (A = 1):=HK
    clear HK
    go_enter Tryz.func12,Tryz.ntmps12
    go_wp2_with (first
    | (go_at_call 36;refine (HCN.out _).mono ?_;rintro e w1 ⟨rfl,hb1⟩;have HB1:=hideC (add_below HB0.out hb1);have X1:=hideC (B.below X0.out hb1 (B.isLt X0.out));clear hb1;have x0 : w1.cell? ⟨w.heap.size,0,none⟩ = some (.int .i64 sl):=B.cell X1.out 0 rfl;have x1 : w1.cell? ⟨w.heap.size,1,none⟩ = some (.slice az ns cs):=B.cell X1.out 1 rfl;have x2 : w1.cell? ⟨w.heap.size,2,none⟩ = some (.slice ar nr cr):=B.cell X1.out 2 rfl;have x3 : w1.cell? ⟨w.heap.size,3,none⟩ = some (.slice ao no co):=B.cell X1.out 3 rfl)
    | (go_at_call 37;refine (HSP2.out _ HB1.out).mono ?_;rintro e w2 ⟨rfl,hb2⟩;have HB2:=hideC (add_below HB1.out hb2);have X2:=hideC (B.below X1.out hb2 (B.isLt X1.out));clear hb2;have y0 : w2.cell? ⟨w.heap.size,0,none⟩ = some (.int .i64 sl):=B.cell X2.out 0 rfl;have y1 : w2.cell? ⟨w.heap.size,1,none⟩ = some (.slice az ns cs):=B.cell X2.out 1 rfl;have y2 : w2.cell? ⟨w.heap.size,2,none⟩ = some (.slice ar nr cr):=B.cell X2.out 2 rfl;have y3 : w2.cell? ⟨w.heap.size,3,none⟩ = some (.slice ao no co):=B.cell X2.out 3 rfl)
    | (go_at_call 38;refine (HRT2.out _ _ HB2.out X2.out).mono ?_;rintro e w3 ⟨rfl,hb3⟩;have HB3:=hideC (add_below HB2.out hb3);clear hb3))
    go_ret
    exact ⟨by rw [HA2.out];rfl,HB3.out⟩
   | true =>
    have HA2 : Hid (A = 0):=HK
    clear HK
    go_enter Tryz.func12,Tryz.ntmps12
    go_wp2_with (first
    | (go_at_call 36;refine (HCN.out _).mono ?_;rintro e w1 ⟨rfl,hb1⟩;have HB1:=hideC (add_below HB0.out hb1);have X1:=hideC (B.below X0.out hb1 (B.isLt X0.out));clear hb1;have x0 : w1.cell? ⟨w.heap.size,0,none⟩ = some (.int .i64 sl):=B.cell X1.out 0 rfl;have x1 : w1.cell? ⟨w.heap.size,1,none⟩ = some (.slice az ns cs):=B.cell X1.out 1 rfl;have x2 : w1.cell? ⟨w.heap.size,2,none⟩ = some (.slice ar nr cr):=B.cell X1.out 2 rfl;have x3 : w1.cell? ⟨w.heap.size,3,none⟩ = some (.slice ao no co):=B.cell X1.out 3 rfl)
    | (go_at_call 37;refine (HSP2.out _ HB1.out).mono ?_;rintro e w2 ⟨rfl,hb2⟩;have HB2:=hideC (add_below HB1.out hb2);have X2:=hideC (B.below X1.out hb2 (B.isLt X1.out));clear hb2;have y0 : w2.cell? ⟨w.heap.size,0,none⟩ = some (.int .i64 sl):=B.cell X2.out 0 rfl;have y1 : w2.cell? ⟨w.heap.size,1,none⟩ = some (.slice az ns cs):=B.cell X2.out 1 rfl;have y2 : w2.cell? ⟨w.heap.size,2,none⟩ = some (.slice ar nr cr):=B.cell X2.out 2 rfl;have y3 : w2.cell? ⟨w.heap.size,3,none⟩ = some (.slice ao no co):=B.cell X2.out 3 rfl)
    | (go_at_call 38;refine (HRT2.out _ _ HB2.out X2.out).mono ?_;rintro e w3 ⟨rfl,hb3⟩;have HB3:=hideC (add_below HB2.out hb3);clear hb3))
    go_ret
    exact ⟨by rw [HA2.out];rfl,HB3.out⟩
end FW
end Go.Proofs.YtkdigjpejnebkaaGreat
