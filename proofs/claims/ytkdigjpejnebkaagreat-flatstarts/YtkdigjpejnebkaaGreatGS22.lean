import Derived.Test.YtkdigjpejnebkaaGreatGS21
import Derived.Deep.AppendLies
import Derived.Deep.RegionLaw
import Derived.Lib.Repeat
import Derived.Test.YtkdigjpejnebkaaGreatGS19
import Derived.Test.YtkdigjpejnebkaaGreatGS07
import Derived.Test.YtkdigjpejnebkaaGreatGS20
import Derived.Test.YtkdigjpejnebkaaGreatGS00
set_option linter.unusedVariables false
set_option maxRecDepth 100000
set_option linter.unusedSimpArgs false
namespace Go.Proofs.YtkdigjpejnebkaaGreat
namespace LM
open Go.RowKit
def ixOf (all : List Li) (s : ByteArray) : Option Nat:=all.findIdx? (fun x=>decide (x.i.name = s))
def addIx (ix : List Nat) (j : Nat) : List Nat:=if ix.contains j then ix else ix ++ [j]
def ordTo (all : List Li) (ix : List Nat) (needs : List ByteArray) : Nat -> Option (List Nat)
 | 0=>some ix
 | k + 1=>match ordTo all ix needs k with
  | none=>none
  | some ix'=>match ixOf all (M.strAt needs k) with
   | none=>none
   | some j=>some (addIx ix' j)
def needsAt (all : List Li) (ix : List Nat) (n : Nat) : List ByteArray:=(liAt all (ix.getD n 0)).i.needs
def gat (all : List Li) : Nat -> Nat -> List Nat -> Option (List Nat)
 | 0,_,ix=>some ix
 | f + 1,n,ix=>if n < ix.length then (match ordTo all ix (needsAt all ix n) (needsAt all ix n).length with
  | none=>none
  | some ix'=>gat all f (n + 1) ix') else some ix
structure OkIx (all : List Li) (ix : List Nat) : Prop where
 pos : 0 < ix.length
 nodup : ix.Nodup
 lt : ∀ j ∈ ix,j < all.length
theorem pigeon : ∀ (L : Nat) (ix : List Nat),ix.Nodup -> (∀ j ∈ ix,j < L) -> ix.length <= L
 | 0,ix,_,h=>by
  cases ix with
  | nil=>exact Nat.le_refl _
  | cons x r=>exact absurd (h x List.mem_cons_self) (by omega)
 | L + 1,ix,hn,h=>by
  by_cases e : L ∈ ix
  · have h1:=pigeon L (ix.erase L) (hn.erase L) (fun j hj=>by
     have h2:=(List.Nodup.mem_erase_iff hn).1 hj
     have:=h j h2.2
     omega)
    rw [List.length_erase_of_mem e] at h1
    omega
  · have:=pigeon L ix hn (fun j hj=>by
     have h1:=h j hj
     have h2 : j ≠ L:=fun g=>e (g ▸ hj)
     omega)
    omega
theorem OkIx.le {all : List Li} {ix : List Nat} (h : OkIx all ix) : ix.length <= all.length:=pigeon _ _ h.nodup h.lt
def obsFrom (all : List Li) : Int -> List Nat -> List Ob
 | _,[]=>[]
 | b,j :: r=>⟨(liAt all j).i,(liAt all j).a,b⟩ :: obsFrom all (endO ⟨(liAt all j).i,(liAt all j).a,b⟩) r
def endFrom (all : List Li) : Int -> List Nat -> Int
 | b,[]=>b
 | b,j :: r=>endFrom all (endO ⟨(liAt all j).i,(liAt all j).a,b⟩) r
theorem obsFrom_length (all : List Li) : ∀ (ix : List Nat) (b : Int),(obsFrom all b ix).length = ix.length
 | [],_=>rfl
 | j :: r,b=>by simp only [obsFrom,List.length_cons,obsFrom_length all r]
theorem obsFrom_snoc (all : List Li) (j : Nat) : ∀ (ix : List Nat) (b : Int),obsFrom all b (ix ++ [j]) = obsFrom all b ix ++ [⟨(liAt all j).i,(liAt all j).a,endFrom all b ix⟩]
 | [],b=>rfl
 | k :: r,b=>by simp only [List.cons_append,obsFrom,endFrom,obsFrom_snoc all j r]
theorem endFrom_snoc (all : List Li) (j : Nat) : ∀ (ix : List Nat) (b : Int),endFrom all b (ix ++ [j]) = endO ⟨(liAt all j).i,(liAt all j).a,endFrom all b ix⟩
 | [],b=>rfl
 | k :: r,b=>by simp only [List.cons_append,endFrom,endFrom_snoc all j r]
theorem obsFrom_at (all : List Li) : ∀ (ix : List Nat) (b : Int) (k : Nat),k < ix.length -> (obAt (obsFrom all b ix) k).i = (liAt all (ix.getD k 0)).i /\ (obAt (obsFrom all b ix) k).a = (liAt all (ix.getD k 0)).a /\ (obAt (obsFrom all b ix) k).base = endFrom all b (ix.take k)
 | [],_,k,hk=>by simp at hk
 | j :: r,b,0,_=>⟨rfl,rfl,rfl⟩
 | j :: r,b,k + 1,hk=>by
  have:=obsFrom_at all r (endO ⟨(liAt all j).i,(liAt all j).a,b⟩) k (by simpa using hk)
  simpa [obAt,obsFrom,endFrom] using this
theorem obsFrom_last (all : List Li) (ix : List Nat) (b : Int) (h : 0 < ix.length) : endO (obAt (obsFrom all b ix) (ix.length - 1)) = endFrom all b ix:=by
 obtain ⟨r,j,rfl⟩ : ∃ r j,ix = r ++ [j]:=⟨ix.dropLast,ix.getLast (by intro e;subst e;simp at h),(List.dropLast_concat_getLast _).symm⟩
 rw [obsFrom_snoc,endFrom_snoc]
 have e : (r ++ [j]).length - 1 = (obsFrom all b r).length:=by rw [obsFrom_length];simp
 rw [e]
 unfold obAt
 rw [List.getD_eq_getElem?_getD,List.getElem?_append_right (Nat.le_refl _)]
 simp
theorem getD_mem (ix : List Nat) (k : Nat) (h : k < ix.length) : ix.getD k 0 ∈ ix:=by
 rw [List.getD_eq_getElem?_getD,List.getElem?_eq_getElem h]
 exact List.getElem_mem h
theorem endFrom_bounds (all : List Li) (hc : ∀ j,j < all.length -> M.chkN (liAt all j).i = 0) : ∀ (ix : List Nat) (b : Int),(∀ j ∈ ix,j < all.length) -> b <= endFrom all b ix /\ endFrom all b ix <= b + 255 * (ix.length : Int)
 | [],b,_=>by simp [endFrom]
 | j :: r,b,h=>by
  have hl:=last_bounds (hc j (h j List.mem_cons_self))
  have ih:=endFrom_bounds all hc r (endO ⟨(liAt all j).i,(liAt all j).a,b⟩) (fun k hk=>h k (List.mem_cons_of_mem _ hk))
  simp only [endFrom]
  have e : endO ⟨(liAt all j).i,(liAt all j).a,b⟩ = b + (lastSeg (liAt all j).i).page + (lastSeg (liAt all j).i).pages:=rfl
  rw [e] at ih ⊢
  simp only [List.length_cons]
  omega
end LM
namespace LW
open Go.RowKit Go.WideMaps Go.Maps
open W (hideC)
theorem flat_get {α : Type} (f : α -> List Value) (c : Nat) (hc : ∀ x,(f x).length = c) (d : α) : ∀ (l : List α) (i j : Nat),i < l.length -> j < c -> (l.flatMap f)[i * c + j]? = (f (l.getD i d))[j]?
 | a :: r,0,j,_,hj=>by
  rw [List.flatMap_cons,Nat.zero_mul,Nat.zero_add,List.getElem?_append_left (by rw [hc];exact hj)]
  rfl
 | a :: r,i + 1,j,hi,hj=>by
  rw [List.flatMap_cons,List.getElem?_append_right (by rw [hc,Nat.succ_mul];omega),hc,show (i + 1) * c + j - c = i * c + j by rw [Nat.succ_mul];omega]
  exact flat_get f c hc d r i j (by simpa using hi) hj
def OutG (all : List LM.Li) (R : Option (List Nat)) (w : World) (e : Ending) (w' : World) : Prop:=Below w.heap.size w w' /\ match R with
 | none=>e = .returned (.tuple #[.slice none 0 0,.bool false])
 | some ix=>LM.OkIx all ix /\ ∃ ao cap,e = .returned (.tuple #[.slice ao ix.length cap,.bool true]) /\ LM.HasO w' ao (LM.obsFrom all 1 ix)
structure Gi (all : List LM.Li) (m : Nat) (D : DataW Value) (w : World) : Prop where
 pos : 0 < all.length
 few : all.length <= 7
 chk : ∀ j,j < all.length -> M.chkN (LM.liAt all j).i = 0
 fit : ∀ j,j < all.length -> M.Fit (LM.liAt all j).i
 once : M.onceB (LM.namesL all) = true
 im : ∀ j,j < all.length -> M.HasIm w (LM.liAt all j).a (LM.liAt all j).i
 map : w.ownsMap Tryz.prog 9 LM.Rv m all.length D
 nm : LM.Nm all all.length D
theorem row_grown {w w' : World} {base : Nat} {e : TypeId} {size : Nat} {v : Value} {n : Nat} {xs : List Value} (h : w.ownsRow base e size v n xs) (hb : Below w.heap.size w w') : w'.ownsRow base e size v n xs:=by
 refine ⟨h.1,?_⟩
 rcases h.2 with h2 | ⟨g,cap,cur,hv,hbg,hg,rest⟩
 · exact .inl h2
 · exact .inr ⟨g,cap,cur,hv,hbg,(hb.block g (B.isLt hg)).trans hg,rest⟩
end LW
namespace LM
open Go.RowKit
def zeros16 : ByteArray:=⟨(Lib.repeatL [0] 16).toArray⟩
theorem zeros16_size : zeros16.size = 16:=rfl
def pageN (s : M.Sg) (n : Nat) : ByteArray:=CL.over zeros16 0 (s.data.extract (min (n * 16) s.data.size) (min (min (n * 16) s.data.size + 16) s.data.size))
theorem extract_size (s : ByteArray) (a b : Nat) (h1 : a <= b) (h2 : b <= s.size) : (s.extract a b).size = b - a:=by
 rw [ByteArray.size_extract]
 omega
structure Pt where
 pos : Int
 bytes : ByteArray
def pt0 : Pt:=⟨0,⟨#[]⟩⟩
def ptAt (l : List Pt) (k : Nat) : Pt:=l.getD k pt0
def LieP (w : World) (b off : Nat) (l : List Pt) : Prop:=∀ i,i < l.length -> w.cell? ⟨b,off + i * 2,none⟩ = some (.int .i64 (ptAt l i).pos) /\ w.cell? ⟨b,off + i * 2 + 1,none⟩ = some (.string (ptAt l i).bytes)
theorem lieP {w w' : World} {b off : Nat} {l : List Pt} (hb : Below w.heap.size w w') (hlt : b < w.heap.size) (h : LieP w b off l) : LieP w' b off l:=fun i hi=>by
 obtain ⟨c0,c1⟩:=h i hi
 exact ⟨(M.below_cell hb hlt).trans c0,(M.below_cell hb hlt).trans c1⟩
def HasP (w : World) (ao : Option Addr) (l : List Pt) : Prop:=M.HasBy LieP w ao l
theorem HasP.below {w w' : World} {ao : Option Addr} {l : List Pt} (h : HasP w ao l) (hb : Below w.heap.size w w') : HasP w' ao l:=M.HasBy.below (lie:=LieP) (fun hb hlt h=>lieP hb hlt h) h hb
def cellP (p : Pt) : List Value:=[.int .i64 p.pos,.string p.bytes]
def cellF (f : Fx) : List Value:=[.int .i64 f.off,.string f.bytes]
def FitP (p : Pt) : Prop:=0 <= p.pos /\ p.pos <= 1000000 /\ p.bytes.size = 8
def cutP (page : Int) (p : Pt) : List Fx:=if max (page * 16) p.pos < min (page * 16 + 16) (p.pos + 8) then [⟨max (page * 16) p.pos - page * 16,p.bytes.extract (max (page * 16) p.pos - p.pos).toNat (max (page * 16) p.pos - p.pos + (min (page * 16 + 16) (p.pos + 8) - max (page * 16) p.pos)).toNat⟩] else []
def fixesN (page : Int) (ps : List Pt) : List Fx:=ps.flatMap (cutP page)
theorem take_snoc {α : Type} (l : List α) (d : α) (k : Nat) (h : k < l.length) : l.take (k + 1) = l.take k ++ [l.getD k d]:=by
 rw [List.take_succ_eq_append_getElem h,List.getD_eq_getElem?_getD,List.getElem?_eq_getElem h]
 rfl
theorem cut_len (page : Int) (p : Pt) : (cutP page p).length <= 1:=by
 unfold cutP
 split <;> simp
theorem fixes_len (page : Int) : ∀ ps : List Pt,(fixesN page ps).length <= ps.length
 | []=>by simp [fixesN]
 | p :: r=>by
  have h1:=fixes_len page r
  have h2:=cut_len page p
  unfold fixesN at h1 ⊢
  rw [List.flatMap_cons,List.length_append,List.length_cons]
  omega
theorem fixesN_snoc (page : Int) (l : List Pt) (p : Pt) : fixesN page (l ++ [p]) = fixesN page l ++ cutP page p:=by
 unfold fixesN
 rw [List.flatMap_append]
 simp
end LM
namespace LW
open Go.RowKit
open W (hideC)
set_option maxHeartbeats 3000000 in
theorem sheetFine_any (s : LM.Sh) (w : World) (h : LM.HasF w s.ao s.fixes) (hf : LM.FitH s) :
  Calls Tryz.prog 98 #[.agg (LM.cellsH s)] w fun e w'=>e = .returned (.bool (LM.sheetB s)) /\ Below w.heap.size w w':=by
 obtain ⟨f1,f2,f3,f4⟩:=hf
 obtain ⟨pg,dt,fs,ao,cap⟩:=s
 simp only at f1 f2 f3 f4
 unfold M.I64 at f1
 unfold M.Short at f2 f3
 simp only [LM.cellsH]
 have hdl : dt.size <= maxLen:=by unfold maxLen;omega
 have F4:=hideC f4
 have HH:=hideC h
 clear f4 h
 have HB:=hideC ((Below.refl w.heap.size w).alloc (Nat.le_refl _) (.cells #[.int .i64 pg,.string dt,.slice ao fs.length cap] 62))
 have BX:=hideC (B.new w #[.int .i64 pg,.string dt,.slice ao fs.length cap] 62)
 by_cases h1 : 1 <= pg /\ pg <= 255
 · have d1 : decide (1 <= pg /\ pg <= 255) = true:=decide_eq_true h1
   by_cases h3 : dt.size = 16
   · by_cases h4 : fs.length <= 16
     · have h3' : (dt.size : Int) = 16:=by omega
       have h4' : ¬ (16 : Int) < (fs.length : Int):=by omega
       have e : LM.headB ⟨pg,dt,fs,ao,cap⟩ = true:=by
        unfold LM.headB
        exact decide_eq_true ⟨h1.1,h1.2,h3⟩
       have E : Hid (LM.sheetB ⟨pg,dt,fs,ao,cap⟩ = LM.fixesTo fs fs.length):=by
        show _ = _
        unfold LM.sheetB
        rw [e,Bool.true_and]
       clear e h3
       go_enter Tryz.func98,Tryz.ntmps98
       go_wp2_with (go_at_call 27;refine (AW.within_any _ _ _ _).mono ?_;rintro e w' ⟨rfl,rfl⟩;rw [d1])
       go_loopw [4,3] (fun i en wr=>∃ k : Nat,k <= fs.length /\ i = .int .i64 k /\ en = .int .i64 (LM.endTo fs k) /\ LM.fixesTo fs k = true /\ Below w.heap.size w wr /\ wr.heap[w.heap.size]? = some (.cells #[.int .i64 pg,.string dt,.slice ao fs.length cap] 62 (0,0))) (fun i _ _=>fs.length - (intOf i).toNat)
       case atStart=>exact ⟨0,by omega,rfl,rfl,rfl,HB.out,BX.out⟩
       case round =>
        obtain ⟨k,hk,rfl,rfl,hg,hb,hbx⟩:=hrel
        have HG:=hideC hg
        have HBr:=hideC hb
        have BXr:=hideC hbx
        have x2:=B.cell hbx 2 rfl
        clear hg hbx
        by_cases hlt : k < fs.length
        · obtain ⟨b,off,hao,hbl,hlie⟩:=(HH.out.below hb) (by omega)
          subst hao
          obtain ⟨c0,c1⟩:=hlie k hlt
          obtain ⟨g1,g2⟩:=F4.out k hlt
          have hed:=LM.endTo_ge fs k HG.out
          obtain ⟨f,hfe⟩ : ∃ f,f = LM.fxAt fs k:=⟨_,rfl⟩
          rw [<- hfe] at c0 c1 g1 g2
          unfold M.I64 at g1
          unfold M.Short at g2
          have hfl : f.bytes.size <= maxLen:=by unfold maxLen;omega
          have HFE:=hideC hfe
          clear hfe hlie hb
          obtain ⟨en,hen⟩ : ∃ en,en = LM.endTo fs k:=⟨_,rfl⟩
          rw [<- hen] at hed
          have HEN:=hideC hen
          rw [<- hen]
          clear hen
          have HBA:=hideC (HBr.out.alloc HBr.out.size (.cells #[.int .i64 f.off,.string f.bytes] 121))
          have BXA:=hideC (B.alloc BXr.out (.cells #[.int .i64 f.off,.string f.bytes] 121))
          by_cases q1 : en <= f.off /\ f.off <= 16
          · have z1 : decide (en <= f.off /\ f.off <= 16) = true:=decide_eq_true q1
            by_cases q3 : 1 <= (f.bytes.size : Int) /\ (f.bytes.size : Int) <= 16 - f.off
            · have z2 : decide (1 <= (f.bytes.size : Int) /\ (f.bytes.size : Int) <= 16 - f.off) = true:=decide_eq_true q3
              have HX : Hid (LM.fixesTo fs (k + 1) = true):=by
               show _ = _
               simp only [LM.fixesTo,Bool.and_eq_true]
               exact ⟨HG.out,by rw [<- HFE.out,<- HEN.out];exact (LM.fixB_iff _ _).2 (by omega)⟩
              have HY : Hid (LM.endTo fs (k + 1) = f.off + (f.bytes.size : Int)):=by show _ = _;simp only [LM.endTo];rw [<- HFE.out]
              go_wp2_with (first | (go_at_call 27;have _:=FA;refine (AW.within_any _ _ _ _).mono ?_;rintro e w' ⟨rfl,rfl⟩;rw [z2]) | (go_at_call 27;refine (AW.within_any _ _ _ _).mono ?_;rintro e w' ⟨rfl,rfl⟩;rw [z1];have FA:=trivial))
              go_roundw
              case rel=>exact ⟨k + 1,by omega,by go_num,by rw [HY.out],HX.out,HBA.out,BXA.out⟩
              case measure=>simp [intOf];omega
            · have z2 : decide (1 <= (f.bytes.size : Int) /\ (f.bytes.size : Int) <= 16 - f.off) = false:=decide_eq_false q3
              have HX : Hid (LM.fixesTo fs fs.length = false):=LM.fixes_bad fs k hlt (by rw [<- HFE.out,<- HEN.out];exact LM.fixB_no (by omega))
              go_wp2_with (first | (go_at_call 27;have _:=FA;refine (AW.within_any _ _ _ _).mono ?_;rintro e w' ⟨rfl,rfl⟩;rw [z2]) | (go_at_call 27;refine (AW.within_any _ _ _ _).mono ?_;rintro e w' ⟨rfl,rfl⟩;rw [z1];have FA:=trivial))
              go_ret
              exact ⟨ret_bool (by rw [E.out,HX.out]),HBA.out⟩
          · have z1 : decide (en <= f.off /\ f.off <= 16) = false:=decide_eq_false q1
            have HX : Hid (LM.fixesTo fs fs.length = false):=LM.fixes_bad fs k hlt (by rw [<- HFE.out,<- HEN.out];exact LM.fixB_no (by omega))
            go_wp2_with (go_at_call 27;refine (AW.within_any _ _ _ _).mono ?_;rintro e w' ⟨rfl,rfl⟩;rw [z1])
            go_ret
            exact ⟨ret_bool (by rw [E.out,HX.out]),HBA.out⟩
        · obtain rfl : k = fs.length:=by omega
          go_wp2
          go_ret
          exact ⟨ret_bool (by rw [E.out,HG.out]),HBr.out⟩
     · have h3' : (dt.size : Int) = 16:=by omega
       have h4' : (16 : Int) < (fs.length : Int):=by omega
       have e : LM.sheetB ⟨pg,dt,fs,ao,cap⟩ = false:=by
        unfold LM.sheetB
        cases e : LM.fixesTo fs fs.length
        · exact Bool.and_false _
        · have:=LM.endTo_ge fs fs.length e
          omega
       rw [e]
       go_enter Tryz.func98,Tryz.ntmps98
       go_wp2_with (go_at_call 27;refine (AW.within_any _ _ _ _).mono ?_;rintro e w' ⟨rfl,rfl⟩;rw [d1])
       go_ret
       exact ⟨rfl,HB.out⟩
   · have h3' : ((dt.size : Int) == 16) = false:=by simp;omega
     have e : LM.sheetB ⟨pg,dt,fs,ao,cap⟩ = false:=by
      unfold LM.sheetB LM.headB
      rw [decide_eq_false (fun h=>h3 h.2.2),Bool.false_and]
     rw [e]
     go_enter Tryz.func98,Tryz.ntmps98
     go_wp2_with (go_at_call 27;refine (AW.within_any _ _ _ _).mono ?_;rintro e w' ⟨rfl,rfl⟩;rw [d1])
     go_ret
     exact ⟨rfl,HB.out⟩
 · have d1 : decide (1 <= pg /\ pg <= 255) = false:=decide_eq_false h1
   have e : LM.sheetB ⟨pg,dt,fs,ao,cap⟩ = false:=by
    unfold LM.sheetB LM.headB
    rw [decide_eq_false (fun h=>h1 ⟨h.1,h.2.1⟩),Bool.false_and]
   rw [e]
   go_enter Tryz.func98,Tryz.ntmps98
   go_wp2_with (go_at_call 27;refine (AW.within_any _ _ _ _).mono ?_;rintro e w' ⟨rfl,rfl⟩;rw [d1])
   go_ret
   exact ⟨rfl,HB.out⟩
set_option maxHeartbeats 3000000 in
theorem filled_any (s : LM.Sh) (w : World) (h : LM.HasF w s.ao s.fixes) (hf : LM.FitH s) (hs : LM.sheetB s = true) :
  Calls Tryz.prog 29 #[.agg (LM.cellsH s)] w fun e w'=>e = .returned (.string (LM.fillS s)) /\ Below w.heap.size w w':=by
 obtain ⟨f1,f2,f3,f4⟩:=hf
 obtain ⟨pg,dt,fs,ao,cap⟩:=s
 simp only at f1 f2 f3 f4
 unfold M.Short at f2 f3
 simp only [LM.cellsH]
 have hdl : dt.size <= maxLen:=by unfold maxLen;omega
 have HH:=hideC h
 clear f4 h f1
 have HB:=hideC ((Below.refl w.heap.size w).alloc (Nat.le_refl _) (.cells #[.int .i64 pg,.string dt,.slice ao fs.length cap] 62))
 have BX:=hideC (B.new w #[.int .i64 pg,.string dt,.slice ao fs.length cap] 62)
 have HN : Hid (LM.fillS ⟨pg,dt,fs,ao,cap⟩ = LM.laidTo dt fs fs.length):=rfl
 obtain ⟨hd,hfx⟩ : LM.headB ⟨pg,dt,fs,ao,cap⟩ = true /\ LM.fixesTo fs fs.length = true:=by
  unfold LM.sheetB at hs
  simpa using hs
 have h16 : dt.size = 16:=by
  unfold LM.headB at hd
  exact (of_decide_eq_true hd).2.2
 have HFX:=hideC hfx
 clear hs hd hfx
 rw [HN.out]
 go_enter Tryz.func29,Tryz.ntmps29
 go_wp2
 go_loopw [4,3] (fun i d wr=>∃ k : Nat,k <= fs.length /\ i = .int .i64 k /\ d = .string (LM.laidTo dt fs k) /\ Below w.heap.size w wr /\ wr.heap[w.heap.size]? = some (.cells #[.int .i64 pg,.string dt,.slice ao fs.length cap] 62 (0,0))) (fun i _ _=>fs.length - (intOf i).toNat)
 case atStart=>exact ⟨0,by omega,rfl,rfl,HB.out,BX.out⟩
 case round =>
  obtain ⟨k,hk,rfl,rfl,hb,hbx⟩:=hrel
  have HBr:=hideC hb
  have BXr:=hideC hbx
  have x2:=B.cell hbx 2 rfl
  clear hbx
  by_cases hlt : k < fs.length
  · obtain ⟨b,off,hao,hbl,hlie⟩:=(HH.out.below hb) (by omega)
    subst hao
    obtain ⟨c0,c1⟩:=hlie k hlt
    have hok:=(LM.fixB_iff _ _).1 (LM.fixesTo_ok fs fs.length HFX.out k hlt)
    have hgk : LM.fixesTo fs k = true:=by
     cases e : LM.fixesTo fs k
     · rw [LM.fixesTo_false fs k fs.length (by omega) e] at HFX
       cases HFX
     · rfl
    have hed:=LM.endTo_ge fs k hgk
    have hsz:=LM.laidTo_size dt fs h16 k hgk
    have HNX : Hid (LM.laidTo dt fs (k + 1) = CL.over (LM.laidTo dt fs k) (LM.fxAt fs k).off.toNat (LM.fxAt fs k).bytes):=rfl
    obtain ⟨f,hfe⟩ : ∃ f,f = LM.fxAt fs k:=⟨_,rfl⟩
    rw [<- hfe] at c0 c1 hok HNX
    obtain ⟨D,hD⟩ : ∃ D,D = LM.laidTo dt fs k:=⟨_,rfl⟩
    rw [<- hD] at hsz HNX
    rw [<- hD]
    obtain ⟨o,ho⟩ : ∃ o : Nat,f.off = (o : Int):=⟨f.off.toNat,by omega⟩
    rw [ho] at c0 hok
    rw [ho,Int.toNat_natCast] at HNX
    have HBd:=hideC (below_drew wr)
    clear hfe hD hgk hlie hb
    go_wp2
    go_region_law (go_simp;go_at_call 70;refine (CW.over_any D f.bytes o _ (by omega) (by omega)).mono ?_;rintro e w3 ⟨rfl,hb⟩;have HB3:=hideC (HBr.out.trans ((HBd.out.trans hb).mono HBr.out.size));have BX3:=hideC (B.below (B.below BXr.out HBd.out (B.isLt BXr.out)) hb (by have:=B.isLt BXr.out;simpa using this));clear hb;go_simp)
    all_goals
     go_wp2
     go_roundw
     case rel=>exact ⟨k + 1,by omega,by go_num,by rw [HNX.out],HB3.out,BX3.out⟩
     case measure=>simp [intOf];omega
  · obtain rfl : k = fs.length:=by omega
    go_wp2
    go_ret
    exact ⟨rfl,HBr.out⟩
theorem calls_kin {P : Program} {f : FuncId} {args : Array Value} {v : Value} {w : World} (x : Q.Kin w.heap.size w) (h : ∀ W,Below w.heap.size w W -> Calls P f args W fun e w'=>e = .returned v /\ Below W.heap.size W w') :
  Calls P f args x.world fun e w''=>e = .returned v /\ ∃ y : Q.Kin w.heap.size w,w'' = y.world :=
 (h x.world x.keeps).mono fun e w'' ⟨he,hb⟩=>⟨he,⟨w'',x.keeps.trans (hb.mono x.keeps.size)⟩,rfl⟩
set_option maxHeartbeats 3000000 in
theorem sheetsRise_any (hs : List LM.Sh) (ao : Option Addr) (cap : Nat) (w : World) (h : LM.HasH w ao hs) (hf : LM.FitHs hs) :
  Calls Tryz.prog 69 #[.slice ao hs.length cap] w fun e w'=>e = .returned (.bool (LM.riseB hs)) /\ Below w.heap.size w w':=by
 have HF:=hideC hf
 have HH:=hideC h
 have hn : hs.length <= 140737488351232:=hf.1
 clear h hf
 go_enter Tryz.func69,Tryz.ntmps69
 go_wp2
 go_loopw [3] (fun i wr=>∃ k : Nat,k <= hs.length /\ i = .int .i64 k /\ LM.riseTo hs k = true /\ Below w.heap.size w wr) (fun i _=>hs.length - (intOf i).toNat)
 case atStart=>exact ⟨0,by omega,rfl,rfl,Below.refl _ _⟩
 case round =>
  obtain ⟨k,hk,rfl,hz,hb⟩:=hrel
  have HZ:=hideC hz
  have HBr:=hideC hb
  clear hz
  by_cases hlt : k < hs.length
  · obtain ⟨b,off,hao,hbl,hlie⟩:=(HH.out.below hb) (by omega)
    subst hao
    obtain ⟨c0,c1,c2,c3⟩:=hlie k hlt
    have hfk:=HF.out.2 k hlt
    have HE : Hid (LM.riseTo hs (k + 1) = (LM.sheetB (LM.shAt hs k) && LM.riseAt hs k)):=by
     show _ = _
     simp only [LM.riseTo]
     rw [HZ.out,Bool.true_and]
    have HE2 : Hid ((LM.sheetB (LM.shAt hs k) && LM.riseAt hs k) = false -> LM.riseB hs = false):=fun e=>LM.rise_bad hs k hlt e
    have hkin:=Q.kin_some wr
    have hkc:=@Q.cell_kin wr
    have PREV : Hid (0 < k -> wr.cell? ⟨b,off + (k - 1) * 3,none⟩ = some (.int .i64 (LM.shAt hs (k - 1)).page)):=fun h0=>(hlie (k - 1) (by omega)).1
    have HRI : Hid (LM.riseAt hs k = (k == 0 || decide ((LM.shAt hs (k - 1)).page < (LM.shAt hs k).page))):=rfl
    obtain ⟨s,hse⟩ : ∃ s,s = LM.shAt hs k:=⟨_,rfl⟩
    rw [<- hse] at c0 c1 c2 c3 hfk HE HE2 HRI
    have e0 : ∀ x : Q.Kin wr.heap.size wr,x.world.cell? ⟨b,off + k * 3,none⟩ = some (.int .i64 s.page):=fun x=>by rw [hkc x _ _ hbl,c0]
    have e1 : ∀ x : Q.Kin wr.heap.size wr,x.world.cell? ⟨b,off + k * 3 + 1,none⟩ = some (.string s.data):=fun x=>by rw [hkc x _ _ hbl,c1]
    have e2 : ∀ x : Q.Kin wr.heap.size wr,x.world.cell? ⟨b,off + k * 3 + 2,none⟩ = some (.slice s.ao s.fixes.length s.cap):=fun x=>by rw [hkc x _ _ hbl,c2]
    have HC : Hid (∀ W,Below wr.heap.size wr W -> Calls Tryz.prog 98 #[.agg #[.int .i64 s.page,.string s.data,.slice s.ao s.fixes.length s.cap]] W fun e w'=>e = .returned (.bool (LM.sheetB s)) /\ Below W.heap.size W w'):=fun W hb=>sheetFine_any s W (c3.below hb) hfk
    clear hse hlie hb c0 c1 c2 c3 hfk
    cases e : LM.sheetB s with
    | false =>
     have HX:=hideC (HE2.out (by rw [e];rfl))
     rw [e] at HC
     clear e HE HE2 HRI PREV hkc
     go_wp2
     refine Q.region_kin (by kernel_rfl) (by kernel_rfl) ?_
     repeat (first | go_big_quiet_step ((go_at_call 98;exact calls_kin _ HC.out)) | quiet_step ((go_at_call 98;exact calls_kin _ HC.out)))
     refine wpQuiet_nil ?_
     intro _ hw'
     obtain ⟨x,hw''⟩:=hw'
     subst hw''
     go_wp2
     go_ret
     exact ⟨ret_bool HX.out.symm,HBr.out.trans (x.keeps.mono HBr.out.size)⟩
    | true =>
     rw [e] at HC HE HE2
     rw [Bool.true_and] at HE HE2
     clear e
     by_cases hk0 : k = 0
     · have z1 : decide ((0 : Int) < (k : Int)) = false:=by simp;omega
       have z2 : decide (0 < k) = false:=by simp;omega
       have HX : Hid (LM.riseAt hs k = true):=by show _ = _;rw [HRI.out,hk0];rfl
       rw [HX.out] at HE
       clear hk0 HE2 HRI PREV hkc HX
       go_wp2
       refine Q.region_kin (by kernel_rfl) (by kernel_rfl) ?_
       repeat (first | go_big_quiet_step ((go_at_call 98;exact calls_kin _ HC.out)) | quiet_step ((go_at_call 98;exact calls_kin _ HC.out)))
       refine wpQuiet_nil ?_
       intro _ hw'
       obtain ⟨x,hw''⟩:=hw'
       subst hw''
       go_wp2
       go_roundw
       case rel=>exact ⟨k + 1,by omega,by go_num,HE.out,HBr.out.trans (x.keeps.mono HBr.out.size)⟩
       case measure=>simp [intOf];omega
     · have hk1 : (1 : Int) <= (k : Int):=by omega
       have hk2 : 0 < k:=by omega
       have hk3 : (0 : Int) < (k : Int):=by omega
       have hkz : (k == 0) = false:=by simpa using hk0
       obtain ⟨p,hp⟩ : ∃ p,p = (LM.shAt hs (k - 1)).page:=⟨_,rfl⟩
       have hpv:=PREV.out hk2
       rw [<- hp] at hpv HRI
       rw [hkz,Bool.false_or] at HRI
       have e3 : ∀ x : Q.Kin wr.heap.size wr,x.world.cell? ⟨b,off + (k - 1) * 3,none⟩ = some (.int .i64 p):=fun x=>by rw [hkc x _ _ hbl,hpv]
       clear hp hpv hk0 PREV hkc hkz
       by_cases hlt2 : p < s.page
       · have HX : Hid (LM.riseAt hs k = true):=by show _ = _;rw [HRI.out,decide_eq_true hlt2]
         rw [HX.out] at HE
         have hnl : ¬ s.page <= p:=by omega
         clear HE2 HRI HX
         go_wp2
         refine Q.region_kin (by kernel_rfl) (by kernel_rfl) ?_
         repeat (first | go_big_quiet_step ((go_at_call 98;exact calls_kin _ HC.out)) | quiet_step ((go_at_call 98;exact calls_kin _ HC.out)))
         refine wpQuiet_nil ?_
         intro _ hw'
         obtain ⟨x,hw''⟩:=hw'
         subst hw''
         go_wp2
         go_roundw
         case rel=>exact ⟨k + 1,by omega,by go_num,HE.out,HBr.out.trans (x.keeps.mono HBr.out.size)⟩
         case measure=>simp [intOf];omega
       · have HX : Hid (LM.riseB hs = false):=HE2.out (by rw [HRI.out,decide_eq_false hlt2])
         have hnl : s.page <= p:=by omega
         clear HE HE2 HRI
         go_wp2
         refine Q.region_kin (by kernel_rfl) (by kernel_rfl) ?_
         repeat (first | go_big_quiet_step ((go_at_call 98;exact calls_kin _ HC.out)) | quiet_step ((go_at_call 98;exact calls_kin _ HC.out)))
         refine wpQuiet_nil ?_
         intro _ hw'
         obtain ⟨x,hw''⟩:=hw'
         subst hw''
         go_wp2
         go_ret
         exact ⟨ret_bool HX.out.symm,HBr.out.trans (x.keeps.mono HBr.out.size)⟩
  · obtain rfl : k = hs.length:=by omega
    go_wp2
    go_ret
    exact ⟨ret_bool HZ.out.symm,HBr.out⟩
end LW
end Go.Proofs.YtkdigjpejnebkaaGreat
