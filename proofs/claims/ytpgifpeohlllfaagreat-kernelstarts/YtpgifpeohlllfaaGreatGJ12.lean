import Derived.Test.YtpgifpeohlllfaaGreatGJ11
import Derived.Deep.AppendLies
import Derived.Deep.RegionLaw
import Derived.Lib.Repeat
import Derived.Test.YtpgifpeohlllfaaGreatGJ02
import Derived.Test.YtpgifpeohlllfaaGreatGJ03
import Derived.Test.YtpgifpeohlllfaaGreatChecked
import Derived.Deep.Slices
import Derived.ProofKit
set_option maxHeartbeats 20000000
set_option linter.unusedVariables false
set_option maxRecDepth 100000
set_option linter.unusedSimpArgs false
namespace Go.Proofs.YtpgifpeohlllfaaGreat
namespace LM
open Go.RowKit
def ixOf (all : List Li) (s : ByteArray) : Option Nat:=all.findIdx? (fun x=>decide (x.i.name = s))
def addIx (ix : List Nat) (j : Nat) : List Nat:=if ix.contains j then ix else ix ++ [j]
def ordTo (all : List Li) (ix : List Nat) (needs : List ByteArray) : Nat -> Option (List Nat)
 | 0=>some ix
 | k + 1=>match ordTo all ix needs k with
  | none=>none
  | some ix'=>match ixOf all (M.strAt needs k) with
   | none=>none
   | some j=>some (addIx ix' j)
def needsAt (all : List Li) (ix : List Nat) (n : Nat) : List ByteArray:=(liAt all (ix.getD n 0)).i.needs
def gat (all : List Li) : Nat -> Nat -> List Nat -> Option (List Nat)
 | 0,_,ix=>some ix
 | f + 1,n,ix=>if n < ix.length then (match ordTo all ix (needsAt all ix n) (needsAt all ix n).length with
  | none=>none
  | some ix'=>gat all f (n + 1) ix') else some ix
structure OkIx (all : List Li) (ix : List Nat) : Prop where
 pos : 0 < ix.length
 nodup : ix.Nodup
 lt : ∀ j ∈ ix,j < all.length
theorem pigeon : ∀ (L : Nat) (ix : List Nat),ix.Nodup -> (∀ j ∈ ix,j < L) -> ix.length <= L
 | 0,ix,_,h=>by
  cases ix with
  | nil=>exact Nat.le_refl _
  | cons x r=>exact absurd (h x List.mem_cons_self) (by omega)
 | L + 1,ix,hn,h=>by
  by_cases e : L ∈ ix
  · have h1:=pigeon L (ix.erase L) (hn.erase L) (fun j hj=>by
     have h2:=(List.Nodup.mem_erase_iff hn).1 hj
     have:=h j h2.2
     omega)
    rw [List.length_erase_of_mem e] at h1
    omega
  · have:=pigeon L ix hn (fun j hj=>by
     have h1:=h j hj
     have h2 : j ≠ L:=fun g=>e (g ▸ hj)
     omega)
    omega
theorem OkIx.le {all : List Li} {ix : List Nat} (h : OkIx all ix) : ix.length <= all.length:=pigeon _ _ h.nodup h.lt
def obsFrom (all : List Li) : Int -> List Nat -> List Ob
 | _,[]=>[]
 | b,j :: r=>⟨(liAt all j).i,(liAt all j).a,b⟩ :: obsFrom all (endO ⟨(liAt all j).i,(liAt all j).a,b⟩) r
def endFrom (all : List Li) : Int -> List Nat -> Int
 | b,[]=>b
 | b,j :: r=>endFrom all (endO ⟨(liAt all j).i,(liAt all j).a,b⟩) r
theorem obsFrom_length (all : List Li) : ∀ (ix : List Nat) (b : Int),(obsFrom all b ix).length = ix.length
 | [],_=>rfl
 | j :: r,b=>by simp only [obsFrom,List.length_cons,obsFrom_length all r]
theorem obsFrom_snoc (all : List Li) (j : Nat) : ∀ (ix : List Nat) (b : Int),obsFrom all b (ix ++ [j]) = obsFrom all b ix ++ [⟨(liAt all j).i,(liAt all j).a,endFrom all b ix⟩]
 | [],b=>rfl
 | k :: r,b=>by simp only [List.cons_append,obsFrom,endFrom,obsFrom_snoc all j r]
theorem endFrom_snoc (all : List Li) (j : Nat) : ∀ (ix : List Nat) (b : Int),endFrom all b (ix ++ [j]) = endO ⟨(liAt all j).i,(liAt all j).a,endFrom all b ix⟩
 | [],b=>rfl
 | k :: r,b=>by simp only [List.cons_append,endFrom,endFrom_snoc all j r]
theorem obsFrom_at (all : List Li) : ∀ (ix : List Nat) (b : Int) (k : Nat),k < ix.length -> (obAt (obsFrom all b ix) k).i = (liAt all (ix.getD k 0)).i /\ (obAt (obsFrom all b ix) k).a = (liAt all (ix.getD k 0)).a /\ (obAt (obsFrom all b ix) k).base = endFrom all b (ix.take k)
 | [],_,k,hk=>by simp at hk
 | j :: r,b,0,_=>⟨rfl,rfl,rfl⟩
 | j :: r,b,k + 1,hk=>by
  have:=obsFrom_at all r (endO ⟨(liAt all j).i,(liAt all j).a,b⟩) k (by simpa using hk)
  simpa [obAt,obsFrom,endFrom] using this
theorem obsFrom_last (all : List Li) (ix : List Nat) (b : Int) (h : 0 < ix.length) : endO (obAt (obsFrom all b ix) (ix.length - 1)) = endFrom all b ix:=by
 obtain ⟨r,j,rfl⟩ : ∃ r j,ix = r ++ [j]:=⟨ix.dropLast,ix.getLast (by intro e;subst e;simp at h),(List.dropLast_concat_getLast _).symm⟩
 rw [obsFrom_snoc,endFrom_snoc]
 have e : (r ++ [j]).length - 1 = (obsFrom all b r).length:=by rw [obsFrom_length];simp
 rw [e]
 unfold obAt
 rw [List.getD_eq_getElem?_getD,List.getElem?_append_right (Nat.le_refl _)]
 simp
theorem getD_mem (ix : List Nat) (k : Nat) (h : k < ix.length) : ix.getD k 0 ∈ ix:=by
 rw [List.getD_eq_getElem?_getD,List.getElem?_eq_getElem h]
 exact List.getElem_mem h
theorem endFrom_bounds (all : List Li) (hc : ∀ j,j < all.length -> M.chkN (liAt all j).i = 0) : ∀ (ix : List Nat) (b : Int),(∀ j ∈ ix,j < all.length) -> b <= endFrom all b ix /\ endFrom all b ix <= b + 255 * (ix.length : Int)
 | [],b,_=>by simp [endFrom]
 | j :: r,b,h=>by
  have hl:=last_bounds (hc j (h j List.mem_cons_self))
  have ih:=endFrom_bounds all hc r (endO ⟨(liAt all j).i,(liAt all j).a,b⟩) (fun k hk=>h k (List.mem_cons_of_mem _ hk))
  simp only [endFrom]
  have e : endO ⟨(liAt all j).i,(liAt all j).a,b⟩ = b + (lastSeg (liAt all j).i).page + (lastSeg (liAt all j).i).pages:=rfl
  rw [e] at ih ⊢
  simp only [List.length_cons]
  omega
end LM
namespace LW
open Go.RowKit Go.WideMaps Go.Maps
open W (hideC)
theorem flat_get {α : Type} (f : α -> List Value) (c : Nat) (hc : ∀ x,(f x).length = c) (d : α) : ∀ (l : List α) (i j : Nat),i < l.length -> j < c -> (l.flatMap f)[i * c + j]? = (f (l.getD i d))[j]?
 | a :: r,0,j,_,hj=>by
  rw [List.flatMap_cons,Nat.zero_mul,Nat.zero_add,List.getElem?_append_left (by rw [hc];exact hj)]
  rfl
 | a :: r,i + 1,j,hi,hj=>by
  rw [List.flatMap_cons,List.getElem?_append_right (by rw [hc,Nat.succ_mul];omega),hc,show (i + 1) * c + j - c = i * c + j by rw [Nat.succ_mul];omega]
  exact flat_get f c hc d r i j (by simpa using hi) hj
def OutG (all : List LM.Li) (R : Option (List Nat)) (w : World) (e : Ending) (w' : World) : Prop:=Below w.heap.size w w' /\ match R with
 | none=>e = .returned (.tuple #[.slice none 0 0,.bool false])
 | some ix=>LM.OkIx all ix /\ ∃ ao cap,e = .returned (.tuple #[.slice ao ix.length cap,.bool true]) /\ LM.HasO w' ao (LM.obsFrom all 1 ix)
structure Gi (all : List LM.Li) (m : Nat) (D : DataW Value) (w : World) : Prop where
 pos : 0 < all.length
 few : all.length <= 7
 chk : ∀ j,j < all.length -> M.chkN (LM.liAt all j).i = 0
 fit : ∀ j,j < all.length -> M.Fit (LM.liAt all j).i
 once : M.onceB (LM.namesL all) = true
 im : ∀ j,j < all.length -> M.HasIm w (LM.liAt all j).a (LM.liAt all j).i
 map : w.ownsMap Tryz.prog 9 LM.Rv m all.length D
 nm : LM.Nm all all.length D
theorem row_grown {w w' : World} {base : Nat} {e : TypeId} {size : Nat} {v : Value} {n : Nat} {xs : List Value} (h : w.ownsRow base e size v n xs) (hb : Below w.heap.size w w') : w'.ownsRow base e size v n xs:=by
 refine ⟨h.1,?_⟩
 rcases h.2 with h2 | ⟨g,cap,cur,hv,hbg,hg,rest⟩
 · exact .inl h2
 · exact .inr ⟨g,cap,cur,hv,hbg,(hb.block g (B.isLt hg)).trans hg,rest⟩
end LW
namespace LM
open Go.RowKit
def zeros16 : ByteArray:=⟨(Lib.repeatL [0] 16).toArray⟩
theorem zeros16_size : zeros16.size = 16:=rfl
def pageN (s : M.Sg) (n : Nat) : ByteArray:=CL.over zeros16 0 (s.data.extract (min (n * 16) s.data.size) (min (min (n * 16) s.data.size + 16) s.data.size))
theorem extract_size (s : ByteArray) (a b : Nat) (h1 : a <= b) (h2 : b <= s.size) : (s.extract a b).size = b - a:=by
 rw [ByteArray.size_extract]
 omega
structure Pt where
 pos : Int
 bytes : ByteArray
def pt0 : Pt:=⟨0,⟨#[]⟩⟩
def ptAt (l : List Pt) (k : Nat) : Pt:=l.getD k pt0
def LieP (w : World) (b off : Nat) (l : List Pt) : Prop:=∀ i,i < l.length -> w.cell? ⟨b,off + i * 2,none⟩ = some (.int .i64 (ptAt l i).pos) /\ w.cell? ⟨b,off + i * 2 + 1,none⟩ = some (.string (ptAt l i).bytes)
theorem lieP {w w' : World} {b off : Nat} {l : List Pt} (hb : Below w.heap.size w w') (hlt : b < w.heap.size) (h : LieP w b off l) : LieP w' b off l:=fun i hi=>by
 obtain ⟨c0,c1⟩:=h i hi
 exact ⟨(M.below_cell hb hlt).trans c0,(M.below_cell hb hlt).trans c1⟩
def HasP (w : World) (ao : Option Addr) (l : List Pt) : Prop:=M.HasBy LieP w ao l
theorem HasP.below {w w' : World} {ao : Option Addr} {l : List Pt} (h : HasP w ao l) (hb : Below w.heap.size w w') : HasP w' ao l:=M.HasBy.below (lie:=LieP) (fun hb hlt h=>lieP hb hlt h) h hb
def cellP (p : Pt) : List Value:=[.int .i64 p.pos,.string p.bytes]
def cellF (f : Fx) : List Value:=[.int .i64 f.off,.string f.bytes]
def FitP (p : Pt) : Prop:=0 <= p.pos /\ p.pos <= 1000000 /\ p.bytes.size = 8
def cutP (page : Int) (p : Pt) : List Fx:=if max (page * 16) p.pos < min (page * 16 + 16) (p.pos + 8) then [⟨max (page * 16) p.pos - page * 16,p.bytes.extract (max (page * 16) p.pos - p.pos).toNat (max (page * 16) p.pos - p.pos + (min (page * 16 + 16) (p.pos + 8) - max (page * 16) p.pos)).toNat⟩] else []
def fixesN (page : Int) (ps : List Pt) : List Fx:=ps.flatMap (cutP page)
theorem take_snoc {α : Type} (l : List α) (d : α) (k : Nat) (h : k < l.length) : l.take (k + 1) = l.take k ++ [l.getD k d]:=by
 rw [List.take_succ_eq_append_getElem h,List.getD_eq_getElem?_getD,List.getElem?_eq_getElem h]
 rfl
theorem cut_len (page : Int) (p : Pt) : (cutP page p).length <= 1:=by
 unfold cutP
 split <;> simp
theorem fixes_len (page : Int) : ∀ ps : List Pt,(fixesN page ps).length <= ps.length
 | []=>by simp [fixesN]
 | p :: r=>by
  have h1:=fixes_len page r
  have h2:=cut_len page p
  unfold fixesN at h1 ⊢
  rw [List.flatMap_cons,List.length_append,List.length_cons]
  omega
theorem fixesN_snoc (page : Int) (l : List Pt) (p : Pt) : fixesN page (l ++ [p]) = fixesN page l ++ cutP page p:=by
 unfold fixesN
 rw [List.flatMap_append]
 simp
end LM
namespace AW
open Go.RowKit
set_option maxHeartbeats 2000000 in
theorem turn_map_own (l : List AM.Ar) (v : Value) (page pages q : Int) (P : Nat) (w : World) (h : Has w v l) (hf : AllFit l) (hp : -9223372036854775808 <= page /\ page <= 9223372036854775807) (hn : -9223372036854775808 <= pages /\ pages <= 9223372036854775807) (hP : w.cell? ⟨P,0,none⟩ = some (.int .i64 q)) :
  Calls Tryz.prog 121 #[v,.int .i64 page,.int .i64 pages,.int .i64 q,.func (.func 122) #[] #[.pointer (some ⟨P,0,none⟩)]] w fun e w'=>∃ r,e = .returned (.tuple #[r,.int .i64 (AM.turnN l page pages q (howMap q)).2]) /\ Own w.heap.size w' r (AM.turnN l page pages q (howMap q)).1 /\ Below w.heap.size w w':=by
 by_cases hc : AM.checkN l = 0
 · by_cases hpp : AM.pagesB page pages = true
   · by_cases hqq : AM.protB q = true
     · have HT : Hid (AM.turnN l page pages q (howMap q) = if AM.errFrom (AM.spreadN l) (howMap q) page.toNat pages.toNat = 0 then (AM.gatherN (AM.turned (AM.spreadN l) (howMap q) page (page + pages)),0) else ([],AM.errFrom (AM.spreadN l) (howMap q) page.toNat pages.toNat)):=by
        show _ = _;simp [AM.turnN,hc,hpp,hqq]
       have hpb:=(AM.pagesB_iff page pages).1 hpp
       obtain ⟨Z,hZ⟩ : ∃ Z,Z = AM.cellsL (fun _=>AM.off):=⟨_,rfl⟩
       have hz:=zv56
       rw [<- hZ] at hz
       have hZs : Z.size = 768:=by rw [hZ];exact AM.cellsL_size _
       clear hZ
       go_enter Tryz.func121,Tryz.ntmps121
       go_wp2_with fail
       refine (check_any l v _ h hf).mono ?_
       rintro e w1 ⟨rfl,hb1⟩
       rw [hc]
       have HC : Hid (AM.checkN l = 0):=hc
       clear hc
       go_wp2_with fail
       refine (rightPages_any _ _ _ hp hn).mono ?_
       rintro e w' ⟨rfl,rfl⟩
       go_wp2_with fail
       refine (rightProt_any _ _).mono ?_
       rintro e w' ⟨rfl,rfl⟩
       go_wp2_with fail
       refine (spread_any l v _ (h.below hb1) HC.out).mono ?_
       rintro e w2 ⟨rfl,hb2⟩
       have HB2 : Hid (Below w.heap.size w w2):=hb1.trans (hb2.mono hb1.size)
       obtain ⟨F,hF⟩ : ∃ F,F = AM.spreadN l:=⟨_,rfl⟩
       rw [<- hF] at HT ⊢
       obtain ⟨C,hC⟩ : ∃ C,C = AM.cellsL F:=⟨_,rfl⟩
       have hCs : C.size = 768:=by rw [hC];exact AM.cellsL_size _
       have HCF : Hid (C = AM.cellsL F):=hC
       rw [<- hC]
       clear hb1 hb2 hF hC hpp hqq
       have hn2 : Hid ((w2.alloc (.cells Z 215)).heap[w2.heap.size]? = some (.cells Z 215 (0,0))):=B.new w2 Z 215
       go_wp2_with (refine wpList_store_row rfl 215 _ _ rfl w2.heap.size C rfl rfl 215 Z hn2.out (by rw [hCs];exact size56) (by rw [hZs,hCs]) (by rw [HCF.out];exact AM.cellsL_one _) ?_)
       have HA0 : Hid (((w2.alloc (.cells Z 215)).setRow w2.heap.size C).heap[w2.heap.size]? = some (.cells C 215 (0,0))):=setRow_heap _ _ _ _ 215 (0,0) hn2.out
       have HB3 : Hid (Below w.heap.size w ((w2.alloc (.cells Z 215)).setRow w2.heap.size C)):=below_setRow (HB2.out.alloc HB2.out.size _) HB2.out.size _
       have hsz2:=HB2.out.size
       go_loopw [14] (fun t wr=>∃ n : Nat,page <= (n : Int) /\ (n : Int) <= page + pages /\ t = .int .i64 n /\ (∀ k : Nat,page.toNat <= k -> k < n -> ((howMap q) (F k)).2 = 0) /\ wr.heap[w2.heap.size]? = some (.cells (AM.cellsL (AM.turned F (howMap q) page n)) 215 (0,0)) /\ Below w.heap.size w wr) (fun t _=>(page + pages - intOf t).toNat)
       case atStart =>
        refine ⟨page.toNat,by omega,by omega,by rw [Int.toNat_of_nonneg (by omega)],fun k h1 h2=>by omega,?_,HB3.out⟩
        rw [Int.toNat_of_nonneg (by omega),AM.turned_begin,<- HCF.out]
        exact HA0.out
       case round =>
        obtain ⟨n,hn1,hn3,rfl,hno,hA,hb⟩:=hrel
        have HN : Hid (∀ k : Nat,page.toNat <= k -> k < n -> ((howMap q) (F k)).2 = 0):=hno
        have HA : Hid (wr.heap[w2.heap.size]? = some (.cells (AM.cellsL (AM.turned F (howMap q) page n)) 215 (0,0))):=hA
        have HB : Hid (Below w.heap.size w wr):=hb
        have hAl : w2.heap.size < wr.heap.size:=B.isLt hA
        have hPw : wr.cell? ⟨P,0,none⟩ = some (.int .i64 q):=(hb.cell (p:=⟨P,0,none⟩) (World.block_lt_of_cell? w _ hP)).trans hP
        by_cases hin : (n : Int) < page + pages
        · have z0:=B.cell hA (n * 3) (AM.cellsL_get0 _ n (by omega))
          have z1:=B.cell hA (n * 3 + 1) (AM.cellsL_get1 _ n (by omega))
          have z2:=B.cell hA (n * 3 + 2) (AM.cellsL_get2 _ n (by omega))
          rw [AM.turned_at] at z0 z1 z2
          have hn256 : (n : Int) < 256:=by omega
          clear hno hA hb
          obtain ⟨s,hs⟩ : ∃ s,s = F n:=⟨_,rfl⟩
          rw [<- hs] at z0 z1 z2
          have HS : Hid (s = F n):=hs
          clear hs
          go_wp2_with fail
          refine (map1_any s q P _ hPw).mono ?_
          rintro e w3 ⟨rfl,hb3⟩
          have bA:=B.below HA.out hb3 hAl
          have y0:=B.cell bA (n * 3) (AM.cellsL_get0 _ n (by omega))
          have y1:=B.cell bA (n * 3 + 1) (AM.cellsL_get1 _ n (by omega))
          have y2:=B.cell bA (n * 3 + 2) (AM.cellsL_get2 _ n (by omega))
          have yf:=B.free bA
          have HA3 : Hid (w3.heap[w2.heap.size]? = some (.cells (AM.cellsL (AM.turned F (howMap q) page n)) 215 (0,0))):=bA
          have HBB : Hid (Below w.heap.size w w3):=HB.out.trans (hb3.mono HB.out.size)
          have hsz3 : w2.heap.size < w3.heap.size:=B.isLt bA
          clear bA hb3 z0 z1 z2
          obtain ⟨r,hr⟩ : ∃ r,r = (howMap q) s:=⟨_,rfl⟩
          rw [<- hr]
          have HR : Hid (r = (howMap q) s):=hr
          clear hr
          unfold aggSt
          by_cases he : r.2 = 0
          · have he' : (r.2 != 0) = false:=by simp [he]
            have HE : Hid (r.2 = 0):=he
            clear he
            go_wp2
            go_roundw
            case rel =>
             have hset:=B.set (B.set (B.set HA3.out (n * 3) (.bool r.1.m)) (n * 3 + 1) (.int .i64 r.1.p)) (n * 3 + 2) (.bool r.1.z)
             have est:=AM.turned_step F (howMap q) page n hn1
             rw [<- HS.out,<- HR.out] at est
             rw [AM.cellsL_set (AM.turned F (howMap q) page n) n r.1 (by omega),est] at hset
             refine ⟨n + 1,by omega,by omega,by go_num,fun k h1 h2=>if e : k = n then by rw [e,<- HS.out,<- HR.out];exact HE.out else HN.out k h1 (by omega),?_,?_⟩
             · rw [show ((n + 1 : Nat) : Int) = (n : Int) + 1 from by omega]
               exact B.alloc hset _
             · have hb4:=((HBB.out.setCell (p:=⟨w2.heap.size,n * 3,none⟩) hsz2 (.bool r.1.m)).setCell (p:=⟨w2.heap.size,n * 3 + 1,none⟩) hsz2 (.int .i64 r.1.p)).setCell (p:=⟨w2.heap.size,n * 3 + 2,none⟩) hsz2 (.bool r.1.z)
               exact hb4.alloc hb4.size _
            case measure=>simp [intOf];omega
          · have he' : (r.2 != 0) = true:=by simpa using he
            have HE : Hid (r.2 ≠ 0):=he
            clear he
            have ht : Hid (AM.turnN l page pages q (howMap q) = ([],r.2)):=by
             have herr : AM.errFrom F (howMap q) page.toNat pages.toNat = r.2:=by
              rw [HR.out,HS.out]
              exact AM.errFrom_at F (howMap q) _ _ n (by omega) (by omega) HN.out (by rw [<- HS.out,<- HR.out];exact HE.out)
             show _ = _
             rw [HT.out,herr,if_neg HE.out]
            go_wp2
            go_ret2
            exact ⟨.slice none 0 0,by rw [ht.out];rfl,by rw [ht.out];exact Own.nil _ _,HBB.out.alloc HBB.out.size _⟩
        · have hend : Hid ((n : Int) = page + pages):=by show _ = _;omega
          have ht : Hid (AM.turnN l page pages q (howMap q) = (AM.gatherN (AM.turned F (howMap q) page n),0)):=by
           have herr : AM.errFrom F (howMap q) page.toNat pages.toNat = 0:=AM.errFrom_zero F (howMap q) _ _ (fun k h1 h2=>HN.out k h1 (by have:=hend.out;omega))
           show _ = _
           rw [HT.out,herr,if_pos rfl,hend.out]
          clear hno hA hb
          go_wp2_with (refine wpList_load_row rfl 215 _ rfl w2.heap.size rfl 215 _ (0,0) _ HA.out Tryz.underlying215 rfl (by rw [AM.cellsL_size];exact size56) ?_)
          refine (gather_own _ _).mono ?_
          rintro e w4 ⟨r,rfl,hr,hb4⟩
          go_wp2
          go_ret2
          exact ⟨r,by rw [ht.out];rfl,by rw [ht.out];exact hr.mono HB.out.size,HB.out.trans (hb4.mono HB.out.size)⟩
     · have hqq' : AM.protB q = false:=by simpa using hqq
       have HT : Hid (AM.turnN l page pages q (howMap q) = ([],3)):=by show _ = _;simp [AM.turnN,hc,hpp,hqq']
       clear hqq
       go_enter Tryz.func121,Tryz.ntmps121
       go_wp2_with fail
       refine (check_any l v _ h hf).mono ?_
       rintro e w1 ⟨rfl,hb1⟩
       rw [hc]
       clear hc
       go_wp2_with fail
       refine (rightPages_any _ _ _ hp hn).mono ?_
       rintro e w' ⟨rfl,rfl⟩
       go_wp2_with fail
       refine (rightProt_any _ _).mono ?_
       rintro e w' ⟨rfl,rfl⟩
       go_wp2
       go_ret2
       exact ⟨.slice none 0 0,by rw [HT.out];rfl,by rw [HT.out];exact Own.nil _ _,hb1⟩
   · have hpp' : AM.pagesB page pages = false:=by simpa using hpp
     have HT : Hid (AM.turnN l page pages q (howMap q) = ([],3)):=by show _ = _;simp [AM.turnN,hc,hpp']
     clear hpp
     go_enter Tryz.func121,Tryz.ntmps121
     go_wp2_with fail
     refine (check_any l v _ h hf).mono ?_
     rintro e w1 ⟨rfl,hb1⟩
     rw [hc]
     clear hc
     go_wp2_with fail
     refine (rightPages_any _ _ _ hp hn).mono ?_
     rintro e w' ⟨rfl,rfl⟩
     go_wp2
     go_ret2
     exact ⟨.slice none 0 0,by rw [HT.out];rfl,by rw [HT.out];exact Own.nil _ _,hb1⟩
 · have HT : Hid (AM.turnN l page pages q (howMap q) = ([],AM.checkN l)):=by show _ = _;simp [AM.turnN,hc]
   have hc' : (AM.checkN l != 0) = true:=by simpa using hc
   go_enter Tryz.func121,Tryz.ntmps121
   go_wp2_with fail
   refine (check_any l v _ h hf).mono ?_
   rintro e w1 ⟨rfl,hb1⟩
   go_wp2
   go_ret2
   exact ⟨.slice none 0 0,by rw [HT.out];rfl,by rw [HT.out];exact Own.nil _ _,hb1⟩
def mapN (l : List AM.Ar) (page pages q : Int) : List AM.Ar × Int:=AM.turnN l page pages q (howMap q)
def I64 (n : Int) : Prop:=-9223372036854775808 <= n /\ n <= 9223372036854775807
set_option maxHeartbeats 400000 in
theorem map_own (l : List AM.Ar) (v : Value) (page pages q : Int) (w : World) (h : Has w v l) (hf : AllFit l) (hp : I64 page) (hn : I64 pages) :
  Calls Tryz.prog 74 #[v,.int .i64 page,.int .i64 pages,.int .i64 q] w fun e w'=>∃ r,e = .returned (.tuple #[r,.int .i64 (mapN l page pages q).2]) /\ Own w.heap.size w' r (mapN l page pages q).1 /\ Below w.heap.size w w':=by
 have hb0 : Below w.heap.size w (w.alloc (.cells #[.int .i64 q] 3)):=(Below.refl _ _).alloc (Nat.le_refl _) _
 have hP:=B.cell (B.new w #[.int .i64 q] 3) 0 rfl
 have H:=h.below hb0
 have HP : Hid ((w.alloc (.cells #[.int .i64 q] 3)).cell? ⟨w.heap.size,0,none⟩ = some (.int .i64 q)):=hP
 clear hP
 go_enter Tryz.func74,Tryz.ntmps74
 go_wp2_with fail
 refine (turn_map_own l v page pages q w.heap.size _ H hf hp hn HP.out).mono ?_
 rintro e w1 ⟨r,rfl,hr,hb1⟩
 go_wp2
 go_ret2
 exact ⟨r,rfl,hr.mono hb0.size,hb0.trans (hb1.mono hb0.size)⟩
theorem fit_all {l : List AM.Ar} (h : ∀ a ∈ l,AM.Fits a) (hn : l.length <= 140737488351232) : AllFit l:=by
 refine ⟨fun i hi=>?_,hn⟩
 have e : AM.at_ l i = l[i]:=by simp [AM.at_,hi]
 rw [e]
 exact h _ (List.getElem_mem hi)
theorem fit_nil : AllFit []:=fit_all (fun a h=>by simp at h) (by simp)
theorem turn_err (l : List AM.Ar) (page pages q : Int) (how : AM.St -> AM.St × Int) (h : (AM.turnN l page pages q how).2 ≠ 0) : (AM.turnN l page pages q how).1 = []:=by
 unfold AM.turnN at h ⊢
 split
 · rename_i hc
   rw [if_pos hc] at h
   split
   · rename_i hp
     rw [if_pos hp] at h
     split
     · rename_i he
       rw [if_pos he] at h
       exact absurd rfl h
     · rfl
   · rfl
 · rfl
theorem turn_ok (l : List AM.Ar) (page pages q : Int) (how : AM.St -> AM.St × Int) (h : (AM.turnN l page pages q how).2 = 0) :
  AM.checkN l = 0 /\ AM.pagesB page pages = true /\ AM.protB q = true /\ AM.errFrom (AM.spreadN l) how page.toNat pages.toNat = 0 /\ (AM.turnN l page pages q how).1 = AM.gatherN (AM.turned (AM.spreadN l) how page (page + pages)):=by
 unfold AM.turnN at h ⊢
 split
 · rename_i hc
   rw [if_pos hc] at h
   split
   · rename_i hp
     rw [if_pos hp] at h
     rw [Bool.and_eq_true] at hp
     split
     · rename_i he
       exact ⟨hc,hp.1,hp.2,he,rfl⟩
     · rename_i he
       rw [if_neg he] at h
       exact absurd h he
   · rename_i hp
     rw [if_neg hp] at h
     simp at h
 · rename_i hc
   rw [if_neg hc] at h
   exact absurd h hc
theorem fine_map (l : List AM.Ar) (page t q : Int) (hc : AM.checkN l = 0) (hp : 1 <= page) (hq : 0 <= q /\ q <= 3) : AM.Fine (AM.turned (AM.spreadN l) (howMap q) page t) :=
 AM.fine_turned _ (AM.fine_spread l hc) _ _ _ hp (fun s _ h=>by
  unfold howMap at h ⊢
  cases hm : s.m
  · simp [hm] at h
  · simp [hm] at h) (fun s h=>by
  unfold howMap
  cases hm : s.m
  · simpa [hm] using hq
  · simpa [hm] using h)
theorem prot_iff (q : Int) : AM.protB q = true ↔ 0 <= q /\ q <= 3:=⟨fun h=>of_decide_eq_true h,fun h=>decide_eq_true h⟩
theorem map_keeps (l : List AM.Ar) (page pages q : Int) (h : (mapN l page pages q).2 = 0) :
  AM.checkN (mapN l page pages q).1 = 0 /\ (∀ p : Nat,1 <= p -> p <= 255 ->
   (page <= (p : Int) /\ (p : Int) < page + pages -> (AM.findN l p).2 = false /\ (AM.findN (mapN l page pages q).1 p).2 = true /\ (AM.findN (mapN l page pages q).1 p).1.prot = q /\ (AM.findN (mapN l page pages q).1 p).1.zero = true) /\
   (¬ (page <= (p : Int) /\ (p : Int) < page + pages) -> (AM.findN (mapN l page pages q).1 p).2 = (AM.findN l p).2 /\ (AM.findN (mapN l page pages q).1 p).1.prot = (AM.findN l p).1.prot /\ (AM.findN (mapN l page pages q).1 p).1.zero = (AM.findN l p).1.zero)):=by
 obtain ⟨hc,hpp,hq,he,hr⟩:=turn_ok _ _ _ _ _ h
 have hpb:=(AM.pagesB_iff page pages).1 hpp
 have hF:=fine_map l page (page + pages) q hc hpb.1 ((prot_iff q).1 hq)
 have hr' : (mapN l page pages q).1 = _:=hr
 rw [hr']
 refine ⟨AM.check_gather _ hF,fun p h1 h2=>?_⟩
 have fg:=AM.find_gather _ hF p (by omega)
 have fs:=AM.find_spread l hc p
 refine ⟨fun hin=>?_,fun hout=>?_⟩
 · have he':=AM.err_zero _ _ _ _ he p (by omega) (by omega)
   have hm : (AM.spreadN l p).m = false:=by
    unfold howMap at he'
    cases hm : (AM.spreadN l p).m
    · rfl
    · simp [hm] at he'
   simp only [AM.turned] at fg
   rw [if_pos hin] at fg
   unfold howMap at fg
   simp only [hm] at fg
   exact ⟨fs.1.trans hm,fg.1,fg.2.1,fg.2.2⟩
 · simp only [AM.turned] at fg
   rw [if_neg hout] at fg
   exact ⟨fg.1.trans fs.1.symm,fg.2.1.trans fs.2.1.symm,fg.2.2.trans fs.2.2.symm⟩
theorem fit_map (l : List AM.Ar) (page pages q : Int) : AllFit (mapN l page pages q).1:=by
 by_cases h : (mapN l page pages q).2 = 0
 · exact AM.fits_of_check _ (map_keeps l page pages q h).1
 · rw [show (mapN l page pages q).1 = [] from turn_err _ _ _ _ _ h];exact fit_nil
end AW
namespace AW
open Go.RowKit Go.Deep
theorem cells24 : Tryz.prog.cellsOf 47 = 4:=by kernel_rfl
theorem cells3 : Tryz.prog.cellsOf 3 = 1:=by kernel_rfl
theorem cells4 : Tryz.prog.cellsOf 4 = 1:=by kernel_rfl
theorem i64_of (n : Int) (h : (Lit.int .i64 n).wf = true) : I64 n:=by
 simp only [Lit.wf,IntKind.min,IntKind.max,IntKind.signed,IntKind.bits,Bool.and_eq_true,decide_eq_true_eq,if_true] at h
 unfold I64
 omega
section
variable {H : Type} {enc : TypeId × Value -> H} {w : World} {base : Nat} {spare : Nat -> Bool} {held : Bool}
theorem one_area {n : Nat} {a : Addr} {cs : List Value} {x : DataW H × List MemPlace} (hc : w.cells? base a 4 = some cs) (h : DataW.trod enc Tryz.prog w base spare held n 47 cs = some x) :
  ∃ q : Int × Int × Int × Bool,w.cell? (a.add 0) = some (.int .i64 q.1) /\ w.cell? (a.add 1) = some (.int .i64 q.2.1) /\ w.cell? (a.add 2) = some (.int .i64 q.2.2.1) /\ w.cell? (a.add 3) = some (.bool q.2.2.2) /\ I64 q.1 /\ I64 q.2.1 /\ I64 q.2.2.1:=by
 obtain ⟨_,hlen,hcell⟩:=World.cells?_some hc
 obtain ⟨xs,k,hk,hxy,_,hxl,hf⟩:=DataW.trod_struct Tryz.underlying47 h
 match cs,hlen with
 | [v0,v1,v2,v3],_ =>
  have g0 : DataW.trod enc Tryz.prog w base spare held k 3 (([v0,v1,v2,v3].drop 0).take (Tryz.prog.cellsOf 3)) = xs[0]?:=hf 0 _ rfl
  have g1 : DataW.trod enc Tryz.prog w base spare held k 3 (([v0,v1,v2,v3].drop 1).take (Tryz.prog.cellsOf 3)) = xs[1]?:=hf 1 _ rfl
  have g2 : DataW.trod enc Tryz.prog w base spare held k 3 (([v0,v1,v2,v3].drop 2).take (Tryz.prog.cellsOf 3)) = xs[2]?:=hf 2 _ rfl
  have g3 : DataW.trod enc Tryz.prog w base spare held k 4 (([v0,v1,v2,v3].drop 3).take (Tryz.prog.cellsOf 4)) = xs[3]?:=hf 3 _ rfl
  simp only [cells3,cells4] at g0 g1 g2 g3
  have e0:=hcell 0 (by omega)
  have e1:=hcell 1 (by omega)
  have e2:=hcell 2 (by omega)
  have e3:=hcell 3 (by omega)
  match xs,hxl with
  | [y0,y1,y2,y3],_ =>
   obtain ⟨m0,c0,_,w0⟩:=DataW.trod_int Tryz.underlying3 (show DataW.trod enc Tryz.prog w base spare held k 3 [v0] = some y0 from g0)
   obtain ⟨m1,c1,_,w1⟩:=DataW.trod_int Tryz.underlying3 (show DataW.trod enc Tryz.prog w base spare held k 3 [v1] = some y1 from g1)
   obtain ⟨m2,c2,_,w2⟩:=DataW.trod_int Tryz.underlying3 (show DataW.trod enc Tryz.prog w base spare held k 3 [v2] = some y2 from g2)
   obtain ⟨b3,c3,_⟩:=DataW.trod_bool Tryz.underlying4 (show DataW.trod enc Tryz.prog w base spare held k 4 [v3] = some y3 from g3)
   simp only [List.cons.injEq,and_true] at c0 c1 c2 c3
   subst c0;subst c1;subst c2;subst c3
   exact ⟨(m0,m1,m2,b3),e0,e1,e2,e3,i64_of _ w0,i64_of _ w1,i64_of _ w2⟩
theorem open_areas {fuel : Nat} {a0 : Option Addr} {len cap : Nat} {x : DataW H × List MemPlace} (h : DataW.trod enc Tryz.prog w base spare held fuel 28 [.slice a0 len cap] = some x) :
  ∃ l : List AM.Ar,l.length = len /\ Has w (.slice a0 len cap) l /\ (∀ i,i < l.length -> AM.Fits (AM.at_ l i)) /\ (len = 0 ∨ ∃ el sp,x.1 = .slice el sp /\ el.length = len):=by
 rcases open_slice Tryz.underlying28 h with ⟨hcs,_⟩ | ⟨a,len',cap',m,n,D,Pl,hcs,hb,hl,hm,hmm,rfl,hx⟩
 · simp at hcs
   obtain ⟨rfl,rfl,rfl⟩:=hcs
   exact ⟨[],rfl,⟨none,0,rfl,.inl rfl⟩,fun i hi=>by simp at hi,.inl rfl⟩
 · simp at hcs
   obtain ⟨rfl,rfl,rfl⟩:=hcs
   have hlm : len <= m:=by rw [hmm];split <;> omega
   have each : ∀ i,i < len -> ∃ q : Int × Int × Int × Bool,w.cell? (a.add (i * 4)) = some (.int .i64 q.1) /\ w.cell? (a.add (i * 4 + 1)) = some (.int .i64 q.2.1) /\ w.cell? (a.add (i * 4 + 2)) = some (.int .i64 q.2.2.1) /\ w.cell? (a.add (i * 4 + 3)) = some (.bool q.2.2.2) /\ I64 q.1 /\ I64 q.2.1 /\ I64 q.2.2.1:=by
    intro i hi
    obtain ⟨cs',h1,h2⟩:=hx i (by omega)
    rw [cells24] at h1
    obtain ⟨q,e0,e1,e2,e3,f⟩:=one_area h1 h2
    rw [add_add] at e0 e1 e2 e3
    exact ⟨q,e0,e1,e2,e3,f⟩
   obtain ⟨g,hg⟩:=choose_lt each
   have hat : ∀ i,i < len -> AM.at_ ((List.range len).map fun i=>(⟨(g i).1,(g i).2.1,(g i).2.2.1,(g i).2.2.2⟩ : AM.Ar)) i = ⟨(g i).1,(g i).2.1,(g i).2.2.1,(g i).2.2.2⟩:=by
    intro i hi
    simp [AM.at_,hi]
   refine ⟨(List.range len).map fun i=>⟨(g i).1,(g i).2.1,(g i).2.2.1,(g i).2.2.2⟩,by simp,?_,fun i hi=>?_,.inr ⟨_,_,rfl,by simp⟩⟩
   · by_cases h0 : len = 0
     · subst h0
       exact ⟨some a,cap,by simp,.inl (by simp)⟩
     · obtain ⟨b,off,spot⟩:=a
       have hc:=(hg 0 (by omega)).1
       have hspot : spot = none:=by simpa [Addr.add] using World.cell?_spot hc
       subst hspot
       refine ⟨some ⟨b,off,none⟩,cap,by simp,.inr ⟨b,off,rfl,fun i hi=>?_⟩⟩
       have hi' : i < len:=by simpa using hi
       rw [hat i hi']
       obtain ⟨e0,e1,e2,e3,_⟩:=hg i hi'
       rw [Addr.add_lit] at e0 e1 e2 e3
       exact ⟨e0,by rw [Nat.add_assoc];exact e1,by rw [Nat.add_assoc];exact e2,by rw [Nat.add_assoc];exact e3⟩
   · have hi' : i < len:=by simpa using hi
     rw [hat i hi']
     obtain ⟨_,_,_,_,f1,f2,f3⟩:=hg i hi'
     exact ⟨f1,f2,f3⟩
end
end AW
end Go.Proofs.YtpgifpeohlllfaaGreat
