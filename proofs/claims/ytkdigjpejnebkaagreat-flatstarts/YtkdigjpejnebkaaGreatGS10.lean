import Derived.Test.YtkdigjpejnebkaaGreatGS03
import Derived.Test.YtkdigjpejnebkaaGreatGS09
import Derived.Deep.RegionHeld3
import Derived.Deep.RegionLaw
import Derived.Deep.DeepCutAuto
set_option linter.unusedVariables false
set_option maxRecDepth 100000
set_option linter.unusedSimpArgs false
namespace Go.Proofs.YtkdigjpejnebkaaGreat
namespace GF
open Go.RowKit GK
open FW (hideC add_below)
def cellPg (p : FM.Pg) : List Value:=[.int .i64 p.page,.string p.data]
structure Lc where
 lv : Bool
 va : Value
 vp : Value
def cellLc (l : Lc) : List Value:=[.bool l.lv,l.va,l.vp]
def lc0 : Lc:=⟨false,.slice none 0 0,.slice none 0 0⟩
def lcAt (l : List Lc) (k : Nat) : Lc:=l.getD k lc0
def blk (v : Value) (b : Nat) : Prop:=v.ownBlock = some b
structure SpOwn (lo : Nat) (w : World) (l : Lc) (s : FM.Sp) : Prop where
 live : l.lv = s.live
 areas : AW.Own lo w l.va s.areas
 pages : w.ownsRow lo 65 2 l.vp s.pages.length (s.pages.flatMap cellPg)
theorem SpOwn.kp {lo : Nat} {w w' : World} {D : Nat -> Prop} {l : Lc} {s : FM.Sp} (h : SpOwn lo w l s) (hk : Kp D w w') (ha : ∀ b,blk l.va b -> ¬ D b) (hp : ∀ b,blk l.vp b -> ¬ D b) : SpOwn lo w' l s:=⟨h.live,hk.row h.areas ha,hk.row h.pages hp⟩
theorem SpOwn.mono {lo lo' : Nat} {w : World} {l : Lc} {s : FM.Sp} (h : SpOwn lo w l s) (hl : lo' <= lo) : SpOwn lo' w l s:=⟨h.live,h.areas.mono hl,row_base h.pages (fun g hg=>Nat.le_trans hl (h.pages.lt g hg).1)⟩
theorem from_rows {α : Type} {w : World} (f : α -> List Value) (k : Nat) (hf : ∀ x,(f x).length = k) (d : α) (l : List α) (b off : Nat) (h : ∀ i,i < l.length -> ∀ j,j < k -> w.cell? ⟨b,off + i * k + j,none⟩ = (f (l.getD i d))[j]?) : From w (some ⟨b,off,none⟩) l.length (l.flatMap f):=fun hm=>by
 refine ⟨_,rfl,fun j u hu=>?_⟩
 have hlt : j < l.length * k:=by
  rw [<- rows_length f k hf l]
  rcases Nat.lt_or_ge j (l.flatMap f).length with g | g
  · exact g
  · rw [List.getElem?_eq_none g] at hu
    cases hu
 have hk : 0 < k:=by
  rcases Nat.eq_zero_or_pos k with g | g
  · subst g;omega
  · exact g
 have e : j = j / k * k + j % k:=by rw [Nat.mul_comm];exact (Nat.div_add_mod j k).symm
 have h1 : j / k < l.length:=(Nat.div_lt_iff_lt_mul hk).2 hlt
 have h2 : j % k < k:=Nat.mod_lt _ hk
 have hg:=rows_get f k hf d l (j / k) (j % k) h1 h2
 rw [<- e] at hg
 rw [hg] at hu
 rw [Addr.add_lit,<- hu,<- h (j / k) h1 (j % k) h2]
 congr 2
 rw [Nat.add_assoc,<- e]
theorem areas_from {w : World} {ao : Option Addr} {n c : Nat} {l : List AM.Ar} (h : AW.Has w (.slice ao n c) l) : n = l.length /\ From w ao n (AM.areaCells l):=by
 obtain ⟨ao',cap,e,h⟩:=h
 injection e with e1 e2 e3
 subst e1 e2 e3
 refine ⟨rfl,fun hm=>?_⟩
 rcases h with h | ⟨b,off,rfl,hl⟩
 · subst h;simp at hm
 · have:=from_rows (w:=w) AM.four 4 (fun _=>rfl) AM.nil l b off (fun i hi j hj=>by
    obtain ⟨c0,c1,c2,c3⟩:=hl i hi
    match j,hj with
    | 0,_=>exact c0
    | 1,_=>exact c1
    | 2,_=>exact c2
    | 3,_=>exact c3)
   have e : AM.areaCells l = l.flatMap AM.four:=by
    clear this hl hm
    induction l with
    | nil=>rfl
    | cons a r ih=>rw [List.flatMap_cons,<- ih];rfl
   rw [e]
   exact this hm
theorem pages_from {w : World} {ap : Option Addr} {l : List FM.Pg} (h : FW.HasP w ap l) : From w ap l.length (l.flatMap cellPg):=fun hm=>by
 obtain ⟨b,off,rfl,hb,hl⟩:=h hm
 exact from_rows (w:=w) cellPg 2 (fun _=>rfl) FM.pg0 l b off (fun i hi j hj=>by
   obtain ⟨c0,c1⟩:=hl i hi
   match j,hj with
   | 0,_=>exact c0
   | 1,_=>exact c1) hm
theorem cells_one : ∀ (l : List FM.Pg),∀ u ∈ l.flatMap cellPg,u.oneCell' = true:=fun l u hu=>by
 obtain ⟨y,_,hy⟩:=List.mem_flatMap.1 hu
 simp [cellPg] at hy
 rcases hy with rfl | rfl <;> rfl
def OutSp (w : World) (s : FM.Sp) (e : Ending) (w' : World) : Prop:=∃ va vp,e = .returned (.agg #[.bool s.live,va,vp]) /\ SpOwn w.heap.size w' ⟨s.live,va,vp⟩ s /\ (∀ b,blk vp b -> ¬ blk va b) /\ Below w.heap.size w w'
set_option maxHeartbeats 4000000 in
theorem copyOf_any (s : FM.Sp) (aa ap : Option Addr) (na ca cp : Nat) (w : World) (ha : AW.Has w (.slice aa na ca) s.areas) (hp : FW.HasP w ap s.pages) (hna : s.areas.length <= 1000000) (hnp : s.pages.length <= 1000000) :
  Calls Tryz.prog 107 #[.agg #[.bool s.live,.slice aa na ca,.slice ap s.pages.length cp]] w (OutSp w s):=by
 obtain ⟨hn,hfa⟩:=areas_from ha
 have HFA:=hideC hfa
 have HFP:=hideC (pages_from hp)
 obtain ⟨lv,ars,pgs⟩:=s
 simp only at hn HFA HFP hna hnp ⊢
 subst hn
 have HLA:=hideC (AM.areaCells_length ars)
 have HLP:=hideC (rows_length cellPg 2 (fun _=>rfl) pgs)
 have H1A:=hideC (AM.areaCells_one ars)
 have H1P:=hideC (cells_one pgs)
 have HFIN : Hid (∀ va vp (w' : World),AW.Own w.heap.size w' va ars -> w'.ownsRow w.heap.size 65 2 vp pgs.length (pgs.flatMap cellPg) -> (∀ b,blk vp b -> ¬ blk va b) -> Below w.heap.size w w' -> OutSp w ⟨lv,ars,pgs⟩ (.returned (.agg #[.bool lv,va,vp])) w'):=fun va vp w' h1 h2 h3 h4=>⟨va,vp,rfl,⟨rfl,h1,h2⟩,h3,h4⟩
 obtain ⟨XA,hXA⟩ : ∃ XA,XA = AM.areaCells ars:=⟨_,rfl⟩
 obtain ⟨XP,hXP⟩ : ∃ XP,XP = pgs.flatMap cellPg:=⟨_,rfl⟩
 unfold AW.Own at HFIN
 rw [<- hXA] at HFA HLA H1A HFIN
 rw [<- hXP] at HFP HLP H1P HFIN
 obtain ⟨na,hna'⟩ : ∃ na,na = ars.length:=⟨_,rfl⟩
 obtain ⟨np,hnp'⟩ : ∃ np,np = pgs.length:=⟨_,rfl⟩
 rw [<- hna'] at HFA HLA HFIN hna ⊢
 rw [<- hnp'] at HFP HLP HFIN hnp ⊢
 clear hfa ha hp hXA hXP hna' hnp'
 have HB0:=hideC (((Below.refl w.heap.size w).alloc (Nat.le_refl _) (.cells #[.bool lv,.slice aa na ca,.slice ap np cp] 53)).alloc (by simp) (.cells #[.bool false,.slice none 0 0,.slice none 0 0] 53))
 have X0:=hideC (B.alloc (B.new w #[.bool lv,.slice aa na ca,.slice ap np cp] 53) (.cells #[.bool false,.slice none 0 0,.slice none 0 0] 53))
 have Y0 : Hid (((w.alloc (.cells #[.bool lv,.slice aa na ca,.slice ap np cp] 53)).alloc (.cells #[.bool false,.slice none 0 0,.slice none 0 0] 53)).heap[w.heap.size + 1]? = some (.cells #[.bool false,.slice none 0 0,.slice none 0 0] 53 (0,0))):=by
  have:=B.new (w.alloc (.cells #[.bool lv,.slice aa na ca,.slice ap np cp] 53)) #[.bool false,.slice none 0 0,.slice none 0 0] 53
  rw [World.size_alloc] at this
  exact this
 go_enter Tryz.func107,Tryz.ntmps107
 go_wp2
 obtain ⟨WA,hWA⟩ : ∃ WA,WA = (w.alloc (.cells #[.bool lv,.slice aa na ca,.slice ap np cp] 53)).alloc (.cells #[.bool false,.slice none 0 0,.slice none 0 0] 53):=⟨_,rfl⟩
 rw [<- hWA] at HB0 X0 Y0 ⊢
 clear hWA
 have HB00:=hideC HB0.out
 obtain ⟨xb,hxb⟩ : ∃ xb,xb = w.heap.size:=⟨_,rfl⟩
 rw [<- hxb] at X0 Y0 HB0 HFIN ⊢
 have HXB:=hideC hxb
 clear hxb
 have HS : Hid (∀ V,Below WA.heap.size WA V -> V.cell? ⟨xb,0,none⟩ = some (.bool lv) /\ V.cell? ⟨xb,1,none⟩ = some (.slice aa na ca) /\ V.cell? ⟨xb,2,none⟩ = some (.slice ap np cp)):=fun V hb=>by
  have h1:=B.below X0.out hb (B.isLt X0.out)
  exact ⟨B.cell h1 0 rfl,B.cell h1 1 rfl,B.cell h1 2 rfl⟩
 have HCA : Hid (∀ V,Below WA.heap.size WA V -> Calls Tryz.prog 23 #[.slice aa na ca] V fun e w'=>∃ a c,e = .returned (.slice a na c) /\ w'.ownsRow V.heap.size 59 4 (.slice a na c) na XA /\ Below V.heap.size V w'):=fun V hV=>(cloneAr aa na ca XA V HLA.out (HFA.out.below (HB00.out.trans (hV.mono HB00.out.size))) H1A.out hna).mono fun e w' ⟨v,h1,h2,h3⟩=>by
   obtain ⟨a,c,rfl,_⟩:=row_form h2
   exact ⟨a,c,h1,h2,h3⟩
 have HCP : Hid (∀ V,Below WA.heap.size WA V -> Calls Tryz.prog 123 #[.slice ap np cp] V fun e w'=>∃ a c,e = .returned (.slice a np c) /\ w'.ownsRow V.heap.size 65 2 (.slice a np c) np XP /\ Below V.heap.size V w'):=fun V hV=>(clonePg ap np cp XP V HLP.out (HFP.out.below (HB00.out.trans (hV.mono HB00.out.size))) H1P.out hnp).mono fun e w' ⟨v,h1,h2,h3⟩=>by
   obtain ⟨a,c,rfl,_⟩:=row_form h2
   exact ⟨a,c,h1,h2,h3⟩
 have HSY : Hid (∀ V : World,(V.cell? ⟨xb,0,none⟩ = some (.bool lv) /\ V.cell? ⟨xb,1,none⟩ = some (.slice aa na ca) /\ V.cell? ⟨xb,2,none⟩ = some (.slice ap np cp)) -> ∀ v0 v1 v2,(((V.setCell ⟨xb + 1,0,none⟩ v0).setCell ⟨xb + 1,1,none⟩ v1).setCell ⟨xb + 1,2,none⟩ v2).cell? ⟨xb,0,none⟩ = some (.bool lv) /\ (((V.setCell ⟨xb + 1,0,none⟩ v0).setCell ⟨xb + 1,1,none⟩ v1).setCell ⟨xb + 1,2,none⟩ v2).cell? ⟨xb,1,none⟩ = some (.slice aa na ca) /\ (((V.setCell ⟨xb + 1,0,none⟩ v0).setCell ⟨xb + 1,1,none⟩ v1).setCell ⟨xb + 1,2,none⟩ v2).cell? ⟨xb,2,none⟩ = some (.slice ap np cp)):=fun V ⟨h0,h1,h2⟩ v0 v1 v2=>by
  have hne : xb ≠ xb + 1:=by omega
  rw [cell_other _ _ _ _ _ _ hne,cell_other _ _ _ _ _ _ hne,cell_other _ _ _ _ _ _ hne,cell_other _ _ _ _ _ _ hne,cell_other _ _ _ _ _ _ hne,cell_other _ _ _ _ _ _ hne,cell_other _ _ _ _ _ _ hne,cell_other _ _ _ _ _ _ hne,cell_other _ _ _ _ _ _ hne]
  exact ⟨h0,h1,h2⟩
 have HK0:=hideC (Below.refl WA.heap.size WA).drew
 have HS0:=hideC (HS.out _ HK0.out)
 go_region_held3 (fun V=>V.cell? ⟨xb,0,none⟩ = some (.bool lv) /\ V.cell? ⟨xb,1,none⟩ = some (.slice aa na ca) /\ V.cell? ⟨xb,2,none⟩ = some (.slice ap np cp)) (first | exact HS3.out | exact HS2.out | exact HS0.out | exact HSX.out _ _ _)
  (first
   | (go_at_call 23;refine (HCA.out _ HK0.out).mono ?_;rintro e w2 ⟨a2,c2,rfl,hr2,hb2⟩;have HK2:=hideC (HK0.out.trans (hb2.mono HK0.out.size));have HS2:=hideC (HS.out _ HK2.out);have HR2:=hideC hr2;clear hb2 hr2)
   | (go_at_call 123;refine (HCP.out _ HK2.out).mono ?_;rintro e w3 ⟨a3,c3,rfl,hr3,hb3⟩;have HK3:=hideC (HK2.out.trans (hb3.mono HK2.out.size));have HS3:=hideC (HS.out _ HK3.out);have HR3:=hideC hr3;have HB3:=hideC hb3;have y0 : w3.cell? ⟨xb + 1,0,none⟩ = some (.bool false):=B.cell (B.below Y0.out HK3.out (B.isLt Y0.out)) 0 rfl;have z0 : w3.frozen? ⟨xb + 1,0,none⟩ = false:=B.free (B.below Y0.out HK3.out (B.isLt Y0.out)) 0;have y1 : w3.cell? ⟨xb + 1,1,none⟩ = some (.slice none 0 0):=B.cell (B.below Y0.out HK3.out (B.isLt Y0.out)) 1 rfl;have z1 : w3.frozen? ⟨xb + 1,1,none⟩ = false:=B.free (B.below Y0.out HK3.out (B.isLt Y0.out)) 1;have y2 : w3.cell? ⟨xb + 1,2,none⟩ = some (.slice none 0 0):=B.cell (B.below Y0.out HK3.out (B.isLt Y0.out)) 2 rfl;have z2 : w3.frozen? ⟨xb + 1,2,none⟩ = false:=B.free (B.below Y0.out HK3.out (B.isLt Y0.out)) 2;have HSX:=hideC (fun v0 v1 v2=>HSY.out w3 HS3.out v0 v1 v2);clear hb3 hr3))
 all_goals clear HSX HSY HS HS0 HS2 HS3 HCA HCP
 all_goals go_wp2
 · refine bodyPost_ret (v:=.agg #[.bool lv,.slice a2 na c2,.slice a3 np c3]) (by simp [results,Tryz.results107,go_sem,y0,y1,y2]) rfl ?_
   have k3 : Kp (fun b=>b = xb + 1) w3 _:=kp_set3 w3 (xb + 1) 0 1 2 (.bool lv) (.slice a2 na c2) (.slice a3 np c3) rfl
   have l1:=B.isLt Y0.out
   have l2:=HB00.out.size
   have l3:=HK2.out.size
   have hx:=HXB.out
   have e2 : ∀ g,(Value.slice a2 na c2).ownBlock = some g -> WA.heap.size <= g /\ g < w2.heap.size:=fun g hg=>HR2.out.lt g hg
   have e3 : ∀ g,(Value.slice a3 np c3).ownBlock = some g -> w2.heap.size <= g /\ g < w3.heap.size:=fun g hg=>HR3.out.lt g hg
   have r2:=(Kp.ofBelow (D:=fun _=>False) HB3.out).row HR2.out (fun _ _ g=>g)
   refine HFIN.out _ _ _ (k3.row (row_base r2 (fun g hg=>by have:=e2 g hg;omega)) (fun g hg e=>by have:=e2 g hg;omega)) (k3.row (row_base HR3.out (fun g hg=>by have:=e3 g hg;omega)) (fun g hg e=>by have:=e3 g hg;omega)) (fun b h1 h2=>by have:=e2 b h2;have:=e3 b h1;omega) ?_
   exact Kp.below (HB0.out.trans (HK3.out.mono (by omega))) k3 (by have:=HK3.out.size;omega) (fun b e=>by omega)
structure Mem (lo mb : Nat) (w : World) (D : Nat -> Prop) (sl : Int) (v : Value) (L : List Lc) (ss : List FM.Sp) : Prop where
 len : L.length = ss.length
 head : w.heap[mb]? = some (.cells #[.int .i64 sl,v] 153 (0,0))
 row : w.ownsRow lo 53 3 v L.length (L.flatMap cellLc)
 each : ∀ k,k < L.length -> SpOwn lo w (lcAt L k) (FM.spAt ss k)
 base : lo <= mb
 n1 : ¬ blk v mb
 n2 : ∀ k,k < L.length -> ¬ blk (lcAt L k).va mb /\ ¬ blk (lcAt L k).vp mb
 n3 : ∀ k,k < L.length -> ∀ b,blk v b -> ¬ blk (lcAt L k).va b /\ ¬ blk (lcAt L k).vp b
 n4 : ∀ j k,j < L.length -> k < L.length -> ∀ b,blk (lcAt L j).vp b -> ¬ blk (lcAt L k).va b /\ (j ≠ k -> ¬ blk (lcAt L k).vp b)
 d1 : D mb
 d2 : ∀ b,blk v b -> D b
 d3 : ∀ k,k < L.length -> ∀ b,blk (lcAt L k).va b ∨ blk (lcAt L k).vp b -> D b
theorem Mem.kp {lo mb : Nat} {w w' : World} {D E : Nat -> Prop} {sl : Int} {v : Value} {L : List Lc} {ss : List FM.Sp} (h : Mem lo mb w D sl v L ss) (hk : Kp E w w') (hd : ∀ b,D b -> ¬ E b) : Mem lo mb w' D sl v L ss :=
 ⟨h.len,hk.keep h.head (hd _ h.d1),hk.row h.row (fun g hg=>hd _ (h.d2 g hg)),fun k hl=>(h.each k hl).kp hk (fun b hb=>hd _ (h.d3 k hl b (.inl hb))) (fun b hb=>hd _ (h.d3 k hl b (.inr hb))),h.base,h.n1,h.n2,h.n3,h.n4,h.d1,h.d2,h.d3⟩
theorem Mem.below {lo mb : Nat} {w w' : World} {D : Nat -> Prop} {sl : Int} {v : Value} {L : List Lc} {ss : List FM.Sp} (h : Mem lo mb w D sl v L ss) (hb : Below w.heap.size w w') : Mem lo mb w' D sl v L ss:=h.kp (Kp.ofBelow (D:=fun _=>False) hb) (fun _ _ g=>g)
theorem Mem.lt {lo mb : Nat} {w : World} {D : Nat -> Prop} {sl : Int} {v : Value} {L : List Lc} {ss : List FM.Sp} (h : Mem lo mb w D sl v L ss) (k : Nat) (hk : k < L.length) (b : Nat) (hb : blk (lcAt L k).va b ∨ blk (lcAt L k).vp b) : lo <= b /\ b < w.heap.size:=by
 rcases hb with g | g
 · exact (h.each k hk).areas.lt b g
 · exact (h.each k hk).pages.lt b g
theorem lcAt_snoc (L : List Lc) (l : Lc) (k : Nat) : lcAt (L ++ [l]) k = if k < L.length then lcAt L k else if k = L.length then l else lc0:=by
 unfold lcAt
 rw [List.getD_eq_getElem?_getD,List.getD_eq_getElem?_getD]
 by_cases h : k < L.length
 · rw [if_pos h,List.getElem?_append_left h]
 · rw [if_neg h,List.getElem?_append_right (by omega)]
   by_cases h2 : k = L.length
   · rw [if_pos h2,h2,Nat.sub_self];rfl
   · rw [if_neg h2]
     obtain ⟨d,hd⟩ : ∃ d,k - L.length = d + 1:=⟨k - L.length - 1,by omega⟩
     rw [hd];rfl
theorem spAt_snoc (L : List FM.Sp) (l : FM.Sp) (k : Nat) : FM.spAt (L ++ [l]) k = if k < L.length then FM.spAt L k else if k = L.length then l else FM.sp0:=by
 unfold FM.spAt
 rw [List.getD_eq_getElem?_getD,List.getD_eq_getElem?_getD]
 by_cases h : k < L.length
 · rw [if_pos h,List.getElem?_append_left h]
 · rw [if_neg h,List.getElem?_append_right (by omega)]
   by_cases h2 : k = L.length
   · rw [if_pos h2,h2,Nat.sub_self];rfl
   · rw [if_neg h2]
     obtain ⟨d,hd⟩ : ∃ d,k - L.length = d + 1:=⟨k - L.length - 1,by omega⟩
     rw [hd];rfl
theorem Mem.snoc {lo mb : Nat} {w w2 : World} {D D' : Nat -> Prop} {sl : Int} {v v' : Value} {L : List Lc} {ss : List FM.Sp} {l : Lc} {s : FM.Sp} (h : Mem lo mb w D sl v L ss) (hk : Kp (blk v) w w2)
  (hrow : w2.ownsRow lo 53 3 v' (L.length + 1) ((L ++ [l]).flatMap cellLc)) (hat : ∀ b,blk v' b -> blk v b ∨ w.heap.size <= b) (hs : SpOwn lo w2 l s) (hl : ∀ b,blk l.va b ∨ blk l.vp b -> w.heap.size <= b)
  (ha : ∀ b,blk l.vp b -> ¬ blk l.va b) (hv : ∀ b,blk v' b -> ¬ blk l.va b /\ ¬ blk l.vp b) (hd : ∀ b,D b -> D' b) (hd2 : ∀ b,w.heap.size <= b -> b < w2.heap.size -> D' b) :
  Mem lo mb (w2.setCell ⟨mb,1,none⟩ v') D' sl v' (L ++ [l]) (ss ++ [s]):=by
 have hmb:=B.isLt h.head
 have hle : (L ++ [l]).length = L.length + 1:=by simp
 have hset : Kp (fun b=>b = mb) w2 (w2.setCell ⟨mb,1,none⟩ v'):=Kp.set _ _ _ _ rfl
 have hv'mb : ¬ blk v' mb:=fun g=>by
  rcases hat _ g with g | g
  · exact h.n1 g
  · omega
 have hlmb : ¬ blk l.va mb /\ ¬ blk l.vp mb:=⟨fun g=>by have:=hl _ (.inl g);omega,fun g=>by have:=hl _ (.inr g);omega⟩
 have hold : ∀ k,k < L.length -> SpOwn lo w2 (lcAt L k) (FM.spAt ss k):=fun k hk'=>(h.each k hk').kp hk (fun b hb g=>(h.n3 k hk' b g).1 hb) (fun b hb g=>(h.n3 k hk' b g).2 hb)
 have hk1 : ∀ k,k < (L ++ [l]).length -> k < L.length ∨ k = L.length:=fun k hk'=>by omega
 have old : ∀ k,k < L.length -> lcAt (L ++ [l]) k = lcAt L k:=fun k hk'=>by rw [lcAt_snoc,if_pos hk']
 have new : lcAt (L ++ [l]) L.length = l:=by rw [lcAt_snoc,if_neg (by omega),if_pos rfl]
 have oldS : ∀ k,k < L.length -> FM.spAt (ss ++ [s]) k = FM.spAt ss k:=fun k hk'=>by rw [spAt_snoc,if_pos (by rw [<- h.len];exact hk')]
 have newS : FM.spAt (ss ++ [s]) L.length = s:=by rw [spAt_snoc,if_neg (by rw [h.len];omega),if_pos h.len]
 refine ⟨by simp [h.len],?_,?_,?_,h.base,hv'mb,?_,?_,?_,hd _ h.d1,?_,?_⟩
 · exact B.set (hk.keep h.head h.n1) 1 v'
 · rw [hle]
   exact hset.row hrow (fun g hg e=>hv'mb (e ▸ hg))
 · intro k hk'
   rcases hk1 k hk' with g | g
   · rw [old k g,oldS k g]
     exact (hold k g).kp hset (fun b hb e=>(h.n2 k g).1 (e ▸ hb)) (fun b hb e=>(h.n2 k g).2 (e ▸ hb))
   · subst g
     rw [new,newS]
     exact hs.kp hset (fun b hb e=>hlmb.1 (e ▸ hb)) (fun b hb e=>hlmb.2 (e ▸ hb))
 · intro k hk'
   rcases hk1 k hk' with g | g
   · rw [old k g];exact h.n2 k g
   · subst g;rw [new];exact hlmb
 · intro k hk' b hb
   rcases hk1 k hk' with g | g
   · rw [old k g]
     rcases hat b hb with e | e
     · exact h.n3 k g b e
     · exact ⟨fun x=>by have:=h.lt k g b (.inl x);omega,fun x=>by have:=h.lt k g b (.inr x);omega⟩
   · subst g;rw [new];exact hv b hb
 · intro j k hj hk' b hb
   rcases hk1 j hj with g | g
   · rw [old j g] at hb
     rcases hk1 k hk' with g2 | g2
     · rw [old k g2];exact h.n4 j k g g2 b hb
     · subst g2;rw [new]
       have:=h.lt j g b (.inr hb)
       exact ⟨fun x=>by have:=hl b (.inl x);omega,fun _ x=>by have:=hl b (.inr x);omega⟩
   · subst g
     rw [new] at hb
     rcases hk1 k hk' with g2 | g2
     · rw [old k g2]
       have:=hl b (.inr hb)
       exact ⟨fun x=>by have:=h.lt k g2 b (.inl x);omega,fun _ x=>by have:=h.lt k g2 b (.inr x);omega⟩
     · subst g2;rw [new]
       exact ⟨ha b hb,fun e=>(e rfl).elim⟩
 · intro b hb
   rcases hat b hb with e | e
   · exact hd _ (h.d2 b e)
   · exact hd2 b e (hrow.lt b hb).2
 · intro k hk' b hb
   rcases hk1 k hk' with g | g
   · rw [old k g] at hb;exact hd _ (h.d3 k g b hb)
   · subst g;rw [new] at hb
     refine hd2 b (hl b hb) ?_
     rcases hb with x | x
     · exact (hs.areas.lt b x).2
     · exact (hs.pages.lt b x).2
theorem Mem.push {lo mb : Nat} {w w2 w4 : World} {D D' : Nat -> Prop} {sl : Int} {v v' : Value} {L : List Lc} {ss : List FM.Sp} {l : Lc} {s : FM.Sp} {O : Obj} (h : Mem lo mb w D sl v L ss) (hlo : lo <= w.heap.size) (hb2 : Below w.heap.size w w2)
  (hso : SpOwn w.heap.size w2 l s) (hne : ∀ b,blk l.vp b -> ¬ blk l.va b) (hgr : (w2.alloc O).grownBy w4 v.ownBlock) (hown : w4.ownsRow lo 53 3 v' (L.length + 1) (L.flatMap cellLc ++ cellLc l))
  (hat : v'.ownBlock = v.ownBlock ∨ v'.ownBlock = some (w2.alloc O).heap.size) (hd : ∀ b,D b -> D' b) (hd2 : ∀ b,w.heap.size <= b -> b < w4.heap.size -> D' b) :
  Mem lo mb (w4.setCell ⟨mb,1,none⟩ v') D' sl v' (L ++ [l]) (ss ++ [s]) /\ Kp (fun b=>b = mb ∨ blk v b) w (w4.setCell ⟨mb,1,none⟩ v'):=by
 have s1:=hb2.size
 have s2:=hgr.size
 have hz : (w2.alloc O).heap.size = w2.heap.size + 1:=World.size_alloc _ _
 rw [hz] at s2 hat
 have kA : Kp (blk v) w w2:=Kp.ofBelow hb2
 have kB : Kp (blk v) w2 (w2.alloc O):=Kp.alloc _ w2 O
 have kC : Kp (blk v) (w2.alloc O) w4:=Kp.grown hgr (fun _ e=>e)
 have kD:=kA.trans (kB.trans kC (fun _ _ g=>g)) (fun _ _ g=>g)
 have eA : ∀ b,blk l.va b ∨ blk l.vp b -> w.heap.size <= b /\ b < w2.heap.size:=fun b hb=>by
  rcases hb with g | g
  · exact hso.areas.lt b g
  · exact hso.pages.lt b g
 have hvb : ∀ b,blk v b -> b < w.heap.size:=fun b hb=>(h.row.lt b hb).2
 have hv4 : ∀ b,blk v' b -> blk v b ∨ b = w2.heap.size + 1:=fun b hb=>by
  unfold blk at hb ⊢
  rcases hat with e | e
  · exact .inl (by rw [<- e];exact hb)
  · right
    rw [e] at hb
    injection hb with hb
    exact hb.symm
 refine ⟨h.snoc kD ?_ (fun b hb=>?_) ?_ (fun b hb=>(eA b hb).1) hne (fun b hb=>?_) hd hd2,?_⟩
 · rw [List.flatMap_append]
   simpa using hown
 · rcases hv4 b hb with g | g
   · exact .inl g
   · exact .inr (by omega)
 · refine (hso.mono hlo).kp (kB.trans kC (fun _ _ g=>g)) (fun b hb g=>?_) (fun b hb g=>?_)
   · have:=hvb b g;have:=eA b (.inl hb);omega
   · have:=hvb b g;have:=eA b (.inr hb);omega
 · rcases hv4 b hb with g | g
   · have:=hvb b g
     exact ⟨fun x=>by have:=eA b (.inl x);omega,fun x=>by have:=eA b (.inr x);omega⟩
   · exact ⟨fun x=>by have:=eA b (.inl x);omega,fun x=>by have:=eA b (.inr x);omega⟩
 · exact (kD.mono (fun b _ g=>.inr g)).trans (Kp.set (fun b=>b = mb ∨ blk v b) w4 ⟨mb,1,none⟩ v' (.inl rfl)) (fun _ _ g=>g)
theorem cellLc_len (l : Lc) : (cellLc l).length = 3:=rfl
theorem cellPg_len (l : FM.Pg) : (cellPg l).length = 2:=rfl
theorem Mem.has {lo mb : Nat} {w : World} {D : Nat -> Prop} {sl : Int} {v : Value} {L : List Lc} {ss : List FM.Sp} (h : Mem lo mb w D sl v L ss) : ∃ ao cap,v = .slice ao ss.length cap /\ FW.HasS w ao ss:=by
 obtain ⟨ao,cap,rfl,hle,hg⟩:=row_form h.row
 have hlen:=h.len
 refine ⟨ao,cap,by rw [hlen],fun hl=>?_⟩
 obtain ⟨g,rfl,hg1,hg2⟩:=hg (by omega)
 refine ⟨g,0,rfl,hg2,fun k hk=>?_⟩
 have hk' : k < L.length:=by omega
 have hs:=h.each k hk'
 have hc : ∀ j,j < 3 -> w.cell? ⟨g,k * 3 + j,none⟩ = (cellLc (lcAt L k))[j]?:=fun j hj=>row_at cellLc cellLc_len lc0 h.row k j hk' hj
 obtain ⟨ap,cp,hvp,hlp,hgp⟩:=row_form hs.pages
 have hc0:=hc 0 (by omega)
 have hc1:=hc 1 (by omega)
 have hc2:=hc 2 (by omega)
 rw [Nat.zero_add]
 refine ⟨(lcAt L k).va,ap,cp,?_,hc1,?_,hs.areas.has,?_,hlp⟩
 · rw [<- hs.live];exact hc0
 · rw [<- hvp];exact hc2
 · intro hp
   obtain ⟨q,rfl,hq1,hq2⟩:=hgp hp
   refine ⟨q,0,rfl,hq2,fun i hi=>?_⟩
   have hr:=hs.pages
   rw [hvp] at hr
   have hci : ∀ j,j < 2 -> w.cell? ⟨q,i * 2 + j,none⟩ = (cellPg (FM.pgAt (FM.spAt ss k).pages i))[j]?:=fun j hj=>row_at cellPg cellPg_len FM.pg0 hr i j hi hj
   rw [Nat.zero_add]
   exact ⟨hci 0 (by omega),hci 1 (by omega)⟩
theorem infoFS : (Tryz.prog.info? 53).map (fun i=>(i.zero,i.size,i.bytes)) = some (some (.agg #[.bool false,.slice none 0 0,.slice none 0 0]),3,56):=by kernel_rfl
theorem mem_nil {lo mb : Nat} {w : World} {D : Nat -> Prop} {sl : Int} (hm : w.heap[mb]? = some (.cells #[.int .i64 sl,.slice none 0 0] 153 (0,0))) (hl : lo <= mb) (hd : D mb) : Mem lo mb w D sl (.slice none 0 0) [] [] :=
 ⟨rfl,hm,World.ownsRow_nil _ _ _ _,(fun k hk=>absurd hk (Nat.not_lt_zero _)),hl,(fun g=>nomatch g),(fun k hk=>absurd hk (Nat.not_lt_zero _)),(fun k hk=>absurd hk (Nat.not_lt_zero _)),(fun j k hj=>absurd hj (Nat.not_lt_zero _)),hd,(fun b g=>nomatch g),(fun k hk=>absurd hk (Nat.not_lt_zero _))⟩
def OutMem (w : World) (sl : Int) (ss : List FM.Sp) (e : Ending) (w' : World) : Prop:=∃ mb v L,e = .returned (.pointer (some ⟨mb,0,none⟩)) /\ Mem w.heap.size mb w' (fun b=>w.heap.size <= b /\ b < w'.heap.size) sl v L ss /\ Below w.heap.size w w'
set_option maxHeartbeats 4000000 in
theorem newMemory_any (f : FM.Fl) (az ar ao : Option Addr) (cs cr co : Nat) (w : World) (h : FW.HasS w az f.spaces) (hf : FW.FitSs f.spaces) (hn : f.spaces.length <= 1000) (hsp : ∀ k,k < f.spaces.length -> (FM.spAt f.spaces k).areas.length <= 1000000 /\ (FM.spAt f.spaces k).pages.length <= 1000000) :
  Calls Tryz.prog 78 #[.agg (FW.flCells f az ar ao cs cr co)] w (OutMem w f.slots f.spaces):=by
 have HH:=hideC h
 have HF:=hideC hf
 have HSP:=hideC hsp
 obtain ⟨sl,ss,ps,os⟩:=f
 unfold FW.flCells
 simp only at HH HF HSP hn ⊢
 obtain ⟨nr,hnr⟩ : ∃ nr,nr = ps.length:=⟨_,rfl⟩
 obtain ⟨no,hno⟩ : ∃ no,no = os.length:=⟨_,rfl⟩
 rw [<- hnr,<- hno]
 clear h hf hsp hnr hno
 have HB0:=hideC (((Below.refl w.heap.size w).alloc (Nat.le_refl _) (.cells #[.int .i64 sl,.slice az ss.length cs,.slice ar nr cr,.slice ao no co] 30)).alloc (by simp) (.cells #[.int .i64 sl,.slice none 0 0] 153))
 have Y0 : Hid (((w.alloc (.cells #[.int .i64 sl,.slice az ss.length cs,.slice ar nr cr,.slice ao no co] 30)).alloc (.cells #[.int .i64 sl,.slice none 0 0] 153)).heap[w.heap.size + 1]? = some (.cells #[.int .i64 sl,.slice none 0 0] 153 (0,0))):=by
  have:=B.new (w.alloc (.cells #[.int .i64 sl,.slice az ss.length cs,.slice ar nr cr,.slice ao no co] 30)) #[.int .i64 sl,.slice none 0 0] 153
  rw [World.size_alloc] at this
  exact this
 have HFIN : Hid (∀ v L (w' : World),Mem w.heap.size (w.heap.size + 1) w' (fun b=>w.heap.size <= b /\ b < w'.heap.size) sl v L ss -> Below w.heap.size w w' -> OutMem w sl ss (.returned (.pointer (some ⟨w.heap.size + 1,0,none⟩))) w'):=fun v L w' h1 h2=>⟨_,v,L,rfl,h1,h2⟩
 obtain ⟨i0,hin,hz0,hz1,hz2⟩:=info_parts infoFS
 have HIN:=hideC hin
 have HZ0:=hideC hz0
 have HZ1:=hideC hz1
 have HZ2:=hideC hz2
 clear hin hz0 hz1 hz2
 obtain ⟨P,hP⟩ : ∃ P,P = OutMem w sl ss:=⟨_,rfl⟩
 rw [<- hP] at HFIN ⊢
 clear hP
 obtain ⟨ns,hns⟩ : ∃ ns,ns = ss.length:=⟨_,rfl⟩
 rw [<- hns] at HB0 Y0 hn ⊢
 have HNS:=hideC hns
 clear hns
 go_enter Tryz.func78,Tryz.ntmps78
 go_wp2
 obtain ⟨WA,hWA⟩ : ∃ WA,WA = (w.alloc (.cells #[.int .i64 sl,.slice az ns cs,.slice ar nr cr,.slice ao no co] 30)).alloc (.cells #[.int .i64 sl,.slice none 0 0] 153):=⟨_,rfl⟩
 rw [<- hWA] at HB0 Y0 ⊢
 clear hWA
 obtain ⟨mb,hmb⟩ : ∃ mb,mb = w.heap.size + 1:=⟨_,rfl⟩
 rw [<- hmb] at HFIN Y0 ⊢
 have HMB:=hideC hmb
 clear hmb
 obtain ⟨lo,hlo⟩ : ∃ lo,lo = w.heap.size:=⟨_,rfl⟩
 have HB00:=hideC HB0.out
 rw [<- hlo] at HFIN HB0 HMB ⊢
 have HLO:=hideC hlo
 clear hlo
 go_loopw [13] (fun iv wr=>∃ (k : Nat) (v : Value) (L : List Lc),k <= ns /\ iv = .int .i64 (k : Int) /\ Mem lo mb wr (fun b=>lo <= b /\ b < wr.heap.size) sl v L (ss.take k) /\ Below lo w wr) (fun iv _=>ns - (intOf iv).toNat)
 case atStart=>exact ⟨0,.slice none 0 0,[],by omega,rfl,mem_nil Y0.out (by have:=HMB.out;omega) ⟨by have:=HMB.out;omega,B.isLt Y0.out⟩,HB0.out⟩
 case round =>
  obtain ⟨k,v,L,hk,rfl,hm,hb⟩:=hrel
  have HM:=hideC hm
  have HB:=hideC hb
  have hlk : L.length = k:=by rw [hm.len,List.length_take];have:=HNS.out;omega
  have hmlt:=B.isLt hm.head
  have hlom:=hm.base
  clear HB0 HB00 Y0
  by_cases hlt : k < ns
  · have hbw : Below w.heap.size w wr:=HLO.out ▸ hb
    obtain ⟨b,off,hao,hbl,hlie⟩:=(HH.out.below hbw) (by rw [<- HNS.out];omega)
    subst hao
    obtain ⟨va,ap,cp,c0,c1,c2,c3,c4,c5⟩:=hlie k (by rw [<- HNS.out];omega)
    have hsk:=HSP.out k (by rw [<- HNS.out];omega)
    have HTK : Hid (ss.take (k + 1) = ss.take k ++ [FM.spAt ss k]):=by
     have hlt' : k < ss.length:=by rw [<- HNS.out];exact hlt
     show _ = _
     rw [List.take_succ_eq_append_getElem hlt']
     unfold FM.spAt
     rw [List.getD_eq_getElem?_getD,List.getElem?_eq_getElem hlt']
     rfl
    obtain ⟨aa,na,ca,rfl⟩:=FW.isSl c3
    have HCO : Hid (∀ V,Below wr.heap.size wr V -> Calls Tryz.prog 107 #[.agg #[.bool (FM.spAt ss k).live,.slice aa na ca,.slice ap (FM.spAt ss k).pages.length cp]] V (OutSp V (FM.spAt ss k))):=fun V hV=>copyOf_any (FM.spAt ss k) aa ap na ca cp V (c3.below hV) (c4.below hV) hsk.1 hsk.2
    obtain ⟨s,hs⟩ : ∃ s,s = FM.spAt ss k:=⟨_,rfl⟩
    rw [<- hs] at c0 c2 HTK HCO
    obtain ⟨lv,hlv⟩ : ∃ lv,lv = s.live:=⟨_,rfl⟩
    obtain ⟨np,hnp⟩ : ∃ np,np = s.pages.length:=⟨_,rfl⟩
    rw [<- hlv] at c0
    rw [<- hnp] at c2
    rw [<- hlv,<- hnp] at HCO
    have HLV:=hideC hlv
    have hki : (k : Int) < (ns : Int):=by omega
    have m1 : wr.cell? ⟨mb,1,none⟩ = some v:=B.cell hm.head 1 rfl
    have hbne : ¬ b = wr.heap.size:=by omega
    clear hs hlv hnp hsk hlie c3 c4 c5 hbw hb hm
    go_wp2
    have HBX:=hideC (HB.out.alloc (by omega) (.cells #[.bool lv,.slice aa na ca,.slice ap np cp] 53))
    have HBR:=hideC ((Below.refl wr.heap.size wr).alloc (Nat.le_refl _) (.cells #[.bool lv,.slice aa na ca,.slice ap np cp] 53))
    have BX:=hideC (B.new wr #[.bool lv,.slice aa na ca,.slice ap np cp] 53)
    have HMX : Hid (Mem lo mb (wr.alloc (.cells #[.bool lv,.slice aa na ca,.slice ap np cp] 53)) (fun b=>lo <= b /\ b < wr.heap.size) sl v L (ss.take k)):=HM.out.below HBR.out
    have HLO1 : Hid (lo <= (wr.alloc (.cells #[.bool lv,.slice aa na ca,.slice ap np cp] 53)).heap.size):=by show _ <= _;rw [World.size_alloc];omega
    have m2 : (wr.alloc (.cells #[.bool lv,.slice aa na ca,.slice ap np cp] 53)).cell? ⟨mb,1,none⟩ = some v:=B.cell HMX.out.head 1 rfl
    obtain ⟨WB,hWB⟩ : ∃ WB,WB = wr.alloc (.cells #[.bool lv,.slice aa na ca,.slice ap np cp] 53):=⟨_,rfl⟩
    rw [<- hWB] at HBX HBR BX HMX m2 HLO1 ⊢
    obtain ⟨sb,hsb⟩ : ∃ sb,sb = wr.heap.size:=⟨_,rfl⟩
    have HBR0:=hideC HBR.out
    rw [<- hsb] at BX hbl hmlt ⊢
    have HSB:=hideC hsb
    clear hWB hsb c0 c1 c2 m1 hbne HBR
    have HS : Hid (∀ V,Below WB.heap.size WB V -> V.cell? ⟨sb,0,none⟩ = some (.bool lv) /\ V.cell? ⟨sb,1,none⟩ = some (.slice aa na ca) /\ V.cell? ⟨sb,2,none⟩ = some (.slice ap np cp)):=fun V hb=>by
     have h1:=B.below BX.out hb (B.isLt BX.out)
     exact ⟨B.cell h1 0 rfl,B.cell h1 1 rfl,B.cell h1 2 rfl⟩
    have HC2 : Hid (∀ V,Below WB.heap.size WB V -> Calls Tryz.prog 107 #[.agg #[.bool lv,.slice aa na ca,.slice ap np cp]] V fun e w'=>∃ a1 n1 c1 a2 n2 c2,e = .returned (.agg #[.bool lv,.slice a1 n1 c1,.slice a2 n2 c2]) /\ SpOwn V.heap.size w' ⟨lv,.slice a1 n1 c1,.slice a2 n2 c2⟩ s /\ (∀ b,blk (.slice a2 n2 c2) b -> ¬ blk (.slice a1 n1 c1) b) /\ Below V.heap.size V w'):=fun V hV=>(HCO.out V (HBR0.out.trans (hV.mono HBR0.out.size))).mono fun e w' ⟨va,vp,h1,h2,h3,h4⟩=>by
     rw [<- HLV.out] at h1 h2
     obtain ⟨a1,c1,e1,_⟩:=row_form h2.areas
     obtain ⟨a2,c2,e2,_⟩:=row_form h2.pages
     have e1' : va = _:=e1
     have e2' : vp = _:=e2
     subst e1' e2'
     exact ⟨_,_,_,_,_,_,h1,h2,h3,h4⟩
    have HK0:=hideC (Below.refl WB.heap.size WB).drew
    have HS0:=hideC (HS.out _ HK0.out)
    have g0:=(HS0.out).1
    have g1:=(HS0.out).2.1
    have g2:=(HS0.out).2.2
    go_region_law (first
     | (refine step_append_src (P:=Tryz.prog) rfl _ _ 26 rfl lo 53 i0 (.agg #[.bool false,.slice none 0 0,.slice none 0 0]) 3 56 Tryz.underlying26 HIN.out HZ0.out HZ1.out HZ2.out rfl (by decide) v k (L.flatMap cellLc) rfl HOW2.out (some ⟨w2.heap.size,0,none⟩) 1 1 [.bool lv,.slice a1 n1 c1,.slice a2 n2 c2] rfl rfl (fun _=>⟨_,rfl,B.news (B.new w2 _ _)⟩) (by intro u hu;simp at hu;rcases hu with rfl | rfl | rfl <;> rfl) (by unfold maxLen;omega) (by omega) HLO2.out ?_;intro v3 w4 hown hgr hat;obtain ⟨a4,c4,rfl,_⟩:=row_form hown;have HOW4:=hideC hown;have HGR4:=hideC hgr;have HAT4:=hideC hat;have hM4:=B.grown (B.alloc (HMX.out.below HK2.out).head (.cells #[.bool lv,.slice a1 n1 c1,.slice a2 n2 c2] 53)) hgr (fun e=>HMX.out.n1 e.symm);have y1 : w4.cell? ⟨mb,1,none⟩ = some v:=B.cell hM4 1 rfl;have y2 : w4.frozen? ⟨mb,1,none⟩ = false:=B.free hM4 1;clear hown hgr hat hM4)
     | (go_simp;go_at_call 107;refine (HC2.out _ HK0.out).mono ?_;rintro e w2 ⟨a1,n1,c1,a2,n2,c2,rfl,hs2,hn2,hb2⟩;have HK2:=hideC (HK0.out.trans (hb2.mono HK0.out.size));have HSO:=hideC hs2;have HNE:=hideC hn2;have HB2:=hideC hb2;have m3 : w2.cell? ⟨mb,1,none⟩ = some v:=B.cell (HMX.out.below HK2.out).head 1 rfl;have m4 : (w2.alloc (.cells #[.bool lv,.slice a1 n1 c1,.slice a2 n2 c2] 53)).cell? ⟨mb,1,none⟩ = some v:=B.cell (B.alloc (HMX.out.below HK2.out).head _) 1 rfl;have HOW2 : Hid ((w2.alloc (.cells #[.bool lv,.slice a1 n1 c1,.slice a2 n2 c2] 53)).ownsRow lo 53 3 v k (L.flatMap cellLc)):=hlk ▸ ((HMX.out.below HK2.out).row.alloc _);have HLO2 : Hid (lo <= (w2.alloc (.cells #[.bool lv,.slice a1 n1 c1,.slice a2 n2 c2] 53)).heap.size):=(by show _ <= _;have:=HK2.out.size;have:=HBR0.out.size;have:=HSB.out;simp;omega);clear hb2 hs2 hn2;go_simp))
    all_goals
     go_wp2
     go_roundw
     case rel =>
      have s0:=HBR0.out.size
      have s1:=HLO1.out
      have hp:=HMX.out.push (D':=fun b=>lo <= b /\ b < (w4.setCell ⟨mb,1,none⟩ (.slice a4 (k + 1) c4)).heap.size) s1 HK2.out HSO.out HNE.out HGR4.out (hlk ▸ HOW4.out) HAT4.out (fun b hb=>⟨hb.1,by have:=HK2.out.size;have:=HGR4.out.size;rw [World.size_alloc] at this;have:=(Kp.set (fun _=>True) w4 ⟨mb,1,none⟩ (.slice a4 (k + 1) c4) trivial).size;omega⟩) (fun b h1 h2=>⟨by omega,by have:=(Kp.set (fun _=>True) w4 ⟨mb,1,none⟩ (.slice a4 (k + 1) c4) trivial).size;omega⟩)
      refine ⟨k + 1,.slice a4 (k + 1) c4,L ++ [⟨lv,.slice a1 n1 c1,.slice a2 n2 c2⟩],by omega,by go_num,by rw [HTK.out];exact hp.1,?_⟩
      exact Kp.below HBX.out hp.2 s1 (fun b hb=>by
       rcases hb with g | g
       · rw [g];exact hlom
       · exact (HMX.out.row.lt b g).1)
     case measure=>simp [intOf];omega
  · obtain rfl : k = ns:=by omega
    clear hb
    have HTA : Hid (ss.take k = ss):=by show _ = _;rw [HNS.out,List.take_length]
    go_wp2
    have:=HM.out
    rw [HTA.out] at this
    exact HFIN.out _ _ _ this HB.out
end GF
namespace FW
open Go.RowKit
def killN (p : PM.Pr) (x : Int × Int) : PM.Pr:={ p with st:=3,fk:=x.1,fa:=x.2 }
def beginN (pc : Int) : PM.Pr:=⟨fun _=>0,pc,1,0,0,0⟩
set_option maxHeartbeats 2000000 in
theorem begin_any (pc : Int) (w : World) : Calls Tryz.prog 25 #[.int .i64 pc] w fun e w'=>e = .returned (beginN pc).val /\ Below w.heap.size w w':=by
 unfold PM.Pr.val beginN PM.Pr.row
 simp only
 go_enter Tryz.func25,Tryz.ntmps25
 go_wp2
 exact bodyPost_ret (v:=.agg #[.int .i64 0,.int .i64 0,.int .i64 0,.int .i64 0,.int .i64 0,.int .i64 0,.int .i64 0,.int .i64 0,.int .i64 pc,.int .i64 1,.int .i64 0,.int .i64 0,.int .i64 0]) (by simp [results,Tryz.results25,go_sem]) rfl ⟨rfl,(Below.refl _ _).alloc (Nat.le_refl _) _⟩
end FW
end Go.Proofs.YtkdigjpejnebkaaGreat
