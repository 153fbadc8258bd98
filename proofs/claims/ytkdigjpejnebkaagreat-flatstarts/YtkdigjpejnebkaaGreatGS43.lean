import Derived.Test.YtkdigjpejnebkaaGreatGS42
import Derived.Test.YtkdigjpejnebkaaGreatGS36
import Derived.Test.YtkdigjpejnebkaaGreatGS09
set_option linter.unusedVariables false
set_option maxRecDepth 100000
set_option linter.unusedSimpArgs false
namespace Go.Proofs.YtkdigjpejnebkaaGreat
namespace LW
open Go.RowKit Go.Deep
open W (OkW okw_string okw_slice okw_agg slice_of cell_lt i64_of cells9 cells3)
section
variable {H : Type} {enc : TypeId × Value -> H} {w : World} {base : Nat} {spare : Nat -> Bool} {held : Bool}
theorem open_H {fuel : Nat} {a0 : Option Addr} {len cap : Nat} {x : DataW H × List MemPlace} (h : DataW.trod enc Tryz.prog w base spare held fuel 23 [.slice a0 len cap] = some x) (hw : OkW 23 x.1) :
  ∃ l : List LM.Sh,l.length = len /\ LM.HasH w a0 l /\ LM.FitHs l /\ len <= cap:=by
 rcases open_slice Tryz.underlying23 h with ⟨hcs,_⟩ | ⟨a,len',cap',m,n,D,Pl,hcs,hb,hl,hm,hmm,rfl,hx⟩
 · simp at hcs
   obtain ⟨rfl,rfl,rfl⟩:=hcs
   exact ⟨[],rfl,fun h=>absurd h (by simp),⟨by unfold M.Short;simp,fun k hk=>absurd hk (by simp)⟩,Nat.le_refl _⟩
 · simp at hcs
   obtain ⟨rfl,rfl,rfl⟩:=hcs
   have hlm : len <= m:=by rw [hmm];split <;> omega
   obtain ⟨hb1,hb2⟩:=okw_slice Tryz.underlying23 hw
   rw [bytesSh] at hb1
   unfold reachBytes at hb1
   have hlen : len <= 140737488351232:=by simp at hb1;omega
   have each : ∀ i,i < len -> ∃ y : LM.Sh,w.cell? (a.add (i * 3 + 0)) = some (.int .i64 y.page) /\ w.cell? (a.add (i * 3 + 1)) = some (.string y.data) /\ w.cell? (a.add (i * 3 + 2)) = some (.slice y.ao y.fixes.length y.cap) /\ LM.HasF w y.ao y.fixes /\ LM.FitH y:=by
    intro i hi
    obtain ⟨cs',h1,h2⟩:=hx i (by omega)
    have hd : D i ∈ (List.range len).map D:=List.mem_map.2 ⟨i,List.mem_range.2 hi,rfl⟩
    rw [cellsSh] at h1
    obtain ⟨_,hcl,hcell⟩:=World.cells?_some h1
    match cs',hcl with
    | [v0,v1,v2],_ =>
     obtain ⟨s,e0,e1,e2,f1,f2⟩:=vals_sheet h2 (hb2 _ hd)
     have q0:=hcell 0 (by omega)
     have q1:=hcell 1 (by omega)
     have q2:=hcell 2 (by omega)
     simp only [add_add] at q0 q1 q2
     subst e0;subst e1;subst e2
     exact ⟨s,q0,q1,q2,f1,f2⟩
   obtain ⟨g,hg⟩:=choose_lt each
   have hat : ∀ i,i < len -> LM.shAt ((List.range len).map g) i = g i:=by
    intro i hi
    simp [LM.shAt,hi]
   refine ⟨(List.range len).map g,by simp,fun h0=>?_,⟨by unfold M.Short;simp;exact hlen,fun k hk=>?_⟩,hl⟩
   · have h0' : 0 < len:=by simpa using h0
     obtain ⟨b,off,spot⟩:=a
     have hc:=(hg 0 h0').1
     have hspot : spot = none:=by simpa [Addr.add] using World.cell?_spot hc
     subst hspot
     rw [Addr.add_lit] at hc
     refine ⟨b,off,rfl,cell_lt hc,fun i hi=>?_⟩
     have hi' : i < len:=by simpa using hi
     rw [hat i hi']
     obtain ⟨e0,e1,e2,e3,_⟩:=hg i hi'
     simp only [Addr.add_lit] at e0 e1 e2
     exact ⟨e0,by rw [Nat.add_assoc];exact e1,by rw [Nat.add_assoc];exact e2,e3⟩
   · have hi' : k < len:=by simpa using hk
     rw [hat k hi']
     obtain ⟨_,_,_,_,f⟩:=hg k hi'
     exact f
theorem open_linked {fuel : Nat} {cs : List Value} {x : DataW H × List MemPlace} (h : DataW.trod enc Tryz.prog w base spare held fuel 25 cs = some x) (hw : OkW 25 x.1) :
  ∃ (l : List AM.Ar) (hs : List LM.Sh) (en : Int) (va : Value) (ao : Option Addr) (cap : Nat),cs = [va,.slice ao hs.length cap,.int .i64 en] /\ AW.Has w va l /\ AW.AllFit l /\ LM.HasH w ao hs /\ LM.FitHs hs /\ hs.length <= cap /\ M.I64 en:=by
 obtain ⟨xs,k,hk,hxy,hcl,hxl,hf⟩:=DataW.trod_struct Tryz.underlying25 h
 rw [hxy] at hw
 rw [cellsLk] at hcl
 match cs,hcl with
 | [v0,v1,v2],_ =>
  have g0 : DataW.trod enc Tryz.prog w base spare held k 22 (([v0,v1,v2].drop 0).take (Tryz.prog.cellsOf 22)) = xs[0]?:=hf 0 _ rfl
  have g1 : DataW.trod enc Tryz.prog w base spare held k 23 (([v0,v1,v2].drop 1).take (Tryz.prog.cellsOf 23)) = xs[1]?:=hf 1 _ rfl
  have g2 : DataW.trod enc Tryz.prog w base spare held k 3 (([v0,v1,v2].drop 2).take (Tryz.prog.cellsOf 3)) = xs[2]?:=hf 2 _ rfl
  simp only [cells3,cellsArs,cellsShs] at g0 g1 g2
  match xs,hxl with
  | [y0,y1,y2],_ =>
   obtain ⟨en,c2,_,w2⟩:=DataW.trod_int Tryz.underlying3 (show DataW.trod enc Tryz.prog w base spare held k 3 [v2] = some y2 from g2)
   have u0:=okw_agg Tryz.underlying25 hw (j:=0) (u:=22) (d:=y0.1) rfl rfl
   have u1:=okw_agg Tryz.underlying25 hw (j:=1) (u:=23) (d:=y1.1) rfl rfl
   have t0 : DataW.trod enc Tryz.prog w base spare held k 22 [v0] = some y0:=g0
   have t1 : DataW.trod enc Tryz.prog w base spare held k 23 [v1] = some y1:=g1
   obtain ⟨av,lv,cv,d0⟩:=slice_of Tryz.underlying22 t0
   obtain ⟨ao,lo,cap,d1⟩:=slice_of Tryz.underlying23 t1
   subst d0;subst d1
   obtain ⟨l,n1,n2,n3,n4⟩:=AW.open_areas t0
   obtain ⟨hs,s1,s2,s3,s4⟩:=open_H t1 u1
   simp only [List.cons.injEq,and_true] at c2
   subst c2;subst s1
   refine ⟨l,hs,en,_,ao,cap,rfl,n2,⟨n3,?_⟩,s2,s3,s4,i64_of _ w2⟩
   rw [n1]
   rcases n4 with e | ⟨el,sp,e1,e2⟩
   · omega
   · rw [e1] at u0
     have hb:=(okw_slice Tryz.underlying22 u0).1
     rw [bytesAr,e2] at hb
     unfold reachBytes at hb
     omega
end
end LW
namespace GR
open Go.RowKit GK GH
open FW (hideC add_below)
end GR
namespace GR
open Go.RowKit GK GH
end GR
namespace GR
open Go.RowKit
theorem counts_len {f : FM.Fl} (hc : FM.rightCounts f = true) : f.spaces.length <= 4 /\ f.procs.length = f.spaces.length:=by
 unfold FM.rightCounts at hc
 simp only [Bool.and_eq_true,decide_eq_true_eq] at hc
 exact ⟨hc.1.2,hc.2.1⟩
theorem spAt_mem {l : List FM.Sp} {k : Nat} (h : k < l.length) : FM.spAt l k ∈ l:=by
 unfold FM.spAt
 rw [List.getD_eq_getElem?_getD,List.getElem?_eq_getElem h]
 exact List.getElem_mem h
theorem mem_spAt {l : List FM.Sp} {p : FM.Sp} (h : p ∈ l) : ∃ k,k < l.length /\ FM.spAt l k = p:=by
 obtain ⟨k,hk⟩:=List.getElem?_of_mem h
 have hlt : k < l.length:=by
  rcases Nat.lt_or_ge k l.length with g | g
  · exact g
  · rw [List.getElem?_eq_none g] at hk
    cases hk
 refine ⟨k,hlt,?_⟩
 unfold FM.spAt
 rw [List.getD_eq_getElem?_getD,hk]
 rfl
theorem chk_many {f : FM.Fl} (hc : FM.rightCounts f = false) : FM.checkF f = 2:=by
 unfold FM.checkF
 rw [if_pos hc]
theorem chk_bad {f : FM.Fl} (hc : FM.rightCounts f = true) {k : Nat} (hk : k < f.spaces.length) (h : FM.procFine (FM.prAt f.procs k) (FM.spAt f.spaces k).live = false ∨ ¬ FM.spaceFine (FM.spAt f.spaces k)) : FM.checkF f = 1:=by
 unfold FM.checkF
 rw [if_neg (by rw [hc];simp),if_neg]
 intro g
 rw [Bool.and_eq_true] at g
 obtain ⟨g1,g2⟩:=g
 unfold FM.rightSpaces at g1
 rw [Bool.and_eq_true] at g1
 have hs:=List.all_eq_true.1 g1.1 _ (spAt_mem hk)
 rcases h with h | h
 · rw [FM.proc_same] at h
   unfold FM.rightProcs at g2
   rw [Bool.and_eq_true] at g2
   have hh : (FM.rightProc (FM.prAt f.procs k) && FM.liveB f k) = true:=List.all_eq_true.1 g2.1 k (List.mem_range.2 (by rw [(counts_len hc).2];exact hk))
   unfold FM.liveB at hh
   rw [hh] at h
   cases h
 · exact h ((FM.fine_space _).2 hs)
theorem chk_end {f : FM.Fl} (hc : FM.rightCounts f = true) (h : ∀ k,k < f.spaces.length -> FM.procFine (FM.prAt f.procs k) (FM.spAt f.spaces k).live = true /\ FM.spaceFine (FM.spAt f.spaces k)) : FM.checkF f = if decide (FM.lensTo f.spaces f.spaces.length <= f.slots) && FM.wordsTo f.out f.procs.length f.out.length then 0 else 1:=by
 have hl:=counts_len hc
 have h1 : f.spaces.all FM.rightSpace = true:=by
  rw [List.all_eq_true]
  intro s hs
  obtain ⟨k,hk,rfl⟩:=mem_spAt hs
  exact (FM.fine_space _).1 (h k hk).2
 have h2 : (List.range f.procs.length).all (fun i=>FM.rightProc (FM.prAt f.procs i) && FM.liveB f i) = true:=by
  rw [List.all_eq_true]
  intro k hk
  have:=(h k (by have:=List.mem_range.1 hk;omega)).1
  rw [FM.proc_same] at this
  exact this
 unfold FM.checkF
 rw [if_neg (by rw [hc];simp)]
 unfold FM.rightSpaces FM.rightProcs
 rw [h1,h2,Bool.true_and,Bool.true_and,show f.out.all (fun o=>decide (0 <= o.proc /\ o.proc < (f.procs.length : Int))) = FM.wordsTo f.out f.procs.length f.out.length from FM.words_all f.out f.procs.length]
 unfold FM.room
 rw [FM.lens_room _ h1 _ (Nat.le_refl _)]
def pagesTo (s : FM.Sp) (k : Nat) : Prop:=∀ j,j < k -> (AM.findN s.areas (FM.pgAt s.pages j).page).2 = true /\ (0 < j -> (FM.pgAt s.pages (j - 1)).page < (FM.pgAt s.pages j).page) /\ (FM.pgAt s.pages j).data.size = 16
theorem pagesTo_succ {s : FM.Sp} {k : Nat} (h : pagesTo s k) (h1 : (AM.findN s.areas (FM.pgAt s.pages k).page).2 = true) (h2 : 0 < k -> (FM.pgAt s.pages (k - 1)).page < (FM.pgAt s.pages k).page) (h3 : (FM.pgAt s.pages k).data.size = 16) : pagesTo s (k + 1):=fun j hj=>by
 by_cases e : j = k
 · subst e
   exact ⟨h1,h2,h3⟩
 · exact h j (by omega)
theorem fine_of {s : FM.Sp} (h1 : s.live = false -> s.areas.length = 0 /\ s.pages.length = 0) (h2 : AM.checkN s.areas = 0) (h3 : (s.pages.length : Int) = AM.totalN s.areas) (h4 : pagesTo s s.pages.length) : FM.spaceFine s:=⟨h1,h2,h3,h4⟩
theorem lens_bd {l : List FM.Sp} (h : FW.FitSs l) : ∀ k,k <= l.length -> 0 <= FM.lensTo l k /\ FM.lensTo l k <= 140737488351232 * (k : Int):=fun k=>by
 induction k with
 | zero=>intro _;exact ⟨Int.le_refl _,Int.le_refl _⟩
 | succ k ih =>
  intro hk
  have h1:=ih (by omega)
  have h2 : (FM.spAt l k).pages.length <= 140737488351232:=(h.2 k (by omega)).pages
  show 0 <= FM.lensTo l k + ((FM.spAt l k).pages.length : Int) /\ FM.lensTo l k + ((FM.spAt l k).pages.length : Int) <= _
  omega
end GR
namespace FW
open Go.RowKit
set_option maxHeartbeats 2000000 in
theorem wordsFine_any (o : List FM.Wd) (n : Nat) (ao : Option Addr) (co : Nat) (w : World) (h : HasW w ao o) (hno : o.length <= 140737488351232) (hn : n <= 140737488351232) :
  Calls Tryz.prog 43 #[.slice ao o.length co,.int .i64 (n : Int)] w fun e w'=>e = .returned (.bool (FM.wordsTo o n o.length)) /\ Below w.heap.size w w':=by
 have HO:=hideC h
 have HWF : Hid (∀ k,k <= o.length -> FM.wordsTo o n k = false -> FM.wordsTo o n o.length = false):=fun k hk e=>FM.words_false e _ hk
 have HWI:=hideC (fun x V=>AW.within_any x 0 ((n : Int) - 1) V)
 obtain ⟨A,hA⟩ : ∃ A,A = FM.wordsTo o n o.length:=⟨_,rfl⟩
 rw [<- hA] at HWF ⊢
 have HA:=hideC hA
 clear h hA
 go_enter Tryz.func43,Tryz.ntmps43
 go_wp2
 go_loopw [5] (fun iv wr=>∃ j : Nat,j <= o.length /\ iv = .int .i64 (j : Int) /\ FM.wordsTo o n j = true /\ Below w.heap.size w wr) (fun iv _=>o.length - (intOf iv).toNat)
 case atStart=>exact ⟨0,by omega,rfl,rfl,Below.refl _ _⟩
 case round =>
  obtain ⟨j,hj,rfl,hall,hb⟩:=hrel
  have HB:=hideC hb
  have HAJ:=hideC hall
  clear hall
  by_cases hlt : j < o.length
  · obtain ⟨b,off,hao,hbl,hlie⟩:=(HO.out.below hb) (by omega)
    subst hao
    obtain ⟨c0,c1⟩:=hlie j hlt
    have HWK : Hid (FM.wordsTo o n (j + 1) = decide (0 <= (FM.wdAt o j).proc /\ (FM.wdAt o j).proc <= (n : Int) - 1)):=by
     show (FM.wordsTo o n j && FM.wordB (FM.wdAt o j) n) = _
     rw [HAJ.out,Bool.true_and]
     unfold FM.wordB
     rw [decide_eq_decide]
     omega
    have HWF2:=hideC (HWF.out (j + 1) (by omega))
    have HWI2:=hideC (HWI.out (FM.wdAt o j).proc)
    obtain ⟨wp,hq⟩ : ∃ q,q = (FM.wdAt o j).proc:=⟨_,rfl⟩
    rw [<- hq] at HWK c0 HWI2
    obtain ⟨T,hT⟩ : ∃ T,T = decide (0 <= wp /\ wp <= (n : Int) - 1):=⟨_,rfl⟩
    rw [<- hT] at HWK HWI2
    clear hq hT hlie hb HAJ c1
    cases T with
    | false =>
     have HN2:=hideC (HWF2.out HWK.out)
     go_wp2_with (go_at_call 27;refine (HWI2.out _).mono ?_;rintro e w1 ⟨rfl,rfl⟩)
     go_ret
     exact ⟨ret_bool HN2.out.symm,HB.out⟩
    | true =>
     go_wp2_with (go_at_call 27;refine (HWI2.out _).mono ?_;rintro e w1 ⟨rfl,rfl⟩)
     go_roundw
     case rel=>exact ⟨j + 1,by omega,by go_num,HWK.out,HB.out⟩
     case measure=>simp [intOf];omega
  · obtain rfl : j = o.length:=by omega
    clear hb
    have HA2 : Hid (A = true):=HA.out.trans HAJ.out
    go_wp2
    go_ret
    exact ⟨ret_bool HA2.out.symm,HB.out⟩
end FW
end Go.Proofs.YtkdigjpejnebkaaGreat
