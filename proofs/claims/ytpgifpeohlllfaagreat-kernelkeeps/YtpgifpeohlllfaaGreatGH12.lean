import Derived.Test.YtpgifpeohlllfaaGreatGH11
import Derived.Test.YtpgifpeohlllfaaGreatGH03
import Derived.Test.YtpgifpeohlllfaaGreatChecked
import Derived.Deep.Slices
import Derived.ProofKit
import Derived.Test.YtpgifpeohlllfaaGreatGH07
import Derived.Deep.RegionLaw
import Derived.Test.YtpgifpeohlllfaaGreatGH04
import Derived.Test.YtpgifpeohlllfaaGreatGH00
set_option maxHeartbeats 20000000
set_option linter.unusedVariables false
set_option maxRecDepth 100000
set_option linter.unusedSimpArgs false
namespace Go.Proofs.YtpgifpeohlllfaaGreat
namespace AW
open Go.RowKit
theorem turn_err (l : List AM.Ar) (page pages q : Int) (how : AM.St -> AM.St × Int) (h : (AM.turnN l page pages q how).2 ≠ 0) : (AM.turnN l page pages q how).1 = []:=by
 unfold AM.turnN at h ⊢
 split
 · rename_i hc
   rw [if_pos hc] at h
   split
   · rename_i hp
     rw [if_pos hp] at h
     split
     · rename_i he
       rw [if_pos he] at h
       exact absurd rfl h
     · rfl
   · rfl
 · rfl
theorem turn_ok (l : List AM.Ar) (page pages q : Int) (how : AM.St -> AM.St × Int) (h : (AM.turnN l page pages q how).2 = 0) :
  AM.checkN l = 0 /\ AM.pagesB page pages = true /\ AM.protB q = true /\ AM.errFrom (AM.spreadN l) how page.toNat pages.toNat = 0 /\ (AM.turnN l page pages q how).1 = AM.gatherN (AM.turned (AM.spreadN l) how page (page + pages)):=by
 unfold AM.turnN at h ⊢
 split
 · rename_i hc
   rw [if_pos hc] at h
   split
   · rename_i hp
     rw [if_pos hp] at h
     rw [Bool.and_eq_true] at hp
     split
     · rename_i he
       exact ⟨hc,hp.1,hp.2,he,rfl⟩
     · rename_i he
       rw [if_neg he] at h
       exact absurd h he
   · rename_i hp
     rw [if_neg hp] at h
     simp at h
 · rename_i hc
   rw [if_neg hc] at h
   exact absurd h hc
theorem fine_map (l : List AM.Ar) (page t q : Int) (hc : AM.checkN l = 0) (hp : 1 <= page) (hq : 0 <= q /\ q <= 3) : AM.Fine (AM.turned (AM.spreadN l) (howMap q) page t) :=
 AM.fine_turned _ (AM.fine_spread l hc) _ _ _ hp (fun s _ h=>by
  unfold howMap at h ⊢
  cases hm : s.m
  · simp [hm] at h
  · simp [hm] at h) (fun s h=>by
  unfold howMap
  cases hm : s.m
  · simpa [hm] using hq
  · simpa [hm] using h)
theorem prot_iff (q : Int) : AM.protB q = true ↔ 0 <= q /\ q <= 3:=⟨fun h=>of_decide_eq_true h,fun h=>decide_eq_true h⟩
theorem map_keeps (l : List AM.Ar) (page pages q : Int) (h : (mapN l page pages q).2 = 0) :
  AM.checkN (mapN l page pages q).1 = 0 /\ (∀ p : Nat,1 <= p -> p <= 255 ->
   (page <= (p : Int) /\ (p : Int) < page + pages -> (AM.findN l p).2 = false /\ (AM.findN (mapN l page pages q).1 p).2 = true /\ (AM.findN (mapN l page pages q).1 p).1.prot = q /\ (AM.findN (mapN l page pages q).1 p).1.zero = true) /\
   (¬ (page <= (p : Int) /\ (p : Int) < page + pages) -> (AM.findN (mapN l page pages q).1 p).2 = (AM.findN l p).2 /\ (AM.findN (mapN l page pages q).1 p).1.prot = (AM.findN l p).1.prot /\ (AM.findN (mapN l page pages q).1 p).1.zero = (AM.findN l p).1.zero)):=by
 obtain ⟨hc,hpp,hq,he,hr⟩:=turn_ok _ _ _ _ _ h
 have hpb:=(AM.pagesB_iff page pages).1 hpp
 have hF:=fine_map l page (page + pages) q hc hpb.1 ((prot_iff q).1 hq)
 have hr' : (mapN l page pages q).1 = _:=hr
 rw [hr']
 refine ⟨AM.check_gather _ hF,fun p h1 h2=>?_⟩
 have fg:=AM.find_gather _ hF p (by omega)
 have fs:=AM.find_spread l hc p
 refine ⟨fun hin=>?_,fun hout=>?_⟩
 · have he':=AM.err_zero _ _ _ _ he p (by omega) (by omega)
   have hm : (AM.spreadN l p).m = false:=by
    unfold howMap at he'
    cases hm : (AM.spreadN l p).m
    · rfl
    · simp [hm] at he'
   simp only [AM.turned] at fg
   rw [if_pos hin] at fg
   unfold howMap at fg
   simp only [hm] at fg
   exact ⟨fs.1.trans hm,fg.1,fg.2.1,fg.2.2⟩
 · simp only [AM.turned] at fg
   rw [if_neg hout] at fg
   exact ⟨fg.1.trans fs.1.symm,fg.2.1.trans fs.2.1.symm,fg.2.2.trans fs.2.2.symm⟩
theorem fit_map (l : List AM.Ar) (page pages q : Int) : AllFit (mapN l page pages q).1:=by
 by_cases h : (mapN l page pages q).2 = 0
 · exact AM.fits_of_check _ (map_keeps l page pages q h).1
 · rw [show (mapN l page pages q).1 = [] from turn_err _ _ _ _ _ h];exact fit_nil
end AW
namespace AW
open Go.RowKit Go.Deep
theorem cells24 : Tryz.prog.cellsOf 47 = 4:=by kernel_rfl
theorem cells3 : Tryz.prog.cellsOf 3 = 1:=by kernel_rfl
theorem cells4 : Tryz.prog.cellsOf 4 = 1:=by kernel_rfl
theorem i64_of (n : Int) (h : (Lit.int .i64 n).wf = true) : I64 n:=by
 simp only [Lit.wf,IntKind.min,IntKind.max,IntKind.signed,IntKind.bits,Bool.and_eq_true,decide_eq_true_eq,if_true] at h
 unfold I64
 omega
section
variable {H : Type} {enc : TypeId × Value -> H} {w : World} {base : Nat} {spare : Nat -> Bool} {held : Bool}
theorem one_area {n : Nat} {a : Addr} {cs : List Value} {x : DataW H × List MemPlace} (hc : w.cells? base a 4 = some cs) (h : DataW.trod enc Tryz.prog w base spare held n 47 cs = some x) :
  ∃ q : Int × Int × Int × Bool,w.cell? (a.add 0) = some (.int .i64 q.1) /\ w.cell? (a.add 1) = some (.int .i64 q.2.1) /\ w.cell? (a.add 2) = some (.int .i64 q.2.2.1) /\ w.cell? (a.add 3) = some (.bool q.2.2.2) /\ I64 q.1 /\ I64 q.2.1 /\ I64 q.2.2.1:=by
 obtain ⟨_,hlen,hcell⟩:=World.cells?_some hc
 obtain ⟨xs,k,hk,hxy,_,hxl,hf⟩:=DataW.trod_struct Tryz.underlying47 h
 match cs,hlen with
 | [v0,v1,v2,v3],_ =>
  have g0 : DataW.trod enc Tryz.prog w base spare held k 3 (([v0,v1,v2,v3].drop 0).take (Tryz.prog.cellsOf 3)) = xs[0]?:=hf 0 _ rfl
  have g1 : DataW.trod enc Tryz.prog w base spare held k 3 (([v0,v1,v2,v3].drop 1).take (Tryz.prog.cellsOf 3)) = xs[1]?:=hf 1 _ rfl
  have g2 : DataW.trod enc Tryz.prog w base spare held k 3 (([v0,v1,v2,v3].drop 2).take (Tryz.prog.cellsOf 3)) = xs[2]?:=hf 2 _ rfl
  have g3 : DataW.trod enc Tryz.prog w base spare held k 4 (([v0,v1,v2,v3].drop 3).take (Tryz.prog.cellsOf 4)) = xs[3]?:=hf 3 _ rfl
  simp only [cells3,cells4] at g0 g1 g2 g3
  have e0:=hcell 0 (by omega)
  have e1:=hcell 1 (by omega)
  have e2:=hcell 2 (by omega)
  have e3:=hcell 3 (by omega)
  match xs,hxl with
  | [y0,y1,y2,y3],_ =>
   obtain ⟨m0,c0,_,w0⟩:=DataW.trod_int Tryz.underlying3 (show DataW.trod enc Tryz.prog w base spare held k 3 [v0] = some y0 from g0)
   obtain ⟨m1,c1,_,w1⟩:=DataW.trod_int Tryz.underlying3 (show DataW.trod enc Tryz.prog w base spare held k 3 [v1] = some y1 from g1)
   obtain ⟨m2,c2,_,w2⟩:=DataW.trod_int Tryz.underlying3 (show DataW.trod enc Tryz.prog w base spare held k 3 [v2] = some y2 from g2)
   obtain ⟨b3,c3,_⟩:=DataW.trod_bool Tryz.underlying4 (show DataW.trod enc Tryz.prog w base spare held k 4 [v3] = some y3 from g3)
   simp only [List.cons.injEq,and_true] at c0 c1 c2 c3
   subst c0;subst c1;subst c2;subst c3
   exact ⟨(m0,m1,m2,b3),e0,e1,e2,e3,i64_of _ w0,i64_of _ w1,i64_of _ w2⟩
theorem open_areas {fuel : Nat} {a0 : Option Addr} {len cap : Nat} {x : DataW H × List MemPlace} (h : DataW.trod enc Tryz.prog w base spare held fuel 28 [.slice a0 len cap] = some x) :
  ∃ l : List AM.Ar,l.length = len /\ Has w (.slice a0 len cap) l /\ (∀ i,i < l.length -> AM.Fits (AM.at_ l i)) /\ (len = 0 ∨ ∃ el sp,x.1 = .slice el sp /\ el.length = len):=by
 rcases open_slice Tryz.underlying28 h with ⟨hcs,_⟩ | ⟨a,len',cap',m,n,D,Pl,hcs,hb,hl,hm,hmm,rfl,hx⟩
 · simp at hcs
   obtain ⟨rfl,rfl,rfl⟩:=hcs
   exact ⟨[],rfl,⟨none,0,rfl,.inl rfl⟩,fun i hi=>by simp at hi,.inl rfl⟩
 · simp at hcs
   obtain ⟨rfl,rfl,rfl⟩:=hcs
   have hlm : len <= m:=by rw [hmm];split <;> omega
   have each : ∀ i,i < len -> ∃ q : Int × Int × Int × Bool,w.cell? (a.add (i * 4)) = some (.int .i64 q.1) /\ w.cell? (a.add (i * 4 + 1)) = some (.int .i64 q.2.1) /\ w.cell? (a.add (i * 4 + 2)) = some (.int .i64 q.2.2.1) /\ w.cell? (a.add (i * 4 + 3)) = some (.bool q.2.2.2) /\ I64 q.1 /\ I64 q.2.1 /\ I64 q.2.2.1:=by
    intro i hi
    obtain ⟨cs',h1,h2⟩:=hx i (by omega)
    rw [cells24] at h1
    obtain ⟨q,e0,e1,e2,e3,f⟩:=one_area h1 h2
    rw [add_add] at e0 e1 e2 e3
    exact ⟨q,e0,e1,e2,e3,f⟩
   obtain ⟨g,hg⟩:=choose_lt each
   have hat : ∀ i,i < len -> AM.at_ ((List.range len).map fun i=>(⟨(g i).1,(g i).2.1,(g i).2.2.1,(g i).2.2.2⟩ : AM.Ar)) i = ⟨(g i).1,(g i).2.1,(g i).2.2.1,(g i).2.2.2⟩:=by
    intro i hi
    simp [AM.at_,hi]
   refine ⟨(List.range len).map fun i=>⟨(g i).1,(g i).2.1,(g i).2.2.1,(g i).2.2.2⟩,by simp,?_,fun i hi=>?_,.inr ⟨_,_,rfl,by simp⟩⟩
   · by_cases h0 : len = 0
     · subst h0
       exact ⟨some a,cap,by simp,.inl (by simp)⟩
     · obtain ⟨b,off,spot⟩:=a
       have hc:=(hg 0 (by omega)).1
       have hspot : spot = none:=by simpa [Addr.add] using World.cell?_spot hc
       subst hspot
       refine ⟨some ⟨b,off,none⟩,cap,by simp,.inr ⟨b,off,rfl,fun i hi=>?_⟩⟩
       have hi' : i < len:=by simpa using hi
       rw [hat i hi']
       obtain ⟨e0,e1,e2,e3,_⟩:=hg i hi'
       rw [Addr.add_lit] at e0 e1 e2 e3
       exact ⟨e0,by rw [Nat.add_assoc];exact e1,by rw [Nat.add_assoc];exact e2,by rw [Nat.add_assoc];exact e3⟩
   · have hi' : i < len:=by simpa using hi
     rw [hat i hi']
     obtain ⟨_,_,_,_,f1,f2,f3⟩:=hg i hi'
     exact ⟨f1,f2,f3⟩
end
end AW
namespace AM
open Go.RowKit
end AM
namespace AW
open Go.RowKit
end AW
namespace LW
open Go.RowKit
open W (hideC)
theorem calls_kin {P : Program} {f : FuncId} {args : Array Value} {v : Value} {w : World} (x : Q.Kin w.heap.size w) (h : ∀ W,Below w.heap.size w W -> Calls P f args W fun e w'=>e = .returned v /\ Below W.heap.size W w') :
  Calls P f args x.world fun e w''=>e = .returned v /\ ∃ y : Q.Kin w.heap.size w,w'' = y.world :=
 (h x.world x.keeps).mono fun e w'' ⟨he,hb⟩=>⟨he,⟨w'',x.keeps.trans (hb.mono x.keeps.size)⟩,rfl⟩
end LW
end Go.Proofs.YtpgifpeohlllfaaGreat
