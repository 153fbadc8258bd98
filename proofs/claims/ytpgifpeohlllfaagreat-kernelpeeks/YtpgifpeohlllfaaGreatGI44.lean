import Derived.Test.YtpgifpeohlllfaaGreatGI43
import Derived.Test.YtpgifpeohlllfaaGreatGI07
import Derived.OpenShut
set_option maxHeartbeats 20000000
set_option linter.unusedVariables false
set_option maxRecDepth 100000
set_option linter.unusedSimpArgs false
namespace Go.Proofs.YtpgifpeohlllfaaGreat
namespace KA
open Go.RowKit Go.Deep
open W (OkW okw_string okw_slice okw_agg slice_of cell_lt i64_of cells9 cells3 cells4)
open KW (HasRow KAt HasK cellsK FitK FitSp)
theorem cellsFr : Tryz.prog.cellsOf 40 = 4:=by kernel_rfl
theorem cellsFrs : Tryz.prog.cellsOf 23 = 1:=by kernel_rfl
theorem bytesFr : 0 < Tryz.prog.bytesOf 40:=of_decide_eq_true (by kernel_rfl)
instance : Inhabited KM.Fr:=⟨KM.fr0⟩
theorem cellsSl : Tryz.prog.cellsOf 86 = 2:=by kernel_rfl
theorem cellsSls : Tryz.prog.cellsOf 24 = 1:=by kernel_rfl
theorem bytesSl : 0 < Tryz.prog.bytesOf 86:=of_decide_eq_true (by kernel_rfl)
instance : Inhabited KM.Sl:=⟨KM.sl0⟩
theorem cellsEn : Tryz.prog.cellsOf 45 = 3:=by kernel_rfl
theorem cellsEns : Tryz.prog.cellsOf 41 = 1:=by kernel_rfl
theorem bytesEn : 0 < Tryz.prog.bytesOf 45:=of_decide_eq_true (by kernel_rfl)
instance : Inhabited KM.En:=⟨KM.en0⟩
theorem cellsSp : Tryz.prog.cellsOf 43 = 3:=by kernel_rfl
theorem cellsSps : Tryz.prog.cellsOf 25 = 1:=by kernel_rfl
theorem bytesSp : 0 < Tryz.prog.bytesOf 43:=of_decide_eq_true (by kernel_rfl)
instance : Inhabited KM.Sp:=⟨KM.sp0⟩
theorem cellsKn : Tryz.prog.cellsOf 27 = 5:=by kernel_rfl
section
variable {H : Type} {enc : TypeId × Value -> H} {w : World} {base : Nat} {spare : Nat -> Bool} {held : Bool}
theorem open_rows {α : Type} [Inhabited α] {ts te : TypeId} {sz : Nat} (p : List Value -> α -> Prop) (hu : Tryz.prog.underlying ts = some (.slice te)) (hc : Tryz.prog.cellsOf te = sz) (hb8 : 0 < Tryz.prog.bytesOf te) (hs0 : 0 < sz)
  (elem : ∀ (n : Nat) (cs : List Value) (x : DataW H × List MemPlace),cs.length = sz -> DataW.trod enc Tryz.prog w base spare held n te cs = some x -> OkW te x.1 -> ∃ y,p cs y)
  {fuel : Nat} {a0 : Option Addr} {len cap : Nat} {x : DataW H × List MemPlace} (h : DataW.trod enc Tryz.prog w base spare held fuel ts [.slice a0 len cap] = some x) (hw : OkW ts x.1) :
  len <= cap /\ len <= 140737488351232 /\ ∃ l : List α,l.length = len /\ (0 < len -> ∃ b off,a0 = some ⟨b,off,none⟩ /\ b < w.heap.size /\ ∀ i,i < len -> ∃ cs : List Value,cs.length = sz /\ p cs (l.getD i default) /\ ∀ j,j < sz -> w.cell? ⟨b,off + i * sz + j,none⟩ = cs[j]?) /\ ∀ i,i < len -> ∃ cs,p cs (l.getD i default):=by
 rcases open_slice hu h with ⟨hcs,_⟩ | ⟨a,len',cap',m,n,D,Pl,hcs,hb,hl,hm,hmm,rfl,hx⟩
 · simp at hcs
   obtain ⟨rfl,rfl,rfl⟩:=hcs
   exact ⟨Nat.le_refl _,by omega,[],rfl,fun h=>absurd h (by omega),fun i hi=>absurd hi (by omega)⟩
 · simp at hcs
   obtain ⟨rfl,rfl,rfl⟩:=hcs
   have hlm : len <= m:=by rw [hmm];split <;> omega
   obtain ⟨hb1,hb2⟩:=okw_slice hu hw
   unfold reachBytes at hb1
   have hlen : len <= 140737488351232:=by
    simp only [List.length_map,List.length_range] at hb1
    have:=Nat.le_mul_of_pos_right (len + (m - len)) hb8
    omega
   have each : ∀ i,i < len -> ∃ y : α,∃ cs : List Value,cs.length = sz /\ p cs y /\ ∀ j,j < sz -> w.cell? (a.add (i * sz + j)) = cs[j]?:=by
    intro i hi
    obtain ⟨cs',h1,h2⟩:=hx i (by omega)
    have hd : D i ∈ (List.range len).map D:=List.mem_map.2 ⟨i,List.mem_range.2 hi,rfl⟩
    rw [hc] at h1
    obtain ⟨_,hcl,hcell⟩:=World.cells?_some h1
    obtain ⟨y,hy⟩:=elem n cs' _ hcl h2 (hb2 _ hd)
    refine ⟨y,cs',hcl,hy,fun j hj=>?_⟩
    have:=hcell j (by omega)
    simp only [add_add] at this
    exact this
   obtain ⟨g,hg⟩:=choose_lt each
   have hat : ∀ i,i < len -> ((List.range len).map g).getD i default = g i:=by
    intro i hi
    simp [hi]
   refine ⟨hl,hlen,(List.range len).map g,by simp,fun h0=>?_,fun i hi=>?_⟩
   · obtain ⟨b,off,spot⟩:=a
     obtain ⟨cs,e1,e2,e3⟩:=hg 0 h0
     have hc0:=e3 0 hs0
     rw [List.getElem?_eq_getElem (by omega)] at hc0
     have hspot : spot = none:=by simpa [Addr.add] using World.cell?_spot hc0
     subst hspot
     rw [Addr.add_lit] at hc0
     refine ⟨b,off,rfl,cell_lt hc0,fun i hi=>?_⟩
     rw [hat i hi]
     obtain ⟨cs,e1,e2,e3⟩:=hg i hi
     refine ⟨cs,e1,e2,fun j hj=>?_⟩
     have:=e3 j hj
     rw [Addr.add_lit,<- Nat.add_assoc] at this
     exact this
   · rw [hat i hi]
     obtain ⟨cs,_,e2,_⟩:=hg i hi
     exact ⟨cs,e2⟩
theorem one_int {fuel : Nat} {v : Value} {y : DataW H × List MemPlace} (h : DataW.trod enc Tryz.prog w base spare held fuel 3 [v] = some y) : ∃ n : Int,v = .int .i64 n /\ M.I64 n:=by
 obtain ⟨n,c,_,wf⟩:=DataW.trod_int Tryz.underlying3 h
 simp only [List.cons.injEq,and_true] at c
 exact ⟨n,c,i64_of _ wf⟩
def isFr (cs : List Value) (y : KM.Fr) : Prop:=cs = [.string y.data,.int .i64 y.refs,.bool y.dirty,.bool y.seen] /\ M.Short y.data.size /\ M.I64 y.refs
theorem oneFr (n : Nat) (cs : List Value) (x : DataW H × List MemPlace) (hl : cs.length = 4) (h : DataW.trod enc Tryz.prog w base spare held n 40 cs = some x) (hw : OkW 40 x.1) : ∃ y,isFr cs y:=by
 obtain ⟨xs,k,hk,hxy,_,hxl,hf⟩:=DataW.trod_struct Tryz.underlying40 h
 rw [hxy] at hw
 match cs,hl with
 | [v0,v1,v2,v3],_ =>
  have g0 : DataW.trod enc Tryz.prog w base spare held k 9 (([v0,v1,v2,v3].drop 0).take (Tryz.prog.cellsOf 9)) = xs[0]?:=hf 0 _ rfl
  have g1 : DataW.trod enc Tryz.prog w base spare held k 3 (([v0,v1,v2,v3].drop 1).take (Tryz.prog.cellsOf 3)) = xs[1]?:=hf 1 _ rfl
  have g2 : DataW.trod enc Tryz.prog w base spare held k 4 (([v0,v1,v2,v3].drop 2).take (Tryz.prog.cellsOf 4)) = xs[2]?:=hf 2 _ rfl
  have g3 : DataW.trod enc Tryz.prog w base spare held k 4 (([v0,v1,v2,v3].drop 3).take (Tryz.prog.cellsOf 4)) = xs[3]?:=hf 3 _ rfl
  simp only [cells3,cells4,cells9] at g0 g1 g2 g3
  match xs,hxl with
  | [y0,y1,y2,y3],_ =>
   obtain ⟨m0,c0,hx0,_⟩:=DataW.trod_string Tryz.underlying9 (show DataW.trod enc Tryz.prog w base spare held k 9 [v0] = some y0 from g0)
   have u0:=okw_agg Tryz.underlying40 hw (j:=0) (u:=9) (d:=y0.1) rfl rfl
   rw [hx0] at u0
   have w0 : M.Short m0.size:=by have:=okw_string u0;unfold M.Short;unfold reachBytes at this;rw [Lib.size_eq];exact this
   simp only [List.cons.injEq,and_true] at c0
   subst c0
   obtain ⟨m1,rfl,w1⟩:=one_int (show DataW.trod enc Tryz.prog w base spare held k 3 [v1] = some y1 from g1)
   obtain ⟨m2,c2,_⟩:=DataW.trod_bool Tryz.underlying4 (show DataW.trod enc Tryz.prog w base spare held k 4 [v2] = some y2 from g2)
   simp only [List.cons.injEq,and_true] at c2
   subst c2
   obtain ⟨m3,c3,_⟩:=DataW.trod_bool Tryz.underlying4 (show DataW.trod enc Tryz.prog w base spare held k 4 [v3] = some y3 from g3)
   simp only [List.cons.injEq,and_true] at c3
   subst c3
   exact ⟨⟨m0,m1,m2,m3⟩,rfl,w0,w1⟩
theorem opensFr {fuel : Nat} {a0 : Option Addr} {len cap : Nat} {x : DataW H × List MemPlace} (h : DataW.trod enc Tryz.prog w base spare held fuel 23 [.slice a0 len cap] = some x) (hw : OkW 23 x.1) :
  ∃ l : List KM.Fr,l.length = len /\ HasRow KW.cellFr 4 KM.fr0 w a0 l /\ M.Short l.length /\ (∀ k,k < l.length -> M.Short (KM.frAt l k).data.size /\ M.I64 (KM.frAt l k).refs) /\ len <= cap:=by
 obtain ⟨h1,h2,l,h3,h4,h5⟩:=open_rows isFr Tryz.underlying23 cellsFr bytesFr (by decide) oneFr h hw
 subst h3
 refine ⟨l,rfl,fun h0=>?_,h2,fun k hk=>?_,h1⟩
 · obtain ⟨b,off,e1,e2,e3⟩:=h4 h0
   refine ⟨b,off,e1,e2,fun i hi=>?_⟩
   obtain ⟨cs,_,⟨rfl,_⟩,q⟩:=e3 i hi
   exact q
 · obtain ⟨cs,_,q⟩:=h5 k hk
   exact q
def isSl (cs : List Value) (y : KM.Sl) : Prop:=cs = [.string y.data,.int .i64 y.refs] /\ M.Short y.data.size /\ M.I64 y.refs
theorem oneSl (n : Nat) (cs : List Value) (x : DataW H × List MemPlace) (hl : cs.length = 2) (h : DataW.trod enc Tryz.prog w base spare held n 86 cs = some x) (hw : OkW 86 x.1) : ∃ y,isSl cs y:=by
 obtain ⟨xs,k,hk,hxy,_,hxl,hf⟩:=DataW.trod_struct Tryz.underlying86 h
 rw [hxy] at hw
 match cs,hl with
 | [v0,v1],_ =>
  have g0 : DataW.trod enc Tryz.prog w base spare held k 9 (([v0,v1].drop 0).take (Tryz.prog.cellsOf 9)) = xs[0]?:=hf 0 _ rfl
  have g1 : DataW.trod enc Tryz.prog w base spare held k 3 (([v0,v1].drop 1).take (Tryz.prog.cellsOf 3)) = xs[1]?:=hf 1 _ rfl
  simp only [cells3,cells9] at g0 g1
  match xs,hxl with
  | [y0,y1],_ =>
   obtain ⟨m0,c0,hx0,_⟩:=DataW.trod_string Tryz.underlying9 (show DataW.trod enc Tryz.prog w base spare held k 9 [v0] = some y0 from g0)
   have u0:=okw_agg Tryz.underlying86 hw (j:=0) (u:=9) (d:=y0.1) rfl rfl
   rw [hx0] at u0
   have w0 : M.Short m0.size:=by have:=okw_string u0;unfold M.Short;unfold reachBytes at this;rw [Lib.size_eq];exact this
   simp only [List.cons.injEq,and_true] at c0
   subst c0
   obtain ⟨m1,rfl,w1⟩:=one_int (show DataW.trod enc Tryz.prog w base spare held k 3 [v1] = some y1 from g1)
   exact ⟨⟨m0,m1⟩,rfl,w0,w1⟩
theorem opensSl {fuel : Nat} {a0 : Option Addr} {len cap : Nat} {x : DataW H × List MemPlace} (h : DataW.trod enc Tryz.prog w base spare held fuel 24 [.slice a0 len cap] = some x) (hw : OkW 24 x.1) :
  ∃ l : List KM.Sl,l.length = len /\ HasRow KW.cellSl 2 KM.sl0 w a0 l /\ M.Short l.length /\ (∀ k,k < l.length -> M.Short (KM.slAt l k).data.size /\ M.I64 (KM.slAt l k).refs) /\ len <= cap:=by
 obtain ⟨h1,h2,l,h3,h4,h5⟩:=open_rows isSl Tryz.underlying24 cellsSl bytesSl (by decide) oneSl h hw
 subst h3
 refine ⟨l,rfl,fun h0=>?_,h2,fun k hk=>?_,h1⟩
 · obtain ⟨b,off,e1,e2,e3⟩:=h4 h0
   refine ⟨b,off,e1,e2,fun i hi=>?_⟩
   obtain ⟨cs,_,⟨rfl,_⟩,q⟩:=e3 i hi
   exact q
 · obtain ⟨cs,_,q⟩:=h5 k hk
   exact q
def isEn (cs : List Value) (y : KM.En) : Prop:=cs = [.int .i64 y.page,.int .i64 y.kind,.int .i64 y.loc] /\ M.I64 y.page /\ M.I64 y.kind /\ M.I64 y.loc
theorem oneEn (n : Nat) (cs : List Value) (x : DataW H × List MemPlace) (hl : cs.length = 3) (h : DataW.trod enc Tryz.prog w base spare held n 45 cs = some x) (hw : OkW 45 x.1) : ∃ y,isEn cs y:=by
 obtain ⟨xs,k,hk,hxy,_,hxl,hf⟩:=DataW.trod_struct Tryz.underlying45 h
 rw [hxy] at hw
 match cs,hl with
 | [v0,v1,v2],_ =>
  have g0 : DataW.trod enc Tryz.prog w base spare held k 3 (([v0,v1,v2].drop 0).take (Tryz.prog.cellsOf 3)) = xs[0]?:=hf 0 _ rfl
  have g1 : DataW.trod enc Tryz.prog w base spare held k 3 (([v0,v1,v2].drop 1).take (Tryz.prog.cellsOf 3)) = xs[1]?:=hf 1 _ rfl
  have g2 : DataW.trod enc Tryz.prog w base spare held k 3 (([v0,v1,v2].drop 2).take (Tryz.prog.cellsOf 3)) = xs[2]?:=hf 2 _ rfl
  simp only [cells3] at g0 g1 g2
  match xs,hxl with
  | [y0,y1,y2],_ =>
   obtain ⟨m0,rfl,w0⟩:=one_int (show DataW.trod enc Tryz.prog w base spare held k 3 [v0] = some y0 from g0)
   obtain ⟨m1,rfl,w1⟩:=one_int (show DataW.trod enc Tryz.prog w base spare held k 3 [v1] = some y1 from g1)
   obtain ⟨m2,rfl,w2⟩:=one_int (show DataW.trod enc Tryz.prog w base spare held k 3 [v2] = some y2 from g2)
   exact ⟨⟨m0,m1,m2⟩,rfl,w0,w1,w2⟩
theorem opensEn {fuel : Nat} {a0 : Option Addr} {len cap : Nat} {x : DataW H × List MemPlace} (h : DataW.trod enc Tryz.prog w base spare held fuel 41 [.slice a0 len cap] = some x) (hw : OkW 41 x.1) :
  ∃ l : List KM.En,l.length = len /\ HasRow KW.cellEn 3 KM.en0 w a0 l /\ M.Short l.length /\ (∀ k,k < l.length -> M.I64 (KM.enAt l k).page /\ M.I64 (KM.enAt l k).kind /\ M.I64 (KM.enAt l k).loc) /\ len <= cap:=by
 obtain ⟨h1,h2,l,h3,h4,h5⟩:=open_rows isEn Tryz.underlying41 cellsEn bytesEn (by decide) oneEn h hw
 subst h3
 refine ⟨l,rfl,fun h0=>?_,h2,fun k hk=>?_,h1⟩
 · obtain ⟨b,off,e1,e2,e3⟩:=h4 h0
   refine ⟨b,off,e1,e2,fun i hi=>?_⟩
   obtain ⟨cs,_,⟨rfl,_⟩,q⟩:=e3 i hi
   exact q
 · obtain ⟨cs,_,q⟩:=h5 k hk
   exact q
def isSp (w : World) (cs : List Value) (y : KM.Sp) : Prop:=∃ va ap cp,cs = [.bool y.live,va,.slice ap y.ents.length cp] /\ AW.Has w va y.areas /\ HasRow KW.cellEn 3 KM.en0 w ap y.ents /\ y.ents.length <= cp /\ FitSp y
theorem oneSp (n : Nat) (cs : List Value) (x : DataW H × List MemPlace) (hl : cs.length = 3) (h : DataW.trod enc Tryz.prog w base spare held n 43 cs = some x) (hw : OkW 43 x.1) : ∃ y,isSp w cs y:=by
 obtain ⟨xs,k,hk,hxy,_,hxl,hf⟩:=DataW.trod_struct Tryz.underlying43 h
 rw [hxy] at hw
 match cs,hl with
 | [v0,v1,v2],_ =>
  have g0 : DataW.trod enc Tryz.prog w base spare held k 4 (([v0,v1,v2].drop 0).take (Tryz.prog.cellsOf 4)) = xs[0]?:=hf 0 _ rfl
  have g1 : DataW.trod enc Tryz.prog w base spare held k 28 (([v0,v1,v2].drop 1).take (Tryz.prog.cellsOf 28)) = xs[1]?:=hf 1 _ rfl
  have g2 : DataW.trod enc Tryz.prog w base spare held k 41 (([v0,v1,v2].drop 2).take (Tryz.prog.cellsOf 41)) = xs[2]?:=hf 2 _ rfl
  simp only [cells4,LW.cellsArs,cellsEns] at g0 g1 g2
  match xs,hxl with
  | [y0,y1,y2],_ =>
   obtain ⟨lv,c0,_⟩:=DataW.trod_bool Tryz.underlying4 (show DataW.trod enc Tryz.prog w base spare held k 4 [v0] = some y0 from g0)
   have u1:=okw_agg Tryz.underlying43 hw (j:=1) (u:=28) (d:=y1.1) rfl rfl
   have u2:=okw_agg Tryz.underlying43 hw (j:=2) (u:=41) (d:=y2.1) rfl rfl
   have t1 : DataW.trod enc Tryz.prog w base spare held k 28 [v1] = some y1:=g1
   have t2 : DataW.trod enc Tryz.prog w base spare held k 41 [v2] = some y2:=g2
   obtain ⟨av,lvn,cv,d1⟩:=slice_of Tryz.underlying28 t1
   obtain ⟨ap,lp,cp,d2⟩:=slice_of Tryz.underlying41 t2
   subst d1;subst d2
   obtain ⟨l,n1,n2,n3,n4⟩:=AW.open_areas t1
   obtain ⟨ps,s1,s2,s3,s4,s5⟩:=opensEn t2 u2
   simp only [List.cons.injEq,and_true] at c0
   subst c0;subst s1
   refine ⟨⟨lv,l,ps⟩,_,ap,cp,rfl,n2,s2,s5,⟨n3,?_⟩,s3,s4⟩
   rw [n1]
   rcases n4 with e | ⟨el,sp,e1,e2⟩
   · omega
   · rw [e1] at u1
     have hb:=(okw_slice Tryz.underlying28 u1).1
     rw [LW.bytesAr,e2] at hb
     unfold reachBytes at hb
     omega
theorem opensSp {fuel : Nat} {a0 : Option Addr} {len cap : Nat} {x : DataW H × List MemPlace} (h : DataW.trod enc Tryz.prog w base spare held fuel 25 [.slice a0 len cap] = some x) (hw : OkW 25 x.1) :
  ∃ l : List KM.Sp,l.length = len /\ KW.HasSp w a0 l /\ M.Short l.length /\ ∀ k,k < l.length -> FitSp (KM.spAt l k):=by
 obtain ⟨h1,h2,l,h3,h4,h5⟩:=open_rows (isSp w) Tryz.underlying25 cellsSp bytesSp (by decide) oneSp h hw
 subst h3
 refine ⟨l,rfl,fun h0=>?_,h2,fun k hk=>?_⟩
 · obtain ⟨b,off,e1,e2,e3⟩:=h4 h0
   refine ⟨b,off,e1,e2,fun i hi=>?_⟩
   obtain ⟨cs,_,⟨va,ap,cp,rfl,r1,r2,r3,_⟩,q⟩:=e3 i hi
   exact ⟨va,ap,cp,q 0 (by decide),q 1 (by decide),q 2 (by decide),r1,r2,r3⟩
 · obtain ⟨cs,_,_,_,_,_,_,_,q⟩:=h5 k hk
   exact q
theorem open_kernel {fuel : Nat} {cs : List Value} {x : DataW H × List MemPlace} (h : DataW.trod enc Tryz.prog w base spare held fuel 27 cs = some x) (hw : OkW 27 x.1) :
  ∃ (k : KM.Kn) (a : KAt),cs = (cellsK a k).toList /\ HasK w a k /\ FitK k:=by
 obtain ⟨xs,k,hk,hxy,hcl,hxl,hf⟩:=DataW.trod_struct Tryz.underlying27 h
 rw [hxy] at hw
 rw [cellsKn] at hcl
 match cs,hcl with
 | [v0,v1,v2,v3,v4],_ =>
  have g0 : DataW.trod enc Tryz.prog w base spare held k 22 (([v0,v1,v2,v3,v4].drop 0).take (Tryz.prog.cellsOf 22)) = xs[0]?:=hf 0 _ rfl
  have g1 : DataW.trod enc Tryz.prog w base spare held k 23 (([v0,v1,v2,v3,v4].drop 1).take (Tryz.prog.cellsOf 23)) = xs[1]?:=hf 1 _ rfl
  have g2 : DataW.trod enc Tryz.prog w base spare held k 24 (([v0,v1,v2,v3,v4].drop 2).take (Tryz.prog.cellsOf 24)) = xs[2]?:=hf 2 _ rfl
  have g3 : DataW.trod enc Tryz.prog w base spare held k 25 (([v0,v1,v2,v3,v4].drop 3).take (Tryz.prog.cellsOf 25)) = xs[3]?:=hf 3 _ rfl
  have g4 : DataW.trod enc Tryz.prog w base spare held k 3 (([v0,v1,v2,v3,v4].drop 4).take (Tryz.prog.cellsOf 3)) = xs[4]?:=hf 4 _ rfl
  simp only [cells3,LW.cellsShs,cellsFrs,cellsSls,cellsSps] at g0 g1 g2 g3 g4
  match xs,hxl with
  | [y0,y1,y2,y3,y4],_ =>
   obtain ⟨hd,rfl,i4⟩:=one_int (show DataW.trod enc Tryz.prog w base spare held k 3 [v4] = some y4 from g4)
   have u0:=okw_agg Tryz.underlying27 hw (j:=0) (u:=22) (d:=y0.1) rfl rfl
   have t0 : DataW.trod enc Tryz.prog w base spare held k 22 [v0] = some y0:=g0
   obtain ⟨a0,l0,c0,d0⟩:=slice_of Tryz.underlying22 t0
   have u1:=okw_agg Tryz.underlying27 hw (j:=1) (u:=23) (d:=y1.1) rfl rfl
   have t1 : DataW.trod enc Tryz.prog w base spare held k 23 [v1] = some y1:=g1
   obtain ⟨a1,l1,c1,d1⟩:=slice_of Tryz.underlying23 t1
   have u2:=okw_agg Tryz.underlying27 hw (j:=2) (u:=24) (d:=y2.1) rfl rfl
   have t2 : DataW.trod enc Tryz.prog w base spare held k 24 [v2] = some y2:=g2
   obtain ⟨a2,l2,c2,d2⟩:=slice_of Tryz.underlying24 t2
   have u3:=okw_agg Tryz.underlying27 hw (j:=3) (u:=25) (d:=y3.1) rfl rfl
   have t3 : DataW.trod enc Tryz.prog w base spare held k 25 [v3] = some y3:=g3
   obtain ⟨a3,l3,c3,d3⟩:=slice_of Tryz.underlying25 t3
   subst d0;subst d1;subst d2;subst d3
   obtain ⟨hs,rfl,s2,s3,s4⟩:=LW.open_H t0 u0
   obtain ⟨fs,rfl,f2,f3,f4,f5⟩:=opensFr t1 u1
   obtain ⟨ls,rfl,m2,m3,m4,m5⟩:=opensSl t2 u2
   obtain ⟨ss,rfl,p2,p3,p4⟩:=opensSp t3 u3
   exact ⟨⟨hs,fs,ls,ss,hd⟩,⟨a0,c0,a1,c1,a2,c2,a3,c3⟩,rfl,⟨s2,f2,m2,p2⟩,⟨s3,f3,f4,m3,m4,p3,p4,i4⟩⟩
end
end KA
end Go.Proofs.YtpgifpeohlllfaaGreat
