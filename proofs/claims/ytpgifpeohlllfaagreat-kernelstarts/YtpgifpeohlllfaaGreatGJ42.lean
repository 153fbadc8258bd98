import Derived.Test.YtpgifpeohlllfaaGreatGJ41
import Derived.Test.YtpgifpeohlllfaaGreatGJ20
import Derived.Test.YtpgifpeohlllfaaGreatGJ12
import Derived.Test.YtpgifpeohlllfaaGreatGJ40
import Derived.Test.YtpgifpeohlllfaaGreatGJ39
import Derived.Test.YtpgifpeohlllfaaGreatGJ38
import Derived.Test.YtpgifpeohlllfaaGreatGJ17
import Derived.Test.YtpgifpeohlllfaaGreatGJ06
import Derived.Test.YtpgifpeohlllfaaGreatGJ07
import Derived.Test.YtpgifpeohlllfaaGreatGJ00
import Derived.Lib.Hide
import Derived.WalkSpells
import Derived.Deep.RegionHeld3
import Derived.Test.YtpgifpeohlllfaaGreatGJ11
import Derived.Test.YtpgifpeohlllfaaGreatGJ37
set_option maxHeartbeats 20000000
set_option linter.unusedVariables false
set_option maxRecDepth 100000
set_option linter.unusedSimpArgs false
namespace Go.Proofs.YtpgifpeohlllfaaGreat
namespace LW
open Go.RowKit Go.Deep
open W (OkW okw_string okw_slice okw_agg slice_of cell_lt i64_of cells9 cells3)
section
variable {H : Type} {enc : TypeId × Value -> H} {w : World} {base : Nat} {spare : Nat -> Bool} {held : Bool}
theorem open_H {fuel : Nat} {a0 : Option Addr} {len cap : Nat} {x : DataW H × List MemPlace} (h : DataW.trod enc Tryz.prog w base spare held fuel 22 [.slice a0 len cap] = some x) (hw : OkW 22 x.1) :
  ∃ l : List LM.Sh,l.length = len /\ LM.HasH w a0 l /\ LM.FitHs l /\ len <= cap:=by
 rcases open_slice Tryz.underlying22 h with ⟨hcs,_⟩ | ⟨a,len',cap',m,n,D,Pl,hcs,hb,hl,hm,hmm,rfl,hx⟩
 · simp at hcs
   obtain ⟨rfl,rfl,rfl⟩:=hcs
   exact ⟨[],rfl,fun h=>absurd h (by simp),⟨by unfold M.Short;simp,fun k hk=>absurd hk (by simp)⟩,Nat.le_refl _⟩
 · simp at hcs
   obtain ⟨rfl,rfl,rfl⟩:=hcs
   have hlm : len <= m:=by rw [hmm];split <;> omega
   obtain ⟨hb1,hb2⟩:=okw_slice Tryz.underlying22 hw
   rw [bytesSh] at hb1
   unfold reachBytes at hb1
   have hlen : len <= 140737488351232:=by simp at hb1;omega
   have each : ∀ i,i < len -> ∃ y : LM.Sh,w.cell? (a.add (i * 3 + 0)) = some (.int .i64 y.page) /\ w.cell? (a.add (i * 3 + 1)) = some (.string y.data) /\ w.cell? (a.add (i * 3 + 2)) = some (.slice y.ao y.fixes.length y.cap) /\ LM.HasF w y.ao y.fixes /\ LM.FitH y:=by
    intro i hi
    obtain ⟨cs',h1,h2⟩:=hx i (by omega)
    have hd : D i ∈ (List.range len).map D:=List.mem_map.2 ⟨i,List.mem_range.2 hi,rfl⟩
    rw [cellsSh] at h1
    obtain ⟨_,hcl,hcell⟩:=World.cells?_some h1
    match cs',hcl with
    | [v0,v1,v2],_ =>
     obtain ⟨s,e0,e1,e2,f1,f2⟩:=vals_sheet h2 (hb2 _ hd)
     have q0:=hcell 0 (by omega)
     have q1:=hcell 1 (by omega)
     have q2:=hcell 2 (by omega)
     simp only [add_add] at q0 q1 q2
     subst e0;subst e1;subst e2
     exact ⟨s,q0,q1,q2,f1,f2⟩
   obtain ⟨g,hg⟩:=choose_lt each
   have hat : ∀ i,i < len -> LM.shAt ((List.range len).map g) i = g i:=by
    intro i hi
    simp [LM.shAt,hi]
   refine ⟨(List.range len).map g,by simp,fun h0=>?_,⟨by unfold M.Short;simp;exact hlen,fun k hk=>?_⟩,hl⟩
   · have h0' : 0 < len:=by simpa using h0
     obtain ⟨b,off,spot⟩:=a
     have hc:=(hg 0 h0').1
     have hspot : spot = none:=by simpa [Addr.add] using World.cell?_spot hc
     subst hspot
     rw [Addr.add_lit] at hc
     refine ⟨b,off,rfl,cell_lt hc,fun i hi=>?_⟩
     have hi' : i < len:=by simpa using hi
     rw [hat i hi']
     obtain ⟨e0,e1,e2,e3,_⟩:=hg i hi'
     simp only [Addr.add_lit] at e0 e1 e2
     exact ⟨e0,by rw [Nat.add_assoc];exact e1,by rw [Nat.add_assoc];exact e2,e3⟩
   · have hi' : k < len:=by simpa using hk
     rw [hat k hi']
     obtain ⟨_,_,_,_,f⟩:=hg k hi'
     exact f
theorem open_linked {fuel : Nat} {cs : List Value} {x : DataW H × List MemPlace} (h : DataW.trod enc Tryz.prog w base spare held fuel 30 cs = some x) (hw : OkW 30 x.1) :
  ∃ (l : List AM.Ar) (hs : List LM.Sh) (en : Int) (va : Value) (ao : Option Addr) (cap : Nat),cs = [va,.slice ao hs.length cap,.int .i64 en] /\ AW.Has w va l /\ AW.AllFit l /\ LM.HasH w ao hs /\ LM.FitHs hs /\ hs.length <= cap /\ M.I64 en:=by
 obtain ⟨xs,k,hk,hxy,hcl,hxl,hf⟩:=DataW.trod_struct Tryz.underlying30 h
 rw [hxy] at hw
 rw [cellsLk] at hcl
 match cs,hcl with
 | [v0,v1,v2],_ =>
  have g0 : DataW.trod enc Tryz.prog w base spare held k 28 (([v0,v1,v2].drop 0).take (Tryz.prog.cellsOf 28)) = xs[0]?:=hf 0 _ rfl
  have g1 : DataW.trod enc Tryz.prog w base spare held k 22 (([v0,v1,v2].drop 1).take (Tryz.prog.cellsOf 22)) = xs[1]?:=hf 1 _ rfl
  have g2 : DataW.trod enc Tryz.prog w base spare held k 3 (([v0,v1,v2].drop 2).take (Tryz.prog.cellsOf 3)) = xs[2]?:=hf 2 _ rfl
  simp only [cells3,cellsArs,cellsShs] at g0 g1 g2
  match xs,hxl with
  | [y0,y1,y2],_ =>
   obtain ⟨en,c2,_,w2⟩:=DataW.trod_int Tryz.underlying3 (show DataW.trod enc Tryz.prog w base spare held k 3 [v2] = some y2 from g2)
   have u0:=okw_agg Tryz.underlying30 hw (j:=0) (u:=28) (d:=y0.1) rfl rfl
   have u1:=okw_agg Tryz.underlying30 hw (j:=1) (u:=22) (d:=y1.1) rfl rfl
   have t0 : DataW.trod enc Tryz.prog w base spare held k 28 [v0] = some y0:=g0
   have t1 : DataW.trod enc Tryz.prog w base spare held k 22 [v1] = some y1:=g1
   obtain ⟨av,lv,cv,d0⟩:=slice_of Tryz.underlying28 t0
   obtain ⟨ao,lo,cap,d1⟩:=slice_of Tryz.underlying22 t1
   subst d0;subst d1
   obtain ⟨l,n1,n2,n3,n4⟩:=AW.open_areas t0
   obtain ⟨hs,s1,s2,s3,s4⟩:=open_H t1 u1
   simp only [List.cons.injEq,and_true] at c2
   subst c2;subst s1
   refine ⟨l,hs,en,_,ao,cap,rfl,n2,⟨n3,?_⟩,s2,s3,s4,i64_of _ w2⟩
   rw [n1]
   rcases n4 with e | ⟨el,sp,e1,e2⟩
   · omega
   · rw [e1] at u0
     have hb:=(okw_slice Tryz.underlying28 u0).1
     rw [bytesAr,e2] at hb
     unfold reachBytes at hb
     omega
end
end LW
namespace LM
open Go.RowKit
def mapSeg (o : Ob) (L : List AM.Ar) (s : M.Sg) : List AM.Ar:=(AW.mapN L (o.base + s.page) s.pages (protN s)).1
def asg (o : Ob) (L : List AM.Ar) : Nat -> List AM.Ar
 | 0=>L
 | k + 1=>mapSeg o (asg o L k) (M.sgAt o.i.segs k)
def aob (l : List Ob) : Nat -> List AM.Ar
 | 0=>[]
 | k + 1=>asg (obAt l k) (aob l k) (obAt l k).i.segs.length
def clr (a : AM.Ar) : AM.Ar:=⟨a.page,a.pages,a.prot,false⟩
def clrTo (L : List AM.Ar) : Nat -> List AM.Ar
 | 0=>L
 | k + 1=>(clrTo L k).set k (clr (AM.at_ (clrTo L k) k))
def areasN (l : List Ob) : List AM.Ar:=(aob l l.length).map clr
theorem fit_asg (o : Ob) (L : List AM.Ar) (h : AW.AllFit L) : ∀ k,AW.AllFit (asg o L k)
 | 0=>h
 | k + 1=>AW.fit_map _ _ _ _
theorem fit_aob (l : List Ob) : ∀ k,AW.AllFit (aob l k)
 | 0=>AW.fit_nil
 | k + 1=>fit_asg _ _ (fit_aob l k) _
theorem clrTo_length (L : List AM.Ar) : ∀ k,(clrTo L k).length = L.length
 | 0=>rfl
 | k + 1=>by simp only [clrTo,List.length_set,clrTo_length L k]
theorem clrTo_get (L : List AM.Ar) : ∀ k,k <= L.length -> ∀ j,(clrTo L k)[j]? = if j < k then L[j]?.map clr else L[j]?
 | 0,_,j=>by simp [clrTo]
 | k + 1,hk,j=>by
  have ih:=clrTo_get L k (by omega)
  have hl:=clrTo_length L k
  have e : AM.at_ (clrTo L k) k = AM.at_ L k:=by
   unfold AM.at_
   rw [List.getD_eq_getElem?_getD,List.getD_eq_getElem?_getD,ih k,if_neg (Nat.lt_irrefl _)]
  simp only [clrTo]
  rw [e,List.getElem?_set]
  by_cases hjk : k = j
  · subst hjk
    rw [if_pos rfl,if_pos (by omega),if_pos (by omega)]
    unfold AM.at_
    rw [List.getD_eq_getElem?_getD,List.getElem?_eq_getElem (by omega)]
    rfl
  · rw [if_neg hjk,ih j]
    by_cases h1 : j < k
    · rw [if_pos h1,if_pos (by omega)]
    · rw [if_neg h1,if_neg (by omega)]
theorem clrTo_all (L : List AM.Ar) : clrTo L L.length = L.map clr:=by
 apply List.ext_getElem?
 intro j
 rw [clrTo_get L _ (Nat.le_refl _) j,List.getElem?_map]
 by_cases h : j < L.length
 · rw [if_pos h]
 · rw [if_neg h,List.getElem?_eq_none (by omega)]
   rfl
theorem areaCells_set (b : Bool) : ∀ (L : List AM.Ar) (k : Nat),k < L.length -> (AM.areaCells L).set (k * 4 + 3) (.bool b) = AM.areaCells (L.set k ⟨(AM.at_ L k).page,(AM.at_ L k).pages,(AM.at_ L k).prot,b⟩)
 | [],k,h=>by simp at h
 | a :: r,0,h=>rfl
 | a :: r,k + 1,h=>by
  have ih:=areaCells_set b r k (by simpa using h)
  show (AM.four a ++ AM.areaCells r).set _ _ = AM.four a ++ AM.areaCells (r.set k _)
  rw [List.set_append_right _ _ (by simp [AM.four];omega)]
  congr 1
  have e : (k + 1) * 4 + 3 - (AM.four a).length = k * 4 + 3:=by simp [AM.four];omega
  rw [e,ih]
  rfl
def cellI (x : Li) : List Value:=(M.cellsI x.a x.i).toList
def linkErr (all : List Li) : Int :=
 if 7 < all.length then 2
 else if byErr all = 0 then
  match gat all all.length 0 [0] with
  | none=>6
  | some ix=>if 256 < endFrom all 1 ix then 3 else
   match sheetsN (obsFrom all 1 ix) with
   | none=>7
   | some _=>0
 else byErr all
theorem byErr_zero {l : List Li} (h : byErr l = 0) : (∀ k,k < l.length -> M.chkN (liAt l k).i = 0) /\ M.onceB (namesL l) = true:=by
 unfold byErr at h
 by_cases e : errTo l l.length = 0
 · rw [if_pos e] at h
   refine ⟨errTo_none l l.length e,?_⟩
   by_cases g : M.onceB (namesL l) = true
   · exact g
   · rw [if_neg g] at h
     cases h
 · rw [if_neg e] at h
   exact (e h).elim
theorem obs_base {all : List Li} (hc : ∀ j,j < all.length -> M.chkN (liAt all j).i = 0) (h7 : all.length <= 7) {ix : List Nat} (ho : OkIx all ix) (k : Nat) (hk : k < (obsFrom all 1 ix).length) : 1 <= (obAt (obsFrom all 1 ix) k).base /\ (obAt (obsFrom all 1 ix) k).base <= 2000:=by
 rw [obsFrom_length] at hk
 rw [(obsFrom_at all ix 1 k hk).2.2]
 have h:=endFrom_bounds all hc (ix.take k) 1 (fun j hj=>ho.lt j (List.mem_of_mem_take hj))
 have h2:=ho.le
 rw [List.length_take] at h
 omega
end LM
namespace KG
open Go.RowKit
def jmpD : ByteArray:=⟨#[12,0,0,0,0,0,0,0]⟩
theorem jmp_bytes : (⟨12,0,0,0,0⟩ : PM.Ins).bytes = jmpD:=by kernel_rfl
def abcD : ByteArray:=⟨#[97,98,99]⟩
def p1 : ByteArray:=⟨#[12,0,0,0,0,0,0,0,0,0,0,0,0,0,0,0]⟩
def p2 : ByteArray:=⟨#[97,98,99,0,0,0,0,0,0,0,0,0,0,0,0,0]⟩
def p3 : ByteArray:=⟨#[0,0,0,0,0,0,0,0,0,0,0,0,0,0,0,0]⟩
def thI : M.Im:=⟨⟨#[116]⟩,[],[⟨0,1,jmpD,false,true⟩,⟨1,2,abcD,true,false⟩],[],[],0⟩
theorem th_fit : M.Fit thI:=by
 refine ⟨by unfold M.Short thI;decide,by unfold M.Short thI;decide,fun k hk=>absurd hk (by unfold thI;simp),by unfold M.Short thI;decide,fun k hk=>?_,by unfold M.Short thI;decide,fun k hk=>absurd hk (by unfold thI;simp),by unfold M.Short thI;decide,fun k hk=>absurd hk (by unfold thI;simp),by unfold M.I64 thI;decide⟩
 have : k = 0 ∨ k = 1:=by unfold thI at hk;simp at hk;omega
 rcases this with rfl | rfl
 · exact ⟨by unfold M.I64 thI M.sgAt;decide,by unfold M.I64 thI M.sgAt;decide,by unfold M.Short;show (8 : Nat) <= _;decide⟩
 · exact ⟨by unfold M.I64 thI M.sgAt;decide,by unfold M.I64 thI M.sgAt;decide,by unfold M.Short;show (3 : Nat) <= _;decide⟩
theorem th_err (a : M.At) : LM.linkErr [⟨thI,a⟩] = 0:=by kernel_rfl
theorem th_gat (a : M.At) : LM.gat [⟨thI,a⟩] [(⟨thI,a⟩ : LM.Li)].length 0 [0] = some [0]:=by kernel_rfl
theorem th_obs (a : M.At) : LM.obsFrom [⟨thI,a⟩] 1 [0] = [⟨thI,a,1⟩]:=by kernel_rfl
def thE : List LM.Sp:=[⟨1,p1,[]⟩,⟨2,p2,[]⟩,⟨3,p3,[]⟩]
theorem th_sheets (a : M.At) : LM.sheetsN [⟨thI,a,1⟩] = some thE:=by kernel_rfl
def thA : List AM.Ar:=[⟨1,1,2,false⟩,⟨2,2,1,false⟩]
theorem th_areas (a : M.At) : LM.areasN [⟨thI,a,1⟩] = thA:=by kernel_rfl
theorem th_entry (a : M.At) : LM.addrO (LM.obAt [⟨thI,a,1⟩] 0) (LM.liAt [⟨thI,a⟩] 0).i.entry = 16:=by kernel_rfl
def thH (a1 a2 a3 : Option Addr) (c1 c2 c3 : Nat) : List LM.Sh:=[⟨1,p1,[],a1,c1⟩,⟨2,p2,[],a2,c2⟩,⟨3,p3,[],a3,c3⟩]
theorem th_of {hs : List LM.Sh} (h : hs.map LM.plain = thE) : ∃ a1 a2 a3 c1 c2 c3,hs = thH a1 a2 a3 c1 c2 c3:=by
 match hs,h with
 | [⟨g1,d1,f1,a1,c1⟩,⟨g2,d2,f2,a2,c2⟩,⟨g3,d3,f3,a3,c3⟩],h =>
  simp only [List.map_cons,List.map_nil,LM.plain,thE,List.cons.injEq,LM.Sp.mk.injEq,and_true] at h
  obtain ⟨⟨rfl,rfl,rfl⟩,⟨rfl,rfl,rfl⟩,rfl,rfl,rfl⟩:=h
  exact ⟨a1,a2,a3,c1,c2,c3,rfl⟩
 | [],h=>cases congrArg List.length h
 | [_],h=>cases congrArg List.length h
 | [_,_],h=>cases congrArg List.length h
 | _ :: _ :: _ :: _ :: _,h =>
  have:=congrArg List.length h
  simp [thE] at this
theorem th_fitA : AW.AllFit thA:=AM.fits_of_check _ (by kernel_rfl)
theorem th_fitH (a1 a2 a3 : Option Addr) (c1 c2 c3 : Nat) : LM.FitHs (thH a1 a2 a3 c1 c2 c3):=sheets_fit (by kernel_rfl) (by show (3 : Nat) <= 255;decide)
def wxD : ByteArray:=⟨#[119,120,121,122]⟩
def qD : ByteArray:=⟨#[113]⟩
def abD : ByteArray:=⟨#[97,98]⟩
def pkD : ByteArray:=⟨#[113,98,99,0,0,0,0,0,0,0,0,0,0,0,119,120]⟩
def kk0 (H : List LM.Sh) : KM.Kn:=⟨H,[⟨⟨#[]⟩,0,false,false⟩,⟨⟨#[]⟩,0,false,false⟩,⟨⟨#[]⟩,0,false,false⟩],[⟨⟨#[]⟩,0⟩,⟨⟨#[]⟩,0⟩,⟨⟨#[]⟩,0⟩,⟨⟨#[]⟩,0⟩,⟨⟨#[]⟩,0⟩,⟨⟨#[]⟩,0⟩,⟨⟨#[]⟩,0⟩,⟨⟨#[]⟩,0⟩],[⟨true,thA,[]⟩],0⟩
def kk1 (H : List LM.Sh) : KM.Kn:=⟨H,[⟨⟨#[97,98,99,0,0,0,0,0,0,0,0,0,0,0,119,120]⟩,1,true,true⟩,⟨⟨#[121,122,0,0,0,0,0,0,0,0,0,0,0,0,0,0]⟩,1,true,true⟩,⟨⟨#[]⟩,0,false,false⟩],[⟨⟨#[]⟩,0⟩,⟨⟨#[]⟩,0⟩,⟨⟨#[]⟩,0⟩,⟨⟨#[]⟩,0⟩,⟨⟨#[]⟩,0⟩,⟨⟨#[]⟩,0⟩,⟨⟨#[]⟩,0⟩,⟨⟨#[]⟩,0⟩],[⟨true,thA,[⟨2,1,0⟩,⟨3,1,1⟩]⟩],0⟩
def kk2 (H : List LM.Sh) : KM.Kn:=⟨H,[⟨⟨#[97,98,99,0,0,0,0,0,0,0,0,0,0,0,119,120]⟩,2,true,true⟩,⟨⟨#[121,122,0,0,0,0,0,0,0,0,0,0,0,0,0,0]⟩,2,true,true⟩,⟨⟨#[]⟩,0,false,false⟩],[⟨⟨#[]⟩,0⟩,⟨⟨#[]⟩,0⟩,⟨⟨#[]⟩,0⟩,⟨⟨#[]⟩,0⟩,⟨⟨#[]⟩,0⟩,⟨⟨#[]⟩,0⟩,⟨⟨#[]⟩,0⟩,⟨⟨#[]⟩,0⟩],[⟨true,thA,[⟨2,1,0⟩,⟨3,1,1⟩]⟩,⟨true,thA,[⟨2,1,0⟩,⟨3,1,1⟩]⟩],0⟩
def kk3 (H : List LM.Sh) : KM.Kn:=⟨H,[⟨⟨#[97,98,99,0,0,0,0,0,0,0,0,0,0,0,119,120]⟩,1,true,true⟩,⟨⟨#[121,122,0,0,0,0,0,0,0,0,0,0,0,0,0,0]⟩,2,true,true⟩,⟨⟨#[113,98,99,0,0,0,0,0,0,0,0,0,0,0,119,120]⟩,1,true,true⟩],[⟨⟨#[]⟩,0⟩,⟨⟨#[]⟩,0⟩,⟨⟨#[]⟩,0⟩,⟨⟨#[]⟩,0⟩,⟨⟨#[]⟩,0⟩,⟨⟨#[]⟩,0⟩,⟨⟨#[]⟩,0⟩,⟨⟨#[]⟩,0⟩],[⟨true,thA,[⟨2,1,0⟩,⟨3,1,1⟩]⟩,⟨true,thA,[⟨2,1,2⟩,⟨3,1,1⟩]⟩],0⟩
theorem kk0_check (a1 a2 a3 : Option Addr) (c1 c2 c3 : Nat) : KM.checkK (kk0 (thH a1 a2 a3 c1 c2 c3)) = 0:=by kernel_rfl
theorem kk0_right (a1 a2 a3 : Option Addr) (c1 c2 c3 : Nat) : KM.RightK (kk0 (thH a1 a2 a3 c1 c2 c3)):=(KM.check_iff _).1 (kk0_check a1 a2 a3 c1 c2 c3)
theorem kk0_fit (a1 a2 a3 : Option Addr) (c1 c2 c3 : Nat) : KW.FitK (kk0 (thH a1 a2 a3 c1 c2 c3)):=fit_right (kk0_right a1 a2 a3 c1 c2 c3)
theorem kk1_check (a1 a2 a3 : Option Addr) (c1 c2 c3 : Nat) : KM.checkK (kk1 (thH a1 a2 a3 c1 c2 c3)) = 0:=by kernel_rfl
theorem kk1_right (a1 a2 a3 : Option Addr) (c1 c2 c3 : Nat) : KM.RightK (kk1 (thH a1 a2 a3 c1 c2 c3)):=(KM.check_iff _).1 (kk1_check a1 a2 a3 c1 c2 c3)
theorem kk1_fit (a1 a2 a3 : Option Addr) (c1 c2 c3 : Nat) : KW.FitK (kk1 (thH a1 a2 a3 c1 c2 c3)):=fit_right (kk1_right a1 a2 a3 c1 c2 c3)
theorem kk2_check (a1 a2 a3 : Option Addr) (c1 c2 c3 : Nat) : KM.checkK (kk2 (thH a1 a2 a3 c1 c2 c3)) = 0:=by kernel_rfl
theorem kk2_right (a1 a2 a3 : Option Addr) (c1 c2 c3 : Nat) : KM.RightK (kk2 (thH a1 a2 a3 c1 c2 c3)):=(KM.check_iff _).1 (kk2_check a1 a2 a3 c1 c2 c3)
theorem kk2_fit (a1 a2 a3 : Option Addr) (c1 c2 c3 : Nat) : KW.FitK (kk2 (thH a1 a2 a3 c1 c2 c3)):=fit_right (kk2_right a1 a2 a3 c1 c2 c3)
theorem kk3_check (a1 a2 a3 : Option Addr) (c1 c2 c3 : Nat) : KM.checkK (kk3 (thH a1 a2 a3 c1 c2 c3)) = 0:=by kernel_rfl
theorem kk3_right (a1 a2 a3 : Option Addr) (c1 c2 c3 : Nat) : KM.RightK (kk3 (thH a1 a2 a3 c1 c2 c3)):=(KM.check_iff _).1 (kk3_check a1 a2 a3 c1 c2 c3)
theorem kk3_fit (a1 a2 a3 : Option Addr) (c1 c2 c3 : Nat) : KW.FitK (kk3 (thH a1 a2 a3 c1 c2 c3)):=fit_right (kk3_right a1 a2 a3 c1 c2 c3)
theorem kk1_store (a1 a2 a3 : Option Addr) (c1 c2 c3 : Nat) : KZ.storeA (kk0 (thH a1 a2 a3 c1 c2 c3)) 0 46 wxD = (kk1 (thH a1 a2 a3 c1 c2 c3),(0,0),0):=by kernel_rfl
theorem kk3_store (a1 a2 a3 : Option Addr) (c1 c2 c3 : Nat) : KZ.storeA (kk2 (thH a1 a2 a3 c1 c2 c3)) 1 32 qD = (kk3 (thH a1 a2 a3 c1 c2 c3),(0,0),0):=by kernel_rfl
theorem kk3_load (a1 a2 a3 : Option Addr) (c1 c2 c3 : Nat) : (KZ.loadA (kk3 (thH a1 a2 a3 c1 c2 c3)) 0 32 2 0).2 = (abD,(0,0),0):=by kernel_rfl
theorem kk3_peek (a1 a2 a3 : Option Addr) (c1 c2 c3 : Nat) : KW.peekR (kk3 (thH a1 a2 a3 c1 c2 c3)) 1 2 = (pkD,0):=by kernel_rfl
end KG
namespace PW
open Go.RowKit
theorem hideC {p : Prop} (h : p) : Hid p:=h
set_option maxHeartbeats 1500000 in
theorem instr_any (i : PM.Ins) (w : World) : Calls Tryz.prog 94 #[.agg i.cells] w fun e w'=>e = .returned (.string i.bytes) /\ Below w.heap.size w w':=by
 obtain ⟨o,a,b,c,m⟩:=i
 unfold PM.Ins.cells PM.Ins.bytes
 simp only
 have HB0:=hideC ((Below.refl w.heap.size w).alloc (Nat.le_refl _) (.cells #[.int .i64 o,.int .i64 a,.int .i64 b,.int .i64 c,.int .i64 m] 143))
 have BX:=hideC (B.new w #[.int .i64 o,.int .i64 a,.int .i64 b,.int .i64 c,.int .i64 m] 143)
 obtain ⟨W,hW⟩ : ∃ W,W = w.alloc (.cells #[.int .i64 o,.int .i64 a,.int .i64 b,.int .i64 c,.int .i64 m] 143):=⟨_,rfl⟩
 have HW:=hideC hW
 rw [<- hW] at HB0 BX
 have hkin:=Q.kin_some W
 have hwl:=B.isLt BX.out
 have k0 : ∀ x : Q.Kin W.heap.size W,x.world.cell? ⟨w.heap.size,0,none⟩ = some (.int .i64 o):=fun x=>by rw [Q.cell_kin x _ _ hwl];exact B.cell BX.out 0 rfl
 have k1 : ∀ x : Q.Kin W.heap.size W,x.world.cell? ⟨w.heap.size,1,none⟩ = some (.int .i64 a):=fun x=>by rw [Q.cell_kin x _ _ hwl];exact B.cell BX.out 1 rfl
 have k2 : ∀ x : Q.Kin W.heap.size W,x.world.cell? ⟨w.heap.size,2,none⟩ = some (.int .i64 b):=fun x=>by rw [Q.cell_kin x _ _ hwl];exact B.cell BX.out 2 rfl
 have k3 : ∀ x : Q.Kin W.heap.size W,x.world.cell? ⟨w.heap.size,3,none⟩ = some (.int .i64 c):=fun x=>by rw [Q.cell_kin x _ _ hwl];exact B.cell BX.out 3 rfl
 have k4 : ∀ x : Q.Kin W.heap.size W,x.world.cell? ⟨w.heap.size,4,none⟩ = some (.int .i64 m):=fun x=>by rw [Q.cell_kin x _ _ hwl];exact B.cell BX.out 4 rfl
 have HA : Hid (∀ n V,Calls Tryz.prog 138 #[.int .i64 n,.int .i64 1] V fun e w'=>e = .returned (.string (PM.le 1 n)) /\ Below V.heap.size V w'):=fun n U=>CW.bytes_any n 1 U (by omega)
 have HM : Hid (∀ V,Calls Tryz.prog 138 #[.int .i64 m,.int .i64 4] V fun e w'=>e = .returned (.string (PM.le 4 m)) /\ Below V.heap.size V w'):=fun U=>CW.bytes_any m 4 U (by omega)
 have s1:=PM.le_size 1 o
 have s2:=PM.le_size 1 a
 have s3:=PM.le_size 1 b
 have s4:=PM.le_size 1 c
 have s5:=PM.le_size 4 m
 have t1 : (PM.le 1 o ++ PM.le 1 a).size = 2:=by rw [ByteArray.size_append,s1,s2]
 have t2 : (PM.le 1 o ++ PM.le 1 a ++ PM.le 1 b).size = 3:=by rw [ByteArray.size_append,t1,s3]
 have t3 : (PM.le 1 o ++ PM.le 1 a ++ PM.le 1 b ++ PM.le 1 c).size = 4:=by rw [ByteArray.size_append,t2,s4]
 clear hW
 go_enter Tryz.func94,Tryz.ntmps94
 go_wp2
 rw [<- HW.out]
 refine Q.region_kin (by kernel_rfl) (by kernel_rfl) ?_
 repeat (first | go_big_quiet_step ((go_at_call 138;first | with_reducible exact Q.calls_kin (HA.out _) _ | with_reducible exact Q.calls_kin HM.out _)) | quiet_step ((go_at_call 138;first | with_reducible exact Q.calls_kin (HA.out _) _ | with_reducible exact Q.calls_kin HM.out _)))
 refine wpQuiet_nil ?_
 intro _ hw'
 obtain ⟨x,hw''⟩:=hw'
 subst hw''
 go_wp2
 go_ret
 exact ⟨rfl,HB0.out.trans (x.keeps.mono HB0.out.size)⟩
end PW
namespace W
open Go.RowKit
set_option maxHeartbeats 1000000 in
theorem syms0 (nm : ByteArray) (an ag ay ar : Option Addr) (cn gl cg cy cr : Nat) (en : Int) (w : World) : Calls Tryz.prog 181 #[.agg #[.string nm,.slice an 0 cn,.slice ag gl cg,.slice ay 0 cy,.slice ar 0 cr,.int .i64 en]] w fun e w'=>e = .returned (.bool true) /\ Below w.heap.size w w':=by
 have HB:=hideC ((Below.refl w.heap.size w).alloc (Nat.le_refl _) (.cells #[.string nm,.slice an 0 cn,.slice ag gl cg,.slice ay 0 cy,.slice ar 0 cr,.int .i64 en] 151))
 go_enter Tryz.func181,Tryz.ntmps181
 go_wp2
 go_loopw [10] (fun iv wr=>iv = .int .i64 0 /\ Below w.heap.size w wr) (fun _ _=>0)
 case atStart=>exact ⟨rfl,HB.out⟩
 case round =>
  obtain ⟨rfl,hb⟩:=hrel
  have HB2:=hideC hb
  clear hb
  go_wp2
  go_ret
  exact ⟨rfl,HB2.out⟩
set_option maxHeartbeats 1000000 in
theorem rels0 (nm : ByteArray) (an ag ay ar : Option Addr) (cn gl cg cy cr : Nat) (en : Int) (w : World) : Calls Tryz.prog 182 #[.agg #[.string nm,.slice an 0 cn,.slice ag gl cg,.slice ay 0 cy,.slice ar 0 cr,.int .i64 en]] w fun e w'=>e = .returned (.bool true) /\ Below w.heap.size w w':=by
 have HB:=hideC ((Below.refl w.heap.size w).alloc (Nat.le_refl _) (.cells #[.string nm,.slice an 0 cn,.slice ag gl cg,.slice ay 0 cy,.slice ar 0 cr,.int .i64 en] 151))
 go_enter Tryz.func182,Tryz.ntmps182
 go_wp2
 go_loopw [11] (fun iv wr=>iv = .int .i64 0 /\ Below w.heap.size w wr) (fun _ _=>0)
 case atStart=>exact ⟨rfl,HB.out⟩
 case round =>
  obtain ⟨rfl,hb⟩:=hrel
  have HB2:=hideC hb
  clear hb
  go_wp2
  go_ret
  exact ⟨rfl,HB2.out⟩
set_option maxHeartbeats 1000000 in
theorem symNames0 (ay : Option Addr) (cy : Nat) (w : World) : Calls Tryz.prog 180 #[.slice ay 0 cy] w fun e w'=>e = .returned (.slice none 0 0) /\ Below w.heap.size w w':=by
 go_enter Tryz.func180,Tryz.ntmps180
 go_wp2
 go_loopw [3,8] (fun sv iv wr=>sv = .slice none 0 0 /\ iv = .int .i64 0 /\ Below w.heap.size w wr) (fun _ _ _=>0)
 case atStart=>exact ⟨rfl,rfl,Below.refl _ _⟩
 case round =>
  obtain ⟨rfl,rfl,hb⟩:=hrel
  have HB2:=hideC hb
  clear hb
  go_wp2
  go_ret
  exact ⟨rfl,HB2.out⟩
set_option maxHeartbeats 2000000 in
theorem names0 (nm : ByteArray) (an ag ay ar : Option Addr) (cn gl cg cy cr : Nat) (en : Int) (w : World) (hn : ∀ V,Calls Tryz.prog 198 #[.string nm] V fun e w'=>e = .returned (.bool true) /\ Below V.heap.size V w') : Calls Tryz.prog 175 #[.agg #[.string nm,.slice an 0 cn,.slice ag gl cg,.slice ay 0 cy,.slice ar 0 cr,.int .i64 en]] w fun e w'=>e = .returned (.bool true) /\ Below w.heap.size w w':=by
 have HN:=hideC hn
 clear hn
 have HB:=hideC ((Below.refl w.heap.size w).alloc (Nat.le_refl _) (.cells #[.string nm,.slice an 0 cn,.slice ag gl cg,.slice ay 0 cy,.slice ar 0 cr,.int .i64 en] 151))
 have X0:=hideC (B.new w #[.string nm,.slice an 0 cn,.slice ag gl cg,.slice ay 0 cy,.slice ar 0 cr,.int .i64 en] 151)
 go_enter Tryz.func175,Tryz.ntmps175
 go_wp2_with (go_at_call 198;refine (HN.out _).mono ?_;rintro e w1 ⟨rfl,hb1⟩;have HB1:=hideC (HB.out.trans (hb1.mono HB.out.size));have X1:=hideC (B.below X0.out hb1 (B.isLt X0.out));have x1 : w1.cell? ⟨w.heap.size,1,none⟩ = some (.slice an 0 cn):=B.cell X1.out 1 rfl;clear hb1)
 go_loopw [16] (fun iv wr=>iv = .int .i64 0 /\ wr.heap[w.heap.size]? = some (.cells #[.string nm,.slice an 0 cn,.slice ag gl cg,.slice ay 0 cy,.slice ar 0 cr,.int .i64 en] 151 (0,0)) /\ Below w.heap.size w wr) (fun _ _=>0)
 case atStart=>exact ⟨rfl,X1.out,HB1.out⟩
 case round =>
  obtain ⟨rfl,hx,hb⟩:=hrel
  have HX:=hideC hx
  have HB2:=hideC hb
  have y3 : wr.cell? ⟨w.heap.size,3,none⟩ = some (.slice ay 0 cy):=B.cell hx 3 rfl
  clear hb hx HB1 X1 x1
  go_wp2
  clear y3
  go_loopw [27] (fun iv wi=>iv = .int .i64 0 /\ wi.heap[w.heap.size]? = some (.cells #[.string nm,.slice an 0 cn,.slice ag gl cg,.slice ay 0 cy,.slice ar 0 cr,.int .i64 en] 151 (0,0)) /\ Below w.heap.size w wi) (fun _ _=>0)
  case atStart=>exact ⟨rfl,HX.out,HB2.out⟩
  case round =>
   clear HX HB2
   obtain ⟨rfl,hx,hb⟩:=hrel
   have HX:=hideC hx
   have HB3:=hideC hb
   have y4 : wr.cell? ⟨w.heap.size,4,none⟩ = some (.slice ar 0 cr):=B.cell hx 4 rfl
   clear hb hx
   go_wp2
   clear y4
   go_loopw [39] (fun iv wi=>iv = .int .i64 0 /\ Below w.heap.size w wi) (fun _ _=>0)
   case atStart=>exact ⟨rfl,HB3.out⟩
   case round =>
    obtain ⟨rfl,hb⟩:=hrel
    have HB4:=hideC hb
    clear hb
    go_wp2
    go_ret
    exact ⟨rfl,HB4.out⟩
set_option maxHeartbeats 4000000 in
theorem check0 (nm : ByteArray) (gs : List M.Sg) (en : Int) (an ag ay ar : Option Addr) (cn cg cy cr : Nat) (w : World) (h : M.HasIm w ⟨an,cn,ag,cg,ay,cy,ar,cr⟩ ⟨nm,[],gs,[],[],en⟩) (hf : M.Fit ⟨nm,[],gs,[],[],en⟩) (h1 : M.nameB nm = true) (h2 : M.countsB ⟨nm,[],gs,[],[],en⟩ = true) (h3 : gs.all M.rangeB = true) (h4 : M.apartB gs = true) (h5 : M.entryB ⟨nm,[],gs,[],[],en⟩ = true) :
  Calls Tryz.prog 158 #[.agg #[.string nm,.slice an 0 cn,.slice ag gs.length cg,.slice ay 0 cy,.slice ar 0 cr,.int .i64 en]] w fun e w'=>e = .returned (.int .i64 0) /\ Below w.heap.size w w':=by
 have HIN : Hid (∀ V,Calls Tryz.prog 198 #[.string nm] V fun e w'=>e = .returned (.bool true) /\ Below V.heap.size V w'):=fun V=>(isName_any nm V hf.name).mono fun e w' ⟨e1,e2⟩=>⟨by rw [e1,h1],by rw [<- e2];exact Below.refl _ _⟩
 have HNM:=hideC (fun V=>names0 nm an ag ay ar cn gs.length cg cy cr en V HIN.out)
 have HCN : Hid (∀ V,Calls Tryz.prog 176 #[.agg #[.string nm,.slice an 0 cn,.slice ag gs.length cg,.slice ay 0 cy,.slice ar 0 cr,.int .i64 en]] V fun e w'=>e = .returned (.bool true) /\ Below V.heap.size V w'):=fun V=>(rightCounts_any ⟨nm,[],gs,[],[],en⟩ ⟨an,cn,ag,cg,ay,cy,ar,cr⟩ V hf).mono fun e w' ⟨e1,e2⟩=>⟨by rw [e1,h2],e2⟩
 have HRG : Hid (∀ V,Below w.heap.size w V -> Calls Tryz.prog 177 #[.slice ag gs.length cg] V fun e w'=>e = .returned (.bool true) /\ Below V.heap.size V w'):=fun V hV=>(rightRanges_any gs ag cg V (h.below hV).segs hf.segs hf.seg).mono fun e w' ⟨e1,e2⟩=>⟨by rw [e1,h3],e2⟩
 have HOV : Hid (∀ V,Below w.heap.size w V -> Calls Tryz.prog 178 #[.slice ag gs.length cg] V fun e w'=>e = .returned (.bool false) /\ Below V.heap.size V w'):=fun V hV=>(overlap_any gs ag cg V (h.below hV).segs hf.segs h3).mono fun e w' ⟨e1,e2⟩=>⟨by rw [e1,h4];rfl,e2⟩
 have HTW : Hid (∀ ao c V,Calls Tryz.prog 179 #[.slice ao 0 c] V fun e w'=>e = .returned (.bool false) /\ Below V.heap.size V w'):=fun ao c V=>(twice_any [] ao c V (fun h=>absurd h (Nat.not_lt_zero _)) (Nat.zero_le _) (fun k hk=>absurd hk (Nat.not_lt_zero _))).mono fun e w' ⟨e1,e2⟩=>⟨by rw [e1];rfl,e2⟩
 have HSN:=hideC (fun V=>symNames0 ay cy V)
 have HSY:=hideC (fun V=>syms0 nm an ag ay ar cn gs.length cg cy cr en V)
 have HRL:=hideC (fun V=>rels0 nm an ag ay ar cn gs.length cg cy cr en V)
 have HEN : Hid (∀ V,Below w.heap.size w V -> Calls Tryz.prog 183 #[.agg #[.string nm,.slice an 0 cn,.slice ag gs.length cg,.slice ay 0 cy,.slice ar 0 cr,.int .i64 en]] V fun e w'=>e = .returned (.bool true) /\ Below V.heap.size V w'):=fun V hV=>(entryPlaced_any ⟨nm,[],gs,[],[],en⟩ ⟨an,cn,ag,cg,ay,cy,ar,cr⟩ V (h.below hV) hf h3).mono fun e w' ⟨e1,e2⟩=>⟨by rw [e1,h5],e2⟩
 obtain ⟨gl,hgl⟩ : ∃ gl,gl = gs.length:=⟨_,rfl⟩
 rw [<- hgl] at HNM HCN HRG HOV HSY HRL HEN ⊢
 clear h hf h1 h2 h3 h4 h5 hgl HIN
 have HB:=hideC ((Below.refl w.heap.size w).alloc (Nat.le_refl _) (.cells #[.string nm,.slice an 0 cn,.slice ag gl cg,.slice ay 0 cy,.slice ar 0 cr,.int .i64 en] 151))
 have X:=hideC (B.new w #[.string nm,.slice an 0 cn,.slice ag gl cg,.slice ay 0 cy,.slice ar 0 cr,.int .i64 en] 151)
 go_enter Tryz.func158,Tryz.ntmps158
 go_wp2_with (first
  | (go_at_call 175;refine (HNM.out _).mono ?_;rintro e w1 ⟨rfl,hb⟩;have HB1:=hideC (HB.out.trans (hb.mono HB.out.size));have X1:=hideC (B.below X.out hb (B.isLt X.out));clear hb;have k10 : w1.cell? ⟨w.heap.size,0,none⟩ = some (.string nm):=B.cell X1.out 0 rfl;have k11 : w1.cell? ⟨w.heap.size,1,none⟩ = some (.slice an 0 cn):=B.cell X1.out 1 rfl;have k12 : w1.cell? ⟨w.heap.size,2,none⟩ = some (.slice ag gl cg):=B.cell X1.out 2 rfl;have k13 : w1.cell? ⟨w.heap.size,3,none⟩ = some (.slice ay 0 cy):=B.cell X1.out 3 rfl;have k14 : w1.cell? ⟨w.heap.size,4,none⟩ = some (.slice ar 0 cr):=B.cell X1.out 4 rfl;have k15 : w1.cell? ⟨w.heap.size,5,none⟩ = some (.int .i64 en):=B.cell X1.out 5 rfl)
  | (go_at_call 176;refine (HCN.out _).mono ?_;rintro e w2 ⟨rfl,hb⟩;have HB2:=hideC (HB1.out.trans (hb.mono HB1.out.size));have X2:=hideC (B.below X1.out hb (B.isLt X1.out));clear hb;have k22 : w2.cell? ⟨w.heap.size,2,none⟩ = some (.slice ag gl cg):=B.cell X2.out 2 rfl)
  | (go_at_call 177;refine (HRG.out _ HB2.out).mono ?_;rintro e w3 ⟨rfl,hb⟩;have HB3:=hideC (HB2.out.trans (hb.mono HB2.out.size));have X3:=hideC (B.below X2.out hb (B.isLt X2.out));clear hb;have k32 : w3.cell? ⟨w.heap.size,2,none⟩ = some (.slice ag gl cg):=B.cell X3.out 2 rfl)
  | (go_at_call 178;refine (HOV.out _ HB3.out).mono ?_;rintro e w4 ⟨rfl,hb⟩;have HB4:=hideC (HB3.out.trans (hb.mono HB3.out.size));have X4:=hideC (B.below X3.out hb (B.isLt X3.out));clear hb;have k41 : w4.cell? ⟨w.heap.size,1,none⟩ = some (.slice an 0 cn):=B.cell X4.out 1 rfl)
  | (have _:=X6;go_at_call 179;refine (HTW.out _ _ _).mono ?_;rintro e w7 ⟨rfl,hb⟩;have HB7:=hideC (HB6.out.trans (hb.mono HB6.out.size));have X7:=hideC (B.below X6.out hb (B.isLt X6.out));clear hb;have k70 : w7.cell? ⟨w.heap.size,0,none⟩ = some (.string nm):=B.cell X7.out 0 rfl;have k71 : w7.cell? ⟨w.heap.size,1,none⟩ = some (.slice an 0 cn):=B.cell X7.out 1 rfl;have k72 : w7.cell? ⟨w.heap.size,2,none⟩ = some (.slice ag gl cg):=B.cell X7.out 2 rfl;have k73 : w7.cell? ⟨w.heap.size,3,none⟩ = some (.slice ay 0 cy):=B.cell X7.out 3 rfl;have k74 : w7.cell? ⟨w.heap.size,4,none⟩ = some (.slice ar 0 cr):=B.cell X7.out 4 rfl;have k75 : w7.cell? ⟨w.heap.size,5,none⟩ = some (.int .i64 en):=B.cell X7.out 5 rfl)
  | (go_at_call 179;refine (HTW.out _ _ _).mono ?_;rintro e w5 ⟨rfl,hb⟩;have HB5:=hideC (HB4.out.trans (hb.mono HB4.out.size));have X5:=hideC (B.below X4.out hb (B.isLt X4.out));clear hb;have k53 : w5.cell? ⟨w.heap.size,3,none⟩ = some (.slice ay 0 cy):=B.cell X5.out 3 rfl)
  | (go_at_call 180;refine (HSN.out _).mono ?_;rintro e w6 ⟨rfl,hb⟩;have HB6:=hideC (HB5.out.trans (hb.mono HB5.out.size));have X6:=hideC (B.below X5.out hb (B.isLt X5.out));clear hb)
  | (go_at_call 181;refine (HSY.out _).mono ?_;rintro e w8 ⟨rfl,hb⟩;have HB8:=hideC (HB7.out.trans (hb.mono HB7.out.size));have X8:=hideC (B.below X7.out hb (B.isLt X7.out));clear hb;have k80 : w8.cell? ⟨w.heap.size,0,none⟩ = some (.string nm):=B.cell X8.out 0 rfl;have k81 : w8.cell? ⟨w.heap.size,1,none⟩ = some (.slice an 0 cn):=B.cell X8.out 1 rfl;have k82 : w8.cell? ⟨w.heap.size,2,none⟩ = some (.slice ag gl cg):=B.cell X8.out 2 rfl;have k83 : w8.cell? ⟨w.heap.size,3,none⟩ = some (.slice ay 0 cy):=B.cell X8.out 3 rfl;have k84 : w8.cell? ⟨w.heap.size,4,none⟩ = some (.slice ar 0 cr):=B.cell X8.out 4 rfl;have k85 : w8.cell? ⟨w.heap.size,5,none⟩ = some (.int .i64 en):=B.cell X8.out 5 rfl)
  | (go_at_call 182;refine (HRL.out _).mono ?_;rintro e w9 ⟨rfl,hb⟩;have HB9:=hideC (HB8.out.trans (hb.mono HB8.out.size));have X9:=hideC (B.below X8.out hb (B.isLt X8.out));clear hb;have k90 : w9.cell? ⟨w.heap.size,0,none⟩ = some (.string nm):=B.cell X9.out 0 rfl;have k91 : w9.cell? ⟨w.heap.size,1,none⟩ = some (.slice an 0 cn):=B.cell X9.out 1 rfl;have k92 : w9.cell? ⟨w.heap.size,2,none⟩ = some (.slice ag gl cg):=B.cell X9.out 2 rfl;have k93 : w9.cell? ⟨w.heap.size,3,none⟩ = some (.slice ay 0 cy):=B.cell X9.out 3 rfl;have k94 : w9.cell? ⟨w.heap.size,4,none⟩ = some (.slice ar 0 cr):=B.cell X9.out 4 rfl;have k95 : w9.cell? ⟨w.heap.size,5,none⟩ = some (.int .i64 en):=B.cell X9.out 5 rfl)
  | (go_at_call 183;refine (HEN.out _ HB9.out).mono ?_;rintro e w10 ⟨rfl,hb⟩;have HB10:=hideC (HB9.out.trans (hb.mono HB9.out.size));have X10:=hideC (B.below X9.out hb (B.isLt X9.out));clear hb))
 go_ret
 exact ⟨rfl,HB10.out⟩
end W
namespace LW
open Go.RowKit
open W (hideC)
def OutPt (R : Option (List LM.Pt)) (w : World) (e : Ending) (w' : World) : Prop:=Below w.heap.size w w' /\ match R with
 | none=>e = .returned (.tuple #[.slice none 0 0,.bool false])
 | some ps=>∃ v,e = .returned (.tuple #[v,.bool true]) /\ w'.ownsRow w.heap.size 259 2 v ps.length (ps.flatMap LM.cellP)
theorem infoSh : (Tryz.prog.info? 50).map (fun i=>(i.zero,i.size,i.bytes)) = some (some (.agg #[.int .i64 0,.string ⟨#[]⟩,.slice none 0 0]),3,48):=by kernel_rfl
structure Rs (lo : Nat) (w : World) (v : Value) (hs : List LM.Sh) : Prop where
 row : w.ownsRow lo 50 3 v hs.length (hs.flatMap LM.cellH)
 fix : LM.AllF v.ownBlock w hs
theorem Rs.below {lo : Nat} {w w' : World} {v : Value} {hs : List LM.Sh} (h : Rs lo w v hs) (hb : Below w.heap.size w w') : Rs lo w' v hs:=⟨row_grown h.row hb,fun k hk=>(h.fix k hk).below hb⟩
theorem Rs.nil (lo : Nat) (w : World) : Rs lo w (.slice none 0 0) []:=⟨World.ownsRow_nil _ _ _ _,fun k hk=>by simp at hk⟩
theorem Rs.has {lo : Nat} {w : World} {v : Value} {hs : List LM.Sh} (h : Rs lo w v hs) : ∃ ao cap,v = .slice ao hs.length cap /\ LM.HasH w ao hs /\ hs.length <= cap:=by
 have hr:=h.row
 rcases hr.2 with ⟨hv,h0⟩ | ⟨g,cap,cur,hv,hbg,hg,hnc,hcm,hcs,htake⟩
 · exact ⟨none,0,by rw [hv,h0],fun hl=>by omega,by omega⟩
 · rw [hv] at hr
   refine ⟨some ⟨g,0,none⟩,cap,hv,fun _=>⟨g,0,rfl,B.isLt hg,fun k hk=>?_⟩,hnc⟩
   rw [Nat.zero_add]
   have hh : ∀ j,j < 3 -> w.cell? ⟨g,k * 3 + j,none⟩ = (LM.cellH (LM.shAt hs k))[j]?:=fun j hj=>(hr.cellAt _ (by omega)).trans (flat_get LM.cellH 3 (fun _=>rfl) LM.sh0 hs k j hk hj)
   exact ⟨hh 0 (by omega),hh 1 (by omega),hh 2 (by omega),(h.fix k hk).has⟩
theorem row_fx {w : World} {base : Nat} {v : Value} {l : List LM.Fx} (h : w.ownsRow base 52 2 v l.length (l.flatMap LM.cellF)) (rb : Option Nat) (hrb : ∀ q,rb = some q -> q < base) : ∃ ao cap,v = .slice ao l.length cap /\ LM.HasFN rb w ao l:=by
 rcases h.2 with ⟨hv,h0⟩ | ⟨g,cap,cur,hv,hbg,hg,hnc,hcm,hcs,htake⟩
 · exact ⟨none,0,by rw [hv,h0],fun hl=>by omega⟩
 · subst hv
   refine ⟨some ⟨g,0,none⟩,cap,rfl,fun hl=>⟨g,0,rfl,B.isLt hg,fun e=>by have:=hrb g e.symm;omega,fun k hk=>?_⟩⟩
   rw [Nat.zero_add]
   have hh : ∀ j,j < 2 -> w.cell? ⟨g,k * 2 + j,none⟩ = (LM.cellF (LM.fxAt l k))[j]?:=fun j hj=>(h.cellAt _ (by omega)).trans (flat_get LM.cellF 2 (fun _=>rfl) LM.fx0 l k j hk hj)
   exact ⟨hh 0 (by omega),hh 1 (by omega)⟩
theorem Rs.more {lo : Nat} {w w' : World} {v : Value} {hs : List LM.Sh} {x : LM.Sh} {g cap : Nat} (h : LM.AllF v.ownBlock w hs) (hx : LM.HasFN v.ownBlock w x.ao x.fixes) (hown : w'.ownsRow lo 50 3 (.slice (some ⟨g,0,none⟩) (hs.length + 1) cap) (hs.length + 1) (hs.flatMap LM.cellH ++ LM.cellH x)) (hg : w.grownBy w' v.ownBlock) (hs' : w.heap.size <= w'.heap.size) (hat : v.ownBlock = some g ∨ g = w.heap.size) :
  Rs lo w' (.slice (some ⟨g,0,none⟩) (hs.length + 1) cap) (hs ++ [x]):=by
 refine ⟨by rw [List.length_append,List.flatMap_append];simpa using hown,fun k hk=>?_⟩
 have e : (Value.slice (some ⟨g,0,none⟩) (hs.length + 1) cap).ownBlock = some g:=rfl
 rw [e]
 rw [List.length_append] at hk
 by_cases hkl : k < hs.length
 · rw [LM.shAt_left hs x k hkl]
   exact (h k hkl).grown hg hs' hat
 · obtain rfl : k = hs.length:=by simp at hk;omega
   rw [LM.shAt_last]
   exact hx.grown hg hs' hat
def OutSh (R : Option (List LM.Sp)) (w : World) (e : Ending) (w' : World) : Prop:=Below w.heap.size w w' /\ match R with
 | none=>e = .returned (.tuple #[.slice none 0 0,.bool false])
 | some E=>∃ (hs : List LM.Sh) (ao : Option Addr) (cap : Nat),hs.map LM.plain = E /\ e = .returned (.tuple #[.slice ao hs.length cap,.bool true]) /\ LM.HasH w' ao hs /\ hs.length <= cap
structure Fr (w : World) (r : Option Nat) (w' : World) (r' : Option Nat) : Prop where
 size : w.heap.size <= w'.heap.size
 block : ∀ b,b < w.heap.size -> some b ≠ r -> w'.heap[b]? = w.heap[b]?
 row : r' = r ∨ ∃ g,r' = some g /\ w.heap.size <= g
theorem Fr.refl (w : World) (r : Option Nat) : Fr w r w r:=⟨Nat.le_refl _,fun _ _ _=>rfl,.inl rfl⟩
theorem Fr.trans {w w1 w2 : World} {r r1 r2 : Option Nat} (h : Fr w r w1 r1) (g : Fr w1 r1 w2 r2) : Fr w r w2 r2:=by
 have hs:=h.size
 refine ⟨Nat.le_trans h.size g.size,fun b hb hr=>?_,?_⟩
 · rw [g.block b (by omega) (fun e=>?_),h.block b hb hr]
   rcases h.row with e1 | ⟨x,e1,e2⟩
   · exact hr (by rw [e,e1])
   · rw [e1] at e
     injection e with e
     omega
 · rcases g.row with e | ⟨x,e1,e2⟩
   · rw [e]
     exact h.row
   · exact .inr ⟨x,e1,by omega⟩
theorem Fr.ofBelow {w w' : World} (h : Below w.heap.size w w') (r : Option Nat) : Fr w r w' r:=⟨h.size,fun b hb _=>h.block b hb,.inl rfl⟩
theorem Fr.ofGrown {w w' : World} {r : Option Nat} {g : Nat} (h : w.grownBy w' r) (hs : w.heap.size <= w'.heap.size) (hat : r = some g ∨ g = w.heap.size) : Fr w r w' (some g) :=
 ⟨hs,fun b hb hr=>h.block b hb hr,by
  rcases hat with e | e
  · exact .inl e.symm
  · exact .inr ⟨g,rfl,by omega⟩⟩
theorem Fr.keep {w w' : World} {r r' : Option Nat} {b : Nat} {o : Obj} (h : Fr w r w' r') (hb : w.heap[b]? = some o) (hr : some b ≠ r) : w'.heap[b]? = some o:=(h.block b (B.isLt hb) hr).trans hb
def HasPN (rb : Option Nat) (w : World) (ao : Option Addr) (l : List LM.Pt) : Prop:=0 < l.length -> ∃ b off,ao = some ⟨b,off,none⟩ /\ b < w.heap.size /\ some b ≠ rb /\ LM.LieP w b off l
theorem HasPN.fr {rb rb' : Option Nat} {w w' : World} {ao : Option Addr} {l : List LM.Pt} (h : HasPN rb w ao l) (hf : Fr w rb w' rb') : LM.HasP w' ao l:=fun hl=>by
 obtain ⟨b,off,h1,h2,h3,h4⟩:=h hl
 exact ⟨b,off,h1,Nat.lt_of_lt_of_le h2 hf.size,fun i hi=>by
  obtain ⟨c0,c1⟩:=h4 i hi
  exact ⟨(World.cell?_of_block (hf.block b h2 h3)).trans c0,(World.cell?_of_block (hf.block b h2 h3)).trans c1⟩⟩
theorem row_ptN {w : World} {base : Nat} {v : Value} {l : List LM.Pt} (h : w.ownsRow base 259 2 v l.length (l.flatMap LM.cellP)) (rb : Option Nat) (hrb : ∀ q,rb = some q -> q < base) : ∃ ao cap,v = .slice ao l.length cap /\ HasPN rb w ao l:=by
 rcases h.2 with ⟨hv,h0⟩ | ⟨g,cap,cur,hv,hbg,hg,hnc,hcm,hcs,htake⟩
 · exact ⟨none,0,by rw [hv,h0],fun hl=>by omega⟩
 · subst hv
   refine ⟨some ⟨g,0,none⟩,cap,rfl,fun hl=>⟨g,0,rfl,B.isLt hg,fun e=>by have:=hrb g e.symm;omega,fun k hk=>?_⟩⟩
   rw [Nat.zero_add]
   have hh : ∀ j,j < 2 -> w.cell? ⟨g,k * 2 + j,none⟩ = (LM.cellP (LM.ptAt l k))[j]?:=fun j hj=>(h.cellAt _ (by omega)).trans (flat_get LM.cellP 2 (fun _=>rfl) LM.pt0 l k j hk hj)
   exact ⟨hh 0 (by omega),hh 1 (by omega)⟩
end LW
end Go.Proofs.YtpgifpeohlllfaaGreat
