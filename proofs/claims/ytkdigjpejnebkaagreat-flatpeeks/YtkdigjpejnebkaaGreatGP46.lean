import Derived.Test.YtkdigjpejnebkaaGreatGP45
import Derived.Deep.RegionHeld3
import Derived.Test.YtkdigjpejnebkaaGreatGP25
import Derived.Deep.Upon
set_option linter.unusedVariables false
set_option maxRecDepth 100000
set_option linter.unusedSimpArgs false
namespace Go.Proofs.YtkdigjpejnebkaaGreat
namespace LW
open Go.RowKit
open W (hideC)
theorem own_below {lo : Nat} {w w' : World} {v : Value} {l : List AM.Ar} (h : AW.Own lo w v l) (hb : Below w.heap.size w w') : AW.Own lo w' v l := row_grown h hb
theorem own_slice {lo : Nat} {w : World} {v : Value} {l : List AM.Ar} (h : AW.Own lo w v l) : ∃ ao cap,v = .slice ao l.length cap /\ (0 < l.length -> ∃ g,ao = some ⟨g,0,none⟩) := by
 rcases h.2 with ⟨hv,h0⟩ | ⟨g,cap,cur,hv,_⟩
 · exact ⟨none,0,by rw [hv,h0],fun hl => by omega⟩
 · exact ⟨_,cap,hv,fun _ => ⟨g,rfl⟩⟩
set_option maxHeartbeats 6000000 in
theorem areasOf_any (l : List LM.Ob) (ao : Option Addr) (cap : Nat) (w : World) (h : Oi l ao w) (hl7 : l.length <= 7) :
  Calls Tryz.prog 103 #[.slice ao l.length cap] w fun e w' => ∃ r,e = .returned r /\ AW.Own w.heap.size w' r (LM.areasN l) /\ Below w.heap.size w w' := by
 have HO := hideC h
 clear h
 go_enter Tryz.func103,Tryz.ntmps103
 go_wp2
 go_loopw [11,3] (fun i v wr => ∃ (a : Nat),a <= l.length /\ i = .int .i64 a /\ AW.Own w.heap.size wr v (LM.aob l a) /\ Below w.heap.size w wr) (fun i _ _ => l.length - (intOf i).toNat)
 case atStart => exact ⟨0,by omega,rfl,AW.Own.nil _ _,Below.refl _ _⟩
 case round =>
  obtain ⟨a,hal,rfl,hown,hb⟩ := hrel
  have HOW := hideC hown
  have HBr := hideC hb
  by_cases hlt : a < l.length
  · have HOr := hideC (HO.out.below hb)
    obtain ⟨b,off,hao,hbl,hlie⟩ := HOr.out.has (by omega)
    obtain ⟨⟨c0,c1,c2,c3,c4,c5,c6⟩,him⟩ := hlie a hlt
    have hbs := HO.out.base a hlt
    have hck := HO.out.chk a hlt
    obtain ⟨b2,off2,hao2,hbl2,hlie2⟩ := HO.out.has (by omega)
    have him2 := (hlie2 a hlt).2
    have HNX : Hid (LM.aob l (a + 1) = LM.asg (LM.obAt l a) (LM.aob l a) (LM.obAt l a).i.segs.length) := rfl
    obtain ⟨o,ho⟩ : ∃ o,o = LM.obAt l a := ⟨_,rfl⟩
    rw [<- ho] at c0 c1 c2 c3 c4 c5 c6 him2 hbs hck HNX
    have HFA := hideC (LM.fit_aob l a)
    obtain ⟨L,hL⟩ : ∃ L,L = LM.aob l a := ⟨_,rfl⟩
    rw [<- hL] at HOW HNX HFA
    have hcn := LM.counts_of hck
    have HSB := hideC (LM.seg_bounds hck)
    obtain ⟨bs,offs,hag,hbls,hlg⟩ := him2.segs (by omega)
    have HLG := hideC hlg
    rw [hag] at c2
    clear ho hL hlie hb hown him hlg hag him2 hlie2 hao2 hbl2 hck
    subst hao
    have HBA := hideC (HBr.out.alloc HBr.out.size (.cells #[.string o.i.name,.slice o.a.an o.i.needs.length o.a.cn,.slice (some ⟨bs,offs,none⟩) o.i.segs.length o.a.cg,.slice o.a.ay o.i.syms.length o.a.cy,.slice o.a.ar o.i.rels.length o.a.cr,.int .i64 o.i.entry,.int .i64 o.base] 178))
    have HRA := hideC ((Below.refl wr.heap.size wr).alloc (Nat.le_refl _) (.cells #[.string o.i.name,.slice o.a.an o.i.needs.length o.a.cn,.slice (some ⟨bs,offs,none⟩) o.i.segs.length o.a.cg,.slice o.a.ay o.i.syms.length o.a.cy,.slice o.a.ar o.i.rels.length o.a.cr,.int .i64 o.i.entry,.int .i64 o.base] 178))
    have BO := hideC (B.new wr #[.string o.i.name,.slice o.a.an o.i.needs.length o.a.cn,.slice (some ⟨bs,offs,none⟩) o.i.segs.length o.a.cg,.slice o.a.ay o.i.syms.length o.a.cy,.slice o.a.ar o.i.rels.length o.a.cr,.int .i64 o.i.entry,.int .i64 o.base] 178)
    have HOA := hideC (own_below HOW.out HRA.out)
    go_wp2
    obtain ⟨W1,hW1⟩ : ∃ W1,W1 = wr.alloc (.cells #[.string o.i.name,.slice o.a.an o.i.needs.length o.a.cn,.slice (some ⟨bs,offs,none⟩) o.i.segs.length o.a.cg,.slice o.a.ay o.i.syms.length o.a.cy,.slice o.a.ar o.i.rels.length o.a.cr,.int .i64 o.i.entry,.int .i64 o.base] 178) := ⟨_,rfl⟩
    rw [<- hW1] at HBA HRA BO HOA
    rw [<- hW1]
    obtain ⟨ob,hob⟩ : ∃ ob,ob = wr.heap.size := ⟨_,rfl⟩
    rw [<- hob] at BO
    rw [<- hob]
    clear hW1 hob HRA HOW HBr HOr c0 c1 c2 c3 c4 c5 c6 hbl
    go_loopw [19,3] (fun i v wm => ∃ (k : Nat),k <= o.i.segs.length /\ i = .int .i64 k /\ AW.Own w.heap.size wm v (LM.asg o L k) /\ Below w.heap.size w wm /\ Below W1.heap.size W1 wm) (fun i _ _ => o.i.segs.length - (intOf i).toNat)
    case atStart => exact ⟨0,by omega,rfl,HOA.out,HBA.out,Below.refl _ _⟩
    case round =>
     obtain ⟨k,hk,rfl,hown,hb,hb1⟩ := hrel
     have HOW := hideC hown
     have HBm := hideC hb
     have HB1 := hideC hb1
     clear HOA HBA
     by_cases hlk : k < o.i.segs.length
     · obtain ⟨c0,c1,c2,c3,c4⟩ := M.lieG hb hbls HLG.out k hlk
       have hsb := HSB.out k hlk
       have hbls' : bs < wr.heap.size := Nat.lt_of_lt_of_le hbls hb.size
       have HFK := hideC (LM.fit_asg o L HFA.out k)
       have HKX : Hid (LM.asg o L (k + 1) = LM.mapSeg o (LM.asg o L k) (M.sgAt o.i.segs k)) := rfl
       obtain ⟨s,hse⟩ : ∃ s,s = M.sgAt o.i.segs k := ⟨_,rfl⟩
       rw [<- hse] at c0 c1 c2 c3 c4 hsb HKX
       clear hse
       obtain ⟨L2,hL2⟩ : ∃ L2,L2 = LM.asg o L k := ⟨_,rfl⟩
       rw [<- hL2] at HOW HFK HKX
       clear hL2
       obtain ⟨pg,pn,dt,wb,ex⟩ := s
       simp only at c0 c1 c2 c3 c4 hsb
       have HBA := hideC (HBm.out.alloc HBm.out.size (.cells #[.int .i64 pg,.int .i64 pn,.string dt,.bool wb,.bool ex] 129))
       have HRA := hideC ((Below.refl wr.heap.size wr).alloc (Nat.le_refl _) (.cells #[.int .i64 pg,.int .i64 pn,.string dt,.bool wb,.bool ex] 129))
       have BS := hideC (B.new wr #[.int .i64 pg,.int .i64 pn,.string dt,.bool wb,.bool ex] 129)
       have BOA := hideC (B.alloc (B.below BO.out HB1.out (B.isLt BO.out)) (.cells #[.int .i64 pg,.int .i64 pn,.string dt,.bool wb,.bool ex] 129))
       have HB1A := hideC (HB1.out.alloc HB1.out.size (.cells #[.int .i64 pg,.int .i64 pn,.string dt,.bool wb,.bool ex] 129))
       have HOWA := hideC (own_below HOW.out HRA.out)
       clear hown hb hb1
       go_wp2
       obtain ⟨WA,hWA⟩ : ∃ WA,WA = wr.alloc (.cells #[.int .i64 pg,.int .i64 pn,.string dt,.bool wb,.bool ex] 129) := ⟨_,rfl⟩
       rw [<- hWA] at HBA BS BOA HB1A HOWA
       rw [<- hWA]
       obtain ⟨sb,hsbe⟩ : ∃ sb,sb = wr.heap.size := ⟨_,rfl⟩
       rw [<- hsbe] at BS
       rw [<- hsbe]
       clear hWA hsbe HRA HOW HBm HB1 c0 c1 c2 c3 c4 hbls'
       have HS : Hid (∀ V,Below WA.heap.size WA V -> V.cell? ⟨ob,6,none⟩ = some (.int .i64 o.base) /\ V.cell? ⟨sb,0,none⟩ = some (.int .i64 pg) /\ V.cell? ⟨sb,1,none⟩ = some (.int .i64 pn) /\ V.cell? ⟨sb,2,none⟩ = some (.string dt) /\ V.cell? ⟨sb,3,none⟩ = some (.bool wb) /\ V.cell? ⟨sb,4,none⟩ = some (.bool ex)) := fun V hb => by
        have h1 := B.below BOA.out hb (B.isLt BOA.out)
        have h2 := B.below BS.out hb (B.isLt BS.out)
        exact ⟨B.cell h1 6 rfl,B.cell h2 0 rfl,B.cell h2 1 rfl,B.cell h2 2 rfl,B.cell h2 3 rfl,B.cell h2 4 rfl⟩
       have HPR : Hid (∀ V,Calls Tryz.prog 122 #[.agg #[.int .i64 pg,.int .i64 pn,.string dt,.bool wb,.bool ex]] V fun e w' => e = .returned (.int .i64 (LM.protN ⟨pg,pn,dt,wb,ex⟩)) /\ Below V.heap.size V w') := fun V => prot_any ⟨pg,pn,dt,wb,ex⟩ V
       have HMP : Hid (∀ V,Below WA.heap.size WA V -> Calls Tryz.prog 121 #[u3,.int .i64 (o.base + pg),.int .i64 pn,.int .i64 (LM.protN ⟨pg,pn,dt,wb,ex⟩)] V fun e w' => ∃ r,e = .returned (.tuple #[r,.int .i64 (AW.mapN L2 (o.base + pg) pn (LM.protN ⟨pg,pn,dt,wb,ex⟩)).2]) /\ AW.Own V.heap.size w' r (AW.mapN L2 (o.base + pg) pn (LM.protN ⟨pg,pn,dt,wb,ex⟩)).1 /\ Below V.heap.size V w') := fun V hb => AW.map_own L2 u3 (o.base + pg) pn _ V (own_below HOWA.out hb).has HFK.out (by unfold AW.I64;omega) (by unfold AW.I64;omega)
       have HMS : Hid (LM.mapSeg o L2 ⟨pg,pn,dt,wb,ex⟩ = (AW.mapN L2 (o.base + pg) pn (LM.protN ⟨pg,pn,dt,wb,ex⟩)).1) := rfl
       obtain ⟨PR,hPR⟩ : ∃ PR,PR = LM.protN ⟨pg,pn,dt,wb,ex⟩ := ⟨_,rfl⟩
       rw [<- hPR] at HPR HMP HMS
       obtain ⟨MN,hMN⟩ : ∃ MN,MN = AW.mapN L2 (o.base + pg) pn PR := ⟨_,rfl⟩
       rw [<- hMN] at HMP HMS
       clear hPR hMN
       have hwr : IntKind.i64.wrap (o.base + pg) = o.base + pg := IntWalk.i64_in _ (by omega)
       have HK0 := hideC (Below.refl WA.heap.size WA).drew
       have HS0 := hideC (HS.out _ HK0.out)
       go_region_held3 (fun V => V.cell? ⟨ob,6,none⟩ = some (.int .i64 o.base) /\ V.cell? ⟨sb,0,none⟩ = some (.int .i64 pg) /\ V.cell? ⟨sb,1,none⟩ = some (.int .i64 pn) /\ V.cell? ⟨sb,2,none⟩ = some (.string dt) /\ V.cell? ⟨sb,3,none⟩ = some (.bool wb) /\ V.cell? ⟨sb,4,none⟩ = some (.bool ex)) (first | exact HS3.out | exact HS2.out | exact HS0.out)
        (first
         | (go_at_call 122;refine (HPR.out _).mono ?_;rintro e w2 ⟨rfl,hb⟩;have HK2 := hideC (HK0.out.trans (hb.mono HK0.out.size));have HS2 := hideC (HS.out _ HK2.out);clear hb)
         | (go_at_call 121;refine (HMP.out _ HK2.out).mono ?_;rintro e w3 ⟨v8,rfl,hrw,hb⟩;have HK3 := hideC (HK2.out.trans (hb.mono HK2.out.size));have HS3 := hideC (HS.out _ HK3.out);have HR3 := hideC hrw;clear hb hrw))
       go_wp2
       go_roundw
       case rel => exact ⟨k + 1,by omega,by go_num,by rw [HKX.out,HMS.out];exact HR3.out.mono (Nat.le_trans HBA.out.size HK2.out.size),HBA.out.trans (HK3.out.mono HBA.out.size),HB1A.out.trans (HK3.out.mono HB1A.out.size)⟩
       case measure => simp [intOf];omega
     · obtain rfl : k = o.i.segs.length := by omega
       clear hown hb hb1
       go_wp2
       go_roundw
       case rel => exact ⟨a + 1,by omega,by go_num,by rw [HNX.out];exact HOW.out,HBm.out⟩
       case measure => simp [intOf];omega
  · obtain rfl : a = l.length := by omega
    have HAN : Hid (LM.areasN l = LM.clrTo (LM.aob l l.length) (LM.aob l l.length).length) := (LM.clrTo_all _).symm
    have HFA := hideC (LM.fit_aob l l.length)
    obtain ⟨L,hL⟩ : ∃ L,L = LM.aob l l.length := ⟨_,rfl⟩
    rw [<- hL] at HOW HAN HFA
    have hll := HFA.out.2
    obtain ⟨ar,cr,hv,hg⟩ := own_slice HOW.out
    subst hv
    have HG := hideC hg
    clear hown hb hL hg HFA
    go_wp2
    go_loopw [41] (fun i wr => ∃ (k : Nat),k <= L.length /\ i = .int .i64 k /\ AW.Own w.heap.size wr (.slice ar L.length cr) (LM.clrTo L k) /\ Below w.heap.size w wr) (fun i _ => L.length - (intOf i).toNat)
    case atStart => exact ⟨0,by omega,rfl,HOW.out,HBr.out⟩
    case round =>
     obtain ⟨k,hk,rfl,hown,hb⟩ := hrel
     have HOW2 := hideC hown
     have HBr2 := hideC hb
     clear HOW HBr hown hb
     by_cases hlt : k < L.length
     · obtain ⟨g,hg⟩ := HG.out (by omega)
       subst hg
       have hln := LM.clrTo_length L k
       have HO4 : Hid (wr.ownsRow w.heap.size 59 4 (.slice (some ⟨g,0,none⟩) L.length cr) L.length (AM.areaCells (LM.clrTo L k))) := by
        have h := HOW2.out
        unfold AW.Own at h
        rw [hln] at h
        exact h
       have HST := hideC (HO4.out.stored (k * 4 + 3) (.bool false))
       have HNX : Hid (AM.areaCells (LM.clrTo L (k + 1)) = (AM.areaCells (LM.clrTo L k)).set (k * 4 + 3) (.bool false)) := (LM.areaCells_set false (LM.clrTo L k) k (by omega)).symm
       have hlx := LM.clrTo_length L (k + 1)
       have HLX := hideC hlx
       have hgl := HO4.out.lt g rfl
       have q3 := (HO4.out.cellAt (k * 4 + 3) (by omega)).trans (AM.areaCells_get (LM.clrTo L k) k 3 (by omega) (by omega))
       have qf := HO4.out.frozenAt (k * 4 + 3)
       clear hln hlx
       go_wp2
       go_roundw
       case rel => exact ⟨k + 1,by omega,by go_num,by unfold AW.Own;rw [HLX.out,HNX.out];exact HST.out.1,HBr2.out.setCell (by simp;omega) _⟩
       case measure => simp [intOf];omega
     · obtain rfl : k = L.length := by omega
       go_wp2
       go_ret
       exact ⟨_,rfl,by rw [HAN.out];exact HOW2.out,HBr2.out⟩
end LW
namespace LM
open Go.RowKit
def cellI (x : Li) : List Value := (M.cellsI x.a x.i).toList
def linkErr (all : List Li) : Int :=
 if 7 < all.length then 2
 else if byErr all = 0 then
  match gat all all.length 0 [0] with
  | none => 6
  | some ix => if 256 < endFrom all 1 ix then 3 else
   match sheetsN (obsFrom all 1 ix) with
   | none => 7
   | some _ => 0
 else byErr all
theorem byErr_zero {l : List Li} (h : byErr l = 0) : (∀ k,k < l.length -> M.chkN (liAt l k).i = 0) /\ M.onceB (namesL l) = true := by
 unfold byErr at h
 by_cases e : errTo l l.length = 0
 · rw [if_pos e] at h
   refine ⟨errTo_none l l.length e,?_⟩
   by_cases g : M.onceB (namesL l) = true
   · exact g
   · rw [if_neg g] at h
     cases h
 · rw [if_neg e] at h
   exact (e h).elim
theorem obs_base {all : List Li} (hc : ∀ j,j < all.length -> M.chkN (liAt all j).i = 0) (h7 : all.length <= 7) {ix : List Nat} (ho : OkIx all ix) (k : Nat) (hk : k < (obsFrom all 1 ix).length) : 1 <= (obAt (obsFrom all 1 ix) k).base /\ (obAt (obsFrom all 1 ix) k).base <= 2000 := by
 rw [obsFrom_length] at hk
 rw [(obsFrom_at all ix 1 k hk).2.2]
 have h := endFrom_bounds all hc (ix.take k) 1 (fun j hj => ho.lt j (List.mem_of_mem_take hj))
 have h2 := ho.le
 rw [List.length_take] at h
 omega
end LM
namespace LW
open Go.RowKit
open W (hideC)
theorem infoIm : (Tryz.prog.info? 135).map (fun i => (i.zero,i.size,i.bytes)) = some (some (.agg #[.string ⟨#[]⟩,.slice none 0 0,.slice none 0 0,.slice none 0 0,.slice none 0 0,.int .i64 0]),6,120) := by kernel_rfl
theorem lie_news {w : World} {b off : Nat} {l : List LM.Li} (h : LM.LieI w b off l) : ∀ j u,(l.flatMap LM.cellI)[j]? = some u -> w.cell? ((⟨b,off,none⟩ : Addr).add j) = some u := fun j u hj => by
 obtain ⟨k,r,hr,rfl⟩ : ∃ k r,r < 6 /\ j = k * 6 + r := ⟨j / 6,j % 6,by omega,by omega⟩
 have hlen : ∀ l : List LM.Li,(l.flatMap LM.cellI).length = l.length * 6 := fun l => by
  induction l with
  | nil => rfl
  | cons a r ih => rw [List.flatMap_cons,List.length_append,ih,List.length_cons];show 6 + _ = _;omega
 have hk : k < l.length := by
  obtain ⟨hlt,_⟩ := List.getElem?_eq_some_iff.1 hj
  rw [hlen] at hlt
  omega
 rw [flat_get LM.cellI 6 (fun _ => rfl) LM.li0 l k r hk hr] at hj
 obtain ⟨⟨c0,c1,c2,c3,c4,c5⟩,_⟩ := h k hk
 rw [Addr.add_lit,<- Nat.add_assoc]
 match r,hr with
 | 0,_ => exact c0.trans hj
 | 1,_ => exact c1.trans hj
 | 2,_ => exact c2.trans hj
 | 3,_ => exact c3.trans hj
 | 4,_ => exact c4.trans hj
 | 5,_ => exact c5.trans hj
theorem row_im {w : World} {base : Nat} {g cap : Nat} {l : List LM.Li} (h : w.ownsRow base 135 6 (.slice (some ⟨g,0,none⟩) l.length cap) l.length (l.flatMap LM.cellI)) (hg : g < w.heap.size) (hi : ∀ k,k < l.length -> M.HasIm w (LM.liAt l k).a (LM.liAt l k).i) :
  LM.HasI w (some ⟨g,0,none⟩) l := fun hl => by
 refine ⟨g,0,rfl,hg,fun k hk => ?_⟩
 rw [Nat.zero_add]
 have hh : ∀ j,j < 6 -> w.cell? ⟨g,k * 6 + j,none⟩ = (LM.cellI (LM.liAt l k))[j]? := fun j hj => (h.cellAt _ (by omega)).trans (flat_get LM.cellI 6 (fun _ => rfl) LM.li0 l k j hk hj)
 exact ⟨⟨hh 0 (by omega),hh 1 (by omega),hh 2 (by omega),hh 3 (by omega),hh 4 (by omega),hh 5 (by omega)⟩,hi k hk⟩
theorem wpList_append_libs {ops : Array Oper} {rest : List Oper} {o : Oper} {a : Act} {w : World} {Q : Exit -> Act -> World -> Prop} (hgd : o.guard = none) (s x : Operand)
  (ho : o.op = .call { callee := .builtin .append,args := #[s,x],argTypes := #[170,170] })
  (base : Nat) (p : LM.Li) (g0 : Nat) (hs : a.eval s = .slice (some ⟨g0,0,none⟩) 1 1) (hown : w.ownsRow base 135 6 (.slice (some ⟨g0,0,none⟩) 1 1) 1 (LM.cellI p))
  (ao : Option Addr) (c : Nat) (libs : List LM.Li) (hx : a.eval x = .slice ao libs.length c) (hlie : LM.HasI w ao libs) (h6 : libs.length <= 6) (hbase : base <= w.heap.size)
  (h : ∀ g cap w',w'.ownsRow base 135 6 (.slice (some ⟨g,0,none⟩) (libs.length + 1) cap) (libs.length + 1) ((p :: libs).flatMap LM.cellI) -> w.grownBy w' (some g0) -> g < w'.heap.size -> wpList Tryz.prog ops Q rest (a.put o.dst (.slice (some ⟨g,0,none⟩) (libs.length + 1) cap)) w') : wpList Tryz.prog ops Q (o :: rest) a w := by
 obtain ⟨i0,hin,hz0,hz1,hz2⟩ := info_parts infoIm
 by_cases h0 : 0 < libs.length
 · obtain ⟨b,off,rfl,hb,hl⟩ := hlie h0
   have hlen : ∀ l : List LM.Li,(l.flatMap LM.cellI).length = l.length * 6 := fun l => by
    induction l with
    | nil => rfl
    | cons a r ih => rw [List.flatMap_cons,List.length_append,ih,List.length_cons];show 6 + _ = _;omega
   have hone : ∀ u ∈ libs.flatMap LM.cellI,u.oneCell' = true := fun u hu => by
    obtain ⟨y,_,hy⟩ := List.mem_flatMap.1 hu
    simp only [LM.cellI,M.cellsI] at hy
    simp at hy
    rcases hy with rfl | rfl | rfl | rfl | rfl | rfl <;> rfl
   refine wpList_append_lies w hgd s x 170 ho base 135 i0 (.agg #[.string ⟨#[]⟩,.slice none 0 0,.slice none 0 0,.slice none 0 0,.slice none 0 0,.int .i64 0]) 6 120 Tryz.underlying170 hin hz0 hz1 hz2 rfl (by decide) _ 1 _ hs hown ⟨b,off,none⟩ libs.length c (libs.flatMap LM.cellI) hx (hlen _) (lie_news hl) hone h0 (by unfold maxLen;omega) (by omega) hbase _ rfl ?_
   intro g cap w' h2 h3 _ h5
   have e : 1 + libs.length = libs.length + 1 := Nat.add_comm _ _
   rw [e] at h2 ⊢
   exact h g cap w' h2 h3 h5
 · have e0 : libs = [] := List.eq_nil_of_length_eq_zero (by omega)
   subst e0
   have hg0 : g0 < w.heap.size := (hown.lt g0 rfl).2
   refine wpList_plain hgd fun K hK => ?_
   have hsrc : Src Tryz.prog i0.size 170 (.slice ao 0 c) 0 [] w := ⟨.inl ⟨_,Tryz.underlying170⟩,fun w' => by simp [Builtin.lenOf],by cases ao <;> simp [Builtin.firstCells,loadCells,loadCellsFrom],by cases ao <;> simp [Builtin.firstCells,loadCells,loadCellsFrom],by simp,by simp⟩
   have hr := run_append_nothing (P := Tryz.prog) w 170 170 o.type 135 i0 Tryz.underlying170 hin (some ⟨g0,0,none⟩) 1 1 (Nat.le_refl _) (.slice ao 0 c) hsrc
   have hx' : a.eval x = .slice ao 0 c := hx
   unfold Oper.wp execOp
   simp only [ho,resolve,invoke,builtin,Sem.run_bind,Sem.run_pure,Result.andThen_ok,List.map_toArray,List.map_cons,List.map_nil,hs,hx',hr]
   refine hK _ _ (h g0 1 w ?_ ⟨rfl,rfl,rfl,Nat.le_refl _,fun _ _ _ => rfl⟩ hg0)
   have e : ([p].flatMap LM.cellI) = LM.cellI p := by simp
   rw [e]
   exact hown
end LW
end Go.Proofs.YtkdigjpejnebkaaGreat
