import Derived.Test.YtpgifpeohlllfaaGreatGJ42
import Derived.Deep.RegionHeld3
import Derived.Deep.Upon
import Derived.Test.YtpgifpeohlllfaaGreatGJ11
set_option maxHeartbeats 20000000
set_option linter.unusedVariables false
set_option maxRecDepth 100000
set_option linter.unusedSimpArgs false
namespace Go.Proofs.YtpgifpeohlllfaaGreat
namespace LW
open Go.RowKit
open W (hideC)
theorem own_below {lo : Nat} {w w' : World} {v : Value} {l : List AM.Ar} (h : AW.Own lo w v l) (hb : Below w.heap.size w w') : AW.Own lo w' v l:=row_grown h hb
theorem own_slice {lo : Nat} {w : World} {v : Value} {l : List AM.Ar} (h : AW.Own lo w v l) : ∃ ao cap,v = .slice ao l.length cap /\ (0 < l.length -> ∃ g,ao = some ⟨g,0,none⟩):=by
 rcases h.2 with ⟨hv,h0⟩ | ⟨g,cap,cur,hv,_⟩
 · exact ⟨none,0,by rw [hv,h0],fun hl=>by omega⟩
 · exact ⟨_,cap,hv,fun _=>⟨g,rfl⟩⟩
set_option maxHeartbeats 6000000 in
theorem areasOf_any (l : List LM.Ob) (ao : Option Addr) (cap : Nat) (w : World) (h : Oi l ao w) (hl7 : l.length <= 7) :
  Calls Tryz.prog 136 #[.slice ao l.length cap] w fun e w'=>∃ r,e = .returned r /\ AW.Own w.heap.size w' r (LM.areasN l) /\ Below w.heap.size w w':=by
 have HO:=hideC h
 clear h
 go_enter Tryz.func136,Tryz.ntmps136
 go_wp2
 go_loopw [11,3] (fun i v wr=>∃ (a : Nat),a <= l.length /\ i = .int .i64 a /\ AW.Own w.heap.size wr v (LM.aob l a) /\ Below w.heap.size w wr) (fun i _ _=>l.length - (intOf i).toNat)
 case atStart=>exact ⟨0,by omega,rfl,AW.Own.nil _ _,Below.refl _ _⟩
 case round =>
  obtain ⟨a,hal,rfl,hown,hb⟩:=hrel
  have HOW:=hideC hown
  have HBr:=hideC hb
  by_cases hlt : a < l.length
  · have HOr:=hideC (HO.out.below hb)
    obtain ⟨b,off,hao,hbl,hlie⟩:=HOr.out.has (by omega)
    obtain ⟨⟨c0,c1,c2,c3,c4,c5,c6⟩,him⟩:=hlie a hlt
    have hbs:=HO.out.base a hlt
    have hck:=HO.out.chk a hlt
    obtain ⟨b2,off2,hao2,hbl2,hlie2⟩:=HO.out.has (by omega)
    have him2:=(hlie2 a hlt).2
    have HNX : Hid (LM.aob l (a + 1) = LM.asg (LM.obAt l a) (LM.aob l a) (LM.obAt l a).i.segs.length):=rfl
    obtain ⟨o,ho⟩ : ∃ o,o = LM.obAt l a:=⟨_,rfl⟩
    rw [<- ho] at c0 c1 c2 c3 c4 c5 c6 him2 hbs hck HNX
    have HFA:=hideC (LM.fit_aob l a)
    obtain ⟨L,hL⟩ : ∃ L,L = LM.aob l a:=⟨_,rfl⟩
    rw [<- hL] at HOW HNX HFA
    have hcn:=LM.counts_of hck
    have HSB:=hideC (LM.seg_bounds hck)
    obtain ⟨bs,offs,hag,hbls,hlg⟩:=him2.segs (by omega)
    have HLG:=hideC hlg
    rw [hag] at c2
    clear ho hL hlie hb hown him hlg hag him2 hlie2 hao2 hbl2 hck
    subst hao
    have HBA:=hideC (HBr.out.alloc HBr.out.size (.cells #[.string o.i.name,.slice o.a.an o.i.needs.length o.a.cn,.slice (some ⟨bs,offs,none⟩) o.i.segs.length o.a.cg,.slice o.a.ay o.i.syms.length o.a.cy,.slice o.a.ar o.i.rels.length o.a.cr,.int .i64 o.i.entry,.int .i64 o.base] 195))
    have HRA:=hideC ((Below.refl wr.heap.size wr).alloc (Nat.le_refl _) (.cells #[.string o.i.name,.slice o.a.an o.i.needs.length o.a.cn,.slice (some ⟨bs,offs,none⟩) o.i.segs.length o.a.cg,.slice o.a.ay o.i.syms.length o.a.cy,.slice o.a.ar o.i.rels.length o.a.cr,.int .i64 o.i.entry,.int .i64 o.base] 195))
    have BO:=hideC (B.new wr #[.string o.i.name,.slice o.a.an o.i.needs.length o.a.cn,.slice (some ⟨bs,offs,none⟩) o.i.segs.length o.a.cg,.slice o.a.ay o.i.syms.length o.a.cy,.slice o.a.ar o.i.rels.length o.a.cr,.int .i64 o.i.entry,.int .i64 o.base] 195)
    have HOA:=hideC (own_below HOW.out HRA.out)
    go_wp2
    obtain ⟨W1,hW1⟩ : ∃ W1,W1 = wr.alloc (.cells #[.string o.i.name,.slice o.a.an o.i.needs.length o.a.cn,.slice (some ⟨bs,offs,none⟩) o.i.segs.length o.a.cg,.slice o.a.ay o.i.syms.length o.a.cy,.slice o.a.ar o.i.rels.length o.a.cr,.int .i64 o.i.entry,.int .i64 o.base] 195):=⟨_,rfl⟩
    rw [<- hW1] at HBA HRA BO HOA
    rw [<- hW1]
    obtain ⟨ob,hob⟩ : ∃ ob,ob = wr.heap.size:=⟨_,rfl⟩
    rw [<- hob] at BO
    rw [<- hob]
    clear hW1 hob HRA HOW HBr HOr c0 c1 c2 c3 c4 c5 c6 hbl
    go_loopw [19,3] (fun i v wm=>∃ (k : Nat),k <= o.i.segs.length /\ i = .int .i64 k /\ AW.Own w.heap.size wm v (LM.asg o L k) /\ Below w.heap.size w wm /\ Below W1.heap.size W1 wm) (fun i _ _=>o.i.segs.length - (intOf i).toNat)
    case atStart=>exact ⟨0,by omega,rfl,HOA.out,HBA.out,Below.refl _ _⟩
    case round =>
     obtain ⟨k,hk,rfl,hown,hb,hb1⟩:=hrel
     have HOW:=hideC hown
     have HBm:=hideC hb
     have HB1:=hideC hb1
     clear HOA HBA
     by_cases hlk : k < o.i.segs.length
     · obtain ⟨c0,c1,c2,c3,c4⟩:=M.lieG hb hbls HLG.out k hlk
       have hsb:=HSB.out k hlk
       have hbls' : bs < wr.heap.size:=Nat.lt_of_lt_of_le hbls hb.size
       have HFK:=hideC (LM.fit_asg o L HFA.out k)
       have HKX : Hid (LM.asg o L (k + 1) = LM.mapSeg o (LM.asg o L k) (M.sgAt o.i.segs k)):=rfl
       obtain ⟨s,hse⟩ : ∃ s,s = M.sgAt o.i.segs k:=⟨_,rfl⟩
       rw [<- hse] at c0 c1 c2 c3 c4 hsb HKX
       clear hse
       obtain ⟨L2,hL2⟩ : ∃ L2,L2 = LM.asg o L k:=⟨_,rfl⟩
       rw [<- hL2] at HOW HFK HKX
       clear hL2
       obtain ⟨pg,pn,dt,wb,ex⟩:=s
       simp only at c0 c1 c2 c3 c4 hsb
       have HBA:=hideC (HBm.out.alloc HBm.out.size (.cells #[.int .i64 pg,.int .i64 pn,.string dt,.bool wb,.bool ex] 145))
       have HRA:=hideC ((Below.refl wr.heap.size wr).alloc (Nat.le_refl _) (.cells #[.int .i64 pg,.int .i64 pn,.string dt,.bool wb,.bool ex] 145))
       have BS:=hideC (B.new wr #[.int .i64 pg,.int .i64 pn,.string dt,.bool wb,.bool ex] 145)
       have BOA:=hideC (B.alloc (B.below BO.out HB1.out (B.isLt BO.out)) (.cells #[.int .i64 pg,.int .i64 pn,.string dt,.bool wb,.bool ex] 145))
       have HB1A:=hideC (HB1.out.alloc HB1.out.size (.cells #[.int .i64 pg,.int .i64 pn,.string dt,.bool wb,.bool ex] 145))
       have HOWA:=hideC (own_below HOW.out HRA.out)
       clear hown hb hb1
       go_wp2
       obtain ⟨WA,hWA⟩ : ∃ WA,WA = wr.alloc (.cells #[.int .i64 pg,.int .i64 pn,.string dt,.bool wb,.bool ex] 145):=⟨_,rfl⟩
       rw [<- hWA] at HBA BS BOA HB1A HOWA
       rw [<- hWA]
       obtain ⟨sb,hsbe⟩ : ∃ sb,sb = wr.heap.size:=⟨_,rfl⟩
       rw [<- hsbe] at BS
       rw [<- hsbe]
       clear hWA hsbe HRA HOW HBm HB1 c0 c1 c2 c3 c4 hbls'
       have HS : Hid (∀ V,Below WA.heap.size WA V -> V.cell? ⟨ob,6,none⟩ = some (.int .i64 o.base) /\ V.cell? ⟨sb,0,none⟩ = some (.int .i64 pg) /\ V.cell? ⟨sb,1,none⟩ = some (.int .i64 pn) /\ V.cell? ⟨sb,2,none⟩ = some (.string dt) /\ V.cell? ⟨sb,3,none⟩ = some (.bool wb) /\ V.cell? ⟨sb,4,none⟩ = some (.bool ex)):=fun V hb=>by
        have h1:=B.below BOA.out hb (B.isLt BOA.out)
        have h2:=B.below BS.out hb (B.isLt BS.out)
        exact ⟨B.cell h1 6 rfl,B.cell h2 0 rfl,B.cell h2 1 rfl,B.cell h2 2 rfl,B.cell h2 3 rfl,B.cell h2 4 rfl⟩
       have HPR : Hid (∀ V,Calls Tryz.prog 164 #[.agg #[.int .i64 pg,.int .i64 pn,.string dt,.bool wb,.bool ex]] V fun e w'=>e = .returned (.int .i64 (LM.protN ⟨pg,pn,dt,wb,ex⟩)) /\ Below V.heap.size V w'):=fun V=>prot_any ⟨pg,pn,dt,wb,ex⟩ V
       have HMP : Hid (∀ V,Below WA.heap.size WA V -> Calls Tryz.prog 74 #[u3,.int .i64 (o.base + pg),.int .i64 pn,.int .i64 (LM.protN ⟨pg,pn,dt,wb,ex⟩)] V fun e w'=>∃ r,e = .returned (.tuple #[r,.int .i64 (AW.mapN L2 (o.base + pg) pn (LM.protN ⟨pg,pn,dt,wb,ex⟩)).2]) /\ AW.Own V.heap.size w' r (AW.mapN L2 (o.base + pg) pn (LM.protN ⟨pg,pn,dt,wb,ex⟩)).1 /\ Below V.heap.size V w'):=fun V hb=>AW.map_own L2 u3 (o.base + pg) pn _ V (own_below HOWA.out hb).has HFK.out (by unfold AW.I64;omega) (by unfold AW.I64;omega)
       have HMS : Hid (LM.mapSeg o L2 ⟨pg,pn,dt,wb,ex⟩ = (AW.mapN L2 (o.base + pg) pn (LM.protN ⟨pg,pn,dt,wb,ex⟩)).1):=rfl
       obtain ⟨PR,hPR⟩ : ∃ PR,PR = LM.protN ⟨pg,pn,dt,wb,ex⟩:=⟨_,rfl⟩
       rw [<- hPR] at HPR HMP HMS
       obtain ⟨MN,hMN⟩ : ∃ MN,MN = AW.mapN L2 (o.base + pg) pn PR:=⟨_,rfl⟩
       rw [<- hMN] at HMP HMS
       clear hPR hMN
       have hwr : IntKind.i64.wrap (o.base + pg) = o.base + pg:=IntWalk.i64_in _ (by omega)
       have HK0:=hideC (Below.refl WA.heap.size WA).drew
       have HS0:=hideC (HS.out _ HK0.out)
       go_region_held3 (fun V=>V.cell? ⟨ob,6,none⟩ = some (.int .i64 o.base) /\ V.cell? ⟨sb,0,none⟩ = some (.int .i64 pg) /\ V.cell? ⟨sb,1,none⟩ = some (.int .i64 pn) /\ V.cell? ⟨sb,2,none⟩ = some (.string dt) /\ V.cell? ⟨sb,3,none⟩ = some (.bool wb) /\ V.cell? ⟨sb,4,none⟩ = some (.bool ex)) (first | exact HS3.out | exact HS2.out | exact HS0.out)
        (first
         | (go_at_call 164;refine (HPR.out _).mono ?_;rintro e w2 ⟨rfl,hb⟩;have HK2:=hideC (HK0.out.trans (hb.mono HK0.out.size));have HS2:=hideC (HS.out _ HK2.out);clear hb)
         | (go_at_call 74;refine (HMP.out _ HK2.out).mono ?_;rintro e w3 ⟨v8,rfl,hrw,hb⟩;have HK3:=hideC (HK2.out.trans (hb.mono HK2.out.size));have HS3:=hideC (HS.out _ HK3.out);have HR3:=hideC hrw;clear hb hrw))
       go_wp2
       go_roundw
       case rel=>exact ⟨k + 1,by omega,by go_num,by rw [HKX.out,HMS.out];exact HR3.out.mono (Nat.le_trans HBA.out.size HK2.out.size),HBA.out.trans (HK3.out.mono HBA.out.size),HB1A.out.trans (HK3.out.mono HB1A.out.size)⟩
       case measure=>simp [intOf];omega
     · obtain rfl : k = o.i.segs.length:=by omega
       clear hown hb hb1
       go_wp2
       go_roundw
       case rel=>exact ⟨a + 1,by omega,by go_num,by rw [HNX.out];exact HOW.out,HBm.out⟩
       case measure=>simp [intOf];omega
  · obtain rfl : a = l.length:=by omega
    have HAN : Hid (LM.areasN l = LM.clrTo (LM.aob l l.length) (LM.aob l l.length).length):=(LM.clrTo_all _).symm
    have HFA:=hideC (LM.fit_aob l l.length)
    obtain ⟨L,hL⟩ : ∃ L,L = LM.aob l l.length:=⟨_,rfl⟩
    rw [<- hL] at HOW HAN HFA
    have hll:=HFA.out.2
    obtain ⟨ar,cr,hv,hg⟩:=own_slice HOW.out
    subst hv
    have HG:=hideC hg
    clear hown hb hL hg HFA
    go_wp2
    go_loopw [41] (fun i wr=>∃ (k : Nat),k <= L.length /\ i = .int .i64 k /\ AW.Own w.heap.size wr (.slice ar L.length cr) (LM.clrTo L k) /\ Below w.heap.size w wr) (fun i _=>L.length - (intOf i).toNat)
    case atStart=>exact ⟨0,by omega,rfl,HOW.out,HBr.out⟩
    case round =>
     obtain ⟨k,hk,rfl,hown,hb⟩:=hrel
     have HOW2:=hideC hown
     have HBr2:=hideC hb
     clear HOW HBr hown hb
     by_cases hlt : k < L.length
     · obtain ⟨g,hg⟩:=HG.out (by omega)
       subst hg
       have hln:=LM.clrTo_length L k
       have HO4 : Hid (wr.ownsRow w.heap.size 47 4 (.slice (some ⟨g,0,none⟩) L.length cr) L.length (AM.areaCells (LM.clrTo L k))):=by
        have h:=HOW2.out
        unfold AW.Own at h
        rw [hln] at h
        exact h
       have HST:=hideC (HO4.out.stored (k * 4 + 3) (.bool false))
       have HNX : Hid (AM.areaCells (LM.clrTo L (k + 1)) = (AM.areaCells (LM.clrTo L k)).set (k * 4 + 3) (.bool false)):=(LM.areaCells_set false (LM.clrTo L k) k (by omega)).symm
       have hlx:=LM.clrTo_length L (k + 1)
       have HLX:=hideC hlx
       have hgl:=HO4.out.lt g rfl
       have q3:=(HO4.out.cellAt (k * 4 + 3) (by omega)).trans (AM.areaCells_get (LM.clrTo L k) k 3 (by omega) (by omega))
       have qf:=HO4.out.frozenAt (k * 4 + 3)
       clear hln hlx
       go_wp2
       go_roundw
       case rel=>exact ⟨k + 1,by omega,by go_num,by unfold AW.Own;rw [HLX.out,HNX.out];exact HST.out.1,HBr2.out.setCell (by simp;omega) _⟩
       case measure=>simp [intOf];omega
     · obtain rfl : k = L.length:=by omega
       go_wp2
       go_ret
       exact ⟨_,rfl,by rw [HAN.out];exact HOW2.out,HBr2.out⟩
theorem infoIm : (Tryz.prog.info? 151).map (fun i=>(i.zero,i.size,i.bytes)) = some (some (.agg #[.string ⟨#[]⟩,.slice none 0 0,.slice none 0 0,.slice none 0 0,.slice none 0 0,.int .i64 0]),6,120):=by kernel_rfl
theorem lie_news {w : World} {b off : Nat} {l : List LM.Li} (h : LM.LieI w b off l) : ∀ j u,(l.flatMap LM.cellI)[j]? = some u -> w.cell? ((⟨b,off,none⟩ : Addr).add j) = some u:=fun j u hj=>by
 obtain ⟨k,r,hr,rfl⟩ : ∃ k r,r < 6 /\ j = k * 6 + r:=⟨j / 6,j % 6,by omega,by omega⟩
 have hlen : ∀ l : List LM.Li,(l.flatMap LM.cellI).length = l.length * 6:=fun l=>by
  induction l with
  | nil=>rfl
  | cons a r ih=>rw [List.flatMap_cons,List.length_append,ih,List.length_cons];show 6 + _ = _;omega
 have hk : k < l.length:=by
  obtain ⟨hlt,_⟩:=List.getElem?_eq_some_iff.1 hj
  rw [hlen] at hlt
  omega
 rw [flat_get LM.cellI 6 (fun _=>rfl) LM.li0 l k r hk hr] at hj
 obtain ⟨⟨c0,c1,c2,c3,c4,c5⟩,_⟩:=h k hk
 rw [Addr.add_lit,<- Nat.add_assoc]
 match r,hr with
 | 0,_=>exact c0.trans hj
 | 1,_=>exact c1.trans hj
 | 2,_=>exact c2.trans hj
 | 3,_=>exact c3.trans hj
 | 4,_=>exact c4.trans hj
 | 5,_=>exact c5.trans hj
theorem row_im {w : World} {base : Nat} {g cap : Nat} {l : List LM.Li} (h : w.ownsRow base 151 6 (.slice (some ⟨g,0,none⟩) l.length cap) l.length (l.flatMap LM.cellI)) (hg : g < w.heap.size) (hi : ∀ k,k < l.length -> M.HasIm w (LM.liAt l k).a (LM.liAt l k).i) :
  LM.HasI w (some ⟨g,0,none⟩) l:=fun hl=>by
 refine ⟨g,0,rfl,hg,fun k hk=>?_⟩
 rw [Nat.zero_add]
 have hh : ∀ j,j < 6 -> w.cell? ⟨g,k * 6 + j,none⟩ = (LM.cellI (LM.liAt l k))[j]?:=fun j hj=>(h.cellAt _ (by omega)).trans (flat_get LM.cellI 6 (fun _=>rfl) LM.li0 l k j hk hj)
 exact ⟨⟨hh 0 (by omega),hh 1 (by omega),hh 2 (by omega),hh 3 (by omega),hh 4 (by omega),hh 5 (by omega)⟩,hi k hk⟩
theorem wpList_append_libs {ops : Array Oper} {rest : List Oper} {o : Oper} {a : Act} {w : World} {Q : Exit -> Act -> World -> Prop} (hgd : o.guard = none) (s x : Operand)
  (ho : o.op = .call { callee:=.builtin .append,args:=#[s,x],argTypes:=#[187,187] })
  (base : Nat) (p : LM.Li) (g0 : Nat) (hs : a.eval s = .slice (some ⟨g0,0,none⟩) 1 1) (hown : w.ownsRow base 151 6 (.slice (some ⟨g0,0,none⟩) 1 1) 1 (LM.cellI p))
  (ao : Option Addr) (c : Nat) (libs : List LM.Li) (hx : a.eval x = .slice ao libs.length c) (hlie : LM.HasI w ao libs) (h6 : libs.length <= 6) (hbase : base <= w.heap.size)
  (h : ∀ g cap w',w'.ownsRow base 151 6 (.slice (some ⟨g,0,none⟩) (libs.length + 1) cap) (libs.length + 1) ((p :: libs).flatMap LM.cellI) -> w.grownBy w' (some g0) -> g < w'.heap.size -> wpList Tryz.prog ops Q rest (a.put o.dst (.slice (some ⟨g,0,none⟩) (libs.length + 1) cap)) w') : wpList Tryz.prog ops Q (o :: rest) a w:=by
 obtain ⟨i0,hin,hz0,hz1,hz2⟩:=info_parts infoIm
 by_cases h0 : 0 < libs.length
 · obtain ⟨b,off,rfl,hb,hl⟩:=hlie h0
   have hlen : ∀ l : List LM.Li,(l.flatMap LM.cellI).length = l.length * 6:=fun l=>by
    induction l with
    | nil=>rfl
    | cons a r ih=>rw [List.flatMap_cons,List.length_append,ih,List.length_cons];show 6 + _ = _;omega
   have hone : ∀ u ∈ libs.flatMap LM.cellI,u.oneCell' = true:=fun u hu=>by
    obtain ⟨y,_,hy⟩:=List.mem_flatMap.1 hu
    simp only [LM.cellI,M.cellsI] at hy
    simp at hy
    rcases hy with rfl | rfl | rfl | rfl | rfl | rfl <;> rfl
   refine wpList_append_lies w hgd s x 187 ho base 151 i0 (.agg #[.string ⟨#[]⟩,.slice none 0 0,.slice none 0 0,.slice none 0 0,.slice none 0 0,.int .i64 0]) 6 120 Tryz.underlying187 hin hz0 hz1 hz2 rfl (by decide) _ 1 _ hs hown ⟨b,off,none⟩ libs.length c (libs.flatMap LM.cellI) hx (hlen _) (lie_news hl) hone h0 (by unfold maxLen;omega) (by omega) hbase _ rfl ?_
   intro g cap w' h2 h3 _ h5
   have e : 1 + libs.length = libs.length + 1:=Nat.add_comm _ _
   rw [e] at h2 ⊢
   exact h g cap w' h2 h3 h5
 · have e0 : libs = []:=List.eq_nil_of_length_eq_zero (by omega)
   subst e0
   have hg0 : g0 < w.heap.size:=(hown.lt g0 rfl).2
   refine wpList_plain hgd fun K hK=>?_
   have hsrc : Src Tryz.prog i0.size 187 (.slice ao 0 c) 0 [] w:=⟨.inl ⟨_,Tryz.underlying187⟩,fun w'=>by simp [Builtin.lenOf],by cases ao <;> simp [Builtin.firstCells,loadCells,loadCellsFrom],by cases ao <;> simp [Builtin.firstCells,loadCells,loadCellsFrom],by simp,by simp⟩
   have hr:=run_append_nothing (P:=Tryz.prog) w 187 187 o.type 151 i0 Tryz.underlying187 hin (some ⟨g0,0,none⟩) 1 1 (Nat.le_refl _) (.slice ao 0 c) hsrc
   have hx' : a.eval x = .slice ao 0 c:=hx
   unfold Oper.wp execOp
   simp only [ho,resolve,invoke,builtin,Sem.run_bind,Sem.run_pure,Result.andThen_ok,List.map_toArray,List.map_cons,List.map_nil,hs,hx',hr]
   refine hK _ _ (h g0 1 w ?_ ⟨rfl,rfl,rfl,Nat.le_refl _,fun _ _ _=>rfl⟩ hg0)
   have e : ([p].flatMap LM.cellI) = LM.cellI p:=by simp
   rw [e]
   exact hown
end LW
namespace LW
open Go.RowKit Go.WideMaps Go.Maps
open W (hideC)
def OutL (all : List LM.Li) (w : World) (e : Ending) (w' : World) : Prop:=Below w.heap.size w w' /\
 if LM.linkErr all = 0 then ∃ (ix : List Nat) (E : List LM.Sp) (r : Value) (hs : List LM.Sh) (ao : Option Addr) (cap : Nat),LM.gat all all.length 0 [0] = some ix /\ LM.sheetsN (LM.obsFrom all 1 ix) = some E /\ hs.map LM.plain = E /\
  e = .returned (.tuple #[.agg #[r,.slice ao hs.length cap,.int .i64 (LM.addrO (LM.obAt (LM.obsFrom all 1 ix) 0) (LM.liAt all 0).i.entry)],.int .i64 0]) /\ AW.Own w.heap.size w' r (LM.areasN (LM.obsFrom all 1 ix)) /\ LM.HasH w' ao hs /\ hs.length <= cap
 else e = .returned (.tuple #[.agg #[.slice none 0 0,.slice none 0 0,.int .i64 0],.int .i64 (LM.linkErr all)])
theorem cell_set3 (V : World) (rb b j : Nat) (u0 u1 u2 : Value) (h : b ≠ rb) : (((V.setCell ⟨rb,0,none⟩ u0).setCell ⟨rb,1,none⟩ u1).setCell ⟨rb,2,none⟩ u2).cell? ⟨b,j,none⟩ = V.cell? ⟨b,j,none⟩:=by
 rw [World.cell?_setCell_far _ ⟨rb,2,none⟩ ⟨b,j,none⟩ u2 (Ne.symm h),World.cell?_setCell_far _ ⟨rb,1,none⟩ ⟨b,j,none⟩ u1 (Ne.symm h),World.cell?_setCell_far _ ⟨rb,0,none⟩ ⟨b,j,none⟩ u0 (Ne.symm h)]
def set3 (V : World) (rb : Nat) (u0 u1 u2 : Value) : World:=((V.setCell ⟨rb,0,none⟩ u0).setCell ⟨rb,1,none⟩ u1).setCell ⟨rb,2,none⟩ u2
theorem set3_size (V : World) (rb : Nat) (u0 u1 u2 : Value) : (set3 V rb u0 u1 u2).heap.size = V.heap.size:=by simp [set3]
theorem no_is {V : World} {rb b off : Nat} {t : TypeId} {x : Int} {y : ByteArray} (h : V.heap[rb]? = some (.cells #[.slice none 0 0,.slice none 0 0,.int .i64 0] t (0,0))) (c0 : V.cell? ⟨b,off,none⟩ = some (.int .i64 x)) (c1 : V.cell? ⟨b,off + 1,none⟩ = some (.string y)) : b ≠ rb:=fun e=>by
 rw [e] at c0 c1
 simp only [World.cell?,h] at c0 c1
 match off with
 | 0=>simp at c0
 | 1=>simp at c0
 | 2=>simp at c1
 | n + 3=>simp at c0
theorem hasF_set3 {V : World} {rb : Nat} {t : TypeId} (h : V.heap[rb]? = some (.cells #[.slice none 0 0,.slice none 0 0,.int .i64 0] t (0,0))) {ao : Option Addr} {l : List LM.Fx} (g : LM.HasF V ao l) (u0 u1 u2 : Value) : LM.HasF (set3 V rb u0 u1 u2) ao l:=fun hl=>by
 obtain ⟨b,off,e,hb,hlie⟩:=g hl
 obtain ⟨c0,c1⟩:=hlie 0 hl
 have hne:=no_is h c0 c1
 refine ⟨b,off,e,by rw [set3_size];exact hb,fun k hk=>?_⟩
 obtain ⟨d0,d1⟩:=hlie k hk
 exact ⟨(cell_set3 V rb b _ u0 u1 u2 hne).trans d0,(cell_set3 V rb b _ u0 u1 u2 hne).trans d1⟩
theorem hasH_set3 {V : World} {rb : Nat} {t : TypeId} (h : V.heap[rb]? = some (.cells #[.slice none 0 0,.slice none 0 0,.int .i64 0] t (0,0))) {ao : Option Addr} {l : List LM.Sh} (g : LM.HasH V ao l) (u0 u1 u2 : Value) : LM.HasH (set3 V rb u0 u1 u2) ao l:=fun hl=>by
 obtain ⟨b,off,e,hb,hlie⟩:=g hl
 obtain ⟨c0,c1,_,_⟩:=hlie 0 hl
 have hne:=no_is h c0 c1
 refine ⟨b,off,e,by rw [set3_size];exact hb,fun k hk=>?_⟩
 obtain ⟨d0,d1,d2,d3⟩:=hlie k hk
 exact ⟨(cell_set3 V rb b _ u0 u1 u2 hne).trans d0,(cell_set3 V rb b _ u0 u1 u2 hne).trans d1,(cell_set3 V rb b _ u0 u1 u2 hne).trans d2,hasF_set3 h d3 u0 u1 u2⟩
theorem own_set3 {V : World} {rb lo : Nat} {v : Value} {l : List AM.Ar} (h : AW.Own lo V v l) (hlt : rb < lo) (u0 u1 u2 : Value) : AW.Own lo (set3 V rb u0 u1 u2) v l :=
 ownsRow_setCell_below (ownsRow_setCell_below (ownsRow_setCell_below h hlt _) hlt _) hlt _
set_option maxHeartbeats 3000000 in
theorem byName_with (l : List LM.Li) (ao : Option Addr) (cap : Nat) (w : World) (h : LM.HasI w ao l) (hf : LM.FitI l) (hck : ∀ k,k < l.length -> ∀ V,Below w.heap.size w V -> Calls Tryz.prog 158 #[.agg (M.cellsI (LM.liAt l k).a (LM.liAt l k).i)] V fun e w'=>e = .returned (.int .i64 (M.chkN (LM.liAt l k).i)) /\ Below V.heap.size V w') : Calls Tryz.prog 132 #[.slice ao l.length cap] w (OutB l w):=by
 have HH:=hideC h
 have HF:=hideC hf
 have HCH:=hideC hck
 have hn : l.length <= 140737488351232:=hf.1
 clear h hf hck
 have hmm:=@run_makeMap Tryz.prog
 go_enter Tryz.func132,Tryz.ntmps132
 go_wp2
 go_loopw [12] (fun i wr=>∃ k : Nat,k <= l.length /\ i = .int .i64 k /\ LM.errTo l k = 0 /\ Below w.heap.size w wr) (fun i _=>l.length - (intOf i).toNat)
 case atStart=>exact ⟨0,by omega,rfl,rfl,Below.refl _ _⟩
 case round =>
  obtain ⟨k,hk,rfl,hz,hb⟩:=hrel
  have HZ:=hideC hz
  have HBr:=hideC hb
  clear hz
  by_cases hlt : k < l.length
  · obtain ⟨b,off,hao,hbl,hlie⟩:=(HH.out.below hb) (by omega)
    subst hao
    obtain ⟨⟨c0,c1,c2,c3,c4,c5⟩,hi⟩:=hlie k hlt
    have hfk:=HF.out.2 k hlt
    have HCC:=hideC (HCH.out k hlt)
    have HE : Hid (LM.errTo l (k + 1) = M.chkN (LM.liAt l k).i):=by
     show _ = _
     simp only [LM.errTo]
     rw [if_pos HZ.out]
    have HBY : Hid (M.chkN (LM.liAt l k).i ≠ 0 -> LM.byErr l = M.chkN (LM.liAt l k).i):=fun g=>by
     have e1 : LM.errTo l (k + 1) ≠ 0:=by rw [HE.out];exact g
     have e2:=LM.errTo_stays l (k + 1) e1 l.length (by omega)
     unfold LM.byErr
     rw [e2,if_neg e1,HE.out]
    obtain ⟨x,hx⟩ : ∃ x,x = LM.liAt l k:=⟨_,rfl⟩
    rw [<- hx] at c0 c1 c2 c3 c4 c5 hi hfk HE HBY HCC
    clear hx hlie hb
    obtain ⟨⟨nm,ns,gs,ys,rs,en⟩,⟨an,cn,ag,cg,ay,cy,ar,cr⟩⟩:=x
    simp only at c0 c1 c2 c3 c4 c5
    have HBA:=hideC (HBr.out.alloc HBr.out.size (.cells #[.string nm,.slice an ns.length cn,.slice ag gs.length cg,.slice ay ys.length cy,.slice ar rs.length cr,.int .i64 en] 151))
    have HC : Hid (∀ W,Below wr.heap.size wr W -> Calls Tryz.prog 158 #[.agg #[.string nm,.slice an ns.length cn,.slice ag gs.length cg,.slice ay ys.length cy,.slice ar rs.length cr,.int .i64 en]] W fun e w'=>e = .returned (.int .i64 (M.chkN ⟨nm,ns,gs,ys,rs,en⟩)) /\ Below W.heap.size W w'):=fun V hb=>HCC.out V (HBr.out.trans (hb.mono HBr.out.size))
    clear hi hfk HCC HCH
    obtain ⟨c,hc⟩ : ∃ c,c = M.chkN ⟨nm,ns,gs,ys,rs,en⟩:=⟨_,rfl⟩
    simp only at HE HBY
    rw [<- hc] at HC HE HBY
    clear hc
    by_cases hcz : c = 0
    · subst hcz
      clear HBY
      go_wp2_with (go_at_call 158;refine (HC.out _ ((Below.refl _ _).alloc (Nat.le_refl _) _)).mono ?_;rintro e w1 ⟨rfl,hb⟩;have HBA:=hideC (HBA.out.trans (hb.mono HBA.out.size));clear hb)
      go_roundw
      case rel=>exact ⟨k + 1,by omega,by go_num,HE.out,HBA.out⟩
      case measure=>simp [intOf];omega
    · have HBE:=hideC (HBY.out hcz)
      have hcz' : (c == 0) = false:=by simpa using hcz
      clear HBY HE
      go_wp2_with (go_at_call 158;refine (HC.out _ ((Below.refl _ _).alloc (Nat.le_refl _) _)).mono ?_;rintro e w1 ⟨rfl,hb⟩;have HBA:=hideC (HBA.out.trans (hb.mono HBA.out.size));clear hb)
      go_ret2
      refine ⟨HBA.out,?_⟩
      rw [HBE.out,if_neg hcz]
      rfl
  · obtain rfl : k = l.length:=by omega
    clear hb
    obtain ⟨m,hm⟩ : ∃ m,m = wr.heap.size:=⟨_,rfl⟩
    have hsm : w.heap.size <= m:=by rw [hm];exact HBr.out.size
    have HM0 : Hid ((wr.alloc (.map #[] 0)).ownsMap Tryz.prog 9 LM.Rv m 0 (.map [])):=by
     rw [hm]
     exact World.ownsMap_made _ _ _ _
    have HM:=hideC hm
    clear hm
    go_wp2
    rw [<- HM.out]
    go_loopw [25] (fun i wi=>∃ (k : Nat) (D : DataW Value),k <= l.length /\ i = .int .i64 k /\ wi.ownsMap Tryz.prog 9 LM.Rv m k D /\ LM.Nm l k D /\ Below w.heap.size w wi) (fun i _=>l.length - (intOf i).toNat)
    case atStart=>exact ⟨0,.map [],Nat.zero_le _,rfl,HM0.out,LM.nm_zero l,HBr.out.alloc HBr.out.size _⟩
    case round =>
     obtain ⟨k,D,hk,rfl,hown,hnm,hb⟩:=hrel
     have HW:=hideC hown
     have HN:=hideC hnm
     have HBi:=hideC hb
     by_cases hlt : k < l.length
     · obtain ⟨b,off,hao,hbl,hlie⟩:=(HH.out.below hb) (by omega)
       subst hao
       obtain ⟨⟨c0,c1,c2,c3,c4,c5⟩,hi⟩:=hlie k hlt
       have hfk:=(HF.out.2 k hlt).name
       have HNS:=hideC (LM.nm_step hlt hown.isMap (hown.tidy W.law) hnm)
       obtain ⟨x,hx⟩ : ∃ x,x = LM.liAt l k:=⟨_,rfl⟩
       rw [<- hx] at c0 c1 c2 c3 c4 c5 hfk HNS
       clear hx hlie hb hi hown hnm
       obtain ⟨⟨nm,ns,gs,ys,rs,en⟩,⟨an,cn,ag,cg,ay,cy,ar,cr⟩⟩:=x
       simp only at c0 c1 c2 c3 c4 c5 hfk
       have hkey:=W.keyS_ok hfk
       have hkm : k < maxLen:=by unfold maxLen;omega
       have HBA:=hideC (HBi.out.alloc HBi.out.size (.cells #[.string nm,.slice an ns.length cn,.slice ag gs.length cg,.slice ay ys.length cy,.slice ar rs.length cr,.int .i64 en] 151))
       have HWA:=hideC (HW.out.alloc (.cells #[.string nm,.slice an ns.length cn,.slice ag gs.length cg,.slice ay ys.length cy,.slice ar rs.length cr,.int .i64 en] 151))
       go_wp2_with (first | (at_mapUpdate;refine wpList_mapUpdate_own _ rfl _ _ _ 188 rfl 9 151 W.law Tryz.underlying188 LM.Rv m k D rfl HWA.out hkm _ _ _ rfl rfl hkey _ [] rfl ?_;intro w1 hown1 hgrow1;have HW1:=hideC hown1;have HB1:=hideC (HBA.out.grown hgrow1 HBA.out.size (fun j hj=>by cases hj;exact hsm));clear hown1 hgrow1) | go_in)
       go_roundw
       case rel=>exact ⟨k + 1,_,by omega,by go_num,HW1.out,HNS.out,HB1.out⟩
       case measure=>simp [intOf];omega
     · obtain rfl : k = l.length:=by omega
       have hlen:=hown.len Tryz.underlying188 3
       have HE0:=hideC HZ.out
       by_cases ho : M.onceTo (LM.namesL l) l.length = true
       · have hsz:=hnm.all.2 ho
         have HBE : Hid (LM.byErr l = 0):=by
          show _ = _
          unfold LM.byErr M.onceB
          rw [if_pos HE0.out,LM.namesL_length,ho]
          rfl
         rw [hsz] at hlen
         clear hown hnm hb hsz ho
         go_wp2
         go_ret2
         refine ⟨HBi.out,?_⟩
         rw [HBE.out,if_pos rfl]
         exact ⟨_,D,rfl,HW.out,HN.out⟩
       · have hsz : Maps.size D < l.length:=by
          have h1:=hnm.le
          have h2:=hnm.all
          rcases Nat.lt_or_ge (Maps.size D) l.length with g | g
          · exact g
          · exact (ho (h2.1 (by omega))).elim
         have HBE : Hid (LM.byErr l = 5):=by
          show _ = _
          unfold LM.byErr M.onceB
          rw [if_pos HE0.out,LM.namesL_length,if_neg ho]
         obtain ⟨z,hz⟩ : ∃ z,z = Maps.size D:=⟨_,rfl⟩
         rw [<- hz] at hlen hsz
         have hsz' : (z : Int) < (l.length : Int):=by omega
         clear hown hnm hb ho hz
         go_wp2
         go_ret2
         refine ⟨HBi.out,?_⟩
         rw [HBE.out,if_neg (by decide)]
         rfl
end LW
namespace LW
open Go.RowKit
open W (hideC)
set_option maxHeartbeats 6000000 in
theorem sheetsOf_with (l : List LM.Ob) (ao : Option Addr) (cap : Nat) (w : World) (h : Oi l ao w) (hl7 : l.length <= 7) (hpx : ∀ k,k < l.length -> ∀ V,Below w.heap.size w V -> Calls Tryz.prog 161 #[.agg (LM.cellsO (LM.obAt l k)),.slice ao l.length cap] V (OutPt (LM.patN l (LM.obAt l k)) V)) : Calls Tryz.prog 135 #[.slice ao l.length cap] w (OutSh (LM.sheetsN l) w):=by
 have HO:=hideC h
 have HPX:=hideC hpx
 clear h hpx
 obtain ⟨R,hR⟩ : ∃ R,R = LM.sheetsN l:=⟨_,rfl⟩
 have HR : Hid (R = LM.obsTo l l.length):=hR
 rw [<- hR]
 clear hR
 obtain ⟨i0,hin,hz0,hz1,hz2⟩:=info_parts infoSh
 go_enter Tryz.func135,Tryz.ntmps135
 go_wp2
 go_loopw [15,4] (fun i v wr=>∃ (a : Nat) (E : List LM.Sp) (hs : List LM.Sh),a <= l.length /\ i = .int .i64 a /\ LM.obsTo l a = some E /\ hs.map LM.plain = E /\ hs.length <= a * 1600 /\ Rs w.heap.size wr v hs /\ Below w.heap.size w wr) (fun i _ _=>l.length - (intOf i).toNat)
 case atStart=>exact ⟨0,[],[],by omega,rfl,rfl,rfl,by simp,Rs.nil _ _,Below.refl _ _⟩
 case round =>
  obtain ⟨a,E,hs,hal,rfl,hE,hmE,hlen,hrs,hb⟩:=hrel
  have HE:=hideC hE
  have HME:=hideC hmE
  have HRS:=hideC hrs
  have HBr:=hideC hb
  by_cases hlt : a < l.length
  · have HOr:=hideC (HO.out.below hb)
    obtain ⟨b,off,hao,hbl,hlie⟩:=HOr.out.has (by omega)
    obtain ⟨⟨c0,c1,c2,c3,c4,c5,c6⟩,him⟩:=hlie a hlt
    have hbs:=HO.out.base a hlt
    have hck:=HO.out.chk a hlt
    have HPA : Hid (∀ V,Below wr.heap.size wr V -> Calls Tryz.prog 161 #[.agg (LM.cellsO (LM.obAt l a)),.slice ao l.length cap] V (OutPt (LM.patN l (LM.obAt l a)) V)):=fun V hb=>HPX.out a hlt V (HBr.out.trans (hb.mono HBr.out.size))
    have HS0 : Hid (LM.patN l (LM.obAt l a) = none -> R = none):=fun g=>by
     rw [HR.out]
     refine LM.obsTo_none (k:=a + 1) ?_ l.length (by omega)
     simp only [LM.obsTo,HE.out,g]
    have HS1 : Hid (∀ ps,LM.patN l (LM.obAt l a) = some ps -> LM.obsTo l (a + 1) = some (E ++ LM.sgsTo (LM.obAt l a) ps (LM.obAt l a).i.segs.length)):=fun ps g=>by simp only [LM.obsTo,HE.out,g]
    have HFP : Hid (∀ ps,LM.patN l (LM.obAt l a) = some ps -> ps.length <= 16 /\ ∀ j,j < ps.length -> LM.FitP (LM.ptAt ps j)):=fun ps g=>by
     have h1:=LM.patTo_len g
     have h2:=(LM.counts_of hck).2.2.2.2
     exact ⟨by omega,LM.pat_fit hck hbs.1 hbs.2 _ ps (Nat.le_refl _) g⟩
    obtain ⟨b2,off2,hao2,hbl2,hlie2⟩:=HO.out.has (by omega)
    have him2:=(hlie2 a hlt).2
    obtain ⟨o,ho⟩ : ∃ o,o = LM.obAt l a:=⟨_,rfl⟩
    rw [<- ho] at him2
    rw [<- ho] at c0 c1 c2 c3 c4 c5 c6 him hbs hck HPA HS0 HS1 HFP
    have hcn:=LM.counts_of hck
    have HSB:=hideC (LM.seg_bounds hck)
    have HIM:=hideC him
    simp only [LM.cellsO] at HPA
    obtain ⟨bs,offs,hag,hbls,hlg⟩:=him2.segs (by omega)
    have HLG:=hideC hlg
    rw [hag] at HPA c2
    clear ho hlie hb hE hmE hrs him hlg hag him2 hlie2 hao2 hbl2 HIM
    subst hao
    have HBA:=hideC (HBr.out.alloc HBr.out.size (.cells #[.string o.i.name,.slice o.a.an o.i.needs.length o.a.cn,.slice (some ⟨bs,offs,none⟩) o.i.segs.length o.a.cg,.slice o.a.ay o.i.syms.length o.a.cy,.slice o.a.ar o.i.rels.length o.a.cr,.int .i64 o.i.entry,.int .i64 o.base] 195))
    have HRA:=hideC ((Below.refl wr.heap.size wr).alloc (Nat.le_refl _) (.cells #[.string o.i.name,.slice o.a.an o.i.needs.length o.a.cn,.slice (some ⟨bs,offs,none⟩) o.i.segs.length o.a.cg,.slice o.a.ay o.i.syms.length o.a.cy,.slice o.a.ar o.i.rels.length o.a.cr,.int .i64 o.i.entry,.int .i64 o.base] 195))
    have BO:=hideC (B.new wr #[.string o.i.name,.slice o.a.an o.i.needs.length o.a.cn,.slice (some ⟨bs,offs,none⟩) o.i.segs.length o.a.cg,.slice o.a.ay o.i.syms.length o.a.cy,.slice o.a.ar o.i.rels.length o.a.cr,.int .i64 o.i.entry,.int .i64 o.base] 195)
    have HP2:=hideC (HPA.out _ HRA.out)
    cases e : LM.patN l o with
    | none =>
     have HRN:=hideC (HS0.out e)
     rw [e] at HP2
     clear e HS0 HS1 HFP
     go_wp2_with (go_at_call 161;refine HP2.out.mono ?_;rintro e w1 ⟨hb,rfl⟩;have HB1:=hideC (HBA.out.trans (hb.mono HBA.out.size));clear hb)
     go_ret2
     show OutSh R w _ _
     rw [HRN.out]
     exact ⟨HB1.out,rfl⟩
    | some ps =>
     have HNXT:=hideC (HS1.out ps e)
     obtain ⟨hps,hfp⟩:=HFP.out ps e
     have HFPS:=hideC hfp
     rw [e] at HP2
     clear e HS0 HS1 HFP hfp
     have hrb : ∀ q,u4.ownBlock = some q -> q < wr.heap.size:=fun q hq=>(HRS.out.row.lt q hq).2
     have HRBK:=hideC hrb
     clear hrb
     go_wp2_with (go_at_call 161;refine HP2.out.mono ?_;rintro e w1 ⟨hb,v7,rfl,hpr⟩;have HB1:=hideC (HBA.out.trans (hb.mono HBA.out.size));have HW1:=hideC (HRA.out.trans (hb.mono HRA.out.size));have HPR:=hideC hpr;have BO1:=hideC (B.below BO.out hb (B.isLt BO.out));have g2:=B.cell BO1.out 2 rfl;clear hb hpr)
     obtain ⟨ap,cp,hv7,hpn⟩:=row_ptN HPR.out u4.ownBlock (fun q hq=>by have:=HRBK.out q hq;simp;omega)
     subst hv7
     have HPN:=hideC hpn
     have HRS1:=hideC (HRS.out.below HW1.out)
     have hobl:=HBr.out.size
     obtain ⟨rb,hrb⟩ : ∃ rb,rb = u4.ownBlock:=⟨_,rfl⟩
     have HRB:=hideC hrb
     rw [<- hrb] at HPN HRBK
     clear hpn HPR HP2 HPA HRA HBA HRS HW1 g2 BO c0 c1 c2 c3 c4 c5 c6 hrb HOr hbl
     obtain ⟨ob,hob⟩ : ∃ ob,ob = wr.heap.size:=⟨_,rfl⟩
     rw [<- hob] at BO1 HRBK hobl
     rw [<- hob]
     have HNE : Hid (some ob ≠ rb):=fun e=>by have:=HRBK.out ob e.symm;omega
     clear hob HBr HRBK
     go_loopw [31,4] (fun i v wm=>∃ (k : Nat) (hs' : List LM.Sh),k <= o.i.segs.length /\ i = .int .i64 k /\ hs'.map LM.plain = E ++ LM.sgsTo o ps k /\ hs'.length <= a * 1600 + k * 255 /\ Rs w.heap.size wm v hs' /\ Below w.heap.size w wm /\ Fr w1 rb wm v.ownBlock) (fun i _ _=>o.i.segs.length - (intOf i).toNat)
     case atStart=>exact ⟨0,hs,by omega,rfl,by rw [HME.out];simp [LM.sgsTo],by omega,HRS1.out,HB1.out,by rw [HRB.out];exact Fr.refl _ _⟩
     case round =>
      obtain ⟨k,hs',hk,rfl,hmE,hlen',hrs,hb,hfr⟩:=hrel
      have HM2:=hideC hmE
      have HR2:=hideC hrs
      have HBm:=hideC hb
      have HFm:=hideC hfr
      clear HRS1 HRB hlen HME
      by_cases hlk : k < o.i.segs.length
      · obtain ⟨c0,c1,c2,c3,c4⟩:=M.lieG hb hbls HLG.out k hlk
        have hsb:=HSB.out k hlk
        have hbls' : bs < wr.heap.size:=Nat.lt_of_lt_of_le hbls hb.size
        have HNX : Hid (LM.sgsTo o ps (k + 1) = LM.sgsTo o ps k ++ LM.pgsTo o ps (M.sgAt o.i.segs k) (M.sgAt o.i.segs k).pages.toNat):=rfl
        obtain ⟨s,hse⟩ : ∃ s,s = M.sgAt o.i.segs k:=⟨_,rfl⟩
        rw [<- hse] at c0 c1 c2 c3 c4 hsb HNX
        clear hse
        obtain ⟨P,hP⟩ : ∃ P : Nat,s.pages = (P : Int):=⟨s.pages.toNat,by omega⟩
        obtain ⟨pg,pn,dt,wb,ex⟩:=s
        simp only at c0 c1 c2 c3 c4 hsb HNX hP
        subst hP
        rw [Int.toNat_natCast] at HNX
        have hvb : ∀ q,u4.ownBlock = some q -> q < wr.heap.size:=fun q hq=>(HR2.out.row.lt q hq).2
        have HVB:=hideC hvb
        have HBA:=hideC (HBm.out.alloc HBm.out.size (.cells #[.int .i64 pg,.int .i64 P,.string dt,.bool wb,.bool ex] 145))
        have HRA:=hideC ((Below.refl wr.heap.size wr).alloc (Nat.le_refl _) (.cells #[.int .i64 pg,.int .i64 P,.string dt,.bool wb,.bool ex] 145))
        have BS:=hideC (B.new wr #[.int .i64 pg,.int .i64 P,.string dt,.bool wb,.bool ex] 145)
        have HFA:=hideC (HFm.out.trans (Fr.ofBelow HRA.out u4.ownBlock))
        have HRsA:=hideC (HR2.out.below HRA.out)
        clear hvb hmE hrs hb hfr
        go_wp2
        obtain ⟨vb,hvb⟩ : ∃ vb,vb = u4.ownBlock:=⟨_,rfl⟩
        have HVE:=hideC hvb
        rw [<- hvb] at HVB
        obtain ⟨WA,hWA⟩ : ∃ WA,WA = wr.alloc (.cells #[.int .i64 pg,.int .i64 P,.string dt,.bool wb,.bool ex] 145):=⟨_,rfl⟩
        rw [<- hWA] at HBA HRA BS HFA HRsA
        rw [<- hWA]
        obtain ⟨sb,hsbe⟩ : ∃ sb,sb = wr.heap.size:=⟨_,rfl⟩
        rw [<- hsbe] at BS HVB
        rw [<- hsbe]
        have HNS : Hid (some sb ≠ vb):=fun e=>by have:=HVB.out sb e.symm;omega
        clear hvb hWA hsbe HRA HVB HR2 HBm HFm c0 c1 c2 c3 c4 hbls'
        have hpb : ∀ n : Nat,n < P -> 0 <= o.base + pg + (n : Int) /\ o.base + pg + (n : Int) <= 3000:=fun n hn=>by omega
        have HPB:=hideC hpb
        have HPG : Hid (∀ n : Nat,n < P -> ∀ V,Calls Tryz.prog 162 #[.agg #[.int .i64 pg,.int .i64 (P : Int),.string dt,.bool wb,.bool ex],.int .i64 n] V fun e w'=>e = .returned (.string (LM.pageN ⟨pg,P,dt,wb,ex⟩ n)) /\ Below V.heap.size V w'):=fun n hn V=>pageOf_any ⟨pg,P,dt,wb,ex⟩ n V (by omega) (by show dt.size <= 100000;omega)
        clear hpb
        go_loopw [37,4] (fun i v wi=>∃ (n : Nat) (hs2 : List LM.Sh),n <= P /\ i = .int .i64 n /\ hs2.map LM.plain = (E ++ LM.sgsTo o ps k) ++ LM.pgsTo o ps ⟨pg,P,dt,wb,ex⟩ n /\ hs2.length <= a * 1600 + k * 255 + n /\ Rs w.heap.size wi v hs2 /\ Below w.heap.size w wi /\ Fr w1 rb wi v.ownBlock /\ Fr WA vb wi v.ownBlock) (fun i _ _=>P - (intOf i).toNat)
        case atStart=>exact ⟨0,hs',by omega,rfl,by rw [HM2.out];simp [LM.pgsTo],by omega,HRsA.out,HBA.out,HFA.out,by rw [HVE.out];exact Fr.refl _ _⟩
        case round =>
         obtain ⟨n,hs2,hn,rfl,hm3,hlen2,hrs,hb,hfr,hfs⟩:=hrel
         have HM3:=hideC hm3
         have HR3:=hideC hrs
         have HBi:=hideC hb
         have HFi:=hideC hfr
         have HFs:=hideC hfs
         have hbsz:=hb.size
         clear HRsA HBA HFA HVE HM2 hlen' hm3 hrs hb
         by_cases hnP : n < P
         · have BOi:=hideC (hfr.keep BO1.out HNE.out)
           have BSi:=hideC (hfs.keep BS.out HNS.out)
           have y6:=B.cell BOi.out 6 rfl
           have z0:=B.cell BSi.out 0 rfl
           have z1:=B.cell BSi.out 1 rfl
           have z2:=B.cell BSi.out 2 rfl
           have z3:=B.cell BSi.out 3 rfl
           have z4:=B.cell BSi.out 4 rfl
           have HPi:=hideC (HPN.out.fr hfr)
           have hpb:=HPB.out n hnP
           have HNP:=hideC (LM.pgsTo_succ o ps ⟨pg,P,dt,wb,ex⟩ n)
           have HG2:=hideC (HPG.out n hnP)
           have HFX : Hid (∀ V,Below wr.heap.size wr V -> Calls Tryz.prog 163 #[.int .i64 (o.base + pg + (n : Int)),.slice ap ps.length cp] V fun e w'=>(∃ v,e = .returned v /\ w'.ownsRow V.heap.size 52 2 v (LM.fixesN (o.base + pg + (n : Int)) ps).length ((LM.fixesN (o.base + pg + (n : Int)) ps).flatMap LM.cellF)) /\ Below V.heap.size V w'):=fun V hb=>fixesOf_any _ ps ap cp V hpb.1 hpb.2 (HPi.out.below hb) (by omega) HFPS.out
           have HSP : Hid (LM.pgN o ps ⟨pg,P,dt,wb,ex⟩ n = ⟨o.base + pg + (n : Int),LM.pageN ⟨pg,P,dt,wb,ex⟩ n,LM.fixesN (o.base + pg + (n : Int)) ps⟩):=rfl
           obtain ⟨F,hF⟩ : ∃ F,F = LM.fixesN (o.base + pg + (n : Int)) ps:=⟨_,rfl⟩
           obtain ⟨D,hD⟩ : ∃ D,D = LM.pageN ⟨pg,P,dt,wb,ex⟩ n:=⟨_,rfl⟩
           rw [<- hF] at HFX HSP
           rw [<- hD] at HG2 HSP
           have hl3 : hs2.length <= 100000:=by omega
           have hrow:=HR3.out.row.lt
           have HROW:=hideC hrow
           clear hF hD hfr hfs hrow
           obtain ⟨i0,hin,hz0,hz1,hz2⟩:=info_parts infoSh
           go_wp2_with (first
            | (go_at_call 162;refine (HG2.out _).mono ?_;rintro e w2 ⟨rfl,hb⟩;have HW2:=hideC hb;clear hb)
            | (go_at_call 163;refine (HFX.out _ HW2.out).mono ?_;rintro e w3 ⟨⟨v8,rfl,hrw⟩,hb⟩;obtain ⟨af,cf,hvf,hfn⟩:=row_fx hrw u4.ownBlock (fun q hq=>by have:=(HROW.out q hq).2;have:=HW2.out.size;omega);subst hvf;have HFN:=hideC hfn;have HW3:=hideC (HW2.out.trans (hb.mono HW2.out.size));have HA3:=hideC (HW3.out.alloc HW3.out.size (.cells #[.int .i64 (o.base + pg + (n : Int)),.string D,.slice af F.length cf] 50));have HR4:=hideC (HR3.out.below HA3.out);have HFN4:=hideC (HFN.out.below ((Below.refl w3.heap.size w3).alloc (Nat.le_refl _) (.cells #[.int .i64 (o.base + pg + (n : Int)),.string D,.slice af F.length cf] 50)));have HN3:=hideC (B.new w3 #[.int .i64 (o.base + pg + (n : Int)),.string D,.slice af F.length cf] 50);have hsz3 : w.heap.size <= w3.heap.size:=Nat.le_trans hbsz HW3.out.size;clear hb hrw hfn)
            | (at_builtin;refine wpList_append_lies _ rfl _ _ 22 rfl w.heap.size 50 i0 (.agg #[.int .i64 0,.string ⟨#[]⟩,.slice none 0 0]) 3 48 Tryz.underlying22 hin hz0 hz1 hz2 rfl (by decide) _ _ _ rfl HR4.out.row ⟨w3.heap.size,0,none⟩ 1 1 [.int .i64 (o.base + pg + (n : Int)),.string D,.slice af F.length cf] rfl rfl (B.news HN3.out) (by intro u hu;simp at hu;rcases hu with rfl | rfl | rfl <;> rfl) (by decide) (by unfold maxLen;omega) (by omega) (by simp;omega) (w3.heap.size + 1) (by simp) ?_;intro gg capg w4 hown4 hgrow hatt hlt4;have HOW4:=hideC hown4;have HGR:=hideC hgrow;have HAT:=hideC hatt;clear hown4 hgrow hatt))
           have hat4 : u4.ownBlock = some gg ∨ gg = (w3.alloc (.cells #[.int .i64 (o.base + pg + (n : Int)),.string D,.slice af F.length cf] 50)).heap.size:=by rw [World.size_alloc];exact HAT.out
           have HF4:=hideC ((Fr.ofBelow HA3.out u4.ownBlock).trans (Fr.ofGrown HGR.out HGR.out.size hat4))
           go_roundw
           case rel=>exact ⟨n + 1,hs2 ++ [⟨o.base + pg + (n : Int),D,F,af,cf⟩],by omega,by go_num,by rw [HNP.out,HSP.out,List.map_append,HM3.out,List.append_assoc];rfl,by rw [List.length_append];simp;omega,(Rs.more (x:=⟨o.base + pg + (n : Int),D,F,af,cf⟩) HR4.out.fix HFN4.out HOW4.out HGR.out HGR.out.size hat4),((HBi.out.trans (HA3.out.mono HBi.out.size)).grown HGR.out (by simp;omega) (fun q hq=>by have:=(HROW.out q hq).1;omega)),HFi.out.trans HF4.out,HFs.out.trans HF4.out⟩
           case measure=>simp [intOf];omega
         · obtain rfl : n = P:=by omega
           clear hfr hfs
           go_wp2
           go_roundw
           case rel=>exact ⟨k + 1,hs2,by omega,by go_num,by rw [HNX.out,HM3.out,List.append_assoc],by omega,HR3.out,HBi.out,HFi.out⟩
           case measure=>simp [intOf];omega
      · obtain rfl : k = o.i.segs.length:=by omega
        clear hmE hrs hb hfr
        go_wp2
        go_roundw
        case rel=>exact ⟨a + 1,_,hs',by omega,by go_num,HNXT.out,HM2.out,by omega,HR2.out,HBm.out⟩
        case measure=>simp [intOf];omega
  · obtain rfl : a = l.length:=by omega
    have HX : Hid (R = some E):=by rw [HR.out];exact HE.out
    obtain ⟨ah,ch,hv,hh,hc⟩:=HRS.out.has
    subst hv
    have HHH:=hideC hh
    clear hE hmE hrs hb hh
    go_wp2
    go_ret2
    show OutSh R w _ _
    rw [HX.out]
    exact ⟨HBr.out,hs,ah,ch,HME.out,rfl,HHH.out,hc⟩
end LW
end Go.Proofs.YtpgifpeohlllfaaGreat
